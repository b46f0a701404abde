/- The model's exact integers: products of digits. -/
import Derived.Test.YtnmpkdmflijhpaaGreatDoorBig2
namespace Go.Proofs.YtnmpkdmflijhpaaGreatDoor
open Go Go.RowKit

theorem dval_zeros (k : Nat) : dval (List.replicate k 0) = 0 := by
  induction k with
  | zero => rfl
  | succ k ih => rw [List.replicate_succ]; simp [dval, ih]
theorem dig_zeros (k : Nat) : Dig (List.replicate k 0) := fun d hd => by
  rw [(List.mem_replicate.1 hd).2]; decide
theorem row_step {L i j c s n x y : Nat} (h : L + c * 10 ^ (i + j) = 10 ^ i * (n % 10 ^ j) * y) (hx : x = n / 10 ^ j % 10) (hs : s = x * y + c) : (L + 10 ^ (i + j) * (s % 10)) + (s / 10) * 10 ^ (i + (j + 1)) = 10 ^ i * (n % 10 ^ (j + 1)) * y := by
  have h2 := mul_step h hs
  rw [mod_step, ← hx, Nat.mul_add, ← Nat.mul_assoc, ← Nat.pow_add, show i + (j + 1) = i + j + 1 by omega, Nat.pow_succ (n := 10) (m := i + j)]
  exact h2

set_option maxRecDepth 100000 in
set_option maxHeartbeats 8000000 in
theorem l2MagMul_any (v u : Value) (l m : List Nat) (w : World) (hv : DigS w v l) (hu : DigS w u m) (hl : Dig l) (hm : Dig m) (bl : l.length ≤ 200) (bm : m.length ≤ 200) :
    Calls Tryz.prog 51 #[v, u] w fun e w' => ∃ r, e = .returned r ∧ DigS w' r (digs (dval l * dval m)) ∧ Below w.heap.size w w' := by
  have HB0 : Hid (Below w.heap.size w (w.alloc (.cells #[] 3))) := (Below.refl _ _).alloc (Nat.le_refl _) _
  have HO0 : Hid (DigS (w.alloc (.cells #[] 3)) (.slice (some ⟨w.heap.size, 0, none⟩) 0 0) (digs (dval l * (dval m % 10 ^ 0)))) := hide (by
    rw [Nat.pow_zero, Nat.mod_one, Nat.mul_zero, digs_zero]
    exact digS_of_owns (us := []) (owns_none w 3))
  obtain ⟨a, ca, rfl, -, -, hA⟩ := id hv
  obtain ⟨b, cb, rfl, -, -, hB⟩ := id hu
  have HV := hide hv; have HU := hide hu; clear hv hu hA hB
  obtain ⟨nl, hnl⟩ : ∃ nl, l.length = nl := ⟨_, rfl⟩
  obtain ⟨nm, hnm⟩ : ∃ nm, m.length = nm := ⟨_, rfl⟩
  rw [hnl] at bl HV ⊢; rw [hnm] at bm HU ⊢
  have HNL := hide hnl; have HNM := hide hnm
  clear hnl hnm
  have HL := hide hl; have HM := hide hm
  clear hl hm
  go_enter Tryz.func51, Tryz.ntmps51
  go_wp2_with fail
  go_loopw [5, 6, 7, 8, 9, 10, 11] (fun out i _ _ _ _ _ wr => ∃ k : Nat, k ≤ nm ∧ i = .int .i64 k ∧ DigS wr out (digs (dval l * (dval m % 10 ^ k))) ∧ Below w.heap.size w wr) (fun _ i _ _ _ _ _ _ => nm - (intOf i).toNat)
  case atStart => exact ⟨0, by omega, rfl, unhide HO0, unhide HB0⟩
  case round =>
    clear HB0 HO0
    obtain ⟨k, hk, rfl, hout, hb⟩ := hrel
    have HOut := hide hout; have HB := hide hb
    clear hout hb
    obtain ⟨Wo, rfl⟩ : ∃ Wo, Wo = wr := ⟨_, rfl⟩
    by_cases hlt : k < nm
    · have hlt' : (k : Int) < nm := by omega
      have VR := hide ((unhide HV).mono (unhide HB)); have UR := hide ((unhide HU).mono (unhide HB))
      have HR0 := hide (owns_none Wo 3)
      have HB1 : Hid (Below Wo.heap.size Wo (Wo.alloc (.cells #[] 3))) := hide ((Below.refl _ _).alloc (Nat.le_refl _) _)
      go_wp2
      go_loopw [7, 8] (fun row z w1 => ∃ q : Nat, q ≤ k ∧ z = .int .i64 q ∧ w1.ownsRow Wo.heap.size 3 1 row q (ui (List.replicate q 0)) ∧ Below Wo.heap.size Wo w1) (fun _ z _ => k - (intOf z).toNat)
      case atStart => exact ⟨0, by omega, rfl, unhide HR0, unhide HB1⟩
      case round =>
        clear HR0 HB1
        obtain ⟨q, hq, rfl, hO, hb1⟩ := hrel
        have HO := hide hO; have HB1 := hide hb1
        clear hO hb1
        by_cases hlq : q < k
        · have hlq' : (q : Int) < k := by omega
          obtain ⟨i0, hi, hz0, hz1, hz2⟩ := info_parts infoI
          go_wp2_with (at_builtin; refine wpList_append_own _ rfl _ _ 44 rfl Wo.heap.size 3 i0 _ 1 8 Tryz.underlying44 hi hz0 hz1 hz2 rfl (by omega) _ _ _ rfl ((unhide HO).alloc _) ⟨wr.heap.size, 0, none⟩ 1 1 [.int .i64 0] rfl rfl (cell_one wr 3 _) (by simp [Value.oneCell']) (by unfold maxLen; omega) (by omega) (by have := (unhide HB1).size; simp; omega) ?_)
          intro v' w2 ho' hgr' _
          have hB2 := ((unhide HB1).alloc (unhide HB1).size (.cells #[.int .i64 0] 3)).grown hgr' (by have := (unhide HB1).size; simp; omega) (fun q' e => owns_block (unhide HO) e)
          have HO2 : Hid (w2.ownsRow Wo.heap.size 3 1 v' (q + 1) (ui (List.replicate (q + 1) 0))) := hide (by rw [List.replicate_succ']; simpa [ui] using ho')
          have HB2 := hide hB2
          clear ho' hgr' hB2 hi hz0 hz1 hz2 HO HB1
          go_wp2
          go_roundw
          case rel => exact ⟨q + 1, by omega, by go_num, unhide HO2, unhide HB2⟩
          case measure => simp [intOf]; omega
        · obtain rfl : q = k := by omega
          obtain ⟨y, hy⟩ : ∃ y, m.getD q 0 = y := ⟨_, rfl⟩
          have hy10 : y < 10 := by rw [← hy]; exact (unhide HM).getD q
          have HYY := hide hy
          clear hy
          go_wp2
          go_loopw [7, 9, 10, 11] (fun row c j _ w1 => ∃ (r cc : Nat) (o : List Nat), r ≤ nl ∧ j = .int .i64 r ∧ c = .int .i64 cc ∧ cc ≤ 9 ∧ o.length = q + r ∧ Dig o ∧ dval o + cc * 10 ^ (q + r) = 10 ^ q * (dval l % 10 ^ r) * y ∧ w1.ownsRow Wo.heap.size 3 1 row (q + r) (ui o) ∧ Below Wo.heap.size Wo w1) (fun _ _ j _ _ => nl - (intOf j).toNat)
          case atStart => exact ⟨0, 0, List.replicate q 0, by omega, rfl, rfl, by omega, by simp, dig_zeros q, by rw [dval_zeros]; simp [Nat.mod_one], unhide HO, unhide HB1⟩
          case round =>
            clear HO HB1
            obtain ⟨r, cc, o, hr, rfl, rfl, hcc, hol, hod, hval, hO, hb1⟩ := hrel
            have HO := hide hO; have HB1 := hide hb1; have HOL := hide hol; have HOD := hide hod; have HVAL := hide hval
            clear hO hb1 hol hod hval
            by_cases hlr : r < nl
            · have hlr' : (r : Int) < nl := by omega
              obtain ⟨x, hx⟩ : ∃ x, l.getD r 0 = x := ⟨_, rfl⟩
              have hx10 : x < 10 := by rw [← hx]; exact (unhide HL).getD r
              have HXX := hide hx
              clear hx
              obtain ⟨ba, oa, ea, -, cA⟩ : ∃ ba oa, a = some ⟨ba, oa, none⟩ ∧ ba < wr.heap.size ∧ wr.cell? ⟨ba, oa + r, none⟩ = some (.int .i64 x) := by
                obtain ⟨a', ca', e, -, -, hI⟩ := (unhide VR).mono (unhide HB1)
                cases e
                obtain ⟨ba, oa, e1, e2, e3⟩ := hI r (by have := unhide HNL; omega)
                exact ⟨ba, oa, e1, e2, by dsimp only at e3; rwa [unhide HXX] at e3⟩
              obtain ⟨bb, ob, eb, -, cB⟩ : ∃ bb ob, b = some ⟨bb, ob, none⟩ ∧ bb < wr.heap.size ∧ wr.cell? ⟨bb, ob + q, none⟩ = some (.int .i64 y) := by
                obtain ⟨a', ca', e, -, -, hI⟩ := (unhide UR).mono (unhide HB1)
                cases e
                obtain ⟨ba, oa, e1, e2, e3⟩ := hI q (by have := unhide HNM; omega)
                exact ⟨ba, oa, e1, e2, by dsimp only at e3; rwa [unhide HYY] at e3⟩
              cases ea; cases eb
              have hxy : x * y ≤ 81 := Nat.mul_le_mul (show x ≤ 9 by omega) (show y ≤ 9 by omega)
              obtain ⟨P, hP⟩ : ∃ P, x * y = P := ⟨_, rfl⟩
              have hP2 : (x : Int) * y = P := by rw [← hP]; simp
              have HPP := hide hP
              rw [hP] at hxy
              clear hP
              obtain ⟨i0, hi, hz0, hz1, hz2⟩ := info_parts infoI
              go_wp2
              go_quiet (fail)
              obtain ⟨wq, hwq⟩ : ∃ wq, wr.drewN nq = wq := ⟨_, rfl⟩
              have HOq : Hid (wq.ownsRow Wo.heap.size 3 1 u7 (q + r) (ui o)) := hide (by rw [← hwq]; exact unhide HO)
              have HBq : Hid (Below Wo.heap.size Wo wq) := hide (by rw [← hwq]; exact (unhide HB1).trans ((below_drewN' wr nq).mono (unhide HB1).size))
              rw [hwq]
              clear hwq HO HB1 cA cB
              have hs9 : (P + cc) / 10 ≤ 9 := by omega
              go_wp2_with (at_builtin; refine wpList_append_own _ rfl _ _ 44 rfl Wo.heap.size 3 i0 _ 1 8 Tryz.underlying44 hi hz0 hz1 hz2 rfl (by omega) _ _ _ rfl ((unhide HOq).alloc _) ⟨wq.heap.size, 0, none⟩ 1 1 [.int .i64 (((P : Int) + cc) % 10)] rfl rfl (cell_one wq 3 _) (by simp [Value.oneCell']) (by unfold maxLen; omega) (by omega) (by have := (unhide HBq).size; simp; omega) ?_)
              intro v' w2 ho' hgr' _
              have hB2 := ((unhide HBq).alloc (unhide HBq).size (.cells #[.int .i64 (((P : Int) + cc) % 10)] 3)).grown hgr' (by have := (unhide HBq).size; simp; omega) (fun q' e => owns_block (unhide HOq) e)
              have HO2 : Hid (w2.ownsRow Wo.heap.size 3 1 v' (q + (r + 1)) (ui (o ++ [(P + cc) % 10]))) := hide (by rw [show q + (r + 1) = q + r + 1 by omega]; simpa [ui] using ho')
              have HB2 := hide hB2
              clear ho' hgr' hB2 hi hz0 hz1 hz2 HOq HBq
              go_wp2
              go_roundw
              case rel =>
                refine ⟨r + 1, (P + cc) / 10, o ++ [(P + cc) % 10], by omega, by go_num, by go_num, hs9, ?_, ?_, ?_, unhide HO2, unhide HB2⟩
                · have := unhide HOL; simp [this]; omega
                · exact (unhide HOD).snoc (by omega)
                · rw [dval_snoc, unhide HOL]
                  exact row_step (unhide HVAL) (by rw [← dig_at (unhide HL), unhide HXX]) (by rw [unhide HPP])
              case measure => simp [intOf]; omega
            · obtain rfl : r = nl := by omega
              have hv1 := unhide HVAL
              rw [mod_all (unhide HL) (Nat.le_of_eq (unhide HNL))] at hv1
              obtain ⟨i0, hi, hz0, hz1, hz2⟩ := info_parts infoI
              have HV1 := hide hv1
              clear hv1
              go_wp2_with (at_builtin; refine wpList_append_own _ rfl _ _ 44 rfl Wo.heap.size 3 i0 _ 1 8 Tryz.underlying44 hi hz0 hz1 hz2 rfl (by omega) _ _ _ rfl ((unhide HO).alloc _) ⟨wr.heap.size, 0, none⟩ 1 1 [.int .i64 (cc : Int)] rfl rfl (cell_one wr 3 _) (by simp [Value.oneCell']) (by unfold maxLen; omega) (by omega) (by have := (unhide HB1).size; simp; omega) ?_)
              intro v' w2 ho' hgr' _
              have hB2 := ((unhide HB1).alloc (unhide HB1).size (.cells #[.int .i64 (cc : Int)] 3)).grown hgr' (by have := (unhide HB1).size; simp; omega) (fun q' e => owns_block (unhide HO) e)
              have hO2 : w2.ownsRow Wo.heap.size 3 1 v' (o ++ [cc]).length (ui (o ++ [cc])) := by have := unhide HOL; rw [List.length_append, this]; simpa [ui] using ho'
              have HR2 := hide (digS_of_owns hO2)
              have HOut2 := hide ((unhide HOut).mono hB2)
              have HB2 := hide hB2
              have hdr : Dig (o ++ [cc]) := (unhide HOD).snoc (by omega)
              have hvr : dval (o ++ [cc]) = 10 ^ q * dval l * y := by rw [dval_snoc, unhide HOL, Nat.mul_comm (10 ^ (q + r)) cc]; exact unhide HV1
              have hlr2 : (o ++ [cc]).length ≤ 500 := by have := unhide HOL; simp; omega
              have hlo : (digs (dval l * (dval m % 10 ^ q))).length ≤ 500 := by
                refine Nat.le_trans (digs_length_le (k := r + q) ?_) (by omega)
                rw [Nat.pow_add]
                exact Nat.mul_lt_mul'' (by have := dval_lt (unhide HL); rwa [unhide HNL] at this) (Nat.mod_lt _ (Nat.pow_pos (by decide)))
              have HF := hide (And.intro hdr (And.intro hvr (And.intro hlr2 hlo)))
              clear ho' hgr' hB2 hi hz0 hz1 hz2 hO2 hdr hvr hlr2 hlo HO HB1 HOut
              go_wp2_with fail
              refine (l2MagAdd_any _ _ _ _ w2 (unhide HOut2) (unhide HR2) (dig_digs _) (unhide HF).1 (unhide HF).2.2.2 (unhide HF).2.2.1).mono ?_
              rintro e w3 ⟨rr, rfl, hrr, hb3⟩
              have HB3 := hide ((unhide HB).trans (((unhide HB2).trans (hb3.mono (unhide HB2).size)).mono (unhide HB).size))
              have HRR : Hid (DigS w3 rr (digs (dval l * (dval m % 10 ^ (q + 1))))) := hide (by
                rw [dval_digs, (unhide HF).2.1] at hrr
                rw [mod_step, ← dig_at (unhide HM), unhide HYY, Nat.mul_add, ← Nat.mul_assoc, Nat.mul_comm (dval l) (10 ^ q)]
                exact hrr)
              clear hrr hb3
              go_wp2
              go_roundw
              case rel => exact ⟨q + 1, by omega, by go_num, unhide HRR, unhide HB3⟩
              case measure => simp [intOf]; omega
    · obtain rfl : k = nm := by omega
      rw [mod_all (unhide HM) (Nat.le_of_eq (unhide HNM))] at HOut
      go_wp2
      go_ret
      exact ⟨_, rfl, unhide HOut, unhide HB⟩
end Go.Proofs.YtnmpkdmflijhpaaGreatDoor
