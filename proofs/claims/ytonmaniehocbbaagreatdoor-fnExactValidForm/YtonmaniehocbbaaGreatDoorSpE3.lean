/- The model: the ends of an operator's arguments. -/
import Derived.Test.YtonmaniehocbbaaGreatDoorSpE2
namespace Go.Proofs.YtonmaniehocbbaaGreatDoor
open Go Go.RowKit

/-- The ends of the arguments of the operator that ends just behind n, the first argument first. -/
def argsOf (e : Nat → Nx) (n : Nat) : List Nat := ((stk e n).take (arn (e n))).reverse
theorem argsOf_len {e : Nat → Nx} {n : Nat} (h : arn (e n) ≤ (stk e n).length) : (argsOf e n).length = arn (e n) := by
  unfold argsOf; rw [List.length_reverse, List.length_take]; omega
theorem argsOf_mem {e : Nat → Nx} {n p : Nat} (h : p ∈ argsOf e n) : 1 ≤ p ∧ p ≤ n := by
  unfold argsOf at h
  have h := List.mem_of_mem_take (List.mem_reverse.1 h)
  obtain ⟨i, hi, rfl⟩ := List.mem_iff_getElem.1 h
  exact (arg_end e n i hi).2
theorem argsOf_map (e : Nat → Nx) (n : Nat) : (argsOf e n).map (top e) = ((pst e n).take (arn (e n))).reverse := by
  unfold argsOf; rw [List.map_reverse, List.map_take, ← pst_map]

set_option maxRecDepth 100000 in
set_option maxHeartbeats 8000000 in
theorem l3Args_any (a : Option Addr) (m c : Nat) (e : Nat → Nx) (n : Nat) (w : World) (hm : m ≤ 1000) (ha : Nods w a m e) (h2 : n + 1 ≤ m) (ho : stkOk e (n + 1)) :
    Calls Tryz.prog 84 #[.slice a m c, .int .i64 ((n + 1 : Nat) : Int)] w fun r w' => ∃ a0 c0, r = .returned (.slice a0 (arn (e n)) c0) ∧ Ints w' a0 (arn (e n)) (fun k => (((argsOf e n).getD k 0 : Nat) : Int)) ∧ Below w.heap.size w w' := by
  have HA := hide ha; have HO := hide ho
  have hal := ho n (by omega)
  have har := arn_le (e n)
  have hw0 : wrap64 (((n + 1 : Nat) : Int) - 1) = (n : Int) := by rw [wrap64_small (by omega) (by omega)]; omega
  have hnm : (n : Int) < m := by omega
  have HB0 : Hid (Below w.heap.size w (w.alloc (.cells #[] 3))) := hide ((Below.refl _ _).alloc (Nat.le_refl _) _)
  clear ha ho
  go_enter Tryz.func84, Tryz.ntmps84
  go_wp2_with fail
  go_loopw [5, 6, 7, 8, 9] (fun out at_ i _ _ wr => ∃ (k : Nat) (a0 : Option Addr) (c0 : Nat), k ≤ arn (e n) ∧ out = .slice a0 k c0 ∧ Ints wr a0 k (fun j => (((((stk e n).take k).reverse).getD j 0 : Nat) : Int)) ∧ at_ = .int .i64 (((stk e n).drop k).headD 0) ∧ i = .int .i64 k ∧ Below w.heap.size w wr) (fun _ _ i _ _ _ => arn (e n) - (intOf i).toNat)
  case atStart => exact ⟨0, _, _, Nat.zero_le _, rfl, fun j hj => absurd hj (Nat.not_lt_zero _), by rw [List.drop_zero, stk_head], rfl, unhide HB0⟩
  case round =>
    obtain ⟨k, a0, c0, hk, rfl, hI, rfl, rfl, hb⟩ := hrel
    have HB := hide hb; have HI := hide hI
    have HV := hide ((unhide HA).mono hb)
    clear hb hI HB0
    obtain ⟨b, o, rfl, -, z0, z1, z2, z3, z4⟩ := unhide HV n (by omega)
    go_wp2_with fail
    refine (l3NodeArity_any (e n) _).mono ?_
    rintro r w1 ⟨rfl, hb⟩
    replace HB := hide ((unhide HB).trans (hb.mono (unhide HB).size)); replace HV := hide ((unhide HV).mono hb); replace HI := hide ((unhide HI).mono hb)
    clear hb z0 z1 z2 z3 z4
    by_cases hlt : k < arn (e n)
    · have hlt' : (k : Int) < (arn (e n) : Int) := by omega
      have hkl : k < (stk e n).length := by omega
      rw [drop_headD _ _ hkl]
      obtain ⟨p, hp⟩ : ∃ p, (stk e n)[k] = p := ⟨_, rfl⟩
      have hae := arg_end e n k hkl
      have HG : Hid (beg e p = ((stk e n).drop (k + 1)).headD 0) := hide (by rw [← hp]; exact beg_arg e n k hkl)
      have HL : Hid (((stk e n).take (k + 1)).reverse = p :: ((stk e n).take k).reverse) := hide (by rw [List.take_succ_eq_append_getElem hkl, List.reverse_append, hp]; rfl)
      have hlen : (((stk e n).take k).reverse).length = k := by rw [List.length_reverse, List.length_take]; omega
      obtain ⟨l, hl⟩ : ∃ l, ((stk e n).take k).reverse = l := ⟨_, rfl⟩
      rw [hl] at HL HI hlen
      rw [hp] at hae ⊢
      obtain ⟨-, hp1, hpn⟩ := hae
      clear hp hl
      obtain ⟨Wo, rfl⟩ : ∃ Wo, Wo = w1 := ⟨_, rfl⟩
      have HN0 := hide (owns_one Wo 3 (.int .i64 (p : Int)))
      have HB1 : Hid (Below Wo.heap.size Wo (Wo.alloc (.cells #[.int .i64 (p : Int)] 3))) := hide ((Below.refl _ _).alloc (Nat.le_refl _) _)
      go_wp2_with fail
      go_loopw [8, 9] (fun nx j w2 => ∃ q : Nat, q ≤ k ∧ j = .int .i64 q ∧ w2.ownsRow Wo.heap.size 3 1 nx (q + 1) (ui (p :: l.take q)) ∧ Below Wo.heap.size Wo w2) (fun _ j _ => k - (intOf j).toNat)
      case atStart => exact ⟨0, Nat.zero_le _, rfl, unhide HN0, unhide HB1⟩
      case round =>
        clear HN0 HB1
        obtain ⟨q, hq, rfl, hO, hb1⟩ := hrel
        have HO1 := hide hO; have HB1 := hide hb1
        have HI2 := hide ((unhide HI).mono hb1)
        clear hO hb1
        by_cases hlq : q < k
        · have hlq' : (q : Int) < k := by omega
          obtain ⟨b1, o1, rfl, -, hc⟩ := unhide HI2 q hlq
          have HX : Hid (l.take (q + 1) = l.take q ++ [l.getD q 0]) := hide (by rw [List.take_succ_eq_append_getElem (by omega), List.getD_eq_getElem?_getD, List.getElem?_eq_getElem (by omega)]; rfl)
          obtain ⟨y, hy⟩ : ∃ y, l.getD q 0 = y := ⟨_, rfl⟩
          simp only [hy] at hc
          rw [hy] at HX
          clear hy
          obtain ⟨i0, hi, hz0, hz1, hz2⟩ := info_parts infoI
          go_wp2_with (at_builtin; refine wpList_append_own _ rfl _ _ 50 rfl Wo.heap.size 3 i0 _ 1 8 Tryz.underlying50 hi hz0 hz1 hz2 rfl (by omega) _ _ _ rfl ((unhide HO1).alloc _) ⟨wr.heap.size, 0, none⟩ 1 1 [.int .i64 (y : Int)] rfl rfl (cell_one wr 3 _) (by simp [Value.oneCell']) (by unfold maxLen; omega) (by omega) (by have := (unhide HB1).size; simp; omega) ?_)
          intro v' w3 ho' hgr' _
          have hB2 := ((unhide HB1).alloc (unhide HB1).size (.cells #[.int .i64 (y : Int)] 3)).grown hgr' (by have := (unhide HB1).size; simp; omega) (fun q' e => owns_block (unhide HO1) e)
          have HO2 : Hid (w3.ownsRow Wo.heap.size 3 1 v' (q + 1 + 1) (ui (p :: l.take (q + 1)))) := hide (by rw [unhide HX]; simpa [ui] using ho')
          have HB2 := hide hB2
          clear ho' hgr' hB2 hi hz0 hz1 hz2 HO1 HB1 hc
          go_wp2_with fail
          go_roundw
          case rel => exact ⟨q + 1, by omega, by go_num, unhide HO2, unhide HB2⟩
          case measure => simp [intOf]; omega
        · obtain rfl : q = k := by omega
          have hI3 := unhide HO1
          rw [List.take_of_length_le (by omega)] at hI3
          obtain ⟨a1, c1, rfl, hI4⟩ := ints_of_owns hI3
          rw [← unhide HL] at hI4
          have HI4 := hide hI4
          have HB2 := hide ((unhide HB).trans ((unhide HB1).mono (unhide HB).size)); have HV2 := hide ((unhide HV).mono (unhide HB1))
          clear hI3 hI4 HO1 HB1 HI2
          go_wp2_with fail
          refine (l3Start_any _ m c e p _ hm (unhide HV2) hp1 (by omega) ((unhide HO).le (by omega))).mono ?_
          rintro r w4 ⟨rfl, hb⟩
          replace HB2 := hide ((unhide HB2).trans (hb.mono (unhide HB2).size)); replace HI4 := hide ((unhide HI4).mono hb)
          clear hb
          go_wp2_with fail
          go_roundw
          case rel => first | exact ⟨q + 1, _, _, by omega, rfl, unhide HI4, by rw [unhide HG], by go_num, unhide HB2⟩ | ((repeat apply Exists.intro); exact ⟨⟨q + 1, _, _, by omega, rfl, unhide HI4, by rw [unhide HG], by go_num, unhide HB2⟩, rfl⟩)
          case measure => simp [intOf]; omega
    · obtain rfl : k = arn (e n) := by omega
      have hlt' : ¬ ((arn (e n) : Nat) : Int) < (arn (e n) : Int) := by omega
      go_wp2_with fail
      go_ret
      exact ⟨_, _, rfl, unhide HI, unhide HB⟩
end Go.Proofs.YtonmaniehocbbaaGreatDoor
