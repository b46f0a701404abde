/- The model's Apply: the operators to which errors and blanks come first. -/
import Derived.Test.YtnmpkdmflijhpaaGreatDoorApK
namespace Go.Proofs.YtnmpkdmflijhpaaGreatDoor
open Go Go.RowKit

def firstE (f : Nat → Vx) (m : Nat) : Option Vx := ((List.range m).map f).find? fun u => decide (u.k = 4)
theorem firstE_some {f : Nat → Vx} {m k : Nat} (hk : k < m) (h : ∀ j, j < k → ¬ (f j).k = 4) (h4 : (f k).k = 4) : firstE f m = some (f k) := by
  rw [firstE, List.find?_eq_some_iff_getElem]
  refine ⟨decide_eq_true h4, k, by simpa using hk, by simp, fun j hj => ?_⟩
  simpa using h j hj
theorem firstE_none {f : Nat → Vx} {m : Nat} (h : ∀ j, j < m → ¬ (f j).k = 4) : firstE f m = none := by
  rw [firstE, List.find?_eq_none]
  intro u hu
  obtain ⟨i, hi, rfl⟩ := List.mem_map.1 hu
  simpa using h i (List.mem_range.1 hi)
def anyB (f : Nat → Vx) (m : Nat) : Bool := (List.range m).any fun i => decide ((f i).k = 0)
theorem anyB_yes {f : Nat → Vx} {m k : Nat} (hk : k < m) (h : (f k).k = 0) : anyB f m = true := by
  rw [anyB, List.any_eq_true]
  exact ⟨k, List.mem_range.2 hk, decide_eq_true h⟩
theorem anyB_no {f : Nat → Vx} {m : Nat} (h : ∀ j, j < m → ¬ (f j).k = 0) : anyB f m = false := by
  rw [anyB, List.any_eq_false]
  exact fun i hi => by simpa using h i (List.mem_range.1 hi)
/-- Errors pass first, then blanks, then the kinds. -/
def plainX (f : Nat → Vx) (m : Nat) (R1 R3 R2 : Vx) : Vx :=
  match firstE f m with
  | some u => u
  | none => if anyB f m then blankX else if allK f m 1 then R1 else if allK f m 3 then R3 else if allK f m 2 then R2 else errX 1
section
variable {f : Nat → Vx} {m : Nat} {R1 R3 R2 : Vx}
theorem plain_1 (h : ∀ j, j < m → ¬ (f j).k = 4) (h' : ∀ j, j < m → ¬ (f j).k = 0) (k1 : allK f m 1 = true) : plainX f m R1 R3 R2 = R1 := by rw [plainX, firstE_none h, anyB_no h', k1]; rfl
theorem plain_3 (h : ∀ j, j < m → ¬ (f j).k = 4) (h' : ∀ j, j < m → ¬ (f j).k = 0) (k1 : allK f m 1 = false) (k3 : allK f m 3 = true) : plainX f m R1 R3 R2 = R3 := by rw [plainX, firstE_none h, anyB_no h', k1, k3]; rfl
theorem plain_2 (h : ∀ j, j < m → ¬ (f j).k = 4) (h' : ∀ j, j < m → ¬ (f j).k = 0) (k1 : allK f m 1 = false) (k3 : allK f m 3 = false) (k2 : allK f m 2 = true) : plainX f m R1 R3 R2 = R2 := by rw [plainX, firstE_none h, anyB_no h', k1, k3, k2]; rfl
theorem plain_err (h : ∀ j, j < m → ¬ (f j).k = 4) (h' : ∀ j, j < m → ¬ (f j).k = 0) (k1 : allK f m 1 = false) (k3 : allK f m 3 = false) (k2 : allK f m 2 = false) : plainX f m R1 R3 R2 = errX 1 := by rw [plainX, firstE_none h, anyB_no h', k1, k3, k2]; rfl
end
/-- A call that gives a value. -/
def Gv (F : FuncId) (op : Int) (a : Option Addr) (m c : Nat) (f : Nat → Vx) (R : Vx) : Prop := ∀ W, Vals W a m f → Calls Tryz.prog F #[.int .i64 op, .slice a m c] W fun e w' => e = .returned (vv R) ∧ Below W.heap.size W w'

set_option maxRecDepth 100000 in
set_option maxHeartbeats 16000000 in
theorem specApply_plain (op : Int) (a : Option Addr) (m c : Nat) (f : Nat → Vx) (w : World) (hm : 1 ≤ m ∧ m ≤ 3) (har : ar op = m) (hv : Vals w a m f) (hok : ∀ i, i < m → okVal (f i).k (f i).n (f i).s = true) (hs : ∀ i, i < m → (f i).s.size ≤ 9223372036854775807)
    (n25 : (op == 25) = false) (n16 : (op == 16) = false) (n19 : (op == 19) = false) (n24 : (op == 24) = false) (n14 : (op == 14) = false) (n15 : (op == 15) = false) (R1 R3 R2 : Vx)
    (h1 : allK f m 1 = true → Gv 19 op a m c f R1) (h3 : allK f m 3 = true → Gv 20 op a m c f R3) (h2 : allK f m 2 = true → Gv 21 op a m c f R2) :
    Calls Tryz.prog 5 #[.int .i64 op, .slice a m c] w fun e w' => e = .returned (vv (plainX f m R1 R3 R2)) ∧ Below w.heap.size w w' := by
  obtain ⟨hm1, hm3⟩ := hm
  have hm0 : ((m : Int) == 0) = false := beq_eq_false_iff_ne.2 (by omega)
  have HAR := hide har; have HOK := hide hok; have HSZ := hide hs; have H1 := hide h1; have H3 := hide h3; have H2 := hide h2
  clear har hok hs h1 h3 h2
  obtain ⟨W0, hW0⟩ : ∃ W0, w.alloc (.cells #[.int .i64 0, .int .i64 0, .string ⟨#[]⟩] 25) = W0 := ⟨_, rfl⟩
  have hb0 : Below w.heap.size w W0 := by rw [← hW0]; exact (Below.refl _ _).alloc (Nat.le_refl _) _
  have bR : Blk W0 w.heap.size 25 [.int .i64 0, .int .i64 0, .string ⟨#[]⟩] := by rw [← hW0]; exact Blk.new w 25 #[.int .i64 0, .int .i64 0, .string ⟨#[]⟩]
  have HV0 := hide (hv.mono hb0); have HR0 := hide bR; have HW0 := hide hb0
  clear hb0 bR hv
  go_enter Tryz.func5, Tryz.ntmps5
  go_wp2_with fail
  try rw [hW0]
  clear hW0
  refine (l2Arity_any op W0).mono ?_
  rintro e w1 ⟨rfl, hw⟩
  rw [hw, unhide HAR]
  clear hw w1
  go_wp2_with fail
  refine (l2Arity_any op W0).mono ?_
  rintro e w1 ⟨rfl, hw⟩
  rw [hw, unhide HAR]
  clear hw w1
  go_wp2
  go_loopw [5] (fun i wr => ∃ k : Nat, k ≤ m ∧ i = .int .i64 k ∧ Blk wr w.heap.size 25 [.int .i64 0, .int .i64 0, .string ⟨#[]⟩] ∧ Below w.heap.size w wr ∧ Vals wr a m f) (fun i _ => m - (intOf i).toNat)
  case atStart => exact ⟨0, Nat.zero_le _, rfl, unhide HR0, unhide HW0, unhide HV0⟩
  case round =>
    clear HR0 HW0 HV0
    obtain ⟨k, hk, rfl, hR, hW, hV⟩ := hrel
    have HR := hide hR; have HW := hide hW; have HV := hide hV
    clear hR hW hV
    by_cases hlt : k < m
    · have hlt' : (k : Int) < m := by omega
      obtain ⟨b, o, rfl, -, c0, c1, c2⟩ := unhide HV k hlt
      go_wp2_with fail
      refine (specValidV_any (f k).k (f k).n (f k).s wr (unhide HSZ k hlt)).mono ?_
      rintro e w2 ⟨rfl, hb⟩
      rw [unhide HOK k hlt]
      have HR9 := hide ((unhide HR).mono hb (unhide HR).lt); have HW9 := hide ((unhide HW).trans (hb.mono (unhide HW).size)); have HV9 := hide ((unhide HV).mono hb)
      clear hb c0 c1 c2
      go_wp2
      go_roundw
      case rel => exact ⟨k + 1, by omega, by go_num, unhide HR9, unhide HW9, unhide HV9⟩
      case measure => simp [intOf]; omega
    · obtain rfl : k = m := by omega
      obtain ⟨W, rfl⟩ : ∃ W, W = wr := ⟨_, rfl⟩
      have e1 : ¬ (k : Int) < k := by omega
      go_wp2
      go_loopw [6] (fun i wr => ∃ q : Nat, q ≤ k ∧ i = .int .i64 q ∧ (∀ j, j < q → ¬ (f j).k = 4) ∧ wr = W) (fun i _ => k - (intOf i).toNat)
      case atStart => exact ⟨0, Nat.zero_le _, rfl, fun j hj => absurd hj (Nat.not_lt_zero _), rfl⟩
      case round =>
        obtain ⟨q, hq, rfl, hne, rfl⟩ := hrel
        have HNE := hide hne
        clear hne
        by_cases hlq : q < k
        · have hlq' : (q : Int) < k := by omega
          obtain ⟨b, o, rfl, -, c0, c1, c2⟩ := unhide HV q hlq
          by_cases h4 : (f q).k = 4
          · have HP : Hid (plainX f k R1 R3 R2 = f q) := hide (by rw [plainX, firstE_some hlq (unhide HNE) h4])
            have h4' : ((f q).k == 4) = true := beq_iff_eq.2 h4
            clear h4
            obtain ⟨r0, r1, r2⟩ := three (unhide HR)
            have f0 := (unhide HR).free 0; have f1 := (unhide HR).free 1; have f2 := (unhide HR).free 2
            go_wp2
            exact bodyPost_ret (v := .agg #[.int .i64 (f q).k, .int .i64 (f q).n, .string (f q).s]) (by simp [results, Tryz.results5, go_sem, *]) rfl ⟨by rw [unhide HP]; rfl, vx_out (unhide HW) _ _ _⟩
          · have h4' : ((f q).k == 4) = false := beq_eq_false_iff_ne.2 h4
            have HS : Hid (∀ j, j < q + 1 → ¬ (f j).k = 4) := hide fun j hj => by
              by_cases e : j = q
              · rw [e]; exact h4
              · exact unhide HNE j (by omega)
            clear h4
            go_wp2
            go_roundw
            case rel => exact ⟨q + 1, by omega, by go_num, unhide HS, trivial⟩
            case measure => simp [intOf]; omega
        · obtain rfl : q = k := by omega
          obtain ⟨W, rfl⟩ : ∃ W, W = wr := ⟨_, rfl⟩
          go_wp2
          go_loopw [8] (fun i wr => ∃ r : Nat, r ≤ q ∧ i = .int .i64 r ∧ (∀ j, j < r → ¬ (f j).k = 0) ∧ wr = W) (fun i _ => q - (intOf i).toNat)
          case atStart => exact ⟨0, Nat.zero_le _, rfl, fun j hj => absurd hj (Nat.not_lt_zero _), rfl⟩
          case round =>
            obtain ⟨r, hr, rfl, hnb, rfl⟩ := hrel
            have HNB := hide hnb
            clear hnb
            by_cases hlr : r < q
            · have hlr' : (r : Int) < q := by omega
              obtain ⟨b, o, rfl, -, c0, c1, c2⟩ := unhide HV r hlr
              by_cases h4 : (f r).k = 0
              · have hpl : plainX f q R1 R3 R2 = blankX := by rw [plainX, firstE_none (unhide HNE), anyB_yes hlr h4]; rfl
                have HP := hide hpl
                have h4' : ((f r).k == 0) = true := beq_iff_eq.2 h4
                clear h4 hpl
                go_wp2_with fail
                refine (l2Blank_any wr).mono ?_
                rintro e w3 ⟨rfl, hb⟩
                have HR3 := hide ((unhide HR).mono hb (unhide HR).lt); have HW3 := hide ((unhide HW).trans (hb.mono (unhide HW).size))
                clear hb
                rw [show (Value.agg #[.int .i64 0, .int .i64 0, .string ⟨#[]⟩]) = vv blankX from rfl]
                obtain ⟨z, hz⟩ : ∃ z, blankX = z := ⟨_, rfl⟩
                have HZ : Hid (plainX f q R1 R3 R2 = z) := hide (by rw [← hz]; exact unhide HP)
                rw [hz]
                clear hz
                unfold vv
                obtain ⟨r0, r1, r2⟩ := three (unhide HR3)
                have f0 := (unhide HR3).free 0; have f1 := (unhide HR3).free 1; have f2 := (unhide HR3).free 2
                go_wp2
                exact bodyPost_ret (v := .agg #[.int .i64 z.k, .int .i64 z.n, .string z.s]) (by simp [results, Tryz.results5, go_sem, *]) rfl ⟨by rw [unhide HZ]; rfl, vx_out (unhide HW3) _ _ _⟩
              · have h4' : ((f r).k == 0) = false := beq_eq_false_iff_ne.2 h4
                have HS : Hid (∀ j, j < r + 1 → ¬ (f j).k = 0) := hide fun j hj => by
                  by_cases e : j = r
                  · rw [e]; exact h4
                  · exact unhide HNB j (by omega)
                clear h4
                go_wp2
                go_roundw
                case rel => exact ⟨r + 1, by omega, by go_num, unhide HS, trivial⟩
                case measure => simp [intOf]; omega
            · obtain rfl : r = q := by omega
              go_wp2_with fail
              refine (l2AllKind_any a r c f 1 wr (by omega) (unhide HV)).mono ?_
              rintro e w2 ⟨rfl, hw⟩
              rw [hw]
              clear hw w2
              cases k1 : allK f r 1 with
              | true =>
                go_wp2_with fail
                refine (unhide H1 k1 wr (unhide HV)).mono ?_
                rintro e w3 ⟨rfl, hb⟩
                have HR3 := hide ((unhide HR).mono hb (unhide HR).lt); have HW3 := hide ((unhide HW).trans (hb.mono (unhide HW).size))
                clear hb
                obtain ⟨z, hz⟩ : ∃ z, R1 = z := ⟨_, rfl⟩
                have HZ : Hid (plainX f r R1 R3 R2 = z) := hide (by rw [← hz]; exact plain_1 (unhide HNE) (unhide HNB) k1)
                rw [hz]
                clear hz
                unfold vv
                obtain ⟨r0, r1, r2⟩ := three (unhide HR3)
                have f0 := (unhide HR3).free 0; have f1 := (unhide HR3).free 1; have f2 := (unhide HR3).free 2
                go_wp2
                exact bodyPost_ret (v := .agg #[.int .i64 z.k, .int .i64 z.n, .string z.s]) (by simp [results, Tryz.results5, go_sem, *]) rfl ⟨by rw [unhide HZ]; rfl, vx_out (unhide HW3) _ _ _⟩
              | false =>
                go_wp2_with fail
                refine (l2AllKind_any a r c f 3 wr (by omega) (unhide HV)).mono ?_
                rintro e w2 ⟨rfl, hw⟩
                rw [hw]
                clear hw w2
                cases k3 : allK f r 3 with
                | true =>
                  go_wp2_with fail
                  refine (unhide H3 k3 wr (unhide HV)).mono ?_
                  rintro e w3 ⟨rfl, hb⟩
                  have HR3 := hide ((unhide HR).mono hb (unhide HR).lt); have HW3 := hide ((unhide HW).trans (hb.mono (unhide HW).size))
                  clear hb
                  obtain ⟨z, hz⟩ : ∃ z, R3 = z := ⟨_, rfl⟩
                  have HZ : Hid (plainX f r R1 R3 R2 = z) := hide (by rw [← hz]; exact plain_3 (unhide HNE) (unhide HNB) k1 k3)
                  rw [hz]
                  clear hz
                  unfold vv
                  obtain ⟨r0, r1, r2⟩ := three (unhide HR3)
                  have f0 := (unhide HR3).free 0; have f1 := (unhide HR3).free 1; have f2 := (unhide HR3).free 2
                  go_wp2
                  exact bodyPost_ret (v := .agg #[.int .i64 z.k, .int .i64 z.n, .string z.s]) (by simp [results, Tryz.results5, go_sem, *]) rfl ⟨by rw [unhide HZ]; rfl, vx_out (unhide HW3) _ _ _⟩
                | false =>
                  go_wp2_with fail
                  refine (l2AllKind_any a r c f 2 wr (by omega) (unhide HV)).mono ?_
                  rintro e w2 ⟨rfl, hw⟩
                  rw [hw]
                  clear hw w2
                  cases k2 : allK f r 2 with
                  | true =>
                    go_wp2_with fail
                    refine (unhide H2 k2 wr (unhide HV)).mono ?_
                    rintro e w3 ⟨rfl, hb⟩
                    have HR3 := hide ((unhide HR).mono hb (unhide HR).lt); have HW3 := hide ((unhide HW).trans (hb.mono (unhide HW).size))
                    clear hb
                    obtain ⟨z, hz⟩ : ∃ z, R2 = z := ⟨_, rfl⟩
                    have HZ : Hid (plainX f r R1 R3 R2 = z) := hide (by rw [← hz]; exact plain_2 (unhide HNE) (unhide HNB) k1 k3 k2)
                    rw [hz]
                    clear hz
                    unfold vv
                    obtain ⟨r0, r1, r2⟩ := three (unhide HR3)
                    have f0 := (unhide HR3).free 0; have f1 := (unhide HR3).free 1; have f2 := (unhide HR3).free 2
                    go_wp2
                    exact bodyPost_ret (v := .agg #[.int .i64 z.k, .int .i64 z.n, .string z.s]) (by simp [results, Tryz.results5, go_sem, *]) rfl ⟨by rw [unhide HZ]; rfl, vx_out (unhide HW3) _ _ _⟩
                  | false =>
                    go_wp2_with fail
                    refine (l2Err_any 1 wr).mono ?_
                    rintro e w3 ⟨rfl, hb⟩
                    have HR3 := hide ((unhide HR).mono hb (unhide HR).lt); have HW3 := hide ((unhide HW).trans (hb.mono (unhide HW).size))
                    clear hb
                    rw [show (Value.agg #[.int .i64 4, .int .i64 1, .string ⟨#[]⟩]) = vv (errX 1) from rfl]
                    obtain ⟨z, hz⟩ : ∃ z, errX 1 = z := ⟨_, rfl⟩
                    have HZ : Hid (plainX f r R1 R3 R2 = z) := hide (by rw [← hz]; exact plain_err (unhide HNE) (unhide HNB) k1 k3 k2)
                    rw [hz]
                    clear hz
                    unfold vv
                    obtain ⟨r0, r1, r2⟩ := three (unhide HR3)
                    have f0 := (unhide HR3).free 0; have f1 := (unhide HR3).free 1; have f2 := (unhide HR3).free 2
                    go_wp2
                    exact bodyPost_ret (v := .agg #[.int .i64 z.k, .int .i64 z.n, .string z.s]) (by simp [results, Tryz.results5, go_sem, *]) rfl ⟨by rw [unhide HZ]; rfl, vx_out (unhide HW3) _ _ _⟩
end Go.Proofs.YtnmpkdmflijhpaaGreatDoor
