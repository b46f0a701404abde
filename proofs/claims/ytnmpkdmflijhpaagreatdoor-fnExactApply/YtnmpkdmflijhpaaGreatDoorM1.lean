import Derived.Test.YtnmpkdmflijhpaaGreatDoorApW
import Derived.Test.YtnmpkdmflijhpaaGreatDoorPaF
import Derived.Test.YtnmpkdmflijhpaaGreatDoorPaL
import Derived.Test.YtnmpkdmflijhpaaGreatDoorPaO
import Derived.Test.YtnmpkdmflijhpaaGreatDoorMk
import Derived.Test.YtnmpkdmflijhpaaGreatDoorTextL
import Derived.Lib.IndexMore
import Derived.Lib.Bytealg
import Derived.Test.YtnmpkdmflijhpaaGreatDoorHand
import Derived.Test.YtnmpkdmflijhpaaGreatDoorBnd
/- The program's Apply: kinds and validity of arguments. -/
namespace Go.Proofs.YtnmpkdmflijhpaaGreatDoor
open Go Go.RowKit

set_option maxRecDepth 100000 in
set_option maxHeartbeats 4000000 in
theorem areOfKind_any (a : Option Addr) (m c : Nat) (f : Nat → Vx) (kind : Int) (w : World) (hm : m ≤ 1048576) (ha : Vals w a m f) :
    Calls Tryz.prog 94 #[.slice a m c, .int .i64 kind] w fun e w' => e = .returned (.bool (allK f m kind)) ∧ Below w.heap.size w w' := by
  have HA := hide ha
  clear ha
  go_enter Tryz.func94, Tryz.ntmps94
  go_wp2
  go_loopw [9] (fun i wr => ∃ k : Nat, k ≤ m ∧ i = .int .i64 k ∧ (∀ j, j < k → (f j).k = kind) ∧ Vals wr a m f ∧ Below w.heap.size w wr) (fun i _ => m - (intOf i).toNat)
  case atStart => exact ⟨0, Nat.zero_le _, rfl, fun j hj => absurd hj (Nat.not_lt_zero _), unhide HA, Below.refl _ _⟩
  case round =>
    obtain ⟨k, hk, rfl, hall, hv, hb⟩ := hrel
    have HALL := hide hall; have HV := hide hv; have HB := hide hb
    clear hall hv hb
    by_cases hlt : k < m
    · have hlt' : (k : Int) < m := by omega
      obtain ⟨b, o, rfl, -, c0, c1, c2⟩ := unhide HV k hlt
      have HB1 : ∀ x, Hid (Below wr.heap.size wr (wr.alloc x)) := fun x => hide ((Below.refl _ _).alloc (Nat.le_refl _) _)
      have HB2 : ∀ x, Hid (Below w.heap.size w (wr.alloc x)) := fun x => hide ((unhide HB).alloc (unhide HB).size x)
      by_cases hq : (f k).k = kind
      · have HS : Hid (∀ j, j < k + 1 → (f j).k = kind) := hide fun j hj => by
          by_cases e : j = k
          · rw [e]; exact hq
          · exact unhide HALL j (by omega)
        have hq' : ((f k).k == kind) = true := beq_iff_eq.2 hq
        clear hq
        go_wp2
        go_roundw
        case rel => exact ⟨k + 1, by omega, by go_num, unhide HS, (unhide HV).mono (unhide (HB1 _)), unhide (HB2 _)⟩
        case measure => simp [intOf]; omega
      · have HN := hide (allK_no hlt hq)
        have hq' : ((f k).k == kind) = false := beq_eq_false_iff_ne.2 hq
        clear hq
        go_wp2
        go_ret
        exact ⟨by rw [unhide HN]; rfl, unhide (HB2 _)⟩
    · obtain rfl : k = m := by omega
      have HY := hide (allK_yes (unhide HALL))
      go_wp2
      go_ret
      exact ⟨by rw [unhide HY]; rfl, unhide HB⟩
set_option maxRecDepth 100000 in
set_option maxHeartbeats 4000000 in
theorem areInts_any (a : Option Addr) (m c : Nat) (f : Nat → Vx) (w : World) (hm : m ≤ 1048576) (ha : Vals w a m f) :
    Calls Tryz.prog 60 #[.slice a m c] w fun e w' => e = .returned (.bool (allK f m 1)) ∧ Below w.heap.size w w' := by
  have HA := hide ha
  clear ha
  go_enter Tryz.func60, Tryz.ntmps60
  go_wp2_with fail
  refine (areOfKind_any a m c f 1 w hm (unhide HA)).mono ?_
  rintro e w1 ⟨rfl, hb⟩
  have HB := hide hb
  clear hb
  go_wp2
  go_ret
  exact ⟨rfl, unhide HB⟩
set_option maxRecDepth 100000 in
set_option maxHeartbeats 4000000 in
theorem areBools_any (a : Option Addr) (m c : Nat) (f : Nat → Vx) (w : World) (hm : m ≤ 1048576) (ha : Vals w a m f) :
    Calls Tryz.prog 62 #[.slice a m c] w fun e w' => e = .returned (.bool (allK f m 2)) ∧ Below w.heap.size w w' := by
  have HA := hide ha
  clear ha
  go_enter Tryz.func62, Tryz.ntmps62
  go_wp2_with fail
  refine (areOfKind_any a m c f 2 w hm (unhide HA)).mono ?_
  rintro e w1 ⟨rfl, hb⟩
  have HB := hide hb
  clear hb
  go_wp2
  go_ret
  exact ⟨rfl, unhide HB⟩
set_option maxRecDepth 100000 in
set_option maxHeartbeats 4000000 in
theorem areTexts_any (a : Option Addr) (m c : Nat) (f : Nat → Vx) (w : World) (hm : m ≤ 1048576) (ha : Vals w a m f) :
    Calls Tryz.prog 69 #[.slice a m c] w fun e w' => e = .returned (.bool (allK f m 3)) ∧ Below w.heap.size w w' := by
  have HA := hide ha
  clear ha
  go_enter Tryz.func69, Tryz.ntmps69
  go_wp2_with fail
  refine (areOfKind_any a m c f 3 w hm (unhide HA)).mono ?_
  rintro e w1 ⟨rfl, hb⟩
  have HB := hide hb
  clear hb
  go_wp2
  go_ret
  exact ⟨rfl, unhide HB⟩
set_option maxRecDepth 100000 in
set_option maxHeartbeats 4000000 in
theorem areAlike_any (a : Option Addr) (m c : Nat) (f : Nat → Vx) (w : World) (hm : m ≤ 1048576) (ha : Vals w a m f) :
    Calls Tryz.prog 71 #[.slice a m c] w fun e w' => e = .returned (.bool (allK f m 1 || allK f m 2 || allK f m 3)) ∧ Below w.heap.size w w' := by
  have HA := hide ha
  clear ha
  go_enter Tryz.func71, Tryz.ntmps71
  go_wp2_with fail
  refine (areInts_any a m c f w hm (unhide HA)).mono ?_
  rintro e w1 ⟨rfl, hb⟩
  have HB1 := hide hb
  have HA1 := hide ((unhide HA).mono hb)
  clear hb
  cases k1 : allK f m 1 with
  | true =>
    go_wp2
    go_ret
    exact ⟨by simp [k1], unhide HB1⟩
  | false =>
    go_wp2_with fail
    refine (areBools_any a m c f w1 hm (unhide HA1)).mono ?_
    rintro e w2 ⟨rfl, hb⟩
    have HB2 := hide ((unhide HB1).trans (hb.mono (unhide HB1).size))
    have HA2 := hide ((unhide HA1).mono hb)
    clear hb
    cases k2 : allK f m 2 with
    | true =>
      go_wp2
      go_ret
      exact ⟨by simp [k1, k2], unhide HB2⟩
    | false =>
      go_wp2_with fail
      refine (areTexts_any a m c f w2 hm (unhide HA2)).mono ?_
      rintro e w3 ⟨rfl, hb⟩
      have HB3 := hide ((unhide HB2).trans (hb.mono (unhide HB2).size))
      have HA3 := hide ((unhide HA2).mono hb)
      clear hb
      cases k3 : allK f m 3 with
      | true =>
        go_wp2
        go_ret
        exact ⟨by simp [k1, k2, k3], unhide HB3⟩
      | false =>
        go_wp2
        go_ret
        exact ⟨by simp [k1, k2, k3], unhide HB3⟩
set_option maxRecDepth 100000 in
set_option maxHeartbeats 4000000 in
theorem areInOneOrder_any (a : Option Addr) (m c : Nat) (f : Nat → Vx) (w : World) (hm : m ≤ 1048576) (ha : Vals w a m f) :
    Calls Tryz.prog 74 #[.slice a m c] w fun e w' => e = .returned (.bool (allK f m 1 || allK f m 3)) ∧ Below w.heap.size w w' := by
  have HA := hide ha
  clear ha
  go_enter Tryz.func74, Tryz.ntmps74
  go_wp2_with fail
  refine (areInts_any a m c f w hm (unhide HA)).mono ?_
  rintro e w1 ⟨rfl, hb⟩
  have HB1 := hide hb
  have HA1 := hide ((unhide HA).mono hb)
  clear hb
  cases k1 : allK f m 1 with
  | true =>
    go_wp2
    go_ret
    exact ⟨by simp [k1], unhide HB1⟩
  | false =>
    go_wp2_with fail
    refine (areTexts_any a m c f w1 hm (unhide HA1)).mono ?_
    rintro e w2 ⟨rfl, hb⟩
    have HB2 := hide ((unhide HB1).trans (hb.mono (unhide HB1).size))
    have HA2 := hide ((unhide HA1).mono hb)
    clear hb
    cases k2 : allK f m 3 with
    | true =>
      go_wp2
      go_ret
      exact ⟨by simp [k1, k2], unhide HB2⟩
    | false =>
      go_wp2
      go_ret
      exact ⟨by simp [k1, k2], unhide HB2⟩
set_option maxRecDepth 100000 in
set_option maxHeartbeats 4000000 in
theorem allValid_any (a : Option Addr) (m c : Nat) (f : Nat → Vx) (hs : ∀ i, i < m → (f i).s.size ≤ 9223372036854775807) (w : World) (hm : m ≤ 1048576) (ha : Vals w a m f) :
    Calls Tryz.prog 25 #[.slice a m c] w fun e w' => e = .returned (.bool (allOk f m)) ∧ Below w.heap.size w w' := by
  have HA := hide ha
  clear ha
  have HSZ := hide hs
  clear hs
  go_enter Tryz.func25, Tryz.ntmps25
  go_wp2
  go_loopw [7] (fun i wr => ∃ k : Nat, k ≤ m ∧ i = .int .i64 k ∧ (∀ j, j < k → okVal (f j).k (f j).n (f j).s = true) ∧ Vals wr a m f ∧ Below w.heap.size w wr) (fun i _ => m - (intOf i).toNat)
  case atStart => exact ⟨0, Nat.zero_le _, rfl, fun j hj => absurd hj (Nat.not_lt_zero _), unhide HA, Below.refl _ _⟩
  case round =>
    obtain ⟨k, hk, rfl, hall, hv, hb⟩ := hrel
    have HALL := hide hall; have HV := hide hv; have HB := hide hb
    clear hall hv hb
    by_cases hlt : k < m
    · have hlt' : (k : Int) < m := by omega
      obtain ⟨b, o, rfl, -, c0, c1, c2⟩ := unhide HV k hlt
      have HB1 : ∀ x, Hid (Below wr.heap.size wr (wr.alloc x)) := fun x => hide ((Below.refl _ _).alloc (Nat.le_refl _) _)
      have HB2 : ∀ x, Hid (Below w.heap.size w (wr.alloc x)) := fun x => hide ((unhide HB).alloc (unhide HB).size x)
      cases hok : okVal (f k).k (f k).n (f k).s with
      | true =>
        have HS : Hid (∀ j, j < k + 1 → okVal (f j).k (f j).n (f j).s = true) := hide fun j hj => by
          by_cases e : j = k
          · rw [e]; exact hok
          · exact unhide HALL j (by omega)
        go_wp2_with fail
        refine (implValidV_any (f k).k (f k).n (f k).s _ (unhide HSZ k hlt)).mono ?_
        rintro e w2 ⟨rfl, hb⟩
        rw [hok]
        have HV9 := hide (((unhide HV).mono (unhide (HB1 _))).mono hb); have HB9 := hide ((unhide (HB2 _)).trans (hb.mono (unhide (HB2 _)).size))
        clear hb
        go_wp2
        go_roundw
        case rel => exact ⟨k + 1, by omega, by go_num, unhide HS, unhide HV9, unhide HB9⟩
        case measure => simp [intOf]; omega
      | false =>
        have HN : Hid (allOk f m = false) := hide (by
          cases e : allOk f m with
          | false => rfl
          | true => have := allOk_iff.1 e k hlt; rw [hok] at this; cases this)
        go_wp2_with fail
        refine (implValidV_any (f k).k (f k).n (f k).s _ (unhide HSZ k hlt)).mono ?_
        rintro e w2 ⟨rfl, hb⟩
        rw [hok]
        have HB9 := hide ((unhide (HB2 _)).trans (hb.mono (unhide (HB2 _)).size))
        clear hb
        go_wp2
        go_ret
        exact ⟨by rw [unhide HN]; rfl, unhide HB9⟩
    · obtain rfl : k = m := by omega
      have HY := hide (allOk_iff.2 (unhide HALL))
      go_wp2
      go_ret
      exact ⟨by rw [unhide HY]; rfl, unhide HB⟩
end Go.Proofs.YtnmpkdmflijhpaaGreatDoor

/- The program's Apply: what it refuses, and how it goes on. -/
namespace Go.Proofs.YtnmpkdmflijhpaaGreatDoor
open Go Go.RowKit

theorem Blk.val {W : World} {b : Nat} (h : Blk W b 25 [.int .i64 0, .int .i64 0, .string ⟨#[]⟩]) : (W.cell? ⟨b, 0, none⟩ = some (.int .i64 0) ∧ W.cell? ⟨b, 1, none⟩ = some (.int .i64 0) ∧ W.cell? ⟨b, 2, none⟩ = some (.string ⟨#[]⟩)) ∧ (W.frozen? ⟨b, 0, none⟩ = false ∧ W.frozen? ⟨b, 1, none⟩ = false ∧ W.frozen? ⟨b, 2, none⟩ = false) := ⟨three h, h.free 0, h.free 1, h.free 2⟩

set_option maxRecDepth 100000 in
set_option maxHeartbeats 4000000 in
theorem implApply_no1 (op : Int) (a : Option Addr) (m c : Nat) (w : World) (hop : ¬ (2 ≤ op ∧ op ≤ 25)) :
    Calls Tryz.prog 7 #[.int .i64 op, .slice a m c] w fun e w' => e = .returned (vv (errX 1)) ∧ Below w.heap.size w w' := by
  obtain ⟨W, hW⟩ : ∃ W, w.alloc (.cells #[.int .i64 0, .int .i64 0, .string ⟨#[]⟩] 25) = W := ⟨_, rfl⟩
  have hb : Below w.heap.size w W := by rw [← hW]; exact (Below.refl _ _).alloc (Nat.le_refl _) _
  have bR : Blk W w.heap.size 25 [.int .i64 0, .int .i64 0, .string ⟨#[]⟩] := by rw [← hW]; exact Blk.new w 25 #[.int .i64 0, .int .i64 0, .string ⟨#[]⟩]
  have HB := hide hb; have HR := hide bR; have HW := hide hW
  clear hb bR hW
  go_enter Tryz.func7, Tryz.ntmps7
  go_wp2_with fail
  try rw [unhide HW]
  clear HW
  refine (isOperator_any op W).mono ?_
  rintro e w1 ⟨rfl, hw⟩
  rw [hw, decide_eq_false hop]
  clear hw w1 hop
  go_wp2_with fail
  refine (errValue_any 1 W).mono ?_
  rintro e w1 ⟨rfl, hb⟩
  replace HR := hide ((unhide HR).mono hb (unhide HR).lt); replace HB := hide ((unhide HB).trans (hb.mono (unhide HB).size))
  clear hb
  obtain ⟨⟨r0, r1, r2⟩, f0, f1, f2⟩ := (unhide HR).val
  unfold vv errX
  go_wp2
  exact bodyPost_ret (v := .agg #[.int .i64 4, .int .i64 1, .string ⟨#[]⟩]) (by simp [results, Tryz.results7, go_sem, *]) rfl ⟨rfl, vx_out (unhide HB) _ _ _⟩

set_option maxRecDepth 100000 in
set_option maxHeartbeats 4000000 in
theorem implApply_no2 (op : Int) (a : Option Addr) (m c : Nat) (w : World) (hop : 2 ≤ op ∧ op ≤ 25) (hm : ¬ (m : Int) = opn op) :
    Calls Tryz.prog 7 #[.int .i64 op, .slice a m c] w fun e w' => e = .returned (vv (errX 1)) ∧ Below w.heap.size w w' := by
  obtain ⟨W, hW⟩ : ∃ W, w.alloc (.cells #[.int .i64 0, .int .i64 0, .string ⟨#[]⟩] 25) = W := ⟨_, rfl⟩
  have hb : Below w.heap.size w W := by rw [← hW]; exact (Below.refl _ _).alloc (Nat.le_refl _) _
  have bR : Blk W w.heap.size 25 [.int .i64 0, .int .i64 0, .string ⟨#[]⟩] := by rw [← hW]; exact Blk.new w 25 #[.int .i64 0, .int .i64 0, .string ⟨#[]⟩]
  have HB := hide hb; have HR := hide bR; have HW := hide hW; have HOP := hide hop
  clear hb bR hW hop
  obtain ⟨y, hy⟩ : ∃ y, opn op = y := ⟨_, rfl⟩
  rw [hy] at hm
  have HY := hide hy
  clear hy
  go_enter Tryz.func7, Tryz.ntmps7
  go_wp2_with fail
  try rw [unhide HW]
  clear HW
  refine (isOperator_any op W).mono ?_
  rintro e w1 ⟨rfl, hw⟩
  rw [hw, decide_eq_true (unhide HOP)]
  clear hw w1
  go_wp2_with fail
  refine (operandsOf_any op W).mono ?_
  rw [unhide HY]
  rintro e w1 ⟨rfl, hw⟩
  rw [hw]
  clear hw w1
  go_wp2_with fail
  refine (errValue_any 1 W).mono ?_
  rintro e w1 ⟨rfl, hb⟩
  replace HR := hide ((unhide HR).mono hb (unhide HR).lt); replace HB := hide ((unhide HB).trans (hb.mono (unhide HB).size))
  clear hb
  obtain ⟨⟨r0, r1, r2⟩, f0, f1, f2⟩ := (unhide HR).val
  unfold vv errX
  go_wp2
  exact bodyPost_ret (v := .agg #[.int .i64 4, .int .i64 1, .string ⟨#[]⟩]) (by simp [results, Tryz.results7, go_sem, *]) rfl ⟨rfl, vx_out (unhide HB) _ _ _⟩

set_option maxRecDepth 100000 in
set_option maxHeartbeats 4000000 in
theorem implApply_no3 (op : Int) (a : Option Addr) (m c : Nat) (f : Nat → Vx) (w : World) (hm9 : m ≤ 1048576) (hv : Vals w a m f) (hs : ∀ i, i < m → (f i).s.size ≤ 9223372036854775807) (hop : 2 ≤ op ∧ op ≤ 25) (hm : (m : Int) = opn op) (hno : allOk f m = false) :
    Calls Tryz.prog 7 #[.int .i64 op, .slice a m c] w fun e w' => e = .returned (vv (errX 1)) ∧ Below w.heap.size w w' := by
  obtain ⟨W, hW⟩ : ∃ W, w.alloc (.cells #[.int .i64 0, .int .i64 0, .string ⟨#[]⟩] 25) = W := ⟨_, rfl⟩
  have hb : Below w.heap.size w W := by rw [← hW]; exact (Below.refl _ _).alloc (Nat.le_refl _) _
  have bR : Blk W w.heap.size 25 [.int .i64 0, .int .i64 0, .string ⟨#[]⟩] := by rw [← hW]; exact Blk.new w 25 #[.int .i64 0, .int .i64 0, .string ⟨#[]⟩]
  have HB := hide hb; have HR := hide bR; have HW := hide hW; have HOP := hide hop; have HV := hide (hv.mono hb); have HS := hide hs; have HNO := hide hno
  clear hb bR hW hop hv hs hno
  have HY := hide hm.symm
  clear hm
  go_enter Tryz.func7, Tryz.ntmps7
  go_wp2_with fail
  try rw [unhide HW]
  clear HW
  refine (isOperator_any op W).mono ?_
  rintro e w1 ⟨rfl, hw⟩
  rw [hw, decide_eq_true (unhide HOP)]
  clear hw w1
  go_wp2_with fail
  refine (operandsOf_any op W).mono ?_
  rw [unhide HY]
  rintro e w1 ⟨rfl, hw⟩
  rw [hw]
  clear hw w1
  go_wp2_with fail
  refine (allValid_any a m c f (unhide HS) W hm9 (unhide HV)).mono ?_
  rw [unhide HNO]
  rintro e w1 ⟨rfl, hb⟩
  replace HR := hide ((unhide HR).mono hb (unhide HR).lt); replace HB := hide ((unhide HB).trans (hb.mono (unhide HB).size))
  clear hb
  go_wp2_with fail
  refine (errValue_any 1 w1).mono ?_
  rintro e w2 ⟨rfl, hb⟩
  replace HR := hide ((unhide HR).mono hb (unhide HR).lt); replace HB := hide ((unhide HB).trans (hb.mono (unhide HB).size))
  clear hb
  obtain ⟨⟨r0, r1, r2⟩, f0, f1, f2⟩ := (unhide HR).val
  unfold vv errX
  go_wp2
  exact bodyPost_ret (v := .agg #[.int .i64 4, .int .i64 1, .string ⟨#[]⟩]) (by simp [results, Tryz.results7, go_sem, *]) rfl ⟨rfl, vx_out (unhide HB) _ _ _⟩

/-- How an operator goes on, when the arguments are valid. -/
def stepX (op : Int) (m : Nat) (f : Nat → Vx) (A : Bool) (R : Vx) : Vx :=
  match (if mE op then none else firstE f m) with
  | some u => u
  | none => if !mB op && anyB f m then blankX else if A then R else errX 1
theorem step_err {op : Int} {m k : Nat} {f : Nat → Vx} {A : Bool} {R : Vx} (hE : mE op = false) (hk : k < m) (h : ∀ j, j < k → ¬ (f j).k = 4) (h4 : (f k).k = 4) : stepX op m f A R = f k := by
  unfold stepX
  rw [hE, if_neg (by decide), firstE_some hk h h4]
theorem step_go {op : Int} {m : Nat} {f : Nat → Vx} {A : Bool} {R : Vx} (h : mE op = false → ∀ j, j < m → ¬ (f j).k = 4) : stepX op m f A R = if !mB op && anyB f m then blankX else if A then R else errX 1 := by
  unfold stepX
  cases hE : mE op
  · rw [if_neg (by decide), firstE_none (h hE)]
  · rw [if_pos rfl]
/-- The call of a function by its number is entered. -/
def Ent (k : FuncId) : Prop := ∀ (args : Array Value) (w : World), (callFunc k args).run Tryz.prog w = .ok (.enter k args) w

section
variable {ops : Array Oper} {rest : List Oper} {o : Oper} {a : Act} {w : World} {Q : Exit → Act → World → Prop}
end

set_option maxRecDepth 100000 in
set_option maxHeartbeats 8000000 in
theorem operate_end (n k1 k2 : Nat) (a : Option Addr) (m c : Nat) (f : Nat → Vx) (A : Bool) (R : Vx) (w : World) (hm9 : m ≤ 1048576) (hv : Vals w a m f) (hop : 2 ≤ n ∧ n ≤ 25)
    (hE : opT[n * 2]? = some (.func (.func k1) #[] #[]) ∧ opT[n * 2 + 1]? = some (.func (.func k2) #[] #[])) (e1 : Ent k1) (e2 : Ent k2)
    (hAsk : ∀ W, Below w.heap.size w W → Calls Tryz.prog k1 #[.slice a m c] W fun e w' => e = .returned (.bool A) ∧ Below W.heap.size W w')
    (hDo : (mE n = false → ∀ j, j < m → ¬ (f j).k = 4) → (mB n = false → ∀ j, j < m → ¬ (f j).k = 0) → A = true → ∀ W, Below w.heap.size w W → Calls Tryz.prog k2 #[.slice a m c] W fun e w' => e = .returned (vv R) ∧ Below W.heap.size W w') :
    Calls Tryz.prog 27 #[.int .i64 n, .slice a m c] w fun e w' => e = .returned (vv (stepX n m f A R)) ∧ Below w.heap.size w w' := by
  obtain ⟨u, hu⟩ : ∃ u, stepX n m f A R = u := ⟨_, rfl⟩
  rw [hu]
  have HU := hide hu
  clear hu
  obtain ⟨W, hW⟩ : ∃ W, w.alloc (.cells #[.int .i64 0, .int .i64 0, .string ⟨#[]⟩] 25) = W := ⟨_, rfl⟩
  have hb : Below w.heap.size w W := by rw [← hW]; exact (Below.refl _ _).alloc (Nat.le_refl _) _
  have bR : Blk W w.heap.size 25 [.int .i64 0, .int .i64 0, .string ⟨#[]⟩] := by rw [← hW]; exact Blk.new w 25 #[.int .i64 0, .int .i64 0, .string ⟨#[]⟩]
  have HB := hide hb; have HR := hide bR; have HW := hide hW; have HOP := hide hop; have HV := hide (hv.mono hb); have HEE := hide hE; have HASK := hide hAsk; have HDO := hide hDo; have HE1 := hide e1; have HE2 := hide e2
  clear hb bR hW hop hv hE hAsk hDo e1 e2
  go_enter Tryz.func27, Tryz.ntmps27
  go_wp2_with fail
  try rw [unhide HW]
  clear HW
  refine (meetsErrors_any n W).mono ?_
  rintro e w2 ⟨rfl, hw⟩
  rw [hw]
  clear hw w2
  cases hE : mE n
  · have HME := hide hE
    clear hE
    go_wp2_with fail
    refine (firstOfKind_any a m c f 4 W hm9 (unhide HV)).mono ?_
    rintro e w2 ⟨r, rfl, hr, hb⟩
    replace HR := hide ((unhide HR).mono hb (unhide HR).lt); replace HB := hide ((unhide HB).trans (hb.mono (unhide HB).size)); replace HV := hide ((unhide HV).mono hb)
    clear hb
    rcases hr with ⟨k, hk, rfl, he, hno⟩ | ⟨rfl, hno⟩
    · have HX : Hid (u = f k) := hide ((unhide HU).symm.trans (step_err (unhide HME) hk hno he))
      have hk' : (k : Int) < m := by omega
      clear he hno
      obtain ⟨b, o, rfl, -, c0, c1, c2⟩ := unhide HV k hk
      obtain ⟨⟨r0, r1, r2⟩, f0, f1, f2⟩ := (unhide HR).val
      skip
      go_wp2
      exact bodyPost_ret (v := .agg #[.int .i64 (f k).k, .int .i64 (f k).n, .string (f k).s]) (by simp [results, Tryz.results27, go_sem, *]) rfl ⟨by rw [unhide HX]; rfl, vx_out (unhide HB) _ _ _⟩
    · have HNO : Hid (mE n = false → ∀ j, j < m → ¬ (f j).k = 4) := hide (fun _ => hno)
      clear hno
      go_wp2_with fail
      refine (meetsBlanks_any n w2).mono ?_
      rintro e w3 ⟨rfl, hw⟩
      rw [hw]
      clear hw w3
      cases hB : mB n
      · have HMB := hide hB
        clear hB
        go_wp2_with fail
        refine (firstOfKind_any a m c f 0 w2 hm9 (unhide HV)).mono ?_
        rintro e w3 ⟨r, rfl, hr, hb⟩
        replace HR := hide ((unhide HR).mono hb (unhide HR).lt); replace HB := hide ((unhide HB).trans (hb.mono (unhide HB).size)); replace HV := hide ((unhide HV).mono hb)
        clear hb
        rcases hr with ⟨k, hk, rfl, he, -⟩ | ⟨rfl, hnb⟩
        · have HX : Hid (u = blankX) := hide (by rw [← unhide HU, step_go (unhide HNO), unhide HMB, anyB_yes hk he]; rfl)
          clear he
          go_wp2_with fail
          refine (blankValue_any w3).mono ?_
          rintro e w4 ⟨rfl, hb⟩
          replace HR := hide ((unhide HR).mono hb (unhide HR).lt); replace HB := hide ((unhide HB).trans (hb.mono (unhide HB).size)); replace HV := hide ((unhide HV).mono hb)
          clear hb
          obtain ⟨⟨r0, r1, r2⟩, f0, f1, f2⟩ := (unhide HR).val
          skip
          go_wp2
          exact bodyPost_ret (v := .agg #[.int .i64 0, .int .i64 0, .string ⟨#[]⟩]) (by simp [results, Tryz.results27, go_sem, *]) rfl ⟨by rw [unhide HX]; rfl, vx_out (unhide HB) _ _ _⟩
        · have HNB : Hid (mB n = false → ∀ j, j < m → ¬ (f j).k = 0) := hide (fun _ => hnb)
          have HAB := hide (anyB_no hnb)
          clear hnb
          go_wp2_with fail
          refine (operatorOf_any n k1 k2 (unhide HOP).2 (unhide HEE) w3).mono ?_
          rintro e w5 ⟨rfl, hb⟩
          replace HR := hide ((unhide HR).mono hb (unhide HR).lt); replace HB := hide ((unhide HB).trans (hb.mono (unhide HB).size)); replace HV := hide ((unhide HV).mono hb)
          clear hb
          go_wp2_with (refine wpList_store_op k1 k2 rfl _ _ rfl w5.heap.size [.nilFunc, .nilFunc] rfl rfl rfl (Blk.new w5 60 #[.nilFunc, .nilFunc]) ?_)
          intro w6 hb6 hg6 hs6
          have hba : Below w5.heap.size w5 (w5.alloc (.cells #[.nilFunc, .nilFunc] 60)) := (Below.refl _ _).alloc (Nat.le_refl _) _
          have hb : Below w5.heap.size w5 w6 := hba.grown hg6 (by simp) (fun k e => by have := Option.some.inj e; omega)
          clear hba hg6 hs6
          have HO := hide hb6
          clear hb6
          replace HR := hide ((unhide HR).mono hb (unhide HR).lt); replace HB := hide ((unhide HB).trans (hb.mono (unhide HB).size)); replace HV := hide ((unhide HV).mono hb)
          clear hb
          obtain ⟨q0, q1⟩ : w6.cell? ⟨w5.heap.size, 0, none⟩ = some (.func (.func k1) #[] #[]) ∧ w6.cell? ⟨w5.heap.size, 1, none⟩ = some (.func (.func k2) #[] #[]) := ⟨(unhide HO).cell 0, (unhide HO).cell 1⟩
          have e1 : ∀ (args : Array Value) (w : World), (callFunc k1 args).run Tryz.prog w = .ok (.enter k1 args) w := unhide HE1
          go_wp2_with fail
          refine (unhide HASK w6 (unhide HB)).mono ?_
          rintro e w7 ⟨rfl, hb⟩
          replace HO := hide ((unhide HO).mono hb (unhide HO).lt)
          replace HR := hide ((unhide HR).mono hb (unhide HR).lt); replace HB := hide ((unhide HB).trans (hb.mono (unhide HB).size)); replace HV := hide ((unhide HV).mono hb)
          clear hb
          clear q0 q1 e1
          obtain ⟨q0, q1⟩ : w7.cell? ⟨w5.heap.size, 0, none⟩ = some (.func (.func k1) #[] #[]) ∧ w7.cell? ⟨w5.heap.size, 1, none⟩ = some (.func (.func k2) #[] #[]) := ⟨(unhide HO).cell 0, (unhide HO).cell 1⟩
          cases A
          · have HX : Hid (u = errX 1) := hide (by rw [← unhide HU, step_go (unhide HNO), unhide HMB, unhide HAB]; rfl)
            go_wp2_with fail
            refine (errValue_any 1 w7).mono ?_
            rintro e w8 ⟨rfl, hb⟩
            replace HR := hide ((unhide HR).mono hb (unhide HR).lt); replace HB := hide ((unhide HB).trans (hb.mono (unhide HB).size)); replace HV := hide ((unhide HV).mono hb)
            clear hb
            clear q0 q1
            obtain ⟨⟨r0, r1, r2⟩, f0, f1, f2⟩ := (unhide HR).val
            unfold vv errX
            go_wp2
            exact bodyPost_ret (v := .agg #[.int .i64 4, .int .i64 1, .string ⟨#[]⟩]) (by simp [results, Tryz.results27, go_sem, *]) rfl ⟨by rw [unhide HX]; rfl, vx_out (unhide HB) _ _ _⟩
          · have HX : Hid (u = R) := hide (by rw [← unhide HU, step_go (unhide HNO), unhide HMB, unhide HAB]; rfl)
            have e2 : ∀ (args : Array Value) (w : World), (callFunc k2 args).run Tryz.prog w = .ok (.enter k2 args) w := unhide HE2
            go_wp2_with fail
            refine (unhide HDO (unhide HNO) (unhide HNB) (by trivial) w7 (unhide HB)).mono ?_
            rintro e w8 ⟨rfl, hb⟩
            replace HR := hide ((unhide HR).mono hb (unhide HR).lt); replace HB := hide ((unhide HB).trans (hb.mono (unhide HB).size)); replace HV := hide ((unhide HV).mono hb)
            clear hb
            clear q0 q1 e2
            obtain ⟨⟨r0, r1, r2⟩, f0, f1, f2⟩ := (unhide HR).val
            unfold vv
            go_wp2
            exact bodyPost_ret (v := .agg #[.int .i64 R.k, .int .i64 R.n, .string R.s]) (by simp [results, Tryz.results27, go_sem, *]) rfl ⟨by rw [unhide HX]; rfl, vx_out (unhide HB) _ _ _⟩
      · have HMB := hide hB
        have HNB : Hid (mB n = false → ∀ j, j < m → ¬ (f j).k = 0) := hide (fun h => by rw [hB] at h; cases h)
        clear hB
        go_wp2_with fail
        refine (operatorOf_any n k1 k2 (unhide HOP).2 (unhide HEE) w2).mono ?_
        rintro e w5 ⟨rfl, hb⟩
        replace HR := hide ((unhide HR).mono hb (unhide HR).lt); replace HB := hide ((unhide HB).trans (hb.mono (unhide HB).size)); replace HV := hide ((unhide HV).mono hb)
        clear hb
        go_wp2_with (refine wpList_store_op k1 k2 rfl _ _ rfl w5.heap.size [.nilFunc, .nilFunc] rfl rfl rfl (Blk.new w5 60 #[.nilFunc, .nilFunc]) ?_)
        intro w6 hb6 hg6 hs6
        have hba : Below w5.heap.size w5 (w5.alloc (.cells #[.nilFunc, .nilFunc] 60)) := (Below.refl _ _).alloc (Nat.le_refl _) _
        have hb : Below w5.heap.size w5 w6 := hba.grown hg6 (by simp) (fun k e => by have := Option.some.inj e; omega)
        clear hba hg6 hs6
        have HO := hide hb6
        clear hb6
        replace HR := hide ((unhide HR).mono hb (unhide HR).lt); replace HB := hide ((unhide HB).trans (hb.mono (unhide HB).size)); replace HV := hide ((unhide HV).mono hb)
        clear hb
        obtain ⟨q0, q1⟩ : w6.cell? ⟨w5.heap.size, 0, none⟩ = some (.func (.func k1) #[] #[]) ∧ w6.cell? ⟨w5.heap.size, 1, none⟩ = some (.func (.func k2) #[] #[]) := ⟨(unhide HO).cell 0, (unhide HO).cell 1⟩
        have e1 : ∀ (args : Array Value) (w : World), (callFunc k1 args).run Tryz.prog w = .ok (.enter k1 args) w := unhide HE1
        go_wp2_with fail
        refine (unhide HASK w6 (unhide HB)).mono ?_
        rintro e w7 ⟨rfl, hb⟩
        replace HO := hide ((unhide HO).mono hb (unhide HO).lt)
        replace HR := hide ((unhide HR).mono hb (unhide HR).lt); replace HB := hide ((unhide HB).trans (hb.mono (unhide HB).size)); replace HV := hide ((unhide HV).mono hb)
        clear hb
        clear q0 q1 e1
        obtain ⟨q0, q1⟩ : w7.cell? ⟨w5.heap.size, 0, none⟩ = some (.func (.func k1) #[] #[]) ∧ w7.cell? ⟨w5.heap.size, 1, none⟩ = some (.func (.func k2) #[] #[]) := ⟨(unhide HO).cell 0, (unhide HO).cell 1⟩
        cases A
        · have HX : Hid (u = errX 1) := hide (by rw [← unhide HU, step_go (unhide HNO), unhide HMB]; rfl)
          go_wp2_with fail
          refine (errValue_any 1 w7).mono ?_
          rintro e w8 ⟨rfl, hb⟩
          replace HR := hide ((unhide HR).mono hb (unhide HR).lt); replace HB := hide ((unhide HB).trans (hb.mono (unhide HB).size)); replace HV := hide ((unhide HV).mono hb)
          clear hb
          clear q0 q1
          obtain ⟨⟨r0, r1, r2⟩, f0, f1, f2⟩ := (unhide HR).val
          unfold vv errX
          go_wp2
          exact bodyPost_ret (v := .agg #[.int .i64 4, .int .i64 1, .string ⟨#[]⟩]) (by simp [results, Tryz.results27, go_sem, *]) rfl ⟨by rw [unhide HX]; rfl, vx_out (unhide HB) _ _ _⟩
        · have HX : Hid (u = R) := hide (by rw [← unhide HU, step_go (unhide HNO), unhide HMB]; rfl)
          have e2 : ∀ (args : Array Value) (w : World), (callFunc k2 args).run Tryz.prog w = .ok (.enter k2 args) w := unhide HE2
          go_wp2_with fail
          refine (unhide HDO (unhide HNO) (unhide HNB) (by trivial) w7 (unhide HB)).mono ?_
          rintro e w8 ⟨rfl, hb⟩
          replace HR := hide ((unhide HR).mono hb (unhide HR).lt); replace HB := hide ((unhide HB).trans (hb.mono (unhide HB).size)); replace HV := hide ((unhide HV).mono hb)
          clear hb
          clear q0 q1 e2
          obtain ⟨⟨r0, r1, r2⟩, f0, f1, f2⟩ := (unhide HR).val
          unfold vv
          go_wp2
          exact bodyPost_ret (v := .agg #[.int .i64 R.k, .int .i64 R.n, .string R.s]) (by simp [results, Tryz.results27, go_sem, *]) rfl ⟨by rw [unhide HX]; rfl, vx_out (unhide HB) _ _ _⟩
  · have hB : mB n = true := by unfold mB; rw [hE]; rfl
    have HNO : Hid (mE n = false → ∀ j, j < m → ¬ (f j).k = 4) := hide (fun h => by rw [hE] at h; cases h)
    have HNB : Hid (mB n = false → ∀ j, j < m → ¬ (f j).k = 0) := hide (fun h => by rw [hB] at h; cases h)
    have HMB := hide hB
    clear hE hB
    go_wp2_with fail
    refine (meetsBlanks_any n W).mono ?_
    rw [unhide HMB]
    rintro e w3 ⟨rfl, hw⟩
    rw [hw]
    clear hw w3
    go_wp2_with fail
    refine (operatorOf_any n k1 k2 (unhide HOP).2 (unhide HEE) W).mono ?_
    rintro e w5 ⟨rfl, hb⟩
    replace HR := hide ((unhide HR).mono hb (unhide HR).lt); replace HB := hide ((unhide HB).trans (hb.mono (unhide HB).size)); replace HV := hide ((unhide HV).mono hb)
    clear hb
    go_wp2_with (refine wpList_store_op k1 k2 rfl _ _ rfl w5.heap.size [.nilFunc, .nilFunc] rfl rfl rfl (Blk.new w5 60 #[.nilFunc, .nilFunc]) ?_)
    intro w6 hb6 hg6 hs6
    have hba : Below w5.heap.size w5 (w5.alloc (.cells #[.nilFunc, .nilFunc] 60)) := (Below.refl _ _).alloc (Nat.le_refl _) _
    have hb : Below w5.heap.size w5 w6 := hba.grown hg6 (by simp) (fun k e => by have := Option.some.inj e; omega)
    clear hba hg6 hs6
    have HO := hide hb6
    clear hb6
    replace HR := hide ((unhide HR).mono hb (unhide HR).lt); replace HB := hide ((unhide HB).trans (hb.mono (unhide HB).size)); replace HV := hide ((unhide HV).mono hb)
    clear hb
    obtain ⟨q0, q1⟩ : w6.cell? ⟨w5.heap.size, 0, none⟩ = some (.func (.func k1) #[] #[]) ∧ w6.cell? ⟨w5.heap.size, 1, none⟩ = some (.func (.func k2) #[] #[]) := ⟨(unhide HO).cell 0, (unhide HO).cell 1⟩
    have e1 : ∀ (args : Array Value) (w : World), (callFunc k1 args).run Tryz.prog w = .ok (.enter k1 args) w := unhide HE1
    go_wp2_with fail
    refine (unhide HASK w6 (unhide HB)).mono ?_
    rintro e w7 ⟨rfl, hb⟩
    replace HO := hide ((unhide HO).mono hb (unhide HO).lt)
    replace HR := hide ((unhide HR).mono hb (unhide HR).lt); replace HB := hide ((unhide HB).trans (hb.mono (unhide HB).size)); replace HV := hide ((unhide HV).mono hb)
    clear hb
    clear q0 q1 e1
    obtain ⟨q0, q1⟩ : w7.cell? ⟨w5.heap.size, 0, none⟩ = some (.func (.func k1) #[] #[]) ∧ w7.cell? ⟨w5.heap.size, 1, none⟩ = some (.func (.func k2) #[] #[]) := ⟨(unhide HO).cell 0, (unhide HO).cell 1⟩
    cases A
    · have HX : Hid (u = errX 1) := hide (by rw [← unhide HU, step_go (unhide HNO), unhide HMB]; rfl)
      go_wp2_with fail
      refine (errValue_any 1 w7).mono ?_
      rintro e w8 ⟨rfl, hb⟩
      replace HR := hide ((unhide HR).mono hb (unhide HR).lt); replace HB := hide ((unhide HB).trans (hb.mono (unhide HB).size)); replace HV := hide ((unhide HV).mono hb)
      clear hb
      clear q0 q1
      obtain ⟨⟨r0, r1, r2⟩, f0, f1, f2⟩ := (unhide HR).val
      unfold vv errX
      go_wp2
      exact bodyPost_ret (v := .agg #[.int .i64 4, .int .i64 1, .string ⟨#[]⟩]) (by simp [results, Tryz.results27, go_sem, *]) rfl ⟨by rw [unhide HX]; rfl, vx_out (unhide HB) _ _ _⟩
    · have HX : Hid (u = R) := hide (by rw [← unhide HU, step_go (unhide HNO), unhide HMB]; rfl)
      have e2 : ∀ (args : Array Value) (w : World), (callFunc k2 args).run Tryz.prog w = .ok (.enter k2 args) w := unhide HE2
      go_wp2_with fail
      refine (unhide HDO (unhide HNO) (unhide HNB) (by trivial) w7 (unhide HB)).mono ?_
      rintro e w8 ⟨rfl, hb⟩
      replace HR := hide ((unhide HR).mono hb (unhide HR).lt); replace HB := hide ((unhide HB).trans (hb.mono (unhide HB).size)); replace HV := hide ((unhide HV).mono hb)
      clear hb
      clear q0 q1 e2
      obtain ⟨⟨r0, r1, r2⟩, f0, f1, f2⟩ := (unhide HR).val
      unfold vv
      go_wp2
      exact bodyPost_ret (v := .agg #[.int .i64 R.k, .int .i64 R.n, .string R.s]) (by simp [results, Tryz.results27, go_sem, *]) rfl ⟨by rw [unhide HX]; rfl, vx_out (unhide HB) _ _ _⟩
set_option maxRecDepth 100000 in
set_option maxHeartbeats 4000000 in
theorem implApply_end (n k1 k2 : Nat) (a : Option Addr) (m c : Nat) (f : Nat → Vx) (A : Bool) (R : Vx) (w : World) (hm9 : m ≤ 1048576) (hv : Vals w a m f) (hs : ∀ i, i < m → (f i).s.size ≤ 9223372036854775807) (hop : 2 ≤ n ∧ n ≤ 25) (hm : (m : Int) = opn n) (hok : allOk f m = true)
    (hE : opT[n * 2]? = some (.func (.func k1) #[] #[]) ∧ opT[n * 2 + 1]? = some (.func (.func k2) #[] #[])) (e1 : Ent k1) (e2 : Ent k2)
    (hAsk : ∀ W, Below w.heap.size w W → Calls Tryz.prog k1 #[.slice a m c] W fun e w' => e = .returned (.bool A) ∧ Below W.heap.size W w')
    (hDo : (mE n = false → ∀ j, j < m → ¬ (f j).k = 4) → (mB n = false → ∀ j, j < m → ¬ (f j).k = 0) → A = true → ∀ W, Below w.heap.size w W → Calls Tryz.prog k2 #[.slice a m c] W fun e w' => e = .returned (vv R) ∧ Below W.heap.size W w') :
    Calls Tryz.prog 7 #[.int .i64 n, .slice a m c] w fun e w' => e = .returned (vv (stepX n m f A R)) ∧ Below w.heap.size w w' := by
  obtain ⟨W, hW⟩ : ∃ W, w.alloc (.cells #[.int .i64 0, .int .i64 0, .string ⟨#[]⟩] 25) = W := ⟨_, rfl⟩
  have hb : Below w.heap.size w W := by rw [← hW]; exact (Below.refl _ _).alloc (Nat.le_refl _) _
  have bR : Blk W w.heap.size 25 [.int .i64 0, .int .i64 0, .string ⟨#[]⟩] := by rw [← hW]; exact Blk.new w 25 #[.int .i64 0, .int .i64 0, .string ⟨#[]⟩]
  have HC : Hid (∀ W1, Below w.heap.size w W1 → Calls Tryz.prog 27 #[.int .i64 n, .slice a m c] W1 fun e w' => e = .returned (vv (stepX n m f A R)) ∧ Below W1.heap.size W1 w') := hide fun W1 h1 => operate_end n k1 k2 a m c f A R W1 hm9 (hv.mono h1) hop hE e1 e2 (fun W2 h2 => hAsk W2 (h1.trans (h2.mono h1.size))) (fun x1 x2 x3 W2 h2 => hDo x1 x2 x3 W2 (h1.trans (h2.mono h1.size)))
  have HB := hide hb; have HR := hide bR; have HW := hide hW; have HOP := hide hop; have HV := hide (hv.mono hb); have HS := hide hs; have HOK := hide hok
  clear hb bR hW hop hv hs hok hE hAsk hDo e1 e2
  have HY := hide hm.symm
  clear hm
  generalize stepX n m f A R = u at *
  go_enter Tryz.func7, Tryz.ntmps7
  go_wp2_with fail
  try rw [unhide HW]
  clear HW
  refine (isOperator_any n W).mono ?_
  rintro e w1 ⟨rfl, hw⟩
  rw [hw, decide_eq_true (show 2 ≤ (n : Int) ∧ (n : Int) ≤ 25 from by have := unhide HOP; omega)]
  clear hw w1
  go_wp2_with fail
  refine (operandsOf_any n W).mono ?_
  rw [unhide HY]
  rintro e w1 ⟨rfl, hw⟩
  rw [hw]
  clear hw w1
  go_wp2_with fail
  refine (allValid_any a m c f (unhide HS) W hm9 (unhide HV)).mono ?_
  rw [unhide HOK]
  rintro e w1 ⟨rfl, hb⟩
  replace HR := hide ((unhide HR).mono hb (unhide HR).lt); replace HB := hide ((unhide HB).trans (hb.mono (unhide HB).size)); replace HV := hide ((unhide HV).mono hb)
  clear hb
  go_wp2_with fail
  refine (unhide HC w1 (unhide HB)).mono ?_
  rintro e w2 ⟨rfl, hb⟩
  replace HR := hide ((unhide HR).mono hb (unhide HR).lt); replace HB := hide ((unhide HB).trans (hb.mono (unhide HB).size))
  clear hb
  obtain ⟨⟨r0, r1, r2⟩, f0, f1, f2⟩ := (unhide HR).val
  unfold vv
  go_wp2
  exact bodyPost_ret (v := .agg #[.int .i64 u.k, .int .i64 u.n, .string u.s]) (by simp [results, Tryz.results7, go_sem, *]) rfl ⟨rfl, vx_out (unhide HB) _ _ _⟩
end Go.Proofs.YtnmpkdmflijhpaaGreatDoor

/- Texts in order and pieces of texts: the library's words and the model's. -/
namespace Go.Proofs.YtnmpkdmflijhpaaGreatDoor
open Go Go.RowKit

theorem cmp_tl : ∀ a b : List UInt8, (decide (Lib.compareBytes a b < 0) = tl a b) ∧ (decide (Lib.compareBytes a b ≤ 0) = !tl b a)
  | [], [] => by decide
  | [], y :: ys => by simp [Lib.compareBytes, tl]
  | x :: xs, [] => by simp [Lib.compareBytes, tl]
  | x :: xs, y :: ys => by
    obtain ⟨h1, h2⟩ := cmp_tl xs ys
    have hxy : x < y ↔ x.toNat < y.toNat := UInt8.lt_iff_toNat_lt
    have hyx : y < x ↔ y.toNat < x.toNat := UInt8.lt_iff_toNat_lt
    unfold Lib.compareBytes tl
    by_cases e : x = y
    · subst e
      have : ¬ x < x := by rw [hxy]; omega
      simp only [this, if_false, ne_eq, not_true]
      exact ⟨h1, h2⟩
    · have ne : x.toNat ≠ y.toNat := fun h => e (UInt8.toNat_inj.1 h)
      by_cases l : x < y
      · have l' := hxy.1 l
        simp [l, e, Ne.symm e, l', show ¬ y.toNat < x.toNat by omega]
      · have l' : y < x := by rw [hyx]; rw [hxy] at l; omega
        have l2 := hyx.1 l'
        simp [l, l', e, Ne.symm e, l2, show ¬ x.toNat < y.toNat by omega]

theorem piece_list (a : ByteArray) (i j : Nat) : (a.extract i j).data.toList = (a.data.toList.drop i).take (j - i) := by
  simp [ByteArray.data_extract, Array.toList_extract, List.extract_eq_take_drop]
theorem occ_iff (s t : ByteArray) (i : Nat) : Lib.occAt s.data.toList t.data.toList i = true ↔ s.extract i (i + t.size) = t := by
  unfold Lib.occAt
  rw [List.isPrefixOf_iff_prefix, List.prefix_iff_eq_take]
  have hl : t.data.toList.length = t.size := rfl
  have e : (s.extract i (i + t.size)).data.toList = (s.data.toList.drop i).take t.size := by rw [piece_list, Nat.add_sub_cancel_left]
  rw [hl, ← e]
  constructor
  · intro h1
    exact (ByteArray.ext (Array.toList_inj.1 h1)).symm
  · intro h1
    rw [h1]
theorem contains_has (s t : ByteArray) : Lib.contains s.data.toList t.data.toList = hasFrom s t 0 := by
  unfold Lib.contains
  have hl : s.data.toList.length = s.size := rfl
  have ht : t.data.toList.length = t.size := rfl
  rcases Lib.index_spec s.data.toList t.data.toList with ⟨h1, h2⟩ | ⟨i, h1, h2, h3, -⟩
  · rw [h1]
    have : hasFrom s t 0 = false := by
      unfold hasFrom
      rw [List.any_eq_false]
      intro i hi
      simp only [Bool.and_eq_true, decide_eq_true_eq]
      rintro ⟨-, h4, h5⟩
      have h6 := h2 i (by rw [hl]; omega)
      rw [(occ_iff s t i).2 h5] at h6
      cases h6
    rw [this]; rfl
  · have hr := Lib.index_room s.data.toList t.data.toList (by rw [h1]; omega)
    rw [h1, hl, ht] at hr
    have h4 : i + t.size ≤ s.size := by omega
    have h5 := (occ_iff s t i).1 h3
    have : hasFrom s t 0 = true := by
      unfold hasFrom
      rw [List.any_eq_true]
      exact ⟨i, List.mem_range.2 (by omega), by simp only [Bool.and_eq_true, decide_eq_true_eq]; exact ⟨Nat.zero_le _, h4, h5⟩⟩
    rw [this, h1]
    exact decide_eq_true (by omega)
end Go.Proofs.YtnmpkdmflijhpaaGreatDoor

/- The program's operators on whole numbers. -/
namespace Go.Proofs.YtnmpkdmflijhpaaGreatDoor
open Go Go.RowKit

set_option maxRecDepth 100000 in
theorem exactValue_any (n : Int) (b : Bool) (w : World) : Calls Tryz.prog 100 #[.int .i64 n, .bool b] w fun e w' => e = .returned (vv (if b then intX n else errX 2)) ∧ Below w.heap.size w w' := by
  obtain ⟨W, hW⟩ : ∃ W, w.alloc (.cells #[.int .i64 0, .int .i64 0, .string ⟨#[]⟩] 25) = W := ⟨_, rfl⟩
  have hb : Below w.heap.size w W := by rw [← hW]; exact (Below.refl _ _).alloc (Nat.le_refl _) _
  have bR : Blk W w.heap.size 25 [.int .i64 0, .int .i64 0, .string ⟨#[]⟩] := by rw [← hW]; exact Blk.new w 25 #[.int .i64 0, .int .i64 0, .string ⟨#[]⟩]
  have HB := hide hb; have HR := hide bR
  clear hb bR
  cases b
  · rw [if_neg (by decide)]
    go_enter Tryz.func100, Tryz.ntmps100
    go_wp2_with fail
    try rw [hW]
    clear hW
    refine (errValue_any 2 W).mono ?_
    rintro e w1 ⟨rfl, hb⟩
    have HR1 := hide ((unhide HR).mono hb (unhide HR).lt); have HB1 := hide ((unhide HB).trans (hb.mono (unhide HB).size))
    clear hb
    obtain ⟨r0, r1, r2⟩ := three (unhide HR1)
    have f0 := (unhide HR1).free 0; have f1 := (unhide HR1).free 1; have f2 := (unhide HR1).free 2
    unfold vv errX
    go_wp2
    exact bodyPost_ret (v := .agg #[.int .i64 4, .int .i64 2, .string ⟨#[]⟩]) (by simp [results, Tryz.results100, go_sem, *]) rfl ⟨rfl, vx_out (unhide HB1) _ _ _⟩
  · rw [if_pos rfl]
    go_enter Tryz.func100, Tryz.ntmps100
    go_wp2_with fail
    try rw [hW]
    clear hW
    refine (intValue_any n W).mono ?_
    rintro e w1 ⟨rfl, hb⟩
    have HR1 := hide ((unhide HR).mono hb (unhide HR).lt); have HB1 := hide ((unhide HB).trans (hb.mono (unhide HB).size))
    clear hb
    obtain ⟨r0, r1, r2⟩ := three (unhide HR1)
    have f0 := (unhide HR1).free 0; have f1 := (unhide HR1).free 1; have f2 := (unhide HR1).free 2
    go_wp2
    exact bodyPost_ret (v := .agg #[.int .i64 1, .int .i64 n, .string ⟨#[]⟩]) (by simp [results, Tryz.results100, go_sem, *]) rfl ⟨rfl, vx_out (unhide HB1) _ _ _⟩

set_option maxRecDepth 100000 in
theorem magnitude_any (n : Int) (w : World) (h : -9223372036854775808 ≤ n ∧ n ≤ 9223372036854775807) : Calls Tryz.prog 96 #[.int .i64 n] w fun e w' => e = .returned (.int .u64 (n.natAbs : Int)) ∧ w' = w := by
  have HN := hide h
  clear h
  by_cases h0 : n < 0
  · have e1 : IntKind.u64.wrap (-(IntKind.u64.wrap n)) = (n.natAbs : Int) := by
      have := unhide HN
      simp only [IntKind.wrap, IntKind.bits, IntKind.signed]
      simp
      omega
    go_enter Tryz.func96, Tryz.ntmps96
    go_wp2
    go_ret
    exact ⟨by first | rw [e1] | simp, rfl⟩
  · have e1 : IntKind.u64.wrap n = (n.natAbs : Int) := by
      have := unhide HN
      simp only [IntKind.wrap, IntKind.bits, IntKind.signed]
      simp
      omega
    go_enter Tryz.func96, Tryz.ntmps96
    go_wp2
    go_ret
    exact ⟨by first | rw [e1] | simp, rfl⟩
theorem pos_fits {sz : Nat} (h : sz < 18446744073709551616) : (if decide ((sz : Int) ≤ 9223372036854775807) then intX (wrap64 (sz : Int)) else errX 2) = chkX (sz : Int) := by
  unfold chkX fitsB
  by_cases hs : (sz : Int) ≤ 9223372036854775807
  · rw [if_pos (decide_eq_true hs), if_pos (decide_eq_true ⟨by omega, hs⟩), wrap64_small (by omega) hs]
  · rw [if_neg (by simpa using hs), if_neg (by simp; omega)]
theorem neg_fits {sz : Nat} (h : sz < 18446744073709551616) : (if decide ((sz : Int) ≤ 9223372036854775808) then intX (wrap64 (-(wrap64 (sz : Int)))) else errX 2) = chkX (-(sz : Int)) := by
  unfold chkX fitsB
  by_cases hs : (sz : Int) ≤ 9223372036854775808
  · have e : wrap64 (-(wrap64 (sz : Int))) = -(sz : Int) := by
      by_cases he : (sz : Int) = 9223372036854775808
      · rw [he]; unfold wrap64; omega
      · rw [wrap64_small (x := (sz : Int)) (by omega) (by omega), wrap64_small (by omega) (by omega)]
    rw [if_pos (decide_eq_true hs), if_pos (decide_eq_true ⟨by omega, by omega⟩), e]
  · rw [if_neg (by simpa using hs), if_neg (by simp; omega)]

set_option maxRecDepth 100000 in
set_option maxHeartbeats 4000000 in
theorem signedValue_any (sz : Nat) (neg : Bool) (w : World) (h : sz < 18446744073709551616) : Calls Tryz.prog 95 #[.int .u64 (sz : Int), .bool neg] w fun e w' => e = .returned (vv (chkX (if neg then -(sz : Int) else sz))) ∧ Below w.heap.size w w' := by
  have HN := hide h
  clear h
  obtain ⟨W, hW⟩ : ∃ W, w.alloc (.cells #[.int .i64 0, .int .i64 0, .string ⟨#[]⟩] 25) = W := ⟨_, rfl⟩
  have hb : Below w.heap.size w W := by rw [← hW]; exact (Below.refl _ _).alloc (Nat.le_refl _) _
  have bR : Blk W w.heap.size 25 [.int .i64 0, .int .i64 0, .string ⟨#[]⟩] := by rw [← hW]; exact Blk.new w 25 #[.int .i64 0, .int .i64 0, .string ⟨#[]⟩]
  have HB := hide hb; have HR := hide bR
  clear hb bR
  cases neg
  · rw [if_neg (by decide)]
    go_enter Tryz.func95, Tryz.ntmps95
    go_wp2_with fail
    try rw [hW]
    clear hW
    refine (exactValue_any (wrap64 (sz : Int)) (decide ((sz : Int) ≤ 9223372036854775807)) W).mono ?_
    rw [show (if decide ((sz : Int) ≤ 9223372036854775807) then intX (wrap64 (sz : Int)) else errX 2) = chkX ((sz : Int)) from pos_fits (unhide HN)]
    rintro e w1 ⟨rfl, hb⟩
    have HR1 := hide ((unhide HR).mono hb (unhide HR).lt); have HB1 := hide ((unhide HB).trans (hb.mono (unhide HB).size))
    clear hb
    obtain ⟨r0, r1, r2⟩ := three (unhide HR1)
    have f0 := (unhide HR1).free 0; have f1 := (unhide HR1).free 1; have f2 := (unhide HR1).free 2
    obtain ⟨u, hu⟩ : ∃ u, chkX ((sz : Int)) = u := ⟨_, rfl⟩
    have HU := hide hu
    rw [hu]
    clear hu
    unfold vv
    go_wp2
    exact bodyPost_ret (v := .agg #[.int .i64 u.k, .int .i64 u.n, .string u.s]) (by simp [results, Tryz.results95, go_sem, *]) rfl ⟨by rw [unhide HU]; rfl, vx_out (unhide HB1) _ _ _⟩
  · rw [if_pos rfl]
    go_enter Tryz.func95, Tryz.ntmps95
    go_wp2_with fail
    try rw [hW]
    clear hW
    refine (exactValue_any (wrap64 (-(wrap64 (sz : Int)))) (decide ((sz : Int) ≤ 9223372036854775808)) W).mono ?_
    rw [show (if decide ((sz : Int) ≤ 9223372036854775808) then intX (wrap64 (-(wrap64 (sz : Int)))) else errX 2) = chkX (-(sz : Int)) from neg_fits (unhide HN)]
    rintro e w1 ⟨rfl, hb⟩
    have HR1 := hide ((unhide HR).mono hb (unhide HR).lt); have HB1 := hide ((unhide HB).trans (hb.mono (unhide HB).size))
    clear hb
    obtain ⟨r0, r1, r2⟩ := three (unhide HR1)
    have f0 := (unhide HR1).free 0; have f1 := (unhide HR1).free 1; have f2 := (unhide HR1).free 2
    obtain ⟨u, hu⟩ : ∃ u, chkX (-(sz : Int)) = u := ⟨_, rfl⟩
    have HU := hide hu
    rw [hu]
    clear hu
    unfold vv
    go_wp2
    exact bodyPost_ret (v := .agg #[.int .i64 u.k, .int .i64 u.n, .string u.s]) (by simp [results, Tryz.results95, go_sem, *]) rfl ⟨by rw [unhide HU]; rfl, vx_out (unhide HB1) _ _ _⟩
end Go.Proofs.YtnmpkdmflijhpaaGreatDoor

/- The program's comparisons for equality. -/
namespace Go.Proofs.YtnmpkdmflijhpaaGreatDoor
open Go Go.RowKit


set_option maxRecDepth 100000 in
set_option maxHeartbeats 8000000 in
theorem areEqual_any (b o m c : Nat) (p q : Vx) (w : World) (hm : 2 ≤ m) (h0 : Cel w b o p) (h1 : Cel w b (o + 3) q) : Calls Tryz.prog 72 #[.slice (some ⟨b, o, none⟩) m c] w fun e w' => e = .returned (vv (boolX (eqX p q))) ∧ Below w.heap.size w w' := by
  have hm' : (0 : Int) < m := by omega
  have hm0 : ¬ m = 0 := by omega
  obtain ⟨u, hu⟩ : ∃ u, boolX (eqX p q) = u := ⟨_, rfl⟩
  rw [hu]
  have HU := hide hu
  clear hu
  have hm2 : (1 : Int) < m := by omega
  obtain ⟨W0, hW0⟩ : ∃ W0, w.alloc (.cells #[.int .i64 0, .int .i64 0, .string ⟨#[]⟩] 25) = W0 := ⟨_, rfl⟩
  have hb0 : Below w.heap.size w W0 := by rw [← hW0]; exact (Below.refl _ _).alloc (Nat.le_refl _) _
  have bR : Blk W0 w.heap.size 25 [.int .i64 0, .int .i64 0, .string ⟨#[]⟩] := by rw [← hW0]; exact Blk.new w 25 #[.int .i64 0, .int .i64 0, .string ⟨#[]⟩]
  have HC0 := hide (h0.mono hb0)
  obtain ⟨-, a0, a1, a2⟩ := h0.mono hb0
  have HC1 := hide (h1.mono hb0)
  obtain ⟨-, b0, b1, b2⟩ := h1.mono hb0
  have HR2 := hide bR; have HW2 := hide hb0
  have hblt : b < w.heap.size := h0.1
  clear hb0 bR h0 h1
  go_enter Tryz.func72, Tryz.ntmps72
  go_wp2_with fail
  try rw [hW0]
  clear hW0
  refine wp_region_held_drew (S := fun w' => w'.cell? ⟨b, o, none⟩ = some (.int .i64 p.k) ∧ w'.cell? ⟨b, o + 1, none⟩ = some (.int .i64 p.n) ∧ w'.cell? ⟨b, o + 2, none⟩ = some (.string p.s) ∧ w'.cell? ⟨b, o + 3, none⟩ = some (.int .i64 q.k) ∧ w'.cell? ⟨b, o + 3 + 1, none⟩ = some (.int .i64 q.n) ∧ w'.cell? ⟨b, o + 3 + 2, none⟩ = some (.string q.s)) (by kernel_rfl) ⟨a0, a1, a2, b0, b1, b2⟩ (fun hHeld => ?_)
  clear a0 a1 a2 b0 b1 b2
  refine takeY (i := 0) (v := .slice (some ⟨b, o, none⟩) m c) 3 rfl rfl (by kernel_rfl) (by kernel_rfl) (by kernel_rfl) (fun _ _ _ _ h => h) (by rfl) (fun w hS => by obtain ⟨q0, q1, q2, q3, q4, q5⟩ := hS; simp [execOp, go_sem, *]) hHeld ?_
  simp only [List.setIfInBounds_toArray, List.set_cons_zero, List.set_cons_succ]
  refine takeY (i := 1) (v := .pointer (some ⟨b, o, none⟩)) 4 rfl rfl (by kernel_rfl) (by kernel_rfl) (by kernel_rfl) (fun _ _ _ _ h => h) (by rfl) (fun w hS => by obtain ⟨q0, q1, q2, q3, q4, q5⟩ := hS; simp [execOp, go_sem, *]) hHeld ?_
  simp only [List.setIfInBounds_toArray, List.set_cons_zero, List.set_cons_succ]
  refine takeY (i := 2) (v := .agg #[.int .i64 p.k, .int .i64 p.n, .string p.s]) 5 rfl rfl (by kernel_rfl) (by kernel_rfl) (by kernel_rfl) (fun _ _ _ _ h => h) (by rfl) (fun w hS => by obtain ⟨q0, q1, q2, q3, q4, q5⟩ := hS; simp [execOp, go_sem, *]) hHeld ?_
  simp only [List.setIfInBounds_toArray, List.set_cons_zero, List.set_cons_succ]
  refine takeY (i := 3) (v := .slice (some ⟨b, o, none⟩) m c) 6 rfl rfl (by kernel_rfl) (by kernel_rfl) (by kernel_rfl) (fun _ _ _ _ h => h) (by rfl) (fun w hS => by obtain ⟨q0, q1, q2, q3, q4, q5⟩ := hS; simp [execOp, go_sem, *]) hHeld ?_
  simp only [List.setIfInBounds_toArray, List.set_cons_zero, List.set_cons_succ]
  refine takeY (i := 4) (v := .pointer (some ⟨b, o + 3, none⟩)) 7 rfl rfl (by kernel_rfl) (by kernel_rfl) (by kernel_rfl) (fun _ _ _ _ h => h) (by rfl) (fun w hS => by obtain ⟨q0, q1, q2, q3, q4, q5⟩ := hS; simp [execOp, go_sem, *]) hHeld ?_
  simp only [List.setIfInBounds_toArray, List.set_cons_zero, List.set_cons_succ]
  refine takeY (i := 5) (v := .agg #[.int .i64 q.k, .int .i64 q.n, .string q.s]) 8 rfl rfl (by kernel_rfl) (by kernel_rfl) (by kernel_rfl) (fun _ _ _ _ h => h) (by rfl) (fun w hS => by obtain ⟨q0, q1, q2, q3, q4, q5⟩ := hS; simp [execOp, go_sem, *]) hHeld ?_
  simp only [List.setIfInBounds_toArray, List.set_cons_zero, List.set_cons_succ]
  refine takeY (i := 6) (v := .bool (eqX p q)) 9 rfl rfl (by kernel_rfl) (by kernel_rfl) (by kernel_rfl) (fun _ _ _ _ h => h) (by rfl) (fun w hS => by obtain ⟨q0, q1, q2, q3, q4, q5⟩ := hS; simp [execOp, go_sem, *]; unfold eqX; (repeat' split) <;> simp_all) hHeld ?_
  simp only [List.setIfInBounds_toArray, List.set_cons_zero, List.set_cons_succ]
  refine callY (i := 7) (f := 97) (args := #[.bool (eqX p q)]) (R := fun r wz => r = vv (boolX (eqX p q)) ∧ Below W0.heap.size W0 wz) 10 rfl rfl (by rfl) (by kernel_rfl) ?hrun7 ((boolValue_any (eqX p q) _).mono fun e w6 ⟨he, hb⟩ => ⟨_, he, rfl, below_of_drew hb⟩) ?_
  case hrun7 => simp [execOp, go_sem]
  rintro r3 w3 ⟨rfl, hb⟩
  have HR3 := hide ((unhide HR2).mono hb (unhide HR2).lt); have HW3 := hide ((unhide HW2).trans (hb.mono (unhide HW2).size))
  have hc0 := (unhide HC0).mono hb; have hc1 := (unhide HC1).mono hb
  clear hb
  refine ⟨⟨hc0.2.1, hc0.2.2.1, hc0.2.2.2, hc1.2.1, hc1.2.2.1, hc1.2.2.2⟩, ?_⟩
  simp only [List.setIfInBounds_toArray, List.set_cons_zero, List.set_cons_succ]
  obtain ⟨z, hz⟩ : ∃ z, boolX (eqX p q) = z := ⟨_, rfl⟩
  have HZ : Hid (u = z) := hide (by
    rw [← unhide HU, ← hz]
    skip)
  rw [hz]
  clear hz
  unfold vv
  obtain ⟨r0, r1, r2⟩ := three (unhide HR3)
  have f0 := (unhide HR3).free 0; have f1 := (unhide HR3).free 1; have f2 := (unhide HR3).free 2
  have nb : b ≠ w.heap.size := fun e => by omega
  have far : ∀ (w' : World) (j i : Nat) (u : Value), (w'.setCell ⟨w.heap.size, j, none⟩ u).cell? ⟨b, i, none⟩ = w'.cell? ⟨b, i, none⟩ := fun w' j i u => World.cell?_of_block (w := w') (heap_setCell_other w' ⟨w.heap.size, j, none⟩ b u nb)
  refine storeY (i := 8) (w' := ((w3.setCell ⟨w.heap.size, 0, none⟩ (.int .i64 z.k)).setCell ⟨w.heap.size, 1, none⟩ (.int .i64 z.n)).setCell ⟨w.heap.size, 2, none⟩ (.string z.s)) rfl (by rfl) (by kernel_rfl) rfl ?hrunS rfl ⟨by rw [far, far, far]; exact hc0.2.1, by rw [far, far, far]; exact hc0.2.2.1, by rw [far, far, far]; exact hc0.2.2.2, by rw [far, far, far]; exact hc1.2.1, by rw [far, far, far]; exact hc1.2.2.1, by rw [far, far, far]; exact hc1.2.2.2⟩ ?_
  case hrunS => simp [execOp, go_sem, r0, r1, r2, f0, f1, f2]
  refine wpAnyH_done (by kernel_rfl) ?_ _
  obtain ⟨W9, hW9⟩ : ∃ W9, ((w3.setCell ⟨w.heap.size, 0, none⟩ (.int .i64 z.k)).setCell ⟨w.heap.size, 1, none⟩ (.int .i64 z.n)).setCell ⟨w.heap.size, 2, none⟩ (.string z.s) = W9 := ⟨_, rfl⟩
  have bR9 := ((((unhide HR3).set 0 (.int .i64 z.k)).set 1 (.int .i64 z.n)).set 2 (.string z.s))
  have HB9 := hide (vx_out (unhide HW3) (.int .i64 z.k) (.int .i64 z.n) (.string z.s))
  rw [hW9] at bR9 HB9 ⊢
  obtain ⟨k0, k1, k2⟩ := three bR9
  clear hW9 bR9 r0 r1 r2 f0 f1 f2 far hc0 hc1
  go_wp2
  exact bodyPost_ret (v := .agg #[.int .i64 z.k, .int .i64 z.n, .string z.s]) (by simp [results, Tryz.results72, go_sem, *]) rfl ⟨by rw [unhide HZ]; rfl, unhide HB9⟩

set_option maxRecDepth 100000 in
set_option maxHeartbeats 8000000 in
theorem areDifferent_any (b o m c : Nat) (p q : Vx) (w : World) (hm : 2 ≤ m) (h0 : Cel w b o p) (h1 : Cel w b (o + 3) q) : Calls Tryz.prog 73 #[.slice (some ⟨b, o, none⟩) m c] w fun e w' => e = .returned (vv (boolX (!eqX p q))) ∧ Below w.heap.size w w' := by
  have hm' : (0 : Int) < m := by omega
  have hm0 : ¬ m = 0 := by omega
  obtain ⟨u, hu⟩ : ∃ u, boolX (!eqX p q) = u := ⟨_, rfl⟩
  rw [hu]
  have HU := hide hu
  clear hu
  have hm2 : (1 : Int) < m := by omega
  obtain ⟨W0, hW0⟩ : ∃ W0, w.alloc (.cells #[.int .i64 0, .int .i64 0, .string ⟨#[]⟩] 25) = W0 := ⟨_, rfl⟩
  have hb0 : Below w.heap.size w W0 := by rw [← hW0]; exact (Below.refl _ _).alloc (Nat.le_refl _) _
  have bR : Blk W0 w.heap.size 25 [.int .i64 0, .int .i64 0, .string ⟨#[]⟩] := by rw [← hW0]; exact Blk.new w 25 #[.int .i64 0, .int .i64 0, .string ⟨#[]⟩]
  have HC0 := hide (h0.mono hb0)
  obtain ⟨-, a0, a1, a2⟩ := h0.mono hb0
  have HC1 := hide (h1.mono hb0)
  obtain ⟨-, b0, b1, b2⟩ := h1.mono hb0
  have HR2 := hide bR; have HW2 := hide hb0
  have hblt : b < w.heap.size := h0.1
  clear hb0 bR h0 h1
  go_enter Tryz.func73, Tryz.ntmps73
  go_wp2_with fail
  try rw [hW0]
  clear hW0
  refine wp_region_held_drew (S := fun w' => w'.cell? ⟨b, o, none⟩ = some (.int .i64 p.k) ∧ w'.cell? ⟨b, o + 1, none⟩ = some (.int .i64 p.n) ∧ w'.cell? ⟨b, o + 2, none⟩ = some (.string p.s) ∧ w'.cell? ⟨b, o + 3, none⟩ = some (.int .i64 q.k) ∧ w'.cell? ⟨b, o + 3 + 1, none⟩ = some (.int .i64 q.n) ∧ w'.cell? ⟨b, o + 3 + 2, none⟩ = some (.string q.s)) (by kernel_rfl) ⟨a0, a1, a2, b0, b1, b2⟩ (fun hHeld => ?_)
  clear a0 a1 a2 b0 b1 b2
  refine takeY (i := 0) (v := .slice (some ⟨b, o, none⟩) m c) 3 rfl rfl (by kernel_rfl) (by kernel_rfl) (by kernel_rfl) (fun _ _ _ _ h => h) (by rfl) (fun w hS => by obtain ⟨q0, q1, q2, q3, q4, q5⟩ := hS; simp [execOp, go_sem, *]) hHeld ?_
  simp only [List.setIfInBounds_toArray, List.set_cons_zero, List.set_cons_succ]
  refine takeY (i := 1) (v := .pointer (some ⟨b, o, none⟩)) 4 rfl rfl (by kernel_rfl) (by kernel_rfl) (by kernel_rfl) (fun _ _ _ _ h => h) (by rfl) (fun w hS => by obtain ⟨q0, q1, q2, q3, q4, q5⟩ := hS; simp [execOp, go_sem, *]) hHeld ?_
  simp only [List.setIfInBounds_toArray, List.set_cons_zero, List.set_cons_succ]
  refine takeY (i := 2) (v := .agg #[.int .i64 p.k, .int .i64 p.n, .string p.s]) 5 rfl rfl (by kernel_rfl) (by kernel_rfl) (by kernel_rfl) (fun _ _ _ _ h => h) (by rfl) (fun w hS => by obtain ⟨q0, q1, q2, q3, q4, q5⟩ := hS; simp [execOp, go_sem, *]) hHeld ?_
  simp only [List.setIfInBounds_toArray, List.set_cons_zero, List.set_cons_succ]
  refine takeY (i := 3) (v := .slice (some ⟨b, o, none⟩) m c) 6 rfl rfl (by kernel_rfl) (by kernel_rfl) (by kernel_rfl) (fun _ _ _ _ h => h) (by rfl) (fun w hS => by obtain ⟨q0, q1, q2, q3, q4, q5⟩ := hS; simp [execOp, go_sem, *]) hHeld ?_
  simp only [List.setIfInBounds_toArray, List.set_cons_zero, List.set_cons_succ]
  refine takeY (i := 4) (v := .pointer (some ⟨b, o + 3, none⟩)) 7 rfl rfl (by kernel_rfl) (by kernel_rfl) (by kernel_rfl) (fun _ _ _ _ h => h) (by rfl) (fun w hS => by obtain ⟨q0, q1, q2, q3, q4, q5⟩ := hS; simp [execOp, go_sem, *]) hHeld ?_
  simp only [List.setIfInBounds_toArray, List.set_cons_zero, List.set_cons_succ]
  refine takeY (i := 5) (v := .agg #[.int .i64 q.k, .int .i64 q.n, .string q.s]) 8 rfl rfl (by kernel_rfl) (by kernel_rfl) (by kernel_rfl) (fun _ _ _ _ h => h) (by rfl) (fun w hS => by obtain ⟨q0, q1, q2, q3, q4, q5⟩ := hS; simp [execOp, go_sem, *]) hHeld ?_
  simp only [List.setIfInBounds_toArray, List.set_cons_zero, List.set_cons_succ]
  refine takeY (i := 6) (v := .bool (!eqX p q)) 9 rfl rfl (by kernel_rfl) (by kernel_rfl) (by kernel_rfl) (fun _ _ _ _ h => h) (by rfl) (fun w hS => by obtain ⟨q0, q1, q2, q3, q4, q5⟩ := hS; simp [execOp, go_sem, *]; unfold eqX; (repeat' split) <;> simp_all) hHeld ?_
  simp only [List.setIfInBounds_toArray, List.set_cons_zero, List.set_cons_succ]
  refine callY (i := 7) (f := 97) (args := #[.bool (!eqX p q)]) (R := fun r wz => r = vv (boolX (!eqX p q)) ∧ Below W0.heap.size W0 wz) 10 rfl rfl (by rfl) (by kernel_rfl) ?hrun7 ((boolValue_any (!eqX p q) _).mono fun e w6 ⟨he, hb⟩ => ⟨_, he, rfl, below_of_drew hb⟩) ?_
  case hrun7 => simp [execOp, go_sem]
  rintro r3 w3 ⟨rfl, hb⟩
  have HR3 := hide ((unhide HR2).mono hb (unhide HR2).lt); have HW3 := hide ((unhide HW2).trans (hb.mono (unhide HW2).size))
  have hc0 := (unhide HC0).mono hb; have hc1 := (unhide HC1).mono hb
  clear hb
  refine ⟨⟨hc0.2.1, hc0.2.2.1, hc0.2.2.2, hc1.2.1, hc1.2.2.1, hc1.2.2.2⟩, ?_⟩
  simp only [List.setIfInBounds_toArray, List.set_cons_zero, List.set_cons_succ]
  obtain ⟨z, hz⟩ : ∃ z, boolX (!eqX p q) = z := ⟨_, rfl⟩
  have HZ : Hid (u = z) := hide (by
    rw [← unhide HU, ← hz]
    skip)
  rw [hz]
  clear hz
  unfold vv
  obtain ⟨r0, r1, r2⟩ := three (unhide HR3)
  have f0 := (unhide HR3).free 0; have f1 := (unhide HR3).free 1; have f2 := (unhide HR3).free 2
  have nb : b ≠ w.heap.size := fun e => by omega
  have far : ∀ (w' : World) (j i : Nat) (u : Value), (w'.setCell ⟨w.heap.size, j, none⟩ u).cell? ⟨b, i, none⟩ = w'.cell? ⟨b, i, none⟩ := fun w' j i u => World.cell?_of_block (w := w') (heap_setCell_other w' ⟨w.heap.size, j, none⟩ b u nb)
  refine storeY (i := 8) (w' := ((w3.setCell ⟨w.heap.size, 0, none⟩ (.int .i64 z.k)).setCell ⟨w.heap.size, 1, none⟩ (.int .i64 z.n)).setCell ⟨w.heap.size, 2, none⟩ (.string z.s)) rfl (by rfl) (by kernel_rfl) rfl ?hrunS rfl ⟨by rw [far, far, far]; exact hc0.2.1, by rw [far, far, far]; exact hc0.2.2.1, by rw [far, far, far]; exact hc0.2.2.2, by rw [far, far, far]; exact hc1.2.1, by rw [far, far, far]; exact hc1.2.2.1, by rw [far, far, far]; exact hc1.2.2.2⟩ ?_
  case hrunS => simp [execOp, go_sem, r0, r1, r2, f0, f1, f2]
  refine wpAnyH_done (by kernel_rfl) ?_ _
  obtain ⟨W9, hW9⟩ : ∃ W9, ((w3.setCell ⟨w.heap.size, 0, none⟩ (.int .i64 z.k)).setCell ⟨w.heap.size, 1, none⟩ (.int .i64 z.n)).setCell ⟨w.heap.size, 2, none⟩ (.string z.s) = W9 := ⟨_, rfl⟩
  have bR9 := ((((unhide HR3).set 0 (.int .i64 z.k)).set 1 (.int .i64 z.n)).set 2 (.string z.s))
  have HB9 := hide (vx_out (unhide HW3) (.int .i64 z.k) (.int .i64 z.n) (.string z.s))
  rw [hW9] at bR9 HB9 ⊢
  obtain ⟨k0, k1, k2⟩ := three bR9
  clear hW9 bR9 r0 r1 r2 f0 f1 f2 far hc0 hc1
  go_wp2
  exact bodyPost_ret (v := .agg #[.int .i64 z.k, .int .i64 z.n, .string z.s]) (by simp [results, Tryz.results73, go_sem, *]) rfl ⟨by rw [unhide HZ]; rfl, unhide HB9⟩

end Go.Proofs.YtnmpkdmflijhpaaGreatDoor

/- The program's search for a value among the arguments; what settles 'and' and 'or'. -/
namespace Go.Proofs.YtnmpkdmflijhpaaGreatDoor
open Go Go.RowKit

/-- The place of the first value that equals u, or -1. -/
def firstV (f : Nat → Vx) (m : Nat) (u : Vx) (r : Int) : Prop :=
  (∃ k : Nat, k < m ∧ r = k ∧ eqX u (f k) = true) ∨ (r = -1 ∧ ∀ j, j < m → eqX u (f j) = false)

set_option maxRecDepth 100000 in
set_option maxHeartbeats 4000000 in
theorem indexV_any (a : Option Addr) (m c : Nat) (f : Nat → Vx) (u : Vx) (w : World) (hm : m ≤ 1048576) (ha : Vals w a m f) :
    Calls Tryz.prog 116 #[.slice a m c, .agg #[.int .i64 u.k, .int .i64 u.n, .string u.s]] w fun e w' => ∃ r, e = .returned (.int .i64 r) ∧ firstV f m u r ∧ Below w.heap.size w w' := by
  obtain ⟨W, hW⟩ : ∃ W, w.alloc (.cells #[.int .i64 u.k, .int .i64 u.n, .string u.s] 25) = W := ⟨_, rfl⟩
  have hb : Below w.heap.size w W := by rw [← hW]; exact (Below.refl _ _).alloc (Nat.le_refl _) _
  have bX : Blk W w.heap.size 25 [.int .i64 u.k, .int .i64 u.n, .string u.s] := by rw [← hW]; exact Blk.new w 25 #[.int .i64 u.k, .int .i64 u.n, .string u.s]
  have HA := hide (ha.mono hb); have HX := hide bX; have HW := hide hW; have HBW := hide hb
  clear ha hb bX hW
  go_enter Tryz.func116, Tryz.ntmps116
  go_wp2
  try rw [unhide HW]
  go_loopw [5, 8] (fun _ i wr => ∃ k : Nat, k ≤ m ∧ i = .int .i64 k ∧ (∀ j, j < k → eqX u (f j) = false) ∧ Below W.heap.size W wr) (fun _ i _ => m - (intOf i).toNat)
  case atStart => exact ⟨0, Nat.zero_le _, rfl, fun j hj => absurd hj (Nat.not_lt_zero _), Below.refl _ _⟩
  case round =>
    obtain ⟨k, hk, rfl, hall, hb⟩ := hrel
    have HALL := hide hall; have HB := hide hb
    have hV := (unhide HA).mono hb
    have bX := (unhide HX).mono hb (unhide HX).lt
    have HV := hide hV
    obtain ⟨x0, x1, x2⟩ := three bX
    clear hall hb hV bX
    by_cases hlt : k < m
    · have hlt' : (k : Int) < m := by omega
      obtain ⟨b, o, rfl, -, c0, c1, c2⟩ := unhide HV k hlt
      have HBd : Hid (Below w.heap.size w wr.drew) := hide ((unhide HBW).trans ((unhide HB).drew.mono (unhide HBW).size))
      have HBe : Hid (Below W.heap.size W wr.drew) := hide (unhide HB).drew
      by_cases e1 : u.k = (f k).k
      · by_cases e2 : u.n = (f k).n
        · by_cases e3 : u.s.toList = (f k).s.toList
          · have HF : Hid (firstV f m u k) := hide (.inl ⟨k, hlt, rfl, by simp [eqX, e1, e2, e3]⟩)
            replace e1 := eq_true e1; replace e2 := eq_true e2; replace e3 := eq_true e3
            go_wp2_with fail
            go_region
            go_wp2
            go_ret
            exact ⟨_, rfl, unhide HF, unhide HBd⟩
          · have HS : Hid (∀ j, j < k + 1 → eqX u (f j) = false) := hide fun j hj => by
              by_cases e : j = k
              · rw [e]; simp [eqX, e1, e2, e3]
              · exact unhide HALL j (by omega)
            replace e1 := eq_true e1; replace e2 := eq_true e2; replace e3 := eq_false e3
            go_wp2_with fail
            go_region
            go_wp2
            go_roundw
            case rel => exact ⟨k + 1, by omega, by go_num, unhide HS, unhide HBe⟩
            case measure => simp [intOf]; omega
        · have HS : Hid (∀ j, j < k + 1 → eqX u (f j) = false) := hide fun j hj => by
            by_cases e : j = k
            · rw [e]; simp [eqX, e1, e2]
            · exact unhide HALL j (by omega)
          replace e1 := eq_true e1; replace e2 := eq_false e2
          go_wp2_with fail
          go_region
          go_wp2
          go_roundw
          case rel => exact ⟨k + 1, by omega, by go_num, unhide HS, unhide HBe⟩
          case measure => simp [intOf]; omega
      · have HS : Hid (∀ j, j < k + 1 → eqX u (f j) = false) := hide fun j hj => by
          by_cases e : j = k
          · rw [e]; simp [eqX, e1]
          · exact unhide HALL j (by omega)
        replace e1 := eq_false e1
        go_wp2_with fail
        go_region
        go_wp2
        go_roundw
        case rel => exact ⟨k + 1, by omega, by go_num, unhide HS, unhide HBe⟩
        case measure => simp [intOf]; omega
    · obtain rfl : k = m := by omega
      have HF : Hid (firstV f k u (-1)) := hide (.inr ⟨rfl, unhide HALL⟩)
      go_wp2
      go_ret
      exact ⟨_, rfl, unhide HF, (unhide HBW).trans ((unhide HB).mono (unhide HBW).size)⟩

set_option maxRecDepth 100000 in
set_option maxHeartbeats 4000000 in
theorem containsV_any (a : Option Addr) (m c : Nat) (f : Nat → Vx) (u : Vx) (w : World) (hm : m ≤ 1048576) (ha : Vals w a m f) :
    Calls Tryz.prog 109 #[.slice a m c, .agg #[.int .i64 u.k, .int .i64 u.n, .string u.s]] w fun e w' => e = .returned (.bool ((List.range m).any fun i => eqX u (f i))) ∧ Below w.heap.size w w' := by
  obtain ⟨y, hy⟩ : ∃ y, ((List.range m).any fun i => eqX u (f i)) = y := ⟨_, rfl⟩
  rw [hy]
  have HY := hide hy
  clear hy
  obtain ⟨W, hW⟩ : ∃ W, w.alloc (.cells #[.int .i64 u.k, .int .i64 u.n, .string u.s] 25) = W := ⟨_, rfl⟩
  have hb : Below w.heap.size w W := by rw [← hW]; exact (Below.refl _ _).alloc (Nat.le_refl _) _
  have HA := hide (ha.mono hb); have HW := hide hW; have HBW := hide hb
  clear ha hb hW
  go_enter Tryz.func109, Tryz.ntmps109
  go_wp2_with fail
  try rw [unhide HW]
  clear HW
  refine (indexV_any a m c f u W hm (unhide HA)).mono ?_
  rintro e w1 ⟨r, rfl, hr, hb⟩
  have HB1 := hide ((unhide HBW).trans (hb.mono (unhide HBW).size))
  clear hb
  have HD : Hid (y = decide (0 ≤ r)) := hide (by
    rw [← unhide HY]
    rcases hr with ⟨k, hk, rfl, he⟩ | ⟨rfl, he⟩
    · rw [List.any_eq_true.2 ⟨k, List.mem_range.2 hk, he⟩]
      exact (decide_eq_true (by omega)).symm
    · rw [List.any_eq_false.2 (fun i hi => by rw [he i (List.mem_range.1 hi)]; decide)]
      rfl)
  clear hr
  go_wp2
  go_ret
  exact ⟨by rw [unhide HD]; rfl, unhide HB1⟩

/-- What settles. -/
def setX (f : Nat → Vx) (m : Nat) (d t : Vx) : Vx := if (List.range m).any (fun i => eqX d (f i)) then d else if (List.range m).any (fun i => decide ((f i).k = 0)) then blankX else t

set_option maxRecDepth 100000 in
set_option maxHeartbeats 4000000 in
theorem settle_any (a : Option Addr) (m c : Nat) (f : Nat → Vx) (d t : Vx) (w : World) (hm : m ≤ 1048576) (ha : Vals w a m f) :
    Calls Tryz.prog 103 #[.slice a m c, .agg #[.int .i64 d.k, .int .i64 d.n, .string d.s], .agg #[.int .i64 t.k, .int .i64 t.n, .string t.s]] w fun e w' => e = .returned (vv (setX f m d t)) ∧ Below w.heap.size w w' := by
  obtain ⟨u, hu⟩ : ∃ u, setX f m d t = u := ⟨_, rfl⟩
  rw [hu]
  have HU := hide hu
  clear hu
  obtain ⟨W1, hW1⟩ : ∃ W1, w.alloc (.cells #[.int .i64 d.k, .int .i64 d.n, .string d.s] 25) = W1 := ⟨_, rfl⟩
  have hb1 : Below w.heap.size w W1 := by rw [← hW1]; exact (Below.refl _ _).alloc (Nat.le_refl _) _
  have bD : Blk W1 w.heap.size 25 [.int .i64 d.k, .int .i64 d.n, .string d.s] := by rw [← hW1]; exact Blk.new w 25 #[.int .i64 d.k, .int .i64 d.n, .string d.s]
  have s1 : W1.heap.size = w.heap.size + 1 := by rw [← hW1]; simp
  obtain ⟨W2, hW2⟩ : ∃ W2, W1.alloc (.cells #[.int .i64 t.k, .int .i64 t.n, .string t.s] 25) = W2 := ⟨_, rfl⟩
  have hb2 : Below W1.heap.size W1 W2 := by rw [← hW2]; exact (Below.refl _ _).alloc (Nat.le_refl _) _
  have bT : Blk W2 (w.heap.size + 1) 25 [.int .i64 t.k, .int .i64 t.n, .string t.s] := by rw [← hW2, ← s1]; exact Blk.new W1 25 #[.int .i64 t.k, .int .i64 t.n, .string t.s]
  have s2 : W2.heap.size = w.heap.size + 1 + 1 := by rw [← hW2]; simp [s1]
  obtain ⟨W, hW⟩ : ∃ W, W2.alloc (.cells #[.int .i64 0, .int .i64 0, .string ⟨#[]⟩] 25) = W := ⟨_, rfl⟩
  have hb3 : Below W2.heap.size W2 W := by rw [← hW]; exact (Below.refl _ _).alloc (Nat.le_refl _) _
  have bR : Blk W (w.heap.size + 1 + 1) 25 [.int .i64 0, .int .i64 0, .string ⟨#[]⟩] := by rw [← hW, ← s2]; exact Blk.new W2 25 #[.int .i64 0, .int .i64 0, .string ⟨#[]⟩]
  have hbW := (hb1.trans (hb2.mono hb1.size)).trans (hb3.mono (hb1.trans (hb2.mono hb1.size)).size)
  replace bD := (bD.mono hb2 bD.lt).mono hb3 (bD.mono hb2 bD.lt).lt
  replace bT := bT.mono hb3 bT.lt
  have HA := hide (ha.mono hbW); have HD := hide bD; have HT := hide bT; have HR := hide bR; have HB := hide hbW
  have HWW : Hid (((w.alloc (.cells #[.int .i64 d.k, .int .i64 d.n, .string d.s] 25)).alloc (.cells #[.int .i64 t.k, .int .i64 t.n, .string t.s] 25)).alloc (.cells #[.int .i64 0, .int .i64 0, .string ⟨#[]⟩] 25) = W) := hide (by rw [hW1, hW2, hW])
  clear ha hb1 hb2 hb3 hbW bD bT bR hW1 hW2 hW s1 s2
  go_enter Tryz.func103, Tryz.ntmps103
  go_wp2_with fail
  try rw [unhide HWW]
  clear HWW
  refine (containsV_any a m c f d W hm (unhide HA)).mono ?_
  rintro e w1 ⟨rfl, hb⟩
  replace HA := hide ((unhide HA).mono hb); replace HD := hide ((unhide HD).mono hb (unhide HD).lt); replace HT := hide ((unhide HT).mono hb (unhide HT).lt); replace HR := hide ((unhide HR).mono hb (unhide HR).lt); replace HB := hide ((unhide HB).trans (hb.mono (unhide HB).size))
  clear hb
  have low3 : ∀ (W : World) (x y z : Value), Below w.heap.size w W → Below w.heap.size w (((W.setCell ⟨w.heap.size + 1 + 1, 0, none⟩ x).setCell ⟨w.heap.size + 1 + 1, 1, none⟩ y).setCell ⟨w.heap.size + 1 + 1, 2, none⟩ z) := fun W x y z low => by
    have h9 : w.heap.size ≤ w.heap.size + 1 + 1 := by omega
    exact ((low.setCell h9 _).setCell h9 _).setCell h9 _
  have HL3 := hide low3
  clear low3
  cases hc : (List.range m).any fun i => eqX d (f i)
  · have HC := hide hc
    clear hc
    go_wp2_with fail
    refine (firstOfKind_any a m c f 0 w1 hm (unhide HA)).mono ?_
    rintro e w2 ⟨r, rfl, hr, hb⟩
    replace HT := hide ((unhide HT).mono hb (unhide HT).lt); replace HR := hide ((unhide HR).mono hb (unhide HR).lt); replace HB := hide ((unhide HB).trans (hb.mono (unhide HB).size))
    clear hb
    rcases hr with ⟨k, hk, rfl, he, -⟩ | ⟨rfl, he⟩
    · have HE : Hid (u = blankX) := hide (by
        rw [← unhide HU, setX, unhide HC, if_neg (by decide), List.any_eq_true.2 ⟨k, List.mem_range.2 hk, decide_eq_true he⟩, if_pos rfl])
      clear he
      go_wp2_with fail
      refine (blankValue_any _).mono ?_
      rintro e w3 ⟨rfl, hb⟩
      replace HR := hide ((unhide HR).mono hb (unhide HR).lt); replace HB := hide ((unhide HB).trans (hb.mono (unhide HB).size))
      clear hb
      obtain ⟨r0, r1, r2⟩ := three (unhide HR)
      have f0 := (unhide HR).free 0; have f1 := (unhide HR).free 1; have f2 := (unhide HR).free 2
      go_wp2
      exact bodyPost_ret (v := .agg #[.int .i64 0, .int .i64 0, .string ⟨#[]⟩]) (by simp [results, Tryz.results103, go_sem, *]) rfl ⟨by rw [unhide HE]; rfl, unhide HL3 _ _ _ _ (unhide HB)⟩
    · have HE : Hid (u = t) := hide (by
        rw [← unhide HU, setX, unhide HC, if_neg (by decide), List.any_eq_false.2 (fun i hi => by simpa using he i (List.mem_range.1 hi)), if_neg (by decide)])
      clear he
      obtain ⟨t0, t1, t2⟩ := three (unhide HT)
      obtain ⟨r0, r1, r2⟩ := three (unhide HR)
      have f0 := (unhide HR).free 0; have f1 := (unhide HR).free 1; have f2 := (unhide HR).free 2
      go_wp2
      exact bodyPost_ret (v := .agg #[.int .i64 t.k, .int .i64 t.n, .string t.s]) (by simp [results, Tryz.results103, go_sem, *]) rfl ⟨by rw [unhide HE]; rfl, unhide HL3 _ _ _ _ (unhide HB)⟩
  · have HE : Hid (u = d) := hide (by rw [← unhide HU, setX, hc, if_pos rfl])
    clear hc
    obtain ⟨d0, d1, d2⟩ := three (unhide HD)
    obtain ⟨r0, r1, r2⟩ := three (unhide HR)
    have f0 := (unhide HR).free 0; have f1 := (unhide HR).free 1; have f2 := (unhide HR).free 2
    go_wp2
    exact bodyPost_ret (v := .agg #[.int .i64 d.k, .int .i64 d.n, .string d.s]) (by simp [results, Tryz.results103, go_sem, *]) rfl ⟨by rw [unhide HE]; rfl, unhide HL3 _ _ _ _ (unhide HB)⟩

set_option maxRecDepth 100000 in
set_option maxHeartbeats 4000000 in
theorem areBothTrue_any (a : Option Addr) (m c : Nat) (f : Nat → Vx) (w : World) (hm : m ≤ 1048576) (ha : Vals w a m f) :
    Calls Tryz.prog 78 #[.slice a m c] w fun e w' => e = .returned (vv (setX f m (boolX false) (boolX true))) ∧ Below w.heap.size w w' := by
  obtain ⟨u, hu⟩ : ∃ u, setX f m (boolX false) (boolX true) = u := ⟨_, rfl⟩
  rw [hu]
  have HU := hide hu
  clear hu
  obtain ⟨W, hW⟩ : ∃ W, w.alloc (.cells #[.int .i64 0, .int .i64 0, .string ⟨#[]⟩] 25) = W := ⟨_, rfl⟩
  have hb : Below w.heap.size w W := by rw [← hW]; exact (Below.refl _ _).alloc (Nat.le_refl _) _
  have bR : Blk W w.heap.size 25 [.int .i64 0, .int .i64 0, .string ⟨#[]⟩] := by rw [← hW]; exact Blk.new w 25 #[.int .i64 0, .int .i64 0, .string ⟨#[]⟩]
  have HB := hide hb; have HR := hide bR; have HA := hide (ha.mono hb)
  clear hb bR ha
  have HW := hide hW
  clear hW
  go_enter Tryz.func78, Tryz.ntmps78
  go_wp2_with fail
  try rw [unhide HW]
  clear HW
  refine (boolValue_any false W).mono ?_
  rintro e w1 ⟨rfl, hb⟩
  replace HR := hide ((unhide HR).mono hb (unhide HR).lt); replace HB := hide ((unhide HB).trans (hb.mono (unhide HB).size)); replace HA := hide ((unhide HA).mono hb)
  clear hb
  go_wp2_with fail
  refine (boolValue_any true w1).mono ?_
  rintro e w2 ⟨rfl, hb⟩
  replace HR := hide ((unhide HR).mono hb (unhide HR).lt); replace HB := hide ((unhide HB).trans (hb.mono (unhide HB).size)); replace HA := hide ((unhide HA).mono hb)
  clear hb
  go_wp2_with fail
  refine (settle_any a m c f (boolX false) (boolX true) w2 hm (unhide HA)).mono ?_
  rw [unhide HU]
  rintro e w3 ⟨rfl, hb⟩
  replace HR := hide ((unhide HR).mono hb (unhide HR).lt); replace HB := hide ((unhide HB).trans (hb.mono (unhide HB).size))
  clear hb
  obtain ⟨r0, r1, r2⟩ := three (unhide HR)
  have f0 := (unhide HR).free 0; have f1 := (unhide HR).free 1; have f2 := (unhide HR).free 2
  unfold vv
  go_wp2
  exact bodyPost_ret (v := .agg #[.int .i64 u.k, .int .i64 u.n, .string u.s]) (by simp [results, Tryz.results78, go_sem, *]) rfl ⟨rfl, vx_out (unhide HB) _ _ _⟩

set_option maxRecDepth 100000 in
set_option maxHeartbeats 4000000 in
theorem isOneTrue_any (a : Option Addr) (m c : Nat) (f : Nat → Vx) (w : World) (hm : m ≤ 1048576) (ha : Vals w a m f) :
    Calls Tryz.prog 79 #[.slice a m c] w fun e w' => e = .returned (vv (setX f m (boolX true) (boolX false))) ∧ Below w.heap.size w w' := by
  obtain ⟨u, hu⟩ : ∃ u, setX f m (boolX true) (boolX false) = u := ⟨_, rfl⟩
  rw [hu]
  have HU := hide hu
  clear hu
  obtain ⟨W, hW⟩ : ∃ W, w.alloc (.cells #[.int .i64 0, .int .i64 0, .string ⟨#[]⟩] 25) = W := ⟨_, rfl⟩
  have hb : Below w.heap.size w W := by rw [← hW]; exact (Below.refl _ _).alloc (Nat.le_refl _) _
  have bR : Blk W w.heap.size 25 [.int .i64 0, .int .i64 0, .string ⟨#[]⟩] := by rw [← hW]; exact Blk.new w 25 #[.int .i64 0, .int .i64 0, .string ⟨#[]⟩]
  have HB := hide hb; have HR := hide bR; have HA := hide (ha.mono hb)
  clear hb bR ha
  have HW := hide hW
  clear hW
  go_enter Tryz.func79, Tryz.ntmps79
  go_wp2_with fail
  try rw [unhide HW]
  clear HW
  refine (boolValue_any true W).mono ?_
  rintro e w1 ⟨rfl, hb⟩
  replace HR := hide ((unhide HR).mono hb (unhide HR).lt); replace HB := hide ((unhide HB).trans (hb.mono (unhide HB).size)); replace HA := hide ((unhide HA).mono hb)
  clear hb
  go_wp2_with fail
  refine (boolValue_any false w1).mono ?_
  rintro e w2 ⟨rfl, hb⟩
  replace HR := hide ((unhide HR).mono hb (unhide HR).lt); replace HB := hide ((unhide HB).trans (hb.mono (unhide HB).size)); replace HA := hide ((unhide HA).mono hb)
  clear hb
  go_wp2_with fail
  refine (settle_any a m c f (boolX true) (boolX false) w2 hm (unhide HA)).mono ?_
  rw [unhide HU]
  rintro e w3 ⟨rfl, hb⟩
  replace HR := hide ((unhide HR).mono hb (unhide HR).lt); replace HB := hide ((unhide HB).trans (hb.mono (unhide HB).size))
  clear hb
  obtain ⟨r0, r1, r2⟩ := three (unhide HR)
  have f0 := (unhide HR).free 0; have f1 := (unhide HR).free 1; have f2 := (unhide HR).free 2
  unfold vv
  go_wp2
  exact bodyPost_ret (v := .agg #[.int .i64 u.k, .int .i64 u.n, .string u.s]) (by simp [results, Tryz.results79, go_sem, *]) rfl ⟨rfl, vx_out (unhide HB) _ _ _⟩
end Go.Proofs.YtnmpkdmflijhpaaGreatDoor

/- The program's look at bools or blanks. -/
namespace Go.Proofs.YtnmpkdmflijhpaaGreatDoor
open Go Go.RowKit

/-- All of the first m are bools or blanks. -/
def allBB (f : Nat → Vx) : Nat → Bool
  | 0 => true
  | m + 1 => allBB f m && ((f m).k == 2 || (f m).k == 0)
theorem allBB_iff {f : Nat → Vx} {m : Nat} : allBB f m = true ↔ ∀ j, j < m → ((f j).k = 2 ∨ (f j).k = 0) := by
  induction m with
  | zero => exact ⟨fun _ j hj => absurd hj (Nat.not_lt_zero _), fun _ => rfl⟩
  | succ m ih =>
    rw [allBB, Bool.and_eq_true, ih, Bool.or_eq_true, beq_iff_eq, beq_iff_eq]
    constructor
    · rintro ⟨h, h'⟩ j hj
      by_cases e : j = m
      · rw [e]; exact h'
      · exact h j (by omega)
    · exact fun h => ⟨fun j hj => h j (by omega), h m (by omega)⟩
set_option maxRecDepth 100000 in
set_option maxHeartbeats 4000000 in
theorem areBoolsOrBlanks_any (a : Option Addr) (m c : Nat) (f : Nat → Vx) (w : World) (hm : m ≤ 1048576) (ha : Vals w a m f) :
    Calls Tryz.prog 77 #[.slice a m c] w fun e w' => e = .returned (.bool (allBB f m)) ∧ Below w.heap.size w w' := by
  have HA := hide ha
  clear ha
  go_enter Tryz.func77, Tryz.ntmps77
  go_wp2
  go_loopw [7] (fun i wr => ∃ k : Nat, k ≤ m ∧ i = .int .i64 k ∧ (∀ j, j < k → ((f j).k = 2 ∨ (f j).k = 0)) ∧ Vals wr a m f ∧ Below w.heap.size w wr) (fun i _ => m - (intOf i).toNat)
  case atStart => exact ⟨0, Nat.zero_le _, rfl, fun j hj => absurd hj (Nat.not_lt_zero _), unhide HA, Below.refl _ _⟩
  case round =>
    obtain ⟨k, hk, rfl, hall, hv, hb⟩ := hrel
    have HALL := hide hall; have HV := hide hv; have HB := hide hb
    clear hall hv hb
    by_cases hlt : k < m
    · have hlt' : (k : Int) < m := by omega
      obtain ⟨b, o, rfl, -, c0, c1, c2⟩ := unhide HV k hlt
      have HB1 : ∀ x, Hid (Below wr.heap.size wr (wr.alloc x)) := fun x => hide ((Below.refl _ _).alloc (Nat.le_refl _) _)
      have HB2 : ∀ x, Hid (Below w.heap.size w (wr.alloc x)) := fun x => hide ((unhide HB).alloc (unhide HB).size x)
      by_cases hq : (f k).k = 2 ∨ (f k).k = 0
      · have HS : Hid (∀ j, j < k + 1 → ((f j).k = 2 ∨ (f j).k = 0)) := hide fun j hj => by
          by_cases e : j = k
          · rw [e]; exact hq
          · exact unhide HALL j (by omega)
        rcases hq with hq | hq
        · have hq1 : ((f k).k == 2) = true := beq_iff_eq.2 hq
          have hq2 : ((f k).k != 2) = false := by rw [bne, hq1]; rfl
          clear hq
          go_wp2
          go_roundw
          case rel => exact ⟨k + 1, by omega, by go_num, unhide HS, (unhide HV).mono (unhide (HB1 _)), unhide (HB2 _)⟩
          case measure => simp [intOf]; omega
        · have hq1 : ((f k).k == 2) = false := by rw [hq]; rfl
          have hq2 : ((f k).k != 2) = true := by rw [bne, hq1]; rfl
          have hq3 : ((f k).k == 0) = true := beq_iff_eq.2 hq
          have hq4 : ((f k).k != 0) = false := by rw [bne, hq3]; rfl
          clear hq
          go_wp2
          go_roundw
          case rel => exact ⟨k + 1, by omega, by go_num, unhide HS, (unhide HV).mono (unhide (HB1 _)), unhide (HB2 _)⟩
          case measure => simp [intOf]; omega
      · have HN : Hid (allBB f m = false) := hide (by
          cases e : allBB f m with
          | false => rfl
          | true => exact absurd (allBB_iff.1 e k hlt) hq)
        have hq1 : ((f k).k == 2) = false := beq_eq_false_iff_ne.2 (fun e => hq (.inl e))
        have hq2 : ((f k).k != 2) = true := by rw [bne, hq1]; rfl
        have hq3 : ((f k).k == 0) = false := beq_eq_false_iff_ne.2 (fun e => hq (.inr e))
        have hq4 : ((f k).k != 0) = true := by rw [bne, hq3]; rfl
        clear hq
        go_wp2
        go_ret
        exact ⟨by rw [unhide HN]; rfl, unhide (HB2 _)⟩
    · obtain rfl : k = m := by omega
      have HY := hide (allBB_iff.2 (unhide HALL))
      go_wp2
      go_ret
      exact ⟨by rw [unhide HY]; rfl, unhide HB⟩
end Go.Proofs.YtnmpkdmflijhpaaGreatDoor
