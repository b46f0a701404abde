/- The program's Apply: which operators there are, and which have rules of their own. -/
import Derived.Test.YtnmpkdmflijhpaaGreatDoorApV
import Derived.Test.YtnmpkdmflijhpaaGreatDoorApK
import Derived.Test.YtnmpkdmflijhpaaGreatDoorOpn
namespace Go.Proofs.YtnmpkdmflijhpaaGreatDoor
open Go Go.RowKit

set_option maxRecDepth 100000 in
theorem errValue_any (n : Int) (w : World) : Calls Tryz.prog 26 #[.int .i64 n] w fun e w' => e = .returned (vv (errX n)) ∧ Below w.heap.size w w' := by
  go_enter Tryz.func26, Tryz.ntmps26
  go_wp2
  exact bodyPost_ret (v := .agg #[.int .i64 4, .int .i64 n, .string ⟨#[]⟩]) (by simp [results, Tryz.results26, go_sem, *]) rfl ⟨rfl, (Below.refl _ _).alloc (Nat.le_refl _) _⟩
def mE (op : Int) : Bool := op == 25 || op == 16 || op == 19
def mB (op : Int) : Bool := mE op || op == 24 || op == 14 || op == 15
set_option maxRecDepth 100000 in
theorem meetsErrors_any (op : Int) (w : World) : Calls Tryz.prog 43 #[.int .i64 op] w fun e w' => e = .returned (.bool (mE op)) ∧ w' = w := by
  have hm : mE op = (op == 25 || op == 16 || op == 19) := rfl
  rw [hm]
  clear hm
  cases h1 : op == 25 <;> cases h2 : op == 16 <;> cases h3 : op == 19
  all_goals (
    go_enter Tryz.func43, Tryz.ntmps43
    go_wp2
    go_ret
    exact ⟨by rfl, rfl⟩)
set_option maxRecDepth 100000 in
theorem meetsBlanks_any (op : Int) (w : World) : Calls Tryz.prog 45 #[.int .i64 op] w fun e w' => e = .returned (.bool (mB op)) ∧ w' = w := by
  have hm : mB op = (mE op || op == 24 || op == 14 || op == 15) := rfl
  rw [hm]
  clear hm
  cases h0 : mE op <;> cases h1 : op == 24 <;> cases h2 : op == 14 <;> cases h3 : op == 15
  all_goals (
    go_enter Tryz.func45, Tryz.ntmps45
    go_wp2_with fail
    refine (meetsErrors_any op w).mono ?_
    rintro e w1 ⟨rfl, hw⟩
    rw [hw, h0]
    clear hw w1
    go_wp2
    go_ret
    exact ⟨by rfl, rfl⟩)
set_option maxRecDepth 100000 in
theorem areAnything_any (a : Option Addr) (m c : Nat) (w : World) : Calls Tryz.prog 84 #[.slice a m c] w fun e w' => e = .returned (.bool true) ∧ w' = w := by
  go_enter Tryz.func84, Tryz.ntmps84
  go_wp2
  go_ret
  exact ⟨rfl, rfl⟩
set_option maxRecDepth 100000 in
theorem beginWithChoice_any (b o m c : Nat) (p : Vx) (w : World) (hm : 1 ≤ m) (h0 : Cel w b o p) : Calls Tryz.prog 80 #[.slice (some ⟨b, o, none⟩) m c] w fun e w' => e = .returned (.bool (p.k != 1 && p.k != 3)) ∧ w' = w := by
  obtain ⟨-, c0, c1, c2⟩ := h0
  have hm' : (0 : Int) < m := by omega
  cases h1 : p.k != 1 <;> cases h3 : p.k != 3
  all_goals (
    go_enter Tryz.func80, Tryz.ntmps80
    go_wp2
    go_ret
    exact ⟨by first | rfl | simp [h1, h3], rfl⟩)
end Go.Proofs.YtnmpkdmflijhpaaGreatDoor
