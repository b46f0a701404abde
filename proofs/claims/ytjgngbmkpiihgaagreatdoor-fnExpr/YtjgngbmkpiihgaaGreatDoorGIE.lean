import Derived.Test.YtjgngbmkpiihgaaGreatDoorGOw
/- Places as integers. -/
namespace Go.Proofs.YtjgngbmkpiihgaaGreatDoor

theorem i_add {k n e : Nat} (h : k + n = e) : (k : Int) + (n : Int) = (e : Int) := by omega
theorem i_one {k e : Nat} (h : k + 1 = e) : (k : Int) + 1 = (e : Int) := by omega
theorem i_two {k e : Nat} (h : k + 2 = e) : (k : Int) + 2 = (e : Int) := by omega
theorem i_lt {k e : Nat} (h : k < e) : (k : Int) < (e : Int) := by omega
theorem i_le {k e : Nat} (h : k ≤ e) : (k : Int) ≤ (e : Int) := by omega
theorem i_nlt {k e : Nat} (h : ¬ k < e) : ¬ (k : Int) < (e : Int) := by omega
theorem i_nle {k e : Nat} (h : ¬ k ≤ e) : ¬ (k : Int) ≤ (e : Int) := by omega
theorem i_ne {k e : Nat} (h : k ≠ e) : ((k : Int) == (e : Int)) = false := beq_eq_false_iff_ne.2 (by omega)
end Go.Proofs.YtjgngbmkpiihgaaGreatDoor

/- A value equals itself. -/
namespace Go.Proofs.YtjgngbmkpiihgaaGreatDoor
open Go Go.RowKit

set_option maxRecDepth 100000 in
set_option maxHeartbeats 1000000 in
theorem eqValue_refl (k n : Int) (t : ByteArray) (w : World) :
    Calls Tryz.prog 73 #[.agg #[.int .i64 k, .int .i64 n, .string t], .agg #[.int .i64 k, .int .i64 n, .string t]] w fun e w' => e = .returned (.bool true) ∧ Below w.heap.size w w' := by
  have hq : (t.toList == t.toList) = true := by simp
  have hB : ∀ o1 o2, Below w.heap.size w ((w.alloc o1).alloc o2) := fun o1 o2 => ((Below.refl _ w).alloc (Nat.le_refl _) o1).alloc (by simp) o2
  have HB := hide hB; clear hB
  go_enter Tryz.func73, Tryz.ntmps73
  go_wp2
  go_ret
  exact ⟨rfl, unhide HB _ _⟩
end Go.Proofs.YtjgngbmkpiihgaaGreatDoor
