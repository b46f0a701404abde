/- Places as integers. -/
namespace Go.Proofs.YtjgngbmkpiihgaaGreatDoor

theorem i_add {k n e : Nat} (h : k + n = e) : (k : Int) + (n : Int) = (e : Int) := by omega
theorem i_one {k e : Nat} (h : k + 1 = e) : (k : Int) + 1 = (e : Int) := by omega
theorem i_two {k e : Nat} (h : k + 2 = e) : (k : Int) + 2 = (e : Int) := by omega
theorem i_lt {k e : Nat} (h : k < e) : (k : Int) < (e : Int) := by omega
theorem i_le {k e : Nat} (h : k ≤ e) : (k : Int) ≤ (e : Int) := by omega
theorem i_nlt {k e : Nat} (h : ¬ k < e) : ¬ (k : Int) < (e : Int) := by omega
theorem i_nle {k e : Nat} (h : ¬ k ≤ e) : ¬ (k : Int) ≤ (e : Int) := by omega
theorem i_ne {k e : Nat} (h : k ≠ e) : ((k : Int) == (e : Int)) = false := beq_eq_false_iff_ne.2 (by omega)
end Go.Proofs.YtjgngbmkpiihgaaGreatDoor
