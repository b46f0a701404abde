/- Orders: pairs in memory, and what says whether an order is valid. -/
import Derived.Test.YtnmpkdmflijhpaaDoorPlain
namespace Go.Proofs.YtnmpkdmflijhpaaDoor
open Go Go.RowKit

theorem bool_no {V : Bool} {p : Prop} (hV : V = true ↔ p) (h : ¬ p) : V = false := by
  cases V with
  | false => rfl
  | true => exact absurd (hV.1 rfl) h

def Pairs (w : World) (a : Option Addr) (n : Nat) (f g : Nat → Int) : Prop :=
  ∀ k, k < n → ∃ b off, a = some ⟨b, off, none⟩ ∧ b < w.heap.size ∧ w.cell? ⟨b, off + k * 2, none⟩ = some (.int .i64 (f k)) ∧ w.cell? ⟨b, off + k * 2 + 1, none⟩ = some (.int .i64 (g k))
theorem Pairs.mono {w w' : World} {a : Option Addr} {n : Nat} {f g : Nat → Int} (h : Pairs w a n f g) (hb : Below w.heap.size w w') : Pairs w' a n f g := fun k hk => by
  obtain ⟨b, off, rfl, hl, hc, hd⟩ := h k hk
  exact ⟨b, off, rfl, Nat.lt_of_lt_of_le hl hb.size, (hb.cell (p := ⟨b, off + k * 2, none⟩) hl).trans hc, (hb.cell (p := ⟨b, off + k * 2 + 1, none⟩) hl).trans hd⟩

/-- The order is valid. -/
def OrderOk (N : Int) (m : Nat) (f g : Nat → Int) : Prop := 1 ≤ N ∧ N ≤ 32 ∧ m ≤ 256 ∧ ∀ k, k < m → 0 ≤ f k ∧ f k < N ∧ 0 ≤ g k ∧ g k < N

set_option maxHeartbeats 1000000 in
theorem l1ValidOrder_no (N : Int) (a : Option Addr) (m c : Nat) (w : World) (hm : m ≤ 9223372036854775807) (hno : ¬ (1 ≤ N ∧ N ≤ 32 ∧ m ≤ 256)) :
    Calls Tryd.prog 35 #[.agg #[.int .i64 N, .slice a m c]] w fun e w' => e = .returned (.bool false) ∧ Below w.heap.size w w' := by
  have hcase : N < 1 ∨ (1 ≤ N ∧ 32 < N) ∨ (1 ≤ N ∧ N ≤ 32 ∧ 256 < m) := by omega
  rcases hcase with h | ⟨h, h'⟩ | ⟨h, h', h''⟩
  all_goals
    go_enter Tryd.func35, Tryd.ntmps35
    go_wp2
    go_ret
    exact ⟨rfl, (Below.refl _ _).alloc (Nat.le_refl _) _⟩

set_option maxHeartbeats 1000000 in
theorem l1ValidOrder_in (N : Int) (a : Option Addr) (m c : Nat) (f g : Nat → Int) (w : World) (h1 : 1 ≤ N) (h32 : N ≤ 32) (hm : m ≤ 256) (ha : Pairs w a m f g) (V : Bool) (hV : V = true ↔ ∀ k, k < m → 0 ≤ f k ∧ f k < N ∧ 0 ≤ g k ∧ g k < N) :
    Calls Tryd.prog 35 #[.agg #[.int .i64 N, .slice a m c]] w fun e w' => e = .returned (.bool V) ∧ Below w.heap.size w w' := by
  have HV := hide hV; clear hV
  go_enter Tryd.func35, Tryd.ntmps35
  go_wp2
  have hb : Below w.heap.size w (w.alloc (.cells #[.int .i64 N, .slice a m c] 34)) := (Below.refl _ _).alloc (Nat.le_refl _) _
  have HB := hide hb; clear hb
  have B0 := Blk.new w 34 #[.int .i64 N, .slice a m c]
  have c0 := B0.cell 0; have c1 := B0.cell 1
  simp only [List.getElem?_cons_succ, List.getElem?_cons_zero] at c0 c1
  have hs : w.heap.size < (w.alloc (.cells #[.int .i64 N, .slice a m c] 34)).heap.size := by simp
  have PA := ha.mono (unhide HB)
  generalize (w.alloc (.cells #[.int .i64 N, .slice a m c] 34)) = W at *
  clear B0
  go_loopw [3] (fun i wr => ∃ k : Nat, k ≤ m ∧ i = .int .i64 k ∧ (∀ j, j < k → 0 ≤ f j ∧ f j < N ∧ 0 ≤ g j ∧ g j < N) ∧ ∃ n, wr = W.drewN n) (fun i _ => m - (intOf i).toNat)
  case atStart => exact ⟨0, Nat.zero_le _, rfl, fun j h => absurd h (Nat.not_lt_zero _), 0, rfl⟩
  case round =>
    obtain ⟨k, hk, rfl, heq, n, rfl⟩ := hrel
    have HE := hide heq
    clear heq
    have HD := hide (below_drewN' W n)
    by_cases hlt : k < m
    · obtain ⟨b, off, rfl, hl, hc, hd⟩ := PA k hlt
      have hF : ¬ (0 ≤ f k ∧ f k < N ∧ 0 ≤ g k ∧ g k < N) → V = false := fun hn => bool_no (unhide HV) fun hall => hn (hall k hlt)
      have HF := hide hF; clear hF
      by_cases x1 : f k < 0
      · go_wp2
        go_quiet (fail)
        go_wp2
        go_ret
        exact ⟨ret_bool ((unhide HF) (by omega)).symm, (unhide HB).trans ⟨rfl, rfl, rfl, Nat.le_refl _, fun _ _ => rfl⟩⟩
      by_cases x2 : N ≤ f k
      · go_wp2
        go_quiet (fail)
        go_wp2
        go_ret
        exact ⟨ret_bool ((unhide HF) (by omega)).symm, (unhide HB).trans ⟨rfl, rfl, rfl, Nat.le_refl _, fun _ _ => rfl⟩⟩
      by_cases x3 : g k < 0
      · go_wp2
        go_quiet (fail)
        go_wp2
        go_quiet (fail)
        go_wp2
        go_ret
        exact ⟨ret_bool ((unhide HF) (by omega)).symm, (unhide HB).trans ⟨rfl, rfl, rfl, Nat.le_refl _, fun _ _ => rfl⟩⟩
      by_cases x4 : N ≤ g k
      · go_wp2
        go_quiet (fail)
        go_wp2
        go_quiet (fail)
        go_wp2
        go_ret
        exact ⟨ret_bool ((unhide HF) (by omega)).symm, (unhide HB).trans ⟨rfl, rfl, rfl, Nat.le_refl _, fun _ _ => rfl⟩⟩
      go_wp2
      go_quiet (fail)
      go_wp2
      go_quiet (fail)
      go_wp2
      go_roundw
      case rel => exact ⟨k + 1, by omega, by go_num, fun j hj => by
        by_cases e : j = k
        · subst e; omega
        · exact unhide HE j (by omega), _, rfl⟩
      case measure => simp [intOf]; omega
    · go_wp2
      go_ret
      exact ⟨ret_bool ((unhide HV).2 fun j hj => (unhide HE) j (by omega)).symm, (unhide HB).trans ⟨rfl, rfl, rfl, Nat.le_refl _, fun _ _ => rfl⟩⟩
end Go.Proofs.YtnmpkdmflijhpaaDoor
