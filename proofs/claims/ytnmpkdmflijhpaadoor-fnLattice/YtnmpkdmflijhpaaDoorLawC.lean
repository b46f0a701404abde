/- What the walks of several laws lean on. -/
import Derived.Test.YtnmpkdmflijhpaaDoorBoth
import Derived.Deep.RegionHeld3
namespace Go.Proofs.YtnmpkdmflijhpaaDoor
open Go Go.RowKit

/- As in Lat, for slices of any length at all. -/
set_option maxHeartbeats 400000 in
theorem szLattice_big (N bot top : Int) (a1 a2 a3 : Option Addr) (n1 n2 n3 c1 c2 c3 : Nat) (w : World) (h1 : n1 ≤ 9223372036854775807) (h2 : n2 ≤ 9223372036854775807) (h3 : n3 ≤ 9223372036854775807) :
    Calls Tryd.prog 18 #[.agg #[.int .i64 N, .slice a1 n1 c1, .slice a2 n2 c2, .slice a3 n3 c3, .int .i64 bot, .int .i64 top], .int .i64 1048576] w fun e w' => e = .returned (.int .i64 (szL n1 n2 n3)) ∧ Below w.heap.size w w' := by
  have hcase : (n1 + n2 + n3 ≤ 1048576) ∨ (n1 + n2 ≤ 1048576 ∧ 1048576 < n1 + n2 + n3) ∨ (n1 ≤ 1048576 ∧ 1048576 < n1 + n2) ∨ 1048576 < n1 := by omega
  rcases hcase with k | ⟨k, k'⟩ | ⟨k, k'⟩ | k
  all_goals
    go_enter Tryd.func18, Tryd.ntmps18
    go_wp2
    go_ret
    exact ⟨ret_int (by unfold szL; split <;> omega), (Below.refl _ _).alloc (Nat.le_refl _) _⟩

/-- Two blocks of six cells each. -/
def Twelve (w : World) (b c : Nat) (v0 v1 v2 v3 v4 v5 u0 u1 u2 u3 u4 u5 : Value) : Prop :=
  w.cell? ⟨b, 0, none⟩ = some v0 ∧ w.cell? ⟨b, 1, none⟩ = some v1 ∧ w.cell? ⟨b, 2, none⟩ = some v2 ∧ w.cell? ⟨b, 3, none⟩ = some v3 ∧ w.cell? ⟨b, 4, none⟩ = some v4 ∧ w.cell? ⟨b, 5, none⟩ = some v5 ∧
  w.cell? ⟨c, 0, none⟩ = some u0 ∧ w.cell? ⟨c, 1, none⟩ = some u1 ∧ w.cell? ⟨c, 2, none⟩ = some u2 ∧ w.cell? ⟨c, 3, none⟩ = some u3 ∧ w.cell? ⟨c, 4, none⟩ = some u4 ∧ w.cell? ⟨c, 5, none⟩ = some u5
theorem twelve {w : World} {b c : Nat} {t r : TypeId} {v0 v1 v2 v3 v4 v5 u0 u1 u2 u3 u4 u5 : Value} (h : Blk w b t [v0, v1, v2, v3, v4, v5]) (k : Blk w c r [u0, u1, u2, u3, u4, u5]) : Twelve w b c v0 v1 v2 v3 v4 v5 u0 u1 u2 u3 u4 u5 :=
  ⟨h.cell 0, h.cell 1, h.cell 2, h.cell 3, h.cell 4, h.cell 5, k.cell 0, k.cell 1, k.cell 2, k.cell 3, k.cell 4, k.cell 5⟩
end Go.Proofs.YtnmpkdmflijhpaaDoor
