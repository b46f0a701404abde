/- The program's PrintExpr. -/
import Derived.Test.YtonmaniehocbbaaDoorIpE5
namespace Go.Proofs.YtonmaniehocbbaaDoor
open Go Go.RowKit

set_option maxRecDepth 100000 in
set_option maxHeartbeats 4000000 in
theorem implPrintExpr_any (a : Option Addr) (m c : Nat) (e : Nat → Nx) (w : World) (hm : m ≤ 9223372036854775807) (ha : Nods w a m e) (hf : ∀ k, k < m → Fit (e k)) (hw : Wrds w) (hp : Pow w) :
    Calls Tryd.prog 7 #[.slice a m c] w fun r w' => r = .returned (.string (if vxB e m then (top e m).t else ⟨#[]⟩)) ∧ Below w.heap.size w w' := by
  have HC := hide (printed_any a m c e w hm ha hf hw hp)
  obtain ⟨t, ht⟩ : ∃ t, (if vxB e m then (top e m).t else ⟨#[]⟩) = t := ⟨_, rfl⟩
  obtain ⟨q, hq⟩ : ∃ q, vxB e m = q := ⟨_, rfl⟩
  rw [ht, hq] at HC
  rw [ht]
  clear ht hq ha hf hw hp
  go_enter Tryd.func7, Tryd.ntmps7
  go_wp2_with fail
  refine (unhide HC).mono ?_
  rintro x w1 ⟨rfl, hb⟩
  have HB := hide hb
  clear hb HC
  go_wp2_with fail
  go_ret
  exact ⟨rfl, unhide HB⟩
end Go.Proofs.YtonmaniehocbbaaDoor
