/- The law FnExactPrintExpr. -/
import Derived.Test.YtonmaniehocbbaaDoorIpE6
import Derived.Test.YtonmaniehocbbaaDoorNodLaw
namespace Go.Proofs.YtonmaniehocbbaaDoor
open Go Go.RowKit

set_option maxRecDepth 100000 in
set_option maxHeartbeats 4000000 in
theorem lawPrintExpr_any (a : Option Addr) (m c : Nat) (e : Nat → Nx) (w : World) (hm : m ≤ 9223372036854775807) (ha : Nods w a m e) (hf : ∀ k, k < m → Fit (e k)) (hw : Wrds w) (hp : Pow w) :
    Calls Tryd.prog 3 #[.slice a m c] w fun r w' => r = .returned (.bool true) ∧ Below w.heap.size w w' := by
  have HA := hide ha; have HF := hide hf; have HW := hide hw; have HP := hide hp
  clear ha hf hw hp
  go_enter Tryd.func3, Tryd.ntmps3
  go_wp2_with fail
  refine (szNodeS_any a m c e 1048576 w (by omega) (by omega) hm (unhide HF) (unhide HA)).mono ?_
  rintro x w1 ⟨q, rfl, hq, -, hb⟩
  have HB := hide hb; replace HA := hide ((unhide HA).mono hb); replace HW := hide ((unhide HW).mono hb); replace HP := hide ((unhide HP).mono hb)
  clear hb
  by_cases h0 : q < 0
  · clear hq
    go_wp2_with fail
    go_ret
    exact ⟨rfl, unhide HB⟩
  obtain ⟨-, hm9, -⟩ := hq (by omega)
  clear hq
  go_wp2_with fail
  refine (toNodeS_any a e m c w1 (unhide HA) hm9).mono ?_
  rintro x w2 ⟨rfl, hv1, hb⟩
  replace HB := hide ((unhide HB).trans (hb.mono (unhide HB).size)); replace HA := hide ((unhide HA).mono hb); replace HW := hide ((unhide HW).mono hb); replace HP := hide ((unhide HP).mono hb)
  have HV1 := hide hv1
  clear hb hv1
  go_wp2_with fail
  refine (specPrintExpr_any _ m m e w2 hm (unhide HV1) (unhide HF)).mono ?_
  obtain ⟨t, ht⟩ : ∃ t, (if vxB e m then (top e m).t else ⟨#[]⟩) = t := ⟨_, rfl⟩
  rw [ht]
  have HT := hide ht
  clear ht
  rintro x w3 ⟨rfl, hb⟩
  replace HB := hide ((unhide HB).trans (hb.mono (unhide HB).size)); replace HA := hide ((unhide HA).mono hb); replace HW := hide ((unhide HW).mono hb); replace HP := hide ((unhide HP).mono hb)
  clear hb HV1
  go_wp2_with fail
  refine (toNodeS_any a e m c w3 (unhide HA) hm9).mono ?_
  rintro x w4 ⟨rfl, hv1, hb⟩
  obtain ⟨X, hX⟩ : ∃ X, w3.heap.size = X := ⟨_, rfl⟩
  rw [hX] at hv1 ⊢
  clear hX
  replace HB := hide ((unhide HB).trans (hb.mono (unhide HB).size)); replace HA := hide ((unhide HA).mono hb); replace HW := hide ((unhide HW).mono hb); replace HP := hide ((unhide HP).mono hb)
  have HV1 := hide hv1
  clear hb hv1
  go_wp2_with fail
  refine (implPrintExpr_any _ m m e w4 hm (unhide HV1) (unhide HF) (unhide HW) (unhide HP)).mono ?_
  rw [unhide HT]
  rintro x w5 ⟨rfl, hb⟩
  replace HB := hide ((unhide HB).trans (hb.mono (unhide HB).size)); replace HA := hide ((unhide HA).mono hb); replace HV1 := hide ((unhide HV1).mono hb)
  clear hb
  have hq : (t.toList == t.toList) = true := by simp
  go_wp2_with fail
  refine (toNodeS_any a e m c w5 (unhide HA) hm9).mono ?_
  rintro x w6 ⟨rfl, hv2, hb⟩
  replace HB := hide ((unhide HB).trans (hb.mono (unhide HB).size)); replace HV1 := hide ((unhide HV1).mono hb)
  have HV2 := hide hv2
  clear hb hv2
  go_wp2_with fail
  refine (eqNodeS_true _ _ e m m m w6 hm9 (unhide HV1) (unhide HV2)).mono ?_
  rintro x w7 ⟨rfl, hb⟩
  replace HB := hide ((unhide HB).trans (hb.mono (unhide HB).size))
  clear hb
  go_wp2_with fail
  go_ret
  exact ⟨rfl, unhide HB⟩
end Go.Proofs.YtonmaniehocbbaaDoor
