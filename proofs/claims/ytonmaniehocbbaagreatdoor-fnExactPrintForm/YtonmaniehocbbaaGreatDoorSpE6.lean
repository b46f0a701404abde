/- (loose) The model: which lists of nodes are valid expressions, and how they are printed. -/
import Derived.Test.YtonmaniehocbbaaGreatDoorSpE5
namespace Go.Proofs.YtonmaniehocbbaaGreatDoor
open Go Go.RowKit

/-- A valid expression, as a question. -/
def vxB (e : Nat → Nx) (m : Nat) : Bool := decide (1 ≤ m ∧ m ≤ 1000) && ((List.range m).all fun k => okNode (e k)) && stB e m && decide ((top e m).d ≤ 64) && decide ((top e m).t.size ≤ 4000)
theorem vxB_iff (e : Nat → Nx) (m : Nat) : vxB e m = true ↔ vEx e m := by
  unfold vxB vEx okAll
  simp only [Bool.and_eq_true, decide_eq_true_eq, List.all_eq_true, List.mem_range, stB_iff]
  constructor
  · rintro ⟨⟨⟨⟨h1, h2⟩, h3, h4⟩, h5⟩, h6⟩; exact ⟨h1.1, h1.2, h2, h3, h4, h5, h6⟩
  · rintro ⟨h1, h1', h2, h3, h4, h5, h6⟩; exact ⟨⟨⟨⟨⟨h1, h1'⟩, h2⟩, h3, h4⟩, h5⟩, h6⟩
theorem vxB_no {e : Nat → Nx} {m : Nat} (h : ¬ vEx e m) : vxB e m = false := by
  cases hb : vxB e m
  · rfl
  · exact absurd ((vxB_iff e m).1 hb) h
theorem okNode_txt {n : Nx} (h : okNode n = true) : n.v.s.size ≤ 1000 := by
  unfold okNode at h
  split at h
  · simp only [Bool.and_eq_true, decide_eq_true_eq] at h
    have := h.1.1.2
    unfold okVal at this
    (repeat' split at this) <;> (try simp only [Bool.and_eq_true, decide_eq_true_eq] at this) <;> first | omega | exact (okText_iff.1 this.2).1 | cases this
  · split at h
    · simp only [Bool.and_eq_true, decide_eq_true_eq] at h; omega
    · simp only [Bool.and_eq_true, decide_eq_true_eq] at h; omega

set_option maxRecDepth 100000 in
set_option maxHeartbeats 4000000 in
theorem l3ValidExpr_any (a : Option Addr) (m c : Nat) (e : Nat → Nx) (w : World) (hm : m ≤ 9223372036854775807) (ha : Nods w a m e) (hf : ∀ k, k < m → Fit (e k)) :
    Calls Tryz.prog 57 #[.slice a m c] w fun r w' => r = .returned (.bool (vxB e m)) ∧ Below w.heap.size w w' := by
  by_cases h1 : m < 1
  · rw [vxB_no fun h => by have := h.1; omega]
    go_enter Tryz.func57, Tryz.ntmps57
    go_wp2_with fail
    go_ret
    exact ⟨rfl, Below.refl _ _⟩
  by_cases h2 : 1000 < m
  · rw [vxB_no fun h => by have := h.2.1; omega]
    go_enter Tryz.func57, Tryz.ntmps57
    go_wp2_with fail
    go_ret
    exact ⟨rfl, Below.refl _ _⟩
  have HA := hide ha; have HF := hide hf
  obtain ⟨r, hr⟩ : ∃ r, vxB e m = r := ⟨_, rfl⟩
  rw [hr]
  have HR := hide hr
  clear ha hf hr
  go_enter Tryz.func57, Tryz.ntmps57
  go_wp2_with fail
  go_loopw [3] (fun i wr => ∃ k : Nat, k ≤ m ∧ i = .int .i64 k ∧ okAll e k ∧ Below w.heap.size w wr) (fun i _ => m - (intOf i).toNat)
  case atStart => exact ⟨0, Nat.zero_le _, rfl, fun k hk => absurd hk (Nat.not_lt_zero _), Below.refl _ _⟩
  case round =>
    obtain ⟨k, hk, rfl, hall, hb⟩ := hrel
    have HB := hide hb; have HL := hide hall
    have HV := hide ((unhide HA).mono hb)
    clear hb hall
    by_cases hlt : k < m
    · have hlt' : (k : Int) < m := by omega
      obtain ⟨b, o, rfl, -, c0, c1, c2, c3, c4⟩ := unhide HV k hlt
      go_wp2_with fail
      refine (l3GoodNode_any (e k) _ (unhide HF k hlt)).mono ?_
      rintro x w1 ⟨rfl, hb⟩
      replace HB := hide ((unhide HB).trans (hb.mono (unhide HB).size))
      clear hb c0 c1 c2 c3 c4
      cases hg : okNode (e k)
      · have HX : Hid (r = false) := hide (by rw [← unhide HR]; exact vxB_no fun h => by have := h.2.2.1 k hlt; rw [hg] at this; cases this)
        go_wp2_with fail
        go_ret
        exact ⟨ret_bool (unhide HX).symm, unhide HB⟩
      · have HN : Hid (okAll e (k + 1)) := hide fun j hj => by
          by_cases ej : j = k
          · subst ej; exact hg
          · exact unhide HL j (by omega)
        go_wp2_with fail
        go_roundw
        case rel => exact ⟨k + 1, by omega, by go_num, unhide HN, unhide HB⟩
        case measure => simp [intOf]; omega
    · obtain rfl : k = m := by omega
      go_wp2_with fail
      refine (l3Stack_any a k c e _ (by omega) (unhide HV)).mono ?_
      rintro x w1 ⟨rfl, hb⟩
      replace HB := hide ((unhide HB).trans (hb.mono (unhide HB).size)); replace HV := hide ((unhide HV).mono hb)
      clear hb
      cases hs : stB e k
      · have HX : Hid (r = false) := hide (by rw [← unhide HR]; exact vxB_no fun h => by have := (stB_iff e k).2 ⟨h.2.2.2.1, h.2.2.2.2.1⟩; rw [hs] at this; cases this)
        go_wp2_with fail
        go_ret
        exact ⟨ret_bool (unhide HX).symm, unhide HB⟩
      obtain ⟨hst, hone⟩ := (stB_iff e k).1 hs
      have HS := hide hst; have HO := hide hone
      clear hst hone hs
      go_wp2_with fail
      refine (l3Depth_any a k c e (by omega) k k _ (Nat.le_refl _) (unhide HV) (by omega) (Nat.le_refl _) (unhide HS)).mono ?_
      rintro x w2 ⟨rfl, hb⟩
      replace HB := hide ((unhide HB).trans (hb.mono (unhide HB).size)); replace HV := hide ((unhide HV).mono hb)
      clear hb
      by_cases hd : 64 < (top e k).d
      · have hd' : (64 : Int) < (top e k).d := by omega
        have HX : Hid (r = false) := hide (by rw [← unhide HR]; exact vxB_no fun h => by have := h.2.2.2.2.2.1; omega)
        clear hd
        go_wp2_with fail
        go_ret
        exact ⟨ret_bool (unhide HX).symm, unhide HB⟩
      have hd' : ¬ (64 : Int) < (top e k).d := by omega
      have HD := hide hd
      clear hd
      go_wp2_with fail
      refine (l3PrintSize_any a k c e _ (by omega) (unhide HV) (fun j hj => okNode_txt (unhide HL j hj))).mono ?_
      rintro x w3 ⟨rfl, hb⟩
      replace HB := hide ((unhide HB).trans (hb.mono (unhide HB).size)); replace HV := hide ((unhide HV).mono hb)
      clear hb hd'
      by_cases hp : 4000 < txtSum e k
      · have hp' : (4000 : Int) < (txtSum e k : Int) := by omega
        have HX : Hid (r = false) := hide (by rw [← unhide HR]; exact vxB_no fun h => by have := h.sum (fun j hj => (unhide HF j hj).2.2.2); omega)
        clear hp
        go_wp2_with fail
        go_ret
        exact ⟨ret_bool (unhide HX).symm, unhide HB⟩
      have hp' : ¬ (4000 : Int) < (txtSum e k : Int) := by omega
      clear hp
      go_wp2_with fail
      refine (l3Print_any a k c e (by omega) k k (Nat.le_refl _) (by omega) (Nat.le_refl _) _ ⟨unhide HV, unhide HS, unhide HL, unhide HF⟩).mono ?_
      rintro x w4 ⟨rfl, hb⟩
      replace HB := hide ((unhide HB).trans (hb.mono (unhide HB).size))
      clear hb hp'
      have HX : Hid (r = decide ((top e k).t.size ≤ 4000)) := hide (by
        rw [← unhide HR, Bool.eq_iff_iff, vxB_iff, decide_eq_true_eq]
        exact ⟨fun h => h.2.2.2.2.2.2, fun h => ⟨by omega, by omega, unhide HL, unhide HS, unhide HO, by have := unhide HD; omega, h⟩⟩)
      generalize (top e k).t = t at *
      go_wp2_with fail
      go_ret
      exact ⟨ret_bool (by rw [unhide HX, Bool.eq_iff_iff]; simp; omega), unhide HB⟩

end Go.Proofs.YtonmaniehocbbaaGreatDoor
