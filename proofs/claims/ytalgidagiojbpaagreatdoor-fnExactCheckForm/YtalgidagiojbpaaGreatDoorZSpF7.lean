import Derived.Test.YtalgidagiojbpaaGreatDoorGS4
import Derived.Test.YtalgidagiojbpaaGreatDoorZSpF6
/- The model: valid forms. -/
namespace Go.Proofs.YtalgidagiojbpaaGreatDoor
open Go Go.RowKit

theorem vfB_false {m : Fm} (h : ¬ VfA m) : vfB m = false := by
  unfold vfB
  rw [show vfA m = false from Bool.eq_false_iff.2 fun e => h ((vfA_iff m).1 e)]
  rfl
theorem vfB_of {m : Fm} (h : VfA m) : vfB m = decide ((cT m).length ≤ 30000) := by
  unfold vfB
  rw [(vfA_iff m).2 h, Bool.true_and]
theorem inR_of {n : Nat} {x : Int} (h1 : 0 ≤ x) (h2 : x < n) : inR n x = true := decide_eq_true ⟨h1, h2⟩

set_option maxRecDepth 100000 in
set_option maxHeartbeats 8000000 in
theorem specValidForm_any (m : Fm) (A : MA) (w : World) (hf : FitM m) (ha : MSl w m A) :
    Calls Tryz.prog 21 #[mV m A] w fun r w' => r = .returned (.bool (vfB m)) ∧ Below w.heap.size w w' := by
  obtain ⟨al, alc, ap, apc, ar, arc, af, afc, afa⟩ := A
  have HF0 : Hid (¬ VfA m → vfB m = false) := hide vfB_false
  have HT0 : Hid (VfA m → vfB m = decide ((cT m).length ≤ 30000)) := hide vfB_of
  generalize vfB m = q at *
  unfold mV
  dsimp only
  have HK := hide (Blk.new w 35 #[.slice al m.labels.length alc, .slice ap m.below.length apc, .slice ar m.roles.length arc, .slice af m.fields.length afc])
  have HB := hide ((Below.refl w.heap.size w).alloc (Nat.le_refl _) (.cells #[.slice al m.labels.length alc, .slice ap m.below.length apc, .slice ar m.roles.length arc, .slice af m.fields.length afc] 35))
  obtain ⟨W0, hW0⟩ : ∃ W0, w.alloc (.cells #[.slice al m.labels.length alc, .slice ap m.below.length apc, .slice ar m.roles.length arc, .slice af m.fields.length afc] 35) = W0 := ⟨_, rfl⟩
  rw [hW0] at HK HB
  have HS := hide (ha.mono (unhide HB)); have HF := hide hf
  have hll := hf.ll; have hpl := hf.pl; have hrl := hf.rl; have hfl := hf.fl
  clear ha hf
  obtain ⟨y0, y1, y2, y3⟩ := quad (unhide HK)
  by_cases h1 : (32 : Int) < m.labels.length
  · have HX : Hid (q = false) := hide (unhide HF0 fun v => by have := v.nl; omega)
    go_enter Tryz.func21, Tryz.ntmps21
    go_wp2_with fail
    go_ret
    exact ⟨ret_bool (unhide HX).symm, unhide HB⟩
  by_cases h2 : (256 : Int) < m.below.length
  · have HX : Hid (q = false) := hide (unhide HF0 fun v => by have := v.np; omega)
    go_enter Tryz.func21, Tryz.ntmps21
    go_wp2_with fail
    go_ret
    exact ⟨ret_bool (unhide HX).symm, unhide HB⟩
  by_cases h3 : (64 : Int) < m.roles.length
  · have HX : Hid (q = false) := hide (unhide HF0 fun v => by have := v.nr; omega)
    go_enter Tryz.func21, Tryz.ntmps21
    go_wp2_with fail
    go_ret
    exact ⟨ret_bool (unhide HX).symm, unhide HB⟩
  by_cases h4 : (200 : Int) < m.fields.length
  · have HX : Hid (q = false) := hide (unhide HF0 fun v => by have := v.nf; omega)
    go_enter Tryz.func21, Tryz.ntmps21
    go_wp2_with fail
    go_ret
    exact ⟨ret_bool (unhide HX).symm, unhide HB⟩
  go_enter Tryz.func21, Tryz.ntmps21
  go_wp2_with fail
  try rw [hW0]
  refine (l3FieldNames_any m ⟨al, alc, ap, apc, ar, arc, af, afc, afa⟩ W0 (by omega) (unhide HS).f).mono ?_
  rintro r W1 ⟨an, cn, rfl, hnames, hb1⟩
  have HN := hide hnames
  replace HK := hide ((unhide HK).mono hb1 (unhide HK).lt); replace HS := hide ((unhide HS).mono hb1); replace HB := hide ((unhide HB).trans (hb1.mono (unhide HB).size))
  clear hW0 y0 y1 y2 y3 hnames hb1
  obtain ⟨y0, y1, y2, y3⟩ := quad (unhide HK)
  go_wp2_with fail
  refine (l3Distinct_any al alc m.labels W1 hll (unhide HF).l (unhide HS).l).mono ?_
  rintro r W2 ⟨rfl, hb1⟩
  replace HK := hide ((unhide HK).mono hb1 (unhide HK).lt); replace HS := hide ((unhide HS).mono hb1); replace HB := hide ((unhide HB).trans (hb1.mono (unhide HB).size)); replace HN := hide ((unhide HN).mono hb1)
  clear y0 y1 y2 y3 hb1
  obtain ⟨y0, y1, y2, y3⟩ := quad (unhide HK)
  cases hn1 : namesOk m.labels
  · have HX : Hid (q = false) := hide (unhide HF0 fun v => by have := v.l; rw [hn1] at this; cases this)
    go_wp2_with fail
    go_ret
    exact ⟨ret_bool (unhide HX).symm, unhide HB⟩
  have HN1 := hide hn1
  clear hn1
  go_wp2_with fail
  refine (l3RoleNames_any m ⟨al, alc, ap, apc, ar, arc, af, afc, afa⟩ W2 (by omega) (unhide HS).r).mono ?_
  rintro r W3 ⟨an2, cn2, rfl, hnames, hb1⟩
  have HNr := hide hnames
  replace HK := hide ((unhide HK).mono hb1 (unhide HK).lt); replace HS := hide ((unhide HS).mono hb1); replace HB := hide ((unhide HB).trans (hb1.mono (unhide HB).size)); replace HN := hide ((unhide HN).mono hb1)
  clear y0 y1 y2 y3 hb1 hnames
  obtain ⟨y0, y1, y2, y3⟩ := quad (unhide HK)
  have HE1 : Hid (m.roles.length = (rNames m).length) := hide (by simp [rNames]); have HE2 : Hid (m.fields.length = (fNames m).length) := hide (by simp [fNames])
  go_wp2_with fail
  have hcr := l3Distinct_any an2 cn2 (rNames m) W3 (by rw [← unhide HE1]; exact hrl) (fun x hx => by obtain ⟨y, hy, rfl⟩ := List.mem_map.1 hx; exact (unhide HF).r y hy) (unhide HNr)
  rw [← unhide HE1] at hcr
  refine hcr.mono ?_
  rintro r W4 ⟨rfl, hb1⟩
  replace HK := hide ((unhide HK).mono hb1 (unhide HK).lt); replace HS := hide ((unhide HS).mono hb1); replace HB := hide ((unhide HB).trans (hb1.mono (unhide HB).size)); replace HN := hide ((unhide HN).mono hb1)
  clear y0 y1 y2 y3 hb1 hcr HNr
  obtain ⟨y0, y1, y2, y3⟩ := quad (unhide HK)
  cases hn1 : namesOk (rNames m)
  · have HX : Hid (q = false) := hide (unhide HF0 fun v => by have := v.r; rw [hn1] at this; cases this)
    go_wp2_with fail
    go_ret
    exact ⟨ret_bool (unhide HX).symm, unhide HB⟩
  have HN2 := hide hn1
  clear hn1
  go_wp2_with fail
  have hcr := l3Distinct_any an cn (fNames m) W4 (by rw [← unhide HE2]; exact hfl) (fun x hx => by obtain ⟨y, hy, rfl⟩ := List.mem_map.1 hx; exact ((unhide HF).f y hy).nm) (unhide HN)
  rw [← unhide HE2] at hcr
  refine hcr.mono ?_
  rintro r W5 ⟨rfl, hb1⟩
  replace HK := hide ((unhide HK).mono hb1 (unhide HK).lt); replace HS := hide ((unhide HS).mono hb1); replace HB := hide ((unhide HB).trans (hb1.mono (unhide HB).size)); replace HN := hide ((unhide HN).mono hb1)
  clear y0 y1 y2 y3 hb1 hcr
  obtain ⟨y0, y1, y2, y3⟩ := quad (unhide HK)
  cases hn1 : namesOk (fNames m)
  · have HX : Hid (q = false) := hide (unhide HF0 fun v => by have := v.f; rw [hn1] at this; cases this)
    go_wp2_with fail
    go_ret
    exact ⟨ret_bool (unhide HX).symm, unhide HB⟩
  have HN3 := hide hn1
  clear hn1
  go_wp2_with fail
  clear y0 y1 y2 y3
  go_loopw [4] (fun i wr => ∃ (k : Nat), k ≤ m.below.length ∧ i = .int .i64 k ∧ (∀ j (h : j < m.below.length), j < k → inR m.labels.length m.below[j].1 = true ∧ inR m.labels.length m.below[j].2 = true) ∧ Below W5.heap.size W5 wr) (fun i _ => m.below.length - (intOf i).toNat)
  case atStart => exact ⟨0, Nat.zero_le _, rfl, fun j _ hj => absurd hj (Nat.not_lt_zero _), Below.refl _ _⟩
  case round =>
    obtain ⟨k, hk, rfl, hall, hb⟩ := hrel
    have HL := hide hall; have HB1 := hide hb; have HKr := hide ((unhide HK).mono hb (unhide HK).lt); have HSr := hide ((unhide HS).mono hb)
    have HBw := hide ((unhide HB).trans (hb.mono (unhide HB).size))
    obtain ⟨y0, y1, y2, y3⟩ := quad (unhide HKr)
    clear hall hb
    by_cases hlt : k < m.below.length
    · have hlt' : (k : Int) < m.below.length := by omega
      obtain ⟨pb, po, rfl, -, z0, z1⟩ := (unhide HSr).p k hlt
      have HD : Hid (Below w.heap.size w wr.drew) := hide (unhide HBw).drew
      have HM1 : Hid (VfA m → inR m.labels.length m.below[k].1 = true) := hide fun v => (v.p _ (List.getElem_mem hlt)).1
      have HM2 : Hid (VfA m → inR m.labels.length m.below[k].2 = true) := hide fun v => (v.p _ (List.getElem_mem hlt)).2
      have HL2 : Hid (inR m.labels.length m.below[k].1 = true → inR m.labels.length m.below[k].2 = true → ∀ j (h : j < m.below.length), j < k + 1 → inR m.labels.length m.below[j].1 = true ∧ inR m.labels.length m.below[j].2 = true) := hide fun g1 g2 j h hj => by
        by_cases ej : j = k
        · subst ej; exact ⟨g1, g2⟩
        · exact unhide HL j h (by omega)
      obtain ⟨x1, hx1⟩ : ∃ x1, m.below[k].1 = x1 := ⟨_, rfl⟩
      obtain ⟨x2, hx2⟩ : ∃ x2, m.below[k].2 = x2 := ⟨_, rfl⟩
      rw [hx1] at HM1 HL2 z0
      rw [hx2] at HM2 HL2 z1
      clear hx1 hx2
      by_cases hneg : x1 < 0
      · have HX : Hid (q = false) := hide (unhide HF0 fun v => by have := of_decide_eq_true (unhide HM1 v); omega)
        generalize x1 = x at *
        go_wp2_with fail
        refine wp_region_held_drew (S := fun w' => w'.cell? ⟨w.heap.size, 0, none⟩ = some (.slice al m.labels.length alc) ∧ w'.cell? ⟨w.heap.size, 1, none⟩ = some (.slice (some ⟨pb, po, none⟩) m.below.length apc) ∧ w'.cell? ⟨pb, po + k * 2, none⟩ = some (.int .i64 x)) (by kernel_rfl) ⟨y0, y1, z0⟩ (fun hHeld => ?_)
        refine takeY (i := 0) (v := .pointer (some ⟨w.heap.size, 1, none⟩)) 51 rfl rfl (by kernel_rfl) (by kernel_rfl) (by kernel_rfl) (fun _ _ _ _ h => h) (by rfl) (fun w hS => by simp [execOp, go_sem, *]) hHeld ?_
        simp only [List.setIfInBounds_toArray, List.set_cons_zero, List.set_cons_succ]
        refine takeY (i := 1) (v := .slice (some ⟨pb, po, none⟩) m.below.length apc) 52 rfl rfl (by kernel_rfl) (by kernel_rfl) (by kernel_rfl) (fun _ _ _ _ h => h) (by rfl) (fun w hS => by simp [execOp, go_sem, *]) hHeld ?_
        simp only [List.setIfInBounds_toArray, List.set_cons_zero, List.set_cons_succ]
        refine takeY (i := 2) (v := .int .i64 k) 53 rfl rfl (by kernel_rfl) (by kernel_rfl) (by kernel_rfl) (fun _ _ _ _ h => h) (by rfl) (fun w hS => by simp [execOp, go_sem, *]) hHeld ?_
        simp only [List.setIfInBounds_toArray, List.set_cons_zero, List.set_cons_succ]
        refine takeY (i := 3) (v := .pointer (some ⟨pb, po + k * 2, none⟩)) 54 rfl rfl (by kernel_rfl) (by kernel_rfl) (by kernel_rfl) (fun _ _ _ _ h => h) (by rfl) (fun w hS => by simp [execOp, go_sem, *]) hHeld ?_
        simp only [List.setIfInBounds_toArray, List.set_cons_zero, List.set_cons_succ]
        refine takeY (i := 4) (v := .pointer (some ⟨pb, po + k * 2, none⟩)) 55 rfl rfl (by kernel_rfl) (by kernel_rfl) (by kernel_rfl) (fun _ _ _ _ h => h) (by rfl) (fun w hS => by simp [execOp, go_sem, *]) hHeld ?_
        simp only [List.setIfInBounds_toArray, List.set_cons_zero, List.set_cons_succ]
        refine takeY (i := 5) (v := .int .i64 x) 56 rfl rfl (by kernel_rfl) (by kernel_rfl) (by kernel_rfl) (fun _ _ _ _ h => h) (by rfl) (fun w hS => by simp [execOp, go_sem, *]) hHeld ?_
        simp only [List.setIfInBounds_toArray, List.set_cons_zero, List.set_cons_succ]
        refine takeY (i := 6) (v := .bool true) 57 rfl rfl (by kernel_rfl) (by kernel_rfl) (by kernel_rfl) (fun _ _ _ _ h => h) (by rfl) (fun w hS => by simp [execOp, go_sem, *]) hHeld ?_
        simp only [List.setIfInBounds_toArray, List.set_cons_zero, List.set_cons_succ]
        refine takeY (i := 7) (v := .bool true) 58 rfl rfl (by kernel_rfl) (by kernel_rfl) (by kernel_rfl) (fun _ _ _ _ h => h) (by rfl) (fun w hS => by simp [execOp, go_sem, *]) hHeld ?_
        simp only [List.setIfInBounds_toArray, List.set_cons_zero, List.set_cons_succ]
        refine takeN (i := 8) 59 rfl rfl (by kernel_rfl) (by kernel_rfl) (by kernel_rfl) (fun _ _ _ _ h => h) (by rfl) hHeld ?_
        simp only [List.setIfInBounds_toArray, List.set_cons_zero, List.set_cons_succ]
        refine takeN (i := 9) 60 rfl rfl (by kernel_rfl) (by kernel_rfl) (by kernel_rfl) (fun _ _ _ _ h => h) (by rfl) hHeld ?_
        simp only [List.setIfInBounds_toArray, List.set_cons_zero, List.set_cons_succ]
        refine takeN (i := 10) 61 rfl rfl (by kernel_rfl) (by kernel_rfl) (by kernel_rfl) (fun _ _ _ _ h => h) (by rfl) hHeld ?_
        simp only [List.setIfInBounds_toArray, List.set_cons_zero, List.set_cons_succ]
        refine takeN (i := 11) 62 rfl rfl (by kernel_rfl) (by kernel_rfl) (by kernel_rfl) (fun _ _ _ _ h => h) (by rfl) hHeld ?_
        simp only [List.setIfInBounds_toArray, List.set_cons_zero, List.set_cons_succ]
        refine takeN (i := 12) 63 rfl rfl (by kernel_rfl) (by kernel_rfl) (by kernel_rfl) (fun _ _ _ _ h => h) (by rfl) hHeld ?_
        simp only [List.setIfInBounds_toArray, List.set_cons_zero, List.set_cons_succ]
        refine takeN (i := 13) 64 rfl rfl (by kernel_rfl) (by kernel_rfl) (by kernel_rfl) (fun _ _ _ _ h => h) (by rfl) hHeld ?_
        simp only [List.setIfInBounds_toArray, List.set_cons_zero, List.set_cons_succ]
        refine takeN (i := 14) 65 rfl rfl (by kernel_rfl) (by kernel_rfl) (by kernel_rfl) (fun _ _ _ _ h => h) (by rfl) hHeld ?_
        simp only [List.setIfInBounds_toArray, List.set_cons_zero, List.set_cons_succ]
        refine takeN (i := 15) 66 rfl rfl (by kernel_rfl) (by kernel_rfl) (by kernel_rfl) (fun _ _ _ _ h => h) (by rfl) hHeld ?_
        simp only [List.setIfInBounds_toArray, List.set_cons_zero, List.set_cons_succ]
        refine takeN (i := 16) 67 rfl rfl (by kernel_rfl) (by kernel_rfl) (by kernel_rfl) (fun _ _ _ _ h => h) (by rfl) hHeld ?_
        simp only [List.setIfInBounds_toArray, List.set_cons_zero, List.set_cons_succ]
        refine takeN (i := 17) 68 rfl rfl (by kernel_rfl) (by kernel_rfl) (by kernel_rfl) (fun _ _ _ _ h => h) (by rfl) hHeld ?_
        simp only [List.setIfInBounds_toArray, List.set_cons_zero, List.set_cons_succ]
        refine takeY (i := 18) (v := .bool true) 69 rfl rfl (by kernel_rfl) (by kernel_rfl) (by kernel_rfl) (fun _ _ _ _ h => h) (by rfl) (fun w hS => by simp [execOp, go_sem, *]) hHeld ?_
        simp only [List.setIfInBounds_toArray, List.set_cons_zero, List.set_cons_succ]
        refine wpAnyH_done (by kernel_rfl) ?_ _
        clear hHeld
        go_wp2_with fail
        go_ret
        exact ⟨ret_bool (unhide HX).symm, unhide HD⟩
      by_cases hbig : (m.labels.length : Int) ≤ x1
      · have HX : Hid (q = false) := hide (unhide HF0 fun v => by have := of_decide_eq_true (unhide HM1 v); omega)
        generalize x1 = x at *
        go_wp2_with fail
        refine wp_region_held_drew (S := fun w' => w'.cell? ⟨w.heap.size, 0, none⟩ = some (.slice al m.labels.length alc) ∧ w'.cell? ⟨w.heap.size, 1, none⟩ = some (.slice (some ⟨pb, po, none⟩) m.below.length apc) ∧ w'.cell? ⟨pb, po + k * 2, none⟩ = some (.int .i64 x)) (by kernel_rfl) ⟨y0, y1, z0⟩ (fun hHeld => ?_)
        refine takeY (i := 0) (v := .pointer (some ⟨w.heap.size, 1, none⟩)) 51 rfl rfl (by kernel_rfl) (by kernel_rfl) (by kernel_rfl) (fun _ _ _ _ h => h) (by rfl) (fun w hS => by simp [execOp, go_sem, *]) hHeld ?_
        simp only [List.setIfInBounds_toArray, List.set_cons_zero, List.set_cons_succ]
        refine takeY (i := 1) (v := .slice (some ⟨pb, po, none⟩) m.below.length apc) 52 rfl rfl (by kernel_rfl) (by kernel_rfl) (by kernel_rfl) (fun _ _ _ _ h => h) (by rfl) (fun w hS => by simp [execOp, go_sem, *]) hHeld ?_
        simp only [List.setIfInBounds_toArray, List.set_cons_zero, List.set_cons_succ]
        refine takeY (i := 2) (v := .int .i64 k) 53 rfl rfl (by kernel_rfl) (by kernel_rfl) (by kernel_rfl) (fun _ _ _ _ h => h) (by rfl) (fun w hS => by simp [execOp, go_sem, *]) hHeld ?_
        simp only [List.setIfInBounds_toArray, List.set_cons_zero, List.set_cons_succ]
        refine takeY (i := 3) (v := .pointer (some ⟨pb, po + k * 2, none⟩)) 54 rfl rfl (by kernel_rfl) (by kernel_rfl) (by kernel_rfl) (fun _ _ _ _ h => h) (by rfl) (fun w hS => by simp [execOp, go_sem, *]) hHeld ?_
        simp only [List.setIfInBounds_toArray, List.set_cons_zero, List.set_cons_succ]
        refine takeY (i := 4) (v := .pointer (some ⟨pb, po + k * 2, none⟩)) 55 rfl rfl (by kernel_rfl) (by kernel_rfl) (by kernel_rfl) (fun _ _ _ _ h => h) (by rfl) (fun w hS => by simp [execOp, go_sem, *]) hHeld ?_
        simp only [List.setIfInBounds_toArray, List.set_cons_zero, List.set_cons_succ]
        refine takeY (i := 5) (v := .int .i64 x) 56 rfl rfl (by kernel_rfl) (by kernel_rfl) (by kernel_rfl) (fun _ _ _ _ h => h) (by rfl) (fun w hS => by simp [execOp, go_sem, *]) hHeld ?_
        simp only [List.setIfInBounds_toArray, List.set_cons_zero, List.set_cons_succ]
        refine takeY (i := 6) (v := .bool false) 57 rfl rfl (by kernel_rfl) (by kernel_rfl) (by kernel_rfl) (fun _ _ _ _ h => h) (by rfl) (fun w hS => by simp [execOp, go_sem, *]) hHeld ?_
        simp only [List.setIfInBounds_toArray, List.set_cons_zero, List.set_cons_succ]
        refine takeY (i := 7) (v := .bool false) 58 rfl rfl (by kernel_rfl) (by kernel_rfl) (by kernel_rfl) (fun _ _ _ _ h => h) (by rfl) (fun w hS => by simp [execOp, go_sem, *]) hHeld ?_
        simp only [List.setIfInBounds_toArray, List.set_cons_zero, List.set_cons_succ]
        refine takeY (i := 8) (v := .pointer (some ⟨w.heap.size, 1, none⟩)) 59 rfl rfl (by kernel_rfl) (by kernel_rfl) (by kernel_rfl) (fun _ _ _ _ h => h) (by rfl) (fun w hS => by simp [execOp, go_sem, *]) hHeld ?_
        simp only [List.setIfInBounds_toArray, List.set_cons_zero, List.set_cons_succ]
        refine takeY (i := 9) (v := .slice (some ⟨pb, po, none⟩) m.below.length apc) 60 rfl rfl (by kernel_rfl) (by kernel_rfl) (by kernel_rfl) (fun _ _ _ _ h => h) (by rfl) (fun w hS => by simp [execOp, go_sem, *]) hHeld ?_
        simp only [List.setIfInBounds_toArray, List.set_cons_zero, List.set_cons_succ]
        refine takeY (i := 10) (v := .int .i64 k) 61 rfl rfl (by kernel_rfl) (by kernel_rfl) (by kernel_rfl) (fun _ _ _ _ h => h) (by rfl) (fun w hS => by simp [execOp, go_sem, *]) hHeld ?_
        simp only [List.setIfInBounds_toArray, List.set_cons_zero, List.set_cons_succ]
        refine takeY (i := 11) (v := .pointer (some ⟨pb, po + k * 2, none⟩)) 62 rfl rfl (by kernel_rfl) (by kernel_rfl) (by kernel_rfl) (fun _ _ _ _ h => h) (by rfl) (fun w hS => by simp [execOp, go_sem, *]) hHeld ?_
        simp only [List.setIfInBounds_toArray, List.set_cons_zero, List.set_cons_succ]
        refine takeY (i := 12) (v := .pointer (some ⟨pb, po + k * 2, none⟩)) 63 rfl rfl (by kernel_rfl) (by kernel_rfl) (by kernel_rfl) (fun _ _ _ _ h => h) (by rfl) (fun w hS => by simp [execOp, go_sem, *]) hHeld ?_
        simp only [List.setIfInBounds_toArray, List.set_cons_zero, List.set_cons_succ]
        refine takeY (i := 13) (v := .int .i64 x) 64 rfl rfl (by kernel_rfl) (by kernel_rfl) (by kernel_rfl) (fun _ _ _ _ h => h) (by rfl) (fun w hS => by simp [execOp, go_sem, *]) hHeld ?_
        simp only [List.setIfInBounds_toArray, List.set_cons_zero, List.set_cons_succ]
        refine takeY (i := 14) (v := .pointer (some ⟨w.heap.size, 0, none⟩)) 65 rfl rfl (by kernel_rfl) (by kernel_rfl) (by kernel_rfl) (fun _ _ _ _ h => h) (by rfl) (fun w hS => by simp [execOp, go_sem, *]) hHeld ?_
        simp only [List.setIfInBounds_toArray, List.set_cons_zero, List.set_cons_succ]
        refine takeY (i := 15) (v := .slice al m.labels.length alc) 66 rfl rfl (by kernel_rfl) (by kernel_rfl) (by kernel_rfl) (fun _ _ _ _ h => h) (by rfl) (fun w hS => by simp [execOp, go_sem, *]) hHeld ?_
        simp only [List.setIfInBounds_toArray, List.set_cons_zero, List.set_cons_succ]
        refine takeY (i := 16) (v := .int .i64 m.labels.length) 67 rfl rfl (by kernel_rfl) (by kernel_rfl) (by kernel_rfl) (fun _ _ _ _ h => h) (by rfl) (fun w hS => by simp [execOp, go_sem, *]) hHeld ?_
        simp only [List.setIfInBounds_toArray, List.set_cons_zero, List.set_cons_succ]
        refine takeY (i := 17) (v := .bool true) 68 rfl rfl (by kernel_rfl) (by kernel_rfl) (by kernel_rfl) (fun _ _ _ _ h => h) (by rfl) (fun w hS => by simp [execOp, go_sem, *]) hHeld ?_
        simp only [List.setIfInBounds_toArray, List.set_cons_zero, List.set_cons_succ]
        refine takeY (i := 18) (v := .bool true) 69 rfl rfl (by kernel_rfl) (by kernel_rfl) (by kernel_rfl) (fun _ _ _ _ h => h) (by rfl) (fun w hS => by simp [execOp, go_sem, *]) hHeld ?_
        simp only [List.setIfInBounds_toArray, List.set_cons_zero, List.set_cons_succ]
        refine wpAnyH_done (by kernel_rfl) ?_ _
        clear hHeld
        go_wp2_with fail
        go_ret
        exact ⟨ret_bool (unhide HX).symm, unhide HD⟩
      have HG1 : Hid (inR m.labels.length x1 = true) := hide (inR_of (by omega) (by omega))
      go_wp2_with fail
      refine wp_region_held_drew (S := fun w' => w'.cell? ⟨w.heap.size, 0, none⟩ = some (.slice al m.labels.length alc) ∧ w'.cell? ⟨w.heap.size, 1, none⟩ = some (.slice (some ⟨pb, po, none⟩) m.below.length apc) ∧ w'.cell? ⟨pb, po + k * 2, none⟩ = some (.int .i64 x1)) (by kernel_rfl) ⟨y0, y1, z0⟩ (fun hHeld => ?_)
      refine takeY (i := 0) (v := .pointer (some ⟨w.heap.size, 1, none⟩)) 51 rfl rfl (by kernel_rfl) (by kernel_rfl) (by kernel_rfl) (fun _ _ _ _ h => h) (by rfl) (fun w hS => by simp [execOp, go_sem, *]) hHeld ?_
      simp only [List.setIfInBounds_toArray, List.set_cons_zero, List.set_cons_succ]
      refine takeY (i := 1) (v := .slice (some ⟨pb, po, none⟩) m.below.length apc) 52 rfl rfl (by kernel_rfl) (by kernel_rfl) (by kernel_rfl) (fun _ _ _ _ h => h) (by rfl) (fun w hS => by simp [execOp, go_sem, *]) hHeld ?_
      simp only [List.setIfInBounds_toArray, List.set_cons_zero, List.set_cons_succ]
      refine takeY (i := 2) (v := .int .i64 k) 53 rfl rfl (by kernel_rfl) (by kernel_rfl) (by kernel_rfl) (fun _ _ _ _ h => h) (by rfl) (fun w hS => by simp [execOp, go_sem, *]) hHeld ?_
      simp only [List.setIfInBounds_toArray, List.set_cons_zero, List.set_cons_succ]
      refine takeY (i := 3) (v := .pointer (some ⟨pb, po + k * 2, none⟩)) 54 rfl rfl (by kernel_rfl) (by kernel_rfl) (by kernel_rfl) (fun _ _ _ _ h => h) (by rfl) (fun w hS => by simp [execOp, go_sem, *]) hHeld ?_
      simp only [List.setIfInBounds_toArray, List.set_cons_zero, List.set_cons_succ]
      refine takeY (i := 4) (v := .pointer (some ⟨pb, po + k * 2, none⟩)) 55 rfl rfl (by kernel_rfl) (by kernel_rfl) (by kernel_rfl) (fun _ _ _ _ h => h) (by rfl) (fun w hS => by simp [execOp, go_sem, *]) hHeld ?_
      simp only [List.setIfInBounds_toArray, List.set_cons_zero, List.set_cons_succ]
      refine takeY (i := 5) (v := .int .i64 x1) 56 rfl rfl (by kernel_rfl) (by kernel_rfl) (by kernel_rfl) (fun _ _ _ _ h => h) (by rfl) (fun w hS => by simp [execOp, go_sem, *]) hHeld ?_
      simp only [List.setIfInBounds_toArray, List.set_cons_zero, List.set_cons_succ]
      refine takeY (i := 6) (v := .bool false) 57 rfl rfl (by kernel_rfl) (by kernel_rfl) (by kernel_rfl) (fun _ _ _ _ h => h) (by rfl) (fun w hS => by simp [execOp, go_sem, *]) hHeld ?_
      simp only [List.setIfInBounds_toArray, List.set_cons_zero, List.set_cons_succ]
      refine takeY (i := 7) (v := .bool false) 58 rfl rfl (by kernel_rfl) (by kernel_rfl) (by kernel_rfl) (fun _ _ _ _ h => h) (by rfl) (fun w hS => by simp [execOp, go_sem, *]) hHeld ?_
      simp only [List.setIfInBounds_toArray, List.set_cons_zero, List.set_cons_succ]
      refine takeY (i := 8) (v := .pointer (some ⟨w.heap.size, 1, none⟩)) 59 rfl rfl (by kernel_rfl) (by kernel_rfl) (by kernel_rfl) (fun _ _ _ _ h => h) (by rfl) (fun w hS => by simp [execOp, go_sem, *]) hHeld ?_
      simp only [List.setIfInBounds_toArray, List.set_cons_zero, List.set_cons_succ]
      refine takeY (i := 9) (v := .slice (some ⟨pb, po, none⟩) m.below.length apc) 60 rfl rfl (by kernel_rfl) (by kernel_rfl) (by kernel_rfl) (fun _ _ _ _ h => h) (by rfl) (fun w hS => by simp [execOp, go_sem, *]) hHeld ?_
      simp only [List.setIfInBounds_toArray, List.set_cons_zero, List.set_cons_succ]
      refine takeY (i := 10) (v := .int .i64 k) 61 rfl rfl (by kernel_rfl) (by kernel_rfl) (by kernel_rfl) (fun _ _ _ _ h => h) (by rfl) (fun w hS => by simp [execOp, go_sem, *]) hHeld ?_
      simp only [List.setIfInBounds_toArray, List.set_cons_zero, List.set_cons_succ]
      refine takeY (i := 11) (v := .pointer (some ⟨pb, po + k * 2, none⟩)) 62 rfl rfl (by kernel_rfl) (by kernel_rfl) (by kernel_rfl) (fun _ _ _ _ h => h) (by rfl) (fun w hS => by simp [execOp, go_sem, *]) hHeld ?_
      simp only [List.setIfInBounds_toArray, List.set_cons_zero, List.set_cons_succ]
      refine takeY (i := 12) (v := .pointer (some ⟨pb, po + k * 2, none⟩)) 63 rfl rfl (by kernel_rfl) (by kernel_rfl) (by kernel_rfl) (fun _ _ _ _ h => h) (by rfl) (fun w hS => by simp [execOp, go_sem, *]) hHeld ?_
      simp only [List.setIfInBounds_toArray, List.set_cons_zero, List.set_cons_succ]
      refine takeY (i := 13) (v := .int .i64 x1) 64 rfl rfl (by kernel_rfl) (by kernel_rfl) (by kernel_rfl) (fun _ _ _ _ h => h) (by rfl) (fun w hS => by simp [execOp, go_sem, *]) hHeld ?_
      simp only [List.setIfInBounds_toArray, List.set_cons_zero, List.set_cons_succ]
      refine takeY (i := 14) (v := .pointer (some ⟨w.heap.size, 0, none⟩)) 65 rfl rfl (by kernel_rfl) (by kernel_rfl) (by kernel_rfl) (fun _ _ _ _ h => h) (by rfl) (fun w hS => by simp [execOp, go_sem, *]) hHeld ?_
      simp only [List.setIfInBounds_toArray, List.set_cons_zero, List.set_cons_succ]
      refine takeY (i := 15) (v := .slice al m.labels.length alc) 66 rfl rfl (by kernel_rfl) (by kernel_rfl) (by kernel_rfl) (fun _ _ _ _ h => h) (by rfl) (fun w hS => by simp [execOp, go_sem, *]) hHeld ?_
      simp only [List.setIfInBounds_toArray, List.set_cons_zero, List.set_cons_succ]
      refine takeY (i := 16) (v := .int .i64 m.labels.length) 67 rfl rfl (by kernel_rfl) (by kernel_rfl) (by kernel_rfl) (fun _ _ _ _ h => h) (by rfl) (fun w hS => by simp [execOp, go_sem, *]) hHeld ?_
      simp only [List.setIfInBounds_toArray, List.set_cons_zero, List.set_cons_succ]
      refine takeY (i := 17) (v := .bool false) 68 rfl rfl (by kernel_rfl) (by kernel_rfl) (by kernel_rfl) (fun _ _ _ _ h => h) (by rfl) (fun w hS => by simp [execOp, go_sem, *]) hHeld ?_
      simp only [List.setIfInBounds_toArray, List.set_cons_zero, List.set_cons_succ]
      refine takeY (i := 18) (v := .bool false) 69 rfl rfl (by kernel_rfl) (by kernel_rfl) (by kernel_rfl) (fun _ _ _ _ h => h) (by rfl) (fun w hS => by simp [execOp, go_sem, *]) hHeld ?_
      simp only [List.setIfInBounds_toArray, List.set_cons_zero, List.set_cons_succ]
      refine wpAnyH_done (by kernel_rfl) ?_ _
      clear hHeld
      have HDd : Hid (Below wr.heap.size wr wr.drew) := hide (Below.refl _ _).drew
      replace y0 := ((unhide HDd).cell (p := ⟨w.heap.size, 0, none⟩) (unhide HKr).lt).trans y0
      replace y1 := ((unhide HDd).cell (p := ⟨w.heap.size, 1, none⟩) (unhide HKr).lt).trans y1
      obtain ⟨b', o', he', hlt2, -, z1'⟩ := (unhide HSr).p k hlt
      cases he'
      replace z1 := ((unhide HDd).cell (p := ⟨pb, po + k * 2 + 1, none⟩) hlt2).trans z1
      replace HD : Hid (Below w.heap.size w wr.drew.drew) := hide (unhide HD).drew
      replace HB1 : Hid (Below W5.heap.size W5 wr.drew.drew) := hide (unhide HB1).drew.drew
      clear z0 y2 y3 hneg hbig z1'
      obtain ⟨V, hV⟩ : ∃ V, wr.drew = V := ⟨_, rfl⟩
      rw [hV] at y0 y1 z1 HD HB1 ⊢
      clear hV
      by_cases hneg : x2 < 0
      · have HX : Hid (q = false) := hide (unhide HF0 fun v => by have := of_decide_eq_true (unhide HM2 v); omega)
        generalize x2 = x at *
        go_wp2_with fail
        refine wp_region_held_drew (S := fun w' => w'.cell? ⟨w.heap.size, 0, none⟩ = some (.slice al m.labels.length alc) ∧ w'.cell? ⟨w.heap.size, 1, none⟩ = some (.slice (some ⟨pb, po, none⟩) m.below.length apc) ∧ w'.cell? ⟨pb, po + k * 2 + 1, none⟩ = some (.int .i64 x)) (by kernel_rfl) ⟨y0, y1, z1⟩ (fun hHeld => ?_)
        refine takeY (i := 0) (v := .pointer (some ⟨w.heap.size, 1, none⟩)) 70 rfl rfl (by kernel_rfl) (by kernel_rfl) (by kernel_rfl) (fun _ _ _ _ h => h) (by rfl) (fun w hS => by simp [execOp, go_sem, *]) hHeld ?_
        simp only [List.setIfInBounds_toArray, List.set_cons_zero, List.set_cons_succ]
        refine takeY (i := 1) (v := .slice (some ⟨pb, po, none⟩) m.below.length apc) 71 rfl rfl (by kernel_rfl) (by kernel_rfl) (by kernel_rfl) (fun _ _ _ _ h => h) (by rfl) (fun w hS => by simp [execOp, go_sem, *]) hHeld ?_
        simp only [List.setIfInBounds_toArray, List.set_cons_zero, List.set_cons_succ]
        refine takeY (i := 2) (v := .int .i64 k) 72 rfl rfl (by kernel_rfl) (by kernel_rfl) (by kernel_rfl) (fun _ _ _ _ h => h) (by rfl) (fun w hS => by simp [execOp, go_sem, *]) hHeld ?_
        simp only [List.setIfInBounds_toArray, List.set_cons_zero, List.set_cons_succ]
        refine takeY (i := 3) (v := .pointer (some ⟨pb, po + k * 2, none⟩)) 73 rfl rfl (by kernel_rfl) (by kernel_rfl) (by kernel_rfl) (fun _ _ _ _ h => h) (by rfl) (fun w hS => by simp [execOp, go_sem, *]) hHeld ?_
        simp only [List.setIfInBounds_toArray, List.set_cons_zero, List.set_cons_succ]
        refine takeY (i := 4) (v := .pointer (some ⟨pb, po + k * 2 + 1, none⟩)) 74 rfl rfl (by kernel_rfl) (by kernel_rfl) (by kernel_rfl) (fun _ _ _ _ h => h) (by rfl) (fun w hS => by simp [execOp, go_sem, *]) hHeld ?_
        simp only [List.setIfInBounds_toArray, List.set_cons_zero, List.set_cons_succ]
        refine takeY (i := 5) (v := .int .i64 x) 75 rfl rfl (by kernel_rfl) (by kernel_rfl) (by kernel_rfl) (fun _ _ _ _ h => h) (by rfl) (fun w hS => by simp [execOp, go_sem, *]) hHeld ?_
        simp only [List.setIfInBounds_toArray, List.set_cons_zero, List.set_cons_succ]
        refine takeY (i := 6) (v := .bool true) 76 rfl rfl (by kernel_rfl) (by kernel_rfl) (by kernel_rfl) (fun _ _ _ _ h => h) (by rfl) (fun w hS => by simp [execOp, go_sem, *]) hHeld ?_
        simp only [List.setIfInBounds_toArray, List.set_cons_zero, List.set_cons_succ]
        refine takeY (i := 7) (v := .bool true) 77 rfl rfl (by kernel_rfl) (by kernel_rfl) (by kernel_rfl) (fun _ _ _ _ h => h) (by rfl) (fun w hS => by simp [execOp, go_sem, *]) hHeld ?_
        simp only [List.setIfInBounds_toArray, List.set_cons_zero, List.set_cons_succ]
        refine takeN (i := 8) 78 rfl rfl (by kernel_rfl) (by kernel_rfl) (by kernel_rfl) (fun _ _ _ _ h => h) (by rfl) hHeld ?_
        simp only [List.setIfInBounds_toArray, List.set_cons_zero, List.set_cons_succ]
        refine takeN (i := 9) 79 rfl rfl (by kernel_rfl) (by kernel_rfl) (by kernel_rfl) (fun _ _ _ _ h => h) (by rfl) hHeld ?_
        simp only [List.setIfInBounds_toArray, List.set_cons_zero, List.set_cons_succ]
        refine takeN (i := 10) 80 rfl rfl (by kernel_rfl) (by kernel_rfl) (by kernel_rfl) (fun _ _ _ _ h => h) (by rfl) hHeld ?_
        simp only [List.setIfInBounds_toArray, List.set_cons_zero, List.set_cons_succ]
        refine takeN (i := 11) 81 rfl rfl (by kernel_rfl) (by kernel_rfl) (by kernel_rfl) (fun _ _ _ _ h => h) (by rfl) hHeld ?_
        simp only [List.setIfInBounds_toArray, List.set_cons_zero, List.set_cons_succ]
        refine takeN (i := 12) 82 rfl rfl (by kernel_rfl) (by kernel_rfl) (by kernel_rfl) (fun _ _ _ _ h => h) (by rfl) hHeld ?_
        simp only [List.setIfInBounds_toArray, List.set_cons_zero, List.set_cons_succ]
        refine takeN (i := 13) 83 rfl rfl (by kernel_rfl) (by kernel_rfl) (by kernel_rfl) (fun _ _ _ _ h => h) (by rfl) hHeld ?_
        simp only [List.setIfInBounds_toArray, List.set_cons_zero, List.set_cons_succ]
        refine takeN (i := 14) 84 rfl rfl (by kernel_rfl) (by kernel_rfl) (by kernel_rfl) (fun _ _ _ _ h => h) (by rfl) hHeld ?_
        simp only [List.setIfInBounds_toArray, List.set_cons_zero, List.set_cons_succ]
        refine takeN (i := 15) 85 rfl rfl (by kernel_rfl) (by kernel_rfl) (by kernel_rfl) (fun _ _ _ _ h => h) (by rfl) hHeld ?_
        simp only [List.setIfInBounds_toArray, List.set_cons_zero, List.set_cons_succ]
        refine takeN (i := 16) 86 rfl rfl (by kernel_rfl) (by kernel_rfl) (by kernel_rfl) (fun _ _ _ _ h => h) (by rfl) hHeld ?_
        simp only [List.setIfInBounds_toArray, List.set_cons_zero, List.set_cons_succ]
        refine takeN (i := 17) 87 rfl rfl (by kernel_rfl) (by kernel_rfl) (by kernel_rfl) (fun _ _ _ _ h => h) (by rfl) hHeld ?_
        simp only [List.setIfInBounds_toArray, List.set_cons_zero, List.set_cons_succ]
        refine takeY (i := 18) (v := .bool true) 88 rfl rfl (by kernel_rfl) (by kernel_rfl) (by kernel_rfl) (fun _ _ _ _ h => h) (by rfl) (fun w hS => by simp [execOp, go_sem, *]) hHeld ?_
        simp only [List.setIfInBounds_toArray, List.set_cons_zero, List.set_cons_succ]
        refine wpAnyH_done (by kernel_rfl) ?_ _
        clear hHeld
        go_wp2_with fail
        go_ret
        exact ⟨ret_bool (unhide HX).symm, unhide HD⟩
      by_cases hbig : (m.labels.length : Int) ≤ x2
      · have HX : Hid (q = false) := hide (unhide HF0 fun v => by have := of_decide_eq_true (unhide HM2 v); omega)
        generalize x2 = x at *
        go_wp2_with fail
        refine wp_region_held_drew (S := fun w' => w'.cell? ⟨w.heap.size, 0, none⟩ = some (.slice al m.labels.length alc) ∧ w'.cell? ⟨w.heap.size, 1, none⟩ = some (.slice (some ⟨pb, po, none⟩) m.below.length apc) ∧ w'.cell? ⟨pb, po + k * 2 + 1, none⟩ = some (.int .i64 x)) (by kernel_rfl) ⟨y0, y1, z1⟩ (fun hHeld => ?_)
        refine takeY (i := 0) (v := .pointer (some ⟨w.heap.size, 1, none⟩)) 70 rfl rfl (by kernel_rfl) (by kernel_rfl) (by kernel_rfl) (fun _ _ _ _ h => h) (by rfl) (fun w hS => by simp [execOp, go_sem, *]) hHeld ?_
        simp only [List.setIfInBounds_toArray, List.set_cons_zero, List.set_cons_succ]
        refine takeY (i := 1) (v := .slice (some ⟨pb, po, none⟩) m.below.length apc) 71 rfl rfl (by kernel_rfl) (by kernel_rfl) (by kernel_rfl) (fun _ _ _ _ h => h) (by rfl) (fun w hS => by simp [execOp, go_sem, *]) hHeld ?_
        simp only [List.setIfInBounds_toArray, List.set_cons_zero, List.set_cons_succ]
        refine takeY (i := 2) (v := .int .i64 k) 72 rfl rfl (by kernel_rfl) (by kernel_rfl) (by kernel_rfl) (fun _ _ _ _ h => h) (by rfl) (fun w hS => by simp [execOp, go_sem, *]) hHeld ?_
        simp only [List.setIfInBounds_toArray, List.set_cons_zero, List.set_cons_succ]
        refine takeY (i := 3) (v := .pointer (some ⟨pb, po + k * 2, none⟩)) 73 rfl rfl (by kernel_rfl) (by kernel_rfl) (by kernel_rfl) (fun _ _ _ _ h => h) (by rfl) (fun w hS => by simp [execOp, go_sem, *]) hHeld ?_
        simp only [List.setIfInBounds_toArray, List.set_cons_zero, List.set_cons_succ]
        refine takeY (i := 4) (v := .pointer (some ⟨pb, po + k * 2 + 1, none⟩)) 74 rfl rfl (by kernel_rfl) (by kernel_rfl) (by kernel_rfl) (fun _ _ _ _ h => h) (by rfl) (fun w hS => by simp [execOp, go_sem, *]) hHeld ?_
        simp only [List.setIfInBounds_toArray, List.set_cons_zero, List.set_cons_succ]
        refine takeY (i := 5) (v := .int .i64 x) 75 rfl rfl (by kernel_rfl) (by kernel_rfl) (by kernel_rfl) (fun _ _ _ _ h => h) (by rfl) (fun w hS => by simp [execOp, go_sem, *]) hHeld ?_
        simp only [List.setIfInBounds_toArray, List.set_cons_zero, List.set_cons_succ]
        refine takeY (i := 6) (v := .bool false) 76 rfl rfl (by kernel_rfl) (by kernel_rfl) (by kernel_rfl) (fun _ _ _ _ h => h) (by rfl) (fun w hS => by simp [execOp, go_sem, *]) hHeld ?_
        simp only [List.setIfInBounds_toArray, List.set_cons_zero, List.set_cons_succ]
        refine takeY (i := 7) (v := .bool false) 77 rfl rfl (by kernel_rfl) (by kernel_rfl) (by kernel_rfl) (fun _ _ _ _ h => h) (by rfl) (fun w hS => by simp [execOp, go_sem, *]) hHeld ?_
        simp only [List.setIfInBounds_toArray, List.set_cons_zero, List.set_cons_succ]
        refine takeY (i := 8) (v := .pointer (some ⟨w.heap.size, 1, none⟩)) 78 rfl rfl (by kernel_rfl) (by kernel_rfl) (by kernel_rfl) (fun _ _ _ _ h => h) (by rfl) (fun w hS => by simp [execOp, go_sem, *]) hHeld ?_
        simp only [List.setIfInBounds_toArray, List.set_cons_zero, List.set_cons_succ]
        refine takeY (i := 9) (v := .slice (some ⟨pb, po, none⟩) m.below.length apc) 79 rfl rfl (by kernel_rfl) (by kernel_rfl) (by kernel_rfl) (fun _ _ _ _ h => h) (by rfl) (fun w hS => by simp [execOp, go_sem, *]) hHeld ?_
        simp only [List.setIfInBounds_toArray, List.set_cons_zero, List.set_cons_succ]
        refine takeY (i := 10) (v := .int .i64 k) 80 rfl rfl (by kernel_rfl) (by kernel_rfl) (by kernel_rfl) (fun _ _ _ _ h => h) (by rfl) (fun w hS => by simp [execOp, go_sem, *]) hHeld ?_
        simp only [List.setIfInBounds_toArray, List.set_cons_zero, List.set_cons_succ]
        refine takeY (i := 11) (v := .pointer (some ⟨pb, po + k * 2, none⟩)) 81 rfl rfl (by kernel_rfl) (by kernel_rfl) (by kernel_rfl) (fun _ _ _ _ h => h) (by rfl) (fun w hS => by simp [execOp, go_sem, *]) hHeld ?_
        simp only [List.setIfInBounds_toArray, List.set_cons_zero, List.set_cons_succ]
        refine takeY (i := 12) (v := .pointer (some ⟨pb, po + k * 2 + 1, none⟩)) 82 rfl rfl (by kernel_rfl) (by kernel_rfl) (by kernel_rfl) (fun _ _ _ _ h => h) (by rfl) (fun w hS => by simp [execOp, go_sem, *]) hHeld ?_
        simp only [List.setIfInBounds_toArray, List.set_cons_zero, List.set_cons_succ]
        refine takeY (i := 13) (v := .int .i64 x) 83 rfl rfl (by kernel_rfl) (by kernel_rfl) (by kernel_rfl) (fun _ _ _ _ h => h) (by rfl) (fun w hS => by simp [execOp, go_sem, *]) hHeld ?_
        simp only [List.setIfInBounds_toArray, List.set_cons_zero, List.set_cons_succ]
        refine takeY (i := 14) (v := .pointer (some ⟨w.heap.size, 0, none⟩)) 84 rfl rfl (by kernel_rfl) (by kernel_rfl) (by kernel_rfl) (fun _ _ _ _ h => h) (by rfl) (fun w hS => by simp [execOp, go_sem, *]) hHeld ?_
        simp only [List.setIfInBounds_toArray, List.set_cons_zero, List.set_cons_succ]
        refine takeY (i := 15) (v := .slice al m.labels.length alc) 85 rfl rfl (by kernel_rfl) (by kernel_rfl) (by kernel_rfl) (fun _ _ _ _ h => h) (by rfl) (fun w hS => by simp [execOp, go_sem, *]) hHeld ?_
        simp only [List.setIfInBounds_toArray, List.set_cons_zero, List.set_cons_succ]
        refine takeY (i := 16) (v := .int .i64 m.labels.length) 86 rfl rfl (by kernel_rfl) (by kernel_rfl) (by kernel_rfl) (fun _ _ _ _ h => h) (by rfl) (fun w hS => by simp [execOp, go_sem, *]) hHeld ?_
        simp only [List.setIfInBounds_toArray, List.set_cons_zero, List.set_cons_succ]
        refine takeY (i := 17) (v := .bool true) 87 rfl rfl (by kernel_rfl) (by kernel_rfl) (by kernel_rfl) (fun _ _ _ _ h => h) (by rfl) (fun w hS => by simp [execOp, go_sem, *]) hHeld ?_
        simp only [List.setIfInBounds_toArray, List.set_cons_zero, List.set_cons_succ]
        refine takeY (i := 18) (v := .bool true) 88 rfl rfl (by kernel_rfl) (by kernel_rfl) (by kernel_rfl) (fun _ _ _ _ h => h) (by rfl) (fun w hS => by simp [execOp, go_sem, *]) hHeld ?_
        simp only [List.setIfInBounds_toArray, List.set_cons_zero, List.set_cons_succ]
        refine wpAnyH_done (by kernel_rfl) ?_ _
        clear hHeld
        go_wp2_with fail
        go_ret
        exact ⟨ret_bool (unhide HX).symm, unhide HD⟩
      have HG2 : Hid (inR m.labels.length x2 = true) := hide (inR_of (by omega) (by omega))
      have HL3 := hide (unhide HL2 (unhide HG1) (unhide HG2))
      go_wp2_with fail
      refine wp_region_held_drew (S := fun w' => w'.cell? ⟨w.heap.size, 0, none⟩ = some (.slice al m.labels.length alc) ∧ w'.cell? ⟨w.heap.size, 1, none⟩ = some (.slice (some ⟨pb, po, none⟩) m.below.length apc) ∧ w'.cell? ⟨pb, po + k * 2 + 1, none⟩ = some (.int .i64 x2)) (by kernel_rfl) ⟨y0, y1, z1⟩ (fun hHeld => ?_)
      refine takeY (i := 0) (v := .pointer (some ⟨w.heap.size, 1, none⟩)) 70 rfl rfl (by kernel_rfl) (by kernel_rfl) (by kernel_rfl) (fun _ _ _ _ h => h) (by rfl) (fun w hS => by simp [execOp, go_sem, *]) hHeld ?_
      simp only [List.setIfInBounds_toArray, List.set_cons_zero, List.set_cons_succ]
      refine takeY (i := 1) (v := .slice (some ⟨pb, po, none⟩) m.below.length apc) 71 rfl rfl (by kernel_rfl) (by kernel_rfl) (by kernel_rfl) (fun _ _ _ _ h => h) (by rfl) (fun w hS => by simp [execOp, go_sem, *]) hHeld ?_
      simp only [List.setIfInBounds_toArray, List.set_cons_zero, List.set_cons_succ]
      refine takeY (i := 2) (v := .int .i64 k) 72 rfl rfl (by kernel_rfl) (by kernel_rfl) (by kernel_rfl) (fun _ _ _ _ h => h) (by rfl) (fun w hS => by simp [execOp, go_sem, *]) hHeld ?_
      simp only [List.setIfInBounds_toArray, List.set_cons_zero, List.set_cons_succ]
      refine takeY (i := 3) (v := .pointer (some ⟨pb, po + k * 2, none⟩)) 73 rfl rfl (by kernel_rfl) (by kernel_rfl) (by kernel_rfl) (fun _ _ _ _ h => h) (by rfl) (fun w hS => by simp [execOp, go_sem, *]) hHeld ?_
      simp only [List.setIfInBounds_toArray, List.set_cons_zero, List.set_cons_succ]
      refine takeY (i := 4) (v := .pointer (some ⟨pb, po + k * 2 + 1, none⟩)) 74 rfl rfl (by kernel_rfl) (by kernel_rfl) (by kernel_rfl) (fun _ _ _ _ h => h) (by rfl) (fun w hS => by simp [execOp, go_sem, *]) hHeld ?_
      simp only [List.setIfInBounds_toArray, List.set_cons_zero, List.set_cons_succ]
      refine takeY (i := 5) (v := .int .i64 x2) 75 rfl rfl (by kernel_rfl) (by kernel_rfl) (by kernel_rfl) (fun _ _ _ _ h => h) (by rfl) (fun w hS => by simp [execOp, go_sem, *]) hHeld ?_
      simp only [List.setIfInBounds_toArray, List.set_cons_zero, List.set_cons_succ]
      refine takeY (i := 6) (v := .bool false) 76 rfl rfl (by kernel_rfl) (by kernel_rfl) (by kernel_rfl) (fun _ _ _ _ h => h) (by rfl) (fun w hS => by simp [execOp, go_sem, *]) hHeld ?_
      simp only [List.setIfInBounds_toArray, List.set_cons_zero, List.set_cons_succ]
      refine takeY (i := 7) (v := .bool false) 77 rfl rfl (by kernel_rfl) (by kernel_rfl) (by kernel_rfl) (fun _ _ _ _ h => h) (by rfl) (fun w hS => by simp [execOp, go_sem, *]) hHeld ?_
      simp only [List.setIfInBounds_toArray, List.set_cons_zero, List.set_cons_succ]
      refine takeY (i := 8) (v := .pointer (some ⟨w.heap.size, 1, none⟩)) 78 rfl rfl (by kernel_rfl) (by kernel_rfl) (by kernel_rfl) (fun _ _ _ _ h => h) (by rfl) (fun w hS => by simp [execOp, go_sem, *]) hHeld ?_
      simp only [List.setIfInBounds_toArray, List.set_cons_zero, List.set_cons_succ]
      refine takeY (i := 9) (v := .slice (some ⟨pb, po, none⟩) m.below.length apc) 79 rfl rfl (by kernel_rfl) (by kernel_rfl) (by kernel_rfl) (fun _ _ _ _ h => h) (by rfl) (fun w hS => by simp [execOp, go_sem, *]) hHeld ?_
      simp only [List.setIfInBounds_toArray, List.set_cons_zero, List.set_cons_succ]
      refine takeY (i := 10) (v := .int .i64 k) 80 rfl rfl (by kernel_rfl) (by kernel_rfl) (by kernel_rfl) (fun _ _ _ _ h => h) (by rfl) (fun w hS => by simp [execOp, go_sem, *]) hHeld ?_
      simp only [List.setIfInBounds_toArray, List.set_cons_zero, List.set_cons_succ]
      refine takeY (i := 11) (v := .pointer (some ⟨pb, po + k * 2, none⟩)) 81 rfl rfl (by kernel_rfl) (by kernel_rfl) (by kernel_rfl) (fun _ _ _ _ h => h) (by rfl) (fun w hS => by simp [execOp, go_sem, *]) hHeld ?_
      simp only [List.setIfInBounds_toArray, List.set_cons_zero, List.set_cons_succ]
      refine takeY (i := 12) (v := .pointer (some ⟨pb, po + k * 2 + 1, none⟩)) 82 rfl rfl (by kernel_rfl) (by kernel_rfl) (by kernel_rfl) (fun _ _ _ _ h => h) (by rfl) (fun w hS => by simp [execOp, go_sem, *]) hHeld ?_
      simp only [List.setIfInBounds_toArray, List.set_cons_zero, List.set_cons_succ]
      refine takeY (i := 13) (v := .int .i64 x2) 83 rfl rfl (by kernel_rfl) (by kernel_rfl) (by kernel_rfl) (fun _ _ _ _ h => h) (by rfl) (fun w hS => by simp [execOp, go_sem, *]) hHeld ?_
      simp only [List.setIfInBounds_toArray, List.set_cons_zero, List.set_cons_succ]
      refine takeY (i := 14) (v := .pointer (some ⟨w.heap.size, 0, none⟩)) 84 rfl rfl (by kernel_rfl) (by kernel_rfl) (by kernel_rfl) (fun _ _ _ _ h => h) (by rfl) (fun w hS => by simp [execOp, go_sem, *]) hHeld ?_
      simp only [List.setIfInBounds_toArray, List.set_cons_zero, List.set_cons_succ]
      refine takeY (i := 15) (v := .slice al m.labels.length alc) 85 rfl rfl (by kernel_rfl) (by kernel_rfl) (by kernel_rfl) (fun _ _ _ _ h => h) (by rfl) (fun w hS => by simp [execOp, go_sem, *]) hHeld ?_
      simp only [List.setIfInBounds_toArray, List.set_cons_zero, List.set_cons_succ]
      refine takeY (i := 16) (v := .int .i64 m.labels.length) 86 rfl rfl (by kernel_rfl) (by kernel_rfl) (by kernel_rfl) (fun _ _ _ _ h => h) (by rfl) (fun w hS => by simp [execOp, go_sem, *]) hHeld ?_
      simp only [List.setIfInBounds_toArray, List.set_cons_zero, List.set_cons_succ]
      refine takeY (i := 17) (v := .bool false) 87 rfl rfl (by kernel_rfl) (by kernel_rfl) (by kernel_rfl) (fun _ _ _ _ h => h) (by rfl) (fun w hS => by simp [execOp, go_sem, *]) hHeld ?_
      simp only [List.setIfInBounds_toArray, List.set_cons_zero, List.set_cons_succ]
      refine takeY (i := 18) (v := .bool false) 88 rfl rfl (by kernel_rfl) (by kernel_rfl) (by kernel_rfl) (fun _ _ _ _ h => h) (by rfl) (fun w hS => by simp [execOp, go_sem, *]) hHeld ?_
      simp only [List.setIfInBounds_toArray, List.set_cons_zero, List.set_cons_succ]
      refine wpAnyH_done (by kernel_rfl) ?_ _
      clear hHeld
      go_wp2_with fail
      go_roundw
      case rel => first | exact ⟨k + 1, by omega, by go_num, unhide HL3, unhide HB1⟩ | ((repeat apply Exists.intro); exact ⟨⟨k + 1, by omega, by go_num, unhide HL3, unhide HB1⟩, rfl⟩)
      case measure => simp [intOf]; omega
    obtain rfl : k = m.below.length := by omega
    have hlt' : ¬ (m.below.length : Int) < (m.below.length : Int) := by omega
    have HP : Hid (∀ x, x ∈ m.below → inR m.labels.length x.1 = true ∧ inR m.labels.length x.2 = true) := hide fun x hx => by
      obtain ⟨j, hj, rfl⟩ := List.mem_iff_getElem.1 hx
      exact unhide HL j hj hj
    replace HK := HKr; replace HS := HSr; replace HN := hide ((unhide HN).mono (unhide HB1)); replace HB := HBw
    go_wp2_with fail
    clear y0 y1 y2 y3 HB1 HL hlt hlt' HKr HSr HBw
    obtain ⟨W6, hW6⟩ : ∃ W6, wr = W6 := ⟨_, rfl⟩
    rw [hW6] at HB HS HN HK ⊢
    clear hW6
    go_loopw [5] (fun i wr => ∃ (k : Nat), k ≤ m.roles.length ∧ i = .int .i64 k ∧ (∀ j (h : j < m.roles.length), j < k → inR m.labels.length m.roles[j].lb = true) ∧ Below W6.heap.size W6 wr) (fun i _ => m.roles.length - (intOf i).toNat)
    case atStart => exact ⟨0, Nat.zero_le _, rfl, fun j _ hj => absurd hj (Nat.not_lt_zero _), Below.refl _ _⟩
    case round =>
      obtain ⟨k, hk, rfl, hall, hb⟩ := hrel
      have HL := hide hall; have HB1 := hide hb; have HKr := hide ((unhide HK).mono hb (unhide HK).lt); have HSr := hide ((unhide HS).mono hb)
      have HBw := hide ((unhide HB).trans (hb.mono (unhide HB).size))
      obtain ⟨y0, y1, y2, y3⟩ := quad (unhide HKr)
      clear hall hb
      by_cases hlt : k < m.roles.length
      · have hlt' : (k : Int) < m.roles.length := by omega
        obtain ⟨pb, po, rfl, -, z0, z1⟩ := (unhide HSr).r k hlt
        have HD : Hid (Below w.heap.size w wr.drew) := hide (unhide HBw).drew
        have HM1 : Hid (VfA m → inR m.labels.length m.roles[k].lb = true) := hide fun v => v.ro _ (List.getElem_mem hlt)
        have HL2 : Hid (inR m.labels.length m.roles[k].lb = true → ∀ j (h : j < m.roles.length), j < k + 1 → inR m.labels.length m.roles[j].lb = true) := hide fun g1 j h hj => by
          by_cases ej : j = k
          · subst ej; exact g1
          · exact unhide HL j h (by omega)
        obtain ⟨x1, hx1⟩ : ∃ x1, m.roles[k].lb = x1 := ⟨_, rfl⟩
        rw [hx1] at HM1 HL2 z1
        clear hx1
        by_cases hneg : x1 < 0
        · have HX : Hid (q = false) := hide (unhide HF0 fun v => by have := of_decide_eq_true (unhide HM1 v); omega)
          generalize x1 = x at *
          go_wp2_with fail
          refine wp_region_held_drew (S := fun w' => w'.cell? ⟨w.heap.size, 0, none⟩ = some (.slice al m.labels.length alc) ∧ w'.cell? ⟨w.heap.size, 2, none⟩ = some (.slice (some ⟨pb, po, none⟩) m.roles.length arc) ∧ w'.cell? ⟨pb, po + k * 2 + 1, none⟩ = some (.int .i64 x)) (by kernel_rfl) ⟨y0, y2, z1⟩ (fun hHeld => ?_)
          refine takeY (i := 0) (v := .pointer (some ⟨w.heap.size, 2, none⟩)) 96 rfl rfl (by kernel_rfl) (by kernel_rfl) (by kernel_rfl) (fun _ _ _ _ h => h) (by rfl) (fun w hS => by simp [execOp, go_sem, *]) hHeld ?_
          simp only [List.setIfInBounds_toArray, List.set_cons_zero, List.set_cons_succ]
          refine takeY (i := 1) (v := .slice (some ⟨pb, po, none⟩) m.roles.length arc) 97 rfl rfl (by kernel_rfl) (by kernel_rfl) (by kernel_rfl) (fun _ _ _ _ h => h) (by rfl) (fun w hS => by simp [execOp, go_sem, *]) hHeld ?_
          simp only [List.setIfInBounds_toArray, List.set_cons_zero, List.set_cons_succ]
          refine takeY (i := 2) (v := .int .i64 k) 98 rfl rfl (by kernel_rfl) (by kernel_rfl) (by kernel_rfl) (fun _ _ _ _ h => h) (by rfl) (fun w hS => by simp [execOp, go_sem, *]) hHeld ?_
          simp only [List.setIfInBounds_toArray, List.set_cons_zero, List.set_cons_succ]
          refine takeY (i := 3) (v := .pointer (some ⟨pb, po + k * 2, none⟩)) 99 rfl rfl (by kernel_rfl) (by kernel_rfl) (by kernel_rfl) (fun _ _ _ _ h => h) (by rfl) (fun w hS => by simp [execOp, go_sem, *]) hHeld ?_
          simp only [List.setIfInBounds_toArray, List.set_cons_zero, List.set_cons_succ]
          refine takeY (i := 4) (v := .pointer (some ⟨pb, po + k * 2 + 1, none⟩)) 100 rfl rfl (by kernel_rfl) (by kernel_rfl) (by kernel_rfl) (fun _ _ _ _ h => h) (by rfl) (fun w hS => by simp [execOp, go_sem, *]) hHeld ?_
          simp only [List.setIfInBounds_toArray, List.set_cons_zero, List.set_cons_succ]
          refine takeY (i := 5) (v := .int .i64 x) 101 rfl rfl (by kernel_rfl) (by kernel_rfl) (by kernel_rfl) (fun _ _ _ _ h => h) (by rfl) (fun w hS => by simp [execOp, go_sem, *]) hHeld ?_
          simp only [List.setIfInBounds_toArray, List.set_cons_zero, List.set_cons_succ]
          refine takeY (i := 6) (v := .bool true) 102 rfl rfl (by kernel_rfl) (by kernel_rfl) (by kernel_rfl) (fun _ _ _ _ h => h) (by rfl) (fun w hS => by simp [execOp, go_sem, *]) hHeld ?_
          simp only [List.setIfInBounds_toArray, List.set_cons_zero, List.set_cons_succ]
          refine takeY (i := 7) (v := .bool true) 103 rfl rfl (by kernel_rfl) (by kernel_rfl) (by kernel_rfl) (fun _ _ _ _ h => h) (by rfl) (fun w hS => by simp [execOp, go_sem, *]) hHeld ?_
          simp only [List.setIfInBounds_toArray, List.set_cons_zero, List.set_cons_succ]
          refine takeN (i := 8) 104 rfl rfl (by kernel_rfl) (by kernel_rfl) (by kernel_rfl) (fun _ _ _ _ h => h) (by rfl) hHeld ?_
          simp only [List.setIfInBounds_toArray, List.set_cons_zero, List.set_cons_succ]
          refine takeN (i := 9) 105 rfl rfl (by kernel_rfl) (by kernel_rfl) (by kernel_rfl) (fun _ _ _ _ h => h) (by rfl) hHeld ?_
          simp only [List.setIfInBounds_toArray, List.set_cons_zero, List.set_cons_succ]
          refine takeN (i := 10) 106 rfl rfl (by kernel_rfl) (by kernel_rfl) (by kernel_rfl) (fun _ _ _ _ h => h) (by rfl) hHeld ?_
          simp only [List.setIfInBounds_toArray, List.set_cons_zero, List.set_cons_succ]
          refine takeN (i := 11) 107 rfl rfl (by kernel_rfl) (by kernel_rfl) (by kernel_rfl) (fun _ _ _ _ h => h) (by rfl) hHeld ?_
          simp only [List.setIfInBounds_toArray, List.set_cons_zero, List.set_cons_succ]
          refine takeN (i := 12) 108 rfl rfl (by kernel_rfl) (by kernel_rfl) (by kernel_rfl) (fun _ _ _ _ h => h) (by rfl) hHeld ?_
          simp only [List.setIfInBounds_toArray, List.set_cons_zero, List.set_cons_succ]
          refine takeN (i := 13) 109 rfl rfl (by kernel_rfl) (by kernel_rfl) (by kernel_rfl) (fun _ _ _ _ h => h) (by rfl) hHeld ?_
          simp only [List.setIfInBounds_toArray, List.set_cons_zero, List.set_cons_succ]
          refine takeN (i := 14) 110 rfl rfl (by kernel_rfl) (by kernel_rfl) (by kernel_rfl) (fun _ _ _ _ h => h) (by rfl) hHeld ?_
          simp only [List.setIfInBounds_toArray, List.set_cons_zero, List.set_cons_succ]
          refine takeN (i := 15) 111 rfl rfl (by kernel_rfl) (by kernel_rfl) (by kernel_rfl) (fun _ _ _ _ h => h) (by rfl) hHeld ?_
          simp only [List.setIfInBounds_toArray, List.set_cons_zero, List.set_cons_succ]
          refine takeN (i := 16) 112 rfl rfl (by kernel_rfl) (by kernel_rfl) (by kernel_rfl) (fun _ _ _ _ h => h) (by rfl) hHeld ?_
          simp only [List.setIfInBounds_toArray, List.set_cons_zero, List.set_cons_succ]
          refine takeN (i := 17) 113 rfl rfl (by kernel_rfl) (by kernel_rfl) (by kernel_rfl) (fun _ _ _ _ h => h) (by rfl) hHeld ?_
          simp only [List.setIfInBounds_toArray, List.set_cons_zero, List.set_cons_succ]
          refine takeY (i := 18) (v := .bool true) 114 rfl rfl (by kernel_rfl) (by kernel_rfl) (by kernel_rfl) (fun _ _ _ _ h => h) (by rfl) (fun w hS => by simp [execOp, go_sem, *]) hHeld ?_
          simp only [List.setIfInBounds_toArray, List.set_cons_zero, List.set_cons_succ]
          refine wpAnyH_done (by kernel_rfl) ?_ _
          clear hHeld
          go_wp2_with fail
          go_ret
          exact ⟨ret_bool (unhide HX).symm, unhide HD⟩
        by_cases hbig : (m.labels.length : Int) ≤ x1
        · have HX : Hid (q = false) := hide (unhide HF0 fun v => by have := of_decide_eq_true (unhide HM1 v); omega)
          generalize x1 = x at *
          go_wp2_with fail
          refine wp_region_held_drew (S := fun w' => w'.cell? ⟨w.heap.size, 0, none⟩ = some (.slice al m.labels.length alc) ∧ w'.cell? ⟨w.heap.size, 2, none⟩ = some (.slice (some ⟨pb, po, none⟩) m.roles.length arc) ∧ w'.cell? ⟨pb, po + k * 2 + 1, none⟩ = some (.int .i64 x)) (by kernel_rfl) ⟨y0, y2, z1⟩ (fun hHeld => ?_)
          refine takeY (i := 0) (v := .pointer (some ⟨w.heap.size, 2, none⟩)) 96 rfl rfl (by kernel_rfl) (by kernel_rfl) (by kernel_rfl) (fun _ _ _ _ h => h) (by rfl) (fun w hS => by simp [execOp, go_sem, *]) hHeld ?_
          simp only [List.setIfInBounds_toArray, List.set_cons_zero, List.set_cons_succ]
          refine takeY (i := 1) (v := .slice (some ⟨pb, po, none⟩) m.roles.length arc) 97 rfl rfl (by kernel_rfl) (by kernel_rfl) (by kernel_rfl) (fun _ _ _ _ h => h) (by rfl) (fun w hS => by simp [execOp, go_sem, *]) hHeld ?_
          simp only [List.setIfInBounds_toArray, List.set_cons_zero, List.set_cons_succ]
          refine takeY (i := 2) (v := .int .i64 k) 98 rfl rfl (by kernel_rfl) (by kernel_rfl) (by kernel_rfl) (fun _ _ _ _ h => h) (by rfl) (fun w hS => by simp [execOp, go_sem, *]) hHeld ?_
          simp only [List.setIfInBounds_toArray, List.set_cons_zero, List.set_cons_succ]
          refine takeY (i := 3) (v := .pointer (some ⟨pb, po + k * 2, none⟩)) 99 rfl rfl (by kernel_rfl) (by kernel_rfl) (by kernel_rfl) (fun _ _ _ _ h => h) (by rfl) (fun w hS => by simp [execOp, go_sem, *]) hHeld ?_
          simp only [List.setIfInBounds_toArray, List.set_cons_zero, List.set_cons_succ]
          refine takeY (i := 4) (v := .pointer (some ⟨pb, po + k * 2 + 1, none⟩)) 100 rfl rfl (by kernel_rfl) (by kernel_rfl) (by kernel_rfl) (fun _ _ _ _ h => h) (by rfl) (fun w hS => by simp [execOp, go_sem, *]) hHeld ?_
          simp only [List.setIfInBounds_toArray, List.set_cons_zero, List.set_cons_succ]
          refine takeY (i := 5) (v := .int .i64 x) 101 rfl rfl (by kernel_rfl) (by kernel_rfl) (by kernel_rfl) (fun _ _ _ _ h => h) (by rfl) (fun w hS => by simp [execOp, go_sem, *]) hHeld ?_
          simp only [List.setIfInBounds_toArray, List.set_cons_zero, List.set_cons_succ]
          refine takeY (i := 6) (v := .bool false) 102 rfl rfl (by kernel_rfl) (by kernel_rfl) (by kernel_rfl) (fun _ _ _ _ h => h) (by rfl) (fun w hS => by simp [execOp, go_sem, *]) hHeld ?_
          simp only [List.setIfInBounds_toArray, List.set_cons_zero, List.set_cons_succ]
          refine takeY (i := 7) (v := .bool false) 103 rfl rfl (by kernel_rfl) (by kernel_rfl) (by kernel_rfl) (fun _ _ _ _ h => h) (by rfl) (fun w hS => by simp [execOp, go_sem, *]) hHeld ?_
          simp only [List.setIfInBounds_toArray, List.set_cons_zero, List.set_cons_succ]
          refine takeY (i := 8) (v := .pointer (some ⟨w.heap.size, 2, none⟩)) 104 rfl rfl (by kernel_rfl) (by kernel_rfl) (by kernel_rfl) (fun _ _ _ _ h => h) (by rfl) (fun w hS => by simp [execOp, go_sem, *]) hHeld ?_
          simp only [List.setIfInBounds_toArray, List.set_cons_zero, List.set_cons_succ]
          refine takeY (i := 9) (v := .slice (some ⟨pb, po, none⟩) m.roles.length arc) 105 rfl rfl (by kernel_rfl) (by kernel_rfl) (by kernel_rfl) (fun _ _ _ _ h => h) (by rfl) (fun w hS => by simp [execOp, go_sem, *]) hHeld ?_
          simp only [List.setIfInBounds_toArray, List.set_cons_zero, List.set_cons_succ]
          refine takeY (i := 10) (v := .int .i64 k) 106 rfl rfl (by kernel_rfl) (by kernel_rfl) (by kernel_rfl) (fun _ _ _ _ h => h) (by rfl) (fun w hS => by simp [execOp, go_sem, *]) hHeld ?_
          simp only [List.setIfInBounds_toArray, List.set_cons_zero, List.set_cons_succ]
          refine takeY (i := 11) (v := .pointer (some ⟨pb, po + k * 2, none⟩)) 107 rfl rfl (by kernel_rfl) (by kernel_rfl) (by kernel_rfl) (fun _ _ _ _ h => h) (by rfl) (fun w hS => by simp [execOp, go_sem, *]) hHeld ?_
          simp only [List.setIfInBounds_toArray, List.set_cons_zero, List.set_cons_succ]
          refine takeY (i := 12) (v := .pointer (some ⟨pb, po + k * 2 + 1, none⟩)) 108 rfl rfl (by kernel_rfl) (by kernel_rfl) (by kernel_rfl) (fun _ _ _ _ h => h) (by rfl) (fun w hS => by simp [execOp, go_sem, *]) hHeld ?_
          simp only [List.setIfInBounds_toArray, List.set_cons_zero, List.set_cons_succ]
          refine takeY (i := 13) (v := .int .i64 x) 109 rfl rfl (by kernel_rfl) (by kernel_rfl) (by kernel_rfl) (fun _ _ _ _ h => h) (by rfl) (fun w hS => by simp [execOp, go_sem, *]) hHeld ?_
          simp only [List.setIfInBounds_toArray, List.set_cons_zero, List.set_cons_succ]
          refine takeY (i := 14) (v := .pointer (some ⟨w.heap.size, 0, none⟩)) 110 rfl rfl (by kernel_rfl) (by kernel_rfl) (by kernel_rfl) (fun _ _ _ _ h => h) (by rfl) (fun w hS => by simp [execOp, go_sem, *]) hHeld ?_
          simp only [List.setIfInBounds_toArray, List.set_cons_zero, List.set_cons_succ]
          refine takeY (i := 15) (v := .slice al m.labels.length alc) 111 rfl rfl (by kernel_rfl) (by kernel_rfl) (by kernel_rfl) (fun _ _ _ _ h => h) (by rfl) (fun w hS => by simp [execOp, go_sem, *]) hHeld ?_
          simp only [List.setIfInBounds_toArray, List.set_cons_zero, List.set_cons_succ]
          refine takeY (i := 16) (v := .int .i64 m.labels.length) 112 rfl rfl (by kernel_rfl) (by kernel_rfl) (by kernel_rfl) (fun _ _ _ _ h => h) (by rfl) (fun w hS => by simp [execOp, go_sem, *]) hHeld ?_
          simp only [List.setIfInBounds_toArray, List.set_cons_zero, List.set_cons_succ]
          refine takeY (i := 17) (v := .bool true) 113 rfl rfl (by kernel_rfl) (by kernel_rfl) (by kernel_rfl) (fun _ _ _ _ h => h) (by rfl) (fun w hS => by simp [execOp, go_sem, *]) hHeld ?_
          simp only [List.setIfInBounds_toArray, List.set_cons_zero, List.set_cons_succ]
          refine takeY (i := 18) (v := .bool true) 114 rfl rfl (by kernel_rfl) (by kernel_rfl) (by kernel_rfl) (fun _ _ _ _ h => h) (by rfl) (fun w hS => by simp [execOp, go_sem, *]) hHeld ?_
          simp only [List.setIfInBounds_toArray, List.set_cons_zero, List.set_cons_succ]
          refine wpAnyH_done (by kernel_rfl) ?_ _
          clear hHeld
          go_wp2_with fail
          go_ret
          exact ⟨ret_bool (unhide HX).symm, unhide HD⟩
        have HL3 := hide (unhide HL2 (inR_of (by omega) (by omega)))
        replace HB1 : Hid (Below W6.heap.size W6 wr.drew) := hide (unhide HB1).drew
        go_wp2_with fail
        refine wp_region_held_drew (S := fun w' => w'.cell? ⟨w.heap.size, 0, none⟩ = some (.slice al m.labels.length alc) ∧ w'.cell? ⟨w.heap.size, 2, none⟩ = some (.slice (some ⟨pb, po, none⟩) m.roles.length arc) ∧ w'.cell? ⟨pb, po + k * 2 + 1, none⟩ = some (.int .i64 x1)) (by kernel_rfl) ⟨y0, y2, z1⟩ (fun hHeld => ?_)
        refine takeY (i := 0) (v := .pointer (some ⟨w.heap.size, 2, none⟩)) 96 rfl rfl (by kernel_rfl) (by kernel_rfl) (by kernel_rfl) (fun _ _ _ _ h => h) (by rfl) (fun w hS => by simp [execOp, go_sem, *]) hHeld ?_
        simp only [List.setIfInBounds_toArray, List.set_cons_zero, List.set_cons_succ]
        refine takeY (i := 1) (v := .slice (some ⟨pb, po, none⟩) m.roles.length arc) 97 rfl rfl (by kernel_rfl) (by kernel_rfl) (by kernel_rfl) (fun _ _ _ _ h => h) (by rfl) (fun w hS => by simp [execOp, go_sem, *]) hHeld ?_
        simp only [List.setIfInBounds_toArray, List.set_cons_zero, List.set_cons_succ]
        refine takeY (i := 2) (v := .int .i64 k) 98 rfl rfl (by kernel_rfl) (by kernel_rfl) (by kernel_rfl) (fun _ _ _ _ h => h) (by rfl) (fun w hS => by simp [execOp, go_sem, *]) hHeld ?_
        simp only [List.setIfInBounds_toArray, List.set_cons_zero, List.set_cons_succ]
        refine takeY (i := 3) (v := .pointer (some ⟨pb, po + k * 2, none⟩)) 99 rfl rfl (by kernel_rfl) (by kernel_rfl) (by kernel_rfl) (fun _ _ _ _ h => h) (by rfl) (fun w hS => by simp [execOp, go_sem, *]) hHeld ?_
        simp only [List.setIfInBounds_toArray, List.set_cons_zero, List.set_cons_succ]
        refine takeY (i := 4) (v := .pointer (some ⟨pb, po + k * 2 + 1, none⟩)) 100 rfl rfl (by kernel_rfl) (by kernel_rfl) (by kernel_rfl) (fun _ _ _ _ h => h) (by rfl) (fun w hS => by simp [execOp, go_sem, *]) hHeld ?_
        simp only [List.setIfInBounds_toArray, List.set_cons_zero, List.set_cons_succ]
        refine takeY (i := 5) (v := .int .i64 x1) 101 rfl rfl (by kernel_rfl) (by kernel_rfl) (by kernel_rfl) (fun _ _ _ _ h => h) (by rfl) (fun w hS => by simp [execOp, go_sem, *]) hHeld ?_
        simp only [List.setIfInBounds_toArray, List.set_cons_zero, List.set_cons_succ]
        refine takeY (i := 6) (v := .bool false) 102 rfl rfl (by kernel_rfl) (by kernel_rfl) (by kernel_rfl) (fun _ _ _ _ h => h) (by rfl) (fun w hS => by simp [execOp, go_sem, *]) hHeld ?_
        simp only [List.setIfInBounds_toArray, List.set_cons_zero, List.set_cons_succ]
        refine takeY (i := 7) (v := .bool false) 103 rfl rfl (by kernel_rfl) (by kernel_rfl) (by kernel_rfl) (fun _ _ _ _ h => h) (by rfl) (fun w hS => by simp [execOp, go_sem, *]) hHeld ?_
        simp only [List.setIfInBounds_toArray, List.set_cons_zero, List.set_cons_succ]
        refine takeY (i := 8) (v := .pointer (some ⟨w.heap.size, 2, none⟩)) 104 rfl rfl (by kernel_rfl) (by kernel_rfl) (by kernel_rfl) (fun _ _ _ _ h => h) (by rfl) (fun w hS => by simp [execOp, go_sem, *]) hHeld ?_
        simp only [List.setIfInBounds_toArray, List.set_cons_zero, List.set_cons_succ]
        refine takeY (i := 9) (v := .slice (some ⟨pb, po, none⟩) m.roles.length arc) 105 rfl rfl (by kernel_rfl) (by kernel_rfl) (by kernel_rfl) (fun _ _ _ _ h => h) (by rfl) (fun w hS => by simp [execOp, go_sem, *]) hHeld ?_
        simp only [List.setIfInBounds_toArray, List.set_cons_zero, List.set_cons_succ]
        refine takeY (i := 10) (v := .int .i64 k) 106 rfl rfl (by kernel_rfl) (by kernel_rfl) (by kernel_rfl) (fun _ _ _ _ h => h) (by rfl) (fun w hS => by simp [execOp, go_sem, *]) hHeld ?_
        simp only [List.setIfInBounds_toArray, List.set_cons_zero, List.set_cons_succ]
        refine takeY (i := 11) (v := .pointer (some ⟨pb, po + k * 2, none⟩)) 107 rfl rfl (by kernel_rfl) (by kernel_rfl) (by kernel_rfl) (fun _ _ _ _ h => h) (by rfl) (fun w hS => by simp [execOp, go_sem, *]) hHeld ?_
        simp only [List.setIfInBounds_toArray, List.set_cons_zero, List.set_cons_succ]
        refine takeY (i := 12) (v := .pointer (some ⟨pb, po + k * 2 + 1, none⟩)) 108 rfl rfl (by kernel_rfl) (by kernel_rfl) (by kernel_rfl) (fun _ _ _ _ h => h) (by rfl) (fun w hS => by simp [execOp, go_sem, *]) hHeld ?_
        simp only [List.setIfInBounds_toArray, List.set_cons_zero, List.set_cons_succ]
        refine takeY (i := 13) (v := .int .i64 x1) 109 rfl rfl (by kernel_rfl) (by kernel_rfl) (by kernel_rfl) (fun _ _ _ _ h => h) (by rfl) (fun w hS => by simp [execOp, go_sem, *]) hHeld ?_
        simp only [List.setIfInBounds_toArray, List.set_cons_zero, List.set_cons_succ]
        refine takeY (i := 14) (v := .pointer (some ⟨w.heap.size, 0, none⟩)) 110 rfl rfl (by kernel_rfl) (by kernel_rfl) (by kernel_rfl) (fun _ _ _ _ h => h) (by rfl) (fun w hS => by simp [execOp, go_sem, *]) hHeld ?_
        simp only [List.setIfInBounds_toArray, List.set_cons_zero, List.set_cons_succ]
        refine takeY (i := 15) (v := .slice al m.labels.length alc) 111 rfl rfl (by kernel_rfl) (by kernel_rfl) (by kernel_rfl) (fun _ _ _ _ h => h) (by rfl) (fun w hS => by simp [execOp, go_sem, *]) hHeld ?_
        simp only [List.setIfInBounds_toArray, List.set_cons_zero, List.set_cons_succ]
        refine takeY (i := 16) (v := .int .i64 m.labels.length) 112 rfl rfl (by kernel_rfl) (by kernel_rfl) (by kernel_rfl) (fun _ _ _ _ h => h) (by rfl) (fun w hS => by simp [execOp, go_sem, *]) hHeld ?_
        simp only [List.setIfInBounds_toArray, List.set_cons_zero, List.set_cons_succ]
        refine takeY (i := 17) (v := .bool false) 113 rfl rfl (by kernel_rfl) (by kernel_rfl) (by kernel_rfl) (fun _ _ _ _ h => h) (by rfl) (fun w hS => by simp [execOp, go_sem, *]) hHeld ?_
        simp only [List.setIfInBounds_toArray, List.set_cons_zero, List.set_cons_succ]
        refine takeY (i := 18) (v := .bool false) 114 rfl rfl (by kernel_rfl) (by kernel_rfl) (by kernel_rfl) (fun _ _ _ _ h => h) (by rfl) (fun w hS => by simp [execOp, go_sem, *]) hHeld ?_
        simp only [List.setIfInBounds_toArray, List.set_cons_zero, List.set_cons_succ]
        refine wpAnyH_done (by kernel_rfl) ?_ _
        clear hHeld
        go_wp2_with fail
        go_roundw
        case rel => first | exact ⟨k + 1, by omega, by go_num, unhide HL3, unhide HB1⟩ | ((repeat apply Exists.intro); exact ⟨⟨k + 1, by omega, by go_num, unhide HL3, unhide HB1⟩, rfl⟩)
        case measure => simp [intOf]; omega
      obtain rfl : k = m.roles.length := by omega
      have hlt' : ¬ (m.roles.length : Int) < (m.roles.length : Int) := by omega
      have HRo : Hid (∀ x, x ∈ m.roles → inR m.labels.length x.lb = true) := hide fun x hx => by
        obtain ⟨j, hj, rfl⟩ := List.mem_iff_getElem.1 hx
        exact unhide HL j hj hj
      replace HK := HKr; replace HS := HSr; replace HN := hide ((unhide HN).mono (unhide HB1)); replace HB := HBw
      go_wp2_with fail
      clear y0 y1 y2 y3 HB1 HL hlt hlt' HKr HSr HBw
      obtain ⟨W7, hW7⟩ : ∃ W7, wr = W7 := ⟨_, rfl⟩
      rw [hW7] at HB HS HN HK ⊢
      clear hW7
      go_loopw [6] (fun i wr => ∃ (k : Nat), k ≤ m.fields.length ∧ i = .int .i64 k ∧ (∀ j (h : j < m.fields.length), j < k → fieldOk m.labels.length m.roles.length m.fields[j] = true ∧ fieldKnows (fNames m) m.fields[j] = true) ∧ Below W7.heap.size W7 wr) (fun i _ => m.fields.length - (intOf i).toNat)
      case atStart => exact ⟨0, Nat.zero_le _, rfl, fun j _ hj => absurd hj (Nat.not_lt_zero _), Below.refl _ _⟩
      case round =>
        obtain ⟨k, hk, rfl, hall, hb⟩ := hrel
        have HL := hide hall; have HB1 := hide hb; have HKr := hide ((unhide HK).mono hb (unhide HK).lt); have HSr := hide ((unhide HS).mono hb); have HNr := hide ((unhide HN).mono hb)
        have HBw := hide ((unhide HB).trans (hb.mono (unhide HB).size))
        clear hall hb
        by_cases hlt : k < m.fields.length
        · have hlt' : (k : Int) < m.fields.length := by omega
          obtain ⟨Wr, hWr⟩ : ∃ Wr, wr = Wr := ⟨_, rfl⟩
          rw [hWr] at HB1 HKr HSr HNr HBw ⊢
          clear hWr
          obtain ⟨pb, po, rfl, hcel, hsl⟩ := (unhide HSr).f k hlt
          have HM1 : Hid (VfA m → fieldOk m.labels.length m.roles.length m.fields[k] = true ∧ fieldKnows (fNames m) m.fields[k] = true) := hide fun v => ⟨v.fi _ (List.getElem_mem hlt), v.kn _ (List.getElem_mem hlt)⟩
          have HL2 : Hid (fieldOk m.labels.length m.roles.length m.fields[k] = true → fieldKnows (fNames m) m.fields[k] = true → ∀ j (h : j < m.fields.length), j < k + 1 → fieldOk m.labels.length m.roles.length m.fields[j] = true ∧ fieldKnows (fNames m) m.fields[j] = true) := hide fun g1 g2 j h hj => by
            by_cases ej : j = k
            · subst ej; exact ⟨g1, g2⟩
            · exact unhide HL j h (by omega)
          have HFf := hide ((unhide HF).f _ (List.getElem_mem hlt))
          obtain ⟨fa, hfa⟩ : ∃ fa, afa k = fa := ⟨_, rfl⟩
          dsimp only at hcel hsl
          rw [hfa] at hcel hsl
          have HCl := hide hcel; have HSf := hide hsl
          clear hcel hsl hfa
          generalize m.fields[k] = f at *
          obtain ⟨ab, abc, ai, aic, ah, ahc, av, avc, au, auc⟩ := fa
          have HC1 := hide (l3ValidField_any f ⟨ab, abc, ai, aic, ah, ahc, av, avc, au, auc⟩ m ⟨al, alc, ap, apc, ar, arc, some ⟨pb, po, none⟩, afc, afa⟩ Wr.drew (unhide HFf) ((unhide HSf).mono (Below.refl _ _).drew))
          unfold fV mV at HC1
          dsimp only at HC1
          have HC2 : Hid (∀ W8, Below Wr.heap.size Wr W8 → Calls Tryz.prog 49 #[.agg #[.string f.nm, .int .i64 f.ty, .int .i64 f.lb, .slice ab f.bys.length abc, .slice ai f.is.length aic, .slice ah f.wh.length ahc, .slice av f.va.length avc, .string f.sy, .slice au f.mu.length auc], .slice an m.fields.length cn] W8 fun r w' => r = .returned (.bool (fieldKnows (fNames m) f)) ∧ Below W8.heap.size W8 w') := hide fun W8 hb => by
            have h := l3FieldKnown_any f ⟨ab, abc, ai, aic, ah, ahc, av, avc, au, auc⟩ an cn (fNames m) W8 (unhide HFf) (by rw [← unhide HE2]; exact hfl) ((unhide HSf).mono hb) ((unhide HNr).mono hb)
            rw [← unhide HE2] at h
            exact h
          generalize fieldOk m.labels.length m.roles.length f = g1 at *
          generalize fieldKnows (fNames m) f = g2 at *
          obtain ⟨y0, y1, y2, y3⟩ := quad (unhide HKr)
          go_wp2_with fail
          clear y0 y1 y2 y3
          refine wp_region_held_drew (S := fun w' => Blk w' w.heap.size 35 [.slice al m.labels.length alc, .slice ap m.below.length apc, .slice ar m.roles.length arc, .slice (some ⟨pb, po, none⟩) m.fields.length afc] ∧ FCel w' pb (po + k * 9) f ⟨ab, abc, ai, aic, ah, ahc, av, avc, au, auc⟩) (by kernel_rfl) ⟨unhide HKr, unhide HCl⟩ (fun hHeld => ?_)
          refine takeY (i := 0) (v := .pointer (some ⟨w.heap.size, 3, none⟩)) 122 rfl rfl (by kernel_rfl) (by kernel_rfl) (by kernel_rfl) (fun _ _ _ _ h => h) (by rfl) (fun w hS => by simp [execOp, go_sem, *]) hHeld ?_
          simp only [List.setIfInBounds_toArray, List.set_cons_zero, List.set_cons_succ]
          refine takeY (i := 1) (v := .slice (some ⟨pb, po, none⟩) m.fields.length afc) 123 rfl rfl (by kernel_rfl) (by kernel_rfl) (by kernel_rfl) (fun _ _ _ _ h => h) (by rfl) (fun w hS => by obtain ⟨hk, -, q0, q1, q2, q3, q4, q5, q6, q7, q8⟩ := hS; obtain ⟨-, -, -, p3⟩ := quad hk; simp [execOp, go_sem, p3]) hHeld ?_
          simp only [List.setIfInBounds_toArray, List.set_cons_zero, List.set_cons_succ]
          refine takeY (i := 2) (v := .int .i64 k) 124 rfl rfl (by kernel_rfl) (by kernel_rfl) (by kernel_rfl) (fun _ _ _ _ h => h) (by rfl) (fun w hS => by simp [execOp, go_sem, *]) hHeld ?_
          simp only [List.setIfInBounds_toArray, List.set_cons_zero, List.set_cons_succ]
          refine takeY (i := 3) (v := .pointer (some ⟨pb, po + k * 9, none⟩)) 125 rfl rfl (by kernel_rfl) (by kernel_rfl) (by kernel_rfl) (fun _ _ _ _ h => h) (by rfl) (fun w hS => by simp [execOp, go_sem, *]) hHeld ?_
          simp only [List.setIfInBounds_toArray, List.set_cons_zero, List.set_cons_succ]
          refine takeY (i := 4) (v := .agg #[.string f.nm, .int .i64 f.ty, .int .i64 f.lb, .slice ab f.bys.length abc, .slice ai f.is.length aic, .slice ah f.wh.length ahc, .slice av f.va.length avc, .string f.sy, .slice au f.mu.length auc]) 126 rfl rfl (by kernel_rfl) (by kernel_rfl) (by kernel_rfl) (fun _ _ _ _ h => h) (by rfl) (fun w hS => by obtain ⟨hk, -, q0, q1, q2, q3, q4, q5, q6, q7, q8⟩ := hS; simp [execOp, go_sem, q0, q1, q2, q3, q4, q5, q6, q7, q8]) hHeld ?_
          simp only [List.setIfInBounds_toArray, List.set_cons_zero, List.set_cons_succ]
          refine takeY (i := 5) (v := .agg #[.slice al m.labels.length alc, .slice ap m.below.length apc, .slice ar m.roles.length arc, .slice (some ⟨pb, po, none⟩) m.fields.length afc]) 127 rfl rfl (by kernel_rfl) (by kernel_rfl) (by kernel_rfl) (fun _ _ _ _ h => h) (by rfl) (fun w hS => by obtain ⟨hk, -, q0, q1, q2, q3, q4, q5, q6, q7, q8⟩ := hS; obtain ⟨p0, p1, p2, p3⟩ := quad hk; simp [execOp, go_sem, p0, p1, p2, p3]) hHeld ?_
          simp only [List.setIfInBounds_toArray, List.set_cons_zero, List.set_cons_succ]
          refine callY (i := 6) (f := 48) (args := #[.agg #[.string f.nm, .int .i64 f.ty, .int .i64 f.lb, .slice ab f.bys.length abc, .slice ai f.is.length aic, .slice ah f.wh.length ahc, .slice av f.va.length avc, .string f.sy, .slice au f.mu.length auc], .agg #[.slice al m.labels.length alc, .slice ap m.below.length apc, .slice ar m.roles.length arc, .slice (some ⟨pb, po, none⟩) m.fields.length afc]]) (R := fun r wz => r = .bool g1 ∧ Below Wr.heap.size Wr wz) 128 rfl rfl (by rfl) (by kernel_rfl) (by simp [execOp, go_sem]) ((unhide HC1).mono fun e w6 ⟨he, hb⟩ => ⟨_, he, rfl, below_of_drew hb⟩) ?_
          rintro r3 W8 ⟨rfl, hb8⟩
          have HB8 := hide hb8
          replace hHeld : Blk W8 w.heap.size 35 [.slice al m.labels.length alc, .slice ap m.below.length apc, .slice ar m.roles.length arc, .slice (some ⟨pb, po, none⟩) m.fields.length afc] ∧ FCel W8 pb (po + k * 9) f ⟨ab, abc, ai, aic, ah, ahc, av, avc, au, auc⟩ := ⟨(unhide HKr).mono hb8 (unhide HKr).lt, (unhide HCl).mono hb8⟩
          clear hb8
          refine ⟨hHeld, ?_⟩
          simp only [List.setIfInBounds_toArray, List.set_cons_zero, List.set_cons_succ]
          have HBw8 : Hid (Below w.heap.size w W8) := hide ((unhide HBw).trans ((unhide HB8).mono (unhide HBw).size))
          have HB78 : Hid (Below W7.heap.size W7 W8) := hide ((unhide HB1).trans ((unhide HB8).mono (unhide HB1).size))
          cases g1
          · have HX : Hid (q = false) := hide (unhide HF0 fun v => by have := (unhide HM1 v).1; cases this)
            refine takeY (i := 7) (v := .bool true) 129 rfl rfl (by kernel_rfl) (by kernel_rfl) (by kernel_rfl) (fun _ _ _ _ h => h) (by rfl) (fun w hS => by simp [execOp, go_sem, *]) hHeld ?_
            simp only [List.setIfInBounds_toArray, List.set_cons_zero, List.set_cons_succ]
            refine takeY (i := 8) (v := .bool true) 130 rfl rfl (by kernel_rfl) (by kernel_rfl) (by kernel_rfl) (fun _ _ _ _ h => h) (by rfl) (fun w hS => by simp [execOp, go_sem, *]) hHeld ?_
            simp only [List.setIfInBounds_toArray, List.set_cons_zero, List.set_cons_succ]
            refine takeN (i := 9) 131 rfl rfl (by kernel_rfl) (by kernel_rfl) (by kernel_rfl) (fun _ _ _ _ h => h) (by rfl) hHeld ?_
            simp only [List.setIfInBounds_toArray, List.set_cons_zero, List.set_cons_succ]
            refine takeN (i := 10) 132 rfl rfl (by kernel_rfl) (by kernel_rfl) (by kernel_rfl) (fun _ _ _ _ h => h) (by rfl) hHeld ?_
            simp only [List.setIfInBounds_toArray, List.set_cons_zero, List.set_cons_succ]
            refine takeN (i := 11) 133 rfl rfl (by kernel_rfl) (by kernel_rfl) (by kernel_rfl) (fun _ _ _ _ h => h) (by rfl) hHeld ?_
            simp only [List.setIfInBounds_toArray, List.set_cons_zero, List.set_cons_succ]
            refine takeN (i := 12) 134 rfl rfl (by kernel_rfl) (by kernel_rfl) (by kernel_rfl) (fun _ _ _ _ h => h) (by rfl) hHeld ?_
            simp only [List.setIfInBounds_toArray, List.set_cons_zero, List.set_cons_succ]
            refine takeN (i := 13) 135 rfl rfl (by kernel_rfl) (by kernel_rfl) (by kernel_rfl) (fun _ _ _ _ h => h) (by rfl) hHeld ?_
            simp only [List.setIfInBounds_toArray, List.set_cons_zero, List.set_cons_succ]
            refine takeN (i := 14) 136 rfl rfl (by kernel_rfl) (by kernel_rfl) (by kernel_rfl) (fun _ _ _ _ h => h) (by rfl) hHeld ?_
            simp only [List.setIfInBounds_toArray, List.set_cons_zero, List.set_cons_succ]
            refine takeN (i := 15) 137 rfl rfl (by kernel_rfl) (by kernel_rfl) (by kernel_rfl) (fun _ _ _ _ h => h) (by rfl) hHeld ?_
            simp only [List.setIfInBounds_toArray, List.set_cons_zero, List.set_cons_succ]
            refine takeN (i := 16) 138 rfl rfl (by kernel_rfl) (by kernel_rfl) (by kernel_rfl) (fun _ _ _ _ h => h) (by rfl) hHeld ?_
            simp only [List.setIfInBounds_toArray, List.set_cons_zero, List.set_cons_succ]
            refine takeY (i := 17) (v := .bool true) 139 rfl rfl (by kernel_rfl) (by kernel_rfl) (by kernel_rfl) (fun _ _ _ _ h => h) (by rfl) (fun w hS => by simp [execOp, go_sem, *]) hHeld ?_
            simp only [List.setIfInBounds_toArray, List.set_cons_zero, List.set_cons_succ]
            refine wpAnyH_done (by kernel_rfl) ?_ _
            clear hHeld
            go_wp2_with fail
            go_ret
            exact ⟨ret_bool (unhide HX).symm, unhide HBw8⟩
          refine takeY (i := 7) (v := .bool false) 129 rfl rfl (by kernel_rfl) (by kernel_rfl) (by kernel_rfl) (fun _ _ _ _ h => h) (by rfl) (fun w hS => by simp [execOp, go_sem, *]) hHeld ?_
          simp only [List.setIfInBounds_toArray, List.set_cons_zero, List.set_cons_succ]
          refine takeY (i := 8) (v := .bool false) 130 rfl rfl (by kernel_rfl) (by kernel_rfl) (by kernel_rfl) (fun _ _ _ _ h => h) (by rfl) (fun w hS => by simp [execOp, go_sem, *]) hHeld ?_
          simp only [List.setIfInBounds_toArray, List.set_cons_zero, List.set_cons_succ]
          refine takeY (i := 9) (v := .pointer (some ⟨w.heap.size, 3, none⟩)) 131 rfl rfl (by kernel_rfl) (by kernel_rfl) (by kernel_rfl) (fun _ _ _ _ h => h) (by rfl) (fun w hS => by simp [execOp, go_sem, *]) hHeld ?_
          simp only [List.setIfInBounds_toArray, List.set_cons_zero, List.set_cons_succ]
          refine takeY (i := 10) (v := .slice (some ⟨pb, po, none⟩) m.fields.length afc) 132 rfl rfl (by kernel_rfl) (by kernel_rfl) (by kernel_rfl) (fun _ _ _ _ h => h) (by rfl) (fun w hS => by obtain ⟨hk, -, q0, q1, q2, q3, q4, q5, q6, q7, q8⟩ := hS; obtain ⟨-, -, -, p3⟩ := quad hk; simp [execOp, go_sem, p3]) hHeld ?_
          simp only [List.setIfInBounds_toArray, List.set_cons_zero, List.set_cons_succ]
          refine takeY (i := 11) (v := .int .i64 k) 133 rfl rfl (by kernel_rfl) (by kernel_rfl) (by kernel_rfl) (fun _ _ _ _ h => h) (by rfl) (fun w hS => by simp [execOp, go_sem, *]) hHeld ?_
          simp only [List.setIfInBounds_toArray, List.set_cons_zero, List.set_cons_succ]
          refine takeY (i := 12) (v := .pointer (some ⟨pb, po + k * 9, none⟩)) 134 rfl rfl (by kernel_rfl) (by kernel_rfl) (by kernel_rfl) (fun _ _ _ _ h => h) (by rfl) (fun w hS => by simp [execOp, go_sem, *]) hHeld ?_
          simp only [List.setIfInBounds_toArray, List.set_cons_zero, List.set_cons_succ]
          refine takeY (i := 13) (v := .agg #[.string f.nm, .int .i64 f.ty, .int .i64 f.lb, .slice ab f.bys.length abc, .slice ai f.is.length aic, .slice ah f.wh.length ahc, .slice av f.va.length avc, .string f.sy, .slice au f.mu.length auc]) 135 rfl rfl (by kernel_rfl) (by kernel_rfl) (by kernel_rfl) (fun _ _ _ _ h => h) (by rfl) (fun w hS => by obtain ⟨hk, -, q0, q1, q2, q3, q4, q5, q6, q7, q8⟩ := hS; simp [execOp, go_sem, q0, q1, q2, q3, q4, q5, q6, q7, q8]) hHeld ?_
          simp only [List.setIfInBounds_toArray, List.set_cons_zero, List.set_cons_succ]
          refine takeY (i := 14) (v := .slice an m.fields.length cn) 136 rfl rfl (by kernel_rfl) (by kernel_rfl) (by kernel_rfl) (fun _ _ _ _ h => h) (by rfl) (fun w hS => by simp [execOp, go_sem, *]) hHeld ?_
          simp only [List.setIfInBounds_toArray, List.set_cons_zero, List.set_cons_succ]
          have HC2' := unhide HC2 W8 (unhide HB8)
          refine callY (i := 15) (f := 49) (args := #[.agg #[.string f.nm, .int .i64 f.ty, .int .i64 f.lb, .slice ab f.bys.length abc, .slice ai f.is.length aic, .slice ah f.wh.length ahc, .slice av f.va.length avc, .string f.sy, .slice au f.mu.length auc], .slice an m.fields.length cn]) (R := fun r wz => r = .bool g2 ∧ Below W8.heap.size W8 wz) 137 rfl rfl (by rfl) (by kernel_rfl) (by simp [execOp, go_sem]) ((HC2').mono fun e w6 ⟨he, hb⟩ => ⟨_, he, rfl, hb⟩) ?_
          rintro r3 W9 ⟨rfl, hb9⟩
          have HBw9 : Hid (Below w.heap.size w W9) := hide ((unhide HBw8).trans (hb9.mono (unhide HBw8).size))
          have HB79 : Hid (Below W7.heap.size W7 W9) := hide ((unhide HB78).trans (hb9.mono (unhide HB78).size))
          replace hHeld : Blk W9 w.heap.size 35 [.slice al m.labels.length alc, .slice ap m.below.length apc, .slice ar m.roles.length arc, .slice (some ⟨pb, po, none⟩) m.fields.length afc] ∧ FCel W9 pb (po + k * 9) f ⟨ab, abc, ai, aic, ah, ahc, av, avc, au, auc⟩ := ⟨hHeld.1.mono hb9 hHeld.1.lt, hHeld.2.mono hb9⟩
          clear hb9
          refine ⟨hHeld, ?_⟩
          simp only [List.setIfInBounds_toArray, List.set_cons_zero, List.set_cons_succ]
          cases g2
          · have HX : Hid (q = false) := hide (unhide HF0 fun v => by have := (unhide HM1 v).2; cases this)
            refine takeY (i := 16) (v := .bool true) 138 rfl rfl (by kernel_rfl) (by kernel_rfl) (by kernel_rfl) (fun _ _ _ _ h => h) (by rfl) (fun w hS => by simp [execOp, go_sem, *]) hHeld ?_
            simp only [List.setIfInBounds_toArray, List.set_cons_zero, List.set_cons_succ]
            refine takeY (i := 17) (v := .bool true) 139 rfl rfl (by kernel_rfl) (by kernel_rfl) (by kernel_rfl) (fun _ _ _ _ h => h) (by rfl) (fun w hS => by simp [execOp, go_sem, *]) hHeld ?_
            simp only [List.setIfInBounds_toArray, List.set_cons_zero, List.set_cons_succ]
            refine wpAnyH_done (by kernel_rfl) ?_ _
            clear hHeld
            go_wp2_with fail
            go_ret
            exact ⟨ret_bool (unhide HX).symm, unhide HBw9⟩
          have HL3 := hide (unhide HL2 rfl rfl)
          refine takeY (i := 16) (v := .bool false) 138 rfl rfl (by kernel_rfl) (by kernel_rfl) (by kernel_rfl) (fun _ _ _ _ h => h) (by rfl) (fun w hS => by simp [execOp, go_sem, *]) hHeld ?_
          simp only [List.setIfInBounds_toArray, List.set_cons_zero, List.set_cons_succ]
          refine takeY (i := 17) (v := .bool false) 139 rfl rfl (by kernel_rfl) (by kernel_rfl) (by kernel_rfl) (fun _ _ _ _ h => h) (by rfl) (fun w hS => by simp [execOp, go_sem, *]) hHeld ?_
          simp only [List.setIfInBounds_toArray, List.set_cons_zero, List.set_cons_succ]
          refine wpAnyH_done (by kernel_rfl) ?_ _
          clear hHeld
          go_wp2_with fail
          go_roundw
          case rel => first | exact ⟨k + 1, by omega, by go_num, unhide HL3, unhide HB79⟩ | ((repeat apply Exists.intro); exact ⟨⟨k + 1, by omega, by go_num, unhide HL3, unhide HB79⟩, rfl⟩)
          case measure => simp [intOf]; omega
        obtain rfl : k = m.fields.length := by omega
        have hlt' : ¬ (m.fields.length : Int) < (m.fields.length : Int) := by omega
        have HVv : Hid (VfA m) := hide ⟨by omega, by omega, by omega, by omega, unhide HN1, unhide HN2, unhide HN3, unhide HP, unhide HRo, fun x hx => by
          obtain ⟨j, hj, rfl⟩ := List.mem_iff_getElem.1 hx
          exact (unhide HL j hj hj).1, fun x hx => by
          obtain ⟨j, hj, rfl⟩ := List.mem_iff_getElem.1 hx
          exact (unhide HL j hj hj).2⟩
        have HC := hide (l3PrintForm_any m ⟨al, alc, ap, apc, ar, arc, af, afc, afa⟩ wr (unhide HF) (unhide HVv) (unhide HSr))
        have HQ : Hid (q = decide ((cT m).length ≤ 30000)) := hide (unhide HT0 (unhide HVv))
        obtain ⟨T, hT⟩ : ∃ T : ByteArray, ⟨(cT m).toArray⟩ = T := ⟨_, rfl⟩
        have hTs : T.size = (cT m).length := by rw [← hT]; rfl
        have hTb : (cT m).length ≤ 3714016 := by rw [← c4_all]; exact c4_len (unhide HVv) _
        rw [← hTs] at HQ hTb
        rw [hT] at HC
        unfold mV at HC
        dsimp only at HC
        clear hT hTs
        obtain ⟨y0, y1, y2, y3⟩ := quad (unhide HKr)
        go_wp2_with fail
        refine (unhide HC).mono ?_
        rintro r W9 ⟨rfl, hb9⟩
        have HBw9 : Hid (Below w.heap.size w W9) := hide ((unhide HBw).trans (hb9.mono (unhide HBw).size))
        clear hb9
        have HQ2 : Hid (q = decide ((T.size : Int) ≤ 30000)) := hide (by rw [unhide HQ]; exact decide_eq_decide.2 (by omega))
        go_wp2_with fail
        go_ret
        exact ⟨ret_bool (unhide HQ2).symm, unhide HBw9⟩
end Go.Proofs.YtalgidagiojbpaaGreatDoor
