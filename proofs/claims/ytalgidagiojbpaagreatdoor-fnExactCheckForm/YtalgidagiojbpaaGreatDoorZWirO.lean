import Derived.Test.YtalgidagiojbpaaGreatDoorGM
import Derived.Test.YtalgidagiojbpaaGreatDoorGH
/- The program: the wiring of a valid form. -/
namespace Go.Proofs.YtalgidagiojbpaaGreatDoor
open Go Go.RowKit

set_option maxRecDepth 100000 in
set_option maxHeartbeats 8000000 in
theorem wiringOf_any (m : Fm) (A : MA) (w : World) (hf : FitM m) (hcap : Caps m A) (ha : MSl w m A) (ht : Tabs w) (hy : TyW w) :
    Calls Tryz.prog 29 #[mV m A] w fun r w' => ((vfB m = false ∧ r = .returned (.tuple #[.agg #[.slice none 0 0, .slice none 0 0, .slice none 0 0, .slice none 0 0, .map none], .bool false])) ∨ (vfB m = true ∧ ∃ b, r = .returned (.tuple #[wV m A b, .bool true]) ∧ PMap w' b (fNames m))) ∧ Below w.heap.size w w' := by
  have HVa : Hid (vfB m = true → VfA m) := hide fun h => Classical.byContradiction fun hn => by rw [vfB_false hn] at h; cases h
  have HCv := hide fun W (hs : MSl W m A) (ht : Tabs W) (hy : TyW W) => implValidForm_any m A W hf hcap hs ht hy
  have HCn := hide fun W (hl : m.fields.length ≤ 200) (hs : MSl W m A) => fieldNames_any m A W hl hs.f
  have HNs : Hid (∀ x, x ∈ fNames m → x.size ≤ 9223372036854775807) := hide fun x hx => by
    obtain ⟨f, hff, rfl⟩ := List.mem_map.1 hx
    exact (hf.f f hff).nm
  obtain ⟨al, alc, ap, apc, ar, arc, af, afc, afa⟩ := A
  unfold mV at HCv HCn ⊢
  unfold wV
  dsimp only at HCv HCn ⊢
  have HK := hide ((Blk.new w 35 #[.slice al m.labels.length alc, .slice ap m.below.length apc, .slice ar m.roles.length arc, .slice af m.fields.length afc]).alloc (.cells #[.slice none 0 0, .slice none 0 0, .slice none 0 0, .slice none 0 0, .map none] 66))
  have HR := hide (Blk.new (w.alloc (.cells #[.slice al m.labels.length alc, .slice ap m.below.length apc, .slice ar m.roles.length arc, .slice af m.fields.length afc] 35)) 66 #[.slice none 0 0, .slice none 0 0, .slice none 0 0, .slice none 0 0, .map none])
  rw [World.size_alloc] at HR
  have HB := hide (((Below.refl w.heap.size w).alloc (Nat.le_refl _) (.cells #[.slice al m.labels.length alc, .slice ap m.below.length apc, .slice ar m.roles.length arc, .slice af m.fields.length afc] 35)).alloc (by simp) (.cells #[.slice none 0 0, .slice none 0 0, .slice none 0 0, .slice none 0 0, .map none] 66))
  obtain ⟨W0, hW0⟩ : ∃ W0, (w.alloc (.cells #[.slice al m.labels.length alc, .slice ap m.below.length apc, .slice ar m.roles.length arc, .slice af m.fields.length afc] 35)).alloc (.cells #[.slice none 0 0, .slice none 0 0, .slice none 0 0, .slice none 0 0, .map none] 66) = W0 := ⟨_, rfl⟩
  rw [hW0] at HK HR HB
  have HS := hide (ha.mono (unhide HB)); have HT := hide (ht.mono (unhide HB)); have HY := hide (hy.mono (unhide HB))
  clear ha ht hy hf hcap
  obtain ⟨y0, y1, y2, y3⟩ := quad (unhide HK)
  go_enter Tryz.func29, Tryz.ntmps29
  go_wp2_with fail
  try rw [hW0]
  refine (unhide HCv W0 (unhide HS) (unhide HT) (unhide HY)).mono ?_
  rintro r W1 ⟨rfl, hb1⟩
  replace HK := hide ((unhide HK).mono hb1 (unhide HK).lt); replace HR := hide ((unhide HR).mono hb1 (unhide HR).lt); replace HS := hide ((unhide HS).mono hb1); replace HB := hide ((unhide HB).trans (hb1.mono (unhide HB).size))
  clear hb1 hW0 y0 y1 y2 y3 HCv HT HY
  obtain ⟨r0, r1, r2, r3, r4⟩ := five (unhide HR)
  have f0 := (unhide HR).free 0; have f1 := (unhide HR).free 1; have f2 := (unhide HR).free 2; have f3 := (unhide HR).free 3; have f4 := (unhide HR).free 4
  cases hq : vfB m
  · have HQ := hide hq
    clear hq
    go_wp2_with fail
    have HR9 := hide ((((((unhide HR).set 0 (.slice none 0 0)).set 1 (.slice none 0 0)).set 2 (.slice none 0 0)).set 3 (.slice none 0 0)).set 4 (.map none))
    simp only [List.set_cons_zero, List.set_cons_succ] at HR9
    have HB9 := hide ((((((unhide HB).setCell (p := ⟨w.heap.size + 1, 0, none⟩) (by simp) (.slice none 0 0)).setCell (p := ⟨w.heap.size + 1, 1, none⟩) (by simp) (.slice none 0 0)).setCell (p := ⟨w.heap.size + 1, 2, none⟩) (by simp) (.slice none 0 0)).setCell (p := ⟨w.heap.size + 1, 3, none⟩) (by simp) (.slice none 0 0)).setCell (p := ⟨w.heap.size + 1, 4, none⟩) (by simp) (.map none))
    obtain ⟨k0, k1, k2, k3, k4⟩ := five (unhide HR9)
    exact bodyPost_ret (v := .tuple #[.agg #[.slice none 0 0, .slice none 0 0, .slice none 0 0, .slice none 0 0, .map none], .bool false]) (by simp [results, Tryz.results29, go_sem, *]) rfl ⟨.inl ⟨unhide HQ, rfl⟩, unhide HB9⟩
  · have HQ := hide hq; have HV := hide (unhide HVa hq)
    clear hq r0 r1 r2 r3 r4 f0 f1 f2 f3 f4
    have hnf := (unhide HV).nf
    go_wp2_with fail
    refine wp_region_held_drew (S := fun w' => Blk w' w.heap.size 35 [.slice al m.labels.length alc, .slice ap m.below.length apc, .slice ar m.roles.length arc, .slice af m.fields.length afc]) (by kernel_rfl) (unhide HK) (fun hHeld => ?_)
    refine takeY (i := 0) (v := .agg #[.slice al m.labels.length alc, .slice ap m.below.length apc, .slice ar m.roles.length arc, .slice af m.fields.length afc]) 8 rfl rfl (by kernel_rfl) (by kernel_rfl) (by kernel_rfl) (fun _ _ _ _ h => h) (by rfl) (fun w hS => by obtain ⟨q0, q1, q2, q3⟩ := quad hS; simp [execOp, go_sem, q0, q1, q2, q3]) hHeld ?_
    simp only [List.setIfInBounds_toArray, List.set_cons_zero, List.set_cons_succ]
    refine takeY (i := 1) (v := .agg #[.slice al m.labels.length alc, .slice ap m.below.length apc, .slice ar m.roles.length arc, .slice af m.fields.length afc]) 9 rfl rfl (by kernel_rfl) (by kernel_rfl) (by kernel_rfl) (fun _ _ _ _ h => h) (by rfl) (fun w hS => by obtain ⟨q0, q1, q2, q3⟩ := quad hS; simp [execOp, go_sem, q0, q1, q2, q3]) hHeld ?_
    simp only [List.setIfInBounds_toArray, List.set_cons_zero, List.set_cons_succ]
    have HD : Hid (Below W1.heap.size W1 W1.drew) := hide (Below.refl _ _).drew
    refine callY (i := 2) (f := 62) (args := #[.agg #[.slice al m.labels.length alc, .slice ap m.below.length apc, .slice ar m.roles.length arc, .slice af m.fields.length afc]]) (R := fun v wz => ∃ a0 c0, v = .slice a0 (fNames m).length c0 ∧ Strs wz a0 (fNames m) ∧ Below W1.heap.size W1 wz) 10 rfl rfl (by rfl) (by kernel_rfl) ?hrun2 ((unhide HCn W1.drew hnf ((unhide HS).mono (unhide HD))).mono fun e w6 ⟨a0, c0, he, hs, hb⟩ => ⟨_, he, a0, c0, by rw [fNames_len], hs, below_of_drew hb⟩) ?_
    case hrun2 => simp [execOp, go_sem]
    rintro v W2 ⟨a0, c0, rfl, hs, hb⟩
    replace HK := hide ((unhide HK).mono hb (unhide HK).lt); replace HR := hide ((unhide HR).mono hb (unhide HR).lt); replace HB := hide ((unhide HB).trans (hb.mono (unhide HB).size))
    have HC3 := hide (placesOf_any a0 c0 (fNames m) W2 (by rw [fNames_len]; omega) (unhide HNs) hs)
    clear hs hb hHeld
    have hHeld := unhide HK
    refine ⟨hHeld, ?_⟩
    simp only [List.setIfInBounds_toArray, List.set_cons_zero, List.set_cons_succ]
    refine callY (i := 3) (f := 61) (args := #[.slice a0 (fNames m).length c0]) (R := fun v wz => v = .map (some W2.heap.size) ∧ PMap wz W2.heap.size (fNames m) ∧ Below W2.heap.size W2 wz) 11 rfl rfl (by rfl) (by kernel_rfl) ?hrun3 ((unhide HC3).mono fun e w6 ⟨he, hm, hb⟩ => ⟨_, he, rfl, hm, hb⟩) ?_
    case hrun3 => simp [execOp, go_sem]
    rintro v W3 ⟨rfl, hm, hb⟩
    have HM := hide hm
    replace HK := hide ((unhide HK).mono hb (unhide HK).lt)
    have HRl : Hid (w.heap.size + 1 < W2.heap.size) := hide (unhide HR).lt
    replace HR := hide ((unhide HR).mono hb (unhide HR).lt); replace HB := hide ((unhide HB).trans (hb.mono (unhide HB).size))
    clear hm hb hHeld HC3
    have hHeld := unhide HK
    refine ⟨hHeld, ?_⟩
    simp only [List.setIfInBounds_toArray, List.set_cons_zero, List.set_cons_succ]
    obtain ⟨b, hbq⟩ : ∃ b, W2.heap.size = b := ⟨_, rfl⟩
    rw [hbq] at HM HRl ⊢
    clear hbq
    refine takeY (i := 4) (v := .agg #[.slice al m.labels.length alc, .slice ap m.below.length apc, .slice ar m.roles.length arc, .slice af m.fields.length afc, .map (some b)]) 12 rfl rfl (by kernel_rfl) (by kernel_rfl) (by kernel_rfl) (fun _ _ _ _ h => h) (by rfl) (fun w hS => by simp [execOp, go_sem, *]) hHeld ?_
    simp only [List.setIfInBounds_toArray, List.set_cons_zero, List.set_cons_succ]
    obtain ⟨r0, r1, r2, r3, r4⟩ := five (unhide HR)
    have f0 := (unhide HR).free 0; have f1 := (unhide HR).free 1; have f2 := (unhide HR).free 2; have f3 := (unhide HR).free 3; have f4 := (unhide HR).free 4
    refine storeY (i := 5) (w' := ((((W3.setCell ⟨w.heap.size + 1, 0, none⟩ (.slice al m.labels.length alc)).setCell ⟨w.heap.size + 1, 1, none⟩ (.slice ap m.below.length apc)).setCell ⟨w.heap.size + 1, 2, none⟩ (.slice ar m.roles.length arc)).setCell ⟨w.heap.size + 1, 3, none⟩ (.slice af m.fields.length afc)).setCell ⟨w.heap.size + 1, 4, none⟩ (.map (some b))) rfl (by rfl) (by kernel_rfl) rfl ?hrunS rfl (((((hHeld.other (a := ⟨w.heap.size + 1, 0, none⟩) (.slice al m.labels.length alc) (by simp)).other (a := ⟨w.heap.size + 1, 1, none⟩) (.slice ap m.below.length apc) (by simp)).other (a := ⟨w.heap.size + 1, 2, none⟩) (.slice ar m.roles.length arc) (by simp)).other (a := ⟨w.heap.size + 1, 3, none⟩) (.slice af m.fields.length afc) (by simp)).other (a := ⟨w.heap.size + 1, 4, none⟩) (.map (some b)) (by simp)) ?_
    case hrunS => simp [execOp, go_sem, r0, r1, r2, r3, r4, f0, f1, f2, f3, f4]
    replace hHeld := (((((hHeld.other (a := ⟨w.heap.size + 1, 0, none⟩) (.slice al m.labels.length alc) (by simp)).other (a := ⟨w.heap.size + 1, 1, none⟩) (.slice ap m.below.length apc) (by simp)).other (a := ⟨w.heap.size + 1, 2, none⟩) (.slice ar m.roles.length arc) (by simp)).other (a := ⟨w.heap.size + 1, 3, none⟩) (.slice af m.fields.length afc) (by simp)).other (a := ⟨w.heap.size + 1, 4, none⟩) (.map (some b)) (by simp))
    refine takeY (i := 6) (v := .bool true) 3 rfl rfl (by kernel_rfl) (by kernel_rfl) (by kernel_rfl) (fun _ _ _ _ h => h) (by rfl) (fun w hS => by simp [execOp, go_sem, *]) hHeld ?_
    simp only [List.setIfInBounds_toArray, List.set_cons_zero, List.set_cons_succ]
    refine wpAnyH_done (by kernel_rfl) ?_ _
    have HR9 := hide ((((((unhide HR).set 0 (.slice al m.labels.length alc)).set 1 (.slice ap m.below.length apc)).set 2 (.slice ar m.roles.length arc)).set 3 (.slice af m.fields.length afc)).set 4 (.map (some b)))
    simp only [List.set_cons_zero, List.set_cons_succ] at HR9
    have HB9 := hide ((((((unhide HB).setCell (p := ⟨w.heap.size + 1, 0, none⟩) (by simp) (.slice al m.labels.length alc)).setCell (p := ⟨w.heap.size + 1, 1, none⟩) (by simp) (.slice ap m.below.length apc)).setCell (p := ⟨w.heap.size + 1, 2, none⟩) (by simp) (.slice ar m.roles.length arc)).setCell (p := ⟨w.heap.size + 1, 3, none⟩) (by simp) (.slice af m.fields.length afc)).setCell (p := ⟨w.heap.size + 1, 4, none⟩) (by simp) (.map (some b)))
    have HM9 : Hid (PMap (((((W3.setCell ⟨w.heap.size + 1, 0, none⟩ (.slice al m.labels.length alc)).setCell ⟨w.heap.size + 1, 1, none⟩ (.slice ap m.below.length apc)).setCell ⟨w.heap.size + 1, 2, none⟩ (.slice ar m.roles.length arc)).setCell ⟨w.heap.size + 1, 3, none⟩ (.slice af m.fields.length afc)).setCell ⟨w.heap.size + 1, 4, none⟩ (.map (some b))) b (fNames m)) := hide (by
      obtain ⟨es, clock, h1, F, hs, hD⟩ := unhide HM
      have hne : b ≠ w.heap.size + 1 := by have := unhide HRl; omega
      exact ⟨es, clock, ((((heap_setCell_other _ _ b _ hne).trans (heap_setCell_other _ _ b _ hne)).trans (heap_setCell_other _ _ b _ hne)).trans (heap_setCell_other _ _ b _ hne)).trans ((heap_setCell_other _ _ b _ hne).trans h1), F, hs, hD⟩)
    obtain ⟨W9, hW9⟩ : ∃ W9, ((((W3.setCell ⟨w.heap.size + 1, 0, none⟩ (.slice al m.labels.length alc)).setCell ⟨w.heap.size + 1, 1, none⟩ (.slice ap m.below.length apc)).setCell ⟨w.heap.size + 1, 2, none⟩ (.slice ar m.roles.length arc)).setCell ⟨w.heap.size + 1, 3, none⟩ (.slice af m.fields.length afc)).setCell ⟨w.heap.size + 1, 4, none⟩ (.map (some b)) = W9 := ⟨_, rfl⟩
    rw [hW9] at HR9 HB9 HM9 ⊢
    clear hW9 r0 r1 r2 r3 r4 f0 f1 f2 f3 f4 hHeld
    obtain ⟨k0, k1, k2, k3, k4⟩ := five (unhide HR9)
    go_wp2_with fail
    exact bodyPost_ret (v := .tuple #[.agg #[.slice al m.labels.length alc, .slice ap m.below.length apc, .slice ar m.roles.length arc, .slice af m.fields.length afc, .map (some b)], .bool true]) (by simp [results, Tryz.results29, go_sem, *]) rfl ⟨.inr ⟨unhide HQ, b, rfl, unhide HM9⟩, unhide HB9⟩
end Go.Proofs.YtalgidagiojbpaaGreatDoor
