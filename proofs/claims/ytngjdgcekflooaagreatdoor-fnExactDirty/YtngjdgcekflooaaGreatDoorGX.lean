import Derived.Test.YtngjdgcekflooaaGreatDoorGM
import Derived.Test.YtngjdgcekflooaaGreatDoorGH
import Derived.Test.YtngjdgcekflooaaGreatDoorGQ
import Derived.Test.YtngjdgcekflooaaGreatDoorGO
import Derived.Maps.OwnIn
import Derived.Test.YtngjdgcekflooaaGreatDoorGR
/- The program: the wiring of a valid form. -/
namespace Go.Proofs.YtngjdgcekflooaaGreatDoor
open Go Go.RowKit

set_option maxRecDepth 100000 in
set_option maxHeartbeats 8000000 in
theorem wiringOf_any (m : Fm) (A : MA) (w : World) (hf : FitM m) (hcap : Caps m A) (ha : MSl w m A) (ht : Tabs w) (hy : TyW w) :
    Calls Tryz.prog 26 #[mV m A] w fun r w' => ((vfB m = false ∧ r = .returned (.tuple #[.agg #[.slice none 0 0, .slice none 0 0, .slice none 0 0, .slice none 0 0, .map none], .bool false])) ∨ (vfB m = true ∧ ∃ b, r = .returned (.tuple #[wV m A b, .bool true]) ∧ PMap w' b (fNames m))) ∧ Below w.heap.size w w' := by
  have HVa : Hid (vfB m = true → VfA m) := hide fun h => Classical.byContradiction fun hn => by rw [vfB_false hn] at h; cases h
  have HCv := hide fun W (hs : MSl W m A) (ht : Tabs W) (hy : TyW W) => implValidForm_any m A W hf hcap hs ht hy
  have HCn := hide fun W (hl : m.fields.length ≤ 200) (hs : MSl W m A) => fieldNames_any m A W hl hs.f
  have HNs : Hid (∀ x, x ∈ fNames m → x.size ≤ 9223372036854775807) := hide fun x hx => by
    obtain ⟨f, hff, rfl⟩ := List.mem_map.1 hx
    exact (hf.f f hff).nm
  obtain ⟨al, alc, ap, apc, ar, arc, af, afc, afa⟩ := A
  unfold mV at HCv HCn ⊢
  unfold wV
  dsimp only at HCv HCn ⊢
  have HK := hide ((Blk.new w 35 #[.slice al m.labels.length alc, .slice ap m.below.length apc, .slice ar m.roles.length arc, .slice af m.fields.length afc]).alloc (.cells #[.slice none 0 0, .slice none 0 0, .slice none 0 0, .slice none 0 0, .map none] 56))
  have HR := hide (Blk.new (w.alloc (.cells #[.slice al m.labels.length alc, .slice ap m.below.length apc, .slice ar m.roles.length arc, .slice af m.fields.length afc] 35)) 56 #[.slice none 0 0, .slice none 0 0, .slice none 0 0, .slice none 0 0, .map none])
  rw [World.size_alloc] at HR
  have HB := hide (((Below.refl w.heap.size w).alloc (Nat.le_refl _) (.cells #[.slice al m.labels.length alc, .slice ap m.below.length apc, .slice ar m.roles.length arc, .slice af m.fields.length afc] 35)).alloc (by simp) (.cells #[.slice none 0 0, .slice none 0 0, .slice none 0 0, .slice none 0 0, .map none] 56))
  obtain ⟨W0, hW0⟩ : ∃ W0, (w.alloc (.cells #[.slice al m.labels.length alc, .slice ap m.below.length apc, .slice ar m.roles.length arc, .slice af m.fields.length afc] 35)).alloc (.cells #[.slice none 0 0, .slice none 0 0, .slice none 0 0, .slice none 0 0, .map none] 56) = W0 := ⟨_, rfl⟩
  rw [hW0] at HK HR HB
  have HS := hide (ha.mono (unhide HB)); have HT := hide (ht.mono (unhide HB)); have HY := hide (hy.mono (unhide HB))
  clear ha ht hy hf hcap
  obtain ⟨y0, y1, y2, y3⟩ := quad (unhide HK)
  go_enter Tryz.func26, Tryz.ntmps26
  go_wp2_with fail
  try rw [hW0]
  refine (unhide HCv W0 (unhide HS) (unhide HT) (unhide HY)).mono ?_
  rintro r W1 ⟨rfl, hb1⟩
  replace HK := hide ((unhide HK).mono hb1 (unhide HK).lt); replace HR := hide ((unhide HR).mono hb1 (unhide HR).lt); replace HS := hide ((unhide HS).mono hb1); replace HB := hide ((unhide HB).trans (hb1.mono (unhide HB).size))
  clear hb1 hW0 y0 y1 y2 y3 HCv HT HY
  obtain ⟨r0, r1, r2, r3, r4⟩ := five (unhide HR)
  have f0 := (unhide HR).free 0; have f1 := (unhide HR).free 1; have f2 := (unhide HR).free 2; have f3 := (unhide HR).free 3; have f4 := (unhide HR).free 4
  cases hq : vfB m
  · have HQ := hide hq
    clear hq
    go_wp2_with fail
    have HR9 := hide ((((((unhide HR).set 0 (.slice none 0 0)).set 1 (.slice none 0 0)).set 2 (.slice none 0 0)).set 3 (.slice none 0 0)).set 4 (.map none))
    simp only [List.set_cons_zero, List.set_cons_succ] at HR9
    have HB9 := hide ((((((unhide HB).setCell (p := ⟨w.heap.size + 1, 0, none⟩) (by simp) (.slice none 0 0)).setCell (p := ⟨w.heap.size + 1, 1, none⟩) (by simp) (.slice none 0 0)).setCell (p := ⟨w.heap.size + 1, 2, none⟩) (by simp) (.slice none 0 0)).setCell (p := ⟨w.heap.size + 1, 3, none⟩) (by simp) (.slice none 0 0)).setCell (p := ⟨w.heap.size + 1, 4, none⟩) (by simp) (.map none))
    obtain ⟨k0, k1, k2, k3, k4⟩ := five (unhide HR9)
    exact bodyPost_ret (v := .tuple #[.agg #[.slice none 0 0, .slice none 0 0, .slice none 0 0, .slice none 0 0, .map none], .bool false]) (by simp [results, Tryz.results26, go_sem, *]) rfl ⟨.inl ⟨unhide HQ, rfl⟩, unhide HB9⟩
  · have HQ := hide hq; have HV := hide (unhide HVa hq)
    clear hq r0 r1 r2 r3 r4 f0 f1 f2 f3 f4
    have hnf := (unhide HV).nf
    go_wp2_with fail
    refine wp_region_held_drew (S := fun w' => Blk w' w.heap.size 35 [.slice al m.labels.length alc, .slice ap m.below.length apc, .slice ar m.roles.length arc, .slice af m.fields.length afc]) (by kernel_rfl) (unhide HK) (fun hHeld => ?_)
    refine takeY (i := 0) (v := .agg #[.slice al m.labels.length alc, .slice ap m.below.length apc, .slice ar m.roles.length arc, .slice af m.fields.length afc]) 8 rfl rfl (by kernel_rfl) (by kernel_rfl) (by kernel_rfl) (fun _ _ _ _ h => h) (by rfl) (fun w hS => by obtain ⟨q0, q1, q2, q3⟩ := quad hS; simp [execOp, go_sem, q0, q1, q2, q3]) hHeld ?_
    simp only [List.setIfInBounds_toArray, List.set_cons_zero, List.set_cons_succ]
    refine takeY (i := 1) (v := .agg #[.slice al m.labels.length alc, .slice ap m.below.length apc, .slice ar m.roles.length arc, .slice af m.fields.length afc]) 9 rfl rfl (by kernel_rfl) (by kernel_rfl) (by kernel_rfl) (fun _ _ _ _ h => h) (by rfl) (fun w hS => by obtain ⟨q0, q1, q2, q3⟩ := quad hS; simp [execOp, go_sem, q0, q1, q2, q3]) hHeld ?_
    simp only [List.setIfInBounds_toArray, List.set_cons_zero, List.set_cons_succ]
    have HD : Hid (Below W1.heap.size W1 W1.drew) := hide (Below.refl _ _).drew
    refine callY (i := 2) (f := 55) (args := #[.agg #[.slice al m.labels.length alc, .slice ap m.below.length apc, .slice ar m.roles.length arc, .slice af m.fields.length afc]]) (R := fun v wz => ∃ a0 c0, v = .slice a0 (fNames m).length c0 ∧ Strs wz a0 (fNames m) ∧ Below W1.heap.size W1 wz) 10 rfl rfl (by rfl) (by kernel_rfl) ?hrun2 ((unhide HCn W1.drew hnf ((unhide HS).mono (unhide HD))).mono fun e w6 ⟨a0, c0, he, hs, hb⟩ => ⟨_, he, a0, c0, by rw [fNames_len], hs, below_of_drew hb⟩) ?_
    case hrun2 => simp [execOp, go_sem]
    rintro v W2 ⟨a0, c0, rfl, hs, hb⟩
    replace HK := hide ((unhide HK).mono hb (unhide HK).lt); replace HR := hide ((unhide HR).mono hb (unhide HR).lt); replace HB := hide ((unhide HB).trans (hb.mono (unhide HB).size))
    have HC3 := hide (placesOf_any a0 c0 (fNames m) W2 (by rw [fNames_len]; omega) (unhide HNs) hs)
    clear hs hb hHeld
    have hHeld := unhide HK
    refine ⟨hHeld, ?_⟩
    simp only [List.setIfInBounds_toArray, List.set_cons_zero, List.set_cons_succ]
    refine callY (i := 3) (f := 54) (args := #[.slice a0 (fNames m).length c0]) (R := fun v wz => v = .map (some W2.heap.size) ∧ PMap wz W2.heap.size (fNames m) ∧ Below W2.heap.size W2 wz) 11 rfl rfl (by rfl) (by kernel_rfl) ?hrun3 ((unhide HC3).mono fun e w6 ⟨he, hm, hb⟩ => ⟨_, he, rfl, hm, hb⟩) ?_
    case hrun3 => simp [execOp, go_sem]
    rintro v W3 ⟨rfl, hm, hb⟩
    have HM := hide hm
    replace HK := hide ((unhide HK).mono hb (unhide HK).lt)
    have HRl : Hid (w.heap.size + 1 < W2.heap.size) := hide (unhide HR).lt
    replace HR := hide ((unhide HR).mono hb (unhide HR).lt); replace HB := hide ((unhide HB).trans (hb.mono (unhide HB).size))
    clear hm hb hHeld HC3
    have hHeld := unhide HK
    refine ⟨hHeld, ?_⟩
    simp only [List.setIfInBounds_toArray, List.set_cons_zero, List.set_cons_succ]
    obtain ⟨b, hbq⟩ : ∃ b, W2.heap.size = b := ⟨_, rfl⟩
    rw [hbq] at HM HRl ⊢
    clear hbq
    refine takeY (i := 4) (v := .agg #[.slice al m.labels.length alc, .slice ap m.below.length apc, .slice ar m.roles.length arc, .slice af m.fields.length afc, .map (some b)]) 12 rfl rfl (by kernel_rfl) (by kernel_rfl) (by kernel_rfl) (fun _ _ _ _ h => h) (by rfl) (fun w hS => by simp [execOp, go_sem, *]) hHeld ?_
    simp only [List.setIfInBounds_toArray, List.set_cons_zero, List.set_cons_succ]
    obtain ⟨r0, r1, r2, r3, r4⟩ := five (unhide HR)
    have f0 := (unhide HR).free 0; have f1 := (unhide HR).free 1; have f2 := (unhide HR).free 2; have f3 := (unhide HR).free 3; have f4 := (unhide HR).free 4
    refine storeY (i := 5) (w' := ((((W3.setCell ⟨w.heap.size + 1, 0, none⟩ (.slice al m.labels.length alc)).setCell ⟨w.heap.size + 1, 1, none⟩ (.slice ap m.below.length apc)).setCell ⟨w.heap.size + 1, 2, none⟩ (.slice ar m.roles.length arc)).setCell ⟨w.heap.size + 1, 3, none⟩ (.slice af m.fields.length afc)).setCell ⟨w.heap.size + 1, 4, none⟩ (.map (some b))) rfl (by rfl) (by kernel_rfl) rfl ?hrunS rfl (((((hHeld.other (a := ⟨w.heap.size + 1, 0, none⟩) (.slice al m.labels.length alc) (by simp)).other (a := ⟨w.heap.size + 1, 1, none⟩) (.slice ap m.below.length apc) (by simp)).other (a := ⟨w.heap.size + 1, 2, none⟩) (.slice ar m.roles.length arc) (by simp)).other (a := ⟨w.heap.size + 1, 3, none⟩) (.slice af m.fields.length afc) (by simp)).other (a := ⟨w.heap.size + 1, 4, none⟩) (.map (some b)) (by simp)) ?_
    case hrunS => simp [execOp, go_sem, r0, r1, r2, r3, r4, f0, f1, f2, f3, f4]
    replace hHeld := (((((hHeld.other (a := ⟨w.heap.size + 1, 0, none⟩) (.slice al m.labels.length alc) (by simp)).other (a := ⟨w.heap.size + 1, 1, none⟩) (.slice ap m.below.length apc) (by simp)).other (a := ⟨w.heap.size + 1, 2, none⟩) (.slice ar m.roles.length arc) (by simp)).other (a := ⟨w.heap.size + 1, 3, none⟩) (.slice af m.fields.length afc) (by simp)).other (a := ⟨w.heap.size + 1, 4, none⟩) (.map (some b)) (by simp))
    refine takeY (i := 6) (v := .bool true) 3 rfl rfl (by kernel_rfl) (by kernel_rfl) (by kernel_rfl) (fun _ _ _ _ h => h) (by rfl) (fun w hS => by simp [execOp, go_sem, *]) hHeld ?_
    simp only [List.setIfInBounds_toArray, List.set_cons_zero, List.set_cons_succ]
    refine wpAnyH_done (by kernel_rfl) ?_ _
    have HR9 := hide ((((((unhide HR).set 0 (.slice al m.labels.length alc)).set 1 (.slice ap m.below.length apc)).set 2 (.slice ar m.roles.length arc)).set 3 (.slice af m.fields.length afc)).set 4 (.map (some b)))
    simp only [List.set_cons_zero, List.set_cons_succ] at HR9
    have HB9 := hide ((((((unhide HB).setCell (p := ⟨w.heap.size + 1, 0, none⟩) (by simp) (.slice al m.labels.length alc)).setCell (p := ⟨w.heap.size + 1, 1, none⟩) (by simp) (.slice ap m.below.length apc)).setCell (p := ⟨w.heap.size + 1, 2, none⟩) (by simp) (.slice ar m.roles.length arc)).setCell (p := ⟨w.heap.size + 1, 3, none⟩) (by simp) (.slice af m.fields.length afc)).setCell (p := ⟨w.heap.size + 1, 4, none⟩) (by simp) (.map (some b)))
    have HM9 : Hid (PMap (((((W3.setCell ⟨w.heap.size + 1, 0, none⟩ (.slice al m.labels.length alc)).setCell ⟨w.heap.size + 1, 1, none⟩ (.slice ap m.below.length apc)).setCell ⟨w.heap.size + 1, 2, none⟩ (.slice ar m.roles.length arc)).setCell ⟨w.heap.size + 1, 3, none⟩ (.slice af m.fields.length afc)).setCell ⟨w.heap.size + 1, 4, none⟩ (.map (some b))) b (fNames m)) := hide (by
      obtain ⟨es, clock, h1, F, hs, hD⟩ := unhide HM
      have hne : b ≠ w.heap.size + 1 := by have := unhide HRl; omega
      exact ⟨es, clock, ((((heap_setCell_other _ _ b _ hne).trans (heap_setCell_other _ _ b _ hne)).trans (heap_setCell_other _ _ b _ hne)).trans (heap_setCell_other _ _ b _ hne)).trans ((heap_setCell_other _ _ b _ hne).trans h1), F, hs, hD⟩)
    obtain ⟨W9, hW9⟩ : ∃ W9, ((((W3.setCell ⟨w.heap.size + 1, 0, none⟩ (.slice al m.labels.length alc)).setCell ⟨w.heap.size + 1, 1, none⟩ (.slice ap m.below.length apc)).setCell ⟨w.heap.size + 1, 2, none⟩ (.slice ar m.roles.length arc)).setCell ⟨w.heap.size + 1, 3, none⟩ (.slice af m.fields.length afc)).setCell ⟨w.heap.size + 1, 4, none⟩ (.map (some b)) = W9 := ⟨_, rfl⟩
    rw [hW9] at HR9 HB9 HM9 ⊢
    clear hW9 r0 r1 r2 r3 r4 f0 f1 f2 f3 f4 hHeld
    obtain ⟨k0, k1, k2, k3, k4⟩ := five (unhide HR9)
    go_wp2_with fail
    exact bodyPost_ret (v := .tuple #[.agg #[.slice al m.labels.length alc, .slice ap m.below.length apc, .slice ar m.roles.length arc, .slice af m.fields.length afc, .map (some b)], .bool true]) (by simp [results, Tryz.results26, go_sem, *]) rfl ⟨.inr ⟨unhide HQ, b, rfl, unhide HM9⟩, unhide HB9⟩
end Go.Proofs.YtngjdgcekflooaaGreatDoor

/- The program: the order collected; CalcOrder. -/
namespace Go.Proofs.YtngjdgcekflooaaGreatDoor
open Go Go.RowKit Go.Shelf
attribute [local go_sem] Oper.semAt_some

theorem own_cells {w : World} {base n size : Nat} {e : TypeId} {v : Value} {xs : List Value} (h : w.ownsRow base e size v n xs) {j : Nat} {o : Obj} (hj : v.ownBlock = some j) (ho : w.heap[j]? = some o) : o.isCells = true := by
  rcases h.2 with ⟨h1, -⟩ | ⟨g, cap, cur, h1, hb, hg, r⟩
  · rw [h1] at hj; cases hj
  · rw [h1] at hj
    cases hj
    rw [hg] at ho
    cases ho
    rfl

set_option maxRecDepth 100000 in
set_option maxHeartbeats 4000000 in
theorem appendSeq_in (n : Nat) (m : Fm) (A : MA) (b B : Nat) (w : World) (hv : VfA m) (hf : FitM m) (hW : Blk w B 56 [.slice A.l m.labels.length A.lc, .slice A.p m.below.length A.pc, .slice A.r m.roles.length A.rc, .slice A.f m.fields.length A.fc, .map (some b)]) (ha : MSl w m A) (hm : PMap w b (fNames m)) :
    CallsIn Fence.wide n Tryz.prog 56 #[.slice none 0 0, .func (.func 57) #[] #[.pointer (some ⟨B, 0, none⟩)]] w fun e w' => ∃ v, e = .returned v ∧ w'.ownsRow w.heap.size 3 1 v (ordL m m.fields.length).length (ui (ordL m m.fields.length)) ∧ Below w.heap.size w w' := by
  have hnf := hv.nf
  have HR := hide (Blk.new w 29 #[.slice none 0 0])
  have HB := hide ((Below.refl w.heap.size w).alloc (Nat.le_refl _) (.cells #[.slice none 0 0] 29))
  obtain ⟨W1, hW1⟩ : ∃ W1, w.alloc (.cells #[.slice none 0 0] 29) = W1 := ⟨_, rfl⟩
  have hs1 : W1.heap.size = w.heap.size + 1 := by rw [← hW1]; simp
  rw [hW1] at HR HB
  have HG := hide (order_gives m A b B W1 (fun j => j = w.heap.size) hv hf (hW.mono (unhide HB) hW.lt) (ha.mono (unhide HB)) (hm.mono (unhide HB)))
  clear hW ha hm hv hf
  refine callsIn_of_wp_marks Tryz.func56 rfl trivial ?_ rfl
  simp only [Tryz.ntmps56, List.size_toArray, List.length_cons, List.length_nil, Nat.reduceAdd, Nat.reduceSub, Array.replicate_succ, Array.replicate_zero, List.push_toArray, List.append_toArray, List.nil_append, List.cons_append]
  gi_wp2_with fail
  try rw [hW1]
  clear hW1
  refine range_lawH (gf := 57) (lb := #[.pointer (some ⟨B, 0, none⟩)]) rfl (enters_of Tryz.func57 (by kernel_rfl) rfl)
    (unhide HG) (Below.refl _ _) (fun j hj => by omega) rfl
    (fun hi pre W => ∃ v, Blk W w.heap.size 29 [v] ∧ W.ownsRow (w.heap.size + 1) 3 1 v pre.length (ui pre) ∧ (∀ q, v.ownBlock = some q → hi ≤ q) ∧ hi ≤ W.heap.size ∧ Below w.heap.size w W)
    ?hI ?h0
    (fun x => { tmps := #[.slice none 0 0, .func (.func 57) #[] #[.pointer (some ⟨B, 0, none⟩)], .pointer (some ⟨w.heap.size, 0, none⟩), undef, .slice none 0 0, .int .i64 (x : Int), .func (.func 57) #[] #[.pointer (some ⟨B, 0, none⟩)], .int .i64 (x : Int), undef, undef, undef, undef, undef], defers := [] })
    ?assign ?body ?done
  case hI =>
    rintro hi pre W W' ⟨v, h1, h2, h3, h4, h5⟩ hb
    exact ⟨v, hb.blk h1 (by omega), hb.owns h2 (fun q e => by have := h3 q e; omega), h3, Nat.le_trans h4 hb.size, h5.trans (hb.below (by omega) h5.size)⟩
  case h0 =>
    intro W hb
    exact ⟨.slice none 0 0, (unhide HR).mono hb (unhide HR).lt, World.ownsRow_nil _ _ _ _, (fun q e => by cases e), Nat.le_refl _, (unhide HB).trans (hb.mono (unhide HB).size)⟩
  case assign =>
    intro m' l x W K hK
    gi_wp2
    first | exact hK | simpa using hK
  case body =>
    rintro m' l hi pre x W hhi ⟨v, h1, h2, h3, h4, h5⟩ ⟨ht1, ht2, ht3⟩
    have c0 := h1.cell 0
    simp only [List.getElem?_cons_zero] at c0
    have hlt1 := h1.lt
    obtain ⟨i0, hi0, hz0, hz1, hz2⟩ := info_parts infoI
    have H1 := hide h1; have H2 := hide h2; have H3 := hide h3; have H5 := hide h5
    clear h1 h2 h3 h5 ht1 ht3
    gi_wp2_with (gi_at_builtin; refine wpListIn_append_own_at _ rfl _ _ 29 rfl (w.heap.size + 1) 3 i0 _ 1 8 Tryz.underlying29 hi0 hz0 hz1 hz2 rfl (by omega) _ _ _ rfl ((unhide H2).alloc _) ⟨W.heap.size, 0, none⟩ 1 1 [.int .i64 x] rfl rfl (cell_one W 3 _) (by simp [Value.oneCell']) (by unfold maxLen; omega) (by omega) (by simp; omega) ?_)
    intro v' w4 ho' hgr' _ hat'
    have hba := (Below.refl W.heap.size W).alloc (Nat.le_refl _) (.cells #[.int .i64 x] 3)
    have ho2 : w4.ownsRow (w.heap.size + 1) 3 1 v' (pre ++ [x]).length (ui (pre ++ [x])) := by simpa [ui] using ho'
    have h2a := (unhide H2).alloc (.cells #[.int .i64 x] 3)
    have h1a : Blk w4 w.heap.size 29 [v] := Blk.grown ((unhide H1).mono hba (unhide H1).lt) hgr' (fun e => by have := (h2a.lt _ e.symm).1; omega)
    have c4 := h1a.cell 0
    simp only [List.getElem?_cons_zero] at c4
    have f4 := h1a.free 0
    obtain ⟨a', c', e', -⟩ := own_at ho2
    obtain ⟨n', hn'⟩ : ∃ n', (pre ++ [x]).length = n' := ⟨_, rfl⟩
    rw [hn'] at e'
    have HQ : Hid (∀ q, v'.ownBlock = some q → hi ≤ q) := hide fun q e => by
      rcases hat' with h | h
      · exact unhide H3 q (h.symm.trans e)
      · rw [h] at e
        cases e
        first | omega | (simp; omega)
    have HKo := hide (((keepsO hba).trans (KeepsOthers.of_grownBy hgr' fun j o ej hj => own_cells h2a ej hj)).trans (KeepsOthers.setCell w4 ⟨w.heap.size, 0, none⟩ v'))
    have HKb : Hid (KeepB (fun j => j = w.heap.size) hi W (w4.setCell ⟨w.heap.size, 0, none⟩ v')) := hide (((KeepB.of_below hba h4).trans (KeepB.grown hgr' fun q e => .inl (unhide H3 q e))).trans (KeepB.set (a := ⟨w.heap.size, 0, none⟩) v' rfl))
    have HBk := hide (h1a.set 0 v')
    simp only [List.set_cons_zero] at HBk
    have HOw := hide (owns_keep (X := fun j => j = w.heap.size) ho2 (KeepX.set (W := w4) (a := ⟨w.heap.size, 0, none⟩) v' rfl) (fun k hk => by omega))
    have HSz : Hid (hi ≤ (w4.setCell ⟨w.heap.size, 0, none⟩ v').heap.size) := hide (by have := hgr'.size; simp at this ⊢; omega)
    have HBe := hide ((((unhide H5).trans (hba.mono (by omega))).grown hgr' (by simp; omega) (fun q e => by have := (h2a.lt q e).1; omega)).setCell (p := ⟨w.heap.size, 0, none⟩) (Nat.le_refl _) v')
    clear ho' hgr' hat' ho2 h2a h1a hba hi0 hz0 hz1 hz2 c0 hn'
    subst e'
    gi_wp2_with fail
    exact ⟨unhide HKo, unhide HKb, _, unhide HBk, unhide HOw, unhide HQ, unhide HSz, unhide HBe⟩
  case done =>
    rintro D hi xs W hD hDh hS ⟨v, h1, h2, h3, h4, h5⟩ hK
    have c0 := h1.cell 0
    simp only [List.getElem?_cons_zero] at c0
    rw [hS] at h2
    have H2 := hide h2; have H5 := hide h5; have HK := hide hK; have H3 := hide h3
    clear h1 h2 hS hK h5 h3
    gi_wp2_with fail
    refine ⟨by simp, .inl ⟨_, _, rfl, run_takeDeferred (unhide HK), ?_⟩⟩
    refine ⟨v, by simp [results, Tryz.f56, go_sem], v, rfl, ?_, (unhide H5).trans (below_put _ D _ (by omega))⟩
    have h := owns_keep (X := fun _ => False) (unhide H2) (KeepX.put (o' := .deferred none) (unhide HK) rfl) (fun k hk => hk.elim)
    refine ⟨h.1, ?_⟩
    rcases h.2 with h' | ⟨g, cap, cur, g1, gb, r⟩
    · exact .inl h'
    · exact .inr ⟨g, cap, cur, g1, by omega, r⟩

set_option maxRecDepth 100000 in
set_option maxHeartbeats 400000 in
theorem collect_any (m : Fm) (A : MA) (b B : Nat) (w : World) (hv : VfA m) (hf : FitM m) (hW : Blk w B 56 [.slice A.l m.labels.length A.lc, .slice A.p m.below.length A.pc, .slice A.r m.roles.length A.rc, .slice A.f m.fields.length A.fc, .map (some b)]) (ha : MSl w m A) (hm : PMap w b (fNames m)) :
    Calls Tryz.prog 28 #[.func (.func 57) #[] #[.pointer (some ⟨B, 0, none⟩)]] w fun e w' => ∃ v, e = .returned v ∧ w'.ownsRow w.heap.size 3 1 v (ordL m m.fields.length).length (ui (ordL m m.fields.length)) ∧ Below w.heap.size w w' := by
  have HC := hide ((callsIn_wide (n := 9)).1 (appendSeq_in 9 m A b B w hv hf hW ha hm))
  clear hW ha hm hv hf
  go_enter Tryz.func28, Tryz.ntmps28
  go_wp2_with fail
  refine (unhide HC).mono ?_
  rintro e w1 ⟨v, rfl, ho, hb⟩
  have HO := hide ho; have HB := hide hb
  clear ho hb
  go_wp2_with fail
  go_ret
  exact ⟨v, rfl, unhide HO, unhide HB⟩

theorem owns_lower {w : World} {base base' n size : Nat} {e : TypeId} {v : Value} {xs : List Value} (h : w.ownsRow base e size v n xs) (hb : base' ≤ base) : w.ownsRow base' e size v n xs := by
  refine ⟨h.1, ?_⟩
  rcases h.2 with h' | ⟨g, cap, cur, g1, gb, r⟩
  · exact .inl h'
  · exact .inr ⟨g, cap, cur, g1, by omega, r⟩

set_option maxRecDepth 100000 in
set_option maxHeartbeats 4000000 in
theorem implCalc_any (m : Fm) (A : MA) (w : World) (hf : FitM m) (hcap : Caps m A) (ha : MSl w m A) (ht : Tabs w) (hy : TyW w) :
    Calls Tryz.prog 8 #[mV m A] w fun r w' => ∃ v, r = .returned v ∧ w'.ownsRow w.heap.size 3 1 v (calcX m).length (ui (calcX m)) ∧ Below w.heap.size w w' := by
  have HVa : Hid (vfB m = true → VfA m) := hide fun h => Classical.byContradiction fun hn => by rw [vfB_false hn] at h; cases h
  have HCw := hide fun W (hs : MSl W m A) (ht : Tabs W) (hy : TyW W) => wiringOf_any m A W hf hcap hs ht hy
  have HCh := hide fun W b (hv : VfA m) (hs : MSl W m A) (hp : PMap W b (fNames m)) => hasCycle_any m A b W hv hf hs hp
  have HCo := hide fun W b => order_any m A b W
  have HCc := hide fun W b B (hv : VfA m) hW (hs : MSl W m A) (hp : PMap W b (fNames m)) => collect_any m A b B W hv hf hW hs hp
  obtain ⟨al, alc, ap, apc, ar, arc, af, afc, afa⟩ := A
  unfold mV at HCw ⊢
  unfold wV at HCw HCh HCo
  dsimp only at HCw HCh HCo HCc ⊢
  have HK := hide (Blk.new w 35 #[.slice al m.labels.length alc, .slice ap m.below.length apc, .slice ar m.roles.length arc, .slice af m.fields.length afc])
  have HB := hide ((Below.refl w.heap.size w).alloc (Nat.le_refl _) (.cells #[.slice al m.labels.length alc, .slice ap m.below.length apc, .slice ar m.roles.length arc, .slice af m.fields.length afc] 35))
  obtain ⟨W0, hW0⟩ : ∃ W0, w.alloc (.cells #[.slice al m.labels.length alc, .slice ap m.below.length apc, .slice ar m.roles.length arc, .slice af m.fields.length afc] 35) = W0 := ⟨_, rfl⟩
  rw [hW0] at HK HB
  have HS := hide (ha.mono (unhide HB)); have HT := hide (ht.mono (unhide HB)); have HY := hide (hy.mono (unhide HB))
  clear ha ht hy hf hcap
  obtain ⟨y0, y1, y2, y3⟩ := quad (unhide HK)
  go_enter Tryz.func8, Tryz.ntmps8
  go_wp2_with fail
  try rw [hW0]
  refine (unhide HCw W0 (unhide HS) (unhide HT) (unhide HY)).mono ?_
  rintro r W1 ⟨h | h, hb1⟩
  · obtain ⟨hq, rfl⟩ := h
    replace HB := hide ((unhide HB).trans (hb1.mono (unhide HB).size))
    have HX : Hid (calcX m = []) := hide (by unfold calcX; rw [hq]; rfl)
    have HBz := hide ((unhide HB).alloc (unhide HB).size (.cells #[.slice none 0 0, .slice none 0 0, .slice none 0 0, .slice none 0 0, .map none] 56))
    clear hb1 hW0 y0 y1 y2 y3 hq
    go_wp2_with fail
    go_ret
    rw [unhide HX]
    exact ⟨_, rfl, World.ownsRow_nil _ _ _ _, unhide HBz⟩
  · obtain ⟨hq, b, rfl, hm⟩ := h
    have HV := hide (unhide HVa hq)
    have HX : Hid (calcX m = calcL m) := hide (by unfold calcX; rw [hq]; rfl)
    replace HS := hide ((unhide HS).mono hb1); replace HB := hide ((unhide HB).trans (hb1.mono (unhide HB).size))
    have HM := hide hm
    clear hb1 hW0 y0 y1 y2 y3 hq hm HT HY HCw HVa
    have HKw := hide (Blk.new W1 56 #[.slice al m.labels.length alc, .slice ap m.below.length apc, .slice ar m.roles.length arc, .slice af m.fields.length afc, .map (some b)])
    have hba := (Below.refl W1.heap.size W1).alloc (Nat.le_refl _) (.cells #[.slice al m.labels.length alc, .slice ap m.below.length apc, .slice ar m.roles.length arc, .slice af m.fields.length afc, .map (some b)] 56)
    obtain ⟨W2, hW2⟩ : ∃ W2, W1.alloc (.cells #[.slice al m.labels.length alc, .slice ap m.below.length apc, .slice ar m.roles.length arc, .slice af m.fields.length afc, .map (some b)] 56) = W2 := ⟨_, rfl⟩
    rw [hW2] at HKw hba
    replace HS := hide ((unhide HS).mono hba); replace HB := hide ((unhide HB).trans (hba.mono (unhide HB).size)); replace HM := hide ((unhide HM).mono hba)
    obtain ⟨X, hX⟩ : ∃ X, W1.heap.size = X := ⟨_, rfl⟩
    rw [hX] at HKw
    clear hba
    obtain ⟨z0, z1, z2, z3, z4⟩ := five (unhide HKw)
    go_wp2_with fail
    try rw [hW2]
    refine (unhide HCh W2 b (unhide HV) (unhide HS) (unhide HM)).mono ?_
    rintro r W3 ⟨rfl, hb3⟩
    replace HS := hide ((unhide HS).mono hb3); replace HB := hide ((unhide HB).trans (hb3.mono (unhide HB).size)); replace HM := hide ((unhide HM).mono hb3); replace HKw := hide ((unhide HKw).mono hb3 (unhide HKw).lt)
    clear hb3 hW2 z0 z1 z2 z3 z4
    obtain ⟨z0, z1, z2, z3, z4⟩ := five (unhide HKw)
    try rw [hX]
    clear hX
    cases hc : decide ((ordL m m.fields.length).length < m.fields.length)
    · have HL : Hid (calcX m = ordL m m.fields.length) := hide (by
        have h1 := of_decide_eq_false hc
        have h2 := ordL_le m m.fields.length
        rw [unhide HX]
        exact calcL_full (by omega))
      clear hc
      go_wp2_with fail
      refine (unhide HCo W3 b).mono ?_
      rintro r W4 ⟨rfl, hO, hb4⟩
      replace HS := hide ((unhide HS).mono hb4); replace HB := hide ((unhide HB).trans (hb4.mono (unhide HB).size)); replace HM := hide ((unhide HM).mono hb4)
      have HC2 := hide (unhide HCc W4 b W3.heap.size (unhide HV) hO (unhide HS) (unhide HM))
      clear hb4 hO z0 z1 z2 z3 z4
      go_wp2_with fail
      refine (unhide HC2).mono ?_
      rintro r W5 ⟨v, rfl, ho, hb5⟩
      have HO := hide (owns_lower ho (unhide HB).size)
      replace HB := hide ((unhide HB).trans (hb5.mono (unhide HB).size))
      clear ho hb5
      go_wp2_with fail
      go_ret
      rw [unhide HL]
      exact ⟨v, rfl, unhide HO, unhide HB⟩
    · have HL : Hid (calcX m = []) := hide (by
        have h1 := of_decide_eq_true hc
        rw [unhide HX]
        unfold calcL
        rw [if_neg (by omega)])
      clear hc
      go_wp2_with fail
      go_ret
      rw [unhide HL]
      exact ⟨_, rfl, World.ownsRow_nil _ _ _ _, unhide HB⟩
end Go.Proofs.YtngjdgcekflooaaGreatDoor

/- The law FnExactCalcOrder. -/
namespace Go.Proofs.YtngjdgcekflooaaGreatDoor
open Go Go.RowKit

/-- What lay when the copy was made, seen from later. -/
structure Old (m : Fm) (A : MA) (X : Nat) (cs : List Value) (a0 : Option Addr) (l : List Nat) (W : World) : Prop where
  k : Blk W X 27 cs
  s : MSl W m A
  t : Tabs W
  y : TyW W
  p : Plc W a0 l
theorem Old.mono {m : Fm} {A : MA} {X : Nat} {cs : List Value} {a0 : Option Addr} {l : List Nat} {W W' : World} (h : Old m A X cs a0 l W) (hb : Below W.heap.size W W') : Old m A X cs a0 l W' := ⟨h.k.mono hb h.k.lt, h.s.mono hb, h.t.mono hb, h.y.mono hb, h.p.mono hb⟩

set_option maxRecDepth 100000 in
set_option maxHeartbeats 16000000 in
theorem lawCalcOrder_any (m : Fm) (A : MA) (w : World) (hf : FitM m) (ha : MSl w m A) (ht : Tabs w) (hy : TyW w) :
    Calls Tryz.prog 3 #[mV m A] w fun r w' => r = .returned (.bool true) ∧ Below w.heap.size w w' := by
  obtain ⟨al, alc, ap, apc, ar, arc, af, afc, afa⟩ := A
  have HF := hide hf
  have hcl : (calcX m).length ≤ 1000000 := by
    have hv : vfB m = true → VfA m := fun h => Classical.byContradiction fun hn => by rw [vfB_false hn] at h; cases h
    unfold calcX
    split
    · rename_i h
      have h1 := (hv h).nf
      unfold calcL
      have h2 := ordL_le m m.fields.length
      split
      · omega
      · simp
    · simp
  have HCz := hide fun W (hs : MSl W m ⟨al, alc, ap, apc, ar, arc, af, afc, afa⟩) => szForm_any m ⟨al, alc, ap, apc, ar, arc, af, afc, afa⟩ 1048576 W hf (by omega) (by omega) hs
  have HCt := hide fun W (hn : Sm m) (hs : MSl W m ⟨al, alc, ap, apc, ar, arc, af, afc, afa⟩) => toForm_bk m ⟨al, alc, ap, apc, ar, arc, af, afc, afa⟩ W hn hs
  have HCs := hide fun W A' (hs : MSl W m A') => specCalc_of m A' W (fun W' hs' => specValidForm_any m A' W' hf hs') (fun h => Classical.byContradiction fun hc => by
    have hv : VfA m := Classical.byContradiction fun hn => by rw [vfB_false hn] at h; cases h
    exact hc hv.nf) hf hs
  have HCi := hide fun W A' (hc : Caps m A') (hs : MSl W m A') (ht : Tabs W) (hy : TyW W) => implCalc_any m A' W hf hc hs ht hy
  have HCe := hide fun W A1 A2 (hn : Sm m) (h1 : MSl W m A1) (h2 : MSl W m A2) => eqForm_any m A1 A2 W hn h1 h2
  have HCq := hide fun (W : World) a b ca cb (h1 : Plc W a (calcX m)) (h2 : Plc W b (calcX m)) => eqPlc_any a b (calcX m) ca cb W hcl h1 h2
  have HCk := hide fun (lo hi : Nat) (w0 W : World) (A' : MA) (hn : Sm m) hz hM hbk (hs : MSl W m A') => markForm_bk m A' lo hi w0 W hn hz hM hbk hs
  generalize calcX m = cl at *
  unfold mV at HCz HCt HCs HCi HCe HCk ⊢
  dsimp only at HCz HCt ⊢
  have HK := hide (Blk.new w 27 #[.slice al m.labels.length alc, .slice ap m.below.length apc, .slice ar m.roles.length arc, .slice af m.fields.length afc])
  have HB := hide ((Below.refl w.heap.size w).alloc (Nat.le_refl _) (.cells #[.slice al m.labels.length alc, .slice ap m.below.length apc, .slice ar m.roles.length arc, .slice af m.fields.length afc] 27))
  obtain ⟨W0, hW0⟩ : ∃ W0, w.alloc (.cells #[.slice al m.labels.length alc, .slice ap m.below.length apc, .slice ar m.roles.length arc, .slice af m.fields.length afc] 27) = W0 := ⟨_, rfl⟩
  rw [hW0] at HK HB
  have HS := hide (ha.mono (unhide HB)); have HT := hide (ht.mono (unhide HB)); have HY := hide (hy.mono (unhide HB))
  clear ha ht hy hf
  obtain ⟨y0, y1, y2, y3⟩ := quad (unhide HK)
  go_enter Tryz.func3, Tryz.ntmps3
  go_wp2_with fail
  try rw [hW0]
  refine (unhide HCz W0 (unhide HS)).mono ?_
  rintro r W1 ⟨z, rfl, hz, hb⟩
  replace HK := hide ((unhide HK).mono hb (unhide HK).lt); replace HS := hide ((unhide HS).mono hb); replace HT := hide ((unhide HT).mono hb); replace HY := hide ((unhide HY).mono hb); replace HB := hide ((unhide HB).trans (hb.mono (unhide HB).size))
  clear hW0 hb y0 y1 y2 y3
  obtain ⟨y0, y1, y2, y3⟩ := quad (unhide HK)
  by_cases hzz : z < 0
  · clear hz
    go_wp2_with fail
    go_ret
    exact ⟨rfl, unhide HB⟩
  have HN := hide (hz (by omega))
  clear hz
  go_wp2_with fail
  refine (unhide HCt W1 (unhide HN) (unhide HS)).mono ?_
  rintro r W2 ⟨A1, rfl, hs1, hc1, -, hb⟩
  replace HK := hide ((unhide HK).mono hb (unhide HK).lt); replace HS := hide ((unhide HS).mono hb); replace HT := hide ((unhide HT).mono hb); replace HY := hide ((unhide HY).mono hb); replace HB := hide ((unhide HB).trans (hb.mono (unhide HB).size))
  have HS1 := hide hs1
  clear hb y0 y1 y2 y3 hs1 hc1
  go_wp2_with fail
  refine (unhide HCs W2 A1 (unhide HS1)).mono ?_
  rintro r W3 ⟨a0, c0, rfl, hp, hb⟩
  replace HK := hide ((unhide HK).mono hb (unhide HK).lt); replace HS := hide ((unhide HS).mono hb); replace HT := hide ((unhide HT).mono hb); replace HY := hide ((unhide HY).mono hb); replace HB := hide ((unhide HB).trans (hb.mono (unhide HB).size))
  clear hb HS1 HCs
  have HOl : Hid (Old m ⟨al, alc, ap, apc, ar, arc, af, afc, afa⟩ w.heap.size [.slice al m.labels.length alc, .slice ap m.below.length apc, .slice ar m.roles.length arc, .slice af m.fields.length afc] a0 cl W3) := hide ⟨unhide HK, unhide HS, unhide HT, unhide HY, hp⟩
  clear hp HK HS HT HY
  obtain ⟨lo, hlo⟩ : ∃ lo, W3.heap.size = lo := ⟨_, rfl⟩
  have hwl : w.heap.size ≤ lo := by have := (unhide HB).size; omega
  obtain ⟨y0, y1, y2, y3⟩ := quad (unhide HOl).k
  go_wp2_with fail
  refine (unhide HCt W3 (unhide HN) (unhide HOl).s).mono ?_
  rintro r W4 ⟨A2, rfl, hs2, hc2, hmb, hb⟩
  obtain ⟨hi, hhi⟩ : ∃ hi, W4.heap.size = hi := ⟨_, rfl⟩
  have hlh : lo ≤ hi := by have := hb.size; omega
  rw [hlo] at hmb
  have HMb := hide hmb
  have HL4 : Hid (Below W3.heap.size W3 W4) := hide hb
  obtain ⟨bl, blc, bp, bpc, br, brc, bf, bfc, bfa⟩ := A2
  dsimp only
  have HX := hide (Blk.new W4 35 #[.slice bl m.labels.length blc, .slice bp m.below.length bpc, .slice br m.roles.length brc, .slice bf m.fields.length bfc])
  have hbx := (Below.refl W4.heap.size W4).alloc (Nat.le_refl _) (.cells #[.slice bl m.labels.length blc, .slice bp m.below.length bpc, .slice br m.roles.length brc, .slice bf m.fields.length bfc] 35)
  obtain ⟨W5, hW5⟩ : ∃ W5, W4.alloc (.cells #[.slice bl m.labels.length blc, .slice bp m.below.length bpc, .slice br m.roles.length brc, .slice bf m.fields.length bfc] 35) = W5 := ⟨_, rfl⟩
  rw [hW5] at hbx HX
  have hs5 : W5.heap.size = hi + 1 := by rw [← hW5, ← hhi]; simp
  rw [hhi] at HX
  have HS2 := hide (hs2.mono hbx); have HC2 := hide hc2
  have HL5 : Hid (Below W3.heap.size W3 W5) := hide (hb.trans (hbx.mono hb.size))
  have HG5 : Hid (Below hi W4 W5) := hide (by rw [← hhi]; exact hbx)
  have HO5 := hide ((unhide HOl).mono (unhide HL5))
  clear hb hbx hs2 hc2 hmb y0 y1 y2 y3 HL4
  obtain ⟨x0, x1, x2, x3⟩ := quad (unhide HX)
  have HCi2 := hide (unhide HCi W5 ⟨bl, blc, bp, bpc, br, brc, bf, bfc, bfa⟩ (unhide HC2) (unhide HS2) (unhide HO5).t (unhide HO5).y)
  dsimp only at HCi2
  go_wp2_with fail
  try rw [hW5]
  try rw [hhi]
  refine (unhide HCi2).mono ?_
  rintro r W6 ⟨v, rfl, hv6, hb⟩
  rw [hs5] at hv6
  obtain ⟨a6, c6, rfl, -, hp6⟩ := plc_of_owns hv6
  have HV := hide hv6
  have HS6 := hide ((unhide HS2).mono hb)
  have HX6 := hide ((unhide HX).mono hb (unhide HX).lt)
  have HL6 := hide ((unhide HL5).trans (hb.mono (unhide HL5).size))
  have HG6 := hide ((unhide HG5).trans (hb.mono (by omega)))
  have HO6 := hide ((unhide HO5).mono hb)
  have hs6 : hi + 1 ≤ W6.heap.size := by have := hb.size; omega
  have HE6 := hide (unhide HCq W6 a6 a0 c6 c0 hp6 (unhide HO6).p)
  clear hb hW5 hv6 hp6 x0 x1 x2 x3 HCi2 HS2 HX HL5 HG5 HO5 hs5
  go_wp2_with fail
  refine (unhide HE6).mono ?_
  rintro r W7 ⟨rfl, hb⟩
  replace HV := hide (owns_mono (unhide HV) hb)
  have HS7 := hide ((unhide HS6).mono hb)
  have HX7 := hide ((unhide HX6).mono hb (unhide HX6).lt)
  have HL7 := hide ((unhide HL6).trans (hb.mono (unhide HL6).size))
  have HG7 := hide ((unhide HG6).trans (hb.mono (by omega)))
  have HO7 := hide ((unhide HO6).mono hb)
  have hs7 : hi + 1 ≤ W7.heap.size := by have := hb.size; omega
  clear hb HE6 HS6 HX6 HL6 HG6 HO6 hs6
  go_wp2_with fail
  refine wp_region_held_drew (S := fun w' => Blk w' w.heap.size 27 [.slice al m.labels.length alc, .slice ap m.below.length apc, .slice ar m.roles.length arc, .slice af m.fields.length afc] ∧ Blk w' hi 35 [.slice bl m.labels.length blc, .slice bp m.below.length bpc, .slice br m.roles.length brc, .slice bf m.fields.length bfc]) (by kernel_rfl) ⟨(unhide HO7).k, unhide HX7⟩ (fun hHeld => ?_)
  refine takeY (i := 0) (v := .agg #[.slice bl m.labels.length blc, .slice bp m.below.length bpc, .slice br m.roles.length brc, .slice bf m.fields.length bfc]) 27 rfl rfl (by kernel_rfl) (by kernel_rfl) (by kernel_rfl) (fun _ _ _ _ h => h) (by rfl) (fun w hS => by obtain ⟨-, h2⟩ := hS; obtain ⟨q0, q1, q2, q3⟩ := quad h2; simp [execOp, go_sem, q0, q1, q2, q3]) hHeld ?_
  simp only [List.setIfInBounds_toArray, List.set_cons_zero, List.set_cons_succ]
  refine takeY (i := 1) (v := .agg #[.slice al m.labels.length alc, .slice ap m.below.length apc, .slice ar m.roles.length arc, .slice af m.fields.length afc]) 28 rfl rfl (by kernel_rfl) (by kernel_rfl) (by kernel_rfl) (fun _ _ _ _ h => h) (by rfl) (fun w hS => by obtain ⟨h2, -⟩ := hS; obtain ⟨q0, q1, q2, q3⟩ := quad h2; simp [execOp, go_sem, q0, q1, q2, q3]) hHeld ?_
  simp only [List.setIfInBounds_toArray, List.set_cons_zero, List.set_cons_succ]
  have HD : Hid (Below W7.heap.size W7 W7.drew) := hide (Below.refl _ _).drew
  refine callY (i := 2) (f := 7) (args := #[.agg #[.slice al m.labels.length alc, .slice ap m.below.length apc, .slice ar m.roles.length arc, .slice af m.fields.length afc]]) (R := fun v wz => ∃ A3, v = mV m A3 ∧ MSl wz m A3 ∧ Below W7.heap.size W7 wz) 29 rfl rfl (by rfl) (by kernel_rfl) ?hrun1 ((unhide HCt W7.drew (unhide HN) ((unhide HO7).s.mono (unhide HD))).mono fun e w6 ⟨A3, he, hs, _, _, hb⟩ => ⟨_, he, A3, rfl, hs, below_of_drew hb⟩) ?_
  case hrun1 => simp [execOp, go_sem]
  rintro v W8 ⟨A3, rfl, hs3, hb⟩
  replace hHeld : Blk W8 w.heap.size 27 [.slice al m.labels.length alc, .slice ap m.below.length apc, .slice ar m.roles.length arc, .slice af m.fields.length afc] ∧ Blk W8 hi 35 [.slice bl m.labels.length blc, .slice bp m.below.length bpc, .slice br m.roles.length brc, .slice bf m.fields.length bfc] := ⟨(unhide HO7).k.mono hb (unhide HO7).k.lt, (unhide HX7).mono hb (unhide HX7).lt⟩
  replace HV := hide (owns_mono (unhide HV) hb)
  have HS8 := hide ((unhide HS7).mono hb)
  have HX8 := hide ((unhide HX7).mono hb (unhide HX7).lt)
  have HL8 := hide ((unhide HL7).trans (hb.mono (unhide HL7).size))
  have HG8 := hide ((unhide HG7).trans (hb.mono (by omega)))
  have HO8 := hide ((unhide HO7).mono hb)
  have hs8 : hi + 1 ≤ W8.heap.size := by have := hb.size; omega
  have HS3 := hide hs3
  clear hb hs3 HS7 HX7 HL7 HG7 HO7 hs7 HD
  refine ⟨hHeld, ?_⟩
  unfold mV
  obtain ⟨dl, dlc, dp, dpc, dr, drc, df, dfc, dfa⟩ := A3
  dsimp only
  simp only [List.setIfInBounds_toArray, List.set_cons_zero, List.set_cons_succ]
  have HCe2 := hide (unhide HCe W8 ⟨bl, blc, bp, bpc, br, brc, bf, bfc, bfa⟩ ⟨dl, dlc, dp, dpc, dr, drc, df, dfc, dfa⟩ (unhide HN) (unhide HS8) (unhide HS3))
  dsimp only at HCe2
  refine callY (i := 3) (f := 10) (args := #[.agg #[.slice bl m.labels.length blc, .slice bp m.below.length bpc, .slice br m.roles.length brc, .slice bf m.fields.length bfc], .agg #[.slice dl m.labels.length dlc, .slice dp m.below.length dpc, .slice dr m.roles.length drc, .slice df m.fields.length dfc]]) (R := fun v wz => v = .bool true ∧ Below W8.heap.size W8 wz) 30 rfl rfl (by rfl) (by kernel_rfl) ?hrun2 ((unhide HCe2).mono fun e w6 ⟨he, hb⟩ => ⟨_, he, rfl, hb⟩) ?_
  case hrun2 => simp [execOp, go_sem]
  rintro v W9 ⟨rfl, hb⟩
  replace hHeld : Blk W9 w.heap.size 27 [.slice al m.labels.length alc, .slice ap m.below.length apc, .slice ar m.roles.length arc, .slice af m.fields.length afc] ∧ Blk W9 hi 35 [.slice bl m.labels.length blc, .slice bp m.below.length bpc, .slice br m.roles.length brc, .slice bf m.fields.length bfc] := ⟨hHeld.1.mono hb hHeld.1.lt, hHeld.2.mono hb hHeld.2.lt⟩
  replace HV := hide (owns_mono (unhide HV) hb)
  have HS9 := hide ((unhide HS8).mono hb)
  have HX9 := hide ((unhide HX8).mono hb (unhide HX8).lt)
  have HL9 := hide ((unhide HL8).trans (hb.mono (unhide HL8).size))
  have HG9 := hide ((unhide HG8).trans (hb.mono (by omega)))
  have HO9 := hide ((unhide HO8).mono hb)
  have hs9 : hi + 1 ≤ W9.heap.size := by have := hb.size; omega
  clear hb HS8 HX8 HL8 HG8 HO8 hs8 HCe2 HS3
  refine ⟨hHeld, ?_⟩
  simp only [List.setIfInBounds_toArray, List.set_cons_zero, List.set_cons_succ]
  refine takeY (i := 4) (v := .bool false) 31 rfl rfl (by kernel_rfl) (by kernel_rfl) (by kernel_rfl) (fun _ _ _ _ h => h) (by rfl) (fun w hS => by simp [execOp, go_sem, *]) hHeld ?_
  simp only [List.setIfInBounds_toArray, List.set_cons_zero, List.set_cons_succ]
  refine wpAnyH_done (by kernel_rfl) ?_ _
  clear hHeld
  obtain ⟨x0, x1, x2, x3⟩ := quad (unhide HX9)
  have HCk2 := hide (unhide HCk lo hi W4 W9 ⟨bl, blc, bp, bpc, br, brc, bf, bfc, bfa⟩ (unhide HN) hhi (unhide HMb) (fun g t n hb => hb.mono (unhide HG9) (by have := hb.lt; omega)) (unhide HS9))
  dsimp only at HCk2
  go_wp2_with fail
  refine (unhide HCk2).mono ?_
  rintro r W10 ⟨k', rfl, hk', hmk⟩
  have hk0 : ¬ (k' : Int) < 0 := by omega
  have HV10 := hide (hmk.out.owns (unhide HV) (fun q e => by have := ((unhide HV).lt q e).1; omega))
  have HB10 : Hid (Below lo W3 W10) := hide (by
    have h9 := unhide HL9
    rw [hlo] at h9
    exact h9.trans (hmk.out.below (Nat.le_refl _) (by omega)))
  have hs10 : hi + 1 ≤ W10.heap.size := by have := hmk.out.size; omega
  clear hmk x0 x1 x2 x3 HCk2 HCk HV HS9 HX9 HL9 HG9 HO9 hs9 HMb
  have HO10 : Hid (Old m ⟨al, alc, ap, apc, ar, arc, af, afc, afa⟩ w.heap.size [.slice al m.labels.length alc, .slice ap m.below.length apc, .slice ar m.roles.length arc, .slice af m.fields.length afc] a0 cl W10) := hide ((unhide HOl).mono (by rw [hlo]; exact unhide HB10))
  have HE10 := hide (unhide HCq W10 a6 a0 c6 c0 (by
    obtain ⟨a, c, e, -, hp⟩ := plc_of_owns (unhide HV10)
    cases e
    exact hp) (unhide HO10).p)
  go_wp2_with fail
  refine (unhide HE10).mono ?_
  rintro r W11 ⟨rfl, hb⟩
  have HV11 := hide (owns_mono (unhide HV10) hb)
  have HB11 := hide ((unhide HB10).trans (hb.mono (by omega)))
  have hs11 : hi + 1 ≤ W11.heap.size := by have := hb.size; omega
  clear hb HE10 HO10 HV10 HB10 hs10
  have HMr := hide (markRow_any a6 c6 cl.length (hi + 1) _ W11 hcl (unhide HV11))
  obtain ⟨p, hp⟩ : ∃ p, cl.length + 1 = p := ⟨_, rfl⟩
  rw [hp] at HMr
  have hpl : (p : Int) ≤ 1000001 := by omega
  go_wp2_with fail
  refine (unhide HMr).mono ?_
  rintro r W12 ⟨rfl, ho, hout⟩
  have HB12 := hide ((unhide HB11).trans (hout.below (by omega) (by omega)))
  have hs12 : hi + 1 ≤ W12.heap.size := by have := hout.size; omega
  have HHr := hide (heldRow_any a6 c6 cl.length (hi + 1) W12 hcl ho)
  rw [hp] at HHr
  clear ho hout HMr HV11 HB11 hs11
  go_wp2_with fail
  refine (unhide HHr).mono ?_
  rintro r W13 ⟨rfl, hb⟩
  have HB13 := hide ((unhide HB12).trans (hb.mono (by omega)))
  have HO13 : Hid (Old m ⟨al, alc, ap, apc, ar, arc, af, afc, afa⟩ w.heap.size [.slice al m.labels.length alc, .slice ap m.below.length apc, .slice ar m.roles.length arc, .slice af m.fields.length afc] a0 cl W13) := hide ((unhide HOl).mono (by rw [hlo]; exact unhide HB13))
  have hs13 : hi + 1 ≤ W13.heap.size := by have := hb.size; omega
  have hp0 : ¬ (p : Int) < 0 := by omega
  clear hb HHr HB12 hs12
  obtain ⟨y0, y1, y2, y3⟩ := quad (unhide HO13).k
  go_wp2_with fail
  refine (unhide HCt W13 (unhide HN) (unhide HO13).s).mono ?_
  rintro r W14 ⟨A4, rfl, hs4, hc4, -, hb⟩
  have HO14 := hide ((unhide HO13).mono hb)
  have HB14 := hide ((unhide HB13).trans (hb.mono (by omega)))
  have hs14 : hi + 1 ≤ W14.heap.size := by have := hb.size; omega
  have HCi3 := hide (unhide HCi W14 A4 hc4 hs4 (unhide HO14).t (unhide HO14).y)
  clear hb hs4 hc4 HO13 HB13 hs13 y0 y1 y2 y3 HCi
  go_wp2_with fail
  refine (unhide HCi3).mono ?_
  rintro r W15 ⟨v, rfl, hv, hb⟩
  obtain ⟨a7, c7, rfl, -, hp7⟩ := plc_of_owns hv
  have HO15 := hide ((unhide HO14).mono hb)
  have HB15 := hide ((unhide HB14).trans (hb.mono (by omega)))
  have HE15 := hide (unhide HCq W15 a7 a0 c7 c0 hp7 (unhide HO15).p)
  have hs15 : hi + 1 ≤ W15.heap.size := by have := hb.size; omega
  clear hb hv hp7 HCi3 HO14 HB14 hs14
  go_wp2_with fail
  refine (unhide HE15).mono ?_
  rintro r W16 ⟨rfl, hb⟩
  have HB16 : Hid (Below w.heap.size w W16) := hide ((unhide HB).trans (((unhide HB15).trans (hb.mono (by omega))).mono hwl))
  clear hb HE15
  go_wp2_with fail
  go_ret
  exact ⟨rfl, unhide HB16⟩
end Go.Proofs.YtngjdgcekflooaaGreatDoor
