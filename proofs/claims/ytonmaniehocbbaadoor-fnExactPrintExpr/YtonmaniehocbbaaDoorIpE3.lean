/- The program makes one phrase out of its operands. -/
import Derived.Test.YtonmaniehocbbaaDoorIpE2
namespace Go.Proofs.YtonmaniehocbbaaDoor
open Go Go.RowKit

theorem mx_take_snoc (l : List Ph) (k : Nat) (h : k < l.length) : mx (l.take (k + 1)) = max (mx (l.take k)) l[k].d := by
  rw [List.take_succ_eq_append_getElem h, mx_append]; simp [mx]
theorem max_int (a b : Nat) : (if (a : Int) < b then (b : Int) else a) = ((max a b : Nat) : Int) := by
  split <;> omega

set_option maxRecDepth 100000 in
set_option maxHeartbeats 8000000 in
theorem phraseOf_any (n : Nx) (a : Option Addr) (c : Nat) (l : List Ph) (w : World) (hok : okNode n = true) (hf : Fit n) (hl : l.length = arn n) (ha : Phs w a l) (hs : tot l ≤ 2000000) (hd : mx l ≤ 1000) (hw : Wrds w) (hp : Pow w) :
    Calls Tryd.prog 29 #[nv n, .slice a (arn n) c] w fun r w' => r = .returned (pv (phr n l)) ∧ Below w.heap.size w w' := by
  unfold nv
  have HK := hide ((Blk.new w 38 #[.int .i64 n.op, .int .i64 n.v.k, .int .i64 n.v.n, .string n.v.s, .string n.nm]).alloc (.cells #[.string ⟨#[]⟩, .int .i64 0, .int .i64 0] 57))
  have HR := hide (Blk.new (w.alloc (.cells #[.int .i64 n.op, .int .i64 n.v.k, .int .i64 n.v.n, .string n.v.s, .string n.nm] 38)) 57 #[.string ⟨#[]⟩, .int .i64 0, .int .i64 0])
  have HB := hide (((Below.refl w.heap.size w).alloc (Nat.le_refl _) (.cells #[.int .i64 n.op, .int .i64 n.v.k, .int .i64 n.v.n, .string n.v.s, .string n.nm] 38)).alloc (by simp) (.cells #[.string ⟨#[]⟩, .int .i64 0, .int .i64 0] 57))
  rw [World.size_alloc] at HR
  obtain ⟨W0, hW0⟩ : ∃ W0, (w.alloc (.cells #[.int .i64 n.op, .int .i64 n.v.k, .int .i64 n.v.n, .string n.v.s, .string n.nm] 38)).alloc (.cells #[.string ⟨#[]⟩, .int .i64 0, .int .i64 0] 57) = W0 := ⟨_, rfl⟩
  rw [hW0] at HK HB HR
  have HA := hide (ha.mono (unhide HB)); have HP := hide (hp.mono (unhide HB)); have HW := hide (hw.mono (unhide HB))
  have HL := hide hl; have HS := hide hs; have HD := hide hd; have HF := hide hf; have HO := hide hok
  have har := arn_le n
  obtain ⟨m, hm⟩ : ∃ m, arn n = m := ⟨_, rfl⟩
  rw [hm] at har HL ⊢
  have HM := hide hm
  have HX : Hid (∀ k, k ≤ m → mx (l.take k) ≤ 1000) := hide fun k _ => by
    have : mx l = max (mx (l.take k)) (mx (l.drop k)) := by rw [← mx_append, List.take_append_drop]
    have := unhide HD
    omega
  clear ha hw hp hl hs hd hf hok hm
  go_enter Tryd.func29, Tryd.ntmps29
  go_wp2_with fail
  try rw [hW0]
  clear hW0
  go_loopw [5, 7, 10] (fun dp _ i wr => ∃ k : Nat, k ≤ m ∧ dp = .int .i64 (mx (l.take k)) ∧ i = .int .i64 k ∧ Below W0.heap.size W0 wr) (fun _ _ i _ => m - (intOf i).toNat)
  case atStart => exact ⟨0, Nat.zero_le _, rfl, rfl, Below.refl _ _⟩
  case round =>
    obtain ⟨k, hk, rfl, rfl, hb⟩ := hrel
    have HBr := hide hb
    have HAr := hide ((unhide HA).mono hb)
    have hmk := unhide HX k hk
    clear hb
    by_cases hlt : k < m
    · have hlt' : (k : Int) < m := by omega
      have hkl : k < l.length := by have := unhide HL; omega
      obtain ⟨b, o, rfl, -, c0, c1, c2⟩ := unhide HAr k hkl
      have HN : Hid (mx (l.take (k + 1)) = max (mx (l.take k)) l[k].d) := hide (mx_take_snoc l k hkl)
      have hmk1 := unhide HX (k + 1) (by omega)
      obtain ⟨p, hp⟩ : ∃ p, l[k] = p := ⟨_, rfl⟩
      rw [hp] at HN c0 c1 c2
      rw [unhide HN] at hmk1
      clear hp
      have HB2 := hide ((unhide HBr).alloc (unhide HBr).size (.cells #[.string p.t, .int .i64 p.lv, .int .i64 p.d] 57))
      obtain ⟨q, hq⟩ : ∃ q, mx (l.take k) = q := ⟨_, rfl⟩
      rw [hq] at HN hmk hmk1 ⊢
      clear hq
      obtain ⟨d, hdd⟩ : ∃ d, p.d = d := ⟨_, rfl⟩
      rw [hdd] at HN hmk1 c2 HB2
      clear hdd
      go_wp2_with fail
      go_roundw
      case rel => first | exact ⟨k + 1, by omega, by rw [unhide HN]; exact congrArg (Value.int .i64) (by omega), by go_num, unhide HB2⟩ | ((repeat apply Exists.intro); exact ⟨⟨k + 1, by omega, by rw [unhide HN]; exact congrArg (Value.int .i64) (by omega), by go_num, unhide HB2⟩, rfl⟩)
      case measure => simp [intOf]; omega
    · obtain rfl : k = m := by omega
      have hlt' : ¬ (k : Int) < (k : Int) := by omega
      rw [List.take_of_length_le (by have := unhide HL; omega)] at hmk ⊢
      have HKr := hide ((unhide HK).mono (unhide HBr) (unhide HK).lt); have HRr := hide ((unhide HR).mono (unhide HBr) (unhide HR).lt); have HPr := hide ((unhide HP).mono (unhide HBr)); have HWr := hide ((unhide HW).mono (unhide HBr)); have HB2 := hide ((unhide HB).trans ((unhide HBr).mono (unhide HB).size))
      clear HK HR HP HW HB HBr HA HX
      obtain ⟨y0, y1, y2, y3, y4⟩ := five (unhide HKr)
      obtain ⟨q, hq⟩ : ∃ q, mx l = q := ⟨_, rfl⟩
      rw [hq] at hmk ⊢
      have HQ := hide hq
      clear hq
      go_wp2_with fail
      refine wp_region_held_drew (S := fun w' => w'.cell? ⟨w.heap.size, 0, none⟩ = some (.int .i64 n.op) ∧ w'.cell? ⟨w.heap.size, 1, none⟩ = some (.int .i64 n.v.k) ∧ w'.cell? ⟨w.heap.size, 2, none⟩ = some (.int .i64 n.v.n) ∧ w'.cell? ⟨w.heap.size, 3, none⟩ = some (.string n.v.s) ∧ w'.cell? ⟨w.heap.size, 4, none⟩ = some (.string n.nm)) (by kernel_rfl) ⟨y0, y1, y2, y3, y4⟩ (fun hHeld => ?_)
      clear y0 y1 y2 y3 y4
      refine takeY (i := 0) (v := .agg #[.int .i64 n.op, .int .i64 n.v.k, .int .i64 n.v.n, .string n.v.s, .string n.nm]) 19 rfl rfl (by kernel_rfl) (by kernel_rfl) (by kernel_rfl) (fun _ _ _ _ h => h) (by rfl) (fun w hS => by simp [execOp, go_sem, *]) hHeld ?_
      simp only [List.setIfInBounds_toArray, List.set_cons_zero, List.set_cons_succ]
      refine takeY (i := 1) (v := .slice a k c) 20 rfl rfl (by kernel_rfl) (by kernel_rfl) (by kernel_rfl) (fun _ _ _ _ h => h) (by rfl) (fun w hS => by simp [execOp, go_sem, *]) hHeld ?_
      simp only [List.setIfInBounds_toArray, List.set_cons_zero, List.set_cons_succ]
      refine takeY (i := 3) (v := .pointer (some ⟨w.heap.size, 0, none⟩)) 22 rfl rfl (by kernel_rfl) (by kernel_rfl) (by kernel_rfl) (fun _ _ _ _ h => h) (by rfl) (fun w hS => by simp [execOp, go_sem, *]) hHeld ?_
      simp only [List.setIfInBounds_toArray, List.set_cons_zero, List.set_cons_succ]
      refine takeY (i := 4) (v := .int .i64 n.op) 23 rfl rfl (by kernel_rfl) (by kernel_rfl) (by kernel_rfl) (fun _ _ _ _ h => h) (by rfl) (fun w hS => by simp [execOp, go_sem, *]) hHeld ?_
      simp only [List.setIfInBounds_toArray, List.set_cons_zero, List.set_cons_succ]
      refine takeY (i := 6) (v := .int .i64 (q : Int)) 25 rfl rfl (by kernel_rfl) (by kernel_rfl) (by kernel_rfl) (fun _ _ _ _ h => h) (by rfl) (fun w hS => by simp [execOp, go_sem, *]) hHeld ?_
      simp only [List.setIfInBounds_toArray, List.set_cons_zero, List.set_cons_succ]
      refine takeY (i := 7) (v := .int .i64 ((q : Int) + 1)) 26 rfl rfl (by kernel_rfl) (by kernel_rfl) (by kernel_rfl) (fun _ _ _ _ h => h) (by rfl) (fun w hS => by simp [execOp, go_sem, *]; rw [IntKind.wrap_i64]; omega) hHeld ?_
      simp only [List.setIfInBounds_toArray, List.set_cons_zero, List.set_cons_succ]
      have HD2 : Hid (Below wr.heap.size wr wr.drew) := hide ((Below.refl _ _).drew)
      have hpt := phraseText_any n a c l wr.drew (unhide HO) (unhide HF) ((unhide HL).trans (unhide HM).symm) ((unhide HAr).mono (unhide HD2)) (unhide HS) ((unhide HWr).mono (unhide HD2)) ((unhide HPr).mono (unhide HD2))
      rw [unhide HM] at hpt
      refine callY (i := 2) (f := 42) (args := #[.agg #[.int .i64 n.op, .int .i64 n.v.k, .int .i64 n.v.n, .string n.v.s, .string n.nm], .slice a k c]) (R := fun r wz => r = .string (phT n l) ∧ Below wr.heap.size wr wz) 21 rfl rfl (by rfl) (by kernel_rfl) ?hrun1 (hpt.mono fun e w6 ⟨he, hb⟩ => ⟨_, he, rfl, below_of_drew hb⟩) ?_
      case hrun1 => simp [execOp, go_sem]
      clear hpt
      rintro r3 W4 ⟨rfl, hb⟩
      replace HKr := hide ((unhide HKr).mono hb (unhide HKr).lt); replace HRr := hide ((unhide HRr).mono hb (unhide HRr).lt); replace HB2 := hide ((unhide HB2).trans (hb.mono (unhide HB2).size))
      clear hb hHeld HD2
      obtain ⟨y0, y1, y2, y3, y4⟩ := five (unhide HKr)
      have hHeld : W4.cell? ⟨w.heap.size, 0, none⟩ = some (.int .i64 n.op) ∧ W4.cell? ⟨w.heap.size, 1, none⟩ = some (.int .i64 n.v.k) ∧ W4.cell? ⟨w.heap.size, 2, none⟩ = some (.int .i64 n.v.n) ∧ W4.cell? ⟨w.heap.size, 3, none⟩ = some (.string n.v.s) ∧ W4.cell? ⟨w.heap.size, 4, none⟩ = some (.string n.nm) := ⟨y0, y1, y2, y3, y4⟩
      clear y0 y1 y2 y3 y4
      refine ⟨hHeld, ?_⟩
      simp only [List.setIfInBounds_toArray, List.set_cons_zero, List.set_cons_succ]
      refine callY (i := 5) (f := 43) (args := #[.int .i64 n.op]) (R := fun r wz => r = .int .i64 (lvl n.op) ∧ wz = W4) 24 rfl rfl (by rfl) (by kernel_rfl) ?hrun2 ((levelOf_any _ _).mono fun e w6 ⟨he, hb⟩ => ⟨_, he, rfl, hb⟩) ?_
      case hrun2 => simp [execOp, go_sem]
      rintro r3 W5 ⟨rfl, hw⟩
      replace hw := hw.symm; subst hw
      refine ⟨hHeld, ?_⟩
      simp only [List.setIfInBounds_toArray, List.set_cons_zero, List.set_cons_succ]
      obtain ⟨t, ht⟩ : ∃ t, phT n l = t := ⟨_, rfl⟩
      obtain ⟨lv, hlv⟩ : ∃ lv, lvl n.op = lv := ⟨_, rfl⟩
      have HE : Hid (phr n l = ⟨t, lv, q + 1⟩) := hide (by rw [← ht, ← hlv, ← unhide HQ]; rfl)
      rw [ht, hlv]
      clear ht hlv
      refine takeY (i := 8) (v := .agg #[.string t, .int .i64 lv, .int .i64 ((q : Int) + 1)]) 27 rfl rfl (by kernel_rfl) (by kernel_rfl) (by kernel_rfl) (fun _ _ _ _ h => h) (by rfl) (fun w hS => by simp [execOp, go_sem, *]) hHeld ?_
      simp only [List.setIfInBounds_toArray, List.set_cons_zero, List.set_cons_succ]
      obtain ⟨r0, r1, r2⟩ := three (unhide HRr)
      have f0 := (unhide HRr).free 0; have f1 := (unhide HRr).free 1; have f2 := (unhide HRr).free 2
      have far : ∀ (w' : World) (j i : Nat) (u : Value), (w'.setCell ⟨w.heap.size + 1, j, none⟩ u).cell? ⟨w.heap.size, i, none⟩ = w'.cell? ⟨w.heap.size, i, none⟩ := fun w' j i u => World.cell?_of_block (w := w') (heap_setCell_other w' ⟨w.heap.size + 1, j, none⟩ w.heap.size u (by simp))
      refine storeY (i := 9) (w' := ((W4.setCell ⟨w.heap.size + 1, 0, none⟩ (.string t)).setCell ⟨w.heap.size + 1, 1, none⟩ (.int .i64 lv)).setCell ⟨w.heap.size + 1, 2, none⟩ (.int .i64 ((q : Int) + 1))) rfl (by rfl) (by kernel_rfl) rfl ?hrunS rfl ⟨by rw [far, far, far]; exact hHeld.1, by rw [far, far, far]; exact hHeld.2.1, by rw [far, far, far]; exact hHeld.2.2.1, by rw [far, far, far]; exact hHeld.2.2.2.1, by rw [far, far, far]; exact hHeld.2.2.2.2⟩ ?_
      case hrunS => simp [execOp, go_sem, r0, r1, r2, f0, f1, f2]
      refine wpAnyH_done (by kernel_rfl) ?_ _
      have bR9 := ((((unhide HRr).set 0 (.string t)).set 1 (.int .i64 lv)).set 2 (.int .i64 ((q : Int) + 1)))
      have HB9 := hide ((((unhide HB2).setCell (show w.heap.size ≤ (⟨w.heap.size + 1, 0, none⟩ : Addr).block by simp) (.string t)).setCell (show w.heap.size ≤ (⟨w.heap.size + 1, 1, none⟩ : Addr).block by simp) (.int .i64 lv)).setCell (show w.heap.size ≤ (⟨w.heap.size + 1, 2, none⟩ : Addr).block by simp) (.int .i64 ((q : Int) + 1)))
      obtain ⟨W9, hW9⟩ : ∃ W9, ((W4.setCell ⟨w.heap.size + 1, 0, none⟩ (.string t)).setCell ⟨w.heap.size + 1, 1, none⟩ (.int .i64 lv)).setCell ⟨w.heap.size + 1, 2, none⟩ (.int .i64 ((q : Int) + 1)) = W9 := ⟨_, rfl⟩
      rw [hW9] at bR9 HB9 ⊢
      obtain ⟨k0, k1, k2⟩ := three bR9
      clear hW9 bR9 r0 r1 r2 f0 f1 f2 far hHeld
      go_wp2
      exact bodyPost_ret (v := .agg #[.string t, .int .i64 lv, .int .i64 ((q : Int) + 1)]) (by simp [results, Tryd.results29, go_sem, *]) rfl ⟨by rw [unhide HE]; rfl, unhide HB9⟩
end Go.Proofs.YtonmaniehocbbaaDoor
