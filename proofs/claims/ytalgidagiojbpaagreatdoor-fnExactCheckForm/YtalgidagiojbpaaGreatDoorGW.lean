import Derived.Test.YtalgidagiojbpaaGreatDoorGK
import Derived.Test.YtalgidagiojbpaaGreatDoorGL4
/- The first field whose declared label lies too low, of the program. -/
namespace Go.Proofs.YtalgidagiojbpaaGreatDoor
open Go Go.RowKit

/-- A declared label that does not lie above the least label above all that it reads. -/
def DownI (m : Fm) (n : Nat) (F : Nat → Bool) (jn : Nat → Nat → Nat) (bt : Nat) (f : Nat → Nat) (k : Nat) : Prop := 0 ≤ (fAt m k).lb ∧ F (rdV m jn bt f k * n + f k) = false
/-- A declared label that does not lie above one that it reads. -/
def DownS (m : Fm) (n : Nat) (F : Nat → Bool) (f : Nat → Nat) (k : Nat) : Prop := 0 ≤ (fAt m k).lb ∧ ∃ j, j < m.fields.length ∧ anyR m j k = true ∧ F (f j * n + f k) = false
theorem down_iff {m : Fm} {n : Nat} {F : Nat → Bool} {jn : Nat → Nat → Nat} {bt : Nat} {f : Nat → Nat} (hv : VfA m) (L : LatP n (fun a b => F (a * n + b) = true) jn bt) (hfl : ∀ k, k < m.fields.length → f k < n) {k : Nat} (hk : k < m.fields.length) : DownI m n F jn bt f k ↔ DownS m n F f k := by
  obtain ⟨hx, hr⟩ := rdV_lt L hv hfl hk
  unfold DownI DownS
  refine ⟨fun ⟨h0, h⟩ => ⟨h0, Classical.byContradiction fun hno => ?_⟩, fun ⟨h0, j, hj, ha, h⟩ => ⟨h0, ?_⟩⟩
  · have : F (rdV m jn bt f k * n + f k) = true := L.fold_le _ _ _ L.bl (hfl k hk) (fun x hxm => ⟨hx x hxm, by
      obtain ⟨j, hj, rfl⟩ := List.mem_map.1 hxm
      have hjn := rdA_lt hv hk j hj
      show F (f j * n + f k) = true
      cases e : F (f j * n + f k)
      · exact absurd ⟨j, hjn, (mem_rdA hv hjn hk).1 hj, e⟩ hno
      · rfl⟩) (L.bot _ (hfl k hk))
    rw [h] at this; cases this
  · cases e : F (rdV m jn bt f k * n + f k)
    · rfl
    · have h1 : F (f j * n + rdV m jn bt f k) = true := (L.fold_ge _ _ L.bl hx).2 (f j) (List.mem_map.2 ⟨j, (mem_rdA hv hj hk).2 ha, rfl⟩)
      have h2 : F (f j * n + f k) = true := L.trans _ _ _ (hfl j hj) hr (hfl k hk) h1 e
      rw [h] at h2; cases h2

theorem cell_kept {w w' : World} {p : Addr} {v : Value} (hb : Below w.heap.size w w') (h : w.cell? p = some v) : w'.cell? p = some v := (hb.cell (World.block_lt_of_cell? _ _ h)).trans h

set_option maxRecDepth 100000 in
set_option maxHeartbeats 8000000 in
theorem firstTooLow_any (m : Fm) (A : MA) (b n bt c5 base : Nat) (f : Nat → Nat) (F : Nat → Bool) (jn : Nat → Nat → Nat) (J : Nat → Int) (a1 a2 a3 a5 : Option Addr) (c1 c2 c3 : Nat) (top : Int) (w : World) (hv : VfA m) (hf : FitM m) (hL : LatP n (fun a b => F (a * n + b) = true) jn bt) (hn : n ≤ 32) (hJ : ∀ a b, a < n → b < n → J (a * n + b) = ((jn a b : Nat) : Int)) (hsol : Sol m n (fun a b => F (a * n + b) = true) f) (ha : MSl w m A) (hm : PMap w b (fNames m)) (hO : Bools w a1 (n * n) F) (hI : Ints w a2 (n * n) J) (hR : w.ownsRow base 3 1 (.slice a5 m.fields.length c5) m.fields.length (ui (lsL f m.fields.length))) :
    Calls Tryz.prog 74 #[wV m A b, .agg #[.int .i64 n, .slice a1 (n * n) c1, .slice a2 (n * n) c2, .slice a3 (n * n) c3, .int .i64 (bt : Int), .int .i64 top], .slice a5 m.fields.length c5] w fun r w' => ∃ z, r = .returned (.int .i64 z) ∧ Fst (DownI m n F jn bt f) m.fields.length z ∧ Below w.heap.size w w' := by
  have HSol := hide hsol
  have HRl := hide fun k hk => (rdV_lt hL hv hsol.lt (k := k) hk).2
  have HCr := hide fun (W : World) (k : Nat) (hk : k < m.fields.length) (hs : MSl W m A) (hp : PMap W b (fNames m)) (hi : Ints W a2 (n * n) J) hR => labelRead_any m A b k n bt c5 base f _ jn J a1 a2 a3 a5 c1 c2 c3 top W hv hf hL hn hJ hsol.lt hk hs hp hi hR
  have HS := hide ha; have HM := hide hm; have HI := hide hI; have HO := hide hO; have HR := hide hR
  have hnf := hv.nf
  obtain ⟨al, alc, ap, apc, ar, arc, af, afc, afa⟩ := A
  unfold wV at HCr ⊢
  dsimp only at HCr ⊢
  clear ha hm hI hv hf hL hJ hO hR hsol
  have HK := hide ((Blk.new w 66 #[.slice al m.labels.length alc, .slice ap m.below.length apc, .slice ar m.roles.length arc, .slice af m.fields.length afc, .map (some b)]).alloc (.cells #[.int .i64 n, .slice a1 (n * n) c1, .slice a2 (n * n) c2, .slice a3 (n * n) c3, .int .i64 (bt : Int), .int .i64 top] 53))
  have HQ := hide (Blk.new (w.alloc (.cells #[.slice al m.labels.length alc, .slice ap m.below.length apc, .slice ar m.roles.length arc, .slice af m.fields.length afc, .map (some b)] 66)) 53 #[.int .i64 n, .slice a1 (n * n) c1, .slice a2 (n * n) c2, .slice a3 (n * n) c3, .int .i64 (bt : Int), .int .i64 top])
  rw [World.size_alloc] at HQ
  have HB := hide (((Below.refl w.heap.size w).alloc (Nat.le_refl _) (.cells #[.slice al m.labels.length alc, .slice ap m.below.length apc, .slice ar m.roles.length arc, .slice af m.fields.length afc, .map (some b)] 66)).alloc (by simp) (.cells #[.int .i64 n, .slice a1 (n * n) c1, .slice a2 (n * n) c2, .slice a3 (n * n) c3, .int .i64 (bt : Int), .int .i64 top] 53))
  obtain ⟨W0, hW0⟩ : ∃ W0, (w.alloc (.cells #[.slice al m.labels.length alc, .slice ap m.below.length apc, .slice ar m.roles.length arc, .slice af m.fields.length afc, .map (some b)] 66)).alloc (.cells #[.int .i64 n, .slice a1 (n * n) c1, .slice a2 (n * n) c2, .slice a3 (n * n) c3, .int .i64 (bt : Int), .int .i64 top] 53) = W0 := ⟨_, rfl⟩
  have hs0 : W0.heap.size = w.heap.size + 2 := by rw [← hW0]; simp
  rw [hW0] at HK HQ HB
  obtain ⟨y0, y1, y2, y3, y4⟩ := five (unhide HK)
  go_enter Tryz.func74, Tryz.ntmps74
  go_wp2_with fail
  try rw [hW0]
  clear y0 y1 y2 y3 y4 hW0
  go_loopw [13] (fun iv w3 => ∃ k : Nat, k ≤ m.fields.length ∧ iv = .int .i64 k ∧ (∀ j, j < k → ¬ DownI m n F jn bt f j) ∧ Below W0.heap.size W0 w3) (fun iv _ => m.fields.length - (intOf iv).toNat)
  case atStart => exact ⟨0, Nat.zero_le _, rfl, (fun j h => absurd h (Nat.not_lt_zero _)), Below.refl _ _⟩
  case round =>
    obtain ⟨k, hk, rfl, hno, hb⟩ := hrel
    have HN := hide hno; have HBz := hide hb
    have HBw := hide ((unhide HB).trans (hb.mono (unhide HB).size))
    have hzr : W0.heap.size ≤ wr.heap.size := hb.size
    have HKr := hide ((unhide HK).mono hb (by omega)); have HQr := hide ((unhide HQ).mono hb (by omega))
    clear hno hb
    by_cases hlt : k < m.fields.length
    · have hlt' : (k : Int) < m.fields.length := by omega
      have HSr := hide ((unhide HS).mono (unhide HBw)); have HMr := hide ((unhide HM).mono (unhide HBw)); have HIr := hide ((unhide HI).mono (unhide HBw)); have HOr := hide ((unhide HO).mono (unhide HBw)); have HRr := hide (owns_kept (unhide HR) (unhide HBw))
      obtain ⟨pb, po, e1, ⟨-, z0, z1, z2, z3, z4, z5, z6, z7, z8⟩, -⟩ := (unhide HSr).f k hlt
      dsimp only at e1 z3 z4 z5 z6 z8
      subst e1
      have HFk : Hid (fAt m k = m.fields[k]) := hide (fAt_get hlt)
      generalize m.fields[k] = u at *
      generalize afa k = fa at *
      obtain ⟨ub, ubc, ui', uic, uh, uhc, uv, uvc, uu, uuc⟩ := fa
      dsimp only at z3 z4 z5 z6 z8
      have HKf := hide (Blk.new wr 98 #[.string u.nm, .int .i64 u.ty, .int .i64 u.lb, .slice ub u.bys.length ubc, .slice ui' u.is.length uic, .slice uh u.wh.length uhc, .slice uv u.va.length uvc, .string u.sy, .slice uu u.mu.length uuc])
      have hba := (Below.refl wr.heap.size wr).alloc (Nat.le_refl _) (.cells #[.string u.nm, .int .i64 u.ty, .int .i64 u.lb, .slice ub u.bys.length ubc, .slice ui' u.is.length uic, .slice uh u.wh.length uhc, .slice uv u.va.length uvc, .string u.sy, .slice uu u.mu.length uuc] 98)
      obtain ⟨Wd, hWd⟩ : ∃ Wd, wr.alloc (.cells #[.string u.nm, .int .i64 u.ty, .int .i64 u.lb, .slice ub u.bys.length ubc, .slice ui' u.is.length uic, .slice uh u.wh.length uhc, .slice uv u.va.length uvc, .string u.sy, .slice uu u.mu.length uuc] 98) = Wd := ⟨_, rfl⟩
      rw [hWd] at HKf hba
      have HBd := hide ((unhide HBz).trans (hba.mono (by omega))); have HBwd := hide ((unhide HBw).trans (hba.mono (unhide HBw).size))
      have HKd := hide ((unhide HKr).mono hba (unhide HKr).lt); have HQd := hide ((unhide HQr).mono hba (unhide HQr).lt); have HSd := hide ((unhide HSr).mono hba); have HMd := hide ((unhide HMr).mono hba); have HId := hide ((unhide HIr).mono hba); have HOd := hide ((unhide HOr).mono hba); have HRd := hide (owns_kept (unhide HRr) hba)
      have hzd : wr.heap.size ≤ Wd.heap.size := hba.size
      clear hba
      obtain ⟨y0, y1, y2, y3, y4⟩ := five (unhide HKr)
      go_wp2_with fail
      try rw [hWd]
      obtain ⟨X, hX⟩ : ∃ X, wr.heap.size = X := ⟨_, rfl⟩
      rw [hX] at HKf
      try rw [hX]
      clear hWd y0 y1 y2 y3 y4 z0 z1 z2 z3 z4 z5 z6 z7 z8
      have x2 := (unhide HKf).cell 2
      simp only [List.getElem?_cons_zero, List.getElem?_cons_succ] at x2
      by_cases hneg : u.lb < 0
      · have HN2 : Hid (∀ j, j < k + 1 → ¬ DownI m n F jn bt f j) := hide fun j hj => by
          by_cases e : j = k
          · subst e; rintro ⟨h, -⟩; rw [unhide HFk] at h; omega
          · exact unhide HN j (by omega)
        have hge : decide ((0 : Int) ≤ u.lb) = false := decide_eq_false (by omega)
        refine wp_region_held_drew (S := fun w' => w'.cell? ⟨X, 2, none⟩ = some (.int .i64 u.lb)) (by kernel_rfl) x2 (fun hHeld => ?_)
        refine takeY (i := 0) (v := .pointer (some ⟨X, 2, none⟩)) 18 rfl rfl (by kernel_rfl) (by kernel_rfl) (by kernel_rfl) (fun _ _ _ _ h => h) (by rfl) (fun w hS => by simp [execOp, go_sem, *]) hHeld ?_
        simp only [List.setIfInBounds_toArray, List.set_cons_zero, List.set_cons_succ]
        refine takeY (i := 1) (v := .int .i64 u.lb) 19 rfl rfl (by kernel_rfl) (by kernel_rfl) (by kernel_rfl) (fun _ _ _ _ h => h) (by rfl) (fun w hS => by simp [execOp, go_sem, *]) hHeld ?_
        simp only [List.setIfInBounds_toArray, List.set_cons_zero, List.set_cons_succ]
        refine takeY (i := 2) (v := .bool false) 20 rfl rfl (by kernel_rfl) (by kernel_rfl) (by kernel_rfl) (fun _ _ _ _ h => h) (by rfl) (fun w hS => by simp [execOp, go_sem, *]) hHeld ?_
        simp only [List.setIfInBounds_toArray, List.set_cons_zero, List.set_cons_succ]
        refine takeY (i := 3) (v := .bool false) 21 rfl rfl (by kernel_rfl) (by kernel_rfl) (by kernel_rfl) (fun _ _ _ _ h => h) (by rfl) (fun w hS => by simp [execOp, go_sem, *]) hHeld ?_
        simp only [List.setIfInBounds_toArray, List.set_cons_zero, List.set_cons_succ]
        refine takeN (i := 4) 22 rfl rfl (by kernel_rfl) (by kernel_rfl) (by kernel_rfl) (fun _ _ _ _ h => h) (by rfl) hHeld ?_
        simp only [List.setIfInBounds_toArray, List.set_cons_zero, List.set_cons_succ]
        refine takeN (i := 5) 23 rfl rfl (by kernel_rfl) (by kernel_rfl) (by kernel_rfl) (fun _ _ _ _ h => h) (by rfl) hHeld ?_
        simp only [List.setIfInBounds_toArray, List.set_cons_zero, List.set_cons_succ]
        refine takeN (i := 6) 24 rfl rfl (by kernel_rfl) (by kernel_rfl) (by kernel_rfl) (fun _ _ _ _ h => h) (by rfl) hHeld ?_
        simp only [List.setIfInBounds_toArray, List.set_cons_zero, List.set_cons_succ]
        refine takeN (i := 7) 25 rfl rfl (by kernel_rfl) (by kernel_rfl) (by kernel_rfl) (fun _ _ _ _ h => h) (by rfl) hHeld ?_
        simp only [List.setIfInBounds_toArray, List.set_cons_zero, List.set_cons_succ]
        refine takeN (i := 8) 26 rfl rfl (by kernel_rfl) (by kernel_rfl) (by kernel_rfl) (fun _ _ _ _ h => h) (by rfl) hHeld ?_
        simp only [List.setIfInBounds_toArray, List.set_cons_zero, List.set_cons_succ]
        refine takeN (i := 9) 27 rfl rfl (by kernel_rfl) (by kernel_rfl) (by kernel_rfl) (fun _ _ _ _ h => h) (by rfl) hHeld ?_
        simp only [List.setIfInBounds_toArray, List.set_cons_zero, List.set_cons_succ]
        refine takeN (i := 10) 28 rfl rfl (by kernel_rfl) (by kernel_rfl) (by kernel_rfl) (fun _ _ _ _ h => h) (by rfl) hHeld ?_
        simp only [List.setIfInBounds_toArray, List.set_cons_zero, List.set_cons_succ]
        refine takeN (i := 11) 29 rfl rfl (by kernel_rfl) (by kernel_rfl) (by kernel_rfl) (fun _ _ _ _ h => h) (by rfl) hHeld ?_
        simp only [List.setIfInBounds_toArray, List.set_cons_zero, List.set_cons_succ]
        refine takeN (i := 12) 30 rfl rfl (by kernel_rfl) (by kernel_rfl) (by kernel_rfl) (fun _ _ _ _ h => h) (by rfl) hHeld ?_
        simp only [List.setIfInBounds_toArray, List.set_cons_zero, List.set_cons_succ]
        refine takeN (i := 13) 31 rfl rfl (by kernel_rfl) (by kernel_rfl) (by kernel_rfl) (fun _ _ _ _ h => h) (by rfl) hHeld ?_
        simp only [List.setIfInBounds_toArray, List.set_cons_zero, List.set_cons_succ]
        refine takeN (i := 14) 32 rfl rfl (by kernel_rfl) (by kernel_rfl) (by kernel_rfl) (fun _ _ _ _ h => h) (by rfl) hHeld ?_
        simp only [List.setIfInBounds_toArray, List.set_cons_zero, List.set_cons_succ]
        refine takeN (i := 15) 33 rfl rfl (by kernel_rfl) (by kernel_rfl) (by kernel_rfl) (fun _ _ _ _ h => h) (by rfl) hHeld ?_
        simp only [List.setIfInBounds_toArray, List.set_cons_zero, List.set_cons_succ]
        refine takeN (i := 16) 34 rfl rfl (by kernel_rfl) (by kernel_rfl) (by kernel_rfl) (fun _ _ _ _ h => h) (by rfl) hHeld ?_
        simp only [List.setIfInBounds_toArray, List.set_cons_zero, List.set_cons_succ]
        refine takeN (i := 17) 35 rfl rfl (by kernel_rfl) (by kernel_rfl) (by kernel_rfl) (fun _ _ _ _ h => h) (by rfl) hHeld ?_
        simp only [List.setIfInBounds_toArray, List.set_cons_zero, List.set_cons_succ]
        refine takeN (i := 18) 36 rfl rfl (by kernel_rfl) (by kernel_rfl) (by kernel_rfl) (fun _ _ _ _ h => h) (by rfl) hHeld ?_
        simp only [List.setIfInBounds_toArray, List.set_cons_zero, List.set_cons_succ]
        refine takeN (i := 19) 37 rfl rfl (by kernel_rfl) (by kernel_rfl) (by kernel_rfl) (fun _ _ _ _ h => h) (by rfl) hHeld ?_
        simp only [List.setIfInBounds_toArray, List.set_cons_zero, List.set_cons_succ]
        refine takeY (i := 20) (v := .bool false) 38 rfl rfl (by kernel_rfl) (by kernel_rfl) (by kernel_rfl) (fun _ _ _ _ h => h) (by rfl) (fun w hS => by simp [execOp, go_sem, *]) hHeld ?_
        simp only [List.setIfInBounds_toArray, List.set_cons_zero, List.set_cons_succ]
        refine wpAnyH_done (by kernel_rfl) ?_ _
        have HBe := hide ((unhide HBd).drew)
        clear hHeld x2 hge hneg
        go_wp2_with fail
        go_roundw
        case rel => first | exact ⟨k + 1, by omega, by go_num, unhide HN2, unhide HBe⟩ | ((repeat apply Exists.intro); exact ⟨⟨k + 1, by omega, by go_num, unhide HN2, unhide HBe⟩, rfl⟩)
        case measure => simp [intOf]; omega
      · have hlb : u.lb = ((f k : Nat) : Int) := by have := (unhide HSol).decl k hlt (by rw [unhide HFk]; omega); rw [unhide HFk] at this; exact this.symm
        have hfk := (unhide HSol).lt k hlt
        have hvl := unhide HRl k hlt
        have HDn : Hid (DownI m n F jn bt f k ↔ F (rdV m jn bt f k * n + f k) = false) := hide ⟨fun h => h.2, fun h => ⟨by rw [unhide HFk]; omega, h⟩⟩
        have HC2 := hide (unhide HCr Wd.drew k hlt ((unhide HSd).mono ((Below.refl _ _).drew)) ((unhide HMd).mono ((Below.refl _ _).drew)) ((unhide HId).mono ((Below.refl _ _).drew)) (owns_kept (unhide HRd) ((Below.refl _ _).drew)))
        generalize rdV m jn bt f k = v at *
        obtain ⟨hidx, hw1, hw2, hidx', hidx2⟩ := idx_facts hvl hfk hn
        obtain ⟨b2, o2, e3, -, zj⟩ := unhide HOd _ hidx
        rw [hlb] at x2
        clear hneg hlb
        subst e3
        generalize hfk0 : f k = fk at *
        clear hfk0
        generalize F (v * n + fk) = vb at *
        generalize v * n + fk = q1 at *
        generalize v * n = q2 at *
        have x3 := x2
        refine wp_region_held_drew (S := fun w' => Blk w' w.heap.size 66 [.slice al m.labels.length alc, .slice ap m.below.length apc, .slice ar m.roles.length arc, .slice (some ⟨pb, po, none⟩) m.fields.length afc, .map (some b)] ∧ Blk w' (w.heap.size + 1) 53 [.int .i64 n, .slice (some ⟨b2, o2, none⟩) (n * n) c1, .slice a2 (n * n) c2, .slice a3 (n * n) c3, .int .i64 (bt : Int), .int .i64 top] ∧ w'.cell? ⟨X, 2, none⟩ = some (.int .i64 (fk : Nat)) ∧ w'.cell? ⟨b2, o2 + q1, none⟩ = some (.bool vb)) (by kernel_rfl) ⟨unhide HKd, unhide HQd, x2, zj⟩ (fun hHeld => ?_)
        clear x2
        refine takeY (i := 0) (v := .pointer (some ⟨X, 2, none⟩)) 18 rfl rfl (by kernel_rfl) (by kernel_rfl) (by kernel_rfl) (fun _ _ _ _ h => h) (by rfl) (fun w hS => by simp [execOp, go_sem, *]) hHeld ?_
        simp only [List.setIfInBounds_toArray, List.set_cons_zero, List.set_cons_succ]
        refine takeY (i := 1) (v := .int .i64 fk) 19 rfl rfl (by kernel_rfl) (by kernel_rfl) (by kernel_rfl) (fun _ _ _ _ h => h) (by rfl) (fun w hS => by have q0 := hS.2.2.1; simp [execOp, go_sem, q0]) hHeld ?_
        simp only [List.setIfInBounds_toArray, List.set_cons_zero, List.set_cons_succ]
        refine takeY (i := 2) (v := .bool true) 20 rfl rfl (by kernel_rfl) (by kernel_rfl) (by kernel_rfl) (fun _ _ _ _ h => h) (by rfl) (fun w hS => by simp [execOp, go_sem]) hHeld ?_
        simp only [List.setIfInBounds_toArray, List.set_cons_zero, List.set_cons_succ]
        refine takeY (i := 3) (v := .bool true) 21 rfl rfl (by kernel_rfl) (by kernel_rfl) (by kernel_rfl) (fun _ _ _ _ h => h) (by rfl) (fun w hS => by simp [execOp, go_sem, *]) hHeld ?_
        simp only [List.setIfInBounds_toArray, List.set_cons_zero, List.set_cons_succ]
        refine takeY (i := 4) (v := .pointer (some ⟨w.heap.size + 1, 1, none⟩)) 22 rfl rfl (by kernel_rfl) (by kernel_rfl) (by kernel_rfl) (fun _ _ _ _ h => h) (by rfl) (fun w hS => by simp [execOp, go_sem, *]) hHeld ?_
        simp only [List.setIfInBounds_toArray, List.set_cons_zero, List.set_cons_succ]
        refine takeY (i := 5) (v := .slice (some ⟨b2, o2, none⟩) (n * n) c1) 23 rfl rfl (by kernel_rfl) (by kernel_rfl) (by kernel_rfl) (fun _ _ _ _ h => h) (by rfl) (fun w hS => by have q1 := hS.2.1.cell 1; simp only [List.getElem?_cons_zero, List.getElem?_cons_succ] at q1; simp [execOp, go_sem, q1]) hHeld ?_
        simp only [List.setIfInBounds_toArray, List.set_cons_zero, List.set_cons_succ]
        refine takeY (i := 6) (v := .agg #[.slice al m.labels.length alc, .slice ap m.below.length apc, .slice ar m.roles.length arc, .slice (some ⟨pb, po, none⟩) m.fields.length afc, .map (some b)]) 24 rfl rfl (by kernel_rfl) (by kernel_rfl) (by kernel_rfl) (fun _ _ _ _ h => h) (by rfl) (fun w hS => by obtain ⟨q0, q1, q2, q3, q4⟩ := five hS.1; simp [execOp, go_sem, q0, q1, q2, q3, q4]) hHeld ?_
        simp only [List.setIfInBounds_toArray, List.set_cons_zero, List.set_cons_succ]
        refine takeY (i := 7) (v := .int .i64 k) 25 rfl rfl (by kernel_rfl) (by kernel_rfl) (by kernel_rfl) (fun _ _ _ _ h => h) (by rfl) (fun w hS => by simp [execOp, go_sem, *]) hHeld ?_
        simp only [List.setIfInBounds_toArray, List.set_cons_zero, List.set_cons_succ]
        refine takeY (i := 8) (v := .agg #[.int .i64 n, .slice (some ⟨b2, o2, none⟩) (n * n) c1, .slice a2 (n * n) c2, .slice a3 (n * n) c3, .int .i64 (bt : Int), .int .i64 top]) 26 rfl rfl (by kernel_rfl) (by kernel_rfl) (by kernel_rfl) (fun _ _ _ _ h => h) (by rfl) (fun w hS => by obtain ⟨q0, q1, q2, q3, q4, q5⟩ := (six' hS.2.1).1; simp [execOp, go_sem, q0, q1, q2, q3, q4, q5]) hHeld ?_
        simp only [List.setIfInBounds_toArray, List.set_cons_zero, List.set_cons_succ]
        refine takeY (i := 9) (v := .slice a5 m.fields.length c5) 27 rfl rfl (by kernel_rfl) (by kernel_rfl) (by kernel_rfl) (fun _ _ _ _ h => h) (by rfl) (fun w hS => by simp [execOp, go_sem, *]) hHeld ?_
        simp only [List.setIfInBounds_toArray, List.set_cons_zero, List.set_cons_succ]
        refine takeY (i := 11) (v := .pointer (some ⟨w.heap.size + 1, 0, none⟩)) 29 rfl rfl (by kernel_rfl) (by kernel_rfl) (by kernel_rfl) (fun _ _ _ _ h => h) (by rfl) (fun w hS => by simp [execOp, go_sem, *]) hHeld ?_
        simp only [List.setIfInBounds_toArray, List.set_cons_zero, List.set_cons_succ]
        refine takeY (i := 12) (v := .int .i64 n) 30 rfl rfl (by kernel_rfl) (by kernel_rfl) (by kernel_rfl) (fun _ _ _ _ h => h) (by rfl) (fun w hS => by have q1 := hS.2.1.cell 0; simp only [List.getElem?_cons_zero] at q1; simp [execOp, go_sem, q1]) hHeld ?_
        simp only [List.setIfInBounds_toArray, List.set_cons_zero, List.set_cons_succ]
        refine takeY (i := 14) (v := .pointer (some ⟨X, 2, none⟩)) 32 rfl rfl (by kernel_rfl) (by kernel_rfl) (by kernel_rfl) (fun _ _ _ _ h => h) (by rfl) (fun w hS => by simp [execOp, go_sem, *]) hHeld ?_
        simp only [List.setIfInBounds_toArray, List.set_cons_zero, List.set_cons_succ]
        refine takeY (i := 15) (v := .int .i64 fk) 33 rfl rfl (by kernel_rfl) (by kernel_rfl) (by kernel_rfl) (fun _ _ _ _ h => h) (by rfl) (fun w hS => by have q0 := hS.2.2.1; simp [execOp, go_sem, q0]) hHeld ?_
        simp only [List.setIfInBounds_toArray, List.set_cons_zero, List.set_cons_succ]
        refine callY (i := 10) (f := 65) (args := #[.agg #[.slice al m.labels.length alc, .slice ap m.below.length apc, .slice ar m.roles.length arc, .slice (some ⟨pb, po, none⟩) m.fields.length afc, .map (some b)], .int .i64 k, .agg #[.int .i64 n, .slice (some ⟨b2, o2, none⟩) (n * n) c1, .slice a2 (n * n) c2, .slice a3 (n * n) c3, .int .i64 (bt : Int), .int .i64 top], .slice a5 m.fields.length c5]) (R := fun v' wz => v' = .int .i64 (v : Nat) ∧ Below Wd.heap.size Wd wz) 28 rfl rfl (by rfl) (by kernel_rfl) ?hrun10 ((unhide HC2).mono fun e w6 ⟨he, hb⟩ => ⟨_, he, rfl, below_of_drew hb⟩) ?_
        case hrun10 => simp [execOp, go_sem]
        rintro v' W3 ⟨rfl, hb⟩
        replace hHeld : Blk W3 w.heap.size 66 [.slice al m.labels.length alc, .slice ap m.below.length apc, .slice ar m.roles.length arc, .slice (some ⟨pb, po, none⟩) m.fields.length afc, .map (some b)] ∧ Blk W3 (w.heap.size + 1) 53 [.int .i64 n, .slice (some ⟨b2, o2, none⟩) (n * n) c1, .slice a2 (n * n) c2, .slice a3 (n * n) c3, .int .i64 (bt : Int), .int .i64 top] ∧ W3.cell? ⟨X, 2, none⟩ = some (.int .i64 (fk : Nat)) ∧ W3.cell? ⟨b2, o2 + q1, none⟩ = some (.bool vb) := ⟨(unhide HKd).mono hb (unhide HKd).lt, (unhide HQd).mono hb (unhide HQd).lt, cell_kept hb x3, cell_kept hb zj⟩
        have HB3 := hide ((unhide HBd).trans (hb.mono (by omega))); have HBw3 := hide ((unhide HBwd).trans (hb.mono (unhide HBwd).size))
        clear hb HC2 x3 zj
        refine ⟨hHeld, ?_⟩
        simp only [List.setIfInBounds_toArray, List.set_cons_zero, List.set_cons_succ]
        refine takeY (i := 13) (v := .int .i64 q2) 31 rfl rfl (by kernel_rfl) (by kernel_rfl) (by kernel_rfl) (fun _ _ _ _ h => h) (by rfl) (fun w hS => by simp [execOp, go_sem]; exact (IntWalk.i64_left _).trans hw1) hHeld ?_
        simp only [List.setIfInBounds_toArray, List.set_cons_zero, List.set_cons_succ]
        refine takeY (i := 16) (v := .int .i64 q1) 34 rfl rfl (by kernel_rfl) (by kernel_rfl) (by kernel_rfl) (fun _ _ _ _ h => h) (by rfl) (fun w hS => by simp [execOp, go_sem]; exact (IntWalk.i64_left _).trans hw2) hHeld ?_
        simp only [List.setIfInBounds_toArray, List.set_cons_zero, List.set_cons_succ]
        refine takeY (i := 17) (v := .pointer (some ⟨b2, o2 + q1, none⟩)) 35 rfl rfl (by kernel_rfl) (by kernel_rfl) (by kernel_rfl) (fun _ _ _ _ h => h) (by rfl) (fun w hS => by simp [execOp, go_sem, *]) hHeld ?_
        simp only [List.setIfInBounds_toArray, List.set_cons_zero, List.set_cons_succ]
        refine takeY (i := 18) (v := .bool vb) 36 rfl rfl (by kernel_rfl) (by kernel_rfl) (by kernel_rfl) (fun _ _ _ _ h => h) (by rfl) (fun w hS => by have q0 := hS.2.2.2; simp [execOp, go_sem, q0]) hHeld ?_
        simp only [List.setIfInBounds_toArray, List.set_cons_zero, List.set_cons_succ]
        refine takeY (i := 19) (v := .bool (!vb)) 37 rfl rfl (by kernel_rfl) (by kernel_rfl) (by kernel_rfl) (fun _ _ _ _ h => h) (by rfl) (fun w hS => by simp [execOp, go_sem, *]) hHeld ?_
        simp only [List.setIfInBounds_toArray, List.set_cons_zero, List.set_cons_succ]
        refine takeY (i := 20) (v := .bool (!vb)) 38 rfl rfl (by kernel_rfl) (by kernel_rfl) (by kernel_rfl) (fun _ _ _ _ h => h) (by rfl) (fun w hS => by simp [execOp, go_sem, *]) hHeld ?_
        simp only [List.setIfInBounds_toArray, List.set_cons_zero, List.set_cons_succ]
        refine wpAnyH_done (by kernel_rfl) ?_ _
        clear hHeld
        cases vb
        · have HF : Hid (Fst (DownI m n F jn bt f) m.fields.length (k : Int)) := hide (.inr ⟨k, hlt, rfl, (unhide HDn).2 rfl, unhide HN⟩)
          go_wp2_with fail
          go_ret
          first | exact ⟨_, rfl, unhide HF, unhide HBw3⟩ | exact ⟨unhide HF, unhide HBw3⟩
        · have HN2 : Hid (∀ j, j < k + 1 → ¬ DownI m n F jn bt f j) := hide fun j hj => by
            by_cases e : j = k
            · subst e; intro h; have := (unhide HDn).1 h; cases this
            · exact unhide HN j (by omega)
          go_wp2_with fail
          go_roundw
          case rel => first | exact ⟨k + 1, by omega, by go_num, unhide HN2, unhide HB3⟩ | ((repeat apply Exists.intro); exact ⟨⟨k + 1, by omega, by go_num, unhide HN2, unhide HB3⟩, rfl⟩)
          case measure => simp [intOf]; omega
    · obtain rfl : k = m.fields.length := by omega
      have hlt' : ¬ (m.fields.length : Int) < (m.fields.length : Int) := by omega
      have HF : Hid (Fst (DownI m n F jn bt f) m.fields.length (-1)) := hide (.inl ⟨rfl, unhide HN⟩)
      go_wp2_with fail
      go_ret
      first | exact ⟨_, rfl, unhide HF, unhide HBw⟩ | exact ⟨unhide HF, unhide HBw⟩
end Go.Proofs.YtalgidagiojbpaaGreatDoor

/- The first field whose declared label lies too low, of the model. -/
namespace Go.Proofs.YtalgidagiojbpaaGreatDoor
open Go Go.RowKit

/-- As far as j: none that field k reads lies too high for it. -/
def NoDown (m : Fm) (n : Nat) (F : Nat → Bool) (f : Nat → Nat) (k j : Nat) : Prop := ∀ i, i < j → anyR m i k = true → F (f i * n + f k) = true
theorem noDown_full {m : Fm} {n : Nat} {F : Nat → Bool} {f : Nat → Nat} {k : Nat} (h : NoDown m n F f k m.fields.length) : ¬ DownS m n F f k := by
  rintro ⟨-, j, hj, ha, hF⟩
  have := h j hj ha
  rw [hF] at this
  cases this

set_option maxRecDepth 100000 in
set_option maxHeartbeats 8000000 in
theorem l4FirstDown_f (m : Fm) (A : MA) (w : World) (bot top : Int) (s n bt tp : Nat) (F : Nat → Bool) (J M : Nat → Int) (hv : VfA m) (hz : SpecF m.labels.length m.below.length (pr1 m) (pr2 m) s F J M bot top) (hL : ValidP m.labels.length s s s F J M bot top n bt tp) (hf : FitM m) (ha : MSl w m A) :
    Calls Tryz.prog 41 #[mV m A] w fun r w' => ∃ z f, r = .returned (.int .i64 z) ∧ Sol m n (fun a b => F (a * n + b) = true) f ∧ Low m n (fun a b => F (a * n + b) = true) f ∧ Fst (DownS m n F f) m.fields.length z ∧ Below w.heap.size w w' := by
  have HCo := hide fun W => l4Order_any m A W hf
  have HZz := hide hz
  have HPm := hide fun W (hs : MSl W m A) => pairs_m hs
  have hN : m.labels.length = n := by have := hL.hN; omega
  have HCl := hide fun W (a1 a2 a3 : Option Addr) (c1 c2 c3 : Nat) (hs : MSl W m A) (hj : Ints W a2 s J) => l4Labels_any m A W m.labels.length bot top s n bt tp F J M a1 a2 a3 c1 c2 c3 hv hf hL hN hs hj
  have HCa := hide fun W j k (hj : j < m.fields.length) (hk : k < m.fields.length) (hs : MSl W m A) => l4Any_any m A j k W hj hk hf hs
  have hn := hL.h32
  have e1 := hL.l1
  have e2 := hL.hb
  subst e1
  subst e2
  have hnf := hv.nf
  obtain ⟨al, alc, ap, apc, ar, arc, af, afc, afa⟩ := A
  unfold mV at HCo HCl HCa ⊢
  dsimp only at HCo HPm HCl HCa ⊢
  rw [hN] at HCo HCl HCa HZz
  try rw [hN]
  have HK := hide (Blk.new w 35 #[.slice al n alc, .slice ap m.below.length apc, .slice ar m.roles.length arc, .slice af m.fields.length afc])
  have HB := hide ((Below.refl w.heap.size w).alloc (Nat.le_refl _) (.cells #[.slice al n alc, .slice ap m.below.length apc, .slice ar m.roles.length arc, .slice af m.fields.length afc] 35))
  obtain ⟨W0, hW0⟩ : ∃ W0, w.alloc (.cells #[.slice al n alc, .slice ap m.below.length apc, .slice ar m.roles.length arc, .slice af m.fields.length afc] 35) = W0 := ⟨_, rfl⟩
  rw [hW0] at HK HB
  have HS := hide (ha.mono (unhide HB))
  clear ha hf hz hL hv hN
  obtain ⟨y0, y1, y2, y3⟩ := quad (unhide HK)
  go_enter Tryz.func41, Tryz.ntmps41
  go_wp2_with fail
  try rw [hW0]
  refine (unhide HCo W0).mono ?_
  rintro r W2 ⟨rfl, hb⟩
  replace HK := hide ((unhide HK).mono hb (unhide HK).lt); replace HS := hide ((unhide HS).mono hb); replace HB := hide ((unhide HB).trans (hb.mono (unhide HB).size))
  have HC2 := hide (unhide HZz W2 ap apc (unhide HPm W2 (unhide HS)))
  clear hb hW0 y0 y1 y2 y3
  go_wp2_with fail
  refine (unhide HC2).mono ?_
  rintro r W3 ⟨a1, a2, a3, c1, c2, c3, rfl, ho, hj, -, hb⟩
  replace HK := hide ((unhide HK).mono hb (unhide HK).lt); replace HS := hide ((unhide HS).mono hb); replace HB := hide ((unhide HB).trans (hb.mono (unhide HB).size))
  have HX := hide (Blk.new W3 53 #[.int .i64 n, .slice a1 (n * n) c1, .slice a2 (n * n) c2, .slice a3 (n * n) c3, .int .i64 (bt : Int), .int .i64 top])
  have hba := (Below.refl W3.heap.size W3).alloc (Nat.le_refl _) (.cells #[.int .i64 n, .slice a1 (n * n) c1, .slice a2 (n * n) c2, .slice a3 (n * n) c3, .int .i64 (bt : Int), .int .i64 top] 53)
  obtain ⟨W4, hW4⟩ : ∃ W4, W3.alloc (.cells #[.int .i64 n, .slice a1 (n * n) c1, .slice a2 (n * n) c2, .slice a3 (n * n) c3, .int .i64 (bt : Int), .int .i64 top] 53) = W4 := ⟨_, rfl⟩
  rw [hW4] at HX hba
  replace HK := hide ((unhide HK).mono hba (unhide HK).lt); replace HS := hide ((unhide HS).mono hba); replace HB := hide ((unhide HB).trans (hba.mono (unhide HB).size))
  have HO := hide (ho.mono hba)
  have HC3 := hide (unhide HCl W4 a1 a2 a3 c1 c2 c3 (unhide HS) (hj.mono hba))
  obtain ⟨X, hX⟩ : ∃ X, W3.heap.size = X := ⟨_, rfl⟩
  rw [hX] at HX
  obtain ⟨⟨x0, x1, x2, x3, x4, x5⟩, -⟩ := six' (unhide HX)
  obtain ⟨y0, y1, y2, y3⟩ := quad (unhide HK)
  clear hb hba hj ho HCl HC2
  go_wp2_with fail
  try rw [hX]
  try rw [hW4]
  refine (unhide HC3).mono ?_
  rintro r W5 ⟨f, a0, c0, rfl, h1, h2, h3, hb⟩
  replace HB := hide ((unhide HB).trans (hb.mono (unhide HB).size)); replace HK := hide ((unhide HK).mono hb (unhide HK).lt); replace HX := hide ((unhide HX).mono hb (unhide HX).lt); replace HS := hide ((unhide HS).mono hb); replace HO := hide ((unhide HO).mono hb)
  have H1 := hide h1; have H2 := hide h2; have H3 := hide h3
  clear hb hW4 h1 h2 h3 x0 x1 x2 x3 x4 x5 y0 y1 y2 y3 HC3 hX
  go_wp2_with fail
  go_loopw [6] (fun kv wr => ∃ k : Nat, k ≤ m.fields.length ∧ kv = .int .i64 k ∧ (∀ j, j < k → ¬ DownS m n F f j) ∧ Below W5.heap.size W5 wr) (fun kv _ => m.fields.length - (intOf kv).toNat)
  case atStart => exact ⟨0, Nat.zero_le _, rfl, (fun j h => absurd h (Nat.not_lt_zero _)), Below.refl _ _⟩
  case round =>
    obtain ⟨k, hk, rfl, hno, hb⟩ := hrel
    have HN := hide hno; have HBz := hide hb
    have HBw := hide ((unhide HB).trans (hb.mono (unhide HB).size))
    have HKr := hide ((unhide HK).mono hb (unhide HK).lt); have HSr := hide ((unhide HS).mono hb)
    have hzr : W5.heap.size ≤ wr.heap.size := hb.size
    clear hno hb
    by_cases hlt : k < m.fields.length
    · have hlt' : (k : Int) < m.fields.length := by omega
      obtain ⟨pb, po, e1, ⟨hpb, -, -, z2, -⟩, -⟩ := (unhide HSr).f k hlt
      dsimp only at e1
      subst e1
      obtain ⟨y0, y1, y2, y3⟩ := quad (unhide HKr)
      have HFk : Hid ((fAt m k).lb = m.fields[k].lb) := hide (by rw [fAt_get hlt])
      generalize m.fields[k].lb = lb at *
      by_cases hneg : lb < 0
      · have hge : ¬ (0 : Int) ≤ lb := by omega
        have HN2 : Hid (∀ j, j < k + 1 → ¬ DownS m n F f j) := hide fun j hj => by
          by_cases e : j = k
          · subst e; rintro ⟨h, -⟩; rw [unhide HFk] at h; omega
          · exact unhide HN j (by omega)
        go_wp2_with fail
        go_roundw
        case rel => first | exact ⟨k + 1, by omega, by go_num, unhide HN2, unhide HBz⟩ | ((repeat apply Exists.intro); exact ⟨⟨k + 1, by omega, by go_num, unhide HN2, unhide HBz⟩, rfl⟩)
        case measure => simp [intOf]; omega
      · have hge : (0 : Int) ≤ lb := by omega
        have hlb : lb = ((f k : Nat) : Int) := by have := (unhide H1).decl k hlt (by rw [unhide HFk]; omega); rw [unhide HFk] at this; exact this.symm
        have HGe : Hid (0 ≤ (fAt m k).lb) := hide (by rw [unhide HFk]; exact hge)
        have hfk := (unhide H1).lt k hlt
        go_wp2_with fail
        rw [hlb] at z2
        obtain ⟨wx, hwx⟩ : ∃ wx, wr = wx := ⟨_, rfl⟩
        rw [hwx] at z2 HBz HBw HKr HSr hzr hpb
        clear y0 y1 y2 y3 hlb hge hneg HFk
        go_loopw [7] (fun jv w4 => ∃ j : Nat, j ≤ m.fields.length ∧ jv = .int .i64 j ∧ NoDown m n F f k j ∧ Below wx.heap.size wx w4) (fun jv _ => m.fields.length - (intOf jv).toNat)
        case atStart => exact ⟨0, Nat.zero_le _, rfl, (fun j h => absurd h (Nat.not_lt_zero _)), by rw [hwx]; exact Below.refl _ _⟩
        case round =>
          clear hwx
          obtain ⟨j, hj, rfl, hnd, hb⟩ := hrel
          have HND := hide hnd; have HBj := hide hb
          have HB5 := hide ((unhide HBz).trans (hb.mono hzr)); have HB6 := hide ((unhide HBw).trans (hb.mono (unhide HBw).size))
          have HK6 := hide ((unhide HKr).mono hb (unhide HKr).lt); have HS6 := hide ((unhide HSr).mono hb)
          have HX6 := hide ((unhide HX).mono (unhide HB5) (unhide HX).lt); have HO6 := hide ((unhide HO).mono (unhide HB5)); have H36 := hide ((unhide H3).mono (unhide HB5))
          have zl := cell_kept hb z2
          clear hnd hb
          by_cases hjl : j < m.fields.length
          · have hjl' : (j : Int) < m.fields.length := by omega
            obtain ⟨y0, y1, y2, y3⟩ := quad (unhide HK6)
            have hfj := (unhide H1).lt j hjl
            have HC4 := hide (unhide HCa wr.drew j k hjl hlt ((unhide HS6).mono (Below.refl _ _).drew))
            obtain ⟨g0, o0, e0, -, zk⟩ := (unhide H36).at j (by rw [lsL_len]; exact hjl)
            rw [lsL_get] at zk
            obtain ⟨hidx, hw1, hw2, hidx', hidx2⟩ := idx_facts hfj hfk hn
            obtain ⟨b2, o2, e3, -, zj⟩ := unhide HO6 _ hidx
            go_wp2_with fail
            clear y0 y1 y2 y3
            subst e0
            subst e3
            have HFb : Hid (∀ v, F (f j * n + f k) = v → v = false → anyR m j k = true → Fst (DownS m n F f) m.fields.length (k : Int)) := hide fun v e1 e2 e3 => .inr ⟨k, hlt, rfl, ⟨unhide HGe, j, hjl, e3, e1.trans e2⟩, unhide HN⟩
            have HFt : Hid (∀ v, F (f j * n + f k) = v → (anyR m j k = true → v = true) → NoDown m n F f k (j + 1)) := hide fun v e1 e2 i hi ha => by
              by_cases e : i = j
              · subst e; exact e1.trans (e2 ha)
              · exact unhide HND i (by omega) ha
            obtain ⟨vb, hvb⟩ : ∃ vb, F (f j * n + f k) = vb := ⟨_, rfl⟩
            replace HFb := hide (unhide HFb vb hvb); replace HFt := hide (unhide HFt vb hvb)
            rw [hvb] at zj
            clear hvb
            generalize hfk0 : f k = fk at *
            generalize hfj0 : f j = fj at *
            have HFK := hide hfk0
            clear hfk0 hfj0
            generalize fj * n + fk = q1 at *
            generalize fj * n = q2 at *
            obtain ⟨ar2, har⟩ : ∃ ar2, anyR m j k = ar2 := ⟨_, rfl⟩
            rw [har] at HC4 HFb HFt
            clear har
            refine wp_region_held_drew (S := fun w' => Blk w' w.heap.size 35 [.slice al n alc, .slice ap m.below.length apc, .slice ar m.roles.length arc, .slice (some ⟨pb, po, none⟩) m.fields.length afc] ∧ Blk w' X 53 [.int .i64 n, .slice (some ⟨b2, o2, none⟩) (n * n) c1, .slice a2 (n * n) c2, .slice a3 (n * n) c3, .int .i64 (bt : Int), .int .i64 top] ∧ w'.cell? ⟨g0, o0 + j, none⟩ = some (.int .i64 (fj : Nat)) ∧ w'.cell? ⟨pb, po + k * 9 + 2, none⟩ = some (.int .i64 (fk : Nat)) ∧ w'.cell? ⟨b2, o2 + q1, none⟩ = some (.bool vb)) (by kernel_rfl) ⟨unhide HK6, unhide HX6, zk, zl, zj⟩ (fun hHeld => ?_)
            refine takeY (i := 0) (v := .agg #[.slice al n alc, .slice ap m.below.length apc, .slice ar m.roles.length arc, .slice (some ⟨pb, po, none⟩) m.fields.length afc]) 40 rfl rfl (by kernel_rfl) (by kernel_rfl) (by kernel_rfl) (fun _ _ _ _ h => h) (by rfl) (fun w hS => by obtain ⟨q0, q1, q2, q3⟩ := quad hS.1; simp [execOp, go_sem, q0, q1, q2, q3]) hHeld ?_
            simp only [List.setIfInBounds_toArray, List.set_cons_zero, List.set_cons_succ]
            refine takeY (i := 1) (v := .int .i64 j) 41 rfl rfl (by kernel_rfl) (by kernel_rfl) (by kernel_rfl) (fun _ _ _ _ h => h) (by rfl) (fun w hS => by simp [execOp, go_sem, *]) hHeld ?_
            simp only [List.setIfInBounds_toArray, List.set_cons_zero, List.set_cons_succ]
            refine takeY (i := 2) (v := .int .i64 k) 42 rfl rfl (by kernel_rfl) (by kernel_rfl) (by kernel_rfl) (fun _ _ _ _ h => h) (by rfl) (fun w hS => by simp [execOp, go_sem, *]) hHeld ?_
            simp only [List.setIfInBounds_toArray, List.set_cons_zero, List.set_cons_succ]
            refine callY (i := 3) (f := 56) (args := #[.agg #[.slice al n alc, .slice ap m.below.length apc, .slice ar m.roles.length arc, .slice (some ⟨pb, po, none⟩) m.fields.length afc], .int .i64 j, .int .i64 k]) (R := fun v' wz => v' = .bool ar2 ∧ Below wr.heap.size wr wz) 43 rfl rfl (by rfl) (by kernel_rfl) ?hrun3 ((unhide HC4).mono fun e w6 ⟨he, hb⟩ => ⟨_, he, rfl, below_of_drew hb⟩) ?_
            case hrun3 => simp [execOp, go_sem]
            rintro v' W7 ⟨rfl, hb⟩
            replace hHeld : Blk W7 w.heap.size 35 [.slice al n alc, .slice ap m.below.length apc, .slice ar m.roles.length arc, .slice (some ⟨pb, po, none⟩) m.fields.length afc] ∧ Blk W7 X 53 [.int .i64 n, .slice (some ⟨b2, o2, none⟩) (n * n) c1, .slice a2 (n * n) c2, .slice a3 (n * n) c3, .int .i64 (bt : Int), .int .i64 top] ∧ W7.cell? ⟨g0, o0 + j, none⟩ = some (.int .i64 (fj : Nat)) ∧ W7.cell? ⟨pb, po + k * 9 + 2, none⟩ = some (.int .i64 (fk : Nat)) ∧ W7.cell? ⟨b2, o2 + q1, none⟩ = some (.bool vb) := ⟨(unhide HK6).mono hb (unhide HK6).lt, (unhide HX6).mono hb (unhide HX6).lt, cell_kept hb zk, cell_kept hb zl, cell_kept hb zj⟩
            have HB7 := hide ((unhide HBj).trans (hb.mono (unhide HBj).size)); have HBw7 := hide ((unhide HB6).trans (hb.mono (unhide HB6).size))
            clear hb HC4 zk zl zj
            refine ⟨hHeld, ?_⟩
            simp only [List.setIfInBounds_toArray, List.set_cons_zero, List.set_cons_succ]
            cases ar2
            · skip
              refine takeY (i := 4) (v := .bool false) 44 rfl rfl (by kernel_rfl) (by kernel_rfl) (by kernel_rfl) (fun _ _ _ _ h => h) (by rfl) (fun w hS => by simp [execOp, go_sem, *]) hHeld ?_
              simp only [List.setIfInBounds_toArray, List.set_cons_zero, List.set_cons_succ]
              refine takeN (i := 5) 45 rfl rfl (by kernel_rfl) (by kernel_rfl) (by kernel_rfl) (fun _ _ _ _ h => h) (by rfl) hHeld ?_
              simp only [List.setIfInBounds_toArray, List.set_cons_zero, List.set_cons_succ]
              refine takeN (i := 6) 46 rfl rfl (by kernel_rfl) (by kernel_rfl) (by kernel_rfl) (fun _ _ _ _ h => h) (by rfl) hHeld ?_
              simp only [List.setIfInBounds_toArray, List.set_cons_zero, List.set_cons_succ]
              refine takeN (i := 7) 47 rfl rfl (by kernel_rfl) (by kernel_rfl) (by kernel_rfl) (fun _ _ _ _ h => h) (by rfl) hHeld ?_
              simp only [List.setIfInBounds_toArray, List.set_cons_zero, List.set_cons_succ]
              refine takeN (i := 8) 48 rfl rfl (by kernel_rfl) (by kernel_rfl) (by kernel_rfl) (fun _ _ _ _ h => h) (by rfl) hHeld ?_
              simp only [List.setIfInBounds_toArray, List.set_cons_zero, List.set_cons_succ]
              refine takeN (i := 9) 49 rfl rfl (by kernel_rfl) (by kernel_rfl) (by kernel_rfl) (fun _ _ _ _ h => h) (by rfl) hHeld ?_
              simp only [List.setIfInBounds_toArray, List.set_cons_zero, List.set_cons_succ]
              refine takeN (i := 10) 50 rfl rfl (by kernel_rfl) (by kernel_rfl) (by kernel_rfl) (fun _ _ _ _ h => h) (by rfl) hHeld ?_
              simp only [List.setIfInBounds_toArray, List.set_cons_zero, List.set_cons_succ]
              refine takeN (i := 11) 51 rfl rfl (by kernel_rfl) (by kernel_rfl) (by kernel_rfl) (fun _ _ _ _ h => h) (by rfl) hHeld ?_
              simp only [List.setIfInBounds_toArray, List.set_cons_zero, List.set_cons_succ]
              refine takeN (i := 12) 52 rfl rfl (by kernel_rfl) (by kernel_rfl) (by kernel_rfl) (fun _ _ _ _ h => h) (by rfl) hHeld ?_
              simp only [List.setIfInBounds_toArray, List.set_cons_zero, List.set_cons_succ]
              refine takeN (i := 13) 53 rfl rfl (by kernel_rfl) (by kernel_rfl) (by kernel_rfl) (fun _ _ _ _ h => h) (by rfl) hHeld ?_
              simp only [List.setIfInBounds_toArray, List.set_cons_zero, List.set_cons_succ]
              refine takeN (i := 14) 54 rfl rfl (by kernel_rfl) (by kernel_rfl) (by kernel_rfl) (fun _ _ _ _ h => h) (by rfl) hHeld ?_
              simp only [List.setIfInBounds_toArray, List.set_cons_zero, List.set_cons_succ]
              refine takeN (i := 15) 55 rfl rfl (by kernel_rfl) (by kernel_rfl) (by kernel_rfl) (fun _ _ _ _ h => h) (by rfl) hHeld ?_
              simp only [List.setIfInBounds_toArray, List.set_cons_zero, List.set_cons_succ]
              refine takeN (i := 16) 56 rfl rfl (by kernel_rfl) (by kernel_rfl) (by kernel_rfl) (fun _ _ _ _ h => h) (by rfl) hHeld ?_
              simp only [List.setIfInBounds_toArray, List.set_cons_zero, List.set_cons_succ]
              refine takeN (i := 17) 57 rfl rfl (by kernel_rfl) (by kernel_rfl) (by kernel_rfl) (fun _ _ _ _ h => h) (by rfl) hHeld ?_
              simp only [List.setIfInBounds_toArray, List.set_cons_zero, List.set_cons_succ]
              refine takeN (i := 18) 58 rfl rfl (by kernel_rfl) (by kernel_rfl) (by kernel_rfl) (fun _ _ _ _ h => h) (by rfl) hHeld ?_
              simp only [List.setIfInBounds_toArray, List.set_cons_zero, List.set_cons_succ]
              refine takeN (i := 19) 59 rfl rfl (by kernel_rfl) (by kernel_rfl) (by kernel_rfl) (fun _ _ _ _ h => h) (by rfl) hHeld ?_
              simp only [List.setIfInBounds_toArray, List.set_cons_zero, List.set_cons_succ]
              refine takeN (i := 20) 60 rfl rfl (by kernel_rfl) (by kernel_rfl) (by kernel_rfl) (fun _ _ _ _ h => h) (by rfl) hHeld ?_
              simp only [List.setIfInBounds_toArray, List.set_cons_zero, List.set_cons_succ]
              refine takeN (i := 21) 61 rfl rfl (by kernel_rfl) (by kernel_rfl) (by kernel_rfl) (fun _ _ _ _ h => h) (by rfl) hHeld ?_
              simp only [List.setIfInBounds_toArray, List.set_cons_zero, List.set_cons_succ]
              refine takeN (i := 22) 62 rfl rfl (by kernel_rfl) (by kernel_rfl) (by kernel_rfl) (fun _ _ _ _ h => h) (by rfl) hHeld ?_
              simp only [List.setIfInBounds_toArray, List.set_cons_zero, List.set_cons_succ]
              refine takeN (i := 23) 63 rfl rfl (by kernel_rfl) (by kernel_rfl) (by kernel_rfl) (fun _ _ _ _ h => h) (by rfl) hHeld ?_
              simp only [List.setIfInBounds_toArray, List.set_cons_zero, List.set_cons_succ]
              refine takeY (i := 24) (v := .bool false) 64 rfl rfl (by kernel_rfl) (by kernel_rfl) (by kernel_rfl) (fun _ _ _ _ h => h) (by rfl) (fun w hS => by simp [execOp, go_sem, *]) hHeld ?_
              simp only [List.setIfInBounds_toArray, List.set_cons_zero, List.set_cons_succ]
              refine wpAnyH_done (by kernel_rfl) ?_ _
              have HN3 := hide (unhide HFt (fun h => by cases h))
              clear hHeld
              go_wp2_with fail
              have efk := unhide HFK
              subst efk
              go_roundw
              case rel => first | exact ⟨j + 1, by omega, by go_num, unhide HN3, unhide HB7⟩ | ((repeat apply Exists.intro); exact ⟨⟨j + 1, by omega, by go_num, unhide HN3, unhide HB7⟩, rfl⟩) | ((repeat apply Exists.intro); exact ⟨⟨j + 1, by omega, by go_num, unhide HN3, unhide HB7⟩, rfl, rfl, rfl⟩)
              case measure => simp [intOf]; omega
            · skip
              refine takeY (i := 4) (v := .bool true) 44 rfl rfl (by kernel_rfl) (by kernel_rfl) (by kernel_rfl) (fun _ _ _ _ h => h) (by rfl) (fun w hS => by simp [execOp, go_sem, *]) hHeld ?_
              simp only [List.setIfInBounds_toArray, List.set_cons_zero, List.set_cons_succ]
              refine takeY (i := 5) (v := .pointer (some ⟨X, 1, none⟩)) 45 rfl rfl (by kernel_rfl) (by kernel_rfl) (by kernel_rfl) (fun _ _ _ _ h => h) (by rfl) (fun w hS => by simp [execOp, go_sem, *]) hHeld ?_
              simp only [List.setIfInBounds_toArray, List.set_cons_zero, List.set_cons_succ]
              refine takeY (i := 6) (v := .slice (some ⟨b2, o2, none⟩) (n * n) c1) 46 rfl rfl (by kernel_rfl) (by kernel_rfl) (by kernel_rfl) (fun _ _ _ _ h => h) (by rfl) (fun w hS => by have q1 := hS.2.1.cell 1; simp only [List.getElem?_cons_zero, List.getElem?_cons_succ] at q1; simp [execOp, go_sem, q1]) hHeld ?_
              simp only [List.setIfInBounds_toArray, List.set_cons_zero, List.set_cons_succ]
              refine takeY (i := 7) (v := .slice (some ⟨g0, o0, none⟩) m.fields.length c0) 47 rfl rfl (by kernel_rfl) (by kernel_rfl) (by kernel_rfl) (fun _ _ _ _ h => h) (by rfl) (fun w hS => by simp [execOp, go_sem, *]) hHeld ?_
              simp only [List.setIfInBounds_toArray, List.set_cons_zero, List.set_cons_succ]
              refine takeY (i := 8) (v := .int .i64 j) 48 rfl rfl (by kernel_rfl) (by kernel_rfl) (by kernel_rfl) (fun _ _ _ _ h => h) (by rfl) (fun w hS => by simp [execOp, go_sem, *]) hHeld ?_
              simp only [List.setIfInBounds_toArray, List.set_cons_zero, List.set_cons_succ]
              refine takeY (i := 9) (v := .pointer (some ⟨g0, o0 + j, none⟩)) 49 rfl rfl (by kernel_rfl) (by kernel_rfl) (by kernel_rfl) (fun _ _ _ _ h => h) (by rfl) (fun w hS => by simp [execOp, go_sem, *]) hHeld ?_
              simp only [List.setIfInBounds_toArray, List.set_cons_zero, List.set_cons_succ]
              refine takeY (i := 10) (v := .int .i64 fj) 50 rfl rfl (by kernel_rfl) (by kernel_rfl) (by kernel_rfl) (fun _ _ _ _ h => h) (by rfl) (fun w hS => by have q0 := hS.2.2.1; simp [execOp, go_sem, q0]) hHeld ?_
              simp only [List.setIfInBounds_toArray, List.set_cons_zero, List.set_cons_succ]
              refine takeY (i := 11) (v := .pointer (some ⟨X, 0, none⟩)) 51 rfl rfl (by kernel_rfl) (by kernel_rfl) (by kernel_rfl) (fun _ _ _ _ h => h) (by rfl) (fun w hS => by simp [execOp, go_sem, *]) hHeld ?_
              simp only [List.setIfInBounds_toArray, List.set_cons_zero, List.set_cons_succ]
              refine takeY (i := 12) (v := .int .i64 n) 52 rfl rfl (by kernel_rfl) (by kernel_rfl) (by kernel_rfl) (fun _ _ _ _ h => h) (by rfl) (fun w hS => by have q1 := hS.2.1.cell 0; simp only [List.getElem?_cons_zero] at q1; simp [execOp, go_sem, q1]) hHeld ?_
              simp only [List.setIfInBounds_toArray, List.set_cons_zero, List.set_cons_succ]
              refine takeY (i := 13) (v := .int .i64 q2) 53 rfl rfl (by kernel_rfl) (by kernel_rfl) (by kernel_rfl) (fun _ _ _ _ h => h) (by rfl) (fun w hS => by simp [execOp, go_sem]; exact (IntWalk.i64_left _).trans hw1) hHeld ?_
              simp only [List.setIfInBounds_toArray, List.set_cons_zero, List.set_cons_succ]
              refine takeY (i := 14) (v := .pointer (some ⟨w.heap.size, 3, none⟩)) 54 rfl rfl (by kernel_rfl) (by kernel_rfl) (by kernel_rfl) (fun _ _ _ _ h => h) (by rfl) (fun w hS => by simp [execOp, go_sem, *]) hHeld ?_
              simp only [List.setIfInBounds_toArray, List.set_cons_zero, List.set_cons_succ]
              refine takeY (i := 15) (v := .slice (some ⟨pb, po, none⟩) m.fields.length afc) 55 rfl rfl (by kernel_rfl) (by kernel_rfl) (by kernel_rfl) (fun _ _ _ _ h => h) (by rfl) (fun w hS => by obtain ⟨q0, q1, q2, q3⟩ := quad hS.1; simp [execOp, go_sem, q3]) hHeld ?_
              simp only [List.setIfInBounds_toArray, List.set_cons_zero, List.set_cons_succ]
              refine takeY (i := 16) (v := .int .i64 k) 56 rfl rfl (by kernel_rfl) (by kernel_rfl) (by kernel_rfl) (fun _ _ _ _ h => h) (by rfl) (fun w hS => by simp [execOp, go_sem, *]) hHeld ?_
              simp only [List.setIfInBounds_toArray, List.set_cons_zero, List.set_cons_succ]
              refine takeY (i := 17) (v := .pointer (some ⟨pb, po + k * 9, none⟩)) 57 rfl rfl (by kernel_rfl) (by kernel_rfl) (by kernel_rfl) (fun _ _ _ _ h => h) (by rfl) (fun w hS => by simp [execOp, go_sem, *]) hHeld ?_
              simp only [List.setIfInBounds_toArray, List.set_cons_zero, List.set_cons_succ]
              refine takeY (i := 18) (v := .pointer (some ⟨pb, po + k * 9 + 2, none⟩)) 58 rfl rfl (by kernel_rfl) (by kernel_rfl) (by kernel_rfl) (fun _ _ _ _ h => h) (by rfl) (fun w hS => by simp [execOp, go_sem, *]) hHeld ?_
              simp only [List.setIfInBounds_toArray, List.set_cons_zero, List.set_cons_succ]
              refine takeY (i := 19) (v := .int .i64 fk) 59 rfl rfl (by kernel_rfl) (by kernel_rfl) (by kernel_rfl) (fun _ _ _ _ h => h) (by rfl) (fun w hS => by have q0 := hS.2.2.2.1; simp [execOp, go_sem, q0]) hHeld ?_
              simp only [List.setIfInBounds_toArray, List.set_cons_zero, List.set_cons_succ]
              refine takeY (i := 20) (v := .int .i64 q1) 60 rfl rfl (by kernel_rfl) (by kernel_rfl) (by kernel_rfl) (fun _ _ _ _ h => h) (by rfl) (fun w hS => by simp [execOp, go_sem]; exact (IntWalk.i64_left _).trans hw2) hHeld ?_
              simp only [List.setIfInBounds_toArray, List.set_cons_zero, List.set_cons_succ]
              refine takeY (i := 21) (v := .pointer (some ⟨b2, o2 + q1, none⟩)) 61 rfl rfl (by kernel_rfl) (by kernel_rfl) (by kernel_rfl) (fun _ _ _ _ h => h) (by rfl) (fun w hS => by simp [execOp, go_sem, *]) hHeld ?_
              simp only [List.setIfInBounds_toArray, List.set_cons_zero, List.set_cons_succ]
              refine takeY (i := 22) (v := .bool vb) 62 rfl rfl (by kernel_rfl) (by kernel_rfl) (by kernel_rfl) (fun _ _ _ _ h => h) (by rfl) (fun w hS => by have q0 := hS.2.2.2.2; simp [execOp, go_sem, q0]) hHeld ?_
              simp only [List.setIfInBounds_toArray, List.set_cons_zero, List.set_cons_succ]
              refine takeY (i := 23) (v := .bool (!vb)) 63 rfl rfl (by kernel_rfl) (by kernel_rfl) (by kernel_rfl) (fun _ _ _ _ h => h) (by rfl) (fun w hS => by simp [execOp, go_sem, *]) hHeld ?_
              simp only [List.setIfInBounds_toArray, List.set_cons_zero, List.set_cons_succ]
              refine takeY (i := 24) (v := .bool (!vb)) 64 rfl rfl (by kernel_rfl) (by kernel_rfl) (by kernel_rfl) (fun _ _ _ _ h => h) (by rfl) (fun w hS => by simp [execOp, go_sem, *]) hHeld ?_
              simp only [List.setIfInBounds_toArray, List.set_cons_zero, List.set_cons_succ]
              refine wpAnyH_done (by kernel_rfl) ?_ _
              clear hHeld
              cases vb
              · have HF := hide (unhide HFb rfl rfl)
                go_wp2_with fail
                go_ret
                first | exact ⟨_, f, rfl, unhide H1, unhide H2, unhide HF, unhide HBw7⟩ | exact ⟨_, rfl, f, unhide H1, unhide H2, unhide HF, unhide HBw7⟩ | exact ⟨f, unhide H1, unhide H2, unhide HF, unhide HBw7⟩
              · have HN3 := hide (unhide HFt (fun _ => rfl))
                go_wp2_with fail
                have efk := unhide HFK
                subst efk
                go_roundw
                case rel => first | exact ⟨j + 1, by omega, by go_num, unhide HN3, unhide HB7⟩ | ((repeat apply Exists.intro); exact ⟨⟨j + 1, by omega, by go_num, unhide HN3, unhide HB7⟩, rfl⟩) | ((repeat apply Exists.intro); exact ⟨⟨j + 1, by omega, by go_num, unhide HN3, unhide HB7⟩, rfl, rfl, rfl⟩)
                case measure => simp [intOf]; omega
          · obtain rfl : j = m.fields.length := by omega
            have hjl' : ¬ (m.fields.length : Int) < (m.fields.length : Int) := by omega
            have HN2 : Hid (∀ j, j < k + 1 → ¬ DownS m n F f j) := hide fun j hj => by
              by_cases e : j = k
              · subst e; exact noDown_full (unhide HND)
              · exact unhide HN j (by omega)
            obtain ⟨y0, y1, y2, y3⟩ := quad (unhide HK6)
            go_wp2_with fail
            go_roundw
            case rel => first | exact ⟨k + 1, by omega, by go_num, unhide HN2, unhide HB5⟩ | ((repeat apply Exists.intro); exact ⟨⟨k + 1, by omega, by go_num, unhide HN2, unhide HB5⟩, rfl⟩)
            case measure => simp [intOf]; omega
    · obtain rfl : k = m.fields.length := by omega
      have hlt' : ¬ (m.fields.length : Int) < (m.fields.length : Int) := by omega
      have HF : Hid (Fst (DownS m n F f) m.fields.length (-1)) := hide (.inl ⟨rfl, unhide HN⟩)
      obtain ⟨y0, y1, y2, y3⟩ := quad (unhide HKr)
      go_wp2_with fail
      go_ret
      first | exact ⟨_, f, rfl, unhide H1, unhide H2, unhide HF, unhide HBw⟩ | exact ⟨_, rfl, f, unhide H1, unhide H2, unhide HF, unhide HBw⟩ | exact ⟨f, unhide H1, unhide H2, unhide HF, unhide HBw⟩
end Go.Proofs.YtalgidagiojbpaaGreatDoor

/- What CheckForm answers, as data; where a statement stands. -/
namespace Go.Proofs.YtalgidagiojbpaaGreatDoor
open Go Go.RowKit

/-- A Diag as a value. -/
abbrev dgV (c a : Int) : Value := .agg #[.int .i64 c, .int .i64 a]
/-- How many statements stand before the fields. -/
def frst (m : Fm) : Int := ((m.labels.length + m.below.length + m.roles.length : Nat) : Int)
/-- What CheckForm answers for a valid form with a lattice. -/
def ChkF (m : Fm) (n : Nat) (F : Nat → Bool) (c a : Int) : Prop :=
  (∃ z, 0 ≤ z ∧ Fst (fun k => Rch m k k) m.fields.length z ∧ c = 15 ∧ a = frst m + z) ∨
  (Fst (fun k => Rch m k k) m.fields.length (-1) ∧ ∃ f z, Sol m n (fun a b => F (a * n + b) = true) f ∧ Low m n (fun a b => F (a * n + b) = true) f ∧ Fst (DownS m n F f) m.fields.length z ∧ ((0 ≤ z ∧ c = 16 ∧ a = frst m + z) ∨ (z < 0 ∧ c = 0 ∧ a = 0)))
theorem ChkF.one {m : Fm} {n bt : Nat} {F : Nat → Bool} {jn : Nat → Nat → Nat} (L : LatP n (fun a b => F (a * n + b) = true) jn bt) {c a c' a' : Int} (h : ChkF m n F c a) (h' : ChkF m n F c' a') : c = c' ∧ a = a' := by
  rcases h with ⟨z, h0, h1, rfl, rfl⟩ | ⟨h1, f, z, s1, s2, s3, h2⟩ <;> rcases h' with ⟨z', h0', h1', rfl, rfl⟩ | ⟨h1', f', z', s1', s2', s3', h2'⟩
  · rw [h1.one h1']; exact ⟨rfl, rfl⟩
  · have := h1.one h1'; omega
  · have := h1.one h1'; omega
  · have hff := least_one L s1 s1' s2 s2'
    have hD : ∀ k, k < m.fields.length → (DownS m n F f k ↔ DownS m n F f' k) := fun k hk => by
      unfold DownS
      refine ⟨fun ⟨x, j, hj, y, e⟩ => ⟨x, j, hj, y, ?_⟩, fun ⟨x, j, hj, y, e⟩ => ⟨x, j, hj, y, ?_⟩⟩
      · rw [← hff j hj, ← hff k hk]; exact e
      · rw [hff j hj, hff k hk]; exact e
    have hz : z = z' := (s3.iff hD).one s3'
    subst hz
    rcases h2 with ⟨x, rfl, rfl⟩ | ⟨x, rfl, rfl⟩ <;> rcases h2' with ⟨x', rfl, rfl⟩ | ⟨x', rfl, rfl⟩
    · exact ⟨rfl, rfl⟩
    · omega
    · omega
    · exact ⟨rfl, rfl⟩

set_option maxRecDepth 100000 in
set_option maxHeartbeats 1000000 in
theorem statementIndex_any (m : Fm) (A : MA) (z : Int) (w : World) (hv : VfA m) (hz : 0 ≤ z) (hz2 : z < m.fields.length) :
    Calls Tryz.prog 73 #[mV m A, .int .i64 z] w fun r w' => r = .returned (.int .i64 (frst m + z)) ∧ Below w.heap.size w w' := by
  obtain ⟨al, alc, ap, apc, ar, arc, af, afc, afa⟩ := A
  unfold mV
  dsimp only
  have h1 := hv.nl; have h2 := hv.np; have h3 := hv.nr; have h4 := hv.nf
  clear hv
  have HE : Hid ((m.labels.length : Int) + m.below.length + m.roles.length + z = frst m + z) := hide (by unfold frst; omega)
  have HK := hide (Blk.new w 35 #[.slice al m.labels.length alc, .slice ap m.below.length apc, .slice ar m.roles.length arc, .slice af m.fields.length afc])
  have HB := hide ((Below.refl w.heap.size w).alloc (Nat.le_refl _) (.cells #[.slice al m.labels.length alc, .slice ap m.below.length apc, .slice ar m.roles.length arc, .slice af m.fields.length afc] 35))
  obtain ⟨W0, hW0⟩ : ∃ W0, w.alloc (.cells #[.slice al m.labels.length alc, .slice ap m.below.length apc, .slice ar m.roles.length arc, .slice af m.fields.length afc] 35) = W0 := ⟨_, rfl⟩
  rw [hW0] at HK HB
  obtain ⟨y0, y1, y2, y3⟩ := quad (unhide HK)
  go_enter Tryz.func73, Tryz.ntmps73
  go_wp2_with fail
  try rw [hW0]
  go_ret
  rw [unhide HE]
  exact ⟨rfl, unhide HB⟩
end Go.Proofs.YtalgidagiojbpaaGreatDoor

/- CheckForm, of the model. -/
namespace Go.Proofs.YtalgidagiojbpaaGreatDoor
open Go Go.RowKit

set_option maxRecDepth 100000 in
set_option maxHeartbeats 2000000 in
theorem specCheck_v (m : Fm) (A : MA) (w : World) (hV : ∀ W, MSl W m A → Calls Tryz.prog 21 #[mV m A] W fun r w' => r = .returned (.bool (vfB m)) ∧ Below W.heap.size W w') (hq : vfB m = false) (ha : MSl w m A) :
    Calls Tryz.prog 14 #[mV m A] w fun r w' => r = .returned (dgV 20 0) ∧ Below w.heap.size w w' := by
  have HV := hide hV
  obtain ⟨al, alc, ap, apc, ar, arc, af, afc, afa⟩ := A
  unfold mV at HV ⊢
  dsimp only at HV ⊢
  have HK := hide ((Blk.new w 35 #[.slice al m.labels.length alc, .slice ap m.below.length apc, .slice ar m.roles.length arc, .slice af m.fields.length afc]).alloc (.cells #[.int .i64 0, .int .i64 0] 43))
  have HR := hide (Blk.new (w.alloc (.cells #[.slice al m.labels.length alc, .slice ap m.below.length apc, .slice ar m.roles.length arc, .slice af m.fields.length afc] 35)) 43 #[.int .i64 0, .int .i64 0])
  rw [World.size_alloc] at HR
  have HB := hide (((Below.refl w.heap.size w).alloc (Nat.le_refl _) (.cells #[.slice al m.labels.length alc, .slice ap m.below.length apc, .slice ar m.roles.length arc, .slice af m.fields.length afc] 35)).alloc (by simp) (.cells #[.int .i64 0, .int .i64 0] 43))
  obtain ⟨W0, hW0⟩ : ∃ W0, (w.alloc (.cells #[.slice al m.labels.length alc, .slice ap m.below.length apc, .slice ar m.roles.length arc, .slice af m.fields.length afc] 35)).alloc (.cells #[.int .i64 0, .int .i64 0] 43) = W0 := ⟨_, rfl⟩
  have hs0 : W0.heap.size = w.heap.size + 2 := by rw [← hW0]; simp
  rw [hW0] at HK HR HB
  have HS := hide (ha.mono (unhide HB))
  clear ha hV
  obtain ⟨y0, y1, y2, y3⟩ := quad (unhide HK)
  go_enter Tryz.func14, Tryz.ntmps14
  go_wp2_with fail
  try rw [hW0]
  refine (unhide HV W0 (unhide HS)).mono ?_
  rintro r W1 ⟨rfl, hb⟩
  replace HK := hide ((unhide HK).mono hb (unhide HK).lt); replace HR := hide ((unhide HR).mono hb (unhide HR).lt); replace HS := hide ((unhide HS).mono hb); replace HB := hide ((unhide HB).trans (hb.mono (unhide HB).size))
  rw [hq]
  clear hb hW0 y0 y1 y2 y3 hq
  obtain ⟨⟨r0, r1⟩, ⟨f0, f1⟩⟩ := two' (unhide HR)
  have HR9 := hide (((unhide HR).set 0 (.int .i64 (20))).set 1 (.int .i64 (0)))
  simp only [List.set_cons_zero, List.set_cons_succ] at HR9
  have HB9 := hide (((unhide HB).setCell (p := ⟨w.heap.size + 1, 0, none⟩) (by simp) (.int .i64 (20))).setCell (p := ⟨w.heap.size + 1, 1, none⟩) (by simp) (.int .i64 (0)))
  go_wp2_with fail
  obtain ⟨k0, k1⟩ := (two' (unhide HR9)).1
  exact bodyPost_ret (v := dgV (20) (0)) (by simp [results, Tryz.results14, go_sem, k0, k1]) rfl ⟨rfl, unhide HB9⟩

set_option maxRecDepth 100000 in
set_option maxHeartbeats 2000000 in
theorem specCheck_z (m : Fm) (A : MA) (w : World) (code : Int) (hV : ∀ W, MSl W m A → Calls Tryz.prog 21 #[mV m A] W fun r w' => r = .returned (.bool (vfB m)) ∧ Below W.heap.size W w') (hq : vfB m = true) (hc : 1 ≤ code ∧ code ≤ 4) (hz : SpecZ m.labels.length m.below.length (pr1 m) (pr2 m) code) (hf : FitM m) (ha : MSl w m A) :
    Calls Tryz.prog 14 #[mV m A] w fun r w' => r = .returned (dgV (10 + code) 0) ∧ Below w.heap.size w w' := by
  have HV := hide hV; have HZz := hide hz
  have HCo := hide fun W => l4Order_any m A W hf
  have HPm := hide fun W (hs : MSl W m A) => pairs_m hs
  obtain ⟨al, alc, ap, apc, ar, arc, af, afc, afa⟩ := A
  unfold mV at HV HCo ⊢
  dsimp only at HV HCo HPm ⊢
  have HK := hide ((Blk.new w 35 #[.slice al m.labels.length alc, .slice ap m.below.length apc, .slice ar m.roles.length arc, .slice af m.fields.length afc]).alloc (.cells #[.int .i64 0, .int .i64 0] 43))
  have HR := hide (Blk.new (w.alloc (.cells #[.slice al m.labels.length alc, .slice ap m.below.length apc, .slice ar m.roles.length arc, .slice af m.fields.length afc] 35)) 43 #[.int .i64 0, .int .i64 0])
  rw [World.size_alloc] at HR
  have HB := hide (((Below.refl w.heap.size w).alloc (Nat.le_refl _) (.cells #[.slice al m.labels.length alc, .slice ap m.below.length apc, .slice ar m.roles.length arc, .slice af m.fields.length afc] 35)).alloc (by simp) (.cells #[.int .i64 0, .int .i64 0] 43))
  obtain ⟨W0, hW0⟩ : ∃ W0, (w.alloc (.cells #[.slice al m.labels.length alc, .slice ap m.below.length apc, .slice ar m.roles.length arc, .slice af m.fields.length afc] 35)).alloc (.cells #[.int .i64 0, .int .i64 0] 43) = W0 := ⟨_, rfl⟩
  have hs0 : W0.heap.size = w.heap.size + 2 := by rw [← hW0]; simp
  rw [hW0] at HK HR HB
  have HS := hide (ha.mono (unhide HB))
  clear ha hV hz hf
  obtain ⟨y0, y1, y2, y3⟩ := quad (unhide HK)
  go_enter Tryz.func14, Tryz.ntmps14
  go_wp2_with fail
  try rw [hW0]
  refine (unhide HV W0 (unhide HS)).mono ?_
  rintro r W1 ⟨rfl, hb⟩
  replace HK := hide ((unhide HK).mono hb (unhide HK).lt); replace HR := hide ((unhide HR).mono hb (unhide HR).lt); replace HS := hide ((unhide HS).mono hb); replace HB := hide ((unhide HB).trans (hb.mono (unhide HB).size))
  rw [hq]
  clear hb hW0 y0 y1 y2 y3 hq
  obtain ⟨y0, y1, y2, y3⟩ := quad (unhide HK)
  go_wp2_with fail
  refine (unhide HCo W1).mono ?_
  rintro r W2 ⟨rfl, hb⟩
  replace HK := hide ((unhide HK).mono hb (unhide HK).lt); replace HR := hide ((unhide HR).mono hb (unhide HR).lt); replace HS := hide ((unhide HS).mono hb); replace HB := hide ((unhide HB).trans (hb.mono (unhide HB).size))
  have HC2 := hide (unhide HZz W2 ap apc (unhide HPm W2 (unhide HS)))
  unfold zeroL at HC2
  clear hb y0 y1 y2 y3
  go_wp2_with fail
  refine (unhide HC2).mono ?_
  rintro r W3 ⟨rfl, hb⟩
  replace HK := hide ((unhide HK).mono hb (unhide HK).lt); replace HR := hide ((unhide HR).mono hb (unhide HR).lt); replace HS := hide ((unhide HS).mono hb); replace HB := hide ((unhide HB).trans (hb.mono (unhide HB).size))
  have hba := (Below.refl W3.heap.size W3).alloc (Nat.le_refl _) (.cells #[.int .i64 0, .slice none 0 0, .slice none 0 0, .slice none 0 0, .int .i64 0, .int .i64 0] 53)
  replace HR := hide ((unhide HR).mono hba (unhide HR).lt); replace HB := hide ((unhide HB).trans (hba.mono (unhide HB).size))
  obtain ⟨hc1, hc2⟩ := hc
  have hc3 : (code != 0) = true := by have : code ≠ 0 := by omega
                                      simpa using this
  clear hb hba
  obtain ⟨⟨r0, r1⟩, ⟨f0, f1⟩⟩ := two' (unhide HR)
  have HR9 := hide (((unhide HR).set 0 (.int .i64 (10 + code))).set 1 (.int .i64 (0)))
  simp only [List.set_cons_zero, List.set_cons_succ] at HR9
  have HB9 := hide (((unhide HB).setCell (p := ⟨w.heap.size + 1, 0, none⟩) (by simp) (.int .i64 (10 + code))).setCell (p := ⟨w.heap.size + 1, 1, none⟩) (by simp) (.int .i64 (0)))
  go_wp2_with fail
  obtain ⟨k0, k1⟩ := (two' (unhide HR9)).1
  exact bodyPost_ret (v := dgV (10 + code) (0)) (by simp [results, Tryz.results14, go_sem, k0, k1]) rfl ⟨rfl, unhide HB9⟩

set_option maxRecDepth 100000 in
set_option maxHeartbeats 4000000 in
theorem specCheck_f (m : Fm) (A : MA) (w : World) (bot top : Int) (s n bt tp : Nat) (F : Nat → Bool) (J M : Nat → Int) (hV : ∀ W, MSl W m A → Calls Tryz.prog 21 #[mV m A] W fun r w' => r = .returned (.bool (vfB m)) ∧ Below W.heap.size W w') (hq : vfB m = true) (hv : VfA m) (hz : SpecF m.labels.length m.below.length (pr1 m) (pr2 m) s F J M bot top) (hL : ValidP m.labels.length s s s F J M bot top n bt tp) (hf : FitM m) (ha : MSl w m A) :
    Calls Tryz.prog 14 #[mV m A] w fun r w' => ∃ c a, r = .returned (dgV c a) ∧ ChkF m n F c a ∧ Below w.heap.size w w' := by
  have HV := hide hV; have HZz := hide hz
  have HCo := hide fun W => l4Order_any m A W hf
  have HPm := hide fun W (hs : MSl W m A) => pairs_m hs
  have HCy := hide fun W (hs : MSl W m A) => l4OnCycle_any m A W hv.nf hf hs
  have HCd := hide fun W (hs : MSl W m A) => l4FirstDown_f m A W bot top s n bt tp F J M hv hz hL hf hs
  have g1 := hv.nl; have g2 := hv.np; have g3 := hv.nr; have g4 := hv.nf
  obtain ⟨al, alc, ap, apc, ar, arc, af, afc, afa⟩ := A
  unfold mV at HV HCo HCy HCd ⊢
  dsimp only at HV HCo HPm HCy HCd ⊢
  have HK := hide ((Blk.new w 35 #[.slice al m.labels.length alc, .slice ap m.below.length apc, .slice ar m.roles.length arc, .slice af m.fields.length afc]).alloc (.cells #[.int .i64 0, .int .i64 0] 43))
  have HR := hide (Blk.new (w.alloc (.cells #[.slice al m.labels.length alc, .slice ap m.below.length apc, .slice ar m.roles.length arc, .slice af m.fields.length afc] 35)) 43 #[.int .i64 0, .int .i64 0])
  rw [World.size_alloc] at HR
  have HB := hide (((Below.refl w.heap.size w).alloc (Nat.le_refl _) (.cells #[.slice al m.labels.length alc, .slice ap m.below.length apc, .slice ar m.roles.length arc, .slice af m.fields.length afc] 35)).alloc (by simp) (.cells #[.int .i64 0, .int .i64 0] 43))
  obtain ⟨W0, hW0⟩ : ∃ W0, (w.alloc (.cells #[.slice al m.labels.length alc, .slice ap m.below.length apc, .slice ar m.roles.length arc, .slice af m.fields.length afc] 35)).alloc (.cells #[.int .i64 0, .int .i64 0] 43) = W0 := ⟨_, rfl⟩
  have hs0 : W0.heap.size = w.heap.size + 2 := by rw [← hW0]; simp
  rw [hW0] at HK HR HB
  have HS := hide (ha.mono (unhide HB))
  clear ha hV hz hf hL hv
  obtain ⟨y0, y1, y2, y3⟩ := quad (unhide HK)
  go_enter Tryz.func14, Tryz.ntmps14
  go_wp2_with fail
  try rw [hW0]
  refine (unhide HV W0 (unhide HS)).mono ?_
  rintro r W1 ⟨rfl, hb⟩
  replace HK := hide ((unhide HK).mono hb (unhide HK).lt); replace HR := hide ((unhide HR).mono hb (unhide HR).lt); replace HS := hide ((unhide HS).mono hb); replace HB := hide ((unhide HB).trans (hb.mono (unhide HB).size))
  rw [hq]
  clear hb hW0 y0 y1 y2 y3 hq
  obtain ⟨y0, y1, y2, y3⟩ := quad (unhide HK)
  go_wp2_with fail
  refine (unhide HCo W1).mono ?_
  rintro r W2 ⟨rfl, hb⟩
  replace HK := hide ((unhide HK).mono hb (unhide HK).lt); replace HR := hide ((unhide HR).mono hb (unhide HR).lt); replace HS := hide ((unhide HS).mono hb); replace HB := hide ((unhide HB).trans (hb.mono (unhide HB).size))
  have HC2 := hide (unhide HZz W2 ap apc (unhide HPm W2 (unhide HS)))
  clear hb y0 y1 y2 y3
  go_wp2_with fail
  refine (unhide HC2).mono ?_
  rintro r W3 ⟨a1, a2, a3, c1, c2, c3, rfl, -, -, -, hb⟩
  replace HK := hide ((unhide HK).mono hb (unhide HK).lt); replace HR := hide ((unhide HR).mono hb (unhide HR).lt); replace HS := hide ((unhide HS).mono hb); replace HB := hide ((unhide HB).trans (hb.mono (unhide HB).size))
  replace hb := (Below.refl W3.heap.size W3).alloc (Nat.le_refl _) (.cells #[.int .i64 m.labels.length, .slice a1 s c1, .slice a2 s c2, .slice a3 s c3, .int .i64 bot, .int .i64 top] 53)
  replace HK := hide ((unhide HK).mono hb (unhide HK).lt); replace HR := hide ((unhide HR).mono hb (unhide HR).lt); replace HS := hide ((unhide HS).mono hb); replace HB := hide ((unhide HB).trans (hb.mono (unhide HB).size))
  obtain ⟨W4, hW4⟩ : ∃ W4, W3.alloc (.cells #[.int .i64 m.labels.length, .slice a1 s c1, .slice a2 s c2, .slice a3 s c3, .int .i64 bot, .int .i64 top] 53) = W4 := ⟨_, rfl⟩
  rw [hW4] at HR HB HK HS
  have HC3 := hide (unhide HCy W4 (unhide HS))
  obtain ⟨y0, y1, y2, y3⟩ := quad (unhide HK)
  clear hb HC2
  go_wp2_with fail
  try rw [hW4]
  refine (unhide HC3).mono ?_
  rintro r W5 ⟨z, rfl, hz1, hb⟩
  have HZ1 := hide hz1
  obtain ⟨hzl, hzu⟩ := hz1.bounds
  replace HK := hide ((unhide HK).mono hb (unhide HK).lt); replace HR := hide ((unhide HR).mono hb (unhide HR).lt); replace HS := hide ((unhide HS).mono hb); replace HB := hide ((unhide HB).trans (hb.mono (unhide HB).size))
  clear hb hW4 y0 y1 y2 y3 hz1 HC3
  have HE : Hid (∀ z, (m.labels.length : Int) + m.below.length + m.roles.length + z = frst m + z) := hide (fun z => by unfold frst; omega)
  by_cases hz0 : 0 ≤ z
  · have HF : Hid (ChkF m n F 15 ((m.labels.length : Int) + m.below.length + m.roles.length + z)) := hide (by rw [unhide HE]; exact .inl ⟨z, hz0, unhide HZ1, rfl, rfl⟩)
    obtain ⟨⟨r0, r1⟩, ⟨f0, f1⟩⟩ := two' (unhide HR)
    have HR9 := hide (((unhide HR).set 0 (.int .i64 (15))).set 1 (.int .i64 ((m.labels.length : Int) + m.below.length + m.roles.length + z)))
    simp only [List.set_cons_zero, List.set_cons_succ] at HR9
    have HB9 := hide (((unhide HB).setCell (p := ⟨w.heap.size + 1, 0, none⟩) (by simp) (.int .i64 (15))).setCell (p := ⟨w.heap.size + 1, 1, none⟩) (by simp) (.int .i64 ((m.labels.length : Int) + m.below.length + m.roles.length + z)))
    go_wp2_with fail
    obtain ⟨k0, k1⟩ := (two' (unhide HR9)).1
    exact bodyPost_ret (v := dgV (15) ((m.labels.length : Int) + m.below.length + m.roles.length + z)) (by simp [results, Tryz.results14, go_sem, k0, k1]) rfl ⟨_, _, rfl, unhide HF, unhide HB9⟩
  · have HZ2 : Hid (Fst (fun k => Rch m k k) m.fields.length (-1)) := hide (by have e : z = -1 := by omega
                                                                               rw [← e]; exact unhide HZ1)
    have HC4 := hide (unhide HCd W5 (unhide HS))
    obtain ⟨y0, y1, y2, y3⟩ := quad (unhide HK)
    go_wp2_with fail
    refine (unhide HC4).mono ?_
    rintro r W6 ⟨z2, f, rfl, s1, s2, s3, hb⟩
    have S1 := hide s1; have S2 := hide s2; have S3 := hide s3
    obtain ⟨hyl, hyu⟩ := s3.bounds
    replace HK := hide ((unhide HK).mono hb (unhide HK).lt); replace HR := hide ((unhide HR).mono hb (unhide HR).lt); replace HS := hide ((unhide HS).mono hb); replace HB := hide ((unhide HB).trans (hb.mono (unhide HB).size))
    clear hb y0 y1 y2 y3 s1 s2 s3 HC4
    by_cases hz3 : 0 ≤ z2
    · have HF : Hid (ChkF m n F 16 ((m.labels.length : Int) + m.below.length + m.roles.length + z2)) := hide (by rw [unhide HE]; exact .inr ⟨unhide HZ2, f, z2, unhide S1, unhide S2, unhide S3, .inl ⟨hz3, rfl, rfl⟩⟩)
      obtain ⟨⟨r0, r1⟩, ⟨f0, f1⟩⟩ := two' (unhide HR)
      have HR9 := hide (((unhide HR).set 0 (.int .i64 (16))).set 1 (.int .i64 ((m.labels.length : Int) + m.below.length + m.roles.length + z2)))
      simp only [List.set_cons_zero, List.set_cons_succ] at HR9
      have HB9 := hide (((unhide HB).setCell (p := ⟨w.heap.size + 1, 0, none⟩) (by simp) (.int .i64 (16))).setCell (p := ⟨w.heap.size + 1, 1, none⟩) (by simp) (.int .i64 ((m.labels.length : Int) + m.below.length + m.roles.length + z2)))
      go_wp2_with fail
      obtain ⟨k0, k1⟩ := (two' (unhide HR9)).1
      exact bodyPost_ret (v := dgV (16) ((m.labels.length : Int) + m.below.length + m.roles.length + z2)) (by simp [results, Tryz.results14, go_sem, k0, k1]) rfl ⟨_, _, rfl, unhide HF, unhide HB9⟩
    · have HF : Hid (ChkF m n F 0 0) := hide (.inr ⟨unhide HZ2, f, z2, unhide S1, unhide S2, unhide S3, .inr ⟨by omega, rfl, rfl⟩⟩)
      obtain ⟨⟨r0, r1⟩, ⟨f0, f1⟩⟩ := two' (unhide HR)
      have HR9 := hide (((unhide HR).set 0 (.int .i64 (0))).set 1 (.int .i64 (0)))
      simp only [List.set_cons_zero, List.set_cons_succ] at HR9
      have HB9 := hide (((unhide HB).setCell (p := ⟨w.heap.size + 1, 0, none⟩) (by simp) (.int .i64 (0))).setCell (p := ⟨w.heap.size + 1, 1, none⟩) (by simp) (.int .i64 (0)))
      go_wp2_with fail
      obtain ⟨k0, k1⟩ := (two' (unhide HR9)).1
      exact bodyPost_ret (v := dgV (0) (0)) (by simp [results, Tryz.results14, go_sem, k0, k1]) rfl ⟨_, _, rfl, unhide HF, unhide HB9⟩
end Go.Proofs.YtalgidagiojbpaaGreatDoor
