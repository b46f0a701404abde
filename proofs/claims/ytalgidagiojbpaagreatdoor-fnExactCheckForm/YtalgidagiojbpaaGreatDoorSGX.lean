import Derived.Test.YtalgidagiojbpaaGreatDoorSGW
import Derived.Laws.Tables
import Derived.Test.YtalgidagiojbpaaGreatDoorSGH
/- soundOf and CheckForm, of the program. -/
namespace Go.Proofs.YtalgidagiojbpaaGreatDoor
open Go Go.RowKit
/-- What a sound form is made of. -/
structure SF where
 l : Option Addr
 nl : Nat
 lc : Nat
 p : Option Addr
 np : Nat
 pc : Nat
 r : Option Addr
 nr : Nat
 rc : Nat
 f : Option Addr
 nf : Nat
 fc : Nat
 mp : Option Nat
 N : Int
 a1 : Option Addr
 s1 : Nat
 c1 : Nat
 a2 : Option Addr
 s2 : Nat
 c2 : Nat
 a3 : Option Addr
 s3 : Nat
 c3 : Nat
 bot : Int
 top : Int
 lb : Option Addr
 n5 : Nat
 c5 : Nat
def sfV (S : SF) : Value := .agg #[.slice S.l S.nl S.lc, .slice S.p S.np S.pc, .slice S.r S.nr S.rc, .slice S.f S.nf S.fc, .map S.mp, .int .i64 S.N, .slice S.a1 S.s1 S.c1, .slice S.a2 S.s2 S.c2, .slice S.a3 S.s3 S.c3, .int .i64 S.bot, .int .i64 S.top, .slice S.lb S.n5 S.c5]
def sf0 : SF := ⟨none, 0, 0, none, 0, 0, none, 0, 0, none, 0, 0, none, 0, none, 0, 0, none, 0, 0, none, 0, 0, 0, 0, none, 0, 0⟩
theorem twelve {w : World} {b : Nat} {t : TypeId} {v0 v1 v2 v3 v4 v5 v6 v7 v8 v9 v10 v11 : Value} (h : Blk w b t [v0, v1, v2, v3, v4, v5, v6, v7, v8, v9, v10, v11]) :
 (w.cell? ⟨b, 0, none⟩ = some v0 /\ w.cell? ⟨b, 1, none⟩ = some v1 /\ w.cell? ⟨b, 2, none⟩ = some v2 /\ w.cell? ⟨b, 3, none⟩ = some v3 /\ w.cell? ⟨b, 4, none⟩ = some v4 /\ w.cell? ⟨b, 5, none⟩ = some v5 /\ w.cell? ⟨b, 6, none⟩ = some v6 /\ w.cell? ⟨b, 7, none⟩ = some v7 /\ w.cell? ⟨b, 8, none⟩ = some v8 /\ w.cell? ⟨b, 9, none⟩ = some v9 /\ w.cell? ⟨b, 10, none⟩ = some v10 /\ w.cell? ⟨b, 11, none⟩ = some v11) /\ (w.frozen? ⟨b, 0, none⟩ = false /\ w.frozen? ⟨b, 1, none⟩ = false /\ w.frozen? ⟨b, 2, none⟩ = false /\ w.frozen? ⟨b, 3, none⟩ = false /\ w.frozen? ⟨b, 4, none⟩ = false /\ w.frozen? ⟨b, 5, none⟩ = false /\ w.frozen? ⟨b, 6, none⟩ = false /\ w.frozen? ⟨b, 7, none⟩ = false /\ w.frozen? ⟨b, 8, none⟩ = false /\ w.frozen? ⟨b, 9, none⟩ = false /\ w.frozen? ⟨b, 10, none⟩ = false /\ w.frozen? ⟨b, 11, none⟩ = false) :=
 ⟨⟨h.cell 0, h.cell 1, h.cell 2, h.cell 3, h.cell 4, h.cell 5, h.cell 6, h.cell 7, h.cell 8, h.cell 9, h.cell 10, h.cell 11⟩, ⟨h.free 0, h.free 1, h.free 2, h.free 3, h.free 4, h.free 5, h.free 6, h.free 7, h.free 8, h.free 9, h.free 10, h.free 11⟩⟩
theorem below_set12 {B : Nat} {w w' : World} (h : Below B w w') {R : Nat} (hR : B <= R) (v0 v1 v2 v3 v4 v5 v6 v7 v8 v9 v10 v11 : Value) : Below B w ((((((((((((w'.setCell ⟨R, 0, none⟩ v0).setCell ⟨R, 1, none⟩ v1).setCell ⟨R, 2, none⟩ v2).setCell ⟨R, 3, none⟩ v3).setCell ⟨R, 4, none⟩ v4).setCell ⟨R, 5, none⟩ v5).setCell ⟨R, 6, none⟩ v6).setCell ⟨R, 7, none⟩ v7).setCell ⟨R, 8, none⟩ v8).setCell ⟨R, 9, none⟩ v9).setCell ⟨R, 10, none⟩ v10).setCell ⟨R, 11, none⟩ v11) :=
 ((((((((((((h.setCell (p := ⟨R, 0, none⟩) hR v0).setCell (p := ⟨R, 1, none⟩) hR v1).setCell (p := ⟨R, 2, none⟩) hR v2).setCell (p := ⟨R, 3, none⟩) hR v3).setCell (p := ⟨R, 4, none⟩) hR v4).setCell (p := ⟨R, 5, none⟩) hR v5).setCell (p := ⟨R, 6, none⟩) hR v6).setCell (p := ⟨R, 7, none⟩) hR v7).setCell (p := ⟨R, 8, none⟩) hR v8).setCell (p := ⟨R, 9, none⟩) hR v9).setCell (p := ⟨R, 10, none⟩) hR v10).setCell (p := ⟨R, 11, none⟩) hR v11)
/-- What a sound form holds in memory: the form, the places of its fields, its lattice and its labels. -/
def SndW (m : Fm) (A : MA) (n : Nat) (F : Nat -> Bool) (f : Nat -> Nat) (S : SF) (W : World) : Prop :=
 ∃ b bt top a1 a2 a3 c1 c2 c3 a5 c5, S = ⟨A.l, n, A.lc, A.p, m.below.length, A.pc, A.r, m.roles.length, A.rc, A.f, m.fields.length, A.fc, some b, n, a1, n * n, c1, a2, n * n, c2, a3, n * n, c3, bt, top, a5, m.fields.length, c5⟩ /\ PMap W b (fNames m) /\ Bools W a1 (n * n) F /\ Plc W a5 (lsL f m.fields.length)
theorem bools_out {lo hi n : Nat} {F : Nat -> Bool} {a : Option Addr} {W W' : World} (h : Out lo hi W W') (hB : Bools W a n F) (hn : ∀ g i b, lo <= g -> g < hi -> W.cell? ⟨g, i, none⟩ ≠ some (.bool b)) : Bools W' a n F := fun k hk => by
 obtain ⟨b, o, e, hl, hc⟩ := hB k hk
 refine ⟨b, o, e, Nat.lt_of_lt_of_le hl h.size, ?_⟩
 have hg : ¬ (lo <= b /\ b < hi) := fun c => hn b (o + k) _ c.1 c.2 hc
 rw [<- hc]
 simp only [World.cell?, h.block b hl hg]
theorem pmap_out {lo hi : Nat} {l : List ByteArray} {b : Nat} {W W' : World} (h : Out lo hi W W') (hm : PMap W b l) (hn : ∀ g, lo <= g -> g < hi -> ∃ cs t f, W.heap[g]? = some (.cells cs t f)) : PMap W' b l := by
 have hlt := World.ownsMap.lt hm
 obtain ⟨es, clock, h1, F, hs, hD⟩ := hm
 have hg : ¬ (lo <= b /\ b < hi) := fun c => by
  obtain ⟨cs, t, f, e⟩ := hn b c.1 c.2
  rw [e] at h1
  cases h1
 exact ⟨es, clock, (h.block b hlt hg).trans h1, F, hs, hD⟩
theorem plc_out {lo hi base n c : Nat} {l : List Nat} {a : Option Addr} {W W' : World} (h : Out lo hi W W') (ho : W.ownsRow base 3 1 (.slice a n c) n (ui l)) (hb : hi <= base) : Plc W' a l := by
 have h9 := h.owns ho (fun q e => by have := (ho.lt q e).1; omega)
 obtain ⟨a', c', e, -, hp⟩ := plc_of_owns h9
 cases e
 exact hp
theorem nobool2 {W : World} {s : Nat} {t t' : TypeId} {cs cs' : List Value} (h : Blk W (s + 1) t cs) (h' : Blk W (s + 2) t' cs') (k : ∀ b, Value.bool b ∉ cs) (k' : ∀ b, Value.bool b ∉ cs') : ∀ g i b, s + 1 <= g -> g < s + 3 -> W.cell? ⟨g, i, none⟩ ≠ some (.bool b) := fun g i b h1 h2 e => by
 have : g = s + 1 ∨ g = s + 2 := by omega
 rcases this with rfl | rfl
 . rw [h.cell i] at e
   exact k b (List.mem_of_getElem? e)
 . rw [h'.cell i] at e
   exact k' b (List.mem_of_getElem? e)
theorem cells2 {W : World} {s : Nat} {t t' : TypeId} {cs cs' : List Value} (h : Blk W (s + 1) t cs) (h' : Blk W (s + 2) t' cs') : ∀ g, s + 1 <= g -> g < s + 3 -> ∃ cs t f, W.heap[g]? = some (.cells cs t f) := fun g h1 h2 => by
 have : g = s + 1 ∨ g = s + 2 := by omega
 rcases this with rfl | rfl
 . exact ⟨_, _, _, h⟩
 . exact ⟨_, _, _, h'⟩
set_option maxRecDepth 100000 in
set_option maxHeartbeats 4000000 in
theorem soundOf_v (m : Fm) (A : MA) (w : World) (hq : vfB m = false) (hf : FitM m) (hcap : Caps m A) (ha : MSl w m A) (ht : Tabs w) (hy : TyW w) (htb : Tab w) :
 Calls Tryz.prog 42 #[mV m A] w fun r w' => r = .returned (.tuple #[sfV sf0, dgV 20 0]) /\ Below w.heap.size w w' := by
 have HCw := h_ fun W (hs : MSl W m A) (ht : Tabs W) (hy : TyW W) => wiringOf_any m A W hf hcap hs ht hy
 obtain ⟨al, alc, ap, apc, ar, arc, af, afc, afa⟩ := A
 unfold mV at HCw ⊢
 unfold wV at HCw
 unfold sfV sf0
 dsimp only at HCw ⊢
 have HK := h_ (((Blk.new w 35 #[.slice al m.labels.length alc, .slice ap m.below.length apc, .slice ar m.roles.length arc, .slice af m.fields.length afc]).alloc (.cells #[.slice none 0 0, .slice none 0 0, .slice none 0 0, .slice none 0 0, .map none, .int .i64 0, .slice none 0 0, .slice none 0 0, .slice none 0 0, .int .i64 0, .int .i64 0, .slice none 0 0] 80)).alloc (.cells #[.int .i64 0, .int .i64 0] 43))
 have HQ := h_ ((Blk.new (w.alloc (.cells #[.slice al m.labels.length alc, .slice ap m.below.length apc, .slice ar m.roles.length arc, .slice af m.fields.length afc] 35)) 80 #[.slice none 0 0, .slice none 0 0, .slice none 0 0, .slice none 0 0, .map none, .int .i64 0, .slice none 0 0, .slice none 0 0, .slice none 0 0, .int .i64 0, .int .i64 0, .slice none 0 0]).alloc (.cells #[.int .i64 0, .int .i64 0] 43))
 have HR := h_ (Blk.new ((w.alloc (.cells #[.slice al m.labels.length alc, .slice ap m.below.length apc, .slice ar m.roles.length arc, .slice af m.fields.length afc] 35)).alloc (.cells #[.slice none 0 0, .slice none 0 0, .slice none 0 0, .slice none 0 0, .map none, .int .i64 0, .slice none 0 0, .slice none 0 0, .slice none 0 0, .int .i64 0, .int .i64 0, .slice none 0 0] 80)) 43 #[.int .i64 0, .int .i64 0])
 rw [World.size_alloc] at HQ
 rw [World.size_alloc, World.size_alloc] at HR
 have HB := h_ ((((Below.refl w.heap.size w).alloc (Nat.le_refl _) (.cells #[.slice al m.labels.length alc, .slice ap m.below.length apc, .slice ar m.roles.length arc, .slice af m.fields.length afc] 35)).alloc (by simp) (.cells #[.slice none 0 0, .slice none 0 0, .slice none 0 0, .slice none 0 0, .map none, .int .i64 0, .slice none 0 0, .slice none 0 0, .slice none 0 0, .int .i64 0, .int .i64 0, .slice none 0 0] 80)).alloc (by simp; omega) (.cells #[.int .i64 0, .int .i64 0] 43))
 obtain ⟨W0, hW0⟩ : ∃ W0, ((w.alloc (.cells #[.slice al m.labels.length alc, .slice ap m.below.length apc, .slice ar m.roles.length arc, .slice af m.fields.length afc] 35)).alloc (.cells #[.slice none 0 0, .slice none 0 0, .slice none 0 0, .slice none 0 0, .map none, .int .i64 0, .slice none 0 0, .slice none 0 0, .slice none 0 0, .int .i64 0, .int .i64 0, .slice none 0 0] 80)).alloc (.cells #[.int .i64 0, .int .i64 0] 43) = W0 := ⟨_, rfl⟩
 have hs0 : W0.heap.size = w.heap.size + 3 := by rw [<- hW0]; simp
 rw [hW0] at HK HQ HR HB
 have HS := h_ (ha.mono (u_ HB)); have HT := h_ (ht.mono (u_ HB)); have HY := h_ (hy.mono (u_ HB)); have HTb := h_ (htb.mono (u_ HB))
 clear ha ht hy hf hcap htb
 have HNo := h_ hq
 clear hq
 obtain ⟨y0, y1, y2, y3⟩ := quad (u_ HK)
 go_enter Tryz.func42, Tryz.ntmps42
 go_wp2_with fail
 try rw [hW0]
 refine (u_ HCw W0 (u_ HS) (u_ HT) (u_ HY)).mono ?_
 rintro r W1 ⟨h | h, hb⟩
 . obtain ⟨-, rfl⟩ := h
   replace HQ := mB HQ hb; replace HR := mB HR hb; replace HB := mT HB hb
   replace hb := (Below.refl W1.heap.size W1).alloc (Nat.le_refl _) (.cells #[.slice none 0 0, .slice none 0 0, .slice none 0 0, .slice none 0 0, .map none] 66)
   replace HQ := mB HQ hb; replace HR := mB HR hb; replace HB := mT HB hb
   clear hb hW0 y0 y1 y2 y3
   obtain ⟨⟨p0, p1, p2, p3, p4, p5, p6, p7, p8, p9, p10, p11⟩, ⟨e0, e1, e2, e3, e4, e5, e6, e7, e8, e9, e10, e11⟩⟩ := twelve (u_ HQ)
   obtain ⟨⟨r0, r1⟩, ⟨f0, f1⟩⟩ := two' (u_ HR)
   have HQ9 := h_ (((((((((((((((u_ HQ).set 0 (.slice none 0 0)).set 1 (.slice none 0 0)).set 2 (.slice none 0 0)).set 3 (.slice none 0 0)).set 4 (.map none)).set 5 (.int .i64 0)).set 6 (.slice none 0 0)).set 7 (.slice none 0 0)).set 8 (.slice none 0 0)).set 9 (.int .i64 0)).set 10 (.int .i64 0)).set 11 (.slice none 0 0)).other (a := ⟨w.heap.size + 2, 0, none⟩) (.int .i64 (20)) (by show _ ≠ w.heap.size + 2; omega)).other (a := ⟨w.heap.size + 2, 1, none⟩) (.int .i64 (0)) (by show _ ≠ w.heap.size + 2; omega))
   simp only [List.set_cons_zero, List.set_cons_succ] at HQ9
   have HR9 := h_ (((((((((((((((u_ HR).other (a := ⟨w.heap.size + 1, 0, none⟩) (.slice none 0 0) (by show _ ≠ w.heap.size + 1; omega)).other (a := ⟨w.heap.size + 1, 1, none⟩) (.slice none 0 0) (by show _ ≠ w.heap.size + 1; omega)).other (a := ⟨w.heap.size + 1, 2, none⟩) (.slice none 0 0) (by show _ ≠ w.heap.size + 1; omega)).other (a := ⟨w.heap.size + 1, 3, none⟩) (.slice none 0 0) (by show _ ≠ w.heap.size + 1; omega)).other (a := ⟨w.heap.size + 1, 4, none⟩) (.map none) (by show _ ≠ w.heap.size + 1; omega)).other (a := ⟨w.heap.size + 1, 5, none⟩) (.int .i64 0) (by show _ ≠ w.heap.size + 1; omega)).other (a := ⟨w.heap.size + 1, 6, none⟩) (.slice none 0 0) (by show _ ≠ w.heap.size + 1; omega)).other (a := ⟨w.heap.size + 1, 7, none⟩) (.slice none 0 0) (by show _ ≠ w.heap.size + 1; omega)).other (a := ⟨w.heap.size + 1, 8, none⟩) (.slice none 0 0) (by show _ ≠ w.heap.size + 1; omega)).other (a := ⟨w.heap.size + 1, 9, none⟩) (.int .i64 0) (by show _ ≠ w.heap.size + 1; omega)).other (a := ⟨w.heap.size + 1, 10, none⟩) (.int .i64 0) (by show _ ≠ w.heap.size + 1; omega)).other (a := ⟨w.heap.size + 1, 11, none⟩) (.slice none 0 0) (by show _ ≠ w.heap.size + 1; omega)).set 0 (.int .i64 (20))).set 1 (.int .i64 (0)))
   simp only [List.set_cons_zero, List.set_cons_succ] at HR9
   have HB9 := h_ (((below_set12 (u_ HB) (show w.heap.size <= w.heap.size + 1 by omega) (.slice none 0 0) (.slice none 0 0) (.slice none 0 0) (.slice none 0 0) (.map none) (.int .i64 0) (.slice none 0 0) (.slice none 0 0) (.slice none 0 0) (.int .i64 0) (.int .i64 0) (.slice none 0 0)).setCell (p := ⟨w.heap.size + 2, 0, none⟩) (by simp) (.int .i64 (20))).setCell (p := ⟨w.heap.size + 2, 1, none⟩) (by simp) (.int .i64 (0)))
   go_wp2_with fail
   obtain ⟨k0, k1⟩ := (two' (u_ HR9)).1
   obtain ⟨j0, j1, j2, j3, j4, j5, j6, j7, j8, j9, j10, j11⟩ := (twelve (u_ HQ9)).1
   exact bodyPost_ret (v := .tuple #[.agg #[.slice none 0 0, .slice none 0 0, .slice none 0 0, .slice none 0 0, .map none, .int .i64 0, .slice none 0 0, .slice none 0 0, .slice none 0 0, .int .i64 0, .int .i64 0, .slice none 0 0], dgV (20) (0)]) (by simp [results, Tryz.results42, go_sem, k0, k1, j0, j1, j2, j3, j4, j5, j6, j7, j8, j9, j10, j11]) rfl ⟨rfl, u_ HB9⟩
 . exact absurd (h.1.symm.trans (u_ HNo)) (by decide)
set_option maxRecDepth 100000 in
set_option maxHeartbeats 4000000 in
theorem soundOf_z (m : Fm) (A : MA) (w : World) (code : Int) (hq : vfB m = true) (hc : 1 <= code /\ code <= 4) (hz : ImplZ m.labels.length m.below.length (pr1 m) (pr2 m) code) (hf : FitM m) (hcap : Caps m A) (ha : MSl w m A) (ht : Tabs w) (hy : TyW w) (htb : Tab w) :
 Calls Tryz.prog 42 #[mV m A] w fun r w' => r = .returned (.tuple #[sfV sf0, dgV (10 + code) 0]) /\ Below w.heap.size w w' := by
 have HCw := h_ fun W (hs : MSl W m A) (ht : Tabs W) (hy : TyW W) => wiringOf_any m A W hf hcap hs ht hy
 have HCl := h_ fun W b (hs : MSl W m A) (ht : Tab W) => buildLattice_z m A b code W hz hf hs ht
 obtain ⟨al, alc, ap, apc, ar, arc, af, afc, afa⟩ := A
 unfold mV at HCw ⊢
 unfold wV at HCw HCl
 unfold zeroL at HCl
 unfold sfV sf0
 dsimp only at HCw HCl ⊢
 have HK := h_ (((Blk.new w 35 #[.slice al m.labels.length alc, .slice ap m.below.length apc, .slice ar m.roles.length arc, .slice af m.fields.length afc]).alloc (.cells #[.slice none 0 0, .slice none 0 0, .slice none 0 0, .slice none 0 0, .map none, .int .i64 0, .slice none 0 0, .slice none 0 0, .slice none 0 0, .int .i64 0, .int .i64 0, .slice none 0 0] 80)).alloc (.cells #[.int .i64 0, .int .i64 0] 43))
 have HQ := h_ ((Blk.new (w.alloc (.cells #[.slice al m.labels.length alc, .slice ap m.below.length apc, .slice ar m.roles.length arc, .slice af m.fields.length afc] 35)) 80 #[.slice none 0 0, .slice none 0 0, .slice none 0 0, .slice none 0 0, .map none, .int .i64 0, .slice none 0 0, .slice none 0 0, .slice none 0 0, .int .i64 0, .int .i64 0, .slice none 0 0]).alloc (.cells #[.int .i64 0, .int .i64 0] 43))
 have HR := h_ (Blk.new ((w.alloc (.cells #[.slice al m.labels.length alc, .slice ap m.below.length apc, .slice ar m.roles.length arc, .slice af m.fields.length afc] 35)).alloc (.cells #[.slice none 0 0, .slice none 0 0, .slice none 0 0, .slice none 0 0, .map none, .int .i64 0, .slice none 0 0, .slice none 0 0, .slice none 0 0, .int .i64 0, .int .i64 0, .slice none 0 0] 80)) 43 #[.int .i64 0, .int .i64 0])
 rw [World.size_alloc] at HQ
 rw [World.size_alloc, World.size_alloc] at HR
 have HB := h_ ((((Below.refl w.heap.size w).alloc (Nat.le_refl _) (.cells #[.slice al m.labels.length alc, .slice ap m.below.length apc, .slice ar m.roles.length arc, .slice af m.fields.length afc] 35)).alloc (by simp) (.cells #[.slice none 0 0, .slice none 0 0, .slice none 0 0, .slice none 0 0, .map none, .int .i64 0, .slice none 0 0, .slice none 0 0, .slice none 0 0, .int .i64 0, .int .i64 0, .slice none 0 0] 80)).alloc (by simp; omega) (.cells #[.int .i64 0, .int .i64 0] 43))
 obtain ⟨W0, hW0⟩ : ∃ W0, ((w.alloc (.cells #[.slice al m.labels.length alc, .slice ap m.below.length apc, .slice ar m.roles.length arc, .slice af m.fields.length afc] 35)).alloc (.cells #[.slice none 0 0, .slice none 0 0, .slice none 0 0, .slice none 0 0, .map none, .int .i64 0, .slice none 0 0, .slice none 0 0, .slice none 0 0, .int .i64 0, .int .i64 0, .slice none 0 0] 80)).alloc (.cells #[.int .i64 0, .int .i64 0] 43) = W0 := ⟨_, rfl⟩
 have hs0 : W0.heap.size = w.heap.size + 3 := by rw [<- hW0]; simp
 rw [hW0] at HK HQ HR HB
 have HS := h_ (ha.mono (u_ HB)); have HT := h_ (ht.mono (u_ HB)); have HY := h_ (hy.mono (u_ HB)); have HTb := h_ (htb.mono (u_ HB))
 clear ha ht hy hf hcap htb hz
 have HNo := h_ hq
 clear hq
 obtain ⟨y0, y1, y2, y3⟩ := quad (u_ HK)
 go_enter Tryz.func42, Tryz.ntmps42
 go_wp2_with fail
 try rw [hW0]
 refine (u_ HCw W0 (u_ HS) (u_ HT) (u_ HY)).mono ?_
 rintro r W1 ⟨h | h, hb⟩
 . exact absurd (h.1.symm.trans (u_ HNo)) (by decide)
 . obtain ⟨-, b, rfl, -⟩ := h
   replace HQ := mB HQ hb; replace HR := mB HR hb; replace HB := mT HB hb; replace HS := h_ ((u_ HS).mono hb); replace HTb := h_ ((u_ HTb).mono hb)
   clear hb hW0 y0 y1 y2 y3 HT HY HCw
   have HW := h_ (Blk.new W1 66 #[.slice al m.labels.length alc, .slice ap m.below.length apc, .slice ar m.roles.length arc, .slice af m.fields.length afc, .map (some b)])
   have hb := (Below.refl W1.heap.size W1).alloc (Nat.le_refl _) (.cells #[.slice al m.labels.length alc, .slice ap m.below.length apc, .slice ar m.roles.length arc, .slice af m.fields.length afc, .map (some b)] 66)
   replace HQ := mB HQ hb; replace HR := mB HR hb; replace HB := mT HB hb; replace HS := h_ ((u_ HS).mono hb); replace HTb := h_ ((u_ HTb).mono hb)
   obtain ⟨W2, hW2⟩ : ∃ W2, W1.alloc (.cells #[.slice al m.labels.length alc, .slice ap m.below.length apc, .slice ar m.roles.length arc, .slice af m.fields.length afc, .map (some b)] 66) = W2 := ⟨_, rfl⟩
   obtain ⟨X, hX⟩ : ∃ X, W1.heap.size = X := ⟨_, rfl⟩
   rw [hW2] at HW HQ HR HB HS HTb
   rw [hX] at HW
   clear hb
   obtain ⟨z0, z1, z2, z3, z4⟩ := five (u_ HW)
   go_wp2_with fail
   try rw [hW2]
   refine (u_ HCl W2 b (u_ HS) (u_ HTb)).mono ?_
   rintro r W3 ⟨rfl, hb⟩
   replace HQ := mB HQ hb; replace HR := mB HR hb; replace HB := mT HB hb
   replace hb := (Below.refl W3.heap.size W3).alloc (Nat.le_refl _) (.cells #[.int .i64 0, .slice none 0 0, .slice none 0 0, .slice none 0 0, .int .i64 0, .int .i64 0] 53)
   replace HQ := mB HQ hb; replace HR := mB HR hb; replace HB := mT HB hb
   obtain ⟨hc1, hc2⟩ := hc
   have hc3 : (code != 0) = true := by have : code ≠ 0 := by omega
                                       simpa using this
   clear hb hW2 z0 z1 z2 z3 z4 hX
   obtain ⟨⟨p0, p1, p2, p3, p4, p5, p6, p7, p8, p9, p10, p11⟩, ⟨e0, e1, e2, e3, e4, e5, e6, e7, e8, e9, e10, e11⟩⟩ := twelve (u_ HQ)
   obtain ⟨⟨r0, r1⟩, ⟨f0, f1⟩⟩ := two' (u_ HR)
   have HQ9 := h_ (((((((((((((((u_ HQ).set 0 (.slice none 0 0)).set 1 (.slice none 0 0)).set 2 (.slice none 0 0)).set 3 (.slice none 0 0)).set 4 (.map none)).set 5 (.int .i64 0)).set 6 (.slice none 0 0)).set 7 (.slice none 0 0)).set 8 (.slice none 0 0)).set 9 (.int .i64 0)).set 10 (.int .i64 0)).set 11 (.slice none 0 0)).other (a := ⟨w.heap.size + 2, 0, none⟩) (.int .i64 (10 + code)) (by show _ ≠ w.heap.size + 2; omega)).other (a := ⟨w.heap.size + 2, 1, none⟩) (.int .i64 (0)) (by show _ ≠ w.heap.size + 2; omega))
   simp only [List.set_cons_zero, List.set_cons_succ] at HQ9
   have HR9 := h_ (((((((((((((((u_ HR).other (a := ⟨w.heap.size + 1, 0, none⟩) (.slice none 0 0) (by show _ ≠ w.heap.size + 1; omega)).other (a := ⟨w.heap.size + 1, 1, none⟩) (.slice none 0 0) (by show _ ≠ w.heap.size + 1; omega)).other (a := ⟨w.heap.size + 1, 2, none⟩) (.slice none 0 0) (by show _ ≠ w.heap.size + 1; omega)).other (a := ⟨w.heap.size + 1, 3, none⟩) (.slice none 0 0) (by show _ ≠ w.heap.size + 1; omega)).other (a := ⟨w.heap.size + 1, 4, none⟩) (.map none) (by show _ ≠ w.heap.size + 1; omega)).other (a := ⟨w.heap.size + 1, 5, none⟩) (.int .i64 0) (by show _ ≠ w.heap.size + 1; omega)).other (a := ⟨w.heap.size + 1, 6, none⟩) (.slice none 0 0) (by show _ ≠ w.heap.size + 1; omega)).other (a := ⟨w.heap.size + 1, 7, none⟩) (.slice none 0 0) (by show _ ≠ w.heap.size + 1; omega)).other (a := ⟨w.heap.size + 1, 8, none⟩) (.slice none 0 0) (by show _ ≠ w.heap.size + 1; omega)).other (a := ⟨w.heap.size + 1, 9, none⟩) (.int .i64 0) (by show _ ≠ w.heap.size + 1; omega)).other (a := ⟨w.heap.size + 1, 10, none⟩) (.int .i64 0) (by show _ ≠ w.heap.size + 1; omega)).other (a := ⟨w.heap.size + 1, 11, none⟩) (.slice none 0 0) (by show _ ≠ w.heap.size + 1; omega)).set 0 (.int .i64 (10 + code))).set 1 (.int .i64 (0)))
   simp only [List.set_cons_zero, List.set_cons_succ] at HR9
   have HB9 := h_ (((below_set12 (u_ HB) (show w.heap.size <= w.heap.size + 1 by omega) (.slice none 0 0) (.slice none 0 0) (.slice none 0 0) (.slice none 0 0) (.map none) (.int .i64 0) (.slice none 0 0) (.slice none 0 0) (.slice none 0 0) (.int .i64 0) (.int .i64 0) (.slice none 0 0)).setCell (p := ⟨w.heap.size + 2, 0, none⟩) (by simp) (.int .i64 (10 + code))).setCell (p := ⟨w.heap.size + 2, 1, none⟩) (by simp) (.int .i64 (0)))
   go_wp2_with fail
   obtain ⟨k0, k1⟩ := (two' (u_ HR9)).1
   obtain ⟨j0, j1, j2, j3, j4, j5, j6, j7, j8, j9, j10, j11⟩ := (twelve (u_ HQ9)).1
   exact bodyPost_ret (v := .tuple #[.agg #[.slice none 0 0, .slice none 0 0, .slice none 0 0, .slice none 0 0, .map none, .int .i64 0, .slice none 0 0, .slice none 0 0, .slice none 0 0, .int .i64 0, .int .i64 0, .slice none 0 0], dgV (10 + code) (0)]) (by simp [results, Tryz.results42, go_sem, k0, k1, j0, j1, j2, j3, j4, j5, j6, j7, j8, j9, j10, j11]) rfl ⟨rfl, u_ HB9⟩
end Go.Proofs.YtalgidagiojbpaaGreatDoor
/- soundOf of the program, where the form is valid and has a lattice. -/
namespace Go.Proofs.YtalgidagiojbpaaGreatDoor
open Go Go.RowKit
theorem Blk.row {w : World} {g : Nat} {t : TypeId} {cs : List Value} (h : Blk w g t cs) (cells : List Value) : Blk (w.setRow g cells.toArray) g t cells := setRow_heap w g cs.toArray cells.toArray t (0, 0) h
theorem Blk.row_other {w : World} {g g' : Nat} {t : TypeId} {cs : List Value} (h : Blk w g' t cs) (hne : g' ≠ g) (cells : Array Value) : Blk (w.setRow g cells) g' t cs := (setRow_other w g g' cells hne).trans h
theorem out_row {lo hi g : Nat} (W : World) (cells : Array Value) (h1 : lo <= g) (h2 : g < hi) : Out lo hi W (W.setRow g cells) := ⟨rfl, rfl, rfl, by simp [World.setRow], fun b _ hn => setRow_other W g b cells (fun e => hn (by omega))⟩
theorem wpList_snd {ops : Array Oper} {rest : List Oper} {o : Oper} {a : Act} {w : World} {Q : Exit -> Act -> World -> Prop} (hg : o.guard = none) (parts : Array (Nat × Operand)) (ho : o.op = .build 80 parts) (cells : Array Value)
 (hc : Tryz.prog.built 80 (parts.map fun (i, x) => (i, a.eval x)).toList = some cells) (h : wpList Tryz.prog ops Q rest (a.put o.dst (.agg cells)) w) : wpList Tryz.prog ops Q (o :: rest) a w :=
 wpList_build hg 80 parts ho (by rw [hc]; rfl) (by rw [hc]; exact h)
set_option maxRecDepth 100000 in
set_option maxHeartbeats 8000000 in
theorem soundOf_f (m : Fm) (A : MA) (w : World) (bot top : Int) (s n bt tp : Nat) (F : Nat -> Bool) (J M : Nat -> Int) (hq : vfB m = true) (hv : VfA m) (hz : ImplF m.labels.length m.below.length (pr1 m) (pr2 m) s F J M bot top) (hL : ValidP m.labels.length s s s F J M bot top n bt tp) (hf : FitM m) (hcap : Caps m A) (ha : MSl w m A) (ht : Tabs w) (hy : TyW w) (htb : Tab w) :
 Calls Tryz.prog 42 #[mV m A] w fun r w' => ∃ S c a, r = .returned (.tuple #[sfV S, dgV c a]) /\ ChkF m n F c a /\ (c = 0 -> ∃ f, Sol m n (fun a b => F (a * n + b) = true) f /\ Low m n (fun a b => F (a * n + b) = true) f /\ SndW m A n F f S w') /\ Below w.heap.size w w' := by
 have hN : m.labels.length = n := by have := hL.hN; omega
 have HCw := h_ fun W (hs : MSl W m A) (ht : Tabs W) (hy : TyW W) => wiringOf_any m A W hf hcap hs ht hy
 have HCl := h_ fun W b (hs : MSl W m A) (ht : Tab W) => buildLattice_f m A b s F J M bot top W hz hf hs ht
 have HCc := h_ fun W b (hs : MSl W m A) (hm : PMap W b (fNames m)) => firstOnCycle_any m A b W hv hf hs hm
 have HCs := h_ fun W (z : Int) (h0 : 0 <= z) (h1 : z < m.fields.length) => statementIndex_any m A z W hv h0 h1
 have HCi := h_ fun W b (a1 a2 a3 : Option Addr) (c1 c2 c3 : Nat) (hs : MSl W m A) (hm : PMap W b (fNames m)) (hI : Ints W a2 (n * n) J) => inferLabels_any m A b n bt (fun a b => F (a * n + b)) _ J a1 a2 a3 c1 c2 c3 top W hv hf (latP_of hL) hN hL.h32 (fun a b ha hb => join_nat hL ha hb) hs hm hI
 have HCt := h_ fun W b c5 base f (a1 a2 a3 a5 : Option Addr) (c1 c2 c3 : Nat) (hsol : Sol m n (fun a b => F (a * n + b) = true) f) (hs : MSl W m A) (hm : PMap W b (fNames m)) (hO : Bools W a1 (n * n) F) (hI : Ints W a2 (n * n) J) hR => firstTooLow_any m A b n bt c5 base f F _ J a1 a2 a3 a5 c1 c2 c3 top W hv hf (latP_of hL) hL.h32 (fun a b ha hb => join_nat hL ha hb) hsol hs hm hO hI hR
 have HDw := h_ fun f (hsol : Sol m n (fun a b => F (a * n + b) = true) f) k (hk : k < m.fields.length) => down_iff hv (latP_of hL) hsol.lt (k := k) hk
 have e1 := hL.l1
 have e2 := hL.hb
 subst e1
 subst e2
 have hfr : frst m <= 400 /\ 0 <= frst m := by have g1 := hv.nl; have g2 := hv.np; have g3 := hv.nr; unfold frst; omega
 obtain ⟨hfr1, hfr2⟩ := hfr
 have hnf := hv.nf
 obtain ⟨al, alc, ap, apc, ar, arc, af, afc, afa⟩ := A
 unfold mV at HCw HCs ⊢
 unfold wV at HCw HCl HCc HCi HCt
 unfold latV at HCl
 rw [hN] at HCw HCl HCc HCs HCi HCt
 try rw [hN]
 dsimp only at HCw HCl HCc HCs HCi HCt ⊢
 have HK := h_ (((Blk.new w 35 #[.slice al n alc, .slice ap m.below.length apc, .slice ar m.roles.length arc, .slice af m.fields.length afc]).alloc (.cells #[.slice none 0 0, .slice none 0 0, .slice none 0 0, .slice none 0 0, .map none, .int .i64 0, .slice none 0 0, .slice none 0 0, .slice none 0 0, .int .i64 0, .int .i64 0, .slice none 0 0] 80)).alloc (.cells #[.int .i64 0, .int .i64 0] 43))
 have HQ := h_ ((Blk.new (w.alloc (.cells #[.slice al n alc, .slice ap m.below.length apc, .slice ar m.roles.length arc, .slice af m.fields.length afc] 35)) 80 #[.slice none 0 0, .slice none 0 0, .slice none 0 0, .slice none 0 0, .map none, .int .i64 0, .slice none 0 0, .slice none 0 0, .slice none 0 0, .int .i64 0, .int .i64 0, .slice none 0 0]).alloc (.cells #[.int .i64 0, .int .i64 0] 43))
 have HR := h_ (Blk.new ((w.alloc (.cells #[.slice al n alc, .slice ap m.below.length apc, .slice ar m.roles.length arc, .slice af m.fields.length afc] 35)).alloc (.cells #[.slice none 0 0, .slice none 0 0, .slice none 0 0, .slice none 0 0, .map none, .int .i64 0, .slice none 0 0, .slice none 0 0, .slice none 0 0, .int .i64 0, .int .i64 0, .slice none 0 0] 80)) 43 #[.int .i64 0, .int .i64 0])
 rw [World.size_alloc] at HQ
 rw [World.size_alloc, World.size_alloc] at HR
 have HB := h_ ((((Below.refl w.heap.size w).alloc (Nat.le_refl _) (.cells #[.slice al n alc, .slice ap m.below.length apc, .slice ar m.roles.length arc, .slice af m.fields.length afc] 35)).alloc (by simp) (.cells #[.slice none 0 0, .slice none 0 0, .slice none 0 0, .slice none 0 0, .map none, .int .i64 0, .slice none 0 0, .slice none 0 0, .slice none 0 0, .int .i64 0, .int .i64 0, .slice none 0 0] 80)).alloc (by simp; omega) (.cells #[.int .i64 0, .int .i64 0] 43))
 obtain ⟨W0, hW0⟩ : ∃ W0, ((w.alloc (.cells #[.slice al n alc, .slice ap m.below.length apc, .slice ar m.roles.length arc, .slice af m.fields.length afc] 35)).alloc (.cells #[.slice none 0 0, .slice none 0 0, .slice none 0 0, .slice none 0 0, .map none, .int .i64 0, .slice none 0 0, .slice none 0 0, .slice none 0 0, .int .i64 0, .int .i64 0, .slice none 0 0] 80)).alloc (.cells #[.int .i64 0, .int .i64 0] 43) = W0 := ⟨_, rfl⟩
 have hs0 : W0.heap.size = w.heap.size + 3 := by rw [<- hW0]; simp
 rw [hW0] at HK HQ HR HB
 have HS := h_ (ha.mono (u_ HB)); have HT := h_ (ht.mono (u_ HB)); have HY := h_ (hy.mono (u_ HB)); have HTb := h_ (htb.mono (u_ HB))
 clear ha ht hy hf hcap htb hz hL hv hN
 have HNo := h_ hq
 clear hq
 obtain ⟨y0, y1, y2, y3⟩ := quad (u_ HK)
 go_enter Tryz.func42, Tryz.ntmps42
 go_wp2_with fail
 try rw [hW0]
 refine (u_ HCw W0 (u_ HS) (u_ HT) (u_ HY)).mono ?_
 rintro r W1 ⟨h | h, hb⟩
 . exact absurd (h.1.symm.trans (u_ HNo)) (by decide)
 . obtain ⟨-, b, rfl, hm⟩ := h
   have HM := h_ hm
   replace HK := mB HK hb; replace HQ := mB HQ hb; replace HR := mB HR hb; replace HB := mT HB hb; replace HS := h_ ((u_ HS).mono hb); replace HTb := h_ ((u_ HTb).mono hb)
   clear hb hW0 y0 y1 y2 y3 HT HY HCw hm
   have HW := h_ (Blk.new W1 66 #[.slice al n alc, .slice ap m.below.length apc, .slice ar m.roles.length arc, .slice af m.fields.length afc, .map (some b)])
   have hb := (Below.refl W1.heap.size W1).alloc (Nat.le_refl _) (.cells #[.slice al n alc, .slice ap m.below.length apc, .slice ar m.roles.length arc, .slice af m.fields.length afc, .map (some b)] 66)
   replace HK := mB HK hb; replace HQ := mB HQ hb; replace HR := mB HR hb; replace HB := mT HB hb; replace HS := h_ ((u_ HS).mono hb); replace HTb := h_ ((u_ HTb).mono hb); replace HM := h_ ((u_ HM).mono hb)
   obtain ⟨W2, hW2⟩ : ∃ W2, W1.alloc (.cells #[.slice al n alc, .slice ap m.below.length apc, .slice ar m.roles.length arc, .slice af m.fields.length afc, .map (some b)] 66) = W2 := ⟨_, rfl⟩
   obtain ⟨X, hX⟩ : ∃ X, W1.heap.size = X := ⟨_, rfl⟩
   rw [hW2] at HK HW HQ HR HB HS HTb HM
   rw [hX] at HW
   clear hb
   obtain ⟨z0, z1, z2, z3, z4⟩ := five (u_ HW)
   have HC2 := h_ (u_ HCl W2 b (u_ HS) (u_ HTb))
   go_wp2_with fail
   try rw [hX]
   try rw [hW2]
   refine (u_ HC2).mono ?_
   rintro r W3 ⟨a1, a2, a3, c1, c2, c3, rfl, ho, hj, hb⟩
   have HO := h_ ho; have HJ := h_ hj
   replace HK := mB HK hb; replace HQ := mB HQ hb; replace HR := mB HR hb; replace HB := mT HB hb; replace HS := h_ ((u_ HS).mono hb); replace HTb := h_ ((u_ HTb).mono hb); replace HM := h_ ((u_ HM).mono hb); replace HW := mB HW hb
   clear hb hW2 z0 z1 z2 z3 z4 ho hj HC2 HCl hX
   have HX := h_ (Blk.new W3 53 #[.int .i64 n, .slice a1 (n * n) c1, .slice a2 (n * n) c2, .slice a3 (n * n) c3, .int .i64 (bt : Int), .int .i64 top])
   have hb := (Below.refl W3.heap.size W3).alloc (Nat.le_refl _) (.cells #[.int .i64 n, .slice a1 (n * n) c1, .slice a2 (n * n) c2, .slice a3 (n * n) c3, .int .i64 (bt : Int), .int .i64 top] 53)
   replace HK := mB HK hb; replace HQ := mB HQ hb; replace HR := mB HR hb; replace HB := mT HB hb; replace HS := h_ ((u_ HS).mono hb); replace HTb := h_ ((u_ HTb).mono hb); replace HM := h_ ((u_ HM).mono hb); replace HW := mB HW hb; replace HO := h_ ((u_ HO).mono hb); replace HJ := h_ ((u_ HJ).mono hb)
   obtain ⟨W4, hW4⟩ : ∃ W4, W3.alloc (.cells #[.int .i64 n, .slice a1 (n * n) c1, .slice a2 (n * n) c2, .slice a3 (n * n) c3, .int .i64 (bt : Int), .int .i64 top] 53) = W4 := ⟨_, rfl⟩
   obtain ⟨Y, hY⟩ : ∃ Y, W3.heap.size = Y := ⟨_, rfl⟩
   rw [hW4] at HK HW HQ HR HB HS HTb HM HO HJ HX
   rw [hY] at HX
   clear hb
   obtain ⟨z0, z1, z2, z3, z4⟩ := five (u_ HW)
   have HC3 := h_ (u_ HCc W4 b (u_ HS) (u_ HM))
   go_wp2_with fail
   try rw [hY]
   try rw [hW4]
   refine (u_ HC3).mono ?_
   rintro r W5 ⟨z, rfl, hz1, hb⟩
   have HZ1 := h_ hz1
   obtain ⟨hzl, hzu⟩ := hz1.bounds
   replace HK := mB HK hb; replace HQ := mB HQ hb; replace HR := mB HR hb; replace HB := mT HB hb; replace HS := h_ ((u_ HS).mono hb); replace HTb := h_ ((u_ HTb).mono hb); replace HM := h_ ((u_ HM).mono hb); replace HW := mB HW hb; replace HO := h_ ((u_ HO).mono hb); replace HJ := h_ ((u_ HJ).mono hb); replace HX := mB HX hb
   clear hb hW4 z0 z1 z2 z3 z4 HC3 HCc hY hz1
   by_cases hz0 : 0 <= z
   . have HF : Hid (ChkF m n F 15 (frst m + z)) := h_ (.inl ⟨z, hz0, u_ HZ1, rfl, rfl⟩)
     have HC4 := h_ (u_ HCs W5 z hz0 hzu)
     obtain ⟨y0, y1, y2, y3⟩ := quad (u_ HK)
     go_wp2_with fail
     refine (u_ HC4).mono ?_
     rintro r W6 ⟨rfl, hb⟩
     replace HQ := mB HQ hb; replace HR := mB HR hb; replace HB := mT HB hb
     clear hb y0 y1 y2 y3 HC4
     obtain ⟨⟨p0, p1, p2, p3, p4, p5, p6, p7, p8, p9, p10, p11⟩, ⟨e0, e1, e2, e3, e4, e5, e6, e7, e8, e9, e10, e11⟩⟩ := twelve (u_ HQ)
     obtain ⟨⟨r0, r1⟩, ⟨f0, f1⟩⟩ := two' (u_ HR)
     have HQ9 := h_ (((((((((((((((u_ HQ).set 0 (.slice none 0 0)).set 1 (.slice none 0 0)).set 2 (.slice none 0 0)).set 3 (.slice none 0 0)).set 4 (.map none)).set 5 (.int .i64 0)).set 6 (.slice none 0 0)).set 7 (.slice none 0 0)).set 8 (.slice none 0 0)).set 9 (.int .i64 0)).set 10 (.int .i64 0)).set 11 (.slice none 0 0)).other (a := ⟨w.heap.size + 2, 0, none⟩) (.int .i64 (15)) (by show _ ≠ w.heap.size + 2; omega)).other (a := ⟨w.heap.size + 2, 1, none⟩) (.int .i64 (frst m + z)) (by show _ ≠ w.heap.size + 2; omega))
     simp only [List.set_cons_zero, List.set_cons_succ] at HQ9
     have HR9 := h_ (((((((((((((((u_ HR).other (a := ⟨w.heap.size + 1, 0, none⟩) (.slice none 0 0) (by show _ ≠ w.heap.size + 1; omega)).other (a := ⟨w.heap.size + 1, 1, none⟩) (.slice none 0 0) (by show _ ≠ w.heap.size + 1; omega)).other (a := ⟨w.heap.size + 1, 2, none⟩) (.slice none 0 0) (by show _ ≠ w.heap.size + 1; omega)).other (a := ⟨w.heap.size + 1, 3, none⟩) (.slice none 0 0) (by show _ ≠ w.heap.size + 1; omega)).other (a := ⟨w.heap.size + 1, 4, none⟩) (.map none) (by show _ ≠ w.heap.size + 1; omega)).other (a := ⟨w.heap.size + 1, 5, none⟩) (.int .i64 0) (by show _ ≠ w.heap.size + 1; omega)).other (a := ⟨w.heap.size + 1, 6, none⟩) (.slice none 0 0) (by show _ ≠ w.heap.size + 1; omega)).other (a := ⟨w.heap.size + 1, 7, none⟩) (.slice none 0 0) (by show _ ≠ w.heap.size + 1; omega)).other (a := ⟨w.heap.size + 1, 8, none⟩) (.slice none 0 0) (by show _ ≠ w.heap.size + 1; omega)).other (a := ⟨w.heap.size + 1, 9, none⟩) (.int .i64 0) (by show _ ≠ w.heap.size + 1; omega)).other (a := ⟨w.heap.size + 1, 10, none⟩) (.int .i64 0) (by show _ ≠ w.heap.size + 1; omega)).other (a := ⟨w.heap.size + 1, 11, none⟩) (.slice none 0 0) (by show _ ≠ w.heap.size + 1; omega)).set 0 (.int .i64 (15))).set 1 (.int .i64 (frst m + z)))
     simp only [List.set_cons_zero, List.set_cons_succ] at HR9
     have HB9 := h_ (((below_set12 (u_ HB) (show w.heap.size <= w.heap.size + 1 by omega) (.slice none 0 0) (.slice none 0 0) (.slice none 0 0) (.slice none 0 0) (.map none) (.int .i64 0) (.slice none 0 0) (.slice none 0 0) (.slice none 0 0) (.int .i64 0) (.int .i64 0) (.slice none 0 0)).setCell (p := ⟨w.heap.size + 2, 0, none⟩) (by simp) (.int .i64 (15))).setCell (p := ⟨w.heap.size + 2, 1, none⟩) (by simp) (.int .i64 (frst m + z)))
     go_wp2_with fail
     obtain ⟨k0, k1⟩ := (two' (u_ HR9)).1
     obtain ⟨j0, j1, j2, j3, j4, j5, j6, j7, j8, j9, j10, j11⟩ := (twelve (u_ HQ9)).1
     exact bodyPost_ret (v := .tuple #[.agg #[.slice none 0 0, .slice none 0 0, .slice none 0 0, .slice none 0 0, .map none, .int .i64 0, .slice none 0 0, .slice none 0 0, .slice none 0 0, .int .i64 0, .int .i64 0, .slice none 0 0], dgV (15) (frst m + z)]) (by simp [results, Tryz.results42, go_sem, k0, k1, j0, j1, j2, j3, j4, j5, j6, j7, j8, j9, j10, j11]) rfl ⟨sf0, _, _, rfl, u_ HF, fun h => absurd h (by decide), u_ HB9⟩
   . have HZ2 : Hid (Fst (fun k => Rch m k k) m.fields.length (-1)) := h_ (by rw [<- show z = -1 by omega]; exact u_ HZ1)
     obtain ⟨z0, z1, z2, z3, z4⟩ := five (u_ HW)
     obtain ⟨x0, x1, x2, x3, x4, x5⟩ := (six' (u_ HX)).1
     have HS5 : Hid (w.heap.size + 3 <= W5.heap.size) := h_ (by have := (u_ HR).lt; omega)
     have HC4 := h_ (u_ HCi W5 b a1 a2 a3 c1 c2 c3 (u_ HS) (u_ HM) (u_ HJ))
     go_wp2_with fail
     refine (u_ HC4).mono ?_
     rintro r W6 ⟨v, f, rfl, hlb, s1, s2, hb⟩
     obtain ⟨a5, c5, e5⟩ := row_slice hlb
     rw [e5] at hlb
     subst e5
     have HLb := h_ hlb; have S1 := h_ s1; have S2 := h_ s2
     replace HK := mB HK hb; replace HQ := mB HQ hb; replace HR := mB HR hb; replace HB := mT HB hb; replace HS := h_ ((u_ HS).mono hb); replace HTb := h_ ((u_ HTb).mono hb); replace HM := h_ ((u_ HM).mono hb); replace HW := mB HW hb; replace HO := h_ ((u_ HO).mono hb); replace HJ := h_ ((u_ HJ).mono hb); replace HX := mB HX hb
     clear hb hlb s1 s2 z0 z1 z2 z3 z4 x0 x1 x2 x3 x4 x5 HC4 HCi
     obtain ⟨z0, z1, z2, z3, z4⟩ := five (u_ HW)
     obtain ⟨x0, x1, x2, x3, x4, x5⟩ := (six' (u_ HX)).1
     have HC5 := h_ (u_ HCt W6 b c5 _ f a1 a2 a3 a5 c1 c2 c3 (u_ S1) (u_ HS) (u_ HM) (u_ HO) (u_ HJ) (u_ HLb))
     go_wp2_with fail
     refine (u_ HC5).mono ?_
     rintro r W7 ⟨y, rfl, hy1, hb⟩
     have HY1 : Hid (Fst (DownS m n F f) m.fields.length y) := h_ (hy1.iff (u_ HDw f (u_ S1)))
     obtain ⟨hyl, hyu⟩ := hy1.bounds
     replace HK := mB HK hb; replace HQ := mB HQ hb; replace HR := mB HR hb; replace HB := mT HB hb; replace HS := h_ ((u_ HS).mono hb); replace HTb := h_ ((u_ HTb).mono hb); replace HM := h_ ((u_ HM).mono hb); replace HW := mB HW hb; replace HO := h_ ((u_ HO).mono hb); replace HJ := h_ ((u_ HJ).mono hb); replace HX := mB HX hb; replace HLb := h_ (owns_kept (u_ HLb) hb)
     clear hb hy1 z0 z1 z2 z3 z4 x0 x1 x2 x3 x4 x5 HC5 HCt
     by_cases hy0 : 0 <= y
     . have HF : Hid (ChkF m n F 16 (frst m + y)) := h_ (.inr ⟨u_ HZ2, f, y, u_ S1, u_ S2, u_ HY1, .inl ⟨hy0, rfl, rfl⟩⟩)
       have HC6 := h_ (u_ HCs W7 y hy0 hyu)
       obtain ⟨y0, y1, y2, y3⟩ := quad (u_ HK)
       go_wp2_with fail
       refine (u_ HC6).mono ?_
       rintro r W8 ⟨rfl, hb⟩
       replace HQ := mB HQ hb; replace HR := mB HR hb; replace HB := mT HB hb
       clear hb y0 y1 y2 y3 HC6
       obtain ⟨⟨p0, p1, p2, p3, p4, p5, p6, p7, p8, p9, p10, p11⟩, ⟨e0, e1, e2, e3, e4, e5, e6, e7, e8, e9, e10, e11⟩⟩ := twelve (u_ HQ)
       obtain ⟨⟨r0, r1⟩, ⟨f0, f1⟩⟩ := two' (u_ HR)
       have HQ9 := h_ (((((((((((((((u_ HQ).set 0 (.slice none 0 0)).set 1 (.slice none 0 0)).set 2 (.slice none 0 0)).set 3 (.slice none 0 0)).set 4 (.map none)).set 5 (.int .i64 0)).set 6 (.slice none 0 0)).set 7 (.slice none 0 0)).set 8 (.slice none 0 0)).set 9 (.int .i64 0)).set 10 (.int .i64 0)).set 11 (.slice none 0 0)).other (a := ⟨w.heap.size + 2, 0, none⟩) (.int .i64 (16)) (by show _ ≠ w.heap.size + 2; omega)).other (a := ⟨w.heap.size + 2, 1, none⟩) (.int .i64 (frst m + y)) (by show _ ≠ w.heap.size + 2; omega))
       simp only [List.set_cons_zero, List.set_cons_succ] at HQ9
       have HR9 := h_ (((((((((((((((u_ HR).other (a := ⟨w.heap.size + 1, 0, none⟩) (.slice none 0 0) (by show _ ≠ w.heap.size + 1; omega)).other (a := ⟨w.heap.size + 1, 1, none⟩) (.slice none 0 0) (by show _ ≠ w.heap.size + 1; omega)).other (a := ⟨w.heap.size + 1, 2, none⟩) (.slice none 0 0) (by show _ ≠ w.heap.size + 1; omega)).other (a := ⟨w.heap.size + 1, 3, none⟩) (.slice none 0 0) (by show _ ≠ w.heap.size + 1; omega)).other (a := ⟨w.heap.size + 1, 4, none⟩) (.map none) (by show _ ≠ w.heap.size + 1; omega)).other (a := ⟨w.heap.size + 1, 5, none⟩) (.int .i64 0) (by show _ ≠ w.heap.size + 1; omega)).other (a := ⟨w.heap.size + 1, 6, none⟩) (.slice none 0 0) (by show _ ≠ w.heap.size + 1; omega)).other (a := ⟨w.heap.size + 1, 7, none⟩) (.slice none 0 0) (by show _ ≠ w.heap.size + 1; omega)).other (a := ⟨w.heap.size + 1, 8, none⟩) (.slice none 0 0) (by show _ ≠ w.heap.size + 1; omega)).other (a := ⟨w.heap.size + 1, 9, none⟩) (.int .i64 0) (by show _ ≠ w.heap.size + 1; omega)).other (a := ⟨w.heap.size + 1, 10, none⟩) (.int .i64 0) (by show _ ≠ w.heap.size + 1; omega)).other (a := ⟨w.heap.size + 1, 11, none⟩) (.slice none 0 0) (by show _ ≠ w.heap.size + 1; omega)).set 0 (.int .i64 (16))).set 1 (.int .i64 (frst m + y)))
       simp only [List.set_cons_zero, List.set_cons_succ] at HR9
       have HB9 := h_ (((below_set12 (u_ HB) (show w.heap.size <= w.heap.size + 1 by omega) (.slice none 0 0) (.slice none 0 0) (.slice none 0 0) (.slice none 0 0) (.map none) (.int .i64 0) (.slice none 0 0) (.slice none 0 0) (.slice none 0 0) (.int .i64 0) (.int .i64 0) (.slice none 0 0)).setCell (p := ⟨w.heap.size + 2, 0, none⟩) (by simp) (.int .i64 (16))).setCell (p := ⟨w.heap.size + 2, 1, none⟩) (by simp) (.int .i64 (frst m + y)))
       go_wp2_with fail
       obtain ⟨k0, k1⟩ := (two' (u_ HR9)).1
       obtain ⟨j0, j1, j2, j3, j4, j5, j6, j7, j8, j9, j10, j11⟩ := (twelve (u_ HQ9)).1
       exact bodyPost_ret (v := .tuple #[.agg #[.slice none 0 0, .slice none 0 0, .slice none 0 0, .slice none 0 0, .map none, .int .i64 0, .slice none 0 0, .slice none 0 0, .slice none 0 0, .int .i64 0, .int .i64 0, .slice none 0 0], dgV (16) (frst m + y)]) (by simp [results, Tryz.results42, go_sem, k0, k1, j0, j1, j2, j3, j4, j5, j6, j7, j8, j9, j10, j11]) rfl ⟨sf0, _, _, rfl, u_ HF, fun h => absurd h (by decide), u_ HB9⟩
     . have HF : Hid (ChkF m n F 0 0) := h_ (.inr ⟨u_ HZ2, f, y, u_ S1, u_ S2, u_ HY1, .inr ⟨by omega, rfl, rfl⟩⟩)
       obtain ⟨z0, z1, z2, z3, z4⟩ := five (u_ HW)
       obtain ⟨x0, x1, x2, x3, x4, x5⟩ := (six' (u_ HX)).1
       have HR1 := h_ ((u_ HR).row_other (g := w.heap.size + 1) (by omega) #[.slice al n alc, .slice ap m.below.length apc, .slice ar m.roles.length arc, .slice af m.fields.length afc, .map (some b), .int .i64 n, .slice a1 (n * n) c1, .slice a2 (n * n) c2, .slice a3 (n * n) c3, .int .i64 (bt : Int), .int .i64 top, .slice a5 m.fields.length c5])
       have HQ9 := h_ (((u_ HQ).row [.slice al n alc, .slice ap m.below.length apc, .slice ar m.roles.length arc, .slice af m.fields.length afc, .map (some b), .int .i64 n, .slice a1 (n * n) c1, .slice a2 (n * n) c2, .slice a3 (n * n) c3, .int .i64 (bt : Int), .int .i64 top, .slice a5 m.fields.length c5]).row_other (g := w.heap.size + 2) (by omega) #[.int .i64 0, .int .i64 0])
       have HR9 := h_ ((u_ HR1).row [.int .i64 0, .int .i64 0])
       have HO9 := h_ ((out_row (lo := w.heap.size + 1) (hi := w.heap.size + 3) (g := w.heap.size + 1) W7 #[.slice al n alc, .slice ap m.below.length apc, .slice ar m.roles.length arc, .slice af m.fields.length afc, .map (some b), .int .i64 n, .slice a1 (n * n) c1, .slice a2 (n * n) c2, .slice a3 (n * n) c3, .int .i64 (bt : Int), .int .i64 top, .slice a5 m.fields.length c5] (by omega) (by omega)).trans (out_row (g := w.heap.size + 2) _ #[.int .i64 0, .int .i64 0] (by omega) (by omega)))
       have HB9 := h_ ((u_ HB).trans ((u_ HO9).below (Nat.le_succ _) (u_ HB).size))
       have HP9 := h_ (⟨pmap_out (u_ HO9) (u_ HM) (cells2 (u_ HQ) (u_ HR)), bools_out (u_ HO9) (u_ HO) (nobool2 (u_ HQ) (u_ HR) (by simp) (by simp)), plc_out (u_ HO9) (u_ HLb) (u_ HS5)⟩ : PMap _ b (fNames m) /\ Bools _ a1 (n * n) F /\ Plc _ a5 (lsL f m.fields.length))
       clear HK HB HS HTb HM HO HJ HLb HCs HDw HO9
       go_wp2_with (first | (refine wpList_snd rfl #[(0, .tmp 54), (1, .tmp 55), (2, .tmp 56)] rfl #[.slice al n alc, .slice ap m.below.length apc, .slice ar m.roles.length arc, .slice af m.fields.length afc, .map (some b), .int .i64 n, .slice a1 (n * n) c1, .slice a2 (n * n) c2, .slice a3 (n * n) c3, .int .i64 (bt : Int), .int .i64 top, .slice a5 m.fields.length c5] (by kernel_rfl) ?_) | (refine wpList_store_row rfl 80 (.tmp 2) (.tmp 57) rfl (w.heap.size + 1) #[.slice al n alc, .slice ap m.below.length apc, .slice ar m.roles.length arc, .slice af m.fields.length afc, .map (some b), .int .i64 n, .slice a1 (n * n) c1, .slice a2 (n * n) c2, .slice a3 (n * n) c3, .int .i64 (bt : Int), .int .i64 top, .slice a5 m.fields.length c5] rfl rfl 80 #[.slice none 0 0, .slice none 0 0, .slice none 0 0, .slice none 0 0, .map none, .int .i64 0, .slice none 0 0, .slice none 0 0, .slice none 0 0, .int .i64 0, .int .i64 0, .slice none 0 0] (u_ HQ) (by kernel_rfl) rfl (by simp [Value.oneCell']) ?_) | (refine wpList_store_row rfl 43 (.tmp 3) (.tmp 58) rfl (w.heap.size + 2) #[.int .i64 0, .int .i64 0] rfl rfl 43 #[.int .i64 0, .int .i64 0] (u_ HR1) (by kernel_rfl) rfl (by simp [Value.oneCell']) ?_))
       obtain ⟨k0, k1⟩ := (two' (u_ HR9)).1
       obtain ⟨j0, j1, j2, j3, j4, j5, j6, j7, j8, j9, j10, j11⟩ := (twelve (u_ HQ9)).1
       exact bodyPost_ret (v := .tuple #[.agg #[.slice al n alc, .slice ap m.below.length apc, .slice ar m.roles.length arc, .slice af m.fields.length afc, .map (some b), .int .i64 n, .slice a1 (n * n) c1, .slice a2 (n * n) c2, .slice a3 (n * n) c3, .int .i64 (bt : Int), .int .i64 top, .slice a5 m.fields.length c5], dgV (0) (0)]) (by simp [results, Tryz.results42, go_sem, k0, k1, j0, j1, j2, j3, j4, j5, j6, j7, j8, j9, j10, j11]) rfl ⟨⟨al, n, alc, ap, m.below.length, apc, ar, m.roles.length, arc, af, m.fields.length, afc, some b, n, a1, n * n, c1, a2, n * n, c2, a3, n * n, c3, bt, top, a5, m.fields.length, c5⟩, _, _, rfl, u_ HF, fun _ => ⟨f, u_ S1, u_ S2, b, bt, top, a1, a2, a3, c1, c2, c3, a5, c5, rfl, u_ HP9⟩, u_ HB9⟩
end Go.Proofs.YtalgidagiojbpaaGreatDoor
/- CheckForm of the program; eqDiag. -/
namespace Go.Proofs.YtalgidagiojbpaaGreatDoor
open Go Go.RowKit
set_option maxRecDepth 100000 in
set_option maxHeartbeats 2000000 in
theorem eqDiag_any (c a : Int) (w : World) :
 Calls Tryz.prog 16 #[dgV c a, dgV c a] w fun r w' => r = .returned (.bool true) /\ Below w.heap.size w w' := by
 have HK := h_ ((Blk.new w 43 #[.int .i64 c, .int .i64 a]).alloc (.cells #[.int .i64 c, .int .i64 a] 43))
 have HR := h_ (Blk.new (w.alloc (.cells #[.int .i64 c, .int .i64 a] 43)) 43 #[.int .i64 c, .int .i64 a])
 rw [World.size_alloc] at HR
 have HB := h_ (((Below.refl w.heap.size w).alloc (Nat.le_refl _) (.cells #[.int .i64 c, .int .i64 a] 43)).alloc (by simp) (.cells #[.int .i64 c, .int .i64 a] 43))
 obtain ⟨W0, hW0⟩ : ∃ W0, (w.alloc (.cells #[.int .i64 c, .int .i64 a] 43)).alloc (.cells #[.int .i64 c, .int .i64 a] 43) = W0 := ⟨_, rfl⟩
 rw [hW0] at HK HR HB
 obtain ⟨k0, k1⟩ := (two' (u_ HK)).1
 obtain ⟨r0, r1⟩ := (two' (u_ HR)).1
 go_enter Tryz.func16, Tryz.ntmps16
 go_wp2_with fail
 try rw [hW0]
 go_ret
 exact ⟨rfl, u_ HB⟩
set_option maxRecDepth 100000 in
set_option maxHeartbeats 8000000 in
theorem implCheck_of (m : Fm) (A : MA) (w : World) (P0 : Int -> Int -> Prop) (hS : ∀ W, MSl W m A -> Tabs W -> TyW W -> Tab W -> Calls Tryz.prog 42 #[mV m A] W fun r w' => ∃ S c a, r = .returned (.tuple #[sfV S, dgV c a]) /\ P0 c a /\ Below W.heap.size W w') (ha : MSl w m A) (ht : Tabs w) (hy : TyW w) (htb : Tab w) :
 Calls Tryz.prog 15 #[mV m A] w fun r w' => ∃ c a, r = .returned (dgV c a) /\ P0 c a /\ Below w.heap.size w w' := by
 have HS0 := h_ hS
 clear hS
 obtain ⟨al, alc, ap, apc, ar, arc, af, afc, afa⟩ := A
 unfold mV at HS0 ⊢
 dsimp only at HS0 ⊢
 have HK := h_ ((Blk.new w 35 #[.slice al m.labels.length alc, .slice ap m.below.length apc, .slice ar m.roles.length arc, .slice af m.fields.length afc]).alloc (.cells #[.int .i64 0, .int .i64 0] 43))
 have HR := h_ (Blk.new (w.alloc (.cells #[.slice al m.labels.length alc, .slice ap m.below.length apc, .slice ar m.roles.length arc, .slice af m.fields.length afc] 35)) 43 #[.int .i64 0, .int .i64 0])
 rw [World.size_alloc] at HR
 have HB := h_ (((Below.refl w.heap.size w).alloc (Nat.le_refl _) (.cells #[.slice al m.labels.length alc, .slice ap m.below.length apc, .slice ar m.roles.length arc, .slice af m.fields.length afc] 35)).alloc (by simp) (.cells #[.int .i64 0, .int .i64 0] 43))
 obtain ⟨W0, hW0⟩ : ∃ W0, (w.alloc (.cells #[.slice al m.labels.length alc, .slice ap m.below.length apc, .slice ar m.roles.length arc, .slice af m.fields.length afc] 35)).alloc (.cells #[.int .i64 0, .int .i64 0] 43) = W0 := ⟨_, rfl⟩
 have hs0 : W0.heap.size = w.heap.size + 2 := by rw [<- hW0]; simp
 rw [hW0] at HK HR HB
 have HC := h_ (u_ HS0 W0 (ha.mono (u_ HB)) (ht.mono (u_ HB)) (hy.mono (u_ HB)) (htb.mono (u_ HB)))
 clear ha ht hy htb HS0
 obtain ⟨y0, y1, y2, y3⟩ := quad (u_ HK)
 go_enter Tryz.func15, Tryz.ntmps15
 go_wp2_with fail
 try rw [hW0]
 refine (u_ HC).mono ?_
 rintro r W1 ⟨S, c, a, rfl, hp, hb⟩
 have HP := h_ hp
 obtain ⟨ul, unl, ulc, up, unp, upc, ur, unr, urc, uf, unf, ufc, ump, uN, ua1, us1, uc1, ua2, us2, uc2, ua3, us3, uc3, ubot, utop, ulb, un5, uc5⟩ := S
 unfold sfV
 dsimp only
 have hs1 : w.heap.size + 2 <= W1.heap.size := by have := hb.size; omega
 replace HR := mB HR hb; replace HB := mT HB hb
 clear hb hW0 y0 y1 y2 y3 HK HC hp hs0
 have HQ := h_ ((Blk.new W1 80 #[.slice none 0 0, .slice none 0 0, .slice none 0 0, .slice none 0 0, .map none, .int .i64 0, .slice none 0 0, .slice none 0 0, .slice none 0 0, .int .i64 0, .int .i64 0, .slice none 0 0]).alloc (.cells #[.int .i64 0, .int .i64 0] 43))
 have HD := h_ (Blk.new (W1.alloc (.cells #[.slice none 0 0, .slice none 0 0, .slice none 0 0, .slice none 0 0, .map none, .int .i64 0, .slice none 0 0, .slice none 0 0, .slice none 0 0, .int .i64 0, .int .i64 0, .slice none 0 0] 80)) 43 #[.int .i64 0, .int .i64 0])
 rw [World.size_alloc] at HD
 have hb := ((Below.refl W1.heap.size W1).alloc (Nat.le_refl _) (.cells #[.slice none 0 0, .slice none 0 0, .slice none 0 0, .slice none 0 0, .map none, .int .i64 0, .slice none 0 0, .slice none 0 0, .slice none 0 0, .int .i64 0, .int .i64 0, .slice none 0 0] 80)).alloc (by simp) (.cells #[.int .i64 0, .int .i64 0] 43)
 obtain ⟨W2, hW2⟩ : ∃ W2, (W1.alloc (.cells #[.slice none 0 0, .slice none 0 0, .slice none 0 0, .slice none 0 0, .map none, .int .i64 0, .slice none 0 0, .slice none 0 0, .slice none 0 0, .int .i64 0, .int .i64 0, .slice none 0 0] 80)).alloc (.cells #[.int .i64 0, .int .i64 0] 43) = W2 := ⟨_, rfl⟩
 obtain ⟨P, hP⟩ : ∃ P, W1.heap.size = P := ⟨_, rfl⟩
 rw [hW2] at HQ HD hb
 rw [hP] at HQ HD
 replace HR := mB HR hb; replace HB := mT HB hb
 clear hb
 rw [hP] at hs1
 obtain ⟨⟨p0, p1, p2, p3, p4, p5, p6, p7, p8, p9, p10, p11⟩, ⟨e0, e1, e2, e3, e4, e5, e6, e7, e8, e9, e10, e11⟩⟩ := twelve (u_ HQ)
 obtain ⟨⟨d0, d1⟩, ⟨f0, f1⟩⟩ := two' (u_ HD)
 obtain ⟨⟨r0, r1⟩, ⟨g0, g1⟩⟩ := two' (u_ HR)
 have HD9 := h_ (((((((((((((((u_ HD).other (a := ⟨P, 0, none⟩) (.slice ul unl ulc) (by show _ ≠ P; omega)).other (a := ⟨P, 1, none⟩) (.slice up unp upc) (by show _ ≠ P; omega)).other (a := ⟨P, 2, none⟩) (.slice ur unr urc) (by show _ ≠ P; omega)).other (a := ⟨P, 3, none⟩) (.slice uf unf ufc) (by show _ ≠ P; omega)).other (a := ⟨P, 4, none⟩) (.map ump) (by show _ ≠ P; omega)).other (a := ⟨P, 5, none⟩) (.int .i64 uN) (by show _ ≠ P; omega)).other (a := ⟨P, 6, none⟩) (.slice ua1 us1 uc1) (by show _ ≠ P; omega)).other (a := ⟨P, 7, none⟩) (.slice ua2 us2 uc2) (by show _ ≠ P; omega)).other (a := ⟨P, 8, none⟩) (.slice ua3 us3 uc3) (by show _ ≠ P; omega)).other (a := ⟨P, 9, none⟩) (.int .i64 ubot) (by show _ ≠ P; omega)).other (a := ⟨P, 10, none⟩) (.int .i64 utop) (by show _ ≠ P; omega)).other (a := ⟨P, 11, none⟩) (.slice ulb un5 uc5) (by show _ ≠ P; omega)).set 0 (.int .i64 c)).set 1 (.int .i64 a))
 simp only [List.set_cons_zero, List.set_cons_succ] at HD9
 have HR9 := h_ (((((((((((((((((u_ HR).other (a := ⟨P, 0, none⟩) (.slice ul unl ulc) (by show _ ≠ P; omega)).other (a := ⟨P, 1, none⟩) (.slice up unp upc) (by show _ ≠ P; omega)).other (a := ⟨P, 2, none⟩) (.slice ur unr urc) (by show _ ≠ P; omega)).other (a := ⟨P, 3, none⟩) (.slice uf unf ufc) (by show _ ≠ P; omega)).other (a := ⟨P, 4, none⟩) (.map ump) (by show _ ≠ P; omega)).other (a := ⟨P, 5, none⟩) (.int .i64 uN) (by show _ ≠ P; omega)).other (a := ⟨P, 6, none⟩) (.slice ua1 us1 uc1) (by show _ ≠ P; omega)).other (a := ⟨P, 7, none⟩) (.slice ua2 us2 uc2) (by show _ ≠ P; omega)).other (a := ⟨P, 8, none⟩) (.slice ua3 us3 uc3) (by show _ ≠ P; omega)).other (a := ⟨P, 9, none⟩) (.int .i64 ubot) (by show _ ≠ P; omega)).other (a := ⟨P, 10, none⟩) (.int .i64 utop) (by show _ ≠ P; omega)).other (a := ⟨P, 11, none⟩) (.slice ulb un5 uc5) (by show _ ≠ P; omega)).other (a := ⟨P + 1, 0, none⟩) (.int .i64 c) (by show _ ≠ P + 1; omega)).other (a := ⟨P + 1, 1, none⟩) (.int .i64 a) (by show _ ≠ P + 1; omega)).set 0 (.int .i64 c)).set 1 (.int .i64 a))
 simp only [List.set_cons_zero, List.set_cons_succ] at HR9
 have HB9 := h_ ((((((below_set12 (u_ HB) (show w.heap.size <= P by omega) (.slice ul unl ulc) (.slice up unp upc) (.slice ur unr urc) (.slice uf unf ufc) (.map ump) (.int .i64 uN) (.slice ua1 us1 uc1) (.slice ua2 us2 uc2) (.slice ua3 us3 uc3) (.int .i64 ubot) (.int .i64 utop) (.slice ulb un5 uc5)).setCell (p := ⟨P + 1, 0, none⟩) (by show _ <= P + 1; omega) (.int .i64 c)).setCell (p := ⟨P + 1, 1, none⟩) (by show _ <= P + 1; omega) (.int .i64 a)).setCell (p := ⟨w.heap.size + 1, 0, none⟩) (by simp) (.int .i64 c)).setCell (p := ⟨w.heap.size + 1, 1, none⟩) (by simp) (.int .i64 a)))
 obtain ⟨i0, i1⟩ := (two' (u_ HD9)).1
 go_wp2_with fail
 obtain ⟨k0, k1⟩ := (two' (u_ HR9)).1
 exact bodyPost_ret (v := dgV c a) (by simp [results, Tryz.results15, go_sem, k0, k1]) rfl ⟨c, a, rfl, u_ HP, u_ HB9⟩
theorem implCheck_v (m : Fm) (A : MA) (w : World) (hq : vfB m = false) (hf : FitM m) (hcap : Caps m A) (ha : MSl w m A) (ht : Tabs w) (hy : TyW w) (htb : Tab w) :
 Calls Tryz.prog 15 #[mV m A] w fun r w' => r = .returned (dgV 20 0) /\ Below w.heap.size w w' :=
 (implCheck_of m A w (fun c a => c = 20 /\ a = 0) (fun W h1 h2 h3 h4 => (soundOf_v m A W hq hf hcap h1 h2 h3 h4).mono fun r w' ⟨e, hb⟩ => ⟨sf0, 20, 0, e, ⟨rfl, rfl⟩, hb⟩) ha ht hy htb).mono fun r w' ⟨c, a, e, ⟨h1, h2⟩, hb⟩ => ⟨by rw [e, h1, h2], hb⟩
theorem implCheck_z (m : Fm) (A : MA) (w : World) (code : Int) (hq : vfB m = true) (hc : 1 <= code /\ code <= 4) (hz : ImplZ m.labels.length m.below.length (pr1 m) (pr2 m) code) (hf : FitM m) (hcap : Caps m A) (ha : MSl w m A) (ht : Tabs w) (hy : TyW w) (htb : Tab w) :
 Calls Tryz.prog 15 #[mV m A] w fun r w' => r = .returned (dgV (10 + code) 0) /\ Below w.heap.size w w' :=
 (implCheck_of m A w (fun c a => c = 10 + code /\ a = 0) (fun W h1 h2 h3 h4 => (soundOf_z m A W code hq hc hz hf hcap h1 h2 h3 h4).mono fun r w' ⟨e, hb⟩ => ⟨sf0, 10 + code, 0, e, ⟨rfl, rfl⟩, hb⟩) ha ht hy htb).mono fun r w' ⟨c, a, e, ⟨h1, h2⟩, hb⟩ => ⟨by rw [e, h1, h2], hb⟩
theorem implCheck_f (m : Fm) (A : MA) (w : World) (bot top : Int) (s n bt tp : Nat) (F : Nat -> Bool) (J M : Nat -> Int) (hq : vfB m = true) (hv : VfA m) (hz : ImplF m.labels.length m.below.length (pr1 m) (pr2 m) s F J M bot top) (hL : ValidP m.labels.length s s s F J M bot top n bt tp) (hf : FitM m) (hcap : Caps m A) (ha : MSl w m A) (ht : Tabs w) (hy : TyW w) (htb : Tab w) :
 Calls Tryz.prog 15 #[mV m A] w fun r w' => ∃ c a, r = .returned (dgV c a) /\ ChkF m n F c a /\ Below w.heap.size w w' :=
 implCheck_of m A w (ChkF m n F) (fun W h1 h2 h3 h4 => (soundOf_f m A W bot top s n bt tp F J M hq hv hz hL hf hcap h1 h2 h3 h4).mono fun _ _ ⟨S, c, a, e, h, _, hb⟩ => ⟨S, c, a, e, h, hb⟩) ha ht hy htb
end Go.Proofs.YtalgidagiojbpaaGreatDoor
/- The law FnExactCheckForm. -/
namespace Go.Proofs.YtalgidagiojbpaaGreatDoor
open Go Go.RowKit
/-- What lay when the copy was made, seen from later. -/
structure OldC (m : Fm) (A : MA) (X : Nat) (cs : List Value) (D : Nat) (c a : Int) (W : World) : Prop where
 k : Blk W X 27 cs
 s : MSl W m A
 t : Tabs W
 y : TyW W
 b : Tab W
 d : Blk W D 43 [.int .i64 c, .int .i64 a]
theorem OldC.mono {m : Fm} {A : MA} {X : Nat} {cs : List Value} {D : Nat} {c a : Int} {W W' : World} (h : OldC m A X cs D c a W) (hb : Below W.heap.size W W') : OldC m A X cs D c a W' := ⟨h.k.mono hb h.k.lt, h.s.mono hb, h.t.mono hb, h.y.mono hb, h.b.mono hb, h.d.mono hb h.d.lt⟩
set_option maxRecDepth 100000 in
set_option maxHeartbeats 8000000 in
theorem lawCheck_of (m : Fm) (A : MA) (c a : Int) (w : World) (hsp : ∀ W A', MSl W m A' -> Calls Tryz.prog 14 #[mV m A'] W fun r w' => r = .returned (dgV c a) /\ Below W.heap.size W w') (him : ∀ W A', Caps m A' -> MSl W m A' -> Tabs W -> TyW W -> Tab W -> Calls Tryz.prog 15 #[mV m A'] W fun r w' => r = .returned (dgV c a) /\ Below W.heap.size W w') (hf : FitM m) (ha : MSl w m A) (ht : Tabs w) (hy : TyW w) (htb : Tab w) :
 Calls Tryz.prog 4 #[mV m A] w fun r w' => r = .returned (.bool true) /\ Below w.heap.size w w' := by
 obtain ⟨al, alc, ap, apc, ar, arc, af, afc, afa⟩ := A
 have HCz := h_ fun W (hs : MSl W m ⟨al, alc, ap, apc, ar, arc, af, afc, afa⟩) => szForm_any m ⟨al, alc, ap, apc, ar, arc, af, afc, afa⟩ 1048576 W hf (by omega) (by omega) hs
 have HCt := h_ fun W (hn : Sm m) (hs : MSl W m ⟨al, alc, ap, apc, ar, arc, af, afc, afa⟩) => toForm_any m ⟨al, alc, ap, apc, ar, arc, af, afc, afa⟩ W hn hs
 have HCs := h_ hsp
 have HCi := h_ him
 have HCe := h_ fun W A1 A2 (hn : Sm m) (h1 : MSl W m A1) (h2 : MSl W m A2) => eqForm_any m A1 A2 W hn h1 h2
 have HCd := h_ fun W => eqDiag_any c a W
 clear hsp him
 unfold mV at HCz HCt HCs HCi HCe ⊢
 dsimp only at HCz HCt ⊢
 have HK := h_ (Blk.new w 27 #[.slice al m.labels.length alc, .slice ap m.below.length apc, .slice ar m.roles.length arc, .slice af m.fields.length afc])
 have HB := h_ ((Below.refl w.heap.size w).alloc (Nat.le_refl _) (.cells #[.slice al m.labels.length alc, .slice ap m.below.length apc, .slice ar m.roles.length arc, .slice af m.fields.length afc] 27))
 obtain ⟨W0, hW0⟩ : ∃ W0, w.alloc (.cells #[.slice al m.labels.length alc, .slice ap m.below.length apc, .slice ar m.roles.length arc, .slice af m.fields.length afc] 27) = W0 := ⟨_, rfl⟩
 rw [hW0] at HK HB
 have HS := h_ (ha.mono (u_ HB)); have HT := h_ (ht.mono (u_ HB)); have HY := h_ (hy.mono (u_ HB)); have HTb := h_ (htb.mono (u_ HB))
 clear ha ht hy hf htb
 obtain ⟨y0, y1, y2, y3⟩ := quad (u_ HK)
 go_enter Tryz.func4, Tryz.ntmps4
 go_wp2_with fail
 try rw [hW0]
 refine (u_ HCz W0 (u_ HS)).mono ?_
 rintro r W1 ⟨z, rfl, hz, hb⟩
 replace HK := mB HK hb; replace HS := h_ ((u_ HS).mono hb); replace HT := h_ ((u_ HT).mono hb); replace HY := h_ ((u_ HY).mono hb); replace HTb := h_ ((u_ HTb).mono hb); replace HB := mT HB hb
 clear hW0 hb y0 y1 y2 y3
 obtain ⟨y0, y1, y2, y3⟩ := quad (u_ HK)
 by_cases hzz : z < 0
 . clear hz
   go_wp2_with fail
   go_ret
   exact ⟨rfl, u_ HB⟩
 have HN := h_ (hz (by omega))
 clear hz
 go_wp2_with fail
 refine (u_ HCt W1 (u_ HN) (u_ HS)).mono ?_
 rintro r W2 ⟨A1, rfl, hs1, hc1, hb⟩
 replace HK := mB HK hb; replace HS := h_ ((u_ HS).mono hb); replace HT := h_ ((u_ HT).mono hb); replace HY := h_ ((u_ HY).mono hb); replace HTb := h_ ((u_ HTb).mono hb); replace HB := mT HB hb
 have HS1 := h_ hs1
 clear hb y0 y1 y2 y3 hs1 hc1
 go_wp2_with fail
 refine (u_ HCs W2 A1 (u_ HS1)).mono ?_
 rintro r W3 ⟨rfl, hb⟩
 replace HK := mB HK hb; replace HS := h_ ((u_ HS).mono hb); replace HT := h_ ((u_ HT).mono hb); replace HY := h_ ((u_ HY).mono hb); replace HTb := h_ ((u_ HTb).mono hb); replace HB := mT HB hb
 clear hb HS1 HCs
 have HD := h_ (Blk.new W3 43 #[.int .i64 c, .int .i64 a])
 have hb := (Below.refl W3.heap.size W3).alloc (Nat.le_refl _) (.cells #[.int .i64 c, .int .i64 a] 43)
 replace HK := mB HK hb; replace HS := h_ ((u_ HS).mono hb); replace HT := h_ ((u_ HT).mono hb); replace HY := h_ ((u_ HY).mono hb); replace HTb := h_ ((u_ HTb).mono hb); replace HB := mT HB hb
 obtain ⟨W4, hW4⟩ : ∃ W4, W3.alloc (.cells #[.int .i64 c, .int .i64 a] 43) = W4 := ⟨_, rfl⟩
 obtain ⟨D, hD⟩ : ∃ D, W3.heap.size = D := ⟨_, rfl⟩
 rw [hW4] at HK HS HT HY HTb HB HD
 rw [hD] at HD
 have HO4 : Hid (OldC m ⟨al, alc, ap, apc, ar, arc, af, afc, afa⟩ w.heap.size [.slice al m.labels.length alc, .slice ap m.below.length apc, .slice ar m.roles.length arc, .slice af m.fields.length afc] D c a W4) := h_ ⟨u_ HK, u_ HS, u_ HT, u_ HY, u_ HTb, u_ HD⟩
 clear hb HK HS HT HY HTb HD
 obtain ⟨y0, y1, y2, y3⟩ := quad (u_ HO4).k
 go_wp2_with fail
 try rw [hD]
 try rw [hW4]
 refine (u_ HCt W4 (u_ HN) (u_ HO4).s).mono ?_
 rintro r W5 ⟨A2, rfl, hs2, hc2, hb⟩
 have HO5 := h_ ((u_ HO4).mono hb); replace HB := mT HB hb
 clear hb y0 y1 y2 y3 HO4 hW4 hD
 obtain ⟨bl, blc, bp, bpc, br, brc, bf, bfc, bfa⟩ := A2
 dsimp only
 have HX := h_ (Blk.new W5 35 #[.slice bl m.labels.length blc, .slice bp m.below.length bpc, .slice br m.roles.length brc, .slice bf m.fields.length bfc])
 have hb := (Below.refl W5.heap.size W5).alloc (Nat.le_refl _) (.cells #[.slice bl m.labels.length blc, .slice bp m.below.length bpc, .slice br m.roles.length brc, .slice bf m.fields.length bfc] 35)
 obtain ⟨W6, hW6⟩ : ∃ W6, W5.alloc (.cells #[.slice bl m.labels.length blc, .slice bp m.below.length bpc, .slice br m.roles.length brc, .slice bf m.fields.length bfc] 35) = W6 := ⟨_, rfl⟩
 obtain ⟨X, hX⟩ : ∃ X, W5.heap.size = X := ⟨_, rfl⟩
 rw [hW6] at hb HX
 rw [hX] at HX
 have HS6 := h_ (hs2.mono hb)
 have HO6 := h_ ((u_ HO5).mono hb); replace HB := mT HB hb
 have HCi2 := h_ (u_ HCi W6 ⟨bl, blc, bp, bpc, br, brc, bf, bfc, bfa⟩ hc2 (u_ HS6) (u_ HO6).t (u_ HO6).y (u_ HO6).b)
 clear hb hs2 hc2 HO5
 obtain ⟨x0, x1, x2, x3⟩ := quad (u_ HX)
 dsimp only at HCi2
 go_wp2_with fail
 try rw [hX]
 try rw [hW6]
 refine (u_ HCi2).mono ?_
 rintro r W7 ⟨rfl, hb⟩
 have HS7 := h_ ((u_ HS6).mono hb); have HO7 := h_ ((u_ HO6).mono hb)
 replace HX := mB HX hb; replace HB := mT HB hb
 clear hb x0 x1 x2 x3 HS6 HO6 HCi2 HCi hW6 hX
 have HE := h_ (Blk.new W7 43 #[.int .i64 c, .int .i64 a])
 have hb := (Below.refl W7.heap.size W7).alloc (Nat.le_refl _) (.cells #[.int .i64 c, .int .i64 a] 43)
 obtain ⟨W8, hW8⟩ : ∃ W8, W7.alloc (.cells #[.int .i64 c, .int .i64 a] 43) = W8 := ⟨_, rfl⟩
 obtain ⟨E, hE⟩ : ∃ E, W7.heap.size = E := ⟨_, rfl⟩
 rw [hW8] at hb HE
 rw [hE] at HE
 have HS8 := h_ ((u_ HS7).mono hb); have HO8 := h_ ((u_ HO7).mono hb)
 replace HX := mB HX hb; replace HB := mT HB hb
 clear hb HS7 HO7
 obtain ⟨d0, d1⟩ := (two' (u_ HO8).d).1
 obtain ⟨e0, e1⟩ := (two' (u_ HE)).1
 go_wp2_with fail
 try rw [hE]
 try rw [hW8]
 refine (u_ HCd W8).mono ?_
 rintro r W9 ⟨rfl, hb⟩
 have HS9 := h_ ((u_ HS8).mono hb); have HO9 := h_ ((u_ HO8).mono hb)
 replace HX := mB HX hb; replace HB := mT HB hb
 clear hb HS8 HO8 hW8 hE d0 d1 e0 e1 HE HCd
 go_wp2_with fail
 refine wp_region_held_drew (S := fun w' => Blk w' w.heap.size 27 [.slice al m.labels.length alc, .slice ap m.below.length apc, .slice ar m.roles.length arc, .slice af m.fields.length afc] /\ Blk w' X 35 [.slice bl m.labels.length blc, .slice bp m.below.length bpc, .slice br m.roles.length brc, .slice bf m.fields.length bfc]) (by kernel_rfl) ⟨(u_ HO9).k, u_ HX⟩ (fun hHeld => ?_)
 refine tk (i := 0) (v := .agg #[.slice bl m.labels.length blc, .slice bp m.below.length bpc, .slice br m.roles.length brc, .slice bf m.fields.length bfc]) 23 hHeld ?_ (hy := fun w hS => by obtain ⟨-, h2⟩ := hS; obtain ⟨q0, q1, q2, q3⟩ := quad h2; simp [execOp, go_sem, q0, q1, q2, q3])
 simp only [s1', s2', s3']
 refine tk (i := 1) (v := .agg #[.slice al m.labels.length alc, .slice ap m.below.length apc, .slice ar m.roles.length arc, .slice af m.fields.length afc]) 24 hHeld ?_ (hy := fun w hS => by obtain ⟨h2, -⟩ := hS; obtain ⟨q0, q1, q2, q3⟩ := quad h2; simp [execOp, go_sem, q0, q1, q2, q3])
 simp only [s1', s2', s3']
 have HDr : Hid (Below W9.heap.size W9 W9.drew) := h_ (Below.refl _ _).drew
 refine callY (i := 2) (f := 7) (args := #[.agg #[.slice al m.labels.length alc, .slice ap m.below.length apc, .slice ar m.roles.length arc, .slice af m.fields.length afc]]) (R := fun v wz => ∃ A3, v = mV m A3 /\ MSl wz m A3 /\ Below W9.heap.size W9 wz) 25 rfl rfl (by rfl) (by kernel_rfl) ?hrun1 ((u_ HCt W9.drew (u_ HN) ((u_ HO9).s.mono (u_ HDr))).mono fun e w6 ⟨A3, he, hs, _, hb⟩ => ⟨_, he, A3, rfl, hs, below_of_drew hb⟩) ?_
 case hrun1 => simp [execOp, go_sem]
 rintro v W10 ⟨A3, rfl, hs3, hb⟩
 have HS10 := h_ ((u_ HS9).mono hb); have HO10 := h_ ((u_ HO9).mono hb)
 replace HX := mB HX hb; replace HB := mT HB hb
 replace hHeld : Blk W10 w.heap.size 27 [.slice al m.labels.length alc, .slice ap m.below.length apc, .slice ar m.roles.length arc, .slice af m.fields.length afc] /\ Blk W10 X 35 [.slice bl m.labels.length blc, .slice bp m.below.length bpc, .slice br m.roles.length brc, .slice bf m.fields.length bfc] := ⟨(u_ HO10).k, u_ HX⟩
 have HS3 := h_ hs3
 clear hb hs3 HS9 HO9 HDr
 refine ⟨hHeld, ?_⟩
 unfold mV
 obtain ⟨dl, dlc, dp, dpc, dr, drc, df, dfc, dfa⟩ := A3
 dsimp only
 simp only [s1', s2', s3']
 have HCe2 := h_ (u_ HCe W10 ⟨bl, blc, bp, bpc, br, brc, bf, bfc, bfa⟩ ⟨dl, dlc, dp, dpc, dr, drc, df, dfc, dfa⟩ (u_ HN) (u_ HS10) (u_ HS3))
 dsimp only at HCe2
 refine callY (i := 3) (f := 10) (args := #[.agg #[.slice bl m.labels.length blc, .slice bp m.below.length bpc, .slice br m.roles.length brc, .slice bf m.fields.length bfc], .agg #[.slice dl m.labels.length dlc, .slice dp m.below.length dpc, .slice dr m.roles.length drc, .slice df m.fields.length dfc]]) (R := fun v wz => v = .bool true /\ Below W10.heap.size W10 wz) 26 rfl rfl (by rfl) (by kernel_rfl) ?hrun2 ((u_ HCe2).mono fun e w6 ⟨he, hb⟩ => ⟨_, he, rfl, hb⟩) ?_
 case hrun2 => simp [execOp, go_sem]
 rintro v W11 ⟨rfl, hb⟩
 replace hHeld : Blk W11 w.heap.size 27 [.slice al m.labels.length alc, .slice ap m.below.length apc, .slice ar m.roles.length arc, .slice af m.fields.length afc] /\ Blk W11 X 35 [.slice bl m.labels.length blc, .slice bp m.below.length bpc, .slice br m.roles.length brc, .slice bf m.fields.length bfc] := ⟨hHeld.1.mono hb hHeld.1.lt, hHeld.2.mono hb hHeld.2.lt⟩
 replace HB := mT HB hb
 clear hb HS10 HO10 HCe2 HS3 HX
 refine ⟨hHeld, ?_⟩
 simp only [s1', s2', s3']
 refine tk (i := 4) (v := .bool false) 27 hHeld ?_
 simp only [s1', s2', s3']
 refine wpAnyH_done (by kernel_rfl) ?_ _
 clear hHeld
 go_wp2_with fail
 go_ret
 exact ⟨rfl, u_ HB⟩
theorem lawCheck_any (m : Fm) (A : MA) (w : World) (hf : FitM m) (ha : MSl w m A) (ht : Tabs w) (hy : TyW w) (htb : Tab w) :
 Calls Tryz.prog 4 #[mV m A] w fun r w' => r = .returned (.bool true) /\ Below w.heap.size w w' := by
 cases hq : vfB m
 . exact lawCheck_of m A 20 0 w (fun W A' hs => specCheck_v m A' W (fun W' hs' => specValidForm_any m A' W' hf hs') hq hs) (fun W A' hc hs h1 h2 h3 => implCheck_v m A' W hq hf hc hs h1 h2 h3) hf ha ht hy htb
 have hv : VfA m := Classical.byContradiction fun hn => by rw [vfB_false hn] at hq; cases hq
 rcases dich3 m.labels.length m.below.length (pr1 m) (pr2 m) (by have := hv.np; omega) with ⟨code, hc, h1, h2⟩ | ⟨s, F, J, M, bot, top, -, ⟨n, bt, tp, hL⟩, h1, h2⟩
 . exact lawCheck_of m A (10 + code) 0 w (fun W A' hs => specCheck_z m A' W code (fun W' hs' => specValidForm_any m A' W' hf hs') hq hc h1 hf hs) (fun W A' hcp hs k1 k2 k3 => implCheck_z m A' W code hq hc h2 hf hcp hs k1 k2 k3) hf ha ht hy htb
 by_cases hE : ∃ c a, ChkF m n F c a
 . obtain ⟨c, a, hca⟩ := hE
   refine lawCheck_of m A c a w (fun W A' hs => (specCheck_f m A' W bot top s n bt tp F J M (fun W' hs' => specValidForm_any m A' W' hf hs') hq hv h1 hL hf hs).mono fun r w' ⟨c', a', e, hca', hb⟩ => ⟨?_, hb⟩) (fun W A' hc hs k1 k2 k3 => (implCheck_f m A' W bot top s n bt tp F J M hq hv h2 hL hf hc hs k1 k2 k3).mono fun r w' ⟨c', a', e, hca', hb⟩ => ⟨?_, hb⟩) hf ha ht hy htb
   . obtain ⟨rfl, rfl⟩ := hca.one (latP_of hL) hca'
     exact e
   . obtain ⟨rfl, rfl⟩ := hca.one (latP_of hL) hca'
     exact e
 . exact lawCheck_of m A 0 0 w (fun W A' hs => (specCheck_f m A' W bot top s n bt tp F J M (fun W' hs' => specValidForm_any m A' W' hf hs') hq hv h1 hL hf hs).mono fun r w' ⟨c', a', e, hca', hb⟩ => absurd ⟨c', a', hca'⟩ hE) (fun W A' hc hs k1 k2 k3 => (implCheck_f m A' W bot top s n bt tp F J M hq hv h2 hL hf hc hs k1 k2 k3).mono fun r w' ⟨c', a', e, hca', hb⟩ => absurd ⟨c', a', hca'⟩ hE) hf ha ht hy htb
end Go.Proofs.YtalgidagiojbpaaGreatDoor
