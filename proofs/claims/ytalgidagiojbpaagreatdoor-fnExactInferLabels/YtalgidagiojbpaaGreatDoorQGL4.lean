import Derived.Test.YtalgidagiojbpaaGreatDoorQGL3
import Derived.Test.YtalgidagiojbpaaGreatDoorQZWirO
import Derived.Test.YtalgidagiojbpaaGreatDoorQX2
/- InferLabels, of the model and of the program. -/
namespace Go.Proofs.YtalgidagiojbpaaGreatDoor
open Go Go.RowKit
/-- The pairs of a form's labels, as functions. -/
def pr1 (m : Fm) (k : Nat) : Int := (m.below.getD k (0, 0)).1
def pr2 (m : Fm) (k : Nat) : Int := (m.below.getD k (0, 0)).2
theorem pairs_m {w : World} {m : Fm} {A : MA} (h : MSl w m A) : Pairs w A.p m.below.length (pr1 m) (pr2 m) := pairs_of h.p
set_option maxRecDepth 100000 in
set_option maxHeartbeats 1000000 in
theorem l4Order_any (m : Fm) (A : MA) (w : World) (hf : FitM m) :
 Calls Tryz.prog 23 #[mV m A] w fun r w' => r = .returned (.agg #[.int .i64 m.labels.length, .slice A.p m.below.length A.pc]) /\ Below w.heap.size w w' := by
 obtain ⟨al, alc, ap, apc, ar, arc, af, afc, afa⟩ := A
 unfold mV
 dsimp only
 have h1 := hf.ll
 have HK := h_ ((Blk.new w 35 #[.slice al m.labels.length alc, .slice ap m.below.length apc, .slice ar m.roles.length arc, .slice af m.fields.length afc]).alloc (.cells #[.int .i64 0, .slice none 0 0] 57))
 have HR := h_ (Blk.new (w.alloc (.cells #[.slice al m.labels.length alc, .slice ap m.below.length apc, .slice ar m.roles.length arc, .slice af m.fields.length afc] 35)) 57 #[.int .i64 0, .slice none 0 0])
 rw [World.size_alloc] at HR
 have HB := h_ (((Below.refl w.heap.size w).alloc (Nat.le_refl _) (.cells #[.slice al m.labels.length alc, .slice ap m.below.length apc, .slice ar m.roles.length arc, .slice af m.fields.length afc] 35)).alloc (by simp) (.cells #[.int .i64 0, .slice none 0 0] 57))
 obtain ⟨W0, hW0⟩ : ∃ W0, (w.alloc (.cells #[.slice al m.labels.length alc, .slice ap m.below.length apc, .slice ar m.roles.length arc, .slice af m.fields.length afc] 35)).alloc (.cells #[.int .i64 0, .slice none 0 0] 57) = W0 := ⟨_, rfl⟩
 rw [hW0] at HK HR HB
 obtain ⟨y0, y1, y2, y3⟩ := quad (u_ HK)
 obtain ⟨⟨r0, r1⟩, ⟨f0, f1⟩⟩ := two' (u_ HR)
 have HR9 := h_ (((u_ HR).set 0 (.int .i64 m.labels.length)).set 1 (.slice ap m.below.length apc))
 simp only [List.set_cons_zero, List.set_cons_succ] at HR9
 have HB9 := h_ (((u_ HB).setCell (p := ⟨w.heap.size + 1, 0, none⟩) (by simp) (.int .i64 m.labels.length)).setCell (p := ⟨w.heap.size + 1, 1, none⟩) (by simp) (.slice ap m.below.length apc))
 clear hf
 go_enter Tryz.func23, Tryz.ntmps23
 go_wp2_with fail
 try rw [hW0]
 obtain ⟨k0, k1⟩ := (two' (u_ HR9)).1
 exact bodyPost_ret (v := .agg #[.int .i64 m.labels.length, .slice ap m.below.length apc]) (by simp [results, Tryz.results23, go_sem, *]) rfl ⟨rfl, u_ HB9⟩
set_option maxRecDepth 100000 in
set_option maxHeartbeats 4000000 in
theorem specInfer_z (m : Fm) (A : MA) (w : World) (hV : ∀ W, MSl W m A -> Calls Tryz.prog 21 #[mV m A] W fun r w' => r = .returned (.bool (vfB m)) /\ Below W.heap.size W w') (hz : vfB m = true -> ∃ code, code ≠ 0 /\ SpecZ m.labels.length m.below.length (pr1 m) (pr2 m) code) (hf : FitM m) (ha : MSl w m A) :
 Calls Tryz.prog 6 #[mV m A] w fun r w' => ∃ a0 c0, r = .returned (.slice a0 0 c0) /\ Below w.heap.size w w' := by
 have HCo := h_ fun W => l4Order_any m A W hf
 have HV := h_ hV; have HZ := h_ hz
 have HPm := h_ fun W (hs : MSl W m A) => pairs_m hs
 obtain ⟨al, alc, ap, apc, ar, arc, af, afc, afa⟩ := A
 unfold mV at HV HCo ⊢
 dsimp only at HV HCo HPm ⊢
 have HK := h_ (Blk.new w 35 #[.slice al m.labels.length alc, .slice ap m.below.length apc, .slice ar m.roles.length arc, .slice af m.fields.length afc])
 have HB := h_ ((Below.refl w.heap.size w).alloc (Nat.le_refl _) (.cells #[.slice al m.labels.length alc, .slice ap m.below.length apc, .slice ar m.roles.length arc, .slice af m.fields.length afc] 35))
 obtain ⟨W0, hW0⟩ : ∃ W0, w.alloc (.cells #[.slice al m.labels.length alc, .slice ap m.below.length apc, .slice ar m.roles.length arc, .slice af m.fields.length afc] 35) = W0 := ⟨_, rfl⟩
 rw [hW0] at HK HB
 have HS := h_ (ha.mono (u_ HB))
 clear ha hf hV hz
 obtain ⟨y0, y1, y2, y3⟩ := quad (u_ HK)
 go_enter Tryz.func6, Tryz.ntmps6
 go_wp2_with fail
 try rw [hW0]
 refine (u_ HV W0 (u_ HS)).mono ?_
 rintro r W1 ⟨rfl, hb⟩
 replace HK := mB HK hb; replace HS := h_ ((u_ HS).mono hb); replace HB := mT HB hb
 clear hb hW0 y0 y1 y2 y3
 obtain ⟨y0, y1, y2, y3⟩ := quad (u_ HK)
 cases hq : vfB m
 . have HB2 := h_ ((u_ HB).alloc (u_ HB).size (.cells #[] 3))
   clear hq
   go_wp2_with fail
   go_ret
   first | exact ⟨_, ⟨_, rfl⟩, u_ HB2⟩ | exact ⟨_, _, rfl, u_ HB2⟩
 . obtain ⟨code, hc0, hz⟩ := u_ HZ hq
   have HZz := h_ hz
   have hc0' : (code != 0) = true := by simpa using hc0
   clear hq hz hc0 HZ
   go_wp2_with fail
   refine (u_ HCo W1).mono ?_
   rintro r W2 ⟨rfl, hb⟩
   replace HS := h_ ((u_ HS).mono hb); replace HB := mT HB hb
   have HC2 := h_ (u_ HZz W2 ap apc (u_ HPm W2 (u_ HS)))
   unfold zeroL at HC2
   clear hb y0 y1 y2 y3
   go_wp2_with fail
   refine (u_ HC2).mono ?_
   rintro r W3 ⟨rfl, hb⟩
   replace HB := mT HB hb
   have HB3 := h_ (((u_ HB).alloc (u_ HB).size (.cells #[.int .i64 0, .slice none 0 0, .slice none 0 0, .slice none 0 0, .int .i64 0, .int .i64 0] 53)).alloc (by simp; have := (u_ HB).size; omega) (.cells #[] 3))
   clear hb
   go_wp2_with fail
   go_ret
   first | exact ⟨_, ⟨_, rfl⟩, u_ HB3⟩ | exact ⟨_, _, rfl, u_ HB3⟩
set_option maxRecDepth 100000 in
set_option maxHeartbeats 4000000 in
theorem specInfer_f (m : Fm) (A : MA) (w : World) (bot top : Int) (s n bt tp : Nat) (F : Nat -> Bool) (J M : Nat -> Int) (hV : ∀ W, MSl W m A -> Calls Tryz.prog 21 #[mV m A] W fun r w' => r = .returned (.bool (vfB m)) /\ Below W.heap.size W w') (hq : vfB m = true) (hv : VfA m) (hz : SpecF m.labels.length m.below.length (pr1 m) (pr2 m) s F J M bot top) (hL : ValidP m.labels.length s s s F J M bot top n bt tp) (hf : FitM m) (ha : MSl w m A) :
 Calls Tryz.prog 6 #[mV m A] w fun r w' => ∃ f a0 c0, r = .returned (.slice a0 m.fields.length c0) /\ Sol m n (fun a b => F (a * n + b) = true) f /\ Low m n (fun a b => F (a * n + b) = true) f /\ Plc w' a0 (lsL f m.fields.length) /\ Below w.heap.size w w' := by
 have HCo := h_ fun W => l4Order_any m A W hf
 have HV := h_ hV; have HZz := h_ hz
 have HPm := h_ fun W (hs : MSl W m A) => pairs_m hs
 have hN : m.labels.length = n := by have := hL.hN; omega
 have HCl := h_ fun W (a1 a2 a3 : Option Addr) (c1 c2 c3 : Nat) (hs : MSl W m A) (hj : Ints W a2 s J) => l4Labels_any m A W m.labels.length bot top s n bt tp F J M a1 a2 a3 c1 c2 c3 hv hf hL hN hs hj
 obtain ⟨al, alc, ap, apc, ar, arc, af, afc, afa⟩ := A
 unfold mV at HV HCo HCl ⊢
 dsimp only at HV HCo HPm HCl ⊢
 have HK := h_ (Blk.new w 35 #[.slice al m.labels.length alc, .slice ap m.below.length apc, .slice ar m.roles.length arc, .slice af m.fields.length afc])
 have HB := h_ ((Below.refl w.heap.size w).alloc (Nat.le_refl _) (.cells #[.slice al m.labels.length alc, .slice ap m.below.length apc, .slice ar m.roles.length arc, .slice af m.fields.length afc] 35))
 obtain ⟨W0, hW0⟩ : ∃ W0, w.alloc (.cells #[.slice al m.labels.length alc, .slice ap m.below.length apc, .slice ar m.roles.length arc, .slice af m.fields.length afc] 35) = W0 := ⟨_, rfl⟩
 rw [hW0] at HK HB
 have HS := h_ (ha.mono (u_ HB))
 clear ha hf hV hz hL hv hN
 obtain ⟨y0, y1, y2, y3⟩ := quad (u_ HK)
 go_enter Tryz.func6, Tryz.ntmps6
 go_wp2_with fail
 try rw [hW0]
 refine (u_ HV W0 (u_ HS)).mono ?_
 rintro r W1 ⟨rfl, hb⟩
 replace HK := mB HK hb; replace HS := h_ ((u_ HS).mono hb); replace HB := mT HB hb
 clear hb hW0 y0 y1 y2 y3
 obtain ⟨y0, y1, y2, y3⟩ := quad (u_ HK)
 rw [hq]
 clear hq
 go_wp2_with fail
 refine (u_ HCo W1).mono ?_
 rintro r W2 ⟨rfl, hb⟩
 replace HK := mB HK hb; replace HS := h_ ((u_ HS).mono hb); replace HB := mT HB hb
 have HC2 := h_ (u_ HZz W2 ap apc (u_ HPm W2 (u_ HS)))
 clear hb y0 y1 y2 y3
 go_wp2_with fail
 refine (u_ HC2).mono ?_
 rintro r W3 ⟨a1, a2, a3, c1, c2, c3, rfl, -, hj, -, hb⟩
 replace HK := mB HK hb; replace HS := h_ ((u_ HS).mono hb); replace HB := mT HB hb
 have HX := h_ (Blk.new W3 53 #[.int .i64 m.labels.length, .slice a1 s c1, .slice a2 s c2, .slice a3 s c3, .int .i64 bot, .int .i64 top])
 have hba := (Below.refl W3.heap.size W3).alloc (Nat.le_refl _) (.cells #[.int .i64 m.labels.length, .slice a1 s c1, .slice a2 s c2, .slice a3 s c3, .int .i64 bot, .int .i64 top] 53)
 obtain ⟨W4, hW4⟩ : ∃ W4, W3.alloc (.cells #[.int .i64 m.labels.length, .slice a1 s c1, .slice a2 s c2, .slice a3 s c3, .int .i64 bot, .int .i64 top] 53) = W4 := ⟨_, rfl⟩
 rw [hW4] at HX hba
 replace HK := mB HK hba; replace HS := h_ ((u_ HS).mono hba); replace HB := mT HB hba
 have HC3 := h_ (u_ HCl W4 a1 a2 a3 c1 c2 c3 (u_ HS) (hj.mono hba))
 obtain ⟨⟨x0, x1, x2, x3, x4, x5⟩, -⟩ := six' (u_ HX)
 obtain ⟨y0, y1, y2, y3⟩ := quad (u_ HK)
 clear hb hba hj HCl HC2
 go_wp2_with fail
 try rw [hW4]
 refine (u_ HC3).mono ?_
 rintro r W5 ⟨f, a0, c0, rfl, h1, h2, h3, hb⟩
 replace HB := mT HB hb
 have H1 := h_ h1; have H2 := h_ h2; have H3 := h_ h3
 clear hb hW4 h1 h2 h3 x0 x1 x2 x3 x4 x5 y0 y1 y2 y3
 go_wp2_with fail
 go_ret
 first | exact ⟨f, a0, c0, rfl, u_ H1, u_ H2, u_ H3, u_ HB⟩ | exact ⟨f, a0, ⟨c0, rfl⟩, u_ H1, u_ H2, u_ H3, u_ HB⟩ | exact ⟨f, ⟨a0, ⟨c0, rfl⟩, u_ H1, u_ H2, u_ H3⟩, u_ HB⟩
end Go.Proofs.YtalgidagiojbpaaGreatDoor
/- buildLattice and InferLabels, of the program. -/
namespace Go.Proofs.YtalgidagiojbpaaGreatDoor
open Go Go.RowKit
/-- What a lattice looks like as a value. -/
abbrev latV (N : Int) (a1 a2 a3 : Option Addr) (s1 c1 s2 c2 s3 c3 : Nat) (bot top : Int) : Value := .agg #[.int .i64 N, .slice a1 s1 c1, .slice a2 s2 c2, .slice a3 s3 c3, .int .i64 bot, .int .i64 top]
set_option maxRecDepth 100000 in
set_option maxHeartbeats 2000000 in
theorem buildLattice_z (m : Fm) (A : MA) (b : Nat) (code : Int) (w : World) (hz : ImplZ m.labels.length m.below.length (pr1 m) (pr2 m) code) (hf : FitM m) (ha : MSl w m A) (ht : Tab w) :
 Calls Tryz.prog 30 #[wV m A b] w fun r w' => r = .returned (.tuple #[zeroL, .int .i64 code]) /\ Below w.heap.size w w' := by
 have HZ := h_ hz
 have HPm := h_ fun W (hs : MSl W m A) => pairs_m hs
 have h1 := hf.ll
 obtain ⟨al, alc, ap, apc, ar, arc, af, afc, afa⟩ := A
 unfold wV
 dsimp only at HPm ⊢
 have HK := h_ ((Blk.new w 66 #[.slice al m.labels.length alc, .slice ap m.below.length apc, .slice ar m.roles.length arc, .slice af m.fields.length afc, .map (some b)]).alloc (.cells #[.int .i64 0, .slice none 0 0, .slice none 0 0, .slice none 0 0, .int .i64 0, .int .i64 0] 53))
 have HR := h_ (Blk.new (w.alloc (.cells #[.slice al m.labels.length alc, .slice ap m.below.length apc, .slice ar m.roles.length arc, .slice af m.fields.length afc, .map (some b)] 66)) 53 #[.int .i64 0, .slice none 0 0, .slice none 0 0, .slice none 0 0, .int .i64 0, .int .i64 0])
 rw [World.size_alloc] at HR
 have HB := h_ (((Below.refl w.heap.size w).alloc (Nat.le_refl _) (.cells #[.slice al m.labels.length alc, .slice ap m.below.length apc, .slice ar m.roles.length arc, .slice af m.fields.length afc, .map (some b)] 66)).alloc (by simp) (.cells #[.int .i64 0, .slice none 0 0, .slice none 0 0, .slice none 0 0, .int .i64 0, .int .i64 0] 53))
 obtain ⟨W0, hW0⟩ : ∃ W0, (w.alloc (.cells #[.slice al m.labels.length alc, .slice ap m.below.length apc, .slice ar m.roles.length arc, .slice af m.fields.length afc, .map (some b)] 66)).alloc (.cells #[.int .i64 0, .slice none 0 0, .slice none 0 0, .slice none 0 0, .int .i64 0, .int .i64 0] 53) = W0 := ⟨_, rfl⟩
 have hs0 : W0.heap.size = w.heap.size + 2 := by rw [<- hW0]; simp
 rw [hW0] at HK HR HB
 obtain ⟨y0, y1, y2, y3, y4⟩ := five (u_ HK)
 have HC2 := h_ (u_ HZ W0 ap apc (u_ HPm W0 (ha.mono (u_ HB))) (ht.mono (u_ HB)))
 unfold zeroL at HC2 ⊢
 clear hf hz ha ht
 go_enter Tryz.func30, Tryz.ntmps30
 go_wp2_with fail
 try rw [hW0]
 refine (u_ HC2).mono ?_
 rintro r W1 ⟨rfl, hb⟩
 rw [hs0] at hb
 replace HR := h_ ((u_ HR).mono hb (by omega)); replace HB := h_ ((u_ HB).trans (hb.mono (by omega)))
 obtain ⟨r0, r1, r2, r3, r4, r5⟩ := (six' (u_ HR)).1
 obtain ⟨f0, f1, f2, f3, f4, f5⟩ := (six' (u_ HR)).2
 have HR9 := h_ (((((((u_ HR).set 0 (.int .i64 0)).set 1 (.slice none 0 0)).set 2 (.slice none 0 0)).set 3 (.slice none 0 0)).set 4 (.int .i64 0)).set 5 (.int .i64 0))
 simp only [List.set_cons_zero, List.set_cons_succ] at HR9
 have HB9 := h_ (((((((u_ HB).setCell (p := ⟨w.heap.size + 1, 0, none⟩) (by simp) (.int .i64 0)).setCell (p := ⟨w.heap.size + 1, 1, none⟩) (by simp) (.slice none 0 0)).setCell (p := ⟨w.heap.size + 1, 2, none⟩) (by simp) (.slice none 0 0)).setCell (p := ⟨w.heap.size + 1, 3, none⟩) (by simp) (.slice none 0 0)).setCell (p := ⟨w.heap.size + 1, 4, none⟩) (by simp) (.int .i64 0)).setCell (p := ⟨w.heap.size + 1, 5, none⟩) (by simp) (.int .i64 0))
 clear hb hW0 y0 y1 y2 y3 y4
 go_wp2_with fail
 obtain ⟨k0, k1, k2, k3, k4, k5⟩ := (six' (u_ HR9)).1
 exact bodyPost_ret (v := .tuple #[.agg #[.int .i64 0, .slice none 0 0, .slice none 0 0, .slice none 0 0, .int .i64 0, .int .i64 0], .int .i64 code]) (by simp [results, Tryz.results30, go_sem, k0, k1, k2, k3, k4, k5]) rfl ⟨rfl, u_ HB9⟩
set_option maxRecDepth 100000 in
set_option maxHeartbeats 2000000 in
theorem buildLattice_f (m : Fm) (A : MA) (b s : Nat) (F : Nat -> Bool) (J M : Nat -> Int) (bot top : Int) (w : World) (hz : ImplF m.labels.length m.below.length (pr1 m) (pr2 m) s F J M bot top) (hf : FitM m) (ha : MSl w m A) (ht : Tab w) :
 Calls Tryz.prog 30 #[wV m A b] w fun r w' => ∃ a1 a2 a3 c1 c2 c3, r = .returned (.tuple #[latV m.labels.length a1 a2 a3 s c1 s c2 s c3 bot top, .int .i64 0]) /\ Bools w' a1 s F /\ Ints w' a2 s J /\ Below w.heap.size w w' := by
 have HZ := h_ hz
 have HPm := h_ fun W (hs : MSl W m A) => pairs_m hs
 have h1 := hf.ll
 obtain ⟨al, alc, ap, apc, ar, arc, af, afc, afa⟩ := A
 unfold wV
 dsimp only at HPm ⊢
 have HK := h_ ((Blk.new w 66 #[.slice al m.labels.length alc, .slice ap m.below.length apc, .slice ar m.roles.length arc, .slice af m.fields.length afc, .map (some b)]).alloc (.cells #[.int .i64 0, .slice none 0 0, .slice none 0 0, .slice none 0 0, .int .i64 0, .int .i64 0] 53))
 have HR := h_ (Blk.new (w.alloc (.cells #[.slice al m.labels.length alc, .slice ap m.below.length apc, .slice ar m.roles.length arc, .slice af m.fields.length afc, .map (some b)] 66)) 53 #[.int .i64 0, .slice none 0 0, .slice none 0 0, .slice none 0 0, .int .i64 0, .int .i64 0])
 rw [World.size_alloc] at HR
 have HB := h_ (((Below.refl w.heap.size w).alloc (Nat.le_refl _) (.cells #[.slice al m.labels.length alc, .slice ap m.below.length apc, .slice ar m.roles.length arc, .slice af m.fields.length afc, .map (some b)] 66)).alloc (by simp) (.cells #[.int .i64 0, .slice none 0 0, .slice none 0 0, .slice none 0 0, .int .i64 0, .int .i64 0] 53))
 obtain ⟨W0, hW0⟩ : ∃ W0, (w.alloc (.cells #[.slice al m.labels.length alc, .slice ap m.below.length apc, .slice ar m.roles.length arc, .slice af m.fields.length afc, .map (some b)] 66)).alloc (.cells #[.int .i64 0, .slice none 0 0, .slice none 0 0, .slice none 0 0, .int .i64 0, .int .i64 0] 53) = W0 := ⟨_, rfl⟩
 have hs0 : W0.heap.size = w.heap.size + 2 := by rw [<- hW0]; simp
 rw [hW0] at HK HR HB
 obtain ⟨y0, y1, y2, y3, y4⟩ := five (u_ HK)
 have HC2 := h_ (u_ HZ W0 ap apc (u_ HPm W0 (ha.mono (u_ HB))) (ht.mono (u_ HB)))
 clear hf hz ha ht
 go_enter Tryz.func30, Tryz.ntmps30
 go_wp2_with fail
 try rw [hW0]
 refine (u_ HC2).mono ?_
 rintro r W1 ⟨G1, G2, G3, rfl, k1, k2, -, g1, g2, -, -, -, -, hb⟩
 rw [hs0] at hb g1 g2
 replace HR := h_ ((u_ HR).mono hb (by omega)); replace HB := h_ ((u_ HB).trans (hb.mono (by omega)))
 obtain ⟨r0, r1, r2, r3, r4, r5⟩ := (six' (u_ HR)).1
 obtain ⟨f0, f1, f2, f3, f4, f5⟩ := (six' (u_ HR)).2
 have HR9 := h_ (((((((u_ HR).set 0 (.int .i64 m.labels.length)).set 1 (.slice (some ⟨G1, 0, none⟩) s s)).set 2 (.slice (some ⟨G2, 0, none⟩) s s)).set 3 (.slice (some ⟨G3, 0, none⟩) s s)).set 4 (.int .i64 bot)).set 5 (.int .i64 top))
 simp only [List.set_cons_zero, List.set_cons_succ] at HR9
 have HB9 := h_ (((((((u_ HB).setCell (p := ⟨w.heap.size + 1, 0, none⟩) (by simp) (.int .i64 m.labels.length)).setCell (p := ⟨w.heap.size + 1, 1, none⟩) (by simp) (.slice (some ⟨G1, 0, none⟩) s s)).setCell (p := ⟨w.heap.size + 1, 2, none⟩) (by simp) (.slice (some ⟨G2, 0, none⟩) s s)).setCell (p := ⟨w.heap.size + 1, 3, none⟩) (by simp) (.slice (some ⟨G3, 0, none⟩) s s)).setCell (p := ⟨w.heap.size + 1, 4, none⟩) (by simp) (.int .i64 bot)).setCell (p := ⟨w.heap.size + 1, 5, none⟩) (by simp) (.int .i64 top))
 have keep : ∀ {g : Nat} {t : TypeId} {cs : List Value}, Blk W1 g t cs -> w.heap.size + 2 <= g -> Blk ((((((W1.setCell ⟨w.heap.size + 1, 0, none⟩ (.int .i64 m.labels.length)).setCell ⟨w.heap.size + 1, 1, none⟩ (.slice (some ⟨G1, 0, none⟩) s s)).setCell ⟨w.heap.size + 1, 2, none⟩ (.slice (some ⟨G2, 0, none⟩) s s)).setCell ⟨w.heap.size + 1, 3, none⟩ (.slice (some ⟨G3, 0, none⟩) s s)).setCell ⟨w.heap.size + 1, 4, none⟩ (.int .i64 bot)).setCell ⟨w.heap.size + 1, 5, none⟩ (.int .i64 top)) g t cs := fun {g _ _} h hg => by
  have hne : ∀ j, g ≠ (⟨w.heap.size + 1, j, none⟩ : Addr).block := fun j => by show g ≠ w.heap.size + 1; omega
  exact (((((h.other _ (hne 0)).other _ (hne 1)).other _ (hne 2)).other _ (hne 3)).other _ (hne 4)).other _ (hne 5)
 have HK1 := h_ (Blk.bools (keep k1 g1)); have HK2 := h_ (Blk.ints (keep k2 g2))
 clear hb hW0 y0 y1 y2 y3 y4 k1 k2 g1 g2 keep
 go_wp2_with fail
 obtain ⟨k0, k1, k2, k3, k4, k5⟩ := (six' (u_ HR9)).1
 exact bodyPost_ret (v := .tuple #[latV m.labels.length (some ⟨G1, 0, none⟩) (some ⟨G2, 0, none⟩) (some ⟨G3, 0, none⟩) s s s s s s bot top, .int .i64 0]) (by simp [results, Tryz.results30, go_sem, k0, k1, k2, k3, k4, k5]) rfl ⟨_, _, _, _, _, _, rfl, u_ HK1, u_ HK2, u_ HB9⟩
set_option maxRecDepth 100000 in
set_option maxHeartbeats 4000000 in
theorem implInfer_z (m : Fm) (A : MA) (w : World) (hz : vfB m = true -> ∃ code, code ≠ 0 /\ ImplZ m.labels.length m.below.length (pr1 m) (pr2 m) code) (hf : FitM m) (hcap : Caps m A) (ha : MSl w m A) (ht : Tabs w) (hy : TyW w) (htb : Tab w) :
 Calls Tryz.prog 8 #[mV m A] w fun r w' => r = .returned (.slice none 0 0) /\ Below w.heap.size w w' := by
 have HZ := h_ hz
 have HCw := h_ fun W (hs : MSl W m A) (ht : Tabs W) (hy : TyW W) => wiringOf_any m A W hf hcap hs ht hy
 have HCl := h_ fun W b code (h : ImplZ m.labels.length m.below.length (pr1 m) (pr2 m) code) (hs : MSl W m A) (ht : Tab W) => buildLattice_z m A b code W h hf hs ht
 obtain ⟨al, alc, ap, apc, ar, arc, af, afc, afa⟩ := A
 unfold mV at HCw ⊢
 unfold wV at HCw HCl
 unfold zeroL at HCl
 dsimp only at HCw HCl ⊢
 have HK := h_ (Blk.new w 35 #[.slice al m.labels.length alc, .slice ap m.below.length apc, .slice ar m.roles.length arc, .slice af m.fields.length afc])
 have HB := h_ ((Below.refl w.heap.size w).alloc (Nat.le_refl _) (.cells #[.slice al m.labels.length alc, .slice ap m.below.length apc, .slice ar m.roles.length arc, .slice af m.fields.length afc] 35))
 obtain ⟨W0, hW0⟩ : ∃ W0, w.alloc (.cells #[.slice al m.labels.length alc, .slice ap m.below.length apc, .slice ar m.roles.length arc, .slice af m.fields.length afc] 35) = W0 := ⟨_, rfl⟩
 rw [hW0] at HK HB
 have HS := h_ (ha.mono (u_ HB)); have HT := h_ (ht.mono (u_ HB)); have HY := h_ (hy.mono (u_ HB)); have HTb := h_ (htb.mono (u_ HB))
 clear ha ht hy hf hcap htb hz
 obtain ⟨y0, y1, y2, y3⟩ := quad (u_ HK)
 go_enter Tryz.func8, Tryz.ntmps8
 go_wp2_with fail
 try rw [hW0]
 refine (u_ HCw W0 (u_ HS) (u_ HT) (u_ HY)).mono ?_
 rintro r W1 ⟨h | h, hb1⟩
 . obtain ⟨hq, rfl⟩ := h
   replace HB := mT HB hb1
   have HBz := h_ ((u_ HB).alloc (u_ HB).size (.cells #[.slice none 0 0, .slice none 0 0, .slice none 0 0, .slice none 0 0, .map none] 66))
   clear hb1 hW0 y0 y1 y2 y3 hq
   go_wp2_with fail
   go_ret
   exact ⟨rfl, u_ HBz⟩
 . obtain ⟨hq, b, rfl, hm⟩ := h
   obtain ⟨code, hc0, hz⟩ := u_ HZ hq
   have hc0' : (code != 0) = true := by simpa using hc0
   have HZ2 := h_ hz
   replace HS := h_ ((u_ HS).mono hb1); replace HTb := h_ ((u_ HTb).mono hb1); replace HB := mT HB hb1
   clear hb1 hW0 y0 y1 y2 y3 hq hm HT HY HCw hz hc0 HZ
   have HKw := h_ (Blk.new W1 66 #[.slice al m.labels.length alc, .slice ap m.below.length apc, .slice ar m.roles.length arc, .slice af m.fields.length afc, .map (some b)])
   have hba := (Below.refl W1.heap.size W1).alloc (Nat.le_refl _) (.cells #[.slice al m.labels.length alc, .slice ap m.below.length apc, .slice ar m.roles.length arc, .slice af m.fields.length afc, .map (some b)] 66)
   obtain ⟨W2, hW2⟩ : ∃ W2, W1.alloc (.cells #[.slice al m.labels.length alc, .slice ap m.below.length apc, .slice ar m.roles.length arc, .slice af m.fields.length afc, .map (some b)] 66) = W2 := ⟨_, rfl⟩
   rw [hW2] at HKw hba
   replace HS := h_ ((u_ HS).mono hba); replace HTb := h_ ((u_ HTb).mono hba); replace HB := mT HB hba
   obtain ⟨X, hX⟩ : ∃ X, W1.heap.size = X := ⟨_, rfl⟩
   rw [hX] at HKw
   clear hba
   obtain ⟨z0, z1, z2, z3, z4⟩ := five (u_ HKw)
   go_wp2_with fail
   try rw [hW2]
   refine (u_ HCl W2 b code (u_ HZ2) (u_ HS) (u_ HTb)).mono ?_
   rintro r W3 ⟨rfl, hb3⟩
   replace HB := mT HB hb3
   have HBz := h_ ((u_ HB).alloc (u_ HB).size (.cells #[.int .i64 0, .slice none 0 0, .slice none 0 0, .slice none 0 0, .int .i64 0, .int .i64 0] 53))
   clear hb3 hW2 z0 z1 z2 z3 z4 hX
   go_wp2_with fail
   go_ret
   exact ⟨rfl, u_ HBz⟩
set_option maxRecDepth 100000 in
set_option maxHeartbeats 4000000 in
theorem implInfer_f (m : Fm) (A : MA) (w : World) (bot top : Int) (s n bt tp : Nat) (F : Nat -> Bool) (J M : Nat -> Int) (hq : vfB m = true) (hv : VfA m) (hz : ImplF m.labels.length m.below.length (pr1 m) (pr2 m) s F J M bot top) (hL : ValidP m.labels.length s s s F J M bot top n bt tp) (hf : FitM m) (hcap : Caps m A) (ha : MSl w m A) (ht : Tabs w) (hy : TyW w) (htb : Tab w) :
 Calls Tryz.prog 8 #[mV m A] w fun r w' => ∃ v f, r = .returned v /\ w'.ownsRow w.heap.size 3 1 v m.fields.length (ui (lsL f m.fields.length)) /\ Sol m n (fun a b => F (a * n + b) = true) f /\ Low m n (fun a b => F (a * n + b) = true) f /\ Below w.heap.size w w' := by
 have hN : m.labels.length = n := by have := hL.hN; omega
 have HCw := h_ fun W (hs : MSl W m A) (ht : Tabs W) (hy : TyW W) => wiringOf_any m A W hf hcap hs ht hy
 have HCl := h_ fun W b (hs : MSl W m A) (ht : Tab W) => buildLattice_f m A b s F J M bot top W hz hf hs ht
 have HCi := h_ fun W b (a1 a2 a3 : Option Addr) (c1 c2 c3 : Nat) (hs : MSl W m A) (hm : PMap W b (fNames m)) (hI : Ints W a2 (n * n) J) => inferLabels_any m A b n bt (fun a b => F (a * n + b)) _ J a1 a2 a3 c1 c2 c3 top W hv hf (latP_of hL) hN hL.h32 (fun a b ha hb => join_nat hL ha hb) hs hm hI
 have e1 := hL.l1
 have e2 := hL.hb
 subst e1
 subst e2
 obtain ⟨al, alc, ap, apc, ar, arc, af, afc, afa⟩ := A
 unfold mV at HCw ⊢
 unfold wV at HCw HCl HCi
 unfold latV at HCl
 rw [hN] at HCl
 dsimp only at HCw HCl HCi ⊢
 have HK := h_ (Blk.new w 35 #[.slice al m.labels.length alc, .slice ap m.below.length apc, .slice ar m.roles.length arc, .slice af m.fields.length afc])
 have HB := h_ ((Below.refl w.heap.size w).alloc (Nat.le_refl _) (.cells #[.slice al m.labels.length alc, .slice ap m.below.length apc, .slice ar m.roles.length arc, .slice af m.fields.length afc] 35))
 obtain ⟨W0, hW0⟩ : ∃ W0, w.alloc (.cells #[.slice al m.labels.length alc, .slice ap m.below.length apc, .slice ar m.roles.length arc, .slice af m.fields.length afc] 35) = W0 := ⟨_, rfl⟩
 rw [hW0] at HK HB
 have HS := h_ (ha.mono (u_ HB)); have HT := h_ (ht.mono (u_ HB)); have HY := h_ (hy.mono (u_ HB)); have HTb := h_ (htb.mono (u_ HB))
 rw [hN] at HCw HCi HK hW0
 try rw [hN]
 clear ha ht hy hf hcap htb hz hL hN hv
 obtain ⟨y0, y1, y2, y3⟩ := quad (u_ HK)
 go_enter Tryz.func8, Tryz.ntmps8
 have HQ := h_ hq
 clear hq
 go_wp2_with fail
 try rw [hW0]
 refine (u_ HCw W0 (u_ HS) (u_ HT) (u_ HY)).mono ?_
 rintro r W1 ⟨h | h, hb1⟩
 . exact absurd (h.1.symm.trans (u_ HQ)) (by decide)
 . obtain ⟨hq, b, rfl, hm⟩ := h
   have HM := h_ hm
   replace HS := h_ ((u_ HS).mono hb1); replace HTb := h_ ((u_ HTb).mono hb1); replace HB := mT HB hb1
   clear hb1 hW0 y0 y1 y2 y3 hq hm HT HY HCw
   have HKw := h_ (Blk.new W1 66 #[.slice al n alc, .slice ap m.below.length apc, .slice ar m.roles.length arc, .slice af m.fields.length afc, .map (some b)])
   have hba := (Below.refl W1.heap.size W1).alloc (Nat.le_refl _) (.cells #[.slice al n alc, .slice ap m.below.length apc, .slice ar m.roles.length arc, .slice af m.fields.length afc, .map (some b)] 66)
   obtain ⟨W2, hW2⟩ : ∃ W2, W1.alloc (.cells #[.slice al n alc, .slice ap m.below.length apc, .slice ar m.roles.length arc, .slice af m.fields.length afc, .map (some b)] 66) = W2 := ⟨_, rfl⟩
   rw [hW2] at HKw hba
   replace HS := h_ ((u_ HS).mono hba); replace HTb := h_ ((u_ HTb).mono hba); replace HM := h_ ((u_ HM).mono hba); replace HB := mT HB hba
   obtain ⟨X, hX⟩ : ∃ X, W1.heap.size = X := ⟨_, rfl⟩
   rw [hX] at HKw
   clear hba
   obtain ⟨z0, z1, z2, z3, z4⟩ := five (u_ HKw)
   have HC2 := h_ (u_ HCl W2 b (u_ HS) (u_ HTb))
   go_wp2_with fail
   try rw [hW2]
   refine (u_ HC2).mono ?_
   rintro r W3 ⟨a1, a2, a3, c1, c2, c3, rfl, -, hj, hb3⟩
   replace HB := mT HB hb3; replace HKw := mB HKw hb3; replace HS := h_ ((u_ HS).mono hb3); replace HM := h_ ((u_ HM).mono hb3)
   have HX := h_ (Blk.new W3 53 #[.int .i64 n, .slice a1 (n * n) c1, .slice a2 (n * n) c2, .slice a3 (n * n) c3, .int .i64 (bt : Int), .int .i64 top])
   have hba := (Below.refl W3.heap.size W3).alloc (Nat.le_refl _) (.cells #[.int .i64 n, .slice a1 (n * n) c1, .slice a2 (n * n) c2, .slice a3 (n * n) c3, .int .i64 (bt : Int), .int .i64 top] 53)
   obtain ⟨W4, hW4⟩ : ∃ W4, W3.alloc (.cells #[.int .i64 n, .slice a1 (n * n) c1, .slice a2 (n * n) c2, .slice a3 (n * n) c3, .int .i64 (bt : Int), .int .i64 top] 53) = W4 := ⟨_, rfl⟩
   rw [hW4] at HX hba
   replace HB := mT HB hba; replace HKw := mB HKw hba; replace HS := h_ ((u_ HS).mono hba); replace HM := h_ ((u_ HM).mono hba)
   have HC3 := h_ (u_ HCi W4 b a1 a2 a3 c1 c2 c3 (u_ HS) (u_ HM) (hj.mono hba))
   clear hb3 hW2 z0 z1 z2 z3 z4 hba hj HC2
   obtain ⟨z0, z1, z2, z3, z4⟩ := five (u_ HKw)
   obtain ⟨x0, x1, x2, x3, x4, x5⟩ := (six' (u_ HX)).1
   go_wp2_with fail
   try rw [hX]
   try rw [hW4]
   clear hX
   refine (u_ HC3).mono ?_
   rintro r W5 ⟨v, f, rfl, ho, h1, h2, hb5⟩
   have HO := h_ (owns_base ho (u_ HB).size)
   replace HB := mT HB hb5
   have H1 := h_ h1; have H2 := h_ h2
   clear hb5 ho h1 h2 hW4 x0 x1 x2 x3 x4 x5 z0 z1 z2 z3 z4
   go_wp2_with fail
   go_ret
   first | exact ⟨v, f, rfl, u_ HO, u_ H1, u_ H2, u_ HB⟩ | exact ⟨v, rfl, f, u_ HO, u_ H1, u_ H2, u_ HB⟩ | exact ⟨f, u_ HO, u_ H1, u_ H2, u_ HB⟩
end Go.Proofs.YtalgidagiojbpaaGreatDoor
/- The law FnExactInferLabels. -/
namespace Go.Proofs.YtalgidagiojbpaaGreatDoor
open Go Go.RowKit
/-- What lay when the copy was made, seen from later. -/
structure OldL (m : Fm) (A : MA) (X : Nat) (cs : List Value) (a0 : Option Addr) (l : List Nat) (W : World) : Prop where
 k : Blk W X 27 cs
 s : MSl W m A
 t : Tabs W
 y : TyW W
 b : Tab W
 p : Plc W a0 l
theorem OldL.mono {m : Fm} {A : MA} {X : Nat} {cs : List Value} {a0 : Option Addr} {l : List Nat} {W W' : World} (h : OldL m A X cs a0 l W) (hb : Below W.heap.size W W') : OldL m A X cs a0 l W' := ⟨h.k.mono hb h.k.lt, h.s.mono hb, h.t.mono hb, h.y.mono hb, h.b.mono hb, h.p.mono hb⟩
set_option maxRecDepth 100000 in
set_option maxHeartbeats 16000000 in
theorem lawInfer_of (m : Fm) (A : MA) (cl : List Nat) (w : World) (hcl : cl.length <= 1000000) (hsp : Sm m -> ∀ W A', MSl W m A' -> Calls Tryz.prog 6 #[mV m A'] W fun r w' => ∃ a0 c0, r = .returned (.slice a0 cl.length c0) /\ Plc w' a0 cl /\ Below W.heap.size W w') (him : Sm m -> ∀ W A', Caps m A' -> MSl W m A' -> Tabs W -> TyW W -> Tab W -> Calls Tryz.prog 8 #[mV m A'] W fun r w' => ∃ v, r = .returned v /\ w'.ownsRow W.heap.size 3 1 v cl.length (ui cl) /\ Below W.heap.size W w') (hf : FitM m) (ha : MSl w m A) (ht : Tabs w) (hy : TyW w) (htb : Tab w) :
 Calls Tryz.prog 3 #[mV m A] w fun r w' => r = .returned (.bool true) /\ Below w.heap.size w w' := by
 obtain ⟨al, alc, ap, apc, ar, arc, af, afc, afa⟩ := A
 have HF := h_ hf
 have HCz := h_ fun W (hs : MSl W m ⟨al, alc, ap, apc, ar, arc, af, afc, afa⟩) => szForm_any m ⟨al, alc, ap, apc, ar, arc, af, afc, afa⟩ 1048576 W hf (by omega) (by omega) hs
 have HCt := h_ fun W (hn : Sm m) (hs : MSl W m ⟨al, alc, ap, apc, ar, arc, af, afc, afa⟩) => toForm_bk m ⟨al, alc, ap, apc, ar, arc, af, afc, afa⟩ W hn hs
 have HCs0 := h_ hsp
 have HCi0 := h_ him
 have HCe := h_ fun W A1 A2 (hn : Sm m) (h1 : MSl W m A1) (h2 : MSl W m A2) => eqForm_any m A1 A2 W hn h1 h2
 have HCq := h_ fun (W : World) a b ca cb (h1 : Plc W a (cl)) (h2 : Plc W b (cl)) => eqPlc_any a b (cl) ca cb W hcl h1 h2
 have HCk := h_ fun (lo hi : Nat) (w0 W : World) (A' : MA) (hn : Sm m) hz hM hbk (hs : MSl W m A') => markForm_bk m A' lo hi w0 W hn hz hM hbk hs
 clear hsp him
 unfold mV at HCz HCt HCs0 HCi0 HCe HCk ⊢
 dsimp only at HCz HCt ⊢
 have HK := h_ (Blk.new w 27 #[.slice al m.labels.length alc, .slice ap m.below.length apc, .slice ar m.roles.length arc, .slice af m.fields.length afc])
 have HB := h_ ((Below.refl w.heap.size w).alloc (Nat.le_refl _) (.cells #[.slice al m.labels.length alc, .slice ap m.below.length apc, .slice ar m.roles.length arc, .slice af m.fields.length afc] 27))
 obtain ⟨W0, hW0⟩ : ∃ W0, w.alloc (.cells #[.slice al m.labels.length alc, .slice ap m.below.length apc, .slice ar m.roles.length arc, .slice af m.fields.length afc] 27) = W0 := ⟨_, rfl⟩
 rw [hW0] at HK HB
 have HS := h_ (ha.mono (u_ HB)); have HT := h_ (ht.mono (u_ HB)); have HY := h_ (hy.mono (u_ HB)); have HTb := h_ (htb.mono (u_ HB))
 clear ha ht hy hf htb
 obtain ⟨y0, y1, y2, y3⟩ := quad (u_ HK)
 go_enter Tryz.func3, Tryz.ntmps3
 go_wp2_with fail
 try rw [hW0]
 refine (u_ HCz W0 (u_ HS)).mono ?_
 rintro r W1 ⟨z, rfl, hz, hb⟩
 replace HK := mB HK hb; replace HS := h_ ((u_ HS).mono hb); replace HT := h_ ((u_ HT).mono hb); replace HY := h_ ((u_ HY).mono hb); replace HTb := h_ ((u_ HTb).mono hb); replace HB := mT HB hb
 clear hW0 hb y0 y1 y2 y3
 obtain ⟨y0, y1, y2, y3⟩ := quad (u_ HK)
 by_cases hzz : z < 0
 . clear hz
   go_wp2_with fail
   go_ret
   exact ⟨rfl, u_ HB⟩
 have HN := h_ (hz (by omega))
 have HCs := h_ (u_ HCs0 (u_ HN))
 have HCi := h_ (u_ HCi0 (u_ HN))
 clear HCs0 HCi0
 clear hz
 go_wp2_with fail
 refine (u_ HCt W1 (u_ HN) (u_ HS)).mono ?_
 rintro r W2 ⟨A1, rfl, hs1, hc1, -, hb⟩
 replace HK := mB HK hb; replace HS := h_ ((u_ HS).mono hb); replace HT := h_ ((u_ HT).mono hb); replace HY := h_ ((u_ HY).mono hb); replace HTb := h_ ((u_ HTb).mono hb); replace HB := mT HB hb
 have HS1 := h_ hs1
 clear hb y0 y1 y2 y3 hs1 hc1
 go_wp2_with fail
 refine (u_ HCs W2 A1 (u_ HS1)).mono ?_
 rintro r W3 ⟨a0, c0, rfl, hp, hb⟩
 replace HK := mB HK hb; replace HS := h_ ((u_ HS).mono hb); replace HT := h_ ((u_ HT).mono hb); replace HY := h_ ((u_ HY).mono hb); replace HTb := h_ ((u_ HTb).mono hb); replace HB := mT HB hb
 clear hb HS1 HCs
 have HOl : Hid (OldL m ⟨al, alc, ap, apc, ar, arc, af, afc, afa⟩ w.heap.size [.slice al m.labels.length alc, .slice ap m.below.length apc, .slice ar m.roles.length arc, .slice af m.fields.length afc] a0 cl W3) := h_ ⟨u_ HK, u_ HS, u_ HT, u_ HY, u_ HTb, hp⟩
 clear hp HK HS HT HY HTb
 obtain ⟨lo, hlo⟩ : ∃ lo, W3.heap.size = lo := ⟨_, rfl⟩
 have hwl : w.heap.size <= lo := by have := (u_ HB).size; omega
 obtain ⟨y0, y1, y2, y3⟩ := quad (u_ HOl).k
 go_wp2_with fail
 refine (u_ HCt W3 (u_ HN) (u_ HOl).s).mono ?_
 rintro r W4 ⟨A2, rfl, hs2, hc2, hmb, hb⟩
 obtain ⟨hi, hhi⟩ : ∃ hi, W4.heap.size = hi := ⟨_, rfl⟩
 have hlh : lo <= hi := by have := hb.size; omega
 rw [hlo] at hmb
 have HMb := h_ hmb
 have HL4 : Hid (Below W3.heap.size W3 W4) := h_ hb
 obtain ⟨bl, blc, bp, bpc, br, brc, bf, bfc, bfa⟩ := A2
 dsimp only
 have HX := h_ (Blk.new W4 35 #[.slice bl m.labels.length blc, .slice bp m.below.length bpc, .slice br m.roles.length brc, .slice bf m.fields.length bfc])
 have hbx := (Below.refl W4.heap.size W4).alloc (Nat.le_refl _) (.cells #[.slice bl m.labels.length blc, .slice bp m.below.length bpc, .slice br m.roles.length brc, .slice bf m.fields.length bfc] 35)
 obtain ⟨W5, hW5⟩ : ∃ W5, W4.alloc (.cells #[.slice bl m.labels.length blc, .slice bp m.below.length bpc, .slice br m.roles.length brc, .slice bf m.fields.length bfc] 35) = W5 := ⟨_, rfl⟩
 rw [hW5] at hbx HX
 have hs5 : W5.heap.size = hi + 1 := by rw [<- hW5, <- hhi]; simp
 rw [hhi] at HX
 have HS2 := h_ (hs2.mono hbx); have HC2 := h_ hc2
 have HL5 : Hid (Below W3.heap.size W3 W5) := h_ (hb.trans (hbx.mono hb.size))
 have HG5 : Hid (Below hi W4 W5) := h_ (by rw [<- hhi]; exact hbx)
 have HO5 := h_ ((u_ HOl).mono (u_ HL5))
 clear hb hbx hs2 hc2 hmb y0 y1 y2 y3 HL4
 obtain ⟨x0, x1, x2, x3⟩ := quad (u_ HX)
 have HCi2 := h_ (u_ HCi W5 ⟨bl, blc, bp, bpc, br, brc, bf, bfc, bfa⟩ (u_ HC2) (u_ HS2) (u_ HO5).t (u_ HO5).y (u_ HO5).b)
 dsimp only at HCi2
 go_wp2_with fail
 try rw [hW5]
 try rw [hhi]
 refine (u_ HCi2).mono ?_
 rintro r W6 ⟨v, rfl, hv6, hb⟩
 rw [hs5] at hv6
 obtain ⟨a6, c6, rfl, -, hp6⟩ := plc_of_owns hv6
 have HV := h_ hv6
 have HS6 := h_ ((u_ HS2).mono hb)
 have HX6 := mB HX hb
 have HL6 := mT HL5 hb
 have HG6 := h_ ((u_ HG5).trans (hb.mono (by omega)))
 have HO6 := h_ ((u_ HO5).mono hb)
 have hs6 : hi + 1 <= W6.heap.size := by have := hb.size; omega
 have HE6 := h_ (u_ HCq W6 a6 a0 c6 c0 hp6 (u_ HO6).p)
 clear hb hW5 hv6 hp6 x0 x1 x2 x3 HCi2 HS2 HX HL5 HG5 HO5 hs5
 go_wp2_with fail
 refine (u_ HE6).mono ?_
 rintro r W7 ⟨rfl, hb⟩
 replace HV := h_ (owns_mono (u_ HV) hb)
 have HS7 := h_ ((u_ HS6).mono hb)
 have HX7 := mB HX6 hb
 have HL7 := mT HL6 hb
 have HG7 := h_ ((u_ HG6).trans (hb.mono (by omega)))
 have HO7 := h_ ((u_ HO6).mono hb)
 have hs7 : hi + 1 <= W7.heap.size := by have := hb.size; omega
 clear hb HE6 HS6 HX6 HL6 HG6 HO6 hs6
 go_wp2_with fail
 refine wp_region_held_drew (S := fun w' => Blk w' w.heap.size 27 [.slice al m.labels.length alc, .slice ap m.below.length apc, .slice ar m.roles.length arc, .slice af m.fields.length afc] /\ Blk w' hi 35 [.slice bl m.labels.length blc, .slice bp m.below.length bpc, .slice br m.roles.length brc, .slice bf m.fields.length bfc]) (by kernel_rfl) ⟨(u_ HO7).k, u_ HX7⟩ (fun hHeld => ?_)
 refine tk (i := 0) (v := .agg #[.slice bl m.labels.length blc, .slice bp m.below.length bpc, .slice br m.roles.length brc, .slice bf m.fields.length bfc]) 27 hHeld ?_ (hy := fun w hS => by obtain ⟨-, h2⟩ := hS; obtain ⟨q0, q1, q2, q3⟩ := quad h2; simp [execOp, go_sem, q0, q1, q2, q3])
 simp only [s1', s2', s3']
 refine tk (i := 1) (v := .agg #[.slice al m.labels.length alc, .slice ap m.below.length apc, .slice ar m.roles.length arc, .slice af m.fields.length afc]) 28 hHeld ?_ (hy := fun w hS => by obtain ⟨h2, -⟩ := hS; obtain ⟨q0, q1, q2, q3⟩ := quad h2; simp [execOp, go_sem, q0, q1, q2, q3])
 simp only [s1', s2', s3']
 have HD : Hid (Below W7.heap.size W7 W7.drew) := h_ (Below.refl _ _).drew
 refine callY (i := 2) (f := 7) (args := #[.agg #[.slice al m.labels.length alc, .slice ap m.below.length apc, .slice ar m.roles.length arc, .slice af m.fields.length afc]]) (R := fun v wz => ∃ A3, v = mV m A3 /\ MSl wz m A3 /\ Below W7.heap.size W7 wz) 29 rfl rfl (by rfl) (by kernel_rfl) ?hrun1 ((u_ HCt W7.drew (u_ HN) ((u_ HO7).s.mono (u_ HD))).mono fun e w6 ⟨A3, he, hs, _, _, hb⟩ => ⟨_, he, A3, rfl, hs, below_of_drew hb⟩) ?_
 case hrun1 => simp [execOp, go_sem]
 rintro v W8 ⟨A3, rfl, hs3, hb⟩
 replace hHeld : Blk W8 w.heap.size 27 [.slice al m.labels.length alc, .slice ap m.below.length apc, .slice ar m.roles.length arc, .slice af m.fields.length afc] /\ Blk W8 hi 35 [.slice bl m.labels.length blc, .slice bp m.below.length bpc, .slice br m.roles.length brc, .slice bf m.fields.length bfc] := ⟨(u_ HO7).k.mono hb (u_ HO7).k.lt, (u_ HX7).mono hb (u_ HX7).lt⟩
 replace HV := h_ (owns_mono (u_ HV) hb)
 have HS8 := h_ ((u_ HS7).mono hb)
 have HX8 := mB HX7 hb
 have HL8 := mT HL7 hb
 have HG8 := h_ ((u_ HG7).trans (hb.mono (by omega)))
 have HO8 := h_ ((u_ HO7).mono hb)
 have hs8 : hi + 1 <= W8.heap.size := by have := hb.size; omega
 have HS3 := h_ hs3
 clear hb hs3 HS7 HX7 HL7 HG7 HO7 hs7 HD
 refine ⟨hHeld, ?_⟩
 unfold mV
 obtain ⟨dl, dlc, dp, dpc, dr, drc, df, dfc, dfa⟩ := A3
 dsimp only
 simp only [s1', s2', s3']
 have HCe2 := h_ (u_ HCe W8 ⟨bl, blc, bp, bpc, br, brc, bf, bfc, bfa⟩ ⟨dl, dlc, dp, dpc, dr, drc, df, dfc, dfa⟩ (u_ HN) (u_ HS8) (u_ HS3))
 dsimp only at HCe2
 refine callY (i := 3) (f := 10) (args := #[.agg #[.slice bl m.labels.length blc, .slice bp m.below.length bpc, .slice br m.roles.length brc, .slice bf m.fields.length bfc], .agg #[.slice dl m.labels.length dlc, .slice dp m.below.length dpc, .slice dr m.roles.length drc, .slice df m.fields.length dfc]]) (R := fun v wz => v = .bool true /\ Below W8.heap.size W8 wz) 30 rfl rfl (by rfl) (by kernel_rfl) ?hrun2 ((u_ HCe2).mono fun e w6 ⟨he, hb⟩ => ⟨_, he, rfl, hb⟩) ?_
 case hrun2 => simp [execOp, go_sem]
 rintro v W9 ⟨rfl, hb⟩
 replace hHeld : Blk W9 w.heap.size 27 [.slice al m.labels.length alc, .slice ap m.below.length apc, .slice ar m.roles.length arc, .slice af m.fields.length afc] /\ Blk W9 hi 35 [.slice bl m.labels.length blc, .slice bp m.below.length bpc, .slice br m.roles.length brc, .slice bf m.fields.length bfc] := ⟨hHeld.1.mono hb hHeld.1.lt, hHeld.2.mono hb hHeld.2.lt⟩
 replace HV := h_ (owns_mono (u_ HV) hb)
 have HS9 := h_ ((u_ HS8).mono hb)
 have HX9 := mB HX8 hb
 have HL9 := mT HL8 hb
 have HG9 := h_ ((u_ HG8).trans (hb.mono (by omega)))
 have HO9 := h_ ((u_ HO8).mono hb)
 have hs9 : hi + 1 <= W9.heap.size := by have := hb.size; omega
 clear hb HS8 HX8 HL8 HG8 HO8 hs8 HCe2 HS3
 refine ⟨hHeld, ?_⟩
 simp only [s1', s2', s3']
 refine tk (i := 4) (v := .bool false) 31 hHeld ?_
 simp only [s1', s2', s3']
 refine wpAnyH_done (by kernel_rfl) ?_ _
 clear hHeld
 obtain ⟨x0, x1, x2, x3⟩ := quad (u_ HX9)
 have HCk2 := h_ (u_ HCk lo hi W4 W9 ⟨bl, blc, bp, bpc, br, brc, bf, bfc, bfa⟩ (u_ HN) hhi (u_ HMb) (fun g t n hb => hb.mono (u_ HG9) (by have := hb.lt; omega)) (u_ HS9))
 dsimp only at HCk2
 go_wp2_with fail
 refine (u_ HCk2).mono ?_
 rintro r W10 ⟨k', rfl, hk', hmk⟩
 have hk0 : ¬ (k' : Int) < 0 := by omega
 have HV10 := h_ (hmk.out.owns (u_ HV) (fun q e => by have := ((u_ HV).lt q e).1; omega))
 have HB10 : Hid (Below lo W3 W10) := h_ (by
  have h9 := u_ HL9
  rw [hlo] at h9
  exact h9.trans (hmk.out.below (Nat.le_refl _) (by omega)))
 have hs10 : hi + 1 <= W10.heap.size := by have := hmk.out.size; omega
 clear hmk x0 x1 x2 x3 HCk2 HCk HV HS9 HX9 HL9 HG9 HO9 hs9 HMb
 have HO10 : Hid (OldL m ⟨al, alc, ap, apc, ar, arc, af, afc, afa⟩ w.heap.size [.slice al m.labels.length alc, .slice ap m.below.length apc, .slice ar m.roles.length arc, .slice af m.fields.length afc] a0 cl W10) := h_ ((u_ HOl).mono (by rw [hlo]; exact u_ HB10))
 have HE10 := h_ (u_ HCq W10 a6 a0 c6 c0 (by
  obtain ⟨a, c, e, -, hp⟩ := plc_of_owns (u_ HV10)
  cases e
  exact hp) (u_ HO10).p)
 go_wp2_with fail
 refine (u_ HE10).mono ?_
 rintro r W11 ⟨rfl, hb⟩
 have HV11 := h_ (owns_mono (u_ HV10) hb)
 have HB11 := h_ ((u_ HB10).trans (hb.mono (by omega)))
 have hs11 : hi + 1 <= W11.heap.size := by have := hb.size; omega
 clear hb HE10 HO10 HV10 HB10 hs10
 have HMr := h_ (markRow_any a6 c6 cl.length (hi + 1) _ W11 hcl (u_ HV11))
 obtain ⟨p, hp⟩ : ∃ p, cl.length + 1 = p := ⟨_, rfl⟩
 rw [hp] at HMr
 have hpl : (p : Int) <= 1000001 := by omega
 go_wp2_with fail
 refine (u_ HMr).mono ?_
 rintro r W12 ⟨rfl, ho, hout⟩
 have HB12 := h_ ((u_ HB11).trans (hout.below (by omega) (by omega)))
 have hs12 : hi + 1 <= W12.heap.size := by have := hout.size; omega
 have HHr := h_ (heldRow_any a6 c6 cl.length (hi + 1) W12 hcl ho)
 rw [hp] at HHr
 clear ho hout HMr HV11 HB11 hs11
 go_wp2_with fail
 refine (u_ HHr).mono ?_
 rintro r W13 ⟨rfl, hb⟩
 have HB13 := h_ ((u_ HB12).trans (hb.mono (by omega)))
 have HO13 : Hid (OldL m ⟨al, alc, ap, apc, ar, arc, af, afc, afa⟩ w.heap.size [.slice al m.labels.length alc, .slice ap m.below.length apc, .slice ar m.roles.length arc, .slice af m.fields.length afc] a0 cl W13) := h_ ((u_ HOl).mono (by rw [hlo]; exact u_ HB13))
 have hs13 : hi + 1 <= W13.heap.size := by have := hb.size; omega
 have hp0 : ¬ (p : Int) < 0 := by omega
 clear hb HHr HB12 hs12
 obtain ⟨y0, y1, y2, y3⟩ := quad (u_ HO13).k
 go_wp2_with fail
 refine (u_ HCt W13 (u_ HN) (u_ HO13).s).mono ?_
 rintro r W14 ⟨A4, rfl, hs4, hc4, -, hb⟩
 have HO14 := h_ ((u_ HO13).mono hb)
 have HB14 := h_ ((u_ HB13).trans (hb.mono (by omega)))
 have hs14 : hi + 1 <= W14.heap.size := by have := hb.size; omega
 have HCi3 := h_ (u_ HCi W14 A4 hc4 hs4 (u_ HO14).t (u_ HO14).y (u_ HO14).b)
 clear hb hs4 hc4 HO13 HB13 hs13 y0 y1 y2 y3 HCi
 go_wp2_with fail
 refine (u_ HCi3).mono ?_
 rintro r W15 ⟨v, rfl, hv, hb⟩
 obtain ⟨a7, c7, rfl, -, hp7⟩ := plc_of_owns hv
 have HO15 := h_ ((u_ HO14).mono hb)
 have HB15 := h_ ((u_ HB14).trans (hb.mono (by omega)))
 have HE15 := h_ (u_ HCq W15 a7 a0 c7 c0 hp7 (u_ HO15).p)
 have hs15 : hi + 1 <= W15.heap.size := by have := hb.size; omega
 clear hb hv hp7 HCi3 HO14 HB14 hs14
 go_wp2_with fail
 refine (u_ HE15).mono ?_
 rintro r W16 ⟨rfl, hb⟩
 have HB16 : Hid (Below w.heap.size w W16) := h_ ((u_ HB).trans (((u_ HB15).trans (hb.mono (by omega))).mono hwl))
 clear hb HE15
 go_wp2_with fail
 go_ret
 exact ⟨rfl, u_ HB16⟩
theorem lsL_eq {f g : Nat -> Nat} {n : Nat} (h : ∀ k, k < n -> f k = g k) : lsL f n = lsL g n := by
 unfold lsL
 exact List.map_congr_left fun k hk => h k (List.mem_range.1 hk)
theorem lawInfer_any (m : Fm) (A : MA) (w : World) (hf : FitM m) (ha : MSl w m A) (ht : Tabs w) (hy : TyW w) (htb : Tab w) :
 Calls Tryz.prog 3 #[mV m A] w fun r w' => r = .returned (.bool true) /\ Below w.heap.size w w' := by
 have HVa : vfB m = true -> VfA m := fun h => Classical.byContradiction fun hn => by rw [vfB_false hn] at h; cases h
 have zc : (vfB m = true -> ∃ code, code ≠ 0 /\ SpecZ m.labels.length m.below.length (pr1 m) (pr2 m) code /\ ImplZ m.labels.length m.below.length (pr1 m) (pr2 m) code) -> Calls Tryz.prog 3 #[mV m A] w fun r w' => r = .returned (.bool true) /\ Below w.heap.size w w' := fun h => by
  refine lawInfer_of m A [] w (by simp) (fun _ W A' hs => (specInfer_z m A' W (fun W' hs' => specValidForm_any m A' W' hf hs') (fun hq => ?_) hf hs).mono fun r w' ⟨a0, c0, e, hb⟩ => ⟨a0, c0, e, ?_, hb⟩) (fun _ W A' hc hs h1 h2 h3 => (implInfer_z m A' W (fun hq => ?_) hf hc hs h1 h2 h3).mono fun r w' ⟨e, hb⟩ => ⟨_, e, World.ownsRow_nil _ _ _ _, hb⟩) hf ha ht hy htb
  . obtain ⟨code, h1, h2, -⟩ := h hq
    exact ⟨code, h1, h2⟩
  . intro k hk
    simp at hk
  . obtain ⟨code, h1, -, h2⟩ := h hq
    exact ⟨code, h1, h2⟩
 cases hq : vfB m
 . exact zc fun h => by rw [hq] at h; cases h
 have hv := HVa hq
 rcases dich2 m.labels.length m.below.length (pr1 m) (pr2 m) (by have := hv.np; omega) with ⟨code, h0, h1, h2⟩ | ⟨s, F, J, M, bot, top, -, ⟨n, bt, tp, hL⟩, h1, h2⟩
 . exact zc fun _ => ⟨code, h0, h1, h2⟩
 have hnf := hv.nf
 by_cases hE : ∃ f, Sol m n (fun a b => F (a * n + b) = true) f /\ Low m n (fun a b => F (a * n + b) = true) f
 . obtain ⟨f, s1, s2⟩ := hE
   have hone : ∀ g, Sol m n (fun a b => F (a * n + b) = true) g -> Low m n (fun a b => F (a * n + b) = true) g -> lsL g m.fields.length = lsL f m.fields.length := fun g g1 g2 => lsL_eq (least_one (latP_of hL) g1 s1 g2 s2)
   refine lawInfer_of m A (lsL f m.fields.length) w (by rw [lsL_len]; omega) (fun _ W A' hs => (specInfer_f m A' W bot top s n bt tp F J M (fun W' hs' => specValidForm_any m A' W' hf hs') hq hv h1 hL hf hs).mono fun r w' ⟨g, a0, c0, e, g1, g2, hp, hb⟩ => ⟨a0, c0, ?_, ?_, hb⟩) (fun _ W A' hc hs k1 k2 k3 => (implInfer_f m A' W bot top s n bt tp F J M hq hv h2 hL hf hc hs k1 k2 k3).mono fun r w' ⟨v, g, e, ho, g1, g2, hb⟩ => ⟨v, e, ?_, hb⟩) hf ha ht hy htb
   . rw [lsL_len]; exact e
   . rw [<- hone g g1 g2]; exact hp
   . rw [lsL_len, <- hone g g1 g2]; exact ho
 . refine lawInfer_of m A [] w (by simp) (fun _ W A' hs => (specInfer_f m A' W bot top s n bt tp F J M (fun W' hs' => specValidForm_any m A' W' hf hs') hq hv h1 hL hf hs).mono fun r w' ⟨g, a0, c0, e, g1, g2, hp, hb⟩ => absurd ⟨g, g1, g2⟩ hE) (fun _ W A' hc hs k1 k2 k3 => (implInfer_f m A' W bot top s n bt tp F J M hq hv h2 hL hf hc hs k1 k2 k3).mono fun r w' ⟨v, g, e, ho, g1, g2, hb⟩ => absurd ⟨g, g1, g2⟩ hE) hf ha ht hy htb
end Go.Proofs.YtalgidagiojbpaaGreatDoor
