import Derived.Test.YtalgidagiojbpaaGreatDoorGL3
import Derived.Test.YtalgidagiojbpaaGreatDoorZWirO
/- InferLabels, of the model and of the program. -/
namespace Go.Proofs.YtalgidagiojbpaaGreatDoor
open Go Go.RowKit

/-- The pairs of a form's labels, as functions. -/
def pr1 (m : Fm) (k : Nat) : Int := (m.below.getD k (0, 0)).1
def pr2 (m : Fm) (k : Nat) : Int := (m.below.getD k (0, 0)).2
theorem pairs_m {w : World} {m : Fm} {A : MA} (h : MSl w m A) : Pairs w A.p m.below.length (pr1 m) (pr2 m) := pairs_of h.p

set_option maxRecDepth 100000 in
set_option maxHeartbeats 1000000 in
theorem l4Order_any (m : Fm) (A : MA) (w : World) (hf : FitM m) :
    Calls Tryz.prog 23 #[mV m A] w fun r w' => r = .returned (.agg #[.int .i64 m.labels.length, .slice A.p m.below.length A.pc]) ∧ Below w.heap.size w w' := by
  obtain ⟨al, alc, ap, apc, ar, arc, af, afc, afa⟩ := A
  unfold mV
  dsimp only
  have h1 := hf.ll
  have HK := hide ((Blk.new w 35 #[.slice al m.labels.length alc, .slice ap m.below.length apc, .slice ar m.roles.length arc, .slice af m.fields.length afc]).alloc (.cells #[.int .i64 0, .slice none 0 0] 57))
  have HR := hide (Blk.new (w.alloc (.cells #[.slice al m.labels.length alc, .slice ap m.below.length apc, .slice ar m.roles.length arc, .slice af m.fields.length afc] 35)) 57 #[.int .i64 0, .slice none 0 0])
  rw [World.size_alloc] at HR
  have HB := hide (((Below.refl w.heap.size w).alloc (Nat.le_refl _) (.cells #[.slice al m.labels.length alc, .slice ap m.below.length apc, .slice ar m.roles.length arc, .slice af m.fields.length afc] 35)).alloc (by simp) (.cells #[.int .i64 0, .slice none 0 0] 57))
  obtain ⟨W0, hW0⟩ : ∃ W0, (w.alloc (.cells #[.slice al m.labels.length alc, .slice ap m.below.length apc, .slice ar m.roles.length arc, .slice af m.fields.length afc] 35)).alloc (.cells #[.int .i64 0, .slice none 0 0] 57) = W0 := ⟨_, rfl⟩
  rw [hW0] at HK HR HB
  obtain ⟨y0, y1, y2, y3⟩ := quad (unhide HK)
  obtain ⟨⟨r0, r1⟩, ⟨f0, f1⟩⟩ := two' (unhide HR)
  have HR9 := hide (((unhide HR).set 0 (.int .i64 m.labels.length)).set 1 (.slice ap m.below.length apc))
  simp only [List.set_cons_zero, List.set_cons_succ] at HR9
  have HB9 := hide (((unhide HB).setCell (p := ⟨w.heap.size + 1, 0, none⟩) (by simp) (.int .i64 m.labels.length)).setCell (p := ⟨w.heap.size + 1, 1, none⟩) (by simp) (.slice ap m.below.length apc))
  clear hf
  go_enter Tryz.func23, Tryz.ntmps23
  go_wp2_with fail
  try rw [hW0]
  obtain ⟨k0, k1⟩ := (two' (unhide HR9)).1
  exact bodyPost_ret (v := .agg #[.int .i64 m.labels.length, .slice ap m.below.length apc]) (by simp [results, Tryz.results23, go_sem, *]) rfl ⟨rfl, unhide HB9⟩

set_option maxRecDepth 100000 in
set_option maxHeartbeats 4000000 in
theorem specInfer_z (m : Fm) (A : MA) (w : World) (hV : ∀ W, MSl W m A → Calls Tryz.prog 21 #[mV m A] W fun r w' => r = .returned (.bool (vfB m)) ∧ Below W.heap.size W w') (hz : vfB m = true → ∃ code, code ≠ 0 ∧ SpecZ m.labels.length m.below.length (pr1 m) (pr2 m) code) (hf : FitM m) (ha : MSl w m A) :
    Calls Tryz.prog 6 #[mV m A] w fun r w' => ∃ a0 c0, r = .returned (.slice a0 0 c0) ∧ Below w.heap.size w w' := by
  have HCo := hide fun W => l4Order_any m A W hf
  have HV := hide hV; have HZ := hide hz
  have HPm := hide fun W (hs : MSl W m A) => pairs_m hs
  obtain ⟨al, alc, ap, apc, ar, arc, af, afc, afa⟩ := A
  unfold mV at HV HCo ⊢
  dsimp only at HV HCo HPm ⊢
  have HK := hide (Blk.new w 35 #[.slice al m.labels.length alc, .slice ap m.below.length apc, .slice ar m.roles.length arc, .slice af m.fields.length afc])
  have HB := hide ((Below.refl w.heap.size w).alloc (Nat.le_refl _) (.cells #[.slice al m.labels.length alc, .slice ap m.below.length apc, .slice ar m.roles.length arc, .slice af m.fields.length afc] 35))
  obtain ⟨W0, hW0⟩ : ∃ W0, w.alloc (.cells #[.slice al m.labels.length alc, .slice ap m.below.length apc, .slice ar m.roles.length arc, .slice af m.fields.length afc] 35) = W0 := ⟨_, rfl⟩
  rw [hW0] at HK HB
  have HS := hide (ha.mono (unhide HB))
  clear ha hf hV hz
  obtain ⟨y0, y1, y2, y3⟩ := quad (unhide HK)
  go_enter Tryz.func6, Tryz.ntmps6
  go_wp2_with fail
  try rw [hW0]
  refine (unhide HV W0 (unhide HS)).mono ?_
  rintro r W1 ⟨rfl, hb⟩
  replace HK := hide ((unhide HK).mono hb (unhide HK).lt); replace HS := hide ((unhide HS).mono hb); replace HB := hide ((unhide HB).trans (hb.mono (unhide HB).size))
  clear hb hW0 y0 y1 y2 y3
  obtain ⟨y0, y1, y2, y3⟩ := quad (unhide HK)
  cases hq : vfB m
  · have HB2 := hide ((unhide HB).alloc (unhide HB).size (.cells #[] 3))
    clear hq
    go_wp2_with fail
    go_ret
    first | exact ⟨_, ⟨_, rfl⟩, unhide HB2⟩ | exact ⟨_, _, rfl, unhide HB2⟩
  · obtain ⟨code, hc0, hz⟩ := unhide HZ hq
    have HZz := hide hz
    have hc0' : (code != 0) = true := by simpa using hc0
    clear hq hz hc0 HZ
    go_wp2_with fail
    refine (unhide HCo W1).mono ?_
    rintro r W2 ⟨rfl, hb⟩
    replace HS := hide ((unhide HS).mono hb); replace HB := hide ((unhide HB).trans (hb.mono (unhide HB).size))
    have HC2 := hide (unhide HZz W2 ap apc (unhide HPm W2 (unhide HS)))
    unfold zeroL at HC2
    clear hb y0 y1 y2 y3
    go_wp2_with fail
    refine (unhide HC2).mono ?_
    rintro r W3 ⟨rfl, hb⟩
    replace HB := hide ((unhide HB).trans (hb.mono (unhide HB).size))
    have HB3 := hide (((unhide HB).alloc (unhide HB).size (.cells #[.int .i64 0, .slice none 0 0, .slice none 0 0, .slice none 0 0, .int .i64 0, .int .i64 0] 53)).alloc (by simp; have := (unhide HB).size; omega) (.cells #[] 3))
    clear hb
    go_wp2_with fail
    go_ret
    first | exact ⟨_, ⟨_, rfl⟩, unhide HB3⟩ | exact ⟨_, _, rfl, unhide HB3⟩

set_option maxRecDepth 100000 in
set_option maxHeartbeats 4000000 in
theorem specInfer_f (m : Fm) (A : MA) (w : World) (bot top : Int) (s n bt tp : Nat) (F : Nat → Bool) (J M : Nat → Int) (hV : ∀ W, MSl W m A → Calls Tryz.prog 21 #[mV m A] W fun r w' => r = .returned (.bool (vfB m)) ∧ Below W.heap.size W w') (hq : vfB m = true) (hv : VfA m) (hz : SpecF m.labels.length m.below.length (pr1 m) (pr2 m) s F J M bot top) (hL : ValidP m.labels.length s s s F J M bot top n bt tp) (hf : FitM m) (ha : MSl w m A) :
    Calls Tryz.prog 6 #[mV m A] w fun r w' => ∃ f a0 c0, r = .returned (.slice a0 m.fields.length c0) ∧ Sol m n (fun a b => F (a * n + b) = true) f ∧ Low m n (fun a b => F (a * n + b) = true) f ∧ Plc w' a0 (lsL f m.fields.length) ∧ Below w.heap.size w w' := by
  have HCo := hide fun W => l4Order_any m A W hf
  have HV := hide hV; have HZz := hide hz
  have HPm := hide fun W (hs : MSl W m A) => pairs_m hs
  have hN : m.labels.length = n := by have := hL.hN; omega
  have HCl := hide fun W (a1 a2 a3 : Option Addr) (c1 c2 c3 : Nat) (hs : MSl W m A) (hj : Ints W a2 s J) => l4Labels_any m A W m.labels.length bot top s n bt tp F J M a1 a2 a3 c1 c2 c3 hv hf hL hN hs hj
  obtain ⟨al, alc, ap, apc, ar, arc, af, afc, afa⟩ := A
  unfold mV at HV HCo HCl ⊢
  dsimp only at HV HCo HPm HCl ⊢
  have HK := hide (Blk.new w 35 #[.slice al m.labels.length alc, .slice ap m.below.length apc, .slice ar m.roles.length arc, .slice af m.fields.length afc])
  have HB := hide ((Below.refl w.heap.size w).alloc (Nat.le_refl _) (.cells #[.slice al m.labels.length alc, .slice ap m.below.length apc, .slice ar m.roles.length arc, .slice af m.fields.length afc] 35))
  obtain ⟨W0, hW0⟩ : ∃ W0, w.alloc (.cells #[.slice al m.labels.length alc, .slice ap m.below.length apc, .slice ar m.roles.length arc, .slice af m.fields.length afc] 35) = W0 := ⟨_, rfl⟩
  rw [hW0] at HK HB
  have HS := hide (ha.mono (unhide HB))
  clear ha hf hV hz hL hv hN
  obtain ⟨y0, y1, y2, y3⟩ := quad (unhide HK)
  go_enter Tryz.func6, Tryz.ntmps6
  go_wp2_with fail
  try rw [hW0]
  refine (unhide HV W0 (unhide HS)).mono ?_
  rintro r W1 ⟨rfl, hb⟩
  replace HK := hide ((unhide HK).mono hb (unhide HK).lt); replace HS := hide ((unhide HS).mono hb); replace HB := hide ((unhide HB).trans (hb.mono (unhide HB).size))
  clear hb hW0 y0 y1 y2 y3
  obtain ⟨y0, y1, y2, y3⟩ := quad (unhide HK)
  rw [hq]
  clear hq
  go_wp2_with fail
  refine (unhide HCo W1).mono ?_
  rintro r W2 ⟨rfl, hb⟩
  replace HK := hide ((unhide HK).mono hb (unhide HK).lt); replace HS := hide ((unhide HS).mono hb); replace HB := hide ((unhide HB).trans (hb.mono (unhide HB).size))
  have HC2 := hide (unhide HZz W2 ap apc (unhide HPm W2 (unhide HS)))
  clear hb y0 y1 y2 y3
  go_wp2_with fail
  refine (unhide HC2).mono ?_
  rintro r W3 ⟨a1, a2, a3, c1, c2, c3, rfl, -, hj, -, hb⟩
  replace HK := hide ((unhide HK).mono hb (unhide HK).lt); replace HS := hide ((unhide HS).mono hb); replace HB := hide ((unhide HB).trans (hb.mono (unhide HB).size))
  have HX := hide (Blk.new W3 53 #[.int .i64 m.labels.length, .slice a1 s c1, .slice a2 s c2, .slice a3 s c3, .int .i64 bot, .int .i64 top])
  have hba := (Below.refl W3.heap.size W3).alloc (Nat.le_refl _) (.cells #[.int .i64 m.labels.length, .slice a1 s c1, .slice a2 s c2, .slice a3 s c3, .int .i64 bot, .int .i64 top] 53)
  obtain ⟨W4, hW4⟩ : ∃ W4, W3.alloc (.cells #[.int .i64 m.labels.length, .slice a1 s c1, .slice a2 s c2, .slice a3 s c3, .int .i64 bot, .int .i64 top] 53) = W4 := ⟨_, rfl⟩
  rw [hW4] at HX hba
  replace HK := hide ((unhide HK).mono hba (unhide HK).lt); replace HS := hide ((unhide HS).mono hba); replace HB := hide ((unhide HB).trans (hba.mono (unhide HB).size))
  have HC3 := hide (unhide HCl W4 a1 a2 a3 c1 c2 c3 (unhide HS) (hj.mono hba))
  obtain ⟨⟨x0, x1, x2, x3, x4, x5⟩, -⟩ := six' (unhide HX)
  obtain ⟨y0, y1, y2, y3⟩ := quad (unhide HK)
  clear hb hba hj HCl HC2
  go_wp2_with fail
  try rw [hW4]
  refine (unhide HC3).mono ?_
  rintro r W5 ⟨f, a0, c0, rfl, h1, h2, h3, hb⟩
  replace HB := hide ((unhide HB).trans (hb.mono (unhide HB).size))
  have H1 := hide h1; have H2 := hide h2; have H3 := hide h3
  clear hb hW4 h1 h2 h3 x0 x1 x2 x3 x4 x5 y0 y1 y2 y3
  go_wp2_with fail
  go_ret
  first | exact ⟨f, a0, c0, rfl, unhide H1, unhide H2, unhide H3, unhide HB⟩ | exact ⟨f, a0, ⟨c0, rfl⟩, unhide H1, unhide H2, unhide H3, unhide HB⟩ | exact ⟨f, ⟨a0, ⟨c0, rfl⟩, unhide H1, unhide H2, unhide H3⟩, unhide HB⟩
end Go.Proofs.YtalgidagiojbpaaGreatDoor

/- buildLattice and InferLabels, of the program. -/
namespace Go.Proofs.YtalgidagiojbpaaGreatDoor
open Go Go.RowKit

/-- What a lattice looks like as a value. -/
abbrev latV (N : Int) (a1 a2 a3 : Option Addr) (s1 c1 s2 c2 s3 c3 : Nat) (bot top : Int) : Value := .agg #[.int .i64 N, .slice a1 s1 c1, .slice a2 s2 c2, .slice a3 s3 c3, .int .i64 bot, .int .i64 top]

set_option maxRecDepth 100000 in
set_option maxHeartbeats 2000000 in
theorem buildLattice_z (m : Fm) (A : MA) (b : Nat) (code : Int) (w : World) (hz : ImplZ m.labels.length m.below.length (pr1 m) (pr2 m) code) (hf : FitM m) (ha : MSl w m A) (ht : Tab w) :
    Calls Tryz.prog 30 #[wV m A b] w fun r w' => r = .returned (.tuple #[zeroL, .int .i64 code]) ∧ Below w.heap.size w w' := by
  have HZ := hide hz
  have HPm := hide fun W (hs : MSl W m A) => pairs_m hs
  have h1 := hf.ll
  obtain ⟨al, alc, ap, apc, ar, arc, af, afc, afa⟩ := A
  unfold wV
  dsimp only at HPm ⊢
  have HK := hide ((Blk.new w 66 #[.slice al m.labels.length alc, .slice ap m.below.length apc, .slice ar m.roles.length arc, .slice af m.fields.length afc, .map (some b)]).alloc (.cells #[.int .i64 0, .slice none 0 0, .slice none 0 0, .slice none 0 0, .int .i64 0, .int .i64 0] 53))
  have HR := hide (Blk.new (w.alloc (.cells #[.slice al m.labels.length alc, .slice ap m.below.length apc, .slice ar m.roles.length arc, .slice af m.fields.length afc, .map (some b)] 66)) 53 #[.int .i64 0, .slice none 0 0, .slice none 0 0, .slice none 0 0, .int .i64 0, .int .i64 0])
  rw [World.size_alloc] at HR
  have HB := hide (((Below.refl w.heap.size w).alloc (Nat.le_refl _) (.cells #[.slice al m.labels.length alc, .slice ap m.below.length apc, .slice ar m.roles.length arc, .slice af m.fields.length afc, .map (some b)] 66)).alloc (by simp) (.cells #[.int .i64 0, .slice none 0 0, .slice none 0 0, .slice none 0 0, .int .i64 0, .int .i64 0] 53))
  obtain ⟨W0, hW0⟩ : ∃ W0, (w.alloc (.cells #[.slice al m.labels.length alc, .slice ap m.below.length apc, .slice ar m.roles.length arc, .slice af m.fields.length afc, .map (some b)] 66)).alloc (.cells #[.int .i64 0, .slice none 0 0, .slice none 0 0, .slice none 0 0, .int .i64 0, .int .i64 0] 53) = W0 := ⟨_, rfl⟩
  have hs0 : W0.heap.size = w.heap.size + 2 := by rw [← hW0]; simp
  rw [hW0] at HK HR HB
  obtain ⟨y0, y1, y2, y3, y4⟩ := five (unhide HK)
  have HC2 := hide (unhide HZ W0 ap apc (unhide HPm W0 (ha.mono (unhide HB))) (ht.mono (unhide HB)))
  unfold zeroL at HC2 ⊢
  clear hf hz ha ht
  go_enter Tryz.func30, Tryz.ntmps30
  go_wp2_with fail
  try rw [hW0]
  refine (unhide HC2).mono ?_
  rintro r W1 ⟨rfl, hb⟩
  rw [hs0] at hb
  replace HR := hide ((unhide HR).mono hb (by omega)); replace HB := hide ((unhide HB).trans (hb.mono (by omega)))
  obtain ⟨r0, r1, r2, r3, r4, r5⟩ := (six' (unhide HR)).1
  obtain ⟨f0, f1, f2, f3, f4, f5⟩ := (six' (unhide HR)).2
  have HR9 := hide (((((((unhide HR).set 0 (.int .i64 0)).set 1 (.slice none 0 0)).set 2 (.slice none 0 0)).set 3 (.slice none 0 0)).set 4 (.int .i64 0)).set 5 (.int .i64 0))
  simp only [List.set_cons_zero, List.set_cons_succ] at HR9
  have HB9 := hide (((((((unhide HB).setCell (p := ⟨w.heap.size + 1, 0, none⟩) (by simp) (.int .i64 0)).setCell (p := ⟨w.heap.size + 1, 1, none⟩) (by simp) (.slice none 0 0)).setCell (p := ⟨w.heap.size + 1, 2, none⟩) (by simp) (.slice none 0 0)).setCell (p := ⟨w.heap.size + 1, 3, none⟩) (by simp) (.slice none 0 0)).setCell (p := ⟨w.heap.size + 1, 4, none⟩) (by simp) (.int .i64 0)).setCell (p := ⟨w.heap.size + 1, 5, none⟩) (by simp) (.int .i64 0))
  clear hb hW0 y0 y1 y2 y3 y4
  go_wp2_with fail
  obtain ⟨k0, k1, k2, k3, k4, k5⟩ := (six' (unhide HR9)).1
  exact bodyPost_ret (v := .tuple #[.agg #[.int .i64 0, .slice none 0 0, .slice none 0 0, .slice none 0 0, .int .i64 0, .int .i64 0], .int .i64 code]) (by simp [results, Tryz.results30, go_sem, k0, k1, k2, k3, k4, k5]) rfl ⟨rfl, unhide HB9⟩

set_option maxRecDepth 100000 in
set_option maxHeartbeats 2000000 in
theorem buildLattice_f (m : Fm) (A : MA) (b s : Nat) (F : Nat → Bool) (J M : Nat → Int) (bot top : Int) (w : World) (hz : ImplF m.labels.length m.below.length (pr1 m) (pr2 m) s F J M bot top) (hf : FitM m) (ha : MSl w m A) (ht : Tab w) :
    Calls Tryz.prog 30 #[wV m A b] w fun r w' => ∃ a1 a2 a3 c1 c2 c3, r = .returned (.tuple #[latV m.labels.length a1 a2 a3 s c1 s c2 s c3 bot top, .int .i64 0]) ∧ Bools w' a1 s F ∧ Ints w' a2 s J ∧ Below w.heap.size w w' := by
  have HZ := hide hz
  have HPm := hide fun W (hs : MSl W m A) => pairs_m hs
  have h1 := hf.ll
  obtain ⟨al, alc, ap, apc, ar, arc, af, afc, afa⟩ := A
  unfold wV
  dsimp only at HPm ⊢
  have HK := hide ((Blk.new w 66 #[.slice al m.labels.length alc, .slice ap m.below.length apc, .slice ar m.roles.length arc, .slice af m.fields.length afc, .map (some b)]).alloc (.cells #[.int .i64 0, .slice none 0 0, .slice none 0 0, .slice none 0 0, .int .i64 0, .int .i64 0] 53))
  have HR := hide (Blk.new (w.alloc (.cells #[.slice al m.labels.length alc, .slice ap m.below.length apc, .slice ar m.roles.length arc, .slice af m.fields.length afc, .map (some b)] 66)) 53 #[.int .i64 0, .slice none 0 0, .slice none 0 0, .slice none 0 0, .int .i64 0, .int .i64 0])
  rw [World.size_alloc] at HR
  have HB := hide (((Below.refl w.heap.size w).alloc (Nat.le_refl _) (.cells #[.slice al m.labels.length alc, .slice ap m.below.length apc, .slice ar m.roles.length arc, .slice af m.fields.length afc, .map (some b)] 66)).alloc (by simp) (.cells #[.int .i64 0, .slice none 0 0, .slice none 0 0, .slice none 0 0, .int .i64 0, .int .i64 0] 53))
  obtain ⟨W0, hW0⟩ : ∃ W0, (w.alloc (.cells #[.slice al m.labels.length alc, .slice ap m.below.length apc, .slice ar m.roles.length arc, .slice af m.fields.length afc, .map (some b)] 66)).alloc (.cells #[.int .i64 0, .slice none 0 0, .slice none 0 0, .slice none 0 0, .int .i64 0, .int .i64 0] 53) = W0 := ⟨_, rfl⟩
  have hs0 : W0.heap.size = w.heap.size + 2 := by rw [← hW0]; simp
  rw [hW0] at HK HR HB
  obtain ⟨y0, y1, y2, y3, y4⟩ := five (unhide HK)
  have HC2 := hide (unhide HZ W0 ap apc (unhide HPm W0 (ha.mono (unhide HB))) (ht.mono (unhide HB)))
  clear hf hz ha ht
  go_enter Tryz.func30, Tryz.ntmps30
  go_wp2_with fail
  try rw [hW0]
  refine (unhide HC2).mono ?_
  rintro r W1 ⟨G1, G2, G3, rfl, k1, k2, -, g1, g2, -, -, -, -, hb⟩
  rw [hs0] at hb g1 g2
  replace HR := hide ((unhide HR).mono hb (by omega)); replace HB := hide ((unhide HB).trans (hb.mono (by omega)))
  obtain ⟨r0, r1, r2, r3, r4, r5⟩ := (six' (unhide HR)).1
  obtain ⟨f0, f1, f2, f3, f4, f5⟩ := (six' (unhide HR)).2
  have HR9 := hide (((((((unhide HR).set 0 (.int .i64 m.labels.length)).set 1 (.slice (some ⟨G1, 0, none⟩) s s)).set 2 (.slice (some ⟨G2, 0, none⟩) s s)).set 3 (.slice (some ⟨G3, 0, none⟩) s s)).set 4 (.int .i64 bot)).set 5 (.int .i64 top))
  simp only [List.set_cons_zero, List.set_cons_succ] at HR9
  have HB9 := hide (((((((unhide HB).setCell (p := ⟨w.heap.size + 1, 0, none⟩) (by simp) (.int .i64 m.labels.length)).setCell (p := ⟨w.heap.size + 1, 1, none⟩) (by simp) (.slice (some ⟨G1, 0, none⟩) s s)).setCell (p := ⟨w.heap.size + 1, 2, none⟩) (by simp) (.slice (some ⟨G2, 0, none⟩) s s)).setCell (p := ⟨w.heap.size + 1, 3, none⟩) (by simp) (.slice (some ⟨G3, 0, none⟩) s s)).setCell (p := ⟨w.heap.size + 1, 4, none⟩) (by simp) (.int .i64 bot)).setCell (p := ⟨w.heap.size + 1, 5, none⟩) (by simp) (.int .i64 top))
  have keep : ∀ {g : Nat} {t : TypeId} {cs : List Value}, Blk W1 g t cs → w.heap.size + 2 ≤ g → Blk ((((((W1.setCell ⟨w.heap.size + 1, 0, none⟩ (.int .i64 m.labels.length)).setCell ⟨w.heap.size + 1, 1, none⟩ (.slice (some ⟨G1, 0, none⟩) s s)).setCell ⟨w.heap.size + 1, 2, none⟩ (.slice (some ⟨G2, 0, none⟩) s s)).setCell ⟨w.heap.size + 1, 3, none⟩ (.slice (some ⟨G3, 0, none⟩) s s)).setCell ⟨w.heap.size + 1, 4, none⟩ (.int .i64 bot)).setCell ⟨w.heap.size + 1, 5, none⟩ (.int .i64 top)) g t cs := fun {g _ _} h hg => by
    have hne : ∀ j, g ≠ (⟨w.heap.size + 1, j, none⟩ : Addr).block := fun j => by show g ≠ w.heap.size + 1; omega
    exact (((((h.other _ (hne 0)).other _ (hne 1)).other _ (hne 2)).other _ (hne 3)).other _ (hne 4)).other _ (hne 5)
  have HK1 := hide (Blk.bools (keep k1 g1)); have HK2 := hide (Blk.ints (keep k2 g2))
  clear hb hW0 y0 y1 y2 y3 y4 k1 k2 g1 g2 keep
  go_wp2_with fail
  obtain ⟨k0, k1, k2, k3, k4, k5⟩ := (six' (unhide HR9)).1
  exact bodyPost_ret (v := .tuple #[latV m.labels.length (some ⟨G1, 0, none⟩) (some ⟨G2, 0, none⟩) (some ⟨G3, 0, none⟩) s s s s s s bot top, .int .i64 0]) (by simp [results, Tryz.results30, go_sem, k0, k1, k2, k3, k4, k5]) rfl ⟨_, _, _, _, _, _, rfl, unhide HK1, unhide HK2, unhide HB9⟩

set_option maxRecDepth 100000 in
set_option maxHeartbeats 4000000 in
theorem implInfer_z (m : Fm) (A : MA) (w : World) (hz : vfB m = true → ∃ code, code ≠ 0 ∧ ImplZ m.labels.length m.below.length (pr1 m) (pr2 m) code) (hf : FitM m) (hcap : Caps m A) (ha : MSl w m A) (ht : Tabs w) (hy : TyW w) (htb : Tab w) :
    Calls Tryz.prog 8 #[mV m A] w fun r w' => r = .returned (.slice none 0 0) ∧ Below w.heap.size w w' := by
  have HZ := hide hz
  have HCw := hide fun W (hs : MSl W m A) (ht : Tabs W) (hy : TyW W) => wiringOf_any m A W hf hcap hs ht hy
  have HCl := hide fun W b code (h : ImplZ m.labels.length m.below.length (pr1 m) (pr2 m) code) (hs : MSl W m A) (ht : Tab W) => buildLattice_z m A b code W h hf hs ht
  obtain ⟨al, alc, ap, apc, ar, arc, af, afc, afa⟩ := A
  unfold mV at HCw ⊢
  unfold wV at HCw HCl
  unfold zeroL at HCl
  dsimp only at HCw HCl ⊢
  have HK := hide (Blk.new w 35 #[.slice al m.labels.length alc, .slice ap m.below.length apc, .slice ar m.roles.length arc, .slice af m.fields.length afc])
  have HB := hide ((Below.refl w.heap.size w).alloc (Nat.le_refl _) (.cells #[.slice al m.labels.length alc, .slice ap m.below.length apc, .slice ar m.roles.length arc, .slice af m.fields.length afc] 35))
  obtain ⟨W0, hW0⟩ : ∃ W0, w.alloc (.cells #[.slice al m.labels.length alc, .slice ap m.below.length apc, .slice ar m.roles.length arc, .slice af m.fields.length afc] 35) = W0 := ⟨_, rfl⟩
  rw [hW0] at HK HB
  have HS := hide (ha.mono (unhide HB)); have HT := hide (ht.mono (unhide HB)); have HY := hide (hy.mono (unhide HB)); have HTb := hide (htb.mono (unhide HB))
  clear ha ht hy hf hcap htb hz
  obtain ⟨y0, y1, y2, y3⟩ := quad (unhide HK)
  go_enter Tryz.func8, Tryz.ntmps8
  go_wp2_with fail
  try rw [hW0]
  refine (unhide HCw W0 (unhide HS) (unhide HT) (unhide HY)).mono ?_
  rintro r W1 ⟨h | h, hb1⟩
  · obtain ⟨hq, rfl⟩ := h
    replace HB := hide ((unhide HB).trans (hb1.mono (unhide HB).size))
    have HBz := hide ((unhide HB).alloc (unhide HB).size (.cells #[.slice none 0 0, .slice none 0 0, .slice none 0 0, .slice none 0 0, .map none] 66))
    clear hb1 hW0 y0 y1 y2 y3 hq
    go_wp2_with fail
    go_ret
    exact ⟨rfl, unhide HBz⟩
  · obtain ⟨hq, b, rfl, hm⟩ := h
    obtain ⟨code, hc0, hz⟩ := unhide HZ hq
    have hc0' : (code != 0) = true := by simpa using hc0
    have HZ2 := hide hz
    replace HS := hide ((unhide HS).mono hb1); replace HTb := hide ((unhide HTb).mono hb1); replace HB := hide ((unhide HB).trans (hb1.mono (unhide HB).size))
    clear hb1 hW0 y0 y1 y2 y3 hq hm HT HY HCw hz hc0 HZ
    have HKw := hide (Blk.new W1 66 #[.slice al m.labels.length alc, .slice ap m.below.length apc, .slice ar m.roles.length arc, .slice af m.fields.length afc, .map (some b)])
    have hba := (Below.refl W1.heap.size W1).alloc (Nat.le_refl _) (.cells #[.slice al m.labels.length alc, .slice ap m.below.length apc, .slice ar m.roles.length arc, .slice af m.fields.length afc, .map (some b)] 66)
    obtain ⟨W2, hW2⟩ : ∃ W2, W1.alloc (.cells #[.slice al m.labels.length alc, .slice ap m.below.length apc, .slice ar m.roles.length arc, .slice af m.fields.length afc, .map (some b)] 66) = W2 := ⟨_, rfl⟩
    rw [hW2] at HKw hba
    replace HS := hide ((unhide HS).mono hba); replace HTb := hide ((unhide HTb).mono hba); replace HB := hide ((unhide HB).trans (hba.mono (unhide HB).size))
    obtain ⟨X, hX⟩ : ∃ X, W1.heap.size = X := ⟨_, rfl⟩
    rw [hX] at HKw
    clear hba
    obtain ⟨z0, z1, z2, z3, z4⟩ := five (unhide HKw)
    go_wp2_with fail
    try rw [hW2]
    refine (unhide HCl W2 b code (unhide HZ2) (unhide HS) (unhide HTb)).mono ?_
    rintro r W3 ⟨rfl, hb3⟩
    replace HB := hide ((unhide HB).trans (hb3.mono (unhide HB).size))
    have HBz := hide ((unhide HB).alloc (unhide HB).size (.cells #[.int .i64 0, .slice none 0 0, .slice none 0 0, .slice none 0 0, .int .i64 0, .int .i64 0] 53))
    clear hb3 hW2 z0 z1 z2 z3 z4 hX
    go_wp2_with fail
    go_ret
    exact ⟨rfl, unhide HBz⟩

set_option maxRecDepth 100000 in
set_option maxHeartbeats 4000000 in
theorem implInfer_f (m : Fm) (A : MA) (w : World) (bot top : Int) (s n bt tp : Nat) (F : Nat → Bool) (J M : Nat → Int) (hq : vfB m = true) (hv : VfA m) (hz : ImplF m.labels.length m.below.length (pr1 m) (pr2 m) s F J M bot top) (hL : ValidP m.labels.length s s s F J M bot top n bt tp) (hf : FitM m) (hcap : Caps m A) (ha : MSl w m A) (ht : Tabs w) (hy : TyW w) (htb : Tab w) :
    Calls Tryz.prog 8 #[mV m A] w fun r w' => ∃ v f, r = .returned v ∧ w'.ownsRow w.heap.size 3 1 v m.fields.length (ui (lsL f m.fields.length)) ∧ Sol m n (fun a b => F (a * n + b) = true) f ∧ Low m n (fun a b => F (a * n + b) = true) f ∧ Below w.heap.size w w' := by
  have hN : m.labels.length = n := by have := hL.hN; omega
  have HCw := hide fun W (hs : MSl W m A) (ht : Tabs W) (hy : TyW W) => wiringOf_any m A W hf hcap hs ht hy
  have HCl := hide fun W b (hs : MSl W m A) (ht : Tab W) => buildLattice_f m A b s F J M bot top W hz hf hs ht
  have HCi := hide fun W b (a1 a2 a3 : Option Addr) (c1 c2 c3 : Nat) (hs : MSl W m A) (hm : PMap W b (fNames m)) (hI : Ints W a2 (n * n) J) => inferLabels_any m A b n bt (fun a b => F (a * n + b)) _ J a1 a2 a3 c1 c2 c3 top W hv hf (latP_of hL) hN hL.h32 (fun a b ha hb => join_nat hL ha hb) hs hm hI
  have e1 := hL.l1
  have e2 := hL.hb
  subst e1
  subst e2
  obtain ⟨al, alc, ap, apc, ar, arc, af, afc, afa⟩ := A
  unfold mV at HCw ⊢
  unfold wV at HCw HCl HCi
  unfold latV at HCl
  rw [hN] at HCl
  dsimp only at HCw HCl HCi ⊢
  have HK := hide (Blk.new w 35 #[.slice al m.labels.length alc, .slice ap m.below.length apc, .slice ar m.roles.length arc, .slice af m.fields.length afc])
  have HB := hide ((Below.refl w.heap.size w).alloc (Nat.le_refl _) (.cells #[.slice al m.labels.length alc, .slice ap m.below.length apc, .slice ar m.roles.length arc, .slice af m.fields.length afc] 35))
  obtain ⟨W0, hW0⟩ : ∃ W0, w.alloc (.cells #[.slice al m.labels.length alc, .slice ap m.below.length apc, .slice ar m.roles.length arc, .slice af m.fields.length afc] 35) = W0 := ⟨_, rfl⟩
  rw [hW0] at HK HB
  have HS := hide (ha.mono (unhide HB)); have HT := hide (ht.mono (unhide HB)); have HY := hide (hy.mono (unhide HB)); have HTb := hide (htb.mono (unhide HB))
  rw [hN] at HCw HCi HK hW0
  try rw [hN]
  clear ha ht hy hf hcap htb hz hL hN hv
  obtain ⟨y0, y1, y2, y3⟩ := quad (unhide HK)
  go_enter Tryz.func8, Tryz.ntmps8
  have HQ := hide hq
  clear hq
  go_wp2_with fail
  try rw [hW0]
  refine (unhide HCw W0 (unhide HS) (unhide HT) (unhide HY)).mono ?_
  rintro r W1 ⟨h | h, hb1⟩
  · exact absurd (h.1.symm.trans (unhide HQ)) (by decide)
  · obtain ⟨hq, b, rfl, hm⟩ := h
    have HM := hide hm
    replace HS := hide ((unhide HS).mono hb1); replace HTb := hide ((unhide HTb).mono hb1); replace HB := hide ((unhide HB).trans (hb1.mono (unhide HB).size))
    clear hb1 hW0 y0 y1 y2 y3 hq hm HT HY HCw
    have HKw := hide (Blk.new W1 66 #[.slice al n alc, .slice ap m.below.length apc, .slice ar m.roles.length arc, .slice af m.fields.length afc, .map (some b)])
    have hba := (Below.refl W1.heap.size W1).alloc (Nat.le_refl _) (.cells #[.slice al n alc, .slice ap m.below.length apc, .slice ar m.roles.length arc, .slice af m.fields.length afc, .map (some b)] 66)
    obtain ⟨W2, hW2⟩ : ∃ W2, W1.alloc (.cells #[.slice al n alc, .slice ap m.below.length apc, .slice ar m.roles.length arc, .slice af m.fields.length afc, .map (some b)] 66) = W2 := ⟨_, rfl⟩
    rw [hW2] at HKw hba
    replace HS := hide ((unhide HS).mono hba); replace HTb := hide ((unhide HTb).mono hba); replace HM := hide ((unhide HM).mono hba); replace HB := hide ((unhide HB).trans (hba.mono (unhide HB).size))
    obtain ⟨X, hX⟩ : ∃ X, W1.heap.size = X := ⟨_, rfl⟩
    rw [hX] at HKw
    clear hba
    obtain ⟨z0, z1, z2, z3, z4⟩ := five (unhide HKw)
    have HC2 := hide (unhide HCl W2 b (unhide HS) (unhide HTb))
    go_wp2_with fail
    try rw [hW2]
    refine (unhide HC2).mono ?_
    rintro r W3 ⟨a1, a2, a3, c1, c2, c3, rfl, -, hj, hb3⟩
    replace HB := hide ((unhide HB).trans (hb3.mono (unhide HB).size)); replace HKw := hide ((unhide HKw).mono hb3 (unhide HKw).lt); replace HS := hide ((unhide HS).mono hb3); replace HM := hide ((unhide HM).mono hb3)
    have HX := hide (Blk.new W3 53 #[.int .i64 n, .slice a1 (n * n) c1, .slice a2 (n * n) c2, .slice a3 (n * n) c3, .int .i64 (bt : Int), .int .i64 top])
    have hba := (Below.refl W3.heap.size W3).alloc (Nat.le_refl _) (.cells #[.int .i64 n, .slice a1 (n * n) c1, .slice a2 (n * n) c2, .slice a3 (n * n) c3, .int .i64 (bt : Int), .int .i64 top] 53)
    obtain ⟨W4, hW4⟩ : ∃ W4, W3.alloc (.cells #[.int .i64 n, .slice a1 (n * n) c1, .slice a2 (n * n) c2, .slice a3 (n * n) c3, .int .i64 (bt : Int), .int .i64 top] 53) = W4 := ⟨_, rfl⟩
    rw [hW4] at HX hba
    replace HB := hide ((unhide HB).trans (hba.mono (unhide HB).size)); replace HKw := hide ((unhide HKw).mono hba (unhide HKw).lt); replace HS := hide ((unhide HS).mono hba); replace HM := hide ((unhide HM).mono hba)
    have HC3 := hide (unhide HCi W4 b a1 a2 a3 c1 c2 c3 (unhide HS) (unhide HM) (hj.mono hba))
    clear hb3 hW2 z0 z1 z2 z3 z4 hba hj HC2
    obtain ⟨z0, z1, z2, z3, z4⟩ := five (unhide HKw)
    obtain ⟨x0, x1, x2, x3, x4, x5⟩ := (six' (unhide HX)).1
    go_wp2_with fail
    try rw [hX]
    try rw [hW4]
    clear hX
    refine (unhide HC3).mono ?_
    rintro r W5 ⟨v, f, rfl, ho, h1, h2, hb5⟩
    have HO := hide (owns_base ho (unhide HB).size)
    replace HB := hide ((unhide HB).trans (hb5.mono (unhide HB).size))
    have H1 := hide h1; have H2 := hide h2
    clear hb5 ho h1 h2 hW4 x0 x1 x2 x3 x4 x5 z0 z1 z2 z3 z4
    go_wp2_with fail
    go_ret
    first | exact ⟨v, f, rfl, unhide HO, unhide H1, unhide H2, unhide HB⟩ | exact ⟨v, rfl, f, unhide HO, unhide H1, unhide H2, unhide HB⟩ | exact ⟨f, unhide HO, unhide H1, unhide H2, unhide HB⟩
end Go.Proofs.YtalgidagiojbpaaGreatDoor
