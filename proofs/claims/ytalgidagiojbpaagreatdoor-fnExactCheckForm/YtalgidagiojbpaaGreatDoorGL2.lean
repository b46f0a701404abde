import Derived.Test.YtalgidagiojbpaaGreatDoorGO
import Derived.Test.YtalgidagiojbpaaGreatDoorGL1
import Derived.Test.YtalgidagiojbpaaGreatDoorGHn
/- The model: what any rule reads. -/
namespace Go.Proofs.YtalgidagiojbpaaGreatDoor
open Go Go.RowKit

set_option maxRecDepth 100000 in
set_option maxHeartbeats 2000000 in
theorem l4Watched_any (m : Fm) (A : MA) (j k : Nat) (w : World) (hj : j < m.fields.length) (hk : k < m.fields.length) (hf : FitM m) (ha : MSl w m A) :
    Calls Tryz.prog 86 #[mV m A, .int .i64 j, .int .i64 k] w fun r w' => r = .returned (.bool (watB m j k)) ∧ Below w.heap.size w w' := by
  obtain ⟨al, alc, ap, apc, ar, arc, af, afc, afa⟩ := A
  unfold mV
  dsimp only
  have HK := hide (Blk.new w 35 #[.slice al m.labels.length alc, .slice ap m.below.length apc, .slice ar m.roles.length arc, .slice af m.fields.length afc])
  have HB := hide ((Below.refl w.heap.size w).alloc (Nat.le_refl _) (.cells #[.slice al m.labels.length alc, .slice ap m.below.length apc, .slice ar m.roles.length arc, .slice af m.fields.length afc] 35))
  obtain ⟨W0, hW0⟩ : ∃ W0, w.alloc (.cells #[.slice al m.labels.length alc, .slice ap m.below.length apc, .slice ar m.roles.length arc, .slice af m.fields.length afc] 35) = W0 := ⟨_, rfl⟩
  rw [hW0] at HK HB
  have HS := hide (ha.mono (unhide HB))
  have hj' : (j : Int) < m.fields.length := by omega
  have hk' : (k : Int) < m.fields.length := by omega
  have hfl := hf.fl
  have HE : Hid (watB m j k = (rdsN m.fields[k].va m.fields[j].nm || rdsN m.fields[k].mu m.fields[j].nm)) := hide (by unfold watB; rw [fAt_get hj, fAt_get hk])
  have HI := hide (hf.f _ (List.getElem_mem hk))
  clear ha hf
  obtain ⟨b, o, e1, ⟨-, z0, -⟩, -⟩ := (unhide HS).f j hj
  obtain ⟨b', o', e2, ⟨hbl, -, -, -, -, -, -, x4, -, x5⟩, hsl⟩ := (unhide HS).f k hk
  dsimp only at e1 e2 x4 x5 hsl
  subst e1
  cases e2
  have HSl := hide hsl
  clear hsl
  generalize m.fields[j].nm = nm at *
  generalize m.fields[k] = f at *
  generalize afa k = fa at *
  obtain ⟨ab, abc, ai, aic, ah, ahc, av, avc, au, auc⟩ := fa
  dsimp only at x4 x5
  have HC1 := hide (l4Reads_any av avc f.va nm W0 (unhide HI).vl (unhide HSl).v)
  obtain ⟨y0, y1, y2, y3⟩ := quad (unhide HK)
  generalize watB m j k = q at *
  go_enter Tryz.func86, Tryz.ntmps86
  go_wp2_with fail
  try rw [hW0]
  refine (unhide HC1).mono ?_
  rintro r W1 ⟨rfl, hb⟩
  have hx5 := (hb.cell (p := ⟨b, o + k * 9 + 8, none⟩) hbl).trans x5
  replace HK := hide ((unhide HK).mono hb (unhide HK).lt); replace HB := hide ((unhide HB).trans (hb.mono (unhide HB).size)); replace HSl := hide ((unhide HSl).mono hb)
  clear hb hW0 y0 y1 y2 y3 z0 x4 x5 HC1
  obtain ⟨y0, y1, y2, y3⟩ := quad (unhide HK)
  cases hr : rdsN f.va nm
  · have HC2 := hide (l4Reads_any au auc f.mu nm W1 (unhide HI).ul (unhide HSl).u)
    have HX : Hid (q = rdsN f.mu nm) := hide (by rw [unhide HE, hr]; rfl)
    clear hr
    go_wp2_with fail
    refine (unhide HC2).mono ?_
    rintro r W2 ⟨rfl, hb⟩
    replace HB := hide ((unhide HB).trans (hb.mono (unhide HB).size))
    clear hb
    go_wp2_with fail
    go_ret
    exact ⟨ret_bool (unhide HX).symm, unhide HB⟩
  · have HX : Hid (q = true) := hide (by rw [unhide HE, hr]; rfl)
    clear hr
    go_wp2_with fail
    go_ret
    exact ⟨ret_bool (unhide HX).symm, unhide HB⟩

set_option maxRecDepth 100000 in
set_option maxHeartbeats 1000000 in
theorem l4Any_any (m : Fm) (A : MA) (j k : Nat) (w : World) (hj : j < m.fields.length) (hk : k < m.fields.length) (hf : FitM m) (ha : MSl w m A) :
    Calls Tryz.prog 56 #[mV m A, .int .i64 j, .int .i64 k] w fun r w' => r = .returned (.bool (anyR m j k)) ∧ Below w.heap.size w w' := by
  have HC1 := hide fun W (hs : MSl W m A) => l4Feeds_any m A j k W hj hk hf hs
  have HC2 := hide fun W (hs : MSl W m A) => l4Watched_any m A j k W hj hk hf hs
  obtain ⟨al, alc, ap, apc, ar, arc, af, afc, afa⟩ := A
  unfold mV at HC1 HC2 ⊢
  dsimp only at HC1 HC2 ⊢
  have HK := hide (Blk.new w 35 #[.slice al m.labels.length alc, .slice ap m.below.length apc, .slice ar m.roles.length arc, .slice af m.fields.length afc])
  have HB := hide ((Below.refl w.heap.size w).alloc (Nat.le_refl _) (.cells #[.slice al m.labels.length alc, .slice ap m.below.length apc, .slice ar m.roles.length arc, .slice af m.fields.length afc] 35))
  obtain ⟨W0, hW0⟩ : ∃ W0, w.alloc (.cells #[.slice al m.labels.length alc, .slice ap m.below.length apc, .slice ar m.roles.length arc, .slice af m.fields.length afc] 35) = W0 := ⟨_, rfl⟩
  rw [hW0] at HK HB
  have HS := hide (ha.mono (unhide HB))
  have HE : Hid (anyR m j k = (fedB m j k || watB m j k)) := hide rfl
  generalize anyR m j k = q at *
  clear ha hf
  obtain ⟨y0, y1, y2, y3⟩ := quad (unhide HK)
  go_enter Tryz.func56, Tryz.ntmps56
  go_wp2_with fail
  try rw [hW0]
  refine (unhide HC1 W0 (unhide HS)).mono ?_
  rintro r W1 ⟨rfl, hb⟩
  replace HK := hide ((unhide HK).mono hb (unhide HK).lt); replace HB := hide ((unhide HB).trans (hb.mono (unhide HB).size)); replace HS := hide ((unhide HS).mono hb)
  clear hb hW0 y0 y1 y2 y3 HC1
  obtain ⟨y0, y1, y2, y3⟩ := quad (unhide HK)
  cases hr : fedB m j k
  · have HX : Hid (q = watB m j k) := hide (by rw [unhide HE, hr]; rfl)
    clear hr
    go_wp2_with fail
    refine (unhide HC2 W1 (unhide HS)).mono ?_
    rintro r W2 ⟨rfl, hb⟩
    replace HB := hide ((unhide HB).trans (hb.mono (unhide HB).size))
    clear hb
    go_wp2_with fail
    go_ret
    exact ⟨ret_bool (unhide HX).symm, unhide HB⟩
  · have HX : Hid (q = true) := hide (by rw [unhide HE, hr]; rfl)
    clear hr
    go_wp2_with fail
    go_ret
    exact ⟨ret_bool (unhide HX).symm, unhide HB⟩
end Go.Proofs.YtalgidagiojbpaaGreatDoor

/- The model: the least labels by rounds; InferLabels. -/
namespace Go.Proofs.YtalgidagiojbpaaGreatDoor
open Go Go.RowKit

/-- The labels of the first k fields, as a list. -/
def lsL (f : Nat → Nat) (k : Nat) : List Nat := (List.range k).map f
theorem lsL_succ (f : Nat → Nat) (k : Nat) : lsL f (k + 1) = lsL f k ++ [f k] := by
  unfold lsL
  rw [List.range_succ, List.map_append]
  rfl
theorem lsL_len (f : Nat → Nat) (k : Nat) : (lsL f k).length = k := by simp [lsL]
theorem lsL_get {f : Nat → Nat} {k i : Nat} (h : i < (lsL f k).length) : (lsL f k)[i] = f i := by simp [lsL]
theorem lsL_congr {f g : Nat → Nat} {k : Nat} (h : ∀ i, i < k → f i = g i) : lsL f k = lsL g k := List.map_congr_left fun i hi => h i (List.mem_range.1 hi)
/-- A row of labels, read at one place. -/
theorem rowL_at {w : World} {base c n : Nat} {a : Option Addr} {f : Nat → Nat} (h : w.ownsRow base 3 1 (.slice a n c) n (ui (lsL f n))) {i : Nat} (hi : i < n) : ∃ g, a = some ⟨g, 0, none⟩ ∧ g < w.heap.size ∧ w.cell? ⟨g, i, none⟩ = some (.int .i64 (f i : Nat)) := by
  have hl := lsL_len f n
  have h' : w.ownsRow base 3 1 (.slice a (lsL f n).length c) (lsL f n).length (ui (lsL f n)) := by rw [hl]; exact h
  obtain ⟨a', c', e, h2⟩ : ∃ a' c', Value.slice a (lsL f n).length c = .slice a' (lsL f n).length c' ∧ ∀ i (hi : i < (lsL f n).length), ∃ g, a' = some ⟨g, 0, none⟩ ∧ g < w.heap.size ∧ w.cell? ⟨g, i, none⟩ = some (.int .i64 ((lsL f n)[i] : Nat)) := by
    rcases h'.2 with ⟨h1, h2⟩ | ⟨g, cap, cur, h1, hb, hg, r⟩
    · omega
    · refine ⟨_, _, h1, fun i hi => ⟨g, rfl, (Array.getElem?_eq_some_iff.1 hg).1, ?_⟩⟩
      rw [h1] at h'
      rw [h'.cellAt i (by omega)]
      simp [ui, hi]
  cases e
  obtain ⟨g, e, h3, h4⟩ := h2 i (by omega)
  rw [lsL_get] at h4
  exact ⟨g, e, h3, h4⟩
theorem owns_kept {w w' : World} {base n size : Nat} {e : TypeId} {v : Value} {xs : List Value} (h : w.ownsRow base e size v n xs) (hb : Below w.heap.size w w') : w'.ownsRow base e size v n xs :=
  h.kept (row := none) ⟨hb.os, hb.tape, hb.output, hb.size, fun k hk _ => hb.block k hk⟩ (Classical.em _)
theorem row_slice {w : World} {base n : Nat} {v : Value} {xs : List Value} (h : w.ownsRow base 3 1 v n xs) : ∃ a c, v = .slice a n c := by
  rcases h.2 with ⟨h1, h2⟩ | ⟨g, cap, cur, h1, -⟩
  · exact ⟨none, 0, by rw [h1, h2]⟩
  · exact ⟨_, _, h1⟩

theorem idx_facts {x n y : Nat} (hx : x < n) (hy : y < n) (hn : n ≤ 32) : x * n + y < n * n ∧ wrap64 ((x : Int) * (n : Int)) = ((x * n : Nat) : Int) ∧ wrap64 (((x * n : Nat) : Int) + ((y : Nat) : Int)) = ((x * n + y : Nat) : Int) ∧ ((x * n + y : Nat) : Int) < ((n * n : Nat) : Int) ∧ ((x * n + y : Nat) : Int) < (n : Int) * (n : Int) := by
  rw [← Int.natCast_mul n n]
  have h1 : x * n + n ≤ n * n := by rw [← Nat.succ_mul]; exact Nat.mul_le_mul_right _ hx
  have h2 : n * n ≤ 1024 := by have := Nat.mul_le_mul hn hn; omega
  have h3 : x * n + y < n * n := by omega
  generalize n * n = q at *
  refine ⟨h3, ?_, ?_, by omega, by omega⟩
  · rw [← Int.natCast_mul]
    generalize x * n = z at *
    exact wrap64_small (by omega) (by omega)
  · rw [← Int.natCast_add]
    generalize x * n = z at *
    exact wrap64_small (by omega) (by omega)

set_option maxRecDepth 100000 in
set_option maxHeartbeats 16000000 in
theorem l4Labels_any (m : Fm) (A : MA) (w : World) (N bot top : Int) (s n bt tp : Nat) (F : Nat → Bool) (J M : Nat → Int) (a1 a2 a3 : Option Addr) (c1 c2 c3 : Nat) (hv : VfA m) (hf : FitM m) (hL : ValidP N s s s F J M bot top n bt tp) (hN : m.labels.length = n) (ha : MSl w m A) (hj : Ints w a2 s J) :
    Calls Tryz.prog 24 #[mV m A, .agg #[.int .i64 N, .slice a1 s c1, .slice a2 s c2, .slice a3 s c3, .int .i64 bot, .int .i64 top]] w fun r w' => ∃ f a0 c0, r = .returned (.slice a0 m.fields.length c0) ∧ Sol m n (fun a b => F (a * n + b) = true) f ∧ Low m n (fun a b => F (a * n + b) = true) f ∧ Plc w' a0 (lsL f m.fields.length) ∧ Below w.heap.size w w' := by
  have HL := hide hL; have HV := hide hv; have HNl := hide hN
  have HLat := hide (latP_of hL)
  have HJn := hide fun a b (ha : a < n) (hb : b < n) => join_nat hL ha hb
  obtain ⟨jn, hjn⟩ : ∃ jn : Nat → Nat → Nat, (fun a b => (J (a * n + b)).toNat) = jn := ⟨_, rfl⟩
  rw [hjn] at HLat
  have HJe : Hid (∀ a b, a < n → b < n → J (a * n + b) = ((jn a b : Nat) : Int)) := hide fun a b ha hb => by rw [← hjn]; exact unhide HJn a b ha hb
  clear HJn hjn
  have HCa := hide fun W j k (hj : j < m.fields.length) (hk : k < m.fields.length) (hs : MSl W m A) => l4Any_any m A j k W hj hk hf hs
  have hnf := hv.nf
  have hNe := hL.hN; have hb := hL.hb; have hn32 := hL.h32; have hn1 := hL.h1; have hs2 := hL.l2; have hbb := hL.bb
  subst hNe hb hs2
  clear hL hf hN
  obtain ⟨al, alc, ap, apc, ar, arc, af, afc, afa⟩ := A
  unfold mV at HCa ⊢
  dsimp only at HCa ⊢
  have HK := hide ((Blk.new w 35 #[.slice al m.labels.length alc, .slice ap m.below.length apc, .slice ar m.roles.length arc, .slice af m.fields.length afc]).alloc (.cells #[.int .i64 n, .slice a1 (n * n) c1, .slice a2 (n * n) c2, .slice a3 (n * n) c3, .int .i64 bt, .int .i64 top] 53))
  have HQ := hide (Blk.new (w.alloc (.cells #[.slice al m.labels.length alc, .slice ap m.below.length apc, .slice ar m.roles.length arc, .slice af m.fields.length afc] 35)) 53 #[.int .i64 n, .slice a1 (n * n) c1, .slice a2 (n * n) c2, .slice a3 (n * n) c3, .int .i64 bt, .int .i64 top])
  rw [World.size_alloc] at HQ
  have HB := hide (((Below.refl w.heap.size w).alloc (Nat.le_refl _) (.cells #[.slice al m.labels.length alc, .slice ap m.below.length apc, .slice ar m.roles.length arc, .slice af m.fields.length afc] 35)).alloc (by simp) (.cells #[.int .i64 n, .slice a1 (n * n) c1, .slice a2 (n * n) c2, .slice a3 (n * n) c3, .int .i64 bt, .int .i64 top] 53))
  obtain ⟨W0, hW0⟩ : ∃ W0, (w.alloc (.cells #[.slice al m.labels.length alc, .slice ap m.below.length apc, .slice ar m.roles.length arc, .slice af m.fields.length afc] 35)).alloc (.cells #[.int .i64 n, .slice a1 (n * n) c1, .slice a2 (n * n) c2, .slice a3 (n * n) c3, .int .i64 bt, .int .i64 top] 53) = W0 := ⟨_, rfl⟩
  rw [hW0] at HK HQ HB
  have HS := hide (ha.mono (unhide HB)); have HJm := hide (hj.mono (unhide HB))
  clear ha hj hv
  have HO := hide (owns_none W0 3)
  have HBo := hide ((Below.refl W0.heap.size W0).alloc (Nat.le_refl _) (.cells #[] 3))
  obtain ⟨W1, hW1⟩ : ∃ W1, W0.alloc (.cells #[] 3) = W1 := ⟨_, rfl⟩
  rw [hW1] at HO HBo
  obtain ⟨y0, y1, y2, y3⟩ := quad (unhide HK)
  go_enter Tryz.func24, Tryz.ntmps24
  go_wp2_with fail
  try rw [hW0]
  try rw [hW1]
  clear hW0 hW1 y0 y1 y2 y3
  go_loopw [6, 7] (fun v i wr => ∃ k : Nat, k ≤ m.fields.length ∧ i = .int .i64 k ∧ wr.ownsRow W0.heap.size 3 1 v k (ui (lsL (startL m bt) k)) ∧ Below W0.heap.size W0 wr) (fun _ i _ => m.fields.length - (intOf i).toNat)
  case atStart => exact ⟨0, Nat.zero_le _, rfl, unhide HO, unhide HBo⟩
  case round =>
    clear HO HBo
    obtain ⟨k, hk, rfl, ho, hb⟩ := hrel
    have HO := hide ho; have HBr := hide hb
    have HKr := hide ((unhide HK).mono hb (unhide HK).lt); have HQr := hide ((unhide HQ).mono hb (unhide HQ).lt); have HSr := hide ((unhide HS).mono hb)
    have hws := hb.size
    clear ho hb
    by_cases hlt : k < m.fields.length
    · have hlt' : (k : Int) < m.fields.length := by omega
      have HT := hide (lsL_succ (startL m bt) k)
      obtain ⟨pb, po, rfl, ⟨-, -, -, z2, -⟩, -⟩ := (unhide HSr).f k hlt
      obtain ⟨y0, y1, y2, y3⟩ := quad (unhide HKr)
      have hlb := declared (unhide HV) hlt
      have hst : (m.fields[k].lb < 0 ∧ startL m bt k = bt) ∨ (¬ m.fields[k].lb < 0 ∧ m.fields[k].lb = ((startL m bt k : Nat) : Int)) := by
        unfold startL
        rw [fAt_get hlt]
        by_cases h : m.fields[k].lb < 0
        · exact .inl ⟨h, by rw [if_pos h]⟩
        · exact .inr ⟨h, by rw [if_neg h]; omega⟩
      generalize startL m bt k = x at *
      obtain ⟨i0, hi, hz0, hz1, hz2⟩ := info_parts infoI
      have q4 := (unhide HQr).cell 4
      simp only [List.getElem?_cons_zero, List.getElem?_cons_succ] at q4
      rcases hst with ⟨hneg, hx⟩ | ⟨hneg, hx⟩
      case' inl =>
        rw [← hx] at q4
        clear hx
      case' inr =>
        rw [hx] at z2
        have hneg' : ¬ ((x : Nat) : Int) < 0 := by omega
        clear hx
      all_goals
        go_wp2_with (at_builtin; refine wpList_append_own _ rfl _ _ 29 rfl W0.heap.size 3 i0 _ 1 8 Tryz.underlying29 hi hz0 hz1 hz2 rfl (by omega) _ _ _ rfl ((unhide HO).alloc _) ⟨wr.heap.size, 0, none⟩ 1 1 [.int .i64 x] rfl rfl (cell_one wr 3 _) (by simp [Value.oneCell']) (by unfold maxLen; omega) (by omega) (by simp; omega) ?_)
        intro v' w4 ho' hgr' _
        have HO2 : Hid (w4.ownsRow W0.heap.size 3 1 v' (k + 1) (ui (lsL (startL m bt) (k + 1)))) := hide (by rw [unhide HT]; simpa [ui] using ho')
        have HB3 := hide (((unhide HBr).alloc hws (.cells #[.int .i64 x] 3)).grown hgr' (by simp; omega) (fun q' e => owns_block (unhide HO) e))
        clear ho' hgr' hi hz0 hz1 hz2 z2 y0 y1 y2 y3 q4
        go_wp2_with fail
        go_roundw
        case rel => first | exact ⟨k + 1, by omega, by go_num, unhide HO2, unhide HB3⟩ | ((repeat apply Exists.intro); exact ⟨⟨k + 1, by omega, by go_num, unhide HO2, unhide HB3⟩, rfl⟩)
        case measure => simp [intOf]; omega
    · obtain rfl : k = m.fields.length := by omega
      have hlt' : ¬ (m.fields.length : Int) < (m.fields.length : Int) := by omega
      have HWs := hide (way_start (unhide HLat) (unhide HV) (unhide HNl))
      obtain ⟨p, hp⟩ : ∃ p : Nat, m.fields.length * n = p := ⟨_, rfl⟩
      have hpi : (m.fields.length : Int) * (n : Int) = (p : Int) := by rw [← Int.natCast_mul, hp]
      have hpl : p ≤ 6400 := by rw [← hp]; exact Nat.mul_le_mul hnf hn32
      have HPot : Hid (∀ f, potL (fun a b => F (a * n + b)) n m.fields.length f ≤ p) := hide fun f => by rw [← hp]; exact pot_le _ _ _ f
      clear hp
      obtain ⟨a5, c5, e5⟩ := row_slice (unhide HO)
      rw [e5] at HO
      subst e5
      go_wp2_with fail
      go_loopw [6, 8] (fun v r w3 => ∃ (q : Nat) (f : Nat → Nat), q ≤ p + 1 ∧ r = .int .i64 q ∧ w3.ownsRow W0.heap.size 3 1 v m.fields.length (ui (lsL f m.fields.length)) ∧ Way m n (fun a b => F (a * n + b) = true) f ∧ q ≤ potL (fun a b => F (a * n + b)) n m.fields.length f ∧ Below W0.heap.size W0 w3) (fun _ r _ => p + 1 - (intOf r).toNat)
      case atStart => exact ⟨0, _, Nat.zero_le _, rfl, unhide HO, unhide HWs, Nat.zero_le _, unhide HBr⟩
      case round =>
        clear HO HBr HKr HQr HSr hws HWs
        obtain ⟨q, f, hq, rfl, ho, hway, hpot, hb⟩ := hrel
        obtain ⟨a5, c5, e5⟩ := row_slice ho
        rw [e5] at ho
        subst e5
        have HNow := hide ho; have HWay := hide hway; have HPq := hide hpot; have HBr := hide hb
        have HQr := hide ((unhide HQ).mono hb (unhide HQ).lt)
        have q0 := (unhide HQr).cell 0
        simp only [List.getElem?_cons_zero] at q0
        have hws := hb.size
        clear ho hway hpot hb
        have hqp : q ≤ p := by
          have h1 := unhide HPq
          have h2 := unhide HPot f
          omega
        have hqp' : (q : Int) ≤ p := by omega
        have HWj := hide ((unhide HWay).jac (unhide HLat))
        have HJg := hide (jac_ge (unhide HLat) (unhide HWay))
        have HO := hide (owns_none wr 3)
        have HBo := hide ((Below.refl wr.heap.size wr).alloc (Nat.le_refl _) (.cells #[] 3))
        obtain ⟨W3, hW3⟩ : ∃ W3, wr.alloc (.cells #[] 3) = W3 := ⟨_, rfl⟩
        rw [hW3] at HO HBo
        obtain ⟨B1, hB1⟩ : ∃ B1, wr.heap.size = B1 := ⟨_, rfl⟩
        go_wp2_with fail
        try rw [hW3]
        rw [hB1] at HO
        clear hW3 q0
        obtain ⟨wz, hwz⟩ : ∃ wz, wr = wz := ⟨_, rfl⟩
        rw [hwz] at HNow HBr HQr HBo hB1 hws
        rw [hB1] at HBo
        go_loopw [9, 10, 11] (fun v ch kk w3 => ∃ (k : Nat) (cb : Bool), k ≤ m.fields.length ∧ kk = .int .i64 k ∧ ch = .bool cb ∧ w3.ownsRow B1 3 1 v k (ui (lsL (jac m jn f) k)) ∧ (cb = true ↔ ∃ i, i < k ∧ jac m jn f i ≠ f i) ∧ Below B1 wz w3) (fun _ _ kk _ => m.fields.length - (intOf kk).toNat)
        case atStart => exact ⟨0, false, Nat.zero_le _, rfl, rfl, unhide HO, ⟨(fun h => by cases h), fun ⟨i, h, _⟩ => absurd h (Nat.not_lt_zero _)⟩, unhide HBo⟩
        case round =>
          clear HO HBo hwz
          obtain ⟨k, cb, hkl, rfl, rfl, ho, hcb, hb⟩ := hrel
          have HNx := hide ho; have HCb := hide hcb; have HB1 := hide hb
          have HBk : Hid (Below wz.heap.size wz wr) := hide (by rw [hB1]; exact hb)
          have hz1 : B1 ≤ wr.heap.size := by have := hb.size; omega
          clear ho hcb hb
          by_cases hklt : k < m.fields.length
          · have hklt' : (k : Int) < m.fields.length := by omega
            have HBa := hide ((unhide HBr).trans ((unhide HBk).mono hws))
            have HKr := hide ((unhide HK).mono (unhide HBa) (unhide HK).lt); have HSr := hide ((unhide HS).mono (unhide HBa))
            obtain ⟨pb, po, e1, ⟨hpb, -, -, z2, -⟩, -⟩ := (unhide HSr).f k hklt
            dsimp only at e1
            obtain ⟨y0, y1, y2, y3⟩ := quad (unhide HKr)
            rw [e1] at y3
            clear e1
            obtain ⟨g, e2, hgl, zk⟩ := rowL_at (owns_kept (unhide HNow) (unhide HBk)) hklt
            have hauto : (m.fields[k].lb < 0 ∧ jac m jn f k = ((rdO m k m.fields.length).map f).foldl jn (f k)) ∨ (¬ m.fields[k].lb < 0 ∧ jac m jn f k = f k) := by
              unfold jac
              rw [fAt_get hklt]
              by_cases h : m.fields[k].lb < 0
              · exact .inl ⟨h, by rw [if_pos h]⟩
              · exact .inr ⟨h, by rw [if_neg h]⟩
            generalize m.fields[k].lb = lb at *
            rcases hauto with ⟨hneg, hjk⟩ | ⟨hneg, hjk⟩
            · subst e2
              have hfk := (unhide HWay).lt k hklt
              go_wp2_with fail
              clear z2 y0 y1 y2 y3 zk
              obtain ⟨wx, hwx⟩ : ∃ wx, wr = wx := ⟨_, rfl⟩
              rw [hwx] at HNx HB1 HBk HBa HKr HSr hz1 hpb hgl
              go_loopw [12, 13] (fun xv jv w4 => ∃ j : Nat, j ≤ m.fields.length ∧ jv = .int .i64 j ∧ xv = .int .i64 ((((rdO m k j).map f).foldl jn (f k) : Nat) : Int) ∧ Below wx.heap.size wx w4) (fun _ jv _ => m.fields.length - (intOf jv).toNat)
              case atStart => exact ⟨0, Nat.zero_le _, rfl, rfl, by rw [hwx]; exact Below.refl _ _⟩
              case round =>
                clear hwx
                obtain ⟨j, hjl, rfl, rfl, hb⟩ := hrel
                have HBx := hide hb
                have HBb := hide ((unhide HBa).trans (hb.mono (unhide HBa).size))
                have HK2 := hide ((unhide HK).mono (unhide HBb) (unhide HK).lt); have HS2 := hide ((unhide HS).mono (unhide HBb)); have HQ2 := hide ((unhide HQ).mono (unhide HBb) (unhide HQ).lt); have HJ2 := hide ((unhide HJm).mono (unhide HBb))
                have HR2 := hide (owns_kept (owns_kept (unhide HNow) (unhide HBk)) hb)
                have hws4 := hb.size
                clear hb
                have hxl := (unhide HLat).fold_lt _ _ hfk (rdO_lt (unhide HWay).lt k j hjl)
                by_cases hjlt : j < m.fields.length
                · have hjlt' : (j : Int) < m.fields.length := by omega
                  have hfj := (unhide HWay).lt j hjlt
                  have HSu := hide (rdO_succ m k j)
                  obtain ⟨y0, y1, y2, y3⟩ := quad (unhide HK2)
                  have HC2 := hide (unhide HCa wr j k hjlt hklt (unhide HS2))
                  generalize hxx : ((rdO m k j).map f).foldl jn (f k) = x at *
                  have HXX := hide hxx
                  clear hxx
                  go_wp2_with fail
                  refine (unhide HC2).mono ?_
                  rintro r W5 ⟨rfl, hb⟩
                  have HB5 := hide ((unhide HBx).trans (hb.mono (unhide HBx).size))
                  have HQ5 := hide ((unhide HQ2).mono hb (unhide HQ2).lt); have HJ5 := hide ((unhide HJ2).mono hb); have HR5 := hide (owns_kept (unhide HR2) hb)
                  clear hb y0 y1 y2 y3 HC2 HK2 HS2 HQ2 HJ2 HR2
                  cases har : anyR m j k
                  · have HXn : Hid (((rdO m k (j + 1)).map f).foldl jn (f k) = x) := hide (by rw [unhide HSu, har, ← unhide HXX]; simp)
                    clear har HSu
                    go_wp2_with fail
                    go_roundw
                    case rel => first | exact ⟨j + 1, by omega, by go_num, by rw [unhide HXn], unhide HB5⟩ | ((repeat apply Exists.intro); exact ⟨⟨j + 1, by omega, by go_num, by rw [unhide HXn], unhide HB5⟩, rfl⟩)
                    case measure => simp [intOf]; omega
                  · have HXn : Hid (((rdO m k (j + 1)).map f).foldl jn (f k) = jn x (f j)) := hide (by rw [unhide HSu, har, ← unhide HXX]; simp)
                    clear har HSu
                    obtain ⟨hidx, hw1, hw2, hidx', hidx2⟩ := idx_facts hxl hfj hn32
                    obtain ⟨g', e2, -, zk⟩ := rowL_at (unhide HR5) hjlt
                    cases e2
                    obtain ⟨b2, o2, e3, -, zj⟩ := unhide HJ5 _ hidx
                    rw [unhide HJe x (f j) hxl hfj] at zj
                    have x2 := (unhide HQ5).cell 2; have x0 := (unhide HQ5).cell 0
                    simp only [List.getElem?_cons_zero, List.getElem?_cons_succ] at x2 x0
                    rw [e3] at x2
                    clear e3
                    generalize jn x (f j) = u at *
                    generalize f j = y at *
                    generalize x * n + y = q1 at *
                    generalize x * n = q2 at *
                    go_wp2_with fail
                    refine wp_region_held_drew (S := fun w' => w'.cell? ⟨w.heap.size + 1, 2, none⟩ = some (.slice (some ⟨b2, o2, none⟩) (n * n) c2) ∧ w'.cell? ⟨w.heap.size + 1, 0, none⟩ = some (.int .i64 n) ∧ w'.cell? ⟨g, j, none⟩ = some (.int .i64 (y : Nat)) ∧ w'.cell? ⟨b2, o2 + q1, none⟩ = some (.int .i64 (u : Nat))) (by kernel_rfl) ⟨x2, x0, zk, zj⟩ (fun hHeld => ?_)
                    clear x2 x0 zk zj
                    refine takeY (i := 0) (v := .pointer (some ⟨w.heap.size + 1, 2, none⟩)) 78 rfl rfl (by kernel_rfl) (by kernel_rfl) (by kernel_rfl) (fun _ _ _ _ h => h) (by rfl) (fun w hS => by simp [execOp, go_sem, *]) hHeld ?_
                    simp only [List.setIfInBounds_toArray, List.set_cons_zero, List.set_cons_succ]
                    refine takeY (i := 1) (v := .slice (some ⟨b2, o2, none⟩) (n * n) c2) 79 rfl rfl (by kernel_rfl) (by kernel_rfl) (by kernel_rfl) (fun _ _ _ _ h => h) (by rfl) (fun w hS => by simp [execOp, go_sem, *]) hHeld ?_
                    simp only [List.setIfInBounds_toArray, List.set_cons_zero, List.set_cons_succ]
                    refine takeY (i := 2) (v := .int .i64 x) 80 rfl rfl (by kernel_rfl) (by kernel_rfl) (by kernel_rfl) (fun _ _ _ _ h => h) (by rfl) (fun w hS => by simp [execOp, go_sem, *]) hHeld ?_
                    simp only [List.setIfInBounds_toArray, List.set_cons_zero, List.set_cons_succ]
                    refine takeY (i := 3) (v := .pointer (some ⟨w.heap.size + 1, 0, none⟩)) 81 rfl rfl (by kernel_rfl) (by kernel_rfl) (by kernel_rfl) (fun _ _ _ _ h => h) (by rfl) (fun w hS => by simp [execOp, go_sem, *]) hHeld ?_
                    simp only [List.setIfInBounds_toArray, List.set_cons_zero, List.set_cons_succ]
                    refine takeY (i := 4) (v := .int .i64 n) 82 rfl rfl (by kernel_rfl) (by kernel_rfl) (by kernel_rfl) (fun _ _ _ _ h => h) (by rfl) (fun w hS => by simp [execOp, go_sem, *]) hHeld ?_
                    simp only [List.setIfInBounds_toArray, List.set_cons_zero, List.set_cons_succ]
                    refine takeY (i := 5) (v := .int .i64 q2) 83 rfl rfl (by kernel_rfl) (by kernel_rfl) (by kernel_rfl) (fun _ _ _ _ h => h) (by rfl) (fun w hS => by simp [execOp, go_sem, *]; exact (IntWalk.i64_left _).trans hw1) hHeld ?_
                    simp only [List.setIfInBounds_toArray, List.set_cons_zero, List.set_cons_succ]
                    refine takeY (i := 6) (v := .slice (some ⟨g, 0, none⟩) m.fields.length c5) 84 rfl rfl (by kernel_rfl) (by kernel_rfl) (by kernel_rfl) (fun _ _ _ _ h => h) (by rfl) (fun w hS => by simp [execOp, go_sem, *]) hHeld ?_
                    simp only [List.setIfInBounds_toArray, List.set_cons_zero, List.set_cons_succ]
                    refine takeY (i := 7) (v := .int .i64 j) 85 rfl rfl (by kernel_rfl) (by kernel_rfl) (by kernel_rfl) (fun _ _ _ _ h => h) (by rfl) (fun w hS => by simp [execOp, go_sem, *]) hHeld ?_
                    simp only [List.setIfInBounds_toArray, List.set_cons_zero, List.set_cons_succ]
                    refine takeY (i := 8) (v := .pointer (some ⟨g, j, none⟩)) 86 rfl rfl (by kernel_rfl) (by kernel_rfl) (by kernel_rfl) (fun _ _ _ _ h => h) (by rfl) (fun w hS => by simp [execOp, go_sem, *]) hHeld ?_
                    simp only [List.setIfInBounds_toArray, List.set_cons_zero, List.set_cons_succ]
                    refine takeY (i := 9) (v := .int .i64 y) 87 rfl rfl (by kernel_rfl) (by kernel_rfl) (by kernel_rfl) (fun _ _ _ _ h => h) (by rfl) (fun w hS => by simp [execOp, go_sem, *]) hHeld ?_
                    simp only [List.setIfInBounds_toArray, List.set_cons_zero, List.set_cons_succ]
                    refine takeY (i := 10) (v := .int .i64 q1) 88 rfl rfl (by kernel_rfl) (by kernel_rfl) (by kernel_rfl) (fun _ _ _ _ h => h) (by rfl) (fun w hS => by simp [execOp, go_sem, *]; exact (IntWalk.i64_left _).trans hw2) hHeld ?_
                    simp only [List.setIfInBounds_toArray, List.set_cons_zero, List.set_cons_succ]
                    refine takeY (i := 11) (v := .pointer (some ⟨b2, o2 + q1, none⟩)) 89 rfl rfl (by kernel_rfl) (by kernel_rfl) (by kernel_rfl) (fun _ _ _ _ h => h) (by rfl) (fun w hS => by simp [execOp, go_sem, *]) hHeld ?_
                    simp only [List.setIfInBounds_toArray, List.set_cons_zero, List.set_cons_succ]
                    refine takeY (i := 12) (v := .int .i64 u) 90 rfl rfl (by kernel_rfl) (by kernel_rfl) (by kernel_rfl) (fun _ _ _ _ h => h) (by rfl) (fun w hS => by simp [execOp, go_sem, *]) hHeld ?_
                    simp only [List.setIfInBounds_toArray, List.set_cons_zero, List.set_cons_succ]
                    refine takeY (i := 13) (v := .int .i64 u) 12 rfl rfl (by kernel_rfl) (by kernel_rfl) (by kernel_rfl) (fun _ _ _ _ h => h) (by rfl) (fun w hS => by simp [execOp, go_sem, *]) hHeld ?_
                    simp only [List.setIfInBounds_toArray, List.set_cons_zero, List.set_cons_succ]
                    refine wpAnyH_done (by kernel_rfl) ?_ _
                    have HB6 := hide ((unhide HB5).drew)
                    clear hHeld
                    go_wp2_with fail
                    go_roundw
                    case rel => first | exact ⟨j + 1, by omega, by go_num, by rw [unhide HXn], unhide HB6⟩ | ((repeat apply Exists.intro); exact ⟨⟨j + 1, by omega, by go_num, by rw [unhide HXn], unhide HB6⟩, rfl⟩)
                    case measure => simp [intOf]; omega
                · obtain rfl : j = m.fields.length := by omega
                  have hjlt' : ¬ (m.fields.length : Int) < (m.fields.length : Int) := by omega
                  rw [← hjk]
                  rw [← hjk] at hxl
                  replace HNx := hide (owns_kept (unhide HNx) (unhide HBx)); replace HB1 := hide ((unhide HB1).trans ((unhide HBx).mono hz1)); replace HBk := hide ((unhide HBk).trans ((unhide HBx).mono (unhide HBk).size))
                  clear HBa HKr HSr HBb HK2 HS2 HQ2 HJ2 HR2 HBx hjk
                  obtain ⟨g, e2, -, zk⟩ := rowL_at (owns_kept (unhide HNow) (unhide HBk)) hklt
                  cases e2
                  obtain ⟨i0, hi, hz0, hz1, hz2⟩ := info_parts infoI
                  have hne : (jac m jn f k ≠ f k ∧ ((((jac m jn f k : Nat) : Int) != ((f k : Nat) : Int)) = true)) ∨ (jac m jn f k = f k ∧ ((((jac m jn f k : Nat) : Int) != ((f k : Nat) : Int)) = false)) := by
                    by_cases e : jac m jn f k = f k
                    · exact .inr ⟨e, by rw [e]; simp⟩
                    · exact .inl ⟨e, by simp; omega⟩
                  have hkb : jac m jn f k < n := (unhide HWj).lt k hklt
                  have HT := hide (lsL_succ (jac m jn f) k)
                  have hws2 := (unhide HBk).size
                  have HCg : Hid (∀ c2 : Bool, (c2 = true ↔ ∃ i, i < k + 1 ∧ jac m jn f i ≠ f i) ↔ (c2 = (cb || decide (jac m jn f k ≠ f k)))) := hide fun c2 => by
                    have hcb := unhide HCb
                    have h : (∃ i, i < k + 1 ∧ jac m jn f i ≠ f i) ↔ (cb || decide (jac m jn f k ≠ f k)) = true := by
                      rw [Bool.or_eq_true, decide_eq_true_iff, hcb]
                      constructor
                      · rintro ⟨i, h1, h2⟩
                        by_cases e : i = k
                        · subst e; exact .inr h2
                        · exact .inl ⟨i, by omega, h2⟩
                      · rintro (⟨i, h1, h2⟩ | h)
                        · exact ⟨i, by omega, h2⟩
                        · exact ⟨k, by omega, h⟩
                    rw [h]
                    cases c2 <;> cases (cb || decide (jac m jn f k ≠ f k)) <;> simp
                  rcases hne with ⟨hne1, hne⟩ | ⟨hne1, hne⟩
                  case' inl =>
                    have HCn : Hid (true = true ↔ ∃ i, i < k + 1 ∧ jac m jn f i ≠ f i) := hide ((unhide HCg true).2 (by rw [decide_eq_true hne1]; simp))
                    clear hne1 HCg
                  case' inr =>
                    have HCn : Hid (cb = true ↔ ∃ i, i < k + 1 ∧ jac m jn f i ≠ f i) := hide ((unhide HCg cb).2 (by rw [decide_eq_false (not_not_intro hne1)]; simp))
                    clear hne1 HCg
                  all_goals
                    generalize jac m jn f k = x at *
                    generalize f k = y at *
                    go_wp2_with (at_builtin; refine wpList_append_own _ rfl _ _ 29 rfl B1 3 i0 _ 1 8 Tryz.underlying29 hi hz0 hz1 hz2 rfl (by omega) _ _ _ rfl ((unhide HNx).alloc _) ⟨wr.heap.size, 0, none⟩ 1 1 [.int .i64 x] rfl rfl (cell_one wr 3 _) (by simp [Value.oneCell']) (by unfold maxLen; omega) (by omega) (by simp; omega) ?_)
                    intro v' w4 ho' hgr' _
                    have HO2 : Hid (w4.ownsRow B1 3 1 v' (k + 1) (ui (lsL (jac m jn f) (k + 1)))) := hide (by rw [unhide HT]; simpa [ui] using ho')
                    have HB3 := hide (((unhide HB1).alloc (by omega) (.cells #[.int .i64 x] 3)).grown hgr' (by simp; omega) (fun q' e => owns_block (unhide HNx) e))
                    clear ho' hgr' hi hz0 hz1 hz2 zk hne
                    go_wp2_with fail
                    go_roundw
                    case rel => exact ⟨k + 1, _, by omega, by go_num, rfl, unhide HO2, by first | exact unhide HCn | simpa using unhide HCn, unhide HB3⟩
                    case measure => simp [intOf]; omega
            · have HT0 := hide (lsL_succ (jac m jn f) k)
              have HCn : Hid (cb = true ↔ ∃ i, i < k + 1 ∧ jac m jn f i ≠ f i) := hide (by
                rw [unhide HCb]
                constructor
                · rintro ⟨i, h1, h2⟩
                  exact ⟨i, by omega, h2⟩
                · rintro ⟨i, h1, h2⟩
                  by_cases e : i = k
                  · subst e; exact absurd hjk h2
                  · exact ⟨i, by omega, h2⟩)
              have HT := HT0
              rw [hjk] at HT
              subst e2
              have hws2 := (unhide HBk).size
              obtain ⟨i0, hi, hz0, hz1', hz2⟩ := info_parts infoI
              clear hjk HT0
              generalize f k = y at *
              go_wp2_with (at_builtin; refine wpList_append_own _ rfl _ _ 29 rfl B1 3 i0 _ 1 8 Tryz.underlying29 hi hz0 hz1' hz2 rfl (by omega) _ _ _ rfl ((unhide HNx).alloc _) ⟨wr.heap.size, 0, none⟩ 1 1 [.int .i64 y] rfl rfl (cell_one wr 3 _) (by simp [Value.oneCell']) (by unfold maxLen; omega) (by omega) (by simp; omega) ?_)
              intro v' w4 ho' hgr' _
              have HO2 : Hid (w4.ownsRow B1 3 1 v' (k + 1) (ui (lsL (jac m jn f) (k + 1)))) := hide (by rw [unhide HT]; simpa [ui] using ho')
              have HB3 := hide (((unhide HB1).alloc (by omega) (.cells #[.int .i64 y] 3)).grown hgr' (by simp; omega) (fun q' e => owns_block (unhide HNx) e))
              clear ho' hgr' hi hz0 hz1' hz2 zk z2 y0 y1 y2 y3
              go_wp2_with fail
              go_roundw
              case rel => first | exact ⟨k + 1, cb, by omega, by go_num, rfl, unhide HO2, unhide HCn, unhide HB3⟩ | ((repeat apply Exists.intro); exact ⟨⟨k + 1, cb, by omega, by go_num, rfl, unhide HO2, unhide HCn, unhide HB3⟩, rfl⟩)
              case measure => simp [intOf]; omega
          · obtain rfl : k = m.fields.length := by omega
            have hklt' : ¬ (m.fields.length : Int) < (m.fields.length : Int) := by omega
            have HB4 : Hid (Below W0.heap.size W0 wr) := hide ((unhide HBr).trans ((unhide HBk).mono hws))
            cases cb
            · have he : ∀ i, i < m.fields.length → jac m jn f i = f i := fun i hi => Classical.byContradiction fun h => by have := (unhide HCb).2 ⟨i, hi, h⟩; cases this
              have HSo := hide (jac_sol (unhide HLat) (unhide HWay) he)
              have hO := unhide HNx
              rw [lsL_congr he] at hO
              obtain ⟨a6, c6, rfl, -, hp6⟩ := plc_of_owns hO
              have HP6 := hide hp6; have HLo := hide (unhide HWay).low
              have HBw := hide ((unhide HB).trans ((unhide HB4).mono (unhide HB).size))
              clear hO hp6 he HNx
              go_wp2_with fail
              go_ret
              first | exact ⟨f, a6, c6, rfl, unhide HSo, unhide HLo, unhide HP6, unhide HBw⟩ | exact ⟨f, a6, ⟨c6, rfl⟩, unhide HSo, unhide HLo, unhide HP6, unhide HBw⟩ | exact ⟨f, ⟨a6, ⟨c6, rfl⟩, unhide HSo, unhide HLo, unhide HP6⟩, unhide HBw⟩
            · obtain ⟨i, hi, hne⟩ := (unhide HCb).1 rfl
              have HPn : Hid (q + 1 ≤ potL (fun a b => F (a * n + b)) n m.fields.length (jac m jn f)) := hide (by
                have h1 := pot_lt (F := fun a b => F (a * n + b)) (unhide HLat) (unhide HWay).lt (unhide HWj).lt (unhide HJg) hi (fun e => hne e.symm)
                have h2 := unhide HPq
                omega)
              have HO6 := hide (owns_base (unhide HNx) (show W0.heap.size ≤ B1 by omega))
              clear hne
              go_wp2_with fail
              go_roundw
              case rel => first | exact ⟨q + 1, jac m jn f, by omega, by go_num, unhide HO6, unhide HWj, unhide HPn, unhide HB4⟩ | ((repeat apply Exists.intro); exact ⟨⟨q + 1, jac m jn f, by omega, by go_num, unhide HO6, unhide HWj, unhide HPn, unhide HB4⟩, rfl⟩)
              case measure => simp [intOf]; omega
end Go.Proofs.YtalgidagiojbpaaGreatDoor
