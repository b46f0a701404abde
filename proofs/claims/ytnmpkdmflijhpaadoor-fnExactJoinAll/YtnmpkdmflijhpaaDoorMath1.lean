/- What ValidLattice reckons with sets is what a valid lattice is. -/
import Derived.Test.YtnmpkdmflijhpaaDoorImpl1
namespace Go.Proofs.YtnmpkdmflijhpaaDoor
open Go Go.RowKit

/-- a lies at or below b. -/
def Le (f : Nat → Bool) (n a b : Nat) : Prop := a < n ∧ b < n ∧ f (a * n + b) = true
theorem part_iff {f : Nat → Bool} {n a b : Nat} : part f n (n * n) a b = true ↔ Le f n a b := by
  unfold part Le
  simp only [Bool.and_eq_true, decide_eq_true_iff]
  constructor
  · rintro ⟨⟨h1, h2⟩, h3⟩
    refine ⟨?_, h1, h3⟩
    apply Nat.lt_of_not_le; intro h
    have := Nat.mul_le_mul_right n h; omega
  · rintro ⟨h1, h2, h3⟩
    exact ⟨⟨h2, idx_lt h1 h2⟩, h3⟩
section
variable {n : Nat} {f : Nat → Bool} {u c d : Nat → Nat}
theorem u_bit (hu : IsRel u (part f n (n * n))) {a : Nat} (ha : a < 32) (b : Nat) : (u a).testBit b = true ↔ Le f n a b := by rw [(hu a ha).2 b]; exact part_iff
theorem d_bit (hd : IsRel d (fun b a => decide (a < n) && part f n (n * n) a b)) {a : Nat} (ha : a < 32) (b : Nat) : (d a).testBit b = true ↔ Le f n b a := by
  rw [(hd a ha).2 b, Bool.and_eq_true, decide_eq_true_iff, part_iff]
  exact ⟨fun h => h.2, fun h => ⟨h.1, h⟩⟩

theorem same_of (hu : IsRel u (part f n (n * n))) (hc : IsReach c (fun a b => a < n ∧ Reach u a b)) (hr : ∀ a, a < n → Le f n a a) (ht : ∀ a b e, Le f n a b → Le f n b e → Le f n a e) : sameN u c = true := by
  rw [sameN_iff]
  intro a ha
  apply Nat.eq_of_testBit_eq
  intro b
  rw [Bool.eq_iff_iff, u_bit hu ha, (hc a ha).2 b]
  constructor
  · exact fun h => ⟨h.1, (Reach.refl u a).step ha ((u_bit hu ha b).2 h)⟩
  · rintro ⟨h1, h2⟩
    exact h2 (fun x => Le f n a x) (hr a h1) (fun x y hx hx32 hy => ht a x y hx ((u_bit hu hx32 y).1 hy))
theorem same_refl (hn : n ≤ 32) (hu : IsRel u (part f n (n * n))) (hc : IsReach c (fun a b => a < n ∧ Reach u a b)) (h : sameN u c = true) : (∀ a, a < n → Le f n a a) ∧ ∀ a b e, Le f n a b → Le f n b e → Le f n a e := by
  rw [sameN_iff] at h
  have key : ∀ a b, a < n → Reach u a b → Le f n a b := fun a b ha hr => by
    rw [← u_bit hu (by omega), h a (by omega), (hc a (by omega)).2 b]; exact ⟨ha, hr⟩
  refine ⟨fun a ha => key a a ha (Reach.refl _ _), fun a b e h1 h2 => ?_⟩
  have ha := h1.1; have hb := h1.2.1
  have r1 : Reach u a b := (Reach.refl u a).step (by omega) ((u_bit hu (by omega) b).2 h1)
  exact key a e h1.1 (r1.step (by omega) ((u_bit hu (by omega) e).2 h2))

theorem two_iff (hn : n ≤ 32) (hu : IsRel u (part f n (n * n))) (hd : IsRel d (fun b a => decide (a < n) && part f n (n * n) a b)) (hr : ∀ a, a < n → Le f n a a) {a : Nat} (ha : a < n) :
    commonN (u a) (d a) = 2 ^ a ↔ ∀ b, Le f n a b → Le f n b a → a = b := by
  have bits : ∀ b, (commonN (u a) (d a)).testBit b = true ↔ Le f n a b ∧ Le f n b a := fun b => by
    rw [commonN_bit (hu a (by omega)).1 (hd a (by omega)).1, Bool.and_eq_true, u_bit hu (by omega), d_bit hd (by omega)]
  constructor
  · intro h b h1 h2
    have := (bits b).2 ⟨h1, h2⟩
    rw [h, Nat.testBit_two_pow, decide_eq_true_iff] at this
    exact this
  · intro h
    apply Nat.eq_of_testBit_eq
    intro b
    rw [Bool.eq_iff_iff, bits, Nat.testBit_two_pow, decide_eq_true_iff]
    exact ⟨fun ⟨h1, h2⟩ => h b h1 h2, fun e => by subst e; exact ⟨hr a ha, hr a ha⟩⟩

theorem minus_zero {s t : Nat} (hs : s < 4294967296) (ht : t < 4294967296) : minusN s t = 0 ↔ ∀ x, s.testBit x = true → t.testBit x = true := by
  constructor
  · intro h x hx
    have := minusN_bit hs ht x
    rw [h, hx] at this
    simpa using this.symm
  · intro h
    apply Nat.eq_of_testBit_eq
    intro x
    rw [minusN_bit hs ht x]
    cases e : s.testBit x
    · simp
    · simp [h x e]

theorem join_iff (hn : n ≤ 32) (hu : IsRel u (part f n (n * n))) {a b e : Nat} (ha : a < n) (hb : b < n) (he : e < 32) :
    ((commonN (u a) (u b)).testBit e = true ∧ minusN (commonN (u a) (u b)) (u e) = 0) ↔ (e < n ∧ isJoinP f n a b e) := by
  have ua := (hu a (by omega)).1; have ub := (hu b (by omega)).1
  rw [minus_zero (commonN_lt ua) (hu e he).1, commonN_bit ua ub, Bool.and_eq_true, u_bit hu (by omega), u_bit hu (by omega)]
  have hx : ∀ x, (commonN (u a) (u b)).testBit x = true ↔ Le f n a x ∧ Le f n b x := fun x => by rw [commonN_bit ua ub, Bool.and_eq_true, u_bit hu (by omega), u_bit hu (by omega)]
  unfold isJoinP
  constructor
  · rintro ⟨⟨h1, h2⟩, h3⟩
    refine ⟨h1.2.1, h1.2.2, h2.2.2, fun x hxn h4 h5 => ?_⟩
    exact ((u_bit hu he x).1 (h3 x ((hx x).2 ⟨⟨ha, hxn, h4⟩, ⟨hb, hxn, h5⟩⟩))).2.2
  · rintro ⟨h0, h1, h2, h3⟩
    refine ⟨⟨⟨ha, h0, h1⟩, ⟨hb, h0, h2⟩⟩, fun x hx' => ?_⟩
    obtain ⟨h4, h5⟩ := (hx x).1 hx'
    exact (u_bit hu he x).2 ⟨h0, h4.2.1, h3 x h4.2.1 h4.2.2 h5.2.2⟩
theorem meet_iff (hn : n ≤ 32) (hd : IsRel d (fun b a => decide (a < n) && part f n (n * n) a b)) {a b e : Nat} (ha : a < n) (hb : b < n) (he : e < 32) :
    ((commonN (d a) (d b)).testBit e = true ∧ minusN (commonN (d a) (d b)) (d e) = 0) ↔ (e < n ∧ isMeetP f n a b e) := by
  have ua := (hd a (by omega)).1; have ub := (hd b (by omega)).1
  rw [minus_zero (commonN_lt ua) (hd e he).1, commonN_bit ua ub, Bool.and_eq_true, d_bit hd (by omega), d_bit hd (by omega)]
  have hx : ∀ x, (commonN (d a) (d b)).testBit x = true ↔ Le f n x a ∧ Le f n x b := fun x => by rw [commonN_bit ua ub, Bool.and_eq_true, d_bit hd (by omega), d_bit hd (by omega)]
  unfold isMeetP
  constructor
  · rintro ⟨⟨h1, h2⟩, h3⟩
    refine ⟨h1.1, h1.2.2, h2.2.2, fun x hxn h4 h5 => ?_⟩
    exact ((d_bit hd he x).1 (h3 x ((hx x).2 ⟨⟨hxn, ha, h4⟩, ⟨hxn, hb, h5⟩⟩))).2.2
  · rintro ⟨h0, h1, h2, h3⟩
    refine ⟨⟨⟨h0, ha, h1⟩, ⟨h0, hb, h2⟩⟩, fun x hx' => ?_⟩
    obtain ⟨h4, h5⟩ := (hx x).1 hx'
    exact (d_bit hd he x).2 ⟨h4.1, h0, h3 x h4.1 h4.2.2 h5.2.2⟩
/-- An entry of the table of joins. -/
theorem entry_join (hn : n ≤ 32) (hu : IsRel u (part f n (n * n))) {a b : Nat} (ha : a < n) (hb : b < n) {v : Int} (h : Entry u a b v) :
    (∃ e : Nat, e < n ∧ v = e ∧ isJoinP f n a b e) ∨ (v = -1 ∧ ∀ e, e < n → ¬ isJoinP f n a b e) := by
  rcases h with ⟨e, he, rfl, h1, h2⟩ | ⟨rfl, h⟩
  · obtain ⟨h3, h4⟩ := (join_iff hn hu ha hb he).1 ⟨h1, h2⟩
    exact .inl ⟨e, h3, rfl, h4⟩
  · refine .inr ⟨rfl, fun e he hj => ?_⟩
    obtain ⟨h3, h4⟩ := (join_iff hn hu ha hb (by omega)).2 ⟨he, hj⟩
    exact h e h3 h4
theorem entry_meet (hn : n ≤ 32) (hd : IsRel d (fun b a => decide (a < n) && part f n (n * n) a b)) {a b : Nat} (ha : a < n) (hb : b < n) {v : Int} (h : Entry d a b v) :
    (∃ e : Nat, e < n ∧ v = e ∧ isMeetP f n a b e) ∨ (v = -1 ∧ ∀ e, e < n → ¬ isMeetP f n a b e) := by
  rcases h with ⟨e, he, rfl, h1, h2⟩ | ⟨rfl, h⟩
  · obtain ⟨h3, h4⟩ := (meet_iff hn hd ha hb he).1 ⟨h1, h2⟩
    exact .inl ⟨e, h3, rfl, h4⟩
  · refine .inr ⟨rfl, fun e he hj => ?_⟩
    obtain ⟨h3, h4⟩ := (meet_iff hn hd ha hb (by omega)).2 ⟨he, hj⟩
    exact h e h3 h4
theorem all_bit (n x : Nat) : (2 ^ n - 1).testBit x = true ↔ x < n := by rw [Nat.testBit_two_pow_sub_one]; simp
theorem bot_of (hn : n ≤ 32) (hu : IsRel u (part f n (n * n))) {v : Int} (h : Least u (2 ^ n - 1) v) : (∃ e : Nat, e < n ∧ v = e ∧ ∀ x, x < n → Le f n e x) ∨ (v = -1 ∧ ∀ e, e < n → ¬ ∀ x, x < n → Le f n e x) := by
  rcases h with ⟨e, he, rfl, h1, h2⟩ | ⟨rfl, h⟩
  · rw [minus_zero (all_lt hn) (hu e he).1] at h2
    exact .inl ⟨e, (all_bit n e).1 h1, rfl, fun x hx => (u_bit hu he x).1 (h2 x ((all_bit n x).2 hx))⟩
  · refine .inr ⟨rfl, fun e he hall => h e ((all_bit n e).2 he) ?_⟩
    rw [minus_zero (all_lt hn) (hu e (by omega)).1]
    exact fun x hx => (u_bit hu (by omega) x).2 (hall x ((all_bit n x).1 hx))
theorem top_of (hn : n ≤ 32) (hd : IsRel d (fun b a => decide (a < n) && part f n (n * n) a b)) {v : Int} (h : Least d (2 ^ n - 1) v) : (∃ e : Nat, e < n ∧ v = e ∧ ∀ x, x < n → Le f n x e) ∨ (v = -1 ∧ ∀ e, e < n → ¬ ∀ x, x < n → Le f n x e) := by
  rcases h with ⟨e, he, rfl, h1, h2⟩ | ⟨rfl, h⟩
  · rw [minus_zero (all_lt hn) (hd e he).1] at h2
    exact .inl ⟨e, (all_bit n e).1 h1, rfl, fun x hx => (d_bit hd he x).1 (h2 x ((all_bit n x).2 hx))⟩
  · refine .inr ⟨rfl, fun e he hall => h e ((all_bit n e).2 he) ?_⟩
    rw [minus_zero (all_lt hn) (hd e (by omega)).1]
    exact fun x hx => (d_bit hd (by omega) x).2 (hall x ((all_bit n x).1 hx))

/-- Where all meets are there, a label lies below all. -/
theorem has_bot {n : Nat} {f : Nat → Bool} (h1 : 1 ≤ n) (ht : ∀ a b e, Le f n a b → Le f n b e → Le f n a e) (hm : ∀ a, a < n → ∀ b, b < n → ∃ e, e < n ∧ isMeetP f n a b e) : ∃ e, e < n ∧ ∀ x, x < n → Le f n e x := by
  have key : ∀ k, k ≤ n → ∃ e, e < n ∧ ∀ x, x < k → Le f n e x := fun k => by
    induction k with
    | zero => exact fun _ => ⟨0, by omega, fun x h => absurd h (Nat.not_lt_zero _)⟩
    | succ k ih =>
      intro hk
      obtain ⟨e, he, hx⟩ := ih (by omega)
      obtain ⟨q, hq, h2, h3, -⟩ := hm e he k (by omega)
      refine ⟨q, hq, fun x hxk => ?_⟩
      by_cases ex : x = k
      · subst ex; exact ⟨hq, by omega, h3⟩
      · exact ht q e x ⟨hq, he, h2⟩ (hx x (by omega))
  exact key n (Nat.le_refl _)
theorem has_top {n : Nat} {f : Nat → Bool} (h1 : 1 ≤ n) (ht : ∀ a b e, Le f n a b → Le f n b e → Le f n a e) (hm : ∀ a, a < n → ∀ b, b < n → ∃ e, e < n ∧ isJoinP f n a b e) : ∃ e, e < n ∧ ∀ x, x < n → Le f n x e := by
  have key : ∀ k, k ≤ n → ∃ e, e < n ∧ ∀ x, x < k → Le f n x e := fun k => by
    induction k with
    | zero => exact fun _ => ⟨0, by omega, fun x h => absurd h (Nat.not_lt_zero _)⟩
    | succ k ih =>
      intro hk
      obtain ⟨e, he, hx⟩ := ih (by omega)
      obtain ⟨q, hq, h2, h3, -⟩ := hm e he k (by omega)
      refine ⟨q, hq, fun x hxk => ?_⟩
      by_cases ex : x = k
      · subst ex; exact ⟨by omega, hq, h3⟩
      · exact ht x e q (hx x (by omega)) ⟨he, hq, h2⟩
  exact key n (Nat.le_refl _)
theorem join_one {n : Nat} {f : Nat → Bool} (hs : ∀ a b, Le f n a b → Le f n b a → a = b) {a b e q : Nat} (he : e < n) (hq : q < n) (h : isJoinP f n a b e) (h' : isJoinP f n a b q) : e = q :=
  hs e q ⟨he, hq, h.2.2 q hq h'.1 h'.2.1⟩ ⟨hq, he, h'.2.2 e he h.1 h.2.1⟩
theorem meet_one {n : Nat} {f : Nat → Bool} (hs : ∀ a b, Le f n a b → Le f n b a → a = b) {a b e q : Nat} (he : e < n) (hq : q < n) (h : isMeetP f n a b e) (h' : isMeetP f n a b q) : e = q :=
  hs e q ⟨he, hq, h'.2.2 e he h.1 h.2.1⟩ ⟨hq, he, h.2.2 q hq h'.1 h'.2.1⟩
theorem rows_iff {n bt tp : Nat} {f : Nat → Bool} (hb : bt < n) (ht : tp < n) : (∀ a, a < n → rowP f n bt tp a) ↔ (∀ a, a < n → Le f n a a) ∧ (∀ x, x < n → Le f n bt x) ∧ (∀ x, x < n → Le f n x tp) ∧ (∀ a b, Le f n a b → Le f n b a → a = b) ∧ (∀ a b e, Le f n a b → Le f n b e → Le f n a e) := by
  constructor
  · intro h
    refine ⟨fun a ha => ⟨ha, ha, (h a ha).1⟩, fun x hx => ⟨hb, hx, (h x hx).2.1⟩, fun x hx => ⟨hx, ht, (h x hx).2.2.1⟩, fun a b h1 h2 => ?_, fun a b e h1 h2 => ⟨h1.1, h2.2.1, ((h a h1.1).2.2.2 b h1.2.1).2 e h2.2.1 h1.2.2 h2.2.2⟩⟩
    exact Classical.byContradiction fun hne => ((h a h1.1).2.2.2 b h1.2.1).1 ⟨hne, h1.2.2, h2.2.2⟩
  · rintro ⟨h1, h2, h3, h4, h5⟩ a ha
    refine ⟨(h1 a ha).2.2, (h2 a ha).2.2, (h3 a ha).2.2, fun b hb' => ⟨fun ⟨hne, e1, e2⟩ => hne (h4 a b ⟨ha, hb', e1⟩ ⟨hb', ha, e2⟩), fun e he e1 e2 => (h5 a b e ⟨ha, hb', e1⟩ ⟨hb', he, e2⟩).2.2⟩⟩
theorem idx_split {n i : Nat} (h : i < n * n) : i / n < n ∧ i % n < n ∧ i / n * n + i % n = i := by
  have hn : 0 < n := by
    apply Nat.pos_of_ne_zero; intro e; subst e; simp at h
  exact ⟨(Nat.div_lt_iff_lt_mul hn).2 h, Nat.mod_lt _ hn, by rw [Nat.mul_comm]; exact Nat.div_add_mod i n⟩

theorem outcome_iff {n : Nat} {f : Nat → Bool} {g h : Nat → Int} {bot top : Int} {V : Bool} (h1 : 1 ≤ n) (hn : n ≤ 32) (ho : Outcome n f g h bot top V) : V = true ↔ Valid n (n * n) (n * n) (n * n) f g h bot top := by
  obtain ⟨u, c, d, hu, hc, hd, ho⟩ := ho
  have valid : Valid n (n * n) (n * n) (n * n) f g h bot top → ∃ bt tp : Nat, bot = bt ∧ top = tp ∧ bt < n ∧ tp < n ∧ (∀ a, a < n → rowP f n bt tp a) ∧ ∀ a, a < n → ∀ b, b < n → entP f g h n a b := by
    rintro ⟨n', bt, tp, hv⟩
    obtain rfl : n = n' := by have := hv.hN; omega
    exact ⟨bt, tp, hv.hb, hv.ht, hv.bb, hv.tt, hv.rows, hv.ents⟩
  rcases ho with ⟨hs, rfl⟩ | ⟨hs, ho⟩
  · refine ⟨(fun h => by cases h), fun hv => ?_⟩
    obtain ⟨bt, tp, -, -, hb, ht, hrows, -⟩ := valid hv
    obtain ⟨r1, -, -, -, r5⟩ := (rows_iff hb ht).1 hrows
    rw [same_of hu hc r1 r5] at hs; cases hs
  obtain ⟨hrf, htr⟩ := same_refl hn hu hc hs
  rcases ho with ⟨⟨a, ha, hne⟩, rfl⟩ | ⟨htw, ⟨a, b, ha, hb', hno⟩, rfl⟩ | ⟨htw, ⟨a, b, ha, hb', hno⟩, rfl⟩ | ⟨htw, F1, F2, bot', top', k1, k2, k3, k4, rfl⟩
  · refine ⟨(fun h => by cases h), fun hv => ?_⟩
    obtain ⟨bt, tp, -, -, hb, ht, hrows, -⟩ := valid hv
    obtain ⟨-, -, -, r4, -⟩ := (rows_iff hb ht).1 hrows
    exact absurd ((two_iff hn hu hd hrf ha).2 fun b => r4 a b) hne
  · refine ⟨(fun h => by cases h), fun hv => ?_⟩
    obtain ⟨bt, tp, -, -, hb, ht, -, hents⟩ := valid hv
    obtain ⟨j, m, -, -, hj, -, hjn, -⟩ := hents a ha b hb'
    rcases entry_join hn hu ha hb' hno with ⟨e, -, h2, -⟩ | ⟨-, h2⟩
    · omega
    · exact absurd hjn (h2 j hj)
  · refine ⟨(fun h => by cases h), fun hv => ?_⟩
    obtain ⟨bt, tp, -, -, hb, ht, -, hents⟩ := valid hv
    obtain ⟨j, m, -, -, -, hm, -, hmn⟩ := hents a ha b hb'
    rcases entry_meet hn hd ha hb' hno with ⟨e, -, h2, -⟩ | ⟨-, h2⟩
    · omega
    · exact absurd hmn (h2 m hm)
  have hanti : ∀ a b, Le f n a b → Le f n b a → a = b := fun a b e1 e2 => (two_iff hn hu hd hrf e1.1).1 (htw a e1.1) b e1 e2
  have J : ∀ a, a < n → ∀ b, b < n → ∃ e : Nat, e < n ∧ F1 (a * n + b) = e ∧ isJoinP f n a b e := fun a ha b hb => by
    rcases entry_join hn hu ha hb (k1 a ha b hb).2 with h | ⟨h, -⟩
    · exact h
    · have := (k1 a ha b hb).1; omega
  have M : ∀ a, a < n → ∀ b, b < n → ∃ e : Nat, e < n ∧ F2 (a * n + b) = e ∧ isMeetP f n a b e := fun a ha b hb => by
    rcases entry_meet hn hd ha hb (k2 a ha b hb).2 with h | ⟨h, -⟩
    · exact h
    · have := (k2 a ha b hb).1; omega
  obtain ⟨bt, hbt, hbe, hball⟩ : ∃ e : Nat, e < n ∧ bot' = e ∧ ∀ x, x < n → Le f n e x := by
    rcases bot_of hn hu k3 with h | ⟨-, h⟩
    · exact h
    · obtain ⟨e, he, hx⟩ := has_bot h1 htr (fun a ha b hb => by obtain ⟨e, he, -, hm⟩ := M a ha b hb; exact ⟨e, he, hm⟩)
      exact absurd hx (h e he)
  obtain ⟨tp, htp, hte, htall⟩ : ∃ e : Nat, e < n ∧ top' = e ∧ ∀ x, x < n → Le f n x e := by
    rcases top_of hn hd k4 with h | ⟨-, h⟩
    · exact h
    · obtain ⟨e, he, hx⟩ := has_top h1 htr (fun a ha b hb => by obtain ⟨e, he, -, hm⟩ := J a ha b hb; exact ⟨e, he, hm⟩)
      exact absurd hx (h e he)
  have e4 : sameV bot' bot top' top (n * n) F1 g F2 h = true ↔ bot' = bot ∧ top' = top ∧ (∀ i, i < n * n → F1 i = g i) ∧ ∀ i, i < n * n → F2 i = h i := by
    simp [sameV, sameI, and_assoc]
  rw [e4]
  constructor
  · rintro ⟨e1, e2, e3, e4⟩
    refine ⟨n, bt, tp, rfl, h1, hn, rfl, rfl, rfl, by rw [← e1, hbe], by rw [← e2, hte], hbt, htp, (rows_iff hbt htp).2 ⟨hrf, hball, htall, hanti, htr⟩, fun a ha b hb => ?_⟩
    obtain ⟨j, hj, hje, hjn⟩ := J a ha b hb
    obtain ⟨m, hm, hme, hmn⟩ := M a ha b hb
    exact ⟨j, m, by rw [← e3 _ (idx_lt ha hb), hje], by rw [← e4 _ (idx_lt ha hb), hme], hj, hm, hjn, hmn⟩
  · intro hv
    obtain ⟨bt', tp', hb1, ht1, hb2, ht2, hrows, hents⟩ := valid hv
    obtain ⟨-, r2, r3, -, -⟩ := (rows_iff hb2 ht2).1 hrows
    refine ⟨?_, ?_, fun i hi => ?_, fun i hi => ?_⟩
    · rw [hb1, hbe, hanti bt bt' (hball bt' hb2) (r2 bt hbt)]
    · rw [ht1, hte, hanti tp tp' (r3 tp htp) (htall tp' ht2)]
    · obtain ⟨i1, i2, i3⟩ := idx_split hi
      obtain ⟨j, hj, hje, hjn⟩ := J _ i1 _ i2
      obtain ⟨j', m', g1, -, g3, -, g5, -⟩ := hents _ i1 _ i2
      rw [i3] at hje g1
      rw [hje, g1, join_one hanti hj g3 hjn g5]
    · obtain ⟨i1, i2, i3⟩ := idx_split hi
      obtain ⟨j, hj, hje, hjn⟩ := M _ i1 _ i2
      obtain ⟨j', m', -, g1, -, g3, -, g5⟩ := hents _ i1 _ i2
      rw [i3] at hje g1
      rw [hje, g1, meet_one hanti hj g3 hjn g5]
end
end Go.Proofs.YtnmpkdmflijhpaaDoor
