/- The two BuildLattices come to the same. -/
import Derived.Test.YtnmpkdmflijhpaaDoorImpB
import Derived.Test.YtnmpkdmflijhpaaDoorMath1
namespace Go.Proofs.YtnmpkdmflijhpaaDoor
open Go Go.RowKit

theorem last_of {p : Nat → Bool} {e : Nat} (he : p e = true) : ∀ {k : Nat}, e < k → (∀ c, c < k → p c = true → c = e) → lastN p k = e
  | k + 1, h, hu => by
    rw [lastN]
    by_cases hk : p k = true
    · rw [if_pos hk, hu k (by omega) hk]
    · rw [if_neg hk]
      have : e ≠ k := fun x => hk (x ▸ he)
      exact last_of he (by omega) (fun c hc => hu c (by omega))
theorem belowAll_iff {F : Nat → Bool} {n m c : Nat} : belowAll F n m c = true ↔ ∀ d, d < m → F (c * n + d) = true := by simp [belowAll]
theorem aboveAll_iff {F : Nat → Bool} {n m c : Nat} : aboveAll F n m c = true ↔ ∀ d, d < m → F (d * n + c) = true := by simp [aboveAll]
theorem is_congr {n : Nat} {F G : Nat → Int} (h : ∀ i, i < n → F i = G i) : is n F = is n G := List.map_congr_left fun i hi => by rw [h i (List.mem_range.1 hi)]
theorem bs_congr {n : Nat} {F G : Nat → Bool} (h : ∀ i, i < n → F i = G i) : bs n F = bs n G := List.map_congr_left fun i hi => by rw [h i (List.mem_range.1 hi)]
theorem reach_lt {u f g : Nat → Nat} {m n a b : Nat} (hu : PairBits u f g m) (hg : ∀ k, k < m → g k < n) (ha : a < n) (h : Reach u a b) : b < n :=
  h (fun x => x < n) ha fun x y _ hx hy => by obtain ⟨k, hk, -, rfl⟩ := (hu x hx y).1 hy; exact hg k hk
theorem reach_trans {u : Nat → Nat} {a b c : Nat} (h1 : Reach u a b) (h2 : Reach u b c) : Reach u a c := fun C h hs => h2 C (h1 C h hs) hs
theorem pairBits_of {u f g : Nat → Nat} {m : Nat} (h : IsRel u (pb f g m)) : PairBits u f g m := fun x hx y => by rw [(h x hx).2 y, pb_iff]

section
variable {u q f g : Nat → Nat} {m n : Nat} {F : Nat → Bool}
theorem le_reach (hn : n ≤ 32) (hu : IsRel u (pb f g m)) (hf : ∀ k, k < m → f k < n) (hg : ∀ k, k < m → g k < n) (hF : tabB n (rounds diag f g m n) = F) {a b : Nat} : Le F n a b ↔ a < n ∧ Reach u a b := by
  unfold Le
  rw [← hF]
  refine ⟨fun ⟨h1, h2, h3⟩ => ⟨h1, ?_⟩, fun ⟨h1, h2⟩ => ?_⟩
  · rw [tabB_at _ h2] at h3
    exact (closure_iff hn (pairBits_of hu) hf hg h1).1 h3
  · have h3 := reach_lt (pairBits_of hu) hg h1 h2
    refine ⟨h1, h3, ?_⟩
    rw [tabB_at _ h3]
    exact (closure_iff hn (pairBits_of hu) hf hg h1).2 h2
theorem rel_q (hn : n ≤ 32) (hu : IsRel u (pb f g m)) (hf : ∀ k, k < m → f k < n) (hg : ∀ k, k < m → g k < n) (hF : tabB n (rounds diag f g m n) = F) (hq : IsReach q (fun a b => a < n ∧ Reach u a b)) : IsRel q (part F n (n * n)) := fun a ha =>
  ⟨(hq a ha).1, fun b => by rw [Bool.eq_iff_iff, (hq a ha).2 b, part_iff, le_reach hn hu hf hg hF]⟩
end

/-- Both answers at once: the same code, and the same tables. -/
def SameOut (n : Nat) (F : Nat → Bool) (B : Nat) (e1 e2 : Ending) (w1 w2 : World) : Prop :=
  (∃ code : Int, e1 = .returned (.tuple #[zeroL, .int .i64 code]) ∧ e2 = .returned (.tuple #[zeroL, .int .i64 code])) ∨
  (∃ a1 a2 a3 c1 c2 c3 G1 G2 G3, ∃ bot top : Int, e1 = .returned (.tuple #[.agg #[.int .i64 n, .slice a1 (n * n) c1, .slice a2 (n * n) c2, .slice a3 (n * n) c3, .int .i64 bot, .int .i64 top], .int .i64 0]) ∧
    e2 = .returned (.tuple #[.agg #[.int .i64 n, .slice (some ⟨G1, 0, none⟩) (n * n) (n * n), .slice (some ⟨G2, 0, none⟩) (n * n) (n * n), .slice (some ⟨G3, 0, none⟩) (n * n) (n * n), .int .i64 bot, .int .i64 top], .int .i64 0]) ∧
    Bools w1 a1 (n * n) F ∧ Ints w1 a2 (n * n) (JF F n) ∧ Ints w1 a3 (n * n) (MF F n) ∧ Blk w2 G1 4 (bs (n * n) F) ∧ Blk w2 G2 3 (is (n * n) (JF F n)) ∧ Blk w2 G3 3 (is (n * n) (MF F n)) ∧ B ≤ G1 ∧ B ≤ G2 ∧ B ≤ G3 ∧ G1 ≠ G2 ∧ G1 ≠ G3 ∧ G2 ≠ G3)

section
variable {n B : Nat} {F : Nat → Bool} {q d : Nat → Nat}
theorem jf_none {a b : Nat} (hb : b < n) (h : ∀ e, e < n → ¬ isJoinP F n a b e) : JF F n (a * n + b) = -1 := by
  have hd : (a * n + b) / n = a ∧ (a * n + b) % n = b := by
    rw [Nat.add_comm, Nat.add_mul_div_right _ _ (by omega), Nat.div_eq_of_lt hb, Nat.add_mul_mod_self_right, Nat.mod_eq_of_lt hb]; simp
  rw [JF, hd.1, hd.2, first_none fun c hc => isJoin_false (h c hc)]
theorem jf_some {a b e : Nat} (hs : ∀ a b, Le F n a b → Le F n b a → a = b) (hb : b < n) (he : e < n) (h : isJoinP F n a b e) : JF F n (a * n + b) = e := by
  have hd : (a * n + b) / n = a ∧ (a * n + b) % n = b := by
    rw [Nat.add_comm, Nat.add_mul_div_right _ _ (by omega), Nat.div_eq_of_lt hb, Nat.add_mul_mod_self_right, Nat.mod_eq_of_lt hb]; simp
  rw [JF, hd.1, hd.2]
  rcases first_cases (isJoin F n a b) n with ⟨c, hc, h1, h2⟩ | ⟨-, h2⟩
  · rw [h1, join_one hs hc he (isJoin_iff.1 h2) h]
  · have := h2 e he
    rw [isJoin_true h] at this; cases this
theorem mf_none {a b : Nat} (hb : b < n) (h : ∀ e, e < n → ¬ isMeetP F n a b e) : MF F n (a * n + b) = -1 := by
  have hd : (a * n + b) / n = a ∧ (a * n + b) % n = b := by
    rw [Nat.add_comm, Nat.add_mul_div_right _ _ (by omega), Nat.div_eq_of_lt hb, Nat.add_mul_mod_self_right, Nat.mod_eq_of_lt hb]; simp
  rw [MF, hd.1, hd.2, first_none fun c hc => isMeet_false (h c hc)]
theorem mf_some {a b e : Nat} (hs : ∀ a b, Le F n a b → Le F n b a → a = b) (hb : b < n) (he : e < n) (h : isMeetP F n a b e) : MF F n (a * n + b) = e := by
  have hd : (a * n + b) / n = a ∧ (a * n + b) % n = b := by
    rw [Nat.add_comm, Nat.add_mul_div_right _ _ (by omega), Nat.div_eq_of_lt hb, Nat.add_mul_mod_self_right, Nat.mod_eq_of_lt hb]; simp
  rw [MF, hd.1, hd.2]
  rcases first_cases (isMeet F n a b) n with ⟨c, hc, h1, h2⟩ | ⟨-, h2⟩
  · rw [h1, meet_one hs hc he (isMeet_iff.1 h2) h]
  · have := h2 e he
    rw [isMeet_true h] at this; cases this

theorem same_out {Rl : Nat → Nat → Bool} {e1 e2 : Ending} {w1 w2 : World} (h1 : 1 ≤ n) (hn : n ≤ 32) (hq : IsRel q (part F n (n * n))) (hd : IsRel d (fun b a => decide (a < n) && part F n (n * n) a b)) (hRl : ∀ a b, a < n → b < n → Rl a b = F (a * n + b))
    (hr : ∀ a, a < n → Le F n a a) (ht : ∀ a b e, Le F n a b → Le F n b e → Le F n a e) (hS : SpecOut n F e1 w1) (hL : LatOut n q d Rl B e2 w2) : SameOut n F B e1 e2 w1 w2 := by
  have anti : ¬ TwoW F n → ∀ a b, Le F n a b → Le F n b a → a = b := fun h a b x y => Classical.byContradiction fun e => h ⟨a, b, x.1, y.1, e, x.2.2, y.2.2⟩
  have two1 : (∃ a, a < n ∧ ¬ commonN (q a) (d a) = 2 ^ a) → TwoW F n := fun ⟨a, ha, h⟩ => Classical.byContradiction fun hno => h ((two_iff hn hq hd hr ha).2 fun b x y => anti hno a b x y)
  have two2 : (∀ a, a < n → commonN (q a) (d a) = 2 ^ a) → ¬ TwoW F n := fun h ⟨a, b, ha, hb, hne, x, y⟩ => hne ((two_iff hn hq hd hr ha).1 (h a ha) b ⟨ha, hb, x⟩ ⟨hb, ha, y⟩)
  have entJ : ∀ {a b : Nat} {v : Int}, a < n → b < n → Entry q a b v → _ := fun ha hb h => entry_join hn hq ha hb h
  have entM : ∀ {a b : Nat} {v : Int}, a < n → b < n → Entry d a b v → _ := fun ha hb h => entry_meet hn hd ha hb h
  have noJ : (∃ a b, a < n ∧ b < n ∧ Entry q a b (-1)) → ∃ i, i < n * n ∧ JF F n i < 0 := fun ⟨a, b, ha, hb, h⟩ => by
    rcases entJ ha hb h with ⟨e, -, he, -⟩ | ⟨-, h⟩
    · omega
    · exact ⟨a * n + b, idx_lt ha hb, by rw [jf_none hb h]; omega⟩
  have noM : (∃ a b, a < n ∧ b < n ∧ Entry d a b (-1)) → ∃ i, i < n * n ∧ MF F n i < 0 := fun ⟨a, b, ha, hb, h⟩ => by
    rcases entM ha hb h with ⟨e, -, he, -⟩ | ⟨-, h⟩
    · omega
    · exact ⟨a * n + b, idx_lt ha hb, by rw [mf_none hb h]; omega⟩
  have valJ : ∀ {F1 : Nat → Int}, ¬ TwoW F n → (∀ a, a < n → ∀ b, b < n → 0 ≤ F1 (a * n + b) ∧ Entry q a b (F1 (a * n + b))) → ∀ i, i < n * n → JF F n i = F1 i ∧ 0 ≤ F1 i ∧ ∃ e, e < n ∧ isJoinP F n (i / n) (i % n) e := fun {F1} hno h i hi => by
    obtain ⟨ha, hb, he⟩ := idx_split hi
    obtain ⟨h0, hE⟩ := h _ ha _ hb
    rcases entJ ha hb hE with ⟨e, hen, hv, hj⟩ | ⟨hv, -⟩
    · have := jf_some (anti hno) hb hen hj
      rw [he] at this hv h0
      exact ⟨by rw [this, hv], h0, e, hen, hj⟩
    · omega
  have valM : ∀ {F2 : Nat → Int}, ¬ TwoW F n → (∀ a, a < n → ∀ b, b < n → 0 ≤ F2 (a * n + b) ∧ Entry d a b (F2 (a * n + b))) → ∀ i, i < n * n → MF F n i = F2 i ∧ 0 ≤ F2 i ∧ ∃ e, e < n ∧ isMeetP F n (i / n) (i % n) e := fun {F2} hno h i hi => by
    obtain ⟨ha, hb, he⟩ := idx_split hi
    obtain ⟨h0, hE⟩ := h _ ha _ hb
    rcases entM ha hb hE with ⟨e, hen, hv, hj⟩ | ⟨hv, -⟩
    · have := mf_some (anti hno) hb hen hj
      rw [he] at this hv h0
      exact ⟨by rw [this, hv], h0, e, hen, hj⟩
    · omega
  rcases hL with ⟨l2, le⟩ | ⟨l2, l3, le⟩ | ⟨l2, l4, ⟨F1, l3⟩, le⟩ | ⟨l2, G1, G2, G3, F1, F2, bot, top, le, b1, b2, b3, x1, x2, x3, y1, y2, y3, l3, l4, lb, lt⟩
  · rcases hS with ⟨-, se⟩ | ⟨s2, -⟩ | ⟨s2, -⟩ | ⟨s2, -⟩
    · exact .inl ⟨2, se, le⟩
    all_goals exact absurd (two1 l2) s2
  · rcases hS with ⟨s2, -⟩ | ⟨s2, s3, se⟩ | ⟨s2, s3, -⟩ | ⟨s2, s3, -⟩
    · exact absurd s2 (two2 l2)
    · exact .inl ⟨3, se, le⟩
    all_goals
      obtain ⟨i, hi, h⟩ := noJ l3
      have := s3 i hi
      omega
  · have vJ := valJ (two2 l2) l3
    rcases hS with ⟨s2, -⟩ | ⟨s2, ⟨i, hi, h⟩, se⟩ | ⟨s2, s3, s4, se⟩ | ⟨s2, s3, s4, -⟩
    · exact absurd s2 (two2 l2)
    · have := vJ i hi; omega
    · exact .inl ⟨4, se, le⟩
    · obtain ⟨i, hi, h⟩ := noM l4
      have := s4 i hi
      omega
  · have vJ := valJ (two2 l2) l3
    have vM := valM (two2 l2) l4
    rcases hS with ⟨s2, -⟩ | ⟨s2, ⟨i, hi, h⟩, se⟩ | ⟨s2, s3, ⟨i, hi, h⟩, se⟩ | ⟨s2, s3, s4, a1, a2, a3, c1, c2, c3, se, k1, k2, k3⟩
    · exact absurd s2 (two2 l2)
    · have := vJ i hi; omega
    · have := vM i hi; omega
    · have hA := anti s2
      have joins : ∀ a, a < n → ∀ b, b < n → ∃ e, e < n ∧ isJoinP F n a b e := fun a ha b hb => by
        obtain ⟨-, -, e, he, hj⟩ := vJ _ (idx_lt ha hb)
        have hdm : (a * n + b) / n = a ∧ (a * n + b) % n = b := by
          rw [Nat.add_comm, Nat.add_mul_div_right _ _ (by omega), Nat.div_eq_of_lt hb, Nat.add_mul_mod_self_right, Nat.mod_eq_of_lt hb]; simp
        rw [hdm.1, hdm.2] at hj
        exact ⟨e, he, hj⟩
      have meets : ∀ a, a < n → ∀ b, b < n → ∃ e, e < n ∧ isMeetP F n a b e := fun a ha b hb => by
        obtain ⟨-, -, e, he, hj⟩ := vM _ (idx_lt ha hb)
        have hdm : (a * n + b) / n = a ∧ (a * n + b) % n = b := by
          rw [Nat.add_comm, Nat.add_mul_div_right _ _ (by omega), Nat.div_eq_of_lt hb, Nat.add_mul_mod_self_right, Nat.mod_eq_of_lt hb]; simp
        rw [hdm.1, hdm.2] at hj
        exact ⟨e, he, hj⟩
      have hbot : lastN (belowAll F n n) n = bot := by
        rcases bot_of hn hq lb with ⟨e, he, hv, hx⟩ | ⟨-, hx⟩
        · rw [hv]
          refine last_of (belowAll_iff.2 fun x h => (hx x h).2.2) he fun c hc hp => ?_
          have hp' := belowAll_iff.1 hp
          exact hA c e ⟨hc, he, hp' e he⟩ (hx c hc)
        · obtain ⟨e, he, h⟩ := has_bot h1 ht meets
          exact absurd h (hx e he)
      have htop : lastN (aboveAll F n n) n = top := by
        rcases top_of hn hd lt with ⟨e, he, hv, hx⟩ | ⟨-, hx⟩
        · rw [hv]
          refine last_of (aboveAll_iff.2 fun x h => (hx x h).2.2) he fun c hc hp => ?_
          have hp' := aboveAll_iff.1 hp
          exact hA c e (hx c hc) ⟨he, hc, hp' e he⟩
        · obtain ⟨e, he, h⟩ := has_top h1 ht joins
          exact absurd h (hx e he)
      rw [hbot, htop] at se
      rw [bs_congr (G := F) fun i hi => by
        obtain ⟨ha, hb, he⟩ := idx_split hi
        rw [tabB, hRl _ _ ha hb, he]] at b1
      rw [is_congr (G := JF F n) fun i hi => (vJ i hi).1.symm] at b2
      rw [is_congr (G := MF F n) fun i hi => (vM i hi).1.symm] at b3
      exact .inr ⟨a1, a2, a3, c1, c2, c3, G1, G2, G3, bot, top, se, le, k1, k2, k3, b1, b2, b3, x1, x2, x3, y1, y2, y3⟩
end
end Go.Proofs.YtnmpkdmflijhpaaDoor
