/- For every order the two BuildLattices answer alike: a code alone, or a lattice. -/
import Derived.Test.YtnmpkdmflijhpaaDoorBuiltV
namespace Go.Proofs.YtnmpkdmflijhpaaDoor
open Go Go.RowKit

def SpecZ (N : Int) (m : Nat) (f g : Nat → Int) (code : Int) : Prop := ∀ (w : World) (X : Option Addr) (c : Nat), Pairs w X m f g → Calls Tryd.prog 10 #[.agg #[.int .i64 N, .slice X m c]] w fun e w' => e = .returned (.tuple #[zeroL, .int .i64 code]) ∧ Below w.heap.size w w'
def ImplZ (N : Int) (m : Nat) (f g : Nat → Int) (code : Int) : Prop := ∀ (w : World) (X : Option Addr) (c : Nat), Pairs w X m f g → Tab w → Calls Tryd.prog 12 #[.agg #[.int .i64 N, .slice X m c]] w fun e w' => e = .returned (.tuple #[zeroL, .int .i64 code]) ∧ Below w.heap.size w w'
def SpecF (N : Int) (m : Nat) (f g : Nat → Int) (s : Nat) (F : Nat → Bool) (J M : Nat → Int) (bot top : Int) : Prop := ∀ (w : World) (X : Option Addr) (c : Nat), Pairs w X m f g → Calls Tryd.prog 10 #[.agg #[.int .i64 N, .slice X m c]] w fun e w' =>
  ∃ a1 a2 a3 c1 c2 c3, e = .returned (.tuple #[.agg #[.int .i64 N, .slice a1 s c1, .slice a2 s c2, .slice a3 s c3, .int .i64 bot, .int .i64 top], .int .i64 0]) ∧ Bools w' a1 s F ∧ Ints w' a2 s J ∧ Ints w' a3 s M ∧ Below w.heap.size w w'
def ImplF (N : Int) (m : Nat) (f g : Nat → Int) (s : Nat) (F : Nat → Bool) (J M : Nat → Int) (bot top : Int) : Prop := ∀ (w : World) (X : Option Addr) (c : Nat), Pairs w X m f g → Tab w → Calls Tryd.prog 12 #[.agg #[.int .i64 N, .slice X m c]] w fun e w' =>
  ∃ G1 G2 G3, e = .returned (.tuple #[.agg #[.int .i64 N, .slice (some ⟨G1, 0, none⟩) s s, .slice (some ⟨G2, 0, none⟩) s s, .slice (some ⟨G3, 0, none⟩) s s, .int .i64 bot, .int .i64 top], .int .i64 0]) ∧ Blk w' G1 4 (bs s F) ∧ Blk w' G2 3 (is s J) ∧ Blk w' G3 3 (is s M) ∧ w.heap.size ≤ G1 ∧ w.heap.size ≤ G2 ∧ w.heap.size ≤ G3 ∧ G1 ≠ G2 ∧ G1 ≠ G3 ∧ G2 ≠ G3 ∧ Below w.heap.size w w'
theorem Pairs.congr {w : World} {a : Option Addr} {m : Nat} {f g f' g' : Nat → Int} (h : Pairs w a m f g) (hf : ∀ k, k < m → f k = f' k) (hg : ∀ k, k < m → g k = g' k) : Pairs w a m f' g' := fun k hk => by
  obtain ⟨b, off, e, h1, h2, h3⟩ := h k hk
  exact ⟨b, off, e, h1, by rw [← hf k hk]; exact h2, by rw [← hg k hk]; exact h3⟩

/-- A place in memory that holds a table and two lists, for the sake of argument. -/
theorem some_full (w : World) (n : Nat) (F : Nat → Bool) (J M : Nat → Int) : ∃ w1 a1 a2 a3, Bools w1 a1 n F ∧ Ints w1 a2 n J ∧ Ints w1 a3 n M := by
  have b1 := ((Blk.new w 4 (bs n F).toArray).alloc (.cells (is n J).toArray 3)).alloc (.cells (is n M).toArray 3)
  have b2 := (Blk.new (w.alloc (.cells (bs n F).toArray 4)) 3 (is n J).toArray).alloc (.cells (is n M).toArray 3)
  have b3 := Blk.new ((w.alloc (.cells (bs n F).toArray 4)).alloc (.cells (is n J).toArray 3)) 3 (is n M).toArray
  exact ⟨_, _, _, _, Blk.bools (f := F) b1, Blk.ints (f := J) b2, Blk.ints (f := M) b3⟩

theorem pb_is (f g : Nat → Nat) : ∀ m, (∀ k, k < m → f k < 32) → (∀ k, k < m → g k < 32) → ∃ u, IsRel u (pb f g m)
  | 0, _, _ => ⟨fun _ => 0, fun a _ => ⟨Nat.zero_lt_of_lt (show 0 < 4294967296 by decide), fun b => by simp [pb]⟩⟩
  | m + 1, hf, hg => by
    obtain ⟨u, h⟩ := pb_is f g m (fun k hk => hf k (by omega)) (fun k hk => hg k (by omega))
    have h' := h.add (hf m (by omega)) (hg m (by omega))
    exact ⟨_, fun a ha => ⟨(h' a ha).1, fun b => ((h' a ha).2 b).trans (pb_succ f g m a b).symm⟩⟩

theorem dich2 (N : Int) (m : Nat) (f g : Nat → Int) (hm : m ≤ 1048576) : (∃ code, code ≠ 0 ∧ SpecZ N m f g code ∧ ImplZ N m f g code) ∨ (∃ s F J M bot top, s ≤ 1024 ∧ Valid N s s s F J M bot top ∧ SpecF N m f g s F J M bot top ∧ ImplF N m f g s F J M bot top) := by
  by_cases hr : 1 ≤ N ∧ N ≤ 32 ∧ m ≤ 256
  · by_cases hp : ∀ k, k < m → 0 ≤ f k ∧ f k < N ∧ 0 ≤ g k ∧ g k < N
    · obtain ⟨n, rfl⟩ : ∃ n : Nat, N = n := ⟨N.toNat, by omega⟩
      have h1 : 1 ≤ n := by omega
      have h32 : n ≤ 32 := by omega
      have hF1 : ∀ k, k < m → f k = (((f k).toNat : Nat) : Int) := fun k hk => by have := hp k hk; omega
      have hG1 : ∀ k, k < m → g k = (((g k).toNat : Nat) : Int) := fun k hk => by have := hp k hk; omega
      have hf : ∀ k, k < m → (f k).toNat < n := fun k hk => by have := hp k hk; omega
      have hg : ∀ k, k < m → (g k).toNat < n := fun k hk => by have := hp k hk; omega
      obtain ⟨F, hF⟩ : ∃ F, tabB n (rounds diag (fun k => (f k).toNat) (fun k => (g k).toNat) m n) = F := ⟨_, rfl⟩
      have spec : ∀ (w : World) (X : Option Addr) (c : Nat), Pairs w X m f g → Calls Tryd.prog 10 #[.agg #[.int .i64 n, .slice X m c]] w fun e w' => SpecOut n F e w' ∧ Below w.heap.size w w' := fun w X c h =>
        specBuild_ok n X m c _ _ w h1 h32 hr.2.2 (h.congr hF1 hG1) hf hg F hF
      have impl : ∀ (e1 : Ending) (w1 : World), SpecOut n F e1 w1 → ∀ (w : World) (X : Option Addr) (c : Nat), Pairs w X m f g → Tab w → Calls Tryd.prog 12 #[.agg #[.int .i64 n, .slice X m c]] w fun e w' => SameOut n F w.heap.size e1 e w1 w' ∧ Below w.heap.size w w' := fun e1 w1 hS w X c h ht =>
        (implBuild_ok n X m c _ _ w h1 h32 hr.2.2 (h.congr hF1 hG1) hf hg ht).mono fun e w' ⟨hb, u, q, d, Rl, hu, hq, hqr, hd, hL⟩ => by
          have hqp := rel_q h32 hu hf hg hF hq
          have hRl : ∀ a b, a < 32 → Rl a b = part F n (n * n) a b := fun a b ha => ((hqr a ha).2 b).symm.trans ((hqp a ha).2 b)
          have hd' : IsRel d (fun b a => decide (a < n) && part F n (n * n) a b) := hd.congr fun a b _ => by
            by_cases hb : b < n
            · rw [hRl b a (by omega)]
            · rw [decide_eq_false hb]; rfl
          have hle : ∀ {a b}, Le F n a b ↔ a < n ∧ Reach u a b := le_reach h32 hu hf hg hF
          refine ⟨same_out h1 h32 hqp hd' (fun a b ha hb => ?_) (fun a ha => hle.2 ⟨ha, Reach.refl _ _⟩) (fun a b e x y => hle.2 ⟨(hle.1 x).1, reach_trans (hle.1 x).2 (hle.1 y).2⟩) hS hL, hb⟩
          rw [hRl a b (by omega), Bool.eq_iff_iff, part_iff]
          exact ⟨fun h => h.2.2, fun h => ⟨ha, hb, h⟩⟩
      have zero : ∀ code : Int, (∀ e w', SpecOut n F e w' → e = .returned (.tuple #[zeroL, .int .i64 code])) → (∀ w', SpecOut n F (.returned (.tuple #[zeroL, .int .i64 code])) w') → SpecZ n m f g code ∧ ImplZ n m f g code := fun code h1 h2 => by
        refine ⟨fun w X c h => (spec w X c h).mono fun e w' ⟨a, b⟩ => ⟨h1 e w' a, b⟩, fun w X c h ht => (impl _ w (h2 w) w X c h ht).mono fun e w' ⟨a, b⟩ => ⟨?_, b⟩⟩
        rcases a with ⟨code', x, y⟩ | ⟨a1, a2, a3, c1, c2, c3, G1, G2, G3, bot, top, x, -⟩
        · simp only [Ending.returned.injEq, Value.tuple.injEq, Array.mk.injEq, List.cons.injEq, Value.int.injEq, and_true, true_and] at x
          rw [y, x]
        · exfalso
          simp [zeroL] at x
          omega
      by_cases t2 : TwoW F n
      · exact .inl ⟨2, by decide, zero 2 (fun e w' h => by
          rcases h with ⟨-, he⟩ | ⟨x, -⟩ | ⟨x, -⟩ | ⟨x, -⟩
          · exact he
          all_goals exact absurd t2 x) fun w' => .inl ⟨t2, rfl⟩⟩
      by_cases t3 : ∃ i, i < n * n ∧ JF F n i < 0
      · have n3 : ¬ ∀ i, i < n * n → 0 ≤ JF F n i := fun h => by obtain ⟨i, hi, x⟩ := t3; have := h i hi; omega
        exact .inl ⟨3, by decide, zero 3 (fun e w' h => by
          rcases h with ⟨x, -⟩ | ⟨-, -, he⟩ | ⟨-, x, -⟩ | ⟨-, x, -⟩
          · exact absurd x t2
          · exact he
          all_goals exact absurd x n3) fun w' => .inr (.inl ⟨t2, t3, rfl⟩)⟩
      have p3 : ∀ i, i < n * n → 0 ≤ JF F n i := fun i hi => Classical.byContradiction fun h => t3 ⟨i, hi, by omega⟩
      by_cases t4 : ∃ i, i < n * n ∧ MF F n i < 0
      · have n4 : ¬ ∀ i, i < n * n → 0 ≤ MF F n i := fun h => by obtain ⟨i, hi, x⟩ := t4; have := h i hi; omega
        exact .inl ⟨4, by decide, zero 4 (fun e w' h => by
          rcases h with ⟨x, -⟩ | ⟨-, x, -⟩ | ⟨-, -, -, he⟩ | ⟨-, -, x, -⟩
          · exact absurd x t2
          · exact absurd x t3
          · exact he
          · exact absurd x n4) fun w' => .inr (.inr (.inl ⟨t2, p3, t4, rfl⟩))⟩
      have p4 : ∀ i, i < n * n → 0 ≤ MF F n i := fun i hi => Classical.byContradiction fun h => t4 ⟨i, hi, by omega⟩
      refine .inr ⟨n * n, F, JF F n, MF F n, lastN (belowAll F n n) n, lastN (aboveAll F n n) n, sq_le h32, ?_, fun w X c h => (spec w X c h).mono fun e w' ⟨a, b⟩ => ?_, fun w X c h ht => ?_⟩
      · obtain ⟨u, hu⟩ := pb_is (fun k => (f k).toNat) (fun k => (g k).toNat) m (fun k hk => Nat.lt_of_lt_of_le (hf k hk) h32) (fun k hk => Nat.lt_of_lt_of_le (hg k hk) h32)
        have hle : ∀ {a b}, Le F n a b ↔ a < n ∧ Reach u a b := le_reach h32 hu hf hg hF
        exact built_valid h1 h32 (fun a ha => (hle.2 ⟨ha, Reach.refl _ _⟩).2.2) (fun a b c ha hb hc x y => (hle.2 ⟨ha, reach_trans (hle.1 ⟨ha, hb, x⟩).2 (hle.1 ⟨hb, hc, y⟩).2⟩).2.2) t2 p3 p4
      · rcases a with ⟨x, -⟩ | ⟨-, x, -⟩ | ⟨-, -, x, -⟩ | ⟨-, -, -, a1, a2, a3, c1, c2, c3, he, k1, k2, k3⟩
        · exact absurd x t2
        · exact absurd x t3
        · exact absurd x t4
        · exact ⟨a1, a2, a3, c1, c2, c3, he, k1, k2, k3, b⟩
      · obtain ⟨w1, a1, a2, a3, k1, k2, k3⟩ := some_full w (n * n) F (JF F n) (MF F n)
        refine (impl _ w1 (.inr (.inr (.inr ⟨t2, p3, p4, a1, a2, a3, 0, 0, 0, rfl, k1, k2, k3⟩))) w X c h ht).mono fun e w' ⟨a, b⟩ => ?_
        rcases a with ⟨code', x, -⟩ | ⟨a1', a2', a3', c1, c2, c3, G1, G2, G3, bot, top, x, y, -, -, -, b1, b2, b3, z⟩
        · exfalso
          simp [zeroL] at x
          omega
        · simp only [Ending.returned.injEq, Value.tuple.injEq, Value.agg.injEq, Array.mk.injEq, List.cons.injEq, Value.int.injEq, Value.slice.injEq, and_true, true_and] at x
          obtain ⟨-, -, -, hb, ht⟩ := x
          rw [← hb, ← ht] at y
          exact ⟨G1, G2, G3, y, b1, b2, b3, z.1, z.2.1, z.2.2.1, z.2.2.2.1, z.2.2.2.2.1, z.2.2.2.2.2, b⟩
    · refine .inl ⟨1, by decide, fun w X c h => specBuild_bad N X m c w fun w' hb => l1ValidOrder_in N X m c f g w' hr.1 hr.2.1 hr.2.2 (h.mono hb) false ⟨(fun x => by cases x), fun x => absurd x hp⟩, fun w X c h _ => implBuild_bad N X m c w fun w' hb => validOrder_in N X m c f g w' hr.1 hr.2.1 hr.2.2 (h.mono hb) false ⟨(fun x => by cases x), fun x => absurd x hp⟩⟩
  · exact .inl ⟨1, by decide, fun w X c _ => specBuild_bad N X m c w fun w' _ => l1ValidOrder_no N X m c w' (by omega) hr, fun w X c _ _ => implBuild_bad N X m c w fun w' _ => validOrder_no N X m c w' (by omega) hr⟩
theorem dich (N : Int) (m : Nat) (f g : Nat → Int) (hm : m ≤ 1048576) : (∃ code, SpecZ N m f g code ∧ ImplZ N m f g code) ∨ (∃ s F J M bot top, s ≤ 1024 ∧ SpecF N m f g s F J M bot top ∧ ImplF N m f g s F J M bot top) := by
  rcases dich2 N m f g hm with ⟨code, -, h⟩ | ⟨s, F, J, M, bot, top, h1, -, h⟩
  · exact .inl ⟨code, h⟩
  · exact .inr ⟨s, F, J, M, bot, top, h1, h⟩
end Go.Proofs.YtnmpkdmflijhpaaDoor
