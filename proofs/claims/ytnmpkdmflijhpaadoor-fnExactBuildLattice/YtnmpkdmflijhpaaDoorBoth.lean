/- The model and the program answer ValidLattice alike. -/
import Derived.Test.YtnmpkdmflijhpaaDoorMath1
import Derived.Test.YtnmpkdmflijhpaaDoorSpec3
namespace Go.Proofs.YtnmpkdmflijhpaaDoor
open Go Go.RowKit

/-- The answer to both. -/
def answer (N bot top : Int) (n1 n2 n3 : Nat) (f : Nat → Bool) (g h : Nat → Int) (V : Bool) : Prop := V = true ↔ Valid N n1 n2 n3 f g h bot top

theorem specValid_any (N bot top : Int) (a1 a2 a3 : Option Addr) (n1 n2 n3 c1 c2 c3 : Nat) (f : Nat → Bool) (g h : Nat → Int) (w : World) (ha : Bools w a1 n1 f) (hb : Ints w a2 n2 g) (hc : Ints w a3 n3 h) (V : Bool) (hV : answer N bot top n1 n2 n3 f g h V) :
    Calls Tryd.prog 19 #[.agg #[.int .i64 N, .slice a1 n1 c1, .slice a2 n2 c2, .slice a3 n3 c3, .int .i64 bot, .int .i64 top]] w fun e w' =>
      e = .returned (.bool V) ∧ Below w.heap.size w w' := by
  by_cases hN : N < 1 ∨ 32 < N
  · obtain rfl : V = false := bool_false hV (by rintro ⟨n, bt, tp, hv⟩; have := hv.hN; have := hv.h1; have := hv.h32; omega)
    exact specValid_N N bot top a1 a2 a3 n1 n2 n3 c1 c2 c3 w hN
  obtain ⟨n, rfl⟩ := Int.eq_ofNat_of_zero_le (show 0 ≤ N by omega)
  have h1 : 1 ≤ n := by omega
  have h32 : n ≤ 32 := by omega
  by_cases hl : n1 ≠ n * n ∨ n2 ≠ n * n ∨ n3 ≠ n * n
  · obtain rfl : V = false := bool_false hV (by
      rintro ⟨n', bt, tp, hv⟩
      obtain rfl : n = n' := by have := hv.hN; omega
      have := hv.l1; have := hv.l2; have := hv.l3; omega)
    exact specValid_len n bot top a1 a2 a3 n1 n2 n3 c1 c2 c3 w h1 h32 hl
  have l1 : n1 = n * n := by omega
  have l2 : n2 = n * n := by omega
  have l3 : n3 = n * n := by omega
  by_cases he : bot < 0 ∨ (n : Int) ≤ bot ∨ top < 0 ∨ (n : Int) ≤ top
  · obtain rfl : V = false := bool_false hV (by
      rintro ⟨n', bt, tp, hv⟩
      obtain rfl : n = n' := by have := hv.hN; omega
      have := hv.hb; have := hv.ht; have := hv.bb; have := hv.tt; omega)
    exact specValid_ends n bot top a1 a2 a3 n1 n2 n3 c1 c2 c3 w h1 h32 l1 l2 l3 he
  obtain ⟨bt, rfl⟩ := Int.eq_ofNat_of_zero_le (show 0 ≤ bot by omega)
  obtain ⟨tp, rfl⟩ := Int.eq_ofNat_of_zero_le (show 0 ≤ top by omega)
  refine specValid_main n bt tp a1 a2 a3 n1 n2 n3 c1 c2 c3 f g h w h1 h32 l1 l2 l3 (by omega) (by omega) ha hb hc V (hV.trans ?_)
  constructor
  · rintro ⟨n', bt', tp', hv⟩
    obtain rfl : n = n' := by have := hv.hN; omega
    obtain rfl : bt = bt' := by have := hv.hb; omega
    obtain rfl : tp = tp' := by have := hv.ht; omega
    exact ⟨hv.rows, hv.ents⟩
  · rintro ⟨hr, hents⟩
    exact ⟨n, bt, tp, rfl, h1, h32, l1, l2, l3, rfl, rfl, by omega, by omega, hr, hents⟩

theorem implValid_any (N bot top : Int) (a1 a2 a3 : Option Addr) (n1 n2 n3 c1 c2 c3 : Nat) (f : Nat → Bool) (g h : Nat → Int) (w : World) (ha : Bools w a1 n1 f) (hb : Ints w a2 n2 g) (hc : Ints w a3 n3 h) (ht : Tab w) (V : Bool) (hV : answer N bot top n1 n2 n3 f g h V) :
    Calls Tryd.prog 21 #[.agg #[.int .i64 N, .slice a1 n1 c1, .slice a2 n2 c2, .slice a3 n3 c3, .int .i64 bot, .int .i64 top]] w fun e w' =>
      e = .returned (.bool V) ∧ Below w.heap.size w w' := by
  by_cases hN : N < 1 ∨ 32 < N
  · obtain rfl : V = false := bool_false hV (by rintro ⟨n, bt, tp, hv⟩; have := hv.hN; have := hv.h1; have := hv.h32; omega)
    exact implValid_no N bot top a1 a2 a3 n1 n2 n3 c1 c2 c3 w (.inl hN)
  obtain ⟨n, rfl⟩ := Int.eq_ofNat_of_zero_le (show 0 ≤ N by omega)
  have h1 : 1 ≤ n := by omega
  have h32 : n ≤ 32 := by omega
  by_cases hl : n1 = n * n ∧ n2 = n * n ∧ n3 = n * n
  · obtain ⟨rfl, l2, l3⟩ := hl
    subst l2; subst l3
    refine (implValid_main n bot top a1 a2 a3 (n * n) c1 c2 c3 f g h w h1 h32 rfl ha hb hc ht).mono ?_
    rintro e w' ⟨V', rfl, ho, hb'⟩
    have h2 := outcome_iff h1 h32 ho
    have : V' = V := by rw [Bool.eq_iff_iff, h2]; exact hV.symm
    exact ⟨by rw [this], hb'⟩
  · obtain rfl : V = false := bool_false hV (by
      rintro ⟨n', bt, tp, hv⟩
      obtain rfl : n = n' := by have := hv.hN; omega
      exact hl ⟨hv.l1, hv.l2, hv.l3⟩)
    exact implValid_no n bot top a1 a2 a3 n1 n2 n3 c1 c2 c3 w (.inr ⟨n, rfl, h1, h32, hl⟩)
end Go.Proofs.YtnmpkdmflijhpaaDoor
