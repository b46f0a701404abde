/- The program's JoinAll. -/
import Derived.Test.YtnmpkdmflijhpaaDoorBoth
import Derived.Test.YtnmpkdmflijhpaaDoorJoin1
import Derived.Test.YtnmpkdmflijhpaaDoorIsLab
namespace Go.Proofs.YtnmpkdmflijhpaaDoor
open Go Go.RowKit

set_option maxRecDepth 100000 in
set_option maxHeartbeats 4000000 in
theorem implJoin_any (N bot top : Int) (a1 a2 a3 a4 : Option Addr) (n1 n2 n3 m c1 c2 c3 c4 : Nat) (f : Nat → Bool) (g h x : Nat → Int) (w : World) (hm : m ≤ 1048576)
    (ha : Bools w a1 n1 f) (hb : Ints w a2 n2 g) (hc : Ints w a3 n3 h) (hx : Ints w a4 m x) (ht : Tab w) (V : Bool) (hV : answer N bot top n1 n2 n3 f g h V) :
    Calls Tryd.prog 24 #[.agg #[.int .i64 N, .slice a1 n1 c1, .slice a2 n2 c2, .slice a3 n3 c3, .int .i64 bot, .int .i64 top], .slice a4 m c4] w fun e w' =>
      ∃ r, e = .returned (.int .i64 r) ∧ JoinR N V m f x r ∧ Below w.heap.size w w' := by
  have B0 := Blk.new w 29 #[.int .i64 N, .slice a1 n1 c1, .slice a2 n2 c2, .slice a3 n3 c3, .int .i64 bot, .int .i64 top]
  have BW : Below w.heap.size w (w.alloc (.cells #[.int .i64 N, .slice a1 n1 c1, .slice a2 n2 c2, .slice a3 n3 c3, .int .i64 bot, .int .i64 top] 29)) := (Below.refl _ _).alloc (Nat.le_refl _) _
  have H0 := hide B0; have HW := hide BW; clear B0 BW
  by_cases h4 : 4096 < m
  · have d4 : decide ((4096 : Int) < m) = true := by simp; omega
    go_enter Tryd.func24, Tryd.ntmps24
    go_wp2
    go_ret
    exact ⟨-1, rfl, .inl ⟨.inr (.inl h4), rfl⟩, unhide HW⟩
  have d4 : decide ((4096 : Int) < m) = false := by simp; omega
  have HV := hide hV; clear hV
  go_enter Tryd.func24, Tryd.ntmps24
  go_wp2_with fail
  refine (implValid_any N bot top _ _ _ n1 n2 n3 _ _ _ f g h _ (ha.mono (unhide HW)) (hb.mono (unhide HW)) (hc.mono (unhide HW)) (ht.mono (unhide HW)) V (unhide HV)).mono ?_
  rintro e w1 ⟨rfl, hb1⟩
  replace H0 := hide ((unhide H0).mono hb1 (unhide H0).lt); replace HW := hide ((unhide HW).trans (hb1.mono (unhide HW).size)); clear hb1
  obtain ⟨⟨z0, z1, z2, z3, z4, z5⟩, -⟩ := six (unhide H0)
  cases V
  · clear z0 z1 z2 z3 z4 z5
    go_wp2
    go_ret
    exact ⟨-1, rfl, .inl ⟨.inl rfl, rfl⟩, unhide HW⟩
  obtain ⟨n, bt, tp, hv⟩ := (unhide HV).1 rfl
  obtain rfl := hv.hN
  obtain rfl := hv.hb
  have h1 := hv.h1; have h32 := hv.h32; have l2 := hv.l2
  have HP := hide hv; clear hv HV
  have hb1 := hb.mono (unhide HW); have hx1 := hx.mono (unhide HW)
  clear ha hb hc hx ht
  go_wp2_with fail
  clear d4
  go_loop [5, 20] (fun v i => ∃ (k : Nat) (y : Nat → Nat) (c : Nat), k ≤ m ∧ i = .int .i64 k ∧ v = .int .i64 c ∧ (∀ i, i < k → x i = y i ∧ y i < n) ∧ Lub f n k y c) (fun _ i => m - (intOf i).toNat)
  case atStart => exact ⟨0, fun _ => 0, bt, Nat.zero_le _, rfl, rfl, fun i hi => absurd hi (Nat.not_lt_zero _), (unhide HP).lub0 _⟩
  case round =>
    obtain ⟨k, y, c, hk, rfl, rfl, hy, hl⟩ := hrel
    have hcn := hl.1
    have HY := hide hy; have HL := hide hl; clear hy hl
    by_cases hlt : k < m
    · obtain ⟨b4, o4, rfl, -, e4⟩ := hx1 k hlt
      by_cases hbad : x k < 0 ∨ (n : Int) ≤ x k
      · have HR : Hid (JoinR n true m f x (-1)) := .inl ⟨.inr (.inr ⟨k, hlt, hbad⟩), rfl⟩
        go_wp2_with (go_at_call 60; refine (isLabel_no _ _ _ hbad).mono ?_; rintro e w' ⟨rfl, rfl⟩)
        go_ret
        exact ⟨-1, rfl, unhide HR, unhide HW⟩
      · obtain ⟨u, hu⟩ := Int.eq_ofNat_of_zero_le (show 0 ≤ x k by omega)
        have hun : u < n := by omega
        have HY' : Hid (∀ i, i < k + 1 → x i = ((if i = k then u else y i : Nat) : Int) ∧ (if i = k then u else y i) < n) := fun i hi => by
          by_cases e : i = k
          · subst e; simp; omega
          · simp [e]; exact unhide HY i (by omega)
        obtain ⟨j, ej, hj⟩ := (unhide HP).lub_succ (y := fun i => if i = k then u else y i) ((unhide HL).congr fun i hi => by have : i ≠ k := by omega
                                                                                                                              simp [this]) fun i hi => (unhide HY' i hi).2
        simp only [if_true] at ej
        have h5 := idx_lt hcn hun
        have h6 := sq_le h32
        obtain ⟨b2, o2, rfl, -, e2⟩ := hb1 (c * n + u) (by omega)
        rw [ej] at e2
        rw [hu] at e4
        have h7 : 0 ≤ (c : Int) * n := by rw [← Int.natCast_mul]; omega
        have h8 : (c : Int) * n + u < n2 := by rw [← Int.natCast_mul]; omega
        have h9 : (c : Int) * n ≤ 1024 := by rw [← Int.natCast_mul]; omega
        have HJ := hide hj; clear hj
        have u0 : (0 : Int) ≤ u := by omega
        have u1 : (u : Int) < n := by omega
        go_wp2_with (go_at_call 60; refine (isLabel_yes _ _ _ u0 u1).mono ?_; rintro e w' ⟨rfl, rfl⟩)
        go_round
        case rel => exact ⟨k + 1, _, j, by omega, by go_num, rfl, unhide HY', unhide HJ⟩
        case measure => simp [intOf]; omega
    · go_wp2
      go_ret
      obtain rfl : k = m := by omega
      exact ⟨c, rfl, .inr ⟨rfl, by omega, n, y, c, rfl, unhide HY, unhide HL, rfl⟩, unhide HW⟩
end Go.Proofs.YtnmpkdmflijhpaaDoor
