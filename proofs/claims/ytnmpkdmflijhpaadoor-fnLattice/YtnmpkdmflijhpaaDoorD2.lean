import Derived.Test.YtnmpkdmflijhpaaDoorD1
import Derived.Test.YtnmpkdmflijhpaaDoorHand
import Derived.Test.YtnmpkdmflijhpaaDoorBnd
import Derived.Deep.AppendLies
/- The model's turning of an order: every label gets another number. -/
namespace Go.Proofs.YtnmpkdmflijhpaaDoor
open Go Go.RowKit

def turnL (N by' : Int) (l : List (Int × Int)) : List (Int × Int) := l.map fun u => ((u.1 + by') % N, (u.2 + by') % N)
theorem turn_len (N b : Int) (l : List (Int × Int)) : (turnL N b l).length = l.length := by simp [turnL]
theorem turn_take (N b : Int) (l : List (Int × Int)) (k : Nat) (hk : k < l.length) : turnL N b (l.take (k + 1)) = turnL N b (l.take k) ++ [(((l.getD k (0, 0)).1 + b) % N, ((l.getD k (0, 0)).2 + b) % N)] := by
  have h : l.take (k + 1) = l.take k ++ [l[k]] := by rw [List.take_add_one, List.getElem?_eq_getElem hk]; rfl
  rw [h, List.getD_eq_getElem?_getD, List.getElem?_eq_getElem hk]
  show List.map _ (_ ++ [_]) = _
  rw [List.map_append]
  rfl
/-- Labels that are small numbers. -/
def Small (l : List (Int × Int)) : Prop := ∀ k, k < l.length → (0 ≤ (l.getD k (0, 0)).1 ∧ (l.getD k (0, 0)).1 ≤ 1000) ∧ 0 ≤ (l.getD k (0, 0)).2 ∧ (l.getD k (0, 0)).2 ≤ 1000

def FourC (w : World) (R bb o : Nat) (N : Nat) (v : Value) (x y : Nat) : Prop := w.cell? ⟨R, 0, none⟩ = some (.int .i64 N) ∧ w.cell? ⟨R, 1, none⟩ = some v ∧ w.cell? ⟨bb, o, none⟩ = some (.int .i64 x) ∧ w.cell? ⟨bb, o + 1, none⟩ = some (.int .i64 y)
theorem FourC.below {w w' : World} {R bb o N x y : Nat} {v : Value} (h : FourC w R bb o N v x y) {B : Nat} (hb : Below B w w') (h1 : R < B) (h2 : bb < B) : FourC w' R bb o N v x y :=
  ⟨(hb.cell h1).trans h.1, (hb.cell h1).trans h.2.1, (hb.cell h2).trans h.2.2.1, (hb.cell h2).trans h.2.2.2⟩

set_option maxRecDepth 100000 in
set_option maxHeartbeats 4000000 in
theorem l1Turn_any (N b : Nat) (l : List (Int × Int)) (a : Option Addr) (c : Nat) (w : World) (hN : 1 ≤ N) (hN2 : N ≤ 1000) (hb : b ≤ 1000) (hl : l.length ≤ 4096) (hs : Small l)
    (hP : Pairs w a l.length (fun k => (l.getD k (0, 0)).1) (fun k => (l.getD k (0, 0)).2)) :
    Calls Tryd.prog 64 #[.agg #[.int .i64 N, .slice a l.length c], .int .i64 b] w fun e w' => OrdOut w N (turnL N b l) e w' := by
  obtain ⟨W, hW⟩ : ∃ W, (w.alloc (.cells #[.int .i64 N, .slice a l.length c] 34)).alloc (.cells #[.int .i64 0, .slice none 0 0] 34) = W := ⟨_, rfl⟩
  have hWs : W.heap.size = w.heap.size + 2 := by rw [← hW]; simp
  have bO : Blk W w.heap.size 34 [.int .i64 N, .slice a l.length c] := by rw [← hW]; exact (Blk.new w 34 #[.int .i64 N, .slice a l.length c]).alloc _
  have bR : Blk W (w.heap.size + 1) 34 [.int .i64 0, .slice none 0 0] := by rw [← hW]; simpa using Blk.new (w.alloc (.cells #[.int .i64 N, .slice a l.length c] 34)) 34 #[.int .i64 0, .slice none 0 0]
  have hbw : Below w.heap.size w W := by rw [← hW]; exact ((Below.refl _ _).alloc (Nat.le_refl _) _).alloc (by simp) _
  have HO := hide bO; have HR := hide bR; have HB := hide hbw; have HWS := hide hWs
  have HPW := hide (hP.mono hbw); have HS := hide hs
  clear bO bR hbw hP hs
  obtain ⟨m, hm⟩ : ∃ m, l.length = m := ⟨_, rfl⟩
  rw [hm] at hl HO HPW ⊢
  have HM := hide hm
  rw [hm] at hW
  clear hm
  go_enter Tryd.func64, Tryd.ntmps64
  go_wp2
  try rw [hW]
  go_loopw [5, 6] (fun v i wr => ∃ k : Nat, k ≤ m ∧ i = .int .i64 k ∧ wr.ownsRow W.heap.size 93 2 v k (pp (turnL N b (l.take k))) ∧ Below W.heap.size W wr) (fun _ i _ => m - (intOf i).toNat)
  case atStart => exact ⟨0, Nat.zero_le _, rfl, (by have h := owns_none2 W 93; rw [unhide HWS] at h ⊢; exact h), (Below.refl _ _).alloc (Nat.le_refl _) _⟩
  case round =>
    obtain ⟨k, hk, rfl, hO, hB⟩ := hrel
    have HOr := hide hO; have HBr := hide hB
    have bR := (unhide HR).mono hB (unhide HR).lt
    clear hO hB hW hWs
    by_cases hlt : k < m
    · have hlt' : (k : Int) < m := by omega
      obtain ⟨bb, off, rfl, hbl, c0, c1⟩ := (unhide HPW) k hlt
      have hsm := unhide HS k (by rw [unhide HM]; exact hlt)
      have HT := hide (turn_take N b l k (by rw [unhide HM]; exact hlt))
      obtain ⟨x, hx⟩ : ∃ x : Nat, (l.getD k (0, 0)).1 = x := ⟨(l.getD k (0, 0)).1.toNat, by omega⟩
      obtain ⟨y, hy⟩ : ∃ y : Nat, (l.getD k (0, 0)).2 = y := ⟨(l.getD k (0, 0)).2.toNat, by omega⟩
      rw [hx, hy] at hsm HT
      simp only [hx] at c0
      simp only [hy] at c1
      clear hx hy
      clear bR
      have hN0 : ¬ (N : Int) = 0 := by omega
      have hN1 : ¬ N = 0 := by omega
      obtain ⟨X, hX⟩ : ∃ X : Nat, (x + b) % N = X := ⟨_, rfl⟩
      obtain ⟨Y, hY⟩ : ∃ Y : Nat, (y + b) % N = Y := ⟨_, rfl⟩
      have hX1 : X < N := by rw [← hX]; exact Nat.mod_lt _ hN
      have hY1 : Y < N := by rw [← hY]; exact Nat.mod_lt _ hN
      have hX2 : ((x : Int) + b).tmod N = X := by rw [← hX]; rfl
      have hY2 : ((y : Int) + b).tmod N = Y := by rw [← hY]; rfl
      have hX3 : ((x : Int) + b) % N = X := by rw [← hX]; rfl
      have hY3 : ((y : Int) + b) % N = Y := by rw [← hY]; rfl
      have hX4 : IntKind.i64.wrap (X : Int) = X := i64_nat _ (by omega)
      have hY4 : IntKind.i64.wrap (Y : Int) = Y := i64_nat _ (by omega)
      have hX5 : IntKind.i64.wrap ((x : Int) + b) = x + b := i64_nat (x + b) (by omega)
      have hY5 : IntKind.i64.wrap ((y : Int) + b) = y + b := i64_nat (y + b) (by omega)
      rw [hX3, hY3] at HT
      clear hX hY
      obtain ⟨i0, hi, hz0, hz1, hz2⟩ := info_parts info_pair
      have F0 : Hid (FourC W w.heap.size bb (off + k * 2) N (.slice (some ⟨bb, off, none⟩) m c) x y) := hide ⟨(unhide HO).cell 0, (unhide HO).cell 1, c0, c1⟩
      have hwW : w.heap.size < W.heap.size := (unhide HO).lt
      have FB : ∀ w', Below W.heap.size W w' → FourC w' w.heap.size bb (off + k * 2) N (.slice (some ⟨bb, off, none⟩) m c) x y := fun w' hb => (unhide F0).below hb hwW hbl
      obtain ⟨o0, o1, c0', c1'⟩ := FB wr (unhide HBr)
      have HBd : Hid (Below W.heap.size W wr.drew) := hide ((unhide HBr).trans ((below_drewN' wr 1).mono (unhide HBr).size))
      have S0 := hide (FB _ (unhide HBd))
      have HBa : ∀ o, Hid (Below W.heap.size W (wr.drew.alloc o)) := fun o => hide ((unhide HBd).alloc (unhide HBd).size o)
      have S1 := fun o => hide (FB _ (unhide (HBa o)))
      replace FB := hide FB
      have HBB := hide hbl
      clear c0 c1 c0' c1' F0 hbl hwW
      go_wp2_with fail
      clear o0 o1
      go_region_held3 (fun w' => w'.cell? ⟨w.heap.size, 0, none⟩ = some (.int .i64 N) ∧ w'.cell? ⟨w.heap.size, 1, none⟩ = some (.slice (some ⟨bb, off, none⟩) m c) ∧ w'.cell? ⟨bb, off + k * 2, none⟩ = some (.int .i64 x) ∧ w'.cell? ⟨bb, off + k * 2 + 1, none⟩ = some (.int .i64 y)) (first | exact unhide S0 | exact unhide (S1 _) | exact unhide S2) ((refine step_append_lies _ rfl (.tmp 15) (.tmp 39) 32 rfl W.heap.size 93 i0 _ 2 16 Tryd.underlying32 hi hz0 hz1 hz2 rfl (by omega) u5 k _ rfl ((show wr.drew.ownsRow _ _ _ _ _ _ from unhide HOr).alloc _) ⟨wr.heap.size, 0, none⟩ 1 1 [.int .i64 X, .int .i64 Y] rfl rfl (cell_two wr.drew 93 _ _) (by simp [Value.oneCell']) (by omega) (by unfold maxLen; omega) (by omega) (by have := (unhide HBr).size; simp; omega) _ rfl ?_; intro g cap w3 ho' hgr' _ _; have HB3 := hide ((unhide (HBa _)).grown hgr' (by have := (unhide HBr).size; simp; omega) (fun q' e => owns_block (unhide HOr) e)); have S2 := hide (unhide FB _ (unhide HB3))))
      have HO3 : Hid (w3.ownsRow W.heap.size 93 2 (.slice (some ⟨g, 0, none⟩) (k + 1) cap) (k + 1) (pp (turnL N b (l.take (k + 1))))) := hide (by rw [unhide HT, pp_snoc]; exact ho')
      clear hgr' ho' S0 S1 S2 FB HBa HBd HOr HBr HBB
      go_wp2
      go_roundw
      case rel => exact ⟨k + 1, by omega, by go_num, unhide HO3, unhide HB3⟩
      case measure => simp [intOf]; omega
    · have hlt' : ¬ (k : Int) < m := by omega
      obtain rfl : k = m := by omega
      have bO := (unhide HO).mono (unhide HBr) (unhide HO).lt
      obtain ⟨o0, o1⟩ : wr.cell? ⟨w.heap.size, 0, none⟩ = some (.int .i64 N) ∧ wr.cell? ⟨w.heap.size, 1, none⟩ = some (.slice a k c) := ⟨bO.cell 0, bO.cell 1⟩
      obtain ⟨r0, r1⟩ : wr.cell? ⟨w.heap.size + 1, 0, none⟩ = some (.int .i64 0) ∧ wr.cell? ⟨w.heap.size + 1, 1, none⟩ = some (.slice none 0 0) := ⟨bR.cell 0, bR.cell 1⟩
      have f0 := bR.free 0; have f1 := bR.free 1
      have hT : (turnL N b (l.take k)) = turnL N b l := by rw [← unhide HM, List.take_length]
      rw [hT] at HOr
      obtain ⟨g, cap, rfl, -⟩ := pairs_of_owns (unhide HOr)
      clear bR bO hT
      go_wp2
      refine bodyPost_ret (v := .agg #[.int .i64 N, .slice g k cap]) (by simp [results, Tryd.results64, go_sem, *]) rfl ⟨_, rfl, ?_, ?_⟩
      · rw [turn_len, unhide HM]
        exact owns_low (owns_set (owns_set (unhide HOr) (by have := unhide HWS; omega)) (by have := unhide HWS; omega)) (by have := unhide HWS; omega)
      · exact (((unhide HB).trans ((unhide HBr).mono (by have := unhide HWS; omega))).setCell (by simp) _).setCell (by simp) _
end Go.Proofs.YtnmpkdmflijhpaaDoor

/- The model's drawing of an order that is a lattice. -/
namespace Go.Proofs.YtnmpkdmflijhpaaDoor
open Go Go.RowKit

theorem small_of {l : List (Int × Int)} (h : ∀ u ∈ l, (0 ≤ u.1 ∧ u.1 ≤ 1000) ∧ 0 ≤ u.2 ∧ u.2 ≤ 1000) : Small l := fun k hk => by
  rw [List.getD_eq_getElem?_getD, List.getElem?_eq_getElem hk]
  exact h _ (List.getElem_mem hk)
theorem Small.mem {l : List (Int × Int)} (h : Small l) : ∀ u ∈ l, (0 ≤ u.1 ∧ u.1 ≤ 1000) ∧ 0 ≤ u.2 ∧ u.2 ≤ 1000 := fun u hu => by
  obtain ⟨k, hk, rfl⟩ := List.mem_iff_getElem.1 hu
  have := h k hk
  rwa [List.getD_eq_getElem?_getD, List.getElem?_eq_getElem hk] at this
theorem Small.append {l m : List (Int × Int)} (h : Small l) (h' : Small m) : Small (l ++ m) := small_of fun u hu => by
  rcases List.mem_append.1 hu with x | x
  · exact h.mem u x
  · exact h'.mem u x

/-- A shape, named ahead of the world. -/
theorem shape_any (s n : Nat) (hs : s < 4) (hn : n ≤ 64) (h1 : 1 ≤ n) : ∃ (N : Nat) (l : List (Int × Int)), 1 ≤ N ∧ N ≤ 100 ∧ l.length ≤ 200 ∧ Small l ∧ ∀ w, Calls Tryd.prog 65 #[.int .i64 s, .int .i64 n] w fun e w' => OrdOut w N l e w' := by
  obtain rfl | rfl | rfl | rfl : s = 0 ∨ s = 1 ∨ s = 2 ∨ s = 3 := by omega
  · refine ⟨n, chainL (n - 1), h1, by omega, by rw [chain_len]; omega, small_of fun u hu => ?_, fun w => l1Shape_chain n w (by omega) h1⟩
    obtain ⟨i, hi, rfl⟩ := List.mem_map.1 hu
    have := List.mem_range.1 hi
    simp only
    omega
  · refine ⟨n + 2, starL n n, by omega, by omega, by rw [star_len]; omega, small_of fun u hu => ?_, fun w => (l1Shape_star n w (by omega)).mono fun e w' h => by simpa using h⟩
    obtain ⟨i, hi, hu⟩ := List.mem_flatMap.1 hu
    have := List.mem_range.1 hi
    simp only [List.mem_cons, List.not_mem_nil, or_false] at hu
    rcases hu with rfl | rfl <;> simp only <;> omega
  · refine ⟨8, cubeL 8, by omega, by omega, Nat.le_trans (cube_len 8) (by omega), small_of fun u hu => ?_, fun w => l1Shape_cube n w⟩
    obtain ⟨i, hi, hu⟩ := List.mem_flatMap.1 hu
    have := List.mem_range.1 hi
    obtain ⟨c, hc, rfl⟩ := List.mem_map.1 hu
    have := (List.mem_filter.1 hc).1
    simp only [List.mem_cons, List.not_mem_nil, or_false] at this
    simp only
    omega
  · refine ⟨3 * (n % 3 + 2), gridL (n % 3 + 2) 3, by omega, by omega, Nat.le_trans (grid_len _ (by omega) 3) (by omega), small_of fun u hu => ?_, fun w => (l1Shape_grid n w (by omega) _ rfl).mono fun e w' h => by simpa using h⟩
    obtain ⟨y, hy, hu⟩ := List.mem_flatMap.1 hu
    have hy := List.mem_range.1 hy
    obtain ⟨x, hx, hu⟩ := List.mem_flatMap.1 hu
    have hx := List.mem_range.1 hx
    generalize hD : n % 3 + 2 = D at hu hx
    have h4 : D ≤ 4 := by omega
    have p1 : y * D ≤ 2 * 4 := Nat.mul_le_mul (by omega) h4
    have p2 : (y : Int) * D = ((y * D : Nat) : Int) := by simp
    have p3 : ((y : Int) + 1) * D = ((y * D : Nat) : Int) + D := by rw [Int.add_mul, Int.one_mul, p2]
    rcases List.mem_append.1 hu with hu | hu
    · unfold cellX at hu
      split at hu
      · obtain rfl := List.mem_singleton.1 hu
        simp only [p2]
        omega
      · cases hu
    · unfold cellY at hu
      split at hu
      · obtain rfl := List.mem_singleton.1 hu
        simp only [p2, p3]
        omega
      · cases hu

/-- An order and a place that a call gave. -/
def OrdOut2 (w : World) (N : Int) (l : List (Int × Int)) (q : Nat) (e : Ending) (w' : World) : Prop :=
  ∃ v, e = .returned (.tuple #[.agg #[.int .i64 N, v], .int .i64 q]) ∧ w'.ownsRow w.heap.size 93 2 v l.length (pp l) ∧ Below w.heap.size w w'

theorem tk_call {len : Nat} {f : Nat → Nat} {p n : Nat} (h1 : len ≤ 1048576) (h2 : p ≤ 1048576) (h3 : 1 ≤ n) (h4 : n ≤ 1048576) {w : World} {a : Option Addr} (c : Nat) (hB : Byts w a len f) {P M : Int} (hP : P = p) (hM : M = n) :
    Calls Tryd.prog 61 #[.slice a len c, .int .i64 P, .int .i64 M] w fun e w' => e = .returned (.tuple #[.int .i64 (tk len f p n), .int .i64 (P + 1)]) ∧ w' = w := by
  subst hP hM
  exact ((tk_spec (f := f) h1 h2 h3 h4).2 w a c hB).mono fun e w' ⟨h, h'⟩ => ⟨by rw [h]; rfl, h'⟩
theorem tk_lt {len : Nat} {f : Nat → Nat} {p n : Nat} (h1 : len ≤ 1048576) (h2 : p ≤ 1048576) (h3 : 1 ≤ n) (h4 : n ≤ 1048576) : tk len f p n < n := (tk_spec (f := f) h1 h2 h3 h4).1

set_option maxRecDepth 100000 in
set_option maxHeartbeats 4000000 in
theorem dlo_shape (len : Nat) (f : Nat → Nat) (p : Nat) (hlen : len ≤ 1048576) (hp : p ≤ 1000) (h4 : tk len f p 5 ≠ 4) : ∃ (N : Nat) (l : List (Int × Int)), 1 ≤ N ∧ N ≤ 100 ∧ l.length ≤ 200 ∧ ∀ (w : World) (a : Option Addr) (c : Nat), Byts w a len f →
    Calls Tryd.prog 62 #[.slice a len c, .int .i64 p] w fun e w' => OrdOut2 w N l (p + 3) e w' := by
  have t1 : tk len f p 5 < 5 := tk_lt hlen (by omega) (by omega) (by omega)
  have t2 : tk len f (p + 1) 6 < 6 := tk_lt hlen (by omega) (by omega) (by omega)
  have t3 : tk len f (p + 2) 8 < 8 := tk_lt hlen (by omega) (by omega) (by omega)
  obtain ⟨s, es⟩ : ∃ s, tk len f p 5 = s := ⟨_, rfl⟩
  obtain ⟨n, en⟩ : ∃ n, tk len f (p + 1) 6 = n := ⟨_, rfl⟩
  obtain ⟨b, eb⟩ : ∃ b, tk len f (p + 2) 8 = b := ⟨_, rfl⟩
  rw [es] at t1 h4; rw [en] at t2; rw [eb] at t3
  have ES := hide es; have EN := hide en; have EB := hide eb
  clear es en eb
  obtain ⟨N, l, hN1, hN2, hl, hS, cS⟩ := shape_any s (n + 1) (by omega) (by omega) (by omega)
  refine ⟨N, turnL N b l, hN1, hN2, by rw [turn_len]; exact hl, fun w a c hB => ?_⟩
  have hs4 : ¬ (s : Int) = 4 := by omega
  obtain ⟨W, hW⟩ : ∃ W, w.alloc (.cells #[.int .i64 0, .slice none 0 0] 34) = W := ⟨_, rfl⟩
  have hWs : W.heap.size = w.heap.size + 1 := by rw [← hW]; simp
  have bR : Blk W w.heap.size 34 [.int .i64 0, .slice none 0 0] := by rw [← hW]; exact Blk.new w 34 #[.int .i64 0, .slice none 0 0]
  have hb : Below w.heap.size w W := by rw [← hW]; exact (Below.refl _ _).alloc (Nat.le_refl _) _
  have HY := hide (hB.mono hb)
  have HR := hide bR; have HB := hide hb; have HWS := hide hWs; have HSm := hide hS; have HL := hide hl; have CS := hide cS
  clear bR hb hB hS hl hWs cS
  go_enter Tryd.func62, Tryd.ntmps62
  go_wp2_with fail
  try rw [hW]
  clear hW
  refine (tk_call (f := f) (p := p) (n := 5) hlen (by omega) (by omega) (by omega) c (unhide HY) rfl rfl).mono ?_
  rw [unhide ES]
  rintro e w2 ⟨rfl, hw⟩
  rw [hw]
  clear hw w2
  go_wp2_with fail
  refine (tk_call (f := f) (p := p + 1) (n := 6) hlen (by omega) (by omega) (by omega) c (unhide HY) (by omega) rfl).mono ?_
  rw [unhide EN]
  rintro e w2 ⟨rfl, hw⟩
  rw [hw]
  clear hw w2
  go_wp2_with fail
  refine (tk_call (f := f) (p := p + 2) (n := 8) hlen (by omega) (by omega) (by omega) c (unhide HY) (by omega) rfl).mono ?_
  rw [unhide EB]
  rintro e w2 ⟨rfl, hw⟩
  rw [hw]
  clear hw w2
  go_wp2_with fail
  refine (unhide CS W).mono ?_
  rintro e w2 ⟨v, rfl, hO, hb2⟩
  obtain ⟨g, cap, rfl, hP⟩ := pairs_of_owns hO
  have hR2 := (unhide HR).mono hb2 (unhide HR).lt
  have hB2 := (unhide HB).trans (hb2.mono (by have := unhide HWS; omega))
  clear hO hb2
  have HR2 := hide hR2; have HB2 := hide hB2; have HP := hide hP
  clear hR2 hB2 hP
  go_wp2_with fail
  refine (l1Turn_any N b l g cap w2 hN1 (by omega) (by omega) (by have := unhide HL; omega) (unhide HSm) (unhide HP)).mono ?_
  rintro e w3 ⟨v, rfl, hO, hb3⟩
  have hR3 := (unhide HR2).mono hb3 (unhide HR2).lt
  have hB3 := (unhide HB2).trans (hb3.mono (unhide HB2).size)
  obtain ⟨r0, r1⟩ : w3.cell? ⟨w.heap.size, 0, none⟩ = some (.int .i64 0) ∧ w3.cell? ⟨w.heap.size, 1, none⟩ = some (.slice none 0 0) := ⟨hR3.cell 0, hR3.cell 1⟩
  have f0 := hR3.free 0; have f1 := hR3.free 1
  have hlt2 := (unhide HR2).lt
  have HO3 := hide hO; have HB3 := hide hB3
  obtain ⟨g3, cap3, rfl, -⟩ := pairs_of_owns hO
  clear hR3 hB3 hO hb3
  go_wp2
  refine bodyPost_ret (v := .tuple #[.agg #[.int .i64 N, .slice g3 (turnL N b l).length cap3], .int .i64 ((p : Int) + 3)]) (by simp [results, Tryd.results62, go_sem, *]; omega) rfl ⟨_, rfl, ?_, ?_⟩
  · exact owns_low (owns_set (owns_set (unhide HO3) hlt2) hlt2) (unhide HB2).size
  · exact ((unhide HB3).setCell (by simp) _).setCell (by simp) _
theorem owns_set_ne {w : World} {base e size n R j : Nat} {v x : Value} {xs : List Value} (h : w.ownsRow base e size v n xs) (hR : v.ownBlock ≠ some R) : (w.setCell ⟨R, j, none⟩ x).ownsRow base e size v n xs := by
  refine ⟨h.1, ?_⟩
  rcases h.2 with h' | ⟨g, cap, cur, h1, h2, h3, h4⟩
  · exact .inl h'
  · exact .inr ⟨g, cap, cur, h1, h2, (heap_setCell_other w ⟨R, j, none⟩ g x (by rintro rfl; exact hR (by rw [h1]; rfl))).trans h3, h4⟩
theorem owns_ne {w : World} {base e size n : Nat} {v : Value} {xs : List Value} (h : w.ownsRow base e size v n xs) : v.ownBlock ≠ some w.heap.size := by
  rcases h.2 with ⟨rfl, -⟩ | ⟨g, cap, cur, rfl, -, h3, -⟩
  · simp [Value.ownBlock]
  · intro e
    obtain rfl : g = w.heap.size := by simpa [Value.ownBlock] using e
    have := (Array.getElem?_eq_some_iff.1 h3).1
    omega

/-- The pairs that the bytes give, upwards alone. -/
def upL (len : Nat) (f : Nat → Nat) (p n k : Nat) : List (Int × Int) := (List.range k).flatMap fun i => if tk len f (p + 2 * i) n ≤ tk len f (p + 2 * i + 1) n then [((tk len f (p + 2 * i) n : Int), (tk len f (p + 2 * i + 1) n : Int))] else []
theorem up_succ (len : Nat) (f : Nat → Nat) (p n k : Nat) : upL len f p n (k + 1) = upL len f p n k ++ (if tk len f (p + 2 * k) n ≤ tk len f (p + 2 * k + 1) n then [((tk len f (p + 2 * k) n : Int), (tk len f (p + 2 * k + 1) n : Int))] else []) := by simp [upL, List.range_succ]
theorem up_len (len : Nat) (f : Nat → Nat) (p n : Nat) : ∀ k, (upL len f p n k).length ≤ k
  | 0 => Nat.le_refl _
  | k + 1 => by rw [up_succ, List.length_append]; have := up_len len f p n k; split <;> simp <;> omega

set_option maxRecDepth 100000 in
set_option maxHeartbeats 4000000 in
theorem dlo_four (len : Nat) (f : Nat → Nat) (p : Nat) (hlen : len ≤ 1048576) (hp : p ≤ 1000) (h4 : tk len f p 5 = 4) : ∃ (N : Nat) (l : List (Int × Int)), 1 ≤ N ∧ N ≤ 100 ∧ l.length ≤ 200 ∧ ∀ (w : World) (a : Option Addr) (c : Nat), Byts w a len f →
    Calls Tryd.prog 62 #[.slice a len c, .int .i64 p] w fun e w' => OrdOut2 w N l (p + 11) e w' := by
  have t2 : tk len f (p + 1) 6 < 6 := tk_lt hlen (by omega) (by omega) (by omega)
  have t3 : tk len f (p + 2) 8 < 8 := tk_lt hlen (by omega) (by omega) (by omega)
  obtain ⟨n, en⟩ : ∃ n, tk len f (p + 1) 6 = n := ⟨_, rfl⟩
  obtain ⟨b, eb⟩ : ∃ b, tk len f (p + 2) 8 = b := ⟨_, rfl⟩
  rw [en] at t2; rw [eb] at t3
  have ES := hide h4; have EN := hide en; have EB := hide eb
  clear en eb h4
  have hS : Small (chainL (n + 1) ++ upL len f (p + 3) (n + 2) 4) := by
    refine Small.append (small_of fun u hu => ?_) (small_of fun u hu => ?_)
    · obtain ⟨i, hi, rfl⟩ := List.mem_map.1 hu
      have := List.mem_range.1 hi
      simp only
      omega
    · obtain ⟨i, hi, hu⟩ := List.mem_flatMap.1 hu
      have hi := List.mem_range.1 hi
      have h1 : tk len f (p + 3 + 2 * i) (n + 2) < n + 2 := tk_lt hlen (by omega) (by omega) (by omega)
      have h2 : tk len f (p + 3 + 2 * i + 1) (n + 2) < n + 2 := tk_lt hlen (by omega) (by omega) (by omega)
      split at hu
      · obtain rfl := List.mem_singleton.1 hu
        simp only
        omega
      · cases hu
  have hl : (chainL (n + 1) ++ upL len f (p + 3) (n + 2) 4).length ≤ 200 := by
    rw [List.length_append, chain_len]; have := up_len len f (p + 3) (n + 2) 4; omega
  obtain ⟨L, hL⟩ : ∃ L, chainL (n + 1) ++ upL len f (p + 3) (n + 2) 4 = L := ⟨_, rfl⟩
  rw [hL] at hl hS
  have HLL := hide hL
  clear hL
  refine ⟨n + 2, turnL ((n + 2 : Nat) : Int) b L, by omega, by omega, by rw [turn_len]; exact hl, fun w a c hB => ?_⟩
  obtain ⟨W, hW⟩ : ∃ W, w.alloc (.cells #[.int .i64 0, .slice none 0 0] 34) = W := ⟨_, rfl⟩
  have hWs : W.heap.size = w.heap.size + 1 := by rw [← hW]; simp
  have bR : Blk W w.heap.size 34 [.int .i64 0, .slice none 0 0] := by rw [← hW]; exact Blk.new w 34 #[.int .i64 0, .slice none 0 0]
  have hb : Below w.heap.size w W := by rw [← hW]; exact (Below.refl _ _).alloc (Nat.le_refl _) _
  have HY := hide (hB.mono hb)
  have HR := hide bR; have HB := hide hb; have HWS := hide hWs; have HSm := hide hS; have HL := hide hl
  clear bR hb hB hS hl hWs
  go_enter Tryd.func62, Tryd.ntmps62
  go_wp2_with fail
  try rw [hW]
  clear hW
  refine (tk_call (f := f) (p := p) (n := 5) hlen (by omega) (by omega) (by omega) c (unhide HY) rfl rfl).mono ?_
  rw [unhide ES]
  rintro e w2 ⟨rfl, hw⟩
  rw [hw]
  clear hw w2
  go_wp2_with fail
  refine (tk_call (f := f) (p := p + 1) (n := 6) hlen (by omega) (by omega) (by omega) c (unhide HY) (by omega) rfl).mono ?_
  rw [unhide EN]
  rintro e w2 ⟨rfl, hw⟩
  rw [hw]
  clear hw w2
  go_wp2_with fail
  refine (tk_call (f := f) (p := p + 2) (n := 8) hlen (by omega) (by omega) (by omega) c (unhide HY) (by omega) rfl).mono ?_
  rw [unhide EB]
  rintro e w2 ⟨rfl, hw⟩
  rw [hw]
  clear hw w2
  go_wp2_with fail
  refine (l1Shape_chain (n + 2) W (by omega) (by omega)).mono ?_
  rintro e w2 ⟨v, rfl, hO, hb2⟩
  rw [show n + 2 - 1 = n + 1 from rfl] at hO
  have HV := hide (owns_ne hO); have HO2 := hide hO; have HB2 := hide hb2
  obtain ⟨g0, cap0, rfl, -⟩ := pairs_of_owns hO
  have hW2 := hb2.size
  clear hO hb2
  obtain ⟨B9, hB9⟩ : ∃ B9, w2.heap.size = B9 := ⟨_, rfl⟩
  have bO : Blk (w2.alloc (.cells #[.int .i64 ((n : Int) + 2), .slice g0 (chainL (n + 1)).length cap0] 34)) B9 34 [.int .i64 ((n : Int) + 2), .slice g0 (chainL (n + 1)).length cap0] := by rw [← hB9]; exact Blk.new w2 34 #[.int .i64 ((n : Int) + 2), .slice g0 (chainL (n + 1)).length cap0]
  have h0 : (w2.alloc (.cells #[.int .i64 ((n : Int) + 2), .slice g0 (chainL (n + 1)).length cap0] 34)).ownsRow W.heap.size 93 2 (.slice g0 (chainL (n + 1)).length cap0) (chainL (n + 1)).length (pp (chainL (n + 1))) := (unhide HO2).alloc _
  have hb0 : Below W.heap.size W (w2.alloc (.cells #[.int .i64 ((n : Int) + 2), .slice g0 (chainL (n + 1)).length cap0] 34)) := (unhide HB2).alloc hW2 _
  have HO0 := hide bO; have HS0 := hide h0; have HB0 := hide hb0
  clear bO h0 hb0
  rw [hB9] at HV hW2
  go_wp2_with fail
  try rw [hB9]
  clear hB9
  go_loopw [1, 10, 11, 12] (fun P _ _ i wr => ∃ (k : Nat) (v : Value), k ≤ 4 ∧ i = .int .i64 k ∧ P = .int .i64 ((p + 3 + 2 * k : Nat) : Int) ∧ Blk wr B9 34 [.int .i64 ((n : Int) + 2), v] ∧ wr.ownsRow W.heap.size 93 2 v (chainL (n + 1) ++ upL len f (p + 3) (n + 2) k).length (pp (chainL (n + 1) ++ upL len f (p + 3) (n + 2) k)) ∧ v.ownBlock ≠ some B9 ∧ Below W.heap.size W wr) (fun _ _ _ i _ => 4 - (intOf i).toNat)
  case atStart => exact ⟨0, _, by omega, rfl, by simp; omega, unhide HO0, by rw [show upL len f (p + 3) (n + 2) 0 = [] from rfl, List.append_nil]; exact unhide HS0, unhide HV, unhide HB0⟩
  case round =>
    obtain ⟨k, v, hk, rfl, rfl, hO, hS, hv, hB⟩ := hrel
    clear HO0 HS0 HB0 HV HO2 HB2
    have HO := hide hO; have HS := hide hS; have HV := hide hv; have HBr := hide hB; have HYr := hide ((unhide HY).mono hB)
    obtain ⟨o0, o1⟩ : wr.cell? ⟨B9, 0, none⟩ = some (.int .i64 ((n : Int) + 2)) ∧ wr.cell? ⟨B9, 1, none⟩ = some v := ⟨hO.cell 0, hO.cell 1⟩
    have f0 := hO.free 0; have f1 := hO.free 1
    clear hO hS hv hB
    by_cases hlt : k < 4
    · have hlt' : (k : Int) < 4 := by omega
      have u1 : tk len f (p + 3 + 2 * k) (n + 2) < n + 2 := tk_lt hlen (by omega) (by omega) (by omega)
      have u2 : tk len f (p + 3 + 2 * k + 1) (n + 2) < n + 2 := tk_lt hlen (by omega) (by omega) (by omega)
      have HU := hide (up_succ len f (p + 3) (n + 2) k)
      go_wp2_with fail
      refine (tk_call (f := f) (p := p + 3 + 2 * k) (n := n + 2) hlen (by omega) (by omega) (by omega) c (unhide HYr) rfl (by omega)).mono ?_
      obtain ⟨x, ex⟩ : ∃ x, tk len f (p + 3 + 2 * k) (n + 2) = x := ⟨_, rfl⟩
      rw [ex] at u1 HU ⊢
      clear ex
      rintro e w3 ⟨rfl, hw⟩
      rw [hw]
      clear hw w3
      go_wp2_with fail
      refine (tk_call (f := f) (p := p + 3 + 2 * k + 1) (n := n + 2) hlen (by omega) (by omega) (by omega) c (unhide HYr) (by omega) (by omega)).mono ?_
      obtain ⟨y, ey⟩ : ∃ y, tk len f (p + 3 + 2 * k + 1) (n + 2) = y := ⟨_, rfl⟩
      rw [ey] at u2 HU ⊢
      clear ey
      rintro e w3 ⟨rfl, hw⟩
      rw [hw]
      clear hw w3
      have hlen2 : (chainL (n + 1) ++ upL len f (p + 3) (n + 2) k).length ≤ 100 := by
        rw [List.length_append, chain_len]; have := up_len len f (p + 3) (n + 2) k; omega
      obtain ⟨L', hL⟩ : ∃ L', chainL (n + 1) ++ upL len f (p + 3) (n + 2) k = L' := ⟨_, rfl⟩
      have HT : Hid (chainL (n + 1) ++ upL len f (p + 3) (n + 2) (k + 1) = L' ++ (if x ≤ y then [((x : Int), (y : Int))] else [])) := hide (by rw [unhide HU, ← List.append_assoc, hL])
      rw [hL] at HS hlen2
      clear hL HU
      have b9 := (unhide HO).lt
      by_cases hxy : x ≤ y
      · have hxy' : (x : Int) ≤ y := by omega
        rw [if_pos hxy] at HT
        obtain ⟨i0, hi, hz0, hz1, hz2⟩ := info_parts info_pair
        go_wp2_with (at_builtin; refine wpList_append_own_at _ rfl _ _ 32 rfl W.heap.size 93 i0 _ 2 16 Tryd.underlying32 hi hz0 hz1 hz2 rfl (by omega) _ _ _ rfl ((unhide HS).alloc _) ⟨wr.heap.size, 0, none⟩ 1 1 [.int .i64 x, .int .i64 y] rfl rfl (cell_two wr 93 _ _) (by simp [Value.oneCell']) (by unfold maxLen; omega) (by omega) (by have := (unhide HBr).size; simp; omega) ?_)
        intro v' w3 ho' hgr' _ hat
        have hB3 := ((unhide HBr).alloc (unhide HBr).size (.cells #[.int .i64 x, .int .i64 y] 93)).grown hgr' (by have := (unhide HBr).size; simp; omega) (fun q' e => owns_block (unhide HS) e)
        have hO3 := ((unhide HO).alloc (.cells #[.int .i64 x, .int .i64 y] 93)).grown hgr' (fun e => unhide HV e.symm)
        have hv3 : v'.ownBlock ≠ some B9 := by
          rcases hat with e | e
          · rw [e]; exact unhide HV
          · rw [e]; simp; omega
        have hex : ∃ ga ca, v' = .slice ga (L'.length + 1) ca := by
          obtain ⟨ga, ca, e, -⟩ := pairs_of_owns (l := L' ++ [((x : Int), (y : Int))]) (by rw [pp_snoc]; exact ho')
          exact ⟨ga, ca, e⟩
        obtain ⟨ga, ca, rfl⟩ := hex
        obtain ⟨o2, o3⟩ : w3.cell? ⟨B9, 0, none⟩ = some (.int .i64 ((n : Int) + 2)) ∧ w3.cell? ⟨B9, 1, none⟩ = some v := ⟨hO3.cell 0, hO3.cell 1⟩
        have f2 := hO3.free 0; have f3 := hO3.free 1
        have HO3 := hide (hO3.set 1 (.slice ga (L'.length + 1) ca))
        have HS3 : Hid ((w3.setCell ⟨B9, 1, none⟩ (.slice ga (L'.length + 1) ca)).ownsRow W.heap.size 93 2 (.slice ga (L'.length + 1) ca) (chainL (n + 1) ++ upL len f (p + 3) (n + 2) (k + 1)).length (pp (chainL (n + 1) ++ upL len f (p + 3) (n + 2) (k + 1)))) := hide (by rw [unhide HT, pp_snoc, List.length_append]; exact owns_set_ne ho' hv3)
        have HB3 := hide (hB3.setCell (p := ⟨B9, 1, none⟩) hW2 (.slice ga (L'.length + 1) ca))
        have HV3 := hide hv3
        clear hgr' hB3 ho' hO3 hv3 hat o0 o1 f0 f1 HO HS HV HBr HYr hi hz0 hz1 hz2 HT
        go_wp2
        go_roundw
        case rel => exact ⟨k + 1, _, by omega, by go_num, by simp; omega, unhide HO3, unhide HS3, unhide HV3, unhide HB3⟩
        case measure => simp [intOf]; omega
      · have hxy' : ¬ (x : Int) ≤ y := by omega
        rw [if_neg hxy, List.append_nil] at HT
        go_wp2
        go_roundw
        case rel => exact ⟨k + 1, v, by omega, by go_num, by simp; omega, unhide HO, by rw [unhide HT]; exact unhide HS, unhide HV, unhide HBr⟩
        case measure => simp [intOf]; omega
    · obtain rfl : k = 4 := by omega
      rw [unhide HLL] at HS
      obtain ⟨g, cap, rfl, hP⟩ := pairs_of_owns (unhide HS)
      have HP := hide hP
      have HR2 := hide ((unhide HR).mono (unhide HBr) (unhide HR).lt)
      have HB2 := hide ((unhide HB).trans ((unhide HBr).mono (by have := unhide HWS; omega)))
      clear hP
      go_wp2_with fail
      refine (l1Turn_any (n + 2) b L g cap wr (by omega) (by omega) (by omega) (by have := unhide HL; omega) (unhide HSm) (unhide HP)).mono ?_
      rintro e w3 ⟨v, rfl, hO, hb3⟩
      have hR3 := (unhide HR2).mono hb3 (unhide HR2).lt
      have hB3 := (unhide HB2).trans (hb3.mono (unhide HB2).size)
      obtain ⟨r0, r1⟩ : w3.cell? ⟨w.heap.size, 0, none⟩ = some (.int .i64 0) ∧ w3.cell? ⟨w.heap.size, 1, none⟩ = some (.slice none 0 0) := ⟨hR3.cell 0, hR3.cell 1⟩
      have f2 := hR3.free 0; have f3 := hR3.free 1
      have hlt2 := (unhide HR2).lt
      have HO3 := hide hO; have HB3 := hide hB3
      obtain ⟨g3, cap3, rfl, -⟩ := pairs_of_owns hO
      clear hR3 hB3 hO hb3 o0 o1 f0 f1
      go_wp2
      refine bodyPost_ret (v := .tuple #[.agg #[.int .i64 ((n : Int) + 2), .slice g3 (turnL ((n + 2 : Nat) : Int) b L).length cap3], .int .i64 ((p : Int) + 11)]) (by simp [results, Tryd.results62, go_sem, *]; omega) rfl ⟨_, rfl, ?_, ?_⟩
      · exact owns_low (owns_set (owns_set (unhide HO3) hlt2) hlt2) (unhide HB2).size
      · exact ((unhide HB3).setCell (by simp) _).setCell (by simp) _
end Go.Proofs.YtnmpkdmflijhpaaDoor
