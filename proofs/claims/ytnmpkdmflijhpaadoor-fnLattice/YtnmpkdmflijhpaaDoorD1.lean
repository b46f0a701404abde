import Derived.Test.YtnmpkdmflijhpaaDoorOwn
import Derived.Test.YtnmpkdmflijhpaaDoorOrd
import Derived.Test.YtnmpkdmflijhpaaDoorPairL
import Derived.Maps.AppendAt
import Derived.Test.YtnmpkdmflijhpaaDoorBase
/- Rows of pairs that a call builds by append. -/
namespace Go.Proofs.YtnmpkdmflijhpaaDoor
open Go Go.RowKit

def pp (l : List (Int × Int)) : List Value := l.flatMap fun u => [.int .i64 u.1, .int .i64 u.2]
theorem pp_cons (u : Int × Int) (l : List (Int × Int)) : pp (u :: l) = .int .i64 u.1 :: .int .i64 u.2 :: pp l := by simp [pp]
theorem pp_len : ∀ l : List (Int × Int), (pp l).length = l.length * 2
  | [] => rfl
  | u :: l => by rw [pp_cons]; simp [pp_len l]; omega
theorem pp_snoc (l : List (Int × Int)) (u : Int × Int) : pp (l ++ [u]) = pp l ++ [.int .i64 u.1, .int .i64 u.2] := by simp [pp]
theorem pp_at : ∀ (l : List (Int × Int)) (k : Nat), k < l.length → (pp l)[k * 2]? = some (.int .i64 (l.getD k (0, 0)).1) ∧ (pp l)[k * 2 + 1]? = some (.int .i64 (l.getD k (0, 0)).2)
  | [], k, h => absurd h (Nat.not_lt_zero _)
  | u :: l, 0, _ => by simp [pp_cons]
  | u :: l, k + 1, h => by
    have := pp_at l k (by simpa using h)
    rw [pp_cons, show (k + 1) * 2 = k * 2 + 1 + 1 by omega]
    simpa using this
theorem pairs_of_owns {w : World} {base : Nat} {e : TypeId} {v : Value} {n : Nat} {l : List (Int × Int)} (h : w.ownsRow base e 2 v n (pp l)) :
    ∃ a cap, v = .slice a n cap ∧ Pairs w a n (fun k => (l.getD k (0, 0)).1) (fun k => (l.getD k (0, 0)).2) := by
  have hlen : l.length = n := by have := h.1; rw [pp_len] at this; omega
  rcases h.2 with ⟨rfl, rfl⟩ | ⟨g, cap, cur, rfl, hb, hg, hc, -, hs, htake⟩
  · exact ⟨none, 0, rfl, fun k hk => absurd hk (Nat.not_lt_zero _)⟩
  · refine ⟨_, cap, rfl, fun k hk => ⟨g, 0, rfl, (Array.getElem?_eq_some_iff.1 hg).1, ?_, ?_⟩⟩
    · have := h.cellAt (k * 2) (by omega)
      rw [Nat.zero_add, this]
      exact (pp_at l k (by omega)).1
    · have := h.cellAt (k * 2 + 1) (by omega)
      rw [Nat.zero_add, this]
      exact (pp_at l k (by omega)).2
theorem owns_none2 (w : World) (t : TypeId) : (w.alloc (.cells #[] t)).ownsRow w.heap.size t 2 (.slice (some ⟨w.heap.size, 0, none⟩) 0 0) 0 (pp []) :=
  ⟨rfl, .inr ⟨w.heap.size, 0, #[], rfl, Nat.le_refl _, heap_alloc_new w (.cells #[] t), Nat.le_refl _, Nat.zero_le _, rfl, rfl⟩⟩
end Go.Proofs.YtnmpkdmflijhpaaDoor

/- The model's shapes of orders. -/
namespace Go.Proofs.YtnmpkdmflijhpaaDoor
open Go Go.RowKit

theorem cell_two (w : World) (t : TypeId) (v u : Value) : ∀ (j : Nat) (x : Value), [v, u][j]? = some x → (w.alloc (.cells #[v, u] t)).cell? ((⟨w.heap.size, 0, none⟩ : Addr).add j) = some x := fun j x h => by
  match j, h with
  | 0, h => simp at h; subst h; exact (Blk.new w t #[v, u]).cell 0
  | 1, h => simp at h; subst h; exact (Blk.new w t #[v, u]).cell 1
theorem owns_set {w : World} {base e size n R j : Nat} {v x : Value} {xs : List Value} (h : w.ownsRow base e size v n xs) (hR : R < base) : (w.setCell ⟨R, j, none⟩ x).ownsRow base e size v n xs := by
  refine ⟨h.1, ?_⟩
  rcases h.2 with h' | ⟨g, cap, cur, h1, h2, h3, h4⟩
  · exact .inl h'
  · exact .inr ⟨g, cap, cur, h1, h2, (heap_setCell_other w ⟨R, j, none⟩ g x (by show g ≠ R; omega)).trans h3, h4⟩

theorem owns_low {w : World} {base base' e size n : Nat} {v : Value} {xs : List Value} (h : w.ownsRow base e size v n xs) (hb : base' ≤ base) : w.ownsRow base' e size v n xs := by
  refine ⟨h.1, ?_⟩
  rcases h.2 with h' | ⟨g, cap, cur, h1, h2, h3⟩
  · exact .inl h'
  · exact .inr ⟨g, cap, cur, h1, by omega, h3⟩

/-- An order that a call gave: its pairs lie in a row of its own. -/
def OrdOut (w : World) (N : Int) (l : List (Int × Int)) (e : Ending) (w' : World) : Prop :=
  ∃ v, e = .returned (.agg #[.int .i64 N, v]) ∧ w'.ownsRow w.heap.size 93 2 v l.length (pp l) ∧ Below w.heap.size w w'

def chainL (k : Nat) : List (Int × Int) := (List.range k).map fun (i : Nat) => ((i : Int), (i : Int) + 1)
theorem chain_succ (k : Nat) : chainL (k + 1) = chainL k ++ [((k : Int), (k : Int) + 1)] := by simp [chainL, List.range_succ]
theorem chain_len (k : Nat) : (chainL k).length = k := by simp [chainL]

set_option maxRecDepth 100000 in
set_option maxHeartbeats 1000000 in
theorem l1Shape_chain (n : Nat) (w : World) (hn : n ≤ 1024) (h1 : 1 ≤ n) :
    Calls Tryd.prog 65 #[.int .i64 0, .int .i64 n] w fun e w' => OrdOut w n (chainL (n - 1)) e w' := by
  obtain ⟨W, hW⟩ : ∃ W, w.alloc (.cells #[.int .i64 0, .slice none 0 0] 34) = W := ⟨_, rfl⟩
  have hWs : W.heap.size = w.heap.size + 1 := by rw [← hW]; simp
  have bR : Blk W w.heap.size 34 [.int .i64 0, .slice none 0 0] := by rw [← hW]; exact Blk.new w 34 #[.int .i64 0, .slice none 0 0]
  have hb : Below w.heap.size w W := by rw [← hW]; exact (Below.refl _ _).alloc (Nat.le_refl _) _
  have HR := hide bR; have HB := hide hb; have HWS := hide hWs
  clear bR hb
  go_enter Tryd.func65, Tryd.ntmps65
  go_wp2
  try rw [hW]
  go_loopw [5, 6] (fun v i wr => ∃ k : Nat, k ≤ n - 1 ∧ i = .int .i64 k ∧ wr.ownsRow W.heap.size 93 2 v k (pp (chainL k)) ∧ Below W.heap.size W wr) (fun _ i _ => n - (intOf i).toNat)
  case atStart => exact ⟨0, Nat.zero_le _, rfl, (by have h := owns_none2 W 93; rw [unhide HWS] at h ⊢; exact h), (Below.refl _ _).alloc (Nat.le_refl _) _⟩
  case round =>
    obtain ⟨k, hk, rfl, hO, hB⟩ := hrel
    have HO := hide hO; have HBr := hide hB
    clear hO hB hW hWs
    by_cases hlt : k + 1 < n
    · have hlt' : (k : Int) + 1 < n := by omega
      obtain ⟨i0, hi, hz0, hz1, hz2⟩ := info_parts info_pair
      go_wp2_with (at_builtin; refine wpList_append_own_at _ rfl _ _ 32 rfl W.heap.size 93 i0 _ 2 16 Tryd.underlying32 hi hz0 hz1 hz2 rfl (by omega) _ _ _ rfl ((unhide HO).alloc _) ⟨wr.heap.size, 0, none⟩ 1 1 [.int .i64 k, .int .i64 (k + 1)] rfl rfl (cell_two wr 93 _ _) (by simp [Value.oneCell']) (by unfold maxLen; omega) (by omega) (by have := (unhide HBr).size; simp; omega) ?_)
      intro v' w3 ho' hgr' _ _
      have hB3 := ((unhide HBr).alloc (unhide HBr).size (.cells #[.int .i64 k, .int .i64 ((k : Int) + 1)] 93)).grown hgr' (by have := (unhide HBr).size; simp; omega) (fun q' e => owns_block (unhide HO) e)
      have HO3 : Hid (w3.ownsRow W.heap.size 93 2 v' (k + 1) (pp (chainL (k + 1)))) := hide (by rw [chain_succ, pp_snoc]; exact ho')
      have HB3 := hide hB3
      clear hgr' hB3 ho' HO HBr hi hz0 hz1 hz2
      go_wp2
      go_roundw
      case rel => exact ⟨k + 1, by omega, by go_num, unhide HO3, unhide HB3⟩
      case measure => simp [intOf]; omega
    · have hlt' : ¬ (k : Int) + 1 < n := by omega
      obtain rfl : k = n - 1 := by omega
      obtain ⟨a, cap, rfl, -⟩ := pairs_of_owns (unhide HO)
      have bR := (unhide HR).mono (unhide HBr) (by have := unhide HWS; omega)
      obtain ⟨r0, r1⟩ : wr.cell? ⟨w.heap.size, 0, none⟩ = some (.int .i64 0) ∧ wr.cell? ⟨w.heap.size, 1, none⟩ = some (.slice none 0 0) := ⟨bR.cell 0, bR.cell 1⟩
      have f0 := bR.free 0; have f1 := bR.free 1
      clear bR
      go_wp2
      refine bodyPost_ret (v := .agg #[.int .i64 n, .slice a (n - 1) cap]) (by simp [results, Tryd.results65, go_sem, *]) rfl ⟨_, rfl, ?_, ?_⟩
      · rw [chain_len]
        exact owns_low (owns_set (owns_set (unhide HO) (by have := unhide HWS; omega)) (by have := unhide HWS; omega)) (by have := unhide HWS; omega)
      · exact (((unhide HB).trans ((unhide HBr).mono (by have := unhide HWS; omega))).setCell (Nat.le_refl _) _).setCell (Nat.le_refl _) _
def starL (n k : Nat) : List (Int × Int) := (List.range k).flatMap fun (i : Nat) => [((0 : Int), (i : Int) + 1), ((i : Int) + 1, (n : Int) + 1)]
theorem star_succ (n k : Nat) : starL n (k + 1) = starL n k ++ [((0 : Int), (k : Int) + 1)] ++ [((k : Int) + 1, (n : Int) + 1)] := by simp [starL, List.range_succ]
theorem star_len (n : Nat) : ∀ k, (starL n k).length = k * 2
  | 0 => rfl
  | k + 1 => by rw [star_succ]; simp [star_len n k]; omega

set_option maxRecDepth 100000 in
set_option maxHeartbeats 1000000 in
theorem l1Shape_star (n : Nat) (w : World) (hn : n ≤ 1024) :
    Calls Tryd.prog 65 #[.int .i64 1, .int .i64 n] w fun e w' => OrdOut w ((n : Int) + 2) (starL n n) e w' := by
  obtain ⟨W, hW⟩ : ∃ W, w.alloc (.cells #[.int .i64 0, .slice none 0 0] 34) = W := ⟨_, rfl⟩
  have hWs : W.heap.size = w.heap.size + 1 := by rw [← hW]; simp
  have bR : Blk W w.heap.size 34 [.int .i64 0, .slice none 0 0] := by rw [← hW]; exact Blk.new w 34 #[.int .i64 0, .slice none 0 0]
  have hb : Below w.heap.size w W := by rw [← hW]; exact (Below.refl _ _).alloc (Nat.le_refl _) _
  have HR := hide bR; have HB := hide hb; have HWS := hide hWs
  clear bR hb
  go_enter Tryd.func65, Tryd.ntmps65
  go_wp2
  try rw [hW]
  go_loopw [5, 7] (fun v i wr => ∃ k : Nat, k ≤ n ∧ i = .int .i64 ((k : Int) + 1) ∧ wr.ownsRow W.heap.size 93 2 v (k * 2) (pp (starL n k)) ∧ Below W.heap.size W wr) (fun _ i _ => n + 1 - (intOf i).toNat)
  case atStart => exact ⟨0, Nat.zero_le _, rfl, (by have h := owns_none2 W 93; rw [unhide HWS] at h ⊢; exact h), (Below.refl _ _).alloc (Nat.le_refl _) _⟩
  case round =>
    obtain ⟨k, hk, rfl, hO, hB⟩ := hrel
    have HO := hide hO; have HBr := hide hB
    clear hO hB hW hWs
    by_cases hlt : k < n
    · have hlt' : (k : Int) + 1 ≤ n := by omega
      obtain ⟨i0, hi, hz0, hz1, hz2⟩ := info_parts info_pair
      go_wp2_with (at_builtin; refine wpList_append_own_at _ rfl _ _ 32 rfl W.heap.size 93 i0 _ 2 16 Tryd.underlying32 hi hz0 hz1 hz2 rfl (by omega) _ _ _ rfl ((unhide HO).alloc _) ⟨wr.heap.size, 0, none⟩ 1 1 [.int .i64 0, .int .i64 ((k : Int) + 1)] rfl rfl (cell_two wr 93 _ _) (by simp [Value.oneCell']) (by unfold maxLen; omega) (by omega) (by have := (unhide HBr).size; simp; omega) ?_)
      intro v' w3 ho' hgr' _ _
      have hB3 := ((unhide HBr).alloc (unhide HBr).size (.cells #[.int .i64 0, .int .i64 ((k : Int) + 1)] 93)).grown hgr' (by have := (unhide HBr).size; simp; omega) (fun q' e => owns_block (unhide HO) e)
      have HO3 : Hid (w3.ownsRow W.heap.size 93 2 v' (k * 2 + 1) (pp (starL n k ++ [((0 : Int), (k : Int) + 1)]))) := hide (by rw [pp_snoc]; exact ho')
      have HB3 := hide hB3
      clear hgr' hB3 ho' HO HBr
      go_wp2_with (at_builtin; refine wpList_append_own_at _ rfl _ _ 32 rfl W.heap.size 93 i0 _ 2 16 Tryd.underlying32 hi hz0 hz1 hz2 rfl (by omega) _ _ _ rfl ((unhide HO3).alloc _) ⟨w3.heap.size, 0, none⟩ 1 1 [.int .i64 ((k : Int) + 1), .int .i64 ((n : Int) + 1)] rfl rfl (cell_two w3 93 _ _) (by simp [Value.oneCell']) (by unfold maxLen; omega) (by omega) (by have := (unhide HB3).size; simp; omega) ?_)
      intro v4 w4 ho' hgr' _ _
      have hB4 := ((unhide HB3).alloc (unhide HB3).size (.cells #[.int .i64 ((k : Int) + 1), .int .i64 ((n : Int) + 1)] 93)).grown hgr' (by have := (unhide HB3).size; simp; omega) (fun q' e => owns_block (unhide HO3) e)
      have HO4 : Hid (w4.ownsRow W.heap.size 93 2 v4 ((k + 1) * 2) (pp (starL n (k + 1)))) := hide (by rw [star_succ, pp_snoc, show (k + 1) * 2 = k * 2 + 1 + 1 by omega]; exact ho')
      have HB4 := hide hB4
      clear hgr' hB4 ho' HO3 HB3 hi hz0 hz1 hz2
      go_wp2
      go_roundw
      case rel => exact ⟨k + 1, by omega, by go_num, unhide HO4, unhide HB4⟩
      case measure => simp [intOf]; omega
    · have hlt' : ¬ (k : Int) + 1 ≤ n := by omega
      obtain rfl : k = n := by omega
      obtain ⟨a, cap, rfl, -⟩ := pairs_of_owns (unhide HO)
      have bR := (unhide HR).mono (unhide HBr) (by have := unhide HWS; omega)
      obtain ⟨r0, r1⟩ : wr.cell? ⟨w.heap.size, 0, none⟩ = some (.int .i64 0) ∧ wr.cell? ⟨w.heap.size, 1, none⟩ = some (.slice none 0 0) := ⟨bR.cell 0, bR.cell 1⟩
      have f0 := bR.free 0; have f1 := bR.free 1
      clear bR
      go_wp2
      refine bodyPost_ret (v := .agg #[.int .i64 ((k : Int) + 2), .slice a (k * 2) cap]) (by simp [results, Tryd.results65, go_sem, *]) rfl ⟨_, rfl, ?_, ?_⟩
      · rw [star_len]
        exact owns_low (owns_set (owns_set (unhide HO) (by have := unhide HWS; omega)) (by have := unhide HWS; omega)) (by have := unhide HWS; omega)
      · exact (((unhide HB).trans ((unhide HBr).mono (by have := unhide HWS; omega))).setCell (Nat.le_refl _) _).setCell (Nat.le_refl _) _
end Go.Proofs.YtnmpkdmflijhpaaDoor

/- The model's shapes of orders: the cube. -/
namespace Go.Proofs.YtnmpkdmflijhpaaDoor
open Go Go.RowKit

def rowL (i b : Nat) : List (Int × Int) := (([1, 2, 4] : List Nat).filter fun c => decide (c < b) && decide (i / c % 2 = 0)).map fun (c : Nat) => ((i : Int), (i : Int) + c)
theorem row_two (i b : Nat) (hb : b = 1 ∨ b = 2 ∨ b = 4) : rowL i (b * 2) = rowL i b ++ (if i / b % 2 = 0 then [((i : Int), (i : Int) + b)] else []) := by
  by_cases h1 : i / 1 % 2 = 0 <;> by_cases h2 : i / 2 % 2 = 0 <;> by_cases h4 : i / 4 % 2 = 0 <;> rcases hb with rfl | rfl | rfl <;> simp only [rowL, List.filter, h1, h2, h4] <;> simp
theorem row_one (i : Nat) : rowL i 1 = [] := by simp [rowL]
theorem row_len (i b : Nat) : (rowL i b).length ≤ 3 := by
  rw [rowL, List.length_map]; exact List.length_filter_le _ _
def cubeL (k : Nat) : List (Int × Int) := (List.range k).flatMap fun i => rowL i 8
theorem cube_succ (k : Nat) : cubeL (k + 1) = cubeL k ++ rowL k 8 := by simp [cubeL, List.range_succ]
theorem cube_len : ∀ k, (cubeL k).length ≤ k * 3
  | 0 => Nat.le_refl _
  | k + 1 => by rw [cube_succ, List.length_append]; have := cube_len k; have := row_len k 8; omega

set_option maxRecDepth 100000 in
set_option maxHeartbeats 1000000 in
theorem l1Shape_cube (n : Int) (w : World) :
    Calls Tryd.prog 65 #[.int .i64 2, .int .i64 n] w fun e w' => OrdOut w 8 (cubeL 8) e w' := by
  obtain ⟨W, hW⟩ : ∃ W, w.alloc (.cells #[.int .i64 0, .slice none 0 0] 34) = W := ⟨_, rfl⟩
  have hWs : W.heap.size = w.heap.size + 1 := by rw [← hW]; simp
  have bR : Blk W w.heap.size 34 [.int .i64 0, .slice none 0 0] := by rw [← hW]; exact Blk.new w 34 #[.int .i64 0, .slice none 0 0]
  have hb : Below w.heap.size w W := by rw [← hW]; exact (Below.refl _ _).alloc (Nat.le_refl _) _
  have HR := hide bR; have HB := hide hb; have HWS := hide hWs
  clear bR hb
  go_enter Tryd.func65, Tryd.ntmps65
  go_wp2
  try rw [hW]
  go_loopw [5, 8] (fun v i wr => ∃ k : Nat, k ≤ 8 ∧ i = .int .i64 k ∧ wr.ownsRow W.heap.size 93 2 v (cubeL k).length (pp (cubeL k)) ∧ Below W.heap.size W wr) (fun _ i _ => 8 - (intOf i).toNat)
  case atStart => exact ⟨0, Nat.zero_le _, rfl, (by have h := owns_none2 W 93; rw [unhide HWS] at h ⊢; exact h), (Below.refl _ _).alloc (Nat.le_refl _) _⟩
  case round =>
    obtain ⟨k, hk, rfl, hO, hB⟩ := hrel
    have HO := hide hO; have HBr := hide hB
    clear hO hB hW hWs
    by_cases hlt : k < 8
    · have hlt' : (k : Int) < 8 := by omega
      go_wp2
      go_loopw [5, 9] (fun v b wr => ∃ c : Nat, (c = 1 ∨ c = 2 ∨ c = 4 ∨ c = 8) ∧ b = .int .i64 c ∧ wr.ownsRow W.heap.size 93 2 v (cubeL k ++ rowL k c).length (pp (cubeL k ++ rowL k c)) ∧ Below W.heap.size W wr) (fun _ b _ => 8 - (intOf b).toNat)
      case atStart => exact ⟨1, .inl rfl, rfl, by rw [row_one, List.append_nil]; exact unhide HO, unhide HBr⟩
      case round =>
        clear HO HBr
        obtain ⟨c, hc, rfl, hO, hB⟩ := hrel
        have HO := hide hO; have HBr := hide hB
        clear hO hB
        by_cases hc8 : c < 8
        · have hc8' : (c : Int) < 8 := by omega
          have hc3 : c = 1 ∨ c = 2 ∨ c = 4 := by omega
          have hc0 : ¬ (c : Int) = 0 := by omega
          have hl := cube_len k; have hl2 := row_len k c
          have hlen : (cubeL k ++ rowL k c).length ≤ 27 := by rw [List.length_append]; omega
          obtain ⟨L, hL⟩ : ∃ L, cubeL k ++ rowL k c = L := ⟨_, rfl⟩
          have HT : Hid (cubeL k ++ rowL k (c * 2) = L ++ (if k / c % 2 = 0 then [((k : Int), (k : Int) + c)] else [])) := hide (by rw [row_two k c hc3, ← List.append_assoc, hL])
          rw [hL] at HO hlen
          clear hL hl hl2
          have hw : wrap64 ((k : Int) / c) = ((k / c : Nat) : Int) := by
            have key : ∀ (x : Fin 8) (y : Fin 5), wrap64 ((x.val : Int) / (y.val : Int)) = ((x.val / y.val : Nat) : Int) := by decide +kernel
            exact key ⟨k, hlt⟩ ⟨c, by omega⟩
          have ht : (wrap64 ((k : Int) / c)).tmod 2 = ((k / c % 2 : Nat) : Int) := by rw [hw]; rfl
          clear hw
          by_cases hd : k / c % 2 = 0
          · have hd' : ((wrap64 ((k : Int) / c)).tmod 2 == 0) = true := by rw [ht, hd]; rfl
            clear ht
            rw [if_pos hd] at HT
            obtain ⟨i0, hi, hz0, hz1, hz2⟩ := info_parts info_pair
            go_wp2_with (at_builtin; refine wpList_append_own_at _ rfl _ _ 32 rfl W.heap.size 93 i0 _ 2 16 Tryd.underlying32 hi hz0 hz1 hz2 rfl (by omega) _ _ _ rfl ((unhide HO).alloc _) ⟨wr.heap.size, 0, none⟩ 1 1 [.int .i64 k, .int .i64 ((k : Int) + c)] rfl rfl (cell_two wr 93 _ _) (by simp [Value.oneCell']) (by unfold maxLen; omega) (by omega) (by have := (unhide HBr).size; simp; omega) ?_)
            intro v' w3 ho' hgr' _ _
            have hB3 := ((unhide HBr).alloc (unhide HBr).size (.cells #[.int .i64 k, .int .i64 ((k : Int) + c)] 93)).grown hgr' (by have := (unhide HBr).size; simp; omega) (fun q' e => owns_block (unhide HO) e)
            have HO3 : Hid (w3.ownsRow W.heap.size 93 2 v' (cubeL k ++ rowL k (c * 2)).length (pp (cubeL k ++ rowL k (c * 2)))) := hide (by rw [unhide HT, pp_snoc, List.length_append]; exact ho')
            have HB3 := hide hB3
            clear hgr' hB3 ho' HO HBr hi hz0 hz1 hz2 HT
            go_wp2
            go_roundw
            case rel => exact ⟨c * 2, by omega, by go_num, unhide HO3, unhide HB3⟩
            case measure => simp [intOf]; omega
          · have hd' : ((wrap64 ((k : Int) / c)).tmod 2 == 0) = false := by rw [ht, beq_eq_false_iff_ne]; omega
            clear ht
            rw [if_neg hd, List.append_nil] at HT
            go_wp2
            go_roundw
            case rel => exact ⟨c * 2, by omega, by go_num, by rw [unhide HT]; exact unhide HO, unhide HBr⟩
            case measure => simp [intOf]; omega
        · obtain rfl : c = 8 := by omega
          have HO3 : Hid (wr.ownsRow W.heap.size 93 2 u5 (cubeL (k + 1)).length (pp (cubeL (k + 1)))) := hide (by rw [cube_succ]; exact unhide HO)
          go_wp2
          go_roundw
          case rel => exact ⟨k + 1, by omega, by go_num, unhide HO3, unhide HBr⟩
          case measure => simp [intOf]; omega
    · obtain rfl : k = 8 := by omega
      obtain ⟨a, cap, rfl, -⟩ := pairs_of_owns (unhide HO)
      have bR := (unhide HR).mono (unhide HBr) (by have := unhide HWS; omega)
      obtain ⟨r0, r1⟩ : wr.cell? ⟨w.heap.size, 0, none⟩ = some (.int .i64 0) ∧ wr.cell? ⟨w.heap.size, 1, none⟩ = some (.slice none 0 0) := ⟨bR.cell 0, bR.cell 1⟩
      have f0 := bR.free 0; have f1 := bR.free 1
      clear bR
      go_wp2
      refine bodyPost_ret (v := .agg #[.int .i64 8, .slice a (cubeL 8).length cap]) (by simp [results, Tryd.results65, go_sem, *]) rfl ⟨_, rfl, ?_, ?_⟩
      · exact owns_low (owns_set (owns_set (unhide HO) (by have := unhide HWS; omega)) (by have := unhide HWS; omega)) (by have := unhide HWS; omega)
      · exact (((unhide HB).trans ((unhide HBr).mono (by have := unhide HWS; omega))).setCell (Nat.le_refl _) _).setCell (Nat.le_refl _) _
end Go.Proofs.YtnmpkdmflijhpaaDoor

/- The model's shapes of orders: the grid. -/
namespace Go.Proofs.YtnmpkdmflijhpaaDoor
open Go Go.RowKit

def cellX (w y x : Nat) : List (Int × Int) := if x + 1 < w then [((y : Int) * w + x, (y : Int) * w + x + 1)] else []
def cellY (w y x : Nat) : List (Int × Int) := if y + 1 < 3 then [((y : Int) * w + x, ((y : Int) + 1) * w + x)] else []
theorem cellX_len (w y x : Nat) : (cellX w y x).length ≤ 1 := by unfold cellX; split <;> simp
theorem cellY_len (w y x : Nat) : (cellY w y x).length ≤ 1 := by unfold cellY; split <;> simp
def rowG (w y x : Nat) : List (Int × Int) := (List.range x).flatMap fun x => cellX w y x ++ cellY w y x
theorem rowG_succ (w y x : Nat) : rowG w y (x + 1) = rowG w y x ++ cellX w y x ++ cellY w y x := by simp [rowG, List.range_succ]
theorem rowG_len (w y : Nat) : ∀ x, (rowG w y x).length ≤ x * 2
  | 0 => Nat.le_refl _
  | x + 1 => by rw [rowG_succ, List.length_append, List.length_append]; have := rowG_len w y x; have := cellX_len w y x; have := cellY_len w y x; omega
def gridL (w y : Nat) : List (Int × Int) := (List.range y).flatMap fun y => rowG w y w
theorem grid_succ (w y : Nat) : gridL w (y + 1) = gridL w y ++ rowG w y w := by simp [gridL, List.range_succ]
theorem grid_len (w : Nat) (hw : w ≤ 4) : ∀ y, (gridL w y).length ≤ y * 8
  | 0 => Nat.le_refl _
  | y + 1 => by rw [grid_succ, List.length_append]; have := grid_len w hw y; have := rowG_len w y w; omega

set_option maxRecDepth 100000 in
set_option maxHeartbeats 1600000 in
theorem l1Shape_grid (n : Nat) (w : World) (hn : n ≤ 1024) (D : Nat) (hD : n % 3 + 2 = D) :
    Calls Tryd.prog 65 #[.int .i64 3, .int .i64 n] w fun e w' => OrdOut w (3 * (D : Int)) (gridL D 3) e w' := by
  have hD4 : 2 ≤ D ∧ D ≤ 4 := by omega
  have hD' : (n : Int) % 3 + 2 = D := by omega
  have hD2 : (n : Int).tmod 3 + 2 = D := by rw [← hD]; rfl
  clear hD
  obtain ⟨W, hW⟩ : ∃ W, w.alloc (.cells #[.int .i64 0, .slice none 0 0] 34) = W := ⟨_, rfl⟩
  have hWs : W.heap.size = w.heap.size + 1 := by rw [← hW]; simp
  have bR : Blk W w.heap.size 34 [.int .i64 0, .slice none 0 0] := by rw [← hW]; exact Blk.new w 34 #[.int .i64 0, .slice none 0 0]
  have hb : Below w.heap.size w W := by rw [← hW]; exact (Below.refl _ _).alloc (Nat.le_refl _) _
  have HR := hide bR; have HB := hide hb; have HWS := hide hWs
  clear bR hb
  go_enter Tryd.func65, Tryd.ntmps65
  go_wp2
  try rw [hW]
  go_loopw [5, 11] (fun v i wr => ∃ k : Nat, k ≤ 3 ∧ i = .int .i64 k ∧ wr.ownsRow W.heap.size 93 2 v (gridL D k).length (pp (gridL D k)) ∧ Below W.heap.size W wr) (fun _ i _ => 3 - (intOf i).toNat)
  case atStart => exact ⟨0, Nat.zero_le _, rfl, (by have h := owns_none2 W 93; rw [unhide HWS] at h ⊢; exact h), (Below.refl _ _).alloc (Nat.le_refl _) _⟩
  case round =>
    obtain ⟨k, hk, rfl, hO, hB⟩ := hrel
    have HO := hide hO; have HBr := hide hB
    clear hO hB hW hWs
    by_cases hlt : k < 3
    · have hlt' : (k : Int) < 3 := by omega
      go_wp2
      go_loopw [5, 12] (fun v b wr => ∃ c : Nat, c ≤ D ∧ b = .int .i64 c ∧ wr.ownsRow W.heap.size 93 2 v (gridL D k ++ rowG D k c).length (pp (gridL D k ++ rowG D k c)) ∧ Below W.heap.size W wr) (fun _ b _ => D - (intOf b).toNat)
      case atStart => exact ⟨0, Nat.zero_le _, rfl, by rw [show rowG D k 0 = [] from rfl, List.append_nil]; exact unhide HO, unhide HBr⟩
      case round =>
        clear HO HBr
        obtain ⟨c, hc, rfl, hO, hB⟩ := hrel
        have HO := hide hO; have HBr := hide hB
        clear hO hB
        by_cases hcD : c < D
        · have hcD' : (c : Int) < D := by omega
          have hl := grid_len D hD4.2 k; have hl2 := rowG_len D k c
          have hlen : (gridL D k ++ rowG D k c).length ≤ 32 := by rw [List.length_append]; omega
          obtain ⟨L, hL⟩ : ∃ L, gridL D k ++ rowG D k c = L := ⟨_, rfl⟩
          have HT : Hid (gridL D k ++ rowG D k (c + 1) = L ++ cellX D k c ++ cellY D k c) := hide (by rw [rowG_succ, ← List.append_assoc, ← List.append_assoc, hL])
          rw [hL] at HO hlen
          clear hL hl hl2
          have p1 : (0 : Int) ≤ (k : Int) * D ∧ (k : Int) * D ≤ 8 := by
            have : k * D ≤ 2 * 4 := Nat.mul_le_mul (by omega) hD4.2
            have h2 : (k : Int) * D = ((k * D : Nat) : Int) := by simp
            rw [h2]; omega
          have p2 : (0 : Int) ≤ ((k : Int) + 1) * D ∧ ((k : Int) + 1) * D ≤ 12 := by rw [Int.add_mul, Int.one_mul]; omega
          have step : ∀ (v : Value) (wr : World), Hid (wr.ownsRow W.heap.size 93 2 v (gridL D k ++ rowG D k (c + 1)).length (pp (gridL D k ++ rowG D k (c + 1)))) → Hid (Below W.heap.size W wr) → ∃ c' : Nat, c' ≤ D ∧ (Value.int .i64 ((c : Int) + 1)) = .int .i64 c' ∧ wr.ownsRow W.heap.size 93 2 v (gridL D k ++ rowG D k c').length (pp (gridL D k ++ rowG D k c')) ∧ Below W.heap.size W wr := fun v wr a b => ⟨c + 1, by omega, by simp, unhide a, unhide b⟩
          obtain ⟨i0, hi, hz0, hz1, hz2⟩ := info_parts info_pair
          by_cases hx : c + 1 < D <;> by_cases hy : k + 1 < 3
          · have hx' : ((c : Int) + 1 < D) := by omega
            have hy' : ((k : Int) + 1 < 3) := by omega
            simp only [cellX, cellY, if_pos hx, if_pos hy] at HT
            go_wp2_with (at_builtin; refine wpList_append_own_at _ rfl _ _ 32 rfl W.heap.size 93 i0 _ 2 16 Tryd.underlying32 hi hz0 hz1 hz2 rfl (by omega) _ _ _ rfl ((unhide HO).alloc _) ⟨wr.heap.size, 0, none⟩ 1 1 [.int .i64 ((k : Int) * D + c), .int .i64 ((k : Int) * D + c + 1)] rfl rfl (cell_two wr 93 _ _) (by simp [Value.oneCell']) (by unfold maxLen; omega) (by omega) (by have := (unhide HBr).size; simp; omega) ?_)
            intro v3 w3 ho' hgr' _ _
            have hB3 := ((unhide HBr).alloc (unhide HBr).size (.cells #[.int .i64 ((k : Int) * D + c), .int .i64 ((k : Int) * D + c + 1)] 93)).grown hgr' (by have := (unhide HBr).size; simp; omega) (fun q' e => owns_block (unhide HO) e)
            have HO3 : Hid (w3.ownsRow W.heap.size 93 2 v3 (L.length + 1) (pp (L ++ [((k : Int) * D + c, (k : Int) * D + c + 1)]))) := hide (by rw [pp_snoc]; exact ho')
            have HB3 := hide hB3
            clear hgr' hB3 ho' HO HBr
            go_wp2_with (at_builtin; refine wpList_append_own_at _ rfl _ _ 32 rfl W.heap.size 93 i0 _ 2 16 Tryd.underlying32 hi hz0 hz1 hz2 rfl (by omega) _ _ _ rfl ((unhide HO3).alloc _) ⟨w3.heap.size, 0, none⟩ 1 1 [.int .i64 ((k : Int) * D + c), .int .i64 (((k : Int) + 1) * D + c)] rfl rfl (cell_two w3 93 _ _) (by simp [Value.oneCell']) (by unfold maxLen; omega) (by omega) (by have := (unhide HB3).size; simp; omega) ?_)
            intro v4 w4 ho' hgr' _ _
            have hB4 := ((unhide HB3).alloc (unhide HB3).size (.cells #[.int .i64 ((k : Int) * D + c), .int .i64 (((k : Int) + 1) * D + c)] 93)).grown hgr' (by have := (unhide HB3).size; simp; omega) (fun q' e => owns_block (unhide HO3) e)
            have HO4 : Hid (w4.ownsRow W.heap.size 93 2 v4 (L.length + 1 + 1) (pp (L ++ [((k : Int) * D + c, (k : Int) * D + c + 1)] ++ [((k : Int) * D + c, ((k : Int) + 1) * D + c)]))) := hide (by rw [pp_snoc]; exact ho')
            have HB4 := hide hB4
            clear hgr' hB4 ho' HO3 HB3
            go_wp2
            go_roundw
            case rel => exact step _ _ (by rw [unhide HT]; simpa only [List.length_append, List.length_singleton] using HO4) HB4
            case measure => simp [intOf]; omega
          · have hx' : ((c : Int) + 1 < D) := by omega
            have hy' : ¬ ((k : Int) + 1 < 3) := by omega
            simp only [cellX, cellY, if_pos hx, if_neg hy, List.append_nil] at HT
            go_wp2_with (at_builtin; refine wpList_append_own_at _ rfl _ _ 32 rfl W.heap.size 93 i0 _ 2 16 Tryd.underlying32 hi hz0 hz1 hz2 rfl (by omega) _ _ _ rfl ((unhide HO).alloc _) ⟨wr.heap.size, 0, none⟩ 1 1 [.int .i64 ((k : Int) * D + c), .int .i64 ((k : Int) * D + c + 1)] rfl rfl (cell_two wr 93 _ _) (by simp [Value.oneCell']) (by unfold maxLen; omega) (by omega) (by have := (unhide HBr).size; simp; omega) ?_)
            intro v3 w3 ho' hgr' _ _
            have hB3 := ((unhide HBr).alloc (unhide HBr).size (.cells #[.int .i64 ((k : Int) * D + c), .int .i64 ((k : Int) * D + c + 1)] 93)).grown hgr' (by have := (unhide HBr).size; simp; omega) (fun q' e => owns_block (unhide HO) e)
            have HO3 : Hid (w3.ownsRow W.heap.size 93 2 v3 (L.length + 1) (pp (L ++ [((k : Int) * D + c, (k : Int) * D + c + 1)]))) := hide (by rw [pp_snoc]; exact ho')
            have HB3 := hide hB3
            clear hgr' hB3 ho' HO HBr
            go_wp2
            go_roundw
            case rel => exact step _ _ (by rw [unhide HT]; simpa only [List.length_append, List.length_singleton] using HO3) HB3
            case measure => simp [intOf]; omega
          · have hx' : ¬ ((c : Int) + 1 < D) := by omega
            have hy' : ((k : Int) + 1 < 3) := by omega
            simp only [cellX, cellY, if_neg hx, if_pos hy, List.append_nil] at HT
            go_wp2_with (at_builtin; refine wpList_append_own_at _ rfl _ _ 32 rfl W.heap.size 93 i0 _ 2 16 Tryd.underlying32 hi hz0 hz1 hz2 rfl (by omega) _ _ _ rfl ((unhide HO).alloc _) ⟨wr.heap.size, 0, none⟩ 1 1 [.int .i64 ((k : Int) * D + c), .int .i64 (((k : Int) + 1) * D + c)] rfl rfl (cell_two wr 93 _ _) (by simp [Value.oneCell']) (by unfold maxLen; omega) (by omega) (by have := (unhide HBr).size; simp; omega) ?_)
            intro v4 w4 ho' hgr' _ _
            have hB4 := ((unhide HBr).alloc (unhide HBr).size (.cells #[.int .i64 ((k : Int) * D + c), .int .i64 (((k : Int) + 1) * D + c)] 93)).grown hgr' (by have := (unhide HBr).size; simp; omega) (fun q' e => owns_block (unhide HO) e)
            have HO4 : Hid (w4.ownsRow W.heap.size 93 2 v4 (L.length + 1) (pp (L ++ [((k : Int) * D + c, ((k : Int) + 1) * D + c)]))) := hide (by rw [pp_snoc]; exact ho')
            have HB4 := hide hB4
            clear hgr' hB4 ho' HO HBr
            go_wp2
            go_roundw
            case rel => exact step _ _ (by rw [unhide HT]; simpa only [List.length_append, List.length_singleton] using HO4) HB4
            case measure => simp [intOf]; omega
          · have hx' : ¬ ((c : Int) + 1 < D) := by omega
            have hy' : ¬ ((k : Int) + 1 < 3) := by omega
            simp only [cellX, cellY, if_neg hx, if_neg hy, List.append_nil] at HT
            go_wp2
            go_roundw
            case rel => exact step _ _ (by rw [unhide HT]; exact HO) HBr
            case measure => simp [intOf]; omega
        · obtain rfl : c = D := by omega
          have HO3 : Hid (wr.ownsRow W.heap.size 93 2 u5 (gridL c (k + 1)).length (pp (gridL c (k + 1)))) := hide (by rw [grid_succ]; exact unhide HO)
          go_wp2
          go_roundw
          case rel => exact ⟨k + 1, by omega, by go_num, unhide HO3, unhide HBr⟩
          case measure => simp [intOf]; omega
    · obtain rfl : k = 3 := by omega
      obtain ⟨a, cap, rfl, -⟩ := pairs_of_owns (unhide HO)
      have bR := (unhide HR).mono (unhide HBr) (by have := unhide HWS; omega)
      obtain ⟨r0, r1⟩ : wr.cell? ⟨w.heap.size, 0, none⟩ = some (.int .i64 0) ∧ wr.cell? ⟨w.heap.size, 1, none⟩ = some (.slice none 0 0) := ⟨bR.cell 0, bR.cell 1⟩
      have f0 := bR.free 0; have f1 := bR.free 1
      clear bR
      go_wp2
      refine bodyPost_ret (v := .agg #[.int .i64 (3 * (D : Int)), .slice a (gridL D 3).length cap]) (by simp [results, Tryd.results65, go_sem, *]) rfl ⟨_, rfl, ?_, ?_⟩
      · exact owns_low (owns_set (owns_set (unhide HO) (by have := unhide HWS; omega)) (by have := unhide HWS; omega)) (by have := unhide HWS; omega)
      · exact (((unhide HB).trans ((unhide HBr).mono (by have := unhide HWS; omega))).setCell (Nat.le_refl _) _).setCell (Nat.le_refl _) _
end Go.Proofs.YtnmpkdmflijhpaaDoor

/- The model's drawing of numbers from bytes. -/
namespace Go.Proofs.YtnmpkdmflijhpaaDoor
open Go Go.RowKit

/-- A slice of bytes. -/
def Byts (w : World) (a : Option Addr) (n : Nat) (f : Nat → Nat) : Prop :=
  ∀ k, k < n → f k < 256 ∧ ∃ b off, a = some ⟨b, off, none⟩ ∧ b < w.heap.size ∧ w.cell? ⟨b, off + k, none⟩ = some (.int .u8 (f k))
theorem Byts.mono {w w' : World} {a : Option Addr} {n : Nat} {f : Nat → Nat} (h : Byts w a n f) (hb : Below w.heap.size w w') : Byts w' a n f := fun k hk => by
  obtain ⟨h0, b, off, rfl, hl, hc⟩ := h k hk
  exact ⟨h0, b, off, rfl, Nat.lt_of_lt_of_le hl hb.size, (hb.cell (p := ⟨b, off + k, none⟩) hl).trans hc⟩

theorem i64_nat (n : Nat) (h : n < 4294967296) : IntKind.i64.wrap (n : Int) = (n : Int) := by
  simp [IntKind.wrap, IntKind.bits, IntKind.signed]
  omega
theorem i64_xor (s t : Nat) (hs : s < 2 ^ 32) (ht : t < 2 ^ 32) : bits .xor .i64 (s : Int) (t : Int) = ((s ^^^ t : Nat) : Int) := by
  have h1 : s % 2 ^ 64 = s := Nat.mod_eq_of_lt (by omega)
  have h2 : t % 2 ^ 64 = t := Nat.mod_eq_of_lt (by omega)
  have h3 : s ^^^ t < 2 ^ 32 := Nat.xor_lt_two_pow hs ht
  show IntKind.i64.wrap ((BitVec.ofInt 64 (s : Int) ^^^ BitVec.ofInt 64 (t : Int)).toNat : Int) = _
  rw [BitVec.toNat_xor, BitVec.ofInt_natCast, BitVec.ofInt_natCast, BitVec.toNat_ofNat, BitVec.toNat_ofNat, h1, h2]
  exact i64_nat _ (by omega)

/-- The number that l1Take gives. -/
def tk (len : Nat) (f : Nat → Nat) (p n : Nat) : Nat :=
  if len = 0 then 0 else if p < len then f p % n else
    ((f (p % len) * 131 + f ((p * 7 + 3) % len) * 17 + p * 29 + p / len * 53) ^^^ ((f (p % len) * 131 + f ((p * 7 + 3) % len) * 17 + p * 29 + p / len * 53) / 64)) % 9973 % n

set_option maxRecDepth 100000 in
set_option maxHeartbeats 1000000 in
theorem l1Take_any (len : Nat) (f : Nat → Nat) (p n : Nat) (hlen : len ≤ 1048576) (hp : p ≤ 1048576) (hn : 1 ≤ n) (hn2 : n ≤ 1048576) : ∃ v : Nat, v = tk len f p n ∧ v < n ∧ ∀ (w : World) (a : Option Addr) (c : Nat), Byts w a len f →
    Calls Tryd.prog 61 #[.slice a len c, .int .i64 p, .int .i64 n] w fun e w' => e = .returned (.tuple #[.int .i64 v, .int .i64 ((p + 1 : Nat) : Int)]) ∧ w' = w := by
  have hn1 : ¬ (n : Int) < 1 := by omega
  by_cases h0 : len = 0
  · subst h0
    refine ⟨0, by rw [tk, if_pos rfl], by omega, fun w a c _ => ?_⟩
    go_enter Tryd.func61, Tryd.ntmps61
    go_wp2
    exact bodyPost_ret (v := .tuple #[.int .i64 0, .int .i64 ((p : Int) + 1)]) (by simp [results, Tryd.results61, go_sem, *]) rfl ⟨by simp, rfl⟩
  by_cases h1 : p < len
  · refine ⟨f p % n, by rw [tk, if_neg h0, if_pos h1], Nat.mod_lt _ (by omega), fun w a c hb => ?_⟩
    obtain ⟨q, b, off, rfl, hl, hc⟩ := hb p h1
    clear hb
    go_enter Tryd.func61, Tryd.ntmps61
    go_wp2
    exact bodyPost_ret (v := .tuple #[.int .i64 ((f p : Int) % n), .int .i64 ((p : Int) + 1)]) (by simp [results, Tryd.results61, go_sem, *]) rfl ⟨by simp, rfl⟩
  · have m1 : p % len < len := Nat.mod_lt _ (by omega)
    have m2 : (p * 7 + 3) % len < len := Nat.mod_lt _ (by omega)
    obtain ⟨I, hI⟩ : ∃ I, p % len = I := ⟨_, rfl⟩
    obtain ⟨K, hK⟩ : ∃ K, (p * 7 + 3) % len = K := ⟨_, rfl⟩
    rw [hI] at m1; rw [hK] at m2
    have hI' : (p : Int) % len = I := by rw [← hI]; rfl
    have hK' : ((p : Int) * 7 + 3) % len = K := by rw [← hK]; simp
    obtain ⟨A, hA⟩ : ∃ A, f I = A := ⟨_, rfl⟩
    obtain ⟨B, hB⟩ : ∃ B, f K = B := ⟨_, rfl⟩
    obtain ⟨D, hD⟩ : ∃ D, p / len = D := ⟨_, rfl⟩
    obtain ⟨X, hX⟩ : ∃ X, A * 131 + B * 17 + p * 29 + D * 53 = X := ⟨_, rfl⟩
    obtain ⟨Y, hY⟩ : ∃ Y, X ^^^ (X / 64) = Y := ⟨_, rfl⟩
    refine ⟨Y % 9973 % n, by rw [tk, if_neg h0, if_neg h1, hI, hK, hA, hB, hD, hX, hY], Nat.mod_lt _ (by omega), fun w a c hb => ?_⟩
    obtain ⟨q1, b, off, rfl, hl, hc1⟩ := hb _ m1
    obtain ⟨q2, b', off', e, -, hc2⟩ := hb _ m2
    cases e
    clear hb
    rw [hA] at q1 hc1; rw [hB] at q2 hc2
    have hD' : D ≤ 1048576 := by rw [← hD]; exact Nat.le_trans (Nat.div_le_self _ _) hp
    have hX' : X < 2 ^ 32 := by omega
    have hY' : Y < 2 ^ 32 := by rw [← hY]; exact Nat.xor_lt_two_pow hX' (Nat.lt_of_le_of_lt (Nat.div_le_self _ _) hX')
    have hD2 : (p : Int) / len = D := by rw [← hD]; rfl
    have hX2 : (A : Int) * 131 + B * 17 + p * 29 + D * 53 = X := by omega
    have hX3 : bits .xor .i64 (X : Int) ((X : Int) / 64) = Y := by
      rw [← hY, show (X : Int) / 64 = ((X / 64 : Nat) : Int) from rfl]
      exact i64_xor _ _ hX' (Nat.lt_of_le_of_lt (Nat.div_le_self _ _) hX')
    have hX4 : ((Y : Int).tmod 9973).tmod n = (Y % 9973 % n : Nat) := rfl
    clear hI hK hA hB hX hD hY
    go_enter Tryd.func61, Tryd.ntmps61
    go_wp2
    exact bodyPost_ret (v := .tuple #[.int .i64 ((Y : Int) % 9973 % n), .int .i64 ((p : Int) + 1)]) (by simp [results, Tryd.results61, go_sem, *]) rfl ⟨by simp, rfl⟩
end Go.Proofs.YtnmpkdmflijhpaaDoor

/- The number that l1Take gives, by name. -/
namespace Go.Proofs.YtnmpkdmflijhpaaDoor
open Go Go.RowKit

theorem tk_spec {len : Nat} {f : Nat → Nat} {p n : Nat} (h1 : len ≤ 1048576) (h2 : p ≤ 1048576) (h3 : 1 ≤ n) (h4 : n ≤ 1048576) : tk len f p n < n ∧ ∀ (w : World) (a : Option Addr) (c : Nat), Byts w a len f →
    Calls Tryd.prog 61 #[.slice a len c, .int .i64 p, .int .i64 n] w fun e w' => e = .returned (.tuple #[.int .i64 (tk len f p n), .int .i64 ((p + 1 : Nat) : Int)]) ∧ w' = w := by
  obtain ⟨v, e, h⟩ := l1Take_any len f p n h1 h2 h3 h4
  subst e
  exact h

theorem l1Size_any (len per lo hi : Nat) (a : Option Addr) (c : Nat) (w : World) (h1 : len ≤ 1048576) (hp : 1 ≤ per) (hp2 : per ≤ 1000) (hl : lo ≤ 1000) (hh : hi ≤ 1000) :
    Calls Tryd.prog 63 #[.slice a len c, .int .i64 per, .int .i64 lo, .int .i64 hi] w fun e w' => e = .returned (.int .i64 (min (lo + len / per) hi : Nat)) ∧ w' = w := by
  obtain ⟨d, hd⟩ : ∃ d, len / per = d := ⟨_, rfl⟩
  have hd2 : d ≤ 1048576 := by rw [← hd]; exact Nat.le_trans (Nat.div_le_self _ _) h1
  have hd3 : (len : Int) / per = d := by rw [← hd]; rfl
  have hd4 : (len : Int).tdiv per = d := by rw [← hd]; rfl
  have hp0 : ¬ (per : Int) = 0 := by omega
  rw [hd]
  clear hd
  by_cases h : hi < lo + d
  · have h' : (hi : Int) < lo + d := by omega
    rw [Nat.min_eq_right (by omega)]
    go_enter Tryd.func63, Tryd.ntmps63
    go_wp2
    all_goals first | omega | (go_ret; exact ⟨rfl, rfl⟩)
  · have h' : ¬ (hi : Int) < lo + d := by omega
    rw [Nat.min_eq_left (by omega)]
    go_enter Tryd.func63, Tryd.ntmps63
    go_wp2
    all_goals first | omega | (go_ret; exact ⟨by simp, rfl⟩)
end Go.Proofs.YtnmpkdmflijhpaaDoor
