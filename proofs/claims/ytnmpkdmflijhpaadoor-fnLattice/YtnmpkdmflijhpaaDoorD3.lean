import Derived.Test.YtnmpkdmflijhpaaDoorD2
/- The model's drawing of orders: a lattice as it is, less a pair, with a pair more. -/
namespace Go.Proofs.YtnmpkdmflijhpaaDoor
open Go Go.RowKit

theorem dlo_any (len : Nat) (f : Nat → Nat) (p : Nat) (hlen : len ≤ 1048576) (hp : p ≤ 1000) : ∃ (N : Nat) (l : List (Int × Int)) (q : Nat), 1 ≤ N ∧ N ≤ 100 ∧ l.length ≤ 200 ∧ q ≤ p + 11 ∧ ∀ (w : World) (a : Option Addr) (c : Nat), Byts w a len f →
    Calls Tryd.prog 62 #[.slice a len c, .int .i64 p] w fun e w' => OrdOut2 w N l q e w' := by
  by_cases h4 : tk len f p 5 = 4
  · obtain ⟨N, l, h1, h2, h3, h⟩ := dlo_four len f p hlen hp h4
    exact ⟨N, l, p + 11, h1, h2, h3, by omega, h⟩
  · obtain ⟨N, l, h1, h2, h3, h⟩ := dlo_shape len f p hlen hp h4
    exact ⟨N, l, p + 3, h1, h2, h3, by omega, h⟩

set_option maxRecDepth 100000 in
set_option maxHeartbeats 4000000 in
theorem db_low (len : Nat) (f : Nat → Nat) (hlen : len ≤ 1048576) (hk : tk len f 0 10 < 4) : ∃ (N : Int) (l : List (Int × Int)), l.length ≤ 1000 ∧ ∀ (w : World) (a : Option Addr) (c : Nat), Byts w a len f →
    Calls Tryd.prog 26 #[.slice a len c] w fun e w' => OrdOut w N l e w' := by
  obtain ⟨K, hK⟩ : ∃ K, tk len f 0 10 = K := ⟨_, rfl⟩
  rw [hK] at hk
  have HK := hide hK
  clear hK
  have hk' : (K : Int) < 4 := by omega
  obtain ⟨N, l, q, hN1, hN2, hl, hq, cD⟩ := dlo_any len f 1 hlen (by omega)
  refine ⟨N, l, by omega, fun w a c hB => ?_⟩
  have CD := hide cD
  clear cD
  obtain ⟨W, hW⟩ : ∃ W, w.alloc (.cells #[.int .i64 0, .slice none 0 0] 34) = W := ⟨_, rfl⟩
  have hWs : W.heap.size = w.heap.size + 1 := by rw [← hW]; simp
  have bR : Blk W w.heap.size 34 [.int .i64 0, .slice none 0 0] := by rw [← hW]; exact Blk.new w 34 #[.int .i64 0, .slice none 0 0]
  have hb : Below w.heap.size w W := by rw [← hW]; exact (Below.refl _ _).alloc (Nat.le_refl _) _
  have HY := hide (hB.mono hb)
  have HR := hide bR; have HB := hide hb; have HWS := hide hWs
  clear bR hb hB hWs
  go_enter Tryd.func26, Tryd.ntmps26
  go_wp2_with fail
  try rw [hW]
  clear hW
  refine (tk_call (f := f) (p := 0) (n := 10) hlen (by omega) (by omega) (by omega) c (unhide HY) rfl rfl).mono ?_
  rw [unhide HK]
  rintro e w2 ⟨rfl, hw⟩
  rw [hw]
  clear hw w2
  go_wp2_with fail
  refine (unhide CD W a c (unhide HY)).mono ?_
  rintro e w2 ⟨v, rfl, hO, hb2⟩
  have HO2 := hide hO
  have HB2 := hide ((unhide HB).trans (hb2.mono (by have := unhide HWS; omega)))
  have bR := (unhide HR).mono hb2 (unhide HR).lt
  obtain ⟨g, cap, rfl, -⟩ := pairs_of_owns hO
  obtain ⟨r0, r1⟩ : w2.cell? ⟨w.heap.size, 0, none⟩ = some (.int .i64 0) ∧ w2.cell? ⟨w.heap.size, 1, none⟩ = some (.slice none 0 0) := ⟨bR.cell 0, bR.cell 1⟩
  have f0 := bR.free 0; have f1 := bR.free 1
  have hlt := bR.lt
  clear hO hb2 bR
  go_wp2
  refine bodyPost_ret (v := .agg #[.int .i64 N, .slice g l.length cap]) (by simp [results, Tryd.results26, go_sem, *]) rfl ⟨_, rfl, ?_, ?_⟩
  · exact owns_low (World.ownsRow.alloc (owns_set (owns_set (unhide HO2) (unhide HR).lt) (unhide HR).lt) _) (by have := unhide HWS; omega)
  · exact (((unhide HB2).setCell (by simp) _).setCell (by simp) _).alloc (by have := (unhide HB2).size; simp; omega) _
/-- An order that lies in a block of its own, its pairs in a row that is owned. -/
structure Ob (W w : World) (B : Nat) (N : Int) (v : Value) (l : List (Int × Int)) : Prop where
  blk : Blk w B 34 [.int .i64 N, v]
  own : w.ownsRow W.heap.size 93 2 v l.length (pp l)
  ne : v.ownBlock ≠ some B
  low : Below W.heap.size W w
  ge : W.heap.size ≤ B
theorem Ob.new {W w : World} {N : Int} {v : Value} {l : List (Int × Int)} (hO : w.ownsRow W.heap.size 93 2 v l.length (pp l)) (hb : Below W.heap.size W w) : Ob W (w.alloc (.cells #[.int .i64 N, v] 34)) w.heap.size N v l :=
  ⟨Blk.new w 34 #[.int .i64 N, v], hO.alloc _, owns_ne hO, hb.alloc hb.size _, hb.size⟩
theorem Ob.slice {W w : World} {B : Nat} {N : Int} {v : Value} {l : List (Int × Int)} (h : Ob W w B N v l) : ∃ g cap, v = .slice g l.length cap := by
  obtain ⟨g, cap, e, -⟩ := pairs_of_owns h.own
  exact ⟨g, cap, e⟩
theorem Ob.push {W w w3 : World} {B : Nat} {N x y : Int} {v v' : Value} {l : List (Int × Int)} (h : Ob W w B N v l) (ho : w3.ownsRow W.heap.size 93 2 v' (l.length + 1) (pp l ++ [.int .i64 x, .int .i64 y])) (hgr : (w.alloc (.cells #[.int .i64 x, .int .i64 y] 93)).grownBy w3 v.ownBlock) (hat : v'.ownBlock = v.ownBlock ∨ v'.ownBlock = some (w.heap.size + 1)) :
    Blk w3 B 34 [.int .i64 N, v] ∧ (∃ g cap, v' = .slice g (l.length + 1) cap) ∧ Ob W (w3.setCell ⟨B, 1, none⟩ v') B N v' (l ++ [(x, y)]) := by
  have hb := (h.low.alloc h.low.size (.cells #[.int .i64 x, .int .i64 y] 93)).grown hgr (by have := h.low.size; simp; omega) (fun q' e => owns_block h.own e)
  have hO3 := (h.blk.alloc (.cells #[.int .i64 x, .int .i64 y] 93)).grown hgr (fun e => h.ne e.symm)
  have hv : v'.ownBlock ≠ some B := by
    rcases hat with e | e
    · rw [e]; exact h.ne
    · rw [e]; have := h.blk.lt; simp; omega
  have ho' : w3.ownsRow W.heap.size 93 2 v' (l ++ [(x, y)]).length (pp (l ++ [(x, y)])) := by rw [pp_snoc, List.length_append]; exact ho
  refine ⟨hO3, ?_, hO3.set 1 v', owns_set_ne ho' hv, hv, hb.setCell h.ge v', h.ge⟩
  obtain ⟨ga, ca, e, -⟩ := pairs_of_owns ho'
  exact ⟨ga, ca, by rw [e, List.length_append]; rfl⟩
theorem Ob.setN {W w : World} {B : Nat} {N : Int} {v : Value} {l : List (Int × Int)} (h : Ob W w B N v l) (M : Int) : Ob W (w.setCell ⟨B, 0, none⟩ (.int .i64 M)) B M v l :=
  ⟨h.blk.set 0 _, owns_set_ne h.own h.ne, h.ne, h.low.setCell h.ge _, h.ge⟩
theorem Ob.out {W w wr : World} {B : Nat} {N : Int} {v : Value} {l : List (Int × Int)} (h : Ob W wr B N v l) (hR : Blk W w.heap.size 34 [.int .i64 0, .slice none 0 0]) (hW : W.heap.size = w.heap.size + 1) (hb : Below w.heap.size w W) (x y : Value) :
    OrdOut w N l (.returned (.agg #[.int .i64 N, v])) ((wr.setCell ⟨w.heap.size, 0, none⟩ x).setCell ⟨w.heap.size, 1, none⟩ y) :=
  ⟨v, rfl, owns_low (owns_set (owns_set h.own hR.lt) hR.lt) (by omega), ((hb.trans (h.low.mono (by omega))).setCell (by simp) _).setCell (by simp) _⟩

set_option maxRecDepth 100000 in
set_option maxHeartbeats 4000000 in
theorem db_7 (len : Nat) (f : Nat → Nat) (hlen : len ≤ 1048576) (hk : tk len f 0 10 = 7) : ∃ (N : Int) (l : List (Int × Int)), l.length ≤ 1000 ∧ ∀ (w : World) (a : Option Addr) (c : Nat), Byts w a len f →
    Calls Tryd.prog 26 #[.slice a len c] w fun e w' => OrdOut w N l e w' := by
  have HK := hide hk
  clear hk
  obtain ⟨N, l, q, hN1, hN2, hl, hq, cD⟩ := dlo_any len f 1 hlen (by omega)
  have u1 : tk len f q N < N := tk_lt hlen (by omega) (by omega) (by omega)
  have u2 : tk len f (q + 1) N < N := tk_lt hlen (by omega) (by omega) (by omega)
  obtain ⟨x, ex⟩ : ∃ x, tk len f q N = x := ⟨_, rfl⟩
  obtain ⟨y, ey⟩ : ∃ y, tk len f (q + 1) N = y := ⟨_, rfl⟩
  rw [ex] at u1; rw [ey] at u2
  have EX := hide ex; have EY := hide ey
  clear ex ey
  refine ⟨N, l ++ [((x : Int), (y : Int))], by rw [List.length_append]; simp; omega, fun w a c hB => ?_⟩
  have CD := hide cD
  clear cD
  obtain ⟨W, hW⟩ : ∃ W, w.alloc (.cells #[.int .i64 0, .slice none 0 0] 34) = W := ⟨_, rfl⟩
  have hWs : W.heap.size = w.heap.size + 1 := by rw [← hW]; simp
  have bR : Blk W w.heap.size 34 [.int .i64 0, .slice none 0 0] := by rw [← hW]; exact Blk.new w 34 #[.int .i64 0, .slice none 0 0]
  have hb : Below w.heap.size w W := by rw [← hW]; exact (Below.refl _ _).alloc (Nat.le_refl _) _
  have HY := hide (hB.mono hb)
  have HR := hide bR; have HB := hide hb; have HWS := hide hWs
  clear bR hb hB hWs
  go_enter Tryd.func26, Tryd.ntmps26
  go_wp2_with fail
  try rw [hW]
  clear hW
  refine (tk_call (f := f) (p := 0) (n := 10) hlen (by omega) (by omega) (by omega) c (unhide HY) rfl rfl).mono ?_
  rw [unhide HK]
  rintro e w2 ⟨rfl, hw⟩
  rw [hw]
  clear hw w2
  go_wp2_with fail
  refine (unhide CD W a c (unhide HY)).mono ?_
  rintro e w2 ⟨v, rfl, hO, hb2⟩
  have hOb : Ob W (w2.alloc (.cells #[.int .i64 N, v] 34)) w2.heap.size N v l := Ob.new hO hb2
  obtain ⟨g, cap, rfl⟩ := hOb.slice
  clear hO hb2
  obtain ⟨B, hB⟩ : ∃ B, w2.heap.size = B := ⟨_, rfl⟩
  rw [hB] at hOb
  obtain ⟨w3, hw3⟩ : ∃ w3, w2.alloc (.cells #[.int .i64 N, .slice g l.length cap] 34) = w3 := ⟨_, rfl⟩
  rw [hw3] at hOb
  have HOb := hide hOb; have HY3 := hide ((unhide HY).mono hOb.low)
  obtain ⟨o0, o1⟩ : w3.cell? ⟨B, 0, none⟩ = some (.int .i64 N) ∧ w3.cell? ⟨B, 1, none⟩ = some (.slice g l.length cap) := ⟨hOb.blk.cell 0, hOb.blk.cell 1⟩
  have f0 := hOb.blk.free 0; have f1 := hOb.blk.free 1
  clear hOb
  go_wp2_with fail
  try rw [hB]
  try rw [hw3]
  clear hB hw3 w2
  refine (tk_call (f := f) (p := q) (n := N) hlen (by omega) (by omega) (by omega) c (unhide HY3) rfl rfl).mono ?_
  rw [unhide EX]
  rintro e w2 ⟨rfl, hw⟩
  rw [hw]
  clear hw w2
  go_wp2_with fail
  refine (tk_call (f := f) (p := q + 1) (n := N) hlen (by omega) (by omega) (by omega) c (unhide HY3) (by omega) rfl).mono ?_
  rw [unhide EY]
  rintro e w2 ⟨rfl, hw⟩
  rw [hw]
  clear hw w2
  obtain ⟨i0, hi, hz0, hz1, hz2⟩ := info_parts info_pair
  go_wp2_with (at_builtin; refine wpList_append_own_at _ rfl _ _ 32 rfl W.heap.size 93 i0 _ 2 16 Tryd.underlying32 hi hz0 hz1 hz2 rfl (by omega) _ _ _ rfl ((unhide HOb).own.alloc _) ⟨w3.heap.size, 0, none⟩ 1 1 [.int .i64 (x), .int .i64 (y)] rfl rfl (cell_two w3 93 _ _) (by simp [Value.oneCell']) (by unfold maxLen; omega) (by omega) (by have := (unhide HOb).low.size; simp; omega) ?_)
  intro v' w5 ho' hgr' _ hat
  obtain ⟨hO5, ⟨g5, cap5, rfl⟩, hOb5⟩ := (unhide HOb).push ho' hgr' (by simpa using hat)
  have HOb5 := hide hOb5
  obtain ⟨q0, q1⟩ : w5.cell? ⟨B, 0, none⟩ = some (.int .i64 (N)) ∧ w5.cell? ⟨B, 1, none⟩ = some (.slice g (l.length) cap) := ⟨hO5.cell 0, hO5.cell 1⟩
  have qf0 := hO5.free 0; have qf1 := hO5.free 1
  clear hO5 hOb5 ho' hgr' hat
  obtain ⟨w6, hw6⟩ : ∃ w6, w5.setCell ⟨B, 1, none⟩ (.slice g5 (l.length + 1) cap5) = w6 := ⟨_, rfl⟩
  rw [hw6] at HOb5
  have bR := (unhide HR).mono (unhide HOb5).low (unhide HR).lt
  obtain ⟨r0, r1⟩ : w6.cell? ⟨w.heap.size, 0, none⟩ = some (.int .i64 0) ∧ w6.cell? ⟨w.heap.size, 1, none⟩ = some (.slice none 0 0) := ⟨bR.cell 0, bR.cell 1⟩
  have rf0 := bR.free 0; have rf1 := bR.free 1
  obtain ⟨ro0, ro1⟩ : w6.cell? ⟨B, 0, none⟩ = some (.int .i64 (N)) ∧ w6.cell? ⟨B, 1, none⟩ = some (.slice g5 (l.length + 1) cap5) := ⟨(unhide HOb5).blk.cell 0, (unhide HOb5).blk.cell 1⟩
  have rne : ¬ B = w.heap.size := by have := (unhide HOb5).ge; have := unhide HWS; omega
  have rne2 : ¬ w.heap.size = B := fun e => rne e.symm
  clear bR
  go_wp2
  exact bodyPost_ret (v := .agg #[.int .i64 (N), .slice g5 (l.length + 1) cap5]) (by simp [results, Tryd.results26, go_sem, *]) rfl ((unhide HOb5).out (unhide HR) (unhide HWS) (unhide HB) _ _)
end Go.Proofs.YtnmpkdmflijhpaaDoor

/- The model's drawing of orders: spoilt ones. -/
namespace Go.Proofs.YtnmpkdmflijhpaaDoor
open Go Go.RowKit

set_option maxRecDepth 100000 in
set_option maxHeartbeats 4000000 in
theorem db_80 (len : Nat) (f : Nat → Nat) (hlen : len ≤ 1048576) (hk : tk len f 0 10 = 8) (N : Nat) (l : List (Int × Int)) (q : Nat) (hbnd : 1 ≤ N ∧ N ≤ 100 ∧ l.length ≤ 200 ∧ q ≤ 12) (cD : ∀ (w : World) (a : Option Addr) (c : Nat), Byts w a len f → Calls Tryd.prog 62 #[.slice a len c, .int .i64 ((1 : Nat) : Int)] w fun e w' => OrdOut2 w N l q e w') (hx : tk len f q 5 = 0) (w : World) (a : Option Addr) (c : Nat) (hB : Byts w a len f) :
    Calls Tryd.prog 26 #[.slice a len c] w fun e w' => OrdOut w (0) (l) e w' := by
  have HK := hide hk
  clear hk
  obtain ⟨hN1, hN2, hl, hq⟩ := hbnd
  have EX := hide hx
  clear hx
  have CD := hide cD
  clear cD
  obtain ⟨W, hW⟩ : ∃ W, w.alloc (.cells #[.int .i64 0, .slice none 0 0] 34) = W := ⟨_, rfl⟩
  have hWs : W.heap.size = w.heap.size + 1 := by rw [← hW]; simp
  have bR : Blk W w.heap.size 34 [.int .i64 0, .slice none 0 0] := by rw [← hW]; exact Blk.new w 34 #[.int .i64 0, .slice none 0 0]
  have hb : Below w.heap.size w W := by rw [← hW]; exact (Below.refl _ _).alloc (Nat.le_refl _) _
  have HY := hide (hB.mono hb)
  have HR := hide bR; have HB := hide hb; have HWS := hide hWs
  clear bR hb hB hWs
  go_enter Tryd.func26, Tryd.ntmps26
  go_wp2_with fail
  try rw [hW]
  clear hW
  refine (tk_call (f := f) (p := 0) (n := 10) hlen (by omega) (by omega) (by omega) c (unhide HY) rfl rfl).mono ?_
  rw [unhide HK]
  rintro e w2 ⟨rfl, hw⟩
  rw [hw]
  clear hw w2
  go_wp2_with fail
  refine (unhide CD W a c (unhide HY)).mono ?_
  rintro e w2 ⟨v, rfl, hO, hb2⟩
  have hOb : Ob W (w2.alloc (.cells #[.int .i64 N, v] 34)) w2.heap.size N v l := Ob.new hO hb2
  obtain ⟨g, cap, rfl⟩ := hOb.slice
  clear hO hb2
  obtain ⟨B, hB⟩ : ∃ B, w2.heap.size = B := ⟨_, rfl⟩
  rw [hB] at hOb
  obtain ⟨w3, hw3⟩ : ∃ w3, w2.alloc (.cells #[.int .i64 N, .slice g l.length cap] 34) = w3 := ⟨_, rfl⟩
  rw [hw3] at hOb
  have HOb := hide hOb; have HY3 := hide ((unhide HY).mono hOb.low)
  obtain ⟨o0, o1⟩ : w3.cell? ⟨B, 0, none⟩ = some (.int .i64 N) ∧ w3.cell? ⟨B, 1, none⟩ = some (.slice g l.length cap) := ⟨hOb.blk.cell 0, hOb.blk.cell 1⟩
  have f0 := hOb.blk.free 0; have f1 := hOb.blk.free 1
  clear hOb
  go_wp2_with fail
  try rw [hB]
  try rw [hw3]
  clear hB hw3 w2
  refine (tk_call (f := f) (p := q) (n := 5) hlen (by omega) (by omega) (by omega) c (unhide HY3) rfl rfl).mono ?_
  rw [unhide EX]
  rintro e w2 ⟨rfl, hw⟩
  rw [hw]
  clear hw w2
  have HOb5 := hide ((unhide HOb).setN 0)
  obtain ⟨w6, hw6⟩ : ∃ w6, w3.setCell ⟨B, 0, none⟩ (.int .i64 0) = w6 := ⟨_, rfl⟩
  rw [hw6] at HOb5
  have bR := (unhide HR).mono (unhide HOb5).low (unhide HR).lt
  obtain ⟨r0, r1⟩ : w6.cell? ⟨w.heap.size, 0, none⟩ = some (.int .i64 0) ∧ w6.cell? ⟨w.heap.size, 1, none⟩ = some (.slice none 0 0) := ⟨bR.cell 0, bR.cell 1⟩
  have rf0 := bR.free 0; have rf1 := bR.free 1
  obtain ⟨ro0, ro1⟩ : w6.cell? ⟨B, 0, none⟩ = some (.int .i64 (0)) ∧ w6.cell? ⟨B, 1, none⟩ = some (.slice g (l.length) cap) := ⟨(unhide HOb5).blk.cell 0, (unhide HOb5).blk.cell 1⟩
  have rne : ¬ B = w.heap.size := by have := (unhide HOb5).ge; have := unhide HWS; omega
  have rne2 : ¬ w.heap.size = B := fun e => rne e.symm
  clear bR
  go_wp2
  exact bodyPost_ret (v := .agg #[.int .i64 (0), .slice g (l.length) cap]) (by simp [results, Tryd.results26, go_sem, *]) rfl ((unhide HOb5).out (unhide HR) (unhide HWS) (unhide HB) _ _)
set_option maxRecDepth 100000 in
set_option maxHeartbeats 4000000 in
theorem db_81 (len : Nat) (f : Nat → Nat) (hlen : len ≤ 1048576) (hk : tk len f 0 10 = 8) (N : Nat) (l : List (Int × Int)) (q : Nat) (hbnd : 1 ≤ N ∧ N ≤ 100 ∧ l.length ≤ 200 ∧ q ≤ 12) (cD : ∀ (w : World) (a : Option Addr) (c : Nat), Byts w a len f → Calls Tryd.prog 62 #[.slice a len c, .int .i64 ((1 : Nat) : Int)] w fun e w' => OrdOut2 w N l q e w') (hx : tk len f q 5 = 1) (w : World) (a : Option Addr) (c : Nat) (hB : Byts w a len f) :
    Calls Tryd.prog 26 #[.slice a len c] w fun e w' => OrdOut w (-(N : Int)) (l) e w' := by
  have HK := hide hk
  clear hk
  obtain ⟨hN1, hN2, hl, hq⟩ := hbnd
  have EX := hide hx
  clear hx
  have CD := hide cD
  clear cD
  obtain ⟨W, hW⟩ : ∃ W, w.alloc (.cells #[.int .i64 0, .slice none 0 0] 34) = W := ⟨_, rfl⟩
  have hWs : W.heap.size = w.heap.size + 1 := by rw [← hW]; simp
  have bR : Blk W w.heap.size 34 [.int .i64 0, .slice none 0 0] := by rw [← hW]; exact Blk.new w 34 #[.int .i64 0, .slice none 0 0]
  have hb : Below w.heap.size w W := by rw [← hW]; exact (Below.refl _ _).alloc (Nat.le_refl _) _
  have HY := hide (hB.mono hb)
  have HR := hide bR; have HB := hide hb; have HWS := hide hWs
  clear bR hb hB hWs
  go_enter Tryd.func26, Tryd.ntmps26
  go_wp2_with fail
  try rw [hW]
  clear hW
  refine (tk_call (f := f) (p := 0) (n := 10) hlen (by omega) (by omega) (by omega) c (unhide HY) rfl rfl).mono ?_
  rw [unhide HK]
  rintro e w2 ⟨rfl, hw⟩
  rw [hw]
  clear hw w2
  go_wp2_with fail
  refine (unhide CD W a c (unhide HY)).mono ?_
  rintro e w2 ⟨v, rfl, hO, hb2⟩
  have hOb : Ob W (w2.alloc (.cells #[.int .i64 N, v] 34)) w2.heap.size N v l := Ob.new hO hb2
  obtain ⟨g, cap, rfl⟩ := hOb.slice
  clear hO hb2
  obtain ⟨B, hB⟩ : ∃ B, w2.heap.size = B := ⟨_, rfl⟩
  rw [hB] at hOb
  obtain ⟨w3, hw3⟩ : ∃ w3, w2.alloc (.cells #[.int .i64 N, .slice g l.length cap] 34) = w3 := ⟨_, rfl⟩
  rw [hw3] at hOb
  have HOb := hide hOb; have HY3 := hide ((unhide HY).mono hOb.low)
  obtain ⟨o0, o1⟩ : w3.cell? ⟨B, 0, none⟩ = some (.int .i64 N) ∧ w3.cell? ⟨B, 1, none⟩ = some (.slice g l.length cap) := ⟨hOb.blk.cell 0, hOb.blk.cell 1⟩
  have f0 := hOb.blk.free 0; have f1 := hOb.blk.free 1
  clear hOb
  go_wp2_with fail
  try rw [hB]
  try rw [hw3]
  clear hB hw3 w2
  refine (tk_call (f := f) (p := q) (n := 5) hlen (by omega) (by omega) (by omega) c (unhide HY3) rfl rfl).mono ?_
  rw [unhide EX]
  rintro e w2 ⟨rfl, hw⟩
  rw [hw]
  clear hw w2
  have HOb5 := hide ((unhide HOb).setN (-(N : Int)))
  obtain ⟨w6, hw6⟩ : ∃ w6, w3.setCell ⟨B, 0, none⟩ (.int .i64 (-(N : Int))) = w6 := ⟨_, rfl⟩
  rw [hw6] at HOb5
  have bR := (unhide HR).mono (unhide HOb5).low (unhide HR).lt
  obtain ⟨r0, r1⟩ : w6.cell? ⟨w.heap.size, 0, none⟩ = some (.int .i64 0) ∧ w6.cell? ⟨w.heap.size, 1, none⟩ = some (.slice none 0 0) := ⟨bR.cell 0, bR.cell 1⟩
  have rf0 := bR.free 0; have rf1 := bR.free 1
  obtain ⟨ro0, ro1⟩ : w6.cell? ⟨B, 0, none⟩ = some (.int .i64 (-(N : Int))) ∧ w6.cell? ⟨B, 1, none⟩ = some (.slice g (l.length) cap) := ⟨(unhide HOb5).blk.cell 0, (unhide HOb5).blk.cell 1⟩
  have rne : ¬ B = w.heap.size := by have := (unhide HOb5).ge; have := unhide HWS; omega
  have rne2 : ¬ w.heap.size = B := fun e => rne e.symm
  clear bR
  go_wp2
  exact bodyPost_ret (v := .agg #[.int .i64 (-(N : Int)), .slice g (l.length) cap]) (by simp [results, Tryd.results26, go_sem, *]) rfl ((unhide HOb5).out (unhide HR) (unhide HWS) (unhide HB) _ _)
set_option maxRecDepth 100000 in
set_option maxHeartbeats 4000000 in
theorem db_82 (len : Nat) (f : Nat → Nat) (hlen : len ≤ 1048576) (hk : tk len f 0 10 = 8) (N : Nat) (l : List (Int × Int)) (q : Nat) (hbnd : 1 ≤ N ∧ N ≤ 100 ∧ l.length ≤ 200 ∧ q ≤ 12) (cD : ∀ (w : World) (a : Option Addr) (c : Nat), Byts w a len f → Calls Tryd.prog 62 #[.slice a len c, .int .i64 ((1 : Nat) : Int)] w fun e w' => OrdOut2 w N l q e w') (hx : tk len f q 5 = 2) (w : World) (a : Option Addr) (c : Nat) (hB : Byts w a len f) :
    Calls Tryd.prog 26 #[.slice a len c] w fun e w' => OrdOut w (N) (l ++ [((0 : Int), (N : Int))]) e w' := by
  have HK := hide hk
  clear hk
  obtain ⟨hN1, hN2, hl, hq⟩ := hbnd
  have EX := hide hx
  clear hx
  have CD := hide cD
  clear cD
  obtain ⟨W, hW⟩ : ∃ W, w.alloc (.cells #[.int .i64 0, .slice none 0 0] 34) = W := ⟨_, rfl⟩
  have hWs : W.heap.size = w.heap.size + 1 := by rw [← hW]; simp
  have bR : Blk W w.heap.size 34 [.int .i64 0, .slice none 0 0] := by rw [← hW]; exact Blk.new w 34 #[.int .i64 0, .slice none 0 0]
  have hb : Below w.heap.size w W := by rw [← hW]; exact (Below.refl _ _).alloc (Nat.le_refl _) _
  have HY := hide (hB.mono hb)
  have HR := hide bR; have HB := hide hb; have HWS := hide hWs
  clear bR hb hB hWs
  go_enter Tryd.func26, Tryd.ntmps26
  go_wp2_with fail
  try rw [hW]
  clear hW
  refine (tk_call (f := f) (p := 0) (n := 10) hlen (by omega) (by omega) (by omega) c (unhide HY) rfl rfl).mono ?_
  rw [unhide HK]
  rintro e w2 ⟨rfl, hw⟩
  rw [hw]
  clear hw w2
  go_wp2_with fail
  refine (unhide CD W a c (unhide HY)).mono ?_
  rintro e w2 ⟨v, rfl, hO, hb2⟩
  have hOb : Ob W (w2.alloc (.cells #[.int .i64 N, v] 34)) w2.heap.size N v l := Ob.new hO hb2
  obtain ⟨g, cap, rfl⟩ := hOb.slice
  clear hO hb2
  obtain ⟨B, hB⟩ : ∃ B, w2.heap.size = B := ⟨_, rfl⟩
  rw [hB] at hOb
  obtain ⟨w3, hw3⟩ : ∃ w3, w2.alloc (.cells #[.int .i64 N, .slice g l.length cap] 34) = w3 := ⟨_, rfl⟩
  rw [hw3] at hOb
  have HOb := hide hOb; have HY3 := hide ((unhide HY).mono hOb.low)
  obtain ⟨o0, o1⟩ : w3.cell? ⟨B, 0, none⟩ = some (.int .i64 N) ∧ w3.cell? ⟨B, 1, none⟩ = some (.slice g l.length cap) := ⟨hOb.blk.cell 0, hOb.blk.cell 1⟩
  have f0 := hOb.blk.free 0; have f1 := hOb.blk.free 1
  clear hOb
  go_wp2_with fail
  try rw [hB]
  try rw [hw3]
  clear hB hw3 w2
  refine (tk_call (f := f) (p := q) (n := 5) hlen (by omega) (by omega) (by omega) c (unhide HY3) rfl rfl).mono ?_
  rw [unhide EX]
  rintro e w2 ⟨rfl, hw⟩
  rw [hw]
  clear hw w2
  obtain ⟨i0, hi, hz0, hz1, hz2⟩ := info_parts info_pair
  go_wp2_with (at_builtin; refine wpList_append_own_at _ rfl _ _ 32 rfl W.heap.size 93 i0 _ 2 16 Tryd.underlying32 hi hz0 hz1 hz2 rfl (by omega) _ _ _ rfl ((unhide HOb).own.alloc _) ⟨w3.heap.size, 0, none⟩ 1 1 [.int .i64 (0), .int .i64 (N)] rfl rfl (cell_two w3 93 _ _) (by simp [Value.oneCell']) (by unfold maxLen; omega) (by omega) (by have := (unhide HOb).low.size; simp; omega) ?_)
  intro v' w5 ho' hgr' _ hat
  obtain ⟨hO5, ⟨g5, cap5, rfl⟩, hOb5⟩ := (unhide HOb).push ho' hgr' (by simpa using hat)
  have HOb5 := hide hOb5
  obtain ⟨q0, q1⟩ : w5.cell? ⟨B, 0, none⟩ = some (.int .i64 (N)) ∧ w5.cell? ⟨B, 1, none⟩ = some (.slice g (l.length) cap) := ⟨hO5.cell 0, hO5.cell 1⟩
  have qf0 := hO5.free 0; have qf1 := hO5.free 1
  clear hO5 hOb5 ho' hgr' hat
  obtain ⟨w6, hw6⟩ : ∃ w6, w5.setCell ⟨B, 1, none⟩ (.slice g5 (l.length + 1) cap5) = w6 := ⟨_, rfl⟩
  rw [hw6] at HOb5
  have bR := (unhide HR).mono (unhide HOb5).low (unhide HR).lt
  obtain ⟨r0, r1⟩ : w6.cell? ⟨w.heap.size, 0, none⟩ = some (.int .i64 0) ∧ w6.cell? ⟨w.heap.size, 1, none⟩ = some (.slice none 0 0) := ⟨bR.cell 0, bR.cell 1⟩
  have rf0 := bR.free 0; have rf1 := bR.free 1
  obtain ⟨ro0, ro1⟩ : w6.cell? ⟨B, 0, none⟩ = some (.int .i64 (N)) ∧ w6.cell? ⟨B, 1, none⟩ = some (.slice g5 (l.length + 1) cap5) := ⟨(unhide HOb5).blk.cell 0, (unhide HOb5).blk.cell 1⟩
  have rne : ¬ B = w.heap.size := by have := (unhide HOb5).ge; have := unhide HWS; omega
  have rne2 : ¬ w.heap.size = B := fun e => rne e.symm
  clear bR
  go_wp2
  exact bodyPost_ret (v := .agg #[.int .i64 (N), .slice g5 (l.length + 1) cap5]) (by simp [results, Tryd.results26, go_sem, *]) rfl ((unhide HOb5).out (unhide HR) (unhide HWS) (unhide HB) _ _)
set_option maxRecDepth 100000 in
set_option maxHeartbeats 4000000 in
theorem db_83 (len : Nat) (f : Nat → Nat) (hlen : len ≤ 1048576) (hk : tk len f 0 10 = 8) (N : Nat) (l : List (Int × Int)) (q : Nat) (hbnd : 1 ≤ N ∧ N ≤ 100 ∧ l.length ≤ 200 ∧ q ≤ 12) (cD : ∀ (w : World) (a : Option Addr) (c : Nat), Byts w a len f → Calls Tryd.prog 62 #[.slice a len c, .int .i64 ((1 : Nat) : Int)] w fun e w' => OrdOut2 w N l q e w') (hx : tk len f q 5 = 3) (w : World) (a : Option Addr) (c : Nat) (hB : Byts w a len f) :
    Calls Tryd.prog 26 #[.slice a len c] w fun e w' => OrdOut w (N) (l ++ [((-1 : Int), (0 : Int))]) e w' := by
  have HK := hide hk
  clear hk
  obtain ⟨hN1, hN2, hl, hq⟩ := hbnd
  have EX := hide hx
  clear hx
  have CD := hide cD
  clear cD
  obtain ⟨W, hW⟩ : ∃ W, w.alloc (.cells #[.int .i64 0, .slice none 0 0] 34) = W := ⟨_, rfl⟩
  have hWs : W.heap.size = w.heap.size + 1 := by rw [← hW]; simp
  have bR : Blk W w.heap.size 34 [.int .i64 0, .slice none 0 0] := by rw [← hW]; exact Blk.new w 34 #[.int .i64 0, .slice none 0 0]
  have hb : Below w.heap.size w W := by rw [← hW]; exact (Below.refl _ _).alloc (Nat.le_refl _) _
  have HY := hide (hB.mono hb)
  have HR := hide bR; have HB := hide hb; have HWS := hide hWs
  clear bR hb hB hWs
  go_enter Tryd.func26, Tryd.ntmps26
  go_wp2_with fail
  try rw [hW]
  clear hW
  refine (tk_call (f := f) (p := 0) (n := 10) hlen (by omega) (by omega) (by omega) c (unhide HY) rfl rfl).mono ?_
  rw [unhide HK]
  rintro e w2 ⟨rfl, hw⟩
  rw [hw]
  clear hw w2
  go_wp2_with fail
  refine (unhide CD W a c (unhide HY)).mono ?_
  rintro e w2 ⟨v, rfl, hO, hb2⟩
  have hOb : Ob W (w2.alloc (.cells #[.int .i64 N, v] 34)) w2.heap.size N v l := Ob.new hO hb2
  obtain ⟨g, cap, rfl⟩ := hOb.slice
  clear hO hb2
  obtain ⟨B, hB⟩ : ∃ B, w2.heap.size = B := ⟨_, rfl⟩
  rw [hB] at hOb
  obtain ⟨w3, hw3⟩ : ∃ w3, w2.alloc (.cells #[.int .i64 N, .slice g l.length cap] 34) = w3 := ⟨_, rfl⟩
  rw [hw3] at hOb
  have HOb := hide hOb; have HY3 := hide ((unhide HY).mono hOb.low)
  obtain ⟨o0, o1⟩ : w3.cell? ⟨B, 0, none⟩ = some (.int .i64 N) ∧ w3.cell? ⟨B, 1, none⟩ = some (.slice g l.length cap) := ⟨hOb.blk.cell 0, hOb.blk.cell 1⟩
  have f0 := hOb.blk.free 0; have f1 := hOb.blk.free 1
  clear hOb
  go_wp2_with fail
  try rw [hB]
  try rw [hw3]
  clear hB hw3 w2
  refine (tk_call (f := f) (p := q) (n := 5) hlen (by omega) (by omega) (by omega) c (unhide HY3) rfl rfl).mono ?_
  rw [unhide EX]
  rintro e w2 ⟨rfl, hw⟩
  rw [hw]
  clear hw w2
  obtain ⟨i0, hi, hz0, hz1, hz2⟩ := info_parts info_pair
  go_wp2_with (at_builtin; refine wpList_append_own_at _ rfl _ _ 32 rfl W.heap.size 93 i0 _ 2 16 Tryd.underlying32 hi hz0 hz1 hz2 rfl (by omega) _ _ _ rfl ((unhide HOb).own.alloc _) ⟨w3.heap.size, 0, none⟩ 1 1 [.int .i64 (-1), .int .i64 (0)] rfl rfl (cell_two w3 93 _ _) (by simp [Value.oneCell']) (by unfold maxLen; omega) (by omega) (by have := (unhide HOb).low.size; simp; omega) ?_)
  intro v' w5 ho' hgr' _ hat
  obtain ⟨hO5, ⟨g5, cap5, rfl⟩, hOb5⟩ := (unhide HOb).push ho' hgr' (by simpa using hat)
  have HOb5 := hide hOb5
  obtain ⟨q0, q1⟩ : w5.cell? ⟨B, 0, none⟩ = some (.int .i64 (N)) ∧ w5.cell? ⟨B, 1, none⟩ = some (.slice g (l.length) cap) := ⟨hO5.cell 0, hO5.cell 1⟩
  have qf0 := hO5.free 0; have qf1 := hO5.free 1
  clear hO5 hOb5 ho' hgr' hat
  obtain ⟨w6, hw6⟩ : ∃ w6, w5.setCell ⟨B, 1, none⟩ (.slice g5 (l.length + 1) cap5) = w6 := ⟨_, rfl⟩
  rw [hw6] at HOb5
  have bR := (unhide HR).mono (unhide HOb5).low (unhide HR).lt
  obtain ⟨r0, r1⟩ : w6.cell? ⟨w.heap.size, 0, none⟩ = some (.int .i64 0) ∧ w6.cell? ⟨w.heap.size, 1, none⟩ = some (.slice none 0 0) := ⟨bR.cell 0, bR.cell 1⟩
  have rf0 := bR.free 0; have rf1 := bR.free 1
  obtain ⟨ro0, ro1⟩ : w6.cell? ⟨B, 0, none⟩ = some (.int .i64 (N)) ∧ w6.cell? ⟨B, 1, none⟩ = some (.slice g5 (l.length + 1) cap5) := ⟨(unhide HOb5).blk.cell 0, (unhide HOb5).blk.cell 1⟩
  have rne : ¬ B = w.heap.size := by have := (unhide HOb5).ge; have := unhide HWS; omega
  have rne2 : ¬ w.heap.size = B := fun e => rne e.symm
  clear bR
  go_wp2
  exact bodyPost_ret (v := .agg #[.int .i64 (N), .slice g5 (l.length + 1) cap5]) (by simp [results, Tryd.results26, go_sem, *]) rfl ((unhide HOb5).out (unhide HR) (unhide HWS) (unhide HB) _ _)
set_option maxRecDepth 100000 in
set_option maxHeartbeats 4000000 in
theorem db_84 (len : Nat) (f : Nat → Nat) (hlen : len ≤ 1048576) (hk : tk len f 0 10 = 8) (N : Nat) (l : List (Int × Int)) (q : Nat) (hbnd : 1 ≤ N ∧ N ≤ 100 ∧ l.length ≤ 200 ∧ q ≤ 12) (cD : ∀ (w : World) (a : Option Addr) (c : Nat), Byts w a len f → Calls Tryd.prog 62 #[.slice a len c, .int .i64 ((1 : Nat) : Int)] w fun e w' => OrdOut2 w N l q e w') (hx : tk len f q 5 = 4) (w : World) (a : Option Addr) (c : Nat) (hB : Byts w a len f) :
    Calls Tryd.prog 26 #[.slice a len c] w fun e w' => OrdOut w (3) ([(0, 2), (1, 2)]) e w' := by
  have HK := hide hk
  clear hk
  obtain ⟨hN1, hN2, hl, hq⟩ := hbnd
  have EX := hide hx
  clear hx
  have CD := hide cD
  clear cD
  obtain ⟨W, hW⟩ : ∃ W, w.alloc (.cells #[.int .i64 0, .slice none 0 0] 34) = W := ⟨_, rfl⟩
  have hWs : W.heap.size = w.heap.size + 1 := by rw [← hW]; simp
  have bR : Blk W w.heap.size 34 [.int .i64 0, .slice none 0 0] := by rw [← hW]; exact Blk.new w 34 #[.int .i64 0, .slice none 0 0]
  have hb : Below w.heap.size w W := by rw [← hW]; exact (Below.refl _ _).alloc (Nat.le_refl _) _
  have HY := hide (hB.mono hb)
  have HR := hide bR; have HB := hide hb; have HWS := hide hWs
  clear bR hb hB hWs
  go_enter Tryd.func26, Tryd.ntmps26
  go_wp2_with fail
  try rw [hW]
  clear hW
  refine (tk_call (f := f) (p := 0) (n := 10) hlen (by omega) (by omega) (by omega) c (unhide HY) rfl rfl).mono ?_
  rw [unhide HK]
  rintro e w2 ⟨rfl, hw⟩
  rw [hw]
  clear hw w2
  go_wp2_with fail
  refine (unhide CD W a c (unhide HY)).mono ?_
  rintro e w2 ⟨v, rfl, hO, hb2⟩
  have hOb : Ob W (w2.alloc (.cells #[.int .i64 N, v] 34)) w2.heap.size N v l := Ob.new hO hb2
  obtain ⟨g, cap, rfl⟩ := hOb.slice
  clear hO hb2
  obtain ⟨B, hB⟩ : ∃ B, w2.heap.size = B := ⟨_, rfl⟩
  rw [hB] at hOb
  obtain ⟨w3, hw3⟩ : ∃ w3, w2.alloc (.cells #[.int .i64 N, .slice g l.length cap] 34) = w3 := ⟨_, rfl⟩
  rw [hw3] at hOb
  have HOb := hide hOb; have HY3 := hide ((unhide HY).mono hOb.low)
  obtain ⟨o0, o1⟩ : w3.cell? ⟨B, 0, none⟩ = some (.int .i64 N) ∧ w3.cell? ⟨B, 1, none⟩ = some (.slice g l.length cap) := ⟨hOb.blk.cell 0, hOb.blk.cell 1⟩
  have f0 := hOb.blk.free 0; have f1 := hOb.blk.free 1
  clear hOb
  go_wp2_with fail
  try rw [hB]
  try rw [hw3]
  clear hB hw3 w2
  refine (tk_call (f := f) (p := q) (n := 5) hlen (by omega) (by omega) (by omega) c (unhide HY3) rfl rfl).mono ?_
  rw [unhide EX]
  rintro e w2 ⟨rfl, hw⟩
  rw [hw]
  clear hw w2
  have bR := (unhide HR).mono (unhide HOb).low (unhide HR).lt
  obtain ⟨r0, r1⟩ : w3.cell? ⟨w.heap.size, 0, none⟩ = some (.int .i64 0) ∧ w3.cell? ⟨w.heap.size, 1, none⟩ = some (.slice none 0 0) := ⟨bR.cell 0, bR.cell 1⟩
  have rf0 := bR.free 0; have rf1 := bR.free 1
  have hlt := bR.lt
  have hge := (unhide HOb).low.size
  clear bR
  go_wp2
  refine bodyPost_ret (v := .agg #[.int .i64 3, .slice (some ⟨w3.heap.size, 0, none⟩) 2 2]) (by simp [results, Tryd.results26, go_sem, *]) rfl ⟨_, rfl, ?_, ?_⟩
  · refine ⟨rfl, .inr ⟨w3.heap.size, 2, #[.int .i64 0, .int .i64 2, .int .i64 1, .int .i64 2], rfl, by have := unhide HWS; omega, ?_, by simp, by unfold maxLen; omega, rfl, rfl⟩⟩
    simpa using heap_alloc_new ((w3.setCell ⟨w.heap.size, 0, none⟩ (.int .i64 3)).setCell ⟨w.heap.size, 1, none⟩ (.slice (some ⟨w3.heap.size, 0, none⟩) 2 2)) (.cells #[.int .i64 0, .int .i64 2, .int .i64 1, .int .i64 2] 93)
  · exact ((((unhide HB).trans ((unhide HOb).low.mono (by have := unhide HWS; omega))).setCell (by simp) _).setCell (by simp) _).alloc (by simp; omega) _
theorem db_8 (len : Nat) (f : Nat → Nat) (hlen : len ≤ 1048576) (hk : tk len f 0 10 = 8) : ∃ (N : Int) (l : List (Int × Int)), l.length ≤ 1000 ∧ ∀ (w : World) (a : Option Addr) (c : Nat), Byts w a len f →
    Calls Tryd.prog 26 #[.slice a len c] w fun e w' => OrdOut w N l e w' := by
  obtain ⟨N, l, q, hN1, hN2, hl, hq, cD⟩ := dlo_any len f 1 hlen (by omega)
  have u1 : tk len f q 5 < 5 := tk_lt hlen (by omega) (by omega) (by omega)
  obtain h | h | h | h | h : tk len f q 5 = 0 ∨ tk len f q 5 = 1 ∨ tk len f q 5 = 2 ∨ tk len f q 5 = 3 ∨ tk len f q 5 = 4 := by omega
  · exact ⟨_, _, by omega, db_80 len f hlen hk N l q (by omega) cD h⟩
  · exact ⟨_, _, by omega, db_81 len f hlen hk N l q (by omega) cD h⟩
  · exact ⟨_, _, by rw [List.length_append]; simp; omega, db_82 len f hlen hk N l q (by omega) cD h⟩
  · exact ⟨_, _, by rw [List.length_append]; simp; omega, db_83 len f hlen hk N l q (by omega) cD h⟩
  · exact ⟨_, _, by simp, db_84 len f hlen hk N l q (by omega) cD h⟩
end Go.Proofs.YtnmpkdmflijhpaaDoor

/- The model's drawing of orders: limits, any pairs. -/
namespace Go.Proofs.YtnmpkdmflijhpaaDoor
open Go Go.RowKit

set_option maxRecDepth 100000 in
set_option maxHeartbeats 4000000 in
theorem db_90 (len : Nat) (f : Nat → Nat) (hlen : len ≤ 1048576) (hk : tk len f 0 10 = 9) (hx : tk len f 1 4 = 0) (w : World) (a : Option Addr) (c : Nat) (hB : Byts w a len f) :
    Calls Tryd.prog 26 #[.slice a len c] w fun e w' => OrdOut w 32 (chainL (32 - 1)) e w' := by
  have HK := hide hk
  have EX := hide hx
  clear hk hx
  obtain ⟨W, hW⟩ : ∃ W, w.alloc (.cells #[.int .i64 0, .slice none 0 0] 34) = W := ⟨_, rfl⟩
  have hWs : W.heap.size = w.heap.size + 1 := by rw [← hW]; simp
  have bR : Blk W w.heap.size 34 [.int .i64 0, .slice none 0 0] := by rw [← hW]; exact Blk.new w 34 #[.int .i64 0, .slice none 0 0]
  have hb : Below w.heap.size w W := by rw [← hW]; exact (Below.refl _ _).alloc (Nat.le_refl _) _
  have HY := hide (hB.mono hb)
  have HR := hide bR; have HB := hide hb; have HWS := hide hWs
  clear bR hb hB hWs
  go_enter Tryd.func26, Tryd.ntmps26
  go_wp2_with fail
  try rw [hW]
  clear hW
  refine (tk_call (f := f) (p := 0) (n := 10) hlen (by omega) (by omega) (by omega) c (unhide HY) rfl rfl).mono ?_
  rw [unhide HK]
  rintro e w2 ⟨rfl, hw⟩
  rw [hw]
  clear hw w2
  go_wp2_with fail
  refine (tk_call (f := f) (p := 1) (n := 4) hlen (by omega) (by omega) (by omega) c (unhide HY) rfl rfl).mono ?_
  rw [unhide EX]
  rintro e w2 ⟨rfl, hw⟩
  rw [hw]
  clear hw w2
  go_wp2_with fail
  refine (l1Shape_chain 32 W (by omega) (by omega)).mono ?_
  rintro e w2 ⟨v, rfl, hO, hb2⟩
  have HO2 := hide hO
  have HB2 := hide ((unhide HB).trans (hb2.mono (by have := unhide HWS; omega)))
  have bR := (unhide HR).mono hb2 (unhide HR).lt
  obtain ⟨L, hL⟩ : ∃ L, chainL (32 - 1) = L := ⟨_, rfl⟩
  rw [hL] at hO HO2
  obtain ⟨g, cap, rfl, -⟩ := pairs_of_owns hO
  obtain ⟨r0, r1⟩ : w2.cell? ⟨w.heap.size, 0, none⟩ = some (.int .i64 0) ∧ w2.cell? ⟨w.heap.size, 1, none⟩ = some (.slice none 0 0) := ⟨bR.cell 0, bR.cell 1⟩
  have f0 := bR.free 0; have f1 := bR.free 1
  clear hO hb2 bR
  go_wp2
  refine bodyPost_ret (v := .agg #[.int .i64 32, .slice g L.length cap]) (by simp [results, Tryd.results26, go_sem, *]) rfl ⟨_, rfl, ?_, ?_⟩
  · rw [hL]; exact owns_low (owns_set (owns_set (unhide HO2) (unhide HR).lt) (unhide HR).lt) (by have := unhide HWS; omega)
  · exact ((unhide HB2).setCell (by simp) _).setCell (by simp) _
set_option maxRecDepth 100000 in
set_option maxHeartbeats 4000000 in
theorem db_91 (len : Nat) (f : Nat → Nat) (hlen : len ≤ 1048576) (hk : tk len f 0 10 = 9) (hx : tk len f 1 4 = 1) (w : World) (a : Option Addr) (c : Nat) (hB : Byts w a len f) :
    Calls Tryd.prog 26 #[.slice a len c] w fun e w' => OrdOut w 33 (chainL (33 - 1)) e w' := by
  have HK := hide hk
  have EX := hide hx
  clear hk hx
  obtain ⟨W, hW⟩ : ∃ W, w.alloc (.cells #[.int .i64 0, .slice none 0 0] 34) = W := ⟨_, rfl⟩
  have hWs : W.heap.size = w.heap.size + 1 := by rw [← hW]; simp
  have bR : Blk W w.heap.size 34 [.int .i64 0, .slice none 0 0] := by rw [← hW]; exact Blk.new w 34 #[.int .i64 0, .slice none 0 0]
  have hb : Below w.heap.size w W := by rw [← hW]; exact (Below.refl _ _).alloc (Nat.le_refl _) _
  have HY := hide (hB.mono hb)
  have HR := hide bR; have HB := hide hb; have HWS := hide hWs
  clear bR hb hB hWs
  go_enter Tryd.func26, Tryd.ntmps26
  go_wp2_with fail
  try rw [hW]
  clear hW
  refine (tk_call (f := f) (p := 0) (n := 10) hlen (by omega) (by omega) (by omega) c (unhide HY) rfl rfl).mono ?_
  rw [unhide HK]
  rintro e w2 ⟨rfl, hw⟩
  rw [hw]
  clear hw w2
  go_wp2_with fail
  refine (tk_call (f := f) (p := 1) (n := 4) hlen (by omega) (by omega) (by omega) c (unhide HY) rfl rfl).mono ?_
  rw [unhide EX]
  rintro e w2 ⟨rfl, hw⟩
  rw [hw]
  clear hw w2
  go_wp2_with fail
  refine (l1Shape_chain 33 W (by omega) (by omega)).mono ?_
  rintro e w2 ⟨v, rfl, hO, hb2⟩
  have HO2 := hide hO
  have HB2 := hide ((unhide HB).trans (hb2.mono (by have := unhide HWS; omega)))
  have bR := (unhide HR).mono hb2 (unhide HR).lt
  obtain ⟨L, hL⟩ : ∃ L, chainL (33 - 1) = L := ⟨_, rfl⟩
  rw [hL] at hO HO2
  obtain ⟨g, cap, rfl, -⟩ := pairs_of_owns hO
  obtain ⟨r0, r1⟩ : w2.cell? ⟨w.heap.size, 0, none⟩ = some (.int .i64 0) ∧ w2.cell? ⟨w.heap.size, 1, none⟩ = some (.slice none 0 0) := ⟨bR.cell 0, bR.cell 1⟩
  have f0 := bR.free 0; have f1 := bR.free 1
  clear hO hb2 bR
  go_wp2
  refine bodyPost_ret (v := .agg #[.int .i64 33, .slice g L.length cap]) (by simp [results, Tryd.results26, go_sem, *]) rfl ⟨_, rfl, ?_, ?_⟩
  · rw [hL]; exact owns_low (owns_set (owns_set (unhide HO2) (unhide HR).lt) (unhide HR).lt) (by have := unhide HWS; omega)
  · exact ((unhide HB2).setCell (by simp) _).setCell (by simp) _
def lenAt (w : World) (B : Nat) : Nat := match w.cell? ⟨B, 1, none⟩ with | some (.slice _ n _) => n | _ => 0
def padL (k : Nat) : List (Int × Int) := chainL 2 ++ List.replicate k ((0 : Int), (1 : Int))
theorem pad_succ (k : Nat) : padL (k + 1) = padL k ++ [((0 : Int), (1 : Int))] := by simp [padL, List.replicate_succ']
theorem pad_len (k : Nat) : (padL k).length = k + 2 := by simp [padL, chain_len]; omega

set_option maxRecDepth 100000 in
set_option maxHeartbeats 4000000 in
theorem db_92 (len : Nat) (f : Nat → Nat) (hlen : len ≤ 1048576) (hk : tk len f 0 10 = 9) (hx : tk len f 1 4 = 2) (w : World) (a : Option Addr) (c : Nat) (hB : Byts w a len f) :
    Calls Tryd.prog 26 #[.slice a len c] w fun e w' => OrdOut w 3 (padL 255) e w' := by
  have HK := hide hk
  have EX := hide hx
  clear hk hx
  obtain ⟨W, hW⟩ : ∃ W, w.alloc (.cells #[.int .i64 0, .slice none 0 0] 34) = W := ⟨_, rfl⟩
  have hWs : W.heap.size = w.heap.size + 1 := by rw [← hW]; simp
  have bR : Blk W w.heap.size 34 [.int .i64 0, .slice none 0 0] := by rw [← hW]; exact Blk.new w 34 #[.int .i64 0, .slice none 0 0]
  have hb : Below w.heap.size w W := by rw [← hW]; exact (Below.refl _ _).alloc (Nat.le_refl _) _
  have HY := hide (hB.mono hb)
  have HR := hide bR; have HB := hide hb; have HWS := hide hWs
  clear bR hb hB hWs
  go_enter Tryd.func26, Tryd.ntmps26
  go_wp2_with fail
  try rw [hW]
  clear hW
  refine (tk_call (f := f) (p := 0) (n := 10) hlen (by omega) (by omega) (by omega) c (unhide HY) rfl rfl).mono ?_
  rw [unhide HK]
  rintro e w2 ⟨rfl, hw⟩
  rw [hw]
  clear hw w2
  go_wp2_with fail
  refine (tk_call (f := f) (p := 1) (n := 4) hlen (by omega) (by omega) (by omega) c (unhide HY) rfl rfl).mono ?_
  rw [unhide EX]
  rintro e w2 ⟨rfl, hw⟩
  rw [hw]
  clear hw w2
  go_wp2_with fail
  refine (l1Shape_chain 3 W (by omega) (by omega)).mono ?_
  rintro e w2 ⟨v, rfl, hO, hb2⟩
  have hOb : Ob W (w2.alloc (.cells #[.int .i64 3, v] 34)) w2.heap.size 3 v (padL 0) := Ob.new (by rw [show padL 0 = chainL (3 - 1) from rfl]; exact hO) hb2
  obtain ⟨g, cap, rfl⟩ := hOb.slice
  rw [pad_len] at hOb ⊢
  clear hO hb2
  obtain ⟨B, hB⟩ : ∃ B, w2.heap.size = B := ⟨_, rfl⟩
  rw [hB] at hOb
  obtain ⟨w3, hw3⟩ : ∃ w3, w2.alloc (.cells #[.int .i64 3, .slice g (0 + 2) cap] 34) = w3 := ⟨_, rfl⟩
  rw [hw3] at hOb
  have hw3' : w2.alloc (.cells #[.int .i64 3, .slice g 2 cap] 34) = w3 := hw3
  have HOb := hide hOb
  clear hOb
  go_wp2
  try rw [hB]
  try rw [hw3']
  clear hB hw3 hw3' w2
  go_loopw [301] (fun _ wr => ∃ (k : Nat) (v : Value), k ≤ 255 ∧ Ob W wr B 3 v (padL k)) (fun _ wr => 257 - lenAt wr B)
  case atStart => exact ⟨0, _, by omega, unhide HOb⟩
  case round =>
    obtain ⟨k, v, hk, hOb⟩ := hrel
    clear HOb
    obtain ⟨g, cap, rfl⟩ := hOb.slice
    rw [pad_len] at hOb
    have HOb := hide hOb
    obtain ⟨o0, o1⟩ : wr.cell? ⟨B, 0, none⟩ = some (.int .i64 3) ∧ wr.cell? ⟨B, 1, none⟩ = some (.slice g (k + 2) cap) := ⟨hOb.blk.cell 0, hOb.blk.cell 1⟩
    have f0 := hOb.blk.free 0; have f1 := hOb.blk.free 1
    have hLA : lenAt wr B = k + 2 := by unfold lenAt; rw [o1]
    have HLA := hide hLA
    clear hOb hLA
    by_cases hlt : k < 255
    · have hlt' : (k : Int) + 2 < 257 := by omega
      obtain ⟨i0, hi, hz0, hz1, hz2⟩ := info_parts info_pair
      have hOwn : Hid (wr.ownsRow W.heap.size 93 2 (.slice g (k + 2) cap) (k + 2) (pp (padL k))) := hide (by have := (unhide HOb).own; rwa [pad_len] at this)
      go_wp2_with (at_builtin; refine wpList_append_own_at _ rfl _ _ 32 rfl W.heap.size 93 i0 _ 2 16 Tryd.underlying32 hi hz0 hz1 hz2 rfl (by omega) _ _ _ rfl ((unhide hOwn).alloc _) ⟨wr.heap.size, 0, none⟩ 1 1 [.int .i64 0, .int .i64 1] rfl rfl (cell_two wr 93 _ _) (by simp [Value.oneCell']) (by unfold maxLen; omega) (by omega) (by have := (unhide HOb).low.size; simp; omega) ?_)
      intro v' w5 ho' hgr' _ hat
      obtain ⟨hO5, ⟨g5, cap5, rfl⟩, hOb5⟩ := (unhide HOb).push (by rw [pad_len]; exact ho') hgr' (by simpa using hat)
      rw [pad_len] at hOb5
      rw [← pad_succ] at hOb5
      have HOb5 := hide hOb5
      obtain ⟨q0, q1⟩ : w5.cell? ⟨B, 0, none⟩ = some (.int .i64 3) ∧ w5.cell? ⟨B, 1, none⟩ = some (.slice g (k + 2) cap) := ⟨hO5.cell 0, hO5.cell 1⟩
      have qf0 := hO5.free 0; have qf1 := hO5.free 1
      rw [pad_len]
      obtain ⟨w6, hw6⟩ : ∃ w6, w5.setCell ⟨B, 1, none⟩ (.slice g5 (k + 2 + 1) cap5) = w6 := ⟨_, rfl⟩
      rw [hw6] at HOb5
      have HL6 : Hid (lenAt w6 B = k + 3) := hide (by unfold lenAt; rw [show w6.cell? ⟨B, 1, none⟩ = some (.slice g5 (k + 2 + 1) cap5) from (unhide HOb5).blk.cell 1])
      clear hO5 hOb5 ho' hgr' hat hi hz0 hz1 hz2
      go_wp2
      go_roundw
      case rel => exact ⟨k + 1, _, by omega, unhide HOb5⟩
      case measure => rw [unhide HL6, unhide HLA]; omega
    · obtain rfl : k = 255 := by omega
      have bR := (unhide HR).mono (unhide HOb).low (unhide HR).lt
      obtain ⟨r0, r1⟩ : wr.cell? ⟨w.heap.size, 0, none⟩ = some (.int .i64 0) ∧ wr.cell? ⟨w.heap.size, 1, none⟩ = some (.slice none 0 0) := ⟨bR.cell 0, bR.cell 1⟩
      have rf0 := bR.free 0; have rf1 := bR.free 1
      obtain ⟨ro0, ro1⟩ : wr.cell? ⟨B, 0, none⟩ = some (.int .i64 (3)) ∧ wr.cell? ⟨B, 1, none⟩ = some (.slice g (257) cap) := ⟨(unhide HOb).blk.cell 0, (unhide HOb).blk.cell 1⟩
      have rne : ¬ B = w.heap.size := by have := (unhide HOb).ge; have := unhide HWS; omega
      have rne2 : ¬ w.heap.size = B := fun e => rne e.symm
      clear bR
      go_wp2
      exact bodyPost_ret (v := .agg #[.int .i64 (3), .slice g (257) cap]) (by simp [results, Tryd.results26, go_sem, *]) rfl ((unhide HOb).out (unhide HR) (unhide HWS) (unhide HB) _ _)
set_option maxRecDepth 100000 in
set_option maxHeartbeats 4000000 in
theorem db_93 (len : Nat) (f : Nat → Nat) (hlen : len ≤ 1048576) (hk : tk len f 0 10 = 9) (hx : tk len f 1 4 = 3) (w : World) (a : Option Addr) (c : Nat) (hB : Byts w a len f) :
    Calls Tryd.prog 26 #[.slice a len c] w fun e w' => OrdOut w 3 (padL 254) e w' := by
  have HK := hide hk
  have EX := hide hx
  clear hk hx
  obtain ⟨W, hW⟩ : ∃ W, w.alloc (.cells #[.int .i64 0, .slice none 0 0] 34) = W := ⟨_, rfl⟩
  have hWs : W.heap.size = w.heap.size + 1 := by rw [← hW]; simp
  have bR : Blk W w.heap.size 34 [.int .i64 0, .slice none 0 0] := by rw [← hW]; exact Blk.new w 34 #[.int .i64 0, .slice none 0 0]
  have hb : Below w.heap.size w W := by rw [← hW]; exact (Below.refl _ _).alloc (Nat.le_refl _) _
  have HY := hide (hB.mono hb)
  have HR := hide bR; have HB := hide hb; have HWS := hide hWs
  clear bR hb hB hWs
  go_enter Tryd.func26, Tryd.ntmps26
  go_wp2_with fail
  try rw [hW]
  clear hW
  refine (tk_call (f := f) (p := 0) (n := 10) hlen (by omega) (by omega) (by omega) c (unhide HY) rfl rfl).mono ?_
  rw [unhide HK]
  rintro e w2 ⟨rfl, hw⟩
  rw [hw]
  clear hw w2
  go_wp2_with fail
  refine (tk_call (f := f) (p := 1) (n := 4) hlen (by omega) (by omega) (by omega) c (unhide HY) rfl rfl).mono ?_
  rw [unhide EX]
  rintro e w2 ⟨rfl, hw⟩
  rw [hw]
  clear hw w2
  go_wp2_with fail
  refine (l1Shape_chain 3 W (by omega) (by omega)).mono ?_
  rintro e w2 ⟨v, rfl, hO, hb2⟩
  have hOb : Ob W (w2.alloc (.cells #[.int .i64 3, v] 34)) w2.heap.size 3 v (padL 0) := Ob.new (by rw [show padL 0 = chainL (3 - 1) from rfl]; exact hO) hb2
  obtain ⟨g, cap, rfl⟩ := hOb.slice
  rw [pad_len] at hOb ⊢
  clear hO hb2
  obtain ⟨B, hB⟩ : ∃ B, w2.heap.size = B := ⟨_, rfl⟩
  rw [hB] at hOb
  obtain ⟨w3, hw3⟩ : ∃ w3, w2.alloc (.cells #[.int .i64 3, .slice g (0 + 2) cap] 34) = w3 := ⟨_, rfl⟩
  rw [hw3] at hOb
  have hw3' : w2.alloc (.cells #[.int .i64 3, .slice g 2 cap] 34) = w3 := hw3
  have HOb := hide hOb
  clear hOb
  go_wp2
  try rw [hB]
  try rw [hw3']
  clear hB hw3 hw3' w2
  go_loopw [301] (fun _ wr => ∃ (k : Nat) (v : Value), k ≤ 254 ∧ Ob W wr B 3 v (padL k)) (fun _ wr => 256 - lenAt wr B)
  case atStart => exact ⟨0, _, by omega, unhide HOb⟩
  case round =>
    obtain ⟨k, v, hk, hOb⟩ := hrel
    clear HOb
    obtain ⟨g, cap, rfl⟩ := hOb.slice
    rw [pad_len] at hOb
    have HOb := hide hOb
    obtain ⟨o0, o1⟩ : wr.cell? ⟨B, 0, none⟩ = some (.int .i64 3) ∧ wr.cell? ⟨B, 1, none⟩ = some (.slice g (k + 2) cap) := ⟨hOb.blk.cell 0, hOb.blk.cell 1⟩
    have f0 := hOb.blk.free 0; have f1 := hOb.blk.free 1
    have hLA : lenAt wr B = k + 2 := by unfold lenAt; rw [o1]
    have HLA := hide hLA
    clear hOb hLA
    by_cases hlt : k < 254
    · have hlt' : (k : Int) + 2 < 256 := by omega
      obtain ⟨i0, hi, hz0, hz1, hz2⟩ := info_parts info_pair
      have hOwn : Hid (wr.ownsRow W.heap.size 93 2 (.slice g (k + 2) cap) (k + 2) (pp (padL k))) := hide (by have := (unhide HOb).own; rwa [pad_len] at this)
      go_wp2_with (at_builtin; refine wpList_append_own_at _ rfl _ _ 32 rfl W.heap.size 93 i0 _ 2 16 Tryd.underlying32 hi hz0 hz1 hz2 rfl (by omega) _ _ _ rfl ((unhide hOwn).alloc _) ⟨wr.heap.size, 0, none⟩ 1 1 [.int .i64 0, .int .i64 1] rfl rfl (cell_two wr 93 _ _) (by simp [Value.oneCell']) (by unfold maxLen; omega) (by omega) (by have := (unhide HOb).low.size; simp; omega) ?_)
      intro v' w5 ho' hgr' _ hat
      obtain ⟨hO5, ⟨g5, cap5, rfl⟩, hOb5⟩ := (unhide HOb).push (by rw [pad_len]; exact ho') hgr' (by simpa using hat)
      rw [pad_len] at hOb5
      rw [← pad_succ] at hOb5
      have HOb5 := hide hOb5
      obtain ⟨q0, q1⟩ : w5.cell? ⟨B, 0, none⟩ = some (.int .i64 3) ∧ w5.cell? ⟨B, 1, none⟩ = some (.slice g (k + 2) cap) := ⟨hO5.cell 0, hO5.cell 1⟩
      have qf0 := hO5.free 0; have qf1 := hO5.free 1
      rw [pad_len]
      obtain ⟨w6, hw6⟩ : ∃ w6, w5.setCell ⟨B, 1, none⟩ (.slice g5 (k + 2 + 1) cap5) = w6 := ⟨_, rfl⟩
      rw [hw6] at HOb5
      have HL6 : Hid (lenAt w6 B = k + 3) := hide (by unfold lenAt; rw [show w6.cell? ⟨B, 1, none⟩ = some (.slice g5 (k + 2 + 1) cap5) from (unhide HOb5).blk.cell 1])
      clear hO5 hOb5 ho' hgr' hat hi hz0 hz1 hz2
      go_wp2
      go_roundw
      case rel => exact ⟨k + 1, _, by omega, unhide HOb5⟩
      case measure => rw [unhide HL6, unhide HLA]; omega
    · obtain rfl : k = 254 := by omega
      have bR := (unhide HR).mono (unhide HOb).low (unhide HR).lt
      obtain ⟨r0, r1⟩ : wr.cell? ⟨w.heap.size, 0, none⟩ = some (.int .i64 0) ∧ wr.cell? ⟨w.heap.size, 1, none⟩ = some (.slice none 0 0) := ⟨bR.cell 0, bR.cell 1⟩
      have rf0 := bR.free 0; have rf1 := bR.free 1
      obtain ⟨ro0, ro1⟩ : wr.cell? ⟨B, 0, none⟩ = some (.int .i64 (3)) ∧ wr.cell? ⟨B, 1, none⟩ = some (.slice g (256) cap) := ⟨(unhide HOb).blk.cell 0, (unhide HOb).blk.cell 1⟩
      have rne : ¬ B = w.heap.size := by have := (unhide HOb).ge; have := unhide HWS; omega
      have rne2 : ¬ w.heap.size = B := fun e => rne e.symm
      clear bR
      go_wp2
      exact bodyPost_ret (v := .agg #[.int .i64 (3), .slice g (256) cap]) (by simp [results, Tryd.results26, go_sem, *]) rfl ((unhide HOb).out (unhide HR) (unhide HWS) (unhide HB) _ _)
theorem db_9 (len : Nat) (f : Nat → Nat) (hlen : len ≤ 1048576) (hk : tk len f 0 10 = 9) : ∃ (N : Int) (l : List (Int × Int)), l.length ≤ 1000 ∧ ∀ (w : World) (a : Option Addr) (c : Nat), Byts w a len f →
    Calls Tryd.prog 26 #[.slice a len c] w fun e w' => OrdOut w N l e w' := by
  have u1 : tk len f 1 4 < 4 := tk_lt hlen (by omega) (by omega) (by omega)
  obtain h | h | h | h : tk len f 1 4 = 0 ∨ tk len f 1 4 = 1 ∨ tk len f 1 4 = 2 ∨ tk len f 1 4 = 3 := by omega
  · exact ⟨_, _, by rw [chain_len]; omega, db_90 len f hlen hk h⟩
  · exact ⟨_, _, by rw [chain_len]; omega, db_91 len f hlen hk h⟩
  · exact ⟨_, _, by rw [pad_len]; omega, db_92 len f hlen hk h⟩
  · exact ⟨_, _, by rw [pad_len]; omega, db_93 len f hlen hk h⟩

end Go.Proofs.YtnmpkdmflijhpaaDoor

/- The model's drawing of orders: any pairs. -/
namespace Go.Proofs.YtnmpkdmflijhpaaDoor
open Go Go.RowKit

def anyL (len : Nat) (f : Nat → Nat) (p n k : Nat) : List (Int × Int) := (List.range k).map fun i => ((tk len f (p + 2 * i) n : Int), (tk len f (p + 2 * i + 1) n : Int))
theorem any_succ (len : Nat) (f : Nat → Nat) (p n k : Nat) : anyL len f p n (k + 1) = anyL len f p n k ++ [((tk len f (p + 2 * k) n : Int), (tk len f (p + 2 * k + 1) n : Int))] := by simp [anyL, List.range_succ]
theorem any_len (len : Nat) (f : Nat → Nat) (p n k : Nat) : (anyL len f p n k).length = k := by simp [anyL]

set_option maxRecDepth 100000 in
set_option maxHeartbeats 4000000 in
theorem db_5 (len : Nat) (f : Nat → Nat) (hlen : len ≤ 1048576) (hk : tk len f 0 10 = 5) : ∃ (N : Int) (l : List (Int × Int)), l.length ≤ 1000 ∧ ∀ (w : World) (a : Option Addr) (c : Nat), Byts w a len f →
    Calls Tryd.prog 26 #[.slice a len c] w fun e w' => OrdOut w N l e w' := by
  have t1 : tk len f 1 8 < 8 := tk_lt hlen (by omega) (by omega) (by omega)
  have t2 : tk len f 2 14 < 14 := tk_lt hlen (by omega) (by omega) (by omega)
  obtain ⟨n, en⟩ : ∃ n, tk len f 1 8 = n := ⟨_, rfl⟩
  obtain ⟨m, em⟩ : ∃ m, tk len f 2 14 = m := ⟨_, rfl⟩
  rw [en] at t1; rw [em] at t2
  have HK := hide hk; have EN := hide en; have EM := hide em
  clear hk en em
  refine ⟨(n : Int) + 1, anyL len f 3 (n + 1) m, by rw [any_len]; omega, fun w a c hB => ?_⟩
  obtain ⟨W, hW⟩ : ∃ W, w.alloc (.cells #[.int .i64 0, .slice none 0 0] 34) = W := ⟨_, rfl⟩
  have hWs : W.heap.size = w.heap.size + 1 := by rw [← hW]; simp
  have bR : Blk W w.heap.size 34 [.int .i64 0, .slice none 0 0] := by rw [← hW]; exact Blk.new w 34 #[.int .i64 0, .slice none 0 0]
  have hb : Below w.heap.size w W := by rw [← hW]; exact (Below.refl _ _).alloc (Nat.le_refl _) _
  have HY := hide (hB.mono hb)
  have HR := hide bR; have HB := hide hb; have HWS := hide hWs
  clear bR hb hB hWs
  go_enter Tryd.func26, Tryd.ntmps26
  go_wp2_with fail
  try rw [hW]
  clear hW
  refine (tk_call (f := f) (p := 0) (n := 10) hlen (by omega) (by omega) (by omega) c (unhide HY) rfl rfl).mono ?_
  rw [unhide HK]
  rintro e w2 ⟨rfl, hw⟩
  rw [hw]
  clear hw w2
  go_wp2_with fail
  refine (tk_call (f := f) (p := 1) (n := 8) hlen (by omega) (by omega) (by omega) c (unhide HY) rfl rfl).mono ?_
  rw [unhide EN]
  rintro e w2 ⟨rfl, hw⟩
  rw [hw]
  clear hw w2
  go_wp2_with fail
  refine (tk_call (f := f) (p := 2) (n := 14) hlen (by omega) (by omega) (by omega) c (unhide HY) rfl rfl).mono ?_
  rw [unhide EM]
  rintro e w2 ⟨rfl, hw⟩
  rw [hw]
  clear hw w2
  go_wp2
  go_loopw [4, 5, 8, 14, 15] (fun _ _ P v i wr => ∃ k : Nat, k ≤ m ∧ i = .int .i64 k ∧ P = .int .i64 ((3 + 2 * k : Nat) : Int) ∧ wr.ownsRow W.heap.size 93 2 v k (pp (anyL len f 3 (n + 1) k)) ∧ Below W.heap.size W wr) (fun _ _ _ _ i _ => m - (intOf i).toNat)
  case atStart => exact ⟨0, Nat.zero_le _, rfl, rfl, owns_none2 W 93, (Below.refl _ _).alloc (Nat.le_refl _) _⟩
  case round =>
    obtain ⟨k, hk, rfl, rfl, hO, hb⟩ := hrel
    have HO := hide hO; have HBr := hide hb; have HYr := hide ((unhide HY).mono hb)
    clear hO hb
    by_cases hlt : k < m
    · have hlt' : (k : Int) < m := by omega
      have u1 : tk len f (3 + 2 * k) (n + 1) < n + 1 := tk_lt hlen (by omega) (by omega) (by omega)
      have u2 : tk len f (3 + 2 * k + 1) (n + 1) < n + 1 := tk_lt hlen (by omega) (by omega) (by omega)
      have HU := hide (any_succ len f 3 (n + 1) k)
      go_wp2_with fail
      refine (tk_call (f := f) (p := 3 + 2 * k) (n := n + 1) hlen (by omega) (by omega) (by omega) c (unhide HYr) rfl (by omega)).mono ?_
      obtain ⟨x, ex⟩ : ∃ x, tk len f (3 + 2 * k) (n + 1) = x := ⟨_, rfl⟩
      rw [ex] at u1 HU ⊢
      clear ex
      rintro e w3 ⟨rfl, hw⟩
      rw [hw]
      clear hw w3
      go_wp2_with fail
      refine (tk_call (f := f) (p := 3 + 2 * k + 1) (n := n + 1) hlen (by omega) (by omega) (by omega) c (unhide HYr) (by omega) (by omega)).mono ?_
      obtain ⟨y, ey⟩ : ∃ y, tk len f (3 + 2 * k + 1) (n + 1) = y := ⟨_, rfl⟩
      rw [ey] at u2 HU ⊢
      clear ey
      rintro e w3 ⟨rfl, hw⟩
      rw [hw]
      clear hw w3
      obtain ⟨i0, hi, hz0, hz1, hz2⟩ := info_parts info_pair
      go_wp2_with (at_builtin; refine wpList_append_own_at _ rfl _ _ 32 rfl W.heap.size 93 i0 _ 2 16 Tryd.underlying32 hi hz0 hz1 hz2 rfl (by omega) _ _ _ rfl ((unhide HO).alloc _) ⟨wr.heap.size, 0, none⟩ 1 1 [.int .i64 (x), .int .i64 (y)] rfl rfl (cell_two wr 93 _ _) (by simp [Value.oneCell']) (by unfold maxLen; omega) (by omega) (by have := (unhide HBr).size; simp; omega) ?_)
      intro v4 w4 ho' hgr' _ _
      have hB4 := ((unhide HBr).alloc (unhide HBr).size (.cells #[.int .i64 (x), .int .i64 (y)] 93)).grown hgr' (by have := (unhide HBr).size; simp; omega) (fun q' e => owns_block (unhide HO) e)
      have HO4 : Hid (w4.ownsRow W.heap.size 93 2 v4 (k + 1) (pp (anyL len f 3 (n + 1) (k + 1)))) := hide (by rw [unhide HU, pp_snoc]; exact ho')
      have HB4 := hide hB4
      clear hgr' hB4 ho' HO HBr
      clear hi hz0 hz1 hz2 HU
      go_wp2
      go_roundw
      case rel => exact ⟨k + 1, by omega, by go_num, by simp; omega, unhide HO4, unhide HB4⟩
      case measure => simp [intOf]; omega
    · obtain rfl : k = m := by omega
      obtain ⟨g, cap, rfl, -⟩ := pairs_of_owns (unhide HO)
      have bR := (unhide HR).mono (unhide HBr) (unhide HR).lt
      obtain ⟨r0, r1⟩ : wr.cell? ⟨w.heap.size, 0, none⟩ = some (.int .i64 0) ∧ wr.cell? ⟨w.heap.size, 1, none⟩ = some (.slice none 0 0) := ⟨bR.cell 0, bR.cell 1⟩
      have f0 := bR.free 0; have f1 := bR.free 1
      clear bR
      go_wp2
      refine bodyPost_ret (v := .agg #[.int .i64 ((n : Int) + 1), .slice g k cap]) (by simp [results, Tryd.results26, go_sem, *]) rfl ⟨_, rfl, ?_, ?_⟩
      · rw [any_len]; exact owns_low (owns_set (owns_set (unhide HO) (unhide HR).lt) (unhide HR).lt) (by have := unhide HWS; omega)
      · exact (((unhide HB).trans ((unhide HBr).mono (by have := unhide HWS; omega))).setCell (by simp) _).setCell (by simp) _
end Go.Proofs.YtnmpkdmflijhpaaDoor

/- The model's drawing of orders: random pairs between a bottom and a top. -/
namespace Go.Proofs.YtnmpkdmflijhpaaDoor
open Go Go.RowKit

def upwL (len : Nat) (f : Nat → Nat) (p n k : Nat) : List (Int × Int) := (List.range k).map fun i => if tk len f (p + 2 * i) n ≤ tk len f (p + 2 * i + 1) n then ((tk len f (p + 2 * i) n : Int), (tk len f (p + 2 * i + 1) n : Int)) else ((tk len f (p + 2 * i + 1) n : Int), (tk len f (p + 2 * i) n : Int))
theorem upw_succ (len : Nat) (f : Nat → Nat) (p n k : Nat) : upwL len f p n (k + 1) = upwL len f p n k ++ [if tk len f (p + 2 * k) n ≤ tk len f (p + 2 * k + 1) n then ((tk len f (p + 2 * k) n : Int), (tk len f (p + 2 * k + 1) n : Int)) else ((tk len f (p + 2 * k + 1) n : Int), (tk len f (p + 2 * k) n : Int))] := by simp [upwL, List.range_succ]
theorem upw_len (len : Nat) (f : Nat → Nat) (p n k : Nat) : (upwL len f p n k).length = k := by simp [upwL]
def endL (n k : Nat) : List (Int × Int) := (List.range k).flatMap fun (i : Nat) => [((0 : Int), (i : Int)), ((i : Int), (n : Int) - 1)]
theorem end_succ (n k : Nat) : endL n (k + 1) = endL n k ++ [((0 : Int), (k : Int))] ++ [((k : Int), (n : Int) - 1)] := by simp [endL, List.range_succ]
theorem end_len (n : Nat) : ∀ k, (endL n k).length = k * 2
  | 0 => rfl
  | k + 1 => by rw [end_succ]; simp [end_len n k]; omega
theorem small4 (len : Nat) (f : Nat → Nat) (n m : Nat) (hlen : len ≤ 1048576) (h1 : 1 ≤ n) (hn : n ≤ 100) (hm : m ≤ 100) : Small (upwL len f 2 n m ++ endL n n) := by
  refine Small.append (small_of fun u hu => ?_) (small_of fun u hu => ?_)
  · obtain ⟨i, hi, rfl⟩ := List.mem_map.1 hu
    have hi := List.mem_range.1 hi
    have u1 : tk len f (2 + 2 * i) n < n := tk_lt hlen (by omega) (by omega) (by omega)
    have u2 : tk len f (2 + 2 * i + 1) n < n := tk_lt hlen (by omega) (by omega) (by omega)
    split <;> simp only <;> omega
  · obtain ⟨i, hi, hu⟩ := List.mem_flatMap.1 hu
    have := List.mem_range.1 hi
    simp only [List.mem_cons, List.not_mem_nil, or_false] at hu
    rcases hu with rfl | rfl <;> simp only <;> omega

set_option maxRecDepth 100000 in
set_option maxHeartbeats 4000000 in
theorem db_4 (len : Nat) (f : Nat → Nat) (hlen : len ≤ 1048576) (hk : tk len f 0 10 = 4) : ∃ (N : Int) (l : List (Int × Int)), l.length ≤ 1000 ∧ ∀ (w : World) (a : Option Addr) (c : Nat), Byts w a len f →
    Calls Tryd.prog 26 #[.slice a len c] w fun e w' => OrdOut w N l e w' := by
  have t1 : tk len f 1 7 < 7 := tk_lt hlen (by omega) (by omega) (by omega)
  obtain ⟨n, en⟩ : ∃ n, tk len f 1 7 = n := ⟨_, rfl⟩
  rw [en] at t1
  obtain ⟨m, em⟩ : ∃ m, min (3 + len / 3) 40 = m := ⟨_, rfl⟩
  have hm : m ≤ 40 := by omega
  have t3 : tk len f (2 + 2 * m) (n + 3) < n + 3 := tk_lt hlen (by omega) (by omega) (by omega)
  obtain ⟨b, eb⟩ : ∃ b, tk len f (2 + 2 * m) (n + 3) = b := ⟨_, rfl⟩
  rw [eb] at t3
  have HK := hide hk; have EN := hide en; have EM := hide em; have EB := hide eb
  clear hk en em eb
  have hS := small4 len f (n + 3) m hlen (by omega) (by omega) (by omega)
  have hl : (upwL len f 2 (n + 3) m ++ endL (n + 3) (n + 3)).length = m + (n + 3) * 2 := by rw [List.length_append, upw_len, end_len]
  obtain ⟨LF, hLF⟩ : ∃ LF, upwL len f 2 (n + 3) m ++ endL (n + 3) (n + 3) = LF := ⟨_, rfl⟩
  rw [hLF] at hS hl
  refine ⟨((n + 3 : Nat) : Int), turnL ((n + 3 : Nat) : Int) b LF, by rw [turn_len]; omega, fun w a c hB => ?_⟩
  have HS := hide hS; have HL := hide hl; have HLF := hide hLF
  clear hS hl hLF
  obtain ⟨W, hW⟩ : ∃ W, w.alloc (.cells #[.int .i64 0, .slice none 0 0] 34) = W := ⟨_, rfl⟩
  have hWs : W.heap.size = w.heap.size + 1 := by rw [← hW]; simp
  have bR : Blk W w.heap.size 34 [.int .i64 0, .slice none 0 0] := by rw [← hW]; exact Blk.new w 34 #[.int .i64 0, .slice none 0 0]
  have hb : Below w.heap.size w W := by rw [← hW]; exact (Below.refl _ _).alloc (Nat.le_refl _) _
  have HY := hide (hB.mono hb)
  have HR := hide bR; have HB := hide hb; have HWS := hide hWs
  clear bR hb hB hWs
  go_enter Tryd.func26, Tryd.ntmps26
  go_wp2_with fail
  try rw [hW]
  clear hW
  refine (tk_call (f := f) (p := 0) (n := 10) hlen (by omega) (by omega) (by omega) c (unhide HY) rfl rfl).mono ?_
  rw [unhide HK]
  rintro e w2 ⟨rfl, hw⟩
  rw [hw]
  clear hw w2
  go_wp2_with fail
  refine (tk_call (f := f) (p := 1) (n := 7) hlen (by omega) (by omega) (by omega) c (unhide HY) rfl rfl).mono ?_
  rw [unhide EN]
  rintro e w2 ⟨rfl, hw⟩
  rw [hw]
  clear hw w2
  go_wp2_with fail
  refine (l1Size_any len 3 3 40 a c W hlen (by omega) (by omega) (by omega) (by omega)).mono ?_
  rw [unhide EM]
  rintro e w2 ⟨rfl, hw⟩
  rw [hw]
  clear hw w2
  go_wp2
  go_loopw [4, 5, 8, 11, 12] (fun _ _ P v i wr => ∃ k : Nat, k ≤ m ∧ i = .int .i64 k ∧ P = .int .i64 (2 + 2 * (k : Int)) ∧ wr.ownsRow W.heap.size 93 2 v k (pp (upwL len f 2 (n + 3) k)) ∧ Below W.heap.size W wr) (fun _ _ _ _ i _ => m - (intOf i).toNat)
  case atStart => exact ⟨0, Nat.zero_le _, rfl, rfl, owns_none2 W 93, (Below.refl _ _).alloc (Nat.le_refl _) _⟩
  case round =>
    obtain ⟨k, hk, rfl, rfl, hO, hb⟩ := hrel
    have HO := hide hO; have HBr := hide hb; have HYr := hide ((unhide HY).mono hb)
    clear hO hb
    by_cases hlt : k < m
    · have hlt' : (k : Int) < m := by omega
      have u1 : tk len f (2 + 2 * k) (n + 3) < n + 3 := tk_lt hlen (by omega) (by omega) (by omega)
      have u2 : tk len f (2 + 2 * k + 1) (n + 3) < n + 3 := tk_lt hlen (by omega) (by omega) (by omega)
      have HU := hide (upw_succ len f 2 (n + 3) k)
      go_wp2_with fail
      refine (tk_call (f := f) (p := 2 + 2 * k) (n := n + 3) hlen (by omega) (by omega) (by omega) c (unhide HYr) (by omega) (by omega)).mono ?_
      obtain ⟨x, ex⟩ : ∃ x, tk len f (2 + 2 * k) (n + 3) = x := ⟨_, rfl⟩
      rw [ex] at u1 HU ⊢
      clear ex
      rintro e w3 ⟨rfl, hw⟩
      rw [hw]
      clear hw w3
      go_wp2_with fail
      refine (tk_call (f := f) (p := 2 + 2 * k + 1) (n := n + 3) hlen (by omega) (by omega) (by omega) c (unhide HYr) (by omega) (by omega)).mono ?_
      obtain ⟨y, ey⟩ : ∃ y, tk len f (2 + 2 * k + 1) (n + 3) = y := ⟨_, rfl⟩
      rw [ey] at u2 HU ⊢
      clear ey
      rintro e w3 ⟨rfl, hw⟩
      rw [hw]
      clear hw w3
      obtain ⟨i0, hi, hz0, hz1, hz2⟩ := info_parts info_pair
      by_cases hxy : x ≤ y
      · have hxy' : (x : Int) ≤ y := by omega
        rw [if_pos hxy] at HU
        go_wp2_with (at_builtin; refine wpList_append_own_at _ rfl _ _ 32 rfl W.heap.size 93 i0 _ 2 16 Tryd.underlying32 hi hz0 hz1 hz2 rfl (by omega) _ _ _ rfl ((unhide HO).alloc _) ⟨wr.heap.size, 0, none⟩ 1 1 [.int .i64 (x), .int .i64 (y)] rfl rfl (cell_two wr 93 _ _) (by simp [Value.oneCell']) (by unfold maxLen; omega) (by omega) (by have := (unhide HBr).size; simp; omega) ?_)
        intro v4 w4 ho' hgr' _ _
        have hB4 := ((unhide HBr).alloc (unhide HBr).size (.cells #[.int .i64 (x), .int .i64 (y)] 93)).grown hgr' (by have := (unhide HBr).size; simp; omega) (fun q' e => owns_block (unhide HO) e)
        have HO4 : Hid (w4.ownsRow W.heap.size 93 2 v4 (k + 1) (pp (upwL len f 2 (n + 3) (k + 1)))) := hide (by rw [unhide HU, pp_snoc]; exact ho')
        have HB4 := hide hB4
        clear hgr' hB4 ho' HO HBr
        clear hi hz0 hz1 hz2 HU
        go_wp2
        go_roundw
        case rel => exact ⟨k + 1, by omega, by go_num, by simp; omega, unhide HO4, unhide HB4⟩
        case measure => simp [intOf]; omega
      · have hxy' : ¬ (x : Int) ≤ y := by omega
        rw [if_neg hxy] at HU
        go_wp2_with (at_builtin; refine wpList_append_own_at _ rfl _ _ 32 rfl W.heap.size 93 i0 _ 2 16 Tryd.underlying32 hi hz0 hz1 hz2 rfl (by omega) _ _ _ rfl ((unhide HO).alloc _) ⟨wr.heap.size, 0, none⟩ 1 1 [.int .i64 (y), .int .i64 (x)] rfl rfl (cell_two wr 93 _ _) (by simp [Value.oneCell']) (by unfold maxLen; omega) (by omega) (by have := (unhide HBr).size; simp; omega) ?_)
        intro v4 w4 ho' hgr' _ _
        have hB4 := ((unhide HBr).alloc (unhide HBr).size (.cells #[.int .i64 (y), .int .i64 (x)] 93)).grown hgr' (by have := (unhide HBr).size; simp; omega) (fun q' e => owns_block (unhide HO) e)
        have HO4 : Hid (w4.ownsRow W.heap.size 93 2 v4 (k + 1) (pp (upwL len f 2 (n + 3) (k + 1)))) := hide (by rw [unhide HU, pp_snoc]; exact ho')
        have HB4 := hide hB4
        clear hgr' hB4 ho' HO HBr
        clear hi hz0 hz1 hz2 HU
        go_wp2
        go_roundw
        case rel => exact ⟨k + 1, by omega, by go_num, by simp; omega, unhide HO4, unhide HB4⟩
        case measure => simp [intOf]; omega
    · obtain rfl : k = m := by omega
      go_wp2
      go_loopw [11, 13] (fun v i wr => ∃ j : Nat, j ≤ n + 3 ∧ i = .int .i64 j ∧ wr.ownsRow W.heap.size 93 2 v (k + j * 2) (pp (upwL len f 2 (n + 3) k ++ endL (n + 3) j)) ∧ Below W.heap.size W wr) (fun _ i _ => n + 3 - (intOf i).toNat)
      case atStart => exact ⟨0, Nat.zero_le _, rfl, by rw [show endL (n + 3) 0 = [] from rfl, List.append_nil]; exact unhide HO, unhide HBr⟩
      case round =>
        clear HO HBr HYr
        obtain ⟨j, hj, rfl, hO, hb⟩ := hrel
        have HO := hide hO; have HBr := hide hb
        clear hO hb
        by_cases hlj : j < n + 3
        · have hlj' : (j : Int) < (n : Int) + 3 := by omega
          obtain ⟨L, hL⟩ : ∃ L, upwL len f 2 (n + 3) k ++ endL (n + 3) j = L := ⟨_, rfl⟩
          have HT : Hid (upwL len f 2 (n + 3) k ++ endL (n + 3) (j + 1) = L ++ [((0 : Int), (j : Int))] ++ [((j : Int), (n : Int) + 3 - 1)]) := hide (by rw [end_succ, ← List.append_assoc, ← List.append_assoc, hL]; simp)
          rw [hL] at HO
          clear hL
          obtain ⟨i0, hi, hz0, hz1, hz2⟩ := info_parts info_pair
          go_wp2_with (at_builtin; refine wpList_append_own_at _ rfl _ _ 32 rfl W.heap.size 93 i0 _ 2 16 Tryd.underlying32 hi hz0 hz1 hz2 rfl (by omega) _ _ _ rfl ((unhide HO).alloc _) ⟨wr.heap.size, 0, none⟩ 1 1 [.int .i64 (0), .int .i64 (j)] rfl rfl (cell_two wr 93 _ _) (by simp [Value.oneCell']) (by unfold maxLen; omega) (by omega) (by have := (unhide HBr).size; simp; omega) ?_)
          intro v3 w3 ho' hgr' _ _
          have hB3 := ((unhide HBr).alloc (unhide HBr).size (.cells #[.int .i64 (0), .int .i64 (j)] 93)).grown hgr' (by have := (unhide HBr).size; simp; omega) (fun q' e => owns_block (unhide HO) e)
          have HO3 : Hid (w3.ownsRow W.heap.size 93 2 v3 (k + j * 2 + 1) (pp (L ++ [((0 : Int), (j : Int))]))) := hide (by rw [pp_snoc]; exact ho')
          have HB3 := hide hB3
          clear hgr' hB3 ho' HO HBr
          go_wp2_with (at_builtin; refine wpList_append_own_at _ rfl _ _ 32 rfl W.heap.size 93 i0 _ 2 16 Tryd.underlying32 hi hz0 hz1 hz2 rfl (by omega) _ _ _ rfl ((unhide HO3).alloc _) ⟨w3.heap.size, 0, none⟩ 1 1 [.int .i64 (j), .int .i64 ((n : Int) + 3 - 1)] rfl rfl (cell_two w3 93 _ _) (by simp [Value.oneCell']) (by unfold maxLen; omega) (by omega) (by have := (unhide HB3).size; simp; omega) ?_)
          intro v4 w4 ho' hgr' _ _
          have hB4 := ((unhide HB3).alloc (unhide HB3).size (.cells #[.int .i64 (j), .int .i64 ((n : Int) + 3 - 1)] 93)).grown hgr' (by have := (unhide HB3).size; simp; omega) (fun q' e => owns_block (unhide HO3) e)
          have HO4 : Hid (w4.ownsRow W.heap.size 93 2 v4 (k + (j + 1) * 2) (pp (upwL len f 2 (n + 3) k ++ endL (n + 3) (j + 1)))) := hide (by rw [unhide HT, show k + (j + 1) * 2 = k + j * 2 + 1 + 1 by omega, pp_snoc]; exact ho')
          have HB4 := hide hB4
          clear hgr' hB4 ho' HO3 HB3
          clear hi hz0 hz1 hz2 HT
          go_wp2
          go_roundw
          case rel => exact ⟨j + 1, by omega, by go_num, unhide HO4, unhide HB4⟩
          case measure => simp [intOf]; omega
        · obtain rfl : j = n + 3 := by omega
          rw [unhide HLF] at HO
          have hPl : k + (n + 3) * 2 = LF.length := (unhide HL).symm
          rw [hPl] at HO
          obtain ⟨g, cap, rfl, hP⟩ := pairs_of_owns (unhide HO)
          have HP := hide hP
          have HR2 := hide ((unhide HR).mono (unhide HBr) (unhide HR).lt)
          have HB2 := hide ((unhide HB).trans ((unhide HBr).mono (by have := unhide HWS; omega)))
          have HYr := hide ((unhide HY).mono (unhide HBr))
          clear hP hPl
          go_wp2_with fail
          refine (tk_call (f := f) (p := 2 + 2 * k) (n := n + 3) hlen (by omega) (by omega) (by omega) c (unhide HYr) (by omega) (by omega)).mono ?_
          rw [unhide EB]
          rintro e w3 ⟨rfl, hw⟩
          rw [hw]
          clear hw w3
          go_wp2_with fail
          refine (l1Turn_any (n + 3) b LF g cap wr (by omega) (by omega) (by omega) (by have := unhide HL; omega) (unhide HS) (unhide HP)).mono ?_
          rintro e w3 ⟨v, rfl, hO, hb3⟩
          have hR3 := (unhide HR2).mono hb3 (unhide HR2).lt
          have hB3 := (unhide HB2).trans (hb3.mono (unhide HB2).size)
          obtain ⟨r0, r1⟩ : w3.cell? ⟨w.heap.size, 0, none⟩ = some (.int .i64 0) ∧ w3.cell? ⟨w.heap.size, 1, none⟩ = some (.slice none 0 0) := ⟨hR3.cell 0, hR3.cell 1⟩
          have f2 := hR3.free 0; have f3 := hR3.free 1
          have hlt2 := (unhide HR2).lt
          have HO3 := hide hO; have HB3 := hide hB3
          obtain ⟨g3, cap3, rfl, -⟩ := pairs_of_owns hO
          clear hR3 hB3 hO hb3
          go_wp2
          refine bodyPost_ret (v := .agg #[.int .i64 ((n : Int) + 3), .slice g3 (turnL ((n + 3 : Nat) : Int) b LF).length cap3]) (by simp [results, Tryd.results26, go_sem, *]) rfl ⟨_, rfl, ?_, ?_⟩
          · exact owns_low (owns_set (owns_set (unhide HO3) hlt2) hlt2) (unhide HB2).size
          · exact ((unhide HB3).setCell (by simp) _).setCell (by simp) _
end Go.Proofs.YtnmpkdmflijhpaaDoor

/- The model's drawing of orders: a lattice less one pair. -/
namespace Go.Proofs.YtnmpkdmflijhpaaDoor
open Go Go.RowKit

def lessL (l : List (Int × Int)) (x k : Nat) : List (Int × Int) := (List.range k).flatMap fun i => if i ≠ x then [l.getD i (0, 0)] else []
theorem less_succ (l : List (Int × Int)) (x k : Nat) : lessL l x (k + 1) = lessL l x k ++ (if k ≠ x then [l.getD k (0, 0)] else []) := by simp [lessL, List.range_succ]
theorem less_len (l : List (Int × Int)) (x : Nat) : ∀ k, (lessL l x k).length ≤ k
  | 0 => Nat.le_refl _
  | k + 1 => by rw [less_succ, List.length_append]; have := less_len l x k; split <;> simp <;> omega

set_option maxRecDepth 100000 in
set_option maxHeartbeats 4000000 in
theorem db_6 (len : Nat) (f : Nat → Nat) (hlen : len ≤ 1048576) (hk : tk len f 0 10 = 6) : ∃ (N : Int) (l : List (Int × Int)), l.length ≤ 1000 ∧ ∀ (w : World) (a : Option Addr) (c : Nat), Byts w a len f →
    Calls Tryd.prog 26 #[.slice a len c] w fun e w' => OrdOut w N l e w' := by
  have HK := hide hk
  clear hk
  obtain ⟨N, l, q, hN1, hN2, hl, hq, cD⟩ := dlo_any len f 1 hlen (by omega)
  have u1 : tk len f q (l.length + 1) < l.length + 1 := tk_lt hlen (by omega) (by omega) (by omega)
  obtain ⟨x, ex⟩ : ∃ x, tk len f q (l.length + 1) = x := ⟨_, rfl⟩
  rw [ex] at u1
  have EX := hide ex
  clear ex
  refine ⟨N, lessL l x l.length, by have := less_len l x l.length; omega, fun w a c hB => ?_⟩
  have CD := hide cD
  clear cD
  obtain ⟨W, hW⟩ : ∃ W, w.alloc (.cells #[.int .i64 0, .slice none 0 0] 34) = W := ⟨_, rfl⟩
  have hWs : W.heap.size = w.heap.size + 1 := by rw [← hW]; simp
  have bR : Blk W w.heap.size 34 [.int .i64 0, .slice none 0 0] := by rw [← hW]; exact Blk.new w 34 #[.int .i64 0, .slice none 0 0]
  have hb : Below w.heap.size w W := by rw [← hW]; exact (Below.refl _ _).alloc (Nat.le_refl _) _
  have HY := hide (hB.mono hb)
  have HR := hide bR; have HB := hide hb; have HWS := hide hWs
  clear bR hb hB hWs
  go_enter Tryd.func26, Tryd.ntmps26
  go_wp2_with fail
  try rw [hW]
  clear hW
  refine (tk_call (f := f) (p := 0) (n := 10) hlen (by omega) (by omega) (by omega) c (unhide HY) rfl rfl).mono ?_
  rw [unhide HK]
  rintro e w2 ⟨rfl, hw⟩
  rw [hw]
  clear hw w2
  go_wp2_with fail
  refine (unhide CD W a c (unhide HY)).mono ?_
  rintro e w2 ⟨v, rfl, hO, hb2⟩
  have hOb : Ob W (w2.alloc (.cells #[.int .i64 N, v] 34)) w2.heap.size N v l := Ob.new hO hb2
  obtain ⟨g, cap, rfl⟩ := hOb.slice
  clear hO hb2
  obtain ⟨B, hB⟩ : ∃ B, w2.heap.size = B := ⟨_, rfl⟩
  rw [hB] at hOb
  obtain ⟨w3, hw3⟩ : ∃ w3, w2.alloc (.cells #[.int .i64 N, .slice g l.length cap] 34) = w3 := ⟨_, rfl⟩
  rw [hw3] at hOb
  have HOb := hide hOb; have HY3 := hide ((unhide HY).mono hOb.low)
  obtain ⟨o0, o1⟩ : w3.cell? ⟨B, 0, none⟩ = some (.int .i64 N) ∧ w3.cell? ⟨B, 1, none⟩ = some (.slice g l.length cap) := ⟨hOb.blk.cell 0, hOb.blk.cell 1⟩
  have f0 := hOb.blk.free 0; have f1 := hOb.blk.free 1
  clear hOb
  go_wp2_with fail
  try rw [hB]
  try rw [hw3]
  clear hB hw3 w2
  refine (tk_call (f := f) (p := q) (n := l.length + 1) hlen (by omega) (by omega) (by omega) c (unhide HY3) rfl (by omega)).mono ?_
  rw [unhide EX]
  rintro e w2 ⟨rfl, hw⟩
  rw [hw]
  clear hw w2
  obtain ⟨H3, hH3⟩ : ∃ H3, w3.heap.size = H3 := ⟨_, rfl⟩
  obtain ⟨m, hm⟩ : ∃ m, l.length = m := ⟨_, rfl⟩
  have hP : Pairs w3 g l.length (fun k => (l.getD k (0, 0)).1) (fun k => (l.getD k (0, 0)).2) := by
    obtain ⟨g', c', e0, hP⟩ := pairs_of_owns (unhide HOb).own
    cases e0
    exact hP
  have HP := hide hP
  clear hP
  rw [hm] at HP o1 hl u1 EX ⊢
  have hm' := hide hm
  have HH := hide hH3
  have HO0 : Hid ((w3.alloc (.cells #[] 93)).ownsRow H3 93 2 (.slice (some ⟨H3, 0, none⟩) 0 0) 0 (pp [])) := hide (by rw [← hH3]; exact owns_none2 w3 93)
  have HB0 : Hid (Below H3 w3 (w3.alloc (.cells #[] 93))) := hide (by rw [← hH3]; exact (Below.refl _ _).alloc (Nat.le_refl _) _)
  have hlt3 : B < H3 := by rw [← hH3]; exact (unhide HOb).blk.lt
  have hB3 : Blk w3 B 34 [.int .i64 N, .slice g m cap] := by have := (unhide HOb).blk; rwa [hm] at this
  have HB3 := hide hB3
  clear hm hB3
  go_wp2
  try rw [hH3]
  clear hH3
  go_loopw [18, 19] (fun v i wr => ∃ k : Nat, k ≤ m ∧ i = .int .i64 k ∧ wr.ownsRow H3 93 2 v (lessL l x k).length (pp (lessL l x k)) ∧ Below H3 w3 wr) (fun _ i _ => m - (intOf i).toNat)
  case atStart => exact ⟨0, Nat.zero_le _, rfl, unhide HO0, unhide HB0⟩
  case round =>
    obtain ⟨k, hk, rfl, hO, hb⟩ := hrel
    clear HO0 HB0 o0 o1 f0 f1
    have HO := hide hO; have HBr := hide hb
    have bO := (unhide HB3).mono hb hlt3
    obtain ⟨o0, o1⟩ : wr.cell? ⟨B, 0, none⟩ = some (.int .i64 N) ∧ wr.cell? ⟨B, 1, none⟩ = some (.slice g m cap) := ⟨bO.cell 0, bO.cell 1⟩
    have f0 := bO.free 0; have f1 := bO.free 1
    have HbO := hide bO
    clear hO hb bO
    by_cases hlt : k < m
    · have hlt' : (k : Int) < m := by omega
      have HT := hide (less_succ l x k)
      have hln := less_len l x k
      obtain ⟨L, hL⟩ : ∃ L, lessL l x k = L := ⟨_, rfl⟩
      rw [hL] at HT HO hln
      clear hL
      by_cases hx : k = x
      · have hx' : (k : Int) = x := by omega
        rw [if_neg (by omega), List.append_nil] at HT
        go_wp2
        all_goals first | omega | skip
        go_roundw
        case rel => exact ⟨k + 1, by omega, by go_num, by rw [unhide HT]; exact unhide HO, unhide HBr⟩
        case measure => simp [intOf]; omega
      · have hx' : ¬ (k : Int) = x := by omega
        rw [if_pos (by omega)] at HT
        obtain ⟨gb, off, rfl, hgl, c0, c1⟩ := (unhide HP).mono ((unhide HBr).mono (Nat.le_of_eq (unhide HH))) k hlt
        obtain ⟨P1, hP1⟩ : ∃ P1, (l.getD k (0, 0)).1 = P1 := ⟨_, rfl⟩
        obtain ⟨P2, hP2⟩ : ∃ P2, (l.getD k (0, 0)).2 = P2 := ⟨_, rfl⟩
        have hPP : l.getD k (0, 0) = (P1, P2) := by rw [← hP1, ← hP2]
        rw [hPP] at HT
        simp only [hPP] at c0 c1
        clear hP1 hP2 hPP
        obtain ⟨i0, hi, hz0, hz1, hz2⟩ := info_parts info_pair
        go_wp2_with (at_builtin; refine wpList_append_own_at _ rfl _ _ 32 rfl H3 93 i0 _ 2 16 Tryd.underlying32 hi hz0 hz1 hz2 rfl (by omega) _ _ _ rfl ((unhide HO).alloc _) ⟨wr.heap.size, 0, none⟩ 1 1 [.int .i64 (P1), .int .i64 (P2)] rfl rfl (cell_two wr 93 _ _) (by simp [Value.oneCell']) (by unfold maxLen; omega) (by omega) (by have := (unhide HBr).size; have := unhide HH; simp; omega) ?_)
        intro v4 w4 ho' hgr' _ _
        have hB4 := ((unhide HBr).alloc (by have := (unhide HBr).size; have := unhide HH; omega) (.cells #[.int .i64 (P1), .int .i64 (P2)] 93)).grown hgr' (by have := (unhide HBr).size; have := unhide HH; simp; omega) (fun q' e => owns_block (unhide HO) e)
        have HO4 : Hid (w4.ownsRow H3 93 2 v4 (L.length + 1) (pp (lessL l x (k + 1)))) := hide (by rw [unhide HT, pp_snoc]; exact ho')
        have HB4 := hide hB4
        clear hgr' hB4 ho' HO HBr
        have HO5 : Hid (w4.ownsRow H3 93 2 v4 (lessL l x (k + 1)).length (pp (lessL l x (k + 1)))) := hide (by have h := unhide HO4; rw [unhide HT] at h ⊢; simpa only [List.length_append, List.length_singleton] using h)
        clear hi hz0 hz1 hz2 HT HO4
        go_wp2
        go_roundw
        case rel => exact ⟨k + 1, by omega, by go_num, unhide HO5, unhide HB4⟩
        case measure => simp [intOf]; omega
    · obtain rfl : k = m := by omega
      obtain ⟨g4, cap4, rfl, -⟩ := pairs_of_owns (unhide HO)
      have hne : (Value.slice g4 (lessL l x k).length cap4).ownBlock ≠ some B := fun e => by have := owns_block (unhide HO) e; omega
      have hOb5 : Ob W (wr.setCell ⟨B, 1, none⟩ (.slice g4 (lessL l x k).length cap4)) B N (.slice g4 (lessL l x k).length cap4) (lessL l x k) :=
        ⟨(unhide HbO).set 1 _, owns_low (owns_set_ne (unhide HO) hne) (by have := (unhide HOb).ge; omega), hne, ((unhide HOb).low.trans ((unhide HBr).mono (by have := (unhide HOb).ge; omega))).setCell (unhide HOb).ge _, (unhide HOb).ge⟩
      have HOb5 := hide hOb5
      clear hne hOb5
      have HLE : Hid (lessL l x l.length = lessL l x k) := hide (by rw [unhide hm'])
      obtain ⟨w6, hw6⟩ : ∃ w6, wr.setCell ⟨B, 1, none⟩ (.slice g4 (lessL l x k).length cap4) = w6 := ⟨_, rfl⟩
      rw [hw6] at HOb5
      have bR := (unhide HR).mono (unhide HOb5).low (unhide HR).lt
      obtain ⟨r0, r1⟩ : w6.cell? ⟨w.heap.size, 0, none⟩ = some (.int .i64 0) ∧ w6.cell? ⟨w.heap.size, 1, none⟩ = some (.slice none 0 0) := ⟨bR.cell 0, bR.cell 1⟩
      have rf0 := bR.free 0; have rf1 := bR.free 1
      obtain ⟨ro0, ro1⟩ : w6.cell? ⟨B, 0, none⟩ = some (.int .i64 (N)) ∧ w6.cell? ⟨B, 1, none⟩ = some (.slice g4 ((lessL l x k).length) cap4) := ⟨(unhide HOb5).blk.cell 0, (unhide HOb5).blk.cell 1⟩
      have rne : ¬ B = w.heap.size := by have := (unhide HOb5).ge; have := unhide HWS; omega
      have rne2 : ¬ w.heap.size = B := fun e => rne e.symm
      clear bR
      go_wp2
      exact bodyPost_ret (v := .agg #[.int .i64 (N), .slice g4 ((lessL l x k).length) cap4]) (by simp [results, Tryd.results26, go_sem, *]) rfl (by rw [unhide HLE]; exact (unhide HOb5).out (unhide HR) (unhide HWS) (unhide HB) _ _)

theorem DrawBuildLattice_any (len : Nat) (f : Nat → Nat) (hlen : len ≤ 1048576) : ∃ (N : Int) (l : List (Int × Int)), l.length ≤ 1000 ∧ ∀ (w : World) (a : Option Addr) (c : Nat), Byts w a len f →
    Calls Tryd.prog 26 #[.slice a len c] w fun e w' => OrdOut w N l e w' := by
  have h : tk len f 0 10 < 10 := tk_lt hlen (by omega) (by omega) (by omega)
  obtain h | h | h | h | h | h | h : tk len f 0 10 < 4 ∨ tk len f 0 10 = 4 ∨ tk len f 0 10 = 5 ∨ tk len f 0 10 = 6 ∨ tk len f 0 10 = 7 ∨ tk len f 0 10 = 8 ∨ tk len f 0 10 = 9 := by omega
  · exact db_low len f hlen h
  · exact db_4 len f hlen h
  · exact db_5 len f hlen h
  · exact db_6 len f hlen h
  · exact db_7 len f hlen h
  · exact db_8 len f hlen h
  · exact db_9 len f hlen h
end Go.Proofs.YtnmpkdmflijhpaaDoor
