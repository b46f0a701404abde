/- impl.labelSets.closed: what can be come to along the sets. -/
import Derived.Test.YtnmpkdmflijhpaaDoorArrIn
import Derived.Test.YtnmpkdmflijhpaaDoorIter2
namespace Go.Proofs.YtnmpkdmflijhpaaDoor
open Go Go.RowKit Go.Shelf
attribute [local go_sem] Oper.semAt_some

/-- The sets of all that can be come to. -/
def IsReach (g' : Nat → Nat) (P : Nat → Nat → Prop) : Prop := ∀ a, a < 32 → g' a < 4294967296 ∧ ∀ b, ((g' a).testBit b = true ↔ P a b)
theorem IsReach.congr {g' : Nat → Nat} {P Q : Nat → Nat → Prop} (h : IsReach g' P) (hPQ : ∀ a b, P a b ↔ Q a b) : IsReach g' Q := fun a ha => ⟨(h a ha).1, fun b => ((h a ha).2 b).trans (hPQ a b)⟩
theorem close_add {g'' : Nat → Nat} {P : Nat → Nat → Prop} {k x : Nat} {pre : List Nat} (h : IsReach g'' (fun a b => P a b ∨ (a = k ∧ b ∈ pre))) (hk : k < 32) (hx : x < 32) :
    IsReach (fun j => if j = k then g'' k ||| 2 ^ x else g'' j) (fun a b => P a b ∨ (a = k ∧ b ∈ pre ++ [x])) := fun a ha => by
  by_cases e : a = k
  · subst e
    simp only [if_true]
    refine ⟨or_lt (h a ha).1 (two_lt hx), fun b => ?_⟩
    rw [Nat.testBit_or, Bool.or_eq_true, (h a ha).2 b, Nat.testBit_two_pow, decide_eq_true_iff, List.mem_append, List.mem_singleton]
    constructor
    · rintro ((h1 | h1) | h1)
      · exact .inl h1
      · exact .inr ⟨by simp, .inl h1.2⟩
      · exact .inr ⟨by simp, .inr h1.symm⟩
    · rintro (h1 | ⟨-, h1 | h1⟩)
      · exact .inl (.inl h1)
      · exact .inl (.inr ⟨by simp, h1⟩)
      · exact .inr h1.symm
  · simp only [if_neg e]
    refine ⟨(h a ha).1, fun b => ?_⟩
    rw [(h a ha).2 b]; simp [e]
theorem close_done {g'' g : Nat → Nat} {k : Nat} {xs : List Nat} (h : IsReach g'' (fun a b => (a < k ∧ Reach g a b) ∨ (a = k ∧ b ∈ xs))) (hx : ∀ i, i ∈ xs ↔ Reach g k i) : IsReach g'' (fun a b => a < k + 1 ∧ Reach g a b) :=
  h.congr fun a b => by
    constructor
    · rintro (⟨h1, h2⟩ | ⟨rfl, h2⟩)
      · exact ⟨by omega, h2⟩
      · exact ⟨by omega, (hx b).1 h2⟩
    · rintro ⟨h1, h2⟩
      by_cases e : a = k
      · subst e; exact .inr ⟨rfl, (hx b).2 h2⟩
      · exact .inl ⟨by omega, h2⟩

set_option maxRecDepth 100000 in
set_option maxHeartbeats 4000000 in
theorem closed_in (m : Nat) (g : Nat → Nat) (n : Nat) (w : World) (hn : n ≤ 32) (hg : ∀ a, a < 32 → g a < 4294967296) (ht : Tab w) :
    CallsIn Fence.wide m Tryd.prog 44 #[.agg (us g).toArray, .int .i64 n] w fun e w' => ∃ g', e = .returned (.agg (us g').toArray) ∧ IsReach g' (fun a b => a < n ∧ Reach g a b) ∧ Below w.heap.size w w' := by
  refine callsIn_of_wp_marks Tryd.func44 rfl trivial ?_ rfl
  simp only [Tryd.ntmps44, List.size_toArray, List.length_cons, List.length_nil, Nat.reduceAdd, Nat.reduceSub, Array.replicate_succ, Array.replicate_zero, List.push_toArray, List.append_toArray, List.nil_append, List.cons_append]
  gi_wp2_with (refine wpListIn_store_sets rfl _ _ rfl (w.heap.size + 1 + 1) (fun _ => 0) (fun _ => 0) rfl rfl (blk3 _ _ _ _ _ rfl) ?_; intro w1 hb1 hg1 hs1; have hA := (blk1 _ _ _ _ _).grown hg1 (by simp; omega); have hR := (blk2 _ _ _ _ (fun _ => 0) rfl).grown hg1 (by simp); have hB := (below3 _ _ _ _).trans ((Below.refl w.heap.size _).grown hg1 (by simp; omega) (fun k e => by cases e; omega)); replace hA := hide hA; replace hR := hide hR; replace hB := hide hB; replace hb1 := hide hb1; clear hg1 hs1)
  refine wpIn_loop (fun a W => ∃ (k : Nat) (g' : Nat → Nat) (Ds : List Nat) (u6 u7 u8 u11 u12 u13 u14 u15 u16 u17 u18 u19 u20 u21 u22 u23 u24 u25 u26 : Value), a = { tmps := #[.agg (us g).toArray, .int .i64 (n : Int), .pointer (some ⟨w.heap.size, 0, none⟩), undef, .pointer (some ⟨w.heap.size + 1, 0, none⟩), .pointer (some ⟨w.heap.size + 1 + 1, 0, none⟩), u6, u7, u8, .int .i64 (n : Int), .int .i64 (k : Int), u11, u12, u13, u14, u15, u16, u17, u18, u19, u20, u21, u22, u23, u24, u25, u26], defers := marks Ds } ∧ k ≤ n ∧ IsReach g' (fun a b => a < k ∧ Reach g a b) ∧ Blk W (w.heap.size + 1 + 1) 75 (us g') ∧ Blk W w.heap.size 75 (us g) ∧ Blk W (w.heap.size + 1) 75 (us fun _ => 0) ∧ Tab W ∧ Below w.heap.size w W ∧ Shut w.heap.size W Ds) (fun a _ => n - (intOf (a.tmps.getD 10 undef)).toNat) ?_ ?_
  · refine ⟨0, fun _ => 0, [], _, _, _, _, _, _, _, _, _, _, _, _, _, _, _, _, _, _, _, rfl, Nat.zero_le _, fun a _ => ⟨by simp, fun b => by simp⟩, unhide hb1, unhide hA, unhide hR, ht.mono (unhide hB), unhide hB, Shut.nil _ _⟩
  · clear hb1 hA hR hB
    rintro a W ⟨k, g', Ds, u6, u7, u8, u11, u12, u13, u14, u15, u16, u17, u18, u19, u20, u21, u22, u23, u24, u25, u26, rfl, hk, hrel, hO, hS, hRes, hT, hB, hSh⟩
    by_cases hlt : k < n
    · have dk : decide ((k : Int) < n) = true := by simp; omega
      have k32 : k < 32 := by omega
      have sS := hS.lt
      have HREL := hide hrel; have HO := hide hO; have HS := hide hS; have HRES := hide hRes; have HT := hide hT; have HB := hide hB; have HSH := hide hSh
      clear hrel hO hS hRes hT hB hSh
      gi_wp2_with (refine wpListIn_load_sets rfl _ rfl w.heap.size g rfl ((unhide HS).alloc _) ?_)
      refine callW ((above_any _ _ _).mono ?_)
      rintro e w2 ⟨rfl, rfl⟩
      gi_wp2_with fail
      have bA := ((Blk.new W 3 #[.int .i64 (k : Int)]).alloc (.cells (us g).toArray 75)).alloc (.cells #[.int .i64 (k : Int)] 3)
      have bG := (Blk.new (W.alloc (.cells #[.int .i64 (k : Int)] 3)) 75 (us g).toArray).alloc (.cells #[.int .i64 (k : Int)] 3)
      have bK := Blk.new ((W.alloc (.cells #[.int .i64 (k : Int)] 3)).alloc (.cells (us g).toArray 75)) 3 #[.int .i64 (k : Int)]
      have bW := below3 W (.cells #[.int .i64 (k : Int)] 3) (.cells (us g).toArray 75) (.cells #[.int .i64 (k : Int)] 3)
      have z5 : (((W.alloc (.cells #[.int .i64 (k : Int)] 3)).alloc (.cells (us g).toArray 75)).alloc (.cells #[.int .i64 (k : Int)] 3)).heap.size = W.heap.size + 1 + 1 + 1 := by simp
      simp only [World.size_alloc] at bG bK
      obtain ⟨W5, hW5⟩ : ∃ W5, ((W.alloc (.cells #[.int .i64 (k : Int)] 3)).alloc (.cells (us g).toArray 75)).alloc (.cells #[.int .i64 (k : Int)] 3) = W5 := ⟨_, rfl⟩
      rw [hW5] at bA bG bK bW z5 ⊢
      clear hW5
      have lO := (unhide HO).lt
      have ltD := (unhide HSH).lt
      have w0 := (unhide HT).pos
      have nX : ¬ (0 = w.heap.size + 1 + 1) := by have := ht.pos; omega
      refine range_law (gf := 107) (lb := #[.pointer (some ⟨W.heap.size + 1 + 1, 0, none⟩), .pointer (some ⟨W.heap.size + 1, 0, none⟩)]) rfl (enters_of Tryd.func107 (by kernel_rfl) rfl)
        (above_gives (W.heap.size + 1 + 1) (W.heap.size + 1) k g W5 (fun j => j = w.heap.size + 1 + 1) k32 hg bK bG ((unhide HT).mono bW) (by omega) nX) (Below.refl _ _) (fun j hj => by omega) rfl
        (fun pre W' => ∃ g'', IsReach g'' (fun a b => (a < k ∧ Reach g a b) ∨ (a = k ∧ b ∈ pre)) ∧ Blk W' (w.heap.size + 1 + 1) 75 (us g'') ∧ Blk W' w.heap.size 75 (us g) ∧ Blk W' (w.heap.size + 1) 75 (us fun _ => 0) ∧ Blk W' W.heap.size 3 [.int .i64 (k : Int)] ∧ Tab W' ∧ Below w.heap.size w W' ∧ Shut w.heap.size W' Ds)
        (fun _ _ => False) ?hI (fun _ _ _ h _ => h)
        ⟨g', (unhide HREL).congr fun a b => by simp, (unhide HO).mono bW lO, (unhide HS).mono bW sS, (unhide HRES).mono bW (unhide HRES).lt, bA, (unhide HT).mono bW, (unhide HB).trans (bW.mono (unhide HB).size), (unhide HSH).below bW ltD⟩
        (fun x => { tmps := #[.agg (us g).toArray, .int .i64 (n : Int), .pointer (some ⟨w.heap.size, 0, none⟩), undef, .pointer (some ⟨w.heap.size + 1, 0, none⟩), .pointer (some ⟨w.heap.size + 1 + 1, 0, none⟩), .pointer (some ⟨W.heap.size, 0, none⟩), .int .i64 (x : Int), u8, .int .i64 (n : Int), .int .i64 (k : Int), .bool true, .int .i64 (k : Int), .agg (us g).toArray, .int .i64 (k : Int), .func (.func 107) #[] #[.pointer (some ⟨W.heap.size + 1 + 1, 0, none⟩), .pointer (some ⟨W.heap.size + 1, 0, none⟩)], .int .i64 (x : Int), u17, u18, u19, u20, u21, u22, u23, u24, u25, u26], defers := [] })
        ?assign ?body ?done (fun _ _ _ _ _ h _ => h.elim)
      case hI =>
        rintro pre W1 W2 ⟨g'', h1, h2, h3, h4, h5, h6, h7, h8⟩ hb
        rw [z5] at hb
        exact ⟨g'', h1, h2.mono hb (by omega), h3.mono hb (by omega), h4.mono hb (by omega), h5.mono hb (by omega), h6.at0 (hb.block 0 (by omega)), h7.trans (hb.mono (by omega)), h8.below hb (fun D hD => by have := ltD D hD; omega)⟩
      case assign =>
        intro m l x W' K hK
        gi_wp2
        exact hK
      case body =>
        rintro m l pre x W' ⟨g'', h1, h2, h3, h4, h5, h6, h7, h8⟩ x32
        have hmix : Tryd.prog.follows .mixedOrders = true := by kernel_rfl
        have cO := h2.cell k
        rw [us_get g'' k32] at cO
        have fO := h2.free k
        have sO := h2.lt
        have cA := h5.cell 0
        simp only [List.getElem?_cons_zero] at cA
        have gx := (h1 k k32).1
        have k2 := two_lt x32
        have K4 := fun o1 o2 o3 o4 => (h2.cell4 k o1 o2 o3 o4).trans (us_get g'' k32)
        have F4 := h2.free4 k
        have K1' : ∀ o, (W'.alloc o).cell? ⟨w.heap.size + 1 + 1, k, none⟩ = some (.int .u32 (g'' k : Int)) := fun o => ((h2.alloc o).cell k).trans (us_get g'' k32)
        have K1A : ∀ o, (W'.alloc o).cell? ⟨W.heap.size, 0, none⟩ = some (.int .i64 (k : Int)) := fun o => (h5.alloc o).cell 0
        have K4A := h5.cell4 0
        simp only [List.getElem?_cons_zero] at K4A
        have x0i : (0 : Int) ≤ k := by omega
        have x1i : (k : Int) < 32 := by omega
        have H1 := hide h1; have H2 := hide h2; have H3 := hide h3; have H4 := hide h4; have H5 := hide h5; have H6 := hide h6; have H7 := hide h7; have H8 := hide h8
        clear h1 h2 h3 h4 h5 h6 h7 h8
        gi_wp2_with fail
        gi_region_with_o (first | (refine callR ((one_any _ _ x32).mono ?_); rintro e w' ⟨rfl, rfl⟩) | (refine callR ((union_any _ _ _ gx k2).mono ?_); rintro e w' ⟨rfl, rfl⟩))
        all_goals
          gi_wp2_with fail
          have hst := put_step (unhide H2) k32 (g'' k ||| 2 ^ x) (.cells #[.int .u32 ((2 ^ x : Nat) : Int)] 73) (.cells #[.int .u32 (g'' k : Int)] 73) (.cells #[.int .u32 ((2 ^ x : Nat) : Int)] 73) (.cells #[.int .u32 ((g'' k ||| 2 ^ x : Nat) : Int)] 73)
          simp only [Int.natCast_pow, Int.cast_ofNat_Int] at hst
          obtain ⟨s1, s2, s3, s4⟩ := hst
          exact ⟨s1, s2, _, close_add (unhide H1) k32 x32, s3, s2.blk (unhide H3) (by omega), s2.blk (unhide H4) (by omega), s2.blk (unhide H5) (by omega), (unhide H6).keep s2 nX, (unhide H7).trans (s4 _ (by omega) sO), (unhide H8).keep s1⟩
      case done =>
        rintro D xs W' hD hS' ⟨g'', h1, h2, h3, h4, h5, h6, h7, h8⟩ hK
        have HX : Hid (IsReach g'' (fun a b => a < k + 1 ∧ Reach g a b)) := close_done h1 hS'
        have HSH' : Hid (Shut w.heap.size W' (D :: Ds)) := h8.cons (by have := (unhide HB).size; omega) hK (fun hm => by have := ltD D hm; omega)
        have H2 := hide h2; have H3 := hide h3; have H4 := hide h4; have H6 := hide h6; have H7 := hide h7
        clear h1 h2 h3 h4 h5 h6 h7 h8 hK hS'
        gi_wp2_with fail
        refine ⟨⟨k + 1, g'', D :: Ds, ⟨by omega, rfl⟩, by omega, unhide HX, unhide H2, unhide H3, unhide H4, unhide H6, unhide H7, unhide HSH'⟩, ?_⟩
        simp [intOf]; omega
    · obtain rfl : k = n := by omega
      have dk : decide ((k : Int) < k) = false := by simp
      have HREL := hide hrel; have HO := hide hO; have HRES := hide hRes; have HB := hide hB; have HSH := hide hSh
      have sR := hRes.lt
      clear hrel hO hS hRes hT hB hSh
      gi_wp2_with (first | (refine wpListIn_load_sets rfl _ rfl (w.heap.size + 1 + 1) g' rfl (unhide HO) ?_) | (refine wpListIn_store_sets rfl _ _ rfl (w.heap.size + 1) (fun _ => 0) g' rfl rfl (unhide HRES) ?_; intro w2 hb2 hg2 hs2; replace hb2 := hide hb2; replace hg2 := hide hg2))
      refine leaves_marks (B := w.heap.size) Ds w2 ((unhide HSH).keep ⟨by omega, fun j o hj ho => ?_⟩) fun W' hk' hb' => ?_
      · refine ((unhide hg2).block j (Array.getElem?_eq_some_iff.1 hj).1 (fun e => ?_)).trans hj
        cases e
        rw [show W.heap[w.heap.size + 1]? = _ from unhide HRES] at hj
        cases hj; simp [Obj.isCells] at ho
      · refine ⟨.agg (us g').toArray, results_cell_row rfl _ _ (w.heap.size + 1) 75 (us g').toArray (0, 0) _ rfl (hk'.blk (unhide hb2) (fun h => h)) Tryd.underlying75 rfl (size_us g'), g', rfl, unhide HREL, ?_⟩
        exact ((unhide HB).trans ((Below.refl w.heap.size _).grown (unhide hg2) (unhide HB).size (fun j e => by cases e; omega))).trans hb'
theorem closed_any (g : Nat → Nat) (n : Nat) (w : World) (hn : n ≤ 32) (hg : ∀ a, a < 32 → g a < 4294967296) (ht : Tab w) :
    Calls Tryd.prog 44 #[.agg (us g).toArray, .int .i64 n] w fun e w' => ∃ g', e = .returned (.agg (us g').toArray) ∧ IsReach g' (fun a b => a < n ∧ Reach g a b) ∧ Below w.heap.size w w' :=
  (callsIn_wide (n := 9)).1 (closed_in 9 g n w hn hg ht)
end Go.Proofs.YtnmpkdmflijhpaaDoor
