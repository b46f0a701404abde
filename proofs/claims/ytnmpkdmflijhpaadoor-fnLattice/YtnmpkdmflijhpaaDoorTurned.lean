/- impl.labelSets.turned: down-sets out of up-sets. -/
import Derived.Test.YtnmpkdmflijhpaaDoorArrIn
import Derived.Test.YtnmpkdmflijhpaaDoorIter1
import Derived.Test.YtnmpkdmflijhpaaDoorFit
namespace Go.Proofs.YtnmpkdmflijhpaaDoor
open Go Go.RowKit Go.Shelf
attribute [local go_sem] Oper.semAt_some

theorem turn_add {g'' : Nat → Nat} {P : Nat → Nat → Bool} {k x : Nat} {pre : List Nat} (h : IsRel g'' (fun b a => P b a || (decide (a = k) && decide (b ∈ pre)))) (hx : x < 32) (hk : k < 32) :
    IsRel (fun j => if j = x then g'' x ||| 2 ^ k else g'' j) (fun b a => P b a || (decide (a = k) && decide (b ∈ pre ++ [x]))) :=
  (h.add hx hk).congr fun b a _ => by
    by_cases e1 : a = k
    · by_cases e2 : b = x <;> simp [e1, e2]
    · simp [e1]
theorem turn_done {g'' g : Nat → Nat} {R : Nat → Nat → Bool} {k : Nat} {xs : List Nat} (h : IsRel g'' (fun b a => (decide (a < k) && R a b) || (decide (a = k) && decide (b ∈ xs)))) (hg : IsRel g R) (hk : k < 32) (hx : ∀ i, i ∈ xs ↔ (g k).testBit i = true) :
    IsRel g'' (fun b a => decide (a < k + 1) && R a b) := h.congr fun b a _ => by
  have e := (hg k hk).2 b
  by_cases h1 : a = k
  · subst h1
    rw [show decide (b ∈ xs) = R a b by rw [← e]; cases hb : (g a).testBit b <;> simp [hx, hb]]
    simp
  · rw [show decide (a < k + 1) = decide (a < k) by simp; omega]
    simp [h1]

set_option maxRecDepth 100000 in
set_option maxHeartbeats 4000000 in
theorem turned_in (m : Nat) (g : Nat → Nat) (R : Nat → Nat → Bool) (n : Nat) (w : World) (hn : n ≤ 32) (hg : IsRel g R) (ht : Tab w) :
    CallsIn Fence.wide m Tryd.prog 79 #[.agg (us g).toArray, .int .i64 n] w fun e w' => ∃ g', e = .returned (.agg (us g').toArray) ∧ IsRel g' (fun b a => decide (a < n) && R a b) ∧ Below w.heap.size w w' := by
  refine callsIn_of_wp_marks Tryd.func79 rfl trivial ?_ rfl
  simp only [Tryd.ntmps79, List.size_toArray, List.length_cons, List.length_nil, Nat.reduceAdd, Nat.reduceSub, Array.replicate_succ, Array.replicate_zero, List.push_toArray, List.append_toArray, List.nil_append, List.cons_append]
  gi_wp2_with (refine wpListIn_store_sets rfl _ _ rfl (w.heap.size + 1 + 1) (fun _ => 0) (fun _ => 0) rfl rfl (blk3 _ _ _ _ _ rfl) ?_; intro w1 hb1 hg1 hs1; have hA := (blk1 _ _ _ _ _).grown hg1 (by simp; omega); have hR := (blk2 _ _ _ _ (fun _ => 0) rfl).grown hg1 (by simp); have hB := (below3 _ _ _ _).trans ((Below.refl w.heap.size _).grown hg1 (by simp; omega) (fun k e => by cases e; omega)); replace hA := hide hA; replace hR := hide hR; replace hB := hide hB; replace hb1 := hide hb1; clear hg1 hs1)
  refine wpIn_loop (fun a W => ∃ (k : Nat) (g' : Nat → Nat) (Ds : List Nat) (u6 u7 u8 u11 u12 u13 u14 u15 u16 u17 u18 u19 u20 u21 u22 u23 u24 u25 u26 u27 : Value), a = { tmps := #[.agg (us g).toArray, .int .i64 (n : Int), .pointer (some ⟨w.heap.size, 0, none⟩), undef, .pointer (some ⟨w.heap.size + 1, 0, none⟩), .pointer (some ⟨w.heap.size + 1 + 1, 0, none⟩), u6, u7, u8, .int .i64 (n : Int), .int .i64 (k : Int), u11, u12, u13, u14, u15, u16, u17, u18, u19, u20, u21, u22, u23, u24, u25, u26, u27], defers := marks Ds } ∧ k ≤ n ∧ IsRel g' (fun b a => decide (a < k) && R a b) ∧ Blk W (w.heap.size + 1 + 1) 75 (us g') ∧ Blk W w.heap.size 75 (us g) ∧ Blk W (w.heap.size + 1) 75 (us fun _ => 0) ∧ Tab W ∧ Below w.heap.size w W ∧ Shut w.heap.size W Ds) (fun a _ => n - (intOf (a.tmps.getD 10 undef)).toNat) ?_ ?_
  · refine ⟨0, fun _ => 0, [], _, _, _, _, _, _, _, _, _, _, _, _, _, _, _, _, _, _, _, _, rfl, Nat.zero_le _, fun a _ => ⟨by simp, fun b => by simp⟩, unhide hb1, unhide hA, unhide hR, ht.mono (unhide hB), unhide hB, Shut.nil _ _⟩
  · clear hb1 hA hR hB
    rintro a W ⟨k, g', Ds, u6, u7, u8, u11, u12, u13, u14, u15, u16, u17, u18, u19, u20, u21, u22, u23, u24, u25, u26, u27, rfl, hk, hrel, hO, hS, hRes, hT, hB, hSh⟩
    by_cases hlt : k < n
    · have dk : decide ((k : Int) < n) = true := by simp; omega
      have k32 : k < 32 := by omega
      have cS := hS.cell k
      rw [us_get g k32] at cS
      have k0i : (0 : Int) ≤ k := by omega
      have k1i : (k : Int) < 32 := by omega
      have sS := hS.lt
      have HREL := hide hrel; have HO := hide hO; have HS := hide hS; have HRES := hide hRes; have HT := hide hT; have HB := hide hB; have HSH := hide hSh
      clear hrel hO hS hRes hT hB hSh
      have K1 : ∀ o, (W.alloc o).cell? ⟨w.heap.size, k, none⟩ = some (.int .u32 (g k : Int)) := fun o => (((unhide HS).alloc o).cell k).trans (us_get g k32)
      gi_wp2_with fail
      refine callW ((labels_any _ _).mono ?_)
      rintro e w2 ⟨rfl, rfl⟩
      gi_wp2_with fail
      have bA := (Blk.new W 3 #[.int .i64 (k : Int)]).alloc (.cells #[.int .u32 (g k : Int)] 73)
      have bL := Blk.new (W.alloc (.cells #[.int .i64 (k : Int)] 3)) 73 #[.int .u32 (g k : Int)]
      have bW : Below W.heap.size W ((W.alloc (.cells #[.int .i64 (k : Int)] 3)).alloc (.cells #[.int .u32 (g k : Int)] 73)) := ((Below.refl _ _).alloc (Nat.le_refl _) _).alloc (by simp) _
      have z5 : ((W.alloc (.cells #[.int .i64 (k : Int)] 3)).alloc (.cells #[.int .u32 (g k : Int)] 73)).heap.size = W.heap.size + 1 + 1 := by simp
      simp only [World.size_alloc] at bL
      obtain ⟨W5, hW5⟩ : ∃ W5, (W.alloc (.cells #[.int .i64 (k : Int)] 3)).alloc (.cells #[.int .u32 (g k : Int)] 73) = W5 := ⟨_, rfl⟩
      rw [hW5] at bA bL bW z5 ⊢
      clear hW5
      have lO := (unhide HO).lt
      have ltD := (unhide HSH).lt
      have w0 := (unhide HT).pos
      have nX : ¬ (0 = w.heap.size + 1 + 1) := by have := ht.pos; omega
      refine range_law (gf := 115) (lb := #[.pointer (some ⟨W.heap.size + 1, 0, none⟩)]) rfl (enters_of Tryd.func115 (by kernel_rfl) rfl)
        (labels_gives (W.heap.size + 1) (g k) W5 (fun j => j = w.heap.size + 1 + 1) (hg k k32).1 bL ((unhide HT).mono bW) nX) (Below.refl _ _) (fun j hj => by omega) rfl
        (fun pre W' => ∃ g'', IsRel g'' (fun b a => (decide (a < k) && R a b) || (decide (a = k) && decide (b ∈ pre))) ∧ Blk W' (w.heap.size + 1 + 1) 75 (us g'') ∧ Blk W' w.heap.size 75 (us g) ∧ Blk W' (w.heap.size + 1) 75 (us fun _ => 0) ∧ Blk W' W.heap.size 3 [.int .i64 (k : Int)] ∧ Tab W' ∧ Below w.heap.size w W' ∧ Shut w.heap.size W' Ds)
        (fun _ _ => False) ?hI (fun _ _ _ h _ => h)
        ⟨g', (unhide HREL).congr fun b a _ => by simp, (unhide HO).mono bW lO, (unhide HS).mono bW sS, (unhide HRES).mono bW (unhide HRES).lt, bA, (unhide HT).mono bW, (unhide HB).trans (bW.mono (unhide HB).size), (unhide HSH).below bW ltD⟩
        (fun x => { tmps := #[.agg (us g).toArray, .int .i64 (n : Int), .pointer (some ⟨w.heap.size, 0, none⟩), undef, .pointer (some ⟨w.heap.size + 1, 0, none⟩), .pointer (some ⟨w.heap.size + 1 + 1, 0, none⟩), .pointer (some ⟨W.heap.size, 0, none⟩), .int .i64 (x : Int), u8, .int .i64 (n : Int), .int .i64 (k : Int), .bool true, .int .i64 (k : Int), .int .i64 (k : Int), .pointer (some ⟨w.heap.size, k, none⟩), .agg #[.int .u32 (g k : Int)], .func (.func 115) #[] #[.pointer (some ⟨W.heap.size + 1, 0, none⟩)], .int .i64 (x : Int), u18, u19, u20, u21, u22, u23, u24, u25, u26, u27], defers := [] })
        ?assign ?body ?done (fun _ _ _ _ _ h _ => h.elim)
      case hI =>
        rintro pre W1 W2 ⟨g'', h1, h2, h3, h4, h5, h6, h7, h8⟩ hb
        rw [z5] at hb
        exact ⟨g'', h1, h2.mono hb (by omega), h3.mono hb (by omega), h4.mono hb (by omega), h5.mono hb (by omega), h6.at0 (hb.block 0 (by omega)), h7.trans (hb.mono (by omega)), h8.below hb (fun D hD => by have := ltD D hD; omega)⟩
      case assign =>
        intro m l x W' K hK
        gi_wp2
        exact hK
      case body =>
        rintro m l pre x W' ⟨g'', h1, h2, h3, h4, h5, h6, h7, h8⟩ ⟨x32, hxs⟩
        have hmix : Tryd.prog.follows .mixedOrders = true := by kernel_rfl
        have cO := h2.cell x
        rw [us_get g'' x32] at cO
        have fO := h2.free x
        have sO := h2.lt
        have cA := h5.cell 0
        simp only [List.getElem?_cons_zero] at cA
        have gx := (h1 x x32).1
        have k2 := two_lt k32
        have K4 := fun o1 o2 o3 o4 => (h2.cell4 x o1 o2 o3 o4).trans (us_get g'' x32)
        have F4 := h2.free4 x
        have K1' : ∀ o, (W'.alloc o).cell? ⟨w.heap.size + 1 + 1, x, none⟩ = some (.int .u32 (g'' x : Int)) := fun o => ((h2.alloc o).cell x).trans (us_get g'' x32)
        have K1A : ∀ o, (W'.alloc o).cell? ⟨W.heap.size, 0, none⟩ = some (.int .i64 (k : Int)) := fun o => (h5.alloc o).cell 0
        have x0i : (0 : Int) ≤ x := by omega
        have x1i : (x : Int) < 32 := by omega
        have H1 := hide h1; have H2 := hide h2; have H3 := hide h3; have H4 := hide h4; have H5 := hide h5; have H6 := hide h6; have H7 := hide h7; have H8 := hide h8
        clear h1 h2 h3 h4 h5 h6 h7 h8 K1 cS
        gi_wp2_with fail
        gi_region_with_o (first | (refine callR ((one_any _ _ k32).mono ?_); rintro e w' ⟨rfl, rfl⟩) | (refine callR ((union_any _ _ _ gx k2).mono ?_); rintro e w' ⟨rfl, rfl⟩))
        all_goals
          gi_wp2_with fail
          have hst := put_step (unhide H2) x32 (g'' x ||| 2 ^ k) (.cells #[.int .u32 ((2 ^ k : Nat) : Int)] 73) (.cells #[.int .u32 (g'' x : Int)] 73) (.cells #[.int .u32 ((2 ^ k : Nat) : Int)] 73) (.cells #[.int .u32 ((g'' x ||| 2 ^ k : Nat) : Int)] 73)
          simp only [Int.natCast_pow, Int.cast_ofNat_Int] at hst
          obtain ⟨s1, s2, s3, s4⟩ := hst
          exact ⟨s1, s2, _, turn_add (unhide H1) x32 k32, s3, s2.blk (unhide H3) (by omega), s2.blk (unhide H4) (by omega), s2.blk (unhide H5) (by omega), (unhide H6).keep s2 nX, (unhide H7).trans (s4 _ (by omega) sO), (unhide H8).keep s1⟩
      case done =>
        rintro D xs W' hD hS' ⟨g'', h1, h2, h3, h4, h5, h6, h7, h8⟩ hK
        have HX : Hid (IsRel g'' (fun b a => decide (a < k + 1) && R a b)) := turn_done h1 hg k32 hS'
        have HSH' : Hid (Shut w.heap.size W' (D :: Ds)) := h8.cons (by have := (unhide HB).size; omega) hK (fun hm => by have := ltD D hm; omega)
        have H2 := hide h2; have H3 := hide h3; have H4 := hide h4; have H6 := hide h6; have H7 := hide h7
        clear h1 h2 h3 h4 h5 h6 h7 h8 hK hS'
        gi_wp2_with fail
        refine ⟨⟨k + 1, g'', D :: Ds, ⟨by omega, rfl⟩, by omega, unhide HX, unhide H2, unhide H3, unhide H4, unhide H6, unhide H7, unhide HSH'⟩, ?_⟩
        simp [intOf]; omega
    · obtain rfl : k = n := by omega
      have dk : decide ((k : Int) < k) = false := by simp
      have HREL := hide hrel; have HO := hide hO; have HRES := hide hRes; have HB := hide hB; have HSH := hide hSh
      have sR := hRes.lt
      clear hrel hO hS hRes hT hB hSh
      gi_wp2_with (first | (refine wpListIn_load_sets rfl _ rfl (w.heap.size + 1 + 1) g' rfl (unhide HO) ?_) | (refine wpListIn_store_sets rfl _ _ rfl (w.heap.size + 1) (fun _ => 0) g' rfl rfl (unhide HRES) ?_; intro w2 hb2 hg2 hs2; replace hb2 := hide hb2; replace hg2 := hide hg2))
      refine leaves_marks (B := w.heap.size) Ds w2 ((unhide HSH).keep ⟨by omega, fun j o hj ho => ?_⟩) fun W' hk' hb' => ?_
      · refine ((unhide hg2).block j (Array.getElem?_eq_some_iff.1 hj).1 (fun e => ?_)).trans hj
        cases e
        rw [show W.heap[w.heap.size + 1]? = _ from unhide HRES] at hj
        cases hj; simp [Obj.isCells] at ho
      · refine ⟨.agg (us g').toArray, results_cell_row rfl _ _ (w.heap.size + 1) 75 (us g').toArray (0, 0) _ rfl (hk'.blk (unhide hb2) (fun h => h)) Tryd.underlying75 rfl (size_us g'), g', rfl, unhide HREL, ?_⟩
        exact ((unhide HB).trans ((Below.refl w.heap.size _).grown (unhide hg2) (unhide HB).size (fun j e => by cases e; omega))).trans hb'
theorem turned_any (g : Nat → Nat) (R : Nat → Nat → Bool) (n : Nat) (w : World) (hn : n ≤ 32) (hg : IsRel g R) (ht : Tab w) :
    Calls Tryd.prog 79 #[.agg (us g).toArray, .int .i64 n] w fun e w' => ∃ g', e = .returned (.agg (us g').toArray) ∧ IsRel g' (fun b a => decide (a < n) && R a b) ∧ Below w.heap.size w w' :=
  (callsIn_wide (n := 9)).1 (turned_in 9 g R n w hn hg ht)
end Go.Proofs.YtnmpkdmflijhpaaDoor
