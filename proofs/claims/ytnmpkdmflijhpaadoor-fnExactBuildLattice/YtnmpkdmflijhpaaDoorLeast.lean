/- impl.labelSets.leastOf: the label of a set whose own set holds all of it. -/
import Derived.Test.YtnmpkdmflijhpaaDoorIter1
import Derived.Test.YtnmpkdmflijhpaaDoorArr
namespace Go.Proofs.YtnmpkdmflijhpaaDoor
open Go Go.RowKit Go.Shelf
attribute [local go_sem] Oper.semAt_some

/-- What leastOf answers. -/
def Least (g : Nat → Nat) (s : Nat) (v : Int) : Prop := (∃ c : Nat, c < 32 ∧ v = (c : Int) ∧ s.testBit c = true ∧ minusN s (g c) = 0) ∨ (v = -1 ∧ ∀ c : Nat, s.testBit c = true → ¬ minusN s (g c) = 0)

set_option maxRecDepth 100000 in
set_option maxHeartbeats 2000000 in
theorem leastOf_in (n : Nat) (g : Nat → Nat) (s : Nat) (w : World) (hg : ∀ a, a < 32 → g a < 4294967296) (hs : s < 4294967296) (ht : Tab w) :
    CallsIn Fence.wide n Tryd.prog 84 #[.agg (us g).toArray, .agg #[.int .u32 (s : Int)]] w fun e w' => ∃ v, e = .returned (.int .i64 v) ∧ Least g s v ∧ Below w.heap.size w w' := by
  refine callsIn_of_wp_marks Tryd.func84 rfl trivial ?_ rfl
  simp only [Tryd.ntmps84, List.size_toArray, List.length_cons, List.length_nil, Nat.reduceAdd, Nat.reduceSub, Array.replicate_succ, Array.replicate_zero, List.push_toArray, List.append_toArray, List.nil_append, List.cons_append]
  gi_wp2_with fail
  refine callW ((labels_any _ _).mono ?_)
  rintro e w1 ⟨rfl, rfl⟩
  gi_wp2_with fail
  have B0 := ((Blk.new w 75 (us g).toArray).alloc (.cells #[.int .u32 (s : Int)] 73)).alloc (.cells #[.int .i64 0] 3) |>.alloc (.cells #[.int .u32 (s : Int)] 73)
  have B1 := ((Blk.new (w.alloc (.cells (us g).toArray 75)) 73 #[.int .u32 (s : Int)]).alloc (.cells #[.int .i64 0] 3)).alloc (.cells #[.int .u32 (s : Int)] 73)
  have B2 := (Blk.new ((w.alloc (.cells (us g).toArray 75)).alloc (.cells #[.int .u32 (s : Int)] 73)) 3 #[.int .i64 0]).alloc (.cells #[.int .u32 (s : Int)] 73)
  have B3 := Blk.new (((w.alloc (.cells (us g).toArray 75)).alloc (.cells #[.int .u32 (s : Int)] 73)).alloc (.cells #[.int .i64 0] 3)) 73 #[.int .u32 (s : Int)]
  have BW := below4 w (.cells (us g).toArray 75) (.cells #[.int .u32 (s : Int)] 73) (.cells #[.int .i64 0] 3) (.cells #[.int .u32 (s : Int)] 73)
  simp only [World.size_alloc] at B1 B2 B3
  have T4 := ht.mono BW
  have z4 : ((((w.alloc (.cells (us g).toArray 75)).alloc (.cells #[.int .u32 (s : Int)] 73)).alloc (.cells #[.int .i64 0] 3)).alloc (.cells #[.int .u32 (s : Int)] 73)).heap.size = w.heap.size + 1 + 1 + 1 + 1 := by simp
  obtain ⟨W4, hW4⟩ : ∃ W4, (((w.alloc (.cells (us g).toArray 75)).alloc (.cells #[.int .u32 (s : Int)] 73)).alloc (.cells #[.int .i64 0] 3)).alloc (.cells #[.int .u32 (s : Int)] 73) = W4 := ⟨_, rfl⟩
  rw [hW4] at B0 B1 B2 B3 BW T4 z4 ⊢
  clear hW4
  refine range_law (gf := 115) (lb := #[.pointer (some ⟨w.heap.size + 1 + 1 + 1, 0, none⟩)]) rfl (enters_of Tryd.func115 (by kernel_rfl) rfl)
    (labels_gives (w.heap.size + 1 + 1 + 1) s W4 (fun _ => False) hs B3 T4 (fun h => h)) (Below.refl _ _) (fun _ h => h.elim) rfl
    (fun pre W => (∀ c ∈ pre, ¬ minusN s (g c) = 0) ∧ Blk W w.heap.size 75 (us g) ∧ Blk W (w.heap.size + 1) 73 [.int .u32 (s : Int)] ∧ Blk W (w.heap.size + 1 + 1) 3 [.int .i64 0] ∧ Below w.heap.size w W)
    (fun pre W => ∃ c, c ∈ pre ∧ c < 32 ∧ minusN s (g c) = 0 ∧ Blk W (w.heap.size + 1 + 1) 3 [.int .i64 (c : Int)] ∧ Below w.heap.size w W)
    ?hI ?hIx ⟨fun _ h => (by cases h), B0, B1, B2, BW⟩
    (fun x => { tmps := #[.agg (us g).toArray, .agg #[.int .u32 (s : Int)], .pointer (some ⟨w.heap.size, 0, none⟩), .pointer (some ⟨w.heap.size + 1, 0, none⟩), .pointer (some ⟨w.heap.size + 1 + 1, 0, none⟩), .int .i64 (x : Int), .agg #[.int .u32 (s : Int)], .func (.func 115) #[] #[.pointer (some ⟨w.heap.size + 1 + 1 + 1, 0, none⟩)], .int .i64 (x : Int), undef, undef, undef, undef, undef, undef, undef], defers := [] })
    ?assign ?body ?done ?stop
  case hI =>
    rintro pre W W' ⟨h1, h2, h3, h4, h5⟩ hb
    rw [z4] at hb
    exact ⟨h1, h2.mono hb (by omega), h3.mono hb (by omega), h4.mono hb (by omega), h5.trans (hb.mono (by omega))⟩
  case hIx =>
    rintro pre W W' ⟨c, h1, h2, h3, h4, h5⟩ hb
    rw [z4] at hb
    exact ⟨c, h1, h2, h3, h4.mono hb (by omega), h5.trans (hb.mono (by omega))⟩
  case assign =>
    intro m l x W K hK
    gi_wp2
    exact hK
  case body =>
    rintro m l pre x W ⟨h1, h2, h3, h4, h5⟩ ⟨hx32, hxs⟩
    have hmix : Tryd.prog.follows .mixedOrders = true := by kernel_rfl
    have cg := h2.cell x
    rw [us_get g hx32] at cg
    have cs := h3.cell 0
    simp only [List.getElem?_cons_zero] at cs
    have cr := h4.cell 0
    have fr := h4.free 0
    simp only [List.getElem?_cons_zero] at cr
    have hgx := hg x hx32
    have x0i : (0 : Int) ≤ x := by omega
    have x1i : (x : Int) < 32 := by omega
    have hlW := h4.lt
    have H1 := hide h1; have H2 := hide h2; have H3 := hide h3; have H4 := hide h4; have H5 := hide h5; clear h1 h2 h3 h4 h5
    have HXS := hide hxs; clear hxs
    have hm := minusN_lt (t := g x) hs
    cases hz : (minusN s (g x) == 0)
    · have HM : Hid (¬ minusN s (g x) = 0) := by simpa [Hid] using hz
      gi_wp2_with fail
      gi_region_with_o (first | (refine callR ((minus_any _ _ _ hs hgx).mono ?_); rintro e w' ⟨rfl, rfl⟩) | (refine callR ((empty_any _ _).mono ?_); rintro e w' ⟨rfl, rfl⟩))
      all_goals
        gi_wp2
        refine ⟨keepsO (below4 _ _ _ _ _).drew, KeepX.of_below (below4 _ _ _ _ _).drew, fun c hc => ?_, (unhide H2).mono (below4 _ _ _ _ _).drew (unhide H2).lt, (unhide H3).mono (below4 _ _ _ _ _).drew (unhide H3).lt, (unhide H4).mono (below4 _ _ _ _ _).drew (unhide H4).lt, (unhide H5).trans ((below4 W _ _ _ _).drew.mono (unhide H5).size)⟩
        rcases List.mem_append.1 hc with h | h
        · exact unhide H1 c h
        · rw [List.mem_singleton.1 h]; exact unhide HM
    · have HM : Hid (minusN s (g x) = 0) := by simpa [Hid] using hz
      have K4 := (unhide H4).cell4 0; have F4 := (unhide H4).free4 0
      simp only [List.getElem?_cons_zero] at K4
      gi_wp2_with fail
      gi_region_with_o (first | (refine callR ((minus_any _ _ _ hs hgx).mono ?_); rintro e w' ⟨rfl, rfl⟩) | (refine callR ((empty_any _ _).mono ?_); rintro e w' ⟨rfl, rfl⟩))
      all_goals
        gi_wp2
        refine ⟨(keepsO (below4 _ _ _ _ _)).trans ((KeepsOthers.setCell _ _ _).trans (KeepsOthers.drew _)), x, by simp, hx32, unhide HM, ?_, ?_⟩
        · exact ((unhide H4).mono (below4 _ _ _ _ _) (unhide H4).lt).set 0 (.int .i64 (x : Int))
        · exact (((unhide H5).trans ((below4 W _ _ _ _).mono (unhide H5).size)).setCell (p := ⟨w.heap.size + 1 + 1, 0, none⟩) (by simp; omega) _).drew
  case done =>
    rintro D xs W hD hS ⟨h1, h2, h3, h4, h5⟩ hK
    have cr := h4.cell 0
    have fr := h4.free 0
    simp only [List.getElem?_cons_zero] at cr
    have H1 := hide h1; have H4 := hide h4; have H5 := hide h5; have HK := hide hK; clear h1 h2 h3 h4 h5 hK
    have HS := hide hS; clear hS
    gi_wp2
    have hK' := (KeepsOthers.setCell W ⟨w.heap.size + 1 + 1, 0, none⟩ (.int .i64 (-1))).same D _ (unhide HK) rfl
    have hB' := ((unhide H4).set 0 (.int .i64 (-1))).put (.deferred none) hK' rfl
    refine ⟨by simp, .inl ⟨_, _, rfl, run_takeDeferred hK', ?_⟩⟩
    have hc5 := hB'.cell 0
    simp only [List.set_cons_zero, List.getElem?_cons_zero] at hc5
    refine ⟨.int .i64 (-1), ?_, -1, rfl, .inr ⟨rfl, fun c hc => unhide H1 c ((unhide HS c).2 hc)⟩, ?_⟩
    · simp [results, Tryd.f84, go_sem, hc5]
    · exact ((unhide H5).setCell (p := ⟨w.heap.size + 1 + 1, 0, none⟩) (by simp; omega) _).trans (below_put _ D _ (by omega))
  case stop =>
    rintro D pre W hD hSp ⟨c, h1, h2, h3, h4, h5⟩ hK
    have HK := hide hK; have H4 := hide h4; have H5 := hide h5; have H3 := hide h3; have HSp := hide hSp; clear h4 h5 h3 hK hSp
    gi_wp2
    refine ⟨by simp, .inl ⟨_, _, rfl, run_takeDeferred (unhide HK), ?_⟩⟩
    have hc5 := ((unhide H4).put (.deferred none) (unhide HK) rfl).cell 0
    simp only [List.getElem?_cons_zero] at hc5
    refine ⟨.int .i64 (c : Int), ?_, c, rfl, .inl ⟨c, h2, rfl, unhide HSp c h1, unhide H3⟩, ?_⟩
    · simp [results, Tryd.f84, go_sem, hc5]
    · exact (unhide H5).trans (below_put _ D _ (by omega))
theorem leastOf_any (g : Nat → Nat) (s : Nat) (w : World) (hg : ∀ a, a < 32 → g a < 4294967296) (hs : s < 4294967296) (ht : Tab w) :
    Calls Tryd.prog 84 #[.agg (us g).toArray, .agg #[.int .u32 (s : Int)]] w fun e w' => ∃ v, e = .returned (.int .i64 v) ∧ Least g s v ∧ Below w.heap.size w w' :=
  (callsIn_wide (n := 9)).1 (leastOf_in 9 g s w hg hs ht)
end Go.Proofs.YtnmpkdmflijhpaaDoor
