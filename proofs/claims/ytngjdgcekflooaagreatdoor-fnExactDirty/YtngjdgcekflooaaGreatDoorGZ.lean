import Derived.Test.YtngjdgcekflooaaGreatDoorGY
import Derived.Test.YtngjdgcekflooaaGreatDoorGX
import Derived.Test.YtngjdgcekflooaaGreatDoorGQ
/- The program: what is dirty, along the order. -/
namespace Go.Proofs.YtngjdgcekflooaaGreatDoor
open Go Go.RowKit Go.Shelf
attribute [local go_sem] Oper.semAt_some

theorem make_in {F : Fence} {nF : Nat} {P : Program} (w : World) {ops : Array Oper} {rest : List Oper} {o : Oper} {a : Act} {Q : Exit → Act → World → Prop}
    (hg : o.guard = none) (l c : Operand) (t : TypeId) (hop : o.op = Op.makeSlice t l c)
    (base : Nat) (e : TypeId) (i : TypeInfo) (z : Value) (size : Nat) (h1 : P.underlying t = some (.slice e)) (h2 : P.info? e = some i) (h3 : i.zero = some z) (h4 : i.size = size)
    (kl kc : IntKind) (L C : Int) (n : Nat) (hl : a.eval l = .int kl L) (hc : a.eval c = .int kc C) (hL : L = (n : Int)) (hC : C = (n : Int)) (b2 : i.bytes * n ≤ 281474976710656) (b3 : n ≤ maxLen) (b4 : base ≤ w.heap.size)
    (hK : ∀ w', w'.ownsRow base e size (.slice (some ⟨w.heap.size, 0, none⟩) n n) n (madeCells z.cells (n * size)).toList → w.grownBy w' none → wpListIn F nF P ops Q rest (a.put o.dst (.slice (some ⟨w.heap.size, 0, none⟩) n n)) w') :
    wpListIn F nF P ops Q (o :: rest) a w := by
  refine wpListIn_plain hg fun K hK' => ?_
  obtain ⟨w', hrun, r1, r2⟩ := run_make_full (P := P) w base t e i z size h1 h2 h3 h4 kl kc n b2 b3 b4
  subst hL
  subst hC
  unfold Oper.wpIn
  refine ⟨?_, ?_⟩
  · simp [Oper.about, hop]
  · rw [Oper.semAt_plain F _ _ (by rw [hop]; intro c hc'; cases hc')]
    simp [execOp, hop, hl, hc, hrun, Result.andThen]
    exact hK' _ _ (hK w' r1 r2)

/-- The marks hold what is dirty of what has come. -/
def MkD (m : Fm) (k : Nat) (pre : List Nat) (M : Nat → Bool) : Prop := ∀ i, M i = true ↔ i ∈ pre ∧ (i = k ∨ Rch m k i)
theorem nxt_new {m : Fm} {D : List Nat} {x : Nat} (h : nxt m D = some x) : x ∉ D := fun hin => by
  have hr := (nxt_some h).2.1
  unfold rdyB at hr
  rw [decide_eq_true hin] at hr
  simp at hr
theorem dir_cond {m : Fm} {k x : Nat} {pre : List Nat} {M : Nat → Bool} (hv : VfA m) (hk : k < m.fields.length) (hx : nxt m pre = some x) (hM : MkD m k pre M) : (fedL m x).any M = true ↔ Rch m k x := by
  rw [rch_next hk hx, List.any_eq_true]
  have hxn := (nxt_some hx).1
  constructor
  · rintro ⟨j, hj, h⟩
    have hjn := fedL_lt hv hxn j hj
    exact ⟨j, ((hM j).1 h).1, hjn, (mem_fedL hv hjn hxn).1 hj, ((hM j).1 h).2⟩
  · rintro ⟨j, h1, h2, h3, h4⟩
    exact ⟨j, (mem_fedL hv h2 hxn).2 h3, (hM j).2 ⟨h1, h4⟩⟩
theorem dir_yes {m : Fm} {k x : Nat} {pre : List Nat} {M : Nat → Bool} (hx : nxt m pre = some x) (hM : MkD m k pre M) (h : x = k ∨ Rch m k x) : MkD m k (pre ++ [x]) (up M x true) ∧ dirBy (up M x true) k (pre ++ [x]) = dirBy M k pre ++ [x] := by
  have hn := nxt_new hx
  refine ⟨fun i => ?_, ?_⟩
  · by_cases e : i = x
    · subst e
      rw [up_at]
      simp [h]
    · rw [up_ne _ _ e, hM i]
      simp [e]
  · rw [dirBy_snoc, up_at, if_pos (by simp)]
    congr 1
    unfold dirBy
    refine List.filter_congr fun y hy => ?_
    rw [up_ne _ _ (fun e => hn (by rw [← e]; exact hy))]
theorem dir_no {m : Fm} {k x : Nat} {pre : List Nat} {M : Nat → Bool} (hx : nxt m pre = some x) (hM : MkD m k pre M) (h : ¬ (x = k ∨ Rch m k x)) : MkD m k (pre ++ [x]) M ∧ dirBy M k (pre ++ [x]) = dirBy M k pre := by
  have hn := nxt_new hx
  have hf : M x = false := by
    cases e : M x
    · rfl
    · exact absurd ((hM x).1 e).1 hn
  refine ⟨fun i => ?_, ?_⟩
  · by_cases e : i = x
    · subst e
      rw [hf]
      simp [h]
    · rw [hM i]
      simp [e]
  · rw [dirBy_snoc, if_neg, List.append_nil]
    rw [hf, decide_eq_false (fun e => h (.inl e))]
    simp
theorem MkD.all {m : Fm} {k : Nat} {M : Nat → Bool} (h : MkD m k (ordL m m.fields.length) M) (hl : (ordL m m.fields.length).length = m.fields.length) : ∀ i, i < m.fields.length → i ≠ k → (M i = true ↔ Rch m k i) := fun i hi hne => by
  have hin : i ∈ ordL m m.fields.length := Classical.byContradiction fun hni => by
    have h := pigeon m.fields.length ((i :: ordL m m.fields.length).map fun k => ((k : Nat) : Int)) ?_ ?_
    · simp at h; omega
    · exact List.Pairwise.map _ (fun a b h e => h (by omega)) (List.nodup_cons.2 ⟨hni, ordL_nodup m _⟩)
    · intro x hx
      obtain ⟨y, hy, rfl⟩ := List.mem_map.1 hx
      rcases List.mem_cons.1 hy with e | e
      · omega
      · have := ordL_lt m _ y e; omega
  rw [h i]
  simp [hin, hne]

set_option maxRecDepth 100000 in
set_option maxHeartbeats 8000000 in
theorem dirty_in (n : Nat) (m : Fm) (A : MA) (b k : Nat) (w : World) (hv : VfA m) (hf : FitM m) (hk : k < m.fields.length) (hcy : (ordL m m.fields.length).length = m.fields.length) (ha : MSl w m A) (hm : PMap w b (fNames m)) :
    CallsIn Fence.wide n Tryz.prog 39 #[wV m A b, .int .i64 k] w fun e w' => ∃ v l, e = .returned v ∧ w'.ownsRow w.heap.size 3 1 v l.length (ui l) ∧ (∃ M : Nat → Bool, (∀ i, i < m.fields.length → i ≠ k → (M i = true ↔ Rch m k i)) ∧ l = dirBy M k (ordL m m.fields.length)) ∧ Below w.heap.size w w' := by
  have HV := hide hv
  have HCo := hide fun W => order_any m A b W
  have HG := hide fun (w0 : World) (B : Nat) X hW hs hp => order_gives m A b B w0 X hv hf hW hs hp
  have HCf := hide fun W x (hx : x < m.fields.length) (hs : MSl W m A) => feeding_any m A b x W hx hs
  have HCr := hide fun W g x G M (hx : x < m.fields.length) (hs : MSl W m A) (hp : PMap W b (fNames m)) hg hG => readMarked_any m A b g x G M W hv hf hx hs hp hg hG
  have HS := hide ha; have HM := hide hm; have HCy := hide hcy
  obtain ⟨al, alc, ap, apc, ar, arc, af, afc, afa⟩ := A
  unfold wV at HCo HCf HCr ⊢
  dsimp only at HCo HG HCf HCr ⊢
  have hnf := hv.nf
  have HK := hide (((Blk.new w 56 #[.slice al m.labels.length alc, .slice ap m.below.length apc, .slice ar m.roles.length arc, .slice af m.fields.length afc, .map (some b)]).alloc (.cells #[.int .i64 k] 3)).alloc (.cells #[.slice none 0 0] 29))
  have HI := hide ((Blk.new (w.alloc (.cells #[.slice al m.labels.length alc, .slice ap m.below.length apc, .slice ar m.roles.length arc, .slice af m.fields.length afc, .map (some b)] 56)) 3 #[.int .i64 k]).alloc (.cells #[.slice none 0 0] 29))
  have HD := hide (Blk.new ((w.alloc (.cells #[.slice al m.labels.length alc, .slice ap m.below.length apc, .slice ar m.roles.length arc, .slice af m.fields.length afc, .map (some b)] 56)).alloc (.cells #[.int .i64 k] 3)) 29 #[.slice none 0 0])
  simp only [World.size_alloc] at HI HD
  have HB := hide ((((Below.refl w.heap.size w).alloc (Nat.le_refl _) (.cells #[.slice al m.labels.length alc, .slice ap m.below.length apc, .slice ar m.roles.length arc, .slice af m.fields.length afc, .map (some b)] 56)).alloc (by simp) (.cells #[.int .i64 k] 3)).alloc (by simp; omega) (.cells #[.slice none 0 0] 29))
  obtain ⟨W0, hW0⟩ : ∃ W0, ((w.alloc (.cells #[.slice al m.labels.length alc, .slice ap m.below.length apc, .slice ar m.roles.length arc, .slice af m.fields.length afc, .map (some b)] 56)).alloc (.cells #[.int .i64 k] 3)).alloc (.cells #[.slice none 0 0] 29) = W0 := ⟨_, rfl⟩
  have hs0 : W0.heap.size = w.heap.size + 3 := by rw [← hW0]; simp
  rw [hW0] at HK HI HD HB
  clear ha hm hv hf hcy
  obtain ⟨i0, hi, hz0, hz1, hz2⟩ := info_parts info_bool3
  have hbn : i0.bytes * m.fields.length ≤ 281474976710656 := by rw [hz2]; omega
  obtain ⟨y0, y1, y2, y3, y4⟩ := five (unhide HK)
  refine callsIn_of_wp_marks Tryz.func39 rfl trivial ?_ rfl
  simp only [Tryz.ntmps39, List.size_toArray, List.length_cons, List.length_nil, Nat.reduceAdd, Nat.reduceSub, Array.replicate_succ, Array.replicate_zero, List.push_toArray, List.append_toArray, List.nil_append, List.cons_append]
  gi_wp2_with (gi_at_make; refine make_in _ rfl (.tmp 11) (.tmp 11) 71 rfl (w.heap.size + 3) 4 i0 _ 1 Tryz.underlying71 hi hz0 hz1 .i64 .i64 _ _ m.fields.length rfl rfl rfl rfl hbn (by unfold maxLen; omega) (by first | omega | (simp; done)) ?_)
  intro w1 hown hgrow
  try rw [hW0] at hown hgrow
  try rw [hW0]
  try rw [hs0] at hown
  try rw [hs0]
  have hb1 : Below (w.heap.size + 3) W0 w1 := (Below.refl _ _).grown hgrow (by omega) (fun k e => by cases e)
  have HZ := hide (ms_made hown)
  have hz1s : w.heap.size + 3 < w1.heap.size := (unhide HZ).lt
  have HMx := hide (Blk.new w1 71 #[.slice (some ⟨w.heap.size + 3, 0, none⟩) m.fields.length m.fields.length])
  have hbm := (Below.refl w1.heap.size w1).alloc (Nat.le_refl _) (.cells #[.slice (some ⟨w.heap.size + 3, 0, none⟩) m.fields.length m.fields.length] 71)
  obtain ⟨W2, hW2⟩ : ∃ W2, w1.alloc (.cells #[.slice (some ⟨w.heap.size + 3, 0, none⟩) m.fields.length m.fields.length] 71) = W2 := ⟨_, rfl⟩
  rw [hW2] at HMx hbm
  obtain ⟨Mx, hMx⟩ : ∃ Mx, w1.heap.size = Mx := ⟨_, rfl⟩
  rw [hMx] at HMx hbm hz1s
  replace HK := hide (((unhide HK).mono hb1 (by omega)).mono hbm (by omega)); replace HI := hide (((unhide HI).mono hb1 (by omega)).mono hbm (by omega)); replace HD := hide (((unhide HD).mono hb1 (by omega)).mono hbm (by omega)); replace HZ := hide ((unhide HZ).mono hbm (by omega))
  replace HB := hide (((unhide HB).trans (hb1.mono (by omega))).trans (hbm.mono (by omega)))
  clear hown hgrow hb1 hbm hbn hi hz0 hz1 hz2 hW0 y0 y1 y2 y3 y4
  obtain ⟨y0, y1, y2, y3, y4⟩ := five (unhide HK)
  have hs2 : Mx < W2.heap.size := (unhide HMx).lt
  gi_wp2_with fail
  try rw [hW2]
  try rw [hMx]
  refine callW ((unhide HCo W2).mono ?_)
  rintro e W3 ⟨rfl, hO, hb3⟩
  replace HK := hide ((unhide HK).mono hb3 (unhide HK).lt); replace HI := hide ((unhide HI).mono hb3 (unhide HI).lt); replace HD := hide ((unhide HD).mono hb3 (unhide HD).lt); replace HZ := hide ((unhide HZ).mono hb3 (unhide HZ).lt); replace HMx := hide ((unhide HMx).mono hb3 (unhide HMx).lt)
  replace HB := hide ((unhide HB).trans (hb3.mono (unhide HB).size))
  have hs3 : W2.heap.size < W3.heap.size := hO.lt
  obtain ⟨B3, hB3⟩ : ∃ B3, W2.heap.size = B3 := ⟨_, rfl⟩
  rw [hB3] at hO
  have HG2 := hide (unhide HG W3 B3 (fun j => j = w.heap.size + 2 ∨ j = w.heap.size + 3) hO ((unhide HS).mono (unhide HB)) ((unhide HM).mono (unhide HB)))
  try rw [hB3]
  clear hW2 hMx hO hb3 HG HCo y0 y1 y2 y3 y4
  gi_wp2_with fail
  refine range_lawH (gf := 57) (lb := #[.pointer (some ⟨B3, 0, none⟩)]) rfl (enters_of Tryz.func57 (by kernel_rfl) rfl)
    (unhide HG2) (Below.refl _ _) (fun j hj => by omega) rfl
    (fun hi pre W => ∃ v M, Blk W (w.heap.size + 2) 29 [v] ∧ Blk W (w.heap.size + 3) 4 (ms m.fields.length M) ∧ Blk W Mx 71 [.slice (some ⟨w.heap.size + 3, 0, none⟩) m.fields.length m.fields.length] ∧ Blk W w.heap.size 56 [.slice al m.labels.length alc, .slice ap m.below.length apc, .slice ar m.roles.length arc, .slice af m.fields.length afc, .map (some b)] ∧ Blk W (w.heap.size + 1) 3 [.int .i64 k] ∧ W.ownsRow (w.heap.size + 4) 3 1 v (dirBy M k pre).length (ui (dirBy M k pre)) ∧ (∀ q, v.ownBlock = some q → hi ≤ q) ∧ hi ≤ W.heap.size ∧ MkD m k pre M ∧ Below w.heap.size w W)
    ?hI ?h0
    (fun x => { tmps := #[.agg #[.slice al m.labels.length alc, .slice ap m.below.length apc, .slice ar m.roles.length arc, .slice af m.fields.length afc, .map (some b)], .int .i64 k, .pointer (some ⟨w.heap.size, 0, none⟩), .pointer (some ⟨w.heap.size + 1, 0, none⟩), .slice none 0 0, .pointer (some ⟨w.heap.size + 1 + 1, 0, none⟩), .pointer (some ⟨Mx, 0, none⟩), .int .i64 (x : Int), .pointer (some ⟨w.heap.size, 0, none⟩), .pointer (some ⟨w.heap.size, 3, none⟩), .slice af m.fields.length afc, .int .i64 m.fields.length, .slice (some ⟨w.heap.size + 3, 0, none⟩) m.fields.length m.fields.length, .agg #[.slice al m.labels.length alc, .slice ap m.below.length apc, .slice ar m.roles.length arc, .slice af m.fields.length afc, .map (some b)], .func (.func 57) #[] #[.pointer (some ⟨B3, 0, none⟩)], .int .i64 (x : Int), undef, undef, undef, undef, undef, undef, undef, undef, undef, undef, undef, undef, undef, undef, undef, undef, undef, undef, undef], defers := [] })
    ?assign ?body ?done
  case hI =>
    rintro hi pre W W' ⟨v, M, h1, h2, h3, h4, h5, h6, h7, h8, h9, h10⟩ hb
    exact ⟨v, M, hb.blk h1 (by omega), hb.blk h2 (by omega), hb.blk h3 (by omega), hb.blk h4 (by omega), hb.blk h5 (by omega), hb.owns h6 (fun q e => by have := h7 q e; omega), h7, Nat.le_trans h8 hb.size, h9, h10.trans (hb.below (by omega) h10.size)⟩
  case h0 =>
    intro W hb
    exact ⟨.slice none 0 0, fun _ => false, (unhide HD).mono hb (unhide HD).lt, (unhide HZ).mono hb (unhide HZ).lt, (unhide HMx).mono hb (unhide HMx).lt, (unhide HK).mono hb (unhide HK).lt, (unhide HI).mono hb (unhide HI).lt, World.ownsRow_nil _ _ _ _, (fun q e => by cases e), Nat.le_refl _, (fun i => ⟨fun h => (by cases h), fun h => (by cases h.1)⟩), (unhide HB).trans (hb.mono (unhide HB).size)⟩
  case assign =>
    intro m' l x W K hK
    gi_wp2
    first | exact hK | simpa using hK
  case body =>
    rintro m' l hi pre x W hhi ⟨v, M, h1, h2, h3, h4, h5, h6, h7, h8, h9, h10⟩ ⟨ht1, ht2, ht3⟩
    have hxn := (nxt_some ht3).1
    have hxn' : (x : Int) < m.fields.length := by omega
    have hmix : Tryz.prog.follows .mixedOrders = true := by kernel_rfl
    have hdl : (dirBy M k pre).length ≤ 200 := by
      have := List.length_filter_le (fun x => decide (x = k) || M x) pre
      unfold dirBy
      omega
    have HCd := hide (dir_cond (unhide HV) hk ht3 h9)
    have HYs := hide (fun h => dir_yes (k := k) ht3 h9 h)
    have HNo := hide (fun h => dir_no (k := k) ht3 h9 h)
    have HSr := hide ((unhide HS).mono h10); have HMr := hide ((unhide HM).mono h10)
    have H1 := hide h1; have H2 := hide h2; have H3 := hide h3; have H4 := hide h4; have H5 := hide h5; have H6 := hide h6; have H7 := hide h7; have H10 := hide h10
    clear h1 h2 h3 h4 h5 h6 h7 h9 h10 ht1 ht3
    have hyes : (((x : Nat) : Int) == (k : Int)) = true ∨ (((x : Nat) : Int) == (k : Int)) = false := by
      cases h : (((x : Nat) : Int) == (k : Int))
      · exact .inr rfl
      · exact .inl rfl
    gi_wp2_with fail
    rcases hyes with he | he
    · have HR : Hid (x = k ∨ Rch m k x) := hide (.inl (by have := beq_iff_eq.1 he; omega))
      refine region_round (S := fun w' => Blk w' (w.heap.size + 1) 3 [.int .i64 k]) (by rintro ⟨a, w, h⟩; exact h) hmix (by kernel_rfl) (unhide H5) (fun hHeld => ?_)
      refine takeY (i := 0) (v := .int .i64 x) 16 rfl rfl (by kernel_rfl) (by kernel_rfl) (by kernel_rfl) (fun _ _ _ _ h => h) (by rfl) (fun w hS => by simp [execOp, go_sem, *]) hHeld ?_
      simp only [List.setIfInBounds_toArray, List.set_cons_zero, List.set_cons_succ]
      refine takeY (i := 1) (v := .int .i64 k) 17 rfl rfl (by kernel_rfl) (by kernel_rfl) (by kernel_rfl) (fun _ _ _ _ h => h) (by rfl) (fun w hS => by have q0 := hS.cell 0; simp only [List.getElem?_cons_zero] at q0; simp [execOp, go_sem, q0]) hHeld ?_
      simp only [List.setIfInBounds_toArray, List.set_cons_zero, List.set_cons_succ]
      refine takeY (i := 2) (v := .bool true) 18 rfl rfl (by kernel_rfl) (by kernel_rfl) (by kernel_rfl) (fun _ _ _ _ h => h) (by rfl) (fun w hS => by simp [execOp, go_sem, he]) hHeld ?_
      simp only [List.setIfInBounds_toArray, List.set_cons_zero, List.set_cons_succ]
      refine takeY (i := 3) (v := .bool true) 19 rfl rfl (by kernel_rfl) (by kernel_rfl) (by kernel_rfl) (fun _ _ _ _ h => h) (by rfl) (fun w hS => by simp [execOp, go_sem, *]) hHeld ?_
      simp only [List.setIfInBounds_toArray, List.set_cons_zero, List.set_cons_succ]
      refine takeN (i := 4) 20 rfl rfl (by kernel_rfl) (by kernel_rfl) (by kernel_rfl) (fun _ _ _ _ h => h) (by rfl) hHeld ?_
      simp only [List.setIfInBounds_toArray, List.set_cons_zero, List.set_cons_succ]
      refine takeN (i := 5) 21 rfl rfl (by kernel_rfl) (by kernel_rfl) (by kernel_rfl) (fun _ _ _ _ h => h) (by rfl) hHeld ?_
      simp only [List.setIfInBounds_toArray, List.set_cons_zero, List.set_cons_succ]
      refine takeN (i := 6) 22 rfl rfl (by kernel_rfl) (by kernel_rfl) (by kernel_rfl) (fun _ _ _ _ h => h) (by rfl) hHeld ?_
      simp only [List.setIfInBounds_toArray, List.set_cons_zero, List.set_cons_succ]
      refine takeN (i := 7) 23 rfl rfl (by kernel_rfl) (by kernel_rfl) (by kernel_rfl) (fun _ _ _ _ h => h) (by rfl) hHeld ?_
      simp only [List.setIfInBounds_toArray, List.set_cons_zero, List.set_cons_succ]
      refine takeN (i := 8) 24 rfl rfl (by kernel_rfl) (by kernel_rfl) (by kernel_rfl) (fun _ _ _ _ h => h) (by rfl) hHeld ?_
      simp only [List.setIfInBounds_toArray, List.set_cons_zero, List.set_cons_succ]
      refine takeN (i := 9) 25 rfl rfl (by kernel_rfl) (by kernel_rfl) (by kernel_rfl) (fun _ _ _ _ h => h) (by rfl) hHeld ?_
      simp only [List.setIfInBounds_toArray, List.set_cons_zero, List.set_cons_succ]
      refine takeY (i := 10) (v := .bool true) 26 rfl rfl (by kernel_rfl) (by kernel_rfl) (by kernel_rfl) (fun _ _ _ _ h => h) (by rfl) (fun w hS => by simp [execOp, go_sem, *]) hHeld ?_
      simp only [List.setIfInBounds_toArray, List.set_cons_zero, List.set_cons_succ]
      refine wpAnyH_done (by kernel_rfl) ?_ _
      have HB2 : Hid (Below W.heap.size W W.drew) := hide (Below.refl _ _).drew
      clear hHeld
      obtain ⟨U2, hU2⟩ : ∃ U2, W.drew = U2 := ⟨_, rfl⟩
      rw [hU2] at HB2 ⊢
      clear hU2
      obtain ⟨hm1, hm2⟩ := unhide HYs (unhide HR)
      have HMn := hide hm1
      obtain ⟨i0, hi0, hz0, hz1, hz2⟩ := info_parts infoI
      have g1 := (unhide H1).mono (unhide HB2) (unhide H1).lt
      have g2 := (unhide H2).mono (unhide HB2) (unhide H2).lt
      have g3 := (unhide H3).mono (unhide HB2) (unhide H3).lt
      have h8u : hi ≤ U2.heap.size := Nat.le_trans h8 (unhide HB2).size
      have z3 := g3.cell 0
      simp only [List.getElem?_cons_zero] at z3
      have zg := (g2.cell x).trans (ms_at M hxn)
      have fg := g2.free x
      have G1 := hide (g1.other (a := ⟨w.heap.size + 3, x, none⟩) (.bool true) (by simp))
      have G2 := hide (g2.set x (.bool true))
      rw [ms_set] at G2
      have G3 := hide (g3.other (a := ⟨w.heap.size + 3, x, none⟩) (.bool true) (show Mx ≠ w.heap.size + 3 by omega))
      have G4 := hide (((unhide H4).mono (unhide HB2) (unhide H4).lt).other (a := ⟨w.heap.size + 3, x, none⟩) (.bool true) (show w.heap.size ≠ w.heap.size + 3 by omega))
      have G5 := hide (((unhide H5).mono (unhide HB2) (unhide H5).lt).other (a := ⟨w.heap.size + 3, x, none⟩) (.bool true) (show w.heap.size + 1 ≠ w.heap.size + 3 by omega))
      have G6 := hide (owns_keep (X := fun j => j = w.heap.size + 3) (owns_mono (unhide H6) (unhide HB2)) (KeepX.set (a := ⟨w.heap.size + 3, x, none⟩) (.bool true) rfl) (fun k hk => by omega))
      have GB := hide (((unhide H10).trans ((unhide HB2).mono (unhide H10).size)).setCell (p := ⟨w.heap.size + 3, x, none⟩) (show w.heap.size ≤ w.heap.size + 3 by omega) (.bool true))
      have GO := hide ((keepsO (unhide HB2)).trans (KeepsOthers.setCell U2 ⟨w.heap.size + 3, x, none⟩ (.bool true)))
      have GK : Hid (KeepB (fun j => j = w.heap.size + 2 ∨ j = w.heap.size + 3) hi W (U2.setCell ⟨w.heap.size + 3, x, none⟩ (.bool true))) := hide ((KeepB.of_below (unhide HB2) h8).trans (KeepB.set (a := ⟨w.heap.size + 3, x, none⟩) (.bool true) (.inr rfl)))
      have hu3 : hi ≤ (U2.setCell ⟨w.heap.size + 3, x, none⟩ (.bool true)).heap.size := by simpa using h8u
      obtain ⟨U3, hU3⟩ : ∃ U3, U2.setCell ⟨w.heap.size + 3, x, none⟩ (.bool true) = U3 := ⟨_, rfl⟩
      rw [hU3] at G1 G2 G3 G4 G5 G6 GB GO GK hu3
      have c1 := (unhide G1).cell 0
      simp only [List.getElem?_cons_zero] at c1
      have c1' : U3.cell? ⟨w.heap.size + 1 + 1, 0, none⟩ = some v := c1
      clear g1 g2 g3 hm1
      generalize M x = u at zg
      gi_wp2_with (gi_at_builtin; refine wpListIn_append_own_at _ rfl _ _ 29 rfl (w.heap.size + 4) 3 i0 _ 1 8 Tryz.underlying29 hi0 hz0 hz1 hz2 rfl (by omega) _ _ _ rfl ((unhide G6).alloc _) ⟨U3.heap.size, 0, none⟩ 1 1 [.int .i64 x] rfl rfl (cell_one U3 3 _) (by simp [Value.oneCell']) (by unfold maxLen; omega) (by omega) (by simp; omega) ?_)
      intro v' u4 ho' hgr' _ hat'
      have hba := (Below.refl U3.heap.size U3).alloc (Nat.le_refl _) (.cells #[.int .i64 x] 3)
      have ho2 : u4.ownsRow (w.heap.size + 4) 3 1 v' (dirBy (up M x true) k (pre ++ [x])).length (ui (dirBy (up M x true) k (pre ++ [x]))) := by
        rw [hm2]
        simpa [ui] using ho'
      have h6a := (unhide G6).alloc (.cells #[.int .i64 x] 3)
      have k1 : Blk u4 (w.heap.size + 2) 29 [v] := Blk.grown ((unhide G1).mono hba (unhide G1).lt) hgr' (fun e => by have := (h6a.lt _ e.symm).1; omega)
      have k2 : Blk u4 (w.heap.size + 3) 4 (ms m.fields.length (up M x true)) := Blk.grown ((unhide G2).mono hba (unhide G2).lt) hgr' (fun e => by have := (h6a.lt _ e.symm).1; omega)
      have k3 := Blk.grown ((unhide G3).mono hba (unhide G3).lt) hgr' (fun e => by have := unhide H7 _ e.symm; omega)
      have k4 := Blk.grown ((unhide G4).mono hba (unhide G4).lt) hgr' (fun e => by have := (h6a.lt _ e.symm).1; omega)
      have k5 := Blk.grown ((unhide G5).mono hba (unhide G5).lt) hgr' (fun e => by have := (h6a.lt _ e.symm).1; omega)
      have c4 := k1.cell 0
      simp only [List.getElem?_cons_zero] at c4
      have c4' : u4.cell? ⟨w.heap.size + 1 + 1, 0, none⟩ = some v := c4
      have f4 := k1.free 0
      have f4' : u4.frozen? ⟨w.heap.size + 1 + 1, 0, none⟩ = false := f4
      obtain ⟨a', c', e', -⟩ := own_at ho2
      obtain ⟨n', hn'⟩ : ∃ n', (dirBy (up M x true) k (pre ++ [x])).length = n' := ⟨_, rfl⟩
      rw [hn'] at e'
      have HQ : Hid (∀ q, v'.ownBlock = some q → hi ≤ q) := hide fun q e => by
        rcases hat' with h | h
        · exact unhide H7 q (h.symm.trans e)
        · rw [h] at e
          cases e
          first | omega | (simp; omega)
      have K1 := hide (k1.set 0 v')
      simp only [List.set_cons_zero] at K1
      have K2 := hide (k2.other (a := ⟨w.heap.size + 2, 0, none⟩) v' (show w.heap.size + 3 ≠ w.heap.size + 2 by omega))
      have K3 := hide (k3.other (a := ⟨w.heap.size + 2, 0, none⟩) v' (show Mx ≠ w.heap.size + 2 by omega))
      have K4 := hide (k4.other (a := ⟨w.heap.size + 2, 0, none⟩) v' (show w.heap.size ≠ w.heap.size + 2 by omega))
      have K5 := hide (k5.other (a := ⟨w.heap.size + 2, 0, none⟩) v' (show w.heap.size + 1 ≠ w.heap.size + 2 by omega))
      have K6 := hide (owns_keep (X := fun j => j = w.heap.size + 2) ho2 (KeepX.set (W := u4) (a := ⟨w.heap.size + 2, 0, none⟩) v' rfl) (fun k hk => by omega))
      have KB := hide ((((unhide GB).trans (hba.mono (unhide GB).size)).grown hgr' (by simp; have := (unhide GB).size; omega) (fun q e => by have := (h6a.lt q e).1; omega)).setCell (p := ⟨w.heap.size + 2, 0, none⟩) (show w.heap.size ≤ w.heap.size + 2 by omega) v')
      have KO := hide (((unhide GO).trans ((keepsO hba).trans (KeepsOthers.of_grownBy hgr' fun j o ej hj => own_cells h6a ej hj))).trans (KeepsOthers.setCell u4 ⟨w.heap.size + 2, 0, none⟩ v'))
      have KK := hide ((((unhide GK).trans (KeepB.of_below hba hu3)).trans (KeepB.grown hgr' fun q e => .inl (unhide H7 q e))).trans (KeepB.set (a := ⟨w.heap.size + 2, 0, none⟩) v' (.inl rfl)))
      have KS : Hid (hi ≤ (u4.setCell ⟨w.heap.size + 2, 0, none⟩ v').heap.size) := hide (by have := hgr'.size; simp at this ⊢; omega)
      clear ho' hgr' hat' ho2 h6a k1 k2 k3 k4 k5 hba hi0 hz0 hz1 hz2 c1 c1' hn' hm2 zg fg z3 hU3
      subst e'
      gi_wp2_with fail
      exact ⟨unhide KO, unhide KK, _, _, unhide K1, unhide K2, unhide K3, unhide K4, unhide K5, unhide K6, unhide HQ, unhide KS, unhide HMn, unhide KB⟩
    · have he2 : ¬ x = k := fun e => by rw [e] at he; simp at he
      refine region_round (S := fun w' => Blk w' w.heap.size 56 [.slice al m.labels.length alc, .slice ap m.below.length apc, .slice ar m.roles.length arc, .slice af m.fields.length afc, .map (some b)] ∧ Blk w' (w.heap.size + 1) 3 [.int .i64 k] ∧ Blk w' Mx 71 [.slice (some ⟨w.heap.size + 3, 0, none⟩) m.fields.length m.fields.length]) (by rintro ⟨a, w, h⟩; exact h) hmix (by kernel_rfl) ⟨unhide H4, unhide H5, unhide H3⟩ (fun hHeld => ?_)
      refine takeY (i := 0) (v := .int .i64 x) 16 rfl rfl (by kernel_rfl) (by kernel_rfl) (by kernel_rfl) (fun _ _ _ _ h => h) (by rfl) (fun w hS => by simp [execOp, go_sem, *]) hHeld ?_
      simp only [List.setIfInBounds_toArray, List.set_cons_zero, List.set_cons_succ]
      refine takeY (i := 1) (v := .int .i64 k) 17 rfl rfl (by kernel_rfl) (by kernel_rfl) (by kernel_rfl) (fun _ _ _ _ h => h) (by rfl) (fun w hS => by have q0 := hS.2.1.cell 0; simp only [List.getElem?_cons_zero] at q0; simp [execOp, go_sem, q0]) hHeld ?_
      simp only [List.setIfInBounds_toArray, List.set_cons_zero, List.set_cons_succ]
      refine takeY (i := 2) (v := .bool false) 18 rfl rfl (by kernel_rfl) (by kernel_rfl) (by kernel_rfl) (fun _ _ _ _ h => h) (by rfl) (fun w hS => by simp [execOp, go_sem, he]) hHeld ?_
      simp only [List.setIfInBounds_toArray, List.set_cons_zero, List.set_cons_succ]
      refine takeY (i := 3) (v := .bool false) 19 rfl rfl (by kernel_rfl) (by kernel_rfl) (by kernel_rfl) (fun _ _ _ _ h => h) (by rfl) (fun w hS => by simp [execOp, go_sem, *]) hHeld ?_
      simp only [List.setIfInBounds_toArray, List.set_cons_zero, List.set_cons_succ]
      refine takeY (i := 4) (v := .agg #[.slice al m.labels.length alc, .slice ap m.below.length apc, .slice ar m.roles.length arc, .slice af m.fields.length afc, .map (some b)]) 20 rfl rfl (by kernel_rfl) (by kernel_rfl) (by kernel_rfl) (fun _ _ _ _ h => h) (by rfl) (fun w hS => by obtain ⟨q0, q1, q2, q3, q4⟩ := five hS.1; simp [execOp, go_sem, q0, q1, q2, q3, q4]) hHeld ?_
      simp only [List.setIfInBounds_toArray, List.set_cons_zero, List.set_cons_succ]
      refine takeY (i := 5) (v := .agg #[.slice al m.labels.length alc, .slice ap m.below.length apc, .slice ar m.roles.length arc, .slice af m.fields.length afc, .map (some b)]) 21 rfl rfl (by kernel_rfl) (by kernel_rfl) (by kernel_rfl) (fun _ _ _ _ h => h) (by rfl) (fun w hS => by obtain ⟨q0, q1, q2, q3, q4⟩ := five hS.1; simp [execOp, go_sem, q0, q1, q2, q3, q4]) hHeld ?_
      simp only [List.setIfInBounds_toArray, List.set_cons_zero, List.set_cons_succ]
      refine takeY (i := 6) (v := .int .i64 x) 22 rfl rfl (by kernel_rfl) (by kernel_rfl) (by kernel_rfl) (fun _ _ _ _ h => h) (by rfl) (fun w hS => by simp [execOp, go_sem, *]) hHeld ?_
      simp only [List.setIfInBounds_toArray, List.set_cons_zero, List.set_cons_succ]
      refine takeY (i := 8) (v := .slice (some ⟨w.heap.size + 3, 0, none⟩) m.fields.length m.fields.length) 24 rfl rfl (by kernel_rfl) (by kernel_rfl) (by kernel_rfl) (fun _ _ _ _ h => h) (by rfl) (fun w hS => by have q0 := hS.2.2.cell 0; simp only [List.getElem?_cons_zero] at q0; simp [execOp, go_sem, q0]) hHeld ?_
      simp only [List.setIfInBounds_toArray, List.set_cons_zero, List.set_cons_succ]
      have HD1 : Hid (Below W.heap.size W W.drew) := hide (Below.refl _ _).drew
      refine callY (i := 7) (f := 67) (args := #[.agg #[.slice al m.labels.length alc, .slice ap m.below.length apc, .slice ar m.roles.length arc, .slice af m.fields.length afc, .map (some b)], .int .i64 x]) (R := fun v wz => ∃ g, v = .slice (some ⟨g, 0, none⟩) 2 2 ∧ Blk wz g 87 [.slice (afa x).i m.fields[x].is.length (afa x).ic, .slice (afa x).h m.fields[x].wh.length (afa x).hc] ∧ Below W.heap.size W wz) 23 rfl rfl (by rfl) (by kernel_rfl) ?hrun7 ((unhide HCf W.drew x hxn ((unhide HSr).mono (unhide HD1))).mono fun e w6 ⟨g, he, hg, hb⟩ => ⟨_, he, g, rfl, hg, below_of_drew hb⟩) ?_
      case hrun7 => simp [execOp, go_sem]
      rintro v' V2 ⟨g, rfl, hg, hb2⟩
      replace hHeld : Blk V2 w.heap.size 56 [.slice al m.labels.length alc, .slice ap m.below.length apc, .slice ar m.roles.length arc, .slice af m.fields.length afc, .map (some b)] ∧ Blk V2 (w.heap.size + 1) 3 [.int .i64 k] ∧ Blk V2 Mx 71 [.slice (some ⟨w.heap.size + 3, 0, none⟩) m.fields.length m.fields.length] := ⟨(unhide H4).mono hb2 (unhide H4).lt, (unhide H5).mono hb2 (unhide H5).lt, (unhide H3).mono hb2 (unhide H3).lt⟩
      have HCr2 := hide (unhide HCr V2 g x (w.heap.size + 3) M hxn ((unhide HSr).mono hb2) ((unhide HMr).mono hb2) hg ((unhide H2).mono hb2 (unhide H2).lt))
      have HBv := hide hb2
      clear hg hb2 HD1
      refine ⟨hHeld, ?_⟩
      simp only [List.setIfInBounds_toArray, List.set_cons_zero, List.set_cons_succ]
      refine callY (i := 9) (f := 66) (args := #[.agg #[.slice al m.labels.length alc, .slice ap m.below.length apc, .slice ar m.roles.length arc, .slice af m.fields.length afc, .map (some b)], .slice (some ⟨g, 0, none⟩) 2 2, .slice (some ⟨w.heap.size + 3, 0, none⟩) m.fields.length m.fields.length]) (R := fun v wz => v = .bool ((fedL m x).any M) ∧ Below V2.heap.size V2 wz) 25 rfl rfl (by rfl) (by kernel_rfl) ?hrun9 ((unhide HCr2).mono fun e w6 ⟨he, hb⟩ => ⟨_, he, rfl, hb⟩) ?_
      case hrun9 => simp [execOp, go_sem]
      rintro v' U2 ⟨rfl, hb3⟩
      have HB2 := hide ((unhide HBv).trans (hb3.mono (unhide HBv).size))
      replace hHeld := And.intro (hHeld.1.mono hb3 hHeld.1.lt) (And.intro (hHeld.2.1.mono hb3 hHeld.2.1.lt) (hHeld.2.2.mono hb3 hHeld.2.2.lt))
      clear hb3 HBv HCr2
      refine ⟨hHeld, ?_⟩
      simp only [List.setIfInBounds_toArray, List.set_cons_zero, List.set_cons_succ]
      generalize (fedL m x).any M = q at *
      refine takeY (i := 10) (v := .bool q) 26 rfl rfl (by kernel_rfl) (by kernel_rfl) (by kernel_rfl) (fun _ _ _ _ h => h) (by rfl) (fun w hS => by simp [execOp, go_sem, *]) hHeld ?_
      simp only [List.setIfInBounds_toArray, List.set_cons_zero, List.set_cons_succ]
      refine wpAnyH_done (by kernel_rfl) ?_ _
      clear hHeld
      cases q
      · obtain ⟨hm1, hm2⟩ := unhide HNo (fun h => h.elim he2 (fun h => by have := (unhide HCd).2 h; cases this))
        have H6n : Hid (W.ownsRow (w.heap.size + 4) 3 1 v (dirBy M k (pre ++ [x])).length (ui (dirBy M k (pre ++ [x])))) := hide (by rw [hm2]; exact unhide H6)
        have HMn := hide hm1
        clear hm1 hm2
        gi_wp2_with fail
        exact ⟨keepsO (unhide HB2), KeepB.of_below (unhide HB2) h8, v, M, (unhide H1).mono (unhide HB2) (unhide H1).lt, (unhide H2).mono (unhide HB2) (unhide H2).lt, (unhide H3).mono (unhide HB2) (unhide H3).lt, (unhide H4).mono (unhide HB2) (unhide H4).lt, (unhide H5).mono (unhide HB2) (unhide H5).lt, owns_mono (unhide H6n) (unhide HB2), unhide H7, Nat.le_trans h8 (unhide HB2).size, unhide HMn, (unhide H10).trans ((unhide HB2).mono (unhide H10).size)⟩
      · have HR : Hid (x = k ∨ Rch m k x) := hide (.inr ((unhide HCd).1 rfl))
        obtain ⟨hm1, hm2⟩ := unhide HYs (unhide HR)
        have HMn := hide hm1
        obtain ⟨i0, hi0, hz0, hz1, hz2⟩ := info_parts infoI
        have g1 := (unhide H1).mono (unhide HB2) (unhide H1).lt
        have g2 := (unhide H2).mono (unhide HB2) (unhide H2).lt
        have g3 := (unhide H3).mono (unhide HB2) (unhide H3).lt
        have h8u : hi ≤ U2.heap.size := Nat.le_trans h8 (unhide HB2).size
        have z3 := g3.cell 0
        simp only [List.getElem?_cons_zero] at z3
        have zg := (g2.cell x).trans (ms_at M hxn)
        have fg := g2.free x
        have G1 := hide (g1.other (a := ⟨w.heap.size + 3, x, none⟩) (.bool true) (by simp))
        have G2 := hide (g2.set x (.bool true))
        rw [ms_set] at G2
        have G3 := hide (g3.other (a := ⟨w.heap.size + 3, x, none⟩) (.bool true) (show Mx ≠ w.heap.size + 3 by omega))
        have G4 := hide (((unhide H4).mono (unhide HB2) (unhide H4).lt).other (a := ⟨w.heap.size + 3, x, none⟩) (.bool true) (show w.heap.size ≠ w.heap.size + 3 by omega))
        have G5 := hide (((unhide H5).mono (unhide HB2) (unhide H5).lt).other (a := ⟨w.heap.size + 3, x, none⟩) (.bool true) (show w.heap.size + 1 ≠ w.heap.size + 3 by omega))
        have G6 := hide (owns_keep (X := fun j => j = w.heap.size + 3) (owns_mono (unhide H6) (unhide HB2)) (KeepX.set (a := ⟨w.heap.size + 3, x, none⟩) (.bool true) rfl) (fun k hk => by omega))
        have GB := hide (((unhide H10).trans ((unhide HB2).mono (unhide H10).size)).setCell (p := ⟨w.heap.size + 3, x, none⟩) (show w.heap.size ≤ w.heap.size + 3 by omega) (.bool true))
        have GO := hide ((keepsO (unhide HB2)).trans (KeepsOthers.setCell U2 ⟨w.heap.size + 3, x, none⟩ (.bool true)))
        have GK : Hid (KeepB (fun j => j = w.heap.size + 2 ∨ j = w.heap.size + 3) hi W (U2.setCell ⟨w.heap.size + 3, x, none⟩ (.bool true))) := hide ((KeepB.of_below (unhide HB2) h8).trans (KeepB.set (a := ⟨w.heap.size + 3, x, none⟩) (.bool true) (.inr rfl)))
        have hu3 : hi ≤ (U2.setCell ⟨w.heap.size + 3, x, none⟩ (.bool true)).heap.size := by simpa using h8u
        obtain ⟨U3, hU3⟩ : ∃ U3, U2.setCell ⟨w.heap.size + 3, x, none⟩ (.bool true) = U3 := ⟨_, rfl⟩
        rw [hU3] at G1 G2 G3 G4 G5 G6 GB GO GK hu3
        have c1 := (unhide G1).cell 0
        simp only [List.getElem?_cons_zero] at c1
        have c1' : U3.cell? ⟨w.heap.size + 1 + 1, 0, none⟩ = some v := c1
        clear g1 g2 g3 hm1
        generalize M x = u at zg
        gi_wp2_with (gi_at_builtin; refine wpListIn_append_own_at _ rfl _ _ 29 rfl (w.heap.size + 4) 3 i0 _ 1 8 Tryz.underlying29 hi0 hz0 hz1 hz2 rfl (by omega) _ _ _ rfl ((unhide G6).alloc _) ⟨U3.heap.size, 0, none⟩ 1 1 [.int .i64 x] rfl rfl (cell_one U3 3 _) (by simp [Value.oneCell']) (by unfold maxLen; omega) (by omega) (by simp; omega) ?_)
        intro v' u4 ho' hgr' _ hat'
        have hba := (Below.refl U3.heap.size U3).alloc (Nat.le_refl _) (.cells #[.int .i64 x] 3)
        have ho2 : u4.ownsRow (w.heap.size + 4) 3 1 v' (dirBy (up M x true) k (pre ++ [x])).length (ui (dirBy (up M x true) k (pre ++ [x]))) := by
          rw [hm2]
          simpa [ui] using ho'
        have h6a := (unhide G6).alloc (.cells #[.int .i64 x] 3)
        have k1 : Blk u4 (w.heap.size + 2) 29 [v] := Blk.grown ((unhide G1).mono hba (unhide G1).lt) hgr' (fun e => by have := (h6a.lt _ e.symm).1; omega)
        have k2 : Blk u4 (w.heap.size + 3) 4 (ms m.fields.length (up M x true)) := Blk.grown ((unhide G2).mono hba (unhide G2).lt) hgr' (fun e => by have := (h6a.lt _ e.symm).1; omega)
        have k3 := Blk.grown ((unhide G3).mono hba (unhide G3).lt) hgr' (fun e => by have := unhide H7 _ e.symm; omega)
        have k4 := Blk.grown ((unhide G4).mono hba (unhide G4).lt) hgr' (fun e => by have := (h6a.lt _ e.symm).1; omega)
        have k5 := Blk.grown ((unhide G5).mono hba (unhide G5).lt) hgr' (fun e => by have := (h6a.lt _ e.symm).1; omega)
        have c4 := k1.cell 0
        simp only [List.getElem?_cons_zero] at c4
        have c4' : u4.cell? ⟨w.heap.size + 1 + 1, 0, none⟩ = some v := c4
        have f4 := k1.free 0
        have f4' : u4.frozen? ⟨w.heap.size + 1 + 1, 0, none⟩ = false := f4
        obtain ⟨a', c', e', -⟩ := own_at ho2
        obtain ⟨n', hn'⟩ : ∃ n', (dirBy (up M x true) k (pre ++ [x])).length = n' := ⟨_, rfl⟩
        rw [hn'] at e'
        have HQ : Hid (∀ q, v'.ownBlock = some q → hi ≤ q) := hide fun q e => by
          rcases hat' with h | h
          · exact unhide H7 q (h.symm.trans e)
          · rw [h] at e
            cases e
            first | omega | (simp; omega)
        have K1 := hide (k1.set 0 v')
        simp only [List.set_cons_zero] at K1
        have K2 := hide (k2.other (a := ⟨w.heap.size + 2, 0, none⟩) v' (show w.heap.size + 3 ≠ w.heap.size + 2 by omega))
        have K3 := hide (k3.other (a := ⟨w.heap.size + 2, 0, none⟩) v' (show Mx ≠ w.heap.size + 2 by omega))
        have K4 := hide (k4.other (a := ⟨w.heap.size + 2, 0, none⟩) v' (show w.heap.size ≠ w.heap.size + 2 by omega))
        have K5 := hide (k5.other (a := ⟨w.heap.size + 2, 0, none⟩) v' (show w.heap.size + 1 ≠ w.heap.size + 2 by omega))
        have K6 := hide (owns_keep (X := fun j => j = w.heap.size + 2) ho2 (KeepX.set (W := u4) (a := ⟨w.heap.size + 2, 0, none⟩) v' rfl) (fun k hk => by omega))
        have KB := hide ((((unhide GB).trans (hba.mono (unhide GB).size)).grown hgr' (by simp; have := (unhide GB).size; omega) (fun q e => by have := (h6a.lt q e).1; omega)).setCell (p := ⟨w.heap.size + 2, 0, none⟩) (show w.heap.size ≤ w.heap.size + 2 by omega) v')
        have KO := hide (((unhide GO).trans ((keepsO hba).trans (KeepsOthers.of_grownBy hgr' fun j o ej hj => own_cells h6a ej hj))).trans (KeepsOthers.setCell u4 ⟨w.heap.size + 2, 0, none⟩ v'))
        have KK := hide ((((unhide GK).trans (KeepB.of_below hba hu3)).trans (KeepB.grown hgr' fun q e => .inl (unhide H7 q e))).trans (KeepB.set (a := ⟨w.heap.size + 2, 0, none⟩) v' (.inl rfl)))
        have KS : Hid (hi ≤ (u4.setCell ⟨w.heap.size + 2, 0, none⟩ v').heap.size) := hide (by have := hgr'.size; simp at this ⊢; omega)
        clear ho' hgr' hat' ho2 h6a k1 k2 k3 k4 k5 hba hi0 hz0 hz1 hz2 c1 c1' hn' hm2 zg fg z3 hU3
        subst e'
        gi_wp2_with fail
        exact ⟨unhide KO, unhide KK, _, _, unhide K1, unhide K2, unhide K3, unhide K4, unhide K5, unhide K6, unhide HQ, unhide KS, unhide HMn, unhide KB⟩
  case done =>
    rintro D hi xs W hD hDh hS ⟨v, M, h1, h2, h3, h4, h5, h6, h7, h8, h9, h10⟩ hK
    have c0 := h1.cell 0
    simp only [List.getElem?_cons_zero] at c0
    rw [hS] at h6 h9
    have H6 := hide h6; have H9 := hide h9; have H10 := hide h10; have HKd := hide hK
    clear h1 h2 h3 h4 h5 h6 h7 h9 h10 hS hK
    gi_wp2_with fail
    refine ⟨by simp, .inl ⟨_, _, rfl, run_takeDeferred (unhide HKd), ?_⟩⟩
    refine ⟨v, by simp [results, Tryz.f39, go_sem], v, _, rfl, owns_lower (owns_keep (X := fun _ => False) (unhide H6) (KeepX.put (o' := .deferred none) (unhide HKd) rfl) (fun k hk => hk.elim)) (by omega), ⟨M, (unhide H9).all (unhide HCy), rfl⟩, (unhide H10).trans (below_put _ D _ (by omega))⟩
end Go.Proofs.YtngjdgcekflooaaGreatDoor

/- The program: Dirty. -/
namespace Go.Proofs.YtngjdgcekflooaaGreatDoor
open Go Go.RowKit Go.Shelf

set_option maxRecDepth 100000 in
set_option maxHeartbeats 4000000 in
theorem implDirty_any (m : Fm) (A : MA) (kz : Int) (w : World) (hf : FitM m) (hcap : Caps m A) (ha : MSl w m A) (ht : Tabs w) (hy : TyW w) :
    Calls Tryz.prog 15 #[mV m A, .int .i64 kz] w fun r w' => ∃ v l, r = .returned v ∧ DirOk m kz (calcX m) l ∧ w'.ownsRow w.heap.size 3 1 v l.length (ui l) ∧ Below w.heap.size w w' := by
  have HVa : Hid (vfB m = true → VfA m) := hide fun h => Classical.byContradiction fun hn => by rw [vfB_false hn] at h; cases h
  have HCw := hide fun W (hs : MSl W m A) (ht : Tabs W) (hy : TyW W) => wiringOf_any m A W hf hcap hs ht hy
  have HCh := hide fun W b (hv : VfA m) (hs : MSl W m A) (hp : PMap W b (fNames m)) => hasCycle_any m A b W hv hf hs hp
  have HCd := hide fun W b k (hv : VfA m) (hk : k < m.fields.length) (hc : (ordL m m.fields.length).length = m.fields.length) (hs : MSl W m A) (hp : PMap W b (fNames m)) => (callsIn_wide (n := 9)).1 (dirty_in 9 m A b k W hv hf hk hc hs hp)
  obtain ⟨al, alc, ap, apc, ar, arc, af, afc, afa⟩ := A
  unfold mV at HCw ⊢
  unfold wV at HCw HCh HCd
  dsimp only at HCw HCh HCd ⊢
  have HK := hide (Blk.new w 35 #[.slice al m.labels.length alc, .slice ap m.below.length apc, .slice ar m.roles.length arc, .slice af m.fields.length afc])
  have HB := hide ((Below.refl w.heap.size w).alloc (Nat.le_refl _) (.cells #[.slice al m.labels.length alc, .slice ap m.below.length apc, .slice ar m.roles.length arc, .slice af m.fields.length afc] 35))
  obtain ⟨W0, hW0⟩ : ∃ W0, w.alloc (.cells #[.slice al m.labels.length alc, .slice ap m.below.length apc, .slice ar m.roles.length arc, .slice af m.fields.length afc] 35) = W0 := ⟨_, rfl⟩
  rw [hW0] at HK HB
  have HS := hide (ha.mono (unhide HB)); have HT := hide (ht.mono (unhide HB)); have HY := hide (hy.mono (unhide HB))
  clear ha ht hy hf hcap
  obtain ⟨y0, y1, y2, y3⟩ := quad (unhide HK)
  go_enter Tryz.func15, Tryz.ntmps15
  go_wp2_with fail
  try rw [hW0]
  refine (unhide HCw W0 (unhide HS) (unhide HT) (unhide HY)).mono ?_
  rintro r W1 ⟨h | h, hb1⟩
  · obtain ⟨hq, rfl⟩ := h
    replace HB := hide ((unhide HB).trans (hb1.mono (unhide HB).size))
    have HX : Hid (calcX m = []) := hide (by unfold calcX; rw [hq]; rfl)
    have HBz := hide ((unhide HB).alloc (unhide HB).size (.cells #[.slice none 0 0, .slice none 0 0, .slice none 0 0, .slice none 0 0, .map none] 56))
    clear hb1 hW0 y0 y1 y2 y3 hq
    have HDx : Hid (DirOk m kz (calcX m) []) := hide (.inl ⟨by rw [unhide HX]; simp, rfl⟩)
    go_wp2_with fail
    go_ret
    exact ⟨_, [], rfl, unhide HDx, World.ownsRow_nil _ _ _ _, unhide HBz⟩
  · obtain ⟨hq, b, rfl, hm⟩ := h
    have HV := hide (unhide HVa hq)
    have HX : Hid (calcX m = calcL m) := hide (by unfold calcX; rw [hq]; rfl)
    replace HK := hide ((unhide HK).mono hb1 (unhide HK).lt); replace HS := hide ((unhide HS).mono hb1); replace HB := hide ((unhide HB).trans (hb1.mono (unhide HB).size))
    have HM := hide hm
    clear hb1 hW0 y0 y1 y2 y3 hq hm HT HY HCw HVa
    have HKw := hide (Blk.new W1 56 #[.slice al m.labels.length alc, .slice ap m.below.length apc, .slice ar m.roles.length arc, .slice af m.fields.length afc, .map (some b)])
    have hba := (Below.refl W1.heap.size W1).alloc (Nat.le_refl _) (.cells #[.slice al m.labels.length alc, .slice ap m.below.length apc, .slice ar m.roles.length arc, .slice af m.fields.length afc, .map (some b)] 56)
    obtain ⟨W2, hW2⟩ : ∃ W2, W1.alloc (.cells #[.slice al m.labels.length alc, .slice ap m.below.length apc, .slice ar m.roles.length arc, .slice af m.fields.length afc, .map (some b)] 56) = W2 := ⟨_, rfl⟩
    rw [hW2] at HKw hba
    replace HK := hide ((unhide HK).mono hba (unhide HK).lt); replace HS := hide ((unhide HS).mono hba); replace HB := hide ((unhide HB).trans (hba.mono (unhide HB).size)); replace HM := hide ((unhide HM).mono hba)
    obtain ⟨X, hX⟩ : ∃ X, W1.heap.size = X := ⟨_, rfl⟩
    rw [hX] at HKw
    clear hba
    obtain ⟨z0, z1, z2, z3, z4⟩ := five (unhide HKw)
    go_wp2_with fail
    try rw [hW2]
    refine (unhide HCh W2 b (unhide HV) (unhide HS) (unhide HM)).mono ?_
    rintro r W3 ⟨rfl, hb3⟩
    replace HK := hide ((unhide HK).mono hb3 (unhide HK).lt); replace HS := hide ((unhide HS).mono hb3); replace HB := hide ((unhide HB).trans (hb3.mono (unhide HB).size)); replace HM := hide ((unhide HM).mono hb3); replace HKw := hide ((unhide HKw).mono hb3 (unhide HKw).lt)
    clear hb3 hW2 z0 z1 z2 z3 z4
    obtain ⟨z0, z1, z2, z3, z4⟩ := five (unhide HKw)
    try rw [hX]
    clear hX
    obtain ⟨y0, y1, y2, y3⟩ := quad (unhide HK)
    cases hc : decide ((ordL m m.fields.length).length < m.fields.length)
    · have hol : (ordL m m.fields.length).length = m.fields.length := by
        have h1 := of_decide_eq_false hc
        have h2 := ordL_le m m.fields.length
        omega
      have HL : Hid (calcX m = ordL m m.fields.length) := hide (by
        rw [unhide HX]
        exact calcL_full hol)
      have HCl : Hid (((calcX m).length : Int) = m.fields.length) := hide (by rw [unhide HL, hol])
      have HOl := hide hol
      have hnf := (unhide HV).nf
      clear hc hol
      by_cases k0 : kz < 0
      · have HDx : Hid (DirOk m kz (calcX m) []) := hide (.inl ⟨by omega, rfl⟩)
        go_wp2_with fail
        go_ret
        exact ⟨_, [], rfl, unhide HDx, World.ownsRow_nil _ _ _ _, unhide HB⟩
      by_cases k1 : (m.fields.length : Int) ≤ kz
      · have HDx : Hid (DirOk m kz (calcX m) []) := hide (.inl ⟨by have := unhide HCl; omega, rfl⟩)
        go_wp2_with fail
        go_ret
        exact ⟨_, [], rfl, unhide HDx, World.ownsRow_nil _ _ _ _, unhide HB⟩
      obtain ⟨k, rfl⟩ : ∃ k : Nat, kz = k := ⟨kz.toNat, by omega⟩
      have hkn : k < m.fields.length := by omega
      have HC2 := hide (unhide HCd W3 b k (unhide HV) hkn (unhide HOl) (unhide HS) (unhide HM))
      have HDx : Hid (∀ (M : Nat → Bool) l, (∀ i, i < m.fields.length → i ≠ k → (M i = true ↔ Rch m k i)) → l = dirBy M k (ordL m m.fields.length) → DirOk m k (calcX m) l) := hide fun M l h1 h2 => .inr ⟨by omega, by have := unhide HCl; omega, M, fun i hi hne => by rw [Int.toNat_natCast] at hne ⊢; exact h1 i hi hne, by rw [Int.toNat_natCast, unhide HL]; exact h2⟩
      clear HCd HCh
      go_wp2_with fail
      refine (unhide HC2).mono ?_
      rintro r W5 ⟨v, l, rfl, ho, ⟨M, hM1, hM2⟩, hb5⟩
      have HO := hide (owns_lower ho (unhide HB).size)
      have HDy := hide (unhide HDx M l hM1 hM2)
      replace HB := hide ((unhide HB).trans (hb5.mono (unhide HB).size))
      clear ho hb5 hM1 hM2
      go_wp2_with fail
      go_ret
      exact ⟨v, l, rfl, unhide HDy, unhide HO, unhide HB⟩
    · have HL : Hid (calcX m = []) := hide (by
        have h1 := of_decide_eq_true hc
        rw [unhide HX]
        unfold calcL
        rw [if_neg (by omega)])
      have HDx : Hid (DirOk m kz (calcX m) []) := hide (.inl ⟨by rw [unhide HL]; simp, rfl⟩)
      clear hc
      go_wp2_with fail
      go_ret
      exact ⟨_, [], rfl, unhide HDx, World.ownsRow_nil _ _ _ _, unhide HB⟩
end Go.Proofs.YtngjdgcekflooaaGreatDoor

/- The law FnExactDirty. -/
namespace Go.Proofs.YtngjdgcekflooaaGreatDoor
open Go Go.RowKit

set_option maxRecDepth 100000 in
set_option maxHeartbeats 16000000 in
theorem lawDirty_any (m : Fm) (A : MA) (kz : Int) (w : World) (hf : FitM m) (ha : MSl w m A) (ht : Tabs w) (hy : TyW w) :
    Calls Tryz.prog 4 #[mV m A, .int .i64 kz] w fun r w' => r = .returned (.bool true) ∧ Below w.heap.size w w' := by
  obtain ⟨al, alc, ap, apc, ar, arc, af, afc, afa⟩ := A
  have HF := hide hf
  have hcl : (calcX m).length ≤ 1000000 := by
    have hv : vfB m = true → VfA m := fun h => Classical.byContradiction fun hn => by rw [vfB_false hn] at h; cases h
    unfold calcX
    split
    · rename_i h
      have h1 := (hv h).nf
      unfold calcL
      have h2 := ordL_le m m.fields.length
      split
      · omega
      · simp
    · simp
  have HCz := hide fun W (hs : MSl W m ⟨al, alc, ap, apc, ar, arc, af, afc, afa⟩) => szForm_any m ⟨al, alc, ap, apc, ar, arc, af, afc, afa⟩ 1048576 W hf (by omega) (by omega) hs
  have HCt := hide fun W (hn : Sm m) (hs : MSl W m ⟨al, alc, ap, apc, ar, arc, af, afc, afa⟩) => toForm_bk m ⟨al, alc, ap, apc, ar, arc, af, afc, afa⟩ W hn hs
  have HCs := hide fun W A' (hs : MSl W m A') => specDirty_of m A' kz W (fun W' hs' => specValidForm_any m A' W' hf hs') (fun h => Classical.byContradiction fun hc => by
    have hv : VfA m := Classical.byContradiction fun hn => by rw [vfB_false hn] at h; cases h
    exact hc hv.nf) hf hs
  have HCi := hide fun W A' (hc : Caps m A') (hs : MSl W m A') (ht : Tabs W) (hy : TyW W) => implDirty_any m A' kz W hf hc hs ht hy
  have HCe := hide fun W A1 A2 (hn : Sm m) (h1 : MSl W m A1) (h2 : MSl W m A2) => eqForm_any m A1 A2 W hn h1 h2
  have HCq0 := hide fun (l : List Nat) (hl : l.length ≤ 1000000) (W : World) a b ca cb (h1 : Plc W a l) (h2 : Plc W b l) => eqPlc_any a b l ca cb W hl h1 h2
  have HCx := hide fun x (h : x ∈ calcX m) => calcX_lt h
  have HCk := hide fun (lo hi : Nat) (w0 W : World) (A' : MA) (hn : Sm m) hz hM hbk (hs : MSl W m A') => markForm_bk m A' lo hi w0 W hn hz hM hbk hs
  generalize calcX m = cx at *
  have hcxl := hcl
  clear hcl
  unfold mV at HCz HCt HCs HCi HCe HCk ⊢
  dsimp only at HCz HCt ⊢
  have HK := hide (Blk.new w 27 #[.slice al m.labels.length alc, .slice ap m.below.length apc, .slice ar m.roles.length arc, .slice af m.fields.length afc])
  have HB := hide ((Below.refl w.heap.size w).alloc (Nat.le_refl _) (.cells #[.slice al m.labels.length alc, .slice ap m.below.length apc, .slice ar m.roles.length arc, .slice af m.fields.length afc] 27))
  obtain ⟨W0, hW0⟩ : ∃ W0, w.alloc (.cells #[.slice al m.labels.length alc, .slice ap m.below.length apc, .slice ar m.roles.length arc, .slice af m.fields.length afc] 27) = W0 := ⟨_, rfl⟩
  rw [hW0] at HK HB
  have HS := hide (ha.mono (unhide HB)); have HT := hide (ht.mono (unhide HB)); have HY := hide (hy.mono (unhide HB))
  clear ha ht hy hf
  obtain ⟨y0, y1, y2, y3⟩ := quad (unhide HK)
  go_enter Tryz.func4, Tryz.ntmps4
  go_wp2_with fail
  try rw [hW0]
  refine (unhide HCz W0 (unhide HS)).mono ?_
  rintro r W1 ⟨z, rfl, hz, hb⟩
  replace HK := hide ((unhide HK).mono hb (unhide HK).lt); replace HS := hide ((unhide HS).mono hb); replace HT := hide ((unhide HT).mono hb); replace HY := hide ((unhide HY).mono hb); replace HB := hide ((unhide HB).trans (hb.mono (unhide HB).size))
  clear hW0 hb y0 y1 y2 y3
  obtain ⟨y0, y1, y2, y3⟩ := quad (unhide HK)
  by_cases hzz : z < 0
  · clear hz
    go_wp2_with fail
    go_ret
    exact ⟨rfl, unhide HB⟩
  have HN := hide (hz (by omega))
  clear hz
  go_wp2_with fail
  refine (unhide HCt W1 (unhide HN) (unhide HS)).mono ?_
  rintro r W2 ⟨A1, rfl, hs1, hc1, -, hb⟩
  replace HK := hide ((unhide HK).mono hb (unhide HK).lt); replace HS := hide ((unhide HS).mono hb); replace HT := hide ((unhide HT).mono hb); replace HY := hide ((unhide HY).mono hb); replace HB := hide ((unhide HB).trans (hb.mono (unhide HB).size))
  have HS1 := hide hs1
  clear hb y0 y1 y2 y3 hs1 hc1
  go_wp2_with fail
  refine (unhide HCs W2 A1 (unhide HS1)).mono ?_
  rintro r W3 ⟨cl, a0, c0, rfl, hdo, hp, hb⟩
  have hcl : cl.length ≤ 1000000 := Nat.le_trans hdo.len hcxl
  have HDo := hide hdo
  have HCq := hide (unhide HCq0 cl hcl)
  clear hdo HCq0
  replace HK := hide ((unhide HK).mono hb (unhide HK).lt); replace HS := hide ((unhide HS).mono hb); replace HT := hide ((unhide HT).mono hb); replace HY := hide ((unhide HY).mono hb); replace HB := hide ((unhide HB).trans (hb.mono (unhide HB).size))
  clear hb HS1 HCs
  have HOl : Hid (Old m ⟨al, alc, ap, apc, ar, arc, af, afc, afa⟩ w.heap.size [.slice al m.labels.length alc, .slice ap m.below.length apc, .slice ar m.roles.length arc, .slice af m.fields.length afc] a0 cl W3) := hide ⟨unhide HK, unhide HS, unhide HT, unhide HY, hp⟩
  clear hp HK HS HT HY
  obtain ⟨lo, hlo⟩ : ∃ lo, W3.heap.size = lo := ⟨_, rfl⟩
  have hwl : w.heap.size ≤ lo := by have := (unhide HB).size; omega
  obtain ⟨y0, y1, y2, y3⟩ := quad (unhide HOl).k
  go_wp2_with fail
  refine (unhide HCt W3 (unhide HN) (unhide HOl).s).mono ?_
  rintro r W4 ⟨A2, rfl, hs2, hc2, hmb, hb⟩
  obtain ⟨hi, hhi⟩ : ∃ hi, W4.heap.size = hi := ⟨_, rfl⟩
  have hlh : lo ≤ hi := by have := hb.size; omega
  rw [hlo] at hmb
  have HMb := hide hmb
  have HL4 : Hid (Below W3.heap.size W3 W4) := hide hb
  obtain ⟨bl, blc, bp, bpc, br, brc, bf, bfc, bfa⟩ := A2
  dsimp only
  have HX := hide (Blk.new W4 35 #[.slice bl m.labels.length blc, .slice bp m.below.length bpc, .slice br m.roles.length brc, .slice bf m.fields.length bfc])
  have hbx := (Below.refl W4.heap.size W4).alloc (Nat.le_refl _) (.cells #[.slice bl m.labels.length blc, .slice bp m.below.length bpc, .slice br m.roles.length brc, .slice bf m.fields.length bfc] 35)
  obtain ⟨W5, hW5⟩ : ∃ W5, W4.alloc (.cells #[.slice bl m.labels.length blc, .slice bp m.below.length bpc, .slice br m.roles.length brc, .slice bf m.fields.length bfc] 35) = W5 := ⟨_, rfl⟩
  rw [hW5] at hbx HX
  have hs5 : W5.heap.size = hi + 1 := by rw [← hW5, ← hhi]; simp
  rw [hhi] at HX
  have HS2 := hide (hs2.mono hbx); have HC2 := hide hc2
  have HL5 : Hid (Below W3.heap.size W3 W5) := hide (hb.trans (hbx.mono hb.size))
  have HG5 : Hid (Below hi W4 W5) := hide (by rw [← hhi]; exact hbx)
  have HO5 := hide ((unhide HOl).mono (unhide HL5))
  clear hb hbx hs2 hc2 hmb y0 y1 y2 y3 HL4
  obtain ⟨x0, x1, x2, x3⟩ := quad (unhide HX)
  have HCi2 := hide (unhide HCi W5 ⟨bl, blc, bp, bpc, br, brc, bf, bfc, bfa⟩ (unhide HC2) (unhide HS2) (unhide HO5).t (unhide HO5).y)
  dsimp only at HCi2
  go_wp2_with fail
  try rw [hW5]
  try rw [hhi]
  refine (unhide HCi2).mono ?_
  rintro r W6 ⟨v, l6, rfl, hd6, hv6, hb⟩
  obtain rfl : cl = l6 := Eq.symm <| DirOk.eq (unhide HCx) hd6 (unhide HDo)
  clear hd6
  rw [hs5] at hv6
  obtain ⟨a6, c6, rfl, -, hp6⟩ := plc_of_owns hv6
  have HV := hide hv6
  have HS6 := hide ((unhide HS2).mono hb)
  have HX6 := hide ((unhide HX).mono hb (unhide HX).lt)
  have HL6 := hide ((unhide HL5).trans (hb.mono (unhide HL5).size))
  have HG6 := hide ((unhide HG5).trans (hb.mono (by omega)))
  have HO6 := hide ((unhide HO5).mono hb)
  have hs6 : hi + 1 ≤ W6.heap.size := by have := hb.size; omega
  have HE6 := hide (unhide HCq W6 a6 a0 c6 c0 hp6 (unhide HO6).p)
  clear hb hW5 hv6 hp6 x0 x1 x2 x3 HCi2 HS2 HX HL5 HG5 HO5 hs5
  go_wp2_with fail
  refine (unhide HE6).mono ?_
  rintro r W7 ⟨rfl, hb⟩
  replace HV := hide (owns_mono (unhide HV) hb)
  have HS7 := hide ((unhide HS6).mono hb)
  have HX7 := hide ((unhide HX6).mono hb (unhide HX6).lt)
  have HL7 := hide ((unhide HL6).trans (hb.mono (unhide HL6).size))
  have HG7 := hide ((unhide HG6).trans (hb.mono (by omega)))
  have HO7 := hide ((unhide HO6).mono hb)
  have hs7 : hi + 1 ≤ W7.heap.size := by have := hb.size; omega
  clear hb HE6 HS6 HX6 HL6 HG6 HO6 hs6
  go_wp2_with fail
  refine wp_region_held_drew (S := fun w' => Blk w' w.heap.size 27 [.slice al m.labels.length alc, .slice ap m.below.length apc, .slice ar m.roles.length arc, .slice af m.fields.length afc] ∧ Blk w' hi 35 [.slice bl m.labels.length blc, .slice bp m.below.length bpc, .slice br m.roles.length brc, .slice bf m.fields.length bfc]) (by kernel_rfl) ⟨(unhide HO7).k, unhide HX7⟩ (fun hHeld => ?_)
  refine takeY (i := 0) (v := .agg #[.slice bl m.labels.length blc, .slice bp m.below.length bpc, .slice br m.roles.length brc, .slice bf m.fields.length bfc]) 31 rfl rfl (by kernel_rfl) (by kernel_rfl) (by kernel_rfl) (fun _ _ _ _ h => h) (by rfl) (fun w hS => by obtain ⟨-, h2⟩ := hS; obtain ⟨q0, q1, q2, q3⟩ := quad h2; simp [execOp, go_sem, q0, q1, q2, q3]) hHeld ?_
  simp only [List.setIfInBounds_toArray, List.set_cons_zero, List.set_cons_succ]
  refine takeY (i := 1) (v := .agg #[.slice al m.labels.length alc, .slice ap m.below.length apc, .slice ar m.roles.length arc, .slice af m.fields.length afc]) 32 rfl rfl (by kernel_rfl) (by kernel_rfl) (by kernel_rfl) (fun _ _ _ _ h => h) (by rfl) (fun w hS => by obtain ⟨h2, -⟩ := hS; obtain ⟨q0, q1, q2, q3⟩ := quad h2; simp [execOp, go_sem, q0, q1, q2, q3]) hHeld ?_
  simp only [List.setIfInBounds_toArray, List.set_cons_zero, List.set_cons_succ]
  have HD : Hid (Below W7.heap.size W7 W7.drew) := hide (Below.refl _ _).drew
  refine callY (i := 2) (f := 7) (args := #[.agg #[.slice al m.labels.length alc, .slice ap m.below.length apc, .slice ar m.roles.length arc, .slice af m.fields.length afc]]) (R := fun v wz => ∃ A3, v = mV m A3 ∧ MSl wz m A3 ∧ Below W7.heap.size W7 wz) 33 rfl rfl (by rfl) (by kernel_rfl) ?hrun1 ((unhide HCt W7.drew (unhide HN) ((unhide HO7).s.mono (unhide HD))).mono fun e w6 ⟨A3, he, hs, _, _, hb⟩ => ⟨_, he, A3, rfl, hs, below_of_drew hb⟩) ?_
  case hrun1 => simp [execOp, go_sem]
  rintro v W8 ⟨A3, rfl, hs3, hb⟩
  replace hHeld : Blk W8 w.heap.size 27 [.slice al m.labels.length alc, .slice ap m.below.length apc, .slice ar m.roles.length arc, .slice af m.fields.length afc] ∧ Blk W8 hi 35 [.slice bl m.labels.length blc, .slice bp m.below.length bpc, .slice br m.roles.length brc, .slice bf m.fields.length bfc] := ⟨(unhide HO7).k.mono hb (unhide HO7).k.lt, (unhide HX7).mono hb (unhide HX7).lt⟩
  replace HV := hide (owns_mono (unhide HV) hb)
  have HS8 := hide ((unhide HS7).mono hb)
  have HX8 := hide ((unhide HX7).mono hb (unhide HX7).lt)
  have HL8 := hide ((unhide HL7).trans (hb.mono (unhide HL7).size))
  have HG8 := hide ((unhide HG7).trans (hb.mono (by omega)))
  have HO8 := hide ((unhide HO7).mono hb)
  have hs8 : hi + 1 ≤ W8.heap.size := by have := hb.size; omega
  have HS3 := hide hs3
  clear hb hs3 HS7 HX7 HL7 HG7 HO7 hs7 HD
  refine ⟨hHeld, ?_⟩
  unfold mV
  obtain ⟨dl, dlc, dp, dpc, dr, drc, df, dfc, dfa⟩ := A3
  dsimp only
  simp only [List.setIfInBounds_toArray, List.set_cons_zero, List.set_cons_succ]
  have HCe2 := hide (unhide HCe W8 ⟨bl, blc, bp, bpc, br, brc, bf, bfc, bfa⟩ ⟨dl, dlc, dp, dpc, dr, drc, df, dfc, dfa⟩ (unhide HN) (unhide HS8) (unhide HS3))
  dsimp only at HCe2
  refine callY (i := 3) (f := 10) (args := #[.agg #[.slice bl m.labels.length blc, .slice bp m.below.length bpc, .slice br m.roles.length brc, .slice bf m.fields.length bfc], .agg #[.slice dl m.labels.length dlc, .slice dp m.below.length dpc, .slice dr m.roles.length drc, .slice df m.fields.length dfc]]) (R := fun v wz => v = .bool true ∧ Below W8.heap.size W8 wz) 34 rfl rfl (by rfl) (by kernel_rfl) ?hrun2 ((unhide HCe2).mono fun e w6 ⟨he, hb⟩ => ⟨_, he, rfl, hb⟩) ?_
  case hrun2 => simp [execOp, go_sem]
  rintro v W9 ⟨rfl, hb⟩
  replace hHeld : Blk W9 w.heap.size 27 [.slice al m.labels.length alc, .slice ap m.below.length apc, .slice ar m.roles.length arc, .slice af m.fields.length afc] ∧ Blk W9 hi 35 [.slice bl m.labels.length blc, .slice bp m.below.length bpc, .slice br m.roles.length brc, .slice bf m.fields.length bfc] := ⟨hHeld.1.mono hb hHeld.1.lt, hHeld.2.mono hb hHeld.2.lt⟩
  replace HV := hide (owns_mono (unhide HV) hb)
  have HS9 := hide ((unhide HS8).mono hb)
  have HX9 := hide ((unhide HX8).mono hb (unhide HX8).lt)
  have HL9 := hide ((unhide HL8).trans (hb.mono (unhide HL8).size))
  have HG9 := hide ((unhide HG8).trans (hb.mono (by omega)))
  have HO9 := hide ((unhide HO8).mono hb)
  have hs9 : hi + 1 ≤ W9.heap.size := by have := hb.size; omega
  clear hb HS8 HX8 HL8 HG8 HO8 hs8 HCe2 HS3
  refine ⟨hHeld, ?_⟩
  simp only [List.setIfInBounds_toArray, List.set_cons_zero, List.set_cons_succ]
  refine takeY (i := 4) (v := .bool false) 35 rfl rfl (by kernel_rfl) (by kernel_rfl) (by kernel_rfl) (fun _ _ _ _ h => h) (by rfl) (fun w hS => by simp [execOp, go_sem, *]) hHeld ?_
  simp only [List.setIfInBounds_toArray, List.set_cons_zero, List.set_cons_succ]
  refine wpAnyH_done (by kernel_rfl) ?_ _
  clear hHeld
  obtain ⟨x0, x1, x2, x3⟩ := quad (unhide HX9)
  have HCk2 := hide (unhide HCk lo hi W4 W9 ⟨bl, blc, bp, bpc, br, brc, bf, bfc, bfa⟩ (unhide HN) hhi (unhide HMb) (fun g t n hb => hb.mono (unhide HG9) (by have := hb.lt; omega)) (unhide HS9))
  dsimp only at HCk2
  go_wp2_with fail
  refine (unhide HCk2).mono ?_
  rintro r W10 ⟨k', rfl, hk', hmk⟩
  have hk0 : ¬ (k' : Int) < 0 := by omega
  have HV10 := hide (hmk.out.owns (unhide HV) (fun q e => by have := ((unhide HV).lt q e).1; omega))
  have HB10 : Hid (Below lo W3 W10) := hide (by
    have h9 := unhide HL9
    rw [hlo] at h9
    exact h9.trans (hmk.out.below (Nat.le_refl _) (by omega)))
  have hs10 : hi + 1 ≤ W10.heap.size := by have := hmk.out.size; omega
  clear hmk x0 x1 x2 x3 HCk2 HCk HV HS9 HX9 HL9 HG9 HO9 hs9 HMb
  have HO10 : Hid (Old m ⟨al, alc, ap, apc, ar, arc, af, afc, afa⟩ w.heap.size [.slice al m.labels.length alc, .slice ap m.below.length apc, .slice ar m.roles.length arc, .slice af m.fields.length afc] a0 cl W10) := hide ((unhide HOl).mono (by rw [hlo]; exact unhide HB10))
  have HE10 := hide (unhide HCq W10 a6 a0 c6 c0 (by
    obtain ⟨a, c, e, -, hp⟩ := plc_of_owns (unhide HV10)
    cases e
    exact hp) (unhide HO10).p)
  go_wp2_with fail
  refine (unhide HE10).mono ?_
  rintro r W11 ⟨rfl, hb⟩
  have HV11 := hide (owns_mono (unhide HV10) hb)
  have HB11 := hide ((unhide HB10).trans (hb.mono (by omega)))
  have hs11 : hi + 1 ≤ W11.heap.size := by have := hb.size; omega
  clear hb HE10 HO10 HV10 HB10 hs10
  have HMr := hide (markRow_any a6 c6 cl.length (hi + 1) _ W11 hcl (unhide HV11))
  obtain ⟨p, hp⟩ : ∃ p, cl.length + 1 = p := ⟨_, rfl⟩
  rw [hp] at HMr
  have hpl : (p : Int) ≤ 1000001 := by omega
  go_wp2_with fail
  refine (unhide HMr).mono ?_
  rintro r W12 ⟨rfl, ho, hout⟩
  have HB12 := hide ((unhide HB11).trans (hout.below (by omega) (by omega)))
  have hs12 : hi + 1 ≤ W12.heap.size := by have := hout.size; omega
  have HHr := hide (heldRow_any a6 c6 cl.length (hi + 1) W12 hcl ho)
  rw [hp] at HHr
  clear ho hout HMr HV11 HB11 hs11
  go_wp2_with fail
  refine (unhide HHr).mono ?_
  rintro r W13 ⟨rfl, hb⟩
  have HB13 := hide ((unhide HB12).trans (hb.mono (by omega)))
  have HO13 : Hid (Old m ⟨al, alc, ap, apc, ar, arc, af, afc, afa⟩ w.heap.size [.slice al m.labels.length alc, .slice ap m.below.length apc, .slice ar m.roles.length arc, .slice af m.fields.length afc] a0 cl W13) := hide ((unhide HOl).mono (by rw [hlo]; exact unhide HB13))
  have hs13 : hi + 1 ≤ W13.heap.size := by have := hb.size; omega
  have hp0 : ¬ (p : Int) < 0 := by omega
  clear hb HHr HB12 hs12
  obtain ⟨y0, y1, y2, y3⟩ := quad (unhide HO13).k
  go_wp2_with fail
  refine (unhide HCt W13 (unhide HN) (unhide HO13).s).mono ?_
  rintro r W14 ⟨A4, rfl, hs4, hc4, -, hb⟩
  have HO14 := hide ((unhide HO13).mono hb)
  have HB14 := hide ((unhide HB13).trans (hb.mono (by omega)))
  have hs14 : hi + 1 ≤ W14.heap.size := by have := hb.size; omega
  have HCi3 := hide (unhide HCi W14 A4 hc4 hs4 (unhide HO14).t (unhide HO14).y)
  clear hb hs4 hc4 HO13 HB13 hs13 y0 y1 y2 y3 HCi
  go_wp2_with fail
  refine (unhide HCi3).mono ?_
  rintro r W15 ⟨v, l7, rfl, hd7, hv, hb⟩
  obtain rfl : l7 = cl := DirOk.eq (unhide HCx) hd7 (unhide HDo)
  clear hd7
  obtain ⟨a7, c7, rfl, -, hp7⟩ := plc_of_owns hv
  have HO15 := hide ((unhide HO14).mono hb)
  have HB15 := hide ((unhide HB14).trans (hb.mono (by omega)))
  have HE15 := hide (unhide HCq W15 a7 a0 c7 c0 hp7 (unhide HO15).p)
  have hs15 : hi + 1 ≤ W15.heap.size := by have := hb.size; omega
  clear hb hv hp7 HCi3 HO14 HB14 hs14
  go_wp2_with fail
  refine (unhide HE15).mono ?_
  rintro r W16 ⟨rfl, hb⟩
  have HB16 : Hid (Below w.heap.size w W16) := hide ((unhide HB).trans (((unhide HB15).trans (hb.mono (by omega))).mono hwl))
  clear hb HE15
  go_wp2_with fail
  go_ret
  exact ⟨rfl, unhide HB16⟩
end Go.Proofs.YtngjdgcekflooaaGreatDoor
