/- The iterator over the labels of a set. -/
import Derived.Test.YtnmpkdmflijhpaaDoorRange
import Derived.Test.YtnmpkdmflijhpaaDoorBits
namespace Go.Proofs.YtnmpkdmflijhpaaDoor
open Go Go.RowKit Go.Shelf
attribute [local go_sem] Oper.semAt_some

theorem Tab.keep {X : Nat → Prop} {W W' : World} (h : Tab W) (hk : KeepX X W W') (hX : ¬ X 0) : Tab W' := fun j hj => by
  have h0 := h j hj
  unfold World.cell? at h0 ⊢
  simp only at h0 ⊢
  cases e : W.heap[0]? with
  | none => rw [e] at h0; cases h0
  | some o =>
    cases o with
    | cells cs t fr => rw [hk.same 0 cs t fr hX e]; rw [e] at h0; exact h0
    | _ => rw [e] at h0; cases h0

/-- The number that lies where a pointer leads. -/
def natAt (w : World) : Value → Nat
  | .pointer (some a) => match w.cell? a with | some (.int _ v) => v.toNat | _ => 0
  | _ => 0
theorem natAt_of {w : World} {b : Nat} {v : Nat} {k : IntKind} (h : w.cell? ⟨b, 0, none⟩ = some (.int k (v : Int))) : natAt w (.pointer (some ⟨b, 0, none⟩)) = v := by
  simp [natAt, h]

theorem ctz_bit {s : Nat} (hs : s < 4294967296) (h0 : s ≠ 0) : Lib.ctz 32 s < 32 ∧ s.testBit (Lib.ctz 32 s) = true := by
  obtain ⟨h1, h2⟩ := Lib.lowest_bit 32 s h0 hs
  refine ⟨h2, ?_⟩
  have : (s &&& (2 ^ 32 - s)).testBit (Lib.ctz 32 s) = true := by rw [h1]; simp
  rw [Nat.testBit_and, Bool.and_eq_true] at this
  exact this.1
theorem minusN_less {s x : Nat} (hs : s < 4294967296) (hx : x < 32) (h : s.testBit x = true) : minusN s (2 ^ x) < s := by
  apply Nat.lt_of_le_of_ne Nat.and_le_left
  intro e
  have h2 := minusN_bit hs (two_lt hx) x
  rw [show minusN s (2 ^ x) = s from e, h] at h2
  simp at h2
theorem minusN_rest {s x : Nat} (hs : s < 4294967296) (hx : x < 32) (i : Nat) : (minusN s (2 ^ x)).testBit i = true ↔ s.testBit i = true ∧ i ≠ x := by
  rw [minusN_bit hs (two_lt hx), Nat.testBit_two_pow, Bool.and_eq_true, Bool.not_eq_true', decide_eq_false_iff_not]
  exact and_congr_right fun _ => ⟨fun h e => h e.symm, fun h e => h e.symm⟩

theorem Tab.at0 {w w' : World} (h : Tab w) (e : w'.heap[0]? = w.heap[0]?) : Tab w' := fun j hj => (World.cell?_of_block (a := ⟨0, j, none⟩) e).trans (h j hj)
theorem labels_step (N : Nat) (W3 : World) (R : Nat) (o1 o2 o3 o4 : Obj) (v : Value) (t : TypeId) (hR : N ≤ R) (hN : N ≤ W3.heap.size) :
    Blk ((((((W3.alloc o1).alloc o2).alloc o3).alloc o4).setCell ⟨R, 0, none⟩ v).alloc (.cells #[v] t)).drew (W3.heap.size + 1 + 1 + 1 + 1) t [v] ∧ Below N W3 ((((((W3.alloc o1).alloc o2).alloc o3).alloc o4).setCell ⟨R, 0, none⟩ v).alloc (.cells #[v] t)).drew := by
  constructor
  · have := Blk.new (((((W3.alloc o1).alloc o2).alloc o3).alloc o4).setCell ⟨R, 0, none⟩ v) t #[v]
    simp only [World.size_setCell, World.size_alloc] at this
    exact this
  · exact ((((below4 W3 o1 o2 o3 o4).mono hN).setCell (p := ⟨R, 0, none⟩) hR v).alloc (by simp; omega) _).drew

set_option maxRecDepth 100000 in
set_option maxHeartbeats 2000000 in
theorem labels_gives (Bs s : Nat) (w0 : World) (X : Nat → Prop) (hs : s < 4294967296) (hB : Blk w0 Bs 73 [.int .u32 (s : Int)]) (ht : Tab w0) (hX0 : ¬ X 0) :
    Gives Tryd.prog 115 #[.pointer (some ⟨Bs, 0, none⟩)] (fun x => x < 32 ∧ s.testBit x = true) (fun xs => ∀ i, i ∈ xs ↔ s.testBit i = true) (fun pre => ∀ i ∈ pre, s.testBit i = true) X w0 := by
  intro n l J Jx W hb hJ hJx hX hY h0
  have hBs := hB.mono hb hB.lt
  have hT := ht.mono hb
  have c0 := hBs.cell 0
  simp only [List.getElem?_cons_zero] at c0
  have hW0 := hT.pos
  have HY := hide hY; clear hY
  refine callsIn_of_wp Tryd.func115 rfl trivial ?_ rfl
  simp only [Tryd.ntmps115, List.size_toArray, List.length_cons, List.length_nil, Nat.reduceAdd, Nat.reduceSub, Array.replicate_succ, Array.replicate_zero, List.push_toArray, List.append_toArray, List.nil_append, List.cons_append]
  gi_wp2
  clear c0
  have hbn : Below W.heap.size W (W.alloc (.cells #[.int .u32 (s : Int)] 73)) := (Below.refl _ _).alloc (Nat.le_refl _) _
  have hnew := Blk.new W 73 #[.int .u32 (s : Int)]
  gi_loopw [3] (fun p wr => ∃ (R rest : Nat) (pre : List Nat), p = .pointer (some ⟨R, 0, none⟩) ∧ W.heap.size ≤ R ∧ Blk wr R 73 [.int .u32 (rest : Int)] ∧ Tab wr ∧ J pre wr ∧ W.heap.size ≤ wr.heap.size ∧ rest < 4294967296 ∧ (∀ i, s.testBit i = true ↔ i ∈ pre ∨ rest.testBit i = true)) (fun p wr => natAt wr p)
  case atStart => exact ⟨W.heap.size, s, [], rfl, Nat.le_refl _, hnew, hT.mono hbn, hJ _ _ _ h0 hbn, hbn.size, hs, fun i => by simp⟩
  case round =>
    clear hnew hbn h0 hT hBs
    obtain ⟨R, rest, pre, rfl, hR, hbR, hT, hj, hsz, hr, hbits⟩ := hrel
    have c1 := hbR.cell 0
    simp only [List.getElem?_cons_zero] at c1
    have HBR := hide hbR; have HT := hide hT; have HJ := hide hj; have HBITS := hide hbits
    have hlR := hbR.lt
    clear hbR hT hj hbits
    by_cases hz : rest = 0
    · subst hz
      have hzb : ((0 : Nat) == 0) = true := rfl
      gi_wp2_with fail
      refine callW ((empty_any _ _).mono ?_)
      rintro e w1 ⟨rfl, rfl⟩
      gi_wp2_with fail
      go_end0
      refine ⟨⟨_, rfl⟩, .inl ⟨pre, fun i => ?_, hJ _ _ _ (unhide HJ) (((Below.refl wr.heap.size _).alloc (Nat.le_refl _) _).mono hsz)⟩⟩
      rw [unhide HBITS i]; simp
    · have hzb : (rest == 0) = false := by simpa using hz
      have hcb := ctz_bit hr hz
      have hl3 := lowest_any rest (wr.alloc (.cells #[.int .u32 (rest : Int)] 73)) hr hz ((unhide HT).mono ((Below.refl _ _).alloc (Nat.le_refl _) _))
      obtain ⟨x, hx⟩ : ∃ x, Lib.ctz 32 rest = x := ⟨_, rfl⟩
      rw [hx] at hcb hl3
      have HL3 := hide hl3
      have hx32 := hcb.1
      have HXB := hide hcb.2
      clear hz hx hcb hl3
      have hB2 : Below wr.heap.size wr ((wr.alloc (.cells #[.int .u32 (rest : Int)] 73)).alloc (.cells #[.int .u32 (rest : Int)] 73)) := ((Below.refl _ _).alloc (Nat.le_refl _) _).alloc (by simp) _
      have hyy := unhide HY (n - 1) pre x _ (hJ _ _ _ (unhide HJ) (hB2.mono hsz)) ⟨hx32, ((unhide HBITS) x).2 (.inr (unhide HXB))⟩
      have HB2 := hide hB2; clear hB2
      obtain ⟨fn, tmps, assign, body, hy, hRd⟩ := hyy
      have HRD := hide hRd; clear hRd
      gi_wp2_with fail
      refine callW ((empty_any _ _).mono ?_)
      rintro e w1 ⟨rfl, rfl⟩
      gi_wp2_with fail
      refine callW ((unhide HL3).mono ?_)
      rintro e w1 ⟨rfl, rfl⟩
      gi_wp2_with fail
      refine ⟨noDepth, (unhide HRD).mono ?_⟩
      rintro e W3 (⟨rfl, hj3, hk3⟩ | ⟨rfl, hjx3⟩)
      · have hbR := hk3.blk ((unhide HBR).mono (unhide HB2) hlR) (fun h => by have := hX R h; omega)
        have hT3 := ((unhide HT).mono (unhide HB2)).keep hk3 hX0
        have hs3 : wr.heap.size ≤ W3.heap.size := Nat.le_trans (unhide HB2).size hk3.size
        clear hk3 c1 hy HRD HL3
        have c2 := hbR.cell 0
        simp only [List.getElem?_cons_zero] at c2
        have f2 := hbR.free 0
        have hl3 := hbR.lt
        have K4 := hbR.cell4 0; have F4 := hbR.free4 0
        simp only [List.getElem?_cons_zero] at K4
        have HBR3 := hide hbR; have HT3 := hide hT3; have HJ3 := hide hj3; clear hbR hT3 hj3
        have hmix : Tryd.prog.follows .mixedOrders = true := by kernel_rfl
        have hr2 := minusN_lt (t := 2 ^ x) hr
        have h2x := two_lt hx32
        gi_wp2_with fail
        gi_region_with_o (first | (refine callW ((one_any _ _ hx32).mono ?_); rintro e w' ⟨rfl, rfl⟩) | (refine callW ((minus_any _ _ _ hr h2x).mono ?_); rintro e w' ⟨rfl, rfl⟩))
        all_goals
          gi_wp2_with fail
          have hst := labels_step W.heap.size W3 R (.cells #[.int .u32 ((2 ^ x : Nat) : Int)] 73) (.cells #[.int .u32 (rest : Int)] 73) (.cells #[.int .u32 ((2 ^ x : Nat) : Int)] 73) (.cells #[.int .u32 ((minusN rest (2 ^ x) : Nat) : Int)] 73) (.int .u32 ((minusN rest (2 ^ x) : Nat) : Int)) 73 hR (by omega)
          simp only [Int.natCast_pow, Int.cast_ofNat_Int] at hst
          refine ⟨⟨W3.heap.size + 1 + 1 + 1 + 1, minusN rest (2 ^ x), pre ++ [x], rfl, by omega, hst.1, (unhide HT3).at0 (hst.2.block 0 hW0), hJ _ _ _ (unhide HJ3) hst.2, by have := hst.2.size; omega, hr2, fun i => ?_⟩, ?_⟩
          · rw [unhide HBITS i, minusN_rest hr hx32, List.mem_append, List.mem_singleton]
            have hxb := unhide HXB
            by_cases e : i = x
            · subst e; simp [hxb]
            · simp [e]
          · have h1 := hst.1.cell 0
            have h2 := (unhide HBR).cell 0
            simp only [List.getElem?_cons_zero] at h1 h2
            rw [natAt_of h1, natAt_of h2]
            exact minusN_less hr hx32 (unhide HXB)
      · gi_wp2_with fail
        refine bodyPost_ret (results_none rfl _ _ _) rfl ⟨⟨_, rfl⟩, .inr ⟨pre ++ [x], fun i hi => ?_, hjx3⟩⟩
        rw [unhide HBITS i]
        rcases List.mem_append.1 hi with h | h
        · exact .inl h
        · rw [List.mem_singleton.1 h]; exact .inr (unhide HXB)

set_option maxHeartbeats 400000 in
theorem labels_any (s : Nat) (w : World) :
    Calls Tryd.prog 102 #[.agg #[.int .u32 (s : Int)]] w fun e w' => e = .returned (.func (.func 115) #[] #[.pointer (some ⟨w.heap.size, 0, none⟩)]) ∧ w' = w.alloc (.cells #[.int .u32 (s : Int)] 73) := by
  go_enter Tryd.func102, Tryd.ntmps102
  go_wp2
  go_ret
  exact ⟨rfl, rfl⟩
end Go.Proofs.YtnmpkdmflijhpaaDoor
