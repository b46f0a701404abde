/- The iterator over the labels above a label: a walk along the sets. -/
import Derived.Test.YtnmpkdmflijhpaaDoorIter1
import Derived.Test.YtnmpkdmflijhpaaDoorFit
namespace Go.Proofs.YtnmpkdmflijhpaaDoor
open Go Go.RowKit Go.Shelf
attribute [local go_sem] Oper.semAt_some

/-- What can be come to from a along the sets. -/
def Reach (g : Nat → Nat) (a b : Nat) : Prop := ∀ C : Nat → Prop, C a → (∀ x y, C x → x < 32 → (g x).testBit y = true → C y) → C b
theorem Reach.refl (g : Nat → Nat) (a : Nat) : Reach g a a := fun _ h _ => h
theorem Reach.step {g : Nat → Nat} {a x y : Nat} (h : Reach g a x) (hx : x < 32) (hy : (g x).testBit y = true) : Reach g a y := fun C h0 hs => hs x y (h C h0 hs) hx hy

/-- The walk's state: what has come, what is to be visited. -/
structure Walk (g : Nat → Nat) (a todo done : Nat) (pre : List Nat) : Prop where
  t32 : todo < 4294967296
  d32 : done < 4294967296
  came : ∀ i, i ∈ pre ↔ done.testBit i = true
  apart : ∀ i, todo.testBit i = true → done.testBit i = false
  reach : ∀ i, (todo.testBit i = true ∨ done.testBit i = true) → Reach g a i
  start : todo.testBit a = true ∨ done.testBit a = true
  shut : ∀ x y, done.testBit x = true → (g x).testBit y = true → todo.testBit y = true ∨ done.testBit y = true
theorem Walk.init (g : Nat → Nat) (a : Nat) (ha : a < 32) : Walk g a (2 ^ a) 0 [] where
  t32 := two_lt ha
  d32 := by decide
  came := fun i => by simp
  apart := fun i _ => by simp
  reach := fun i h => by
    rw [Nat.testBit_two_pow] at h
    simp at h; subst h; exact Reach.refl _ _
  start := .inl (by simp)
  shut := fun x y h => by simp at h
theorem Walk.next {g : Nat → Nat} {a todo done x : Nat} {pre : List Nat} (h : Walk g a todo done pre) (hg : ∀ a, a < 32 → g a < 4294967296) (hx : x < 32) (hb : todo.testBit x = true) :
    Walk g a (minusN (todo ||| g x) (done ||| 2 ^ x)) (done ||| 2 ^ x) (pre ++ [x]) := by
  have o1 := or_lt h.t32 (hg x hx)
  have o2 := or_lt h.d32 (two_lt hx)
  have tb : ∀ i, (minusN (todo ||| g x) (done ||| 2 ^ x)).testBit i = ((todo.testBit i || (g x).testBit i) && !(done.testBit i || decide (x = i))) := fun i => by
    rw [minusN_bit o1 o2, Nat.testBit_or, Nat.testBit_or, Nat.testBit_two_pow]
  have db : ∀ i, (done ||| 2 ^ x).testBit i = (done.testBit i || decide (x = i)) := fun i => by rw [Nat.testBit_or, Nat.testBit_two_pow]
  refine ⟨minusN_lt o1, o2, fun i => ?_, fun i hi => ?_, fun i hi => ?_, ?_, fun y z hy hz => ?_⟩
  · rw [List.mem_append, List.mem_singleton, h.came i, db, Bool.or_eq_true, decide_eq_true_iff]
    exact or_congr_right ⟨Eq.symm, Eq.symm⟩
  · rw [tb] at hi; rw [db]; simp at hi ⊢; exact hi.2
  · rw [tb, db] at hi
    cases hd : (done.testBit i || decide (x = i))
    · rw [hd] at hi; simp at hi
      rcases hi with hi | hi
      · exact h.reach i (.inl hi)
      · exact (h.reach x (.inl hb)).step hx hi
    · simp at hd
      rcases hd with hd | hd
      · exact h.reach i (.inr hd)
      · subst hd; exact h.reach x (.inl hb)
  · rw [tb, db]
    cases hd : (done.testBit a || decide (x = a))
    · simp at hd
      rcases h.start with hs | hs
      · simp [hs]
      · rw [hs] at hd; simp at hd
    · exact .inr rfl
  · rw [tb, db]
    rw [db] at hy
    cases hd : (done.testBit z || decide (x = z))
    · simp at hd hy
      rcases hy with hy | hy
      · rcases h.shut y z hy hz with h1 | h1
        · simp [h1]
        · rw [h1] at hd; simp at hd
      · subst hy; simp [hz]
    · exact .inr rfl
theorem Walk.finish {g : Nat → Nat} {a done : Nat} {pre : List Nat} (h : Walk g a 0 done pre) : ∀ i, i ∈ pre ↔ Reach g a i := fun i => by
  rw [h.came i]
  constructor
  · exact fun hi => h.reach i (.inr hi)
  · intro hr
    refine hr (fun i => done.testBit i = true) ?_ ?_
    · rcases h.start with hs | hs
      · simp at hs
      · exact hs
    · intro x y hx _ hy
      rcases h.shut x y hx hy with h1 | h1
      · simp at h1
      · exact h1

theorem or_more {d x : Nat} (h : d.testBit x = false) : d < d ||| 2 ^ x := by
  apply Nat.lt_of_le_of_ne Nat.left_le_or
  intro e
  have : (d ||| 2 ^ x).testBit x = true := by rw [Nat.testBit_or, Nat.testBit_two_pow]; simp
  rw [← e, h] at this; cases this
/-- One store into a set's own block, behind four new blocks. -/
theorem set_step {W' : World} {O : Nat} {c : Value} (h : Blk W' O 73 [c]) (v : Value) (o1 o2 o3 o4 : Obj) :
    Blk (((((W'.alloc o1).alloc o2).alloc o3).alloc o4).setCell ⟨O, 0, none⟩ v).drew O 73 [v] ∧ KeepX (fun j => j = O) W' (((((W'.alloc o1).alloc o2).alloc o3).alloc o4).setCell ⟨O, 0, none⟩ v).drew ∧
      (∀ B, B ≤ O → O < W'.heap.size → Below B W' (((((W'.alloc o1).alloc o2).alloc o3).alloc o4).setCell ⟨O, 0, none⟩ v).drew) := by
  have hb := below4 W' o1 o2 o3 o4
  exact ⟨(h.mono hb h.lt).set 0 v, ((KeepX.of_below hb).trans (KeepX.set (X := fun j => j = O) (a := ⟨O, 0, none⟩) v rfl)).trans ⟨Nat.le_refl _, fun _ _ _ _ _ h => h⟩, fun B hB hO => ((hb.mono (by omega)).setCell (p := ⟨O, 0, none⟩) hB v).drew⟩

theorem below6 (w : World) (o1 o2 o3 o4 o5 o6 : Obj) : Below w.heap.size w ((((((w.alloc o1).alloc o2).alloc o3).alloc o4).alloc o5).alloc o6) := ((below4 w o1 o2 o3 o4).alloc (by simp; omega) o5).alloc (by simp; omega) o6
theorem set_step6 {W' : World} {O : Nat} {c : Value} (h : Blk W' O 73 [c]) (v : Value) (o1 o2 o3 o4 o5 o6 : Obj) :
    Blk (((((((W'.alloc o1).alloc o2).alloc o3).alloc o4).alloc o5).alloc o6).setCell ⟨O, 0, none⟩ v).drew O 73 [v] ∧ KeepX (fun j => j = O) W' (((((((W'.alloc o1).alloc o2).alloc o3).alloc o4).alloc o5).alloc o6).setCell ⟨O, 0, none⟩ v).drew ∧
      (∀ B, B ≤ O → O < W'.heap.size → Below B W' (((((((W'.alloc o1).alloc o2).alloc o3).alloc o4).alloc o5).alloc o6).setCell ⟨O, 0, none⟩ v).drew) := by
  have hb := below6 W' o1 o2 o3 o4 o5 o6
  exact ⟨(h.mono hb h.lt).set 0 v, ((KeepX.of_below hb).trans (KeepX.set (X := fun j => j = O) (a := ⟨O, 0, none⟩) v rfl)).trans ⟨Nat.le_refl _, fun _ _ _ _ _ h => h⟩, fun B hB hO => ((hb.mono (by omega)).setCell (p := ⟨O, 0, none⟩) hB v).drew⟩

set_option maxRecDepth 100000 in
set_option maxHeartbeats 4000000 in
theorem above_gives (Ba Bs a : Nat) (g : Nat → Nat) (w0 : World) (X : Nat → Prop) (ha : a < 32) (hg : ∀ a, a < 32 → g a < 4294967296) (hA : Blk w0 Ba 3 [.int .i64 (a : Int)]) (hB : Blk w0 Bs 75 (us g)) (ht : Tab w0) (hXB : ¬ X Bs) (hX0 : ¬ X 0) :
    Gives Tryd.prog 107 #[.pointer (some ⟨Ba, 0, none⟩), .pointer (some ⟨Bs, 0, none⟩)] (fun x => x < 32) (fun xs => ∀ i, i ∈ xs ↔ Reach g a i) (fun _ => True) X w0 := by
  intro n l J Jx W hb hJ hJx hX hY h0
  have hT := ht.mono hb
  have bA := hA.mono hb hA.lt
  have bS := hB.mono hb hB.lt
  have c0 := bA.cell 0
  simp only [List.getElem?_cons_zero] at c0
  have hW0 := hT.pos
  have HY := hide hY; clear hY
  refine callsIn_of_wp Tryd.func107 rfl trivial ?_ rfl
  simp only [Tryd.ntmps107, List.size_toArray, List.length_cons, List.length_nil, Nat.reduceAdd, Nat.reduceSub, Array.replicate_succ, Array.replicate_zero, List.push_toArray, List.append_toArray, List.nil_append, List.cons_append]
  gi_wp2_with fail
  refine callW ((one_any _ _ ha).mono ?_)
  rintro e w1 ⟨rfl, rfl⟩
  gi_wp2_with fail
  have bT := (Blk.new (W.alloc (.cells #[.int .u32 ((2 ^ a : Nat) : Int)] 73)) 73 #[.int .u32 ((2 ^ a : Nat) : Int)]).alloc (.cells #[.int .u32 0] 73)
  have bD := Blk.new ((W.alloc (.cells #[.int .u32 ((2 ^ a : Nat) : Int)] 73)).alloc (.cells #[.int .u32 ((2 ^ a : Nat) : Int)] 73)) 73 #[.int .u32 0]
  have bw := below3 W (.cells #[.int .u32 ((2 ^ a : Nat) : Int)] 73) (.cells #[.int .u32 ((2 ^ a : Nat) : Int)] 73) (.cells #[.int .u32 0] 73)
  simp only [World.size_alloc, Int.natCast_pow, Int.cast_ofNat_Int] at bT bD bw
  clear c0
  gi_loopw [6] (fun _ wr => ∃ (todo done : Nat) (pre : List Nat), Blk wr (W.heap.size + 1) 73 [.int .u32 (todo : Int)] ∧ Blk wr (W.heap.size + 1 + 1) 73 [.int .u32 (done : Int)] ∧ Blk wr Bs 75 (us g) ∧ Tab wr ∧ J pre wr ∧ Walk g a todo done pre) (fun _ wr => 4294967296 - natAt wr (.pointer (some ⟨W.heap.size + 1 + 1, 0, none⟩)))
  case atStart => exact ⟨2 ^ a, 0, [], by simpa using bT, bD, bS.mono bw bS.lt, hT.mono bw, hJ _ _ _ h0 bw, Walk.init g a ha⟩
  case round =>
    have lS := bS.lt
    clear bT bD bw h0 hT bS bA
    obtain ⟨todo, done, pre, hT1, hD1, hS1, hTab, hj, hw⟩ := hrel
    have c1 := hT1.cell 0
    simp only [List.getElem?_cons_zero] at c1
    have t32 := hw.t32
    have sD := hD1.lt
    have sT := hT1.lt
    have K1 := fun o => (hT1.alloc o).cell 0
    simp only [List.getElem?_cons_zero] at K1
    have hsz : W.heap.size ≤ wr.heap.size := by omega
    have HT1 := hide hT1; have HD1 := hide hD1; have HS1 := hide hS1; have HTAB := hide hTab; have HJ := hide hj; have HW := hide hw
    clear hT1 hD1 hS1 hTab hj hw
    by_cases hz : todo = 0
    · subst hz
      have hzb : ((0 : Nat) == 0) = true := rfl
      gi_wp2_with fail
      refine callW ((empty_any _ _).mono ?_)
      rintro e w1 ⟨rfl, rfl⟩
      gi_wp2_with fail
      go_end0
      exact ⟨⟨_, rfl⟩, .inl ⟨pre, (unhide HW).finish, hJ _ _ _ (unhide HJ) (((Below.refl wr.heap.size _).alloc (Nat.le_refl _) _).mono hsz)⟩⟩
    · have hzb : (todo == 0) = false := by simpa using hz
      have hcb := ctz_bit t32 hz
      have hl3 := lowest_any todo (wr.alloc (.cells #[.int .u32 (todo : Int)] 73)) t32 hz ((unhide HTAB).mono ((Below.refl _ _).alloc (Nat.le_refl _) _))
      obtain ⟨x, hx⟩ : ∃ x, Lib.ctz 32 todo = x := ⟨_, rfl⟩
      rw [hx] at hcb hl3
      have HL3 := hide hl3
      have x32 := hcb.1
      have HXB := hide hcb.2
      clear hz hx hcb hl3
      have hB2 : Below wr.heap.size wr ((wr.alloc (.cells #[.int .u32 (todo : Int)] 73)).alloc (.cells #[.int .u32 (todo : Int)] 73)) := ((Below.refl _ _).alloc (Nat.le_refl _) _).alloc (by simp) _
      have hyy := unhide HY (n - 1) pre x _ (hJ _ _ _ (unhide HJ) (hB2.mono hsz)) x32
      have HB2 := hide hB2; clear hB2
      obtain ⟨fn, tmps, assign, body, hy, hRd⟩ := hyy
      have HRD := hide hRd; clear hRd
      gi_wp2_with fail
      refine callW ((empty_any _ _).mono ?_)
      rintro e w1 ⟨rfl, rfl⟩
      gi_wp2_with fail
      refine callW ((unhide HL3).mono ?_)
      rintro e w1 ⟨rfl, rfl⟩
      gi_wp2_with fail
      refine ⟨noDepth, (unhide HRD).mono ?_⟩
      rintro e W3 (⟨rfl, hj3, hk3⟩ | ⟨rfl, hjx3⟩)
      · have bT := hk3.blk ((unhide HT1).mono (unhide HB2) (unhide HT1).lt) (fun h => by have := hX _ h; omega)
        have bD := hk3.blk ((unhide HD1).mono (unhide HB2) (unhide HD1).lt) (fun h => by have := hX _ h; omega)
        have bS := hk3.blk ((unhide HS1).mono (unhide HB2) (unhide HS1).lt) hXB
        have hT3 := ((unhide HTAB).mono (unhide HB2)).keep hk3 hX0
        clear hk3 c1 K1 hy HRD HL3 HB2
        have d32 := (unhide HW).d32
        have c2 := bD.cell 0
        simp only [List.getElem?_cons_zero] at c2
        have f2 := bD.free 0
        have l2 := bD.lt
        have K4 := bD.cell4 0; have F4 := bD.free4 0
        simp only [List.getElem?_cons_zero] at K4
        have hmix : Tryd.prog.follows .mixedOrders = true := by kernel_rfl
        have x2 := two_lt x32
        have BT := hide bT; have BD := hide bD; have BS := hide bS; have HT3 := hide hT3; have HJ3 := hide hj3
        clear bT bD bS hT3 hj3
        gi_wp2_with fail
        gi_region_with_o (first | (refine callW ((one_any _ _ x32).mono ?_); rintro e w' ⟨rfl, rfl⟩) | (refine callW ((union_any _ _ _ d32 x2).mono ?_); rintro e w' ⟨rfl, rfl⟩))
        all_goals
          gi_wp2_with fail
          have hst := set_step (unhide BD) (.int .u32 ((done ||| 2 ^ x : Nat) : Int)) (.cells #[.int .u32 ((2 ^ x : Nat) : Int)] 73) (.cells #[.int .u32 (done : Int)] 73) (.cells #[.int .u32 ((2 ^ x : Nat) : Int)] 73) (.cells #[.int .u32 ((done ||| 2 ^ x : Nat) : Int)] 73)
          simp only [Int.natCast_pow, Int.cast_ofNat_Int] at hst
          obtain ⟨s1, s2, s3⟩ := hst
          replace s3 := s3 W.heap.size (by omega) l2
          obtain ⟨W4, hW4⟩ : ∃ W4, (((((W3.alloc (.cells #[.int .u32 (2 ^ x)] 73)).alloc (.cells #[.int .u32 (done : Int)] 73)).alloc (.cells #[.int .u32 (2 ^ x)] 73)).alloc (.cells #[.int .u32 ((done ||| 2 ^ x : Nat) : Int)] 73)).setCell ⟨W.heap.size + 1 + 1, 0, none⟩ (.int .u32 ((done ||| 2 ^ x : Nat) : Int))).drew = W4 := ⟨_, rfl⟩
          rw [hW4] at s1 s2 s3 ⊢
          clear hW4 K4 F4 c2 f2
          have bT := s2.blk (unhide BT) (by omega)
          have bS := s2.blk (unhide BS) (by omega)
          have hT4 := (unhide HT3).keep s2 (by omega)
          have hJ4 := hJ _ _ _ (unhide HJ3) s3
          have gx := hg x x32
          have cT := bT.cell 0
          have cD := s1.cell 0
          have cS := bS.cell x
          simp only [List.getElem?_cons_zero] at cT cD
          rw [us_get g x32] at cS
          have K3D := fun o1 o2 o3 => (s1.mono (below3 W4 o1 o2 o3) s1.lt).cell 0
          have K6T := fun o1 o2 o3 o4 o5 o6 => (bT.mono (below6 W4 o1 o2 o3 o4 o5 o6) bT.lt).cell 0
          have F6T := fun o1 o2 o3 o4 o5 o6 => (bT.mono (below6 W4 o1 o2 o3 o4 o5 o6) bT.lt).free 0
          simp only [List.getElem?_cons_zero] at K3D K6T
          have o1 := or_lt t32 gx
          have o2 := or_lt d32 x2
          have lT := bT.lt
          have x0i : (0 : Int) ≤ x := by omega
          have x1i : (x : Int) < 32 := by omega
          have B1 := hide s1; have B2 := hide bT; have B3 := hide bS; have B4 := hide hT4; have B5 := hide hJ4
          clear s1 s2 s3 bT bS hT4 hJ4 BT BD BS HT3 HJ3
          gi_region_with_o (first | (refine callW ((union_any _ _ _ t32 gx).mono ?_); rintro e w' ⟨rfl, rfl⟩) | (refine callW ((minus_any _ _ _ o1 o2).mono ?_); rintro e w' ⟨rfl, rfl⟩))
          all_goals
            gi_wp2_with fail
            have hst := set_step6 (unhide B2) (.int .u32 ((minusN (todo ||| g x) (done ||| 2 ^ x) : Nat) : Int)) (.cells #[.int .u32 (todo : Int)] 73) (.cells #[.int .u32 (g x : Int)] 73) (.cells #[.int .u32 ((todo ||| g x : Nat) : Int)] 73) (.cells #[.int .u32 ((todo ||| g x : Nat) : Int)] 73) (.cells #[.int .u32 ((done ||| 2 ^ x : Nat) : Int)] 73) (.cells #[.int .u32 ((minusN (todo ||| g x) (done ||| 2 ^ x) : Nat) : Int)] 73)
            obtain ⟨s1, s2, s3⟩ := hst
            have bD := s2.blk (unhide B1) (by omega)
            refine ⟨⟨_, _, pre ++ [x], s1, bD, s2.blk (unhide B3) (by omega), (unhide B4).keep s2 (by omega), hJ _ _ _ (unhide B5) (s3 W.heap.size (by omega) lT), (unhide HW).next hg x32 (unhide HXB)⟩, ?_⟩
            have h1 := bD.cell 0
            have h2 := (unhide HD1).cell 0
            simp only [List.getElem?_cons_zero] at h1 h2
            rw [natAt_of h1, natAt_of h2]
            have := or_more ((unhide HW).apart x (unhide HXB))
            omega
      · gi_wp2_with fail
        exact bodyPost_ret (results_none rfl _ _ _) rfl ⟨⟨_, rfl⟩, .inr ⟨pre ++ [x], trivial, hjx3⟩⟩

set_option maxHeartbeats 400000 in
theorem above_any (g : Nat → Nat) (a : Nat) (w : World) :
    Calls Tryd.prog 87 #[.agg (us g).toArray, .int .i64 (a : Int)] w fun e w' => e = .returned (.func (.func 107) #[] #[.pointer (some ⟨w.heap.size + 1, 0, none⟩), .pointer (some ⟨w.heap.size, 0, none⟩)]) ∧ w' = (w.alloc (.cells (us g).toArray 75)).alloc (.cells #[.int .i64 (a : Int)] 3) := by
  go_enter Tryd.func87, Tryd.ntmps87
  go_wp2
  go_ret
  exact ⟨rfl, rfl⟩
end Go.Proofs.YtnmpkdmflijhpaaDoor
