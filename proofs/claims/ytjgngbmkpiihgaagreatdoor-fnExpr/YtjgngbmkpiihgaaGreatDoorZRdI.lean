import Derived.Test.YtjgngbmkpiihgaaGreatDoorZRdH
import Derived.Test.YtjgngbmkpiihgaaGreatDoorGLp
import Derived.Defers
import Derived.Recover
/- The program: an attempt, what ends it; ParseExpr. -/
namespace Go.Proofs.YtjgngbmkpiihgaaGreatDoor
open Go Go.RowKit

set_option maxRecDepth 100000 in
theorem run_flt (n : Int) (w : World) : (Instr.typeAssert (.iface 83 (.int .i64 n)) 20 83 false).run Tryz.prog w = .ok (.int .i64 n) w := by
  kernel_rfl
set_option maxRecDepth 100000 in
set_option maxHeartbeats 2000000 in
theorem catch_panicking (p : Addr) (x n : Int) (w : World) (hc : w.cell? p = some (.int .i64 x)) (hz : w.frozen? p = false) :
    CallsD Tryz.prog 59 #[.pointer (some p)] (.panicking [{ v := .iface 83 (.int .i64 n), recovered := false }]) w fun e u' w' =>
      e = .returned (.tuple #[]) ∧ u' = .panicking [{ v := .iface 83 (.int .i64 n), recovered := true }] ∧ w' = w.setCell p (.int .i64 n) := by
  refine callsD_of_wpS Tryz.func59 rfl fun c₀ cs hu => ?_
  apply wpS_seq
  apply wpS_region
  simp [wpOpsS, go_sem, recoverD, hu, Tryz.ntmps59, Exit.thenS]
  apply wpS_seq
  apply wpS_region
  simp [wpOpsS, go_sem, Exit.thenS]
  refine wpS_cond (t := true) (by simp [Act.eval, Array.replicate]) ?_
  simp only [if_true]
  apply wpS_region
  simp [wpOpsS, go_sem, run_flt, hc, hz, bodyPostS, results, Tryz.results59]
set_option maxRecDepth 100000 in
set_option maxHeartbeats 2000000 in
theorem catch_idle (p : Addr) (w : World) :
    CallsD Tryz.prog 59 #[.pointer (some p)] .returning w fun e u' w' => e = .returned (.tuple #[]) ∧ u' = .returning ∧ w' = w := by
  refine callsD_of_wpS Tryz.func59 rfl fun c₀ cs hu => ?_
  apply wpS_seq
  apply wpS_region
  simp [wpOpsS, go_sem, recoverD, hu, Tryz.ntmps59, Exit.thenS]
  apply wpS_seq
  apply wpS_region
  simp [wpOpsS, go_sem, Exit.thenS]
  refine wpS_cond (t := false) (by simp [Act.eval, Array.replicate]) ?_
  simp only [Bool.false_eq_true, if_false]
  refine wpS_of_wp (wp_skip ?_)
  cases c₀
  simp_all [bodyPostS, results, Tryz.results59]
theorem RC.mono {w w' : World} {a : Option Addr} {l : List ByteArray} (h : RC w a l) (hb : Below w.heap.size w w') : RC w' a l := ⟨h.st.mono hb, h.wr.mono hb, h.pw.mono hb, h.e1.mono hb, h.e2.mono hb, h.len, h.tz⟩
set_option maxRecDepth 100000 in
set_option maxHeartbeats 2000000 in
theorem closure_any (g1 g2 : Nat) (a : Option Addr) (c : Nat) (l : List ByteArray) (w : World) (hc : RC w a l) (hcl : l.length ≤ c) (h1 : Blk w g1 48 [.slice a l.length c]) (h2 : Blk w g2 23 [.slice none 0 0]) :
    Calls Tryz.prog 34 #[.pointer (some ⟨g1, 0, none⟩), .pointer (some ⟨g2, 0, none⟩)] w fun e w' => (∃ code : Int, TksA l code [] ∧ (code = 3 ∨ code = 4) ∧ e = flt code ∧ Below w.heap.size w w') ∨ ∃ en v w1, TksA l 0 en ∧ en.length ≤ 1048576 ∧ e = .returned (.tuple #[]) ∧ OwnN w1 w.heap.size v en ∧ Below w.heap.size w w1 ∧ w' = w1.setCell ⟨g2, 0, none⟩ v := by
  have HR := hide (readExpr_any a c l w hc hcl)
  have H2 := hide h2
  have y0 := h1.cell 0
  simp only [List.getElem?_cons_zero] at y0
  clear hc h1 h2
  go_enter Tryz.func34, Tryz.ntmps34
  go_wp2_with fail
  refine (unhide HR).mono ?_
  rintro e W1 (⟨code, ht, hco, rfl, hb⟩ | ⟨en, v, ht, hl, rfl, ho, hb⟩)
  · exact ⟨rfl, .inl ⟨code, ht, hco, rfl, hb⟩⟩
  · have hB := (unhide H2).mono hb (unhide H2).lt
    have z0 := hB.cell 0
    simp only [List.getElem?_cons_zero] at z0
    have f0 := hB.free 0
    have HT := hide ht; have HO := hide ho; have HB := hide hb
    obtain ⟨an, cn, hv, -⟩ := ho.nods
    subst hv
    clear ht ho hb hB y0
    go_wp2_with fail
    go_end0
    exact .inr ⟨en, _, W1, unhide HT, hl, rfl, unhide HO, unhide HB, rfl⟩
set_option maxRecDepth 100000 in
set_option maxHeartbeats 4000000 in
theorem attempt_any (g1 g2 : Nat) (a : Option Addr) (c : Nat) (l : List ByteArray) (w : World) (hc : RC w a l) (hcl : l.length ≤ c) (h1 : Blk w g1 48 [.slice a l.length c]) (h2 : Blk w g2 23 [.slice none 0 0]) (hg : g2 < w.heap.size) :
    Calls Tryz.prog 33 #[.func (.func 34) #[] #[.pointer (some ⟨g1, 0, none⟩), .pointer (some ⟨g2, 0, none⟩)]] w fun e w' => (∃ code : Int, TksA l code [] ∧ (code = 3 ∨ code = 4) ∧ e = .returned (.int .i64 code) ∧ Below w.heap.size w w') ∨ ∃ en v, TksA l 0 en ∧ en.length ≤ 1048576 ∧ e = .returned (.int .i64 0) ∧ OwnN w' w.heap.size v en ∧ Blk w' g2 23 [v] ∧ Below g2 w w' := by
  have hb0 := (Below.refl w.heap.size w).alloc (Nat.le_refl _) (.cells #[.int .i64 0] 3)
  have hk0 := Blk.new w 3 #[.int .i64 0]
  have hmf : ∀ (fn : Fn) (first cap : Array Value) (w : World), (Instr.makeFunc fn first cap).run Tryz.prog w = .ok (.func fn first cap) w := fun _ _ _ _ => rfl
  obtain ⟨W0, hW0⟩ : ∃ W0, w.alloc (.cells #[.int .i64 0] 3) = W0 := ⟨_, rfl⟩
  rw [hW0] at hb0 hk0
  have hs0 : W0.heap.size = w.heap.size + 1 := by rw [← hW0]; simp
  have HC := hide (closure_any g1 g2 a c l W0 (hc.mono hb0) hcl (h1.mono hb0 h1.lt) (h2.mono hb0 h2.lt))
  have HB0 := hide hb0; have HK0 := hide hk0; have H2 := hide (h2.mono hb0 h2.lt)
  have hs0' : w.heap.size < W0.heap.size := by omega
  clear hc h1 h2 hb0 hk0 hs0
  go_enter_defers Tryz.func33, Tryz.ntmps33
  go_wp2_with fail
  try rw [hW0]
  refine (unhide HC).mono ?_
  rintro e W1 (⟨code, ht, hco, rfl, hb⟩ | ⟨en, v, w1, ht, hl, rfl, ho, hb, rfl⟩)
  · have hK := (unhide HK0).mono hb (unhide HK0).lt
    have z0 := hK.cell 0
    simp only [List.getElem?_cons_zero] at z0
    have f0 := hK.free 0
    have HT := hide ht
    have HBn := hide ((((unhide HB0).trans (hb.mono (unhide HB0).size)).setCell (p := ⟨w.heap.size, 0, none⟩) (Nat.le_refl _) (.int .i64 code)))
    have hK' := hK.set 0 (.int .i64 code)
    have x0 := hK'.cell 0
    simp only [List.set_cons_zero, List.getElem?_cons_zero] at x0
    clear ht hb hK hK' hW0 HC
    refine leaves_cons (f := 59) (args := #[.pointer (some ⟨w.heap.size, 0, none⟩)]) (by simp) (by simp [go_sem]) ?_
    refine (catch_panicking ⟨w.heap.size, 0, none⟩ 0 code _ z0 f0).mono ?_
    rintro e u' w'' ⟨rfl, rfl, rfl⟩
    have hfin : Leaves Tryz.prog Tryz.f33 #[.func (.func 34) #[] #[.pointer (some ⟨g1, 0, none⟩), .pointer (some ⟨g2, 0, none⟩)], undef, .pointer (some ⟨w.heap.size, 0, none⟩), .func (.func 59) #[] #[.pointer (some ⟨w.heap.size, 0, none⟩)], .func (.func 34) #[] #[.pointer (some ⟨g1, 0, none⟩), .pointer (some ⟨g2, 0, none⟩)], undef] (fun e w' => (∃ code : Int, TksA l code [] ∧ (code = 3 ∨ code = 4) ∧ e = .returned (.int .i64 code) ∧ Below w.heap.size w w') ∨ ∃ en v, TksA l 0 en ∧ en.length ≤ 1048576 ∧ e = .returned (.int .i64 0) ∧ OwnN w' w.heap.size v en ∧ Blk w' g2 23 [v] ∧ Below g2 w w') [] (settle (.panicking [{ v := .iface 83 (.int .i64 code), recovered := true }])) (W1.setCell ⟨w.heap.size, 0, none⟩ (.int .i64 code)) := by
      refine ⟨.int .i64 code, ?_, .inl ⟨code, unhide HT, hco, rfl, unhide HBn⟩⟩
      simp [results, Tryz.results33, go_sem, x0]
    exact hfin
  · obtain ⟨an, cn, hv, -⟩ := ho.nods
    have hne : v.ownBlock ≠ some g2 := fun e => by have := owns_block ho e; omega
    have hne2 : v.ownBlock ≠ some w.heap.size := fun e => by have := owns_block ho e; omega
    have hK := (unhide HK0).mono hb (unhide HK0).lt
    have hG := (unhide H2).mono hb (unhide H2).lt
    have hK2 : Blk (w1.setCell ⟨g2, 0, none⟩ v) w.heap.size 3 [.int .i64 0] := (heap_setCell_other w1 ⟨g2, 0, none⟩ w.heap.size v (fun e => by simp at e; omega)).trans hK
    have z0 := hK2.cell 0
    simp only [List.getElem?_cons_zero] at z0
    have f0 := hK2.free 0
    have hO2 := ho.set hne 0 v
    have hG2 := hG.set 0 v
    simp only [List.set_cons_zero] at hG2
    have hbw : Below g2 w (w1.setCell ⟨g2, 0, none⟩ v) := (((unhide HB0).trans (hb.mono (unhide HB0).size)).mono (show g2 ≤ w.heap.size by omega)).setCell (p := ⟨g2, 0, none⟩) (Nat.le_refl _) v
    have HT := hide ht
    generalize hW2 : w1.setCell ⟨g2, 0, none⟩ v = W2 at *
    have hO3 := hO2.set hne2 0 (.int .i64 0)
    have hG3 : Blk (W2.setCell ⟨w.heap.size, 0, none⟩ (.int .i64 0)) g2 23 [v] := (heap_setCell_other W2 ⟨w.heap.size, 0, none⟩ g2 (.int .i64 0) (fun e => by simp at e; omega)).trans hG2
    have hb3 := hbw.setCell (p := ⟨w.heap.size, 0, none⟩) (by simp; omega) (.int .i64 0)
    have hK3 := hK2.set 0 (.int .i64 0)
    simp only [List.set_cons_zero] at hK3
    have x0 := hK3.cell 0
    simp only [List.getElem?_cons_zero] at x0
    have HO3 := hide (hO3.low (show w.heap.size ≤ W0.heap.size by omega)); have HG3 := hide hG3; have HB3 := hide hb3
    clear ht ho hb hK hG hK2 hO2 hG2 hbw hW0 HC hW2 hO3 hG3 hb3 hK3 hne hne2
    obtain ⟨W3, hW3⟩ : ∃ W3, W2.setCell ⟨w.heap.size, 0, none⟩ (.int .i64 0) = W3 := ⟨_, rfl⟩
    rw [hW3] at HO3 HG3 HB3 x0
    go_wp2_with fail
    try rw [hW3]
    refine leaves_cons (f := 59) (args := #[.pointer (some ⟨w.heap.size, 0, none⟩)]) (by simp) (by simp [go_sem]) ?_
    refine (catch_idle ⟨w.heap.size, 0, none⟩ _).mono ?_
    rintro e u' w'' ⟨rfl, rfl, rfl⟩
    have hfin : Leaves Tryz.prog Tryz.f33 #[.func (.func 34) #[] #[.pointer (some ⟨g1, 0, none⟩), .pointer (some ⟨g2, 0, none⟩)], undef, .pointer (some ⟨w.heap.size, 0, none⟩), .func (.func 59) #[] #[.pointer (some ⟨w.heap.size, 0, none⟩)], .func (.func 34) #[] #[.pointer (some ⟨g1, 0, none⟩), .pointer (some ⟨g2, 0, none⟩)], .tuple #[]] (fun e w' => (∃ code : Int, TksA l code [] ∧ (code = 3 ∨ code = 4) ∧ e = .returned (.int .i64 code) ∧ Below w.heap.size w w') ∨ ∃ en v, TksA l 0 en ∧ en.length ≤ 1048576 ∧ e = .returned (.int .i64 0) ∧ OwnN w' w.heap.size v en ∧ Blk w' g2 23 [v] ∧ Below g2 w w') [] (settle .returning) w'' := by
      refine ⟨.int .i64 0, ?_, .inr ⟨en, v, unhide HT, hl, rfl, unhide HO3, unhide HG3, unhide HB3⟩⟩
      simp [results, Tryz.results33, go_sem, x0]
    exact hfin
set_option maxRecDepth 100000 in
set_option maxHeartbeats 4000000 in
theorem implParse_any (s : ByteArray) (w : World) (hs : s.size ≤ 1048576) (hw : Wrds w) (hp : Pow w) (q1 : ErrV "strconv.ErrSyntax" w) (q2 : ErrV "strconv.ErrRange" w) :
    Calls Tryz.prog 8 #[.string s] w fun r w' => ∃ (code : Int) (en : List Nx) (v : Value), PrsA s code en ∧ en.length ≤ 1048576 ∧ r = .returned (.tuple #[v, .int .i64 code]) ∧ OwnN w' w.heap.size v en ∧ Below w.heap.size w w' := by
  have hmf : ∀ (fn : Fn) (first cap : Array Value) (w : World), (Instr.makeFunc fn first cap).run Tryz.prog w = .ok (.func fn first cap) w := fun _ _ _ _ => rfl
  by_cases hbig : 4000 < s.size
  · have hbig' : (4000 : Int) < (s.size : Int) := by omega
    have HA : Hid (PrsA s 1 []) := hide (.inl ⟨hbig, rfl, rfl⟩)
    clear hw hp q1 q2
    go_enter Tryz.func8, Tryz.ntmps8
    go_wp2_with fail
    go_ret2
    exact ⟨1, [], _, unhide HA, by simp, rfl, ⟨rfl, .inl ⟨rfl, rfl⟩⟩, Below.refl _ _⟩
  have hbig' : ¬ (4000 : Int) < (s.size : Int) := by omega
  have HSc := hide (scan_any s w hs hp q1 q2)
  have HW := hide hw; have HP := hide hp; have HQ1 := hide q1; have HQ2 := hide q2
  have HLe : Hid (s.size ≤ 4000) := hide (by omega)
  clear hw hp q1 q2 hbig
  go_enter Tryz.func8, Tryz.ntmps8
  go_wp2_with fail
  refine (unhide HSc).mono ?_
  rintro e W1 ⟨vt, z, rfl, hsc, hb1⟩
  have HB1 := hide hb1
  clear hb1 HSc
  unfold ScnA at hsc
  cases hlx : lxF s s.size 0 [] with
  | inl i =>
    rw [hlx] at hsc
    obtain ⟨rfl, rfl⟩ := hsc
    have HA : Hid (PrsA s 2 []) := hide (.inr ⟨unhide HLe, .inl ⟨i, hlx, rfl, rfl⟩⟩)
    have hz : (0 : Int) ≤ (i : Int) := by omega
    have HBa := hide ((unhide HB1).alloc (unhide HB1).size (.cells #[.slice none 0 0] 48))
    clear hlx
    go_wp2_with fail
    go_ret2
    exact ⟨2, [], _, unhide HA, by simp, rfl, ⟨rfl, .inl ⟨rfl, rfl⟩⟩, unhide HBa⟩
  | inr ts =>
    rw [hlx] at hsc
    obtain ⟨rfl, hos, hln, hvt⟩ := hsc
    have HPr : Hid (∀ code e, TksA ts code e → PrsA s code e) := hide fun code e h => .inr ⟨unhide HLe, .inr ⟨ts, hlx, h⟩⟩
    obtain ⟨a, c, rfl, hcl, hst⟩ := hos.strs
    have hb1 := unhide HB1
    have hrc : RC W1 a ts := ⟨hst, (unhide HW).mono hb1, (unhide HP).mono hb1, (unhide HQ1).mono hb1, (unhide HQ2).mono hb1, by omega, fun t ht => by have := (hvt t ht).2; omega⟩
    have hbA := (Below.refl W1.heap.size W1).alloc (Nat.le_refl _) (.cells #[.slice a ts.length c] 48)
    have hkA := Blk.new W1 48 #[.slice a ts.length c]
    obtain ⟨W2, hW2⟩ : ∃ W2, W1.alloc (.cells #[.slice a ts.length c] 48) = W2 := ⟨_, rfl⟩
    have hs2 : W2.heap.size = W1.heap.size + 1 := by rw [← hW2]; simp
    rw [hW2] at hbA hkA
    have hbB := (Below.refl W2.heap.size W2).alloc (Nat.le_refl _) (.cells #[.slice none 0 0] 23)
    have hkB := Blk.new W2 23 #[.slice none 0 0]
    obtain ⟨W3, hW3⟩ : ∃ W3, W2.alloc (.cells #[.slice none 0 0] 23) = W3 := ⟨_, rfl⟩
    have hs3 : W3.heap.size = W2.heap.size + 1 := by rw [← hW3]; simp
    rw [hW3] at hbB hkB
    have hb13 := hbA.trans (hbB.mono hbA.size)
    have HAt := hide (attempt_any W1.heap.size W2.heap.size a c ts W3 (hrc.mono hb13) hcl (hkA.mono hbB hkA.lt) hkB (by omega))
    have HB3 := hide (hb1.trans (hb13.mono hb1.size))
    have hwz : w.heap.size ≤ W1.heap.size := hb1.size
    have HS2 := hide hs2
    clear hos hln hvt hst hrc hbA hkA hbB hkB hb13 hb1 hlx hcl hs3 hs2
    go_wp2_with fail
    try rw [hW2]
    try rw [hW3]
    refine (unhide HAt).mono ?_
    rintro e W4 (⟨code, ht, hco, rfl, hb⟩ | ⟨en, v, ht, hl, rfl, ho, hk, hb⟩)
    · have HT := hide (unhide HPr _ _ ht)
      have hne : (code != 0) = true := by simp; omega
      have HB4 := hide ((unhide HB3).trans (hb.mono (unhide HB3).size))
      clear ht hb hW2 hW3 HAt hco
      go_wp2_with fail
      go_ret2
      exact ⟨code, [], _, unhide HT, by simp, rfl, ⟨rfl, .inl ⟨rfl, rfl⟩⟩, unhide HB4⟩
    · have HT := hide (unhide HPr _ _ ht)
      have z0 := hk.cell 0
      simp only [List.getElem?_cons_zero] at z0
      have HB4 := hide ((unhide HB3).trans (hb.mono (show w.heap.size ≤ W2.heap.size by have := unhide HS2; omega)))
      have HO4 := hide (ho.low (unhide HB3).size)
      obtain ⟨an, cn, rfl, -⟩ := ho.nods
      clear ht hb hW2 hW3 HAt ho hk
      go_wp2_with fail
      go_ret2
      exact ⟨0, en, _, unhide HT, hl, rfl, unhide HO4, unhide HB4⟩
end Go.Proofs.YtjgngbmkpiihgaaGreatDoor
