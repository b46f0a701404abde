import Derived.Test.YtjgngbmkpiihgaaGreatDoorGRe
import Derived.Test.YtjgngbmkpiihgaaGreatDoorZPrH
import Derived.Test.YtjgngbmkpiihgaaGreatDoorGIp
/- The program reads an expression off its tokens. -/
namespace Go.Proofs.YtjgngbmkpiihgaaGreatDoor
open Go Go.RowKit

section
variable {md : Region.Mode} {ops : Array Oper} {Q : Exit → Act → World → Prop} {S : World → Prop} {o : Oper} {a : Act}
/-- The one operation that may come up is a call that ends in a panic. -/
theorem panY {i : Nat} {fuel : Nat} {listed : Array Bool} {w : World} {f : FuncId} {args : Array Value} {R : List PanicEntry → World → Prop} (hi : ops[i]? = some o) (hw : Region.wanted o (yielded ops a.tmps) = true) (hr : Region.ready md ops listed = [i])
    (hrun : (execOp a.eval o).run Tryz.prog w = .ok (.enter f args) w) (hc : Calls Tryz.prog f args w fun e w' => ∃ ch, e = .panicked ch ∧ R ch w')
    (h : ∀ ch w', R ch w' → Q (.panic ch) a w') : wpAnyH Tryz.prog md ops Q S (fuel + 1) listed a w := by
  refine wpAnyH_ready hr (by simp) (AllReadyH.cons hi (fun K hK => ?_) AllReadyH.nil)
  rw [if_pos hw]
  unfold Oper.wp
  rw [hrun, Oper.upon_enter]
  refine hc.mono ?_
  rintro e w' ⟨ch, rfl, hR⟩
  exact h ch w' hR
end
theorem Rdr.set3 {w0 : World} {a : Option Addr} {c : Nat} {l : List ByteArray} {w : World} {i d : Nat} {v : Value} {ns : List Nx} (h : Rdr w0 a c l w i d v ns) : Rdr w0 a c l (w.setCell ⟨w0.heap.size, 3, none⟩ (.slice none 0 0)) i d (.slice none 0 0) [] :=
  ⟨h.blk.set 3 _, ⟨rfl, .inl ⟨rfl, rfl⟩⟩, h.bel.setCell (p := ⟨w0.heap.size, 3, none⟩) (Nat.le_refl _) _⟩
set_option maxRecDepth 100000 in
set_option maxHeartbeats 2000000 in
theorem expression_any {w0 : World} {a : Option Addr} {c : Nat} {l : List ByteArray} {w : World} {v : Value} {ns : List Nx} (hc : RC w0 a l) (hcl : l.length ≤ c) (h : Rdr w0 a c l w 0 0 v ns) :
    Calls Tryz.prog 60 #[.pointer (some ⟨w0.heap.size, 0, none⟩)] w fun e w' => (Evx tkX 64 (.op 1) 0 l none ∧ e = flt 3 ∧ Below w0.heap.size w0 w') ∨ ∃ en i' v', Evx tkX 64 (.op 1) 0 l (some (en, l.drop i')) ∧ e = .returned v' ∧ i' ≤ l.length ∧ Rdr w0 a c l w' i' 0 v' en := by
  have H := hide h
  have HO := hide (opers_all hc hcl (9 * l.length + 7) 0 0 1 _ _ [] (by omega) (by omega) (by omega) (by omega) (by omega) (by simp) h.set3)
  rw [show ((1 : Nat) : Int) = 1 from rfl] at HO
  obtain ⟨y0, y1, y2, y3⟩ := quart h.blk
  have f3 := h.blk.free 3
  clear hc h
  go_enter Tryz.func60, Tryz.ntmps60
  go_wp2_with fail
  refine (unhide HO).mono ?_
  rintro e W1 (⟨hev, rfl, hb⟩ | ⟨en, i', v', hev, rfl, k1, k2, k3, hr, hak⟩)
  · exact ⟨rfl, .inl ⟨by rw [List.drop_zero] at hev; exact hev, rfl, hb⟩⟩
  · have HE := hide hev; have H1 := hide hr
    rw [List.drop_zero] at HE
    rw [List.nil_append] at H1
    clear hev hr hak y0 y1 y2 y3 f3
    obtain ⟨y0, y1, y2, y3⟩ := quart (unhide H1).blk
    go_wp2_with fail
    go_ret
    exact .inr ⟨en, i', v', unhide HE, rfl, k2, unhide H1⟩
set_option maxRecDepth 100000 in
set_option maxHeartbeats 2000000 in
theorem end_any {w0 : World} {a : Option Addr} {c : Nat} {l : List ByteArray} {w : World} {i d : Nat} {v : Value} {ns : List Nx} (h : Rdr w0 a c l w i d v ns) :
    Calls Tryz.prog 61 #[.pointer (some ⟨w0.heap.size, 0, none⟩)] w fun e w' => (i = l.length ∧ e = .returned (.tuple #[]) ∧ Rdr w0 a c l w' i d v ns) ∨ (i ≠ l.length ∧ e = flt 3 ∧ Below w0.heap.size w0 w') := by
  have H := hide h
  have hb := (Below.refl w.heap.size w).drew
  have HD := hide (h.mono hb)
  obtain ⟨R, hR⟩ : ∃ R, w0.heap.size = R := ⟨_, rfl⟩
  have HB : Hid (Blk w.drew R 85 [.slice a l.length c, .int .i64 (i : Nat), .int .i64 (d : Nat), v]) := hide (by rw [← hR]; exact (h.mono hb).blk)
  have HR := hide hR
  rw [hR]
  clear h hb hR
  by_cases hq : i = l.length
  · have hq' : ((i : Int) == (l.length : Int)) = true := by simp [hq]
    have HQ := hide hq
    clear hq
    go_enter Tryz.func61, Tryz.ntmps61
    go_wp2_with fail
    refine wp_region_held_drew (S := fun w' => Blk w' R 85 [.slice a l.length c, .int .i64 (i : Nat), .int .i64 (d : Nat), v]) (by kernel_rfl) (unhide HB) (fun hHeld => ?_)
    refine takeY (i := 0) (v := .pointer (some ⟨R, 0, none⟩)) 2 rfl rfl (by kernel_rfl) (by kernel_rfl) (by kernel_rfl) (fun _ _ _ _ h => h) (by rfl) (fun w hS => by simp [execOp, go_sem, *]) hHeld ?_
    simp only [List.setIfInBounds_toArray, List.set_cons_zero, List.set_cons_succ]
    refine takeY (i := 1) (v := .pointer (some ⟨R, 0, none⟩)) 3 rfl rfl (by kernel_rfl) (by kernel_rfl) (by kernel_rfl) (fun _ _ _ _ h => h) (by rfl) (fun w hS => by simp [execOp, go_sem, *]) hHeld ?_
    simp only [List.setIfInBounds_toArray, List.set_cons_zero, List.set_cons_succ]
    refine takeY (i := 2) (v := .pointer (some ⟨R, 1, none⟩)) 4 rfl rfl (by kernel_rfl) (by kernel_rfl) (by kernel_rfl) (fun _ _ _ _ h => h) (by rfl) (fun w hS => by simp [execOp, go_sem, *]) hHeld ?_
    simp only [List.setIfInBounds_toArray, List.set_cons_zero, List.set_cons_succ]
    refine takeY (i := 3) (v := .int .i64 (i : Nat)) 5 rfl rfl (by kernel_rfl) (by kernel_rfl) (by kernel_rfl) (fun _ _ _ _ h => h) (by rfl) (fun w hS => by obtain ⟨q0, q1, q2, q3⟩ := quart hS; simp [execOp, go_sem, q1]) hHeld ?_
    simp only [List.setIfInBounds_toArray, List.set_cons_zero, List.set_cons_succ]
    refine takeY (i := 4) (v := .pointer (some ⟨R, 0, none⟩)) 6 rfl rfl (by kernel_rfl) (by kernel_rfl) (by kernel_rfl) (fun _ _ _ _ h => h) (by rfl) (fun w hS => by simp [execOp, go_sem, *]) hHeld ?_
    simp only [List.setIfInBounds_toArray, List.set_cons_zero, List.set_cons_succ]
    refine takeY (i := 5) (v := .pointer (some ⟨R, 0, none⟩)) 7 rfl rfl (by kernel_rfl) (by kernel_rfl) (by kernel_rfl) (fun _ _ _ _ h => h) (by rfl) (fun w hS => by simp [execOp, go_sem, *]) hHeld ?_
    simp only [List.setIfInBounds_toArray, List.set_cons_zero, List.set_cons_succ]
    refine takeY (i := 6) (v := .pointer (some ⟨R, 0, none⟩)) 8 rfl rfl (by kernel_rfl) (by kernel_rfl) (by kernel_rfl) (fun _ _ _ _ h => h) (by rfl) (fun w hS => by simp [execOp, go_sem, *]) hHeld ?_
    simp only [List.setIfInBounds_toArray, List.set_cons_zero, List.set_cons_succ]
    refine takeY (i := 7) (v := .slice a l.length c) 9 rfl rfl (by kernel_rfl) (by kernel_rfl) (by kernel_rfl) (fun _ _ _ _ h => h) (by rfl) (fun w hS => by obtain ⟨q0, q1, q2, q3⟩ := quart hS; simp [execOp, go_sem, q0]) hHeld ?_
    simp only [List.setIfInBounds_toArray, List.set_cons_zero, List.set_cons_succ]
    refine takeY (i := 8) (v := .int .i64 (l.length : Nat)) 10 rfl rfl (by kernel_rfl) (by kernel_rfl) (by kernel_rfl) (fun _ _ _ _ h => h) (by rfl) (fun w hS => by simp [execOp, go_sem, *]) hHeld ?_
    simp only [List.setIfInBounds_toArray, List.set_cons_zero, List.set_cons_succ]
    refine takeY (i := 9) (v := .bool true) 11 rfl rfl (by kernel_rfl) (by kernel_rfl) (by kernel_rfl) (fun _ _ _ _ h => h) (by rfl) (fun w hS => by simp [execOp, go_sem]; have := unhide HQ; omega) hHeld ?_
    simp only [List.setIfInBounds_toArray, List.set_cons_zero, List.set_cons_succ]
    refine callY (i := 10) (f := 62) (args := #[.bool true, .int .i64 3]) (R := fun r wz => wz = w.drew) 12 rfl rfl (by rfl) (by kernel_rfl) (by simp [execOp, go_sem]) ((ask_yes 3 w.drew).mono fun e w6 ⟨he, hb⟩ => ⟨_, he, hb⟩) ?_
    rintro vs W6 rfl
    refine ⟨unhide HB, ?_⟩
    refine wpAnyH_done (by kernel_rfl) ?_ _
    go_wp2_with fail
    go_end0
    exact .inl ⟨unhide HQ, rfl, unhide HD⟩
  · have hq' : ((i : Int) == (l.length : Int)) = false := beq_eq_false_iff_ne.2 (by omega)
    have HQ := hide hq
    clear hq
    go_enter Tryz.func61, Tryz.ntmps61
    go_wp2_with fail
    refine wp_region_held_drew (S := fun w' => Blk w' R 85 [.slice a l.length c, .int .i64 (i : Nat), .int .i64 (d : Nat), v]) (by kernel_rfl) (unhide HB) (fun hHeld => ?_)
    refine takeY (i := 0) (v := .pointer (some ⟨R, 0, none⟩)) 2 rfl rfl (by kernel_rfl) (by kernel_rfl) (by kernel_rfl) (fun _ _ _ _ h => h) (by rfl) (fun w hS => by simp [execOp, go_sem, *]) hHeld ?_
    simp only [List.setIfInBounds_toArray, List.set_cons_zero, List.set_cons_succ]
    refine takeY (i := 1) (v := .pointer (some ⟨R, 0, none⟩)) 3 rfl rfl (by kernel_rfl) (by kernel_rfl) (by kernel_rfl) (fun _ _ _ _ h => h) (by rfl) (fun w hS => by simp [execOp, go_sem, *]) hHeld ?_
    simp only [List.setIfInBounds_toArray, List.set_cons_zero, List.set_cons_succ]
    refine takeY (i := 2) (v := .pointer (some ⟨R, 1, none⟩)) 4 rfl rfl (by kernel_rfl) (by kernel_rfl) (by kernel_rfl) (fun _ _ _ _ h => h) (by rfl) (fun w hS => by simp [execOp, go_sem, *]) hHeld ?_
    simp only [List.setIfInBounds_toArray, List.set_cons_zero, List.set_cons_succ]
    refine takeY (i := 3) (v := .int .i64 (i : Nat)) 5 rfl rfl (by kernel_rfl) (by kernel_rfl) (by kernel_rfl) (fun _ _ _ _ h => h) (by rfl) (fun w hS => by obtain ⟨q0, q1, q2, q3⟩ := quart hS; simp [execOp, go_sem, q1]) hHeld ?_
    simp only [List.setIfInBounds_toArray, List.set_cons_zero, List.set_cons_succ]
    refine takeY (i := 4) (v := .pointer (some ⟨R, 0, none⟩)) 6 rfl rfl (by kernel_rfl) (by kernel_rfl) (by kernel_rfl) (fun _ _ _ _ h => h) (by rfl) (fun w hS => by simp [execOp, go_sem, *]) hHeld ?_
    simp only [List.setIfInBounds_toArray, List.set_cons_zero, List.set_cons_succ]
    refine takeY (i := 5) (v := .pointer (some ⟨R, 0, none⟩)) 7 rfl rfl (by kernel_rfl) (by kernel_rfl) (by kernel_rfl) (fun _ _ _ _ h => h) (by rfl) (fun w hS => by simp [execOp, go_sem, *]) hHeld ?_
    simp only [List.setIfInBounds_toArray, List.set_cons_zero, List.set_cons_succ]
    refine takeY (i := 6) (v := .pointer (some ⟨R, 0, none⟩)) 8 rfl rfl (by kernel_rfl) (by kernel_rfl) (by kernel_rfl) (fun _ _ _ _ h => h) (by rfl) (fun w hS => by simp [execOp, go_sem, *]) hHeld ?_
    simp only [List.setIfInBounds_toArray, List.set_cons_zero, List.set_cons_succ]
    refine takeY (i := 7) (v := .slice a l.length c) 9 rfl rfl (by kernel_rfl) (by kernel_rfl) (by kernel_rfl) (fun _ _ _ _ h => h) (by rfl) (fun w hS => by obtain ⟨q0, q1, q2, q3⟩ := quart hS; simp [execOp, go_sem, q0]) hHeld ?_
    simp only [List.setIfInBounds_toArray, List.set_cons_zero, List.set_cons_succ]
    refine takeY (i := 8) (v := .int .i64 (l.length : Nat)) 10 rfl rfl (by kernel_rfl) (by kernel_rfl) (by kernel_rfl) (fun _ _ _ _ h => h) (by rfl) (fun w hS => by simp [execOp, go_sem, *]) hHeld ?_
    simp only [List.setIfInBounds_toArray, List.set_cons_zero, List.set_cons_succ]
    refine takeY (i := 9) (v := .bool false) 11 rfl rfl (by kernel_rfl) (by kernel_rfl) (by kernel_rfl) (fun _ _ _ _ h => h) (by rfl) (fun w hS => by simp [execOp, go_sem]; have := unhide HQ; omega) hHeld ?_
    simp only [List.setIfInBounds_toArray, List.set_cons_zero, List.set_cons_succ]
    refine panY (i := 10) (f := 62) (args := #[.bool false, .int .i64 3]) (R := fun ch wz => .panicked ch = flt 3 ∧ wz = w.drew) rfl (by rfl) (by kernel_rfl) (by simp [execOp, go_sem]) ((ask_no 3 w.drew).mono fun e w6 ⟨he, hb⟩ => ⟨_, he, rfl, hb⟩) ?_
    rintro ch W6 ⟨hch, rfl⟩
    refine ⟨rfl, ?_⟩
    rw [hch]
    exact .inr ⟨unhide HQ, rfl, by rw [← unhide HR]; exact (unhide HD).bel⟩
set_option maxRecDepth 100000 in
set_option maxHeartbeats 1000000 in
theorem isExprR_any (a : Option Addr) (c : Nat) (l : List Nx) (w : World) (hm : l.length ≤ 9223372036854775807) (ha : NodL w a l) (hf : ∀ k, k < l.length → Fit (nf l k)) (hw : Wrds w) (hp : Pow w) :
    Calls Tryz.prog 63 #[.slice a l.length c] w fun r w' => r = .returned (.bool (vxL l)) ∧ Below w.heap.size w w' := by
  have HC := hide (printed_any a l.length c (nf l) w hm ha hf hw hp)
  obtain ⟨t, ht⟩ : ∃ t, (if vxB (nf l) l.length then (top (nf l) l.length).t else ⟨#[]⟩) = t := ⟨_, rfl⟩
  obtain ⟨q, hq⟩ : ∃ q, vxB (nf l) l.length = q := ⟨_, rfl⟩
  rw [ht, hq] at HC
  rw [show vxL l = q from hq]
  clear ht hq ha hf hw hp
  go_enter Tryz.func63, Tryz.ntmps63
  go_wp2_with fail
  refine (unhide HC).mono ?_
  rintro x w1 ⟨rfl, hb⟩
  have HB := hide hb
  clear hb HC
  go_wp2_with fail
  go_ret
  exact ⟨rfl, unhide HB⟩
theorem Rdr.start (a : Option Addr) (c : Nat) (l : List ByteArray) (w : World) : Rdr w a c l (w.alloc (.cells #[.slice a l.length c, .int .i64 0, .int .i64 0, .slice none 0 0] 85)) 0 0 (.slice none 0 0) [] :=
  ⟨Blk.new w 85 #[.slice a l.length c, .int .i64 0, .int .i64 0, .slice none 0 0], ⟨rfl, .inl ⟨rfl, rfl⟩⟩, (Below.refl _ _).alloc (Nat.le_refl _) _⟩
set_option maxRecDepth 100000 in
set_option maxHeartbeats 4000000 in
theorem readExpr_any (a : Option Addr) (c : Nat) (l : List ByteArray) (w : World) (hc : RC w a l) (hcl : l.length ≤ c) :
    Calls Tryz.prog 35 #[.slice a l.length c] w fun e w' => (∃ code : Int, TksA l code [] ∧ (code = 3 ∨ code = 4) ∧ e = flt code ∧ Below w.heap.size w w') ∨ ∃ en v, TksA l 0 en ∧ en.length ≤ 1048576 ∧ e = .returned v ∧ OwnN w' w.heap.size v en ∧ Below w.heap.size w w' := by
  have hl := hc.len
  have HCc := hide hc
  have HEx := hide (expression_any hc hcl (Rdr.start a c l w))
  obtain ⟨W0, hW0⟩ : ∃ W0, w.alloc (.cells #[.slice a l.length c, .int .i64 0, .int .i64 0, .slice none 0 0] 85) = W0 := ⟨_, rfl⟩
  rw [hW0] at HEx
  have HW0 := hide hW0
  clear hc hW0
  go_enter Tryz.func35, Tryz.ntmps35
  go_wp2_with fail
  rw [unhide HW0]
  refine (unhide HEx).mono ?_
  rintro e W1 (⟨hev, rfl, hb⟩ | ⟨en, i', v', hev, rfl, k2, hr⟩)
  case inl =>
    have hall := ev_all tkX_ok hev
    exact ⟨rfl, .inl ⟨3, .inl ⟨fun e' h => (by have := (hall e').1 h; cases this), rfl, rfl⟩, .inl rfl, rfl, hb⟩⟩
  have HAll := hide (ev_all tkX_ok hev)
  have H := hide hr
  clear HW0 HEx hev hr
  go_wp2_with fail
  refine (end_any (unhide H)).mono ?_
  rintro e W2 (⟨rfl, rfl, hr⟩ | ⟨hq, rfl, hb⟩)
  case inr =>
    refine ⟨rfl, .inl ⟨3, .inl ⟨fun e' h => ?_, rfl, rfl⟩, .inl rfl, rfl, hb⟩⟩
    have h9 := (unhide HAll e').1 h
    simp only [Option.some.injEq, Prod.mk.injEq] at h9
    have := congrArg List.length h9.2
    rw [List.length_drop] at this
    simp at this
    omega
  have H2 := hide hr
  have HG : Hid (ExG l en) := hide ((unhide HAll en).2 (by rw [List.drop_length]))
  clear hr H HAll
  obtain ⟨an, cn, hv, hnd⟩ := (unhide H2).own.nods
  subst hv
  have hlen := (unhide HG).1.len
  have HIs := hide (isExprR_any an cn en W2 (by omega) hnd ((unhide HG).1.fitL (unhide HCc).tz) ((unhide HCc).wr.mono (unhide H2).bel) ((unhide HCc).pw.mono (unhide H2).bel))
  clear hnd
  cases hvx : vxL en
  · have HT : Hid (TksA l 4 []) := hide (.inr ⟨en, unhide HG, .inl ⟨hvx, rfl, rfl⟩⟩)
    rw [hvx] at HIs
    clear hvx
    go_wp2_with fail
    refine (unhide HIs).mono ?_
    rintro e W3 ⟨rfl, hb⟩
    have HB := hide ((unhide H2).bel.trans (hb.mono (unhide H2).bel.size))
    clear hb
    go_wp2_with fail
    refine (ask_no _ _).mono ?_
    rintro e w4 ⟨rfl, rfl⟩
    exact ⟨rfl, .inl ⟨4, unhide HT, .inr rfl, rfl, unhide HB⟩⟩
  · have HT : Hid (TksA l 0 en) := hide (.inr ⟨en, unhide HG, .inr ⟨hvx, rfl, rfl⟩⟩)
    rw [hvx] at HIs
    clear hvx
    go_wp2_with fail
    refine (unhide HIs).mono ?_
    rintro e W3 ⟨rfl, hb⟩
    have HB := hide ((unhide H2).bel.trans (hb.mono (unhide H2).bel.size))
    have HO := hide (((unhide H2).own.keep hb).low (Nat.le_succ _))
    clear hb
    go_wp2_with fail
    refine (ask_yes _ _).mono ?_
    rintro e w4 ⟨rfl, rfl⟩
    go_wp2_with fail
    go_ret
    exact .inr ⟨en, _, unhide HT, by omega, rfl, unhide HO, unhide HB⟩
end Go.Proofs.YtjgngbmkpiihgaaGreatDoor
