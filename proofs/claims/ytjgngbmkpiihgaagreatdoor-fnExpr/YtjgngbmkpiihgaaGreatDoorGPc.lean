import Derived.Test.YtjgngbmkpiihgaaGreatDoorGPb
import Derived.Test.YtjgngbmkpiihgaaGreatDoorGHn
import Derived.Test.YtjgngbmkpiihgaaGreatDoorGIE
/- The model's parser: parting at the last sign. -/
namespace Go.Proofs.YtjgngbmkpiihgaaGreatDoor
open Go Go.RowKit

section
variable {md : Region.Mode} {ops : Array Oper} {Q : Exit → Act → World → Prop} {S : World → Prop} {o : Oper} {a : Act} {fuel : Nat} {listed : Array Bool} {i : Nat} {w w' : World}
theorem runZ {v : Value} (d : Tmp) (hi : ops[i]? = some o) (hd : o.dst = some d) (hw : Region.wanted o (yielded ops a.tmps) = true) (hr : Region.ready md ops listed = [i])
    (hrun : (execOp a.eval o).run Tryz.prog w = .ok (.value v) w') (hS : S w') (h : wpAnyH Tryz.prog md ops Q S fuel (listed.setIfInBounds i true) { tmps := a.tmps.setIfInBounds d v, defers := a.defers } w') : wpAnyH Tryz.prog md ops Q S (fuel + 1) listed a w :=
  wpAnyH_ready hr (by simp) (consRun d hi hd hw hrun hS h AllReadyH.nil)
end
theorem OwnN.snoc {w : World} {base : Nat} {v : Value} {l : List Nx} {n : Nx} (h : w.ownsRow base 41 5 v (l.length + 1) (nodV l ++ nC n)) : OwnN w base v (l ++ [n]) := by
  unfold OwnN
  rw [nodV_app, List.length_append]
  simpa [nodV] using h
theorem bin_end {l : List ByteArray} {lv : Nat} (h : ∀ i, i + 1 < l.length → ¬ BinAt tkX lv l i) (i : Nat) : ¬ BinAt tkX lv l i := fun hb => by
  have hb' := hb
  obtain ⟨p, t, -, h2, -⟩ := hb
  exact h i (List.getElem?_eq_some_iff.1 h2).1 hb'
theorem spl_up {w w' : World} {lv lv' : Nat} {l : List ByteArray} {r : Ending} (h : SplA w lv' 0 l [] r w') (hi : ∀ e, Gr tkX lv 0 l e ↔ Gr tkX lv' 0 l e) : SplA w lv 0 l [] r w' := by
  obtain ⟨v, b, rfl, hb, hy, hn⟩ := h
  exact ⟨v, b, rfl, hb, fun q => by obtain ⟨e, h1, h2⟩ := hy q; exact ⟨e, (hi e).2 h1, h2⟩, fun q e => by rw [hi e]; exact hn q e⟩
theorem spl_low {w w1 w' : World} {lv n : Nat} {l : List ByteArray} {x : List Nx} {v : Value} {b : Bool} (h : SplA w1 lv n l x (.returned (.tuple #[v, .bool b])) w') (hb : Below w.heap.size w w1) : SplA w lv n l x (.returned (.tuple #[v, .bool b])) w' := by
  obtain ⟨v', b', e, hb', hy, hn⟩ := h
  cases e
  exact ⟨v, b, rfl, hb.trans (hb'.mono hb.size), fun q => by obtain ⟨e, h1, h2⟩ := hy q; exact ⟨e, h1, h2.low hb.size⟩, hn⟩

set_option maxRecDepth 100000 in
set_option maxHeartbeats 8000000 in
theorem split5 (n : Nat) (hI : Splits n) (l : List ByteArray) (lv : Nat) (a : Option Addr) (c : Nat) (w : World) (hm : 9 * l.length + (8 - lv) ≤ n + 1) (h1 : 1 ≤ lv) (h5 : lv ≤ 5) (hc : l.length ≤ c) (hl : l.length ≤ 1048576) (ht : TkOk l) (ha : Tks w a l) (h0 : 0 < l.length) :
    Calls Tryz.prog 72 #[.slice a l.length c, .int .i64 (lv : Nat)] w (SplA w lv 0 l []) := by
  have HI := hide hI; have HT := hide ht; have HA := hide ha
  have hz : ((l.length : Int) == 0) = false := beq_eq_false_iff_ne.2 (by omega)
  have h5' : (lv : Int) ≤ 5 := by omega
  have HLS := hide (l3LastSign_any a c l lv w hl ht ha)
  obtain ⟨l1, hl1⟩ : ∃ x, lv + 1 = x := ⟨_, rfl⟩
  have hl1' := i_one hl1
  have hlb : lv < l1 := by omega
  have hlc : l1 ≤ 6 := by omega
  have HNo := hide (fun hn e => split_none tkX_ok (l := lv) (ts := l) h1 h5 hn e)
  have HSo := hide (fun (i : Nat) (x y : List ByteArray) (t : ByteArray) (e : List Nx) => split_some tkX_ok (l := lv) (i := i) (a := x) (b := y) (t := t) h1 h5 (e := e))
  rw [hl1] at HNo HSo
  clear hI ht ha hl1
  go_enter Tryz.func72, Tryz.ntmps72
  go_wp2_with fail
  refine (unhide HLS).mono ?_
  rintro r W1 ⟨last, rfl, hls, hb⟩
  have HB := hide hb
  replace HA := hide ((unhide HA).mono hb)
  clear hb HLS
  cases last with
  | none =>
    have hneg : (-1 : Int) < 0 := by decide
    have HX := hide (unhide HNo (bin_end hls))
    clear hls
    unfold lastV
    go_wp2_with fail
    refine (unhide HI l l1 a c _ (by omega) (by omega) (by omega) hc hl (unhide HT) (unhide HA)).mono ?_
    intro r9 w3 h9
    have HZ := hide h9
    obtain ⟨v, bb, rfl, hb, -⟩ := h9
    clear hb
    go_wp2_with fail
    go_ret2
    exact spl_up (spl_low (unhide HZ) (unhide HB)) (unhide HX)
  | some k =>
    obtain ⟨i, rfl, hk, hbin, hlast⟩ := hls
    obtain ⟨at', hat⟩ : ∃ x, i + 1 = x := ⟨_, rfl⟩
    have HIff : Hid (∀ e, Gr tkX lv 0 l e ↔ ∃ ea eb, Gr tkX (if lv = 3 then 4 else lv) 0 (l.take at') ea ∧ Gr tkX l1 0 (l.drop (at' + 1)) eb ∧ e = ea ++ eb ++ [tkX.o (tkX.b (l[i + 1]'hk))]) := hide fun e => by
      have hsp : l = l.take at' ++ l[i + 1]'hk :: l.drop (at' + 1) := by
        subst hat
        rw [← drop_get hk, List.take_append_drop]
      have h8 := unhide HSo i (l.take at') (l.drop (at' + 1)) (l[i + 1]'hk) e
      rw [← hsp] at h8
      refine h8 hbin (fun j h1 h2 => ?_) (by rw [List.length_take]; omega)
      by_cases hj : j + 1 < l.length
      · exact hlast j h1 hj h2
      · obtain ⟨p, t, -, h3, -⟩ := h2
        exact hj (List.getElem?_eq_some_iff.1 h3).1
    have HSg : Hid (sgN (l[i + 1]'hk) lv = tkX.b (l[i + 1]'hk)) := hide (by
      obtain ⟨p, t, -, h3, -, -, h4, h6⟩ := hbin
      rw [List.getElem?_eq_getElem hk] at h3
      cases h3
      unfold sgN
      rw [if_pos ⟨h4, h6⟩])
    obtain ⟨b, o, p, rfl, hcc⟩ := (unhide HA) (i + 1) hk
    generalize l[i + 1]'hk = t at *
    rw [hat] at hcc hk ⊢
    have HC := hide hcc
    have hpos : 1 ≤ at' := by omega
    clear hbin hlast hat hcc HNo HSo
    obtain ⟨A, hA⟩ : ∃ x, l.take at' = x := ⟨_, rfl⟩
    obtain ⟨B, hB⟩ : ∃ x, l.drop (at' + 1) = x := ⟨_, rfl⟩
    have hAl : A.length = at' := by rw [← hA, List.length_take]; omega
    have hBl : B.length = l.length - (at' + 1) := by rw [← hB, List.length_drop]
    have HAv : Hid (Tks W1 (cutA (some ⟨b, o, none⟩) 0 c 3) A) := hide (by have := (unhide HA).cut (lo := 0) (hi := at') (by omega) hc; rw [hA, List.drop_zero] at this; exact this)
    have HAt : Hid (TkOk A) := hide (by have := (unhide HT).cut 0 at'; rw [hA, List.drop_zero] at this; exact this)
    have HBv : Hid (Tks W1 (cutA (some ⟨b, o, none⟩) (at' + 1) c 3) B) := hide (by have := (unhide HA).cut (lo := at' + 1) (hi := l.length) (Nat.le_refl _) hc; rw [List.take_length, hB] at this; exact this)
    have HBt : Hid (TkOk B) := hide (by have := (unhide HT).cut (at' + 1) l.length; rw [List.take_length, hB] at this; exact this)
    have hsA := cut_h (some ⟨b, o, none⟩) l.length c at' (by omega)
    have hsB := cut_l (some ⟨b, o, none⟩) l.length c (at' + 1) (by omega)
    rw [hA, hB] at HIff
    rw [← hAl] at hsA
    rw [← hBl] at hsB
    have hAm : A.length ≤ at' := by omega
    have hBm : B.length + at' + 1 ≤ l.length := by omega
    rw [hAl] at hsA
    have HAe := hide hAl
    obtain ⟨a1, ha1⟩ : ∃ x, at' + 1 = x := ⟨_, rfl⟩
    have ha1' := i_one ha1
    rw [ha1] at hsB HBv
    have ha2 : at' < a1 := by omega
    have hbc : B.length ≤ c - a1 := by omega
    have hnn : ¬ (at' : Int) < 0 := by omega
    clear hA hB hAl hBl ha1
    unfold lastV
    obtain ⟨lf, hlf⟩ : ∃ x, (if lv = 3 then 4 else lv) = x := ⟨_, rfl⟩
    have hlf1 : 1 ≤ lf ∧ lf ≤ 5 ∧ lv ≤ lf := by split at hlf <;> omega
    rw [hlf] at HIff
    have HLf := hide hlf
    clear hlf
    have hlf1a := hlf1.1
    have hlf1b := hlf1.2.1
    have hlf1c := hlf1.2.2
    have HCA := hide (unhide HI A lf _ c W1 (by omega) hlf1a (by omega) (by omega) (by omega) (unhide HAt) (unhide HAv))
    rw [unhide HAe] at HCA
    clear hlf1 HAv HAt
    rcases Decidable.em (lv = 3) with h3 | h3
    case' inl =>
      have h4 : lf = 4 := by rw [← unhide HLf, if_pos h3]
      have h3' : ((lv : Int) == 3) = true := by simp [h3]
      subst h4
      clear h3 HLf
      go_wp2_with fail
    case' inr =>
      have h4 : lv = lf := by rw [← unhide HLf, if_neg h3]
      have h3' : ((lv : Int) == 3) = false := beq_eq_false_iff_ne.2 (by omega)
      subst h4
      clear h3 HLf
      go_wp2_with fail
    all_goals
      refine (unhide HCA).mono ?_
      rintro r9 W2 ⟨va, ba, rfl, hb, hy, hno⟩
      replace HB := hide ((unhide HB).trans (hb.mono (unhide HB).size)); replace HC := hide ((unhide HC).mono hb); replace HBv := hide ((unhide HBv).mono hb)
      clear hb HCA
      cases ba
      case' false =>
        have HX := hide (hno rfl)
        clear hy hno
        have HZ := hide ((Below.refl W2.heap.size W2).alloc (Nat.le_refl _) (.cells #[] 41))
        go_wp2_with fail
        go_ret2
        exact spl_no ((unhide HB).trans ((unhide HZ).mono (unhide HB).size)) (fun e he => by obtain ⟨ea, eb, h8, -, -⟩ := (unhide HIff e).1 he; exact unhide HX ea h8)
      obtain ⟨ea, hga, hoa⟩ := hy rfl
      rw [List.append_nil] at hoa
      have HGa := hide hga; have HOa := hide hoa
      have hla := hga.len
      clear hy hno hga hoa
      go_wp2_with fail
      refine (unhide HI B l1 _ (c - a1) _ (by omega) (by omega) (by omega) hbc (by omega) (unhide HBt) (unhide HBv)).mono ?_
      rintro r9 W3 ⟨vb, bb, rfl, hb, hy, hno⟩
      replace HB := hide ((unhide HB).trans (hb.mono (unhide HB).size)); replace HC := hide ((unhide HC).mono hb); replace HOa := hide ((unhide HOa).keep hb)
      clear hb HBv
      cases bb
      case' false =>
        have HX := hide (hno rfl)
        clear hy hno
        have HZ := hide ((Below.refl W3.heap.size W3).alloc (Nat.le_refl _) (.cells #[] 41))
        go_wp2_with fail
        go_ret2
        exact spl_no ((unhide HB).trans ((unhide HZ).mono (unhide HB).size)) (fun e he => by obtain ⟨ea, eb, -, h8, -⟩ := (unhide HIff e).1 he; exact unhide HX eb h8)
      obtain ⟨eb, hgb, hob⟩ := hy rfl
      rw [List.append_nil] at hob
      have HGb := hide hgb; have HOb := hide hob
      have hlb2 := hgb.len
      clear hy hno hgb hob
      have hk' := i_lt hk
      go_wp2_with fail
      obtain ⟨i0, hi, hz0, hz1, hz2⟩ := info_parts info_nd
      have hdr := (Below.refl W3.heap.size W3).drew
      refine wp_region_held_drew (S := fun w' => TCel w' b (o + at' * 3) t p) (by kernel_rfl) ((unhide HC).mono hdr) (fun hHeld => ?_)
      refine takeY (i := 0) (v := va) 59 rfl rfl (by kernel_rfl) (by kernel_rfl) (by kernel_rfl) (fun _ _ _ _ h => h) (by rfl) (fun w hS => by simp [execOp, go_sem, *]) hHeld ?_
      simp only [List.setIfInBounds_toArray, List.set_cons_zero, List.set_cons_succ]
      refine takeY (i := 1) (v := vb) 60 rfl rfl (by kernel_rfl) (by kernel_rfl) (by kernel_rfl) (fun _ _ _ _ h => h) (by rfl) (fun w hS => by simp [execOp, go_sem, *]) hHeld ?_
      simp only [List.setIfInBounds_toArray, List.set_cons_zero, List.set_cons_succ]
      refine takeY (i := 3) (v := .slice (some ⟨b, o, none⟩) l.length c) 62 rfl rfl (by kernel_rfl) (by kernel_rfl) (by kernel_rfl) (fun _ _ _ _ h => h) (by rfl) (fun w hS => by simp [execOp, go_sem, *]) hHeld ?_
      simp only [List.setIfInBounds_toArray, List.set_cons_zero, List.set_cons_succ]
      refine takeY (i := 4) (v := .int .i64 (at' : Nat)) 63 rfl rfl (by kernel_rfl) (by kernel_rfl) (by kernel_rfl) (fun _ _ _ _ h => h) (by rfl) (fun w hS => by simp [execOp, go_sem, *]) hHeld ?_
      simp only [List.setIfInBounds_toArray, List.set_cons_zero, List.set_cons_succ]
      refine takeY (i := 5) (v := .pointer (some ⟨b, o + at' * 3, none⟩)) 64 rfl rfl (by kernel_rfl) (by kernel_rfl) (by kernel_rfl) (fun _ _ _ _ h => h) (by rfl) (fun w hS => by simp [execOp, go_sem, *]) hHeld ?_
      simp only [List.setIfInBounds_toArray, List.set_cons_zero, List.set_cons_succ]
      refine takeY (i := 6) (v := .agg #[.int .i64 (cls t : Nat), .string (txt t), .int .i64 p]) 65 rfl rfl (by kernel_rfl) (by kernel_rfl) (by kernel_rfl) (fun _ _ _ _ h => h) (by rfl) (fun w hS => by obtain ⟨-, q0, q1, q2⟩ := hS; simp [execOp, go_sem, q0, q1, q2]) hHeld ?_
      simp only [List.setIfInBounds_toArray, List.set_cons_zero, List.set_cons_succ]
      refine takeY (i := 7) (v := .int .i64 (lv : Nat)) 66 rfl rfl (by kernel_rfl) (by kernel_rfl) (by kernel_rfl) (fun _ _ _ _ h => h) (by rfl) (fun w hS => by simp [execOp, go_sem, *]) hHeld ?_
      simp only [List.setIfInBounds_toArray, List.set_cons_zero, List.set_cons_succ]
      have hOa := (unhide HOa).keep hdr
      have hOb := (unhide HOb).keep hdr
      refine callY (i := 2) (f := 18) (args := #[va, vb]) (R := fun r wz => OwnN wz W3.heap.size r (ea ++ eb) ∧ Below W3.heap.size W3 wz) 61 rfl rfl (by rfl) (by kernel_rfl) (by simp [execOp, go_sem]) ((join_own hOa hOb (by omega)).mono fun e w6 ⟨v, he, ho, hb⟩ => ⟨v, he, ho, below_of_drew hb⟩) ?_
      clear hOa hOb
      rintro vj W4 ⟨hoj, hb⟩
      have hC4 := (unhide HC).mono hb
      have hB4 := (unhide HB).trans (hb.mono (unhide HB).size)
      have h34 := hb
      refine ⟨hC4, ?_⟩
      clear hb hHeld
      simp only [List.setIfInBounds_toArray, List.set_cons_zero, List.set_cons_succ]
      refine callY (i := 8) (f := 106) (args := #[.agg #[.int .i64 (cls t : Nat), .string (txt t), .int .i64 p], .int .i64 (lv : Nat)]) (R := fun r wz => r = .int .i64 (tkX.b t : Nat) ∧ Below W4.heap.size W4 wz) 67 rfl rfl (by rfl) (by kernel_rfl) (by simp [execOp, go_sem]) ((sign_tok t p lv W4).mono fun e w6 ⟨he, hb⟩ => ⟨_, he, by rw [unhide HSg], hb⟩) ?_
      rintro vs W5 ⟨rfl, hb⟩
      have hC5 := hC4.mono hb
      have hB5 := hB4.trans (hb.mono hB4.size)
      have hO5 := hoj.keep hb
      have h35 := h34.trans (hb.mono h34.size)
      refine ⟨hC5, ?_⟩
      clear hb hC4 hB4 hoj
      simp only [List.setIfInBounds_toArray, List.set_cons_zero, List.set_cons_succ]
      refine callY (i := 9) (f := 19) (args := #[.int .i64 (tkX.b t : Nat)]) (R := fun r wz => r = .agg (nC (opNd (tkX.b t))).toArray ∧ Below W5.heap.size W5 wz) 68 rfl rfl (by rfl) (by kernel_rfl) (by simp [execOp, go_sem]) ((l3OpNode_any _ W5).mono fun e w6 ⟨he, hb⟩ => ⟨_, he, rfl, hb⟩) ?_
      rintro vs W6 ⟨rfl, hb⟩
      have hC6 := hC5.mono hb
      have hB6 := hB5.trans (hb.mono hB5.size)
      have hO6 := hO5.keep hb
      have h36 := h35.trans (hb.mono h35.size)
      refine ⟨hC6, ?_⟩
      clear hb hC5 hB5 hO5
      simp only [List.setIfInBounds_toArray, List.set_cons_zero, List.set_cons_succ]
      have hba := (Below.refl W6.heap.size W6).alloc (Nat.le_refl _) (.cells (nC (opNd (tkX.b t))).toArray 41)
      have hN := Blk.new W6 41 (nC (opNd (tkX.b t))).toArray
      refine runZ (i := 10) (v := .slice (some ⟨W6.heap.size, 0, none⟩) 1 1) (w' := W6.alloc (.cells (nC (opNd (tkX.b t))).toArray 41)) 69 rfl rfl (by rfl) (by kernel_rfl) (by simp [execOp, go_sem, nC]) (hC6.mono hba) ?_
      simp only [List.setIfInBounds_toArray, List.set_cons_zero, List.set_cons_succ]
      refine appY (i := 11) 70 rfl rfl rfl (by kernel_rfl) (.tmp 61) (.tmp 69) 23 rfl W3.heap.size 41 i0 _ 5 56 Tryz.underlying23 hi hz0 hz1 hz2 rfl (by omega) vj (ea ++ eb).length (nodV (ea ++ eb)) rfl (hO6.keep hba) ⟨W6.heap.size, 0, none⟩ 1 1 (nC (opNd (tkX.b t))) rfl rfl (fun j v hj => by rw [show (⟨W6.heap.size, 0, none⟩ : Addr).add j = ⟨W6.heap.size, j, none⟩ by simp [Addr.add]; try exact fun h => h.symm, hN.cell j]; simpa using hj) (by simp [nC, Value.oneCell']) (by omega) (by unfold maxLen; rw [List.length_append]; omega) (by rw [List.length_append]; omega) (Nat.le_trans h36.size hba.size) _ rfl ?_
      intro q cap W9 ho hgr _ _
      have hB9 := ((hB6.trans (hba.mono hB6.size)).grown hgr (Nat.le_trans hB6.size hba.size) (fun q e => by have := owns_block hO6 e; have := (unhide HB).size; omega))
      have HO9 : Hid (OwnN W9 W3.heap.size (.slice (some ⟨q, 0, none⟩) ((ea ++ eb).length + 1) cap) (ea ++ eb ++ [opNd (tkX.b t)])) := hide (by
        exact OwnN.snoc ho)
      have HB9 := hide hB9
      have hHeld : TCel W9 b (o + at' * 3) t p := by
        exact (unhide HC).mono ((h36.trans (hba.mono h36.size)).grown hgr (Nat.le_trans h36.size hba.size) (fun q e => owns_block hO6 e))
      refine ⟨hHeld, ?_⟩
      simp only [List.setIfInBounds_toArray, List.set_cons_zero, List.set_cons_succ]
      refine takeY (i := 12) (v := .slice (some ⟨q, 0, none⟩) ((ea ++ eb).length + 1) cap) 4 rfl rfl (by kernel_rfl) (by kernel_rfl) (by kernel_rfl) (fun _ _ _ _ h => h) (by rfl) (fun w hS => by simp [execOp, go_sem, *]) hHeld ?_
      simp only [List.setIfInBounds_toArray, List.set_cons_zero, List.set_cons_succ]
      refine takeY (i := 13) (v := .bool true) 5 rfl rfl (by kernel_rfl) (by kernel_rfl) (by kernel_rfl) (fun _ _ _ _ h => h) (by rfl) (fun w hS => by simp [execOp, go_sem, *]) hHeld ?_
      simp only [List.setIfInBounds_toArray, List.set_cons_zero, List.set_cons_succ]
      refine wpAnyH_done (by kernel_rfl) ?_ _
      clear hHeld ho hgr hB9 hba hN hO6 hB6 hC6 hi hz0 hz1 hz2
      go_wp2_with fail
      go_ret2
      exact ⟨_, _, rfl, unhide HB9, fun _ => ⟨ea ++ eb ++ [opNd (tkX.b t)], (unhide HIff _).2 ⟨ea, eb, unhide HGa, unhide HGb, rfl⟩, by rw [List.append_nil]; exact (unhide HO9).low (unhide HB).size⟩, (fun h => nomatch h)⟩
end Go.Proofs.YtjgngbmkpiihgaaGreatDoor

/- The model's parser: signs before an operand; the whole. -/
namespace Go.Proofs.YtjgngbmkpiihgaaGreatDoor
open Go Go.RowKit

theorem u_of (t : ByteArray) : tkX.u t = if t = ⟨#[45]⟩ then 2 else if t = ⟨#[110, 111, 116]⟩ then 3 else 0 := by
  show opW t 2 2 = _
  unfold opW opW opW
  rw [show wrd ((2 : Nat) : Int) = ⟨#[45]⟩ from rfl, show wrd ((2 + 1 : Nat) : Int) = ⟨#[110, 111, 116]⟩ from rfl]
  by_cases h : t = ⟨#[45]⟩
  · rw [if_pos h, if_pos h.symm]
  · rw [if_neg h, if_neg (fun e => h e.symm)]
    by_cases h2 : t = ⟨#[110, 111, 116]⟩
    · rw [if_pos h2, if_pos h2.symm]
    · rw [if_neg h2, if_neg (fun e => h2 e.symm)]

set_option maxRecDepth 100000 in
set_option maxHeartbeats 8000000 in
theorem split6 (n : Nat) (hI : Splits n) (l : List ByteArray) (a : Option Addr) (c : Nat) (w : World) (hm : 9 * l.length + 2 ≤ n + 1) (hc : l.length ≤ c) (hl : l.length ≤ 1048576) (ht : TkOk l) (ha : Tks w a l) (h0 : 0 < l.length) :
    Calls Tryz.prog 72 #[.slice a l.length c, .int .i64 6] w (SplA w 6 0 l []) := by
  have HI := hide hI; have HT := hide ht; have HA := hide ha
  have hz : ((l.length : Int) == 0) = false := beq_eq_false_iff_ne.2 (by omega)
  obtain ⟨b, o, p, rfl, hcc⟩ := ha 0 h0
  have HSp : Hid (l = l[0] :: l.drop 1) := hide (by
    have := drop_get h0
    rw [List.drop_zero] at this
    exact this)
  generalize l[0] = t at *
  rw [Nat.zero_mul, Nat.add_zero] at hcc
  have HC := hide hcc
  obtain ⟨-, c0, c1, c2⟩ := hcc
  have HM := hide (fun w => sym_tok (t := t) (s := ⟨#[45]⟩) p (by decide) w)
  have HN := hide (fun w => word_tok (t := t) (s := ⟨#[110, 111, 116]⟩) p (by decide) w)
  unfold tV at HM HN
  have hu := u_of t
  have HU0 := hide (fun (h : tkX.u t = 0) e => nosign_iff (r := l.drop 1) h e)
  have HU1 := hide (fun (h : tkX.u t ≠ 0) e => sign_iff tkX_ok (r := l.drop 1) h e)
  rw [← unhide HSp] at HU0 HU1
  have h7 := unhide HI l 7 (some ⟨b, o, none⟩) c
  have HI7 := hide (fun w h => h7 w (by omega) (by omega) (by omega) hc hl ht h)
  rw [show ((7 : Nat) : Int) = 7 from rfl] at HI7
  clear h7
  -- what stands behind a sign
  obtain ⟨B, hB⟩ : ∃ x, l.drop 1 = x := ⟨_, rfl⟩
  have hBl : B.length = l.length - 1 := by rw [← hB, List.length_drop]
  have HBv : Hid (∀ w, Tks w (some ⟨b, o, none⟩) l → Tks w (cutA (some ⟨b, o, none⟩) 1 c 3) B) := hide (fun w h => by have := h.cut (lo := 1) (hi := l.length) (Nat.le_refl _) hc; rw [List.take_length, hB] at this; exact this)
  have HBt : Hid (TkOk B) := hide (by have := ht.cut 1 l.length; rw [List.take_length, hB] at this; exact this)
  have hsB := cut_l (some ⟨b, o, none⟩) l.length c 1 h0
  rw [← hBl, show ((1 : Nat) : Int) = 1 from rfl] at hsB
  rw [hB] at HU1
  have HI6 := hide (fun w h => unhide HI B 6 (cutA (some ⟨b, o, none⟩) 1 c 3) (c - 1) w (by omega) (by omega) (by omega) (by omega) (by omega) (unhide HBt) h)
  rw [show ((6 : Nat) : Int) = 6 from rfl] at HI6
  have hBm : B.length ≤ 1048575 := by omega
  clear hI ht ha hB hBl HI HT HSp
  have key : ∀ (u : Nat) (W : World), u ≠ 0 → tkX.u t = u → True := fun _ _ _ _ => trivial
  clear key
  by_cases q1 : t = ⟨#[45]⟩
  case' pos =>
    have q2 : ¬ t = ⟨#[110, 111, 116]⟩ := by rw [q1]; decide
    rw [if_pos q1] at hu
    rw [decide_eq_true q1] at HM; rw [decide_eq_false q2] at HN
    have HX := hide (unhide HU1 (by rw [hu]; decide))
    rw [hu] at HX
    clear q1 q2 hu HU0 HU1 HI7
    go_enter Tryz.func72, Tryz.ntmps72
    go_wp2_with fail
    refine (unhide HM _).mono ?_
    rintro r9 W1 ⟨rfl, hb⟩
    have HB := hide hb
    replace HC := hide ((unhide HC).mono hb); replace HA := hide ((unhide HA).mono hb)
    clear hb c0 c1 c2
    obtain ⟨-, c0, c1, c2⟩ := unhide HC
    go_wp2_with fail
    refine (unhide HN _).mono ?_
    rintro r9 W2 ⟨rfl, hb⟩
    replace HB := hide ((unhide HB).trans (hb.mono (unhide HB).size))
    replace HA := hide ((unhide HA).mono hb)
    clear hb c0 c1 c2
    go_wp2_with fail
  case' neg =>
    rw [if_neg q1] at hu
    rw [decide_eq_false q1] at HM
    by_cases q2 : t = ⟨#[110, 111, 116]⟩
    case neg =>
      rw [if_neg q2] at hu
      rw [decide_eq_false q2] at HN
      have HX := hide (unhide HU0 hu)
      clear q1 q2 hu HU0 HU1 HI6
      go_enter Tryz.func72, Tryz.ntmps72
      go_wp2_with fail
      refine (unhide HM _).mono ?_
      rintro r9 W1 ⟨rfl, hb⟩
      have HB := hide hb
      replace HC := hide ((unhide HC).mono hb); replace HA := hide ((unhide HA).mono hb)
      clear hb c0 c1 c2
      obtain ⟨-, c0, c1, c2⟩ := unhide HC
      go_wp2_with fail
      refine (unhide HN _).mono ?_
      rintro r9 W2 ⟨rfl, hb⟩
      replace HB := hide ((unhide HB).trans (hb.mono (unhide HB).size))
      replace HA := hide ((unhide HA).mono hb)
      clear hb c0 c1 c2
      go_wp2_with fail
      refine (unhide HI7 _ (unhide HA)).mono ?_
      intro r9 w3 h9
      have HZ := hide h9
      obtain ⟨v, bb, rfl, hb, -⟩ := h9
      clear hb
      go_wp2_with fail
      go_ret2
      exact spl_up (spl_low (unhide HZ) (unhide HB)) (unhide HX)
    rw [if_pos q2] at hu
    rw [decide_eq_true q2] at HN
    have HX := hide (unhide HU1 (by rw [hu]; decide))
    rw [hu] at HX
    clear q1 q2 hu HU0 HU1 HI7
    go_enter Tryz.func72, Tryz.ntmps72
    go_wp2_with fail
    refine (unhide HM _).mono ?_
    rintro r9 W1 ⟨rfl, hb⟩
    have HB := hide hb
    replace HC := hide ((unhide HC).mono hb); replace HA := hide ((unhide HA).mono hb)
    clear hb c0 c1 c2
    obtain ⟨-, c0, c1, c2⟩ := unhide HC
    go_wp2_with fail
    refine (unhide HN _).mono ?_
    rintro r9 W2 ⟨rfl, hb⟩
    replace HB := hide ((unhide HB).trans (hb.mono (unhide HB).size))
    replace HA := hide ((unhide HA).mono hb)
    clear hb c0 c1 c2
    go_wp2_with fail
  all_goals
    refine (unhide HI6 _ (unhide HBv _ (unhide HA))).mono ?_
    rintro r9 W3 ⟨va, ba, rfl, hb, hy, hno⟩
    replace HB := hide ((unhide HB).trans (hb.mono (unhide HB).size))
    clear hb HI6 HBv
    cases ba
    case' false =>
      have HY := hide (hno rfl)
      clear hy hno
      have HZ := hide ((Below.refl W3.heap.size W3).alloc (Nat.le_refl _) (.cells #[] 41))
      go_wp2_with fail
      go_ret2
      exact spl_no ((unhide HB).trans ((unhide HZ).mono (unhide HB).size)) (fun e he => by obtain ⟨eb, h8, -⟩ := (unhide HX e).1 he; exact unhide HY eb h8)
    obtain ⟨ea, hga, hoa⟩ := hy rfl
    rw [List.append_nil] at hoa
    have HGa := hide hga
    have hla := hga.len
    have HZ := hide ((Below.refl W3.heap.size W3).alloc (Nat.le_refl _) (.cells #[] 41))
    have HOa := hide (hoa.keep (unhide HZ))
    have HOn := hide (OwnN.none W3)
    obtain ⟨W4, hW4⟩ : ∃ W4, W3.alloc (.cells #[] 41) = W4 := ⟨_, rfl⟩
    rw [hW4] at HZ HOa HOn
    replace HB := hide ((unhide HB).trans ((unhide HZ).mono (unhide HB).size))
    clear hy hno hga hoa
    go_wp2_with fail
    try rw [hW4]
    clear hW4
    refine (join_own (unhide HOa) (unhide HOn) (by simp; omega)).mono ?_
    rintro r9 W5 ⟨vj, rfl, hoj, hb⟩
    rw [List.append_nil] at hoj
    have HOj := hide (hoj.low (unhide HB).size)
    replace HB := hide ((unhide HB).trans (hb.mono (unhide HB).size))
    clear hoj hb
    go_wp2_with fail
    refine (l3OpNode_any _ _).mono ?_
    rintro r9 W6 ⟨rfl, hb⟩
    replace HB := hide ((unhide HB).trans (hb.mono (unhide HB).size)); replace HOj := hide ((unhide HOj).keep hb)
    clear hb
    first
      | (have HNn : Hid (Blk _ _ 41 (nC (opNd 2))) := hide (Blk.new W6 41 (nC (opNd 2)).toArray)
         have HS := hide ((Below.refl W6.heap.size W6).alloc (Nat.le_refl _) (.cells (nC (opNd 2)).toArray 41))
         go_wp2_with (at_builtin; refine append_node rfl _ _ rfl rfl ((unhide HOj).keep (unhide HS)) rfl (unhide HNn) (by omega) (Nat.le_trans (unhide HB).size (unhide HS).size) ?_)
         intro v' W9 ho hb9
         have HO9 := hide ho
         have HB9 := hide ((unhide HB).trans (((unhide HS).mono (unhide HB).size).trans hb9))
         clear ho hb9
         go_wp2_with fail
         go_ret2
         exact ⟨_, _, rfl, unhide HB9, fun _ => ⟨_, (unhide HX _).2 ⟨ea, unhide HGa, rfl⟩, by rw [List.append_nil]; exact unhide HO9⟩, (fun h => nomatch h)⟩)
      | (have HNn : Hid (Blk _ _ 41 (nC (opNd 3))) := hide (Blk.new W6 41 (nC (opNd 3)).toArray)
         have HS := hide ((Below.refl W6.heap.size W6).alloc (Nat.le_refl _) (.cells (nC (opNd 3)).toArray 41))
         go_wp2_with (at_builtin; refine append_node rfl _ _ rfl rfl ((unhide HOj).keep (unhide HS)) rfl (unhide HNn) (by omega) (Nat.le_trans (unhide HB).size (unhide HS).size) ?_)
         intro v' W9 ho hb9
         have HO9 := hide ho
         have HB9 := hide ((unhide HB).trans (((unhide HS).mono (unhide HB).size).trans hb9))
         clear ho hb9
         go_wp2_with fail
         go_ret2
         exact ⟨_, _, rfl, unhide HB9, fun _ => ⟨_, (unhide HX _).2 ⟨ea, unhide HGa, rfl⟩, by rw [List.append_nil]; exact unhide HO9⟩, (fun h => nomatch h)⟩)

set_option maxRecDepth 100000 in
set_option maxHeartbeats 1000000 in
theorem split7 (n : Nat) (hI : Splits n) (l : List ByteArray) (a : Option Addr) (c : Nat) (w : World) (hm : 9 * l.length + 1 ≤ n + 1) (hc : l.length ≤ c) (hl : l.length ≤ 1048576) (ht : TkOk l) (ha : Tks w a l) (h0 : 0 < l.length) :
    Calls Tryz.prog 72 #[.slice a l.length c, .int .i64 7] w (SplA w 7 0 l []) := by
  have hz : ((l.length : Int) == 0) = false := beq_eq_false_iff_ne.2 (by omega)
  have HAt : Hid (Calls Tryz.prog 108 #[.slice a l.length c] w (SplA w 7 0 l [])) := hide (by
    match l, h0, hm, hc, hl, ht, ha with
    | [t], _, _, _, _, ht, ha =>
      obtain ⟨h1, h2⟩ := ht t (by simp)
      exact l3Atom_one t a c w h1 h2 ha
    | t :: u :: s, _, hm, hc, hl, ht, ha => exact l3Atom_of (t :: u :: s) t u s rfl a c w (fun l' lv a' c' w' h => hI l' lv a' c' w' (by omega)) hc hl ht ha)
  clear hI ht ha
  go_enter Tryz.func72, Tryz.ntmps72
  go_wp2_with fail
  refine (unhide HAt).mono ?_
  intro r9 w3 h9
  have HZ := hide h9
  obtain ⟨v, bb, rfl, hb, -⟩ := h9
  clear hb
  go_wp2_with fail
  go_ret2
  exact unhide HZ
set_option maxRecDepth 100000 in
theorem split0 (lv c : Nat) (a : Option Addr) (w : World) (h7 : lv ≤ 7) : Calls Tryz.prog 72 #[.slice a 0 c, .int .i64 (lv : Nat)] w (SplA w lv 0 [] []) := by
  have HB := hide ((Below.refl w.heap.size w).alloc (Nat.le_refl _) (.cells #[] 41))
  go_enter Tryz.func72, Tryz.ntmps72
  go_wp2_with fail
  go_ret2
  exact spl_no (unhide HB) (fun e he => ((he.ph tkX_ok).1 h7).ne rfl)
theorem splits_all : ∀ n, Splits n
  | 0 => fun l lv a c w h h1 h7 => by omega
  | n + 1 => fun l lv a c w h h1 h7 hc hl ht ha => by
    have hI := splits_all n
    by_cases h0 : 0 < l.length
    · by_cases h5 : lv ≤ 5
      · exact split5 n hI l lv a c w h h1 h5 hc hl ht ha h0
      · by_cases h6 : lv = 6
        · subst h6; exact split6 n hI l a c w (by omega) hc hl ht ha h0
        · obtain rfl : lv = 7 := by omega
          exact split7 n hI l a c w (by omega) hc hl ht ha h0
    · have : l = [] := List.length_eq_zero_iff.1 (by omega)
      subst this
      exact split0 lv c a w h7
/-- Tokens as an expression. -/
theorem l3Phrase_any (l : List ByteArray) (a : Option Addr) (c : Nat) (w : World) (hc : l.length ≤ c) (hl : l.length ≤ 1048576) (ht : TkOk l) (ha : Tks w a l) :
    Calls Tryz.prog 38 #[.slice a l.length c] w fun r w' => ∃ v b, r = .returned (.tuple #[v, .bool b]) ∧ Below w.heap.size w w' ∧ (b = true → ∃ e, (Gr tkX 1 0 l e ∧ blc tkX 64 0 l = some 0) ∧ OwnN w' w.heap.size v e) ∧ (b = false → ∀ e, ¬ (Gr tkX 1 0 l e ∧ blc tkX 64 0 l = some 0)) := by
  have HA := hide ha
  have HBa := hide (l3Balanced_any a c l w hl ha)
  have HS := hide (fun w h => splits_all (9 * l.length + 7) l 1 a c w (by omega) (by omega) (by omega) hc hl ht h)
  rw [show ((1 : Nat) : Int) = 1 from rfl] at HS
  clear ht ha
  by_cases hb : blc tkX 64 0 l = some 0
  · rw [decide_eq_true hb] at HBa
    have HX := hide hb
    clear hb
    go_enter Tryz.func38, Tryz.ntmps38
    go_wp2_with fail
    refine (unhide HBa).mono ?_
    rintro r9 W1 ⟨rfl, hb⟩
    have HB := hide hb
    replace HA := hide ((unhide HA).mono hb)
    clear hb
    go_wp2_with fail
    refine (unhide HS _ (unhide HA)).mono ?_
    rintro r9 W3 ⟨v, b, rfl, hb, hy, hn⟩
    have HZ := hide hb; have HY := hide hy; have HN := hide hn
    clear hb hy hn
    go_wp2_with fail
    go_ret2
    refine ⟨v, b, rfl, (unhide HB).trans ((unhide HZ).mono (unhide HB).size), fun q => ?_, fun q e he => unhide HN q e he.1⟩
    obtain ⟨e, h1, h2⟩ := unhide HY q
    rw [List.append_nil] at h2
    exact ⟨e, ⟨h1, unhide HX⟩, h2.low (unhide HB).size⟩
  · rw [decide_eq_false hb] at HBa
    have HX := hide hb
    clear hb
    go_enter Tryz.func38, Tryz.ntmps38
    go_wp2_with fail
    refine (unhide HBa).mono ?_
    rintro r9 W1 ⟨rfl, hb⟩
    have HB := hide hb
    clear hb
    have HZ := hide ((Below.refl W1.heap.size W1).alloc (Nat.le_refl _) (.cells #[] 41))
    go_wp2_with fail
    go_ret2
    exact ⟨_, _, rfl, (unhide HB).trans ((unhide HZ).mono (unhide HB).size), (fun h => nomatch h), fun _ e he => unhide HX he.2⟩
end Go.Proofs.YtjgngbmkpiihgaaGreatDoor
