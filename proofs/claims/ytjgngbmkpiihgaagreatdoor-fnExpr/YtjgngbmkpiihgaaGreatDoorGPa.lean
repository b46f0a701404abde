import Derived.Test.YtjgngbmkpiihgaaGreatDoorGTk
import Derived.Test.YtjgngbmkpiihgaaGreatDoorGTb
import Derived.Test.YtjgngbmkpiihgaaGreatDoorGNp
import Derived.Test.YtjgngbmkpiihgaaGreatDoorGNa
/- The model's parser: slices of tokens, small makers of nodes. -/
namespace Go.Proofs.YtjgngbmkpiihgaaGreatDoor
open Go Go.RowKit

/-- No phrase has more nodes than tokens. -/
theorem Gr.len {X : Lx ByteArray Nx} {l n : Nat} {ts : List ByteArray} {e : List Nx} (h : Gr X l n ts e) : e.length ≤ ts.length := by
  induction h with
  | up _ _ _ ih => exact ih
  | bin _ _ _ _ _ _ _ iha ihb => simp only [List.length_append, List.length_cons, List.length_nil]; omega
  | cmp _ _ _ _ iha ihb => simp only [List.length_append, List.length_cons, List.length_nil]; omega
  | pre _ _ ih => simp only [List.length_append, List.length_cons, List.length_nil]; omega
  | one _ => simp
  | par _ _ _ ih => simp only [List.length_append, List.length_cons, List.length_nil]; omega
  | call _ _ _ _ ih => simp only [List.length_append, List.length_cons, List.length_nil]; omega
  | arg _ ih => exact ih
  | args _ _ _ iha ihb => simp only [List.length_append, List.length_cons]; omega
def cutA (a : Option Addr) (lo cap s : Nat) : Option Addr := if cap = lo then a else a.map (·.add (lo * s))
theorem TkOk.cut {l : List ByteArray} (h : TkOk l) (lo hi : Nat) : TkOk ((l.take hi).drop lo) := fun t ht => h t (List.mem_of_mem_take (List.mem_of_mem_drop ht))
theorem cut_len {l : List ByteArray} {lo hi : Nat} (h : hi ≤ l.length) : ((l.take hi).drop lo).length = hi - lo := by rw [List.length_drop, List.length_take]; omega
theorem Tks.cut {w : World} {a : Option Addr} {l : List ByteArray} (h : Tks w a l) {lo hi cap : Nat} (hh : hi ≤ l.length) (hc : l.length ≤ cap) : Tks w (cutA a lo cap 3) ((l.take hi).drop lo) := fun k hk => by
  rw [cut_len hh] at hk
  obtain ⟨b, o, p, rfl, ht⟩ := h (lo + k) (by omega)
  refine ⟨b, o + lo * 3, p, ?_, ?_⟩
  · unfold cutA
    rw [if_neg (by omega)]
    simp [Addr.add]
  · rw [List.getElem_drop, List.getElem_take]
    rw [show o + lo * 3 + k * 3 = o + (lo + k) * 3 by omega]
    exact ht
theorem sz_tok : (sizeOf (Tryz.prog.elem 64)).run Tryz.prog = fun w => .ok 3 w := by
  funext w
  have he : Tryz.prog.elem 64 = 89 := by kernel_rfl
  obtain ⟨i0, hi, hz0, hz1, hz2⟩ := info_parts info_tk
  rw [he]
  simp [sizeOf, typeInfo, hi, hz1]
set_option maxRecDepth 100000 in
theorem cut_h (a : Option Addr) (len cap hi : Nat) (h : hi ≤ cap) (wx : World) : (Instr.slice 64 (.slice a len cap) none (some (.int .i64 (hi : Nat))) none).run Tryz.prog wx = .ok (.slice (cutA a 0 cap 3) hi cap) wx := by
  rw [run_slice_h wx 64 _ _ _ Tryz.underlying64 .i64 _ (by omega) (by omega), sz_tok]
  simp [sliced, cutA]
set_option maxRecDepth 100000 in
theorem cut_l (a : Option Addr) (len cap lo : Nat) (h : lo ≤ len) (wx : World) : (Instr.slice 64 (.slice a len cap) (some (.int .i64 (lo : Nat))) none none).run Tryz.prog wx = .ok (.slice (cutA a lo cap 3) (len - lo) (cap - lo)) wx := by
  rw [run_slice_l wx 64 _ _ _ Tryz.underlying64 .i64 _ (by omega) (by omega), sz_tok]
  simp [sliced, cutA]
set_option maxRecDepth 100000 in
theorem cut_lh (a : Option Addr) (len cap lo hi : Nat) (h : lo ≤ hi) (h2 : hi ≤ cap) (wx : World) : (Instr.slice 64 (.slice a len cap) (some (.int .i64 (lo : Nat))) (some (.int .i64 (hi : Nat))) none).run Tryz.prog wx = .ok (.slice (cutA a lo cap 3) (hi - lo) (cap - lo)) wx := by
  rw [run_slice_lh wx 64 _ _ _ Tryz.underlying64 .i64 .i64 _ _ (by omega) (by omega) (by omega), sz_tok]
  simp [sliced, cutA]

set_option maxHeartbeats 1000000 in
theorem l3OpNode_any (op : Int) (w : World) : Calls Tryz.prog 19 #[.int .i64 op] w fun e w' => e = .returned (.agg #[.int .i64 op, .int .i64 0, .int .i64 0, .string ⟨#[]⟩, .string ⟨#[]⟩]) ∧ Below w.heap.size w w' := by
  go_enter Tryz.func19, Tryz.ntmps19
  go_wp2
  exact bodyPost_ret (v := .agg #[.int .i64 op, .int .i64 0, .int .i64 0, .string ⟨#[]⟩, .string ⟨#[]⟩]) (by simp [results, Tryz.results19, go_sem]) rfl ⟨rfl, (Below.refl _ _).alloc (Nat.le_refl _) _⟩
set_option maxHeartbeats 1000000 in
theorem l3Const_any (k n : Int) (s : ByteArray) (w : World) : Calls Tryz.prog 21 #[.agg #[.int .i64 k, .int .i64 n, .string s]] w fun e w' => e = .returned (.agg #[.int .i64 0, .int .i64 k, .int .i64 n, .string s, .string ⟨#[]⟩]) ∧ Below w.heap.size w w' := by
  go_enter Tryz.func21, Tryz.ntmps21
  go_wp2
  first | exact bodyPost_ret (v := .agg #[.int .i64 0, .int .i64 k, .int .i64 n, .string s, .string ⟨#[]⟩]) (by simp [results, Tryz.results21, go_sem]) rfl ⟨rfl, (Below.refl _ _).alloc (Nat.le_refl _) _⟩ | exact bodyPost_ret (v := .agg #[.int .i64 0, .int .i64 k, .int .i64 n, .string s, .string ⟨#[]⟩]) (by simp [results, Tryz.results21, go_sem]) rfl ⟨rfl, ((Below.refl _ _).alloc (Nat.le_refl _) _).alloc (by simp) _⟩

/-- What the parser answers of these tokens at a level. -/
def SplA (w : World) (lv n : Nat) (l : List ByteArray) (x : List Nx) (r : Ending) (w' : World) : Prop := ∃ v b, r = .returned (.tuple #[v, .bool b]) ∧ Below w.heap.size w w' ∧ (b = true → ∃ e, Gr tkX lv n l e ∧ OwnN w' w.heap.size v (e ++ x)) ∧ (b = false → ∀ e, ¬ Gr tkX lv n l e)
def Splits (n : Nat) : Prop := ∀ (l : List ByteArray) (lv : Nat) (a : Option Addr) (c : Nat) (w : World), 9 * l.length + (8 - lv) ≤ n → 1 ≤ lv → lv ≤ 7 → l.length ≤ c → l.length ≤ 1048576 → TkOk l → Tks w a l →
  Calls Tryz.prog 72 #[.slice a l.length c, .int .i64 lv] w (SplA w lv 0 l [])
end Go.Proofs.YtjgngbmkpiihgaaGreatDoor

/- The model's parser: the arguments of a function. -/
namespace Go.Proofs.YtjgngbmkpiihgaaGreatDoor
open Go Go.RowKit

/-- How far the pieces between commas have been read. -/
structure CalI (l : List ByteArray) (k f : Nat) (ps : List (List ByteArray)) (e : List Nx) : Prop where
  hk : k ≤ l.length
  hf : f ≤ k
  hn : ps.length ≤ f
  he : e.length ≤ f
  al : AllG tkX ps e
  hp : pcs tkX 0 [] l = ps ++ pcs tkX (dpt tkX (l.take k)) ((l.take k).drop f) (l.drop k)
theorem CalI.start (l : List ByteArray) : CalI l 0 0 [] [] := ⟨Nat.zero_le _, Nat.le_refl _, Nat.le_refl _, Nat.le_refl _, rfl, by simp [dpt]⟩
theorem CalI.go {l : List ByteArray} {k f : Nat} {ps : List (List ByteArray)} {e : List Nx} (h : CalI l k f ps e) (hk : k < l.length) (hn : ¬ (dpt tkX (l.take (k + 1)) = 0 ∧ tkX.C l[k] = true)) : CalI l (k + 1) f ps e := by
  refine ⟨hk, by have := h.hf; omega, h.hn, h.he, h.al, ?_⟩
  rw [h.hp, drop_get hk]
  rw [dpt_take hk] at hn ⊢
  simp only [pcs, if_neg hn]
  rw [List.take_succ_eq_append_getElem hk, List.drop_append_of_le_length (by rw [List.length_take]; have := h.hf; omega)]
theorem CalI.piece {l : List ByteArray} {k f : Nat} {ps : List (List ByteArray)} {e : List Nx} (h : CalI l k f ps e) (hc : k = l.length ∨ ∃ hk : k < l.length, dpt tkX (l.take (k + 1)) = 0 ∧ tkX.C l[k] = true) : ∃ qs, pcs tkX 0 [] l = ps ++ (l.take k).drop f :: qs ∧ (k = l.length → qs = []) ∧ (k < l.length → qs = pcs tkX (dpt tkX (l.take (k + 1))) [] (l.drop (k + 1))) := by
  rw [h.hp]
  rcases hc with rfl | ⟨hk, hd, hC⟩
  · rw [List.drop_length]
    exact ⟨[], rfl, fun _ => rfl, fun h => absurd h (Nat.lt_irrefl _)⟩
  · rw [drop_get hk]
    have hd' := hd
    rw [dpt_take hk] at hd'
    simp only [pcs, if_pos (show dpt tkX (l.take k) + dlt tkX l[k] = 0 ∧ tkX.C l[k] = true from ⟨hd', hC⟩)]
    exact ⟨_, rfl, fun h => by omega, fun _ => by rw [hd]⟩
theorem CalI.cut {l : List ByteArray} {k f : Nat} {ps : List (List ByteArray)} {e e1 : List Nx} (h : CalI l k f ps e) (hk : k < l.length) (hc : dpt tkX (l.take (k + 1)) = 0 ∧ tkX.C l[k] = true) (g : Gr tkX 1 0 ((l.take k).drop f) e1) : CalI l (k + 1) (k + 1) (ps ++ [(l.take k).drop f]) (e ++ e1) := by
  obtain ⟨qs, h1, -, h2⟩ := h.piece (.inr ⟨hk, hc⟩)
  have := h.hf; have := h.hn; have := h.he
  have hg := g.len
  rw [cut_len h.hk] at hg
  refine ⟨hk, Nat.le_refl _, by simp; omega, by simp; omega, h.al.app ⟨e1, [], g, rfl, by simp⟩, ?_⟩
  rw [h1, h2 hk, List.append_assoc, List.drop_of_length_le (l := l.take (k + 1)) (by rw [List.length_take]; omega)]
  rfl
theorem CalI.bad {l : List ByteArray} {k f : Nat} {ps : List (List ByteArray)} {e : List Nx} (h : CalI l k f ps e) (hc : k = l.length ∨ ∃ hk : k < l.length, dpt tkX (l.take (k + 1)) = 0 ∧ tkX.C l[k] = true) (g : ∀ e1, ¬ Gr tkX 1 0 ((l.take k).drop f) e1) (n : Nat) (e' : List Nx) : ¬ Gr tkX 8 n l e' := by
  obtain ⟨qs, h1, -, -⟩ := h.piece hc
  intro hg
  have := ((args_iff tkX_ok).1 hg).2
  rw [h1] at this
  obtain ⟨x, y, -, ⟨u, v, hu, -, -⟩, -⟩ := this.unapp
  exact g u hu
theorem CalI.last {l : List ByteArray} {f : Nat} {ps : List (List ByteArray)} {e e1 : List Nx} (h : CalI l l.length f ps e) (g : Gr tkX 1 0 ((l.take l.length).drop f) e1) : Gr tkX 8 (ps.length + 1) l (e ++ e1) ∧ (e ++ e1).length ≤ l.length ∧ ∀ n e', Gr tkX 8 n l e' → n = ps.length + 1 := by
  obtain ⟨qs, h1, h2, -⟩ := h.piece (.inl rfl)
  rw [h2 rfl] at h1
  have h3 : (pcs tkX 0 [] l).length = ps.length + 1 := by rw [h1]; simp
  have h4 : Gr tkX 8 (ps.length + 1) l (e ++ e1) := (args_iff tkX_ok).2 ⟨h3, by rw [h1]; exact h.al.app ⟨e1, [], g, rfl, by simp⟩⟩
  exact ⟨h4, h4.len, fun n e' hg => (((args_iff tkX_ok).1 hg).1).symm.trans h3⟩
theorem join_own {w : World} {b1 b2 : Nat} {v1 v2 : Value} {e1 e2 : List Nx} (h1 : OwnN w b1 v1 e1) (h2 : OwnN w b2 v2 e2) (hl : e1.length + e2.length ≤ 1048576) : Calls Tryz.prog 18 #[v1, v2] w fun r w' => ∃ v, r = .returned v ∧ OwnN w' w.heap.size v (e1 ++ e2) ∧ Below w.heap.size w w' := by
  obtain ⟨a, c, rfl, n1⟩ := h1.nods
  obtain ⟨b, d, rfl, n2⟩ := h2.nods
  exact l3Join_any a b c d e1 e2 w hl n1 n2
theorem tokC (t : ByteArray) : tkX.C t = decide (t = ⟨#[44]⟩) := rfl
theorem nC_op (o : Nat) : nC (opNd o) = [.int .i64 (o : Nat), .int .i64 0, .int .i64 0, .string ⟨#[]⟩, .string ⟨#[]⟩] := rfl

set_option maxRecDepth 100000 in
set_option maxHeartbeats 16000000 in
theorem l3Call_of (l : List ByteArray) (op n : Nat) (a : Option Addr) (c : Nat) (w : World) (hI : Splits (9 * l.length + 7)) (har : ar (op : Nat) = (n : Nat)) (hc : l.length ≤ c) (hl : l.length ≤ 1048576) (ht : TkOk l) (ha : Tks w a l) :
    Calls Tryz.prog 128 #[.slice a l.length c, .int .i64 (op : Nat)] w (SplA w 8 n l [opNd op]) := by
  have HI := hide hI; have HT := hide ht; have HA := hide ha; have HAr := hide har
  have HB0 := hide ((Below.refl w.heap.size w).alloc (Nat.le_refl _) (.cells #[] 41))
  have HO0 := hide (OwnN.none w)
  obtain ⟨W0, hW0⟩ : ∃ W0, w.alloc (.cells #[] 41) = W0 := ⟨_, rfl⟩
  rw [hW0] at HB0 HO0
  clear hI ht ha har
  go_enter Tryz.func128, Tryz.ntmps128
  go_wp2_with fail
  try rw [hW0]
  clear hW0
  go_loopw [6, 7, 8, 9, 10, 11, 12] (fun v cv fv dv iv _ _ wr => ∃ (k f : Nat) (ps : List (List ByteArray)) (e : List Nx), cv = .int .i64 (ps.length : Nat) ∧ fv = .int .i64 (f : Nat) ∧ dv = .int .i64 (dpt tkX (l.take k)) ∧ iv = .int .i64 (k : Nat) ∧ OwnN wr w.heap.size v e ∧ Below w.heap.size w wr ∧ (CalI l k f ps e ∨ (k = l.length + 1 ∧ ps.length ≤ l.length + 1 ∧ Gr tkX 8 ps.length l e ∧ ∀ n e', Gr tkX 8 n l e' → n = ps.length))) (fun _ _ _ _ i _ _ _ => l.length + 1 - (intOf i).toNat)
  case atStart => exact ⟨0, 0, [], [], rfl, rfl, rfl, rfl, unhide HO0, unhide HB0, .inl (CalI.start l)⟩
  case round =>
    clear HO0 HB0
    obtain ⟨k, f, ps, e, rfl, rfl, rfl, rfl, ho, hb, hq⟩ := hrel
    have HO := hide ho; have HB := hide hb
    clear ho hb
    rcases hq with hq | ⟨rfl, hpl, hg, hu⟩
    case inr =>
      have hlt' : ¬ ((l.length + 1 : Nat) : Int) ≤ (l.length : Nat) := by omega
      have HG := hide hg; have HU := hide hu
      clear hg hu
      by_cases hn : ps.length = n
      · subst hn
        have hb1 : ((ps.length : Int) != (ps.length : Int)) = false := by simp
        have HNn : Hid (Blk _ _ 41 (nC (opNd op))) := hide (Blk.new wr 41 (nC (opNd op)).toArray)
        have hge := (unhide HG).len
        go_wp2_with (go_at_call 43; refine (l2Arity_any _ _).mono ?_; rintro e9 w9 ⟨rfl, rfl⟩; rw [unhide HAr])
        refine (l3OpNode_any _ _).mono ?_
        rintro e9 w9 ⟨rfl, hb⟩
        replace HB := hide ((unhide HB).trans (hb.mono (unhide HB).size)); replace HO := hide ((unhide HO).keep hb)
        clear hb HNn
        have HNn : Hid (Blk _ _ 41 (nC (opNd op))) := hide (Blk.new w9 41 (nC (opNd op)).toArray)
        have HS := hide ((Below.refl w9.heap.size w9).alloc (Nat.le_refl _) (.cells (nC (opNd op)).toArray 41))
        go_wp2_with (at_builtin; refine append_node rfl _ _ rfl rfl ((unhide HO).keep (unhide HS)) rfl (unhide HNn) (by omega) (Nat.le_trans (unhide HB).size (unhide HS).size) ?_)
        intro v' W9 ho hb9
        have HO9 := hide ho
        have HB9 := hide ((unhide HB).trans (((unhide HS).mono (unhide HB).size).trans hb9))
        clear ho hb9
        go_wp2_with fail
        go_ret2
        exact ⟨_, _, rfl, unhide HB9, fun _ => ⟨e, unhide HG, unhide HO9⟩, (fun h => nomatch h)⟩
      · have hb1 : ((ps.length : Int) != (n : Int)) = true := by simp; omega
        have HZ := hide ((Below.refl wr.heap.size wr).alloc (Nat.le_refl _) (.cells #[] 41))
        go_wp2_with (go_at_call 43; refine (l2Arity_any _ _).mono ?_; rintro e9 w9 ⟨rfl, rfl⟩; rw [unhide HAr])
        go_ret2
        exact ⟨_, _, rfl, (unhide HB).trans ((unhide HZ).mono (unhide HB).size), (fun h => nomatch h), fun _ e' hg => hn (unhide HU _ _ hg).symm⟩
    have HQ := hide hq
    have hk := hq.hk; have hf := hq.hf; have hpn := hq.hn; have hen := hq.he
    have hds := dpt_small l k hk
    have hle' : (k : Int) ≤ (l.length : Nat) := by omega
    clear hq
    have HV := hide ((unhide HA).mono (unhide HB))
    -- a piece
    obtain ⟨P, hP⟩ : ∃ P, (l.take k).drop f = P := ⟨_, rfl⟩
    have hPl : P.length = k - f := by rw [← hP, cut_len hk]
    have HPT : Hid (TkOk P) := hide (by rw [← hP]; exact (unhide HT).cut f k)
    have HPV : Hid (Tks wr (cutA a f c 3) P) := hide (by rw [← hP]; exact (unhide HV).cut hk hc)
    have hsl := cut_lh a l.length c f k hf (by omega)
    rw [← hPl] at hsl
    have HPe := hide hP
    have hPm : P.length ≤ k - f := by omega
    clear hP hPl
    by_cases hlt : k < l.length
    case neg =>
      obtain rfl : k = l.length := by omega
      have hlt' : ¬ (l.length : Int) < (l.length : Nat) := by omega
      have heq : ((l.length : Int) == (l.length : Nat)) = true := by simp
      go_wp2_with fail
      refine (unhide HI P 1 _ (c - f) _ (by omega) (by omega) (by omega) (by omega) (by omega) (unhide HPT) (unhide HPV)).mono ?_
      rintro r w1 ⟨va, b, rfl, hb, hy, hno⟩
      replace HB := hide ((unhide HB).trans (hb.mono (unhide HB).size)); replace HO := hide ((unhide HO).keep hb)
      cases b
      · have HN := hide (hno rfl)
        clear hy hno hb
        have HZ := hide ((Below.refl w1.heap.size w1).alloc (Nat.le_refl _) (.cells #[] 41))
        go_wp2_with fail
        go_ret2
        exact ⟨_, _, rfl, (unhide HB).trans ((unhide HZ).mono (unhide HB).size), (fun h => nomatch h), fun _ e' => (unhide HQ).bad (.inl rfl) (by rw [unhide HPe]; exact unhide HN) _ e'⟩
      · obtain ⟨e1, hg, ho1⟩ := hy rfl
        rw [List.append_nil] at ho1
        have HG := hide hg; have HO1 := hide ho1
        have hgl := hg.len
        clear hy hno hb hg ho1
        go_wp2_with fail
        refine (join_own (unhide HO) (unhide HO1) (by omega)).mono ?_
        rintro r w2 ⟨vj, rfl, hoj, hb⟩
        have HB2 := hide ((unhide HB).trans (hb.mono (unhide HB).size)); have HO2 := hide (hoj.low (unhide HB).size)
        have HL := hide ((unhide HQ).last (by rw [unhide HPe]; exact unhide HG))
        clear hb hoj
        go_wp2_with fail
        go_roundw
        case rel =>
          obtain ⟨l1, l2, l3⟩ := unhide HL
          have hlen : (ps ++ [P]).length = ps.length + 1 := by simp
          refine ⟨l.length + 1, l.length + 1, ps ++ [P], e ++ e1, by rw [hlen]; go_num, by go_num, by rw [List.take_of_length_le (Nat.le_succ _)]; try rw [List.take_length], by go_num, unhide HO2, unhide HB2, .inr ⟨rfl, by rw [hlen]; omega, by rw [hlen]; exact l1, by rw [hlen]; exact l3⟩⟩
        case measure => first | (simp [intOf]; omega) | simp [intOf]
    have hlt' : (k : Int) < (l.length : Nat) := by omega
    have hneq : ((k : Int) == (l.length : Nat)) = false := beq_eq_false_iff_ne.2 (by omega)
    obtain ⟨bb, oo, p, rfl, hcc⟩ := unhide HV k hlt
    have HD := hide (dpt_take hlt)
    obtain ⟨t, ht⟩ : ∃ t, l[k] = t := ⟨_, rfl⟩
    rw [ht] at hcc HD
    have HGo : Hid (¬ (dpt tkX (l.take (k + 1)) = 0 ∧ tkX.C t = true) → CalI l (k + 1) f ps e) := hide (fun h => (unhide HQ).go hlt (by rw [ht]; exact h))
    have HCut : Hid (∀ e1, dpt tkX (l.take (k + 1)) = 0 → tkX.C t = true → Gr tkX 1 0 P e1 → CalI l (k + 1) (k + 1) (ps ++ [P]) (e ++ e1)) := hide (fun e1 h1 h2 h3 => by have := (unhide HQ).cut hlt ⟨h1, by rw [ht]; exact h2⟩ (e1 := e1) (by rw [unhide HPe]; exact h3); rw [unhide HPe] at this; exact this)
    have HBad : Hid (dpt tkX (l.take (k + 1)) = 0 → tkX.C t = true → (∀ e1, ¬ Gr tkX 1 0 P e1) → ∀ e', ¬ Gr tkX 8 n l e') := hide (fun h1 h2 h3 e' => (unhide HQ).bad (.inr ⟨hlt, h1, by rw [ht]; exact h2⟩) (by rw [unhide HPe]; exact h3) n e')
    have HC := hide hcc
    obtain ⟨-, c0, c1, c2⟩ := hcc
    clear ht HQ HV HPe
    have HL := hide (fun w => sym_tok (t := t) (s := ⟨#[40]⟩) p (by decide) w)
    have HJ := hide (fun w => sym_tok (t := t) (s := ⟨#[41]⟩) p (by decide) w)
    have HK := hide (fun w => sym_tok (t := t) (s := ⟨#[44]⟩) p (by decide) w)
    unfold tV at HL HJ HK
    rw [tokC] at HGo HCut HBad
    obtain ⟨d', hd'⟩ : ∃ d', dpt tkX (l.take (k + 1)) = d' := ⟨_, rfl⟩
    obtain ⟨d, hd⟩ : ∃ d, dpt tkX (l.take k) = d := ⟨_, rfl⟩
    rw [hd'] at HGo HCut HBad HD
    rw [hd] at HD hds ⊢
    have HD1 := hide hd'
    clear hd hd'
    have wp1 : wrap64 (d + 1) = d + 1 := wrap64_small (by omega) (by omega)
    have wm1 : wrap64 (d - 1) = d - 1 := wrap64_small (by omega) (by omega)
    generalize decide (t = (⟨#[44]⟩ : ByteArray)) = dC at *
    rcases tokLR t with ⟨q1, q2, -, -, q5⟩ | ⟨q1, q2, -, -, q5⟩ | ⟨q1, q2, -, -, q5⟩
    all_goals
      rw [q1] at HL; rw [q2] at HJ; rw [q5] at HD
      have hdq := unhide HD
      try rw [← Int.sub_eq_add_neg] at hdq
      try rw [Int.add_zero] at hdq
      clear q1 q2 q5 HD
      go_wp2_with fail
      refine (unhide HL _).mono ?_
      rintro e9 W1 ⟨rfl, hb⟩
      replace HB := hide ((unhide HB).trans (hb.mono (unhide HB).size)); replace HC := hide ((unhide HC).mono hb); replace HPV := hide ((unhide HPV).mono hb); replace HO := hide ((unhide HO).keep hb)
      clear hb c0 c1 c2
      obtain ⟨-, c0, c1, c2⟩ := unhide HC
      go_wp2_with fail
      refine (unhide HJ _).mono ?_
      rintro e9 W2 ⟨rfl, hb⟩
      replace HB := hide ((unhide HB).trans (hb.mono (unhide HB).size)); replace HC := hide ((unhide HC).mono hb); replace HPV := hide ((unhide HPV).mono hb); replace HO := hide ((unhide HO).keep hb)
      clear hb c0 c1 c2
      obtain ⟨-, c0, c1, c2⟩ := unhide HC
      by_cases h0 : d' = 0
      case neg =>
        have h0' : (d' == 0) = false := beq_eq_false_iff_ne.2 h0
        rw [hdq] at h0'
        have HX := hide (unhide HGo (fun h => h0 h.1))
        go_wp2_with fail
        go_roundw
        case rel => first | exact ⟨k + 1, f, ps, e, rfl, rfl, by rw [unhide HD1, hdq], by go_num, unhide HO, unhide HB, .inl (unhide HX)⟩ | ((repeat apply Exists.intro); exact ⟨⟨k + 1, f, ps, e, rfl, rfl, by rw [unhide HD1, hdq], by go_num, unhide HO, unhide HB, .inl (unhide HX)⟩, rfl⟩)
        case measure => simp [intOf]; omega
      have h0' : (d' == 0) = true := by simp [h0]
      rw [hdq] at h0'
      cases dC
      case false =>
        have HX := hide (unhide HGo (fun h => by cases h.2))
        go_wp2_with fail
        refine (unhide HK _).mono ?_
        rintro e9 W3 ⟨rfl, hb⟩
        replace HB := hide ((unhide HB).trans (hb.mono (unhide HB).size)); replace HO := hide ((unhide HO).keep hb)
        clear hb c0 c1 c2
        go_wp2_with fail
        go_roundw
        case rel => first | exact ⟨k + 1, f, ps, e, rfl, rfl, by rw [unhide HD1, hdq], by go_num, unhide HO, unhide HB, .inl (unhide HX)⟩ | ((repeat apply Exists.intro); exact ⟨⟨k + 1, f, ps, e, rfl, rfl, by rw [unhide HD1, hdq], by go_num, unhide HO, unhide HB, .inl (unhide HX)⟩, rfl⟩)
        case measure => simp [intOf]; omega
      go_wp2_with fail
      refine (unhide HK _).mono ?_
      rintro e9 W3 ⟨rfl, hb⟩
      replace HB := hide ((unhide HB).trans (hb.mono (unhide HB).size)); replace HPV := hide ((unhide HPV).mono hb); replace HO := hide ((unhide HO).keep hb)
      clear hb c0 c1 c2
      go_wp2_with fail
      refine (unhide HI P 1 _ (c - f) _ (by omega) (by omega) (by omega) (by omega) (by omega) (unhide HPT) (unhide HPV)).mono ?_
      rintro r w1 ⟨va, b, rfl, hb, hy, hno⟩
      replace HB := hide ((unhide HB).trans (hb.mono (unhide HB).size)); replace HO := hide ((unhide HO).keep hb)
      cases b
      · have HN := hide (hno rfl)
        clear hy hno hb
        have HZ := hide ((Below.refl w1.heap.size w1).alloc (Nat.le_refl _) (.cells #[] 41))
        go_wp2_with fail
        go_ret2
        exact ⟨_, _, rfl, (unhide HB).trans ((unhide HZ).mono (unhide HB).size), (fun h => nomatch h), fun _ e' => unhide HBad h0 trivial (unhide HN) e'⟩
      · obtain ⟨e1, hg, ho1⟩ := hy rfl
        rw [List.append_nil] at ho1
        have HG := hide hg; have HO1 := hide ho1
        have hgl := hg.len
        clear hy hno hb hg ho1
        go_wp2_with fail
        refine (join_own (unhide HO) (unhide HO1) (by omega)).mono ?_
        rintro r w2 ⟨vj, rfl, hoj, hb⟩
        have HB2 := hide ((unhide HB).trans (hb.mono (unhide HB).size)); have HO2 := hide (hoj.low (unhide HB).size)
        have HX := hide (unhide HCut e1 h0 trivial (unhide HG))
        clear hb hoj
        go_wp2_with fail
        go_roundw
        case rel =>
          have hlen : (ps ++ [P]).length = ps.length + 1 := by simp
          first | exact ⟨k + 1, k + 1, ps ++ [P], e ++ e1, by rw [hlen]; go_num, by go_num, by rw [unhide HD1, hdq], by go_num, unhide HO2, unhide HB2, .inl (unhide HX)⟩ | ((repeat apply Exists.intro); exact ⟨⟨k + 1, k + 1, ps ++ [P], e ++ e1, by rw [hlen]; go_num, by go_num, by rw [unhide HD1, hdq], by go_num, unhide HO2, unhide HB2, .inl (unhide HX)⟩, rfl⟩)
        case measure => simp [intOf]; omega
end Go.Proofs.YtjgngbmkpiihgaaGreatDoor

/- The model's parser: atoms. -/
namespace Go.Proofs.YtjgngbmkpiihgaaGreatDoor
open Go Go.RowKit

theorem ng_of {t : ByteArray} (h : cls t ≠ 1) : goodN t = false := by
  cases q : goodN t
  · rfl
  · exact absurd (goodN_cls q) h
theorem k_int {t : ByteArray} (ht : VT t) (h : cls t = 2) : ∃ n, rd t.data.toList = (n, true) ∧ txt t = t ∧ tkX.k t = some ⟨0, ⟨1, n, ⟨#[]⟩⟩, ⟨#[]⟩⟩ := by
  obtain ⟨n, h1, h2⟩ := rv_int h (ht.c2 h)
  refine ⟨n, by unfold rd; rw [h1], txt_eq (by omega), ?_⟩
  show tkK t = _
  unfold tkK
  rw [ng_of (by omega), if_neg (by decide), if_pos (by rw [h2])]
  unfold cstNd
  rw [h2]
theorem k_txt {t : ByteArray} (ht : VT t) (h : cls t = 3) : tkX.k t = some ⟨0, ⟨3, 0, txt t⟩, ⟨#[]⟩⟩ := by
  obtain ⟨h2, -⟩ := rv_txt h (ht.c3 h)
  show tkK t = _
  unfold tkK
  rw [ng_of (by omega), if_neg (by decide), if_pos (by rw [h2])]
  unfold cstNd txt
  rw [h2, if_pos h]
theorem k_word {t : ByteArray} {k n : Int} (h : goodN t = false) (hr : rv t = (k, n, ⟨#[]⟩, true)) : tkX.k t = some ⟨0, ⟨k, n, ⟨#[]⟩⟩, ⟨#[]⟩⟩ := by
  show tkK t = _
  unfold tkK
  rw [h, if_neg (by decide), if_pos (by rw [hr])]
  unfold cstNd
  rw [hr]
theorem k_true : tkX.k ⟨#[116, 114, 117, 101]⟩ = some ⟨0, ⟨2, 1, ⟨#[]⟩⟩, ⟨#[]⟩⟩ := k_word (by decide +kernel) rfl
theorem k_false : tkX.k ⟨#[102, 97, 108, 115, 101]⟩ = some ⟨0, ⟨2, 0, ⟨#[]⟩⟩, ⟨#[]⟩⟩ := k_word (by decide +kernel) rfl
theorem k_blank : tkX.k ⟨#[98, 108, 97, 110, 107]⟩ = some ⟨0, ⟨0, 0, ⟨#[]⟩⟩, ⟨#[]⟩⟩ := k_word (by decide +kernel) rfl
theorem k_good {t : ByteArray} (h : goodN t = true) : tkX.k t = some (fldNd t) ∧ txt t = t := by
  refine ⟨?_, txt_eq (by rw [goodN_cls h]; decide)⟩
  show tkK t = _
  unfold tkK
  rw [if_pos h]
theorem k_none {t : ByteArray} (ht : VT t) (h2 : cls t ≠ 2) (h3 : cls t ≠ 3) (h4 : t ≠ ⟨#[116, 114, 117, 101]⟩) (h5 : t ≠ ⟨#[102, 97, 108, 115, 101]⟩) (h6 : t ≠ ⟨#[98, 108, 97, 110, 107]⟩) (hg : goodN t = false) : tkX.k t = none := by
  by_cases hr : t = ⟨#[41]⟩
  · exact (tkX_ok.RC t (decide_eq_true hr)).2.2.2
  · have he := eo_eq ht
    have hf : eoB t = false := by
      unfold eoB
      rw [decide_eq_false h2, decide_eq_false h3, decide_eq_false hr, hg, decide_eq_false h4, decide_eq_false h5, decide_eq_false h6]
      rfl
    rw [hf] at he
    unfold Lx.eo at he
    rw [Bool.or_eq_false_iff] at he
    cases q : tkX.k t with
    | none => rfl
    | some n => rw [q] at he; cases he.2
theorem OwnN.one (w : World) (n : Nx) : OwnN (w.alloc (.cells (nC n).toArray 41)) w.heap.size (.slice (some ⟨w.heap.size, 0, .none⟩) 1 1) [n] :=
  ⟨rfl, .inr ⟨w.heap.size, 1, (nC n).toArray, rfl, Nat.le_refl _, heap_alloc_new w (.cells (nC n).toArray 41), Nat.le_refl _, by unfold maxLen; omega, rfl, by simp [nodV]; rfl⟩⟩
/-- The answer of one token. -/
theorem spl_one {w w1 w' : World} {t : ByteArray} {n : Nx} {v : Value} (hb : Below w.heap.size w w1) (hw : w' = w1.alloc (.cells (nC n).toArray 41)) (hk : tkX.k t = some n) (hv : v = .slice (some ⟨w1.heap.size, 0, .none⟩) 1 1) : SplA w 7 0 [t] [] (.returned (.tuple #[v, .bool true])) w' := by
  subst hw; subst hv
  refine ⟨_, _, rfl, hb.trans (((Below.refl _ _).alloc (Nat.le_refl _) _).mono hb.size), fun _ => ⟨[n], (one_iff t [n]).2 ⟨n, hk, rfl⟩, ?_⟩, (fun h => nomatch h)⟩
  rw [List.append_nil]
  exact (OwnN.one w1 n).low hb.size
theorem spl_no {w w' : World} {lv m : Nat} {l : List ByteArray} {x : List Nx} {v : Value} (hb : Below w.heap.size w w') (hn : ∀ e, ¬ Gr tkX lv m l e) : SplA w lv m l x (.returned (.tuple #[v, .bool false])) w' := ⟨_, _, rfl, hb, (fun h => nomatch h), fun _ => hn⟩
theorem opW_snoc {s : ByteArray} : ∀ {n a : Nat}, 0 < a → opW s a (n + 1) = if opW s a n ≠ 0 then opW s a n else if wrd ((a + n : Nat) : Int) = s then a + n else 0
  | 0, a, h => by simp [opW]
  | n + 1, a, h => by
    have ih := opW_snoc (s := s) (n := n) (a := a + 1) (by omega)
    rw [opW.eq_2 s a (n + 1), ih, opW.eq_2 s a n]
    by_cases e : wrd (a : Nat) = s
    · rw [if_pos e, if_pos e, if_pos (by omega)]
    · rw [if_neg e, if_neg e, show a + 1 + n = a + (n + 1) by omega]
theorem fn_inj {a b : Nat} (ha : 16 ≤ a) (ha' : a ≤ 25) (hb : 16 ≤ b) (hb' : b ≤ 25) (h : wrd (a : Nat) = wrd (b : Nat)) : a = b := by
  have key : ∀ i : Fin 10, ∀ j : Fin 10, wrd ((i.val + 16 : Nat) : Int) = wrd ((j.val + 16 : Nat) : Int) → i = j := by decide
  have := key ⟨a - 16, by omega⟩ ⟨b - 16, by omega⟩ (by
    show wrd ((a - 16 + 16 : Nat) : Int) = wrd ((b - 16 + 16 : Nat) : Int)
    rw [show a - 16 + 16 = a by omega, show b - 16 + 16 = b by omega]; exact h)
  have := congrArg Fin.val this
  simp only at this
  omega
theorem opW_hit {s : ByteArray} {k : Nat} (hk : 16 ≤ k) (hk' : k ≤ 25) (h : wrd (k : Nat) = s) : opW s 16 (k + 1 - 16) = k := by
  rw [show k + 1 - 16 = (k - 16) + 1 by omega, opW_snoc (by omega)]
  by_cases hq : opW s 16 (k - 16) = 0
  · rw [if_neg (by simp [hq]), show 16 + (k - 16) = k by omega, if_pos h]
  · obtain ⟨h1, h2, h3⟩ := opW_some hq
    have := fn_inj h1 (by omega) hk hk' (h3.trans h.symm)
    omega
theorem opW_miss {s : ByteArray} {k : Nat} (hk : 16 ≤ k) (h : wrd (k : Nat) ≠ s) : opW s 16 (k + 1 - 16) = opW s 16 (k - 16) := by
  rw [show k + 1 - 16 = (k - 16) + 1 by omega, opW_snoc (by omega), show 16 + (k - 16) = k by omega, if_neg h]
  by_cases hq : opW s 16 (k - 16) = 0
  · rw [if_neg (by simp [hq]), hq]
  · rw [if_pos hq]
/-- Two tokens or more: what they can be. -/
theorem two_par {l : List ByteArray} {t : ByteArray} {s : List ByteArray} (hl : l = t :: s) (h1 : t = ⟨#[40]⟩) (hm : mtV 0 0 l = (l.length : Int) - 1) : ∃ a r, s = a ++ [r] ∧ tkX.R r = true := by
  subst hl
  have hL : tkX.L t = true := decide_eq_true h1
  unfold mtV at hm
  rw [List.drop_zero] at hm
  cases q : mtc tkX 0 (t :: s) with
  | none => rw [q] at hm; first | (simp at hm; omega) | simp at hm
  | some j =>
    rw [q] at hm
    simp at hm
    refine match_split (l := t) (s := s) ?_ hL
    rw [q]
    congr 1
    omega
theorem two_call {l : List ByteArray} {t u : ByteArray} {s : List ByteArray} (hl : l = t :: u :: s) (h1 : u = ⟨#[40]⟩) (hm : mtV 1 0 l = (l.length : Int) - 1) : ∃ a r, s = a ++ [r] ∧ tkX.R r = true := by
  subst hl
  have hL : tkX.L u = true := decide_eq_true h1
  unfold mtV at hm
  rw [show (t :: u :: s).drop 1 = u :: s from rfl] at hm
  cases q : mtc tkX 0 (u :: s) with
  | none => rw [q] at hm; first | (simp at hm; omega) | simp at hm
  | some j =>
    rw [q] at hm
    simp at hm
    refine match_split (l := u) (s := s) ?_ hL
    rw [q]
    congr 1
    omega
theorem two_no {l : List ByteArray} {t u : ByteArray} {s : List ByteArray} (hl : l = t :: u :: s) (h1 : ¬ (t = ⟨#[40]⟩ ∧ mtV 0 0 l = (l.length : Int) - 1)) (h2 : ¬ (goodN t = true ∧ u = ⟨#[40]⟩ ∧ mtV 1 0 l = (l.length : Int) - 1)) (e : List Nx) : ¬ Gr tkX 7 0 l e := by
  intro hg
  rcases atom_none tkX_ok hg with ⟨x, hx⟩ | ⟨x, r, a, hx, hL, hR, hd, hn⟩ | ⟨x, y, r, a, hx, hG, hL, hR, hd, hn⟩
  · rw [hl] at hx; cases hx
  · refine h1 ⟨?_, ?_⟩
    · rw [(List.cons.inj (hl.symm.trans hx)).1]; exact of_decide_eq_true hL
    · have := match_last tkX_ok hL hR hd hn
      unfold mtV
      rw [hx, List.drop_zero, this]
      simp
  · refine h2 ⟨?_, ?_, ?_⟩
    · rw [hl] at hx; cases hx; exact hG
    · rw [hl] at hx; cases hx; exact of_decide_eq_true hL
    · have := match_last tkX_ok hL hR hd hn
      unfold mtV
      rw [hx, show (x :: y :: (a ++ [r])).drop 1 = y :: (a ++ [r]) from rfl, this]
      simp
      omega
end Go.Proofs.YtjgngbmkpiihgaaGreatDoor
