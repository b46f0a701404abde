import Derived.Test.YtjgngbmkpiihgaaGreatDoorGPa
/- The model's parser: an atom of one token. -/
namespace Go.Proofs.YtjgngbmkpiihgaaGreatDoor
open Go Go.RowKit

set_option maxRecDepth 100000 in
set_option maxHeartbeats 8000000 in
theorem l3Atom_one (t : ByteArray) (a : Option Addr) (c : Nat) (w : World) (ht : VT t) (hz : t.size ≤ 1048576) (ha : Tks w a [t]) : Calls Tryz.prog 108 #[.slice a 1 c] w (SplA w 7 0 [t] []) := by
  have hb0 := (Below.refl w.heap.size w).alloc (Nat.le_refl _) (.cells #[] 41)
  obtain ⟨W0, hW0⟩ : ∃ W0, w.alloc (.cells #[] 41) = W0 := ⟨_, rfl⟩
  rw [hW0] at hb0
  obtain ⟨b, o, p, rfl, hc⟩ := (ha.mono hb0) 0 (by simp)
  obtain ⟨-, c0, c1, c2⟩ := hc
  simp only [List.getElem_cons_zero, Nat.zero_mul, Nat.add_zero] at c0 c1 c2
  have htz := txt_size t
  have HKi : Hid (cls t = 2 → ∃ n, (∀ w, Calls Tryz.prog 68 #[.string (txt t)] w fun e w' => e = .returned (.tuple #[.int .i64 n, .bool true]) ∧ Below w.heap.size w w') ∧ tkX.k t = some ⟨0, ⟨1, n, ⟨#[]⟩⟩, ⟨#[]⟩⟩) := hide fun h => by
    obtain ⟨n, h1, h2, h3⟩ := k_int ht h
    exact ⟨n, fun w => by rw [h2]; exact l2ReadInt_any t w (by omega) n true h1, h3⟩
  have HKt := hide (fun h => k_txt ht h)
  have HKg : Hid (goodN t = true → tkX.k t = some ⟨1, ⟨0, 0, ⟨#[]⟩⟩, txt t⟩) := hide fun h => by
    obtain ⟨h1, h2⟩ := k_good h
    rw [h1, h2]; rfl
  have HKb : Hid (t = ⟨#[98, 108, 97, 110, 107]⟩ → tkX.k t = some ⟨0, ⟨0, 0, ⟨#[]⟩⟩, ⟨#[]⟩⟩) := hide fun h => by rw [h]; exact k_blank
  have HKf : Hid (t = ⟨#[102, 97, 108, 115, 101]⟩ → tkX.k t = some ⟨0, ⟨2, 0, ⟨#[]⟩⟩, ⟨#[]⟩⟩) := hide fun h => by rw [h]; exact k_false
  have HKr : Hid (t = ⟨#[116, 114, 117, 101]⟩ → tkX.k t = some ⟨0, ⟨2, 1, ⟨#[]⟩⟩, ⟨#[]⟩⟩) := hide fun h => by rw [h]; exact k_true
  have HKn := hide (fun h2 h3 h4 h5 h6 hg => k_none ht h2 h3 h4 h5 h6 hg)
  have HGd := hide (fun w => good_tok (t := t) p (by omega) w)
  have HTr := hide (fun w => word_tok (t := t) (s := ⟨#[116, 114, 117, 101]⟩) p (by decide) w)
  have HFa := hide (fun w => word_tok (t := t) (s := ⟨#[102, 97, 108, 115, 101]⟩) p (by decide) w)
  have HBl := hide (fun w => word_tok (t := t) (s := ⟨#[98, 108, 97, 110, 107]⟩) p (by decide) w)
  unfold tV at HGd HTr HFa HBl
  have h2 : cls t = 2 ∨ ¬ cls t = 2 := Decidable.em _
  have h3 : cls t = 3 ∨ ¬ cls t = 3 := Decidable.em _
  have e2 : ((cls t : Int) == 2) = decide (cls t = 2) := by rcases h2 with h | h <;> simp [h]; omega
  have e3 : ((cls t : Int) == 3) = decide (cls t = 3) := by rcases h3 with h | h <;> simp [h]; omega
  clear h2 h3
  have HK := hide (Blk.new W0 89 #[.int .i64 (cls t : Nat), .string (txt t), .int .i64 p])
  have HB := hide (hb0.alloc (Nat.le_trans (Nat.le_refl _) hb0.size) (.cells #[.int .i64 (cls t : Nat), .string (txt t), .int .i64 p] 89))
  obtain ⟨W1, hW1⟩ : ∃ W1, W0.alloc (.cells #[.int .i64 (cls t : Nat), .string (txt t), .int .i64 p] 89) = W1 := ⟨_, rfl⟩
  rw [hW1] at HB HK
  have hs0 : W0.heap.size = w.heap.size + 1 := by rw [← hW0]; simp
  rw [hs0] at HK
  generalize hcc : (cls t : Int) = cc at *
  generalize txt t = x at *
  clear hcc
  have y0 := (unhide HK).cell 0; have y1 := (unhide HK).cell 1; have y2 := (unhide HK).cell 2
  simp only [List.getElem?_cons_zero, List.getElem?_cons_succ] at y0 y1 y2
  clear ha hb0 ht
  by_cases h2 : cls t = 2
  case pos =>
    obtain ⟨n, hR, hk⟩ := unhide HKi h2
    have HR := hide hR; have HX := hide hk
    rw [decide_eq_true h2] at e2
    clear hR hk h2
    go_enter Tryz.func108, Tryz.ntmps108
    go_wp2_with fail
    try rw [hW0]
    try rw [hW1]
    refine (unhide HR _).mono ?_
    rintro e9 w2 ⟨rfl, hb⟩
    replace HB := hide ((unhide HB).trans (hb.mono (unhide HB).size))
    clear hb c0 c1 c2 y0 y1 y2 hW0 hW1
    go_wp2_with fail
    refine (l2Int_any _ _).mono ?_
    rintro e9 w3 ⟨rfl, hb⟩
    replace HB := hide ((unhide HB).trans (hb.mono (unhide HB).size))
    clear hb
    go_wp2_with fail
    refine (l3Const_any _ _ _ _).mono ?_
    rintro e9 w4 ⟨rfl, hb⟩
    replace HB := hide ((unhide HB).trans (hb.mono (unhide HB).size))
    clear hb
    go_wp2_with fail
    go_ret2
    exact spl_one (unhide HB) rfl (unhide HX) rfl
  rw [decide_eq_false h2] at e2
  by_cases h3 : cls t = 3
  case pos =>
    have HX := hide (unhide HKt h3)
    rw [decide_eq_true h3] at e3
    clear h2 h3
    go_enter Tryz.func108, Tryz.ntmps108
    go_wp2_with fail
    try rw [hW0]
    try rw [hW1]
    refine (l2Text_any _ _).mono ?_
    rintro e9 w3 ⟨rfl, hb⟩
    replace HB := hide ((unhide HB).trans (hb.mono (unhide HB).size))
    clear hb c0 c1 c2 y0 y1 y2 hW0 hW1
    go_wp2_with fail
    refine (l3Const_any _ _ _ _).mono ?_
    rintro e9 w4 ⟨rfl, hb⟩
    replace HB := hide ((unhide HB).trans (hb.mono (unhide HB).size))
    clear hb
    go_wp2_with fail
    go_ret2
    exact spl_one (unhide HB) rfl (unhide HX) rfl
  rw [decide_eq_false h3] at e3
  go_enter Tryz.func108, Tryz.ntmps108
  go_wp2_with fail
  try rw [hW0]
  try rw [hW1]
  refine (unhide HTr _).mono ?_
  rintro e9 W2 ⟨rfl, hb⟩
  replace HB := hide ((unhide HB).trans (hb.mono (unhide HB).size)); replace HK := hide ((unhide HK).mono hb (unhide HK).lt)
  clear hb c0 c1 c2 y0 y1 y2 hW0 hW1
  have y0 := (unhide HK).cell 0; have y1 := (unhide HK).cell 1; have y2 := (unhide HK).cell 2
  simp only [List.getElem?_cons_zero, List.getElem?_cons_succ] at y0 y1 y2
  by_cases h4 : t = ⟨#[116, 114, 117, 101]⟩
  case pos =>
    have HX := hide (unhide HKr h4)
    rw [decide_eq_true h4]
    clear h4
    go_wp2_with fail
    refine (l2Bool_any _ _).mono ?_
    rintro e9 w3 ⟨rfl, hb⟩
    replace HB := hide ((unhide HB).trans (hb.mono (unhide HB).size))
    clear hb y0 y1 y2
    simp only [if_true]
    go_wp2_with fail
    refine (l3Const_any _ _ _ _).mono ?_
    rintro e9 w4 ⟨rfl, hb⟩
    replace HB := hide ((unhide HB).trans (hb.mono (unhide HB).size))
    clear hb
    go_wp2_with fail
    go_ret2
    exact spl_one (unhide HB) rfl (unhide HX) rfl
  rw [decide_eq_false h4]
  go_wp2_with fail
  refine (unhide HFa _).mono ?_
  rintro e9 W3 ⟨rfl, hb⟩
  replace HB := hide ((unhide HB).trans (hb.mono (unhide HB).size)); replace HK := hide ((unhide HK).mono hb (unhide HK).lt)
  clear hb y0 y1 y2
  have y0 := (unhide HK).cell 0; have y1 := (unhide HK).cell 1; have y2 := (unhide HK).cell 2
  simp only [List.getElem?_cons_zero, List.getElem?_cons_succ] at y0 y1 y2
  by_cases h5 : t = ⟨#[102, 97, 108, 115, 101]⟩
  case pos =>
    have HX := hide (unhide HKf h5)
    rw [decide_eq_true h5]
    clear h5 h4
    go_wp2_with fail
    refine (l2Bool_any _ _).mono ?_
    rintro e9 w3 ⟨rfl, hb⟩
    replace HB := hide ((unhide HB).trans (hb.mono (unhide HB).size))
    clear hb y0 y1 y2
    simp only [Bool.false_eq_true, if_false]
    go_wp2_with fail
    refine (l3Const_any _ _ _ _).mono ?_
    rintro e9 w4 ⟨rfl, hb⟩
    replace HB := hide ((unhide HB).trans (hb.mono (unhide HB).size))
    clear hb
    go_wp2_with fail
    go_ret2
    exact spl_one (unhide HB) rfl (unhide HX) rfl
  rw [decide_eq_false h5]
  go_wp2_with fail
  refine (unhide HBl _).mono ?_
  rintro e9 W4 ⟨rfl, hb⟩
  replace HB := hide ((unhide HB).trans (hb.mono (unhide HB).size)); replace HK := hide ((unhide HK).mono hb (unhide HK).lt)
  clear hb y0 y1 y2
  have y0 := (unhide HK).cell 0; have y1 := (unhide HK).cell 1; have y2 := (unhide HK).cell 2
  simp only [List.getElem?_cons_zero, List.getElem?_cons_succ] at y0 y1 y2
  by_cases h6 : t = ⟨#[98, 108, 97, 110, 107]⟩
  case pos =>
    have HX := hide (unhide HKb h6)
    rw [decide_eq_true h6]
    clear h6 h5 h4
    go_wp2_with fail
    refine (l2Blank_any _).mono ?_
    rintro e9 w3 ⟨rfl, hb⟩
    replace HB := hide ((unhide HB).trans (hb.mono (unhide HB).size))
    clear hb y0 y1 y2
    go_wp2_with fail
    refine (l3Const_any _ _ _ _).mono ?_
    rintro e9 w4 ⟨rfl, hb⟩
    replace HB := hide ((unhide HB).trans (hb.mono (unhide HB).size))
    clear hb
    go_wp2_with fail
    go_ret2
    exact spl_one (unhide HB) rfl (unhide HX) rfl
  rw [decide_eq_false h6]
  go_wp2_with fail
  refine (unhide HGd _).mono ?_
  rintro e9 W5 ⟨rfl, hb⟩
  replace HB := hide ((unhide HB).trans (hb.mono (unhide HB).size)); replace HK := hide ((unhide HK).mono hb (unhide HK).lt)
  clear hb y0 y1 y2
  have y0 := (unhide HK).cell 0; have y1 := (unhide HK).cell 1; have y2 := (unhide HK).cell 2
  simp only [List.getElem?_cons_zero, List.getElem?_cons_succ] at y0 y1 y2
  cases hg : goodN t
  case true =>
    have HX := hide (unhide HKg hg)
    clear hg h2 h3 h4 h5 h6
    go_wp2_with fail
    go_ret2
    exact spl_one (unhide HB) rfl (unhide HX) rfl
  have HX := hide (unhide HKn h2 h3 h4 h5 h6 hg)
  clear hg h2 h3 h4 h5 h6
  go_wp2_with fail
  go_ret2
  exact spl_no (unhide HB) (fun e he => by obtain ⟨n, hn, -⟩ := (one_iff t e).1 he; rw [unhide HX] at hn; cases hn)
end Go.Proofs.YtjgngbmkpiihgaaGreatDoor

/- The model's parser: atoms of several tokens. -/
namespace Go.Proofs.YtjgngbmkpiihgaaGreatDoor
open Go Go.RowKit

theorem spl_par {w w' : World} {t r : ByteArray} {a : List ByteArray} {x : Ending} (h1 : tkX.L t = true) (h2 : tkX.R r = true) (h : SplA w 1 0 a [] x w') : SplA w 7 0 (t :: (a ++ [r])) [] x w' := by
  obtain ⟨v, b, rfl, hb, hy, hn⟩ := h
  refine ⟨v, b, rfl, hb, fun h => ?_, fun h e => ?_⟩
  · obtain ⟨e, hg, ho⟩ := hy h
    exact ⟨e, (par_iff tkX_ok h1 h2 e).2 hg, ho⟩
  · rw [par_iff tkX_ok h1 h2 e]; exact hn h e
theorem spl_call {w w' : World} {t u r : ByteArray} {a : List ByteArray} {x : Ending} {op : Nat} (h0 : tkX.L t = false) (h1 : tkX.L u = true) (h2 : tkX.R r = true) (hf : tkX.f t = op) (hop : op ≠ 0) (h : SplA w 8 (tkX.ar op) a [opNd op] x w') : SplA w 7 0 (t :: u :: (a ++ [r])) [] x w' := by
  obtain ⟨v, b, rfl, hb, hy, hn⟩ := h
  refine ⟨v, b, rfl, hb, fun h => ?_, fun h e => ?_⟩
  · obtain ⟨e, hg, ho⟩ := hy h
    refine ⟨e ++ [opNd op], (call_iff h0 h1 h2 _).2 ⟨by rw [hf]; exact hop, e, by rw [hf]; exact hg, by rw [hf]; rfl⟩, ?_⟩
    rw [List.append_nil]; exact ho
  · rw [call_iff h0 h1 h2 e]
    rintro ⟨-, e', hg, -⟩
    rw [hf] at hg
    exact hn h e' hg
theorem f_of {t : ByteArray} (h : goodN t = true) : tkX.f t = opW t 16 10 := by
  show (if goodN t = true then _ else 0) = _
  rw [if_pos h]
theorem ar_nat (o : Nat) : ar (o : Nat) = ((tkX.ar o : Nat) : Int) := by
  show ar (o : Nat) = (((ar (o : Nat)).toNat : Nat) : Int)
  have : 0 ≤ ar (o : Nat) := by unfold ar; repeat (first | omega | split)
  omega

set_option maxRecDepth 100000 in
set_option maxHeartbeats 8000000 in
theorem l3Atom_of (l : List ByteArray) (t u : ByteArray) (s : List ByteArray) (hls : l = t :: u :: s) (a : Option Addr) (c : Nat) (w : World) (hI : Splits (9 * l.length)) (hc : l.length ≤ c) (hl : l.length ≤ 1048576) (ht : TkOk l) (ha : Tks w a l) :
    Calls Tryz.prog 108 #[.slice a l.length c] w (SplA w 7 0 l []) := by
  have hlen : 2 ≤ l.length := by rw [hls]; simp
  have HLs := hide hls
  have hb0 := (Below.refl w.heap.size w).alloc (Nat.le_refl _) (.cells #[] 41)
  obtain ⟨W0, hW0⟩ : ∃ W0, w.alloc (.cells #[] 41) = W0 := ⟨_, rfl⟩
  rw [hW0] at hb0
  have HI := hide hI; have HT := hide ht
  have HA := hide (ha.mono hb0)
  have HB := hide hb0
  obtain ⟨b, o, p, rfl, hc0⟩ := (unhide HA) 0 (by omega)
  obtain ⟨b', o', q, e', hc1⟩ := (unhide HA) 1 (by omega)
  cases e'
  have g0 : l[0]'(by omega) = t := by subst hls; rfl
  have g1 : l[1]'(by omega) = u := by subst hls; rfl
  rw [g0] at hc0
  rw [g1] at hc1
  have hzt : t.size ≤ 1048576 := by have := (ht.at (k := 0) (by omega)).2; rw [g0] at this; exact this
  have HC0 := hide hc0; have HC1 := hide hc1
  obtain ⟨-, c0, c1, c2⟩ := hc0
  obtain ⟨-, d0, d1, d2⟩ := hc1
  simp only [Nat.zero_mul, Nat.add_zero, Nat.one_mul] at c0 c1 c2 d0 d1 d2
  have HGd := hide (fun w => good_tok (t := t) p (by omega) w)
  have HL := hide (fun w => sym_tok (t := t) (s := ⟨#[40]⟩) p (by decide) w)
  have HM := hide (fun w => sym_tok (t := u) (s := ⟨#[40]⟩) q (by decide) w)
  unfold tV at HGd HL HM
  have HNo := hide (two_no hls)
  have HMt := hide (fun (w : World) (h : Tks w (some ⟨b, o, none⟩) l) => l3Match_any (some ⟨b, o, none⟩) c l 0 w hl (by omega) h)
  have HMu := hide (fun (w : World) (h : Tks w (some ⟨b, o, none⟩) l) => l3Match_any (some ⟨b, o, none⟩) c l 1 w hl (by omega) h)
  have HP1 := hide (two_par hls); have HP2 := hide (two_call hls)
  have hw1 : wrap64 ((l.length : Int) - 1) = (l.length : Int) - 1 := wrap64_small (by omega) (by omega)
  have hl1 : ((l.length : Int) == 1) = false := beq_eq_false_iff_ne.2 (by omega)
  obtain ⟨L1, hL1⟩ : ∃ n, l.length - 1 = n := ⟨_, rfl⟩
  have hL1' : (l.length : Int) - 1 = (L1 : Int) := by omega
  have Hg1 : Hid (tkX.L t = decide (t = ⟨#[40]⟩)) := hide rfl
  have Hf := hide (f_of (t := t))
  have hLa : L1 + 1 ≤ l.length := by omega
  have hLb : l.length ≤ L1 + 1 := by omega
  clear ha hb0 ht hI g0 g1 hls hL1
  rw [hL1'] at hw1 HNo HP1 HP2
  generalize hm0 : mtV 0 0 l = m0 at *
  generalize hm1 : mtV 1 0 l = m1 at *
  clear hm0 hm1 hL1'
  by_cases h1 : t = ⟨#[40]⟩
  case pos =>
    have hgf : goodN t = false := by rw [h1]; exact ng_of (by decide)
    rw [decide_eq_true h1] at HL
    rw [hgf] at HGd
    have H1 := hide h1
    clear h1
    go_enter Tryz.func108, Tryz.ntmps108
    go_wp2_with fail
    try rw [hW0]
    refine (unhide HL _).mono ?_
    rintro e9 W1 ⟨rfl, hb⟩
    replace HB := hide ((unhide HB).trans (hb.mono (unhide HB).size)); replace HA := hide ((unhide HA).mono hb); replace HC0 := hide ((unhide HC0).mono hb)
    clear hb c0 c1 c2 d0 d1 d2 hW0
    go_wp2_with fail
    refine (unhide HMt _ (unhide HA)).mono ?_
    rintro e9 W2 ⟨rfl, hb⟩
    replace HB := hide ((unhide HB).trans (hb.mono (unhide HB).size)); replace HA := hide ((unhide HA).mono hb); replace HC0 := hide ((unhide HC0).mono hb)
    clear hb
    obtain ⟨-, c0, c1, c2⟩ := unhide HC0
    simp only [Nat.zero_mul, Nat.add_zero] at c0 c1 c2
    by_cases hm : m0 = (L1 : Int)
    case pos =>
      obtain ⟨x, r, hx, hr⟩ := unhide HP1 (unhide H1) hm
      subst hm
      have hmm : ((L1 : Int) == (L1 : Int)) = true := by simp
      have hxl : x.length = L1 - 1 := by have h8 := congrArg List.length hx; have h9 := congrArg List.length (unhide HLs); simp at h8 h9; omega
      have HPe : Hid ((l.take L1).drop 1 = x) := hide (by
        have e1 : l = (t :: x) ++ [r] := by rw [unhide HLs, hx]; rfl
        rw [e1, List.take_append_of_le_length (by simp; omega), List.take_of_length_le (by simp; omega)]; rfl)
      have HXv := hide ((unhide HA).cut (lo := 1) (hi := L1) (by omega) hc)
      have HXt := hide ((unhide HT).cut 1 L1)
      rw [unhide HPe] at HXv HXt
      rw [show cutA (some ⟨b, o, none⟩) 1 c 3 = some ⟨b, o + 3, none⟩ by unfold cutA; rw [if_neg (by omega)]; rfl] at HXv
      have hxm : x.length ≤ L1 - 1 := by omega
      have HXL := hide hxl
      clear hxl
      have HF : Hid (l = t :: (x ++ [r])) := hide (by rw [unhide HLs, hx])
      have HR := hide hr
      clear hx hr
      go_wp2_with fail
      rw [show l.length - 1 - 1 = x.length by have := unhide HXL; omega]
      refine (unhide HI x 1 _ (c - 1) _ (by omega) (by omega) (by omega) (by omega) (by omega) (unhide HXt) (unhide HXv)).mono ?_
      intro r9 w3 h9
      have HZ := hide h9
      obtain ⟨v, bb, rfl, hb, -⟩ := h9
      clear hb
      go_wp2_with fail
      go_ret2
      rw [unhide HF]
      obtain ⟨v', b', e9, hb, hy, hn⟩ := spl_par (decide_eq_true (unhide H1)) (unhide HR) (unhide HZ)
      cases e9
      exact ⟨_, _, rfl, (unhide HB).trans (hb.mono (unhide HB).size), fun h => by obtain ⟨e, h8, h9⟩ := hy h; exact ⟨e, h8, h9.low (unhide HB).size⟩, hn⟩
    have hmm : (m0 == (L1 : Int)) = false := beq_eq_false_iff_ne.2 hm
    have HX := hide (unhide HNo (fun h => hm h.2) (fun h => by rw [hgf] at h; cases h.1))
    go_wp2_with fail
    refine (unhide HGd _).mono ?_
    rintro e9 W3 ⟨rfl, hb⟩
    replace HB := hide ((unhide HB).trans (hb.mono (unhide HB).size))
    clear hb c0 c1 c2
    go_wp2_with fail
    go_ret2
    exact spl_no (unhide HB) (unhide HX)
  rw [decide_eq_false h1] at HL Hg1
  go_enter Tryz.func108, Tryz.ntmps108
  go_wp2_with fail
  try rw [hW0]
  refine (unhide HL _).mono ?_
  rintro e9 W1 ⟨rfl, hb⟩
  replace HB := hide ((unhide HB).trans (hb.mono (unhide HB).size)); replace HA := hide ((unhide HA).mono hb); replace HC0 := hide ((unhide HC0).mono hb); replace HC1 := hide ((unhide HC1).mono hb)
  clear hb c0 c1 c2 d0 d1 d2 hW0
  obtain ⟨-, c0, c1, c2⟩ := unhide HC0
  simp only [Nat.zero_mul, Nat.add_zero] at c0 c1 c2
  go_wp2_with fail
  refine (unhide HGd _).mono ?_
  rintro e9 W2 ⟨rfl, hb⟩
  replace HB := hide ((unhide HB).trans (hb.mono (unhide HB).size)); replace HA := hide ((unhide HA).mono hb); replace HC0 := hide ((unhide HC0).mono hb); replace HC1 := hide ((unhide HC1).mono hb)
  clear hb c0 c1 c2
  cases hg : goodN t
  case false =>
    have HX := hide (unhide HNo (fun h => h1 h.1) (fun h => by rw [hg] at h; cases h.1))
    go_wp2_with fail
    go_ret2
    exact spl_no (unhide HB) (unhide HX)
  obtain ⟨-, d0, d1, d2⟩ := unhide HC1
  simp only [Nat.one_mul] at d0 d1 d2
  go_wp2_with fail
  refine (unhide HM _).mono ?_
  rintro e9 W3 ⟨rfl, hb⟩
  replace HB := hide ((unhide HB).trans (hb.mono (unhide HB).size)); replace HA := hide ((unhide HA).mono hb); replace HC0 := hide ((unhide HC0).mono hb)
  clear hb d0 d1 d2 HC1
  by_cases hu : u = ⟨#[40]⟩
  case neg =>
    have HX := hide (unhide HNo (fun h => h1 h.1) (fun h => hu h.2.1))
    rw [decide_eq_false hu]
    go_wp2_with fail
    go_ret2
    exact spl_no (unhide HB) (unhide HX)
  rw [decide_eq_true hu]
  have HU := hide hu
  clear hu
  go_wp2_with fail
  refine (unhide HMu _ (unhide HA)).mono ?_
  rintro e9 W4 ⟨rfl, hb⟩
  replace HB := hide ((unhide HB).trans (hb.mono (unhide HB).size)); replace HA := hide ((unhide HA).mono hb); replace HC0 := hide ((unhide HC0).mono hb)
  clear hb
  by_cases hm : m1 = (L1 : Int)
  case neg =>
    have hmm : (m1 == (L1 : Int)) = false := beq_eq_false_iff_ne.2 hm
    have HX := hide (unhide HNo (fun h => h1 h.1) (fun h => hm h.2.2))
    go_wp2_with fail
    go_ret2
    exact spl_no (unhide HB) (unhide HX)
  obtain ⟨x, r, hx, hr⟩ := unhide HP2 (unhide HU) hm
  subst hm
  have hmm : ((L1 : Int) == (L1 : Int)) = true := by simp
  have hxl : x.length = L1 - 2 := by have h8 := congrArg List.length hx; have h9 := congrArg List.length (unhide HLs); simp at h8 h9; omega
  have hL2 : 2 ≤ L1 := by have h8 := congrArg List.length hx; have h9 := congrArg List.length (unhide HLs); simp at h8 h9; omega
  have HPe : Hid ((l.take L1).drop 2 = x) := hide (by
    have e1 : l = (t :: u :: x) ++ [r] := by rw [unhide HLs, hx]; rfl
    rw [e1, List.take_append_of_le_length (by simp; omega), List.take_of_length_le (by simp; omega)]; rfl)
  have HXt := hide ((unhide HT).cut 2 L1)
  rw [unhide HPe] at HXt
  have hxm : x.length ≤ L1 - 2 := by omega
  have HXL := hide hxl
  have HF : Hid (l = t :: u :: (x ++ [r])) := hide (by rw [unhide HLs, hx])
  have HR := hide hr
  have HIc : Hid (Splits (9 * x.length + 7)) := hide (fun l' lv a' c' w' h => unhide HI l' lv a' c' w' (by omega))
  have HfE : Hid (tkX.f t = opW t 16 10) := hide (unhide Hf hg)
  have hcx : x.length ≤ c - 2 := by omega
  have hxb : x.length ≤ 1048576 := by omega
  clear hx hr hxl Hf HI HNo HP1 HP2 HGd HL HM HMt HMu
  have hzx : Hid (cls t = 1 ∧ txt t = t) := hide ⟨goodN_cls hg, (k_good hg).2⟩
  replace HC0 : Hid (TCel W4 b (o + 0 * 3) t p) := HC0
  go_wp2_with fail
  go_loopw [8, 9] (fun ov iv wr => ∃ k : Nat, 16 ≤ k ∧ k ≤ 26 ∧ ov = .int .i64 (opW t 16 (k - 16) : Nat) ∧ iv = .int .i64 (k : Nat) ∧ Below W4.heap.size W4 wr) (fun _ i _ => 26 - (intOf i).toNat)
  case atStart => exact ⟨16, by omega, by omega, rfl, rfl, Below.refl _ _⟩
  case round =>
    obtain ⟨k, hk, hk', rfl, rfl, hb⟩ := hrel
    have HBk := hide hb
    replace HC0 := hide ((unhide HC0).mono hb)
    clear hb
    obtain ⟨-, c0, c1, c2⟩ := unhide HC0
    simp only [Nat.zero_mul, Nat.add_zero] at c0 c1 c2
    rw [(unhide hzx).2] at c1
    by_cases hlt : k < 26
    · have hlt' : (k : Int) ≤ 25 := by omega
      have HFn := hide (fun w => l3FuncName_any (k : Int) w (by omega) (by omega))
      have HH := hide (opW_hit (s := t) hk (by omega)); have HMs := hide (opW_miss (s := t) hk)
      obtain ⟨wd, hwd⟩ : ∃ wd, wrd (k : Int) = wd := ⟨_, rfl⟩
      rw [hwd] at HFn HH HMs
      have he := eqT wd t
      clear hwd
      have HBd : Hid (∀ n, Below W4.heap.size W4 (wr.drewN n)) := hide fun n => (unhide HBk).trans ((below_drewN' wr n).mono (unhide HBk).size)
      generalize opW t 16 (k - 16) = ov at *
      by_cases hq : wd = t
      · rw [decide_eq_true hq] at he
        have HE := hide (unhide HH hq)
        clear hq
        go_wp2_with fail
        go_quiet (first | (go_at_call 55; refine Calls.quiet_of_same (unhide HFn _)))
        go_wp2_with fail
        go_roundw
        case rel => exact ⟨k + 1, by omega, by omega, by rw [unhide HE], by go_num, by first | exact unhide HBd _ | simpa using unhide HBd 1⟩
        case measure => simp [intOf]; omega
      · rw [decide_eq_false hq] at he
        have HE := hide (unhide HMs hq)
        clear hq
        go_wp2_with fail
        go_quiet (first | (go_at_call 55; refine Calls.quiet_of_same (unhide HFn _)))
        go_wp2_with fail
        go_roundw
        case rel => exact ⟨k + 1, by omega, by omega, by rw [unhide HE], by go_num, by first | exact unhide HBd _ | simpa using unhide HBd 1⟩
        case measure => simp [intOf]; omega
    · obtain rfl : k = 26 := by omega
      have HB2 := hide ((unhide HB).trans ((unhide HBk).mono (unhide HB).size))
      have HA2 := hide ((unhide HA).mono (unhide HBk))
      rw [show 26 - 16 = 10 from rfl]
      obtain ⟨op, hop⟩ : ∃ op, opW t 16 10 = op := ⟨_, rfl⟩
      rw [hop] at HfE ⊢
      clear hop
      by_cases h0 : op = 0
      · subst h0
        have HX : Hid (∀ e, ¬ Gr tkX 7 0 l e) := hide fun e he => by
          rw [unhide HF, call_iff (unhide Hg1) (decide_eq_true (unhide HU)) (unhide HR) e] at he
          exact he.1 (unhide HfE)
        go_wp2_with fail
        go_ret2
        exact spl_no (unhide HB2) (unhide HX)
      · have h0' : ((op : Int) == 0) = false := beq_eq_false_iff_ne.2 (by omega)
        have HXv := hide ((unhide HA2).cut (lo := 2) (hi := L1) (by omega) hc)
        rw [unhide HPe, show cutA (some ⟨b, o, none⟩) 2 c 3 = some ⟨b, o + 6, none⟩ by unfold cutA; rw [if_neg (by omega)]; rfl] at HXv
        go_wp2_with fail
        rw [show l.length - 1 - 2 = x.length by have := unhide HXL; omega]
        refine (l3Call_of x op (tkX.ar op) _ (c - 2) _ (unhide HIc) (ar_nat op) hcx hxb (unhide HXt) (unhide HXv)).mono ?_
        intro r9 w3 h9
        have HZ := hide h9
        obtain ⟨v, bb, rfl, hb, -⟩ := h9
        clear hb
        go_wp2_with fail
        go_ret2
        rw [unhide HF]
        obtain ⟨v', b', e9, hb, hy, hn⟩ := spl_call (unhide Hg1) (decide_eq_true (unhide HU)) (unhide HR) (unhide HfE) h0 (unhide HZ)
        cases e9
        exact ⟨_, _, rfl, (unhide HB2).trans (hb.mono (unhide HB2).size), fun h => by obtain ⟨e, h8, h9⟩ := hy h; exact ⟨e, h8, h9.low (unhide HB2).size⟩, hn⟩
end Go.Proofs.YtjgngbmkpiihgaaGreatDoor
