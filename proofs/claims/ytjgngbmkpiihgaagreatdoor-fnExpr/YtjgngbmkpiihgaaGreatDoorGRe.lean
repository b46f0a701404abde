import Derived.Test.YtjgngbmkpiihgaaGreatDoorZRdD
import Derived.Test.YtjgngbmkpiihgaaGreatDoorGPa
import Derived.Test.YtjgngbmkpiihgaaGreatDoorGIE
/- The program's reader of tokens: atoms, calls, operations. -/
namespace Go.Proofs.YtjgngbmkpiihgaaGreatDoor
open Go Go.RowKit

/-- Operations from a place on, as far as n reaches. -/
def Opers (w0 : World) (a : Option Addr) (c : Nat) (l : List ByteArray) (n : Nat) : Prop := ∀ (i d lv : Nat) (w : World) (v : Value) (ns : List Nx), 9 * (l.length - i) + (8 - lv) ≤ n → 1 ≤ lv → lv ≤ 6 → d ≤ 64 → i ≤ l.length → ns.length ≤ i → Rdr w0 a c l w i d v ns →
  Calls Tryz.prog 98 #[.pointer (some ⟨w0.heap.size, 0, none⟩), .int .i64 (lv : Nat)] w (RdO w0 a c l (.op lv) w i d v ns)
theorem rd_empty : (rv ⟨#[]⟩).2.2.2 = false := by
  cases q : (rv ⟨#[]⟩).2.2.2 with
  | false => rfl
  | true =>
    rcases rv_head q with h | h | h | ⟨c, r, h, -⟩
    · exact absurd (congrArg ByteArray.size h) (by decide)
    · exact absurd (congrArg ByteArray.size h) (by decide)
    · exact absurd (congrArg ByteArray.size h) (by decide)
    · cases h
theorem good_empty : goodN ⟨#[]⟩ = false := by decide
theorem pk_in {l : List ByteArray} {i : Nat} (h : pk l i ≠ ⟨#[]⟩) : i < l.length := Decidable.byContradiction fun hc => h (pk_ge hc)
theorem ne_empty {c : UInt8} : (⟨#[c]⟩ : ByteArray) ≠ ⟨#[]⟩ := fun h => absurd (congrArg ByteArray.size h) (by show ¬ (1 : Nat) = 0; omega)

theorem ar_end_none {l : List ByteArray} {i d n : Nat} {acc : List Nx} (h : pk l i ≠ ⟨#[44]⟩) : Evx tkX 64 (.ar (n + 1) acc) d (l.drop i) none := by
  by_cases hi : i < l.length
  · rw [pk_cons hi]; exact ev_ar_no (decide_eq_false h)
  · rw [List.drop_of_length_le (by omega)]; exact ev_ar_end

set_option maxRecDepth 100000 in
set_option maxHeartbeats 8000000 in
theorem call_of {w0 : World} {a : Option Addr} {c : Nat} {l : List ByteArray} {w : World} {i d : Nat} {v : Value} {ns : List Nx} (op : Nat) (hc : RC w0 a l) (hd : d ≤ 64) (hi : i < l.length) (hL : pk l i = ⟨#[40]⟩) (hn : ns.length ≤ i) (h : Rdr w0 a c l w i d v ns) (hI : Opers w0 a c l (9 * (l.length - i))) (t : ByteArray) (hg : goodN t = true) (hf : tkX.f t = op) :
    Calls Tryz.prog 153 #[.pointer (some ⟨w0.heap.size, 0, none⟩), .int .i64 (op : Nat)] w fun e w' => (Evx tkX 64 .atm d (t :: l.drop i) none ∧ e = flt 3 ∧ Below w0.heap.size w0 w') ∨ ∃ en i' v', Evx tkX 64 .atm d (t :: l.drop i) (some (en, l.drop i')) ∧ e = .returned (.tuple #[]) ∧ i ≤ i' ∧ i' ≤ l.length ∧ i + en.length ≤ i' ∧ Rdr w0 a c l w' i' d v' (ns ++ en) ∧ AddK w0.heap.size w w' v v' := by
  have hl := hc.len
  obtain ⟨nd, hk⟩ : ∃ nd, tkX.k t = some nd := ⟨_, (k_good hg).1⟩
  have hLt : tkX.L t = false := by
    have := (tkX_ok.nk hk).1
    exact this
  have hLy : tkX.L (pk l i) = true := decide_eq_true hL
  have HCc := hide hc; have H := hide h; have HI := hide hI
  have HDr : Hid (l.drop i = pk l i :: l.drop (i + 1)) := hide (pk_cons hi)
  have E0 : Hid (op = 0 → Evx tkX 64 .atm d (t :: l.drop i) none) := hide fun h0 => by rw [unhide HDr]; exact ev_nofn hLt hk hg hLy (by rw [hf, h0])
  have E1 : Hid (op ≠ 0 → ¬ d + 1 ≤ 64 → Evx tkX 64 .atm d (t :: l.drop i) none) := hide fun h0 h1 => by rw [unhide HDr]; exact ev_fn_deep hLt hk hg hLy (by rw [hf]; exact h0) h1
  have E2 : Hid (op ≠ 0 → d + 1 ≤ 64 → Evx tkX 64 (.op 1) (d + 1) (l.drop (i + 1)) none → Evx tkX 64 .atm d (t :: l.drop i) none) := hide fun h0 h1 h2 => by rw [unhide HDr]; exact ev_fn_none hLt hk hg hLy (by rw [hf]; exact h0) h1 h2
  have E3 : Hid (op ≠ 0 → d + 1 ≤ 64 → ∀ e1 i1, Evx tkX 64 (.op 1) (d + 1) (l.drop (i + 1)) (some (e1, l.drop i1)) → Evx tkX 64 (.ar (tkX.ar op - 1) e1) (d + 1) (l.drop i1) none → Evx tkX 64 .atm d (t :: l.drop i) none) := hide fun h0 h1 e1 i1 h2 h3 => by rw [unhide HDr]; exact ev_fn_args hLt hk hg hLy (by rw [hf]; exact h0) h1 h2 (by rw [hf]; exact h3)
  have E4 : Hid (op ≠ 0 → d + 1 ≤ 64 → ∀ e1 i1 e2 i2, Evx tkX 64 (.op 1) (d + 1) (l.drop (i + 1)) (some (e1, l.drop i1)) → Evx tkX 64 (.ar (tkX.ar op - 1) e1) (d + 1) (l.drop i1) (some (e2, l.drop i2)) → (pk l i2 ≠ ⟨#[41]⟩ → Evx tkX 64 .atm d (t :: l.drop i) none) ∧ (pk l i2 = ⟨#[41]⟩ → Evx tkX 64 .atm d (t :: l.drop i) (some (e2 ++ [opNd op], l.drop (i2 + 1))))) := hide fun h0 h1 e1 i1 e2 i2 h2 h3 => by
    rw [unhide HDr]
    constructor
    · intro hq
      by_cases hi2 : i2 < l.length
      · rw [pk_cons hi2] at h3
        have := ev_fn hLt hk hg hLy (by rw [hf]; exact h0) h1 h2 (by rw [hf]; exact h3)
        rw [if_neg (by show ¬ decide (pk l i2 = ⟨#[41]⟩) = true; rw [decide_eq_false hq]; decide)] at this
        exact this
      · rw [List.drop_of_length_le (show l.length ≤ i2 by omega)] at h3
        exact ev_fn_end hLt hk hg hLy (by rw [hf]; exact h0) h1 h2 (by rw [hf]; exact h3)
    · intro hq
      have hi2 : i2 < l.length := pk_in (by rw [hq]; exact ne_empty)
      rw [pk_cons hi2] at h3
      have := ev_fn hLt hk hg hLy (by rw [hf]; exact h0) h1 h2 (by rw [hf]; exact h3)
      rw [if_pos (by show decide (pk l i2 = ⟨#[41]⟩) = true; exact decide_eq_true hq), hf] at this
      exact this
  have hop : op = 0 ∨ (16 ≤ op ∧ op ≤ 25) := by
    rw [f_of hg] at hf
    by_cases h0 : op = 0
    · exact .inl h0
    · obtain ⟨h1, h2, -⟩ := opW_some (s := t) (n := 10) (a := 16) (by rw [hf]; exact h0)
      rw [hf] at h1 h2
      exact .inr ⟨h1, by omega⟩
  have HL := hide hL
  clear hc h hI hg hf hk hLt hLy hL
  rcases hop with rfl | ⟨hop1, hop2⟩
  · have HE := hide (unhide E0 rfl)
    have HBl := hide (unhide H).bel
    clear E0 E1 E2 E3 E4
    go_enter Tryz.func153, Tryz.ntmps153
    go_wp2_with fail
    refine (isOperator_any _ _).mono ?_
    rintro e w1 ⟨rfl, rfl⟩
    go_wp2_with fail
    refine (ask_dec _ _ _).mono ?_
    rintro e w2 ⟨he, rfl⟩
    rw [if_neg (by simp)] at he
    subst he
    exact ⟨rfl, .inl ⟨unhide HE, rfl, unhide HBl⟩⟩
  have hop0 : op ≠ 0 := by omega
  have HOp : Hid ((2 : Int) ≤ op ∧ (op : Int) ≤ 25) := hide (by omega)
  obtain ⟨N, hN⟩ : ∃ N, tkX.ar op - 1 = N := ⟨_, rfl⟩
  have hopn : opn op = (N : Int) + 1 := by
    rw [← hN]
    have h1 := tkX_ok.ar
    have : ∀ x : Fin 10, opn ((x.val + 16 : Nat) : Int) = ((tkX.ar (x.val + 16) - 1 : Nat) : Int) + 1 := by decide
    have := this ⟨op - 16, by omega⟩
    simp only [show op - 16 + 16 = op by omega] at this
    exact this
  have hNb : N ≤ 10 := by
    rw [← hN]
    have : ∀ x : Fin 10, tkX.ar (x.val + 16) - 1 ≤ 10 := by decide
    have := this ⟨op - 16, by omega⟩
    simp only [show op - 16 + 16 = op by omega] at this
    exact this
  rw [hN] at E3 E4
  have HOn := hide hopn
  replace E1 := hide (unhide E1 hop0); replace E2 := hide (unhide E2 hop0); replace E3 := hide (unhide E3 hop0); replace E4 := hide (unhide E4 hop0)
  clear hN hopn E0
  go_enter Tryz.func153, Tryz.ntmps153
  go_wp2_with fail
  refine (isOperator_any _ _).mono ?_
  rintro e w1 ⟨rfl, rfl⟩
  rw [decide_eq_true (unhide HOp)]
  go_wp2_with fail
  refine (ask_yes _ _).mono ?_
  rintro e w2 ⟨rfl, rfl⟩
  go_wp2_with fail
  refine (open_any (by omega) hd (unhide HCc) (unhide H)).mono ?_
  rintro e W1 (⟨-, h64, rfl, hr, hak⟩ | ⟨hno, rfl, hb⟩)
  case inr => exact ⟨rfl, .inl ⟨unhide E1 (fun hx => hno ⟨unhide HL, hx⟩), rfl, hb⟩⟩
  have H1 := hide hr; have HA := hide hak
  replace E2 := hide (unhide E2 h64); replace E3 := hide (unhide E3 h64); replace E4 := hide (unhide E4 h64)
  have HO1 := hide (unhide HI (i + 1) (d + 1) 1 W1 v ns (by omega) (by omega) (by omega) h64 (by omega) (by omega) hr)
  rw [show ((1 : Nat) : Int) = 1 from rfl] at HO1
  clear hr hak E1 H
  go_wp2_with fail
  refine (unhide HO1).mono ?_
  rintro e W2 (⟨hev, rfl, hb⟩ | ⟨e1, i1, v1, hev, rfl, h1, h2, h3, hr, hak⟩)
  case inl => exact ⟨rfl, .inl ⟨unhide E2 hev, rfl, hb⟩⟩
  replace HA := hide ((unhide HA).trans hak)
  have H2 := hide hr
  replace E3 := hide (unhide E3 e1 i1 hev); replace E4 := hide (fun e2 i2 => unhide E4 e1 i1 e2 i2 hev)
  clear hr hak hev HO1 H1 E2
  go_wp2_with fail
  refine (operandsOf_any _ _).mono ?_
  rintro e w3 ⟨rfl, rfl⟩
  rw [unhide HOn]
  have hNw : (N : Int) + 1 - 1 = (N : Int) := by omega
  go_wp2_with fail
  go_loopw [14] (fun mv wr => ∃ (m i2 : Nat) (v2 : Value) (acc : List Nx), m ≤ N ∧ mv = .int .i64 (m : Nat) ∧ (∀ x, Evx tkX 64 (.ar (N - m) acc) (d + 1) (l.drop i2) x → Evx tkX 64 (.ar N e1) (d + 1) (l.drop i1) x) ∧ i1 ≤ i2 ∧ i2 ≤ l.length ∧ i + 1 + acc.length ≤ i2 ∧ Rdr w0 a c l wr i2 (d + 1) v2 (ns ++ acc) ∧ AddK w0.heap.size w2 wr v v2) (fun mv _ => N - (intOf mv).toNat)
  case atStart => exact ⟨0, i1, v1, e1, Nat.zero_le _, rfl, fun x hx => hx, Nat.le_refl _, h2, h3, unhide H2, unhide HA⟩
  case round =>
    clear H2 HA
    obtain ⟨m, i2, v2, acc, hm, rfl, hx, hi12, hi2l, hacc, hr, hak⟩ := hrel
    have HX := hide hx; have H2 := hide hr; have HA := hide hak
    clear hx hr hak
    by_cases hlt : m < N
    · have hlt' : (m : Int) < (N : Int) := by omega
      obtain ⟨q, hq⟩ : ∃ q, N - m = q + 1 := ⟨N - m - 1, by omega⟩
      rw [hq] at HX
      have HN1 : Hid (N - (m + 1) = q) := hide (by omega)
      have hlenA : (ns ++ acc).length ≤ i2 := by rw [List.length_append]; omega
      clear hq
      go_wp2_with fail
      refine (need_any ⟨#[44]⟩ (by omega) (unhide HCc) (unhide H2)).mono ?_
      rintro e W3 (⟨hC, rfl, hr, hak⟩ | ⟨hC, rfl, hb⟩)
      case inr => exact ⟨rfl, .inl ⟨unhide E3 (unhide HX _ (ar_end_none hC)), rfl, hb⟩⟩
      have hi2 : i2 < l.length := pk_in (by rw [hC]; exact ne_empty)
      replace HA := hide ((unhide HA).trans hak)
      have HO1 := hide (unhide HI (i2 + 1) (d + 1) 1 W3 v2 (ns ++ acc) (by omega) (by omega) (by omega) h64 (by omega) (by omega) hr)
      rw [show ((1 : Nat) : Int) = 1 from rfl] at HO1
      have HDc : Hid (l.drop i2 = pk l i2 :: l.drop (i2 + 1)) := hide (pk_cons hi2)
      have HCt : Hid (tkX.C (pk l i2) = true) := hide (decide_eq_true hC)
      clear hC hr hak
      go_wp2_with fail
      refine (unhide HO1).mono ?_
      rintro e W4 (⟨hev, rfl, hb⟩ | ⟨e2, i3, v3, hev, rfl, k1, k2, k3, hr, hak⟩)
      case inl => exact ⟨rfl, .inl ⟨unhide E3 (unhide HX _ (by rw [unhide HDc]; exact ev_ar_none (unhide HCt) hev)), rfl, hb⟩⟩
      replace HA := hide ((unhide HA).trans hak)
      rw [List.append_assoc] at hr
      have H4 := hide hr
      have HX2 : Hid (∀ x, Evx tkX 64 (.ar q (acc ++ e2)) (d + 1) (l.drop i3) x → Evx tkX 64 (.ar N e1) (d + 1) (l.drop i1) x) := hide fun x hx => unhide HX x (by rw [unhide HDc]; exact ev_ar (unhide HCt) hev hx)
      have HLe : Hid (i + 1 + (acc ++ e2).length ≤ i3) := hide (by rw [List.length_append]; omega)
      clear hr hak hev HO1
      go_wp2_with fail
      go_roundw
      case rel => exact ⟨m + 1, i3, v3, acc ++ e2, by omega, by go_num, by rw [unhide HN1]; exact unhide HX2, by omega, k2, unhide HLe, unhide H4, unhide HA⟩
      case measure => simp [intOf]; omega
    · obtain rfl : m = N := by omega
      have hlt' : ¬ (m : Int) < (m : Int) := by omega
      rw [Nat.sub_self] at HX
      have HE4 := hide (unhide E4 acc i2 (unhide HX _ ev_ar_zero))
      have hlenA : (ns ++ acc).length ≤ 1048576 := by rw [List.length_append]; omega
      clear E3 E4 HX
      go_wp2_with fail
      refine (close_any (by omega) hd (unhide HCc) (unhide H2)).mono ?_
      rintro e W3 (⟨hC, rfl, hr, hak⟩ | ⟨hC, rfl, hb⟩)
      case inr => exact ⟨rfl, .inl ⟨(unhide HE4).1 hC, rfl, hb⟩⟩
      have hi2 : i2 < l.length := pk_in (by rw [hC]; exact ne_empty)
      replace HA := hide ((unhide HA).trans hak)
      have HE := hide ((unhide HE4).2 hC)
      have HAd := hide (add_any (opNd op) hlenA hr)
      clear hC hr hak
      unfold nv opNd at HAd
      go_wp2_with fail
      refine (unhide HAd).mono ?_
      rintro e W5 ⟨rfl, v5, hr, hak⟩
      rw [List.append_assoc] at hr
      have H5 := hide hr
      replace HA := hide ((unhide HA).trans hak)
      clear hr hak
      go_wp2_with fail
      go_end0
      exact .inr ⟨_, i2 + 1, v5, unhide HE, rfl, by omega, by omega, by simp only [List.length_append, List.length_cons, List.length_nil]; omega, unhide H5, unhide HA⟩
end Go.Proofs.YtjgngbmkpiihgaaGreatDoor

/- The program's reader of tokens: atoms, operations. -/
namespace Go.Proofs.YtjgngbmkpiihgaaGreatDoor
open Go Go.RowKit

set_option maxRecDepth 100000 in
set_option maxHeartbeats 8000000 in
theorem atom_of {w0 : World} {a : Option Addr} {c : Nat} {l : List ByteArray} {w : World} {i d : Nat} {v : Value} {ns : List Nx} (hc : RC w0 a l) (hd : d ≤ 64) (hi : i ≤ l.length) (hn : ns.length ≤ i) (h : Rdr w0 a c l w i d v ns) (hI : Opers w0 a c l (9 * (l.length - i))) :
    Calls Tryz.prog 139 #[.pointer (some ⟨w0.heap.size, 0, none⟩)] w (RdO w0 a c l .atm w i d v ns) := by
  have hl := hc.len
  have hz := hc.pz i
  have HCc := hide hc; have HI := hide hI; have H := hide h
  have HP := hide (peek_any hc h)
  clear hc hI h
  obtain ⟨t, ht⟩ : ∃ t, pk l i = t := ⟨_, rfl⟩
  have HT := hide ht
  rw [ht] at HP hz
  clear ht
  have he := eqT t ⟨#[40]⟩
  rw [show (⟨#[40]⟩ : ByteArray).toList = [40] by rw [ByteArray.toList_eq]] at he
  by_cases hq : t = ⟨#[40]⟩
  case pos =>
    have hlt : i < l.length := pk_in (by rw [unhide HT, hq]; exact ne_empty)
    have HD : Hid (l.drop i = t :: l.drop (i + 1)) := hide (by rw [pk_cons hlt, unhide HT])
    have HLt : Hid (tkX.L t = true) := hide (decide_eq_true hq)
    have HQ : Hid (pk l i = ⟨#[40]⟩) := hide (by rw [unhide HT, hq])
    rw [decide_eq_true hq] at he
    clear hq
    go_enter Tryz.func139, Tryz.ntmps139
    go_wp2_with fail
    refine (unhide HP).mono ?_
    rintro e W1 ⟨rfl, hb⟩
    replace H := hide ((unhide H).mono hb)
    have HA := hide (AddK.of_below (R := w0.heap.size) v hb)
    clear hb HP
    go_wp2_with fail
    refine (open_any (by omega) hd (unhide HCc) (unhide H)).mono ?_
    rintro e W2 (⟨-, h64, rfl, hr, hak⟩ | ⟨hno, rfl, hb⟩)
    case inr => exact ⟨rfl, .inl ⟨by rw [unhide HD]; exact ev_par_deep (unhide HLt) (fun hx => hno ⟨unhide HQ, hx⟩), rfl, hb⟩⟩
    replace HA := hide ((unhide HA).trans hak)
    have HO1 := hide (unhide HI (i + 1) (d + 1) 1 W2 v ns (by omega) (by omega) (by omega) h64 (by omega) (by omega) hr)
    rw [show ((1 : Nat) : Int) = 1 from rfl] at HO1
    clear hr hak H
    go_wp2_with fail
    refine (unhide HO1).mono ?_
    rintro e W3 (⟨hev, rfl, hb⟩ | ⟨e1, i1, v1, hev, rfl, h1, h2, h3, hr, hak⟩)
    case inl => exact ⟨rfl, .inl ⟨by rw [unhide HD]; exact ev_par_none (unhide HLt) h64 hev, rfl, hb⟩⟩
    replace HA := hide ((unhide HA).trans hak)
    have H3 := hide hr; have HEv := hide hev
    clear hr hak hev HO1
    go_wp2_with fail
    refine (close_any (by omega) hd (unhide HCc) (unhide H3)).mono ?_
    rintro e W4 (⟨hC, rfl, hr, hak⟩ | ⟨hC, rfl, hb⟩)
    case inr =>
      refine ⟨rfl, .inl ⟨?_, rfl, hb⟩⟩
      rw [unhide HD]
      have hev := unhide HEv
      by_cases hi1 : i1 < l.length
      · rw [pk_cons hi1] at hev
        have := ev_par (unhide HLt) h64 hev
        rw [if_neg (by show ¬ decide (pk l i1 = ⟨#[41]⟩) = true; rw [decide_eq_false hC]; decide)] at this
        exact this
      · rw [List.drop_of_length_le (show l.length ≤ i1 by omega)] at hev
        exact ev_par_end (unhide HLt) h64 hev
    have hi1 : i1 < l.length := pk_in (by rw [hC]; exact ne_empty)
    replace HA := hide ((unhide HA).trans hak)
    have H4 := hide hr
    have HE : Hid (Evx tkX 64 .atm d (l.drop i) (some (e1, l.drop (i1 + 1)))) := hide (by
      have hev := unhide HEv
      rw [pk_cons hi1] at hev
      have := ev_par (unhide HLt) h64 hev
      rw [if_pos (by show decide (pk l i1 = ⟨#[41]⟩) = true; exact decide_eq_true hC)] at this
      rw [unhide HD]; exact this)
    clear hC hr hak
    go_wp2_with fail
    go_end0
    exact .inr ⟨e1, i1 + 1, v1, unhide HE, rfl, by omega, by omega, by omega, unhide H4, unhide HA⟩
  have HLt : Hid (tkX.L t = false) := hide (decide_eq_false hq)
  rw [decide_eq_false hq] at he
  clear hq
  have HG := hide (fun w => isGoodName_any t w (by omega))
  go_enter Tryz.func139, Tryz.ntmps139
  go_wp2_with fail
  refine (unhide HP).mono ?_
  rintro e W1 ⟨rfl, hb⟩
  replace H := hide ((unhide H).mono hb)
  have HA := hide (AddK.of_below (R := w0.heap.size) v hb)
  clear hb HP
  have HTk := hide (take_any (show i ≤ 2000000 by omega) (unhide HCc) (unhide H))
  rw [unhide HT] at HTk
  go_wp2_with fail
  refine (unhide HTk).mono ?_
  rintro e W2 ⟨rfl, hr, hak⟩
  replace HA := hide ((unhide HA).trans hak)
  have H2 := hide hr
  clear hr hak H HTk he
  cases hg : goodN t
  case false =>
    rw [hg] at HG
    have HGf := hide hg
    clear hg
    go_wp2_with fail
    refine (unhide HG _).mono ?_
    rintro e w3 ⟨rfl, rfl⟩
    obtain ⟨kd, nm, tx, ok, hrv⟩ : ∃ kd nm tx ok, rv t = (kd, nm, tx, ok) := ⟨_, _, _, _, rfl⟩
    have hb2 := (unhide H2).bel
    have HRd := hide (implRead_any t w3 hz ((unhide HCc).pw.mono hb2) ((unhide HCc).e1.mono hb2) ((unhide HCc).e2.mono hb2) kd nm tx ok hrv)
    have HRv := hide hrv
    clear hb2 hrv
    go_wp2_with fail
    refine (unhide HRd).mono ?_
    rintro e W4 ⟨rfl, hb⟩
    replace H2 := hide ((unhide H2).mono hb); replace HA := hide ((unhide HA).trans (AddK.of_below v hb))
    clear hb HRd
    have HBx := hide ((Below.refl W4.heap.size W4).alloc (Nat.le_refl _) (.cells #[.int .i64 kd, .int .i64 nm, .string tx] 39))
    have HKx := hide (Blk.new W4 39 #[.int .i64 kd, .int .i64 nm, .string tx])
    obtain ⟨W5, hW5⟩ : ∃ W5, W4.alloc (.cells #[.int .i64 kd, .int .i64 nm, .string tx] 39) = W5 := ⟨_, rfl⟩
    rw [hW5] at HBx HKx
    replace H2 := hide ((unhide H2).mono (unhide HBx)); replace HA := hide ((unhide HA).trans (AddK.of_below v (unhide HBx)))
    have x0 := (unhide HKx).cell 0; have x1 := (unhide HKx).cell 1; have x2 := (unhide HKx).cell 2
    simp only [List.getElem?_cons_zero, List.getElem?_cons_succ] at x0 x1 x2
    cases ok
    · have HE : Hid (Evx tkX 64 .atm d (l.drop i) none) := hide (by
        by_cases hlt : i < l.length
        · rw [pk_cons hlt, unhide HT]
          exact ev_no (unhide HLt) (tkK_none (unhide HGf) (by rw [unhide HRv]))
        · rw [List.drop_of_length_le (by omega)]; exact ev_at_nil)
      have HBe := hide (unhide H2).bel
      go_wp2_with fail
      try rw [hW5]
      refine (ask_no _ _).mono ?_
      rintro e w6 ⟨rfl, rfl⟩
      exact ⟨rfl, .inl ⟨unhide HE, rfl, unhide HBe⟩⟩
    · have hlt : i < l.length := Decidable.byContradiction fun hc => by
        have h1 := unhide HT
        rw [pk_ge hc] at h1
        have h2 := rd_empty
        rw [h1, unhide HRv] at h2
        cases h2
      have HE : Hid (Evx tkX 64 .atm d (l.drop i) (some ([⟨0, ⟨kd, nm, tx⟩, ⟨#[]⟩⟩], l.drop (i + 1)))) := hide (by
        rw [pk_cons hlt, unhide HT]
        refine ev_one (unhide HLt) ?_ (.inl (unhide HGf))
        show tkK t = _
        unfold tkK cstNd
        rw [unhide HGf, unhide HRv]
        rfl)
      have HAd := hide (add_any (⟨0, ⟨kd, nm, tx⟩, ⟨#[]⟩⟩ : Nx) (by omega) (unhide H2))
      unfold nv at HAd
      go_wp2_with fail
      try rw [hW5]
      refine (ask_yes _ _).mono ?_
      rintro e w6 ⟨rfl, rfl⟩
      clear hW5
      go_wp2_with fail
      refine (unhide HAd).mono ?_
      rintro e W7 ⟨rfl, v7, hr, hak⟩
      have H7 := hide hr
      replace HA := hide ((unhide HA).trans hak)
      clear hr hak x0 x1 x2
      go_wp2_with fail
      go_end0
      exact .inr ⟨_, i + 1, v7, unhide HE, rfl, by omega, by omega, by simp, unhide H7, unhide HA⟩
  have hlt : i < l.length := Decidable.byContradiction fun hc => by
    have h1 := unhide HT
    rw [pk_ge hc] at h1
    rw [← h1, good_empty] at hg
    cases hg
  have HD : Hid (l.drop i = t :: l.drop (i + 1)) := hide (by rw [pk_cons hlt, unhide HT])
  rw [hg] at HG
  have HGt := hide hg
  have HP2 := hide (peek_any (unhide HCc) (unhide H2))
  obtain ⟨u, hu⟩ : ∃ u, pk l (i + 1) = u := ⟨_, rfl⟩
  have HUe := hide hu
  rw [hu] at HP2
  clear hg hu
  have he := eqT u ⟨#[40]⟩
  rw [show (⟨#[40]⟩ : ByteArray).toList = [40] by rw [ByteArray.toList_eq]] at he
  go_wp2_with fail
  refine (unhide HG _).mono ?_
  rintro e w3 ⟨rfl, rfl⟩
  go_wp2_with fail
  refine (unhide HP2).mono ?_
  rintro e W4 ⟨rfl, hb⟩
  replace H2 := hide ((unhide H2).mono hb); replace HA := hide ((unhide HA).trans (AddK.of_below v hb))
  clear hb HP2
  by_cases hq : u = ⟨#[40]⟩
  case pos =>
    have HQ : Hid (pk l (i + 1) = ⟨#[40]⟩) := hide (by rw [unhide HUe, hq])
    have hlt2 : i + 1 < l.length := pk_in (by rw [unhide HQ]; exact ne_empty)
    rw [decide_eq_true hq] at he
    have HFw := hide (functionWritten_any t W4 ((unhide HCc).wr.mono (unhide H2).bel))
    obtain ⟨op, hop⟩ : ∃ op, opW t 16 10 = op := ⟨_, rfl⟩
    rw [hop] at HFw
    have HCl := hide (call_of op (unhide HCc) hd hlt2 (unhide HQ) (by omega) (unhide H2) (fun j d' lv w' v' ns' hm => unhide HI j d' lv w' v' ns' (by omega)) t (unhide HGt) (by rw [f_of (unhide HGt), hop]))
    clear hq hop
    go_wp2_with fail
    refine (unhide HFw).mono ?_
    rintro e w5 ⟨rfl, rfl⟩
    go_wp2_with fail
    refine (unhide HCl).mono ?_
    rintro e W6 (⟨hev, rfl, hb⟩ | ⟨en, i', v', hev, rfl, k1, k2, k3, hr, hak⟩)
    case inl => exact ⟨rfl, .inl ⟨by rw [unhide HD]; exact hev, rfl, hb⟩⟩
    have H6 := hide hr; have HE := hide hev
    replace HA := hide ((unhide HA).trans hak)
    clear hr hak hev
    go_wp2_with fail
    go_end0
    exact .inr ⟨en, i', v', by rw [unhide HD]; exact unhide HE, rfl, by omega, k2, by omega, unhide H6, unhide HA⟩
  rw [decide_eq_false hq] at he
  have HE : Hid (Evx tkX 64 .atm d (l.drop i) (some ([fldNd t], l.drop (i + 1)))) := hide (by
    rw [unhide HD]
    refine ev_one (unhide HLt) (k_good (unhide HGt)).1 (.inr fun y s e => ?_)
    by_cases hi1 : i + 1 < l.length
    · rw [pk_cons hi1, unhide HUe] at e
      cases e
      exact decide_eq_false hq
    · rw [List.drop_of_length_le (by omega)] at e
      cases e)
  have HAd := hide (add_any (fldNd t) (by omega) (unhide H2))
  unfold nv fldNd blankX at HAd
  clear hq
  go_wp2_with fail
  refine (unhide HAd).mono ?_
  rintro e W7 ⟨rfl, v7, hr, hak⟩
  have H7 := hide hr
  replace HA := hide ((unhide HA).trans hak)
  clear hr hak
  go_wp2_with fail
  go_end0
  exact .inr ⟨_, i + 1, v7, unhide HE, rfl, by omega, by omega, by simp, unhide H7, unhide HA⟩
end Go.Proofs.YtjgngbmkpiihgaaGreatDoor

/- The program's reader of tokens: operations; the whole. -/
namespace Go.Proofs.YtjgngbmkpiihgaaGreatDoor
open Go Go.RowKit

theorem lv_eq (t : ByteArray) (lv : Nat) (h : lv ≤ 5) : (lvl (tkX.b t : Nat) == (lv : Int)) = decide (tkX.b t ≠ 0 ∧ tkX.lv (tkX.b t) = lv) := by
  have h7 : lvl ((0 : Nat) : Int) = 7 := by decide
  have hp : 0 ≤ lvl (tkX.b t : Nat) := by unfold lvl; repeat (first | omega | split)
  rw [Bool.eq_iff_iff, beq_iff_eq, decide_eq_true_eq]
  show _ ↔ _ ∧ (lvl (tkX.b t : Nat)).toNat = lv
  constructor
  · intro e
    refine ⟨fun e0 => ?_, by omega⟩
    rw [e0] at e
    omega
  · rintro ⟨-, h2⟩
    omega
theorem lp_stop_of {l : List ByteArray} {i lv d : Nat} {acc : List Nx} (h : ¬ (tkX.b (pk l i) ≠ 0 ∧ tkX.lv (tkX.b (pk l i)) = lv)) : Evx tkX 64 (.lp lv acc) d (l.drop i) (some (acc, l.drop i)) := by
  by_cases hi : i < l.length
  · rw [pk_cons hi]; exact ev_lp_stop h
  · rw [List.drop_of_length_le (by omega)]; exact ev_lp_end

set_option maxRecDepth 100000 in
set_option maxHeartbeats 8000000 in
theorem oper5 {w0 : World} {a : Option Addr} {c : Nat} {l : List ByteArray} {w : World} {i d lv : Nat} {v : Value} {ns : List Nx} (n : Nat) (hc : RC w0 a l) (hI : Opers w0 a c l n) (hm : 9 * (l.length - i) + (8 - lv) ≤ n + 1) (h1 : 1 ≤ lv) (h5 : lv ≤ 5) (hd : d ≤ 64) (hi : i ≤ l.length) (hn : ns.length ≤ i) (h : Rdr w0 a c l w i d v ns) :
    Calls Tryz.prog 98 #[.pointer (some ⟨w0.heap.size, 0, none⟩), .int .i64 (lv : Nat)] w (RdO w0 a c l (.op lv) w i d v ns) := by
  have hl := hc.len
  obtain ⟨l1, hl1⟩ : ∃ x, lv + 1 = x := ⟨_, rfl⟩
  have hl1' := i_one hl1
  have h6 : ((lv : Int) == 6) = false := beq_eq_false_iff_ne.2 (by omega)
  have hlb : lv < l1 := by omega
  have hlc : l1 ≤ 6 := by omega
  have HCc := hide hc; have HI := hide hI
  have HO1 := hide (hI i d l1 w v ns (by omega) (by omega) hlc hd hi hn h)
  have HL1 : Hid (lv + 1 = l1) := hide hl1
  have HEn : Hid (Evx tkX 64 (.op l1) d (l.drop i) none → Evx tkX 64 (.op lv) d (l.drop i) none) := hide fun hx => ev_op_none (by omega) (by rw [hl1]; exact hx)
  have HEs : Hid (∀ e r x, Evx tkX 64 (.op l1) d (l.drop i) (some (e, r)) → Evx tkX 64 (.lp lv e) d r x → Evx tkX 64 (.op lv) d (l.drop i) x) := hide fun e r x hx hy => ev_op (by omega) (by rw [hl1]; exact hx) hy
  clear hc hI h hl1
  go_enter Tryz.func98, Tryz.ntmps98
  go_wp2_with fail
  refine (unhide HO1).mono ?_
  rintro e W1 (⟨hev, rfl, hb⟩ | ⟨e1, i1, v1, hev, rfl, k1, k2, k3, hr, hak⟩)
  case inl => exact ⟨rfl, .inl ⟨unhide HEn hev, rfl, hb⟩⟩
  have H := hide hr; have HA := hide hak
  have HX : Hid (∀ x, Evx tkX 64 (.lp lv e1) d (l.drop i1) x → Evx tkX 64 (.op lv) d (l.drop i) x) := hide fun x hx => unhide HEs _ _ _ hev hx
  have HP := hide (peek_any (unhide HCc) hr)
  clear hr hak hev HO1 HEn HEs
  go_wp2_with fail
  refine (unhide HP).mono ?_
  rintro e W2 ⟨rfl, hb⟩
  replace H := hide ((unhide H).mono hb); replace HA := hide ((unhide HA).trans (AddK.of_below v1 hb))
  have HBw := hide (binaryWritten_any (pk l i1) W2 ((unhide HCc).wr.mono (unhide H).bel))
  clear hb HP
  go_wp2_with fail
  refine (unhide HBw).mono ?_
  rintro e w3 ⟨rfl, rfl⟩
  clear HBw
  go_wp2_with fail
  go_loopw [4] (fun ov wr => ∃ (i2 : Nat) (v2 : Value) (acc : List Nx), ov = .int .i64 (tkX.b (pk l i2) : Nat) ∧ (∀ x, Evx tkX 64 (.lp lv acc) d (l.drop i2) x → Evx tkX 64 (.op lv) d (l.drop i) x) ∧ i ≤ i2 ∧ i2 ≤ l.length ∧ i + acc.length ≤ i2 ∧ Rdr w0 a c l wr i2 d v2 (ns ++ acc) ∧ AddK w0.heap.size w wr v v2) (fun _ wr => l.length - atOf wr w0.heap.size)
  case atStart => exact ⟨i1, v1, e1, rfl, unhide HX, k1, k2, k3, unhide H, unhide HA⟩
  case round =>
    clear HX H HA
    obtain ⟨i2, v2, acc, rfl, hx, hi2, hi2l, hacc, hr, hak⟩ := hrel
    have HX := hide hx; have H := hide hr; have HA := hide hak
    have HM : Hid (atOf wr w0.heap.size = i2) := hide hr.at'
    clear hx hr hak
    obtain ⟨t, ht⟩ : ∃ t, pk l i2 = t := ⟨_, rfl⟩
    have HT := hide ht
    have hlv := lv_eq t lv h5
    have HTk := hide (take_any (show i2 ≤ 2000000 by omega) (unhide HCc) (unhide H))
    rw [ht] at HTk ⊢
    clear ht
    by_cases hq : tkX.b t ≠ 0 ∧ tkX.lv (tkX.b t) = lv
    case neg =>
      rw [decide_eq_false hq] at hlv
      have HE := hide (unhide HX _ (lp_stop_of (by rw [unhide HT]; exact hq)))
      clear hq
      go_wp2_with fail
      refine (levelOf_any _ _).mono ?_
      rintro e w4 ⟨rfl, rfl⟩
      go_wp2_with fail
      go_end0
      exact .inr ⟨acc, i2, v2, unhide HE, rfl, hi2, hi2l, hacc, unhide H, unhide HA⟩
    rw [decide_eq_true hq] at hlv
    have hlt : i2 < l.length := Decidable.byContradiction fun hc => by
      have h9 := unhide HT
      rw [pk_ge hc] at h9
      rw [← h9] at hq
      exact hq.1 b_nil
    have HD : Hid (l.drop i2 = t :: l.drop (i2 + 1)) := hide (by rw [pk_cons hlt, unhide HT])
    have HQ := hide hq
    have hlenA : (ns ++ acc).length ≤ i2 := by rw [List.length_append]; omega
    clear hq
    go_wp2_with fail
    refine (levelOf_any _ _).mono ?_
    rintro e w4 ⟨rfl, rfl⟩
    go_wp2_with fail
    refine (unhide HTk).mono ?_
    rintro e W5 ⟨rfl, hr, hak⟩
    replace HA := hide ((unhide HA).trans hak)
    have HO2 := hide (unhide HI (i2 + 1) d l1 W5 v2 (ns ++ acc) (by omega) (by omega) hlc hd (by omega) (by omega) hr)
    clear hr hak HTk H
    go_wp2_with fail
    refine (unhide HO2).mono ?_
    rintro e W6 (⟨hev, rfl, hb⟩ | ⟨e2, i3, v3, hev, rfl, m1, m2, m3, hr, hak⟩)
    case inl => exact ⟨rfl, .inl ⟨unhide HX _ (by rw [unhide HD]; exact ev_lp_none (unhide HQ).1 (unhide HQ).2 (by rw [unhide HL1]; exact hev)), rfl, hb⟩⟩
    replace HA := hide ((unhide HA).trans hak)
    have hlenB : (ns ++ acc ++ e2).length ≤ 1048576 := by rw [List.length_append]; omega
    have HAd := hide (add_any (opNd (tkX.b t)) hlenB hr)
    unfold nv opNd blankX at HAd
    have HEv := hide hev
    clear hr hak hev HO2
    go_wp2_with fail
    refine (unhide HAd).mono ?_
    rintro e W7 ⟨rfl, v7, hr, hak⟩
    replace HA := hide ((unhide HA).trans hak)
    rw [show ns ++ acc ++ e2 ++ [(⟨((tkX.b t : Nat) : Int), ⟨0, 0, ⟨#[]⟩⟩, ⟨#[]⟩⟩ : Nx)] = ns ++ (acc ++ e2 ++ [opNd (tkX.b t)]) by simp [opNd, blankX]] at hr
    have H7 := hide hr
    have HM7 : Hid (atOf W7 w0.heap.size = i3) := hide hr.at'
    have HLe : Hid (i + (acc ++ e2 ++ [opNd (tkX.b t)]).length ≤ i3) := hide (by simp only [List.length_append, List.length_cons, List.length_nil]; omega)
    clear hr hak HAd
    by_cases h3 : lv = 3
    case pos =>
      have h3' : ((lv : Int) == 3) = true := by simp [h3]
      have HE : Hid (Evx tkX 64 (.op lv) d (l.drop i) (some (acc ++ e2 ++ [opNd (tkX.b t)], l.drop i3))) := hide (unhide HX _ (by
        rw [unhide HD]
        have hq := unhide HQ
        have hv := unhide HEv
        have h1 := unhide HL1
        subst h3
        subst h1
        exact ev_lp_cmp hq.1 hq.2 hv))
      clear h3
      go_wp2_with fail
      go_end0
      exact .inr ⟨_, i3, v7, unhide HE, rfl, by omega, m2, unhide HLe, unhide H7, unhide HA⟩
    have h3' : ((lv : Int) == 3) = false := beq_eq_false_iff_ne.2 (by omega)
    have HX2 : Hid (∀ x, Evx tkX 64 (.lp lv (acc ++ e2 ++ [opNd (tkX.b t)])) d (l.drop i3) x → Evx tkX 64 (.op lv) d (l.drop i) x) := hide fun x hx => unhide HX _ (by
      rw [unhide HD]
      exact ev_lp_go (unhide HQ).1 (unhide HQ).2 h3 (by rw [unhide HL1]; exact unhide HEv) hx)
    have HP7 := hide (peek_any (unhide HCc) (unhide H7))
    clear h3
    go_wp2_with fail
    refine (unhide HP7).mono ?_
    rintro e W8 ⟨rfl, hb⟩
    replace H7 := hide ((unhide H7).mono hb); replace HA := hide ((unhide HA).trans (AddK.of_below v7 hb))
    have HM8 : Hid (atOf W8 w0.heap.size = i3) := hide (unhide H7).at'
    have HB8 := hide (binaryWritten_any (pk l i3) W8 ((unhide HCc).wr.mono (unhide H7).bel))
    clear hb HP7
    go_wp2_with fail
    refine (unhide HB8).mono ?_
    rintro e w9 ⟨rfl, rfl⟩
    clear HB8
    go_wp2_with fail
    go_roundw
    case rel => exact ⟨i3, v7, _, rfl, unhide HX2, by omega, m2, unhide HLe, unhide H7, unhide HA⟩
    case measure => rw [unhide HM8, unhide HM]; omega
set_option maxRecDepth 100000 in
theorem oper6 {w0 : World} {a : Option Addr} {c : Nat} {l : List ByteArray} {w : World} {i d : Nat} {v : Value} {ns : List Nx} (n : Nat) (hc : RC w0 a l) (hcl : l.length ≤ c) (hI : Opers w0 a c l n) (hm : 9 * (l.length - i) + 2 ≤ n + 1) (hd : d ≤ 64) (hi : i ≤ l.length) (hn : ns.length ≤ i) (h : Rdr w0 a c l w i d v ns) :
    Calls Tryz.prog 98 #[.pointer (some ⟨w0.heap.size, 0, none⟩), .int .i64 6] w (RdO w0 a c l (.op 6) w i d v ns) := by
  have HS := hide (signed_of hc hcl hi hn h (fun k w' h1 h2 h3 => atom_of hc hd h2 (by omega) h3 (fun i' d' lv w'' v' ns' hm' => hI i' d' lv w'' v' ns' (by omega))))
  clear hc hI h
  go_enter Tryz.func98, Tryz.ntmps98
  go_wp2_with fail
  refine (unhide HS).mono ?_
  rintro e W1 (⟨hev, rfl, hb⟩ | ⟨en, i', v', hev, rfl, k1, k2, k3, hr, hak⟩)
  · exact ⟨rfl, .inl ⟨hev, rfl, hb⟩⟩
  · have HE := hide hev; have H := hide hr; have HA := hide hak
    clear hev hr hak
    go_wp2_with fail
    go_end0
    exact .inr ⟨en, i', v', unhide HE, rfl, k1, k2, k3, unhide H, unhide HA⟩
theorem opers_all {w0 : World} {a : Option Addr} {c : Nat} {l : List ByteArray} (hc : RC w0 a l) (hcl : l.length ≤ c) : ∀ n, Opers w0 a c l n
  | 0 => fun i d lv w v ns hm h1 h6 => by omega
  | n + 1 => fun i d lv w v ns hm h1 h6 hd hi hn h => by
    by_cases h5 : lv ≤ 5
    · exact oper5 n hc (opers_all hc hcl n) hm h1 h5 hd hi hn h
    · obtain rfl : lv = 6 := by omega
      exact oper6 n hc hcl (opers_all hc hcl n) (by omega) hd hi hn h
end Go.Proofs.YtjgngbmkpiihgaaGreatDoor
