import Derived.Test.YtjgngbmkpiihgaaGreatDoorGTb
import Derived.Test.YtjgngbmkpiihgaaGreatDoorINum
/- Cutting a text into tokens, of the model. -/
namespace Go.Proofs.YtjgngbmkpiihgaaGreatDoor
open Go Go.RowKit

set_option maxRecDepth 100000 in
set_option maxHeartbeats 16000000 in
theorem l3Lex_any (s : ByteArray) (w : World) (hs : s.size ≤ 1048576) :
    Calls Tryz.prog 37 #[.string s] w fun r w' => ∃ v z, r = .returned (.tuple #[v, .int .i64 z]) ∧ LexA s w' w.heap.size v z ∧ Below w.heap.size w w' := by
  have HB0 := hide ((Below.refl w.heap.size w).alloc (Nat.le_refl _) (.cells #[] 89))
  have HO0 := hide (OwnT.none w)
  obtain ⟨W0, hW0⟩ : ∃ W0, w.alloc (.cells #[] 89) = W0 := ⟨_, rfl⟩
  rw [hW0] at HB0 HO0
  go_enter Tryz.func37, Tryz.ntmps37
  go_wp2_with fail
  try rw [hW0]
  clear hW0
  go_loopw [4, 5] (fun v i wr => ∃ (k : Nat) (l : List (ByteArray × Nat)), i = .int .i64 k ∧ LxI s k l ∧ OwnT wr w.heap.size v l ∧ Below w.heap.size w wr) (fun _ i _ => s.size - (intOf i).toNat)
  case atStart => exact ⟨0, [], rfl, ⟨Nat.zero_le _, Nat.zero_le _, LxAt.start s, fun t ht => by simp at ht⟩, unhide HO0, unhide HB0⟩
  case round =>
    clear HO0 HB0
    obtain ⟨k, l, rfl, hi, ho, hb⟩ := hrel
    have HI := hide hi; have HO := hide ho; have HB := hide hb
    have HLn : Hid (l.length ≤ 1048576) := hide (by have := hi.hn; have := hi.hk; omega)
    clear hi ho hb
    by_cases hlt : k < s.size
    case neg =>
      have hlt' : ¬ (k : Int) < s.size := by omega
      have HX := hide ((unhide HI).done hlt (unhide HO))
      go_wp2_with fail
      go_ret2
      exact ⟨_, _, rfl, unhide HX, unhide HB⟩
    have hlt' : (k : Int) < s.size := by omega
    obtain ⟨c, hc⟩ : ∃ c, bt s k = c := ⟨_, rfl⟩
    have hck : (s[k]).toNat = c := by rw [← hc, bt_lt hlt]
    have HSk := hide ((unhide HI).skip hlt); have HNx := hide (fun t e => (unhide HI).next (t := t) (e := e) hlt); have HBd := hide ((unhide HI).bad hlt)
    have HW := hide (tk_word (n := runN nameB s k) hlt); have HD := hide (tk_num (n := runN digitB s k) hlt); have HQ := hide (tk_txt (s := s) (i := k) (n := runN tb s (k + 1))); have HY := hide (tk_sym hlt)
    rw [hc] at HSk HNx HBd HW HD HQ HY
    by_cases h32 : c = 32
    · have h32' : ((c : Int) == 32) = true := by simp [h32]
      have HX := hide (unhide HSk (by subst h32; rfl))
      go_wp2_with fail
      go_roundw
      case rel => exact ⟨k + 1, l, by go_num, unhide HX, unhide HO, unhide HB⟩
      case measure => simp [intOf]; first | exact Nat.sub_lt_sub_left hlt hke | omega
    have h32' : ((c : Int) == 32) = false := beq_eq_false_iff_ne.2 (by omega)
    by_cases h10 : c = 10
    · have h10' : ((c : Int) == 10) = true := by simp [h10]
      have HX := hide (unhide HSk (by subst h10; rfl))
      go_wp2_with fail
      go_roundw
      case rel => exact ⟨k + 1, l, by go_num, unhide HX, unhide HO, unhide HB⟩
      case measure => simp [intOf]; first | exact Nat.sub_lt_sub_left hlt hke | omega
    have h10' : ((c : Int) == 10) = false := beq_eq_false_iff_ne.2 (by omega)
    have hws : wsB c = false := by unfold wsB; simp; omega
    replace HNx := hide (fun t e => unhide HNx t e hws); replace HBd := hide (unhide HBd hws)
    clear HSk h32 h10 hws HI hc
    cases h1 : small c
    case true =>
      obtain ⟨n, hn⟩ : ∃ n, runN nameB s k = n := ⟨_, rfl⟩
      rw [hn] at HW
      obtain ⟨w1, w2, w3, w4⟩ := unhide HW h1 rfl
      clear HW HD HQ HY
      by_cases h16 : n ≤ 16
      · have h16' : ¬ (16 : Int) < n := by omega
        rw [if_pos h16] at w4
        obtain ⟨e, he⟩ : ∃ e, k + n = e := ⟨_, rfl⟩
        rw [he] at w2 w3 w4
        obtain ⟨t, ht⟩ : ∃ t, s.extract k e = t := ⟨_, rfl⟩
        rw [ht] at w3 w4
        have hw1 := i_add he
        have hsub := run_sub s (show k ≤ e by omega) w2
        rw [ht] at hsub
        have HX := hide (unhide HNx t e w4); have HC : Hid (cls t = 1) := hide w3; have HTx : Hid (txt t = t) := hide (txt_eq (by omega))
        have hke : k < e := by omega
        clear HNx HBd w4 w3 ht he
        have HN : Hid (Blk _ _ 89 (tC (t, k))) := hide (Blk.new wr 89 (tC (t, k)).toArray)
        have HS := hide ((Below.refl wr.heap.size wr).alloc (Nat.le_refl _) (.cells (tC (t, k)).toArray 89))
        unfold tC at HN HS
        dsimp only at HN HS
        rw [unhide HC, unhide HTx] at HN HS
        go_wp2_with (first | (go_at_call 64; refine (l3Small_any _ _).mono ?_; rintro e w' ⟨rfl, rfl⟩; rw [h1]) | (go_at_call 65; refine (l3NameLen_any s k _ (by omega) (by omega)).mono ?_; rintro e w' ⟨rfl, rfl⟩; rw [hn]) | (at_builtin; refine append_tok (n := (t, k)) rfl _ _ rfl rfl ((unhide HO).keep (unhide HS)) rfl (by unfold tC; dsimp only; rw [unhide HC, unhide HTx]; exact unhide HN) (by have := unhide HLn; omega) (Nat.le_trans (unhide HB).size (unhide HS).size) ?_))
        intro v' W9 ho hb9
        have HO9 := hide ho
        have HB9 := hide ((unhide HB).trans (((unhide HS).mono (unhide HB).size).trans hb9))
        clear ho hb9
        go_wp2_with fail
        go_roundw
        case rel => first | exact ⟨e, _, rfl, unhide HX, unhide HO9, unhide HB9⟩ | ((repeat apply Exists.intro); exact ⟨⟨e, _, rfl, unhide HX, unhide HO9, unhide HB9⟩, rfl⟩)
        case measure => simp [intOf]; exact Nat.sub_lt_sub_left hlt hke
      · have h16' : (16 : Int) < n := by omega
        rw [if_neg h16] at w4
        have hno := w4
        have HBad := hide (unhide HBd hno)
        go_wp2_with (first | (go_at_call 64; refine (l3Small_any _ _).mono ?_; rintro e w' ⟨rfl, rfl⟩; rw [h1]) | (go_at_call 65; refine (l3NameLen_any s k _ (by omega) (by omega)).mono ?_; rintro e w' ⟨rfl, rfl⟩; rw [hn]))
        go_ret2
        exact ⟨_, _, rfl, unhide HBad _ _ _, unhide HB⟩
    cases h2 : digitB c
    case true =>
      obtain ⟨n, hn⟩ : ∃ n, runN digitB s k = n := ⟨_, rfl⟩
      rw [hn] at HD
      obtain ⟨w1, w2, w3, w4⟩ := unhide HD h2 rfl
      clear HW HD HQ HY
      obtain ⟨e, he⟩ : ∃ e, k + n = e := ⟨_, rfl⟩
      rw [he] at w2 w3 w4
      obtain ⟨t, ht⟩ : ∃ t, s.extract k e = t := ⟨_, rfl⟩
      rw [ht] at w3 w4
      have hw1 := i_add he
      have hsub := run_sub s (show k ≤ e by omega) w2
      have htz : t.size ≤ 9223372036854775807 := by rw [← ht]; simp; omega
      rw [ht] at hsub
      have hke : k < e := by omega
      have HC : Hid (cls t = 2) := hide w3; have HTx : Hid (txt t = t) := hide (txt_eq (by omega))
      clear w3 ht he
      cases hr : readDec t.data.toList
      case none =>
        rw [hr] at w4
        have hno : tk s k = none := w4
        have HRd := hide (fun w => l2ReadInt_any t w htz 0 false (by unfold rd; rw [hr]))
        have HBad := hide (unhide HBd hno)
        clear HNx w4
        go_wp2_with (first | (go_at_call 64; refine (l3Small_any _ _).mono ?_; rintro e w' ⟨rfl, rfl⟩; rw [h1]) | (go_at_call 66; refine (l3DigitByte_any _ _).mono ?_; rintro e w' ⟨rfl, rfl⟩; rw [h2]) | (go_at_call 67; refine (l3DigitLen_any s k _ (by omega) (by omega)).mono ?_; rintro e w' ⟨rfl, rfl⟩; rw [hn]))
        refine (unhide HRd _).mono ?_
        rintro e' W2 ⟨rfl, hb⟩
        replace HB := hide ((unhide HB).trans (hb.mono (unhide HB).size))
        clear hb
        go_wp2_with fail
        go_ret2
        exact ⟨_, _, rfl, unhide HBad _ _ _, unhide HB⟩
      case some x =>
        rw [hr] at w4
        have HRd := hide (fun w => l2ReadInt_any t w htz x true (by unfold rd; rw [hr]))
        have HX := hide (unhide HNx t e w4)
        clear HNx HBd w4
        go_wp2_with (first | (go_at_call 64; refine (l3Small_any _ _).mono ?_; rintro e w' ⟨rfl, rfl⟩; rw [h1]) | (go_at_call 66; refine (l3DigitByte_any _ _).mono ?_; rintro e w' ⟨rfl, rfl⟩; rw [h2]) | (go_at_call 67; refine (l3DigitLen_any s k _ (by omega) (by omega)).mono ?_; rintro e w' ⟨rfl, rfl⟩; rw [hn]))
        refine (unhide HRd _).mono ?_
        rintro e' W2 ⟨rfl, hb⟩
        replace HB := hide ((unhide HB).trans (hb.mono (unhide HB).size)); replace HO := hide ((unhide HO).keep hb)
        clear hb
        have HN : Hid (Blk _ _ 89 (tC (t, k))) := hide (Blk.new W2 89 (tC (t, k)).toArray)
        have HS := hide ((Below.refl W2.heap.size W2).alloc (Nat.le_refl _) (.cells (tC (t, k)).toArray 89))
        unfold tC at HN HS
        dsimp only at HN HS
        rw [unhide HC, unhide HTx] at HN HS
        go_wp2_with (first | (at_builtin; refine append_tok (n := (t, k)) rfl _ _ rfl rfl ((unhide HO).keep (unhide HS)) rfl (by unfold tC; dsimp only; rw [unhide HC, unhide HTx]; exact unhide HN) (by have := unhide HLn; omega) (Nat.le_trans (unhide HB).size (unhide HS).size) ?_))
        intro v' W9 ho hb9
        have HO9 := hide ho
        have HB9 := hide ((unhide HB).trans (((unhide HS).mono (unhide HB).size).trans hb9))
        clear ho hb9
        go_wp2_with fail
        go_roundw
        case rel => first | exact ⟨e, _, rfl, unhide HX, unhide HO9, unhide HB9⟩ | ((repeat apply Exists.intro); exact ⟨⟨e, _, rfl, unhide HX, unhide HO9, unhide HB9⟩, rfl⟩)
        case measure => simp [intOf]; exact Nat.sub_lt_sub_left hlt hke
    by_cases h3 : c = 34
    · have h3' : ((c : Int) == 34) = true := by simp [h3]
      obtain ⟨k1, hk1⟩ : ∃ k1, k + 1 = k1 := ⟨_, rfl⟩
      rw [hk1] at HQ
      obtain ⟨n, hn⟩ : ∃ n, runN tb s k1 = n := ⟨_, rfl⟩
      have hnl := runN_le tb s k1
      rw [hn] at HQ hnl
      obtain ⟨q1, q2⟩ := unhide HQ h3 rfl
      clear h3
      obtain ⟨k2, hk2⟩ : ∃ k2, k1 + n = k2 := ⟨_, rfl⟩
      rw [hk2] at q1 q2
      have wk1 := i_one hk1
      have wk2 := i_add hk2
      clear HW HD HQ HY
      by_cases hg : k2 < s.size
      case neg =>
        have hg' := i_le (Nat.le_of_not_lt hg)
        have hno := q1 (fun h => hg h.1)
        clear q1 q2
        have HBad := hide (unhide HBd hno)
        go_wp2_with (first | (go_at_call 64; refine (l3Small_any _ _).mono ?_; rintro e w' ⟨rfl, rfl⟩; rw [h1]) | (go_at_call 66; refine (l3DigitByte_any _ _).mono ?_; rintro e w' ⟨rfl, rfl⟩; rw [h2]) | (go_at_call 69; refine (l3TextLen_any s k1 _ (by omega) (by omega)).mono ?_; rintro e w' ⟨rfl, rfl⟩; rw [hn]))
        go_ret2
        exact ⟨_, _, rfl, unhide HBad _ _ _, unhide HB⟩
      have hg' := i_nle (Nat.not_le_of_lt hg)
      have hg2 := i_lt hg
      obtain ⟨d, hd⟩ : ∃ d, bt s k2 = d := ⟨_, rfl⟩
      have hdk : (s[k2]).toNat = d := by rw [← hd, bt_lt hg]
      rw [hd] at q1 q2
      by_cases hqd : d = 34
      case neg =>
        have hqd' : ((d : Int) == 34) = false := beq_eq_false_iff_ne.2 (by omega)
        have hno := q1 (fun h => hqd h.2.1)
        clear q1 q2
        have HBad := hide (unhide HBd hno)
        go_wp2_with (first | (go_at_call 64; refine (l3Small_any _ _).mono ?_; rintro e w' ⟨rfl, rfl⟩; rw [h1]) | (go_at_call 66; refine (l3DigitByte_any _ _).mono ?_; rintro e w' ⟨rfl, rfl⟩; rw [h2]) | (go_at_call 69; refine (l3TextLen_any s k1 _ (by omega) (by omega)).mono ?_; rintro e w' ⟨rfl, rfl⟩; rw [hn]))
        go_ret2
        exact ⟨_, _, rfl, unhide HBad _ _ _, unhide HB⟩
      have hqd' : ((d : Int) == 34) = true := by simp [hqd]
      by_cases hth : n ≤ 1000
      case neg =>
        have hth' : (1000 : Int) < n := by omega
        have hno := q1 (fun h => hth h.2.2)
        clear q1 q2
        have HBad := hide (unhide HBd hno)
        go_wp2_with (first | (go_at_call 64; refine (l3Small_any _ _).mono ?_; rintro e w' ⟨rfl, rfl⟩; rw [h1]) | (go_at_call 66; refine (l3DigitByte_any _ _).mono ?_; rintro e w' ⟨rfl, rfl⟩; rw [h2]) | (go_at_call 69; refine (l3TextLen_any s k1 _ (by omega) (by omega)).mono ?_; rintro e w' ⟨rfl, rfl⟩; rw [hn]))
        go_ret2
        exact ⟨_, _, rfl, unhide HBad _ _ _, unhide HB⟩
      have hth' : ¬ (1000 : Int) < n := by omega
      obtain ⟨q3, q4, q5⟩ := q2 hg hqd hth
      obtain ⟨e, he⟩ : ∃ e, k + n + 2 = e := ⟨_, rfl⟩
      rw [he] at q3 q4 q5
      obtain ⟨kn, hkn2⟩ : ∃ kn, k + n = kn := ⟨_, rfl⟩
      have hkn := i_add hkn2
      have hwe : (kn : Int) + 2 = (e : Int) := i_two (by omega)
      obtain ⟨t, ht⟩ : ∃ t, s.extract k e = t := ⟨_, rfl⟩
      obtain ⟨x, hx⟩ : ∃ x, s.extract k1 k2 = x := ⟨_, rfl⟩
      rw [ht] at q3 q4 q5
      rw [hx] at q5
      have hsub := run_sub s (show k1 ≤ k2 by omega) (show k2 ≤ s.size by omega)
      rw [hx] at hsub
      have HX := hide (unhide HNx t e q3); have HC : Hid (cls t = 3) := hide q4; have HTx : Hid (txt t = x) := hide q5
      have hke : k < e := by omega
      clear HNx HBd q1 q2 q3 q4 q5 ht he hx hkn2 hk1 hk2
      have HN : Hid (Blk _ _ 89 (tC (t, k))) := hide (Blk.new wr 89 (tC (t, k)).toArray)
      have HS := hide ((Below.refl wr.heap.size wr).alloc (Nat.le_refl _) (.cells (tC (t, k)).toArray 89))
      unfold tC at HN HS
      dsimp only at HN HS
      rw [unhide HC, unhide HTx] at HN HS
      go_wp2_with (first | (go_at_call 64; refine (l3Small_any _ _).mono ?_; rintro e w' ⟨rfl, rfl⟩; rw [h1]) | (go_at_call 66; refine (l3DigitByte_any _ _).mono ?_; rintro e w' ⟨rfl, rfl⟩; rw [h2]) | (go_at_call 69; refine (l3TextLen_any s k1 _ (by omega) (by omega)).mono ?_; rintro e w' ⟨rfl, rfl⟩; rw [hn]) | (at_builtin; refine append_tok (n := (t, k)) rfl _ _ rfl rfl ((unhide HO).keep (unhide HS)) rfl (by unfold tC; dsimp only; rw [unhide HC, unhide HTx]; exact unhide HN) (by have := unhide HLn; omega) (Nat.le_trans (unhide HB).size (unhide HS).size) ?_))
      intro v' W9 ho hb9
      have HO9 := hide ho
      have HB9 := hide ((unhide HB).trans (((unhide HS).mono (unhide HB).size).trans hb9))
      clear ho hb9
      go_wp2_with fail
      go_roundw
      case rel => first | exact ⟨e, _, rfl, unhide HX, unhide HO9, unhide HB9⟩ | ((repeat apply Exists.intro); exact ⟨⟨e, _, rfl, unhide HX, unhide HO9, unhide HB9⟩, rfl⟩)
      case measure => simp [intOf]; first | exact Nat.sub_lt_sub_left hlt hke | omega
    have h3' : ((c : Int) == 34) = false := beq_eq_false_iff_ne.2 (by omega)
    obtain ⟨s1, s2, s3⟩ := unhide HY h1 h2 h3
    obtain ⟨e1, he1⟩ : ∃ e1, k + 1 = e1 := ⟨_, rfl⟩
    obtain ⟨e2, he2⟩ : ∃ e2, k + 2 = e2 := ⟨_, rfl⟩
    rw [he1] at s2 s3
    rw [he2] at s1 s2 s3
    have we1 := i_one he1
    have we2 := i_two he2
    clear HW HD HQ HY
    obtain ⟨t, ht⟩ : ∃ t, s.extract k e1 = t := ⟨_, rfl⟩
    obtain ⟨t2, ht2⟩ : ∃ t, s.extract k e2 = t := ⟨_, rfl⟩
    rw [ht] at s2 s3
    rw [ht2] at s1 s2 s3
    have hsub := run_sub s (show k ≤ e1 by omega) (show e1 ≤ s.size by omega)
    rw [ht] at hsub
    by_cases hg : e2 ≤ s.size
    case neg =>
      have hg' := i_nle hg
      have hn2 : ¬ (e2 ≤ s.size ∧ symS t2 = true) := fun h => hg h.1
      cases h5 : symS t
      case false =>
        have hno := s3 hn2 h5
        clear s1 s2 s3
        have HBad := hide (unhide HBd hno)
        go_wp2_with (first | (go_at_call 64; refine (l3Small_any _ _).mono ?_; rintro e w' ⟨rfl, rfl⟩; rw [h1]) | (go_at_call 66; refine (l3DigitByte_any _ _).mono ?_; rintro e w' ⟨rfl, rfl⟩; rw [h2]) | (go_at_call 70; refine (l3IsSymbol_any _ _).mono ?_; rintro e w' ⟨rfl, rfl⟩; rw [h5]))
        go_ret2
        exact ⟨_, _, rfl, unhide HBad _ _ _, unhide HB⟩
      obtain ⟨q3, q4⟩ := s2 hn2 h5
      have HX := hide (unhide HNx t e1 q3); have HC : Hid (cls t = 4) := hide q4; have HTx : Hid (txt t = t) := hide (txt_eq (by omega))
      have hke : k < e1 := by omega
      clear HNx HBd s1 s2 s3 q3 q4 ht ht2
      have HN : Hid (Blk _ _ 89 (tC (t, k))) := hide (Blk.new wr 89 (tC (t, k)).toArray)
      have HS := hide ((Below.refl wr.heap.size wr).alloc (Nat.le_refl _) (.cells (tC (t, k)).toArray 89))
      unfold tC at HN HS
      dsimp only at HN HS
      rw [unhide HC, unhide HTx] at HN HS
      go_wp2_with (first | (go_at_call 64; refine (l3Small_any _ _).mono ?_; rintro e w' ⟨rfl, rfl⟩; rw [h1]) | (go_at_call 66; refine (l3DigitByte_any _ _).mono ?_; rintro e w' ⟨rfl, rfl⟩; rw [h2]) | (go_at_call 70; refine (l3IsSymbol_any _ _).mono ?_; rintro e w' ⟨rfl, rfl⟩; rw [h5]) | (at_builtin; refine append_tok (n := (t, k)) rfl _ _ rfl rfl ((unhide HO).keep (unhide HS)) rfl (by unfold tC; dsimp only; rw [unhide HC, unhide HTx]; exact unhide HN) (by have := unhide HLn; omega) (Nat.le_trans (unhide HB).size (unhide HS).size) ?_))
      intro v' W9 ho hb9
      have HO9 := hide ho
      have HB9 := hide ((unhide HB).trans (((unhide HS).mono (unhide HB).size).trans hb9))
      clear ho hb9
      go_wp2_with fail
      go_roundw
      case rel => first | exact ⟨e1, _, rfl, unhide HX, unhide HO9, unhide HB9⟩ | ((repeat apply Exists.intro); exact ⟨⟨e1, _, rfl, unhide HX, unhide HO9, unhide HB9⟩, rfl⟩)
      case measure => simp [intOf]; first | exact Nat.sub_lt_sub_left hlt hke | omega
    have hg' := i_le hg
    have hsub2 := run_sub s (show k ≤ e2 by omega) hg
    rw [ht2] at hsub2
    cases h4 : symS t2
    case false =>
      have hn2 : ¬ (e2 ≤ s.size ∧ symS t2 = true) := fun h => by rw [h4] at h; cases h.2
      cases h5 : symS t
      case false =>
        have hno := s3 hn2 h5
        clear s1 s2 s3
        have HBad := hide (unhide HBd hno)
        go_wp2_with (first | (go_at_call 64; refine (l3Small_any _ _).mono ?_; rintro e w' ⟨rfl, rfl⟩; rw [h1]) | (go_at_call 66; refine (l3DigitByte_any _ _).mono ?_; rintro e w' ⟨rfl, rfl⟩; rw [h2]) | (go_at_call 70; refine (l3IsSymbol_any _ _).mono ?_; rintro e w' ⟨rfl, rfl⟩; first | rw [h4] | rw [h5]))
        go_ret2
        exact ⟨_, _, rfl, unhide HBad _ _ _, unhide HB⟩
      obtain ⟨q3, q4⟩ := s2 hn2 h5
      have HX := hide (unhide HNx t e1 q3); have HC : Hid (cls t = 4) := hide q4; have HTx : Hid (txt t = t) := hide (txt_eq (by omega))
      have hke : k < e1 := by omega
      clear HNx HBd s1 s2 s3 q3 q4 ht ht2
      have HN : Hid (Blk _ _ 89 (tC (t, k))) := hide (Blk.new wr 89 (tC (t, k)).toArray)
      have HS := hide ((Below.refl wr.heap.size wr).alloc (Nat.le_refl _) (.cells (tC (t, k)).toArray 89))
      unfold tC at HN HS
      dsimp only at HN HS
      rw [unhide HC, unhide HTx] at HN HS
      go_wp2_with (first | (go_at_call 64; refine (l3Small_any _ _).mono ?_; rintro e w' ⟨rfl, rfl⟩; rw [h1]) | (go_at_call 66; refine (l3DigitByte_any _ _).mono ?_; rintro e w' ⟨rfl, rfl⟩; rw [h2]) | (go_at_call 70; refine (l3IsSymbol_any _ _).mono ?_; rintro e w' ⟨rfl, rfl⟩; first | rw [h4] | rw [h5]) | (at_builtin; refine append_tok (n := (t, k)) rfl _ _ rfl rfl ((unhide HO).keep (unhide HS)) rfl (by unfold tC; dsimp only; rw [unhide HC, unhide HTx]; exact unhide HN) (by have := unhide HLn; omega) (Nat.le_trans (unhide HB).size (unhide HS).size) ?_))
      intro v' W9 ho hb9
      have HO9 := hide ho
      have HB9 := hide ((unhide HB).trans (((unhide HS).mono (unhide HB).size).trans hb9))
      clear ho hb9
      go_wp2_with fail
      go_roundw
      case rel => first | exact ⟨e1, _, rfl, unhide HX, unhide HO9, unhide HB9⟩ | ((repeat apply Exists.intro); exact ⟨⟨e1, _, rfl, unhide HX, unhide HO9, unhide HB9⟩, rfl⟩)
      case measure => simp [intOf]; first | exact Nat.sub_lt_sub_left hlt hke | omega
    obtain ⟨q3, q4⟩ := s1 hg h4
    have HX := hide (unhide HNx t2 e2 q3); have HC : Hid (cls t2 = 4) := hide q4; have HTx : Hid (txt t2 = t2) := hide (txt_eq (by omega))
    have hke : k < e2 := by omega
    clear HNx HBd s1 s2 s3 q3 q4 ht ht2
    have HN : Hid (Blk _ _ 89 (tC (t2, k))) := hide (Blk.new wr 89 (tC (t2, k)).toArray)
    have HS := hide ((Below.refl wr.heap.size wr).alloc (Nat.le_refl _) (.cells (tC (t2, k)).toArray 89))
    unfold tC at HN HS
    dsimp only at HN HS
    rw [unhide HC, unhide HTx] at HN HS
    go_wp2_with (first | (go_at_call 64; refine (l3Small_any _ _).mono ?_; rintro e w' ⟨rfl, rfl⟩; rw [h1]) | (go_at_call 66; refine (l3DigitByte_any _ _).mono ?_; rintro e w' ⟨rfl, rfl⟩; rw [h2]) | (go_at_call 70; refine (l3IsSymbol_any _ _).mono ?_; rintro e w' ⟨rfl, rfl⟩; rw [h4]) | (at_builtin; refine append_tok (n := (t2, k)) rfl _ _ rfl rfl ((unhide HO).keep (unhide HS)) rfl (by unfold tC; dsimp only; rw [unhide HC, unhide HTx]; exact unhide HN) (by have := unhide HLn; omega) (Nat.le_trans (unhide HB).size (unhide HS).size) ?_))
    intro v' W9 ho hb9
    have HO9 := hide ho
    have HB9 := hide ((unhide HB).trans (((unhide HS).mono (unhide HB).size).trans hb9))
    clear ho hb9
    go_wp2_with fail
    go_roundw
    case rel => first | exact ⟨e2, _, rfl, unhide HX, unhide HO9, unhide HB9⟩ | ((repeat apply Exists.intro); exact ⟨⟨e2, _, rfl, unhide HX, unhide HO9, unhide HB9⟩, rfl⟩)
    case measure => simp [intOf]; first | exact Nat.sub_lt_sub_left hlt hke | omega
end Go.Proofs.YtjgngbmkpiihgaaGreatDoor
