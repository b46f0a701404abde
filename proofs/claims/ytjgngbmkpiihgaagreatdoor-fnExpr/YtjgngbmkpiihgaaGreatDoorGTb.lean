import Derived.Test.YtjgngbmkpiihgaaGreatDoorGLx
import Derived.Test.YtjgngbmkpiihgaaGreatDoorGTk
import Derived.Test.YtjgngbmkpiihgaaGreatDoorGRc
/- Runs of digits, of text bytes; what is a symbol: the model. -/
namespace Go.Proofs.YtjgngbmkpiihgaaGreatDoor
open Go Go.RowKit

set_option maxHeartbeats 1000000 in
theorem l3DigitLen_any (s : ByteArray) (i : Nat) (w : World) (hs : s.size ≤ 9223372036854775807) (hi : i ≤ s.size) :
    Calls Tryz.prog 67 #[.string s, .int .i64 i] w fun e w' => e = .returned (.int .i64 (runN digitB s i)) ∧ w' = w := by
  go_enter Tryz.func67, Tryz.ntmps67
  go_wp2_with fail
  go_loopw [5] (fun n wr => ∃ k : Nat, i + k ≤ s.size ∧ n = .int .i64 k ∧ (∀ j (hj : i + j < s.size), j < k → digitB (s[i + j]).toNat = true) ∧ wr = w) (fun n _ => s.size - (intOf n).toNat)
  case atStart => exact ⟨0, by omega, rfl, fun j _ hj => absurd hj (Nat.not_lt_zero _), rfl⟩
  case round =>
    obtain ⟨k, hk, rfl, hall, rfl⟩ := hrel
    have HA := hide hall; clear hall
    have hw1 : wrap64 ((i : Int) + (k : Int)) = ((i + k : Nat) : Int) := by rw [wrap64_small (by omega) (by omega)]; omega
    by_cases hlt : i + k < s.size
    · have hlt' : ((i : Int) + k) < s.size := by omega
      cases ht : digitB (s[i + k]).toNat
      · go_wp2_with (go_at_call 66; refine (l3DigitByte_any _ _).mono ?_; rintro e w' ⟨rfl, rfl⟩; rw [ht])
        go_ret
        exact ⟨ret_int (by rw [runN_eq (by omega) (unhide HA) (fun _ => ht)]), rfl⟩
      · go_wp2_with (go_at_call 66; refine (l3DigitByte_any _ _).mono ?_; rintro e w' ⟨rfl, rfl⟩; rw [ht])
        go_roundw
        case rel => exact ⟨k + 1, by omega, by go_num, fun j hj hjk => by
          by_cases e : j = k
          · subst e; exact ht
          · exact unhide HA j hj (by omega), trivial⟩
        case measure => simp [intOf]; omega
    · have hlt' : ¬ ((i : Int) + k) < s.size := by omega
      go_wp2_with fail
      go_ret
      exact ⟨ret_int (by rw [runN_eq (by omega) (unhide HA) (fun h => absurd h hlt)]), rfl⟩
set_option maxHeartbeats 1000000 in
theorem l3TextLen_any (s : ByteArray) (i : Nat) (w : World) (hs : s.size ≤ 9223372036854775807) (hi : i ≤ s.size) :
    Calls Tryz.prog 69 #[.string s, .int .i64 i] w fun e w' => e = .returned (.int .i64 (runN tb s i)) ∧ w' = w := by
  go_enter Tryz.func69, Tryz.ntmps69
  go_wp2_with fail
  go_loopw [5] (fun n wr => ∃ k : Nat, i + k ≤ s.size ∧ n = .int .i64 k ∧ (∀ j (hj : i + j < s.size), j < k → tb (s[i + j]).toNat = true) ∧ wr = w) (fun n _ => s.size - (intOf n).toNat)
  case atStart => exact ⟨0, by omega, rfl, fun j _ hj => absurd hj (Nat.not_lt_zero _), rfl⟩
  case round =>
    obtain ⟨k, hk, rfl, hall, rfl⟩ := hrel
    have HA := hide hall; clear hall
    have hw1 : wrap64 ((i : Int) + (k : Int)) = ((i + k : Nat) : Int) := by rw [wrap64_small (by omega) (by omega)]; omega
    by_cases hlt : i + k < s.size
    · have hlt' : ((i : Int) + k) < s.size := by omega
      cases ht : tb (s[i + k]).toNat
      · go_wp2_with (go_at_call 103; refine (l2TextByte_any _ _).mono ?_; rintro e w' ⟨rfl, rfl⟩; rw [ht])
        go_ret
        exact ⟨ret_int (by rw [runN_eq (by omega) (unhide HA) (fun _ => ht)]), rfl⟩
      · go_wp2_with (go_at_call 103; refine (l2TextByte_any _ _).mono ?_; rintro e w' ⟨rfl, rfl⟩; rw [ht])
        go_roundw
        case rel => exact ⟨k + 1, by omega, by go_num, fun j hj hjk => by
          by_cases e : j = k
          · subst e; exact ht
          · exact unhide HA j hj (by omega), trivial⟩
        case measure => simp [intOf]; omega
    · have hlt' : ¬ ((i : Int) + k) < s.size := by omega
      go_wp2_with fail
      go_ret
      exact ⟨ret_int (by rw [runN_eq (by omega) (unhide HA) (fun h => absurd h hlt)]), rfl⟩
def symT : List (List UInt8) := [[40], [41], [44], [59], [43], [45], [42], [47], [37], [38], [61], [60], [60, 62], [60, 61]]
def symS (s : ByteArray) : Bool := syms.any fun y => decide (y = s)
theorem symS_iff (x : ByteArray) : symS x = true ↔ x ∈ syms := by
  unfold symS
  rw [List.any_eq_true]
  exact ⟨fun ⟨y, hy, e⟩ => by rw [← of_decide_eq_true e]; exact hy, fun h => ⟨x, h, decide_eq_true rfl⟩⟩
theorem syms_T : syms = symT.map fun x => ⟨x.toArray⟩ := rfl
set_option maxRecDepth 100000 in
set_option maxHeartbeats 4000000 in
theorem l3IsSymbol_any (s : ByteArray) (w : World) : Calls Tryz.prog 70 #[.string s] w fun e w' => e = .returned (.bool (symS s)) ∧ w' = w := by
  by_cases h : ∃ x, x ∈ symT ∧ (s.toList == x) = true
  · obtain ⟨x, hx, he⟩ := h
    have hs := str_of_list he
    clear he
    subst hs
    rw [(symS_iff _).2 (show (⟨x.toArray⟩ : ByteArray) ∈ syms by rw [syms_T]; exact List.mem_map.2 ⟨x, hx, rfl⟩)]
    unfold symT at hx
    simp only [List.mem_cons, List.not_mem_nil, or_false] at hx
    rcases hx with rfl | rfl | rfl | rfl | rfl | rfl | rfl | rfl | rfl | rfl | rfl | rfl | rfl | rfl
    all_goals
      go_enter Tryz.func70, Tryz.ntmps70
      go_wp2
      go_ret
      exact ⟨rfl, rfl⟩
  · have hn : ∀ x, x ∈ symT → (s.toList == x) = false := fun x hx => by
      cases e : (s.toList == x)
      · rfl
      · exact absurd ⟨x, hx, e⟩ h
    rw [show symS s = false by
      rw [Bool.eq_false_iff, Ne, symS_iff, syms_T]
      intro hq
      obtain ⟨x, hx, e⟩ := List.mem_map.1 hq
      have := hn x hx
      rw [← e, ByteArray.toList_eq] at this
      simp at this]
    clear h
    unfold symT at hn
    simp only [List.forall_mem_cons, List.not_mem_nil, false_imp_iff, implies_true, and_true] at hn
    obtain ⟨h1, h2, h3, h4, h5, h6, h7, h8, h9, h10, h11, h12, h13, h14⟩ := hn
    go_enter Tryz.func70, Tryz.ntmps70
    go_wp2
    go_ret
    exact ⟨rfl, rfl⟩
end Go.Proofs.YtjgngbmkpiihgaaGreatDoor

/- The next token, as the model looks for it. -/
namespace Go.Proofs.YtjgngbmkpiihgaaGreatDoor
open Go

theorem cls_of {t : ByteArray} {c : Nat} (h : bt t 0 = c) : (small c = true → cls t = 1) ∧ (digitB c = true → small c = false → cls t = 2) ∧ (c = 34 → cls t = 3) ∧ (small c = false → digitB c = false → c ≠ 34 → cls t = 4) := by
  unfold cls
  rw [h]
  refine ⟨fun a => by rw [if_pos a], fun a b => by rw [b, if_neg (by decide), if_pos a], fun a => by subst a; decide, fun a b d => by rw [a, b, if_neg (by decide), if_neg (by decide), if_neg d]⟩
theorem dig_ns {c : Nat} (h : digitB c = true) : small c = false := by
  unfold digitB at h; unfold small
  simp only [decide_eq_true_eq] at h
  simp; omega
theorem ext_bt {s : ByteArray} {i e : Nat} (he : e ≤ s.size) (hi : i < e) : bt (s.extract i e) 0 = bt s i := bt_ext he (by omega)
/-- A word. -/
theorem tk_word {s : ByteArray} {i n : Nat} (hi : i < s.size) (h : small (bt s i) = true) (hn : runN nameB s i = n) : 1 ≤ n ∧ i + n ≤ s.size ∧ cls (s.extract i (i + n)) = 1 ∧ tk s i = (if n ≤ 16 then some (s.extract i (i + n), i + n) else none) := by
  have h1 := runN_succ hi (small_nb h)
  have h2 := runN_le nameB s i
  have hb : bt (s.extract i (i + n)) 0 = bt s i := ext_bt (by omega) (by omega)
  refine ⟨by omega, by omega, (cls_of hb).1 h, ?_⟩
  have ht : tokE s i = i + n := by unfold tokE; rw [if_pos h]; omega
  have hz : (s.extract i (i + n)).size = n := by simp; omega
  unfold tk
  rw [ht, if_neg (by omega)]
  unfold keepsB
  rw [hb, if_pos h, hz]
  by_cases hq : n ≤ 16
  · rw [if_pos hq, if_pos (decide_eq_true hq)]
  · rw [if_neg hq, if_neg (by simpa using hq)]
/-- What a number reads as. -/
theorem rd_rv {t : ByteArray} (h : cls t = 2) : (rv t).2.2.2 = (readDec t.data.toList).isSome := by
  rw [Bool.eq_iff_iff]
  constructor
  · intro hr
    obtain ⟨n, hn, -⟩ := rv_int h hr
    rw [hn]; rfl
  · intro hr
    unfold rv
    split
    · rfl
    · split
      · rfl
      · split
        · rfl
        · cases hq : readDec t.data.toList with
          | none => rw [hq] at hr; cases hr
          | some n => rfl
theorem keeps_rv {t : ByteArray} (h : cls t = 2 ∨ cls t = 3) : keepsB t = (rv t).2.2.2 := by
  unfold keepsB
  unfold cls at h
  split
  · rename_i hq
    rw [if_pos hq] at h; omega
  · rename_i hq
    rw [if_neg hq] at h
    split
    · rfl
    · rename_i hd
      rw [if_neg (fun e => hd (.inl e)), if_neg (fun e => hd (.inr e))] at h
      omega
/-- A number. -/
theorem tk_num {s : ByteArray} {i n : Nat} (hi : i < s.size) (h : digitB (bt s i) = true) (hn : runN digitB s i = n) : 1 ≤ n ∧ i + n ≤ s.size ∧ cls (s.extract i (i + n)) = 2 ∧ tk s i = (if (readDec (s.extract i (i + n)).data.toList).isSome = true then some (s.extract i (i + n), i + n) else none) := by
  have h1 := runN_succ hi h
  have h2 := runN_le digitB s i
  have hs := dig_ns h
  have hb : bt (s.extract i (i + n)) 0 = bt s i := ext_bt (by omega) (by omega)
  have hc := (cls_of hb).2.1 h hs
  refine ⟨by omega, by omega, hc, ?_⟩
  have ht : tokE s i = i + n := by unfold tokE; rw [hs, if_neg (by decide), if_pos h]; omega
  unfold tk
  rw [ht, if_neg (by omega)]
  rw [keeps_rv (.inl hc), rd_rv hc]
theorem ext_list (s : ByteArray) (i j : Nat) : (s.extract i j).data.toList = (s.data.toList.take j).drop i := by
  rw [ByteArray.data_extract, Array.toList_extract]
  simp [List.extract, List.drop_take]
theorem mid_ext {s : ByteArray} {i n : Nat} (h : i + 1 + n < s.size) : mid (s.extract i (i + n + 2)) = s.extract (i + 1) (i + 1 + n) := by
  have hz : (s.extract i (i + n + 2)).size = n + 2 := by simp; omega
  unfold mid
  rw [hz]
  refine ba_ext ?_
  rw [ext_list, ext_list, ext_list, show n + 2 - 1 = n + 1 by omega, List.drop_take, List.drop_take, List.drop_take, List.take_take, List.drop_take, List.drop_drop]
  congr 1
  omega
theorem quote_list (l : List UInt8) {n : Nat} (hl : l.length = n) (h2 : 2 ≤ n) (g0 : l[0]? = some 34) (g1 : l[n - 1]? = some 34) : [34] ++ (l.take (n - 1)).drop 1 ++ [34] = l := by
  have e1 : l = l.take (n - 1) ++ [34] := by
    have := List.take_succ_eq_append_getElem (show n - 1 < l.length by omega)
    rw [show n - 1 + 1 = l.length by omega, List.take_length, (List.getElem?_eq_some_iff.1 g1).2] at this
    exact this
  have e2 : l.take (n - 1) = 34 :: (l.take (n - 1)).drop 1 := by
    have hlt : 0 < (l.take (n - 1)).length := by rw [List.length_take]; omega
    have := List.drop_eq_getElem_cons hlt
    rw [List.drop_zero, List.getElem_take, (List.getElem?_eq_some_iff.1 g0).2] at this
    exact this
  generalize l.take (n - 1) = m at *
  rw [e1]
  conv => rhs; rw [e2]
  simp
theorem quote_mid {t : ByteArray} (h2 : 2 ≤ t.size) (h0 : bt t 0 = 34) (h1 : bt t (t.size - 1) = 34) : ⟨#[34]⟩ ++ mid t ++ ⟨#[34]⟩ = t := by
  refine ba_ext ?_
  rw [ByteArray.data_append, ByteArray.data_append, Array.toList_append, Array.toList_append]
  unfold mid
  rw [ext_list]
  rw [bt_lt (by omega)] at h0 h1
  have hl : t.data.toList.length = t.size := by simp
  have g0 : t.data.toList[0]? = some 34 := by rw [List.getElem?_eq_getElem (by omega)]; exact congrArg some (UInt8.toNat_inj.1 h0)
  have g1 : t.data.toList[t.size - 1]? = some 34 := by rw [List.getElem?_eq_getElem (by omega)]; exact congrArg some (UInt8.toNat_inj.1 h1)
  exact quote_list _ hl h2 g0 g1
theorem run_bytes {p : Nat → Bool} {s : ByteArray} {i j : Nat} (h : j < runN p s i) : p (bt s (i + j)) = true := by
  have hl := runN_le p s i
  have hlt : i + j < s.size := by omega
  unfold runN at h
  have hm := List.getElem_mem (l := (s.data.toList.drop i).takeWhile fun c => p c.toNat) h
  have := List.all_takeWhile (p := fun c : UInt8 => p c.toNat) (l := s.data.toList.drop i)
  rw [List.all_eq_true] at this
  have h2 := this _ hm
  rw [bt_lt hlt]
  have e : ((s.data.toList.drop i).takeWhile fun c => p c.toNat)[j] = s[i + j] := by
    rw [(List.takeWhile_prefix _).getElem h, List.getElem_drop]
    rfl
  rw [e] at h2
  exact h2
/-- A text. -/
theorem tk_txt {s : ByteArray} {i n : Nat} (h : bt s i = 34) (hn : runN tb s (i + 1) = n) : (¬ (i + 1 + n < s.size ∧ bt s (i + 1 + n) = 34 ∧ n ≤ 1000) → tk s i = none) ∧ (i + 1 + n < s.size → bt s (i + 1 + n) = 34 → n ≤ 1000 → tk s i = some (s.extract i (i + n + 2), i + n + 2) ∧ cls (s.extract i (i + n + 2)) = 3 ∧ txt (s.extract i (i + n + 2)) = s.extract (i + 1) (i + 1 + n)) := by
  have hsm : small (bt s i) = false := by rw [h]; decide
  have hdg : digitB (bt s i) = false := by rw [h]; decide
  have ht : tokE s i = if bt s (i + 1 + n) = 34 then i + n + 2 else i := by
    unfold tokE
    rw [hsm, hdg, if_neg (by decide), if_neg (by decide), if_pos h, hn]
    split <;> omega
  by_cases hq : bt s (i + 1 + n) = 34
  · rw [if_pos hq] at ht
    have hlt : i + 1 + n < s.size := Classical.byContradiction fun hc => by rw [bt_ge hc] at hq; cases hq
    have hb : bt (s.extract i (i + n + 2)) 0 = bt s i := ext_bt (by omega) (by omega)
    have hb1 : bt (s.extract i (i + n + 2)) (n + 1) = bt s (i + (n + 1)) := bt_ext (by omega) (by omega)
    have hm := mid_ext hlt
    have hz : (s.extract i (i + n + 2)).size = n + 2 := by simp; omega
    have hc : cls (s.extract i (i + n + 2)) = 3 := (cls_of hb).2.2.1 h
    have hby : ∀ j, j < n → tb (bt (s.extract (i + 1) (i + 1 + n)) j) = true := fun j hj => by
      rw [bt_ext (by omega) (by omega)]
      exact run_bytes (p := tb) (s := s) (i := i + 1) (j := j) (by omega)
    have hzm : (s.extract (i + 1) (i + 1 + n)).size = n := by simp; omega
    have htx : txt (s.extract i (i + n + 2)) = s.extract (i + 1) (i + 1 + n) := by unfold txt; rw [if_pos hc, hm]
    have htk : tk s i = if keepsB (s.extract i (i + n + 2)) = true then some (s.extract i (i + n + 2), i + n + 2) else none := by
      unfold tk; rw [ht, if_neg (by omega)]
    rw [keeps_rv (.inr hc)] at htk
    rw [show i + (n + 1) = i + 1 + n by omega, hq] at hb1
    rw [h] at hb
    generalize s.extract (i + 1) (i + 1 + n) = M at *
    generalize s.extract i (i + n + 2) = t at *
    have hok : n ≤ 1000 → (rv t).2.2.2 = true := fun hl => by
      have hw : okText (mid t) = true := by
        rw [hm]
        refine okText_yes (by omega) fun j hj => ?_
        have := hby j (by omega)
        rw [bt_lt hj] at this
        exact this
      have hqm := quote_mid (by omega) hb (by rw [hz]; exact hb1)
      unfold rv
      split
      · rfl
      · split
        · rfl
        · split
          · rfl
          · split
            · rfl
            · rw [if_pos ⟨by omega, hw, hqm⟩]
    refine ⟨fun hno => ?_, fun _ _ hl => ⟨by rw [htk, if_pos (hok hl)], hc, htx⟩⟩
    rw [htk, if_neg]
    intro hr
    have hw := (okText_iff.1 (rv_txt hc hr).2).1
    rw [hm, hzm] at hw
    exact hno ⟨hlt, hq, hw⟩
  · rw [if_neg hq] at ht
    refine ⟨fun _ => by unfold tk; rw [ht, if_pos rfl], fun _ h2 => absurd h2 hq⟩
/-- A symbol. -/
theorem sym_two {t : ByteArray} (h : t.size = 2) : symS t = true ↔ bt t 0 = 60 ∧ (bt t 1 = 62 ∨ bt t 1 = 61) := by
  rw [symS_iff]
  constructor
  · intro hm
    unfold syms at hm
    simp only [List.mem_cons, List.not_mem_nil, or_false] at hm
    rcases hm with e | e | e | e | e | e | e | e | e | e | e | e | e | e <;> subst e
    all_goals first | exact absurd h (by decide) | decide
  · rintro ⟨h0, h1 | h1⟩
    · rw [bt_two h (c := 60) (d := 62) h0 h1]; simp [syms]
    · rw [bt_two h (c := 60) (d := 61) h0 h1]; simp [syms]
theorem sym_one {t : ByteArray} (h : t.size = 1) : symS t = true ↔ symB (bt t 0) = true ∨ bt t 0 = 60 := by
  rw [symS_iff]
  constructor
  · intro hm
    unfold syms at hm
    simp only [List.mem_cons, List.not_mem_nil, or_false] at hm
    rcases hm with e | e | e | e | e | e | e | e | e | e | e | e | e | e <;> subst e
    all_goals first | exact absurd h (by decide) | decide
  · rintro (h0 | h0)
    · have hs := of_decide_eq_true h0
      rcases hs with e | e | e | e | e | e | e | e | e | e | e
      · rw [bt_one h (c := 40) e]; simp [syms]
      · rw [bt_one h (c := 41) e]; simp [syms]
      · rw [bt_one h (c := 44) e]; simp [syms]
      · rw [bt_one h (c := 59) e]; simp [syms]
      · rw [bt_one h (c := 43) e]; simp [syms]
      · rw [bt_one h (c := 45) e]; simp [syms]
      · rw [bt_one h (c := 42) e]; simp [syms]
      · rw [bt_one h (c := 47) e]; simp [syms]
      · rw [bt_one h (c := 37) e]; simp [syms]
      · rw [bt_one h (c := 38) e]; simp [syms]
      · rw [bt_one h (c := 61) e]; simp [syms]
    · rw [bt_one h (c := 60) h0]; simp [syms]
theorem keeps_sym {t : ByteArray} (h : cls t = 4) : keepsB t = true := by
  unfold keepsB
  unfold cls at h
  split
  · rename_i hq
    rw [if_pos hq] at h; omega
  · rename_i hq
    rw [if_neg hq] at h
    split
    · rename_i hd
      rcases hd with hd | hd
      · rw [if_pos hd] at h; omega
      · rw [hd] at h
        exact absurd h (by decide)
    · rfl
theorem tk_sym {s : ByteArray} {i : Nat} (hi : i < s.size) (h1 : small (bt s i) = false) (h2 : digitB (bt s i) = false) (h3 : bt s i ≠ 34) :
    (i + 2 ≤ s.size → symS (s.extract i (i + 2)) = true → tk s i = some (s.extract i (i + 2), i + 2) ∧ cls (s.extract i (i + 2)) = 4) ∧
    (¬ (i + 2 ≤ s.size ∧ symS (s.extract i (i + 2)) = true) → symS (s.extract i (i + 1)) = true → tk s i = some (s.extract i (i + 1), i + 1) ∧ cls (s.extract i (i + 1)) = 4) ∧
    (¬ (i + 2 ≤ s.size ∧ symS (s.extract i (i + 2)) = true) → symS (s.extract i (i + 1)) = false → tk s i = none) := by
  have hz1 : (s.extract i (i + 1)).size = 1 := by simp; omega
  have hb1 : bt (s.extract i (i + 1)) 0 = bt s i := ext_bt (by omega) (by omega)
  have hc1 : cls (s.extract i (i + 1)) = 4 := (cls_of hb1).2.2.2 h1 h2 h3
  have ht : tokE s i = if bt s i = 60 then (if bt s (i + 1) = 62 ∨ bt s (i + 1) = 61 then i + 2 else i + 1) else if symB (bt s i) = true then i + 1 else i := by
    unfold tokE
    rw [h1, h2, if_neg (by decide), if_neg (by decide), if_neg h3]
  have two : i + 2 ≤ s.size → (symS (s.extract i (i + 2)) = true ↔ bt s i = 60 ∧ (bt s (i + 1) = 62 ∨ bt s (i + 1) = 61)) := fun hq => by
    rw [sym_two (by simp; omega), ext_bt hq (by omega), bt_ext hq (by omega)]
  have one : symS (s.extract i (i + 1)) = true ↔ symB (bt s i) = true ∨ bt s i = 60 := by rw [sym_one hz1, hb1]
  have no2 : ¬ (i + 2 ≤ s.size ∧ symS (s.extract i (i + 2)) = true) → ¬ (bt s i = 60 ∧ (bt s (i + 1) = 62 ∨ bt s (i + 1) = 61)) := fun hn hq => by
    have hlt : i + 1 < s.size := Classical.byContradiction fun hc => by rw [bt_ge hc] at hq; omega
    exact hn ⟨by omega, (two (by omega)).2 hq⟩
  refine ⟨fun hq hs => ?_, fun hn hs => ?_, fun hn hs => ?_⟩
  · obtain ⟨g1, g2⟩ := (two hq).1 hs
    have hb2 : bt (s.extract i (i + 2)) 0 = bt s i := ext_bt hq (by omega)
    have hc2 := (cls_of hb2).2.2.2 h1 h2 h3
    rw [if_pos g1, if_pos g2] at ht
    exact ⟨by unfold tk; rw [ht, if_neg (by omega), if_pos (keeps_sym hc2)], hc2⟩
  · have hno := no2 hn
    have e : tokE s i = i + 1 := by
      rw [ht]
      by_cases g : bt s i = 60
      · rw [if_pos g, if_neg (fun h => hno ⟨g, h⟩)]
      · rw [if_neg g, if_pos ((one.1 hs).resolve_right g)]
    exact ⟨by unfold tk; rw [e, if_neg (by omega), if_pos (keeps_sym hc1)], hc1⟩
  · have hno : ¬ (symB (bt s i) = true ∨ bt s i = 60) := fun h => by rw [one.2 h] at hs; cases hs
    have e : tokE s i = i := by rw [ht, if_neg (fun h => hno (.inr h)), if_neg (fun h => hno (.inl h))]
    unfold tk; rw [e, if_pos rfl]
end Go.Proofs.YtjgngbmkpiihgaaGreatDoor

/- Tokens in memory of their own; how far the cutting has come. -/
namespace Go.Proofs.YtjgngbmkpiihgaaGreatDoor
open Go Go.RowKit

def tC (t : ByteArray × Nat) : List Value := [.int .i64 (cls t.1 : Nat), .string (txt t.1), .int .i64 (t.2 : Nat)]
def tokV (l : List (ByteArray × Nat)) : List Value := l.flatMap tC
theorem tokV_app (l r : List (ByteArray × Nat)) : tokV (l ++ r) = tokV l ++ tokV r := by simp [tokV]
theorem tokV_get {l : List (ByteArray × Nat)} {k p : Nat} (hk : k < l.length) (hp : p < 3) : (tokV l)[k * 3 + p]? = (tC l[k])[p]? := by
  induction l generalizing k with
  | nil => cases hk
  | cons x r ih =>
    cases k with
    | zero =>
      rw [show tokV (x :: r) = tC x ++ tokV r from rfl, Nat.zero_mul, Nat.zero_add, List.getElem?_append_left (by simp [tC]; omega)]
      rfl
    | succ k =>
      rw [show tokV (x :: r) = tC x ++ tokV r from rfl, List.getElem?_append_right (by simp [tC]; omega)]
      have := ih (k := k) (by simpa using hk)
      rw [show (k + 1) * 3 + p - (tC x).length = k * 3 + p by simp [tC]; omega]
      simpa using this
def OwnT (w : World) (base : Nat) (v : Value) (l : List (ByteArray × Nat)) : Prop := w.ownsRow base 89 3 v l.length (tokV l)
theorem OwnT.keep {w w' : World} {base : Nat} {v : Value} {l : List (ByteArray × Nat)} (h : OwnT w base v l) (hb : Below w.heap.size w w') : OwnT w' base v l :=
  World.ownsRow.kept (row := none) h ⟨hb.os, hb.tape, hb.output, hb.size, fun k hk _ => hb.block k hk⟩ (Classical.em _)
theorem OwnT.none (w : World) : OwnT (w.alloc (.cells #[] 89)) w.heap.size (.slice (some ⟨w.heap.size, 0, .none⟩) 0 0) [] :=
  ⟨rfl, .inr ⟨w.heap.size, 0, #[], rfl, Nat.le_refl _, heap_alloc_new w (.cells #[] 89), Nat.le_refl _, Nat.zero_le _, rfl, rfl⟩⟩
theorem OwnT.toks {w : World} {base : Nat} {v : Value} {l : List (ByteArray × Nat)} (h : OwnT w base v l) : ∃ a c, v = .slice a (l.map (·.1)).length c ∧ l.length ≤ c ∧ Tks w a (l.map (·.1)) := by
  rw [List.length_map]
  rcases h.2 with ⟨e, h0⟩ | ⟨g, cap, cur, e, hg, hq, h4, h5, h6, h7⟩
  · exact ⟨.none, 0, by rw [e, h0], by omega, fun k hk => by rw [List.length_map] at hk; omega⟩
  · have hb : Blk w g 89 cur.toList := by
      show w.heap[g]? = _
      rw [hq]
    refine ⟨some ⟨g, 0, .none⟩, cap, e, h4, fun k hk => ?_⟩
    rw [List.length_map] at hk
    have hc : ∀ p, p < 3 → w.cell? ⟨g, k * 3 + p, .none⟩ = (tC l[k])[p]? := fun p hp => by
      rw [hb.cell, ← tokV_get hk hp, ← h7, List.getElem?_take_of_lt (by omega)]
    refine ⟨g, 0, (l[k].2 : Nat), rfl, ?_⟩
    rw [Nat.zero_add, List.getElem_map]
    exact ⟨hb.lt, hc 0 (by omega), hc 1 (by omega), hc 2 (by omega)⟩
theorem info_tk : (Tryz.prog.info? 89).map (fun i => (i.zero, i.size, i.bytes)) = some (some (.agg #[.int .i64 0, .string ⟨#[]⟩, .int .i64 0]), 3, 32) := by kernel_rfl
/-- One token more. -/
theorem append_tok {ops : Array Oper} {rest : List Oper} {o : Oper} {a : Act} {Q : Exit → Act → World → Prop} {w : World} (hgd : o.guard = .none) (s x : Operand)
    (ho : o.op = .call { callee := .builtin .append, args := #[s, x], argTypes := #[64, 64] }) {base : Nat} {v : Value} {l : List (ByteArray × Nat)} (hs : a.eval s = v) (hown : OwnT w base v l)
    {g : Nat} {n : ByteArray × Nat} (hx : a.eval x = .slice (some ⟨g, 0, .none⟩) 1 1) (hc : Blk w g 89 (tC n)) (hl : l.length + 1 ≤ 2097152) (hbase : base ≤ w.heap.size)
    (h : ∀ v' w', OwnT w' base v' (l ++ [n]) → Below base w w' → wpList Tryz.prog ops Q rest (a.put o.dst v') w') : wpList Tryz.prog ops Q (o :: rest) a w := by
  obtain ⟨i0, hi, hz0, hz1, hz2⟩ := info_parts info_tk
  refine wpList_append_own w hgd s x 64 ho base 89 i0 _ 3 32 Tryz.underlying64 hi hz0 hz1 hz2 rfl (by omega) _ _ _ hs hown ⟨g, 0, .none⟩ 1 1 (tC n) hx rfl (fun j v hj => by rw [show (⟨g, 0, .none⟩ : Addr).add j = ⟨g, j, .none⟩ by simp [Addr.add]; try exact fun h => h.symm]; exact (hc.cell j).trans hj) (by simp [tC, Value.oneCell']) (by unfold maxLen; omega) (by omega) hbase ?_
  intro v' W9 ho hgr _
  refine h v' W9 ?_ ((Below.refl base w).grown hgr hbase (fun q e => owns_block hown e))
  unfold OwnT
  rw [tokV_app, List.length_append]
  simpa [tokV] using ho
theorem run_sub (s : ByteArray) {i j : Nat} (h1 : i ≤ j) (h2 : j ≤ s.size) (w : World) : (Instr.slice 9 (.string s) (some (.int .i64 (i : Nat))) (some (.int .i64 (j : Nat))) none).run Tryz.prog w = .ok (.string (s.extract i j)) w := by
  rw [run_slice_string w 9 s .i64 .i64 _ _ Tryz.underlying9 (by omega) (by omega) (by omega), show ((i : Int)).toNat = i by omega, show ((j : Int)).toNat = j by omega]

/-- What the cutting has come to. -/
structure LxI (s : ByteArray) (k : Nat) (l : List (ByteArray × Nat)) : Prop where
  hk : k ≤ s.size
  hn : l.length ≤ k
  at' : LxAt s k (l.map (·.1))
  ok : ∀ t, t ∈ l.map (·.1) → VT t ∧ t.size ≤ s.size
theorem LxI.skip {s : ByteArray} {k : Nat} {l : List (ByteArray × Nat)} (h : LxI s k l) (hk : k < s.size) (hw : wsB (bt s k) = true) : LxI s (k + 1) l :=
  ⟨by omega, by have := h.hn; omega, h.at'.skip hk hw, h.ok⟩
theorem LxI.next {s : ByteArray} {k e : Nat} {l : List (ByteArray × Nat)} {t : ByteArray} (h : LxI s k l) (hk : k < s.size) (hw : wsB (bt s k) = false) (ht : tk s k = some (t, e)) : LxI s e (l ++ [(t, k)]) := by
  obtain ⟨h1, h2, h3, h4, h5⟩ := tk_some hk ht
  have := h.hn
  refine ⟨h2, by simp; omega, by rw [List.map_append]; exact h.at'.next hk hw ht h1, fun x hx => ?_⟩
  rw [List.map_append, List.mem_append] at hx
  rcases hx with hx | hx
  · exact h.ok x hx
  · simp at hx
    subst hx
    exact ⟨tk_vt hk ht, by rw [h4]; simp; omega⟩
/-- What l3Lex answers. -/
def LexA (s : ByteArray) (w : World) (base : Nat) (v : Value) (z : Int) : Prop := match lxF s s.size 0 [] with
  | .inl i => z = (i : Nat)
  | .inr ts => z = -1 ∧ ∃ l, OwnT w base v l ∧ l.map (·.1) = ts ∧ ts.length ≤ s.size ∧ ∀ t, t ∈ ts → VT t ∧ t.size ≤ s.size
theorem LxI.bad {s : ByteArray} {k : Nat} {l : List (ByteArray × Nat)} (h : LxI s k l) (hk : k < s.size) (hw : wsB (bt s k) = false) (ht : tk s k = none) (w : World) (base : Nat) (v : Value) : LexA s w base v (k : Nat) := by
  unfold LexA
  rw [h.at'.bad hk hw ht]
theorem LxI.done {s : ByteArray} {k : Nat} {l : List (ByteArray × Nat)} (h : LxI s k l) (hk : ¬ k < s.size) {w : World} {base : Nat} {v : Value} (ho : OwnT w base v l) : LexA s w base v (-1) := by
  unfold LexA
  rw [h.at'.done (by omega)]
  exact ⟨rfl, l, ho, rfl, by rw [List.length_map]; have := h.hn; have := h.hk; omega, h.ok⟩

end Go.Proofs.YtjgngbmkpiihgaaGreatDoor
