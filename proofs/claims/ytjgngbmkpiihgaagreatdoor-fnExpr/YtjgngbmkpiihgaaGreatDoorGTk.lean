import Derived.Test.YtjgngbmkpiihgaaGreatDoorGLx
import Derived.Test.YtjgngbmkpiihgaaGreatDoorGNa
import Derived.Test.YtjgngbmkpiihgaaGreatDoorGOw
import Derived.BigQuiet
/- Tokens in memory; what the model asks of one token. -/
namespace Go.Proofs.YtjgngbmkpiihgaaGreatDoor
open Go Go.RowKit

theorem eqT (a b : ByteArray) : (a.toList == b.toList) = decide (a = b) := by
  rw [Bool.eq_iff_iff, decide_eq_true_eq]
  refine ⟨fun h => ?_, fun h => by rw [h]; simp⟩
  have h2 := str_of_list h
  rw [h2, ByteArray.toList_eq]
/-- A token of the model. -/
def tV (t : ByteArray) (p : Int) : Value := .agg #[.int .i64 (cls t : Nat), .string (txt t), .int .i64 p]
def TCel (w : World) (b o : Nat) (t : ByteArray) (p : Int) : Prop := b < w.heap.size ∧ w.cell? ⟨b, o, none⟩ = some (.int .i64 (cls t : Nat)) ∧ w.cell? ⟨b, o + 1, none⟩ = some (.string (txt t)) ∧ w.cell? ⟨b, o + 2, none⟩ = some (.int .i64 p)
theorem TCel.mono {w w' : World} {b o : Nat} {t : ByteArray} {p : Int} (h : TCel w b o t p) (hb : Below w.heap.size w w') : TCel w' b o t p :=
  ⟨Nat.lt_of_lt_of_le h.1 hb.size, (hb.cell h.1).trans h.2.1, (hb.cell h.1).trans h.2.2.1, (hb.cell h.1).trans h.2.2.2⟩
/-- A slice of tokens. -/
def Tks (w : World) (a : Option Addr) (l : List ByteArray) : Prop := ∀ k (h : k < l.length), ∃ b o p, a = some ⟨b, o, none⟩ ∧ TCel w b (o + k * 3) l[k] p
theorem Tks.mono {w w' : World} {a : Option Addr} {l : List ByteArray} (h : Tks w a l) (hb : Below w.heap.size w w') : Tks w' a l := fun k hk => by
  obtain ⟨b, o, p, e, hc⟩ := h k hk
  exact ⟨b, o, p, e, hc.mono hb⟩

set_option maxRecDepth 100000 in
set_option maxHeartbeats 1000000 in
theorem l3Symbol_any (c p : Int) (x s : ByteArray) (w : World) : Calls Tryz.prog 104 #[.agg #[.int .i64 c, .string x, .int .i64 p], .string s] w fun e w' => e = .returned (.bool (decide (c = 4 ∧ x = s))) ∧ Below w.heap.size w w' := by
  have HB := hide ((Below.refl w.heap.size w).alloc (Nat.le_refl _) (.cells #[.int .i64 c, .string x, .int .i64 p] 89))
  have he := eqT x s
  by_cases h1 : c = 4
  · have h1' : (c == 4) = true := by simp [h1]
    by_cases h2 : x = s
    · rw [decide_eq_true h2] at he
      rw [decide_eq_true ⟨h1, h2⟩]
      clear h1 h2
      go_enter Tryz.func104, Tryz.ntmps104
      go_wp2_with fail
      go_ret
      exact ⟨rfl, unhide HB⟩
    · rw [decide_eq_false h2] at he
      rw [decide_eq_false (fun h => h2 h.2)]
      clear h1 h2
      go_enter Tryz.func104, Tryz.ntmps104
      go_wp2_with fail
      go_ret
      exact ⟨rfl, unhide HB⟩
  · have h1' : (c == 4) = false := beq_eq_false_iff_ne.2 h1
    rw [decide_eq_false (fun h => h1 h.1)]
    clear h1
    go_enter Tryz.func104, Tryz.ntmps104
    go_wp2_with fail
    go_ret
    exact ⟨rfl, unhide HB⟩
set_option maxRecDepth 100000 in
set_option maxHeartbeats 1000000 in
theorem l3Word_any (c p : Int) (x s : ByteArray) (w : World) : Calls Tryz.prog 107 #[.agg #[.int .i64 c, .string x, .int .i64 p], .string s] w fun e w' => e = .returned (.bool (decide (c = 1 ∧ x = s))) ∧ Below w.heap.size w w' := by
  have HB := hide ((Below.refl w.heap.size w).alloc (Nat.le_refl _) (.cells #[.int .i64 c, .string x, .int .i64 p] 89))
  have he := eqT x s
  by_cases h1 : c = 1
  · have h1' : (c == 1) = true := by simp [h1]
    by_cases h2 : x = s
    · rw [decide_eq_true h2] at he
      rw [decide_eq_true ⟨h1, h2⟩]
      clear h1 h2
      go_enter Tryz.func107, Tryz.ntmps107
      go_wp2_with fail
      go_ret
      exact ⟨rfl, unhide HB⟩
    · rw [decide_eq_false h2] at he
      rw [decide_eq_false (fun h => h2 h.2)]
      clear h1 h2
      go_enter Tryz.func107, Tryz.ntmps107
      go_wp2_with fail
      go_ret
      exact ⟨rfl, unhide HB⟩
  · have h1' : (c == 1) = false := beq_eq_false_iff_ne.2 h1
    rw [decide_eq_false (fun h => h1 h.1)]
    clear h1
    go_enter Tryz.func107, Tryz.ntmps107
    go_wp2_with fail
    go_ret
    exact ⟨rfl, unhide HB⟩
set_option maxRecDepth 100000 in
set_option maxHeartbeats 1000000 in
theorem l3IsGood_any (c p : Int) (x : ByteArray) (w : World) (hs : x.size ≤ 9223372036854775807) : Calls Tryz.prog 126 #[.agg #[.int .i64 c, .string x, .int .i64 p]] w fun e w' => e = .returned (.bool (decide (c = 1 ∧ goodN x = true))) ∧ Below w.heap.size w w' := by
  have HB := hide ((Below.refl w.heap.size w).alloc (Nat.le_refl _) (.cells #[.int .i64 c, .string x, .int .i64 p] 89))
  by_cases h1 : c = 1
  · have h1' : (c == 1) = true := by simp [h1]
    cases h2 : goodN x
    · rw [decide_eq_false (fun h => by cases h.2)]
      clear h1
      go_enter Tryz.func126, Tryz.ntmps126
      go_wp2_with fail
      refine (l3GoodName_any x _ hs).mono ?_
      rintro e w' ⟨rfl, rfl⟩
      rw [h2]
      go_wp2_with fail
      go_ret
      exact ⟨rfl, unhide HB⟩
    · rw [decide_eq_true ⟨h1, rfl⟩]
      clear h1
      go_enter Tryz.func126, Tryz.ntmps126
      go_wp2_with fail
      refine (l3GoodName_any x _ hs).mono ?_
      rintro e w' ⟨rfl, rfl⟩
      rw [h2]
      go_wp2_with fail
      go_ret
      exact ⟨rfl, unhide HB⟩
  · have h1' : (c == 1) = false := beq_eq_false_iff_ne.2 h1
    rw [decide_eq_false (fun h => h1 h.1)]
    clear h1
    go_enter Tryz.func126, Tryz.ntmps126
    go_wp2_with fail
    go_ret
    exact ⟨rfl, unhide HB⟩
/-- Of a token: is it this symbol, this word, a good name? -/
theorem sym_tok {t s : ByteArray} (p : Int) (hs : cls s = 4) (w : World) : Calls Tryz.prog 104 #[tV t p, .string s] w fun e w' => e = .returned (.bool (decide (t = s))) ∧ Below w.heap.size w w' := by
  have := l3Symbol_any (cls t : Nat) p (txt t) s w
  have e : decide ((cls t : Int) = 4 ∧ txt t = s) = decide (t = s) := by
    have := sym_iff (t := t) hs
    rw [decide_eq_decide]
    exact ⟨fun h => this.1 ⟨by omega, h.2⟩, fun h => ⟨by have := (this.2 h).1; omega, (this.2 h).2⟩⟩
  rw [e] at this
  exact this
theorem word_tok {t s : ByteArray} (p : Int) (hs : cls s = 1) (w : World) : Calls Tryz.prog 107 #[tV t p, .string s] w fun e w' => e = .returned (.bool (decide (t = s))) ∧ Below w.heap.size w w' := by
  have := l3Word_any (cls t : Nat) p (txt t) s w
  have e : decide ((cls t : Int) = 1 ∧ txt t = s) = decide (t = s) := by
    have := word_iff (t := t) hs
    rw [decide_eq_decide]
    exact ⟨fun h => this.1 ⟨by omega, h.2⟩, fun h => ⟨by have := (this.2 h).1; omega, (this.2 h).2⟩⟩
  rw [e] at this
  exact this
theorem txt_size (t : ByteArray) : (txt t).size ≤ t.size := by
  unfold txt
  split
  · rw [mid_size]; omega
  · exact Nat.le_refl _
theorem good_tok {t : ByteArray} (p : Int) (hs : t.size ≤ 9223372036854775807) (w : World) : Calls Tryz.prog 126 #[tV t p] w fun e w' => e = .returned (.bool (goodN t)) ∧ Below w.heap.size w w' := by
  have := l3IsGood_any (cls t : Nat) p (txt t) w (Nat.le_trans (txt_size t) hs)
  have e : decide ((cls t : Int) = 1 ∧ goodN (txt t) = true) = goodN t := by
    rw [Bool.eq_iff_iff, decide_eq_true_eq]
    have := good_iff (t := t)
    exact ⟨fun h => this.1 ⟨by omega, h.2⟩, fun h => ⟨by have := (this.2 h).1; omega, (this.2 h).2⟩⟩
  rw [e] at this
  exact this
end Go.Proofs.YtjgngbmkpiihgaaGreatDoor

/- What the model asks of one token: its sign, whether an operand ends with it. -/
namespace Go.Proofs.YtjgngbmkpiihgaaGreatDoor
open Go Go.RowKit

theorem opL_step (x : ByteArray) (l : Int) (a n : Nat) : opL x l a (n + 1) = if lvl a = l ∧ wrd a = x then a else opL x l (a + 1) n := rfl
set_option maxRecDepth 100000 in
set_option maxHeartbeats 4000000 in
theorem l3SignAt_any (c p l : Int) (x : ByteArray) (w : World) : Calls Tryz.prog 106 #[.agg #[.int .i64 c, .string x, .int .i64 p], .int .i64 l] w fun e w' => e = .returned (.int .i64 (if c = 4 ∨ c = 1 then opL x l 4 12 else 0 : Nat)) ∧ Below w.heap.size w w' := by
  have HB := hide ((Below.refl w.heap.size w).alloc (Nat.le_refl _) (.cells #[.int .i64 c, .string x, .int .i64 p] 89))
  have HK := hide (Blk.new w 89 #[.int .i64 c, .string x, .int .i64 p])
  obtain ⟨W1, hW1⟩ : ∃ W1, w.alloc (.cells #[.int .i64 c, .string x, .int .i64 p] 89) = W1 := ⟨_, rfl⟩
  rw [hW1] at HB HK
  obtain ⟨R, hR⟩ : ∃ R, (if c = 4 ∨ c = 1 then opL x l 4 12 else 0) = R := ⟨_, rfl⟩
  rw [hR]
  have HZ := hide hR
  clear hR
  go_enter Tryz.func106, Tryz.ntmps106
  go_wp2_with fail
  try rw [hW1]
  go_loopw [5] (fun i wr => ∃ k t : Nat, 4 ≤ k ∧ k ≤ 16 ∧ i = .int .i64 (k : Nat) ∧ R = (if c = 4 ∨ c = 1 then opL x l k (16 - k) else 0) ∧ wr = W1.drewN t) (fun i _ => 16 - (intOf i).toNat)
  case atStart => exact ⟨4, 0, by omega, by omega, rfl, (unhide HZ).symm, rfl⟩
  case round =>
    obtain ⟨k, t, hk4, hk, rfl, hr, rfl⟩ := hrel
    have HR := hide hr
    clear hr
    have HB2 : Hid (∀ n, Below w.heap.size w (W1.drewN n)) := hide fun n => (unhide HB).trans ((below_drewN' W1 n).mono (unhide HB).size)
    have y0 : W1.cell? ⟨w.heap.size, 0, none⟩ = some (.int .i64 c) := (unhide HK).cell 0
    have y1 : W1.cell? ⟨w.heap.size, 1, none⟩ = some (.string x) := (unhide HK).cell 1
    by_cases hlt : k < 16
    · have hlt' : (k : Int) ≤ 15 := by omega
      obtain ⟨n, hn⟩ : ∃ n, 16 - k = n + 1 := ⟨15 - k, by omega⟩
      have HL := hide (l3Level_any (k : Int))
      have HS := hide (fun w => l3Sign_any (k : Int) w (by omega) (by omega))
      rw [hn, opL_step x l k n] at HR
      obtain ⟨lv, hlv⟩ : ∃ lv, lvl (k : Int) = lv := ⟨_, rfl⟩
      obtain ⟨wd, hwd⟩ : ∃ wd, wrd (k : Int) = wd := ⟨_, rfl⟩
      rw [hlv] at HL HR; rw [hwd] at HS HR
      have he := eqT x wd
      by_cases h1 : lv = l
      · have h1' : (lv == l) = true := by simp [h1]
        by_cases h2 : x = wd
        · rw [decide_eq_true h2] at he
          by_cases h3 : c = 4
          · have h3' : (c == 4) = true := by simp [h3]
            rw [if_pos (.inl h3), if_pos ⟨h1, h2.symm⟩] at HR
            clear h1 h2 h3
            go_wp2_with fail
            go_quiet (first | (go_at_call 53; refine quiet_plus (unhide HL _)) | (go_at_call 56; refine quiet_plus (unhide HS _)))
            go_wp2_with fail
            go_ret
            exact ⟨ret_int (by rw [unhide HR]), unhide HB2 _⟩
          · have h3' : (c == 4) = false := beq_eq_false_iff_ne.2 h3
            by_cases h4 : c = 1
            · have h4' : (c == 1) = true := by simp [h4]
              rw [if_pos (.inr h4), if_pos ⟨h1, h2.symm⟩] at HR
              clear h1 h2 h3 h4
              go_wp2_with fail
              go_quiet (first | (go_at_call 53; refine quiet_plus (unhide HL _)) | (go_at_call 56; refine quiet_plus (unhide HS _)))
              go_wp2_with fail
              go_ret
              exact ⟨ret_int (by rw [unhide HR]), unhide HB2 _⟩
            · have h4' : (c == 1) = false := beq_eq_false_iff_ne.2 h4
              have HC : Hid (¬ (c = 4 ∨ c = 1)) := hide (by omega)
              rw [if_neg (unhide HC)] at HR
              clear h1 h2 h3 h4
              go_wp2_with fail
              go_quiet (first | (go_at_call 53; refine quiet_plus (unhide HL _)) | (go_at_call 56; refine quiet_plus (unhide HS _)))
              go_wp2_with fail
              go_roundw
              case rel => exact ⟨k + 1, _, by omega, by omega, by go_num, by rw [if_neg (unhide HC)]; exact unhide HR, rfl⟩
              case measure => simp [intOf]; omega
        · rw [decide_eq_false h2] at he
          rw [if_neg (show ¬ (lv = l ∧ wd = x) from fun h => h2 h.2.symm)] at HR
          clear h1 h2
          go_wp2_with fail
          go_quiet (first | (go_at_call 53; refine quiet_plus (unhide HL _)) | (go_at_call 56; refine quiet_plus (unhide HS _)))
          go_wp2_with fail
          go_roundw
          case rel => exact ⟨k + 1, _, by omega, by omega, by go_num, by rw [show 16 - (k + 1) = n by omega]; exact unhide HR, rfl⟩
          case measure => simp [intOf]; omega
      · have h1' : (lv == l) = false := beq_eq_false_iff_ne.2 h1
        rw [if_neg (show ¬ (lv = l ∧ wd = x) from fun h => h1 h.1)] at HR
        clear h1
        go_wp2_with fail
        go_quiet (first | (go_at_call 53; refine quiet_plus (unhide HL _)) | (go_at_call 56; refine quiet_plus (unhide HS _)))
        go_wp2_with fail
        go_roundw
        case rel => exact ⟨k + 1, _, by omega, by omega, by go_num, by rw [show 16 - (k + 1) = n by omega]; exact unhide HR, rfl⟩
        case measure => simp [intOf]; omega
    · obtain rfl : k = 16 := by omega
      have HX : Hid (R = 0) := hide (by rw [unhide HR]; split <;> rfl)
      go_wp2_with fail
      go_ret
      exact ⟨ret_int (by rw [unhide HX]; rfl), unhide HB2 _⟩
/-- The sign of a level that a token is. -/
def sgN (t : ByteArray) (l : Nat) : Nat := if tkX.b t ≠ 0 ∧ tkX.lv (tkX.b t) = l then tkX.b t else 0
theorem sign_tok (t : ByteArray) (p : Int) (l : Nat) (w : World) : Calls Tryz.prog 106 #[tV t p, .int .i64 l] w fun e w' => e = .returned (.int .i64 (sgN t l : Nat)) ∧ Below w.heap.size w w' := by
  have := l3SignAt_any (cls t : Nat) p l (txt t) w
  have e : (if (cls t : Int) = 4 ∨ (cls t : Int) = 1 then opL (txt t) l 4 12 else 0) = sgN t l := by
    unfold sgN
    rw [← sg_eq]
    by_cases h : cls t = 4 ∨ cls t = 1
    · rw [if_pos h, if_pos (by omega)]
    · rw [if_neg h, if_neg (by omega)]
  rw [e] at this
  exact this
theorem clsE {t : ByteArray} {n : Nat} (h : cls t = n) : ((cls t : Int) == (n : Int)) = true := by simp [h]
theorem clsN {t : ByteArray} {n : Nat} (h : ¬ cls t = n) : ((cls t : Int) == (n : Int)) = false := beq_eq_false_iff_ne.2 (by omega)

set_option maxRecDepth 100000 in
set_option maxHeartbeats 4000000 in
theorem ends_tok (t : ByteArray) (p : Int) (hs : t.size ≤ 9223372036854775807) (w : World) : Calls Tryz.prog 125 #[tV t p] w fun e w' => e = .returned (.bool (eoB t)) ∧ Below w.heap.size w w' := by
  have HSy := hide (fun w => sym_tok (t := t) (s := ⟨#[41]⟩) p (by decide) w)
  have HGd := hide (fun w => good_tok (t := t) p hs w)
  have HT := hide (fun w => word_tok (t := t) (s := ⟨#[116, 114, 117, 101]⟩) p (by decide) w)
  have HF := hide (fun w => word_tok (t := t) (s := ⟨#[102, 97, 108, 115, 101]⟩) p (by decide) w)
  have HN := hide (fun w => word_tok (t := t) (s := ⟨#[98, 108, 97, 110, 107]⟩) p (by decide) w)
  have HE : Hid (eoB t = (decide (cls t = 2) || decide (cls t = 3) || decide (t = ⟨#[41]⟩) || (goodN t || decide (t = ⟨#[116, 114, 117, 101]⟩) || decide (t = ⟨#[102, 97, 108, 115, 101]⟩) || decide (t = ⟨#[98, 108, 97, 110, 107]⟩)))) := rfl
  unfold tV at *
  have h2 : cls t = 2 ∨ ¬ cls t = 2 := Decidable.em _
  have h3 : cls t = 3 ∨ ¬ cls t = 3 := Decidable.em _
  have e2 : ((cls t : Int) == 2) = decide (cls t = 2) := by rcases h2 with h | h <;> simp [h]; omega
  have e3 : ((cls t : Int) == 3) = decide (cls t = 3) := by rcases h3 with h | h <;> simp [h]; omega
  clear h2 h3
  generalize hc : (cls t : Int) = c at *
  generalize decide (cls t = 2) = d2 at *
  generalize decide (cls t = 3) = d3 at *
  generalize txt t = x at *
  generalize decide (t = ⟨#[41]⟩) = d4 at *
  generalize goodN t = g at *
  generalize decide (t = ⟨#[116, 114, 117, 101]⟩) = d5 at *
  generalize decide (t = ⟨#[102, 97, 108, 115, 101]⟩) = d6 at *
  generalize decide (t = ⟨#[98, 108, 97, 110, 107]⟩) = d7 at *
  generalize eoB t = R at *
  clear hc
  obtain rfl := unhide HE
  clear HE
  have HK := hide (Blk.new w 89 #[.int .i64 c, .string x, .int .i64 p])
  have HB := hide ((Below.refl w.heap.size w).alloc (Nat.le_refl _) (.cells #[.int .i64 c, .string x, .int .i64 p] 89))
  obtain ⟨W1, hW1⟩ : ∃ W1, w.alloc (.cells #[.int .i64 c, .string x, .int .i64 p] 89) = W1 := ⟨_, rfl⟩
  rw [hW1] at HB HK
  have y0 := (unhide HK).cell 0; have y1 := (unhide HK).cell 1; have y2 := (unhide HK).cell 2
  simp only [List.getElem?_cons_zero, List.getElem?_cons_succ] at y0 y1 y2
  cases d2
  case true =>
    go_enter Tryz.func125, Tryz.ntmps125
    go_wp2_with fail
    try rw [hW1]
    go_ret
    exact ⟨rfl, unhide HB⟩
  cases d3
  case true =>
    go_enter Tryz.func125, Tryz.ntmps125
    go_wp2_with fail
    try rw [hW1]
    go_ret
    exact ⟨rfl, unhide HB⟩
  go_enter Tryz.func125, Tryz.ntmps125
  go_wp2_with fail
  try rw [hW1]
  refine (unhide HSy _).mono ?_
  rintro e W2 ⟨rfl, hb⟩
  replace HB := hide ((unhide HB).trans (hb.mono (unhide HB).size)); replace HK := hide ((unhide HK).mono hb (unhide HK).lt)
  clear hb y0 y1 y2 hW1
  cases d4
  case true =>
    go_wp2_with fail
    go_ret
    exact ⟨rfl, unhide HB⟩
  have y0 := (unhide HK).cell 0; have y1 := (unhide HK).cell 1; have y2 := (unhide HK).cell 2
  simp only [List.getElem?_cons_zero, List.getElem?_cons_succ] at y0 y1 y2
  go_wp2_with fail
  refine (unhide HGd _).mono ?_
  rintro e W3 ⟨rfl, hb⟩
  replace HB := hide ((unhide HB).trans (hb.mono (unhide HB).size)); replace HK := hide ((unhide HK).mono hb (unhide HK).lt)
  clear hb y0 y1 y2
  cases g
  case true =>
    go_wp2_with fail
    go_ret
    exact ⟨rfl, unhide HB⟩
  have y0 := (unhide HK).cell 0; have y1 := (unhide HK).cell 1; have y2 := (unhide HK).cell 2
  simp only [List.getElem?_cons_zero, List.getElem?_cons_succ] at y0 y1 y2
  go_wp2_with fail
  refine (unhide HT _).mono ?_
  rintro e W4 ⟨rfl, hb⟩
  replace HB := hide ((unhide HB).trans (hb.mono (unhide HB).size)); replace HK := hide ((unhide HK).mono hb (unhide HK).lt)
  clear hb y0 y1 y2
  cases d5
  case true =>
    go_wp2_with fail
    go_ret
    exact ⟨rfl, unhide HB⟩
  have y0 := (unhide HK).cell 0; have y1 := (unhide HK).cell 1; have y2 := (unhide HK).cell 2
  simp only [List.getElem?_cons_zero, List.getElem?_cons_succ] at y0 y1 y2
  go_wp2_with fail
  refine (unhide HF _).mono ?_
  rintro e W5 ⟨rfl, hb⟩
  replace HB := hide ((unhide HB).trans (hb.mono (unhide HB).size)); replace HK := hide ((unhide HK).mono hb (unhide HK).lt)
  clear hb y0 y1 y2
  cases d6
  case true =>
    go_wp2_with fail
    go_ret
    exact ⟨rfl, unhide HB⟩
  have y0 := (unhide HK).cell 0; have y1 := (unhide HK).cell 1; have y2 := (unhide HK).cell 2
  simp only [List.getElem?_cons_zero, List.getElem?_cons_succ] at y0 y1 y2
  go_wp2_with fail
  refine (unhide HN _).mono ?_
  rintro e W6 ⟨rfl, hb⟩
  replace HB := hide ((unhide HB).trans (hb.mono (unhide HB).size))
  clear hb y0 y1 y2
  go_wp2_with fail
  go_ret
  exact ⟨by cases d7 <;> rfl, unhide HB⟩
end Go.Proofs.YtjgngbmkpiihgaaGreatDoor

/- Brackets, the last sign, the closing bracket: the model's walks over tokens. -/
namespace Go.Proofs.YtjgngbmkpiihgaaGreatDoor
open Go Go.RowKit

def TkOk (l : List ByteArray) : Prop := ∀ t, t ∈ l → VT t ∧ t.size ≤ 1048576
theorem TkOk.at {l : List ByteArray} (h : TkOk l) {k : Nat} (hk : k < l.length) : VT l[k] ∧ l[k].size ≤ 1048576 := h _ (List.getElem_mem hk)
/-- An opening bracket, a closing one, neither. -/
theorem tokLR (t : ByteArray) : (decide (t = ⟨#[40]⟩) = true ∧ decide (t = ⟨#[41]⟩) = false ∧ tkX.L t = true ∧ tkX.R t = false ∧ dlt tkX t = 1) ∨ (decide (t = ⟨#[40]⟩) = false ∧ decide (t = ⟨#[41]⟩) = true ∧ tkX.L t = false ∧ tkX.R t = true ∧ dlt tkX t = -1) ∨ (decide (t = ⟨#[40]⟩) = false ∧ decide (t = ⟨#[41]⟩) = false ∧ tkX.L t = false ∧ tkX.R t = false ∧ dlt tkX t = 0) := by
  by_cases h1 : t = ⟨#[40]⟩
  · subst h1; left; decide
  · by_cases h2 : t = ⟨#[41]⟩
    · subst h2; right; left; decide
    · right; right
      have a : tkX.L t = false := decide_eq_false h1
      have b : tkX.R t = false := decide_eq_false h2
      exact ⟨decide_eq_false h1, decide_eq_false h2, a, b, by unfold dlt; rw [a, b]; rfl⟩
theorem drop_get {l : List ByteArray} {k : Nat} (h : k < l.length) : l.drop k = l[k] :: l.drop (k + 1) := List.drop_eq_getElem_cons h
theorem bool_false_ne {b : Bool} (h : ¬ b = true) : b = false := by cases b; rfl; exact absurd rfl h

set_option maxRecDepth 100000 in
set_option maxHeartbeats 4000000 in
theorem l3Balanced_any (a : Option Addr) (c : Nat) (l : List ByteArray) (w : World) (hl : l.length ≤ 1048576) (ha : Tks w a l) :
    Calls Tryz.prog 71 #[.slice a l.length c] w fun r w' => r = .returned (.bool (decide (blc tkX 64 0 l = some 0))) ∧ Below w.heap.size w w' := by
  have HA := hide ha
  clear ha
  obtain ⟨R, hR⟩ : ∃ R, blc tkX 64 0 l = R := ⟨_, rfl⟩
  rw [hR]
  have HZ := hide hR
  clear hR
  go_enter Tryz.func71, Tryz.ntmps71
  go_wp2_with fail
  go_loopw [3, 4] (fun dv i wr => ∃ k d : Nat, k ≤ l.length ∧ d ≤ 64 ∧ dv = .int .i64 (d : Nat) ∧ i = .int .i64 k ∧ R = blc tkX 64 d (l.drop k) ∧ Below w.heap.size w wr) (fun _ i _ => l.length - (intOf i).toNat)
  case atStart => exact ⟨0, 0, Nat.zero_le _, by omega, rfl, rfl, (unhide HZ).symm, Below.refl _ _⟩
  case round =>
    obtain ⟨k, d, hk, hd, rfl, rfl, hr, hb⟩ := hrel
    have HB := hide hb; have HR := hide hr
    have HV := hide ((unhide HA).mono hb)
    clear hb hr
    by_cases hlt : k < l.length
    · have hlt' : (k : Int) < l.length := by omega
      rw [drop_get hlt] at HR
      obtain ⟨b, o, p, rfl, hc⟩ := unhide HV k hlt
      generalize l[k] = t at *
      have HC := hide hc
      obtain ⟨-, c0, c1, c2⟩ := hc
      have HL := hide (fun w => sym_tok (t := t) (s := ⟨#[40]⟩) p (by decide) w)
      have HJ := hide (fun w => sym_tok (t := t) (s := ⟨#[41]⟩) p (by decide) w)
      unfold tV at HL HJ
      rcases tokLR t with ⟨q1, q2, q3, q4, -⟩ | ⟨q1, q2, q3, q4, -⟩ | ⟨q1, q2, q3, q4, -⟩
      · rw [q1] at HL; rw [q2] at HJ
        simp only [blc, q3, if_true] at HR
        clear q1 q2 q3 q4
        go_wp2_with fail
        refine (unhide HL _).mono ?_
        rintro e W1 ⟨rfl, hb⟩
        replace HB := hide ((unhide HB).trans (hb.mono (unhide HB).size)); replace HC := hide ((unhide HC).mono hb)
        clear hb c0 c1 c2
        obtain ⟨-, c0, c1, c2⟩ := unhide HC
        go_wp2_with fail
        refine (unhide HJ _).mono ?_
        rintro e W2 ⟨rfl, hb⟩
        replace HB := hide ((unhide HB).trans (hb.mono (unhide HB).size))
        clear hb c0 c1 c2
        by_cases h64 : d + 1 ≤ 64
        · rw [if_pos h64] at HR
          go_wp2_with fail
          go_roundw
          case rel => exact ⟨k + 1, d + 1, by omega, h64, by go_num, by go_num, unhide HR, unhide HB⟩
          case measure => simp [intOf]; omega
        · rw [if_neg h64] at HR
          obtain rfl : d = 64 := by omega
          go_wp2_with fail
          go_ret
          exact ⟨ret_bool (by rw [unhide HR]; rfl), unhide HB⟩
      · rw [q1] at HL; rw [q2] at HJ
        simp only [blc, q3, q4, if_true, Bool.false_eq_true, if_false] at HR
        clear q1 q2 q3 q4
        go_wp2_with fail
        refine (unhide HL _).mono ?_
        rintro e W1 ⟨rfl, hb⟩
        replace HB := hide ((unhide HB).trans (hb.mono (unhide HB).size)); replace HC := hide ((unhide HC).mono hb)
        clear hb c0 c1 c2
        obtain ⟨-, c0, c1, c2⟩ := unhide HC
        go_wp2_with fail
        refine (unhide HJ _).mono ?_
        rintro e W2 ⟨rfl, hb⟩
        replace HB := hide ((unhide HB).trans (hb.mono (unhide HB).size))
        clear hb c0 c1 c2
        by_cases h64 : d = 0
        · rw [if_pos h64] at HR
          subst h64
          go_wp2_with fail
          go_ret
          exact ⟨ret_bool (by rw [unhide HR]; rfl), unhide HB⟩
        · rw [if_neg h64] at HR
          obtain ⟨d, rfl⟩ : ∃ x, d = x + 1 := ⟨d - 1, by omega⟩
          have hw : wrap64 (((d + 1 : Nat) : Int) - 1) = (d : Int) := by rw [wrap64_small (by omega) (by omega)]; omega
          go_wp2_with fail
          go_roundw
          case rel => exact ⟨k + 1, d, by omega, by omega, by go_num, by go_num, unhide HR, unhide HB⟩
          case measure => simp [intOf]; omega
      · rw [q1] at HL; rw [q2] at HJ
        simp only [blc, q3, q4, Bool.false_eq_true, if_false] at HR
        clear q1 q2 q3 q4
        go_wp2_with fail
        refine (unhide HL _).mono ?_
        rintro e W1 ⟨rfl, hb⟩
        replace HB := hide ((unhide HB).trans (hb.mono (unhide HB).size)); replace HC := hide ((unhide HC).mono hb)
        clear hb c0 c1 c2
        obtain ⟨-, c0, c1, c2⟩ := unhide HC
        go_wp2_with fail
        refine (unhide HJ _).mono ?_
        rintro e W2 ⟨rfl, hb⟩
        replace HB := hide ((unhide HB).trans (hb.mono (unhide HB).size))
        clear hb c0 c1 c2
        go_wp2_with fail
        go_roundw
        case rel => exact ⟨k + 1, d, by omega, by omega, by go_num, by go_num, unhide HR, unhide HB⟩
        case measure => simp [intOf]; omega
    · have hlt' : ¬ (k : Int) < l.length := by omega
      have HX : Hid (R = some d) := hide (by rw [unhide HR, List.drop_of_length_le (by omega)]; rfl)
      go_wp2_with fail
      go_ret
      exact ⟨ret_bool (by rw [unhide HX]; by_cases h : d = 0 <;> simp [h]), unhide HB⟩

/-- Where the bracket closes. -/
def mtV (k : Nat) (d : Int) (l : List ByteArray) : Int := match mtc tkX d (l.drop k) with
  | some j => ((k + j : Nat) : Int)
  | none => -1
theorem mtV_yes {k : Nat} {d : Int} {l : List ByteArray} (h : k < l.length) (h1 : tkX.R l[k] = true) (h2 : d + dlt tkX l[k] = 0) : mtV k d l = k := by
  unfold mtV
  rw [drop_get h]
  simp only [mtc, h1, h2, and_self, if_true]
  simp
theorem mtV_no {k : Nat} {d : Int} {l : List ByteArray} (h : k < l.length) (h1 : ¬ (tkX.R l[k] = true ∧ d + dlt tkX l[k] = 0)) : mtV k d l = mtV (k + 1) (d + dlt tkX l[k]) l := by
  unfold mtV
  rw [drop_get h]
  simp only [mtc, if_neg h1]
  cases mtc tkX (d + dlt tkX l[k]) (l.drop (k + 1)) with
  | none => rfl
  | some j => simp; omega

set_option maxRecDepth 100000 in
set_option maxHeartbeats 4000000 in
theorem l3Match_any (a : Option Addr) (c : Nat) (l : List ByteArray) (i : Nat) (w : World) (hl : l.length ≤ 1048576) (hi : i ≤ l.length) (ha : Tks w a l) :
    Calls Tryz.prog 127 #[.slice a l.length c, .int .i64 i] w fun r w' => r = .returned (.int .i64 (mtV i 0 l)) ∧ Below w.heap.size w w' := by
  have HA := hide ha
  clear ha
  obtain ⟨R, hR⟩ : ∃ R, mtV i 0 l = R := ⟨_, rfl⟩
  rw [hR]
  have HZ := hide hR
  clear hR
  go_enter Tryz.func127, Tryz.ntmps127
  go_wp2_with fail
  go_loopw [5, 6] (fun dv iv wr => ∃ (k : Nat) (d : Int), k ≤ l.length ∧ -(k : Int) ≤ d ∧ d ≤ k ∧ dv = .int .i64 d ∧ iv = .int .i64 k ∧ R = mtV k d l ∧ Below w.heap.size w wr) (fun _ i _ => l.length - (intOf i).toNat)
  case atStart => exact ⟨i, 0, hi, by omega, by omega, rfl, rfl, (unhide HZ).symm, Below.refl _ _⟩
  case round =>
    obtain ⟨k, d, hk, hd0, hd1, rfl, rfl, hr, hb⟩ := hrel
    have HB := hide hb; have HR := hide hr
    have HV := hide ((unhide HA).mono hb)
    clear hb hr
    by_cases hlt : k < l.length
    · have hlt' : (k : Int) < l.length := by omega
      obtain ⟨b, o, p, rfl, hc⟩ := unhide HV k hlt
      have HY := hide (fun h1 h2 => mtV_yes (d := d) hlt h1 h2)
      have HN := hide (fun h1 => mtV_no (d := d) hlt h1)
      generalize l[k] = t at *
      have HC := hide hc
      obtain ⟨-, c0, c1, c2⟩ := hc
      have HL := hide (fun w => sym_tok (t := t) (s := ⟨#[40]⟩) p (by decide) w)
      have HJ := hide (fun w => sym_tok (t := t) (s := ⟨#[41]⟩) p (by decide) w)
      unfold tV at HL HJ
      have wp1 : wrap64 (d + 1) = d + 1 := wrap64_small (by omega) (by omega)
      have wm1 : wrap64 (d - 1) = d - 1 := wrap64_small (by omega) (by omega)
      rcases tokLR t with ⟨q1, q2, q3, q4, q5⟩ | ⟨q1, q2, q3, q4, q5⟩ | ⟨q1, q2, q3, q4, q5⟩
      · rw [q1] at HL; rw [q2] at HJ
        rw [q4, q5] at HN
        have HX := hide ((unhide HR).trans (unhide HN (by simp)))
        clear q1 q2 q3 q4 q5 HY HN HR
        go_wp2_with fail
        refine (unhide HL _).mono ?_
        rintro e W1 ⟨rfl, hb⟩
        replace HB := hide ((unhide HB).trans (hb.mono (unhide HB).size)); replace HC := hide ((unhide HC).mono hb)
        clear hb c0 c1 c2
        obtain ⟨-, c0, c1, c2⟩ := unhide HC
        go_wp2_with fail
        refine (unhide HJ _).mono ?_
        rintro e W2 ⟨rfl, hb⟩
        replace HB := hide ((unhide HB).trans (hb.mono (unhide HB).size))
        clear hb c0 c1 c2
        go_wp2_with fail
        go_roundw
        case rel => exact ⟨k + 1, d + 1, by omega, by omega, by omega, by go_num, by go_num, unhide HX, unhide HB⟩
        case measure => simp [intOf]; omega
      · rw [q1] at HL; rw [q2] at HJ
        rw [q4, q5] at HN
        rw [q4, q5] at HY
        clear q1 q2 q3 q4 q5
        go_wp2_with fail
        refine (unhide HL _).mono ?_
        rintro e W1 ⟨rfl, hb⟩
        replace HB := hide ((unhide HB).trans (hb.mono (unhide HB).size)); replace HC := hide ((unhide HC).mono hb)
        clear hb c0 c1 c2
        obtain ⟨-, c0, c1, c2⟩ := unhide HC
        go_wp2_with fail
        refine (unhide HJ _).mono ?_
        rintro e W2 ⟨rfl, hb⟩
        replace HB := hide ((unhide HB).trans (hb.mono (unhide HB).size))
        clear hb c0 c1 c2
        by_cases h1 : d = 1
        · have HX := hide ((unhide HR).trans (unhide HY (by trivial) (by omega)))
          subst h1
          clear HY HN HR
          go_wp2_with fail
          go_ret
          exact ⟨ret_int (by rw [unhide HX]), unhide HB⟩
        · have HX := hide ((unhide HR).trans (unhide HN (fun h => by omega)))
          have h1' : (d - 1 == 0) = false := beq_eq_false_iff_ne.2 (by omega)
          have h2' : (d == 1) = false := beq_eq_false_iff_ne.2 h1
          clear HY HN HR
          go_wp2_with fail
          go_roundw
          case rel => exact ⟨k + 1, d - 1, by omega, by omega, by omega, by go_num, by go_num, by rw [unhide HX]; rfl, unhide HB⟩
          case measure => simp [intOf]; omega
      · rw [q1] at HL; rw [q2] at HJ
        rw [q4, q5] at HN
        have HX := hide ((unhide HR).trans (unhide HN (by simp)))
        clear q1 q2 q3 q4 q5 HY HN HR
        go_wp2_with fail
        refine (unhide HL _).mono ?_
        rintro e W1 ⟨rfl, hb⟩
        replace HB := hide ((unhide HB).trans (hb.mono (unhide HB).size)); replace HC := hide ((unhide HC).mono hb)
        clear hb c0 c1 c2
        obtain ⟨-, c0, c1, c2⟩ := unhide HC
        go_wp2_with fail
        refine (unhide HJ _).mono ?_
        rintro e W2 ⟨rfl, hb⟩
        replace HB := hide ((unhide HB).trans (hb.mono (unhide HB).size))
        clear hb c0 c1 c2
        go_wp2_with fail
        go_roundw
        case rel => exact ⟨k + 1, d, by omega, by omega, by omega, by go_num, by go_num, by rw [unhide HX]; simp, unhide HB⟩
        case measure => simp [intOf]; omega
    · have hlt' : ¬ (k : Int) < l.length := by omega
      have HX : Hid (R = -1) := hide (by rw [unhide HR]; unfold mtV; rw [List.drop_of_length_le (by omega)]; rfl)
      go_wp2_with fail
      go_ret
      exact ⟨ret_int (by rw [unhide HX]), unhide HB⟩
end Go.Proofs.YtjgngbmkpiihgaaGreatDoor

/- The last sign of a level: the model's walk over tokens. -/
namespace Go.Proofs.YtjgngbmkpiihgaaGreatDoor
open Go Go.RowKit

def lastV : Option Nat → Int
  | none => -1
  | some j => (j : Int)
theorem dpt_take {l : List ByteArray} {k : Nat} (h : k < l.length) : dpt tkX (l.take (k + 1)) = dpt tkX (l.take k) + dlt tkX l[k] := by
  rw [List.take_succ_eq_append_getElem h, dep_append, dep_cons]
  simp [dpt]
theorem dlt_small (t : ByteArray) : dlt tkX t = 1 ∨ dlt tkX t = -1 ∨ dlt tkX t = 0 := by
  rcases tokLR t with ⟨-, -, -, -, h⟩ | ⟨-, -, -, -, h⟩ | ⟨-, -, -, -, h⟩ <;> simp [h]
theorem dpt_small (l : List ByteArray) : ∀ k, k ≤ l.length → -(k : Int) ≤ dpt tkX (l.take k) ∧ dpt tkX (l.take k) ≤ k
  | 0, _ => by simp [dpt]
  | k + 1, h => by
    have h1 := dpt_small l k (by omega)
    rw [dpt_take (show k < l.length by omega)]
    rcases dlt_small l[k] with h | h | h <;> rw [h] <;> omega
theorem binAt_of {l : List ByteArray} {lv k : Nat} (hk : k + 1 < l.length) (ht : TkOk l) : BinAt tkX lv l k ↔ dpt tkX (l.take (k + 2)) = 0 ∧ sgN l[k + 1] lv ≠ 0 ∧ eoB l[k] = true := by
  unfold BinAt sgN
  rw [← eo_eq (ht.at (show k < l.length by omega)).1]
  constructor
  · rintro ⟨p, t, h1, h2, h3, h4, h5, h6⟩
    rw [List.getElem?_eq_getElem (by omega)] at h1
    rw [List.getElem?_eq_getElem hk] at h2
    cases h1; cases h2
    exact ⟨h3, by rw [if_pos ⟨h5, h6⟩]; exact h5, h4⟩
  · rintro ⟨h1, h2, h3⟩
    refine ⟨l[k], l[k + 1], List.getElem?_eq_getElem _, List.getElem?_eq_getElem hk, h1, h3, ?_⟩
    split at h2
    · assumption
    · exact absurd rfl h2

set_option maxRecDepth 100000 in
set_option maxHeartbeats 8000000 in
theorem l3LastSign_any (a : Option Addr) (c : Nat) (l : List ByteArray) (lv : Nat) (w : World) (hl : l.length ≤ 1048576) (ht : TkOk l) (ha : Tks w a l) :
    Calls Tryz.prog 105 #[.slice a l.length c, .int .i64 lv] w fun r w' => ∃ last, r = .returned (.int .i64 (lastV last)) ∧ lsd tkX lv l l.length last ∧ Below w.heap.size w w' := by
  have HA := hide ha; have HT := hide ht
  clear ha ht
  go_enter Tryz.func105, Tryz.ntmps105
  go_wp2_with fail
  go_loopw [5, 6, 7] (fun dv la iv wr => ∃ (k : Nat) (last : Option Nat), k ≤ l.length ∧ dv = .int .i64 (dpt tkX (l.take k)) ∧ la = .int .i64 (lastV last) ∧ iv = .int .i64 k ∧ lsd tkX lv l k last ∧ Below w.heap.size w wr) (fun _ _ i _ => l.length - (intOf i).toNat)
  case atStart => exact ⟨0, none, Nat.zero_le _, rfl, rfl, rfl, lsd_zero _ _ _, Below.refl _ _⟩
  case round =>
    obtain ⟨k, last, hk, rfl, rfl, rfl, hr, hb⟩ := hrel
    have HB := hide hb; have HR := hide hr
    have HV := hide ((unhide HA).mono hb)
    have hds := dpt_small l k hk
    clear hb hr
    by_cases hlt : k < l.length
    · have hlt' : (k : Int) < l.length := by omega
      obtain ⟨b, o, p, rfl, hc⟩ := unhide HV k hlt
      have HD := hide (dpt_take hlt)
      have HBn : Hid (∀ j, j + 1 = k → (BinAt tkX lv l j ↔ dpt tkX (l.take (k + 1)) = 0 ∧ sgN l[k] lv ≠ 0 ∧ eoB (l[j]?.getD ⟨#[]⟩) = true)) := hide fun j e => by
        subst e
        rw [List.getElem?_eq_getElem (by omega)]
        exact binAt_of hlt (unhide HT)
      have HP : Hid (∀ j, j + 1 = k → ∃ p, TCel _ b (o + j * 3) (l[j]?.getD ⟨#[]⟩) p ∧ (l[j]?.getD ⟨#[]⟩).size ≤ 1048576) := hide fun j e => by
        obtain ⟨b', o', p', e', hc'⟩ := unhide HV j (by omega)
        cases e'
        rw [List.getElem?_eq_getElem (show j < l.length by omega)]
        exact ⟨p', hc', ((unhide HT).at (show j < l.length by omega)).2⟩
      generalize l[k] = t at *
      have HC := hide hc
      obtain ⟨-, c0, c1, c2⟩ := hc
      have HL := hide (fun w => sym_tok (t := t) (s := ⟨#[40]⟩) p (by decide) w)
      have HJ := hide (fun w => sym_tok (t := t) (s := ⟨#[41]⟩) p (by decide) w)
      have HS := hide (fun w => sign_tok t p lv w)
      unfold tV at HL HJ HS
      generalize dpt tkX (l.take k) = d at *
      obtain ⟨d', hd'⟩ : ∃ d', dpt tkX (l.take (k + 1)) = d' := ⟨_, rfl⟩
      rw [hd'] at HD HBn
      have wp1 : wrap64 (d + 1) = d + 1 := wrap64_small (by omega) (by omega)
      have wm1 : wrap64 (d - 1) = d - 1 := wrap64_small (by omega) (by omega)
      have HD2 := hide hd'
      have hdd : Hid (dlt tkX t = 1 ∨ dlt tkX t = -1 ∨ dlt tkX t = 0) := hide (dlt_small t)
      rcases tokLR t with ⟨q1, q2, -, -, q5⟩ | ⟨q1, q2, -, -, q5⟩ | ⟨q1, q2, -, -, q5⟩
      all_goals
        rw [q1] at HL; rw [q2] at HJ; rw [q5] at HD
        have hdq := unhide HD
        clear q1 q2 q5 HD hdd hd'
        go_wp2_with fail
        refine (unhide HL _).mono ?_
        rintro e W1 ⟨rfl, hb⟩
        replace HB := hide ((unhide HB).trans (hb.mono (unhide HB).size)); replace HC := hide ((unhide HC).mono hb)
        replace HP : Hid (∀ j, j + 1 = k → ∃ p, TCel W1 b (o + j * 3) (l[j]?.getD ⟨#[]⟩) p ∧ (l[j]?.getD ⟨#[]⟩).size ≤ 1048576) := hide fun j e => by obtain ⟨p, h1, h2⟩ := unhide HP j e; exact ⟨p, h1.mono hb, h2⟩
        clear hb c0 c1 c2
        obtain ⟨-, c0, c1, c2⟩ := unhide HC
        go_wp2_with fail
        refine (unhide HJ _).mono ?_
        rintro e W2 ⟨rfl, hb⟩
        replace HB := hide ((unhide HB).trans (hb.mono (unhide HB).size)); replace HC := hide ((unhide HC).mono hb)
        replace HP : Hid (∀ j, j + 1 = k → ∃ p, TCel W2 b (o + j * 3) (l[j]?.getD ⟨#[]⟩) p ∧ (l[j]?.getD ⟨#[]⟩).size ≤ 1048576) := hide fun j e => by obtain ⟨p, h1, h2⟩ := unhide HP j e; exact ⟨p, h1.mono hb, h2⟩
        clear hb c0 c1 c2
        obtain ⟨-, c0, c1, c2⟩ := unhide HC
        try rw [← Int.sub_eq_add_neg] at hdq
        try rw [Int.add_zero] at hdq
        by_cases h0 : d' = 0
        · have h0' : (d' == 0) = true := by simp [h0]
          rw [hdq] at h0'
          by_cases hk0 : k = 0
          · have HX := hide (lsd_no (unhide HR) (fun j e => by omega))
            have hk1 : ¬ (0 : Int) < k := by omega
            go_wp2_with fail
            go_roundw
            case rel => exact ⟨k + 1, last, by omega, by rw [unhide HD2, hdq], rfl, by go_num, unhide HX, unhide HB⟩
            case measure => simp [intOf]; omega
          obtain ⟨j, rfl⟩ : ∃ j, k = j + 1 := ⟨k - 1, by omega⟩
          have hk1 : (0 : Int) < ((j + 1 : Nat) : Int) := by omega
          have hw1 : wrap64 (((j + 1 : Nat) : Int) - 1) = (j : Int) := by rw [wrap64_small (by omega) (by omega)]; omega
          have hj' : (j : Int) < l.length := by omega
          obtain ⟨p', hc', hz'⟩ := unhide HP j rfl
          have HBj := hide (unhide HBn j rfl)
          generalize l[j]?.getD ⟨#[]⟩ = pt at *
          have HE := hide (fun w => ends_tok pt p' (by omega) w)
          unfold tV at HE
          have HC' := hide hc'
          clear hc' HP HBn
          by_cases hs : sgN t lv = 0
          · have HX := hide (lsd_no (unhide HR) (fun i e hb => by obtain rfl : i = j := (by omega); exact ((unhide HBj).1 hb).2.1 hs))
            rw [hs] at HS
            go_wp2_with fail
            refine (unhide HS _).mono ?_
            rintro e W3 ⟨rfl, hb⟩
            replace HB := hide ((unhide HB).trans (hb.mono (unhide HB).size))
            clear hb c0 c1 c2
            go_wp2_with fail
            go_roundw
            case rel => exact ⟨j + 1 + 1, last, by omega, by rw [unhide HD2, hdq], rfl, by go_num, unhide HX, unhide HB⟩
            case measure => simp [intOf]; omega
          have hs' : ((sgN t lv : Int) == 0) = false := beq_eq_false_iff_ne.2 (by omega)
          generalize sgN t lv = sg at *
          cases he : eoB pt
          · have HX := hide (lsd_no (unhide HR) (fun i e hb => by obtain rfl : i = j := (by omega); have := ((unhide HBj).1 hb).2.2; rw [he] at this; cases this))
            rw [he] at HE
            go_wp2_with fail
            refine (unhide HS _).mono ?_
            rintro e W3 ⟨rfl, hb⟩
            replace HB := hide ((unhide HB).trans (hb.mono (unhide HB).size)); replace HC' := hide ((unhide HC').mono hb)
            clear hb c0 c1 c2
            obtain ⟨-, c0, c1, c2⟩ := unhide HC'
            go_wp2_with fail
            refine (unhide HE _).mono ?_
            rintro e W4 ⟨rfl, hb⟩
            replace HB := hide ((unhide HB).trans (hb.mono (unhide HB).size))
            clear hb c0 c1 c2
            go_wp2_with fail
            go_roundw
            case rel => exact ⟨j + 1 + 1, last, by omega, by rw [unhide HD2, hdq], rfl, by go_num, unhide HX, unhide HB⟩
            case measure => simp [intOf]; omega
          · have HX := hide (lsd_yes ((unhide HBj).2 ⟨h0, hs, he⟩))
            rw [he] at HE
            go_wp2_with fail
            refine (unhide HS _).mono ?_
            rintro e W3 ⟨rfl, hb⟩
            replace HB := hide ((unhide HB).trans (hb.mono (unhide HB).size)); replace HC' := hide ((unhide HC').mono hb)
            clear hb c0 c1 c2
            obtain ⟨-, c0, c1, c2⟩ := unhide HC'
            go_wp2_with fail
            refine (unhide HE _).mono ?_
            rintro e W4 ⟨rfl, hb⟩
            replace HB := hide ((unhide HB).trans (hb.mono (unhide HB).size))
            clear hb c0 c1 c2
            go_wp2_with fail
            go_roundw
            case rel => exact ⟨j + 1 + 1, some (j + 1), by omega, by rw [unhide HD2, hdq], rfl, by go_num, unhide HX, unhide HB⟩
            case measure => simp [intOf]; omega
        · have h0' : (d' == 0) = false := beq_eq_false_iff_ne.2 h0
          rw [hdq] at h0'
          have HX := hide (lsd_no (unhide HR) (fun j e hb => h0 ((unhide HBn j e).1 hb).1))
          go_wp2_with fail
          go_roundw
          case rel => exact ⟨k + 1, last, by omega, by rw [unhide HD2, hdq], rfl, by go_num, unhide HX, unhide HB⟩
          case measure => simp [intOf]; omega
    · obtain rfl : k = l.length := by omega
      have hlt' : ¬ (l.length : Int) < l.length := by omega
      go_wp2_with fail
      go_ret
      exact ⟨last, rfl, unhide HR, unhide HB⟩
end Go.Proofs.YtjgngbmkpiihgaaGreatDoor
