import Derived.Test.YtjgngbmkpiihgaaGreatDoorGPg
import Derived.Test.YtjgngbmkpiihgaaGreatDoorZLev
import Derived.Test.YtjgngbmkpiihgaaGreatDoorZRvM
import Derived.Test.YtjgngbmkpiihgaaGreatDoorGNa
/- The tokens of expressions, as the program has them: texts. -/
namespace Go.Proofs.YtjgngbmkpiihgaaGreatDoor
open Go

/-- The operator from a on, among n, that is so written. -/
def opW (s : ByteArray) : Nat → Nat → Nat
  | _, 0 => 0
  | a, n + 1 => if wrd a = s then a else opW s (a + 1) n
theorem opW_some {s : ByteArray} : ∀ {n a : Nat}, opW s a n ≠ 0 → a ≤ opW s a n ∧ opW s a n < a + n ∧ wrd (opW s a n : Nat) = s
  | 0, _, h => absurd rfl h
  | n + 1, a, h => by
    unfold opW at h ⊢
    split at h
    · rename_i e
      rw [if_pos e]
      exact ⟨Nat.le_refl _, by omega, e⟩
    · rename_i e
      rw [if_neg e]
      have := opW_some (n := n) (a := a + 1) h
      exact ⟨by omega, by omega, this.2.2⟩
def opNd (o : Nat) : Nx := ⟨o, blankX, ⟨#[]⟩⟩
def fldNd (s : ByteArray) : Nx := ⟨1, blankX, s⟩
def cstNd (s : ByteArray) : Nx := ⟨0, ⟨(rv s).1, (rv s).2.1, (rv s).2.2.1⟩, ⟨#[]⟩⟩
def tkK (s : ByteArray) : Option Nx := if goodN s = true then some (fldNd s) else if (rv s).2.2.2 = true then some (cstNd s) else none
def tkX : Lx ByteArray Nx where
  L s := decide (s = ⟨#[40]⟩)
  R s := decide (s = ⟨#[41]⟩)
  C s := decide (s = ⟨#[44]⟩)
  b s := opW s 4 12
  u s := opW s 2 2
  k := tkK
  g := goodN
  f s := if goodN s = true then opW s 16 10 else 0
  lv o := (lvl o).toNat
  ar o := (ar o).toNat
  o := opNd
/-- A sign stands for no operand. -/
theorem tkK_none {s : ByteArray} (h : goodN s = false) (h' : (rv s).2.2.2 = false) : tkK s = none := by
  unfold tkK; rw [h, h']; rfl
theorem rv_no {s : ByteArray} (h1 : s ≠ ⟨#[98, 108, 97, 110, 107]⟩) (h2 : s ≠ ⟨#[116, 114, 117, 101]⟩) (h3 : s ≠ ⟨#[102, 97, 108, 115, 101]⟩) (h4 : ∀ c r, s.data.toList = c :: r → ¬ ((c = 45 ∧ r ≠ []) ∨ (48 ≤ c.toNat ∧ c.toNat ≤ 57) ∨ c = 34)) : (rv s).2.2.2 = false := by
  cases q : (rv s).2.2.2 with
  | false => rfl
  | true =>
    rcases rv_head q with h | h | h | ⟨c, r, h, h'⟩
    · exact absurd h h1
    · exact absurd h h2
    · exact absurd h h3
    · exact absurd h' (h4 c r h)
theorem sgn_k : ∀ s ∈ ([⟨#[40]⟩, ⟨#[41]⟩, ⟨#[44]⟩] ++ [2, 3, 4, 5, 6, 7, 8, 9, 10, 11, 12, 13, 14, 15].map (fun o : Int => wrd o) : List ByteArray), tkK s = none := by
  intro s hs
  have hs' : s ∈ ([⟨#[40]⟩, ⟨#[41]⟩, ⟨#[44]⟩, ⟨#[45]⟩, ⟨#[110, 111, 116]⟩, ⟨#[42]⟩, ⟨#[47]⟩, ⟨#[37]⟩, ⟨#[43]⟩, ⟨#[45]⟩, ⟨#[38]⟩, ⟨#[61]⟩, ⟨#[60, 62]⟩, ⟨#[60]⟩, ⟨#[60, 61]⟩, ⟨#[97, 110, 100]⟩, ⟨#[111, 114]⟩] : List ByteArray) := hs
  simp only [List.mem_cons, List.not_mem_nil, or_false] at hs'
  rcases hs' with h | h | h | h | h | h | h | h | h | h | h | h | h | h | h | h | h
  all_goals
    subst h
    refine tkK_none (by first | decide | decide +kernel) (rv_no (by decide) (by decide) (by decide) fun c r h => ?_)
    simp only [List.cons.injEq] at h
    obtain ⟨rfl, rfl⟩ := h
    decide
theorem b_k {s : ByteArray} (h : opW s 4 12 ≠ 0) : tkK s = none := by
  obtain ⟨h1, h2, h3⟩ := opW_some h
  generalize opW s 4 12 = o at *
  refine sgn_k s ?_
  rw [← h3]
  have : o = 4 ∨ o = 5 ∨ o = 6 ∨ o = 7 ∨ o = 8 ∨ o = 9 ∨ o = 10 ∨ o = 11 ∨ o = 12 ∨ o = 13 ∨ o = 14 ∨ o = 15 := by omega
  rcases this with rfl | rfl | rfl | rfl | rfl | rfl | rfl | rfl | rfl | rfl | rfl | rfl <;> exact List.mem_append_right _ (List.mem_map.2 ⟨_, by decide, rfl⟩)
theorem u_k {s : ByteArray} (h : opW s 2 2 ≠ 0) : tkK s = none := by
  obtain ⟨h1, h2, h3⟩ := opW_some h
  generalize opW s 2 2 = o at *
  refine sgn_k s ?_
  rw [← h3]
  have : o = 2 ∨ o = 3 := by omega
  rcases this with rfl | rfl <;> exact List.mem_append_right _ (List.mem_map.2 ⟨_, by decide, rfl⟩)
theorem tkX_ok : tkX.Ok where
  LR t h := by
    obtain rfl : t = ⟨#[40]⟩ := of_decide_eq_true h
    exact ⟨by decide, by decide, by decide, by decide, sgn_k ⟨#[40]⟩ (List.mem_append_left _ (by simp))⟩
  RC t h := by
    obtain rfl : t = ⟨#[41]⟩ := of_decide_eq_true h
    exact ⟨by decide, by decide, by decide, sgn_k ⟨#[41]⟩ (List.mem_append_left _ (by simp))⟩
  Cb t h := by
    obtain rfl : t = ⟨#[44]⟩ := of_decide_eq_true h
    exact ⟨by decide, by decide, sgn_k ⟨#[44]⟩ (List.mem_append_left _ (by simp))⟩
  bk t h := b_k h
  uk t h := u_k h
  gk t h := by
    show tkK t ≠ none
    unfold tkK
    rw [if_pos (show goodN t = true from h)]
    simp
  fg t h := by
    cases q : goodN t with
    | true => exact q
    | false => exact absurd (by show (if goodN t = true then _ else 0) = 0; rw [q]; rfl) h
  lv t h := by
    obtain ⟨h1, h2, h3⟩ := opW_some h
    show 1 ≤ (lvl (opW t 4 12 : Nat)).toNat ∧ (lvl (opW t 4 12 : Nat)).toNat ≤ 5
    generalize opW t 4 12 = o at *
    have : o = 4 ∨ o = 5 ∨ o = 6 ∨ o = 7 ∨ o = 8 ∨ o = 9 ∨ o = 10 ∨ o = 11 ∨ o = 12 ∨ o = 13 ∨ o = 14 ∨ o = 15 := by omega
    rcases this with rfl | rfl | rfl | rfl | rfl | rfl | rfl | rfl | rfl | rfl | rfl | rfl <;> decide
  ar t h := by
    have hg : goodN t = true := by
      cases q : goodN t with
      | true => rfl
      | false => exact absurd (by show (if goodN t = true then _ else 0) = 0; rw [q]; rfl) h
    have h' : opW t 16 10 ≠ 0 := by
      have e : tkX.f t = opW t 16 10 := by show (if goodN t = true then _ else 0) = _; rw [if_pos hg]
      rw [← e]; exact h
    have e : tkX.f t = opW t 16 10 := by show (if goodN t = true then _ else 0) = _; rw [if_pos hg]
    rw [e]
    obtain ⟨h1, h2, h3⟩ := opW_some h'
    show 1 ≤ (Go.Proofs.YtjgngbmkpiihgaaGreatDoor.ar (opW t 16 10 : Nat)).toNat
    generalize opW t 16 10 = o at *
    have : o = 16 ∨ o = 17 ∨ o = 18 ∨ o = 19 ∨ o = 20 ∨ o = 21 ∨ o = 22 ∨ o = 23 ∨ o = 24 ∨ o = 25 := by omega
    rcases this with rfl | rfl | rfl | rfl | rfl | rfl | rfl | rfl | rfl | rfl <;> decide
end Go.Proofs.YtjgngbmkpiihgaaGreatDoor

/- Cutting a text into tokens, as data. -/
namespace Go.Proofs.YtjgngbmkpiihgaaGreatDoor
open Go

def bt (s : ByteArray) (i : Nat) : Nat := if h : i < s.size then (s[i]).toNat else 0
theorem bt_lt {s : ByteArray} {i : Nat} (h : i < s.size) : bt s i = (s[i]).toNat := by unfold bt; rw [dif_pos h]
theorem bt_ge {s : ByteArray} {i : Nat} (h : ¬ i < s.size) : bt s i = 0 := by unfold bt; rw [dif_neg h]
def wsB (c : Nat) : Bool := decide (c = 32 ∨ c = 10)
def symB (c : Nat) : Bool := decide (c = 40 ∨ c = 41 ∨ c = 44 ∨ c = 59 ∨ c = 43 ∨ c = 45 ∨ c = 42 ∨ c = 47 ∨ c = 37 ∨ c = 38 ∨ c = 61)
/-- The place behind the token that begins at i, or i itself. -/
def tokE (s : ByteArray) (i : Nat) : Nat :=
  if small (bt s i) = true then i + 1 + runN nameB s (i + 1)
  else if digitB (bt s i) = true then i + 1 + runN digitB s (i + 1)
  else if bt s i = 34 then (if bt s (i + 1 + runN tb s (i + 1)) = 34 then i + 1 + runN tb s (i + 1) + 1 else i)
  else if bt s i = 60 then (if bt s (i + 1) = 62 ∨ bt s (i + 1) = 61 then i + 2 else i + 1)
  else if symB (bt s i) = true then i + 1 else i
def keepsB (t : ByteArray) : Bool := if small (bt t 0) = true then decide (t.size ≤ 16) else if digitB (bt t 0) = true ∨ bt t 0 = 34 then (rv t).2.2.2 else true
def tk (s : ByteArray) (i : Nat) : Option (ByteArray × Nat) := if tokE s i = i then none else if keepsB (s.extract i (tokE s i)) = true then some (s.extract i (tokE s i), tokE s i) else none
/-- The tokens of a text, or the place of the first bad one. -/
def lxF (s : ByteArray) : Nat → Nat → List ByteArray → Nat ⊕ List ByteArray
  | 0, _, acc => .inr acc
  | f + 1, i, acc => if s.size ≤ i then .inr acc else if wsB (bt s i) = true then lxF s f (i + 1) acc else match tk s i with
    | none => .inl i
    | some (t, e) => lxF s f e (acc ++ [t])
/-- Where the cutting has come to. -/
def LxAt (s : ByteArray) (i : Nat) (acc : List ByteArray) : Prop := ∃ f, s.size - i ≤ f ∧ lxF s f i acc = lxF s s.size 0 []
theorem LxAt.start (s : ByteArray) : LxAt s 0 [] := ⟨s.size, Nat.le_refl _, rfl⟩
theorem LxAt.done {s : ByteArray} {i : Nat} {acc : List ByteArray} (h : LxAt s i acc) (hi : s.size ≤ i) : lxF s s.size 0 [] = .inr acc := by
  obtain ⟨f, -, h⟩ := h
  rw [← h]
  cases f with
  | zero => rfl
  | succ f => unfold lxF; rw [if_pos hi]
theorem LxAt.skip {s : ByteArray} {i : Nat} {acc : List ByteArray} (h : LxAt s i acc) (hi : i < s.size) (hw : wsB (bt s i) = true) : LxAt s (i + 1) acc := by
  obtain ⟨f, hf, h⟩ := h
  obtain ⟨f, rfl⟩ : ∃ g, f = g + 1 := ⟨f - 1, by omega⟩
  refine ⟨f, by omega, ?_⟩
  rw [← h]
  conv => rhs; unfold lxF
  rw [if_neg (by omega), if_pos hw]
theorem LxAt.next {s : ByteArray} {i e : Nat} {t : ByteArray} {acc : List ByteArray} (h : LxAt s i acc) (hi : i < s.size) (hw : wsB (bt s i) = false) (ht : tk s i = some (t, e)) (he : i < e) : LxAt s e (acc ++ [t]) := by
  obtain ⟨f, hf, h⟩ := h
  obtain ⟨f, rfl⟩ : ∃ g, f = g + 1 := ⟨f - 1, by omega⟩
  refine ⟨f, by omega, ?_⟩
  rw [← h]
  conv => rhs; unfold lxF
  rw [if_neg (by omega), if_neg (by rw [hw]; decide), ht]
theorem LxAt.bad {s : ByteArray} {i : Nat} {acc : List ByteArray} (h : LxAt s i acc) (hi : i < s.size) (hw : wsB (bt s i) = false) (ht : tk s i = none) : lxF s s.size 0 [] = .inl i := by
  obtain ⟨f, hf, h⟩ := h
  obtain ⟨f, rfl⟩ : ∃ g, f = g + 1 := ⟨f - 1, by omega⟩
  rw [← h]
  unfold lxF
  rw [if_neg (by omega), if_neg (by rw [hw]; decide), ht]
theorem tokE_le {s : ByteArray} {i : Nat} (hi : i < s.size) : i ≤ tokE s i ∧ tokE s i ≤ s.size := by
  have a := runN_le nameB s (i + 1)
  have b := runN_le digitB s (i + 1)
  have c := runN_le tb s (i + 1)
  unfold tokE
  split
  · omega
  · split
    · omega
    · split
      · split
        · rename_i h
          by_cases hq : i + 1 + runN tb s (i + 1) < s.size
          · omega
          · rw [bt_ge hq] at h; cases h
        · omega
      · split
        · split
          · rename_i h
            by_cases hq : i + 1 < s.size
            · omega
            · rw [bt_ge hq] at h; omega
          · omega
        · split <;> omega
theorem tk_some {s t : ByteArray} {i e : Nat} (hi : i < s.size) (h : tk s i = some (t, e)) : i < e ∧ e ≤ s.size ∧ e = tokE s i ∧ t = s.extract i e ∧ keepsB t = true := by
  unfold tk at h
  have := tokE_le hi
  split at h
  · cases h
  · split at h
    · rename_i h1 h2
      cases h
      exact ⟨by omega, this.2, rfl, rfl, h2⟩
    · cases h
/-- Class and text of a token, as the model has them. -/
def cls (t : ByteArray) : Nat := if small (bt t 0) = true then 1 else if digitB (bt t 0) = true then 2 else if bt t 0 = 34 then 3 else 4
def txt (t : ByteArray) : ByteArray := if cls t = 3 then mid t else t
theorem bt_ext {s : ByteArray} {i e j : Nat} (he : e ≤ s.size) (hj : i + j < e) : bt (s.extract i e) j = bt s (i + j) := by
  have h1 : j < (s.extract i e).size := by simp; omega
  rw [bt_lt h1, bt_lt (by omega), ByteArray.getElem_extract]
theorem small_nb {c : Nat} (h : small c = true) : nameB c = true := by unfold nameB; rw [h]; rfl
/-- One byte more in front. -/
theorem runN_succ {p : Nat → Bool} {s : ByteArray} {i : Nat} (hi : i < s.size) (h : p (bt s i) = true) : runN p s i = 1 + runN p s (i + 1) := by
  unfold runN
  rw [bt_lt hi] at h
  have e : s.data.toList.drop i = s[i] :: s.data.toList.drop (i + 1) := List.drop_eq_getElem_cons (l := s.data.toList) (i := i) (by rw [Array.length_toList]; exact hi)
  rw [e, List.takeWhile_cons_of_pos (by simpa using h), List.length_cons]
  omega
end Go.Proofs.YtjgngbmkpiihgaaGreatDoor

/- What a token is. -/
namespace Go.Proofs.YtjgngbmkpiihgaaGreatDoor
open Go

theorem ba_ext {a b : ByteArray} (h : a.data.toList = b.data.toList) : a = b := by
  cases a with
  | mk x =>
    cases b with
    | mk y =>
      have : x = y := Array.toList_inj.1 h
      rw [this]
theorem bt_one {t : ByteArray} (h : t.size = 1) {c : UInt8} (hc : bt t 0 = c.toNat) : t = ⟨#[c]⟩ := by
  rw [bt_lt (by omega)] at hc
  refine ba_ext (List.ext_getElem (by simpa using h) fun j h1 h2 => ?_)
  have hj : j = 0 := by simp at h2; omega
  subst hj
  simp only [Array.getElem_toList]
  exact UInt8.toNat_inj.1 hc
theorem bt_two {t : ByteArray} (h : t.size = 2) {c d : UInt8} (hc : bt t 0 = c.toNat) (hd : bt t 1 = d.toNat) : t = ⟨#[c, d]⟩ := by
  rw [bt_lt (by omega)] at hc hd
  refine ba_ext (List.ext_getElem (by simpa using h) fun j h1 h2 => ?_)
  have hj : j = 0 ∨ j = 1 := by simp at h2; omega
  rcases hj with rfl | rfl
  · simp only [Array.getElem_toList]; exact UInt8.toNat_inj.1 hc
  · simp only [Array.getElem_toList]; exact UInt8.toNat_inj.1 hd
def syms : List ByteArray := [⟨#[40]⟩, ⟨#[41]⟩, ⟨#[44]⟩, ⟨#[59]⟩, ⟨#[43]⟩, ⟨#[45]⟩, ⟨#[42]⟩, ⟨#[47]⟩, ⟨#[37]⟩, ⟨#[38]⟩, ⟨#[61]⟩, ⟨#[60]⟩, ⟨#[60, 62]⟩, ⟨#[60, 61]⟩]
structure VT (t : ByteArray) : Prop where
  ne : 0 < t.size
  c1 : cls t = 1 → t.size ≤ 16
  c2 : cls t = 2 → (rv t).2.2.2 = true
  c3 : cls t = 3 → (rv t).2.2.2 = true
  c4 : cls t = 4 → t ∈ syms
theorem tk_vt {s t : ByteArray} {i e : Nat} (hi : i < s.size) (h : tk s i = some (t, e)) : VT t := by
  obtain ⟨h1, h2, h3, rfl, h5⟩ := tk_some hi h
  have hb : bt (s.extract i e) 0 = bt s i := bt_ext h2 (by omega)
  have hz : (s.extract i e).size = e - i := by simp; omega
  refine ⟨by omega, fun hc => ?_, fun hc => ?_, fun hc => ?_, fun hc => ?_⟩
  · unfold cls at hc
    split at hc
    · rename_i hq
      unfold keepsB at h5
      rw [if_pos hq] at h5
      exact of_decide_eq_true h5
    · split at hc
      · omega
      · split at hc <;> omega
  · unfold cls at hc
    split at hc
    · omega
    · rename_i hq
      split at hc
      · rename_i hd
        unfold keepsB at h5
        rw [if_neg hq, if_pos (.inl hd)] at h5
        exact h5
      · split at hc <;> omega
  · unfold cls at hc
    split at hc
    · omega
    · rename_i hq
      split at hc
      · omega
      · split at hc
        · rename_i hd
          unfold keepsB at h5
          rw [if_neg hq, if_pos (.inr hd)] at h5
          exact h5
        · omega
  · unfold cls at hc
    split at hc
    · omega
    · rename_i hq
      split at hc
      · omega
      · rename_i hd
        split at hc
        · omega
        · rename_i h34
          rw [hb] at hq hd h34
          unfold tokE at h3
          rw [if_neg hq, if_neg hd, if_neg h34] at h3
          split at h3
          · rename_i h60
            split at h3
            · rename_i hn
              have hz2 : (s.extract i e).size = 2 := by omega
              have hb1 : bt (s.extract i e) 1 = bt s (i + 1) := bt_ext h2 (by omega)
              rcases hn with hn | hn
              · rw [bt_two hz2 (c := 60) (d := 62) (by rw [hb, h60]; rfl) (by rw [hb1, hn]; rfl)]; simp [syms]
              · rw [bt_two hz2 (c := 60) (d := 61) (by rw [hb, h60]; rfl) (by rw [hb1, hn]; rfl)]; simp [syms]
            · rw [bt_one (t := s.extract i e) (by omega) (c := 60) (by rw [hb, h60]; rfl)]; simp [syms]
          · split at h3
            · rename_i hs
              have hz1 : (s.extract i e).size = 1 := by omega
              have hs' := of_decide_eq_true hs
              rcases hs' with h | h | h | h | h | h | h | h | h | h | h
              · rw [bt_one hz1 (c := 40) (by rw [hb, h]; rfl)]; simp [syms]
              · rw [bt_one hz1 (c := 41) (by rw [hb, h]; rfl)]; simp [syms]
              · rw [bt_one hz1 (c := 44) (by rw [hb, h]; rfl)]; simp [syms]
              · rw [bt_one hz1 (c := 59) (by rw [hb, h]; rfl)]; simp [syms]
              · rw [bt_one hz1 (c := 43) (by rw [hb, h]; rfl)]; simp [syms]
              · rw [bt_one hz1 (c := 45) (by rw [hb, h]; rfl)]; simp [syms]
              · rw [bt_one hz1 (c := 42) (by rw [hb, h]; rfl)]; simp [syms]
              · rw [bt_one hz1 (c := 47) (by rw [hb, h]; rfl)]; simp [syms]
              · rw [bt_one hz1 (c := 37) (by rw [hb, h]; rfl)]; simp [syms]
              · rw [bt_one hz1 (c := 38) (by rw [hb, h]; rfl)]; simp [syms]
              · rw [bt_one hz1 (c := 61) (by rw [hb, h]; rfl)]; simp [syms]
            · omega
theorem txt_eq {t : ByteArray} (h : cls t ≠ 3) : txt t = t := by unfold txt; rw [if_neg h]
/-- A symbol, a word: by class and text, and by the token itself. -/
theorem sym_iff {t w : ByteArray} (hw : cls w = 4) : (cls t = 4 ∧ txt t = w) ↔ t = w := by
  constructor
  · rintro ⟨h1, h2⟩
    rw [txt_eq (by omega)] at h2; exact h2
  · rintro rfl
    exact ⟨hw, txt_eq (by omega)⟩
theorem word_iff {t w : ByteArray} (hw : cls w = 1) : (cls t = 1 ∧ txt t = w) ↔ t = w := by
  constructor
  · rintro ⟨h1, h2⟩
    rw [txt_eq (by omega)] at h2; exact h2
  · rintro rfl
    exact ⟨hw, txt_eq (by omega)⟩
theorem goodN_cls {t : ByteArray} (h : goodN t = true) : cls t = 1 := by
  unfold goodN at h
  simp only [Bool.and_eq_true, decide_eq_true_eq] at h
  have h0 : bt t 0 = (t.data.getD 0 0).toNat := by
    rw [bt_lt (by omega)]
    have hd : 0 < t.data.size := by have := h.1.1.1.1; exact this
    have hd' : 0 < t.size := hd
    simp only [Array.getD, hd, dif_pos]
    rfl
  unfold cls
  rw [h0, if_pos h.1.1.2]
theorem good_iff {t : ByteArray} : (cls t = 1 ∧ goodN (txt t) = true) ↔ goodN t = true := by
  constructor
  · rintro ⟨h1, h2⟩
    rw [txt_eq (by omega)] at h2; exact h2
  · intro h
    have := goodN_cls h
    exact ⟨this, by rw [txt_eq (by omega)]; exact h⟩
theorem bt0 {t : ByteArray} {c : UInt8} {r : List UInt8} (h : t.data.toList = c :: r) : bt t 0 = c.toNat := by
  have hz : 0 < t.size := by
    have := congrArg List.length h
    rw [Array.length_toList, List.length_cons] at this
    show 0 < t.data.size
    omega
  rw [bt_lt hz]
  have : t.data.toList[0]? = some c := by rw [h]; rfl
  rw [List.getElem?_eq_some_iff] at this
  obtain ⟨h1, h2⟩ := this
  rw [← h2]
  simp; rfl
/-- A number: what it reads as. -/
theorem rv_int {t : ByteArray} (h : cls t = 2) (hr : (rv t).2.2.2 = true) : ∃ n, readDec t.data.toList = some n ∧ rv t = (1, n, ⟨#[]⟩, true) := by
  have hd : ∀ c r, t.data.toList = c :: r → 48 ≤ c.toNat ∧ c.toNat ≤ 57 := fun c r e => by
    have := bt0 e
    unfold cls at h
    split at h
    · omega
    · split at h
      · rename_i hq
        rw [this] at hq
        exact of_decide_eq_true hq
      · split at h <;> omega
  have n1 : t ≠ ⟨#[98, 108, 97, 110, 107]⟩ := fun e => by subst e; exact absurd (hd 98 _ rfl) (by decide)
  have n2 : t ≠ ⟨#[116, 114, 117, 101]⟩ := fun e => by subst e; exact absurd (hd 116 _ rfl) (by decide)
  have n3 : t ≠ ⟨#[102, 97, 108, 115, 101]⟩ := fun e => by subst e; exact absurd (hd 102 _ rfl) (by decide)
  unfold rv at hr ⊢
  rw [if_neg n1, if_neg n2, if_neg n3] at hr ⊢
  split at hr
  · rename_i n hn
    exact ⟨n, hn, rfl⟩
  · split at hr
    · rename_i hq
      have := congrArg (fun x : ByteArray => x.data.toList) hq.2.2
      simp only [ByteArray.data_append, Array.toList_append] at this
      have h9 := hd 34 _ this.symm
      exact absurd h9 (by decide)
    · cases hr
/-- A text: what it reads as. -/
theorem rv_txt {t : ByteArray} (h : cls t = 3) (hr : (rv t).2.2.2 = true) : rv t = (3, 0, mid t, true) ∧ okText (mid t) = true := by
  have hd : bt t 0 = 34 := by
    unfold cls at h
    split at h
    · omega
    · split at h
      · omega
      · split at h
        · assumption
        · omega
  have hd' : ∀ c r, t.data.toList = c :: r → c.toNat = 34 := fun c r e => by rw [← bt0 e]; exact hd
  have n1 : t ≠ ⟨#[98, 108, 97, 110, 107]⟩ := fun e => by subst e; exact absurd (hd' 98 _ rfl) (by decide)
  have n2 : t ≠ ⟨#[116, 114, 117, 101]⟩ := fun e => by subst e; exact absurd (hd' 116 _ rfl) (by decide)
  have n3 : t ≠ ⟨#[102, 97, 108, 115, 101]⟩ := fun e => by subst e; exact absurd (hd' 102 _ rfl) (by decide)
  unfold rv at hr ⊢
  rw [if_neg n1, if_neg n2, if_neg n3] at hr ⊢
  split at hr
  · rename_i n hn
    obtain ⟨c, r, e, hc⟩ := readDec_head hn
    have := hd' c r e
    rcases hc with ⟨rfl, -⟩ | hc
    · exact absurd this (by decide)
    · omega
  · rename_i hn
    split at hr
    · rename_i hq
      exact ⟨if_pos hq, hq.2.1⟩
    · cases hr
end Go.Proofs.YtjgngbmkpiihgaaGreatDoor

/- Tokens by class and text, as the model asks of them, and by the grammar. -/
namespace Go.Proofs.YtjgngbmkpiihgaaGreatDoor
open Go

/-- The operator of a level that is so written. -/
def opL (x : ByteArray) (l : Int) : Nat → Nat → Nat
  | _, 0 => 0
  | a, n + 1 => if lvl a = l ∧ wrd a = x then a else opL x l (a + 1) n
theorem opL_some {x : ByteArray} {l : Int} : ∀ {n a : Nat}, opL x l a n ≠ 0 → a ≤ opL x l a n ∧ opL x l a n < a + n ∧ lvl (opL x l a n : Nat) = l ∧ wrd (opL x l a n : Nat) = x
  | 0, _, h => absurd rfl h
  | n + 1, a, h => by
    unfold opL at h ⊢
    split at h
    · rename_i e
      rw [if_pos e]
      exact ⟨Nat.le_refl _, by omega, e.1, e.2⟩
    · rename_i e
      rw [if_neg e]
      have := opL_some (n := n) (a := a + 1) h
      exact ⟨by omega, by omega, this.2.2⟩
theorem opL_at {x : ByteArray} {l : Int} : ∀ {n a o : Nat}, 0 < a → a ≤ o → o < a + n → lvl o = l → wrd o = x → opL x l a n ≠ 0
  | 0, a, o, _, h1, h2, _, _ => by omega
  | n + 1, a, o, h0, h1, h2, h3, h4 => by
    unfold opL
    split
    · omega
    · rename_i e
      by_cases hq : a = o
      · subst hq; exact absurd ⟨h3, h4⟩ e
      · exact opL_at (by omega) (by omega) (by omega) h3 h4
theorem opW_at {x : ByteArray} : ∀ {n a o : Nat}, 0 < a → a ≤ o → o < a + n → wrd o = x → opW x a n ≠ 0
  | 0, a, o, _, h1, h2, _ => by omega
  | n + 1, a, o, h0, h1, h2, h4 => by
    unfold opW
    split
    · omega
    · rename_i e
      by_cases hq : a = o
      · subst hq; exact absurd h4 e
      · exact opW_at (by omega) (by omega) (by omega) h4
theorem wrd_inj {a b : Nat} (ha : 4 ≤ a) (ha' : a ≤ 15) (hb : 4 ≤ b) (hb' : b ≤ 15) (h : wrd (a : Nat) = wrd (b : Nat)) : a = b := by
  have key : ∀ i : Fin 12, ∀ j : Fin 12, wrd ((i.val + 4 : Nat) : Int) = wrd ((j.val + 4 : Nat) : Int) → i = j := by decide
  have := key ⟨a - 4, by omega⟩ ⟨b - 4, by omega⟩ (by
    show wrd ((a - 4 + 4 : Nat) : Int) = wrd ((b - 4 + 4 : Nat) : Int)
    rw [show a - 4 + 4 = a by omega, show b - 4 + 4 = b by omega]; exact h)
  have := congrArg Fin.val this
  simp only at this
  omega
/-- The sign of a level, by class and text and by the token. -/
theorem sg_eq (t : ByteArray) (l : Nat) : (if cls t = 4 ∨ cls t = 1 then opL (txt t) l 4 12 else 0) = if tkX.b t ≠ 0 ∧ tkX.lv (tkX.b t) = l then tkX.b t else 0 := by
  show _ = if opW t 4 12 ≠ 0 ∧ (lvl (opW t 4 12 : Nat)).toNat = l then opW t 4 12 else 0
  have lvp : ∀ o : Nat, 0 ≤ lvl o := fun o => by unfold lvl; repeat (first | omega | split)
  by_cases hc : cls t = 4 ∨ cls t = 1
  · rw [if_pos hc, txt_eq (by omega)]
    by_cases hL : opL t l 4 12 = 0
    · rw [hL, if_neg]
      rintro ⟨h1, h2⟩
      obtain ⟨a1, a2, a3⟩ := opW_some h1
      exact opL_at (by omega) a1 a2 (by have := lvp (opW t 4 12); omega) a3 hL
    · obtain ⟨a1, a2, a3, a4⟩ := opL_some hL
      have hw := opW_at (n := 12) (a := 4) (by omega) a1 a2 a4
      obtain ⟨b1, b2, b3⟩ := opW_some hw
      have e := wrd_inj b1 (by omega) a1 (by omega) (b3.trans a4.symm)
      rw [e, if_pos ⟨hL, by omega⟩]
  · rw [if_neg hc, if_neg]
    rintro ⟨h1, -⟩
    obtain ⟨a1, a2, a3⟩ := opW_some h1
    generalize opW t 4 12 = o at *
    have : o = 4 ∨ o = 5 ∨ o = 6 ∨ o = 7 ∨ o = 8 ∨ o = 9 ∨ o = 10 ∨ o = 11 ∨ o = 12 ∨ o = 13 ∨ o = 14 ∨ o = 15 := by omega
    apply hc
    rw [← a3]
    rcases this with rfl | rfl | rfl | rfl | rfl | rfl | rfl | rfl | rfl | rfl | rfl | rfl <;> decide
/-- Whether an operand can end so. -/
def eoB (t : ByteArray) : Bool := decide (cls t = 2) || decide (cls t = 3) || decide (t = ⟨#[41]⟩) || (goodN t || decide (t = ⟨#[116, 114, 117, 101]⟩) || decide (t = ⟨#[102, 97, 108, 115, 101]⟩) || decide (t = ⟨#[98, 108, 97, 110, 107]⟩))
theorem tkK_some {t : ByteArray} (h : goodN t = true ∨ (rv t).2.2.2 = true) : (tkK t).isSome = true := by
  unfold tkK
  split
  · rfl
  · rename_i hg
    rw [if_pos (h.resolve_left hg)]; rfl
theorem eo_eq {t : ByteArray} (ht : VT t) : tkX.eo t = eoB t := by
  rw [Bool.eq_iff_iff]
  unfold Lx.eo eoB
  simp only [Bool.or_eq_true, decide_eq_true_eq]
  constructor
  · rintro (h | h)
    · exact .inl (.inr (of_decide_eq_true h))
    · have hk : goodN t = true ∨ (rv t).2.2.2 = true := by
        change (tkK t).isSome = true at h
        unfold tkK at h
        split at h
        · rename_i hg; exact .inl hg
        · split at h
          · rename_i hr; exact .inr hr
          · cases h
      rcases hk with h | h
      · exact .inr (.inl (.inl (.inl h)))
      · rcases rv_head h with h | h | h | ⟨c, r, e, hc⟩
        · exact .inr (.inr h)
        · exact .inr (.inl (.inl (.inr h)))
        · exact .inr (.inl (.inr h))
        · have hb := bt0 e
          rcases hc with ⟨rfl, hr⟩ | hc | rfl
          · have h4 : cls t = 4 := by unfold cls; rw [hb]; decide
            have := ht.c4 h4
            unfold syms at this
            simp only [List.mem_cons, List.not_mem_nil, or_false] at this
            rcases this with h | h | h | h | h | h | h | h | h | h | h | h | h | h <;>
              · subst h
                simp only [List.cons.injEq] at e
                first | exact absurd e.1 (by decide) | exact absurd e.2.symm hr
          · left; left; left
            unfold cls
            rw [hb]
            rw [if_neg (by unfold small; simp; omega), if_pos (by unfold digitB; simp; omega)]
          · left; left; right
            unfold cls
            rw [hb]
            decide
  · rintro (((h | h) | h) | (((h | h) | h) | h))
    · exact .inr (tkK_some (.inr (ht.c2 h)))
    · exact .inr (tkK_some (.inr (ht.c3 h)))
    · exact .inl (decide_eq_true h)
    · exact .inr (tkK_some (.inl h))
    · exact .inr (tkK_some (.inr (by rw [h]; decide)))
    · exact .inr (tkK_some (.inr (by rw [h]; decide)))
    · exact .inr (tkK_some (.inr (by rw [h]; decide)))
end Go.Proofs.YtjgngbmkpiihgaaGreatDoor
