/- The grammar of expressions, over tokens of any kind; no walk in this text. -/
namespace Go.Proofs.YtjgngbmkpiihgaaGreatDoor
open List

/-- What tokens are: brackets, the comma, signs, what stands alone, names of functions. -/
structure Lx (T N : Type) where
  L : T → Bool
  R : T → Bool
  C : T → Bool
  b : T → Nat
  u : T → Nat
  k : T → Option N
  g : T → Bool
  f : T → Nat
  lv : Nat → Nat
  ar : Nat → Nat
  o : Nat → N
structure Lx.Ok {T N : Type} (X : Lx T N) : Prop where
  LR : ∀ t, X.L t = true → X.R t = false ∧ X.C t = false ∧ X.b t = 0 ∧ X.u t = 0 ∧ X.k t = none
  RC : ∀ t, X.R t = true → X.C t = false ∧ X.b t = 0 ∧ X.u t = 0 ∧ X.k t = none
  Cb : ∀ t, X.C t = true → X.b t = 0 ∧ X.u t = 0 ∧ X.k t = none
  bk : ∀ t, X.b t ≠ 0 → X.k t = none
  uk : ∀ t, X.u t ≠ 0 → X.k t = none
  gk : ∀ t, X.g t = true → X.k t ≠ none
  fg : ∀ t, X.f t ≠ 0 → X.g t = true
  lv : ∀ t, X.b t ≠ 0 → 1 ≤ X.lv (X.b t) ∧ X.lv (X.b t) ≤ 5
  ar : ∀ t, X.f t ≠ 0 → 1 ≤ X.ar (X.f t)
variable {T N : Type}
def Lx.eo (X : Lx T N) (t : T) : Bool := X.R t || (X.k t).isSome
/-- The phrases: of a level from 1 to 7; as many as n of them between commas, as level 8. -/
inductive Gr (X : Lx T N) : Nat → Nat → List T → List N → Prop
  | up {l ts e} : 1 ≤ l → l ≤ 6 → Gr X (l + 1) 0 ts e → Gr X l 0 ts e
  | bin {l a t b ea eb} : 1 ≤ l → l ≤ 5 → l ≠ 3 → Gr X l 0 a ea → X.b t ≠ 0 → X.lv (X.b t) = l → Gr X (l + 1) 0 b eb → Gr X l 0 (a ++ t :: b) (ea ++ eb ++ [X.o (X.b t)])
  | cmp {a t b ea eb} : Gr X 4 0 a ea → X.b t ≠ 0 → X.lv (X.b t) = 3 → Gr X 4 0 b eb → Gr X 3 0 (a ++ t :: b) (ea ++ eb ++ [X.o (X.b t)])
  | pre {t b eb} : X.u t ≠ 0 → Gr X 6 0 b eb → Gr X 6 0 (t :: b) (eb ++ [X.o (X.u t)])
  | one {t n} : X.k t = some n → Gr X 7 0 [t] [n]
  | par {l r a e} : X.L l = true → X.R r = true → Gr X 1 0 a e → Gr X 7 0 (l :: (a ++ [r])) e
  | call {t l r a e} : X.f t ≠ 0 → X.L l = true → X.R r = true → Gr X 8 (X.ar (X.f t)) a e → Gr X 7 0 (t :: l :: (a ++ [r])) (e ++ [X.o (X.f t)])
  | arg {a e} : Gr X 1 0 a e → Gr X 8 1 a e
  | args {n a c b ea eb} : Gr X 8 n a ea → X.C c = true → Gr X 1 0 b eb → Gr X 8 (n + 1) (a ++ c :: b) (ea ++ eb)

/-- How deep one is behind these tokens. -/
def dpt (X : Lx T N) : List T → Int
  | [] => 0
  | t :: r => (if X.L t = true then 1 else if X.R t = true then -1 else 0) + dpt X r
theorem dep_append (X : Lx T N) (a b : List T) : dpt X (a ++ b) = dpt X a + dpt X b := by
  induction a with
  | nil => simp [dpt]
  | cons t a ih => simp only [List.cons_append, dpt, ih]; omega
theorem dep_nl {X : Lx T N} {t : T} (h1 : X.L t = false) (h2 : X.R t = false) (r : List T) : dpt X (t :: r) = dpt X r := by simp [dpt, h1, h2]
theorem Lx.Ok.nb {X : Lx T N} (h : X.Ok) {t : T} (hb : X.b t ≠ 0) : X.L t = false ∧ X.R t = false ∧ X.C t = false ∧ X.eo t = false := by
  have h1 : X.L t = false := by
    cases q : X.L t with
    | false => rfl
    | true => exact absurd (h.LR t q).2.2.1 hb
  have h2 : X.R t = false := by
    cases q : X.R t with
    | false => rfl
    | true => exact absurd (h.RC t q).2.1 hb
  have h3 : X.C t = false := by
    cases q : X.C t with
    | false => rfl
    | true => exact absurd (h.Cb t q).1 hb
  exact ⟨h1, h2, h3, by unfold Lx.eo; rw [h2, h.bk t hb]; rfl⟩
theorem Lx.Ok.nu {X : Lx T N} (h : X.Ok) {t : T} (hb : X.u t ≠ 0) : X.L t = false ∧ X.R t = false ∧ X.C t = false ∧ X.eo t = false := by
  have h1 : X.L t = false := by
    cases q : X.L t with
    | false => rfl
    | true => exact absurd (h.LR t q).2.2.2.1 hb
  have h2 : X.R t = false := by
    cases q : X.R t with
    | false => rfl
    | true => exact absurd (h.RC t q).2.2.1 hb
  have h3 : X.C t = false := by
    cases q : X.C t with
    | false => rfl
    | true => exact absurd (h.Cb t q).2.1 hb
  exact ⟨h1, h2, h3, by unfold Lx.eo; rw [h2, h.uk t hb]; rfl⟩
theorem Lx.Ok.nk {X : Lx T N} (h : X.Ok) {t : T} {n : N} (hb : X.k t = some n) : X.L t = false ∧ X.R t = false ∧ X.C t = false ∧ X.b t = 0 ∧ X.u t = 0 := by
  have h1 : X.L t = false := by
    cases q : X.L t with
    | false => rfl
    | true => have := (h.LR t q).2.2.2.2; rw [hb] at this; cases this
  have h2 : X.R t = false := by
    cases q : X.R t with
    | false => rfl
    | true => have := (h.RC t q).2.2.2; rw [hb] at this; cases this
  have h3 : X.C t = false := by
    cases q : X.C t with
    | false => rfl
    | true => have := (h.Cb t q).2.2; rw [hb] at this; cases this
  refine ⟨h1, h2, h3, ?_, ?_⟩
  · exact Classical.byContradiction fun q => by have := h.bk t q; rw [hb] at this; cases this
  · exact Classical.byContradiction fun q => by have := h.uk t q; rw [hb] at this; cases this
theorem Lx.Ok.nf {X : Lx T N} (h : X.Ok) {t : T} (hf : X.f t ≠ 0) : ∃ n, X.k t = some n := by
  cases q : X.k t with
  | none => exact absurd q (h.gk t (h.fg t hf))
  | some n => exact ⟨n, rfl⟩

/-- What every phrase is: not empty, its brackets match, no comma stands outside them, it ends as an operand does, its signs outside brackets are of its level or higher. -/
structure PhT (X : Lx T N) (l : Nat) (ts : List T) : Prop where
  ne : ts ≠ []
  d0 : dpt X ts = 0
  dn : ∀ i, i ≤ ts.length → 0 ≤ dpt X (ts.take i)
  eo : ∀ t, ts.getLast? = some t → X.eo t = true
  lo : ∀ i p t, ts[i]? = some p → ts[i + 1]? = some t → dpt X (ts.take (i + 2)) = 0 → X.eo p = true → X.b t ≠ 0 → l ≤ X.lv (X.b t)
  nc : ∀ i t, ts[i]? = some t → dpt X (ts.take (i + 1)) = 0 → X.C t = false
theorem PhT.up {X : Lx T N} {l l' : Nat} {ts : List T} (h : PhT X l ts) (hl : l' ≤ l) : PhT X l' ts :=
  ⟨h.ne, h.d0, h.dn, h.eo, fun i p t h1 h2 h3 h4 h5 => Nat.le_trans hl (h.lo i p t h1 h2 h3 h4 h5), h.nc⟩
theorem take_app_le {α : Type} {a b : List α} {i : Nat} (h : i ≤ a.length) : (a ++ b).take i = a.take i := by
  rw [List.take_append_of_le_length h]
theorem take_app_ge {α : Type} {a b : List α} {i : Nat} (h : a.length ≤ i) : (a ++ b).take i = a ++ b.take (i - a.length) := by
  rw [List.take_append]
  rw [List.take_of_length_le h]
/-- Two phrases with a sign between them. -/
theorem PhT.mid {X : Lx T N} (ok : X.Ok) {l la lb : Nat} {a b : List T} {t : T} (ha : PhT X la a) (hb : PhT X lb b) (hla : l ≤ la) (hlb : l ≤ lb) (h1 : X.b t ≠ 0) (h2 : X.lv (X.b t) = l) : PhT X l (a ++ t :: b) := by
  obtain ⟨q1, q2, q3, q4⟩ := ok.nb h1
  have dt : ∀ r, dpt X (t :: r) = dpt X r := dep_nl q1 q2
  refine ⟨by simp, by rw [dep_append, dt, ha.d0, hb.d0]; rfl, fun i hi => ?_, fun x hx => ?_, fun i p x h3 h4 h5 h6 h7 => ?_, fun i x h3 h4 => ?_⟩
  · by_cases h : i ≤ a.length
    · rw [take_app_le h]; exact ha.dn i h
    · rw [take_app_ge (by omega), dep_append, ha.d0]
      obtain ⟨j, hj⟩ : ∃ j, i - a.length = j + 1 := ⟨i - a.length - 1, by omega⟩
      rw [hj, List.take_succ_cons, dt]
      have := hb.dn j (by simp at hi; omega)
      omega
  · rw [List.getLast?_append] at hx
    have hbl : (t :: b).getLast? = b.getLast? := by
      cases b with
      | nil => exact absurd rfl hb.ne
      | cons y b => simp [List.getLast?_cons_cons]
    rw [hbl] at hx
    cases hq : b.getLast? with
    | none => rw [List.getLast?_eq_none_iff] at hq; exact absurd hq hb.ne
    | some y => rw [hq] at hx; simp at hx; subst hx; exact hb.eo _ hq
  · by_cases h : i + 1 < a.length
    · rw [List.getElem?_append_left (by omega)] at h3 h4
      rw [take_app_le (by omega)] at h5
      exact Nat.le_trans hla (ha.lo i p x h3 h4 h5 h6 h7)
    · by_cases h' : i + 1 = a.length
      · rw [List.getElem?_append_right (by omega), h', Nat.sub_self] at h4
        simp at h4
        subst h4
        omega
      · rw [List.getElem?_append_right (by omega)] at h3 h4
        rw [take_app_ge (by omega), dep_append, ha.d0] at h5
        by_cases h'' : i = a.length
        · subst h''
          rw [Nat.sub_self] at h3
          simp at h3
          subst h3
          rw [q4] at h6; cases h6
        · obtain ⟨j, hj⟩ : ∃ j, i = a.length + 1 + j := ⟨i - a.length - 1, by omega⟩
          subst hj
          rw [show a.length + 1 + j - a.length = j + 1 by omega, List.getElem?_cons_succ] at h3
          rw [show a.length + 1 + j + 1 - a.length = j + 1 + 1 by omega, List.getElem?_cons_succ] at h4
          rw [show a.length + 1 + j + 2 - a.length = j + 2 + 1 by omega, List.take_succ_cons, dt] at h5
          exact Nat.le_trans hlb (hb.lo j p x h3 h4 (by omega) h6 h7)
  · by_cases h : i < a.length
    · rw [List.getElem?_append_left h] at h3
      rw [take_app_le (by omega)] at h4
      exact ha.nc i x h3 h4
    · rw [List.getElem?_append_right (by omega)] at h3
      rw [take_app_ge (by omega), dep_append, ha.d0] at h4
      obtain ⟨j, hj⟩ : ∃ j, i - a.length = j := ⟨_, rfl⟩
      rw [hj] at h3
      rw [show i + 1 - a.length = j + 1 by omega, List.take_succ_cons, dt] at h4
      cases j with
      | zero => simp at h3; subst h3; exact q3
      | succ j => rw [List.getElem?_cons_succ] at h3; exact hb.nc j x h3 (by omega)
theorem PhT.cons {X : Lx T N} {l : Nat} {b : List T} {t : T} (h1 : X.L t = false) (h2 : X.R t = false) (h3 : X.C t = false) (hb : PhT X l b) (h0 : ∀ x, b.head? = some x → X.eo t = true → X.b x ≠ 0 → l ≤ X.lv (X.b x)) : PhT X l (t :: b) := by
  have dt : ∀ r, dpt X (t :: r) = dpt X r := dep_nl h1 h2
  refine ⟨by simp, by rw [dt, hb.d0], fun i hi => ?_, fun x hx => ?_, fun i p x q1 q2 q3 q4 q5 => ?_, fun i x q1 q2 => ?_⟩
  · cases i with
    | zero => simp [dpt]
    | succ i => rw [List.take_succ_cons, dt]; exact hb.dn i (by simpa using hi)
  · cases b with
    | nil => exact absurd rfl hb.ne
    | cons y b => rw [List.getLast?_cons_cons] at hx; exact hb.eo x hx
  · rw [show i + 2 = (i + 1) + 1 from rfl, List.take_succ_cons, dt] at q3
    rw [List.getElem?_cons_succ] at q2
    cases i with
    | zero =>
      simp at q1
      subst q1
      exact h0 x (by rw [List.head?_eq_getElem?]; exact q2) q4 q5
    | succ i => rw [List.getElem?_cons_succ] at q1; exact hb.lo i p x q1 q2 q3 q4 q5
  · rw [List.take_succ_cons, dt] at q2
    cases i with
    | zero => simp at q1; subst q1; exact h3
    | succ i => rw [List.getElem?_cons_succ] at q1; exact hb.nc i x q1 q2
theorem PhT.wrap {X : Lx T N} (ok : X.Ok) {l r : T} {a : List T} (h1 : X.L l = true) (h2 : X.R r = true) (d0 : dpt X a = 0) (dn : ∀ i, i ≤ a.length → 0 ≤ dpt X (a.take i)) : PhT X 7 (l :: (a ++ [r])) := by
  have hr : X.L r = false := by
    cases q : X.L r with
    | false => rfl
    | true => rw [(ok.LR r q).1] at h2; cases h2
  have dlt : ∀ s, dpt X (l :: s) = 1 + dpt X s := fun s => by simp [dpt, h1]
  have dr : dpt X [r] = -1 := by simp [dpt, hr, h2]
  have dq : ∀ j, j ≤ a.length → dpt X ((a ++ [r]).take j) = dpt X (a.take j) := fun j hj => by rw [take_app_le hj]
  refine ⟨by simp, by rw [dlt, dep_append, d0, dr]; rfl, fun i hi => ?_, fun x hx => ?_, fun i p x q1 q2 q3 q4 q5 => ?_, fun i x q1 q2 => ?_⟩
  · cases i with
    | zero => simp [dpt]
    | succ i =>
      rw [List.take_succ_cons, dlt]
      by_cases h : i ≤ a.length
      · rw [dq i h]; have := dn i h; omega
      · rw [List.take_of_length_le (by simp; omega), dep_append, d0, dr]; omega
  · rw [show l :: (a ++ [r]) = (l :: a) ++ [r] from rfl, List.getLast?_append] at hx
    simp at hx
    subst hx
    unfold Lx.eo; rw [h2]; rfl
  · rw [show i + 2 = (i + 1) + 1 from rfl, List.take_succ_cons, dlt] at q3
    rw [List.getElem?_cons_succ] at q2
    by_cases h : i + 1 ≤ a.length
    · rw [dq _ h] at q3; have := dn _ h; omega
    · have hi : i = a.length := by
        have := (List.getElem?_eq_some_iff.1 q2).1
        simp at this; omega
      subst hi
      rw [List.getElem?_append_right (Nat.le_refl _), Nat.sub_self] at q2
      simp at q2
      subst q2
      exact absurd (ok.RC r h2).2.1 q5
  · rw [List.take_succ_cons, dlt] at q2
    cases i with
    | zero => simp [dpt] at q2
    | succ i =>
      rw [List.getElem?_cons_succ] at q1
      by_cases h : i + 1 ≤ a.length
      · rw [dq _ h] at q2; have := dn _ h; omega
      · have hi : i = a.length := by
          have := (List.getElem?_eq_some_iff.1 q1).1
          simp at this; omega
        subst hi
        rw [List.getElem?_append_right (Nat.le_refl _), Nat.sub_self] at q1
        simp at q1
        subst q1
        exact (ok.RC r h2).1
theorem Lx.Ok.nC {X : Lx T N} (ok : X.Ok) {c : T} (h : X.C c = true) : X.L c = false ∧ X.R c = false := by
  constructor
  · cases q : X.L c with
    | false => rfl
    | true => rw [(ok.LR c q).2.1] at h; cases h
  · cases q : X.R c with
    | false => rfl
    | true => rw [(ok.RC c q).1] at h; cases h
/-- What lies in a phrase, or between a function's brackets. -/
theorem Gr.ph {X : Lx T N} (ok : X.Ok) {l n : Nat} {ts : List T} {e : List N} (h : Gr X l n ts e) : (l ≤ 7 → PhT X l ts) ∧ dpt X ts = 0 ∧ ∀ i, i ≤ ts.length → 0 ≤ dpt X (ts.take i) := by
  have fin : ∀ {l ts}, PhT X l ts → (l ≤ 7 → PhT X l ts) ∧ dpt X ts = 0 ∧ ∀ i, i ≤ ts.length → 0 ≤ dpt X (ts.take i) := fun h => ⟨fun _ => h, h.d0, h.dn⟩
  induction h with
  | up h1 h2 _ ih => exact fin ((ih.1 (by omega)).up (Nat.le_succ _))
  | bin h1 h2 h3 _ h4 h5 _ iha ihb => exact fin (PhT.mid ok (iha.1 (by omega)) (ihb.1 (by omega)) (Nat.le_refl _) (Nat.le_succ _) h4 h5)
  | cmp _ h4 h5 _ iha ihb => exact fin (PhT.mid ok (iha.1 (by omega)) (ihb.1 (by omega)) (by omega) (by omega) h4 h5)
  | pre h1 _ ih =>
    obtain ⟨q1, q2, q3, q4⟩ := ok.nu h1
    exact fin (PhT.cons q1 q2 q3 (ih.1 (by omega)) (fun x _ h => by rw [q4] at h; cases h))
  | @one t n h1 =>
    obtain ⟨q1, q2, q3, q4, q5⟩ := ok.nk h1
    refine fin ⟨by simp, by simp [dpt, q1, q2], fun i hi => ?_, fun x hx => ?_, fun i p x a1 a2 => ?_, fun i x a1 _ => ?_⟩
    · cases i with
      | zero => simp [dpt]
      | succ i => simp [dpt, q1, q2]
    · simp at hx; subst hx; unfold Lx.eo; rw [h1]; simp
    · simp at a2
    · cases i with
      | zero => simp at a1; subst a1; exact q3
      | succ i => simp at a1
  | par h1 h2 _ ih => exact fin (PhT.wrap ok h1 h2 ih.2.1 ih.2.2)
  | call h0 h1 h2 _ ih =>
    obtain ⟨n, hn⟩ := ok.nf h0
    obtain ⟨q1, q2, q3, q4, q5⟩ := ok.nk hn
    refine fin (PhT.cons q1 q2 q3 (PhT.wrap ok h1 h2 ih.2.1 ih.2.2) (fun x hx _ hb => ?_))
    simp at hx
    subst hx
    exact absurd (ok.LR _ h1).2.2.1 hb
  | arg _ ih => exact ⟨fun h => absurd h (by omega), ih.2⟩
  | @args n a c b ea eb _ h1 _ iha ihb =>
    obtain ⟨q1, q2⟩ := ok.nC h1
    have dt : ∀ r, dpt X (c :: r) = dpt X r := dep_nl q1 q2
    refine ⟨fun h => absurd h (by omega), by rw [dep_append, dt, iha.2.1, ihb.2.1]; rfl, fun i hi => ?_⟩
    by_cases h : i ≤ a.length
    · rw [take_app_le h]; exact iha.2.2 i h
    · rw [take_app_ge (by omega), dep_append, iha.2.1]
      obtain ⟨j, hj⟩ : ∃ j, i - a.length = j + 1 := ⟨i - a.length - 1, by omega⟩
      rw [hj, List.take_succ_cons, dt]
      have := ihb.2.2 j (by simp at hi; omega)
      omega
end Go.Proofs.YtjgngbmkpiihgaaGreatDoor

/- Reading an expression from left to right, and the grammar; no walk in this text. -/
namespace Go.Proofs.YtjgngbmkpiihgaaGreatDoor
open List
variable {T N : Type}

/-- How deep one is behind these tokens, if never deeper than M nor outside. -/
def blc (X : Lx T N) (M : Nat) : Nat → List T → Option Nat
  | d, [] => some d
  | d, t :: r => if X.L t = true then (if d + 1 ≤ M then blc X M (d + 1) r else none) else if X.R t = true then (if d = 0 then none else blc X M (d - 1) r) else blc X M d r
theorem bal_append (X : Lx T N) (M d : Nat) (a b : List T) : blc X M d (a ++ b) = (blc X M d a).bind fun d' => blc X M d' b := by
  induction a generalizing d with
  | nil => rfl
  | cons t a ih =>
    simp only [List.cons_append, blc]
    split
    · split
      · exact ih _
      · rfl
    · split
      · split
        · rfl
        · exact ih _
      · exact ih _
theorem bal_dep {X : Lx T N} {M d d' : Nat} {a : List T} (h : blc X M d a = some d') : (d' : Int) = d + dpt X a := by
  induction a generalizing d with
  | nil => simp only [blc, Option.some.injEq] at h; simp [dpt, h]
  | cons t a ih =>
    simp only [blc] at h
    simp only [dpt]
    split at h
    · rename_i hL
      split at h
      · have := ih h; rw [if_pos hL]; omega
      · cases h
    · rename_i hL
      rw [if_neg hL]
      split at h
      · rename_i hR
        rw [if_pos hR]
        split at h
        · cases h
        · have := ih h; omega
      · rename_i hR
        rw [if_neg hR]
        have := ih h; omega
theorem bal_split {X : Lx T N} {M d : Nat} {a b : List T} (h : blc X M d (a ++ b) = some d) (ha : dpt X a = 0) : blc X M d a = some d ∧ blc X M d b = some d := by
  rw [bal_append] at h
  cases hq : blc X M d a with
  | none => rw [hq] at h; cases h
  | some d' =>
    have := bal_dep hq
    obtain rfl : d' = d := by omega
    rw [hq] at h
    exact ⟨rfl, h⟩
theorem bal_join {X : Lx T N} {M d : Nat} {a b : List T} (ha : blc X M d a = some d) (hb : blc X M d b = some d) : blc X M d (a ++ b) = some d := by rw [bal_append, ha]; exact hb
theorem bal_nl {X : Lx T N} {M d : Nat} {t : T} (h1 : X.L t = false) (h2 : X.R t = false) (r : List T) : blc X M d (t :: r) = blc X M d r := by simp [blc, h1, h2]
theorem Lx.Ok.rl {X : Lx T N} (ok : X.Ok) {r : T} (h : X.R r = true) : X.L r = false := by
  cases q : X.L r with
  | false => rfl
  | true => rw [(ok.LR r q).1] at h; cases h
theorem bal_wrap {X : Lx T N} (ok : X.Ok) {M d : Nat} {l r : T} {a : List T} (h1 : X.L l = true) (h2 : X.R r = true) (ha : dpt X a = 0) : blc X M d (l :: (a ++ [r])) = some d ↔ d + 1 ≤ M ∧ blc X M (d + 1) a = some (d + 1) := by
  simp only [blc, h1, if_true]
  constructor
  · intro h
    split at h
    · rename_i hd
      refine ⟨hd, ?_⟩
      rw [bal_append] at h
      cases hq : blc X M (d + 1) a with
      | none => rw [hq] at h; cases h
      | some d' => have := bal_dep hq; obtain rfl : d' = d + 1 := by omega
                   rfl
    · cases h
  · rintro ⟨hd, hb⟩
    rw [if_pos hd, bal_append, hb]
    simp [blc, ok.rl h2, h2]

/-- Reading from left to right. -/
inductive Mdx (N : Type) where
  | op (l : Nat)
  | lp (l : Nat) (acc : List N)
  | atm
  | ar (n : Nat) (acc : List N)
def usg (X : Lx T N) (ts : List T) : List T := ts.takeWhile fun t => decide (X.u t ≠ 0)
def prd (X : Lx T N) (M : Nat) : Nat → Mdx N → Nat → List T → Option (List N × List T)
  | 0, _, _, _ => none
  | f + 1, .op l, d, ts =>
    if l = 6 then
      match prd X M f .atm d (ts.drop (usg X ts).length) with
      | none => none
      | some (e, r) => some (e ++ (usg X ts).reverse.map (fun t => X.o (X.u t)), r)
    else
      match prd X M f (.op (l + 1)) d ts with
      | none => none
      | some (e, r) => prd X M f (.lp l e) d r
  | f + 1, .lp l acc, d, ts =>
    match ts with
    | [] => some (acc, [])
    | t :: r =>
      if X.b t ≠ 0 ∧ X.lv (X.b t) = l then
        match prd X M f (.op (l + 1)) d r with
        | none => none
        | some (eb, r') => if l = 3 then some (acc ++ eb ++ [X.o (X.b t)], r') else prd X M f (.lp l (acc ++ eb ++ [X.o (X.b t)])) d r'
      else some (acc, t :: r)
  | f + 1, .atm, d, ts =>
    match ts with
    | [] => none
    | t :: r =>
      if X.L t = true then
        if d + 1 ≤ M then
          match prd X M f (.op 1) (d + 1) r with
          | some (e, c :: r') => if X.R c = true then some (e, r') else none
          | _ => none
        else none
      else
        match X.k t with
        | none => none
        | some n =>
          match X.g t, r with
          | true, l :: r1 =>
            if X.L l = true then
              if X.f t = 0 then none
              else if d + 1 ≤ M then
                match prd X M f (.op 1) (d + 1) r1 with
                | none => none
                | some (e1, r2) =>
                  match prd X M f (.ar (X.ar (X.f t) - 1) e1) (d + 1) r2 with
                  | some (e, c :: r') => if X.R c = true then some (e ++ [X.o (X.f t)], r') else none
                  | _ => none
              else none
            else some ([n], r)
          | _, _ => some ([n], r)
  | f + 1, .ar n acc, d, ts =>
    match n with
    | 0 => some (acc, ts)
    | n + 1 =>
      match ts with
      | [] => none
      | c :: r =>
        if X.C c = true then
          match prd X M f (.op 1) d r with
          | none => none
          | some (e, r') => prd X M f (.ar n (acc ++ e)) d r'
        else none

theorem us_cons (X : Lx T N) (t : T) (r : List T) : usg X (t :: r) = if X.u t = 0 then [] else t :: usg X r := by
  unfold usg
  rw [List.takeWhile_cons]
  by_cases h : X.u t = 0 <;> simp [h]
theorem us_split (X : Lx T N) (ts : List T) : ts = usg X ts ++ ts.drop (usg X ts).length := by
  induction ts with
  | nil => rfl
  | cons t r ih =>
    rw [us_cons]
    by_cases h : X.u t = 0
    · rw [if_pos h]; rfl
    · rw [if_neg h, List.length_cons, List.drop_succ_cons, List.cons_append, ← ih]
theorem us_all {X : Lx T N} {ts : List T} {t : T} (h : t ∈ usg X ts) : X.u t ≠ 0 := by
  induction ts with
  | nil => cases h
  | cons x r ih =>
    rw [us_cons] at h
    by_cases hx : X.u x = 0
    · rw [if_pos hx] at h; cases h
    · rw [if_neg hx] at h
      rcases List.mem_cons.1 h with rfl | h
      · exact hx
      · exact ih h
theorem Gr.signs {X : Lx T N} {b : List T} {e : List N} (h : Gr X 6 0 b e) (l : List T) (hl : ∀ t, t ∈ l → X.u t ≠ 0) : Gr X 6 0 (l ++ b) (e ++ l.reverse.map (fun t => X.o (X.u t))) := by
  induction l with
  | nil => simpa using h
  | cons t l ih =>
    have := Gr.pre (hl t (by simp)) (ih fun x hx => hl x (by simp [hx]))
    simpa using this

/-- What was read is a phrase. -/
def SoundAt (X : Lx T N) (M : Nat) (md : Mdx N) (d : Nat) (ts : List T) (e : List N) (rest : List T) : Prop :=
  match md with
  | .op l => 1 ≤ l → l ≤ 6 → ∃ pre, ts = pre ++ rest ∧ Gr X l 0 pre e ∧ blc X M d pre = some d
  | .lp l acc => 1 ≤ l → l ≤ 5 → ∃ mid, ts = mid ++ rest ∧ blc X M d mid = some d ∧ ∀ pre0, Gr X (if l = 3 then 4 else l) 0 pre0 acc → Gr X l 0 (pre0 ++ mid) e
  | .atm => ∃ pre, ts = pre ++ rest ∧ Gr X 7 0 pre e ∧ blc X M d pre = some d
  | .ar n acc => ∃ mid, ts = mid ++ rest ∧ blc X M d mid = some d ∧ ∀ m pre0, Gr X 8 m pre0 acc → Gr X 8 (m + n) (pre0 ++ mid) e
theorem pr_sound {X : Lx T N} (ok : X.Ok) (M : Nat) : ∀ (f : Nat) (md : Mdx N) (d : Nat) (ts : List T) (e : List N) (rest : List T), prd X M f md d ts = some (e, rest) → SoundAt X M md d ts e rest
  | 0, _, _, _, _, _, h => by cases h
  | f + 1, .op l, d, ts, e, rest, h => by
    intro h1 h6
    simp only [prd] at h
    split at h
    · rename_i hl
      subst hl
      split at h
      · cases h
      · rename_i e0 r0 hq
        simp only [Option.some.injEq, Prod.mk.injEq] at h
        obtain ⟨rfl, rfl⟩ := h
        obtain ⟨pre, h2, h3, h4⟩ := pr_sound ok M f .atm d _ _ _ hq
        refine ⟨usg X ts ++ pre, ?_, Gr.signs (.up (by omega) (by omega) h3) _ fun t ht => us_all ht, ?_⟩
        · rw [List.append_assoc, ← h2]; exact us_split X ts
        · refine bal_join ?_ h4
          have : ∀ l : List T, (∀ t, t ∈ l → X.u t ≠ 0) → blc X M d l = some d := fun l hl => by
            induction l with
            | nil => rfl
            | cons t l ih =>
              obtain ⟨q1, q2, -, -⟩ := ok.nu (hl t (by simp))
              rw [bal_nl q1 q2]
              exact ih fun x hx => hl x (by simp [hx])
          exact this _ fun t ht => us_all ht
    · rename_i hl
      split at h
      · cases h
      · rename_i e0 r0 hq
        obtain ⟨pre, h2, h3, h4⟩ := pr_sound ok M f (.op (l + 1)) d ts e0 r0 hq (by omega) (by omega)
        obtain ⟨mid, h5, h6', h7⟩ := pr_sound ok M f (.lp l e0) d r0 e rest h h1 (by omega)
        refine ⟨pre ++ mid, by rw [h2, h5, List.append_assoc], h7 pre ?_, bal_join h4 h6'⟩
        split
        · rename_i h3'; subst h3'; exact h3
        · exact .up h1 h6 h3
  | f + 1, .lp l acc, d, ts, e, rest, h => by
    intro h1 h5
    simp only [prd] at h
    have stop : ∀ r : List T, SoundAt X M (.lp l acc) d r acc r := fun r _ _ => ⟨[], rfl, rfl, fun pre0 hp => by
      rw [List.append_nil]
      split at hp
      · rename_i h3'; subst h3'; exact .up h1 (by omega) hp
      · exact hp⟩
    split at h
    · simp only [Option.some.injEq, Prod.mk.injEq] at h
      obtain ⟨rfl, rfl⟩ := h
      exact stop [] h1 h5
    · rename_i t r
      split at h
      · rename_i hs
        split at h
        · cases h
        · rename_i eb r' hq
          obtain ⟨b, h2, h3, h4⟩ := pr_sound ok M f (.op (l + 1)) d r eb r' hq (by omega) (by omega)
          obtain ⟨q1, q2, -, -⟩ := ok.nb hs.1
          have hbt : blc X M d (t :: b) = some d := by rw [bal_nl q1 q2]; exact h4
          split at h
          · rename_i h3'
            simp only [Option.some.injEq, Prod.mk.injEq] at h
            obtain ⟨rfl, rfl⟩ := h
            refine ⟨t :: b, by rw [h2]; rfl, hbt, fun pre0 hp => ?_⟩
            rw [if_pos h3'] at hp
            subst h3'
            exact .cmp hp hs.1 hs.2 h3
          · rename_i h3'
            obtain ⟨mid, h6, h7, h8⟩ := pr_sound ok M f (.lp l (acc ++ eb ++ [X.o (X.b t)])) d r' e rest h h1 h5
            refine ⟨t :: b ++ mid, by rw [h2, h6]; simp, bal_join hbt h7, fun pre0 hp => ?_⟩
            rw [if_neg h3'] at hp h8
            have := h8 _ (Gr.bin h1 h5 h3' hp hs.1 hs.2 h3)
            simpa using this
      · simp only [Option.some.injEq, Prod.mk.injEq] at h
        obtain ⟨rfl, rfl⟩ := h
        exact stop _ h1 h5
  | f + 1, .atm, d, ts, e, rest, h => by
    simp only [prd] at h
    split at h
    · cases h
    · rename_i t r
      split at h
      · rename_i hL
        split at h
        · rename_i hd
          split at h
          · rename_i e0 c r' hq
            split at h
            · rename_i hR
              simp only [Option.some.injEq, Prod.mk.injEq] at h
              obtain ⟨rfl, rfl⟩ := h
              obtain ⟨pre, h2, h3, h4⟩ := pr_sound ok M f (.op 1) (d + 1) r e0 (c :: r') hq (by omega) (by omega)
              refine ⟨t :: (pre ++ [c]), by rw [h2]; simp, .par hL hR h3, (bal_wrap ok hL hR (h3.ph ok).2.1).2 ⟨hd, h4⟩⟩
            · cases h
          · cases h
        · cases h
      · rename_i hL
        have hL' : X.L t = false := by simpa using hL
        split at h
        · cases h
        · rename_i n hk
          have one : SoundAt X M .atm d (t :: r) [n] r := ⟨[t], rfl, .one hk, by
            obtain ⟨q1, q2, -, -, -⟩ := ok.nk hk
            rw [bal_nl q1 q2]; rfl⟩
          split at h
          · rename_i l r1 hg
            split at h
            · rename_i hLl
              split at h
              · cases h
              · rename_i hf
                split at h
                · rename_i hd
                  split at h
                  · cases h
                  · rename_i e1 r2 hq
                    split at h
                    · rename_i e2 c r' hq2
                      split at h
                      · rename_i hR
                        simp only [Option.some.injEq, Prod.mk.injEq] at h
                        obtain ⟨rfl, rfl⟩ := h
                        obtain ⟨pre, h2, h3, h4⟩ := pr_sound ok M f (.op 1) (d + 1) r1 e1 r2 hq (by omega) (by omega)
                        obtain ⟨mid, h5, h6, h7⟩ := pr_sound ok M f (.ar (X.ar (X.f t) - 1) e1) (d + 1) r2 e2 (c :: r') hq2
                        have h8 := h7 1 pre (.arg h3)
                        have har := ok.ar t hf
                        rw [show 1 + (X.ar (X.f t) - 1) = X.ar (X.f t) by omega] at h8
                        obtain ⟨q1, q2, -, -, -⟩ := ok.nk hk
                        refine ⟨t :: l :: ((pre ++ mid) ++ [c]), by rw [h2, h5]; simp, .call hf hLl hR h8, ?_⟩
                        rw [bal_nl q1 q2]
                        exact (bal_wrap ok hLl hR (h8.ph ok).2.1).2 ⟨hd, bal_join h4 h6⟩
                      · cases h
                    · cases h
                · cases h
            · simp only [Option.some.injEq, Prod.mk.injEq] at h
              obtain ⟨rfl, rfl⟩ := h
              exact one
          · simp only [Option.some.injEq, Prod.mk.injEq] at h
            obtain ⟨rfl, rfl⟩ := h
            exact one
  | f + 1, .ar n acc, d, ts, e, rest, h => by
    simp only [prd] at h
    split at h
    · simp only [Option.some.injEq, Prod.mk.injEq] at h
      obtain ⟨rfl, rfl⟩ := h
      exact ⟨[], rfl, rfl, fun m pre0 hp => by simpa using hp⟩
    · rename_i n
      split at h
      · cases h
      · rename_i c r
        split at h
        · rename_i hC
          split at h
          · cases h
          · rename_i e1 r' hq
            obtain ⟨pre, h2, h3, h4⟩ := pr_sound ok M f (.op 1) d r e1 r' hq (by omega) (by omega)
            obtain ⟨mid, h5, h6, h7⟩ := pr_sound ok M f (.ar n (acc ++ e1)) d r' e rest h
            obtain ⟨q1, q2⟩ := ok.nC hC
            refine ⟨c :: pre ++ mid, by rw [h2, h5]; simp, bal_join (by rw [bal_nl q1 q2]; exact h4) h6, fun m pre0 hp => ?_⟩
            have := h7 _ _ (Gr.args hp hC h3)
            rw [show m + (n + 1) = m + 1 + n by omega]
            simpa using this
        · cases h

/-- Nothing that could go on a phrase of a level. -/
def Stp (X : Lx T N) (l : Nat) (rest : List T) : Prop := ∀ t r, rest = t :: r → X.L t = false ∧ (X.b t ≠ 0 → X.lv (X.b t) < l)
theorem Stp.up {X : Lx T N} {l l' : Nat} {rest : List T} (h : Stp X l rest) (hl : l ≤ l') : Stp X l' rest := fun t r e => ⟨(h t r e).1, fun hb => Nat.lt_of_lt_of_le ((h t r e).2 hb) hl⟩
theorem Stp.sign {X : Lx T N} (ok : X.Ok) {l : Nat} {t : T} (h1 : X.b t ≠ 0) (h2 : X.lv (X.b t) < l) (r : List T) : Stp X l (t :: r) := fun x y e => by
  cases e
  exact ⟨(ok.nb h1).1, fun _ => h2⟩
theorem Stp.close {X : Lx T N} (ok : X.Ok) {l : Nat} {t : T} (h : X.R t = true) (r : List T) : Stp X l (t :: r) := fun x y e => by
  cases e
  exact ⟨ok.rl h, fun hb => absurd (ok.RC t h).2.1 hb⟩
theorem Stp.comma {X : Lx T N} (ok : X.Ok) {l : Nat} {t : T} (h : X.C t = true) (r : List T) : Stp X l (t :: r) := fun x y e => by
  cases e
  exact ⟨(ok.nC h).1, fun hb => absurd (ok.Cb t h).1 hb⟩
/-- From some number of steps on the reading comes to this. -/
def Evn (X : Lx T N) (M : Nat) (md : Mdx N) (d : Nat) (ts : List T) (x : List N × List T) : Prop := ∃ F, ∀ f, F ≤ f → prd X M f md d ts = some x
theorem lp_stop {X : Lx T N} {M : Nat} {l : Nat} {e : List N} {d : Nat} {rest : List T} (h : Stp X l rest) : Evn X M (.lp l e) d rest (e, rest) := by
  refine ⟨1, fun f hf => ?_⟩
  obtain ⟨f, rfl⟩ : ∃ g, f = g + 1 := ⟨f - 1, by omega⟩
  simp only [prd]
  split
  · rfl
  · rename_i t r
    rw [if_neg]
    rintro ⟨h1, h2⟩
    have := (h t r rfl).2 h1
    omega
/-- What is read of a phrase with these behind it. -/
def Cmpl (X : Lx T N) (M l n : Nat) (ts : List T) (e : List N) : Prop :=
  if l ≤ 5 ∧ l ≠ 3 then ∀ d rest x, blc X M d ts = some d → Stp X (l + 1) rest → Evn X M (.lp l e) d rest x → Evn X M (.op l) d (ts ++ rest) x
  else if l = 3 then ∀ d rest, blc X M d ts = some d → Stp X 3 rest → Evn X M (.op 3) d (ts ++ rest) (e, rest)
  else if l = 6 then ∀ d rest, blc X M d ts = some d → Stp X 6 rest → Evn X M (.op 6) d (ts ++ rest) (e, rest)
  else if l = 7 then (∀ t, ts.head? = some t → X.u t = 0) ∧ ∀ d rest, blc X M d ts = some d → Stp X 6 rest → Evn X M .atm d (ts ++ rest) (e, rest)
  else ∀ d rest x m, blc X M d ts = some d → Stp X 1 rest → Evn X M (.ar m e) d rest x → ∃ F e1 r1, ∀ f, F ≤ f → prd X M f (.op 1) d (ts ++ rest) = some (e1, r1) ∧ prd X M f (.ar (n - 1 + m) e1) d r1 = some x
theorem Cmpl.op {X : Lx T N} {M l n : Nat} {ts : List T} {e : List N} (h : Cmpl X M l n ts e) (hl : l ≤ 6) {d : Nat} {rest : List T} (hb : blc X M d ts = some d) (hs : Stp X l rest) : Evn X M (.op l) d (ts ++ rest) (e, rest) := by
  unfold Cmpl at h
  split at h
  · exact h d rest _ hb (hs.up (Nat.le_succ _)) (lp_stop hs)
  · split at h
    · rename_i h3; subst h3; exact h d rest hb hs
    · split at h
      · rename_i h6; subst h6; exact h d rest hb hs
      · omega
theorem op_lp {X : Lx T N} {M l d : Nat} {ts r : List T} {e : List N} {x : List N × List T} (hl : l ≠ 6) (h1 : Evn X M (.op (l + 1)) d ts (e, r)) (h2 : Evn X M (.lp l e) d r x) : Evn X M (.op l) d ts x := by
  obtain ⟨F1, h1⟩ := h1
  obtain ⟨F2, h2⟩ := h2
  refine ⟨max F1 F2 + 1, fun f hf => ?_⟩
  obtain ⟨f, rfl⟩ : ∃ g, f = g + 1 := ⟨f - 1, by omega⟩
  simp only [prd, if_neg hl, h1 f (by omega), h2 f (by omega)]
theorem lp_go {X : Lx T N} {M l d : Nat} {t : T} {r r' : List T} {acc eb : List N} {x : List N × List T} (h1 : X.b t ≠ 0) (h2 : X.lv (X.b t) = l) (h3 : l ≠ 3) (h4 : Evn X M (.op (l + 1)) d r (eb, r')) (h5 : Evn X M (.lp l (acc ++ eb ++ [X.o (X.b t)])) d r' x) : Evn X M (.lp l acc) d (t :: r) x := by
  obtain ⟨F1, h4⟩ := h4
  obtain ⟨F2, h5⟩ := h5
  refine ⟨max F1 F2 + 1, fun f hf => ?_⟩
  obtain ⟨f, rfl⟩ : ∃ g, f = g + 1 := ⟨f - 1, by omega⟩
  simp only [prd, if_pos (show X.b t ≠ 0 ∧ X.lv (X.b t) = l from ⟨h1, h2⟩), h4 f (by omega), if_neg h3, h5 f (by omega)]
theorem lp_cmp {X : Lx T N} {M d : Nat} {t : T} {r r' : List T} {acc eb : List N} (h1 : X.b t ≠ 0) (h2 : X.lv (X.b t) = 3) (h4 : Evn X M (.op 4) d r (eb, r')) : Evn X M (.lp 3 acc) d (t :: r) (acc ++ eb ++ [X.o (X.b t)], r') := by
  obtain ⟨F1, h4⟩ := h4
  refine ⟨F1 + 1, fun f hf => ?_⟩
  obtain ⟨f, rfl⟩ : ∃ g, f = g + 1 := ⟨f - 1, by omega⟩
  simp only [prd, if_pos (show X.b t ≠ 0 ∧ X.lv (X.b t) = 3 from ⟨h1, h2⟩), h4 f (by omega), if_true]
theorem Cmpl.left {X : Lx T N} {M l : Nat} {ts : List T} {e : List N} (hl : l ≤ 5) (h3 : l ≠ 3) (h : ∀ d rest x, blc X M d ts = some d → Stp X (l + 1) rest → Evn X M (.lp l e) d rest x → Evn X M (.op l) d (ts ++ rest) x) : Cmpl X M l 0 ts e := by
  unfold Cmpl; rw [if_pos ⟨hl, h3⟩]; exact h
theorem Cmpl.goL {X : Lx T N} {M l : Nat} {ts : List T} {e : List N} (h : Cmpl X M l 0 ts e) (hl : l ≤ 5) (h3 : l ≠ 3) : ∀ d rest x, blc X M d ts = some d → Stp X (l + 1) rest → Evn X M (.lp l e) d rest x → Evn X M (.op l) d (ts ++ rest) x := by
  unfold Cmpl at h; rw [if_pos ⟨hl, h3⟩] at h; exact h

theorem Gr.comp {X : Lx T N} (ok : X.Ok) (M : Nat) {l n : Nat} {ts : List T} {e : List N} (h : Gr X l n ts e) : Cmpl X M l n ts e := by
  induction h with
  | @up l ts e h1 h6 hg ih =>
    by_cases hl : l = 6
    · subst hl
      unfold Cmpl at ih ⊢
      simp only [Nat.reduceLeDiff, false_and, if_false, Nat.reduceEqDiff, if_true] at ih ⊢
      intro d rest hb hs
      obtain ⟨F, hF⟩ := ih.2 d rest hb hs
      refine ⟨F + 1, fun f hf => ?_⟩
      obtain ⟨f, rfl⟩ : ∃ g, f = g + 1 := ⟨f - 1, by omega⟩
      have hu : usg X (ts ++ rest) = [] := by
        have hne := ((hg.ph ok).1 (by omega)).ne
        cases ts with
        | nil => exact absurd rfl hne
        | cons t r => rw [List.cons_append, us_cons, if_pos (ih.1 t rfl)]
      simp only [prd, if_true, hu, List.length_nil, List.drop_zero, hF f (by omega), List.reverse_nil, List.map_nil, List.append_nil]
    · by_cases h3 : l = 3
      · subst h3
        unfold Cmpl
        simp only [Nat.reduceLeDiff, ne_eq, not_true_eq_false, and_false, if_false, if_true]
        intro d rest hb hs
        exact op_lp (by omega) (ih.op (by omega) hb (hs.up (by omega))) (lp_stop hs)
      · exact Cmpl.left (by omega) h3 fun d rest x hb hs hx => op_lp hl (ih.op (by omega) hb hs) hx
  | @bin l a t b ea eb h1 h5 h3 ha h4 hl hb iha ihb =>
    refine Cmpl.left h5 h3 fun d rest x hbal hs hx => ?_
    obtain ⟨q1, q2, -, -⟩ := ok.nb h4
    obtain ⟨b1, b2⟩ := bal_split hbal (ha.ph ok).2.1
    rw [bal_nl q1 q2] at b2
    rw [List.append_assoc, List.cons_append]
    exact iha.goL h5 h3 d _ x b1 (Stp.sign ok h4 (by omega) _) (lp_go h4 hl h3 (ihb.op (by omega) b2 hs) hx)
  | @cmp a t b ea eb ha h4 hl hb iha ihb =>
    unfold Cmpl
    simp only [Nat.reduceLeDiff, ne_eq, not_true_eq_false, and_false, if_false, if_true]
    intro d rest hbal hs
    obtain ⟨q1, q2, -, -⟩ := ok.nb h4
    obtain ⟨b1, b2⟩ := bal_split hbal (ha.ph ok).2.1
    rw [bal_nl q1 q2] at b2
    rw [List.append_assoc, List.cons_append]
    exact op_lp (by omega) (iha.op (by omega) b1 (Stp.sign ok h4 (by omega) _)) (lp_cmp h4 hl (ihb.op (by omega) b2 (hs.up (by omega))))
  | @pre t b eb h1 hb ih =>
    unfold Cmpl at ih ⊢
    simp only [Nat.reduceLeDiff, false_and, if_false, Nat.reduceEqDiff, if_true] at ih ⊢
    intro d rest hbal hs
    obtain ⟨q1, q2, -, -⟩ := ok.nu h1
    rw [bal_nl q1 q2] at hbal
    obtain ⟨F, hF⟩ := ih d rest hbal hs
    refine ⟨F + 1, fun f hf => ?_⟩
    have h := hF f (by omega)
    obtain ⟨f, rfl⟩ : ∃ g, f = g + 1 := ⟨f - 1, by omega⟩
    simp only [prd, if_true] at h ⊢
    rw [List.cons_append, us_cons, if_neg h1, List.length_cons, List.drop_succ_cons]
    split at h
    · cases h
    · rename_i e0 r0 hq
      simp only [Option.some.injEq, Prod.mk.injEq] at h
      obtain ⟨rfl, rfl⟩ := h
      simp
  | @one t n h1 =>
    obtain ⟨q1, q2, q3, q4, q5⟩ := ok.nk h1
    unfold Cmpl
    simp only [Nat.reduceLeDiff, false_and, if_false, Nat.reduceEqDiff, if_true]
    refine ⟨fun x hx => by simp at hx; subst hx; exact q5, fun d rest _ hs => ⟨1, fun f hf => ?_⟩⟩
    obtain ⟨f, rfl⟩ : ∃ g, f = g + 1 := ⟨f - 1, by omega⟩
    simp only [prd, List.cons_append, List.nil_append, q1, Bool.false_eq_true, if_false, h1]
    split
    · rename_i l r1 _
      rw [if_neg (by rw [(hs l r1 rfl).1]; decide)]
    · rfl
  | @par l r a e h1 h2 ha ih =>
    unfold Cmpl
    simp only [Nat.reduceLeDiff, false_and, if_false, Nat.reduceEqDiff, if_true]
    refine ⟨fun x hx => by simp at hx; subst hx; exact (ok.LR _ h1).2.2.2.1, fun d rest hbal hs => ?_⟩
    obtain ⟨hd, hb⟩ := (bal_wrap ok h1 h2 (ha.ph ok).2.1).1 hbal
    obtain ⟨F, hF⟩ := ih.op (by omega) hb (Stp.close ok (l := 1) h2 rest)
    refine ⟨F + 1, fun f hf => ?_⟩
    obtain ⟨f, rfl⟩ : ∃ g, f = g + 1 := ⟨f - 1, by omega⟩
    have := hF f (by omega)
    simp only [prd, List.cons_append, List.append_assoc, List.nil_append, h1, if_true, if_pos hd, this, h2]
  | @call t l r a e h0 h1 h2 ha ih =>
    obtain ⟨n, hk⟩ := ok.nf h0
    obtain ⟨q1, q2, q3, q4, q5⟩ := ok.nk hk
    have hg := ok.fg t h0
    have har := ok.ar t h0
    unfold Cmpl at ih ⊢
    simp only [Nat.reduceLeDiff, false_and, if_false, Nat.reduceEqDiff, if_true] at ih ⊢
    refine ⟨fun x hx => by simp at hx; subst hx; exact q5, fun d rest hbal hs => ?_⟩
    rw [bal_nl q1 q2] at hbal
    obtain ⟨hd, hb⟩ := (bal_wrap ok h1 h2 (ha.ph ok).2.1).1 hbal
    obtain ⟨F, e1, r1, hF⟩ := ih (d + 1) (r :: rest) (e, r :: rest) 0 hb (Stp.close ok (l := 1) h2 rest) ⟨1, fun f hf => by
      obtain ⟨f, rfl⟩ : ∃ g, f = g + 1 := ⟨f - 1, by omega⟩
      rfl⟩
    refine ⟨F + 1, fun f hf => ?_⟩
    obtain ⟨f, rfl⟩ : ∃ g, f = g + 1 := ⟨f - 1, by omega⟩
    obtain ⟨g1, g2⟩ := hF f (by omega)
    rw [Nat.add_zero] at g2
    simp only [prd, List.cons_append, List.append_assoc, List.nil_append, q1, Bool.false_eq_true, if_false, hk, hg, h1, if_true, if_neg h0, if_pos hd, g1, g2, h2]
  | @arg a e ha ih =>
    unfold Cmpl
    simp only [Nat.reduceLeDiff, false_and, if_false, Nat.reduceEqDiff]
    intro d rest x m hb hs hx
    obtain ⟨F1, h1⟩ := ih.op (by omega) hb hs
    obtain ⟨F2, h2⟩ := hx
    refine ⟨max F1 F2, e, rest, fun f hf => ⟨h1 f (by omega), ?_⟩⟩
    rw [show 1 - 1 + m = m by omega]
    exact h2 f (by omega)
  | @args n a c b ea eb ha hc hb iha ihb =>
    unfold Cmpl at iha ⊢
    simp only [Nat.reduceLeDiff, false_and, if_false, Nat.reduceEqDiff] at iha ⊢
    intro d rest x m hbal hs hx
    obtain ⟨q1, q2⟩ := ok.nC hc
    obtain ⟨b1, b2⟩ := bal_split hbal (ha.ph ok).2.1
    rw [bal_nl q1 q2] at b2
    obtain ⟨F1, h1⟩ := ihb.op (by omega) b2 hs
    obtain ⟨F2, h2⟩ := hx
    obtain ⟨F, e1, r1, hF⟩ := iha d (c :: b ++ rest) x (m + 1) b1 (Stp.comma ok (l := 1) hc _) ⟨max F1 F2 + 1, fun f hf => by
      obtain ⟨f, rfl⟩ : ∃ g, f = g + 1 := ⟨f - 1, by omega⟩
      simp only [prd, List.cons_append, hc, if_true, h1 f (by omega), h2 f (by omega)]⟩
    refine ⟨F, e1, r1, fun f hf => ?_⟩
    have hn : 1 ≤ n := by
      cases ha <;> omega
    rw [List.append_assoc, show n + 1 - 1 + m = n - 1 + (m + 1) by omega]
    exact hF f hf

/-- What is read to the end is a phrase whose brackets are not too deep, and the other way round. -/
theorem pr_some {X : Lx T N} (ok : X.Ok) {M : Nat} {ts : List T} {e : List N} {f : Nat} (h : prd X M f (.op 1) 0 ts = some (e, [])) : Gr X 1 0 ts e ∧ blc X M 0 ts = some 0 := by
  obtain ⟨pre, h1, h2, h3⟩ := pr_sound ok M f (.op 1) 0 ts e [] h (by omega) (by omega)
  rw [List.append_nil] at h1
  subst h1
  exact ⟨h2, h3⟩
theorem pr_all {X : Lx T N} (ok : X.Ok) {M : Nat} {ts : List T} {e : List N} (h : Gr X 1 0 ts e) (hb : blc X M 0 ts = some 0) : ∃ F, ∀ f, F ≤ f → prd X M f (.op 1) 0 ts = some (e, []) := by
  have := (h.comp ok M).op (by omega) hb (rest := []) (fun t r e => by cases e)
  rw [List.append_nil] at this
  exact this
theorem Gr.uniq {X : Lx T N} (ok : X.Ok) {ts : List T} {e e' : List N} (h : Gr X 1 0 ts e) (h' : Gr X 1 0 ts e') : e = e' := by
  have hb : ∃ M, blc X M 0 ts = some 0 := by
    refine ⟨ts.length, ?_⟩
    have gen : ∀ (l : List T) (d : Nat), (∀ i, i ≤ l.length → 0 ≤ (d : Int) + dpt X (l.take i)) → d + l.length ≤ ts.length → ∃ d', blc X ts.length d l = some d' := fun l => by
      induction l with
      | nil => exact fun d _ _ => ⟨d, rfl⟩
      | cons t r ih =>
        intro d hd hl
        simp only [List.length_cons] at hl
        simp only [blc]
        have hi : ∀ i, i ≤ r.length → 0 ≤ (d : Int) + dpt X (t :: r.take i) := fun i hi => by
          have := hd (i + 1) (by simpa using hi)
          rwa [List.take_succ_cons] at this
        split
        · rename_i hL
          rw [if_pos (by omega)]
          refine ih (d + 1) (fun i h => ?_) (by omega)
          have := hi i h
          simp only [dpt, hL, if_true] at this
          omega
        · rename_i hL
          split
          · rename_i hR
            have h0 := hi 0 (Nat.zero_le _)
            simp only [dpt, if_neg hL, hR, if_true, List.take_zero] at h0
            rw [if_neg (by omega)]
            refine ih (d - 1) (fun i h => ?_) (by omega)
            have := hi i h
            simp only [dpt, if_neg hL, hR, if_true] at this
            omega
          · rename_i hR
            refine ih d (fun i h => ?_) (by omega)
            have := hi i h
            simp only [dpt, if_neg hL, if_neg hR] at this
            omega
    obtain ⟨d', hd'⟩ := gen ts 0 (fun i hi => by have := ((h.ph ok).2.2) i hi; omega) (by omega)
    have := bal_dep hd'
    rw [(h.ph ok).2.1] at this
    obtain rfl : d' = 0 := by omega
    exact hd'
  obtain ⟨M, hb⟩ := hb
  obtain ⟨F, hF⟩ := pr_all ok h hb
  obtain ⟨F', hF'⟩ := pr_all ok h' hb
  have := (hF (max F F') (by omega)).symm.trans (hF' (max F F') (by omega))
  simpa using this
end Go.Proofs.YtjgngbmkpiihgaaGreatDoor

/- Parting an expression at its last sign, and the grammar; no walk in this text. -/
namespace Go.Proofs.YtjgngbmkpiihgaaGreatDoor
open List
variable {T N : Type}

/-- A sign of a level that stands between two operands, outside all brackets, at place i + 1. -/
def BinAt (X : Lx T N) (l : Nat) (ts : List T) (i : Nat) : Prop := ∃ p t, ts[i]? = some p ∧ ts[i + 1]? = some t ∧ dpt X (ts.take (i + 2)) = 0 ∧ X.eo p = true ∧ X.b t ≠ 0 ∧ X.lv (X.b t) = l
theorem PhT.last {X : Lx T N} {l : Nat} {a : List T} (h : PhT X l a) : ∃ p, a[a.length - 1]? = some p ∧ X.eo p = true := by
  cases hq : a.getLast? with
  | none => rw [List.getLast?_eq_none_iff] at hq; exact absurd hq h.ne
  | some p => exact ⟨p, by rw [← List.getLast?_eq_getElem?]; exact hq, h.eo p hq⟩
/-- Between two phrases stands the last sign of its level. -/
theorem mid_last {X : Lx T N} (ok : X.Ok) {l la : Nat} {a b : List T} {t : T} (ha : PhT X la a) (hb : PhT X (l + 1) b) (h1 : X.b t ≠ 0) (h2 : X.lv (X.b t) = l) : BinAt X l (a ++ t :: b) (a.length - 1) ∧ ∀ j, a.length - 1 < j → ¬ BinAt X l (a ++ t :: b) j := by
  obtain ⟨q1, q2, q3, q4⟩ := ok.nb h1
  have dt : ∀ r, dpt X (t :: r) = dpt X r := dep_nl q1 q2
  have hla : 1 ≤ a.length := List.length_pos_iff.2 ha.ne
  obtain ⟨p, hp, he⟩ := ha.last
  constructor
  · refine ⟨p, t, by rw [List.getElem?_append_left (by omega)]; exact hp, ?_, ?_, he, h1, h2⟩
    · rw [show a.length - 1 + 1 = a.length by omega, List.getElem?_append_right (Nat.le_refl _), Nat.sub_self]; rfl
    · rw [show a.length - 1 + 2 = a.length + 1 by omega, take_app_ge (by omega), dep_append, ha.d0, show a.length + 1 - a.length = 0 + 1 by omega, List.take_succ_cons, dt]; rfl
  · rintro j hj ⟨p', t', a1, a2, a3, a4, a5, a6⟩
    rw [List.getElem?_append_right (by omega)] at a1 a2
    rw [take_app_ge (by omega), dep_append, ha.d0] at a3
    by_cases hje : j = a.length
    · subst hje
      rw [Nat.sub_self] at a1
      simp at a1
      subst a1
      rw [q4] at a4; cases a4
    · obtain ⟨k, hk⟩ : ∃ k, j = a.length + 1 + k := ⟨j - a.length - 1, by omega⟩
      subst hk
      rw [show a.length + 1 + k - a.length = k + 1 by omega, List.getElem?_cons_succ] at a1
      rw [show a.length + 1 + k + 1 - a.length = k + 1 + 1 by omega, List.getElem?_cons_succ] at a2
      rw [show a.length + 1 + k + 2 - a.length = k + 2 + 1 by omega, List.take_succ_cons, dt] at a3
      have := hb.lo k p' t' a1 a2 (by omega) a4 a5
      omega
theorem Gr.inv {X : Lx T N} {l : Nat} {ts : List T} {e : List N} (h : Gr X l 0 ts e) (h1 : 1 ≤ l) (h5 : l ≤ 5) : Gr X (l + 1) 0 ts e ∨ ∃ a t b ea eb, ts = a ++ t :: b ∧ e = ea ++ eb ++ [X.o (X.b t)] ∧ X.b t ≠ 0 ∧ X.lv (X.b t) = l ∧ Gr X (if l = 3 then 4 else l) 0 a ea ∧ Gr X (l + 1) 0 b eb := by
  cases h with
  | up _ _ h => exact .inl h
  | bin _ _ h3 ha h4 hl hb => exact .inr ⟨_, _, _, _, _, rfl, rfl, h4, hl, by rw [if_neg h3]; exact ha, hb⟩
  | cmp ha h4 hl hb => exact .inr ⟨_, _, _, _, _, rfl, rfl, h4, hl, ha, hb⟩
  | pre => omega
  | one => omega
  | par => omega
  | call => omega
theorem no_low {X : Lx T N} (ok : X.Ok) {l : Nat} {ts : List T} {e : List N} (h : Gr X (l + 1) 0 ts e) (h5 : l ≤ 5) (i : Nat) : ¬ BinAt X l ts i := by
  rintro ⟨p, t, a1, a2, a3, a4, a5, a6⟩
  have := ((h.ph ok).1 (by omega)).lo i p t a1 a2 a3 a4 a5
  omega
/-- No sign of the level: a phrase of the next one. -/
theorem split_none {X : Lx T N} (ok : X.Ok) {l : Nat} {ts : List T} (h1 : 1 ≤ l) (h5 : l ≤ 5) (hn : ∀ i, ¬ BinAt X l ts i) (e : List N) : Gr X l 0 ts e ↔ Gr X (l + 1) 0 ts e := by
  constructor
  · intro h
    rcases h.inv h1 h5 with h | ⟨a, t, b, ea, eb, rfl, rfl, h4, hl, ha, hb⟩
    · exact h
    · refine absurd (mid_last ok ((ha.ph ok).1 (by split <;> omega)) ((hb.ph ok).1 (by omega)) h4 hl).1 (hn _)
  · exact fun h => .up h1 (by omega) h
/-- The last sign of the level parts a phrase. -/
theorem split_some {X : Lx T N} (ok : X.Ok) {l i : Nat} {a b : List T} {t : T} (h1 : 1 ≤ l) (h5 : l ≤ 5) (hi : BinAt X l (a ++ t :: b) i) (hl : ∀ j, i < j → ¬ BinAt X l (a ++ t :: b) j) (ha : a.length = i + 1) (e : List N) : Gr X l 0 (a ++ t :: b) e ↔ ∃ ea eb, Gr X (if l = 3 then 4 else l) 0 a ea ∧ Gr X (l + 1) 0 b eb ∧ e = ea ++ eb ++ [X.o (X.b t)] := by
  constructor
  · intro h
    rcases h.inv h1 h5 with h | ⟨a', t', b', ea, eb, he, rfl, h4, hl', ha', hb'⟩
    · exact absurd hi (no_low ok h h5 i)
    · have pa := (ha'.ph ok).1 (show (if l = 3 then 4 else l) ≤ 7 by split <;> omega)
      have hm := mid_last ok pa ((hb'.ph ok).1 (by omega)) h4 hl'
      rw [← he] at hm
      have hla : 1 ≤ a'.length := List.length_pos_iff.2 pa.ne
      have hlen : a.length = a'.length := by
        rcases Nat.lt_trichotomy i (a'.length - 1) with h | h | h
        · exact absurd hm.1 (hl _ h)
        · omega
        · exact absurd hi (hm.2 _ h)
      obtain ⟨rfl, h'⟩ := List.append_inj he hlen
      cases h'
      exact ⟨ea, eb, ha', hb', rfl⟩
  · rintro ⟨ea, eb, h2, h3, rfl⟩
    obtain ⟨p, t', a1, a2, a3, a4, a5, a6⟩ := hi
    rw [List.getElem?_append_right (by omega), ha, Nat.sub_self] at a2
    simp at a2
    subst a2
    by_cases hl3 : l = 3
    · rw [if_pos hl3] at h2
      subst hl3
      exact .cmp h2 a5 a6 h3
    · rw [if_neg hl3] at h2
      exact .bin h1 h5 hl3 h2 a5 a6 h3
/-- A phrase that begins with a sign. -/
theorem sign_iff {X : Lx T N} (ok : X.Ok) {t : T} {r : List T} (h : X.u t ≠ 0) (e : List N) : Gr X 6 0 (t :: r) e ↔ ∃ eb, Gr X 6 0 r eb ∧ e = eb ++ [X.o (X.u t)] := by
  constructor
  · intro hg
    generalize hl : (6 : Nat) = l at hg
    generalize hts : t :: r = ts at hg
    cases hg with
    | up h1 h2 hg =>
      subst hl
      obtain ⟨q, -⟩ : (∀ t, ts.head? = some t → X.u t = 0) ∧ True := ⟨by
        have := hg.comp ok 0
        unfold Cmpl at this
        simp only [Nat.reduceLeDiff, false_and, if_false, Nat.reduceEqDiff, if_true, Nat.reduceAdd] at this
        exact this.1, trivial⟩
      exact absurd (q t (by rw [← hts]; rfl)) h
    | bin h1 h2 => omega
    | cmp => omega
    | pre h1 hb =>
      cases hts
      exact ⟨_, hb, rfl⟩
    | one => omega
    | par => omega
    | call => omega
  · rintro ⟨eb, h1, rfl⟩
    exact .pre h h1
theorem nosign_iff {X : Lx T N} {t : T} {r : List T} (h : X.u t = 0) (e : List N) : Gr X 6 0 (t :: r) e ↔ Gr X 7 0 (t :: r) e := by
  constructor
  · intro hg
    generalize hl : (6 : Nat) = l at hg
    generalize hts : t :: r = ts at hg
    cases hg with
    | up h1 h2 hg => subst hl; exact hg
    | bin h1 h2 => omega
    | cmp => omega
    | pre h1 hb => cases hts; exact absurd h h1
    | one => omega
    | par => omega
    | call => omega
  · exact fun hg => .up (by omega) (by omega) hg
theorem Gr.inv7 {X : Lx T N} {ts : List T} {e : List N} (h : Gr X 7 0 ts e) : (∃ t n, ts = [t] ∧ e = [n] ∧ X.k t = some n) ∨ (∃ l r a, ts = l :: (a ++ [r]) ∧ X.L l = true ∧ X.R r = true ∧ Gr X 1 0 a e) ∨ ∃ t l r a e', ts = t :: l :: (a ++ [r]) ∧ e = e' ++ [X.o (X.f t)] ∧ X.f t ≠ 0 ∧ X.L l = true ∧ X.R r = true ∧ Gr X 8 (X.ar (X.f t)) a e' := by
  generalize hl : (7 : Nat) = l at h
  cases h with
  | up => omega
  | bin => omega
  | cmp => omega
  | pre => omega
  | one h => exact .inl ⟨_, _, rfl, rfl, h⟩
  | par h1 h2 h3 => exact .inr (.inl ⟨_, _, _, rfl, h1, h2, h3⟩)
  | call h0 h1 h2 h3 => exact .inr (.inr ⟨_, _, _, _, _, rfl, rfl, h0, h1, h2, h3⟩)
/-- One token alone. -/
theorem one_iff {X : Lx T N} (t : T) (e : List N) : Gr X 7 0 [t] e ↔ ∃ n, X.k t = some n ∧ e = [n] := by
  constructor
  · intro h
    rcases h.inv7 with ⟨t', n, h1, h2, h3⟩ | ⟨l, r, a, h1, -⟩ | ⟨t', l, r, a, e', h1, -⟩
    · cases h1; exact ⟨n, h3, h2⟩
    · have := congrArg List.length h1; simp at this
    · have := congrArg List.length h1; simp at this
  · rintro ⟨n, h, rfl⟩
    exact .one h
/-- Brackets around. -/
theorem par_iff {X : Lx T N} (ok : X.Ok) {l r : T} {a : List T} (h1 : X.L l = true) (h2 : X.R r = true) (e : List N) : Gr X 7 0 (l :: (a ++ [r])) e ↔ Gr X 1 0 a e := by
  constructor
  · intro h
    rcases h.inv7 with ⟨t', n, g1, g2, g3⟩ | ⟨l', r', a', g1, -, -, g2⟩ | ⟨t', l', r', a', e', g1, -, g2, -⟩
    · have := congrArg List.length g1; simp at this
    · simp only [List.cons.injEq] at g1
      obtain ⟨rfl, g1⟩ := g1
      obtain ⟨rfl, -⟩ := List.append_inj' g1 rfl
      exact g2
    · simp only [List.cons.injEq] at g1
      obtain ⟨rfl, -⟩ := g1
      obtain ⟨n, hn⟩ := ok.nf g2
      rw [(ok.nk hn).1] at h1; cases h1
  · exact fun h => .par h1 h2 h
/-- A function and its brackets. -/
theorem call_iff {X : Lx T N} {t l r : T} {a : List T} (h0 : X.L t = false) (h1 : X.L l = true) (h2 : X.R r = true) (e : List N) : Gr X 7 0 (t :: l :: (a ++ [r])) e ↔ X.f t ≠ 0 ∧ ∃ e', Gr X 8 (X.ar (X.f t)) a e' ∧ e = e' ++ [X.o (X.f t)] := by
  constructor
  · intro h
    rcases h.inv7 with ⟨t', n, g1, g2, g3⟩ | ⟨l', r', a', g1, g2, -⟩ | ⟨t', l', r', a', e', g1, g2, g3, g4, g5, g6⟩
    · have := congrArg List.length g1; simp at this
    · simp only [List.cons.injEq] at g1
      rw [← g1.1, h0] at g2; cases g2
    · simp only [List.cons.injEq] at g1
      obtain ⟨rfl, rfl, g1⟩ := g1
      obtain ⟨rfl, -⟩ := List.append_inj' g1 rfl
      exact ⟨g3, e', g6, g2⟩
  · rintro ⟨g1, e', g2, rfl⟩
    exact .call g1 h1 h2 g2
/-- Else there is none. -/
theorem atom_none {X : Lx T N} (ok : X.Ok) {ts : List T} {e : List N} (h : Gr X 7 0 ts e) : (∃ t, ts = [t]) ∨ (∃ l r a, ts = l :: (a ++ [r]) ∧ X.L l = true ∧ X.R r = true ∧ dpt X a = 0 ∧ ∀ i, i ≤ a.length → 0 ≤ dpt X (a.take i)) ∨ ∃ t l r a, ts = t :: l :: (a ++ [r]) ∧ X.g t = true ∧ X.L l = true ∧ X.R r = true ∧ dpt X a = 0 ∧ ∀ i, i ≤ a.length → 0 ≤ dpt X (a.take i) := by
  rcases h.inv7 with ⟨t', n, g1, g2, g3⟩ | ⟨l', r', a', g1, g2, g3, g4⟩ | ⟨t', l', r', a', e', g1, g2, g3, g4, g5, g6⟩
  · exact .inl ⟨t', g1⟩
  · exact .inr (.inl ⟨l', r', a', g1, g2, g3, (g4.ph ok).2.1, (g4.ph ok).2.2⟩)
  · exact .inr (.inr ⟨t', l', r', a', g1, ok.fg t' g3, g4, g5, (g6.ph ok).2.1, (g6.ph ok).2.2⟩)
/-- The pieces between the commas that stand outside all brackets. -/
def dlt (X : Lx T N) (t : T) : Int := if X.L t = true then 1 else if X.R t = true then -1 else 0
theorem dep_cons (X : Lx T N) (t : T) (r : List T) : dpt X (t :: r) = dlt X t + dpt X r := rfl
def pcs (X : Lx T N) : Int → List T → List T → List (List T)
  | _, cur, [] => [cur]
  | d, cur, t :: r => if d + dlt X t = 0 ∧ X.C t = true then cur :: pcs X 0 [] r else pcs X (d + dlt X t) (cur ++ [t]) r
def AllG (X : Lx T N) : List (List T) → List N → Prop
  | [], e => e = []
  | p :: ps, e => ∃ e1 e2, Gr X 1 0 p e1 ∧ AllG X ps e2 ∧ e = e1 ++ e2
theorem AllG.app {X : Lx T N} {ps qs : List (List T)} {e1 e2 : List N} (h1 : AllG X ps e1) (h2 : AllG X qs e2) : AllG X (ps ++ qs) (e1 ++ e2) := by
  induction ps generalizing e1 with
  | nil => cases h1; simpa using h2
  | cons p ps ih =>
    obtain ⟨a, b, h3, h4, rfl⟩ := h1
    exact ⟨a, b ++ e2, h3, ih h4, by simp⟩
theorem AllG.unapp {X : Lx T N} {ps qs : List (List T)} {e : List N} (h : AllG X (ps ++ qs) e) : ∃ e1 e2, AllG X ps e1 ∧ AllG X qs e2 ∧ e = e1 ++ e2 := by
  induction ps generalizing e with
  | nil => exact ⟨[], e, rfl, h, rfl⟩
  | cons p ps ih =>
    obtain ⟨a, b, h3, h4, rfl⟩ := h
    obtain ⟨c, d, h5, h6, rfl⟩ := ih h4
    exact ⟨a ++ c, d, ⟨a, c, h3, h5, rfl⟩, h6, by simp⟩
theorem pcs_app {X : Lx T N} (ok : X.Ok) {c : T} (hc : X.C c = true) (b : List T) : ∀ (a : List T) (d : Int) (cur : List T), d + dpt X a = 0 → pcs X d cur (a ++ c :: b) = pcs X d cur a ++ pcs X 0 [] b
  | [], d, cur, h => by
    obtain ⟨q1, q2⟩ := ok.nC hc
    simp only [List.nil_append, pcs]
    have : dlt X c = 0 := by simp [dlt, q1, q2]
    rw [if_pos ⟨by rw [this]; simpa [dpt] using h, hc⟩]
    rfl
  | t :: a, d, cur, h => by
    rw [dep_cons] at h
    simp only [List.cons_append, pcs]
    split
    · rename_i hd
      rw [pcs_app ok hc b a 0 [] (by omega)]
      rfl
    · exact pcs_app ok hc b a _ _ (by omega)
theorem pcs_one {X : Lx T N} : ∀ (b : List T) (d : Int) (cur : List T), (∀ i t, b[i]? = some t → d + dpt X (b.take (i + 1)) = 0 → X.C t = false) → pcs X d cur b = [cur ++ b]
  | [], d, cur, _ => by simp [pcs]
  | t :: b, d, cur, h => by
    simp only [pcs]
    rw [if_neg]
    · rw [pcs_one b _ _ fun i x hx hd => h (i + 1) x (by simpa using hx) (by rw [List.take_succ_cons, dep_cons]; omega)]
      simp
    · rintro ⟨h1, h2⟩
      have := h 0 t rfl (by simp [List.take_succ_cons, dep_cons, dpt]; exact h1)
      rw [this] at h2; cases h2
theorem args_pcs {X : Lx T N} (ok : X.Ok) {l n : Nat} {a : List T} {e : List N} (h : Gr X l n a e) : l = 8 → (pcs X 0 [] a).length = n ∧ AllG X (pcs X 0 [] a) e := by
  have one : ∀ {b : List T} {e : List N}, Gr X 1 0 b e → pcs X 0 [] b = [b] := fun h => by
    rw [pcs_one _ 0 [] fun i t hi hd => ((h.ph ok).1 (by omega)).nc i t hi (by omega)]; rfl
  induction h with
  | arg ha => intro _; rw [one ha]; exact ⟨rfl, _, _, ha, rfl, by simp⟩
  | args ha hc hb iha _ =>
    intro _
    obtain ⟨h1, h2⟩ := iha rfl
    rw [pcs_app ok hc _ _ 0 [] (by rw [(ha.ph ok).2.1]; rfl), one hb]
    exact ⟨by simp [h1], h2.app ⟨_, _, hb, rfl, by simp⟩⟩
  | up => omega
  | bin => omega
  | cmp => omega
  | pre => omega
  | one => omega
  | par => omega
  | call => omega
theorem pcs_args {X : Lx T N} : ∀ (a : List T) (d : Int) (cur : List T) (e : List N), AllG X (pcs X d cur a) e → Gr X 8 (pcs X d cur a).length (cur ++ a) e ∧ ∀ m pre c e0, Gr X 8 m pre e0 → X.C c = true → Gr X 8 (m + (pcs X d cur a).length) (pre ++ c :: (cur ++ a)) (e0 ++ e)
  | [], d, cur, e, h => by
    simp only [pcs] at h ⊢
    obtain ⟨e1, e2, h1, rfl, rfl⟩ := h
    rw [List.append_nil, List.append_nil]
    exact ⟨.arg h1, fun m pre c e0 hp hc => .args hp hc h1⟩
  | t :: a, d, cur, e, h => by
    simp only [pcs] at h ⊢
    split at h
    · rename_i hd
      obtain ⟨e1, e2, h1, h2, rfl⟩ := h
      obtain ⟨-, h3⟩ := pcs_args a 0 [] e2 h2
      rw [if_pos hd, List.length_cons]
      constructor
      · have := h3 1 cur t e1 (.arg h1) hd.2
        rw [Nat.add_comm] at this
        simpa using this
      · intro m pre c e0 hp hc
        have := h3 (m + 1) _ t _ (.args hp hc h1) hd.2
        rw [show m + ((pcs X 0 [] a).length + 1) = m + 1 + (pcs X 0 [] a).length by omega]
        simpa using this
    · rename_i hd
      rw [if_neg hd]
      have := pcs_args a _ _ e h
      rw [List.append_assoc] at this
      exact this
theorem args_iff {X : Lx T N} (ok : X.Ok) {n : Nat} {a : List T} {e : List N} : Gr X 8 n a e ↔ (pcs X 0 [] a).length = n ∧ AllG X (pcs X 0 [] a) e := by
  constructor
  · exact fun h => args_pcs ok h rfl
  · rintro ⟨rfl, h⟩
    exact (pcs_args a 0 [] e h).1

/-- The place of the bracket that closes. -/
def mtc (X : Lx T N) : Int → List T → Option Nat
  | _, [] => none
  | d, t :: r => if X.R t = true ∧ d + dlt X t = 0 then some 0 else (mtc X (d + dlt X t) r).map (· + 1)
theorem mt_some {X : Lx T N} : ∀ (s : List T) (d : Int) (j : Nat), mtc X d s = some j → ∃ a r b, s = a ++ r :: b ∧ a.length = j ∧ X.R r = true
  | [], _, _, h => by cases h
  | t :: s, d, j, h => by
    simp only [mtc] at h
    split at h
    · rename_i hq
      cases h
      exact ⟨[], t, s, rfl, rfl, hq.1⟩
    · cases hm : mtc X (d + dlt X t) s with
      | none => rw [hm] at h; cases h
      | some k =>
        rw [hm] at h
        cases h
        obtain ⟨a, r, b, rfl, rfl, hr⟩ := mt_some s _ k hm
        exact ⟨t :: a, r, b, rfl, rfl, hr⟩
theorem mt_last {X : Lx T N} (ok : X.Ok) {r : T} (hr : X.R r = true) : ∀ (a : List T) (d : Int), 1 ≤ d → d + dpt X a = 1 → (∀ i, i ≤ a.length → 1 ≤ d + dpt X (a.take i)) → mtc X d (a ++ [r]) = some a.length
  | [], d, _, h, _ => by
    simp only [dpt] at h
    simp only [List.nil_append, mtc]
    rw [if_pos ⟨hr, by simp [dlt, ok.rl hr, hr]; omega⟩]; rfl
  | t :: a, d, h1, h2, h3 => by
    rw [dep_cons] at h2
    simp only [List.cons_append, mtc]
    have h4 := h3 1 (by simp)
    rw [List.take_succ_cons, dep_cons] at h4
    simp only [List.take_zero, dpt] at h4
    rw [if_neg (by rintro ⟨-, h⟩; omega), mt_last ok hr a _ (by omega) (by omega) fun i hi => by
      have := h3 (i + 1) (by simpa using hi)
      rw [List.take_succ_cons, dep_cons] at this
      omega]
    rfl
/-- The bracket that opens a list is closed by the last one. -/
theorem match_last {X : Lx T N} (ok : X.Ok) {l r : T} {a : List T} (h1 : X.L l = true) (h2 : X.R r = true) (d0 : dpt X a = 0) (dn : ∀ i, i ≤ a.length → 0 ≤ dpt X (a.take i)) : mtc X 0 (l :: (a ++ [r])) = some (a.length + 1) := by
  have hd : dlt X l = 1 := by simp [dlt, h1]
  simp only [mtc]
  rw [if_neg (by rintro ⟨-, h⟩; omega), hd, mt_last ok h2 a _ (by omega) (by omega) fun i hi => by have := dn i hi; omega]
  rfl
theorem match_split {X : Lx T N} {l : T} {s : List T} (h : mtc X 0 (l :: s) = some s.length) (h1 : X.L l = true) : ∃ a r, s = a ++ [r] ∧ X.R r = true := by
  have hd : dlt X l = 1 := by simp [dlt, h1]
  simp only [mtc] at h
  rw [if_neg (by rintro ⟨-, h⟩; omega)] at h
  cases hm : mtc X (0 + dlt X l) s with
  | none => rw [hm] at h; cases h
  | some k =>
    rw [hm] at h
    simp only [Option.map_some, Option.some.injEq] at h
    obtain ⟨a, r, b, rfl, h3, h4⟩ := mt_some s _ k hm
    simp only [List.length_append, List.length_cons] at h
    have hb : b = [] := List.length_eq_zero_iff.1 (by omega)
    subst hb
    exact ⟨a, r, rfl, h4⟩

/-- The last sign of a level outside all brackets: the tokens that were seen, and those to come. -/
def lsd (X : Lx T N) (l : Nat) (ts : List T) (k : Nat) (last : Option Nat) : Prop := match last with
  | none => ∀ i, i + 1 < k → ¬ BinAt X l ts i
  | some j => ∃ i, j = i + 1 ∧ j < k ∧ BinAt X l ts i ∧ ∀ i', i < i' → i' + 1 < k → ¬ BinAt X l ts i'
theorem lsd_zero (X : Lx T N) (l : Nat) (ts : List T) : lsd X l ts 0 none := fun i h => by omega
theorem lsd_no {X : Lx T N} {l : Nat} {ts : List T} {k : Nat} {last : Option Nat} (h : lsd X l ts k last) (hn : ∀ i, i + 1 = k → ¬ BinAt X l ts i) : lsd X l ts (k + 1) last := by
  cases last with
  | none =>
    intro i hi
    by_cases e : i + 1 = k
    · exact hn i e
    · exact h i (by omega)
  | some j =>
    obtain ⟨i, h1, h2, h3, h4⟩ := h
    refine ⟨i, h1, by omega, h3, fun i' h5 h6 => ?_⟩
    by_cases e : i' + 1 = k
    · exact hn i' e
    · exact h4 i' h5 (by omega)
theorem lsd_yes {X : Lx T N} {l : Nat} {ts : List T} {i : Nat} (hb : BinAt X l ts i) : lsd X l ts (i + 2) (some (i + 1)) := ⟨i, rfl, by omega, hb, fun i' h1 h2 => by omega⟩
end Go.Proofs.YtjgngbmkpiihgaaGreatDoor

/- Reading from left to right, step by step, with whatever it comes to; no walk in this text. -/
namespace Go.Proofs.YtjgngbmkpiihgaaGreatDoor
open List
variable {T N : Type} {X : Lx T N} {M d l : Nat} {ts r r' : List T} {t : T} {e acc eb : List N} {x : Option (List N × List T)}

/-- From some number of steps on the reading comes to this, or to nothing. -/
def Evx (X : Lx T N) (M : Nat) (md : Mdx N) (d : Nat) (ts : List T) (x : Option (List N × List T)) : Prop := ∃ F, ∀ f, F ≤ f → prd X M f md d ts = x
theorem Evx.of1 {md : Mdx N} (h : ∀ f, prd X M (f + 1) md d ts = x) : Evx X M md d ts x := ⟨1, fun f hf => by
  obtain ⟨f, rfl⟩ : ∃ g, f = g + 1 := ⟨f - 1, by omega⟩
  exact h f⟩
theorem Evx.of2 {md md1 : Mdx N} {d1 : Nat} {ts1 : List T} {x1 : Option (List N × List T)} (h1 : Evx X M md1 d1 ts1 x1) (h : ∀ f, prd X M f md1 d1 ts1 = x1 → prd X M (f + 1) md d ts = x) : Evx X M md d ts x := by
  obtain ⟨F, h1⟩ := h1
  refine ⟨F + 1, fun f hf => ?_⟩
  obtain ⟨f, rfl⟩ : ∃ g, f = g + 1 := ⟨f - 1, by omega⟩
  exact h f (h1 f (by omega))
theorem Evx.of3 {md md1 md2 : Mdx N} {d1 d2 : Nat} {ts1 ts2 : List T} {x1 x2 : Option (List N × List T)} (h1 : Evx X M md1 d1 ts1 x1) (h2 : Evx X M md2 d2 ts2 x2) (h : ∀ f, prd X M f md1 d1 ts1 = x1 → prd X M f md2 d2 ts2 = x2 → prd X M (f + 1) md d ts = x) : Evx X M md d ts x := by
  obtain ⟨F, h1⟩ := h1
  obtain ⟨G, h2⟩ := h2
  refine ⟨max F G + 1, fun f hf => ?_⟩
  obtain ⟨f, rfl⟩ : ∃ g, f = g + 1 := ⟨f - 1, by omega⟩
  exact h f (h1 f (by omega)) (h2 f (by omega))
theorem Evx.same {md : Mdx N} {y : Option (List N × List T)} (h : Evx X M md d ts x) (h' : Evx X M md d ts y) : x = y := by
  obtain ⟨F, h⟩ := h
  obtain ⟨G, h'⟩ := h'
  exact (h (max F G) (by omega)).symm.trans (h' (max F G) (by omega))
theorem ev_op_none (hl : l ≠ 6) (h : Evx X M (.op (l + 1)) d ts none) : Evx X M (.op l) d ts none := h.of2 fun f h => by simp only [prd, if_neg hl, h]
theorem ev_op (hl : l ≠ 6) (h : Evx X M (.op (l + 1)) d ts (some (e, r))) (h2 : Evx X M (.lp l e) d r x) : Evx X M (.op l) d ts x := h.of3 h2 fun f h h2 => by simp only [prd, if_neg hl, h, h2]
theorem ev_6_none (h : Evx X M .atm d (ts.drop (usg X ts).length) none) : Evx X M (.op 6) d ts none := h.of2 fun f h => by simp only [prd, if_true, h]
theorem ev_6 (h : Evx X M .atm d (ts.drop (usg X ts).length) (some (e, r))) : Evx X M (.op 6) d ts (some (e ++ (usg X ts).reverse.map (fun t => X.o (X.u t)), r)) := h.of2 fun f h => by simp only [prd, if_true, h]
theorem ev_lp_end : Evx X M (.lp l acc) d [] (some (acc, [])) := Evx.of1 fun f => by simp only [prd]
theorem ev_lp_stop (h : ¬ (X.b t ≠ 0 ∧ X.lv (X.b t) = l)) : Evx X M (.lp l acc) d (t :: r) (some (acc, t :: r)) := Evx.of1 fun f => by simp only [prd, if_neg h]
theorem ev_lp_none (h1 : X.b t ≠ 0) (h2 : X.lv (X.b t) = l) (h : Evx X M (.op (l + 1)) d r none) : Evx X M (.lp l acc) d (t :: r) none := h.of2 fun f h => by simp only [prd, if_pos (show X.b t ≠ 0 ∧ X.lv (X.b t) = l from ⟨h1, h2⟩), h]
theorem ev_lp_cmp (h1 : X.b t ≠ 0) (h2 : X.lv (X.b t) = 3) (h : Evx X M (.op 4) d r (some (eb, r'))) : Evx X M (.lp 3 acc) d (t :: r) (some (acc ++ eb ++ [X.o (X.b t)], r')) := h.of2 fun f h => by simp only [prd, if_pos (show X.b t ≠ 0 ∧ X.lv (X.b t) = 3 from ⟨h1, h2⟩), h, if_true]
theorem ev_lp_go (h1 : X.b t ≠ 0) (h2 : X.lv (X.b t) = l) (h3 : l ≠ 3) (h : Evx X M (.op (l + 1)) d r (some (eb, r'))) (h4 : Evx X M (.lp l (acc ++ eb ++ [X.o (X.b t)])) d r' x) : Evx X M (.lp l acc) d (t :: r) x := h.of3 h4 fun f h h4 => by simp only [prd, if_pos (show X.b t ≠ 0 ∧ X.lv (X.b t) = l from ⟨h1, h2⟩), h, if_neg h3, h4]
theorem ev_at_nil : Evx X M .atm d [] none := Evx.of1 fun f => by simp only [prd]
theorem ev_par_deep (h : X.L t = true) (hd : ¬ d + 1 ≤ M) : Evx X M .atm d (t :: r) none := Evx.of1 fun f => by simp only [prd, h, if_true, if_neg hd]
theorem ev_par_none (h : X.L t = true) (hd : d + 1 ≤ M) (h1 : Evx X M (.op 1) (d + 1) r none) : Evx X M .atm d (t :: r) none := h1.of2 fun f h1 => by simp only [prd, h, if_true, if_pos hd, h1]
theorem ev_par_end (h : X.L t = true) (hd : d + 1 ≤ M) (h1 : Evx X M (.op 1) (d + 1) r (some (e, []))) : Evx X M .atm d (t :: r) none := h1.of2 fun f h1 => by simp only [prd, h, if_true, if_pos hd, h1]
theorem ev_par (h : X.L t = true) (hd : d + 1 ≤ M) {c : T} (h1 : Evx X M (.op 1) (d + 1) r (some (e, c :: r'))) : Evx X M .atm d (t :: r) (if X.R c = true then some (e, r') else none) := h1.of2 fun f h1 => by simp only [prd, h, if_true, if_pos hd, h1]
theorem ev_no (h : X.L t = false) (h1 : X.k t = none) : Evx X M .atm d (t :: r) none := Evx.of1 fun f => by simp only [prd, h, Bool.false_eq_true, if_false, h1]
theorem ev_one {n : N} (h : X.L t = false) (h1 : X.k t = some n) (h2 : X.g t = false ∨ ∀ y s, r = y :: s → X.L y = false) : Evx X M .atm d (t :: r) (some ([n], r)) := Evx.of1 fun f => by
  simp only [prd, h, Bool.false_eq_true, if_false, h1]
  split
  · rename_i y s hg
    rcases h2 with h2 | h2
    · rw [hg] at h2; cases h2
    · rw [h2 y s rfl]; simp
  · rfl
section
variable {y : T} {n : N} {r1 r2 : List T} {e1 : List N}
theorem ev_nofn (h : X.L t = false) (h1 : X.k t = some n) (hg : X.g t = true) (hy : X.L y = true) (hf : X.f t = 0) : Evx X M .atm d (t :: y :: r1) none := Evx.of1 fun f => by simp only [prd, h, Bool.false_eq_true, if_false, h1, hg, hy, if_true, if_pos hf]
theorem ev_fn_deep (h : X.L t = false) (h1 : X.k t = some n) (hg : X.g t = true) (hy : X.L y = true) (hf : X.f t ≠ 0) (hd : ¬ d + 1 ≤ M) : Evx X M .atm d (t :: y :: r1) none := Evx.of1 fun f => by simp only [prd, h, Bool.false_eq_true, if_false, h1, hg, hy, if_true, if_neg hf, if_neg hd]
theorem ev_fn_none (h : X.L t = false) (h1 : X.k t = some n) (hg : X.g t = true) (hy : X.L y = true) (hf : X.f t ≠ 0) (hd : d + 1 ≤ M) (h2 : Evx X M (.op 1) (d + 1) r1 none) : Evx X M .atm d (t :: y :: r1) none := h2.of2 fun f h2 => by simp only [prd, h, Bool.false_eq_true, if_false, h1, hg, hy, if_true, if_neg hf, if_pos hd, h2]
theorem ev_fn_args (h : X.L t = false) (h1 : X.k t = some n) (hg : X.g t = true) (hy : X.L y = true) (hf : X.f t ≠ 0) (hd : d + 1 ≤ M) (h2 : Evx X M (.op 1) (d + 1) r1 (some (e1, r2))) (h3 : Evx X M (.ar (X.ar (X.f t) - 1) e1) (d + 1) r2 none) : Evx X M .atm d (t :: y :: r1) none := h2.of3 h3 fun f h2 h3 => by simp only [prd, h, Bool.false_eq_true, if_false, h1, hg, hy, if_true, if_neg hf, if_pos hd, h2, h3]
theorem ev_fn_end (h : X.L t = false) (h1 : X.k t = some n) (hg : X.g t = true) (hy : X.L y = true) (hf : X.f t ≠ 0) (hd : d + 1 ≤ M) (h2 : Evx X M (.op 1) (d + 1) r1 (some (e1, r2))) (h3 : Evx X M (.ar (X.ar (X.f t) - 1) e1) (d + 1) r2 (some (e, []))) : Evx X M .atm d (t :: y :: r1) none := h2.of3 h3 fun f h2 h3 => by simp only [prd, h, Bool.false_eq_true, if_false, h1, hg, hy, if_true, if_neg hf, if_pos hd, h2, h3]
theorem ev_fn (h : X.L t = false) (h1 : X.k t = some n) (hg : X.g t = true) (hy : X.L y = true) (hf : X.f t ≠ 0) (hd : d + 1 ≤ M) {c : T} (h2 : Evx X M (.op 1) (d + 1) r1 (some (e1, r2))) (h3 : Evx X M (.ar (X.ar (X.f t) - 1) e1) (d + 1) r2 (some (e, c :: r'))) : Evx X M .atm d (t :: y :: r1) (if X.R c = true then some (e ++ [X.o (X.f t)], r') else none) := h2.of3 h3 fun f h2 h3 => by simp only [prd, h, Bool.false_eq_true, if_false, h1, hg, hy, if_true, if_neg hf, if_pos hd, h2, h3]
end
theorem ev_ar_zero : Evx X M (.ar 0 acc) d ts (some (acc, ts)) := Evx.of1 fun f => by simp only [prd]
theorem ev_ar_end {n : Nat} : Evx X M (.ar (n + 1) acc) d [] none := Evx.of1 fun f => by simp only [prd]
theorem ev_ar_no {n : Nat} (h : X.C t = false) : Evx X M (.ar (n + 1) acc) d (t :: r) none := Evx.of1 fun f => by simp only [prd, h, Bool.false_eq_true, if_false]
theorem ev_ar_none {n : Nat} (h : X.C t = true) (h1 : Evx X M (.op 1) d r none) : Evx X M (.ar (n + 1) acc) d (t :: r) none := h1.of2 fun f h1 => by simp only [prd, h, if_true, h1]
theorem ev_ar {n : Nat} (h : X.C t = true) (h1 : Evx X M (.op 1) d r (some (e, r'))) (h2 : Evx X M (.ar n (acc ++ e)) d r' x) : Evx X M (.ar (n + 1) acc) d (t :: r) x := h1.of3 h2 fun f h1 h2 => by simp only [prd, h, if_true, h1, h2]

/-- What is read is what the grammar says, and nothing else. -/
theorem ev_all (ok : X.Ok) (h : Evx X M (.op 1) 0 ts x) : (∀ e, (Gr X 1 0 ts e ∧ blc X M 0 ts = some 0) ↔ x = some (e, [])) := by
  intro e
  constructor
  · rintro ⟨h1, h2⟩
    obtain ⟨F, hF⟩ := pr_all ok h1 h2
    exact h.same ⟨F, hF⟩
  · rintro rfl
    obtain ⟨F, hF⟩ := h
    exact pr_some ok (hF F (Nat.le_refl _))
end Go.Proofs.YtjgngbmkpiihgaaGreatDoor
