import Derived.Test.YtjgngbmkpiihgaaGreatDoorGMa
import Derived.Test.YtjgngbmkpiihgaaGreatDoorZPrH
/- What a printed expression is read as, and that it is written with as few tokens as can be. No walk in this text. -/
namespace Go.Proofs.YtjgngbmkpiihgaaGreatDoor
open Go

theorem range_nf (l : List Nx) : (List.range l.length).map (nf l) = l := by
  refine List.ext_getElem (by simp) fun k h1 h2 => ?_
  rw [List.getElem_map, List.getElem_range, nf_get l k h2]
/-- The tokens of a printed expression. -/
theorem print_tks {l : List Nx} (hv : vxL l = true) (hf : ∀ n, n ∈ l → n.v.n ≤ 9223372036854775807) :
    ∃ ts, lxF (top (nf l) l.length).t (top (nf l) l.length).t.size 0 [] = .inr ts ∧ ExG ts l ∧ crun [] l = [((top (nf l) l.length).lv.toNat, ts.length)] := by
  unfold vxL vxB at hv
  simp only [Bool.and_eq_true, decide_eq_true_eq, List.all_eq_true] at hv
  obtain ⟨⟨⟨⟨h1, h2⟩, h3⟩, h4⟩, h5⟩ := hv
  obtain ⟨s1, s2⟩ := (stB_iff _ _).1 h3
  obtain ⟨ts, t1, t2, t3, t4⟩ := top_lex (e := nf l) (m := l.length) (fun k hk => ⟨h2 k (List.mem_range.2 hk), by rw [nf_get l k hk]; exact hf _ (List.getElem_mem hk)⟩) s1 s2 (by omega)
  rw [range_nf] at t2 t4
  exact ⟨ts, t1, ⟨t2, t3⟩, t4⟩
/-- A printed expression is read as itself. -/
theorem print_read {l : List Nx} (hv : vxL l = true) (hf : ∀ n, n ∈ l → n.v.n ≤ 9223372036854775807) : PrsA (top (nf l) l.length).t 0 l := by
  obtain ⟨ts, h1, h2, -⟩ := print_tks hv hf
  have h5 : (top (nf l) l.length).t.size ≤ 4000 := by
    unfold vxL vxB at hv
    simp only [Bool.and_eq_true, decide_eq_true_eq] at hv
    exact hv.2
  exact .inr ⟨h5, .inr ⟨ts, h1, .inr ⟨l, h2, .inr ⟨hv, rfl, rfl⟩⟩⟩⟩
/-- A text of fewer tokens is not read as that expression. -/
theorem print_few {l : List Nx} (hv : vxL l = true) (hf : ∀ n, n ∈ l → n.v.n ≤ 9223372036854775807) {ts us : List ByteArray} {s : ByteArray} {code : Int} {e : List Nx} (ht : lxF (top (nf l) l.length).t (top (nf l) l.length).t.size 0 [] = .inr ts)
    (hs : lxF s s.size 0 [] = .inr us) (hu : us.length < ts.length) (he : PrsA s code e) : ¬ (code = 0 ∧ e = l) := by
  rintro ⟨rfl, rfl⟩
  obtain ⟨ts', t1, -, t3⟩ := print_tks hv hf
  rw [t1] at ht
  cases ht
  rcases he with ⟨-, hc, -⟩ | ⟨-, ⟨i, -, hc, -⟩ | ⟨vs, v1, v2⟩⟩
  · cases hc
  · cases hc
  · rw [hs] at v1
    cases v1
    rcases v2 with ⟨-, hc, -⟩ | ⟨e', g, ⟨-, hc, -⟩ | ⟨-, -, rfl⟩⟩
    · cases hc
    · cases hc
    · obtain ⟨p, p1, p2, p3⟩ := (Gr.few g.1).1 (by omega) []
      rw [t3] at p1
      cases p1
      have := atL_le (l := 1) (p := ((top (nf e) e.length).lv.toNat, ts.length))
      omega
end Go.Proofs.YtjgngbmkpiihgaaGreatDoor

/- A printed text without one pair of brackets: how it is cut. No walk in this text. -/
namespace Go.Proofs.YtjgngbmkpiihgaaGreatDoor
open Go

theorem Sp.hd {t : ByteArray} {c : UInt8} {w w' : List UInt8} (h : Sp t (c :: w)) : Sp t (c :: w') := by
  rcases h with h | h | h | ⟨h, r, e⟩
  · exact .inl h
  · exact .inr (.inl h)
  · exact .inr (.inr (.inl fun d r e => by cases e; exact h c w rfl))
  · cases e
    exact .inr (.inr (.inr ⟨h, w', rfl⟩))
theorem SelfT.hd {t : ByteArray} (h : SelfT t) : ∃ c r, t.data.toList = c :: r := by
  have ht : t.data.toList.length = t.size := Array.length_toList
  have := h.vt.ne
  cases q : t.data.toList with
  | nil => rw [q] at ht; simp at ht; omega
  | cons c r => exact ⟨c, r, rfl⟩
theorem CutS.hd {v : List UInt8} {x : Option ByteArray} {a : List (Option ByteArray)} (h : CutS v (x :: a)) : ∃ c r, pb (x :: a) = c :: r := by
  cases x with
  | none => exact ⟨32, _, rfl⟩
  | some t =>
    obtain ⟨c, r, e⟩ := h.1.hd
    exact ⟨c, r ++ pb a, by simp [pb, e]⟩
theorem CutS.re {v v' : List UInt8} : ∀ {a : List (Option ByteArray)}, CutS v a → (∀ t, a.getLast? = some (some t) → SelfT t → Sp t v → Sp t v') → CutS v' a
  | [], _, _ => trivial
  | none :: [], _, _ => trivial
  | none :: x :: a, h, H => CutS.re (a := x :: a) h fun t ht => H t (by rw [List.getLast?_cons_cons]; exact ht)
  | some t :: [], ⟨h1, h2, _⟩, H => ⟨h1, H t rfl h1 h2, trivial⟩
  | some t :: x :: a, ⟨h1, h2, h3⟩, H => by
    obtain ⟨c, r, e⟩ := h3.hd
    refine ⟨h1, ?_, CutS.re (a := x :: a) h3 fun t ht => H t (by rw [List.getLast?_cons_cons]; exact ht)⟩
    rw [e] at h2 ⊢
    exact h2.hd
theorem CutS.split {v : List UInt8} : ∀ {a b : List (Option ByteArray)}, CutS v (a ++ b) → CutS (pb b ++ v) a ∧ CutS v b
  | [], _, h => ⟨trivial, h⟩
  | none :: a, _, h => CutS.split (a := a) h
  | some t :: a, b, ⟨h1, h2, h3⟩ => by
    obtain ⟨h4, h5⟩ := CutS.split (a := a) h3
    refine ⟨⟨h1, ?_, h4⟩, h5⟩
    have h2' : Sp t (pb (a ++ b) ++ v) := h2
    rw [pb_app, List.append_assoc] at h2'
    exact h2'
/-- Without one pair of brackets that is not the pair of a function. -/
theorem CutS.out {q1 m q3 : List (Option ByteArray)} (h : CutS [] (q1 ++ some ⟨#[40]⟩ :: (m ++ some ⟨#[41]⟩ :: q3))) (hn : ∀ c, (pb q1).getLast? = some c → nameB c.toNat = false) : CutS [] (q1 ++ (m ++ q3)) := by
  obtain ⟨h1, -, -, h2⟩ := h.split
  obtain ⟨h3, -, h4, h5⟩ := CutS.split (a := m) (b := some ⟨#[41]⟩ :: q3) h2
  have ha : Aft (pb q3 ++ []) := by
    rcases h4 with e | e | h | ⟨c, -⟩
    · exact absurd e (by decide)
    · exact absurd e (by decide)
    · exact h
    · exact absurd c (by decide +kernel)
  refine CutS.app (h1.re fun t ht hs hp => ?_) (CutS.app (h3.re fun t _ _ _ => .inr (.inr (.inl ha))) h5)
  rcases hp with e | e | h | ⟨c, -⟩
  · exact .inl e
  · exact .inr (.inl e)
  · exfalso
    have := h 40 _ rfl
    revert this
    decide
  · exfalso
    obtain ⟨q', rfl⟩ := List.getLast?_eq_some_iff.1 ht
    have e : pb (q' ++ [some t]) = pb q' ++ t.data.toList := by rw [pb_app]; simp [pb]
    obtain ⟨d, r, hd⟩ := hs.hd
    have hl : (pb (q' ++ [some t])).getLast? = t.data.toList.getLast? := by
      rw [e, List.getLast?_append, hd, List.getLast?_cons]
      rfl
    have hq : t.data.toList.getLast? = some (t.data.toList.getLast (by rw [hd]; simp)) := List.getLast?_eq_some_getLast _
    have h7 := hs.c1 c _ (List.getLast_mem (by rw [hd]; simp))
    have h8 := hn _ (hl.trans hq)
    rw [h7] at h8
    cases h8
theorem tks_out (q1 m q3 : List (Option ByteArray)) : (tks (q1 ++ (m ++ q3))).length + 2 = (tks (q1 ++ some ⟨#[40]⟩ :: (m ++ some ⟨#[41]⟩ :: q3))).length := by
  simp only [tks_app, tks, List.length_append, List.length_cons]
  omega
end Go.Proofs.YtjgngbmkpiihgaaGreatDoor

/- Brackets among the bytes of a printed text are pieces of it. No walk in this text. -/
namespace Go.Proofs.YtjgngbmkpiihgaaGreatDoor
open Go

/-- Whether one stands in quotes behind these bytes. -/
def qt : Bool → List UInt8 → Bool
  | b, [] => b
  | b, c :: r => qt (if c = 34 then !b else b) r
theorem qt_app (b : Bool) (u v : List UInt8) : qt b (u ++ v) = qt (qt b u) v := by
  induction u generalizing b with
  | nil => rfl
  | cons c u ih => exact ih _
theorem qt_no {u : List UInt8} (h : ∀ c, c ∈ u → c ≠ 34) (b : Bool) : qt b u = b := by
  induction u generalizing b with
  | nil => rfl
  | cons c u ih =>
    show qt (if c = 34 then !b else b) u = b
    rw [if_neg (h c (by simp))]
    exact ih (fun d hd => h d (List.mem_cons_of_mem _ hd)) b
theorem name_no {c : UInt8} (h : nameB c.toNat = true) : c ≠ 34 ∧ c ≠ 40 ∧ c ≠ 41 := by
  refine ⟨?_, ?_, ?_⟩ <;> rintro rfl <;> exact absurd h (by decide)
theorem digit_no {c : UInt8} (h : digitB c.toNat = true) : c ≠ 34 ∧ c ≠ 40 ∧ c ≠ 41 := by
  refine ⟨?_, ?_, ?_⟩ <;> rintro rfl <;> exact absurd h (by decide)
theorem syms_no : ∀ t ∈ syms, (∀ c ∈ t.data.toList, c ≠ 34) ∧ (t.data.toList.length = 1 ∨ ∀ c ∈ t.data.toList, c ≠ 40 ∧ c ≠ 41) := by decide +kernel
theorem text_no {t : ByteArray} (ht : SelfT t) (hc : cls t = 3) : t.data.toList = 34 :: ((mid t).data.toList ++ [34]) ∧ ∀ c, c ∈ (mid t).data.toList → c ≠ 34 := by
  obtain ⟨h1, h2⟩ := rv_quote (rv_txt hc (ht.vt.c3 hc)).1
  refine ⟨?_, fun c hm => ?_⟩
  · have := congrArg (fun x : ByteArray => x.data.toList) h2
    simp only [ByteArray.data_append, Array.toList_append] at this
    exact this.symm
  · unfold okText at h1
    simp only [Bool.and_eq_true, List.all_eq_true] at h1
    have := h1.2 c hm
    rintro rfl
    exact absurd this (by decide)
theorem cls_is (t : ByteArray) : cls t = 1 ∨ cls t = 2 ∨ cls t = 3 ∨ cls t = 4 := by unfold cls; split <;> (try split) <;> (try split) <;> simp
/-- Quotes are closed within a token. -/
theorem qt_tok {t : ByteArray} (ht : SelfT t) (b : Bool) : qt b t.data.toList = b := by
  rcases cls_is t with hc | hc | hc | hc
  · exact qt_no (fun c h => (name_no (ht.c1 hc c h)).1) b
  · exact qt_no (fun c h => (digit_no (ht.c2 hc c h)).1) b
  · obtain ⟨h1, h2⟩ := text_no ht hc
    rw [h1]
    show qt (!b) _ = b
    rw [qt_app, qt_no h2]
    cases b <;> rfl
  · exact qt_no (syms_no t (ht.vt.c4 hc)).1 b
/-- A bracket outside quotes is a token of its own. -/
theorem br_tok {t : ByteArray} (ht : SelfT t) {a r : List UInt8} {c : UInt8} (hb : c = 40 ∨ c = 41) (h : t.data.toList = a ++ c :: r) (hq : qt false a = false) : a = [] ∧ r = [] := by
  have hm : c ∈ t.data.toList := by rw [h]; simp
  rcases cls_is t with hc | hc | hc | hc
  · have := name_no (ht.c1 hc c hm)
    rcases hb with rfl | rfl
    · exact absurd rfl this.2.1
    · exact absurd rfl this.2.2
  · have := digit_no (ht.c2 hc c hm)
    rcases hb with rfl | rfl
    · exact absurd rfl this.2.1
    · exact absurd rfl this.2.2
  · obtain ⟨h1, h2⟩ := text_no ht hc
    exfalso
    rw [h1] at h
    cases a with
    | nil =>
      cases h
      rcases hb with hb | hb <;> exact absurd hb (by decide)
    | cons d a =>
      simp only [List.cons_append, List.cons.injEq] at h
      obtain ⟨rfl, h⟩ := h
      have hl : a.length ≤ (mid t).data.toList.length := by
        have := congrArg List.length h
        simp at this
        simp
        omega
      have ha : a = (mid t).data.toList.take a.length := by
        have := congrArg (List.take a.length) h
        rw [List.take_left, List.take_append_of_le_length hl] at this
        exact this.symm
      have : qt false (34 :: a) = true := qt_no (fun x hx => h2 x (by rw [ha] at hx; exact List.mem_of_mem_take hx)) true
      rw [this] at hq
      cases hq
  · rcases (syms_no t (ht.vt.c4 hc)).2 with h1 | h1
    · rw [h] at h1
      simp only [List.length_append, List.length_cons] at h1
      exact ⟨List.length_eq_zero_iff.1 (by omega), List.length_eq_zero_iff.1 (by omega)⟩
    · have := h1 c hm
      rcases hb with rfl | rfl
      · exact absurd rfl this.1
      · exact absurd rfl this.2
/-- Where a bracket stands outside quotes, the pieces part. -/
theorem CutS.at {v : List UInt8} {c : UInt8} (hb : c = 40 ∨ c = 41) : ∀ {q : List (Option ByteArray)} {a r : List UInt8}, CutS v q → pb q = a ++ c :: r → qt false a = false → ∃ q1 q2, q = q1 ++ some ⟨#[c]⟩ :: q2 ∧ pb q1 = a ∧ pb q2 = r
  | [], a, r, _, h, _ => by cases a <;> cases h
  | none :: q, a, r, hc, h, hq => by
    cases a with
    | nil =>
      cases h
      rcases hb with hb | hb <;> exact absurd hb (by decide)
    | cons d a =>
      have h' : (32 : UInt8) :: pb q = d :: (a ++ c :: r) := h
      simp only [List.cons.injEq] at h'
      obtain ⟨rfl, h'⟩ := h'
      obtain ⟨q1, q2, e1, e2, e3⟩ := CutS.at hb (q := q) hc h' hq
      exact ⟨none :: q1, q2, by rw [e1]; rfl, by simp [pb, e2], e3⟩
  | some t :: q, a, r, ⟨h1, _, h3⟩, h, hq => by
    have h' : t.data.toList ++ pb q = a ++ c :: r := h
    rcases List.append_eq_append_iff.1 h' with ⟨w, e1, e2⟩ | ⟨w, e1, e2⟩
    · rw [e1, qt_app, qt_tok h1] at hq
      obtain ⟨q1, q2, g1, g2, g3⟩ := CutS.at hb (q := q) h3 e2 hq
      exact ⟨some t :: q1, q2, by rw [g1]; rfl, by simp [pb, g2, e1], g3⟩
    · cases w with
      | nil =>
        rw [List.append_nil] at e1
        rw [List.nil_append] at e2
        rw [← e1] at hq
        obtain ⟨q1, q2, g1, g2, g3⟩ := CutS.at hb (q := q) (a := []) h3 e2.symm rfl
        exact ⟨some t :: q1, q2, by rw [g1]; rfl, by simp [pb, g2, e1], g3⟩
      | cons d w =>
        simp only [List.cons_append, List.cons.injEq] at e2
        obtain ⟨rfl, e2⟩ := e2
        obtain ⟨rfl, rfl⟩ := br_tok h1 hb e1 hq
        have et : t = ⟨#[c]⟩ := ba_ext e1
        exact ⟨[], q, by rw [et]; rfl, rfl, by rw [e2]; rfl⟩
end Go.Proofs.YtjgngbmkpiihgaaGreatDoor

/- The bracket that closes one, in a printed text. No walk in this text. -/
namespace Go.Proofs.YtjgngbmkpiihgaaGreatDoor
open Go

/-- How far on the bracket stands that closes d brackets. -/
def wcl : Nat → Bool → List UInt8 → Option Nat
  | _, _, [] => none
  | d, b, c :: r =>
    if (if c = 34 then !b else b) = false ∧ c = 40 then (wcl (d + 1) (if c = 34 then !b else b) r).map (· + 1)
    else if (if c = 34 then !b else b) = false ∧ c = 41 then (if d = 1 then some 0 else (wcl (d - 1) (if c = 34 then !b else b) r).map (· + 1))
    else (wcl d (if c = 34 then !b else b) r).map (· + 1)
theorem wcl_skip {d : Nat} {w : List UInt8} : ∀ {u : List UInt8} {b : Bool}, (∀ a c r, u = a ++ c :: r → c = 40 ∨ c = 41 → qt b a = true) → wcl d b (u ++ w) = (wcl d (qt b u) w).map (· + u.length)
  | [], b, _ => by
    show wcl d b w = (wcl d b w).map (· + 0)
    cases wcl d b w <;> rfl
  | c :: u, b, h => by
    have ih := wcl_skip (d := d) (w := w) (u := u) (b := if c = 34 then !b else b) fun a x r e hx => h (c :: a) x r (by rw [e]; rfl) hx
    have h0 : ¬ ((if c = 34 then !b else b) = false ∧ c = 40) := by
      rintro ⟨q1, rfl⟩
      have h1 : b = true := h [] 40 u rfl (.inl rfl)
      rw [if_neg (by decide), h1] at q1
      cases q1
    have h1 : ¬ ((if c = 34 then !b else b) = false ∧ c = 41) := by
      rintro ⟨q1, rfl⟩
      have h1 : b = true := h [] 41 u rfl (.inr rfl)
      rw [if_neg (by decide), h1] at q1
      cases q1
    rw [List.cons_append, wcl, if_neg h0, if_neg h1, ih]
    show _ = (wcl d (qt (if c = 34 then !b else b) u) w).map (· + (u.length + 1))
    rw [Option.map_map]
    congr 1
theorem wcl_tok {d : Nat} {t : ByteArray} {w : List UInt8} (ht : SelfT t) (h1 : t ≠ ⟨#[40]⟩) (h2 : t ≠ ⟨#[41]⟩) : wcl d false (t.data.toList ++ w) = (wcl d false w).map (· + t.data.toList.length) := by
  have := wcl_skip (d := d) (w := w) (u := t.data.toList) (b := false) fun a c r e hc => by
    cases hq : qt false a with
    | true => rfl
    | false =>
      obtain ⟨rfl, rfl⟩ := br_tok ht hc e hq
      have et : t = ⟨#[c]⟩ := ba_ext e
      rcases hc with rfl | rfl
      · exact absurd et h1
      · exact absurd et h2
  rw [this, qt_tok ht]
/-- Behind a bracket that is closed in the end, the search finds its partner. -/
theorem wcl_find {v : List UInt8} {k : Nat} : ∀ {q : List (Option ByteArray)} {d : Nat}, 1 ≤ d → CutS v q → blc tkX 64 (k + d) (tks q) = some 0 → ∃ m q3, q = m ++ some ⟨#[41]⟩ :: q3 ∧ wcl d false (pb q) = some (pb m).length
  | [], d, hd, _, h => by
    have : some (k + d) = some 0 := h
    simp at this
    omega
  | none :: q, d, hd, hc, h => by
    obtain ⟨m, q3, e, h'⟩ := wcl_find (q := q) hd hc h
    refine ⟨none :: m, q3, by rw [e]; rfl, ?_⟩
    show wcl d false (32 :: pb q) = _
    rw [wcl, if_neg (by decide), if_neg (by decide)]
    show (wcl d false (pb q)).map (· + 1) = _
    rw [h']
    rfl
  | some t :: q, d, hd, ⟨h1, _, h3⟩, h => by
    have hb : blc tkX 64 (k + d) (t :: tks q) = some 0 := h
    by_cases t1 : t = ⟨#[40]⟩
    · subst t1
      unfold blc at hb
      rw [if_pos (show tkX.L ⟨#[40]⟩ = true from rfl)] at hb
      split at hb
      · obtain ⟨m, q3, e, h'⟩ := wcl_find (q := q) (d := d + 1) (by omega) h3 hb
        refine ⟨some ⟨#[40]⟩ :: m, q3, by rw [e]; rfl, ?_⟩
        show wcl d false (40 :: pb q) = _
        rw [wcl, if_pos (by decide)]
        show (wcl (d + 1) false (pb q)).map (· + 1) = _
        rw [h']
        rfl
      · cases hb
    by_cases t2 : t = ⟨#[41]⟩
    · subst t2
      unfold blc at hb
      rw [if_neg (show ¬ tkX.L ⟨#[41]⟩ = true by decide), if_pos (show tkX.R ⟨#[41]⟩ = true from rfl), if_neg (by omega)] at hb
      by_cases d1 : d = 1
      · refine ⟨[], q, rfl, ?_⟩
        show wcl d false (41 :: pb q) = _
        rw [wcl, if_neg (by decide), if_pos (by decide), if_pos d1]
        rfl
      · obtain ⟨m, q3, e, h'⟩ := wcl_find (q := q) (d := d - 1) (by omega) h3 (by rw [show k + (d - 1) = k + d - 1 by omega]; exact hb)
        refine ⟨some ⟨#[41]⟩ :: m, q3, by rw [e]; rfl, ?_⟩
        show wcl d false (41 :: pb q) = _
        rw [wcl, if_neg (by decide), if_pos (by decide), if_neg d1]
        show (wcl (d - 1) false (pb q)).map (· + 1) = _
        rw [h']
        rfl
    · rw [bal_nl (show tkX.L t = false from decide_eq_false t1) (show tkX.R t = false from decide_eq_false t2)] at hb
      obtain ⟨m, q3, e, h'⟩ := wcl_find (q := q) hd h3 hb
      refine ⟨some t :: m, q3, by rw [e]; rfl, ?_⟩
      show wcl d false (t.data.toList ++ pb q) = _
      rw [wcl_tok h1 t1 t2, h']
      show some ((pb m).length + t.data.toList.length) = some (t.data.toList ++ pb m).length
      rw [List.length_append, Nat.add_comm]
/-- No pair of brackets of a printed text could be left out. -/
theorem print_out {l : List Nx} (hv : vxL l = true) (hf : ∀ n, n ∈ l → n.v.n ≤ 9223372036854775807) {a r : List UInt8} (hs : (top (nf l) l.length).t.data.toList = a ++ 40 :: r) (hq : qt false a = false) (hn : ∀ c, a.getLast? = some c → nameB c.toNat = false) :
    ∃ j, wcl 1 false r = some j ∧ j < r.length ∧ ∀ (u : ByteArray) (code : Int) (e : List Nx), u.data.toList = a ++ (r.take j ++ r.drop (j + 1)) → PrsA u code e → ¬ (code = 0 ∧ e = l) := by
  have hv' := hv
  unfold vxL vxB at hv
  simp only [Bool.and_eq_true, decide_eq_true_eq, List.all_eq_true] at hv
  obtain ⟨⟨⟨⟨h1, h2⟩, h3⟩, h4⟩, h5⟩ := hv
  obtain ⟨s1, s2⟩ := (stB_iff _ _).1 h3
  obtain ⟨x, hx, hp, he⟩ := top_q (e := nf l) (m := l.length) (fun k hk => ⟨h2 k (List.mem_range.2 hk), by rw [nf_get l k hk]; exact hf _ (List.getElem_mem hk)⟩) s1 s2
  have hc := hx.ct [] Aft.nil
  have hxt : (top (nf l) l.length).t.data.toList = pb x.q := by rw [← hp]; exact hx.tx
  have hb : blc tkX 64 0 (tks x.q) = some 0 := hx.bl 0 (by rw [hp]; omega)
  have hlx := hc.cut.lex hxt
  obtain ⟨q1, q2, e1, e2, e3⟩ := CutS.at (.inl rfl) hc (hxt.symm.trans hs) hq
  rw [e1] at hc hb hlx
  obtain ⟨-, -, -, c2⟩ := hc.split
  rw [tks_app, bal_append] at hb
  cases hk : blc tkX 64 0 (tks q1) with
  | none => rw [hk] at hb; cases hb
  | some k =>
    rw [hk] at hb
    have hb' : blc tkX 64 k (⟨#[40]⟩ :: tks q2) = some 0 := hb
    unfold blc at hb'
    rw [if_pos (show tkX.L ⟨#[40]⟩ = true from rfl)] at hb'
    split at hb'
    · obtain ⟨m, q3, f1, f2⟩ := wcl_find (q := q2) (k := k) (d := 1) (by omega) c2 hb'
      have hr : r = pb m ++ 41 :: pb q3 := by rw [← e3, f1, pb_app]; rfl
      refine ⟨(pb m).length, by rw [← e3]; exact f2, by rw [hr]; simp, fun u code e hu hpr => ?_⟩
      have hu' : u.data.toList = pb (q1 ++ (m ++ q3)) := by
        have d1 : r.take (pb m).length = pb m := by rw [hr]; exact List.take_left
        have d2 : r.drop ((pb m).length + 1) = pb q3 := by
          rw [hr, ← List.drop_drop, List.drop_left]
          rfl
        rw [hu, d1, d2, pb_app, pb_app, e2]
      rw [f1] at hc hlx
      have ho := CutS.out hc (by rw [e2]; exact hn)
      exact print_few hv' hf hlx (ho.cut.lex hu') (by have := tks_out q1 m q3; omega) hpr
    · cases hb'
end Go.Proofs.YtjgngbmkpiihgaaGreatDoor
