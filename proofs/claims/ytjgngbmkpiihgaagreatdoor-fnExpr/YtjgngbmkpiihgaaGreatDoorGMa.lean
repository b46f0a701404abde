import Derived.Test.YtjgngbmkpiihgaaGreatDoorGTb
import Derived.Test.YtjgngbmkpiihgaaGreatDoorGLx
import Derived.Test.YtjgngbmkpiihgaaGreatDoorGRb
import Derived.Test.YtjgngbmkpiihgaaGreatDoorGSa
/- Texts made of tokens with or without a blank between: how they are cut. -/
namespace Go.Proofs.YtjgngbmkpiihgaaGreatDoor
open Go

theorem tw_pre {p : Nat → Bool} {v : List UInt8} (hv : ∀ c r, v = c :: r → p c.toNat = false) : ∀ {u : List UInt8}, (∀ c, c ∈ u → p c.toNat = true) → ((u ++ v).takeWhile fun c => p c.toNat).length = u.length
  | [], _ => by
    cases v with
    | nil => rfl
    | cons c r =>
      rw [List.nil_append, List.takeWhile_cons_of_neg (by rw [hv c r rfl]; decide)]
  | c :: u, hu => by
    rw [List.cons_append, List.takeWhile_cons_of_pos (by simpa using hu c (by simp)), List.length_cons, List.length_cons, tw_pre hv fun d hd => hu d (List.mem_cons_of_mem _ hd)]
theorem runN_pre {p : Nat → Bool} {s : ByteArray} {i : Nat} {u v : List UInt8} (h : s.data.toList.drop i = u ++ v) (hu : ∀ c, c ∈ u → p c.toNat = true) (hv : ∀ c r, v = c :: r → p c.toNat = false) : runN p s i = u.length := by
  unfold runN
  rw [h]
  exact tw_pre hv hu
theorem drop_size {s : ByteArray} {i : Nat} {u v : List UInt8} (h : s.data.toList.drop i = u ++ v) (hi : i ≤ s.size) : i + u.length + v.length = s.size := by
  have := congrArg List.length h
  rw [List.length_drop, List.length_append, Array.length_toList] at this
  have h2 : s.data.size = s.size := rfl
  omega
theorem ext_of {s t : ByteArray} {i : Nat} {v : List UInt8} (h : s.data.toList.drop i = t.data.toList ++ v) : s.extract i (i + t.size) = t := by
  refine ba_ext ?_
  rw [ext_list, List.drop_take, h, show i + t.size - i = t.data.toList.length by rw [Array.length_toList]; show _ = t.size; omega]
  exact List.take_left
theorem bt_of {s : ByteArray} {i : Nat} {c : UInt8} {v : List UInt8} (h : s.data.toList.drop i = c :: v) : bt s i = c.toNat := by
  have h0 : s.data.toList[i]? = some c := by
    have : (s.data.toList.drop i)[0]? = some c := by rw [h]; rfl
    rw [List.getElem?_drop, Nat.add_zero] at this
    exact this
  obtain ⟨h1, h2⟩ := List.getElem?_eq_some_iff.1 h0
  have hi : i < s.size := by rw [Array.length_toList] at h1; exact h1
  rw [bt_lt hi, ← h2]
  rfl
theorem bt_end {s : ByteArray} {i : Nat} (h : s.data.toList.drop i = []) : bt s i = 0 := by
  have := congrArg List.length h
  rw [List.length_drop, Array.length_toList] at this
  have h2 : s.data.size = s.size := rfl
  exact bt_ge (by simp at this; omega)
/-- Nothing that could run into the token ahead of it. -/
def Sep (t : ByteArray) (v : List UInt8) : Prop := ∀ c r, v = c :: r → (cls t = 1 → nameB c.toNat = false) ∧ (cls t = 2 → digitB c.toNat = false) ∧ (t = ⟨#[60]⟩ → c.toNat ≠ 62 ∧ c.toNat ≠ 61)
/-- A token as cutting makes it. -/
structure SelfT (t : ByteArray) : Prop where
  vt : VT t
  c1 : cls t = 1 → ∀ c, c ∈ t.data.toList → nameB c.toNat = true
  c2 : cls t = 2 → ∀ c, c ∈ t.data.toList → digitB c.toNat = true
theorem tk_word_at {s t : ByteArray} {i : Nat} {v : List UInt8} (h : s.data.toList.drop i = t.data.toList ++ v) (hi : i < s.size) (ht : SelfT t) (hs : Sep t v) (hc : cls t = 1) : tk s i = some (t, i + t.size) := by
  have hr : runN nameB s i = t.size := by
    rw [runN_pre h (ht.c1 hc) fun c r e => (hs c r e).1 hc, Array.length_toList]; rfl
  have hb : small (bt s i) = true := by
    have hne := ht.vt.ne
    cases hd : t.data.toList with
    | nil =>
      have := congrArg List.length hd
      rw [Array.length_toList, List.length_nil] at this
      have h2 : t.data.size = t.size := rfl
      omega
    | cons c r =>
      rw [hd, List.cons_append] at h
      rw [bt_of h, ← bt0 hd]
      unfold cls at hc
      split at hc
      · assumption
      · split at hc
        · omega
        · split at hc <;> omega
  obtain ⟨-, -, -, h4⟩ := tk_word hi hb hr
  rw [h4, if_pos (ht.vt.c1 hc), ext_of h]
theorem tk_num_at {s t : ByteArray} {i : Nat} {v : List UInt8} (h : s.data.toList.drop i = t.data.toList ++ v) (hi : i < s.size) (ht : SelfT t) (hs : Sep t v) (hc : cls t = 2) : tk s i = some (t, i + t.size) := by
  have hr : runN digitB s i = t.size := by
    rw [runN_pre h (ht.c2 hc) fun c r e => (hs c r e).2.1 hc, Array.length_toList]; rfl
  have hb : digitB (bt s i) = true := by
    have hne := ht.vt.ne
    cases hd : t.data.toList with
    | nil =>
      have := congrArg List.length hd
      rw [Array.length_toList, List.length_nil] at this
      have h2 : t.data.size = t.size := rfl
      omega
    | cons c r =>
      have hm := ht.c2 hc c (by rw [hd]; simp)
      rw [hd, List.cons_append] at h
      rw [bt_of h]
      exact hm
  obtain ⟨-, -, -, h4⟩ := tk_num hi hb hr
  rw [h4, ext_of h, if_pos (by rw [← rd_rv hc]; exact ht.vt.c2 hc)]
theorem rv_quote {t : ByteArray} {n : Int} {m : ByteArray} (h : rv t = (3, n, m, true)) : okText (mid t) = true ∧ ⟨#[34]⟩ ++ mid t ++ ⟨#[34]⟩ = t := by
  unfold rv at h
  split at h
  · cases h
  · split at h
    · cases h
    · split at h
      · cases h
      · split at h
        · cases h
        · split at h
          · rename_i hq
            exact hq.2
          · cases h
theorem tk_txt_at {s t : ByteArray} {i : Nat} {v : List UInt8} (h : s.data.toList.drop i = t.data.toList ++ v) (ht : SelfT t) (hc : cls t = 3) : tk s i = some (t, i + t.size) := by
  obtain ⟨h1, h2⟩ := rv_quote (rv_txt hc (ht.vt.c3 hc)).1
  obtain ⟨k1, k2⟩ := okText_iff.1 h1
  have hl : t.data.toList = 34 :: ((mid t).data.toList ++ [34]) := by
    have := congrArg (fun x : ByteArray => x.data.toList) h2
    simp only [ByteArray.data_append, Array.toList_append] at this
    exact this.symm
  have hz : t.size = (mid t).size + 2 := by
    have := congrArg List.length hl
    rw [Array.length_toList, List.length_cons, List.length_append, Array.length_toList] at this
    have e1 : t.data.size = t.size := rfl
    have e2 : (mid t).data.size = (mid t).size := rfl
    simp at this
    omega
  rw [hl, List.cons_append, List.append_assoc] at h
  have hb : bt s i = 34 := bt_of h
  have h' : s.data.toList.drop (i + 1) = (mid t).data.toList ++ ([34] ++ v) := by
    have := congrArg (List.drop 1) h
    rw [List.drop_drop] at this
    simpa using this
  have hn : runN tb s (i + 1) = (mid t).size := by
    rw [runN_pre h' (fun c hm => ?_) (fun c r e => by cases e; decide), Array.length_toList]
    · rfl
    · obtain ⟨j, hj, e⟩ := List.getElem_of_mem hm
      rw [Array.length_toList] at hj
      have := k2 j hj
      rw [← e]
      exact this
  have h9 : s.data.toList.drop (i + 1 + (mid t).size) = 34 :: v := by
    have := congrArg (List.drop (mid t).data.toList.length) h'
    rw [List.drop_drop, List.drop_left, Array.length_toList] at this
    exact this
  have hb2 := bt_of h9
  have hlt : i + 1 + (mid t).size < s.size := Decidable.byContradiction fun hq => by rw [bt_ge hq] at hb2; cases hb2
  obtain ⟨g1, -, -⟩ := (tk_txt hb hn).2 hlt hb2 k1
  rw [g1]
  have e : i + (mid t).size + 2 = i + t.size := by omega
  rw [e, ext_of (t := t) (v := v) (by rw [h, hl]; simp)]
theorem tk_sym_at {s t : ByteArray} {i : Nat} {v : List UInt8} (h : s.data.toList.drop i = t.data.toList ++ v) (hi : i < s.size) (ht : SelfT t) (hs : Sep t v) (hc : cls t = 4) : tk s i = some (t, i + t.size) := by
  have hm := ht.vt.c4 hc
  have hx := ext_of h
  have hb : bt s i = bt t 0 := by
    have hne := ht.vt.ne
    cases hd : t.data.toList with
    | nil =>
      have := congrArg List.length hd
      rw [Array.length_toList, List.length_nil] at this
      have h2 : t.data.size = t.size := rfl
      omega
    | cons c r => rw [bt0 hd]; rw [hd, List.cons_append] at h; exact bt_of h
  have hcl : small (bt s i) = false ∧ digitB (bt s i) = false ∧ bt s i ≠ 34 := by
    rw [hb]
    unfold cls at hc
    split at hc
    · omega
    · rename_i q1
      split at hc
      · omega
      · rename_i q2
        split at hc
        · omega
        · rename_i q3
          exact ⟨by simpa using q1, by simpa using q2, q3⟩
  obtain ⟨s1, s2, -⟩ := tk_sym hi hcl.1 hcl.2.1 hcl.2.2
  have hsy : symS t = true := (symS_iff t).2 hm
  have hsz : i + t.data.toList.length + v.length = s.size := drop_size h (by omega)
  rw [Array.length_toList] at hsz
  have hts : t.data.size = t.size := rfl
  have h12 : t.size = 1 ∨ t.size = 2 := by
    unfold syms at hm
    simp only [List.mem_cons, List.not_mem_nil, or_false] at hm
    rcases hm with e | e | e | e | e | e | e | e | e | e | e | e | e | e <;> subst e <;> decide
  rcases h12 with h1 | h1
  · rw [h1] at hx ⊢
    refine (s2 ?_ (by rw [hx]; exact hsy)).1.trans (by rw [hx])
    rintro ⟨q1, q2⟩
    rw [sym_two (by simp; omega), ext_bt q1 (by omega), bt_ext q1 (by omega)] at q2
    have ht0 : t = ⟨#[60]⟩ := bt_one h1 (c := 60) (by rw [← hb, q2.1]; rfl)
    cases v with
    | nil => simp at hsz; omega
    | cons c r =>
      have hd : s.data.toList.drop (i + 1) = c :: r := by
        have := congrArg (List.drop t.data.toList.length) h
        rw [List.drop_drop, List.drop_left, Array.length_toList, hts, h1] at this
        exact this
      have hq := (hs c r rfl).2.2 ht0
      rw [bt_of hd] at q2
      omega
  · rw [h1] at hx ⊢
    exact (s1 (by omega) (by rw [hx]; exact hsy)).1.trans (by rw [hx])
/-- A token at a place. -/
theorem tk_at {s t : ByteArray} {i : Nat} {v : List UInt8} (h : s.data.toList.drop i = t.data.toList ++ v) (hi : i < s.size) (ht : SelfT t) (hs : Sep t v) : tk s i = some (t, i + t.size) := by
  have h4 : cls t = 1 ∨ cls t = 2 ∨ cls t = 3 ∨ cls t = 4 := by unfold cls; split <;> (try split) <;> (try split) <;> simp
  rcases h4 with hc | hc | hc | hc
  · exact tk_word_at h hi ht hs hc
  · exact tk_num_at h hi ht hs hc
  · exact tk_txt_at h ht hc
  · exact tk_sym_at h hi ht hs hc
end Go.Proofs.YtjgngbmkpiihgaaGreatDoor

/- How few tokens an expression can be written with; no walk in this text. -/
namespace Go.Proofs.YtjgngbmkpiihgaaGreatDoor
open Go

/-- The tokens of a phrase where a level is asked: with a pair of brackets if it binds less. -/
def atL (l : Nat) (p : Nat × Nat) : Nat := if p.1 < l then p.2 + 2 else p.2
theorem atL_le {l : Nat} {p : Nat × Nat} : p.2 ≤ atL l p ∧ atL l p ≤ p.2 + 2 := by unfold atL; split <;> omega
theorem atL_ge {l : Nat} {p : Nat × Nat} (h : l ≤ p.1) : atL l p = p.2 := by unfold atL; rw [if_neg (by omega)]
theorem atL_mono {l l' : Nat} {p : Nat × Nat} (h : l ≤ l') : atL l p ≤ atL l' p := by unfold atL; split <;> split <;> omega
/-- One node more: what levels and numbers of tokens stand on the stack. -/
def cst (st : List (Nat × Nat)) (o : Nat) : List (Nat × Nat) :=
  if o ≤ 1 then (7, 1) :: st
  else if o ≤ 3 then match st with
    | p :: r => (6, 1 + atL 6 p) :: r
    | [] => []
  else if o ≤ 15 then match st with
    | b :: a :: r => (tkX.lv o, atL (if tkX.lv o = 3 then 4 else tkX.lv o) a + 1 + atL (tkX.lv o + 1) b) :: r
    | _ => []
  else (7, ((st.take (tkX.ar o)).map (·.2)).sum + tkX.ar o + 2) :: st.drop (tkX.ar o)
def crun (st : List (Nat × Nat)) (e : List Nx) : List (Nat × Nat) := e.foldl (fun st n => cst st n.op.toNat) st
theorem crun_app (st : List (Nat × Nat)) (a b : List Nx) : crun st (a ++ b) = crun (crun st a) b := List.foldl_append
theorem crun_op (st : List (Nat × Nat)) (o : Nat) : crun st [opNd o] = cst st o := by
  show cst st ((o : Nat) : Int).toNat = _
  rw [Int.toNat_natCast]
theorem k_op {t : ByteArray} {n : Nx} (h : tkX.k t = some n) : n.op.toNat ≤ 1 := by
  change tkK t = some n at h
  unfold tkK at h
  split at h
  · cases h; show (1 : Nat) ≤ 1; omega
  · split at h
    · cases h; show (0 : Nat) ≤ 1; omega
    · cases h
theorem b_bd {t : ByteArray} (h : tkX.b t ≠ 0) : 4 ≤ tkX.b t ∧ tkX.b t ≤ 15 := by
  obtain ⟨h1, h2, -⟩ := opW_some (s := t) (n := 12) (a := 4) h
  have e : tkX.b t = opW t 4 12 := rfl
  rw [e]; exact ⟨h1, by omega⟩
theorem u_bd {t : ByteArray} (h : tkX.u t ≠ 0) : 2 ≤ tkX.u t ∧ tkX.u t ≤ 3 := by
  obtain ⟨h1, h2, -⟩ := opW_some (s := t) (n := 2) (a := 2) h
  have e : tkX.u t = opW t 2 2 := rfl
  rw [e]; exact ⟨h1, by omega⟩
theorem f_bd {t : ByteArray} (h : tkX.f t ≠ 0) : 16 ≤ tkX.f t ∧ tkX.f t ≤ 25 := by
  have e : tkX.f t = if goodN t = true then opW t 16 10 else 0 := rfl
  rw [e] at h ⊢
  split at h
  · rename_i hg
    rw [if_pos hg]
    obtain ⟨h1, h2, -⟩ := opW_some (s := t) (n := 10) (a := 16) h
    exact ⟨h1, by omega⟩
  · exact absurd rfl h
theorem cst_bin (a b : Nat × Nat) (st : List (Nat × Nat)) {o : Nat} (h : 4 ≤ o) (h' : o ≤ 15) : cst (b :: a :: st) o = (tkX.lv o, atL (if tkX.lv o = 3 then 4 else tkX.lv o) a + 1 + atL (tkX.lv o + 1) b) :: st := by
  unfold cst; rw [if_neg (by omega), if_neg (by omega), if_pos h']
/-- No way to write it takes fewer tokens. -/
theorem Gr.few {l n : Nat} {ts : List ByteArray} {e : List Nx} (h : Gr tkX l n ts e) : (l ≤ 7 → ∀ st, ∃ p, crun st e = p :: st ∧ 1 ≤ p.1 ∧ atL l p ≤ ts.length) ∧ (l = 8 → ∀ st, ∃ ps, crun st e = ps ++ st ∧ ps.length = n ∧ (ps.map (·.2)).sum + n ≤ ts.length + 1) := by
  induction h with
  | up h1 h2 _ ih =>
    refine ⟨fun _ st => ?_, fun h => by omega⟩
    obtain ⟨p, hp, h3, h4⟩ := ih.1 (by omega) st
    exact ⟨p, hp, h3, Nat.le_trans (atL_mono (Nat.le_succ _)) h4⟩
  | @bin l a t b ea eb h1 h5 h3 _ hb hl _ iha ihb =>
    refine ⟨fun _ st => ?_, fun h => by omega⟩
    obtain ⟨p, hp, p1, p2⟩ := iha.1 (by omega) st
    obtain ⟨q, hq, q1, q2⟩ := ihb.1 (by omega) (p :: st)
    obtain ⟨b1, b2⟩ := b_bd hb
    refine ⟨_, by rw [crun_app, crun_app, hp, hq]; exact (crun_op _ _).trans (cst_bin p q st b1 b2), by show 1 ≤ tkX.lv _; omega, ?_⟩
    rw [atL_ge (by show _ ≤ tkX.lv _; omega)]
    show atL (if tkX.lv (tkX.b t) = 3 then 4 else tkX.lv (tkX.b t)) p + 1 + atL (tkX.lv (tkX.b t) + 1) q ≤ _
    rw [hl, if_neg h3, List.length_append, List.length_cons]
    omega
  | @cmp a t b ea eb _ hb hl _ iha ihb =>
    refine ⟨fun _ st => ?_, fun h => by omega⟩
    obtain ⟨p, hp, p1, p2⟩ := iha.1 (by omega) st
    obtain ⟨q, hq, q1, q2⟩ := ihb.1 (by omega) (p :: st)
    obtain ⟨b1, b2⟩ := b_bd hb
    refine ⟨_, by rw [crun_app, crun_app, hp, hq]; exact (crun_op _ _).trans (cst_bin p q st b1 b2), by show 1 ≤ tkX.lv _; omega, ?_⟩
    rw [atL_ge (by show _ ≤ tkX.lv _; omega)]
    show atL (if tkX.lv (tkX.b t) = 3 then 4 else tkX.lv (tkX.b t)) p + 1 + atL (tkX.lv (tkX.b t) + 1) q ≤ _
    rw [hl, if_pos rfl, List.length_append, List.length_cons, show 3 + 1 = 4 from rfl]
    omega
  | @pre t b eb hu _ ih =>
    refine ⟨fun _ st => ?_, fun h => by omega⟩
    obtain ⟨p, hp, p1, p2⟩ := ih.1 (by omega) st
    obtain ⟨b1, b2⟩ := u_bd hu
    refine ⟨(6, 1 + atL 6 p), by rw [crun_app, hp]; refine (crun_op _ _).trans ?_; unfold cst; rw [if_neg (by omega), if_pos b2], show 1 ≤ 6 by omega, ?_⟩
    rw [atL_ge (show 6 ≤ 6 by omega), List.length_cons]
    show 1 + atL 6 p ≤ _
    omega
  | @one t n hk =>
    refine ⟨fun _ st => ⟨(7, 1), ?_, by decide, by rw [atL_ge (by decide)]; simp⟩, fun h => by omega⟩
    show cst st n.op.toNat = _
    unfold cst
    rw [if_pos (k_op hk)]
  | @par x y a e _ _ _ ih =>
    refine ⟨fun _ st => ?_, fun h => by omega⟩
    obtain ⟨p, hp, p1, p2⟩ := ih.1 (by omega) st
    refine ⟨p, hp, p1, ?_⟩
    have := (atL_le (l := 7) (p := p)).2
    have := (atL_le (l := 1) (p := p)).1
    simp only [List.length_cons, List.length_append, List.length_nil]
    omega
  | @call t x y a e hf _ _ _ ih =>
    refine ⟨fun _ st => ?_, fun h => by omega⟩
    obtain ⟨ps, hp, p1, p2⟩ := ih.2 rfl st
    obtain ⟨b1, b2⟩ := f_bd hf
    refine ⟨(7, (ps.map (·.2)).sum + tkX.ar (tkX.f t) + 2), ?_, show 1 ≤ 7 by omega, ?_⟩
    · rw [crun_app, hp]
      refine (crun_op _ _).trans ?_
      unfold cst
      rw [if_neg (by omega), if_neg (by omega), if_neg (by omega), List.take_left' p1, List.drop_left' p1]
    · rw [atL_ge (show 7 ≤ 7 by omega)]
      simp only [List.length_cons, List.length_append, List.length_nil]
      show (ps.map (·.2)).sum + tkX.ar (tkX.f t) + 2 ≤ _
      omega
  | arg _ ih =>
    refine ⟨fun h => by omega, fun _ st => ?_⟩
    obtain ⟨p, hp, p1, p2⟩ := ih.1 (by omega) st
    refine ⟨[p], hp, rfl, ?_⟩
    have := (atL_le (l := 1) (p := p)).1
    simp
    omega
  | @args n a c b ea eb _ _ _ iha ihb =>
    refine ⟨fun h => by omega, fun _ st => ?_⟩
    obtain ⟨ps, hp, p1, p2⟩ := iha.2 rfl st
    obtain ⟨q, hq, q1, q2⟩ := ihb.1 (by omega) (ps ++ st)
    refine ⟨q :: ps, by rw [crun_app, hp, hq]; rfl, by simp [p1], ?_⟩
    have := (atL_le (l := 1) (p := q)).1
    simp only [List.map_cons, List.sum_cons, List.length_append, List.length_cons]
    omega
end Go.Proofs.YtjgngbmkpiihgaaGreatDoor

/- A text made of pieces, tokens and blanks: how it is cut. No walk in this text. -/
namespace Go.Proofs.YtjgngbmkpiihgaaGreatDoor
open Go

/-- The bytes of pieces: a token, or a blank. -/
def pb : List (Option ByteArray) → List UInt8
  | [] => []
  | some t :: r => t.data.toList ++ pb r
  | none :: r => 32 :: pb r
def tks : List (Option ByteArray) → List ByteArray
  | [] => []
  | some t :: r => t :: tks r
  | none :: r => tks r
/-- No token runs into what follows, and v follows the last piece. -/
def Cut (v : List UInt8) : List (Option ByteArray) → Prop
  | [] => True
  | some t :: r => SelfT t ∧ Sep t (pb r ++ v) ∧ Cut v r
  | none :: r => Cut v r
theorem pb_app (a b : List (Option ByteArray)) : pb (a ++ b) = pb a ++ pb b := by
  induction a with
  | nil => rfl
  | cons x a ih => cases x <;> simp [pb, ih]
theorem tks_app (a b : List (Option ByteArray)) : tks (a ++ b) = tks a ++ tks b := by
  induction a with
  | nil => rfl
  | cons x a ih => cases x <;> simp [tks, ih]
theorem Cut.app {v : List UInt8} : ∀ {a b : List (Option ByteArray)}, Cut (pb b ++ v) a → Cut v b → Cut v (a ++ b)
  | [], _, _, h => h
  | none :: a, _, h, h' => Cut.app (a := a) h h'
  | some t :: a, b, ⟨h1, h2, h3⟩, h' => ⟨h1, by show Sep t (pb (a ++ b) ++ v); rw [pb_app, List.append_assoc]; exact h2, Cut.app (a := a) h3 h'⟩
theorem syms_nws : ∀ t ∈ syms, wsB (bt t 0) = false := by decide +kernel
theorem SelfT.nws {t : ByteArray} (h : SelfT t) : wsB (bt t 0) = false := by
  by_cases h4 : cls t = 4
  · exact syms_nws t (h.vt.c4 h4)
  unfold cls at h4
  unfold wsB
  refine decide_eq_false ?_
  split at h4
  · rename_i h1
    unfold small at h1
    have := of_decide_eq_true h1
    omega
  · split at h4
    · rename_i h1
      unfold digitB at h1
      have := of_decide_eq_true h1
      omega
    · split at h4
      · omega
      · exact absurd rfl h4
/-- Pieces in a text are cut into their tokens. -/
theorem Cut.lx {s : ByteArray} {v : List UInt8} : ∀ {a : List (Option ByteArray)} {i : Nat} {acc : List ByteArray}, Cut v a → LxAt s i acc → s.data.toList.drop i = pb a ++ v → LxAt s (i + (pb a).length) (acc ++ tks a)
  | [], i, acc, _, h, _ => by simpa [pb, tks] using h
  | none :: a, i, acc, hc, h, hd => by
    have hb : bt s i = 32 := bt_of (c := 32) hd
    have hi : i < s.size := by
      have := congrArg List.length hd
      rw [List.length_drop, Array.length_toList] at this
      have h2 : s.data.size = s.size := rfl
      simp [pb] at this
      omega
    have hd' : s.data.toList.drop (i + 1) = pb a ++ v := by
      have := congrArg (List.drop 1) hd
      rw [List.drop_drop] at this
      simpa [pb] using this
    have := Cut.lx (a := a) hc (h.skip hi (by rw [hb]; decide)) hd'
    rw [show i + (pb (none :: a)).length = i + 1 + (pb a).length by simp [pb]; omega]
    exact this
  | some t :: a, i, acc, ⟨h1, h2, h3⟩, h, hd => by
    have hd1 : s.data.toList.drop i = t.data.toList ++ (pb a ++ v) := by rw [hd]; exact List.append_assoc _ _ _
    have ht : t.data.toList.length = t.size := Array.length_toList
    have hne := h1.vt.ne
    have hi : i < s.size := by
      have := congrArg List.length hd1
      rw [List.length_drop, Array.length_toList, List.length_append] at this
      have h2 : s.data.size = s.size := rfl
      omega
    have hb : bt s i = bt t 0 := by
      cases q : t.data.toList with
      | nil => rw [q] at ht; simp at ht; omega
      | cons c u =>
        rw [q] at hd1
        rw [bt_of (i := 0) (s := t) (v := u) (c := c) (by rw [List.drop_zero]; exact q)]
        exact bt_of hd1
    have hd' : s.data.toList.drop (i + t.size) = pb a ++ v := by
      have := congrArg (List.drop t.size) hd1
      rw [List.drop_drop, ← ht, List.drop_left, ht] at this
      exact this
    have := Cut.lx (a := a) h3 (h.next hi (by rw [hb]; exact h1.nws) (tk_at hd1 hi h1 h2) (by omega)) hd'
    rw [show i + (pb (some t :: a)).length = i + t.size + (pb a).length by simp [pb]; omega]
    simpa [tks] using this
theorem Cut.lex {s : ByteArray} {a : List (Option ByteArray)} (h : Cut [] a) (hs : s.data.toList = pb a) : lxF s s.size 0 [] = .inr (tks a) := by
  have := h.lx (s := s) (LxAt.start s) (by rw [List.drop_zero, List.append_nil]; exact hs)
  rw [List.nil_append] at this
  refine this.done ?_
  rw [← hs, Array.length_toList]
  show s.size ≤ 0 + s.size
  omega
/-- What may follow a phrase. -/
def Aft (v : List UInt8) : Prop := ∀ c r, v = c :: r → c = 32 ∨ c = 41 ∨ c = 44
theorem Aft.sep {v : List UInt8} (h : Aft v) (t : ByteArray) : Sep t v := by
  intro c r e
  rcases h c r e with rfl | rfl | rfl <;> refine ⟨fun _ => by decide, fun _ => by decide, fun _ => by decide⟩
theorem Aft.nil : Aft [] := fun c r e => by cases e
theorem Aft.blank (v : List UInt8) : Aft (32 :: v) := fun c r e => by cases e; exact .inl rfl
theorem Aft.close (v : List UInt8) : Aft (41 :: v) := fun c r e => by cases e; exact .inr (.inl rfl)
theorem Aft.comma (v : List UInt8) : Aft (44 :: v) := fun c r e => by cases e; exact .inr (.inr rfl)
theorem sep_open (t : ByteArray) (v : List UInt8) : Sep t (40 :: v) := by
  intro c r e
  cases e
  exact ⟨fun _ => by decide, fun _ => by decide, fun _ => by decide⟩
/-- What follows a token of a printed text. -/
def Sp (t : ByteArray) (v : List UInt8) : Prop := t = ⟨#[40]⟩ ∨ t = ⟨#[45]⟩ ∨ Aft v ∨ (cls t = 1 ∧ ∃ r, v = 40 :: r)
theorem sep_not {t : ByteArray} (h1 : cls t = 4) (h2 : t ≠ ⟨#[60]⟩) (v : List UInt8) : Sep t v :=
  fun c r _ => ⟨fun q => by omega, fun q => by omega, fun q => absurd q h2⟩
theorem Sp.sep {t : ByteArray} {v : List UInt8} (h : Sp t v) : Sep t v := by
  rcases h with rfl | rfl | h | ⟨-, r, rfl⟩
  · exact sep_not (by decide +kernel) (by decide) v
  · exact sep_not (by decide +kernel) (by decide) v
  · exact h.sep t
  · exact sep_open t r
def CutS (v : List UInt8) : List (Option ByteArray) → Prop
  | [] => True
  | some t :: r => SelfT t ∧ Sp t (pb r ++ v) ∧ CutS v r
  | none :: r => CutS v r
theorem CutS.cut {v : List UInt8} : ∀ {a : List (Option ByteArray)}, CutS v a → Cut v a
  | [], _ => trivial
  | none :: a, h => CutS.cut (a := a) h
  | some _ :: a, ⟨h1, h2, h3⟩ => ⟨h1, h2.sep, CutS.cut (a := a) h3⟩
theorem CutS.app {v : List UInt8} : ∀ {a b : List (Option ByteArray)}, CutS (pb b ++ v) a → CutS v b → CutS v (a ++ b)
  | [], _, _, h => h
  | none :: a, _, h, h' => CutS.app (a := a) h h'
  | some t :: a, b, ⟨h1, h2, h3⟩, h' => ⟨h1, by show Sp t (pb (a ++ b) ++ v); rw [pb_app, List.append_assoc]; exact h2, CutS.app (a := a) h3 h'⟩
end Go.Proofs.YtjgngbmkpiihgaaGreatDoor

/- The pieces of a printed phrase: before one operand, and between two. No walk in this text. -/
namespace Go.Proofs.YtjgngbmkpiihgaaGreatDoor
open Go

/-- A phrase, its pieces, its nodes. -/
structure Qh where
  p : Ph
  q : List (Option ByteArray)
  e : List Nx
def wrapQ (l : Int) (x : Qh) : List (Option ByteArray) := if x.p.lv < l then some ⟨#[40]⟩ :: (x.q ++ [some ⟨#[41]⟩]) else x.q
structure Pr (x : Qh) : Prop where
  lo : 1 ≤ x.p.lv ∧ x.p.lv ≤ 7
  tx : x.p.t.data.toList = pb x.q
  ct : ∀ v, Aft v → CutS v x.q
  gr : Gr tkX x.p.lv.toNat 0 (tks x.q) x.e
  cn : ∀ st, crun st x.e = (x.p.lv.toNat, (tks x.q).length) :: st
  dp : 1 ≤ x.p.d
  bl : ∀ d, d + x.p.d ≤ 65 → blc tkX 64 d (tks x.q) = some d
theorem gr_dn {ts : List ByteArray} {e : List Nx} {l' : Nat} (h1 : 1 ≤ l') : ∀ {k : Nat}, l' + k ≤ 7 → Gr tkX (l' + k) 0 ts e → Gr tkX l' 0 ts e
  | 0, _, h => h
  | k + 1, hk, h => gr_dn h1 (k := k) (by omega) (.up (by omega) (by omega) h)
theorem gr_to {ts : List ByteArray} {e : List Nx} {l l' : Nat} (h : Gr tkX l 0 ts e) (h1 : 1 ≤ l') (h2 : l' ≤ l) (h3 : l ≤ 7) : Gr tkX l' 0 ts e := by
  obtain ⟨k, rfl⟩ := Nat.le.dest h2
  exact gr_dn h1 h3 h
theorem syms_cls : ∀ t ∈ syms, cls t = 4 ∧ 0 < t.size := by decide +kernel
theorem self_sym {t : ByteArray} (h : t ∈ syms) : SelfT t := by
  obtain ⟨h1, h2⟩ := syms_cls t h
  exact ⟨⟨h2, fun q => by omega, fun q => by omega, fun q => by omega, fun _ => h⟩, fun q => by omega, fun q => by omega⟩
theorem self_word {t : ByteArray} (h1 : cls t = 1) (h2 : 0 < t.size) (h3 : t.size ≤ 16) (h4 : ∀ c, c ∈ t.data.toList → nameB c.toNat = true) : SelfT t :=
  ⟨⟨h2, fun _ => h3, fun q => by omega, fun q => by omega, fun q => by omega⟩, fun _ => h4, fun q => by omega⟩
theorem wrd_self' : ∀ k : Fin 26, 2 ≤ k.val → (∃ s ∈ syms, wrdT.getD k.val ⟨#[]⟩ = s) ∨ (cls (wrdT.getD k.val ⟨#[]⟩) = 1 ∧ 0 < (wrdT.getD k.val ⟨#[]⟩).size ∧ (wrdT.getD k.val ⟨#[]⟩).size ≤ 16 ∧ ∀ c ∈ (wrdT.getD k.val ⟨#[]⟩).data.toList, nameB c.toNat = true) := by decide +kernel
theorem wrd_self {op : Int} (h0 : 2 ≤ op) (h1 : op ≤ 25) : SelfT (wrd op) := by
  rcases wrd_self' ⟨op.toNat, by omega⟩ (by show 2 ≤ op.toNat; omega) with ⟨s, h, h'⟩ | ⟨h2, h3, h4, h5⟩
  · exact (show wrd op = s from h') ▸ self_sym h
  · exact self_word h2 h3 h4 h5
theorem self_open : SelfT ⟨#[40]⟩ := self_sym (by simp [syms])
theorem self_close : SelfT ⟨#[41]⟩ := self_sym (by simp [syms])
theorem self_comma : SelfT ⟨#[44]⟩ := self_sym (by simp [syms])
theorem wq_tx {x : Qh} (h : Pr x) (l : Int) : (wrap l x.p).data.toList = pb (wrapQ l x) := by
  unfold wrap wrapQ
  split
  · simp only [ByteArray.data_append, Array.toList_append, h.tx, pb, pb_app]
    simp
  · exact h.tx
theorem wq_ct {x : Qh} (h : Pr x) (l : Int) {v : List UInt8} (hv : Aft v) : CutS v (wrapQ l x) := by
  unfold wrapQ
  split
  · exact ⟨self_open, .inl rfl, CutS.app (h.ct _ (Aft.close _)) ⟨self_close, .inr (.inr (.inl hv)), trivial⟩⟩
  · exact h.ct v hv
theorem wq_gr {x : Qh} (h : Pr x) {l : Int} (h1 : 1 ≤ l) (h7 : l ≤ 7) : Gr tkX l.toNat 0 (tks (wrapQ l x)) x.e := by
  have hl := h.lo
  unfold wrapQ
  split
  · have : tks (some ⟨#[40]⟩ :: (x.q ++ [some ⟨#[41]⟩])) = ⟨#[40]⟩ :: (tks x.q ++ [⟨#[41]⟩]) := by simp [tks, tks_app]
    rw [this]
    exact gr_to (.par (X := tkX) rfl rfl (gr_to h.gr (by omega) (by omega) (by omega))) (by omega) (by omega) (by omega)
  · exact gr_to h.gr (by omega) (by omega) (by omega)
theorem wq_cn {x : Qh} (h : Pr x) {l : Int} (h1 : 1 ≤ l) : (tks (wrapQ l x)).length = atL l.toNat (x.p.lv.toNat, (tks x.q).length) := by
  have hl := h.lo
  unfold wrapQ atL
  by_cases q : x.p.lv < l
  · rw [if_pos q, if_pos (by show x.p.lv.toNat < l.toNat; omega)]
    simp [tks, tks_app]
  · rw [if_neg q, if_neg (by show ¬ x.p.lv.toNat < l.toNat; omega)]
theorem wq_bl {x : Qh} (h : Pr x) (l : Int) {d : Nat} (hd : d + x.p.d + 1 ≤ 65) : blc tkX 64 d (tks (wrapQ l x)) = some d := by
  have hp := h.dp
  unfold wrapQ
  split
  · have e : tks (some ⟨#[40]⟩ :: (x.q ++ [some ⟨#[41]⟩])) = ⟨#[40]⟩ :: (tks x.q ++ [⟨#[41]⟩]) := by simp [tks, tks_app]
    rw [e]
    unfold blc
    rw [if_pos (show tkX.L ⟨#[40]⟩ = true from rfl), if_pos (by omega), bal_append, h.bl (d + 1) (by omega)]
    rfl
  · exact h.bl d (by omega)
/-- A node that is no leaf is its operator. -/
theorem op_nd {n : Nx} (h : okNode n = true) (h0 : n.op ≠ 0) (h1 : n.op ≠ 1) : n = opNd n.op.toNat ∧ 2 ≤ n.op ∧ n.op ≤ 25 := by
  unfold okNode at h
  rw [if_neg h0, if_neg h1] at h
  simp only [Bool.and_eq_true, decide_eq_true_eq] at h
  obtain ⟨⟨h2, h3, h4, h5⟩, h6⟩ := h
  refine ⟨?_, h2⟩
  obtain ⟨op, ⟨k, m, s⟩, nm⟩ := n
  simp only at h2 h3 h4 h5 h6
  have e1 : s = ⟨#[]⟩ := by obtain ⟨⟨l⟩⟩ := s; cases l with | nil => rfl | cons c l => simp [ByteArray.size] at h5
  have e2 : nm = ⟨#[]⟩ := by obtain ⟨⟨l⟩⟩ := nm; cases l with | nil => rfl | cons c l => simp [ByteArray.size] at h6
  subst h3 h4 e1 e2
  unfold opNd
  rw [show ((op.toNat : Nat) : Int) = op by omega]
  rfl
theorem lvl_nat (op : Int) (h : 0 ≤ op) : tkX.lv op.toNat = (lvl op).toNat := by
  show (lvl ((op.toNat : Nat) : Int)).toNat = _
  rw [show ((op.toNat : Nat) : Int) = op by omega]
/-- Minus, and not. -/
theorem Pr.pre {x : Qh} (h : Pr x) {n : Nx} (hn : okNode n = true) (ho : n.op = 2 ∨ n.op = 3) :
    Pr ⟨phr n [x.p], (if n.op = 2 then [some ⟨#[45]⟩] else [some ⟨#[110, 111, 116]⟩, none]) ++ wrapQ 6 x, x.e ++ [n]⟩ := by
  obtain ⟨hq, -, -⟩ := op_nd hn (by omega) (by omega)
  have hlv : lvl n.op = 6 := by rcases ho with h | h <;> rw [h] <;> rfl
  have hcn : ∀ st, crun st (x.e ++ [n]) = (6, 1 + atL 6 (x.p.lv.toNat, (tks x.q).length)) :: st := by
    intro st
    rw [crun_app, h.cn, hq, crun_op]
    rcases ho with h | h <;> rw [h] <;> rfl
  have hw := wq_cn h (l := 6) (by omega)
  have h6 : (6 : Int).toNat = 6 := rfl
  rw [h6] at hw
  rcases ho with ho | ho
  · rw [if_pos ho]
    refine ⟨by show 1 ≤ lvl n.op ∧ lvl n.op ≤ 7; rw [hlv]; decide, ?_, fun v hv => ?_, ?_, fun st => ?_, Nat.le_add_left 1 _, fun d hd => ?_⟩
    · show (phT n [x.p]).data.toList = _
      unfold phT
      rw [if_neg (by omega), if_neg (by omega), if_pos ho]
      simp only [ByteArray.data_append, Array.toList_append, List.getD_cons_zero, wq_tx h]
      rfl
    · exact ⟨self_sym (by simp [syms]), .inr (.inl rfl), wq_ct h 6 hv⟩
    · show Gr tkX (lvl n.op).toNat 0 (⟨#[45]⟩ :: tks (wrapQ 6 x)) (x.e ++ [n])
      rw [hlv, hq, ho]
      exact .pre (X := tkX) (t := ⟨#[45]⟩) (by decide +kernel) (wq_gr h (l := 6) (by omega) (by omega))
    · show crun st (x.e ++ [n]) = ((lvl n.op).toNat, (⟨#[45]⟩ :: tks (wrapQ 6 x)).length) :: st
      rw [hcn, hlv, List.length_cons, hw, Nat.add_comm]
      rfl
    · show blc tkX 64 d (⟨#[45]⟩ :: tks (wrapQ 6 x)) = some d
      have hd' : d + (max x.p.d 0 + 1) ≤ 65 := hd
      rw [bal_nl rfl rfl]
      exact wq_bl h 6 (by omega)
  · rw [if_neg (by omega)]
    refine ⟨by show 1 ≤ lvl n.op ∧ lvl n.op ≤ 7; rw [hlv]; decide, ?_, fun v hv => ?_, ?_, fun st => ?_, Nat.le_add_left 1 _, fun d hd => ?_⟩
    · show (phT n [x.p]).data.toList = _
      unfold phT
      rw [if_neg (by omega), if_neg (by omega), if_neg (by omega), if_pos ho]
      simp only [ByteArray.data_append, Array.toList_append, List.getD_cons_zero, wq_tx h]
      rfl
    · exact ⟨wrd_self (op := 3) (by omega) (by omega), .inr (.inr (.inl (Aft.blank _))), wq_ct h 6 hv⟩
    · show Gr tkX (lvl n.op).toNat 0 (⟨#[110, 111, 116]⟩ :: tks (wrapQ 6 x)) (x.e ++ [n])
      rw [hlv, hq, ho]
      exact .pre (X := tkX) (t := ⟨#[110, 111, 116]⟩) (by decide +kernel) (wq_gr h (l := 6) (by omega) (by omega))
    · show crun st (x.e ++ [n]) = ((lvl n.op).toNat, (⟨#[110, 111, 116]⟩ :: tks (wrapQ 6 x)).length) :: st
      rw [hcn, hlv, List.length_cons, hw, Nat.add_comm]
      rfl
    · show blc tkX 64 d (⟨#[110, 111, 116]⟩ :: tks (wrapQ 6 x)) = some d
      have hd' : d + (max x.p.d 0 + 1) ≤ 65 := hd
      rw [bal_nl rfl rfl]
      exact wq_bl h 6 (by omega)
theorem bin_tk' : ∀ k : Fin 16, 4 ≤ k.val → opW (wrdT.getD k.val ⟨#[]⟩) 4 12 = k.val := by decide +kernel
theorem bin_tk {op : Int} (h0 : 4 ≤ op) (h1 : op ≤ 15) : tkX.b (wrd op) = op.toNat := bin_tk' ⟨op.toNat, by omega⟩ (by show 4 ≤ op.toNat; omega)
theorem bin_lv' : ∀ k : Fin 16, 4 ≤ k.val → 1 ≤ lvl (k.val : Nat) ∧ lvl (k.val : Nat) ≤ 5 := by decide +kernel
theorem bin_lv {op : Int} (h0 : 4 ≤ op) (h1 : op ≤ 15) : 1 ≤ lvl op ∧ lvl op ≤ 5 := by
  have := bin_lv' ⟨op.toNat, by omega⟩ (by show 4 ≤ op.toNat; omega)
  rw [show (((⟨op.toNat, by omega⟩ : Fin 16).val : Nat) : Int) = op by show ((op.toNat : Nat) : Int) = op; omega] at this
  exact this
/-- A sign between two operands. -/
theorem Pr.bin {x y : Qh} (h : Pr x) (h' : Pr y) {n : Nx} (hn : okNode n = true) (h0 : 4 ≤ n.op) (h1 : n.op ≤ 15) :
    Pr ⟨phr n [x.p, y.p], wrapQ (lft n.op) x ++ none :: some (wrd n.op) :: none :: wrapQ (lvl n.op + 1) y, (x.e ++ y.e) ++ [n]⟩ := by
  obtain ⟨hq, -, -⟩ := op_nd hn (by omega) (by omega)
  have hl := bin_lv h0 h1
  have hlf : 1 ≤ lft n.op ∧ lft n.op ≤ 5 ∧ (lft n.op).toNat = if tkX.lv n.op.toNat = 3 then 4 else tkX.lv n.op.toNat := by
    rw [lvl_nat _ (by omega)]
    unfold lft
    split
    · rename_i q; rw [q]; exact ⟨by omega, by omega, rfl⟩
    · rename_i q; rw [if_neg (by omega)]; exact ⟨by omega, by omega, rfl⟩
  have hts : tks (wrapQ (lft n.op) x ++ none :: some (wrd n.op) :: none :: wrapQ (lvl n.op + 1) y) = tks (wrapQ (lft n.op) x) ++ wrd n.op :: tks (wrapQ (lvl n.op + 1) y) := by
    rw [tks_app]; rfl
  have hb := bin_tk h0 h1
  have hx := wq_gr h (l := lft n.op) (by omega) (by omega)
  have hy := wq_gr h' (l := lvl n.op + 1) (by omega) (by omega)
  have hlb : tkX.lv (tkX.b (wrd n.op)) = (lvl n.op).toNat := by rw [hb, lvl_nat _ (by omega)]
  have hon : tkX.o (tkX.b (wrd n.op)) = n := by rw [hb]; exact hq.symm
  refine ⟨by show 1 ≤ lvl n.op ∧ lvl n.op ≤ 7; omega, ?_, fun v hv => ?_, ?_, fun st => ?_, Nat.le_add_left 1 _, fun d hd => ?_⟩
  · show (phT n [x.p, y.p]).data.toList = _
    unfold phT
    rw [if_neg (by omega), if_neg (by omega), if_neg (by omega), if_neg (by omega), if_neg (by omega)]
    simp only [ByteArray.data_append, Array.toList_append, List.getD_cons_zero, List.getD_cons_succ, wq_tx h, wq_tx h', pb_app, pb]
    simp
  · exact CutS.app (wq_ct h _ (Aft.blank _)) ⟨wrd_self (by omega) (by omega), .inr (.inr (.inl (Aft.blank _))), wq_ct h' _ hv⟩
  · show Gr tkX (lvl n.op).toNat 0 (tks _) ((x.e ++ y.e) ++ [n])
    rw [hts]
    by_cases q : lvl n.op = 3
    · rw [q]
      have e1 : lft n.op = 4 := by unfold lft; rw [if_pos q]
      rw [e1] at hx ⊢
      rw [q] at hy hlb
      have := Gr.cmp (X := tkX) (t := wrd n.op) hx (by rw [hb]; omega) hlb hy
      rw [hon] at this
      exact this
    · have e1 : lft n.op = lvl n.op := by unfold lft; rw [if_neg q]
      rw [e1] at hx ⊢
      rw [show (lvl n.op + 1).toNat = (lvl n.op).toNat + 1 by omega] at hy
      have := Gr.bin (X := tkX) (t := wrd n.op) (by omega) (by omega) (by omega) hx (by rw [hb]; omega) hlb hy
      rw [hon] at this
      exact this
  · show crun st ((x.e ++ y.e) ++ [n]) = ((lvl n.op).toNat, (tks _).length) :: st
    rw [hts, crun_app, crun_app, h.cn, h'.cn]
    rw [show crun ((y.p.lv.toNat, (tks y.q).length) :: (x.p.lv.toNat, (tks x.q).length) :: st) [n] = cst ((y.p.lv.toNat, (tks y.q).length) :: (x.p.lv.toNat, (tks x.q).length) :: st) n.op.toNat from rfl]
    rw [cst_bin _ _ _ (by omega) (by omega), ← hlf.2.2, lvl_nat _ (by omega), List.length_append, List.length_cons, wq_cn h (by omega), wq_cn h' (by omega)]
    rw [show (lvl n.op + 1).toNat = (lvl n.op).toNat + 1 by omega, Nat.add_assoc, Nat.add_comm 1]
  · show blc tkX 64 d (tks _) = some d
    have hd' : d + (max x.p.d (max y.p.d 0) + 1) ≤ 65 := hd
    obtain ⟨n1, n2, -, -⟩ := tkX_ok.nb (t := wrd n.op) (by rw [hb]; omega)
    rw [hts]
    exact bal_join (wq_bl h _ (by omega)) (by rw [bal_nl n1 n2]; exact wq_bl h' _ (by omega))
end Go.Proofs.YtjgngbmkpiihgaaGreatDoor

/- The pieces of a printed phrase: functions. No walk in this text. -/
namespace Go.Proofs.YtjgngbmkpiihgaaGreatDoor
open Go

def jtQ : List Qh → List (Option ByteArray)
  | [] => []
  | x :: r => some ⟨#[44]⟩ :: none :: (x.q ++ jtQ r)
theorem jt_pb : ∀ {xs : List Qh}, (∀ x ∈ xs, Pr x) → (jt (xs.map fun x => x.p.t)).data.toList = pb (jtQ xs)
  | [], _ => rfl
  | x :: r, h => by
    have ih := jt_pb (xs := r) fun y hy => h y (List.mem_cons_of_mem _ hy)
    simp only [List.map_cons, jt, jtQ, pb, pb_app, ByteArray.data_append, Array.toList_append, ih, (h x (by simp)).tx]
    simp
theorem jt_aft {xs : List Qh} {v : List UInt8} (hv : Aft v) : Aft (pb (jtQ xs) ++ v) := by
  cases xs with
  | nil => exact hv
  | cons x r => exact Aft.comma _
theorem jt_cut {v : List UInt8} (hv : Aft v) : ∀ {xs : List Qh}, (∀ x ∈ xs, Pr x) → CutS v (jtQ xs)
  | [], _ => trivial
  | x :: r, h => ⟨self_comma, .inr (.inr (.inl (Aft.blank _))), CutS.app ((h x (by simp)).ct _ (jt_aft hv)) (jt_cut hv fun y hy => h y (List.mem_cons_of_mem _ hy))⟩
theorem jt_gr : ∀ {xs : List Qh} {n : Nat} {a : List ByteArray} {ea : List Nx}, (∀ x ∈ xs, Pr x) → Gr tkX 8 n a ea → Gr tkX 8 (n + xs.length) (a ++ tks (jtQ xs)) (ea ++ (xs.map (·.e)).flatten)
  | [], n, a, ea, _, h => by simpa [jtQ, tks] using h
  | x :: r, n, a, ea, h, h' => by
    have hx := h x (by simp)
    have hl := hx.lo
    have h1 : Gr tkX 8 (n + 1) (a ++ ⟨#[44]⟩ :: tks x.q) (ea ++ x.e) := .args (X := tkX) h' rfl (gr_to hx.gr (by omega) (by omega) (by omega))
    have h2 := jt_gr (xs := r) (fun y hy => h y (List.mem_cons_of_mem _ hy)) h1
    have e1 : tks (jtQ (x :: r)) = ⟨#[44]⟩ :: (tks x.q ++ tks (jtQ r)) := by simp [jtQ, tks, tks_app]
    rw [e1, List.length_cons, List.map_cons, List.flatten_cons]
    rw [show n + (r.length + 1) = n + 1 + r.length by omega]
    simpa [List.append_assoc] using h2
theorem jt_cn : ∀ {xs : List Qh} {st : List (Nat × Nat)}, (∀ x ∈ xs, Pr x) → crun st (xs.map (·.e)).flatten = (xs.map fun x => (x.p.lv.toNat, (tks x.q).length)).reverse ++ st
  | [], _, _ => rfl
  | x :: r, st, h => by
    rw [List.map_cons, List.flatten_cons, crun_app, (h x (by simp)).cn, jt_cn (xs := r) fun y hy => h y (List.mem_cons_of_mem _ hy)]
    simp
theorem jt_len : ∀ (xs : List Qh), (tks (jtQ xs)).length = ((xs.map fun x => (x.p.lv.toNat, (tks x.q).length)).map (·.2)).sum + xs.length
  | [] => rfl
  | x :: r => by
    have e1 : tks (jtQ (x :: r)) = ⟨#[44]⟩ :: (tks x.q ++ tks (jtQ r)) := by simp [jtQ, tks, tks_app]
    rw [e1, List.length_cons, List.length_append, jt_len r]
    simp only [List.map_cons, List.sum_cons, List.length_cons]
    omega
theorem jt_bl {d : Nat} : ∀ {xs : List Qh}, (∀ x ∈ xs, Pr x) → d + mx (xs.map (·.p)) ≤ 65 → blc tkX 64 d (tks (jtQ xs)) = some d
  | [], _, _ => rfl
  | x :: r, h, hd => by
    have hd' : d + max x.p.d (mx (r.map (·.p))) ≤ 65 := hd
    have e1 : tks (jtQ (x :: r)) = ⟨#[44]⟩ :: (tks x.q ++ tks (jtQ r)) := by simp [jtQ, tks, tks_app]
    rw [e1, bal_nl rfl rfl]
    exact bal_join ((h x (by simp)).bl d (by omega)) (jt_bl (fun y hy => h y (List.mem_cons_of_mem _ hy)) (by omega))
theorem fn_tk' : ∀ k : Fin 26, 16 ≤ k.val → goodN (wrdT.getD k.val ⟨#[]⟩) = true ∧ opW (wrdT.getD k.val ⟨#[]⟩) 16 10 = k.val := by decide +kernel
theorem fn_tk {op : Int} (h0 : 16 ≤ op) (h1 : op ≤ 25) : tkX.f (wrd op) = op.toNat := by
  obtain ⟨h2, h3⟩ := fn_tk' ⟨op.toNat, by omega⟩ (by show 16 ≤ op.toNat; omega)
  show (if goodN (wrd op) = true then opW (wrd op) 16 10 else 0) = op.toNat
  rw [if_pos (show goodN (wrd op) = true from h2)]
  exact h3
theorem fn_good {op : Int} (h0 : 16 ≤ op) (h1 : op ≤ 25) : goodN (wrd op) = true := (fn_tk' ⟨op.toNat, by omega⟩ (by show 16 ≤ op.toNat; omega)).1
/-- A function and its operands. -/
theorem Pr.call {x : Qh} {r : List Qh} (h : Pr x) (h' : ∀ y ∈ r, Pr y) {n : Nx} (hn : okNode n = true) (h0 : 16 ≤ n.op) (hr : r.length + 1 = arn n) :
    Pr ⟨phr n ((x :: r).map (·.p)), some (wrd n.op) :: some ⟨#[40]⟩ :: (x.q ++ jtQ r ++ [some ⟨#[41]⟩]), ((x :: r).map (·.e)).flatten ++ [n]⟩ := by
  obtain ⟨hq, -, h1⟩ := op_nd hn (by omega) (by omega)
  have hl : lvl n.op = 7 := lvl_out (by omega)
  have hx := h.lo
  have hf := fn_tk h0 h1
  have har : tkX.ar n.op.toNat = r.length + 1 := by
    rw [hr]
    show (ar ((n.op.toNat : Nat) : Int)).toNat = (ar n.op).toNat
    rw [show ((n.op.toNat : Nat) : Int) = n.op by omega]
  have hts : tks (some (wrd n.op) :: some ⟨#[40]⟩ :: (x.q ++ jtQ r ++ [some ⟨#[41]⟩])) = wrd n.op :: ⟨#[40]⟩ :: ((tks x.q ++ tks (jtQ r)) ++ [⟨#[41]⟩]) := by
    simp [tks, tks_app]
  refine ⟨by show 1 ≤ lvl n.op ∧ lvl n.op ≤ 7; omega, ?_, fun v hv => ?_, ?_, fun st => ?_, Nat.le_add_left 1 _, fun d hd => ?_⟩
  · show (phT n ((x :: r).map (·.p))).data.toList = _
    unfold phT
    rw [if_neg (by omega), if_neg (by omega), if_neg (by omega), if_neg (by omega), if_pos hl]
    have hj := jt_pb h'
    simp only [List.map_cons, List.map_map, jn, ByteArray.data_append, Array.toList_append, pb, pb_app, h.tx]
    rw [show (fun x : Ph => x.t) ∘ (fun x : Qh => x.p) = fun x => x.p.t from rfl, hj]
    simp
  · refine ⟨wrd_self (by omega) (by omega), .inr (.inr (.inr ⟨goodN_cls (fn_good h0 h1), _, rfl⟩)), self_open, .inl rfl, ?_⟩
    exact CutS.app (CutS.app (h.ct _ (jt_aft (Aft.close _))) (jt_cut (Aft.close _) h')) ⟨self_close, .inr (.inr (.inl hv)), trivial⟩
  · show Gr tkX (lvl n.op).toNat 0 (tks _) (((x :: r).map (·.e)).flatten ++ [n])
    rw [hts, hl]
    have g1 : Gr tkX 8 1 (tks x.q) x.e := .arg (gr_to h.gr (by omega) (by omega) (by omega))
    have g2 := jt_gr h' g1
    have g3 : Gr tkX 8 (tkX.ar (tkX.f (wrd n.op))) (tks x.q ++ tks (jtQ r)) (x.e ++ (r.map (·.e)).flatten) := by
      rw [hf, har, Nat.add_comm]; exact g2
    have g4 := Gr.call (X := tkX) (t := wrd n.op) (l := ⟨#[40]⟩) (r := ⟨#[41]⟩) (by rw [hf]; omega) rfl rfl g3
    rw [show tkX.o (tkX.f (wrd n.op)) = n by rw [hf]; exact hq.symm] at g4
    exact g4
  · show crun st (((x :: r).map (·.e)).flatten ++ [n]) = ((lvl n.op).toNat, (tks _).length) :: st
    have hc := jt_cn (xs := x :: r) (st := st) fun y hy => by
      rcases List.mem_cons.1 hy with rfl | hy
      · exact h
      · exact h' y hy
    rw [crun_app, hc, hts, hl]
    show cst _ n.op.toNat = _
    unfold cst
    rw [if_neg (by omega), if_neg (by omega), if_neg (by omega), har]
    have hz : ((x :: r).map fun x => (x.p.lv.toNat, (tks x.q).length)).reverse.length = r.length + 1 := by simp
    rw [← hz, List.take_left, List.drop_left, hz, List.map_reverse, List.sum_reverse]
    simp only [List.map_cons, List.sum_cons, List.length_cons, List.length_append, List.length_nil, jt_len]
    congr 2
    omega
  · show blc tkX 64 d (tks _) = some d
    have hd' : d + (max x.p.d (mx (r.map (·.p))) + 1) ≤ 65 := hd
    have hp := h.dp
    obtain ⟨k, hk⟩ := tkX_ok.nf (t := wrd n.op) (by rw [hf]; omega)
    obtain ⟨n1, n2, -, -, -⟩ := tkX_ok.nk hk
    rw [hts, bal_nl n1 n2]
    unfold blc
    rw [if_pos (show tkX.L ⟨#[40]⟩ = true from rfl), if_pos (by omega), bal_append, bal_join (h.bl (d + 1) (by omega)) (jt_bl h' (by omega))]
    rfl
end Go.Proofs.YtjgngbmkpiihgaaGreatDoor

/- The pieces of a printed phrase: fields and constants. No walk in this text. -/
namespace Go.Proofs.YtjgngbmkpiihgaaGreatDoor
open Go

theorem size0_eq {s : ByteArray} (h : s.size = 0) : s = ⟨#[]⟩ := by
  obtain ⟨⟨l⟩⟩ := s
  cases l with
  | nil => rfl
  | cons c l => simp [ByteArray.size] at h
/-- A token that stands alone. -/
theorem Pr.leaf {n : Nx} {t : ByteArray} (hs : SelfT t) (hk : tkK t = some n) (ho : n.op.toNat ≤ 1) : Pr ⟨⟨t, 7, mx [] + 1⟩, [some t], [n]⟩ := by
  obtain ⟨n1, n2, -, -, -⟩ := tkX_ok.nk (t := t) (n := n) hk
  refine ⟨by show (1 : Int) ≤ 7 ∧ (7 : Int) ≤ 7; decide, by simp [pb], fun v hv => ⟨hs, .inr (.inr (.inl hv)), trivial⟩, .one (X := tkX) hk, fun st => ?_, Nat.le_add_left 1 _, fun d _ => by show blc tkX 64 d [t] = some d; rw [bal_nl n1 n2]; rfl⟩
  show cst st n.op.toNat = (7, 1) :: st
  unfold cst
  rw [if_pos ho]
theorem good_self {s : ByteArray} (h : goodN s = true) : SelfT s := by
  have hc := goodN_cls h
  unfold goodN at h
  simp only [Bool.and_eq_true, decide_eq_true_eq, List.all_eq_true] at h
  exact self_word hc (by omega) (by omega) h.1.2
theorem Pr.fld {n : Nx} (hn : okNode n = true) (ho : n.op = 1) : Pr ⟨phr n [], [some n.nm], [n]⟩ := by
  unfold okNode at hn
  rw [if_neg (by omega), if_pos ho] at hn
  simp only [Bool.and_eq_true, decide_eq_true_eq] at hn
  obtain ⟨⟨h1, h2, h3⟩, h4⟩ := hn
  have e : n = fldNd n.nm := by
    obtain ⟨op, ⟨k, m, s⟩, nm⟩ := n
    simp only at ho h1 h2 h3
    have := size0_eq h3
    subst ho h1 h2 this
    rfl
  have hp : phr n [] = ⟨n.nm, 7, mx [] + 1⟩ := by
    unfold phr phT
    rw [if_neg (by omega), if_pos ho, ho]
    rfl
  rw [hp]
  exact Pr.leaf (good_self h4) (by unfold tkK; rw [if_pos h4, ← e]) (by rw [ho]; decide)
theorem dec_digs (n : Nat) : ∀ c, c ∈ Lib.decDigits n → digitB c.toNat = true := by
  intro c hc
  obtain ⟨-, b, e, -⟩ := hd_spec n
  rw [e] at hc
  unfold hdig at hc
  obtain ⟨d, hd, rfl⟩ := List.mem_map.1 hc
  have := b d hd
  have h2 : (UInt8.ofNat (48 + d)).toNat = 48 + d := by rw [UInt8.toNat_ofNat']; omega
  unfold digitB
  exact decide_eq_true (by omega)
theorem rv_num {n : Int} (h0 : 0 ≤ n) (h1 : n ≤ 9223372036854775807) : rv ⟨(Lib.itoa n).toArray⟩ = (1, n, ⟨#[]⟩, true) := by
  have e : Lib.itoa n = Lib.decDigits n.natAbs := ((itoa_looks n).2 (by omega)).1
  obtain ⟨c, r, hd, h2, h3⟩ := dec_head n.natAbs
  have hne : ∀ d u, d.toNat > 57 → (⟨(Lib.itoa n).toArray⟩ : ByteArray) ≠ ⟨(d :: u : List UInt8).toArray⟩ := by
    intro d u hd' q
    have := congrArg (fun x : ByteArray => x.data.toList) q
    simp only [e, hd, List.cons.injEq] at this
    rw [this.1] at h3
    omega
  unfold rv
  rw [if_neg (hne 98 [108, 97, 110, 107] (by decide)), if_neg (hne 116 [114, 117, 101] (by decide)), if_neg (hne 102 [97, 108, 115, 101] (by decide))]
  rw [show (⟨(Lib.itoa n).toArray⟩ : ByteArray).data.toList = Lib.itoa n from rfl, readDec_itoa ⟨by omega, h1⟩]
theorem rv_quo {s : ByteArray} (h : okText s = true) : rv (⟨#[34]⟩ ++ s ++ ⟨#[34]⟩) = (3, 0, s, true) := by
  have hd : ((⟨#[34]⟩ : ByteArray) ++ s ++ ⟨#[34]⟩).data.toList = 34 :: (s.data.toList ++ [34]) := by simp [ByteArray.data_append]
  have hm : mid (⟨#[34]⟩ ++ s ++ ⟨#[34]⟩) = s := by
    refine ba_ext ?_
    unfold mid
    rw [ext_list, hd]
    have hz : ((⟨#[34]⟩ : ByteArray) ++ s ++ ⟨#[34]⟩).size = s.data.toList.length + 2 := by
      simp only [ByteArray.size_append, bsz, List.size_toArray, List.length_cons, List.length_nil]
      rw [Array.length_toList]
      show 0 + 1 + s.size + (0 + 1) = s.size + 2
      omega
    rw [hz, show s.data.toList.length + 2 - 1 = s.data.toList.length + 1 by omega, List.take_succ_cons, List.drop_succ_cons, List.drop_zero, List.take_left]
  have hne : ∀ d u, d ≠ 34 → ((⟨#[34]⟩ : ByteArray) ++ s ++ ⟨#[34]⟩) ≠ ⟨(d :: u : List UInt8).toArray⟩ := by
    intro d u hd' q
    have := congrArg (fun x : ByteArray => x.data.toList) q
    simp only [hd, List.cons.injEq] at this
    exact hd' this.1.symm
  unfold rv
  rw [if_neg (hne 98 [108, 97, 110, 107] (by decide)), if_neg (hne 116 [114, 117, 101] (by decide)), if_neg (hne 102 [97, 108, 115, 101] (by decide))]
  rw [readDec_none fun n _ e => itoa_head n (by rw [e]; exact quoted_head s)]
  simp only [hm]
  rw [if_pos ⟨by simp only [ByteArray.size_append, bsz, List.size_toArray, List.length_cons, List.length_nil]; omega, h, trivial⟩]
theorem not_good {t : ByteArray} (h : cls t ≠ 1) : goodN t = false := by
  cases q : goodN t with
  | false => rfl
  | true => exact absurd (goodN_cls q) h
/-- The token of a constant, and what it is read as. -/
theorem show_tok {k n : Int} {s : ByteArray} (h : okVal k n s = true) (h4 : k ≠ 4) (h0 : 0 ≤ n) (h1 : n ≤ 9223372036854775807) : SelfT (showB k n s) ∧ goodN (showB k n s) = false ∧ rv (showB k n s) = (k, n, s, true) := by
  unfold showB
  rw [if_pos h]
  unfold okVal at h
  by_cases k0 : k = 0
  · rw [if_pos k0] at h ⊢
    simp only [Bool.and_eq_true, decide_eq_true_eq] at h
    have e := size0_eq h.2
    rw [k0, h.1, e]
    exact ⟨self_word (by decide +kernel) (by decide) (by decide) (by decide), by decide +kernel, by unfold rv; rw [if_pos rfl]⟩
  rw [if_neg k0] at h ⊢
  by_cases k1 : k = 1
  · rw [if_pos k1] at h ⊢
    have e := size0_eq (of_decide_eq_true h)
    have hr := rv_num h0 h1
    obtain ⟨c, r, hd, h2, h3⟩ := dec_head n.natAbs
    have ei : Lib.itoa n = Lib.decDigits n.natAbs := ((itoa_looks n).2 (by omega)).1
    have hb : bt ⟨(Lib.itoa n).toArray⟩ 0 = c.toNat := bt0 (r := r) (by show Lib.itoa n = c :: r; rw [ei, hd])
    have hc : cls ⟨(Lib.itoa n).toArray⟩ = 2 := by
      unfold cls
      rw [hb, if_neg (by unfold small; rw [decide_eq_false (by omega)]; decide), if_pos (by unfold digitB; exact decide_eq_true ⟨h2, h3⟩)]
    refine ⟨⟨⟨?_, fun q => by omega, fun _ => by rw [hr], fun q => by omega, fun q => by omega⟩, fun q => by omega, fun _ c hc' => ?_⟩, not_good (by omega), by rw [hr, k1, e]⟩
    · show 0 < (Lib.itoa n).toArray.size
      rw [ei, hd]; simp
    · exact dec_digs n.natAbs c (by rw [← ei]; exact hc')
  rw [if_neg k1] at h ⊢
  by_cases k2 : k = 2
  · rw [if_pos k2] at h ⊢
    simp only [Bool.and_eq_true, decide_eq_true_eq] at h
    have e := size0_eq h.2
    rw [k2, e]
    rcases h.1 with hn | hn
    · rw [hn, if_neg (by decide)]
      exact ⟨self_word (by decide +kernel) (by decide) (by decide) (by decide), by decide +kernel, by unfold rv; rw [if_neg (by decide), if_neg (by decide), if_pos rfl]⟩
    · rw [hn, if_pos rfl]
      exact ⟨self_word (by decide +kernel) (by decide) (by decide) (by decide), by decide +kernel, by unfold rv; rw [if_neg (by decide), if_pos rfl]⟩
  rw [if_neg k2] at h ⊢
  by_cases k3 : k = 3
  · rw [if_pos k3] at h ⊢
    simp only [Bool.and_eq_true, decide_eq_true_eq] at h
    have hr := rv_quo h.2
    have hb : bt (⟨#[34]⟩ ++ s ++ ⟨#[34]⟩) 0 = (34 : UInt8).toNat := bt0 (r := s.data.toList ++ [34]) (by simp [ByteArray.data_append])
    have hc : cls (⟨#[34]⟩ ++ s ++ ⟨#[34]⟩) = 3 := by
      unfold cls
      rw [hb]
      rfl
    refine ⟨⟨⟨?_, fun q => by omega, fun q => by omega, fun _ => by rw [hr], fun q => by omega⟩, fun q => by omega, fun q => by omega⟩, not_good (by omega), by rw [hr, k3, h.1]⟩
    simp only [ByteArray.size_append, bsz, List.size_toArray, List.length_cons, List.length_nil]
    omega
  rw [if_neg k3, if_neg h4] at h
  cases h
theorem Pr.cst {n : Nx} (hn : okNode n = true) (ho : n.op = 0) (h1 : n.v.n ≤ 9223372036854775807) : Pr ⟨phr n [], [some (showB n.v.k n.v.n n.v.s)], [n]⟩ := by
  unfold okNode at hn
  rw [if_pos ho] at hn
  simp only [Bool.and_eq_true, decide_eq_true_eq] at hn
  obtain ⟨⟨⟨h2, h3⟩, h4⟩, h5⟩ := hn
  obtain ⟨hs, hg, hr⟩ := show_tok h3 h4 h5 h1
  have e : cstNd (showB n.v.k n.v.n n.v.s) = n := by
    unfold cstNd
    rw [hr]
    obtain ⟨op, ⟨k, m, s⟩, nm⟩ := n
    simp only at ho h2
    have := size0_eq h2
    subst ho this
    rfl
  have hp : phr n [] = ⟨showB n.v.k n.v.n n.v.s, 7, mx [] + 1⟩ := by
    unfold phr phT
    rw [if_pos ho, ho]
    rfl
  rw [hp]
  exact Pr.leaf hs (by unfold tkK; rw [if_neg (by rw [hg]; decide), if_pos (by rw [hr]), e]) (by rw [ho]; decide)
end Go.Proofs.YtjgngbmkpiihgaaGreatDoor

/- The pieces of a printed expression: over the stack. No walk in this text. -/
namespace Go.Proofs.YtjgngbmkpiihgaaGreatDoor
open Go

theorem fn_ar' : ∀ k : Fin 26, 16 ≤ k.val → 1 ≤ (ar (k.val : Nat)).toNat := by decide +kernel
/-- One node more. -/
theorem Pr.step {n : Nx} {a : List Qh} (ha : ∀ x ∈ a, Pr x) (hn : okNode n = true) (h1 : n.v.n ≤ 9223372036854775807) (hl : a.length = arn n) : ∃ y : Qh, Pr y ∧ y.p = phr n (a.map (·.p)) ∧ y.e = (a.map (·.e)).flatten ++ [n] := by
  by_cases o0 : n.op = 0
  · have : a = [] := List.length_eq_zero_iff.1 (by rw [hl]; unfold arn; rw [o0]; rfl)
    subst this
    exact ⟨_, Pr.cst hn o0 h1, rfl, rfl⟩
  by_cases o1 : n.op = 1
  · have : a = [] := List.length_eq_zero_iff.1 (by rw [hl]; unfold arn; rw [o1]; rfl)
    subst this
    exact ⟨_, Pr.fld hn o1, rfl, rfl⟩
  obtain ⟨-, h2, h25⟩ := op_nd hn o0 o1
  by_cases o3 : n.op = 2 ∨ n.op = 3
  · obtain ⟨x, rfl⟩ := list1 (a := a) (by rw [hl]; unfold arn; rw [ar_one o3]; rfl)
    exact ⟨_, Pr.pre (ha x (by simp)) hn o3, rfl, by simp⟩
  by_cases o15 : n.op ≤ 15
  · have h7 : lvl n.op ≠ 7 := by have := bin_lv (op := n.op) (by omega) o15; omega
    obtain ⟨x, y, rfl⟩ := list2 (a := a) (by rw [hl]; unfold arn; rw [ar_two h2 h25 h7 (by omega) (by omega)]; rfl)
    exact ⟨_, Pr.bin (ha x (by simp)) (ha y (by simp)) hn (by omega) o15, rfl, by simp⟩
  · cases a with
    | nil =>
      have := fn_ar' ⟨n.op.toNat, by omega⟩ (by show 16 ≤ n.op.toNat; omega)
      rw [show (((⟨n.op.toNat, by omega⟩ : Fin 26).val : Nat) : Int) = n.op by show ((n.op.toNat : Nat) : Int) = n.op; omega] at this
      unfold arn at hl
      simp at hl
      omega
    | cons x r =>
      exact ⟨_, Pr.call (ha x (by simp)) (fun y hy => ha y (List.mem_cons_of_mem _ hy)) hn (by omega) hl, rfl, rfl⟩
theorem pst_q {e : Nat → Nx} : ∀ {m : Nat}, (∀ k, k < m → okNode (e k) = true ∧ (e k).v.n ≤ 9223372036854775807 ∧ arn (e k) ≤ (stk e k).length) → ∃ qs : List Qh, (∀ x ∈ qs, Pr x) ∧ qs.map (·.p) = pst e m ∧ (qs.reverse.map (·.e)).flatten = (List.range m).map e
  | 0, _ => ⟨[], by simp, rfl, rfl⟩
  | m + 1, h => by
    obtain ⟨qs, h1, h2, h3⟩ := pst_q (m := m) fun k hk => h k (by omega)
    obtain ⟨g1, g2, g3⟩ := h m (by omega)
    have hz : arn (e m) ≤ qs.length := by rw [← List.length_map (f := (·.p)), h2, pst_len]; exact g3
    obtain ⟨y, y1, y2, y3⟩ := Pr.step (n := e m) (a := (qs.take (arn (e m))).reverse) (fun x hx => h1 x (List.mem_of_mem_take (List.mem_reverse.1 hx))) g1 g2 (by rw [List.length_reverse, List.length_take]; omega)
    refine ⟨y :: qs.drop (arn (e m)), fun x hx => ?_, ?_, ?_⟩
    · rcases List.mem_cons.1 hx with rfl | hx
      · exact y1
      · exact h1 x (List.mem_of_mem_drop hx)
    · rw [List.map_cons, y2, List.map_reverse, List.map_take, List.map_drop, h2]
      rfl
    · rw [List.reverse_cons, List.map_append, List.flatten_append, List.map_cons, List.map_nil, List.flatten_singleton, y3, List.range_succ, List.map_append, ← h3]
      have e1 : qs.reverse = (qs.drop (arn (e m))).reverse ++ (qs.take (arn (e m))).reverse := by rw [← List.reverse_append, List.take_append_drop]
      rw [e1, List.map_append, List.flatten_append]
      simp
/-- What a printed expression is cut into. -/
theorem top_q {e : Nat → Nx} {m : Nat} (h : ∀ k, k < m → okNode (e k) = true ∧ (e k).v.n ≤ 9223372036854775807) (hs : stkOk e m) (h1 : (stk e m).length = 1) : ∃ x : Qh, Pr x ∧ x.p = top e m ∧ x.e = (List.range m).map e := by
  obtain ⟨qs, q1, q2, q3⟩ := pst_q (e := e) (m := m) fun k hk => ⟨(h k hk).1, (h k hk).2, hs k hk⟩
  obtain ⟨x, rfl⟩ := list1 (a := qs) (by rw [← List.length_map (f := (·.p)), q2, pst_len]; exact h1)
  refine ⟨x, q1 x (by simp), ?_, by simpa using q3⟩
  unfold top
  rw [← q2]
  rfl
theorem top_lex {e : Nat → Nx} {m : Nat} (h : ∀ k, k < m → okNode (e k) = true ∧ (e k).v.n ≤ 9223372036854775807) (hs : stkOk e m) (h1 : (stk e m).length = 1) (hd : (top e m).d ≤ 65) : ∃ ts, lxF (top e m).t (top e m).t.size 0 [] = .inr ts ∧ Gr tkX 1 0 ts ((List.range m).map e) ∧ blc tkX 64 0 ts = some 0 ∧ crun [] ((List.range m).map e) = [((top e m).lv.toNat, ts.length)] := by
  obtain ⟨x, hx, hp, he⟩ := top_q h hs h1
  have hl := hx.lo
  refine ⟨tks x.q, (hx.ct [] Aft.nil).cut.lex (by rw [← hp]; exact hx.tx), he ▸ gr_to hx.gr (by omega) (by omega) (by omega), hx.bl 0 (by rw [hp]; omega), ?_⟩
  rw [← he, hx.cn, hp]
end Go.Proofs.YtjgngbmkpiihgaaGreatDoor
