import Derived.Test.YtjgngbmkpiihgaaGreatDoorGDe
import Derived.Test.YtjgngbmkpiihgaaGreatDoorGDg
/- The model draws an expression to be printed. -/
namespace Go.Proofs.YtjgngbmkpiihgaaGreatDoor
open Go Go.RowKit

theorem l2Err_e (n : Int) (w : World) : Calls Tryz.prog 28 #[.int .i64 n] w fun e w' => e = .returned (.agg #[.int .i64 4, .int .i64 n, .string ⟨#[]⟩]) ∧ Below w.heap.size w w' := by
  go_enter Tryz.func28, Tryz.ntmps28
  go_wp2
  exact bodyPost_ret (v := .agg #[.int .i64 4, .int .i64 n, .string ⟨#[]⟩]) (by simp [results, Tryz.results28, go_sem]) rfl ⟨rfl, (Below.refl _ _).alloc (Nat.le_refl _) _⟩
theorem FitS.fit {n : Nx} (h : FitS n) : Fit n := ⟨Nat.le_trans h.1 (by omega), Nat.le_trans h.2.1 (by omega), h.2.2.2⟩
/-- One node turned, or one more. -/
def MutX (x at' : Nat) (l l' : List Nx) : Prop := ∃ (h : at' < l.length),
  (x = 0 ∧ l' = l.set at' ⟨l[at'].op + 1, l[at'].v, l[at'].nm⟩) ∨ (x = 1 ∧ l' = l.set at' ⟨l[at'].op, l[at'].v, l[at'].nm ++ ⟨#[88]⟩⟩) ∨ (x = 2 ∧ l' = l.set at' ⟨l[at'].op, ⟨l[at'].v.k, -1, l[at'].v.s⟩, l[at'].nm⟩) ∨
  (x = 3 ∧ l' = l ++ [nOp 7]) ∨ (x = 4 ∧ l' = l ++ [⟨0, ⟨2, 1, ⟨#[]⟩⟩, ⟨#[]⟩⟩]) ∨ (x = 5 ∧ l' = l.set at' ⟨l[at'].op, ⟨4, 1, ⟨#[]⟩⟩, l[at'].nm⟩) ∨
  (x = 6 ∧ l' = l.set at' ⟨l[at'].op, l[at'].v, ⟨#[97, 110, 100]⟩⟩) ∨ (x = 7 ∧ l' = l.set at' ⟨26 + (at' : Int) % 2 * (-27), l[at'].v, l[at'].nm⟩) ∨ (x = 8 ∧ l' = [])
theorem mut_ex {x at' : Nat} {l : List Nx} (hx : x < 9) (hat : at' < l.length) (hl : ∀ n, n ∈ l → FitS n) : ∃ l', MutX x at' l l' ∧ (∀ n, n ∈ l' → Fit n) ∧ l'.length ≤ l.length + 1 := by
  have hs : ∀ n', Fit n' → ∀ n, n ∈ l.set at' n' → Fit n := fun n' hn' n hn => by
    rcases List.mem_or_eq_of_mem_set hn with h | rfl
    · exact (hl n h).fit
    · exact hn'
  obtain ⟨q1, q2, q3, q4⟩ := hl _ (List.getElem_mem hat)
  have hlen : ∀ n', (l.set at' n').length ≤ l.length + 1 := fun n' => by rw [List.length_set]; omega
  rcases (show x = 0 ∨ x = 1 ∨ x = 2 ∨ x = 3 ∨ x = 4 ∨ x = 5 ∨ x = 6 ∨ x = 7 ∨ x = 8 by omega) with h | h | h | h | h | h | h | h | h
  · exact ⟨_, ⟨hat, .inl ⟨h, rfl⟩⟩, hs _ ⟨Nat.le_trans q1 (by omega), Nat.le_trans q2 (by omega), q4⟩, hlen _⟩
  · exact ⟨_, ⟨hat, .inr (.inl ⟨h, rfl⟩)⟩, hs _ ⟨Nat.le_trans q1 (by omega), by show (_ ++ _ : ByteArray).size ≤ _; rw [ByteArray.size_append]; exact Nat.le_trans (Nat.add_le_add_right q2 _) (by decide), q4⟩, hlen _⟩
  · exact ⟨_, ⟨hat, .inr (.inr (.inl ⟨h, rfl⟩))⟩, hs _ ⟨Nat.le_trans q1 (by omega), Nat.le_trans q2 (by omega), (by omega : (-9223372036854775808 : Int) ≤ -1), (by omega : (-1 : Int) ≤ 9223372036854775807)⟩, hlen _⟩
  · refine ⟨_, ⟨hat, .inr (.inr (.inr (.inl ⟨h, rfl⟩)))⟩, fun n hn => ?_, by rw [List.length_append, List.length_singleton]; omega⟩
    rcases List.mem_append.1 hn with h | h
    · exact (hl n h).fit
    · obtain rfl := List.mem_singleton.1 h; exact (FitS.opn (by omega) (by omega)).fit
  · refine ⟨_, ⟨hat, .inr (.inr (.inr (.inr (.inl ⟨h, rfl⟩))))⟩, fun n hn => ?_, by rw [List.length_append, List.length_singleton]; omega⟩
    rcases List.mem_append.1 hn with h | h
    · exact (hl n h).fit
    · obtain rfl := List.mem_singleton.1 h; exact (FitS.cst 2 1 (Nat.zero_le _) (by omega) (by omega)).fit
  · exact ⟨_, ⟨hat, .inr (.inr (.inr (.inr (.inr (.inl ⟨h, rfl⟩)))))⟩, hs _ ⟨Nat.zero_le _, Nat.le_trans q2 (by omega), (by omega : (-9223372036854775808 : Int) ≤ 1), (by omega : (1 : Int) ≤ 9223372036854775807)⟩, hlen _⟩
  · exact ⟨_, ⟨hat, .inr (.inr (.inr (.inr (.inr (.inr (.inl ⟨h, rfl⟩))))))⟩, hs _ ⟨Nat.le_trans q1 (by omega), by show (3 : Nat) ≤ _; omega, q4⟩, hlen _⟩
  · exact ⟨_, ⟨hat, .inr (.inr (.inr (.inr (.inr (.inr (.inr (.inl ⟨h, rfl⟩)))))))⟩, hs _ ⟨Nat.le_trans q1 (by omega), Nat.le_trans q2 (by omega), q4⟩, hlen _⟩
  · exact ⟨[], ⟨hat, .inr (.inr (.inr (.inr (.inr (.inr (.inr (.inr ⟨h, rfl⟩)))))))⟩, fun n hn => (by cases hn), Nat.zero_le _⟩

/-- What is drawn from bytes. -/
def DrawX (len : Nat) (f : Nat → Nat) (e : List Nx) : Prop :=
  (tkD len f 0 10 = 9 ∧
    ((∃ x, tkD len f 2 8 = x ∧ x < 4 ∧ e = if (((x : Int) % 2 == 0) = true) then chR (chL true (64 + x / 2)) (64 + x / 2 - 1) else chL false (64 + x / 2)) ∨
     (tkD len f 2 8 = 4 ∧ e = chR (chL true 64) 63 ++ [nOp 2]) ∨
     (tkD len f 2 8 = 7 ∧ ∃ l : List Nx, l.length ≤ 999 ∧ (∀ w : World, Calls Tryz.prog 20 #[.int .i64 500] w (NodOut w l)) ∧ e = l ++ [nOp 2]) ∨
     (tkD len f 2 8 = 6 ∧ ∃ l : List Nx, l.length ≤ 999 ∧ (∀ w : World, Calls Tryz.prog 20 #[.int .i64 500] w (NodOut w l)) ∧ e = l ++ [nOp 2, nOp 2]) ∨
     (tkD len f 2 8 = 5 ∧ ∃ s t : ByteArray, (∀ w : World, Calls Tryz.prog 23 #[.int .i64 1000] w fun r w' => r = .returned (.string s) ∧ w' = w) ∧ (∀ w : World, Calls Tryz.prog 23 #[.int .i64 990] w fun r w' => r = .returned (.string t) ∧ w' = w) ∧
       e = [⟨0, ⟨3, 0, s⟩, ⟨#[]⟩⟩] ++ [⟨0, ⟨3, 0, t⟩, ⟨#[]⟩⟩, nOp 9] ++ [⟨0, ⟨3, 0, t⟩, ⟨#[]⟩⟩, nOp 9] ++ [⟨0, ⟨3, 0, t⟩, ⟨#[]⟩⟩, nOp 9]))) ∨
  (tkD len f 0 10 ≠ 9 ∧ ∃ (l : List Nx) (q : Nat), GenE len f (min (2 + len / 12) 5) 2 (((tkD len f 1 3 : Nat) : Int) + 1) l q ∧
    ((tkD len f 0 10 < 7 ∧ e = l) ∨ (7 ≤ tkD len f 0 10 ∧ MutX (tkD len f q 9) (tkD len f (q + 1) l.length) l e)))
theorem draw_ex (len : Nat) (f : Nat → Nat) (hlen : len ≤ 1048576) : ∃ e, DrawX len f e ∧ (∀ n, n ∈ e → Fit n) ∧ e.length ≤ 4096 := by
  have h10 : tkD len f 0 10 < 10 := tk_lt hlen (by omega) (by omega) (by omega)
  have h3 : tkD len f 1 3 < 3 := tk_lt hlen (by omega) (by omega) (by omega)
  have h8 : tkD len f 2 8 < 8 := tk_lt hlen (by omega) (by omega) (by omega)
  have f2 : ∀ op : Int, 0 ≤ op → op ≤ 25 → Fit (nOp op) := fun op h1 h2 => (FitS.opn h1 h2).fit
  by_cases h9 : tkD len f 0 10 = 9
  · by_cases x4 : tkD len f 2 8 < 4
    · refine ⟨_, .inl ⟨h9, .inl ⟨_, rfl, x4, rfl⟩⟩, ?_⟩
      have e1 := chL_ok true (64 + tkD len f 2 8 / 2)
      have e2 := chL_ok false (64 + tkD len f 2 8 / 2)
      have e3 := chR_ok e1.2 (64 + tkD len f 2 8 / 2 - 1)
      split
      · exact ⟨fun n hn => (e3.2 n hn).fit, by omega⟩
      · exact ⟨fun n hn => (e2.2 n hn).fit, by omega⟩
    by_cases x5 : tkD len f 2 8 = 4
    · have e1 := chL_ok true 64
      have e3 := chR_ok e1.2 63
      refine ⟨_, .inl ⟨h9, .inr (.inl ⟨x5, rfl⟩)⟩, fun n hn => ?_, by rw [List.length_append, List.length_singleton]; omega⟩
      rcases List.mem_append.1 hn with h | h
      · exact (e3.2 n h).fit
      · obtain rfl := List.mem_singleton.1 h; exact f2 2 (by omega) (by omega)
    obtain ⟨l, l1, l2, l3⟩ := bal_ex 500 (by omega) (by omega)
    by_cases x7 : tkD len f 2 8 = 7
    · refine ⟨_, .inl ⟨h9, .inr (.inr (.inl ⟨x7, l, l2, l3, rfl⟩))⟩, fun n hn => ?_, by rw [List.length_append, List.length_singleton]; omega⟩
      rcases List.mem_append.1 hn with h | h
      · exact (l1 n h).fit
      · obtain rfl := List.mem_singleton.1 h; exact f2 2 (by omega) (by omega)
    by_cases x6 : tkD len f 2 8 = 6
    · refine ⟨_, .inl ⟨h9, .inr (.inr (.inr (.inl ⟨x6, l, l2, l3, rfl⟩)))⟩, fun n hn => ?_, by rw [List.length_append]; simp only [List.length_cons, List.length_nil]; omega⟩
      rcases List.mem_append.1 hn with h | h
      · exact (l1 n h).fit
      · have : n = nOp 2 := by simpa using h
        rw [this]; exact f2 2 (by omega) (by omega)
    · obtain ⟨s, s1, s2⟩ := l2Repeat_any 1000 (by omega) (by omega)
      obtain ⟨t, t1, t2⟩ := l2Repeat_any 990 (by omega) (by omega)
      refine ⟨_, .inl ⟨h9, .inr (.inr (.inr (.inr ⟨by omega, s, t, s2, t2, rfl⟩)))⟩, fun n hn => ?_, by simp⟩
      have k1 : Fit ⟨0, ⟨3, 0, s⟩, ⟨#[]⟩⟩ := (FitS.cst 3 0 s1 (by omega) (by omega)).fit
      have k2 : Fit ⟨0, ⟨3, 0, t⟩, ⟨#[]⟩⟩ := (FitS.cst 3 0 t1 (by omega) (by omega)).fit
      have k3 := f2 9 (by omega) (by omega)
      simp only [List.mem_append, List.mem_cons, List.not_mem_nil, or_false] at hn
      rcases hn with ((rfl | rfl | rfl) | rfl | rfl) | rfl | rfl <;> assumption
  · have hd : min (2 + len / 12) 5 ≤ 5 := Nat.min_le_right _ _
    have hp4 : 4 ^ min (2 + len / 12) 5 ≤ 4 ^ 5 := Nat.pow_le_pow_right (by omega) hd
    obtain ⟨l, q, hE⟩ := gen_ex len f hlen (min (2 + len / 12) 5) hd 2 (((tkD len f 1 3 : Nat) : Int) + 1) (by omega) (by omega)
    have hE' := hE
    obtain ⟨g1, g2, g3, g4, g5, -⟩ := hE
    by_cases h7 : tkD len f 0 10 < 7
    · exact ⟨l, .inr ⟨h9, l, q, hE', .inl ⟨h7, rfl⟩⟩, fun n hn => (g1 n hn).fit, by omega⟩
    · obtain ⟨e, m1, m2, m3⟩ := mut_ex (x := tkD len f q 9) (at' := tkD len f (q + 1) l.length) (tk_lt hlen (by omega) (by omega) (by omega)) (tk_lt hlen (by omega) (by omega) (by omega)) g1
      exact ⟨e, .inr ⟨h9, l, q, hE', .inr ⟨by omega, m1⟩⟩, m2, by omega⟩
end Go.Proofs.YtjgngbmkpiihgaaGreatDoor

/- The model draws an expression to be printed: the walk. -/
namespace Go.Proofs.YtjgngbmkpiihgaaGreatDoor
open Go Go.RowKit

/-- A wide tree of texts. -/
def wdL (s t : ByteArray) : Nat → List Nx
  | 0 => [⟨0, ⟨3, 0, s⟩, ⟨#[]⟩⟩]
  | j + 1 => wdL s t j ++ [⟨0, ⟨3, 0, t⟩, ⟨#[]⟩⟩, nOp 9]
theorem wdL_len (s t : ByteArray) (j : Nat) : (wdL s t j).length = 1 + j * 2 := by
  induction j with
  | zero => rfl
  | succ j ih => rw [wdL, List.length_append, ih]; simp only [List.length_cons, List.length_nil]; omega
set_option maxRecDepth 100000 in
set_option maxHeartbeats 8000000 in
theorem drawPrint_lim (len : Nat) (f : Nat → Nat) (hlen : len ≤ 1048576) (w : World) (a : Option Addr) (c : Nat) (hby : Byts w a len f) (h9 : tkD len f 0 10 = 9) (e : List Nx) (he : e.length ≤ 4096) 
    (hX : (∃ x, tkD len f 2 8 = x ∧ x < 4 ∧ e = if (((x : Int) % 2 == 0) = true) then chR (chL true (64 + x / 2)) (64 + x / 2 - 1) else chL false (64 + x / 2)) ∨
     (tkD len f 2 8 = 4 ∧ e = chR (chL true 64) 63 ++ [nOp 2]) ∨
     (tkD len f 2 8 = 7 ∧ ∃ l : List Nx, l.length ≤ 999 ∧ (∀ w : World, Calls Tryz.prog 20 #[.int .i64 500] w (NodOut w l)) ∧ e = l ++ [nOp 2]) ∨
     (tkD len f 2 8 = 6 ∧ ∃ l : List Nx, l.length ≤ 999 ∧ (∀ w : World, Calls Tryz.prog 20 #[.int .i64 500] w (NodOut w l)) ∧ e = l ++ [nOp 2, nOp 2]) ∨
     (tkD len f 2 8 = 5 ∧ ∃ s t : ByteArray, (∀ w : World, Calls Tryz.prog 23 #[.int .i64 1000] w fun r w' => r = .returned (.string s) ∧ w' = w) ∧ (∀ w : World, Calls Tryz.prog 23 #[.int .i64 990] w fun r w' => r = .returned (.string t) ∧ w' = w) ∧
       e = [⟨0, ⟨3, 0, s⟩, ⟨#[]⟩⟩] ++ [⟨0, ⟨3, 0, t⟩, ⟨#[]⟩⟩, nOp 9] ++ [⟨0, ⟨3, 0, t⟩, ⟨#[]⟩⟩, nOp 9] ++ [⟨0, ⟨3, 0, t⟩, ⟨#[]⟩⟩, nOp 9])) :
    Calls Tryz.prog 5 #[.slice a len c] w (NodOut w e) := by
  have HBy := hide hby; have H9 := hide h9
  obtain ⟨K, hK⟩ : ∃ K, tkD len f 1 3 = K := ⟨_, rfl⟩
  obtain ⟨x, hx⟩ : ∃ x, tkD len f 2 8 = x := ⟨_, rfl⟩
  rw [hx] at hX
  have HK := hide hK; have HX := hide hX; have Hx := hide hx
  clear hby h9 hK hX hx
  go_enter Tryz.func5, Tryz.ntmps5
  go_wp2_with fail
  refine (tk_call (p := 0) (n := 10) hlen (by omega) (by omega) (by omega) c (unhide HBy) rfl rfl).mono ?_
  rintro e w' ⟨rfl, hw'⟩
  subst hw'
  rw [unhide H9]
  go_wp2_with fail
  refine (tk_call (p := 1) (n := 3) hlen (by omega) (by omega) (by omega) c (unhide HBy) rfl rfl).mono ?_
  rintro e w' ⟨rfl, hw'⟩
  subst hw'
  rw [unhide HK]
  go_wp2_with fail
  refine (tk_call (p := 2) (n := 8) hlen (by omega) (by omega) (by omega) c (unhide HBy) rfl rfl).mono ?_
  rintro e w' ⟨rfl, hw'⟩
  subst hw'
  rw [unhide Hx]
  have HB := hide (Below.refl w'.heap.size w')
  rcases unhide HX with ⟨x', hx', h4, hE⟩ | ⟨rfl, hE⟩ | ⟨rfl, l, l1, l2, rfl⟩ | ⟨rfl, l, l1, l2, rfl⟩ | ⟨rfl, s, t, s1, t1, hE⟩
  · subst hx'
    clear HX
    have h4' : (x : Int) < 4 := by omega
    obtain ⟨y, hy⟩ : ∃ y, 64 + x / 2 = y := ⟨_, rfl⟩
    have hy' : (64 : Int) + (x : Int) / 2 = y := by omega
    have hy2 : (64 : Int) + (x : Int).tdiv 2 = y := by rw [Int.tdiv_eq_ediv_of_nonneg (by omega)]; omega
    obtain ⟨b, hb⟩ : ∃ b : Bool, ((x : Int) % 2 == 0) = b := ⟨_, rfl⟩
    rw [hy, hb] at hE
    have HCh := hide (l3Chain_any y b (by omega) w')
    rw [← hE] at HCh
    have HHb := hide hb
    clear hb hy hE
    go_wp2_with fail
    rw [unhide HHb]
    refine (unhide HCh).mono ?_
    rintro e w2 ⟨v, rfl, ho, hb⟩
    have HO := hide ho; have HB2 := hide hb
    clear ho hb
    go_wp2_with fail
    go_ret
    exact ⟨_, rfl, unhide HO, unhide HB2⟩
  · clear HX
    have HCh := hide (l3Chain_any 64 true (by omega) w')
    rw [if_pos rfl] at HCh
    have HLc := hide (chR_ok (chL_ok true 64).2 63).1
    have HLd := hide (chL_ok true 64).1
    obtain ⟨R, hR⟩ : ∃ R, chR (chL true 64) 63 = R := ⟨_, rfl⟩
    rw [show (64 - 1 : Nat) = 63 from rfl, hR] at HCh
    rw [hR] at HLc hE
    have HE := hide hE
    clear hR hE
    go_wp2_with fail
    refine (unhide HCh).mono ?_
    rintro e w2 ⟨v, rfl, ho, hb⟩
    obtain ⟨a1, k1, rfl, n1⟩ := ho.nods
    have HN1 := hide n1; replace HB := hide ((unhide HB).trans hb)
    clear ho hb n1
    go_wp2_with fail
    refine (l3OpNode_any _ _).mono ?_
    rintro e w4 ⟨rfl, hb4⟩
    replace HN1 := hide ((unhide HN1).mono hb4); replace HB := hide ((unhide HB).trans (hb4.mono (unhide HB).size))
    clear hb4
    have HO1 := hide (OwnN.lone w4 (nOp 2))
    have HS := hide ((Below.refl w4.heap.size w4).alloc (Nat.le_refl _) (.cells (nC (nOp 2)).toArray 41))
    replace HN1 := hide ((unhide HN1).mono (unhide HS)); replace HB := hide ((unhide HB).trans ((unhide HS).mono (unhide HB).size))
    obtain ⟨a2, k2, hv2, n2⟩ := (unhide HO1).nods
    cases hv2
    have HN2 := hide n2
    clear n2 HO1
    go_wp2_with fail
    refine (l3Join_any a1 _ k1 _ R [nOp 2] _ (by have := unhide HLc; have := unhide HLd; simp only [List.length_singleton]; omega) (unhide HN1) (unhide HN2)).mono ?_
    rintro e w5 ⟨v5, rfl, ho5, hb5⟩
    have HO5 := hide (ho5.low (unhide HB).size); replace HB := hide ((unhide HB).trans (hb5.mono (unhide HB).size))
    clear ho5 hb5
    go_wp2_with fail
    go_ret
    exact ⟨_, rfl, by rw [unhide HE]; exact unhide HO5, unhide HB⟩
  · clear HX
    have HL := hide l2
    clear l2
    go_wp2_with fail
    refine (unhide HL _).mono ?_
    rintro e w2 ⟨v, rfl, ho, hb⟩
    have HO := hide ho; replace HB := hide ((unhide HB).trans hb)
    clear ho hb
    go_wp2_with fail
    refine (l3OpNode_any _ _).mono ?_
    rintro e w4 ⟨rfl, hb4⟩
    replace HO := hide ((unhide HO).keep hb4); replace HB := hide ((unhide HB).trans (hb4.mono (unhide HB).size))
    clear hb4
    have HN : Hid (Blk _ _ 41 (nC (nOp 2))) := hide (Blk.new w4 41 (nC (nOp 2)).toArray)
    have HS := hide ((Below.refl w4.heap.size w4).alloc (Nat.le_refl _) (.cells (nC (nOp 2)).toArray 41))
    replace HO := hide ((unhide HO).keep (unhide HS)); replace HB := hide ((unhide HB).trans ((unhide HS).mono (unhide HB).size))
    go_wp2_with (at_builtin; refine append_node rfl _ _ rfl rfl (unhide HO) rfl (unhide HN) (by omega) (unhide HB).size ?_)
    intro v2 W2 ho hb9
    have HOZ := hide ho; have HBZ := hide ((unhide HB).trans hb9)
    clear ho hb9 HN HS
    go_wp2_with fail
    go_ret
    exact ⟨_, rfl, unhide HOZ, unhide HBZ⟩
  · clear HX
    have HL := hide l2
    clear l2
    go_wp2_with fail
    refine (unhide HL _).mono ?_
    rintro e w2 ⟨v, rfl, ho, hb⟩
    have HO := hide ho; replace HB := hide ((unhide HB).trans hb)
    clear ho hb
    go_wp2_with fail
    refine (l3OpNode_any _ _).mono ?_
    rintro e w4 ⟨rfl, hb4⟩
    replace HO := hide ((unhide HO).keep hb4); replace HB := hide ((unhide HB).trans (hb4.mono (unhide HB).size))
    clear hb4
    go_wp2_with fail
    refine (l3OpNode_any _ _).mono ?_
    rintro e w4 ⟨rfl, hb4⟩
    replace HO := hide ((unhide HO).keep hb4); replace HB := hide ((unhide HB).trans (hb4.mono (unhide HB).size))
    clear hb4
    have HN : Hid (Blk _ _ 41 (nC (nOp 2) ++ nC (nOp 2))) := hide (Blk.new w4 41 (nC (nOp 2) ++ nC (nOp 2)).toArray)
    have HS := hide ((Below.refl w4.heap.size w4).alloc (Nat.le_refl _) (.cells (nC (nOp 2) ++ nC (nOp 2)).toArray 41))
    replace HO := hide ((unhide HO).keep (unhide HS)); replace HB := hide ((unhide HB).trans ((unhide HS).mono (unhide HB).size))
    go_wp2_with (at_builtin; refine append_two rfl _ _ rfl rfl (unhide HO) rfl (unhide HN) (by omega) (unhide HB).size ?_)
    intro v2 W2 ho hb9
    have HOZ := hide ho; have HBZ := hide ((unhide HB).trans hb9)
    clear ho hb9 HN HS
    go_wp2_with fail
    go_ret
    exact ⟨_, rfl, unhide HOZ, unhide HBZ⟩
  · clear HX
    have HE := hide hE; have HSs := hide s1; have HTt := hide t1
    rw [show [⟨0, ⟨3, 0, s⟩, ⟨#[]⟩⟩] ++ [⟨0, ⟨3, 0, t⟩, ⟨#[]⟩⟩, nOp 9] ++ [⟨0, ⟨3, 0, t⟩, ⟨#[]⟩⟩, nOp 9] ++ [⟨0, ⟨3, 0, t⟩, ⟨#[]⟩⟩, nOp 9] = wdL s t 3 from rfl] at HE
    clear hE s1 t1
    go_wp2_with fail
    refine (unhide HSs _).mono ?_
    rintro e w' ⟨rfl, hw'⟩
    subst hw'
    go_wp2_with fail
    refine (l2Text_any _ _).mono ?_
    rintro e w4 ⟨rfl, hb4⟩
    replace HB := hide ((unhide HB).trans hb4)
    clear hb4
    go_wp2_with fail
    refine (l3Const_any _ _ _ _).mono ?_
    rintro e w4 ⟨rfl, hb4⟩
    replace HB := hide ((unhide HB).trans (hb4.mono (unhide HB).size))
    clear hb4
    have HO1 := hide ((OwnN.lone w4 ⟨0, ⟨3, 0, s⟩, ⟨#[]⟩⟩).low (unhide HB).size)
    have HS := hide ((Below.refl w4.heap.size w4).alloc (Nat.le_refl _) (.cells (nC ⟨0, ⟨3, 0, s⟩, ⟨#[]⟩⟩).toArray 41))
    replace HB := hide ((unhide HB).trans ((unhide HS).mono (unhide HB).size))
    clear HS
    go_wp2_with fail
    go_loopw [7, 8] (fun v i wr => ∃ j : Nat, j ≤ 3 ∧ i = .int .i64 ((j + 1 : Nat) : Int) ∧ OwnN wr w'.heap.size v (wdL s t j) ∧ Below w'.heap.size w' wr) (fun _ i _ => 5 - (intOf i).toNat)
    case atStart => exact ⟨0, Nat.zero_le _, rfl, unhide HO1, unhide HB⟩
    case round =>
      clear HO1 HB
      obtain ⟨j, hj, rfl, ho, hb⟩ := hrel
      obtain ⟨a1, k1, rfl, n1⟩ := ho.nods
      have HO := hide ho; have HB := hide hb; have HN1 := hide n1; have HLj := hide (wdL_len s t j)
      clear ho hb n1
      by_cases h3 : j < 3
      · have h3' : ((j + 1 : Nat) : Int) < 4 := by omega
        have h3'' : (j : Int) + 1 < 4 := by omega
        go_wp2_with fail
        refine (unhide HTt _).mono ?_
        rintro e wr' ⟨rfl, hw'⟩
        subst hw'
        go_wp2_with fail
        refine (l2Text_any _ _).mono ?_
        rintro e w4 ⟨rfl, hb4⟩
        replace HN1 := hide ((unhide HN1).mono hb4); replace HB := hide ((unhide HB).trans (hb4.mono (unhide HB).size))
        clear hb4
        go_wp2_with fail
        refine (l3Const_any _ _ _ _).mono ?_
        rintro e w4 ⟨rfl, hb4⟩
        replace HN1 := hide ((unhide HN1).mono hb4); replace HB := hide ((unhide HB).trans (hb4.mono (unhide HB).size))
        clear hb4
        go_wp2_with fail
        refine (l3OpNode_any _ _).mono ?_
        rintro e w4 ⟨rfl, hb4⟩
        replace HN1 := hide ((unhide HN1).mono hb4); replace HB := hide ((unhide HB).trans (hb4.mono (unhide HB).size))
        clear hb4
        have HO2 := hide (OwnN.two w4 ⟨0, ⟨3, 0, t⟩, ⟨#[]⟩⟩ (nOp 9))
        have HS := hide ((Below.refl w4.heap.size w4).alloc (Nat.le_refl _) (.cells (nC ⟨0, ⟨3, 0, t⟩, ⟨#[]⟩⟩ ++ nC (nOp 9)).toArray 41))
        replace HN1 := hide ((unhide HN1).mono (unhide HS)); replace HB := hide ((unhide HB).trans ((unhide HS).mono (unhide HB).size))
        obtain ⟨a2, k2, hv2, n2⟩ := (unhide HO2).nods
        cases hv2
        have HN2 := hide n2
        clear n2 HO2
        go_wp2_with fail
        refine (l3Join_any a1 _ k1 _ (wdL s t j) [⟨0, ⟨3, 0, t⟩, ⟨#[]⟩⟩, nOp 9] _ (by have := unhide HLj; simp only [List.length_cons, List.length_nil]; omega) (unhide HN1) (unhide HN2)).mono ?_
        rintro e w5 ⟨v5, rfl, ho5, hb5⟩
        have HO5 := hide (ho5.low (unhide HB).size); replace HB := hide ((unhide HB).trans (hb5.mono (unhide HB).size))
        clear ho5 hb5
        go_wp2_with fail
        go_roundw
        case rel => exact ⟨j + 1, by omega, by go_num, unhide HO5, unhide HB⟩
        case measure => simp [intOf]; omega
      · obtain rfl : j = 3 := by omega
        go_wp2_with fail
        go_ret
        exact ⟨_, rfl, by rw [unhide HE]; exact unhide HO, unhide HB⟩
end Go.Proofs.YtjgngbmkpiihgaaGreatDoor

/- The model draws an expression to be printed: the common case. -/
namespace Go.Proofs.YtjgngbmkpiihgaaGreatDoor
open Go Go.RowKit

set_option maxRecDepth 100000 in
set_option maxHeartbeats 8000000 in
theorem drawPrint_gen (len : Nat) (f : Nat → Nat) (hlen : len ≤ 1048576) (w : World) (a : Option Addr) (c : Nat) (hby : Byts w a len f) (h9 : tkD len f 0 10 ≠ 9) (e l : List Nx) (q : Nat) (hG : GenE len f (min (2 + len / 12) 5) 2 (((tkD len f 1 3 : Nat) : Int) + 1) l q)
    (hX : (tkD len f 0 10 < 7 ∧ e = l) ∨ (7 ≤ tkD len f 0 10 ∧ MutX (tkD len f q 9) (tkD len f (q + 1) l.length) l e)) :
    Calls Tryz.prog 5 #[.slice a len c] w (NodOut w e) := by
  obtain ⟨H, hH⟩ : ∃ H, tkD len f 0 10 = H := ⟨_, rfl⟩
  obtain ⟨K, hK⟩ : ∃ K, tkD len f 1 3 = K := ⟨_, rfl⟩
  obtain ⟨d, hd⟩ : ∃ d, min (2 + len / 12) 5 = d := ⟨_, rfl⟩
  have hd5 : d ≤ 5 := by rw [← hd]; exact Nat.min_le_right _ _
  have hp4 : 4 ^ d ≤ 4 ^ 5 := Nat.pow_le_pow_right (by omega) hd5
  have hH10 : H < 10 := by rw [← hH]; exact tk_lt hlen (by omega) (by omega) (by omega)
  have hK3 : K < 3 := by rw [← hK]; exact tk_lt hlen (by omega) (by omega) (by omega)
  rw [hK, hd] at hG
  rw [hH] at hX h9
  obtain ⟨g1, g2, g3, g4, g5, hC⟩ := hG
  have hq : q ≤ 3074 := by omega
  have hl : l.length ≤ 1024 := by omega
  have HBy := hide hby; have HH := hide hH; have HK := hide hK; have HX := hide hX; have HC := hide hC; have HF := hide g1
  have HSz := hide (fun w => l1Size_any len 12 2 5 a c w hlen (by omega) (by omega) (by omega) (by omega))
  rw [hd] at HSz
  have n9 : ((H : Int) == 9) = false := beq_eq_false_iff_ne.2 (by omega)
  clear hby hH hK hd hX hC g1 g3 g4 g5 hp4
  go_enter Tryz.func5, Tryz.ntmps5
  go_wp2_with fail
  refine (tk_call (p := 0) (n := 10) hlen (by omega) (by omega) (by omega) c (unhide HBy) rfl rfl).mono ?_
  rintro e w' ⟨rfl, hw'⟩
  subst hw'
  rw [unhide HH]
  go_wp2_with fail
  refine (tk_call (p := 1) (n := 3) hlen (by omega) (by omega) (by omega) c (unhide HBy) rfl rfl).mono ?_
  rintro e w' ⟨rfl, hw'⟩
  subst hw'
  rw [unhide HK]
  go_wp2_with fail
  refine (l3SomeNames_any _).mono ?_
  rintro e w1 ⟨pv, rfl, hpk, hb1⟩
  have HPk := hide hpk; have HB := hide hb1
  replace HBy := hide ((unhide HBy).mono hb1)
  clear hpk hb1
  go_wp2_with fail
  refine (unhide HSz _).mono ?_
  rintro e w1 ⟨rfl, hw1⟩
  subst hw1
  go_wp2_with fail
  refine (unhide HC _ a c pv (unhide HBy) (unhide HPk)).mono ?_
  rintro e w2 ⟨v, rfl, ho, hb2⟩
  have HO := hide (ho.low (unhide HB).size)
  replace HBy := hide ((unhide HBy).mono hb2); replace HB := hide ((unhide HB).trans (hb2.mono (unhide HB).size))
  clear ho hb2 HC HPk HSz
  rcases unhide HX with ⟨h7, rfl⟩ | ⟨h7, hMX⟩
  · have h7' : ¬ (7 : Int) ≤ H := by omega
    go_wp2_with fail
    go_ret
    exact ⟨_, rfl, unhide HO, unhide HB⟩
  · have h7' : (7 : Int) ≤ H := by omega
    obtain ⟨x, hx⟩ : ∃ x, tkD len f q 9 = x := ⟨_, rfl⟩
    obtain ⟨t, ht⟩ : ∃ t, tkD len f (q + 1) l.length = t := ⟨_, rfl⟩
    rw [hx, ht] at hMX
    obtain ⟨hat, hM⟩ := hMX
    have HQ : Hid ((q : Int) + 1 = ((q + 1 : Nat) : Int)) := hide (by omega)
    obtain ⟨gv, cv, rfl, hgb, hgl, hcell, hrd, hput⟩ := (unhide HO).put (by omega)
    have Hx := hide hx; have Ht := hide ht; have HM := hide hM
    have HCe := hide hcell; have HRd := hide hrd; have HPu := hide hput
    clear hx ht hM HX hcell hrd hput
    go_wp2_with fail
    refine (tk_call (p := q) (n := 9) hlen (by omega) (by omega) (by omega) c (unhide HBy) rfl rfl).mono ?_
    rintro e w' ⟨rfl, hw'⟩
    subst hw'
    rw [unhide Hx]
    go_wp2_with fail
    refine (tk_call (p := q + 1) (n := l.length) hlen (by omega) (by omega) (by omega) c (unhide HBy) (unhide HQ) rfl).mono ?_
    rintro e w' ⟨rfl, hw'⟩
    subst hw'
    rw [unhide Ht]
    have hat' : (t : Int) < l.length := by omega
    obtain ⟨n, hn⟩ : ∃ n, l[t] = n := ⟨_, rfl⟩
    have HN : Hid (nf l t = n) := hide (by rw [nf_get l t hat]; exact hn)
    have HPt := hide (fun p hp => unhide HPu t p hat hp)
    rw [hn] at HM HPt
    obtain ⟨rd0, rd4⟩ := unhide HRd t hat
    rw [unhide HN] at rd0 rd4
    have fz0 := (unhide HCe (t * 5) (by omega)).2
    have fz1 := (unhide HCe (t * 5 + 1) (by omega)).2
    have fz2 := (unhide HCe (t * 5 + 2) (by omega)).2
    have fz3 := (unhide HCe (t * 5 + 3) (by omega)).2
    have fz4 := (unhide HCe (t * 5 + 4) (by omega)).2
    obtain ⟨c1, cc1⟩ := (unhide HCe (t * 5 + 1) (by omega)).1
    obtain ⟨c2, cc2⟩ := (unhide HCe (t * 5 + 2) (by omega)).1
    obtain ⟨c3, cc3⟩ := (unhide HCe (t * 5 + 3) (by omega)).1
    have hop : FitS n := by rw [← hn]; exact unhide HF _ (List.getElem_mem hat)
    have o1 : 0 ≤ n.op := hop.2.2.1.1
    have o2 : n.op ≤ 25 := hop.2.2.1.2
    have o3 : n.nm.size ≤ 64 := hop.2.1
    have HNt := hide hn
    clear hop hn
    rcases unhide HM with ⟨rfl, rfl⟩ | ⟨rfl, rfl⟩ | ⟨rfl, rfl⟩ | ⟨rfl, rfl⟩ | ⟨rfl, rfl⟩ | ⟨rfl, rfl⟩ | ⟨rfl, rfl⟩ | ⟨rfl, rfl⟩ | ⟨rfl, rfl⟩
    · clear HM
      go_wp2_with fail
      go_ret
      exact ⟨_, rfl, unhide HPt 0 (by omega) ⟨n.op + 1, n.v, n.nm⟩ _ rfl, (unhide HB).setCell hgb _⟩
    · clear HM
      go_wp2_with fail
      go_ret
      exact ⟨_, rfl, unhide HPt 4 (by omega) ⟨n.op, n.v, n.nm ++ ⟨#[88]⟩⟩ _ rfl, (unhide HB).setCell hgb _⟩
    · clear HM
      go_wp2_with fail
      go_ret
      exact ⟨_, rfl, unhide HPt 2 (by omega) ⟨n.op, ⟨n.v.k, -1, n.v.s⟩, n.nm⟩ _ rfl, (unhide HB).setCell hgb _⟩
    · clear HM rd0 rd4 fz0 fz1 fz2 fz3 fz4 cc1 cc2 cc3 HPt HPu HCe HRd
      go_wp2_with fail
      refine (l3OpNode_any _ _).mono ?_
      rintro e w4 ⟨rfl, hb4⟩
      replace HO := hide ((unhide HO).keep hb4); replace HB := hide ((unhide HB).trans (hb4.mono (unhide HB).size))
      clear hb4
      have HN4 : Hid (Blk _ _ 41 (nC (nOp 7))) := hide (Blk.new w4 41 (nC (nOp 7)).toArray)
      have HS := hide ((Below.refl w4.heap.size w4).alloc (Nat.le_refl _) (.cells (nC (nOp 7)).toArray 41))
      replace HO := hide ((unhide HO).keep (unhide HS)); replace HB := hide ((unhide HB).trans ((unhide HS).mono (unhide HB).size))
      go_wp2_with (at_builtin; refine append_node rfl _ _ rfl rfl (unhide HO) rfl (unhide HN4) (by omega) (unhide HB).size ?_)
      intro v2 W2 ho hb9
      have HOZ := hide ho; have HBZ := hide ((unhide HB).trans hb9)
      clear ho hb9 HN4 HS
      go_wp2_with fail
      go_ret
      exact ⟨_, rfl, unhide HOZ, unhide HBZ⟩
    · clear HM rd0 rd4 fz0 fz1 fz2 fz3 fz4 cc1 cc2 cc3 HPt HPu HCe HRd
      go_wp2_with fail
      refine (l2Bool_any _ _).mono ?_
      rintro e w4 ⟨rfl, hb4⟩
      replace HO := hide ((unhide HO).keep hb4); replace HB := hide ((unhide HB).trans (hb4.mono (unhide HB).size))
      clear hb4
      go_wp2_with fail
      refine (l3Const_any _ _ _ _).mono ?_
      rintro e w4 ⟨rfl, hb4⟩
      replace HO := hide ((unhide HO).keep hb4); replace HB := hide ((unhide HB).trans (hb4.mono (unhide HB).size))
      clear hb4
      have HN4 : Hid (Blk _ _ 41 (nC (⟨0, ⟨2, 1, ⟨#[]⟩⟩, ⟨#[]⟩⟩))) := hide (Blk.new w4 41 (nC (⟨0, ⟨2, 1, ⟨#[]⟩⟩, ⟨#[]⟩⟩)).toArray)
      have HS := hide ((Below.refl w4.heap.size w4).alloc (Nat.le_refl _) (.cells (nC (⟨0, ⟨2, 1, ⟨#[]⟩⟩, ⟨#[]⟩⟩)).toArray 41))
      replace HO := hide ((unhide HO).keep (unhide HS)); replace HB := hide ((unhide HB).trans ((unhide HS).mono (unhide HB).size))
      go_wp2_with (at_builtin; refine append_node rfl _ _ rfl rfl (unhide HO) rfl (unhide HN4) (by omega) (unhide HB).size ?_)
      intro v2 W2 ho hb9
      have HOZ := hide ho; have HBZ := hide ((unhide HB).trans hb9)
      clear ho hb9 HN4 HS
      go_wp2_with fail
      go_ret
      exact ⟨_, rfl, unhide HOZ, unhide HBZ⟩
    · clear HM rd0 rd4 fz0 fz1 fz2 fz3 fz4 cc1 cc2 cc3
      go_wp2_with fail
      refine (l2Err_e _ _).mono ?_
      rintro e w4 ⟨rfl, hb4⟩
      replace HO := hide ((unhide HO).keep hb4); replace HB := hide ((unhide HB).trans (hb4.mono (unhide HB).size))
      obtain ⟨q1, q2⟩ := bcell hb4
      have fz1 := (q2 gv (t * 5 + 1) hgl).trans (unhide HCe (t * 5 + 1) (by omega)).2
      have fz2 := (q2 gv (t * 5 + 2) hgl).trans (unhide HCe (t * 5 + 2) (by omega)).2
      have fz3 := (q2 gv (t * 5 + 3) hgl).trans (unhide HCe (t * 5 + 3) (by omega)).2
      clear hb4 q1 q2
      obtain ⟨g', c', e', -, -, hcell, -, -⟩ := (unhide HO).put (by omega)
      cases e'
      obtain ⟨c1, cc1⟩ := (hcell (t * 5 + 1) (by omega)).1
      obtain ⟨c2, cc2⟩ := (hcell (t * 5 + 2) (by omega)).1
      obtain ⟨c3, cc3⟩ := (hcell (t * 5 + 3) (by omega)).1
      clear hcell
      go_wp2_with fail
      go_ret
      exact ⟨_, rfl, by have := (unhide HO).put3 hat 4 1 ⟨#[]⟩; rw [unhide HNt] at this; exact this, (((unhide HB).setCell hgb _).setCell hgb _).setCell hgb _⟩
    · clear HM
      go_wp2_with fail
      go_ret
      exact ⟨_, rfl, unhide HPt 4 (by omega) ⟨n.op, n.v, ⟨#[97, 110, 100]⟩⟩ _ rfl, (unhide HB).setCell hgb _⟩
    · clear HM
      go_wp2_with fail
      go_ret
      exact ⟨_, rfl, unhide HPt 0 (by omega) ⟨26 + (t : Int) % 2 * (-27), n.v, n.nm⟩ _ rfl, (unhide HB).setCell hgb _⟩
    · clear HM
      go_wp2_with fail
      go_ret
      exact ⟨_, rfl, (OwnN.none _).low (unhide HB).size, (unhide HB).alloc (unhide HB).size _⟩
/-- Whatever the bytes are, one list is drawn. -/
theorem drawPrint_ex (len : Nat) (f : Nat → Nat) (hlen : len ≤ 1048576) : ∃ e : List Nx, (∀ n, n ∈ e → Fit n) ∧ e.length ≤ 4096 ∧ ∀ (w : World) (a : Option Addr) (c : Nat), Byts w a len f → Calls Tryz.prog 5 #[.slice a len c] w (NodOut w e) := by
  obtain ⟨e, hX, hF, hL⟩ := draw_ex len f hlen
  refine ⟨e, hF, hL, fun w a c hby => ?_⟩
  rcases hX with ⟨h9, hX⟩ | ⟨h9, l, q, hG, hX⟩
  · exact drawPrint_lim len f hlen w a c hby h9 e hL hX
  · exact drawPrint_gen len f hlen w a c hby h9 e l q hG hX
end Go.Proofs.YtjgngbmkpiihgaaGreatDoor
