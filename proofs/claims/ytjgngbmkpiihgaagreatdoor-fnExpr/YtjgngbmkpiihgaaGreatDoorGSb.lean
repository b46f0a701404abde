import Derived.Test.YtjgngbmkpiihgaaGreatDoorGSa
import Derived.Test.YtjgngbmkpiihgaaGreatDoorGSh
import Derived.Test.YtjgngbmkpiihgaaGreatDoorGHn
/- The model prints an expression. -/
namespace Go.Proofs.YtjgngbmkpiihgaaGreatDoor
open Go Go.RowKit

theorem jt_snoc (l : List ByteArray) (x : ByteArray) : jt (l ++ [x]) = jt l ++ (⟨#[44, 32]⟩ ++ x) := by
  induction l with
  | nil => show ⟨#[44, 32]⟩ ++ x ++ ByteArray.empty = ByteArray.empty ++ (⟨#[44, 32]⟩ ++ x); rw [ByteArray.append_empty, ByteArray.empty_append]
  | cons y r ih => simp only [List.cons_append, jt, ih, ByteArray.append_assoc]
theorem jn_snoc (l : List ByteArray) (x : ByteArray) (h : l ≠ []) : jn (l ++ [x]) = jn l ++ ⟨#[44, 32]⟩ ++ x := by
  cases l with
  | nil => exact absurd rfl h
  | cons y r => simp only [List.cons_append, jn, jt_snoc, ByteArray.append_assoc]
/-- What every call of the printer can lean on. -/
structure PrOk (a : Option Addr) (m : Nat) (e : Nat → Nx) (n : Nat) (w : World) : Prop where
  nods : Nods w a m e
  st : stkOk e n
  ok : okAll e n
  fit : ∀ k, k < n → Fit (e k)
theorem PrOk.mono {a : Option Addr} {m : Nat} {e : Nat → Nx} {n : Nat} {w w' : World} (h : PrOk a m e n w) (hb : Below w.heap.size w w') : PrOk a m e n w' := ⟨h.nods.mono hb, h.st, h.ok, h.fit⟩
theorem PrOk.le {a : Option Addr} {m : Nat} {e : Nat → Nx} {n k : Nat} {w : World} (h : PrOk a m e n w) (hk : k ≤ n) : PrOk a m e k w := ⟨h.nods, h.st.le hk, h.ok.le hk, fun j hj => h.fit j (by omega)⟩
theorem PrOk.tot {a : Option Addr} {m : Nat} {e : Nat → Nx} {n : Nat} {w : World} (h : PrOk a m e n w) : tot (pst e n) ≤ 1100 * n := (tot_pst e n h.st h.ok (fun k hk => (h.fit k hk).2.2.2)).2
theorem PrOk.top {a : Option Addr} {m : Nat} {e : Nat → Nx} {n : Nat} {w : World} (h : PrOk a m e n w) (hn : 1 ≤ n) : (top e n).t.size ≤ 1100 * n := Nat.le_trans (tot_mem (top_mem e hn)) h.tot
/-- The contract of the printer at one place. -/
def Prints (a : Option Addr) (m c : Nat) (e : Nat → Nx) (en : Nat) : Prop := ∀ w : World, PrOk a m e en w →
  Calls Tryz.prog 31 #[.slice a m c, .int .i64 en] w fun r w' => r = .returned (.string (top e en).t) ∧ Below w.heap.size w w'

set_option maxRecDepth 100000 in
set_option maxHeartbeats 4000000 in
theorem l3Wrap_of (a : Option Addr) (m c : Nat) (e : Nat → Nx) (n : Nat) (l : Int) (w : World) (hm : m ≤ 1000) (hn : n + 1 ≤ m) (hp : Prints a m c e (n + 1)) (h : PrOk a m e (n + 1) w) :
    Calls Tryz.prog 54 #[.slice a m c, .int .i64 ((n + 1 : Nat) : Int), .int .i64 l] w fun r w' => r = .returned (.string (wrap l (top e (n + 1)))) ∧ Below w.heap.size w w' := by
  have hw0 : wrap64 (((n + 1 : Nat) : Int) - 1) = (n : Int) := by rw [wrap64_small (by omega) (by omega)]; omega
  have hnm : (n : Int) < m := by omega
  have hsz := h.top (by omega)
  have HO := hide h
  have HW : Hid (wrap l (top e (n + 1)) = if lvl (e n).op < l then ⟨#[40]⟩ ++ (top e (n + 1)).t ++ ⟨#[41]⟩ else (top e (n + 1)).t) := hide rfl
  clear h
  go_enter Tryz.func54, Tryz.ntmps54
  go_wp2_with fail
  refine (hp _ (unhide HO)).mono ?_
  rintro r w1 ⟨rfl, hb⟩
  have HB := hide hb
  replace HO := hide ((unhide HO).mono hb)
  clear hb
  obtain ⟨b, o, rfl, -, z0, z1, z2, z3, z4⟩ := (unhide HO).nods n (by omega)
  generalize (top e (n + 1)).t = t at *
  go_wp2_with fail
  refine (l3Level_any _ _).mono ?_
  rintro r w2 ⟨rfl, hw⟩
  replace hw := hw.symm; subst hw
  generalize lvl (e n).op = q at *
  clear z0 z1 z2 z3 z4
  by_cases hq : q < l
  · go_wp2_with fail
    go_ret
    exact ⟨ret_str (by rw [unhide HW, if_pos hq]), unhide HB⟩
  · go_wp2_with fail
    go_ret
    exact ⟨ret_str (by rw [unhide HW, if_neg (by omega)]), unhide HB⟩
end Go.Proofs.YtjgngbmkpiihgaaGreatDoor

/- The model prints an expression: the whole. -/
namespace Go.Proofs.YtjgngbmkpiihgaaGreatDoor
open Go Go.RowKit

theorem phT_top (e : Nat → Nx) (n : Nat) : (top e (n + 1)).t = phT (e n) ((argsOf e n).map (top e)) := by rw [top_succ, argsOf_map]; rfl
theorem arg_get {l : List Nat} {i : Nat} (h : i < l.length) : l.getD i 0 = l[i] := by rw [List.getD_eq_getElem?_getD, List.getElem?_eq_getElem h]; rfl

theorem tot_take (a : List Ph) (k : Nat) : tot (a.take k) ≤ tot a := by
  have : tot a = tot (a.take k) + tot (a.drop k) := by rw [← tot_append, List.take_append_drop]
  omega
theorem tot_args (e : Nat → Nx) (n : Nat) : tot ((argsOf e n).map (top e)) ≤ tot (pst e n) := by rw [argsOf_map, tot_reverse]; exact tot_take _ _
/-- A function's text as far as its first k arguments. -/
def fnT (e : Nat → Nx) (n k : Nat) : ByteArray := wrd (e n).op ++ ⟨#[40]⟩ ++ jn ((((argsOf e n).take k).map (top e)).map (·.t))
theorem fnT_zero (e : Nat → Nx) (n : Nat) : fnT e n 0 = wrd (e n).op ++ ⟨#[40]⟩ := by
  unfold fnT; rw [List.take_zero]; show _ ++ _ ++ ByteArray.empty = _; rw [ByteArray.append_empty]
theorem fnT_one (e : Nat → Nx) (n : Nat) (h : 0 < (argsOf e n).length) : fnT e n 1 = fnT e n 0 ++ (top e (argsOf e n)[0]).t := by
  rw [fnT_zero]
  unfold fnT
  rw [List.take_succ_eq_append_getElem h, List.take_zero]
  show _ ++ _ ++ ((top e (argsOf e n)[0]).t ++ ByteArray.empty) = _
  rw [ByteArray.append_empty]
theorem fnT_succ (e : Nat → Nx) (n k : Nat) (h0 : 0 < k) (h : k < (argsOf e n).length) : fnT e n (k + 1) = fnT e n k ++ ⟨#[44, 32]⟩ ++ (top e (argsOf e n)[k]).t := by
  unfold fnT
  rw [List.take_succ_eq_append_getElem h, List.map_append, List.map_append]
  show _ ++ _ ++ jn (_ ++ [_]) = _
  rw [jn_snoc _ _ (by
    intro hc
    have := congrArg List.length hc
    simp only [List.length_map, List.length_take, List.length_nil] at this
    omega)]
  simp only [ByteArray.append_assoc]
theorem fnT_size (e : Nat → Nx) (n k : Nat) (h0 : 2 ≤ (e n).op) (h1 : (e n).op ≤ 25) : (fnT e n k).size ≤ tot (pst e n) + 2 * k + 8 := by
  have hw := wrd_size h0 h1
  have hj := (jn_size (((argsOf e n).take k).map (top e))).2
  have ht := tot_take ((argsOf e n).map (top e)) k
  rw [← List.map_take] at ht
  have ha := tot_args e n
  have hl : (((argsOf e n).take k).map (top e)).length ≤ k := by rw [List.length_map]; exact List.length_take_le _ _
  unfold fnT
  simp only [ByteArray.size_append, bsz, List.size_toArray, List.length_cons, List.length_nil]
  omega
theorem lvl_bd (op : Int) : 1 ≤ lvl op ∧ lvl op ≤ 7 := by
  unfold lvl
  (repeat' split) <;> omega
theorem lvl_in {op : Int} (h : lvl op = 7) (h0 : 2 ≤ op) : 16 ≤ op := by
  refine Decidable.byContradiction fun hc => ?_
  have : op = 2 ∨ op = 3 ∨ op = 4 ∨ op = 5 ∨ op = 6 ∨ op = 7 ∨ op = 8 ∨ op = 9 ∨ op = 10 ∨ op = 11 ∨ op = 12 ∨ op = 13 ∨ op = 14 ∨ op = 15 := by omega
  rcases this with rfl | rfl | rfl | rfl | rfl | rfl | rfl | rfl | rfl | rfl | rfl | rfl | rfl | rfl <;> exact absurd h (by decide)

set_option maxRecDepth 100000 in
set_option maxHeartbeats 8000000 in
theorem l3Print_any (a : Option Addr) (m c : Nat) (e : Nat → Nx) (hm : m ≤ 1000) (F : Nat) : ∀ en : Nat, en ≤ F → 1 ≤ en → en ≤ m → Prints a m c e en := by
  induction F with
  | zero => intro en h0 h1; omega
  | succ F ih =>
    intro en hF h1 h2 w h
    obtain ⟨n, rfl⟩ : ∃ n, en = n + 1 := ⟨en - 1, by omega⟩
    have HI := hide ih
    have hw0 : wrap64 (((n + 1 : Nat) : Int) - 1) = (n : Int) := by rw [wrap64_small (by omega) (by omega)]; omega
    have hnm : (n : Int) < m := by omega
    have hsz := h.top (by omega)
    have HT := hide (phT_top e n)
    have hok := h.ok n (by omega)
    have hft := h.fit n (by omega)
    have hal := h.st n (by omega)
    have hargs := argsOf_len hal
    have HM : Hid (∀ p, p ∈ argsOf e n → 1 ≤ p ∧ p ≤ n) := hide fun p hp => argsOf_mem hp
    have HO := hide h
    obtain ⟨b, o, rfl, -, z0, z1, z2, z3, z4⟩ := h.nods n (by omega)
    obtain ⟨W1, hW1⟩ : ∃ W1, w.alloc (.cells #[.int .i64 (e n).op, .int .i64 (e n).v.k, .int .i64 (e n).v.n, .string (e n).v.s, .string (e n).nm] 41) = W1 := ⟨_, rfl⟩
    have HK := hide (Blk.new w 41 #[.int .i64 (e n).op, .int .i64 (e n).v.k, .int .i64 (e n).v.n, .string (e n).v.s, .string (e n).nm])
    have HB := hide ((Below.refl w.heap.size w).alloc (Nat.le_refl _) (.cells #[.int .i64 (e n).op, .int .i64 (e n).v.k, .int .i64 (e n).v.n, .string (e n).v.s, .string (e n).nm] 41))
    rw [hW1] at HK HB
    have HO1 := hide ((unhide HO).mono (unhide HB))
    clear ih h
    rcases ops2 (e n).op with h | h | ⟨h, h'⟩
    · have HX : Hid ((top e (n + 1)).t = showB (e n).v.k (e n).v.n (e n).v.s) := hide (by rw [unhide HT, phT, if_pos h])
      rw [h] at z0 hW1 HK
      obtain ⟨y0, y1, y2, y3, y4⟩ := five (unhide HK)
      clear h
      go_enter Tryz.func31, Tryz.ntmps31
      go_wp2_with fail
      refine (specShow_any _ _ _ _ hft.1 hft.2.2.1 hft.2.2.2).mono ?_
      rintro r w2 ⟨rfl, hb⟩
      replace HB := hide ((unhide HB).trans (hb.mono (unhide HB).size))
      clear hb
      go_wp2_with fail
      go_ret
      exact ⟨ret_str (unhide HX).symm, unhide HB⟩
    · have HX : Hid ((top e (n + 1)).t = (e n).nm) := hide (by rw [unhide HT, phT, if_neg (by omega), if_pos h])
      rw [h] at z0 hW1 HK
      obtain ⟨y0, y1, y2, y3, y4⟩ := five (unhide HK)
      clear h
      go_enter Tryz.func31, Tryz.ntmps31
      go_wp2_with fail
      go_ret
      exact ⟨ret_str (unhide HX).symm, unhide HB⟩
    · have hop : 2 ≤ (e n).op ∧ (e n).op ≤ 25 := by
        rw [okNode2 h h'] at hok
        simp only [Bool.and_eq_true, decide_eq_true_eq] at hok
        exact hok.1.1
      have n0 : ((e n).op == 0) = false := beq_eq_false_iff_ne.2 h
      have n1 : ((e n).op == 1) = false := beq_eq_false_iff_ne.2 h'
      have HT' : Hid ((top e (n + 1)).t = (if (e n).op = 2 then ⟨#[45]⟩ ++ wrap 6 (((argsOf e n).map (top e)).getD 0 noPh) else if (e n).op = 3 then ⟨#[110, 111, 116, 32]⟩ ++ wrap 6 (((argsOf e n).map (top e)).getD 0 noPh) else if lvl (e n).op = 7 then wrd (e n).op ++ ⟨#[40]⟩ ++ jn (((argsOf e n).map (top e)).map (·.t)) ++ ⟨#[41]⟩ else wrap (lft (e n).op) (((argsOf e n).map (top e)).getD 0 noPh) ++ ⟨#[32]⟩ ++ wrd (e n).op ++ ⟨#[32]⟩ ++ wrap (lvl (e n).op + 1) (((argsOf e n).map (top e)).getD 1 noPh))) := hide (by rw [unhide HT, phT, if_neg h, if_neg h'])
      obtain ⟨y0, y1, y2, y3, y4⟩ := five (unhide HK)
      clear h h' HT hok hft
      go_enter Tryz.func31, Tryz.ntmps31
      go_wp2_with fail
      refine (l3Args_any _ m c e n _ hm (unhide HO1).nods h2 (unhide HO1).st).mono ?_
      rintro r w2 ⟨a0, c0, rfl, hI, hb⟩
      replace HB := hide ((unhide HB).trans (hb.mono (unhide HB).size)); replace HO1 := hide ((unhide HO1).mono hb); replace HK := hide ((unhide HK).mono hb (unhide HK).lt)
      have HG := hide hI
      clear hb hI y0 y1 y2 y3 y4 hW1 z0 z1 z2 z3 z4
      obtain ⟨y0, y1, y2, y3, y4⟩ := five (unhide HK)
      go_wp2_with fail
      refine (l3Level_any _ _).mono ?_
      rintro r w3 ⟨rfl, hw⟩
      replace hw := hw.symm; subst hw
      by_cases h2' : (e n).op = 2
      · have e1 : arn (e n) = 1 := by unfold arn; rw [ar_one (.inl h2')]; rfl
        rw [e1] at HG hargs ⊢
        obtain ⟨p, hp⟩ := list1 hargs
        have hpm := unhide HM p (by rw [hp]; exact List.mem_cons_self)
        obtain ⟨pn, rfl⟩ : ∃ k, p = k + 1 := ⟨p - 1, by omega⟩
        have HX : Hid ((top e (n + 1)).t = ⟨#[45]⟩ ++ wrap 6 (top e (pn + 1))) := hide (by rw [unhide HT', if_pos h2', hp]; rfl)
        obtain ⟨b1, o1, rfl, -, hc⟩ := unhide HG 0 (by omega)
        simp only [hp, List.getD_cons_zero, Nat.add_zero] at hc
        rw [h2'] at y0 ⊢
        have hs2 := wrap_size 6 (top e (pn + 1))
        have hs3 := ((unhide HO1).le (show pn + 1 ≤ n + 1 by omega)).top (by omega)
        clear HT' n0 n1 hop h2' HG
        go_wp2_with fail
        refine (l3Wrap_of _ m c e pn 6 _ hm (by omega) (unhide HI (pn + 1) (by omega) (by omega) (by omega)) ((unhide HO1).le (by omega))).mono ?_
        rintro r w4 ⟨rfl, hb⟩
        replace HB := hide ((unhide HB).trans (hb.mono (unhide HB).size))
        generalize wrap 6 (top e (pn + 1)) = t at *
        clear hb
        go_wp2_with fail
        go_ret
        exact ⟨ret_str (unhide HX).symm, unhide HB⟩
      by_cases h3' : (e n).op = 3
      · have e1 : arn (e n) = 1 := by unfold arn; rw [ar_one (.inr h3')]; rfl
        rw [e1] at HG hargs ⊢
        obtain ⟨p, hp⟩ := list1 hargs
        have hpm := unhide HM p (by rw [hp]; exact List.mem_cons_self)
        obtain ⟨pn, rfl⟩ : ∃ k, p = k + 1 := ⟨p - 1, by omega⟩
        have HX : Hid ((top e (n + 1)).t = ⟨#[110, 111, 116, 32]⟩ ++ wrap 6 (top e (pn + 1))) := hide (by rw [unhide HT', if_neg h2', if_pos h3', hp]; rfl)
        obtain ⟨b1, o1, rfl, -, hc⟩ := unhide HG 0 (by omega)
        simp only [hp, List.getD_cons_zero, Nat.add_zero] at hc
        rw [h3'] at y0 ⊢
        have hs2 := wrap_size 6 (top e (pn + 1))
        have hs3 := ((unhide HO1).le (show pn + 1 ≤ n + 1 by omega)).top (by omega)
        clear HT' n0 n1 hop h2' h3' HG
        go_wp2_with fail
        refine (l3Wrap_of _ m c e pn 6 _ hm (by omega) (unhide HI (pn + 1) (by omega) (by omega) (by omega)) ((unhide HO1).le (by omega))).mono ?_
        rintro r w4 ⟨rfl, hb⟩
        replace HB := hide ((unhide HB).trans (hb.mono (unhide HB).size))
        generalize wrap 6 (top e (pn + 1)) = t at *
        clear hb
        go_wp2_with fail
        go_ret
        exact ⟨ret_str (unhide HX).symm, unhide HB⟩
      have n2 : ((e n).op == 2) = false := beq_eq_false_iff_ne.2 h2'
      have n3 : ((e n).op == 3) = false := beq_eq_false_iff_ne.2 h3'
      have HT2 : Hid ((top e (n + 1)).t = (if lvl (e n).op = 7 then wrd (e n).op ++ ⟨#[40]⟩ ++ jn (((argsOf e n).map (top e)).map (·.t)) ++ ⟨#[41]⟩ else wrap (lft (e n).op) (((argsOf e n).map (top e)).getD 0 noPh) ++ ⟨#[32]⟩ ++ wrd (e n).op ++ ⟨#[32]⟩ ++ wrap (lvl (e n).op + 1) (((argsOf e n).map (top e)).getD 1 noPh))) := hide (by rw [unhide HT', if_neg h2', if_neg h3'])
      clear HT' n0 n1
      by_cases h7 : lvl (e n).op = 7
      · have h16 := lvl_in h7 hop.1
        have HX : Hid ((top e (n + 1)).t = fnT e n (arn (e n)) ++ ⟨#[41]⟩) := hide (by rw [unhide HT2, if_pos h7, fnT, List.take_of_length_le (by omega)])
        have HF0 := hide (fnT_zero e n)
        have HFS : Hid (∀ k, k ≤ arn (e n) → (fnT e n k).size ≤ 1200000) := hide fun k hk => by
          have := fnT_size e n k hop.1 hop.2
          have := ((unhide HO1).le (show n ≤ n + 1 by omega)).tot
          have := arn_le (e n)
          omega
        have hwsz := wrd_size hop.1 hop.2
        have har := arn_le (e n)
        rw [h7]
        clear HT2 h7
        go_wp2_with fail
        refine (l3FuncName_any _ _ h16 hop.2).mono ?_
        rintro r w4 ⟨rfl, hw⟩
        replace hw := hw.symm; subst hw
        obtain ⟨wd, hwd⟩ : ∃ wd, wrd (e n).op = wd := ⟨_, rfl⟩
        rw [hwd] at HF0 hwsz ⊢
        clear hwd
        go_wp2_with fail
        go_loopw [8, 9] (fun sv i wr => ∃ k : Nat, k ≤ arn (e n) ∧ sv = .string (fnT e n k) ∧ i = .int .i64 k ∧ Below w.heap.size w wr ∧ PrOk (some ⟨b, o, none⟩) m e (n + 1) wr ∧ Ints wr a0 (arn (e n)) (fun k => (((argsOf e n).getD k 0 : Nat) : Int))) (fun _ i _ => arn (e n) - (intOf i).toNat)
        case atStart => exact ⟨0, Nat.zero_le _, by rw [unhide HF0], rfl, unhide HB, unhide HO1, unhide HG⟩
        case round =>
          clear HB HO1 HG HF0 y0 y1 y2 y3 y4
          obtain ⟨k, hk, rfl, rfl, hb, hO, hG⟩ := hrel
          have HB := hide hb; have HO1 := hide hO; have HG := hide hG
          clear hb hO hG
          have hks := unhide HFS k hk
          by_cases hlt : k < arn (e n)
          · have hlt' : (k : Int) < (arn (e n) : Int) := by omega
            obtain ⟨b1, o1, rfl, -, hc⟩ := unhide HG k hlt
            have hkl : k < (argsOf e n).length := by omega
            simp only [arg_get hkl] at hc
            obtain ⟨p, hp⟩ : ∃ p, (argsOf e n)[k] = p := ⟨_, rfl⟩
            have hpm := unhide HM _ (List.getElem_mem hkl)
            have HS : Hid (fnT e n (k + 1) = (if k = 0 then fnT e n k else fnT e n k ++ ⟨#[44, 32]⟩) ++ (top e p).t) := hide (by
              by_cases hk0 : k = 0
              · subst hk0; rw [if_pos rfl, fnT_one e n (by omega), hp]
              · rw [if_neg hk0, fnT_succ e n k (by omega) hkl, hp])
            rw [hp] at hc hpm
            clear hp
            have hs3 := ((unhide HO1).le (show p ≤ n + 1 by omega)).top (by omega)
            obtain ⟨q, hq⟩ : ∃ q, fnT e n k = q := ⟨_, rfl⟩
            rw [hq] at HS hks ⊢
            clear hq
            by_cases hk0 : k = 0
            · subst hk0
              rw [if_pos rfl] at HS
              simp only [Nat.add_zero] at hc
              rw [show ((0 : Nat) : Int) = (0 : Int) from rfl]
              have hlt2 : (0 : Int) < (arn (e n) : Int) := by omega
              clear hlt'
              go_wp2_with fail
              refine (unhide HI p (by omega) (by omega) (by omega) _ ((unhide HO1).le (by omega))).mono ?_
              rintro r w5 ⟨rfl, hb⟩
              replace HB := hide ((unhide HB).trans (hb.mono (unhide HB).size)); replace HO1 := hide ((unhide HO1).mono hb); replace HG := hide ((unhide HG).mono hb)
              generalize (top e p).t = t at *
              clear hb hc
              go_wp2_with fail
              go_roundw
              case rel => first | exact ⟨1, by omega, by rw [unhide HS], rfl, unhide HB, unhide HO1, unhide HG⟩ | ((repeat apply Exists.intro); exact ⟨⟨1, by omega, by rw [unhide HS], rfl, unhide HB, unhide HO1, unhide HG⟩, rfl⟩)
              case measure => simp [intOf]; omega
            · rw [if_neg hk0] at HS
              have hk1 : (0 : Int) < k := by omega
              go_wp2_with fail
              refine (unhide HI p (by omega) (by omega) (by omega) _ ((unhide HO1).le (by omega))).mono ?_
              rintro r w5 ⟨rfl, hb⟩
              replace HB := hide ((unhide HB).trans (hb.mono (unhide HB).size)); replace HO1 := hide ((unhide HO1).mono hb); replace HG := hide ((unhide HG).mono hb)
              generalize (top e p).t = t at *
              clear hb hc
              have hq2 : (q ++ (⟨#[44, 32]⟩ : ByteArray)).size = q.size + 2 := by rw [ByteArray.size_append]; rfl
              obtain ⟨q2, hq3⟩ : ∃ q2, q ++ (⟨#[44, 32]⟩ : ByteArray) = q2 := ⟨_, rfl⟩
              rw [hq3] at HS hq2 ⊢
              clear hq3
              go_wp2_with fail
              go_roundw
              case rel => first | exact ⟨k + 1, by omega, by rw [unhide HS], by go_num, unhide HB, unhide HO1, unhide HG⟩ | ((repeat apply Exists.intro); exact ⟨⟨k + 1, by omega, by rw [unhide HS], by go_num, unhide HB, unhide HO1, unhide HG⟩, rfl⟩)
              case measure => simp [intOf]; omega
          · obtain rfl : k = arn (e n) := by omega
            have hlt' : ¬ ((arn (e n) : Nat) : Int) < (arn (e n) : Int) := by omega
            generalize fnT e n (arn (e n)) = q at *
            go_wp2_with fail
            go_ret
            exact ⟨ret_str (unhide HX).symm, unhide HB⟩
      · have e2 : arn (e n) = 2 := by unfold arn; rw [ar_two hop.1 hop.2 h7 h2' h3']; rfl
        have hop15 : 4 ≤ (e n).op ∧ (e n).op ≤ 15 := by
          refine ⟨by omega, ?_⟩
          refine Decidable.byContradiction fun hc => h7 (lvl_out (by omega))
        rw [e2] at HG hargs ⊢
        obtain ⟨p, q, hp⟩ := list2 hargs
        have hpm := unhide HM p (by rw [hp]; exact List.mem_cons_self)
        have hqm := unhide HM q (by rw [hp]; exact List.mem_cons_of_mem _ List.mem_cons_self)
        obtain ⟨pn, rfl⟩ : ∃ k, p = k + 1 := ⟨p - 1, by omega⟩
        obtain ⟨qn, rfl⟩ : ∃ k, q = k + 1 := ⟨q - 1, by omega⟩
        have HX : Hid ((top e (n + 1)).t = wrap (lft (e n).op) (top e (pn + 1)) ++ ⟨#[32]⟩ ++ wrd (e n).op ++ ⟨#[32]⟩ ++ wrap (lvl (e n).op + 1) (top e (qn + 1))) := hide (by rw [unhide HT2, if_neg h7, hp]; rfl)
        have HLf : Hid (lft (e n).op = if lvl (e n).op = 3 then 4 else lvl (e n).op) := hide rfl
        have hg0 := unhide HG 0 (by omega)
        have hg1 := unhide HG 1 (by omega)
        obtain ⟨b1, o1, rfl, -, hc0⟩ := hg0
        obtain ⟨b2, o2, e12, -, hc1⟩ := hg1
        cases e12
        simp only [hp, List.getD_cons_zero, List.getD_cons_succ, Nat.add_zero] at hc0 hc1
        have hs1 := ((unhide HO1).le (show pn + 1 ≤ n + 1 by omega)).top (by omega)
        have hs2 := ((unhide HO1).le (show qn + 1 ≤ n + 1 by omega)).top (by omega)
        have ht1 := wrap_size (lft (e n).op) (top e (pn + 1))
        have ht2 := wrap_size (lvl (e n).op + 1) (top e (qn + 1))
        have hwsz := wrd_size hop.1 hop.2
        have hlv : 1 ≤ lvl (e n).op ∧ lvl (e n).op ≤ 7 := lvl_bd _
        have HP := hide (show Prints (some ⟨b, o, none⟩) m c e (pn + 1) from unhide HI (pn + 1) (by omega) (by omega) (by omega))
        have HQ := hide (show Prints (some ⟨b, o, none⟩) m c e (qn + 1) from unhide HI (qn + 1) (by omega) (by omega) (by omega))
        have hpn : pn + 1 ≤ n := hpm.2
        have hqn : qn + 1 ≤ n := hqm.2
        obtain ⟨lv, hlve⟩ : ∃ lv, lvl (e n).op = lv := ⟨_, rfl⟩
        obtain ⟨lf, hlfe⟩ : ∃ lf, lft (e n).op = lf := ⟨_, rfl⟩
        have hw1 : wrap64 (lv + 1) = lv + 1 := wrap64_small (by omega) (by omega)
        rw [hlve] at HX HLf h7 ht2 hlv ⊢; rw [hlfe] at HX HLf ht1
        have n7 : (lv == 7) = false := beq_eq_false_iff_ne.2 h7
        have HPQ := hide hp
        clear HT2 hp HM HI e2 hargs hlve hlfe hpm hqm hal
        have HF : Hid (Below w2.heap.size w2 w2.drew) := hide ((Below.refl _ _).drew)
        by_cases h3 : lv = 3
        · have hl4 : lf = 4 := by rw [unhide HLf, if_pos h3]
          subst h3 hl4
          simp only [show (3 : Int) + 1 = 4 from rfl] at HX ht2
          clear HLf n7 h7 hlv hw1
          go_wp2_with fail
          refine wp_region_held_drew (S := fun w' => w'.cell? ⟨b1, o1, none⟩ = some (.int .i64 ((pn + 1 : Nat) : Int)) ∧ w'.cell? ⟨b1, o1 + 1, none⟩ = some (.int .i64 ((qn + 1 : Nat) : Int)) ∧ w'.cell? ⟨w.heap.size, 0, none⟩ = some (.int .i64 (e n).op)) (by kernel_rfl) ⟨hc0, hc1, y0⟩ (fun hHeld => ?_)
          clear hc0 hc1 y0 y1 y2 y3 y4
          refine takeY (i := 0) (v := .slice (some ⟨b, o, none⟩) m c) 80 rfl rfl (by kernel_rfl) (by kernel_rfl) (by kernel_rfl) (fun _ _ _ _ h => h) (by rfl) (fun w hS => by simp [execOp, go_sem, *]) hHeld ?_
          simp only [List.setIfInBounds_toArray, List.set_cons_zero, List.set_cons_succ]
          refine takeY (i := 1) (v := .slice (some ⟨b1, o1, none⟩) 2 c0) 81 rfl rfl (by kernel_rfl) (by kernel_rfl) (by kernel_rfl) (fun _ _ _ _ h => h) (by rfl) (fun w hS => by simp [execOp, go_sem, *]) hHeld ?_
          simp only [List.setIfInBounds_toArray, List.set_cons_zero, List.set_cons_succ]
          refine takeY (i := 2) (v := .pointer (some ⟨b1, o1, none⟩)) 82 rfl rfl (by kernel_rfl) (by kernel_rfl) (by kernel_rfl) (fun _ _ _ _ h => h) (by rfl) (fun w hS => by simp [execOp, go_sem, *]) hHeld ?_
          simp only [List.setIfInBounds_toArray, List.set_cons_zero, List.set_cons_succ]
          refine takeY (i := 3) (v := .int .i64 ((pn + 1 : Nat) : Int)) 83 rfl rfl (by kernel_rfl) (by kernel_rfl) (by kernel_rfl) (fun _ _ _ _ h => h) (by rfl) (fun w hS => by simp [execOp, go_sem, *]) hHeld ?_
          simp only [List.setIfInBounds_toArray, List.set_cons_zero, List.set_cons_succ]
          refine takeY (i := 4) (v := .int .i64 4) 84 rfl rfl (by kernel_rfl) (by kernel_rfl) (by kernel_rfl) (fun _ _ _ _ h => h) (by rfl) (fun w hS => by simp [execOp, go_sem, *]) hHeld ?_
          simp only [List.setIfInBounds_toArray, List.set_cons_zero, List.set_cons_succ]
          refine takeY (i := 7) (v := .pointer (some ⟨w.heap.size, 0, none⟩)) 87 rfl rfl (by kernel_rfl) (by kernel_rfl) (by kernel_rfl) (fun _ _ _ _ h => h) (by rfl) (fun w hS => by simp [execOp, go_sem, *]) hHeld ?_
          simp only [List.setIfInBounds_toArray, List.set_cons_zero, List.set_cons_succ]
          refine takeY (i := 8) (v := .int .i64 (e n).op) 88 rfl rfl (by kernel_rfl) (by kernel_rfl) (by kernel_rfl) (fun _ _ _ _ h => h) (by rfl) (fun w hS => by simp [execOp, go_sem, *]) hHeld ?_
          simp only [List.setIfInBounds_toArray, List.set_cons_zero, List.set_cons_succ]
          refine takeY (i := 12) (v := .slice (some ⟨b, o, none⟩) m c) 92 rfl rfl (by kernel_rfl) (by kernel_rfl) (by kernel_rfl) (fun _ _ _ _ h => h) (by rfl) (fun w hS => by simp [execOp, go_sem, *]) hHeld ?_
          simp only [List.setIfInBounds_toArray, List.set_cons_zero, List.set_cons_succ]
          refine takeY (i := 13) (v := .slice (some ⟨b1, o1, none⟩) 2 c0) 93 rfl rfl (by kernel_rfl) (by kernel_rfl) (by kernel_rfl) (fun _ _ _ _ h => h) (by rfl) (fun w hS => by simp [execOp, go_sem, *]) hHeld ?_
          simp only [List.setIfInBounds_toArray, List.set_cons_zero, List.set_cons_succ]
          refine takeY (i := 14) (v := .pointer (some ⟨b1, o1 + 1, none⟩)) 94 rfl rfl (by kernel_rfl) (by kernel_rfl) (by kernel_rfl) (fun _ _ _ _ h => h) (by rfl) (fun w hS => by simp [execOp, go_sem, *]) hHeld ?_
          simp only [List.setIfInBounds_toArray, List.set_cons_zero, List.set_cons_succ]
          refine takeY (i := 15) (v := .int .i64 ((qn + 1 : Nat) : Int)) 95 rfl rfl (by kernel_rfl) (by kernel_rfl) (by kernel_rfl) (fun _ _ _ _ h => h) (by rfl) (fun w hS => by simp [execOp, go_sem, *]) hHeld ?_
          simp only [List.setIfInBounds_toArray, List.set_cons_zero, List.set_cons_succ]
          refine takeY (i := 16) (v := .int .i64 3) 96 rfl rfl (by kernel_rfl) (by kernel_rfl) (by kernel_rfl) (fun _ _ _ _ h => h) (by rfl) (fun w hS => by simp [execOp, go_sem, *]) hHeld ?_
          simp only [List.setIfInBounds_toArray, List.set_cons_zero, List.set_cons_succ]
          refine takeY (i := 17) (v := .int .i64 4) 97 rfl rfl (by kernel_rfl) (by kernel_rfl) (by kernel_rfl) (fun _ _ _ _ h => h) (by rfl) (fun w hS => by simp [execOp, go_sem, *]; rfl) hHeld ?_
          simp only [List.setIfInBounds_toArray, List.set_cons_zero, List.set_cons_succ]
          refine callY (i := 5) (f := 54) (args := #[.slice (some ⟨b, o, none⟩) m c, .int .i64 ((pn + 1 : Nat) : Int), .int .i64 4]) (R := fun r wz => r = .string (wrap 4 (top e (pn + 1))) ∧ Below w2.heap.size w2 wz) 85 rfl rfl (by rfl) (by kernel_rfl) ?hrun1 ((l3Wrap_of _ m c e pn 4 _ hm (by omega) (unhide HP) (((unhide HO1).mono (unhide HF)).le (by omega))).mono fun e w6 ⟨he, hb⟩ => ⟨_, he, rfl, below_of_drew hb⟩) ?_
          case hrun1 => simp [execOp, go_sem]
          rintro r3 W4 ⟨rfl, hb⟩
          replace HB := hide ((unhide HB).trans (hb.mono (unhide HB).size)); replace HO1 := hide ((unhide HO1).mono hb); replace HK := hide ((unhide HK).mono hb (unhide HK).lt); replace HG := hide ((unhide HG).mono hb)
          clear hb HF hHeld
          obtain ⟨y0, y1, y2, y3, y4⟩ := five (unhide HK)
          obtain ⟨b3, o3, e13, -, hc0⟩ := unhide HG 0 (by omega)
          obtain ⟨b4, o4, e14, -, hc1⟩ := unhide HG 1 (by omega)
          cases e13; cases e14
          simp only [unhide HPQ, List.getD_cons_zero, List.getD_cons_succ, Nat.add_zero] at hc0 hc1
          have hHeld : W4.cell? ⟨b1, o1, none⟩ = some (.int .i64 ((pn + 1 : Nat) : Int)) ∧ W4.cell? ⟨b1, o1 + 1, none⟩ = some (.int .i64 ((qn + 1 : Nat) : Int)) ∧ W4.cell? ⟨w.heap.size, 0, none⟩ = some (.int .i64 (e n).op) := ⟨hc0, hc1, y0⟩
          refine ⟨hHeld, ?_⟩
          clear hc0 hc1 y0 y1 y2 y3 y4
          simp only [List.setIfInBounds_toArray, List.set_cons_zero, List.set_cons_succ]
          obtain ⟨t1, ht1e⟩ : ∃ t1, wrap 4 (top e (pn + 1)) = t1 := ⟨_, rfl⟩
          rw [ht1e] at HX ht1 ⊢
          clear ht1e
          have ht1' : t1.size ≤ 1200000 := by omega
          have hA : (t1 ++ (⟨#[32]⟩ : ByteArray)).size = t1.size + 1 := by rw [ByteArray.size_append]; rfl
          refine takeY (i := 6) (v := .string (t1 ++ ⟨#[32]⟩)) 86 rfl rfl (by kernel_rfl) (by kernel_rfl) (by kernel_rfl) (fun _ _ _ _ h => h) (by rfl) (fun w hS => by have := run_string_add_sum (P := Tryz.prog) w t1 ⟨#[32]⟩ (by show t1.size + 1 ≤ _; omega); simp [execOp, go_sem, this]) hHeld ?_
          simp only [List.setIfInBounds_toArray, List.set_cons_zero, List.set_cons_succ]
          refine callY (i := 9) (f := 56) (args := #[.int .i64 (e n).op]) (R := fun r wz => r = .string (wrd (e n).op) ∧ wz = W4) 89 rfl rfl (by rfl) (by kernel_rfl) ?hrun2 ((l3Sign_any _ _ hop15.1 hop15.2).mono fun e w6 ⟨he, hb⟩ => ⟨_, he, rfl, hb⟩) ?_
          case hrun2 => simp [execOp, go_sem]
          rintro r3 W5 ⟨rfl, hw⟩
          replace hw := hw.symm; subst hw
          refine ⟨hHeld, ?_⟩
          simp only [List.setIfInBounds_toArray, List.set_cons_zero, List.set_cons_succ]
          obtain ⟨wd, hwde⟩ : ∃ wd, wrd (e n).op = wd := ⟨_, rfl⟩
          rw [hwde] at HX hwsz ⊢
          clear hwde
          have hA2 : (t1 ++ (⟨#[32]⟩ : ByteArray) ++ wd).size = t1.size + 1 + wd.size := by rw [ByteArray.size_append, hA]
          refine takeY (i := 10) (v := .string (t1 ++ ⟨#[32]⟩ ++ wd)) 90 rfl rfl (by kernel_rfl) (by kernel_rfl) (by kernel_rfl) (fun _ _ _ _ h => h) (by rfl) (fun w hS => by have := run_string_add_sum (P := Tryz.prog) w (t1 ++ ⟨#[32]⟩) wd (by omega); simp [execOp, go_sem, this]) hHeld ?_
          simp only [List.setIfInBounds_toArray, List.set_cons_zero, List.set_cons_succ]
          have hA3 : (t1 ++ (⟨#[32]⟩ : ByteArray) ++ wd ++ ⟨#[32]⟩).size = t1.size + 1 + wd.size + 1 := by rw [ByteArray.size_append, hA2]; rfl
          refine takeY (i := 11) (v := .string (t1 ++ ⟨#[32]⟩ ++ wd ++ ⟨#[32]⟩)) 91 rfl rfl (by kernel_rfl) (by kernel_rfl) (by kernel_rfl) (fun _ _ _ _ h => h) (by rfl) (fun w hS => by have := run_string_add_sum (P := Tryz.prog) w (t1 ++ ⟨#[32]⟩ ++ wd) ⟨#[32]⟩ (by rw [hA2]; show t1.size + 1 + wd.size + 1 ≤ _; omega); simp [execOp, go_sem, this]) hHeld ?_
          simp only [List.setIfInBounds_toArray, List.set_cons_zero, List.set_cons_succ]
          refine callY (i := 18) (f := 54) (args := #[.slice (some ⟨b, o, none⟩) m c, .int .i64 ((qn + 1 : Nat) : Int), .int .i64 4]) (R := fun r wz => r = .string (wrap 4 (top e (qn + 1))) ∧ Below W4.heap.size W4 wz) 98 rfl rfl (by rfl) (by kernel_rfl) ?hrun3 ((l3Wrap_of _ m c e qn 4 _ hm (by omega) (unhide HQ) ((unhide HO1).le (by omega))).mono fun e w6 ⟨he, hb⟩ => ⟨_, he, rfl, hb⟩) ?_
          case hrun3 => simp [execOp, go_sem]
          rintro r3 W6 ⟨rfl, hb⟩
          replace HB := hide ((unhide HB).trans (hb.mono (unhide HB).size)); replace HK := hide ((unhide HK).mono hb (unhide HK).lt); replace HG := hide ((unhide HG).mono hb)
          clear hb hHeld
          obtain ⟨y0, y1, y2, y3, y4⟩ := five (unhide HK)
          obtain ⟨b3, o3, e13, -, hc0⟩ := unhide HG 0 (by omega)
          obtain ⟨b4, o4, e14, -, hc1⟩ := unhide HG 1 (by omega)
          cases e13; cases e14
          simp only [unhide HPQ, List.getD_cons_zero, List.getD_cons_succ, Nat.add_zero] at hc0 hc1
          have hHeld : W6.cell? ⟨b1, o1, none⟩ = some (.int .i64 ((pn + 1 : Nat) : Int)) ∧ W6.cell? ⟨b1, o1 + 1, none⟩ = some (.int .i64 ((qn + 1 : Nat) : Int)) ∧ W6.cell? ⟨w.heap.size, 0, none⟩ = some (.int .i64 (e n).op) := ⟨hc0, hc1, y0⟩
          refine ⟨hHeld, ?_⟩
          clear hc0 hc1 y0 y1 y2 y3 y4
          simp only [List.setIfInBounds_toArray, List.set_cons_zero, List.set_cons_succ]
          obtain ⟨t2, ht2e⟩ : ∃ t2, wrap 4 (top e (qn + 1)) = t2 := ⟨_, rfl⟩
          rw [ht2e] at HX ht2 ⊢
          clear ht2e
          obtain ⟨u3, hu3⟩ : ∃ u3, t1 ++ (⟨#[32]⟩ : ByteArray) ++ wd ++ ⟨#[32]⟩ = u3 := ⟨_, rfl⟩
          rw [hu3] at HX hA3 ⊢
          clear hu3 hA hA2
          refine takeY (i := 19) (v := .string (u3 ++ t2)) 99 rfl rfl (by kernel_rfl) (by kernel_rfl) (by kernel_rfl) (fun _ _ _ _ h => h) (by rfl) (fun w hS => by have := run_string_add_sum (P := Tryz.prog) w u3 t2 (by omega); simp [execOp, go_sem, this]) hHeld ?_
          simp only [List.setIfInBounds_toArray, List.set_cons_zero, List.set_cons_succ]
          refine takeY (i := 20) (v := .string (u3 ++ t2)) 4 rfl rfl (by kernel_rfl) (by kernel_rfl) (by kernel_rfl) (fun _ _ _ _ h => h) (by rfl) (fun w hS => by simp [execOp, go_sem, *]) hHeld ?_
          simp only [List.setIfInBounds_toArray, List.set_cons_zero, List.set_cons_succ]
          refine wpAnyH_done (by kernel_rfl) ?_ _
          clear hHeld
          go_wp2
          go_ret
          exact ⟨ret_str (unhide HX).symm, unhide HB⟩
        · have hl4 : lf = lv := by rw [unhide HLf, if_neg h3]
          subst hl4
          have n3' : (lf == 3) = false := beq_eq_false_iff_ne.2 h3
          clear HLf h7 h3
          go_wp2_with fail
          refine wp_region_held_drew (S := fun w' => w'.cell? ⟨b1, o1, none⟩ = some (.int .i64 ((pn + 1 : Nat) : Int)) ∧ w'.cell? ⟨b1, o1 + 1, none⟩ = some (.int .i64 ((qn + 1 : Nat) : Int)) ∧ w'.cell? ⟨w.heap.size, 0, none⟩ = some (.int .i64 (e n).op)) (by kernel_rfl) ⟨hc0, hc1, y0⟩ (fun hHeld => ?_)
          clear hc0 hc1 y0 y1 y2 y3 y4
          refine takeY (i := 0) (v := .slice (some ⟨b, o, none⟩) m c) 80 rfl rfl (by kernel_rfl) (by kernel_rfl) (by kernel_rfl) (fun _ _ _ _ h => h) (by rfl) (fun w hS => by simp [execOp, go_sem, *]) hHeld ?_
          simp only [List.setIfInBounds_toArray, List.set_cons_zero, List.set_cons_succ]
          refine takeY (i := 1) (v := .slice (some ⟨b1, o1, none⟩) 2 c0) 81 rfl rfl (by kernel_rfl) (by kernel_rfl) (by kernel_rfl) (fun _ _ _ _ h => h) (by rfl) (fun w hS => by simp [execOp, go_sem, *]) hHeld ?_
          simp only [List.setIfInBounds_toArray, List.set_cons_zero, List.set_cons_succ]
          refine takeY (i := 2) (v := .pointer (some ⟨b1, o1, none⟩)) 82 rfl rfl (by kernel_rfl) (by kernel_rfl) (by kernel_rfl) (fun _ _ _ _ h => h) (by rfl) (fun w hS => by simp [execOp, go_sem, *]) hHeld ?_
          simp only [List.setIfInBounds_toArray, List.set_cons_zero, List.set_cons_succ]
          refine takeY (i := 3) (v := .int .i64 ((pn + 1 : Nat) : Int)) 83 rfl rfl (by kernel_rfl) (by kernel_rfl) (by kernel_rfl) (fun _ _ _ _ h => h) (by rfl) (fun w hS => by simp [execOp, go_sem, *]) hHeld ?_
          simp only [List.setIfInBounds_toArray, List.set_cons_zero, List.set_cons_succ]
          refine takeY (i := 4) (v := .int .i64 lf) 84 rfl rfl (by kernel_rfl) (by kernel_rfl) (by kernel_rfl) (fun _ _ _ _ h => h) (by rfl) (fun w hS => by simp [execOp, go_sem, *]) hHeld ?_
          simp only [List.setIfInBounds_toArray, List.set_cons_zero, List.set_cons_succ]
          refine takeY (i := 7) (v := .pointer (some ⟨w.heap.size, 0, none⟩)) 87 rfl rfl (by kernel_rfl) (by kernel_rfl) (by kernel_rfl) (fun _ _ _ _ h => h) (by rfl) (fun w hS => by simp [execOp, go_sem, *]) hHeld ?_
          simp only [List.setIfInBounds_toArray, List.set_cons_zero, List.set_cons_succ]
          refine takeY (i := 8) (v := .int .i64 (e n).op) 88 rfl rfl (by kernel_rfl) (by kernel_rfl) (by kernel_rfl) (fun _ _ _ _ h => h) (by rfl) (fun w hS => by simp [execOp, go_sem, *]) hHeld ?_
          simp only [List.setIfInBounds_toArray, List.set_cons_zero, List.set_cons_succ]
          refine takeY (i := 12) (v := .slice (some ⟨b, o, none⟩) m c) 92 rfl rfl (by kernel_rfl) (by kernel_rfl) (by kernel_rfl) (fun _ _ _ _ h => h) (by rfl) (fun w hS => by simp [execOp, go_sem, *]) hHeld ?_
          simp only [List.setIfInBounds_toArray, List.set_cons_zero, List.set_cons_succ]
          refine takeY (i := 13) (v := .slice (some ⟨b1, o1, none⟩) 2 c0) 93 rfl rfl (by kernel_rfl) (by kernel_rfl) (by kernel_rfl) (fun _ _ _ _ h => h) (by rfl) (fun w hS => by simp [execOp, go_sem, *]) hHeld ?_
          simp only [List.setIfInBounds_toArray, List.set_cons_zero, List.set_cons_succ]
          refine takeY (i := 14) (v := .pointer (some ⟨b1, o1 + 1, none⟩)) 94 rfl rfl (by kernel_rfl) (by kernel_rfl) (by kernel_rfl) (fun _ _ _ _ h => h) (by rfl) (fun w hS => by simp [execOp, go_sem, *]) hHeld ?_
          simp only [List.setIfInBounds_toArray, List.set_cons_zero, List.set_cons_succ]
          refine takeY (i := 15) (v := .int .i64 ((qn + 1 : Nat) : Int)) 95 rfl rfl (by kernel_rfl) (by kernel_rfl) (by kernel_rfl) (fun _ _ _ _ h => h) (by rfl) (fun w hS => by simp [execOp, go_sem, *]) hHeld ?_
          simp only [List.setIfInBounds_toArray, List.set_cons_zero, List.set_cons_succ]
          refine takeY (i := 16) (v := .int .i64 lf) 96 rfl rfl (by kernel_rfl) (by kernel_rfl) (by kernel_rfl) (fun _ _ _ _ h => h) (by rfl) (fun w hS => by simp [execOp, go_sem, *]) hHeld ?_
          simp only [List.setIfInBounds_toArray, List.set_cons_zero, List.set_cons_succ]
          refine takeY (i := 17) (v := .int .i64 (lf + 1)) 97 rfl rfl (by kernel_rfl) (by kernel_rfl) (by kernel_rfl) (fun _ _ _ _ h => h) (by rfl) (fun w hS => by simp [execOp, go_sem, *]; rw [IntKind.wrap_i64]; omega) hHeld ?_
          simp only [List.setIfInBounds_toArray, List.set_cons_zero, List.set_cons_succ]
          refine callY (i := 5) (f := 54) (args := #[.slice (some ⟨b, o, none⟩) m c, .int .i64 ((pn + 1 : Nat) : Int), .int .i64 lf]) (R := fun r wz => r = .string (wrap lf (top e (pn + 1))) ∧ Below w2.heap.size w2 wz) 85 rfl rfl (by rfl) (by kernel_rfl) ?hrun1 ((l3Wrap_of _ m c e pn lf _ hm (by omega) (unhide HP) (((unhide HO1).mono (unhide HF)).le (by omega))).mono fun e w6 ⟨he, hb⟩ => ⟨_, he, rfl, below_of_drew hb⟩) ?_
          case hrun1 => simp [execOp, go_sem]
          rintro r3 W4 ⟨rfl, hb⟩
          replace HB := hide ((unhide HB).trans (hb.mono (unhide HB).size)); replace HO1 := hide ((unhide HO1).mono hb); replace HK := hide ((unhide HK).mono hb (unhide HK).lt); replace HG := hide ((unhide HG).mono hb)
          clear hb HF hHeld
          obtain ⟨y0, y1, y2, y3, y4⟩ := five (unhide HK)
          obtain ⟨b3, o3, e13, -, hc0⟩ := unhide HG 0 (by omega)
          obtain ⟨b4, o4, e14, -, hc1⟩ := unhide HG 1 (by omega)
          cases e13; cases e14
          simp only [unhide HPQ, List.getD_cons_zero, List.getD_cons_succ, Nat.add_zero] at hc0 hc1
          have hHeld : W4.cell? ⟨b1, o1, none⟩ = some (.int .i64 ((pn + 1 : Nat) : Int)) ∧ W4.cell? ⟨b1, o1 + 1, none⟩ = some (.int .i64 ((qn + 1 : Nat) : Int)) ∧ W4.cell? ⟨w.heap.size, 0, none⟩ = some (.int .i64 (e n).op) := ⟨hc0, hc1, y0⟩
          refine ⟨hHeld, ?_⟩
          clear hc0 hc1 y0 y1 y2 y3 y4
          simp only [List.setIfInBounds_toArray, List.set_cons_zero, List.set_cons_succ]
          obtain ⟨t1, ht1e⟩ : ∃ t1, wrap lf (top e (pn + 1)) = t1 := ⟨_, rfl⟩
          rw [ht1e] at HX ht1 ⊢
          clear ht1e
          have ht1' : t1.size ≤ 1200000 := by omega
          have hA : (t1 ++ (⟨#[32]⟩ : ByteArray)).size = t1.size + 1 := by rw [ByteArray.size_append]; rfl
          refine takeY (i := 6) (v := .string (t1 ++ ⟨#[32]⟩)) 86 rfl rfl (by kernel_rfl) (by kernel_rfl) (by kernel_rfl) (fun _ _ _ _ h => h) (by rfl) (fun w hS => by have := run_string_add_sum (P := Tryz.prog) w t1 ⟨#[32]⟩ (by show t1.size + 1 ≤ _; omega); simp [execOp, go_sem, this]) hHeld ?_
          simp only [List.setIfInBounds_toArray, List.set_cons_zero, List.set_cons_succ]
          refine callY (i := 9) (f := 56) (args := #[.int .i64 (e n).op]) (R := fun r wz => r = .string (wrd (e n).op) ∧ wz = W4) 89 rfl rfl (by rfl) (by kernel_rfl) ?hrun2 ((l3Sign_any _ _ hop15.1 hop15.2).mono fun e w6 ⟨he, hb⟩ => ⟨_, he, rfl, hb⟩) ?_
          case hrun2 => simp [execOp, go_sem]
          rintro r3 W5 ⟨rfl, hw⟩
          replace hw := hw.symm; subst hw
          refine ⟨hHeld, ?_⟩
          simp only [List.setIfInBounds_toArray, List.set_cons_zero, List.set_cons_succ]
          obtain ⟨wd, hwde⟩ : ∃ wd, wrd (e n).op = wd := ⟨_, rfl⟩
          rw [hwde] at HX hwsz ⊢
          clear hwde
          have hA2 : (t1 ++ (⟨#[32]⟩ : ByteArray) ++ wd).size = t1.size + 1 + wd.size := by rw [ByteArray.size_append, hA]
          refine takeY (i := 10) (v := .string (t1 ++ ⟨#[32]⟩ ++ wd)) 90 rfl rfl (by kernel_rfl) (by kernel_rfl) (by kernel_rfl) (fun _ _ _ _ h => h) (by rfl) (fun w hS => by have := run_string_add_sum (P := Tryz.prog) w (t1 ++ ⟨#[32]⟩) wd (by omega); simp [execOp, go_sem, this]) hHeld ?_
          simp only [List.setIfInBounds_toArray, List.set_cons_zero, List.set_cons_succ]
          have hA3 : (t1 ++ (⟨#[32]⟩ : ByteArray) ++ wd ++ ⟨#[32]⟩).size = t1.size + 1 + wd.size + 1 := by rw [ByteArray.size_append, hA2]; rfl
          refine takeY (i := 11) (v := .string (t1 ++ ⟨#[32]⟩ ++ wd ++ ⟨#[32]⟩)) 91 rfl rfl (by kernel_rfl) (by kernel_rfl) (by kernel_rfl) (fun _ _ _ _ h => h) (by rfl) (fun w hS => by have := run_string_add_sum (P := Tryz.prog) w (t1 ++ ⟨#[32]⟩ ++ wd) ⟨#[32]⟩ (by rw [hA2]; show t1.size + 1 + wd.size + 1 ≤ _; omega); simp [execOp, go_sem, this]) hHeld ?_
          simp only [List.setIfInBounds_toArray, List.set_cons_zero, List.set_cons_succ]
          refine callY (i := 18) (f := 54) (args := #[.slice (some ⟨b, o, none⟩) m c, .int .i64 ((qn + 1 : Nat) : Int), .int .i64 (lf + 1)]) (R := fun r wz => r = .string (wrap (lf + 1) (top e (qn + 1))) ∧ Below W4.heap.size W4 wz) 98 rfl rfl (by rfl) (by kernel_rfl) ?hrun3 ((l3Wrap_of _ m c e qn (lf + 1) _ hm (by omega) (unhide HQ) ((unhide HO1).le (by omega))).mono fun e w6 ⟨he, hb⟩ => ⟨_, he, rfl, hb⟩) ?_
          case hrun3 => simp [execOp, go_sem]
          rintro r3 W6 ⟨rfl, hb⟩
          replace HB := hide ((unhide HB).trans (hb.mono (unhide HB).size)); replace HK := hide ((unhide HK).mono hb (unhide HK).lt); replace HG := hide ((unhide HG).mono hb)
          clear hb hHeld
          obtain ⟨y0, y1, y2, y3, y4⟩ := five (unhide HK)
          obtain ⟨b3, o3, e13, -, hc0⟩ := unhide HG 0 (by omega)
          obtain ⟨b4, o4, e14, -, hc1⟩ := unhide HG 1 (by omega)
          cases e13; cases e14
          simp only [unhide HPQ, List.getD_cons_zero, List.getD_cons_succ, Nat.add_zero] at hc0 hc1
          have hHeld : W6.cell? ⟨b1, o1, none⟩ = some (.int .i64 ((pn + 1 : Nat) : Int)) ∧ W6.cell? ⟨b1, o1 + 1, none⟩ = some (.int .i64 ((qn + 1 : Nat) : Int)) ∧ W6.cell? ⟨w.heap.size, 0, none⟩ = some (.int .i64 (e n).op) := ⟨hc0, hc1, y0⟩
          refine ⟨hHeld, ?_⟩
          clear hc0 hc1 y0 y1 y2 y3 y4
          simp only [List.setIfInBounds_toArray, List.set_cons_zero, List.set_cons_succ]
          obtain ⟨t2, ht2e⟩ : ∃ t2, wrap (lf + 1) (top e (qn + 1)) = t2 := ⟨_, rfl⟩
          rw [ht2e] at HX ht2 ⊢
          clear ht2e
          obtain ⟨u3, hu3⟩ : ∃ u3, t1 ++ (⟨#[32]⟩ : ByteArray) ++ wd ++ ⟨#[32]⟩ = u3 := ⟨_, rfl⟩
          rw [hu3] at HX hA3 ⊢
          clear hu3 hA hA2
          refine takeY (i := 19) (v := .string (u3 ++ t2)) 99 rfl rfl (by kernel_rfl) (by kernel_rfl) (by kernel_rfl) (fun _ _ _ _ h => h) (by rfl) (fun w hS => by have := run_string_add_sum (P := Tryz.prog) w u3 t2 (by omega); simp [execOp, go_sem, this]) hHeld ?_
          simp only [List.setIfInBounds_toArray, List.set_cons_zero, List.set_cons_succ]
          refine takeY (i := 20) (v := .string (u3 ++ t2)) 4 rfl rfl (by kernel_rfl) (by kernel_rfl) (by kernel_rfl) (fun _ _ _ _ h => h) (by rfl) (fun w hS => by simp [execOp, go_sem, *]) hHeld ?_
          simp only [List.setIfInBounds_toArray, List.set_cons_zero, List.set_cons_succ]
          refine wpAnyH_done (by kernel_rfl) ?_ _
          clear hHeld
          go_wp2
          go_ret
          exact ⟨ret_str (unhide HX).symm, unhide HB⟩
end Go.Proofs.YtjgngbmkpiihgaaGreatDoor

/- (loose) The model: which lists of nodes are valid expressions, and how they are printed. -/
namespace Go.Proofs.YtjgngbmkpiihgaaGreatDoor
open Go Go.RowKit

/-- A valid expression, as a question. -/
def vxB (e : Nat → Nx) (m : Nat) : Bool := decide (1 ≤ m ∧ m ≤ 1000) && ((List.range m).all fun k => okNode (e k)) && stB e m && decide ((top e m).d ≤ 64) && decide ((top e m).t.size ≤ 4000)
theorem vxB_iff (e : Nat → Nx) (m : Nat) : vxB e m = true ↔ vEx e m := by
  unfold vxB vEx okAll
  simp only [Bool.and_eq_true, decide_eq_true_eq, List.all_eq_true, List.mem_range, stB_iff]
  constructor
  · rintro ⟨⟨⟨⟨h1, h2⟩, h3, h4⟩, h5⟩, h6⟩; exact ⟨h1.1, h1.2, h2, h3, h4, h5, h6⟩
  · rintro ⟨h1, h1', h2, h3, h4, h5, h6⟩; exact ⟨⟨⟨⟨⟨h1, h1'⟩, h2⟩, h3, h4⟩, h5⟩, h6⟩
theorem vxB_no {e : Nat → Nx} {m : Nat} (h : ¬ vEx e m) : vxB e m = false := by
  cases hb : vxB e m
  · rfl
  · exact absurd ((vxB_iff e m).1 hb) h
theorem okNode_txt {n : Nx} (h : okNode n = true) : n.v.s.size ≤ 1000 := by
  unfold okNode at h
  split at h
  · simp only [Bool.and_eq_true, decide_eq_true_eq] at h
    have := h.1.1.2
    unfold okVal at this
    (repeat' split at this) <;> (try simp only [Bool.and_eq_true, decide_eq_true_eq] at this) <;> first | omega | exact (okText_iff.1 this.2).1 | cases this
  · split at h
    · simp only [Bool.and_eq_true, decide_eq_true_eq] at h; omega
    · simp only [Bool.and_eq_true, decide_eq_true_eq] at h; omega

set_option maxRecDepth 100000 in
set_option maxHeartbeats 4000000 in
theorem l3ValidExpr_any (a : Option Addr) (m c : Nat) (e : Nat → Nx) (w : World) (hm : m ≤ 9223372036854775807) (ha : Nods w a m e) (hf : ∀ k, k < m → Fit (e k)) :
    Calls Tryz.prog 30 #[.slice a m c] w fun r w' => r = .returned (.bool (vxB e m)) ∧ Below w.heap.size w w' := by
  by_cases h1 : m < 1
  · rw [vxB_no fun h => by have := h.1; omega]
    go_enter Tryz.func30, Tryz.ntmps30
    go_wp2_with fail
    go_ret
    exact ⟨rfl, Below.refl _ _⟩
  by_cases h2 : 1000 < m
  · rw [vxB_no fun h => by have := h.2.1; omega]
    go_enter Tryz.func30, Tryz.ntmps30
    go_wp2_with fail
    go_ret
    exact ⟨rfl, Below.refl _ _⟩
  have HA := hide ha; have HF := hide hf
  obtain ⟨r, hr⟩ : ∃ r, vxB e m = r := ⟨_, rfl⟩
  rw [hr]
  have HR := hide hr
  clear ha hf hr
  go_enter Tryz.func30, Tryz.ntmps30
  go_wp2_with fail
  go_loopw [3] (fun i wr => ∃ k : Nat, k ≤ m ∧ i = .int .i64 k ∧ okAll e k ∧ Below w.heap.size w wr) (fun i _ => m - (intOf i).toNat)
  case atStart => exact ⟨0, Nat.zero_le _, rfl, fun k hk => absurd hk (Nat.not_lt_zero _), Below.refl _ _⟩
  case round =>
    obtain ⟨k, hk, rfl, hall, hb⟩ := hrel
    have HB := hide hb; have HL := hide hall
    have HV := hide ((unhide HA).mono hb)
    clear hb hall
    by_cases hlt : k < m
    · have hlt' : (k : Int) < m := by omega
      obtain ⟨b, o, rfl, -, c0, c1, c2, c3, c4⟩ := unhide HV k hlt
      go_wp2_with fail
      refine (l3GoodNode_any (e k) _ (unhide HF k hlt)).mono ?_
      rintro x w1 ⟨rfl, hb⟩
      replace HB := hide ((unhide HB).trans (hb.mono (unhide HB).size))
      clear hb c0 c1 c2 c3 c4
      cases hg : okNode (e k)
      · have HX : Hid (r = false) := hide (by rw [← unhide HR]; exact vxB_no fun h => by have := h.2.2.1 k hlt; rw [hg] at this; cases this)
        go_wp2_with fail
        go_ret
        exact ⟨ret_bool (unhide HX).symm, unhide HB⟩
      · have HN : Hid (okAll e (k + 1)) := hide fun j hj => by
          by_cases ej : j = k
          · subst ej; exact hg
          · exact unhide HL j (by omega)
        go_wp2_with fail
        go_roundw
        case rel => exact ⟨k + 1, by omega, by go_num, unhide HN, unhide HB⟩
        case measure => simp [intOf]; omega
    · obtain rfl : k = m := by omega
      go_wp2_with fail
      refine (l3Stack_any a k c e _ (by omega) (unhide HV)).mono ?_
      rintro x w1 ⟨rfl, hb⟩
      replace HB := hide ((unhide HB).trans (hb.mono (unhide HB).size)); replace HV := hide ((unhide HV).mono hb)
      clear hb
      cases hs : stB e k
      · have HX : Hid (r = false) := hide (by rw [← unhide HR]; exact vxB_no fun h => by have := (stB_iff e k).2 ⟨h.2.2.2.1, h.2.2.2.2.1⟩; rw [hs] at this; cases this)
        go_wp2_with fail
        go_ret
        exact ⟨ret_bool (unhide HX).symm, unhide HB⟩
      obtain ⟨hst, hone⟩ := (stB_iff e k).1 hs
      have HS := hide hst; have HO := hide hone
      clear hst hone hs
      go_wp2_with fail
      refine (l3Depth_any a k c e (by omega) k k _ (Nat.le_refl _) (unhide HV) (by omega) (Nat.le_refl _) (unhide HS)).mono ?_
      rintro x w2 ⟨rfl, hb⟩
      replace HB := hide ((unhide HB).trans (hb.mono (unhide HB).size)); replace HV := hide ((unhide HV).mono hb)
      clear hb
      by_cases hd : 64 < (top e k).d
      · have hd' : (64 : Int) < (top e k).d := by omega
        have HX : Hid (r = false) := hide (by rw [← unhide HR]; exact vxB_no fun h => by have := h.2.2.2.2.2.1; omega)
        clear hd
        go_wp2_with fail
        go_ret
        exact ⟨ret_bool (unhide HX).symm, unhide HB⟩
      have hd' : ¬ (64 : Int) < (top e k).d := by omega
      have HD := hide hd
      clear hd
      go_wp2_with fail
      refine (l3PrintSize_any a k c e _ (by omega) (unhide HV) (fun j hj => okNode_txt (unhide HL j hj))).mono ?_
      rintro x w3 ⟨rfl, hb⟩
      replace HB := hide ((unhide HB).trans (hb.mono (unhide HB).size)); replace HV := hide ((unhide HV).mono hb)
      clear hb hd'
      by_cases hp : 4000 < txtSum e k
      · have hp' : (4000 : Int) < (txtSum e k : Int) := by omega
        have HX : Hid (r = false) := hide (by rw [← unhide HR]; exact vxB_no fun h => by have := h.sum (fun j hj => (unhide HF j hj).2.2.2); omega)
        clear hp
        go_wp2_with fail
        go_ret
        exact ⟨ret_bool (unhide HX).symm, unhide HB⟩
      have hp' : ¬ (4000 : Int) < (txtSum e k : Int) := by omega
      clear hp
      go_wp2_with fail
      refine (l3Print_any a k c e (by omega) k k (Nat.le_refl _) (by omega) (Nat.le_refl _) _ ⟨unhide HV, unhide HS, unhide HL, unhide HF⟩).mono ?_
      rintro x w4 ⟨rfl, hb⟩
      replace HB := hide ((unhide HB).trans (hb.mono (unhide HB).size))
      clear hb hp'
      have HX : Hid (r = decide ((top e k).t.size ≤ 4000)) := hide (by
        rw [← unhide HR, Bool.eq_iff_iff, vxB_iff, decide_eq_true_eq]
        exact ⟨fun h => h.2.2.2.2.2.2, fun h => ⟨by omega, by omega, unhide HL, unhide HS, unhide HO, by have := unhide HD; omega, h⟩⟩)
      generalize (top e k).t = t at *
      go_wp2_with fail
      go_ret
      exact ⟨ret_bool (by rw [unhide HX, Bool.eq_iff_iff]; simp; omega), unhide HB⟩

set_option maxRecDepth 100000 in
set_option maxHeartbeats 4000000 in
theorem specPrintExpr_any (a : Option Addr) (m c : Nat) (e : Nat → Nx) (w : World) (hm : m ≤ 9223372036854775807) (ha : Nods w a m e) (hf : ∀ k, k < m → Fit (e k)) :
    Calls Tryz.prog 7 #[.slice a m c] w fun r w' => r = .returned (.string (if vxB e m then (top e m).t else ⟨#[]⟩)) ∧ Below w.heap.size w w' := by
  have HA := hide ha; have HF := hide hf
  obtain ⟨t, ht⟩ : ∃ t, (if vxB e m then (top e m).t else ⟨#[]⟩) = t := ⟨_, rfl⟩
  rw [ht]
  have HT' := hide ht
  clear ha hf ht
  go_enter Tryz.func7, Tryz.ntmps7
  go_wp2_with fail
  refine (l3ValidExpr_any a m c e _ hm (unhide HA) (unhide HF)).mono ?_
  rintro x w1 ⟨rfl, hb⟩
  have HB := hide hb
  replace HA := hide ((unhide HA).mono hb)
  clear hb
  cases hv : vxB e m
  · have HX : Hid (t = ⟨#[]⟩) := hide (by rw [← unhide HT', hv]; rfl)
    clear hv HT'
    go_wp2_with fail
    go_ret
    exact ⟨ret_str (unhide HX).symm, unhide HB⟩
  · obtain ⟨h1, h2, h3, h4, -, -, -⟩ := (vxB_iff e m).1 hv
    have HS := hide h3; have HT := hide h4
    have HX : Hid (t = (top e m).t) := hide (by rw [← unhide HT', hv]; rfl)
    clear h3 h4 hv HT'
    go_wp2_with fail
    refine (l3Print_any a m c e h2 m m (Nat.le_refl _) h1 (Nat.le_refl _) _ ⟨unhide HA, unhide HT, unhide HS, unhide HF⟩).mono ?_
    rintro x w2 ⟨rfl, hb⟩
    replace HB := hide ((unhide HB).trans (hb.mono (unhide HB).size))
    clear hb
    go_wp2_with fail
    go_ret
    exact ⟨ret_str (unhide HX).symm, unhide HB⟩
end Go.Proofs.YtjgngbmkpiihgaaGreatDoor
