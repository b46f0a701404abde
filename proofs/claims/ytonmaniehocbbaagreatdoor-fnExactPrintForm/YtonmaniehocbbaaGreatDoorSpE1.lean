/- The model's questions about a list of nodes: where a phrase begins, how deep it is, how long it is at least, whether the stack rule is kept. -/
import Derived.Test.YtonmaniehocbbaaGreatDoorNod2
import Derived.Test.YtonmaniehocbbaaGreatDoorLev
namespace Go.Proofs.YtonmaniehocbbaaGreatDoor
open Go Go.RowKit

theorem stk_head {e : Nat → Nx} {i : Nat} : (stk e i).headD 0 = i := by
  cases i with
  | zero => rfl
  | succ i => rfl
theorem stk_pos {e : Nat → Nx} {n : Nat} (h : 1 ≤ n) : 1 ≤ (stk e n).length := by
  obtain ⟨k, rfl⟩ : ∃ k, n = k + 1 := ⟨n - 1, by omega⟩
  simp [stk]
theorem start_step {e : Nat → Nx} {i need : Nat} {t : List Nat} (h1 : 1 ≤ need) (h2 : need ≤ (stk e (i + 1)).length) (ho : arn (e i) ≤ (stk e i).length) (ht : t = (stk e (i + 1)).drop need) :
    need - 1 + arn (e i) ≤ (stk e i).length ∧ t = (stk e i).drop (need - 1 + arn (e i)) := by
  obtain ⟨n, rfl⟩ : ∃ n, need = n + 1 := ⟨need - 1, by omega⟩
  simp only [stk, List.length_cons, List.length_drop] at h2
  simp only [stk, List.drop_succ_cons, List.drop_drop] at ht
  refine ⟨by omega, ?_⟩
  rw [ht, show n + 1 - 1 + arn (e i) = arn (e i) + n by omega]

set_option maxRecDepth 100000 in
set_option maxHeartbeats 4000000 in
theorem l3Start_any (a : Option Addr) (m c : Nat) (e : Nat → Nx) (en : Nat) (w : World) (hm : m ≤ 1000) (ha : Nods w a m e) (h1 : 1 ≤ en) (h2 : en ≤ m) (ho : stkOk e en) :
    Calls Tryz.prog 106 #[.slice a m c, .int .i64 en] w fun r w' => r = .returned (.int .i64 (beg e en)) ∧ Below w.heap.size w w' := by
  have HA := hide ha; have HO := hide ho
  clear ha ho
  go_enter Tryz.func106, Tryz.ntmps106
  go_wp2_with fail
  go_loopw [5, 6] (fun nd i wr => ∃ (k need : Nat), nd = .int .i64 need ∧ i = .int .i64 k ∧ k ≤ en ∧ need ≤ (stk e k).length ∧ (stk e en).tail = (stk e k).drop need ∧ Below w.heap.size w wr) (fun _ i _ => (intOf i).toNat)
  case atStart => exact ⟨en, 1, rfl, rfl, Nat.le_refl _, stk_pos h1, by simp, Below.refl _ _⟩
  case round =>
    obtain ⟨k, need, rfl, rfl, hk, hn, ht, hb⟩ := hrel
    have HB := hide hb; have HT := hide ht; have HN := hide hn
    have HV := hide ((unhide HA).mono hb)
    have hl := stk_len e k
    clear hb ht hn
    by_cases hz : need = 0
    · subst hz
      have HR : Hid (beg e en = k) := hide (by unfold beg; rw [unhide HT, List.drop_zero, stk_head])
      by_cases hk0 : k = 0
      · subst hk0
        go_wp2_with fail
        go_ret
        exact ⟨ret_int (by rw [unhide HR]), unhide HB⟩
      · have hk1 : (0 : Int) < k := by omega
        go_wp2_with fail
        go_ret
        exact ⟨ret_int (by rw [unhide HR]), unhide HB⟩
    · obtain ⟨i, rfl⟩ : ∃ i, k = i + 1 := ⟨k - 1, by have := unhide HN; omega⟩
      have hst := start_step (by omega) (unhide HN) (unhide HO i (by omega)) (unhide HT)
      have HST := hide hst
      have har := arn_le (e i)
      have hn1 : need ≤ 1000 := by have := unhide HN; omega
      have hk1 : (0 : Int) < ((i + 1 : Nat) : Int) := by omega
      have hn2 : (0 : Int) < need := by omega
      have hw1 : wrap64 (((i + 1 : Nat) : Int) - 1) = (i : Int) := by rw [wrap64_small (by omega) (by omega)]; omega
      have hlt : (i : Int) < m := by omega
      obtain ⟨b, o, rfl, -, c0, c1, c2, c3, c4⟩ := unhide HV i (by omega)
      clear hst
      go_wp2_with fail
      refine (l3NodeArity_any (e i) _).mono ?_
      rintro r w1 ⟨rfl, hb⟩
      replace HB := hide ((unhide HB).trans (hb.mono (unhide HB).size))
      clear hb c0 c1 c2 c3 c4
      go_wp2_with fail
      go_roundw
      case rel => exact ⟨i, need - 1 + arn (e i), by go_num, rfl, by omega, (unhide HST).1, (unhide HST).2, unhide HB⟩
      case measure => simp [intOf]

theorem d_le (e : Nat → Nx) (n : Nat) : ∀ x, x ∈ pst e n → x.d ≤ n := by
  induction n with
  | zero => intro x hx; cases hx
  | succ n ih =>
    intro x hx
    rcases List.mem_cons.1 hx with rfl | hx
    · have : ∀ a : List Ph, (∀ y, y ∈ a → y.d ≤ n) → mx a ≤ n := by
        intro a
        induction a with
        | nil => intro _; exact Nat.zero_le _
        | cons p r ih2 => intro h; have := h p List.mem_cons_self; have := ih2 fun y hy => h y (List.mem_cons_of_mem _ hy); simp only [mx]; omega
      have := this ((pst e n).take (arn (e n))).reverse fun y hy => ih y (List.mem_of_mem_take (List.mem_reverse.1 hy))
      show mx _ + 1 ≤ n + 1
      omega
    · have := ih x (List.mem_of_mem_drop hx); omega
theorem top_mem (e : Nat → Nx) {n : Nat} (h : 1 ≤ n) : top e n ∈ pst e n := by
  obtain ⟨k, rfl⟩ : ∃ k, n = k + 1 := ⟨n - 1, by omega⟩
  exact List.mem_cons_self
theorem top_d (e : Nat → Nx) {n : Nat} (h : 1 ≤ n) : (top e n).d ≤ n := d_le e n _ (top_mem e h)
theorem mx_take_le (e : Nat → Nx) (n i : Nat) : mx ((pst e n).take i) ≤ n := by
  have : ∀ a : List Ph, (∀ y, y ∈ a → y.d ≤ n) → mx a ≤ n := by
    intro a
    induction a with
    | nil => intro _; exact Nat.zero_le _
    | cons p r ih2 => intro h; have := h p List.mem_cons_self; have := ih2 fun y hy => h y (List.mem_cons_of_mem _ hy); simp only [mx]; omega
  exact this _ fun y hy => d_le e n y (List.mem_of_mem_take hy)
theorem pst_get (e : Nat → Nx) (n i : Nat) (h : i < (stk e n).length) : (pst e n)[i]'(by rw [pst_len]; exact h) = top e (stk e n)[i] := by
  have := pst_map e n
  have h2 : (pst e n)[i]? = ((stk e n).map (top e))[i]? := by rw [← this]
  rw [List.getElem?_map, List.getElem?_eq_getElem h, List.getElem?_eq_getElem (by rw [pst_len]; exact h)] at h2
  simpa using h2
theorem mx_take_succ (e : Nat → Nx) (n i : Nat) (h : i < (stk e n).length) : mx ((pst e n).take (i + 1)) = max (mx ((pst e n).take i)) (top e (stk e n)[i]).d := by
  rw [List.take_succ_eq_append_getElem (by rw [pst_len]; exact h), mx_append, pst_get e n i h]
  simp [mx]
theorem beg_arg (e : Nat → Nx) (n i : Nat) (h : i < (stk e n).length) : beg e (stk e n)[i] = ((stk e n).drop (i + 1)).headD 0 := by
  unfold beg
  rw [(arg_end e n i h).1, List.tail_drop]
theorem drop_headD (l : List Nat) (i : Nat) (h : i < l.length) : (l.drop i).headD 0 = l[i] := by
  rw [List.drop_eq_getElem_cons h]; rfl

set_option maxRecDepth 100000 in
set_option maxHeartbeats 8000000 in
theorem l3Depth_any (a : Option Addr) (m c : Nat) (e : Nat → Nx) (hm : m ≤ 1000) (F : Nat) : ∀ (en : Nat) (w : World), en ≤ F → Nods w a m e → 1 ≤ en → en ≤ m → stkOk e en →
    Calls Tryz.prog 81 #[.slice a m c, .int .i64 en] w fun r w' => r = .returned (.int .i64 (top e en).d) ∧ Below w.heap.size w w' := by
  induction F with
  | zero => intro en w h0 _ h1; omega
  | succ F ih =>
    intro en w hF ha h1 h2 ho
    obtain ⟨n, rfl⟩ : ∃ n, en = n + 1 := ⟨en - 1, by omega⟩
    have HA := hide ha; have HO := hide ho; have HI := hide ih
    have hal := ho n (by omega)
    have har := arn_le (e n)
    have HD : Hid ((top e (n + 1)).d = mx ((pst e n).take (arn (e n))) + 1) := hide (by rw [top_succ]; show mx _ + 1 = _; rw [mx_reverse])
    have hw0 : wrap64 (((n + 1 : Nat) : Int) - 1) = (n : Int) := by rw [wrap64_small (by omega) (by omega)]; omega
    have hnm : (n : Int) < m := by omega
    clear ha ho ih
    go_enter Tryz.func81, Tryz.ntmps81
    go_wp2_with fail
    go_loopw [5, 6, 7, 8] (fun dp at_ i _ wr => ∃ k : Nat, k ≤ arn (e n) ∧ dp = .int .i64 (mx ((pst e n).take k)) ∧ at_ = .int .i64 (((stk e n).drop k).headD 0) ∧ i = .int .i64 k ∧ Below w.heap.size w wr) (fun _ _ i _ _ => arn (e n) - (intOf i).toNat)
    case atStart => exact ⟨0, Nat.zero_le _, rfl, by rw [List.drop_zero, stk_head], rfl, Below.refl _ _⟩
    case round =>
      obtain ⟨k, hk, rfl, rfl, rfl, hb⟩ := hrel
      have HB := hide hb
      have HV := hide ((unhide HA).mono hb)
      clear hb
      obtain ⟨b, o, rfl, -, c0, c1, c2, c3, c4⟩ := unhide HV n (by omega)
      go_wp2_with fail
      refine (l3NodeArity_any (e n) _).mono ?_
      rintro r w1 ⟨rfl, hb⟩
      replace HB := hide ((unhide HB).trans (hb.mono (unhide HB).size)); replace HV := hide ((unhide HV).mono hb)
      clear hb c0 c1 c2 c3 c4
      by_cases hlt : k < arn (e n)
      · have hlt' : (k : Int) < (arn (e n) : Int) := by omega
        have hkl : k < (stk e n).length := by omega
        rw [drop_headD _ _ hkl]
        obtain ⟨p, hp⟩ : ∃ p, (stk e n)[k] = p := ⟨_, rfl⟩
        have hae := arg_end e n k hkl
        have HM : Hid (mx ((pst e n).take (k + 1)) = max (mx ((pst e n).take k)) (top e p).d) := hide (by rw [mx_take_succ e n k hkl, hp])
        have HG : Hid (beg e p = ((stk e n).drop (k + 1)).headD 0) := hide (by rw [← hp]; exact beg_arg e n k hkl)
        rw [hp] at hae ⊢
        obtain ⟨-, hp1, hpn⟩ := hae
        have htd := top_d e hp1
        have hml := mx_take_le e n k
        clear hp
        go_wp2_with fail
        refine (unhide HI p _ (by omega) (unhide HV) hp1 (by omega) ((unhide HO).le (by omega))).mono ?_
        rintro r w2 ⟨rfl, hb⟩
        replace HB := hide ((unhide HB).trans (hb.mono (unhide HB).size)); replace HV := hide ((unhide HV).mono hb)
        clear hb
        obtain ⟨d, hd⟩ : ∃ d, (top e p).d = d := ⟨_, rfl⟩
        obtain ⟨q, hq⟩ : ∃ q, mx ((pst e n).take k) = q := ⟨_, rfl⟩
        rw [hd, hq] at HM; rw [hd] at htd ⊢; rw [hq] at hml ⊢
        clear hd hq
        by_cases hgt : q < d
        · have hgt' : (q : Int) < d := by omega
          go_wp2_with fail
          refine (l3Start_any _ m c e p _ hm (unhide HV) hp1 (by omega) ((unhide HO).le (by omega))).mono ?_
          rintro r w3 ⟨rfl, hb⟩
          replace HB := hide ((unhide HB).trans (hb.mono (unhide HB).size))
          clear hb
          go_wp2_with fail
          go_roundw
          case rel => first | exact ⟨k + 1, by omega, by rw [unhide HM, Nat.max_eq_right (by omega)], by rw [unhide HG], by go_num, unhide HB⟩ | ((repeat apply Exists.intro); exact ⟨⟨k + 1, by omega, by rw [unhide HM, Nat.max_eq_right (by omega)], by rw [unhide HG], by go_num, unhide HB⟩, rfl⟩)
          case measure => simp [intOf]; omega
        · have hgt' : ¬ (q : Int) < d := by omega
          go_wp2_with fail
          refine (l3Start_any _ m c e p _ hm (unhide HV) hp1 (by omega) ((unhide HO).le (by omega))).mono ?_
          rintro r w3 ⟨rfl, hb⟩
          replace HB := hide ((unhide HB).trans (hb.mono (unhide HB).size))
          clear hb
          go_wp2_with fail
          go_roundw
          case rel => first | exact ⟨k + 1, by omega, by rw [unhide HM, Nat.max_eq_left (by omega)], by rw [unhide HG], by go_num, unhide HB⟩ | ((repeat apply Exists.intro); exact ⟨⟨k + 1, by omega, by rw [unhide HM, Nat.max_eq_left (by omega)], by rw [unhide HG], by go_num, unhide HB⟩, rfl⟩)
          case measure => simp [intOf]; omega
      · obtain rfl : k = arn (e n) := by omega
        have hml := mx_take_le e n (arn (e n))
        have hlt' : ¬ ((arn (e n) : Nat) : Int) < (arn (e n) : Int) := by omega
        go_wp2_with fail
        go_ret
        exact ⟨ret_int (by rw [unhide HD]; omega), unhide HB⟩
end Go.Proofs.YtonmaniehocbbaaGreatDoor
