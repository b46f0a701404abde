import Derived.Test.YtjgngbmkpiihgaaGreatDoorGNa
import Derived.Test.YtjgngbmkpiihgaaGreatDoorZLev
import Derived.Test.YtjgngbmkpiihgaaGreatDoorGOw
/- The model's questions about a list of nodes: where a phrase begins, how deep it is, how long it is at least, whether the stack rule is kept. -/
namespace Go.Proofs.YtjgngbmkpiihgaaGreatDoor
open Go Go.RowKit

theorem stk_head {e : Nat → Nx} {i : Nat} : (stk e i).headD 0 = i := by
  cases i with
  | zero => rfl
  | succ i => rfl
theorem stk_pos {e : Nat → Nx} {n : Nat} (h : 1 ≤ n) : 1 ≤ (stk e n).length := by
  obtain ⟨k, rfl⟩ : ∃ k, n = k + 1 := ⟨n - 1, by omega⟩
  simp [stk]
theorem start_step {e : Nat → Nx} {i need : Nat} {t : List Nat} (h1 : 1 ≤ need) (h2 : need ≤ (stk e (i + 1)).length) (ho : arn (e i) ≤ (stk e i).length) (ht : t = (stk e (i + 1)).drop need) :
    need - 1 + arn (e i) ≤ (stk e i).length ∧ t = (stk e i).drop (need - 1 + arn (e i)) := by
  obtain ⟨n, rfl⟩ : ∃ n, need = n + 1 := ⟨need - 1, by omega⟩
  simp only [stk, List.length_cons, List.length_drop] at h2
  simp only [stk, List.drop_succ_cons, List.drop_drop] at ht
  refine ⟨by omega, ?_⟩
  rw [ht, show n + 1 - 1 + arn (e i) = arn (e i) + n by omega]

set_option maxRecDepth 100000 in
set_option maxHeartbeats 4000000 in
theorem l3Start_any (a : Option Addr) (m c : Nat) (e : Nat → Nx) (en : Nat) (w : World) (hm : m ≤ 1000) (ha : Nods w a m e) (h1 : 1 ≤ en) (h2 : en ≤ m) (ho : stkOk e en) :
    Calls Tryz.prog 89 #[.slice a m c, .int .i64 en] w fun r w' => r = .returned (.int .i64 (beg e en)) ∧ Below w.heap.size w w' := by
  have HA := hide ha; have HO := hide ho
  clear ha ho
  go_enter Tryz.func89, Tryz.ntmps89
  go_wp2_with fail
  go_loopw [5, 6] (fun nd i wr => ∃ (k need : Nat), nd = .int .i64 need ∧ i = .int .i64 k ∧ k ≤ en ∧ need ≤ (stk e k).length ∧ (stk e en).tail = (stk e k).drop need ∧ Below w.heap.size w wr) (fun _ i _ => (intOf i).toNat)
  case atStart => exact ⟨en, 1, rfl, rfl, Nat.le_refl _, stk_pos h1, by simp, Below.refl _ _⟩
  case round =>
    obtain ⟨k, need, rfl, rfl, hk, hn, ht, hb⟩ := hrel
    have HB := hide hb; have HT := hide ht; have HN := hide hn
    have HV := hide ((unhide HA).mono hb)
    have hl := stk_len e k
    clear hb ht hn
    by_cases hz : need = 0
    · subst hz
      have HR : Hid (beg e en = k) := hide (by unfold beg; rw [unhide HT, List.drop_zero, stk_head])
      by_cases hk0 : k = 0
      · subst hk0
        go_wp2_with fail
        go_ret
        exact ⟨ret_int (by rw [unhide HR]), unhide HB⟩
      · have hk1 : (0 : Int) < k := by omega
        go_wp2_with fail
        go_ret
        exact ⟨ret_int (by rw [unhide HR]), unhide HB⟩
    · obtain ⟨i, rfl⟩ : ∃ i, k = i + 1 := ⟨k - 1, by have := unhide HN; omega⟩
      have hst := start_step (by omega) (unhide HN) (unhide HO i (by omega)) (unhide HT)
      have HST := hide hst
      have har := arn_le (e i)
      have hn1 : need ≤ 1000 := by have := unhide HN; omega
      have hk1 : (0 : Int) < ((i + 1 : Nat) : Int) := by omega
      have hn2 : (0 : Int) < need := by omega
      have hw1 : wrap64 (((i + 1 : Nat) : Int) - 1) = (i : Int) := by rw [wrap64_small (by omega) (by omega)]; omega
      have hlt : (i : Int) < m := by omega
      obtain ⟨b, o, rfl, -, c0, c1, c2, c3, c4⟩ := unhide HV i (by omega)
      clear hst
      go_wp2_with fail
      refine (l3NodeArity_any (e i) _).mono ?_
      rintro r w1 ⟨rfl, hb⟩
      replace HB := hide ((unhide HB).trans (hb.mono (unhide HB).size))
      clear hb c0 c1 c2 c3 c4
      go_wp2_with fail
      go_roundw
      case rel => exact ⟨i, need - 1 + arn (e i), by go_num, rfl, by omega, (unhide HST).1, (unhide HST).2, unhide HB⟩
      case measure => simp [intOf]

theorem d_le (e : Nat → Nx) (n : Nat) : ∀ x, x ∈ pst e n → x.d ≤ n := by
  induction n with
  | zero => intro x hx; cases hx
  | succ n ih =>
    intro x hx
    rcases List.mem_cons.1 hx with rfl | hx
    · have : ∀ a : List Ph, (∀ y, y ∈ a → y.d ≤ n) → mx a ≤ n := by
        intro a
        induction a with
        | nil => intro _; exact Nat.zero_le _
        | cons p r ih2 => intro h; have := h p List.mem_cons_self; have := ih2 fun y hy => h y (List.mem_cons_of_mem _ hy); simp only [mx]; omega
      have := this ((pst e n).take (arn (e n))).reverse fun y hy => ih y (List.mem_of_mem_take (List.mem_reverse.1 hy))
      show mx _ + 1 ≤ n + 1
      omega
    · have := ih x (List.mem_of_mem_drop hx); omega
theorem top_mem (e : Nat → Nx) {n : Nat} (h : 1 ≤ n) : top e n ∈ pst e n := by
  obtain ⟨k, rfl⟩ : ∃ k, n = k + 1 := ⟨n - 1, by omega⟩
  exact List.mem_cons_self
theorem top_d (e : Nat → Nx) {n : Nat} (h : 1 ≤ n) : (top e n).d ≤ n := d_le e n _ (top_mem e h)
theorem mx_take_le (e : Nat → Nx) (n i : Nat) : mx ((pst e n).take i) ≤ n := by
  have : ∀ a : List Ph, (∀ y, y ∈ a → y.d ≤ n) → mx a ≤ n := by
    intro a
    induction a with
    | nil => intro _; exact Nat.zero_le _
    | cons p r ih2 => intro h; have := h p List.mem_cons_self; have := ih2 fun y hy => h y (List.mem_cons_of_mem _ hy); simp only [mx]; omega
  exact this _ fun y hy => d_le e n y (List.mem_of_mem_take hy)
theorem pst_get (e : Nat → Nx) (n i : Nat) (h : i < (stk e n).length) : (pst e n)[i]'(by rw [pst_len]; exact h) = top e (stk e n)[i] := by
  have := pst_map e n
  have h2 : (pst e n)[i]? = ((stk e n).map (top e))[i]? := by rw [← this]
  rw [List.getElem?_map, List.getElem?_eq_getElem h, List.getElem?_eq_getElem (by rw [pst_len]; exact h)] at h2
  simpa using h2
theorem mx_take_succ (e : Nat → Nx) (n i : Nat) (h : i < (stk e n).length) : mx ((pst e n).take (i + 1)) = max (mx ((pst e n).take i)) (top e (stk e n)[i]).d := by
  rw [List.take_succ_eq_append_getElem (by rw [pst_len]; exact h), mx_append, pst_get e n i h]
  simp [mx]
theorem beg_arg (e : Nat → Nx) (n i : Nat) (h : i < (stk e n).length) : beg e (stk e n)[i] = ((stk e n).drop (i + 1)).headD 0 := by
  unfold beg
  rw [(arg_end e n i h).1, List.tail_drop]
theorem drop_headD (l : List Nat) (i : Nat) (h : i < l.length) : (l.drop i).headD 0 = l[i] := by
  rw [List.drop_eq_getElem_cons h]; rfl

set_option maxRecDepth 100000 in
set_option maxHeartbeats 8000000 in
theorem l3Depth_any (a : Option Addr) (m c : Nat) (e : Nat → Nx) (hm : m ≤ 1000) (F : Nat) : ∀ (en : Nat) (w : World), en ≤ F → Nods w a m e → 1 ≤ en → en ≤ m → stkOk e en →
    Calls Tryz.prog 49 #[.slice a m c, .int .i64 en] w fun r w' => r = .returned (.int .i64 (top e en).d) ∧ Below w.heap.size w w' := by
  induction F with
  | zero => intro en w h0 _ h1; omega
  | succ F ih =>
    intro en w hF ha h1 h2 ho
    obtain ⟨n, rfl⟩ : ∃ n, en = n + 1 := ⟨en - 1, by omega⟩
    have HA := hide ha; have HO := hide ho; have HI := hide ih
    have hal := ho n (by omega)
    have har := arn_le (e n)
    have HD : Hid ((top e (n + 1)).d = mx ((pst e n).take (arn (e n))) + 1) := hide (by rw [top_succ]; show mx _ + 1 = _; rw [mx_reverse])
    have hw0 : wrap64 (((n + 1 : Nat) : Int) - 1) = (n : Int) := by rw [wrap64_small (by omega) (by omega)]; omega
    have hnm : (n : Int) < m := by omega
    clear ha ho ih
    go_enter Tryz.func49, Tryz.ntmps49
    go_wp2_with fail
    go_loopw [5, 6, 7, 8] (fun dp at_ i _ wr => ∃ k : Nat, k ≤ arn (e n) ∧ dp = .int .i64 (mx ((pst e n).take k)) ∧ at_ = .int .i64 (((stk e n).drop k).headD 0) ∧ i = .int .i64 k ∧ Below w.heap.size w wr) (fun _ _ i _ _ => arn (e n) - (intOf i).toNat)
    case atStart => exact ⟨0, Nat.zero_le _, rfl, by rw [List.drop_zero, stk_head], rfl, Below.refl _ _⟩
    case round =>
      obtain ⟨k, hk, rfl, rfl, rfl, hb⟩ := hrel
      have HB := hide hb
      have HV := hide ((unhide HA).mono hb)
      clear hb
      obtain ⟨b, o, rfl, -, c0, c1, c2, c3, c4⟩ := unhide HV n (by omega)
      go_wp2_with fail
      refine (l3NodeArity_any (e n) _).mono ?_
      rintro r w1 ⟨rfl, hb⟩
      replace HB := hide ((unhide HB).trans (hb.mono (unhide HB).size)); replace HV := hide ((unhide HV).mono hb)
      clear hb c0 c1 c2 c3 c4
      by_cases hlt : k < arn (e n)
      · have hlt' : (k : Int) < (arn (e n) : Int) := by omega
        have hkl : k < (stk e n).length := by omega
        rw [drop_headD _ _ hkl]
        obtain ⟨p, hp⟩ : ∃ p, (stk e n)[k] = p := ⟨_, rfl⟩
        have hae := arg_end e n k hkl
        have HM : Hid (mx ((pst e n).take (k + 1)) = max (mx ((pst e n).take k)) (top e p).d) := hide (by rw [mx_take_succ e n k hkl, hp])
        have HG : Hid (beg e p = ((stk e n).drop (k + 1)).headD 0) := hide (by rw [← hp]; exact beg_arg e n k hkl)
        rw [hp] at hae ⊢
        obtain ⟨-, hp1, hpn⟩ := hae
        have htd := top_d e hp1
        have hml := mx_take_le e n k
        clear hp
        go_wp2_with fail
        refine (unhide HI p _ (by omega) (unhide HV) hp1 (by omega) ((unhide HO).le (by omega))).mono ?_
        rintro r w2 ⟨rfl, hb⟩
        replace HB := hide ((unhide HB).trans (hb.mono (unhide HB).size)); replace HV := hide ((unhide HV).mono hb)
        clear hb
        obtain ⟨d, hd⟩ : ∃ d, (top e p).d = d := ⟨_, rfl⟩
        obtain ⟨q, hq⟩ : ∃ q, mx ((pst e n).take k) = q := ⟨_, rfl⟩
        rw [hd, hq] at HM; rw [hd] at htd ⊢; rw [hq] at hml ⊢
        clear hd hq
        by_cases hgt : q < d
        · have hgt' : (q : Int) < d := by omega
          go_wp2_with fail
          refine (l3Start_any _ m c e p _ hm (unhide HV) hp1 (by omega) ((unhide HO).le (by omega))).mono ?_
          rintro r w3 ⟨rfl, hb⟩
          replace HB := hide ((unhide HB).trans (hb.mono (unhide HB).size))
          clear hb
          go_wp2_with fail
          go_roundw
          case rel => first | exact ⟨k + 1, by omega, by rw [unhide HM, Nat.max_eq_right (by omega)], by rw [unhide HG], by go_num, unhide HB⟩ | ((repeat apply Exists.intro); exact ⟨⟨k + 1, by omega, by rw [unhide HM, Nat.max_eq_right (by omega)], by rw [unhide HG], by go_num, unhide HB⟩, rfl⟩)
          case measure => simp [intOf]; omega
        · have hgt' : ¬ (q : Int) < d := by omega
          go_wp2_with fail
          refine (l3Start_any _ m c e p _ hm (unhide HV) hp1 (by omega) ((unhide HO).le (by omega))).mono ?_
          rintro r w3 ⟨rfl, hb⟩
          replace HB := hide ((unhide HB).trans (hb.mono (unhide HB).size))
          clear hb
          go_wp2_with fail
          go_roundw
          case rel => first | exact ⟨k + 1, by omega, by rw [unhide HM, Nat.max_eq_left (by omega)], by rw [unhide HG], by go_num, unhide HB⟩ | ((repeat apply Exists.intro); exact ⟨⟨k + 1, by omega, by rw [unhide HM, Nat.max_eq_left (by omega)], by rw [unhide HG], by go_num, unhide HB⟩, rfl⟩)
          case measure => simp [intOf]; omega
      · obtain rfl : k = arn (e n) := by omega
        have hml := mx_take_le e n (arn (e n))
        have hlt' : ¬ ((arn (e n) : Nat) : Int) < (arn (e n) : Int) := by omega
        go_wp2_with fail
        go_ret
        exact ⟨ret_int (by rw [unhide HD]; omega), unhide HB⟩
end Go.Proofs.YtjgngbmkpiihgaaGreatDoor

/- The model: whether the stack rule is kept; how long a list is at least when printed; the ends of an operator's arguments. -/
namespace Go.Proofs.YtjgngbmkpiihgaaGreatDoor
open Go Go.RowKit

def stB (e : Nat → Nx) (m : Nat) : Bool := ((List.range m).all fun k => decide (arn (e k) ≤ (stk e k).length)) && decide ((stk e m).length = 1)
theorem stB_iff (e : Nat → Nx) (m : Nat) : stB e m = true ↔ stkOk e m ∧ (stk e m).length = 1 := by
  unfold stB stkOk
  simp [List.all_eq_true]
theorem stB_no {e : Nat → Nx} {m k : Nat} (hk : k < m) (h : (stk e k).length < arn (e k)) : stB e m = false := by
  cases hb : stB e m
  · rfl
  · have := ((stB_iff e m).1 hb).1 k hk; omega
theorem stB_end {e : Nat → Nx} {m : Nat} (h : stkOk e m) : stB e m = decide ((stk e m).length = 1) := by
  rw [Bool.eq_iff_iff, stB_iff, decide_eq_true_eq]
  exact ⟨fun x => x.2, fun x => ⟨h, x⟩⟩

set_option maxRecDepth 100000 in
set_option maxHeartbeats 4000000 in
theorem l3Stack_any (a : Option Addr) (m c : Nat) (e : Nat → Nx) (w : World) (hm : m ≤ 1000) (ha : Nods w a m e) :
    Calls Tryz.prog 48 #[.slice a m c] w fun r w' => r = .returned (.bool (stB e m)) ∧ Below w.heap.size w w' := by
  have HA := hide ha
  clear ha
  go_enter Tryz.func48, Tryz.ntmps48
  go_wp2_with fail
  go_loopw [3, 4, 5] (fun hd i _ wr => ∃ k : Nat, k ≤ m ∧ hd = .int .i64 (stk e k).length ∧ i = .int .i64 k ∧ stkOk e k ∧ Below w.heap.size w wr) (fun _ i _ _ => m - (intOf i).toNat)
  case atStart => exact ⟨0, Nat.zero_le _, rfl, rfl, fun k hk => absurd hk (Nat.not_lt_zero _), Below.refl _ _⟩
  case round =>
    obtain ⟨k, hk, rfl, rfl, hok, hb⟩ := hrel
    have HB := hide hb; have HK := hide hok
    have HV := hide ((unhide HA).mono hb)
    have hl := stk_len e k
    clear hb hok
    by_cases hlt : k < m
    · have hlt' : (k : Int) < m := by omega
      obtain ⟨b, o, rfl, -, c0, c1, c2, c3, c4⟩ := unhide HV k hlt
      go_wp2_with fail
      refine (l3NodeArity_any (e k) _).mono ?_
      rintro r w1 ⟨rfl, hb⟩
      replace HB := hide ((unhide HB).trans (hb.mono (unhide HB).size))
      clear hb c0 c1 c2 c3 c4
      have har := arn_le (e k)
      have HS : Hid ((stk e (k + 1)).length = (stk e k).length - arn (e k) + 1) := hide (by simp [stk])
      obtain ⟨x, hx⟩ : ∃ x, arn (e k) = x := ⟨_, rfl⟩
      obtain ⟨y, hy⟩ : ∃ y, (stk e k).length = y := ⟨_, rfl⟩
      by_cases hgt : y < x
      · have hgt' : (y : Int) < x := by omega
        have HN : Hid (stB e m = false) := hide (stB_no hlt (by rw [hx, hy]; exact hgt))
        rw [hx, hy]
        clear hx hy HS
        go_wp2_with fail
        go_ret
        exact ⟨ret_bool (unhide HN).symm, unhide HB⟩
      · have hgt' : ¬ (y : Int) < x := by omega
        have HN : Hid (stkOk e (k + 1)) := hide fun j hj => by
          by_cases ej : j = k
          · subst ej; rw [hx, hy]; omega
          · exact unhide HK j (by omega)
        rw [hx, hy] at HS ⊢; rw [hx] at har; rw [hy] at hl
        clear hx hy
        go_wp2_with fail
        go_roundw
        case rel => exact ⟨k + 1, by omega, by rw [unhide HS]; go_num, by go_num, unhide HN, unhide HB⟩
        case measure => simp [intOf]; omega
    · obtain rfl : k = m := by omega
      have HN := hide (stB_end (unhide HK))
      obtain ⟨y, hy⟩ : ∃ y, (stk e k).length = y := ⟨_, rfl⟩
      rw [hy] at HN ⊢
      clear hy hl
      go_wp2_with fail
      go_ret
      exact ⟨ret_bool (by rw [unhide HN, Bool.eq_iff_iff]; simp; omega), unhide HB⟩

theorem txtSum_le {e : Nat → Nx} {m : Nat} (h : ∀ k, k < m → (e k).v.s.size ≤ 1000) : ∀ k, k ≤ m → txtSum e k ≤ 1001 * k := by
  intro k
  induction k with
  | zero => intro _; exact Nat.le_refl _
  | succ k ih => intro hk; have := ih (by omega); have := h k (by omega); simp only [txtSum]; omega

set_option maxRecDepth 100000 in
set_option maxHeartbeats 4000000 in
theorem l3PrintSize_any (a : Option Addr) (m c : Nat) (e : Nat → Nx) (w : World) (hm : m ≤ 1000) (ha : Nods w a m e) (hs : ∀ k, k < m → (e k).v.s.size ≤ 1000) :
    Calls Tryz.prog 50 #[.slice a m c] w fun r w' => r = .returned (.int .i64 (txtSum e m)) ∧ Below w.heap.size w w' := by
  have HA := hide ha; have HT := hide (txtSum_le hs); have HS := hide hs
  clear ha hs
  go_enter Tryz.func50, Tryz.ntmps50
  go_wp2_with fail
  go_loopw [3, 4] (fun n i wr => ∃ k : Nat, k ≤ m ∧ n = .int .i64 (txtSum e k) ∧ i = .int .i64 k ∧ Below w.heap.size w wr) (fun _ i _ => m - (intOf i).toNat)
  case atStart => exact ⟨0, Nat.zero_le _, rfl, rfl, Below.refl _ _⟩
  case round =>
    obtain ⟨k, hk, rfl, rfl, hb⟩ := hrel
    have HB := hide hb
    have HV := hide ((unhide HA).mono hb)
    have ht := unhide HT k hk
    clear hb
    by_cases hlt : k < m
    · have hlt' : (k : Int) < m := by omega
      obtain ⟨b, o, rfl, -, c0, c1, c2, c3, c4⟩ := unhide HV k hlt
      have hsk := unhide HS k hlt
      have HE : Hid (txtSum e (k + 1) = txtSum e k + 1 + (e k).v.s.size) := hide rfl
      obtain ⟨y, hy⟩ : ∃ y, txtSum e k = y := ⟨_, rfl⟩
      rw [hy] at HE ht ⊢
      clear hy
      go_wp2_with fail
      go_roundw
      case rel => exact ⟨k + 1, by omega, by rw [unhide HE]; go_num, by go_num, unhide HB⟩
      case measure => simp [intOf]; omega
    · obtain rfl : k = m := by omega
      go_wp2_with fail
      go_ret
      exact ⟨rfl, unhide HB⟩
end Go.Proofs.YtjgngbmkpiihgaaGreatDoor

/- The model: the ends of an operator's arguments. -/
namespace Go.Proofs.YtjgngbmkpiihgaaGreatDoor
open Go Go.RowKit

/-- The ends of the arguments of the operator that ends just behind n, the first argument first. -/
def argsOf (e : Nat → Nx) (n : Nat) : List Nat := ((stk e n).take (arn (e n))).reverse
theorem argsOf_len {e : Nat → Nx} {n : Nat} (h : arn (e n) ≤ (stk e n).length) : (argsOf e n).length = arn (e n) := by
  unfold argsOf; rw [List.length_reverse, List.length_take]; omega
theorem argsOf_mem {e : Nat → Nx} {n p : Nat} (h : p ∈ argsOf e n) : 1 ≤ p ∧ p ≤ n := by
  unfold argsOf at h
  have h := List.mem_of_mem_take (List.mem_reverse.1 h)
  obtain ⟨i, hi, rfl⟩ := List.mem_iff_getElem.1 h
  exact (arg_end e n i hi).2
theorem argsOf_map (e : Nat → Nx) (n : Nat) : (argsOf e n).map (top e) = ((pst e n).take (arn (e n))).reverse := by
  unfold argsOf; rw [List.map_reverse, List.map_take, ← pst_map]

set_option maxRecDepth 100000 in
set_option maxHeartbeats 8000000 in
theorem l3Args_any (a : Option Addr) (m c : Nat) (e : Nat → Nx) (n : Nat) (w : World) (hm : m ≤ 1000) (ha : Nods w a m e) (h2 : n + 1 ≤ m) (ho : stkOk e (n + 1)) :
    Calls Tryz.prog 52 #[.slice a m c, .int .i64 ((n + 1 : Nat) : Int)] w fun r w' => ∃ a0 c0, r = .returned (.slice a0 (arn (e n)) c0) ∧ Ints w' a0 (arn (e n)) (fun k => (((argsOf e n).getD k 0 : Nat) : Int)) ∧ Below w.heap.size w w' := by
  have HA := hide ha; have HO := hide ho
  have hal := ho n (by omega)
  have har := arn_le (e n)
  have hw0 : wrap64 (((n + 1 : Nat) : Int) - 1) = (n : Int) := by rw [wrap64_small (by omega) (by omega)]; omega
  have hnm : (n : Int) < m := by omega
  have HB0 : Hid (Below w.heap.size w (w.alloc (.cells #[] 3))) := hide ((Below.refl _ _).alloc (Nat.le_refl _) _)
  clear ha ho
  go_enter Tryz.func52, Tryz.ntmps52
  go_wp2_with fail
  go_loopw [5, 6, 7, 8, 9] (fun out at_ i _ _ wr => ∃ (k : Nat) (a0 : Option Addr) (c0 : Nat), k ≤ arn (e n) ∧ out = .slice a0 k c0 ∧ Ints wr a0 k (fun j => (((((stk e n).take k).reverse).getD j 0 : Nat) : Int)) ∧ at_ = .int .i64 (((stk e n).drop k).headD 0) ∧ i = .int .i64 k ∧ Below w.heap.size w wr) (fun _ _ i _ _ _ => arn (e n) - (intOf i).toNat)
  case atStart => exact ⟨0, _, _, Nat.zero_le _, rfl, fun j hj => absurd hj (Nat.not_lt_zero _), by rw [List.drop_zero, stk_head], rfl, unhide HB0⟩
  case round =>
    obtain ⟨k, a0, c0, hk, rfl, hI, rfl, rfl, hb⟩ := hrel
    have HB := hide hb; have HI := hide hI
    have HV := hide ((unhide HA).mono hb)
    clear hb hI HB0
    obtain ⟨b, o, rfl, -, z0, z1, z2, z3, z4⟩ := unhide HV n (by omega)
    go_wp2_with fail
    refine (l3NodeArity_any (e n) _).mono ?_
    rintro r w1 ⟨rfl, hb⟩
    replace HB := hide ((unhide HB).trans (hb.mono (unhide HB).size)); replace HV := hide ((unhide HV).mono hb); replace HI := hide ((unhide HI).mono hb)
    clear hb z0 z1 z2 z3 z4
    by_cases hlt : k < arn (e n)
    · have hlt' : (k : Int) < (arn (e n) : Int) := by omega
      have hkl : k < (stk e n).length := by omega
      rw [drop_headD _ _ hkl]
      obtain ⟨p, hp⟩ : ∃ p, (stk e n)[k] = p := ⟨_, rfl⟩
      have hae := arg_end e n k hkl
      have HG : Hid (beg e p = ((stk e n).drop (k + 1)).headD 0) := hide (by rw [← hp]; exact beg_arg e n k hkl)
      have HL : Hid (((stk e n).take (k + 1)).reverse = p :: ((stk e n).take k).reverse) := hide (by rw [List.take_succ_eq_append_getElem hkl, List.reverse_append, hp]; rfl)
      have hlen : (((stk e n).take k).reverse).length = k := by rw [List.length_reverse, List.length_take]; omega
      obtain ⟨l, hl⟩ : ∃ l, ((stk e n).take k).reverse = l := ⟨_, rfl⟩
      rw [hl] at HL HI hlen
      rw [hp] at hae ⊢
      obtain ⟨-, hp1, hpn⟩ := hae
      clear hp hl
      obtain ⟨Wo, rfl⟩ : ∃ Wo, Wo = w1 := ⟨_, rfl⟩
      have HN0 := hide (owns_one Wo 3 (.int .i64 (p : Int)))
      have HB1 : Hid (Below Wo.heap.size Wo (Wo.alloc (.cells #[.int .i64 (p : Int)] 3))) := hide ((Below.refl _ _).alloc (Nat.le_refl _) _)
      go_wp2_with fail
      go_loopw [8, 9] (fun nx j w2 => ∃ q : Nat, q ≤ k ∧ j = .int .i64 q ∧ w2.ownsRow Wo.heap.size 3 1 nx (q + 1) (ui (p :: l.take q)) ∧ Below Wo.heap.size Wo w2) (fun _ j _ => k - (intOf j).toNat)
      case atStart => exact ⟨0, Nat.zero_le _, rfl, unhide HN0, unhide HB1⟩
      case round =>
        clear HN0 HB1
        obtain ⟨q, hq, rfl, hO, hb1⟩ := hrel
        have HO1 := hide hO; have HB1 := hide hb1
        have HI2 := hide ((unhide HI).mono hb1)
        clear hO hb1
        by_cases hlq : q < k
        · have hlq' : (q : Int) < k := by omega
          obtain ⟨b1, o1, rfl, -, hc⟩ := unhide HI2 q hlq
          have HX : Hid (l.take (q + 1) = l.take q ++ [l.getD q 0]) := hide (by rw [List.take_succ_eq_append_getElem (by omega), List.getD_eq_getElem?_getD, List.getElem?_eq_getElem (by omega)]; rfl)
          obtain ⟨y, hy⟩ : ∃ y, l.getD q 0 = y := ⟨_, rfl⟩
          simp only [hy] at hc
          rw [hy] at HX
          clear hy
          obtain ⟨i0, hi, hz0, hz1, hz2⟩ := info_parts infoI
          go_wp2_with (at_builtin; refine wpList_append_own _ rfl _ _ 80 rfl Wo.heap.size 3 i0 _ 1 8 Tryz.underlying80 hi hz0 hz1 hz2 rfl (by omega) _ _ _ rfl ((unhide HO1).alloc _) ⟨wr.heap.size, 0, none⟩ 1 1 [.int .i64 (y : Int)] rfl rfl (cell_one wr 3 _) (by simp [Value.oneCell']) (by unfold maxLen; omega) (by omega) (by have := (unhide HB1).size; simp; omega) ?_)
          intro v' w3 ho' hgr' _
          have hB2 := ((unhide HB1).alloc (unhide HB1).size (.cells #[.int .i64 (y : Int)] 3)).grown hgr' (by have := (unhide HB1).size; simp; omega) (fun q' e => owns_block (unhide HO1) e)
          have HO2 : Hid (w3.ownsRow Wo.heap.size 3 1 v' (q + 1 + 1) (ui (p :: l.take (q + 1)))) := hide (by rw [unhide HX]; simpa [ui] using ho')
          have HB2 := hide hB2
          clear ho' hgr' hB2 hi hz0 hz1 hz2 HO1 HB1 hc
          go_wp2_with fail
          go_roundw
          case rel => exact ⟨q + 1, by omega, by go_num, unhide HO2, unhide HB2⟩
          case measure => simp [intOf]; omega
        · obtain rfl : q = k := by omega
          have hI3 := unhide HO1
          rw [List.take_of_length_le (by omega)] at hI3
          obtain ⟨a1, c1, rfl, hI4⟩ := ints_of_owns hI3
          rw [← unhide HL] at hI4
          have HI4 := hide hI4
          have HB2 := hide ((unhide HB).trans ((unhide HB1).mono (unhide HB).size)); have HV2 := hide ((unhide HV).mono (unhide HB1))
          clear hI3 hI4 HO1 HB1 HI2
          go_wp2_with fail
          refine (l3Start_any _ m c e p _ hm (unhide HV2) hp1 (by omega) ((unhide HO).le (by omega))).mono ?_
          rintro r w4 ⟨rfl, hb⟩
          replace HB2 := hide ((unhide HB2).trans (hb.mono (unhide HB2).size)); replace HI4 := hide ((unhide HI4).mono hb)
          clear hb
          go_wp2_with fail
          go_roundw
          case rel => first | exact ⟨q + 1, _, _, by omega, rfl, unhide HI4, by rw [unhide HG], by go_num, unhide HB2⟩ | ((repeat apply Exists.intro); exact ⟨⟨q + 1, _, _, by omega, rfl, unhide HI4, by rw [unhide HG], by go_num, unhide HB2⟩, rfl⟩)
          case measure => simp [intOf]; omega
    · obtain rfl : k = arn (e n) := by omega
      have hlt' : ¬ ((arn (e n) : Nat) : Int) < (arn (e n) : Int) := by omega
      go_wp2_with fail
      go_ret
      exact ⟨_, _, rfl, unhide HI, unhide HB⟩
end Go.Proofs.YtjgngbmkpiihgaaGreatDoor
