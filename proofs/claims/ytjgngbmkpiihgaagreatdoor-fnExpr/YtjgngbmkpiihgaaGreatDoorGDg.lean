import Derived.Test.YtjgngbmkpiihgaaGreatDoorGDb
/- The model's drawing of expressions: long ones. -/
namespace Go.Proofs.YtjgngbmkpiihgaaGreatDoor
open Go Go.RowKit

def nOne : Nx := ⟨0, ⟨1, 1, ⟨#[]⟩⟩, ⟨#[]⟩⟩
def nOp (op : Int) : Nx := ⟨op, ⟨0, 0, ⟨#[]⟩⟩, ⟨#[]⟩⟩
/-- A sum of ones, grouped from the left or from the right. -/
def chL (right : Bool) : Nat → List Nx
  | 0 => []
  | k + 1 => if k = 0 ∨ right = true then chL right k ++ [nOne] else chL right k ++ [nOne] ++ [nOp 7]
def chR (l : List Nx) : Nat → List Nx
  | 0 => l
  | k + 1 => chR l k ++ [nOp 7]
theorem chL_ok (right : Bool) (k : Nat) : (chL right k).length ≤ 2 * k ∧ ∀ n, n ∈ chL right k → FitS n := by
  induction k with
  | zero => exact ⟨Nat.le_refl _, fun n hn => by cases hn⟩
  | succ k ih =>
    have f1 : FitS nOne := FitS.cst _ _ (Nat.zero_le _) (by omega) (by omega)
    have f2 : FitS (nOp 7) := FitS.opn (by omega) (by omega)
    unfold chL
    split
    · refine ⟨by rw [List.length_append, List.length_singleton]; omega, fun n hn => ?_⟩
      rcases List.mem_append.1 hn with h | h
      · exact ih.2 n h
      · obtain rfl := List.mem_singleton.1 h; exact f1
    · refine ⟨by rw [List.length_append, List.length_append, List.length_singleton, List.length_singleton]; omega, fun n hn => ?_⟩
      rcases List.mem_append.1 hn with h | h
      · rcases List.mem_append.1 h with h | h
        · exact ih.2 n h
        · obtain rfl := List.mem_singleton.1 h; exact f1
      · obtain rfl := List.mem_singleton.1 h; exact f2
theorem chR_ok {l : List Nx} (hl : ∀ n, n ∈ l → FitS n) (k : Nat) : (chR l k).length = l.length + k ∧ ∀ n, n ∈ chR l k → FitS n := by
  induction k with
  | zero => exact ⟨rfl, hl⟩
  | succ k ih =>
    refine ⟨by rw [chR, List.length_append, List.length_singleton]; omega, fun n hn => ?_⟩
    rcases List.mem_append.1 hn with h | h
    · exact ih.2 n h
    · obtain rfl := List.mem_singleton.1 h; exact FitS.opn (by omega) (by omega)

set_option maxRecDepth 100000 in
set_option maxHeartbeats 4000000 in
theorem l3Chain_any (n : Nat) (right : Bool) (hn : n ≤ 100) (w : World) :
    Calls Tryz.prog 17 #[.int .i64 n, .bool right] w fun e w' => ∃ v, e = .returned v ∧ OwnN w' w.heap.size v (if right = true then chR (chL true n) (n - 1) else chL false n) ∧ Below w.heap.size w w' := by
  obtain ⟨R, hR⟩ : ∃ R, (if right = true then chR (chL true n) (n - 1) else chL false n) = R := ⟨_, rfl⟩
  rw [hR]
  have HR := hide hR
  clear hR
  have HB0 := hide ((Below.refl w.heap.size w).alloc (Nat.le_refl _) (.cells #[] 41))
  have HO0 := hide (OwnN.none w)
  obtain ⟨W0, hW0⟩ : ∃ W0, w.alloc (.cells #[] 41) = W0 := ⟨_, rfl⟩
  rw [hW0] at HB0 HO0
  go_enter Tryz.func17, Tryz.ntmps17
  go_wp2_with fail
  try rw [hW0]
  clear hW0
  go_loopw [5, 6] (fun v i wr => ∃ k : Nat, k ≤ n ∧ i = .int .i64 k ∧ OwnN wr w.heap.size v (chL right k) ∧ Below w.heap.size w wr) (fun _ i _ => n - (intOf i).toNat)
  case atStart => exact ⟨0, Nat.zero_le _, rfl, unhide HO0, unhide HB0⟩
  case round =>
    clear HO0 HB0
    obtain ⟨k, hk, rfl, ho, hb⟩ := hrel
    have HO := hide ho; have HB := hide hb
    have HLk := hide (chL_ok right k).1
    clear ho hb
    by_cases hlt : k < n
    · have hlt' : (k : Int) < n := by omega
      go_wp2_with fail
      refine (l2Int_any _ _).mono ?_
      rintro e w1 ⟨rfl, hb1⟩
      replace HO := hide ((unhide HO).keep hb1); replace HB := hide ((unhide HB).trans (hb1.mono (unhide HB).size))
      clear hb1
      go_wp2_with fail
      refine (l3Const_any _ _ _ _).mono ?_
      rintro e w1 ⟨rfl, hb1⟩
      replace HO := hide ((unhide HO).keep hb1); replace HB := hide ((unhide HB).trans (hb1.mono (unhide HB).size))
      clear hb1
      have HN : Hid (Blk _ _ 41 (nC nOne)) := hide (Blk.new w1 41 (nC nOne).toArray)
      have HS := hide ((Below.refl w1.heap.size w1).alloc (Nat.le_refl _) (.cells (nC nOne).toArray 41))
      replace HO := hide ((unhide HO).keep (unhide HS)); replace HB := hide ((unhide HB).trans ((unhide HS).mono (unhide HB).size))
      go_wp2_with (at_builtin; refine append_node rfl _ _ rfl rfl (unhide HO) rfl (unhide HN) (by have := unhide HLk; omega) (unhide HB).size ?_)
      intro v' W9 ho hb9
      have HO9 := hide ho; have HB9 := hide ((unhide HB).trans hb9)
      clear ho hb9 HN HS
      by_cases h0 : k = 0 ∨ right = true
      · have HT : Hid (chL right (k + 1) = chL right k ++ [nOne]) := hide (by rw [chL, if_pos h0])
        rw [← unhide HT] at HO9
        have h0' : ¬ (0 : Int) < k ∨ ((0 : Int) < k ∧ right = true) := by
          rcases h0 with h | h
          · exact .inl (by omega)
          · by_cases hk0 : (0 : Int) < k
            · exact .inr ⟨hk0, h⟩
            · exact .inl hk0
        clear h0
        rcases h0' with h0 | ⟨h0, rfl⟩
        all_goals
          go_wp2_with fail
          go_roundw
          case rel => exact ⟨k + 1, by omega, by go_num, unhide HO9, unhide HB9⟩
          case measure => simp [intOf]; omega
      · have HT : Hid (chL right (k + 1) = chL right k ++ [nOne, nOp 7]) := hide (by rw [chL, if_neg h0, List.append_assoc]; rfl)
        have h1 : (0 : Int) < k := by omega
        obtain rfl : right = false := by cases right <;> simp_all
        clear h0
        go_wp2_with fail
        refine (l3OpNode_any _ _).mono ?_
        rintro e w2 ⟨rfl, hb2⟩
        replace HO9 := hide ((unhide HO9).keep hb2); replace HB9 := hide ((unhide HB9).trans (hb2.mono (unhide HB9).size))
        clear hb2
        have HN : Hid (Blk _ _ 41 (nC (nOp 7))) := hide (Blk.new w2 41 (nC (nOp 7)).toArray)
        have HS := hide ((Below.refl w2.heap.size w2).alloc (Nat.le_refl _) (.cells (nC (nOp 7)).toArray 41))
        replace HO9 := hide ((unhide HO9).keep (unhide HS)); replace HB9 := hide ((unhide HB9).trans ((unhide HS).mono (unhide HB9).size))
        go_wp2_with (at_builtin; refine append_node rfl _ _ rfl rfl (unhide HO9) rfl (unhide HN) (by have := unhide HLk; rw [List.length_append, List.length_singleton]; omega) (unhide HB9).size ?_)
        intro v2 W2 ho hb9
        rw [← unhide HT] at ho
        have HOZ := hide ho; have HBZ := hide ((unhide HB9).trans hb9)
        clear ho hb9 HN HS
        go_wp2_with fail
        go_roundw
        case rel => exact ⟨k + 1, by omega, by go_num, unhide HOZ, unhide HBZ⟩
        case measure => simp [intOf]; omega
    · obtain rfl : k = n := by omega
      have hlt' : ¬ (k : Int) < k := by omega
      cases right
      · rw [if_neg (by decide)] at HR
        rw [unhide HR] at HO
        by_cases h1 : (1 : Int) < k
        all_goals
          go_wp2_with fail
          go_loopw [5, 7] (fun v i wz => i = .int .i64 1 ∧ v = u5 ∧ wz = wr) (fun _ _ _ => 0)
          case atStart => exact ⟨rfl, rfl, rfl⟩
          case round =>
            obtain ⟨rfl, rfl, rfl⟩ := hrel
            go_wp2_with fail
            go_ret
            exact ⟨_, rfl, unhide HO, unhide HB⟩
      · rw [if_pos rfl] at HR
        go_wp2_with fail
        go_loopw [5, 7] (fun v i wz => ∃ j : Nat, j ≤ k - 1 ∧ i = .int .i64 ((j + 1 : Nat) : Int) ∧ OwnN wz w.heap.size v (chR (chL true k) j) ∧ Below w.heap.size w wz) (fun _ i _ => k + 1 - (intOf i).toNat)
        case atStart => exact ⟨0, Nat.zero_le _, rfl, unhide HO, unhide HB⟩
        case round =>
          clear HO HB
          obtain ⟨j, hj, rfl, ho, hb⟩ := hrel
          have HO := hide ho; have HB := hide hb
          have HLj := hide (chR_ok (chL_ok true k).2 j).1
          clear ho hb
          by_cases h1 : j + 1 < k
          · have h1' : ((j + 1 : Nat) : Int) < k := by omega
            have h1'' : (j : Int) + 1 < k := by omega
            go_wp2_with fail
            refine (l3OpNode_any _ _).mono ?_
            rintro e w2 ⟨rfl, hb2⟩
            replace HO := hide ((unhide HO).keep hb2); replace HB := hide ((unhide HB).trans (hb2.mono (unhide HB).size))
            clear hb2
            have HN : Hid (Blk _ _ 41 (nC (nOp 7))) := hide (Blk.new w2 41 (nC (nOp 7)).toArray)
            have HS := hide ((Below.refl w2.heap.size w2).alloc (Nat.le_refl _) (.cells (nC (nOp 7)).toArray 41))
            replace HO := hide ((unhide HO).keep (unhide HS)); replace HB := hide ((unhide HB).trans ((unhide HS).mono (unhide HB).size))
            go_wp2_with (at_builtin; refine append_node rfl _ _ rfl rfl (unhide HO) rfl (unhide HN) (by have := unhide HLj; have := unhide HLk; omega) (unhide HB).size ?_)
            intro v2 W2 ho hb9
            have HOZ := hide ho; have HBZ := hide ((unhide HB).trans hb9)
            clear ho hb9 HN HS
            go_wp2_with fail
            go_roundw
            case rel => exact ⟨j + 1, by omega, by go_num, unhide HOZ, unhide HBZ⟩
            case measure => simp [intOf]; omega
          · obtain rfl : j = k - 1 := by omega
            have h1' : ¬ ((k - 1 + 1 : Nat) : Int) < k := by omega
            rw [unhide HR] at HO
            go_wp2_with fail
            go_ret
            exact ⟨_, rfl, unhide HO, unhide HB⟩
end Go.Proofs.YtjgngbmkpiihgaaGreatDoor

/- The model's drawing of expressions: flat ones; two nodes at once. -/
namespace Go.Proofs.YtjgngbmkpiihgaaGreatDoor
open Go Go.RowKit

theorem OwnN.two (w : World) (n m : Nx) : OwnN (w.alloc (.cells #[.int .i64 n.op, .int .i64 n.v.k, .int .i64 n.v.n, .string n.v.s, .string n.nm, .int .i64 m.op, .int .i64 m.v.k, .int .i64 m.v.n, .string m.v.s, .string m.nm] 41)) w.heap.size (.slice (some ⟨w.heap.size, 0, .none⟩) 2 2) [n, m] :=
  ⟨rfl, .inr ⟨w.heap.size, 2, _, rfl, Nat.le_refl _, heap_alloc_new w (.cells #[.int .i64 n.op, .int .i64 n.v.k, .int .i64 n.v.n, .string n.v.s, .string n.nm, .int .i64 m.op, .int .i64 m.v.k, .int .i64 m.v.n, .string m.v.s, .string m.nm] 41), Nat.le_refl _, by unfold maxLen; omega, rfl, rfl⟩⟩
/-- Two nodes more. -/
theorem append_two {ops : Array Oper} {rest : List Oper} {o : Oper} {a : Act} {Q : Exit → Act → World → Prop} {w : World} (hgd : o.guard = .none) (s x : Operand)
    (ho : o.op = .call { callee := .builtin .append, args := #[s, x], argTypes := #[23, 23] }) {base : Nat} {v : Value} {l : List Nx} (hs : a.eval s = v) (hown : OwnN w base v l)
    {g : Nat} {n m : Nx} (hx : a.eval x = .slice (some ⟨g, 0, .none⟩) 2 2) (hc : Blk w g 41 (nC n ++ nC m)) (hl : l.length + 2 ≤ 2097152) (hbase : base ≤ w.heap.size)
    (h : ∀ v' w', OwnN w' base v' (l ++ [n, m]) → Below base w w' → wpList Tryz.prog ops Q rest (a.put o.dst v') w') : wpList Tryz.prog ops Q (o :: rest) a w := by
  obtain ⟨i0, hi, hz0, hz1, hz2⟩ := info_parts info_nd
  refine wpList_append_own w hgd s x 23 ho base 41 i0 _ 5 56 Tryz.underlying23 hi hz0 hz1 hz2 rfl (by omega) _ _ _ hs hown ⟨g, 0, .none⟩ 2 2 (nC n ++ nC m) hx rfl (fun j v hj => by rw [show (⟨g, 0, .none⟩ : Addr).add j = ⟨g, j, .none⟩ by simp [Addr.add]; try exact fun h => h.symm]; exact (hc.cell j).trans hj) (by simp [nC, Value.oneCell']) (by unfold maxLen; omega) (by omega) hbase ?_
  intro v' W9 ho hgr _
  refine h v' W9 ?_ ((Below.refl base w).grown hgr hbase (fun q e => owns_block hown e))
  unfold OwnN
  rw [nodV_app, List.length_append]
  simpa [nodV] using ho

/-- Nodes that a call gave. -/
def NodOut (w : World) (l : List Nx) (e : Ending) (w' : World) : Prop := ∃ v, e = .returned v ∧ OwnN w' w.heap.size v l ∧ Below w.heap.size w w'
set_option maxRecDepth 100000 in
set_option maxHeartbeats 4000000 in
theorem bal_ex : ∀ n : Nat, 1 ≤ n → n ≤ 1000 → ∃ l : List Nx, (∀ x, x ∈ l → FitS x) ∧ l.length ≤ 2 * n - 1 ∧ ∀ w : World, Calls Tryz.prog 20 #[.int .i64 n] w (NodOut w l) := by
  intro n
  induction n using Nat.strongRecOn with
  | ind n ih =>
    intro h1 h2
    by_cases hn : n = 1
    · subst hn
      refine ⟨[nOne], fun x hx => ?_, Nat.le_refl _, fun w => ?_⟩
      · obtain rfl := List.mem_singleton.1 hx; exact FitS.cst _ _ (Nat.zero_le _) (by omega) (by omega)
      · go_enter Tryz.func20, Tryz.ntmps20
        go_wp2_with fail
        refine (l2Int_any _ _).mono ?_
        rintro e w1 ⟨rfl, hb1⟩
        have HB := hide hb1
        clear hb1
        go_wp2_with fail
        refine (l3Const_any _ _ _ _).mono ?_
        rintro e w1 ⟨rfl, hb1⟩
        replace HB := hide ((unhide HB).trans (hb1.mono (unhide HB).size))
        clear hb1
        go_wp2_with fail
        go_ret
        exact ⟨_, rfl, (OwnN.lone _ nOne).low (unhide HB).size, (unhide HB).alloc (unhide HB).size _⟩
    · obtain ⟨u, hu⟩ : ∃ u, n / 2 = u := ⟨_, rfl⟩
      obtain ⟨l1, f1, g1, c1⟩ := ih u (by omega) (by omega) (by omega)
      obtain ⟨l2, f2, g2, c2⟩ := ih (n - u) (by omega) (by omega) (by omega)
      refine ⟨l1 ++ l2 ++ [nOp 7], fun x hx => ?_, by rw [List.length_append, List.length_append, List.length_singleton]; omega, fun w => ?_⟩
      · rcases List.mem_append.1 hx with h | h
        · exact (List.mem_append.1 h).elim (f1 x) (f2 x)
        · obtain rfl := List.mem_singleton.1 h; exact FitS.opn (by omega) (by omega)
      · have HC1 := hide c1; have HC2 := hide c2
        have hle : ¬ (n : Int) ≤ 1 := by omega
        have hq : (n : Int) / 2 = u := by omega
        have hq2 : (n : Int).tdiv 2 = u := by rw [Int.tdiv_eq_ediv_of_nonneg (by omega)]; omega
        have hq3 : ((n - u : Nat) : Int) = (n : Int) - u := by omega
        rw [hq3] at HC2
        clear ih c1 c2 f1 f2 hq3
        go_enter Tryz.func20, Tryz.ntmps20
        go_wp2_with fail
        refine (unhide HC1 _).mono ?_
        rintro e w1 ⟨v1, rfl, ho1, hb1⟩
        obtain ⟨a1, k1, rfl, n1⟩ := ho1.nods
        have HN1 := hide n1; have HB := hide hb1
        clear ho1 n1 hb1
        go_wp2_with fail
        refine (unhide HC2 _).mono ?_
        rintro e w2 ⟨v2, rfl, ho2, hb2⟩
        obtain ⟨a2, k2, rfl, n2⟩ := ho2.nods
        replace HN1 := hide ((unhide HN1).mono hb2)
        have HN2 := hide n2
        replace HB := hide ((unhide HB).trans (hb2.mono (unhide HB).size))
        clear ho2 n2 hb2
        go_wp2_with fail
        refine (l3Join_any a1 a2 k1 k2 l1 l2 w2 (by omega) (unhide HN1) (unhide HN2)).mono ?_
        rintro e w3 ⟨v3, rfl, ho3, hb3⟩
        have HO := hide (ho3.low (unhide HB).size)
        replace HB := hide ((unhide HB).trans (hb3.mono (unhide HB).size))
        clear ho3 hb3 HN1 HN2
        go_wp2_with fail
        refine (l3OpNode_any _ _).mono ?_
        rintro e w4 ⟨rfl, hb4⟩
        replace HO := hide ((unhide HO).keep hb4); replace HB := hide ((unhide HB).trans (hb4.mono (unhide HB).size))
        clear hb4
        have HN : Hid (Blk _ _ 41 (nC (nOp 7))) := hide (Blk.new w4 41 (nC (nOp 7)).toArray)
        have HS := hide ((Below.refl w4.heap.size w4).alloc (Nat.le_refl _) (.cells (nC (nOp 7)).toArray 41))
        replace HO := hide ((unhide HO).keep (unhide HS)); replace HB := hide ((unhide HB).trans ((unhide HS).mono (unhide HB).size))
        go_wp2_with (at_builtin; refine append_node rfl _ _ rfl rfl (unhide HO) rfl (unhide HN) (by rw [List.length_append]; omega) (unhide HB).size ?_)
        intro v2 W2 ho hb9
        have HOZ := hide ho; have HBZ := hide ((unhide HB).trans hb9)
        clear ho hb9 HN HS
        go_wp2_with fail
        go_ret
        exact ⟨_, rfl, by rw [List.append_assoc]; exact unhide HOZ, unhide HBZ⟩
end Go.Proofs.YtjgngbmkpiihgaaGreatDoor
