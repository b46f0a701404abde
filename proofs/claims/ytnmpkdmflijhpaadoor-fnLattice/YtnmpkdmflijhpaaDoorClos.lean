/- The model's closure of an order. -/
import Derived.Test.YtnmpkdmflijhpaaDoorOrd
import Derived.Test.YtnmpkdmflijhpaaDoorTable
namespace Go.Proofs.YtnmpkdmflijhpaaDoor
open Go Go.RowKit

/-- One pair carried over a table: in every row. -/
def upd (T : Nat → Nat → Bool) (lo hi : Nat) : Nat → Nat → Bool := fun a b => T a b || (decide (b = hi) && T a lo)
/-- The same, in the rows below k alone. -/
def updTo (T : Nat → Nat → Bool) (lo hi k : Nat) : Nat → Nat → Bool := fun a b => T a b || (decide (a < k) && (decide (b = hi) && T a lo))
def pass (T : Nat → Nat → Bool) (f g : Nat → Nat) : Nat → Nat → Nat → Bool
  | 0 => T
  | j + 1 => upd (pass T f g j) (f j) (g j)
def rounds (T : Nat → Nat → Bool) (f g : Nat → Nat) (m : Nat) : Nat → Nat → Nat → Bool
  | 0 => T
  | r + 1 => pass (rounds T f g m r) f g m
def diag : Nat → Nat → Bool := fun a b => decide (a = b)
theorem tab_congr {n : Nat} {T T' : Nat → Nat → Bool} (h : ∀ a b, a < n → b < n → T a b = T' a b) : bs (n * n) (tabB n T) = bs (n * n) (tabB n T') := by
  unfold bs
  refine List.map_congr_left fun i hi => ?_
  have hi' : i < n * n := List.mem_range.1 hi
  have hn : 0 < n := Nat.pos_of_ne_zero fun e => by subst e; simp at hi'
  unfold tabB
  rw [h _ _ (by rw [Nat.div_lt_iff_lt_mul hn]; exact hi') (Nat.mod_lt _ hn)]
theorem tab_set {n a b : Nat} (T : Nat → Nat → Bool) (hb : b < n) : (bs (n * n) (tabB n T)).set (a * n + b) (.bool true) = bs (n * n) (tabB n fun x y => T x y || (decide (x = a) && decide (y = b))) := by
  refine list_eq_of (by simp [bs_length]) fun j hj => ?_
  rw [List.getElem?_set]
  by_cases e : a * n + b = j
  · subst e
    rw [if_pos rfl, if_pos (by rw [bs_length]; exact hj), tabB_at _ hb]
    simp
  · rw [if_neg e]
    have hne : (decide (j / n = a) && decide (j % n = b)) = false := by
      rw [Bool.and_eq_false_iff, decide_eq_false_iff_not, decide_eq_false_iff_not]
      by_cases h1 : j / n = a
      · right; intro h2
        apply e
        have := Nat.div_add_mod j n
        rw [h1, h2, Nat.mul_comm] at this
        exact this
      · exact .inl h1
    simp only [bs, tabB, hne, Bool.or_false]
    simp [hj]

set_option maxRecDepth 100000 in
set_option maxHeartbeats 4000000 in
theorem l1Closure_any (n : Nat) (a : Option Addr) (m c : Nat) (f g : Nat → Nat) (w : World) (h1 : 1 ≤ n) (h32 : n ≤ 32) (hm : m ≤ 256) (ha : Pairs w a m (fun k => (f k : Int)) (fun k => (g k : Int))) (hf : ∀ k, k < m → f k < n) (hg : ∀ k, k < m → g k < n) :
    Calls Tryd.prog 36 #[.agg #[.int .i64 n, .slice a m c]] w fun e w' => ∃ G, e = .returned (.slice (some ⟨G, 0, none⟩) (n * n) (n * n)) ∧ Blk w' G 4 (bs (n * n) (tabB n (rounds diag f g m n))) ∧ w.heap.size ≤ G ∧ Below w.heap.size w w' := by
  obtain ⟨i0, hi, hz0, hz1, hz2⟩ := info_parts info_bool
  have q1 : (n : Int) * n ≤ 1024 := by rw [← Int.natCast_mul]; have := sq_le h32; omega
  have q0 : 0 ≤ (n : Int) * n := by rw [← Int.natCast_mul]; omega
  have q2 := sq_le h32
  have hbn : i0.bytes * (n * n) ≤ 281474976710656 := by rw [hz2]; omega
  have hC : ((n : Int) * n) = ((n * n : Nat) : Int) := by simp
  have HC := hide hC; clear hC
  have hB0 : Below w.heap.size w (w.alloc (.cells #[.int .i64 n, .slice a m c] 34)) := (Below.refl _ _).alloc (Nat.le_refl _) _
  have B0 := Blk.new w 34 #[.int .i64 n, .slice a m c]
  have PA := ha.mono hB0
  have hs : (w.alloc (.cells #[.int .i64 n, .slice a m c] 34)).heap.size = w.heap.size + 1 := by simp
  go_enter Tryd.func36, Tryd.ntmps36
  go_wp2_with (at_make; refine wpList_make_full _ rfl (.tmp 15) (.tmp 15) 26 rfl (w.heap.size + 1) 4 i0 (.bool false) 1 Tryd.underlying26 hi hz0 hz1 .i64 .i64 _ _ (n * n) rfl rfl (unhide HC) (unhide HC) hbn (by unfold maxLen; omega) (by simp) ?_; intro w1 hown hgrow)
  -- LOOPS
  rw [hs] at hown
  try rw [hs]
  have hb1 : Below (w.heap.size + 1) (w.alloc (.cells #[.int .i64 n, .slice a m c] 34)) w1 := (Below.refl _ _).grown hgrow (by simp) (fun k e => by cases e)
  have hG := Blk.of_owns hown
  have hG0 : Blk w1 (w.heap.size + 1) 4 (bs (n * n) (tabB n fun x y => decide (x = y) && decide (x < 0))) := by
    have e : List.replicate (n * n) (Value.bool false) = bs (n * n) (tabB n fun x y => decide (x = y) && decide (x < 0)) := by
      refine list_eq_of (by simp) fun j hj => ?_
      simp [tabB, hj]
    have hG' : Blk w1 (w.heap.size + 1) 4 (madeCells #[.bool false] (n * n)).toList := by simpa [Value.cells] using hG
    rw [toList_madeCells_one] at hG'
    rw [← e]; exact hG'
  have HG := hide hG0; have HB := hide hb1; have HB0 := hide hB0; have H0 := hide B0; have HP := hide PA
  clear hown hgrow hG hG0 hb1 hbn hi hz0 hz1 hz2 hB0 B0 PA ha
  generalize hWW : w.alloc (.cells #[.int .i64 n, .slice a m c] 34) = W at *
  clear hWW
  have hnn : n * n ≤ 1024 := q2
  have hsW : W.heap.size ≤ w.heap.size + 1 := by rw [hs]; exact Nat.le_refl _
  go_loopw [5] (fun i wr => ∃ k : Nat, k ≤ n ∧ i = .int .i64 k ∧ Blk wr (w.heap.size + 1) 4 (bs (n * n) (tabB n fun x y => decide (x = y) && decide (x < k))) ∧ Below (w.heap.size + 1) W wr) (fun i _ => n - (intOf i).toNat)
  case atStart => exact ⟨0, Nat.zero_le _, rfl, unhide HG, unhide HB⟩
  case round =>
    clear HG HB
    obtain ⟨k, hk, rfl, hG, hB⟩ := hrel
    have HG := hide hG; have HB := hide hB
    by_cases hlt : k < n
    · have i0 := idx_lt (n := n) (x := k) (y := k) (by omega) (by omega)
      have i1 : 0 ≤ (k : Int) * n := by rw [← Int.natCast_mul]; omega
      have i2 : (k : Int) * n + k < ((n * n : Nat) : Int) := by rw [← Int.natCast_mul]; omega
      have i3 : (k : Int) * n ≤ 1024 := by rw [← Int.natCast_mul]; omega
      have hcell := hG.cell (k * n + k); have hfree := hG.free (k * n + k)
      have e0 : (bs (n * n) (tabB n fun x y => decide (x = y) && decide (x < k)))[k * n + k]? = some (.bool false) := by
        simp only [bs, List.getElem?_map, List.getElem?_range i0, Option.map_some, tabB_at _ hlt]; simp
      rw [e0] at hcell
      clear hG hB e0
      go_wp2
      go_roundw
      case rel =>
        refine ⟨k + 1, by omega, by go_num, ?_, (unhide HB).setCell (Nat.le_refl _) _⟩
        have h2 := (unhide HG).set (k * n + k) (.bool true)
        rw [tab_set _ hlt] at h2
        have e : bs (n * n) (tabB n fun x y => (decide (x = y) && decide (x < k)) || (decide (x = k) && decide (y = k))) = bs (n * n) (tabB n fun x y => decide (x = y) && decide (x < k + 1)) := tab_congr fun x y hx hy => by
          rw [Bool.eq_iff_iff]; simp only [Bool.or_eq_true, Bool.and_eq_true, decide_eq_true_eq]; omega
        rw [e] at h2
        exact h2
      case measure => simp [intOf]; omega
    · obtain rfl : k = n := by omega
      clear hG hB hlt hk
      have HG1 : Hid (Blk wr (w.heap.size + 1) 4 (bs (k * k) (tabB k (rounds diag f g m 0)))) := by
        have h2 := unhide HG
        have e : bs (k * k) (tabB k fun x y => decide (x = y) && decide (x < k)) = bs (k * k) (tabB k (rounds diag f g m 0)) := tab_congr fun x y hx hy => by
          simp only [rounds, diag]; rw [Bool.eq_iff_iff]; simp only [Bool.and_eq_true, decide_eq_true_eq]; omega
        rw [e] at h2; exact h2
      clear HG
      go_wp2_with fail
      go_loopw [6] (fun i wr' => ∃ r : Nat, r ≤ k ∧ i = .int .i64 r ∧ Blk wr' (w.heap.size + 1) 4 (bs (k * k) (tabB k (rounds diag f g m r))) ∧ Below (w.heap.size + 1) W wr') (fun i _ => k - (intOf i).toNat)
      case atStart => exact ⟨0, Nat.zero_le _, rfl, unhide HG1, unhide HB⟩
      case round =>
        clear HG1 HB
        obtain ⟨r, hr, rfl, hG, hB⟩ := hrel
        have HG := hide hG; have HB := hide hB
        clear hG hB
        by_cases hlr : r < k
        · go_wp2_with fail
          have HG1 : Hid (Blk wr (w.heap.size + 1) 4 (bs (k * k) (tabB k (pass (rounds diag f g m r) f g 0)))) := unhide HG
          clear HG
          go_loopw [7] (fun i wr' => ∃ j : Nat, j ≤ m ∧ i = .int .i64 j ∧ Blk wr' (w.heap.size + 1) 4 (bs (k * k) (tabB k (pass (rounds diag f g m r) f g j))) ∧ Below (w.heap.size + 1) W wr') (fun i _ => m - (intOf i).toNat)
          case atStart => exact ⟨0, Nat.zero_le _, rfl, unhide HG1, unhide HB⟩
          case round =>
            clear HG1 HB
            obtain ⟨j, hj, rfl, hG, hB⟩ := hrel
            have HG := hide hG; have HB := hide hB
            clear hG hB
            obtain ⟨T, hT⟩ : ∃ T, pass (rounds diag f g m r) f g j = T := ⟨_, rfl⟩
            rw [hT] at HG
            have HT := hide hT; clear hT
            by_cases hlj : j < m
            · have P2 := (unhide HP).mono ((unhide HB).mono hsW)
              obtain ⟨b, off, rfl, hl, hc1, hc2⟩ := P2 j hlj
              dsimp only at hc1 hc2
              have flo := hf j hlj; have ghi := hg j hlj
              obtain ⟨lo, hlo⟩ : ∃ lo, f j = lo := ⟨_, rfl⟩
              obtain ⟨hi, hhi⟩ : ∃ hi, g j = hi := ⟨_, rfl⟩
              rw [hlo] at hc1 flo; rw [hhi] at hc2 ghi
              have HLH := hide (And.intro hlo hhi); clear hlo hhi
              have o2 := ((unhide H0).mono (unhide HB) (Nat.lt_succ_self _)).cell 1
              simp only [List.getElem?_cons_succ, List.getElem?_cons_zero] at o2
              clear P2
              go_wp2_with fail
              have HG1 : Hid (Blk wr (w.heap.size + 1) 4 (bs (k * k) (tabB k (updTo T lo hi 0)))) := by
                have h2 := unhide HG
                rw [tab_congr (T' := updTo T lo hi 0) fun x y _ _ => by simp [updTo]] at h2
                exact h2
              clear HG hc1 hc2 o2
              go_loopw [10] (fun i wr' => ∃ q : Nat, q ≤ k ∧ i = .int .i64 q ∧ Blk wr' (w.heap.size + 1) 4 (bs (k * k) (tabB k (updTo T lo hi q))) ∧ Below (w.heap.size + 1) W wr') (fun i _ => k - (intOf i).toNat)
              case atStart => exact ⟨0, Nat.zero_le _, rfl, unhide HG1, unhide HB⟩
              case round =>
                clear HG1 HB
                obtain ⟨q, hq, rfl, hG, hB⟩ := hrel
                have HG := hide hG; have HB := hide hB
                clear hB
                by_cases hlq : q < k
                · have l0 := idx_lt (n := k) (x := q) (y := lo) (by omega) (by omega)
                  have l1 : 0 ≤ (q : Int) * k := by rw [← Int.natCast_mul]; omega
                  have l2 : (q : Int) * k + lo < ((k * k : Nat) : Int) := by rw [← Int.natCast_mul]; omega
                  have l3 : (q : Int) * k ≤ 1024 := by rw [← Int.natCast_mul]; omega
                  have p0 := idx_lt (n := k) (x := q) (y := hi) (by omega) (by omega)
                  have p1 : 0 ≤ (q : Int) * k := by rw [← Int.natCast_mul]; omega
                  have p2 : (q : Int) * k + hi < ((k * k : Nat) : Int) := by rw [← Int.natCast_mul]; omega
                  have p3 : (q : Int) * k ≤ 1024 := by rw [← Int.natCast_mul]; omega
                  have cl := hG.cell (q * k + lo); have ch := hG.cell (q * k + hi); have fh := hG.free (q * k + hi)
                  have el : (bs (k * k) (tabB k (updTo T lo hi q)))[q * k + lo]? = some (.bool (updTo T lo hi q q lo)) := by
                    simp only [bs, List.getElem?_map, List.getElem?_range l0, Option.map_some, tabB_at _ flo]
                  have eh : (bs (k * k) (tabB k (updTo T lo hi q)))[q * k + hi]? = some (.bool (updTo T lo hi q q hi)) := by
                    simp only [bs, List.getElem?_map, List.getElem?_range p0, Option.map_some, tabB_at _ ghi]
                  have e3 : updTo T lo hi q q lo = T q lo := by simp [updTo]
                  rw [el, e3] at cl
                  rw [eh] at ch
                  obtain ⟨vh, hvh⟩ : ∃ vh, updTo T lo hi q q hi = vh := ⟨_, rfl⟩
                  rw [hvh] at ch
                  clear hG el eh e3 hvh
                  cases hT : T q lo
                  · rw [hT] at cl
                    go_wp2
                    go_roundw
                    case rel =>
                      refine ⟨q + 1, by omega, by go_num, ?_, unhide HB⟩
                      have h2 := unhide HG
                      rw [tab_congr (T' := updTo T lo hi (q + 1)) fun x y _ _ => by
                        simp only [updTo]
                        by_cases e : x = q
                        · subst e; simp [hT]
                        · congr 2; rw [decide_eq_decide]; omega] at h2
                      exact h2
                    case measure => simp [intOf]; omega
                  · rw [hT] at cl
                    go_wp2
                    go_roundw
                    case rel =>
                      refine ⟨q + 1, by omega, by go_num, ?_, (unhide HB).setCell (Nat.le_refl _) _⟩
                      have h2 := (unhide HG).set (q * k + hi) (.bool true)
                      rw [tab_set _ ghi] at h2
                      rw [tab_congr (T' := updTo T lo hi (q + 1)) fun x y _ _ => by
                        simp only [updTo]
                        by_cases e : x = q
                        · subst e; simp [hT]
                        · rw [show decide (x = q) = false from decide_eq_false e, Bool.false_and, Bool.or_false]; congr 2; rw [decide_eq_decide]; omega] at h2
                      exact h2
                    case measure => simp [intOf]; omega
                · obtain rfl : q = k := by omega
                  clear hG
                  go_wp2_with fail
                  go_roundw
                  case rel =>
                    refine ⟨j + 1, by omega, by go_num, ?_, unhide HB⟩
                    have h2 := unhide HG
                    rw [tab_congr (T' := pass (rounds diag f g m r) f g (j + 1)) fun x y hx _ => by
                      rw [pass, unhide HT, (unhide HLH).1, (unhide HLH).2]; simp [updTo, upd, hx]] at h2
                    exact h2
                  case measure => simp [intOf]; omega
            · obtain rfl : j = m := by omega
              have o2 := ((unhide H0).mono (unhide HB) (Nat.lt_succ_self _)).cell 1
              simp only [List.getElem?_cons_succ, List.getElem?_cons_zero] at o2
              go_wp2_with fail
              go_roundw
              case rel =>
                refine ⟨r + 1, by omega, by go_num, ?_, unhide HB⟩
                rw [rounds, unhide HT]; exact unhide HG
              case measure => simp [intOf]; omega
        · obtain rfl : r = k := by omega
          have hZ := (unhide HB0).trans ((unhide HB).mono (Nat.le_succ _))
          have HZ := hide hZ; clear hZ
          go_wp2
          go_ret
          exact ⟨_, rfl, unhide HG, Nat.le_succ _, unhide HZ⟩
end Go.Proofs.YtnmpkdmflijhpaaDoor
