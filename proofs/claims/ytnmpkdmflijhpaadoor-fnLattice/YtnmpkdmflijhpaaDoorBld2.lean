/- The model's BuildLattice, at a valid order. -/
import Derived.Test.YtnmpkdmflijhpaaDoorBld1
namespace Go.Proofs.YtnmpkdmflijhpaaDoor
open Go Go.RowKit

theorem owns_base {w : World} {base base' : Nat} {e : TypeId} {size : Nat} {v : Value} {n : Nat} {xs : List Value} (h : w.ownsRow base e size v n xs) (hb : base' ≤ base) : w.ownsRow base' e size v n xs := by
  rcases h.2 with h' | ⟨g, cap, cur, e', hb', h3⟩
  · exact ⟨h.1, .inl h'⟩
  · exact ⟨h.1, .inr ⟨g, cap, cur, e', Nat.le_trans hb hb', h3⟩⟩
theorem cell_lone (w : World) (t : TypeId) (v : Value) : ∀ (j : Nat) (u : Value), [v][j]? = some u → (w.alloc (.cells #[v] t)).cell? ((⟨w.heap.size, 0, none⟩ : Addr).add j) = some u := fun j u h => by
  match j, h with
  | 0, h => simp at h; subst h; exact (Blk.new w t #[v]).cell 0
theorem ints_is {w : World} {base : Nat} {e : TypeId} {v : Value} {n : Nat} {G : Nat → Int} (h : w.ownsRow base e 1 v n (is n G)) : ∃ a cap, v = .slice a n cap ∧ Ints w a n G := by
  rcases h.2 with ⟨rfl, rfl⟩ | ⟨g, cap, cur, rfl, hb, hg, hc, -, hs, htake⟩
  · exact ⟨none, 0, rfl, fun k hk => absurd hk (Nat.not_lt_zero _)⟩
  · refine ⟨_, cap, rfl, fun k hk => ⟨g, 0, rfl, (Array.getElem?_eq_some_iff.1 hg).1, ?_⟩⟩
    have := h.cellAt k (by omega)
    rw [Nat.zero_add, this]
    simp [is, hk]
theorem two' {w : World} {b : Nat} {t : TypeId} {v0 v1 : Value} (h : Blk w b t [v0, v1]) :
    (w.cell? ⟨b, 0, none⟩ = some v0 ∧ w.cell? ⟨b, 1, none⟩ = some v1) ∧ (w.frozen? ⟨b, 0, none⟩ = false ∧ w.frozen? ⟨b, 1, none⟩ = false) := ⟨⟨h.cell 0, h.cell 1⟩, ⟨h.free 0, h.free 1⟩⟩

set_option maxRecDepth 100000 in
set_option maxHeartbeats 2000000 in
theorem specBuild_ok (n : Nat) (a : Option Addr) (m c : Nat) (f g : Nat → Nat) (w : World) (h1 : 1 ≤ n) (h32 : n ≤ 32) (hm : m ≤ 256) (ha : Pairs w a m (fun k => (f k : Int)) (fun k => (g k : Int))) (hf : ∀ k, k < m → f k < n) (hg : ∀ k, k < m → g k < n) (F : Nat → Bool) (hF : tabB n (rounds diag f g m n) = F) :
    Calls Tryd.prog 10 #[.agg #[.int .i64 n, .slice a m c]] w fun e w' => SpecOut n F e w' ∧ Below w.heap.size w w' := by
  have HR := hide (by simpa using Blk.new (w.alloc (.cells #[.int .i64 n, .slice a m c] 34)) 29 #[.int .i64 0, .slice none 0 0, .slice none 0 0, .slice none 0 0, .int .i64 0, .int .i64 0] : Blk ((w.alloc (.cells #[.int .i64 n, .slice a m c] 34)).alloc (.cells #[.int .i64 0, .slice none 0 0, .slice none 0 0, .slice none 0 0, .int .i64 0, .int .i64 0] 29)) (w.heap.size + 1) 29 [.int .i64 0, .slice none 0 0, .slice none 0 0, .slice none 0 0, .int .i64 0, .int .i64 0])
  have H0 := hide ((Blk.new w 34 #[.int .i64 n, .slice a m c]).alloc (.cells #[.int .i64 0, .slice none 0 0, .slice none 0 0, .slice none 0 0, .int .i64 0, .int .i64 0] 29))
  have HW : Hid (Below w.heap.size w ((w.alloc (.cells #[.int .i64 n, .slice a m c] 34)).alloc (.cells #[.int .i64 0, .slice none 0 0, .slice none 0 0, .slice none 0 0, .int .i64 0, .int .i64 0] 29))) := ((Below.refl _ w).alloc (Nat.le_refl _) _).alloc (by simp) _
  go_enter Tryd.func10, Tryd.ntmps10
  go_wp2_with fail
  refine (l1ValidOrder_in n a m c _ _ _ (by omega) (by omega) hm (ha.mono (unhide HW)) true ⟨fun _ k hk => by have := hf k hk; have := hg k hk; omega, fun _ => rfl⟩).mono ?_
  rintro e w1 ⟨rfl, hb⟩
  replace HR := hide ((unhide HR).mono hb (unhide HR).lt); replace H0 := hide ((unhide H0).mono hb (unhide H0).lt); replace HW := hide ((unhide HW).trans (hb.mono (unhide HW).size))
  clear hb
  obtain ⟨⟨o0, o1⟩, -⟩ := two' (unhide H0)
  go_wp2_with fail
  refine (l1Closure_any n a m c f g _ h1 h32 hm (ha.mono (unhide HW)) hf hg).mono ?_
  rintro e w2 ⟨G, rfl, hG, hGw, hb⟩
  have hR1 := (unhide HR).lt
  replace HR := hide ((unhide HR).mono hb (unhide HR).lt); replace H0 := hide ((unhide H0).mono hb (unhide H0).lt); replace HW := hide ((unhide HW).trans (hb.mono (unhide HW).size))
  clear hb o0 o1
  rw [hF] at hG
  have HG := hide hG
  have hGR : G ≠ w.heap.size + 1 := by omega
  have hRs : w.heap.size + 1 < w2.heap.size := (unhide HR).lt
  clear hG ha hf hg hF hGw hR1
  have hsq := sq_le h32
  go_wp2_with fail
  go_loop [6] (fun i => ∃ k : Nat, k ≤ n ∧ i = .int .i64 k ∧ ∀ x, x < k → ∀ y, y < n → ¬ (x ≠ y ∧ F (x * n + y) = true ∧ F (y * n + x) = true)) (fun i => n - (intOf i).toNat)
  case atStart => exact ⟨0, Nat.zero_le _, rfl, fun x h => absurd h (Nat.not_lt_zero _)⟩
  case round =>
    obtain ⟨k, hk, rfl, hall⟩ := hrel
    have HA := hide hall; clear hall
    by_cases hlt : k < n
    · go_wp2_with fail
      go_loop [7] (fun i => ∃ j : Nat, j ≤ n ∧ i = .int .i64 j ∧ ∀ y, y < j → ¬ (k ≠ y ∧ F (k * n + y) = true ∧ F (y * n + k) = true)) (fun i => n - (intOf i).toNat)
      case atStart => exact ⟨0, Nat.zero_le _, rfl, fun x h => absurd h (Nat.not_lt_zero _)⟩
      case round =>
        obtain ⟨j, hj, rfl, hall⟩ := hrel
        have HB := hide hall; clear hall
        by_cases hlj : j < n
        · have hcs : (((k : Int) != j) = true ∧ F (k * n + j) = true ∧ F (j * n + k) = true) ∨ (((k : Int) != j) = false ∨ (((k : Int) != j) = true ∧ F (k * n + j) = false) ∨ (((k : Int) != j) = true ∧ F (k * n + j) = true ∧ F (j * n + k) = false)) := by
            cases ((k : Int) != j) <;> cases F (k * n + j) <;> cases F (j * n + k) <;> simp
          rcases hcs with ⟨e1, e2, e3⟩ | hcs
          · have HT : Hid (TwoW F n) := ⟨k, j, hlt, hlj, fun e => by subst e; simp at e1, e2, e3⟩
            obtain ⟨⟨r0, r1, r2, r3, r4, r5⟩, ⟨f0, f1, f2, f3, f4, f5⟩⟩ := six' (unhide HR)
            have HZ := hide (below_set6 (unhide HW) (Nat.le_succ _) (.int .i64 0) (.slice none 0 0) (.slice none 0 0) (.slice none 0 0) (.int .i64 0) (.int .i64 0))
            go_wp2_with (go_at_call 37; refine (l1Leq_any _ _ _ _ _ _ F _ (Nat.le_refl _) (by omega) (by omega) h32 (unhide HG).bools).mono ?_; rintro e w' ⟨rfl, rfl⟩)
            exact bodyPost_ret (v := .tuple #[zeroL, .int .i64 2]) (by simp [results, Tryd.results10, go_sem, zeroL, *]) rfl ⟨.inl ⟨unhide HT, rfl⟩, unhide HZ⟩
          · have HN : Hid (¬ (k ≠ j ∧ F (k * n + j) = true ∧ F (j * n + k) = true)) := fun ⟨e1, e2, e3⟩ => by
              rcases hcs with h | ⟨_, h⟩ | ⟨_, _, h⟩
              · simp at h; omega
              · exact Bool.false_ne_true (h.symm.trans e2)
              · exact Bool.false_ne_true (h.symm.trans e3)
            rcases hcs with e1 | ⟨e1, e2⟩ | ⟨e1, e2, e3⟩
            all_goals
              go_wp2_with (go_at_call 37; refine (l1Leq_any _ _ _ _ _ _ F _ (Nat.le_refl _) (by omega) (by omega) h32 (unhide HG).bools).mono ?_; rintro e w' ⟨rfl, rfl⟩)
              go_round
              case rel => exact ⟨j + 1, by omega, by go_num, fun y hy => by
                by_cases e : y = j
                · rw [e]; exact unhide HN
                · exact unhide HB y (by omega)⟩
              case measure => simp [intOf]; omega
        · go_wp2_with fail
          go_round
          case rel => exact ⟨k + 1, by omega, by go_num, fun x hx y hy => by
            by_cases e : x = k
            · rw [e]; exact unhide HB y (by omega)
            · exact unhide HA x (by omega) y hy⟩
          case measure => simp [intOf]; omega
    · obtain rfl : n = k := by omega
      have hN2 : ¬ TwoW F n := fun ⟨x, y, hx, hy, h⟩ => unhide HA x (by omega) y hy h
      have HN2 := hide hN2; clear hN2 HA hlt hk
      go_wp2_with fail
      have hb2 : Below w2.heap.size w2 ((w2.alloc (.cells #[] 3)).alloc (.cells #[] 3)) := ((Below.refl _ w2).alloc (Nat.le_refl _) _).alloc (by simp) _
      have O1 : ((w2.alloc (.cells #[] 3)).alloc (.cells #[] 3)).ownsRow w2.heap.size 3 1 (.slice (some ⟨w2.heap.size, 0, none⟩) 0 0) 0 (is 0 (JF F n)) := (owns_none w2 3).alloc _
      have O2 : ((w2.alloc (.cells #[] 3)).alloc (.cells #[] 3)).ownsRow w2.heap.size 3 1 (.slice (some ⟨w2.heap.size + 1, 0, none⟩) 0 0) 0 (is 0 (MF F n)) := by
        have := owns_none (w2.alloc (.cells #[] 3)) 3
        simp only [World.size_alloc] at this
        exact owns_base this (Nat.le_succ _)
      have P1 := hide O1; have P2 := hide O2; have PB := hide hb2; clear O1 O2 hb2
      have zm : ∀ G : Nat → Int, (false = true ↔ ∃ i, i < 0 * n ∧ G i < 0) := fun G => ⟨(fun h => by cases h), (fun ⟨i, hi, _⟩ => by simp at hi)⟩
      go_loopw [8, 9, 10, 11, 12] (fun vj vm nj nm i wr => ∃ (k : Nat) (bj bm : Bool), k ≤ n ∧ i = .int .i64 k ∧ nj = .bool bj ∧ nm = .bool bm ∧ (bj = true ↔ ∃ i, i < k * n ∧ JF F n i < 0) ∧ (bm = true ↔ ∃ i, i < k * n ∧ MF F n i < 0) ∧ wr.ownsRow w2.heap.size 3 1 vj (k * n) (is (k * n) (JF F n)) ∧ wr.ownsRow w2.heap.size 3 1 vm (k * n) (is (k * n) (MF F n)) ∧ vj.ownBlock ≠ vm.ownBlock ∧ Below w2.heap.size w2 wr) (fun _ _ _ _ i _ => n - (intOf i).toNat)
      case atStart => exact ⟨0, false, false, Nat.zero_le _, rfl, rfl, rfl, zm _, zm _, by simpa using unhide P1, by simpa using unhide P2, by simp [Value.ownBlock], unhide PB⟩
      case round =>
        clear P1 P2 PB zm
        obtain ⟨k, bj, bm, hk, rfl, rfl, rfl, hbj, hbm, hoj, hom, hne, hB⟩ := hrel
        have HBJ := hide hbj; have HBM := hide hbm; have HOJ := hide hoj; have HOM := hide hom; have HNE := hide hne; have HB := hide hB
        clear hbj hbm hoj hom hne
        by_cases hlt : k < n
        · clear hB
          go_wp2_with fail
          go_loopw [8, 9, 10, 11, 13] (fun vj vm nj nm i wr => ∃ (j : Nat) (bj bm : Bool), j ≤ n ∧ i = .int .i64 j ∧ nj = .bool bj ∧ nm = .bool bm ∧ (bj = true ↔ ∃ i, i < k * n + j ∧ JF F n i < 0) ∧ (bm = true ↔ ∃ i, i < k * n + j ∧ MF F n i < 0) ∧ wr.ownsRow w2.heap.size 3 1 vj (k * n + j) (is (k * n + j) (JF F n)) ∧ wr.ownsRow w2.heap.size 3 1 vm (k * n + j) (is (k * n + j) (MF F n)) ∧ vj.ownBlock ≠ vm.ownBlock ∧ Below w2.heap.size w2 wr) (fun _ _ _ _ i _ => n - (intOf i).toNat)
          case atStart => exact ⟨0, bj, bm, Nat.zero_le _, rfl, rfl, rfl, unhide HBJ, unhide HBM, unhide HOJ, unhide HOM, unhide HNE, unhide HB⟩
          case round =>
            clear HBJ HBM HOJ HOM HNE HB
            obtain ⟨j, bj, bm, hj, rfl, rfl, rfl, hbj, hbm, hoj, hom, hne, hB⟩ := hrel
            have HBJ := hide hbj; have HBM := hide hbm; have HOJ := hide hoj; have HOM := hide hom; have HNE := hide hne; have HB := hide hB
            clear hbj hbm hoj hom hne
            by_cases hlj : j < n
            · have hG2 := ((unhide HG).mono hB (unhide HG).lt).bools
              have HG2 := hide hG2
              have hix := idx_lt hlt hlj
              have hjd : (k * n + j) / n = k ∧ (k * n + j) % n = j := by
                rw [Nat.add_comm, Nat.add_mul_div_right _ _ (by omega), Nat.div_eq_of_lt hlj, Nat.add_mul_mod_self_right, Nat.mod_eq_of_lt hlj]; simp
              obtain ⟨vJ, hvJ⟩ : ∃ v, JF F n (k * n + j) = v := ⟨_, rfl⟩
              obtain ⟨vM, hvM⟩ : ∃ v, MF F n (k * n + j) = v := ⟨_, rfl⟩
              have hfJ : firstN (isJoin F n k j) n = vJ := by rw [← hvJ, JF, hjd.1, hjd.2]
              have hfM : firstN (isMeet F n k j) n = vM := by rw [← hvM, MF, hjd.1, hjd.2]
              have HVJ := hide hvJ; have HVM := hide hvM
              clear hG2 hB hjd hvJ hvM
              go_wp2_with fail
              refine (l1Join_any _ _ _ n k j F _ (Nat.le_refl _) h32 hlt hlj (unhide HG2) vJ hfJ).mono ?_
              rintro e w' ⟨rfl, rfl⟩
              go_wp2_with fail
              refine (l1Meet_any _ _ _ n k j F _ (Nat.le_refl _) h32 hlt hlj (unhide HG2) vM hfM).mono ?_
              rintro e w' ⟨rfl, rfl⟩
              clear hfJ hfM
              have stepJ : ∀ b : Bool, (b = (decide (vJ < 0) || bj)) → (b = true ↔ ∃ i, i < k * n + (j + 1) ∧ JF F n i < 0) := fun b hb => by
                rw [hb, Bool.or_eq_true, decide_eq_true_eq, unhide HBJ]
                refine ⟨fun h => ?_, fun ⟨i, hi, h⟩ => ?_⟩
                · rcases h with h | ⟨i, hi, h⟩
                  · exact ⟨k * n + j, by omega, by rw [unhide HVJ]; exact h⟩
                  · exact ⟨i, by omega, h⟩
                · by_cases e : i = k * n + j
                  · left; rw [e, unhide HVJ] at h; exact h
                  · exact .inr ⟨i, by omega, h⟩
              have stepM : ∀ b : Bool, (b = (decide (vM < 0) || bm)) → (b = true ↔ ∃ i, i < k * n + (j + 1) ∧ MF F n i < 0) := fun b hb => by
                rw [hb, Bool.or_eq_true, decide_eq_true_eq, unhide HBM]
                refine ⟨fun h => ?_, fun ⟨i, hi, h⟩ => ?_⟩
                · rcases h with h | ⟨i, hi, h⟩
                  · exact ⟨k * n + j, by omega, by rw [unhide HVM]; exact h⟩
                  · exact ⟨i, by omega, h⟩
                · by_cases e : i = k * n + j
                  · left; rw [e, unhide HVM] at h; exact h
                  · exact .inr ⟨i, by omega, h⟩
              have SJ := hide stepJ; have SM := hide stepM; clear stepJ stepM
              by_cases c1 : vJ < 0 <;> by_cases c2 : vM < 0
              all_goals
                obtain ⟨i0, hi, hz0, hz1, hz2⟩ := info_parts info_int
                go_wp2_with (at_builtin; refine wpList_append_own_at _ rfl _ _ 27 rfl w2.heap.size 3 i0 _ 1 8 Tryd.underlying27 hi hz0 hz1 hz2 rfl (by omega) u8 _ _ rfl ((unhide HOJ).alloc _) ⟨w'.heap.size, 0, none⟩ 1 1 [.int .i64 vJ] rfl rfl (cell_lone w' 3 _) (by simp [Value.oneCell']) (by unfold maxLen; omega) (by omega) (by have := (unhide HB).size; simp; omega) ?_)
                intro vj' w3 hoj' hgr' _ hob'
                have hlM := (unhide HOM).lt
                have hlJ := (unhide HOJ).lt
                have hB3 := ((unhide HB).alloc (unhide HB).size (.cells #[.int .i64 vJ] 3)).grown hgr' (by have := (unhide HB).size; simp; omega) (fun q' e => owns_block (unhide HOJ) e)
                have hom3 := ((unhide HOM).alloc (.cells #[.int .i64 vJ] 3)).kept hgr' (.inr fun e => unhide HNE e.symm)
                have hne3 : vj'.ownBlock ≠ u9.ownBlock := by
                  rcases hob' with e | e
                  · rw [e]; exact unhide HNE
                  · rw [e]; intro e2
                    have h9 := (hlM _ e2.symm).2
                    first | omega | (simp only [World.size_alloc] at h9; omega)
                have hoj3 : w3.ownsRow w2.heap.size 3 1 vj' (k * n + (j + 1)) (is (k * n + (j + 1)) (JF F n)) := by
                  rw [← Nat.add_assoc, is_snoc, unhide HVJ]; exact hoj'
                have HOJ3 := hide hoj3; have HOM3 := hide hom3; have HNE3 := hide hne3; have HB3 := hide hB3
                clear hoj' hgr' hob' hlM hlJ hB3 hom3 hne3 hoj3 HOJ HOM HNE HB HG2
                go_wp2_with (at_builtin; refine wpList_append_own_at _ rfl _ _ 27 rfl w2.heap.size 3 i0 _ 1 8 Tryd.underlying27 hi hz0 hz1 hz2 rfl (by omega) u9 _ _ rfl ((unhide HOM3).alloc _) ⟨w3.heap.size, 0, none⟩ 1 1 [.int .i64 vM] rfl rfl (cell_lone w3 3 _) (by simp [Value.oneCell']) (by unfold maxLen; omega) (by omega) (by have := (unhide HB3).size; simp; omega) ?_)
                intro vm' w4 hom' hgr' _ hob'
                have hlJ := (unhide HOJ3).lt
                have hB4 := ((unhide HB3).alloc (unhide HB3).size (.cells #[.int .i64 vM] 3)).grown hgr' (by have := (unhide HB3).size; simp; omega) (fun q' e => owns_block (unhide HOM3) e)
                have hoj4 := ((unhide HOJ3).alloc (.cells #[.int .i64 vM] 3)).kept hgr' (.inr (unhide HNE3))
                have hne4 : vj'.ownBlock ≠ vm'.ownBlock := by
                  rcases hob' with e | e
                  · rw [e]; exact unhide HNE3
                  · rw [e]; intro e2
                    have h9 := (hlJ _ e2).2
                    first | omega | (simp only [World.size_alloc] at h9; omega)
                have hom4 : w4.ownsRow w2.heap.size 3 1 vm' (k * n + (j + 1)) (is (k * n + (j + 1)) (MF F n)) := by
                  rw [← Nat.add_assoc, is_snoc, unhide HVM]; exact hom'
                have HOJ4 := hide hoj4; have HOM4 := hide hom4; have HNE4 := hide hne4; have HB4 := hide hB4
                clear hom' hgr' hob' hlJ hB4 hoj4 hne4 hom4 HOJ3 HOM3 HNE3 HB3 hi hz0 hz1 hz2
                go_wp2_with fail
                go_roundw
                case rel => exact ⟨j + 1, _, _, by omega, by go_num, rfl, rfl, unhide SJ _ (by first | (rw [decide_eq_true (by omega)]; rfl) | (rw [decide_eq_false (by omega)]; rfl)), unhide SM _ (by first | (rw [decide_eq_true (by omega)]; rfl) | (rw [decide_eq_false (by omega)]; rfl)), unhide HOJ4, unhide HOM4, unhide HNE4, unhide HB4⟩
                case measure => simp [intOf]; omega
            · obtain rfl : n = j := by omega
              clear hB
              go_wp2_with fail
              go_roundw
              case rel => exact ⟨k + 1, bj, bm, by omega, by go_num, rfl, rfl, by rw [Nat.succ_mul]; exact unhide HBJ, by rw [Nat.succ_mul]; exact unhide HBM, by rw [Nat.succ_mul]; exact unhide HOJ, by rw [Nat.succ_mul]; exact unhide HOM, unhide HNE, unhide HB⟩
              case measure => simp [intOf]; omega
        · obtain rfl : n = k := by omega
          clear hlt hk
          replace HR := hide ((unhide HR).mono hB (unhide HR).lt); replace HG := hide ((unhide HG).mono hB (unhide HG).lt)
          have hs2 : w.heap.size + 1 < w2.heap.size := hRs
          replace HW := hide ((unhide HW).trans (hB.mono (unhide HW).size))
          have HG3 := hide (unhide HG).bools
          clear hB HB
          cases bj
          · have HJ : Hid (∀ i, i < n * n → 0 ≤ JF F n i) := fun i hi => by
              apply Classical.byContradiction; intro h
              have := (unhide HBJ).2 ⟨i, hi, by omega⟩
              cases this
            cases bm
            · have HM : Hid (∀ i, i < n * n → 0 ≤ MF F n i) := fun i hi => by
                apply Classical.byContradiction; intro h
                have := (unhide HBM).2 ⟨i, hi, by omega⟩
                cases this
              clear HBJ HBM
              obtain ⟨a8, c8, rfl, -⟩ := ints_is (unhide HOJ)
              obtain ⟨a9, c9, rfl, -⟩ := ints_is (unhide HOM)
              go_wp2_with fail
              go_loop [16, 17, 18] (fun bv tv i => ∃ k : Nat, k ≤ n ∧ i = .int .i64 k ∧ bv = .int .i64 (lastN (belowAll F n n) k) ∧ tv = .int .i64 (lastN (aboveAll F n n) k)) (fun _ _ i => n - (intOf i).toNat)
              case atStart => exact ⟨0, Nat.zero_le _, rfl, rfl, rfl⟩
              case round =>
                obtain ⟨k, hk, rfl, rfl, rfl⟩ := hrel
                by_cases hlt : k < n
                · go_wp2_with fail
                  go_loop [19, 20, 21] (fun bv tv i => ∃ j : Nat, j ≤ n ∧ i = .int .i64 j ∧ bv = .bool (belowAll F n j k) ∧ tv = .bool (aboveAll F n j k)) (fun _ _ i => n - (intOf i).toNat)
                  case atStart => exact ⟨0, Nat.zero_le _, rfl, rfl, rfl⟩
                  case round =>
                    obtain ⟨j, hj, rfl, rfl, rfl⟩ := hrel
                    by_cases hlj : j < n
                    · cases e1 : F (k * n + j) <;> cases e2 : F (j * n + k)
                      all_goals
                        have HS1 := hide (belowAll_succ F n j k); have HS2 := hide (aboveAll_succ F n j k)
                        go_wp2_with fail
                        refine (l1Leq_any _ _ _ n k j F _ (Nat.le_refl _) hlt hlj h32 (unhide HG3)).mono ?_
                        rintro e w' ⟨rfl, rfl⟩
                        rw [e1]
                        go_wp2_with fail
                        refine (l1Leq_any _ _ _ n j k F _ (Nat.le_refl _) hlj hlt h32 (unhide HG3)).mono ?_
                        rintro e w' ⟨rfl, rfl⟩
                        rw [e2]
                        go_wp2_with fail
                        go_round
                        case rel => exact ⟨j + 1, by omega, by go_num, by rw [unhide HS1, e1]; simp, by rw [unhide HS2, e2]; simp⟩
                        case measure => simp [intOf]; omega
                    · obtain rfl : n = j := by omega
                      have HL1 : Hid (lastN (belowAll F n n) (k + 1) = if belowAll F n n k then (k : Int) else lastN (belowAll F n n) k) := rfl
                      have HL2 : Hid (lastN (aboveAll F n n) (k + 1) = if aboveAll F n n k then (k : Int) else lastN (aboveAll F n n) k) := rfl
                      cases e1 : belowAll F n n k <;> cases e2 : aboveAll F n n k
                      all_goals
                        go_wp2_with fail
                        go_round
                        case rel => exact ⟨k + 1, by omega, by go_num, by rw [unhide HL1, e1]; rfl, by rw [unhide HL2, e2]; rfl⟩
                        case measure => simp [intOf]; omega
                · obtain rfl : n = k := by omega
                  obtain ⟨bt, hbt⟩ : ∃ bt, lastN (belowAll F n n) n = bt := ⟨_, rfl⟩
                  obtain ⟨tp, htp⟩ : ∃ tp, lastN (aboveAll F n n) n = tp := ⟨_, rfl⟩
                  rw [hbt, htp]
                  have HBT := hide (And.intro hbt htp); clear hbt htp
                  obtain ⟨⟨r0, r1, r2, r3, r4, r5⟩, ⟨f0, f1, f2, f3, f4, f5⟩⟩ := six' (unhide HR)
                  have hRb : w.heap.size + 1 < w2.heap.size := hs2
                  have hj6 := ownsRow_setCell_below (ownsRow_setCell_below (ownsRow_setCell_below (ownsRow_setCell_below (ownsRow_setCell_below (ownsRow_setCell_below (unhide HOJ) (a := ⟨w.heap.size + 1, 0, none⟩) hRb (.int .i64 n)) (a := ⟨w.heap.size + 1, 1, none⟩) hRb (.slice (some ⟨G, 0, none⟩) (n * n) (n * n))) (a := ⟨w.heap.size + 1, 2, none⟩) hRb (.slice a8 (n * n) c8)) (a := ⟨w.heap.size + 1, 3, none⟩) hRb (.slice a9 (n * n) c9)) (a := ⟨w.heap.size + 1, 4, none⟩) hRb (.int .i64 bt)) (a := ⟨w.heap.size + 1, 5, none⟩) hRb (.int .i64 tp)
                  have hm6 := ownsRow_setCell_below (ownsRow_setCell_below (ownsRow_setCell_below (ownsRow_setCell_below (ownsRow_setCell_below (ownsRow_setCell_below (unhide HOM) (a := ⟨w.heap.size + 1, 0, none⟩) hRb (.int .i64 n)) (a := ⟨w.heap.size + 1, 1, none⟩) hRb (.slice (some ⟨G, 0, none⟩) (n * n) (n * n))) (a := ⟨w.heap.size + 1, 2, none⟩) hRb (.slice a8 (n * n) c8)) (a := ⟨w.heap.size + 1, 3, none⟩) hRb (.slice a9 (n * n) c9)) (a := ⟨w.heap.size + 1, 4, none⟩) hRb (.int .i64 bt)) (a := ⟨w.heap.size + 1, 5, none⟩) hRb (.int .i64 tp)
                  have hg6 := (((((((unhide HG).other (a := ⟨w.heap.size + 1, 0, none⟩) (.int .i64 n) hGR).other (a := ⟨w.heap.size + 1, 1, none⟩) (.slice (some ⟨G, 0, none⟩) (n * n) (n * n)) hGR).other (a := ⟨w.heap.size + 1, 2, none⟩) (.slice a8 (n * n) c8) hGR).other (a := ⟨w.heap.size + 1, 3, none⟩) (.slice a9 (n * n) c9) hGR).other (a := ⟨w.heap.size + 1, 4, none⟩) (.int .i64 bt) hGR).other (a := ⟨w.heap.size + 1, 5, none⟩) (.int .i64 tp) hGR)
                  have HZ := hide (below_set6 (unhide HW) (Nat.le_succ _) (.int .i64 n) (.slice (some ⟨G, 0, none⟩) (n * n) (n * n)) (.slice a8 (n * n) c8) (.slice a9 (n * n) c9) (.int .i64 bt) (.int .i64 tp))
                  have HJ6 := hide hj6; have HM6 := hide hm6; have HG6 := hide hg6
                  clear hj6 hm6 hg6 HOJ HOM HG HG3 HW
                  go_wp2
                  refine bodyPost_ret (v := .tuple #[.agg #[.int .i64 n, .slice (some ⟨G, 0, none⟩) (n * n) (n * n), .slice a8 (n * n) c8, .slice a9 (n * n) c9, .int .i64 bt, .int .i64 tp], .int .i64 0]) (by simp [results, Tryd.results10, go_sem, *]) rfl ⟨.inr (.inr (.inr ⟨unhide HN2, unhide HJ, unhide HM, some ⟨G, 0, none⟩, a8, a9, n * n, c8, c9, by rw [(unhide HBT).1, (unhide HBT).2], (unhide HG6).bools, ?_, ?_⟩)), unhide HZ⟩
                  · obtain ⟨x1, x2, e, h⟩ := ints_is (unhide HJ6)
                    cases e
                    exact h
                  · obtain ⟨x1, x2, e, h⟩ := ints_is (unhide HM6)
                    cases e
                    exact h
            · have HM : Hid (∃ i, i < n * n ∧ MF F n i < 0) := (unhide HBM).1 rfl
              obtain ⟨⟨r0, r1, r2, r3, r4, r5⟩, ⟨f0, f1, f2, f3, f4, f5⟩⟩ := six' (unhide HR)
              have HZ := hide (below_set6 (unhide HW) (Nat.le_succ _) (.int .i64 0) (.slice none 0 0) (.slice none 0 0) (.slice none 0 0) (.int .i64 0) (.int .i64 0))
              go_wp2
              refine bodyPost_ret (v := .tuple #[zeroL, .int .i64 4]) (by simp [results, Tryd.results10, go_sem, zeroL, *]) rfl ⟨?_, unhide HZ⟩
              exact .inr (.inr (.inl ⟨unhide HN2, unhide HJ, unhide HM, rfl⟩))
          · have HJ : Hid (∃ i, i < n * n ∧ JF F n i < 0) := (unhide HBJ).1 rfl
            obtain ⟨⟨r0, r1, r2, r3, r4, r5⟩, ⟨f0, f1, f2, f3, f4, f5⟩⟩ := six' (unhide HR)
            have HZ := hide (below_set6 (unhide HW) (Nat.le_succ _) (.int .i64 0) (.slice none 0 0) (.slice none 0 0) (.slice none 0 0) (.int .i64 0) (.int .i64 0))
            go_wp2
            refine bodyPost_ret (v := .tuple #[zeroL, .int .i64 3]) (by simp [results, Tryd.results10, go_sem, zeroL, *]) rfl ⟨?_, unhide HZ⟩
            exact .inr (.inl ⟨unhide HN2, unhide HJ, rfl⟩)
end Go.Proofs.YtnmpkdmflijhpaaDoor
