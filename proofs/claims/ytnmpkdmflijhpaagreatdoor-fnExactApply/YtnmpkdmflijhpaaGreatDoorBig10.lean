/- The model's exact integers: quotients of digits. -/
import Derived.Test.YtnmpkdmflijhpaaGreatDoorBig3o
namespace Go.Proofs.YtnmpkdmflijhpaaGreatDoor
open Go Go.RowKit

/-- The first places of a number. -/
def places (z k : Nat) : List Nat := (List.range k).map fun j => z / 10 ^ j % 10
theorem places_succ (z k : Nat) : places z (k + 1) = places z k ++ [z / 10 ^ k % 10] := by simp [places, List.range_succ]
theorem places_len (z k : Nat) : (places z k).length = k := by simp [places]
theorem places_dig (z k : Nat) : Dig (places z k) := fun d hd => by
  obtain ⟨i, -, rfl⟩ := List.mem_map.1 hd
  exact Nat.mod_lt _ (by decide)
theorem places_val (z : Nat) : ∀ k, dval (places z k) = z % 10 ^ k
  | 0 => by simp [places, dval, Nat.mod_one]
  | k + 1 => by rw [places_succ, dval_snoc, places_len, places_val z k, mod_step]
/-- The quotient's places, filled from the top down to k. -/
def quoL (z N k : Nat) : List Value := (List.range N).map fun j => .int .i64 (if j < k then 0 else ((z / 10 ^ j % 10 : Nat) : Int))
theorem quo_set (z N k : Nat) (hk : k < N) : (quoL z N (k + 1)).set k (.int .i64 ((z / 10 ^ k % 10 : Nat) : Int)) = quoL z N k := by
  apply List.ext_getElem?
  intro i
  rw [List.getElem?_set]
  by_cases e : k = i
  · subst e
    simp [quoL, hk]
  · rw [if_neg e]
    by_cases hi : i < N
    · simp only [quoL, List.getElem?_map, List.getElem?_range hi, Option.map_some]
      by_cases h1 : i < k
      · rw [if_pos (by omega), if_pos h1]
      · rw [if_neg (by omega), if_neg h1]
    · simp [quoL, hi]
theorem quo_all (z N : Nat) : quoL z N 0 = ui (places z N) := by simp [quoL, places, ui]
theorem quo_none (z N : Nat) : quoL z N N = List.replicate N (.int .i64 0) := by
  apply List.ext_getElem?
  intro i
  by_cases hi : i < N
  · simp [quoL, hi]
  · simp [quoL, hi]
theorem div_end {T M d : Nat} (h : T - d * M < M) (hd : d * M ≤ T) : d = T / M := by
  have h1 : T < (d + 1) * M := by rw [Nat.add_mul, Nat.one_mul]; omega
  have hM : 0 < M := by omega
  have h2 : d ≤ T / M := (Nat.le_div_iff_mul_le hM).2 hd
  have h3 : T / M < d + 1 := (Nat.div_lt_iff_lt_mul hM).2 h1
  omega
theorem digS_of_blk {w : World} {Q N : Nat} {t : TypeId} {us : List Nat} (h : Blk w Q t (ui us)) (hN : us.length = N) : DigS w (.slice (some ⟨Q, 0, none⟩) N N) us := by
  refine ⟨some ⟨Q, 0, none⟩, N, by rw [hN], by omega, (fun e => by cases e), fun k hk => ⟨Q, 0, rfl, h.lt, ?_⟩⟩
  rw [Nat.zero_add, h.cell k]
  simp [ui, List.getD_eq_getElem?_getD, List.getElem?_eq_getElem hk]

/-- A row of digits that does not lie in block Q is as it was behind a store there. -/
theorem DigS.other {w : World} {v : Value} {l : List Nat} (h : DigS w v l) {Q : Nat} (hQ : v.ownBlock ≠ some Q) (j : Nat) (u : Value) : DigS (w.setCell ⟨Q, j, none⟩ u) v l := by
  obtain ⟨a, cap, rfl, h1, h2, h3⟩ := h
  refine ⟨a, cap, rfl, h1, h2, fun k hk => ?_⟩
  obtain ⟨b, off, rfl, hl, hc⟩ := h3 k hk
  have hb : b ≠ Q := fun e => hQ (by rw [e]; rfl)
  refine ⟨b, off, rfl, by simpa using hl, ?_⟩
  rw [World.cell?_of_block (w := w) (heap_setCell_other w ⟨Q, j, none⟩ b u hb)]
  exact hc

set_option maxRecDepth 100000 in
set_option maxHeartbeats 8000000 in
theorem l2MagDiv_any (v u : Value) (l m : List Nat) (w : World) (hv : DigS w v l) (hu : DigS w u m) (hl : Dig l) (hm : Dig m) (bl : l.length ≤ 200) (bm : m.length ≤ 200) (h0 : 0 < dval m) :
    Calls Tryz.prog 55 #[v, u] w fun e w' => ∃ r, e = .returned r ∧ DigS w' r (digs (dval l / dval m)) ∧ Below w.heap.size w w' := by
  obtain ⟨a, ca, rfl, -, -, hA⟩ := id hv
  obtain ⟨b, cb, rfl, -, -, hB⟩ := id hu
  have HV := hide hv; have HU := hide hu; clear hv hu hA hB
  obtain ⟨N, hN⟩ : ∃ N, l.length = N := ⟨_, rfl⟩
  obtain ⟨nm, hnm⟩ : ∃ nm, m.length = nm := ⟨_, rfl⟩
  rw [hN] at bl HV ⊢; rw [hnm] at bm HU ⊢
  have HNL := hide hN; have HNM := hide hnm
  clear hN hnm
  have HL := hide hl; have HM := hide hm
  clear hl hm
  obtain ⟨n, hn⟩ : ∃ n, dval l = n := ⟨_, rfl⟩
  obtain ⟨M, hM⟩ : ∃ M, dval m = M := ⟨_, rfl⟩
  rw [hn, hM]
  rw [hM] at h0
  have HVL := hide hn; have HVM := hide hM
  clear hn hM
  have HM0 : M < 10 ^ nm := by rw [← unhide HVM, ← unhide HNM]; exact dval_lt (unhide HM)
  have Hn0 : n < 10 ^ N := by rw [← unhide HVL, ← unhide HNL]; exact dval_lt (unhide HL)
  have HPW := hide (And.intro HM0 Hn0)
  clear HM0 Hn0
  obtain ⟨w1, hw1⟩ : ∃ w1, w.alloc (.cells #[] 3) = w1 := ⟨_, rfl⟩
  have hb1 : Below w.heap.size w w1 := by rw [← hw1]; exact (Below.refl _ _).alloc (Nat.le_refl _) _
  have hr1 : DigS w1 (.slice (some ⟨w.heap.size, 0, none⟩) 0 0) [] := by rw [← hw1]; exact digS_of_owns (us := []) (owns_none w 3)
  have HB1 := hide hb1; have HR1 := hide hr1
  clear hb1 hr1
  obtain ⟨i0, hi, hz0, hz1, hz2⟩ := info_parts infoI
  have hbn : i0.bytes * N ≤ 281474976710656 := by rw [hz2]; omega
  go_enter Tryz.func55, Tryz.ntmps55
  go_wp2_with (at_make; refine wpList_make_full _ rfl (.tmp 13) (.tmp 13) 44 rfl w1.heap.size 3 i0 (.int .i64 0) 1 Tryz.underlying44 hi hz0 hz1 .i64 .i64 _ _ N rfl rfl rfl rfl hbn (by unfold maxLen; omega) (Nat.le_refl _) ?_; intro w2 hown hgrow)
  have hb2 : Below w1.heap.size w1 w2 := (Below.refl _ _).grown hgrow (Nat.le_refl _) (fun k h => by cases h)
  obtain ⟨Q, hQ⟩ : ∃ Q, w1.heap.size = Q := ⟨_, rfl⟩
  have hBQ : Blk w2 Q 3 (quoL (n / M) N N) := by
    have h := Blk.of_owns hown
    rw [hQ, show (Value.int .i64 0).cells = #[.int .i64 0] from rfl, toList_madeCells_one, Nat.mul_one] at h
    rw [quo_none]
    exact h
  have hQw : w.heap.size ≤ Q := by rw [← hQ]; exact (unhide HB1).size
  have HB2 := hide ((unhide HB1).trans (hb2.mono (unhide HB1).size))
  have HR2 : Hid (DigS w2 (.slice (some ⟨w.heap.size, 0, none⟩) 0 0) (digs (n / 10 ^ N % M))) := hide (by
    rw [Nat.div_eq_of_lt (unhide HPW).2, Nat.zero_mod, digs_zero]; exact (unhide HR1).mono hb2)
  have HQ2 := hide hBQ
  rw [hQ]
  clear hown hgrow hb2 hQ hBQ hbn hw1 HB1 HR1
  go_wp2
  go_loopw [5, 7, 8, 9, 10] (fun rem i _ _ _ wr => ∃ k : Nat, k ≤ N ∧ i = .int .i64 ((k : Int) - 1) ∧ DigS wr rem (digs (n / 10 ^ k % M)) ∧ Blk wr Q 3 (quoL (n / M) N k) ∧ Below w.heap.size w wr) (fun _ i _ _ _ _ => (intOf i + 1).toNat)
  case atStart => exact ⟨N, Nat.le_refl _, rfl, unhide HR2, unhide HQ2, unhide HB2⟩
  case round =>
    clear HR2 HQ2 HB2
    obtain ⟨k, hk, rfl, hrem, hquo, hb⟩ := hrel
    have HRem := hide hrem; have HQuo := hide hquo; have HB := hide hb
    clear hrem hquo hb
    obtain ⟨Wo, rfl⟩ : ∃ Wo, Wo = wr := ⟨_, rfl⟩
    cases k with
    | zero =>
      have HD : Hid (DigS Wo (.slice (some ⟨Q, 0, none⟩) N N) (places (n / M) N)) := hide (digS_of_blk (by rw [← quo_all]; exact unhide HQuo) (places_len _ _))
      have hnM : n / M < 10 ^ N := Nat.lt_of_le_of_lt (Nat.div_le_self _ _) (unhide HPW).2
      have HNM2 := hide hnM
      clear hnM
      go_wp2_with fail
      refine (l2Trim_any _ _ Wo (unhide HD) (places_dig _ _) (by rw [places_len]; omega)).mono ?_
      rintro e w3 ⟨uu, rfl, hu3, rfl⟩
      rw [places_val, Nat.mod_eq_of_lt (unhide HNM2)] at hu3
      have HU3 := hide hu3
      clear hu3
      go_wp2
      go_ret
      exact ⟨_, rfl, unhide HU3, unhide HB⟩
    | succ K =>
      rw [show ((K + 1 : Nat) : Int) - 1 = (K : Int) by omega]
      have hKN : K < N := by omega
      have hKN' : (K : Int) < N := by omega
      obtain ⟨r, hr⟩ : ∃ r, n / 10 ^ (K + 1) % M = r := ⟨_, rfl⟩
      rw [hr] at HRem
      have HDP := hide (div_place (n := n) (m := M) (i := K) (r := r) h0 hr.symm)
      have hrM : r < M := by rw [← hr]; exact Nat.mod_lt _ h0
      clear hr
      obtain ⟨x, hx⟩ : ∃ x, n / 10 ^ K % 10 = x := ⟨_, rfl⟩
      rw [hx] at HDP
      have hx10 : x < 10 := by rw [← hx]; exact Nat.mod_lt _ (by decide)
      have VR := hide ((unhide HV).mono (unhide HB))
      obtain ⟨ba, oa, ea, -, cA⟩ : ∃ ba oa, a = some ⟨ba, oa, none⟩ ∧ ba < Wo.heap.size ∧ Wo.cell? ⟨ba, oa + K, none⟩ = some (.int .i64 x) := by
        obtain ⟨a', ca', e, -, -, hI⟩ := unhide VR
        cases e
        obtain ⟨ba, oa, e1, e2, e3⟩ := hI K (by have := unhide HNL; omega)
        exact ⟨ba, oa, e1, e2, by dsimp only at e3; rwa [dig_at (unhide HL), unhide HVL, hx] at e3⟩
      have HX := hide hx
      clear hx
      cases ea
      obtain ⟨ra, rc, er, -, -, hRI⟩ := id (unhide HRem)
      subst er
      obtain ⟨R, hR⟩ : ∃ R, (digs r).length = R := ⟨_, rfl⟩
      have hR2 : R ≤ 200 := by rw [← hR]; exact Nat.le_trans (digs_length_le (Nat.lt_trans hrM (unhide HPW).1)) bm
      have HRL := hide hR
      rw [hR] at HRem hRI ⊢
      have HRI := hide hRI
      clear hR hRI
      have HN0 : Hid ((Wo.alloc (.cells #[.int .i64 (x : Int)] 3)).ownsRow Wo.heap.size 3 1 (.slice (some ⟨Wo.heap.size, 0, none⟩) 1 1) (0 + 1) (ui (x :: (digs r).take 0))) := hide ⟨rfl, .inr ⟨Wo.heap.size, 1, #[.int .i64 (x : Int)], rfl, Nat.le_refl _, heap_alloc_new Wo (.cells #[.int .i64 (x : Int)] 3), by omega, by unfold maxLen; omega, rfl, rfl⟩⟩
      have HB1 : Hid (Below Wo.heap.size Wo (Wo.alloc (.cells #[.int .i64 (x : Int)] 3))) := hide ((Below.refl _ _).alloc (Nat.le_refl _) _)
      go_wp2
      go_loopw [8, 9] (fun nx j w1 => ∃ q : Nat, q ≤ R ∧ j = .int .i64 q ∧ w1.ownsRow Wo.heap.size 3 1 nx (q + 1) (ui (x :: (digs r).take q)) ∧ Below Wo.heap.size Wo w1) (fun _ j _ => R - (intOf j).toNat)
      case atStart => exact ⟨0, by omega, rfl, unhide HN0, unhide HB1⟩
      case round =>
        clear HN0 HB1
        obtain ⟨q, hq, rfl, hO, hb1⟩ := hrel
        have HO := hide hO; have HB1 := hide hb1
        clear hO hb1
        by_cases hlq : q < R
        · have hlq' : (q : Int) < R := by omega
          obtain ⟨br, orr, er, -, cR⟩ := (unhide HRI).mono (unhide HB1) q hlq
          subst er
          dsimp only at cR
          obtain ⟨z, hz⟩ : ∃ z, (digs r).getD q 0 = z := ⟨_, rfl⟩
          rw [hz] at cR
          have HT : Hid (x :: (digs r).take (q + 1) = (x :: (digs r).take q) ++ [z]) := hide (by
            have hq2 : q < (digs r).length := by rw [unhide HRL]; exact hlq
            rw [List.take_add_one, List.getElem?_eq_getElem hq2, ← hz, List.getD_eq_getElem?_getD, List.getElem?_eq_getElem hq2]; rfl)
          clear hz
          obtain ⟨i0, hi, hz0, hz1, hz2⟩ := info_parts infoI
          go_wp2_with (at_builtin; refine wpList_append_own _ rfl _ _ 44 rfl Wo.heap.size 3 i0 _ 1 8 Tryz.underlying44 hi hz0 hz1 hz2 rfl (by omega) _ _ _ rfl ((unhide HO).alloc _) ⟨wr.heap.size, 0, none⟩ 1 1 [.int .i64 (z : Int)] rfl rfl (cell_one wr 3 _) (by simp [Value.oneCell']) (by unfold maxLen; omega) (by omega) (by have := (unhide HB1).size; simp; omega) ?_)
          intro v' w2' ho' hgr' _
          have hB2 := ((unhide HB1).alloc (unhide HB1).size (.cells #[.int .i64 (z : Int)] 3)).grown hgr' (by have := (unhide HB1).size; simp; omega) (fun q' e => owns_block (unhide HO) e)
          have HO2 : Hid (w2'.ownsRow Wo.heap.size 3 1 v' (q + 1 + 1) (ui (x :: (digs r).take (q + 1)))) := hide (by rw [unhide HT]; simpa [ui] using ho')
          have HB2 := hide hB2
          clear ho' hgr' hB2 hi hz0 hz1 hz2 HO HB1 cR
          go_wp2
          go_roundw
          case rel => exact ⟨q + 1, by omega, by go_num, unhide HO2, unhide HB2⟩
          case measure => simp [intOf]; omega
        · obtain rfl : q = R := by omega
          have hall : (digs r).take q = digs r := List.take_of_length_le (by have := unhide HRL; omega)
          have hO1 := unhide HO
          rw [hall] at hO1
          have hDN : DigS wr u8 (x :: digs r) := digS_of_owns (by rw [List.length_cons, unhide HRL]; exact hO1)
          obtain ⟨T, hT⟩ : ∃ T, 10 * r + x = T := ⟨_, rfl⟩
          have hval : dval (x :: digs r) = T := by rw [← hT]; simp only [dval, dval_digs]; omega
          rw [hT] at HDP
          have hTM : T < 10 * M := by omega
          have HOW : Hid (∀ g, u8.ownBlock = some g → Wo.heap.size ≤ g) := hide (fun g e => owns_block (unhide HO) e)
          have HDN := hide hDN; have HVAL := hide hval; have HTT := hide hT
          have hdig : Dig (x :: digs r) := (dig_digs r).cons hx10
          have HDIG := hide hdig
          have HLn : Hid ((x :: digs r).length ≤ 201) := hide (by rw [List.length_cons, unhide HRL]; omega)
          clear hall hO1 hDN hval hT hdig HO
          go_wp2_with fail
          refine (l2Trim_own _ _ wr (unhide HDN) (unhide HDIG) (by have := unhide HLn; omega)).mono ?_
          rintro e w3 ⟨uu, rfl, hu3, hw3, how⟩
          have HOW2 : Hid (∀ g, uu.ownBlock = some g → Wo.heap.size ≤ g) := hide (fun g e => unhide HOW g (by rw [← how]; exact e))
          clear how
          rw [hw3]
          clear hw3 w3
          rw [unhide HVAL] at hu3
          have HUU := hide hu3
          clear hu3
          obtain ⟨W2, rfl⟩ : ∃ W2, W2 = wr := ⟨_, rfl⟩
          have HT200 : Hid (∀ z, z ≤ T → (digs z).length ≤ 300) := hide fun z hz => Nat.le_trans (digs_length_le (k := nm + 1) (by
            have := (unhide HPW).1
            rw [Nat.pow_succ]
            omega)) (by omega)
          go_wp2
          go_loopw [5, 10] (fun rem d wr => ∃ dd : Nat, dd ≤ 9 ∧ dd * M ≤ T ∧ d = .int .i64 dd ∧ DigS wr rem (digs (T - dd * M)) ∧ Below W2.heap.size W2 wr ∧ ∀ g, rem.ownBlock = some g → Wo.heap.size ≤ g) (fun _ d _ => 9 - (intOf d).toNat)
          case atStart => exact ⟨0, by omega, by omega, rfl, by rw [Nat.zero_mul, Nat.sub_zero]; exact unhide HUU, Below.refl _ _, unhide HOW2⟩
          case round =>
            clear HUU HOW2
            obtain ⟨dd, hd9, hdT, rfl, hrem, hb2, how⟩ := hrel
            have HOW2 := hide how
            clear how
            obtain ⟨Z, hZ⟩ : ∃ Z, T - dd * M = Z := ⟨_, rfl⟩
            rw [hZ] at hrem
            have HRm := hide hrem; have HB2 := hide hb2
            have UR := hide ((((unhide HU).mono (unhide HB)).mono (unhide HB1)).mono hb2)
            have HZ := hide hZ; have HDT := hide hdT
            have hZT : Z ≤ T := by omega
            clear hrem hb2 hZ hdT
            by_cases h9 : dd = 9
            · have h9' : ¬ (dd : Int) < 9 := by omega
              have hdd : dd = T / M := by have := (unhide HDP).1; have h7 : dd ≤ T / M := (Nat.le_div_iff_mul_le h0).2 (unhide HDT); omega
              have hq1 : dd = n / M / 10 ^ K % 10 := by rw [hdd]; exact (unhide HDP).2.1
              have hrr : Z = n / 10 ^ K % M := by
                have h4 := (unhide HDP).2.2
                have h5 := Nat.div_add_mod T M
                have h6 := unhide HZ
                rw [Nat.mul_comm, ← hdd] at h5
                omega
              have HQ4 : Hid (Blk wr Q 3 (quoL (n / M) N (K + 1))) := hide (((unhide HQuo).mono (unhide HB1) (unhide HQuo).lt).mono (unhide HB2) (Nat.lt_of_lt_of_le (unhide HQuo).lt (unhide HB1).size))
              have HB4 : Hid (Below W2.heap.size W2 wr) := hide (unhide HB2)
              have HR4 : Hid (DigS wr u5 (digs Z)) := hide (unhide HRm)
              obtain ⟨q0, hq0⟩ : ∃ q0, wr.cell? ⟨Q, K, none⟩ = some q0 := ⟨_, ((unhide HQ4).cell K).trans (List.getElem?_eq_getElem (by simp [quoL]; exact hKN))⟩
              have hf0 := (unhide HQ4).free K
              have HQ5 : Hid (Blk (wr.setCell ⟨Q, K, none⟩ (.int .i64 (dd : Int))) Q 3 (quoL (n / M) N K)) := hide (by rw [← quo_set _ _ _ hKN, ← hq1]; exact (unhide HQ4).set K _)
              have HB5 : Hid (Below w.heap.size w (wr.setCell ⟨Q, K, none⟩ (.int .i64 (dd : Int)))) := hide ((((unhide HB).trans ((unhide HB1).mono (unhide HB).size)).trans ((unhide HB4).mono (by have := (unhide HB).size; have := (unhide HB1).size; omega))).setCell hQw _)
              have HR5 : Hid (DigS (wr.setCell ⟨Q, K, none⟩ (.int .i64 (dd : Int))) u5 (digs (n / 10 ^ K % M))) := hide (by rw [← hrr]; exact (unhide HR4).other (fun e => by have := unhide HOW2 Q e; have := (unhide HQuo).lt; omega) K _)
              clear hq1 hrr HRm HR4 HQ4 hdd h9
              go_wp2
              go_roundw
              case rel => exact ⟨K, by omega, by go_num, unhide HR5, unhide HQ5, unhide HB5⟩
              case measure => simp [intOf]
            · have h9' : (dd : Int) < 9 := by omega
              have hZl := unhide HT200 Z hZT
              by_cases hZM : Z < M
              · go_wp2_with fail
                refine (l2MagLess_any _ _ (digs Z) m wr (unhide HRm) (unhide UR) (dig_digs _) (unhide HM) (by omega) (by have := unhide HNM; omega) true ⟨fun _ => by rw [dval_digs, unhide HVM]; exact hZM, fun _ => rfl⟩).mono ?_
                rintro e w3 ⟨rfl, nq, hw3⟩
                have hb3 : Below wr.heap.size wr w3 := by rw [hw3]; exact below_drewN' _ nq
                clear hw3
                have hdd : dd = T / M := div_end (by rw [unhide HZ]; exact hZM) (unhide HDT)
                have hq1 : dd = n / M / 10 ^ K % 10 := by rw [hdd]; exact (unhide HDP).2.1
                have hrr : Z = n / 10 ^ K % M := by
                  have h4 := (unhide HDP).2.2
                  have h5 := Nat.div_add_mod T M
                  have h6 := unhide HZ
                  rw [Nat.mul_comm, ← hdd] at h5
                  omega
                have HQ4 : Hid (Blk w3 Q 3 (quoL (n / M) N (K + 1))) := hide ((((unhide HQuo).mono (unhide HB1) (unhide HQuo).lt).mono (unhide HB2) (Nat.lt_of_lt_of_le (unhide HQuo).lt (unhide HB1).size)).mono hb3 (Nat.lt_of_lt_of_le (unhide HQuo).lt (Nat.le_trans (unhide HB1).size (unhide HB2).size)))
                have HB4 : Hid (Below W2.heap.size W2 w3) := hide ((unhide HB2).trans (hb3.mono (unhide HB2).size))
                have HR4 : Hid (DigS w3 u5 (digs Z)) := hide ((unhide HRm).mono hb3)
                obtain ⟨q0, hq0⟩ : ∃ q0, w3.cell? ⟨Q, K, none⟩ = some q0 := ⟨_, ((unhide HQ4).cell K).trans (List.getElem?_eq_getElem (by simp [quoL]; exact hKN))⟩
                have hf0 := (unhide HQ4).free K
                have HQ5 : Hid (Blk (w3.setCell ⟨Q, K, none⟩ (.int .i64 (dd : Int))) Q 3 (quoL (n / M) N K)) := hide (by rw [← quo_set _ _ _ hKN, ← hq1]; exact (unhide HQ4).set K _)
                have HB5 : Hid (Below w.heap.size w (w3.setCell ⟨Q, K, none⟩ (.int .i64 (dd : Int)))) := hide ((((unhide HB).trans ((unhide HB1).mono (unhide HB).size)).trans ((unhide HB4).mono (by have := (unhide HB).size; have := (unhide HB1).size; omega))).setCell hQw _)
                have HR5 : Hid (DigS (w3.setCell ⟨Q, K, none⟩ (.int .i64 (dd : Int))) u5 (digs (n / 10 ^ K % M))) := hide (by rw [← hrr]; exact (unhide HR4).other (fun e => by have := unhide HOW2 Q e; have := (unhide HQuo).lt; omega) K _)
                clear hq1 hrr HRm HR4 HQ4 hdd
                go_wp2
                go_roundw
                case rel => exact ⟨K, by omega, by go_num, unhide HR5, unhide HQ5, unhide HB5⟩
                case measure => simp [intOf]
              · go_wp2_with fail
                refine (l2MagLess_any _ _ (digs Z) m wr (unhide HRm) (unhide UR) (dig_digs _) (unhide HM) (by omega) (by have := unhide HNM; omega) false ⟨(fun h => by cases h), fun h => absurd h (by rw [dval_digs, unhide HVM]; exact hZM)⟩).mono ?_
                rintro e w3 ⟨rfl, nq, hw3⟩
                have hb3 : Below wr.heap.size wr w3 := by rw [hw3]; exact below_drewN' _ nq
                have HR3 := hide ((unhide HRm).mono hb3); have UR3 := hide ((unhide UR).mono hb3)
                have HB3 := hide ((unhide HB2).trans (hb3.mono (unhide HB2).size))
                clear hw3 hb3 HRm UR HB2
                go_wp2_with fail
                refine (l2MagSub_own _ _ (digs Z) m w3 (unhide HR3) (unhide UR3) (dig_digs _) (unhide HM) (by omega) (by rw [dval_digs, unhide HVM]; omega)).mono ?_
                rintro e w4 ⟨rr, rfl, hrr, hb4, how4⟩
                have HR4 : Hid (DigS w4 rr (digs (T - (dd + 1) * M))) := hide (by
                  rw [dval_digs, unhide HVM, ← unhide HZ] at hrr
                  rw [Nat.add_mul, Nat.one_mul, Nat.sub_add_eq]
                  exact hrr)
                have HB4 := hide ((unhide HB3).trans (hb4.mono (unhide HB3).size))
                have HO4 : Hid (∀ g, rr.ownBlock = some g → Wo.heap.size ≤ g) := hide (fun g e => by have := how4 g e; have := (unhide HB3).size; have := (unhide HB1).size; omega)
                have hd1 : (dd + 1) * M ≤ T := by have := unhide HZ; have := unhide HDT; rw [Nat.add_mul, Nat.one_mul]; omega
                have HD1 := hide hd1
                clear hrr hb4 how4 hd1
                go_wp2
                go_roundw
                case rel => exact ⟨dd + 1, by omega, unhide HD1, by go_num, unhide HR4, unhide HB4, unhide HO4⟩
                case measure => simp [intOf]; omega
end Go.Proofs.YtnmpkdmflijhpaaGreatDoor
