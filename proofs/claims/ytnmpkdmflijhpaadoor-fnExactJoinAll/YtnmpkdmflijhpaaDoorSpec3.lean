/- The model's ValidLattice, its loops. -/
import Derived.Test.YtnmpkdmflijhpaaDoorSpec2
namespace Go.Proofs.YtnmpkdmflijhpaaDoor
open Go Go.RowKit

theorem entP_range {f : Nat → Bool} {g h : Nat → Int} {n a b : Nat} (e : entP f g h n a b) : 0 ≤ g (a * n + b) ∧ g (a * n + b) < n ∧ 0 ≤ h (a * n + b) ∧ h (a * n + b) < n := by
  obtain ⟨j, m, h1, h2, h3, h4, -⟩ := e
  omega
theorem entP_join {f : Nat → Bool} {g h : Nat → Int} {n a b j : Nat} (e : entP f g h n a b) (hj : g (a * n + b) = j) : isJoinP f n a b j := by
  obtain ⟨j', m, h1, h2, h3, h4, h5, h6⟩ := e
  obtain rfl : j' = j := by omega
  exact h5
theorem entP_meet {f : Nat → Bool} {g h : Nat → Int} {n a b j : Nat} (e : entP f g h n a b) (hj : h (a * n + b) = j) : isMeetP f n a b j := by
  obtain ⟨j', m, h1, h2, h3, h4, h5, h6⟩ := e
  obtain rfl : m = j := by omega
  exact h6
theorem snoc {p : Nat → Prop} {k : Nat} (h : ∀ j, j < k → p j) (h' : p k) : ∀ j, j < k + 1 → p j := fun j hj => by
  by_cases e : j = k
  · rw [e]; exact h'
  · exact h j (by omega)

set_option maxRecDepth 100000 in
set_option maxHeartbeats 8000000 in
theorem specValid_main (n bt tp : Nat) (a1 a2 a3 : Option Addr) (n1 n2 n3 c1 c2 c3 : Nat) (f : Nat → Bool) (g h : Nat → Int) (w : World) (h1 : 1 ≤ n) (h32 : n ≤ 32) (l1 : n1 = n * n) (l2 : n2 = n * n) (l3 : n3 = n * n)
    (hbt : bt < n) (htp : tp < n) (ha : Bools w a1 n1 f) (hb : Ints w a2 n2 g) (hc : Ints w a3 n3 h) (V : Bool)
    (hV : V = true ↔ (∀ a, a < n → rowP f n bt tp a) ∧ (∀ a, a < n → ∀ b, b < n → entP f g h n a b)) :
    Calls Tryd.prog 19 #[.agg #[.int .i64 n, .slice a1 n1 c1, .slice a2 n2 c2, .slice a3 n3 c3, .int .i64 bt, .int .i64 tp]] w fun e w' =>
      e = .returned (.bool V) ∧ Below w.heap.size w w' := by
  have q1 : (n : Int) * n ≤ 1024 := by rw [← Int.natCast_mul]; have := sq_le h32; omega
  have q0 : 0 ≤ (n : Int) * n := by rw [← Int.natCast_mul]; omega
  have e : ∀ k : Nat, k = n * n → (((k : Int) != (n : Int) * n) = false) := fun k hk => by rw [← Int.natCast_mul]; simp; omega
  have k1 := e _ l1; have k2 := e _ l2; have k3 := e _ l3
  have HL1 : Hid (n * n ≤ n1) := Nat.le_of_eq l1.symm
  have HL2 : Hid (n * n ≤ n2) := Nat.le_of_eq l2.symm
  have HL3 : Hid (n * n ≤ n3) := Nat.le_of_eq l3.symm
  have HV := hide hV
  clear e l1 l2 l3 hV
  have hbw : ∀ o, Below w.heap.size w (w.alloc o) := fun o => (Below.refl _ _).alloc (Nat.le_refl _) o
  have HW := hide hbw; clear hbw
  have d1 : decide ((n : Int) < 1) = false := by simp; omega
  have d2 : decide ((32 : Int) < n) = false := by simp; omega
  have d3 : decide ((bt : Int) < 0) = false := by simp
  have d4 : decide (n ≤ bt) = false := by simp; omega
  have d5 : decide ((tp : Int) < 0) = false := by simp
  have d6 : decide (n ≤ tp) = false := by simp; omega
  go_enter Tryd.func19, Tryd.ntmps19
  go_wp2_with fail
  clear k1 k2 k3 d1 d2 d3 d4 d5 d6
  go_loop [4] (fun i => ∃ k : Nat, k ≤ n ∧ i = .int .i64 k ∧ ∀ a, a < k → rowP f n bt tp a) (fun i => n - (intOf i).toNat)
  case atStart => exact ⟨0, Nat.zero_le _, rfl, fun d h => absurd h (Nat.not_lt_zero _)⟩
  case round =>
    obtain ⟨k, hk, rfl, hall⟩ := hrel
    have HA := hide hall; clear hall
    by_cases hlt : k < n
    · have ht := ha.mono (unhide HW (.cells #[.int .i64 n, .slice a1 n1 c1, .slice a2 n2 c2, .slice a3 n3 c3, .int .i64 bt, .int .i64 tp] 29))
      have HF : Hid (¬ rowP f n bt tp k → V = false) := fun hno => bool_false (unhide HV) fun hy => hno (hy.1 k hlt)
      have dk : decide ((k : Int) < n) = true := by simp; omega
      cases r1 : f (k * n + k)
      · have HR2 : Hid (V = false) := unhide HF fun hy => Bool.false_ne_true (r1.symm.trans hy.1)
        go_wp2_with (go_at_call 37; refine (l1Leq_any _ _ _ _ _ _ f _ (unhide HL1) (by assumption) (by assumption) h32 ht).mono ?_; rintro e w' ⟨rfl, rfl⟩)
        go_ret
        exact ⟨ret_bool (unhide HR2).symm, unhide HW _⟩
      cases r2 : f (bt * n + k)
      · have HR2 : Hid (V = false) := unhide HF fun hy => Bool.false_ne_true (r2.symm.trans hy.2.1)
        go_wp2_with (go_at_call 37; refine (l1Leq_any _ _ _ _ _ _ f _ (unhide HL1) (by assumption) (by assumption) h32 ht).mono ?_; rintro e w' ⟨rfl, rfl⟩)
        go_ret
        exact ⟨ret_bool (unhide HR2).symm, unhide HW _⟩
      cases r3 : f (k * n + tp)
      · have HR2 : Hid (V = false) := unhide HF fun hy => Bool.false_ne_true (r3.symm.trans hy.2.2.1)
        go_wp2_with (go_at_call 37; refine (l1Leq_any _ _ _ _ _ _ f _ (unhide HL1) (by assumption) (by assumption) h32 ht).mono ?_; rintro e w' ⟨rfl, rfl⟩)
        go_ret
        exact ⟨ret_bool (unhide HR2).symm, unhide HW _⟩
      have HQ : Hid ((∀ b, b < n → ¬ (k ≠ b ∧ f (k * n + b) = true ∧ f (b * n + k) = true) ∧ ∀ c, c < n → f (k * n + b) = true → f (b * n + c) = true → f (k * n + c) = true) → rowP f n bt tp k) := fun h => ⟨r1, r2, r3, h⟩
      go_wp2_with (go_at_call 37; refine (l1Leq_any _ _ _ _ _ _ f _ (unhide HL1) (by assumption) (by assumption) h32 ht).mono ?_; rintro e w' ⟨rfl, rfl⟩)
      clear r1 r2 r3 dk
      go_loop [5] (fun i => ∃ j : Nat, j ≤ n ∧ i = .int .i64 j ∧ ∀ b, b < j → ¬ (k ≠ b ∧ f (k * n + b) = true ∧ f (b * n + k) = true) ∧ ∀ c, c < n → f (k * n + b) = true → f (b * n + c) = true → f (k * n + c) = true) (fun i => n - (intOf i).toNat)
      case atStart => exact ⟨0, Nat.zero_le _, rfl, fun d h => absurd h (Nat.not_lt_zero _)⟩
      case round =>
        obtain ⟨j, hj, rfl, hall⟩ := hrel
        have HB := hide hall; clear hall
        by_cases hlj : j < n
        · have dj : decide ((j : Int) < n) = true := by simp; omega
          have hcs : (((k : Int) != j) = true ∧ f (k * n + j) = true ∧ f (j * n + k) = true) ∨ (((k : Int) != j) = false ∨ (((k : Int) != j) = true ∧ f (k * n + j) = false) ∨ (((k : Int) != j) = true ∧ f (k * n + j) = true ∧ f (j * n + k) = false)) := by
            cases ((k : Int) != j) <;> cases f (k * n + j) <;> cases f (j * n + k) <;> simp
          rcases hcs with ⟨e1, e2, e3⟩ | hcs
          · have HR2 : Hid (V = false) := unhide HF fun hy => (hy.2.2.2 j hlj).1 ⟨fun e => by subst e; simp at e1, e2, e3⟩
            go_wp2_with (go_at_call 37; refine (l1Leq_any _ _ _ _ _ _ f _ (unhide HL1) (by assumption) (by assumption) h32 ht).mono ?_; rintro e w' ⟨rfl, rfl⟩)
            go_ret
            exact ⟨ret_bool (unhide HR2).symm, unhide HW _⟩
          · have HN : Hid (¬ (k ≠ j ∧ f (k * n + j) = true ∧ f (j * n + k) = true)) := fun ⟨e1, e2, e3⟩ => by
              rcases hcs with h | ⟨_, h⟩ | ⟨_, _, h⟩
              · simp at h; omega
              · exact Bool.false_ne_true (h.symm.trans e2)
              · exact Bool.false_ne_true (h.symm.trans e3)
            rcases hcs with e1 | ⟨e1, e2⟩ | ⟨e1, e2, e3⟩
            all_goals
              go_wp2_with (go_at_call 37; refine (l1Leq_any _ _ _ _ _ _ f _ (unhide HL1) (by assumption) (by assumption) h32 ht).mono ?_; rintro e w' ⟨rfl, rfl⟩)
              clear dj
              go_loop [6] (fun i => ∃ c : Nat, c ≤ n ∧ i = .int .i64 c ∧ ∀ d, d < c → f (k * n + j) = true → f (j * n + d) = true → f (k * n + d) = true) (fun i => n - (intOf i).toNat)
              case atStart => exact ⟨0, Nat.zero_le _, rfl, fun d h => absurd h (Nat.not_lt_zero _)⟩
              case round =>
                first | clear e3 e2 e1 | clear e2 e1 | clear e1
                obtain ⟨c, hc9, rfl, hall⟩ := hrel
                have HC := hide hall; clear hall
                by_cases hlc : c < n
                · have dc : decide ((c : Int) < n) = true := by simp; omega
                  have hc2 : (f (k * n + j) = true ∧ f (j * n + c) = true ∧ f (k * n + c) = false) ∨ (f (k * n + j) = false ∨ (f (k * n + j) = true ∧ f (j * n + c) = false) ∨ (f (k * n + j) = true ∧ f (j * n + c) = true ∧ f (k * n + c) = true)) := by
                    cases f (k * n + j) <;> cases f (j * n + c) <;> cases f (k * n + c) <;> simp
                  rcases hc2 with ⟨t1, t2, t3⟩ | hc2
                  · have HR2 : Hid (V = false) := unhide HF fun hy => Bool.false_ne_true (t3.symm.trans ((hy.2.2.2 j hlj).2 c hlc t1 t2))
                    go_wp2_with (go_at_call 37; refine (l1Leq_any _ _ _ _ _ _ f _ (unhide HL1) (by assumption) (by assumption) h32 ht).mono ?_; rintro e w' ⟨rfl, rfl⟩)
                    go_ret
                    exact ⟨ret_bool (unhide HR2).symm, unhide HW _⟩
                  · have HS : Hid (∀ d, d < c + 1 → f (k * n + j) = true → f (j * n + d) = true → f (k * n + d) = true) := snoc (unhide HC) fun s1 s2 => by
                      rcases hc2 with h | ⟨_, h⟩ | ⟨_, _, h⟩
                      · exact absurd (h.symm.trans s1) Bool.false_ne_true
                      · exact absurd (h.symm.trans s2) Bool.false_ne_true
                      · exact h
                    rcases hc2 with t1 | ⟨t1, t2⟩ | ⟨t1, t2, t3⟩
                    all_goals
                      go_wp2_with (go_at_call 37; refine (l1Leq_any _ _ _ _ _ _ f _ (unhide HL1) (by assumption) (by assumption) h32 ht).mono ?_; rintro e w' ⟨rfl, rfl⟩)
                      go_round
                      case rel => exact ⟨c + 1, by omega, by go_num, unhide HS⟩
                      case measure => simp [intOf]; omega
                · have dc : decide ((c : Int) < n) = false := by simp; omega
                  have HS : Hid (∀ b, b < j + 1 → ¬ (k ≠ b ∧ f (k * n + b) = true ∧ f (b * n + k) = true) ∧ ∀ c, c < n → f (k * n + b) = true → f (b * n + c) = true → f (k * n + c) = true) := snoc (unhide HB) ⟨unhide HN, fun d hd => unhide HC d (by omega)⟩
                  go_wp2_with fail
                  go_round
                  case rel => exact ⟨j + 1, by omega, by go_num, unhide HS⟩
                  case measure => simp [intOf]; omega
        · have dj : decide ((j : Int) < n) = false := by simp; omega
          have HS : Hid (∀ a, a < k + 1 → rowP f n bt tp a) := snoc (unhide HA) (unhide HQ fun b hb => unhide HB b (by omega))
          go_wp2_with fail
          go_round
          case rel => exact ⟨k + 1, by omega, by go_num, unhide HS⟩
          case measure => simp [intOf]; omega
    · have HR : Hid (∀ a, a < n → rowP f n bt tp a) := fun a ha => unhide HA a (by omega)
      have dk : decide ((k : Int) < n) = false := by simp; omega
      go_wp2_with fail
      clear dk
      go_loop [7] (fun i => ∃ k : Nat, k ≤ n ∧ i = .int .i64 k ∧ ∀ a, a < k → ∀ b, b < n → entP f g h n a b) (fun i => n - (intOf i).toNat)
      case atStart => exact ⟨0, Nat.zero_le _, rfl, fun d h => absurd h (Nat.not_lt_zero _)⟩
      case round =>
        clear HA hk hlt
        obtain ⟨k2, hk, rfl, hall⟩ := hrel
        have HA := hide hall; clear hall
        by_cases hlt : k2 < n
        · have dk : decide ((k2 : Int) < n) = true := by simp; omega
          go_wp2_with fail
          clear dk
          go_loop [8] (fun i => ∃ j : Nat, j ≤ n ∧ i = .int .i64 j ∧ ∀ b, b < j → entP f g h n k2 b) (fun i => n - (intOf i).toNat)
          case atStart => exact ⟨0, Nat.zero_le _, rfl, fun d h => absurd h (Nat.not_lt_zero _)⟩
          case round =>
            obtain ⟨j, hj, rfl, hall⟩ := hrel
            have HB := hide hall; clear hall
            by_cases hlj : j < n
            · have dj : decide ((j : Int) < n) = true := by simp; omega
              have i1 := idx_lt hlt hlj
              have i2 : k2 * n + j < n2 := Nat.lt_of_lt_of_le i1 (unhide HL2)
              have i3 : k2 * n + j < n3 := Nat.lt_of_lt_of_le i1 (unhide HL3)
              obtain ⟨b2, o2, rfl, -, hc2⟩ := (hb.mono (unhide HW (.cells #[.int .i64 n, .slice a1 n1 c1, .slice a2 n2 c2, .slice a3 n3 c3, .int .i64 bt, .int .i64 tp] 29))) (k2 * n + j) i2
              obtain ⟨b3, o3, rfl, -, hc3⟩ := (hc.mono (unhide HW (.cells #[.int .i64 n, .slice a1 n1 c1, .slice (some ⟨b2, o2, none⟩) n2 c2, .slice a3 n3 c3, .int .i64 bt, .int .i64 tp] 29))) (k2 * n + j) i3
              have ht := ha.mono (unhide HW (.cells #[.int .i64 n, .slice a1 n1 c1, .slice (some ⟨b2, o2, none⟩) n2 c2, .slice (some ⟨b3, o3, none⟩) n3 c3, .int .i64 bt, .int .i64 tp] 29))
              have j3 : 0 ≤ (k2 : Int) * n := by rw [← Int.natCast_mul]; omega
              have j4 : (k2 : Int) * n + j < n2 := by rw [← Int.natCast_mul]; omega
              have j5 : (k2 : Int) * n + j < n3 := by rw [← Int.natCast_mul]; omega
              have j6 : (k2 : Int) * n ≤ 1024 := by have := sq_le h32; rw [← Int.natCast_mul]; omega
              clear i1 i2 i3
              have HF : Hid (¬ entP f g h n k2 j → V = false) := fun hno => bool_false (unhide HV) fun hy => hno (hy.2 k2 hlt j hlj)
              have HG : Hid (entP f g h n k2 j → ∀ b, b < j + 1 → entP f g h n k2 b) := fun hy => snoc (unhide HB) hy
              obtain ⟨G, hG⟩ : ∃ G, g (k2 * n + j) = G := ⟨_, rfl⟩
              obtain ⟨M, hM⟩ : ∃ M, h (k2 * n + j) = M := ⟨_, rfl⟩
              rw [hG] at hc2; rw [hM] at hc3
              have HGe := hide hG; have HMe := hide hM; clear hG hM
              have hcs : (G < 0 ∨ (0 ≤ G ∧ (n : Int) ≤ G) ∨ (0 ≤ G ∧ G < n ∧ M < 0) ∨ (0 ≤ G ∧ G < n ∧ 0 ≤ M ∧ (n : Int) ≤ M)) ∨ (0 ≤ G ∧ G < n ∧ 0 ≤ M ∧ M < n) := by omega
              rcases hcs with hbad | ⟨g0, g1, m0, m1⟩
              · have HR2 : Hid (V = false) := unhide HF fun hy => by
                  have := entP_range hy; rw [unhide HGe, unhide HMe] at this; omega
                rcases hbad with g0 | ⟨g0, g1⟩ | ⟨g0, g1, g2⟩ | ⟨g0, g1, g2, g3⟩
                all_goals
                  go_wp2_with fail
                  go_ret
                  exact ⟨ret_bool (unhide HR2).symm, unhide HW _⟩
              · obtain ⟨jj, rfl⟩ := Int.eq_ofNat_of_zero_le g0
                obtain ⟨mm, rfl⟩ := Int.eq_ofNat_of_zero_le m0
                have g1' : jj < n := by omega
                have m1' : mm < n := by omega
                cases hJ : isJoin f n k2 j jj
                · have HR2 : Hid (V = false) := unhide HF fun hy => Bool.false_ne_true (hJ.symm.trans (isJoin_true (entP_join hy (unhide HGe))))
                  go_wp2_with (first | (go_at_call 54; refine (l1IsJoin_any _ _ _ _ _ _ _ f _ (unhide HL1) h32 hlt hlj g1' ht).mono ?_; rintro e w' ⟨rfl, rfl⟩) | (go_at_call 55; refine (l1IsMeet_any _ _ _ _ _ _ _ f _ (unhide HL1) h32 hlt hlj m1' ht).mono ?_; rintro e w' ⟨rfl, rfl⟩))
                  go_ret
                  exact ⟨ret_bool (unhide HR2).symm, unhide HW _⟩
                · cases hK : isMeet f n k2 j mm
                  · have HR2 : Hid (V = false) := unhide HF fun hy => Bool.false_ne_true (hK.symm.trans (isMeet_true (entP_meet hy (unhide HMe))))
                    go_wp2_with (first | (go_at_call 54; refine (l1IsJoin_any _ _ _ _ _ _ _ f _ (unhide HL1) h32 hlt hlj g1' ht).mono ?_; rintro e w' ⟨rfl, rfl⟩) | (go_at_call 55; refine (l1IsMeet_any _ _ _ _ _ _ _ f _ (unhide HL1) h32 hlt hlj m1' ht).mono ?_; rintro e w' ⟨rfl, rfl⟩))
                    go_ret
                    exact ⟨ret_bool (unhide HR2).symm, unhide HW _⟩
                  · have HR2 := hide (unhide HG ⟨jj, mm, unhide HGe, unhide HMe, g1', m1', isJoin_iff.1 hJ, isMeet_iff.1 hK⟩)
                    go_wp2_with (first | (go_at_call 54; refine (l1IsJoin_any _ _ _ _ _ _ _ f _ (unhide HL1) h32 hlt hlj g1' ht).mono ?_; rintro e w' ⟨rfl, rfl⟩) | (go_at_call 55; refine (l1IsMeet_any _ _ _ _ _ _ _ f _ (unhide HL1) h32 hlt hlj m1' ht).mono ?_; rintro e w' ⟨rfl, rfl⟩))
                    go_round
                    case rel => exact ⟨j + 1, by omega, by go_num, unhide HR2⟩
                    case measure => simp [intOf]; omega
            · have HE : Hid (∀ a, a < k2 + 1 → ∀ b, b < n → entP f g h n a b) := snoc (unhide HA) (fun b hb => unhide HB b (by omega))
              have dk : decide ((j : Int) < n) = false := by simp; omega
              go_wp2_with fail
              go_round
              case rel => exact ⟨k2 + 1, by omega, by go_num, unhide HE⟩
              case measure => simp [intOf]; omega
        · have HT : Hid (V = true) := (unhide HV).2 ⟨unhide HR, fun a ha => unhide HA a (by omega)⟩
          have dk : decide ((k2 : Int) < n) = false := by simp; omega
          go_wp2_with fail
          go_ret
          exact ⟨ret_bool (unhide HT).symm, unhide HW _⟩
end Go.Proofs.YtnmpkdmflijhpaaDoor
