/- impl.ValidLattice. -/
import Derived.Test.YtnmpkdmflijhpaaDoorLatOf
import Derived.Test.YtnmpkdmflijhpaaDoorEqSets
import Derived.Test.YtnmpkdmflijhpaaDoorClosed
namespace Go.Proofs.YtnmpkdmflijhpaaDoor
open Go Go.RowKit

/-- What ValidLattice answers where the tables fit, by what it reckons. -/
def Outcome (n : Nat) (f : Nat → Bool) (g h : Nat → Int) (bot top : Int) (V : Bool) : Prop :=
  ∃ u c d : Nat → Nat, IsRel u (part f n (n * n)) ∧ IsReach c (fun a b => a < n ∧ Reach u a b) ∧ IsRel d (fun b a => decide (a < n) && part f n (n * n) a b) ∧
    ((sameN u c = false ∧ V = false) ∨ (sameN u c = true ∧
      (((∃ a, a < n ∧ ¬ commonN (u a) (d a) = 2 ^ a) ∧ V = false) ∨
       ((∀ a, a < n → commonN (u a) (d a) = 2 ^ a) ∧ (∃ a b, a < n ∧ b < n ∧ Entry u a b (-1)) ∧ V = false) ∨
       ((∀ a, a < n → commonN (u a) (d a) = 2 ^ a) ∧ (∃ a b, a < n ∧ b < n ∧ Entry d a b (-1)) ∧ V = false) ∨
       ((∀ a, a < n → commonN (u a) (d a) = 2 ^ a) ∧ ∃ F1 F2 : Nat → Int, ∃ bot' top' : Int, (∀ a, a < n → ∀ b, b < n → 0 ≤ F1 (a * n + b) ∧ Entry u a b (F1 (a * n + b))) ∧ (∀ a, a < n → ∀ b, b < n → 0 ≤ F2 (a * n + b) ∧ Entry d a b (F2 (a * n + b))) ∧ Least u (2 ^ n - 1) bot' ∧ Least d (2 ^ n - 1) top' ∧ V = sameV bot' bot top' top (n * n) F1 g F2 h))))

theorem exists_set (P : Nat → Bool) : ∀ k, ∃ s, s < 2 ^ k ∧ ∀ b, s.testBit b = (decide (b < k) && P b)
  | 0 => ⟨0, by decide, fun b => by simp⟩
  | k + 1 => by
    obtain ⟨s, hs, hb⟩ := exists_set P k
    cases hp : P k
    · refine ⟨s, Nat.lt_of_lt_of_le hs (Nat.pow_le_pow_right (by omega) (by omega)), fun b => ?_⟩
      rw [hb]
      by_cases e : b = k
      · subst e; simp [hp]
      · rw [show decide (b < k + 1) = decide (b < k) by simp; omega]
    · refine ⟨s ||| 2 ^ k, Nat.or_lt_two_pow (Nat.lt_of_lt_of_le hs (Nat.pow_le_pow_right (by omega) (by omega))) (Nat.pow_lt_pow_right (by omega) (by omega)), fun b => ?_⟩
      rw [Nat.testBit_or, hb, Nat.testBit_two_pow]
      by_cases e : b = k
      · subst e; simp [hp]
      · rw [show decide (b < k + 1) = decide (b < k) by simp; omega, show decide (k = b) = false by simp; omega]; simp
theorem exists_rel {n : Nat} (R : Nat → Nat → Bool) (hn : n ≤ 32) : ∃ d, IsRel d (fun b a => decide (a < n) && R a b) := by
  refine ⟨fun b => Classical.choose (exists_set (fun a => decide (a < n) && R a b) 32), fun b _ => ?_⟩
  have h := Classical.choose_spec (exists_set (fun a => decide (a < n) && R a b) 32)
  refine ⟨h.1, fun a => ?_⟩
  rw [h.2 a]
  by_cases ha : a < n
  · simp [show a < 32 by omega]
  · simp [ha]

theorem sets_new (w : World) (c : Array Value) (h : c.toList = us fun _ => 0) : Blk (w.alloc (.cells c 75)) w.heap.size 75 (us fun _ => 0) := h ▸ Blk.new w 75 c

set_option maxRecDepth 100000 in
set_option maxHeartbeats 4000000 in
theorem implValid_main (n : Nat) (bot top : Int) (a1 a2 a3 : Option Addr) (m c1 c2 c3 : Nat) (f : Nat → Bool) (g h : Nat → Int) (w : World) (h1 : 1 ≤ n) (h32 : n ≤ 32) (hm : m = n * n)
    (ha : Bools w a1 m f) (hb : Ints w a2 m g) (hc : Ints w a3 m h) (ht : Tab w) :
    Calls Tryd.prog 21 #[.agg #[.int .i64 n, .slice a1 m c1, .slice a2 m c2, .slice a3 m c3, .int .i64 bot, .int .i64 top]] w fun e w' =>
      ∃ V, e = .returned (.bool V) ∧ Outcome n f g h bot top V ∧ Below w.heap.size w w' := by
  have q2 := sq_le h32
  have hm2 : m ≤ 1024 := by omega
  have HM := hide hm; clear hm
  have B0 := Blk.new w 29 #[.int .i64 n, .slice a1 m c1, .slice a2 m c2, .slice a3 m c3, .int .i64 bot, .int .i64 top]
  have BW : Below w.heap.size w (w.alloc (.cells #[.int .i64 n, .slice a1 m c1, .slice a2 m c2, .slice a3 m c3, .int .i64 bot, .int .i64 top] 29)) := (Below.refl _ _).alloc (Nat.le_refl _) _
  have H0 := hide B0; have HW := hide BW; clear B0 BW
  go_enter Tryd.func21, Tryd.ntmps21
  go_wp2_with fail
  refine (fit_len n bot top a1 a2 a3 m m m c1 c2 c3 _ h1 h32 true ⟨fun _ => ⟨unhide HM, unhide HM, unhide HM⟩, fun _ => rfl⟩).mono ?_
  rintro e w1 ⟨rfl, hb1⟩
  replace H0 := hide ((unhide H0).mono hb1 (unhide H0).lt); replace HW := hide ((unhide HW).trans (hb1.mono (unhide HW).size)); clear hb1
  have z0 := (unhide H0).cell 0; have z1 := (unhide H0).cell 1; have z2 := (unhide H0).cell 2; have z3 := (unhide H0).cell 3; have z4 := (unhide H0).cell 4; have z5 := (unhide H0).cell 5
  simp only [List.getElem?_cons_succ, List.getElem?_cons_zero] at z0 z1 z2 z3 z4 z5
  go_wp2_with fail
  refine (readAbove_any n bot top a1 a2 a3 m m m c1 c2 c3 f _ h1 h32 (unhide HM) (ha.mono (unhide HW))).mono ?_
  rintro e w2 ⟨u, rfl, hu, hb2⟩
  have HU := hide hu; clear hu
  have huL : ∀ a, a < 32 → u a < 4294967296 := fun a ha => (unhide HU a ha).1
  replace H0 := hide ((unhide H0).mono hb2 (unhide H0).lt); replace HW := hide ((unhide HW).trans (hb2.mono (unhide HW).size)); clear hb2 z0 z1 z2 z3 z4 z5
  go_wp2_with (refine wpList_store_sets rfl _ _ rfl w2.heap.size (fun _ => 0) u rfl rfl (sets_new _ _ rfl) ?_; intro w3 hU hgr hsz; have hbb : Below w2.heap.size w2 w3 := ((Below.refl _ w2).alloc (Nat.le_refl _) _).grown hgr (by simp) (fun k e => by cases e; exact Nat.le_refl _); have X0 := hide ((unhide H0).mono hbb (unhide H0).lt); have XW := hide ((unhide HW).trans (hbb.mono (unhide HW).size)); have XU := hide hU; clear hU hgr hsz hbb)
  have XT : Hid (Tab w3) := ht.mono (unhide XW)
  simp only [Act.put]
  refine wp_region_held_drew (S := fun w' => Blk w' w2.heap.size 75 (us u) ∧ w'.cell? ⟨w.heap.size, 0, none⟩ = some (.int .i64 n)) (by kernel_rfl) ⟨unhide XU, (unhide X0).cell 0⟩ (fun hHeld => ?_)
  refine take (i := 0) (v := .agg (us u).toArray) 11 rfl rfl (by kernel_rfl) (by kernel_rfl) (by kernel_rfl) (fun _ _ _ _ h => h) (by exact yields_sets (by rfl) (.tmp 3) rfl w2.heap.size u rfl (fun _ h => h.1)) hHeld ?_
  simp only [List.setIfInBounds_toArray, List.set_cons_zero, List.set_cons_succ]
  refine take (i := 1) (v := .agg (us u).toArray) 12 rfl rfl (by kernel_rfl) (by kernel_rfl) (by kernel_rfl) (fun _ _ _ _ h => h) (by exact yields_sets (by rfl) (.tmp 3) rfl w2.heap.size u rfl (fun _ h => h.1)) hHeld ?_
  simp only [List.setIfInBounds_toArray, List.set_cons_zero, List.set_cons_succ]
  refine take (i := 2) (v := .pointer (some ⟨w.heap.size, 0, none⟩)) 13 rfl rfl (by kernel_rfl) (by kernel_rfl) (by kernel_rfl) (fun _ _ _ _ h => h) (.inl ⟨by rfl, fun w' _ => ?fa⟩) hHeld ?_
  case fa => simp [execOp, go_sem]
  simp only [List.setIfInBounds_toArray, List.set_cons_zero, List.set_cons_succ]
  refine take (i := 3) (v := .int .i64 n) 14 rfl rfl (by kernel_rfl) (by kernel_rfl) (by kernel_rfl) (fun _ _ _ _ h => h) (.inl ⟨by rfl, fun w' hw' => ?fl⟩) hHeld ?_
  case fl => have h' := hw'.2; simp [execOp, go_sem, h']
  simp only [List.setIfInBounds_toArray, List.set_cons_zero, List.set_cons_succ]
  refine callH (i := 4) (f := 44) (args := #[.agg (us u).toArray, .int .i64 n]) (R := fun v w4 => ∃ c, v = .agg (us c).toArray ∧ IsReach c (fun a b => a < n ∧ Reach u a b) ∧ Below w3.heap.size w3 w4) 15 rfl rfl (by rfl) (by kernel_rfl) ?hrun1 ((closed_any u n w3.drew h32 huL (show Tab w3.drew from unhide XT)).mono fun e w4 ⟨c, he, hc', hb4⟩ => ⟨_, he, c, rfl, hc', below_of_drew hb4⟩) ?_
  case hrun1 => simp [execOp, go_sem]
  rintro v w4 ⟨c, rfl, hC, hb4⟩
  have Y0 := hide ((unhide X0).mono hb4 (unhide X0).lt); have YW := hide ((unhide XW).trans (hb4.mono (unhide XW).size)); have YU := hide ((unhide XU).mono hb4 (unhide XU).lt); have YT := hide ((unhide XT).mono hb4)
  have S1 : Blk w4 w2.heap.size 75 (us u) ∧ w4.cell? ⟨w.heap.size, 0, none⟩ = some (.int .i64 n) := ⟨unhide YU, (unhide Y0).cell 0⟩
  refine ⟨S1, ?_⟩
  simp only [List.setIfInBounds_toArray, List.set_cons_zero, List.set_cons_succ]
  refine take (i := 5) (v := .bool (!sameN u c)) 16 rfl rfl (by kernel_rfl) (by kernel_rfl) (by kernel_rfl) (fun _ _ _ _ h => h) (.inl ⟨by rfl, fun w' _ => ?ne⟩) S1 ?_
  case ne =>
    have he := fun w => eq_sets 9997 u c w
    simp [execOp, go_sem, he]
  simp only [List.setIfInBounds_toArray, List.set_cons_zero, List.set_cons_succ]
  refine wpAnyH_done (by kernel_rfl) ?_ _
  have HC := hide hC
  clear X0 XW XU XT hC hb4 S1 hHeld
  have z0 := (unhide Y0).cell 0; have z1 := (unhide Y0).cell 1; have z2 := (unhide Y0).cell 2; have z3 := (unhide Y0).cell 3; have z4 := (unhide Y0).cell 4; have z5 := (unhide Y0).cell 5
  simp only [List.getElem?_cons_succ, List.getElem?_cons_zero] at z0 z1 z2 z3 z4 z5
  have hd0 : ∃ d, IsRel d (fun b a => decide (a < n) && part f n (n * n) a b) := exists_rel _ h32
  have HD0 := hide hd0; clear hd0
  cases hsm : sameN u c
  · have HF : Hid (Outcome n f g h bot top false) := by
      obtain ⟨d, hd⟩ := unhide HD0
      exact ⟨u, c, d, unhide HU, unhide HC, hd, .inl ⟨hsm, rfl⟩⟩
    go_wp2
    go_ret
    exact ⟨false, rfl, unhide HF, unhide YW⟩
  · have HSM := hide hsm; clear hsm
    go_wp2_with (refine wpList_load_sets rfl _ rfl w2.heap.size u rfl (unhide YU) ?_)
    refine (latticeOf_any n u _ w4 h1 h32 (unhide HU) (unhide YT)).mono ?_
    rintro e w5 ⟨hb5, d, hd, hout⟩
    have V0 := hide ((unhide Y0).mono hb5 (unhide Y0).lt); have VW := hide ((unhide YW).trans (hb5.mono (unhide YW).size))
    clear z0 z1 z2 z3 z4 z5
    have z0 := (unhide V0).cell 0; have z1 := (unhide V0).cell 1; have z2 := (unhide V0).cell 2; have z3 := (unhide V0).cell 3; have z4 := (unhide V0).cell 4; have z5 := (unhide V0).cell 5
    simp only [List.getElem?_cons_succ, List.getElem?_cons_zero] at z0 z1 z2 z3 z4 z5
    have hw5 := (unhide VW).size
    have l5 := (unhide V0).lt
    clear Y0 YW YU YT HD0 hb5
    rcases hout with ⟨hx, rfl⟩ | ⟨hx, hy, rfl⟩ | ⟨hx, hy, _, rfl⟩ | ⟨hx, G1, G2, G3, F1, F2, bot', top', rfl, k1, k2, k3, -, -, -, -, -, -, k4, k5, k6, k7⟩
    · have HF : Hid (Outcome n f g h bot top false) := ⟨u, c, d, unhide HU, unhide HC, hd, .inr ⟨unhide HSM, .inl ⟨hx, rfl⟩⟩⟩
      clear hx hd
      unfold zeroL
      go_wp2
      go_ret
      exact ⟨false, rfl, unhide HF, (unhide VW).alloc hw5 _⟩
    · have HF : Hid (Outcome n f g h bot top false) := ⟨u, c, d, unhide HU, unhide HC, hd, .inr ⟨unhide HSM, .inr (.inl ⟨hx, hy, rfl⟩)⟩⟩
      clear hx hy hd
      unfold zeroL
      go_wp2
      go_ret
      exact ⟨false, rfl, unhide HF, (unhide VW).alloc hw5 _⟩
    · have HF : Hid (Outcome n f g h bot top false) := ⟨u, c, d, unhide HU, unhide HC, hd, .inr ⟨unhide HSM, .inr (.inr (.inl ⟨hx, hy, rfl⟩))⟩⟩
      clear hx hy hd
      unfold zeroL
      go_wp2
      go_ret
      exact ⟨false, rfl, unhide HF, (unhide VW).alloc hw5 _⟩
    · have HF : Hid (Outcome n f g h bot top (sameV bot' bot top' top (n * n) F1 g F2 h)) := ⟨u, c, d, unhide HU, unhide HC, hd, .inr ⟨unhide HSM, .inr (.inr (.inr ⟨hx, F1, F2, bot', top', k4, k5, k6, k7, rfl⟩))⟩⟩
      have K2 := hide k2; have K3 := hide k3
      clear hx hd k1 k2 k3 k4 k5 k6 k7
      go_wp2_with fail
      obtain rfl : m = n * n := unhide HM
      have bq : ∀ o, Below w5.heap.size w5 (w5.alloc o) := fun o => (Below.refl _ _).alloc (Nat.le_refl _) o
      have BQ := hide bq; clear bq
      refine (sameBounds_any n n bot' top' bot top _ _ _ _ _ _ _ _ (n * n) _ _ _ _ _ _ F1 g F2 h _ (by omega) ((unhide K2).ints.mono (unhide BQ _)) ((unhide K3).ints.mono (unhide BQ _)) ((hb.mono (unhide VW)).mono (unhide BQ _)) ((hc.mono (unhide VW)).mono (unhide BQ _))).mono ?_
      rintro e w6 ⟨rfl, hb6⟩
      have HW6 := hide (((unhide VW).trans ((unhide BQ _).mono hw5)).trans (hb6.mono (by simp; omega))); clear hb6
      go_wp2
      go_ret
      exact ⟨_, rfl, unhide HF, unhide HW6⟩

set_option maxRecDepth 100000 in
set_option maxHeartbeats 2000000 in
theorem implValid_no (N bot top : Int) (a1 a2 a3 : Option Addr) (n1 n2 n3 c1 c2 c3 : Nat) (w : World) (hno : (N < 1 ∨ 32 < N) ∨ (∃ n : Nat, N = n ∧ 1 ≤ n ∧ n ≤ 32 ∧ ¬ (n1 = n * n ∧ n2 = n * n ∧ n3 = n * n))) :
    Calls Tryd.prog 21 #[.agg #[.int .i64 N, .slice a1 n1 c1, .slice a2 n2 c2, .slice a3 n3 c3, .int .i64 bot, .int .i64 top]] w fun e w' =>
      e = .returned (.bool false) ∧ Below w.heap.size w w' := by
  have hfit : Calls Tryd.prog 57 #[.agg #[.int .i64 N, .slice a1 n1 c1, .slice a2 n2 c2, .slice a3 n3 c3, .int .i64 bot, .int .i64 top]] (w.alloc (.cells #[.int .i64 N, .slice a1 n1 c1, .slice a2 n2 c2, .slice a3 n3 c3, .int .i64 bot, .int .i64 top] 29)) fun e w' => e = .returned (.bool false) ∧ Below (w.heap.size + 1) (w.alloc (.cells #[.int .i64 N, .slice a1 n1 c1, .slice a2 n2 c2, .slice a3 n3 c3, .int .i64 bot, .int .i64 top] 29)) w' := by
    rcases hno with hN | ⟨n, rfl, h1, h32, hl⟩
    · have := fit_N N bot top a1 a2 a3 n1 n2 n3 c1 c2 c3 (w.alloc (.cells #[.int .i64 N, .slice a1 n1 c1, .slice a2 n2 c2, .slice a3 n3 c3, .int .i64 bot, .int .i64 top] 29)) hN
      simpa using this
    · have := fit_len n bot top a1 a2 a3 n1 n2 n3 c1 c2 c3 (w.alloc (.cells #[.int .i64 (n : Int), .slice a1 n1 c1, .slice a2 n2 c2, .slice a3 n3 c3, .int .i64 bot, .int .i64 top] 29)) h1 h32 false ⟨(fun h => by cases h), fun h => absurd h hl⟩
      simpa using this
  have HFIT := hide hfit; clear hfit hno
  go_enter Tryd.func21, Tryd.ntmps21
  go_wp2_with fail
  refine (unhide HFIT).mono ?_
  rintro e w1 ⟨rfl, hb1⟩
  have HW := hide (((Below.refl w.heap.size w).alloc (Nat.le_refl _) (.cells #[.int .i64 N, .slice a1 n1 c1, .slice a2 n2 c2, .slice a3 n3 c3, .int .i64 bot, .int .i64 top] 29)).trans (hb1.mono (by omega))); clear hb1
  go_wp2
  go_ret
  exact ⟨rfl, unhide HW⟩
end Go.Proofs.YtnmpkdmflijhpaaDoor
