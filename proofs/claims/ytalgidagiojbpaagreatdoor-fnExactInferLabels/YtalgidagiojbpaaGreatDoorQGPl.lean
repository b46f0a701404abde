import Derived.Test.YtalgidagiojbpaaGreatDoorQBase
/- (loose) The contracts of the small helpers of package laws: sizes, copies, comparisons of slices of bools and of integers. -/
namespace Go.Proofs.YtalgidagiojbpaaGreatDoor
open Go Go.RowKit
theorem upto_succ {α : Type} {f g : Nat -> α} {k : Nat} (h : ∀ j, j < k -> f j = g j) (h' : f k = g k) : ∀ j, j < k + 1 -> f j = g j := fun j hj => by
 by_cases e : j = k
 . rw [e]; exact h'
 . exact h j (by omega)
theorem ine_ff {a b : Int} (h : (a != b) = false) : a = b := by simpa using h
theorem ine_tt {a b : Int} (h : (a != b) = true) : ¬ a = b := by simpa using h
set_option maxHeartbeats 400000 in
theorem eqIntS_same (a b : Option Addr) (f g : Nat -> Int) (n : Nat) (ca cb : Nat) (w : World) (ha : Ints w a n f) (hb : Ints w b n g) (hlx : n <= 140737488355328) :
 Calls Tryz.prog 9 #[.slice a n ca, .slice b n cb] w fun e w' => e = .returned (.bool (sameI n f g)) /\ Below w.heap.size w w' := by
 go_enter Tryz.func9, Tryz.ntmps9
 go_wp2
 go_loopw [5] (fun i wr => ∃ k : Nat, k <= n /\ i = .int .i64 k /\ (∀ j, j < k -> f j = g j) /\ ∃ n, wr = w.drewN n) (fun i _ => n - (intOf i).toNat)
 case atStart => exact ⟨0, Nat.zero_le _, rfl, fun j h => absurd h (Nat.not_lt_zero _), 0, rfl⟩
 case round =>
  obtain ⟨k, hk, rfl, heq, m, rfl⟩ := hrel
  have HE : Hid (∀ j, j < k -> f j = g j) := heq
  clear heq
  by_cases hlt : k < n
  . obtain ⟨b1, o1, rfl, -, hc1⟩ := ha k hlt
    obtain ⟨b2, o2, rfl, -, hc2⟩ := hb k hlt
    go_wp2
    go_quiet (fail)
    go_wp2
    . have ht : (f k != g k) = true := by assumption
      go_ret
      exact ⟨ret_bool (sameI_false k hlt (ine_tt ht)).symm, ⟨rfl, rfl, rfl, Nat.le_refl _, fun _ _ => rfl⟩⟩
    . have ht : (f k != g k) = false := by assumption
      go_roundw
      case rel => exact ⟨k + 1, by omega, by go_num, upto_succ HE.out (ine_ff ht), _, rfl⟩
      case measure => simp [intOf]; omega
  . go_wp2
    go_ret
    exact ⟨ret_bool (sameI_true fun j hj => HE.out j (by omega)).symm, ⟨rfl, rfl, rfl, Nat.le_refl _, fun _ _ => rfl⟩⟩
end Go.Proofs.YtalgidagiojbpaaGreatDoor
/- (loose) The copies of slices (package laws): each lies in memory of its own. -/
namespace Go.Proofs.YtalgidagiojbpaaGreatDoor
open Go Go.RowKit
def bs (n : Nat) (f : Nat -> Bool) : List Value := (List.range n).map fun k => .bool (f k)
def is (n : Nat) (f : Nat -> Int) : List Value := (List.range n).map fun k => .int .i64 (f k)
theorem list_eq_of {n : Nat} {xs : List Value} {g : Nat -> Value} (hl : xs.length = n) (h : ∀ j, j < n -> xs[j]? = some (g j)) : xs = (List.range n).map g := by
 apply List.ext_getElem?
 intro j
 by_cases hj : j < n
 . rw [h j hj]; simp [hj]
 . rw [List.getElem?_eq_none (by omega), List.getElem?_eq_none (by simp; omega)]
theorem Blk.bools {w : World} {g n : Nat} {t : TypeId} {f : Nat -> Bool} (h : Blk w g t (bs n f)) : Bools w (some ⟨g, 0, none⟩) n f := fun k hk =>
 ⟨g, 0, rfl, h.lt, by rw [Nat.zero_add, h.cell]; simp [bs, hk]⟩
theorem Blk.ints {w : World} {g n : Nat} {t : TypeId} {f : Nat -> Int} (h : Blk w g t (is n f)) : Ints w (some ⟨g, 0, none⟩) n f := fun k hk =>
 ⟨g, 0, rfl, h.lt, by rw [Nat.zero_add, h.cell]; simp [is, hk]⟩
theorem info_bool : (Tryz.prog.info? 4).map (fun i => (i.zero, i.size, i.bytes)) = some (some (.bool false), 1, 1) := by kernel_rfl
theorem info_int : (Tryz.prog.info? 3).map (fun i => (i.zero, i.size, i.bytes)) = some (some (.int .i64 0), 1, 8) := by kernel_rfl
/-- One round of a copy. -/
theorem copy_step {w wr : World} {B e n k : Nat} {g : Nat -> Value} {xs : List Value} (hk : k < n)
 (ho : wr.ownsRow B e 1 (.slice (some ⟨B, 0, none⟩) n n) n xs) (hx : ∀ j, j < k -> xs[j]? = some (g j)) (hb : Below B w wr) :
 (wr.setCell ⟨B, k, none⟩ (g k)).ownsRow B e 1 (.slice (some ⟨B, 0, none⟩) n n) n (xs.set k (g k)) /\ (∀ j, j < k + 1 -> (xs.set k (g k))[j]? = some (g j)) /\ Below B w (wr.setCell ⟨B, k, none⟩ (g k)) := by
 obtain ⟨h1, h2⟩ := ho.stored k (g k)
 refine ⟨h1, fun j hj => ?_, hb.setCell (p := ⟨B, k, none⟩) (Nat.le_refl _) _⟩
 have hl : xs.length = n := by have := ho.1; omega
 by_cases e : j = k
 . subst e; rw [List.getElem?_set_self (by omega)]
 . rw [List.getElem?_set_ne (by omega)]; exact hx j (by omega)
set_option maxHeartbeats 400000 in
theorem toIntS_any (a : Option Addr) (f : Nat -> Int) (n c : Nat) (w : World) (ha : Ints w a n f) (hn : n <= 1048576) :
 Calls Tryz.prog 87 #[.slice a n c] w fun e w' => e = .returned (.slice (some ⟨w.heap.size, 0, none⟩) n n) /\ Blk w' w.heap.size 3 (is n f) /\ Below w.heap.size w w' := by
 obtain ⟨i0, hi, hz0, hz1, hz2⟩ := info_parts info_int
 obtain ⟨B, hB⟩ : ∃ B, w.heap.size = B := ⟨_, rfl⟩
 have hbn : i0.bytes * n <= 281474976710656 := by rw [hz2]; omega
 go_enter Tryz.func87, Tryz.ntmps87
 go_wp2_with (at_make; refine wpList_make_full _ rfl (.tmp 6) (.tmp 6) 29 rfl w.heap.size 3 i0 (.int .i64 0) 1 Tryz.underlying29 hi hz0 hz1 .i64 .i64 _ _ n rfl rfl rfl rfl hbn (by unfold maxLen; omega) (Nat.le_refl _) ?_; intro w1 hown hgrow)
 have hb1 : Below B w w1 := by rw [<- hB]; exact (Below.refl _ _).grown hgrow (Nat.le_refl _) (fun k h => by cases h)
 rw [hB] at hown
 clear hgrow hbn hi hz0 hz1 hz2
 go_loopw [4] (fun i wr => ∃ (k : Nat) (xs : List Value), k <= n /\ i = .int .i64 k /\ wr.ownsRow B 3 1 (.slice (some ⟨B, 0, none⟩) n n) n xs /\ (∀ j, j < k -> xs[j]? = some (.int .i64 (f j))) /\ Below B w wr) (fun i _ => n - (intOf i).toNat)
 case atStart => exact ⟨0, _, Nat.zero_le _, rfl, hown, fun j h => absurd h (Nat.not_lt_zero _), hb1⟩
 case round =>
  clear hown hb1
  obtain ⟨k, xs, hk, rfl, ho, hx, hb⟩ := hrel
  have HO := h_ ho; have HX := h_ hx; have HB := h_ hb
  by_cases hlt : k < n
  . obtain ⟨b1, o1, rfl, hl1, hc1⟩ := ha k hlt
    have hc := (hb.cell (p := ⟨b1, o1 + k, none⟩) (by rw [<- hB]; exact hl1)).trans hc1
    obtain ⟨u0, hd⟩ : ∃ u0, wr.cell? ⟨B, k, none⟩ = some u0 := ⟨_, (ho.cellAt k (by omega)).trans (List.getElem?_eq_getElem (by have := ho.1; omega))⟩
    have hf := ho.frozenAt k
    clear ho hx hb hc1
    go_wp2
    go_roundw
    case rel =>
     obtain ⟨r1, r2, r3⟩ := copy_step (g := fun j => .int .i64 (f j)) hlt (u_ HO) (u_ HX) (u_ HB)
     exact ⟨k + 1, _, by omega, by go_num, r1, r2, r3⟩
    case measure => simp [intOf]; omega
  . clear ho hx hb
    go_wp2
    go_ret
    obtain rfl : k = n := by omega
    refine ⟨by rw [hB]; rfl, ?_, by rw [hB]; exact u_ HB⟩
    rw [hB, show is k f = xs from (list_eq_of (by have := (u_ HO).1; omega) (u_ HX)).symm]
    exact Blk.of_owns (u_ HO)
end Go.Proofs.YtalgidagiojbpaaGreatDoor
