import Derived.Test.YtnmpkdmflijhpaaGreatDoorM1
import Derived.Test.YtnmpkdmflijhpaaGreatDoorM3
import Derived.Test.YtnmpkdmflijhpaaGreatDoorM2
import Derived.Test.YtnmpkdmflijhpaaGreatDoorApW
import Derived.Shelf.Lay
import Derived.Test.YtnmpkdmflijhpaaGreatDoorVal
import Derived.Test.YtnmpkdmflijhpaaGreatDoorBase
/- What the program's operators give is what the model's give. -/
namespace Go.Proofs.YtnmpkdmflijhpaaGreatDoor
open Go Go.RowKit

theorem okCases {u : Vx} (h : okVal u.k u.n u.s = true) : u = blankX ∨ (∃ n, u = intX n) ∨ (∃ b, u = boolX b) ∨ (∃ s, u = textX s) ∨ ∃ c, u = errX c := by
  obtain ⟨k, n, s⟩ := u
  dsimp only at h
  rcases kinds k with rfl | rfl | rfl | rfl | rfl | ⟨k0, k1, k2, k3, k4⟩
  · simp [okVal] at h
    exact .inl (by rw [h.1, h.2]; rfl)
  · simp [okVal] at h
    exact .inr (.inl ⟨n, by rw [h]; rfl⟩)
  · simp [okVal] at h
    refine .inr (.inr (.inl ?_))
    rw [h.2]
    rcases h.1 with rfl | rfl
    · exact ⟨false, rfl⟩
    · exact ⟨true, rfl⟩
  · simp [okVal] at h
    exact .inr (.inr (.inr (.inl ⟨s, by rw [h.1]; rfl⟩)))
  · simp [okVal] at h
    exact .inr (.inr (.inr (.inr ⟨n, by rw [h.2]; rfl⟩)))
  · simp [okVal, k0, k1, k2, k3, k4] at h
theorem isInt {u : Vx} (h : okVal u.k u.n u.s = true) (hk : u.k = 1) : ∃ n, u = intX n := by
  rcases okCases h with rfl | ⟨n, rfl⟩ | ⟨n, rfl⟩ | ⟨n, rfl⟩ | ⟨n, rfl⟩ <;> first | exact ⟨_, rfl⟩ | (simp [blankX, boolX, textX, errX] at hk)
theorem isBool {u : Vx} (h : okVal u.k u.n u.s = true) (hk : u.k = 2) : ∃ b, u = boolX b := by
  rcases okCases h with rfl | ⟨n, rfl⟩ | ⟨n, rfl⟩ | ⟨n, rfl⟩ | ⟨n, rfl⟩ <;> first | exact ⟨_, rfl⟩ | (simp [blankX, intX, textX, errX] at hk)
theorem isText {u : Vx} (h : okVal u.k u.n u.s = true) (hk : u.k = 3) : ∃ s, u = textX s := by
  rcases okCases h with rfl | ⟨n, rfl⟩ | ⟨n, rfl⟩ | ⟨n, rfl⟩ | ⟨n, rfl⟩ <;> first | exact ⟨_, rfl⟩ | (simp [blankX, intX, boolX, errX] at hk)
theorem allK_ne {f : Nat → Vx} {m : Nat} {k k' : Int} (hm : 1 ≤ m) (h : allK f m k = true) (hne : k ≠ k') : allK f m k' = false := allK_no (i := 0) hm (by rw [allK_at h hm]; exact hne)

section
variable {f : Nat → Vx} {m : Nat} {A : Bool} {R r1 r2 r3 : Vx} {op : Int}
theorem noE_of (h : firstE f m = none) : ∀ j, j < m → ¬ (f j).k = 4 := by
  intro j hj e
  rw [firstE, List.find?_eq_none] at h
  exact h (f j) (List.mem_map.2 ⟨j, List.mem_range.2 hj, rfl⟩) (by simpa using e)
theorem noB_of (h : anyB f m = false) : ∀ j, j < m → ¬ (f j).k = 0 := by
  intro j hj e
  rw [anyB, List.any_eq_false] at h
  exact h j (List.mem_range.2 hj) (by simpa using e)
theorem plain_st (hE : mE op = false) (hB : mB op = false) (h : (∀ j, j < m → ¬ (f j).k = 4) → (∀ j, j < m → ¬ (f j).k = 0) → (if A then R else errX 1) = if allK f m 1 then r1 else if allK f m 3 then r3 else if allK f m 2 then r2 else errX 1) : stepX op m f A R = plainX f m r1 r3 r2 := by
  unfold stepX plainX
  rw [hE, hB, if_neg (by decide)]
  cases he : firstE f m with
  | some u => rfl
  | none =>
    cases hb : anyB f m
    · exact h (noE_of he) (noB_of hb)
    · rfl
theorem kinds_st (hE : mE op = false) (hB : mB op = false) (h1 : allK f m 1 = true → (if A then R else errX 1) = r1) (h3 : allK f m 3 = true → (if A then R else errX 1) = r3) (h2 : allK f m 2 = true → (if A then R else errX 1) = r2)
    (h0 : allK f m 1 = false → allK f m 3 = false → allK f m 2 = false → A = false) : stepX op m f A R = plainX f m r1 r3 r2 := by
  refine plain_st hE hB fun _ _ => ?_
  cases a1 : allK f m 1
  · cases a3 : allK f m 3
    · cases a2 : allK f m 2
      · rw [h0 a1 a3 a2]; rfl
      · exact h2 a2
    · exact h3 a3
  · exact h1 a1
/-- An operator of whole numbers. -/
theorem ints_st (hm : 1 ≤ m) (hE : mE op = false) (hB : mB op = false) (hA : A = allK f m 1) (h1 : allK f m 1 = true → R = r1) (h3 : r3 = errX 1) (h2 : r2 = errX 1) : stepX op m f A R = plainX f m r1 r3 r2 :=
  kinds_st hE hB (fun h => by rw [hA, h]; exact h1 h) (fun h => by rw [hA, allK_ne hm h (by decide), h3]; rfl) (fun h => by rw [hA, allK_ne hm h (by decide), h2]; rfl) (fun h _ _ => by rw [hA, h])
/-- An operator of texts. -/
theorem texts_st (hm : 1 ≤ m) (hE : mE op = false) (hB : mB op = false) (hA : A = allK f m 3) (h3 : allK f m 3 = true → R = r3) (h1 : r1 = errX 1) (h2 : r2 = errX 1) : stepX op m f A R = plainX f m r1 r3 r2 :=
  kinds_st hE hB (fun h => by rw [hA, allK_ne hm h (by decide), h1]; rfl) (fun h => by rw [hA, h]; exact h3 h) (fun h => by rw [hA, allK_ne hm h (by decide), h2]; rfl) (fun _ h _ => by rw [hA, h])
/-- An operator of bools. -/
theorem bools_st (hm : 1 ≤ m) (hE : mE op = false) (hB : mB op = false) (hA : A = allK f m 2) (h2 : allK f m 2 = true → R = r2) (h1 : r1 = errX 1) (h3 : r3 = errX 1) : stepX op m f A R = plainX f m r1 r3 r2 :=
  kinds_st hE hB (fun h => by rw [hA, allK_ne hm h (by decide), h1]; rfl) (fun h => by rw [hA, allK_ne hm h (by decide), h3]; rfl) (fun h => by rw [hA, h]; exact h2 h) (fun _ _ h => by rw [hA, h])
/-- An operator of whole numbers or texts. -/
theorem order_st (hm : 1 ≤ m) (hE : mE op = false) (hB : mB op = false) (hA : A = (allK f m 1 || allK f m 3)) (h1 : allK f m 1 = true → R = r1) (h3 : allK f m 3 = true → R = r3) (h2 : r2 = errX 1) : stepX op m f A R = plainX f m r1 r3 r2 :=
  kinds_st hE hB (fun h => by rw [hA, h]; exact h1 h) (fun h => by rw [hA, h, Bool.or_true]; exact h3 h) (fun h => by rw [hA, allK_ne hm h (by decide), allK_ne (k' := 3) hm h (by decide), h2]; rfl) (fun h h' _ => by rw [hA, h, h']; rfl)
/-- An operator of arguments that are alike. -/
theorem alike_st (hE : mE op = false) (hB : mB op = false) (hA : A = (allK f m 1 || allK f m 2 || allK f m 3)) (h1 : allK f m 1 = true → R = r1) (h3 : allK f m 3 = true → R = r3) (h2 : allK f m 2 = true → R = r2) : stepX op m f A R = plainX f m r1 r3 r2 :=
  kinds_st hE hB (fun h => by rw [hA, h]; exact h1 h) (fun h => by rw [hA, h, Bool.or_true]; exact h3 h) (fun h => by rw [hA, h, Bool.or_true, Bool.true_or]; exact h2 h) (fun h h' h'' => by rw [hA, h, h', h'']; rfl)
/-- An operator behind the rule on errors alone. -/
theorem errF_st {S : Vx} (hE : mE op = false) (hB : mB op = true) (h : (∀ j, j < m → ¬ (f j).k = 4) → (if A then R else errX 1) = S) : stepX op m f A R = errFirst f m S := by
  unfold stepX errFirst
  rw [hE, hB, if_neg (by decide)]
  cases he : firstE f m with
  | some u => rfl
  | none => exact h (noE_of he)
/-- An operator that meets errors itself. -/
theorem self_st {S : Vx} (hE : mE op = true) (hB : mB op = true) (h : (if A then R else errX 1) = S) : stepX op m f A R = S := by
  unfold stepX
  rw [hE, hB, if_pos rfl]
  exact h
end

theorem tmod_fits {x y : Int} (hx : -9223372036854775808 ≤ x ∧ x ≤ 9223372036854775807) : intX (x.tmod y) = chkX (x + -(y * x.tdiv y)) := by
  have e : x + -(y * x.tdiv y) = x.tmod y := by have := Int.tmod_add_mul_tdiv x y; omega
  rw [e]
  have h : (x.tmod y).natAbs ≤ x.natAbs := by rw [Int.natAbs_tmod]; exact Nat.mod_le _ _
  have hp : 0 ≤ x → 0 ≤ x.tmod y := fun h => Int.tmod_nonneg y h
  have hn : ¬ 0 ≤ x → x.tmod y ≤ 0 := fun h => by
    have h1 := Int.tmod_nonneg (a := -x) y (by omega)
    rw [Int.neg_tmod] at h1
    omega
  unfold chkX fitsB
  rw [if_pos (decide_eq_true (by omega))]

theorem eqX_bb (b b' : Bool) : eqX (boolX b) (boolX b') = (b == b') := by cases b <;> cases b' <;> simp [eqX, boolX]
theorem eqX_bk (b : Bool) : eqX (boolX b) blankX = false := by simp [eqX, boolX, blankX]
section
variable {f : Nat → Vx}
theorem eq_ints (hok : allOk f 2 = true) (h : allK f 2 1 = true) : eqX (f 0) (f 1) = decide ((f 0).n = (f 1).n) := by
  obtain ⟨x, hx⟩ := isInt (allOk_iff.1 hok 0 (by decide)) (allK_at h (by decide))
  obtain ⟨y, hy⟩ := isInt (allOk_iff.1 hok 1 (by decide)) (allK_at h (by decide))
  rw [hx, hy]
  simp only [eqX, intX, if_true]
  split <;> simp [*]
theorem eq_bools (hok : allOk f 2 = true) (h : allK f 2 2 = true) : eqX (f 0) (f 1) = decide ((f 0).n = (f 1).n) := by
  obtain ⟨x, hx⟩ := isBool (allOk_iff.1 hok 0 (by decide)) (allK_at h (by decide))
  obtain ⟨y, hy⟩ := isBool (allOk_iff.1 hok 1 (by decide)) (allK_at h (by decide))
  rw [hx, hy]
  simp only [eqX, boolX, if_true]
  split <;> simp [*]
theorem bytes_inj {s t : ByteArray} : s.toList = t.toList ↔ s = t := by
  rw [ByteArray.toList_eq, ByteArray.toList_eq]
  constructor
  · exact fun h => ByteArray.ext (Array.toList_inj.1 h)
  · intro h; rw [h]
theorem eq_texts (hok : allOk f 2 = true) (h : allK f 2 3 = true) : eqX (f 0) (f 1) = decide ((f 0).s = (f 1).s) := by
  obtain ⟨x, hx⟩ := isText (allOk_iff.1 hok 0 (by decide)) (allK_at h (by decide))
  obtain ⟨y, hy⟩ := isText (allOk_iff.1 hok 1 (by decide)) (allK_at h (by decide))
  rw [hx, hy]
  simp only [eqX, textX, if_true]
  exact decide_eq_decide.2 bytes_inj
theorem cmp_ints (h : allK f 2 1 = true) : decide (cmpX (f 0) (f 1) < 0) = decide ((f 0).n < (f 1).n) ∧ decide (cmpX (f 0) (f 1) ≤ 0) = decide ((f 0).n ≤ (f 1).n) := by
  have hk : ¬ (f 0).k = 3 := by rw [allK_at h (by decide)]; decide
  rw [cmpX, if_neg hk]
  unfold Lib.compareInt
  constructor
  all_goals
    apply decide_eq_decide.2
    split
    · omega
    · split <;> omega
theorem cmp_texts (h : allK f 2 3 = true) : decide (cmpX (f 0) (f 1) < 0) = tl (f 0).s.data.toList (f 1).s.data.toList ∧ decide (cmpX (f 0) (f 1) ≤ 0) = !tl (f 1).s.data.toList (f 0).s.data.toList := by
  rw [cmpX, if_pos (allK_at h (by decide))]
  exact cmp_tl _ _
end
/-- The choice of a branch. -/
def pickX (p q r : Vx) : Vx := if p.k = 2 then (if p.n = 1 then q else r) else p

section
variable {f : Nat → Vx}
theorem st_2 : stepX 2 1 f (allK f 1 1) (chkX (-(f 0).n)) = apY 2 1 f := ints_st (by decide) rfl rfl rfl (fun _ => rfl) rfl rfl
theorem st_3 : stepX 3 1 f (allK f 1 2) (boolX ((f 0).n == 0)) = apY 3 1 f := bools_st (by decide) rfl rfl rfl (fun _ => by simp [R2, bool1]; rfl) rfl rfl
theorem st_4 : stepX 4 2 f (allK f 2 1) (chkX ((f 0).n * (f 1).n)) = apY 4 2 f := ints_st (by decide) rfl rfl rfl (fun _ => rfl) rfl rfl
theorem st_5 : stepX 5 2 f (allK f 2 1) (if (f 1).n = 0 then errX 3 else chkX ((f 0).n.tdiv (f 1).n)) = apY 5 2 f := ints_st (by decide) rfl rfl rfl (fun _ => rfl) rfl rfl
theorem st_6 (hr : -9223372036854775808 ≤ (f 0).n ∧ (f 0).n ≤ 9223372036854775807) : stepX 6 2 f (allK f 2 1) (if (f 1).n = 0 then errX 3 else intX ((f 0).n.tmod (f 1).n)) = apY 6 2 f := ints_st (by decide) rfl rfl rfl (fun _ => by rw [tmod_fits hr]; rfl) rfl rfl
theorem st_7 : stepX 7 2 f (allK f 2 1) (chkX ((f 0).n + (f 1).n)) = apY 7 2 f := ints_st (by decide) rfl rfl rfl (fun _ => rfl) rfl rfl
theorem st_8 : stepX 8 2 f (allK f 2 1) (chkX ((f 0).n - (f 1).n)) = apY 8 2 f := ints_st (by decide) rfl rfl rfl (fun _ => rfl) rfl rfl
theorem st_9 : stepX 9 2 f (allK f 2 3) (if 1000 < (f 0).s.size + (f 1).s.size then errX 4 else textX ((f 0).s ++ (f 1).s)) = apY 9 2 f := texts_st (by decide) rfl rfl rfl (fun _ => rfl) rfl rfl
theorem st_10 (hok : allOk f 2 = true) : stepX 10 2 f (allK f 2 1 || allK f 2 2 || allK f 2 3) (boolX (eqX (f 0) (f 1))) = apY 10 2 f := alike_st rfl rfl rfl (fun h => by rw [eq_ints hok h]; rfl) (fun h => by rw [eq_texts hok h]; rfl) (fun h => by rw [eq_bools hok h]; rfl)
theorem st_11 (hok : allOk f 2 = true) : stepX 11 2 f (allK f 2 1 || allK f 2 2 || allK f 2 3) (boolX (!eqX (f 0) (f 1))) = apY 11 2 f := alike_st rfl rfl rfl (fun h => by rw [eq_ints hok h, ← decide_not]; rfl) (fun h => by rw [eq_texts hok h]; rfl) (fun h => by rw [eq_bools hok h]; rfl)
theorem st_12 : stepX 12 2 f (allK f 2 1 || allK f 2 3) (boolX (decide (cmpX (f 0) (f 1) < 0))) = apY 12 2 f := order_st (by decide) rfl rfl rfl (fun h => by rw [(cmp_ints h).1]; rfl) (fun h => by rw [(cmp_texts h).1]; rfl) rfl
theorem st_13 : stepX 13 2 f (allK f 2 1 || allK f 2 3) (boolX (decide (cmpX (f 0) (f 1) ≤ 0))) = apY 13 2 f := order_st (by decide) rfl rfl rfl (fun h => by rw [(cmp_ints h).2]; rfl) (fun h => by rw [(cmp_texts h).2]; rfl) rfl
theorem st_17 : stepX 17 2 f (allK f 2 1) (intX (if (f 0).n < (f 1).n then (f 0).n else (f 1).n)) = apY 17 2 f := ints_st (by decide) rfl rfl rfl (fun _ => rfl) rfl rfl
theorem st_18 : stepX 18 2 f (allK f 2 1) (intX (if (f 0).n < (f 1).n then (f 1).n else (f 0).n)) = apY 18 2 f := ints_st (by decide) rfl rfl rfl (fun _ => rfl) rfl rfl
theorem st_20 : stepX 20 2 f (allK f 2 3) (boolX (Lib.contains (f 0).s.data.toList (f 1).s.data.toList)) = apY 20 2 f := texts_st (by decide) rfl rfl rfl (fun _ => by rw [contains_has]; rfl) rfl rfl
theorem st_21 : stepX 21 1 f (allK f 1 3) (intX ((f 0).s.size : Int)) = apY 21 1 f := texts_st (by decide) rfl rfl rfl (fun _ => rfl) rfl rfl
theorem st_22 : stepX 22 1 f (allK f 1 3) (if (rd (f 0).s.data.toList).2 then intX (rd (f 0).s.data.toList).1 else errX 5) = apY 22 1 f := texts_st (by decide) rfl rfl rfl (fun _ => rfl) rfl rfl
theorem st_23 (hok : allOk f 1 = true) : stepX 23 1 f (allK f 1 1 || allK f 1 2 || allK f 1 3) (textX (plainB (f 0).k (f 0).n (f 0).s)) = apY 23 1 f := alike_st rfl rfl rfl
  (fun h => by
    obtain ⟨x, hx⟩ := isInt (allOk_iff.1 hok 0 (by decide)) (allK_at h (by decide))
    simp only [R1, hx]; rfl)
  (fun h => by
    obtain ⟨x, hx⟩ := isText (allOk_iff.1 hok 0 (by decide)) (allK_at h (by decide))
    simp only [R3, hx]; rfl)
  (fun h => by
    obtain ⟨x, hx⟩ := isBool (allOk_iff.1 hok 0 (by decide)) (allK_at h (by decide))
    simp only [R2, hx]
    cases x <;> rfl)
theorem st_24 : stepX 24 1 f true (boolX ((f 0).k == 0)) = apY 24 1 f := errF_st rfl rfl fun _ => rfl
theorem st_25 : stepX 25 1 f true (boolX ((f 0).k == 4)) = apY 25 1 f := self_st rfl rfl rfl
theorem st_19 : stepX 19 2 f true (if (f 0).k == 0 then f 1 else f 0) = apY 19 2 f := self_st rfl rfl (by
  show (if (f 0).k == 0 then f 1 else f 0) = elseX (f 0) (f 1)
  unfold elseX
  simp)
theorem st_16 (hok : allOk f 3 = true) : stepX 16 3 f ((f 0).k != 1 && (f 0).k != 3) (pickX (f 0) (f 1) (f 2)) = apY 16 3 f := self_st rfl rfl (by
  show _ = ifX (f 0) (f 1) (f 2)
  rcases okCases (allOk_iff.1 hok 0 (by decide)) with h | ⟨n, h⟩ | ⟨b, h⟩ | ⟨s, h⟩ | ⟨n, h⟩
  all_goals rw [h]
  · rfl
  · rfl
  · cases b <;> rfl
  · rfl
  · rfl)
theorem any2 (g : Nat → Bool) : (List.range 2).any g = (g 0 || g 1) := by simp [List.range_succ]
theorem st_14 (hok : allOk f 2 = true) : stepX 14 2 f (allBB f 2) (setX f 2 (boolX false) (boolX true)) = apY 14 2 f := errF_st rfl rfl fun hE => by
  show _ = andX (f 0) (f 1)
  have h0 := hE 0 (by decide); have h1 := hE 1 (by decide)
  rw [setX, any2, any2]
  show (if (true && ((f 0).k == 2 || (f 0).k == 0)) && ((f 1).k == 2 || (f 1).k == 0) then _ else _) = _
  rcases okCases (allOk_iff.1 hok 0 (by decide)) with h | ⟨n, h⟩ | ⟨b, h⟩ | ⟨s, h⟩ | ⟨n, h⟩
  all_goals rw [h] at h0 ⊢
  all_goals rcases okCases (allOk_iff.1 hok 1 (by decide)) with h' | ⟨n', h'⟩ | ⟨b', h'⟩ | ⟨s', h'⟩ | ⟨n', h'⟩
  all_goals rw [h'] at h1 ⊢
  all_goals try rw [eqX_bb]
  all_goals try rw [eqX_bb]
  all_goals try rw [eqX_bk]
  all_goals try rw [eqX_bk]
  all_goals first
    | rfl
    | (exfalso; exact h0 rfl)
    | (exfalso; exact h1 rfl)
    | (cases b <;> rfl)
    | (cases b' <;> rfl)
    | (cases b <;> cases b' <;> rfl)
theorem st_15 (hok : allOk f 2 = true) : stepX 15 2 f (allBB f 2) (setX f 2 (boolX true) (boolX false)) = apY 15 2 f := errF_st rfl rfl fun hE => by
  show _ = orX (f 0) (f 1)
  have h0 := hE 0 (by decide); have h1 := hE 1 (by decide)
  rw [setX, any2, any2]
  show (if (true && ((f 0).k == 2 || (f 0).k == 0)) && ((f 1).k == 2 || (f 1).k == 0) then _ else _) = _
  rcases okCases (allOk_iff.1 hok 0 (by decide)) with h | ⟨n, h⟩ | ⟨b, h⟩ | ⟨s, h⟩ | ⟨n, h⟩
  all_goals rw [h] at h0 ⊢
  all_goals rcases okCases (allOk_iff.1 hok 1 (by decide)) with h' | ⟨n', h'⟩ | ⟨b', h'⟩ | ⟨s', h'⟩ | ⟨n', h'⟩
  all_goals rw [h'] at h1 ⊢
  all_goals try rw [eqX_bb]
  all_goals try rw [eqX_bb]
  all_goals try rw [eqX_bk]
  all_goals try rw [eqX_bk]
  all_goals first
    | rfl
    | (exfalso; exact h0 rfl)
    | (exfalso; exact h1 rfl)
    | (cases b <;> rfl)
    | (cases b' <;> rfl)
    | (cases b <;> cases b' <;> rfl)
end
end Go.Proofs.YtnmpkdmflijhpaaGreatDoor

/- The program's Apply, every operator. -/
namespace Go.Proofs.YtnmpkdmflijhpaaGreatDoor
open Go Go.RowKit

/-- What is known of the arguments. -/
structure Args (w : World) (a : Option Addr) (m : Nat) (f : Nat → Vx) : Prop where
  v : Vals w a m f
  s : ∀ i, i < m → (f i).s.size ≤ 9223372036854775807
  r : ∀ i, i < m → -9223372036854775808 ≤ (f i).n ∧ (f i).n ≤ 9223372036854775807
  ok : allOk f m = true
  g : Glob w
theorem Args.t {w : World} {a : Option Addr} {m : Nat} {f : Nat → Vx} (h : Args w a m f) (i : Nat) (hi : i < m) (hk : (f i).k = 3) : (f i).s.size ≤ 1000 := okTextS (allOk_iff.1 h.ok i hi) hk
theorem vals2 {W : World} {a : Option Addr} {m : Nat} {f : Nat → Vx} (hv : Vals W a m f) (hm : 2 < m) : ∃ b o, a = some ⟨b, o, none⟩ ∧ Cel W b o (f 0) ∧ Cel W b (o + 3) (f 1) ∧ Cel W b (o + 6) (f 2) := by
  obtain ⟨b, o, rfl, h0⟩ := hv 0 (by omega)
  obtain ⟨b1, o1, e1, h1⟩ := hv 1 (by omega)
  obtain ⟨b2, o2, e2, h2⟩ := hv 2 (by omega)
  simp only [Option.some.injEq, Addr.mk.injEq, and_true] at e1 e2
  obtain ⟨rfl, rfl⟩ := e1
  obtain ⟨rfl, rfl⟩ := e2
  exact ⟨b, o, rfl, by simpa using h0, by simpa using h1, by simpa using h2⟩

theorem ap_2 (a : Option Addr) (c : Nat) (f : Nat → Vx) (w : World) (h : Args w a 1 f) : Calls Tryz.prog 7 #[.int .i64 2, .slice a 1 c] w fun e w' => e = .returned (vv (apY 2 1 f)) ∧ Below w.heap.size w w' := by
  rw [← st_2]
  exact implApply_end 2 60 61 a 1 c f (allK f 1 1) (chkX (-(f 0).n)) w (by decide) h.v h.s ⟨by decide, by decide⟩ (by decide) h.ok ⟨rfl, rfl⟩ (Go.Proofs.enters_of Tryz.func60 (by kernel_rfl) rfl) (Go.Proofs.enters_of Tryz.func61 (by kernel_rfl) rfl)
    (fun W hb => areInts_any a 1 c f W (by decide) (h.v.mono hb))
    (fun _ _ _ W hb => by
      obtain ⟨b, o, rfl, h0⟩ := vals0 (h.v.mono hb) (by decide)
      exact negateInt_any b o 1 c (f 0) W (by decide) (h.r 0 (by decide)) h0)
theorem ap_3 (a : Option Addr) (c : Nat) (f : Nat → Vx) (w : World) (h : Args w a 1 f) : Calls Tryz.prog 7 #[.int .i64 3, .slice a 1 c] w fun e w' => e = .returned (vv (apY 3 1 f)) ∧ Below w.heap.size w w' := by
  rw [← st_3]
  exact implApply_end 3 62 63 a 1 c f (allK f 1 2) (boolX ((f 0).n == 0)) w (by decide) h.v h.s ⟨by decide, by decide⟩ (by decide) h.ok ⟨rfl, rfl⟩ (Go.Proofs.enters_of Tryz.func62 (by kernel_rfl) rfl) (Go.Proofs.enters_of Tryz.func63 (by kernel_rfl) rfl)
    (fun W hb => areBools_any a 1 c f W (by decide) (h.v.mono hb))
    (fun _ _ _ W hb => by
      obtain ⟨b, o, rfl, h0⟩ := vals0 (h.v.mono hb) (by decide)
      exact turnBool_any b o 1 c (f 0) W (by decide)  h0)
theorem ap_4 (a : Option Addr) (c : Nat) (f : Nat → Vx) (w : World) (h : Args w a 2 f) : Calls Tryz.prog 7 #[.int .i64 4, .slice a 2 c] w fun e w' => e = .returned (vv (apY 4 2 f)) ∧ Below w.heap.size w w' := by
  rw [← st_4]
  exact implApply_end 4 60 64 a 2 c f (allK f 2 1) (chkX ((f 0).n * (f 1).n)) w (by decide) h.v h.s ⟨by decide, by decide⟩ (by decide) h.ok ⟨rfl, rfl⟩ (Go.Proofs.enters_of Tryz.func60 (by kernel_rfl) rfl) (Go.Proofs.enters_of Tryz.func64 (by kernel_rfl) rfl)
    (fun W hb => areInts_any a 2 c f W (by decide) (h.v.mono hb))
    (fun _ _ _ W hb => by
      obtain ⟨b, o, rfl, h0, h1⟩ := vals1 (h.v.mono hb) (by decide)
      exact multiplyInts_any b o 2 c (f 0) (f 1) W (by decide) (h.r 0 (by decide)) (h.r 1 (by decide)) h0 h1)
theorem ap_5 (a : Option Addr) (c : Nat) (f : Nat → Vx) (w : World) (h : Args w a 2 f) : Calls Tryz.prog 7 #[.int .i64 5, .slice a 2 c] w fun e w' => e = .returned (vv (apY 5 2 f)) ∧ Below w.heap.size w w' := by
  rw [← st_5]
  exact implApply_end 5 60 65 a 2 c f (allK f 2 1) (if (f 1).n = 0 then errX 3 else chkX ((f 0).n.tdiv (f 1).n)) w (by decide) h.v h.s ⟨by decide, by decide⟩ (by decide) h.ok ⟨rfl, rfl⟩ (Go.Proofs.enters_of Tryz.func60 (by kernel_rfl) rfl) (Go.Proofs.enters_of Tryz.func65 (by kernel_rfl) rfl)
    (fun W hb => areInts_any a 2 c f W (by decide) (h.v.mono hb))
    (fun _ _ _ W hb => by
      obtain ⟨b, o, rfl, h0, h1⟩ := vals1 (h.v.mono hb) (by decide)
      exact divideInts_any b o 2 c (f 0) (f 1) W (by decide) (h.r 0 (by decide)) (h.r 1 (by decide)) h0 h1)
theorem ap_6 (a : Option Addr) (c : Nat) (f : Nat → Vx) (w : World) (h : Args w a 2 f) : Calls Tryz.prog 7 #[.int .i64 6, .slice a 2 c] w fun e w' => e = .returned (vv (apY 6 2 f)) ∧ Below w.heap.size w w' := by
  rw [← st_6 (h.r 0 (by decide))]
  exact implApply_end 6 60 66 a 2 c f (allK f 2 1) (if (f 1).n = 0 then errX 3 else intX ((f 0).n.tmod (f 1).n)) w (by decide) h.v h.s ⟨by decide, by decide⟩ (by decide) h.ok ⟨rfl, rfl⟩ (Go.Proofs.enters_of Tryz.func60 (by kernel_rfl) rfl) (Go.Proofs.enters_of Tryz.func66 (by kernel_rfl) rfl)
    (fun W hb => areInts_any a 2 c f W (by decide) (h.v.mono hb))
    (fun _ _ _ W hb => by
      obtain ⟨b, o, rfl, h0, h1⟩ := vals1 (h.v.mono hb) (by decide)
      exact remainderOfInts_any b o 2 c (f 0) (f 1) W (by decide) (h.r 0 (by decide)) (h.r 1 (by decide)) h0 h1)
theorem ap_7 (a : Option Addr) (c : Nat) (f : Nat → Vx) (w : World) (h : Args w a 2 f) : Calls Tryz.prog 7 #[.int .i64 7, .slice a 2 c] w fun e w' => e = .returned (vv (apY 7 2 f)) ∧ Below w.heap.size w w' := by
  rw [← st_7]
  exact implApply_end 7 60 67 a 2 c f (allK f 2 1) (chkX ((f 0).n + (f 1).n)) w (by decide) h.v h.s ⟨by decide, by decide⟩ (by decide) h.ok ⟨rfl, rfl⟩ (Go.Proofs.enters_of Tryz.func60 (by kernel_rfl) rfl) (Go.Proofs.enters_of Tryz.func67 (by kernel_rfl) rfl)
    (fun W hb => areInts_any a 2 c f W (by decide) (h.v.mono hb))
    (fun _ _ _ W hb => by
      obtain ⟨b, o, rfl, h0, h1⟩ := vals1 (h.v.mono hb) (by decide)
      exact addInts_any b o 2 c (f 0) (f 1) W (by decide) (h.r 0 (by decide)) (h.r 1 (by decide)) h0 h1)
theorem ap_8 (a : Option Addr) (c : Nat) (f : Nat → Vx) (w : World) (h : Args w a 2 f) : Calls Tryz.prog 7 #[.int .i64 8, .slice a 2 c] w fun e w' => e = .returned (vv (apY 8 2 f)) ∧ Below w.heap.size w w' := by
  rw [← st_8]
  exact implApply_end 8 60 68 a 2 c f (allK f 2 1) (chkX ((f 0).n - (f 1).n)) w (by decide) h.v h.s ⟨by decide, by decide⟩ (by decide) h.ok ⟨rfl, rfl⟩ (Go.Proofs.enters_of Tryz.func60 (by kernel_rfl) rfl) (Go.Proofs.enters_of Tryz.func68 (by kernel_rfl) rfl)
    (fun W hb => areInts_any a 2 c f W (by decide) (h.v.mono hb))
    (fun _ _ _ W hb => by
      obtain ⟨b, o, rfl, h0, h1⟩ := vals1 (h.v.mono hb) (by decide)
      exact subtractInts_any b o 2 c (f 0) (f 1) W (by decide) (h.r 0 (by decide)) (h.r 1 (by decide)) h0 h1)
theorem ap_9 (a : Option Addr) (c : Nat) (f : Nat → Vx) (w : World) (h : Args w a 2 f) : Calls Tryz.prog 7 #[.int .i64 9, .slice a 2 c] w fun e w' => e = .returned (vv (apY 9 2 f)) ∧ Below w.heap.size w w' := by
  rw [← st_9]
  exact implApply_end 9 69 70 a 2 c f (allK f 2 3) (if 1000 < (f 0).s.size + (f 1).s.size then errX 4 else textX ((f 0).s ++ (f 1).s)) w (by decide) h.v h.s ⟨by decide, by decide⟩ (by decide) h.ok ⟨rfl, rfl⟩ (Go.Proofs.enters_of Tryz.func69 (by kernel_rfl) rfl) (Go.Proofs.enters_of Tryz.func70 (by kernel_rfl) rfl)
    (fun W hb => areTexts_any a 2 c f W (by decide) (h.v.mono hb))
    (fun _ _ hA W hb => by
      obtain ⟨b, o, rfl, h0, h1⟩ := vals1 (h.v.mono hb) (by decide)
      exact joinTexts_any b o 2 c (f 0) (f 1) W (by decide) ⟨(h.t 0 (by decide) (allK_at hA (by decide))), (h.t 1 (by decide) (allK_at hA (by decide)))⟩ h0 h1)
theorem ap_10 (a : Option Addr) (c : Nat) (f : Nat → Vx) (w : World) (h : Args w a 2 f) : Calls Tryz.prog 7 #[.int .i64 10, .slice a 2 c] w fun e w' => e = .returned (vv (apY 10 2 f)) ∧ Below w.heap.size w w' := by
  rw [← st_10 h.ok]
  exact implApply_end 10 71 72 a 2 c f (allK f 2 1 || allK f 2 2 || allK f 2 3) (boolX (eqX (f 0) (f 1))) w (by decide) h.v h.s ⟨by decide, by decide⟩ (by decide) h.ok ⟨rfl, rfl⟩ (Go.Proofs.enters_of Tryz.func71 (by kernel_rfl) rfl) (Go.Proofs.enters_of Tryz.func72 (by kernel_rfl) rfl)
    (fun W hb => areAlike_any a 2 c f W (by decide) (h.v.mono hb))
    (fun _ _ _ W hb => by
      obtain ⟨b, o, rfl, h0, h1⟩ := vals1 (h.v.mono hb) (by decide)
      exact areEqual_any b o 2 c (f 0) (f 1) W (by decide)  h0 h1)
theorem ap_11 (a : Option Addr) (c : Nat) (f : Nat → Vx) (w : World) (h : Args w a 2 f) : Calls Tryz.prog 7 #[.int .i64 11, .slice a 2 c] w fun e w' => e = .returned (vv (apY 11 2 f)) ∧ Below w.heap.size w w' := by
  rw [← st_11 h.ok]
  exact implApply_end 11 71 73 a 2 c f (allK f 2 1 || allK f 2 2 || allK f 2 3) (boolX (!eqX (f 0) (f 1))) w (by decide) h.v h.s ⟨by decide, by decide⟩ (by decide) h.ok ⟨rfl, rfl⟩ (Go.Proofs.enters_of Tryz.func71 (by kernel_rfl) rfl) (Go.Proofs.enters_of Tryz.func73 (by kernel_rfl) rfl)
    (fun W hb => areAlike_any a 2 c f W (by decide) (h.v.mono hb))
    (fun _ _ _ W hb => by
      obtain ⟨b, o, rfl, h0, h1⟩ := vals1 (h.v.mono hb) (by decide)
      exact areDifferent_any b o 2 c (f 0) (f 1) W (by decide)  h0 h1)
theorem ap_12 (a : Option Addr) (c : Nat) (f : Nat → Vx) (w : World) (h : Args w a 2 f) : Calls Tryz.prog 7 #[.int .i64 12, .slice a 2 c] w fun e w' => e = .returned (vv (apY 12 2 f)) ∧ Below w.heap.size w w' := by
  rw [← st_12]
  exact implApply_end 12 74 75 a 2 c f (allK f 2 1 || allK f 2 3) (boolX (decide (cmpX (f 0) (f 1) < 0))) w (by decide) h.v h.s ⟨by decide, by decide⟩ (by decide) h.ok ⟨rfl, rfl⟩ (Go.Proofs.enters_of Tryz.func74 (by kernel_rfl) rfl) (Go.Proofs.enters_of Tryz.func75 (by kernel_rfl) rfl)
    (fun W hb => areInOneOrder_any a 2 c f W (by decide) (h.v.mono hb))
    (fun _ _ _ W hb => by
      obtain ⟨b, o, rfl, h0, h1⟩ := vals1 (h.v.mono hb) (by decide)
      exact isLess_any b o 2 c (f 0) (f 1) W (by decide)  h0 h1)
theorem ap_13 (a : Option Addr) (c : Nat) (f : Nat → Vx) (w : World) (h : Args w a 2 f) : Calls Tryz.prog 7 #[.int .i64 13, .slice a 2 c] w fun e w' => e = .returned (vv (apY 13 2 f)) ∧ Below w.heap.size w w' := by
  rw [← st_13]
  exact implApply_end 13 74 76 a 2 c f (allK f 2 1 || allK f 2 3) (boolX (decide (cmpX (f 0) (f 1) ≤ 0))) w (by decide) h.v h.s ⟨by decide, by decide⟩ (by decide) h.ok ⟨rfl, rfl⟩ (Go.Proofs.enters_of Tryz.func74 (by kernel_rfl) rfl) (Go.Proofs.enters_of Tryz.func76 (by kernel_rfl) rfl)
    (fun W hb => areInOneOrder_any a 2 c f W (by decide) (h.v.mono hb))
    (fun _ _ _ W hb => by
      obtain ⟨b, o, rfl, h0, h1⟩ := vals1 (h.v.mono hb) (by decide)
      exact isLessOrEqual_any b o 2 c (f 0) (f 1) W (by decide)  h0 h1)
theorem ap_14 (a : Option Addr) (c : Nat) (f : Nat → Vx) (w : World) (h : Args w a 2 f) : Calls Tryz.prog 7 #[.int .i64 14, .slice a 2 c] w fun e w' => e = .returned (vv (apY 14 2 f)) ∧ Below w.heap.size w w' := by
  rw [← st_14 h.ok]
  exact implApply_end 14 77 78 a 2 c f (allBB f 2) (setX f 2 (boolX false) (boolX true)) w (by decide) h.v h.s ⟨by decide, by decide⟩ (by decide) h.ok ⟨rfl, rfl⟩ (Go.Proofs.enters_of Tryz.func77 (by kernel_rfl) rfl) (Go.Proofs.enters_of Tryz.func78 (by kernel_rfl) rfl)
    (fun W hb => areBoolsOrBlanks_any a 2 c f W (by decide) (h.v.mono hb))
    (fun _ _ _ W hb => areBothTrue_any a 2 c f W (by decide) (h.v.mono hb))
theorem ap_15 (a : Option Addr) (c : Nat) (f : Nat → Vx) (w : World) (h : Args w a 2 f) : Calls Tryz.prog 7 #[.int .i64 15, .slice a 2 c] w fun e w' => e = .returned (vv (apY 15 2 f)) ∧ Below w.heap.size w w' := by
  rw [← st_15 h.ok]
  exact implApply_end 15 77 79 a 2 c f (allBB f 2) (setX f 2 (boolX true) (boolX false)) w (by decide) h.v h.s ⟨by decide, by decide⟩ (by decide) h.ok ⟨rfl, rfl⟩ (Go.Proofs.enters_of Tryz.func77 (by kernel_rfl) rfl) (Go.Proofs.enters_of Tryz.func79 (by kernel_rfl) rfl)
    (fun W hb => areBoolsOrBlanks_any a 2 c f W (by decide) (h.v.mono hb))
    (fun _ _ _ W hb => isOneTrue_any a 2 c f W (by decide) (h.v.mono hb))
theorem ap_16 (a : Option Addr) (c : Nat) (f : Nat → Vx) (w : World) (h : Args w a 3 f) : Calls Tryz.prog 7 #[.int .i64 16, .slice a 3 c] w fun e w' => e = .returned (vv (apY 16 3 f)) ∧ Below w.heap.size w w' := by
  rw [← st_16 h.ok]
  exact implApply_end 16 80 81 a 3 c f ((f 0).k != 1 && (f 0).k != 3) (pickX (f 0) (f 1) (f 2)) w (by decide) h.v h.s ⟨by decide, by decide⟩ (by decide) h.ok ⟨rfl, rfl⟩ (Go.Proofs.enters_of Tryz.func80 (by kernel_rfl) rfl) (Go.Proofs.enters_of Tryz.func81 (by kernel_rfl) rfl)
    (fun W hb => by
      obtain ⟨b, o, rfl, h0, -⟩ := vals2 (h.v.mono hb) (by decide)
      exact (beginWithChoice_any b o 3 c (f 0) W (by decide) h0).mono fun _ _ ⟨he, hw⟩ => ⟨he, by rw [hw]; exact Below.refl _ _⟩)
    (fun _ _ _ W hb => by
      obtain ⟨b, o, rfl, h0, h1, h2⟩ := vals2 (h.v.mono hb) (by decide)
      by_cases hk : (f 0).k = 2
      · obtain ⟨y, hy⟩ := isBool (allOk_iff.1 h.ok 0 (by decide)) hk
        cases y
        · rw [show pickX (f 0) (f 1) (f 2) = f 2 by rw [hy]; rfl]
          exact pickBranch_false b o 3 c (f 0) (f 2) W (by decide) hy h0 h2
        · rw [show pickX (f 0) (f 1) (f 2) = f 1 by rw [hy]; rfl]
          exact pickBranch_true b o 3 c (f 0) (f 1) W (by decide) hy h0 h1
      · rw [show pickX (f 0) (f 1) (f 2) = f 0 by rw [pickX, if_neg hk]]
        exact pickBranch_else b o 3 c (f 0) W (by decide) hk h0)
theorem ap_17 (a : Option Addr) (c : Nat) (f : Nat → Vx) (w : World) (h : Args w a 2 f) : Calls Tryz.prog 7 #[.int .i64 17, .slice a 2 c] w fun e w' => e = .returned (vv (apY 17 2 f)) ∧ Below w.heap.size w w' := by
  rw [← st_17]
  exact implApply_end 17 60 82 a 2 c f (allK f 2 1) (intX (if (f 0).n < (f 1).n then (f 0).n else (f 1).n)) w (by decide) h.v h.s ⟨by decide, by decide⟩ (by decide) h.ok ⟨rfl, rfl⟩ (Go.Proofs.enters_of Tryz.func60 (by kernel_rfl) rfl) (Go.Proofs.enters_of Tryz.func82 (by kernel_rfl) rfl)
    (fun W hb => areInts_any a 2 c f W (by decide) (h.v.mono hb))
    (fun _ _ _ W hb => by
      obtain ⟨b, o, rfl, h0, h1⟩ := vals1 (h.v.mono hb) (by decide)
      exact smallerInt_any b o 2 c (f 0) (f 1) W (by decide)  h0 h1)
theorem ap_18 (a : Option Addr) (c : Nat) (f : Nat → Vx) (w : World) (h : Args w a 2 f) : Calls Tryz.prog 7 #[.int .i64 18, .slice a 2 c] w fun e w' => e = .returned (vv (apY 18 2 f)) ∧ Below w.heap.size w w' := by
  rw [← st_18]
  exact implApply_end 18 60 83 a 2 c f (allK f 2 1) (intX (if (f 0).n < (f 1).n then (f 1).n else (f 0).n)) w (by decide) h.v h.s ⟨by decide, by decide⟩ (by decide) h.ok ⟨rfl, rfl⟩ (Go.Proofs.enters_of Tryz.func60 (by kernel_rfl) rfl) (Go.Proofs.enters_of Tryz.func83 (by kernel_rfl) rfl)
    (fun W hb => areInts_any a 2 c f W (by decide) (h.v.mono hb))
    (fun _ _ _ W hb => by
      obtain ⟨b, o, rfl, h0, h1⟩ := vals1 (h.v.mono hb) (by decide)
      exact largerInt_any b o 2 c (f 0) (f 1) W (by decide)  h0 h1)
theorem ap_19 (a : Option Addr) (c : Nat) (f : Nat → Vx) (w : World) (h : Args w a 2 f) : Calls Tryz.prog 7 #[.int .i64 19, .slice a 2 c] w fun e w' => e = .returned (vv (apY 19 2 f)) ∧ Below w.heap.size w w' := by
  rw [← st_19]
  exact implApply_end 19 84 85 a 2 c f (true) (if (f 0).k == 0 then f 1 else f 0) w (by decide) h.v h.s ⟨by decide, by decide⟩ (by decide) h.ok ⟨rfl, rfl⟩ (Go.Proofs.enters_of Tryz.func84 (by kernel_rfl) rfl) (Go.Proofs.enters_of Tryz.func85 (by kernel_rfl) rfl)
    (fun W _ => (areAnything_any a 2 c W).mono fun _ _ ⟨he, hw⟩ => ⟨he, by rw [hw]; exact Below.refl _ _⟩)
    (fun _ _ _ W hb => by
      obtain ⟨b, o, rfl, h0, h1⟩ := vals1 (h.v.mono hb) (by decide)
      exact firstUnlessBlank_any b o 2 c (f 0) (f 1) W (by decide)  h0 h1)
theorem ap_20 (a : Option Addr) (c : Nat) (f : Nat → Vx) (w : World) (h : Args w a 2 f) : Calls Tryz.prog 7 #[.int .i64 20, .slice a 2 c] w fun e w' => e = .returned (vv (apY 20 2 f)) ∧ Below w.heap.size w w' := by
  rw [← st_20]
  exact implApply_end 20 69 86 a 2 c f (allK f 2 3) (boolX (Lib.contains (f 0).s.data.toList (f 1).s.data.toList)) w (by decide) h.v h.s ⟨by decide, by decide⟩ (by decide) h.ok ⟨rfl, rfl⟩ (Go.Proofs.enters_of Tryz.func69 (by kernel_rfl) rfl) (Go.Proofs.enters_of Tryz.func86 (by kernel_rfl) rfl)
    (fun W hb => areTexts_any a 2 c f W (by decide) (h.v.mono hb))
    (fun _ _ hA W hb => by
      obtain ⟨b, o, rfl, h0, h1⟩ := vals1 (h.v.mono hb) (by decide)
      exact hasPiece_any b o 2 c (f 0) (f 1) W (by decide) (h.t 0 (by decide) (allK_at hA (by decide))) (h.g.mono hb).mx h0 h1)
theorem ap_21 (a : Option Addr) (c : Nat) (f : Nat → Vx) (w : World) (h : Args w a 1 f) : Calls Tryz.prog 7 #[.int .i64 21, .slice a 1 c] w fun e w' => e = .returned (vv (apY 21 1 f)) ∧ Below w.heap.size w w' := by
  rw [← st_21]
  exact implApply_end 21 69 87 a 1 c f (allK f 1 3) (intX ((f 0).s.size : Int)) w (by decide) h.v h.s ⟨by decide, by decide⟩ (by decide) h.ok ⟨rfl, rfl⟩ (Go.Proofs.enters_of Tryz.func69 (by kernel_rfl) rfl) (Go.Proofs.enters_of Tryz.func87 (by kernel_rfl) rfl)
    (fun W hb => areTexts_any a 1 c f W (by decide) (h.v.mono hb))
    (fun _ _ _ W hb => by
      obtain ⟨b, o, rfl, h0⟩ := vals0 (h.v.mono hb) (by decide)
      exact countBytes_any b o 1 c (f 0) W (by decide) (h.s 0 (by decide)) h0)
theorem ap_22 (a : Option Addr) (c : Nat) (f : Nat → Vx) (w : World) (h : Args w a 1 f) : Calls Tryz.prog 7 #[.int .i64 22, .slice a 1 c] w fun e w' => e = .returned (vv (apY 22 1 f)) ∧ Below w.heap.size w w' := by
  rw [← st_22]
  exact implApply_end 22 69 88 a 1 c f (allK f 1 3) (if (rd (f 0).s.data.toList).2 then intX (rd (f 0).s.data.toList).1 else errX 5) w (by decide) h.v h.s ⟨by decide, by decide⟩ (by decide) h.ok ⟨rfl, rfl⟩ (Go.Proofs.enters_of Tryz.func69 (by kernel_rfl) rfl) (Go.Proofs.enters_of Tryz.func88 (by kernel_rfl) rfl)
    (fun W hb => areTexts_any a 1 c f W (by decide) (h.v.mono hb))
    (fun _ _ hA W hb => by
      obtain ⟨b, o, rfl, h0⟩ := vals0 (h.v.mono hb) (by decide)
      exact readInt_any b o 1 c (f 0) W (by decide) (h.t 0 (by decide) (allK_at hA (by decide))) (h.g.mono hb) h0)
theorem ap_23 (a : Option Addr) (c : Nat) (f : Nat → Vx) (w : World) (h : Args w a 1 f) : Calls Tryz.prog 7 #[.int .i64 23, .slice a 1 c] w fun e w' => e = .returned (vv (apY 23 1 f)) ∧ Below w.heap.size w w' := by
  rw [← st_23 h.ok]
  exact implApply_end 23 71 89 a 1 c f (allK f 1 1 || allK f 1 2 || allK f 1 3) (textX (plainB (f 0).k (f 0).n (f 0).s)) w (by decide) h.v h.s ⟨by decide, by decide⟩ (by decide) h.ok ⟨rfl, rfl⟩ (Go.Proofs.enters_of Tryz.func71 (by kernel_rfl) rfl) (Go.Proofs.enters_of Tryz.func89 (by kernel_rfl) rfl)
    (fun W hb => areAlike_any a 1 c f W (by decide) (h.v.mono hb))
    (fun _ _ _ W hb => by
      obtain ⟨b, o, rfl, h0⟩ := vals0 (h.v.mono hb) (by decide)
      exact writeText_any b o 1 c (f 0) W (by decide) (h.r 0 (by decide)) (h.g.mono hb) h0)
theorem ap_24 (a : Option Addr) (c : Nat) (f : Nat → Vx) (w : World) (h : Args w a 1 f) : Calls Tryz.prog 7 #[.int .i64 24, .slice a 1 c] w fun e w' => e = .returned (vv (apY 24 1 f)) ∧ Below w.heap.size w w' := by
  rw [← st_24]
  exact implApply_end 24 84 90 a 1 c f (true) (boolX ((f 0).k == 0)) w (by decide) h.v h.s ⟨by decide, by decide⟩ (by decide) h.ok ⟨rfl, rfl⟩ (Go.Proofs.enters_of Tryz.func84 (by kernel_rfl) rfl) (Go.Proofs.enters_of Tryz.func90 (by kernel_rfl) rfl)
    (fun W _ => (areAnything_any a 1 c W).mono fun _ _ ⟨he, hw⟩ => ⟨he, by rw [hw]; exact Below.refl _ _⟩)
    (fun _ _ _ W hb => by
      obtain ⟨b, o, rfl, h0⟩ := vals0 (h.v.mono hb) (by decide)
      exact isBlank_any b o 1 c (f 0) W (by decide)  h0)
theorem ap_25 (a : Option Addr) (c : Nat) (f : Nat → Vx) (w : World) (h : Args w a 1 f) : Calls Tryz.prog 7 #[.int .i64 25, .slice a 1 c] w fun e w' => e = .returned (vv (apY 25 1 f)) ∧ Below w.heap.size w w' := by
  rw [← st_25]
  exact implApply_end 25 84 91 a 1 c f (true) (boolX ((f 0).k == 4)) w (by decide) h.v h.s ⟨by decide, by decide⟩ (by decide) h.ok ⟨rfl, rfl⟩ (Go.Proofs.enters_of Tryz.func84 (by kernel_rfl) rfl) (Go.Proofs.enters_of Tryz.func91 (by kernel_rfl) rfl)
    (fun W _ => (areAnything_any a 1 c W).mono fun _ _ ⟨he, hw⟩ => ⟨he, by rw [hw]; exact Below.refl _ _⟩)
    (fun _ _ _ W hb => by
      obtain ⟨b, o, rfl, h0⟩ := vals0 (h.v.mono hb) (by decide)
      exact isError_any b o 1 c (f 0) W (by decide)  h0)

theorem implApply_any (op : Int) (a : Option Addr) (m c : Nat) (f : Nat → Vx) (w : World) (hm : m ≤ 1048576) (hv : Vals w a m f) (hs : ∀ i, i < m → (f i).s.size ≤ 9223372036854775807) (hr : ∀ i, i < m → -9223372036854775808 ≤ (f i).n ∧ (f i).n ≤ 9223372036854775807) (hg : Glob w) :
    Calls Tryz.prog 7 #[.int .i64 op, .slice a m c] w fun e w' => e = .returned (vv (apX op m f)) ∧ Below w.heap.size w w' := by
  unfold apX
  by_cases hop : 2 ≤ op ∧ op ≤ 25
  · have har : ar op = opn op := by rw [ar_opn, if_pos hop]
    by_cases hmn : (m : Int) = opn op
    · rw [if_neg (by rw [har]; have h2 : 0 < opn op := by (unfold opn; (repeat' split) <;> decide)
                     omega)]
      cases hok : allOk f m
      · rw [if_neg (by decide)]
        exact implApply_no3 op a m c f w hm hv hs hop hmn hok
      · rw [if_pos rfl]
        have h : Args w a m f := ⟨hv, hs, hr, hok, hg⟩
        clear hv hs hr hok hg hm har
        obtain ⟨n, rfl⟩ : ∃ n : Nat, op = n := ⟨op.toNat, by omega⟩
        have hn : n = 2 ∨ n = 3 ∨ n = 4 ∨ n = 5 ∨ n = 6 ∨ n = 7 ∨ n = 8 ∨ n = 9 ∨ n = 10 ∨ n = 11 ∨ n = 12 ∨ n = 13 ∨ n = 14 ∨ n = 15 ∨ n = 16 ∨ n = 17 ∨ n = 18 ∨ n = 19 ∨ n = 20 ∨ n = 21 ∨ n = 22 ∨ n = 23 ∨ n = 24 ∨ n = 25 := by omega
        rcases hn with rfl | rfl | rfl | rfl | rfl | rfl | rfl | rfl | rfl | rfl | rfl | rfl | rfl | rfl | rfl | rfl | rfl | rfl | rfl | rfl | rfl | rfl | rfl | rfl
        · have e : (m : Int) = 1 := hmn.trans (by decide)
          obtain rfl : m = 1 := by omega
          exact ap_2 a c f w h
        · have e : (m : Int) = 1 := hmn.trans (by decide)
          obtain rfl : m = 1 := by omega
          exact ap_3 a c f w h
        · have e : (m : Int) = 2 := hmn.trans (by decide)
          obtain rfl : m = 2 := by omega
          exact ap_4 a c f w h
        · have e : (m : Int) = 2 := hmn.trans (by decide)
          obtain rfl : m = 2 := by omega
          exact ap_5 a c f w h
        · have e : (m : Int) = 2 := hmn.trans (by decide)
          obtain rfl : m = 2 := by omega
          exact ap_6 a c f w h
        · have e : (m : Int) = 2 := hmn.trans (by decide)
          obtain rfl : m = 2 := by omega
          exact ap_7 a c f w h
        · have e : (m : Int) = 2 := hmn.trans (by decide)
          obtain rfl : m = 2 := by omega
          exact ap_8 a c f w h
        · have e : (m : Int) = 2 := hmn.trans (by decide)
          obtain rfl : m = 2 := by omega
          exact ap_9 a c f w h
        · have e : (m : Int) = 2 := hmn.trans (by decide)
          obtain rfl : m = 2 := by omega
          exact ap_10 a c f w h
        · have e : (m : Int) = 2 := hmn.trans (by decide)
          obtain rfl : m = 2 := by omega
          exact ap_11 a c f w h
        · have e : (m : Int) = 2 := hmn.trans (by decide)
          obtain rfl : m = 2 := by omega
          exact ap_12 a c f w h
        · have e : (m : Int) = 2 := hmn.trans (by decide)
          obtain rfl : m = 2 := by omega
          exact ap_13 a c f w h
        · have e : (m : Int) = 2 := hmn.trans (by decide)
          obtain rfl : m = 2 := by omega
          exact ap_14 a c f w h
        · have e : (m : Int) = 2 := hmn.trans (by decide)
          obtain rfl : m = 2 := by omega
          exact ap_15 a c f w h
        · have e : (m : Int) = 3 := hmn.trans (by decide)
          obtain rfl : m = 3 := by omega
          exact ap_16 a c f w h
        · have e : (m : Int) = 2 := hmn.trans (by decide)
          obtain rfl : m = 2 := by omega
          exact ap_17 a c f w h
        · have e : (m : Int) = 2 := hmn.trans (by decide)
          obtain rfl : m = 2 := by omega
          exact ap_18 a c f w h
        · have e : (m : Int) = 2 := hmn.trans (by decide)
          obtain rfl : m = 2 := by omega
          exact ap_19 a c f w h
        · have e : (m : Int) = 2 := hmn.trans (by decide)
          obtain rfl : m = 2 := by omega
          exact ap_20 a c f w h
        · have e : (m : Int) = 1 := hmn.trans (by decide)
          obtain rfl : m = 1 := by omega
          exact ap_21 a c f w h
        · have e : (m : Int) = 1 := hmn.trans (by decide)
          obtain rfl : m = 1 := by omega
          exact ap_22 a c f w h
        · have e : (m : Int) = 1 := hmn.trans (by decide)
          obtain rfl : m = 1 := by omega
          exact ap_23 a c f w h
        · have e : (m : Int) = 1 := hmn.trans (by decide)
          obtain rfl : m = 1 := by omega
          exact ap_24 a c f w h
        · have e : (m : Int) = 1 := hmn.trans (by decide)
          obtain rfl : m = 1 := by omega
          exact ap_25 a c f w h
    · rw [if_pos (.inr (by rw [har]; exact hmn))]
      exact implApply_no2 op a m c w hop hmn
  · rw [if_pos (.inl (by rw [ar_opn, if_neg hop]))]
    exact implApply_no1 op a m c w hop
end Go.Proofs.YtnmpkdmflijhpaaGreatDoor

/- Values in package laws: size and copy. -/
namespace Go.Proofs.YtnmpkdmflijhpaaGreatDoor
open Go Go.RowKit

set_option maxHeartbeats 400000 in
theorem szValue_any (kind num : Int) (s : ByteArray) (left : Int) (w : World) (hs : s.size ≤ 9223372036854775807) (h0 : 0 ≤ left) (h1 : left ≤ 1048576) :
    Calls Tryz.prog 10 #[.agg #[.int .i64 kind, .int .i64 num, .string s], .int .i64 left] w fun e w' => e = .returned (.int .i64 (if left < s.size then -1 else left - s.size)) ∧ Below w.heap.size w w' := by
  by_cases h : left < s.size
  all_goals
    go_enter Tryz.func10, Tryz.ntmps10
    go_wp2
    go_ret
    exact ⟨rfl, (Below.refl _ _).alloc (Nat.le_refl _) _⟩

set_option maxHeartbeats 400000 in
theorem toValue_any (kind num : Int) (s : ByteArray) (w : World) :
    Calls Tryz.prog 22 #[.agg #[.int .i64 kind, .int .i64 num, .string s]] w fun e w' => e = .returned (.agg #[.int .i64 kind, .int .i64 num, .string s]) ∧ Below w.heap.size w w' := by
  go_enter Tryz.func22, Tryz.ntmps22
  go_wp2
  refine bodyPost_ret (v := .agg #[.int .i64 kind, .int .i64 num, .string s]) (by simp [results, Tryz.results22, go_sem, *]) rfl ⟨rfl, ?_⟩
  exact (((Below.refl _ w).alloc (Nat.le_refl _) _).alloc (by simp) _).alloc (by simp; omega) _
end Go.Proofs.YtnmpkdmflijhpaaGreatDoor

/- A value equals itself. -/
namespace Go.Proofs.YtnmpkdmflijhpaaGreatDoor
open Go Go.RowKit

set_option maxRecDepth 100000 in
set_option maxHeartbeats 1000000 in
theorem eqValue_refl (k n : Int) (t : ByteArray) (w : World) :
    Calls Tryz.prog 8 #[.agg #[.int .i64 k, .int .i64 n, .string t], .agg #[.int .i64 k, .int .i64 n, .string t]] w fun e w' => e = .returned (.bool true) ∧ Below w.heap.size w w' := by
  have hq : (t.toList == t.toList) = true := by simp
  have hB : ∀ o1 o2, Below w.heap.size w ((w.alloc o1).alloc o2) := fun o1 o2 => ((Below.refl _ w).alloc (Nat.le_refl _) o1).alloc (by simp) o2
  have HB := hide hB; clear hB
  go_enter Tryz.func8, Tryz.ntmps8
  go_wp2
  go_ret
  exact ⟨rfl, unhide HB _ _⟩
end Go.Proofs.YtnmpkdmflijhpaaGreatDoor

/- Lists of values in package laws: size, copy, comparison; the law FnExactApply. -/
namespace Go.Proofs.YtnmpkdmflijhpaaGreatDoor
open Go Go.RowKit

theorem info_val : (Tryz.prog.info? 25).map (fun i => (i.zero, i.size, i.bytes)) = some (some (.agg #[.int .i64 0, .int .i64 0, .string ⟨#[]⟩]), 3, 32) := by kernel_rfl
theorem Blk.of_owns3 {w : World} {base e g n : Nat} {xs : List Value} (h : w.ownsRow base e 3 (.slice (some ⟨g, 0, none⟩) n n) n xs) : Blk w g e xs ∧ xs.length = n * 3 := by
  refine ⟨?_, h.1⟩
  rcases h.2 with ⟨h', _⟩ | ⟨g', cap', cur, h', _, hg, _, _, hs, htake⟩
  · simp at h'
  · simp only [Value.slice.injEq, Option.some.injEq, Addr.mk.injEq, and_true, true_and] at h'
    obtain ⟨rfl, rfl⟩ := h'
    rw [List.take_of_length_le (by simp; omega)] at htake
    rw [← htake]; simpa [Blk] using hg

set_option maxRecDepth 100000 in
set_option maxHeartbeats 4000000 in
theorem szValueS_any (a : Option Addr) (m c : Nat) (f : Nat → Vx) (w : World) (hm : m ≤ 9223372036854775807) (hs : ∀ i, i < m → (f i).s.size ≤ 9223372036854775807) (ha : Vals w a m f) :
    Calls Tryz.prog 4 #[.slice a m c, .int .i64 1048576] w fun e w' => ∃ r, e = .returned (.int .i64 r) ∧ (0 ≤ r → m ≤ 1048576 ∧ ∀ i, i < m → (f i).s.size ≤ 1048576) ∧ Below w.heap.size w w' := by
  have HA := hide ha; have HS := hide hs
  clear ha hs
  have hw1 : wrap64 (1048576 - (m : Int)) = 1048576 - (m : Int) := wrap64_small (by omega) (by omega)
  by_cases h : m ≤ 1048576
  · have h' : ¬ (1048576 : Int) - m < 0 := by omega
    have h2 : ¬ (1048576 : Int) < m := by omega
    go_enter Tryz.func4, Tryz.ntmps4
    go_wp2
    go_loopw [1, 5] (fun l i wr => ∃ (k : Nat) (left : Int), k ≤ m ∧ l = .int .i64 left ∧ i = .int .i64 k ∧ 0 ≤ left ∧ left ≤ 1048576 ∧ (∀ j, j < k → (f j).s.size ≤ 1048576) ∧ Below w.heap.size w wr) (fun _ i _ => m - (intOf i).toNat)
    case atStart => exact ⟨0, _, Nat.zero_le _, rfl, rfl, by omega, by omega, fun j hj => absurd hj (Nat.not_lt_zero _), Below.refl _ _⟩
    case round =>
      obtain ⟨k, left, hk, rfl, rfl, l0, l1, hall, hb⟩ := hrel
      have HALL := hide hall; have HB := hide hb
      have HV := hide ((unhide HA).mono hb)
      clear hall hb
      by_cases hlt : k < m
      · have hlt' : (k : Int) < m := by omega
        obtain ⟨b, o, rfl, -, c0, c1, c2⟩ := unhide HV k hlt
        go_wp2_with fail
        refine (szValue_any (f k).k (f k).n (f k).s left wr (unhide HS k hlt) l0 l1).mono ?_
        rintro e w2 ⟨rfl, hb⟩
        replace HB := hide ((unhide HB).trans (hb.mono (unhide HB).size))
        clear hb c0 c1 c2
        by_cases hq : left < (f k).s.size
        · rw [if_pos hq]
          go_wp2
          go_ret
          exact ⟨_, rfl, fun h => absurd h (by decide), unhide HB⟩
        · rw [if_neg hq]
          have hq' : ¬ left - (f k).s.size < 0 := by omega
          have hq2 : (0 : Int) ≤ left - (f k).s.size := by omega
          have HN : Hid (∀ j, j < k + 1 → (f j).s.size ≤ 1048576) := hide fun j hj => by
            by_cases e : j = k
            · rw [e]; omega
            · exact unhide HALL j (by omega)
          obtain ⟨l2, hl2⟩ : ∃ l2 : Int, left - (f k).s.size = l2 := ⟨_, rfl⟩
          rw [hl2] at hq' hq2 ⊢
          have HL : Hid (l2 ≤ 1048576) := hide (by omega)
          clear hl2 hq
          go_wp2
          go_roundw
          case rel => exact ⟨k + 1, l2, by omega, rfl, by go_num, hq2, unhide HL, unhide HN, unhide HB⟩
          case measure => simp [intOf]; omega
      · obtain rfl : k = m := by omega
        go_wp2
        go_ret
        exact ⟨_, rfl, fun _ => ⟨h, unhide HALL⟩, unhide HB⟩
  · have h' : (1048576 : Int) - m < 0 := by omega
    have h2 : (1048576 : Int) < m := by omega
    go_enter Tryz.func4, Tryz.ntmps4
    go_wp2
    go_ret
    exact ⟨_, rfl, fun h => absurd h (by decide), Below.refl _ _⟩

set_option maxRecDepth 100000 in
set_option maxHeartbeats 4000000 in
theorem toValueS_any (a : Option Addr) (f : Nat → Vx) (n c : Nat) (w : World) (ha : Vals w a n f) (hn : n ≤ 1048576) :
    Calls Tryz.prog 6 #[.slice a n c] w fun e w' => e = .returned (.slice (some ⟨w.heap.size, 0, none⟩) n n) ∧ Vals w' (some ⟨w.heap.size, 0, none⟩) n f ∧ Below w.heap.size w w' := by
  obtain ⟨i0, hi, hz0, hz1, hz2⟩ := info_parts info_val
  obtain ⟨B, hB⟩ : ∃ B, w.heap.size = B := ⟨_, rfl⟩
  have hbn : i0.bytes * n ≤ 281474976710656 := by rw [hz2]; omega
  go_enter Tryz.func6, Tryz.ntmps6
  go_wp2_with (at_make; refine wpList_make_full _ rfl (.tmp 6) (.tmp 6) 27 rfl w.heap.size 25 i0 (.agg #[.int .i64 0, .int .i64 0, .string ⟨#[]⟩]) 3 Tryz.underlying27 hi hz0 hz1 .i64 .i64 _ _ n rfl rfl rfl rfl hbn (by unfold maxLen; omega) (Nat.le_refl _) ?_; intro w1 hown hgrow)
  have hb1 : Below B w w1 := by rw [← hB]; exact (Below.refl _ _).grown hgrow (Nat.le_refl _) (fun k h => by cases h)
  rw [hB] at hown
  obtain ⟨hX, hXl⟩ := Blk.of_owns3 hown
  have HX := hide hX; have HXL := hide hXl; have HB1 := hide hb1
  clear hgrow hbn hi hz0 hz1 hz2 hown hX hXl hb1
  try rw [hB]
  go_loopw [4] (fun i wr => ∃ (k : Nat) (xs : List Value), k ≤ n ∧ i = .int .i64 k ∧ Blk wr B 25 xs ∧ xs.length = n * 3 ∧ (∀ j, j < k → xs[j * 3]? = some (.int .i64 (f j).k) ∧ xs[j * 3 + 1]? = some (.int .i64 (f j).n) ∧ xs[j * 3 + 2]? = some (.string (f j).s)) ∧ Below B w wr) (fun i _ => n - (intOf i).toNat)
  case atStart => exact ⟨0, _, Nat.zero_le _, rfl, unhide HX, unhide HXL, fun j h => absurd h (Nat.not_lt_zero _), unhide HB1⟩
  case round =>
    clear HX HXL HB1
    obtain ⟨k, xs, hk, rfl, hX, hXl, hx, hb⟩ := hrel
    have HX := hide hX; have HXL := hide hXl; have HXX := hide hx; have HB := hide hb
    by_cases hlt : k < n
    · obtain ⟨b1, o1, rfl, hl1, hc1, hc2, hc3⟩ := (ha.mono (hb.mono (by omega))) k hlt
      clear hX hXl hx hb
      go_wp2_with fail
      refine (toValue_any (f k).k (f k).n (f k).s _).mono ?_
      rintro e w3 ⟨rfl, hb3⟩
      have X3 := (unhide HX).mono hb3 (unhide HX).lt
      have B3 := (unhide HB).trans (hb3.mono (by have := (unhide HX).lt; omega))
      have c0 := X3.cell (k * 3); have c1 := X3.cell (k * 3 + 1); have c2 := X3.cell (k * 3 + 2); have f0 := X3.free (k * 3); have f1 := X3.free (k * 3 + 1); have f2 := X3.free (k * 3 + 2)
      rw [List.getElem?_eq_getElem (by have := unhide HXL; omega)] at c0 c1 c2
      have HX3 := hide X3; have HB3 := hide B3
      clear X3 B3 hb3 hc1 hc2 hc3
      go_wp2
      go_roundw
      case rel =>
        refine ⟨k + 1, _, by omega, by go_num, (((unhide HX3).set (k * 3) (.int .i64 (f k).k)).set (k * 3 + 1) (.int .i64 (f k).n)).set (k * 3 + 2) (.string (f k).s), by simpa using unhide HXL, fun j hj => ?_, (((unhide HB3).setCell (Nat.le_refl _) _).setCell (Nat.le_refl _) _).setCell (Nat.le_refl _) _⟩
        have hxl := unhide HXL
        by_cases e : j = k
        · subst e
          simp [List.getElem?_set]; omega
        · have := unhide HXX j (by omega)
          simp only [List.getElem?_set]
          rw [if_neg (by omega), if_neg (by omega), if_neg (by omega), if_neg (by omega), if_neg (by omega), if_neg (by omega), if_neg (by omega), if_neg (by omega), if_neg (by omega)]
          exact this
      case measure => simp [intOf]; omega
    · obtain rfl : n = k := by omega
      clear hX hXl hx hb
      go_wp2
      go_ret
      refine ⟨by rw [hB]; rfl, ?_, ?_⟩
      · intro j hj
        have := unhide HXX j hj
        exact ⟨B, 0, by rw [hB], (unhide HX).lt, by rw [Nat.zero_add, (unhide HX).cell]; exact this.1, by rw [Nat.zero_add, (unhide HX).cell]; exact this.2.1, by rw [Nat.zero_add, (unhide HX).cell]; exact this.2.2⟩
      · rw [hB]; exact unhide HB

set_option maxRecDepth 100000 in
set_option maxHeartbeats 4000000 in
theorem eqValueS_true (a b : Option Addr) (f : Nat → Vx) (n ca cb : Nat) (w : World) (hn : n ≤ 1048576) (ha : Vals w a n f) (hb : Vals w b n f) :
    Calls Tryz.prog 9 #[.slice a n ca, .slice b n cb] w fun e w' => e = .returned (.bool true) ∧ Below w.heap.size w w' := by
  go_enter Tryz.func9, Tryz.ntmps9
  go_wp2
  go_loopw [5] (fun i wr => ∃ k : Nat, k ≤ n ∧ i = .int .i64 k ∧ Below w.heap.size w wr) (fun i _ => n - (intOf i).toNat)
  case atStart => exact ⟨0, Nat.zero_le _, rfl, Below.refl _ _⟩
  case round =>
    obtain ⟨k, hk, rfl, hB⟩ := hrel
    have HB := hide hB
    by_cases hlt : k < n
    · obtain ⟨b1, o1, rfl, C1⟩ := (ha.mono hB) k hlt
      obtain ⟨b2, o2, rfl, C2⟩ := (hb.mono hB) k hlt
      obtain ⟨u, hu⟩ : ∃ u, f k = u := ⟨_, rfl⟩
      rw [hu] at C1 C2
      have HC1 := hide C1; have HC2 := hide C2
      have k0 : (0 : Int) ≤ k := by omega
      have k1 : (k : Int) < n := by omega
      have S0 : Cel wr b1 (o1 + k * 3) u ∧ Cel wr b2 (o2 + k * 3) u := ⟨C1, C2⟩
      have HS0 := hide S0
      clear hB hu C1 C2 S0
      go_wp2_with fail
      refine wp_region_held_drew (S := fun w' => Cel w' b1 (o1 + k * 3) u ∧ Cel w' b2 (o2 + k * 3) u) (by kernel_rfl) (unhide HS0) (fun hHeld => ?_)
      refine takeY (i := 0) (v := .slice (some ⟨b1, o1, none⟩) n ca) 17 rfl rfl (by kernel_rfl) (by kernel_rfl) (by kernel_rfl) (fun _ _ _ _ h => h) (by rfl) (fun w hS => by obtain ⟨⟨-, q0, q1, q2⟩, -, q3, q4, q5⟩ := hS; simp [execOp, go_sem, *]) hHeld ?_
      simp only [List.setIfInBounds_toArray, List.set_cons_zero, List.set_cons_succ]
      refine takeY (i := 1) (v := .int .i64 k) 18 rfl rfl (by kernel_rfl) (by kernel_rfl) (by kernel_rfl) (fun _ _ _ _ h => h) (by rfl) (fun w hS => by obtain ⟨⟨-, q0, q1, q2⟩, -, q3, q4, q5⟩ := hS; simp [execOp, go_sem, *]) hHeld ?_
      simp only [List.setIfInBounds_toArray, List.set_cons_zero, List.set_cons_succ]
      refine takeY (i := 2) (v := .pointer (some ⟨b1, o1 + k * 3, none⟩)) 19 rfl rfl (by kernel_rfl) (by kernel_rfl) (by kernel_rfl) (fun _ _ _ _ h => h) (by rfl) (fun w hS => by obtain ⟨⟨-, q0, q1, q2⟩, -, q3, q4, q5⟩ := hS; simp [execOp, go_sem, *]) hHeld ?_
      simp only [List.setIfInBounds_toArray, List.set_cons_zero, List.set_cons_succ]
      refine takeY (i := 3) (v := .agg #[.int .i64 u.k, .int .i64 u.n, .string u.s]) 20 rfl rfl (by kernel_rfl) (by kernel_rfl) (by kernel_rfl) (fun _ _ _ _ h => h) (by rfl) (fun w hS => by obtain ⟨⟨-, q0, q1, q2⟩, -, q3, q4, q5⟩ := hS; simp [execOp, go_sem, *]) hHeld ?_
      simp only [List.setIfInBounds_toArray, List.set_cons_zero, List.set_cons_succ]
      refine takeY (i := 4) (v := .slice (some ⟨b2, o2, none⟩) n cb) 21 rfl rfl (by kernel_rfl) (by kernel_rfl) (by kernel_rfl) (fun _ _ _ _ h => h) (by rfl) (fun w hS => by obtain ⟨⟨-, q0, q1, q2⟩, -, q3, q4, q5⟩ := hS; simp [execOp, go_sem, *]) hHeld ?_
      simp only [List.setIfInBounds_toArray, List.set_cons_zero, List.set_cons_succ]
      refine takeY (i := 5) (v := .int .i64 k) 22 rfl rfl (by kernel_rfl) (by kernel_rfl) (by kernel_rfl) (fun _ _ _ _ h => h) (by rfl) (fun w hS => by obtain ⟨⟨-, q0, q1, q2⟩, -, q3, q4, q5⟩ := hS; simp [execOp, go_sem, *]) hHeld ?_
      simp only [List.setIfInBounds_toArray, List.set_cons_zero, List.set_cons_succ]
      refine takeY (i := 6) (v := .pointer (some ⟨b2, o2 + k * 3, none⟩)) 23 rfl rfl (by kernel_rfl) (by kernel_rfl) (by kernel_rfl) (fun _ _ _ _ h => h) (by rfl) (fun w hS => by obtain ⟨⟨-, q0, q1, q2⟩, -, q3, q4, q5⟩ := hS; simp [execOp, go_sem, *]) hHeld ?_
      simp only [List.setIfInBounds_toArray, List.set_cons_zero, List.set_cons_succ]
      refine takeY (i := 7) (v := .agg #[.int .i64 u.k, .int .i64 u.n, .string u.s]) 24 rfl rfl (by kernel_rfl) (by kernel_rfl) (by kernel_rfl) (fun _ _ _ _ h => h) (by rfl) (fun w hS => by obtain ⟨⟨-, q0, q1, q2⟩, -, q3, q4, q5⟩ := hS; simp [execOp, go_sem, *]) hHeld ?_
      simp only [List.setIfInBounds_toArray, List.set_cons_zero, List.set_cons_succ]
      refine callY (i := 8) (f := 8) (args := #[.agg #[.int .i64 u.k, .int .i64 u.n, .string u.s], .agg #[.int .i64 u.k, .int .i64 u.n, .string u.s]]) (R := fun v wz => v = .bool true ∧ Below wr.heap.size wr wz) 25 rfl rfl (by rfl) (by kernel_rfl) ?hrun1 ((eqValue_refl u.k u.n u.s _).mono fun e w6 ⟨he, hb⟩ => ⟨_, he, rfl, below_of_drew hb⟩) ?_
      case hrun1 => simp [execOp, go_sem]
      rintro v w6 ⟨rfl, hb6⟩
      have S6 : Cel w6 b1 (o1 + k * 3) u ∧ Cel w6 b2 (o2 + k * 3) u := ⟨(unhide HC1).mono hb6, (unhide HC2).mono hb6⟩
      have HB6 := hide ((unhide HB).trans (hb6.mono (unhide HB).size))
      refine ⟨S6, ?_⟩
      simp only [List.setIfInBounds_toArray, List.set_cons_zero, List.set_cons_succ]
      replace hHeld := S6
      refine takeY (i := 9) (v := .bool false) 26 rfl rfl (by kernel_rfl) (by kernel_rfl) (by kernel_rfl) (fun _ _ _ _ h => h) (by rfl) (fun w hS => by simp [execOp, go_sem]) hHeld ?_
      simp only [List.setIfInBounds_toArray, List.set_cons_zero, List.set_cons_succ]
      refine wpAnyH_done (by kernel_rfl) ?_ _
      clear hHeld S6 hb6
      go_wp2
      go_roundw
      case rel => exact ⟨k + 1, by omega, by go_num, unhide HB6⟩
      case measure => simp [intOf]; omega
    · obtain rfl : n = k := by omega
      clear hB
      go_wp2
      go_ret
      exact ⟨rfl, unhide HB⟩

set_option maxRecDepth 100000 in
set_option maxHeartbeats 4000000 in
theorem lawApply_any (op : Int) (a : Option Addr) (m c : Nat) (f : Nat → Vx) (w : World) (hm : m ≤ 9223372036854775807) (hv : Vals w a m f) (hs : ∀ i, i < m → (f i).s.size ≤ 9223372036854775807) (hr : ∀ i, i < m → -9223372036854775808 ≤ (f i).n ∧ (f i).n ≤ 9223372036854775807) (hg : Glob w) :
    Calls Tryz.prog 3 #[.int .i64 op, .slice a m c] w fun e w' => e = .returned (.bool true) ∧ Below w.heap.size w w' := by
  have HV := hide hv; have HS := hide hs; have HR := hide hr; have HG := hide hg
  clear hv hs hr hg
  go_enter Tryz.func3, Tryz.ntmps3
  go_wp2_with fail
  refine (szValueS_any a m c f w hm (unhide HS) (unhide HV)).mono ?_
  rintro e w1 ⟨r, rfl, hr, hb⟩
  have HB := hide hb; replace HV := hide ((unhide HV).mono hb); replace HG := hide ((unhide HG).mono hb)
  clear hb
  by_cases h0 : 0 ≤ r
  · obtain ⟨hm9, -⟩ := hr h0
    have h0' : ¬ r < 0 := by omega
    clear hr
    go_wp2_with fail
    refine (toValueS_any a f m c w1 (unhide HV) hm9).mono ?_
    rintro e w2 ⟨rfl, hv1, hb⟩
    have HV1 := hide hv1
    replace HB := hide ((unhide HB).trans (hb.mono (unhide HB).size)); replace HV := hide ((unhide HV).mono hb); replace HG := hide ((unhide HG).mono hb)
    clear hb hv1
    go_wp2_with fail
    refine (specApply_any op _ m m f w2 hm (unhide HV1) (unhide HS) (unhide HR)).mono ?_
    obtain ⟨u, hu⟩ : ∃ u, apX op m f = u := ⟨_, rfl⟩
    rw [hu]
    have HU := hide hu
    clear hu
    rintro e w3 ⟨rfl, hb⟩
    unfold vv
    replace HB := hide ((unhide HB).trans (hb.mono (unhide HB).size)); replace HV := hide ((unhide HV).mono hb); replace HG := hide ((unhide HG).mono hb)
    clear hb HV1
    have HM := hide (Blk.new w3 25 #[.int .i64 u.k, .int .i64 u.n, .string u.s])
    obtain ⟨W3, hW3⟩ : ∃ W3, w3.alloc (.cells #[.int .i64 u.k, .int .i64 u.n, .string u.s] 25) = W3 := ⟨_, rfl⟩
    have hb : Below w3.heap.size w3 W3 := by rw [← hW3]; exact (Below.refl _ _).alloc (Nat.le_refl _) _
    rw [hW3] at HM
    replace HB := hide ((unhide HB).trans (hb.mono (unhide HB).size)); replace HV := hide ((unhide HV).mono hb); replace HG := hide ((unhide HG).mono hb)
    clear hb
    have HW3 := hide hW3
    clear hW3
    go_wp2_with fail
    rw [unhide HW3]
    refine (toValueS_any a f m c W3 (unhide HV) hm9).mono ?_
    rintro e w4 ⟨rfl, hv1, hb⟩
    obtain ⟨X, hX⟩ : ∃ X, W3.heap.size = X := ⟨_, rfl⟩
    rw [hX] at hv1 ⊢
    clear hX
    have HV1 := hide hv1
    replace HB := hide ((unhide HB).trans (hb.mono (unhide HB).size)); replace HV := hide ((unhide HV).mono hb); replace HG := hide ((unhide HG).mono hb); replace HM := hide ((unhide HM).mono hb (unhide HM).lt)
    clear hb hv1 HW3
    go_wp2_with fail
    refine (implApply_any op _ m m f w4 hm9 (unhide HV1) (unhide HS) (unhide HR) (unhide HG)).mono ?_
    rw [unhide HU]
    rintro e w5 ⟨rfl, hb⟩
    unfold vv
    replace HB := hide ((unhide HB).trans (hb.mono (unhide HB).size)); replace HV := hide ((unhide HV).mono hb); replace HM := hide ((unhide HM).mono hb (unhide HM).lt); replace HV1 := hide ((unhide HV1).mono hb)
    clear hb
    have HN := hide (Blk.new w5 25 #[.int .i64 u.k, .int .i64 u.n, .string u.s])
    have hb : Below w5.heap.size w5 (w5.alloc (.cells #[.int .i64 u.k, .int .i64 u.n, .string u.s] 25)) := (Below.refl _ _).alloc (Nat.le_refl _) _
    replace HB := hide ((unhide HB).trans (hb.mono (unhide HB).size)); replace HV := hide ((unhide HV).mono hb); replace HM := hide ((unhide HM).mono hb (unhide HM).lt); replace HV1 := hide ((unhide HV1).mono hb)
    clear hb
    obtain ⟨m0, m1, m2⟩ := three (unhide HM)
    obtain ⟨l0, l1, l2⟩ := three (unhide HN)
    go_wp2_with fail
    refine (eqValue_refl u.k u.n u.s _).mono ?_
    rintro e w6 ⟨rfl, hb⟩
    replace HB := hide ((unhide HB).trans (hb.mono (unhide HB).size)); replace HV := hide ((unhide HV).mono hb); replace HV1 := hide ((unhide HV1).mono hb)
    clear hb m0 m1 m2 l0 l1 l2
    go_wp2_with fail
    refine (toValueS_any a f m c w6 (unhide HV) hm9).mono ?_
    rintro e w7 ⟨rfl, hv2, hb⟩
    have HV2 := hide hv2
    replace HB := hide ((unhide HB).trans (hb.mono (unhide HB).size)); replace HV1 := hide ((unhide HV1).mono hb)
    clear hb hv2
    go_wp2_with fail
    refine (eqValueS_true _ _ f m m m w7 hm9 (unhide HV1) (unhide HV2)).mono ?_
    rintro e w8 ⟨rfl, hb⟩
    replace HB := hide ((unhide HB).trans (hb.mono (unhide HB).size))
    clear hb
    go_wp2
    go_ret
    exact ⟨rfl, unhide HB⟩
  · have h0' : r < 0 := by omega
    go_wp2
    go_ret
    exact ⟨rfl, unhide HB⟩
end Go.Proofs.YtnmpkdmflijhpaaGreatDoor
