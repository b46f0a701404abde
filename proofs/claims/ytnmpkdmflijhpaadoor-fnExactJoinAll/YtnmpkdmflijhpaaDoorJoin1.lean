/- The least label above a list of labels: plain mathematics. -/
import Derived.Test.YtnmpkdmflijhpaaDoorSpec2
namespace Go.Proofs.YtnmpkdmflijhpaaDoor
open Go Go.RowKit

def Lub (f : Nat → Bool) (n m : Nat) (x : Nat → Nat) (c : Nat) : Prop :=
  c < n ∧ (∀ i, i < m → f (x i * n + c) = true) ∧ ∀ d, d < n → (∀ i, i < m → f (x i * n + d) = true) → f (c * n + d) = true
/-- What JoinAll answers: -1, or the least label above all of the list. -/
def JoinR (N : Int) (V : Bool) (m : Nat) (f : Nat → Bool) (x : Nat → Int) (r : Int) : Prop :=
  ((V = false ∨ 4096 < m ∨ ∃ i, i < m ∧ (x i < 0 ∨ N ≤ x i)) ∧ r = -1) ∨
    (V = true ∧ m ≤ 4096 ∧ ∃ (n : Nat) (y : Nat → Nat) (c : Nat), N = n ∧ (∀ i, i < m → x i = y i ∧ y i < n) ∧ Lub f n m y c ∧ r = c)

section
variable {N bot top : Int} {n1 n2 n3 n bt tp : Nat} {f : Nat → Bool} {g h : Nat → Int}
theorem ValidP.trans (hv : ValidP N n1 n2 n3 f g h bot top n bt tp) {a b c : Nat} (ha : a < n) (hb : b < n) (hc : c < n) (h1 : f (a * n + b) = true) (h2 : f (b * n + c) = true) : f (a * n + c) = true := ((hv.rows a ha).2.2.2 b hb).2 c hc h1 h2
theorem ValidP.anti (hv : ValidP N n1 n2 n3 f g h bot top n bt tp) {a b : Nat} (ha : a < n) (hb : b < n) (h1 : f (a * n + b) = true) (h2 : f (b * n + a) = true) : a = b := by
  apply Decidable.byContradiction; intro hne
  exact ((hv.rows a ha).2.2.2 b hb).1 ⟨hne, h1, h2⟩
theorem ValidP.lub0 (hv : ValidP N n1 n2 n3 f g h bot top n bt tp) (y : Nat → Nat) : Lub f n 0 y bt :=
  ⟨hv.bb, fun _ hi => absurd hi (Nat.not_lt_zero _), fun d hd _ => (hv.rows d hd).2.1⟩
theorem ValidP.lub_succ (hv : ValidP N n1 n2 n3 f g h bot top n bt tp) {y : Nat → Nat} {k c : Nat} (hl : Lub f n k y c) (hy : ∀ i, i < k + 1 → y i < n) : ∃ j : Nat, g (c * n + y k) = j ∧ Lub f n (k + 1) y j := by
  obtain ⟨j, m, e1, -, hj, -, ⟨j1, j2, j3⟩, -⟩ := hv.ents c hl.1 (y k) (hy k (Nat.lt_succ_self _))
  refine ⟨j, e1, hj, fun i hi => ?_, fun d hd hall => j3 d hd (hl.2.2 d hd fun i hi => hall i (by omega)) (hall k (Nat.lt_succ_self _))⟩
  by_cases e : i = k
  · rw [e]; exact j2
  · exact hv.trans (hy i hi) hl.1 hj (hl.2.1 i (by omega)) j1
theorem ValidP.lub_one (hv : ValidP N n1 n2 n3 f g h bot top n bt tp) {y : Nat → Nat} {m c d : Nat} (h1 : Lub f n m y c) (h2 : Lub f n m y d) : c = d :=
  hv.anti h1.1 h2.1 (h1.2.2 d h2.1 h2.2.1) (h2.2.2 c h1.1 h1.2.1)
theorem ValidP.lub_is (hv : ValidP N n1 n2 n3 f g h bot top n bt tp) {y : Nat → Nat} {m : Nat} (hy : ∀ i, i < m → y i < n) : ∃ c, Lub f n m y c := by
  induction m with
  | zero => exact ⟨bt, hv.lub0 y⟩
  | succ m ih =>
    obtain ⟨c, hc⟩ := ih fun i hi => hy i (by omega)
    obtain ⟨j, -, hj⟩ := hv.lub_succ hc hy
    exact ⟨j, hj⟩
end

theorem Lub.congr {f : Nat → Bool} {n m c : Nat} {x y : Nat → Nat} (h : Lub f n m x c) (e : ∀ i, i < m → x i = y i) : Lub f n m y c :=
  ⟨h.1, fun i hi => by rw [← e i hi]; exact h.2.1 i hi, fun d hd hall => h.2.2 d hd fun i hi => by rw [e i hi]; exact hall i hi⟩

theorem joinR_one {N bot top : Int} {n1 n2 n3 m : Nat} {f : Nat → Bool} {g h : Nat → Int} {V : Bool} {x : Nat → Int} {r s : Int} (hV : V = true ↔ Valid N n1 n2 n3 f g h bot top) (h1 : JoinR N V m f x r) (h2 : JoinR N V m f x s) : r = s := by
  rcases h1 with ⟨b1, rfl⟩ | ⟨v1, m1, n, y, c, rfl, e1, l1, rfl⟩ <;> rcases h2 with ⟨b2, rfl⟩ | ⟨v2, m2, n', y', c', e, e2, l2, rfl⟩
  · rfl
  · exfalso
    rcases b1 with b | b | ⟨i, hi, b⟩
    · rw [v2] at b; cases b
    · omega
    · have := e2 i hi; omega
  · exfalso
    rcases b2 with b | b | ⟨i, hi, b⟩
    · rw [v1] at b; cases b
    · omega
    · have := e1 i hi; omega
  · obtain rfl : n = n' := by omega
    obtain ⟨n'', bt, tp, hv⟩ := hV.1 v1
    obtain rfl : n = n'' := by have := hv.hN; omega
    rw [hv.lub_one l1 (l2.congr fun i hi => by have := e1 i hi; have := e2 i hi; omega)]
end Go.Proofs.YtnmpkdmflijhpaaDoor
