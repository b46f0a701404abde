import Derived.Test.YtjgngbmkpiihgaaGreatDoorGOw
/- The model's drawing of numbers from bytes. -/
namespace Go.Proofs.YtjgngbmkpiihgaaGreatDoor
open Go Go.RowKit

/-- A slice of bytes. -/
def Byts (w : World) (a : Option Addr) (n : Nat) (f : Nat → Nat) : Prop :=
  ∀ k, k < n → f k < 256 ∧ ∃ b off, a = some ⟨b, off, none⟩ ∧ b < w.heap.size ∧ w.cell? ⟨b, off + k, none⟩ = some (.int .u8 (f k))
theorem Byts.mono {w w' : World} {a : Option Addr} {n : Nat} {f : Nat → Nat} (h : Byts w a n f) (hb : Below w.heap.size w w') : Byts w' a n f := fun k hk => by
  obtain ⟨h0, b, off, rfl, hl, hc⟩ := h k hk
  exact ⟨h0, b, off, rfl, Nat.lt_of_lt_of_le hl hb.size, (hb.cell (p := ⟨b, off + k, none⟩) hl).trans hc⟩

theorem i64_nat (n : Nat) (h : n < 4294967296) : IntKind.i64.wrap (n : Int) = (n : Int) := by
  simp [IntKind.wrap, IntKind.bits, IntKind.signed]
  omega
theorem i64_xor (s t : Nat) (hs : s < 2 ^ 32) (ht : t < 2 ^ 32) : bits .xor .i64 (s : Int) (t : Int) = ((s ^^^ t : Nat) : Int) := by
  have h1 : s % 2 ^ 64 = s := Nat.mod_eq_of_lt (by omega)
  have h2 : t % 2 ^ 64 = t := Nat.mod_eq_of_lt (by omega)
  have h3 : s ^^^ t < 2 ^ 32 := Nat.xor_lt_two_pow hs ht
  show IntKind.i64.wrap ((BitVec.ofInt 64 (s : Int) ^^^ BitVec.ofInt 64 (t : Int)).toNat : Int) = _
  rw [BitVec.toNat_xor, BitVec.ofInt_natCast, BitVec.ofInt_natCast, BitVec.toNat_ofNat, BitVec.toNat_ofNat, h1, h2]
  exact i64_nat _ (by omega)

/-- The number that l1Take gives. -/
def tkD (len : Nat) (f : Nat → Nat) (p n : Nat) : Nat :=
  if len = 0 then 0 else if p < len then f p % n else
    ((f (p % len) * 131 + f ((p * 7 + 3) % len) * 17 + p * 29 + p / len * 53) ^^^ ((f (p % len) * 131 + f ((p * 7 + 3) % len) * 17 + p * 29 + p / len * 53) / 64)) % 9973 % n

set_option maxRecDepth 100000 in
set_option maxHeartbeats 1000000 in
theorem l1Take_any (len : Nat) (f : Nat → Nat) (p n : Nat) (hlen : len ≤ 1048576) (hp : p ≤ 1048576) (hn : 1 ≤ n) (hn2 : n ≤ 1048576) : ∃ v : Nat, v = tkD len f p n ∧ v < n ∧ ∀ (w : World) (a : Option Addr) (c : Nat), Byts w a len f →
    Calls Tryz.prog 16 #[.slice a len c, .int .i64 p, .int .i64 n] w fun e w' => e = .returned (.tuple #[.int .i64 v, .int .i64 ((p + 1 : Nat) : Int)]) ∧ w' = w := by
  have hn1 : ¬ (n : Int) < 1 := by omega
  by_cases h0 : len = 0
  · subst h0
    refine ⟨0, by rw [tkD, if_pos rfl], by omega, fun w a c _ => ?_⟩
    go_enter Tryz.func16, Tryz.ntmps16
    go_wp2
    exact bodyPost_ret (v := .tuple #[.int .i64 0, .int .i64 ((p : Int) + 1)]) (by simp [results, Tryz.results16, go_sem, *]) rfl ⟨by simp, rfl⟩
  by_cases h1 : p < len
  · refine ⟨f p % n, by rw [tkD, if_neg h0, if_pos h1], Nat.mod_lt _ (by omega), fun w a c hb => ?_⟩
    obtain ⟨q, b, off, rfl, hl, hc⟩ := hb p h1
    clear hb
    go_enter Tryz.func16, Tryz.ntmps16
    go_wp2
    exact bodyPost_ret (v := .tuple #[.int .i64 ((f p : Int) % n), .int .i64 ((p : Int) + 1)]) (by simp [results, Tryz.results16, go_sem, *]) rfl ⟨by simp, rfl⟩
  · have m1 : p % len < len := Nat.mod_lt _ (by omega)
    have m2 : (p * 7 + 3) % len < len := Nat.mod_lt _ (by omega)
    obtain ⟨I, hI⟩ : ∃ I, p % len = I := ⟨_, rfl⟩
    obtain ⟨K, hK⟩ : ∃ K, (p * 7 + 3) % len = K := ⟨_, rfl⟩
    rw [hI] at m1; rw [hK] at m2
    have hI' : (p : Int) % len = I := by rw [← hI]; rfl
    have hK' : ((p : Int) * 7 + 3) % len = K := by rw [← hK]; simp
    obtain ⟨A, hA⟩ : ∃ A, f I = A := ⟨_, rfl⟩
    obtain ⟨B, hB⟩ : ∃ B, f K = B := ⟨_, rfl⟩
    obtain ⟨D, hD⟩ : ∃ D, p / len = D := ⟨_, rfl⟩
    obtain ⟨X, hX⟩ : ∃ X, A * 131 + B * 17 + p * 29 + D * 53 = X := ⟨_, rfl⟩
    obtain ⟨Y, hY⟩ : ∃ Y, X ^^^ (X / 64) = Y := ⟨_, rfl⟩
    refine ⟨Y % 9973 % n, by rw [tkD, if_neg h0, if_neg h1, hI, hK, hA, hB, hD, hX, hY], Nat.mod_lt _ (by omega), fun w a c hb => ?_⟩
    obtain ⟨q1, b, off, rfl, hl, hc1⟩ := hb _ m1
    obtain ⟨q2, b', off', e, -, hc2⟩ := hb _ m2
    cases e
    clear hb
    rw [hA] at q1 hc1; rw [hB] at q2 hc2
    have hD' : D ≤ 1048576 := by rw [← hD]; exact Nat.le_trans (Nat.div_le_self _ _) hp
    have hX' : X < 2 ^ 32 := by omega
    have hY' : Y < 2 ^ 32 := by rw [← hY]; exact Nat.xor_lt_two_pow hX' (Nat.lt_of_le_of_lt (Nat.div_le_self _ _) hX')
    have hD2 : (p : Int) / len = D := by rw [← hD]; rfl
    have hX2 : (A : Int) * 131 + B * 17 + p * 29 + D * 53 = X := by omega
    have hX3 : bits .xor .i64 (X : Int) ((X : Int) / 64) = Y := by
      rw [← hY, show (X : Int) / 64 = ((X / 64 : Nat) : Int) from rfl]
      exact i64_xor _ _ hX' (Nat.lt_of_le_of_lt (Nat.div_le_self _ _) hX')
    have hX4 : ((Y : Int).tmod 9973).tmod n = (Y % 9973 % n : Nat) := rfl
    clear hI hK hA hB hX hD hY
    go_enter Tryz.func16, Tryz.ntmps16
    go_wp2
    exact bodyPost_ret (v := .tuple #[.int .i64 ((Y : Int) % 9973 % n), .int .i64 ((p : Int) + 1)]) (by simp [results, Tryz.results16, go_sem, *]) rfl ⟨by simp, rfl⟩
end Go.Proofs.YtjgngbmkpiihgaaGreatDoor

/- The number that l1Take gives, by name. -/
namespace Go.Proofs.YtjgngbmkpiihgaaGreatDoor
open Go Go.RowKit

theorem tk_spec {len : Nat} {f : Nat → Nat} {p n : Nat} (h1 : len ≤ 1048576) (h2 : p ≤ 1048576) (h3 : 1 ≤ n) (h4 : n ≤ 1048576) : tkD len f p n < n ∧ ∀ (w : World) (a : Option Addr) (c : Nat), Byts w a len f →
    Calls Tryz.prog 16 #[.slice a len c, .int .i64 p, .int .i64 n] w fun e w' => e = .returned (.tuple #[.int .i64 (tkD len f p n), .int .i64 ((p + 1 : Nat) : Int)]) ∧ w' = w := by
  obtain ⟨v, e, h⟩ := l1Take_any len f p n h1 h2 h3 h4
  subst e
  exact h

theorem tk_call {len : Nat} {f : Nat → Nat} {p n : Nat} (h1 : len ≤ 1048576) (h2 : p ≤ 1048576) (h3 : 1 ≤ n) (h4 : n ≤ 1048576) {w : World} {a : Option Addr} (c : Nat) (hB : Byts w a len f) {P M : Int} (hP : P = p) (hM : M = n) :
    Calls Tryz.prog 16 #[.slice a len c, .int .i64 P, .int .i64 M] w fun e w' => e = .returned (.tuple #[.int .i64 (tkD len f p n), .int .i64 (P + 1)]) ∧ w' = w := by
  subst hP hM
  exact ((tk_spec (f := f) h1 h2 h3 h4).2 w a c hB).mono fun e w' ⟨h, h'⟩ => ⟨by rw [h]; rfl, h'⟩
theorem tk_lt {len : Nat} {f : Nat → Nat} {p n : Nat} (h1 : len ≤ 1048576) (h2 : p ≤ 1048576) (h3 : 1 ≤ n) (h4 : n ≤ 1048576) : tkD len f p n < n := (tk_spec (f := f) h1 h2 h3 h4).1

theorem l1Size_any (len per lo hi : Nat) (a : Option Addr) (c : Nat) (w : World) (h1 : len ≤ 1048576) (hp : 1 ≤ per) (hp2 : per ≤ 1000) (hl : lo ≤ 1000) (hh : hi ≤ 1000) :
    Calls Tryz.prog 26 #[.slice a len c, .int .i64 per, .int .i64 lo, .int .i64 hi] w fun e w' => e = .returned (.int .i64 (min (lo + len / per) hi : Nat)) ∧ w' = w := by
  obtain ⟨d, hd⟩ : ∃ d, len / per = d := ⟨_, rfl⟩
  have hd2 : d ≤ 1048576 := by rw [← hd]; exact Nat.le_trans (Nat.div_le_self _ _) h1
  have hd3 : (len : Int) / per = d := by rw [← hd]; rfl
  have hd4 : (len : Int).tdiv per = d := by rw [← hd]; rfl
  have hp0 : ¬ (per : Int) = 0 := by omega
  rw [hd]
  clear hd
  by_cases h : hi < lo + d
  · have h' : (hi : Int) < lo + d := by omega
    rw [Nat.min_eq_right (by omega)]
    go_enter Tryz.func26, Tryz.ntmps26
    go_wp2
    all_goals first | omega | (go_ret; exact ⟨rfl, rfl⟩)
  · have h' : ¬ (hi : Int) < lo + d := by omega
    rw [Nat.min_eq_left (by omega)]
    go_enter Tryz.func26, Tryz.ntmps26
    go_wp2
    all_goals first | omega | (go_ret; exact ⟨by simp, rfl⟩)
end Go.Proofs.YtjgngbmkpiihgaaGreatDoor

/- The model's drawing of expressions: words, numbers, long texts. -/
namespace Go.Proofs.YtjgngbmkpiihgaaGreatDoor
open Go Go.RowKit

set_option maxRecDepth 100000 in
set_option maxHeartbeats 1000000 in
theorem l2Word_any (i : Int) : ∃ s : ByteArray, s.size ≤ 64 ∧ ∀ w : World, Calls Tryz.prog 77 #[.int .i64 i] w fun e w' => e = .returned (.string s) ∧ w' = w := by
  rcases (show i = 0 ∨ i = 1 ∨ i = 2 ∨ i = 3 ∨ i = 4 ∨ i = 5 ∨ i = 6 ∨ i = 7 ∨ i = 8 ∨ i = 9 ∨ i = 10 ∨ (¬ i = 0 ∧ ¬ i = 1 ∧ ¬ i = 2 ∧ ¬ i = 3 ∧ ¬ i = 4 ∧ ¬ i = 5 ∧ ¬ i = 6 ∧ ¬ i = 7 ∧ ¬ i = 8 ∧ ¬ i = 9 ∧ ¬ i = 10) by omega) with rfl | rfl | rfl | rfl | rfl | rfl | rfl | rfl | rfl | rfl | rfl | ⟨n0, n1, n2, n3, n4, n5, n6, n7, n8, n9, n10⟩
  · refine ⟨⟨#[]⟩, by decide, fun w => ?_⟩
    go_enter Tryz.func77, Tryz.ntmps77
    go_wp2
    go_ret
    exact ⟨rfl, rfl⟩
  · refine ⟨⟨#[97]⟩, by decide, fun w => ?_⟩
    go_enter Tryz.func77, Tryz.ntmps77
    go_wp2
    go_ret
    exact ⟨rfl, rfl⟩
  · refine ⟨⟨#[97, 98]⟩, by decide, fun w => ?_⟩
    go_enter Tryz.func77, Tryz.ntmps77
    go_wp2
    go_ret
    exact ⟨rfl, rfl⟩
  · refine ⟨⟨#[98, 97]⟩, by decide, fun w => ?_⟩
    go_enter Tryz.func77, Tryz.ntmps77
    go_wp2
    go_ret
    exact ⟨rfl, rfl⟩
  · refine ⟨⟨#[49, 50]⟩, by decide, fun w => ?_⟩
    go_enter Tryz.func77, Tryz.ntmps77
    go_wp2
    go_ret
    exact ⟨rfl, rfl⟩
  · refine ⟨⟨#[45, 55]⟩, by decide, fun w => ?_⟩
    go_enter Tryz.func77, Tryz.ntmps77
    go_wp2
    go_ret
    exact ⟨rfl, rfl⟩
  · refine ⟨⟨#[48, 48, 55]⟩, by decide, fun w => ?_⟩
    go_enter Tryz.func77, Tryz.ntmps77
    go_wp2
    go_ret
    exact ⟨rfl, rfl⟩
  · refine ⟨⟨#[104, 101, 108, 108, 111, 32, 119, 111, 114, 108, 100]⟩, by decide, fun w => ?_⟩
    go_enter Tryz.func77, Tryz.ntmps77
    go_wp2
    go_ret
    exact ⟨rfl, rfl⟩
  · refine ⟨⟨#[57, 50, 50, 51, 51, 55, 50, 48, 51, 54, 56, 53, 52, 55, 55, 53, 56, 48, 56]⟩, by decide, fun w => ?_⟩
    go_enter Tryz.func77, Tryz.ntmps77
    go_wp2
    go_ret
    exact ⟨rfl, rfl⟩
  · refine ⟨⟨#[120, 59, 121, 40, 92, 41]⟩, by decide, fun w => ?_⟩
    go_enter Tryz.func77, Tryz.ntmps77
    go_wp2
    go_ret
    exact ⟨rfl, rfl⟩
  · refine ⟨⟨#[45, 57, 50, 50, 51, 51, 55, 50, 48, 51, 54, 56, 53, 52, 55, 55, 53, 56, 48, 56]⟩, by decide, fun w => ?_⟩
    go_enter Tryz.func77, Tryz.ntmps77
    go_wp2
    go_ret
    exact ⟨rfl, rfl⟩
  · refine ⟨⟨#[98]⟩, by decide, fun w => ?_⟩
    go_enter Tryz.func77, Tryz.ntmps77
    go_wp2
    go_ret
    exact ⟨rfl, rfl⟩

set_option maxRecDepth 100000 in
set_option maxHeartbeats 1000000 in
theorem l2Number_any (i : Int) : ∃ v : Int, (-9223372036854775808 ≤ v ∧ v ≤ 9223372036854775807) ∧ ∀ w : World, Calls Tryz.prog 76 #[.int .i64 i] w fun e w' => e = .returned (.int .i64 v) ∧ w' = w := by
  rcases (show i = 0 ∨ i = 1 ∨ i = 2 ∨ i = 3 ∨ i = 4 ∨ i = 5 ∨ i = 6 ∨ i = 7 ∨ i = 8 ∨ i = 9 ∨ i = 10 ∨ i = 11 ∨ i = 12 ∨ (¬ i = 0 ∧ ¬ i = 1 ∧ ¬ i = 2 ∧ ¬ i = 3 ∧ ¬ i = 4 ∧ ¬ i = 5 ∧ ¬ i = 6 ∧ ¬ i = 7 ∧ ¬ i = 8 ∧ ¬ i = 9 ∧ ¬ i = 10 ∧ ¬ i = 11 ∧ ¬ i = 12) by omega) with rfl | rfl | rfl | rfl | rfl | rfl | rfl | rfl | rfl | rfl | rfl | rfl | rfl | ⟨n0, n1, n2, n3, n4, n5, n6, n7, n8, n9, n10, n11, n12⟩
  · refine ⟨0, by decide, fun w => ?_⟩
    go_enter Tryz.func76, Tryz.ntmps76
    go_wp2
    go_ret
    exact ⟨rfl, rfl⟩
  · refine ⟨1, by decide, fun w => ?_⟩
    go_enter Tryz.func76, Tryz.ntmps76
    go_wp2
    go_ret
    exact ⟨rfl, rfl⟩
  · refine ⟨-1, by decide, fun w => ?_⟩
    go_enter Tryz.func76, Tryz.ntmps76
    go_wp2
    go_ret
    exact ⟨rfl, rfl⟩
  · refine ⟨9223372036854775807, by decide, fun w => ?_⟩
    go_enter Tryz.func76, Tryz.ntmps76
    go_wp2
    go_ret
    exact ⟨rfl, rfl⟩
  · refine ⟨-9223372036854775808, by decide, fun w => ?_⟩
    go_enter Tryz.func76, Tryz.ntmps76
    go_wp2
    go_ret
    exact ⟨rfl, rfl⟩
  · refine ⟨3037000500, by decide, fun w => ?_⟩
    go_enter Tryz.func76, Tryz.ntmps76
    go_wp2
    go_ret
    exact ⟨rfl, rfl⟩
  · refine ⟨-3037000500, by decide, fun w => ?_⟩
    go_enter Tryz.func76, Tryz.ntmps76
    go_wp2
    go_ret
    exact ⟨rfl, rfl⟩
  · refine ⟨4611686018427387904, by decide, fun w => ?_⟩
    go_enter Tryz.func76, Tryz.ntmps76
    go_wp2
    go_ret
    exact ⟨rfl, rfl⟩
  · refine ⟨7, by decide, fun w => ?_⟩
    go_enter Tryz.func76, Tryz.ntmps76
    go_wp2
    go_ret
    exact ⟨rfl, rfl⟩
  · refine ⟨-2, by decide, fun w => ?_⟩
    go_enter Tryz.func76, Tryz.ntmps76
    go_wp2
    go_ret
    exact ⟨rfl, rfl⟩
  · refine ⟨10, by decide, fun w => ?_⟩
    go_enter Tryz.func76, Tryz.ntmps76
    go_wp2
    go_ret
    exact ⟨rfl, rfl⟩
  · refine ⟨100, by decide, fun w => ?_⟩
    go_enter Tryz.func76, Tryz.ntmps76
    go_wp2
    go_ret
    exact ⟨rfl, rfl⟩
  · refine ⟨4294967296, by decide, fun w => ?_⟩
    go_enter Tryz.func76, Tryz.ntmps76
    go_wp2
    go_ret
    exact ⟨rfl, rfl⟩
  · refine ⟨3, by decide, fun w => ?_⟩
    go_enter Tryz.func76, Tryz.ntmps76
    go_wp2
    go_ret
    exact ⟨rfl, rfl⟩

/-- A text of a's, twice as long at every step; then of b's besides. -/
def rp : Nat → ByteArray
  | 0 => ⟨#[97]⟩
  | j + 1 => rp j ++ rp j
def rq (s : ByteArray) : Nat → ByteArray
  | 0 => s
  | k + 1 => rq s k ++ ⟨#[98]⟩
theorem rp_size (j : Nat) : (rp j).size = 2 ^ j := by
  induction j with
  | zero => rfl
  | succ j ih => rw [rp, ByteArray.size_append, ih]; omega
theorem rq_size (s : ByteArray) (k : Nat) : (rq s k).size = s.size + k := by
  induction k with
  | zero => rfl
  | succ k ih => rw [rq, ByteArray.size_append, ih, Nat.add_assoc]; rfl

def szV : Value → Nat
  | .string s => s.size
  | _ => 0
set_option maxRecDepth 100000 in
set_option maxHeartbeats 4000000 in
theorem l2Repeat_any (n : Nat) (h1 : 512 ≤ n) (h2 : n ≤ 1000) : ∃ s : ByteArray, s.size ≤ 1000 ∧ ∀ w : World, Calls Tryz.prog 23 #[.int .i64 n] w fun e w' => e = .returned (.string s) ∧ w' = w := by
  refine ⟨rq (rp 9) (n - 512), by rw [rq_size, rp_size]; omega, fun w => ?_⟩
  have hn0 : (0 : Int) < n := by omega
  go_enter Tryz.func23, Tryz.ntmps23
  go_wp2_with fail
  go_loopw [3] (fun v wr => wr = w ∧ (v = .string ⟨#[]⟩ ∨ ∃ j, j ≤ 9 ∧ v = .string (rp j))) (fun v _ => 2000 - szV v)
  case atStart => exact ⟨rfl, .inl rfl⟩
  case round =>
    obtain ⟨rfl, rfl | ⟨j, hj, rfl⟩⟩ := hrel
    · go_wp2_with fail
      go_roundw
      case rel => exact ⟨trivial, .inr ⟨0, by omega, rfl⟩⟩
      case measure => decide
    · have hz := rp_size j
      by_cases hlt : j < 9
      · have HE : Hid (rp (j + 1) = rp j ++ rp j) := hide rfl
        have HZ : Hid ((rp (j + 1)).size = 2 * (rp j).size) := hide (by rw [rp_size, rp_size]; omega)
        have hp : (2 : Nat) ^ j ≤ 2 ^ 8 := Nat.pow_le_pow_right (by omega) (by omega)
        have hp0 : 0 < (2 : Nat) ^ j := Nat.pow_pos (by omega)
        have HL : Hid (0 < (rp j).size ∧ (rp j).size ≤ 256) := hide (by omega)
        clear hz hp hp0
        generalize rp j = t at *
        have m1 : (t.size : Int) * 2 ≤ n := by have := unhide HL; omega
        have m2 : (0 : Int) < t.size := by have := unhide HL; omega
        have m3 : ¬ (t.size : Int) = 0 := by omega
        have m4 : ¬ t.size = 0 := by omega
        have m5 : t.size ≤ 256 := (unhide HL).2
        go_wp2_with fail
        go_roundw
        case rel => exact ⟨trivial, .inr ⟨j + 1, by omega, by rw [unhide HE]⟩⟩
        case measure => rw [← unhide HE]; simp only [szV]; have := unhide HZ; omega
      · obtain rfl : j = 9 := by omega
        have m0 : (rp 9).size = 512 := hz
        have HT : Hid (∀ k, (rq (rp 9) k).size = 512 + k) := hide fun k => by rw [rq_size, m0]
        have HQ : Hid (rq (rp 9) 0 = rp 9) := hide rfl
        have HS : Hid (∀ k, rq (rp 9) (k + 1) = rq (rp 9) k ++ ⟨#[98]⟩) := hide fun _ => rfl
        clear hz
        generalize hT : rp 9 = t at *
        have HG := hide hT
        clear hT
        have m1 : ¬ (t.size : Int) * 2 ≤ n := by omega
        have m3 : ¬ (t.size : Int) = 0 := by omega
        have m4 : ¬ t.size = 0 := by omega
        go_wp2_with fail
        go_loopw [3] (fun v wz => wz = wr ∧ ∃ k, k ≤ n - 512 ∧ v = .string (rq t k)) (fun v _ => 2000 - szV v)
        case atStart => exact ⟨rfl, 0, Nat.zero_le _, by rw [unhide HQ]⟩
        case round =>
          obtain ⟨rfl, k, hk, rfl⟩ := hrel
          have z1 := unhide HT k
          have HZ := unhide HT (k + 1)
          have HE := hide (unhide HS k)
          by_cases hk2 : k < n - 512
          · obtain ⟨u, hu⟩ : ∃ u, rq t k = u := ⟨_, rfl⟩
            rw [hu] at z1 HE ⊢
            have q1 : (u.size : Int) < n := by omega
            have q2 : u.size ≤ 1000 := by omega
            rw [unhide HE] at HZ
            have HZ' := hide HZ
            clear HZ hu
            go_wp2_with fail
            go_roundw
            case rel => exact ⟨trivial, k + 1, by omega, by rw [unhide HE]⟩
            case measure => simp only [szV]; have := unhide HZ'; omega
          · obtain rfl : k = n - 512 := by omega
            have q1 : ¬ ((rq t (n - 512)).size : Int) < n := by omega
            clear HE HZ
            go_wp2_with fail
            go_ret
            exact ⟨by rw [unhide HG]; rfl, rfl⟩
end Go.Proofs.YtjgngbmkpiihgaaGreatDoor
