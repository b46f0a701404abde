import Derived.Test.YtalgidagiojbpaaGreatDoorQGRa
import Derived.Test.YtalgidagiojbpaaGreatDoorQBk
import Derived.Test.YtalgidagiojbpaaGreatDoorQOwn
import Derived.Laws.BytesString
import Derived.Test.YtalgidagiojbpaaGreatDoorQGH
import Derived.Test.YtalgidagiojbpaaGreatDoorQGM
import Derived.Test.YtalgidagiojbpaaGreatDoorQGO
namespace Go.Proofs.YtalgidagiojbpaaGreatDoor
open Go Go.RowKit
/-- Nothing has turned outside the blocks from lo up to hi; every block keeps its kind and size. -/
structure MkL (lo hi : Nat) (W W' : World) : Prop where
 out : Out lo hi W W'
 bk : ∀ g t n, Bk W g t n -> Bk W' g t n
theorem MkL.refl (lo hi : Nat) (W : World) : MkL lo hi W W := ⟨Out.refl _ _ _, fun _ _ _ h => h⟩
theorem MkL.trans {lo hi : Nat} {A B C : World} (h : MkL lo hi A B) (k : MkL lo hi B C) : MkL lo hi A C := ⟨h.out.trans k.out, fun g t n hb => k.bk g t n (h.bk g t n hb)⟩
theorem MkL.below {lo hi : Nat} {W W' : World} (h : Below W.heap.size W W') : MkL lo hi W W' := ⟨⟨h.os, h.tape, h.output, h.size, fun b hb _ => h.block b hb⟩, fun _ _ _ hb => hb.mono h hb.lt⟩
theorem MkL.set {lo hi : Nat} {W : World} {g : Nat} (j : Nat) (v : Value) (h1 : lo <= g) (h2 : g < hi) : MkL lo hi W (W.setCell ⟨g, j, none⟩ v) :=
 ⟨Out.set (a := ⟨g, j, none⟩) v h1 h2, fun g' t' n' hb => by
  by_cases e : g' = g
  . subst e; exact hb.set j v
  . exact hb.other e j v⟩
theorem MkL.lower {lo lo' hi : Nat} {W W' : World} (h : MkL lo hi W W') (hl : lo' <= lo) : MkL lo' hi W W' := ⟨h.out.mono hl, h.bk⟩
theorem conv_one (W : World) (c : Int) : (convert 145 9 (.slice (some ⟨W.heap.size, 0, none⟩) 1 1)).run Tryz.prog (W.alloc (.cells #[.int .u8 c] 5)) = .ok (.string (ByteArray.empty.push (UInt8.ofNat c.toNat))) (W.alloc (.cells #[.int .u8 c] 5)) := by
 rw [run_convert_bytes_string _ 145 9 5 _ _ _ Tryz.underlying145 Tryz.underlying5 Tryz.underlying9]
 have h := run_loadCells_list (P := Tryz.prog) (W.alloc (.cells #[.int .u8 c] 5)) ⟨W.heap.size, 0, none⟩ ([c].map (Value.int .u8)) (cell_one W 5 (.int .u8 c))
 exact run_bytesToString (P := Tryz.prog) (W.alloc (.cells #[.int .u8 c] 5)) ⟨W.heap.size, 0, none⟩ 1 1 [c] h
set_option maxRecDepth 100000 in
set_option maxHeartbeats 1000000 in
theorem markText_any (k : Nat) (w : World) (hk : k <= 4611686018427387904) : Calls Tryz.prog 69 #[.int .i64 k] w fun r w' => ∃ s, r = .returned (.string s) /\ Below w.heap.size w w' := by
 by_cases h0 : k = 0
 . subst h0
   go_enter Tryz.func69, Tryz.ntmps69
   go_wp2_with fail
   go_ret
   exact ⟨_, rfl, Below.refl _ _⟩
 . have h0' : ¬ (k : Int) <= 0 := by omega
   have hk' : (k : Int) <= 4611686018427387904 := by omega
   go_enter Tryz.func69, Tryz.ntmps69
   go_wp2_with fail
   go_loopw [0, 3] (fun v s wr => ∃ (q : Nat) (t : ByteArray), v = .int .i64 q /\ s = .string t /\ t.size + q <= 4611686018427387904 /\ Below w.heap.size w wr) (fun v _ _ => (intOf v).toNat)
   case atStart => exact ⟨k, _, rfl, rfl, by show 0 + k <= _; omega, Below.refl _ _⟩
   case round =>
    clear h0 h0' hk' hk
    obtain ⟨q, t, rfl, rfl, hq, hb⟩ := hrel
    have HB := h_ hb
    clear hb
    have hts : t.size <= 4611686018427387904 := by omega
    have hts' : (t.size : Int) <= 4611686018427387904 := by omega
    by_cases h0 : q = 0
    . subst h0
      go_wp2_with fail
      go_ret
      exact ⟨_, rfl, u_ HB⟩
    . have h0' : (0 : Int) < q := by omega
      have hq' : (q : Int) <= 4611686018427387904 := by omega
      obtain ⟨s1, hs1⟩ : ∃ s1, ByteArray.empty.push (UInt8.ofNat (48 + (q : Int) % 10).toNat) = s1 := ⟨_, rfl⟩
      have hz1 : s1.size = 1 := by rw [<- hs1]; rfl
      have hcv := conv_one wr (48 + (q : Int) % 10)
      rw [hs1] at hcv
      clear hs1
      have HB2 := h_ ((u_ HB).alloc (u_ HB).size (.cells #[.int .u8 (48 + (q : Int) % 10)] 5))
      go_wp2_with fail
      clear hcv
      go_roundw
      case rel => exact ⟨q / 10, _, by go_num, rfl, by rw [ByteArray.size_append]; omega, u_ HB2⟩
      case measure => simp [intOf]; omega
set_option maxRecDepth 100000 in
set_option maxHeartbeats 1000000 in
theorem markStringS_bk (g n c k lo hi : Nat) (w : World) (hk : k + n <= 4611686018427387904) (hb : Bk w g 9 n) (hl : lo <= g) (hh : g < hi) :
 Calls Tryz.prog 36 #[.slice (some ⟨g, 0, none⟩) n c, .int .i64 k] w fun r w' => r = .returned (.int .i64 ((k + n : Nat) : Int)) /\ MkL lo hi w w' := by
 have HBk := h_ hb
 clear hb
 go_enter Tryz.func36, Tryz.ntmps36
 go_wp2_with fail
 go_loopw [1, 5] (fun q v wr => ∃ i : Nat, i <= n /\ v = .int .i64 i /\ q = .int .i64 ((k + i : Nat) : Int) /\ MkL lo hi w wr) (fun _ v _ => n - (intOf v).toNat)
 case atStart => exact ⟨0, Nat.zero_le _, rfl, rfl, MkL.refl _ _ _⟩
 case round =>
  obtain ⟨i, hi', rfl, rfl, hm⟩ := hrel
  have HM := h_ hm
  have HBr := h_ (hm.bk _ _ _ (u_ HBk))
  clear hm
  by_cases hlt : i < n
  . have hlt' : (i : Int) < n := by omega
    obtain ⟨q, hq⟩ : ∃ q, k + i = q := ⟨_, rfl⟩
    have hq' : (q : Int) < 4611686018427387904 := by omega
    rw [hq]
    go_wp2_with fail
    refine (markText_any q wr (by omega)).mono ?_
    rintro e W2 ⟨s, rfl, hb2⟩
    have HB2 := h_ ((u_ HBr).mono hb2 (u_ HBr).lt)
    obtain ⟨u, c0⟩ := (u_ HB2).cell hlt
    have f0 := (u_ HB2).free i
    have HM2 := h_ (((u_ HM).trans (MkL.below hb2)).trans (MkL.set i (.string s) hl hh))
    clear hb2
    go_wp2_with fail
    go_roundw
    case rel => first | exact ⟨i + 1, by omega, by go_num, by go_num, u_ HM2⟩ | ((repeat apply Exists.intro); exact ⟨⟨i + 1, by omega, by go_num, by go_num, u_ HM2⟩, rfl⟩)
    case measure => simp [intOf]; omega
  . obtain rfl : i = n := by omega
    have hlt' : ¬ (i : Int) < (i : Int) := by omega
    obtain ⟨q, hq⟩ : ∃ q, k + i = q := ⟨_, rfl⟩
    rw [hq]
    go_wp2_with fail
    go_ret
    exact ⟨rfl, u_ HM⟩
set_option maxRecDepth 100000 in
set_option maxHeartbeats 1000000 in
theorem markIntS_bk (g n c k lo hi : Nat) (w : World) (hk : k + n <= 4611686018427387904) (hb : Bk w g 3 n) (hl : lo <= g) (hh : g < hi) :
 Calls Tryz.prog 12 #[.slice (some ⟨g, 0, none⟩) n c, .int .i64 k] w fun r w' => r = .returned (.int .i64 ((k + n : Nat) : Int)) /\ MkL lo hi w w' := by
 have HBk := h_ hb
 clear hb
 go_enter Tryz.func12, Tryz.ntmps12
 go_wp2_with fail
 go_loopw [1, 5] (fun q v wr => ∃ i : Nat, i <= n /\ v = .int .i64 i /\ q = .int .i64 ((k + i : Nat) : Int) /\ MkL lo hi w wr) (fun _ v _ => n - (intOf v).toNat)
 case atStart => exact ⟨0, Nat.zero_le _, rfl, rfl, MkL.refl _ _ _⟩
 case round =>
  obtain ⟨i, hi', rfl, rfl, hm⟩ := hrel
  have HM := h_ hm
  have HBr := h_ (hm.bk _ _ _ (u_ HBk))
  clear hm
  by_cases hlt : i < n
  . have hlt' : (i : Int) < n := by omega
    obtain ⟨q, hq⟩ : ∃ q, k + i = q := ⟨_, rfl⟩
    have hq' : (q : Int) < 4611686018427387904 := by omega
    rw [hq]
    obtain ⟨u, c0⟩ := (u_ HBr).cell hlt
    have f0 := (u_ HBr).free i
    have HM2 := h_ ((u_ HM).trans (MkL.set i (.int .i64 (q : Int)) hl hh))
    go_wp2_with fail
    go_roundw
    case rel => first | exact ⟨i + 1, by omega, by go_num, by go_num, u_ HM2⟩ | ((repeat apply Exists.intro); exact ⟨⟨i + 1, by omega, by go_num, by go_num, u_ HM2⟩, rfl⟩)
    case measure => simp [intOf]; omega
  . obtain rfl : i = n := by omega
    have hlt' : ¬ (i : Int) < (i : Int) := by omega
    obtain ⟨q, hq⟩ : ∃ q, k + i = q := ⟨_, rfl⟩
    rw [hq]
    go_wp2_with fail
    go_ret
    exact ⟨rfl, u_ HM⟩
set_option maxRecDepth 100000 in
set_option maxHeartbeats 1000000 in
theorem markPairS_bk (g n c k lo hi : Nat) (w : World) (hk : k + n * 2 <= 4611686018427387904) (hb : Bk w g 93 (n * 2)) (hl : lo <= g) (hh : g < hi) :
 Calls Tryz.prog 37 #[.slice (some ⟨g, 0, none⟩) n c, .int .i64 k] w fun r w' => r = .returned (.int .i64 ((k + n * 2 : Nat) : Int)) /\ MkL lo hi w w' := by
 have HBk := h_ hb
 clear hb
 go_enter Tryz.func37, Tryz.ntmps37
 go_wp2_with fail
 go_loopw [1, 5] (fun q v wr => ∃ i : Nat, i <= n /\ v = .int .i64 i /\ q = .int .i64 ((k + i * 2 : Nat) : Int) /\ MkL lo hi w wr) (fun _ v _ => n - (intOf v).toNat)
 case atStart => exact ⟨0, Nat.zero_le _, rfl, by simp, MkL.refl _ _ _⟩
 case round =>
  obtain ⟨i, hi', rfl, rfl, hm⟩ := hrel
  have HM := h_ hm
  have HBr := h_ (hm.bk _ _ _ (u_ HBk))
  clear hm
  by_cases hlt : i < n
  . have hlt' : (i : Int) < n := by omega
    obtain ⟨q, hq⟩ : ∃ q, k + i * 2 = q := ⟨_, rfl⟩
    have hq' : (q : Int) + 1 < 4611686018427387904 := by omega
    rw [hq]
    obtain ⟨u, c0⟩ := (u_ HBr).cell (show i * 2 < n * 2 by omega)
    obtain ⟨u1, c1⟩ := (u_ HBr).cell (show i * 2 + 1 < n * 2 by omega)
    have f0 := (u_ HBr).free (i * 2); have f1 := (u_ HBr).free (i * 2 + 1)
    have HM2 := h_ (((u_ HM).trans (MkL.set (i * 2) (.int .i64 (q : Int)) hl hh)).trans (MkL.set (i * 2 + 1) (.int .i64 ((q : Int) + 1)) hl hh))
    go_wp2_with fail
    go_roundw
    case rel => first | exact ⟨i + 1, by omega, by go_num, by rw [show k + (i + 1) * 2 = q + 2 by omega]; go_num, u_ HM2⟩ | ((repeat apply Exists.intro); exact ⟨⟨i + 1, by omega, by go_num, by rw [show k + (i + 1) * 2 = q + 2 by omega]; go_num, u_ HM2⟩, rfl⟩)
    case measure => simp [intOf]; omega
  . obtain rfl : i = n := by omega
    have hlt' : ¬ (i : Int) < (i : Int) := by omega
    obtain ⟨q, hq⟩ : ∃ q, k + i * 2 = q := ⟨_, rfl⟩
    rw [hq]
    go_wp2_with fail
    go_ret
    exact ⟨rfl, u_ HM⟩
set_option maxRecDepth 100000 in
set_option maxHeartbeats 1000000 in
theorem markRoleS_bk (g n c k lo hi : Nat) (w : World) (hk : k + n * 2 <= 4611686018427387904) (hb : Bk w g 94 (n * 2)) (hl : lo <= g) (hh : g < hi) :
 Calls Tryz.prog 38 #[.slice (some ⟨g, 0, none⟩) n c, .int .i64 k] w fun r w' => r = .returned (.int .i64 ((k + n * 2 : Nat) : Int)) /\ MkL lo hi w w' := by
 have HBk := h_ hb
 clear hb
 go_enter Tryz.func38, Tryz.ntmps38
 go_wp2_with fail
 go_loopw [1, 5] (fun q v wr => ∃ i : Nat, i <= n /\ v = .int .i64 i /\ q = .int .i64 ((k + i * 2 : Nat) : Int) /\ MkL lo hi w wr) (fun _ v _ => n - (intOf v).toNat)
 case atStart => exact ⟨0, Nat.zero_le _, rfl, by simp, MkL.refl _ _ _⟩
 case round =>
  obtain ⟨i, hi', rfl, rfl, hm⟩ := hrel
  have HM := h_ hm
  have HBr := h_ (hm.bk _ _ _ (u_ HBk))
  clear hm
  by_cases hlt : i < n
  . have hlt' : (i : Int) < n := by omega
    obtain ⟨q, hq⟩ : ∃ q, k + i * 2 = q := ⟨_, rfl⟩
    have hq' : (q : Int) + 1 < 4611686018427387904 := by omega
    rw [hq]
    go_wp2_with fail
    refine (markText_any q wr (by omega)).mono ?_
    rintro e W2 ⟨s, rfl, hb2⟩
    have HB2 := h_ ((u_ HBr).mono hb2 (u_ HBr).lt)
    obtain ⟨u, c0⟩ := (u_ HB2).cell (show i * 2 < n * 2 by omega)
    obtain ⟨u1, c1⟩ := (u_ HB2).cell (show i * 2 + 1 < n * 2 by omega)
    have f0 := (u_ HB2).free (i * 2); have f1 := (u_ HB2).free (i * 2 + 1)
    have HM2 := h_ ((((u_ HM).trans (MkL.below hb2)).trans (MkL.set (i * 2) (.string s) hl hh)).trans (MkL.set (i * 2 + 1) (.int .i64 ((q : Int) + 1)) hl hh))
    clear hb2
    go_wp2_with fail
    go_roundw
    case rel => first | exact ⟨i + 1, by omega, by go_num, by rw [show k + (i + 1) * 2 = q + 2 by omega]; go_num, u_ HM2⟩ | ((repeat apply Exists.intro); exact ⟨⟨i + 1, by omega, by go_num, by rw [show k + (i + 1) * 2 = q + 2 by omega]; go_num, u_ HM2⟩, rfl⟩)
    case measure => simp [intOf]; omega
  . obtain rfl : i = n := by omega
    have hlt' : ¬ (i : Int) < (i : Int) := by omega
    obtain ⟨q, hq⟩ : ∃ q, k + i * 2 = q := ⟨_, rfl⟩
    rw [hq]
    go_wp2_with fail
    go_ret
    exact ⟨rfl, u_ HM⟩
set_option maxRecDepth 100000 in
set_option maxHeartbeats 2000000 in
theorem markNodeS_bk (g n c k lo hi : Nat) (w : World) (hk : k + n * 5 <= 4611686018427387904) (hb : Bk w g 149 (n * 5)) (hl : lo <= g) (hh : g < hi) :
 Calls Tryz.prog 70 #[.slice (some ⟨g, 0, none⟩) n c, .int .i64 k] w fun r w' => r = .returned (.int .i64 ((k + n * 5 : Nat) : Int)) /\ MkL lo hi w w' := by
 have HBk := h_ hb
 clear hb
 go_enter Tryz.func70, Tryz.ntmps70
 go_wp2_with fail
 go_loopw [1, 5] (fun q v wr => ∃ i : Nat, i <= n /\ v = .int .i64 i /\ q = .int .i64 ((k + i * 5 : Nat) : Int) /\ MkL lo hi w wr) (fun _ v _ => n - (intOf v).toNat)
 case atStart => exact ⟨0, Nat.zero_le _, rfl, by simp, MkL.refl _ _ _⟩
 case round =>
  obtain ⟨i, hi', rfl, rfl, hm⟩ := hrel
  have HM := h_ hm
  have HBr := h_ (hm.bk _ _ _ (u_ HBk))
  clear hm
  by_cases hlt : i < n
  . have hlt' : (i : Int) < n := by omega
    obtain ⟨q, hq⟩ : ∃ q, k + i * 5 = q := ⟨_, rfl⟩
    have hq' : (q : Int) + 5 < 4611686018427387904 + 1 := by omega
    rw [hq]
    obtain ⟨u, c0⟩ := (u_ HBr).cell (show i * 5 < n * 5 by omega)
    obtain ⟨u1, c1⟩ := (u_ HBr).cell (show i * 5 + 1 < n * 5 by omega)
    obtain ⟨u2, c2⟩ := (u_ HBr).cell (show i * 5 + 2 < n * 5 by omega)
    have f0 := (u_ HBr).free (i * 5); have f1 := (u_ HBr).free (i * 5 + 1); have f2 := (u_ HBr).free (i * 5 + 2)
    have HM1 := h_ ((((u_ HM).trans (MkL.set (i * 5) (.int .i64 (q : Int)) hl hh)).trans (MkL.set (i * 5 + 1) (.int .i64 ((q : Int) + 1)) hl hh)).trans (MkL.set (i * 5 + 2) (.int .i64 ((q : Int) + 1 + 1)) hl hh))
    have HB1 := h_ ((((u_ HBr).set (i * 5) (.int .i64 (q : Int))).set (i * 5 + 1) (.int .i64 ((q : Int) + 1))).set (i * 5 + 2) (.int .i64 ((q : Int) + 1 + 1)))
    go_wp2_with fail
    obtain ⟨W1, hW1⟩ : ∃ W1, ((wr.setCell ⟨g, i * 5, none⟩ (.int .i64 (q : Int))).setCell ⟨g, i * 5 + 1, none⟩ (.int .i64 ((q : Int) + 1))).setCell ⟨g, i * 5 + 2, none⟩ (.int .i64 ((q : Int) + 1 + 1)) = W1 := ⟨_, rfl⟩
    rw [hW1] at HM1 HB1 ⊢
    clear hW1 c0 c1 c2 f0 f1 f2
    have HT1 := h_ (markText_any (q + 1 + 1 + 1) W1 (by omega))
    simp only [Int.natCast_add, Int.cast_ofNat_Int] at HT1
    refine (u_ HT1).mono ?_
    rintro e W2 ⟨s, rfl, hb2⟩
    have HB2 := h_ ((u_ HB1).mono hb2 (u_ HB1).lt)
    obtain ⟨u, c0⟩ := (u_ HB2).cell (show i * 5 + 3 < n * 5 by omega)
    have f0 := (u_ HB2).free (i * 5 + 3)
    have HM2 := h_ (((u_ HM1).trans (MkL.below hb2)).trans (MkL.set (i * 5 + 3) (.string s) hl hh))
    have HB2' := h_ ((u_ HB2).set (i * 5 + 3) (.string s))
    clear hb2 HT1
    go_wp2_with fail
    obtain ⟨W3, hW3⟩ : ∃ W3, W2.setCell ⟨g, i * 5 + 3, none⟩ (.string s) = W3 := ⟨_, rfl⟩
    rw [hW3] at HM2 HB2' ⊢
    clear hW3 c0 f0
    have HT1 := h_ (markText_any (q + 1 + 1 + 1 + 1) W3 (by omega))
    simp only [Int.natCast_add, Int.cast_ofNat_Int] at HT1
    refine (u_ HT1).mono ?_
    rintro e W4 ⟨s2, rfl, hb4⟩
    have HB4 := h_ ((u_ HB2').mono hb4 (u_ HB2').lt)
    obtain ⟨u', c0⟩ := (u_ HB4).cell (show i * 5 + 4 < n * 5 by omega)
    have f0 := (u_ HB4).free (i * 5 + 4)
    have HM4 := h_ (((u_ HM2).trans (MkL.below hb4)).trans (MkL.set (i * 5 + 4) (.string s2) hl hh))
    clear hb4 HT1
    go_wp2_with fail
    go_roundw
    case rel => first | exact ⟨i + 1, by omega, by go_num, by rw [show k + (i + 1) * 5 = q + 5 by omega]; go_num, u_ HM4⟩ | ((repeat apply Exists.intro); exact ⟨⟨i + 1, by omega, by go_num, by rw [show k + (i + 1) * 5 = q + 5 by omega]; go_num, u_ HM4⟩, rfl⟩)
    case measure => simp [intOf]; omega
  . obtain rfl : i = n := by omega
    have hlt' : ¬ (i : Int) < (i : Int) := by omega
    obtain ⟨q, hq⟩ : ∃ q, k + i * 5 = q := ⟨_, rfl⟩
    rw [hq]
    go_wp2_with fail
    go_ret
    exact ⟨rfl, u_ HM⟩
end Go.Proofs.YtalgidagiojbpaaGreatDoor
namespace Go.Proofs.YtalgidagiojbpaaGreatDoor
open Go Go.RowKit
theorem Bk.cell_ne {w : World} {g : Nat} {t : TypeId} {n : Nat} (h : Bk w g t n) {p q : Nat} (hpq : p ≠ q) (v : Value) : (w.setCell ⟨g, p, none⟩ v).cell? ⟨g, q, none⟩ = w.cell? ⟨g, q, none⟩ := by
 obtain ⟨cs, h1, -⟩ := h
 rw [(h1.set p v).cell q, h1.cell q, List.getElem?_set_ne hpq]
/-- The cells of the fields that hold slices. -/
def SC (w : World) (g : Nat) (l : List Fl) (AF : Nat -> FA) : Prop := ∀ j (h : j < l.length), w.cell? ⟨g, j * 9 + 3, none⟩ = some (.slice (AF j).b l[j].bys.length (AF j).bc) /\ w.cell? ⟨g, j * 9 + 4, none⟩ = some (.slice (AF j).i l[j].is.length (AF j).ic) /\ w.cell? ⟨g, j * 9 + 5, none⟩ = some (.slice (AF j).h l[j].wh.length (AF j).hc) /\ w.cell? ⟨g, j * 9 + 6, none⟩ = some (.slice (AF j).v l[j].va.length (AF j).vc) /\ w.cell? ⟨g, j * 9 + 8, none⟩ = some (.slice (AF j).u l[j].mu.length (AF j).uc)
theorem SC.keep {w w' : World} {g : Nat} {l : List Fl} {AF : Nat -> FA} (h : SC w g l AF) (hk : w'.heap[g]? = w.heap[g]?) : SC w' g l AF := fun j hj => by
 obtain ⟨h3, h4, h5, h6, h8⟩ := h j hj
 exact ⟨(World.cell?_of_block (a := ⟨g, j * 9 + 3, none⟩) hk).trans h3, (World.cell?_of_block (a := ⟨g, j * 9 + 4, none⟩) hk).trans h4, (World.cell?_of_block (a := ⟨g, j * 9 + 5, none⟩) hk).trans h5, (World.cell?_of_block (a := ⟨g, j * 9 + 6, none⟩) hk).trans h6, (World.cell?_of_block (a := ⟨g, j * 9 + 8, none⟩) hk).trans h8⟩
theorem SC.set {w : World} {g : Nat} {t : TypeId} {n : Nat} {l : List Fl} {AF : Nat -> FA} (h : SC w g l AF) (hb : Bk w g t n) {p : Nat} (hp : ∀ j, p ≠ j * 9 + 3 /\ p ≠ j * 9 + 4 /\ p ≠ j * 9 + 5 /\ p ≠ j * 9 + 6 /\ p ≠ j * 9 + 8) (v : Value) : SC (w.setCell ⟨g, p, none⟩ v) g l AF := fun j hj => by
 obtain ⟨h3, h4, h5, h6, h8⟩ := h j hj
 obtain ⟨n3, n4, n5, n6, n8⟩ := hp j
 exact ⟨(hb.cell_ne n3 v).trans h3, (hb.cell_ne n4 v).trans h4, (hb.cell_ne n5 v).trans h5, (hb.cell_ne n6 v).trans h6, (hb.cell_ne n8 v).trans h8⟩
/-- What stays while fields are marked. -/
structure MkS (g hi : Nat) (l : List Fl) (AF : Nat -> FA) (w W : World) : Prop where
 m : MkL g hi w W
 s : SC W g l AF
theorem MkS.below {g hi : Nat} {l : List Fl} {AF : Nat -> FA} {w W W' : World} (h : MkS g hi l AF w W) (hg : g < W.heap.size) (hb : Below W.heap.size W W') : MkS g hi l AF w W' := ⟨h.m.trans (MkL.below hb), h.s.keep (hb.block g hg)⟩
theorem MkS.set {g hi : Nat} {l : List Fl} {AF : Nat -> FA} {w W : World} {t : TypeId} {n : Nat} (h : MkS g hi l AF w W) (hb : Bk W g t n) (hh : g < hi) {p : Nat} (hp : ∀ j, p ≠ j * 9 + 3 /\ p ≠ j * 9 + 4 /\ p ≠ j * 9 + 5 /\ p ≠ j * 9 + 6 /\ p ≠ j * 9 + 8) (v : Value) : MkS g hi l AF w (W.setCell ⟨g, p, none⟩ v) := ⟨h.m.trans (MkL.set p v (Nat.le_refl _) hh), h.s.set hb hp v⟩
theorem MkS.mk' {g hi : Nat} {l : List Fl} {AF : Nat -> FA} {w W W' : World} (h : MkS g hi l AF w W) (hg : g < W.heap.size) (hm : MkL (g + 1) hi W W') : MkS g hi l AF w W' := ⟨h.m.trans (hm.lower (Nat.le_succ _)), h.s.keep (hm.out.block g hg (by omega))⟩
set_option maxRecDepth 100000 in
set_option maxHeartbeats 8000000 in
theorem markFieldS_bk (g c k hi B : Nat) (l : List Fl) (AF : Nat -> FA) (w0 w : World) (hB : B = 30000000) (hn : l.length <= 1048576) (hk : k + l.length * B <= 4611686018427387904) (hz : w0.heap.size = hi) (hbk : ∀ g t n, Bk w0 g t n -> Bk w g t n) (h4 : Bk w0 g 98 (l.length * 9)) (hc : SC w g l AF) (hf : ∀ j (h : j < l.length), FBk (g + 1) w0 l[j] (AF j)) (hs : ∀ x, x ∈ l -> SmF x) :
 Calls Tryz.prog 39 #[.slice (some ⟨g, 0, none⟩) l.length c, .int .i64 k] w fun r w' => ∃ k' : Nat, r = .returned (.int .i64 k') /\ k' <= k + l.length * B /\ MkL g hi w w' := by
 have hh : g < hi := by have := h4.lt; omega
 have HBq := h_ hB
 clear hB
 have HBk := h_ hbk; have H4 := h_ h4; have HC := h_ hc; have HF := h_ hf; have HS := h_ hs
 clear hbk h4 hc hf hs
 go_enter Tryz.func39, Tryz.ntmps39
 go_wp2_with fail
 go_loopw [1, 5] (fun q v wr => ∃ i q' : Nat, i <= l.length /\ v = .int .i64 i /\ q = .int .i64 (q' : Int) /\ q' <= k + i * B /\ MkS g hi l AF w wr) (fun _ v _ => l.length - (intOf v).toNat)
 case atStart => exact ⟨0, k, Nat.zero_le _, rfl, rfl, by simp, ⟨MkL.refl _ _ _, u_ HC⟩⟩
 case round =>
  clear HC
  obtain ⟨i, q, hil, rfl, rfl, hqk, hm⟩ := hrel
  have HM := h_ hm
  clear hm
  by_cases hlt : i < l.length
  . have hlt' : (i : Int) < l.length := by omega
    have HQe : Hid (∀ q' : Nat, q' <= q + 30000000 -> q' <= k + (i + 1) * B) := h_ fun q' h => by have := u_ HBq; rw [Nat.succ_mul]; omega
    have hq0 : q + 30000000 <= 4611686018427387904 := by
     have : (i + 1) * B <= l.length * B := Nat.mul_le_mul_right _ (by omega)
     rw [Nat.succ_mul] at this
     have := u_ HBq
     omega
    have hq' : (q : Int) + 30000000 <= 4611686018427387904 := by omega
    clear hqk hk
    have hsm := u_ HS _ (List.getElem_mem hlt)
    have m1 := hsm.b; have m2 := hsm.i; have m3 := hsm.h; have m4 := hsm.v; have m5 := hsm.u
    obtain ⟨g1, g2, g3, g4, g5, e1, e2, e3, e4, e5, ⟨l1, l2, l3, l4, l5⟩, b1, b2, b3, b4, b5⟩ := u_ HF i hlt
    have hg1 := b1.lt; have hg2 := b2.lt; have hg3 := b3.lt; have hg4 := b4.lt; have hg5 := b5.lt
    rw [hz] at hg1 hg2 hg3 hg4 hg5
    have HK1 : Hid (∀ W, MkL g hi w W -> Bk W g1 3 l[i].bys.length /\ Bk W g2 149 (l[i].is.length * 5) /\ Bk W g3 149 (l[i].wh.length * 5) /\ Bk W g4 149 (l[i].va.length * 5) /\ Bk W g5 149 (l[i].mu.length * 5) /\ Bk W g 98 (l.length * 9)) := h_ fun W h => ⟨h.bk _ _ _ (u_ HBk _ _ _ b1), h.bk _ _ _ (u_ HBk _ _ _ b2), h.bk _ _ _ (u_ HBk _ _ _ b3), h.bk _ _ _ (u_ HBk _ _ _ b4), h.bk _ _ _ (u_ HBk _ _ _ b5), h.bk _ _ _ (u_ HBk _ _ _ (u_ H4))⟩
    have HK2 : Hid (∀ W, MkS g hi l AF w W -> W.cell? ⟨g, i * 9 + 3, none⟩ = some (.slice (some ⟨g1, 0, none⟩) l[i].bys.length (AF i).bc) /\ W.cell? ⟨g, i * 9 + 4, none⟩ = some (.slice (some ⟨g2, 0, none⟩) l[i].is.length (AF i).ic) /\ W.cell? ⟨g, i * 9 + 5, none⟩ = some (.slice (some ⟨g3, 0, none⟩) l[i].wh.length (AF i).hc) /\ W.cell? ⟨g, i * 9 + 6, none⟩ = some (.slice (some ⟨g4, 0, none⟩) l[i].va.length (AF i).vc) /\ W.cell? ⟨g, i * 9 + 8, none⟩ = some (.slice (some ⟨g5, 0, none⟩) l[i].mu.length (AF i).uc)) := h_ fun W h => by
     have := h.s i hlt
     rw [e1, e2, e3, e4, e5] at this
     exact this
    generalize l[i].bys.length = n1 at *
    generalize l[i].is.length = n2 at *
    generalize l[i].wh.length = n3 at *
    generalize l[i].va.length = n4 at *
    generalize l[i].mu.length = n5 at *
    generalize (AF i).bc = c1 at *
    generalize (AF i).ic = c2 at *
    generalize (AF i).hc = c3 at *
    generalize (AF i).vc = c4 at *
    generalize (AF i).uc = c5 at *
    clear e1 e2 e3 e4 e5 b1 b2 b3 b4 b5 hsm
    go_wp2_with fail
    refine (markText_any q wr (by omega)).mono ?_
    rintro e W1 ⟨s, rfl, hb1⟩
    have HB0 := h_ (u_ HK1 _ (u_ HM).m).2.2.2.2.2
    have HM1 := h_ ((u_ HM).below (u_ HB0).lt hb1)
    have HB1 := h_ ((u_ HB0).mono hb1 (u_ HB0).lt)
    clear hb1 HM HB0
    obtain ⟨u0, c0'⟩ := (u_ HB1).cell (show i * 9 < l.length * 9 by omega)
    obtain ⟨u1, c1'⟩ := (u_ HB1).cell (show i * 9 + 1 < l.length * 9 by omega)
    obtain ⟨u2, c2'⟩ := (u_ HB1).cell (show i * 9 + 2 < l.length * 9 by omega)
    have f0 := (u_ HB1).free (i * 9); have f1 := (u_ HB1).free (i * 9 + 1); have f2 := (u_ HB1).free (i * 9 + 2)
    have HM2 := h_ ((((u_ HM1).set (u_ HB1) hh (p := i * 9) (fun j => by omega) (.string s)).set ((u_ HB1).set (i * 9) (.string s)) hh (p := i * 9 + 1) (fun j => by omega) (.int .i64 ((q : Int) + 1))).set (((u_ HB1).set (i * 9) (.string s)).set (i * 9 + 1) (.int .i64 ((q : Int) + 1))) hh (p := i * 9 + 2) (fun j => by omega) (.int .i64 ((q : Int) + 1 + 1)))
    obtain ⟨W2, hW2⟩ : ∃ W2, ((W1.setCell ⟨g, i * 9, none⟩ (.string s)).setCell ⟨g, i * 9 + 1, none⟩ (.int .i64 ((q : Int) + 1))).setCell ⟨g, i * 9 + 2, none⟩ (.int .i64 ((q : Int) + 1 + 1)) = W2 := ⟨_, rfl⟩
    rw [hW2] at HM2
    obtain ⟨d3, d4, d5, d6, d8⟩ := u_ HK2 _ (u_ HM2)
    have HT := h_ (markIntS_bk g1 n1 c1 (q + 1 + 1 + 1) (g + 1) hi W2 (by omega) (u_ HK1 _ (u_ HM2).m).1 (by omega) (by omega))
    obtain ⟨p1, hp1⟩ : ∃ p1, q + 1 + 1 + 1 + n1 = p1 := ⟨_, rfl⟩
    rw [hp1] at HT
    simp only [Int.natCast_add, Int.cast_ofNat_Int] at HT
    clear d4 d5 d6 d8
    go_wp2_with fail
    try rw [hW2]
    refine (u_ HT).mono ?_
    rintro e W3 ⟨rfl, hm3⟩
    have HM3 := h_ ((u_ HM2).mk' (u_ HK1 _ (u_ HM2).m).2.2.2.2.2.lt hm3)
    clear hm3 HT hW2 d3 c0' c1' c2' f0 f1 f2 HM2 HM1 HB1
    obtain ⟨d3, d4, d5, d6, d8⟩ := u_ HK2 _ (u_ HM3)
    have HT := h_ (markNodeS_bk g2 n2 c2 p1 (g + 1) hi W3 (by omega) (u_ HK1 _ (u_ HM3).m).2.1 (by omega) (by omega))
    obtain ⟨p2, hp2⟩ : ∃ p, p1 + n2 * 5 = p := ⟨_, rfl⟩
    rw [hp2] at HT
    go_wp2_with fail
    refine (u_ HT).mono ?_
    rintro e W4 ⟨rfl, hm3⟩
    have HM4 := h_ ((u_ HM3).mk' (u_ HK1 _ (u_ HM3).m).2.2.2.2.2.lt hm3)
    clear hm3 HT d3 d4 d5 d6 d8 HM3
    obtain ⟨d3, d4, d5, d6, d8⟩ := u_ HK2 _ (u_ HM4)
    have HT := h_ (markNodeS_bk g3 n3 c3 p2 (g + 1) hi W4 (by omega) (u_ HK1 _ (u_ HM4).m).2.2.1 (by omega) (by omega))
    obtain ⟨p3, hp3⟩ : ∃ p, p2 + n3 * 5 = p := ⟨_, rfl⟩
    rw [hp3] at HT
    go_wp2_with fail
    refine (u_ HT).mono ?_
    rintro e W5 ⟨rfl, hm3⟩
    have HM5 := h_ ((u_ HM4).mk' (u_ HK1 _ (u_ HM4).m).2.2.2.2.2.lt hm3)
    clear hm3 HT d3 d4 d5 d6 d8 HM4
    obtain ⟨d3, d4, d5, d6, d8⟩ := u_ HK2 _ (u_ HM5)
    have HT := h_ (markNodeS_bk g4 n4 c4 p3 (g + 1) hi W5 (by omega) (u_ HK1 _ (u_ HM5).m).2.2.2.1 (by omega) (by omega))
    obtain ⟨p4, hp4⟩ : ∃ p, p3 + n4 * 5 = p := ⟨_, rfl⟩
    rw [hp4] at HT
    go_wp2_with fail
    refine (u_ HT).mono ?_
    rintro e W6 ⟨rfl, hm3⟩
    have HM6 := h_ ((u_ HM5).mk' (u_ HK1 _ (u_ HM5).m).2.2.2.2.2.lt hm3)
    clear hm3 HT d3 d4 d5 d6 d8 HM5
    have hp4' : (p4 : Int) <= 4611686018427387904 - 5300000 := by omega
    go_wp2_with fail
    refine (markText_any p4 W6 (by omega)).mono ?_
    rintro e W7 ⟨s2, rfl, hb7⟩
    have HB6 := h_ (u_ HK1 _ (u_ HM6).m).2.2.2.2.2
    have HM7 := h_ ((u_ HM6).below (u_ HB6).lt hb7)
    have HB7 := h_ ((u_ HB6).mono hb7 (u_ HB6).lt)
    clear hb7 HM6 HB6
    obtain ⟨u7, c7'⟩ := (u_ HB7).cell (show i * 9 + 7 < l.length * 9 by omega)
    have f7 := (u_ HB7).free (i * 9 + 7)
    have HM8 := h_ ((u_ HM7).set (u_ HB7) hh (p := i * 9 + 7) (fun j => by omega) (.string s2))
    obtain ⟨W8, hW8⟩ : ∃ W8, W7.setCell ⟨g, i * 9 + 7, none⟩ (.string s2) = W8 := ⟨_, rfl⟩
    rw [hW8] at HM8
    obtain ⟨d3, d4, d5, d6, d8⟩ := u_ HK2 _ (u_ HM8)
    have HT := h_ (markNodeS_bk g5 n5 c5 (p4 + 1) (g + 1) hi W8 (by omega) (u_ HK1 _ (u_ HM8).m).2.2.2.2.1 (by omega) (by omega))
    obtain ⟨p5, hp5⟩ : ∃ p, p4 + 1 + n5 * 5 = p := ⟨_, rfl⟩
    rw [hp5] at HT
    simp only [Int.natCast_add, Int.cast_ofNat_Int] at HT
    clear d3 d4 d5 d6
    go_wp2_with fail
    try rw [hW8]
    refine (u_ HT).mono ?_
    rintro e W9 ⟨rfl, hm3⟩
    have HM9 := h_ ((u_ HM8).mk' (u_ HK1 _ (u_ HM8).m).2.2.2.2.2.lt hm3)
    have HQ9 := h_ (u_ HQe p5 (by omega))
    clear hm3 HT hW8 d8 c7' f7 HM8 HM7 HB7
    go_wp2_with fail
    go_roundw
    case rel => first | exact ⟨i + 1, p5, by omega, by go_num, rfl, u_ HQ9, u_ HM9⟩ | ((repeat apply Exists.intro); exact ⟨⟨i + 1, p5, by omega, by go_num, rfl, u_ HQ9, u_ HM9⟩, rfl⟩)
    case measure => simp [intOf]; omega
  . obtain rfl : i = l.length := by omega
    have hlt' : ¬ (l.length : Int) < (l.length : Int) := by omega
    go_wp2_with fail
    go_ret
    exact ⟨q, rfl, hqk, (u_ HM).m⟩
theorem MkL.raise {lo hi hi' : Nat} {W W' : World} (h : MkL lo hi W W') (hh : hi <= hi') : MkL lo hi' W W' := ⟨⟨h.out.os, h.out.tape, h.out.output, h.out.size, fun b hb hn => h.out.block b hb (fun c => hn ⟨c.1, by omega⟩)⟩, h.bk⟩
theorem sc_of {w : World} {g : Nat} {l : List Fl} {AF : Nat -> FA} (h : Flds w (some ⟨g, 0, none⟩) l AF) : SC w g l AF := fun j hj => by
 obtain ⟨b, o, e, ⟨-, -, -, -, h3, h4, h5, h6, -, h8⟩, -⟩ := h j hj
 cases e
 simp only [Nat.zero_add] at h3 h4 h5 h6 h8
 exact ⟨h3, h4, h5, h6, h8⟩
set_option maxRecDepth 100000 in
set_option maxHeartbeats 4000000 in
theorem markForm_bk (m : Fm) (A : MA) (lo hi : Nat) (w0 w : World) (hn : Sm m) (hz : w0.heap.size = hi) (hM : MBk lo w0 m A) (hbk : ∀ g t n, Bk w0 g t n -> Bk w g t n) (hs : MSl w m A) :
 Calls Tryz.prog 11 #[mV m A, .int .i64 1] w fun r w' => ∃ k' : Nat, r = .returned (.int .i64 k') /\ k' <= 4611686018427387904 /\ MkL lo hi w w' := by
 obtain ⟨al, alc, ap, apc, ar, arc, af, afc, afa⟩ := A
 obtain ⟨g1, g2, g3, g4, e1, e2, e3, e4, ⟨l1, l2, l3, l4⟩, ⟨t1, t2, t3⟩, b1, b2, b3, b4, hf⟩ := hM
 dsimp only at e1 e2 e3 e4 hf
 subst e1 e2 e3 e4
 have hSC := sc_of hs.f
 dsimp only at hSC
 have hg4 : g4 < hi := by have := b4.lt; omega
 have m1 := hn.l; have m2 := hn.p; have m3 := hn.r; have m4 := hn.f
 have HSm := h_ hn.s; have HSC := h_ hSC; have HF := h_ hf
 have HK1 : Hid (∀ W, (∀ g t n, Bk w g t n -> Bk W g t n) -> Bk W g1 9 m.labels.length /\ Bk W g2 93 (m.below.length * 2) /\ Bk W g3 94 (m.roles.length * 2)) := h_ fun W h => ⟨h _ _ _ (hbk _ _ _ b1), h _ _ _ (hbk _ _ _ b2), h _ _ _ (hbk _ _ _ b3)⟩
 have HBk : Hid (∀ W, (∀ g t n, Bk w g t n -> Bk W g t n) -> ∀ g t n, Bk w0 g t n -> Bk W g t n) := h_ fun W h g t n hb => h _ _ _ (hbk _ _ _ hb)
 have HB4 := h_ b4
 have hgw : g4 < w.heap.size := (hbk _ _ _ b4).lt
 clear hn hs hSC hf hbk b1 b2 b3 b4
 unfold mV
 dsimp only
 have HK := h_ (Blk.new w 35 #[.slice (some ⟨g1, 0, none⟩) m.labels.length alc, .slice (some ⟨g2, 0, none⟩) m.below.length apc, .slice (some ⟨g3, 0, none⟩) m.roles.length arc, .slice (some ⟨g4, 0, none⟩) m.fields.length afc])
 have HB := h_ ((Below.refl w.heap.size w).alloc (Nat.le_refl _) (.cells #[.slice (some ⟨g1, 0, none⟩) m.labels.length alc, .slice (some ⟨g2, 0, none⟩) m.below.length apc, .slice (some ⟨g3, 0, none⟩) m.roles.length arc, .slice (some ⟨g4, 0, none⟩) m.fields.length afc] 35))
 obtain ⟨W0, hW0⟩ : ∃ W0, w.alloc (.cells #[.slice (some ⟨g1, 0, none⟩) m.labels.length alc, .slice (some ⟨g2, 0, none⟩) m.below.length apc, .slice (some ⟨g3, 0, none⟩) m.roles.length arc, .slice (some ⟨g4, 0, none⟩) m.fields.length afc] 35) = W0 := ⟨_, rfl⟩
 rw [hW0] at HK HB
 have HM : Hid (MkL lo g4 w W0) := h_ (MkL.below (u_ HB))
 have hgx : g4 < w.heap.size := hgw
 clear HB
 have HT := h_ (markStringS_bk g1 m.labels.length alc 1 lo g4 W0 (by omega) (u_ HK1 _ (u_ HM).bk).1 l1 t1)
 obtain ⟨y0, y1, y2, y3⟩ := quad (u_ HK)
 obtain ⟨p1, hp1⟩ : ∃ p1, 1 + m.labels.length = p1 := ⟨_, rfl⟩
 rw [hp1] at HT
 simp only [Int.cast_ofNat_Int] at HT
 go_enter Tryz.func11, Tryz.ntmps11
 go_wp2_with fail
 try rw [hW0]
 refine (u_ HT).mono ?_
 rintro e W1 ⟨rfl, hm1⟩
 replace HK := h_ (hm1.out.blk (u_ HK) (by omega)); replace HM := h_ ((u_ HM).trans hm1)
 clear hm1 hW0 y0 y1 y2 y3 HT
 have HT := h_ (markPairS_bk g2 m.below.length apc p1 lo g4 W1 (by omega) (u_ HK1 _ (u_ HM).bk).2.1 l2 t2)
 obtain ⟨y0, y1, y2, y3⟩ := quad (u_ HK)
 obtain ⟨p2, hp2⟩ : ∃ p, p1 + m.below.length * 2 = p := ⟨_, rfl⟩
 rw [hp2] at HT
 go_wp2_with fail
 refine (u_ HT).mono ?_
 rintro e W2 ⟨rfl, hm1⟩
 replace HK := h_ (hm1.out.blk (u_ HK) (by omega)); replace HM := h_ ((u_ HM).trans hm1)
 clear hm1 y0 y1 y2 y3 HT
 have HT := h_ (markRoleS_bk g3 m.roles.length arc p2 lo g4 W2 (by omega) (u_ HK1 _ (u_ HM).bk).2.2 l3 t3)
 obtain ⟨y0, y1, y2, y3⟩ := quad (u_ HK)
 obtain ⟨p3, hp3⟩ : ∃ p, p2 + m.roles.length * 2 = p := ⟨_, rfl⟩
 rw [hp3] at HT
 go_wp2_with fail
 refine (u_ HT).mono ?_
 rintro e W3 ⟨rfl, hm1⟩
 replace HK := h_ (hm1.out.blk (u_ HK) (by omega)); replace HM := h_ ((u_ HM).trans hm1)
 clear hm1 y0 y1 y2 y3 HT
 obtain ⟨B, hB⟩ : ∃ B, B = 30000000 := ⟨_, rfl⟩
 have hm : m.fields.length * B <= 31457280000000 := by rw [hB]; omega
 have HT := h_ (markFieldS_bk g4 afc p3 hi B m.fields afa w0 W3 hB m4 (by omega) hz (u_ HBk _ (u_ HM).bk) (u_ HB4) ((u_ HSC).keep ((u_ HM).out.block g4 hgw (by omega))) (u_ HF) (u_ HSm))
 obtain ⟨y0, y1, y2, y3⟩ := quad (u_ HK)
 have hpq : p3 + m.fields.length * B <= 4611686018427387904 := by omega
 clear hB
 generalize m.fields.length * B = z at *
 go_wp2_with fail
 refine (u_ HT).mono ?_
 rintro e W4 ⟨k', rfl, hk', hm1⟩
 have HMf : Hid (MkL lo hi w W4) := h_ (((u_ HM).raise (by omega)).trans (hm1.lower l4))
 clear hm1 y0 y1 y2 y3 HT
 go_wp2_with fail
 go_ret
 exact ⟨k', rfl, by omega, u_ HMf⟩
end Go.Proofs.YtalgidagiojbpaaGreatDoor
/- Marking an answer's row, and looking whether the marks hold. -/
namespace Go.Proofs.YtalgidagiojbpaaGreatDoor
open Go Go.RowKit
theorem own_some {w : World} {base c n i : Nat} {a : Option Addr} {xs : List Value} (h : w.ownsRow base 3 1 (.slice a n c) n xs) (hi : i < n) : ∃ g, a = some ⟨g, 0, none⟩ /\ base <= g /\ g < w.heap.size := by
 rcases h.2 with ⟨h1, h2⟩ | ⟨g, cap, cur, h1, hb, hg, r⟩
 . omega
 . cases h1
   exact ⟨g, rfl, hb, (Array.getElem?_eq_some_iff.1 hg).1⟩
set_option maxRecDepth 100000 in
set_option maxHeartbeats 1000000 in
theorem markRow_any (a : Option Addr) (c n base : Nat) (xs : List Value) (w : World) (hn : n <= 1000000) (ho : w.ownsRow base 3 1 (.slice a n c) n xs) :
 Calls Tryz.prog 12 #[.slice a n c, .int .i64 1] w fun r w' => r = .returned (.int .i64 ((n + 1 : Nat) : Int)) /\ w'.ownsRow base 3 1 (.slice a n c) n (zs n fun i => ((i + 1 : Nat) : Int)) /\ Out base w.heap.size w w' := by
 have HO := h_ ho
 clear ho
 go_enter Tryz.func12, Tryz.ntmps12
 go_wp2_with fail
 go_loopw [1, 5] (fun q v wr => ∃ (i : Nat) (ys : List Value), i <= n /\ v = .int .i64 i /\ q = .int .i64 ((i + 1 : Nat) : Int) /\ wr.ownsRow base 3 1 (.slice a n c) n ys /\ (∀ j, j < i -> ys[j]? = some (.int .i64 ((j + 1 : Nat) : Int))) /\ Out base w.heap.size w wr) (fun _ v _ => n - (intOf v).toNat)
 case atStart => exact ⟨0, xs, Nat.zero_le _, rfl, rfl, u_ HO, fun j hj => absurd hj (Nat.not_lt_zero _), Out.refl _ _ _⟩
 case round =>
  obtain ⟨i, ys, hil, rfl, rfl, ho, hy, hout⟩ := hrel
  by_cases hlt : i < n
  . have hlt' : (i : Int) < n := by omega
    obtain ⟨g, rfl, hg1, hg2⟩ := own_some ho hlt
    have hgw : g < w.heap.size := by
     obtain ⟨g', e, -, h⟩ := own_some (u_ HO) hlt
     cases e
     exact h
    have hyl : ys.length = n := by have := ho.1; omega
    have c0 : wr.cell? ⟨g, i, none⟩ = some ys[i] := (ho.cellAt i (by omega)).trans (List.getElem?_eq_getElem (by omega))
    have f0 := ho.frozenAt i
    have HO2 := h_ (ho.stored i (.int .i64 ((i + 1 : Nat) : Int))).1
    have HT2 := h_ (hout.trans (Out.set (a := ⟨g, i, none⟩) (.int .i64 ((i + 1 : Nat) : Int)) hg1 hgw))
    have HY2 : Hid (∀ j, j < i + 1 -> (ys.set i (.int .i64 ((i + 1 : Nat) : Int)))[j]? = some (.int .i64 ((j + 1 : Nat) : Int))) := h_ fun j hj => by
     by_cases e : j = i
     . subst e
       rw [List.getElem?_set_self (by omega)]
     . rw [List.getElem?_set_ne (fun h => e h.symm)]
       exact hy j (by omega)
    generalize ys[i] = u at *
    obtain ⟨q, hq⟩ : ∃ q, i + 1 = q := ⟨_, rfl⟩
    rw [hq] at HO2 HT2 HY2
    have hq' : (q : Int) <= 1000000 := by omega
    rw [hq]
    clear ho hy hout
    go_wp2_with fail
    go_roundw
    case rel => first | exact ⟨i + 1, _, by omega, by go_num, by rw [hq]; go_num, u_ HO2, by rw [hq]; exact u_ HY2, u_ HT2⟩ | ((repeat apply Exists.intro); exact ⟨⟨i + 1, _, by omega, by go_num, by rw [hq]; go_num, u_ HO2, by rw [hq]; exact u_ HY2, u_ HT2⟩, rfl⟩)
    case measure => simp [intOf]; omega
  . obtain rfl : i = n := by omega
    have hlt' : ¬ (i : Int) < (i : Int) := by omega
    have HX : Hid (wr.ownsRow base 3 1 (.slice a i c) i (zs i fun j => ((j + 1 : Nat) : Int))) := h_ (by
     have e : ys = zs i fun j => ((j + 1 : Nat) : Int) := by
      refine List.ext_getElem? fun j => ?_
      by_cases hj : j < i
      . rw [hy j hj, zs_at _ hj]
      . rw [List.getElem?_eq_none (by have := ho.1; omega), List.getElem?_eq_none (by rw [zs_len]; omega)]
     rw [<- e]
     exact ho)
    have HT := h_ hout
    obtain ⟨q, hq⟩ : ∃ q, i + 1 = q := ⟨_, rfl⟩
    rw [hq]
    clear ho hy hout
    go_wp2_with fail
    go_ret
    exact ⟨rfl, u_ HX, u_ HT⟩
set_option maxRecDepth 100000 in
set_option maxHeartbeats 1000000 in
theorem heldRow_any (a : Option Addr) (c n base : Nat) (w : World) (hn : n <= 1000000) (ho : w.ownsRow base 3 1 (.slice a n c) n (zs n fun i => ((i + 1 : Nat) : Int))) :
 Calls Tryz.prog 13 #[.slice a n c, .int .i64 1] w fun r w' => r = .returned (.int .i64 ((n + 1 : Nat) : Int)) /\ Below w.heap.size w w' := by
 have HO := h_ ho
 clear ho
 go_enter Tryz.func13, Tryz.ntmps13
 go_wp2_with fail
 go_loopw [1, 5] (fun q v wr => ∃ (i : Nat), i <= n /\ v = .int .i64 i /\ q = .int .i64 ((i + 1 : Nat) : Int) /\ Below w.heap.size w wr) (fun _ v _ => n - (intOf v).toNat)
 case atStart => exact ⟨0, Nat.zero_le _, rfl, rfl, Below.refl _ _⟩
 case round =>
  obtain ⟨i, hil, rfl, rfl, hb⟩ := hrel
  have ho := owns_mono (u_ HO) hb
  have HB := h_ hb
  by_cases hlt : i < n
  . have hlt' : (i : Int) < n := by omega
    obtain ⟨g, rfl, hg1, hg2⟩ := own_some ho hlt
    have c0 : wr.cell? ⟨g, i, none⟩ = some (.int .i64 ((i + 1 : Nat) : Int)) := (ho.cellAt i (by omega)).trans (zs_at _ hlt)
    obtain ⟨q, hq⟩ : ∃ q, i + 1 = q := ⟨_, rfl⟩
    rw [hq] at c0
    have hq' : (q : Int) <= 1000000 := by omega
    rw [hq]
    clear ho hb
    go_wp2_with fail
    go_roundw
    case rel => first | exact ⟨i + 1, by omega, by go_num, by rw [hq]; go_num, u_ HB⟩ | ((repeat apply Exists.intro); exact ⟨⟨i + 1, by omega, by go_num, by rw [hq]; go_num, u_ HB⟩, rfl⟩)
    case measure => simp [intOf]; omega
  . obtain rfl : i = n := by omega
    have hlt' : ¬ (i : Int) < (i : Int) := by omega
    obtain ⟨q, hq⟩ : ∃ q, i + 1 = q := ⟨_, rfl⟩
    rw [hq]
    clear ho hb
    go_wp2_with fail
    go_ret
    exact ⟨rfl, u_ HB⟩
/-- Two rows of the same places are equal. -/
theorem eqPlc_any (a b : Option Addr) (l : List Nat) (ca cb : Nat) (w : World) (hl : l.length <= 1000000) (ha : Plc w a l) (hb : Plc w b l) :
 Calls Tryz.prog 9 #[.slice a l.length ca, .slice b l.length cb] w fun r w' => r = .returned (.bool true) /\ Below w.heap.size w w' := by
 have h := eqIntS_same a b (fun k => (l.map fun x : Nat => (x : Int)).getD k 0) (fun k => (l.map fun x : Nat => (x : Int)).getD k 0) l.length ca cb w (by have := ha; unfold Plc IntL at this; rw [List.length_map] at this; exact this) (by have := hb; unfold Plc IntL at this; rw [List.length_map] at this; exact this) (by omega)
 rw [sameI_true fun _ _ => rfl] at h
 exact h
end Go.Proofs.YtalgidagiojbpaaGreatDoor
