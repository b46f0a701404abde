import Derived.Test.YtalgidagiojbpaaGreatDoorQGRa
import Derived.Test.YtalgidagiojbpaaGreatDoorQBk
import Derived.Test.YtalgidagiojbpaaGreatDoorQOwn
import Derived.Laws.BytesString
/- Marking what a form holds, in package laws: texts, and rows of one kind. -/
namespace Go.Proofs.YtalgidagiojbpaaGreatDoor
open Go Go.RowKit
/-- Nothing has turned outside the blocks from lo up to hi; every block keeps its kind and size. -/
structure MkL (lo hi : Nat) (W W' : World) : Prop where
 out : Out lo hi W W'
 bk : ∀ g t n, Bk W g t n -> Bk W' g t n
theorem MkL.refl (lo hi : Nat) (W : World) : MkL lo hi W W := ⟨Out.refl _ _ _, fun _ _ _ h => h⟩
theorem MkL.trans {lo hi : Nat} {A B C : World} (h : MkL lo hi A B) (k : MkL lo hi B C) : MkL lo hi A C := ⟨h.out.trans k.out, fun g t n hb => k.bk g t n (h.bk g t n hb)⟩
theorem MkL.below {lo hi : Nat} {W W' : World} (h : Below W.heap.size W W') : MkL lo hi W W' := ⟨⟨h.os, h.tape, h.output, h.size, fun b hb _ => h.block b hb⟩, fun _ _ _ hb => hb.mono h hb.lt⟩
theorem MkL.set {lo hi : Nat} {W : World} {g : Nat} (j : Nat) (v : Value) (h1 : lo <= g) (h2 : g < hi) : MkL lo hi W (W.setCell ⟨g, j, none⟩ v) :=
 ⟨Out.set (a := ⟨g, j, none⟩) v h1 h2, fun g' t' n' hb => by
  by_cases e : g' = g
  . subst e; exact hb.set j v
  . exact hb.other e j v⟩
theorem MkL.lower {lo lo' hi : Nat} {W W' : World} (h : MkL lo hi W W') (hl : lo' <= lo) : MkL lo' hi W W' := ⟨h.out.mono hl, h.bk⟩
theorem conv_one (W : World) (c : Int) : (convert 145 9 (.slice (some ⟨W.heap.size, 0, none⟩) 1 1)).run Tryz.prog (W.alloc (.cells #[.int .u8 c] 5)) = .ok (.string (ByteArray.empty.push (UInt8.ofNat c.toNat))) (W.alloc (.cells #[.int .u8 c] 5)) := by
 rw [run_convert_bytes_string _ 145 9 5 _ _ _ Tryz.underlying145 Tryz.underlying5 Tryz.underlying9]
 have h := run_loadCells_list (P := Tryz.prog) (W.alloc (.cells #[.int .u8 c] 5)) ⟨W.heap.size, 0, none⟩ ([c].map (Value.int .u8)) (cell_one W 5 (.int .u8 c))
 exact run_bytesToString (P := Tryz.prog) (W.alloc (.cells #[.int .u8 c] 5)) ⟨W.heap.size, 0, none⟩ 1 1 [c] h
set_option maxRecDepth 100000 in
set_option maxHeartbeats 1000000 in
theorem markText_any (k : Nat) (w : World) (hk : k <= 4611686018427387904) : Calls Tryz.prog 69 #[.int .i64 k] w fun r w' => ∃ s, r = .returned (.string s) /\ Below w.heap.size w w' := by
 by_cases h0 : k = 0
 . subst h0
   go_enter Tryz.func69, Tryz.ntmps69
   go_wp2_with fail
   go_ret
   exact ⟨_, rfl, Below.refl _ _⟩
 . have h0' : ¬ (k : Int) <= 0 := by omega
   have hk' : (k : Int) <= 4611686018427387904 := by omega
   go_enter Tryz.func69, Tryz.ntmps69
   go_wp2_with fail
   go_loopw [0, 3] (fun v s wr => ∃ (q : Nat) (t : ByteArray), v = .int .i64 q /\ s = .string t /\ t.size + q <= 4611686018427387904 /\ Below w.heap.size w wr) (fun v _ _ => (intOf v).toNat)
   case atStart => exact ⟨k, _, rfl, rfl, by show 0 + k <= _; omega, Below.refl _ _⟩
   case round =>
    clear h0 h0' hk' hk
    obtain ⟨q, t, rfl, rfl, hq, hb⟩ := hrel
    have HB := h_ hb
    clear hb
    have hts : t.size <= 4611686018427387904 := by omega
    have hts' : (t.size : Int) <= 4611686018427387904 := by omega
    by_cases h0 : q = 0
    . subst h0
      go_wp2_with fail
      go_ret
      exact ⟨_, rfl, u_ HB⟩
    . have h0' : (0 : Int) < q := by omega
      have hq' : (q : Int) <= 4611686018427387904 := by omega
      obtain ⟨s1, hs1⟩ : ∃ s1, ByteArray.empty.push (UInt8.ofNat (48 + (q : Int) % 10).toNat) = s1 := ⟨_, rfl⟩
      have hz1 : s1.size = 1 := by rw [<- hs1]; rfl
      have hcv := conv_one wr (48 + (q : Int) % 10)
      rw [hs1] at hcv
      clear hs1
      have HB2 := h_ ((u_ HB).alloc (u_ HB).size (.cells #[.int .u8 (48 + (q : Int) % 10)] 5))
      go_wp2_with fail
      clear hcv
      go_roundw
      case rel => exact ⟨q / 10, _, by go_num, rfl, by rw [ByteArray.size_append]; omega, u_ HB2⟩
      case measure => simp [intOf]; omega
set_option maxRecDepth 100000 in
set_option maxHeartbeats 1000000 in
theorem markStringS_bk (g n c k lo hi : Nat) (w : World) (hk : k + n <= 4611686018427387904) (hb : Bk w g 9 n) (hl : lo <= g) (hh : g < hi) :
 Calls Tryz.prog 36 #[.slice (some ⟨g, 0, none⟩) n c, .int .i64 k] w fun r w' => r = .returned (.int .i64 ((k + n : Nat) : Int)) /\ MkL lo hi w w' := by
 have HBk := h_ hb
 clear hb
 go_enter Tryz.func36, Tryz.ntmps36
 go_wp2_with fail
 go_loopw [1, 5] (fun q v wr => ∃ i : Nat, i <= n /\ v = .int .i64 i /\ q = .int .i64 ((k + i : Nat) : Int) /\ MkL lo hi w wr) (fun _ v _ => n - (intOf v).toNat)
 case atStart => exact ⟨0, Nat.zero_le _, rfl, rfl, MkL.refl _ _ _⟩
 case round =>
  obtain ⟨i, hi', rfl, rfl, hm⟩ := hrel
  have HM := h_ hm
  have HBr := h_ (hm.bk _ _ _ (u_ HBk))
  clear hm
  by_cases hlt : i < n
  . have hlt' : (i : Int) < n := by omega
    obtain ⟨q, hq⟩ : ∃ q, k + i = q := ⟨_, rfl⟩
    have hq' : (q : Int) < 4611686018427387904 := by omega
    rw [hq]
    go_wp2_with fail
    refine (markText_any q wr (by omega)).mono ?_
    rintro e W2 ⟨s, rfl, hb2⟩
    have HB2 := h_ ((u_ HBr).mono hb2 (u_ HBr).lt)
    obtain ⟨u, c0⟩ := (u_ HB2).cell hlt
    have f0 := (u_ HB2).free i
    have HM2 := h_ (((u_ HM).trans (MkL.below hb2)).trans (MkL.set i (.string s) hl hh))
    clear hb2
    go_wp2_with fail
    go_roundw
    case rel => first | exact ⟨i + 1, by omega, by go_num, by go_num, u_ HM2⟩ | ((repeat apply Exists.intro); exact ⟨⟨i + 1, by omega, by go_num, by go_num, u_ HM2⟩, rfl⟩)
    case measure => simp [intOf]; omega
  . obtain rfl : i = n := by omega
    have hlt' : ¬ (i : Int) < (i : Int) := by omega
    obtain ⟨q, hq⟩ : ∃ q, k + i = q := ⟨_, rfl⟩
    rw [hq]
    go_wp2_with fail
    go_ret
    exact ⟨rfl, u_ HM⟩
set_option maxRecDepth 100000 in
set_option maxHeartbeats 1000000 in
theorem markIntS_bk (g n c k lo hi : Nat) (w : World) (hk : k + n <= 4611686018427387904) (hb : Bk w g 3 n) (hl : lo <= g) (hh : g < hi) :
 Calls Tryz.prog 12 #[.slice (some ⟨g, 0, none⟩) n c, .int .i64 k] w fun r w' => r = .returned (.int .i64 ((k + n : Nat) : Int)) /\ MkL lo hi w w' := by
 have HBk := h_ hb
 clear hb
 go_enter Tryz.func12, Tryz.ntmps12
 go_wp2_with fail
 go_loopw [1, 5] (fun q v wr => ∃ i : Nat, i <= n /\ v = .int .i64 i /\ q = .int .i64 ((k + i : Nat) : Int) /\ MkL lo hi w wr) (fun _ v _ => n - (intOf v).toNat)
 case atStart => exact ⟨0, Nat.zero_le _, rfl, rfl, MkL.refl _ _ _⟩
 case round =>
  obtain ⟨i, hi', rfl, rfl, hm⟩ := hrel
  have HM := h_ hm
  have HBr := h_ (hm.bk _ _ _ (u_ HBk))
  clear hm
  by_cases hlt : i < n
  . have hlt' : (i : Int) < n := by omega
    obtain ⟨q, hq⟩ : ∃ q, k + i = q := ⟨_, rfl⟩
    have hq' : (q : Int) < 4611686018427387904 := by omega
    rw [hq]
    obtain ⟨u, c0⟩ := (u_ HBr).cell hlt
    have f0 := (u_ HBr).free i
    have HM2 := h_ ((u_ HM).trans (MkL.set i (.int .i64 (q : Int)) hl hh))
    go_wp2_with fail
    go_roundw
    case rel => first | exact ⟨i + 1, by omega, by go_num, by go_num, u_ HM2⟩ | ((repeat apply Exists.intro); exact ⟨⟨i + 1, by omega, by go_num, by go_num, u_ HM2⟩, rfl⟩)
    case measure => simp [intOf]; omega
  . obtain rfl : i = n := by omega
    have hlt' : ¬ (i : Int) < (i : Int) := by omega
    obtain ⟨q, hq⟩ : ∃ q, k + i = q := ⟨_, rfl⟩
    rw [hq]
    go_wp2_with fail
    go_ret
    exact ⟨rfl, u_ HM⟩
set_option maxRecDepth 100000 in
set_option maxHeartbeats 1000000 in
theorem markPairS_bk (g n c k lo hi : Nat) (w : World) (hk : k + n * 2 <= 4611686018427387904) (hb : Bk w g 93 (n * 2)) (hl : lo <= g) (hh : g < hi) :
 Calls Tryz.prog 37 #[.slice (some ⟨g, 0, none⟩) n c, .int .i64 k] w fun r w' => r = .returned (.int .i64 ((k + n * 2 : Nat) : Int)) /\ MkL lo hi w w' := by
 have HBk := h_ hb
 clear hb
 go_enter Tryz.func37, Tryz.ntmps37
 go_wp2_with fail
 go_loopw [1, 5] (fun q v wr => ∃ i : Nat, i <= n /\ v = .int .i64 i /\ q = .int .i64 ((k + i * 2 : Nat) : Int) /\ MkL lo hi w wr) (fun _ v _ => n - (intOf v).toNat)
 case atStart => exact ⟨0, Nat.zero_le _, rfl, by simp, MkL.refl _ _ _⟩
 case round =>
  obtain ⟨i, hi', rfl, rfl, hm⟩ := hrel
  have HM := h_ hm
  have HBr := h_ (hm.bk _ _ _ (u_ HBk))
  clear hm
  by_cases hlt : i < n
  . have hlt' : (i : Int) < n := by omega
    obtain ⟨q, hq⟩ : ∃ q, k + i * 2 = q := ⟨_, rfl⟩
    have hq' : (q : Int) + 1 < 4611686018427387904 := by omega
    rw [hq]
    obtain ⟨u, c0⟩ := (u_ HBr).cell (show i * 2 < n * 2 by omega)
    obtain ⟨u1, c1⟩ := (u_ HBr).cell (show i * 2 + 1 < n * 2 by omega)
    have f0 := (u_ HBr).free (i * 2); have f1 := (u_ HBr).free (i * 2 + 1)
    have HM2 := h_ (((u_ HM).trans (MkL.set (i * 2) (.int .i64 (q : Int)) hl hh)).trans (MkL.set (i * 2 + 1) (.int .i64 ((q : Int) + 1)) hl hh))
    go_wp2_with fail
    go_roundw
    case rel => first | exact ⟨i + 1, by omega, by go_num, by rw [show k + (i + 1) * 2 = q + 2 by omega]; go_num, u_ HM2⟩ | ((repeat apply Exists.intro); exact ⟨⟨i + 1, by omega, by go_num, by rw [show k + (i + 1) * 2 = q + 2 by omega]; go_num, u_ HM2⟩, rfl⟩)
    case measure => simp [intOf]; omega
  . obtain rfl : i = n := by omega
    have hlt' : ¬ (i : Int) < (i : Int) := by omega
    obtain ⟨q, hq⟩ : ∃ q, k + i * 2 = q := ⟨_, rfl⟩
    rw [hq]
    go_wp2_with fail
    go_ret
    exact ⟨rfl, u_ HM⟩
set_option maxRecDepth 100000 in
set_option maxHeartbeats 1000000 in
theorem markRoleS_bk (g n c k lo hi : Nat) (w : World) (hk : k + n * 2 <= 4611686018427387904) (hb : Bk w g 94 (n * 2)) (hl : lo <= g) (hh : g < hi) :
 Calls Tryz.prog 38 #[.slice (some ⟨g, 0, none⟩) n c, .int .i64 k] w fun r w' => r = .returned (.int .i64 ((k + n * 2 : Nat) : Int)) /\ MkL lo hi w w' := by
 have HBk := h_ hb
 clear hb
 go_enter Tryz.func38, Tryz.ntmps38
 go_wp2_with fail
 go_loopw [1, 5] (fun q v wr => ∃ i : Nat, i <= n /\ v = .int .i64 i /\ q = .int .i64 ((k + i * 2 : Nat) : Int) /\ MkL lo hi w wr) (fun _ v _ => n - (intOf v).toNat)
 case atStart => exact ⟨0, Nat.zero_le _, rfl, by simp, MkL.refl _ _ _⟩
 case round =>
  obtain ⟨i, hi', rfl, rfl, hm⟩ := hrel
  have HM := h_ hm
  have HBr := h_ (hm.bk _ _ _ (u_ HBk))
  clear hm
  by_cases hlt : i < n
  . have hlt' : (i : Int) < n := by omega
    obtain ⟨q, hq⟩ : ∃ q, k + i * 2 = q := ⟨_, rfl⟩
    have hq' : (q : Int) + 1 < 4611686018427387904 := by omega
    rw [hq]
    go_wp2_with fail
    refine (markText_any q wr (by omega)).mono ?_
    rintro e W2 ⟨s, rfl, hb2⟩
    have HB2 := h_ ((u_ HBr).mono hb2 (u_ HBr).lt)
    obtain ⟨u, c0⟩ := (u_ HB2).cell (show i * 2 < n * 2 by omega)
    obtain ⟨u1, c1⟩ := (u_ HB2).cell (show i * 2 + 1 < n * 2 by omega)
    have f0 := (u_ HB2).free (i * 2); have f1 := (u_ HB2).free (i * 2 + 1)
    have HM2 := h_ ((((u_ HM).trans (MkL.below hb2)).trans (MkL.set (i * 2) (.string s) hl hh)).trans (MkL.set (i * 2 + 1) (.int .i64 ((q : Int) + 1)) hl hh))
    clear hb2
    go_wp2_with fail
    go_roundw
    case rel => first | exact ⟨i + 1, by omega, by go_num, by rw [show k + (i + 1) * 2 = q + 2 by omega]; go_num, u_ HM2⟩ | ((repeat apply Exists.intro); exact ⟨⟨i + 1, by omega, by go_num, by rw [show k + (i + 1) * 2 = q + 2 by omega]; go_num, u_ HM2⟩, rfl⟩)
    case measure => simp [intOf]; omega
  . obtain rfl : i = n := by omega
    have hlt' : ¬ (i : Int) < (i : Int) := by omega
    obtain ⟨q, hq⟩ : ∃ q, k + i * 2 = q := ⟨_, rfl⟩
    rw [hq]
    go_wp2_with fail
    go_ret
    exact ⟨rfl, u_ HM⟩
set_option maxRecDepth 100000 in
set_option maxHeartbeats 2000000 in
theorem markNodeS_bk (g n c k lo hi : Nat) (w : World) (hk : k + n * 5 <= 4611686018427387904) (hb : Bk w g 149 (n * 5)) (hl : lo <= g) (hh : g < hi) :
 Calls Tryz.prog 70 #[.slice (some ⟨g, 0, none⟩) n c, .int .i64 k] w fun r w' => r = .returned (.int .i64 ((k + n * 5 : Nat) : Int)) /\ MkL lo hi w w' := by
 have HBk := h_ hb
 clear hb
 go_enter Tryz.func70, Tryz.ntmps70
 go_wp2_with fail
 go_loopw [1, 5] (fun q v wr => ∃ i : Nat, i <= n /\ v = .int .i64 i /\ q = .int .i64 ((k + i * 5 : Nat) : Int) /\ MkL lo hi w wr) (fun _ v _ => n - (intOf v).toNat)
 case atStart => exact ⟨0, Nat.zero_le _, rfl, by simp, MkL.refl _ _ _⟩
 case round =>
  obtain ⟨i, hi', rfl, rfl, hm⟩ := hrel
  have HM := h_ hm
  have HBr := h_ (hm.bk _ _ _ (u_ HBk))
  clear hm
  by_cases hlt : i < n
  . have hlt' : (i : Int) < n := by omega
    obtain ⟨q, hq⟩ : ∃ q, k + i * 5 = q := ⟨_, rfl⟩
    have hq' : (q : Int) + 5 < 4611686018427387904 + 1 := by omega
    rw [hq]
    obtain ⟨u, c0⟩ := (u_ HBr).cell (show i * 5 < n * 5 by omega)
    obtain ⟨u1, c1⟩ := (u_ HBr).cell (show i * 5 + 1 < n * 5 by omega)
    obtain ⟨u2, c2⟩ := (u_ HBr).cell (show i * 5 + 2 < n * 5 by omega)
    have f0 := (u_ HBr).free (i * 5); have f1 := (u_ HBr).free (i * 5 + 1); have f2 := (u_ HBr).free (i * 5 + 2)
    have HM1 := h_ ((((u_ HM).trans (MkL.set (i * 5) (.int .i64 (q : Int)) hl hh)).trans (MkL.set (i * 5 + 1) (.int .i64 ((q : Int) + 1)) hl hh)).trans (MkL.set (i * 5 + 2) (.int .i64 ((q : Int) + 1 + 1)) hl hh))
    have HB1 := h_ ((((u_ HBr).set (i * 5) (.int .i64 (q : Int))).set (i * 5 + 1) (.int .i64 ((q : Int) + 1))).set (i * 5 + 2) (.int .i64 ((q : Int) + 1 + 1)))
    go_wp2_with fail
    obtain ⟨W1, hW1⟩ : ∃ W1, ((wr.setCell ⟨g, i * 5, none⟩ (.int .i64 (q : Int))).setCell ⟨g, i * 5 + 1, none⟩ (.int .i64 ((q : Int) + 1))).setCell ⟨g, i * 5 + 2, none⟩ (.int .i64 ((q : Int) + 1 + 1)) = W1 := ⟨_, rfl⟩
    rw [hW1] at HM1 HB1 ⊢
    clear hW1 c0 c1 c2 f0 f1 f2
    have HT1 := h_ (markText_any (q + 1 + 1 + 1) W1 (by omega))
    simp only [Int.natCast_add, Int.cast_ofNat_Int] at HT1
    refine (u_ HT1).mono ?_
    rintro e W2 ⟨s, rfl, hb2⟩
    have HB2 := h_ ((u_ HB1).mono hb2 (u_ HB1).lt)
    obtain ⟨u, c0⟩ := (u_ HB2).cell (show i * 5 + 3 < n * 5 by omega)
    have f0 := (u_ HB2).free (i * 5 + 3)
    have HM2 := h_ (((u_ HM1).trans (MkL.below hb2)).trans (MkL.set (i * 5 + 3) (.string s) hl hh))
    have HB2' := h_ ((u_ HB2).set (i * 5 + 3) (.string s))
    clear hb2 HT1
    go_wp2_with fail
    obtain ⟨W3, hW3⟩ : ∃ W3, W2.setCell ⟨g, i * 5 + 3, none⟩ (.string s) = W3 := ⟨_, rfl⟩
    rw [hW3] at HM2 HB2' ⊢
    clear hW3 c0 f0
    have HT1 := h_ (markText_any (q + 1 + 1 + 1 + 1) W3 (by omega))
    simp only [Int.natCast_add, Int.cast_ofNat_Int] at HT1
    refine (u_ HT1).mono ?_
    rintro e W4 ⟨s2, rfl, hb4⟩
    have HB4 := h_ ((u_ HB2').mono hb4 (u_ HB2').lt)
    obtain ⟨u', c0⟩ := (u_ HB4).cell (show i * 5 + 4 < n * 5 by omega)
    have f0 := (u_ HB4).free (i * 5 + 4)
    have HM4 := h_ (((u_ HM2).trans (MkL.below hb4)).trans (MkL.set (i * 5 + 4) (.string s2) hl hh))
    clear hb4 HT1
    go_wp2_with fail
    go_roundw
    case rel => first | exact ⟨i + 1, by omega, by go_num, by rw [show k + (i + 1) * 5 = q + 5 by omega]; go_num, u_ HM4⟩ | ((repeat apply Exists.intro); exact ⟨⟨i + 1, by omega, by go_num, by rw [show k + (i + 1) * 5 = q + 5 by omega]; go_num, u_ HM4⟩, rfl⟩)
    case measure => simp [intOf]; omega
  . obtain rfl : i = n := by omega
    have hlt' : ¬ (i : Int) < (i : Int) := by omega
    obtain ⟨q, hq⟩ : ∃ q, k + i * 5 = q := ⟨_, rfl⟩
    rw [hq]
    go_wp2_with fail
    go_ret
    exact ⟨rfl, u_ HM⟩
end Go.Proofs.YtalgidagiojbpaaGreatDoor
