import Derived.Test.YtjgngbmkpiihgaaGreatDoorBase
import Derived.Test.YtjgngbmkpiihgaaGreatDoorGRn
import Derived.Test.YtjgngbmkpiihgaaGreatDoorOwn
import Derived.Laws.BytesString
import Derived.Test.YtjgngbmkpiihgaaGreatDoorZNdO
/- A block of so many cells that may be written. -/
namespace Go.Proofs.YtjgngbmkpiihgaaGreatDoor
open Go Go.RowKit

def Bk (w : World) (g : Nat) (t : TypeId) (n : Nat) : Prop := ∃ cs, Blk w g t cs ∧ cs.length = n
theorem Bk.lt {w : World} {g : Nat} {t : TypeId} {n : Nat} (h : Bk w g t n) : g < w.heap.size := h.elim fun _ h => h.1.lt
theorem Bk.mono {w w' : World} {B g : Nat} {t : TypeId} {n : Nat} (h : Bk w g t n) (hb : Below B w w') (hg : g < B) : Bk w' g t n := h.elim fun cs h => ⟨cs, h.1.mono hb hg, h.2⟩
theorem Bk.keep {w w' : World} {g : Nat} {t : TypeId} {n : Nat} (h : Bk w g t n) (hk : w'.heap[g]? = w.heap[g]?) : Bk w' g t n := h.elim fun cs h => ⟨cs, hk.trans h.1, h.2⟩
theorem Bk.other {w : World} {g : Nat} {t : TypeId} {n : Nat} (h : Bk w g t n) {R : Nat} (hR : g ≠ R) (j : Nat) (v : Value) : Bk (w.setCell ⟨R, j, none⟩ v) g t n := h.elim fun cs h => ⟨cs, h.1.other v hR, h.2⟩
theorem Bk.set {w : World} {g : Nat} {t : TypeId} {n : Nat} (h : Bk w g t n) (j : Nat) (v : Value) : Bk (w.setCell ⟨g, j, none⟩ v) g t n := h.elim fun cs h => ⟨cs.set j v, h.1.set j v, by rw [List.length_set]; exact h.2⟩
theorem Bk.cell {w : World} {g : Nat} {t : TypeId} {n : Nat} (h : Bk w g t n) {j : Nat} (hj : j < n) : ∃ v, w.cell? ⟨g, j, none⟩ = some v := h.elim fun cs h => ⟨_, (h.1.cell j).trans (List.getElem?_eq_getElem (by rw [h.2]; exact hj))⟩
theorem Bk.free {w : World} {g : Nat} {t : TypeId} {n : Nat} (h : Bk w g t n) (j : Nat) : w.frozen? ⟨g, j, none⟩ = false := h.elim fun _ h => h.1.free j
end Go.Proofs.YtjgngbmkpiihgaaGreatDoor

/- (loose) Marking what a form holds, in package laws: texts, and rows of one kind. -/
namespace Go.Proofs.YtjgngbmkpiihgaaGreatDoor
open Go Go.RowKit

/-- Nothing has turned outside the blocks from lo up to hi; every block keeps its kind and size. -/
structure MkL (lo hi : Nat) (W W' : World) : Prop where
  out : Out lo hi W W'
  bk : ∀ g t n, Bk W g t n → Bk W' g t n
theorem MkL.refl (lo hi : Nat) (W : World) : MkL lo hi W W := ⟨Out.refl _ _ _, fun _ _ _ h => h⟩
theorem MkL.trans {lo hi : Nat} {A B C : World} (h : MkL lo hi A B) (k : MkL lo hi B C) : MkL lo hi A C := ⟨h.out.trans k.out, fun g t n hb => k.bk g t n (h.bk g t n hb)⟩
theorem MkL.below {lo hi : Nat} {W W' : World} (h : Below W.heap.size W W') : MkL lo hi W W' := ⟨⟨h.os, h.tape, h.output, h.size, fun b hb _ => h.block b hb⟩, fun _ _ _ hb => hb.mono h hb.lt⟩
theorem MkL.set {lo hi : Nat} {W : World} {g : Nat} (j : Nat) (v : Value) (h1 : lo ≤ g) (h2 : g < hi) : MkL lo hi W (W.setCell ⟨g, j, none⟩ v) :=
  ⟨Out.set (a := ⟨g, j, none⟩) v h1 h2, fun g' t' n' hb => by
    by_cases e : g' = g
    · subst e; exact hb.set j v
    · exact hb.other e j v⟩
theorem MkL.lower {lo lo' hi : Nat} {W W' : World} (h : MkL lo hi W W') (hl : lo' ≤ lo) : MkL lo' hi W W' := ⟨h.out.mono hl, h.bk⟩

theorem Bk.cell_ne {w : World} {g : Nat} {t : TypeId} {n : Nat} (h : Bk w g t n) {p q : Nat} (hpq : p ≠ q) (v : Value) : (w.setCell ⟨g, p, none⟩ v).cell? ⟨g, q, none⟩ = w.cell? ⟨g, q, none⟩ := by
  obtain ⟨cs, h1, -⟩ := h
  rw [(h1.set p v).cell q, h1.cell q, List.getElem?_set_ne hpq]
theorem conv_one (W : World) (c : Int) : (convert 22 9 (.slice (some ⟨W.heap.size, 0, none⟩) 1 1)).run Tryz.prog (W.alloc (.cells #[.int .u8 c] 5)) = .ok (.string (ByteArray.empty.push (UInt8.ofNat c.toNat))) (W.alloc (.cells #[.int .u8 c] 5)) := by
  rw [run_convert_bytes_string _ 22 9 5 _ _ _ Tryz.underlying22 Tryz.underlying5 Tryz.underlying9]
  have h := run_loadCells_list (P := Tryz.prog) (W.alloc (.cells #[.int .u8 c] 5)) ⟨W.heap.size, 0, none⟩ ([c].map (Value.int .u8)) (cell_one W 5 (.int .u8 c))
  exact run_bytesToString (P := Tryz.prog) (W.alloc (.cells #[.int .u8 c] 5)) ⟨W.heap.size, 0, none⟩ 1 1 [c] h

set_option maxRecDepth 100000 in
set_option maxHeartbeats 1000000 in
theorem markText_any (k : Nat) (w : World) (hk : k ≤ 4611686018427387904) : Calls Tryz.prog 40 #[.int .i64 k] w fun r w' => ∃ s, r = .returned (.string s) ∧ Below w.heap.size w w' := by
  by_cases h0 : k = 0
  · subst h0
    go_enter Tryz.func40, Tryz.ntmps40
    go_wp2_with fail
    go_ret
    exact ⟨_, rfl, Below.refl _ _⟩
  · have h0' : ¬ (k : Int) ≤ 0 := by omega
    have hk' : (k : Int) ≤ 4611686018427387904 := by omega
    go_enter Tryz.func40, Tryz.ntmps40
    go_wp2_with fail
    go_loopw [0, 3] (fun v s wr => ∃ (q : Nat) (t : ByteArray), v = .int .i64 q ∧ s = .string t ∧ t.size + q ≤ 4611686018427387904 ∧ Below w.heap.size w wr) (fun v _ _ => (intOf v).toNat)
    case atStart => exact ⟨k, _, rfl, rfl, by show 0 + k ≤ _; omega, Below.refl _ _⟩
    case round =>
      clear h0 h0' hk' hk
      obtain ⟨q, t, rfl, rfl, hq, hb⟩ := hrel
      have HB := hide hb
      clear hb
      have hts : t.size ≤ 4611686018427387904 := by omega
      have hts' : (t.size : Int) ≤ 4611686018427387904 := by omega
      by_cases h0 : q = 0
      · subst h0
        go_wp2_with fail
        go_ret
        exact ⟨_, rfl, unhide HB⟩
      · have h0' : (0 : Int) < q := by omega
        have hq' : (q : Int) ≤ 4611686018427387904 := by omega
        obtain ⟨s1, hs1⟩ : ∃ s1, ByteArray.empty.push (UInt8.ofNat (48 + (q : Int) % 10).toNat) = s1 := ⟨_, rfl⟩
        have hz1 : s1.size = 1 := by rw [← hs1]; rfl
        have hcv := conv_one wr (48 + (q : Int) % 10)
        rw [hs1] at hcv
        clear hs1
        have HB2 := hide ((unhide HB).alloc (unhide HB).size (.cells #[.int .u8 (48 + (q : Int) % 10)] 5))
        go_wp2_with fail
        clear hcv
        go_roundw
        case rel => exact ⟨q / 10, _, by go_num, rfl, by rw [ByteArray.size_append]; omega, unhide HB2⟩
        case measure => simp [intOf]; omega

set_option maxRecDepth 100000 in
set_option maxHeartbeats 2000000 in
theorem markNodeS_bk (g n c k lo hi : Nat) (w : World) (hk : k + n * 5 ≤ 4611686018427387904) (hb : Bk w g 41 (n * 5)) (hl : lo ≤ g) (hh : g < hi) :
    Calls Tryz.prog 14 #[.slice (some ⟨g, 0, none⟩) n c, .int .i64 k] w fun r w' => r = .returned (.int .i64 ((k + n * 5 : Nat) : Int)) ∧ MkL lo hi w w' := by
  have HBk := hide hb
  clear hb
  go_enter Tryz.func14, Tryz.ntmps14
  go_wp2_with fail
  go_loopw [1, 5] (fun q v wr => ∃ i : Nat, i ≤ n ∧ v = .int .i64 i ∧ q = .int .i64 ((k + i * 5 : Nat) : Int) ∧ MkL lo hi w wr) (fun _ v _ => n - (intOf v).toNat)
  case atStart => exact ⟨0, Nat.zero_le _, rfl, by simp, MkL.refl _ _ _⟩
  case round =>
    obtain ⟨i, hi', rfl, rfl, hm⟩ := hrel
    have HM := hide hm
    have HBr := hide (hm.bk _ _ _ (unhide HBk))
    clear hm
    by_cases hlt : i < n
    · have hlt' : (i : Int) < n := by omega
      obtain ⟨q, hq⟩ : ∃ q, k + i * 5 = q := ⟨_, rfl⟩
      have hq' : (q : Int) + 5 < 4611686018427387904 + 1 := by omega
      rw [hq]
      obtain ⟨u, c0⟩ := (unhide HBr).cell (show i * 5 < n * 5 by omega)
      obtain ⟨u1, c1⟩ := (unhide HBr).cell (show i * 5 + 1 < n * 5 by omega)
      obtain ⟨u2, c2⟩ := (unhide HBr).cell (show i * 5 + 2 < n * 5 by omega)
      have f0 := (unhide HBr).free (i * 5); have f1 := (unhide HBr).free (i * 5 + 1); have f2 := (unhide HBr).free (i * 5 + 2)
      have HM1 := hide ((((unhide HM).trans (MkL.set (i * 5) (.int .i64 (q : Int)) hl hh)).trans (MkL.set (i * 5 + 1) (.int .i64 ((q : Int) + 1)) hl hh)).trans (MkL.set (i * 5 + 2) (.int .i64 ((q : Int) + 1 + 1)) hl hh))
      have HB1 := hide ((((unhide HBr).set (i * 5) (.int .i64 (q : Int))).set (i * 5 + 1) (.int .i64 ((q : Int) + 1))).set (i * 5 + 2) (.int .i64 ((q : Int) + 1 + 1)))
      go_wp2_with fail
      obtain ⟨W1, hW1⟩ : ∃ W1, ((wr.setCell ⟨g, i * 5, none⟩ (.int .i64 (q : Int))).setCell ⟨g, i * 5 + 1, none⟩ (.int .i64 ((q : Int) + 1))).setCell ⟨g, i * 5 + 2, none⟩ (.int .i64 ((q : Int) + 1 + 1)) = W1 := ⟨_, rfl⟩
      rw [hW1] at HM1 HB1 ⊢
      clear hW1 c0 c1 c2 f0 f1 f2
      have HT1 := hide (markText_any (q + 1 + 1 + 1) W1 (by omega))
      simp only [Int.natCast_add, Int.cast_ofNat_Int] at HT1
      refine (unhide HT1).mono ?_
      rintro e W2 ⟨s, rfl, hb2⟩
      have HB2 := hide ((unhide HB1).mono hb2 (unhide HB1).lt)
      obtain ⟨u, c0⟩ := (unhide HB2).cell (show i * 5 + 3 < n * 5 by omega)
      have f0 := (unhide HB2).free (i * 5 + 3)
      have HM2 := hide (((unhide HM1).trans (MkL.below hb2)).trans (MkL.set (i * 5 + 3) (.string s) hl hh))
      have HB2' := hide ((unhide HB2).set (i * 5 + 3) (.string s))
      clear hb2 HT1
      go_wp2_with fail
      obtain ⟨W3, hW3⟩ : ∃ W3, W2.setCell ⟨g, i * 5 + 3, none⟩ (.string s) = W3 := ⟨_, rfl⟩
      rw [hW3] at HM2 HB2' ⊢
      clear hW3 c0 f0
      have HT1 := hide (markText_any (q + 1 + 1 + 1 + 1) W3 (by omega))
      simp only [Int.natCast_add, Int.cast_ofNat_Int] at HT1
      refine (unhide HT1).mono ?_
      rintro e W4 ⟨s2, rfl, hb4⟩
      have HB4 := hide ((unhide HB2').mono hb4 (unhide HB2').lt)
      obtain ⟨u', c0⟩ := (unhide HB4).cell (show i * 5 + 4 < n * 5 by omega)
      have f0 := (unhide HB4).free (i * 5 + 4)
      have HM4 := hide (((unhide HM2).trans (MkL.below hb4)).trans (MkL.set (i * 5 + 4) (.string s2) hl hh))
      clear hb4 HT1
      go_wp2_with fail
      go_roundw
      case rel => first | exact ⟨i + 1, by omega, by go_num, by rw [show k + (i + 1) * 5 = q + 5 by omega]; go_num, unhide HM4⟩ | ((repeat apply Exists.intro); exact ⟨⟨i + 1, by omega, by go_num, by rw [show k + (i + 1) * 5 = q + 5 by omega]; go_num, unhide HM4⟩, rfl⟩)
      case measure => simp [intOf]; omega
    · obtain rfl : i = n := by omega
      have hlt' : ¬ (i : Int) < (i : Int) := by omega
      obtain ⟨q, hq⟩ : ∃ q, k + i * 5 = q := ⟨_, rfl⟩
      rw [hq]
      go_wp2_with fail
      go_ret
      exact ⟨rfl, unhide HM⟩
end Go.Proofs.YtjgngbmkpiihgaaGreatDoor

/- (loose) Marks of cells, and of the rows of a view, in package laws. -/
namespace Go.Proofs.YtjgngbmkpiihgaaGreatDoor
open Go Go.RowKit

/-- The text of a mark. -/
def mtF : Nat → Nat → ByteArray → ByteArray
  | 0, _, t => t
  | f + 1, q, t => if q = 0 then t else mtF f (q / 10) (ByteArray.empty.push (UInt8.ofNat (48 + (q : Int) % 10).toNat) ++ t)
def mkT (k : Nat) : ByteArray := ⟨#[109]⟩ ++ mtF k k ⟨#[]⟩
theorem mtF_zero (f : Nat) (t : ByteArray) : mtF f 0 t = t := by cases f <;> rfl

set_option maxRecDepth 100000 in
set_option maxHeartbeats 1000000 in
theorem markText_eq (k : Nat) (w : World) (h1 : 0 < k) (hk : k ≤ 4611686018427387904) : Calls Tryz.prog 40 #[.int .i64 k] w fun r w' => r = .returned (.string (mkT k)) ∧ Below w.heap.size w w' := by
  have h0' : ¬ (k : Int) ≤ 0 := by omega
  have hk' : (k : Int) ≤ 4611686018427387904 := by omega
  go_enter Tryz.func40, Tryz.ntmps40
  go_wp2_with fail
  go_loopw [0, 3] (fun v s wr => ∃ (q : Nat) (t : ByteArray), v = .int .i64 q ∧ s = .string t ∧ t.size + q ≤ 4611686018427387904 ∧ (∃ f, q ≤ f ∧ mtF k k ⟨#[]⟩ = mtF f q t) ∧ Below w.heap.size w wr) (fun v _ _ => (intOf v).toNat)
  case atStart => exact ⟨k, _, rfl, rfl, by show 0 + k ≤ _; omega, ⟨k, Nat.le_refl _, rfl⟩, Below.refl _ _⟩
  case round =>
    clear h1 h0' hk' hk
    obtain ⟨q, t, rfl, rfl, hq, ⟨f, hf, hm⟩, hb⟩ := hrel
    have HB := hide hb
    clear hb
    have hts : t.size ≤ 4611686018427387904 := by omega
    have hts' : (t.size : Int) ≤ 4611686018427387904 := by omega
    by_cases h0 : q = 0
    · subst h0
      have HM : Hid (mkT k = ⟨#[109]⟩ ++ t) := hide (by unfold mkT; rw [hm, mtF_zero])
      clear hm hf
      go_wp2_with fail
      go_ret
      rw [unhide HM]
      exact ⟨rfl, unhide HB⟩
    · have h0' : (0 : Int) < q := by omega
      have hq' : (q : Int) ≤ 4611686018427387904 := by omega
      obtain ⟨s1, hs1⟩ : ∃ s1, ByteArray.empty.push (UInt8.ofNat (48 + (q : Int) % 10).toNat) = s1 := ⟨_, rfl⟩
      have hz1 : s1.size = 1 := by rw [← hs1]; rfl
      have HM : Hid (∃ f, q / 10 ≤ f ∧ mtF k k ⟨#[]⟩ = mtF f (q / 10) (s1 ++ t)) := hide (by
        obtain ⟨f', rfl⟩ : ∃ f', f = f' + 1 := ⟨f - 1, by omega⟩
        refine ⟨f', by omega, ?_⟩
        rw [hm, ← hs1]
        show (if q = 0 then t else _) = _
        rw [if_neg h0])
      have hcv := conv_one wr (48 + (q : Int) % 10)
      rw [hs1] at hcv
      clear hs1 hm hf
      have HB2 := hide ((unhide HB).alloc (unhide HB).size (.cells #[.int .u8 (48 + (q : Int) % 10)] 5))
      go_wp2_with fail
      clear hcv
      go_roundw
      case rel => exact ⟨q / 10, _, by go_num, rfl, by rw [ByteArray.size_append]; omega, unhide HM, unhide HB2⟩
      case measure => simp [intOf]; omega

theorem Bk.cell_eq {w : World} {g : Nat} {t : TypeId} {n j : Nat} (h : Bk w g t n) (hj : j < n) (v : Value) : (w.setCell ⟨g, j, none⟩ v).cell? ⟨g, j, none⟩ = some v := h.elim fun cs h => by
  rw [(h.1.set j v).cell j, List.getElem?_set_self (by rw [h.2]; exact hj)]
/-- The first cells of a block. -/
def Pre (w : World) (g : Nat) (xs : List Value) : Prop := ∀ p, p < xs.length → w.cell? ⟨g, p, none⟩ = xs[p]?
theorem Pre.mono {w w' : World} {g B : Nat} {xs : List Value} (h : Pre w g xs) (hb : Below B w w') (hg : g < B) : Pre w' g xs := fun p hp => (hb.cell (p := ⟨g, p, none⟩) hg).trans (h p hp)
theorem Pre.set {w : World} {g : Nat} {t : TypeId} {n j : Nat} {xs : List Value} (h : Pre w g xs) (hb : Bk w g t n) (hj : xs.length = j) (hl : j < n) (v : Value) : Pre (w.setCell ⟨g, j, none⟩ v) g (xs ++ [v]) := fun p hp => by
  rw [List.length_append, List.length_singleton] at hp
  by_cases e : p = j
  · subst e
    rw [hb.cell_eq hl, List.getElem?_append_right (by omega), hj, Nat.sub_self]; rfl
  · rw [hb.cell_ne (fun e' => e e'.symm), h p (by omega), List.getElem?_append_left (by omega)]
/-- The marks of a row, of many rows. -/
def mkC (q : Nat) : List Value := [.int .i64 (q : Int), .int .i64 ((q : Int) + 1), .int .i64 ((q : Int) + 1 + 1), .string (mkT (q + 1 + 1 + 1)), .bool (((q : Int) + 1 + 1 + 1 + 1) % 3 == 0), .int .i64 ((q : Int) + 1 + 1 + 1 + 1 + 1), .string (mkT (q + 1 + 1 + 1 + 1 + 1 + 1))]
def mkL : Nat → List Value
  | 0 => []
  | i + 1 => mkL i ++ mkC (1 + i * 7)
theorem mkL_len (n : Nat) : (mkL n).length = n * 7 := by
  induction n with
  | zero => rfl
  | succ n ih => show (mkL n ++ mkC _).length = _; rw [List.length_append, ih]; show _ + 7 = _; omega
theorem mkL_get {n i p : Nat} (hi : i < n) (hp : p < 7) : (mkL n)[i * 7 + p]? = (mkC (1 + i * 7))[p]? := by
  induction n with
  | zero => omega
  | succ n ih =>
    show (mkL n ++ mkC (1 + n * 7))[i * 7 + p]? = _
    by_cases e : i = n
    · subst e
      rw [List.getElem?_append_right (by rw [mkL_len]; omega), mkL_len]
      congr 1; omega
    · rw [List.getElem?_append_left (by rw [mkL_len]; omega)]
      exact ih (by omega)

end Go.Proofs.YtjgngbmkpiihgaaGreatDoor

/- Marks of nodes, in package laws. -/
namespace Go.Proofs.YtjgngbmkpiihgaaGreatDoor
open Go Go.RowKit

/-- The marks of a node, of many nodes. -/
def mnC (q : Nat) : List Value := [.int .i64 (q : Int), .int .i64 ((q : Int) + 1), .int .i64 ((q : Int) + 1 + 1), .string (mkT (q + 1 + 1 + 1)), .string (mkT (q + 1 + 1 + 1 + 1))]
def mnL : Nat → List Value
  | 0 => []
  | i + 1 => mnL i ++ mnC (1 + i * 5)
theorem mnL_len (n : Nat) : (mnL n).length = n * 5 := by
  induction n with
  | zero => rfl
  | succ n ih => show (mnL n ++ mnC _).length = _; rw [List.length_append, ih]; show _ + 5 = _; omega
theorem mnL_get {n i p : Nat} (hi : i < n) (hp : p < 5) : (mnL n)[i * 5 + p]? = (mnC (1 + i * 5))[p]? := by
  induction n with
  | zero => omega
  | succ n ih =>
    show (mnL n ++ mnC (1 + n * 5))[i * 5 + p]? = _
    by_cases e : i = n
    · subst e
      rw [List.getElem?_append_right (by rw [mnL_len]; omega), mnL_len]
      congr 1; omega
    · rw [List.getElem?_append_left (by rw [mnL_len]; omega)]
      exact ih (by omega)
theorem nod_of_owns {w : World} {base : Nat} {v : Value} {l : List Nx} (h : OwnN w base v l) : ∃ a c, v = .slice a l.length c ∧ NodL w a l ∧ (0 < l.length → ∃ g N, a = some ⟨g, 0, .none⟩ ∧ base ≤ g ∧ l.length * 5 ≤ N ∧ Bk w g 41 N) := by
  rcases h.2 with ⟨e, h0⟩ | ⟨g, cap, cur, e, hg, hq, h4, h5, h6, h7⟩
  · exact ⟨.none, 0, by rw [e, h0], fun k hk => by omega, fun h => by omega⟩
  · have hb : Blk w g 41 cur.toList := by
      show w.heap[g]? = _
      rw [hq]
    refine ⟨some ⟨g, 0, .none⟩, cap, e, fun k hk => ⟨g, 0, rfl, ?_⟩, fun _ => ⟨g, cur.toList.length, rfl, hg, ?_, ⟨_, hb, rfl⟩⟩⟩
    · have hc : ∀ p, p < 5 → w.cell? ⟨g, k * 5 + p, .none⟩ = (nC l[k])[p]? := fun p hp => by
        rw [hb.cell, ← nodV_get hk hp, ← h7, List.getElem?_take_of_lt (by omega)]
      rw [Nat.zero_add, nf_get l k hk]
      exact ⟨hb.lt, hc 0 (by omega), hc 1 (by omega), hc 2 (by omega), hc 3 (by omega), hc 4 (by omega)⟩
    · have := congrArg List.length h7
      rw [List.length_take, nodV_len] at this
      omega
set_option maxRecDepth 100000 in
set_option maxHeartbeats 4000000 in
theorem markNodeS_any (a : Option Addr) (g n N c lo hi : Nat) (w : World) (hn : n ≤ 2000000) (hN : n * 5 ≤ N) (hl : lo ≤ g) (hh : g < hi) (ho : 0 < n → a = some ⟨g, 0, none⟩ ∧ Bk w g 41 N) :
    Calls Tryz.prog 14 #[.slice a n c, .int .i64 1] w fun r w' => r = .returned (.int .i64 ((1 + n * 5 : Nat) : Int)) ∧ (0 < n → Pre w' g (mnL n)) ∧ MkL lo hi w w' := by
  have HBk := hide ho
  clear ho
  go_enter Tryz.func14, Tryz.ntmps14
  go_wp2_with fail
  go_loopw [1, 5] (fun q v wr => ∃ i : Nat, i ≤ n ∧ v = .int .i64 i ∧ q = .int .i64 ((1 + i * 5 : Nat) : Int) ∧ (0 < n → Pre wr g (mnL i)) ∧ MkL lo hi w wr) (fun _ v _ => n - (intOf v).toNat)
  case atStart => exact ⟨0, Nat.zero_le _, rfl, by simp, fun _ p hp => absurd hp (Nat.not_lt_zero _), MkL.refl _ _ _⟩
  case round =>
    obtain ⟨i, hi', rfl, rfl, hp, hm⟩ := hrel
    have HM := hide hm
    have HP := hide hp
    clear hp
    by_cases hlt : i < n
    · have hlt' : (i : Int) < n := by omega
      have HBr := hide (hm.bk _ _ _ (unhide HBk (by omega)).2)
      obtain rfl := (unhide HBk (by omega)).1
      have hP := unhide HP (by omega)
      obtain ⟨q, hq⟩ : ∃ q, 1 + i * 5 = q := ⟨_, rfl⟩
      have hq' : (q : Int) + 7 < 4611686018427387904 := by omega
      have hq1 : 0 < q := by omega
      have hln := mnL_len i
      have HN : Hid (mnL (i + 1) = mnL i ++ mnC q) := hide (by show mnL i ++ mnC (1 + i * 5) = _; rw [hq])
      rw [hq]
      obtain ⟨u, c0⟩ := (unhide HBr).cell (show i * 5 < N by omega)
      obtain ⟨u1, c1⟩ := (unhide HBr).cell (show i * 5 + 1 < N by omega)
      obtain ⟨u2, c2⟩ := (unhide HBr).cell (show i * 5 + 2 < N by omega)
      have f0 := (unhide HBr).free (i * 5); have f1 := (unhide HBr).free (i * 5 + 1); have f2 := (unhide HBr).free (i * 5 + 2)
      have HM1 := hide ((((unhide HM).trans (MkL.set (i * 5) (.int .i64 (q : Int)) hl hh)).trans (MkL.set (i * 5 + 1) (.int .i64 ((q : Int) + 1)) hl hh)).trans (MkL.set (i * 5 + 2) (.int .i64 ((q : Int) + 1 + 1)) hl hh))
      have HB1 := hide ((((unhide HBr).set (i * 5) (.int .i64 (q : Int))).set (i * 5 + 1) (.int .i64 ((q : Int) + 1))).set (i * 5 + 2) (.int .i64 ((q : Int) + 1 + 1)))
      have HP1 := hide (((hP.set (unhide HBr) (j := i * 5) hln (by omega) (.int .i64 (q : Int))).set ((unhide HBr).set (i * 5) (.int .i64 (q : Int))) (j := i * 5 + 1) (by simp [hln]) (by omega) (.int .i64 ((q : Int) + 1))).set (((unhide HBr).set (i * 5) (.int .i64 (q : Int))).set (i * 5 + 1) (.int .i64 ((q : Int) + 1))) (j := i * 5 + 2) (by simp [hln]) (by omega) (.int .i64 ((q : Int) + 1 + 1)))
      clear hm hP
      go_wp2_with fail
      obtain ⟨W1, hW1⟩ : ∃ W1, ((wr.setCell ⟨g, i * 5, none⟩ (.int .i64 (q : Int))).setCell ⟨g, i * 5 + 1, none⟩ (.int .i64 ((q : Int) + 1))).setCell ⟨g, i * 5 + 2, none⟩ (.int .i64 ((q : Int) + 1 + 1)) = W1 := ⟨_, rfl⟩
      rw [hW1] at HM1 HB1 HP1 ⊢
      clear hW1 c0 c1 c2 f0 f1 f2
      have HT1 := hide (markText_eq (q + 1 + 1 + 1) W1 (by omega) (by omega))
      simp only [Int.natCast_add, Int.cast_ofNat_Int] at HT1
      refine (unhide HT1).mono ?_
      rintro e W2 ⟨rfl, hb2⟩
      obtain ⟨s, hs⟩ : ∃ s, mkT (q + 1 + 1 + 1) = s := ⟨_, rfl⟩
      rw [hs]
      have HB2 := hide ((unhide HB1).mono hb2 (unhide HB1).lt)
      have hP2 := (unhide HP1).mono hb2 (unhide HB1).lt
      obtain ⟨u3, c3⟩ := (unhide HB2).cell (show i * 5 + 3 < N by omega)
      have f3 := (unhide HB2).free (i * 5 + 3)
      have HM2 := hide (((unhide HM1).trans (MkL.below hb2)).trans (MkL.set (i * 5 + 3) (.string s) hl hh))
      have HB3 := hide ((unhide HB2).set (i * 5 + 3) (.string s))
      have HP3 := hide (hP2.set (unhide HB2) (j := i * 5 + 3) (by simp [hln]) (by omega) (.string s))
      clear hb2 hP2 HT1
      go_wp2_with fail
      obtain ⟨W3, hW3⟩ : ∃ W3, W2.setCell ⟨g, i * 5 + 3, none⟩ (.string s) = W3 := ⟨_, rfl⟩
      rw [hW3] at HM2 HB3 HP3 ⊢
      clear hW3 c3 f3
      have HT1 := hide (markText_eq (q + 1 + 1 + 1 + 1) W3 (by omega) (by omega))
      simp only [Int.natCast_add, Int.cast_ofNat_Int] at HT1
      refine (unhide HT1).mono ?_
      rintro e W4 ⟨rfl, hb4⟩
      obtain ⟨s2, hs2⟩ : ∃ s, mkT (q + 1 + 1 + 1 + 1) = s := ⟨_, rfl⟩
      rw [hs2]
      have HB4 := hide ((unhide HB3).mono hb4 (unhide HB3).lt)
      have hP4 := (unhide HP3).mono hb4 (unhide HB3).lt
      obtain ⟨u6, c6⟩ := (unhide HB4).cell (show i * 5 + 4 < N by omega)
      have f6 := (unhide HB4).free (i * 5 + 4)
      have HM4 := hide (((unhide HM2).trans (MkL.below hb4)).trans (MkL.set (i * 5 + 4) (.string s2) hl hh))
      have HP5 : Hid (Pre (W4.setCell ⟨g, i * 5 + 4, none⟩ (.string s2)) g (mnL (i + 1))) := hide (by
        rw [unhide HN]
        unfold mnC
        rw [hs, hs2]
        have h := hP4.set (unhide HB4) (j := i * 5 + 4) (by simp [hln]) (by omega) (.string s2)
        simpa using h)
      clear hb4 hP4 HT1
      go_wp2_with fail
      go_roundw
      case rel => first | exact ⟨i + 1, by omega, by go_num, by rw [show 1 + (i + 1) * 5 = q + 5 by omega]; go_num, fun _ => unhide HP5, unhide HM4⟩ | ((repeat apply Exists.intro); exact ⟨⟨i + 1, by omega, by go_num, by rw [show 1 + (i + 1) * 5 = q + 5 by omega]; go_num, fun _ => unhide HP5, unhide HM4⟩, rfl⟩)
      case measure => simp [intOf]; omega
    · obtain rfl : i = n := by omega
      have hlt' : ¬ (i : Int) < (i : Int) := by omega
      obtain ⟨q, hq⟩ : ∃ q, 1 + i * 5 = q := ⟨_, rfl⟩
      rw [hq]
      clear hm
      go_wp2_with fail
      go_ret
      exact ⟨rfl, unhide HP, unhide HM⟩
set_option maxRecDepth 100000 in
set_option maxHeartbeats 4000000 in
theorem heldNodeS_any (a : Option Addr) (g n c : Nat) (w : World) (hn : n ≤ 2000000) (ho : 0 < n → a = some ⟨g, 0, none⟩ ∧ g < w.heap.size ∧ Pre w g (mnL n)) :
    Calls Tryz.prog 15 #[.slice a n c, .int .i64 1] w fun r w' => r = .returned (.int .i64 ((1 + n * 5 : Nat) : Int)) ∧ Below w.heap.size w w' := by
  have HO := hide ho
  clear ho
  go_enter Tryz.func15, Tryz.ntmps15
  go_wp2_with fail
  go_loopw [1, 5] (fun q v wr => ∃ (i : Nat), i ≤ n ∧ v = .int .i64 i ∧ q = .int .i64 ((1 + i * 5 : Nat) : Int) ∧ Below w.heap.size w wr) (fun _ v _ => n - (intOf v).toNat)
  case atStart => exact ⟨0, Nat.zero_le _, rfl, rfl, Below.refl _ _⟩
  case round =>
    obtain ⟨i, hil, rfl, rfl, hb⟩ := hrel
    have HB := hide hb
    by_cases hlt : i < n
    · have hlt' : (i : Int) < n := by omega
      obtain ⟨rfl, hg, hp⟩ := unhide HO (by omega)
      obtain ⟨q, hq⟩ : ∃ q, 1 + i * 5 = q := ⟨_, rfl⟩
      have hq' : (q : Int) + 7 < 4611686018427387904 := by omega
      have HC : Hid (∀ W, Below w.heap.size w W → ∀ p, p < 5 → W.cell? ⟨g, i * 5 + p, none⟩ = (mnC q)[p]?) := hide fun W h p hp7 => by
        rw [← hq, ← mnL_get hlt hp7]
        exact (hp.mono h hg) (i * 5 + p) (by rw [mnL_len]; omega)
      have c0 : wr.cell? ⟨g, i * 5, none⟩ = some (.int .i64 (q : Int)) := unhide HC wr hb 0 (by omega)
      have c1 : wr.cell? ⟨g, i * 5 + 1, none⟩ = some (.int .i64 ((q : Int) + 1)) := unhide HC wr hb 1 (by omega)
      have c2 : wr.cell? ⟨g, i * 5 + 2, none⟩ = some (.int .i64 ((q : Int) + 1 + 1)) := unhide HC wr hb 2 (by omega)
      have c3 : wr.cell? ⟨g, i * 5 + 3, none⟩ = some (.string (mkT (q + 1 + 1 + 1))) := unhide HC wr hb 3 (by omega)
      rw [hq]
      have HT1 := hide (markText_eq (q + 1 + 1 + 1) wr.drew (by omega) (by omega))
      simp only [Int.natCast_add, Int.cast_ofNat_Int] at HT1
      obtain ⟨s, hs⟩ : ∃ s, mkT (q + 1 + 1 + 1) = s := ⟨_, rfl⟩
      rw [hs] at HT1 c3
      have hss : (s.toList == s.toList) = true := by simp
      clear hp hb
      go_wp2_with fail
      refine wp_region_held_drew (S := fun w' => w'.cell? ⟨g, i * 5 + 3, none⟩ = some (Value.string s)) (by kernel_rfl) c3 (fun hHeld => ?_)
      refine takeY (i := 0) (v := .slice (some ⟨g, 0, none⟩) n c) 41 rfl rfl (by kernel_rfl) (by kernel_rfl) (by kernel_rfl) (fun _ _ _ _ h => h) (by rfl) (fun w hS => by simp [execOp, go_sem, *]) hHeld ?_
      simp only [List.setIfInBounds_toArray, List.set_cons_zero, List.set_cons_succ]
      refine takeY (i := 1) (v := .int .i64 i) 42 rfl rfl (by kernel_rfl) (by kernel_rfl) (by kernel_rfl) (fun _ _ _ _ h => h) (by rfl) (fun w hS => by simp [execOp, go_sem, *]) hHeld ?_
      simp only [List.setIfInBounds_toArray, List.set_cons_zero, List.set_cons_succ]
      refine takeY (i := 2) (v := .pointer (some ⟨g, i * 5, none⟩)) 43 rfl rfl (by kernel_rfl) (by kernel_rfl) (by kernel_rfl) (fun _ _ _ _ h => h) (by rfl) (fun w hS => by simp [execOp, go_sem, *]) hHeld ?_
      simp only [List.setIfInBounds_toArray, List.set_cons_zero, List.set_cons_succ]
      refine takeY (i := 3) (v := .pointer (some ⟨g, i * 5 + 1, none⟩)) 44 rfl rfl (by kernel_rfl) (by kernel_rfl) (by kernel_rfl) (fun _ _ _ _ h => h) (by rfl) (fun w hS => by simp [execOp, go_sem, *]) hHeld ?_
      simp only [List.setIfInBounds_toArray, List.set_cons_zero, List.set_cons_succ]
      refine takeY (i := 4) (v := .pointer (some ⟨g, i * 5 + 3, none⟩)) 45 rfl rfl (by kernel_rfl) (by kernel_rfl) (by kernel_rfl) (fun _ _ _ _ h => h) (by rfl) (fun w hS => by simp [execOp, go_sem, *]) hHeld ?_
      simp only [List.setIfInBounds_toArray, List.set_cons_zero, List.set_cons_succ]
      refine takeY (i := 5) (v := .string s) 46 rfl rfl (by kernel_rfl) (by kernel_rfl) (by kernel_rfl) (fun _ _ _ _ h => h) (by rfl) (fun w hS => by simp [execOp, go_sem, hS]) hHeld ?_
      simp only [List.setIfInBounds_toArray, List.set_cons_zero, List.set_cons_succ]
      refine takeY (i := 6) (v := .int .i64 ((q : Int) + 1 + 1 + 1)) 47 rfl rfl (by kernel_rfl) (by kernel_rfl) (by kernel_rfl) (fun _ _ _ _ h => h) (by rfl) (fun w hS => by simp [execOp, go_sem, *]) hHeld ?_
      simp only [List.setIfInBounds_toArray, List.set_cons_zero, List.set_cons_succ]
      refine callY (i := 7) (f := 40) (args := #[.int .i64 ((q : Int) + 1 + 1 + 1)]) (R := fun v wz => v = .string s ∧ Below wr.heap.size wr wz) 48 rfl rfl (by rfl) (by kernel_rfl) (by simp [execOp, go_sem]) ((unhide HT1).mono fun e w6 ⟨he, hb⟩ => ⟨_, he, rfl, below_of_drew hb⟩) ?_
      rintro v W2 ⟨rfl, hb2⟩
      have hb3 := (unhide HB).trans (hb2.mono (unhide HB).size)
      clear hb2 c0 c1 c2 c3 HT1
      have c3 : W2.cell? ⟨g, i * 5 + 3, none⟩ = some (.string s) := by rw [← hs]; exact unhide HC W2 hb3 3 (by omega)
      refine ⟨c3, ?_⟩
      replace hHeld := c3
      simp only [List.setIfInBounds_toArray, List.set_cons_zero, List.set_cons_succ]
      refine takeY (i := 8) (v := .bool false) 49 rfl rfl (by kernel_rfl) (by kernel_rfl) (by kernel_rfl) (fun _ _ _ _ h => h) (by rfl) (fun w hS => by simp [execOp, go_sem]) hHeld ?_
      simp only [List.setIfInBounds_toArray, List.set_cons_zero, List.set_cons_succ]
      refine wpAnyH_done (by kernel_rfl) ?_ _
      have c6 : W2.cell? ⟨g, i * 5 + 4, none⟩ = some (.string (mkT (q + 1 + 1 + 1 + 1))) := unhide HC W2 hb3 4 (by omega)
      have HT1 := hide (markText_eq (q + 1 + 1 + 1 + 1) W2.drew (by omega) (by omega))
      simp only [Int.natCast_add, Int.cast_ofNat_Int] at HT1
      obtain ⟨s2, hs2⟩ : ∃ s, mkT (q + 1 + 1 + 1 + 1) = s := ⟨_, rfl⟩
      rw [hs2] at HT1 c6
      have HB3 := hide hb3
      clear hb3 hs hHeld
      go_wp2_with fail
      refine wp_region_held_drew (S := fun w' => w'.cell? ⟨g, i * 5 + 4, none⟩ = some (Value.string s2)) (by kernel_rfl) c6 (fun hHeld => ?_)
      refine takeY (i := 0) (v := .slice (some ⟨g, 0, none⟩) n c) 52 rfl rfl (by kernel_rfl) (by kernel_rfl) (by kernel_rfl) (fun _ _ _ _ h => h) (by rfl) (fun w hS => by simp [execOp, go_sem, *]) hHeld ?_
      simp only [List.setIfInBounds_toArray, List.set_cons_zero, List.set_cons_succ]
      refine takeY (i := 1) (v := .int .i64 i) 53 rfl rfl (by kernel_rfl) (by kernel_rfl) (by kernel_rfl) (fun _ _ _ _ h => h) (by rfl) (fun w hS => by simp [execOp, go_sem, *]) hHeld ?_
      simp only [List.setIfInBounds_toArray, List.set_cons_zero, List.set_cons_succ]
      refine takeY (i := 2) (v := .pointer (some ⟨g, i * 5, none⟩)) 54 rfl rfl (by kernel_rfl) (by kernel_rfl) (by kernel_rfl) (fun _ _ _ _ h => h) (by rfl) (fun w hS => by simp [execOp, go_sem, *]) hHeld ?_
      simp only [List.setIfInBounds_toArray, List.set_cons_zero, List.set_cons_succ]
      refine takeY (i := 3) (v := .pointer (some ⟨g, i * 5 + 4, none⟩)) 55 rfl rfl (by kernel_rfl) (by kernel_rfl) (by kernel_rfl) (fun _ _ _ _ h => h) (by rfl) (fun w hS => by simp [execOp, go_sem, *]) hHeld ?_
      simp only [List.setIfInBounds_toArray, List.set_cons_zero, List.set_cons_succ]
      refine takeY (i := 4) (v := .string s2) 56 rfl rfl (by kernel_rfl) (by kernel_rfl) (by kernel_rfl) (fun _ _ _ _ h => h) (by rfl) (fun w hS => by simp [execOp, go_sem, hS]) hHeld ?_
      simp only [List.setIfInBounds_toArray, List.set_cons_zero, List.set_cons_succ]
      refine takeY (i := 5) (v := .int .i64 ((q : Int) + 1 + 1 + 1 + 1)) 57 rfl rfl (by kernel_rfl) (by kernel_rfl) (by kernel_rfl) (fun _ _ _ _ h => h) (by rfl) (fun w hS => by simp [execOp, go_sem, *]) hHeld ?_
      simp only [List.setIfInBounds_toArray, List.set_cons_zero, List.set_cons_succ]
      refine callY (i := 6) (f := 40) (args := #[.int .i64 ((q : Int) + 1 + 1 + 1 + 1)]) (R := fun v wz => v = .string s2 ∧ Below W2.heap.size W2 wz) 58 rfl rfl (by rfl) (by kernel_rfl) (by simp [execOp, go_sem]) ((unhide HT1).mono fun e w6 ⟨he, hb⟩ => ⟨_, he, rfl, below_of_drew hb⟩) ?_
      rintro v W4 ⟨rfl, hb4⟩
      have hb5 := (unhide HB3).trans (hb4.mono (unhide HB3).size)
      clear hb4 c3 c6 HT1
      have c6 : W4.cell? ⟨g, i * 5 + 4, none⟩ = some (.string s2) := by rw [← hs2]; exact unhide HC W4 hb5 4 (by omega)
      refine ⟨c6, ?_⟩
      replace hHeld := c6
      simp only [List.setIfInBounds_toArray, List.set_cons_zero, List.set_cons_succ]
      refine takeY (i := 7) (v := .bool false) 59 rfl rfl (by kernel_rfl) (by kernel_rfl) (by kernel_rfl) (fun _ _ _ _ h => h) (by rfl) (fun w hS => by simp [execOp, go_sem]) hHeld ?_
      simp only [List.setIfInBounds_toArray, List.set_cons_zero, List.set_cons_succ]
      refine wpAnyH_done (by kernel_rfl) ?_ _
      have HB5 := hide hb5
      clear hb5 hs2 hHeld
      go_wp2_with fail
      go_roundw
      case rel => first | exact ⟨i + 1, by omega, by go_num, by rw [show 1 + (i + 1) * 5 = q + 5 by omega]; go_num, unhide HB5⟩ | ((repeat apply Exists.intro); exact ⟨⟨i + 1, by omega, by go_num, by rw [show 1 + (i + 1) * 5 = q + 5 by omega]; go_num, unhide HB5⟩, rfl⟩)
      case measure => simp [intOf]; omega
    · obtain rfl : i = n := by omega
      have hlt' : ¬ (i : Int) < (i : Int) := by omega
      obtain ⟨q, hq⟩ : ∃ q, 1 + i * 5 = q := ⟨_, rfl⟩
      rw [hq]
      clear hb
      go_wp2_with fail
      go_ret
      exact ⟨rfl, unhide HB⟩
end Go.Proofs.YtjgngbmkpiihgaaGreatDoor
