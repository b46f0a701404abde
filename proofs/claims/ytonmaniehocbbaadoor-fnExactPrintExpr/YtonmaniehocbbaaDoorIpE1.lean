/- The program prints phrases: brackets, lists of arguments. -/
import Derived.Test.YtonmaniehocbbaaDoorNod3
import Derived.Test.YtonmaniehocbbaaDoorLev
import Derived.Test.YtonmaniehocbbaaDoorOwn
import Derived.Test.YtonmaniehocbbaaDoorShow
import Derived.Test.YtonmaniehocbbaaDoorShelf2
namespace Go.Proofs.YtonmaniehocbbaaDoor
open Go Go.RowKit

def pv (p : Ph) : Value := .agg #[.string p.t, .int .i64 p.lv, .int .i64 p.d]
/-- The cells of a phrase. -/
def PCel (w : World) (b o : Nat) (p : Ph) : Prop := b < w.heap.size ∧ w.cell? ⟨b, o, none⟩ = some (.string p.t) ∧ w.cell? ⟨b, o + 1, none⟩ = some (.int .i64 p.lv) ∧ w.cell? ⟨b, o + 2, none⟩ = some (.int .i64 p.d)
theorem PCel.mono {w w' : World} {b o : Nat} {p : Ph} (h : PCel w b o p) (hb : Below w.heap.size w w') : PCel w' b o p :=
  ⟨Nat.lt_of_lt_of_le h.1 hb.size, (hb.cell h.1).trans h.2.1, (hb.cell h.1).trans h.2.2.1, (hb.cell h.1).trans h.2.2.2⟩
/-- A slice of phrases. -/
def Phs (w : World) (a : Option Addr) (l : List Ph) : Prop := ∀ k (h : k < l.length), ∃ b o, a = some ⟨b, o, none⟩ ∧ PCel w b (o + k * 3) l[k]
theorem Phs.mono {w w' : World} {a : Option Addr} {l : List Ph} (h : Phs w a l) (hb : Below w.heap.size w w') : Phs w' a l := fun k hk => by
  obtain ⟨b, o, e, hc⟩ := h k hk
  exact ⟨b, o, e, hc.mono hb⟩

set_option maxRecDepth 100000 in
set_option maxHeartbeats 1000000 in
theorem atLevel_any (p : Ph) (l : Int) (w : World) (hs : p.t.size ≤ 2000000) : Calls Tryd.prog 55 #[pv p, .int .i64 l] w fun r w' => r = .returned (.string (wrap l p)) ∧ Below w.heap.size w w' := by
  unfold pv
  have HB := hide ((Below.refl w.heap.size w).alloc (Nat.le_refl _) (.cells #[.string p.t, .int .i64 p.lv, .int .i64 p.d] 57))
  have HW : Hid (wrap l p = if p.lv < l then ⟨#[40]⟩ ++ p.t ++ ⟨#[41]⟩ else p.t) := hide rfl
  obtain ⟨t, ht⟩ : ∃ t, wrap l p = t := ⟨_, rfl⟩
  rw [ht] at HW ⊢
  clear ht
  by_cases hq : p.lv < l
  · rw [if_pos hq] at HW
    go_enter Tryd.func55, Tryd.ntmps55
    go_wp2_with fail
    go_ret
    exact ⟨ret_str (unhide HW).symm, unhide HB⟩
  · rw [if_neg hq] at HW
    go_enter Tryd.func55, Tryd.ntmps55
    go_wp2_with fail
    go_ret
    exact ⟨ret_str (unhide HW).symm, unhide HB⟩

theorem jt_join (r : List ByteArray) : (jt r).data.toList = Lib.joinTail [44, 32] (r.map (·.data.toList)) := by
  induction r with
  | nil => rfl
  | cons x r ih => simp only [jt, ByteArray.data_append, Array.toList_append, ih, List.map_cons, Lib.joinTail, List.flatten_cons]
theorem jn_join (l : List ByteArray) : jn l = ⟨(Lib.join (l.map (·.data.toList)) [44, 32]).toArray⟩ := by
  refine string_ext ?_
  cases l with
  | nil => rfl
  | cons x r => rw [List.map_cons, Lib.join_cons]; simp only [jn, ByteArray.data_append, Array.toList_append, jt_join]

def stV (l : List ByteArray) : List Value := l.map .string
theorem info_str : (Tryd.prog.info? 9).map (fun i => (i.zero, i.size, i.bytes)) = some (some (.string ⟨#[]⟩), 1, 16) := by kernel_rfl

set_option maxRecDepth 100000 in
set_option maxHeartbeats 4000000 in
theorem listed_any (a : Option Addr) (c : Nat) (l : List Ph) (w : World) (hl : 1 ≤ l.length) (hl3 : l.length ≤ 3) (ha : Phs w a l) (hs : tot l ≤ 2000000) :
    Calls Tryd.prog 56 #[.slice a l.length c] w fun r w' => r = .returned (.string (jn (l.map (·.t)))) ∧ Below w.heap.size w w' := by
  have HA := hide ha
  have hj := (jn_size l).2
  have HJ := hide (jn_join (l.map (·.t)))
  obtain ⟨n, hn⟩ : ∃ n, l.length = n := ⟨_, rfl⟩
  rw [hn] at hl hl3 hj ⊢
  have HN := hide hn
  clear ha hn
  obtain ⟨t, ht⟩ : ∃ t, jn (l.map (·.t)) = t := ⟨_, rfl⟩
  rw [ht] at HJ hj ⊢
  clear ht
  obtain ⟨i0, hi, hz0, hz1, hz2⟩ := info_parts info_str
  have hbn : i0.bytes * n ≤ 281474976710656 := by rw [hz2]; omega
  obtain ⟨B, hB⟩ : ∃ B, w.heap.size = B := ⟨_, rfl⟩
  go_enter Tryd.func56, Tryd.ntmps56
  go_wp2_with (at_make; refine wpList_make_own _ rfl _ _ 73 rfl w.heap.size 9 i0 _ 1 Tryd.underlying73 hi hz0 hz1 .i64 .i64 _ n rfl rfl rfl hbn (by unfold maxLen; omega) (Nat.le_refl _) ?_; intro w1 hown hgrow)
  have HB1 := hide ((Below.refl w.heap.size w).grown hgrow (Nat.le_refl _) (fun k h => by cases h))
  rw [hB] at hown HB1
  have HO := hide hown
  clear hgrow hown hbn hi hz0 hz1 hz2
  go_wp2_with fail
  try rw [hB]
  go_loopw [3, 5, 11] (fun tx _ i wr => ∃ k : Nat, k ≤ n ∧ tx = .slice (some ⟨B, 0, none⟩) k n ∧ i = .int .i64 k ∧ wr.ownsRow B 9 1 (.slice (some ⟨B, 0, none⟩) k n) k (stV ((l.take k).map (·.t))) ∧ Below B w wr) (fun _ _ i _ => n - (intOf i).toNat)
  case atStart => exact ⟨0, Nat.zero_le _, rfl, rfl, unhide HO, unhide HB1⟩
  case round =>
    clear HO HB1
    obtain ⟨k, hk, rfl, rfl, hO, hb⟩ := hrel
    have HO := hide hO; have HB := hide hb
    have HV := hide ((unhide HA).mono (hb.mono (by omega)))
    clear hO hb
    by_cases hlt : k < n
    · have hlt' : (k : Int) < n := by omega
      have hkl : k < l.length := by have := unhide HN; omega
      obtain ⟨b, o, rfl, -, c0, c1, c2⟩ := unhide HV k hkl
      have HT : Hid ((l.take (k + 1)).map (·.t) = (l.take k).map (·.t) ++ [l[k].t]) := hide (by rw [List.take_succ_eq_append_getElem hkl, List.map_append]; rfl)
      obtain ⟨p, hp⟩ : ∃ p, l[k] = p := ⟨_, rfl⟩
      rw [hp] at HT c0 c1 c2
      clear hp
      obtain ⟨i0, hi, hz0, hz1, hz2⟩ := info_parts info_str
      obtain ⟨W, hW⟩ : ∃ W, wr.alloc (.cells #[.string p.t, .int .i64 p.lv, .int .i64 p.d] 57) = W := ⟨_, rfl⟩
      have HO1 : Hid (W.ownsRow B 9 1 (.slice (some ⟨B, 0, none⟩) k n) k (stV ((l.take k).map (·.t)))) := hide (by rw [← hW]; exact (unhide HO).alloc _)
      have HB1 : Hid (Below B w W) := hide (by rw [← hW]; exact (unhide HB).alloc (by have := (unhide HB).size; omega) _)
      have HK : Hid (Blk W wr.heap.size 57 [.string p.t, .int .i64 p.lv, .int .i64 p.d]) := hide (by rw [← hW]; exact Blk.new wr 57 #[.string p.t, .int .i64 p.lv, .int .i64 p.d])
      obtain ⟨y0, y1, y2⟩ := three (unhide HK)
      go_wp2_with (at_builtin; refine wpList_append_fits _ rfl _ _ 73 rfl B 9 i0 1 Tryd.underlying73 hi hz1 B k n _ rfl ((unhide HO1).alloc _) ⟨W.heap.size, 0, none⟩ 1 1 [.string p.t] rfl rfl (cell_one W 9 _) (by simp [Value.oneCell']) (by omega) ?_)
      intro w3 ho' hgr'
      have hB2 := ((unhide HB1).alloc (by have := (unhide HB1).size; omega) (.cells #[.string p.t] 9)).grown hgr' (by have := (unhide HB1).size; simp; omega) (fun q' e => by cases e; exact Nat.le_refl _)
      have HO2 : Hid (w3.ownsRow B 9 1 (.slice (some ⟨B, 0, none⟩) (k + 1) n) (k + 1) (stV ((l.take (k + 1)).map (·.t)))) := hide (by rw [unhide HT]; simpa [stV] using ho')
      have HB2 := hide hB2
      clear ho' hgr' hB2 hi hz0 hz1 hz2 HO HB HO1 HB1 HK c0 c1 c2 y0 y1 y2 hW
      go_wp2_with fail
      go_roundw
      case rel => first | exact ⟨k + 1, by omega, rfl, by go_num, unhide HO2, unhide HB2⟩ | ((repeat apply Exists.intro); exact ⟨⟨k + 1, by omega, rfl, by go_num, unhide HO2, unhide HB2⟩, rfl⟩)
      case measure => simp [intOf]; omega
    · obtain rfl : k = n := by omega
      have hO := unhide HO
      rw [List.take_of_length_le (by have := unhide HN; omega)] at hO
      have HC : Hid (∀ (j : Nat) x, (l.map (·.t))[j]? = some x → wr.cell? ⟨B, 0 + j, none⟩ = some (.string x)) := hide fun j x hx => by
        have hj : j < (l.map (·.t)).length := (List.getElem?_eq_some_iff.1 hx).1
        have := hO.cellAt j (by rw [List.length_map] at hj; have := unhide HN; omega)
        rw [Nat.zero_add]
        rw [show (⟨B, j, none⟩ : Addr) = ⟨B, j, none⟩ from rfl]
        rw [this]
        simp only [stV, List.getElem?_map, hx, Option.map_some]
      have hlen2 : (l.map (·.t)).length = k := by rw [List.length_map]; exact unhide HN
      have hblt : B < wr.heap.size := by
        rcases hO.2 with ⟨h', _⟩ | ⟨g', cap', cur, h', _, hg, _⟩
        · simp at h'
        · simp only [Value.slice.injEq, Option.some.injEq, Addr.mk.injEq, and_true, true_and] at h'
          obtain ⟨rfl, -⟩ := h'
          exact (Array.getElem?_eq_some_iff.1 hg).1
      clear hO
      go_wp2_with fail
      have hJ := unhide HJ
      refine (show Calls Tryd.prog 63 #[.slice (some ⟨B, 0, none⟩) k k, .string ⟨#[44, 32]⟩] wr fun r w' => r = .returned (.string t) ∧ Below wr.heap.size wr w' from ?_).mono ?_
      · have hc := Tryd.strings_Join B 0 k (l.map (·.t)) ⟨#[44, 32]⟩ wr (unhide HC) hblt (by omega) (by omega) (by
          have e : t.size = (Lib.join ((l.map (·.t)).map (·.data.toList)) [44, 32]).length := by rw [hJ]; rfl
          show (Lib.join ((l.map (·.t)).map (·.data.toList)) [44, 32]).length ≤ _
          omega)
        rw [hlen2] at hc
        refine hc.mono fun r w' ⟨h1, h2⟩ => ⟨?_, h2⟩
        rw [h1, hJ]
      rintro r w2 ⟨rfl, hb⟩
      have HB2 := hide ((unhide HB).trans (hb.mono (by have := (unhide HB).size; omega)))
      clear hb hJ
      go_wp2_with fail
      go_ret
      exact ⟨rfl, by rw [hB]; exact unhide HB2⟩
end Go.Proofs.YtonmaniehocbbaaDoor
