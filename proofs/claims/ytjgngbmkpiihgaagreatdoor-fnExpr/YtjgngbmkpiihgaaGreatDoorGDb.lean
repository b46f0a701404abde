import Derived.Test.YtjgngbmkpiihgaaGreatDoorGDr
import Derived.Test.YtjgngbmkpiihgaaGreatDoorGNp
import Derived.Test.YtjgngbmkpiihgaaGreatDoorGPa
import Derived.Test.YtjgngbmkpiihgaaGreatDoorGNa
import Derived.Test.YtjgngbmkpiihgaaGreatDoorZVx
import Derived.Deep.DeepCutAuto
/- The model's drawing of expressions: names, leaves. -/
namespace Go.Proofs.YtjgngbmkpiihgaaGreatDoor
open Go Go.RowKit

def nmI : List ByteArray := [⟨#[110]⟩, ⟨#[109, 105, 110]⟩, ⟨#[99, 111, 117, 110, 116, 95, 50]⟩]
def nmB : List ByteArray := [⟨#[98]⟩, ⟨#[111, 107]⟩]
def nmT : List ByteArray := [⟨#[116]⟩, ⟨#[105, 102]⟩]
/-- The names that may be read, in memory. -/
def PickV (w : World) (v : Value) : Prop := ∃ a b c, v = .agg #[.slice a 3 3, .slice b 2 2, .slice c 2 2] ∧ Strs w a nmI ∧ Strs w b nmB ∧ Strs w c nmT
theorem PickV.mono {w w' : World} {v : Value} (h : PickV w v) (hb : Below w.heap.size w w') : PickV w' v := by
  obtain ⟨a, b, c, e, h1, h2, h3⟩ := h
  exact ⟨a, b, c, e, h1.mono hb, h2.mono hb, h3.mono hb⟩
/-- A node whose parts are small enough. -/
def FitS (n : Nx) : Prop := n.v.s.size ≤ 1000 ∧ n.nm.size ≤ 64 ∧ (0 ≤ n.op ∧ n.op ≤ 25) ∧ -9223372036854775808 ≤ n.v.n ∧ n.v.n ≤ 9223372036854775807
theorem FitS.cst (k n : Int) {s : ByteArray} (hs : s.size ≤ 1000) (h1 : -9223372036854775808 ≤ n) (h2 : n ≤ 9223372036854775807) : FitS ⟨0, ⟨k, n, s⟩, ⟨#[]⟩⟩ := ⟨hs, Nat.zero_le _, ⟨Int.le_refl 0, (by omega : (0 : Int) ≤ 25)⟩, h1, h2⟩
theorem FitS.fld {x : ByteArray} (h : x.size ≤ 64) : FitS ⟨1, ⟨0, 0, ⟨#[]⟩⟩, x⟩ := ⟨Nat.zero_le _, h, ⟨(by omega : (0 : Int) ≤ 1), (by omega : (1 : Int) ≤ 25)⟩, (by omega : (-9223372036854775808 : Int) ≤ 0), (by omega : (0 : Int) ≤ 9223372036854775807)⟩
theorem FitS.opn {op : Int} (h1 : 0 ≤ op) (h2 : op ≤ 25) : FitS ⟨op, ⟨0, 0, ⟨#[]⟩⟩, ⟨#[]⟩⟩ := ⟨Nat.zero_le _, Nat.zero_le _, ⟨h1, h2⟩, (by omega : (-9223372036854775808 : Int) ≤ 0), (by omega : (0 : Int) ≤ 9223372036854775807)⟩
theorem nm_small : ∀ x, x ∈ nmI ++ nmB ++ nmT → x.size ≤ 64 := by decide

set_option maxRecDepth 100000 in
set_option maxHeartbeats 1000000 in
theorem l3PickOf_any (a b c : Option Addr) (kind : Int) (w : World) :
    Calls Tryz.prog 74 #[.agg #[.slice a 3 3, .slice b 2 2, .slice c 2 2], .int .i64 kind] w fun e w' => e = .returned (if kind = 1 then .slice a 3 3 else if kind = 2 then .slice b 2 2 else .slice c 2 2) ∧ Below w.heap.size w w' := by
  have hB : ∀ o, Below w.heap.size w (w.alloc o) := fun o => (Below.refl _ w).alloc (Nat.le_refl _) o
  have HB := hide hB; clear hB
  by_cases h1 : kind = 1
  · subst h1
    go_enter Tryz.func74, Tryz.ntmps74
    go_wp2
    go_ret
    exact ⟨rfl, unhide HB _⟩
  · by_cases h2 : kind = 2
    · subst h2
      go_enter Tryz.func74, Tryz.ntmps74
      go_wp2
      go_ret
      exact ⟨rfl, unhide HB _⟩
    · rw [if_neg h1, if_neg h2]
      go_enter Tryz.func74, Tryz.ntmps74
      go_wp2
      go_ret
      exact ⟨rfl, unhide HB _⟩

theorem Strs.of_blk {w : World} {g : Nat} {t : TypeId} {l : List ByteArray} (h : Blk w g t (l.map .string)) : Strs w (some ⟨g, 0, none⟩) l := fun k hk => ⟨g, 0, rfl, h.lt, by rw [Nat.zero_add, h.cell]; simp [hk]⟩
set_option maxRecDepth 100000 in
set_option maxHeartbeats 1000000 in
theorem l3SomeNames_any (w : World) : Calls Tryz.prog 25 #[] w fun e w' => ∃ v, e = .returned v ∧ PickV w' v ∧ Below w.heap.size w w' := by
  go_enter Tryz.func25, Tryz.ntmps25
  go_wp2_with fail
  refine bodyPost_ret (v := .agg #[.slice (some ⟨w.heap.size + 1, 0, none⟩) 3 3, .slice (some ⟨w.heap.size + 1 + 1, 0, none⟩) 2 2, .slice (some ⟨w.heap.size + 1 + 1 + 1, 0, none⟩) 2 2]) (by simp [results, Tryz.results25, go_sem]) rfl ⟨_, rfl, ⟨_, _, _, rfl, ?_, ?_, ?_⟩, below4 _ _ _ _ _⟩
  · have h : ∀ o1 o3 o4, Strs ((((w.alloc o1).alloc (.cells (nmI.map Value.string).toArray 9)).alloc o3).alloc o4) (some ⟨w.heap.size + 1, 0, none⟩) nmI := fun o1 o3 o4 => by
      have := Blk.new (w.alloc o1) 9 (nmI.map Value.string).toArray
      simp only [World.size_alloc] at this
      exact Strs.of_blk ((this.alloc _).alloc _)
    exact h _ _ _
  · have h : ∀ o1 o2 o4, Strs ((((w.alloc o1).alloc o2).alloc (.cells (nmB.map Value.string).toArray 9)).alloc o4) (some ⟨w.heap.size + 1 + 1, 0, none⟩) nmB := fun o1 o2 o4 => by
      have := Blk.new ((w.alloc o1).alloc o2) 9 (nmB.map Value.string).toArray
      simp only [World.size_alloc] at this
      exact Strs.of_blk (this.alloc _)
    exact h _ _ _
  · have h : ∀ o1 o2 o3, Strs ((((w.alloc o1).alloc o2).alloc o3).alloc (.cells (nmT.map Value.string).toArray 9)) (some ⟨w.heap.size + 1 + 1 + 1, 0, none⟩) nmT := fun o1 o2 o3 => by
      have := Blk.new (((w.alloc o1).alloc o2).alloc o3) 9 (nmT.map Value.string).toArray
      simp only [World.size_alloc] at this
      exact Strs.of_blk this
    exact h _ _ _

/-- The names that an expression of a kind may read. -/
def nms (kind : Int) : List ByteArray := if kind = 1 then nmI else if kind = 2 then nmB else nmT
theorem nms_len (kind : Int) : 1 ≤ (nms kind).length ∧ (nms kind).length ≤ 3 := by
  unfold nms
  split
  · decide
  · split <;> decide
theorem nms_small {kind : Int} {x : ByteArray} (h : x ∈ nms kind) : x.size ≤ 64 := by
  refine nm_small x ?_
  unfold nms at h
  split at h
  · exact List.mem_append_left _ (List.mem_append_left _ h)
  · split at h
    · exact List.mem_append_left _ (List.mem_append_right _ h)
    · exact List.mem_append_right _ h
theorem pick_at {w : World} {a b c : Option Addr} (h1 : Strs w a nmI) (h2 : Strs w b nmB) (h3 : Strs w c nmT) (kind : Int) : ∃ x, (if kind = 1 then Value.slice a 3 3 else if kind = 2 then .slice b 2 2 else .slice c 2 2) = .slice x (nms kind).length (nms kind).length ∧ Strs w x (nms kind) := by
  unfold nms
  split
  · exact ⟨a, rfl, h1⟩
  · split
    · exact ⟨b, rfl, h2⟩
    · exact ⟨c, rfl, h3⟩
/-- Nodes and a place that a call gave. -/
def DrawOut (w : World) (l : List Nx) (q : Nat) (e : Ending) (w' : World) : Prop := ∃ v, e = .returned (.tuple #[v, .int .i64 q]) ∧ OwnN w' w.heap.size v l ∧ Below w.heap.size w w'

theorem draw_one {w w' : World} {n : Nx} {q : Nat} {z : Int} (hb : Below w.heap.size w w') (hz : z = q) : DrawOut w [n] q (.returned (.tuple #[.slice (some ⟨w'.heap.size, 0, none⟩) 1 1, .int .i64 z])) (w'.alloc (.cells #[.int .i64 n.op, .int .i64 n.v.k, .int .i64 n.v.n, .string n.v.s, .string n.nm] 41)) :=
  ⟨_, by rw [hz], (OwnN.lone w' n).low hb.size, hb.alloc hb.size _⟩
/-- What is drawn as a leaf. -/
def LeafX (len : Nat) (f : Nat → Nat) (p : Nat) (kind : Int) (n : Nx) (q : Nat) : Prop :=
  (tkD len f p 8 < 6 ∧ q = p + 2 ∧ ∃ (B : Nat) (h : B < (nms kind).length), tkD len f (p + 1) (nms kind).length = B ∧ n = ⟨1, ⟨0, 0, ⟨#[]⟩⟩, (nms kind)[B]⟩) ∨
  (tkD len f p 8 = 7 ∧ q = p + 1 ∧ n = ⟨0, ⟨0, 0, ⟨#[]⟩⟩, ⟨#[]⟩⟩) ∨
  (tkD len f p 8 = 6 ∧ q = p + 2 ∧ ∃ B : Nat, tkD len f (p + 1) 256 = B ∧ B < 256 ∧
    ((kind = 1 ∧ ∃ x : Int, (-9223372036854775808 ≤ x ∧ x ≤ 9223372036854775807) ∧ (∀ w : World, Calls Tryz.prog 76 #[.int .i64 ((B : Int) % 14)] w fun e w' => e = .returned (.int .i64 x) ∧ w' = w) ∧ ∃ z : Int, ((x < 0 ∧ z = B) ∨ (¬ x < 0 ∧ z = x)) ∧ n = ⟨0, ⟨1, z, ⟨#[]⟩⟩, ⟨#[]⟩⟩) ∨
      (kind = 2 ∧ ∃ (t : Bool) (z : Int), (((B : Int) % 3 != 0) = t) ∧ (if t = true then 1 else 0) = z ∧ (0 ≤ z ∧ z ≤ 1) ∧ n = ⟨0, ⟨2, z, ⟨#[]⟩⟩, ⟨#[]⟩⟩) ∨
      (kind = 3 ∧ ∃ s : ByteArray, s.size ≤ 64 ∧ (∀ w : World, Calls Tryz.prog 77 #[.int .i64 ((B : Int) % 12)] w fun e w' => e = .returned (.string s) ∧ w' = w) ∧ n = ⟨0, ⟨3, 0, s⟩, ⟨#[]⟩⟩)))
theorem leaf_ex (len : Nat) (f : Nat → Nat) (hlen : len ≤ 1048576) (p : Nat) (hp : p ≤ 1000000) (kind : Int) (hk : kind = 1 ∨ kind = 2 ∨ kind = 3) : ∃ n q, LeafX len f p kind n q ∧ FitS n ∧ p ≤ q ∧ q ≤ p + 2 := by
  have hA8 : tkD len f p 8 < 8 := tk_lt hlen (by omega) (by omega) (by omega)
  by_cases h6 : tkD len f p 8 < 6
  · have hL := nms_len kind
    have hB : tkD len f (p + 1) (nms kind).length < (nms kind).length := tk_lt hlen (by omega) (by omega) (by omega)
    exact ⟨_, p + 2, .inl ⟨h6, rfl, _, hB, rfl, rfl⟩, FitS.fld (nms_small (List.getElem_mem _)), by omega, by omega⟩
  by_cases h7 : tkD len f p 8 = 7
  · exact ⟨_, p + 1, .inr (.inl ⟨h7, rfl, rfl⟩), FitS.cst _ _ (Nat.zero_le _) (by omega) (by omega), by omega, by omega⟩
  have hB : tkD len f (p + 1) 256 < 256 := tk_lt hlen (by omega) (by omega) (by omega)
  rcases hk with rfl | rfl | rfl
  · obtain ⟨x, hx, hc⟩ := l2Number_any ((tkD len f (p + 1) 256 : Nat) % 14)
    by_cases hx0 : x < 0
    · exact ⟨_, p + 2, .inr (.inr ⟨by omega, rfl, _, rfl, hB, .inl ⟨rfl, x, hx, hc, _, .inl ⟨hx0, rfl⟩, rfl⟩⟩), FitS.cst _ _ (Nat.zero_le _) (by omega) (by omega), by omega, by omega⟩
    · exact ⟨_, p + 2, .inr (.inr ⟨by omega, rfl, _, rfl, hB, .inl ⟨rfl, x, hx, hc, _, .inr ⟨hx0, rfl⟩, rfl⟩⟩), FitS.cst _ _ (Nat.zero_le _) (by omega) (by omega), by omega, by omega⟩
  · obtain ⟨t, ht⟩ : ∃ t : Bool, (((tkD len f (p + 1) 256 : Nat) : Int) % 3 != 0) = t := ⟨_, rfl⟩
    obtain ⟨z, hz⟩ : ∃ z : Int, (if t = true then 1 else 0) = z := ⟨_, rfl⟩
    have hz2 : 0 ≤ z ∧ z ≤ 1 := by rw [← hz]; split <;> omega
    exact ⟨_, p + 2, .inr (.inr ⟨by omega, rfl, _, rfl, hB, .inr (.inl ⟨rfl, t, z, ht, hz, hz2, rfl⟩)⟩), FitS.cst _ _ (Nat.zero_le _) (by omega) (by omega), by omega, by omega⟩
  · obtain ⟨s, hs, hc⟩ := l2Word_any ((tkD len f (p + 1) 256 : Nat) % 12)
    exact ⟨_, p + 2, .inr (.inr ⟨by omega, rfl, _, rfl, hB, .inr (.inr ⟨rfl, s, hs, hc, rfl⟩)⟩), FitS.cst _ _ (by omega) (by omega) (by omega), by omega, by omega⟩

set_option maxRecDepth 100000 in
set_option maxHeartbeats 4000000 in
theorem l3Leaf_any (len : Nat) (f : Nat → Nat) (hlen : len ≤ 1048576) (p : Nat) (hp : p ≤ 1000000) (kind : Int) (n : Nx) (q : Nat) (hX : LeafX len f p kind n q) (w : World) (a : Option Addr) (c : Nat) (v : Value) (hby : Byts w a len f) (hpk : PickV w v) :
    Calls Tryz.prog 42 #[.slice a len c, .int .i64 p, v, .int .i64 kind] w (DrawOut w [n] q) := by
  obtain ⟨A, hA⟩ : ∃ A, tkD len f p 8 = A := ⟨_, rfl⟩
  unfold LeafX at hX
  rw [hA] at hX
  have HX := hide hX; have HA := hide hA
  obtain ⟨x1, x2, x3, rfl, s1, s2, s3⟩ := hpk
  have HBl := hide (Blk.new w 50 #[.slice x1 3 3, .slice x2 2 2, .slice x3 2 2])
  have hb0 := (Below.refl w.heap.size w).alloc (Nat.le_refl _) (.cells #[.slice x1 3 3, .slice x2 2 2, .slice x3 2 2] 50)
  obtain ⟨y, hy, sy⟩ := pick_at s1 s2 s3 kind
  obtain ⟨W0, hW0⟩ : ∃ W0, w.alloc (.cells #[.slice x1 3 3, .slice x2 2 2, .slice x3 2 2] 50) = W0 := ⟨_, rfl⟩
  rw [hW0] at HBl hb0
  have HBy := hide (hby.mono hb0); have HSy := hide (sy.mono hb0); have HB0 := hide hb0; have HY := hide hy
  clear hby s1 s2 s3 sy hb0 hA hy hX
  go_enter Tryz.func42, Tryz.ntmps42
  go_wp2_with fail
  try rw [hW0]
  clear hW0
  refine (tk_call (p := p) (n := 8) hlen (by omega) (by omega) (by omega) c (unhide HBy) rfl rfl).mono ?_
  rintro e w' ⟨rfl, hw'⟩
  subst hw'
  rw [unhide HA]
  obtain ⟨r0, r1, r2⟩ := three (unhide HBl)
  go_wp2_with fail
  refine (l3PickOf_any _ _ _ _ _).mono ?_
  rintro e w1 ⟨rfl, hb1⟩
  rw [unhide HY]
  replace HBy := hide ((unhide HBy).mono hb1); replace HSy := hide ((unhide HSy).mono hb1); replace HB0 := hide ((unhide HB0).trans (hb1.mono (unhide HB0).size))
  obtain ⟨L, hL⟩ : ∃ L, (nms kind).length = L := ⟨_, rfl⟩
  have hL1 : 1 ≤ L ∧ L ≤ 3 := by rw [← hL]; exact nms_len kind
  have hL0 : (0 : Int) < L := by omega
  rw [hL]
  have HL := hide hL
  have HP : Hid ((p : Int) + 1 = ((p + 1 : Nat) : Int)) := hide (by omega)
  clear hb1 r0 r1 r2 HY HBl hL
  rcases unhide HX with ⟨h6, rfl, B, hBL, hB, rfl⟩ | ⟨h7, rfl, rfl⟩ | ⟨h6, rfl, B, hB, hB2, hX⟩
  · have h6' : (A : Int) < 6 := by omega
    obtain ⟨b, o, rfl, -, hc⟩ := unhide HSy B hBL
    generalize (nms kind)[B] = x at *
    have hBL' : (B : Int) < L := by have := unhide HL; omega
    have HC := hide hc; have HBB := hide hB
    clear HX HSy hc hB
    go_wp2_with fail
    refine (tk_call (p := p + 1) (n := L) hlen (by omega) (by omega) (by omega) c (unhide HBy) (unhide HP) rfl).mono ?_
    rintro e w' ⟨rfl, hw'⟩
    subst hw'
    rw [← unhide HL, unhide HBB]
    have hc := unhide HC
    go_wp2_with fail
    go_ret2
    exact draw_one (n := ⟨1, ⟨0, 0, ⟨#[]⟩⟩, x⟩) (unhide HB0) (by omega)
  · subst h7
    clear HX HSy
    go_wp2_with fail
    refine (l2Blank_any _).mono ?_
    rintro e w2 ⟨rfl, hb2⟩
    replace HB0 := hide ((unhide HB0).trans (hb2.mono (unhide HB0).size))
    clear hb2
    go_wp2_with fail
    refine (l3Const_any _ _ _ _).mono ?_
    rintro e w3 ⟨rfl, hb3⟩
    replace HB0 := hide ((unhide HB0).trans (hb3.mono (unhide HB0).size))
    clear hb3
    go_wp2_with fail
    go_ret2
    exact draw_one (n := ⟨0, ⟨0, 0, ⟨#[]⟩⟩, ⟨#[]⟩⟩) (unhide HB0) (by omega)
  · subst h6
    have HBB := hide hB
    clear HX HSy hB
    rcases hX with ⟨rfl, x, hx, hc, z, hz, rfl⟩ | ⟨rfl, t, z, ht, hz, -, rfl⟩ | ⟨rfl, s, hs, hc, rfl⟩
    · have HC := hide hc
      clear hc
      go_wp2_with fail
      refine (tk_call (p := p + 1) (n := 256) hlen (by omega) (by omega) (by omega) c (unhide HBy) (unhide HP) rfl).mono ?_
      rintro e w' ⟨rfl, hw'⟩
      subst hw'
      rw [unhide HBB]
      go_wp2_with fail
      refine (unhide HC _).mono ?_
      rintro e w' ⟨rfl, hw'⟩
      subst hw'
      rcases hz with ⟨hx0, rfl⟩ | ⟨hx0, rfl⟩
      · go_wp2_with fail
        refine (l2Int_any _ _).mono ?_
        rintro e w2 ⟨rfl, hb2⟩
        replace HB0 := hide ((unhide HB0).trans (hb2.mono (unhide HB0).size))
        clear hb2
        go_wp2_with fail
        refine (l3Const_any _ _ _ _).mono ?_
        rintro e w3 ⟨rfl, hb3⟩
        replace HB0 := hide ((unhide HB0).trans (hb3.mono (unhide HB0).size))
        clear hb3
        go_wp2_with fail
        go_ret2
        exact draw_one (n := ⟨0, ⟨1, (B : Int), ⟨#[]⟩⟩, ⟨#[]⟩⟩) (unhide HB0) (by omega)
      · go_wp2_with fail
        refine (l2Int_any _ _).mono ?_
        rintro e w2 ⟨rfl, hb2⟩
        replace HB0 := hide ((unhide HB0).trans (hb2.mono (unhide HB0).size))
        clear hb2
        go_wp2_with fail
        refine (l3Const_any _ _ _ _).mono ?_
        rintro e w3 ⟨rfl, hb3⟩
        replace HB0 := hide ((unhide HB0).trans (hb3.mono (unhide HB0).size))
        clear hb3
        go_wp2_with fail
        go_ret2
        exact draw_one (n := ⟨0, ⟨1, _, ⟨#[]⟩⟩, ⟨#[]⟩⟩) (unhide HB0) (by omega)
    · have HT := hide ht; have HZ := hide hz
      clear ht hz
      go_wp2_with fail
      refine (tk_call (p := p + 1) (n := 256) hlen (by omega) (by omega) (by omega) c (unhide HBy) (unhide HP) rfl).mono ?_
      rintro e w' ⟨rfl, hw'⟩
      subst hw'
      rw [unhide HBB]
      go_wp2_with fail
      refine (l2Bool_any _ _).mono ?_
      rintro e w2 ⟨rfl, hb2⟩
      rw [unhide HT, unhide HZ]
      replace HB0 := hide ((unhide HB0).trans (hb2.mono (unhide HB0).size))
      clear hb2
      go_wp2_with fail
      refine (l3Const_any _ _ _ _).mono ?_
      rintro e w3 ⟨rfl, hb3⟩
      replace HB0 := hide ((unhide HB0).trans (hb3.mono (unhide HB0).size))
      clear hb3
      go_wp2_with fail
      go_ret2
      exact draw_one (n := ⟨0, ⟨2, z, ⟨#[]⟩⟩, ⟨#[]⟩⟩) (unhide HB0) (by omega)
    · have HC := hide hc
      clear hc
      go_wp2_with fail
      refine (tk_call (p := p + 1) (n := 256) hlen (by omega) (by omega) (by omega) c (unhide HBy) (unhide HP) rfl).mono ?_
      rintro e w' ⟨rfl, hw'⟩
      subst hw'
      rw [unhide HBB]
      go_wp2_with fail
      refine (unhide HC _).mono ?_
      rintro e w' ⟨rfl, hw'⟩
      subst hw'
      go_wp2_with fail
      refine (l2Text_any _ _).mono ?_
      rintro e w2 ⟨rfl, hb2⟩
      replace HB0 := hide ((unhide HB0).trans (hb2.mono (unhide HB0).size))
      clear hb2
      go_wp2_with fail
      refine (l3Const_any _ _ _ _).mono ?_
      rintro e w3 ⟨rfl, hb3⟩
      replace HB0 := hide ((unhide HB0).trans (hb3.mono (unhide HB0).size))
      clear hb3
      go_wp2_with fail
      go_ret2
      exact draw_one (n := ⟨0, ⟨3, 0, s⟩, ⟨#[]⟩⟩) (unhide HB0) (by omega)
end Go.Proofs.YtjgngbmkpiihgaaGreatDoor

/- The model's drawing of expressions: one inner node, what it is made of. -/
namespace Go.Proofs.YtjgngbmkpiihgaaGreatDoor
open Go Go.RowKit

/-- Which operator is drawn, and of which kind its operands are. -/
def GOp (kind : Int) (a b : Nat) (op arg : Int) : Prop :=
  (a = 14 ∧ op = 16 ∧ arg = kind) ∨ (a = 13 ∧ op = 19 ∧ arg = kind) ∨
  (kind = 1 ∧ a < 8 ∧ op = 4 + (b : Int) % 5 ∧ arg = 1) ∨ (kind = 1 ∧ (8 ≤ a ∧ a < 10) ∧ op = 2 ∧ arg = 1) ∨ (kind = 1 ∧ (10 ≤ a ∧ a < 12) ∧ op = 17 + (b : Int) % 2 ∧ arg = 1) ∨ (kind = 1 ∧ a = 12 ∧ op = 21 + (b : Int) % 2 ∧ arg = 3) ∨
  (kind = 2 ∧ (a < 8 ∧ b < 48) ∧ op = 10 + (b : Int) % 4 ∧ arg = 1) ∨ (kind = 2 ∧ (a < 8 ∧ 48 ≤ b) ∧ op = 10 + (b : Int) % 4 ∧ arg = 3) ∨ (kind = 2 ∧ (8 ≤ a ∧ a < 10) ∧ op = 14 + (b : Int) % 2 ∧ arg = 2) ∨
  (kind = 2 ∧ a = 10 ∧ op = 3 ∧ arg = 2) ∨ (kind = 2 ∧ a = 11 ∧ op = 20 ∧ arg = 3) ∨ (kind = 2 ∧ a = 12 ∧ op = 24 + (b : Int) % 2 ∧ arg = (b : Int) % 3 + 1) ∨
  (kind = 3 ∧ a < 9 ∧ op = 9 ∧ arg = 3) ∨ (kind = 3 ∧ (9 ≤ a ∧ a < 13) ∧ op = 23 ∧ arg = (b : Int) % 3 + 1)
theorem gop_ex {kind : Int} {a b : Nat} (hk : kind = 1 ∨ kind = 2 ∨ kind = 3) (ha : a < 15) : ∃ op arg, GOp kind a b op arg := by
  by_cases h14 : a = 14
  · exact ⟨_, _, .inl ⟨h14, rfl, rfl⟩⟩
  by_cases h13 : a = 13
  · exact ⟨_, _, .inr (.inl ⟨h13, rfl, rfl⟩)⟩
  rcases hk with rfl | rfl | rfl
  · by_cases h8 : a < 8
    · exact ⟨_, _, .inr (.inr (.inl ⟨rfl, h8, rfl, rfl⟩))⟩
    by_cases h10 : a < 10
    · exact ⟨_, _, .inr (.inr (.inr (.inl ⟨rfl, by omega, rfl, rfl⟩)))⟩
    by_cases h12 : a < 12
    · exact ⟨_, _, .inr (.inr (.inr (.inr (.inl ⟨rfl, by omega, rfl, rfl⟩))))⟩
    · exact ⟨_, _, .inr (.inr (.inr (.inr (.inr (.inl ⟨rfl, by omega, rfl, rfl⟩)))))⟩
  · by_cases h8 : a < 8
    · by_cases hb : b < 48
      · exact ⟨_, _, .inr (.inr (.inr (.inr (.inr (.inr (.inl ⟨rfl, by omega, rfl, rfl⟩))))))⟩
      · exact ⟨_, _, .inr (.inr (.inr (.inr (.inr (.inr (.inr (.inl ⟨rfl, by omega, rfl, rfl⟩)))))))⟩
    by_cases h10 : a < 10
    · exact ⟨_, _, .inr (.inr (.inr (.inr (.inr (.inr (.inr (.inr (.inl ⟨rfl, by omega, rfl, rfl⟩))))))))⟩
    by_cases h11 : a = 10
    · exact ⟨_, _, .inr (.inr (.inr (.inr (.inr (.inr (.inr (.inr (.inr (.inl ⟨rfl, h11, rfl, rfl⟩)))))))))⟩
    by_cases h12 : a = 11
    · exact ⟨_, _, .inr (.inr (.inr (.inr (.inr (.inr (.inr (.inr (.inr (.inr (.inl ⟨rfl, h12, rfl, rfl⟩))))))))))⟩
    · exact ⟨_, _, .inr (.inr (.inr (.inr (.inr (.inr (.inr (.inr (.inr (.inr (.inr (.inl ⟨rfl, by omega, rfl, rfl⟩)))))))))))⟩
  · by_cases h9 : a < 9
    · exact ⟨_, _, .inr (.inr (.inr (.inr (.inr (.inr (.inr (.inr (.inr (.inr (.inr (.inr (.inl ⟨rfl, by omega, rfl, rfl⟩))))))))))))⟩
    · exact ⟨_, _, .inr (.inr (.inr (.inr (.inr (.inr (.inr (.inr (.inr (.inr (.inr (.inr (.inr ⟨rfl, by omega, rfl, rfl⟩))))))))))))⟩
theorem GOp.fit {kind : Int} {a b : Nat} {op arg : Int} (hk : kind = 1 ∨ kind = 2 ∨ kind = 3) (h : GOp kind a b op arg) : (2 ≤ op ∧ op ≤ 25) ∧ (arg = 1 ∨ arg = 2 ∨ arg = 3) := by
  unfold GOp at h
  omega
theorem ar_m (op : Int) : ∃ m : Nat, ar op = m ∧ m ≤ 3 := by
  unfold ar
  split
  · exact ⟨1, rfl, by omega⟩
  · split
    · exact ⟨3, rfl, by omega⟩
    · split
      · exact ⟨2, rfl, by omega⟩
      · exact ⟨0, rfl, by omega⟩
/-- The kind of an operand. -/
def kdG (op arg : Int) (i : Nat) : Int := if op = 16 ∧ i = 0 then 2 else arg
theorem kdG_ok {op arg : Int} (i : Nat) (h : arg = 1 ∨ arg = 2 ∨ arg = 3) : kdG op arg i = 1 ∨ kdG op arg i = 2 ∨ kdG op arg i = 3 := by
  unfold kdG
  split
  · omega
  · exact h

/-- What a call of l3Gen does. -/
def GenC (len : Nat) (f : Nat → Nat) (d p : Nat) (kind : Int) (l : List Nx) (q : Nat) : Prop := ∀ (w : World) (a : Option Addr) (c : Nat) (v : Value), Byts w a len f → PickV w v →
  Calls Tryz.prog 24 #[.slice a len c, .int .i64 p, v, .int .i64 kind, .int .i64 d] w (DrawOut w l q)
/-- What may be drawn at a depth. -/
def GenE (len : Nat) (f : Nat → Nat) (d p : Nat) (kind : Int) (l : List Nx) (q : Nat) : Prop := (∀ n, n ∈ l → FitS n) ∧ 1 ≤ l.length ∧ l.length ≤ 4 ^ d ∧ p ≤ q ∧ q ≤ p + 3 * 4 ^ d ∧ GenC len f d p kind l q
/-- The operands, one after another. -/
structure StG (len : Nat) (f : Nat → Nat) (d p : Nat) (kd : Nat → Int) (m : Nat) (st : Nat → List Nx × Nat) : Prop where
  zero : st 0 = ([], p)
  step : ∀ i, i < m → ∃ l, (st (i + 1)).1 = (st i).1 ++ l ∧ GenC len f d (st i).2 (kd i) l (st (i + 1)).2
  fit : ∀ i, i ≤ m → (∀ n, n ∈ (st i).1 → FitS n) ∧ (st i).1.length ≤ i * 4 ^ d ∧ p ≤ (st i).2 ∧ (st i).2 ≤ p + i * (3 * 4 ^ d)
theorem stp_ex {len : Nat} {f : Nat → Nat} {d p : Nat} {kd : Nat → Int} (hk : ∀ i, kd i = 1 ∨ kd i = 2 ∨ kd i = 3) (M : Nat) (hp : p + M * (3 * 4 ^ d) ≤ 900000) (ih : ∀ p kind, p + 3 * 4 ^ d ≤ 900000 → (kind = 1 ∨ kind = 2 ∨ kind = 3) → ∃ l q, GenE len f d p kind l q) : ∀ m, m ≤ M → ∃ st, StG len f d p kd m st
  | 0, _ => ⟨fun _ => ([], p), rfl, fun i hi => absurd hi (Nat.not_lt_zero _), fun i hi => ⟨fun n hn => (by cases hn), Nat.zero_le _, Nat.le_refl _, Nat.le_add_right _ _⟩⟩
  | m + 1, hm => by
    obtain ⟨st, h0, hs, hf⟩ := stp_ex hk M hp ih m (by omega)
    obtain ⟨f1, f2, f3, f4⟩ := hf m (Nat.le_refl _)
    have e1 : (m + 1) * (3 * 4 ^ d) ≤ M * (3 * 4 ^ d) := Nat.mul_le_mul_right _ hm
    have e2 : (m + 1) * (3 * 4 ^ d) = m * (3 * 4 ^ d) + 3 * 4 ^ d := Nat.succ_mul _ _
    have e3 : (m + 1) * 4 ^ d = m * 4 ^ d + 4 ^ d := Nat.succ_mul _ _
    obtain ⟨l, q, g1, g2, g3, g4, g5, g6⟩ := ih (st m).2 (kd m) (by omega) (hk m)
    refine ⟨fun i => if i ≤ m then st i else ((st m).1 ++ l, q), by simp only [Nat.zero_le, if_true]; exact h0, fun i hi => ?_, fun i hi => ?_⟩
    · by_cases e : i < m
      · simp only [if_pos (show i + 1 ≤ m by omega), if_pos (show i ≤ m by omega)]
        exact hs i e
      · obtain rfl : i = m := by omega
        simp only [if_neg (show ¬ i + 1 ≤ i by omega), if_pos (Nat.le_refl i)]
        exact ⟨l, rfl, g6⟩
    · by_cases e : i ≤ m
      · simp only [if_pos e]
        exact hf i e
      · obtain rfl : i = m + 1 := by omega
        simp only [if_neg e]
        exact ⟨fun n hn => (List.mem_append.1 hn).elim (f1 n) (g1 n), by rw [List.length_append]; omega, by omega, by omega⟩
end Go.Proofs.YtjgngbmkpiihgaaGreatDoor
