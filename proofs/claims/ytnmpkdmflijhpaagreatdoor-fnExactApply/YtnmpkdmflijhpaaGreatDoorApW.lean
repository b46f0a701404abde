/- The model's Apply: what each kind gives, by operator. -/
import Derived.Test.YtnmpkdmflijhpaaGreatDoorApZ
namespace Go.Proofs.YtnmpkdmflijhpaaGreatDoor
open Go Go.RowKit

def R1 (op : Int) (m : Nat) (f : Nat → Vx) : Vx := if m = 1 then int1 op (f 0).n else int2 op (f 0).n (f 1).n
def R3 (op : Int) (m : Nat) (f : Nat → Vx) : Vx := if m = 1 then text1 op (f 0) else text2 op (f 0).s (f 1).s
def R2 (op : Int) (m : Nat) (f : Nat → Vx) : Vx := if m = 1 then bool1 op (f 0) else bool2 op (f 0).n (f 1).n
def Plain (op : Int) : Prop := op = 2 ∨ op = 3 ∨ op = 21 ∨ op = 22 ∨ op = 23 ∨ op = 4 ∨ op = 5 ∨ op = 6 ∨ op = 7 ∨ op = 8 ∨ op = 9 ∨ op = 10 ∨ op = 11 ∨ op = 12 ∨ op = 13 ∨ op = 17 ∨ op = 18 ∨ op = 20
theorem empty_of {s : ByteArray} (h : s.size = 0) : s = ⟨#[]⟩ := ByteArray.ext (Array.eq_empty_of_size_eq_zero h)
theorem okInt {u : Vx} (h : okVal u.k u.n u.s = true) (hk : u.k = 1) : u = intX u.n := by
  obtain ⟨k, n, s⟩ := u
  dsimp only at hk h ⊢
  subst hk
  have hs : s.size = 0 := by simpa [okVal] using h
  rw [empty_of hs]; rfl
theorem okTextS {u : Vx} (h : okVal u.k u.n u.s = true) (hk : u.k = 3) : u.s.size ≤ 1000 := by
  rw [hk] at h
  have : okText u.s = true := by
    simp [okVal] at h
    exact h.2
  exact (okText_iff.1 this).1
theorem allK_at {f : Nat → Vx} {m i : Nat} {kind : Int} (h : allK f m kind = true) (hi : i < m) : (f i).k = kind := of_decide_eq_true (List.all_eq_true.1 h i (List.mem_range.2 hi))
theorem vals0 {W : World} {a : Option Addr} {m : Nat} {f : Nat → Vx} (hv : Vals W a m f) (hm : 0 < m) : ∃ b o, a = some ⟨b, o, none⟩ ∧ Cel W b o (f 0) := by
  obtain ⟨b, o, e, h⟩ := hv 0 hm
  exact ⟨b, o, e, by simpa using h⟩
theorem vals1 {W : World} {a : Option Addr} {m : Nat} {f : Nat → Vx} (hv : Vals W a m f) (hm : 1 < m) : ∃ b o, a = some ⟨b, o, none⟩ ∧ Cel W b o (f 0) ∧ Cel W b (o + 3) (f 1) := by
  obtain ⟨b, o, e, h⟩ := hv 0 (by omega)
  obtain ⟨b', o', e', h'⟩ := hv 1 hm
  rw [e] at e'
  cases e'
  exact ⟨b, o, e, by simpa using h, by simpa using h'⟩

theorem gvInts (op : Int) (a : Option Addr) (m c : Nat) (f : Nat → Vx) (hop : Plain op) (hm : ar op = m) (hk : allK f m 1 = true) (hok : ∀ i, i < m → okVal (f i).k (f i).n (f i).s = true) (hr : ∀ i, i < m → -9223372036854775808 ≤ (f i).n ∧ (f i).n ≤ 9223372036854775807) : Gv 19 op a m c f (R1 op m f) := by
  intro W hv
  unfold Plain at hop
  rcases hop with rfl | rfl | rfl | rfl | rfl | rfl | rfl | rfl | rfl | rfl | rfl | rfl | rfl | rfl | rfl | rfl | rfl | rfl
  · obtain rfl : m = 1 := by have : ar 2 = 1 := by decide
                             omega
    obtain ⟨b, o, rfl, h0⟩ := vals0 hv (by omega)
    exact onInt_neg b o c (f 0) W h0 (hr 0 (by omega))
  · obtain rfl : m = 1 := by have : ar 3 = 1 := by decide
                             omega
    obtain ⟨b, o, rfl, h0⟩ := vals0 hv (by omega)
    exact onInt_not b o c (f 0) W h0 (hr 0 (by omega))
  · obtain rfl : m = 1 := by have : ar 21 = 1 := by decide
                             omega
    obtain ⟨b, o, rfl, h0⟩ := vals0 hv (by omega)
    exact onInt_len b o c (f 0) W h0 (hr 0 (by omega))
  · obtain rfl : m = 1 := by have : ar 22 = 1 := by decide
                             omega
    obtain ⟨b, o, rfl, h0⟩ := vals0 hv (by omega)
    exact onInt_num b o c (f 0) W h0 (hr 0 (by omega))
  · obtain rfl : m = 1 := by have : ar 23 = 1 := by decide
                             omega
    obtain ⟨b, o, rfl, h0⟩ := vals0 hv (by omega)
    exact onInt_str b o c (f 0) W h0 (hr 0 (by omega))
  · obtain rfl : m = 2 := by have : ar 4 = 2 := by decide
                             omega
    obtain ⟨b, o, rfl, h0, h1⟩ := vals1 hv (by omega)
    exact onInts_mul b o c (f 0) (f 1) W h0 h1 (hr 0 (by omega)) (hr 1 (by omega))
  · obtain rfl : m = 2 := by have : ar 5 = 2 := by decide
                             omega
    obtain ⟨b, o, rfl, h0, h1⟩ := vals1 hv (by omega)
    by_cases hz : (f 1).n = 0
    · exact onInts_div0 b o c (f 0) (f 1) W h0 h1 (hr 0 (by omega)) (hr 1 (by omega)) hz
    · exact onInts_div b o c (f 0) (f 1) W h0 h1 (hr 0 (by omega)) (hr 1 (by omega)) hz
  · obtain rfl : m = 2 := by have : ar 6 = 2 := by decide
                             omega
    obtain ⟨b, o, rfl, h0, h1⟩ := vals1 hv (by omega)
    by_cases hz : (f 1).n = 0
    · exact onInts_mod0 b o c (f 0) (f 1) W h0 h1 (hr 0 (by omega)) (hr 1 (by omega)) hz
    · exact onInts_mod b o c (f 0) (f 1) W h0 h1 (hr 0 (by omega)) (hr 1 (by omega)) hz
  · obtain rfl : m = 2 := by have : ar 7 = 2 := by decide
                             omega
    obtain ⟨b, o, rfl, h0, h1⟩ := vals1 hv (by omega)
    exact onInts_add b o c (f 0) (f 1) W h0 h1 (hr 0 (by omega)) (hr 1 (by omega))
  · obtain rfl : m = 2 := by have : ar 8 = 2 := by decide
                             omega
    obtain ⟨b, o, rfl, h0, h1⟩ := vals1 hv (by omega)
    exact onInts_sub b o c (f 0) (f 1) W h0 h1 (hr 0 (by omega)) (hr 1 (by omega))
  · obtain rfl : m = 2 := by have : ar 9 = 2 := by decide
                             omega
    obtain ⟨b, o, rfl, h0, h1⟩ := vals1 hv (by omega)
    exact onInts_cat b o c (f 0) (f 1) W h0 h1 (hr 0 (by omega)) (hr 1 (by omega))
  · obtain rfl : m = 2 := by have : ar 10 = 2 := by decide
                             omega
    obtain ⟨b, o, rfl, h0, h1⟩ := vals1 hv (by omega)
    exact onInts_eq b o c (f 0) (f 1) W h0 h1 (hr 0 (by omega)) (hr 1 (by omega))
  · obtain rfl : m = 2 := by have : ar 11 = 2 := by decide
                             omega
    obtain ⟨b, o, rfl, h0, h1⟩ := vals1 hv (by omega)
    exact onInts_ne b o c (f 0) (f 1) W h0 h1 (hr 0 (by omega)) (hr 1 (by omega))
  · obtain rfl : m = 2 := by have : ar 12 = 2 := by decide
                             omega
    obtain ⟨b, o, rfl, h0, h1⟩ := vals1 hv (by omega)
    exact onInts_lt b o c (f 0) (f 1) W h0 h1 (hr 0 (by omega)) (hr 1 (by omega))
  · obtain rfl : m = 2 := by have : ar 13 = 2 := by decide
                             omega
    obtain ⟨b, o, rfl, h0, h1⟩ := vals1 hv (by omega)
    exact onInts_le b o c (f 0) (f 1) W h0 h1 (hr 0 (by omega)) (hr 1 (by omega))
  · obtain rfl : m = 2 := by have : ar 17 = 2 := by decide
                             omega
    obtain ⟨b, o, rfl, h0, h1⟩ := vals1 hv (by omega)
    exact onInts_min b o c (f 0) (f 1) W h0 h1 (hr 0 (by omega)) (hr 1 (by omega)) (okInt (hok 0 (by omega)) (allK_at hk (by omega))) (okInt (hok 1 (by omega)) (allK_at hk (by omega)))
  · obtain rfl : m = 2 := by have : ar 18 = 2 := by decide
                             omega
    obtain ⟨b, o, rfl, h0, h1⟩ := vals1 hv (by omega)
    exact onInts_max b o c (f 0) (f 1) W h0 h1 (hr 0 (by omega)) (hr 1 (by omega)) (okInt (hok 0 (by omega)) (allK_at hk (by omega))) (okInt (hok 1 (by omega)) (allK_at hk (by omega)))
  · obtain rfl : m = 2 := by have : ar 20 = 2 := by decide
                             omega
    obtain ⟨b, o, rfl, h0, h1⟩ := vals1 hv (by omega)
    exact onInts_has b o c (f 0) (f 1) W h0 h1 (hr 0 (by omega)) (hr 1 (by omega))
theorem gvTexts (op : Int) (a : Option Addr) (m c : Nat) (f : Nat → Vx) (hop : Plain op) (hm : ar op = m) (hk : allK f m 3 = true) (hok : ∀ i, i < m → okVal (f i).k (f i).n (f i).s = true) : Gv 20 op a m c f (R3 op m f) := by
  intro W hv
  unfold Plain at hop
  rcases hop with rfl | rfl | rfl | rfl | rfl | rfl | rfl | rfl | rfl | rfl | rfl | rfl | rfl | rfl | rfl | rfl | rfl | rfl
  · obtain rfl : m = 1 := by have : ar 2 = 1 := by decide
                             omega
    obtain ⟨b, o, rfl, h0⟩ := vals0 hv (by omega)
    exact onText_neg b o c (f 0) W h0 ⟨allK_at hk (by omega), okTextS (hok 0 (by omega)) (allK_at hk (by omega))⟩
  · obtain rfl : m = 1 := by have : ar 3 = 1 := by decide
                             omega
    obtain ⟨b, o, rfl, h0⟩ := vals0 hv (by omega)
    exact onText_not b o c (f 0) W h0 ⟨allK_at hk (by omega), okTextS (hok 0 (by omega)) (allK_at hk (by omega))⟩
  · obtain rfl : m = 1 := by have : ar 21 = 1 := by decide
                             omega
    obtain ⟨b, o, rfl, h0⟩ := vals0 hv (by omega)
    exact onText_len b o c (f 0) W h0 ⟨allK_at hk (by omega), okTextS (hok 0 (by omega)) (allK_at hk (by omega))⟩
  · obtain rfl : m = 1 := by have : ar 22 = 1 := by decide
                             omega
    obtain ⟨b, o, rfl, h0⟩ := vals0 hv (by omega)
    exact onText_num b o c (f 0) W h0 ⟨allK_at hk (by omega), okTextS (hok 0 (by omega)) (allK_at hk (by omega))⟩
  · obtain rfl : m = 1 := by have : ar 23 = 1 := by decide
                             omega
    obtain ⟨b, o, rfl, h0⟩ := vals0 hv (by omega)
    exact onText_str b o c (f 0) W h0 ⟨allK_at hk (by omega), okTextS (hok 0 (by omega)) (allK_at hk (by omega))⟩
  · obtain rfl : m = 2 := by have : ar 4 = 2 := by decide
                             omega
    obtain ⟨b, o, rfl, h0, h1⟩ := vals1 hv (by omega)
    exact onTexts_mul b o c (f 0) (f 1) W h0 h1 ⟨okTextS (hok 0 (by omega)) (allK_at hk (by omega)), okTextS (hok 1 (by omega)) (allK_at hk (by omega))⟩
  · obtain rfl : m = 2 := by have : ar 5 = 2 := by decide
                             omega
    obtain ⟨b, o, rfl, h0, h1⟩ := vals1 hv (by omega)
    exact onTexts_div b o c (f 0) (f 1) W h0 h1 ⟨okTextS (hok 0 (by omega)) (allK_at hk (by omega)), okTextS (hok 1 (by omega)) (allK_at hk (by omega))⟩
  · obtain rfl : m = 2 := by have : ar 6 = 2 := by decide
                             omega
    obtain ⟨b, o, rfl, h0, h1⟩ := vals1 hv (by omega)
    exact onTexts_mod b o c (f 0) (f 1) W h0 h1 ⟨okTextS (hok 0 (by omega)) (allK_at hk (by omega)), okTextS (hok 1 (by omega)) (allK_at hk (by omega))⟩
  · obtain rfl : m = 2 := by have : ar 7 = 2 := by decide
                             omega
    obtain ⟨b, o, rfl, h0, h1⟩ := vals1 hv (by omega)
    exact onTexts_add b o c (f 0) (f 1) W h0 h1 ⟨okTextS (hok 0 (by omega)) (allK_at hk (by omega)), okTextS (hok 1 (by omega)) (allK_at hk (by omega))⟩
  · obtain rfl : m = 2 := by have : ar 8 = 2 := by decide
                             omega
    obtain ⟨b, o, rfl, h0, h1⟩ := vals1 hv (by omega)
    exact onTexts_sub b o c (f 0) (f 1) W h0 h1 ⟨okTextS (hok 0 (by omega)) (allK_at hk (by omega)), okTextS (hok 1 (by omega)) (allK_at hk (by omega))⟩
  · obtain rfl : m = 2 := by have : ar 9 = 2 := by decide
                             omega
    obtain ⟨b, o, rfl, h0, h1⟩ := vals1 hv (by omega)
    exact onTexts_cat b o c (f 0) (f 1) W h0 h1 ⟨okTextS (hok 0 (by omega)) (allK_at hk (by omega)), okTextS (hok 1 (by omega)) (allK_at hk (by omega))⟩
  · obtain rfl : m = 2 := by have : ar 10 = 2 := by decide
                             omega
    obtain ⟨b, o, rfl, h0, h1⟩ := vals1 hv (by omega)
    exact onTexts_eq b o c (f 0) (f 1) W h0 h1 ⟨okTextS (hok 0 (by omega)) (allK_at hk (by omega)), okTextS (hok 1 (by omega)) (allK_at hk (by omega))⟩
  · obtain rfl : m = 2 := by have : ar 11 = 2 := by decide
                             omega
    obtain ⟨b, o, rfl, h0, h1⟩ := vals1 hv (by omega)
    exact onTexts_ne b o c (f 0) (f 1) W h0 h1 ⟨okTextS (hok 0 (by omega)) (allK_at hk (by omega)), okTextS (hok 1 (by omega)) (allK_at hk (by omega))⟩
  · obtain rfl : m = 2 := by have : ar 12 = 2 := by decide
                             omega
    obtain ⟨b, o, rfl, h0, h1⟩ := vals1 hv (by omega)
    exact onTexts_lt b o c (f 0) (f 1) W h0 h1 ⟨okTextS (hok 0 (by omega)) (allK_at hk (by omega)), okTextS (hok 1 (by omega)) (allK_at hk (by omega))⟩
  · obtain rfl : m = 2 := by have : ar 13 = 2 := by decide
                             omega
    obtain ⟨b, o, rfl, h0, h1⟩ := vals1 hv (by omega)
    exact onTexts_le b o c (f 0) (f 1) W h0 h1 ⟨okTextS (hok 0 (by omega)) (allK_at hk (by omega)), okTextS (hok 1 (by omega)) (allK_at hk (by omega))⟩
  · obtain rfl : m = 2 := by have : ar 17 = 2 := by decide
                             omega
    obtain ⟨b, o, rfl, h0, h1⟩ := vals1 hv (by omega)
    exact onTexts_min b o c (f 0) (f 1) W h0 h1 ⟨okTextS (hok 0 (by omega)) (allK_at hk (by omega)), okTextS (hok 1 (by omega)) (allK_at hk (by omega))⟩
  · obtain rfl : m = 2 := by have : ar 18 = 2 := by decide
                             omega
    obtain ⟨b, o, rfl, h0, h1⟩ := vals1 hv (by omega)
    exact onTexts_max b o c (f 0) (f 1) W h0 h1 ⟨okTextS (hok 0 (by omega)) (allK_at hk (by omega)), okTextS (hok 1 (by omega)) (allK_at hk (by omega))⟩
  · obtain rfl : m = 2 := by have : ar 20 = 2 := by decide
                             omega
    obtain ⟨b, o, rfl, h0, h1⟩ := vals1 hv (by omega)
    exact onTexts_has b o c (f 0) (f 1) W h0 h1 ⟨okTextS (hok 0 (by omega)) (allK_at hk (by omega)), okTextS (hok 1 (by omega)) (allK_at hk (by omega))⟩
theorem gvBools (op : Int) (a : Option Addr) (m c : Nat) (f : Nat → Vx) (hop : Plain op) (hm : ar op = m) (hk : allK f m 2 = true)  : Gv 21 op a m c f (R2 op m f) := by
  intro W hv
  unfold Plain at hop
  rcases hop with rfl | rfl | rfl | rfl | rfl | rfl | rfl | rfl | rfl | rfl | rfl | rfl | rfl | rfl | rfl | rfl | rfl | rfl
  · obtain rfl : m = 1 := by have : ar 2 = 1 := by decide
                             omega
    obtain ⟨b, o, rfl, h0⟩ := vals0 hv (by omega)
    exact onBool_neg b o c (f 0) W h0 (allK_at hk (by omega))
  · obtain rfl : m = 1 := by have : ar 3 = 1 := by decide
                             omega
    obtain ⟨b, o, rfl, h0⟩ := vals0 hv (by omega)
    exact onBool_not b o c (f 0) W h0 (allK_at hk (by omega))
  · obtain rfl : m = 1 := by have : ar 21 = 1 := by decide
                             omega
    obtain ⟨b, o, rfl, h0⟩ := vals0 hv (by omega)
    exact onBool_len b o c (f 0) W h0 (allK_at hk (by omega))
  · obtain rfl : m = 1 := by have : ar 22 = 1 := by decide
                             omega
    obtain ⟨b, o, rfl, h0⟩ := vals0 hv (by omega)
    exact onBool_num b o c (f 0) W h0 (allK_at hk (by omega))
  · obtain rfl : m = 1 := by have : ar 23 = 1 := by decide
                             omega
    obtain ⟨b, o, rfl, h0⟩ := vals0 hv (by omega)
    exact onBool_str b o c (f 0) W h0 (allK_at hk (by omega))
  · obtain rfl : m = 2 := by have : ar 4 = 2 := by decide
                             omega
    obtain ⟨b, o, rfl, h0, h1⟩ := vals1 hv (by omega)
    exact onBools_mul b o c (f 0) (f 1) W h0 h1
  · obtain rfl : m = 2 := by have : ar 5 = 2 := by decide
                             omega
    obtain ⟨b, o, rfl, h0, h1⟩ := vals1 hv (by omega)
    exact onBools_div b o c (f 0) (f 1) W h0 h1
  · obtain rfl : m = 2 := by have : ar 6 = 2 := by decide
                             omega
    obtain ⟨b, o, rfl, h0, h1⟩ := vals1 hv (by omega)
    exact onBools_mod b o c (f 0) (f 1) W h0 h1
  · obtain rfl : m = 2 := by have : ar 7 = 2 := by decide
                             omega
    obtain ⟨b, o, rfl, h0, h1⟩ := vals1 hv (by omega)
    exact onBools_add b o c (f 0) (f 1) W h0 h1
  · obtain rfl : m = 2 := by have : ar 8 = 2 := by decide
                             omega
    obtain ⟨b, o, rfl, h0, h1⟩ := vals1 hv (by omega)
    exact onBools_sub b o c (f 0) (f 1) W h0 h1
  · obtain rfl : m = 2 := by have : ar 9 = 2 := by decide
                             omega
    obtain ⟨b, o, rfl, h0, h1⟩ := vals1 hv (by omega)
    exact onBools_cat b o c (f 0) (f 1) W h0 h1
  · obtain rfl : m = 2 := by have : ar 10 = 2 := by decide
                             omega
    obtain ⟨b, o, rfl, h0, h1⟩ := vals1 hv (by omega)
    exact onBools_eq b o c (f 0) (f 1) W h0 h1
  · obtain rfl : m = 2 := by have : ar 11 = 2 := by decide
                             omega
    obtain ⟨b, o, rfl, h0, h1⟩ := vals1 hv (by omega)
    exact onBools_ne b o c (f 0) (f 1) W h0 h1
  · obtain rfl : m = 2 := by have : ar 12 = 2 := by decide
                             omega
    obtain ⟨b, o, rfl, h0, h1⟩ := vals1 hv (by omega)
    exact onBools_lt b o c (f 0) (f 1) W h0 h1
  · obtain rfl : m = 2 := by have : ar 13 = 2 := by decide
                             omega
    obtain ⟨b, o, rfl, h0, h1⟩ := vals1 hv (by omega)
    exact onBools_le b o c (f 0) (f 1) W h0 h1
  · obtain rfl : m = 2 := by have : ar 17 = 2 := by decide
                             omega
    obtain ⟨b, o, rfl, h0, h1⟩ := vals1 hv (by omega)
    exact onBools_min b o c (f 0) (f 1) W h0 h1
  · obtain rfl : m = 2 := by have : ar 18 = 2 := by decide
                             omega
    obtain ⟨b, o, rfl, h0, h1⟩ := vals1 hv (by omega)
    exact onBools_max b o c (f 0) (f 1) W h0 h1
  · obtain rfl : m = 2 := by have : ar 20 = 2 := by decide
                             omega
    obtain ⟨b, o, rfl, h0, h1⟩ := vals1 hv (by omega)
    exact onBools_has b o c (f 0) (f 1) W h0 h1

/-- What the model's Apply gives. -/
def apY (op : Int) (m : Nat) (f : Nat → Vx) : Vx :=
  if op = 25 then boolX ((f 0).k == 4) else if op = 16 then ifX (f 0) (f 1) (f 2) else if op = 19 then elseX (f 0) (f 1)
  else if op = 24 then errFirst f m (boolX ((f 0).k == 0)) else if op = 14 then errFirst f m (andX (f 0) (f 1)) else if op = 15 then errFirst f m (orX (f 0) (f 1))
  else plainX f m (R1 op m f) (R3 op m f) (R2 op m f)
def allOk (f : Nat → Vx) (m : Nat) : Bool := (List.range m).all fun i => okVal (f i).k (f i).n (f i).s
theorem allOk_iff {f : Nat → Vx} {m : Nat} : allOk f m = true ↔ ∀ i, i < m → okVal (f i).k (f i).n (f i).s = true := by
  rw [allOk, List.all_eq_true]
  exact ⟨fun h i hi => h i (List.mem_range.2 hi), fun h i hi => h i (List.mem_range.1 hi)⟩
def apX (op : Int) (m : Nat) (f : Nat → Vx) : Vx := if ar op = 0 ∨ (m : Int) ≠ ar op then errX 1 else if allOk f m then apY op m f else errX 1
theorem ar_is (op : Int) : ar op = 0 ∨ (ar op = 1 ∧ (op = 2 ∨ op = 3 ∨ op = 21 ∨ op = 22 ∨ op = 23 ∨ op = 24 ∨ op = 25)) ∨ (ar op = 3 ∧ op = 16) ∨ (ar op = 2 ∧ 4 ≤ op ∧ op ≤ 20 ∧ op ≠ 16) := by
  unfold ar
  split
  · omega
  · split
    · omega
    · split <;> omega

set_option maxRecDepth 100000 in
theorem specApply_any (op : Int) (a : Option Addr) (m c : Nat) (f : Nat → Vx) (w : World) (hm : m ≤ 9223372036854775807) (hv : Vals w a m f) (hs : ∀ i, i < m → (f i).s.size ≤ 9223372036854775807) (hr : ∀ i, i < m → -9223372036854775808 ≤ (f i).n ∧ (f i).n ≤ 9223372036854775807) :
    Calls Tryz.prog 5 #[.int .i64 op, .slice a m c] w fun e w' => e = .returned (vv (apX op m f)) ∧ Below w.heap.size w w' := by
  unfold apX
  by_cases hbad : ar op = 0 ∨ (m : Int) ≠ ar op
  · rw [if_pos hbad]
    exact specApply_bad op a m c w hm hbad
  rw [if_neg hbad]
  have har : ar op = m := by omega
  have hm13 : 1 ≤ m ∧ m ≤ 3 := by have := ar_is op; omega
  by_cases hok : allOk f m = true
  · rw [if_pos hok]
    have hok' := allOk_iff.1 hok
    have t : ∀ {x y : Int}, x = y → (x == y) = true := fun h => beq_iff_eq.2 h
    have n : ∀ {x y : Int}, ¬ x = y → (x == y) = false := fun h => beq_eq_false_iff_ne.2 h
    unfold apY
    by_cases h25 : op = 25
    · rw [if_pos h25]
      exact specApply_iserr op a m c f w (by have := ar_is op; omega) har hv hok' hs (t h25)
    rw [if_neg h25]
    by_cases h16 : op = 16
    · rw [if_pos h16]
      exact specApply_if op a m c f w (by have := ar_is op; omega) har hv hok' hs (n h25) (t h16)
    rw [if_neg h16]
    by_cases h19 : op = 19
    · rw [if_pos h19]
      exact specApply_else op a m c f w (by have := ar_is op; omega) har hv hok' hs (n h25) (n h16) (t h19)
    rw [if_neg h19]
    by_cases h24 : op = 24
    · rw [if_pos h24]
      exact specApply_isblank op a m c f w (by have := ar_is op; omega) har hv hok' hs (n h25) (n h16) (n h19) (t h24)
    rw [if_neg h24]
    by_cases h14 : op = 14
    · rw [if_pos h14]
      exact specApply_and op a m c f w (by have := ar_is op; omega) har hv hok' hs (n h25) (n h16) (n h19) (n h24) (t h14)
    rw [if_neg h14]
    by_cases h15 : op = 15
    · rw [if_pos h15]
      exact specApply_or op a m c f w (by have := ar_is op; omega) har hv hok' hs (n h25) (n h16) (n h19) (n h24) (n h14) (t h15)
    rw [if_neg h15]
    have hop : Plain op := by unfold Plain; have := ar_is op; omega
    exact specApply_plain op a m c f w hm13 har hv hok' hs (n h25) (n h16) (n h19) (n h24) (n h14) (n h15) _ _ _ (fun h => gvInts op a m c f hop har h hok' hr) (fun h => gvTexts op a m c f hop har h hok') (fun h => gvBools op a m c f hop har h)
  · rw [if_neg hok]
    exact specApply_invalid op a m c f w hm13 har hv (fun h => hok (allOk_iff.2 h)) hs
end Go.Proofs.YtnmpkdmflijhpaaGreatDoor
