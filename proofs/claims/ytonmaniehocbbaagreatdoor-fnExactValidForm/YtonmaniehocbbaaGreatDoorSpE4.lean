/- The model prints an expression. -/
import Derived.Test.YtonmaniehocbbaaGreatDoorSpE3
import Derived.Test.YtonmaniehocbbaaGreatDoorShow
import Derived.Test.YtonmaniehocbbaaGreatDoorHand
import Derived.Test.YtonmaniehocbbaaGreatDoorBnd
namespace Go.Proofs.YtonmaniehocbbaaGreatDoor
open Go Go.RowKit

theorem jt_snoc (l : List ByteArray) (x : ByteArray) : jt (l ++ [x]) = jt l ++ (⟨#[44, 32]⟩ ++ x) := by
  induction l with
  | nil => show ⟨#[44, 32]⟩ ++ x ++ ByteArray.empty = ByteArray.empty ++ (⟨#[44, 32]⟩ ++ x); rw [ByteArray.append_empty, ByteArray.empty_append]
  | cons y r ih => simp only [List.cons_append, jt, ih, ByteArray.append_assoc]
theorem jn_snoc (l : List ByteArray) (x : ByteArray) (h : l ≠ []) : jn (l ++ [x]) = jn l ++ ⟨#[44, 32]⟩ ++ x := by
  cases l with
  | nil => exact absurd rfl h
  | cons y r => simp only [List.cons_append, jn, jt_snoc, ByteArray.append_assoc]
/-- What every call of the printer can lean on. -/
structure PrOk (a : Option Addr) (m : Nat) (e : Nat → Nx) (n : Nat) (w : World) : Prop where
  nods : Nods w a m e
  st : stkOk e n
  ok : okAll e n
  fit : ∀ k, k < n → Fit (e k)
theorem PrOk.mono {a : Option Addr} {m : Nat} {e : Nat → Nx} {n : Nat} {w w' : World} (h : PrOk a m e n w) (hb : Below w.heap.size w w') : PrOk a m e n w' := ⟨h.nods.mono hb, h.st, h.ok, h.fit⟩
theorem PrOk.le {a : Option Addr} {m : Nat} {e : Nat → Nx} {n k : Nat} {w : World} (h : PrOk a m e n w) (hk : k ≤ n) : PrOk a m e k w := ⟨h.nods, h.st.le hk, h.ok.le hk, fun j hj => h.fit j (by omega)⟩
theorem PrOk.tot {a : Option Addr} {m : Nat} {e : Nat → Nx} {n : Nat} {w : World} (h : PrOk a m e n w) : tot (pst e n) ≤ 1100 * n := (tot_pst e n h.st h.ok (fun k hk => (h.fit k hk).2.2.2)).2
theorem PrOk.top {a : Option Addr} {m : Nat} {e : Nat → Nx} {n : Nat} {w : World} (h : PrOk a m e n w) (hn : 1 ≤ n) : (top e n).t.size ≤ 1100 * n := Nat.le_trans (tot_mem (top_mem e hn)) h.tot
/-- The contract of the printer at one place. -/
def Prints (a : Option Addr) (m c : Nat) (e : Nat → Nx) (en : Nat) : Prop := ∀ w : World, PrOk a m e en w →
  Calls Tryz.prog 59 #[.slice a m c, .int .i64 en] w fun r w' => r = .returned (.string (top e en).t) ∧ Below w.heap.size w w'

set_option maxRecDepth 100000 in
set_option maxHeartbeats 4000000 in
theorem l3Wrap_of (a : Option Addr) (m c : Nat) (e : Nat → Nx) (n : Nat) (l : Int) (w : World) (hm : m ≤ 1000) (hn : n + 1 ≤ m) (hp : Prints a m c e (n + 1)) (h : PrOk a m e (n + 1) w) :
    Calls Tryz.prog 86 #[.slice a m c, .int .i64 ((n + 1 : Nat) : Int), .int .i64 l] w fun r w' => r = .returned (.string (wrap l (top e (n + 1)))) ∧ Below w.heap.size w w' := by
  have hw0 : wrap64 (((n + 1 : Nat) : Int) - 1) = (n : Int) := by rw [wrap64_small (by omega) (by omega)]; omega
  have hnm : (n : Int) < m := by omega
  have hsz := h.top (by omega)
  have HO := hide h
  have HW : Hid (wrap l (top e (n + 1)) = if lvl (e n).op < l then ⟨#[40]⟩ ++ (top e (n + 1)).t ++ ⟨#[41]⟩ else (top e (n + 1)).t) := hide rfl
  clear h
  go_enter Tryz.func86, Tryz.ntmps86
  go_wp2_with fail
  refine (hp _ (unhide HO)).mono ?_
  rintro r w1 ⟨rfl, hb⟩
  have HB := hide hb
  replace HO := hide ((unhide HO).mono hb)
  clear hb
  obtain ⟨b, o, rfl, -, z0, z1, z2, z3, z4⟩ := (unhide HO).nods n (by omega)
  generalize (top e (n + 1)).t = t at *
  go_wp2_with fail
  refine (l3Level_any _ _).mono ?_
  rintro r w2 ⟨rfl, hw⟩
  replace hw := hw.symm; subst hw
  generalize lvl (e n).op = q at *
  clear z0 z1 z2 z3 z4
  by_cases hq : q < l
  · go_wp2_with fail
    go_ret
    exact ⟨ret_str (by rw [unhide HW, if_pos hq]), unhide HB⟩
  · go_wp2_with fail
    go_ret
    exact ⟨ret_str (by rw [unhide HW, if_neg (by omega)]), unhide HB⟩
end Go.Proofs.YtonmaniehocbbaaGreatDoor
