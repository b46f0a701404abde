/- The model's order of texts, and pieces of texts. -/
import Derived.Test.YtnmpkdmflijhpaaGreatDoorVal
import Derived.Deep.RegionHeld3
namespace Go.Proofs.YtnmpkdmflijhpaaGreatDoor
open Go Go.RowKit

theorem quiet_more {P : Program} {f : FuncId} {args : Array Value} {w : World} {t n : Nat} {v : Value} (h : Calls P f args (w.drewN (t + n)) fun e w' => e = .returned v ∧ ∃ k, w' = (w.drewN (t + n)).drewN k) :
    Calls P f args (w.drewN (t + n)) fun e w'' => e = .returned v ∧ ∃ m, w'' = w.drewN (t + m) := h.mono fun _ _ ⟨he, k, hk⟩ => ⟨he, n + k, by rw [hk]; simp [Nat.add_assoc]⟩
/-- Byte by byte, which comes first. -/
def tl : List UInt8 → List UInt8 → Bool
  | _, [] => false
  | [], _ :: _ => true
  | x :: xs, y :: ys => if x ≠ y then decide (x.toNat < y.toNat) else tl xs ys
def tailB (s : ByteArray) : ByteArray := s.extract 1 s.size
theorem tail_list (s : ByteArray) : (tailB s).data.toList = s.data.toList.tail := by
  have : s.size - 1 = s.data.toList.tail.length := by rw [List.length_tail]; rfl
  simp only [tailB, ByteArray.data_extract, Array.toList_extract, List.extract_eq_take_drop, this]
  rw [show List.drop 1 s.data.toList = s.data.toList.tail from List.drop_one]
  exact List.take_length
theorem tail_size (s : ByteArray) : (tailB s).size = s.size - 1 := by
  simp [tailB]
theorem list_size (s : ByteArray) : s.data.toList.length = s.size := rfl
theorem head_list {s : ByteArray} (h : 0 < s.size) : s.data.toList = s[0] :: (tailB s).data.toList := by
  rw [tail_list]
  have hl := list_size s
  match e : s.data.toList, hl with
  | [], hl => simp at hl; omega
  | c :: cs, _ =>
    have : s[0] = c := by
      show s.data[0] = c
      rw [← Array.getElem_toList]
      simp [e]
    rw [this]; rfl
theorem run_tail (s : ByteArray) (h2 : 1 ≤ s.size) (w : World) : (Instr.slice 9 (.string s) (some (.int .i64 1)) none none).run Tryz.prog w = .ok (.string (tailB s)) w := by
  have h1 : (1 : Int) ≤ s.size := by omega
  simp [tailB, go_sem, h1]

set_option maxRecDepth 100000 in
set_option maxHeartbeats 4000000 in
theorem l2TextLess_any (n : Nat) : ∀ (a b : ByteArray) (w : World), a.size = n → a.size ≤ 9223372036854775807 → b.size ≤ 9223372036854775807 →
    Calls Tryz.prog 40 #[.string a, .string b] w fun e w' => e = .returned (.bool (tl a.data.toList b.data.toList)) ∧ ∃ k, w' = w.drewN k := by
  induction n with
  | zero =>
    intro a b w ha h1 h2
    have hnil : a.data.toList = [] := List.length_eq_zero_iff.1 (by rw [list_size]; exact ha)
    by_cases hb : b.size = 0
    · have hbn : b.data.toList = [] := List.length_eq_zero_iff.1 (by rw [list_size]; exact hb)
      rw [hnil, hbn]
      go_enter Tryz.func40, Tryz.ntmps40
      go_wp2
      go_ret
      exact ⟨rfl, 0, rfl⟩
    · rw [hnil, head_list (s := b) (by omega)]
      go_enter Tryz.func40, Tryz.ntmps40
      go_wp2
      go_ret
      exact ⟨rfl, 0, rfl⟩
  | succ n ih =>
    intro a b w ha h1 h2
    by_cases hb : b.size = 0
    · have hbn : b.data.toList = [] := List.length_eq_zero_iff.1 (by rw [list_size]; exact hb)
      have ht : tl a.data.toList b.data.toList = false := by rw [hbn]; cases a.data.toList <;> rfl
      rw [ht]
      go_enter Tryz.func40, Tryz.ntmps40
      go_wp2
      go_ret
      exact ⟨rfl, 0, rfl⟩
    · have ha0 : 0 < a.size := by omega
      have hb0 : 0 < b.size := by omega
      have ha1 : ¬ a.size = 0 := by omega
      have HT : Hid (tl a.data.toList b.data.toList = if a[0] ≠ b[0] then decide (a[0].toNat < b[0].toNat) else tl (tailB a).data.toList (tailB b).data.toList) := hide (by rw [head_list ha0, head_list hb0]; rfl)
      have IH := hide (fun w => ih (tailB a) (tailB b) w (by rw [tail_size]; omega) (by rw [tail_size]; omega) (by rw [tail_size]; omega))
      clear ih ha
      have RA := run_tail a ha0
      have RB := run_tail b hb0
      by_cases hne : a[0] = b[0]
      · rw [if_neg (by simpa using hne)] at HT
        rw [unhide HT]
        go_enter Tryz.func40, Tryz.ntmps40
        go_wp2
        go_quiet (fail)
        clear RA RB
        have h1a : (1 : Int) ≤ a.size := by omega
        have h1b : (1 : Int) ≤ b.size := by omega
        unfold tailB at IH
        go_wp2
        go_quiet (first | (go_at_call 40; refine quiet_more (unhide IH _)))
        go_wp2
        go_ret
        exact ⟨rfl, _, by first | rfl | (simp only [World.drewN_drewN]; rfl)⟩
      · rw [if_pos (by simpa using hne)] at HT
        rw [unhide HT]
        have hne' : ¬ (a[0].toNat : Int) = b[0].toNat := fun e => hne (UInt8.toNat_inj.1 (by omega))
        clear RA RB
        by_cases hlt : a[0].toNat < b[0].toNat
        · have hlt' : (a[0].toNat : Int) < b[0].toNat := by omega
          have hd : decide (a[0].toNat < b[0].toNat) = true := decide_eq_true hlt
          rw [hd]
          go_enter Tryz.func40, Tryz.ntmps40
          go_wp2
          go_quiet (fail)
          go_wp2
          go_quiet (fail)
          go_wp2
          go_ret
          exact ⟨rfl, _, by first | rfl | (simp only [World.drewN_drewN]; rfl)⟩
        · have hlt' : ¬ (a[0].toNat : Int) < b[0].toNat := by omega
          have hd : decide (a[0].toNat < b[0].toNat) = false := decide_eq_false hlt
          rw [hd]
          go_enter Tryz.func40, Tryz.ntmps40
          go_wp2
          go_quiet (fail)
          go_wp2
          go_quiet (fail)
          go_wp2
          go_ret
          exact ⟨rfl, _, by first | rfl | (simp only [World.drewN_drewN]; rfl)⟩

/-- Whether b stands in a at place k or behind it. -/
def hasFrom (a b : ByteArray) (k : Nat) : Bool := (List.range (a.size + 1)).any fun i => decide (k ≤ i) && (decide (i + b.size ≤ a.size) && decide (a.extract i (i + b.size) = b))
theorem has_end {a b : ByteArray} {k : Nat} (h : ¬ k + b.size ≤ a.size) : hasFrom a b k = false := by
  unfold hasFrom
  rw [List.any_eq_false]
  intro i hi
  simp only [Bool.and_eq_true, decide_eq_true_eq]
  omega
theorem has_here {a b : ByteArray} {k : Nat} (h : k + b.size ≤ a.size) (e : a.extract k (k + b.size) = b) : hasFrom a b k = true := by
  unfold hasFrom
  rw [List.any_eq_true]
  exact ⟨k, List.mem_range.2 (by omega), by simp only [Bool.and_eq_true, decide_eq_true_eq]; exact ⟨Nat.le_refl _, h, e⟩⟩
theorem has_next {a b : ByteArray} {k : Nat} (e : ¬ a.extract k (k + b.size) = b) : hasFrom a b k = hasFrom a b (k + 1) := by
  unfold hasFrom
  congr 1
  funext i
  by_cases hi : i = k
  · subst hi
    rw [decide_eq_false e]; simp
  · rw [show decide (k ≤ i) = decide (k + 1 ≤ i) from by rw [decide_eq_decide]; omega]

set_option maxRecDepth 100000 in
set_option maxHeartbeats 2000000 in
theorem l2Has_any (a b : ByteArray) (w : World) (ha : a.size ≤ 1000000) (hb : b.size ≤ 1000000) :
    Calls Tryz.prog 41 #[.string a, .string b] w fun e w' => e = .returned (.bool (hasFrom a b 0)) ∧ w' = w := by
  go_enter Tryz.func41, Tryz.ntmps41
  go_wp2
  go_loopw [5] (fun i wr => ∃ k : Nat, k ≤ a.size + 1 ∧ i = .int .i64 k ∧ hasFrom a b 0 = hasFrom a b k ∧ wr = w) (fun i _ => a.size + 1 - (intOf i).toNat)
  case atStart => exact ⟨0, by omega, rfl, rfl, rfl⟩
  case round =>
    obtain ⟨k, hk, rfl, he, rfl⟩ := hrel
    have HE := hide he
    clear he
    by_cases hle : k + b.size ≤ a.size
    · have hle' : (k : Int) + b.size ≤ a.size := by omega
      by_cases heq : a.extract k (k + b.size) = b
      · have HR := hide (has_here hle heq)
        have hrun : ∀ w, (Instr.slice 9 (.string a) (some (.int .i64 (k : Int))) (some (.int .i64 ((k : Int) + b.size))) none).run Tryz.prog w = .ok (.string b) w := fun w => by
          rw [run_slice_string w 9 a .i64 .i64 _ _ Tryz.underlying9 (by omega) (by omega) (by omega), show ((k : Int)).toNat = k by omega, show ((k : Int) + b.size).toNat = k + b.size by omega, heq]
        go_wp2
        go_ret
        exact ⟨by rw [unhide HE, unhide HR]; rfl, rfl⟩
      · have HR := hide (has_next heq)
        obtain ⟨c, hc⟩ : ∃ c, a.extract k (k + b.size) = c := ⟨_, rfl⟩
        have hrun : ∀ w, (Instr.slice 9 (.string a) (some (.int .i64 (k : Int))) (some (.int .i64 ((k : Int) + b.size))) none).run Tryz.prog w = .ok (.string c) w := fun w => by
          rw [run_slice_string w 9 a .i64 .i64 _ _ Tryz.underlying9 (by omega) (by omega) (by omega), show ((k : Int)).toNat = k by omega, show ((k : Int) + b.size).toNat = k + b.size by omega, hc]
        rw [hc] at heq
        clear hc
        have hbeq : (c.toList == b.toList) = false := by
          rw [beq_eq_false_iff_ne, ByteArray.toList_eq, ByteArray.toList_eq]
          exact fun e => heq (ByteArray.ext (Array.toList_inj.1 e))
        go_wp2
        go_roundw
        case rel => exact ⟨k + 1, by omega, by go_num, by rw [unhide HE, unhide HR], trivial⟩
        case measure => simp [intOf]; omega
    · have hle' : ¬ (k : Int) + b.size ≤ a.size := by omega
      have HR := hide (has_end hle)
      go_wp2
      go_ret
      exact ⟨by rw [unhide HE, unhide HR]; rfl, rfl⟩
end Go.Proofs.YtnmpkdmflijhpaaGreatDoor
