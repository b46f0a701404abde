/- The model's plain decimal. -/
import Derived.Test.YtnmpkdmflijhpaaGreatDoorBig1
namespace Go.Proofs.YtnmpkdmflijhpaaGreatDoor
open Go Go.RowKit

theorem digit_piece : ∀ d : Fin 10, (⟨#[48, 49, 50, 51, 52, 53, 54, 55, 56, 57]⟩ : ByteArray).extract d.val (d.val + 1) = ⟨#[UInt8.ofNat (48 + d.val)]⟩ := by decide +kernel
theorem run_digit (d : Nat) (hd : d < 10) (w : World) : (Instr.slice 9 (.string ⟨#[48, 49, 50, 51, 52, 53, 54, 55, 56, 57]⟩) (some (.int .i64 (d : Int))) (some (.int .i64 ((d : Int) + 1))) none).run Tryz.prog w = .ok (.string ⟨#[UInt8.ofNat (48 + d)]⟩) w := by
  rw [run_slice_string w 9 _ .i64 .i64 _ _ Tryz.underlying9 (by omega) (by omega) (by show (d : Int) + 1 ≤ 10; omega), show ((d : Int)).toNat = d by omega, show ((d : Int) + 1).toNat = d + 1 by omega, digit_piece ⟨d, hd⟩]
theorem string_ext {a b : ByteArray} (h : a.data.toList = b.data.toList) : a = b := by
  obtain ⟨⟨l⟩⟩ := a; obtain ⟨⟨m⟩⟩ := b
  simp at h; rw [h]
theorem take_snoc {l : List Nat} {k d : Nat} (hk : k < l.length) (hd : l.getD k 0 = d) : l.take (k + 1) = l.take k ++ [d] := by
  rw [List.take_add_one, List.getElem?_eq_getElem hk]
  simp [List.getD, List.getElem?_eq_getElem hk] at hd
  simp [hd]
theorem u8_add (d : Nat) : 48 + UInt8.ofNat d = UInt8.ofNat (48 + d) := by simp [UInt8.ofNat_add]
theorem itoa_zero : Lib.itoa 0 = [48] := by rw [Lib.itoa, if_neg (by omega)]; exact Lib.decDigits_one (i := 0) (by omega)
theorem str_append (l m : List UInt8) : (⟨l.toArray⟩ : ByteArray) ++ ⟨m.toArray⟩ = ⟨(l ++ m).toArray⟩ := by
  apply string_ext; simp [ByteArray.data_append]

set_option maxRecDepth 100000 in
set_option maxHeartbeats 2000000 in
theorem l2Decimal_any (x : Int) (w : World) (h0 : -9223372036854775808 ≤ x) (h1 : x ≤ 9223372036854775807) :
    Calls Tryz.prog 33 #[.int .i64 x] w fun e w' => e = .returned (.string ⟨(Lib.itoa x).toArray⟩) ∧ Below w.heap.size w w' := by
  go_enter Tryz.func33, Tryz.ntmps33
  go_wp2_with fail
  refine (l2FromInt_any x _ h0 h1).mono ?_
  rintro e w1 ⟨v, rfl, hv, hb1⟩
  have hlen : (digs x.natAbs).length ≤ 19 := digs_length_le (by omega)
  have HX := hide (And.intro h0 h1); clear h0 h1
  obtain ⟨a, cap, rfl, hc, -, hI⟩ := hv
  have bW : Below w.heap.size w (w1.alloc (.cells #[.bool (decide (x < 0)), .slice a (digs x.natAbs).length cap] 46)) := hb1.alloc hb1.size _
  have hB := Blk.new w1 46 #[.bool (decide (x < 0)), .slice a (digs x.natAbs).length cap]
  have hI2 := hI.mono ((Below.refl w1.heap.size w1).alloc (Nat.le_refl _) (.cells #[.bool (decide (x < 0)), .slice a (digs x.natAbs).length cap] 46))
  have HW := hide bW; have HB := hide hB; have HI := hide hI2; clear bW hB hI2 hI hb1
  by_cases hx : x = 0
  · subst hx
    simp only [Int.natAbs_zero, digs_zero] at *
    go_wp2
    go_ret
    exact ⟨by rw [itoa_zero]; rfl, unhide HW⟩
  · have hn : (digs x.natAbs).length ≠ 0 := by intro e; have := digs_nil.1 (List.length_eq_zero_iff.1 e); omega
    go_wp2
    go_loopw [4, 5] (fun s i wr => ∃ k : Nat, k ≤ (digs x.natAbs).length ∧ i = .int .i64 k ∧ s = .string ⟨(hdig ((digs x.natAbs).take k).reverse).toArray⟩ ∧ wr = w1.alloc (.cells #[.bool (decide (x < 0)), .slice a (digs x.natAbs).length cap] 46)) (fun _ i _ => (digs x.natAbs).length - (intOf i).toNat)
    case atStart => exact ⟨0, Nat.zero_le _, rfl, by simp [hdig], rfl⟩
    case round =>
      obtain ⟨k, hk, rfl, rfl, rfl⟩ := hrel
      by_cases hlt : k < (digs x.natAbs).length
      · obtain ⟨b1, o1, rfl, -, hc1⟩ := unhide HI k hlt
        obtain ⟨d, hd, hD⟩ : ∃ d, d < 10 ∧ (digs x.natAbs).getD k 0 = d := ⟨_, by rw [digs_at]; exact Nat.mod_lt _ (by decide), rfl⟩
        dsimp only at hc1
        rw [hD] at hc1
        have hs := run_digit d hd
        have HD := hide hD; clear hD
        generalize hS : hdig ((digs x.natAbs).take k).reverse = S at *
        have HS := hide hS
        have hSl : S.length ≤ 19 := by rw [← hS]; simp [hdig]; omega
        clear hS
        go_wp2
        go_roundw
        case rel =>
          refine ⟨k + 1, by omega, by go_num, ?_, trivial⟩
          rw [take_snoc hlt (unhide HD), List.reverse_append, ← unhide HS, u8_add]
          exact congrArg _ (str_append [_] _)
        case measure => simp [intOf]; omega
      · obtain rfl : k = (digs x.natAbs).length := by omega
        have hz : Lib.itoa x = (if x < 0 then [45] else []) ++ hdig (digs x.natAbs).reverse := by
          unfold Lib.itoa hdig
          split
          · rw [decDigits_digs (by omega)]; rfl
          · rw [show x.toNat = x.natAbs by omega, decDigits_digs (by omega)]; rfl
        have HZ := hide hz; clear hz
        rw [List.take_length]
        generalize hS : hdig (digs x.natAbs).reverse = S at *
        have hSl : S.length ≤ 19 := by rw [← hS]; simp [hdig]; omega
        clear hS
        by_cases hneg : x < 0
        · go_wp2
          go_ret
          refine ⟨?_, by have hh := unhide HW; rw [decide_eq_true hneg] at hh; exact hh⟩
          rw [unhide HZ, if_pos hneg]
          exact congrArg (fun z => Ending.returned (.string z)) (str_append [45] S)
        · go_wp2
          go_ret
          refine ⟨?_, by have hh := unhide HW; rw [decide_eq_false (by omega)] at hh; exact hh⟩
          rw [unhide HZ, if_neg (by omega)]
          rfl
end Go.Proofs.YtnmpkdmflijhpaaGreatDoor
