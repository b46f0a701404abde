/- impl.labelSets.bounds: the table of joins (or of meets) that the sets give. -/
import Derived.Test.YtnmpkdmflijhpaaDoorBnd
import Derived.Test.YtnmpkdmflijhpaaDoorTable
import Derived.Test.YtnmpkdmflijhpaaDoorLeast
import Derived.Deep.MidRow
namespace Go.Proofs.YtnmpkdmflijhpaaDoor
open Go Go.RowKit

theorem run_sets {w : World} {b : Nat} {g : Nat → Nat} (hb : Blk w b 75 (us g)) : (Instr.loadAt 75 (.pointer (some ⟨b, 0, none⟩))).run Tryd.prog w = .ok (.agg (us g).toArray) w := by
  simp only [Instr.loadAt, Instr.sureAddr, Sem.run_bind, Sem.run_pure, Result.andThen_ok, run_loadVar_row w b 75 75 (us g).toArray (0, 0) _ hb Tryd.underlying75 rfl (size_us g)]

theorem Blk.range {w : World} {b : Nat} {t : TypeId} {cs : List Value} (h : Blk w b t cs) : w.rangeAt b 0 cs := fun j v hv => by rw [Nat.zero_add, h.cell, hv]
theorem len_us (g : Nat → Nat) : (Tryd.prog.info? 75).map (·.size) = some (us g).length := by rw [size_sets, us_length]
/-- What a reading of the sets leans on. -/
def Held (w' : World) (B k j : Nat) (g : Nat → Nat) : Prop := Blk w' B 75 (us g) ∧ Tab w' ∧ w'.cell? ⟨B, k, none⟩ = some (.int .u32 (g k : Int)) ∧ w'.cell? ⟨B, j, none⟩ = some (.int .u32 (g j : Int)) ∧ w'.rangeAt B 0 (us g)
theorem Held.mono {w w' : World} {B k j : Nat} {g : Nat → Nat} (h : Held w B k j g) (hb : Below w.heap.size w w') : Held w' B k j g :=
  have h0 := h.1.mono hb h.1.lt
  ⟨h0, h.2.1.mono hb, (hb.cell (p := ⟨B, k, none⟩) h.1.lt).trans h.2.2.1, (hb.cell (p := ⟨B, j, none⟩) h.1.lt).trans h.2.2.2.1, h0.range⟩

theorem _root_.Go.World.ownsRow.mono3 {w w' : World} {base e g n cap : Nat} {xs : List Value} (h : w.ownsRow base e 1 (.slice (some ⟨g, 0, none⟩) n cap) n xs) (hb : Below w.heap.size w w') : w'.ownsRow base e 1 (.slice (some ⟨g, 0, none⟩) n cap) n xs :=
  h.kept (row := none) ⟨hb.os, hb.tape, hb.output, hb.size, fun k hk _ => hb.block k hk⟩ (.inr (by simp [Value.ownBlock]))
/-- The entry of the table at (a, b). -/
def Entry (g : Nat → Nat) (a b : Nat) (v : Int) : Prop := Least g (commonN (g a) (g b)) v

set_option maxRecDepth 100000 in
set_option maxHeartbeats 4000000 in
theorem bounds_any (n : Nat) (g : Nat → Nat) (w : World) (h1 : 1 ≤ n) (hn : n ≤ 32) (hg : ∀ a, a < 32 → g a < 4294967296) (ht : Tab w) :
    Calls Tryd.prog 81 #[.agg (us g).toArray, .int .i64 n] w fun e w' => Below w.heap.size w w' ∧
      ((∃ G F, e = .returned (.tuple #[.slice (some ⟨G, 0, none⟩) (n * n) (n * n), .bool true]) ∧ Blk w' G 3 (is (n * n) F) ∧ w.heap.size ≤ G ∧ ∀ a, a < n → ∀ b, b < n → 0 ≤ F (a * n + b) ∧ Entry g a b (F (a * n + b))) ∨
       (e = .returned (.tuple #[.slice none 0 0, .bool false]) ∧ ∃ a b, a < n ∧ b < n ∧ Entry g a b (-1))) := by
  obtain ⟨i0, hi, hz0, hz1, hz2⟩ := info_parts info_int
  have q1 : (n : Int) * n ≤ 1024 := by rw [← Int.natCast_mul]; have := sq_le hn; omega
  have q0 : 0 ≤ (n : Int) * n := by rw [← Int.natCast_mul]; omega
  have q2 := sq_le hn
  have hbn : i0.bytes * (n * n) ≤ 281474976710656 := by rw [hz2]; omega
  have hC : ((n : Int) * n) = ((n * n : Nat) : Int) := by simp
  have HC := hide hC; clear hC
  go_enter Tryd.func81, Tryd.ntmps81
  go_wp2_with (at_make; refine wpList_make_own _ rfl _ (.tmp 12) 27 rfl w.heap.size 3 i0 (.int .i64 0) 1 Tryd.underlying27 hi hz0 hz1 .i64 .i64 _ (n * n) rfl rfl (unhide HC) hbn (by unfold maxLen; omega) (by simp) ?_; intro w1 hown hgrow)
  have hb1 : Below w.heap.size w w1 := ((Below.refl _ w).alloc (Nat.le_refl _) _).trans ((Below.refl w.heap.size _).grown hgrow (by simp) (fun k e => by cases e))
  have hB := (Blk.new w 75 (us g).toArray).grown hgrow (by simp)
  have HO := hide hown; have HB1 := hide hb1; have HB := hide hB
  clear hown hb1 hB hgrow hbn
  go_loopw [6, 15] (fun v i wr => ∃ (k : Nat) (F : Nat → Int), k ≤ n ∧ i = .int .i64 k ∧ v = .slice (some ⟨w.heap.size + 1, 0, none⟩) (k * n) (n * n) ∧ wr.ownsRow w.heap.size 3 1 (.slice (some ⟨w.heap.size + 1, 0, none⟩) (k * n) (n * n)) (k * n) (is (k * n) F) ∧ Blk wr w.heap.size 75 (us g) ∧ Below w.heap.size w wr ∧ (∀ a, a < k → ∀ b, b < n → 0 ≤ F (a * n + b) ∧ Entry g a b (F (a * n + b)))) (fun _ i _ => n - (intOf i).toNat)
  case atStart => exact ⟨0, fun _ => 0, Nat.zero_le _, rfl, by simp, by simpa [is] using unhide HO, unhide HB, unhide HB1, fun a h => absurd h (Nat.not_lt_zero _)⟩
  case round =>
    clear HO HB HB1
    obtain ⟨k, F, hk, rfl, rfl, hown, hB, hW, hF⟩ := hrel
    have HO := hide hown; have HB := hide hB; have HW := hide hW; have HF := hide hF; clear hown hB hW hF
    by_cases hlt : k < n
    · go_wp2_with fail
      go_loopw [6, 19] (fun v i wr => ∃ (j : Nat) (F : Nat → Int), j ≤ n ∧ i = .int .i64 j ∧ v = .slice (some ⟨w.heap.size + 1, 0, none⟩) (k * n + j) (n * n) ∧ wr.ownsRow w.heap.size 3 1 (.slice (some ⟨w.heap.size + 1, 0, none⟩) (k * n + j) (n * n)) (k * n + j) (is (k * n + j) F) ∧ Blk wr w.heap.size 75 (us g) ∧ Below w.heap.size w wr ∧ (∀ a, a < k → ∀ b, b < n → 0 ≤ F (a * n + b) ∧ Entry g a b (F (a * n + b))) ∧ (∀ b, b < j → 0 ≤ F (k * n + b) ∧ Entry g k b (F (k * n + b)))) (fun _ i _ => n - (intOf i).toNat)
      case atStart => exact ⟨0, F, Nat.zero_le _, rfl, by simp, by simpa using unhide HO, unhide HB, unhide HW, unhide HF, fun b h => absurd h (Nat.not_lt_zero _)⟩
      case round =>
        clear HO HB HW HF
        obtain ⟨j, F, hj, rfl, rfl, hown, hB, hW, hF, hG⟩ := hrel
        have HO := hide hown; have HB := hide hB; have HW := hide hW; have HF := hide hF; have HG := hide hG
        by_cases hlj : j < n
        · have k32 : k < 32 := by omega
          have j32 : j < 32 := by omega
          have ck := hB.cell k
          have cj := hB.cell j
          rw [us_get _ k32] at ck; rw [us_get _ j32] at cj
          have gk := hg k k32; have gj := hg j j32
          have gc := commonN_lt (t := g j) gk
          have l0 := hB.lt
          have hT := ht.mono hW
          have S0 : Hid (Held wr w.heap.size k j g) := ⟨hB, hT, ck, cj, hB.range⟩
          have hu56 := Tryd.underlying75
          have hl56 := len_us g
          have k0i : (0 : Int) ≤ k := by omega
          have k1i : (k : Int) < 32 := by omega
          have j0i : (0 : Int) ≤ j := by omega
          have j1i : (j : Int) < 32 := by omega
          clear hown hB hW hF hG hT ck cj
          go_wp2_with fail
          go_region_held3 (fun w' => Blk w' w.heap.size 75 (us g) ∧ Tab w' ∧ w'.cell? ⟨w.heap.size, k, none⟩ = some (.int .u32 (g k : Int)) ∧ w'.cell? ⟨w.heap.size, j, none⟩ = some (.int .u32 (g j : Int)) ∧ w'.rangeAt w.heap.size 0 (us g)) (first | exact unhide S0 | exact unhide S2 | exact unhide S3) (first | (go_at_call 103; refine (common_any _ _ _ gk gj).mono ?_; rintro e w2 ⟨rfl, hb2⟩; have S2 : Hid (Held w2 w.heap.size k j g) := (unhide S0).mono (below_of_drew hb2); replace hb2 := hide (below_of_drew hb2)) | (go_at_call 84; refine (leastOf_any g _ _ hg gc (unhide S2).2.1).mono ?_; rintro e w3 ⟨v, rfl, hv, hb3⟩; have S3 : Hid (Held w3 w.heap.size k j g) := (unhide S2).mono hb3; replace hb3 := hide ((unhide hb2).trans (hb3.mono (unhide hb2).size)); replace hv := hide hv))
          have HV : Hid (Entry g k j v) := hv
          have HW3 : Hid (Below wr.heap.size wr w3) := hb3
          have own3 := (unhide HO).mono3 (unhide HW3)
          have hB3 := (unhide S3).1
          have hv0 : v = -1 ∨ 0 ≤ v := by
            rcases unhide HV with ⟨c, -, rfl, -⟩ | ⟨rfl, -⟩
            · exact .inr (by omega)
            · exact .inl rfl
          have hlen := idx_lt hlt hlj
          have hWW := (unhide HW).trans ((unhide HW3).mono (unhide HW).size)
          have HO3 := hide own3; have HB3 := hide hB3; have HWW := hide hWW
          clear own3 hB3 hWW hv hb3 hb2 S0 S2 S3 hu56 hl56
          rcases hv0 with rfl | hv0
          · have HX : Hid (∃ a b, a < n ∧ b < n ∧ Entry g a b (-1)) := ⟨k, j, hlt, hlj, unhide HV⟩
            go_wp2
            go_ret2
            exact ⟨unhide HWW, .inr ⟨rfl, unhide HX⟩⟩
          · go_wp2_with (at_builtin; refine wpList_append_fits _ rfl _ _ 27 rfl w.heap.size 3 i0 1 Tryd.underlying27 hi hz1 (w.heap.size + 1) (k * n + j) (n * n) _ rfl ((unhide HO3).alloc _) ⟨w3.heap.size, 0, none⟩ 1 1 [.int .i64 v] rfl rfl ?c1 (by simp [Value.oneCell']) hlen ?_)
            case c1 =>
              intro q u hq
              match q, hq with
              | 0, hq => simp at hq; subst hq; simp [Addr.add]
            · intro w4 hown4 hgrow4
              have hB4 := ((unhide HB3).alloc (.cells #[.int .i64 v] 3)).grown hgrow4 (by simp)
              have hW4 := ((unhide HWW).alloc (unhide HWW).size (.cells #[.int .i64 v] 3)).grown hgrow4 (by have := (unhide HWW).size; simp; omega) (fun q e => by cases e; omega)
              have HO4 := hide hown4; have HB4 := hide hB4; have HW4 := hide hW4; clear hown4 hgrow4 hB4 hW4
              go_wp2
              go_roundw
              case rel =>
                refine ⟨j + 1, fun i => if i = k * n + j then v else F i, by omega, by go_num, rfl, ?_, unhide HB4, unhide HW4, fun a ha b hb => ?_, fun b hb => ?_⟩
                · have e : is (k * n + (j + 1)) (fun i => if i = k * n + j then v else F i) = is (k * n + j) F ++ [.int .i64 v] := by
                    rw [← Nat.add_assoc, is_snoc]
                    simp only [if_true]
                    congr 1
                    unfold is
                    refine List.map_congr_left fun q hq => ?_
                    simp only [if_neg (show ¬ q = k * n + j by have := List.mem_range.1 hq; omega)]
                  rw [e]; exact unhide HO4
                · have : ¬ a * n + b = k * n + j := by
                    have h2 : (a + 1) * n ≤ k * n := Nat.mul_le_mul_right _ ha
                    rw [Nat.succ_mul] at h2; omega
                  simp only [if_neg this]; exact unhide HF a ha b hb
                · by_cases e : b = j
                  · subst e; simp only [if_true]; exact ⟨hv0, unhide HV⟩
                  · simp only [if_neg (show ¬ k * n + b = k * n + j by omega)]
                    exact unhide HG b (by omega)
              case measure => simp [intOf]; omega
        · obtain rfl : j = n := by omega
          clear hown hB hW hF hG
          go_wp2_with fail
          go_roundw
          case rel =>
            refine ⟨k + 1, F, by omega, by go_num, by rw [Nat.succ_mul], by rw [Nat.succ_mul]; exact unhide HO, unhide HB, unhide HW, fun a ha => ?_⟩
            by_cases e : a = k
            · subst e; exact unhide HG
            · exact unhide HF a (by omega)
          case measure => simp [intOf]; omega
    · obtain rfl : k = n := by omega
      go_wp2
      go_ret2
      exact ⟨unhide HW, .inl ⟨_, F, rfl, Blk.of_owns (unhide HO), by omega, unhide HF⟩⟩
end Go.Proofs.YtnmpkdmflijhpaaDoor
