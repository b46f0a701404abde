import Derived.Test.YtjgngbmkpiihgaaGreatDoorGRa
import Derived.Test.YtjgngbmkpiihgaaGreatDoorGRn
/- The program's reader of tokens: signs, backward. -/
namespace Go.Proofs.YtjgngbmkpiihgaaGreatDoor
open Go Go.RowKit Go.Shelf
attribute [local go_sem] Oper.semAt_some

def bkE (ss : List ByteArray) (x : Nat) : Array Value := #[.int .i64 (x : Nat), .string (pk ss x)]
theorem Backward_any (a : Option Addr) (n c : Nat) (w : World) : Calls Tryz.prog 140 #[.slice a n c] w fun e w' => e = .returned (.func (.func 155) #[] #[.pointer (some ⟨w.heap.size, 0, none⟩)]) ∧ w' = w.alloc (.cells #[.slice a n c] 48) := by
  have hmf : ∀ (fn : Fn) (first cap : Array Value) (w : World), (Instr.makeFunc fn first cap).run Tryz.prog w = .ok (.func fn first cap) w := fun _ _ _ _ => rfl
  go_enter Tryz.func140, Tryz.ntmps140
  go_wp2
  go_ret
  exact ⟨rfl, rfl⟩
set_option maxRecDepth 100000 in
set_option maxHeartbeats 4000000 in
theorem back_gives (a : Option Addr) (c B : Nat) (ss : List ByteArray) (hl : ss.length ≤ 1048576) :
    GivesE Tryz.prog (bkE ss) 155 #[.pointer (some ⟨B, 0, none⟩)] (fun pre x => x + pre.length + 1 = ss.length) (fun xs => xs = (List.range ss.length).reverse) (fun W => Blk W B 48 [.slice a ss.length c] ∧ Strs W a ss) := by
  intro n l J W hC hJ0 hY
  have HY := hide hY; have HC := hide hC; have HJ := hide hJ0
  obtain ⟨y0, -⟩ := hC _ _ hJ0
  replace y0 := y0.cell 0
  simp only [List.getElem?_cons_zero] at y0
  clear hY hC hJ0
  refine callsIn_of_wp Tryz.func155 rfl trivial ?_ rfl
  simp only [Tryz.ntmps155, List.size_toArray, List.length_cons, List.length_nil, Nat.reduceAdd, Nat.reduceSub, Array.replicate_succ, Array.replicate_zero, List.push_toArray, List.append_toArray, List.nil_append, List.cons_append]
  gi_wp2_with fail
  gi_loopw [3] (fun v wr => ∃ k : Nat, k ≤ ss.length ∧ v = .int .i64 ((k : Int) - 1) ∧ J (((List.range ss.length).drop k).reverse) wr) (fun v _ => (intOf v + 1).toNat)
  case atStart => exact ⟨ss.length, Nat.le_refl _, rfl, by rw [List.drop_of_length_le (by simp)]; exact unhide HJ⟩
  case round =>
    clear HJ y0
    obtain ⟨k, hk, rfl, hj⟩ := hrel
    have HJi := hide hj
    obtain ⟨hB, hS⟩ := unhide HC _ _ hj
    have y0 := hB.cell 0
    simp only [List.getElem?_cons_zero] at y0
    have HS := hide hS
    clear hj hB hS
    cases k with
    | zero =>
      rw [List.drop_zero] at HJi
      have h9 : ¬ (0 : Int) ≤ ((0 : Nat) : Int) - 1 := by omega
      gi_wp2_with fail
      go_end0
      exact ⟨⟨_, rfl⟩, unhide HJi⟩
    | succ x =>
      have hx : x < ss.length := by omega
      have hx' : (x : Int) < (ss.length : Int) := by omega
      have h8 : (((x + 1 : Nat) : Int) - 1) = (x : Int) := by omega
      rw [h8]
      obtain ⟨b, o, rfl, -, z⟩ := unhide HS x hx
      have hl2 : ((List.range ss.length).drop (x + 1)).reverse.length = ss.length - (x + 1) := by simp
      have hyy := unhide HY (n - 1) _ x wr (unhide HJi) (by rw [hl2]; omega)
      have HE : Hid (((List.range ss.length).drop (x + 1)).reverse ++ [x] = ((List.range ss.length).drop x).reverse) := hide (by
        rw [List.drop_eq_getElem_cons (i := x) (by simpa using hx), List.reverse_cons]
        simp)
      rw [unhide HE] at hyy
      unfold bkE at hyy
      rw [pk_lt hx] at hyy
      generalize ss[x] = t at *
      obtain ⟨fn, tmps, assign, body, hy, hRd⟩ := hyy
      have HRD := hide hRd
      clear hRd hl2 HE
      gi_wp2_with fail
      refine ⟨noDepth, (unhide HRD).mono ?_⟩
      rintro e W3 ⟨rfl, hj3⟩
      have HJ3 := hide hj3
      clear hj3
      gi_wp2_with fail
      exact ⟨⟨x, by omega, rfl, unhide HJ3⟩, by simp [intOf]; try omega⟩
end Go.Proofs.YtjgngbmkpiihgaaGreatDoor
