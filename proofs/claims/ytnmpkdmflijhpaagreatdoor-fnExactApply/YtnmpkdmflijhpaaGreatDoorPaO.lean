/- The program's table of operators. -/
import Derived.Test.YtnmpkdmflijhpaaGreatDoorApV
namespace Go.Proofs.YtnmpkdmflijhpaaGreatDoor
open Go Go.RowKit

def opT : List Value := [.nilFunc, .nilFunc, .nilFunc, .nilFunc, .func (.func 60) #[] #[], .func (.func 61) #[] #[], .func (.func 62) #[] #[], .func (.func 63) #[] #[], .func (.func 60) #[] #[], .func (.func 64) #[] #[], .func (.func 60) #[] #[], .func (.func 65) #[] #[], .func (.func 60) #[] #[], .func (.func 66) #[] #[], .func (.func 60) #[] #[], .func (.func 67) #[] #[], .func (.func 60) #[] #[], .func (.func 68) #[] #[], .func (.func 69) #[] #[], .func (.func 70) #[] #[], .func (.func 71) #[] #[], .func (.func 72) #[] #[], .func (.func 71) #[] #[], .func (.func 73) #[] #[], .func (.func 74) #[] #[], .func (.func 75) #[] #[], .func (.func 74) #[] #[], .func (.func 76) #[] #[], .func (.func 77) #[] #[], .func (.func 78) #[] #[], .func (.func 77) #[] #[], .func (.func 79) #[] #[], .func (.func 80) #[] #[], .func (.func 81) #[] #[], .func (.func 60) #[] #[], .func (.func 82) #[] #[], .func (.func 60) #[] #[], .func (.func 83) #[] #[], .func (.func 84) #[] #[], .func (.func 85) #[] #[], .func (.func 69) #[] #[], .func (.func 86) #[] #[], .func (.func 69) #[] #[], .func (.func 87) #[] #[], .func (.func 69) #[] #[], .func (.func 88) #[] #[], .func (.func 71) #[] #[], .func (.func 89) #[] #[], .func (.func 84) #[] #[], .func (.func 90) #[] #[], .func (.func 84) #[] #[], .func (.func 91) #[] #[]]
def nilT : List Value := List.replicate 52 .nilFunc
theorem opT_size : (Tryz.prog.info? 69).map (·.size) = some opT.toArray.size := by kernel_rfl
theorem opT_one : opT.toArray.all (·.oneCell') = true := by kernel_rfl
section
variable {ops : Array Oper} {rest : List Oper} {o : Oper} {a : Act} {w : World} {Q : Exit → Act → World → Prop}
/-- The whole table written at once. -/
theorem wpList_store_ops (hgd : o.guard = none) (x y : Operand) (ho : o.op = .store 69 x y) (b : Nat) (hx : a.eval x = .pointer (some ⟨b, 0, none⟩)) (hy : a.eval y = .agg opT.toArray) (hb : Blk w b 69 nilT)
    (h : ∀ w', Blk w' b 69 opT → w.grownBy w' (some b) → w'.heap.size = w.heap.size → wpList Tryz.prog ops Q rest (a.put o.dst undef) w') : wpList Tryz.prog ops Q (o :: rest) a w :=
  wpList_plain hgd fun _ hK => wp_store_row 69 x y ho b opT.toArray hx hy _ _ hb opT_size (by rfl) opT_one
    (hK _ _ (h _ (setRow_heap w b _ _ _ _ hb) ⟨rfl, rfl, rfl, by simp, fun k _ hk => setRow_other w b k _ (fun e => hk (by rw [e]))⟩ (by simp)))
/-- One operator written at once. -/
theorem wpList_store_op (k1 k2 : Nat) (hgd : o.guard = none) (x y : Operand) (ho : o.op = .store 60 x y) (b : Nat) (old : List Value) (hl : old.length = 2) (hx : a.eval x = .pointer (some ⟨b, 0, none⟩)) (hy : a.eval y = .agg #[.func (.func k1) #[] #[], .func (.func k2) #[] #[]]) (hb : Blk w b 60 old)
    (h : ∀ w', Blk w' b 60 [.func (.func k1) #[] #[], .func (.func k2) #[] #[]] → w.grownBy w' (some b) → w'.heap.size = w.heap.size → wpList Tryz.prog ops Q rest (a.put o.dst undef) w') : wpList Tryz.prog ops Q (o :: rest) a w :=
  wpList_plain hgd fun _ hK => wp_store_row 60 x y ho b #[.func (.func k1) #[] #[], .func (.func k2) #[] #[]] hx hy _ _ hb (by kernel_rfl) (by simpa using hl) (by simp [Value.oneCell'])
    (hK _ _ (h _ (setRow_heap w b _ _ _ _ hb) ⟨rfl, rfl, rfl, by simp, fun k _ hk => setRow_other w b k _ (fun e => hk (by rw [e]))⟩ (by simp)))
end

set_option maxRecDepth 100000 in
set_option maxHeartbeats 4000000 in
theorem operatorOf_any (n k1 k2 : Nat) (h25 : n ≤ 25) (hE : opT[n * 2]? = some (.func (.func k1) #[] #[]) ∧ opT[n * 2 + 1]? = some (.func (.func k2) #[] #[])) (w : World) : Calls Tryz.prog 47 #[.int .i64 n] w fun e w' => e = .returned (.agg #[.func (.func k1) #[] #[], .func (.func k2) #[] #[]]) ∧ Below w.heap.size w w' := by
  have E1 := hide hE
  clear hE
  obtain ⟨B, hB⟩ : ∃ B, w.heap.size + 1 = B := ⟨_, rfl⟩
  go_enter Tryz.func47, Tryz.ntmps47
  go_wp2_with (refine wpList_store_ops rfl _ _ rfl B rfl rfl ?hb ?_)
  case hb =>
    rw [← hB]
    have h := Blk.new (w.alloc (.cells #[.nilFunc, .nilFunc] 60)) 69 nilT.toArray
    rw [World.size_alloc] at h
    exact h
  intro w1 hb1 hg1 hs1
  have hR : Blk w1 w.heap.size 60 [.nilFunc, .nilFunc] := Blk.grown ((Blk.new w 60 #[.nilFunc, .nilFunc]).alloc _) hg1 (fun e => by have := Option.some.inj e; omega)
  have hlow : Below w.heap.size w w1 := (((Below.refl _ w).alloc (Nat.le_refl _) _).alloc (by simp) _).grown hg1 (by simp; omega) (fun k e => by have := Option.some.inj e; omega)
  have c0 : w1.cell? ⟨B, n * 2, none⟩ = some (.func (.func k1) #[] #[]) := (hb1.cell (n * 2)).trans (unhide E1).1
  have c1 : w1.cell? ⟨B, n * 2 + 1, none⟩ = some (.func (.func k2) #[] #[]) := (hb1.cell (n * 2 + 1)).trans (unhide E1).2
  have hn26 : (n : Int) < 26 := by omega
  have HLow := hide hlow; have HR := hide hR
  clear hb1 hg1 hs1 hR hlow
  go_wp2_with (refine wpList_store_op k1 k2 rfl _ _ rfl w.heap.size [.nilFunc, .nilFunc] rfl rfl rfl (unhide HR) ?_)
  intro w2 hb2 hg2 hs2
  have r0 : w2.cell? ⟨w.heap.size, 0, none⟩ = some (.func (.func k1) #[] #[]) := hb2.cell 0
  have r1 : w2.cell? ⟨w.heap.size, 1, none⟩ = some (.func (.func k2) #[] #[]) := hb2.cell 1
  have HL2 := hide ((unhide HLow).grown hg2 (unhide HLow).size (fun k e => by have := Option.some.inj e; omega))
  clear hb2 hg2 hs2
  go_wp2
  exact bodyPost_ret (v := .agg #[.func (.func k1) #[] #[], .func (.func k2) #[] #[]]) (by simp [results, Tryz.results47, go_sem, *]) rfl ⟨rfl, unhide HL2⟩
end Go.Proofs.YtnmpkdmflijhpaaGreatDoor
