import Derived.Test.YtalgidagiojbpaaGreatDoorQGNa
import Derived.Test.YtalgidagiojbpaaGreatDoorQOpn
import Derived.Test.YtalgidagiojbpaaGreatDoorQMk
/- Nodes in memory; which nodes are good ones: the model and the program. -/
namespace Go.Proofs.YtalgidagiojbpaaGreatDoor
open Go Go.RowKit
def nv (n : Nx) : Value := .agg #[.int .i64 n.op, .int .i64 n.v.k, .int .i64 n.v.n, .string n.v.s, .string n.nm]
/-- The cells of a node. -/
def NCel (w : World) (b o : Nat) (n : Nx) : Prop := b < w.heap.size /\ w.cell? ⟨b, o, none⟩ = some (.int .i64 n.op) /\ w.cell? ⟨b, o + 1, none⟩ = some (.int .i64 n.v.k) /\ w.cell? ⟨b, o + 2, none⟩ = some (.int .i64 n.v.n) /\ w.cell? ⟨b, o + 3, none⟩ = some (.string n.v.s) /\ w.cell? ⟨b, o + 4, none⟩ = some (.string n.nm)
theorem NCel.mono {w w' : World} {b o : Nat} {n : Nx} (h : NCel w b o n) (hb : Below w.heap.size w w') : NCel w' b o n :=
 ⟨Nat.lt_of_lt_of_le h.1 hb.size, (hb.cell h.1).trans h.2.1, (hb.cell h.1).trans h.2.2.1, (hb.cell h.1).trans h.2.2.2.1, (hb.cell h.1).trans h.2.2.2.2.1, (hb.cell h.1).trans h.2.2.2.2.2⟩
/-- A slice of nodes. -/
def Nods (w : World) (a : Option Addr) (m : Nat) (e : Nat -> Nx) : Prop := ∀ k, k < m -> ∃ b o, a = some ⟨b, o, none⟩ /\ NCel w b (o + k * 5) (e k)
theorem Nods.mono {w w' : World} {a : Option Addr} {m : Nat} {e : Nat -> Nx} (h : Nods w a m e) (hb : Below w.heap.size w w') : Nods w' a m e := fun k hk => by
 obtain ⟨b, o, e, hc⟩ := h k hk
 exact ⟨b, o, e, hc.mono hb⟩
/-- What every node of a list can be reckoned with. -/
def Fit (n : Nx) : Prop := n.v.s.size <= 9223372036854775807 /\ n.nm.size <= 9223372036854775807 /\ -9223372036854775808 <= n.v.n /\ n.v.n <= 9223372036854775807
theorem five {w : World} {b : Nat} {t : TypeId} {v0 v1 v2 v3 v4 : Value} (h : Blk w b t [v0, v1, v2, v3, v4]) :
 w.cell? ⟨b, 0, none⟩ = some v0 /\ w.cell? ⟨b, 1, none⟩ = some v1 /\ w.cell? ⟨b, 2, none⟩ = some v2 /\ w.cell? ⟨b, 3, none⟩ = some v3 /\ w.cell? ⟨b, 4, none⟩ = some v4 := ⟨h.cell 0, h.cell 1, h.cell 2, h.cell 3, h.cell 4⟩
theorem ar_nn (op : Int) : 0 <= ar op := by
 unfold ar
 split
 . omega
 . split
   . omega
   . split <;> omega
theorem arn_cast (n : Nx) : ((arn n : Nat) : Int) = ar n.op := by have := ar_nn n.op; unfold arn; omega
theorem ops2 (op : Int) : op = 0 ∨ op = 1 ∨ (¬ op = 0 /\ ¬ op = 1) := by omega
set_option maxRecDepth 100000 in
set_option maxHeartbeats 1000000 in
theorem l3NodeArity_any (n : Nx) (w : World) : Calls Tryz.prog 168 #[nv n] w fun e w' => e = .returned (.int .i64 (arn n)) /\ Below w.heap.size w w' := by
 rw [arn_cast]
 unfold nv
 have HB := h_ ((Below.refl w.heap.size w).alloc (Nat.le_refl _) (.cells #[.int .i64 n.op, .int .i64 n.v.k, .int .i64 n.v.n, .string n.v.s, .string n.nm] 149))
 go_enter Tryz.func168, Tryz.ntmps168
 go_wp2_with fail
 refine (l2Arity_any _ _).mono ?_
 rintro e w' ⟨rfl, hw⟩
 replace hw := hw.symm; subst hw
 go_wp2_with fail
 go_ret
 exact ⟨rfl, u_ HB⟩
set_option maxRecDepth 100000 in
set_option maxHeartbeats 1000000 in
theorem l3ZeroValue_any (u : Vx) (w : World) : Calls Tryz.prog 167 #[vv u] w fun e w' => e = .returned (.bool (decide (u.k = 0 /\ u.n = 0 /\ u.s.size = 0))) /\ Below w.heap.size w w' := by
 unfold vv
 have HB := h_ ((Below.refl w.heap.size w).alloc (Nat.le_refl _) (.cells #[.int .i64 u.k, .int .i64 u.n, .string u.s] 147))
 have e0 := size0 u.s
 by_cases h1 : u.k = 0
 . by_cases h2 : u.n = 0
   . by_cases h3 : u.s.size = 0
     . rw [decide_eq_true h3] at e0
       rw [decide_eq_true ⟨h1, h2, h3⟩]
       have h1' : (u.k == 0) = true := by simp [h1]
       have h2' : (u.n == 0) = true := by simp [h2]
       clear h1 h2 h3
       go_enter Tryz.func167, Tryz.ntmps167
       go_wp2_with fail
       go_ret
       exact ⟨rfl, u_ HB⟩
     . rw [decide_eq_false h3] at e0
       rw [decide_eq_false (fun h => h3 h.2.2)]
       have h1' : (u.k == 0) = true := by simp [h1]
       have h2' : (u.n == 0) = true := by simp [h2]
       clear h1 h2 h3
       go_enter Tryz.func167, Tryz.ntmps167
       go_wp2_with fail
       go_ret
       exact ⟨rfl, u_ HB⟩
   . rw [decide_eq_false (fun h => h2 h.2.1)]
     have h1' : (u.k == 0) = true := by simp [h1]
     have h2' : (u.n == 0) = false := beq_eq_false_iff_ne.2 h2
     clear h1 h2 e0
     go_enter Tryz.func167, Tryz.ntmps167
     go_wp2_with fail
     go_ret
     exact ⟨rfl, u_ HB⟩
 . rw [decide_eq_false (fun h => h1 h.1)]
   have h1' : (u.k == 0) = false := beq_eq_false_iff_ne.2 h1
   clear h1 e0
   go_enter Tryz.func167, Tryz.ntmps167
   go_wp2_with fail
   go_ret
   exact ⟨rfl, u_ HB⟩
end Go.Proofs.YtalgidagiojbpaaGreatDoor
/- Which nodes are good ones: the model and the program. -/
namespace Go.Proofs.YtalgidagiojbpaaGreatDoor
open Go Go.RowKit
theorem okVal_nn {k n : Int} {s : ByteArray} (h : okVal k n s = true) (h1 : ¬ k = 1) : 0 <= n := by
 unfold okVal at h
 split at h
 . simp only [Bool.and_eq_true, decide_eq_true_eq] at h; omega
 split at h
 . simp only [Bool.and_eq_true, decide_eq_true_eq] at h; omega
 split at h
 . simp only [Bool.and_eq_true, decide_eq_true_eq] at h; omega
 split at h
 . simp only [Bool.and_eq_true, decide_eq_true_eq] at h; omega
 . cases h
theorem okNode0 {n : Nx} (h : n.op = 0) : okNode n = (decide (n.nm.size = 0) && okVal n.v.k n.v.n n.v.s && decide (n.v.k ≠ 4) && decide (0 <= n.v.n)) := by unfold okNode; rw [if_pos h]
theorem okNode1 {n : Nx} (h : n.op = 1) : okNode n = (decide (n.v.k = 0 /\ n.v.n = 0 /\ n.v.s.size = 0) && goodN n.nm) := by unfold okNode; rw [if_neg (by omega), if_pos h]
theorem okNode2 {n : Nx} (h0 : ¬ n.op = 0) (h1 : ¬ n.op = 1) : okNode n = (decide (2 <= n.op /\ n.op <= 25) && decide (n.v.k = 0 /\ n.v.n = 0 /\ n.v.s.size = 0) && decide (n.nm.size = 0)) := by unfold okNode; rw [if_neg h0, if_neg h1]
set_option maxRecDepth 100000 in
set_option maxHeartbeats 4000000 in
theorem l3GoodNode_any (n : Nx) (w : World) (hf : Fit n) : Calls Tryz.prog 134 #[nv n] w fun e w' => e = .returned (.bool (okNode n)) /\ Below w.heap.size w w' := by
 obtain ⟨hs, hm, -, -⟩ := hf
 unfold nv
 have H0 := h_ (Blk.new w 149 #[.int .i64 n.op, .int .i64 n.v.k, .int .i64 n.v.n, .string n.v.s, .string n.nm])
 have HB := h_ ((Below.refl w.heap.size w).alloc (Nat.le_refl _) (.cells #[.int .i64 n.op, .int .i64 n.v.k, .int .i64 n.v.n, .string n.v.s, .string n.nm] 149))
 have e0 := size0 n.nm
 rcases ops2 n.op with h | h | ⟨h, h'⟩
 . have ho := okNode0 h
   rw [h] at H0 HB ⊢
   clear h
   by_cases h0 : n.nm.size = 0
   . have e1 : ((n.nm.size : Int) != 0) = false := by simp [h0]
     rw [decide_eq_true h0] at e0 ho
     rw [Bool.true_and] at ho
     go_enter Tryz.func134, Tryz.ntmps134
     go_wp2_with fail
     refine (specValidV_any _ _ _ _ hs).mono ?_
     rintro e w1 ⟨rfl, hb1⟩
     replace H0 := mB H0 hb1; replace HB := mT HB hb1; clear hb1
     obtain ⟨z0, z1, z2, z3, z4⟩ := five (u_ H0)
     cases hv : okVal n.v.k n.v.n n.v.s
     . rw [hv] at ho
       have HX : Hid (okNode n = false) := h_ ho; clear ho
       go_wp2_with fail
       go_ret
       exact ⟨ret_bool (u_ HX).symm, u_ HB⟩
     . rw [hv, Bool.true_and] at ho
       by_cases h4 : n.v.k = 4
       . have HX : Hid (okNode n = false) := h_ (by rw [ho, decide_eq_false (fun h => h h4)]; rfl); clear ho
         rw [h4] at z1 H0
         clear h4
         go_wp2_with fail
         go_ret
         exact ⟨ret_bool (u_ HX).symm, u_ HB⟩
       . rw [decide_eq_true h4, Bool.true_and] at ho
         have h4' : (n.v.k == 4) = false := beq_eq_false_iff_ne.2 h4
         by_cases h1 : n.v.k = 1
         . rw [h1] at z1 H0 h4'
           have HX := h_ ho; clear ho
           clear h4 h1
           go_wp2_with fail
           go_ret
           exact ⟨ret_bool (by rw [u_ HX]), u_ HB⟩
         . have h1' : (n.v.k != 1) = true := by simp [h1]
           have HX : Hid (okNode n = true) := h_ (by rw [ho, decide_eq_true (okVal_nn hv h1)]); clear ho
           clear h4 h1
           go_wp2_with fail
           go_ret
           exact ⟨ret_bool (u_ HX).symm, u_ HB⟩
   . have e1 : ((n.nm.size : Int) != 0) = true := by simp [h0]
     rw [decide_eq_false h0] at e0 ho
     have HX : Hid (okNode n = false) := h_ ho; clear ho
     clear h0
     go_enter Tryz.func134, Tryz.ntmps134
     go_wp2_with fail
     go_ret
     exact ⟨ret_bool (u_ HX).symm, u_ HB⟩
 . have ho := okNode1 h
   rw [h] at H0 HB ⊢
   clear h
   go_enter Tryz.func134, Tryz.ntmps134
   go_wp2_with fail
   refine (l3ZeroValue_any n.v _).mono ?_
   rintro e w1 ⟨rfl, hb1⟩
   replace H0 := mB H0 hb1; replace HB := mT HB hb1; clear hb1
   obtain ⟨z0, z1, z2, z3, z4⟩ := five (u_ H0)
   cases hz : decide (n.v.k = 0 /\ n.v.n = 0 /\ n.v.s.size = 0)
   . rw [hz] at ho
     have HX : Hid (okNode n = false) := h_ ho; clear ho
     clear hz
     go_wp2_with fail
     go_ret
     exact ⟨ret_bool (u_ HX).symm, u_ HB⟩
   . rw [hz, Bool.true_and] at ho
     have HX := h_ ho; clear ho
     clear hz
     go_wp2_with fail
     refine (l3GoodName_any _ _ hm).mono ?_
     rintro e w2 ⟨rfl, hw⟩
     replace hw := hw.symm; subst hw
     cases hg : goodN n.nm
     all_goals
      rw [hg] at HX
      go_wp2_with fail
      go_ret
      exact ⟨ret_bool (u_ HX).symm, u_ HB⟩
 . have ho := okNode2 h h'
   have h1 : (n.op == 0) = false := beq_eq_false_iff_ne.2 h
   have h2 : (n.op == 1) = false := beq_eq_false_iff_ne.2 h'
   clear h h'
   by_cases hl : n.op < 2
   . have HX : Hid (okNode n = false) := h_ (by rw [ho, decide_eq_false (by omega)]; rfl); clear ho
     go_enter Tryz.func134, Tryz.ntmps134
     go_wp2_with fail
     go_ret
     exact ⟨ret_bool (u_ HX).symm, u_ HB⟩
   by_cases hh : 25 < n.op
   . have HX : Hid (okNode n = false) := h_ (by rw [ho, decide_eq_false (by omega)]; rfl); clear ho
     go_enter Tryz.func134, Tryz.ntmps134
     go_wp2_with fail
     go_ret
     exact ⟨ret_bool (u_ HX).symm, u_ HB⟩
   rw [show decide (2 <= n.op /\ n.op <= 25) = true by simp; omega, Bool.true_and] at ho
   go_enter Tryz.func134, Tryz.ntmps134
   go_wp2_with fail
   refine (l3ZeroValue_any n.v _).mono ?_
   rintro e w1 ⟨rfl, hb1⟩
   replace H0 := mB H0 hb1; replace HB := mT HB hb1; clear hb1
   obtain ⟨z0, z1, z2, z3, z4⟩ := five (u_ H0)
   cases hz : decide (n.v.k = 0 /\ n.v.n = 0 /\ n.v.s.size = 0)
   . rw [hz] at ho
     have HX : Hid (okNode n = false) := h_ ho; clear ho
     clear hz
     go_wp2_with fail
     go_ret
     exact ⟨ret_bool (u_ HX).symm, u_ HB⟩
   . rw [hz, Bool.true_and] at ho
     have HX := h_ ho; clear ho
     clear hz
     by_cases h0 : n.nm.size = 0
     . rw [decide_eq_true h0] at e0 HX
       clear h0
       go_wp2_with fail
       go_ret
       exact ⟨ret_bool (u_ HX).symm, u_ HB⟩
     . rw [decide_eq_false h0] at e0 HX
       clear h0
       go_wp2_with fail
       go_ret
       exact ⟨ret_bool (u_ HX).symm, u_ HB⟩
end Go.Proofs.YtalgidagiojbpaaGreatDoor
