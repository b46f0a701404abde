import Derived.Test.YtalgidagiojbpaaGreatDoorQGD
import Derived.Test.YtalgidagiojbpaaGreatDoorQZMapM
import Derived.Maps.Views
import Derived.Test.YtalgidagiojbpaaGreatDoorQGA
import Derived.Test.YtalgidagiojbpaaGreatDoorQHand
import Derived.Test.YtalgidagiojbpaaGreatDoorQGRa
import Derived.Test.YtalgidagiojbpaaGreatDoorQOwn
import Derived.Maps.OwnOps
import Derived.Maps.AppendAt
/- The order of calculation, as data: what feeds what; the lowest field that is ready, again and again. No walk in this text. -/
namespace Go.Proofs.YtalgidagiojbpaaGreatDoor
open Go
def noFd : Fl := ⟨⟨#[]⟩, 0, 0, [], [], [], [], ⟨#[]⟩, []⟩
def fAt (m : Fm) (k : Nat) : Fl := m.fields.getD k noFd
theorem fAt_get {m : Fm} {k : Nat} (h : k < m.fields.length) : fAt m k = m.fields[k] := by unfold fAt; rw [List.getD_eq_getElem?_getD, List.getElem?_eq_getElem h]; rfl
/-- One of the nodes reads this name. -/
def rdsN (l : List Nx) (x : ByteArray) : Bool := l.any fun n => decide (n.op = 1) && decide (n.nm = x)
/-- Field j feeds field k; field j is watched by field k; any rule of k reads j. -/
def fedB (m : Fm) (j k : Nat) : Bool := rdsN (fAt m k).is (fAt m j).nm || rdsN (fAt m k).wh (fAt m j).nm
def watB (m : Fm) (j k : Nat) : Bool := rdsN (fAt m k).va (fAt m j).nm || rdsN (fAt m k).mu (fAt m j).nm
def anyR (m : Fm) (j k : Nat) : Bool := fedB m j k || watB m j k
end Go.Proofs.YtalgidagiojbpaaGreatDoor
/- The places that rules read, as data; how many of them a field still waits for. No walk in this text. -/
namespace Go.Proofs.YtalgidagiojbpaaGreatDoor
open Go
theorem at_mpR (r : List ByteArray) (hn : r.Nodup) (z : DataW Unit) : ∀ k (hk : k < r.length), (mpR r).atKey (kl r[k]) z = .lit (.int .i64 ((r.length - 1 - k : Nat) : Int)) := by
 induction r with
 | nil => intro k hk; cases hk
 | cons x r ih =>
  intro k hk
  rw [List.nodup_cons] at hn
  rw [show mpR (x :: r) = (mpR r).put (kl x) (.lit (.int .i64 (r.length : Int))) from rfl]
  cases k with
  | zero =>
   rw [List.getElem_cons_zero, Maps.atKey_put_same (tidy_mpR r).isMap (show WideAt.IsKeyLit (kl x) from trivial)]
   simp
  | succ k =>
   have hk' : k < r.length := by simpa using hk
   rw [List.getElem_cons_succ, Maps.atKey_put_other (fun e => hn.1 (by rw [<- kl_inj e]; exact List.getElem_mem hk')), ih hn.2 k hk']
   simp only [List.length_cons]
   congr 3
   omega
/-- The place of a name in a list without doubles, by the map. -/
theorem at_mp (l : List ByteArray) (hn : l.Nodup) (z : DataW Unit) (k : Nat) (hk : k < l.length) : (mp l).atKey (kl l[k]) z = .lit (.int .i64 (k : Int)) := by
 unfold mp
 have hr : l.reverse.Nodup := (List.Perm.nodup_iff (List.reverse_perm l)).2 hn
 have h := at_mpR l.reverse hr z (l.length - 1 - k) (by rw [List.length_reverse]; omega)
 have e : l.reverse[l.length - 1 - k]'(by rw [List.length_reverse]; omega) = l[k] := by
  rw [List.getElem_reverse]
  congr 1
  omega
 rw [e, List.length_reverse] at h
 rw [h]
 congr 3
 omega
/-- The place of a name. -/
def fIdx (names : List ByteArray) (x : ByteArray) : Nat := names.findIdx fun y => decide (y = x)
theorem fIdx_lt {names : List ByteArray} {x : ByteArray} (h : x ∈ names) : fIdx names x < names.length := List.findIdx_lt_length.2 ⟨x, h, by simp⟩
theorem fIdx_get {names : List ByteArray} {x : ByteArray} (h : x ∈ names) : names[fIdx names x]'(fIdx_lt h) = x := by
 have := List.findIdx_getElem (xs := names) (p := fun y => decide (y = x)) (w := fIdx_lt h)
 exact of_decide_eq_true this
theorem fIdx_of {names : List ByteArray} (hn : names.Nodup) {j : Nat} (hj : j < names.length) : fIdx names names[j] = j := by
 have hm : names[j] ∈ names := List.getElem_mem hj
 have h1 := fIdx_get hm
 have h2 := fIdx_lt hm
 rcases Nat.lt_trichotomy (fIdx names names[j]) j with h | h | h
 . exact absurd h1 (List.pairwise_iff_getElem.1 hn _ _ h2 hj h)
 . exact h
 . exact absurd h1.symm (List.pairwise_iff_getElem.1 hn _ _ hj h2 h)
/-- The places that a rule reads, in its order. -/
def rdL (names : List ByteArray) (l : List Nx) : List Nat := (l.filter fun n => decide (n.op = 1)).map fun n => fIdx names n.nm
theorem knows_mem {names : List ByteArray} {l : List Nx} (h : knows names l = true) {n : Nx} (hn : n ∈ l) (h1 : n.op = 1) : n.nm ∈ names := by
 unfold knows at h
 have := List.all_eq_true.1 h n hn
 rw [decide_eq_true h1] at this
 exact (memB_iff _ _).1 (by simpa using this)
theorem rdL_lt {names : List ByteArray} {l : List Nx} (h : knows names l = true) : ∀ j, j ∈ rdL names l -> j < names.length := by
 intro j hj
 unfold rdL at hj
 obtain ⟨n, hn, rfl⟩ := List.mem_map.1 hj
 rw [List.mem_filter, decide_eq_true_eq] at hn
 exact fIdx_lt (knows_mem h hn.1 hn.2)
theorem mem_rdL {names : List ByteArray} {l : List Nx} (hn : names.Nodup) (h : knows names l = true) {j : Nat} (hj : j < names.length) : j ∈ rdL names l ↔ rdsN l names[j] = true := by
 unfold rdL rdsN
 rw [List.any_eq_true]
 constructor
 . intro hx
   obtain ⟨n, hn', rfl⟩ := List.mem_map.1 hx
   rw [List.mem_filter, decide_eq_true_eq] at hn'
   exact ⟨n, hn'.1, by rw [decide_eq_true hn'.2, decide_eq_true (fIdx_get (knows_mem h hn'.1 hn'.2)).symm]; rfl⟩
 . rintro ⟨n, hm, e⟩
   rw [Bool.and_eq_true, decide_eq_true_eq, decide_eq_true_eq] at e
   exact List.mem_map.2 ⟨n, List.mem_filter.2 ⟨hm, decide_eq_true e.1⟩, by rw [e.2]; exact fIdx_of hn hj⟩
theorem VfA.nod {m : Fm} (h : VfA m) : (fNames m).Nodup := by
 have := h.f
 unfold namesOk at this
 rw [Bool.and_eq_true, decide_eq_true_eq] at this
 exact this.2
theorem fNames_len (m : Fm) : (fNames m).length = m.fields.length := by simp [fNames]
theorem fNames_get {m : Fm} {j : Nat} (hj : j < m.fields.length) : (fNames m)[j]'(by rw [fNames_len]; exact hj) = (fAt m j).nm := by rw [fAt_get hj]; simp [fNames]
theorem VfA.knw {m : Fm} (h : VfA m) {k : Nat} (hk : k < m.fields.length) : knows (fNames m) (fAt m k).is = true /\ knows (fNames m) (fAt m k).wh = true /\ knows (fNames m) (fAt m k).va = true /\ knows (fNames m) (fAt m k).mu = true := by
 have := h.kn _ (List.getElem_mem hk)
 rw [fAt_get hk]
 unfold fieldKnows at this
 simp only [Bool.and_eq_true] at this
 exact ⟨this.1.1.1, this.1.1.2, this.1.2, this.2⟩
end Go.Proofs.YtalgidagiojbpaaGreatDoor
/- The program: the wiring of a form: its value, what feeds a field, the iterator as a value. -/
namespace Go.Proofs.YtalgidagiojbpaaGreatDoor
open Go Go.RowKit
/-- A wiring as a value. -/
def wV (m : Fm) (A : MA) (b : Nat) : Value := .agg #[.slice A.l m.labels.length A.lc, .slice A.p m.below.length A.pc, .slice A.r m.roles.length A.rc, .slice A.f m.fields.length A.fc, .map (some b)]
section
variable {md : Region.Mode} {ops : Array Oper} {Q : Exit -> Act -> World -> Prop} {S : World -> Prop} {o : Oper} {a : Act} {fuel : Nat} {listed : Array Bool} {i : Nat} {w w' : World}
end
end Go.Proofs.YtalgidagiojbpaaGreatDoor
/- Which fields each field feeds, as data; what can be reached by feeding. No walk in this text. -/
namespace Go.Proofs.YtalgidagiojbpaaGreatDoor
open Go
end Go.Proofs.YtalgidagiojbpaaGreatDoor
/- Rows of numbers that lie apart, and a block that holds them; what each field feeds, while it is gathered; counts. No walk in this text. -/
namespace Go.Proofs.YtalgidagiojbpaaGreatDoor
open Go Go.RowKit
/-- One value turned. -/
def up {α : Type} (f : Nat -> α) (j : Nat) (v : α) : Nat -> α := fun i => if i = j then v else f i
theorem up_at {α : Type} (f : Nat -> α) (j : Nat) (v : α) : up f j v j = v := if_pos rfl
theorem up_ne {α : Type} (f : Nat -> α) {i j : Nat} (v : α) (h : i ≠ j) : up f j v i = f i := if_neg h
theorem map_up {α : Type} (g : α -> Value) (f : Nat -> α) (n j : Nat) (v : α) : ((List.range n).map fun k => g (f k)).set j (g v) = (List.range n).map fun k => g (up f j v k) := by
 refine List.ext_getElem (by simp) fun i h1 h2 => ?_
 simp only [List.length_set, List.length_map, List.length_range] at h1
 rw [List.getElem_set]
 simp only [List.getElem_map, List.getElem_range]
 by_cases e : j = i
 . subst e; rw [if_pos rfl, up_at]
 . rw [if_neg e, up_ne f v (fun h => e h.symm)]
/-- A row of numbers. -/
def zs (n : Nat) (f : Nat -> Int) : List Value := (List.range n).map fun k => .int .i64 (f k)
theorem zs_at {n i : Nat} (f : Nat -> Int) (h : i < n) : (zs n f)[i]? = some (.int .i64 (f i)) := by simp [zs, h]
theorem zs_len (n : Nat) (f : Nat -> Int) : (zs n f).length = n := by simp [zs]
theorem owns_mono {w w' : World} {base n size : Nat} {e : TypeId} {v : Value} {xs : List Value} (h : w.ownsRow base e size v n xs) (hb : Below w.heap.size w w') : w'.ownsRow base e size v n xs :=
 h.kept (row := none) ⟨hb.os, hb.tape, hb.output, hb.size, fun k hk _ => hb.block k hk⟩ (Classical.em _)
theorem rule_len {l : List Nx} (h : ruleOk l = true) : l.length <= 1000 := by
 unfold ruleOk at h
 rw [Bool.or_eq_true] at h
 rcases h with h | h
 . have := of_decide_eq_true h; omega
 . unfold vxL at h
   exact ((vxB_iff _ _).1 h).2.1
end Go.Proofs.YtalgidagiojbpaaGreatDoor
/- The program: the fields that some rules read, walked over once for each time that one is read. -/
namespace Go.Proofs.YtalgidagiojbpaaGreatDoor
open Go Go.RowKit
theorem nf_mem {l : List Nx} {k : Nat} (h : k < l.length) : nf l k ∈ l := by rw [nf_get l k h]; exact List.getElem_mem h
theorem rdL_one {names : List ByteArray} {l : List Nx} {k : Nat} (h : k < l.length) (h1 : (nf l k).op = 1) : rdL names (l.take (k + 1)) = rdL names (l.take k) ++ [fIdx names (nf l k).nm] := by
 rw [nf_get l k h] at h1 ⊢
 unfold rdL
 rw [List.take_succ_eq_append_getElem h, List.filter_append, List.map_append]
 simp [h1]
theorem rdL_other {names : List ByteArray} {l : List Nx} {k : Nat} (h : k < l.length) (h1 : ¬ (nf l k).op = 1) : rdL names (l.take (k + 1)) = rdL names (l.take k) := by
 rw [nf_get l k h] at h1
 unfold rdL
 rw [List.take_succ_eq_append_getElem h, List.filter_append, List.map_append]
 simp [h1]
theorem rdL_take_len (names : List ByteArray) (l : List Nx) (k : Nat) : (rdL names (l.take k)).length <= (rdL names l).length := by
 unfold rdL
 rw [List.length_map, List.length_map]
 exact ((List.take_sublist k l).filter _).length_le
theorem flat_take {names : List ByteArray} {rs : List (List Nx)} {k : Nat} (h : k < rs.length) : (rs.take (k + 1)).flatMap (rdL names) = (rs.take k).flatMap (rdL names) ++ rdL names rs[k] := by
 rw [List.take_succ_eq_append_getElem h, List.flatMap_append]
 simp
theorem flat_len {names : List ByteArray} {rs : List (List Nx)} {k : Nat} (h : k < rs.length) : ((rs.take k).flatMap (rdL names)).length + (rdL names rs[k]).length <= (rs.flatMap (rdL names)).length := by
 rw [<- List.length_append, <- flat_take h]
 conv => rhs; rw [<- List.take_append_drop (k + 1) rs, List.flatMap_append, List.length_append]
 omega
theorem at_fIdx {names : List ByteArray} (hn : names.Nodup) {x : ByteArray} (hx : x ∈ names) (z : DataW Unit) : (mp names).atKey (kl x) z = .lit (.int .i64 ((fIdx names x : Nat) : Int)) := by
 have h := at_mp names hn z (fIdx names x) (fIdx_lt hx)
 rw [fIdx_get hx] at h
 exact h
theorem lit_inj {D : DataW Unit} {k : Lit} {z : DataW Unit} {pc x : Int} (h1 : D.atKey k z = .lit (.int .i64 pc)) (h2 : D.atKey k z = .lit (.int .i64 x)) : pc = x := by
 rw [h1] at h2
 injection h2 with h2
 injection h2
end Go.Proofs.YtalgidagiojbpaaGreatDoor
/- The program: for each field the fields that it feeds; how often each field stands in these lists. -/
namespace Go.Proofs.YtalgidagiojbpaaGreatDoor
open Go Go.RowKit
end Go.Proofs.YtalgidagiojbpaaGreatDoor
