import Derived.Test.YtjgngbmkpiihgaaGreatDoorGNp
import Derived.Test.YtjgngbmkpiihgaaGreatDoorGTk
import Derived.Test.YtjgngbmkpiihgaaGreatDoorGIp
import Derived.Test.YtjgngbmkpiihgaaGreatDoorZLawRV
import Derived.WalkLawsBesides
import Derived.Test.YtjgngbmkpiihgaaGreatDoorGPc
import Derived.Test.YtjgngbmkpiihgaaGreatDoorGLx
/- The program's reader of tokens: what it holds; looking, taking, needing. -/
namespace Go.Proofs.YtjgngbmkpiihgaaGreatDoor
open Go Go.RowKit

/-- The fault that a reading ends with. -/
def flt (n : Int) : Ending := .panicked [{ v := .iface 83 (.int .i64 n), recovered := false }]
theorem ask_yes (n : Int) (w : World) : Calls Tryz.prog 62 #[.bool true, .int .i64 n] w fun e w' => e = .returned (.tuple #[]) ∧ w' = w := by
  go_enter Tryz.func62, Tryz.ntmps62
  go_wp2
  go_end0
  exact ⟨rfl, rfl⟩
theorem ask_no (n : Int) (w : World) : Calls Tryz.prog 62 #[.bool false, .int .i64 n] w fun e w' => e = flt n ∧ w' = w := by
  go_enter Tryz.func62, Tryz.ntmps62
  go_wp2
  exact ⟨rfl, rfl, rfl⟩
theorem ask_dec (b : Bool) (n : Int) (w : World) : Calls Tryz.prog 62 #[.bool b, .int .i64 n] w fun e w' => e = (if b = true then .returned (.tuple #[]) else flt n) ∧ w' = w := by
  cases b
  · exact ask_no n w
  · exact ask_yes n w
/-- The token at a place; behind the end the empty text. -/
def pk (l : List ByteArray) (i : Nat) : ByteArray := l.getD i ⟨#[]⟩
theorem pk_lt {l : List ByteArray} {i : Nat} (h : i < l.length) : pk l i = l[i] := by unfold pk; rw [List.getD_eq_getElem?_getD, List.getElem?_eq_getElem h]; rfl
theorem pk_ge {l : List ByteArray} {i : Nat} (h : ¬ i < l.length) : pk l i = ⟨#[]⟩ := by unfold pk; rw [List.getD_eq_getElem?_getD, List.getElem?_eq_none (by omega)]; rfl
/-- What lay before the reader was made. -/
structure RC (w : World) (a : Option Addr) (l : List ByteArray) : Prop where
  st : Strs w a l
  wr : Wrds w
  pw : Pow w
  e1 : ErrV "strconv.ErrSyntax" w
  e2 : ErrV "strconv.ErrRange" w
  len : l.length ≤ 1048576
  tz : ∀ t, t ∈ l → t.size ≤ 1048576
theorem RC.pz {w : World} {a : Option Addr} {l : List ByteArray} (h : RC w a l) (i : Nat) : (pk l i).size ≤ 1048576 := by
  by_cases hi : i < l.length
  · rw [pk_lt hi]; exact h.tz _ (List.getElem_mem hi)
  · rw [pk_ge hi]; decide
/-- The reader at work: its place, how deep it is, the nodes that it has. -/
structure Rdr (w0 : World) (a : Option Addr) (c : Nat) (l : List ByteArray) (w : World) (i d : Nat) (v : Value) (ns : List Nx) : Prop where
  blk : Blk w w0.heap.size 85 [.slice a l.length c, .int .i64 (i : Nat), .int .i64 (d : Nat), v]
  own : OwnN w (w0.heap.size + 1) v ns
  bel : Below w0.heap.size w0 w
theorem Rdr.mono {w0 : World} {a : Option Addr} {c : Nat} {l : List ByteArray} {w w' : World} {i d : Nat} {v : Value} {ns : List Nx} (h : Rdr w0 a c l w i d v ns) (hb : Below w.heap.size w w') : Rdr w0 a c l w' i d v ns :=
  ⟨h.blk.mono hb h.blk.lt, h.own.keep hb, h.bel.trans (hb.mono h.bel.size)⟩
theorem quart {w : World} {b : Nat} {t : TypeId} {v0 v1 v2 v3 : Value} (h : Blk w b t [v0, v1, v2, v3]) :
    w.cell? ⟨b, 0, none⟩ = some v0 ∧ w.cell? ⟨b, 1, none⟩ = some v1 ∧ w.cell? ⟨b, 2, none⟩ = some v2 ∧ w.cell? ⟨b, 3, none⟩ = some v3 := ⟨h.cell 0, h.cell 1, h.cell 2, h.cell 3⟩
theorem own_not {w : World} {base : Nat} {v : Value} {l : List Nx} (h : OwnN w (base + 1) v l) : v.ownBlock ≠ some base := fun e => by have := owns_block h e; omega
theorem OwnN.set {w : World} {base R : Nat} {v : Value} {l : List Nx} (h : OwnN w base v l) (hR : v.ownBlock ≠ some R) (o : Nat) (x : Value) : OwnN (w.setCell ⟨R, o, .none⟩ x) base v l := by
  refine ⟨h.1, ?_⟩
  rcases h.2 with h2 | ⟨g, cap, cur, h1, hb, hg, r⟩
  · exact .inl h2
  · exact .inr ⟨g, cap, cur, h1, hb, (heap_setCell_other w ⟨R, o, .none⟩ g x (fun e => hR (by rw [h1]; exact congrArg some e))).trans hg, r⟩
/-- What the reader may turn: itself, and the row of its nodes. -/
structure AddK (R : Nat) (w w' : World) (v v' : Value) : Prop where
  size : w.heap.size ≤ w'.heap.size
  same : ∀ k, k < w.heap.size → k ≠ R → v.ownBlock ≠ some k → w'.heap[k]? = w.heap[k]?
  own : ∀ q, v'.ownBlock = some q → v.ownBlock = some q ∨ w.heap.size ≤ q
theorem AddK.of_below {R : Nat} {w w' : World} (v : Value) (h : Below w.heap.size w w') : AddK R w w' v v := ⟨h.size, fun k hk _ _ => h.block k hk, fun _ hq => .inl hq⟩
theorem AddK.set {R : Nat} (w : World) (o : Nat) (x v : Value) : AddK R w (w.setCell ⟨R, o, none⟩ x) v v := ⟨by simp, fun k _ hk _ => heap_setCell_other w ⟨R, o, none⟩ k x (fun e => hk e), fun _ hq => .inl hq⟩
theorem AddK.trans {R : Nat} {w w1 w2 : World} {v v1 v2 : Value} (h : AddK R w w1 v v1) (k : AddK R w1 w2 v1 v2) : AddK R w w2 v v2 :=
  ⟨Nat.le_trans h.size k.size, fun b hb hR hv => (k.same b (Nat.lt_of_lt_of_le hb h.size) hR (fun e => by
    rcases h.own b e with h1 | h1
    · exact hv h1
    · omega)).trans (h.same b hb hR hv), fun q hq => by
    rcases k.own q hq with h1 | h1
    · exact h.own q h1
    · exact .inr (Nat.le_trans h.size h1)⟩
section
variable {w0 : World} {a : Option Addr} {c : Nat} {l : List ByteArray} {w : World} {i d : Nat} {v : Value} {ns : List Nx}
theorem Rdr.set1 (h : Rdr w0 a c l w i d v ns) (j : Nat) : Rdr w0 a c l (w.setCell ⟨w0.heap.size, 1, none⟩ (.int .i64 (j : Nat))) j d v ns :=
  ⟨h.blk.set 1 _, h.own.set (own_not h.own) 1 _, h.bel.setCell (p := ⟨w0.heap.size, 1, none⟩) (Nat.le_refl _) _⟩
theorem Rdr.set2 (h : Rdr w0 a c l w i d v ns) (j : Nat) : Rdr w0 a c l (w.setCell ⟨w0.heap.size, 2, none⟩ (.int .i64 (j : Nat))) i j v ns :=
  ⟨h.blk.set 2 _, h.own.set (own_not h.own) 2 _, h.bel.setCell (p := ⟨w0.heap.size, 2, none⟩) (Nat.le_refl _) _⟩
end

set_option maxRecDepth 100000 in
set_option maxHeartbeats 2000000 in
theorem peek_any {w0 : World} {a : Option Addr} {c : Nat} {l : List ByteArray} {w : World} {i d : Nat} {v : Value} {ns : List Nx} (hc : RC w0 a l) (h : Rdr w0 a c l w i d v ns) :
    Calls Tryz.prog 121 #[.pointer (some ⟨w0.heap.size, 0, none⟩)] w fun e w' => e = .returned (.string (pk l i)) ∧ Below w.heap.size w w' := by
  obtain ⟨y0, y1, y2, y3⟩ := quart h.blk
  have hl := hc.len
  have HS := hide (hc.st.mono h.bel)
  have HB := hide ((Below.refl w.heap.size w).drew)
  have HB2 := hide (((Below.refl w.heap.size w).drew).drew)
  clear hc h
  by_cases hi : i < l.length
  · have hi' : ¬ (l.length : Int) ≤ (i : Int) := by omega
    have hi2 : (i : Int) < (l.length : Int) := by omega
    obtain ⟨b, o, rfl, -, z⟩ := unhide HS i hi
    rw [pk_lt hi]
    generalize l[i] = t at *
    go_enter Tryz.func121, Tryz.ntmps121
    go_wp2_with fail
    go_region
    go_wp2_with fail
    go_region
    go_wp2_with fail
    go_ret
    exact ⟨rfl, unhide HB2⟩
  · have hi' : (l.length : Int) ≤ (i : Int) := by omega
    rw [pk_ge hi]
    go_enter Tryz.func121, Tryz.ntmps121
    go_wp2_with fail
    go_region
    go_wp2_with fail
    go_ret
    exact ⟨rfl, unhide HB⟩

set_option maxRecDepth 100000 in
set_option maxHeartbeats 2000000 in
theorem take_any {w0 : World} {a : Option Addr} {c : Nat} {l : List ByteArray} {w : World} {i d : Nat} {v : Value} {ns : List Nx} (hi : i ≤ 2000000) (hc : RC w0 a l) (h : Rdr w0 a c l w i d v ns) :
    Calls Tryz.prog 122 #[.pointer (some ⟨w0.heap.size, 0, none⟩)] w fun e w' => e = .returned (.string (pk l i)) ∧ Rdr w0 a c l w' (i + 1) d v ns ∧ AddK w0.heap.size w w' v v := by
  have HP := hide (peek_any hc h); have H := hide h
  obtain ⟨j, hj⟩ : ∃ j, i + 1 = j := ⟨_, rfl⟩
  have hj' : (i : Int) + 1 = (j : Int) := by omega
  have hjb : j ≤ 2000001 := by omega
  rw [hj]
  clear h hc hj
  generalize pk l i = t at *
  go_enter Tryz.func122, Tryz.ntmps122
  go_wp2_with fail
  refine (unhide HP).mono ?_
  rintro e W1 ⟨rfl, hb⟩
  replace H := hide ((unhide H).mono hb)
  have HA := hide (AddK.of_below (R := w0.heap.size) v hb)
  clear hb HP
  obtain ⟨y0, y1, y2, y3⟩ := quart (unhide H).blk
  have f1 := (unhide H).blk.free 1
  go_wp2_with fail
  go_ret
  exact ⟨rfl, (unhide H).set1 j, (unhide HA).trans (AddK.set _ _ _ _)⟩

set_option maxRecDepth 100000 in
set_option maxHeartbeats 2000000 in
theorem skip_any {w0 : World} {a : Option Addr} {c : Nat} {l : List ByteArray} {w : World} {i d : Nat} {v : Value} {ns : List Nx} (s : ByteArray) (hi : i ≤ 2000000) (hc : RC w0 a l) (h : Rdr w0 a c l w i d v ns) :
    Calls Tryz.prog 178 #[.pointer (some ⟨w0.heap.size, 0, none⟩), .string s] w fun e w' => e = .returned (.bool (decide (pk l i = s))) ∧ Rdr w0 a c l w' (if pk l i = s then i + 1 else i) d v ns ∧ AddK w0.heap.size w w' v v := by
  have HP := hide (peek_any hc h); have H := hide h
  obtain ⟨j, hj⟩ : ∃ j, i + 1 = j := ⟨_, rfl⟩
  have hj' : (i : Int) + 1 = (j : Int) := by omega
  have hjb : j ≤ 2000001 := by omega
  rw [hj]
  clear h hc hj
  generalize pk l i = t at *
  have he := eqT t s
  by_cases hq : t = s
  · rw [decide_eq_true hq] at he
    rw [decide_eq_true hq, if_pos hq]
    have hne : (t.toList != s.toList) = false := by rw [bne, he]; rfl
    clear hq
    go_enter Tryz.func178, Tryz.ntmps178
    go_wp2_with fail
    refine (unhide HP).mono ?_
    rintro e W1 ⟨rfl, hb⟩
    replace H := hide ((unhide H).mono hb)
    have HA := hide (AddK.of_below (R := w0.heap.size) v hb)
    clear hb HP
    obtain ⟨y0, y1, y2, y3⟩ := quart (unhide H).blk
    have f1 := (unhide H).blk.free 1
    go_wp2_with fail
    go_ret
    exact ⟨rfl, (unhide H).set1 j, (unhide HA).trans (AddK.set _ _ _ _)⟩
  · rw [decide_eq_false hq] at he
    rw [decide_eq_false hq, if_neg hq]
    have hne : (t.toList != s.toList) = true := by rw [bne, he]; rfl
    clear hq
    go_enter Tryz.func178, Tryz.ntmps178
    go_wp2_with fail
    refine (unhide HP).mono ?_
    rintro e W1 ⟨rfl, hb⟩
    replace H := hide ((unhide H).mono hb)
    have HA := hide (AddK.of_below (R := w0.heap.size) v hb)
    clear hb HP
    go_wp2_with fail
    go_ret
    exact ⟨rfl, unhide H, unhide HA⟩

set_option maxRecDepth 100000 in
set_option maxHeartbeats 2000000 in
theorem need_any {w0 : World} {a : Option Addr} {c : Nat} {l : List ByteArray} {w : World} {i d : Nat} {v : Value} {ns : List Nx} (s : ByteArray) (hi : i ≤ 2000000) (hc : RC w0 a l) (h : Rdr w0 a c l w i d v ns) :
    Calls Tryz.prog 165 #[.pointer (some ⟨w0.heap.size, 0, none⟩), .string s] w fun e w' => (pk l i = s ∧ e = .returned (.tuple #[]) ∧ Rdr w0 a c l w' (i + 1) d v ns ∧ AddK w0.heap.size w w' v v) ∨ (pk l i ≠ s ∧ e = flt 3 ∧ Below w0.heap.size w0 w') := by
  have HS := hide (skip_any s hi hc h)
  clear h hc
  by_cases hq : pk l i = s
  · rw [decide_eq_true hq, if_pos hq] at HS
    have HQ := hide hq
    clear hq
    go_enter Tryz.func165, Tryz.ntmps165
    go_wp2_with fail
    refine (unhide HS).mono ?_
    rintro e W1 ⟨rfl, hr, ha⟩
    have H := hide hr; have HA := hide ha
    clear hr ha
    go_wp2_with fail
    refine (ask_yes _ _).mono ?_
    rintro e w2 ⟨rfl, rfl⟩
    go_wp2_with fail
    go_end0
    exact .inl ⟨unhide HQ, rfl, unhide H, unhide HA⟩
  · rw [decide_eq_false hq, if_neg hq] at HS
    have HQ := hide hq
    clear hq
    go_enter Tryz.func165, Tryz.ntmps165
    go_wp2_with fail
    refine (unhide HS).mono ?_
    rintro e W1 ⟨rfl, hr, -⟩
    have H := hide hr.bel
    clear hr
    go_wp2_with fail
    refine (ask_no _ _).mono ?_
    rintro e w2 ⟨rfl, rfl⟩
    exact ⟨rfl, .inr ⟨unhide HQ, rfl, unhide H⟩⟩

set_option maxRecDepth 100000 in
set_option maxHeartbeats 2000000 in
theorem open_any {w0 : World} {a : Option Addr} {c : Nat} {l : List ByteArray} {w : World} {i d : Nat} {v : Value} {ns : List Nx} (hi : i ≤ 2000000) (hd : d ≤ 64) (hc : RC w0 a l) (h : Rdr w0 a c l w i d v ns) :
    Calls Tryz.prog 151 #[.pointer (some ⟨w0.heap.size, 0, none⟩)] w fun e w' => (pk l i = ⟨#[40]⟩ ∧ d + 1 ≤ 64 ∧ e = .returned (.tuple #[]) ∧ Rdr w0 a c l w' (i + 1) (d + 1) v ns ∧ AddK w0.heap.size w w' v v) ∨ (¬ (pk l i = ⟨#[40]⟩ ∧ d + 1 ≤ 64) ∧ e = flt 3 ∧ Below w0.heap.size w0 w') := by
  have HN := hide (need_any ⟨#[40]⟩ hi hc h)
  obtain ⟨j, hj⟩ : ∃ j, d + 1 = j := ⟨_, rfl⟩
  have hj' : (d : Int) + 1 = (j : Int) := by omega
  have hjb : j ≤ 65 := by omega
  rw [hj]
  clear h hc hj
  go_enter Tryz.func151, Tryz.ntmps151
  go_wp2_with fail
  refine (unhide HN).mono ?_
  rintro e W1 (⟨hq, rfl, hr, ha⟩ | ⟨hq, rfl, hb⟩)
  case inr => exact ⟨rfl, .inr ⟨fun h => hq h.1, rfl, hb⟩⟩
  have H := hide hr; have HQ := hide hq; have HA := hide ha
  clear hr hq HN ha
  obtain ⟨y0, y1, y2, y3⟩ := quart (unhide H).blk
  have f1 := (unhide H).blk.free 2
  by_cases h64 : j ≤ 64
  · have h64' : (j : Int) ≤ 64 := by omega
    go_wp2_with fail
    refine (ask_yes _ _).mono ?_
    rintro e w2 ⟨rfl, rfl⟩
    go_wp2_with fail
    go_end0
    exact .inl ⟨unhide HQ, h64, rfl, (unhide H).set2 j, (unhide HA).trans (AddK.set _ _ _ _)⟩
  · have h64' : ¬ (j : Int) ≤ 64 := by omega
    go_wp2_with fail
    refine (ask_dec _ _ _).mono ?_
    rintro e w2 ⟨he, rfl⟩
    rw [if_neg (by simp; omega)] at he
    subst he
    exact ⟨rfl, .inr ⟨fun h => h64 h.2, rfl, ((unhide H).set2 j).bel⟩⟩

set_option maxRecDepth 100000 in
set_option maxHeartbeats 2000000 in
theorem close_any {w0 : World} {a : Option Addr} {c : Nat} {l : List ByteArray} {w : World} {i d : Nat} {v : Value} {ns : List Nx} (hi : i ≤ 2000000) (hd : d ≤ 64) (hc : RC w0 a l) (h : Rdr w0 a c l w i (d + 1) v ns) :
    Calls Tryz.prog 152 #[.pointer (some ⟨w0.heap.size, 0, none⟩)] w fun e w' => (pk l i = ⟨#[41]⟩ ∧ e = .returned (.tuple #[]) ∧ Rdr w0 a c l w' (i + 1) d v ns ∧ AddK w0.heap.size w w' v v) ∨ (pk l i ≠ ⟨#[41]⟩ ∧ e = flt 3 ∧ Below w0.heap.size w0 w') := by
  obtain ⟨j, hj⟩ : ∃ j, d + 1 = j := ⟨_, rfl⟩
  rw [hj] at h
  have HN := hide (need_any ⟨#[41]⟩ hi hc h)
  have hj' : (j : Int) - 1 = (d : Int) := by omega
  have hjb : j ≤ 65 := by omega
  clear h hc hj
  go_enter Tryz.func152, Tryz.ntmps152
  go_wp2_with fail
  refine (unhide HN).mono ?_
  rintro e W1 (⟨hq, rfl, hr, ha⟩ | ⟨hq, rfl, hb⟩)
  case inr => exact ⟨rfl, .inr ⟨hq, rfl, hb⟩⟩
  have H := hide hr; have HQ := hide hq; have HA := hide ha
  clear hr hq HN ha
  obtain ⟨y0, y1, y2, y3⟩ := quart (unhide H).blk
  have f1 := (unhide H).blk.free 2
  go_wp2_with fail
  go_end0
  exact .inl ⟨unhide HQ, rfl, (unhide H).set2 d, (unhide HA).trans (AddK.set _ _ _ _)⟩
end Go.Proofs.YtjgngbmkpiihgaaGreatDoor

/- The program's reader of tokens: operators by their words; one node more. -/
namespace Go.Proofs.YtjgngbmkpiihgaaGreatDoor
open Go Go.RowKit

theorem opW_step (x : ByteArray) (a n : Nat) : opW x a (n + 1) = if wrd a = x then a else opW x (a + 1) n := rfl
set_option maxRecDepth 100000 in
set_option maxHeartbeats 2000000 in
theorem operatorWritten_any (s : ByteArray) (f la : Nat) (w : World) (h1 : f ≤ la + 1) (h2 : la ≤ 25) (hw : Wrds w) :
    Calls Tryz.prog 141 #[.string s, .int .i64 (f : Nat), .int .i64 (la : Nat)] w fun e w' => e = .returned (.int .i64 (opW s f (la + 1 - f) : Nat)) ∧ w' = w := by
  obtain ⟨R, hR⟩ : ∃ R, opW s f (la + 1 - f) = R := ⟨_, rfl⟩
  rw [hR]
  have HR0 := hide hR.symm; have HW := hide hw
  clear hR hw
  go_enter Tryz.func141, Tryz.ntmps141
  go_wp2_with fail
  go_loopw [7] (fun iv wr => ∃ k : Nat, k ≤ la + 1 ∧ iv = .int .i64 (k : Nat) ∧ R = opW s k (la + 1 - k) ∧ wr = w) (fun iv _ => la + 1 - (intOf iv).toNat)
  case atStart => exact ⟨f, h1, rfl, unhide HR0, rfl⟩
  case round =>
    obtain ⟨k, hk, rfl, hr, rfl⟩ := hrel
    have HR := hide hr
    clear hr
    by_cases hlt : k ≤ la
    · have hlt' : (k : Int) ≤ (la : Nat) := by omega
      have hk25 : (k : Int) < 26 := by omega
      obtain ⟨n, hn⟩ : ∃ n, la + 1 - k = n + 1 := ⟨la - k, by omega⟩
      rw [hn, opW_step] at HR
      have z := (unhide HW).at (op := (k : Int)) (by omega) (by omega)
      rw [show ((k : Int)).toNat = k by omega] at z
      generalize wrd (k : Nat) = wd at *
      have he := eqT wd s
      by_cases hq : wd = s
      · rw [decide_eq_true hq] at he
        rw [if_pos hq] at HR
        clear hq hn
        go_wp2_with fail
        go_ret
        exact ⟨ret_int (by rw [unhide HR]), rfl⟩
      · rw [decide_eq_false hq] at he
        rw [if_neg hq] at HR
        have HN : Hid (la + 1 - (k + 1) = n) := hide (by omega)
        clear hq hn
        go_wp2_with fail
        go_roundw
        case rel => exact ⟨k + 1, by omega, by go_num, by rw [unhide HN]; exact unhide HR, by trivial⟩
        case measure => simp [intOf]; omega
    · have hlt' : ¬ (k : Int) ≤ (la : Nat) := by omega
      have HX : Hid (R = 0) := hide (by rw [unhide HR, show la + 1 - k = 0 by omega]; rfl)
      go_wp2_with fail
      go_ret
      exact ⟨ret_int (by rw [unhide HX]; rfl), rfl⟩
theorem binaryWritten_any (s : ByteArray) (w : World) (hw : Wrds w) : Calls Tryz.prog 120 #[.string s] w fun e w' => e = .returned (.int .i64 (tkX.b s : Nat)) ∧ w' = w := by
  have H := hide (operatorWritten_any s 4 15 w (by omega) (by omega) hw)
  rw [show ((4 : Nat) : Int) = 4 from rfl, show ((15 : Nat) : Int) = 15 from rfl, show opW s 4 (15 + 1 - 4) = tkX.b s from rfl] at H
  clear hw
  go_enter Tryz.func120, Tryz.ntmps120
  go_wp2_with fail
  refine (unhide H).mono ?_
  rintro e w' ⟨rfl, rfl⟩
  go_wp2_with fail
  go_ret
  exact ⟨rfl, rfl⟩
theorem signWritten_any (s : ByteArray) (w : World) (hw : Wrds w) : Calls Tryz.prog 138 #[.string s] w fun e w' => e = .returned (.int .i64 (tkX.u s : Nat)) ∧ w' = w := by
  have H := hide (operatorWritten_any s 2 3 w (by omega) (by omega) hw)
  rw [show ((2 : Nat) : Int) = 2 from rfl, show ((3 : Nat) : Int) = 3 from rfl, show opW s 2 (3 + 1 - 2) = tkX.u s from rfl] at H
  clear hw
  go_enter Tryz.func138, Tryz.ntmps138
  go_wp2_with fail
  refine (unhide H).mono ?_
  rintro e w' ⟨rfl, rfl⟩
  go_wp2_with fail
  go_ret
  exact ⟨rfl, rfl⟩
theorem functionWritten_any (s : ByteArray) (w : World) (hw : Wrds w) : Calls Tryz.prog 154 #[.string s] w fun e w' => e = .returned (.int .i64 (opW s 16 10 : Nat)) ∧ w' = w := by
  have H := hide (operatorWritten_any s 16 25 w (by omega) (by omega) hw)
  rw [show ((16 : Nat) : Int) = 16 from rfl, show ((25 : Nat) : Int) = 25 from rfl, show 25 + 1 - 16 = 10 from rfl] at H
  clear hw
  go_enter Tryz.func154, Tryz.ntmps154
  go_wp2_with fail
  refine (unhide H).mono ?_
  rintro e w' ⟨rfl, rfl⟩
  go_wp2_with fail
  go_ret
  exact ⟨rfl, rfl⟩

theorem own_in {w : World} {base : Nat} {v : Value} {l : List Nx} (h : OwnN w base v l) {q : Nat} (hq : v.ownBlock = some q) : q < w.heap.size := by
  rcases h.2 with ⟨e, -⟩ | ⟨g, cap, cur, e, hb, hg, -⟩
  · rw [e] at hq; simp [Value.ownBlock] at hq
  · rw [e] at hq
    simp only [Value.ownBlock, Option.some.injEq] at hq
    subst hq
    exact (Array.getElem?_eq_some_iff.1 hg).1

set_option maxRecDepth 100000 in
set_option maxHeartbeats 4000000 in
theorem add_any {w0 : World} {a : Option Addr} {c : Nat} {l : List ByteArray} {w : World} {i d : Nat} {v : Value} {ns : List Nx} (n : Nx) (hn : ns.length ≤ 1048576) (h : Rdr w0 a c l w i d v ns) :
    Calls Tryz.prog 123 #[.pointer (some ⟨w0.heap.size, 0, none⟩), nv n] w fun e w' => e = .returned (.tuple #[]) ∧ ∃ v', Rdr w0 a c l w' i d v' (ns ++ [n]) ∧ AddK w0.heap.size w w' v v' := by
  have H := hide h
  have hRw : w0.heap.size < w.heap.size := h.blk.lt
  obtain ⟨R, hR⟩ : ∃ R, w0.heap.size = R := ⟨_, rfl⟩
  rw [hR] at hRw ⊢
  have HR := hide hR
  have HK := hide (Blk.new w 41 (nC n).toArray)
  have HB := hide ((Below.refl w.heap.size w).alloc (Nat.le_refl _) (.cells (nC n).toArray 41))
  unfold nC at HK HB
  obtain ⟨W, hW⟩ : ∃ W, w.alloc (.cells #[.int .i64 n.op, .int .i64 n.v.k, .int .i64 n.v.n, .string n.v.s, .string n.nm] 41) = W := ⟨_, rfl⟩
  rw [hW] at HK HB
  have hs0 : W.heap.size = w.heap.size + 1 := by rw [← hW]; simp
  have HS0 := hide hs0
  replace H := hide ((unhide H).mono (unhide HB))
  have HNot : Hid (∀ q, v.ownBlock = some q → q < w.heap.size ∧ R < q) := hide fun q hq => ⟨own_in h.own hq, by have := owns_block h.own hq; omega⟩
  clear h hR hs0
  unfold nv
  go_enter Tryz.func123, Tryz.ntmps123
  go_wp2_with fail
  try rw [hW]
  clear hW
  obtain ⟨i0, hi, hz0, hz1, hz2⟩ := info_parts info_nd
  have hdr := (Below.refl W.heap.size W).drew
  have hM := (unhide H).mono hdr
  have hK := (unhide HK).mono hdr (unhide HK).lt
  refine wp_region_held_drew (S := fun w' => Blk w' w.heap.size 41 [.int .i64 n.op, .int .i64 n.v.k, .int .i64 n.v.n, .string n.v.s, .string n.nm]) (by kernel_rfl) hK (fun hHeld => ?_)
  refine takeY (i := 0) (v := .pointer (some ⟨R, 0, none⟩)) 4 rfl rfl (by kernel_rfl) (by kernel_rfl) (by kernel_rfl) (fun _ _ _ _ h => h) (by rfl) (fun w hS => by simp [execOp, go_sem, *]) hHeld ?_
  simp only [List.setIfInBounds_toArray, List.set_cons_zero, List.set_cons_succ]
  refine takeY (i := 1) (v := .pointer (some ⟨R, 0, none⟩)) 5 rfl rfl (by kernel_rfl) (by kernel_rfl) (by kernel_rfl) (fun _ _ _ _ h => h) (by rfl) (fun w hS => by simp [execOp, go_sem, *]) hHeld ?_
  simp only [List.setIfInBounds_toArray, List.set_cons_zero, List.set_cons_succ]
  refine takeY (i := 2) (v := .pointer (some ⟨R, 0, none⟩)) 6 rfl rfl (by kernel_rfl) (by kernel_rfl) (by kernel_rfl) (fun _ _ _ _ h => h) (by rfl) (fun w hS => by simp [execOp, go_sem, *]) hHeld ?_
  simp only [List.setIfInBounds_toArray, List.set_cons_zero, List.set_cons_succ]
  refine takeY (i := 3) (v := .pointer (some ⟨R, 3, none⟩)) 7 rfl rfl (by kernel_rfl) (by kernel_rfl) (by kernel_rfl) (fun _ _ _ _ h => h) (by rfl) (fun w hS => by simp [execOp, go_sem, *]) hHeld ?_
  simp only [List.setIfInBounds_toArray, List.set_cons_zero, List.set_cons_succ]
  refine takeY (i := 5) (v := .agg #[.int .i64 n.op, .int .i64 n.v.k, .int .i64 n.v.n, .string n.v.s, .string n.nm]) 9 rfl rfl (by kernel_rfl) (by kernel_rfl) (by kernel_rfl) (fun _ _ _ _ h => h) (by rfl) (fun w hS => by obtain ⟨q0, q1, q2, q3, q4⟩ := five hS; simp [execOp, go_sem, q0, q1, q2, q3, q4]) hHeld ?_
  simp only [List.setIfInBounds_toArray, List.set_cons_zero, List.set_cons_succ]
  obtain ⟨y0, y1, y2, y3⟩ := quart hM.blk
  rw [unhide HR] at y3
  have hba := (Below.refl W.drew.heap.size W.drew).alloc (Nat.le_refl _) (.cells (nC n).toArray 41)
  have hN := Blk.new W.drew 41 (nC n).toArray
  have hM2 := hM.mono hba
  obtain ⟨z0, z1, z2, z3⟩ := quart hM2.blk
  rw [unhide HR] at z3
  have z4 : (W.alloc (.cells (nC n).toArray 41)).cell? ⟨R, 3, none⟩ = some v := z3
  refine wpAnyH_ready (rs := [4, 6]) (by kernel_rfl) (by simp) (consRun (v := v) (w' := W.drew) 8 rfl rfl (by rfl) (by simp [execOp, go_sem, y3]) hHeld ?oA (consRun (v := .slice (some ⟨W.drew.heap.size, 0, none⟩) 1 1) (w' := W.drew.alloc (.cells (nC n).toArray 41)) 10 rfl rfl (by rfl) (by simp [execOp, go_sem, nC]) (hK.mono hba hK.lt) ?oB AllReadyH.nil))
  case' oA =>
    simp only [List.setIfInBounds_toArray, List.set_cons_zero, List.set_cons_succ]
    refine runZ (i := 6) (v := .slice (some ⟨W.drew.heap.size, 0, none⟩) 1 1) (w' := W.drew.alloc (.cells (nC n).toArray 41)) 10 rfl rfl (by rfl) (by kernel_rfl) (by simp [execOp, go_sem, nC]) (hK.mono hba hK.lt) ?_
    simp only [List.setIfInBounds_toArray, List.set_cons_zero, List.set_cons_succ]
  case' oB =>
    simp only [List.setIfInBounds_toArray, List.set_cons_zero, List.set_cons_succ]
    refine runZ (i := 4) (v := v) (w' := W.drew.alloc (.cells (nC n).toArray 41)) 8 rfl rfl (by rfl) (by kernel_rfl) (by simp [execOp, go_sem, z4]) (hK.mono hba hK.lt) ?_
    simp only [List.setIfInBounds_toArray, List.set_cons_zero, List.set_cons_succ]
  all_goals
    refine appY (i := 7) 11 rfl rfl rfl (by kernel_rfl) (.tmp 8) (.tmp 10) 23 rfl (w0.heap.size + 1) 41 i0 _ 5 56 Tryz.underlying23 hi hz0 hz1 hz2 rfl (by omega) v ns.length (nodV ns) rfl hM2.own ⟨W.drew.heap.size, 0, none⟩ 1 1 (nC n) rfl rfl (fun j v hj => by rw [show (⟨W.drew.heap.size, 0, none⟩ : Addr).add j = ⟨W.drew.heap.size, j, none⟩ by simp [Addr.add]; try exact fun h => h.symm, hN.cell j]; simpa using hj) (by simp [nC, Value.oneCell']) (by omega) (by unfold maxLen; omega) (by omega) (by have := hM2.blk.lt; omega) _ rfl ?_
    intro q cap W9 ho hgr hq9 hq10
    have hO9 : OwnN W9 (w0.heap.size + 1) (.slice (some ⟨q, 0, none⟩) (ns.length + 1) cap) (ns ++ [n]) := OwnN.snoc ho
    have hb9 : ∀ k, k < w.heap.size + 1 → v.ownBlock ≠ some k → W9.heap[k]? = W.heap[k]? := fun k hk hv => by
      have h1 := hgr.block k (by have := hba.size; have := unhide HS0; simp; show k < W.heap.size + 1; omega) (fun e => hv e.symm)
      rw [h1]
      exact hba.block k (by show k < W.heap.size; have := unhide HS0; omega)
    have hR9 : Blk W9 R 85 [.slice a l.length c, .int .i64 (i : Nat), .int .i64 (d : Nat), v] := by
      have h1 := hb9 R (by omega) (fun e => by have := unhide HNot _ e; omega)
      have h2 := (unhide H).blk
      rw [unhide HR] at h2
      exact h1.trans h2
    have hH9 : Blk W9 w.heap.size 41 [.int .i64 n.op, .int .i64 n.v.k, .int .i64 n.v.n, .string n.v.s, .string n.nm] := (hb9 w.heap.size (by omega) (fun e => by have := unhide HNot _ e; omega)).trans (unhide HK)
    refine ⟨hH9, ?_⟩
    clear hHeld
    have hHeld := hH9
    simp only [List.setIfInBounds_toArray, List.set_cons_zero, List.set_cons_succ]
    refine takeY (i := 8) (v := .pointer (some ⟨R, 0, none⟩)) 12 rfl rfl (by kernel_rfl) (by kernel_rfl) (by kernel_rfl) (fun _ _ _ _ h => h) (by rfl) (fun w hS => by simp [execOp, go_sem, *]) hHeld ?_
    simp only [List.setIfInBounds_toArray, List.set_cons_zero, List.set_cons_succ]
    refine takeY (i := 9) (v := .pointer (some ⟨R, 3, none⟩)) 13 rfl rfl (by kernel_rfl) (by kernel_rfl) (by kernel_rfl) (fun _ _ _ _ h => h) (by rfl) (fun w hS => by simp [execOp, go_sem, *]) hHeld ?_
    simp only [List.setIfInBounds_toArray, List.set_cons_zero, List.set_cons_succ]
    obtain ⟨x0, x1, x2, x3⟩ := quart hR9
    have xf := hR9.free 3
    refine storeY (i := 10) (w' := W9.setCell ⟨R, 3, none⟩ (.slice (some ⟨q, 0, none⟩) (ns.length + 1) cap)) rfl (by rfl) (by kernel_rfl) rfl (by simp [execOp, go_sem, x3, xf]) rfl ?_ ?_
    · exact (heap_setCell_other W9 ⟨R, 3, none⟩ w.heap.size _ (fun e => by simp at e; omega)).trans hH9
    refine wpAnyH_done (by kernel_rfl) ?_ _
    go_wp2_with fail
    go_end0
    have hqR : q ≠ R := fun e => by
      rcases hq9 with h1 | h1
      · have := unhide HNot _ h1; omega
      · have := unhide HS0
        have h2 : W.drew.heap.size = W.heap.size := rfl
        simp only [World.size_alloc] at h1
        omega
    refine ⟨rfl, .slice (some ⟨q, 0, none⟩) (ns.length + 1) cap, ⟨?_, ?_, ?_⟩, ⟨?_, ?_, ?_⟩⟩
    · rw [unhide HR]; exact hR9.set 3 _
    · rw [unhide HR] at hO9 ⊢
      exact hO9.set (fun e => hqR (by simpa [Value.ownBlock] using e)) 3 _
    · exact (hM2.bel.grown hgr hM2.bel.size (fun q e => by have := owns_block hM2.own e; omega)).setCell (p := ⟨R, 3, none⟩) (by have := unhide HR; simp; omega) _
    · have h1 := hgr.size
      have h2 := hba.size
      have h3 : W.drew.heap.size = W.heap.size := rfl
      have h4 := unhide HS0
      simp only [World.size_setCell]
      omega
    · intro k hk hkR hv
      exact (heap_setCell_other W9 ⟨R, 3, none⟩ k _ (fun e => hkR (by simpa using e))).trans ((hb9 k (by omega) hv).trans ((unhide HB).block k hk))
    · intro q' hq'
      simp only [Value.ownBlock, Option.some.injEq] at hq'
      subst hq'
      rcases hq9 with h1 | h1
      · exact .inl h1
      · right
        have h3 : W.drew.heap.size = W.heap.size := rfl
        have h4 := unhide HS0
        simp only [World.size_alloc] at h1
        omega
end Go.Proofs.YtjgngbmkpiihgaaGreatDoor
