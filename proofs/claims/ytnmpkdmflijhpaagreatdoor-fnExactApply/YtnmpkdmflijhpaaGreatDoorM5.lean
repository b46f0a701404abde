import Derived.Test.YtnmpkdmflijhpaaGreatDoorRows
import Derived.OpenShut
import Derived.Carry
import Derived.Deep.DeepHandedRow
import Derived.Deep.Grids
import Derived.Lib.LaidTab
import Derived.Lib.SmallJoins
import Derived.Test.YtnmpkdmflijhpaaGreatDoorM3
import Derived.Test.YtnmpkdmflijhpaaGreatDoorCards
import Derived.Test.YtnmpkdmflijhpaaGreatDoorTie
import Derived.Stop.LaidErr
import Derived.Lib.TrailingZeros
import Derived.ChangeMaps5
import Derived.Test.YtnmpkdmflijhpaaGreatDoorM4
import Derived.Deep.Slices
import Derived.Shelf.Vars
/- Opening an argument of package laws' type Value. -/
namespace Go.Proofs.YtnmpkdmflijhpaaGreatDoor
open Go Go.RowKit Go.ChangeShapes Go.WideShapes Go.ChangeAt

section
variable {H : Type} {enc : TypeId × Value → H} {P : Program} {w : World} {base : Nat} {spare : Nat → Bool} {held : Bool}
theorem got_i64 {t : TypeId} {n : Nat} {v : Value} {y : DataW H × List MemPlace} (ht : P.underlying t = some (.int .i64)) (h : DataW.trod enc P w base spare held n t [v] = some y) : ∃ x, v = .int .i64 x ∧ -9223372036854775808 ≤ x ∧ x ≤ 9223372036854775807 := by
  obtain ⟨x, h1, h2⟩ := DataW.trod_int ht h
  have h3 := h2.2
  simp [Lit.wf, IntKind.min, IntKind.max, IntKind.signed, IntKind.bits] at h3
  exact ⟨x, by simpa using h1, by omega, by omega⟩
theorem got_str {t : TypeId} {n : Nat} {v : Value} {y : DataW H × List MemPlace} (ht : P.underlying t = some .string) (h : DataW.trod enc P w base spare held n t [v] = some y) : ∃ s : ByteArray, v = .string s ∧ s.size ≤ 9223372036854775807 := by
  obtain ⟨s, h1, _, h2⟩ := DataW.trod_string ht h
  exact ⟨s, by simpa using h1, h2⟩
end
theorem knobsV : ownKnob Tryz.prog.godebug = none := by kernel_rfl
theorem laidOutV : laidOutB Tryz.prog = true := by kernel_rfl
theorem cellsVal : Tryz.prog.cellsOf 33 = 3 := by kernel_rfl
end Go.Proofs.YtnmpkdmflijhpaaGreatDoor

/- The library's tables, as the rows list them. -/
namespace Go.Proofs.YtnmpkdmflijhpaaGreatDoor
open Go Go.RowKit Go.ChangeShapes Go.WideShapes Go.ChangeAt

theorem gPow : Tryz.prog.globalNamed "internal/strconv.uint64pow10" = some 3 := by kernel_rfl
theorem gPowType : (Tryz.prog.globals[3]?).map (·.type) = some 120 := by kernel_rfl
theorem cellsPow : Tryz.prog.cellsOf 120 = 20 := by kernel_rfl
theorem cellsU64 : Tryz.prog.cellsOf 72 = 1 := by kernel_rfl
theorem pow_eq : (Rows.laid_internal_strconv_uint64pow10 : DataW Unit) = Lib.tabData .u64 Lib.pow10Tab := by rfl
theorem pow_of {W : World} {rest : List (String × DataW Unit)} (h : laidMet Tryz.prog (("math/bits.deBruijn32tab", Rows.laid_math_bits_deBruijn32tab) :: ("math/bits.deBruijn64tab", Rows.laid_math_bits_deBruijn64tab) :: ("internal/strconv.uint64pow10", Rows.laid_internal_strconv_uint64pow10) :: rest) W) : Pow W := by
  have h2 := h.tail.tail
  rw [pow_eq] at h2
  exact Lib.tabIs_of_head gPow gPowType Tryz.underlying120 Tryz.underlying72 cellsU64 cellsPow h2
/-- A table of the library's, laid. -/
def laidT (k : IntKind) (zs : List Int) : Obj → Obj := fun
  | .cells _ t frozen => .cells (zs.map (fun z => Value.int k z)).toArray t frozen
  | o => o
end Go.Proofs.YtnmpkdmflijhpaaGreatDoor

/- The library's errors, as the rows list them. -/
namespace Go.Proofs.YtnmpkdmflijhpaaGreatDoor
open Go Go.RowKit Go.ChangeShapes Go.WideShapes Go.ChangeAt

theorem star : "*" ++ "errors.errorString" = "*errors.errorString" := by decide
theorem rowES (u : TypeId) (h : Tryz.prog.typeName? 3 u = some "*errors.errorString") : u = 116 :=
  typeName_ptr_named (nm := "errors.errorString") (by rw [star]; kernel_rfl) (by kernel_rfl) (by decide) u (by rw [star]; exact h)
theorem gES : Tryz.prog.globalNamed "strconv.ErrSyntax" = some 1 := by kernel_rfl
theorem gER : Tryz.prog.globalNamed "strconv.ErrRange" = some 2 := by kernel_rfl
theorem gESType : (Tryz.prog.globals[1]?).map (·.type) = some 85 := by kernel_rfl
theorem gERType : (Tryz.prog.globals[2]?).map (·.type) = some 85 := by kernel_rfl
theorem cellsES : Tryz.prog.cellsOf 118 = 1 := by kernel_rfl
theorem cellsStr : Tryz.prog.cellsOf 9 = 1 := by kernel_rfl
theorem errR_of {W : World} {a b c : String × DataW Unit} {rest : List (String × DataW Unit)} (h : laidMet Tryz.prog (a :: b :: c :: ("strconv.ErrRange", Rows.laid_strconv_ErrRange) :: rest) W) : ErrV "strconv.ErrRange" W := by
  obtain ⟨p, s, hv, -⟩ := laid_sentinel h.tail.tail.tail gER gERType Tryz.underlying85 rowES Tryz.underlying116 Tryz.underlying118 rfl rfl Tryz.underlying9 cellsES cellsStr
  exact ⟨_, _, hv⟩
theorem errS_of {W : World} {a b c d : String × DataW Unit} {rest : List (String × DataW Unit)} (h : laidMet Tryz.prog (a :: b :: c :: d :: ("strconv.ErrSyntax", Rows.laid_strconv_ErrSyntax) :: rest) W) : ErrV "strconv.ErrSyntax" W := by
  obtain ⟨p, s, hv, -⟩ := laid_sentinel h.tail.tail.tail.tail gES gESType Tryz.underlying85 rowES Tryz.underlying116 Tryz.underlying118 rfl rfl Tryz.underlying9 cellsES cellsStr
  exact ⟨_, _, hv⟩
/-- An error of the library's, laid. -/
def laidE (b : Nat) : Obj → Obj := fun
  | .cells _ t frozen => .cells #[.iface 116 (.pointer (some ⟨b, 0, none⟩))] t frozen
  | o => o
end Go.Proofs.YtnmpkdmflijhpaaGreatDoor

/- FnExactApply: the row and its card. -/
namespace Go.Proofs.YtnmpkdmflijhpaaGreatDoor
open Go Go.RowKit Go.ChangeShapes Go.WideShapes Go.ChangeAt

theorem cellsInt0 : Tryz.prog.cellsOf 3 = 1 := by kernel_rfl
theorem cellsI640 : Tryz.prog.cellsOf 2 = 1 := by kernel_rfl
theorem add_none0 (b off j : Nat) : (⟨b, off, none⟩ : Addr).add j = ⟨b, off + j, none⟩ := by simp [Addr.add]
/-- The library's number holds some number. -/
theorem maxl_of {W : World} (h : W.ShapedOpen Tryz.prog) : MaxL W := by
  obtain ⟨z, hz⟩ := cell_of_shapedOpen_int (g := 0) (t := 3) (k := .i64) (zero := #[.int .i64 0]) h (of_decide_eq_true (by kernel_rfl)) (by kernel_rfl) rfl (by kernel_rfl) (by kernel_rfl) Tryz.underlying3
  refine ⟨z, ?_, hz⟩
  apply Nat.lt_of_not_le
  intro h0
  have e : W.heap[(0 : Nat)]? = none := Array.getElem?_eq_none h0
  simp [World.cell?, e] at hz

section
variable {H : Type} {enc : TypeId × Value → H} {P : Program} {w : World} {base : Nat} {held : Bool}
/-- A slice of values, opened. -/
theorem got_vals {t e : TypeId} {f0 f1 f2 : Field} {n : Nat} {v : Value} {y : DataW H × List MemPlace} (ht : P.underlying t = some (.slice e)) (he : P.underlying e = some (.struct #[f0, f1, f2])) (ce : P.cellsOf e = 3) (o0 : f0.offset = 0) (o1 : f1.offset = 1) (o2 : f2.offset = 2)
    (i0 : P.underlying f0.type = some (.int .i64)) (i1 : P.underlying f1.type = some (.int .i64)) (i2 : P.underlying f2.type = some .string) (c0 : P.cellsOf f0.type = 1) (c1 : P.cellsOf f1.type = 1) (c2 : P.cellsOf f2.type = 1) (h : DataW.trod enc P w base (fun _ => true) held n t [v] = some y)
    (hlt : ∀ x ∈ y.2, x.block < w.heap.size) : ∃ a len cap f, v = .slice a len cap ∧ len ≤ 9223372036854775807 ∧ Vals w a len f ∧ (∀ i, i < len → (f i).s.size ≤ 9223372036854775807) ∧ (∀ i, i < len → -9223372036854775808 ≤ (f i).n ∧ (f i).n ≤ 9223372036854775807) := by
  rcases Deep.open_slice ht h with ⟨h0, -⟩ | ⟨a, len, cap, m, k, D, Pl, h0, -, hl, hm, hmm, rfl, hx⟩
  · exact ⟨none, 0, 0, fun _ => blankX, by simpa using h0, by omega, fun k hk => absurd hk (Nat.not_lt_zero _), fun k hk => absurd hk (Nat.not_lt_zero _), fun k hk => absurd hk (Nat.not_lt_zero _)⟩
  · simp only [if_true] at hmm
    subst hmm
    have each : ∀ i, i < m → ∃ u : Vx, w.cell? (a.add (i * 3)) = some (.int .i64 u.k) ∧ w.cell? (a.add (i * 3 + 1)) = some (.int .i64 u.n) ∧ w.cell? (a.add (i * 3 + 2)) = some (.string u.s) ∧ u.s.size ≤ 9223372036854775807 ∧ -9223372036854775808 ≤ u.n ∧ u.n ≤ 9223372036854775807 := by
      intro i hi
      obtain ⟨cs', h1, h2⟩ := hx i hi
      rw [ce] at h1
      obtain ⟨_, hlen, hcell⟩ := World.cells?_some h1
      obtain ⟨xs, k', hk, hxy, _, hxl, hf⟩ := DataW.trod_struct he h2
      match xs, hxl, cs', hlen with
      | [y0, y1, y2], _, [v0, v1, v2], _ =>
        have g0 := hf 0 f0 rfl
        have g1 := hf 1 f1 rfl
        have g2 := hf 2 f2 rfl
        simp [o0, o1, o2, c0, c1, c2] at g0 g1 g2
        have e0 := hcell 0 (by omega)
        have e1 := hcell 1 (by omega)
        have e2 := hcell 2 (by omega)
        rw [Deep.add_add] at e0 e1 e2
        obtain ⟨kind, rfl, -, -⟩ := got_i64 i0 g0
        obtain ⟨num, rfl, n0, n1⟩ := got_i64 i1 g1
        obtain ⟨s, rfl, hs⟩ := got_str i2 g2
        exact ⟨⟨kind, num, s⟩, by simpa using e0, by simpa using e1, by simpa using e2, hs, n0, n1⟩
    obtain ⟨f, hf⟩ : ∃ f : Nat → Vx, ∀ i, i < m → w.cell? (a.add (i * 3)) = some (.int .i64 (f i).k) ∧ w.cell? (a.add (i * 3 + 1)) = some (.int .i64 (f i).n) ∧ w.cell? (a.add (i * 3 + 2)) = some (.string (f i).s) ∧ (f i).s.size ≤ 9223372036854775807 ∧ -9223372036854775808 ≤ (f i).n ∧ (f i).n ≤ 9223372036854775807 := by
      classical
      exact ⟨fun i => if h : i < m then (each i h).choose else blankX, fun i hi => by simp only [dif_pos hi]; exact (each i hi).choose_spec⟩
    refine ⟨some a, len, m, f, by simpa using h0, by have : maxLen = 9223372036854775807 := rfl; omega, fun i hi => ?_, fun i hi => (hf i (by omega)).2.2.2.1, fun i hi => (hf i (by omega)).2.2.2.2⟩
    obtain ⟨x0, x1, x2, -⟩ := hf i (by omega)
    obtain ⟨b, off, spot⟩ := a
    have hs : spot = none := by simpa [Addr.add] using World.cell?_spot (hf 0 (by omega)).1
    subst hs
    rw [add_none0] at x0 x1 x2
    refine ⟨b, off, rfl, hlt (.cell b (off + i * 3)) ?_, x0, x1, x2⟩
    rw [ce]
    exact List.mem_append_left _ (MemPlace.mem_row.2 ⟨i * 3, by omega, by simp⟩)
end

set_option maxRecDepth 100000 in
theorem contractAp (H : Type) (enc : TypeId × Value → H) (W : World) (base : Nat) (args : Array Value) (ds gs : List (DataW H)) (before : List MemPlace)
    (hval : ∀ (j : Nat) t v, Tryz.f3.params[j]? = some t → args[j]? = some v → Value.okWide Tryz.prog W .any base t v)
    (hW : DataW.Whole enc Tryz.prog Tryz.f3.params.toList Rows.fnExactApplySpec.vars false W args.toList ds gs before) (hg : Glob W) :
    Calls Tryz.prog 3 args W fun e W' => ∃ v, e = .returned v ∧ Rows.fnExactApplySpec.post enc Tryz.prog Tryz.f3 false true false false W args v W' := by
  have hW' := hW
  obtain ⟨p, q, hA0, hV, rfl, hfz, hnd⟩ := hW
  have hA : DataW.TrodAll enc Tryz.prog W 0 (fun _ => true) true Tryz.f3.params.toList args.toList ds p := hA0
  rw [Tryz.params3] at hA hval
  obtain ⟨v0, v1, d0, d1, p0, p1, rfl, rfl, rfl, h0, hs0⟩ := trodAll_two hA
  obtain ⟨rfl, rfl⟩ := trodVars_none hV
  have h0k := h0
  have h1k := hs0
  clear hA0
  simp only [List.append_nil] at hW'
  have hlt : ∀ x ∈ p0 ++ p1, x.block < W.heap.size := fun x hx => by simpa using hW'.lt x hx
  have hargs : ∀ (W' : World), Below W.heap.size W W' → DataW.Trod enc Tryz.prog W' 0 (fun b => decide (b < W.heap.size)) true 3 v0 d0 p0 :=
    fun W' hn => Below.trod laidOutV (by kernel_rfl) (of_decide_eq_true (by kernel_rfl)) h0k hn (fun x hx => hlt x (List.mem_append.2 (.inl hx)))
  have hargs1 : ∀ (W' : World), Below W.heap.size W W' → DataW.Trod enc Tryz.prog W' 0 (fun b => decide (b < W.heap.size)) true 22 v1 d1 p1 :=
    fun W' hn => Below.trod laidOutV (by kernel_rfl) (of_decide_eq_true (by kernel_rfl)) h1k hn (fun x hx => hlt x (List.mem_append.2 (.inr hx)))
  obtain ⟨a4, m0, c4, rfl⟩ := okWide_slice Tryz.underlying22 (hval 1 22 v1 rfl rfl)
  obtain ⟨fuel, hf⟩ := hs0
  obtain ⟨a4', m, c4', f, e4, l4, k4, s4, r4⟩ := got_vals (v := .slice a4 m0 c4) Tryz.underlying22 Tryz.underlying33 cellsVal rfl rfl rfl Tryz.underlying3 Tryz.underlying2 Tryz.underlying9 cellsInt0 cellsI640 cellsStr hf (fun x hx => hlt x (List.mem_append.2 (.inr hx)))
  simp only [Value.slice.injEq] at e4
  obtain ⟨rfl, rfl, rfl⟩ := e4
  obtain ⟨op, rfl⟩ := okWide_int Tryz.underlying3 (hval 0 3 v0 rfl rfl)
  refine (lawApply_any op a4 m0 c4 f W l4 k4 s4 r4 hg).mono fun e W' ⟨he, hn⟩ => ?_
  subst he
  exact ⟨_, rfl, ⟨_, _, _, [], _, [], hW', trodAll_mk1 (shut_bool Tryz.underlying4 _), trodAll_mk2 (hargs _ hn) (hargs1 _ hn), rfl, hn.frame _, fun h => by cases h⟩⟩

set_option maxRecDepth 100000 in
theorem witnessAp (os : Os) {H : Type} (enc : TypeId × Value → H) (w0 : World) (e : w0 = { World.holding Tryz.prog os ⟨#[.cells #[.string ⟨#[118, 97, 108, 117, 101, 32, 111, 117, 116, 32, 111, 102, 32, 114, 97, 110, 103, 101]⟩] 118, .cells #[.string ⟨#[105, 110, 118, 97, 108, 105, 100, 32, 115, 121, 110, 116, 97, 120]⟩] 118], #[], []⟩ with heap := (((((World.holding Tryz.prog os ⟨#[.cells #[.string ⟨#[118, 97, 108, 117, 101, 32, 111, 117, 116, 32, 111, 102, 32, 114, 97, 110, 103, 101]⟩] 118, .cells #[.string ⟨#[105, 110, 118, 97, 108, 105, 100, 32, 115, 121, 110, 116, 97, 120]⟩] 118], #[], []⟩).heap.modify 4 (laidT .u8 (Lib.deBruijn32tab.map (fun n => ((n : Nat) : Int))))).modify 5 (laidT .u8 (Lib.deBruijn64tab.map (fun n => ((n : Nat) : Int))))).modify 3 (laidT .u64 Lib.pow10Tab)).modify 2 (laidE (World.holding Tryz.prog default ⟨#[], #[], []⟩).heap.size)).modify 1 (laidE ((World.holding Tryz.prog default ⟨#[], #[], []⟩).heap.size + 1)) }) :
    ∃ (w : World) (tape : Tape) (i : Input), w.os = os ∧ (w.forCall tape i).Shaped Tryz.checked.prog ∧ i.vars = [] ∧ Input.okWide Tryz.checked.prog (w.forCall tape i) .any w.heap.size 3 i ∧
      (OpenSpec.ofChange Rows.fnExactApplySpec).preRow enc Tryz.checked.prog Tryz.f3 Rows.fnExactApplyRow.domain false Rows.fnExactApplyRow.laid (w.forCall tape i).memory i.args ∧ ({ modest := false } : Assume).holds Tryz.checked.prog (lone (Frame.enter Tryz.checked.prog 3 i.args .normal) [] (w.forCall tape i)) := by
  exact witness_row_at (enc := enc) (C := Tryz.checked) false w0 #[.int .i64 0, .slice none 0 0] (by subst e; rfl) (by subst e; kernel_rfl) (by subst e; kernel_rfl) (by subst e; kernel_rfl)
    (OpenSpec.preRow_of_cond (x := ([.lit (.int .i64 0), .nil], [], [])) 8 (by subst e; kernel_rfl) (by subst e; kernel_rfl) (fun k hk => by cases hk) (by subst e; kernel_rfl) (laidMet_of_run' 8 (by subst e; kernel_rfl) (by subst e; kernel_rfl)))

set_option maxRecDepth 100000 in
theorem liftedAp (os : Os) (started : os.Started) (H : Type) (enc : TypeId × Value → H) (F : Stop.Interp) :
    ReturnsInHanded {} Tryz.checked os 3 .any ((OpenSpec.ofChange Rows.fnExactApplySpec).preRow enc Tryz.prog Tryz.f3 Rows.fnExactApplyRow.domain false Rows.fnExactApplyRow.laid) (((OpenSpec.ofChange Rows.fnExactApplySpec).at F).post enc Tryz.prog Tryz.f3 false true false false) := by
  refine returnsInHanded_of_row (C := Tryz.checked) (s := OpenSpec.ofChange Rows.fnExactApplySpec) knobsV started (by kernel_rfl) Tryz.func3 (witnessAp os enc _ rfl) ?_
  intro W base args ds gs before hval hW _ _ _ hL hsh _
  exact contractAp H enc W base args ds gs before hval hW ⟨pow_of hL, errS_of hL, errR_of hL, maxl_of hsh⟩

theorem saidAp : Rows.FnExactApplySaid :=
  OpenClaim.holds_of_cond 3 Tryz.f3 rfl rfl rfl rfl rfl rfl rfl ⟨rfl, rfl, rfl, rfl, rfl⟩ rfl rfl rfl rfl rfl (by kernel_rfl) Tryz.func3 (by kernel_rfl)
    (of_decide_eq_true (by kernel_rfl)) (by unfold Func.isWrapper; first | (rw [if_pos (by decide +kernel)]; kernel_rfl) | (rw [if_neg (by decide +kernel)]; exact ⟨rfl, rfl⟩))
    (fun os started H enc _ F => by rw [OpenClaim.pre_eq_preRow]; exact liftedAp os started H enc F)

theorem plainAp (f : FuncId) (fn : Func) (hf : Tryz.pinned.checked.prog.funcNamed "loop.example/s0011/laws.FnExactApply" = some f) (hfn : Tryz.pinned.checked.prog.funcs[f]? = some fn) :
    Rows.fnExactApplyCard.stood.looks = Tryz.pinned.checked.prog.looks [] ∧ ∀ (j : Nat) t, fn.params[j]? = some t → Tryz.pinned.checked.prog.wantsStandIn t = false := by
  obtain rfl : f = 3 := Option.some.inj ((show Tryz.prog.funcNamed "loop.example/s0011/laws.FnExactApply" = some 3 by kernel_rfl).symm.trans hf) |>.symm
  obtain rfl : fn = Tryz.f3 := (Option.some.inj (Tryz.func3.symm.trans hfn)).symm
  refine ⟨by kernel_rfl, fun j t ht => ?_⟩
  rw [Tryz.params3] at ht
  rcases (show t = 3 ∨ t = 22 by simpa using Array.mem_of_getElem? ht) with rfl | rfl
  · exact (show Tryz.prog.wantsStandIn 3 = false by kernel_rfl)
  · exact (show Tryz.prog.wantsStandIn 22 = false by kernel_rfl)

theorem cardAp : Rows.FnExactApplyCardSaid :=
  Claim7.holds_tied_plain_at .later [] _ _ _ _ saidAp (fun _ h => by cases h) (by kernel_rfl) (fun _ h => by cases h) fnExactApply_row_tie rfl ⟨rfl, rfl⟩ (by kernel_rfl) rfl plainAp (by kernel_rfl)
end Go.Proofs.YtnmpkdmflijhpaaGreatDoor
