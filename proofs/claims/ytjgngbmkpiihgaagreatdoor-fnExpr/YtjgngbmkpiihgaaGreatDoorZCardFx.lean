import Derived.Test.YtjgngbmkpiihgaaGreatDoorGLf
import Derived.Test.YtjgngbmkpiihgaaGreatDoorGCd
import Derived.Shelf.Vars
import Derived.OpenVars
import Derived.ChangeVars
/- FnExpr: the row and its card. -/
namespace Go.Proofs.YtjgngbmkpiihgaaGreatDoor
open Go Go.RowKit Go.ChangeShapes Go.WideShapes Go.ChangeAt

theorem add_noneF (b off j : Nat) : (⟨b, off, none⟩ : Addr).add j = ⟨b, off + j, none⟩ := by simp [Addr.add]
section
variable {H : Type} {enc : TypeId × Value → H} {P : Program} {w : World} {base : Nat} {held : Bool}
/-- A slice of bytes, opened. -/
theorem got_bytes {t e : TypeId} {n : Nat} {v : Value} {y : DataW H × List MemPlace} (ht : P.underlying t = some (.slice e)) (he : P.underlying e = some (.int .u8)) (hc : P.cellsOf e = 1) (h : DataW.trod enc P w base (fun _ => true) held n t [v] = some y)
    (hlt : ∀ x ∈ y.2, x.block < w.heap.size) : ∃ a len cap f, v = .slice a len cap ∧ len ≤ 9223372036854775807 ∧ Byts w a len f := by
  rcases open_ints ht he hc h with ⟨h0, -⟩ | ⟨a, len, cap, zs, h0, -, hl, hm, hz, rfl, hx, hw⟩
  · exact ⟨none, 0, 0, fun _ => 0, by simpa using h0, by omega, fun k hk => absurd hk (Nat.not_lt_zero _)⟩
  · simp only [if_true] at hz
    refine ⟨some a, len, cap, fun k => (zs.getD k 0).toNat, by simpa using h0, by have : maxLen = 9223372036854775807 := rfl; omega, fun k hk => ?_⟩
    have hk' : k < zs.length := by omega
    obtain ⟨b, off, spot⟩ := a
    have hs : spot = none := by simpa [Addr.add] using World.cell?_spot (hx 0 (by omega))
    subst hs
    have hq := hx k hk'
    rw [add_noneF] at hq
    have hin : zs.getD k 0 ∈ zs := by rw [List.getD_eq_getElem?_getD, List.getElem?_eq_getElem hk']; exact List.getElem_mem hk'
    have hb := hw _ hin
    have hr : 0 ≤ zs.getD k 0 ∧ zs.getD k 0 < 256 := by
      have e1 : IntKind.u8.min = 0 := by decide
      have e2 : IntKind.u8.max = 255 := by decide
      simp only [Lit.wf, Bool.and_eq_true, decide_eq_true_eq, e1, e2] at hb
      omega
    refine ⟨by dsimp only; omega, b, off, rfl, hlt (.cell b (off + k)) (MemPlace.mem_row.2 ⟨k, hk', by simp⟩), ?_⟩
    rw [hq]
    dsimp only
    rw [Int.toNat_of_nonneg hr.1]
end

theorem cellsU8F : Tryz.prog.cellsOf 5 = 1 := by kernel_rfl
set_option maxRecDepth 100000 in
theorem contractFX (H : Type) (enc : TypeId × Value → H) (W : World) (base : Nat) (args : Array Value) (ds gs : List (DataW H)) (before : List MemPlace)
    (hval : ∀ (j : Nat) t v, Tryz.f3.params[j]? = some t → args[j]? = some v → Value.okWide Tryz.prog W .any base t v)
    (hW : DataW.Whole enc Tryz.prog Tryz.f3.params.toList Rows.fnExprSpec.vars false W args.toList ds gs before) (hg : Wrds W) (ht : Pow W) (q1 : ErrV "strconv.ErrSyntax" W) (q2 : ErrV "strconv.ErrRange" W) :
    Calls Tryz.prog 3 args W fun e W' => ∃ v, e = .returned v ∧ Rows.fnExprSpec.post enc Tryz.prog Tryz.f3 false true false false W args v W' := by
  have hW' := hW
  obtain ⟨p, q, hA0, hV, rfl, hfz, hnd⟩ := hW
  have hA : DataW.TrodAll enc Tryz.prog W 0 (fun _ => true) true Tryz.f3.params.toList args.toList ds p := hA0
  rw [Tryz.params3] at hA hval
  obtain ⟨v0, d0, rfl, rfl, h0⟩ := trodAll_one hA
  obtain ⟨g, t, cs, fuel', d1, p1, rfl, -, -, -, -, -⟩ := trodVars_one hV
  have h0k := h0
  clear hA0
  have hlt : ∀ x ∈ p, x.block < W.heap.size := fun x hx => by simpa using hW'.lt x (List.mem_append_left _ hx)
  have hargs : ∀ (W' : World), Below W.heap.size W W' → DataW.Trod enc Tryz.prog W' 0 (fun b => decide (b < W.heap.size)) true 22 v0 d0 p :=
    fun W' hn => Below.trod laidOutV (by kernel_rfl) (of_decide_eq_true (by kernel_rfl)) h0k hn hlt
  obtain ⟨a3, m1, c3, rfl⟩ := okWide_slice Tryz.underlying22 (hval 0 22 v0 rfl rfl)
  obtain ⟨fuel, hf⟩ := h0
  obtain ⟨a3', m', c3', x', e3, l3, k3⟩ := got_bytes (v := .slice a3 m1 c3) Tryz.underlying22 Tryz.underlying5 cellsU8F hf hlt
  simp only [Value.slice.injEq] at e3
  obtain ⟨rfl, rfl, rfl⟩ := e3
  refine (lawExpr_any a3 m1 c3 x' W l3 k3 hg ht q1 q2).mono fun e W' ⟨he, hn⟩ => ?_
  subst he
  exact ⟨_, rfl, ⟨_, _, _, [], _, _, hW', trodAll_mk1 (shut_bool Tryz.underlying4 _), trodAll_mk1 (hargs _ hn), Below.trodVars laidOutV hn (by kernel_rfl) hV, hn.frame _, fun h => by cases h⟩⟩

set_option maxRecDepth 100000 in
theorem witnessFX (os : Os) {H : Type} (enc : TypeId × Value → H) (w0 : World) (e : w0 = { World.holding Tryz.prog os ⟨#[.cells #[.string ⟨#[118, 97, 108, 117, 101, 32, 111, 117, 116, 32, 111, 102, 32, 114, 97, 110, 103, 101]⟩] 177, .cells #[.string ⟨#[105, 110, 118, 97, 108, 105, 100, 32, 115, 121, 110, 116, 97, 120]⟩] 177], #[], []⟩ with heap := ((((((World.holding Tryz.prog os ⟨#[.cells #[.string ⟨#[118, 97, 108, 117, 101, 32, 111, 117, 116, 32, 111, 102, 32, 114, 97, 110, 103, 101]⟩] 177, .cells #[.string ⟨#[105, 110, 118, 97, 108, 105, 100, 32, 115, 121, 110, 116, 97, 120]⟩] 177], #[], []⟩).heap.modify 5 (laidT .u8 (Lib.deBruijn32tab.map (fun n => ((n : Nat) : Int))))).modify 6 (laidT .u8 (Lib.deBruijn64tab.map (fun n => ((n : Nat) : Int))))).modify 2 (laidT .u64 Lib.pow10Tab)).modify 4 (laidE (World.holding Tryz.prog default ⟨#[], #[], []⟩).heap.size)).modify 3 (laidE ((World.holding Tryz.prog default ⟨#[], #[], []⟩).heap.size + 1))).modify 0 (laidS wrdT) }) :
    ∃ (w : World) (tape : Tape) (i : Input), w.os = os ∧ (w.forCall tape i).Shaped Tryz.checked.prog ∧ i.vars = [] ∧ Input.okWide Tryz.checked.prog (w.forCall tape i) .any w.heap.size 3 i ∧
      (OpenSpec.ofChange Rows.fnExprSpec).preRow enc Tryz.checked.prog Tryz.f3 Rows.fnExprRow.domain false Rows.fnExprRow.laid (w.forCall tape i).memory i.args ∧ ({ modest := false } : Assume).holds Tryz.checked.prog (lone (Frame.enter Tryz.checked.prog 3 i.args .normal) [] (w.forCall tape i)) := by
  exact witness_row_at (enc := enc) (C := Tryz.checked) false w0 #[.slice none 0 0] (by subst e; rfl) (by subst e; kernel_rfl) (by subst e; kernel_rfl) (by subst e; kernel_rfl)
    (OpenSpec.preRow_of_cond (x := ([.nil], [Rows.laid_loop_example_s0011_impl_operatorWords], MemPlace.row ⟨0, 0, none⟩ 26)) 8 (by subst e; kernel_rfl) (by subst e; kernel_rfl) (fun k hk => by cases hk) (by subst e; kernel_rfl) (laidMet_of_run' 8 (by subst e; kernel_rfl) (by subst e; kernel_rfl)))

set_option maxRecDepth 100000 in
theorem liftedFX (os : Os) (started : os.Started) (H : Type) (enc : TypeId × Value → H) (F : Stop.Interp) :
    ReturnsInHanded {} Tryz.checked os 3 .any ((OpenSpec.ofChange Rows.fnExprSpec).preRow enc Tryz.prog Tryz.f3 Rows.fnExprRow.domain false Rows.fnExprRow.laid) (((OpenSpec.ofChange Rows.fnExprSpec).at F).post enc Tryz.prog Tryz.f3 false true false false) := by
  refine returnsInHanded_of_row (C := Tryz.checked) (s := OpenSpec.ofChange Rows.fnExprSpec) knobsV started (by kernel_rfl) Tryz.func3 (witnessFX os enc _ rfl) ?_
  intro W base args ds gs before hval hW _ _ _ hL _ _
  exact contractFX H enc W base args ds gs before hval hW (wrd_of_head hL.tail.tail.tail.tail.tail) (pow_of hL) (errS_of hL) (errR_of hL)

theorem saidFX : Rows.FnExprSaid :=
  OpenClaim.holds_of_cond 3 Tryz.f3 rfl rfl rfl rfl rfl rfl rfl ⟨rfl, rfl, rfl, rfl, rfl⟩ rfl rfl rfl rfl rfl (by kernel_rfl) Tryz.func3 (by kernel_rfl)
    (of_decide_eq_true (by kernel_rfl)) (by unfold Func.isWrapper; first | (rw [if_pos (by decide +kernel)]; kernel_rfl) | (rw [if_neg (by decide +kernel)]; exact ⟨rfl, rfl⟩))
    (fun os started H enc _ F => by rw [OpenClaim.pre_eq_preRow]; exact liftedFX os started H enc F)

theorem plainFX (f : FuncId) (fn : Func) (hf : Tryz.pinned.checked.prog.funcNamed "loop.example/s0011/laws.FnExpr" = some f) (hfn : Tryz.pinned.checked.prog.funcs[f]? = some fn) :
    Rows.fnExprCard.stood.looks = Tryz.pinned.checked.prog.looks [] ∧ ∀ (j : Nat) t, fn.params[j]? = some t → Tryz.pinned.checked.prog.wantsStandIn t = false := by
  obtain rfl : f = 3 := Option.some.inj ((show Tryz.prog.funcNamed "loop.example/s0011/laws.FnExpr" = some 3 by kernel_rfl).symm.trans hf) |>.symm
  obtain rfl : fn = Tryz.f3 := (Option.some.inj (Tryz.func3.symm.trans hfn)).symm
  refine ⟨by kernel_rfl, fun j t ht => ?_⟩
  rw [Tryz.params3] at ht
  obtain rfl : t = 22 := by simpa using Array.mem_of_getElem? ht
  exact (show Tryz.prog.wantsStandIn 22 = false by kernel_rfl)

theorem cardFX : Rows.FnExprCardSaid :=
  Claim7.holds_tied_plain_at .later [] _ _ _ _ saidFX (fun _ h => by cases h) (by kernel_rfl) (fun _ h => by cases h) fnExpr_row_tie rfl ⟨rfl, rfl⟩ (by kernel_rfl) rfl plainFX (by kernel_rfl)
end Go.Proofs.YtjgngbmkpiihgaaGreatDoor
