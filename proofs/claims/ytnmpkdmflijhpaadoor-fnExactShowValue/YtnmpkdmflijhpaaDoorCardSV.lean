/- FnExactShowValue: the row and its card. -/
import Derived.Test.YtnmpkdmflijhpaaDoorLawSV
import Derived.Test.YtnmpkdmflijhpaaDoorCardT
namespace Go.Proofs.YtnmpkdmflijhpaaDoor
open Go Go.RowKit Go.ChangeShapes Go.WideShapes Go.ChangeAt

set_option maxRecDepth 100000 in
theorem contractSV (H : Type) (enc : TypeId × Value → H) (W : World) (base : Nat) (args : Array Value) (ds gs : List (DataW H)) (before : List MemPlace)
    (hval : ∀ (j : Nat) t v, Tryd.f7.params[j]? = some t → args[j]? = some v → Value.okWide Tryd.prog W .any base t v)
    (hW : DataW.Whole enc Tryd.prog Tryd.f7.params.toList Rows.fnExactShowValueSpec.vars false W args.toList ds gs before) (ht : Pow W) :
    Calls Tryd.prog 7 args W fun e W' => ∃ v, e = .returned v ∧ Rows.fnExactShowValueSpec.post enc Tryd.prog Tryd.f7 false true false false W args v W' := by
  have hW' := hW
  obtain ⟨p, q, hA0, hV, rfl, hfz, hnd⟩ := hW
  have hA : DataW.TrodAll enc Tryd.prog W 0 (fun _ => true) true Tryd.f7.params.toList args.toList ds p := hA0
  rw [Tryd.params7] at hA hval
  obtain ⟨v0, d0, rfl, rfl, h0⟩ := trodAll_one hA
  obtain ⟨rfl, rfl⟩ := trodVars_none hV
  have h0k := h0
  clear hA0
  simp only [List.append_nil] at hW'
  have hlt : ∀ x ∈ p, x.block < W.heap.size := fun x hx => by simpa using hW'.lt x hx
  have hargs : ∀ (W' : World), Below W.heap.size W W' → DataW.Trod enc Tryd.prog W' 0 (fun b => decide (b < W.heap.size)) true 54 v0 d0 p :=
    fun W' hn => Below.trod laidOutV (by kernel_rfl) (of_decide_eq_true (by kernel_rfl)) h0k hn hlt
  obtain ⟨u0, u1, u2, y0, y1, y2, n, rfl, rfl, rfl, t0, t1, t2⟩ := Joins.open_agg3 Tryd.underlying54 (by kernel_rfl) cellsVal (hval 0 54 v0 rfl rfl) h0
  obtain ⟨kind, rfl, -, -⟩ := got_i64 Tryd.underlying3 t0
  obtain ⟨num, rfl, n0, n1⟩ := got_i64 Tryd.underlying2 t1
  obtain ⟨s, rfl, hs⟩ := got_str Tryd.underlying9 t2
  refine (lawShowV_any kind num s W hs n0 n1 ht).mono fun e W' ⟨he, hn⟩ => ?_
  subst he
  exact ⟨_, rfl, ⟨_, _, _, [], _, [], hW', trodAll_mk1 (shut_bool Tryd.underlying4 _), trodAll_mk1 (hargs _ hn), rfl, hn.frame _, fun h => by cases h⟩⟩

set_option maxRecDepth 100000 in
theorem witnessSV (os : Os) {H : Type} (enc : TypeId × Value → H) (w0 : World) (e : w0 = { World.holding Tryd.prog os ⟨#[], #[], []⟩ with heap := (((World.holding Tryd.prog os ⟨#[], #[], []⟩).heap.modify 0 (laidT .u8 (Lib.deBruijn32tab.map (fun n => ((n : Nat) : Int))))).modify 4 (laidT .u8 (Lib.deBruijn64tab.map (fun n => ((n : Nat) : Int))))).modify 1 (laidT .u64 Lib.pow10Tab) }) :
    ∃ (w : World) (tape : Tape) (i : Input), w.os = os ∧ (w.forCall tape i).Shaped Tryd.checked.prog ∧ i.vars = [] ∧ Input.okWide Tryd.checked.prog (w.forCall tape i) .any w.heap.size 7 i ∧
      (OpenSpec.ofChange Rows.fnExactShowValueSpec).preRow enc Tryd.checked.prog Tryd.f7 Rows.fnExactShowValueRow.domain false Rows.fnExactShowValueRow.laid (w.forCall tape i).memory i.args ∧ ({ modest := false } : Assume).holds Tryd.checked.prog (lone (Frame.enter Tryd.checked.prog 7 i.args .normal) [] (w.forCall tape i)) := by
  exact witness_row_at (enc := enc) (C := Tryd.checked) false w0 #[.agg #[.int .i64 0, .int .i64 0, .string ⟨#[]⟩]] (by subst e; rfl) (by subst e; kernel_rfl) (by subst e; kernel_rfl) (by subst e; kernel_rfl)
    (OpenSpec.preRow_of_cond (x := ([.agg [.lit (.int .i64 0), .lit (.int .i64 0), .lit (.string [])]], [], [])) 8 (by subst e; kernel_rfl) (by subst e; kernel_rfl) (fun k hk => by cases hk) (by subst e; kernel_rfl) (laidMet_of_run' 8 (by subst e; kernel_rfl) (by subst e; kernel_rfl)))

set_option maxRecDepth 100000 in
theorem liftedSV (os : Os) (started : os.Started) (H : Type) (enc : TypeId × Value → H) (F : Stop.Interp) :
    ReturnsInHanded {} Tryd.checked os 7 .any ((OpenSpec.ofChange Rows.fnExactShowValueSpec).preRow enc Tryd.prog Tryd.f7 Rows.fnExactShowValueRow.domain false Rows.fnExactShowValueRow.laid) (((OpenSpec.ofChange Rows.fnExactShowValueSpec).at F).post enc Tryd.prog Tryd.f7 false true false false) := by
  refine returnsInHanded_of_row (C := Tryd.checked) (s := OpenSpec.ofChange Rows.fnExactShowValueSpec) knobsV started (by kernel_rfl) Tryd.func7 (witnessSV os enc _ rfl) ?_
  intro W base args ds gs before hval hW _ _ _ hL _ _
  exact contractSV H enc W base args ds gs before hval hW (pow_of hL)

theorem saidSV : Rows.FnExactShowValueSaid :=
  OpenClaim.holds_of_cond 7 Tryd.f7 rfl rfl rfl rfl rfl rfl rfl ⟨rfl, rfl, rfl, rfl, rfl⟩ rfl rfl rfl rfl rfl (by kernel_rfl) Tryd.func7 (by kernel_rfl)
    (of_decide_eq_true (by kernel_rfl)) (by unfold Func.isWrapper; first | (rw [if_pos (by decide +kernel)]; kernel_rfl) | (rw [if_neg (by decide +kernel)]; exact ⟨rfl, rfl⟩))
    (fun os started H enc _ F => by rw [OpenClaim.pre_eq_preRow]; exact liftedSV os started H enc F)

theorem plainSV (f : FuncId) (fn : Func) (hf : Tryd.pinned.checked.prog.funcNamed "loop.example/s0011/laws.FnExactShowValue" = some f) (hfn : Tryd.pinned.checked.prog.funcs[f]? = some fn) :
    Rows.fnExactShowValueCard.stood.looks = Tryd.pinned.checked.prog.looks [] ∧ ∀ (j : Nat) t, fn.params[j]? = some t → Tryd.pinned.checked.prog.wantsStandIn t = false := by
  obtain rfl : f = 7 := Option.some.inj ((show Tryd.prog.funcNamed "loop.example/s0011/laws.FnExactShowValue" = some 7 by kernel_rfl).symm.trans hf) |>.symm
  obtain rfl : fn = Tryd.f7 := (Option.some.inj (Tryd.func7.symm.trans hfn)).symm
  refine ⟨by kernel_rfl, fun j t ht => ?_⟩
  rw [Tryd.params7] at ht
  obtain rfl : t = 54 := by simpa using Array.mem_of_getElem? ht
  exact (show Tryd.prog.wantsStandIn 54 = false by kernel_rfl)

theorem cardSV : Rows.FnExactShowValueCardSaid :=
  Claim7.holds_tied_plain_at .later [] _ _ _ _ saidSV (fun _ h => by cases h) (by kernel_rfl) (fun _ h => by cases h) fnExactShowValue_row_tie rfl ⟨rfl, rfl⟩ (by kernel_rfl) rfl plainSV (by kernel_rfl)
end Go.Proofs.YtnmpkdmflijhpaaDoor
