/- FnExactReadValue: the row and its card. -/
import Derived.Test.YtnmpkdmflijhpaaDoorLawRV
import Derived.Test.YtnmpkdmflijhpaaDoorCardE
namespace Go.Proofs.YtnmpkdmflijhpaaDoor
open Go Go.RowKit Go.ChangeShapes Go.WideShapes Go.ChangeAt

set_option maxRecDepth 100000 in
theorem contractRV (H : Type) (enc : TypeId × Value → H) (W : World) (base : Nat) (args : Array Value) (ds gs : List (DataW H)) (before : List MemPlace)
    (hval : ∀ (j : Nat) t v, Tryd.f8.params[j]? = some t → args[j]? = some v → Value.okWide Tryd.prog W .any base t v)
    (hW : DataW.Whole enc Tryd.prog Tryd.f8.params.toList Rows.fnExactReadValueSpec.vars false W args.toList ds gs before) (ht : Pow W) (q1 : ErrV "strconv.ErrSyntax" W) (q2 : ErrV "strconv.ErrRange" W) :
    Calls Tryd.prog 8 args W fun e W' => ∃ v, e = .returned v ∧ Rows.fnExactReadValueSpec.post enc Tryd.prog Tryd.f8 false true false false W args v W' := by
  have hW' := hW
  obtain ⟨p, q, hA0, hV, rfl, hfz, hnd⟩ := hW
  have hA : DataW.TrodAll enc Tryd.prog W 0 (fun _ => true) true Tryd.f8.params.toList args.toList ds p := hA0
  rw [Tryd.params8] at hA hval
  obtain ⟨v0, d0, rfl, rfl, h0⟩ := trodAll_one hA
  obtain ⟨rfl, rfl⟩ := trodVars_none hV
  have h0k := h0
  clear hA0
  simp only [List.append_nil] at hW'
  have hlt : ∀ x ∈ p, x.block < W.heap.size := fun x hx => by simpa using hW'.lt x hx
  have hargs : ∀ (W' : World), Below W.heap.size W W' → DataW.Trod enc Tryd.prog W' 0 (fun b => decide (b < W.heap.size)) true 9 v0 d0 p :=
    fun W' hn => Below.trod laidOutV (by kernel_rfl) (of_decide_eq_true (by kernel_rfl)) h0k hn hlt
  obtain ⟨s, rfl, rfl, rfl, hs⟩ := ChangeMaps.open_string Tryd.underlying9 (hval 0 9 v0 rfl rfl) h0
  refine (lawRead_any s W hs ht q1 q2).mono fun e W' ⟨he, hn⟩ => ?_
  subst he
  exact ⟨_, rfl, ⟨_, _, _, [], _, [], hW', trodAll_mk1 (shut_bool Tryd.underlying4 _), trodAll_mk1 (hargs _ hn), rfl, hn.frame _, fun h => by cases h⟩⟩

set_option maxRecDepth 100000 in
theorem witnessRV (os : Os) {H : Type} (enc : TypeId × Value → H) (w0 : World) (e : w0 = { World.holding Tryd.prog os ⟨#[.cells #[.string ⟨#[118, 97, 108, 117, 101, 32, 111, 117, 116, 32, 111, 102, 32, 114, 97, 110, 103, 101]⟩] 168, .cells #[.string ⟨#[105, 110, 118, 97, 108, 105, 100, 32, 115, 121, 110, 116, 97, 120]⟩] 168], #[], []⟩ with heap := (((((World.holding Tryd.prog os ⟨#[.cells #[.string ⟨#[118, 97, 108, 117, 101, 32, 111, 117, 116, 32, 111, 102, 32, 114, 97, 110, 103, 101]⟩] 168, .cells #[.string ⟨#[105, 110, 118, 97, 108, 105, 100, 32, 115, 121, 110, 116, 97, 120]⟩] 168], #[], []⟩).heap.modify 0 (laidT .u8 (Lib.deBruijn32tab.map (fun n => ((n : Nat) : Int))))).modify 4 (laidT .u8 (Lib.deBruijn64tab.map (fun n => ((n : Nat) : Int))))).modify 1 (laidT .u64 Lib.pow10Tab)).modify 3 (laidE (World.holding Tryd.prog default ⟨#[], #[], []⟩).heap.size)).modify 2 (laidE ((World.holding Tryd.prog default ⟨#[], #[], []⟩).heap.size + 1)) }) :
    ∃ (w : World) (tape : Tape) (i : Input), w.os = os ∧ (w.forCall tape i).Shaped Tryd.checked.prog ∧ i.vars = [] ∧ Input.okWide Tryd.checked.prog (w.forCall tape i) .any w.heap.size 8 i ∧
      (OpenSpec.ofChange Rows.fnExactReadValueSpec).preRow enc Tryd.checked.prog Tryd.f8 Rows.fnExactReadValueRow.domain false Rows.fnExactReadValueRow.laid (w.forCall tape i).memory i.args ∧ ({ modest := false } : Assume).holds Tryd.checked.prog (lone (Frame.enter Tryd.checked.prog 8 i.args .normal) [] (w.forCall tape i)) := by
  exact witness_row_at (enc := enc) (C := Tryd.checked) false w0 #[.string ⟨#[]⟩] (by subst e; rfl) (by subst e; kernel_rfl) (by subst e; kernel_rfl) (by subst e; kernel_rfl)
    (OpenSpec.preRow_of_cond (x := ([.lit (.string [])], [], [])) 8 (by subst e; kernel_rfl) (by subst e; kernel_rfl) (fun k hk => by cases hk) (by subst e; kernel_rfl) (laidMet_of_run' 8 (by subst e; kernel_rfl) (by subst e; kernel_rfl)))

set_option maxRecDepth 100000 in
theorem liftedRV (os : Os) (started : os.Started) (H : Type) (enc : TypeId × Value → H) (F : Stop.Interp) :
    ReturnsInHanded {} Tryd.checked os 8 .any ((OpenSpec.ofChange Rows.fnExactReadValueSpec).preRow enc Tryd.prog Tryd.f8 Rows.fnExactReadValueRow.domain false Rows.fnExactReadValueRow.laid) (((OpenSpec.ofChange Rows.fnExactReadValueSpec).at F).post enc Tryd.prog Tryd.f8 false true false false) := by
  refine returnsInHanded_of_row (C := Tryd.checked) (s := OpenSpec.ofChange Rows.fnExactReadValueSpec) knobsV started (by kernel_rfl) Tryd.func8 (witnessRV os enc _ rfl) ?_
  intro W base args ds gs before hval hW _ _ _ hL _ _
  exact contractRV H enc W base args ds gs before hval hW (pow_of hL) (errS_of hL) (errR_of hL)

theorem saidRV : Rows.FnExactReadValueSaid :=
  OpenClaim.holds_of_cond 8 Tryd.f8 rfl rfl rfl rfl rfl rfl rfl ⟨rfl, rfl, rfl, rfl, rfl⟩ rfl rfl rfl rfl rfl (by kernel_rfl) Tryd.func8 (by kernel_rfl)
    (of_decide_eq_true (by kernel_rfl)) (by unfold Func.isWrapper; first | (rw [if_pos (by decide +kernel)]; kernel_rfl) | (rw [if_neg (by decide +kernel)]; exact ⟨rfl, rfl⟩))
    (fun os started H enc _ F => by rw [OpenClaim.pre_eq_preRow]; exact liftedRV os started H enc F)

theorem plainRV (f : FuncId) (fn : Func) (hf : Tryd.pinned.checked.prog.funcNamed "loop.example/s0011/laws.FnExactReadValue" = some f) (hfn : Tryd.pinned.checked.prog.funcs[f]? = some fn) :
    Rows.fnExactReadValueCard.stood.looks = Tryd.pinned.checked.prog.looks [] ∧ ∀ (j : Nat) t, fn.params[j]? = some t → Tryd.pinned.checked.prog.wantsStandIn t = false := by
  obtain rfl : f = 8 := Option.some.inj ((show Tryd.prog.funcNamed "loop.example/s0011/laws.FnExactReadValue" = some 8 by kernel_rfl).symm.trans hf) |>.symm
  obtain rfl : fn = Tryd.f8 := (Option.some.inj (Tryd.func8.symm.trans hfn)).symm
  refine ⟨by kernel_rfl, fun j t ht => ?_⟩
  rw [Tryd.params8] at ht
  obtain rfl : t = 9 := by simpa using Array.mem_of_getElem? ht
  exact (show Tryd.prog.wantsStandIn 9 = false by kernel_rfl)

theorem cardRV : Rows.FnExactReadValueCardSaid :=
  Claim7.holds_tied_plain_at .later [] _ _ _ _ saidRV (fun _ h => by cases h) (by kernel_rfl) (fun _ h => by cases h) fnExactReadValue_row_tie rfl ⟨rfl, rfl⟩ (by kernel_rfl) rfl plainRV (by kernel_rfl)
end Go.Proofs.YtnmpkdmflijhpaaDoor
