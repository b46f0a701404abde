import Derived.Test.YtalgidagiojbpaaGreatDoorQGB1
import Derived.Test.YtalgidagiojbpaaGreatDoorQGSb
/- The program's stack of phrases in memory. -/
namespace Go.Proofs.YtalgidagiojbpaaGreatDoor
open Go Go.RowKit
def phV (l : List Ph) : List Value := l.flatMap fun p => [.string p.t, .int .i64 p.lv, .int .i64 p.d]
theorem phV_len (l : List Ph) : (phV l).length = l.length * 3 := by
 induction l with
 | nil => rfl
 | cons p r ih => simp only [phV, List.flatMap_cons, List.length_append, List.length_cons, List.length_nil] at *; omega
theorem phV_append (l r : List Ph) : phV (l ++ r) = phV l ++ phV r := by simp [phV]
theorem phV_get (l : List Ph) (k : Nat) (h : k < l.length) : (phV l)[k * 3]? = some (.string l[k].t) /\ (phV l)[k * 3 + 1]? = some (.int .i64 l[k].lv) /\ (phV l)[k * 3 + 2]? = some (.int .i64 l[k].d) := by
 induction l generalizing k with
 | nil => cases h
 | cons p r ih =>
  cases k with
  | zero => exact ⟨rfl, rfl, rfl⟩
  | succ k =>
   have := ih k (by simpa using h)
   rw [show (k + 1) * 3 = k * 3 + 1 + 1 + 1 by omega]
   simpa [phV] using this
theorem phV_take (l : List Ph) (k : Nat) : (phV l).take (k * 3) = phV (l.take k) := by
 induction l generalizing k with
 | nil => simp [phV]
 | cons p r ih =>
  cases k with
  | zero => simp [phV]
  | succ k =>
   rw [show (k + 1) * 3 = k * 3 + 1 + 1 + 1 by omega]
   have := ih k
   simp only [phV, List.flatMap_cons, List.take_succ_cons] at *
   simp [this]
theorem info_ph : (Tryz.prog.info? 230).map (fun i => (i.zero, i.size, i.bytes)) = some (some (.agg #[.string ⟨#[]⟩, .int .i64 0, .int .i64 0]), 3, 32) := by kernel_rfl
/-- The slice v holds these phrases, in memory of its own. -/
def StkV (w : World) (B : Nat) (v : Value) (l : List Ph) : Prop := w.ownsRow B 230 3 v l.length (phV l)
theorem StkV.shape {w : World} {B : Nat} {v : Value} {l : List Ph} (h : StkV w B v l) : ∃ a cap, v = .slice a l.length cap /\ l.length <= cap /\ (a = none -> l = [] /\ cap = 0) /\ (∀ g o f, a = some ⟨g, o, f⟩ -> o = 0 /\ f = none /\ B <= g /\ g < w.heap.size) := by
 rcases h.2 with ⟨rfl, h0⟩ | ⟨g, cap, cur, rfl, hb, hg, hc, -, hs, htake⟩
 . exact ⟨none, 0, by rw [h0], by omega, fun _ => ⟨List.length_eq_zero_iff.1 h0, rfl⟩, fun _ _ _ h => by cases h⟩
 . exact ⟨_, cap, rfl, hc, fun h => (by cases h), fun g' o f h => by cases h; exact ⟨rfl, rfl, hb, (Array.getElem?_eq_some_iff.1 hg).1⟩⟩
theorem StkV.cell {w : World} {B : Nat} {g cap : Nat} {l : List Ph} (h : StkV w B (.slice (some ⟨g, 0, none⟩) l.length cap) l) (j : Nat) (hj : j < l.length * 3) : w.cell? ⟨g, j, none⟩ = (phV l)[j]? := World.ownsRow.cellAt (show w.ownsRow B 230 3 _ _ _ from h) j hj
/-- What stands at and behind place r, as a slice of its own. -/
theorem StkV.from {w : World} {B : Nat} {a : Option Addr} {cap : Nat} {l : List Ph} (h : StkV w B (.slice a l.length cap) l) (r : Nat) (hr : r <= l.length) :
 Phs w (if cap = r then a else a.map (·.add (r * 3))) (l.drop r) := by
 intro k hk
 rw [List.length_drop] at hk
 obtain ⟨a', cap', e, hc, hn, hs⟩ := h.shape
 simp only [Value.slice.injEq, true_and] at e
 obtain ⟨rfl, rfl⟩ := e
 cases a with
 | none => obtain ⟨rfl, -⟩ := hn rfl; simp at hk
 | some ad =>
  obtain ⟨g, o, f⟩ := ad
  obtain ⟨rfl, rfl, -, hlt⟩ := hs g o f rfl
  rw [if_neg (by omega)]
  refine ⟨g, r * 3, by simp [Addr.add]; omega, ?_⟩
  have hg := phV_get l (r + k) (by omega)
  rw [List.getElem_drop]
  exact ⟨hlt, by rw [<- Nat.add_mul, h.cell _ (by omega)]; exact hg.1, by rw [<- Nat.add_mul, h.cell _ (by omega)]; exact hg.2.1, by rw [<- Nat.add_mul, h.cell _ (by omega)]; exact hg.2.2⟩
/-- The first r of them, in the same memory. -/
theorem StkV.upto {w : World} {B : Nat} {a : Option Addr} {cap : Nat} {l : List Ph} (h : StkV w B (.slice a l.length cap) l) (r : Nat) (hr : r <= l.length) : StkV w B (.slice a r cap) (l.take r) := by
 have hl : (l.take r).length = r := by rw [List.length_take]; omega
 unfold StkV
 rw [hl]
 refine ⟨by rw [phV_len, hl], ?_⟩
 rcases h.2 with ⟨e, h0⟩ | ⟨g, cap', cur, e, hb, hg, hc, hx, hs, htake⟩
 . simp only [Value.slice.injEq] at e
   obtain ⟨rfl, -, rfl⟩ := e
   exact .inl ⟨by rw [show r = 0 by omega], by omega⟩
 . simp only [Value.slice.injEq, true_and] at e
   obtain ⟨rfl, rfl⟩ := e
   refine .inr ⟨g, cap, cur, rfl, hb, hg, by omega, hx, hs, ?_⟩
   rw [<- phV_take, <- htake, List.take_take, Nat.min_eq_left (by omega)]
theorem StkV.mono {w w' : World} {B : Nat} {v : Value} {l : List Ph} (h : StkV w B v l) (hb : Below w.heap.size w w') : StkV w' B v l := by
 refine ⟨h.1, ?_⟩
 rcases h.2 with h' | ⟨g, cap, cur, e, hB, hg, hc, hx, hs, htake⟩
 . exact .inl h'
 . exact .inr ⟨g, cap, cur, e, hB, (hb.block g (Array.getElem?_eq_some_iff.1 hg).1).trans hg, hc, hx, hs, htake⟩
theorem StkV.other {w : World} {B : Nat} {v : Value} {l : List Ph} (h : StkV w B v l) {b : Nat} (hb : v.ownBlock ≠ some b) (j : Nat) (u : Value) : StkV (w.setCell ⟨b, j, none⟩ u) B v l := by
 refine ⟨h.1, ?_⟩
 rcases h.2 with h' | ⟨g, cap, cur, e, hB, hg, hc, hx, hs, htake⟩
 . exact .inl h'
 . refine .inr ⟨g, cap, cur, e, hB, (heap_setCell_other w ⟨b, j, none⟩ g u ?_).trans hg, hc, hx, hs, htake⟩
   rintro rfl
   exact hb (by rw [e]; rfl)
theorem take_reverse_drop {α : Type} (l : List α) (k : Nat) (h : k <= l.length) : l.reverse.drop (l.length - k) = (l.take k).reverse := by
 rw [List.drop_reverse]; congr 1; congr 1; omega
theorem take_reverse_take {α : Type} (l : List α) (k : Nat) (h : k <= l.length) : l.reverse.take (l.length - k) = (l.drop k).reverse := by
 rw [List.take_reverse]; congr 1; congr 1; omega
end Go.Proofs.YtalgidagiojbpaaGreatDoor
/- The program prints a list of nodes, and says whether it is a valid expression. -/
namespace Go.Proofs.YtalgidagiojbpaaGreatDoor
open Go Go.RowKit
theorem tot_rev_take (e : Nat -> Nx) (k A : Nat) : tot ((pst e k).take A).reverse <= tot (pst e k) := by rw [tot_reverse]; exact tot_take _ _
theorem mx_rev_take (e : Nat -> Nx) (k A : Nat) : mx ((pst e k).take A).reverse <= k := by rw [mx_reverse]; exact mx_take_le e k A
theorem cells_ph (w : World) (p : Ph) : ∀ (j : Nat) (u : Value), (phV [p])[j]? = some u -> (w.alloc (.cells #[.string p.t, .int .i64 p.lv, .int .i64 p.d] 230)).cell? ((⟨w.heap.size, 0, none⟩ : Addr).add j) = some u := fun j u h => by
 have hb := Blk.new w 230 #[.string p.t, .int .i64 p.lv, .int .i64 p.d]
 match j, h with
 | 0, h => simp [phV] at h; subst h; exact hb.cell 0
 | 1, h => simp [phV] at h; subst h; exact hb.cell 1
 | 2, h => simp [phV] at h; subst h; exact hb.cell 2
/-- An append in a drawn region. -/
theorem run_append_op {P : Program} {a : Act} {o : Oper} {w w' : World} {s x : Operand} {t : TypeId} {v u v' : Value} (ho : o.op = .call { callee := .builtin .append, args := #[s, x], argTypes := #[t, t] }) (hs : a.eval s = v) (hx : a.eval x = u) (hr : (Builtin.append_ #[t, t] o.type #[v, u]).run P w = .ok v' w') : (execOp a.eval o).run P w = .ok (.value v') w' := by
 unfold execOp
 simp only [ho, resolve, invoke, builtin, Sem.run_bind, Sem.run_pure, Result.andThen_ok, List.map_toArray, List.map_cons, List.map_nil, hs, hx, hr]
set_option maxRecDepth 100000 in
set_option maxHeartbeats 16000000 in
theorem printed_any (a : Option Addr) (m c : Nat) (e : Nat -> Nx) (w : World) (hm : m <= 9223372036854775807) (ha : Nods w a m e) (hf : ∀ k, k < m -> Fit (e k)) (hw : Wrds w) (hp : Pow w) :
 Calls Tryz.prog 198 #[.slice a m c] w fun r w' => r = .returned (.tuple #[.string (if vxB e m then (top e m).t else ⟨#[]⟩), .bool (vxB e m)]) /\ Below w.heap.size w w' := by
 by_cases h2 : 1000 < m
 . rw [vxB_no fun h => by have := h.2.1; omega]
   go_enter Tryz.func198, Tryz.ntmps198
   go_wp2_with fail
   go_ret2
   exact ⟨rfl, Below.refl _ _⟩
 have HA := h_ ha; have HF := h_ hf; have HW := h_ hw; have HP := h_ hp
 obtain ⟨r, hr⟩ : ∃ r, vxB e m = r := ⟨_, rfl⟩
 obtain ⟨t, ht⟩ : ∃ t, (if vxB e m then (top e m).t else ⟨#[]⟩) = t := ⟨_, rfl⟩
 rw [ht, hr]
 have HR := h_ hr
 have HN : Hid (¬ vEx e m -> r = false /\ t = ⟨#[]⟩) := h_ fun h => by rw [<- hr, <- ht, vxB_no h]; exact ⟨rfl, rfl⟩
 have HY : Hid (vEx e m -> r = true /\ t = (top e m).t) := h_ fun h => by rw [<- hr, <- ht, (vxB_iff e m).2 h]; exact ⟨rfl, rfl⟩
 clear ha hf hr ht hw hp
 go_enter Tryz.func198, Tryz.ntmps198
 go_wp2_with fail
 obtain ⟨B, hB⟩ : ∃ B, w.heap.size = B := ⟨_, rfl⟩
 go_loopw [4, 6, 7, 8, 14] (fun v _ _ _ i wr => ∃ k : Nat, k <= m /\ i = .int .i64 k /\ StkV wr B v (pst e k).reverse /\ okAll e k /\ stkOk e k /\ (∀ j, 1 <= j -> j <= k -> (top e j).d <= 64 /\ (top e j).t.size <= 4000) /\ Below B w wr) (fun _ _ _ _ i _ => m - (intOf i).toNat)
 case atStart => exact ⟨0, Nat.zero_le _, rfl, ⟨rfl, .inl ⟨rfl, rfl⟩⟩, fun k hk => absurd hk (Nat.not_lt_zero _), fun k hk => absurd hk (Nat.not_lt_zero _), fun j h1 h0 => by omega, by rw [<- hB]; exact Below.refl _ _⟩
 case round =>
  obtain ⟨k, hk, rfl, hst, hok, hso, hlim, hb⟩ := hrel
  have HST := h_ hst; have HOK := h_ hok; have HSO := h_ hso; have HLM := h_ hlim; have HB := h_ hb
  have HV := h_ ((u_ HA).mono (hb.mono (by omega))); have HWr := h_ ((u_ HW).mono (hb.mono (by omega))); have HPr := h_ ((u_ HP).mono (hb.mono (by omega)))
  have hBw := hb.size
  clear hst hok hso hlim hb
  have hlr : (pst e k).reverse.length = (stk e k).length := by rw [List.length_reverse, pst_len]
  obtain ⟨sa, cap, rfl, hcap, hnone, hsome⟩ := (u_ HST).shape
  rw [hlr] at hcap
  rw [hlr]
  have HSH : Hid (StkV wr B (.slice sa (stk e k).length cap) (pst e k).reverse) := h_ (by have := u_ HST; rw [hlr] at this; exact this)
  have HSM := h_ hsome
  clear HST hnone hsome hlr
  have hsl := stk_len e k
  obtain ⟨L, hL⟩ : ∃ L, (stk e k).length = L := ⟨_, rfl⟩
  rw [hL] at HSH hcap hsl ⊢
  have HL := h_ hL
  clear hL
  by_cases hlt : k < m
  . have hlt' : (k : Int) < m := by omega
    obtain ⟨b, o, rfl, -, c0, c1, c2, c3, c4⟩ := u_ HV k hlt
    have HK := h_ (Blk.new wr 149 #[.int .i64 (e k).op, .int .i64 (e k).v.k, .int .i64 (e k).v.n, .string (e k).v.s, .string (e k).nm])
    have HBn := h_ ((Below.refl wr.heap.size wr).alloc (Nat.le_refl _) (.cells #[.int .i64 (e k).op, .int .i64 (e k).v.k, .int .i64 (e k).v.n, .string (e k).v.s, .string (e k).nm] 149))
    obtain ⟨Wn, hWn⟩ : ∃ Wn, wr.alloc (.cells #[.int .i64 (e k).op, .int .i64 (e k).v.k, .int .i64 (e k).v.n, .string (e k).v.s, .string (e k).nm] 149) = Wn := ⟨_, rfl⟩
    rw [hWn] at HK HBn
    obtain ⟨y0, y1, y2, y3, y4⟩ := five (u_ HK)
    go_wp2_with fail
    try rw [hWn]
    refine (isNode_any (e k) _ (u_ HF k hlt)).mono ?_
    rintro x w1 ⟨rfl, hb⟩
    replace HK := mB HK hb; replace HBn := mT HBn hb
    clear hb c0 c1 c2 c3 c4 y0 y1 y2 y3 y4 hWn
    obtain ⟨y0, y1, y2, y3, y4⟩ := five (u_ HK)
    cases hg : okNode (e k)
    . have HX := h_ (u_ HN fun h => by have := h.2.2.1 k hlt; rw [hg] at this; cases this)
      go_wp2_with fail
      go_ret2
      exact ⟨by rw [(u_ HX).1, (u_ HX).2]; rfl, by rw [hB]; exact (u_ HB).trans ((u_ HBn).mono (by omega))⟩
    have HOK2 : Hid (okAll e (k + 1)) := h_ fun j hj => by
     by_cases ej : j = k
     . subst ej; exact hg
     . exact u_ HOK j (by omega)
    have HG := h_ hg
    clear hg
    go_wp2_with fail
    refine (operandsTaken_any (e k) _).mono ?_
    rintro x w2 ⟨rfl, hb⟩
    replace HK := mB HK hb; replace HBn := mT HBn hb
    clear hb y0 y1 y2 y3 y4
    obtain ⟨y0, y1, y2, y3, y4⟩ := five (u_ HK)
    have har := arn_le (e k)
    obtain ⟨A, hA⟩ : ∃ A, arn (e k) = A := ⟨_, rfl⟩
    by_cases hgt : L < A
    . have hgt' : (L : Int) < A := by omega
      have HX := h_ (u_ HN fun h => by have := h.2.2.2.1 k hlt; rw [u_ HL, hA] at this; omega)
      rw [hA]
      clear hA
      go_wp2_with fail
      go_ret2
      exact ⟨by rw [(u_ HX).1, (u_ HX).2]; rfl, by rw [hB]; exact (u_ HB).trans ((u_ HBn).mono (by omega))⟩
    have hgt' : ¬ (L : Int) < A := by omega
    have HSO2 : Hid (stkOk e (k + 1)) := h_ fun j hj => by
     by_cases ej : j = k
     . subst ej; rw [u_ HL, hA]; omega
     . exact u_ HSO j (by omega)
    rw [hA] at har ⊢
    have HAe := h_ hA
    clear hA
    go_wp2_with fail
    refine (show Calls Tryz.prog 204 #[nv (e k)] w2 fun r w' => r = .returned (.int .i64 (A : Int)) /\ Below w2.heap.size w2 w' from by rw [<- u_ HAe]; exact operandsTaken_any (e k) _).mono ?_
    rintro x w3 ⟨rfl, hb⟩
    replace HK := mB HK hb; replace HBn := mT HBn hb
    clear hb y0 y1 y2 y3 y4
    obtain ⟨y0, y1, y2, y3, y4⟩ := five (u_ HK)
    have hwL : wrap64 ((L : Int) - (A : Int)) = ((L - A : Nat) : Int) := by rw [wrap64_small (by omega) (by omega)]; omega
    obtain ⟨R, hR⟩ : ∃ R, L - A = R := ⟨_, rfl⟩
    rw [hR] at hwL
    have hLA : (L : Int) - (A : Int) = (R : Int) := by omega
    have HLR : Hid (L - R = A) := h_ (by omega)
    have hR1 : R <= L := by omega
    have HAr : Hid (((pst e k).take A).reverse = (pst e k).reverse.drop R) := h_ (by
     have h1 : (pst e k).length = L := by rw [pst_len]; exact u_ HL
     rw [<- take_reverse_drop (pst e k) A (by omega), h1, hR])
    have HRr : Hid (((pst e k).drop A).reverse = (pst e k).reverse.take R) := h_ (by
     have h1 : (pst e k).length = L := by rw [pst_len]; exact u_ HL
     rw [<- take_reverse_take (pst e k) A (by omega), h1, hR])
    have HTP : Hid (top e (k + 1) = phr (e k) ((pst e k).take A).reverse) := h_ (by rw [top_succ, u_ HAe])
    have HPS : Hid ((pst e (k + 1)).reverse = (pst e k).reverse.take R ++ [top e (k + 1)]) := h_ (by
     rw [show pst e (k + 1) = top e (k + 1) :: (pst e k).drop (arn (e k)) from rfl, List.reverse_cons, u_ HAe, u_ HRr])
    have HTT : Hid (tot ((pst e k).take A).reverse <= 2000000 /\ mx ((pst e k).take A).reverse <= 1000) := h_ (by
     have h1 := tot_rev_take e k A
     have h2 := (tot_pst e k (u_ HSO) (u_ HOK) (fun j hj => (u_ HF j (by omega)).2.2.2)).2
     have h3 := mx_rev_take e k A
     omega)
    have HLA : Hid (((pst e k).take A).reverse.length = arn (e k)) := h_ (by rw [List.length_reverse, List.length_take, pst_len, u_ HL, u_ HAe]; omega)
    have HSW := h_ ((u_ HSH).mono (u_ HBn)); have HWw := h_ ((u_ HWr).mono (u_ HBn)); have HPw := h_ ((u_ HPr).mono (u_ HBn))
    have HBw := h_ ((u_ HB).trans ((u_ HBn).mono (show B <= wr.heap.size by omega)))
    obtain ⟨ao, hao⟩ : ∃ ao, (if cap = R then sa else sa.map (·.add (R * 3))) = ao := ⟨_, rfl⟩
    have HPh : Hid (Phs w3 ao ((pst e k).take A).reverse) := h_ (by
     have h1 : (pst e k).reverse.length = L := by rw [List.length_reverse, pst_len]; exact u_ HL
     have h2 := u_ HSW
     rw [<- h1] at h2
     have h3 := h2.from R (by omega)
     rw [hao] at h3
     rw [u_ HAr]; exact h3)
    have hNs := (u_ HBn).size
    have hNw : wr.heap.size < w3.heap.size := (u_ HK).lt
    have HNX : Hid (∀ X, wr.heap.size <= X -> (Value.slice sa L cap).ownBlock ≠ some X) := h_ fun X hX h => by
     cases sa with
     | none => cases h
     | some ad => obtain ⟨g, o', f⟩ := ad; have h : g = X := by simpa [Value.ownBlock] using h
                  have := (u_ HSM g o' f rfl).2.2.2; omega
    have hBN : B <= wr.heap.size := by omega
    obtain ⟨N, hN⟩ : ∃ N, wr.heap.size = N := ⟨_, rfl⟩
    rw [hN] at hBN HK HNX hNw y0 y1 y2 y3 y4 ⊢
    clear hN hR HAr HRr HSH HBn HB HWr HPr HV HSM HA hNs hBw
    go_wp2_with fail
    refine wp_region_held_drew (S := fun w' => w'.cell? ⟨N, 0, none⟩ = some (.int .i64 (e k).op) /\ w'.cell? ⟨N, 1, none⟩ = some (.int .i64 (e k).v.k) /\ w'.cell? ⟨N, 2, none⟩ = some (.int .i64 (e k).v.n) /\ w'.cell? ⟨N, 3, none⟩ = some (.string (e k).v.s) /\ w'.cell? ⟨N, 4, none⟩ = some (.string (e k).nm)) (by kernel_rfl) ⟨y0, y1, y2, y3, y4⟩ (fun hHeld => ?_)
    clear y0 y1 y2 y3 y4
    refine tk (i := 0) (v := .agg #[.int .i64 (e k).op, .int .i64 (e k).v.k, .int .i64 (e k).v.n, .string (e k).v.s, .string (e k).nm]) 33 hHeld ?_
    simp only [s1', s2', s3']
    refine tk (i := 1) (v := .slice sa L cap) 34 hHeld ?_
    simp only [s1', s2', s3']
    refine tk (i := 2) (v := .int .i64 (R : Int)) 35 hHeld ?_
    simp only [s1', s2', s3']
    refine tk (i := 3) (v := .slice ao A (cap - R)) 36 hHeld ?_ (hy := fun w hS => by have hLR := u_ HLR; simp [execOp, go_sem, *])
    simp only [s1', s2', s3']
    have hcall : ∀ W : World, Phs W ao ((pst e k).take A).reverse -> Wrds W -> Pow W -> Calls Tryz.prog 205 #[.agg #[.int .i64 (e k).op, .int .i64 (e k).v.k, .int .i64 (e k).v.n, .string (e k).v.s, .string (e k).nm], .slice ao A (cap - R)] W fun r w' => r = .returned (pv (top e (k + 1))) /\ Below W.heap.size W w' := fun W h1 h2 h3 => by
     rw [u_ HTP, <- u_ HAe]
     rw [<- u_ HAe] at h1
     have hh := phraseOf_any (e k) ao (cap - R) ((pst e k).take (arn (e k))).reverse W (u_ HG) (u_ HF k hlt) (by rw [u_ HAe]; exact (u_ HLA).trans (u_ HAe)) h1 (by rw [u_ HAe]; exact (u_ HTT).1) (by rw [u_ HAe]; exact (u_ HTT).2) h2 h3
     exact hh
    have HC := h_ hcall
    clear hcall HTP HLA HTT
    obtain ⟨p, hp⟩ : ∃ p, top e (k + 1) = p := ⟨_, rfl⟩
    rw [hp] at HC HPS
    have HTE := h_ hp
    clear hp
    have HD0 : Hid (Below w3.heap.size w3 w3.drew) := h_ ((Below.refl _ _).drew)
    refine wpAnyH_ready (rs := [4, 5]) (by kernel_rfl) (by simp) (consCall (f := 205) (args := #[.agg #[.int .i64 (e k).op, .int .i64 (e k).v.k, .int .i64 (e k).v.n, .string (e k).v.s, .string (e k).nm], .slice ao A (cap - R)]) (R := fun r wz => r = pv p /\ Below w3.heap.size w3 wz) 37 rfl rfl (by rfl) ?hrun1 ((u_ HC _ ((u_ HPh).mono (u_ HD0)) ((u_ HWw).mono (u_ HD0)) ((u_ HPw).mono (u_ HD0))).mono fun e w6 ⟨he, hb⟩ => ⟨_, he, rfl, below_of_drew hb⟩) ?pB (consRun (v := .pointer (some ⟨w3.heap.size, 0, none⟩)) (w' := w3.drew.alloc (.cells #[.string ⟨#[]⟩, .int .i64 0, .int .i64 0] 230)) 8 rfl rfl (by rfl) ?hrun2 ?hS2 ?pA AllReadyH.nil))
    case hrun1 => simp [execOp, go_sem]
    case hrun2 => simp [execOp, go_sem]
    case hS2 =>
     obtain ⟨z0, z1, z2, z3, z4⟩ := five (((u_ HK).mono (u_ HD0) (u_ HK).lt).alloc (.cells #[.string ⟨#[]⟩, .int .i64 0, .int .i64 0] 230))
     exact ⟨z0, z1, z2, z3, z4⟩
    case' pB =>
     rintro r3 W4 ⟨rfl, hb⟩
     have hK4 := (u_ HK).mono hb (u_ HK).lt
     have hS4 := (u_ HSW).mono hb
     have hB4 := (u_ HBw).trans (hb.mono (by have := (u_ HBw).size; omega))
     have hN4 : w3.heap.size <= W4.heap.size := hb.size
     clear hb hHeld
     obtain ⟨z0, z1, z2, z3, z4⟩ := five hK4
     refine ⟨⟨z0, z1, z2, z3, z4⟩, ?_⟩
     clear z0 z1 z2 z3 z4
     simp only [s1', s2', s3']
     have hK5 := hK4.alloc (.cells #[.string ⟨#[]⟩, .int .i64 0, .int .i64 0] 230)
     have hX5 := Blk.new W4 230 #[.string ⟨#[]⟩, .int .i64 0, .int .i64 0]
     have hS5 := hS4.mono ((Below.refl W4.heap.size W4).alloc (Nat.le_refl _) (.cells #[.string ⟨#[]⟩, .int .i64 0, .int .i64 0] 230))
     have hB5 := hB4.alloc (by have := hB4.size; omega) (.cells #[.string ⟨#[]⟩, .int .i64 0, .int .i64 0] 230)
     obtain ⟨z0, z1, z2, z3, z4⟩ := five hK5
     refine wpAnyH_ready (rs := [5]) (by kernel_rfl) (by simp) (consRun (v := .pointer (some ⟨W4.heap.size, 0, none⟩)) (w' := W4.alloc (.cells #[.string ⟨#[]⟩, .int .i64 0, .int .i64 0] 230)) 8 rfl rfl (by rfl) ?hrun3 ⟨z0, z1, z2, z3, z4⟩ ?pB2 AllReadyH.nil)
     case hrun3 => simp [execOp, go_sem]
     simp only [s1', s2', s3']
     clear z0 z1 z2 z3 z4 hK4 hS4 hB4
     obtain ⟨X, hX⟩ : ∃ X, W4.heap.size = X := ⟨_, rfl⟩
     obtain ⟨W6, hW6⟩ : ∃ W6, W4.alloc (.cells #[.string ⟨#[]⟩, .int .i64 0, .int .i64 0] 230) = W6 := ⟨_, rfl⟩
     rw [hW6] at hK5 hX5 hS5 hB5 ⊢
     rw [hX] at hX5 hN4 ⊢
     clear hW6 hX
     have hNX : N < X := by omega
    case' pA =>
     simp only [s1', s2', s3']
     have hbA : Below w3.heap.size w3 (w3.drew.alloc (.cells #[.string ⟨#[]⟩, .int .i64 0, .int .i64 0] 230)) := below_of_drew ((Below.refl w3.heap.size w3.drew).alloc (Nat.le_refl _) _)
     have hX4 := Blk.new w3.drew 230 #[.string ⟨#[]⟩, .int .i64 0, .int .i64 0]
     obtain ⟨W5, hW5⟩ : ∃ W5, w3.drew.alloc (.cells #[.string ⟨#[]⟩, .int .i64 0, .int .i64 0] 230) = W5 := ⟨_, rfl⟩
     rw [hW5] at hbA hX4 ⊢
     replace hX4 : Blk W5 w3.heap.size 230 [.string ⟨#[]⟩, .int .i64 0, .int .i64 0] := hX4
     clear hW5 hHeld
     refine wpAnyH_ready (rs := [4]) (by kernel_rfl) (by simp) (consCall (f := 205) (args := #[.agg #[.int .i64 (e k).op, .int .i64 (e k).v.k, .int .i64 (e k).v.n, .string (e k).v.s, .string (e k).nm], .slice ao A (cap - R)]) (R := fun r wz => r = pv p /\ Below W5.heap.size W5 wz) 37 rfl rfl (by rfl) ?hrun4 ((u_ HC _ ((u_ HPh).mono hbA) ((u_ HWw).mono hbA) ((u_ HPw).mono hbA)).mono fun e w6 ⟨he, hb⟩ => ⟨_, he, rfl, hb⟩) ?pA2 AllReadyH.nil)
     case hrun4 => simp [execOp, go_sem]
     rintro r3 W6 ⟨rfl, hb⟩
     have hK5 := ((u_ HK).mono hbA (u_ HK).lt).mono hb ((u_ HK).mono hbA (u_ HK).lt).lt
     have hX5 := hX4.mono hb hX4.lt
     have hS5 := ((u_ HSW).mono hbA).mono hb
     have hBA := (u_ HBw).trans (hbA.mono (by have := (u_ HBw).size; omega))
     have hB5 := hBA.trans (hb.mono (by have := hBA.size; omega))
     obtain ⟨z0, z1, z2, z3, z4⟩ := five hK5
     refine ⟨⟨z0, z1, z2, z3, z4⟩, ?_⟩
     simp only [s1', s2', s3']
     clear z0 z1 z2 z3 z4 hb hbA hX4 hBA
     have hN4 : w3.heap.size <= w3.heap.size := Nat.le_refl _
     obtain ⟨X, hX⟩ : ∃ X, w3.heap.size = X := ⟨_, rfl⟩
     rw [hX] at hX5 hN4 hNw ⊢
     clear hX
     have hNX : N < X := by omega
    all_goals
     clear HPh HWw HPw HC HD0 HK HSW HBw
     obtain ⟨z0, z1, z2, z3, z4⟩ := five hK5
     obtain ⟨r0, r1, r2⟩ := three hX5
     have f0 := hX5.free 0; have f1 := hX5.free 1; have f2 := hX5.free 2
     have far : ∀ (w' : World) (j i : Nat) (u : Value), (w'.setCell ⟨X, j, none⟩ u).cell? ⟨N, i, none⟩ = w'.cell? ⟨N, i, none⟩ := fun w' j i u => World.cell?_of_block (w := w') (heap_setCell_other w' ⟨X, j, none⟩ N u (by simp; omega))
     unfold pv
     refine storeY (i := 6) (w' := (((W6.setCell ⟨X, 0, none⟩ (.string p.t)).setCell ⟨X, 1, none⟩ (.int .i64 p.lv)).setCell ⟨X, 2, none⟩ (.int .i64 p.d))) rfl (by rfl) (by kernel_rfl) rfl (by simp [execOp, go_sem, r0, r1, r2, f0, f1, f2]) rfl ⟨by rw [far, far, far]; exact z0, by rw [far, far, far]; exact z1, by rw [far, far, far]; exact z2, by rw [far, far, far]; exact z3, by rw [far, far, far]; exact z4⟩ ?_
     refine wpAnyH_done (by kernel_rfl) ?_ _
     have hXne := u_ HNX X (by omega)
     have hX9 := (((hX5.set 0 (.string p.t)).set 1 (.int .i64 p.lv)).set 2 (.int .i64 p.d))
     have hS9 := ((hS5.other hXne 0 (.string p.t)).other hXne 1 (.int .i64 p.lv)).other hXne 2 (.int .i64 p.d)
     have hB9 := (((hB5.setCell (p := ⟨X, 0, none⟩) (show B <= X by omega) (.string p.t)).setCell (p := ⟨X, 1, none⟩) (show B <= X by omega) (.int .i64 p.lv)).setCell (p := ⟨X, 2, none⟩) (show B <= X by omega) (.int .i64 p.d))
     obtain ⟨W9, hW9⟩ : ∃ W9, (((W6.setCell ⟨X, 0, none⟩ (.string p.t)).setCell ⟨X, 1, none⟩ (.int .i64 p.lv)).setCell ⟨X, 2, none⟩ (.int .i64 p.d)) = W9 := ⟨_, rfl⟩
     rw [hW9] at hX9 hS9 hB9 ⊢
     clear hW9 z0 z1 z2 z3 z4 r0 r1 r2 f0 f1 f2 far hK5 hX5 hS5 hB5
     have HX9 := h_ hX9; have HS9 := h_ hS9; have HB9 := h_ hB9
     obtain ⟨r0, r1, r2⟩ := three hX9
     clear hX9 hS9 hB9
     by_cases hbad : 64 < p.d ∨ 4000 < p.t.size
     . have HX := h_ (u_ HN fun h => by have := h.part (fun j hj => (u_ HF j hj).2.2.2) (show 1 <= k + 1 by omega) (show k + 1 <= m by omega); rw [u_ HTE] at this; omega)
       by_cases hd : 64 < p.d
       . have hd' : (64 : Int) < p.d := by omega
         clear hbad hd
         go_wp2_with fail
         go_ret2
         exact ⟨by rw [(u_ HX).1, (u_ HX).2]; rfl, by first | exact u_ HB9 | (rw [hB]; exact u_ HB9)⟩
       . have hd' : ¬ (64 : Int) < p.d := by omega
         have ht' : (4000 : Int) < p.t.size := by omega
         clear hbad hd
         go_wp2_with fail
         go_ret2
         exact ⟨by rw [(u_ HX).1, (u_ HX).2]; rfl, by first | exact u_ HB9 | (rw [hB]; exact u_ HB9)⟩
     have hd' : ¬ (64 : Int) < p.d := by omega
     have ht' : ¬ (4000 : Int) < p.t.size := by omega
     have HLM2 : Hid (∀ j, 1 <= j -> j <= k + 1 -> (top e j).d <= 64 /\ (top e j).t.size <= 4000) := h_ fun j h1 h2 => by
      by_cases ej : j = k + 1
      . subst ej; rw [u_ HTE]; omega
      . exact u_ HLM j h1 (by omega)
     clear hbad
     go_wp2_with fail
     refine wp_region_held_drew (S := fun W' => W'.cell? ⟨X, 0, none⟩ = some (.string p.t) /\ W'.cell? ⟨X, 1, none⟩ = some (.int .i64 p.lv) /\ W'.cell? ⟨X, 2, none⟩ = some (.int .i64 p.d)) (by kernel_rfl) ⟨r0, r1, r2⟩ (fun hHeld => ?_)
     clear r0 r1 r2
     refine tk (i := 0) (v := .slice sa L cap) 47 hHeld ?_
     simp only [s1', s2', s3']
     refine tk (i := 1) (v := .int .i64 (R : Int)) 48 hHeld ?_
     simp only [s1', s2', s3']
     refine tk (i := 2) (v := .slice sa R cap) 49 hHeld ?_ (hy := fun w hS => by have hc2 : (R : Int) <= cap := (by omega); simp [execOp, go_sem, *])
     simp only [s1', s2', s3']
     refine tk (i := 3) (v := .agg #[.string p.t, .int .i64 p.lv, .int .i64 p.d]) 50 hHeld ?_
     simp only [s1', s2', s3']
     have hD : Below W9.heap.size W9 (W9.drew.alloc (.cells #[.string p.t, .int .i64 p.lv, .int .i64 p.d] 230)) := below_of_drew ((Below.refl W9.heap.size W9.drew).alloc (Nat.le_refl _) _)
     have hXX := (u_ HX9).mono hD (u_ HX9).lt
     obtain ⟨r0, r1, r2⟩ := three hXX
     refine wpAnyH_ready (rs := [4]) (by kernel_rfl) (by simp) (consRun (v := .slice (some ⟨W9.heap.size, 0, none⟩) 1 1) (w' := W9.drew.alloc (.cells #[.string p.t, .int .i64 p.lv, .int .i64 p.d] 230)) 51 rfl rfl (by rfl) (by simp [execOp, go_sem]) ⟨r0, r1, r2⟩ ?_ AllReadyH.nil)
     simp only [s1', s2', s3']
     have hlr : (pst e k).reverse.length = L := by rw [List.length_reverse, pst_len]; exact u_ HL
     have hup : (W9.drew.alloc (.cells #[.string p.t, .int .i64 p.lv, .int .i64 p.d] 230)).ownsRow B 230 3 (.slice sa R cap) R (phV ((pst e k).reverse.take R)) := by
      have h1 := u_ HS9
      rw [<- hlr] at h1
      have h2 := (h1.upto R (by omega)).mono hD
      unfold StkV at h2
      rw [show ((pst e k).reverse.take R).length = R by rw [List.length_take]; omega] at h2
      exact h2
     have hnews := cells_ph W9.drew p
     obtain ⟨i0, hi, hz0, hz1, hz2⟩ := info_parts info_ph
     obtain ⟨v', w', hr, ho', hgr', -⟩ := run_append_own (P := Tryz.prog) (W9.drew.alloc (.cells #[.string p.t, .int .i64 p.lv, .int .i64 p.d] 230)) B 228 228 230 i0 _ 3 32 Tryz.underlying228 hi hz0 hz1 hz2 rfl (by omega) (.slice sa R cap) R _ hup ⟨W9.heap.size, 0, none⟩ 1 1 (phV [p]) rfl hnews (by simp [phV, Value.oneCell']) (by unfold maxLen; omega) (by omega) (by have := (u_ HB9).size; simp; omega)
     have hX3 := hXX.grown hgr' (fun h => hXne (by rw [show (Value.slice sa L cap).ownBlock = (Value.slice sa R cap).ownBlock by cases sa <;> rfl]; exact h.symm))
     have HB3 : Hid (Below B w w') := h_ (((u_ HB9).trans (hD.mono (by have := (u_ HB9).size; omega))).grown hgr' (by have := (u_ HB9).size; simp; omega) (fun q' hq => owns_block hup hq))
     have HS3 : Hid (StkV w' B v' (pst e (k + 1)).reverse) := h_ (by
      unfold StkV
      rw [u_ HPS, phV_append, List.length_append, show ((pst e k).reverse.take R).length = R by rw [List.length_take]; omega]
      exact ho')
     obtain ⟨q0, q1, q2⟩ := three hX3
     refine wpAnyH_ready (rs := [5]) (by kernel_rfl) (by simp) (consRun (v := v') (w' := w') 52 rfl rfl (by rfl) (run_append_op rfl rfl rfl hr) ⟨q0, q1, q2⟩ ?_ AllReadyH.nil)
     simp only [s1', s2', s3']
     replace hHeld : w'.cell? ⟨X, 0, none⟩ = some (.string p.t) /\ w'.cell? ⟨X, 1, none⟩ = some (.int .i64 p.lv) /\ w'.cell? ⟨X, 2, none⟩ = some (.int .i64 p.d) := ⟨q0, q1, q2⟩
     clear hr ho' hgr' hnews hup hX3 hXX hD hi hz0 hz1 hz2 r0 r1 r2 q0 q1 q2 hlr hao
     refine tk (i := 6) (v := v') 4 hHeld ?_
     simp only [s1', s2', s3']
     refine wpAnyH_done (by kernel_rfl) ?_ _
     clear hHeld
     go_wp2_with fail
     go_roundw
     case rel => first | exact ⟨k + 1, by omega, by go_num, u_ HS3, u_ HOK2, u_ HSO2, u_ HLM2, u_ HB3⟩ | ((repeat apply Exists.intro); exact ⟨⟨k + 1, by omega, by go_num, u_ HS3, u_ HOK2, u_ HSO2, u_ HLM2, u_ HB3⟩, rfl⟩)
     case measure => simp [intOf]; omega
  . obtain rfl : k = m := by omega
    have hlt' : ¬ (k : Int) < (k : Int) := by omega
    by_cases h1 : L = 1
    . subst h1
      have hone := u_ HL
      have hk1 : 1 <= k := by omega
      have hlm := u_ HLM k hk1 (Nat.le_refl _)
      have HX := h_ (u_ HY ⟨hk1, by omega, u_ HOK, u_ HSO, hone, hlm.1, hlm.2⟩)
      have hrev : (pst e k).reverse = [top e k] := by rw [pst_one hone]; rfl
      have hS := u_ HSH
      rw [hrev] at hS
      obtain ⟨a', cap', e1, -, hn', hs'⟩ := hS.shape
      simp only [List.length_cons, List.length_nil, Value.slice.injEq, true_and] at e1
      obtain ⟨rfl, rfl⟩ := e1
      cases sa with
      | none => exact absurd (hn' rfl).1 (by simp)
      | some ad =>
       obtain ⟨g, o', f⟩ := ad
       obtain ⟨rfl, rfl, -, -⟩ := hs' g o' f rfl
       have z0 := StkV.cell (l := [top e k]) hS 0 (by simp)
       simp only [phV, List.flatMap_cons, List.flatMap_nil, List.append_nil, List.getElem?_cons_zero] at z0
       clear hS hs' hn' hone hrev
       go_wp2_with fail
       go_ret2
       exact ⟨by rw [(u_ HX).1, (u_ HX).2]; rfl, by first | exact u_ HB | (rw [hB]; exact u_ HB)⟩
    . have HX := h_ (u_ HN fun h => h1 (by rw [<- u_ HL]; exact h.2.2.2.2.1))
      have h1' : ((L : Int) != 1) = true := by simp; omega
      go_wp2_with fail
      go_ret2
      exact ⟨by rw [(u_ HX).1, (u_ HX).2]; rfl, by first | exact u_ HB | (rw [hB]; exact u_ HB)⟩
end Go.Proofs.YtalgidagiojbpaaGreatDoor
/- The program's PrintExpr. -/
namespace Go.Proofs.YtalgidagiojbpaaGreatDoor
open Go Go.RowKit
set_option maxRecDepth 100000 in
set_option maxHeartbeats 4000000 in
theorem implPrintExpr_any (a : Option Addr) (m c : Nat) (e : Nat -> Nx) (w : World) (hm : m <= 9223372036854775807) (ha : Nods w a m e) (hf : ∀ k, k < m -> Fit (e k)) (hw : Wrds w) (hp : Pow w) :
 Calls Tryz.prog 193 #[.slice a m c] w fun r w' => r = .returned (.string (if vxB e m then (top e m).t else ⟨#[]⟩)) /\ Below w.heap.size w w' := by
 have HC := h_ (printed_any a m c e w hm ha hf hw hp)
 obtain ⟨t, ht⟩ : ∃ t, (if vxB e m then (top e m).t else ⟨#[]⟩) = t := ⟨_, rfl⟩
 obtain ⟨q, hq⟩ : ∃ q, vxB e m = q := ⟨_, rfl⟩
 rw [ht, hq] at HC
 rw [ht]
 clear ht hq ha hf hw hp
 go_enter Tryz.func193, Tryz.ntmps193
 go_wp2_with fail
 refine (u_ HC).mono ?_
 rintro x w1 ⟨rfl, hb⟩
 have HB := h_ hb
 clear hb HC
 go_wp2_with fail
 go_ret
 exact ⟨rfl, u_ HB⟩
end Go.Proofs.YtalgidagiojbpaaGreatDoor
