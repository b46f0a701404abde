import Derived.Test.YtngjdgcekflooaaGreatDoorGM
import Derived.Test.YtngjdgcekflooaaGreatDoorGRa
import Derived.Test.YtngjdgcekflooaaGreatDoorHand
import Derived.OrdersIn
/- The program: whether a field reads one that is marked. -/
namespace Go.Proofs.YtngjdgcekflooaaGreatDoor
open Go Go.RowKit

set_option maxRecDepth 100000 in
set_option maxHeartbeats 4000000 in
theorem collectB_any (X : Nat) (J : List Nat → Value → World → Prop) (g c b : Nat) (R : Nat → Option Addr) (RC : Nat → Nat) (rs : List (List Nx)) (names : List ByteArray) (v0 : Value) (w : World) (hg : g < w.heap.size) (hn : rs.length ≤ 1000)
    (hc : ∀ k (h : k < rs.length), w.cell? ⟨g, k, none⟩ = some (.slice (R k) rs[k].length (RC k)) ∧ rs[k].length ≤ 1000000 ∧ NodL w (R k) rs[k] ∧ (∀ i, i < rs[k].length → Fit (nf rs[k] i)) ∧ knows names rs[k] = true)
    (hnd : names.Nodup) (hm : PMap w b names) (hJ : ∀ pre v W W', J pre v W → Below W.heap.size W W' → J pre v W')
    (hstep : ∀ pre x v W, Below w.heap.size w W → J pre v W → x < names.length → pre.length < (rs.flatMap (rdL names)).length → Calls Tryz.prog 84 #[v, .int .i64 (x : Nat), .pointer (some ⟨X, 0, none⟩)] W fun r W' => ∃ v', r = .returned v' ∧ J (pre ++ [x]) v' W' ∧ Below w.heap.size W W')
    (h0 : J [] v0 w) :
    Calls Tryz.prog 83 #[.slice (some ⟨g, 0, none⟩) rs.length c, .map (some b), v0, .func (.func 84) #[] #[.pointer (some ⟨X, 0, none⟩)]] w fun r w' => ∃ v, r = .returned v ∧ J (rs.flatMap (rdL names)) v w' ∧ Below w.heap.size w w' := by
  have HC := hide hc; have HM := hide hm; have HJ := hide hJ; have HS := hide hstep; have H0 := hide h0; have HG := hide hg; have HD := hide hnd
  clear hc hm hJ hstep h0 hnd hg
  go_enter Tryz.func83, Tryz.ntmps83
  go_wp2_with fail
  go_loopw [2, 15] (fun v i wr => ∃ k : Nat, k ≤ rs.length ∧ i = .int .i64 k ∧ J ((rs.take k).flatMap (rdL names)) v wr ∧ Below w.heap.size w wr) (fun _ i _ => rs.length - (intOf i).toNat)
  case atStart => exact ⟨0, Nat.zero_le _, rfl, unhide H0, Below.refl _ _⟩
  case round =>
    obtain ⟨k, hk, rfl, hj, hb⟩ := hrel
    have HJk := hide hj; have HB := hide hb
    clear hj hb
    by_cases hlt : k < rs.length
    · have hlt' : (k : Int) < rs.length := by omega
      obtain ⟨hcell, hlen, hnod, hfit, hkn⟩ := unhide HC k hlt
      have z0 := ((unhide HB).cell (p := ⟨g, k, none⟩) (unhide HG)).trans hcell
      have HN := hide hnod; have HF := hide hfit; have HK := hide hkn
      have HT : Hid ((rs.take (k + 1)).flatMap (rdL names) = (rs.take k).flatMap (rdL names) ++ rdL names rs[k]) := hide (flat_take hlt)
      have HLe : Hid (((rs.take k).flatMap (rdL names)).length + (rdL names rs[k]).length ≤ (rs.flatMap (rdL names)).length) := hide (flat_len hlt)
      clear hcell hnod hfit hkn
      generalize (rs.take k).flatMap (rdL names) = pre at *
      generalize rs[k] = l at *
      generalize R k = a at *
      generalize RC k = ac at *
      go_wp2_with fail
      go_loopw [2, 21] (fun v i w3 => ∃ q : Nat, q ≤ l.length ∧ i = .int .i64 q ∧ J (pre ++ rdL names (l.take q)) v w3 ∧ Below w.heap.size w w3) (fun _ i _ => l.length - (intOf i).toNat)
      case atStart => exact ⟨0, Nat.zero_le _, rfl, by have h := unhide HJk; simpa [rdL] using h, unhide HB⟩
      case round =>
        clear HJk HB z0
        obtain ⟨q, hq, rfl, hj, hb⟩ := hrel
        have HJq := hide hj; have HB := hide hb
        have HAr := hide ((unhide HN).mono hb); have HMr := hide ((unhide HM).mono hb)
        clear hj hb
        by_cases hql : q < l.length
        · have hql' : (q : Int) < l.length := by omega
          obtain ⟨pb, po, rfl, -, z0, z1, z2, z3, z4⟩ := unhide HAr q hql
          have HR : Hid ((nf l q).op = 1 → rdL names (l.take (q + 1)) = rdL names (l.take q) ++ [fIdx names (nf l q).nm] ∧ (nf l q).nm ∈ names) := hide fun h1 => ⟨rdL_one hql h1, knows_mem (unhide HK) (nf_mem hql) h1⟩
          have HRo : Hid (¬ (nf l q).op = 1 → rdL names (l.take (q + 1)) = rdL names (l.take q)) := hide fun h1 => rdL_other hql h1
          have HQl : Hid ((rdL names (l.take (q + 1))).length ≤ (rdL names l).length) := hide (rdL_take_len names l (q + 1))
          have HFk := hide (unhide HF q hql)
          generalize nf l q = n at *
          have HKf := hide (Blk.new wr 129 #[.int .i64 n.op, .int .i64 n.v.k, .int .i64 n.v.n, .string n.v.s, .string n.nm])
          have HBa := hide ((Below.refl wr.heap.size wr).alloc (Nat.le_refl _) (.cells #[.int .i64 n.op, .int .i64 n.v.k, .int .i64 n.v.n, .string n.v.s, .string n.nm] 129))
          obtain ⟨Wd, hWd⟩ : ∃ Wd, wr.alloc (.cells #[.int .i64 n.op, .int .i64 n.v.k, .int .i64 n.v.n, .string n.v.s, .string n.nm] 129) = Wd := ⟨_, rfl⟩
          rw [hWd] at HKf HBa
          have HBf := hide ((unhide HB).trans ((unhide HBa).mono (unhide HB).size))
          have HMf := hide ((unhide HMr).mono (unhide HBa))
          have HJd := hide (unhide HJ _ _ _ _ (unhide HJq) (unhide HBa))
          obtain ⟨x0, x1, x2, x3, x4⟩ := five (unhide HKf)
          by_cases h1 : n.op = 1
          · have h1' : (n.op != 1) = false := by rw [h1]; rfl
            have h1'' : (n.op == 1) = true := by rw [h1]; rfl
            obtain ⟨e1, hmem⟩ := unhide HR h1
            have HE := hide e1
            have HAt : Hid ((mp names).atKey (kl n.nm) (.lit (.int .i64 0)) = .lit (.int .i64 ((fIdx names n.nm : Nat) : Int))) := hide (at_fIdx (unhide HD) hmem _)
            have hxl := fIdx_lt hmem
            clear h1 e1 hmem HR HRo
            generalize fIdx names n.nm = x at *
            have HKy : Hid (keyOf Tryz.prog 9 (.string n.nm) = some (kl n.nm)) := hide (WideMaps.keyOf_string_mk Tryz.underlying9 (unhide HFk).2.1)
            have HCa := hide (unhide HS _ x _ Wd (unhide HBf) (unhide HJd) hxl (by
              have := unhide HLe; have := unhide HQl
              rw [unhide HE, List.length_append] at this
              rw [List.length_append]
              simp at this
              omega))
            go_wp2_with (at_lookup; refine wpList_lookup_own_int _ rfl _ _ 54 rfl 9 3 .i64 (Maps.string_keyed Tryz.underlying9) Tryz.underlying54 Tryz.underlying3 (Tryz.zeroValue3 _) b names.length (mp names) rfl (by first | exact unhide HMf | (rw [hWd]; exact unhide HMf)) _ _ rfl (unhide HKy) ?_; intro pc hpc _; obtain rfl := lit_inj hpc (unhide HAt); clear hpc)
            try rw [hWd]
            clear hWd HMf HKy
            refine (unhide HCa).mono ?_
            rintro r W2 ⟨v', rfl, hj2, hb2⟩
            have HJ2 : Hid (J (pre ++ rdL names (l.take (q + 1))) v' W2) := hide (by rw [unhide HE, ← List.append_assoc]; exact hj2)
            have HB2 := hide ((unhide HBf).trans hb2)
            clear hj2 hb2 HCa
            go_wp2_with fail
            go_roundw
            case rel => first | exact ⟨q + 1, by omega, by go_num, unhide HJ2, unhide HB2⟩ | ((repeat apply Exists.intro); exact ⟨⟨q + 1, by omega, by go_num, unhide HJ2, unhide HB2⟩, rfl⟩)
            case measure => simp [intOf]; omega
          · have h1' : (n.op != 1) = true := by simp [h1]
            have h1'' : (n.op == 1) = false := by simp [h1]
            have HJ2 := HJd
            rw [← unhide HRo h1] at HJ2
            clear h1 HR HRo
            go_wp2_with fail
            try rw [hWd]
            clear hWd
            go_roundw
            case rel => first | exact ⟨q + 1, by omega, by go_num, unhide HJ2, unhide HBf⟩ | ((repeat apply Exists.intro); exact ⟨⟨q + 1, by omega, by go_num, unhide HJ2, unhide HBf⟩, rfl⟩)
            case measure => simp [intOf]; omega
        · obtain rfl : q = l.length := by omega
          have hql' : ¬ (l.length : Int) < (l.length : Int) := by omega
          have HJ2 := HJq
          rw [List.take_of_length_le (Nat.le_refl _), ← unhide HT] at HJ2
          go_wp2_with fail
          go_roundw
          case rel => first | exact ⟨k + 1, by omega, by go_num, unhide HJ2, unhide HB⟩ | ((repeat apply Exists.intro); exact ⟨⟨k + 1, by omega, by go_num, unhide HJ2, unhide HB⟩, rfl⟩)
          case measure => simp [intOf]; omega
    · obtain rfl : k = rs.length := by omega
      have hlt' : ¬ (rs.length : Int) < (rs.length : Int) := by omega
      have HJ2 := HJk
      rw [List.take_of_length_le (Nat.le_refl _)] at HJ2
      go_wp2_with fail
      go_ret
      exact ⟨_, rfl, unhide HJ2, unhide HB⟩

set_option maxRecDepth 100000 in
set_option maxHeartbeats 1000000 in
theorem orMark_any (X G n x : Nat) (M : Nat → Bool) (v : Bool) (w : World) (hx : x < n) (hX : Blk w X 71 [.slice (some ⟨G, 0, none⟩) n n]) (hG : Blk w G 4 (ms n M)) :
    Calls Tryz.prog 84 #[.bool v, .int .i64 (x : Nat), .pointer (some ⟨X, 0, none⟩)] w fun r w' => r = .returned (.bool (v || M x)) ∧ w' = w := by
  have c0 := hX.cell 0
  simp only [List.getElem?_cons_zero] at c0
  have c1 := (hG.cell x).trans (ms_at M hx)
  have hx' : (x : Int) < n := by omega
  clear hX hG
  generalize M x = u at *
  cases v
  · go_enter Tryz.func84, Tryz.ntmps84
    go_wp2_with fail
    go_ret
    exact ⟨rfl, rfl⟩
  · go_enter Tryz.func84, Tryz.ntmps84
    go_wp2_with fail
    go_ret
    exact ⟨rfl, rfl⟩

/-- Whether one that feeds field k is marked. -/
theorem anyMark_any (m : Fm) (A : MA) (b g k X G : Nat) (M : Nat → Bool) (w : World) (hv : VfA m) (hf : FitM m) (hk : k < m.fields.length) (ha : MSl w m A) (hm : PMap w b (fNames m)) (hg : Blk w g 87 [.slice (A.fa k).i m.fields[k].is.length (A.fa k).ic, .slice (A.fa k).h m.fields[k].wh.length (A.fa k).hc]) (hX : Blk w X 71 [.slice (some ⟨G, 0, none⟩) m.fields.length m.fields.length]) (hG : Blk w G 4 (ms m.fields.length M)) :
    Calls Tryz.prog 83 #[.slice (some ⟨g, 0, none⟩) 2 2, .map (some b), .bool false, .func (.func 84) #[] #[.pointer (some ⟨X, 0, none⟩)]] w fun r w' => r = .returned (.bool ((fedL m k).any M)) ∧ Below w.heap.size w w' := by
  have hok := (fieldOk_iff _ _ _).1 (hv.fi _ (List.getElem_mem hk))
  have hff := hf.f _ (List.getElem_mem hk)
  have hkn := hv.knw hk
  obtain ⟨pb, po, -, -, hsl⟩ := ha.f k hk
  have he : fedL m k = [m.fields[k].is, m.fields[k].wh].flatMap (rdL (fNames m)) := by
    unfold fedL
    rw [fAt_get hk]
    simp
  rw [fAt_get hk] at hkn
  rw [he]
  refine collectB_any X (fun pre v W => v = .bool (pre.any M) ∧ Blk W X 71 [.slice (some ⟨G, 0, none⟩) m.fields.length m.fields.length] ∧ Blk W G 4 (ms m.fields.length M)) g 2 b (fun i => if i = 0 then (A.fa k).i else (A.fa k).h) (fun i => if i = 0 then (A.fa k).ic else (A.fa k).hc) [m.fields[k].is, m.fields[k].wh] (fNames m) (.bool false) w hg.lt (by simp) ?_ hv.nod hm ?_ ?_ ⟨rfl, hX, hG⟩ |>.mono ?_
  · intro i hi
    have h1 := rule_len hok.i
    have h2 := rule_len hok.h
    obtain rfl | rfl : i = 0 ∨ i = 1 := by simp at hi; omega
    · exact ⟨hg.cell 0, by show m.fields[k].is.length ≤ _; omega, hsl.i, hff.i, hkn.1⟩
    · exact ⟨hg.cell 1, by show m.fields[k].wh.length ≤ _; omega, hsl.h, hff.h, hkn.2.1⟩
  · rintro pre v W W' ⟨h1, h2, h3⟩ hb
    exact ⟨h1, h2.mono hb h2.lt, h3.mono hb h3.lt⟩
  · rintro pre x v W hb ⟨rfl, h2, h3⟩ hx hl
    rw [fNames_len] at hx
    refine (orMark_any X G m.fields.length x M (pre.any M) W hx h2 h3).mono ?_
    rintro r W' ⟨rfl, rfl⟩
    exact ⟨_, rfl, ⟨by rw [List.any_append]; simp, h2, h3⟩, Below.refl _ _⟩
  · rintro r w' ⟨v, rfl, ⟨rfl, -⟩, hb⟩
    exact ⟨rfl, hb⟩

set_option maxRecDepth 100000 in
set_option maxHeartbeats 1000000 in
theorem readMarked_any (m : Fm) (A : MA) (b g k G : Nat) (M : Nat → Bool) (w : World) (hv : VfA m) (hf : FitM m) (hk : k < m.fields.length) (ha : MSl w m A) (hm : PMap w b (fNames m)) (hg : Blk w g 87 [.slice (A.fa k).i m.fields[k].is.length (A.fa k).ic, .slice (A.fa k).h m.fields[k].wh.length (A.fa k).hc]) (hG : Blk w G 4 (ms m.fields.length M)) :
    Calls Tryz.prog 66 #[wV m A b, .slice (some ⟨g, 0, none⟩) 2 2, .slice (some ⟨G, 0, none⟩) m.fields.length m.fields.length] w fun r w' => r = .returned (.bool ((fedL m k).any M)) ∧ Below w.heap.size w w' := by
  have HC := hide fun (W : World) (X : Nat) hs hp hg hX hG => anyMark_any m A b g k X G M W hv hf hk hs hp hg hX hG
  obtain ⟨al, alc, ap, apc, ar, arc, af, afc, afa⟩ := A
  unfold wV
  dsimp only at HC hg ⊢
  have HK := hide ((Blk.new w 56 #[.slice al m.labels.length alc, .slice ap m.below.length apc, .slice ar m.roles.length arc, .slice af m.fields.length afc, .map (some b)]).alloc (.cells #[.slice (some ⟨G, 0, none⟩) m.fields.length m.fields.length] 71))
  have HX := hide (Blk.new (w.alloc (.cells #[.slice al m.labels.length alc, .slice ap m.below.length apc, .slice ar m.roles.length arc, .slice af m.fields.length afc, .map (some b)] 56)) 71 #[.slice (some ⟨G, 0, none⟩) m.fields.length m.fields.length])
  rw [World.size_alloc] at HX
  have HB := hide (((Below.refl w.heap.size w).alloc (Nat.le_refl _) (.cells #[.slice al m.labels.length alc, .slice ap m.below.length apc, .slice ar m.roles.length arc, .slice af m.fields.length afc, .map (some b)] 56)).alloc (by simp) (.cells #[.slice (some ⟨G, 0, none⟩) m.fields.length m.fields.length] 71))
  obtain ⟨W0, hW0⟩ : ∃ W0, (w.alloc (.cells #[.slice al m.labels.length alc, .slice ap m.below.length apc, .slice ar m.roles.length arc, .slice af m.fields.length afc, .map (some b)] 56)).alloc (.cells #[.slice (some ⟨G, 0, none⟩) m.fields.length m.fields.length] 71) = W0 := ⟨_, rfl⟩
  rw [hW0] at HK HX HB
  have HC2 := hide (unhide HC W0 (w.heap.size + 1) (ha.mono (unhide HB)) (hm.mono (unhide HB)) (hg.mono (unhide HB) hg.lt) (unhide HX) (hG.mono (unhide HB) hG.lt))
  generalize (fedL m k).any M = q at *
  clear ha hm hg hG hv hf HC
  obtain ⟨y0, y1, y2, y3, y4⟩ := five (unhide HK)
  go_enter Tryz.func66, Tryz.ntmps66
  go_wp2_with fail
  try rw [hW0]
  refine (unhide HC2).mono ?_
  rintro r W1 ⟨rfl, hb⟩
  replace HB := hide ((unhide HB).trans (hb.mono (unhide HB).size))
  clear hb hW0 y0 y1 y2 y3 y4
  go_wp2_with fail
  go_ret
  exact ⟨rfl, unhide HB⟩
end Go.Proofs.YtngjdgcekflooaaGreatDoor

/- A region that draws its order, inside a round of a loop over an iterator: by the laws for one that stands outside. -/
namespace Go.Proofs.YtngjdgcekflooaaGreatDoor
open Go Go.RowKit Go.Shelf

section
variable {P : Program} {ops : Array Oper} {Q : Exit → Act → World → Prop} {o : Oper} {a : Act} {w : World} {K K' : Act → World → Prop} {n l : Nat}
theorem upon_in {r : Result Next} (h : o.upon P a K Q r) : o.uponIn (Fence.wide.inRound l) n P a K Q r := by
  cases r with
  | ok x w' =>
    cases x with
    | value v => exact h
    | skip => exact h
    | defer d => exact h
    | enter f args => exact ⟨noDepth, CallsIn.inRound l (callsIn_wide.2 h)⟩
    | row row args => exact ⟨noDepth, fun c cs _ => let ⟨v, w', r, s⟩ := h c cs; ⟨v, w', r, stepsIn_wide.2 s⟩⟩
    | _ => exact h.elim
  | halt x w' => cases x <;> exact h
theorem oper_in (hd : ∀ c, o.op ≠ .defer c) (h : o.wp P a w K Q) : o.wpIn (Fence.wide.inRound l) n P a w K Q := ⟨fun _ _ => trivial, by
  unfold Oper.wp at h
  rw [Oper.semAt_eq _ _ _ hd]
  exact upon_in h⟩
theorem op_in {i : Nat} (hL : ¬ LetsOut Q) (hd : ∀ o : Oper, ops[i]? = some o → ∀ c : Call, o.op ≠ .defer c) (hK : ∀ a w, K a w → K' a w) (h : wpOp P ops Q i K a w) : wpOpIn (Fence.wide.inRound l) n P ops Q i K' a w := by
  refine wpOpIn_mono hK ?_
  unfold wpOp at h
  unfold wpOpIn
  cases ho : ops[i]? with
  | none => rw [ho] at h; exact h
  | some o =>
    rw [ho] at h
    simp only at h ⊢
    split
    · rename_i hw
      rw [if_pos hw] at h
      exact oper_in (hd o ho) (h.resolve_right fun c => hL c.2)
    · rename_i hw
      rw [if_neg hw] at h
      exact ⟨fun _ _ => trivial, h⟩
theorem ops_in (hL : ¬ LetsOut Q) (hd : ∀ (i : Nat) (o : Oper), ops[i]? = some o → ∀ c : Call, o.op ≠ .defer c) : ∀ (is : List Nat) (a : Act) (w : World), wpOps P ops Q is a w → wpOpsIn (Fence.wide.inRound l) n P ops Q is a w
  | [], _, _, h => h
  | i :: rest, a, w, h => by
    rw [wpOps_cons] at h
    rw [wpOpsIn_cons]
    exact op_in hL (hd i) (fun a w => ops_in hL hd rest a w) h
theorem region_round {S : World → Prop} {id : Nat} (hL : ¬ LetsOut Q) (hm : P.follows .mixedOrders = true) (hd : (ops.toList.all fun o => match o.op with | .defer _ => false | _ => true) = true) (hS : S w.drew) (h : S w.drew → wpAnyH P .any ops Q S ops.size (Array.replicate ops.size false) a w.drew) : (Code.region id ops true).wpIn (Fence.wide.inRound l) n P Q a w :=
  wpIn_region_draw fun t => by
    simp only [Region.schedule, hm, Bool.true_or, if_true]
    refine ops_in hL (fun i o ho c hc => ?_) _ _ _ (wpAny_sound ops.size t _ a _ (wpAny_of_held _ _ _ _ (h hS)))
    have := List.all_eq_true.1 hd o (Array.mem_toList_iff.2 (Array.mem_of_getElem? ho))
    rw [hc] at this
    cases this
end
end Go.Proofs.YtngjdgcekflooaaGreatDoor
