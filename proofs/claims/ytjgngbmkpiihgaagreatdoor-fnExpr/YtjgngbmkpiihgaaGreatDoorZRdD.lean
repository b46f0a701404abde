import Derived.Test.YtjgngbmkpiihgaaGreatDoorZRdC
import Derived.Test.YtjgngbmkpiihgaaGreatDoorGRn
import Derived.Test.YtjgngbmkpiihgaaGreatDoorGPg
/- The program's reader of tokens: what a reading comes to; signs before an operand. -/
namespace Go.Proofs.YtjgngbmkpiihgaaGreatDoor
open Go Go.RowKit Go.Shelf
attribute [local go_sem] Oper.semAt_some

/-- What a reading from a place on comes to. -/
def RdO (w0 : World) (a : Option Addr) (c : Nat) (l : List ByteArray) (md : Mdx Nx) (w : World) (i d : Nat) (v : Value) (ns : List Nx) (e : Ending) (w' : World) : Prop :=
  (Evx tkX 64 md d (l.drop i) none ∧ e = flt 3 ∧ Below w0.heap.size w0 w') ∨
  ∃ en i' v', Evx tkX 64 md d (l.drop i) (some (en, l.drop i')) ∧ e = .returned (.tuple #[]) ∧ i ≤ i' ∧ i' ≤ l.length ∧ i + en.length ≤ i' ∧ Rdr w0 a c l w' i' d v' (ns ++ en) ∧ AddK w0.heap.size w w' v v'
theorem pk_cons {l : List ByteArray} {i : Nat} (h : i < l.length) : l.drop i = pk l i :: l.drop (i + 1) := by rw [pk_lt h]; exact drop_get h
theorem u_nil : tkX.u ⟨#[]⟩ = 0 := by decide
theorem b_nil : tkX.b ⟨#[]⟩ = 0 := by decide
theorem usg_of {l : List ByteArray} {i k : Nat} (hik : i ≤ k) (hk : k ≤ l.length) (h : ∀ j, i ≤ j → j < k → tkX.u (pk l j) ≠ 0) (h0 : tkX.u (pk l k) = 0) : usg tkX (l.drop i) = (l.take k).drop i := by
  obtain ⟨n, rfl⟩ : ∃ n, k = i + n := ⟨k - i, by omega⟩
  clear hik
  induction n generalizing i with
  | zero =>
    rw [Nat.add_zero] at h0 hk ⊢
    rw [List.drop_of_length_le (l := l.take i) (by rw [List.length_take]; omega)]
    by_cases hi : i < l.length
    · rw [pk_cons hi, us_cons, if_pos h0]
    · rw [List.drop_of_length_le (by omega)]; rfl
  | succ n ih =>
    have hi : i < l.length := by omega
    rw [pk_cons hi, us_cons, if_neg (h i (Nat.le_refl _) (by omega)), ih (i := i + 1) (by omega) (fun j h1 h2 => h j (by omega) (by omega)) (by rw [show i + 1 + n = i + (n + 1) by omega]; exact h0)]
    rw [show i + 1 + n = i + (n + 1) by omega, pk_lt hi]
    rw [List.drop_eq_getElem_cons (l := l.take (i + (n + 1))) (i := i) (by rw [List.length_take]; omega), List.getElem_take]
theorem Strs.cut {w : World} {a : Option Addr} {l : List ByteArray} (h : Strs w a l) {lo hi cap : Nat} (hh : hi ≤ l.length) (hc : l.length ≤ cap) : Strs w (cutA a lo cap 1) ((l.take hi).drop lo) := fun k hk => by
  rw [cut_len hh] at hk
  obtain ⟨b, o, rfl, hb, ht⟩ := h (lo + k) (by omega)
  refine ⟨b, o + lo, ?_, hb, ?_⟩
  · unfold cutA
    rw [if_neg (by omega)]
    simp [Addr.add]
  · rw [List.getElem_drop, List.getElem_take, show o + lo + k = o + (lo + k) by omega]
    exact ht
theorem sz_str : (sizeOf (Tryz.prog.elem 48)).run Tryz.prog = fun w => .ok 1 w := by
  funext w
  have he : Tryz.prog.elem 48 = 9 := by kernel_rfl
  obtain ⟨i0, hi, hz0, hz1, hz2⟩ := info_parts info_str
  rw [he]
  simp [sizeOf, typeInfo, hi, hz1]
set_option maxRecDepth 100000 in
theorem cutS_lh (a : Option Addr) (len cap lo hi : Nat) (h : lo ≤ hi) (h2 : hi ≤ cap) (wx : World) : (Instr.slice 48 (.slice a len cap) (some (.int .i64 (lo : Nat))) (some (.int .i64 (hi : Nat))) none).run Tryz.prog wx = .ok (.slice (cutA a lo cap 1) (hi - lo) (cap - lo)) wx := by
  rw [run_slice_lh wx 48 _ _ _ Tryz.underlying48 .i64 .i64 _ _ (by omega) (by omega) (by omega), sz_str]
  simp [sliced, cutA]
theorem Rdr.keepC {w0 : World} {a : Option Addr} {c : Nat} {l : List ByteArray} {w w' : World} {i d lo : Nat} {v : Value} {ns : List Nx} (h : Rdr w0 a c l w i d v ns) (hk : KeepC lo w w') (hl : w0.heap.size ≤ lo) : Rdr w0 a c l w' i d v ns := by
  refine ⟨hk.2 _ _ _ _ h.blk, ⟨h.own.1, ?_⟩, h.bel.trans (hk.1.mono hl)⟩
  rcases h.own.2 with h2 | ⟨g, cap, cur, h1, hb, hg, r⟩
  · exact .inl h2
  · exact .inr ⟨g, cap, cur, h1, hb, hk.2 _ _ _ _ hg, r⟩
theorem AddK.blk {R : Nat} {w w' : World} {v v' : Value} (h : AddK R w w' v v') {g : Nat} {t : TypeId} {cs : List Value} (hb : Blk w g t cs) (hR : g ≠ R) (hv : v.ownBlock ≠ some g) : Blk w' g t cs := (h.same g hb.lt hR hv).trans hb
theorem AddK.others {R : Nat} {w w' : World} {v v' : Value} (h : AddK R w w' v v') {t : TypeId} {cs : List Value} (hb : Blk w R t cs) {base : Nat} {ns : List Nx} (ho : OwnN w base v ns) : KeepsOthers w w' := ⟨h.size, fun k o hk hc => by
  have hlt := (Array.getElem?_eq_some_iff.1 hk).1
  refine (h.same k hlt (fun e => ?_) (fun e => ?_)).trans hk
  · subst e
    have h2 : w.heap[k]? = some (.cells cs.toArray t) := hb
    rw [h2] at hk
    cases hk
    simp [Obj.isCells] at hc
  · rcases ho.2 with ⟨h1, -⟩ | ⟨g, cap, cur, h1, -, hg, -⟩
    · rw [h1] at e; simp [Value.ownBlock] at e
    · rw [h1] at e
      simp only [Value.ownBlock, Option.some.injEq] at e
      subst e
      rw [hg] at hk
      cases hk
      simp [Obj.isCells] at hc⟩

theorem own_ty {w : World} {base g : Nat} {v : Value} {l : List Nx} {t : TypeId} {cs : List Value} (h : OwnN w base v l) (hb : Blk w g t cs) (ht : t ≠ 41) : v.ownBlock ≠ some g := fun e => by
  rcases h.2 with ⟨h1, -⟩ | ⟨q, cap, cur, h1, -, hg, -⟩
  · rw [h1] at e; simp [Value.ownBlock] at e
  · rw [h1] at e
    simp only [Value.ownBlock, Option.some.injEq] at e
    subst e
    have h2 : w.heap[q]? = some (.cells cs.toArray t) := hb
    rw [hg] at h2
    cases h2
    exact ht rfl
theorem AddK.keepC {R lo : Nat} {w w1 w2 : World} {v v' : Value} (h : AddK R w w1 v v') (hk : KeepC lo w1 w2) (hl : w.heap.size ≤ lo) : AddK R w w2 v v' := ⟨Nat.le_trans h.size hk.1.size, fun b hb hR hv => (hk.1.block b (Nat.lt_of_lt_of_le hb hl)).trans (h.same b hb hR hv), h.own⟩
theorem back_map (ss : List ByteArray) : ((List.range ss.length).reverse.map fun x => opNd (tkX.u (pk ss x))) = ss.reverse.map fun t => opNd (tkX.u t) := by
  rw [List.map_reverse, List.map_reverse]
  congr 1
  refine List.ext_getElem (by simp) fun j h1 h2 => ?_
  simp only [List.getElem_map, List.getElem_range]
  rw [pk_lt (by simpa using h2)]
/-- The place in memory. -/
def atOf (w : World) (R : Nat) : Nat := match w.cell? ⟨R, 1, none⟩ with
  | some (.int _ k) => k.toNat
  | _ => 0
theorem Rdr.at' {w0 : World} {a : Option Addr} {c : Nat} {l : List ByteArray} {w : World} {i d : Nat} {v : Value} {ns : List Nx} (h : Rdr w0 a c l w i d v ns) : atOf w w0.heap.size = i := by
  unfold atOf
  rw [(quart h.blk).2.1]
  simp

set_option maxRecDepth 100000 in
set_option maxHeartbeats 8000000 in
theorem signed_in (n : Nat) {w0 : World} {a : Option Addr} {c : Nat} {l : List ByteArray} {w : World} {i d : Nat} {v : Value} {ns : List Nx} (hc : RC w0 a l) (hcl : l.length ≤ c) (hi : i ≤ l.length) (hn : ns.length ≤ i) (h : Rdr w0 a c l w i d v ns)
    (hA : ∀ (k : Nat) (w : World), i ≤ k → k ≤ l.length → Rdr w0 a c l w k d v ns → Calls Tryz.prog 139 #[.pointer (some ⟨w0.heap.size, 0, none⟩)] w (RdO w0 a c l .atm w k d v ns)) :
    CallsIn Fence.wide n Tryz.prog 119 #[.pointer (some ⟨w0.heap.size, 0, none⟩)] w (RdO w0 a c l (.op 6) w i d v ns) := by
  have hl := hc.len
  have HCc := hide hc; have HAt := hide hA
  have HV0 : Hid (v.ownBlock ≠ some w.heap.size) := hide fun e => by have := own_in h.own e; omega
  obtain ⟨R, hR⟩ : ∃ R, w0.heap.size = R := ⟨_, rfl⟩
  have HR := hide hR
  have hRw : R < w.heap.size := by rw [← hR]; exact h.blk.lt
  have HK := hide (Blk.new w 104 #[.pointer (some ⟨R, 0, none⟩)])
  have HB := hide ((Below.refl w.heap.size w).alloc (Nat.le_refl _) (.cells #[.pointer (some ⟨R, 0, none⟩)] 104))
  obtain ⟨W0, hW0⟩ : ∃ W0, w.alloc (.cells #[.pointer (some ⟨R, 0, none⟩)] 104) = W0 := ⟨_, rfl⟩
  rw [hW0] at HK HB
  have H := hide (h.mono (unhide HB))
  obtain ⟨y0, y1, y2, y3⟩ := quart (unhide H).blk
  rw [hR] at y0 y1 y2 y3
  have z0 := (unhide HK).cell 0
  simp only [List.getElem?_cons_zero] at z0
  rw [hR]
  clear h hc hA hR
  refine callsIn_of_wp_marks Tryz.func119 rfl trivial ?_ rfl
  simp only [Tryz.ntmps119, List.size_toArray, List.length_cons, List.length_nil, Nat.reduceAdd, Nat.reduceSub, Array.replicate_succ, Array.replicate_zero, List.push_toArray, List.append_toArray, List.nil_append, List.cons_append]
  gi_wp2_with fail
  try rw [hW0]
  clear hW0 y0 y1 y2 y3 z0
  gi_loopw [] (fun wr => ∃ k : Nat, i ≤ k ∧ k ≤ l.length ∧ (∀ j, i ≤ j → j < k → tkX.u (pk l j) ≠ 0) ∧ Rdr w0 a c l wr k d v ns ∧ Blk wr w.heap.size 104 [.pointer (some ⟨R, 0, none⟩)] ∧ AddK R w wr v v) (fun wr => l.length - atOf wr R)
  case atStart => exact ⟨i, Nat.le_refl _, hi, fun j h1 h2 => by omega, unhide H, unhide HK, AddK.of_below v (unhide HB)⟩
  case round =>
    clear HB HK H
    obtain ⟨k, hik, hkl, hu, hr, hk, hak⟩ := hrel
    have HU := hide hu; have H := hide hr; have HK := hide hk; have HA := hide hak
    have HM : Hid (atOf wr R = k) := hide (by rw [← unhide HR]; exact hr.at')
    have z0 := hk.cell 0
    simp only [List.getElem?_cons_zero] at z0
    have HP := hide (peek_any (unhide HCc) hr)
    have HT := hide (fun w h => take_any (c := c) (w := w) (v := v) (ns := ns) (d := d) (show k ≤ 2000000 by omega) (unhide HCc) h)
    rw [unhide HR] at HP HT
    clear hu hr hk hak
    gi_wp2_with fail
    refine callW ((unhide HP).mono ?_)
    rintro e W1 ⟨rfl, hb⟩
    replace H := hide ((unhide H).mono hb); replace HK := hide ((unhide HK).mono hb (unhide HK).lt); replace HA := hide ((unhide HA).trans (AddK.of_below v hb))
    have HS := hide (signWritten_any (pk l k) W1 ((unhide HCc).wr.mono (unhide H).bel))
    clear hb z0 HP
    gi_wp2_with fail
    refine callW ((unhide HS).mono ?_)
    rintro e W2 ⟨rfl, rfl⟩
    have z0 := (unhide HK).cell 0
    simp only [List.getElem?_cons_zero] at z0
    clear HS
    by_cases hq : tkX.u (pk l k) = 0
    case neg =>
      have hq' : ((tkX.u (pk l k) : Int) != 0) = true := by simp; omega
      have hlt : k < l.length := Decidable.byContradiction fun hc => by rw [pk_ge hc, u_nil] at hq; exact hq rfl
      have HU2 : Hid (∀ j, i ≤ j → j < k + 1 → tkX.u (pk l j) ≠ 0) := hide fun j h1 h2 => by
        by_cases e : j = k
        · subst e; exact hq
        · exact unhide HU j h1 (by omega)
      clear hq
      gi_wp2_with fail
      have hgR : w.heap.size ≠ R := by omega
      have HOw : Hid (v.ownBlock ≠ some w.heap.size) := HV0
      refine callW ((unhide HT _ (unhide H)).mono ?_)
      rintro e W3 ⟨rfl, hr, hak⟩
      have H3 := hide hr; have HK3 := hide (hak.blk (unhide HK) hgR (unhide HOw)); have HA3 := hide ((unhide HA).trans hak)
      have HM3 : Hid (atOf W3 R = k + 1) := hide (by rw [← unhide HR]; exact hr.at')
      clear hr hak z0
      gi_wp2_with fail
      exact ⟨⟨k + 1, by omega, by omega, unhide HU2, unhide H3, unhide HK3, unhide HA3⟩, by rw [unhide HM3, unhide HM]; omega⟩
    rw [hq]
    have HQ0 := hide hq
    clear hq
    have HSg := hide (usg_of hik hkl (unhide HU) (unhide HQ0))
    obtain ⟨ss, hss⟩ : ∃ ss, (l.take k).drop i = ss := ⟨_, rfl⟩
    have hsl : ss.length = k - i := by rw [← hss, cut_len hkl]
    have hsb : ss.length ≤ 1048576 := by omega
    rw [hss] at HSg
    have HSS : Hid (∀ W, Below w0.heap.size w0 W → Strs W (cutA a i c 1) ss) := hide fun W hb => by rw [← hss]; exact ((unhide HCc).st.mono hb).cut hkl hcl
    have hcut := cutS_lh a l.length c i k hik (by omega)
    rw [← hsl] at hcut
    have HSl := hide hsl
    clear hss hsl
    obtain ⟨y0, y1, y2, y3⟩ := quart (unhide H).blk
    rw [unhide HR] at y0 y1 y2 y3
    have HAk := hide (fun w h => unhide HAt k w hik hkl h)
    rw [unhide HR] at HAk
    have HMix : Tryz.prog.follows .mixedOrders = true := by kernel_rfl
    have HMx := hide HMix
    clear HMix
    gi_wp2_with fail
    gi_region
    gi_wp2_with fail
    obtain ⟨V, hV⟩ : ∃ V, W2.drew = V := ⟨_, rfl⟩
    have hbV : Below W2.heap.size W2 V := by rw [← hV]; exact (Below.refl _ _).drew
    rw [hV]
    clear hV
    replace H := hide ((unhide H).mono hbV); replace HK := hide ((unhide HK).mono hbV (unhide HK).lt); replace HA := hide ((unhide HA).trans (AddK.of_below v hbV))
    clear hbV y0 y1 y2 y3 z0 HT HM HU
    refine callW ((unhide HAk V (unhide H)).mono ?_)
    rintro e W3 (⟨hev, rfl, hb⟩ | ⟨en, i', v', hev, rfl, h1, h2, h3, hr, hak⟩)
    case inl =>
      have HX : Hid (Evx tkX 64 (.op 6) d (l.drop i) none) := hide (ev_6_none (by rw [unhide HSg, unhide HSl, List.drop_drop, show i + (k - i) = k by omega]; exact hev))
      show RdO w0 a c l (.op 6) w i d v ns (flt 3) W3
      exact .inl ⟨unhide HX, rfl, hb⟩
    rw [unhide HR] at hak
    have hgR : w.heap.size ≠ R := by omega
    have H3 := hide hr; have HK3 := hide (hak.blk (unhide HK) hgR (unhide HV0)); have HA3 := hide ((unhide HA).trans hak)
    have HX : Hid (Evx tkX 64 (.op 6) d (l.drop i) (some (en ++ ss.reverse.map (fun t => opNd (tkX.u t)), l.drop i'))) := hide (by
      have := ev_6 (X := tkX) (M := 64) (d := d) (ts := l.drop i) (e := en) (r := l.drop i') (by rw [unhide HSg, unhide HSl, List.drop_drop, show i + (k - i) = k by omega]; exact hev)
      rw [unhide HSg] at this
      exact this)
    have HBk := hide (Backward_any (cutA a i c 1) ss.length (c - i) W3)
    have hW3g : w.heap.size < W3.heap.size := (unhide HK3).lt
    have z0 := (unhide HK3).cell 0
    simp only [List.getElem?_cons_zero] at z0
    clear hr hak hev H HK HA HAk HAt
    gi_wp2_with fail
    refine callW ((unhide HBk).mono ?_)
    rintro e W4 ⟨rfl, hW4⟩
    have hbW : Below W3.heap.size W3 W4 := by rw [hW4]; exact (Below.refl _ _).alloc (Nat.le_refl _) _
    have hB4 : Blk W4 W3.heap.size 48 [.slice (cutA a i c 1) ss.length (c - i)] := by rw [hW4]; exact Blk.new W3 48 #[.slice (cutA a i c 1) ss.length (c - i)]
    have hs4 : W4.heap.size = W3.heap.size + 1 := by rw [hW4]; simp
    have HB4 := hide hB4; have HS4 := hide hs4
    replace H3 := hide ((unhide H3).mono hbW); replace HK3 := hide ((unhide HK3).mono hbW (unhide HK3).lt); replace HA3 := hide ((unhide HA3).trans (AddK.of_below v' hbW))
    have hs4' : W4.heap.size ≤ W3.heap.size + 1 := by omega
    have hs4'' : W3.heap.size < W4.heap.size := by omega
    have hg3 : w.heap.size ≤ W4.heap.size := (unhide HA3).size
    clear hW4 hbW hB4 hs4 HBk z0
    gi_wp2_with fail
    refine range_lawE (gf := 155) (lb := #[.pointer (some ⟨W3.heap.size, 0, none⟩)]) (enc := bkE ss) rfl (enters_of Tryz.func155 (by kernel_rfl) rfl)
      (back_gives (cutA a i c 1) (c - i) W3.heap.size ss hsb) (fun x => rfl)
      (fun pre W => ∃ v2, Rdr w0 a c l W i' d v2 (ns ++ (en ++ pre.map (fun x => opNd (tkX.u (pk ss x))))) ∧ Blk W w.heap.size 104 [.pointer (some ⟨R, 0, none⟩)] ∧ Blk W W3.heap.size 48 [.slice (cutA a i c 1) ss.length (c - i)] ∧ AddK R w W v v2)
      ?hC ?hI ?h0
      (fun x => { tmps := #[.pointer (some ⟨R, 0, none⟩), .pointer (some ⟨w.heap.size, 0, none⟩), .int .i64 (i : Nat), .slice (cutA a i c 1) ss.length (c - i), undef, .string (pk ss x), .pointer (some ⟨R, 0, none⟩), .pointer (some ⟨R, 0, none⟩), .pointer (some ⟨R, 1, none⟩), .int .i64 (i : Nat), .pointer (some ⟨R, 0, none⟩), .string (pk l k), .int .i64 0, .bool false, u14, u15, .pointer (some ⟨R, 0, none⟩), .pointer (some ⟨R, 0, none⟩), .pointer (some ⟨R, 0, none⟩), .slice a l.length c, .int .i64 (i : Nat), .pointer (some ⟨R, 0, none⟩), .pointer (some ⟨R, 0, none⟩), .pointer (some ⟨R, 1, none⟩), .int .i64 (k : Nat), .slice (cutA a i c 1) ss.length (c - i), .pointer (some ⟨R, 0, none⟩), .tuple #[], .slice (cutA a i c 1) ss.length (c - i), .func (.func 155) #[] #[.pointer (some ⟨W3.heap.size, 0, none⟩)], .int .i64 (x : Nat), .string (pk ss x), undef, undef, undef, undef, undef], defers := [] })
      ?assign ?body ?done
    case hC =>
      rintro pre W ⟨v2, h1, h2, h3, h4⟩
      exact ⟨h3, unhide HSS W h1.bel⟩
    case hI =>
      rintro pre W W' ⟨v2, h1, h2, h3, h4⟩ hk
      exact ⟨v2, h1.keepC hk (by have := unhide HR; omega), hk.2 _ _ _ _ h2, hk.2 _ _ _ _ h3, h4.keepC hk hg3⟩
    case h0 =>
      intro W hb
      exact ⟨v', by simpa using (unhide H3).mono hb, (unhide HK3).mono hb (unhide HK3).lt, (unhide HB4).mono hb (unhide HB4).lt, (unhide HA3).trans (AddK.of_below v' hb)⟩
    case assign =>
      intro m' l x W K hK
      unfold bkE
      gi_wp2
      first | exact hK | simpa using hK
    case body =>
      rintro m' l' pre x W ⟨v2, h1, h2, h3, h4⟩ hT
      have hbW := (Below.refl W.heap.size W).drew
      have hlen : (ns ++ (en ++ pre.map (fun x => opNd (tkX.u (pk ss x))))).length ≤ 1048576 := by
        have := unhide HSl
        simp only [List.length_append, List.length_map]
        omega
      have HAd := hide (add_any (opNd (tkX.u (pk ss x))) hlen (h1.mono hbW))
      rw [unhide HR] at HAd
      have HSw := hide (signWritten_any (pk ss x) W.drew ((unhide HCc).wr.mono (h1.mono hbW).bel))
      have HR1 := hide h1; have HR2 := hide h2; have HR3 := hide h3; have HR4 := hide h4
      have HD2 := hide (h2.mono hbW h2.lt)
      clear h1 h2 h3 h4 hT hlen hbW
      obtain ⟨t, ht⟩ : ∃ t, pk ss x = t := ⟨_, rfl⟩
      have HTx := hide ht
      rw [ht] at HAd HSw ⊢
      clear ht
      gi_wp2_with fail
      refine region_round (S := fun w' => Blk w' w.heap.size 104 [.pointer (some ⟨R, 0, none⟩)]) (by rintro ⟨a, w, h⟩; exact h) (unhide HMx) (by kernel_rfl) (unhide HD2) (fun hHeld => ?_)
      refine takeY (i := 0) (v := .pointer (some ⟨R, 0, none⟩)) 32 rfl rfl (by kernel_rfl) (by kernel_rfl) (by kernel_rfl) (fun _ _ _ _ h => h) (by rfl) (fun w hS => by have q0 := hS.cell 0; simp only [List.getElem?_cons_zero] at q0; simp [execOp, go_sem, q0]) hHeld ?_
      simp only [List.setIfInBounds_toArray, List.set_cons_zero, List.set_cons_succ]
      refine takeY (i := 1) (v := .string t) 33 rfl rfl (by kernel_rfl) (by kernel_rfl) (by kernel_rfl) (fun _ _ _ _ h => h) (by rfl) (fun w hS => by simp [execOp, go_sem, *]) hHeld ?_
      simp only [List.setIfInBounds_toArray, List.set_cons_zero, List.set_cons_succ]
      refine callY (i := 2) (f := 138) (args := #[.string t]) (R := fun r wz => r = .int .i64 (tkX.u t : Nat) ∧ wz = W.drew) 34 rfl rfl (by rfl) (by kernel_rfl) (by simp [execOp, go_sem]) ((unhide HSw).mono fun e w6 ⟨he, hb⟩ => ⟨_, he, rfl, hb⟩) ?_
      rintro vs W5 ⟨rfl, rfl⟩
      refine ⟨hHeld, ?_⟩
      simp only [List.setIfInBounds_toArray, List.set_cons_zero, List.set_cons_succ]
      refine takeY (i := 3) (v := .agg #[.int .i64 (tkX.u t : Nat), .int .i64 0, .int .i64 0, .string ⟨#[]⟩, .string ⟨#[]⟩]) 35 rfl rfl (by kernel_rfl) (by kernel_rfl) (by kernel_rfl) (fun _ _ _ _ h => h) (by rfl) (fun w hS => by simp [execOp, go_sem, *]) hHeld ?_
      simp only [List.setIfInBounds_toArray, List.set_cons_zero, List.set_cons_succ]
      refine callY (i := 4) (f := 123) (args := #[.pointer (some ⟨R, 0, none⟩), .agg #[.int .i64 (tkX.u t : Nat), .int .i64 0, .int .i64 0, .string ⟨#[]⟩, .string ⟨#[]⟩]]) (R := fun r wz => ∃ v3, Rdr w0 a c l wz i' d v3 (ns ++ (en ++ pre.map (fun x => opNd (tkX.u (pk ss x)))) ++ [opNd (tkX.u t)]) ∧ AddK R W.drew wz v2 v3) 36 rfl rfl (by rfl) (by kernel_rfl) (by simp [execOp, go_sem]) ((unhide HAd).mono fun e w6 ⟨he, v3, hb1, hb2⟩ => ⟨_, he, v3, hb1, hb2⟩) ?_
      rintro vs W6 ⟨v3, hr6, hk6⟩
      have ho := (unhide HR1).own.keep ((Below.refl W.heap.size W).drew)
      have hk' : AddK R W W6 v2 v3 := (AddK.of_below v2 ((Below.refl W.heap.size W).drew)).trans hk6
      have hS6 := hk'.blk (unhide HR2) (by omega) (own_ty (unhide HR1).own (unhide HR2) (by decide))
      refine ⟨hS6, ?_⟩
      refine wpAnyH_done (by kernel_rfl) ?_ _
      have hRb := (unhide HR1).blk
      rw [unhide HR] at hRb
      have hW3R : W3.heap.size ≠ R := by omega
      have HF := hide (show KeepsOthers W W6 ∧ ∃ v2, Rdr w0 a c l W6 i' d v2 (ns ++ (en ++ (pre ++ [x]).map (fun x => opNd (tkX.u (pk ss x))))) ∧ Blk W6 w.heap.size 104 [.pointer (some ⟨R, 0, none⟩)] ∧ Blk W6 W3.heap.size 48 [.slice (cutA a i c 1) ss.length (c - i)] ∧ AddK R w W6 v v2 from ⟨hk'.others hRb (unhide HR1).own, v3, by
        rw [show ns ++ (en ++ (pre ++ [x]).map (fun x => opNd (tkX.u (pk ss x)))) = ns ++ (en ++ pre.map (fun x => opNd (tkX.u (pk ss x)))) ++ [opNd (tkX.u t)] by simp [unhide HTx]]
        exact hr6, hS6, hk'.blk (unhide HR3) hW3R (own_ty (unhide HR1).own (unhide HR3) (by decide)), (unhide HR4).trans hk'⟩)
      clear hr6 hk6 ho hk' hS6 hRb hHeld
      gi_wp2_with fail
      exact unhide HF
    case done =>
      rintro D xs W hD hS ⟨v2, h1, h2, h3, h4⟩ hK
      subst hS
      rw [back_map] at h1
      have H1 := hide h1; have H4 := hide h4; have HK9 := hide hK
      clear h1 h2 h3 h4 hK
      gi_wp2_with fail
      refine ⟨by simp, .inl ⟨_, _, rfl, run_takeDeferred (unhide HK9), ?_⟩⟩
      refine ⟨.tuple #[], by simp [results, Tryz.f119, go_sem], ?_⟩
      refine .inr ⟨_, i', v2, unhide HX, rfl, by omega, h2, ?_, ?_, ?_⟩
      · have := unhide HSl
        simp only [List.length_append, List.length_map, List.length_reverse]
        omega
      · exact (unhide H1).keepC (KeepC.put _ (unhide HK9) rfl (Nat.le_refl _)) (by have := unhide HR; omega)
      · rw [unhide HR]; exact (unhide H4).keepC (KeepC.put _ (unhide HK9) rfl (Nat.le_refl _)) (by omega)
theorem signed_of {w0 : World} {a : Option Addr} {c : Nat} {l : List ByteArray} {w : World} {i d : Nat} {v : Value} {ns : List Nx} (hc : RC w0 a l) (hcl : l.length ≤ c) (hi : i ≤ l.length) (hn : ns.length ≤ i) (h : Rdr w0 a c l w i d v ns)
    (hA : ∀ (k : Nat) (w : World), i ≤ k → k ≤ l.length → Rdr w0 a c l w k d v ns → Calls Tryz.prog 139 #[.pointer (some ⟨w0.heap.size, 0, none⟩)] w (RdO w0 a c l .atm w k d v ns)) :
    Calls Tryz.prog 119 #[.pointer (some ⟨w0.heap.size, 0, none⟩)] w (RdO w0 a c l (.op 6) w i d v ns) :=
  (callsIn_wide (n := 9)).1 (signed_in 9 hc hcl hi hn h hA)
end Go.Proofs.YtjgngbmkpiihgaaGreatDoor
