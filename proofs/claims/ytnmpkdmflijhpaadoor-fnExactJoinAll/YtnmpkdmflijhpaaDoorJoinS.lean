/- The model's JoinAll. -/
import Derived.Test.YtnmpkdmflijhpaaDoorBoth
import Derived.Test.YtnmpkdmflijhpaaDoorJoin1
import Derived.Test.YtnmpkdmflijhpaaDoorOwn
namespace Go.Proofs.YtnmpkdmflijhpaaDoor
open Go Go.RowKit

def upP (f : Nat → Bool) (y : Nat → Nat) (n m d : Nat) : Bool := (List.range m).all fun i => f (y i * n + d)
theorem upP_succ (f : Nat → Bool) (y : Nat → Nat) (n m d : Nat) : upP f y n (m + 1) d = (upP f y n m d && f (y m * n + d)) := by
  simp [upP, List.range_succ]
theorem upP_iff {f : Nat → Bool} {y : Nat → Nat} {n m d : Nat} : upP f y n m d = true ↔ ∀ i, i < m → f (y i * n + d) = true := by
  simp [upP]
def upS (f : Nat → Bool) (y : Nat → Nat) (n m k : Nat) : List Nat := (List.range k).filter (upP f y n m)
theorem upS_succ (f : Nat → Bool) (y : Nat → Nat) (n m k : Nat) : upS f y n m (k + 1) = upS f y n m k ++ (if upP f y n m k then [k] else []) := by
  simp only [upS, List.range_succ, List.filter_append, List.filter_cons, List.filter_nil]
theorem upS_len (f : Nat → Bool) (y : Nat → Nat) (n m k : Nat) : (upS f y n m k).length ≤ k := by
  have := List.length_filter_le (upP f y n m) (List.range k); simpa [upS] using this
theorem upS_mem {f : Nat → Bool} {y : Nat → Nat} {n m k d : Nat} : d ∈ upS f y n m k ↔ d < k ∧ upP f y n m d = true := by
  simp [upS]
def leA (f : Nat → Bool) (U : Nat → Nat) (n p s : Nat) : Bool := (List.range s).all fun q => f (U p * n + U q)
theorem leA_succ (f : Nat → Bool) (U : Nat → Nat) (n p s : Nat) : leA f U n p (s + 1) = (leA f U n p s && f (U p * n + U s)) := by
  simp [leA, List.range_succ]
theorem leA_iff {f : Nat → Bool} {U : Nat → Nat} {n p s : Nat} : leA f U n p s = true ↔ ∀ q, q < s → f (U p * n + U q) = true := by
  simp [leA]
theorem leA_no {f : Nat → Bool} {U : Nat → Nat} {n p s : Nat} (h : leA f U n p s = false) : ∃ q, q < s ∧ f (U p * n + U q) = false := by
  apply Classical.byContradiction; intro hn
  have : leA f U n p s = true := leA_iff.2 fun q hq => by
    cases e : f (U p * n + U q)
    · exact absurd ⟨q, hq, e⟩ hn
    · rfl
  rw [h] at this; cases this
theorem upS_at {f : Nat → Bool} {y : Nat → Nat} {n m k q : Nat} (hq : q < (upS f y n m k).length) : (upS f y n m k).getD q 0 < k ∧ upP f y n m ((upS f y n m k).getD q 0) = true := by
  apply upS_mem.1
  rw [List.getD, List.getElem?_eq_getElem hq, Option.getD_some]
  exact List.getElem_mem hq
theorem upS_idx {f : Nat → Bool} {y : Nat → Nat} {n m k d : Nat} (h1 : d < k) (h2 : upP f y n m d = true) : ∃ q, q < (upS f y n m k).length ∧ (upS f y n m k).getD q 0 = d := by
  obtain ⟨q, hq, e⟩ := List.getElem_of_mem (upS_mem.2 ⟨h1, h2⟩)
  exact ⟨q, hq, by rw [List.getD, List.getElem?_eq_getElem hq, Option.getD_some, e]⟩
set_option maxRecDepth 100000 in
set_option maxHeartbeats 8000000 in
theorem specJoin_any (N bot top : Int) (a1 a2 a3 a4 : Option Addr) (n1 n2 n3 m c1 c2 c3 c4 : Nat) (f : Nat → Bool) (g h x : Nat → Int) (w : World) (hm : m ≤ 1048576)
    (ha : Bools w a1 n1 f) (hb : Ints w a2 n2 g) (hc : Ints w a3 n3 h) (hx : Ints w a4 m x) (V : Bool) (hV : answer N bot top n1 n2 n3 f g h V) :
    Calls Tryd.prog 22 #[.agg #[.int .i64 N, .slice a1 n1 c1, .slice a2 n2 c2, .slice a3 n3 c3, .int .i64 bot, .int .i64 top], .slice a4 m c4] w fun e w' =>
      ∃ r, e = .returned (.int .i64 r) ∧ JoinR N V m f x r ∧ Below w.heap.size w w' := by
  have B0 := Blk.new w 29 #[.int .i64 N, .slice a1 n1 c1, .slice a2 n2 c2, .slice a3 n3 c3, .int .i64 bot, .int .i64 top]
  have BW : Below w.heap.size w (w.alloc (.cells #[.int .i64 N, .slice a1 n1 c1, .slice a2 n2 c2, .slice a3 n3 c3, .int .i64 bot, .int .i64 top] 29)) := (Below.refl _ _).alloc (Nat.le_refl _) _
  obtain ⟨⟨z0, z1, z2, z3, z4, z5⟩, -⟩ := six B0
  have H0 := hide B0; have HW := hide BW; clear B0 BW
  have HV := hide hV; clear hV
  go_enter Tryd.func22, Tryd.ntmps22
  go_wp2_with fail
  refine (specValid_any N bot top _ _ _ n1 n2 n3 _ _ _ f g h _ (ha.mono (unhide HW)) (hb.mono (unhide HW)) (hc.mono (unhide HW)) V (unhide HV)).mono ?_
  rintro e w1 ⟨rfl, hb1⟩
  replace H0 := hide ((unhide H0).mono hb1 (unhide H0).lt); replace HW := hide ((unhide HW).trans (hb1.mono (unhide HW).size)); clear hb1 z0 z1 z2 z3 z4 z5
  obtain ⟨⟨z0, z1, z2, z3, z4, z5⟩, -⟩ := six (unhide H0)
  cases V
  · clear z0 z1 z2 z3 z4 z5
    go_wp2
    go_ret
    exact ⟨-1, rfl, .inl ⟨.inl rfl, rfl⟩, unhide HW⟩
  by_cases h4 : 4096 < m
  · have d4 : decide ((4096 : Int) < m) = true := by simp; omega
    go_wp2
    go_ret
    exact ⟨-1, rfl, .inl ⟨.inr (.inl h4), rfl⟩, unhide HW⟩
  have d4 : decide ((4096 : Int) < m) = false := by simp; omega
  obtain ⟨n, bt, tp, hv⟩ := (unhide HV).1 rfl
  obtain rfl := hv.hN
  obtain rfl := hv.hb
  have h1 := hv.h1; have h32 := hv.h32
  have HL1 : Hid (n * n ≤ n1) := Nat.le_of_eq hv.l1.symm
  have HP := hide hv; clear hv HV
  have hx1 := hx.mono (unhide HW)
  have ha1 := ha.mono (unhide HW)
  clear ha hb hc hx
  go_wp2_with fail
  clear d4
  go_loop [6] (fun i => ∃ k : Nat, k ≤ m ∧ i = .int .i64 k ∧ ∀ i, i < k → 0 ≤ x i ∧ x i < n) (fun i => m - (intOf i).toNat)
  case atStart => exact ⟨0, Nat.zero_le _, rfl, fun i hi => absurd hi (Nat.not_lt_zero _)⟩
  case round =>
    obtain ⟨k, hk, rfl, hall⟩ := hrel
    have HA := hide hall; clear hall
    by_cases hlt : k < m
    · obtain ⟨b4, o4, rfl, -, e4⟩ := hx1 k hlt
      by_cases hneg : x k < 0
      · have HR : Hid (JoinR n true m f x (-1)) := .inl ⟨.inr (.inr ⟨k, hlt, .inl hneg⟩), rfl⟩
        go_wp2
        go_ret
        exact ⟨-1, rfl, unhide HR, unhide HW⟩
      by_cases hbig : (n : Int) ≤ x k
      · have HR : Hid (JoinR n true m f x (-1)) := .inl ⟨.inr (.inr ⟨k, hlt, .inr hbig⟩), rfl⟩
        go_wp2
        go_ret
        exact ⟨-1, rfl, unhide HR, unhide HW⟩
      have HS : Hid (∀ i, i < k + 1 → 0 ≤ x i ∧ x i < n) := fun i hi => by
        by_cases e : i = k
        · subst e; omega
        · exact unhide HA i (by omega)
      go_wp2
      go_round
      case rel => exact ⟨k + 1, by omega, by go_num, unhide HS⟩
      case measure => simp [intOf]; omega
    · obtain rfl : k = m := by omega
      clear hlt hk
      obtain ⟨y, hy⟩ : ∃ y : Nat → Nat, ∀ i, i < k → x i = y i ∧ y i < n := ⟨fun i => (x i).toNat, fun i hi => by have := unhide HA i hi; dsimp only; omega⟩
      have HY := hide hy; clear hy HA
      go_wp2_with fail
      have HB0 : Hid (Below w1.heap.size w1 (w1.alloc (.cells #[] 3))) := (Below.refl _ _).alloc (Nat.le_refl _) _
      have hH0 := (unhide H0).lt
      have S1 := (unhide HW).size
      clear z0 z1 z2 z3 z4 z5
      go_loopw [7, 8] (fun v i wr => ∃ j : Nat, j ≤ n ∧ i = .int .i64 j ∧ wr.ownsRow w1.heap.size 3 1 v (upS f y n k j).length (ui (upS f y n k j)) ∧ Below w1.heap.size w1 wr) (fun _ i _ => n - (intOf i).toNat)
      case atStart => exact ⟨0, Nat.zero_le _, rfl, owns_none w1 3, unhide HB0⟩
      case round =>
        clear HB0
        obtain ⟨j, hj, rfl, hown, hbr⟩ := hrel
        have HO := hide hown; have HB := hide hbr
        by_cases hlj : j < n
        · obtain ⟨⟨z0, z1, z2, z3, z4, z5⟩, -⟩ := six ((unhide H0).mono hbr hH0)
          have hx2 := hx1.mono hbr
          have ha2 := ha1.mono hbr
          clear hown hbr
          go_wp2_with fail
          go_loopw [9, 10] (fun v i wr' => ∃ (q t : Nat), q ≤ k ∧ i = .int .i64 q ∧ v = .bool (upP f y n q j) ∧ wr' = wr.drewN t) (fun _ i _ => k - (intOf i).toNat)
          case atStart => exact ⟨0, 0, Nat.zero_le _, rfl, rfl, rfl⟩
          case round =>
            obtain ⟨q, t, hq, rfl, rfl, rfl⟩ := hrel
            by_cases hlq : q < k
            · obtain ⟨b4, o4, rfl, -, e4⟩ := hx2 q hlq
              obtain ⟨ey, hyn⟩ := unhide HY q hlq
              rw [ey] at e4
              have ha3 : ∀ r, Bools (wr.drewN r) a1 n1 f := fun _ => ha2
              cases hf : f (y q * n + j)
              · have HS : Hid (false = upP f y n (q + 1) j) := by rw [Hid, upP_succ, hf, Bool.and_false]
                go_wp2_with fail
                go_quiet (first | (go_at_call 37; refine quiet_plus (l1Leq_any a1 n1 c1 n (y q) j f _ (unhide HL1) hyn hlj h32 ?_); exact ha3 _))
                go_wp2
                go_roundw
                case rel => exact ⟨q + 1, _, by omega, by go_num, congrArg _ (unhide HS), rfl⟩
                case measure => simp [intOf]; omega
              · have HS : Hid (upP f y n q j = upP f y n (q + 1) j) := by rw [Hid, upP_succ, hf, Bool.and_true]
                go_wp2_with fail
                go_quiet (first | (go_at_call 37; refine quiet_plus (l1Leq_any a1 n1 c1 n (y q) j f _ (unhide HL1) hyn hlj h32 ?_); exact ha3 _))
                go_wp2
                go_roundw
                case rel => exact ⟨q + 1, _, by omega, by go_num, congrArg _ (unhide HS), rfl⟩
                case measure => simp [intOf]; omega
            · obtain rfl : q = k := by omega
              have HO2 : Hid ((wr.drewN t).ownsRow w1.heap.size 3 1 u7 (upS f y n q j).length (ui (upS f y n q j))) := unhide HO
              have HB2 : Hid (Below w1.heap.size w1 (wr.drewN t)) := (unhide HB).trans ((below_drewN' wr t).mono (unhide HB).size)
              clear z0 z1 z2 z3 z4 z5 hx2 ha2 HO HB
              cases hup : upP f y n q j
              · have eS : upS f y n q (j + 1) = upS f y n q j := by rw [upS_succ, hup]; simp
                go_wp2_with fail
                go_roundw
                case rel => exact ⟨j + 1, by omega, by go_num, by rw [eS]; exact unhide HO2, unhide HB2⟩
                case measure => simp [intOf]; omega
              · have eS : upS f y n q (j + 1) = upS f y n q j ++ [j] := by rw [upS_succ, hup]; simp
                have hlen := upS_len f y n q j
                obtain ⟨i0, hi, hz0, hz1, hz2⟩ := info_parts info_int
                go_wp2_with (at_builtin; refine wpList_append_own _ rfl _ _ 27 rfl w1.heap.size 3 i0 _ 1 8 Tryd.underlying27 hi hz0 hz1 hz2 rfl (by omega) u7 _ _ rfl ((unhide HO2).alloc _) ⟨(wr.drewN t).heap.size, 0, none⟩ 1 1 [.int .i64 j] rfl rfl ?c1 (by simp [Value.oneCell']) (by unfold maxLen; omega) (by omega) ?c2 ?_)
                case c1 =>
                  intro q' u hq'
                  match q', hq' with
                  | 0, hq' => simp at hq'; subst hq'; exact (Blk.new (wr.drewN t) 3 #[.int .i64 j]).cell 0
                case c2 => have : w1.heap.size ≤ wr.heap.size := (unhide HB2).size; simp; omega
                intro v' w' hown' hgrow' _
                have hB' := ((unhide HB2).alloc (unhide HB2).size (.cells #[.int .i64 j] 3)).grown hgrow' (by have : w1.heap.size ≤ wr.heap.size := (unhide HB2).size; simp; omega) (fun q' e => owns_block (unhide HO2) e)
                have HO3 : Hid (w'.ownsRow w1.heap.size 3 1 v' (upS f y n q (j + 1)).length (ui (upS f y n q (j + 1)))) := by
                  rw [Hid, eS]; simpa [ui] using hown'
                have HB3 := hide hB'
                clear hown' hgrow' hB' hi hz0 hz1 hz2
                go_wp2_with fail
                go_roundw
                case rel => exact ⟨j + 1, by omega, by go_num, unhide HO3, unhide HB3⟩
                case measure => simp [intOf]; omega
        · obtain rfl : j = n := by omega
          obtain ⟨a7, cap7, rfl, hI⟩ := ints_of_owns hown
          obtain ⟨⟨z0, z1, z2, z3, z4, z5⟩, -⟩ := six ((unhide H0).mono hbr hH0)
          have ha2 := ha1.mono hbr
          have HBW : Hid (Below w.heap.size w wr) := (unhide HW).trans (hbr.mono (unhide HW).size)
          have hUn : ∀ p, p < (upS f y j k j).length → (upS f y j k j).getD p 0 < j := fun p hp => (upS_at hp).1
          have HU : Hid (∀ p, p < (upS f y j k j).length → upP f y j k ((upS f y j k j).getD p 0) = true) := fun p hp => (upS_at hp).2
          have HI : Hid (∀ d, d < j → upP f y j k d = true → ∃ q, q < (upS f y j k j).length ∧ (upS f y j k j).getD q 0 = d) := fun d => upS_idx
          have hlen := upS_len f y j k j
          obtain ⟨U, hU⟩ : ∃ U : Nat → Nat, U = fun p => (upS f y j k j).getD p 0 := ⟨_, rfl⟩
          obtain ⟨L, hL⟩ : ∃ L, L = (upS f y j k j).length := ⟨_, rfl⟩
          have hI' : Ints wr a7 L (fun p => (U p : Int)) := by rw [hU, hL]; exact hI
          have HUn : Hid (∀ p, p < L → U p < j) := by rw [Hid, hU, hL]; exact hUn
          replace HU : Hid (∀ p, p < L → upP f y j k (U p) = true) := by rw [Hid, hU, hL]; exact unhide HU
          replace HI : Hid (∀ d, d < j → upP f y j k d = true → ∃ q, q < L ∧ U q = d) := by rw [Hid, hU, hL]; exact unhide HI
          rw [← hL] at hlen
          rw [← hL]
          clear hown hbr hI hUn hU hL HO HB
          go_wp2_with fail
          go_loopw [11] (fun i wr' => ∃ (p t : Nat), p ≤ L ∧ i = .int .i64 p ∧ wr' = wr.drewN t ∧ ∀ q, q < p → ∃ s, s < L ∧ f (U q * j + U s) = false) (fun i _ => L - (intOf i).toNat)
          case atStart => exact ⟨0, 0, Nat.zero_le _, rfl, rfl, fun q hq => absurd hq (Nat.not_lt_zero _)⟩
          case round =>
            obtain ⟨p, t, hp, rfl, rfl, hno⟩ := hrel
            have HN := hide hno; clear hno
            by_cases hlp : p < L
            · go_wp2_with fail
              go_loopw [12, 13] (fun v i wr' => ∃ (q t : Nat), q ≤ L ∧ i = .int .i64 q ∧ v = .bool (leA f U j p q) ∧ wr' = wr.drewN t) (fun _ i _ => L - (intOf i).toNat)
              case atStart => exact ⟨0, t, Nat.zero_le _, rfl, rfl, rfl⟩
              case round =>
                obtain ⟨q, t, hq, rfl, rfl, rfl⟩ := hrel
                by_cases hlq : q < L
                · obtain ⟨b7, o7, rfl, -, e7⟩ := hI' p hlp
                  obtain ⟨b8, o8, e8, -, e9⟩ := hI' q hlq
                  simp only [Option.some.injEq, Addr.mk.injEq, and_true] at e8
                  obtain ⟨rfl, rfl⟩ := e8
                  have ha3 : ∀ r, Bools (wr.drewN r) a1 n1 f := fun _ => ha2
                  have up := unhide HUn p hlp
                  have uq := unhide HUn q hlq
                  cases hf : f (U p * j + U q)
                  · have HS : Hid (false = leA f U j p (q + 1)) := by rw [Hid, leA_succ, hf, Bool.and_false]
                    go_wp2_with fail
                    go_quiet (first | (go_at_call 37; refine quiet_plus (l1Leq_any a1 n1 c1 j (U p) (U q) f _ (unhide HL1) up uq h32 ?_); exact ha3 _))
                    go_wp2
                    go_roundw
                    case rel => exact ⟨q + 1, _, by omega, by go_num, congrArg _ (unhide HS), rfl⟩
                    case measure => simp [intOf]; omega
                  · have HS : Hid (leA f U j p q = leA f U j p (q + 1)) := by rw [Hid, leA_succ, hf, Bool.and_true]
                    go_wp2_with fail
                    go_quiet (first | (go_at_call 37; refine quiet_plus (l1Leq_any a1 n1 c1 j (U p) (U q) f _ (unhide HL1) up uq h32 ?_); exact ha3 _))
                    go_wp2
                    go_roundw
                    case rel => exact ⟨q + 1, _, by omega, by go_num, congrArg _ (unhide HS), rfl⟩
                    case measure => simp [intOf]; omega
                · obtain rfl : q = L := by omega
                  cases hle : leA f U j p q
                  · have HS : Hid (∀ s, s < p + 1 → ∃ r, r < q ∧ f (U s * j + U r) = false) := fun s hs => by
                      by_cases e : s = p
                      · rw [e]; exact leA_no hle
                      · exact unhide HN s (by omega)
                    go_wp2_with fail
                    go_roundw
                    case rel => exact ⟨p + 1, _, by omega, by go_num, rfl, unhide HS⟩
                    case measure => simp [intOf]; omega
                  · obtain ⟨b7, o7, rfl, -, e7⟩ := hI' p hlp
                    have HR : Hid (JoinR j true k f x (U p : Nat)) := .inr ⟨rfl, by omega, j, y, U p, rfl, unhide HY, ⟨unhide HUn p hlp, upP_iff.1 (unhide HU p hlp), fun d hd hall => by
                      obtain ⟨s, hs, rfl⟩ := unhide HI d hd (upP_iff.2 hall)
                      exact leA_iff.1 hle s hs⟩, rfl⟩
                    have HZ : Hid (Below w.heap.size w (wr.drewN t)) := (unhide HBW).trans ((below_drewN' wr t).mono (unhide HBW).size)
                    go_wp2
                    go_ret
                    exact ⟨_, rfl, unhide HR, unhide HZ⟩
            · exfalso
              obtain ⟨c, hc⟩ := (unhide HP).lub_is fun i hi => (unhide HY i hi).2
              obtain ⟨q, hq, e⟩ := unhide HI c hc.1 (upP_iff.2 hc.2.1)
              obtain ⟨s, hs, hf⟩ := unhide HN q (by omega)
              rw [e, hc.2.2 (U s) (unhide HUn s hs) (upP_iff.1 (unhide HU s hs))] at hf
              cases hf
end Go.Proofs.YtnmpkdmflijhpaaDoor
