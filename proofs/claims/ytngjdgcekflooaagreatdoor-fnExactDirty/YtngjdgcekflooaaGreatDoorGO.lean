import Derived.Test.YtngjdgcekflooaaGreatDoorGFm
import Derived.Test.YtngjdgcekflooaaGreatDoorGM
import Derived.Test.YtngjdgcekflooaaGreatDoorGA
import Derived.Test.YtngjdgcekflooaaGreatDoorHand
import Derived.Test.YtngjdgcekflooaaGreatDoorOwn
/- The model: what feeds what; the lowest field that is ready. -/
namespace Go.Proofs.YtngjdgcekflooaaGreatDoor
open Go Go.RowKit

theorem rdsN_yes {l : List Nx} {x : ByteArray} {k : Nat} (h : k < l.length) (h1 : (nf l k).op = 1) (h2 : (nf l k).nm = x) : rdsN l x = true := by
  unfold rdsN
  refine List.any_eq_true.2 ⟨l[k], List.getElem_mem h, ?_⟩
  rw [nf_get l k h] at h1 h2
  simp [h1, h2]
theorem rdsN_no {l : List Nx} {x : ByteArray} (h : ∀ k, k < l.length → ¬ ((nf l k).op = 1 ∧ (nf l k).nm = x)) : rdsN l x = false := by
  unfold rdsN
  refine List.any_eq_false.2 fun n hn => ?_
  obtain ⟨k, hk, rfl⟩ := List.mem_iff_getElem.1 hn
  have := h k hk
  rw [nf_get l k hk] at this
  simpa using this

set_option maxRecDepth 100000 in
set_option maxHeartbeats 2000000 in
theorem l4Reads_any (a : Option Addr) (c : Nat) (l : List Nx) (x : ByteArray) (w : World) (hl : l.length ≤ 9223372036854775807) (ha : NodL w a l) :
    Calls Tryz.prog 76 #[.slice a l.length c, .string x] w fun r w' => r = .returned (.bool (rdsN l x)) ∧ Below w.heap.size w w' := by
  have HA := hide ha
  obtain ⟨q, hq⟩ : ∃ q, rdsN l x = q := ⟨_, rfl⟩
  rw [hq]
  have HQ := hide hq
  clear ha hq
  go_enter Tryz.func76, Tryz.ntmps76
  go_wp2_with fail
  go_loopw [5] (fun i wr => ∃ k : Nat, k ≤ l.length ∧ i = .int .i64 k ∧ (∀ j, j < k → ¬ ((nf l j).op = 1 ∧ (nf l j).nm = x)) ∧ Below w.heap.size w wr) (fun i _ => l.length - (intOf i).toNat)
  case atStart => exact ⟨0, Nat.zero_le _, rfl, fun j hj => absurd hj (Nat.not_lt_zero _), Below.refl _ _⟩
  case round =>
    obtain ⟨k, hk, rfl, hall, hb⟩ := hrel
    have HL := hide hall; have HB := hide hb; have HAr := hide ((unhide HA).mono hb)
    clear hall hb
    by_cases hlt : k < l.length
    · have hlt' : (k : Int) < l.length := by omega
      obtain ⟨pb, po, rfl, -, z0, z1, z2, z3, z4⟩ := unhide HAr k hlt
      have HX : Hid ((nf l k).op = 1 → (nf l k).nm = x → q = true) := hide fun h1 h2 => by rw [← unhide HQ, rdsN_yes hlt h1 h2]
      have HG : Hid (¬ ((nf l k).op = 1 ∧ (nf l k).nm = x) → ∀ j, j < k + 1 → ¬ ((nf l j).op = 1 ∧ (nf l j).nm = x)) := hide fun h j hj => by
        by_cases ej : j = k
        · subst ej; exact h
        · exact unhide HL j (by omega)
      generalize nf l k = n at *
      have he := eqS n.nm x
      by_cases h1 : n.op = 1
      · have h1' : (n.op == 1) = true := by rw [h1]; rfl
        by_cases h2 : n.nm = x
        · have HX2 := hide (unhide HX h1 h2)
          rw [decide_eq_true h2] at he
          clear h1 h2
          go_wp2_with fail
          go_ret
          exact ⟨ret_bool (unhide HX2).symm, unhide HB⟩
        · have HG2 := hide (unhide HG fun h => h2 h.2)
          rw [decide_eq_false h2] at he
          clear h1 h2
          go_wp2_with fail
          go_roundw
          case rel => first | exact ⟨k + 1, by omega, by go_num, unhide HG2, unhide HB⟩ | ((repeat apply Exists.intro); exact ⟨⟨k + 1, by omega, by go_num, unhide HG2, unhide HB⟩, rfl⟩)
          case measure => simp [intOf]; omega
      · have h1' : (n.op == 1) = false := by simp [h1]
        have HG2 := hide (unhide HG fun h => h1 h.1)
        clear h1 he
        go_wp2_with fail
        go_roundw
        case rel => first | exact ⟨k + 1, by omega, by go_num, unhide HG2, unhide HB⟩ | ((repeat apply Exists.intro); exact ⟨⟨k + 1, by omega, by go_num, unhide HG2, unhide HB⟩, rfl⟩)
        case measure => simp [intOf]; omega
    · obtain rfl : k = l.length := by omega
      have hlt' : ¬ (l.length : Int) < (l.length : Int) := by omega
      have HX : Hid (q = false) := hide (by rw [← unhide HQ, rdsN_no (unhide HL)])
      go_wp2_with fail
      go_ret
      exact ⟨ret_bool (unhide HX).symm, unhide HB⟩

set_option maxRecDepth 100000 in
set_option maxHeartbeats 2000000 in
theorem l4Feeds_any (m : Fm) (A : MA) (j k : Nat) (w : World) (hj : j < m.fields.length) (hk : k < m.fields.length) (hf : FitM m) (ha : MSl w m A) :
    Calls Tryz.prog 49 #[mV m A, .int .i64 j, .int .i64 k] w fun r w' => r = .returned (.bool (fedB m j k)) ∧ Below w.heap.size w w' := by
  obtain ⟨al, alc, ap, apc, ar, arc, af, afc, afa⟩ := A
  unfold mV
  dsimp only
  have HK := hide (Blk.new w 35 #[.slice al m.labels.length alc, .slice ap m.below.length apc, .slice ar m.roles.length arc, .slice af m.fields.length afc])
  have HB := hide ((Below.refl w.heap.size w).alloc (Nat.le_refl _) (.cells #[.slice al m.labels.length alc, .slice ap m.below.length apc, .slice ar m.roles.length arc, .slice af m.fields.length afc] 35))
  obtain ⟨W0, hW0⟩ : ∃ W0, w.alloc (.cells #[.slice al m.labels.length alc, .slice ap m.below.length apc, .slice ar m.roles.length arc, .slice af m.fields.length afc] 35) = W0 := ⟨_, rfl⟩
  rw [hW0] at HK HB
  have HS := hide (ha.mono (unhide HB))
  have hj' : (j : Int) < m.fields.length := by omega
  have hk' : (k : Int) < m.fields.length := by omega
  have hfl := hf.fl
  have HE : Hid (fedB m j k = (rdsN m.fields[k].is m.fields[j].nm || rdsN m.fields[k].wh m.fields[j].nm)) := hide (by unfold fedB; rw [fAt_get hj, fAt_get hk])
  have HI := hide (hf.f _ (List.getElem_mem hk))
  clear ha hf
  obtain ⟨b, o, e1, ⟨-, z0, -⟩, -⟩ := (unhide HS).f j hj
  obtain ⟨b', o', e2, ⟨hbl, -, -, -, -, x4, x5, -⟩, hsl⟩ := (unhide HS).f k hk
  dsimp only at e1 e2 x4 x5 hsl
  subst e1
  cases e2
  have HSl := hide hsl
  clear hsl
  generalize m.fields[j].nm = nm at *
  generalize m.fields[k] = f at *
  generalize afa k = fa at *
  obtain ⟨ab, abc, ai, aic, ah, ahc, av, avc, au, auc⟩ := fa
  dsimp only at x4 x5
  have HC1 := hide (l4Reads_any ai aic f.is nm W0 (unhide HI).il (unhide HSl).i)
  obtain ⟨y0, y1, y2, y3⟩ := quad (unhide HK)
  generalize fedB m j k = q at *
  go_enter Tryz.func49, Tryz.ntmps49
  go_wp2_with fail
  try rw [hW0]
  refine (unhide HC1).mono ?_
  rintro r W1 ⟨rfl, hb⟩
  have hx5 := (hb.cell (p := ⟨b, o + k * 9 + 5, none⟩) hbl).trans x5
  replace HK := hide ((unhide HK).mono hb (unhide HK).lt); replace HB := hide ((unhide HB).trans (hb.mono (unhide HB).size)); replace HSl := hide ((unhide HSl).mono hb)
  clear hb hW0 y0 y1 y2 y3 z0 x4 x5 HC1
  obtain ⟨y0, y1, y2, y3⟩ := quad (unhide HK)
  cases hr : rdsN f.is nm
  · have HC2 := hide (l4Reads_any ah ahc f.wh nm W1 (unhide HI).hl (unhide HSl).h)
    have HX : Hid (q = rdsN f.wh nm) := hide (by rw [unhide HE, hr]; rfl)
    clear hr
    go_wp2_with fail
    refine (unhide HC2).mono ?_
    rintro r W2 ⟨rfl, hb⟩
    replace HB := hide ((unhide HB).trans (hb.mono (unhide HB).size))
    clear hb
    go_wp2_with fail
    go_ret
    exact ⟨ret_bool (unhide HX).symm, unhide HB⟩
  · have HX : Hid (q = true) := hide (by rw [unhide HE, hr]; rfl)
    clear hr
    go_wp2_with fail
    go_ret
    exact ⟨ret_bool (unhide HX).symm, unhide HB⟩

/-- Places, in memory. -/
def Plc (w : World) (a : Option Addr) (l : List Nat) : Prop := IntL w a (l.map fun x : Nat => (x : Int))
theorem Plc.mono {w w' : World} {a : Option Addr} {l : List Nat} (h : Plc w a l) (hb : Below w.heap.size w w') : Plc w' a l := IntL.mono h hb
theorem Plc.at {w : World} {a : Option Addr} {l : List Nat} (h : Plc w a l) (k : Nat) (hk : k < l.length) : ∃ b o, a = some ⟨b, o, none⟩ ∧ b < w.heap.size ∧ w.cell? ⟨b, o + k, none⟩ = some (.int .i64 (l[k] : Int)) := by
  obtain ⟨b, o, e, h1, h2⟩ := h k (by simpa using hk)
  refine ⟨b, o, e, h1, ?_⟩
  rw [h2]
  dsimp only
  rw [List.getD_eq_getElem?_getD, List.getElem?_map, List.getElem?_eq_getElem hk]
  rfl

set_option maxRecDepth 100000 in
set_option maxHeartbeats 2000000 in
theorem l4Has_any (a : Option Addr) (c : Nat) (l : List Nat) (x : Nat) (w : World) (hl : l.length ≤ 9223372036854775807) (ha : Plc w a l) :
    Calls Tryz.prog 48 #[.slice a l.length c, .int .i64 x] w fun r w' => r = .returned (.bool (decide (x ∈ l))) ∧ Below w.heap.size w w' := by
  have HA := hide ha
  clear ha
  obtain ⟨q, hq⟩ : ∃ q, decide (x ∈ l) = q := ⟨_, rfl⟩
  rw [hq]
  have HQ := hide hq
  clear hq
  go_enter Tryz.func48, Tryz.ntmps48
  go_wp2_with fail
  go_loopw [5] (fun i wr => ∃ k : Nat, k ≤ l.length ∧ i = .int .i64 k ∧ (∀ j (h : j < l.length), j < k → l[j] ≠ x) ∧ Below w.heap.size w wr) (fun i _ => l.length - (intOf i).toNat)
  case atStart => exact ⟨0, Nat.zero_le _, rfl, fun j _ hj => absurd hj (Nat.not_lt_zero _), Below.refl _ _⟩
  case round =>
    obtain ⟨k, hk, rfl, hall, hb⟩ := hrel
    have HL := hide hall; have HB := hide hb; have HAr := hide ((unhide HA).mono hb)
    clear hall hb
    by_cases hlt : k < l.length
    · have hlt' : (k : Int) < l.length := by omega
      obtain ⟨b, o, rfl, -, z0⟩ := (unhide HAr).at k hlt
      have HX : Hid (l[k] = x → q = true) := hide fun h => by rw [← unhide HQ]; exact decide_eq_true (h ▸ List.getElem_mem hlt)
      have HG : Hid (l[k] ≠ x → ∀ j (h : j < l.length), j < k + 1 → l[j] ≠ x) := hide fun h j hj hjk => by
        by_cases ej : j = k
        · subst ej; exact h
        · exact unhide HL j hj (by omega)
      generalize l[k] = u at *
      by_cases he : u = x
      · have he' : ((u : Int) == (x : Int)) = true := by rw [he]; simp
        have HX2 := hide (unhide HX he)
        clear he
        go_wp2_with fail
        go_ret
        exact ⟨ret_bool (unhide HX2).symm, unhide HB⟩
      · have he' : ((u : Int) == (x : Int)) = false := beq_eq_false_iff_ne.2 (by omega)
        have HG2 := hide (unhide HG he)
        clear he
        go_wp2_with fail
        go_roundw
        case rel => first | exact ⟨k + 1, by omega, by go_num, unhide HG2, unhide HB⟩ | ((repeat apply Exists.intro); exact ⟨⟨k + 1, by omega, by go_num, unhide HG2, unhide HB⟩, rfl⟩)
        case measure => simp [intOf]; omega
    · obtain rfl : k = l.length := by omega
      have hlt' : ¬ (l.length : Int) < (l.length : Int) := by omega
      have HX : Hid (q = false) := hide (by
        rw [← unhide HQ]
        refine decide_eq_false fun h => ?_
        obtain ⟨j, hj, e⟩ := List.mem_iff_getElem.1 h
        exact unhide HL j hj hj e)
      go_wp2_with fail
      go_ret
      exact ⟨ret_bool (unhide HX).symm, unhide HB⟩
end Go.Proofs.YtngjdgcekflooaaGreatDoor

/- The model: the lowest field that is ready. -/
namespace Go.Proofs.YtngjdgcekflooaaGreatDoor
open Go Go.RowKit

def nxI (m : Fm) (D : List Nat) : Int := match nxt m D with
  | some k => (k : Int)
  | none => -1
theorem nxI_some {m : Fm} {D : List Nat} {k : Nat} (h : nxt m D = some k) : nxI m D = k := by unfold nxI; rw [h]
theorem nxI_none {m : Fm} {D : List Nat} (h : nxt m D = none) : nxI m D = -1 := by unfold nxI; rw [h]
def upTo (m : Fm) (D : List Nat) (k j : Nat) : Bool := (List.range j).all fun i => !fedB m i k || decide (i ∈ D)
theorem upTo_succ (m : Fm) (D : List Nat) (k j : Nat) : upTo m D k (j + 1) = (upTo m D k j && (!fedB m j k || decide (j ∈ D))) := by
  unfold upTo
  rw [List.range_succ, List.all_append]
  simp
theorem rdyB_eq (m : Fm) (D : List Nat) (k : Nat) : rdyB m D k = (!decide (k ∈ D) && upTo m D k m.fields.length) := rfl

set_option maxRecDepth 100000 in
set_option maxHeartbeats 4000000 in
theorem l4Next_any (m : Fm) (A : MA) (a : Option Addr) (c : Nat) (D : List Nat) (w : World) (hn : m.fields.length ≤ 200) (hDl : D.length ≤ 200) (hf : FitM m) (ha : MSl w m A) (hD : Plc w a D) :
    Calls Tryz.prog 21 #[mV m A, .slice a D.length c] w fun r w' => r = .returned (.int .i64 (nxI m D)) ∧ Below w.heap.size w w' := by
  obtain ⟨al, alc, ap, apc, ar, arc, af, afc, afa⟩ := A
  have HCf := hide fun W j k (hj : j < m.fields.length) (hk : k < m.fields.length) (hs : MSl W m ⟨al, alc, ap, apc, ar, arc, af, afc, afa⟩) => l4Feeds_any m ⟨al, alc, ap, apc, ar, arc, af, afc, afa⟩ j k W hj hk hf hs
  have HCh := hide fun W x (hs : Plc W a D) => l4Has_any a c D x W (by omega) hs
  unfold mV at HCf ⊢
  dsimp only at HCf ⊢
  have HK := hide (Blk.new w 35 #[.slice al m.labels.length alc, .slice ap m.below.length apc, .slice ar m.roles.length arc, .slice af m.fields.length afc])
  have HB := hide ((Below.refl w.heap.size w).alloc (Nat.le_refl _) (.cells #[.slice al m.labels.length alc, .slice ap m.below.length apc, .slice ar m.roles.length arc, .slice af m.fields.length afc] 35))
  obtain ⟨W0, hW0⟩ : ∃ W0, w.alloc (.cells #[.slice al m.labels.length alc, .slice ap m.below.length apc, .slice ar m.roles.length arc, .slice af m.fields.length afc] 35) = W0 := ⟨_, rfl⟩
  rw [hW0] at HK HB
  have HS := hide (ha.mono (unhide HB)); have HP := hide (hD.mono (unhide HB))
  have HX1 : Hid (∀ k, k < m.fields.length → rdyB m D k = true → (∀ j, j < k → rdyB m D j = false) → nxI m D = k) := hide fun k hk h1 h2 => nxI_some (nxt_of hk h1 h2)
  have HX2 : Hid ((∀ j, j < m.fields.length → rdyB m D j = false) → nxI m D = -1) := hide fun h => nxI_none (nxt_of_none h)
  generalize nxI m D = q at *
  clear ha hD hf
  obtain ⟨y0, y1, y2, y3⟩ := quad (unhide HK)
  go_enter Tryz.func21, Tryz.ntmps21
  go_wp2_with fail
  try rw [hW0]
  clear hW0 y0 y1 y2 y3
  go_loopw [5, 6, 7] (fun i _ _ wr => ∃ k : Nat, k ≤ m.fields.length ∧ i = .int .i64 k ∧ (∀ j, j < k → rdyB m D j = false) ∧ Below W0.heap.size W0 wr) (fun i _ _ _ => m.fields.length - (intOf i).toNat)
  case atStart => exact ⟨0, Nat.zero_le _, rfl, fun j hj => absurd hj (Nat.not_lt_zero _), Below.refl _ _⟩
  case round =>
    obtain ⟨k, hk, rfl, hall, hb⟩ := hrel
    have HL := hide hall; have HB1 := hide hb; have HKr := hide ((unhide HK).mono hb (unhide HK).lt); have HPr := hide ((unhide HP).mono hb)
    obtain ⟨y0, y1, y2, y3⟩ := quad (unhide HKr)
    clear hall hb
    by_cases hlt : k < m.fields.length
    · have hlt' : (k : Int) < m.fields.length := by omega
      have HG : Hid (rdyB m D k = false → ∀ j, j < k + 1 → rdyB m D j = false) := hide fun h j hj => by
        by_cases ej : j = k
        · subst ej; exact h
        · exact unhide HL j (by omega)
      go_wp2_with fail
      refine (unhide HCh wr k (unhide HPr)).mono ?_
      rintro r W1 ⟨rfl, hb⟩
      have HB2 := hide ((unhide HB1).trans (hb.mono (unhide HB1).size))
      clear hb y0 y1 y2 y3
      by_cases hin : k ∈ D
      · rw [decide_eq_true hin]
        have HG2 := hide (unhide HG (by rw [rdyB_eq, decide_eq_true hin]; rfl))
        clear hin
        go_wp2_with fail
        go_roundw
        case rel => first | exact ⟨k + 1, by omega, by go_num, unhide HG2, unhide HB2⟩ | ((repeat apply Exists.intro); exact ⟨⟨k + 1, by omega, by go_num, unhide HG2, unhide HB2⟩, rfl⟩)
        case measure => simp [intOf]; omega
      · rw [decide_eq_false hin]
        have HR : Hid (rdyB m D k = upTo m D k m.fields.length) := hide (by rw [rdyB_eq, decide_eq_false hin]; rfl)
        clear hin
        go_wp2_with fail
        go_loopw [6, 7] (fun v i w3 => ∃ (j : Nat), j ≤ m.fields.length ∧ i = .int .i64 j ∧ v = .bool (upTo m D k j) ∧ Below W0.heap.size W0 w3) (fun _ i _ => m.fields.length - (intOf i).toNat)
        case atStart => exact ⟨0, Nat.zero_le _, rfl, rfl, unhide HB2⟩
        case round =>
          clear HB1 HKr HPr HB2
          obtain ⟨j, hj, rfl, rfl, hb⟩ := hrel
          have HB2 := hide hb; have HKr := hide ((unhide HK).mono hb (unhide HK).lt); have HPr := hide ((unhide HP).mono hb); have HSr := hide ((unhide HS).mono hb)
          obtain ⟨y0, y1, y2, y3⟩ := quad (unhide HKr)
          clear hb
          by_cases hjl : j < m.fields.length
          · have hjl' : (j : Int) < m.fields.length := by omega
            have HU : Hid (upTo m D k (j + 1) = (upTo m D k j && (!fedB m j k || decide (j ∈ D)))) := hide (upTo_succ m D k j)
            go_wp2_with fail
            refine (unhide HCf wr j k hjl hlt (unhide HSr)).mono ?_
            rintro r W2 ⟨rfl, hb⟩
            have HB3 := hide ((unhide HB2).trans (hb.mono (unhide HB2).size)); replace HPr := hide ((unhide HPr).mono hb)
            clear hb y0 y1 y2 y3
            generalize fedB m j k = g at *
            generalize upTo m D k j = u at *
            cases g
            · have HU2 : Hid (u = upTo m D k (j + 1)) := hide (by rw [unhide HU]; simp)
              go_wp2_with fail
              go_roundw
              case rel => first | exact ⟨j + 1, by omega, by go_num, by rw [← unhide HU2], unhide HB3⟩ | ((repeat apply Exists.intro); exact ⟨⟨j + 1, by omega, by go_num, by rw [← unhide HU2], unhide HB3⟩, rfl⟩)
              case measure => simp [intOf]; omega
            · go_wp2_with fail
              refine (unhide HCh W2 j (unhide HPr)).mono ?_
              rintro r W3 ⟨rfl, hb⟩
              have HB4 := hide ((unhide HB3).trans (hb.mono (unhide HB3).size))
              clear hb
              generalize decide (j ∈ D) = d at *
              cases d
              · have HU2 : Hid (false = upTo m D k (j + 1)) := hide (by rw [unhide HU]; simp)
                go_wp2_with fail
                go_roundw
                case rel => first | exact ⟨j + 1, by omega, by go_num, by rw [← unhide HU2], unhide HB4⟩ | ((repeat apply Exists.intro); exact ⟨⟨j + 1, by omega, by go_num, by rw [← unhide HU2], unhide HB4⟩, rfl⟩)
                case measure => simp [intOf]; omega
              · have HU2 : Hid (u = upTo m D k (j + 1)) := hide (by rw [unhide HU]; simp)
                go_wp2_with fail
                go_roundw
                case rel => first | exact ⟨j + 1, by omega, by go_num, by rw [← unhide HU2], unhide HB4⟩ | ((repeat apply Exists.intro); exact ⟨⟨j + 1, by omega, by go_num, by rw [← unhide HU2], unhide HB4⟩, rfl⟩)
                case measure => simp [intOf]; omega
          · obtain rfl : j = m.fields.length := by omega
            have hjl' : ¬ (m.fields.length : Int) < (m.fields.length : Int) := by omega
            rw [← unhide HR]
            cases hr : rdyB m D k
            · have HG2 := hide (unhide HG hr)
              clear hr
              go_wp2_with fail
              go_roundw
              case rel => first | exact ⟨k + 1, by omega, by go_num, unhide HG2, unhide HB2⟩ | ((repeat apply Exists.intro); exact ⟨⟨k + 1, by omega, by go_num, unhide HG2, unhide HB2⟩, rfl⟩)
              case measure => simp [intOf]; omega
            · have HX : Hid (q = k) := hide (unhide HX1 k hlt hr (unhide HL))
              clear hr
              go_wp2_with fail
              go_ret
              exact ⟨ret_int (unhide HX).symm, (unhide HB).trans ((unhide HB2).mono (unhide HB).size)⟩
    · obtain rfl : k = m.fields.length := by omega
      have hlt' : ¬ (m.fields.length : Int) < (m.fields.length : Int) := by omega
      have HX : Hid (q = -1) := hide (unhide HX2 (unhide HL))
      go_wp2_with fail
      go_ret
      exact ⟨ret_int (unhide HX).symm, (unhide HB).trans ((unhide HB1).mono (unhide HB).size)⟩
end Go.Proofs.YtngjdgcekflooaaGreatDoor

/- The model: the order of calculation (where the model's ValidForm is known). -/
namespace Go.Proofs.YtngjdgcekflooaaGreatDoor
open Go Go.RowKit

def calcX (m : Fm) : List Nat := if vfB m then calcL m else []
theorem plc_of_owns {w : World} {base : Nat} {e : TypeId} {v : Value} {n : Nat} {us : List Nat} (h : w.ownsRow base e 1 v n (ui us)) : ∃ a cap, v = .slice a n cap ∧ n = us.length ∧ Plc w a us := by
  have hlen : us.length = n := by have := h.1; simpa [ui] using this
  obtain ⟨a, cap, e1, hi⟩ := ints_of_owns h
  refine ⟨a, cap, e1, hlen.symm, fun k hk => ?_⟩
  have hk' : k < us.length := by simpa using hk
  obtain ⟨b, o, e2, h1, h2⟩ := hi k (by omega)
  refine ⟨b, o, e2, h1, ?_⟩
  rw [h2]
  dsimp only
  rw [List.getD_eq_getElem?_getD, List.getElem?_eq_getElem hk', List.getD_eq_getElem?_getD, List.getElem?_map, List.getElem?_eq_getElem hk']
  rfl
theorem own_keep {w w' : World} {base n : Nat} {e : TypeId} {v : Value} {xs : List Value} (h : w.ownsRow base e 1 v n xs) (hb : Below w.heap.size w w') : w'.ownsRow base e 1 v n xs :=
  h.kept (row := none) ⟨hb.os, hb.tape, hb.output, hb.size, fun k hk _ => hb.block k hk⟩ (Classical.em _)
theorem plc_nil (w : World) (a : Option Addr) : Plc w a [] := fun _ hk => absurd hk (Nat.not_lt_zero _)

set_option maxRecDepth 100000 in
set_option maxHeartbeats 4000000 in
theorem specCalc_of (m : Fm) (A : MA) (w : World) (hV : ∀ W, MSl W m A → Calls Tryz.prog 20 #[mV m A] W fun r w' => r = .returned (.bool (vfB m)) ∧ Below W.heap.size W w') (hv : vfB m = true → m.fields.length ≤ 200) (hf : FitM m) (ha : MSl w m A) :
    Calls Tryz.prog 6 #[mV m A] w fun r w' => ∃ a0 c0, r = .returned (.slice a0 (calcX m).length c0) ∧ Plc w' a0 (calcX m) ∧ Below w.heap.size w w' := by
  have HN := hide fun W (c : Nat) (a : Option Addr) (D : List Nat) (hn : m.fields.length ≤ 200) (hD : D.length ≤ 200) (hs : MSl W m A) (hp : Plc W a D) => l4Next_any m A a c D W hn hD hf hs hp
  obtain ⟨al, alc, ap, apc, ar, arc, af, afc, afa⟩ := A
  have HV := hide hV
  unfold mV at HN HV ⊢
  dsimp only at HN HV ⊢
  have HK := hide (Blk.new w 35 #[.slice al m.labels.length alc, .slice ap m.below.length apc, .slice ar m.roles.length arc, .slice af m.fields.length afc])
  have HB := hide ((Below.refl w.heap.size w).alloc (Nat.le_refl _) (.cells #[.slice al m.labels.length alc, .slice ap m.below.length apc, .slice ar m.roles.length arc, .slice af m.fields.length afc] 35))
  obtain ⟨W0, hW0⟩ : ∃ W0, w.alloc (.cells #[.slice al m.labels.length alc, .slice ap m.below.length apc, .slice ar m.roles.length arc, .slice af m.fields.length afc] 35) = W0 := ⟨_, rfl⟩
  rw [hW0] at HK HB
  have HS := hide (ha.mono (unhide HB)); have HL := hide hv
  clear ha hf hV hv
  obtain ⟨y0, y1, y2, y3⟩ := quad (unhide HK)
  go_enter Tryz.func6, Tryz.ntmps6
  go_wp2_with fail
  try rw [hW0]
  refine (unhide HV W0 (unhide HS)).mono ?_
  rintro r W1 ⟨rfl, hb⟩
  replace HK := hide ((unhide HK).mono hb (unhide HK).lt); replace HS := hide ((unhide HS).mono hb); replace HB := hide ((unhide HB).trans (hb.mono (unhide HB).size))
  clear hb hW0 y0 y1 y2 y3
  obtain ⟨y0, y1, y2, y3⟩ := quad (unhide HK)
  cases hq : vfB m
  · have HX : Hid (calcX m = []) := hide (by unfold calcX; rw [hq]; rfl)
    have HB2 := hide ((unhide HB).alloc (unhide HB).size (.cells #[] 3))
    clear hq
    go_wp2_with fail
    go_ret
    rw [unhide HX]
    first | exact ⟨_, ⟨_, rfl⟩, plc_nil _ _, unhide HB2⟩ | exact ⟨_, _, rfl, plc_nil _ _, unhide HB2⟩
  · have HX : Hid (calcX m = calcL m) := hide (by unfold calcX; rw [hq]; rfl)
    have hn := unhide HL hq
    clear hq
    have HO := hide (owns_none W1 3)
    have HB2 := hide ((Below.refl W1.heap.size W1).alloc (Nat.le_refl _) (.cells #[] 3))
    have HK1 := hide ((unhide HK).alloc (.cells #[] 3))
    obtain ⟨W2, hW2⟩ : ∃ W2, W1.alloc (.cells #[] 3) = W2 := ⟨_, rfl⟩
    rw [hW2] at HO HB2 HK1
    clear y0 y1 y2 y3
    obtain ⟨y0, y1, y2, y3⟩ := quad (unhide HK1)
    go_wp2_with fail
    try rw [hW2]
    clear hW2 y0 y1 y2 y3
    go_loopw [3, 4, 5] (fun v i _ wr => ∃ k : Nat, k ≤ m.fields.length ∧ i = .int .i64 k ∧ (ordL m k).length = k ∧ wr.ownsRow W1.heap.size 3 1 v k (ui (ordL m k)) ∧ Below W1.heap.size W1 wr) (fun _ i _ _ => m.fields.length - (intOf i).toNat)
    case atStart => exact ⟨0, Nat.zero_le _, rfl, rfl, unhide HO, unhide HB2⟩
    case round =>
      clear HO HB2 HK1
      obtain ⟨k, hk, rfl, hlen, hO, hb⟩ := hrel
      have HO := hide hO; have HB1 := hide hb; have HLen := hide hlen
      have HKr := hide ((unhide HK).mono hb (unhide HK).lt); have HSr := hide ((unhide HS).mono hb)
      have hws := hb.size
      obtain ⟨y0, y1, y2, y3⟩ := quad (unhide HKr)
      clear hb hlen
      obtain ⟨a1, c1, rfl, -, hP⟩ := plc_of_owns hO
      have HP := hide hP
      clear hO hP
      by_cases hlt : k < m.fields.length
      · have hlt' : (k : Int) < m.fields.length := by omega
        have HC := hide (unhide HN wr c1 a1 (ordL m k) hn (by rw [unhide HLen]; omega) (unhide HSr) (unhide HP))
        rw [unhide HLen] at HC
        go_wp2_with fail
        refine (unhide HC).mono ?_
        rintro r W3 ⟨rfl, hb⟩
        have hO3 := own_keep (unhide HO) hb
        have HB3 := hide ((unhide HB1).trans (hb.mono hws))
        have HO3 := hide hO3
        have hw3 := (unhide HB3).size
        clear hb hO3 y0 y1 y2 y3
        cases hx : nxt m (ordL m k) with
        | none =>
          rw [nxI_none hx]
          have HX2 : Hid (calcX m = []) := hide (by rw [unhide HX]; exact calcL_stuck hlt hx)
          have HB4 := hide ((unhide HB).trans (((unhide HB3).alloc hw3 (.cells #[] 3)).mono (unhide HB).size))
          clear hx
          go_wp2_with fail
          go_ret
          rw [unhide HX2]
          first | exact ⟨_, ⟨_, rfl⟩, plc_nil _ _, unhide HB4⟩ | exact ⟨_, _, rfl, plc_nil _ _, unhide HB4⟩
        | some x =>
          rw [nxI_some hx]
          have HT : Hid (ordL m (k + 1) = ordL m k ++ [x]) := hide (ordL_some hx)
          have hx0 : ¬ (x : Int) < 0 := by omega
          clear hx
          obtain ⟨i0, hi, hz0, hz1, hz2⟩ := info_parts infoI
          go_wp2_with (at_builtin; refine wpList_append_own _ rfl _ _ 29 rfl W1.heap.size 3 i0 _ 1 8 Tryz.underlying29 hi hz0 hz1 hz2 rfl (by omega) _ _ _ rfl ((unhide HO3).alloc _) ⟨W3.heap.size, 0, none⟩ 1 1 [.int .i64 x] rfl rfl (cell_one W3 3 _) (by simp [Value.oneCell']) (by unfold maxLen; omega) (by omega) (by simp; omega) ?_)
          intro v' w4 ho' hgr' _
          have HB4 := hide (((unhide HB3).alloc hw3 (.cells #[.int .i64 x] 3)).grown hgr' (by simp; omega) (fun q' e => owns_block (unhide HO3) e))
          have HO4 : Hid (w4.ownsRow W1.heap.size 3 1 v' (k + 1) (ui (ordL m (k + 1)))) := hide (by rw [unhide HT]; simpa [ui] using ho')
          have HLen2 : Hid ((ordL m (k + 1)).length = k + 1) := hide (by rw [unhide HT, List.length_append, unhide HLen]; rfl)
          clear ho' hgr' hi hz0 hz1 hz2
          go_wp2_with fail
          go_roundw
          case rel => first | exact ⟨k + 1, by omega, by go_num, unhide HLen2, unhide HO4, unhide HB4⟩ | ((repeat apply Exists.intro); exact ⟨⟨k + 1, by omega, by go_num, unhide HLen2, unhide HO4, unhide HB4⟩, rfl⟩)
          case measure => simp [intOf]; omega
      · obtain rfl : k = m.fields.length := by omega
        have hlt' : ¬ (m.fields.length : Int) < (m.fields.length : Int) := by omega
        have HE : Hid (calcX m = ordL m m.fields.length) := hide (by rw [unhide HX]; exact calcL_full (unhide HLen))
        have HE2 : Hid ((calcX m).length = m.fields.length) := hide (by rw [unhide HE]; exact unhide HLen)
        have HB4 := hide ((unhide HB).trans ((unhide HB1).mono (unhide HB).size))
        go_wp2_with fail
        go_ret
        rw [unhide HE2]
        first | exact ⟨_, ⟨_, rfl⟩, by rw [unhide HE]; exact unhide HP, unhide HB4⟩ | exact ⟨_, _, rfl, by rw [unhide HE]; exact unhide HP, unhide HB4⟩
end Go.Proofs.YtngjdgcekflooaaGreatDoor

/- The model: what feeding leads to; Dirty. -/
namespace Go.Proofs.YtngjdgcekflooaaGreatDoor
open Go Go.RowKit

theorem info_bool3 : (Tryz.prog.info? 4).map (fun i => (i.zero, i.size, i.bytes)) = some (some (.bool false), 1, 1) := by kernel_rfl
theorem ms_made {w : World} {base F n : Nat} (h : w.ownsRow base 4 1 (.slice (some ⟨F, 0, none⟩) n n) n (madeCells #[Value.bool false] n).toList) : Blk w F 4 (ms n fun _ => false) := by
  have hb := Blk.of_owns h
  rw [toList_madeCells_one] at hb
  unfold ms
  rw [List.map_const', List.length_range]
  exact hb

set_option maxRecDepth 100000 in
set_option maxHeartbeats 8000000 in
theorem l4Reach_any (m : Fm) (A : MA) (k : Nat) (w : World) (hk : k < m.fields.length) (hn : m.fields.length ≤ 200) (hf : FitM m) (ha : MSl w m A) :
    Calls Tryz.prog 38 #[mV m A, .int .i64 k] w fun r w' => ∃ G M, r = .returned (.slice (some ⟨G, 0, none⟩) m.fields.length m.fields.length) ∧ w.heap.size ≤ G ∧ Blk w' G 4 (ms m.fields.length M) ∧ (∀ i, i < m.fields.length → (M i = true ↔ Rch m k i)) ∧ Below w.heap.size w w' := by
  have HCf := hide fun W j i (hj : j < m.fields.length) (hi : i < m.fields.length) (hs : MSl W m A) => l4Feeds_any m A j i W hj hi hf hs
  obtain ⟨al, alc, ap, apc, ar, arc, af, afc, afa⟩ := A
  unfold mV at HCf ⊢
  dsimp only at HCf ⊢
  have HK := hide (Blk.new w 35 #[.slice al m.labels.length alc, .slice ap m.below.length apc, .slice ar m.roles.length arc, .slice af m.fields.length afc])
  have HB := hide ((Below.refl w.heap.size w).alloc (Nat.le_refl _) (.cells #[.slice al m.labels.length alc, .slice ap m.below.length apc, .slice ar m.roles.length arc, .slice af m.fields.length afc] 35))
  obtain ⟨W0, hW0⟩ : ∃ W0, w.alloc (.cells #[.slice al m.labels.length alc, .slice ap m.below.length apc, .slice ar m.roles.length arc, .slice af m.fields.length afc] 35) = W0 := ⟨_, rfl⟩
  have hs0 : W0.heap.size = w.heap.size + 1 := by rw [← hW0]; simp
  rw [hW0] at HK HB
  have HS := hide ha
  clear ha hf
  obtain ⟨i0, hi, hz0, hz1, hz2⟩ := info_parts info_bool3
  have hbn : i0.bytes * m.fields.length ≤ 281474976710656 := by rw [hz2]; omega
  obtain ⟨y0, y1, y2, y3⟩ := quad (unhide HK)
  go_enter Tryz.func38, Tryz.ntmps38
  go_wp2_with (at_make; refine wpList_make_full _ rfl (.tmp 14) (.tmp 14) 71 rfl (w.heap.size + 1) 4 i0 _ 1 Tryz.underlying71 hi hz0 hz1 .i64 .i64 _ _ m.fields.length rfl rfl rfl rfl hbn (by unfold maxLen; omega) (by first | omega | (simp; done)) ?_)
  intro w1 hown hgrow
  try rw [hW0] at hown hgrow
  try rw [hW0]
  try rw [hs0] at hown
  try rw [hs0]
  have hb1 : Below (w.heap.size + 1) W0 w1 := (Below.refl _ _).grown hgrow (by omega) (fun k e => by cases e)
  obtain ⟨G, hG⟩ : ∃ G, w.heap.size + 1 = G := ⟨_, rfl⟩
  rw [hG] at hown hb1 hs0
  try rw [hG]
  have HZ := hide (ms_made hown)
  have HKb := hide hb1
  clear hown hgrow hb1 hbn hi hz0 hz1 hz2 hW0 y0 y1 y2 y3
  replace HB := hide ((unhide HB).trans ((unhide HKb).mono (by omega)))
  replace HK := hide ((unhide HK).mono (unhide HKb) (by omega))
  clear HKb
  go_wp2_with fail
  go_loopw [7] (fun v wr => ∃ (rd : Nat) (M : Nat → Bool), rd ≤ m.fields.length ∧ v = .int .i64 rd ∧ Blk wr G 4 (ms m.fields.length M) ∧ Snd m k M ∧ rd ≤ cntB M m.fields.length ∧ Below G w1 wr) (fun v _ => m.fields.length - (intOf v).toNat)
  case atStart => exact ⟨0, _, Nat.zero_le _, rfl, unhide HZ, (fun i h => by cases h), Nat.zero_le _, Below.refl _ _⟩
  case round =>
    clear HZ
    obtain ⟨rd, M, hrd, rfl, hz, hsn, hcn, hb⟩ := hrel
    have HZ := hide hz; have HSn := hide hsn; have HCn := hide hcn; have HBr := hide hb
    clear hz hsn hcn hb
    by_cases hlt : rd < m.fields.length
    · have hlt' : (rd : Int) < m.fields.length := by omega
      go_wp2_with fail
      go_loopw [8, 9] (fun g v w3 => ∃ (j : Nat) (gr : Bool) (M' : Nat → Bool), j ≤ m.fields.length ∧ g = .bool gr ∧ v = .int .i64 j ∧ Blk w3 G 4 (ms m.fields.length M') ∧ Snd m k M' ∧ rd ≤ cntB M' m.fields.length ∧ (gr = true → rd + 1 ≤ cntB M' m.fields.length) ∧ (gr = false → ∀ j', j' < j → Cls m k M' j') ∧ Below G w1 w3) (fun _ v _ => m.fields.length - (intOf v).toNat)
      case atStart => exact ⟨0, false, M, Nat.zero_le _, rfl, rfl, unhide HZ, unhide HSn, unhide HCn, (fun h => by cases h), fun _ j' h => absurd h (Nat.not_lt_zero _), unhide HBr⟩
      case round =>
        clear HZ HSn HCn HBr
        obtain ⟨j, gr, M', hj, rfl, rfl, hz, hsn, hcn, hg1, hg2, hb⟩ := hrel
        have HZ := hide hz; have HSn := hide hsn; have HCn := hide hcn; have HG1 := hide hg1; have HG2 := hide hg2; have HBr := hide hb
        clear hsn hcn hg1 hg2 hb
        by_cases hjl : j < m.fields.length
        · have hjl' : (j : Int) < m.fields.length := by omega
          have zj := (hz.cell j).trans (ms_at M' hjl)
          clear hz
          have hcase : (j = k ∨ (¬ j = k ∧ M' j = true)) ∨ (¬ j = k ∧ M' j = false) := by
            by_cases e : j = k
            · exact .inl (.inl e)
            · cases h : M' j
              · exact .inr ⟨e, rfl⟩
              · exact .inl (.inr ⟨e, rfl⟩)
          rcases hcase with hin | ⟨hne, hf⟩
          · have HJ : Hid (j = k ∨ Rch m k j) := hide (by
              rcases hin with e | ⟨-, e⟩
              · exact .inl e
              · exact .inr (unhide HSn j e))
            have HL : Hid (gr = false → (∀ j', j' < j → Cls m k M' j') ∧ ∀ i', i' < 0 → fedB m j i' = true → M' i' = true) := hide fun h => ⟨unhide HG2 h, fun i' h => absurd h (Nat.not_lt_zero _)⟩
            have hentry : (j = k ∧ ((j : Int) == k) = true) ∨ (((j : Int) == k) = false ∧ M' j = true) := by
              rcases hin with e | ⟨hne, e⟩
              · exact .inl ⟨e, by simp [e]⟩
              · exact .inr ⟨beq_eq_false_iff_ne.2 (by omega), e⟩
            clear hin HG2
            rcases hentry with ⟨-, he⟩ | ⟨he, hm⟩
            case' inl => go_wp2_with fail
            case' inr =>
              rw [hm] at zj
              clear hm
              go_wp2_with fail
            all_goals
              clear zj he
              go_loopw [8, 10] (fun g v w4 => ∃ (i : Nat) (gr : Bool) (M2 : Nat → Bool), i ≤ m.fields.length ∧ g = .bool gr ∧ v = .int .i64 i ∧ Blk w4 G 4 (ms m.fields.length M2) ∧ Snd m k M2 ∧ rd ≤ cntB M2 m.fields.length ∧ (gr = true → rd + 1 ≤ cntB M2 m.fields.length) ∧ (gr = false → (∀ j', j' < j → Cls m k M2 j') ∧ ∀ i', i' < i → fedB m j i' = true → M2 i' = true) ∧ Below G w1 w4) (fun _ v _ => m.fields.length - (intOf v).toNat)
              case atStart => exact ⟨0, gr, M', Nat.zero_le _, rfl, rfl, unhide HZ, unhide HSn, unhide HCn, unhide HG1, unhide HL, unhide HBr⟩
              case round =>
                clear HZ HSn HCn HG1 HL HBr
                obtain ⟨i, gr, M2, hil, rfl, rfl, hz, hsn, hcn, hg1, hg2, hb⟩ := hrel
                have HZ := hide hz; have HSn := hide hsn; have HCn := hide hcn; have HG1 := hide hg1; have HG2 := hide hg2; have HBr := hide hb
                have HKr := hide ((unhide HK).mono hb (by omega))
                have HSr := hide ((unhide HS).mono ((unhide HB).trans (hb.mono (by omega))))
                clear hsn hcn hg1 hg2 hb
                by_cases hilt : i < m.fields.length
                · have hilt' : (i : Int) < m.fields.length := by omega
                  have zi := (hz.cell i).trans (ms_at M2 hilt)
                  clear hz
                  cases hmi : M2 i
                  · rw [hmi] at zi
                    have HMi := hide hmi
                    clear hmi
                    obtain ⟨y0, y1, y2, y3⟩ := quad (unhide HKr)
                    have HC2 := hide (unhide HCf _ j i hjl hilt (unhide HSr))
                    go_wp2_with fail
                    refine (unhide HC2).mono ?_
                    rintro r W2 ⟨rfl, hb2⟩
                    have HZ2 := hide ((unhide HZ).mono hb2 (unhide HZ).lt)
                    have HB2 := hide ((unhide HBr).trans (hb2.mono (by have := (unhide HZ).lt; omega)))
                    clear hb2 HC2 zi y0 y1 y2 y3
                    cases hfe : fedB m j i
                    · have HG3 : Hid (gr = false → (∀ j', j' < j → Cls m k M2 j') ∧ ∀ i', i' < i + 1 → fedB m j i' = true → M2 i' = true) := hide fun h => ⟨(unhide HG2 h).1, fun i' hi' hf' => by
                        by_cases e : i' = i
                        · subst e; rw [hfe] at hf'; cases hf'
                        · exact (unhide HG2 h).2 i' (by omega) hf'⟩
                      clear hfe
                      go_wp2_with fail
                      go_roundw
                      case rel => first | exact ⟨i + 1, gr, M2, by omega, rfl, by go_num, unhide HZ2, unhide HSn, unhide HCn, unhide HG1, unhide HG3, unhide HB2⟩ | ((repeat apply Exists.intro); exact ⟨⟨i + 1, gr, M2, by omega, rfl, by go_num, unhide HZ2, unhide HSn, unhide HCn, unhide HG1, unhide HG3, unhide HB2⟩, rfl⟩)
                      case measure => simp [intOf]; omega
                    · have HS3 := hide ((unhide HSn).up (rch_step (unhide HJ) hilt hfe))
                      have hcu := cntB_up hilt (unhide HMi)
                      have HC3 : Hid (rd + 1 ≤ cntB (up M2 i true) m.fields.length) := hide (by have := unhide HCn; omega)
                      have HC4 : Hid (rd ≤ cntB (up M2 i true) m.fields.length) := hide (by have := unhide HCn; omega)
                      have HZ3 := hide ((unhide HZ2).set i (.bool true))
                      rw [ms_set] at HZ3
                      have HB3 := hide ((unhide HB2).setCell (p := ⟨G, i, none⟩) (Nat.le_refl G) (.bool true))
                      have zi := ((unhide HZ2).cell i).trans (ms_at M2 hilt)
                      have fi := (unhide HZ2).free i
                      clear hfe hcu
                      generalize M2 i = u at zi
                      go_wp2_with fail
                      go_roundw
                      case rel => first | exact ⟨i + 1, true, up M2 i true, by omega, rfl, by go_num, unhide HZ3, unhide HS3, unhide HC4, (fun _ => unhide HC3), (fun h => by cases h), unhide HB3⟩ | ((repeat apply Exists.intro); exact ⟨⟨i + 1, true, up M2 i true, by omega, rfl, by go_num, unhide HZ3, unhide HS3, unhide HC4, (fun _ => unhide HC3), (fun h => by cases h), unhide HB3⟩, rfl⟩)
                      case measure => simp [intOf]; omega
                  · rw [hmi] at zi
                    have HG3 : Hid (gr = false → (∀ j', j' < j → Cls m k M2 j') ∧ ∀ i', i' < i + 1 → fedB m j i' = true → M2 i' = true) := hide fun h => ⟨(unhide HG2 h).1, fun i' hi' hf' => by
                      by_cases e : i' = i
                      · subst e; exact hmi
                      · exact (unhide HG2 h).2 i' (by omega) hf'⟩
                    clear hmi
                    go_wp2_with fail
                    go_roundw
                    case rel => first | exact ⟨i + 1, gr, M2, by omega, rfl, by go_num, unhide HZ, unhide HSn, unhide HCn, unhide HG1, unhide HG3, unhide HBr⟩ | ((repeat apply Exists.intro); exact ⟨⟨i + 1, gr, M2, by omega, rfl, by go_num, unhide HZ, unhide HSn, unhide HCn, unhide HG1, unhide HG3, unhide HBr⟩, rfl⟩)
                    case measure => simp [intOf]; omega
                · obtain rfl : i = m.fields.length := by omega
                  have hilt' : ¬ (m.fields.length : Int) < (m.fields.length : Int) := by omega
                  have HG3 : Hid (gr = false → ∀ j', j' < j + 1 → Cls m k M2 j') := hide fun h j' hj' => by
                    by_cases e : j' = j
                    · subst e
                      exact fun _ i' hi' hf' => (unhide HG2 h).2 i' hi' hf'
                    · exact (unhide HG2 h).1 j' (by omega)
                  clear hz
                  go_wp2_with fail
                  go_roundw
                  case rel => first | exact ⟨j + 1, gr, M2, by omega, rfl, by go_num, unhide HZ, unhide HSn, unhide HCn, unhide HG1, unhide HG3, unhide HBr⟩ | ((repeat apply Exists.intro); exact ⟨⟨j + 1, gr, M2, by omega, rfl, by go_num, unhide HZ, unhide HSn, unhide HCn, unhide HG1, unhide HG3, unhide HBr⟩, rfl⟩)
                  case measure => simp [intOf]; omega
          · have hne' : ((j : Int) == k) = false := beq_eq_false_iff_ne.2 (by omega)
            have HG3 : Hid (gr = false → ∀ j', j' < j + 1 → Cls m k M' j') := hide fun h j' hj' => by
              by_cases e : j' = j
              · subst e
                intro hh
                rcases hh with e | e
                · exact absurd e hne
                · rw [hf] at e; cases e
              · exact unhide HG2 h j' (by omega)
            rw [hf] at zj
            clear hne HG2 hf
            go_wp2_with fail
            go_roundw
            case rel => first | exact ⟨j + 1, gr, M', by omega, rfl, by go_num, unhide HZ, unhide HSn, unhide HCn, unhide HG1, unhide HG3, unhide HBr⟩ | ((repeat apply Exists.intro); exact ⟨⟨j + 1, gr, M', by omega, rfl, by go_num, unhide HZ, unhide HSn, unhide HCn, unhide HG1, unhide HG3, unhide HBr⟩, rfl⟩)
            case measure => simp [intOf]; omega
        · obtain rfl : j = m.fields.length := by omega
          have hjl' : ¬ (m.fields.length : Int) < (m.fields.length : Int) := by omega
          clear hz
          cases gr
          · have HX := hide (rch_closed hk (unhide HSn) (unhide HG2 rfl))
            have HBw : Hid (Below w.heap.size w wr) := hide ((unhide HB).trans ((unhide HBr).mono (by omega)))
            go_wp2_with fail
            go_ret
            first | exact ⟨G, M', rfl, by omega, unhide HZ, unhide HX, unhide HBw⟩ | exact ⟨G, rfl, by omega, M', unhide HZ, unhide HX, unhide HBw⟩ | exact ⟨G, rfl, by omega, ⟨M', unhide HZ, unhide HX⟩, unhide HBw⟩
          · have HC2 := hide (unhide HG1 rfl)
            go_wp2_with fail
            go_roundw
            case rel => first | exact ⟨rd + 1, M', by omega, by go_num, unhide HZ, unhide HSn, unhide HC2, unhide HBr⟩ | ((repeat apply Exists.intro); exact ⟨⟨rd + 1, M', by omega, by go_num, unhide HZ, unhide HSn, unhide HC2, unhide HBr⟩, rfl⟩)
            case measure => simp [intOf]; omega
    · obtain rfl : rd = m.fields.length := by omega
      have hlt' : ¬ (m.fields.length : Int) < (m.fields.length : Int) := by omega
      have HX := hide (rch_full (unhide HSn) (unhide HCn))
      have HBw : Hid (Below w.heap.size w wr) := hide ((unhide HB).trans ((unhide HBr).mono (by omega)))
      go_wp2_with fail
      go_ret
      first | exact ⟨G, M, rfl, by omega, unhide HZ, unhide HX, unhide HBw⟩ | exact ⟨G, rfl, by omega, M, unhide HZ, unhide HX, unhide HBw⟩ | exact ⟨G, rfl, by omega, ⟨M, unhide HZ, unhide HX⟩, unhide HBw⟩
end Go.Proofs.YtngjdgcekflooaaGreatDoor
