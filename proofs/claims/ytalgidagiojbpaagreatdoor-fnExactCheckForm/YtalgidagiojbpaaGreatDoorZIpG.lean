import Derived.Test.YtalgidagiojbpaaGreatDoorGF
/- The program: the canonical text; canonical, ValidForm, PrintForm. -/
namespace Go.Proofs.YtalgidagiojbpaaGreatDoor
open Go Go.RowKit

theorem strs_new (w : World) (l : List ByteArray) : Strs (w.alloc (.cells (stV l).toArray 9)) (some ⟨w.heap.size, 0, none⟩) l := fun k hk => by
  refine ⟨w.heap.size, 0, rfl, by simp, ?_⟩
  have := (Blk.new w 9 (stV l).toArray).cell k
  rw [Nat.zero_add, this]
  simp [stV, List.getElem?_eq_getElem hk]
theorem bl_new (w : World) : Bl (w.alloc (.cells #[.pointer none, .slice none 0 0] 194)) w.heap.size w.heap.size [] :=
  .inl ⟨Nat.le_refl _, .slice none 0 0, (MapKept.heap_alloc w _).1, World.ownsRowF_of (World.ownsRow_nil _ _ _ _), fun h => by cases h⟩
theorem builderString_any (B b : Nat) (l : List UInt8) (w : World) (h : Bl w B b l) : Calls Tryz.prog 153 #[.pointer (some ⟨b, 0, none⟩)] w fun e w' => e = .returned (.string ⟨l.toArray⟩) ∧ Below B w w' :=
  (Any.Builder_String_any_f Tryz.lays169 Tryz.Builder_Extra_169 B b l w h h.le).mono fun _ _ ⟨h1, _, h3⟩ => ⟨h1, h3⟩

set_option maxRecDepth 100000 in
set_option maxHeartbeats 8000000 in
theorem canonicalText_any (m : Fm) (A : MA) (w : World) (hf : FitM m) (hv : VfA m) (ha : MSl w m A) (ht : Tabs w) (hy : TyW w) :
    Calls Tryz.prog 116 #[mV m A] w fun r w' => r = .returned (.string ⟨(cT m).toArray⟩) ∧ Below w.heap.size w w' := by
  obtain ⟨al, alc, ap, apc, ar, arc, af, afc, afa⟩ := A
  unfold mV
  dsimp only
  have HK := hide ((Blk.new w 35 #[.slice al m.labels.length alc, .slice ap m.below.length apc, .slice ar m.roles.length arc, .slice af m.fields.length afc]).alloc (.cells #[.pointer none, .slice none 0 0] 194))
  have HB := hide (((Below.refl w.heap.size w).alloc (Nat.le_refl _) (.cells #[.slice al m.labels.length alc, .slice ap m.below.length apc, .slice ar m.roles.length arc, .slice af m.fields.length afc] 35)).alloc (by simp) (.cells #[.pointer none, .slice none 0 0] 194))
  have HBl := hide (bl_new (w.alloc (.cells #[.slice al m.labels.length alc, .slice ap m.below.length apc, .slice ar m.roles.length arc, .slice af m.fields.length afc] 35)))
  rw [World.size_alloc] at HBl
  obtain ⟨W0, hW0⟩ : ∃ W0, (w.alloc (.cells #[.slice al m.labels.length alc, .slice ap m.below.length apc, .slice ar m.roles.length arc, .slice af m.fields.length afc] 35)).alloc (.cells #[.pointer none, .slice none 0 0] 194) = W0 := ⟨_, rfl⟩
  have hsz : w.heap.size + 2 ≤ W0.heap.size := by rw [← hW0]; simp
  rw [hW0] at HK HB HBl
  have HS := hide ha; have HF := hide hf; have HV := hide hv; have HT := hide ht; have HY := hide hy
  have nl := hv.nl; have np := hv.np; have nr := hv.nr; have nfl := hv.nf
  clear ha hf hv ht hy
  obtain ⟨y0, y1, y2, y3⟩ := quad (unhide HK)
  go_enter Tryz.func116, Tryz.ntmps116
  go_wp2_with fail
  try rw [hW0]
  clear hW0 y0 y1 y2 y3
  go_loopw [15] (fun i wr => ∃ k : Nat, k ≤ m.labels.length ∧ i = .int .i64 k ∧ Bl wr (w.heap.size + 1) (w.heap.size + 1) (c1 m k) ∧ Below (w.heap.size + 1) W0 wr) (fun i _ => m.labels.length - (intOf i).toNat)
  case atStart => exact ⟨0, Nat.zero_le _, rfl, by rw [c1_zero]; exact unhide HBl, Below.refl _ _⟩
  case round =>
    clear HBl
    obtain ⟨k, hk, rfl, hbl, hb⟩ := hrel
    have HBl := hide hbl; have HB1 := hide hb
    have HKr := hide ((unhide HK).mono hb (by omega))
    have HBw := hide ((unhide HB).trans (hb.mono (by omega)))
    have HSr := hide ((unhide HS).mono (unhide HBw))
    have hws := hb.size
    obtain ⟨y0, y1, y2, y3⟩ := quad (unhide HKr)
    clear hbl hb
    by_cases hlt : k < m.labels.length
    · have hlt' : (k : Int) < m.labels.length := by omega
      obtain ⟨b, o, rfl, -, z0⟩ := (unhide HSr).l k hlt
      have HT2 : Hid (c1 m (k + 1) = c1 m k ++ (jw [⟨#[108, 97, 98, 101, 108]⟩, m.labels[k]] ++ [59, 10])) := hide (by rw [jw_lab]; exact c1_succ m k hlt)
      have HLn : Hid ((c1 m k).length + (jw [⟨#[108, 97, 98, 101, 108]⟩, m.labels[k]]).length ≤ 100000000) := hide (by
        have h1 := c1_len (unhide HV) (k + 1)
        rw [unhide HT2, List.length_append, List.length_append] at h1
        omega)
      generalize m.labels[k] = x at *
      have HBa := hide ((Below.refl wr.heap.size wr).alloc (Nat.le_refl _) (.cells #[.string ⟨#[108, 97, 98, 101, 108]⟩, .string x] 9))
      have HC := hide (writeStatement_any (w.heap.size + 1) (w.heap.size + 1) (c1 m k) (some ⟨wr.heap.size, 0, none⟩) 2 [⟨#[108, 97, 98, 101, 108]⟩, x] _ ((unhide HBl).mono (unhide HBa)) (by simp) (by simp) (by simp) (strs_new wr [⟨#[108, 97, 98, 101, 108]⟩, x]) (unhide HLn))
      go_wp2_with fail
      refine (unhide HC).mono ?_
      rintro r W5 ⟨rfl, hl5, hb5, -⟩
      have HL5 : Hid (Bl W5 (w.heap.size + 1) (w.heap.size + 1) (c1 m (k + 1))) := hide (by rw [unhide HT2]; exact hl5)
      have HB5 := hide ((unhide HB1).trans (((unhide HBa).mono (by omega)).trans hb5))
      clear hl5 hb5 y0 y1 y2 y3 z0
      go_wp2_with fail
      go_roundw
      case rel => first | exact ⟨k + 1, by omega, by go_num, unhide HL5, unhide HB5⟩ | ((repeat apply Exists.intro); exact ⟨⟨k + 1, by omega, by go_num, unhide HL5, unhide HB5⟩, rfl⟩)
      case measure => simp [intOf]; omega
    obtain rfl : k = m.labels.length := by omega
    have hlt' : ¬ (m.labels.length : Int) < (m.labels.length : Int) := by omega
    have HBl0 : Hid (Bl wr (w.heap.size + 1) (w.heap.size + 1) (c2 m 0)) := hide (by rw [c2_zero]; exact unhide HBl)
    go_wp2_with fail
    clear y0 y1 y2 y3 hlt hlt' HSr HKr HBw HBl hws
    obtain ⟨Wa, hWa⟩ : ∃ W, wr = W := ⟨_, rfl⟩
    rw [hWa] at HBl0 HB1 ⊢
    clear hWa
    go_loopw [26] (fun i wr => ∃ k : Nat, k ≤ m.below.length ∧ i = .int .i64 k ∧ Bl wr (w.heap.size + 1) (w.heap.size + 1) (c2 m k) ∧ Below (w.heap.size + 1) W0 wr) (fun i _ => m.below.length - (intOf i).toNat)
    case atStart => exact ⟨0, Nat.zero_le _, rfl, unhide HBl0, unhide HB1⟩
    case round =>
      clear HBl0 HB1
      obtain ⟨k, hk, rfl, hbl, hb⟩ := hrel
      have HBl := hide hbl; have HB1 := hide hb
      have HKr := hide ((unhide HK).mono hb (by omega))
      have HBw := hide ((unhide HB).trans (hb.mono (by omega)))
      have HSr := hide ((unhide HS).mono (unhide HBw))
      have hws := hb.size
      obtain ⟨y0, y1, y2, y3⟩ := quad (unhide HKr)
      clear hbl hb
      by_cases hlt : k < m.below.length
      · have hlt' : (k : Int) < m.below.length := by omega
        obtain ⟨pb, po, rfl, -, z0, z1⟩ := (unhide HSr).p k hlt
        have HT2 : Hid (c2 m (k + 1) = c2 m k ++ (jw [⟨#[98, 101, 108, 111, 119]⟩, labAt m.labels m.below[k].1, labAt m.labels m.below[k].2] ++ [59, 10])) := hide (by rw [jw_bel]; exact c2_succ m k hlt)
        have HLn : Hid ((c2 m k).length + (jw [⟨#[98, 101, 108, 111, 119]⟩, labAt m.labels m.below[k].1, labAt m.labels m.below[k].2]).length ≤ 100000000) := hide (by
          have h1 := c2_len (unhide HV) (k + 1)
          rw [unhide HT2, List.length_append, List.length_append] at h1
          omega)
        obtain ⟨hin1, hin2⟩ := (unhide HV).p _ (List.getElem_mem hlt)
        generalize m.below[k] = u at *
        obtain ⟨u1, u2⟩ := u
        dsimp only at hin1 hin2 z0 z1 HT2 HLn
        obtain ⟨lo, rfl, hlo⟩ := inR_nat hin1
        obtain ⟨hi, rfl, hhi⟩ := inR_nat hin2
        rw [labAt_get hlo, labAt_get hhi] at HT2 HLn
        obtain ⟨b, o, rfl, hlbw, zw0⟩ := (unhide HS).l lo hlo
        obtain ⟨b', o', he, -, zw1⟩ := (unhide HS).l hi hhi
        cases he
        have hlo' : (lo : Int) < m.labels.length := by omega
        have hhi' : (hi : Int) < m.labels.length := by omega
        clear hin1 hin2
        generalize m.labels[lo] = x at *
        generalize m.labels[hi] = y at *
        have HKp := hide (Blk.new wr 93 #[.int .i64 lo, .int .i64 hi])
        have HBp := hide ((Below.refl wr.heap.size wr).alloc (Nat.le_refl _) (.cells #[.int .i64 lo, .int .i64 hi] 93))
        obtain ⟨Wd, hWd⟩ : ∃ Wd, wr.alloc (.cells #[.int .i64 lo, .int .i64 hi] 93) = Wd := ⟨_, rfl⟩
        rw [hWd] at HKp HBp
        have HKd := hide ((unhide HKr).mono (unhide HBp) (unhide HKr).lt)
        have HBld := hide ((unhide HBl).mono (unhide HBp))
        have HBd := hide ((unhide HB1).trans ((unhide HBp).mono (by omega)))
        have hds := (unhide HBp).size
        have HBwd := hide ((unhide HBw).trans ((unhide HBp).mono (by omega)))
        have zz0 := ((unhide HBwd).cell (p := ⟨b, o + lo, none⟩) hlbw).trans zw0
        have zz1 := ((unhide HBwd).cell (p := ⟨b, o + hi, none⟩) hlbw).trans zw1
        clear zw0 zw1
        go_wp2_with fail
        try rw [hWd]
        clear hWd y0 y1 y2 y3
        refine wp_region_held_drew (S := fun w' => Blk w' w.heap.size 35 [.slice (some ⟨b, o, none⟩) m.labels.length alc, .slice (some ⟨pb, po, none⟩) m.below.length apc, .slice ar m.roles.length arc, .slice af m.fields.length afc] ∧ Blk w' wr.heap.size 93 [.int .i64 lo, .int .i64 hi] ∧ w'.cell? ⟨b, o + lo, none⟩ = some (.string x) ∧ w'.cell? ⟨b, o + hi, none⟩ = some (.string y)) (by kernel_rfl) ⟨unhide HKd, unhide HKp, zz0, zz1⟩ (fun hHeld => ?_)
        refine takeY (i := 0) (v := .pointer (some ⟨w.heap.size, 0, none⟩)) 30 rfl rfl (by kernel_rfl) (by kernel_rfl) (by kernel_rfl) (fun _ _ _ _ h => h) (by rfl) (fun w hS => by simp [execOp, go_sem, *]) hHeld ?_
        simp only [List.setIfInBounds_toArray, List.set_cons_zero, List.set_cons_succ]
        refine takeY (i := 1) (v := .slice (some ⟨b, o, none⟩) m.labels.length alc) 31 rfl rfl (by kernel_rfl) (by kernel_rfl) (by kernel_rfl) (fun _ _ _ _ h => h) (by rfl) (fun w hS => by obtain ⟨h1, h2, q2, q3⟩ := hS; obtain ⟨p0, p1, p2, p3⟩ := quad h1; obtain ⟨r0, r1⟩ := duo h2; simp [execOp, go_sem, *]) hHeld ?_
        simp only [List.setIfInBounds_toArray, List.set_cons_zero, List.set_cons_succ]
        refine takeY (i := 2) (v := .pointer (some ⟨wr.heap.size, 0, none⟩)) 32 rfl rfl (by kernel_rfl) (by kernel_rfl) (by kernel_rfl) (fun _ _ _ _ h => h) (by rfl) (fun w hS => by simp [execOp, go_sem, *]) hHeld ?_
        simp only [List.setIfInBounds_toArray, List.set_cons_zero, List.set_cons_succ]
        refine takeY (i := 3) (v := .int .i64 lo) 33 rfl rfl (by kernel_rfl) (by kernel_rfl) (by kernel_rfl) (fun _ _ _ _ h => h) (by rfl) (fun w hS => by obtain ⟨h1, h2, q2, q3⟩ := hS; obtain ⟨p0, p1, p2, p3⟩ := quad h1; obtain ⟨r0, r1⟩ := duo h2; simp [execOp, go_sem, *]) hHeld ?_
        simp only [List.setIfInBounds_toArray, List.set_cons_zero, List.set_cons_succ]
        refine takeY (i := 4) (v := .pointer (some ⟨b, o + lo, none⟩)) 34 rfl rfl (by kernel_rfl) (by kernel_rfl) (by kernel_rfl) (fun _ _ _ _ h => h) (by rfl) (fun w hS => by simp [execOp, go_sem, *]) hHeld ?_
        simp only [List.setIfInBounds_toArray, List.set_cons_zero, List.set_cons_succ]
        refine takeY (i := 5) (v := .string x) 35 rfl rfl (by kernel_rfl) (by kernel_rfl) (by kernel_rfl) (fun _ _ _ _ h => h) (by rfl) (fun w hS => by obtain ⟨h1, h2, q2, q3⟩ := hS; obtain ⟨p0, p1, p2, p3⟩ := quad h1; obtain ⟨r0, r1⟩ := duo h2; simp [execOp, go_sem, *]) hHeld ?_
        simp only [List.setIfInBounds_toArray, List.set_cons_zero, List.set_cons_succ]
        refine takeY (i := 6) (v := .pointer (some ⟨w.heap.size, 0, none⟩)) 36 rfl rfl (by kernel_rfl) (by kernel_rfl) (by kernel_rfl) (fun _ _ _ _ h => h) (by rfl) (fun w hS => by simp [execOp, go_sem, *]) hHeld ?_
        simp only [List.setIfInBounds_toArray, List.set_cons_zero, List.set_cons_succ]
        refine takeY (i := 7) (v := .slice (some ⟨b, o, none⟩) m.labels.length alc) 37 rfl rfl (by kernel_rfl) (by kernel_rfl) (by kernel_rfl) (fun _ _ _ _ h => h) (by rfl) (fun w hS => by obtain ⟨h1, h2, q2, q3⟩ := hS; obtain ⟨p0, p1, p2, p3⟩ := quad h1; obtain ⟨r0, r1⟩ := duo h2; simp [execOp, go_sem, *]) hHeld ?_
        simp only [List.setIfInBounds_toArray, List.set_cons_zero, List.set_cons_succ]
        refine takeY (i := 8) (v := .pointer (some ⟨wr.heap.size, 1, none⟩)) 38 rfl rfl (by kernel_rfl) (by kernel_rfl) (by kernel_rfl) (fun _ _ _ _ h => h) (by rfl) (fun w hS => by simp [execOp, go_sem, *]) hHeld ?_
        simp only [List.setIfInBounds_toArray, List.set_cons_zero, List.set_cons_succ]
        refine takeY (i := 9) (v := .int .i64 hi) 39 rfl rfl (by kernel_rfl) (by kernel_rfl) (by kernel_rfl) (fun _ _ _ _ h => h) (by rfl) (fun w hS => by obtain ⟨h1, h2, q2, q3⟩ := hS; obtain ⟨p0, p1, p2, p3⟩ := quad h1; obtain ⟨r0, r1⟩ := duo h2; simp [execOp, go_sem, *]) hHeld ?_
        simp only [List.setIfInBounds_toArray, List.set_cons_zero, List.set_cons_succ]
        refine takeY (i := 10) (v := .pointer (some ⟨b, o + hi, none⟩)) 40 rfl rfl (by kernel_rfl) (by kernel_rfl) (by kernel_rfl) (fun _ _ _ _ h => h) (by rfl) (fun w hS => by simp [execOp, go_sem, *]) hHeld ?_
        simp only [List.setIfInBounds_toArray, List.set_cons_zero, List.set_cons_succ]
        refine takeY (i := 11) (v := .string y) 41 rfl rfl (by kernel_rfl) (by kernel_rfl) (by kernel_rfl) (fun _ _ _ _ h => h) (by rfl) (fun w hS => by obtain ⟨h1, h2, q2, q3⟩ := hS; obtain ⟨p0, p1, p2, p3⟩ := quad h1; obtain ⟨r0, r1⟩ := duo h2; simp [execOp, go_sem, *]) hHeld ?_
        simp only [List.setIfInBounds_toArray, List.set_cons_zero, List.set_cons_succ]
        have HDd : Hid (Below Wd.heap.size Wd Wd.drew) := hide (Below.refl _ _).drew
        replace HBl := hide ((unhide HBld).mono (unhide HDd)); replace HBd := hide ((unhide HBd).trans ((unhide HDd).mono (by omega)))
        obtain ⟨V, hV⟩ : ∃ V, Wd.drew = V := ⟨_, rfl⟩
        have hvs := (unhide HBd).size
        rw [hV] at HBl HBd hHeld hvs ⊢
        clear hV HDd HBld
        have HBa := hide ((Below.refl V.heap.size V).alloc (Nat.le_refl _) (.cells #[.string ⟨#[98, 101, 108, 111, 119]⟩, .string x, .string y] 9))
        have HStr := hide (strs_new V [⟨#[98, 101, 108, 111, 119]⟩, x, y])
        replace HBl := hide ((unhide HBl).mono (unhide HBa))
        replace hHeld : Blk (V.alloc (.cells #[.string ⟨#[98, 101, 108, 111, 119]⟩, .string x, .string y] 9)) w.heap.size 35 [.slice (some ⟨b, o, none⟩) m.labels.length alc, .slice (some ⟨pb, po, none⟩) m.below.length apc, .slice ar m.roles.length arc, .slice af m.fields.length afc] ∧ Blk (V.alloc (.cells #[.string ⟨#[98, 101, 108, 111, 119]⟩, .string x, .string y] 9)) wr.heap.size 93 [.int .i64 lo, .int .i64 hi] ∧ (V.alloc (.cells #[.string ⟨#[98, 101, 108, 111, 119]⟩, .string x, .string y] 9)).cell? ⟨b, o + lo, none⟩ = some (.string x) ∧ (V.alloc (.cells #[.string ⟨#[98, 101, 108, 111, 119]⟩, .string x, .string y] 9)).cell? ⟨b, o + hi, none⟩ = some (.string y) := ⟨hHeld.1.mono (unhide HBa) hHeld.1.lt, hHeld.2.1.mono (unhide HBa) hHeld.2.1.lt, ((unhide HBa).cell (p := ⟨b, o + lo, none⟩) (show b < V.heap.size by omega)).trans hHeld.2.2.1, ((unhide HBa).cell (p := ⟨b, o + hi, none⟩) (show b < V.heap.size by omega)).trans hHeld.2.2.2⟩
        refine runY (i := 12) (v := .slice (some ⟨V.heap.size, 0, none⟩) 3 3) (w' := V.alloc (.cells #[.string ⟨#[98, 101, 108, 111, 119]⟩, .string x, .string y] 9)) 42 rfl rfl (by rfl) (by kernel_rfl) (by simp [execOp, go_sem]) hHeld ?_
        simp only [List.setIfInBounds_toArray, List.set_cons_zero, List.set_cons_succ]
        obtain ⟨V2, hV2⟩ : ∃ V2, V.alloc (.cells #[.string ⟨#[98, 101, 108, 111, 119]⟩, .string x, .string y] 9) = V2 := ⟨_, rfl⟩
        replace HBd := hide ((unhide HBd).trans ((unhide HBa).mono (by omega)))
        change Hid (Bl (V.alloc (.cells #[.string ⟨#[98, 101, 108, 111, 119]⟩, .string x, .string y] 9)) _ _ _) at HBl
        change Hid (Strs (V.alloc (.cells #[.string ⟨#[98, 101, 108, 111, 119]⟩, .string x, .string y] 9)) _ _) at HStr
        rw [hV2] at HBl HStr hHeld HBd ⊢
        have hv2 := (unhide HBd).size
        clear hV2 HBa
        refine callY (i := 13) (f := 151) (args := #[.pointer (some ⟨w.heap.size + 1, 0, none⟩), .slice (some ⟨V.heap.size, 0, none⟩) 3 3]) (R := fun r wz => r = .tuple #[] ∧ Bl wz (w.heap.size + 1) (w.heap.size + 1) (c2 m (k + 1)) ∧ Below (w.heap.size + 1) V2 wz ∧ Oth (w.heap.size + 1) V2 wz) 43 rfl rfl (by rfl) (by kernel_rfl) (by simp [execOp, go_sem]) ((writeStatement_any (w.heap.size + 1) (w.heap.size + 1) (c2 m k) (some ⟨V.heap.size, 0, none⟩) 3 [⟨#[98, 101, 108, 111, 119]⟩, x, y] V2 (unhide HBl) (by simp) (by simp) (by simp) (unhide HStr) (by have := unhide HLn; omega)).mono fun e w6 ⟨he, h1, h2, h3⟩ => ⟨_, he, rfl, by rw [← unhide HT2] at h1; exact h1, h2, h3⟩) ?_
        rintro r3 W5 ⟨rfl, hl5, hb5, ho5⟩
        have HL5 := hide hl5; have HB5 := hide ((unhide HBd).trans hb5)
        replace hHeld : Blk W5 w.heap.size 35 [.slice (some ⟨b, o, none⟩) m.labels.length alc, .slice (some ⟨pb, po, none⟩) m.below.length apc, .slice ar m.roles.length arc, .slice af m.fields.length afc] ∧ Blk W5 wr.heap.size 93 [.int .i64 lo, .int .i64 hi] ∧ W5.cell? ⟨b, o + lo, none⟩ = some (.string x) ∧ W5.cell? ⟨b, o + hi, none⟩ = some (.string y) := ⟨hHeld.1.oth ho5 (by omega) (by decide), hHeld.2.1.oth ho5 (by omega) (by decide), (hb5.cell (p := ⟨b, o + lo, none⟩) (show b < w.heap.size + 1 by omega)).trans hHeld.2.2.1, (hb5.cell (p := ⟨b, o + hi, none⟩) (show b < w.heap.size + 1 by omega)).trans hHeld.2.2.2⟩
        clear hl5 hb5 ho5
        refine ⟨hHeld, ?_⟩
        simp only [List.setIfInBounds_toArray, List.set_cons_zero, List.set_cons_succ]
        refine wpAnyH_done (by kernel_rfl) ?_ _
        clear hHeld
        go_wp2_with fail
        go_roundw
        case rel => first | exact ⟨k + 1, by omega, by go_num, unhide HL5, unhide HB5⟩ | ((repeat apply Exists.intro); exact ⟨⟨k + 1, by omega, by go_num, unhide HL5, unhide HB5⟩, rfl⟩)
        case measure => simp [intOf]; omega
      obtain rfl : k = m.below.length := by omega
      have hlt' : ¬ (m.below.length : Int) < (m.below.length : Int) := by omega
      have HBl0 : Hid (Bl wr (w.heap.size + 1) (w.heap.size + 1) (c3 m 0)) := hide (by rw [c3_zero]; exact unhide HBl)
      go_wp2_with fail
      clear y0 y1 y2 y3 hlt hlt' HSr HKr HBw HBl hws
      obtain ⟨Wb, hWb⟩ : ∃ W, wr = W := ⟨_, rfl⟩
      rw [hWb] at HBl0 HB1 ⊢
      clear hWb
      go_loopw [48] (fun i wr => ∃ k : Nat, k ≤ m.roles.length ∧ i = .int .i64 k ∧ Bl wr (w.heap.size + 1) (w.heap.size + 1) (c3 m k) ∧ Below (w.heap.size + 1) W0 wr) (fun i _ => m.roles.length - (intOf i).toNat)
      case atStart => exact ⟨0, Nat.zero_le _, rfl, unhide HBl0, unhide HB1⟩
      case round =>
        clear HBl0 HB1
        obtain ⟨k, hk, rfl, hbl, hb⟩ := hrel
        have HBl := hide hbl; have HB1 := hide hb
        have HKr := hide ((unhide HK).mono hb (by omega))
        have HBw := hide ((unhide HB).trans (hb.mono (by omega)))
        have HSr := hide ((unhide HS).mono (unhide HBw))
        have hws := hb.size
        obtain ⟨y0, y1, y2, y3⟩ := quad (unhide HKr)
        clear hbl hb
        by_cases hlt : k < m.roles.length
        · have hlt' : (k : Int) < m.roles.length := by omega
          obtain ⟨pb, po, rfl, -, z0, z1⟩ := (unhide HSr).r k hlt
          have HT2 : Hid (c3 m (k + 1) = c3 m k ++ (jw [⟨#[114, 111, 108, 101]⟩, m.roles[k].nm, ⟨#[97, 116]⟩, labAt m.labels m.roles[k].lb] ++ [59, 10])) := hide (by rw [jw_rol]; exact c3_succ m k hlt)
          have HLn : Hid ((c3 m k).length + (jw [⟨#[114, 111, 108, 101]⟩, m.roles[k].nm, ⟨#[97, 116]⟩, labAt m.labels m.roles[k].lb]).length ≤ 100000000) := hide (by
            have h1 := c3_len (unhide HV) (k + 1)
            rw [unhide HT2, List.length_append, List.length_append] at h1
            omega)
          have hin2 := (unhide HV).ro _ (List.getElem_mem hlt)
          generalize m.roles[k] = u at *
          obtain ⟨x, u2⟩ := u
          dsimp only at hin2 z0 z1 HT2 HLn
          obtain ⟨hi, rfl, hhi⟩ := inR_nat hin2
          rw [labAt_get hhi] at HT2 HLn
          obtain ⟨b, o, rfl, hlbw, zw1⟩ := (unhide HS).l hi hhi
          have hhi' : (hi : Int) < m.labels.length := by omega
          clear hin2
          generalize m.labels[hi] = y at *
          have HKp := hide (Blk.new wr 94 #[.string x, .int .i64 hi])
          have HBp := hide ((Below.refl wr.heap.size wr).alloc (Nat.le_refl _) (.cells #[.string x, .int .i64 hi] 94))
          obtain ⟨Wd, hWd⟩ : ∃ Wd, wr.alloc (.cells #[.string x, .int .i64 hi] 94) = Wd := ⟨_, rfl⟩
          rw [hWd] at HKp HBp
          have HKd := hide ((unhide HKr).mono (unhide HBp) (unhide HKr).lt)
          have HBld := hide ((unhide HBl).mono (unhide HBp))
          have HBd := hide ((unhide HB1).trans ((unhide HBp).mono (by omega)))
          have hds := (unhide HBp).size
          have HBwd := hide ((unhide HBw).trans ((unhide HBp).mono (by omega)))
          have zz1 := ((unhide HBwd).cell (p := ⟨b, o + hi, none⟩) hlbw).trans zw1
          clear zw1
          go_wp2_with fail
          try rw [hWd]
          clear hWd y0 y1 y2 y3
          refine wp_region_held_drew (S := fun w' => Blk w' w.heap.size 35 [.slice (some ⟨b, o, none⟩) m.labels.length alc, .slice ap m.below.length apc, .slice (some ⟨pb, po, none⟩) m.roles.length arc, .slice af m.fields.length afc] ∧ Blk w' wr.heap.size 94 [.string x, .int .i64 hi] ∧ w'.cell? ⟨b, o + hi, none⟩ = some (.string y)) (by kernel_rfl) ⟨unhide HKd, unhide HKp, zz1⟩ (fun hHeld => ?_)
          refine takeY (i := 0) (v := .pointer (some ⟨wr.heap.size, 0, none⟩)) 52 rfl rfl (by kernel_rfl) (by kernel_rfl) (by kernel_rfl) (fun _ _ _ _ h => h) (by rfl) (fun w hS => by simp [execOp, go_sem, *]) hHeld ?_
          simp only [List.setIfInBounds_toArray, List.set_cons_zero, List.set_cons_succ]
          refine takeY (i := 1) (v := .string x) 53 rfl rfl (by kernel_rfl) (by kernel_rfl) (by kernel_rfl) (fun _ _ _ _ h => h) (by rfl) (fun w hS => by obtain ⟨h1, h2, q2⟩ := hS; obtain ⟨p0, p1, p2, p3⟩ := quad h1; obtain ⟨r0, r1⟩ := duo h2; simp [execOp, go_sem, *]) hHeld ?_
          simp only [List.setIfInBounds_toArray, List.set_cons_zero, List.set_cons_succ]
          refine takeY (i := 2) (v := .pointer (some ⟨w.heap.size, 0, none⟩)) 54 rfl rfl (by kernel_rfl) (by kernel_rfl) (by kernel_rfl) (fun _ _ _ _ h => h) (by rfl) (fun w hS => by simp [execOp, go_sem, *]) hHeld ?_
          simp only [List.setIfInBounds_toArray, List.set_cons_zero, List.set_cons_succ]
          refine takeY (i := 3) (v := .slice (some ⟨b, o, none⟩) m.labels.length alc) 55 rfl rfl (by kernel_rfl) (by kernel_rfl) (by kernel_rfl) (fun _ _ _ _ h => h) (by rfl) (fun w hS => by obtain ⟨h1, h2, q2⟩ := hS; obtain ⟨p0, p1, p2, p3⟩ := quad h1; obtain ⟨r0, r1⟩ := duo h2; simp [execOp, go_sem, *]) hHeld ?_
          simp only [List.setIfInBounds_toArray, List.set_cons_zero, List.set_cons_succ]
          refine takeY (i := 4) (v := .pointer (some ⟨wr.heap.size, 1, none⟩)) 56 rfl rfl (by kernel_rfl) (by kernel_rfl) (by kernel_rfl) (fun _ _ _ _ h => h) (by rfl) (fun w hS => by simp [execOp, go_sem, *]) hHeld ?_
          simp only [List.setIfInBounds_toArray, List.set_cons_zero, List.set_cons_succ]
          refine takeY (i := 5) (v := .int .i64 hi) 57 rfl rfl (by kernel_rfl) (by kernel_rfl) (by kernel_rfl) (fun _ _ _ _ h => h) (by rfl) (fun w hS => by obtain ⟨h1, h2, q2⟩ := hS; obtain ⟨p0, p1, p2, p3⟩ := quad h1; obtain ⟨r0, r1⟩ := duo h2; simp [execOp, go_sem, *]) hHeld ?_
          simp only [List.setIfInBounds_toArray, List.set_cons_zero, List.set_cons_succ]
          refine takeY (i := 6) (v := .pointer (some ⟨b, o + hi, none⟩)) 58 rfl rfl (by kernel_rfl) (by kernel_rfl) (by kernel_rfl) (fun _ _ _ _ h => h) (by rfl) (fun w hS => by simp [execOp, go_sem, *]) hHeld ?_
          simp only [List.setIfInBounds_toArray, List.set_cons_zero, List.set_cons_succ]
          refine takeY (i := 7) (v := .string y) 59 rfl rfl (by kernel_rfl) (by kernel_rfl) (by kernel_rfl) (fun _ _ _ _ h => h) (by rfl) (fun w hS => by obtain ⟨h1, h2, q2⟩ := hS; obtain ⟨p0, p1, p2, p3⟩ := quad h1; obtain ⟨r0, r1⟩ := duo h2; simp [execOp, go_sem, *]) hHeld ?_
          simp only [List.setIfInBounds_toArray, List.set_cons_zero, List.set_cons_succ]
          have HDd : Hid (Below Wd.heap.size Wd Wd.drew) := hide (Below.refl _ _).drew
          replace HBl := hide ((unhide HBld).mono (unhide HDd)); replace HBd := hide ((unhide HBd).trans ((unhide HDd).mono (by omega)))
          obtain ⟨V, hV⟩ : ∃ V, Wd.drew = V := ⟨_, rfl⟩
          have hvs := (unhide HBd).size
          rw [hV] at HBl HBd hHeld hvs ⊢
          clear hV HDd HBld
          have HBa := hide ((Below.refl V.heap.size V).alloc (Nat.le_refl _) (.cells #[.string ⟨#[114, 111, 108, 101]⟩, .string x, .string ⟨#[97, 116]⟩, .string y] 9))
          have HStr := hide (strs_new V [⟨#[114, 111, 108, 101]⟩, x, ⟨#[97, 116]⟩, y])
          replace HBl := hide ((unhide HBl).mono (unhide HBa))
          replace hHeld : Blk (V.alloc (.cells #[.string ⟨#[114, 111, 108, 101]⟩, .string x, .string ⟨#[97, 116]⟩, .string y] 9)) w.heap.size 35 [.slice (some ⟨b, o, none⟩) m.labels.length alc, .slice ap m.below.length apc, .slice (some ⟨pb, po, none⟩) m.roles.length arc, .slice af m.fields.length afc] ∧ Blk (V.alloc (.cells #[.string ⟨#[114, 111, 108, 101]⟩, .string x, .string ⟨#[97, 116]⟩, .string y] 9)) wr.heap.size 94 [.string x, .int .i64 hi] ∧ (V.alloc (.cells #[.string ⟨#[114, 111, 108, 101]⟩, .string x, .string ⟨#[97, 116]⟩, .string y] 9)).cell? ⟨b, o + hi, none⟩ = some (.string y) := ⟨hHeld.1.mono (unhide HBa) hHeld.1.lt, hHeld.2.1.mono (unhide HBa) hHeld.2.1.lt, ((unhide HBa).cell (p := ⟨b, o + hi, none⟩) (show b < V.heap.size by omega)).trans hHeld.2.2⟩
          refine runY (i := 8) (v := .slice (some ⟨V.heap.size, 0, none⟩) 4 4) (w' := V.alloc (.cells #[.string ⟨#[114, 111, 108, 101]⟩, .string x, .string ⟨#[97, 116]⟩, .string y] 9)) 60 rfl rfl (by rfl) (by kernel_rfl) (by simp [execOp, go_sem]) hHeld ?_
          simp only [List.setIfInBounds_toArray, List.set_cons_zero, List.set_cons_succ]
          obtain ⟨V2, hV2⟩ : ∃ V2, V.alloc (.cells #[.string ⟨#[114, 111, 108, 101]⟩, .string x, .string ⟨#[97, 116]⟩, .string y] 9) = V2 := ⟨_, rfl⟩
          replace HBd := hide ((unhide HBd).trans ((unhide HBa).mono (by omega)))
          change Hid (Bl (V.alloc (.cells #[.string ⟨#[114, 111, 108, 101]⟩, .string x, .string ⟨#[97, 116]⟩, .string y] 9)) _ _ _) at HBl
          change Hid (Strs (V.alloc (.cells #[.string ⟨#[114, 111, 108, 101]⟩, .string x, .string ⟨#[97, 116]⟩, .string y] 9)) _ _) at HStr
          rw [hV2] at HBl HStr hHeld HBd ⊢
          have hv2 := (unhide HBd).size
          clear hV2 HBa
          refine callY (i := 9) (f := 151) (args := #[.pointer (some ⟨w.heap.size + 1, 0, none⟩), .slice (some ⟨V.heap.size, 0, none⟩) 4 4]) (R := fun r wz => r = .tuple #[] ∧ Bl wz (w.heap.size + 1) (w.heap.size + 1) (c3 m (k + 1)) ∧ Below (w.heap.size + 1) V2 wz ∧ Oth (w.heap.size + 1) V2 wz) 61 rfl rfl (by rfl) (by kernel_rfl) (by simp [execOp, go_sem]) ((writeStatement_any (w.heap.size + 1) (w.heap.size + 1) (c3 m k) (some ⟨V.heap.size, 0, none⟩) 4 [⟨#[114, 111, 108, 101]⟩, x, ⟨#[97, 116]⟩, y] V2 (unhide HBl) (by simp) (by simp) (by simp) (unhide HStr) (by have := unhide HLn; omega)).mono fun e w6 ⟨he, h1, h2, h3⟩ => ⟨_, he, rfl, by rw [← unhide HT2] at h1; exact h1, h2, h3⟩) ?_
          rintro r3 W5 ⟨rfl, hl5, hb5, ho5⟩
          have HL5 := hide hl5; have HB5 := hide ((unhide HBd).trans hb5)
          replace hHeld : Blk W5 w.heap.size 35 [.slice (some ⟨b, o, none⟩) m.labels.length alc, .slice ap m.below.length apc, .slice (some ⟨pb, po, none⟩) m.roles.length arc, .slice af m.fields.length afc] ∧ Blk W5 wr.heap.size 94 [.string x, .int .i64 hi] ∧ W5.cell? ⟨b, o + hi, none⟩ = some (.string y) := ⟨hHeld.1.oth ho5 (by omega) (by decide), hHeld.2.1.oth ho5 (by omega) (by decide), (hb5.cell (p := ⟨b, o + hi, none⟩) (show b < w.heap.size + 1 by omega)).trans hHeld.2.2⟩
          clear hl5 hb5 ho5
          refine ⟨hHeld, ?_⟩
          simp only [List.setIfInBounds_toArray, List.set_cons_zero, List.set_cons_succ]
          refine wpAnyH_done (by kernel_rfl) ?_ _
          clear hHeld
          go_wp2_with fail
          go_roundw
          case rel => first | exact ⟨k + 1, by omega, by go_num, unhide HL5, unhide HB5⟩ | ((repeat apply Exists.intro); exact ⟨⟨k + 1, by omega, by go_num, unhide HL5, unhide HB5⟩, rfl⟩)
          case measure => simp [intOf]; omega
        obtain rfl : k = m.roles.length := by omega
        have hlt' : ¬ (m.roles.length : Int) < (m.roles.length : Int) := by omega
        have HBl0 : Hid (Bl wr (w.heap.size + 1) (w.heap.size + 1) (c4 m 0)) := hide (by rw [c4_zero]; exact unhide HBl)
        go_wp2_with fail
        clear y0 y1 y2 y3 hlt hlt' HSr HKr HBw HBl hws
        obtain ⟨Wc, hWc⟩ : ∃ W, wr = W := ⟨_, rfl⟩
        rw [hWc] at HBl0 HB1 ⊢
        clear hWc
        go_loopw [66] (fun i wr => ∃ k : Nat, k ≤ m.fields.length ∧ i = .int .i64 k ∧ Bl wr (w.heap.size + 1) (w.heap.size + 1) (c4 m k) ∧ Below (w.heap.size + 1) W0 wr) (fun i _ => m.fields.length - (intOf i).toNat)
        case atStart => exact ⟨0, Nat.zero_le _, rfl, unhide HBl0, unhide HB1⟩
        case round =>
          clear HBl0 HB1
          obtain ⟨k, hk, rfl, hbl, hb⟩ := hrel
          have HBl := hide hbl; have HB1 := hide hb
          have HKr := hide ((unhide HK).mono hb (by omega))
          have HBw := hide ((unhide HB).trans (hb.mono (by omega)))
          have HSr := hide ((unhide HS).mono (unhide HBw))
          have hws := hb.size
          obtain ⟨y0, y1, y2, y3⟩ := quad (unhide HKr)
          clear hbl hb
          by_cases hlt : k < m.fields.length
          · have hlt' : (k : Int) < m.fields.length := by omega
            obtain ⟨pb, po, rfl, ⟨-, z0, z1, z2, z3, z4, z5, z6, z7, z8⟩, hsl⟩ := (unhide HSr).f k hlt
            dsimp only at z3 z4 z5 z6 z8 hsl
            have HT2 : Hid (c4 m (k + 1) = c4 m k ++ (jw (fW m m.fields[k]) ++ [59, 10])) := hide (by rw [jw_fW]; exact c4_succ m k hlt)
            have HLn : Hid ((c4 m k).length + (jw (fW m m.fields[k])).length ≤ 100000000) := hide (by
              have h1 := c4_len (unhide HV) (k + 1)
              rw [unhide HT2, List.length_append, List.length_append] at h1
              omega)
            have HFk := hide ((unhide HF).f _ (List.getElem_mem hlt))
            have HOk := hide ((fieldOk_iff _ _ _).1 ((unhide HV).fi _ (List.getElem_mem hlt)))
            generalize m.fields[k] = f at *
            generalize afa k = fa at *
            obtain ⟨ab, abc, ai, aic, ah, ahc, av, avc, au, auc⟩ := fa
            dsimp only at z3 z4 z5 z6 z8
            have HKp := hide (Blk.new wr 98 #[.string f.nm, .int .i64 f.ty, .int .i64 f.lb, .slice ab f.bys.length abc, .slice ai f.is.length aic, .slice ah f.wh.length ahc, .slice av f.va.length avc, .string f.sy, .slice au f.mu.length auc])
            have HBp := hide ((Below.refl wr.heap.size wr).alloc (Nat.le_refl _) (.cells #[.string f.nm, .int .i64 f.ty, .int .i64 f.lb, .slice ab f.bys.length abc, .slice ai f.is.length aic, .slice ah f.wh.length ahc, .slice av f.va.length avc, .string f.sy, .slice au f.mu.length auc] 98))
            obtain ⟨Wd, hWd⟩ : ∃ Wd, wr.alloc (.cells #[.string f.nm, .int .i64 f.ty, .int .i64 f.lb, .slice ab f.bys.length abc, .slice ai f.is.length aic, .slice ah f.wh.length ahc, .slice av f.va.length avc, .string f.sy, .slice au f.mu.length auc] 98) = Wd := ⟨_, rfl⟩
            rw [hWd] at HKp HBp
            have HKd := hide ((unhide HKr).mono (unhide HBp) (unhide HKr).lt)
            have HBld := hide ((unhide HBl).mono (unhide HBp))
            have HBd := hide ((unhide HB1).trans ((unhide HBp).mono (by omega)))
            have hds := (unhide HBp).size
            have HBwd := hide ((unhide HBw).trans ((unhide HBp).mono (by omega)))
            have HCw := hide (fieldWords_any m ⟨al, alc, ap, apc, ar, arc, some ⟨pb, po, none⟩, afc, afa⟩ f ⟨ab, abc, ai, aic, ah, ahc, av, avc, au, auc⟩ Wd (unhide HV) (unhide HOk) (unhide HFk) ((unhide HS).mono (unhide HBwd)) (hsl.mono (unhide HBp)) ((unhide HT).mono (unhide HBwd)) ((unhide HY).mono (unhide HBwd)))
            unfold mV fV at HCw
            dsimp only at HCw
            have hfl := fW_len (unhide HV) (unhide HOk)
            have hf1 : 1 ≤ (fW m f).length := by unfold fW w5; simp
            obtain ⟨x0, x1, x2, x3, x4, x5, x6, x7, x8⟩ := nine (unhide HKp)
            obtain ⟨v0, v1, v2, v3⟩ := quad (unhide HKd)
            clear hsl
            generalize fW m f = ws at *
            go_wp2_with fail
            try rw [hWd]
            refine (unhide HCw).mono ?_
            rintro r W4 ⟨a4, c4', rfl, hcap, hstr, hb4⟩
            have HC := hide (writeStatement_any (w.heap.size + 1) (w.heap.size + 1) (c4 m k) a4 c4' ws W4 ((unhide HBld).mono hb4) hf1 (by omega) hcap hstr (unhide HLn))
            have HB4 := hide ((unhide HBd).trans (hb4.mono (by omega)))
            clear hWd y0 y1 y2 y3 z0 z1 z2 z3 z4 z5 z6 z7 z8 x0 x1 x2 x3 x4 x5 x6 x7 x8 v0 v1 v2 v3 hcap hstr hb4 hf1 hfl
            go_wp2_with fail
            refine (unhide HC).mono ?_
            rintro r W5 ⟨rfl, hl5, hb5, -⟩
            have HL5 : Hid (Bl W5 (w.heap.size + 1) (w.heap.size + 1) (c4 m (k + 1))) := hide (by rw [unhide HT2]; exact hl5)
            have HB5 := hide ((unhide HB4).trans hb5)
            clear hl5 hb5
            go_wp2_with fail
            go_roundw
            case rel => first | exact ⟨k + 1, by omega, by go_num, unhide HL5, unhide HB5⟩ | ((repeat apply Exists.intro); exact ⟨⟨k + 1, by omega, by go_num, unhide HL5, unhide HB5⟩, rfl⟩)
            case measure => simp [intOf]; omega
          obtain rfl : k = m.fields.length := by omega
          have hlt' : ¬ (m.fields.length : Int) < (m.fields.length : Int) := by omega
          have HC := hide (builderString_any (w.heap.size + 1) (w.heap.size + 1) (c4 m m.fields.length) wr (unhide HBl))
          rw [c4_all] at HC
          clear y0 y1 y2 y3
          go_wp2_with fail
          refine (unhide HC).mono ?_
          rintro r W5 ⟨rfl, hb5⟩
          have HB5 := hide ((unhide HBw).trans (hb5.mono (by omega)))
          clear hb5
          go_wp2_with fail
          go_ret
          exact ⟨rfl, unhide HB5⟩
end Go.Proofs.YtalgidagiojbpaaGreatDoor
