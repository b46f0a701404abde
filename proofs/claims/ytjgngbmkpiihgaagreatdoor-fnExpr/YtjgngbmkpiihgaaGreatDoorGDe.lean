import Derived.Test.YtjgngbmkpiihgaaGreatDoorGDb
/- The model's drawing of expressions. -/
namespace Go.Proofs.YtjgngbmkpiihgaaGreatDoor
open Go Go.RowKit

set_option maxRecDepth 100000 in
set_option maxHeartbeats 8000000 in
theorem l3Gen_any (len : Nat) (f : Nat → Nat) (hlen : len ≤ 1048576) (d p : Nat) (hd : d ≤ 100) (hp : p ≤ 1000000) (kind : Int) (hk : kind = 1 ∨ kind = 2 ∨ kind = 3) (A B : Nat) (hA : tkD len f p 16 = A) (hA4 : 4 ≤ A) (hA15 : A < 15) (hB : tkD len f (p + 1) 64 = B) (op arg : Int) (hG : GOp kind A B op arg)
    (m : Nat) (hm : ar op = m) (hm3 : m ≤ 3) (st : Nat → List Nx × Nat) (hS : StG len f d (p + 2) (kdG op arg) m st) (hlong : ∀ i, i ≤ m → (st i).1.length ≤ 4096 ∧ (st i).2 ≤ 1000000) : GenC len f (d + 1) p kind ((st m).1 ++ [⟨op, ⟨0, 0, ⟨#[]⟩⟩, ⟨#[]⟩⟩]) (st m).2 := by
  intro w a c v hby hpk
  have hpk0 := hpk
  obtain ⟨x1, x2, x3, rfl, -⟩ := hpk
  obtain ⟨v, hv⟩ : ∃ v, Value.agg #[.slice x1 3 3, .slice x2 2 2, .slice x3 2 2] = v := ⟨_, rfl⟩
  have HBl := hide (Blk.new w 50 #[.slice x1 3 3, .slice x2 2 2, .slice x3 2 2])
  have hb0 := (Below.refl w.heap.size w).alloc (Nat.le_refl _) (.cells #[.slice x1 3 3, .slice x2 2 2, .slice x3 2 2] 50)
  obtain ⟨W0, hW0⟩ : ∃ W0, w.alloc (.cells #[.slice x1 3 3, .slice x2 2 2, .slice x3 2 2] 50) = W0 := ⟨_, rfl⟩
  rw [hW0] at HBl hb0
  have HBy := hide (hby.mono hb0); have HPk := hide (hpk0.mono hb0); have HB0 := hide hb0
  have HA := hide hA; have HBB := hide hB; have HG := hide hG; have HS := hide hS; have HL := hide hlong
  have hB64 : B < 64 := by rw [← hB]; exact tk_lt hlen (by omega) (by omega) (by omega)
  have d1 : ¬ (((d + 1 : Nat) : Int) ≤ 0) := by omega
  have d2 : ¬ (d : Int) + 1 ≤ 0 := by omega
  have a4 : ¬ (A : Int) < 4 := by omega
  have a15 : ((A : Int) == 15) = false := beq_eq_false_iff_ne.2 (by omega)
  have HP : Hid ((p : Int) + 1 = ((p + 1 : Nat) : Int)) := hide (by omega)
  clear hby hpk0 hb0 hA hB hG hS hv hlong
  go_enter Tryz.func24, Tryz.ntmps24
  go_wp2_with fail
  try rw [hW0]
  clear hW0
  refine (tk_call (p := p) (n := 16) hlen (by omega) (by omega) (by omega) c (unhide HBy) rfl rfl).mono ?_
  rintro e w' ⟨rfl, hw'⟩
  subst hw'
  rw [unhide HA]
  go_wp2_with fail
  refine (tk_call (p := p + 1) (n := 64) hlen (by omega) (by omega) (by omega) c (unhide HBy) (unhide HP) rfl).mono ?_
  rintro e w' ⟨rfl, hw'⟩
  subst hw'
  rw [unhide HBB]
  go_upto_if 65 with fail
  go_cut [14, 15] from 20 (fun s14 s15 wx => s14 = .int .i64 arg ∧ s15 = .int .i64 op ∧ wx = w')
  case first =>
    have hG := unhide HG
    unfold GOp at hG
    rcases hG with ⟨rfl, rfl, rfl⟩ | ⟨rfl, rfl, rfl⟩ | ⟨rfl, h1, rfl, rfl⟩ | ⟨rfl, h1, rfl, rfl⟩ | ⟨rfl, h1, rfl, rfl⟩ | ⟨rfl, rfl, rfl, rfl⟩ | ⟨rfl, h1, rfl, rfl⟩ | ⟨rfl, h1, rfl, rfl⟩ | ⟨rfl, h1, rfl, rfl⟩ | ⟨rfl, rfl, rfl, rfl⟩ | ⟨rfl, rfl, rfl, rfl⟩ | ⟨rfl, rfl, rfl, rfl⟩ | ⟨rfl, h1, rfl, rfl⟩ | ⟨rfl, h1, rfl, rfl⟩
    all_goals
      first | have t14 : ((A : Int) == 14) = false := beq_eq_false_iff_ne.2 (by omega) | skip
      first | have t13 : ((A : Int) == 13) = false := beq_eq_false_iff_ne.2 (by omega) | skip
      first | have t11 : ((A : Int) == 11) = false := beq_eq_false_iff_ne.2 (by omega) | skip
      first | have t10 : ((A : Int) == 10) = false := beq_eq_false_iff_ne.2 (by omega) | skip
      first | have y8 : (A : Int) < 8 := by omega | have y8 : ¬ (A : Int) < 8 := by omega | skip
      first | have y9 : (A : Int) < 9 := by omega | have y9 : ¬ (A : Int) < 9 := by omega | skip
      first | have y10 : (A : Int) < 10 := by omega | have y10 : ¬ (A : Int) < 10 := by omega | skip
      first | have y12 : (A : Int) < 12 := by omega | have y12 : ¬ (A : Int) < 12 := by omega | skip
      first | have y48 : (48 : Int) ≤ B := by omega | have y48 : ¬ (48 : Int) ≤ B := by omega | skip
      go_wp2_with fail
      go_meet
      exact ⟨rfl, rfl, rfl⟩
  case rest =>
    obtain ⟨rfl, rfl, hwc⟩ := hcut
    subst hwc
    have HB1 := hide ((Below.refl wc.heap.size wc).alloc (Nat.le_refl _) (.cells #[] 41))
    have HO1 := hide (OwnN.none wc)
    replace HBy := hide ((unhide HBy).mono (unhide HB1)); replace HPk := hide ((unhide HPk).mono (unhide HB1)); replace HBl := hide ((unhide HBl).mono (unhide HB1) (unhide HBl).lt)
    have HB2 := hide ((unhide HB0).trans ((unhide HB1).mono (unhide HB0).size))
    replace HO1 := hide ((unhide HO1).low (unhide HB0).size)
    obtain ⟨W1, hW1⟩ : ∃ W1, wc.alloc (.cells #[] 41) = W1 := ⟨_, rfl⟩
    rw [hW1] at HBy HPk HBl HB1 HB2 HO1
    clear a4 a15
    go_wp2_with fail
    try rw [hW1]
    clear hW1
    have HZ := hide (unhide HS).zero
    go_loopw [1, 16, 17] (fun v1 v16 v17 wr => ∃ i : Nat, i ≤ m ∧ v1 = .int .i64 (st i).2 ∧ v17 = .int .i64 i ∧ OwnN wr w.heap.size v16 (st i).1 ∧ Below W1.heap.size W1 wr ∧ Below w.heap.size w wr) (fun _ _ v17 _ => m - (intOf v17).toNat)
    case atStart => exact ⟨0, Nat.zero_le _, by rw [unhide HZ]; go_num, rfl, by rw [unhide HZ]; exact unhide HO1, Below.refl _ _, unhide HB2⟩
    case round =>
      obtain ⟨i, hi, rfl, rfl, ho, hb, hbw⟩ := hrel
      have HO := hide ho; have HB := hide hb; have HBw := hide hbw
      have HByr := hide ((unhide HBy).mono hb); have HPkr := hide ((unhide HPk).mono hb); have HBlr := hide ((unhide HBl).mono hb (unhide HBl).lt)
      clear ho hb hbw HO1
      obtain ⟨lm, qm, hsi⟩ : ∃ lm qm, st i = (lm, qm) := ⟨_, _, rfl⟩
      have HLi := hide (unhide HL i hi)
      rw [hsi] at HO HLi ⊢
      obtain ⟨am, cm, rfl, hnm⟩ := (unhide HO).nods
      have HN := hide hnm
      clear hnm
      obtain ⟨r0, r1, r2⟩ := three (unhide HBlr)
      go_wp2_with fail
      refine (l2Arity_any _ _).mono ?_
      rintro e w' ⟨rfl, hw'⟩
      subst hw'
      rw [hm]
      by_cases hlt : i < m
      · have hlt' : (i : Int) < m := by omega
        obtain ⟨l, hl1, hcall⟩ := (unhide HS).step i hlt
        obtain ⟨ln, qn, hsn⟩ : ∃ ln qn, st (i + 1) = (ln, qn) := ⟨_, _, rfl⟩
        have HLn := hide (unhide HL (i + 1) hlt)
        rw [hsi, hsn] at hl1 hcall
        rw [hsn] at HLn
        obtain ⟨kd, hkd⟩ : ∃ kd, kdG op arg i = kd := ⟨_, rfl⟩
        rw [hkd] at hcall
        have HC := hide (hcall w' a c _ (unhide HByr) (unhide HPkr)); have HKd := hide hkd; have HSn := hide hsn
        obtain rfl : ln = lm ++ l := hl1
        have HLl : Hid (lm.length + l.length ≤ 4096) := hide (by have := (unhide HLn).1; rw [List.length_append] at this; exact this)
        clear hcall hkd hsn
        have hway : (op = 16 ∧ i = 0 ∧ kd = 2) ∨ (op = 16 ∧ ¬ i = 0 ∧ kd = arg) ∨ (¬ op = 16 ∧ kd = arg) := by
          rw [← unhide HKd]
          unfold kdG
          split <;> omega
        rcases hway with ⟨h1, h2, rfl⟩ | ⟨h1, h2, rfl⟩ | ⟨h1, rfl⟩
        case' inl =>
          have e16 : (op == 16) = true := by simp [h1]
          have ei : ((i : Int) == 0) = true := by simp [h2]
        case' inr.inl =>
          have e16 : (op == 16) = true := by simp [h1]
          have ei : ((i : Int) == 0) = false := beq_eq_false_iff_ne.2 (by omega)
        case' inr.inr =>
          have e16 : (op == 16) = false := beq_eq_false_iff_ne.2 h1
        all_goals
          clear h1
          go_wp2_with fail
          refine (unhide HC).mono ?_
          rintro e w4 ⟨v4, rfl, ho4, hb4⟩
          obtain ⟨a4, c4, rfl, n4⟩ := ho4.nods
          have HJ := hide (l3Join_any am a4 cm c4 lm l w4 (by have := unhide HLl; omega) ((unhide HN).mono hb4) n4)
          have HB4 := hide hb4
          clear ho4 hb4 n4 HC
          go_wp2_with fail
          refine (unhide HJ).mono ?_
          rintro e w5 ⟨v5, rfl, ho5, hb5⟩
          have HO5 := hide (ho5.low (Nat.le_trans (unhide HBw).size (unhide HB4).size))
          have HB5 := hide ((unhide HB4).trans (hb5.mono (unhide HB4).size))
          clear ho5 hb5 HJ
          go_wp2_with fail
          go_roundw
          case rel => exact ⟨i + 1, by omega, by rw [unhide HSn], by go_num, by rw [unhide HSn]; exact unhide HO5, (unhide HB).trans ((unhide HB5).mono (unhide HB).size), (unhide HBw).trans ((unhide HB5).mono (unhide HBw).size)⟩
          case measure => simp [intOf]; omega
      · obtain rfl : i = m := by omega
        have hlt' : ¬ (i : Int) < i := by omega
        have HSi := hide hsi
        go_wp2_with fail
        refine (l3OpNode_any _ _).mono ?_
        rintro e w2 ⟨rfl, hb2⟩
        have HN2 : Hid (Blk _ _ 41 (nC ⟨op, ⟨0, 0, ⟨#[]⟩⟩, ⟨#[]⟩⟩)) := hide (Blk.new w2 41 (nC ⟨op, ⟨0, 0, ⟨#[]⟩⟩, ⟨#[]⟩⟩).toArray)
        have HS2 := hide ((Below.refl w2.heap.size w2).alloc (Nat.le_refl _) (.cells (nC ⟨op, ⟨0, 0, ⟨#[]⟩⟩, ⟨#[]⟩⟩).toArray 41))
        have HO2 := hide (((unhide HO).keep hb2).keep (unhide HS2))
        have HB2' := hide ((unhide HBw).trans ((hb2.trans ((unhide HS2).mono hb2.size)).mono (unhide HBw).size))
        clear hb2
        go_wp2_with (at_builtin; refine append_node rfl _ _ rfl rfl (unhide HO2) rfl (unhide HN2) (by have := (unhide HLi).1; omega) (unhide HB2').size ?_)
        intro v9 W9 ho9 hb9
        have HO9 := hide ho9; have HB9 := hide ((unhide HB2').trans hb9)
        clear ho9 hb9
        go_wp2_with fail
        go_ret2
        exact ⟨v9, by rw [unhide HSi]; rfl, by rw [unhide HSi]; exact unhide HO9, unhide HB9⟩
end Go.Proofs.YtjgngbmkpiihgaaGreatDoor

/- The model's drawing of expressions: every depth. -/
namespace Go.Proofs.YtjgngbmkpiihgaaGreatDoor
open Go Go.RowKit

set_option maxRecDepth 100000 in
set_option maxHeartbeats 4000000 in
theorem l3Gen_leaf (len : Nat) (f : Nat → Nat) (hlen : len ≤ 1048576) (d p : Nat) (hp : p ≤ 900000) (kind : Int) (n : Nx) (q : Nat) (hX : LeafX len f (p + 1) kind n q) (hd : d = 0 ∨ tkD len f p 16 < 4) : GenC len f d p kind [n] q := by
  intro w a c v hby hpk
  have hpk0 := hpk
  obtain ⟨x1, x2, x3, rfl, -⟩ := hpk
  have HBl := hide (Blk.new w 50 #[.slice x1 3 3, .slice x2 2 2, .slice x3 2 2])
  have hb0 := (Below.refl w.heap.size w).alloc (Nat.le_refl _) (.cells #[.slice x1 3 3, .slice x2 2 2, .slice x3 2 2] 50)
  obtain ⟨W0, hW0⟩ : ∃ W0, w.alloc (.cells #[.slice x1 3 3, .slice x2 2 2, .slice x3 2 2] 50) = W0 := ⟨_, rfl⟩
  rw [hW0] at HBl hb0
  obtain ⟨A, hA⟩ : ∃ A, tkD len f p 16 = A := ⟨_, rfl⟩
  rw [hA] at hd
  have HL := hide (l3Leaf_any len f hlen (p + 1) (by omega) kind n q hX W0 a c _ (hby.mono hb0) (hpk0.mono hb0))
  rw [show ((p + 1 : Nat) : Int) = (p : Int) + 1 from by omega] at HL
  have HBy := hide (hby.mono hb0); have HB0 := hide hb0; have HA := hide hA
  clear hby hpk0 hb0 hA hX
  have hway : (d : Int) ≤ 0 ∨ (¬ (d : Int) ≤ 0 ∧ (A : Int) < 4) := by omega
  clear hd
  go_enter Tryz.func24, Tryz.ntmps24
  go_wp2_with fail
  try rw [hW0]
  clear hW0
  refine (tk_call (p := p) (n := 16) hlen (by omega) (by omega) (by omega) c (unhide HBy) rfl rfl).mono ?_
  rintro e w' ⟨rfl, hw'⟩
  subst hw'
  rw [unhide HA]
  obtain ⟨r0, r1, r2⟩ := three (unhide HBl)
  rcases hway with hw1 | ⟨hw1, hw2⟩
  all_goals
    go_wp2_with fail
    refine (unhide HL).mono ?_
    rintro e w4 ⟨v4, rfl, ho4, hb4⟩
    have HO := hide (ho4.low (unhide HB0).size); have HB := hide ((unhide HB0).trans (hb4.mono (unhide HB0).size))
    clear ho4 hb4
    go_wp2_with fail
    go_ret2
    exact ⟨v4, rfl, unhide HO, unhide HB⟩

set_option maxRecDepth 100000 in
set_option maxHeartbeats 4000000 in
theorem l3Gen_other (len : Nat) (f : Nat → Nat) (hlen : len ≤ 1048576) (d p : Nat) (hd : d ≤ 100) (hp : p ≤ 900000) (kind : Int) (l : List Nx) (q : Nat) (hA : tkD len f p 16 = 15) (B : Nat) (hB : tkD len f (p + 1) 3 = B) (hC : GenC len f d (p + 2) (B + 1) l q) : GenC len f (d + 1) p kind l q := by
  intro w a c v hby hpk
  have hpk0 := hpk
  obtain ⟨x1, x2, x3, rfl, -⟩ := hpk
  have HBl := hide (Blk.new w 50 #[.slice x1 3 3, .slice x2 2 2, .slice x3 2 2])
  have hb0 := (Below.refl w.heap.size w).alloc (Nat.le_refl _) (.cells #[.slice x1 3 3, .slice x2 2 2, .slice x3 2 2] 50)
  obtain ⟨W0, hW0⟩ : ∃ W0, w.alloc (.cells #[.slice x1 3 3, .slice x2 2 2, .slice x3 2 2] 50) = W0 := ⟨_, rfl⟩
  rw [hW0] at HBl hb0
  have HC := hide (hC W0 a c _ (hby.mono hb0) (hpk0.mono hb0))
  rw [show ((p + 2 : Nat) : Int) = (p : Int) + 1 + 1 from by omega] at HC
  have hB3 : B < 3 := by rw [← hB]; exact tk_lt hlen (by omega) (by omega) (by omega)
  have HBy := hide (hby.mono hb0); have HB0 := hide hb0; have HA := hide hA; have HBB := hide hB
  have HP : Hid ((p : Int) + 1 = ((p + 1 : Nat) : Int)) := hide (by omega)
  clear hby hpk0 hb0 hA hC hB
  have d1 : ¬ (((d + 1 : Nat) : Int) ≤ 0) := by omega
  have d2 : ¬ (d : Int) + 1 ≤ 0 := by omega
  go_enter Tryz.func24, Tryz.ntmps24
  go_wp2_with fail
  try rw [hW0]
  clear hW0
  refine (tk_call (p := p) (n := 16) hlen (by omega) (by omega) (by omega) c (unhide HBy) rfl rfl).mono ?_
  rintro e w' ⟨rfl, hw'⟩
  subst hw'
  rw [unhide HA]
  go_wp2_with fail
  refine (tk_call (p := p + 1) (n := 3) hlen (by omega) (by omega) (by omega) c (unhide HBy) (unhide HP) rfl).mono ?_
  rintro e w' ⟨rfl, hw'⟩
  subst hw'
  rw [unhide HBB]
  obtain ⟨r0, r1, r2⟩ := three (unhide HBl)
  go_wp2_with fail
  refine (unhide HC).mono ?_
  rintro e w4 ⟨v4, rfl, ho4, hb4⟩
  have HO := hide (ho4.low (unhide HB0).size); have HB := hide ((unhide HB0).trans (hb4.mono (unhide HB0).size))
  clear ho4 hb4
  go_wp2_with fail
  go_ret2
  exact ⟨v4, rfl, unhide HO, unhide HB⟩

/-- Whatever the bytes are, one list is drawn, whatever lies in memory. -/
theorem gen_ex (len : Nat) (f : Nat → Nat) (hlen : len ≤ 1048576) : ∀ d, d ≤ 5 → ∀ p kind, p + 3 * 4 ^ d ≤ 900000 → (kind = 1 ∨ kind = 2 ∨ kind = 3) → ∃ l q, GenE len f d p kind l q
  | 0, _, p, kind, hp, hk => by
    obtain ⟨n, q, hX, h1, h2, h3⟩ := leaf_ex len f hlen (p + 1) (by omega) kind hk
    exact ⟨[n], q, fun x hx => by obtain rfl := List.mem_singleton.1 hx; exact h1, Nat.le_refl _, Nat.le_refl _, by omega, by omega, l3Gen_leaf len f hlen 0 p (by omega) kind n q hX (.inl rfl)⟩
  | d + 1, hd, p, kind, hp, hk => by
    have e4 : (4 : Nat) ^ (d + 1) = 4 * 4 ^ d := by rw [Nat.pow_succ, Nat.mul_comm]
    have e1 : 1 ≤ (4 : Nat) ^ d := Nat.pow_pos (by omega)
    have e5 : (4 : Nat) ^ d ≤ 4 ^ 4 := Nat.pow_le_pow_right (by omega) (by omega)
    obtain ⟨A, hA⟩ : ∃ A, tkD len f p 16 = A := ⟨_, rfl⟩
    have hA16 : A < 16 := by rw [← hA]; exact tk_lt hlen (by omega) (by omega) (by omega)
    by_cases h4 : A < 4
    · obtain ⟨n, q, hX, h1, h2, h3⟩ := leaf_ex len f hlen (p + 1) (by omega) kind hk
      exact ⟨[n], q, fun x hx => (by obtain rfl := List.mem_singleton.1 hx; exact h1), Nat.le_refl _, by simp only [List.length_singleton]; omega, by omega, by omega, l3Gen_leaf len f hlen (d + 1) p (by omega) kind n q hX (.inr (by omega))⟩
    by_cases h15 : A = 15
    · obtain ⟨B, hB⟩ : ∃ B, tkD len f (p + 1) 3 = B := ⟨_, rfl⟩
      have hB3 : B < 3 := by rw [← hB]; exact tk_lt hlen (by omega) (by omega) (by omega)
      obtain ⟨l, q, g1, g2, g3, g4, g5, g6⟩ := gen_ex len f hlen d (by omega) (p + 2) (B + 1) (by omega) (by omega)
      exact ⟨l, q, g1, g2, by omega, by omega, by omega, l3Gen_other len f hlen d p (by omega) (by omega) kind l q (by omega) B hB g6⟩
    obtain ⟨B, hB⟩ : ∃ B, tkD len f (p + 1) 64 = B := ⟨_, rfl⟩
    obtain ⟨op, arg, hG⟩ := gop_ex (b := B) hk (show A < 15 by omega)
    obtain ⟨⟨o1, o2⟩, harg⟩ := hG.fit hk
    obtain ⟨m, hm, hm3⟩ := ar_m op
    obtain ⟨st, hS⟩ := stp_ex (fun i => kdG_ok (op := op) i harg) 3 (by omega) (fun p kind h1 h2 => gen_ex len f hlen d (by omega) p kind h1 h2) m hm3 (p := p + 2)
    obtain ⟨f1, f2, f3, f4⟩ := hS.fit m (Nat.le_refl _)
    have m1 : m * 4 ^ d ≤ 3 * 4 ^ d := Nat.mul_le_mul_right _ hm3
    have m2 : m * (3 * 4 ^ d) ≤ 3 * (3 * 4 ^ d) := Nat.mul_le_mul_right _ hm3
    refine ⟨_, _, ?_, ?_, ?_, ?_, ?_, l3Gen_any len f hlen d p (by omega) (by omega) kind hk A B hA (by omega) (by omega) hB op arg hG m hm hm3 st hS fun i hi => ?_⟩
    · intro n hn
      rcases List.mem_append.1 hn with h | h
      · exact f1 n h
      · obtain rfl := List.mem_singleton.1 h; exact FitS.opn (by omega) o2
    · simp
    · rw [List.length_append, List.length_singleton]; omega
    · omega
    · omega
    · obtain ⟨-, i2, -, i4⟩ := hS.fit i hi
      have n1 : i * 4 ^ d ≤ 3 * 4 ^ d := Nat.mul_le_mul_right _ (by omega)
      have n2 : i * (3 * 4 ^ d) ≤ 3 * (3 * 4 ^ d) := Nat.mul_le_mul_right _ (by omega)
      omega
end Go.Proofs.YtjgngbmkpiihgaaGreatDoor
