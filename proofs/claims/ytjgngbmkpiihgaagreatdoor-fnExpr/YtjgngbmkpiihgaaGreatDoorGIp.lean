import Derived.Test.YtjgngbmkpiihgaaGreatDoorGNd
import Derived.Test.YtjgngbmkpiihgaaGreatDoorGSb
/- The program prints one phrase out of its operands. -/
namespace Go.Proofs.YtjgngbmkpiihgaaGreatDoor
open Go Go.RowKit

/-- The program's table of words. -/
def Wrds (w : World) : Prop := 0 < w.heap.size ∧ ∀ k, k < 26 → w.cell? ⟨0, k, none⟩ = some (.string (wrdT.getD k ⟨#[]⟩))
theorem Wrds.mono {w w' : World} (h : Wrds w) (hb : Below w.heap.size w w') : Wrds w' := ⟨Nat.lt_of_lt_of_le h.1 hb.size, fun k hk => (hb.cell h.1).trans (h.2 k hk)⟩
theorem Wrds.at {w : World} (h : Wrds w) {op : Int} (h0 : 0 ≤ op) (h1 : op ≤ 25) : w.cell? ⟨0, op.toNat, none⟩ = some (.string (wrd op)) := h.2 op.toNat (by omega)
theorem lvl_bdI (op : Int) : 1 ≤ lvl op ∧ lvl op ≤ 7 := by
  unfold lvl
  (repeat' split) <;> omega
theorem okNode_op {n : Nx} (h : okNode n = true) : 0 ≤ n.op ∧ n.op ≤ 25 := by
  rcases ops2 n.op with h0 | h0 | ⟨h0, h1⟩
  · omega
  · omega
  · rw [okNode2 h0 h1] at h
    simp only [Bool.and_eq_true, decide_eq_true_eq] at h
    omega

set_option maxRecDepth 100000 in
set_option maxHeartbeats 8000000 in
theorem phraseText_any (n : Nx) (a : Option Addr) (c : Nat) (l : List Ph) (w : World) (hok : okNode n = true) (hf : Fit n) (hl : l.length = arn n) (ha : Phs w a l) (hs : tot l ≤ 2000000) (hw : Wrds w) (hp : Pow w) :
    Calls Tryz.prog 83 #[nv n, .slice a (arn n) c] w fun r w' => r = .returned (.string (phT n l)) ∧ Below w.heap.size w w' := by
  unfold nv
  obtain ⟨hop0, hop25⟩ := okNode_op hok
  obtain ⟨W0, hW0⟩ : ∃ W0, w.alloc (.cells #[.int .i64 n.op, .int .i64 n.v.k, .int .i64 n.v.n, .string n.v.s, .string n.nm] 41) = W0 := ⟨_, rfl⟩
  have HK := hide (Blk.new w 41 #[.int .i64 n.op, .int .i64 n.v.k, .int .i64 n.v.n, .string n.v.s, .string n.nm])
  have HB := hide ((Below.refl w.heap.size w).alloc (Nat.le_refl _) (.cells #[.int .i64 n.op, .int .i64 n.v.k, .int .i64 n.v.n, .string n.v.s, .string n.nm] 41))
  rw [hW0] at HK HB
  have HA := hide (ha.mono (unhide HB)); have HP := hide (hp.mono (unhide HB))
  have hwc := (hw.mono (unhide HB)).at hop0 hop25
  have HT : Hid (phT n l = phT n l) := hide rfl
  obtain ⟨t, ht⟩ : ∃ t, phT n l = t := ⟨_, rfl⟩
  rw [ht]
  have HX := hide ht
  obtain ⟨y0, y1, y2, y3, y4⟩ := five (unhide HK)
  have HL := hide hl; have HS := hide hs
  clear ha hw hp HT ht hl hs
  go_enter Tryz.func83, Tryz.ntmps83
  go_wp2_with fail
  try rw [hW0]
  clear hW0
  have hopn : ((n.op.toNat : Nat) : Int) = n.op := by omega
  refine wp_region_held_drew (S := fun w' => w'.cell? ⟨w.heap.size, 0, none⟩ = some (.int .i64 n.op) ∧ w'.cell? ⟨0, n.op.toNat, none⟩ = some (.string (wrd n.op))) (by kernel_rfl) ⟨y0, hwc⟩ (fun hHeld => ?_)
  clear y0 y1 y2 y3 y4 hwc
  refine takeY (i := 0) (v := .pointer (some ⟨w.heap.size, 0, none⟩)) 8 rfl rfl (by kernel_rfl) (by kernel_rfl) (by kernel_rfl) (fun _ _ _ _ h => h) (by rfl) (fun w hS => by simp [execOp, go_sem, *]) hHeld ?_
  simp only [List.setIfInBounds_toArray, List.set_cons_zero, List.set_cons_succ]
  refine takeY (i := 1) (v := .int .i64 n.op) 9 rfl rfl (by kernel_rfl) (by kernel_rfl) (by kernel_rfl) (fun _ _ _ _ h => h) (by rfl) (fun w hS => by simp [execOp, go_sem, *]) hHeld ?_
  simp only [List.setIfInBounds_toArray, List.set_cons_zero, List.set_cons_succ]
  refine takeY (i := 3) (v := .pointer (some ⟨w.heap.size, 0, none⟩)) 11 rfl rfl (by kernel_rfl) (by kernel_rfl) (by kernel_rfl) (fun _ _ _ _ h => h) (by rfl) (fun w hS => by simp [execOp, go_sem, *]) hHeld ?_
  simp only [List.setIfInBounds_toArray, List.set_cons_zero, List.set_cons_succ]
  refine takeY (i := 4) (v := .int .i64 n.op) 12 rfl rfl (by kernel_rfl) (by kernel_rfl) (by kernel_rfl) (fun _ _ _ _ h => h) (by rfl) (fun w hS => by simp [execOp, go_sem, *]) hHeld ?_
  simp only [List.setIfInBounds_toArray, List.set_cons_zero, List.set_cons_succ]
  refine takeY (i := 5) (v := .pointer (some ⟨0, n.op.toNat, none⟩)) 13 rfl rfl (by kernel_rfl) (by kernel_rfl) (by kernel_rfl) (fun _ _ _ _ h => h) (by rfl) (fun w hS => by simp [execOp, go_sem, *]; intro h; omega) hHeld ?_
  simp only [List.setIfInBounds_toArray, List.set_cons_zero, List.set_cons_succ]
  refine takeY (i := 6) (v := .string (wrd n.op)) 14 rfl rfl (by kernel_rfl) (by kernel_rfl) (by kernel_rfl) (fun _ _ _ _ h => h) (by rfl) (fun w hS => by simp [execOp, go_sem, *]) hHeld ?_
  simp only [List.setIfInBounds_toArray, List.set_cons_zero, List.set_cons_succ]
  refine callY (i := 2) (f := 84) (args := #[.int .i64 n.op]) (R := fun r wz => r = .int .i64 (lvl n.op) ∧ wz = W0.drew) 10 rfl rfl (by rfl) (by kernel_rfl) ?hrun0 ((levelOf_any _ _).mono fun e w6 ⟨he, hb⟩ => ⟨_, he, rfl, hb⟩) ?_
  case hrun0 => simp [execOp, go_sem]
  rintro r3 w3 ⟨rfl, hw⟩
  subst hw
  refine ⟨hHeld, ?_⟩
  simp only [List.setIfInBounds_toArray, List.set_cons_zero, List.set_cons_succ]
  refine takeY (i := 7) (v := .int .i64 (lvl n.op)) 5 rfl rfl (by kernel_rfl) (by kernel_rfl) (by kernel_rfl) (fun _ _ _ _ h => h) (by rfl) (fun w hS => by simp [execOp, go_sem, *]) hHeld ?_
  simp only [List.setIfInBounds_toArray, List.set_cons_zero, List.set_cons_succ]
  refine takeY (i := 8) (v := .string (wrd n.op)) 6 rfl rfl (by kernel_rfl) (by kernel_rfl) (by kernel_rfl) (fun _ _ _ _ h => h) (by rfl) (fun w hS => by simp [execOp, go_sem, *]) hHeld ?_
  simp only [List.setIfInBounds_toArray, List.set_cons_zero, List.set_cons_succ]
  refine wpAnyH_done (by kernel_rfl) ?_ _
  clear hHeld hopn
  have HD : Hid (Below W0.heap.size W0 W0.drew) := hide ((Below.refl _ _).drew)
  replace HB := hide ((unhide HB).trans ((unhide HD).mono (unhide HB).size)); replace HK := hide ((unhide HK).mono (unhide HD) (unhide HK).lt); replace HA := hide ((unhide HA).mono (unhide HD)); replace HP := hide ((unhide HP).mono (unhide HD))
  clear HD
  obtain ⟨W1, hW1⟩ : ∃ W1, W0.drew = W1 := ⟨_, rfl⟩
  rw [hW1] at HB HK HA HP ⊢
  clear hW1
  obtain ⟨W0, hW0⟩ : ∃ W0, W0 = W1 := ⟨_, rfl⟩
  subst hW0
  obtain ⟨y0, y1, y2, y3, y4⟩ := five (unhide HK)
  rcases ops2 n.op with h | h | ⟨h, h'⟩
  · have HY : Hid (showB n.v.k n.v.n n.v.s = t) := hide (by rw [← unhide HX, phT, if_pos h])
    rw [h] at y0
    go_wp2_with fail
    refine (implShow_any _ _ _ _ hf.1 hf.2.2.1 hf.2.2.2 (unhide HP)).mono ?_
    rintro r w2 ⟨rfl, hb⟩
    replace HB := hide ((unhide HB).trans (hb.mono (unhide HB).size))
    clear hb
    go_wp2_with fail
    go_ret
    exact ⟨ret_str (unhide HY), unhide HB⟩
  · have HY : Hid (n.nm = t) := hide (by rw [← unhide HX, phT, if_neg (by omega), if_pos h])
    rw [h] at y0
    go_wp2_with fail
    go_ret
    exact ⟨ret_str (unhide HY), unhide HB⟩
  have n0 : (n.op == 0) = false := beq_eq_false_iff_ne.2 h
  have n1 : (n.op == 1) = false := beq_eq_false_iff_ne.2 h'
  have hop : 2 ≤ n.op := by omega
  have hwsz := wrd_size hop hop25
  have hfa := hf
  clear hf hfa
  by_cases h2 : n.op = 2
  · have e1 : arn n = 1 := by unfold arn; rw [ar_one (.inl h2)]; rfl
    rw [e1] at HL ⊢
    obtain ⟨x, rfl⟩ := list1 (unhide HL)
    have HY : Hid (⟨#[45]⟩ ++ wrap 6 x = t) := hide (by rw [← unhide HX, phT, if_neg h, if_neg h', if_pos h2]; rfl)
    obtain ⟨b1, o1, rfl, -, c0, c1, c2⟩ := unhide HA 0 (by simp)
    simp only [List.getElem_cons_zero, Nat.zero_mul, Nat.add_zero] at c0 c1 c2
    have hsx : x.t.size ≤ 2000000 := by have := unhide HS; simp only [tot] at this; omega
    have hws := wrap_size 6 x
    rw [h2] at y0
    rw [show wrd n.op = ⟨#[45]⟩ by rw [h2]; rfl, show lvl n.op = 6 by rw [h2]; rfl]
    clear n0 n1 hop h h' h2 hwsz
    go_wp2_with fail
    refine (atLevel_any x 6 _ hsx).mono ?_
    rintro r w2 ⟨rfl, hb⟩
    replace HB := hide ((unhide HB).trans (hb.mono (unhide HB).size))
    generalize wrap 6 x = q at *
    clear hb
    go_wp2_with fail
    go_ret
    exact ⟨ret_str (unhide HY), unhide HB⟩
  by_cases h3 : n.op = 3
  · have e1 : arn n = 1 := by unfold arn; rw [ar_one (.inr h3)]; rfl
    rw [e1] at HL ⊢
    obtain ⟨x, rfl⟩ := list1 (unhide HL)
    have HY : Hid (⟨#[110, 111, 116, 32]⟩ ++ wrap 6 x = t) := hide (by rw [← unhide HX, phT, if_neg h, if_neg h', if_neg h2, if_pos h3]; rfl)
    obtain ⟨b1, o1, rfl, -, c0, c1, c2⟩ := unhide HA 0 (by simp)
    simp only [List.getElem_cons_zero, Nat.zero_mul, Nat.add_zero] at c0 c1 c2
    have hsx : x.t.size ≤ 2000000 := by have := unhide HS; simp only [tot] at this; omega
    have hws := wrap_size 6 x
    rw [h3] at y0
    rw [show wrd n.op = ⟨#[110, 111, 116]⟩ by rw [h3]; rfl, show lvl n.op = 6 by rw [h3]; rfl]
    clear n0 n1 hop h h' h2 h3 hwsz
    go_wp2_with fail
    refine (atLevel_any x 6 _ hsx).mono ?_
    rintro r w2 ⟨rfl, hb⟩
    replace HB := hide ((unhide HB).trans (hb.mono (unhide HB).size))
    generalize wrap 6 x = q at *
    clear hb
    go_wp2_with fail
    go_ret
    exact ⟨ret_str (unhide HY), unhide HB⟩
  have n2 : (n.op == 2) = false := beq_eq_false_iff_ne.2 h2
  have n3 : (n.op == 3) = false := beq_eq_false_iff_ne.2 h3
  by_cases h7 : lvl n.op = 7
  · have HY : Hid (wrd n.op ++ ⟨#[40]⟩ ++ jn (l.map (·.t)) ++ ⟨#[41]⟩ = t) := hide (by rw [← unhide HX, phT, if_neg h, if_neg h', if_neg h2, if_neg h3, if_pos h7])
    have har := arn_le n
    have har1 : 1 ≤ arn n := by
      have := arn_cast n
      have e := ar_opn n.op
      rw [if_pos (by omega)] at e
      have : 1 ≤ opn n.op := by unfold opn; (repeat' split) <;> omega
      omega
    have hjs := jn_size l
    have hst := unhide HS
    rw [unhide HL] at hjs
    rw [h7]
    clear h h' h2 h3 h7
    generalize wrd n.op = wd at *
    go_wp2_with fail
    refine (show Calls Tryz.prog 113 #[.slice a (arn n) c] W0 fun r w' => r = .returned (.string (jn (l.map (·.t)))) ∧ Below W0.heap.size W0 w' from ?_).mono ?_
    · rw [← unhide HL]; exact listed_any a c l W0 (by have := unhide HL; omega) (by have := unhide HL; omega) (unhide HA) (unhide HS)
    rintro r w2 ⟨rfl, hb⟩
    replace HB := hide ((unhide HB).trans (hb.mono (unhide HB).size))
    clear hb
    generalize jn (l.map (·.t)) = q at *
    have hA : (wd ++ (⟨#[40]⟩ : ByteArray)).size = wd.size + 1 := by rw [ByteArray.size_append]; rfl
    have hA2 : (wd ++ (⟨#[40]⟩ : ByteArray) ++ q).size = wd.size + 1 + q.size := by rw [ByteArray.size_append, hA]
    go_wp2_with fail
    go_ret
    exact ⟨ret_str (unhide HY), unhide HB⟩
  · have e2 : arn n = 2 := by unfold arn; rw [ar_two hop hop25 h7 h2 h3]; rfl
    rw [e2] at HL ⊢
    obtain ⟨x, y, rfl⟩ := list2 (unhide HL)
    have HY : Hid (wrap (lft n.op) x ++ ⟨#[32]⟩ ++ wrd n.op ++ ⟨#[32]⟩ ++ wrap (lvl n.op + 1) y = t) := hide (by rw [← unhide HX, phT, if_neg h, if_neg h', if_neg h2, if_neg h3, if_neg h7]; rfl)
    have hg0 := unhide HA 0 (by simp)
    have hg1 := unhide HA 1 (by simp)
    obtain ⟨b1, o1, rfl, hc0⟩ := hg0
    obtain ⟨b2, o2, e12, hc1⟩ := hg1
    cases e12
    simp only [List.getElem_cons_zero, List.getElem_cons_succ, Nat.zero_mul, Nat.one_mul, Nat.add_zero] at hc0 hc1
    have HC := hide (And.intro hc0 hc1)
    have hsx : x.t.size + y.t.size ≤ 2000000 := by have := unhide HS; simp only [tot] at this; omega
    have hlv := lvl_bdI n.op
    have HLf : Hid (lft n.op = if lvl n.op = 3 then 4 else lvl n.op) := hide rfl
    obtain ⟨lv, hlve⟩ : ∃ lv, lvl n.op = lv := ⟨_, rfl⟩
    obtain ⟨lf, hlfe⟩ : ∃ lf, lft n.op = lf := ⟨_, rfl⟩
    rw [hlve] at HY HLf h7 hlv ⊢; rw [hlfe] at HY HLf
    have n7 : (lv == 7) = false := beq_eq_false_iff_ne.2 h7
    clear hlve hlfe h h' h2 h3
    by_cases h3 : lv = 3
    · have hl4 : lf = 4 := by rw [unhide HLf, if_pos h3]
      subst h3 hl4
      simp only [show (3 : Int) + 1 = 4 from rfl] at HY
      clear HLf n7 h7 hlv
      go_wp2_with fail
      refine wp_region_held_drew (S := fun w' => PCel w' b1 o1 x ∧ PCel w' b1 (o1 + 3) y) (by kernel_rfl) ⟨hc0, hc1⟩ (fun hHeld => ?_)
      refine takeY (i := 0) (v := .slice (some ⟨b1, o1, none⟩) 2 c) 65 rfl rfl (by kernel_rfl) (by kernel_rfl) (by kernel_rfl) (fun _ _ _ _ h => h) (by rfl) (fun w hS => by simp [execOp, go_sem, *]) hHeld ?_
      simp only [List.setIfInBounds_toArray, List.set_cons_zero, List.set_cons_succ]
      refine takeY (i := 1) (v := .pointer (some ⟨b1, o1, none⟩)) 66 rfl rfl (by kernel_rfl) (by kernel_rfl) (by kernel_rfl) (fun _ _ _ _ h => h) (by rfl) (fun w hS => by simp [execOp, go_sem, *]) hHeld ?_
      simp only [List.setIfInBounds_toArray, List.set_cons_zero, List.set_cons_succ]
      refine takeY (i := 2) (v := .agg #[.string x.t, .int .i64 x.lv, .int .i64 x.d]) 67 rfl rfl (by kernel_rfl) (by kernel_rfl) (by kernel_rfl) (fun _ _ _ _ h => h) (by rfl) (fun w hS => by obtain ⟨⟨-, q0, q1, q2⟩, -, q3, q4, q5⟩ := hS; simp [execOp, go_sem, q0, q1, q2]) hHeld ?_
      simp only [List.setIfInBounds_toArray, List.set_cons_zero, List.set_cons_succ]
      refine takeY (i := 3) (v := .int .i64 4) 68 rfl rfl (by kernel_rfl) (by kernel_rfl) (by kernel_rfl) (fun _ _ _ _ h => h) (by rfl) (fun w hS => by simp [execOp, go_sem, *]) hHeld ?_
      simp only [List.setIfInBounds_toArray, List.set_cons_zero, List.set_cons_succ]
      refine takeY (i := 6) (v := .string (wrd n.op)) 71 rfl rfl (by kernel_rfl) (by kernel_rfl) (by kernel_rfl) (fun _ _ _ _ h => h) (by rfl) (fun w hS => by simp [execOp, go_sem, *]) hHeld ?_
      simp only [List.setIfInBounds_toArray, List.set_cons_zero, List.set_cons_succ]
      refine takeY (i := 9) (v := .slice (some ⟨b1, o1, none⟩) 2 c) 74 rfl rfl (by kernel_rfl) (by kernel_rfl) (by kernel_rfl) (fun _ _ _ _ h => h) (by rfl) (fun w hS => by simp [execOp, go_sem, *]) hHeld ?_
      simp only [List.setIfInBounds_toArray, List.set_cons_zero, List.set_cons_succ]
      refine takeY (i := 10) (v := .pointer (some ⟨b1, o1 + 3, none⟩)) 75 rfl rfl (by kernel_rfl) (by kernel_rfl) (by kernel_rfl) (fun _ _ _ _ h => h) (by rfl) (fun w hS => by simp [execOp, go_sem, *]) hHeld ?_
      simp only [List.setIfInBounds_toArray, List.set_cons_zero, List.set_cons_succ]
      refine takeY (i := 11) (v := .agg #[.string y.t, .int .i64 y.lv, .int .i64 y.d]) 76 rfl rfl (by kernel_rfl) (by kernel_rfl) (by kernel_rfl) (fun _ _ _ _ h => h) (by rfl) (fun w hS => by obtain ⟨⟨-, q0, q1, q2⟩, -, q3, q4, q5⟩ := hS; simp [execOp, go_sem, q3, q4, q5]) hHeld ?_
      simp only [List.setIfInBounds_toArray, List.set_cons_zero, List.set_cons_succ]
      refine takeY (i := 12) (v := .int .i64 3) 77 rfl rfl (by kernel_rfl) (by kernel_rfl) (by kernel_rfl) (fun _ _ _ _ h => h) (by rfl) (fun w hS => by simp [execOp, go_sem, *]) hHeld ?_
      simp only [List.setIfInBounds_toArray, List.set_cons_zero, List.set_cons_succ]
      refine takeY (i := 13) (v := .int .i64 4) 78 rfl rfl (by kernel_rfl) (by kernel_rfl) (by kernel_rfl) (fun _ _ _ _ h => h) (by rfl) (fun w hS => by simp [execOp, go_sem, *]; rfl) hHeld ?_
      simp only [List.setIfInBounds_toArray, List.set_cons_zero, List.set_cons_succ]
      refine callY (i := 4) (f := 112) (args := #[.agg #[.string x.t, .int .i64 x.lv, .int .i64 x.d], .int .i64 4]) (R := fun r wz => r = .string (wrap 4 x) ∧ Below W0.heap.size W0 wz) 69 rfl rfl (by rfl) (by kernel_rfl) ?hrun1 ((atLevel_any x 4 _ (by omega)).mono fun e w6 ⟨he, hb⟩ => ⟨_, he, rfl, below_of_drew hb⟩) ?_
      case hrun1 => simp [execOp, go_sem]
      rintro r3 W4 ⟨rfl, hb⟩
      replace HB := hide ((unhide HB).trans (hb.mono (unhide HB).size))
      replace hHeld : PCel W4 b1 o1 x ∧ PCel W4 b1 (o1 + 3) y := ⟨(unhide HC).1.mono hb, (unhide HC).2.mono hb⟩
      clear hb hc0 hc1
      refine ⟨hHeld, ?_⟩
      simp only [List.setIfInBounds_toArray, List.set_cons_zero, List.set_cons_succ]
      have ht1 := wrap_size 4 x
      have ht2 := wrap_size 4 y
      obtain ⟨t1, ht1e⟩ : ∃ t1, wrap 4 x = t1 := ⟨_, rfl⟩
      rw [ht1e] at HY ht1 ⊢
      clear ht1e
      have hA : (t1 ++ (⟨#[32]⟩ : ByteArray)).size = t1.size + 1 := by rw [ByteArray.size_append]; rfl
      obtain ⟨wd, hwde⟩ : ∃ wd, wrd n.op = wd := ⟨_, rfl⟩
      rw [hwde] at HY hwsz ⊢
      clear hwde
      refine takeY (i := 5) (v := .string (t1 ++ ⟨#[32]⟩)) 70 rfl rfl (by kernel_rfl) (by kernel_rfl) (by kernel_rfl) (fun _ _ _ _ h => h) (by rfl) (fun w hS => by have := run_string_add_sum (P := Tryz.prog) w t1 ⟨#[32]⟩ (by show t1.size + 1 ≤ _; omega); simp [execOp, go_sem, this]) hHeld ?_
      simp only [List.setIfInBounds_toArray, List.set_cons_zero, List.set_cons_succ]
      have hA2 : (t1 ++ (⟨#[32]⟩ : ByteArray) ++ wd).size = t1.size + 1 + wd.size := by rw [ByteArray.size_append, hA]
      refine takeY (i := 7) (v := .string (t1 ++ ⟨#[32]⟩ ++ wd)) 72 rfl rfl (by kernel_rfl) (by kernel_rfl) (by kernel_rfl) (fun _ _ _ _ h => h) (by rfl) (fun w hS => by have := run_string_add_sum (P := Tryz.prog) w (t1 ++ ⟨#[32]⟩) wd (by omega); simp [execOp, go_sem, this]) hHeld ?_
      simp only [List.setIfInBounds_toArray, List.set_cons_zero, List.set_cons_succ]
      have hA3 : (t1 ++ (⟨#[32]⟩ : ByteArray) ++ wd ++ ⟨#[32]⟩).size = t1.size + 1 + wd.size + 1 := by rw [ByteArray.size_append, hA2]; rfl
      refine takeY (i := 8) (v := .string (t1 ++ ⟨#[32]⟩ ++ wd ++ ⟨#[32]⟩)) 73 rfl rfl (by kernel_rfl) (by kernel_rfl) (by kernel_rfl) (fun _ _ _ _ h => h) (by rfl) (fun w hS => by have := run_string_add_sum (P := Tryz.prog) w (t1 ++ ⟨#[32]⟩ ++ wd) ⟨#[32]⟩ (by rw [hA2]; show t1.size + 1 + wd.size + 1 ≤ _; omega); simp [execOp, go_sem, this]) hHeld ?_
      simp only [List.setIfInBounds_toArray, List.set_cons_zero, List.set_cons_succ]
      refine callY (i := 14) (f := 112) (args := #[.agg #[.string y.t, .int .i64 y.lv, .int .i64 y.d], .int .i64 4]) (R := fun r wz => r = .string (wrap 4 y) ∧ Below W4.heap.size W4 wz) 79 rfl rfl (by rfl) (by kernel_rfl) ?hrun2 ((atLevel_any y 4 _ (by omega)).mono fun e w6 ⟨he, hb⟩ => ⟨_, he, rfl, hb⟩) ?_
      case hrun2 => simp [execOp, go_sem]
      rintro r3 W5 ⟨rfl, hb⟩
      replace HB := hide ((unhide HB).trans (hb.mono (unhide HB).size))
      replace hHeld : PCel W5 b1 o1 x ∧ PCel W5 b1 (o1 + 3) y := ⟨hHeld.1.mono hb, hHeld.2.mono hb⟩
      clear hb
      refine ⟨hHeld, ?_⟩
      simp only [List.setIfInBounds_toArray, List.set_cons_zero, List.set_cons_succ]
      obtain ⟨t2, ht2e⟩ : ∃ t2, wrap 4 y = t2 := ⟨_, rfl⟩
      rw [ht2e] at HY ht2 ⊢
      clear ht2e
      obtain ⟨u3, hu3⟩ : ∃ u3, t1 ++ (⟨#[32]⟩ : ByteArray) ++ wd ++ ⟨#[32]⟩ = u3 := ⟨_, rfl⟩
      rw [hu3] at HY hA3 ⊢
      clear hu3 hA hA2
      refine takeY (i := 15) (v := .string (u3 ++ t2)) 80 rfl rfl (by kernel_rfl) (by kernel_rfl) (by kernel_rfl) (fun _ _ _ _ h => h) (by rfl) (fun w hS => by have := run_string_add_sum (P := Tryz.prog) w u3 t2 (by omega); simp [execOp, go_sem, this]) hHeld ?_
      simp only [List.setIfInBounds_toArray, List.set_cons_zero, List.set_cons_succ]
      refine takeY (i := 16) (v := .string (u3 ++ t2)) 4 rfl rfl (by kernel_rfl) (by kernel_rfl) (by kernel_rfl) (fun _ _ _ _ h => h) (by rfl) (fun w hS => by simp [execOp, go_sem, *]) hHeld ?_
      simp only [List.setIfInBounds_toArray, List.set_cons_zero, List.set_cons_succ]
      refine wpAnyH_done (by kernel_rfl) ?_ _
      clear hHeld
      go_wp2
      go_ret
      exact ⟨ret_str (unhide HY), unhide HB⟩
    · have hl4 : lf = lv := by rw [unhide HLf, if_neg h3]
      subst hl4
      have n3' : (lf == 3) = false := beq_eq_false_iff_ne.2 h3
      clear HLf h7 h3
      go_wp2_with fail
      refine wp_region_held_drew (S := fun w' => PCel w' b1 o1 x ∧ PCel w' b1 (o1 + 3) y) (by kernel_rfl) ⟨hc0, hc1⟩ (fun hHeld => ?_)
      refine takeY (i := 0) (v := .slice (some ⟨b1, o1, none⟩) 2 c) 65 rfl rfl (by kernel_rfl) (by kernel_rfl) (by kernel_rfl) (fun _ _ _ _ h => h) (by rfl) (fun w hS => by simp [execOp, go_sem, *]) hHeld ?_
      simp only [List.setIfInBounds_toArray, List.set_cons_zero, List.set_cons_succ]
      refine takeY (i := 1) (v := .pointer (some ⟨b1, o1, none⟩)) 66 rfl rfl (by kernel_rfl) (by kernel_rfl) (by kernel_rfl) (fun _ _ _ _ h => h) (by rfl) (fun w hS => by simp [execOp, go_sem, *]) hHeld ?_
      simp only [List.setIfInBounds_toArray, List.set_cons_zero, List.set_cons_succ]
      refine takeY (i := 2) (v := .agg #[.string x.t, .int .i64 x.lv, .int .i64 x.d]) 67 rfl rfl (by kernel_rfl) (by kernel_rfl) (by kernel_rfl) (fun _ _ _ _ h => h) (by rfl) (fun w hS => by obtain ⟨⟨-, q0, q1, q2⟩, -, q3, q4, q5⟩ := hS; simp [execOp, go_sem, q0, q1, q2]) hHeld ?_
      simp only [List.setIfInBounds_toArray, List.set_cons_zero, List.set_cons_succ]
      refine takeY (i := 3) (v := .int .i64 lf) 68 rfl rfl (by kernel_rfl) (by kernel_rfl) (by kernel_rfl) (fun _ _ _ _ h => h) (by rfl) (fun w hS => by simp [execOp, go_sem, *]) hHeld ?_
      simp only [List.setIfInBounds_toArray, List.set_cons_zero, List.set_cons_succ]
      refine takeY (i := 6) (v := .string (wrd n.op)) 71 rfl rfl (by kernel_rfl) (by kernel_rfl) (by kernel_rfl) (fun _ _ _ _ h => h) (by rfl) (fun w hS => by simp [execOp, go_sem, *]) hHeld ?_
      simp only [List.setIfInBounds_toArray, List.set_cons_zero, List.set_cons_succ]
      refine takeY (i := 9) (v := .slice (some ⟨b1, o1, none⟩) 2 c) 74 rfl rfl (by kernel_rfl) (by kernel_rfl) (by kernel_rfl) (fun _ _ _ _ h => h) (by rfl) (fun w hS => by simp [execOp, go_sem, *]) hHeld ?_
      simp only [List.setIfInBounds_toArray, List.set_cons_zero, List.set_cons_succ]
      refine takeY (i := 10) (v := .pointer (some ⟨b1, o1 + 3, none⟩)) 75 rfl rfl (by kernel_rfl) (by kernel_rfl) (by kernel_rfl) (fun _ _ _ _ h => h) (by rfl) (fun w hS => by simp [execOp, go_sem, *]) hHeld ?_
      simp only [List.setIfInBounds_toArray, List.set_cons_zero, List.set_cons_succ]
      refine takeY (i := 11) (v := .agg #[.string y.t, .int .i64 y.lv, .int .i64 y.d]) 76 rfl rfl (by kernel_rfl) (by kernel_rfl) (by kernel_rfl) (fun _ _ _ _ h => h) (by rfl) (fun w hS => by obtain ⟨⟨-, q0, q1, q2⟩, -, q3, q4, q5⟩ := hS; simp [execOp, go_sem, q3, q4, q5]) hHeld ?_
      simp only [List.setIfInBounds_toArray, List.set_cons_zero, List.set_cons_succ]
      refine takeY (i := 12) (v := .int .i64 lf) 77 rfl rfl (by kernel_rfl) (by kernel_rfl) (by kernel_rfl) (fun _ _ _ _ h => h) (by rfl) (fun w hS => by simp [execOp, go_sem, *]) hHeld ?_
      simp only [List.setIfInBounds_toArray, List.set_cons_zero, List.set_cons_succ]
      refine takeY (i := 13) (v := .int .i64 (lf + 1)) 78 rfl rfl (by kernel_rfl) (by kernel_rfl) (by kernel_rfl) (fun _ _ _ _ h => h) (by rfl) (fun w hS => by simp [execOp, go_sem, *]; rw [IntKind.wrap_i64]; omega) hHeld ?_
      simp only [List.setIfInBounds_toArray, List.set_cons_zero, List.set_cons_succ]
      refine callY (i := 4) (f := 112) (args := #[.agg #[.string x.t, .int .i64 x.lv, .int .i64 x.d], .int .i64 lf]) (R := fun r wz => r = .string (wrap lf x) ∧ Below W0.heap.size W0 wz) 69 rfl rfl (by rfl) (by kernel_rfl) ?hrun1 ((atLevel_any x lf _ (by omega)).mono fun e w6 ⟨he, hb⟩ => ⟨_, he, rfl, below_of_drew hb⟩) ?_
      case hrun1 => simp [execOp, go_sem]
      rintro r3 W4 ⟨rfl, hb⟩
      replace HB := hide ((unhide HB).trans (hb.mono (unhide HB).size))
      replace hHeld : PCel W4 b1 o1 x ∧ PCel W4 b1 (o1 + 3) y := ⟨(unhide HC).1.mono hb, (unhide HC).2.mono hb⟩
      clear hb hc0 hc1
      refine ⟨hHeld, ?_⟩
      simp only [List.setIfInBounds_toArray, List.set_cons_zero, List.set_cons_succ]
      have ht1 := wrap_size lf x
      have ht2 := wrap_size (lf + 1) y
      obtain ⟨t1, ht1e⟩ : ∃ t1, wrap lf x = t1 := ⟨_, rfl⟩
      rw [ht1e] at HY ht1 ⊢
      clear ht1e
      have hA : (t1 ++ (⟨#[32]⟩ : ByteArray)).size = t1.size + 1 := by rw [ByteArray.size_append]; rfl
      obtain ⟨wd, hwde⟩ : ∃ wd, wrd n.op = wd := ⟨_, rfl⟩
      rw [hwde] at HY hwsz ⊢
      clear hwde
      refine takeY (i := 5) (v := .string (t1 ++ ⟨#[32]⟩)) 70 rfl rfl (by kernel_rfl) (by kernel_rfl) (by kernel_rfl) (fun _ _ _ _ h => h) (by rfl) (fun w hS => by have := run_string_add_sum (P := Tryz.prog) w t1 ⟨#[32]⟩ (by show t1.size + 1 ≤ _; omega); simp [execOp, go_sem, this]) hHeld ?_
      simp only [List.setIfInBounds_toArray, List.set_cons_zero, List.set_cons_succ]
      have hA2 : (t1 ++ (⟨#[32]⟩ : ByteArray) ++ wd).size = t1.size + 1 + wd.size := by rw [ByteArray.size_append, hA]
      refine takeY (i := 7) (v := .string (t1 ++ ⟨#[32]⟩ ++ wd)) 72 rfl rfl (by kernel_rfl) (by kernel_rfl) (by kernel_rfl) (fun _ _ _ _ h => h) (by rfl) (fun w hS => by have := run_string_add_sum (P := Tryz.prog) w (t1 ++ ⟨#[32]⟩) wd (by omega); simp [execOp, go_sem, this]) hHeld ?_
      simp only [List.setIfInBounds_toArray, List.set_cons_zero, List.set_cons_succ]
      have hA3 : (t1 ++ (⟨#[32]⟩ : ByteArray) ++ wd ++ ⟨#[32]⟩).size = t1.size + 1 + wd.size + 1 := by rw [ByteArray.size_append, hA2]; rfl
      refine takeY (i := 8) (v := .string (t1 ++ ⟨#[32]⟩ ++ wd ++ ⟨#[32]⟩)) 73 rfl rfl (by kernel_rfl) (by kernel_rfl) (by kernel_rfl) (fun _ _ _ _ h => h) (by rfl) (fun w hS => by have := run_string_add_sum (P := Tryz.prog) w (t1 ++ ⟨#[32]⟩ ++ wd) ⟨#[32]⟩ (by rw [hA2]; show t1.size + 1 + wd.size + 1 ≤ _; omega); simp [execOp, go_sem, this]) hHeld ?_
      simp only [List.setIfInBounds_toArray, List.set_cons_zero, List.set_cons_succ]
      refine callY (i := 14) (f := 112) (args := #[.agg #[.string y.t, .int .i64 y.lv, .int .i64 y.d], .int .i64 (lf + 1)]) (R := fun r wz => r = .string (wrap (lf + 1) y) ∧ Below W4.heap.size W4 wz) 79 rfl rfl (by rfl) (by kernel_rfl) ?hrun2 ((atLevel_any y (lf + 1) _ (by omega)).mono fun e w6 ⟨he, hb⟩ => ⟨_, he, rfl, hb⟩) ?_
      case hrun2 => simp [execOp, go_sem]
      rintro r3 W5 ⟨rfl, hb⟩
      replace HB := hide ((unhide HB).trans (hb.mono (unhide HB).size))
      replace hHeld : PCel W5 b1 o1 x ∧ PCel W5 b1 (o1 + 3) y := ⟨hHeld.1.mono hb, hHeld.2.mono hb⟩
      clear hb
      refine ⟨hHeld, ?_⟩
      simp only [List.setIfInBounds_toArray, List.set_cons_zero, List.set_cons_succ]
      obtain ⟨t2, ht2e⟩ : ∃ t2, wrap (lf + 1) y = t2 := ⟨_, rfl⟩
      rw [ht2e] at HY ht2 ⊢
      clear ht2e
      obtain ⟨u3, hu3⟩ : ∃ u3, t1 ++ (⟨#[32]⟩ : ByteArray) ++ wd ++ ⟨#[32]⟩ = u3 := ⟨_, rfl⟩
      rw [hu3] at HY hA3 ⊢
      clear hu3 hA hA2
      refine takeY (i := 15) (v := .string (u3 ++ t2)) 80 rfl rfl (by kernel_rfl) (by kernel_rfl) (by kernel_rfl) (fun _ _ _ _ h => h) (by rfl) (fun w hS => by have := run_string_add_sum (P := Tryz.prog) w u3 t2 (by omega); simp [execOp, go_sem, this]) hHeld ?_
      simp only [List.setIfInBounds_toArray, List.set_cons_zero, List.set_cons_succ]
      refine takeY (i := 16) (v := .string (u3 ++ t2)) 4 rfl rfl (by kernel_rfl) (by kernel_rfl) (by kernel_rfl) (fun _ _ _ _ h => h) (by rfl) (fun w hS => by simp [execOp, go_sem, *]) hHeld ?_
      simp only [List.setIfInBounds_toArray, List.set_cons_zero, List.set_cons_succ]
      refine wpAnyH_done (by kernel_rfl) ?_ _
      clear hHeld
      go_wp2
      go_ret
      exact ⟨ret_str (unhide HY), unhide HB⟩
end Go.Proofs.YtjgngbmkpiihgaaGreatDoor

/- The program makes one phrase out of its operands. -/
namespace Go.Proofs.YtjgngbmkpiihgaaGreatDoor
open Go Go.RowKit

theorem mx_take_snoc (l : List Ph) (k : Nat) (h : k < l.length) : mx (l.take (k + 1)) = max (mx (l.take k)) l[k].d := by
  rw [List.take_succ_eq_append_getElem h, mx_append]; simp [mx]
theorem max_int (a b : Nat) : (if (a : Int) < b then (b : Int) else a) = ((max a b : Nat) : Int) := by
  split <;> omega

set_option maxRecDepth 100000 in
set_option maxHeartbeats 8000000 in
theorem phraseOf_any (n : Nx) (a : Option Addr) (c : Nat) (l : List Ph) (w : World) (hok : okNode n = true) (hf : Fit n) (hl : l.length = arn n) (ha : Phs w a l) (hs : tot l ≤ 2000000) (hd : mx l ≤ 1000) (hw : Wrds w) (hp : Pow w) :
    Calls Tryz.prog 46 #[nv n, .slice a (arn n) c] w fun r w' => r = .returned (pv (phr n l)) ∧ Below w.heap.size w w' := by
  unfold nv
  have HK := hide ((Blk.new w 41 #[.int .i64 n.op, .int .i64 n.v.k, .int .i64 n.v.n, .string n.v.s, .string n.nm]).alloc (.cells #[.string ⟨#[]⟩, .int .i64 0, .int .i64 0] 76))
  have HR := hide (Blk.new (w.alloc (.cells #[.int .i64 n.op, .int .i64 n.v.k, .int .i64 n.v.n, .string n.v.s, .string n.nm] 41)) 76 #[.string ⟨#[]⟩, .int .i64 0, .int .i64 0])
  have HB := hide (((Below.refl w.heap.size w).alloc (Nat.le_refl _) (.cells #[.int .i64 n.op, .int .i64 n.v.k, .int .i64 n.v.n, .string n.v.s, .string n.nm] 41)).alloc (by simp) (.cells #[.string ⟨#[]⟩, .int .i64 0, .int .i64 0] 76))
  rw [World.size_alloc] at HR
  obtain ⟨W0, hW0⟩ : ∃ W0, (w.alloc (.cells #[.int .i64 n.op, .int .i64 n.v.k, .int .i64 n.v.n, .string n.v.s, .string n.nm] 41)).alloc (.cells #[.string ⟨#[]⟩, .int .i64 0, .int .i64 0] 76) = W0 := ⟨_, rfl⟩
  rw [hW0] at HK HB HR
  have HA := hide (ha.mono (unhide HB)); have HP := hide (hp.mono (unhide HB)); have HW := hide (hw.mono (unhide HB))
  have HL := hide hl; have HS := hide hs; have HD := hide hd; have HF := hide hf; have HO := hide hok
  have har := arn_le n
  obtain ⟨m, hm⟩ : ∃ m, arn n = m := ⟨_, rfl⟩
  rw [hm] at har HL ⊢
  have HM := hide hm
  have HX : Hid (∀ k, k ≤ m → mx (l.take k) ≤ 1000) := hide fun k _ => by
    have : mx l = max (mx (l.take k)) (mx (l.drop k)) := by rw [← mx_append, List.take_append_drop]
    have := unhide HD
    omega
  clear ha hw hp hl hs hd hf hok hm
  go_enter Tryz.func46, Tryz.ntmps46
  go_wp2_with fail
  try rw [hW0]
  clear hW0
  go_loopw [5, 7, 10] (fun dp _ i wr => ∃ k : Nat, k ≤ m ∧ dp = .int .i64 (mx (l.take k)) ∧ i = .int .i64 k ∧ Below W0.heap.size W0 wr) (fun _ _ i _ => m - (intOf i).toNat)
  case atStart => exact ⟨0, Nat.zero_le _, rfl, rfl, Below.refl _ _⟩
  case round =>
    obtain ⟨k, hk, rfl, rfl, hb⟩ := hrel
    have HBr := hide hb
    have HAr := hide ((unhide HA).mono hb)
    have hmk := unhide HX k hk
    clear hb
    by_cases hlt : k < m
    · have hlt' : (k : Int) < m := by omega
      have hkl : k < l.length := by have := unhide HL; omega
      obtain ⟨b, o, rfl, -, c0, c1, c2⟩ := unhide HAr k hkl
      have HN : Hid (mx (l.take (k + 1)) = max (mx (l.take k)) l[k].d) := hide (mx_take_snoc l k hkl)
      have hmk1 := unhide HX (k + 1) (by omega)
      obtain ⟨p, hp⟩ : ∃ p, l[k] = p := ⟨_, rfl⟩
      rw [hp] at HN c0 c1 c2
      rw [unhide HN] at hmk1
      clear hp
      have HB2 := hide ((unhide HBr).alloc (unhide HBr).size (.cells #[.string p.t, .int .i64 p.lv, .int .i64 p.d] 76))
      obtain ⟨q, hq⟩ : ∃ q, mx (l.take k) = q := ⟨_, rfl⟩
      rw [hq] at HN hmk hmk1 ⊢
      clear hq
      obtain ⟨d, hdd⟩ : ∃ d, p.d = d := ⟨_, rfl⟩
      rw [hdd] at HN hmk1 c2 HB2
      clear hdd
      go_wp2_with fail
      go_roundw
      case rel => first | exact ⟨k + 1, by omega, by rw [unhide HN]; exact congrArg (Value.int .i64) (by omega), by go_num, unhide HB2⟩ | ((repeat apply Exists.intro); exact ⟨⟨k + 1, by omega, by rw [unhide HN]; exact congrArg (Value.int .i64) (by omega), by go_num, unhide HB2⟩, rfl⟩)
      case measure => simp [intOf]; omega
    · obtain rfl : k = m := by omega
      have hlt' : ¬ (k : Int) < (k : Int) := by omega
      rw [List.take_of_length_le (by have := unhide HL; omega)] at hmk ⊢
      have HKr := hide ((unhide HK).mono (unhide HBr) (unhide HK).lt); have HRr := hide ((unhide HR).mono (unhide HBr) (unhide HR).lt); have HPr := hide ((unhide HP).mono (unhide HBr)); have HWr := hide ((unhide HW).mono (unhide HBr)); have HB2 := hide ((unhide HB).trans ((unhide HBr).mono (unhide HB).size))
      clear HK HR HP HW HB HBr HA HX
      obtain ⟨y0, y1, y2, y3, y4⟩ := five (unhide HKr)
      obtain ⟨q, hq⟩ : ∃ q, mx l = q := ⟨_, rfl⟩
      rw [hq] at hmk ⊢
      have HQ := hide hq
      clear hq
      go_wp2_with fail
      refine wp_region_held_drew (S := fun w' => w'.cell? ⟨w.heap.size, 0, none⟩ = some (.int .i64 n.op) ∧ w'.cell? ⟨w.heap.size, 1, none⟩ = some (.int .i64 n.v.k) ∧ w'.cell? ⟨w.heap.size, 2, none⟩ = some (.int .i64 n.v.n) ∧ w'.cell? ⟨w.heap.size, 3, none⟩ = some (.string n.v.s) ∧ w'.cell? ⟨w.heap.size, 4, none⟩ = some (.string n.nm)) (by kernel_rfl) ⟨y0, y1, y2, y3, y4⟩ (fun hHeld => ?_)
      clear y0 y1 y2 y3 y4
      refine takeY (i := 0) (v := .agg #[.int .i64 n.op, .int .i64 n.v.k, .int .i64 n.v.n, .string n.v.s, .string n.nm]) 19 rfl rfl (by kernel_rfl) (by kernel_rfl) (by kernel_rfl) (fun _ _ _ _ h => h) (by rfl) (fun w hS => by simp [execOp, go_sem, *]) hHeld ?_
      simp only [List.setIfInBounds_toArray, List.set_cons_zero, List.set_cons_succ]
      refine takeY (i := 1) (v := .slice a k c) 20 rfl rfl (by kernel_rfl) (by kernel_rfl) (by kernel_rfl) (fun _ _ _ _ h => h) (by rfl) (fun w hS => by simp [execOp, go_sem, *]) hHeld ?_
      simp only [List.setIfInBounds_toArray, List.set_cons_zero, List.set_cons_succ]
      refine takeY (i := 3) (v := .pointer (some ⟨w.heap.size, 0, none⟩)) 22 rfl rfl (by kernel_rfl) (by kernel_rfl) (by kernel_rfl) (fun _ _ _ _ h => h) (by rfl) (fun w hS => by simp [execOp, go_sem, *]) hHeld ?_
      simp only [List.setIfInBounds_toArray, List.set_cons_zero, List.set_cons_succ]
      refine takeY (i := 4) (v := .int .i64 n.op) 23 rfl rfl (by kernel_rfl) (by kernel_rfl) (by kernel_rfl) (fun _ _ _ _ h => h) (by rfl) (fun w hS => by simp [execOp, go_sem, *]) hHeld ?_
      simp only [List.setIfInBounds_toArray, List.set_cons_zero, List.set_cons_succ]
      refine takeY (i := 6) (v := .int .i64 (q : Int)) 25 rfl rfl (by kernel_rfl) (by kernel_rfl) (by kernel_rfl) (fun _ _ _ _ h => h) (by rfl) (fun w hS => by simp [execOp, go_sem, *]) hHeld ?_
      simp only [List.setIfInBounds_toArray, List.set_cons_zero, List.set_cons_succ]
      refine takeY (i := 7) (v := .int .i64 ((q : Int) + 1)) 26 rfl rfl (by kernel_rfl) (by kernel_rfl) (by kernel_rfl) (fun _ _ _ _ h => h) (by rfl) (fun w hS => by simp [execOp, go_sem, *]; rw [IntKind.wrap_i64]; omega) hHeld ?_
      simp only [List.setIfInBounds_toArray, List.set_cons_zero, List.set_cons_succ]
      have HD2 : Hid (Below wr.heap.size wr wr.drew) := hide ((Below.refl _ _).drew)
      have hpt := phraseText_any n a c l wr.drew (unhide HO) (unhide HF) ((unhide HL).trans (unhide HM).symm) ((unhide HAr).mono (unhide HD2)) (unhide HS) ((unhide HWr).mono (unhide HD2)) ((unhide HPr).mono (unhide HD2))
      rw [unhide HM] at hpt
      refine callY (i := 2) (f := 83) (args := #[.agg #[.int .i64 n.op, .int .i64 n.v.k, .int .i64 n.v.n, .string n.v.s, .string n.nm], .slice a k c]) (R := fun r wz => r = .string (phT n l) ∧ Below wr.heap.size wr wz) 21 rfl rfl (by rfl) (by kernel_rfl) ?hrun1 (hpt.mono fun e w6 ⟨he, hb⟩ => ⟨_, he, rfl, below_of_drew hb⟩) ?_
      case hrun1 => simp [execOp, go_sem]
      clear hpt
      rintro r3 W4 ⟨rfl, hb⟩
      replace HKr := hide ((unhide HKr).mono hb (unhide HKr).lt); replace HRr := hide ((unhide HRr).mono hb (unhide HRr).lt); replace HB2 := hide ((unhide HB2).trans (hb.mono (unhide HB2).size))
      clear hb hHeld HD2
      obtain ⟨y0, y1, y2, y3, y4⟩ := five (unhide HKr)
      have hHeld : W4.cell? ⟨w.heap.size, 0, none⟩ = some (.int .i64 n.op) ∧ W4.cell? ⟨w.heap.size, 1, none⟩ = some (.int .i64 n.v.k) ∧ W4.cell? ⟨w.heap.size, 2, none⟩ = some (.int .i64 n.v.n) ∧ W4.cell? ⟨w.heap.size, 3, none⟩ = some (.string n.v.s) ∧ W4.cell? ⟨w.heap.size, 4, none⟩ = some (.string n.nm) := ⟨y0, y1, y2, y3, y4⟩
      clear y0 y1 y2 y3 y4
      refine ⟨hHeld, ?_⟩
      simp only [List.setIfInBounds_toArray, List.set_cons_zero, List.set_cons_succ]
      refine callY (i := 5) (f := 84) (args := #[.int .i64 n.op]) (R := fun r wz => r = .int .i64 (lvl n.op) ∧ wz = W4) 24 rfl rfl (by rfl) (by kernel_rfl) ?hrun2 ((levelOf_any _ _).mono fun e w6 ⟨he, hb⟩ => ⟨_, he, rfl, hb⟩) ?_
      case hrun2 => simp [execOp, go_sem]
      rintro r3 W5 ⟨rfl, hw⟩
      replace hw := hw.symm; subst hw
      refine ⟨hHeld, ?_⟩
      simp only [List.setIfInBounds_toArray, List.set_cons_zero, List.set_cons_succ]
      obtain ⟨t, ht⟩ : ∃ t, phT n l = t := ⟨_, rfl⟩
      obtain ⟨lv, hlv⟩ : ∃ lv, lvl n.op = lv := ⟨_, rfl⟩
      have HE : Hid (phr n l = ⟨t, lv, q + 1⟩) := hide (by rw [← ht, ← hlv, ← unhide HQ]; rfl)
      rw [ht, hlv]
      clear ht hlv
      refine takeY (i := 8) (v := .agg #[.string t, .int .i64 lv, .int .i64 ((q : Int) + 1)]) 27 rfl rfl (by kernel_rfl) (by kernel_rfl) (by kernel_rfl) (fun _ _ _ _ h => h) (by rfl) (fun w hS => by simp [execOp, go_sem, *]) hHeld ?_
      simp only [List.setIfInBounds_toArray, List.set_cons_zero, List.set_cons_succ]
      obtain ⟨r0, r1, r2⟩ := three (unhide HRr)
      have f0 := (unhide HRr).free 0; have f1 := (unhide HRr).free 1; have f2 := (unhide HRr).free 2
      have far : ∀ (w' : World) (j i : Nat) (u : Value), (w'.setCell ⟨w.heap.size + 1, j, none⟩ u).cell? ⟨w.heap.size, i, none⟩ = w'.cell? ⟨w.heap.size, i, none⟩ := fun w' j i u => World.cell?_of_block (w := w') (heap_setCell_other w' ⟨w.heap.size + 1, j, none⟩ w.heap.size u (by simp))
      refine storeY (i := 9) (w' := ((W4.setCell ⟨w.heap.size + 1, 0, none⟩ (.string t)).setCell ⟨w.heap.size + 1, 1, none⟩ (.int .i64 lv)).setCell ⟨w.heap.size + 1, 2, none⟩ (.int .i64 ((q : Int) + 1))) rfl (by rfl) (by kernel_rfl) rfl ?hrunS rfl ⟨by rw [far, far, far]; exact hHeld.1, by rw [far, far, far]; exact hHeld.2.1, by rw [far, far, far]; exact hHeld.2.2.1, by rw [far, far, far]; exact hHeld.2.2.2.1, by rw [far, far, far]; exact hHeld.2.2.2.2⟩ ?_
      case hrunS => simp [execOp, go_sem, r0, r1, r2, f0, f1, f2]
      refine wpAnyH_done (by kernel_rfl) ?_ _
      have bR9 := ((((unhide HRr).set 0 (.string t)).set 1 (.int .i64 lv)).set 2 (.int .i64 ((q : Int) + 1)))
      have HB9 := hide ((((unhide HB2).setCell (show w.heap.size ≤ (⟨w.heap.size + 1, 0, none⟩ : Addr).block by simp) (.string t)).setCell (show w.heap.size ≤ (⟨w.heap.size + 1, 1, none⟩ : Addr).block by simp) (.int .i64 lv)).setCell (show w.heap.size ≤ (⟨w.heap.size + 1, 2, none⟩ : Addr).block by simp) (.int .i64 ((q : Int) + 1)))
      obtain ⟨W9, hW9⟩ : ∃ W9, ((W4.setCell ⟨w.heap.size + 1, 0, none⟩ (.string t)).setCell ⟨w.heap.size + 1, 1, none⟩ (.int .i64 lv)).setCell ⟨w.heap.size + 1, 2, none⟩ (.int .i64 ((q : Int) + 1)) = W9 := ⟨_, rfl⟩
      rw [hW9] at bR9 HB9 ⊢
      obtain ⟨k0, k1, k2⟩ := three bR9
      clear hW9 bR9 r0 r1 r2 f0 f1 f2 far hHeld
      go_wp2
      exact bodyPost_ret (v := .agg #[.string t, .int .i64 lv, .int .i64 ((q : Int) + 1)]) (by simp [results, Tryz.results46, go_sem, *]) rfl ⟨by rw [unhide HE]; rfl, unhide HB9⟩
end Go.Proofs.YtjgngbmkpiihgaaGreatDoor

/- The program's stack of phrases in memory. -/
namespace Go.Proofs.YtjgngbmkpiihgaaGreatDoor
open Go Go.RowKit

def phV (l : List Ph) : List Value := l.flatMap fun p => [.string p.t, .int .i64 p.lv, .int .i64 p.d]
theorem phV_len (l : List Ph) : (phV l).length = l.length * 3 := by
  induction l with
  | nil => rfl
  | cons p r ih => simp only [phV, List.flatMap_cons, List.length_append, List.length_cons, List.length_nil] at *; omega
theorem phV_append (l r : List Ph) : phV (l ++ r) = phV l ++ phV r := by simp [phV]
theorem phV_get (l : List Ph) (k : Nat) (h : k < l.length) : (phV l)[k * 3]? = some (.string l[k].t) ∧ (phV l)[k * 3 + 1]? = some (.int .i64 l[k].lv) ∧ (phV l)[k * 3 + 2]? = some (.int .i64 l[k].d) := by
  induction l generalizing k with
  | nil => cases h
  | cons p r ih =>
    cases k with
    | zero => exact ⟨rfl, rfl, rfl⟩
    | succ k =>
      have := ih k (by simpa using h)
      rw [show (k + 1) * 3 = k * 3 + 1 + 1 + 1 by omega]
      simpa [phV] using this
theorem phV_take (l : List Ph) (k : Nat) : (phV l).take (k * 3) = phV (l.take k) := by
  induction l generalizing k with
  | nil => simp [phV]
  | cons p r ih =>
    cases k with
    | zero => simp [phV]
    | succ k =>
      rw [show (k + 1) * 3 = k * 3 + 1 + 1 + 1 by omega]
      have := ih k
      simp only [phV, List.flatMap_cons, List.take_succ_cons] at *
      simp [this]
theorem info_ph : (Tryz.prog.info? 76).map (fun i => (i.zero, i.size, i.bytes)) = some (some (.agg #[.string ⟨#[]⟩, .int .i64 0, .int .i64 0]), 3, 32) := by kernel_rfl

/-- The slice v holds these phrases, in memory of its own. -/
def StkV (w : World) (B : Nat) (v : Value) (l : List Ph) : Prop := w.ownsRow B 76 3 v l.length (phV l)
theorem StkV.shape {w : World} {B : Nat} {v : Value} {l : List Ph} (h : StkV w B v l) : ∃ a cap, v = .slice a l.length cap ∧ l.length ≤ cap ∧ (a = none → l = [] ∧ cap = 0) ∧ (∀ g o f, a = some ⟨g, o, f⟩ → o = 0 ∧ f = none ∧ B ≤ g ∧ g < w.heap.size) := by
  rcases h.2 with ⟨rfl, h0⟩ | ⟨g, cap, cur, rfl, hb, hg, hc, -, hs, htake⟩
  · exact ⟨none, 0, by rw [h0], by omega, fun _ => ⟨List.length_eq_zero_iff.1 h0, rfl⟩, fun _ _ _ h => by cases h⟩
  · exact ⟨_, cap, rfl, hc, fun h => (by cases h), fun g' o f h => by cases h; exact ⟨rfl, rfl, hb, (Array.getElem?_eq_some_iff.1 hg).1⟩⟩
theorem StkV.cell {w : World} {B : Nat} {g cap : Nat} {l : List Ph} (h : StkV w B (.slice (some ⟨g, 0, none⟩) l.length cap) l) (j : Nat) (hj : j < l.length * 3) : w.cell? ⟨g, j, none⟩ = (phV l)[j]? := World.ownsRow.cellAt (show w.ownsRow B 76 3 _ _ _ from h) j hj
/-- What stands at and behind place r, as a slice of its own. -/
theorem StkV.from {w : World} {B : Nat} {a : Option Addr} {cap : Nat} {l : List Ph} (h : StkV w B (.slice a l.length cap) l) (r : Nat) (hr : r ≤ l.length) :
    Phs w (if cap = r then a else a.map (·.add (r * 3))) (l.drop r) := by
  intro k hk
  rw [List.length_drop] at hk
  obtain ⟨a', cap', e, hc, hn, hs⟩ := h.shape
  simp only [Value.slice.injEq, true_and] at e
  obtain ⟨rfl, rfl⟩ := e
  cases a with
  | none => obtain ⟨rfl, -⟩ := hn rfl; simp at hk
  | some ad =>
    obtain ⟨g, o, f⟩ := ad
    obtain ⟨rfl, rfl, -, hlt⟩ := hs g o f rfl
    rw [if_neg (by omega)]
    refine ⟨g, r * 3, by simp [Addr.add]; omega, ?_⟩
    have hg := phV_get l (r + k) (by omega)
    rw [List.getElem_drop]
    exact ⟨hlt, by rw [← Nat.add_mul, h.cell _ (by omega)]; exact hg.1, by rw [← Nat.add_mul, h.cell _ (by omega)]; exact hg.2.1, by rw [← Nat.add_mul, h.cell _ (by omega)]; exact hg.2.2⟩
/-- The first r of them, in the same memory. -/
theorem StkV.upto {w : World} {B : Nat} {a : Option Addr} {cap : Nat} {l : List Ph} (h : StkV w B (.slice a l.length cap) l) (r : Nat) (hr : r ≤ l.length) : StkV w B (.slice a r cap) (l.take r) := by
  have hl : (l.take r).length = r := by rw [List.length_take]; omega
  unfold StkV
  rw [hl]
  refine ⟨by rw [phV_len, hl], ?_⟩
  rcases h.2 with ⟨e, h0⟩ | ⟨g, cap', cur, e, hb, hg, hc, hx, hs, htake⟩
  · simp only [Value.slice.injEq] at e
    obtain ⟨rfl, -, rfl⟩ := e
    exact .inl ⟨by rw [show r = 0 by omega], by omega⟩
  · simp only [Value.slice.injEq, true_and] at e
    obtain ⟨rfl, rfl⟩ := e
    refine .inr ⟨g, cap, cur, rfl, hb, hg, by omega, hx, hs, ?_⟩
    rw [← phV_take, ← htake, List.take_take, Nat.min_eq_left (by omega)]
theorem StkV.mono {w w' : World} {B : Nat} {v : Value} {l : List Ph} (h : StkV w B v l) (hb : Below w.heap.size w w') : StkV w' B v l := by
  refine ⟨h.1, ?_⟩
  rcases h.2 with h' | ⟨g, cap, cur, e, hB, hg, hc, hx, hs, htake⟩
  · exact .inl h'
  · exact .inr ⟨g, cap, cur, e, hB, (hb.block g (Array.getElem?_eq_some_iff.1 hg).1).trans hg, hc, hx, hs, htake⟩
theorem StkV.other {w : World} {B : Nat} {v : Value} {l : List Ph} (h : StkV w B v l) {b : Nat} (hb : v.ownBlock ≠ some b) (j : Nat) (u : Value) : StkV (w.setCell ⟨b, j, none⟩ u) B v l := by
  refine ⟨h.1, ?_⟩
  rcases h.2 with h' | ⟨g, cap, cur, e, hB, hg, hc, hx, hs, htake⟩
  · exact .inl h'
  · refine .inr ⟨g, cap, cur, e, hB, (heap_setCell_other w ⟨b, j, none⟩ g u ?_).trans hg, hc, hx, hs, htake⟩
    rintro rfl
    exact hb (by rw [e]; rfl)
theorem take_reverse_drop {α : Type} (l : List α) (k : Nat) (h : k ≤ l.length) : l.reverse.drop (l.length - k) = (l.take k).reverse := by
  rw [List.drop_reverse]; congr 1; congr 1; omega
theorem take_reverse_take {α : Type} (l : List α) (k : Nat) (h : k ≤ l.length) : l.reverse.take (l.length - k) = (l.drop k).reverse := by
  rw [List.take_reverse]; congr 1; congr 1; omega
end Go.Proofs.YtjgngbmkpiihgaaGreatDoor

/- The program prints a list of nodes, and says whether it is a valid expression. -/
namespace Go.Proofs.YtjgngbmkpiihgaaGreatDoor
open Go Go.RowKit

theorem tot_rev_take (e : Nat → Nx) (k A : Nat) : tot ((pst e k).take A).reverse ≤ tot (pst e k) := by rw [tot_reverse]; exact tot_take _ _
theorem mx_rev_take (e : Nat → Nx) (k A : Nat) : mx ((pst e k).take A).reverse ≤ k := by rw [mx_reverse]; exact mx_take_le e k A
theorem cells_ph (w : World) (p : Ph) : ∀ (j : Nat) (u : Value), (phV [p])[j]? = some u → (w.alloc (.cells #[.string p.t, .int .i64 p.lv, .int .i64 p.d] 76)).cell? ((⟨w.heap.size, 0, none⟩ : Addr).add j) = some u := fun j u h => by
  have hb := Blk.new w 76 #[.string p.t, .int .i64 p.lv, .int .i64 p.d]
  match j, h with
  | 0, h => simp [phV] at h; subst h; exact hb.cell 0
  | 1, h => simp [phV] at h; subst h; exact hb.cell 1
  | 2, h => simp [phV] at h; subst h; exact hb.cell 2

/-- An append in a drawn region. -/
theorem run_append_op {P : Program} {a : Act} {o : Oper} {w w' : World} {s x : Operand} {t : TypeId} {v u v' : Value} (ho : o.op = .call { callee := .builtin .append, args := #[s, x], argTypes := #[t, t] }) (hs : a.eval s = v) (hx : a.eval x = u) (hr : (Builtin.append_ #[t, t] o.type #[v, u]).run P w = .ok v' w') : (execOp a.eval o).run P w = .ok (.value v') w' := by
  unfold execOp
  simp only [ho, resolve, invoke, builtin, Sem.run_bind, Sem.run_pure, Result.andThen_ok, List.map_toArray, List.map_cons, List.map_nil, hs, hx, hr]

set_option maxRecDepth 100000 in
set_option maxHeartbeats 16000000 in
theorem printed_any (a : Option Addr) (m c : Nat) (e : Nat → Nx) (w : World) (hm : m ≤ 9223372036854775807) (ha : Nods w a m e) (hf : ∀ k, k < m → Fit (e k)) (hw : Wrds w) (hp : Pow w) :
    Calls Tryz.prog 29 #[.slice a m c] w fun r w' => r = .returned (.tuple #[.string (if vxB e m then (top e m).t else ⟨#[]⟩), .bool (vxB e m)]) ∧ Below w.heap.size w w' := by
  by_cases h2 : 1000 < m
  · rw [vxB_no fun h => by have := h.2.1; omega]
    go_enter Tryz.func29, Tryz.ntmps29
    go_wp2_with fail
    go_ret2
    exact ⟨rfl, Below.refl _ _⟩
  have HA := hide ha; have HF := hide hf; have HW := hide hw; have HP := hide hp
  obtain ⟨r, hr⟩ : ∃ r, vxB e m = r := ⟨_, rfl⟩
  obtain ⟨t, ht⟩ : ∃ t, (if vxB e m then (top e m).t else ⟨#[]⟩) = t := ⟨_, rfl⟩
  rw [ht, hr]
  have HR := hide hr
  have HN : Hid (¬ vEx e m → r = false ∧ t = ⟨#[]⟩) := hide fun h => by rw [← hr, ← ht, vxB_no h]; exact ⟨rfl, rfl⟩
  have HY : Hid (vEx e m → r = true ∧ t = (top e m).t) := hide fun h => by rw [← hr, ← ht, (vxB_iff e m).2 h]; exact ⟨rfl, rfl⟩
  clear ha hf hr ht hw hp
  go_enter Tryz.func29, Tryz.ntmps29
  go_wp2_with fail
  obtain ⟨B, hB⟩ : ∃ B, w.heap.size = B := ⟨_, rfl⟩
  go_loopw [4, 6, 7, 8, 14] (fun v _ _ _ i wr => ∃ k : Nat, k ≤ m ∧ i = .int .i64 k ∧ StkV wr B v (pst e k).reverse ∧ okAll e k ∧ stkOk e k ∧ (∀ j, 1 ≤ j → j ≤ k → (top e j).d ≤ 64 ∧ (top e j).t.size ≤ 4000) ∧ Below B w wr) (fun _ _ _ _ i _ => m - (intOf i).toNat)
  case atStart => exact ⟨0, Nat.zero_le _, rfl, ⟨rfl, .inl ⟨rfl, rfl⟩⟩, fun k hk => absurd hk (Nat.not_lt_zero _), fun k hk => absurd hk (Nat.not_lt_zero _), fun j h1 h0 => by omega, by rw [← hB]; exact Below.refl _ _⟩
  case round =>
    obtain ⟨k, hk, rfl, hst, hok, hso, hlim, hb⟩ := hrel
    have HST := hide hst; have HOK := hide hok; have HSO := hide hso; have HLM := hide hlim; have HB := hide hb
    have HV := hide ((unhide HA).mono (hb.mono (by omega))); have HWr := hide ((unhide HW).mono (hb.mono (by omega))); have HPr := hide ((unhide HP).mono (hb.mono (by omega)))
    have hBw := hb.size
    clear hst hok hso hlim hb
    have hlr : (pst e k).reverse.length = (stk e k).length := by rw [List.length_reverse, pst_len]
    obtain ⟨sa, cap, rfl, hcap, hnone, hsome⟩ := (unhide HST).shape
    rw [hlr] at hcap
    rw [hlr]
    have HSH : Hid (StkV wr B (.slice sa (stk e k).length cap) (pst e k).reverse) := hide (by have := unhide HST; rw [hlr] at this; exact this)
    have HSM := hide hsome
    clear HST hnone hsome hlr
    have hsl := stk_len e k
    obtain ⟨L, hL⟩ : ∃ L, (stk e k).length = L := ⟨_, rfl⟩
    rw [hL] at HSH hcap hsl ⊢
    have HL := hide hL
    clear hL
    by_cases hlt : k < m
    · have hlt' : (k : Int) < m := by omega
      obtain ⟨b, o, rfl, -, c0, c1, c2, c3, c4⟩ := unhide HV k hlt
      have HK := hide (Blk.new wr 41 #[.int .i64 (e k).op, .int .i64 (e k).v.k, .int .i64 (e k).v.n, .string (e k).v.s, .string (e k).nm])
      have HBn := hide ((Below.refl wr.heap.size wr).alloc (Nat.le_refl _) (.cells #[.int .i64 (e k).op, .int .i64 (e k).v.k, .int .i64 (e k).v.n, .string (e k).v.s, .string (e k).nm] 41))
      obtain ⟨Wn, hWn⟩ : ∃ Wn, wr.alloc (.cells #[.int .i64 (e k).op, .int .i64 (e k).v.k, .int .i64 (e k).v.n, .string (e k).v.s, .string (e k).nm] 41) = Wn := ⟨_, rfl⟩
      rw [hWn] at HK HBn
      obtain ⟨y0, y1, y2, y3, y4⟩ := five (unhide HK)
      go_wp2_with fail
      try rw [hWn]
      refine (isNode_any (e k) _ (unhide HF k hlt)).mono ?_
      rintro x w1 ⟨rfl, hb⟩
      replace HK := hide ((unhide HK).mono hb (unhide HK).lt); replace HBn := hide ((unhide HBn).trans (hb.mono (unhide HBn).size))
      clear hb c0 c1 c2 c3 c4 y0 y1 y2 y3 y4 hWn
      obtain ⟨y0, y1, y2, y3, y4⟩ := five (unhide HK)
      cases hg : okNode (e k)
      · have HX := hide (unhide HN fun h => by have := h.2.2.1 k hlt; rw [hg] at this; cases this)
        go_wp2_with fail
        go_ret2
        exact ⟨by rw [(unhide HX).1, (unhide HX).2]; rfl, by rw [hB]; exact (unhide HB).trans ((unhide HBn).mono (by omega))⟩
      have HOK2 : Hid (okAll e (k + 1)) := hide fun j hj => by
        by_cases ej : j = k
        · subst ej; exact hg
        · exact unhide HOK j (by omega)
      have HG := hide hg
      clear hg
      go_wp2_with fail
      refine (operandsTaken_any (e k) _).mono ?_
      rintro x w2 ⟨rfl, hb⟩
      replace HK := hide ((unhide HK).mono hb (unhide HK).lt); replace HBn := hide ((unhide HBn).trans (hb.mono (unhide HBn).size))
      clear hb y0 y1 y2 y3 y4
      obtain ⟨y0, y1, y2, y3, y4⟩ := five (unhide HK)
      have har := arn_le (e k)
      obtain ⟨A, hA⟩ : ∃ A, arn (e k) = A := ⟨_, rfl⟩
      by_cases hgt : L < A
      · have hgt' : (L : Int) < A := by omega
        have HX := hide (unhide HN fun h => by have := h.2.2.2.1 k hlt; rw [unhide HL, hA] at this; omega)
        rw [hA]
        clear hA
        go_wp2_with fail
        go_ret2
        exact ⟨by rw [(unhide HX).1, (unhide HX).2]; rfl, by rw [hB]; exact (unhide HB).trans ((unhide HBn).mono (by omega))⟩
      have hgt' : ¬ (L : Int) < A := by omega
      have HSO2 : Hid (stkOk e (k + 1)) := hide fun j hj => by
        by_cases ej : j = k
        · subst ej; rw [unhide HL, hA]; omega
        · exact unhide HSO j (by omega)
      rw [hA] at har ⊢
      have HAe := hide hA
      clear hA
      go_wp2_with fail
      refine (show Calls Tryz.prog 45 #[nv (e k)] w2 fun r w' => r = .returned (.int .i64 (A : Int)) ∧ Below w2.heap.size w2 w' from by rw [← unhide HAe]; exact operandsTaken_any (e k) _).mono ?_
      rintro x w3 ⟨rfl, hb⟩
      replace HK := hide ((unhide HK).mono hb (unhide HK).lt); replace HBn := hide ((unhide HBn).trans (hb.mono (unhide HBn).size))
      clear hb y0 y1 y2 y3 y4
      obtain ⟨y0, y1, y2, y3, y4⟩ := five (unhide HK)
      have hwL : wrap64 ((L : Int) - (A : Int)) = ((L - A : Nat) : Int) := by rw [wrap64_small (by omega) (by omega)]; omega
      obtain ⟨R, hR⟩ : ∃ R, L - A = R := ⟨_, rfl⟩
      rw [hR] at hwL
      have hLA : (L : Int) - (A : Int) = (R : Int) := by omega
      have HLR : Hid (L - R = A) := hide (by omega)
      have hR1 : R ≤ L := by omega
      have HAr : Hid (((pst e k).take A).reverse = (pst e k).reverse.drop R) := hide (by
        have h1 : (pst e k).length = L := by rw [pst_len]; exact unhide HL
        rw [← take_reverse_drop (pst e k) A (by omega), h1, hR])
      have HRr : Hid (((pst e k).drop A).reverse = (pst e k).reverse.take R) := hide (by
        have h1 : (pst e k).length = L := by rw [pst_len]; exact unhide HL
        rw [← take_reverse_take (pst e k) A (by omega), h1, hR])
      have HTP : Hid (top e (k + 1) = phr (e k) ((pst e k).take A).reverse) := hide (by rw [top_succ, unhide HAe])
      have HPS : Hid ((pst e (k + 1)).reverse = (pst e k).reverse.take R ++ [top e (k + 1)]) := hide (by
        rw [show pst e (k + 1) = top e (k + 1) :: (pst e k).drop (arn (e k)) from rfl, List.reverse_cons, unhide HAe, unhide HRr])
      have HTT : Hid (tot ((pst e k).take A).reverse ≤ 2000000 ∧ mx ((pst e k).take A).reverse ≤ 1000) := hide (by
        have h1 := tot_rev_take e k A
        have h2 := (tot_pst e k (unhide HSO) (unhide HOK) (fun j hj => (unhide HF j (by omega)).2.2.2)).2
        have h3 := mx_rev_take e k A
        omega)
      have HLA : Hid (((pst e k).take A).reverse.length = arn (e k)) := hide (by rw [List.length_reverse, List.length_take, pst_len, unhide HL, unhide HAe]; omega)
      have HSW := hide ((unhide HSH).mono (unhide HBn)); have HWw := hide ((unhide HWr).mono (unhide HBn)); have HPw := hide ((unhide HPr).mono (unhide HBn))
      have HBw := hide ((unhide HB).trans ((unhide HBn).mono (show B ≤ wr.heap.size by omega)))
      obtain ⟨ao, hao⟩ : ∃ ao, (if cap = R then sa else sa.map (·.add (R * 3))) = ao := ⟨_, rfl⟩
      have HPh : Hid (Phs w3 ao ((pst e k).take A).reverse) := hide (by
        have h1 : (pst e k).reverse.length = L := by rw [List.length_reverse, pst_len]; exact unhide HL
        have h2 := unhide HSW
        rw [← h1] at h2
        have h3 := h2.from R (by omega)
        rw [hao] at h3
        rw [unhide HAr]; exact h3)
      have hNs := (unhide HBn).size
      have hNw : wr.heap.size < w3.heap.size := (unhide HK).lt
      have HNX : Hid (∀ X, wr.heap.size ≤ X → (Value.slice sa L cap).ownBlock ≠ some X) := hide fun X hX h => by
        cases sa with
        | none => cases h
        | some ad => obtain ⟨g, o', f⟩ := ad; have h : g = X := by simpa [Value.ownBlock] using h
                     have := (unhide HSM g o' f rfl).2.2.2; omega
      have hBN : B ≤ wr.heap.size := by omega
      obtain ⟨N, hN⟩ : ∃ N, wr.heap.size = N := ⟨_, rfl⟩
      rw [hN] at hBN HK HNX hNw y0 y1 y2 y3 y4 ⊢
      clear hN hR HAr HRr HSH HBn HB HWr HPr HV HSM HA hNs hBw
      go_wp2_with fail
      refine wp_region_held_drew (S := fun w' => w'.cell? ⟨N, 0, none⟩ = some (.int .i64 (e k).op) ∧ w'.cell? ⟨N, 1, none⟩ = some (.int .i64 (e k).v.k) ∧ w'.cell? ⟨N, 2, none⟩ = some (.int .i64 (e k).v.n) ∧ w'.cell? ⟨N, 3, none⟩ = some (.string (e k).v.s) ∧ w'.cell? ⟨N, 4, none⟩ = some (.string (e k).nm)) (by kernel_rfl) ⟨y0, y1, y2, y3, y4⟩ (fun hHeld => ?_)
      clear y0 y1 y2 y3 y4
      refine takeY (i := 0) (v := .agg #[.int .i64 (e k).op, .int .i64 (e k).v.k, .int .i64 (e k).v.n, .string (e k).v.s, .string (e k).nm]) 33 rfl rfl (by kernel_rfl) (by kernel_rfl) (by kernel_rfl) (fun _ _ _ _ h => h) (by rfl) (fun w hS => by simp [execOp, go_sem, *]) hHeld ?_
      simp only [List.setIfInBounds_toArray, List.set_cons_zero, List.set_cons_succ]
      refine takeY (i := 1) (v := .slice sa L cap) 34 rfl rfl (by kernel_rfl) (by kernel_rfl) (by kernel_rfl) (fun _ _ _ _ h => h) (by rfl) (fun w hS => by simp [execOp, go_sem, *]) hHeld ?_
      simp only [List.setIfInBounds_toArray, List.set_cons_zero, List.set_cons_succ]
      refine takeY (i := 2) (v := .int .i64 (R : Int)) 35 rfl rfl (by kernel_rfl) (by kernel_rfl) (by kernel_rfl) (fun _ _ _ _ h => h) (by rfl) (fun w hS => by simp [execOp, go_sem, *]) hHeld ?_
      simp only [List.setIfInBounds_toArray, List.set_cons_zero, List.set_cons_succ]
      refine takeY (i := 3) (v := .slice ao A (cap - R)) 36 rfl rfl (by kernel_rfl) (by kernel_rfl) (by kernel_rfl) (fun _ _ _ _ h => h) (by rfl) (fun w hS => by have hLR := unhide HLR; simp [execOp, go_sem, *]) hHeld ?_
      simp only [List.setIfInBounds_toArray, List.set_cons_zero, List.set_cons_succ]
      have hcall : ∀ W : World, Phs W ao ((pst e k).take A).reverse → Wrds W → Pow W → Calls Tryz.prog 46 #[.agg #[.int .i64 (e k).op, .int .i64 (e k).v.k, .int .i64 (e k).v.n, .string (e k).v.s, .string (e k).nm], .slice ao A (cap - R)] W fun r w' => r = .returned (pv (top e (k + 1))) ∧ Below W.heap.size W w' := fun W h1 h2 h3 => by
        rw [unhide HTP, ← unhide HAe]
        rw [← unhide HAe] at h1
        have hh := phraseOf_any (e k) ao (cap - R) ((pst e k).take (arn (e k))).reverse W (unhide HG) (unhide HF k hlt) (by rw [unhide HAe]; exact (unhide HLA).trans (unhide HAe)) h1 (by rw [unhide HAe]; exact (unhide HTT).1) (by rw [unhide HAe]; exact (unhide HTT).2) h2 h3
        exact hh
      have HC := hide hcall
      clear hcall HTP HLA HTT
      obtain ⟨p, hp⟩ : ∃ p, top e (k + 1) = p := ⟨_, rfl⟩
      rw [hp] at HC HPS
      have HTE := hide hp
      clear hp
      have HD0 : Hid (Below w3.heap.size w3 w3.drew) := hide ((Below.refl _ _).drew)
      refine wpAnyH_ready (rs := [4, 5]) (by kernel_rfl) (by simp) (consCall (f := 46) (args := #[.agg #[.int .i64 (e k).op, .int .i64 (e k).v.k, .int .i64 (e k).v.n, .string (e k).v.s, .string (e k).nm], .slice ao A (cap - R)]) (R := fun r wz => r = pv p ∧ Below w3.heap.size w3 wz) 37 rfl rfl (by rfl) ?hrun1 ((unhide HC _ ((unhide HPh).mono (unhide HD0)) ((unhide HWw).mono (unhide HD0)) ((unhide HPw).mono (unhide HD0))).mono fun e w6 ⟨he, hb⟩ => ⟨_, he, rfl, below_of_drew hb⟩) ?pB (consRun (v := .pointer (some ⟨w3.heap.size, 0, none⟩)) (w' := w3.drew.alloc (.cells #[.string ⟨#[]⟩, .int .i64 0, .int .i64 0] 76)) 8 rfl rfl (by rfl) ?hrun2 ?hS2 ?pA AllReadyH.nil))
      case hrun1 => simp [execOp, go_sem]
      case hrun2 => simp [execOp, go_sem]
      case hS2 =>
        obtain ⟨z0, z1, z2, z3, z4⟩ := five (((unhide HK).mono (unhide HD0) (unhide HK).lt).alloc (.cells #[.string ⟨#[]⟩, .int .i64 0, .int .i64 0] 76))
        exact ⟨z0, z1, z2, z3, z4⟩
      case' pB =>
        rintro r3 W4 ⟨rfl, hb⟩
        have hK4 := (unhide HK).mono hb (unhide HK).lt
        have hS4 := (unhide HSW).mono hb
        have hB4 := (unhide HBw).trans (hb.mono (by have := (unhide HBw).size; omega))
        have hN4 : w3.heap.size ≤ W4.heap.size := hb.size
        clear hb hHeld
        obtain ⟨z0, z1, z2, z3, z4⟩ := five hK4
        refine ⟨⟨z0, z1, z2, z3, z4⟩, ?_⟩
        clear z0 z1 z2 z3 z4
        simp only [List.setIfInBounds_toArray, List.set_cons_zero, List.set_cons_succ]
        have hK5 := hK4.alloc (.cells #[.string ⟨#[]⟩, .int .i64 0, .int .i64 0] 76)
        have hX5 := Blk.new W4 76 #[.string ⟨#[]⟩, .int .i64 0, .int .i64 0]
        have hS5 := hS4.mono ((Below.refl W4.heap.size W4).alloc (Nat.le_refl _) (.cells #[.string ⟨#[]⟩, .int .i64 0, .int .i64 0] 76))
        have hB5 := hB4.alloc (by have := hB4.size; omega) (.cells #[.string ⟨#[]⟩, .int .i64 0, .int .i64 0] 76)
        obtain ⟨z0, z1, z2, z3, z4⟩ := five hK5
        refine wpAnyH_ready (rs := [5]) (by kernel_rfl) (by simp) (consRun (v := .pointer (some ⟨W4.heap.size, 0, none⟩)) (w' := W4.alloc (.cells #[.string ⟨#[]⟩, .int .i64 0, .int .i64 0] 76)) 8 rfl rfl (by rfl) ?hrun3 ⟨z0, z1, z2, z3, z4⟩ ?pB2 AllReadyH.nil)
        case hrun3 => simp [execOp, go_sem]
        simp only [List.setIfInBounds_toArray, List.set_cons_zero, List.set_cons_succ]
        clear z0 z1 z2 z3 z4 hK4 hS4 hB4
        obtain ⟨X, hX⟩ : ∃ X, W4.heap.size = X := ⟨_, rfl⟩
        obtain ⟨W6, hW6⟩ : ∃ W6, W4.alloc (.cells #[.string ⟨#[]⟩, .int .i64 0, .int .i64 0] 76) = W6 := ⟨_, rfl⟩
        rw [hW6] at hK5 hX5 hS5 hB5 ⊢
        rw [hX] at hX5 hN4 ⊢
        clear hW6 hX
        have hNX : N < X := by omega
      case' pA =>
        simp only [List.setIfInBounds_toArray, List.set_cons_zero, List.set_cons_succ]
        have hbA : Below w3.heap.size w3 (w3.drew.alloc (.cells #[.string ⟨#[]⟩, .int .i64 0, .int .i64 0] 76)) := below_of_drew ((Below.refl w3.heap.size w3.drew).alloc (Nat.le_refl _) _)
        have hX4 := Blk.new w3.drew 76 #[.string ⟨#[]⟩, .int .i64 0, .int .i64 0]
        obtain ⟨W5, hW5⟩ : ∃ W5, w3.drew.alloc (.cells #[.string ⟨#[]⟩, .int .i64 0, .int .i64 0] 76) = W5 := ⟨_, rfl⟩
        rw [hW5] at hbA hX4 ⊢
        replace hX4 : Blk W5 w3.heap.size 76 [.string ⟨#[]⟩, .int .i64 0, .int .i64 0] := hX4
        clear hW5 hHeld
        refine wpAnyH_ready (rs := [4]) (by kernel_rfl) (by simp) (consCall (f := 46) (args := #[.agg #[.int .i64 (e k).op, .int .i64 (e k).v.k, .int .i64 (e k).v.n, .string (e k).v.s, .string (e k).nm], .slice ao A (cap - R)]) (R := fun r wz => r = pv p ∧ Below W5.heap.size W5 wz) 37 rfl rfl (by rfl) ?hrun4 ((unhide HC _ ((unhide HPh).mono hbA) ((unhide HWw).mono hbA) ((unhide HPw).mono hbA)).mono fun e w6 ⟨he, hb⟩ => ⟨_, he, rfl, hb⟩) ?pA2 AllReadyH.nil)
        case hrun4 => simp [execOp, go_sem]
        rintro r3 W6 ⟨rfl, hb⟩
        have hK5 := ((unhide HK).mono hbA (unhide HK).lt).mono hb ((unhide HK).mono hbA (unhide HK).lt).lt
        have hX5 := hX4.mono hb hX4.lt
        have hS5 := ((unhide HSW).mono hbA).mono hb
        have hBA := (unhide HBw).trans (hbA.mono (by have := (unhide HBw).size; omega))
        have hB5 := hBA.trans (hb.mono (by have := hBA.size; omega))
        obtain ⟨z0, z1, z2, z3, z4⟩ := five hK5
        refine ⟨⟨z0, z1, z2, z3, z4⟩, ?_⟩
        simp only [List.setIfInBounds_toArray, List.set_cons_zero, List.set_cons_succ]
        clear z0 z1 z2 z3 z4 hb hbA hX4 hBA
        have hN4 : w3.heap.size ≤ w3.heap.size := Nat.le_refl _
        obtain ⟨X, hX⟩ : ∃ X, w3.heap.size = X := ⟨_, rfl⟩
        rw [hX] at hX5 hN4 hNw ⊢
        clear hX
        have hNX : N < X := by omega
      all_goals
        clear HPh HWw HPw HC HD0 HK HSW HBw
        obtain ⟨z0, z1, z2, z3, z4⟩ := five hK5
        obtain ⟨r0, r1, r2⟩ := three hX5
        have f0 := hX5.free 0; have f1 := hX5.free 1; have f2 := hX5.free 2
        have far : ∀ (w' : World) (j i : Nat) (u : Value), (w'.setCell ⟨X, j, none⟩ u).cell? ⟨N, i, none⟩ = w'.cell? ⟨N, i, none⟩ := fun w' j i u => World.cell?_of_block (w := w') (heap_setCell_other w' ⟨X, j, none⟩ N u (by simp; omega))
        unfold pv
        refine storeY (i := 6) (w' := (((W6.setCell ⟨X, 0, none⟩ (.string p.t)).setCell ⟨X, 1, none⟩ (.int .i64 p.lv)).setCell ⟨X, 2, none⟩ (.int .i64 p.d))) rfl (by rfl) (by kernel_rfl) rfl (by simp [execOp, go_sem, r0, r1, r2, f0, f1, f2]) rfl ⟨by rw [far, far, far]; exact z0, by rw [far, far, far]; exact z1, by rw [far, far, far]; exact z2, by rw [far, far, far]; exact z3, by rw [far, far, far]; exact z4⟩ ?_
        refine wpAnyH_done (by kernel_rfl) ?_ _
        have hXne := unhide HNX X (by omega)
        have hX9 := (((hX5.set 0 (.string p.t)).set 1 (.int .i64 p.lv)).set 2 (.int .i64 p.d))
        have hS9 := ((hS5.other hXne 0 (.string p.t)).other hXne 1 (.int .i64 p.lv)).other hXne 2 (.int .i64 p.d)
        have hB9 := (((hB5.setCell (p := ⟨X, 0, none⟩) (show B ≤ X by omega) (.string p.t)).setCell (p := ⟨X, 1, none⟩) (show B ≤ X by omega) (.int .i64 p.lv)).setCell (p := ⟨X, 2, none⟩) (show B ≤ X by omega) (.int .i64 p.d))
        obtain ⟨W9, hW9⟩ : ∃ W9, (((W6.setCell ⟨X, 0, none⟩ (.string p.t)).setCell ⟨X, 1, none⟩ (.int .i64 p.lv)).setCell ⟨X, 2, none⟩ (.int .i64 p.d)) = W9 := ⟨_, rfl⟩
        rw [hW9] at hX9 hS9 hB9 ⊢
        clear hW9 z0 z1 z2 z3 z4 r0 r1 r2 f0 f1 f2 far hK5 hX5 hS5 hB5
        have HX9 := hide hX9; have HS9 := hide hS9; have HB9 := hide hB9
        obtain ⟨r0, r1, r2⟩ := three hX9
        clear hX9 hS9 hB9
        by_cases hbad : 64 < p.d ∨ 4000 < p.t.size
        · have HX := hide (unhide HN fun h => by have := h.part (fun j hj => (unhide HF j hj).2.2.2) (show 1 ≤ k + 1 by omega) (show k + 1 ≤ m by omega); rw [unhide HTE] at this; omega)
          by_cases hd : 64 < p.d
          · have hd' : (64 : Int) < p.d := by omega
            clear hbad hd
            go_wp2_with fail
            go_ret2
            exact ⟨by rw [(unhide HX).1, (unhide HX).2]; rfl, by first | exact unhide HB9 | (rw [hB]; exact unhide HB9)⟩
          · have hd' : ¬ (64 : Int) < p.d := by omega
            have ht' : (4000 : Int) < p.t.size := by omega
            clear hbad hd
            go_wp2_with fail
            go_ret2
            exact ⟨by rw [(unhide HX).1, (unhide HX).2]; rfl, by first | exact unhide HB9 | (rw [hB]; exact unhide HB9)⟩
        have hd' : ¬ (64 : Int) < p.d := by omega
        have ht' : ¬ (4000 : Int) < p.t.size := by omega
        have HLM2 : Hid (∀ j, 1 ≤ j → j ≤ k + 1 → (top e j).d ≤ 64 ∧ (top e j).t.size ≤ 4000) := hide fun j h1 h2 => by
          by_cases ej : j = k + 1
          · subst ej; rw [unhide HTE]; omega
          · exact unhide HLM j h1 (by omega)
        clear hbad
        go_wp2_with fail
        refine wp_region_held_drew (S := fun W' => W'.cell? ⟨X, 0, none⟩ = some (.string p.t) ∧ W'.cell? ⟨X, 1, none⟩ = some (.int .i64 p.lv) ∧ W'.cell? ⟨X, 2, none⟩ = some (.int .i64 p.d)) (by kernel_rfl) ⟨r0, r1, r2⟩ (fun hHeld => ?_)
        clear r0 r1 r2
        refine takeY (i := 0) (v := .slice sa L cap) 47 rfl rfl (by kernel_rfl) (by kernel_rfl) (by kernel_rfl) (fun _ _ _ _ h => h) (by rfl) (fun w hS => by simp [execOp, go_sem, *]) hHeld ?_
        simp only [List.setIfInBounds_toArray, List.set_cons_zero, List.set_cons_succ]
        refine takeY (i := 1) (v := .int .i64 (R : Int)) 48 rfl rfl (by kernel_rfl) (by kernel_rfl) (by kernel_rfl) (fun _ _ _ _ h => h) (by rfl) (fun w hS => by simp [execOp, go_sem, *]) hHeld ?_
        simp only [List.setIfInBounds_toArray, List.set_cons_zero, List.set_cons_succ]
        refine takeY (i := 2) (v := .slice sa R cap) 49 rfl rfl (by kernel_rfl) (by kernel_rfl) (by kernel_rfl) (fun _ _ _ _ h => h) (by rfl) (fun w hS => by have hc2 : (R : Int) ≤ cap := (by omega); simp [execOp, go_sem, *]) hHeld ?_
        simp only [List.setIfInBounds_toArray, List.set_cons_zero, List.set_cons_succ]
        refine takeY (i := 3) (v := .agg #[.string p.t, .int .i64 p.lv, .int .i64 p.d]) 50 rfl rfl (by kernel_rfl) (by kernel_rfl) (by kernel_rfl) (fun _ _ _ _ h => h) (by rfl) (fun w hS => by simp [execOp, go_sem, *]) hHeld ?_
        simp only [List.setIfInBounds_toArray, List.set_cons_zero, List.set_cons_succ]
        have hD : Below W9.heap.size W9 (W9.drew.alloc (.cells #[.string p.t, .int .i64 p.lv, .int .i64 p.d] 76)) := below_of_drew ((Below.refl W9.heap.size W9.drew).alloc (Nat.le_refl _) _)
        have hXX := (unhide HX9).mono hD (unhide HX9).lt
        obtain ⟨r0, r1, r2⟩ := three hXX
        refine wpAnyH_ready (rs := [4]) (by kernel_rfl) (by simp) (consRun (v := .slice (some ⟨W9.heap.size, 0, none⟩) 1 1) (w' := W9.drew.alloc (.cells #[.string p.t, .int .i64 p.lv, .int .i64 p.d] 76)) 51 rfl rfl (by rfl) (by simp [execOp, go_sem]) ⟨r0, r1, r2⟩ ?_ AllReadyH.nil)
        simp only [List.setIfInBounds_toArray, List.set_cons_zero, List.set_cons_succ]
        have hlr : (pst e k).reverse.length = L := by rw [List.length_reverse, pst_len]; exact unhide HL
        have hup : (W9.drew.alloc (.cells #[.string p.t, .int .i64 p.lv, .int .i64 p.d] 76)).ownsRow B 76 3 (.slice sa R cap) R (phV ((pst e k).reverse.take R)) := by
          have h1 := unhide HS9
          rw [← hlr] at h1
          have h2 := (h1.upto R (by omega)).mono hD
          unfold StkV at h2
          rw [show ((pst e k).reverse.take R).length = R by rw [List.length_take]; omega] at h2
          exact h2
        have hnews := cells_ph W9.drew p
        obtain ⟨i0, hi, hz0, hz1, hz2⟩ := info_parts info_ph
        obtain ⟨v', w', hr, ho', hgr', -⟩ := run_append_own (P := Tryz.prog) (W9.drew.alloc (.cells #[.string p.t, .int .i64 p.lv, .int .i64 p.d] 76)) B 72 72 76 i0 _ 3 32 Tryz.underlying72 hi hz0 hz1 hz2 rfl (by omega) (.slice sa R cap) R _ hup ⟨W9.heap.size, 0, none⟩ 1 1 (phV [p]) rfl hnews (by simp [phV, Value.oneCell']) (by unfold maxLen; omega) (by omega) (by have := (unhide HB9).size; simp; omega)
        have hX3 := hXX.grown hgr' (fun h => hXne (by rw [show (Value.slice sa L cap).ownBlock = (Value.slice sa R cap).ownBlock by cases sa <;> rfl]; exact h.symm))
        have HB3 : Hid (Below B w w') := hide (((unhide HB9).trans (hD.mono (by have := (unhide HB9).size; omega))).grown hgr' (by have := (unhide HB9).size; simp; omega) (fun q' hq => owns_block hup hq))
        have HS3 : Hid (StkV w' B v' (pst e (k + 1)).reverse) := hide (by
          unfold StkV
          rw [unhide HPS, phV_append, List.length_append, show ((pst e k).reverse.take R).length = R by rw [List.length_take]; omega]
          exact ho')
        obtain ⟨q0, q1, q2⟩ := three hX3
        refine wpAnyH_ready (rs := [5]) (by kernel_rfl) (by simp) (consRun (v := v') (w' := w') 52 rfl rfl (by rfl) (run_append_op rfl rfl rfl hr) ⟨q0, q1, q2⟩ ?_ AllReadyH.nil)
        simp only [List.setIfInBounds_toArray, List.set_cons_zero, List.set_cons_succ]
        replace hHeld : w'.cell? ⟨X, 0, none⟩ = some (.string p.t) ∧ w'.cell? ⟨X, 1, none⟩ = some (.int .i64 p.lv) ∧ w'.cell? ⟨X, 2, none⟩ = some (.int .i64 p.d) := ⟨q0, q1, q2⟩
        clear hr ho' hgr' hnews hup hX3 hXX hD hi hz0 hz1 hz2 r0 r1 r2 q0 q1 q2 hlr hao
        refine takeY (i := 6) (v := v') 4 rfl rfl (by kernel_rfl) (by kernel_rfl) (by kernel_rfl) (fun _ _ _ _ h => h) (by rfl) (fun w hS => by simp [execOp, go_sem, *]) hHeld ?_
        simp only [List.setIfInBounds_toArray, List.set_cons_zero, List.set_cons_succ]
        refine wpAnyH_done (by kernel_rfl) ?_ _
        clear hHeld
        go_wp2_with fail
        go_roundw
        case rel => first | exact ⟨k + 1, by omega, by go_num, unhide HS3, unhide HOK2, unhide HSO2, unhide HLM2, unhide HB3⟩ | ((repeat apply Exists.intro); exact ⟨⟨k + 1, by omega, by go_num, unhide HS3, unhide HOK2, unhide HSO2, unhide HLM2, unhide HB3⟩, rfl⟩)
        case measure => simp [intOf]; omega
    · obtain rfl : k = m := by omega
      have hlt' : ¬ (k : Int) < (k : Int) := by omega
      by_cases h1 : L = 1
      · subst h1
        have hone := unhide HL
        have hk1 : 1 ≤ k := by omega
        have hlm := unhide HLM k hk1 (Nat.le_refl _)
        have HX := hide (unhide HY ⟨hk1, by omega, unhide HOK, unhide HSO, hone, hlm.1, hlm.2⟩)
        have hrev : (pst e k).reverse = [top e k] := by rw [pst_one hone]; rfl
        have hS := unhide HSH
        rw [hrev] at hS
        obtain ⟨a', cap', e1, -, hn', hs'⟩ := hS.shape
        simp only [List.length_cons, List.length_nil, Value.slice.injEq, true_and] at e1
        obtain ⟨rfl, rfl⟩ := e1
        cases sa with
        | none => exact absurd (hn' rfl).1 (by simp)
        | some ad =>
          obtain ⟨g, o', f⟩ := ad
          obtain ⟨rfl, rfl, -, -⟩ := hs' g o' f rfl
          have z0 := StkV.cell (l := [top e k]) hS 0 (by simp)
          simp only [phV, List.flatMap_cons, List.flatMap_nil, List.append_nil, List.getElem?_cons_zero] at z0
          clear hS hs' hn' hone hrev
          go_wp2_with fail
          go_ret2
          exact ⟨by rw [(unhide HX).1, (unhide HX).2]; rfl, by first | exact unhide HB | (rw [hB]; exact unhide HB)⟩
      · have HX := hide (unhide HN fun h => h1 (by rw [← unhide HL]; exact h.2.2.2.2.1))
        have h1' : ((L : Int) != 1) = true := by simp; omega
        go_wp2_with fail
        go_ret2
        exact ⟨by rw [(unhide HX).1, (unhide HX).2]; rfl, by first | exact unhide HB | (rw [hB]; exact unhide HB)⟩
end Go.Proofs.YtjgngbmkpiihgaaGreatDoor
