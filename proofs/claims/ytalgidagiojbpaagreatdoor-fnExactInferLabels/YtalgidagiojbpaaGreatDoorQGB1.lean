import Derived.Test.YtalgidagiojbpaaGreatDoorQGA
/- The program prints one phrase out of its operands. -/
namespace Go.Proofs.YtalgidagiojbpaaGreatDoor
open Go Go.RowKit
/-- The program's table of words. -/
def Wrds (w : World) : Prop := 3 < w.heap.size /\ ∀ k, k < 26 -> w.cell? ⟨3, k, none⟩ = some (.string (wrdT.getD k ⟨#[]⟩))
theorem Wrds.mono {w w' : World} (h : Wrds w) (hb : Below w.heap.size w w') : Wrds w' := ⟨Nat.lt_of_lt_of_le h.1 hb.size, fun k hk => (hb.cell h.1).trans (h.2 k hk)⟩
theorem Wrds.at {w : World} (h : Wrds w) {op : Int} (h0 : 0 <= op) (h1 : op <= 25) : w.cell? ⟨3, op.toNat, none⟩ = some (.string (wrd op)) := h.2 op.toNat (by omega)
theorem lvl_bdI (op : Int) : 1 <= lvl op /\ lvl op <= 7 := by
 unfold lvl
 (repeat' split) <;> omega
theorem okNode_op {n : Nx} (h : okNode n = true) : 0 <= n.op /\ n.op <= 25 := by
 rcases ops2 n.op with h0 | h0 | ⟨h0, h1⟩
 . omega
 . omega
 . rw [okNode2 h0 h1] at h
   simp only [Bool.and_eq_true, decide_eq_true_eq] at h
   omega
set_option maxRecDepth 100000 in
set_option maxHeartbeats 8000000 in
theorem phraseText_any (n : Nx) (a : Option Addr) (c : Nat) (l : List Ph) (w : World) (hok : okNode n = true) (hf : Fit n) (hl : l.length = arn n) (ha : Phs w a l) (hs : tot l <= 2000000) (hw : Wrds w) (hp : Pow w) :
 Calls Tryz.prog 213 #[nv n, .slice a (arn n) c] w fun r w' => r = .returned (.string (phT n l)) /\ Below w.heap.size w w' := by
 unfold nv
 obtain ⟨hop0, hop25⟩ := okNode_op hok
 obtain ⟨W0, hW0⟩ : ∃ W0, w.alloc (.cells #[.int .i64 n.op, .int .i64 n.v.k, .int .i64 n.v.n, .string n.v.s, .string n.nm] 149) = W0 := ⟨_, rfl⟩
 have HK := h_ (Blk.new w 149 #[.int .i64 n.op, .int .i64 n.v.k, .int .i64 n.v.n, .string n.v.s, .string n.nm])
 have HB := h_ ((Below.refl w.heap.size w).alloc (Nat.le_refl _) (.cells #[.int .i64 n.op, .int .i64 n.v.k, .int .i64 n.v.n, .string n.v.s, .string n.nm] 149))
 rw [hW0] at HK HB
 have HA := h_ (ha.mono (u_ HB)); have HP := h_ (hp.mono (u_ HB))
 have hwc := (hw.mono (u_ HB)).at hop0 hop25
 have HT : Hid (phT n l = phT n l) := h_ rfl
 obtain ⟨t, ht⟩ : ∃ t, phT n l = t := ⟨_, rfl⟩
 rw [ht]
 have HX := h_ ht
 obtain ⟨y0, y1, y2, y3, y4⟩ := five (u_ HK)
 have HL := h_ hl; have HS := h_ hs
 clear ha hw hp HT ht hl hs
 go_enter Tryz.func213, Tryz.ntmps213
 go_wp2_with fail
 try rw [hW0]
 clear hW0
 have hopn : ((n.op.toNat : Nat) : Int) = n.op := by omega
 refine wp_region_held_drew (S := fun w' => w'.cell? ⟨w.heap.size, 0, none⟩ = some (.int .i64 n.op) /\ w'.cell? ⟨3, n.op.toNat, none⟩ = some (.string (wrd n.op))) (by kernel_rfl) ⟨y0, hwc⟩ (fun hHeld => ?_)
 clear y0 y1 y2 y3 y4 hwc
 refine tk (i := 0) (v := .pointer (some ⟨w.heap.size, 0, none⟩)) 8 hHeld ?_
 simp only [s1', s2', s3']
 refine tk (i := 1) (v := .int .i64 n.op) 9 hHeld ?_
 simp only [s1', s2', s3']
 refine tk (i := 3) (v := .pointer (some ⟨w.heap.size, 0, none⟩)) 11 hHeld ?_
 simp only [s1', s2', s3']
 refine tk (i := 4) (v := .int .i64 n.op) 12 hHeld ?_
 simp only [s1', s2', s3']
 refine tk (i := 5) (v := .pointer (some ⟨3, n.op.toNat, none⟩)) 13 hHeld ?_ (hy := fun w hS => by simp [execOp, go_sem, *]; intro h; omega)
 simp only [s1', s2', s3']
 refine tk (i := 6) (v := .string (wrd n.op)) 14 hHeld ?_
 simp only [s1', s2', s3']
 refine callY (i := 2) (f := 214) (args := #[.int .i64 n.op]) (R := fun r wz => r = .int .i64 (lvl n.op) /\ wz = W0.drew) 10 rfl rfl (by rfl) (by kernel_rfl) ?hrun0 ((levelOf_any _ _).mono fun e w6 ⟨he, hb⟩ => ⟨_, he, rfl, hb⟩) ?_
 case hrun0 => simp [execOp, go_sem]
 rintro r3 w3 ⟨rfl, hw⟩
 subst hw
 refine ⟨hHeld, ?_⟩
 simp only [s1', s2', s3']
 refine tk (i := 7) (v := .int .i64 (lvl n.op)) 5 hHeld ?_
 simp only [s1', s2', s3']
 refine tk (i := 8) (v := .string (wrd n.op)) 6 hHeld ?_
 simp only [s1', s2', s3']
 refine wpAnyH_done (by kernel_rfl) ?_ _
 clear hHeld hopn
 have HD : Hid (Below W0.heap.size W0 W0.drew) := h_ ((Below.refl _ _).drew)
 replace HB := h_ ((u_ HB).trans ((u_ HD).mono (u_ HB).size)); replace HK := h_ ((u_ HK).mono (u_ HD) (u_ HK).lt); replace HA := h_ ((u_ HA).mono (u_ HD)); replace HP := h_ ((u_ HP).mono (u_ HD))
 clear HD
 obtain ⟨W1, hW1⟩ : ∃ W1, W0.drew = W1 := ⟨_, rfl⟩
 rw [hW1] at HB HK HA HP ⊢
 clear hW1
 obtain ⟨W0, hW0⟩ : ∃ W0, W0 = W1 := ⟨_, rfl⟩
 subst hW0
 obtain ⟨y0, y1, y2, y3, y4⟩ := five (u_ HK)
 rcases ops2 n.op with h | h | ⟨h, h'⟩
 . have HY : Hid (showB n.v.k n.v.n n.v.s = t) := h_ (by rw [<- u_ HX, phT, if_pos h])
   rw [h] at y0
   go_wp2_with fail
   refine (implShow_any _ _ _ _ hf.1 hf.2.2.1 hf.2.2.2 (u_ HP)).mono ?_
   rintro r w2 ⟨rfl, hb⟩
   replace HB := mT HB hb
   clear hb
   go_wp2_with fail
   go_ret
   exact ⟨ret_str (u_ HY), u_ HB⟩
 . have HY : Hid (n.nm = t) := h_ (by rw [<- u_ HX, phT, if_neg (by omega), if_pos h])
   rw [h] at y0
   go_wp2_with fail
   go_ret
   exact ⟨ret_str (u_ HY), u_ HB⟩
 have n0 : (n.op == 0) = false := beq_eq_false_iff_ne.2 h
 have n1 : (n.op == 1) = false := beq_eq_false_iff_ne.2 h'
 have hop : 2 <= n.op := by omega
 have hwsz := wrd_size hop hop25
 have hfa := hf
 clear hf hfa
 by_cases h2 : n.op = 2
 . have e1 : arn n = 1 := by unfold arn; rw [ar_one (.inl h2)]; rfl
   rw [e1] at HL ⊢
   obtain ⟨x, rfl⟩ := list1 (u_ HL)
   have HY : Hid (⟨#[45]⟩ ++ wrap 6 x = t) := h_ (by rw [<- u_ HX, phT, if_neg h, if_neg h', if_pos h2]; rfl)
   obtain ⟨b1, o1, rfl, -, c0, c1, c2⟩ := u_ HA 0 (by simp)
   simp only [List.getElem_cons_zero, Nat.zero_mul, Nat.add_zero] at c0 c1 c2
   have hsx : x.t.size <= 2000000 := by have := u_ HS; simp only [tot] at this; omega
   have hws := wrap_size 6 x
   rw [h2] at y0
   rw [show wrd n.op = ⟨#[45]⟩ by rw [h2]; rfl, show lvl n.op = 6 by rw [h2]; rfl]
   clear n0 n1 hop h h' h2 hwsz
   go_wp2_with fail
   refine (atLevel_any x 6 _ hsx).mono ?_
   rintro r w2 ⟨rfl, hb⟩
   replace HB := mT HB hb
   generalize wrap 6 x = q at *
   clear hb
   go_wp2_with fail
   go_ret
   exact ⟨ret_str (u_ HY), u_ HB⟩
 by_cases h3 : n.op = 3
 . have e1 : arn n = 1 := by unfold arn; rw [ar_one (.inr h3)]; rfl
   rw [e1] at HL ⊢
   obtain ⟨x, rfl⟩ := list1 (u_ HL)
   have HY : Hid (⟨#[110, 111, 116, 32]⟩ ++ wrap 6 x = t) := h_ (by rw [<- u_ HX, phT, if_neg h, if_neg h', if_neg h2, if_pos h3]; rfl)
   obtain ⟨b1, o1, rfl, -, c0, c1, c2⟩ := u_ HA 0 (by simp)
   simp only [List.getElem_cons_zero, Nat.zero_mul, Nat.add_zero] at c0 c1 c2
   have hsx : x.t.size <= 2000000 := by have := u_ HS; simp only [tot] at this; omega
   have hws := wrap_size 6 x
   rw [h3] at y0
   rw [show wrd n.op = ⟨#[110, 111, 116]⟩ by rw [h3]; rfl, show lvl n.op = 6 by rw [h3]; rfl]
   clear n0 n1 hop h h' h2 h3 hwsz
   go_wp2_with fail
   refine (atLevel_any x 6 _ hsx).mono ?_
   rintro r w2 ⟨rfl, hb⟩
   replace HB := mT HB hb
   generalize wrap 6 x = q at *
   clear hb
   go_wp2_with fail
   go_ret
   exact ⟨ret_str (u_ HY), u_ HB⟩
 have n2 : (n.op == 2) = false := beq_eq_false_iff_ne.2 h2
 have n3 : (n.op == 3) = false := beq_eq_false_iff_ne.2 h3
 by_cases h7 : lvl n.op = 7
 . have HY : Hid (wrd n.op ++ ⟨#[40]⟩ ++ jn (l.map (·.t)) ++ ⟨#[41]⟩ = t) := h_ (by rw [<- u_ HX, phT, if_neg h, if_neg h', if_neg h2, if_neg h3, if_pos h7])
   have har := arn_le n
   have har1 : 1 <= arn n := by
    have := arn_cast n
    have e := ar_opn n.op
    rw [if_pos (by omega)] at e
    have : 1 <= opn n.op := by unfold opn; (repeat' split) <;> omega
    omega
   have hjs := jn_size l
   have hst := u_ HS
   rw [u_ HL] at hjs
   rw [h7]
   clear h h' h2 h3 h7
   generalize wrd n.op = wd at *
   go_wp2_with fail
   refine (show Calls Tryz.prog 220 #[.slice a (arn n) c] W0 fun r w' => r = .returned (.string (jn (l.map (·.t)))) /\ Below W0.heap.size W0 w' from ?_).mono ?_
   . rw [<- u_ HL]; exact listed_any a c l W0 (by have := u_ HL; omega) (by have := u_ HL; omega) (u_ HA) (u_ HS)
   rintro r w2 ⟨rfl, hb⟩
   replace HB := mT HB hb
   clear hb
   generalize jn (l.map (·.t)) = q at *
   have hA : (wd ++ (⟨#[40]⟩ : ByteArray)).size = wd.size + 1 := by rw [ByteArray.size_append]; rfl
   have hA2 : (wd ++ (⟨#[40]⟩ : ByteArray) ++ q).size = wd.size + 1 + q.size := by rw [ByteArray.size_append, hA]
   go_wp2_with fail
   go_ret
   exact ⟨ret_str (u_ HY), u_ HB⟩
 . have e2 : arn n = 2 := by unfold arn; rw [ar_two hop hop25 h7 h2 h3]; rfl
   rw [e2] at HL ⊢
   obtain ⟨x, y, rfl⟩ := list2 (u_ HL)
   have HY : Hid (wrap (lft n.op) x ++ ⟨#[32]⟩ ++ wrd n.op ++ ⟨#[32]⟩ ++ wrap (lvl n.op + 1) y = t) := h_ (by rw [<- u_ HX, phT, if_neg h, if_neg h', if_neg h2, if_neg h3, if_neg h7]; rfl)
   have hg0 := u_ HA 0 (by simp)
   have hg1 := u_ HA 1 (by simp)
   obtain ⟨b1, o1, rfl, hc0⟩ := hg0
   obtain ⟨b2, o2, e12, hc1⟩ := hg1
   cases e12
   simp only [List.getElem_cons_zero, List.getElem_cons_succ, Nat.zero_mul, Nat.one_mul, Nat.add_zero] at hc0 hc1
   have HC := h_ (And.intro hc0 hc1)
   have hsx : x.t.size + y.t.size <= 2000000 := by have := u_ HS; simp only [tot] at this; omega
   have hlv := lvl_bdI n.op
   have HLf : Hid (lft n.op = if lvl n.op = 3 then 4 else lvl n.op) := h_ rfl
   obtain ⟨lv, hlve⟩ : ∃ lv, lvl n.op = lv := ⟨_, rfl⟩
   obtain ⟨lf, hlfe⟩ : ∃ lf, lft n.op = lf := ⟨_, rfl⟩
   rw [hlve] at HY HLf h7 hlv ⊢; rw [hlfe] at HY HLf
   have n7 : (lv == 7) = false := beq_eq_false_iff_ne.2 h7
   clear hlve hlfe h h' h2 h3
   by_cases h3 : lv = 3
   . have hl4 : lf = 4 := by rw [u_ HLf, if_pos h3]
     subst h3 hl4
     simp only [show (3 : Int) + 1 = 4 from rfl] at HY
     clear HLf n7 h7 hlv
     go_wp2_with fail
     refine wp_region_held_drew (S := fun w' => PCel w' b1 o1 x /\ PCel w' b1 (o1 + 3) y) (by kernel_rfl) ⟨hc0, hc1⟩ (fun hHeld => ?_)
     refine tk (i := 0) (v := .slice (some ⟨b1, o1, none⟩) 2 c) 65 hHeld ?_
     simp only [s1', s2', s3']
     refine tk (i := 1) (v := .pointer (some ⟨b1, o1, none⟩)) 66 hHeld ?_
     simp only [s1', s2', s3']
     refine tk (i := 2) (v := .agg #[.string x.t, .int .i64 x.lv, .int .i64 x.d]) 67 hHeld ?_ (hy := fun w hS => by obtain ⟨⟨-, q0, q1, q2⟩, -, q3, q4, q5⟩ := hS; simp [execOp, go_sem, q0, q1, q2])
     simp only [s1', s2', s3']
     refine tk (i := 3) (v := .int .i64 4) 68 hHeld ?_
     simp only [s1', s2', s3']
     refine tk (i := 6) (v := .string (wrd n.op)) 71 hHeld ?_
     simp only [s1', s2', s3']
     refine tk (i := 9) (v := .slice (some ⟨b1, o1, none⟩) 2 c) 74 hHeld ?_
     simp only [s1', s2', s3']
     refine tk (i := 10) (v := .pointer (some ⟨b1, o1 + 3, none⟩)) 75 hHeld ?_
     simp only [s1', s2', s3']
     refine tk (i := 11) (v := .agg #[.string y.t, .int .i64 y.lv, .int .i64 y.d]) 76 hHeld ?_ (hy := fun w hS => by obtain ⟨⟨-, q0, q1, q2⟩, -, q3, q4, q5⟩ := hS; simp [execOp, go_sem, q3, q4, q5])
     simp only [s1', s2', s3']
     refine tk (i := 12) (v := .int .i64 3) 77 hHeld ?_
     simp only [s1', s2', s3']
     refine tk (i := 13) (v := .int .i64 4) 78 hHeld ?_ (hy := fun w hS => by simp [execOp, go_sem, *]; rfl)
     simp only [s1', s2', s3']
     refine callY (i := 4) (f := 219) (args := #[.agg #[.string x.t, .int .i64 x.lv, .int .i64 x.d], .int .i64 4]) (R := fun r wz => r = .string (wrap 4 x) /\ Below W0.heap.size W0 wz) 69 rfl rfl (by rfl) (by kernel_rfl) ?hrun1 ((atLevel_any x 4 _ (by omega)).mono fun e w6 ⟨he, hb⟩ => ⟨_, he, rfl, below_of_drew hb⟩) ?_
     case hrun1 => simp [execOp, go_sem]
     rintro r3 W4 ⟨rfl, hb⟩
     replace HB := mT HB hb
     replace hHeld : PCel W4 b1 o1 x /\ PCel W4 b1 (o1 + 3) y := ⟨(u_ HC).1.mono hb, (u_ HC).2.mono hb⟩
     clear hb hc0 hc1
     refine ⟨hHeld, ?_⟩
     simp only [s1', s2', s3']
     have ht1 := wrap_size 4 x
     have ht2 := wrap_size 4 y
     obtain ⟨t1, ht1e⟩ : ∃ t1, wrap 4 x = t1 := ⟨_, rfl⟩
     rw [ht1e] at HY ht1 ⊢
     clear ht1e
     have hA : (t1 ++ (⟨#[32]⟩ : ByteArray)).size = t1.size + 1 := by rw [ByteArray.size_append]; rfl
     obtain ⟨wd, hwde⟩ : ∃ wd, wrd n.op = wd := ⟨_, rfl⟩
     rw [hwde] at HY hwsz ⊢
     clear hwde
     refine tk (i := 5) (v := .string (t1 ++ ⟨#[32]⟩)) 70 hHeld ?_ (hy := fun w hS => by have := run_string_add_sum (P := Tryz.prog) w t1 ⟨#[32]⟩ (by show t1.size + 1 <= _; omega); simp [execOp, go_sem, this])
     simp only [s1', s2', s3']
     have hA2 : (t1 ++ (⟨#[32]⟩ : ByteArray) ++ wd).size = t1.size + 1 + wd.size := by rw [ByteArray.size_append, hA]
     refine tk (i := 7) (v := .string (t1 ++ ⟨#[32]⟩ ++ wd)) 72 hHeld ?_ (hy := fun w hS => by have := run_string_add_sum (P := Tryz.prog) w (t1 ++ ⟨#[32]⟩) wd (by omega); simp [execOp, go_sem, this])
     simp only [s1', s2', s3']
     have hA3 : (t1 ++ (⟨#[32]⟩ : ByteArray) ++ wd ++ ⟨#[32]⟩).size = t1.size + 1 + wd.size + 1 := by rw [ByteArray.size_append, hA2]; rfl
     refine tk (i := 8) (v := .string (t1 ++ ⟨#[32]⟩ ++ wd ++ ⟨#[32]⟩)) 73 hHeld ?_ (hy := fun w hS => by have := run_string_add_sum (P := Tryz.prog) w (t1 ++ ⟨#[32]⟩ ++ wd) ⟨#[32]⟩ (by rw [hA2]; show t1.size + 1 + wd.size + 1 <= _; omega); simp [execOp, go_sem, this])
     simp only [s1', s2', s3']
     refine callY (i := 14) (f := 219) (args := #[.agg #[.string y.t, .int .i64 y.lv, .int .i64 y.d], .int .i64 4]) (R := fun r wz => r = .string (wrap 4 y) /\ Below W4.heap.size W4 wz) 79 rfl rfl (by rfl) (by kernel_rfl) ?hrun2 ((atLevel_any y 4 _ (by omega)).mono fun e w6 ⟨he, hb⟩ => ⟨_, he, rfl, hb⟩) ?_
     case hrun2 => simp [execOp, go_sem]
     rintro r3 W5 ⟨rfl, hb⟩
     replace HB := mT HB hb
     replace hHeld : PCel W5 b1 o1 x /\ PCel W5 b1 (o1 + 3) y := ⟨hHeld.1.mono hb, hHeld.2.mono hb⟩
     clear hb
     refine ⟨hHeld, ?_⟩
     simp only [s1', s2', s3']
     obtain ⟨t2, ht2e⟩ : ∃ t2, wrap 4 y = t2 := ⟨_, rfl⟩
     rw [ht2e] at HY ht2 ⊢
     clear ht2e
     obtain ⟨u3, hu3⟩ : ∃ u3, t1 ++ (⟨#[32]⟩ : ByteArray) ++ wd ++ ⟨#[32]⟩ = u3 := ⟨_, rfl⟩
     rw [hu3] at HY hA3 ⊢
     clear hu3 hA hA2
     refine tk (i := 15) (v := .string (u3 ++ t2)) 80 hHeld ?_ (hy := fun w hS => by have := run_string_add_sum (P := Tryz.prog) w u3 t2 (by omega); simp [execOp, go_sem, this])
     simp only [s1', s2', s3']
     refine tk (i := 16) (v := .string (u3 ++ t2)) 4 hHeld ?_
     simp only [s1', s2', s3']
     refine wpAnyH_done (by kernel_rfl) ?_ _
     clear hHeld
     go_wp2
     go_ret
     exact ⟨ret_str (u_ HY), u_ HB⟩
   . have hl4 : lf = lv := by rw [u_ HLf, if_neg h3]
     subst hl4
     have n3' : (lf == 3) = false := beq_eq_false_iff_ne.2 h3
     clear HLf h7 h3
     go_wp2_with fail
     refine wp_region_held_drew (S := fun w' => PCel w' b1 o1 x /\ PCel w' b1 (o1 + 3) y) (by kernel_rfl) ⟨hc0, hc1⟩ (fun hHeld => ?_)
     refine tk (i := 0) (v := .slice (some ⟨b1, o1, none⟩) 2 c) 65 hHeld ?_
     simp only [s1', s2', s3']
     refine tk (i := 1) (v := .pointer (some ⟨b1, o1, none⟩)) 66 hHeld ?_
     simp only [s1', s2', s3']
     refine tk (i := 2) (v := .agg #[.string x.t, .int .i64 x.lv, .int .i64 x.d]) 67 hHeld ?_ (hy := fun w hS => by obtain ⟨⟨-, q0, q1, q2⟩, -, q3, q4, q5⟩ := hS; simp [execOp, go_sem, q0, q1, q2])
     simp only [s1', s2', s3']
     refine tk (i := 3) (v := .int .i64 lf) 68 hHeld ?_
     simp only [s1', s2', s3']
     refine tk (i := 6) (v := .string (wrd n.op)) 71 hHeld ?_
     simp only [s1', s2', s3']
     refine tk (i := 9) (v := .slice (some ⟨b1, o1, none⟩) 2 c) 74 hHeld ?_
     simp only [s1', s2', s3']
     refine tk (i := 10) (v := .pointer (some ⟨b1, o1 + 3, none⟩)) 75 hHeld ?_
     simp only [s1', s2', s3']
     refine tk (i := 11) (v := .agg #[.string y.t, .int .i64 y.lv, .int .i64 y.d]) 76 hHeld ?_ (hy := fun w hS => by obtain ⟨⟨-, q0, q1, q2⟩, -, q3, q4, q5⟩ := hS; simp [execOp, go_sem, q3, q4, q5])
     simp only [s1', s2', s3']
     refine tk (i := 12) (v := .int .i64 lf) 77 hHeld ?_
     simp only [s1', s2', s3']
     refine tk (i := 13) (v := .int .i64 (lf + 1)) 78 hHeld ?_ (hy := fun w hS => by simp [execOp, go_sem, *]; rw [IntKind.wrap_i64]; omega)
     simp only [s1', s2', s3']
     refine callY (i := 4) (f := 219) (args := #[.agg #[.string x.t, .int .i64 x.lv, .int .i64 x.d], .int .i64 lf]) (R := fun r wz => r = .string (wrap lf x) /\ Below W0.heap.size W0 wz) 69 rfl rfl (by rfl) (by kernel_rfl) ?hrun1 ((atLevel_any x lf _ (by omega)).mono fun e w6 ⟨he, hb⟩ => ⟨_, he, rfl, below_of_drew hb⟩) ?_
     case hrun1 => simp [execOp, go_sem]
     rintro r3 W4 ⟨rfl, hb⟩
     replace HB := mT HB hb
     replace hHeld : PCel W4 b1 o1 x /\ PCel W4 b1 (o1 + 3) y := ⟨(u_ HC).1.mono hb, (u_ HC).2.mono hb⟩
     clear hb hc0 hc1
     refine ⟨hHeld, ?_⟩
     simp only [s1', s2', s3']
     have ht1 := wrap_size lf x
     have ht2 := wrap_size (lf + 1) y
     obtain ⟨t1, ht1e⟩ : ∃ t1, wrap lf x = t1 := ⟨_, rfl⟩
     rw [ht1e] at HY ht1 ⊢
     clear ht1e
     have hA : (t1 ++ (⟨#[32]⟩ : ByteArray)).size = t1.size + 1 := by rw [ByteArray.size_append]; rfl
     obtain ⟨wd, hwde⟩ : ∃ wd, wrd n.op = wd := ⟨_, rfl⟩
     rw [hwde] at HY hwsz ⊢
     clear hwde
     refine tk (i := 5) (v := .string (t1 ++ ⟨#[32]⟩)) 70 hHeld ?_ (hy := fun w hS => by have := run_string_add_sum (P := Tryz.prog) w t1 ⟨#[32]⟩ (by show t1.size + 1 <= _; omega); simp [execOp, go_sem, this])
     simp only [s1', s2', s3']
     have hA2 : (t1 ++ (⟨#[32]⟩ : ByteArray) ++ wd).size = t1.size + 1 + wd.size := by rw [ByteArray.size_append, hA]
     refine tk (i := 7) (v := .string (t1 ++ ⟨#[32]⟩ ++ wd)) 72 hHeld ?_ (hy := fun w hS => by have := run_string_add_sum (P := Tryz.prog) w (t1 ++ ⟨#[32]⟩) wd (by omega); simp [execOp, go_sem, this])
     simp only [s1', s2', s3']
     have hA3 : (t1 ++ (⟨#[32]⟩ : ByteArray) ++ wd ++ ⟨#[32]⟩).size = t1.size + 1 + wd.size + 1 := by rw [ByteArray.size_append, hA2]; rfl
     refine tk (i := 8) (v := .string (t1 ++ ⟨#[32]⟩ ++ wd ++ ⟨#[32]⟩)) 73 hHeld ?_ (hy := fun w hS => by have := run_string_add_sum (P := Tryz.prog) w (t1 ++ ⟨#[32]⟩ ++ wd) ⟨#[32]⟩ (by rw [hA2]; show t1.size + 1 + wd.size + 1 <= _; omega); simp [execOp, go_sem, this])
     simp only [s1', s2', s3']
     refine callY (i := 14) (f := 219) (args := #[.agg #[.string y.t, .int .i64 y.lv, .int .i64 y.d], .int .i64 (lf + 1)]) (R := fun r wz => r = .string (wrap (lf + 1) y) /\ Below W4.heap.size W4 wz) 79 rfl rfl (by rfl) (by kernel_rfl) ?hrun2 ((atLevel_any y (lf + 1) _ (by omega)).mono fun e w6 ⟨he, hb⟩ => ⟨_, he, rfl, hb⟩) ?_
     case hrun2 => simp [execOp, go_sem]
     rintro r3 W5 ⟨rfl, hb⟩
     replace HB := mT HB hb
     replace hHeld : PCel W5 b1 o1 x /\ PCel W5 b1 (o1 + 3) y := ⟨hHeld.1.mono hb, hHeld.2.mono hb⟩
     clear hb
     refine ⟨hHeld, ?_⟩
     simp only [s1', s2', s3']
     obtain ⟨t2, ht2e⟩ : ∃ t2, wrap (lf + 1) y = t2 := ⟨_, rfl⟩
     rw [ht2e] at HY ht2 ⊢
     clear ht2e
     obtain ⟨u3, hu3⟩ : ∃ u3, t1 ++ (⟨#[32]⟩ : ByteArray) ++ wd ++ ⟨#[32]⟩ = u3 := ⟨_, rfl⟩
     rw [hu3] at HY hA3 ⊢
     clear hu3 hA hA2
     refine tk (i := 15) (v := .string (u3 ++ t2)) 80 hHeld ?_ (hy := fun w hS => by have := run_string_add_sum (P := Tryz.prog) w u3 t2 (by omega); simp [execOp, go_sem, this])
     simp only [s1', s2', s3']
     refine tk (i := 16) (v := .string (u3 ++ t2)) 4 hHeld ?_
     simp only [s1', s2', s3']
     refine wpAnyH_done (by kernel_rfl) ?_ _
     clear hHeld
     go_wp2
     go_ret
     exact ⟨ret_str (u_ HY), u_ HB⟩
end Go.Proofs.YtalgidagiojbpaaGreatDoor
/- The program makes one phrase out of its operands. -/
namespace Go.Proofs.YtalgidagiojbpaaGreatDoor
open Go Go.RowKit
theorem mx_take_snoc (l : List Ph) (k : Nat) (h : k < l.length) : mx (l.take (k + 1)) = max (mx (l.take k)) l[k].d := by
 rw [List.take_succ_eq_append_getElem h, mx_append]; simp [mx]
set_option maxRecDepth 100000 in
set_option maxHeartbeats 8000000 in
theorem phraseOf_any (n : Nx) (a : Option Addr) (c : Nat) (l : List Ph) (w : World) (hok : okNode n = true) (hf : Fit n) (hl : l.length = arn n) (ha : Phs w a l) (hs : tot l <= 2000000) (hd : mx l <= 1000) (hw : Wrds w) (hp : Pow w) :
 Calls Tryz.prog 205 #[nv n, .slice a (arn n) c] w fun r w' => r = .returned (pv (phr n l)) /\ Below w.heap.size w w' := by
 unfold nv
 have HK := h_ ((Blk.new w 149 #[.int .i64 n.op, .int .i64 n.v.k, .int .i64 n.v.n, .string n.v.s, .string n.nm]).alloc (.cells #[.string ⟨#[]⟩, .int .i64 0, .int .i64 0] 230))
 have HR := h_ (Blk.new (w.alloc (.cells #[.int .i64 n.op, .int .i64 n.v.k, .int .i64 n.v.n, .string n.v.s, .string n.nm] 149)) 230 #[.string ⟨#[]⟩, .int .i64 0, .int .i64 0])
 have HB := h_ (((Below.refl w.heap.size w).alloc (Nat.le_refl _) (.cells #[.int .i64 n.op, .int .i64 n.v.k, .int .i64 n.v.n, .string n.v.s, .string n.nm] 149)).alloc (by simp) (.cells #[.string ⟨#[]⟩, .int .i64 0, .int .i64 0] 230))
 rw [World.size_alloc] at HR
 obtain ⟨W0, hW0⟩ : ∃ W0, (w.alloc (.cells #[.int .i64 n.op, .int .i64 n.v.k, .int .i64 n.v.n, .string n.v.s, .string n.nm] 149)).alloc (.cells #[.string ⟨#[]⟩, .int .i64 0, .int .i64 0] 230) = W0 := ⟨_, rfl⟩
 rw [hW0] at HK HB HR
 have HA := h_ (ha.mono (u_ HB)); have HP := h_ (hp.mono (u_ HB)); have HW := h_ (hw.mono (u_ HB))
 have HL := h_ hl; have HS := h_ hs; have HD := h_ hd; have HF := h_ hf; have HO := h_ hok
 have har := arn_le n
 obtain ⟨m, hm⟩ : ∃ m, arn n = m := ⟨_, rfl⟩
 rw [hm] at har HL ⊢
 have HM := h_ hm
 have HX : Hid (∀ k, k <= m -> mx (l.take k) <= 1000) := h_ fun k _ => by
  have : mx l = max (mx (l.take k)) (mx (l.drop k)) := by rw [<- mx_append, List.take_append_drop]
  have := u_ HD
  omega
 clear ha hw hp hl hs hd hf hok hm
 go_enter Tryz.func205, Tryz.ntmps205
 go_wp2_with fail
 try rw [hW0]
 clear hW0
 go_loopw [5, 7, 10] (fun dp _ i wr => ∃ k : Nat, k <= m /\ dp = .int .i64 (mx (l.take k)) /\ i = .int .i64 k /\ Below W0.heap.size W0 wr) (fun _ _ i _ => m - (intOf i).toNat)
 case atStart => exact ⟨0, Nat.zero_le _, rfl, rfl, Below.refl _ _⟩
 case round =>
  obtain ⟨k, hk, rfl, rfl, hb⟩ := hrel
  have HBr := h_ hb
  have HAr := h_ ((u_ HA).mono hb)
  have hmk := u_ HX k hk
  clear hb
  by_cases hlt : k < m
  . have hlt' : (k : Int) < m := by omega
    have hkl : k < l.length := by have := u_ HL; omega
    obtain ⟨b, o, rfl, -, c0, c1, c2⟩ := u_ HAr k hkl
    have HN : Hid (mx (l.take (k + 1)) = max (mx (l.take k)) l[k].d) := h_ (mx_take_snoc l k hkl)
    have hmk1 := u_ HX (k + 1) (by omega)
    obtain ⟨p, hp⟩ : ∃ p, l[k] = p := ⟨_, rfl⟩
    rw [hp] at HN c0 c1 c2
    rw [u_ HN] at hmk1
    clear hp
    have HB2 := h_ ((u_ HBr).alloc (u_ HBr).size (.cells #[.string p.t, .int .i64 p.lv, .int .i64 p.d] 230))
    obtain ⟨q, hq⟩ : ∃ q, mx (l.take k) = q := ⟨_, rfl⟩
    rw [hq] at HN hmk hmk1 ⊢
    clear hq
    obtain ⟨d, hdd⟩ : ∃ d, p.d = d := ⟨_, rfl⟩
    rw [hdd] at HN hmk1 c2 HB2
    clear hdd
    go_wp2_with fail
    go_roundw
    case rel => first | exact ⟨k + 1, by omega, by rw [u_ HN]; exact congrArg (Value.int .i64) (by omega), by go_num, u_ HB2⟩ | ((repeat apply Exists.intro); exact ⟨⟨k + 1, by omega, by rw [u_ HN]; exact congrArg (Value.int .i64) (by omega), by go_num, u_ HB2⟩, rfl⟩)
    case measure => simp [intOf]; omega
  . obtain rfl : k = m := by omega
    have hlt' : ¬ (k : Int) < (k : Int) := by omega
    rw [List.take_of_length_le (by have := u_ HL; omega)] at hmk ⊢
    have HKr := h_ ((u_ HK).mono (u_ HBr) (u_ HK).lt); have HRr := h_ ((u_ HR).mono (u_ HBr) (u_ HR).lt); have HPr := h_ ((u_ HP).mono (u_ HBr)); have HWr := h_ ((u_ HW).mono (u_ HBr)); have HB2 := h_ ((u_ HB).trans ((u_ HBr).mono (u_ HB).size))
    clear HK HR HP HW HB HBr HA HX
    obtain ⟨y0, y1, y2, y3, y4⟩ := five (u_ HKr)
    obtain ⟨q, hq⟩ : ∃ q, mx l = q := ⟨_, rfl⟩
    rw [hq] at hmk ⊢
    have HQ := h_ hq
    clear hq
    go_wp2_with fail
    refine wp_region_held_drew (S := fun w' => w'.cell? ⟨w.heap.size, 0, none⟩ = some (.int .i64 n.op) /\ w'.cell? ⟨w.heap.size, 1, none⟩ = some (.int .i64 n.v.k) /\ w'.cell? ⟨w.heap.size, 2, none⟩ = some (.int .i64 n.v.n) /\ w'.cell? ⟨w.heap.size, 3, none⟩ = some (.string n.v.s) /\ w'.cell? ⟨w.heap.size, 4, none⟩ = some (.string n.nm)) (by kernel_rfl) ⟨y0, y1, y2, y3, y4⟩ (fun hHeld => ?_)
    clear y0 y1 y2 y3 y4
    refine tk (i := 0) (v := .agg #[.int .i64 n.op, .int .i64 n.v.k, .int .i64 n.v.n, .string n.v.s, .string n.nm]) 19 hHeld ?_
    simp only [s1', s2', s3']
    refine tk (i := 1) (v := .slice a k c) 20 hHeld ?_
    simp only [s1', s2', s3']
    refine tk (i := 3) (v := .pointer (some ⟨w.heap.size, 0, none⟩)) 22 hHeld ?_
    simp only [s1', s2', s3']
    refine tk (i := 4) (v := .int .i64 n.op) 23 hHeld ?_
    simp only [s1', s2', s3']
    refine tk (i := 6) (v := .int .i64 (q : Int)) 25 hHeld ?_
    simp only [s1', s2', s3']
    refine tk (i := 7) (v := .int .i64 ((q : Int) + 1)) 26 hHeld ?_ (hy := fun w hS => by simp [execOp, go_sem, *]; rw [IntKind.wrap_i64]; omega)
    simp only [s1', s2', s3']
    have HD2 : Hid (Below wr.heap.size wr wr.drew) := h_ ((Below.refl _ _).drew)
    have hpt := phraseText_any n a c l wr.drew (u_ HO) (u_ HF) ((u_ HL).trans (u_ HM).symm) ((u_ HAr).mono (u_ HD2)) (u_ HS) ((u_ HWr).mono (u_ HD2)) ((u_ HPr).mono (u_ HD2))
    rw [u_ HM] at hpt
    refine callY (i := 2) (f := 213) (args := #[.agg #[.int .i64 n.op, .int .i64 n.v.k, .int .i64 n.v.n, .string n.v.s, .string n.nm], .slice a k c]) (R := fun r wz => r = .string (phT n l) /\ Below wr.heap.size wr wz) 21 rfl rfl (by rfl) (by kernel_rfl) ?hrun1 (hpt.mono fun e w6 ⟨he, hb⟩ => ⟨_, he, rfl, below_of_drew hb⟩) ?_
    case hrun1 => simp [execOp, go_sem]
    clear hpt
    rintro r3 W4 ⟨rfl, hb⟩
    replace HKr := mB HKr hb; replace HRr := mB HRr hb; replace HB2 := mT HB2 hb
    clear hb hHeld HD2
    obtain ⟨y0, y1, y2, y3, y4⟩ := five (u_ HKr)
    have hHeld : W4.cell? ⟨w.heap.size, 0, none⟩ = some (.int .i64 n.op) /\ W4.cell? ⟨w.heap.size, 1, none⟩ = some (.int .i64 n.v.k) /\ W4.cell? ⟨w.heap.size, 2, none⟩ = some (.int .i64 n.v.n) /\ W4.cell? ⟨w.heap.size, 3, none⟩ = some (.string n.v.s) /\ W4.cell? ⟨w.heap.size, 4, none⟩ = some (.string n.nm) := ⟨y0, y1, y2, y3, y4⟩
    clear y0 y1 y2 y3 y4
    refine ⟨hHeld, ?_⟩
    simp only [s1', s2', s3']
    refine callY (i := 5) (f := 214) (args := #[.int .i64 n.op]) (R := fun r wz => r = .int .i64 (lvl n.op) /\ wz = W4) 24 rfl rfl (by rfl) (by kernel_rfl) ?hrun2 ((levelOf_any _ _).mono fun e w6 ⟨he, hb⟩ => ⟨_, he, rfl, hb⟩) ?_
    case hrun2 => simp [execOp, go_sem]
    rintro r3 W5 ⟨rfl, hw⟩
    replace hw := hw.symm; subst hw
    refine ⟨hHeld, ?_⟩
    simp only [s1', s2', s3']
    obtain ⟨t, ht⟩ : ∃ t, phT n l = t := ⟨_, rfl⟩
    obtain ⟨lv, hlv⟩ : ∃ lv, lvl n.op = lv := ⟨_, rfl⟩
    have HE : Hid (phr n l = ⟨t, lv, q + 1⟩) := h_ (by rw [<- ht, <- hlv, <- u_ HQ]; rfl)
    rw [ht, hlv]
    clear ht hlv
    refine tk (i := 8) (v := .agg #[.string t, .int .i64 lv, .int .i64 ((q : Int) + 1)]) 27 hHeld ?_
    simp only [s1', s2', s3']
    obtain ⟨r0, r1, r2⟩ := three (u_ HRr)
    have f0 := (u_ HRr).free 0; have f1 := (u_ HRr).free 1; have f2 := (u_ HRr).free 2
    have far : ∀ (w' : World) (j i : Nat) (u : Value), (w'.setCell ⟨w.heap.size + 1, j, none⟩ u).cell? ⟨w.heap.size, i, none⟩ = w'.cell? ⟨w.heap.size, i, none⟩ := fun w' j i u => World.cell?_of_block (w := w') (heap_setCell_other w' ⟨w.heap.size + 1, j, none⟩ w.heap.size u (by simp))
    refine storeY (i := 9) (w' := ((W4.setCell ⟨w.heap.size + 1, 0, none⟩ (.string t)).setCell ⟨w.heap.size + 1, 1, none⟩ (.int .i64 lv)).setCell ⟨w.heap.size + 1, 2, none⟩ (.int .i64 ((q : Int) + 1))) rfl (by rfl) (by kernel_rfl) rfl ?hrunS rfl ⟨by rw [far, far, far]; exact hHeld.1, by rw [far, far, far]; exact hHeld.2.1, by rw [far, far, far]; exact hHeld.2.2.1, by rw [far, far, far]; exact hHeld.2.2.2.1, by rw [far, far, far]; exact hHeld.2.2.2.2⟩ ?_
    case hrunS => simp [execOp, go_sem, r0, r1, r2, f0, f1, f2]
    refine wpAnyH_done (by kernel_rfl) ?_ _
    have bR9 := ((((u_ HRr).set 0 (.string t)).set 1 (.int .i64 lv)).set 2 (.int .i64 ((q : Int) + 1)))
    have HB9 := h_ ((((u_ HB2).setCell (show w.heap.size <= (⟨w.heap.size + 1, 0, none⟩ : Addr).block by simp) (.string t)).setCell (show w.heap.size <= (⟨w.heap.size + 1, 1, none⟩ : Addr).block by simp) (.int .i64 lv)).setCell (show w.heap.size <= (⟨w.heap.size + 1, 2, none⟩ : Addr).block by simp) (.int .i64 ((q : Int) + 1)))
    obtain ⟨W9, hW9⟩ : ∃ W9, ((W4.setCell ⟨w.heap.size + 1, 0, none⟩ (.string t)).setCell ⟨w.heap.size + 1, 1, none⟩ (.int .i64 lv)).setCell ⟨w.heap.size + 1, 2, none⟩ (.int .i64 ((q : Int) + 1)) = W9 := ⟨_, rfl⟩
    rw [hW9] at bR9 HB9 ⊢
    obtain ⟨k0, k1, k2⟩ := three bR9
    clear hW9 bR9 r0 r1 r2 f0 f1 f2 far hHeld
    go_wp2
    exact bodyPost_ret (v := .agg #[.string t, .int .i64 lv, .int .i64 ((q : Int) + 1)]) (by simp [results, Tryz.results205, go_sem, *]) rfl ⟨by rw [u_ HE]; rfl, u_ HB9⟩
end Go.Proofs.YtalgidagiojbpaaGreatDoor
