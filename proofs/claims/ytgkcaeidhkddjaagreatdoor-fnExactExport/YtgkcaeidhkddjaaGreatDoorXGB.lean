import Derived.Test.YtgkcaeidhkddjaaGreatDoorXGA
set_option maxRecDepth 100000
set_option maxHeartbeats 20000000
namespace Go.Proofs.YtgkcaeidhkddjaaGreatDoor
open Go Go.RowKit
def Wrds (w:World):Prop:=5<w.heap.size/\∀ k,k<26->w.cell? ⟨5,k,none⟩=some (.string (wrdT.getD k ⟨#[]⟩))
theorem Wrds.mono {w w':World} (h:Wrds w) (hb:Below w.heap.size w w'):Wrds w':=⟨Nat.lt_of_lt_of_le h.1 hb.size,fun k hk=>(hb.cell h.1).trans (h.2 k hk)⟩
theorem Wrds.at {w:World} (h:Wrds w) {op:Int} (h0:0<=op) (h1:op<=25):w.cell? ⟨5,op.toNat,none⟩=some (.string (wrd op)):=h.2 op.toNat (by omega)
theorem qj9 (op:Int):1<=lvl op/\lvl op<=7:=by
 unfold lvl
 (repeat' split) <;> omega
theorem qc2 {n:Nx} (h:okNode n=true):0<=n.op/\n.op<=25:=by
 rcases ops2 n.op with h0 | h0 | ⟨h0,h1⟩
 . omega
 . omega
 . rw [okNode2 h0 h1] at h
   simp only [Bool.and_eq_true,decide_eq_true_eq] at h
   omega
theorem q21 (n:Nx) (a:Option Addr) (c:Nat) (l:List Ph) (w:World) (hok:okNode n=true) (hf:Fit n) (hl:l.length=arn n) (ha:Phs w a l) (hs:tot l<=2000000) (hw:Wrds w) (hp:Pow w) :
 Calls Tryz.prog 239 #[nv n,.slice a (arn n) c] w fun r w'=>r=.returned (.string (phT n l))/\Below w.heap.size w w':=by
 unfold nv
 obtain ⟨hop0,hop25⟩:=qc2 hok
 obtain ⟨W0,hW0⟩:∃ W0,w.alloc (.cells #[.int .i64 n.op,.int .i64 n.v.k,.int .i64 n.v.n,.string n.v.s,.string n.nm] 200)=W0:=⟨_,rfl⟩
 have HK:=h_ (Blk.new w 200 #[.int .i64 n.op,.int .i64 n.v.k,.int .i64 n.v.n,.string n.v.s,.string n.nm])
 have HB:=h_ ((bR w.heap.size w).alloc (nR _) (.cells #[.int .i64 n.op,.int .i64 n.v.k,.int .i64 n.v.n,.string n.v.s,.string n.nm] 200))
 rw [hW0] at HK HB
 have HA:=h_ (ha.mono (u_ HB));have HP:=h_ (hp.mono (u_ HB))
 have hwc:=(hw.mono (u_ HB)).at hop0 hop25
 have HT:Hid (phT n l=phT n l):=h_ rfl
 obtain ⟨t,ht⟩:∃ t,phT n l=t:=⟨_,rfl⟩
 rw [ht]
 have HX:=h_ ht
 obtain ⟨y0,y1,y2,y3,y4⟩:=five (u_ HK)
 have HL:=h_ hl;have HS:=h_ hs
 clear ha hw hp HT ht hl hs
 go_enter Tryz.func239,Tryz.ntmps239
 go_wp2_with fail
 try rw [hW0]
 clear hW0
 have hopn:((n.op.toNat:Nat):Int)=n.op:=by omega
 refine wp_region_held_drew (S:=fun w'=>w'.cell? ⟨w.heap.size,0,none⟩=some (.int .i64 n.op)/\w'.cell? ⟨5,n.op.toNat,none⟩=some (.string (wrd n.op))) (by kernel_rfl) ⟨y0,hwc⟩ (fun zz=>?_)
 clear y0 y1 y2 y3 y4 hwc
 refine tk 0 8 (.pointer (some ⟨w.heap.size,0,none⟩)) zz ?_
 refine tk 1 9 (.int .i64 n.op) zz ?_
 refine tk 3 11 (.pointer (some ⟨w.heap.size,0,none⟩)) zz ?_
 refine tk 4 12 (.int .i64 n.op) zz ?_
 simp only [sX,sY,sZ]
 refine tk 5 13 (.pointer (some ⟨5,n.op.toNat,none⟩)) zz ?_ (hy:=fun w hS=>by simp [execOp,go_sem, *];intro h;omega)
 refine tk 6 14 (.string (wrd n.op)) zz ?_
 simp only [sX,sY,sZ]
 refine callY (i:=2) (f:=240) (args:=#[.int .i64 n.op]) (R:=fun r wz=>r=.int .i64 (lvl n.op)/\wz=W0.drew) 10 rfl rfl (by rfl) (by kernel_rfl) ?hrun0 ((q5w _ _).mono fun e w6 ⟨he,hb⟩=>⟨_,he,rfl,hb⟩) ?_
 case hrun0=>simp [execOp,go_sem]
 rintro r3 w3 ⟨rfl,hw⟩
 subst hw
 refine ⟨zz,?_⟩
 simp only [sX,sY,sZ]
 refine tk 7 5 (.int .i64 (lvl n.op)) zz ?_
 refine tk 8 6 (.string (wrd n.op)) zz ?_
 simp only [sX,sY,sZ]
 refine wpAnyH_done (by kernel_rfl) ?_ _
 clear zz hopn
 have HD:Hid (Below W0.heap.size W0 W0.drew):=h_ ((bR _ _).drew)
 replace HB:=h_ ((u_ HB).trans ((u_ HD).mono (u_ HB).size));replace HK:=h_ ((u_ HK).mono (u_ HD) (u_ HK).lt);replace HA:=h_ ((u_ HA).mono (u_ HD));replace HP:=h_ ((u_ HP).mono (u_ HD))
 clear HD
 obtain ⟨W1,hW1⟩:∃ W1,W0.drew=W1:=⟨_,rfl⟩
 rw [hW1] at HB HK HA HP ⊢
 clear hW1
 obtain ⟨W0,hW0⟩:∃ W0,W0=W1:=⟨_,rfl⟩
 subst hW0
 obtain ⟨y0,y1,y2,y3,y4⟩:=five (u_ HK)
 rcases ops2 n.op with h | h | ⟨h,h'⟩
 . have HY:Hid (showB n.v.k n.v.n n.v.s=t):=h_ (by rw [<- u_ HX,phT,if_pos h])
   rw [h] at y0
   go_wp2_with fail
   refine (q3q _ _ _ _ hf.1 hf.2.2.1 hf.2.2.2 (u_ HP)).mono ?_
   rintro r w2 ⟨rfl,hb⟩
   replace HB:=mT HB hb
   clear hb
   go_wp2_with fail
   go_ret
   exact ⟨qka (u_ HY),u_ HB⟩
 . have HY:Hid (n.nm=t):=h_ (by rw [<- u_ HX,phT,if_neg (by omega),if_pos h])
   rw [h] at y0
   go_wp2_with fail
   go_ret
   exact ⟨qka (u_ HY),u_ HB⟩
 have n0:(n.op == 0)=false:=beq_eq_false_iff_ne.2 h
 have n1:(n.op == 1)=false:=beq_eq_false_iff_ne.2 h'
 have hop:2<=n.op:=by omega
 have hwsz:=qh3 hop hop25
 have hfa:=hf
 clear hf hfa
 by_cases h2:n.op=2
 . have e1:arn n=1:=by unfold arn;rw [ar_one (.inl h2)];rfl
   rw [e1] at HL ⊢
   obtain ⟨x,rfl⟩:=list1 (u_ HL)
   have HY:Hid (⟨#[45]⟩++wrap 6 x=t):=h_ (by rw [<- u_ HX,phT,if_neg h,if_neg h',if_pos h2];rfl)
   obtain ⟨b1,o1,rfl,-,c0,c1,c2⟩:=u_ HA 0 (by simp)
   simp only [List.getElem_cons_zero,Nat.zero_mul,Nat.add_zero] at c0 c1 c2
   have hsx:x.t.size<=2000000:=by have:=u_ HS;simp only [tot] at this;omega
   have hws:=qdn 6 x
   rw [h2] at y0
   rw [show wrd n.op=⟨#[45]⟩ by rw [h2];rfl,show lvl n.op=6 by rw [h2];rfl]
   clear n0 n1 hop h h' h2 hwsz
   go_wp2_with fail
   refine (q4q x 6 _ hsx).mono ?_
   rintro r w2 ⟨rfl,hb⟩
   replace HB:=mT HB hb
   generalize wrap 6 x=q at *
   clear hb
   go_wp2_with fail
   go_ret
   exact ⟨qka (u_ HY),u_ HB⟩
 by_cases h3:n.op=3
 . have e1:arn n=1:=by unfold arn;rw [ar_one (.inr h3)];rfl
   rw [e1] at HL ⊢
   obtain ⟨x,rfl⟩:=list1 (u_ HL)
   have HY:Hid (⟨#[110,111,116,32]⟩++wrap 6 x=t):=h_ (by rw [<- u_ HX,phT,if_neg h,if_neg h',if_neg h2,if_pos h3];rfl)
   obtain ⟨b1,o1,rfl,-,c0,c1,c2⟩:=u_ HA 0 (by simp)
   simp only [List.getElem_cons_zero,Nat.zero_mul,Nat.add_zero] at c0 c1 c2
   have hsx:x.t.size<=2000000:=by have:=u_ HS;simp only [tot] at this;omega
   have hws:=qdn 6 x
   rw [h3] at y0
   rw [show wrd n.op=⟨#[110,111,116]⟩ by rw [h3];rfl,show lvl n.op=6 by rw [h3];rfl]
   clear n0 n1 hop h h' h2 h3 hwsz
   go_wp2_with fail
   refine (q4q x 6 _ hsx).mono ?_
   rintro r w2 ⟨rfl,hb⟩
   replace HB:=mT HB hb
   generalize wrap 6 x=q at *
   clear hb
   go_wp2_with fail
   go_ret
   exact ⟨qka (u_ HY),u_ HB⟩
 have n2:(n.op == 2)=false:=beq_eq_false_iff_ne.2 h2
 have n3:(n.op == 3)=false:=beq_eq_false_iff_ne.2 h3
 by_cases h7:lvl n.op=7
 . have HY:Hid (wrd n.op++⟨#[40]⟩++jn (l.map (·.t))++⟨#[41]⟩=t):=h_ (by rw [<- u_ HX,phT,if_neg h,if_neg h',if_neg h2,if_neg h3,if_pos h7])
   have har:=arn_le n
   have har1:1<=arn n:=by
    have:=qdq n
    have e:=ar_opn n.op
    rw [if_pos (by omega)] at e
    have:1<=opn n.op:=by unfold opn;(repeat' split) <;> omega
    omega
   have hjs:=qiu l
   have hst:=u_ HS
   rw [u_ HL] at hjs
   rw [h7]
   clear h h' h2 h3 h7
   generalize wrd n.op=wd at *
   go_wp2_with fail
   refine (show Calls Tryz.prog 242 #[.slice a (arn n) c] W0 fun r w'=>r=.returned (.string (jn (l.map (·.t))))/\Below W0.heap.size W0 w' from ?_).mono ?_
   . rw [<- u_ HL];exact q8n a c l W0 (by have:=u_ HL;omega) (by have:=u_ HL;omega) (u_ HA) (u_ HS)
   rintro r w2 ⟨rfl,hb⟩
   replace HB:=mT HB hb
   clear hb
   generalize jn (l.map (·.t))=q at *
   have hA:(wd++(⟨#[40]⟩:ByteArray)).size=wd.size+1:=by rw [ByteArray.size_append];rfl
   have hA2:(wd++(⟨#[40]⟩:ByteArray)++q).size=wd.size+1+q.size:=by rw [ByteArray.size_append,hA]
   go_wp2_with fail
   go_ret
   exact ⟨qka (u_ HY),u_ HB⟩
 . have e2:arn n=2:=by unfold arn;rw [ar_two hop hop25 h7 h2 h3];rfl
   rw [e2] at HL ⊢
   obtain ⟨x,y,rfl⟩:=list2 (u_ HL)
   have HY:Hid (wrap (lft n.op) x++⟨#[32]⟩++wrd n.op++⟨#[32]⟩++wrap (lvl n.op+1) y=t):=h_ (by rw [<- u_ HX,phT,if_neg h,if_neg h',if_neg h2,if_neg h3,if_neg h7];rfl)
   have hg0:=u_ HA 0 (by simp)
   have hg1:=u_ HA 1 (by simp)
   obtain ⟨b1,o1,rfl,hc0⟩:=hg0
   obtain ⟨b2,o2,e12,hc1⟩:=hg1
   cases e12
   simp only [List.getElem_cons_zero,List.getElem_cons_succ,Nat.zero_mul,Nat.one_mul,Nat.add_zero] at hc0 hc1
   have HC:=h_ (And.intro hc0 hc1)
   have hsx:x.t.size+y.t.size<=2000000:=by have:=u_ HS;simp only [tot] at this;omega
   have hlv:=qj9 n.op
   have HLf:Hid (lft n.op=if lvl n.op=3 then 4 else lvl n.op):=h_ rfl
   obtain ⟨lv,hlve⟩:∃ lv,lvl n.op=lv:=⟨_,rfl⟩
   obtain ⟨lf,hlfe⟩:∃ lf,lft n.op=lf:=⟨_,rfl⟩
   rw [hlve] at HY HLf h7 hlv ⊢;rw [hlfe] at HY HLf
   have n7:(lv == 7)=false:=beq_eq_false_iff_ne.2 h7
   clear hlve hlfe h h' h2 h3
   by_cases h3:lv=3
   . have hl4:lf=4:=by rw [u_ HLf,if_pos h3]
     subst h3 hl4
     simp only [show (3:Int)+1=4 from rfl] at HY
     clear HLf n7 h7 hlv
     go_wp2_with fail
     refine wp_region_held_drew (S:=fun w'=>PCel w' b1 o1 x/\PCel w' b1 (o1+3) y) (by kernel_rfl) ⟨hc0,hc1⟩ (fun zz=>?_)
     refine tk 0 65 (.slice (some ⟨b1,o1,none⟩) 2 c) zz ?_
     refine tk 1 66 (.pointer (some ⟨b1,o1,none⟩)) zz ?_
     refine tk 2 67 (.agg #[.string x.t,.int .i64 x.lv,.int .i64 x.d]) zz ?_ (hy:=fun w hS=>by obtain ⟨⟨-,q0,q1,q2⟩,-,q3,q4,q5⟩:=hS;simp [execOp,go_sem,q0,q1,q2])
     refine tk 3 68 (.int .i64 4) zz ?_
     simp only [sX,sY,sZ]
     refine tk 6 71 (.string (wrd n.op)) zz ?_
     refine tk 9 74 (.slice (some ⟨b1,o1,none⟩) 2 c) zz ?_
     refine tk 10 75 (.pointer (some ⟨b1,o1+3,none⟩)) zz ?_
     refine tk 11 76 (.agg #[.string y.t,.int .i64 y.lv,.int .i64 y.d]) zz ?_ (hy:=fun w hS=>by obtain ⟨⟨-,q0,q1,q2⟩,-,q3,q4,q5⟩:=hS;simp [execOp,go_sem,q3,q4,q5])
     simp only [sX,sY,sZ]
     refine tk 12 77 (.int .i64 3) zz ?_
     refine tk 13 78 (.int .i64 4) zz ?_ (hy:=fun w hS=>by simp [execOp,go_sem, *];rfl)
     simp only [sX,sY,sZ]
     refine callY (i:=4) (f:=241) (args:=#[.agg #[.string x.t,.int .i64 x.lv,.int .i64 x.d],.int .i64 4]) (R:=fun r wz=>r=.string (wrap 4 x)/\Below W0.heap.size W0 wz) 69 rfl rfl (by rfl) (by kernel_rfl) ?hrun1 ((q4q x 4 _ (by omega)).mono fun e w6 ⟨he,hb⟩=>⟨_,he,rfl,q26 hb⟩) ?_
     case hrun1=>simp [execOp,go_sem]
     rintro r3 W4 ⟨rfl,hb⟩
     replace HB:=mT HB hb
     replace zz:PCel W4 b1 o1 x/\PCel W4 b1 (o1+3) y:=⟨(u_ HC).1.mono hb,(u_ HC).2.mono hb⟩
     clear hb hc0 hc1
     refine ⟨zz,?_⟩
     simp only [sX,sY,sZ]
     have ht1:=qdn 4 x
     have ht2:=qdn 4 y
     obtain ⟨t1,ht1e⟩:∃ t1,wrap 4 x=t1:=⟨_,rfl⟩
     rw [ht1e] at HY ht1 ⊢
     clear ht1e
     have hA:(t1++(⟨#[32]⟩:ByteArray)).size=t1.size+1:=by rw [ByteArray.size_append];rfl
     obtain ⟨wd,hwde⟩:∃ wd,wrd n.op=wd:=⟨_,rfl⟩
     rw [hwde] at HY hwsz ⊢
     clear hwde
     refine tk 5 70 (.string (t1++⟨#[32]⟩)) zz ?_ (hy:=fun w hS=>by have:=run_string_add_sum (P:=Tryz.prog) w t1 ⟨#[32]⟩ (by show t1.size+1<=_;omega);simp [execOp,go_sem,this])
     simp only [sX,sY,sZ]
     have hA2:(t1++(⟨#[32]⟩:ByteArray)++wd).size=t1.size+1+wd.size:=by rw [ByteArray.size_append,hA]
     refine tk 7 72 (.string (t1++⟨#[32]⟩++wd)) zz ?_ (hy:=fun w hS=>by have:=run_string_add_sum (P:=Tryz.prog) w (t1++⟨#[32]⟩) wd (by omega);simp [execOp,go_sem,this])
     simp only [sX,sY,sZ]
     have hA3:(t1++(⟨#[32]⟩:ByteArray)++wd++⟨#[32]⟩).size=t1.size+1+wd.size+1:=by rw [ByteArray.size_append,hA2];rfl
     refine tk 8 73 (.string (t1++⟨#[32]⟩++wd++⟨#[32]⟩)) zz ?_ (hy:=fun w hS=>by have:=run_string_add_sum (P:=Tryz.prog) w (t1++⟨#[32]⟩++wd) ⟨#[32]⟩ (by rw [hA2];show t1.size+1+wd.size+1<=_;omega);simp [execOp,go_sem,this])
     simp only [sX,sY,sZ]
     refine callY (i:=14) (f:=241) (args:=#[.agg #[.string y.t,.int .i64 y.lv,.int .i64 y.d],.int .i64 4]) (R:=fun r wz=>r=.string (wrap 4 y)/\Below W4.heap.size W4 wz) 79 rfl rfl (by rfl) (by kernel_rfl) ?hrun2 ((q4q y 4 _ (by omega)).mono fun e w6 ⟨he,hb⟩=>⟨_,he,rfl,hb⟩) ?_
     case hrun2=>simp [execOp,go_sem]
     rintro r3 W5 ⟨rfl,hb⟩
     replace HB:=mT HB hb
     replace zz:PCel W5 b1 o1 x/\PCel W5 b1 (o1+3) y:=⟨zz.1.mono hb,zz.2.mono hb⟩
     clear hb
     refine ⟨zz,?_⟩
     simp only [sX,sY,sZ]
     obtain ⟨t2,ht2e⟩:∃ t2,wrap 4 y=t2:=⟨_,rfl⟩
     rw [ht2e] at HY ht2 ⊢
     clear ht2e
     obtain ⟨u3,hu3⟩:∃ u3,t1++(⟨#[32]⟩:ByteArray)++wd++⟨#[32]⟩=u3:=⟨_,rfl⟩
     rw [hu3] at HY hA3 ⊢
     clear hu3 hA hA2
     refine tk 15 80 (.string (u3++t2)) zz ?_ (hy:=fun w hS=>by have:=run_string_add_sum (P:=Tryz.prog) w u3 t2 (by omega);simp [execOp,go_sem,this])
     refine tk 16 4 (.string (u3++t2)) zz ?_
     simp only [sX,sY,sZ]
     refine wpAnyH_done (by kernel_rfl) ?_ _
     clear zz
     go_wp2
     go_ret
     exact ⟨qka (u_ HY),u_ HB⟩
   . have hl4:lf=lv:=by rw [u_ HLf,if_neg h3]
     subst hl4
     have n3':(lf == 3)=false:=beq_eq_false_iff_ne.2 h3
     clear HLf h7 h3
     go_wp2_with fail
     refine wp_region_held_drew (S:=fun w'=>PCel w' b1 o1 x/\PCel w' b1 (o1+3) y) (by kernel_rfl) ⟨hc0,hc1⟩ (fun zz=>?_)
     refine tk 0 65 (.slice (some ⟨b1,o1,none⟩) 2 c) zz ?_
     refine tk 1 66 (.pointer (some ⟨b1,o1,none⟩)) zz ?_
     refine tk 2 67 (.agg #[.string x.t,.int .i64 x.lv,.int .i64 x.d]) zz ?_ (hy:=fun w hS=>by obtain ⟨⟨-,q0,q1,q2⟩,-,q3,q4,q5⟩:=hS;simp [execOp,go_sem,q0,q1,q2])
     refine tk 3 68 (.int .i64 lf) zz ?_
     simp only [sX,sY,sZ]
     refine tk 6 71 (.string (wrd n.op)) zz ?_
     refine tk 9 74 (.slice (some ⟨b1,o1,none⟩) 2 c) zz ?_
     refine tk 10 75 (.pointer (some ⟨b1,o1+3,none⟩)) zz ?_
     refine tk 11 76 (.agg #[.string y.t,.int .i64 y.lv,.int .i64 y.d]) zz ?_ (hy:=fun w hS=>by obtain ⟨⟨-,q0,q1,q2⟩,-,q3,q4,q5⟩:=hS;simp [execOp,go_sem,q3,q4,q5])
     simp only [sX,sY,sZ]
     refine tk 12 77 (.int .i64 lf) zz ?_
     refine tk 13 78 (.int .i64 (lf+1)) zz ?_ (hy:=fun w hS=>by simp [execOp,go_sem, *];rw [IntKind.wrap_i64];omega)
     simp only [sX,sY,sZ]
     refine callY (i:=4) (f:=241) (args:=#[.agg #[.string x.t,.int .i64 x.lv,.int .i64 x.d],.int .i64 lf]) (R:=fun r wz=>r=.string (wrap lf x)/\Below W0.heap.size W0 wz) 69 rfl rfl (by rfl) (by kernel_rfl) ?hrun1 ((q4q x lf _ (by omega)).mono fun e w6 ⟨he,hb⟩=>⟨_,he,rfl,q26 hb⟩) ?_
     case hrun1=>simp [execOp,go_sem]
     rintro r3 W4 ⟨rfl,hb⟩
     replace HB:=mT HB hb
     replace zz:PCel W4 b1 o1 x/\PCel W4 b1 (o1+3) y:=⟨(u_ HC).1.mono hb,(u_ HC).2.mono hb⟩
     clear hb hc0 hc1
     refine ⟨zz,?_⟩
     simp only [sX,sY,sZ]
     have ht1:=qdn lf x
     have ht2:=qdn (lf+1) y
     obtain ⟨t1,ht1e⟩:∃ t1,wrap lf x=t1:=⟨_,rfl⟩
     rw [ht1e] at HY ht1 ⊢
     clear ht1e
     have hA:(t1++(⟨#[32]⟩:ByteArray)).size=t1.size+1:=by rw [ByteArray.size_append];rfl
     obtain ⟨wd,hwde⟩:∃ wd,wrd n.op=wd:=⟨_,rfl⟩
     rw [hwde] at HY hwsz ⊢
     clear hwde
     refine tk 5 70 (.string (t1++⟨#[32]⟩)) zz ?_ (hy:=fun w hS=>by have:=run_string_add_sum (P:=Tryz.prog) w t1 ⟨#[32]⟩ (by show t1.size+1<=_;omega);simp [execOp,go_sem,this])
     simp only [sX,sY,sZ]
     have hA2:(t1++(⟨#[32]⟩:ByteArray)++wd).size=t1.size+1+wd.size:=by rw [ByteArray.size_append,hA]
     refine tk 7 72 (.string (t1++⟨#[32]⟩++wd)) zz ?_ (hy:=fun w hS=>by have:=run_string_add_sum (P:=Tryz.prog) w (t1++⟨#[32]⟩) wd (by omega);simp [execOp,go_sem,this])
     simp only [sX,sY,sZ]
     have hA3:(t1++(⟨#[32]⟩:ByteArray)++wd++⟨#[32]⟩).size=t1.size+1+wd.size+1:=by rw [ByteArray.size_append,hA2];rfl
     refine tk 8 73 (.string (t1++⟨#[32]⟩++wd++⟨#[32]⟩)) zz ?_ (hy:=fun w hS=>by have:=run_string_add_sum (P:=Tryz.prog) w (t1++⟨#[32]⟩++wd) ⟨#[32]⟩ (by rw [hA2];show t1.size+1+wd.size+1<=_;omega);simp [execOp,go_sem,this])
     simp only [sX,sY,sZ]
     refine callY (i:=14) (f:=241) (args:=#[.agg #[.string y.t,.int .i64 y.lv,.int .i64 y.d],.int .i64 (lf+1)]) (R:=fun r wz=>r=.string (wrap (lf+1) y)/\Below W4.heap.size W4 wz) 79 rfl rfl (by rfl) (by kernel_rfl) ?hrun2 ((q4q y (lf+1) _ (by omega)).mono fun e w6 ⟨he,hb⟩=>⟨_,he,rfl,hb⟩) ?_
     case hrun2=>simp [execOp,go_sem]
     rintro r3 W5 ⟨rfl,hb⟩
     replace HB:=mT HB hb
     replace zz:PCel W5 b1 o1 x/\PCel W5 b1 (o1+3) y:=⟨zz.1.mono hb,zz.2.mono hb⟩
     clear hb
     refine ⟨zz,?_⟩
     simp only [sX,sY,sZ]
     obtain ⟨t2,ht2e⟩:∃ t2,wrap (lf+1) y=t2:=⟨_,rfl⟩
     rw [ht2e] at HY ht2 ⊢
     clear ht2e
     obtain ⟨u3,hu3⟩:∃ u3,t1++(⟨#[32]⟩:ByteArray)++wd++⟨#[32]⟩=u3:=⟨_,rfl⟩
     rw [hu3] at HY hA3 ⊢
     clear hu3 hA hA2
     refine tk 15 80 (.string (u3++t2)) zz ?_ (hy:=fun w hS=>by have:=run_string_add_sum (P:=Tryz.prog) w u3 t2 (by omega);simp [execOp,go_sem,this])
     refine tk 16 4 (.string (u3++t2)) zz ?_
     simp only [sX,sY,sZ]
     refine wpAnyH_done (by kernel_rfl) ?_ _
     clear zz
     go_wp2
     go_ret
     exact ⟨qka (u_ HY),u_ HB⟩
theorem q43 (l:List Ph) (k:Nat) (h:k<l.length):mx (l.take (k+1))=max (mx (l.take k)) l[k].d:=by
 rw [List.take_succ_eq_append_getElem h,qc0];simp [mx]
theorem q46 (n:Nx) (a:Option Addr) (c:Nat) (l:List Ph) (w:World) (hok:okNode n=true) (hf:Fit n) (hl:l.length=arn n) (ha:Phs w a l) (hs:tot l<=2000000) (hd:mx l<=1000) (hw:Wrds w) (hp:Pow w) :
 Calls Tryz.prog 234 #[nv n,.slice a (arn n) c] w fun r w'=>r=.returned (pv (phr n l))/\Below w.heap.size w w':=by
 unfold nv
 have HK:=h_ ((Blk.new w 200 #[.int .i64 n.op,.int .i64 n.v.k,.int .i64 n.v.n,.string n.v.s,.string n.nm]).alloc (.cells #[.string ⟨#[]⟩,.int .i64 0,.int .i64 0] 285))
 have HR:=h_ (Blk.new (w.alloc (.cells #[.int .i64 n.op,.int .i64 n.v.k,.int .i64 n.v.n,.string n.v.s,.string n.nm] 200)) 285 #[.string ⟨#[]⟩,.int .i64 0,.int .i64 0])
 have HB:=h_ (((bR w.heap.size w).alloc (nR _) (.cells #[.int .i64 n.op,.int .i64 n.v.k,.int .i64 n.v.n,.string n.v.s,.string n.nm] 200)).alloc (by simp) (.cells #[.string ⟨#[]⟩,.int .i64 0,.int .i64 0] 285))
 rw [World.size_alloc] at HR
 obtain ⟨W0,hW0⟩:∃ W0,(w.alloc (.cells #[.int .i64 n.op,.int .i64 n.v.k,.int .i64 n.v.n,.string n.v.s,.string n.nm] 200)).alloc (.cells #[.string ⟨#[]⟩,.int .i64 0,.int .i64 0] 285)=W0:=⟨_,rfl⟩
 rw [hW0] at HK HB HR
 have HA:=h_ (ha.mono (u_ HB));have HP:=h_ (hp.mono (u_ HB));have HW:=h_ (hw.mono (u_ HB))
 have HL:=h_ hl;have HS:=h_ hs;have HD:=h_ hd;have HF:=h_ hf;have HO:=h_ hok
 have har:=arn_le n
 obtain ⟨m,hm⟩:∃ m,arn n=m:=⟨_,rfl⟩
 rw [hm] at har HL ⊢
 have HM:=h_ hm
 have HX:Hid (∀ k,k<=m->mx (l.take k)<=1000):=h_ fun k _=>by
  have:mx l=max (mx (l.take k)) (mx (l.drop k)):=by rw [<- qc0,List.take_append_drop]
  have:=u_ HD
  omega
 clear ha hw hp hl hs hd hf hok hm
 go_enter Tryz.func234,Tryz.ntmps234
 go_wp2_with fail
 try rw [hW0]
 clear hW0
 go_loopw [5,7,10] (fun dp _ i wr=>∃ k:Nat,k<=m/\dp=.int .i64 (mx (l.take k))/\i=.int .i64 k/\Below W0.heap.size W0 wr) (fun _ _ i _=>m - (intOf i).toNat)
 case atStart=>exact ⟨0,nZ _,rfl,rfl,bR _ _⟩
 case round =>
  obtain ⟨k,hk,rfl,rfl,hb⟩:=hrel
  have HBr:=h_ hb
  have HAr:=h_ ((u_ HA).mono hb)
  have hmk:=u_ HX k hk
  clear hb
  by_cases hlt:k<m
  . have hlt':(k:Int)<m:=by omega
    have hkl:k<l.length:=by have:=u_ HL;omega
    obtain ⟨b,o,rfl,-,c0,c1,c2⟩:=u_ HAr k hkl
    have HN:Hid (mx (l.take (k+1))=max (mx (l.take k)) l[k].d):=h_ (q43 l k hkl)
    have hmk1:=u_ HX (k+1) (by omega)
    obtain ⟨p,hp⟩:∃ p,l[k]=p:=⟨_,rfl⟩
    rw [hp] at HN c0 c1 c2
    rw [u_ HN] at hmk1
    clear hp
    have HB2:=h_ ((u_ HBr).alloc (u_ HBr).size (.cells #[.string p.t,.int .i64 p.lv,.int .i64 p.d] 285))
    obtain ⟨q,hq⟩:∃ q,mx (l.take k)=q:=⟨_,rfl⟩
    rw [hq] at HN hmk hmk1 ⊢
    clear hq
    obtain ⟨d,hdd⟩:∃ d,p.d=d:=⟨_,rfl⟩
    rw [hdd] at HN hmk1 c2 HB2
    clear hdd
    go_wp2_with fail
    go_roundw
    case rel=>first | exact ⟨k+1,by omega,by rw [u_ HN];exact congrArg (Value.int .i64) (by omega),by go_num,u_ HB2⟩ | ((repeat apply Exists.intro);exact ⟨⟨k+1,by omega,by rw [u_ HN];exact congrArg (Value.int .i64) (by omega),by go_num,u_ HB2⟩,rfl⟩)
    case measure=>simp [intOf];omega
  . obtain rfl:k=m:=by omega
    have hlt':¬ (k:Int)<(k:Int):=by omega
    rw [List.take_of_length_le (by have:=u_ HL;omega)] at hmk ⊢
    have HKr:=h_ ((u_ HK).mono (u_ HBr) (u_ HK).lt);have HRr:=h_ ((u_ HR).mono (u_ HBr) (u_ HR).lt);have HPr:=h_ ((u_ HP).mono (u_ HBr));have HWr:=h_ ((u_ HW).mono (u_ HBr));have HB2:=h_ ((u_ HB).trans ((u_ HBr).mono (u_ HB).size))
    clear HK HR HP HW HB HBr HA HX
    obtain ⟨y0,y1,y2,y3,y4⟩:=five (u_ HKr)
    obtain ⟨q,hq⟩:∃ q,mx l=q:=⟨_,rfl⟩
    rw [hq] at hmk ⊢
    have HQ:=h_ hq
    clear hq
    go_wp2_with fail
    refine wp_region_held_drew (S:=fun w'=>w'.cell? ⟨w.heap.size,0,none⟩=some (.int .i64 n.op)/\w'.cell? ⟨w.heap.size,1,none⟩=some (.int .i64 n.v.k)/\w'.cell? ⟨w.heap.size,2,none⟩=some (.int .i64 n.v.n)/\w'.cell? ⟨w.heap.size,3,none⟩=some (.string n.v.s)/\w'.cell? ⟨w.heap.size,4,none⟩=some (.string n.nm)) (by kernel_rfl) ⟨y0,y1,y2,y3,y4⟩ (fun zz=>?_)
    clear y0 y1 y2 y3 y4
    refine tk 0 19 (.agg #[.int .i64 n.op,.int .i64 n.v.k,.int .i64 n.v.n,.string n.v.s,.string n.nm]) zz ?_
    refine tk 1 20 (.slice a k c) zz ?_
    refine tk 3 22 (.pointer (some ⟨w.heap.size,0,none⟩)) zz ?_
    refine tk 4 23 (.int .i64 n.op) zz ?_
    simp only [sX,sY,sZ]
    refine tk 6 25 (.int .i64 (q:Int)) zz ?_
    refine tk 7 26 (.int .i64 ((q:Int)+1)) zz ?_ (hy:=fun w hS=>by simp [execOp,go_sem, *];rw [IntKind.wrap_i64];omega)
    simp only [sX,sY,sZ]
    have HD2:Hid (Below wr.heap.size wr wr.drew):=h_ ((bR _ _).drew)
    have hpt:=q21 n a c l wr.drew (u_ HO) (u_ HF) ((u_ HL).trans (u_ HM).symm) ((u_ HAr).mono (u_ HD2)) (u_ HS) ((u_ HWr).mono (u_ HD2)) ((u_ HPr).mono (u_ HD2))
    rw [u_ HM] at hpt
    refine callY (i:=2) (f:=239) (args:=#[.agg #[.int .i64 n.op,.int .i64 n.v.k,.int .i64 n.v.n,.string n.v.s,.string n.nm],.slice a k c]) (R:=fun r wz=>r=.string (phT n l)/\Below wr.heap.size wr wz) 21 rfl rfl (by rfl) (by kernel_rfl) ?hrun1 (hpt.mono fun e w6 ⟨he,hb⟩=>⟨_,he,rfl,q26 hb⟩) ?_
    case hrun1=>simp [execOp,go_sem]
    clear hpt
    rintro r3 W4 ⟨rfl,hb⟩
    replace HKr:=mB HKr hb;replace HRr:=mB HRr hb;replace HB2:=mT HB2 hb
    clear hb zz HD2
    obtain ⟨y0,y1,y2,y3,y4⟩:=five (u_ HKr)
    have zz:W4.cell? ⟨w.heap.size,0,none⟩=some (.int .i64 n.op)/\W4.cell? ⟨w.heap.size,1,none⟩=some (.int .i64 n.v.k)/\W4.cell? ⟨w.heap.size,2,none⟩=some (.int .i64 n.v.n)/\W4.cell? ⟨w.heap.size,3,none⟩=some (.string n.v.s)/\W4.cell? ⟨w.heap.size,4,none⟩=some (.string n.nm):=⟨y0,y1,y2,y3,y4⟩
    clear y0 y1 y2 y3 y4
    refine ⟨zz,?_⟩
    simp only [sX,sY,sZ]
    refine callY (i:=5) (f:=240) (args:=#[.int .i64 n.op]) (R:=fun r wz=>r=.int .i64 (lvl n.op)/\wz=W4) 24 rfl rfl (by rfl) (by kernel_rfl) ?hrun2 ((q5w _ _).mono fun e w6 ⟨he,hb⟩=>⟨_,he,rfl,hb⟩) ?_
    case hrun2=>simp [execOp,go_sem]
    rintro r3 W5 ⟨rfl,hw⟩
    replace hw:=hw.symm;subst hw
    refine ⟨zz,?_⟩
    simp only [sX,sY,sZ]
    obtain ⟨t,ht⟩:∃ t,phT n l=t:=⟨_,rfl⟩
    obtain ⟨lv,hlv⟩:∃ lv,lvl n.op=lv:=⟨_,rfl⟩
    have HE:Hid (phr n l=⟨t,lv,q+1⟩):=h_ (by rw [<- ht,<- hlv,<- u_ HQ];rfl)
    rw [ht,hlv]
    clear ht hlv
    refine tk 8 27 (.agg #[.string t,.int .i64 lv,.int .i64 ((q:Int)+1)]) zz ?_
    simp only [sX,sY,sZ]
    obtain ⟨r0,r1,r2⟩:=three (u_ HRr)
    have f0:=(u_ HRr).free 0;have f1:=(u_ HRr).free 1;have f2:=(u_ HRr).free 2
    have far:∀ (w':World) (j i:Nat) (u:Value),(w'.setCell ⟨w.heap.size+1,j,none⟩ u).cell? ⟨w.heap.size,i,none⟩=w'.cell? ⟨w.heap.size,i,none⟩:=fun w' j i u=>World.cell?_of_block (w:=w') (heap_setCell_other w' ⟨w.heap.size+1,j,none⟩ w.heap.size u (by simp))
    refine storeY (i:=9) (w':=((W4.setCell ⟨w.heap.size+1,0,none⟩ (.string t)).setCell ⟨w.heap.size+1,1,none⟩ (.int .i64 lv)).setCell ⟨w.heap.size+1,2,none⟩ (.int .i64 ((q:Int)+1))) rfl (by rfl) (by kernel_rfl) rfl ?hrunS rfl ⟨by rw [far,far,far];exact zz.1,by rw [far,far,far];exact zz.2.1,by rw [far,far,far];exact zz.2.2.1,by rw [far,far,far];exact zz.2.2.2.1,by rw [far,far,far];exact zz.2.2.2.2⟩ ?_
    case hrunS=>simp [execOp,go_sem,r0,r1,r2,f0,f1,f2]
    refine wpAnyH_done (by kernel_rfl) ?_ _
    have bR9:=((((u_ HRr).set 0 (.string t)).set 1 (.int .i64 lv)).set 2 (.int .i64 ((q:Int)+1)))
    have HB9:=h_ ((((u_ HB2).setCell (show w.heap.size<=(⟨w.heap.size+1,0,none⟩:Addr).block by simp) (.string t)).setCell (show w.heap.size<=(⟨w.heap.size+1,1,none⟩:Addr).block by simp) (.int .i64 lv)).setCell (show w.heap.size<=(⟨w.heap.size+1,2,none⟩:Addr).block by simp) (.int .i64 ((q:Int)+1)))
    obtain ⟨W9,hW9⟩:∃ W9,((W4.setCell ⟨w.heap.size+1,0,none⟩ (.string t)).setCell ⟨w.heap.size+1,1,none⟩ (.int .i64 lv)).setCell ⟨w.heap.size+1,2,none⟩ (.int .i64 ((q:Int)+1))=W9:=⟨_,rfl⟩
    rw [hW9] at bR9 HB9 ⊢
    obtain ⟨k0,k1,k2⟩:=three bR9
    clear hW9 bR9 r0 r1 r2 f0 f1 f2 far zz
    go_wp2
    exact bodyPost_ret (v:=.agg #[.string t,.int .i64 lv,.int .i64 ((q:Int)+1)]) (by simp [results,Tryz.results234,go_sem, *]) rfl ⟨by rw [u_ HE];rfl,u_ HB9⟩
def phV (l:List Ph):List Value:=l.flatMap fun p=>[.string p.t,.int .i64 p.lv,.int .i64 p.d]
theorem qjw (l:List Ph):(phV l).length=l.length*3:=by
 induction l with
 | nil=>rfl
 | cons p r ih=>simp only [phV,List.flatMap_cons,List.length_append,List.length_cons,List.length_nil] at *;omega
theorem q93 (l r:List Ph):phV (l++r)=phV l++phV r:=by simp [phV]
theorem qjv (l:List Ph) (k:Nat) (h:k<l.length):(phV l)[k*3]? = some (.string l[k].t)/\(phV l)[k*3+1]? = some (.int .i64 l[k].lv)/\(phV l)[k*3+2]? = some (.int .i64 l[k].d):=by
 induction l generalizing k with
 | nil=>cases h
 | cons p r ih =>
  cases k with
  | zero=>exact ⟨rfl,rfl,rfl⟩
  | succ k =>
   have:=ih k (by simpa using h)
   rw [show (k+1)*3=k*3+1+1+1 by omega]
   simpa [phV] using this
theorem qfk (l:List Ph) (k:Nat):(phV l).take (k*3)=phV (l.take k):=by
 induction l generalizing k with
 | nil=>simp [phV]
 | cons p r ih =>
  cases k with
  | zero=>simp [phV]
  | succ k =>
   rw [show (k+1)*3=k*3+1+1+1 by omega]
   have:=ih k
   simp only [phV,List.flatMap_cons,List.take_succ_cons] at *
   simp [this]
theorem qil:(Tryz.prog.info? 285).map (fun i=>(i.zero,i.size,i.bytes))=some (some (.agg #[.string ⟨#[]⟩,.int .i64 0,.int .i64 0]),3,32):=by kernel_rfl
def StkV (w:World) (B:Nat) (v:Value) (l:List Ph):Prop:=w.ownsRow B 285 3 v l.length (phV l)
theorem StkV.shape {w:World} {B:Nat} {v:Value} {l:List Ph} (h:StkV w B v l):∃ a cap,v=.slice a l.length cap/\l.length<=cap/\(a=none->l=[]/\cap=0)/\(∀ g o f,a=some ⟨g,o,f⟩->o=0/\f=none/\B<=g/\g<w.heap.size):=by
 rcases h.2 with ⟨rfl,h0⟩ | ⟨g,cap,cur,rfl,hb,hg,hc,-,hs,htake⟩
 . exact ⟨none,0,by rw [h0],by omega,fun _=>⟨List.length_eq_zero_iff.1 h0,rfl⟩,fun _ _ _ h=>by cases h⟩
 . exact ⟨_,cap,rfl,hc,fun h=>(by cases h),fun g' o f h=>by cases h;exact ⟨rfl,rfl,hb,(Array.getElem?_eq_some_iff.1 hg).1⟩⟩
theorem StkV.cell {w:World} {B:Nat} {g cap:Nat} {l:List Ph} (h:StkV w B (.slice (some ⟨g,0,none⟩) l.length cap) l) (j:Nat) (hj:j<l.length*3):w.cell? ⟨g,j,none⟩=(phV l)[j]?:=World.ownsRow.cellAt (show w.ownsRow B 285 3 _ _ _ from h) j hj
theorem StkV.from {w:World} {B:Nat} {a:Option Addr} {cap:Nat} {l:List Ph} (h:StkV w B (.slice a l.length cap) l) (r:Nat) (hr:r<=l.length) :
 Phs w (if cap=r then a else a.map (·.add (r*3))) (l.drop r):=by
 intro k hk
 rw [List.length_drop] at hk
 obtain ⟨a',cap',e,hc,hn,hs⟩:=h.shape
 simp only [Value.slice.injEq,true_and] at e
 obtain ⟨rfl,rfl⟩:=e
 cases a with
 | none=>obtain ⟨rfl,-⟩:=hn rfl;simp at hk
 | some ad =>
  obtain ⟨g,o,f⟩:=ad
  obtain ⟨rfl,rfl,-,hlt⟩:=hs g o f rfl
  rw [if_neg (by omega)]
  refine ⟨g,r*3,by simp [Addr.add];omega,?_⟩
  have hg:=qjv l (r+k) (by omega)
  rw [List.getElem_drop]
  exact ⟨hlt,by rw [<- Nat.add_mul,h.cell _ (by omega)];exact hg.1,by rw [<- Nat.add_mul,h.cell _ (by omega)];exact hg.2.1,by rw [<- Nat.add_mul,h.cell _ (by omega)];exact hg.2.2⟩
theorem StkV.upto {w:World} {B:Nat} {a:Option Addr} {cap:Nat} {l:List Ph} (h:StkV w B (.slice a l.length cap) l) (r:Nat) (hr:r<=l.length):StkV w B (.slice a r cap) (l.take r):=by
 have hl:(l.take r).length=r:=by rw [List.length_take];omega
 unfold StkV
 rw [hl]
 refine ⟨by rw [qjw,hl],?_⟩
 rcases h.2 with ⟨e,h0⟩ | ⟨g,cap',cur,e,hb,hg,hc,hx,hs,htake⟩
 . simp only [Value.slice.injEq] at e
   obtain ⟨rfl,-,rfl⟩:=e
   exact .inl ⟨by rw [show r=0 by omega],by omega⟩
 . simp only [Value.slice.injEq,true_and] at e
   obtain ⟨rfl,rfl⟩:=e
   refine .inr ⟨g,cap,cur,rfl,hb,hg,by omega,hx,hs,?_⟩
   rw [<- qfk,<- htake,List.take_take,Nat.min_eq_left (by omega)]
theorem StkV.mono {w w':World} {B:Nat} {v:Value} {l:List Ph} (h:StkV w B v l) (hb:Below w.heap.size w w'):StkV w' B v l:=by
 refine ⟨h.1,?_⟩
 rcases h.2 with h' | ⟨g,cap,cur,e,hB,hg,hc,hx,hs,htake⟩
 . exact .inl h'
 . exact .inr ⟨g,cap,cur,e,hB,(hb.block g (Array.getElem?_eq_some_iff.1 hg).1).trans hg,hc,hx,hs,htake⟩
theorem StkV.other {w:World} {B:Nat} {v:Value} {l:List Ph} (h:StkV w B v l) {b:Nat} (hb:v.ownBlock ≠ some b) (j:Nat) (u:Value):StkV (w.setCell ⟨b,j,none⟩ u) B v l:=by
 refine ⟨h.1,?_⟩
 rcases h.2 with h' | ⟨g,cap,cur,e,hB,hg,hc,hx,hs,htake⟩
 . exact .inl h'
 . refine .inr ⟨g,cap,cur,e,hB,(heap_setCell_other w ⟨b,j,none⟩ g u ?_).trans hg,hc,hx,hs,htake⟩
   rintro rfl
   exact hb (by rw [e];rfl)
theorem q0g {α:Type} (l:List α) (k:Nat) (h:k<=l.length):l.reverse.drop (l.length - k)=(l.take k).reverse:=by
 rw [List.drop_reverse];congr 1;congr 1;omega
theorem q0h {α:Type} (l:List α) (k:Nat) (h:k<=l.length):l.reverse.take (l.length - k)=(l.drop k).reverse:=by
 rw [List.take_reverse];congr 1;congr 1;omega
theorem q4l (e:Nat->Nx) (k A:Nat):tot ((pst e k).take A).reverse<=tot (pst e k):=by rw [q6w];exact qgv _ _
theorem q5z (e:Nat->Nx) (k A:Nat):mx ((pst e k).take A).reverse<=k:=by rw [q8r];exact q8s e k A
theorem qdu (w:World) (p:Ph):∀ (j:Nat) (u:Value),(phV [p])[j]? = some u->(w.alloc (.cells #[.string p.t,.int .i64 p.lv,.int .i64 p.d] 285)).cell? ((⟨w.heap.size,0,none⟩:Addr).add j)=some u:=fun j u h=>by
 have hb:=Blk.new w 285 #[.string p.t,.int .i64 p.lv,.int .i64 p.d]
 match j,h with
 | 0,h=>simp [phV] at h;subst h;exact hb.cell 0
 | 1,h=>simp [phV] at h;subst h;exact hb.cell 1
 | 2,h=>simp [phV] at h;subst h;exact hb.cell 2
theorem q2w {P:Program} {a:Act} {o:Oper} {w w':World} {s x:Operand} {t:TypeId} {v u v':Value} (ho:o.op=.call { callee:=.builtin .append,args:=#[s,x],argTypes:=#[t,t] }) (hs:a.eval s=v) (hx:a.eval x=u) (hr:(Builtin.append_ #[t,t] o.type #[v,u]).run P w=.ok v' w'):(execOp a.eval o).run P w=.ok (.value v') w':=by
 unfold execOp
 simp only [ho,resolve,invoke,builtin,Sem.run_bind,Sem.run_pure,Result.andThen_ok,List.map_toArray,List.map_cons,List.map_nil,hs,hx,hr]
theorem q6a (a:Option Addr) (m c:Nat) (e:Nat->Nx) (w:World) (hm:m<=9223372036854775807) (ha:Nods w a m e) (hf:∀ k,k<m->Fit (e k)) (hw:Wrds w) (hp:Pow w) :
 Calls Tryz.prog 231 #[.slice a m c] w fun r w'=>r=.returned (.tuple #[.string (if vxB e m then (top e m).t else ⟨#[]⟩),.bool (vxB e m)])/\Below w.heap.size w w':=by
 by_cases h2:1000<m
 . rw [vxB_no fun h=>by have:=h.2.1;omega]
   go_enter Tryz.func231,Tryz.ntmps231
   go_wp2_with fail
   go_ret2
   exact ⟨rfl,bR _ _⟩
 have HA:=h_ ha;have HF:=h_ hf;have HW:=h_ hw;have HP:=h_ hp
 obtain ⟨r,hr⟩:∃ r,vxB e m=r:=⟨_,rfl⟩
 obtain ⟨t,ht⟩:∃ t,(if vxB e m then (top e m).t else ⟨#[]⟩)=t:=⟨_,rfl⟩
 rw [ht,hr]
 have HR:=h_ hr
 have HN:Hid (¬ vEx e m->r=false/\t=⟨#[]⟩):=h_ fun h=>by rw [<- hr,<- ht,vxB_no h];exact ⟨rfl,rfl⟩
 have HY:Hid (vEx e m->r=true/\t=(top e m).t):=h_ fun h=>by rw [<- hr,<- ht,(ql2 e m).2 h];exact ⟨rfl,rfl⟩
 clear ha hf hr ht hw hp
 go_enter Tryz.func231,Tryz.ntmps231
 go_wp2_with fail
 obtain ⟨B,hB⟩:∃ B,w.heap.size=B:=⟨_,rfl⟩
 go_loopw [4,6,7,8,14] (fun v _ _ _ i wr=>∃ k:Nat,k<=m/\i=.int .i64 k/\StkV wr B v (pst e k).reverse/\okAll e k/\stkOk e k/\(∀ j,1<=j->j<=k->(top e j).d<=64/\(top e j).t.size<=4000)/\Below B w wr) (fun _ _ _ _ i _=>m - (intOf i).toNat)
 case atStart=>exact ⟨0,nZ _,rfl,⟨rfl,.inl ⟨rfl,rfl⟩⟩,fun k hk=>absurd hk (nL _),fun k hk=>absurd hk (nL _),fun j h1 h0=>by omega,by rw [<- hB];exact bR _ _⟩
 case round =>
  obtain ⟨k,hk,rfl,hst,hok,hso,hlim,hb⟩:=hrel
  have HST:=h_ hst;have HOK:=h_ hok;have HSO:=h_ hso;have HLM:=h_ hlim;have HB:=h_ hb
  have HV:=h_ ((u_ HA).mono (hb.mono (by omega)));have HWr:=h_ ((u_ HW).mono (hb.mono (by omega)));have HPr:=h_ ((u_ HP).mono (hb.mono (by omega)))
  have hBw:=hb.size
  clear hst hok hso hlim hb
  have hlr:(pst e k).reverse.length=(stk e k).length:=by rw [List.length_reverse,qk2]
  obtain ⟨sa,cap,rfl,hcap,hnone,hsome⟩:=(u_ HST).shape
  rw [hlr] at hcap
  rw [hlr]
  have HSH:Hid (StkV wr B (.slice sa (stk e k).length cap) (pst e k).reverse):=h_ (by have:=u_ HST;rw [hlr] at this;exact this)
  have HSM:=h_ hsome
  clear HST hnone hsome hlr
  have hsl:=qkm e k
  obtain ⟨L,hL⟩:∃ L,(stk e k).length=L:=⟨_,rfl⟩
  rw [hL] at HSH hcap hsl ⊢
  have HL:=h_ hL
  clear hL
  by_cases hlt:k<m
  . have hlt':(k:Int)<m:=by omega
    obtain ⟨b,o,rfl,-,c0,c1,c2,c3,c4⟩:=u_ HV k hlt
    have HK:=h_ (Blk.new wr 200 #[.int .i64 (e k).op,.int .i64 (e k).v.k,.int .i64 (e k).v.n,.string (e k).v.s,.string (e k).nm])
    have HBn:=h_ ((bR wr.heap.size wr).alloc (nR _) (.cells #[.int .i64 (e k).op,.int .i64 (e k).v.k,.int .i64 (e k).v.n,.string (e k).v.s,.string (e k).nm] 200))
    obtain ⟨Wn,hWn⟩:∃ Wn,wr.alloc (.cells #[.int .i64 (e k).op,.int .i64 (e k).v.k,.int .i64 (e k).v.n,.string (e k).v.s,.string (e k).nm] 200)=Wn:=⟨_,rfl⟩
    rw [hWn] at HK HBn
    obtain ⟨y0,y1,y2,y3,y4⟩:=five (u_ HK)
    go_wp2_with fail
    try rw [hWn]
    refine (q86 (e k) _ (u_ HF k hlt)).mono ?_
    rintro x w1 ⟨rfl,hb⟩
    replace HK:=mB HK hb;replace HBn:=mT HBn hb
    clear hb c0 c1 c2 c3 c4 y0 y1 y2 y3 y4 hWn
    obtain ⟨y0,y1,y2,y3,y4⟩:=five (u_ HK)
    cases hg:okNode (e k)
    . have HX:=h_ (u_ HN fun h=>by have:=h.2.2.1 k hlt;rw [hg] at this;cases this)
      go_wp2_with fail
      go_ret2
      exact ⟨by rw [(u_ HX).1,(u_ HX).2];rfl,by rw [hB];exact (u_ HB).trans ((u_ HBn).mono (by omega))⟩
    have HOK2:Hid (okAll e (k+1)):=h_ fun j hj=>by
     by_cases ej:j=k
     . subst ej;exact hg
     . exact u_ HOK j (by omega)
    have HG:=h_ hg
    clear hg
    go_wp2_with fail
    refine (q0e (e k) _).mono ?_
    rintro x w2 ⟨rfl,hb⟩
    replace HK:=mB HK hb;replace HBn:=mT HBn hb
    clear hb y0 y1 y2 y3 y4
    obtain ⟨y0,y1,y2,y3,y4⟩:=five (u_ HK)
    have har:=arn_le (e k)
    obtain ⟨A,hA⟩:∃ A,arn (e k)=A:=⟨_,rfl⟩
    by_cases hgt:L<A
    . have hgt':(L:Int)<A:=by omega
      have HX:=h_ (u_ HN fun h=>by have:=h.2.2.2.1 k hlt;rw [u_ HL,hA] at this;omega)
      rw [hA]
      clear hA
      go_wp2_with fail
      go_ret2
      exact ⟨by rw [(u_ HX).1,(u_ HX).2];rfl,by rw [hB];exact (u_ HB).trans ((u_ HBn).mono (by omega))⟩
    have hgt':¬ (L:Int)<A:=by omega
    have HSO2:Hid (stkOk e (k+1)):=h_ fun j hj=>by
     by_cases ej:j=k
     . subst ej;rw [u_ HL,hA];omega
     . exact u_ HSO j (by omega)
    rw [hA] at har ⊢
    have HAe:=h_ hA
    clear hA
    go_wp2_with fail
    refine (show Calls Tryz.prog 233 #[nv (e k)] w2 fun r w'=>r=.returned (.int .i64 (A:Int))/\Below w2.heap.size w2 w' from by rw [<- u_ HAe];exact q0e (e k) _).mono ?_
    rintro x w3 ⟨rfl,hb⟩
    replace HK:=mB HK hb;replace HBn:=mT HBn hb
    clear hb y0 y1 y2 y3 y4
    obtain ⟨y0,y1,y2,y3,y4⟩:=five (u_ HK)
    have hwL:wrap64 ((L:Int) - (A:Int))=((L - A:Nat):Int):=by rw [q4o (by omega) (by omega)];omega
    obtain ⟨R,hR⟩:∃ R,L - A=R:=⟨_,rfl⟩
    rw [hR] at hwL
    have hLA:(L:Int) - (A:Int)=(R:Int):=by omega
    have HLR:Hid (L - R=A):=h_ (by omega)
    have hR1:R<=L:=by omega
    have HAr:Hid (((pst e k).take A).reverse=(pst e k).reverse.drop R):=h_ (by
     have h1:(pst e k).length=L:=by rw [qk2];exact u_ HL
     rw [<- q0g (pst e k) A (by omega),h1,hR])
    have HRr:Hid (((pst e k).drop A).reverse=(pst e k).reverse.take R):=h_ (by
     have h1:(pst e k).length=L:=by rw [qk2];exact u_ HL
     rw [<- q0h (pst e k) A (by omega),h1,hR])
    have HTP:Hid (top e (k+1)=phr (e k) ((pst e k).take A).reverse):=h_ (by rw [qgt,u_ HAe])
    have HPS:Hid ((pst e (k+1)).reverse=(pst e k).reverse.take R++[top e (k+1)]):=h_ (by
     rw [show pst e (k+1)=top e (k+1) :: (pst e k).drop (arn (e k)) from rfl,List.reverse_cons,u_ HAe,u_ HRr])
    have HTT:Hid (tot ((pst e k).take A).reverse<=2000000/\mx ((pst e k).take A).reverse<=1000):=h_ (by
     have h1:=q4l e k A
     have h2:=(qkw e k (u_ HSO) (u_ HOK) (fun j hj=>(u_ HF j (by omega)).2.2.2)).2
     have h3:=q5z e k A
     omega)
    have HLA:Hid (((pst e k).take A).reverse.length=arn (e k)):=h_ (by rw [List.length_reverse,List.length_take,qk2,u_ HL,u_ HAe];omega)
    have HSW:=h_ ((u_ HSH).mono (u_ HBn));have HWw:=h_ ((u_ HWr).mono (u_ HBn));have HPw:=h_ ((u_ HPr).mono (u_ HBn))
    have HBw:=h_ ((u_ HB).trans ((u_ HBn).mono (show B<=wr.heap.size by omega)))
    obtain ⟨ao,hao⟩:∃ ao,(if cap=R then sa else sa.map (·.add (R*3)))=ao:=⟨_,rfl⟩
    have HPh:Hid (Phs w3 ao ((pst e k).take A).reverse):=h_ (by
     have h1:(pst e k).reverse.length=L:=by rw [List.length_reverse,qk2];exact u_ HL
     have h2:=u_ HSW
     rw [<- h1] at h2
     have h3:=h2.from R (by omega)
     rw [hao] at h3
     rw [u_ HAr];exact h3)
    have hNs:=(u_ HBn).size
    have hNw:wr.heap.size<w3.heap.size:=(u_ HK).lt
    have HNX:Hid (∀ X,wr.heap.size<=X->(Value.slice sa L cap).ownBlock ≠ some X):=h_ fun X hX h=>by
     cases sa with
     | none=>cases h
     | some ad=>obtain ⟨g,o',f⟩:=ad;have h:g=X:=(by simpa [Value.ownBlock] using h);have:=(u_ HSM g o' f rfl).2.2.2;omega
    have hBN:B<=wr.heap.size:=by omega
    obtain ⟨N,hN⟩:∃ N,wr.heap.size=N:=⟨_,rfl⟩
    rw [hN] at hBN HK HNX hNw y0 y1 y2 y3 y4 ⊢
    clear hN hR HAr HRr HSH HBn HB HWr HPr HV HSM HA hNs hBw
    go_wp2_with fail
    refine wp_region_held_drew (S:=fun w'=>w'.cell? ⟨N,0,none⟩=some (.int .i64 (e k).op)/\w'.cell? ⟨N,1,none⟩=some (.int .i64 (e k).v.k)/\w'.cell? ⟨N,2,none⟩=some (.int .i64 (e k).v.n)/\w'.cell? ⟨N,3,none⟩=some (.string (e k).v.s)/\w'.cell? ⟨N,4,none⟩=some (.string (e k).nm)) (by kernel_rfl) ⟨y0,y1,y2,y3,y4⟩ (fun zz=>?_)
    clear y0 y1 y2 y3 y4
    refine tk 0 33 (.agg #[.int .i64 (e k).op,.int .i64 (e k).v.k,.int .i64 (e k).v.n,.string (e k).v.s,.string (e k).nm]) zz ?_
    refine tk 1 34 (.slice sa L cap) zz ?_
    refine tk 2 35 (.int .i64 (R:Int)) zz ?_
    refine tk 3 36 (.slice ao A (cap - R)) zz ?_ (hy:=fun w hS=>by have hLR:=u_ HLR;simp [execOp,go_sem, *])
    simp only [sX,sY,sZ]
    have hcall:∀ W:World,Phs W ao ((pst e k).take A).reverse->Wrds W->Pow W->Calls Tryz.prog 234 #[.agg #[.int .i64 (e k).op,.int .i64 (e k).v.k,.int .i64 (e k).v.n,.string (e k).v.s,.string (e k).nm],.slice ao A (cap - R)] W fun r w'=>r=.returned (pv (top e (k+1)))/\Below W.heap.size W w':=fun W h1 h2 h3=>by
     rw [u_ HTP,<- u_ HAe]
     rw [<- u_ HAe] at h1
     have hh:=q46 (e k) ao (cap - R) ((pst e k).take (arn (e k))).reverse W (u_ HG) (u_ HF k hlt) (by rw [u_ HAe];exact (u_ HLA).trans (u_ HAe)) h1 (by rw [u_ HAe];exact (u_ HTT).1) (by rw [u_ HAe];exact (u_ HTT).2) h2 h3
     exact hh
    have HC:=h_ hcall
    clear hcall HTP HLA HTT
    obtain ⟨p,hp⟩:∃ p,top e (k+1)=p:=⟨_,rfl⟩
    rw [hp] at HC HPS
    have HTE:=h_ hp
    clear hp
    have HD0:Hid (Below w3.heap.size w3 w3.drew):=h_ ((bR _ _).drew)
    refine wpAnyH_ready (rs:=[4,5]) (by kernel_rfl) (by simp) (consCall (f:=234) (args:=#[.agg #[.int .i64 (e k).op,.int .i64 (e k).v.k,.int .i64 (e k).v.n,.string (e k).v.s,.string (e k).nm],.slice ao A (cap - R)]) (R:=fun r wz=>r=pv p/\Below w3.heap.size w3 wz) 37 rfl rfl (by rfl) ?hrun1 ((u_ HC _ ((u_ HPh).mono (u_ HD0)) ((u_ HWw).mono (u_ HD0)) ((u_ HPw).mono (u_ HD0))).mono fun e w6 ⟨he,hb⟩=>⟨_,he,rfl,q26 hb⟩) ?pB (consRun (v:=.pointer (some ⟨w3.heap.size,0,none⟩)) (w':=w3.drew.alloc (.cells #[.string ⟨#[]⟩,.int .i64 0,.int .i64 0] 285)) 8 rfl rfl (by rfl) ?hrun2 ?hS2 ?pA AllReadyH.nil))
    case hrun1=>simp [execOp,go_sem]
    case hrun2=>simp [execOp,go_sem]
    case hS2 =>
     obtain ⟨z0,z1,z2,z3,z4⟩:=five (((u_ HK).mono (u_ HD0) (u_ HK).lt).alloc (.cells #[.string ⟨#[]⟩,.int .i64 0,.int .i64 0] 285))
     exact ⟨z0,z1,z2,z3,z4⟩
    case' pB =>
     rintro r3 W4 ⟨rfl,hb⟩
     have hK4:=(u_ HK).mono hb (u_ HK).lt
     have hS4:=(u_ HSW).mono hb
     have hB4:=(u_ HBw).trans (hb.mono (by have:=(u_ HBw).size;omega))
     have hN4:w3.heap.size<=W4.heap.size:=hb.size
     clear hb zz
     obtain ⟨z0,z1,z2,z3,z4⟩:=five hK4
     refine ⟨⟨z0,z1,z2,z3,z4⟩,?_⟩
     clear z0 z1 z2 z3 z4
     simp only [sX,sY,sZ]
     have hK5:=hK4.alloc (.cells #[.string ⟨#[]⟩,.int .i64 0,.int .i64 0] 285)
     have hX5:=Blk.new W4 285 #[.string ⟨#[]⟩,.int .i64 0,.int .i64 0]
     have hS5:=hS4.mono ((bR W4.heap.size W4).alloc (nR _) (.cells #[.string ⟨#[]⟩,.int .i64 0,.int .i64 0] 285))
     have hB5:=hB4.alloc (by have:=hB4.size;omega) (.cells #[.string ⟨#[]⟩,.int .i64 0,.int .i64 0] 285)
     obtain ⟨z0,z1,z2,z3,z4⟩:=five hK5
     refine wpAnyH_ready (rs:=[5]) (by kernel_rfl) (by simp) (consRun (v:=.pointer (some ⟨W4.heap.size,0,none⟩)) (w':=W4.alloc (.cells #[.string ⟨#[]⟩,.int .i64 0,.int .i64 0] 285)) 8 rfl rfl (by rfl) ?hrun3 ⟨z0,z1,z2,z3,z4⟩ ?pB2 AllReadyH.nil)
     case hrun3=>simp [execOp,go_sem]
     simp only [sX,sY,sZ]
     clear z0 z1 z2 z3 z4 hK4 hS4 hB4
     obtain ⟨X,hX⟩:∃ X,W4.heap.size=X:=⟨_,rfl⟩
     obtain ⟨W6,hW6⟩:∃ W6,W4.alloc (.cells #[.string ⟨#[]⟩,.int .i64 0,.int .i64 0] 285)=W6:=⟨_,rfl⟩
     rw [hW6] at hK5 hX5 hS5 hB5 ⊢
     rw [hX] at hX5 hN4 ⊢
     clear hW6 hX
     have hNX:N<X:=by omega
    case' pA =>
     simp only [sX,sY,sZ]
     have hbA:Below w3.heap.size w3 (w3.drew.alloc (.cells #[.string ⟨#[]⟩,.int .i64 0,.int .i64 0] 285)):=q26 ((bR w3.heap.size w3.drew).alloc (nR _) _)
     have hX4:=Blk.new w3.drew 285 #[.string ⟨#[]⟩,.int .i64 0,.int .i64 0]
     obtain ⟨W5,hW5⟩:∃ W5,w3.drew.alloc (.cells #[.string ⟨#[]⟩,.int .i64 0,.int .i64 0] 285)=W5:=⟨_,rfl⟩
     rw [hW5] at hbA hX4 ⊢
     replace hX4:Blk W5 w3.heap.size 285 [.string ⟨#[]⟩,.int .i64 0,.int .i64 0]:=hX4
     clear hW5 zz
     refine wpAnyH_ready (rs:=[4]) (by kernel_rfl) (by simp) (consCall (f:=234) (args:=#[.agg #[.int .i64 (e k).op,.int .i64 (e k).v.k,.int .i64 (e k).v.n,.string (e k).v.s,.string (e k).nm],.slice ao A (cap - R)]) (R:=fun r wz=>r=pv p/\Below W5.heap.size W5 wz) 37 rfl rfl (by rfl) ?hrun4 ((u_ HC _ ((u_ HPh).mono hbA) ((u_ HWw).mono hbA) ((u_ HPw).mono hbA)).mono fun e w6 ⟨he,hb⟩=>⟨_,he,rfl,hb⟩) ?pA2 AllReadyH.nil)
     case hrun4=>simp [execOp,go_sem]
     rintro r3 W6 ⟨rfl,hb⟩
     have hK5:=((u_ HK).mono hbA (u_ HK).lt).mono hb ((u_ HK).mono hbA (u_ HK).lt).lt
     have hX5:=hX4.mono hb hX4.lt
     have hS5:=((u_ HSW).mono hbA).mono hb
     have hBA:=(u_ HBw).trans (hbA.mono (by have:=(u_ HBw).size;omega))
     have hB5:=hBA.trans (hb.mono (by have:=hBA.size;omega))
     obtain ⟨z0,z1,z2,z3,z4⟩:=five hK5
     refine ⟨⟨z0,z1,z2,z3,z4⟩,?_⟩
     simp only [sX,sY,sZ]
     clear z0 z1 z2 z3 z4 hb hbA hX4 hBA
     have hN4:w3.heap.size<=w3.heap.size:=nR _
     obtain ⟨X,hX⟩:∃ X,w3.heap.size=X:=⟨_,rfl⟩
     rw [hX] at hX5 hN4 hNw ⊢
     clear hX
     have hNX:N<X:=by omega
    all_goals
     clear HPh HWw HPw HC HD0 HK HSW HBw
     obtain ⟨z0,z1,z2,z3,z4⟩:=five hK5
     obtain ⟨r0,r1,r2⟩:=three hX5
     have f0:=hX5.free 0;have f1:=hX5.free 1;have f2:=hX5.free 2
     have far:∀ (w':World) (j i:Nat) (u:Value),(w'.setCell ⟨X,j,none⟩ u).cell? ⟨N,i,none⟩=w'.cell? ⟨N,i,none⟩:=fun w' j i u=>World.cell?_of_block (w:=w') (heap_setCell_other w' ⟨X,j,none⟩ N u (by simp;omega))
     unfold pv
     refine storeY (i:=6) (w':=(((W6.setCell ⟨X,0,none⟩ (.string p.t)).setCell ⟨X,1,none⟩ (.int .i64 p.lv)).setCell ⟨X,2,none⟩ (.int .i64 p.d))) rfl (by rfl) (by kernel_rfl) rfl (by simp [execOp,go_sem,r0,r1,r2,f0,f1,f2]) rfl ⟨by rw [far,far,far];exact z0,by rw [far,far,far];exact z1,by rw [far,far,far];exact z2,by rw [far,far,far];exact z3,by rw [far,far,far];exact z4⟩ ?_
     refine wpAnyH_done (by kernel_rfl) ?_ _
     have hXne:=u_ HNX X (by omega)
     have hX9:=(((hX5.set 0 (.string p.t)).set 1 (.int .i64 p.lv)).set 2 (.int .i64 p.d))
     have hS9:=((hS5.other hXne 0 (.string p.t)).other hXne 1 (.int .i64 p.lv)).other hXne 2 (.int .i64 p.d)
     have hB9:=(((hB5.setCell (p:=⟨X,0,none⟩) (show B<=X by omega) (.string p.t)).setCell (p:=⟨X,1,none⟩) (show B<=X by omega) (.int .i64 p.lv)).setCell (p:=⟨X,2,none⟩) (show B<=X by omega) (.int .i64 p.d))
     obtain ⟨W9,hW9⟩:∃ W9,(((W6.setCell ⟨X,0,none⟩ (.string p.t)).setCell ⟨X,1,none⟩ (.int .i64 p.lv)).setCell ⟨X,2,none⟩ (.int .i64 p.d))=W9:=⟨_,rfl⟩
     rw [hW9] at hX9 hS9 hB9 ⊢
     clear hW9 z0 z1 z2 z3 z4 r0 r1 r2 f0 f1 f2 far hK5 hX5 hS5 hB5
     have HX9:=h_ hX9;have HS9:=h_ hS9;have HB9:=h_ hB9
     obtain ⟨r0,r1,r2⟩:=three hX9
     clear hX9 hS9 hB9
     by_cases hbad:64<p.d ∨ 4000<p.t.size
     . have HX:=h_ (u_ HN fun h=>by have:=h.part (fun j hj=>(u_ HF j hj).2.2.2) (show 1<=k+1 by omega) (show k+1<=m by omega);rw [u_ HTE] at this;omega)
       by_cases hd:64<p.d
       . have hd':(64:Int)<p.d:=by omega
         clear hbad hd
         go_wp2_with fail
         go_ret2
         exact ⟨by rw [(u_ HX).1,(u_ HX).2];rfl,by first | exact u_ HB9 | (rw [hB];exact u_ HB9)⟩
       . have hd':¬ (64:Int)<p.d:=by omega
         have ht':(4000:Int)<p.t.size:=by omega
         clear hbad hd
         go_wp2_with fail
         go_ret2
         exact ⟨by rw [(u_ HX).1,(u_ HX).2];rfl,by first | exact u_ HB9 | (rw [hB];exact u_ HB9)⟩
     have hd':¬ (64:Int)<p.d:=by omega
     have ht':¬ (4000:Int)<p.t.size:=by omega
     have HLM2:Hid (∀ j,1<=j->j<=k+1->(top e j).d<=64/\(top e j).t.size<=4000):=h_ fun j h1 h2=>by
      by_cases ej:j=k+1
      . subst ej;rw [u_ HTE];omega
      . exact u_ HLM j h1 (by omega)
     clear hbad
     go_wp2_with fail
     refine wp_region_held_drew (S:=fun W'=>W'.cell? ⟨X,0,none⟩=some (.string p.t)/\W'.cell? ⟨X,1,none⟩=some (.int .i64 p.lv)/\W'.cell? ⟨X,2,none⟩=some (.int .i64 p.d)) (by kernel_rfl) ⟨r0,r1,r2⟩ (fun zz=>?_)
     clear r0 r1 r2
     refine tk 0 47 (.slice sa L cap) zz ?_
     refine tk 1 48 (.int .i64 (R:Int)) zz ?_
     refine tk 2 49 (.slice sa R cap) zz ?_ (hy:=fun w hS=>by have hc2:(R:Int)<=cap:=(by omega);simp [execOp,go_sem, *])
     refine tk 3 50 (.agg #[.string p.t,.int .i64 p.lv,.int .i64 p.d]) zz ?_
     simp only [sX,sY,sZ]
     have hD:Below W9.heap.size W9 (W9.drew.alloc (.cells #[.string p.t,.int .i64 p.lv,.int .i64 p.d] 285)):=q26 ((bR W9.heap.size W9.drew).alloc (nR _) _)
     have hXX:=(u_ HX9).mono hD (u_ HX9).lt
     obtain ⟨r0,r1,r2⟩:=three hXX
     refine wpAnyH_ready (rs:=[4]) (by kernel_rfl) (by simp) (consRun (v:=.slice (some ⟨W9.heap.size,0,none⟩) 1 1) (w':=W9.drew.alloc (.cells #[.string p.t,.int .i64 p.lv,.int .i64 p.d] 285)) 51 rfl rfl (by rfl) (by simp [execOp,go_sem]) ⟨r0,r1,r2⟩ ?_ AllReadyH.nil)
     simp only [sX,sY,sZ]
     have hlr:(pst e k).reverse.length=L:=by rw [List.length_reverse,qk2];exact u_ HL
     have hup:(W9.drew.alloc (.cells #[.string p.t,.int .i64 p.lv,.int .i64 p.d] 285)).ownsRow B 285 3 (.slice sa R cap) R (phV ((pst e k).reverse.take R)):=by
      have h1:=u_ HS9
      rw [<- hlr] at h1
      have h2:=(h1.upto R (by omega)).mono hD
      unfold StkV at h2
      rw [show ((pst e k).reverse.take R).length=R by rw [List.length_take];omega] at h2
      exact h2
     have hnews:=qdu W9.drew p
     obtain ⟨i0,hi,hz0,hz1,hz2⟩:=info_parts qil
     obtain ⟨v',w',hr,ho',hgr',-⟩:=run_append_own (P:=Tryz.prog) (W9.drew.alloc (.cells #[.string p.t,.int .i64 p.lv,.int .i64 p.d] 285)) B 283 283 285 i0 _ 3 32 Tryz.underlying283 hi hz0 hz1 hz2 rfl (by omega) (.slice sa R cap) R _ hup ⟨W9.heap.size,0,none⟩ 1 1 (phV [p]) rfl hnews (by simp [phV,Value.oneCell']) (by unfold maxLen;omega) (by omega) (by have:=(u_ HB9).size;simp;omega)
     have hX3:=hXX.grown hgr' (fun h=>hXne (by rw [show (Value.slice sa L cap).ownBlock=(Value.slice sa R cap).ownBlock by cases sa <;> rfl];exact h.symm))
     have HB3:Hid (Below B w w'):=h_ (((u_ HB9).trans (hD.mono (by have:=(u_ HB9).size;omega))).grown hgr' (by have:=(u_ HB9).size;simp;omega) (fun q' hq=>q8y hup hq))
     have HS3:Hid (StkV w' B v' (pst e (k+1)).reverse):=h_ (by
      unfold StkV
      rw [u_ HPS,q93,List.length_append,show ((pst e k).reverse.take R).length=R by rw [List.length_take];omega]
      exact ho')
     obtain ⟨q0,q1,q2⟩:=three hX3
     refine wpAnyH_ready (rs:=[5]) (by kernel_rfl) (by simp) (consRun (v:=v') (w':=w') 52 rfl rfl (by rfl) (q2w rfl rfl rfl hr) ⟨q0,q1,q2⟩ ?_ AllReadyH.nil)
     simp only [sX,sY,sZ]
     replace zz:w'.cell? ⟨X,0,none⟩=some (.string p.t)/\w'.cell? ⟨X,1,none⟩=some (.int .i64 p.lv)/\w'.cell? ⟨X,2,none⟩=some (.int .i64 p.d):=⟨q0,q1,q2⟩
     clear hr ho' hgr' hnews hup hX3 hXX hD hi hz0 hz1 hz2 r0 r1 r2 q0 q1 q2 hlr hao
     refine tk 6 4 v' zz ?_
     simp only [sX,sY,sZ]
     refine wpAnyH_done (by kernel_rfl) ?_ _
     clear zz
     go_wp2_with fail
     go_roundw
     case rel=>first | exact ⟨k+1,by omega,by go_num,u_ HS3,u_ HOK2,u_ HSO2,u_ HLM2,u_ HB3⟩ | ((repeat apply Exists.intro);exact ⟨⟨k+1,by omega,by go_num,u_ HS3,u_ HOK2,u_ HSO2,u_ HLM2,u_ HB3⟩,rfl⟩)
     case measure=>simp [intOf];omega
  . obtain rfl:k=m:=by omega
    have hlt':¬ (k:Int)<(k:Int):=by omega
    by_cases h1:L=1
    . subst h1
      have hone:=u_ HL
      have hk1:1<=k:=by omega
      have hlm:=u_ HLM k hk1 (nR _)
      have HX:=h_ (u_ HY ⟨hk1,by omega,u_ HOK,u_ HSO,hone,hlm.1,hlm.2⟩)
      have hrev:(pst e k).reverse=[top e k]:=by rw [qk4 hone];rfl
      have hS:=u_ HSH
      rw [hrev] at hS
      obtain ⟨a',cap',e1,-,hn',hs'⟩:=hS.shape
      simp only [List.length_cons,List.length_nil,Value.slice.injEq,true_and] at e1
      obtain ⟨rfl,rfl⟩:=e1
      cases sa with
      | none=>exact absurd (hn' rfl).1 (by simp)
      | some ad =>
       obtain ⟨g,o',f⟩:=ad
       obtain ⟨rfl,rfl,-,-⟩:=hs' g o' f rfl
       have z0:=StkV.cell (l:=[top e k]) hS 0 (by simp)
       simp only [phV,List.flatMap_cons,List.flatMap_nil,List.append_nil,List.getElem?_cons_zero] at z0
       clear hS hs' hn' hone hrev
       go_wp2_with fail
       go_ret2
       exact ⟨by rw [(u_ HX).1,(u_ HX).2];rfl,by first | exact u_ HB | (rw [hB];exact u_ HB)⟩
    . have HX:=h_ (u_ HN fun h=>h1 (by rw [<- u_ HL];exact h.2.2.2.2.1))
      have h1':((L:Int) != 1)=true:=by simp;omega
      go_wp2_with fail
      go_ret2
      exact ⟨by rw [(u_ HX).1,(u_ HX).2];rfl,by first | exact u_ HB | (rw [hB];exact u_ HB)⟩
theorem q0c (a:Option Addr) (m c:Nat) (e:Nat->Nx) (w:World) (hm:m<=9223372036854775807) (ha:Nods w a m e) (hf:∀ k,k<m->Fit (e k)) (hw:Wrds w) (hp:Pow w) :
 Calls Tryz.prog 229 #[.slice a m c] w fun r w'=>r=.returned (.string (if vxB e m then (top e m).t else ⟨#[]⟩))/\Below w.heap.size w w':=by
 have HC:=h_ (q6a a m c e w hm ha hf hw hp)
 obtain ⟨t,ht⟩:∃ t,(if vxB e m then (top e m).t else ⟨#[]⟩)=t:=⟨_,rfl⟩
 obtain ⟨q,hq⟩:∃ q,vxB e m=q:=⟨_,rfl⟩
 rw [ht,hq] at HC
 rw [ht]
 clear ht hq ha hf hw hp
 go_enter Tryz.func229,Tryz.ntmps229
 go_wp2_with fail
 refine (u_ HC).mono ?_
 rintro x w1 ⟨rfl,hb⟩
 have HB:=h_ hb
 clear hb HC
 go_wp2_with fail
 go_ret
 exact ⟨rfl,u_ HB⟩
end Go.Proofs.YtgkcaeidhkddjaaGreatDoor
