import Derived.Test.YtebbgodlijlioaaGreatDoorW12
import Derived.Test.YtebbgodlijlioaaGreatDoorW09
set_option maxRecDepth 100000
set_option maxHeartbeats 64000000
namespace Go.Proofs.YtebbgodlijlioaaGreatDoor
open Go Go.RowKit
def Wrds (w:World):Prop:=3<w.heap.size/\∀k,k<26->w.cell? ⟨3,k,none⟩=some (.string (wrdT.getD k ⟨#[]⟩))
theorem Wrds.mono {w w':World}(h:Wrds w)(hb:Below w.heap.size w w'):Wrds w':=⟨Y5 h.1 hb.size,fun k hk=>(hb.cell h.1).trans (h.2 k hk)⟩
theorem Wrds.at {w:World}(h:Wrds w){op:Int}(h0:0<=op)(h1:op<=25):w.cell? ⟨3,op.toNat,none⟩=some (.string (wrd op)):=h.2 op.toNat (by omega)
theorem qk0 (op:Int):1<=lvl op/\lvl op<=7:=by
 unfold lvl
 (repeat' split) <;> omega
theorem qbl {n:Nx}(h:okNode n=true):0<=n.op/\n.op<=25:=by
 rcases ops2 n.op with h0 | h0 | ⟨h0,h1⟩
 . omega
 . omega
 . rw[okNode2 h0 h1]at h
   simp only[Yn,Yp]at h;omega
theorem q1x (n:Nx)(a:Option Addr)(c:Nat)(l:List Ph)(w:World)(hok:okNode n=true)(hf:Fit n)(hl:l.length=arn n)(ha:Phs w a l)(hs:tot l<=2000000)(hw:Wrds w)(hp:Pow w) :
 Calls Tryz.prog 206 #[nv n,.slice a (arn n) c] w fun r w'=>r=.returned (.string (phT n l))/\Below w.heap.size w w':=by
 unfold nv
 obtain⟨hop0,hop25⟩:=qbl hok
 obtain⟨W0,hW0⟩:=Nq (w.alloc (.cells (Jd n) 96))
 have HK:=h_ (Blk.new w 96 (Jd n))
 have HB:=h_ ((bR w.heap.size w).alloc (nR _) (.cells (Jd n) 96))
 rw[hW0]at HK HB
 have HA:=h_ (ha.mono HB.u);have HP:=h_ (hp.mono HB.u)
 have hwc:=(hw.mono HB.u).at hop0 hop25
 have HT:Hi (phT n l=phT n l):=h_ rfl
 obtain⟨t,ht⟩:=Nq (phT n l)
 rw[ht]
 have HX:=h_ ht
 obtain⟨y0,y1,y2,y3,y4⟩:=five HK.u
 have HL:=h_ hl;have HS:=h_ hs
 clear ha hw hp HT ht hl hs
 go_enter Tryz.func206,Tryz.ntmps206
 go_wp2_with fail
 try rw[hW0]
 clear hW0
 have hopn:((n.op.toNat:Nat):Int)=n.op:=by omega
 refine wp_region_held_drew (S:=fun w'=>w'.cell? ⟨w.heap.size,0,none⟩=some (J9 n.op)/\w'.cell? ⟨3,n.op.toNat,none⟩=some (.string (wrd n.op))) (by kernel_rfl) ⟨y0,hwc⟩ (fun zz=>?_)
 clear y0 y1 y2 y3 y4 hwc
 refine tj 0 8 (Yc w.heap.size 0) zz ?_
 refine tj 1 9 (J9 n.op) zz ?_
 refine tj 3 11 (Yc w.heap.size 0) zz ?_
 refine tj 4 12 (J9 n.op) zz ?_
 simp only[sX,sY,sZ]
 refine tj 5 13 (Yc 3 n.op.toNat) zz ?_ (hy:=fun w hS=>by simp[execOp,go_sem, *];intro h;omega)
 refine tj 6 14 (.string (wrd n.op)) zz ?_
 simp only[sX,sY,sZ]
 refine callY (i:=2) (f:=207) (args:=#[J9 n.op]) (R:=fun r wz=>r=J9 (lvl n.op)/\wz=W0.drew) 10 rfl rfl (by rfl) (by kernel_rfl) ?hrun0 ((q5o _ _).mono fun e w6 ⟨he,hb⟩=>⟨_,he,rfl,hb⟩) ?_
 case hrun0=>simp[execOp,go_sem]
 rintro r3 w3 ⟨rfl,hw⟩
 subst hw
 refine⟨zz,?_⟩
 simp only[sX,sY,sZ]
 refine tj 7 5 (J9 (lvl n.op)) zz ?_
 refine tj 8 6 (.string (wrd n.op)) zz ?_
 simp only[sX,sY,sZ]
 refine wpAnyH_done (by kernel_rfl) ?_ _
 clear zz hopn
 have HD:Hi (Below W0.heap.size W0 W0.drew):=h_ ((bR _ _).drew)
 replace HB:=h_ (HB.u.trans (HD.u.mono HB.u.size));replace HK:=h_ (HK.u.mono HD.u HK.u.lt);replace HA:=h_ (HA.u.mono HD.u);replace HP:=h_ (HP.u.mono HD.u)
 clear HD
 obtain⟨W1,hW1⟩:=Nq W0.drew
 rw[hW1]at HB HK HA HP⊢
 clear hW1
 obtain⟨W0,hW0⟩:∃W0,W0=W1:=⟨_,rfl⟩
 subst hW0
 obtain⟨y0,y1,y2,y3,y4⟩:=five HK.u
 rcases ops2 n.op with h | h | ⟨h,h'⟩
 . have HY:Hi (showB n.v.k n.v.n n.v.s=t):=h_ (by rw[<- HX.u,phT,Yz h])
   rw[h]at y0;go_wp2_with fail;refine(q3g _ _ _ _ hf.1 hf.2.2.1 hf.2.2.2 HP.u).mono ?_;rintro r w2 ⟨rfl,hb⟩;replace HB:=mT HB hb;clear hb;go_wp2_with fail;go_ret;exact⟨qla HY.u,HB.u⟩
 . have HY:Hi (n.nm=t):=h_ (by rw[<- HX.u,phT,Yt (by omega),Yz h])
   rw[h]at y0;go_wp2_with fail;go_ret;exact⟨qla HY.u,HB.u⟩
 have n0:(n.op==0)=false:=Yf.2 h
 have n1:(n.op==1)=false:=Yf.2 h'
 have hop:2<=n.op:=by omega
 have hwsz:=qhb hop hop25
 have hfa:=hf
 clear hf hfa
 by_cases h2:n.op=2
 . have e1:arn n=1:=by unfold arn;rw[ar_one (.inl h2)];rfl
   rw[e1]at HL⊢;obtain⟨x,rfl⟩:=list1 HL.u;have HY:Hi (⟨#[45]⟩++wrap 6 x=t):=h_ (by rw[<- HX.u,phT,Yt h,Yt h',Yz h2];rfl);obtain⟨b1,o1,rfl,-,c0,c1,c2⟩:=HA.u 0 (by simp);simp only[Vz,Nat.zero_mul,Zr]at c0 c1 c2;have hsx:x.t.size<=2000000:=by have:=HS.u;simp only[tot]at this;omega
   have hws:=qd8 6 x;rw[h2]at y0;rw[show wrd n.op=⟨#[45]⟩ by rw[h2];rfl,show lvl n.op=6 by rw[h2];rfl];clear n0 n1 hop h h' h2 hwsz;go_wp2_with fail;refine(q4l x 6 _ hsx).mono ?_;rintro r w2 ⟨rfl,hb⟩;replace HB:=mT HB hb;generalize wrap 6 x=q at *;clear hb;go_wp2_with fail;go_ret;exact⟨qla HY.u,HB.u⟩
 by_cases h3:n.op=3
 . have e1:arn n=1:=by unfold arn;rw[ar_one (.inr h3)];rfl
   rw[e1]at HL⊢;obtain⟨x,rfl⟩:=list1 HL.u;have HY:Hi (⟨#[110,111,116,32]⟩++wrap 6 x=t):=h_ (by rw[<- HX.u,phT,Yt h,Yt h',Yt h2,Yz h3];rfl);obtain⟨b1,o1,rfl,-,c0,c1,c2⟩:=HA.u 0 (by simp);simp only[Vz,Nat.zero_mul,Zr]at c0 c1 c2;have hsx:x.t.size<=2000000:=by have:=HS.u;simp only[tot]at this;omega
   have hws:=qd8 6 x;rw[h3]at y0;rw[show wrd n.op=⟨#[110,111,116]⟩ by rw[h3];rfl,show lvl n.op=6 by rw[h3];rfl];clear n0 n1 hop h h' h2 h3 hwsz;go_wp2_with fail;refine(q4l x 6 _ hsx).mono ?_;rintro r w2 ⟨rfl,hb⟩;replace HB:=mT HB hb;generalize wrap 6 x=q at *;clear hb;go_wp2_with fail;go_ret;exact⟨qla HY.u,HB.u⟩
 have n2:(n.op==2)=false:=Yf.2 h2
 have n3:(n.op==3)=false:=Yf.2 h3
 by_cases h7:lvl n.op=7
 . have HY:Hi (wrd n.op++⟨#[40]⟩++jn (l.map (·.t))++⟨#[41]⟩=t):=h_ (by rw[<- HX.u,phT,Yt h,Yt h',Yt h2,Yt h3,Yz h7])
   have har:=arn_le n;have har1:1<=arn n:=by
    have:=qdf n;have e:=ar_opn n.op;rw[Yz (by omega)]at e;have:1<=opn n.op:=(by unfold opn;(repeat' split) <;> omega);omega
   have hjs:=qje l;have hst:=HS.u;rw[HL.u]at hjs;rw[h7];clear h h' h2 h3 h7;generalize wrd n.op=wd at *;go_wp2_with fail;refine(show Calls Tryz.prog 213 #[.slice a (arn n) c] W0 fun r w'=>r=.returned (.string (jn (l.map (·.t))))/\Below W0.heap.size W0 w' from ?_).mono ?_
   . rw[<- HL.u];exact q8d a c l W0 (by have:=HL.u;omega) (by have:=HL.u;omega) HA.u HS.u
   rintro r w2 ⟨rfl,hb⟩;replace HB:=mT HB hb;clear hb;generalize jn (l.map (·.t))=q at *;have hA:(wd++(⟨#[40]⟩:ByteArray)).size=wd.size+1:=by rw[Yo];rfl
   have hA2:(wd++(⟨#[40]⟩:ByteArray)++q).size=wd.size+1+q.size:=by rw[Yo,hA]
   go_wp2_with fail;go_ret;exact⟨qla HY.u,HB.u⟩
 . have e2:arn n=2:=by unfold arn;rw[ar_two hop hop25 h7 h2 h3];rfl
   rw[e2]at HL⊢;obtain⟨x,y,rfl⟩:=list2 HL.u;have HY:Hi (wrap (lft n.op) x++⟨#[32]⟩++wrd n.op++⟨#[32]⟩++wrap (lvl n.op+1) y=t):=h_ (by rw[<- HX.u,phT,Yt h,Yt h',Yt h2,Yt h3,Yt h7];rfl);have hg0:=HA.u 0 (by simp);have hg1:=HA.u 1 (by simp);obtain⟨b1,o1,rfl,hc0⟩:=hg0;obtain⟨b2,o2,e12,hc1⟩:=hg1;cases e12;simp only[Vz,List.getElem_cons_succ,Nat.zero_mul,Nat.one_mul,Zr]at hc0 hc1;have HC:=h_ (And.intro hc0 hc1);have hsx:x.t.size+y.t.size<=2000000:=by have:=HS.u;simp only[tot]at this;omega
   have hlv:=qk0 n.op;have HLf:Hi (lft n.op=if lvl n.op=3 then 4 else lvl n.op):=h_ rfl;obtain⟨lv,hlve⟩:=Nq (lvl n.op);obtain⟨lf,hlfe⟩:=Nq (lft n.op);rw[hlve]at HY HLf h7 hlv⊢;rw[hlfe]at HY HLf;have n7:(lv==7)=false:=Yf.2 h7;clear hlve hlfe h h' h2 h3;by_cases h3:lv=3
   . have hl4:lf=4:=by rw[HLf.u,Yz h3]
     subst h3 hl4;simp only[show(3:Int)+1=4 from rfl]at HY;clear HLf n7 h7 hlv;go_wp2_with fail;refine wp_region_held_drew (S:=fun w'=>PCel w' b1 o1 x/\PCel w' b1 (o1+3) y) (by kernel_rfl) ⟨hc0,hc1⟩ (fun zz=>?_);refine tj 0 65 (.slice (some ⟨b1,o1,none⟩) 2 c) zz ?_;refine tj 1 66 (Yc b1 o1) zz ?_;refine tj 2 67 (.agg (Jz x.t x.lv x.d)) zz ?_ (hy:=fun w hS=>by obtain⟨⟨-,q0,q1,q2⟩,-,q3,q4,q5⟩:=hS;simp[execOp,go_sem,q0,q1,q2]);refine tj 3 68 (J9 4) zz ?_;simp only[sX,sY,sZ];refine tj 6 71 (.string (wrd n.op)) zz ?_;refine tj 9 74 (.slice (some ⟨b1,o1,none⟩) 2 c) zz ?_;refine tj 10 75 (Yc b1 (o1+3)) zz ?_;refine tj 11 76 (.agg (Jz y.t y.lv y.d)) zz ?_ (hy:=fun w hS=>by obtain⟨⟨-,q0,q1,q2⟩,-,q3,q4,q5⟩:=hS;simp[execOp,go_sem,q3,q4,q5]);simp only[sX,sY,sZ];refine tj 12 77 (J9 3) zz ?_;refine tj 13 78 (J9 4) zz ?_ (hy:=fun w hS=>by simp[execOp,go_sem, *];rfl);simp only[sX,sY,sZ];refine callY (i:=4) (f:=212) (args:=#[.agg (Jz x.t x.lv x.d),J9 4]) (R:=fun r wz=>r=.string (wrap 4 x)/\Below W0.heap.size W0 wz) 69 rfl rfl (by rfl) (by kernel_rfl) ?hrun1 ((q4l x 4 _ (by omega)).mono fun e w6 ⟨he,hb⟩=>⟨_,he,rfl,q25 hb⟩) ?_
     case hrun1=>simp[execOp,go_sem]
     rintro r3 W4 ⟨rfl,hb⟩;replace HB:=mT HB hb;replace zz:PCel W4 b1 o1 x/\PCel W4 b1 (o1+3) y:=⟨HC.u.1.mono hb,HC.u.2.mono hb⟩;clear hb hc0 hc1;refine⟨zz,?_⟩;simp only[sX,sY,sZ];have ht1:=qd8 4 x;have ht2:=qd8 4 y;obtain⟨t1,ht1e⟩:=Nq (wrap 4 x);rw[ht1e]at HY ht1⊢;clear ht1e;have hA:(t1++(⟨#[32]⟩:ByteArray)).size=t1.size+1:=(by rw[Yo];rfl);obtain⟨wd,hwde⟩:=Nq (wrd n.op);rw[hwde]at HY hwsz⊢;clear hwde;refine tj 5 70 (.string (t1++⟨#[32]⟩)) zz ?_ (hy:=fun w hS=>by have:=run_string_add_sum (P:=Tryz.prog) w t1 ⟨#[32]⟩ (by show t1.size+1<=_;omega);simp[execOp,go_sem,this]);simp only[sX,sY,sZ];have hA2:(t1++(⟨#[32]⟩:ByteArray)++wd).size=t1.size+1+wd.size:=(by rw[Yo,hA]);refine tj 7 72 (.string (t1++⟨#[32]⟩++wd)) zz ?_ (hy:=fun w hS=>by have:=run_string_add_sum (P:=Tryz.prog) w (t1++⟨#[32]⟩) wd (by omega);simp[execOp,go_sem,this]);simp only[sX,sY,sZ];have hA3:(t1++(⟨#[32]⟩:ByteArray)++wd++⟨#[32]⟩).size=t1.size+1+wd.size+1:=(by rw[Yo,hA2];rfl);refine tj 8 73 (.string (t1++⟨#[32]⟩++wd++⟨#[32]⟩)) zz ?_ (hy:=fun w hS=>by have:=run_string_add_sum (P:=Tryz.prog) w (t1++⟨#[32]⟩++wd) ⟨#[32]⟩ (by rw[hA2];show t1.size+1+wd.size+1<=_;omega);simp[execOp,go_sem,this]);simp only[sX,sY,sZ];refine callY (i:=14) (f:=212) (args:=#[.agg (Jz y.t y.lv y.d),J9 4]) (R:=fun r wz=>r=.string (wrap 4 y)/\Below W4.heap.size W4 wz) 79 rfl rfl (by rfl) (by kernel_rfl) ?hrun2 ((q4l y 4 _ (by omega)).mono fun e w6 ⟨he,hb⟩=>⟨_,he,rfl,hb⟩) ?_
     case hrun2=>simp[execOp,go_sem]
     rintro r3 W5 ⟨rfl,hb⟩;replace HB:=mT HB hb;replace zz:PCel W5 b1 o1 x/\PCel W5 b1 (o1+3) y:=⟨zz.1.mono hb,zz.2.mono hb⟩;clear hb;refine⟨zz,?_⟩;simp only[sX,sY,sZ];obtain⟨t2,ht2e⟩:=Nq (wrap 4 y);rw[ht2e]at HY ht2⊢;clear ht2e;obtain⟨u3,hu3⟩:=Nq (t1++(⟨#[32]⟩:ByteArray)++wd++⟨#[32]⟩);rw[hu3]at HY hA3⊢;clear hu3 hA hA2;refine tj 15 80 (.string (u3++t2)) zz ?_ (hy:=fun w hS=>by have:=run_string_add_sum (P:=Tryz.prog) w u3 t2 (by omega);simp[execOp,go_sem,this]);refine tj 16 4 (.string (u3++t2)) zz ?_;simp only[sX,sY,sZ];refine wpAnyH_done (by kernel_rfl) ?_ _;clear zz;go_wp2;go_ret;exact⟨qla HY.u,HB.u⟩
   . have hl4:lf=lv:=by rw[HLf.u,Yt h3]
     subst hl4;have n3':(lf==3)=false:=Yf.2 h3;clear HLf h7 h3;go_wp2_with fail;refine wp_region_held_drew (S:=fun w'=>PCel w' b1 o1 x/\PCel w' b1 (o1+3) y) (by kernel_rfl) ⟨hc0,hc1⟩ (fun zz=>?_);refine tj 0 65 (.slice (some ⟨b1,o1,none⟩) 2 c) zz ?_;refine tj 1 66 (Yc b1 o1) zz ?_;refine tj 2 67 (.agg (Jz x.t x.lv x.d)) zz ?_ (hy:=fun w hS=>by obtain⟨⟨-,q0,q1,q2⟩,-,q3,q4,q5⟩:=hS;simp[execOp,go_sem,q0,q1,q2]);refine tj 3 68 (J9 lf) zz ?_;simp only[sX,sY,sZ];refine tj 6 71 (.string (wrd n.op)) zz ?_;refine tj 9 74 (.slice (some ⟨b1,o1,none⟩) 2 c) zz ?_;refine tj 10 75 (Yc b1 (o1+3)) zz ?_;refine tj 11 76 (.agg (Jz y.t y.lv y.d)) zz ?_ (hy:=fun w hS=>by obtain⟨⟨-,q0,q1,q2⟩,-,q3,q4,q5⟩:=hS;simp[execOp,go_sem,q3,q4,q5]);simp only[sX,sY,sZ];refine tj 12 77 (J9 lf) zz ?_;refine tj 13 78 (J9 (lf+1)) zz ?_ (hy:=fun w hS=>by simp[execOp,go_sem, *];rw[IntKind.wrap_i64];omega);simp only[sX,sY,sZ];refine callY (i:=4) (f:=212) (args:=#[.agg (Jz x.t x.lv x.d),J9 lf]) (R:=fun r wz=>r=.string (wrap lf x)/\Below W0.heap.size W0 wz) 69 rfl rfl (by rfl) (by kernel_rfl) ?hrun1 ((q4l x lf _ (by omega)).mono fun e w6 ⟨he,hb⟩=>⟨_,he,rfl,q25 hb⟩) ?_
     case hrun1=>simp[execOp,go_sem]
     rintro r3 W4 ⟨rfl,hb⟩;replace HB:=mT HB hb;replace zz:PCel W4 b1 o1 x/\PCel W4 b1 (o1+3) y:=⟨HC.u.1.mono hb,HC.u.2.mono hb⟩;clear hb hc0 hc1;refine⟨zz,?_⟩;simp only[sX,sY,sZ];have ht1:=qd8 lf x;have ht2:=qd8 (lf+1) y;obtain⟨t1,ht1e⟩:=Nq (wrap lf x);rw[ht1e]at HY ht1⊢;clear ht1e;have hA:(t1++(⟨#[32]⟩:ByteArray)).size=t1.size+1:=(by rw[Yo];rfl);obtain⟨wd,hwde⟩:=Nq (wrd n.op);rw[hwde]at HY hwsz⊢;clear hwde;refine tj 5 70 (.string (t1++⟨#[32]⟩)) zz ?_ (hy:=fun w hS=>by have:=run_string_add_sum (P:=Tryz.prog) w t1 ⟨#[32]⟩ (by show t1.size+1<=_;omega);simp[execOp,go_sem,this]);simp only[sX,sY,sZ];have hA2:(t1++(⟨#[32]⟩:ByteArray)++wd).size=t1.size+1+wd.size:=(by rw[Yo,hA]);refine tj 7 72 (.string (t1++⟨#[32]⟩++wd)) zz ?_ (hy:=fun w hS=>by have:=run_string_add_sum (P:=Tryz.prog) w (t1++⟨#[32]⟩) wd (by omega);simp[execOp,go_sem,this]);simp only[sX,sY,sZ];have hA3:(t1++(⟨#[32]⟩:ByteArray)++wd++⟨#[32]⟩).size=t1.size+1+wd.size+1:=(by rw[Yo,hA2];rfl);refine tj 8 73 (.string (t1++⟨#[32]⟩++wd++⟨#[32]⟩)) zz ?_ (hy:=fun w hS=>by have:=run_string_add_sum (P:=Tryz.prog) w (t1++⟨#[32]⟩++wd) ⟨#[32]⟩ (by rw[hA2];show t1.size+1+wd.size+1<=_;omega);simp[execOp,go_sem,this]);simp only[sX,sY,sZ];refine callY (i:=14) (f:=212) (args:=#[.agg (Jz y.t y.lv y.d),J9 (lf+1)]) (R:=fun r wz=>r=.string (wrap (lf+1) y)/\Below W4.heap.size W4 wz) 79 rfl rfl (by rfl) (by kernel_rfl) ?hrun2 ((q4l y (lf+1) _ (by omega)).mono fun e w6 ⟨he,hb⟩=>⟨_,he,rfl,hb⟩) ?_
     case hrun2=>simp[execOp,go_sem]
     rintro r3 W5 ⟨rfl,hb⟩;replace HB:=mT HB hb;replace zz:PCel W5 b1 o1 x/\PCel W5 b1 (o1+3) y:=⟨zz.1.mono hb,zz.2.mono hb⟩;clear hb;refine⟨zz,?_⟩;simp only[sX,sY,sZ];obtain⟨t2,ht2e⟩:=Nq (wrap (lf+1) y);rw[ht2e]at HY ht2⊢;clear ht2e;obtain⟨u3,hu3⟩:=Nq (t1++(⟨#[32]⟩:ByteArray)++wd++⟨#[32]⟩);rw[hu3]at HY hA3⊢;clear hu3 hA hA2;refine tj 15 80 (.string (u3++t2)) zz ?_ (hy:=fun w hS=>by have:=run_string_add_sum (P:=Tryz.prog) w u3 t2 (by omega);simp[execOp,go_sem,this]);refine tj 16 4 (.string (u3++t2)) zz ?_;simp only[sX,sY,sZ];refine wpAnyH_done (by kernel_rfl) ?_ _;clear zz;go_wp2;go_ret;exact⟨qla HY.u,HB.u⟩
theorem qhr {V:Bool}{p:Prop}(hV:V=true ↔ p)(h:¬ p):V=false:=by
 cases V with
 | false=>rfl
 | true=>exact absurd (hV.1 rfl) h
def Pairs (w:World)(a:Option Addr)(n:Nat)(f g:Nat->Int):Prop :=
 ∀k,k<n->∃b off,a=some ⟨b,off,none⟩/\b<w.heap.size/\w.cell? ⟨b,off+k*2,none⟩=some (J9 (f k))/\w.cell? ⟨b,off+k*2+1,none⟩=some (J9 (g k))
theorem Pairs.mono {w w':World}{a:Option Addr}{n:Nat}{f g:Nat->Int}(h:Pairs w a n f g)(hb:Below w.heap.size w w'):Pairs w' a n f g:=fun k hk=>by
 obtain⟨b,off,rfl,hl,hc,hd⟩:=h k hk
 exact⟨b,off,rfl,Y5 hl hb.size,(hb.cell (p:=⟨b,off+k*2,none⟩) hl).trans hc,(hb.cell (p:=⟨b,off+k*2+1,none⟩) hl).trans hd⟩
theorem q0v (N:Int)(a:Option Addr)(m c:Nat)(w:World)(hm:m<=9223372036854775807)(hno:¬ (1<=N/\N<=32/\m<=256)) :
 Calls Tryz.prog 29 #[.agg (Jm N a m c)] w fun e w'=>e=.returned (.bool false)/\Below w.heap.size w w':=by
 have hcase:N<1∨(1<=N/\32<N)∨(1<=N/\N<=32/\256<m):=by omega
 rcases hcase with h | ⟨h,h'⟩ | ⟨h,h',h''⟩
 all_goals
  go_enter Tryz.func29,Tryz.ntmps29;go_wp2;go_ret;exact⟨rfl,(bR _ _).alloc (nR _) _⟩
theorem q0u (N:Int)(a:Option Addr)(m c:Nat)(f g:Nat->Int)(w:World)(h1:1<=N)(h32:N<=32)(hm:m<=256)(ha:Pairs w a m f g)(V:Bool)(hV:V=true ↔ ∀k,k<m->0<=f k/\f k<N/\0<=g k/\g k<N) :
 Calls Tryz.prog 29 #[.agg (Jm N a m c)] w fun e w'=>e=.returned (.bool V)/\Below w.heap.size w w':=by
 have HV:=h_ hV;clear hV
 go_enter Tryz.func29,Tryz.ntmps29
 go_wp2
 have hb:Below w.heap.size w (w.alloc (.cells (Jm N a m c) 39)):=(bR _ _).alloc (nR _) _
 have HB:=h_ hb;clear hb
 have B0:=Blk.new w 39 (Jm N a m c)
 have c0:=B0.cell 0;have c1:=B0.cell 1
 simp only[Yu,Yh]at c0 c1
 have hs:w.heap.size<(w.alloc (.cells (Jm N a m c) 39)).heap.size:=by simp
 have PA:=ha.mono HB.u
 generalize (w.alloc (.cells (Jm N a m c) 39))=W at *
 clear B0
 go_loopw [3] (fun i wr=>∃k:Nat,k<=m/\i=J9 k/\(∀j,j<k->0<=f j/\f j<N/\0<=g j/\g j<N)/\∃n,wr=W.drewN n) (fun i _=>m - (intOf i).toNat)
 case atStart=>exact⟨0,nZ _,rfl,fun j h=>absurd h (nL _),0,rfl⟩
 case round =>
  obtain⟨k,hk,rfl,heq,n,rfl⟩:=hrel;have HE:=h_ heq;clear heq;have HD:=h_ (q33 W n);by_cases hlt:k<m
  . obtain⟨b,off,rfl,hl,hc,hd⟩:=PA k hlt
    have hF:¬ (0<=f k/\f k<N/\0<=g k/\g k<N)->V=false:=fun hn=>qhr HV.u fun hall=>hn (hall k hlt);have HF:=h_ hF;clear hF;by_cases x1:f k<0
    . go_wp2
      go_quiet (fail)
      go_wp2;go_ret;exact⟨qg2 (HF.u (by omega)).symm,HB.u.trans ⟨rfl,rfl,rfl,nR _,fun _ _=>rfl⟩⟩
    by_cases x2:N<=f k
    . go_wp2
      go_quiet (fail)
      go_wp2;go_ret;exact⟨qg2 (HF.u (by omega)).symm,HB.u.trans ⟨rfl,rfl,rfl,nR _,fun _ _=>rfl⟩⟩
    by_cases x3:g k<0
    . go_wp2
      go_quiet (fail)
      go_wp2
      go_quiet (fail)
      go_wp2;go_ret;exact⟨qg2 (HF.u (by omega)).symm,HB.u.trans ⟨rfl,rfl,rfl,nR _,fun _ _=>rfl⟩⟩
    by_cases x4:N<=g k
    . go_wp2
      go_quiet (fail)
      go_wp2
      go_quiet (fail)
      go_wp2;go_ret;exact⟨qg2 (HF.u (by omega)).symm,HB.u.trans ⟨rfl,rfl,rfl,nR _,fun _ _=>rfl⟩⟩
    go_wp2
    go_quiet (fail)
    go_wp2
    go_quiet (fail)
    go_wp2;go_roundw
    case rel=>exact⟨k+1,by omega,by go_num,fun j hj=>by
     by_cases e:j=k
     . subst e;omega
     . exact HE.u j (by omega),_,rfl⟩
    case measure=>simp[intOf];omega
  . go_wp2
    go_ret;exact⟨qg2 (HV.u.2 fun j hj=>HE.u j (by omega)).symm,HB.u.trans ⟨rfl,rfl,rfl,nR _,fun _ _=>rfl⟩⟩
def upd (T:Nat->Nat->Bool)(lo hi:Nat):Nat->Nat->Bool:=fun a b=>T a b||(decide (b=hi)&&T a lo)
def updTo (T:Nat->Nat->Bool)(lo hi k:Nat):Nat->Nat->Bool:=fun a b=>T a b||(decide (a<k)&&(decide (b=hi)&&T a lo))
def pass (T:Nat->Nat->Bool)(f g:Nat->Nat):Nat->Nat->Nat->Bool
 | 0=>T
 | j+1=>upd (pass T f g j) (f j) (g j)
def rounds (T:Nat->Nat->Bool)(f g:Nat->Nat)(m:Nat):Nat->Nat->Nat->Bool
 | 0=>T
 | r+1=>pass (rounds T f g m r) f g m
def diag:Nat->Nat->Bool:=fun a b=>decide (a=b)
theorem qct {n:Nat}{T T':Nat->Nat->Bool}(h:∀a b,a<n->b<n->T a b=T' a b):bs (n*n) (tabB n T)=bs (n*n) (tabB n T'):=by
 unfold bs
 refine Z2 fun i hi=>?_
 have hi':i<n*n:=Y3.1 hi
 have hn:0<n:=Nat.pos_of_ne_zero fun e=>by subst e;simp at hi'
 unfold tabB
 rw[h _ _ (by rw[Nat.div_lt_iff_lt_mul hn];exact hi') (On _ hn)]
theorem qlz {n a b:Nat}(T:Nat->Nat->Bool)(hb:b<n):(bs (n*n) (tabB n T)).set (a*n+b) (.bool true)=bs (n*n) (tabB n fun x y=>T x y||(decide (x=a)&&decide (y=b))):=by
 refine q8c (by simp[q9p]) fun j hj=>?_
 rw[List.getElem?_set]
 by_cases e:a*n+b=j
 . subst e
   rw[Yz rfl,Yz (by rw[q9p];exact hj),qly _ hb];simp
 . rw[Yt e]
   have hne:(decide (j / n=a)&&decide (j % n=b))=false:=by
    rw[Bool.and_eq_false_iff,decide_eq_false_iff_not,decide_eq_false_iff_not];by_cases h1:j / n=a
    . right;intro h2
      apply e;have:=Nat.div_add_mod j n;rw[h1,h2,Nat.mul_comm]at this;exact this
    . exact .inl h1
   simp only[bs,tabB,hne,Bool.or_false];simp[hj]
theorem q2d (n:Nat)(a:Option Addr)(m c:Nat)(f g:Nat->Nat)(w:World)(h1:1<=n)(h32:n<=32)(hm:m<=256)(ha:Pairs w a m (fun k=>(f k:Int)) (fun k=>(g k:Int)))(hf:∀k,k<m->f k<n)(hg:∀k,k<m->g k<n) :
 Calls Tryz.prog 30 #[.agg (Jm n a m c)] w fun e w'=>∃G,e=.returned (.slice (some ⟨G,0,none⟩) (n*n) (n*n))/\Blk w' G 4 (bs (n*n) (tabB n (rounds diag f g m n)))/\w.heap.size<=G/\Below w.heap.size w w':=by
 obtain⟨i0,hi,hz0,hz1,hz2⟩:=info_parts qb0
 have q1:(n:Int)*n<=1024:=by rw[<- Zi];have:=sq_le h32;omega
 have q0:0<=(n:Int)*n:=by rw[<- Zi];omega
 have q2:=sq_le h32
 have hbn:i0.bytes*(n*n)<=281474976710656:=by rw[hz2];omega
 have hC:((n:Int)*n)=((n*n:Nat):Int):=by simp
 have HC:=h_ hC;clear hC
 have hB0:Below w.heap.size w (w.alloc (.cells (Jm n a m c) 39)):=(bR _ _).alloc (nR _) _
 have B0:=Blk.new w 39 (Jm n a m c)
 have PA:=ha.mono hB0
 have hs:(w.alloc (.cells (Jm n a m c) 39)).heap.size=w.heap.size+1:=by simp
 go_enter Tryz.func30,Tryz.ntmps30
 go_wp2_with (at_make;refine wpList_make_full _ rfl (.tmp 15) (.tmp 15) 33 rfl (w.heap.size+1) 4 i0 (.bool false) 1 Tryz.underlying33 hi hz0 hz1 .i64 .i64 _ _ (n*n) rfl rfl HC.u HC.u hbn (by unfold maxLen;omega) (by simp) ?_;intro w1 hown hgrow)
 rw[hs]at hown
 try rw[hs]
 have hb1:Below (w.heap.size+1) (w.alloc (.cells (Jm n a m c) 39)) w1:=(bR _ _).grown hgrow (by simp) (fun k e=>by cases e)
 have hG:=Blk.of_owns hown
 have hG0:Blk w1 (w.heap.size+1) 4 (bs (n*n) (tabB n fun x y=>decide (x=y)&&decide (x<0))):=by
  have e:List.replicate (n*n) (Value.bool false)=bs (n*n) (tabB n fun x y=>decide (x=y)&&decide (x<0)):=by
   refine q8c (by simp) fun j hj=>?_;simp[tabB,hj]
  have hG':Blk w1 (w.heap.size+1) 4 (madeCells #[.bool false] (n*n)).toList:=by simpa [Value.cells] using hG
  rw[toList_madeCells_one]at hG';rw[<- e];exact hG'
 have HG:=h_ hG0;have HB:=h_ hb1;have HB0:=h_ hB0;have H0:=h_ B0;have HP:=h_ PA
 clear hown hgrow hG hG0 hb1 hbn hi hz0 hz1 hz2 hB0 B0 PA ha
 generalize hWW:w.alloc (.cells (Jm n a m c) 39)=W at *
 clear hWW
 have hnn:n*n<=1024:=q2
 have hsW:W.heap.size<=w.heap.size+1:=by rw[hs];exact nR _
 go_loopw [5] (fun i wr=>∃k:Nat,k<=n/\i=J9 k/\Blk wr (w.heap.size+1) 4 (bs (n*n) (tabB n fun x y=>decide (x=y)&&decide (x<k)))/\Below (w.heap.size+1) W wr) (fun i _=>n - (intOf i).toNat)
 case atStart=>exact⟨0,nZ _,rfl,HG.u,HB.u⟩
 case round =>
  clear HG HB;obtain⟨k,hk,rfl,hG,hB⟩:=hrel;have HG:=h_ hG;have HB:=h_ hB;by_cases hlt:k<n
  . have i0:=idx_lt (n:=n) (x:=k) (y:=k) (by omega) (by omega)
    have i1:0<=(k:Int)*n:=(by rw[<- Zi];omega);have i2:(k:Int)*n+k<((n*n:Nat):Int):=(by rw[<- Zi];omega);have i3:(k:Int)*n<=1024:=(by rw[<- Zi];omega);have hcell:=hG.cell (k*n+k);have hfree:=hG.free (k*n+k);have e0:(bs (n*n) (tabB n fun x y=>decide (x=y)&&decide (x<k)))[k*n+k]? = some (.bool false):=by
     simp only[bs,Zk,Om i0,Option.map_some,qly _ hlt];simp
    rw[e0]at hcell;clear hG hB e0;go_wp2;go_roundw
    case rel =>
     refine⟨k+1,by omega,by go_num,?_,HB.u.setCell (nR _) _⟩;have h2:=HG.u.set (k*n+k) (.bool true);rw[qlz _ hlt]at h2;have e:bs (n*n) (tabB n fun x y=>(decide (x=y)&&decide (x<k))||(decide (x=k)&&decide (y=k)))=bs (n*n) (tabB n fun x y=>decide (x=y)&&decide (x<k+1)):=qct fun x y hx hy=>by
      rw[Zv];simp only[Zu,Yn,Yp];omega
     rw[e]at h2;exact h2
    case measure=>simp[intOf];omega
  . obtain rfl:k=n:=by omega
    clear hG hB hlt hk;have HG1:Hi (Blk wr (w.heap.size+1) 4 (bs (k*k) (tabB k (rounds diag f g m 0)))):=by
     have h2:=HG.u;have e:bs (k*k) (tabB k fun x y=>decide (x=y)&&decide (x<k))=bs (k*k) (tabB k (rounds diag f g m 0)):=qct fun x y hx hy=>by
      simp only[rounds,diag];rw[Zv];simp only[Yn,Yp];omega
     rw[e]at h2;exact h2
    clear HG;go_wp2_with fail;go_loopw [6] (fun i wr'=>∃r:Nat,r<=k/\i=J9 r/\Blk wr' (w.heap.size+1) 4 (bs (k*k) (tabB k (rounds diag f g m r)))/\Below (w.heap.size+1) W wr') (fun i _=>k - (intOf i).toNat)
    case atStart=>exact⟨0,nZ _,rfl,HG1.u,HB.u⟩
    case round =>
     clear HG1 HB;obtain⟨r,hr,rfl,hG,hB⟩:=hrel;have HG:=h_ hG;have HB:=h_ hB;clear hG hB;by_cases hlr:r<k
     . go_wp2_with fail
       have HG1:Hi (Blk wr (w.heap.size+1) 4 (bs (k*k) (tabB k (pass (rounds diag f g m r) f g 0)))):=HG.u;clear HG;go_loopw [7] (fun i wr'=>∃j:Nat,j<=m/\i=J9 j/\Blk wr' (w.heap.size+1) 4 (bs (k*k) (tabB k (pass (rounds diag f g m r) f g j)))/\Below (w.heap.size+1) W wr') (fun i _=>m - (intOf i).toNat)
       case atStart=>exact⟨0,nZ _,rfl,HG1.u,HB.u⟩
       case round =>
        clear HG1 HB;obtain⟨j,hj,rfl,hG,hB⟩:=hrel;have HG:=h_ hG;have HB:=h_ hB;clear hG hB;obtain⟨T,hT⟩:=Nq (pass (rounds diag f g m r) f g j);rw[hT]at HG;have HT:=h_ hT;clear hT;by_cases hlj:j<m
        . have P2:=HP.u.mono (HB.u.mono hsW)
          obtain⟨b,off,rfl,hl,hc1,hc2⟩:=P2 j hlj;dsimp only at hc1 hc2;have flo:=hf j hlj;have ghi:=hg j hlj;obtain⟨lo,hlo⟩:=Nq (f j);obtain⟨hi,hhi⟩:=Nq (g j);rw[hlo]at hc1 flo;rw[hhi]at hc2 ghi;have HLH:=h_ (And.intro hlo hhi);clear hlo hhi;have o2:=(H0.u.mono HB.u (Oh _)).cell 1;simp only[Yu,Yh]at o2;clear P2;go_wp2_with fail;have HG1:Hi (Blk wr (w.heap.size+1) 4 (bs (k*k) (tabB k (updTo T lo hi 0)))):=by
           have h2:=HG.u;rw[qct (T':=updTo T lo hi 0) fun x y _ _=>by simp[updTo]]at h2;exact h2
          clear HG hc1 hc2 o2;go_loopw [10] (fun i wr'=>∃q:Nat,q<=k/\i=J9 q/\Blk wr' (w.heap.size+1) 4 (bs (k*k) (tabB k (updTo T lo hi q)))/\Below (w.heap.size+1) W wr') (fun i _=>k - (intOf i).toNat)
          case atStart=>exact⟨0,nZ _,rfl,HG1.u,HB.u⟩
          case round =>
           clear HG1 HB;obtain⟨q,hq,rfl,hG,hB⟩:=hrel;have HG:=h_ hG;have HB:=h_ hB;clear hB;by_cases hlq:q<k
           . have l0:=idx_lt (n:=k) (x:=q) (y:=lo) (by omega) (by omega)
             have l1:0<=(q:Int)*k:=(by rw[<- Zi];omega);have l2:(q:Int)*k+lo<((k*k:Nat):Int):=(by rw[<- Zi];omega);have l3:(q:Int)*k<=1024:=(by rw[<- Zi];omega);have p0:=idx_lt (n:=k) (x:=q) (y:=hi) (by omega) (by omega);have p1:0<=(q:Int)*k:=(by rw[<- Zi];omega);have p2:(q:Int)*k+hi<((k*k:Nat):Int):=(by rw[<- Zi];omega);have p3:(q:Int)*k<=1024:=(by rw[<- Zi];omega);have cl:=hG.cell (q*k+lo);have ch:=hG.cell (q*k+hi);have fh:=hG.free (q*k+hi);have el:(bs (k*k) (tabB k (updTo T lo hi q)))[q*k+lo]? = some (.bool (updTo T lo hi q q lo)):=by
              simp only[bs,Zk,Om l0,Option.map_some,qly _ flo]
             have eh:(bs (k*k) (tabB k (updTo T lo hi q)))[q*k+hi]? = some (.bool (updTo T lo hi q q hi)):=by
              simp only[bs,Zk,Om p0,Option.map_some,qly _ ghi]
             have e3:updTo T lo hi q q lo=T q lo:=(by simp[updTo]);rw[el,e3]at cl;rw[eh]at ch;obtain⟨vh,hvh⟩:=Nq (updTo T lo hi q q hi);rw[hvh]at ch;clear hG el eh e3 hvh;cases hT:T q lo
             . rw[hT]at cl
               go_wp2;go_roundw
               case rel =>
                refine⟨q+1,by omega,by go_num,?_,HB.u⟩;have h2:=HG.u;rw[qct (T':=updTo T lo hi (q+1)) fun x y _ _=>by
                 simp only[updTo];by_cases e:x=q
                 . subst e;simp[hT]
                 . congr 2;rw[decide_eq_decide];omega]at h2
                exact h2
               case measure=>simp[intOf];omega
             . rw[hT]at cl
               go_wp2;go_roundw
               case rel =>
                refine⟨q+1,by omega,by go_num,?_,HB.u.setCell (nR _) _⟩;have h2:=HG.u.set (q*k+hi) (.bool true);rw[qlz _ ghi]at h2;rw[qct (T':=updTo T lo hi (q+1)) fun x y _ _=>by
                 simp only[updTo];by_cases e:x=q
                 . subst e;simp[hT]
                 . rw[show decide (x=q)=false from Yj e,Bool.false_and,Bool.or_false];congr 2;rw[decide_eq_decide];omega]at h2
                exact h2
               case measure=>simp[intOf];omega
           . obtain rfl:q=k:=by omega
             clear hG;go_wp2_with fail;go_roundw
             case rel =>
              refine⟨j+1,by omega,by go_num,?_,HB.u⟩;have h2:=HG.u;rw[qct (T':=pass (rounds diag f g m r) f g (j+1)) fun x y hx _=>by
               rw[pass,HT.u,HLH.u.1,HLH.u.2];simp[updTo,upd,hx]]at h2
              exact h2
             case measure=>simp[intOf];omega
        . obtain rfl:j=m:=by omega
          have o2:=(H0.u.mono HB.u (Oh _)).cell 1;simp only[Yu,Yh]at o2;go_wp2_with fail;go_roundw
          case rel =>
           refine⟨r+1,by omega,by go_num,?_,HB.u⟩;rw[rounds,HT.u];exact HG.u
          case measure=>simp[intOf];omega
     . obtain rfl:r=k:=by omega
       have hZ:=HB0.u.trans (HB.u.mono (Vl _));have HZ:=h_ hZ;clear hZ;go_wp2;go_ret;exact⟨_,rfl,HG.u,Vl _,HZ.u⟩
end Go.Proofs.YtebbgodlijlioaaGreatDoor
namespace Go.Proofs.YtebbgodlijlioaaGreatDoor
section
variable {f g:Nat->Nat} {m n:Nat}
theorem qh6 {T:Nat->Nat->Bool}{lo hi a b:Nat}(h:T a b=true):upd T lo hi a b=true:=by simp[upd,h]
theorem qc3 {T:Nat->Nat->Bool}{a b i:Nat}:∀{j},i<=j->pass T f g i a b=true->pass T f g j a b=true:=by
 intro j
 induction j with
 | zero=>intro hi h;obtain rfl:i=0:=(by omega);exact h
 | succ j ih =>
  intro hi h;by_cases e:i=j+1
  . subst e;exact h
  . exact qh6 (ih (by omega) h)
theorem q63 {T:Nat->Nat->Bool}{a k j:Nat}(hk:k<j)(h:T a (f k)=true):pass T f g j a (g k)=true:=by
 refine qc3 (i:=k+1) (by omega) ?_
 have h1:pass T f g k a (f k)=true:=qc3 (i:=0) (by omega) h
 rw[pass];simp[upd,h1]
def ClosedRow (f g:Nat->Nat)(m:Nat)(T:Nat->Nat->Bool)(a:Nat):Prop:=∀k,k<m->T a (f k)=true->T a (g k)=true
theorem q62 {T:Nat->Nat->Bool}{a:Nat}(h:ClosedRow f g m T a):∀j,j<=m->∀b,pass T f g j a b=T a b:=by
 intro j
 induction j with
 | zero=>intro _ b;rfl
 | succ j ih =>
  intro hj b;rw[pass,upd,ih (by omega),ih (by omega)];by_cases e:b=g j
  . subst e
    cases h1:T a (f j)
    . simp
    . rw[h j (by omega) h1];rfl
  . rw[show decide (b=g j)=false from Yj e];simp
def cnt (n:Nat)(T:Nat->Nat->Bool)(a:Nat):Nat:=((List.range n).filter (T a)).length
theorem qan {p q:Nat->Bool}(l:List Nat)(h:∀x,p x=true->q x=true):(l.filter p).length<=(l.filter q).length:=by
 induction l with
 | nil=>simp
 | cons x r ih =>
  simp only[List.filter_cons];cases hp:p x
  . cases hq:q x
    . simpa using ih
    . simp;omega
  . rw[h x hp];simpa using ih
theorem qao {p q:Nat->Bool}(l:List Nat)(h:∀x,p x=true->q x=true){y:Nat}(hy:y∈l)(h1:p y=false)(h2:q y=true):(l.filter p).length<(l.filter q).length:=by
 induction l with
 | nil=>cases hy
 | cons x r ih =>
  simp only[List.filter_cons];rcases Zy.1 hy with rfl | hy
  . rw[h1,h2]
    have:=qan r h;simp;omega
  . have:=ih hy
    cases hp:p x
    . cases hq:q x
      . simpa using this
      . simp;omega
    . rw[h x hp];simpa using this
theorem q67 {T:Nat->Nat->Bool}{a b:Nat}:∀r,T a b=true->rounds T f g m r a b=true
 | 0,h=>h
 | r+1,h=>qc3 (i:=0) (by omega) (q67 r h)
theorem q49 (hg:∀k,k<m->g k<n){a:Nat}(ha:a<n):∀r,ClosedRow f g m (rounds diag f g m r) a∨r+1<=cnt n (rounds diag f g m r) a
 | 0=>by
  right;have:(List.filter (fun _=>false) (List.range n)).length<cnt n (rounds diag f g m 0) a:=qao (y:=a) _ (fun x h=>by cases h) (by simpa using ha) rfl (by simp[rounds,diag]);omega
 | r+1=>by
  rcases q49 hg ha r with h | h
  . left
    intro k hk h1;rw[rounds,q62 h m (nR _)]at h1⊢;exact h k hk h1
  . by_cases hc:ClosedRow f g m (rounds diag f g m r) a
    . left
      intro k hk h1;rw[rounds,q62 hc m (nR _)]at h1⊢;exact hc k hk h1
    . right
      have:∃k,k<m/\rounds diag f g m r a (f k)=true/\¬ rounds diag f g m r a (g k)=true:=by
       apply Classical.byContradiction;intro hn;exact hc fun k hk h1=>Classical.byContradiction fun h2=>hn ⟨k,hk,h1,h2⟩
      obtain⟨k,hk,h1,h2⟩:=this;have:cnt n (rounds diag f g m r) a<cnt n (rounds diag f g m (r+1)) a :=
       qao (y:=g k) _ (fun x hx=>qc3 (i:=0) (by omega) hx) (by simpa using hg k hk) (by simpa using h2) (q63 hk h1)
      omega
theorem q2r (hg:∀k,k<m->g k<n){a:Nat}(ha:a<n):ClosedRow f g m (rounds diag f g m n) a:=by
 rcases q49 (f:=f) (m:=m) hg ha n with h | h
 . exact h
 . have:cnt n (rounds diag f g m n) a<=n:=by
    have:=Vr (rounds diag f g m n a) (List.range n);simpa [cnt] using this
   omega
def PairBits (u:Nat->Nat)(f g:Nat->Nat)(m:Nat):Prop:=∀x,x<32->∀y,(u x).testBit y=true ↔ ∃k,k<m/\f k=x/\g k=y
theorem q8x {u:Nat->Nat}(hu:PairBits u f g m)(hf:∀k,k<m->f k<32){T:Nat->Nat->Bool}{a:Nat}(h:∀b,T a b=true->Reach u a b):∀j,j<=m->∀b,pass T f g j a b=true->Reach u a b
 | 0,_,b,hb=>h b hb
 | j+1,hj,b,hb=>by
  rw[pass,upd]at hb;simp only[Zu,Yn,Yp]at hb;rcases hb with hb | ⟨rfl,hb⟩
  . exact q8x hu hf h j (by omega) b hb
  . exact(q8x hu hf h j (by omega) _ hb).step (hf j (by omega)) ((hu _ (hf j (by omega)) _).2 ⟨j,by omega,rfl,rfl⟩)
theorem q4a {u:Nat->Nat}(hu:PairBits u f g m)(hf:∀k,k<m->f k<32){a:Nat}:∀r b,rounds diag f g m r a b=true->Reach u a b
 | 0,b,h=>by
  simp only[rounds,diag,Yp]at h;subst h;exact Reach.refl _ _
 | r+1,b,h=>q8x hu hf (fun b hb=>q4a hu hf r b hb) m (nR _) b h
theorem q4q {u:Nat->Nat}(hn:n<=32)(hu:PairBits u f g m)(hf:∀k,k<m->f k<n)(hg:∀k,k<m->g k<n){a b:Nat}(ha:a<n):rounds diag f g m n a b=true ↔ Reach u a b:=by
 refine⟨q4a hu (fun k hk=>by have:=hf k hk;omega) n b,fun h=>?_⟩
 refine(h (fun x=>x<n/\rounds diag f g m n a x=true) ⟨ha,q67 n (by simp[diag])⟩ ?_).2
 rintro x y ⟨hx,hT⟩ hx32 hy
 obtain⟨k,hk,rfl,rfl⟩:=(hu x hx32 y).1 hy
 exact⟨hg k hk,q2r hg ha k hk hT⟩
end
end Go.Proofs.YtebbgodlijlioaaGreatDoor
