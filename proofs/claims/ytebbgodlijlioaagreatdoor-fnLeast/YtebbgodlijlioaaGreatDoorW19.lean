import Derived.Test.YtebbgodlijlioaaGreatDoorW15
import Derived.Test.YtebbgodlijlioaaGreatDoorW16
import Derived.Maps.AppendAt
import Derived.Maps.Views
set_option maxRecDepth 100000
set_option maxHeartbeats 64000000
namespace Go.Proofs.YtebbgodlijlioaaGreatDoor
open Go Go.RowKit
def Wrds (w:World):Prop:=3<w.heap.size/\∀k,k<26->w.cell? ⟨3,k,none⟩=some (.string (wrdT.getD k ⟨#[]⟩))
theorem Wrds.mono {w w':World}(h:Wrds w)(hb:Below w.heap.size w w'):Wrds w':=⟨Y7 h.1 hb.size,fun k hk=>(hb.cell h.1).trans (h.2 k hk)⟩
theorem Wrds.at {w:World}(h:Wrds w){op:Int}(h0:0<=op)(h1:op<=25):w.cell? ⟨3,op.toNat,none⟩=some (.string (wrd op)):=h.2 op.toNat (by omega)
theorem qi0 (op:Int):1<=lvl op/\lvl op<=7:=by
 unfold lvl
 (repeat' split) <;> omega
theorem qai {n:Nx}(h:okNode n=true):0<=n.op/\n.op<=25:=by
 rcases ops2 n.op with h0 | h0 | ⟨h0,h1⟩
 . omega
 . omega
 . rw[okNode2 h0 h1]at h
   simp only[Yp,Yq]at h;omega
theorem q21 (n:Nx)(a:Option Addr)(c:Nat)(l:List Ph)(w:World)(hok:okNode n=true)(hf:Fit n)(hl:l.length=arn n)(ha:Phs w a l)(hs:tot l<=2000000)(hw:Wrds w)(hp:Pow w) :
 Calls Tryz.prog 206 #[nv n,.slice a (arn n) c] w fun r w'=>r=.returned (.string (phT n l))/\Below w.heap.size w w':=by
 unfold nv
 obtain⟨hop0,hop25⟩:=qai hok
 obtain⟨W0,hW0⟩:=Nq (w.alloc (.cells (Jf n) 96))
 have HK:=h_ (Blk.new w 96 (Jf n))
 have HB:=h_ ((bR w.heap.size w).alloc (nR _) (.cells (Jf n) 96))
 rw[hW0]at HK HB
 have HA:=h_ (ha.mono HB.u);have HP:=h_ (hp.mono HB.u)
 have hwc:=(hw.mono HB.u).at hop0 hop25
 have HT:Hi (phT n l=phT n l):=h_ rfl
 obtain⟨t,ht⟩:=Nq (phT n l)
 rw[ht]
 have HX:=h_ ht
 obtain⟨y0,y1,y2,y3,y4⟩:=five HK.u
 have HL:=h_ hl;have HS:=h_ hs
 clear ha hw hp HT ht hl hs
 go_enter Tryz.func206,Tryz.ntmps206
 go_wp2_with fail
 try rw[hW0]
 clear hW0
 have hopn:((n.op.toNat:Nat):Int)=n.op:=by omega
 refine wp_region_held_drew (S:=fun w'=>w'.cell? ⟨w.heap.size,0,none⟩=some (J9 n.op)/\w'.cell? ⟨3,n.op.toNat,none⟩=some (.string (wrd n.op))) (by kernel_rfl) ⟨y0,hwc⟩ (fun zz=>?_)
 clear y0 y1 y2 y3 y4 hwc
 refine tj 0 8 (Yc w.heap.size 0) zz ?_
 refine tj 1 9 (J9 n.op) zz ?_
 refine tj 3 11 (Yc w.heap.size 0) zz ?_
 refine tj 4 12 (J9 n.op) zz ?_
 simp only[sX,sY,sZ]
 refine tj 5 13 (Yc 3 n.op.toNat) zz ?_ (hy:=fun w hS=>by simp[execOp,go_sem, *];intro h;omega)
 refine tj 6 14 (.string (wrd n.op)) zz ?_
 simp only[sX,sY,sZ]
 refine callY (i:=2) (f:=207) (args:=#[J9 n.op]) (R:=fun r wz=>r=J9 (lvl n.op)/\wz=W0.drew) 10 rfl rfl (by rfl) (by kernel_rfl) ?hrun0 ((q5h _ _).mono fun e w6 ⟨he,hb⟩=>⟨_,he,rfl,hb⟩) ?_
 case hrun0=>simp[execOp,go_sem]
 rintro r3 w3 ⟨rfl,hw⟩
 subst hw
 refine⟨zz,?_⟩
 simp only[sX,sY,sZ]
 refine tj 7 5 (J9 (lvl n.op)) zz ?_
 refine tj 8 6 (.string (wrd n.op)) zz ?_
 simp only[sX,sY,sZ]
 refine wpAnyH_done (by kernel_rfl) ?_ _
 clear zz hopn
 have HD:Hi (Below W0.heap.size W0 W0.drew):=h_ ((bR _ _).drew)
 replace HB:=h_ (HB.u.trans (HD.u.mono HB.u.size));replace HK:=h_ (HK.u.mono HD.u HK.u.lt);replace HA:=h_ (HA.u.mono HD.u);replace HP:=h_ (HP.u.mono HD.u)
 clear HD
 obtain⟨W1,hW1⟩:=Nq W0.drew
 rw[hW1]at HB HK HA HP⊢
 clear hW1
 obtain⟨W0,hW0⟩:∃W0,W0=W1:=⟨_,rfl⟩
 subst hW0
 obtain⟨y0,y1,y2,y3,y4⟩:=five HK.u
 rcases ops2 n.op with h | h | ⟨h,h'⟩
 . have HY:Hi (showB n.v.k n.v.n n.v.s=t):=h_ (by rw[<- HX.u,phT,Yy h])
   rw[h]at y0;go_wp2_with fail;refine(q3e _ _ _ _ hf.1 hf.2.2.1 hf.2.2.2 HP.u).mono ?_;rintro r w2 ⟨rfl,hb⟩;replace HB:=mT HB hb;clear hb;go_wp2_with fail;go_ret;exact⟨qj4 HY.u,HB.u⟩
 . have HY:Hi (n.nm=t):=h_ (by rw[<- HX.u,phT,Yu (by omega),Yy h])
   rw[h]at y0;go_wp2_with fail;go_ret;exact⟨qj4 HY.u,HB.u⟩
 have n0:(n.op==0)=false:=Yf.2 h
 have n1:(n.op==1)=false:=Yf.2 h'
 have hop:2<=n.op:=by omega
 have hwsz:=qfg hop hop25
 have hfa:=hf
 clear hf hfa
 by_cases h2:n.op=2
 . have e1:arn n=1:=by unfold arn;rw[ar_one (.inl h2)];rfl
   rw[e1]at HL⊢;obtain⟨x,rfl⟩:=list1 HL.u;have HY:Hi (⟨#[45]⟩++wrap 6 x=t):=h_ (by rw[<- HX.u,phT,Yu h,Yu h',Yy h2];rfl);obtain⟨b1,o1,rfl,-,c0,c1,c2⟩:=HA.u 0 (by simp);simp only[Vr,Nat.zero_mul,Va]at c0 c1 c2;have hsx:x.t.size<=2000000:=by have:=HS.u;simp only[tot]at this;omega
   have hws:=qbx 6 x;rw[h2]at y0;rw[show wrd n.op=⟨#[45]⟩ by rw[h2];rfl,show lvl n.op=6 by rw[h2];rfl];clear n0 n1 hop h h' h2 hwsz;go_wp2_with fail;refine(q4i x 6 _ hsx).mono ?_;rintro r w2 ⟨rfl,hb⟩;replace HB:=mT HB hb;generalize wrap 6 x=q at *;clear hb;go_wp2_with fail;go_ret;exact⟨qj4 HY.u,HB.u⟩
 by_cases h3:n.op=3
 . have e1:arn n=1:=by unfold arn;rw[ar_one (.inr h3)];rfl
   rw[e1]at HL⊢;obtain⟨x,rfl⟩:=list1 HL.u;have HY:Hi (⟨#[110,111,116,32]⟩++wrap 6 x=t):=h_ (by rw[<- HX.u,phT,Yu h,Yu h',Yu h2,Yy h3];rfl);obtain⟨b1,o1,rfl,-,c0,c1,c2⟩:=HA.u 0 (by simp);simp only[Vr,Nat.zero_mul,Va]at c0 c1 c2;have hsx:x.t.size<=2000000:=by have:=HS.u;simp only[tot]at this;omega
   have hws:=qbx 6 x;rw[h3]at y0;rw[show wrd n.op=⟨#[110,111,116]⟩ by rw[h3];rfl,show lvl n.op=6 by rw[h3];rfl];clear n0 n1 hop h h' h2 h3 hwsz;go_wp2_with fail;refine(q4i x 6 _ hsx).mono ?_;rintro r w2 ⟨rfl,hb⟩;replace HB:=mT HB hb;generalize wrap 6 x=q at *;clear hb;go_wp2_with fail;go_ret;exact⟨qj4 HY.u,HB.u⟩
 have n2:(n.op==2)=false:=Yf.2 h2
 have n3:(n.op==3)=false:=Yf.2 h3
 by_cases h7:lvl n.op=7
 . have HY:Hi (wrd n.op++⟨#[40]⟩++jn (l.map (·.t))++⟨#[41]⟩=t):=h_ (by rw[<- HX.u,phT,Yu h,Yu h',Yu h2,Yu h3,Yy h7])
   have har:=arn_le n;have har1:1<=arn n:=by
    have:=qc4 n;have e:=ar_opn n.op;rw[Yy (by omega)]at e;have:1<=opn n.op:=(by unfold opn;(repeat' split) <;> omega);omega
   have hjs:=qhd l;have hst:=HS.u;rw[HL.u]at hjs;rw[h7];clear h h' h2 h3 h7;generalize wrd n.op=wd at *;go_wp2_with fail;refine(show Calls Tryz.prog 213 #[.slice a (arn n) c] W0 fun r w'=>r=.returned (.string (jn (l.map (·.t))))/\Below W0.heap.size W0 w' from ?_).mono ?_
   . rw[<- HL.u];exact q7y a c l W0 (by have:=HL.u;omega) (by have:=HL.u;omega) HA.u HS.u
   rintro r w2 ⟨rfl,hb⟩;replace HB:=mT HB hb;clear hb;generalize jn (l.map (·.t))=q at *;have hA:(wd++(⟨#[40]⟩:ByteArray)).size=wd.size+1:=by rw[Yn];rfl
   have hA2:(wd++(⟨#[40]⟩:ByteArray)++q).size=wd.size+1+q.size:=by rw[Yn,hA]
   go_wp2_with fail;go_ret;exact⟨qj4 HY.u,HB.u⟩
 . have e2:arn n=2:=by unfold arn;rw[ar_two hop hop25 h7 h2 h3];rfl
   rw[e2]at HL⊢;obtain⟨x,y,rfl⟩:=list2 HL.u;have HY:Hi (wrap (lft n.op) x++⟨#[32]⟩++wrd n.op++⟨#[32]⟩++wrap (lvl n.op+1) y=t):=h_ (by rw[<- HX.u,phT,Yu h,Yu h',Yu h2,Yu h3,Yu h7];rfl);have hg0:=HA.u 0 (by simp);have hg1:=HA.u 1 (by simp);obtain⟨b1,o1,rfl,hc0⟩:=hg0;obtain⟨b2,o2,e12,hc1⟩:=hg1;cases e12;simp only[Vr,List.getElem_cons_succ,Nat.zero_mul,Nat.one_mul,Va]at hc0 hc1;have HC:=h_ (And.intro hc0 hc1);have hsx:x.t.size+y.t.size<=2000000:=by have:=HS.u;simp only[tot]at this;omega
   have hlv:=qi0 n.op;have HLf:Hi (lft n.op=if lvl n.op=3 then 4 else lvl n.op):=h_ rfl;obtain⟨lv,hlve⟩:=Nq (lvl n.op);obtain⟨lf,hlfe⟩:=Nq (lft n.op);rw[hlve]at HY HLf h7 hlv⊢;rw[hlfe]at HY HLf;have n7:(lv==7)=false:=Yf.2 h7;clear hlve hlfe h h' h2 h3;by_cases h3:lv=3
   . have hl4:lf=4:=by rw[HLf.u,Yy h3]
     subst h3 hl4;simp only[show(3:Int)+1=4 from rfl]at HY;clear HLf n7 h7 hlv;go_wp2_with fail;refine wp_region_held_drew (S:=fun w'=>PCel w' b1 o1 x/\PCel w' b1 (o1+3) y) (by kernel_rfl) ⟨hc0,hc1⟩ (fun zz=>?_);refine tj 0 65 (.slice (some ⟨b1,o1,none⟩) 2 c) zz ?_;refine tj 1 66 (Yc b1 o1) zz ?_;refine tj 2 67 (.agg (Jy x.t x.lv x.d)) zz ?_ (hy:=fun w hS=>by obtain⟨⟨-,q0,q1,q2⟩,-,q3,q4,q5⟩:=hS;simp[execOp,go_sem,q0,q1,q2]);refine tj 3 68 (J9 4) zz ?_;simp only[sX,sY,sZ];refine tj 6 71 (.string (wrd n.op)) zz ?_;refine tj 9 74 (.slice (some ⟨b1,o1,none⟩) 2 c) zz ?_;refine tj 10 75 (Yc b1 (o1+3)) zz ?_;refine tj 11 76 (.agg (Jy y.t y.lv y.d)) zz ?_ (hy:=fun w hS=>by obtain⟨⟨-,q0,q1,q2⟩,-,q3,q4,q5⟩:=hS;simp[execOp,go_sem,q3,q4,q5]);simp only[sX,sY,sZ];refine tj 12 77 (J9 3) zz ?_;refine tj 13 78 (J9 4) zz ?_ (hy:=fun w hS=>by simp[execOp,go_sem, *];rfl);simp only[sX,sY,sZ];refine callY (i:=4) (f:=212) (args:=#[.agg (Jy x.t x.lv x.d),J9 4]) (R:=fun r wz=>r=.string (wrap 4 x)/\Below W0.heap.size W0 wz) 69 rfl rfl (by rfl) (by kernel_rfl) ?hrun1 ((q4i x 4 _ (by omega)).mono fun e w6 ⟨he,hb⟩=>⟨_,he,rfl,q28 hb⟩) ?_
     case hrun1=>simp[execOp,go_sem]
     rintro r3 W4 ⟨rfl,hb⟩;replace HB:=mT HB hb;replace zz:PCel W4 b1 o1 x/\PCel W4 b1 (o1+3) y:=⟨HC.u.1.mono hb,HC.u.2.mono hb⟩;clear hb hc0 hc1;refine⟨zz,?_⟩;simp only[sX,sY,sZ];have ht1:=qbx 4 x;have ht2:=qbx 4 y;obtain⟨t1,ht1e⟩:=Nq (wrap 4 x);rw[ht1e]at HY ht1⊢;clear ht1e;have hA:(t1++(⟨#[32]⟩:ByteArray)).size=t1.size+1:=(by rw[Yn];rfl);obtain⟨wd,hwde⟩:=Nq (wrd n.op);rw[hwde]at HY hwsz⊢;clear hwde;refine tj 5 70 (.string (t1++⟨#[32]⟩)) zz ?_ (hy:=fun w hS=>by have:=run_string_add_sum (P:=Tryz.prog) w t1 ⟨#[32]⟩ (by show t1.size+1<=_;omega);simp[execOp,go_sem,this]);simp only[sX,sY,sZ];have hA2:(t1++(⟨#[32]⟩:ByteArray)++wd).size=t1.size+1+wd.size:=(by rw[Yn,hA]);refine tj 7 72 (.string (t1++⟨#[32]⟩++wd)) zz ?_ (hy:=fun w hS=>by have:=run_string_add_sum (P:=Tryz.prog) w (t1++⟨#[32]⟩) wd (by omega);simp[execOp,go_sem,this]);simp only[sX,sY,sZ];have hA3:(t1++(⟨#[32]⟩:ByteArray)++wd++⟨#[32]⟩).size=t1.size+1+wd.size+1:=(by rw[Yn,hA2];rfl);refine tj 8 73 (.string (t1++⟨#[32]⟩++wd++⟨#[32]⟩)) zz ?_ (hy:=fun w hS=>by have:=run_string_add_sum (P:=Tryz.prog) w (t1++⟨#[32]⟩++wd) ⟨#[32]⟩ (by rw[hA2];show t1.size+1+wd.size+1<=_;omega);simp[execOp,go_sem,this]);simp only[sX,sY,sZ];refine callY (i:=14) (f:=212) (args:=#[.agg (Jy y.t y.lv y.d),J9 4]) (R:=fun r wz=>r=.string (wrap 4 y)/\Below W4.heap.size W4 wz) 79 rfl rfl (by rfl) (by kernel_rfl) ?hrun2 ((q4i y 4 _ (by omega)).mono fun e w6 ⟨he,hb⟩=>⟨_,he,rfl,hb⟩) ?_
     case hrun2=>simp[execOp,go_sem]
     rintro r3 W5 ⟨rfl,hb⟩;replace HB:=mT HB hb;replace zz:PCel W5 b1 o1 x/\PCel W5 b1 (o1+3) y:=⟨zz.1.mono hb,zz.2.mono hb⟩;clear hb;refine⟨zz,?_⟩;simp only[sX,sY,sZ];obtain⟨t2,ht2e⟩:=Nq (wrap 4 y);rw[ht2e]at HY ht2⊢;clear ht2e;obtain⟨u3,hu3⟩:=Nq (t1++(⟨#[32]⟩:ByteArray)++wd++⟨#[32]⟩);rw[hu3]at HY hA3⊢;clear hu3 hA hA2;refine tj 15 80 (.string (u3++t2)) zz ?_ (hy:=fun w hS=>by have:=run_string_add_sum (P:=Tryz.prog) w u3 t2 (by omega);simp[execOp,go_sem,this]);refine tj 16 4 (.string (u3++t2)) zz ?_;simp only[sX,sY,sZ];refine wpAnyH_done (by kernel_rfl) ?_ _;clear zz;go_wp2;go_ret;exact⟨qj4 HY.u,HB.u⟩
   . have hl4:lf=lv:=by rw[HLf.u,Yu h3]
     subst hl4;have n3':(lf==3)=false:=Yf.2 h3;clear HLf h7 h3;go_wp2_with fail;refine wp_region_held_drew (S:=fun w'=>PCel w' b1 o1 x/\PCel w' b1 (o1+3) y) (by kernel_rfl) ⟨hc0,hc1⟩ (fun zz=>?_);refine tj 0 65 (.slice (some ⟨b1,o1,none⟩) 2 c) zz ?_;refine tj 1 66 (Yc b1 o1) zz ?_;refine tj 2 67 (.agg (Jy x.t x.lv x.d)) zz ?_ (hy:=fun w hS=>by obtain⟨⟨-,q0,q1,q2⟩,-,q3,q4,q5⟩:=hS;simp[execOp,go_sem,q0,q1,q2]);refine tj 3 68 (J9 lf) zz ?_;simp only[sX,sY,sZ];refine tj 6 71 (.string (wrd n.op)) zz ?_;refine tj 9 74 (.slice (some ⟨b1,o1,none⟩) 2 c) zz ?_;refine tj 10 75 (Yc b1 (o1+3)) zz ?_;refine tj 11 76 (.agg (Jy y.t y.lv y.d)) zz ?_ (hy:=fun w hS=>by obtain⟨⟨-,q0,q1,q2⟩,-,q3,q4,q5⟩:=hS;simp[execOp,go_sem,q3,q4,q5]);simp only[sX,sY,sZ];refine tj 12 77 (J9 lf) zz ?_;refine tj 13 78 (J9 (lf+1)) zz ?_ (hy:=fun w hS=>by simp[execOp,go_sem, *];rw[IntKind.wrap_i64];omega);simp only[sX,sY,sZ];refine callY (i:=4) (f:=212) (args:=#[.agg (Jy x.t x.lv x.d),J9 lf]) (R:=fun r wz=>r=.string (wrap lf x)/\Below W0.heap.size W0 wz) 69 rfl rfl (by rfl) (by kernel_rfl) ?hrun1 ((q4i x lf _ (by omega)).mono fun e w6 ⟨he,hb⟩=>⟨_,he,rfl,q28 hb⟩) ?_
     case hrun1=>simp[execOp,go_sem]
     rintro r3 W4 ⟨rfl,hb⟩;replace HB:=mT HB hb;replace zz:PCel W4 b1 o1 x/\PCel W4 b1 (o1+3) y:=⟨HC.u.1.mono hb,HC.u.2.mono hb⟩;clear hb hc0 hc1;refine⟨zz,?_⟩;simp only[sX,sY,sZ];have ht1:=qbx lf x;have ht2:=qbx (lf+1) y;obtain⟨t1,ht1e⟩:=Nq (wrap lf x);rw[ht1e]at HY ht1⊢;clear ht1e;have hA:(t1++(⟨#[32]⟩:ByteArray)).size=t1.size+1:=(by rw[Yn];rfl);obtain⟨wd,hwde⟩:=Nq (wrd n.op);rw[hwde]at HY hwsz⊢;clear hwde;refine tj 5 70 (.string (t1++⟨#[32]⟩)) zz ?_ (hy:=fun w hS=>by have:=run_string_add_sum (P:=Tryz.prog) w t1 ⟨#[32]⟩ (by show t1.size+1<=_;omega);simp[execOp,go_sem,this]);simp only[sX,sY,sZ];have hA2:(t1++(⟨#[32]⟩:ByteArray)++wd).size=t1.size+1+wd.size:=(by rw[Yn,hA]);refine tj 7 72 (.string (t1++⟨#[32]⟩++wd)) zz ?_ (hy:=fun w hS=>by have:=run_string_add_sum (P:=Tryz.prog) w (t1++⟨#[32]⟩) wd (by omega);simp[execOp,go_sem,this]);simp only[sX,sY,sZ];have hA3:(t1++(⟨#[32]⟩:ByteArray)++wd++⟨#[32]⟩).size=t1.size+1+wd.size+1:=(by rw[Yn,hA2];rfl);refine tj 8 73 (.string (t1++⟨#[32]⟩++wd++⟨#[32]⟩)) zz ?_ (hy:=fun w hS=>by have:=run_string_add_sum (P:=Tryz.prog) w (t1++⟨#[32]⟩++wd) ⟨#[32]⟩ (by rw[hA2];show t1.size+1+wd.size+1<=_;omega);simp[execOp,go_sem,this]);simp only[sX,sY,sZ];refine callY (i:=14) (f:=212) (args:=#[.agg (Jy y.t y.lv y.d),J9 (lf+1)]) (R:=fun r wz=>r=.string (wrap (lf+1) y)/\Below W4.heap.size W4 wz) 79 rfl rfl (by rfl) (by kernel_rfl) ?hrun2 ((q4i y (lf+1) _ (by omega)).mono fun e w6 ⟨he,hb⟩=>⟨_,he,rfl,hb⟩) ?_
     case hrun2=>simp[execOp,go_sem]
     rintro r3 W5 ⟨rfl,hb⟩;replace HB:=mT HB hb;replace zz:PCel W5 b1 o1 x/\PCel W5 b1 (o1+3) y:=⟨zz.1.mono hb,zz.2.mono hb⟩;clear hb;refine⟨zz,?_⟩;simp only[sX,sY,sZ];obtain⟨t2,ht2e⟩:=Nq (wrap (lf+1) y);rw[ht2e]at HY ht2⊢;clear ht2e;obtain⟨u3,hu3⟩:=Nq (t1++(⟨#[32]⟩:ByteArray)++wd++⟨#[32]⟩);rw[hu3]at HY hA3⊢;clear hu3 hA hA2;refine tj 15 80 (.string (u3++t2)) zz ?_ (hy:=fun w hS=>by have:=run_string_add_sum (P:=Tryz.prog) w u3 t2 (by omega);simp[execOp,go_sem,this]);refine tj 16 4 (.string (u3++t2)) zz ?_;simp only[sX,sY,sZ];refine wpAnyH_done (by kernel_rfl) ?_ _;clear zz;go_wp2;go_ret;exact⟨qj4 HY.u,HB.u⟩
def Apt (u v:Value):Prop:=∀q,u.ownBlock=some q->v.ownBlock≠some q
theorem Apt.symm {u v:Value}(h:Apt u v):Apt v u:=fun q h1 h2=>h q h2 h1
structure OwnK (K:Int->List ByteArray)(w:World)(base:Nat)(v1 v2 v3:Value):Prop where
 r1:OwnS w base v1 (K 1)
 r2:OwnS w base v2 (K 2)
 r3:OwnS w base v3 (K 3)
 a12:Apt v1 v2
 a13:Apt v1 v3
 a23:Apt v2 v3
structure Kpt (v1 v2 v3:Value)(w w':World):Prop where
 os:w'.os=w.os
 tape:w'.tape=w.tape
 output:w'.output=w.output
 size:w.heap.size<=w'.heap.size
 block:∀q,q<w.heap.size->v1.ownBlock≠some q->v2.ownBlock≠some q->v3.ownBlock≠some q->w'.heap[q]? = w.heap[q]?
def addK (K:Int->List ByteArray)(kind:Int)(x:ByteArray):Int->List ByteArray:=fun i=>if i=kind then K i++[x] else K i
theorem OwnK.keep {K:Int->List ByteArray}{w w':World}{base:Nat}{v1 v2 v3:Value}(h:OwnK K w base v1 v2 v3)(hb:Below w.heap.size w w'):OwnK K w' base v1 v2 v3:=⟨h.r1.keep hb,h.r2.keep hb,h.r3.keep hb,h.a12,h.a13,h.a23⟩
theorem qih {w w':World}{base e size n:Nat}{v:Value}{xs:List Value}(h:w.ownsRow base e size v n xs)(hk:∀q,v.ownBlock=some q->w'.heap[q]? = w.heap[q]?):w'.ownsRow base e size v n xs:=by
 refine⟨h.1,?_⟩
 rcases h.2 with h2 | ⟨g,cap,cur,h1,hb,hg,r⟩
 . exact .inl h2
 . exact .inr ⟨g,cap,cur,h1,hb,(hk g (by rw[h1];rfl)).trans hg,r⟩
theorem qig {w:World}{base e size n:Nat}{v:Value}{xs:List Value}(h:w.ownsRow base e size v n xs){q:Nat}(hq:v.ownBlock=some q):q<w.heap.size:=by
 rcases h.2 with ⟨e,-⟩ | ⟨g,cap,cur,e,-,hg,-⟩
 . rw[e]at hq;cases hq
 . rw[e]at hq
   have:g=q:=by simpa [Value.ownBlock] using hq
   subst this;exact(Yt.1 hg).1
theorem q8v {ops:Array Oper}{rest:List Oper}{o:Oper}{a:Act}{Q:Exit->Act->World->Prop}{w:World}(hgd:o.guard=.none)(s x:Operand)
 (ho:o.op=.call { callee:=.builtin .append,args:=#[s,x],argTypes:=#[23,23] }) {base:Nat} {v:Value} {l:List ByteArray} (hs:a.eval s=v) (hown:OwnS w base v l)
 {g:Nat} {n:ByteArray} (hx:a.eval x=.slice (some ⟨g,0,.none⟩) 1 1) (hc:Blk w g 9 [.string n]) (hl:l.length+1<=2097152) (hbase:base<=w.heap.size)
 (h:∀v' w',OwnS w' base v' (l++[n])->w.grownBy w' v.ownBlock->(v'.ownBlock=v.ownBlock∨v'.ownBlock=some w.heap.size)->wpList Tryz.prog ops Q rest (a.put o.dst v') w'):wpList Tryz.prog ops Q (o :: rest) a w:=by
 obtain⟨i0,hi,hz0,hz1,hz2⟩:=info_parts qct
 refine wpList_append_own_at w hgd s x 23 ho base 9 i0 _ 1 16 Tryz.underlying23 hi hz0 hz1 hz2 rfl (by omega) _ _ _ hs hown ⟨g,0,.none⟩ 1 1 [.string n] hx rfl (fun j v hj=>by rw[show(⟨g,0,.none⟩:Addr).add j=⟨g,j,.none⟩ by simp[Addr.add];try exact fun h=>h.symm];exact(hc.cell j).trans hj) (by simp[Value.oneCell']) (by unfold maxLen;omega) (by omega) hbase ?_
 intro v' W9 ho hgr _ hat
 refine h v' W9 ?_ hgr hat
 unfold OwnS
 rw[Yg,show stV (l++[n])=stV l++[.string n] by simp[stV]]
 exact ho
theorem qd0 (K:Int->List ByteArray)(x:ByteArray)(w:World)(base:Nat)(v1 v2 v3:Value)(hl:(K 1).length<=100000)(h:OwnK K w base v1 v2 v3)(hb:base<=w.heap.size) :
 Calls Tryz.prog 71 #[.agg #[v1,v2,v3],J9 1,.string x] w fun e w'=>∃u1 u2 u3,e=.returned (.agg #[u1,u2,u3])/\OwnK (addK K 1 x) w' base u1 u2 u3/\Kpt v1 v2 v3 w w':=by
 obtain⟨s1,k1,e1,-,-⟩:=h.r1.strs;obtain⟨s2,k2,e2,-,-⟩:=h.r2.strs;obtain⟨s3,k3,e3,-,-⟩:=h.r3.strs
 have HL:=h_ hl;have HBs:=h_ hb
 generalize (K 1).length=n1 at e1
 generalize (K 2).length=n2 at e2
 generalize (K 3).length=n3 at e3
 subst e1 e2 e3
 have HO:=h_ h
 have HA:=h_ (((bR w.heap.size w).alloc (nR _) (.cells (Jk s1 n1 k1 s2 n2 k2 s3 n3 k3) 110)).alloc (by simp) (.cells Jm 110))
 have HP:=h_ ((Blk.new w 110 (Jk s1 n1 k1 s2 n2 k2 s3 n3 k3)).alloc (.cells Jm 110))
 have HR:=h_ (Blk.new (w.alloc (.cells (Jk s1 n1 k1 s2 n2 k2 s3 n3 k3) 110)) 110 Jm)
 rw[Yv]at HR
 obtain⟨W0,hW0⟩:=Nq ((w.alloc (.cells (Jk s1 n1 k1 s2 n2 k2 s3 n3 k3) 110)).alloc (.cells Jm 110))
 have hs0:W0.heap.size=w.heap.size+1+1:=by rw[<- hW0];simp
 rw[hW0]at HA HP HR
 have HN:Hi (Blk _ _ 9 [.string x]):=h_ (Blk.new W0 9 #[.string x])
 rw[hs0]at HN
 have HS:=h_ ((bR W0.heap.size W0).alloc (nR _) (.cells #[.string x] 9))
 have HB1:=h_ (HA.u.trans (HS.u.mono HA.u.size))
 have HP1:=h_ (HP.u.mono HS.u HP.u.lt);have HR1:=h_ (HR.u.mono HS.u HR.u.lt)
 have HK:=h_ (h.keep HB1.u)
 obtain⟨y0,y1,y2⟩:=three HP.u
 clear h hl hb
 go_enter Tryz.func71,Tryz.ntmps71
 go_wp2_with (at_builtin;(try rw[hW0]);refine q8v (n:=x) rfl _ _ rfl rfl HK.u.r1 rfl HN.u (by have:=HL.u;omega) (by have:=HBs.u;have:=HB1.u.size;omega) ?_)
 intro u W2 hou hgr hat
 have hne:∀q,w.heap.size<=q->some q≠Value.ownBlock (.slice s1 n1 k1):=fun q hq e=>by have:=qig HO.u.r1 e.symm;omega
 have HP2:Hi (Blk W2 w.heap.size 110 [.slice s1 n1 k1,.slice s2 n2 k2,.slice s3 n3 k3]):=h_ ((hgr.block _ HP1.u.lt (hne _ (nR _))).trans HP1.u)
 have HR2:Hi (Blk W2 (w.heap.size+1) 110 [Ya,Ya,Ya]):=h_ ((hgr.block _ HR1.u.lt (hne _ (Vj _))).trans HR1.u)
 obtain⟨us,uk,eu,-,-⟩:=hou.strs
 generalize (K 1++[x]).length=un at eu
 subst eu
 have HOu:=h_ hou;have HG:=h_ hgr;have HAt:=h_ hat
 have p0:=HP2.u.cell 0;have pf:=HP2.u.free 0
 have HP3:=h_ (HP2.u.set 0 (.slice us un uk));have HR3:=h_ (HR2.u.other (a:=⟨w.heap.size,0,none⟩) (.slice us un uk) (show w.heap.size+1≠w.heap.size by omega))
 simp only[Yd]at HP3
 simp only[Yh]at p0
 have HR4:=h_ (HR3.u.row [.slice us un uk,.slice s2 n2 k2,.slice s3 n3 k3])
 clear hou hgr hat hW0 y0 y1 y2
 obtain⟨y0,y1,y2⟩:=three HP3.u
 go_wp2_with (refine wpList_store_row rfl 110 (.tmp 6) (.tmp 29) rfl (w.heap.size+1) (Jk us un uk s2 n2 k2 s3 n3 k3) rfl rfl 110 Jm HR3.u (by kernel_rfl) rfl (by simp[Value.oneCell']) ?_)
 clear y0 y1 y2 p0 pf
 obtain⟨x0,x1,x2⟩:=three HR4.u
 have hW1s:w.heap.size+3=(W0.alloc (.cells #[.string x] 9)).heap.size:=by simp[hs0]
 have hou:=HOu.u;have hgr:=HG.u;have hat:=HAt.u
 have hsz:w.heap.size+3<=W2.heap.size:=by rw[hW1s];exact hgr.size
 have hkq:∀q,q<w.heap.size->some q≠Value.ownBlock (.slice s1 n1 k1)->(((W2.setCell ⟨w.heap.size,0,none⟩ (.slice us un uk)).setRow (w.heap.size+1) (Jk us un uk s2 n2 k2 s3 n3 k3))).heap[q]? = w.heap[q]?:=fun q hq hn=>by
  rw[setRow_other _ _ _ _ (by omega)];rw[show(W2.setCell ⟨w.heap.size,0,none⟩ (.slice us un uk)).heap[q]? = W2.heap[q]? from heap_setCell_other _ _ _ _ (show q≠w.heap.size by omega)];rw[hgr.block q (by omega) hn];exact HB1.u.block q hq
 have hk1:addK K 1 x 1=K 1++[x]:=by unfold addK;simp
 have hk2:addK K 1 x 2=K 2:=by unfold addK;simp
 have hk3:addK K 1 x 3=K 3:=by unfold addK;simp
 have hub:∀q,Value.ownBlock (.slice us un uk)=some q->q<w.heap.size/\Value.ownBlock (.slice s1 n1 k1)=some q∨q=w.heap.size+3:=fun q e=>by
  rcases hat with h | h
  . rw[h]at e
    exact .inl ⟨qig HO.u.r1 e,e⟩
  . rw[h]at e
    have e3:=Z6 e;exact .inr (by omega)
 have hko:∀q,Value.ownBlock (.slice us un uk)=some q->((W2.setCell ⟨w.heap.size,0,none⟩ (.slice us un uk)).setRow (w.heap.size+1) (Jk us un uk s2 n2 k2 s3 n3 k3)).heap[q]? = W2.heap[q]?:=fun q e=>by
  have hq:q≠w.heap.size/\q≠w.heap.size+1:=by rcases hub q e with h | h <;> omega
  rw[setRow_other _ _ _ _ hq.2];exact heap_setCell_other _ _ _ _ hq.1
 have hap:∀{v:Value} {l:List ByteArray},OwnS w base v l->Apt (.slice s1 n1 k1) v->Apt (.slice us un uk) v:=fun ho ha q e e2=>by
  rcases hub q e with h | h
  . exact ha q h.2 e2
  . have:=qig ho e2
    omega
 exact bodyPost_ret (v:=.agg (Jk us un uk s2 n2 k2 s3 n3 k3)) (by simp[results,Tryz.results71,go_sem,x0,x1,x2]) rfl ⟨_,_,_,rfl,⟨by rw[hk1];exact qih hou hko,by rw[hk2];exact qih HO.u.r2 fun q e=>hkq q (qig HO.u.r2 e) (fun e2=>(HO.u.a12) q e2.symm e),by rw[hk3];exact qih HO.u.r3 fun q e=>hkq q (qig HO.u.r3 e) (fun e2=>(HO.u.a13) q e2.symm e),hap HO.u.r2 (HO.u.a12),hap HO.u.r3 (HO.u.a13),HO.u.a23⟩,⟨hgr.os.trans HB1.u.os,hgr.tape.trans HB1.u.tape,hgr.output.trans HB1.u.output,by simp[World.setRow];omega,fun q hq g1 g2 g3=>hkq q hq (fun e=>g1 e.symm)⟩⟩
theorem qd1 (K:Int->List ByteArray)(x:ByteArray)(w:World)(base:Nat)(v1 v2 v3:Value)(hl:(K 2).length<=100000)(h:OwnK K w base v1 v2 v3)(hb:base<=w.heap.size) :
 Calls Tryz.prog 71 #[.agg #[v1,v2,v3],J9 2,.string x] w fun e w'=>∃u1 u2 u3,e=.returned (.agg #[u1,u2,u3])/\OwnK (addK K 2 x) w' base u1 u2 u3/\Kpt v1 v2 v3 w w':=by
 obtain⟨s1,k1,e1,-,-⟩:=h.r1.strs;obtain⟨s2,k2,e2,-,-⟩:=h.r2.strs;obtain⟨s3,k3,e3,-,-⟩:=h.r3.strs
 have HL:=h_ hl;have HBs:=h_ hb
 generalize (K 1).length=n1 at e1
 generalize (K 2).length=n2 at e2
 generalize (K 3).length=n3 at e3
 subst e1 e2 e3
 have HO:=h_ h
 have HA:=h_ (((bR w.heap.size w).alloc (nR _) (.cells (Jk s1 n1 k1 s2 n2 k2 s3 n3 k3) 110)).alloc (by simp) (.cells Jm 110))
 have HP:=h_ ((Blk.new w 110 (Jk s1 n1 k1 s2 n2 k2 s3 n3 k3)).alloc (.cells Jm 110))
 have HR:=h_ (Blk.new (w.alloc (.cells (Jk s1 n1 k1 s2 n2 k2 s3 n3 k3) 110)) 110 Jm)
 rw[Yv]at HR
 obtain⟨W0,hW0⟩:=Nq ((w.alloc (.cells (Jk s1 n1 k1 s2 n2 k2 s3 n3 k3) 110)).alloc (.cells Jm 110))
 have hs0:W0.heap.size=w.heap.size+1+1:=by rw[<- hW0];simp
 rw[hW0]at HA HP HR
 have HN:Hi (Blk _ _ 9 [.string x]):=h_ (Blk.new W0 9 #[.string x])
 rw[hs0]at HN
 have HS:=h_ ((bR W0.heap.size W0).alloc (nR _) (.cells #[.string x] 9))
 have HB1:=h_ (HA.u.trans (HS.u.mono HA.u.size))
 have HP1:=h_ (HP.u.mono HS.u HP.u.lt);have HR1:=h_ (HR.u.mono HS.u HR.u.lt)
 have HK:=h_ (h.keep HB1.u)
 obtain⟨y0,y1,y2⟩:=three HP.u
 clear h hl hb
 go_enter Tryz.func71,Tryz.ntmps71
 go_wp2_with (at_builtin;(try rw[hW0]);refine q8v (n:=x) rfl _ _ rfl rfl HK.u.r2 rfl HN.u (by have:=HL.u;omega) (by have:=HBs.u;have:=HB1.u.size;omega) ?_)
 intro u W2 hou hgr hat
 have hne:∀q,w.heap.size<=q->some q≠Value.ownBlock (.slice s2 n2 k2):=fun q hq e=>by have:=qig HO.u.r2 e.symm;omega
 have HP2:Hi (Blk W2 w.heap.size 110 [.slice s1 n1 k1,.slice s2 n2 k2,.slice s3 n3 k3]):=h_ ((hgr.block _ HP1.u.lt (hne _ (nR _))).trans HP1.u)
 have HR2:Hi (Blk W2 (w.heap.size+1) 110 [Ya,Ya,Ya]):=h_ ((hgr.block _ HR1.u.lt (hne _ (Vj _))).trans HR1.u)
 obtain⟨us,uk,eu,-,-⟩:=hou.strs
 generalize (K 2++[x]).length=un at eu
 subst eu
 have HOu:=h_ hou;have HG:=h_ hgr;have HAt:=h_ hat
 have p0:=HP2.u.cell 1;have pf:=HP2.u.free 1
 have HP3:=h_ (HP2.u.set 1 (.slice us un uk));have HR3:=h_ (HR2.u.other (a:=⟨w.heap.size,1,none⟩) (.slice us un uk) (show w.heap.size+1≠w.heap.size by omega))
 simp only[Yd,Ye]at HP3
 simp only[Yh,Yo]at p0
 have HR4:=h_ (HR3.u.row [.slice s1 n1 k1,.slice us un uk,.slice s3 n3 k3])
 clear hou hgr hat hW0 y0 y1 y2
 obtain⟨y0,y1,y2⟩:=three HP3.u
 go_wp2_with (refine wpList_store_row rfl 110 (.tmp 6) (.tmp 29) rfl (w.heap.size+1) (Jk s1 n1 k1 us un uk s3 n3 k3) rfl rfl 110 Jm HR3.u (by kernel_rfl) rfl (by simp[Value.oneCell']) ?_)
 clear y0 y1 y2 p0 pf
 obtain⟨x0,x1,x2⟩:=three HR4.u
 have hW1s:w.heap.size+3=(W0.alloc (.cells #[.string x] 9)).heap.size:=by simp[hs0]
 have hou:=HOu.u;have hgr:=HG.u;have hat:=HAt.u
 have hsz:w.heap.size+3<=W2.heap.size:=by rw[hW1s];exact hgr.size
 have hkq:∀q,q<w.heap.size->some q≠Value.ownBlock (.slice s2 n2 k2)->(((W2.setCell ⟨w.heap.size,1,none⟩ (.slice us un uk)).setRow (w.heap.size+1) (Jk s1 n1 k1 us un uk s3 n3 k3))).heap[q]? = w.heap[q]?:=fun q hq hn=>by
  rw[setRow_other _ _ _ _ (by omega)];rw[show(W2.setCell ⟨w.heap.size,1,none⟩ (.slice us un uk)).heap[q]? = W2.heap[q]? from heap_setCell_other _ _ _ _ (show q≠w.heap.size by omega)];rw[hgr.block q (by omega) hn];exact HB1.u.block q hq
 have hk1:addK K 2 x 1=K 1:=by unfold addK;simp
 have hk2:addK K 2 x 2=K 2++[x]:=by unfold addK;simp
 have hk3:addK K 2 x 3=K 3:=by unfold addK;simp
 have hub:∀q,Value.ownBlock (.slice us un uk)=some q->q<w.heap.size/\Value.ownBlock (.slice s2 n2 k2)=some q∨q=w.heap.size+3:=fun q e=>by
  rcases hat with h | h
  . rw[h]at e
    exact .inl ⟨qig HO.u.r2 e,e⟩
  . rw[h]at e
    have e3:=Z6 e;exact .inr (by omega)
 have hko:∀q,Value.ownBlock (.slice us un uk)=some q->((W2.setCell ⟨w.heap.size,1,none⟩ (.slice us un uk)).setRow (w.heap.size+1) (Jk s1 n1 k1 us un uk s3 n3 k3)).heap[q]? = W2.heap[q]?:=fun q e=>by
  have hq:q≠w.heap.size/\q≠w.heap.size+1:=by rcases hub q e with h | h <;> omega
  rw[setRow_other _ _ _ _ hq.2];exact heap_setCell_other _ _ _ _ hq.1
 have hap:∀{v:Value} {l:List ByteArray},OwnS w base v l->Apt (.slice s2 n2 k2) v->Apt (.slice us un uk) v:=fun ho ha q e e2=>by
  rcases hub q e with h | h
  . exact ha q h.2 e2
  . have:=qig ho e2
    omega
 exact bodyPost_ret (v:=.agg (Jk s1 n1 k1 us un uk s3 n3 k3)) (by simp[results,Tryz.results71,go_sem,x0,x1,x2]) rfl ⟨_,_,_,rfl,⟨by rw[hk1];exact qih HO.u.r1 fun q e=>hkq q (qig HO.u.r1 e) (fun e2=>(HO.u.a12.symm) q e2.symm e),by rw[hk2];exact qih hou hko,by rw[hk3];exact qih HO.u.r3 fun q e=>hkq q (qig HO.u.r3 e) (fun e2=>(HO.u.a23) q e2.symm e),(hap HO.u.r1 (HO.u.a12.symm)).symm,HO.u.a13,hap HO.u.r3 (HO.u.a23)⟩,⟨hgr.os.trans HB1.u.os,hgr.tape.trans HB1.u.tape,hgr.output.trans HB1.u.output,by simp[World.setRow];omega,fun q hq g1 g2 g3=>hkq q hq (fun e=>g2 e.symm)⟩⟩
theorem qd2 (K:Int->List ByteArray)(x:ByteArray)(w:World)(base:Nat)(v1 v2 v3:Value)(hl:(K 3).length<=100000)(h:OwnK K w base v1 v2 v3)(hb:base<=w.heap.size) :
 Calls Tryz.prog 71 #[.agg #[v1,v2,v3],J9 3,.string x] w fun e w'=>∃u1 u2 u3,e=.returned (.agg #[u1,u2,u3])/\OwnK (addK K 3 x) w' base u1 u2 u3/\Kpt v1 v2 v3 w w':=by
 obtain⟨s1,k1,e1,-,-⟩:=h.r1.strs;obtain⟨s2,k2,e2,-,-⟩:=h.r2.strs;obtain⟨s3,k3,e3,-,-⟩:=h.r3.strs
 have HL:=h_ hl;have HBs:=h_ hb
 generalize (K 1).length=n1 at e1
 generalize (K 2).length=n2 at e2
 generalize (K 3).length=n3 at e3
 subst e1 e2 e3
 have HO:=h_ h
 have HA:=h_ (((bR w.heap.size w).alloc (nR _) (.cells (Jk s1 n1 k1 s2 n2 k2 s3 n3 k3) 110)).alloc (by simp) (.cells Jm 110))
 have HP:=h_ ((Blk.new w 110 (Jk s1 n1 k1 s2 n2 k2 s3 n3 k3)).alloc (.cells Jm 110))
 have HR:=h_ (Blk.new (w.alloc (.cells (Jk s1 n1 k1 s2 n2 k2 s3 n3 k3) 110)) 110 Jm)
 rw[Yv]at HR
 obtain⟨W0,hW0⟩:=Nq ((w.alloc (.cells (Jk s1 n1 k1 s2 n2 k2 s3 n3 k3) 110)).alloc (.cells Jm 110))
 have hs0:W0.heap.size=w.heap.size+1+1:=by rw[<- hW0];simp
 rw[hW0]at HA HP HR
 have HN:Hi (Blk _ _ 9 [.string x]):=h_ (Blk.new W0 9 #[.string x])
 rw[hs0]at HN
 have HS:=h_ ((bR W0.heap.size W0).alloc (nR _) (.cells #[.string x] 9))
 have HB1:=h_ (HA.u.trans (HS.u.mono HA.u.size))
 have HP1:=h_ (HP.u.mono HS.u HP.u.lt);have HR1:=h_ (HR.u.mono HS.u HR.u.lt)
 have HK:=h_ (h.keep HB1.u)
 obtain⟨y0,y1,y2⟩:=three HP.u
 clear h hl hb
 go_enter Tryz.func71,Tryz.ntmps71
 go_wp2_with (at_builtin;(try rw[hW0]);refine q8v (n:=x) rfl _ _ rfl rfl HK.u.r3 rfl HN.u (by have:=HL.u;omega) (by have:=HBs.u;have:=HB1.u.size;omega) ?_)
 intro u W2 hou hgr hat
 have hne:∀q,w.heap.size<=q->some q≠Value.ownBlock (.slice s3 n3 k3):=fun q hq e=>by have:=qig HO.u.r3 e.symm;omega
 have HP2:Hi (Blk W2 w.heap.size 110 [.slice s1 n1 k1,.slice s2 n2 k2,.slice s3 n3 k3]):=h_ ((hgr.block _ HP1.u.lt (hne _ (nR _))).trans HP1.u)
 have HR2:Hi (Blk W2 (w.heap.size+1) 110 [Ya,Ya,Ya]):=h_ ((hgr.block _ HR1.u.lt (hne _ (Vj _))).trans HR1.u)
 obtain⟨us,uk,eu,-,-⟩:=hou.strs
 generalize (K 3++[x]).length=un at eu
 subst eu
 have HOu:=h_ hou;have HG:=h_ hgr;have HAt:=h_ hat
 have p0:=HP2.u.cell 2;have pf:=HP2.u.free 2
 have HP3:=h_ (HP2.u.set 2 (.slice us un uk));have HR3:=h_ (HR2.u.other (a:=⟨w.heap.size,2,none⟩) (.slice us un uk) (show w.heap.size+1≠w.heap.size by omega))
 simp only[Yd,Ye]at HP3
 simp only[Yh,Yo]at p0
 have HR4:=h_ (HR3.u.row [.slice s1 n1 k1,.slice s2 n2 k2,.slice us un uk])
 clear hou hgr hat hW0 y0 y1 y2
 obtain⟨y0,y1,y2⟩:=three HP3.u
 go_wp2_with (refine wpList_store_row rfl 110 (.tmp 6) (.tmp 29) rfl (w.heap.size+1) (Jk s1 n1 k1 s2 n2 k2 us un uk) rfl rfl 110 Jm HR3.u (by kernel_rfl) rfl (by simp[Value.oneCell']) ?_)
 clear y0 y1 y2 p0 pf
 obtain⟨x0,x1,x2⟩:=three HR4.u
 have hW1s:w.heap.size+3=(W0.alloc (.cells #[.string x] 9)).heap.size:=by simp[hs0]
 have hou:=HOu.u;have hgr:=HG.u;have hat:=HAt.u
 have hsz:w.heap.size+3<=W2.heap.size:=by rw[hW1s];exact hgr.size
 have hkq:∀q,q<w.heap.size->some q≠Value.ownBlock (.slice s3 n3 k3)->(((W2.setCell ⟨w.heap.size,2,none⟩ (.slice us un uk)).setRow (w.heap.size+1) (Jk s1 n1 k1 s2 n2 k2 us un uk))).heap[q]? = w.heap[q]?:=fun q hq hn=>by
  rw[setRow_other _ _ _ _ (by omega)];rw[show(W2.setCell ⟨w.heap.size,2,none⟩ (.slice us un uk)).heap[q]? = W2.heap[q]? from heap_setCell_other _ _ _ _ (show q≠w.heap.size by omega)];rw[hgr.block q (by omega) hn];exact HB1.u.block q hq
 have hk1:addK K 3 x 1=K 1:=by unfold addK;simp
 have hk2:addK K 3 x 2=K 2:=by unfold addK;simp
 have hk3:addK K 3 x 3=K 3++[x]:=by unfold addK;simp
 have hub:∀q,Value.ownBlock (.slice us un uk)=some q->q<w.heap.size/\Value.ownBlock (.slice s3 n3 k3)=some q∨q=w.heap.size+3:=fun q e=>by
  rcases hat with h | h
  . rw[h]at e
    exact .inl ⟨qig HO.u.r3 e,e⟩
  . rw[h]at e
    have e3:=Z6 e;exact .inr (by omega)
 have hko:∀q,Value.ownBlock (.slice us un uk)=some q->((W2.setCell ⟨w.heap.size,2,none⟩ (.slice us un uk)).setRow (w.heap.size+1) (Jk s1 n1 k1 s2 n2 k2 us un uk)).heap[q]? = W2.heap[q]?:=fun q e=>by
  have hq:q≠w.heap.size/\q≠w.heap.size+1:=by rcases hub q e with h | h <;> omega
  rw[setRow_other _ _ _ _ hq.2];exact heap_setCell_other _ _ _ _ hq.1
 have hap:∀{v:Value} {l:List ByteArray},OwnS w base v l->Apt (.slice s3 n3 k3) v->Apt (.slice us un uk) v:=fun ho ha q e e2=>by
  rcases hub q e with h | h
  . exact ha q h.2 e2
  . have:=qig ho e2
    omega
 exact bodyPost_ret (v:=.agg (Jk s1 n1 k1 s2 n2 k2 us un uk)) (by simp[results,Tryz.results71,go_sem,x0,x1,x2]) rfl ⟨_,_,_,rfl,⟨by rw[hk1];exact qih HO.u.r1 fun q e=>hkq q (qig HO.u.r1 e) (fun e2=>(HO.u.a13.symm) q e2.symm e),by rw[hk2];exact qih HO.u.r2 fun q e=>hkq q (qig HO.u.r2 e) (fun e2=>(HO.u.a23.symm) q e2.symm e),by rw[hk3];exact qih hou hko,HO.u.a12,(hap HO.u.r1 (HO.u.a13.symm)).symm,(hap HO.u.r2 (HO.u.a23.symm)).symm⟩,⟨hgr.os.trans HB1.u.os,hgr.tape.trans HB1.u.tape,hgr.output.trans HB1.u.output,by simp[World.setRow];omega,fun q hq g1 g2 g3=>hkq q hq (fun e=>g3 e.symm)⟩⟩
end Go.Proofs.YtebbgodlijlioaaGreatDoor
namespace Go.Proofs.YtebbgodlijlioaaGreatDoor
open Go
def noFd:Fl:=⟨⟨#[]⟩,0,0,[],[],[],[],⟨#[]⟩,[]⟩
def fAt (m:Fm)(k:Nat):Fl:=m.F.getD k noFd
theorem qge {m:Fm}{k:Nat}(h:k<m.F.length):fAt m k=m.F[k]:=by unfold fAt;rw[Yl,Yj h];rfl
def rdsN (l:List Nx)(x:ByteArray):Bool:=l.any fun n=>decide (n.op=1)&&decide (n.nm=x)
def fedB (m:Fm)(j k:Nat):Bool:=rdsN (fAt m k).is (fAt m j).nm||rdsN (fAt m k).wh (fAt m j).nm
def watB (m:Fm)(j k:Nat):Bool:=rdsN (fAt m k).va (fAt m j).nm||rdsN (fAt m k).mu (fAt m j).nm
def anyR (m:Fm)(j k:Nat):Bool:=fedB m j k||watB m j k
theorem at_mpR (r:List ByteArray)(hn:r.Nodup)(z:DataW Unit):∀k (hk:k<r.length),(mpR r).atKey (kl r[k]) z=.lit (.int .i64 ((r.length - 1 - k:Nat):Int)):=by
 induction r with
 | nil=>intro k hk;cases hk
 | cons x r ih =>
  intro k hk;rw[Oq]at hn;rw[show mpR (x :: r)=(mpR r).put (kl x) (.lit (.int .i64 (r.length:Int))) from rfl];cases k with
  | zero =>
   rw[Vr,Maps.atKey_put_same (qf6 r).isMap (show WideAt.IsKeyLit (kl x) from trivial)];simp
  | succ k =>
   have hk':k<r.length:=by simpa using hk
   rw[List.getElem_cons_succ,Maps.atKey_put_other (fun e=>hn.1 (by rw[<- kl_inj e];exact Yk hk')),ih hn.2 k hk'];simp only[Yw]
   congr 3
   omega
theorem at_mp (l:List ByteArray)(hn:l.Nodup)(z:DataW Unit)(k:Nat)(hk:k<l.length):(mp l).atKey (kl l[k]) z=.lit (.int .i64 (k:Int)):=by
 unfold mp
 have hr:l.reverse.Nodup:=(List.Perm.nodup_iff (List.reverse_perm l)).2 hn
 have h:=at_mpR l.reverse hr z (l.length - 1 - k) (by rw[Y6];omega)
 have e:l.reverse[l.length - 1 - k]'(by rw[Y6];omega)=l[k]:=by
  rw[List.getElem_reverse]
  congr 1
  omega
 rw[e,Y6]at h
 rw[h]
 congr 3
 omega
def fIdx (names:List ByteArray)(x:ByteArray):Nat:=names.findIdx fun y=>decide (y=x)
theorem qgf {names:List ByteArray}{x:ByteArray}(h:x∈names):fIdx names x<names.length:=List.findIdx_lt_length.2 ⟨x,h,by simp⟩
theorem qcf {names:List ByteArray}{x:ByteArray}(h:x∈names):names[fIdx names x]'(qgf h)=x:=by
 have:=List.findIdx_getElem (xs:=names) (p:=fun y=>decide (y=x)) (w:=qgf h)
 exact Ze this
theorem qgg {names:List ByteArray}(hn:names.Nodup){j:Nat}(hj:j<names.length):fIdx names names[j]=j:=by
 have hm:names[j]∈names:=Yk hj
 have h1:=qcf hm
 have h2:=qgf hm
 rcases Nat.lt_trichotomy (fIdx names names[j]) j with h | h | h
 . exact absurd h1 (Ve.1 hn _ _ h2 hj h)
 . exact h
 . exact absurd h1.symm (Ve.1 hn _ _ hj h2 h)
def rdL (names:List ByteArray)(l:List Nx):List Nat:=(l.filter fun n=>decide (n.op=1)).map fun n=>fIdx names n.nm
theorem qa3 {names:List ByteArray}{l:List Nx}(h:knows names l=true){n:Nx}(hn:n∈l)(h1:n.op=1):n.nm∈names:=by
 unfold knows at h
 have:=Y4.1 h n hn
 rw[Ym h1]at this
 exact(qdg _ _).1 (by simpa using this)
theorem rdL_lt {names:List ByteArray}{l:List Nx}(h:knows names l=true):∀j,j∈rdL names l->j<names.length:=by
 intro j hj
 unfold rdL at hj
 obtain⟨n,hn,rfl⟩:=Y8.1 hj
 rw[Or,Yq]at hn
 exact qgf (qa3 h hn.1 hn.2)
theorem qi5 {names:List ByteArray}{l:List Nx}(hn:names.Nodup)(h:knows names l=true){j:Nat}(hj:j<names.length):j∈rdL names l ↔ rdsN l names[j]=true:=by
 unfold rdL rdsN
 rw[List.any_eq_true]
 constructor
 . intro hx
   obtain⟨n,hn',rfl⟩:=Y8.1 hx;rw[Or,Yq]at hn';exact⟨n,hn'.1,by rw[Ym hn'.2,Ym (qcf (qa3 h hn'.1 hn'.2)).symm];rfl⟩
 . rintro⟨n,hm,e⟩
   rw[Yp,Yq,Yq]at e;exact Y8.2 ⟨n,Or.2 ⟨hm,Ym e.1⟩,by rw[e.2];exact qgg hn hj⟩
theorem VfA.nod {m:Fm}(h:VfA m):(fNames m).Nodup:=by
 have:=h.f
 unfold namesOk at this
 rw[Yp,Yq]at this
 exact this.2
theorem q6w (m:Fm):(fNames m).length=m.F.length:=by simp[fNames]
theorem q6v {m:Fm}{j:Nat}(hj:j<m.F.length):(fNames m)[j]'(by rw[q6w];exact hj)=(fAt m j).nm:=by rw[qge hj];simp[fNames]
theorem VfA.knw {m:Fm}(h:VfA m){k:Nat}(hk:k<m.F.length):knows (fNames m) (fAt m k).is=true/\knows (fNames m) (fAt m k).wh=true/\knows (fNames m) (fAt m k).va=true/\knows (fNames m) (fAt m k).mu=true:=by
 have:=h.kn _ (Yk hk)
 rw[qge hk]
 unfold fieldKnows at this
 simp only[Yp]at this
 exact⟨this.1.1.1,this.1.1.2,this.1.2,this.2⟩
inductive Rch (m:Fm)(k:Nat):Nat->Prop
 | one {i:Nat}:i<m.F.length->fedB m k i=true->Rch m k i
 | step {j i:Nat}:Rch m k j->i<m.F.length->fedB m j i=true->Rch m k i
theorem Rch.lt {m:Fm}{k i:Nat}(h:Rch m k i):i<m.F.length:=by cases h <;> assumption
end Go.Proofs.YtebbgodlijlioaaGreatDoor
namespace Go.Proofs.YtebbgodlijlioaaGreatDoor
open Go Go.RowKit
def up {α:Type}(f:Nat->α)(j:Nat)(v:α):Nat->α:=fun i=>if i=j then v else f i
theorem up_at {α:Type}(f:Nat->α)(j:Nat)(v:α):up f j v j=v:=Yy rfl
theorem up_ne {α:Type}(f:Nat->α){i j:Nat}(v:α)(h:i≠j):up f j v i=f i:=Yu h
theorem map_up {α:Type}(g:α->Value)(f:Nat->α)(n j:Nat)(v:α):((List.range n).map fun k=>g (f k)).set j (g v)=(List.range n).map fun k=>g (up f j v k):=by
 refine List.ext_getElem (by simp) fun i h1 h2=>?_
 simp only[Zz,Yz,List.length_range]at h1
 rw[List.getElem_set]
 simp only[Vh,List.getElem_range]
 by_cases e:j=i
 . subst e;rw[Yy rfl,up_at]
 . rw[Yu e,up_ne f v (fun h=>e h.symm)]
def zs (n:Nat)(f:Nat->Int):List Value:=(List.range n).map fun k=>.int .i64 (f k)
theorem q88 {X:Nat->Prop}{w w':World}{base n size:Nat}{e:TypeId}{v:Value}{xs:List Value}(h:w.ownsRow base e size v n xs)(hk:KeepX X w w')(hx:∀k,X k->k<base):w'.ownsRow base e size v n xs:=by
 refine⟨h.1,?_⟩
 rcases h.2 with h2 | ⟨g,cap,cur,h1,hb,hg,r⟩
 . exact .inl h2
 . exact .inr ⟨g,cap,cur,h1,hb,hk.same g cur e _ (fun hX=>by have:=hx g hX;omega) hg,r⟩
theorem qas {w w':World}{base n size:Nat}{e:TypeId}{v:Value}{xs:List Value}(h:w.ownsRow base e size v n xs)(hb:Below w.heap.size w w'):w'.ownsRow base e size v n xs :=
 h.kept (row:=none) ⟨hb.os,hb.tape,hb.output,hb.size,fun k hk _=>hb.block k hk⟩ (Classical.em _)
structure Fam (w:World)(base n:Nat)(V:Nat->Value)(L:Nat->List Nat):Prop where
 own:∀j,j<n->w.ownsRow base 3 1 (V j) (L j).length (ui (L j))
 apart:∀i j,i<n->j<n->i≠j->(V i).ownBlock=none∨(V i).ownBlock≠(V j).ownBlock
theorem Fam.mono {w w':World}{base n:Nat}{V:Nat->Value}{L:Nat->List Nat}(h:Fam w base n V L)(hb:Below w.heap.size w w'):Fam w' base n V L:=⟨fun j hj=>qas (h.own j hj) hb,h.apart⟩
theorem Fam.keep {X:Nat->Prop}{w w':World}{base n:Nat}{V:Nat->Value}{L:Nat->List Nat}(h:Fam w base n V L)(hk:KeepX X w w')(hx:∀k,X k->k<base):Fam w' base n V L:=⟨fun j hj=>q88 (h.own j hj) hk hx,h.apart⟩
theorem Fam.none (w:World)(base n:Nat):Fam w base n (fun _=>.slice none 0 0) (fun _=>[]):=⟨fun _ _=>World.ownsRow_nil _ _ _ _,fun _ _ _ _ _=>.inl rfl⟩
theorem Fam.sub {w:World}{base n n':Nat}{V:Nat->Value}{L:Nat->List Nat}(h:Fam w base n V L)(hn:n'<=n):Fam w base n' V L:=⟨fun j hj=>h.own j (by omega),fun i j hi hj=>h.apart i j (by omega) (by omega)⟩
theorem Fam.congr {w:World}{base n:Nat}{V V':Nat->Value}{L L':Nat->List Nat}(h:Fam w base n V L)(hV:∀j,j<n->V' j=V j)(hL:∀j,j<n->L' j=L j):Fam w base n V' L' :=
 ⟨fun j hj=>by rw[hV j hj,hL j hj];exact h.own j hj,fun i j hi hj hne=>by rw[hV i hi,hV j hj];exact h.apart i j hi hj hne⟩
theorem own_lt {w:World}{base n size:Nat}{e:TypeId}{v:Value}{xs:List Value}(h:w.ownsRow base e size v n xs){k:Nat}(hk:k ≥ w.heap.size):v.ownBlock≠some k:=fun e=>by have:=(h.lt k e).2;omega
theorem Fam.add {w w':World}{base n j x:Nat}{V:Nat->Value}{L:Nat->List Nat}{v:Value}(h:Fam w base n V L)(hj:j<n)(ho:w'.ownsRow base 3 1 v (L j++[x]).length (ui (L j++[x])))(hg:w.grownBy w' (V j).ownBlock)(hat:v.ownBlock=(V j).ownBlock∨v.ownBlock=some w.heap.size):Fam w' base n (up V j v) (up L j (L j++[x])):=by
 refine⟨fun i hi=>?_,fun i i' hi hi' hne=>?_⟩
 . by_cases e:i=j
   . subst e;rw[up_at,up_at];exact ho
   . rw[up_ne _ _ e,up_ne _ _ e];exact(h.own i hi).kept hg (h.apart i j hi hj e)
 . by_cases e:i=j
   . subst e
     rw[up_at,up_ne _ _ (fun e=>hne e.symm)];rcases hat with e2 | e2
     . rw[e2];exact h.apart i i' hi hi' hne
     . exact .inr fun e3=>own_lt (h.own i' hi') (nR _) (e3.symm.trans e2)
   . rw[up_ne _ _ e]
     by_cases e':i'=j
     . subst e'
       rw[up_at];rcases hat with e2 | e2
       . rw[e2];exact h.apart i i' hi hi' hne
       . exact .inr fun e3=>own_lt (h.own i hi) (nR _) (e3.trans e2)
     . rw[up_ne _ _ e'];exact h.apart i i' hi hi' hne
def HoldF (w:World)(F n:Nat)(V:Nat->Value):Prop:=Blk w F 30 ((List.range n).map V)
theorem HoldF.at {w:World}{F n:Nat}{V:Nat->Value}(h:HoldF w F n V){j:Nat}(hj:j<n):w.cell? ⟨F,j,none⟩=some (V j):=by
 have:=Blk.cell h j
 rw[this]
 simp[hj]
theorem HoldF.congr {w:World}{F n:Nat}{V V':Nat->Value}(h:HoldF w F n V)(hV:∀j,j<n->V' j=V j):HoldF w F n V':=by
 unfold HoldF
 rw[Vd fun j hj=>hV j (Zb.1 hj)]
 exact h
theorem qef {l:List Nx}(h:ruleOk l=true):l.length<=1000:=by
 unfold ruleOk at h
 rw[Zs]at h
 rcases h with h | h
 . have:=Ze h;omega
 . unfold vxL at h
   exact((qk4 _ _).1 h).2.1
end Go.Proofs.YtebbgodlijlioaaGreatDoor
namespace Go.Proofs.YtebbgodlijlioaaGreatDoor
open Go
def dirBy (M:Nat->Bool)(k:Nat)(L:List Nat):List Nat:=L.filter fun x=>decide (x=k)||M x
end Go.Proofs.YtebbgodlijlioaaGreatDoor
namespace Go.Proofs.YtebbgodlijlioaaGreatDoor
open Go Go.RowKit
theorem qe7 {l:List Nx}{x:ByteArray}{k:Nat}(h:k<l.length)(h1:(nf l k).op=1)(h2:(nf l k).nm=x):rdsN l x=true:=by
 unfold rdsN
 refine List.any_eq_true.2 ⟨l[k],Yk h,?_⟩
 rw[nf_get l k h]at h1 h2
 simp[h1,h2]
theorem qj2 {l:List Nx}{x:ByteArray}(h:∀k,k<l.length->¬ ((nf l k).op=1/\(nf l k).nm=x)):rdsN l x=false:=by
 unfold rdsN
 refine List.any_eq_false.2 fun n hn=>?_
 obtain⟨k,hk,rfl⟩:=Y2.1 hn
 have:=h k hk
 rw[nf_get l k hk]at this
 simpa using this
theorem q5d (a:Option Addr)(c:Nat)(l:List Nx)(x:ByteArray)(w:World)(hl:l.length<=9223372036854775807)(ha:NodL w a l) :
 Calls Tryz.prog 94 #[.slice a l.length c,.string x] w fun r w'=>r=.returned (.bool (rdsN l x))/\Below w.heap.size w w':=by
 have HA:=h_ ha
 obtain⟨q,hq⟩:=Nq (rdsN l x)
 rw[hq]
 have HQ:=h_ hq
 clear ha hq
 go_enter Tryz.func94,Tryz.ntmps94
 go_wp2_with fail
 go_loopw [5] (fun i wr=>∃k:Nat,k<=l.length/\i=J9 k/\(∀j,j<k->¬ ((nf l j).op=1/\(nf l j).nm=x))/\Below w.heap.size w wr) (fun i _=>l.length - (intOf i).toNat)
 case atStart=>exact⟨0,nZ _,rfl,fun j hj=>absurd hj (nL _),bR _ _⟩
 case round =>
  obtain⟨k,hk,rfl,hall,hb⟩:=hrel;have HL:=h_ hall;have HB:=h_ hb;have HAr:=h_ (HA.u.mono hb);clear hall hb;by_cases hlt:k<l.length
  . have hlt':(k:Int)<l.length:=by omega
    obtain⟨pb,po,rfl,-,z0,z1,z2,z3,z4⟩:=HAr.u k hlt;have HX:Hi ((nf l k).op=1->(nf l k).nm=x->q=true):=h_ fun h1 h2=>by rw[<- HQ.u,qe7 hlt h1 h2]
    have HG:Hi (¬ ((nf l k).op=1/\(nf l k).nm=x)->∀j,j<k+1->¬ ((nf l j).op=1/\(nf l j).nm=x)):=h_ fun h j hj=>by
     by_cases ej:j=k
     . subst ej;exact h
     . exact HL.u j (by omega)
    generalize nf l k=n at *;have he:=eqS n.nm x;by_cases h1:n.op=1
    . have h1':(n.op==1)=true:=by rw[h1];rfl
      by_cases h2:n.nm=x
      . have HX2:=h_ (HX.u h1 h2)
        rw[Ym h2]at he;clear h1 h2;go_wp2_with fail;go_ret;exact⟨qe9 HX2.u.symm,HB.u⟩
      . have HG2:=h_ (HG.u fun h=>h2 h.2)
        rw[Yi h2]at he;clear h1 h2;go_wp2_with fail;go_roundw
        case rel=>first | exact⟨k+1,by omega,by go_num,HG2.u,HB.u⟩ | ((repeat apply Exists.intro);exact⟨⟨k+1,by omega,by go_num,HG2.u,HB.u⟩,rfl⟩)
        case measure=>simp[intOf];omega
    . have h1':(n.op==1)=false:=by simp[h1]
      have HG2:=h_ (HG.u fun h=>h1 h.1);clear h1 he;go_wp2_with fail;go_roundw
      case rel=>first | exact⟨k+1,by omega,by go_num,HG2.u,HB.u⟩ | ((repeat apply Exists.intro);exact⟨⟨k+1,by omega,by go_num,HG2.u,HB.u⟩,rfl⟩)
      case measure=>simp[intOf];omega
  . obtain rfl:k=l.length:=by omega
    have hlt':¬ (l.length:Int)<(l.length:Int):=(by omega);have HX:Hi (q=false):=h_ (by rw[<- HQ.u,qj2 HL.u]);go_wp2_with fail;go_ret;exact⟨qe9 HX.u.symm,HB.u⟩
theorem q5b (m:Fm)(A:MA)(j k:Nat)(w:World)(hj:j<m.F.length)(hk:k<m.F.length)(hf:FitM m)(ha:MSl w m A) :
 Calls Tryz.prog 59 #[mV m A,J9 j,J9 k] w fun r w'=>r=.returned (.bool (fedB m j k))/\Below w.heap.size w w':=by
 obtain⟨al,alc,ap,apc,ar,arc,af,afc,afa⟩:=A
 unfold mV
 dsimp only
 have HK:=h_ (Blk.new w 28 (Jb al m alc ap apc ar arc af afc))
 have HB:=h_ ((bR w.heap.size w).alloc (nR _) (.cells (Jb al m alc ap apc ar arc af afc) 28))
 obtain⟨W0,hW0⟩:=Nq (w.alloc (.cells (Jb al m alc ap apc ar arc af afc) 28))
 rw[hW0]at HK HB
 have HS:=h_ (ha.mono HB.u)
 have hj':(j:Int)<m.F.length:=by omega
 have hk':(k:Int)<m.F.length:=by omega
 have hfl:=hf.fl
 have HE:Hi (fedB m j k=(rdsN m.F[k].is m.F[j].nm||rdsN m.F[k].wh m.F[j].nm)):=h_ (by unfold fedB;rw[qge hj,qge hk])
 have HI:=h_ (hf.f _ (Yk hk))
 clear ha hf
 obtain⟨b,o,e1,⟨-,z0,-⟩,-⟩:=HS.u.f j hj
 obtain⟨b',o',e2,⟨hbl,-,-,-,-,x4,x5,-⟩,hsl⟩:=HS.u.f k hk
 dsimp only at e1 e2 x4 x5 hsl
 subst e1
 cases e2
 have HSl:=h_ hsl
 clear hsl
 generalize m.F[j].nm=nm at *
 generalize m.F[k]=f at *
 generalize afa k=fa at *
 obtain⟨ab,abc,ai,aic,ah,ahc,av,avc,au,auc⟩:=fa
 dsimp only at x4 x5
 have HC1:=h_ (q5d ai aic f.is nm W0 HI.u.il HSl.u.i)
 obtain⟨y0,y1,y2,y3⟩:=quad HK.u
 generalize fedB m j k=q at *
 go_enter Tryz.func59,Tryz.ntmps59
 go_wp2_with fail
 try rw[hW0]
 refine HC1.u.mono ?_
 rintro r W1 ⟨rfl,hb⟩
 have hx5:=(hb.cell (p:=⟨b,o+k*9+5,none⟩) hbl).trans x5
 replace HK:=mB HK hb;replace HB:=mT HB hb;replace HSl:=h_ (HSl.u.mono hb)
 clear hb hW0 y0 y1 y2 y3 z0 x4 x5 HC1
 obtain⟨y0,y1,y2,y3⟩:=quad HK.u
 cases hr:rdsN f.is nm
 . have HC2:=h_ (q5d ah ahc f.wh nm W1 HI.u.hl HSl.u.h)
   have HX:Hi (q=rdsN f.wh nm):=h_ (by rw[HE.u,hr];rfl);clear hr;go_wp2_with fail;refine HC2.u.mono ?_;rintro r W2 ⟨rfl,hb⟩;replace HB:=mT HB hb;clear hb;go_wp2_with fail;go_ret;exact⟨qe9 HX.u.symm,HB.u⟩
 . have HX:Hi (q=true):=h_ (by rw[HE.u,hr];rfl)
   clear hr;go_wp2_with fail;go_ret;exact⟨qe9 HX.u.symm,HB.u⟩
def Plc (w:World)(a:Option Addr)(l:List Nat):Prop:=IntL w a (l.map fun x:Nat=>(x:Int))
theorem Plc.mono {w w':World}{a:Option Addr}{l:List Nat}(h:Plc w a l)(hb:Below w.heap.size w w'):Plc w' a l:=IntL.mono h hb
theorem Plc.at {w:World}{a:Option Addr}{l:List Nat}(h:Plc w a l)(k:Nat)(hk:k<l.length):∃b o,a=some ⟨b,o,none⟩/\b<w.heap.size/\w.cell? ⟨b,o+k,none⟩=some (J9 (l[k]:Int)):=by
 obtain⟨b,o,e,h1,h2⟩:=h k (by simpa using hk)
 refine⟨b,o,e,h1,?_⟩
 rw[h2]
 dsimp only
 rw[Yl,Zk,Yj hk]
 rfl
theorem q41 (l:List Ph)(k:Nat)(h:k<l.length):mx (l.take (k+1))=max (mx (l.take k)) l[k].d:=by
 rw[Yr h,qag];simp[mx]
theorem q44 (n:Nx)(a:Option Addr)(c:Nat)(l:List Ph)(w:World)(hok:okNode n=true)(hf:Fit n)(hl:l.length=arn n)(ha:Phs w a l)(hs:tot l<=2000000)(hd:mx l<=1000)(hw:Wrds w)(hp:Pow w) :
 Calls Tryz.prog 198 #[nv n,.slice a (arn n) c] w fun r w'=>r=.returned (pv (phr n l))/\Below w.heap.size w w':=by
 unfold nv
 have HK:=h_ ((Blk.new w 96 #[J9 n.op,J9 n.v.k,J9 n.v.n,.string n.v.s,.string n.nm]).alloc (.cells #[Yb,J9 0,J9 0] 208))
 have HR:=h_ (Blk.new (w.alloc (.cells #[J9 n.op,J9 n.v.k,J9 n.v.n,.string n.v.s,.string n.nm] 96)) 208 #[Yb,J9 0,J9 0])
 have HB:=h_ (((bR w.heap.size w).alloc (nR _) (.cells #[J9 n.op,J9 n.v.k,J9 n.v.n,.string n.v.s,.string n.nm] 96)).alloc (by simp) (.cells #[Yb,J9 0,J9 0] 208))
 rw[Yv]at HR
 obtain⟨W0,hW0⟩:=Nq ((w.alloc (.cells #[J9 n.op,J9 n.v.k,J9 n.v.n,.string n.v.s,.string n.nm] 96)).alloc (.cells #[Yb,J9 0,J9 0] 208))
 rw[hW0]at HK HB HR
 have HA:=h_ (ha.mono HB.u);have HP:=h_ (hp.mono HB.u);have HW:=h_ (hw.mono HB.u)
 have HL:=h_ hl;have HS:=h_ hs;have HD:=h_ hd;have HF:=h_ hf;have HO:=h_ hok
 have har:=arn_le n
 obtain⟨m,hm⟩:=Nq (arn n)
 rw[hm]at har HL⊢
 have HM:=h_ hm
 have HX:Hi (∀k,k<=m->mx (l.take k)<=1000):=h_ fun k _=>by
  have:mx l=max (mx (l.take k)) (mx (l.drop k)):=by rw[<- qag,Vf]
  have:=HD.u;omega
 clear ha hw hp hl hs hd hf hok hm
 go_enter Tryz.func198,Tryz.ntmps198
 go_wp2_with fail
 try rw[hW0]
 clear hW0
 go_loopw [5,7,10] (fun dp _ i wr=>∃k:Nat,k<=m/\dp=J9 (mx (l.take k))/\i=J9 k/\Below W0.heap.size W0 wr) (fun _ _ i _=>m - (intOf i).toNat)
 case atStart=>exact⟨0,nZ _,rfl,rfl,bR _ _⟩
 case round =>
  obtain⟨k,hk,rfl,rfl,hb⟩:=hrel;have HBr:=h_ hb;have HAr:=h_ (HA.u.mono hb);have hmk:=HX.u k hk;clear hb;by_cases hlt:k<m
  . have hlt':(k:Int)<m:=by omega
    have hkl:k<l.length:=(by have:=HL.u;omega);obtain⟨b,o,rfl,-,c0,c1,c2⟩:=HAr.u k hkl;have HN:Hi (mx (l.take (k+1))=max (mx (l.take k)) l[k].d):=h_ (q41 l k hkl);have hmk1:=HX.u (k+1) (by omega);obtain⟨p,hp⟩:=Nq (l[k]);rw[hp]at HN c0 c1 c2;rw[HN.u]at hmk1;clear hp;have HB2:=h_ (HBr.u.alloc HBr.u.size (.cells #[.string p.t,J9 p.lv,J9 p.d] 208));obtain⟨q,hq⟩:=Nq (mx (l.take k));rw[hq]at HN hmk hmk1⊢;clear hq;obtain⟨d,hdd⟩:=Nq p.d;rw[hdd]at HN hmk1 c2 HB2;clear hdd;go_wp2_with fail;go_roundw
    case rel=>first | exact⟨k+1,by omega,by rw[HN.u];exact congrArg (Value.int .i64) (by omega),by go_num,HB2.u⟩ | ((repeat apply Exists.intro);exact⟨⟨k+1,by omega,by rw[HN.u];exact congrArg (Value.int .i64) (by omega),by go_num,HB2.u⟩,rfl⟩)
    case measure=>simp[intOf];omega
  . obtain rfl:k=m:=by omega
    have hlt':¬ (k:Int)<(k:Int):=(by omega);rw[Zh (by have:=HL.u;omega)]at hmk⊢;have HKr:=h_ (HK.u.mono HBr.u HK.u.lt);have HRr:=h_ (HR.u.mono HBr.u HR.u.lt);have HPr:=h_ (HP.u.mono HBr.u);have HWr:=h_ (HW.u.mono HBr.u);have HB2:=h_ (HB.u.trans (HBr.u.mono HB.u.size));clear HK HR HP HW HB HBr HA HX;obtain⟨y0,y1,y2,y3,y4⟩:=five HKr.u;obtain⟨q,hq⟩:=Nq (mx l);rw[hq]at hmk⊢;have HQ:=h_ hq;clear hq;go_wp2_with fail;refine wp_region_held_drew (S:=fun w'=>w'.cell? ⟨w.heap.size,0,none⟩=some (J9 n.op)/\w'.cell? ⟨w.heap.size,1,none⟩=some (J9 n.v.k)/\w'.cell? ⟨w.heap.size,2,none⟩=some (J9 n.v.n)/\w'.cell? ⟨w.heap.size,3,none⟩=some (.string n.v.s)/\w'.cell? ⟨w.heap.size,4,none⟩=some (.string n.nm)) (by kernel_rfl) ⟨y0,y1,y2,y3,y4⟩ (fun zz=>?_);clear y0 y1 y2 y3 y4;refine tj 0 19 (.agg #[J9 n.op,J9 n.v.k,J9 n.v.n,.string n.v.s,.string n.nm]) zz ?_;refine tj 1 20 (.slice a k c) zz ?_;refine tj 3 22 (Yc w.heap.size 0) zz ?_;refine tj 4 23 (J9 n.op) zz ?_;simp only[sX,sY,sZ];refine tj 6 25 (J9 (q:Int)) zz ?_;refine tj 7 26 (J9 ((q:Int)+1)) zz ?_ (hy:=fun w hS=>by simp[execOp,go_sem, *];rw[IntKind.wrap_i64];omega);simp only[sX,sY,sZ];have HD2:Hi (Below wr.heap.size wr wr.drew):=h_ ((bR _ _).drew);have hpt:=q21 n a c l wr.drew HO.u HF.u (HL.u.trans HM.u.symm) (HAr.u.mono HD2.u) HS.u (HWr.u.mono HD2.u) (HPr.u.mono HD2.u);rw[HM.u]at hpt;refine callY (i:=2) (f:=206) (args:=#[.agg #[J9 n.op,J9 n.v.k,J9 n.v.n,.string n.v.s,.string n.nm],.slice a k c]) (R:=fun r wz=>r=.string (phT n l)/\Below wr.heap.size wr wz) 21 rfl rfl (by rfl) (by kernel_rfl) ?hrun1 (hpt.mono fun e w6 ⟨he,hb⟩=>⟨_,he,rfl,q28 hb⟩) ?_
    case hrun1=>simp[execOp,go_sem]
    clear hpt;rintro r3 W4 ⟨rfl,hb⟩;replace HKr:=mB HKr hb;replace HRr:=mB HRr hb;replace HB2:=mT HB2 hb;clear hb zz HD2;obtain⟨y0,y1,y2,y3,y4⟩:=five HKr.u;have zz:W4.cell? ⟨w.heap.size,0,none⟩=some (J9 n.op)/\W4.cell? ⟨w.heap.size,1,none⟩=some (J9 n.v.k)/\W4.cell? ⟨w.heap.size,2,none⟩=some (J9 n.v.n)/\W4.cell? ⟨w.heap.size,3,none⟩=some (.string n.v.s)/\W4.cell? ⟨w.heap.size,4,none⟩=some (.string n.nm):=⟨y0,y1,y2,y3,y4⟩;clear y0 y1 y2 y3 y4;refine⟨zz,?_⟩;simp only[sX,sY,sZ];refine callY (i:=5) (f:=207) (args:=#[J9 n.op]) (R:=fun r wz=>r=J9 (lvl n.op)/\wz=W4) 24 rfl rfl (by rfl) (by kernel_rfl) ?hrun2 ((q5h _ _).mono fun e w6 ⟨he,hb⟩=>⟨_,he,rfl,hb⟩) ?_
    case hrun2=>simp[execOp,go_sem]
    rintro r3 W5 ⟨rfl,hw⟩;replace hw:=hw.symm;subst hw;refine⟨zz,?_⟩;simp only[sX,sY,sZ];obtain⟨t,ht⟩:=Nq (phT n l);obtain⟨lv,hlv⟩:=Nq (lvl n.op);have HE:Hi (phr n l=⟨t,lv,q+1⟩):=h_ (by rw[<- ht,<- hlv,<- HQ.u];rfl);rw[ht,hlv];clear ht hlv;refine tj 8 27 (.agg #[.string t,J9 lv,J9 ((q:Int)+1)]) zz ?_;simp only[sX,sY,sZ];obtain⟨r0,r1,r2⟩:=three HRr.u;have f0:=HRr.u.free 0;have f1:=HRr.u.free 1;have f2:=HRr.u.free 2;have far:∀(w':World) (j i:Nat) (u:Value),(w'.setCell ⟨w.heap.size+1,j,none⟩ u).cell? ⟨w.heap.size,i,none⟩=w'.cell? ⟨w.heap.size,i,none⟩:=fun w' j i u=>World.cell?_of_block (w:=w') (heap_setCell_other w' ⟨w.heap.size+1,j,none⟩ w.heap.size u (by simp));refine storeY (i:=9) (w':=((W4.setCell ⟨w.heap.size+1,0,none⟩ (.string t)).setCell ⟨w.heap.size+1,1,none⟩ (J9 lv)).setCell ⟨w.heap.size+1,2,none⟩ (J9 ((q:Int)+1))) rfl (by rfl) (by kernel_rfl) rfl ?hrunS rfl ⟨by rw[far,far,far];exact zz.1,by rw[far,far,far];exact zz.2.1,by rw[far,far,far];exact zz.2.2.1,by rw[far,far,far];exact zz.2.2.2.1,by rw[far,far,far];exact zz.2.2.2.2⟩ ?_
    case hrunS=>simp[execOp,go_sem,r0,r1,r2,f0,f1,f2]
    refine wpAnyH_done (by kernel_rfl) ?_ _;have bR9:=(((HRr.u.set 0 (.string t)).set 1 (J9 lv)).set 2 (J9 ((q:Int)+1)));have HB9:=h_ (((HB2.u.setCell (show w.heap.size<=(⟨w.heap.size+1,0,none⟩:Addr).block by simp) (.string t)).setCell (show w.heap.size<=(⟨w.heap.size+1,1,none⟩:Addr).block by simp) (J9 lv)).setCell (show w.heap.size<=(⟨w.heap.size+1,2,none⟩:Addr).block by simp) (J9 ((q:Int)+1)));obtain⟨W9,hW9⟩:=Nq (((W4.setCell ⟨w.heap.size+1,0,none⟩ (.string t)).setCell ⟨w.heap.size+1,1,none⟩ (J9 lv)).setCell ⟨w.heap.size+1,2,none⟩ (J9 ((q:Int)+1)));rw[hW9]at bR9 HB9⊢;obtain⟨k0,k1,k2⟩:=three bR9;clear hW9 bR9 r0 r1 r2 f0 f1 f2 far zz;go_wp2;exact bodyPost_ret (v:=.agg #[.string t,J9 lv,J9 ((q:Int)+1)]) (by simp[results,Tryz.results198,go_sem, *]) rfl ⟨by rw[HE.u];rfl,HB9.u⟩
def phV (l:List Ph):List Value:=l.flatMap fun p=>[.string p.t,.int .i64 p.lv,.int .i64 p.d]
theorem qio (l:List Ph):(phV l).length=l.length*3:=by
 induction l with
 | nil=>rfl
 | cons p r ih=>simp only[phV,Zo,Yg,Yw,Y5]at *;omega
theorem q8e (l r:List Ph):phV (l++r)=phV l++phV r:=by simp[phV]
theorem qin (l:List Ph)(k:Nat)(h:k<l.length):(phV l)[k*3]? = some (.string l[k].t)/\(phV l)[k*3+1]? = some (J9 l[k].lv)/\(phV l)[k*3+2]? = some (J9 l[k].d):=by
 induction l generalizing k with
 | nil=>cases h
 | cons p r ih =>
  cases k with
  | zero=>exact⟨rfl,rfl,rfl⟩
  | succ k =>
   have:=ih k (by simpa using h);rw[show(k+1)*3=k*3+1+1+1 by omega];simpa [phV] using this
theorem qdz (l:List Ph)(k:Nat):(phV l).take (k*3)=phV (l.take k):=by
 induction l generalizing k with
 | nil=>simp[phV]
 | cons p r ih =>
  cases k with
  | zero=>simp[phV]
  | succ k =>
   rw[show(k+1)*3=k*3+1+1+1 by omega];have:=ih k;simp only[phV,Zo,List.take_succ_cons]at *;simp[this]
theorem qh2:(Tryz.prog.info? 208).map (fun i=>(i.zero,i.size,i.bytes))=some (some (.agg Jr),3,32):=by kernel_rfl
def StkV (w:World)(B:Nat)(v:Value)(l:List Ph):Prop:=w.ownsRow B 208 3 v l.length (phV l)
theorem StkV.shape {w:World}{B:Nat}{v:Value}{l:List Ph}(h:StkV w B v l):∃a cap,v=.slice a l.length cap/\l.length<=cap/\(a=none->l=[]/\cap=0)/\(∀g o f,a=some ⟨g,o,f⟩->o=0/\f=none/\B<=g/\g<w.heap.size):=by
 rcases h.2 with ⟨rfl,h0⟩ | ⟨g,cap,cur,rfl,hb,hg,hc,-,hs,htake⟩
 . exact⟨none,0,by rw[h0],by omega,fun _=>⟨Z8.1 h0,rfl⟩,fun _ _ _ h=>by cases h⟩
 . exact⟨_,cap,rfl,hc,fun h=>(by cases h),fun g' o f h=>by cases h;exact⟨rfl,rfl,hb,(Yt.1 hg).1⟩⟩
theorem StkV.cell {w:World}{B:Nat}{g cap:Nat}{l:List Ph}(h:StkV w B (.slice (some ⟨g,0,none⟩) l.length cap) l)(j:Nat)(hj:j<l.length*3):w.cell? ⟨g,j,none⟩=(phV l)[j]?:=World.ownsRow.cellAt (show w.ownsRow B 208 3 _ _ _ from h) j hj
theorem StkV.from {w:World}{B:Nat}{a:Option Addr}{cap:Nat}{l:List Ph}(h:StkV w B (.slice a l.length cap) l)(r:Nat)(hr:r<=l.length) :
 Phs w (if cap=r then a else a.map (·.add (r*3))) (l.drop r):=by
 intro k hk
 rw[List.length_drop]at hk
 obtain⟨a',cap',e,hc,hn,hs⟩:=h.shape
 simp only[Value.slice.injEq,true_and]at e
 obtain⟨rfl,rfl⟩:=e
 cases a with
 | none=>obtain⟨rfl,-⟩:=hn rfl;simp at hk
 | some ad =>
  obtain⟨g,o,f⟩:=ad;obtain⟨rfl,rfl,-,hlt⟩:=hs g o f rfl;rw[Yu (by omega)];refine⟨g,r*3,by simp[Addr.add];omega,?_⟩;have hg:=qin l (r+k) (by omega);rw[List.getElem_drop];exact⟨hlt,by rw[<- Nat.add_mul,h.cell _ (by omega)];exact hg.1,by rw[<- Nat.add_mul,h.cell _ (by omega)];exact hg.2.1,by rw[<- Nat.add_mul,h.cell _ (by omega)];exact hg.2.2⟩
theorem StkV.upto {w:World}{B:Nat}{a:Option Addr}{cap:Nat}{l:List Ph}(h:StkV w B (.slice a l.length cap) l)(r:Nat)(hr:r<=l.length):StkV w B (.slice a r cap) (l.take r):=by
 have hl:(l.take r).length=r:=by rw[Y3];omega
 unfold StkV
 rw[hl]
 refine⟨by rw[qio,hl],?_⟩
 rcases h.2 with ⟨e,h0⟩ | ⟨g,cap',cur,e,hb,hg,hc,hx,hs,htake⟩
 . simp only[Value.slice.injEq]at e
   obtain⟨rfl,-,rfl⟩:=e;exact .inl ⟨by rw[show r=0 by omega],by omega⟩
 . simp only[Value.slice.injEq,true_and]at e
   obtain⟨rfl,rfl⟩:=e;refine .inr ⟨g,cap,cur,rfl,hb,hg,by omega,hx,hs,?_⟩;rw[<- qdz,<- htake,List.take_take,Oo (by omega)]
theorem StkV.mono {w w':World}{B:Nat}{v:Value}{l:List Ph}(h:StkV w B v l)(hb:Below w.heap.size w w'):StkV w' B v l:=by
 refine⟨h.1,?_⟩
 rcases h.2 with h' | ⟨g,cap,cur,e,hB,hg,hc,hx,hs,htake⟩
 . exact .inl h'
 . exact .inr ⟨g,cap,cur,e,hB,(hb.block g (Yt.1 hg).1).trans hg,hc,hx,hs,htake⟩
theorem StkV.other {w:World}{B:Nat}{v:Value}{l:List Ph}(h:StkV w B v l){b:Nat}(hb:v.ownBlock≠some b)(j:Nat)(u:Value):StkV (w.setCell ⟨b,j,none⟩ u) B v l:=by
 refine⟨h.1,?_⟩
 rcases h.2 with h' | ⟨g,cap,cur,e,hB,hg,hc,hx,hs,htake⟩
 . exact .inl h'
 . refine .inr ⟨g,cap,cur,e,hB,(heap_setCell_other w ⟨b,j,none⟩ g u ?_).trans hg,hc,hx,hs,htake⟩
   rintro rfl;exact hb (by rw[e];rfl)
theorem q0f {α:Type}(l:List α)(k:Nat)(h:k<=l.length):l.reverse.drop (l.length - k)=(l.take k).reverse:=by
 rw[List.drop_reverse];congr 1;congr 1;omega
theorem q0g {α:Type}(l:List α)(k:Nat)(h:k<=l.length):l.reverse.take (l.length - k)=(l.drop k).reverse:=by
 rw[List.take_reverse];congr 1;congr 1;omega
theorem q4d (e:Nat->Nx)(k A:Nat):tot ((pst e k).take A).reverse<=tot (pst e k):=by rw[q63];exact qfa _ _
theorem q5k (e:Nat->Nx)(k A:Nat):mx ((pst e k).take A).reverse<=k:=by rw[q82];exact q83 e k A
theorem qc8 (w:World)(p:Ph):∀(j:Nat) (u:Value),(phV [p])[j]? = some u->(w.alloc (.cells #[.string p.t,J9 p.lv,J9 p.d] 208)).cell? ((⟨w.heap.size,0,none⟩:Addr).add j)=some u:=fun j u h=>by
 have hb:=Blk.new w 208 #[.string p.t,J9 p.lv,J9 p.d]
 match j,h with
 | 0,h=>simp[phV]at h;subst h;exact hb.cell 0
 | 1,h=>simp[phV]at h;subst h;exact hb.cell 1
 | 2,h=>simp[phV]at h;subst h;exact hb.cell 2
theorem q2x {P:Program}{a:Act}{o:Oper}{w w':World}{s x:Operand}{t:TypeId}{v u v':Value}(ho:o.op=.call { callee:=.builtin .append,args:=#[s,x],argTypes:=#[t,t] })(hs:a.eval s=v)(hx:a.eval x=u)(hr:(Builtin.append_ #[t,t] o.type #[v,u]).run P w=.ok v' w'):(execOp a.eval o).run P w=.ok (.value v') w':=by
 unfold execOp
 simp only[ho,resolve,invoke,builtin,Sem.run_bind,Sem.run_pure,Result.andThen_ok,Ob,Zx,Vs,hs,hx,hr]
theorem q5u (a:Option Addr)(m c:Nat)(e:Nat->Nx)(w:World)(hm:m<=9223372036854775807)(ha:Nods w a m e)(hf:∀k,k<m->Fit (e k))(hw:Wrds w)(hp:Pow w) :
 Calls Tryz.prog 191 #[.slice a m c] w fun r w'=>r=.returned (.tuple #[.string (if vxB e m then (top e m).t else ⟨#[]⟩),.bool (vxB e m)])/\Below w.heap.size w w':=by
 by_cases h2:1000<m
 . rw[vxB_no fun h=>by have:=h.2.1;omega]
   go_enter Tryz.func191,Tryz.ntmps191;go_wp2_with fail
   go_ret2
   exact⟨rfl,bR _ _⟩
 have HA:=h_ ha;have HF:=h_ hf;have HW:=h_ hw;have HP:=h_ hp
 obtain⟨r,hr⟩:=Nq (vxB e m)
 obtain⟨t,ht⟩:=Nq ((if vxB e m then (top e m).t else ⟨#[]⟩))
 rw[ht,hr]
 have HR:=h_ hr
 have HN:Hi (¬ vEx e m->r=false/\t=⟨#[]⟩):=h_ fun h=>by rw[<- hr,<- ht,vxB_no h];exact⟨rfl,rfl⟩
 have HY:Hi (vEx e m->r=true/\t=(top e m).t):=h_ fun h=>by rw[<- hr,<- ht,(qk4 e m).2 h];exact⟨rfl,rfl⟩
 clear ha hf hr ht hw hp
 go_enter Tryz.func191,Tryz.ntmps191
 go_wp2_with fail
 obtain⟨B,hB⟩:=Nq w.heap.size
 go_loopw [4,6,7,8,14] (fun v _ _ _ i wr=>∃k:Nat,k<=m/\i=J9 k/\StkV wr B v (pst e k).reverse/\okAll e k/\stkOk e k/\(∀j,1<=j->j<=k->(top e j).d<=64/\(top e j).t.size<=4000)/\Below B w wr) (fun _ _ _ _ i _=>m - (intOf i).toNat)
 case atStart=>exact⟨0,nZ _,rfl,⟨rfl,.inl ⟨rfl,rfl⟩⟩,fun k hk=>absurd hk (nL _),fun k hk=>absurd hk (nL _),fun j h1 h0=>by omega,by rw[<- hB];exact bR _ _⟩
 case round =>
  obtain⟨k,hk,rfl,hst,hok,hso,hlim,hb⟩:=hrel;have HST:=h_ hst;have HOK:=h_ hok;have HSO:=h_ hso;have HLM:=h_ hlim;have HB:=h_ hb;have HV:=h_ (HA.u.mono (hb.mono (by omega)));have HWr:=h_ (HW.u.mono (hb.mono (by omega)));have HPr:=h_ (HP.u.mono (hb.mono (by omega)));have hBw:=hb.size;clear hst hok hso hlim hb;have hlr:(pst e k).reverse.length=(stk e k).length:=by rw[Y6,qiw]
  obtain⟨sa,cap,rfl,hcap,hnone,hsome⟩:=HST.u.shape;rw[hlr]at hcap;rw[hlr];have HSH:Hi (StkV wr B (.slice sa (stk e k).length cap) (pst e k).reverse):=h_ (by have:=HST.u;rw[hlr]at this;exact this);have HSM:=h_ hsome;clear HST hnone hsome hlr;have hsl:=qjm e k;obtain⟨L,hL⟩:=Nq ((stk e k).length);rw[hL]at HSH hcap hsl⊢;have HL:=h_ hL;clear hL;by_cases hlt:k<m
  . have hlt':(k:Int)<m:=by omega
    obtain⟨b,o,rfl,-,c0,c1,c2,c3,c4⟩:=HV.u k hlt;have HK:=h_ (Blk.new wr 96 #[J9 (e k).op,J9 (e k).v.k,J9 (e k).v.n,.string (e k).v.s,.string (e k).nm]);have HBn:=h_ ((bR wr.heap.size wr).alloc (nR _) (.cells #[J9 (e k).op,J9 (e k).v.k,J9 (e k).v.n,.string (e k).v.s,.string (e k).nm] 96));obtain⟨Wn,hWn⟩:=Nq (wr.alloc (.cells #[J9 (e k).op,J9 (e k).v.k,J9 (e k).v.n,.string (e k).v.s,.string (e k).nm] 96));rw[hWn]at HK HBn;obtain⟨y0,y1,y2,y3,y4⟩:=five HK.u;go_wp2_with fail
    try rw[hWn]
    refine(q77 (e k) _ (HF.u k hlt)).mono ?_;rintro x w1 ⟨rfl,hb⟩;replace HK:=mB HK hb;replace HBn:=mT HBn hb;clear hb c0 c1 c2 c3 c4 y0 y1 y2 y3 y4 hWn;obtain⟨y0,y1,y2,y3,y4⟩:=five HK.u;cases hg:okNode (e k)
    . have HX:=h_ (HN.u fun h=>by have:=h.2.2.1 k hlt;rw[hg]at this;cases this)
      go_wp2_with fail
      go_ret2
      exact⟨by rw[HX.u.1,HX.u.2];rfl,by rw[hB];exact HB.u.trans (HBn.u.mono (by omega))⟩
    have HOK2:Hi (okAll e (k+1)):=h_ fun j hj=>by
     by_cases ej:j=k
     . subst ej;exact hg
     . exact HOK.u j (by omega)
    have HG:=h_ hg;clear hg;go_wp2_with fail;refine(q0d (e k) _).mono ?_;rintro x w2 ⟨rfl,hb⟩;replace HK:=mB HK hb;replace HBn:=mT HBn hb;clear hb y0 y1 y2 y3 y4;obtain⟨y0,y1,y2,y3,y4⟩:=five HK.u;have har:=arn_le (e k);obtain⟨A,hA⟩:=Nq (arn (e k));by_cases hgt:L<A
    . have hgt':(L:Int)<A:=by omega
      have HX:=h_ (HN.u fun h=>by have:=h.2.2.2.1 k hlt;rw[HL.u,hA]at this;omega);rw[hA];clear hA;go_wp2_with fail
      go_ret2
      exact⟨by rw[HX.u.1,HX.u.2];rfl,by rw[hB];exact HB.u.trans (HBn.u.mono (by omega))⟩
    have hgt':¬ (L:Int)<A:=(by omega);have HSO2:Hi (stkOk e (k+1)):=h_ fun j hj=>by
     by_cases ej:j=k
     . subst ej;rw[HL.u,hA];omega
     . exact HSO.u j (by omega)
    rw[hA]at har⊢;have HAe:=h_ hA;clear hA;go_wp2_with fail;refine(show Calls Tryz.prog 197 #[nv (e k)] w2 fun r w'=>r=.returned (J9 (A:Int))/\Below w2.heap.size w2 w' from by rw[<- HAe.u];exact q0d (e k) _).mono ?_;rintro x w3 ⟨rfl,hb⟩;replace HK:=mB HK hb;replace HBn:=mT HBn hb;clear hb y0 y1 y2 y3 y4;obtain⟨y0,y1,y2,y3,y4⟩:=five HK.u;have hwL:wrap64 ((L:Int) - (A:Int))=((L - A:Nat):Int):=(by rw[q4f (by omega) (by omega)];omega);obtain⟨R,hR⟩:=Nq (L - A);rw[hR]at hwL;have hLA:(L:Int) - (A:Int)=(R:Int):=(by omega);have HLR:Hi (L - R=A):=h_ (by omega);have hR1:R<=L:=(by omega);have HAr:Hi (((pst e k).take A).reverse=(pst e k).reverse.drop R):=h_ (by
     have h1:(pst e k).length=L:=(by rw[qiw];exact HL.u);rw[<- q0f (pst e k) A (by omega),h1,hR])
    have HRr:Hi (((pst e k).drop A).reverse=(pst e k).reverse.take R):=h_ (by
     have h1:(pst e k).length=L:=(by rw[qiw];exact HL.u);rw[<- q0g (pst e k) A (by omega),h1,hR])
    have HTP:Hi (top e (k+1)=phr (e k) ((pst e k).take A).reverse):=h_ (by rw[qf8,HAe.u]);have HPS:Hi ((pst e (k+1)).reverse=(pst e k).reverse.take R++[top e (k+1)]):=h_ (by
     rw[show pst e (k+1)=top e (k+1) :: (pst e k).drop (arn (e k)) from rfl,List.reverse_cons,HAe.u,HRr.u])
    have HTT:Hi (tot ((pst e k).take A).reverse<=2000000/\mx ((pst e k).take A).reverse<=1000):=h_ (by
     have h1:=q4d e k A;have h2:=(qjy e k HSO.u HOK.u (fun j hj=>(HF.u j (by omega)).2.2.2)).2;have h3:=q5k e k A;omega)
    have HLA:Hi (((pst e k).take A).reverse.length=arn (e k)):=h_ (by rw[Y6,Y3,qiw,HL.u,HAe.u];omega);have HSW:=h_ (HSH.u.mono HBn.u);have HWw:=h_ (HWr.u.mono HBn.u);have HPw:=h_ (HPr.u.mono HBn.u);have HBw:=h_ (HB.u.trans (HBn.u.mono (show B<=wr.heap.size by omega)));obtain⟨ao,hao⟩:∃ao,(if cap=R then sa else sa.map (·.add (R*3)))=ao:=⟨_,rfl⟩;have HPh:Hi (Phs w3 ao ((pst e k).take A).reverse):=h_ (by
     have h1:(pst e k).reverse.length=L:=(by rw[Y6,qiw];exact HL.u);have h2:=HSW.u;rw[<- h1]at h2;have h3:=h2.from R (by omega);rw[hao]at h3;rw[HAr.u];exact h3)
    have hNs:=HBn.u.size;have hNw:wr.heap.size<w3.heap.size:=HK.u.lt;have HNX:Hi (∀X,wr.heap.size<=X->(Value.slice sa L cap).ownBlock≠some X):=h_ fun X hX h=>by
     cases sa with
     | none=>cases h
     | some ad=>obtain⟨g,o',f⟩:=ad;have h:g=X:=(by simpa [Value.ownBlock] using h);have:=(HSM.u g o' f rfl).2.2.2;omega
    have hBN:B<=wr.heap.size:=(by omega);obtain⟨N,hN⟩:=Nq wr.heap.size;rw[hN]at hBN HK HNX hNw y0 y1 y2 y3 y4⊢;clear hN hR HAr HRr HSH HBn HB HWr HPr HV HSM HA hNs hBw;go_wp2_with fail;refine wp_region_held_drew (S:=fun w'=>w'.cell? ⟨N,0,none⟩=some (J9 (e k).op)/\w'.cell? ⟨N,1,none⟩=some (J9 (e k).v.k)/\w'.cell? ⟨N,2,none⟩=some (J9 (e k).v.n)/\w'.cell? ⟨N,3,none⟩=some (.string (e k).v.s)/\w'.cell? ⟨N,4,none⟩=some (.string (e k).nm)) (by kernel_rfl) ⟨y0,y1,y2,y3,y4⟩ (fun zz=>?_);clear y0 y1 y2 y3 y4;refine tj 0 33 (.agg #[J9 (e k).op,J9 (e k).v.k,J9 (e k).v.n,.string (e k).v.s,.string (e k).nm]) zz ?_;refine tj 1 34 (.slice sa L cap) zz ?_;refine tj 2 35 (J9 (R:Int)) zz ?_;refine tj 3 36 (.slice ao A (cap - R)) zz ?_ (hy:=fun w hS=>by have hLR:=HLR.u;simp[execOp,go_sem, *]);simp only[sX,sY,sZ];have hcall:∀W:World,Phs W ao ((pst e k).take A).reverse->Wrds W->Pow W->Calls Tryz.prog 198 #[.agg #[J9 (e k).op,J9 (e k).v.k,J9 (e k).v.n,.string (e k).v.s,.string (e k).nm],.slice ao A (cap - R)] W fun r w'=>r=.returned (pv (top e (k+1)))/\Below W.heap.size W w':=fun W h1 h2 h3=>by
     rw[HTP.u,<- HAe.u];rw[<- HAe.u]at h1;have hh:=q44 (e k) ao (cap - R) ((pst e k).take (arn (e k))).reverse W HG.u (HF.u k hlt) (by rw[HAe.u];exact HLA.u.trans HAe.u) h1 (by rw[HAe.u];exact HTT.u.1) (by rw[HAe.u];exact HTT.u.2) h2 h3;exact hh
    have HC:=h_ hcall;clear hcall HTP HLA HTT;obtain⟨p,hp⟩:=Nq (top e (k+1));rw[hp]at HC HPS;have HTE:=h_ hp;clear hp;have HD0:Hi (Below w3.heap.size w3 w3.drew):=h_ ((bR _ _).drew);refine wpAnyH_ready (rs:=[4,5]) (by kernel_rfl) (by simp) (consCall (f:=198) (args:=#[.agg #[J9 (e k).op,J9 (e k).v.k,J9 (e k).v.n,.string (e k).v.s,.string (e k).nm],.slice ao A (cap - R)]) (R:=fun r wz=>r=pv p/\Below w3.heap.size w3 wz) 37 rfl rfl (by rfl) ?hrun1 ((HC.u _ (HPh.u.mono HD0.u) (HWw.u.mono HD0.u) (HPw.u.mono HD0.u)).mono fun e w6 ⟨he,hb⟩=>⟨_,he,rfl,q28 hb⟩) ?pB (consRun (v:=Yc w3.heap.size 0) (w':=w3.drew.alloc (.cells #[Yb,J9 0,J9 0] 208)) 8 rfl rfl (by rfl) ?hrun2 ?hS2 ?pA AllReadyH.nil))
    case hrun1=>simp[execOp,go_sem]
    case hrun2=>simp[execOp,go_sem]
    case hS2 =>
     obtain⟨z0,z1,z2,z3,z4⟩:=five ((HK.u.mono HD0.u HK.u.lt).alloc (.cells #[Yb,J9 0,J9 0] 208));exact⟨z0,z1,z2,z3,z4⟩
    case' pB =>
     rintro r3 W4 ⟨rfl,hb⟩;have hK4:=HK.u.mono hb HK.u.lt;have hS4:=HSW.u.mono hb;have hB4:=HBw.u.trans (hb.mono (by have:=HBw.u.size;omega));have hN4:w3.heap.size<=W4.heap.size:=hb.size;clear hb zz;obtain⟨z0,z1,z2,z3,z4⟩:=five hK4;refine⟨⟨z0,z1,z2,z3,z4⟩,?_⟩;clear z0 z1 z2 z3 z4;simp only[sX,sY,sZ];have hK5:=hK4.alloc (.cells #[Yb,J9 0,J9 0] 208);have hX5:=Blk.new W4 208 #[Yb,J9 0,J9 0];have hS5:=hS4.mono ((bR W4.heap.size W4).alloc (nR _) (.cells #[Yb,J9 0,J9 0] 208));have hB5:=hB4.alloc (by have:=hB4.size;omega) (.cells #[Yb,J9 0,J9 0] 208);obtain⟨z0,z1,z2,z3,z4⟩:=five hK5;refine wpAnyH_ready (rs:=[5]) (by kernel_rfl) (by simp) (consRun (v:=Yc W4.heap.size 0) (w':=W4.alloc (.cells #[Yb,J9 0,J9 0] 208)) 8 rfl rfl (by rfl) ?hrun3 ⟨z0,z1,z2,z3,z4⟩ ?pB2 AllReadyH.nil)
     case hrun3=>simp[execOp,go_sem]
     simp only[sX,sY,sZ];clear z0 z1 z2 z3 z4 hK4 hS4 hB4;obtain⟨X,hX⟩:=Nq W4.heap.size;obtain⟨W6,hW6⟩:=Nq (W4.alloc (.cells #[Yb,J9 0,J9 0] 208));rw[hW6]at hK5 hX5 hS5 hB5⊢;rw[hX]at hX5 hN4⊢;clear hW6 hX;have hNX:N<X:=by omega
    case' pA =>
     simp only[sX,sY,sZ];have hbA:Below w3.heap.size w3 (w3.drew.alloc (.cells #[Yb,J9 0,J9 0] 208)):=q28 ((bR w3.heap.size w3.drew).alloc (nR _) _);have hX4:=Blk.new w3.drew 208 #[Yb,J9 0,J9 0];obtain⟨W5,hW5⟩:=Nq (w3.drew.alloc (.cells #[Yb,J9 0,J9 0] 208));rw[hW5]at hbA hX4⊢;replace hX4:Blk W5 w3.heap.size 208 [Yb,J9 0,J9 0]:=hX4;clear hW5 zz;refine wpAnyH_ready (rs:=[4]) (by kernel_rfl) (by simp) (consCall (f:=198) (args:=#[.agg #[J9 (e k).op,J9 (e k).v.k,J9 (e k).v.n,.string (e k).v.s,.string (e k).nm],.slice ao A (cap - R)]) (R:=fun r wz=>r=pv p/\Below W5.heap.size W5 wz) 37 rfl rfl (by rfl) ?hrun4 ((HC.u _ (HPh.u.mono hbA) (HWw.u.mono hbA) (HPw.u.mono hbA)).mono fun e w6 ⟨he,hb⟩=>⟨_,he,rfl,hb⟩) ?pA2 AllReadyH.nil)
     case hrun4=>simp[execOp,go_sem]
     rintro r3 W6 ⟨rfl,hb⟩;have hK5:=(HK.u.mono hbA HK.u.lt).mono hb (HK.u.mono hbA HK.u.lt).lt;have hX5:=hX4.mono hb hX4.lt;have hS5:=(HSW.u.mono hbA).mono hb;have hBA:=HBw.u.trans (hbA.mono (by have:=HBw.u.size;omega));have hB5:=hBA.trans (hb.mono (by have:=hBA.size;omega));obtain⟨z0,z1,z2,z3,z4⟩:=five hK5;refine⟨⟨z0,z1,z2,z3,z4⟩,?_⟩;simp only[sX,sY,sZ];clear z0 z1 z2 z3 z4 hb hbA hX4 hBA;have hN4:w3.heap.size<=w3.heap.size:=nR _;obtain⟨X,hX⟩:=Nq w3.heap.size;rw[hX]at hX5 hN4 hNw⊢;clear hX;have hNX:N<X:=by omega
    all_goals
     clear HPh HWw HPw HC HD0 HK HSW HBw;obtain⟨z0,z1,z2,z3,z4⟩:=five hK5;obtain⟨r0,r1,r2⟩:=three hX5;have f0:=hX5.free 0;have f1:=hX5.free 1;have f2:=hX5.free 2;have far:∀(w':World) (j i:Nat) (u:Value),(w'.setCell ⟨X,j,none⟩ u).cell? ⟨N,i,none⟩=w'.cell? ⟨N,i,none⟩:=fun w' j i u=>World.cell?_of_block (w:=w') (heap_setCell_other w' ⟨X,j,none⟩ N u (by simp;omega));unfold pv;refine storeY (i:=6) (w':=(((W6.setCell ⟨X,0,none⟩ (.string p.t)).setCell ⟨X,1,none⟩ (J9 p.lv)).setCell ⟨X,2,none⟩ (J9 p.d))) rfl (by rfl) (by kernel_rfl) rfl (by simp[execOp,go_sem,r0,r1,r2,f0,f1,f2]) rfl ⟨by rw[far,far,far];exact z0,by rw[far,far,far];exact z1,by rw[far,far,far];exact z2,by rw[far,far,far];exact z3,by rw[far,far,far];exact z4⟩ ?_;refine wpAnyH_done (by kernel_rfl) ?_ _;have hXne:=HNX.u X (by omega);have hX9:=(((hX5.set 0 (.string p.t)).set 1 (J9 p.lv)).set 2 (J9 p.d));have hS9:=((hS5.other hXne 0 (.string p.t)).other hXne 1 (J9 p.lv)).other hXne 2 (J9 p.d);have hB9:=(((hB5.setCell (p:=⟨X,0,none⟩) (show B<=X by omega) (.string p.t)).setCell (p:=⟨X,1,none⟩) (show B<=X by omega) (J9 p.lv)).setCell (p:=⟨X,2,none⟩) (show B<=X by omega) (J9 p.d));obtain⟨W9,hW9⟩:=Nq ((((W6.setCell ⟨X,0,none⟩ (.string p.t)).setCell ⟨X,1,none⟩ (J9 p.lv)).setCell ⟨X,2,none⟩ (J9 p.d)));rw[hW9]at hX9 hS9 hB9⊢;clear hW9 z0 z1 z2 z3 z4 r0 r1 r2 f0 f1 f2 far hK5 hX5 hS5 hB5;have HX9:=h_ hX9;have HS9:=h_ hS9;have HB9:=h_ hB9;obtain⟨r0,r1,r2⟩:=three hX9;clear hX9 hS9 hB9;by_cases hbad:64<p.d∨4000<p.t.size
     . have HX:=h_ (HN.u fun h=>by have:=h.part (fun j hj=>(HF.u j hj).2.2.2) (show 1<=k+1 by omega) (show k+1<=m by omega);rw[HTE.u]at this;omega)
       by_cases hd:64<p.d
       . have hd':(64:Int)<p.d:=by omega
         clear hbad hd;go_wp2_with fail
         go_ret2
         exact⟨by rw[HX.u.1,HX.u.2];rfl,by first | exact HB9.u | (rw[hB];exact HB9.u)⟩
       . have hd':¬ (64:Int)<p.d:=by omega
         have ht':(4000:Int)<p.t.size:=(by omega);clear hbad hd;go_wp2_with fail
         go_ret2
         exact⟨by rw[HX.u.1,HX.u.2];rfl,by first | exact HB9.u | (rw[hB];exact HB9.u)⟩
     have hd':¬ (64:Int)<p.d:=(by omega);have ht':¬ (4000:Int)<p.t.size:=(by omega);have HLM2:Hi (∀j,1<=j->j<=k+1->(top e j).d<=64/\(top e j).t.size<=4000):=h_ fun j h1 h2=>by
      by_cases ej:j=k+1
      . subst ej;rw[HTE.u];omega
      . exact HLM.u j h1 (by omega)
     clear hbad;go_wp2_with fail;refine wp_region_held_drew (S:=fun W'=>W'.cell? ⟨X,0,none⟩=some (.string p.t)/\W'.cell? ⟨X,1,none⟩=some (J9 p.lv)/\W'.cell? ⟨X,2,none⟩=some (J9 p.d)) (by kernel_rfl) ⟨r0,r1,r2⟩ (fun zz=>?_);clear r0 r1 r2;refine tj 0 47 (.slice sa L cap) zz ?_;refine tj 1 48 (J9 (R:Int)) zz ?_;refine tj 2 49 (.slice sa R cap) zz ?_ (hy:=fun w hS=>by have hc2:(R:Int)<=cap:=(by omega);simp[execOp,go_sem, *]);refine tj 3 50 (.agg #[.string p.t,J9 p.lv,J9 p.d]) zz ?_;simp only[sX,sY,sZ];have hD:Below W9.heap.size W9 (W9.drew.alloc (.cells #[.string p.t,J9 p.lv,J9 p.d] 208)):=q28 ((bR W9.heap.size W9.drew).alloc (nR _) _);have hXX:=HX9.u.mono hD HX9.u.lt;obtain⟨r0,r1,r2⟩:=three hXX;refine wpAnyH_ready (rs:=[4]) (by kernel_rfl) (by simp) (consRun (v:=.slice (some ⟨W9.heap.size,0,none⟩) 1 1) (w':=W9.drew.alloc (.cells #[.string p.t,J9 p.lv,J9 p.d] 208)) 51 rfl rfl (by rfl) (by simp[execOp,go_sem]) ⟨r0,r1,r2⟩ ?_ AllReadyH.nil);simp only[sX,sY,sZ];have hlr:(pst e k).reverse.length=L:=(by rw[Y6,qiw];exact HL.u);have hup:(W9.drew.alloc (.cells #[.string p.t,J9 p.lv,J9 p.d] 208)).ownsRow B 208 3 (.slice sa R cap) R (phV ((pst e k).reverse.take R)):=by
      have h1:=HS9.u;rw[<- hlr]at h1;have h2:=(h1.upto R (by omega)).mono hD;unfold StkV at h2;rw[show((pst e k).reverse.take R).length=R by rw[Y3];omega]at h2;exact h2
     have hnews:=qc8 W9.drew p;obtain⟨i0,hi,hz0,hz1,hz2⟩:=info_parts qh2;obtain⟨v',w',hr,ho',hgr',-⟩:=run_append_own (P:=Tryz.prog) (W9.drew.alloc (.cells #[.string p.t,J9 p.lv,J9 p.d] 208)) B 206 206 208 i0 _ 3 32 Tryz.underlying206 hi hz0 hz1 hz2 rfl (by omega) (.slice sa R cap) R _ hup ⟨W9.heap.size,0,none⟩ 1 1 (phV [p]) rfl hnews (by simp[phV,Value.oneCell']) (by unfold maxLen;omega) (by omega) (by have:=HB9.u.size;simp;omega);have hX3:=hXX.grown hgr' (fun h=>hXne (by rw[show(Value.slice sa L cap).ownBlock=(Value.slice sa R cap).ownBlock by cases sa <;> rfl];exact h.symm));have HB3:Hi (Below B w w'):=h_ ((HB9.u.trans (hD.mono (by have:=HB9.u.size;omega))).grown hgr' (by have:=HB9.u.size;simp;omega) (fun q' hq=>q87 hup hq));have HS3:Hi (StkV w' B v' (pst e (k+1)).reverse):=h_ (by
      unfold StkV;rw[HPS.u,q8e,Yg,show((pst e k).reverse.take R).length=R by rw[Y3];omega];exact ho')
     obtain⟨q0,q1,q2⟩:=three hX3;refine wpAnyH_ready (rs:=[5]) (by kernel_rfl) (by simp) (consRun (v:=v') (w':=w') 52 rfl rfl (by rfl) (q2x rfl rfl rfl hr) ⟨q0,q1,q2⟩ ?_ AllReadyH.nil);simp only[sX,sY,sZ];replace zz:w'.cell? ⟨X,0,none⟩=some (.string p.t)/\w'.cell? ⟨X,1,none⟩=some (J9 p.lv)/\w'.cell? ⟨X,2,none⟩=some (J9 p.d):=⟨q0,q1,q2⟩;clear hr ho' hgr' hnews hup hX3 hXX hD hi hz0 hz1 hz2 r0 r1 r2 q0 q1 q2 hlr hao;refine tj 6 4 v' zz ?_;simp only[sX,sY,sZ];refine wpAnyH_done (by kernel_rfl) ?_ _;clear zz;go_wp2_with fail;go_roundw
     case rel=>first | exact⟨k+1,by omega,by go_num,HS3.u,HOK2.u,HSO2.u,HLM2.u,HB3.u⟩ | ((repeat apply Exists.intro);exact⟨⟨k+1,by omega,by go_num,HS3.u,HOK2.u,HSO2.u,HLM2.u,HB3.u⟩,rfl⟩)
     case measure=>simp[intOf];omega
  . obtain rfl:k=m:=by omega
    have hlt':¬ (k:Int)<(k:Int):=(by omega);by_cases h1:L=1
    . subst h1
      have hone:=HL.u;have hk1:1<=k:=(by omega);have hlm:=HLM.u k hk1 (nR _);have HX:=h_ (HY.u ⟨hk1,by omega,HOK.u,HSO.u,hone,hlm.1,hlm.2⟩);have hrev:(pst e k).reverse=[top e k]:=(by rw[qiy hone];rfl);have hS:=HSH.u;rw[hrev]at hS;obtain⟨a',cap',e1,-,hn',hs'⟩:=hS.shape;simp only[Yw,Y5,Value.slice.injEq,true_and]at e1;obtain⟨rfl,rfl⟩:=e1;cases sa with
      | none=>exact absurd (hn' rfl).1 (by simp)
      | some ad =>
       obtain⟨g,o',f⟩:=ad;obtain⟨rfl,rfl,-,-⟩:=hs' g o' f rfl;have z0:=StkV.cell (l:=[top e k]) hS 0 (by simp);simp only[phV,Zo,List.flatMap_nil,Zr,Yh]at z0;clear hS hs' hn' hone hrev;go_wp2_with fail
       go_ret2
       exact⟨by rw[HX.u.1,HX.u.2];rfl,by first | exact HB.u | (rw[hB];exact HB.u)⟩
    . have HX:=h_ (HN.u fun h=>h1 (by rw[<- HL.u];exact h.2.2.2.2.1))
      have h1':((L:Int) != 1)=true:=(by simp;omega);go_wp2_with fail
      go_ret2
      exact⟨by rw[HX.u.1,HX.u.2];rfl,by first | exact HB.u | (rw[hB];exact HB.u)⟩
theorem q0b (a:Option Addr)(m c:Nat)(e:Nat->Nx)(w:World)(hm:m<=9223372036854775807)(ha:Nods w a m e)(hf:∀k,k<m->Fit (e k))(hw:Wrds w)(hp:Pow w) :
 Calls Tryz.prog 186 #[.slice a m c] w fun r w'=>r=.returned (.string (if vxB e m then (top e m).t else ⟨#[]⟩))/\Below w.heap.size w w':=by
 have HC:=h_ (q5u a m c e w hm ha hf hw hp)
 obtain⟨t,ht⟩:=Nq ((if vxB e m then (top e m).t else ⟨#[]⟩))
 obtain⟨q,hq⟩:=Nq (vxB e m)
 rw[ht,hq]at HC
 rw[ht]
 clear ht hq ha hf hw hp
 go_enter Tryz.func186,Tryz.ntmps186
 go_wp2_with fail
 refine HC.u.mono ?_
 rintro x w1 ⟨rfl,hb⟩
 have HB:=h_ hb
 clear hb HC
 go_wp2_with fail
 go_ret
 exact⟨rfl,HB.u⟩
end Go.Proofs.YtebbgodlijlioaaGreatDoor
