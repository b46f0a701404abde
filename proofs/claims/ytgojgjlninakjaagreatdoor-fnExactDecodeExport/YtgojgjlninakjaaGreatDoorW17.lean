import Derived.Test.YtgojgjlninakjaaGreatDoorW13
import Derived.Test.YtgojgjlninakjaaGreatDoorW15
import Derived.Maps.OwnSet
set_option maxRecDepth 100000
set_option maxHeartbeats 64000000
namespace Go.Proofs.YtgojgjlninakjaaGreatDoor
open Go Go.RowKit
def Wrds (w:World):Prop:=9<w.heap.size/\∀k,k<26->w.cell? ⟨9,k,none⟩=some (.string (wrdT.getD k ⟨#[]⟩))
theorem Wrds.mono {w w':World}(h:Wrds w)(hb:Below w.heap.size w w'):Wrds w':=⟨Ys h.1 hb.size,fun k hk=>(hb.cell h.1).trans (h.2 k hk)⟩
theorem Wrds.at {w:World}(h:Wrds w){op:Int}(h0:0<=op)(h1:op<=25):w.cell? ⟨9,op.toNat,none⟩=some (.string (wrd op)):=h.2 op.toNat (by omega)
theorem qma (op:Int):1<=lvl op/\lvl op<=7:=by
 unfold lvl
 (repeat' split) <;> omega
theorem qdk {n:Nx}(h:okNode n=true):0<=n.op/\n.op<=25:=by
 rcases ops2 n.op with h0 | h0 | ⟨h0,h1⟩
 . omega
 . omega
 . rw[okNode2 h0 h1]at h
   simp only[Yf,Yh]at h;omega
theorem q24 (n:Nx)(a:Option Addr)(c:Nat)(l:List Ph)(w:World)(hok:okNode n=true)(hf:Fit n)(hl:l.length=arn n)(ha:Phs w a l)(hs:tot l<=2000000)(hw:Wrds w)(hp:Pow w) :
 Calls Tryz.prog 294 #[nv n,.slice a (arn n) c] w fun r w'=>r=.returned (.string (phT n l))/\Below w.heap.size w w':=by
 unfold nv
 obtain⟨hop0,hop25⟩:=qdk hok
 obtain⟨W0,hW0⟩:=Nq (w.alloc (.cells (Jd n) 172))
 have HK:=h_ (Blk.new w 172 (Jd n))
 have HB:=h_ ((bR w.heap.size w).alloc (nR _) (.cells (Jd n) 172))
 rw[hW0]at HK HB
 have HA:=h_ (ha.mono HB.u);have HP:=h_ (hp.mono HB.u)
 have hwc:=(hw.mono HB.u).at hop0 hop25
 have HT:Hi (phT n l=phT n l):=h_ rfl
 obtain⟨t,ht⟩:=Nq (phT n l)
 rw[ht]
 have HX:=h_ ht
 obtain⟨y0,y1,y2,y3,y4⟩:=five HK.u
 have HL:=h_ hl;have HS:=h_ hs
 clear ha hw hp HT ht hl hs
 go_enter Tryz.func294,Tryz.ntmps294
 go_wp2_with fail
 try rw[hW0]
 clear hW0
 have hopn:((n.op.toNat:Nat):Int)=n.op:=by omega
 refine wp_region_held_drew (S:=fun w'=>w'.cell? ⟨w.heap.size,0,none⟩=some (J6 n.op)/\w'.cell? ⟨9,n.op.toNat,none⟩=some (.string (wrd n.op))) (by kernel_rfl) ⟨y0,hwc⟩ (fun zz=>?_)
 clear y0 y1 y2 y3 y4 hwc
 refine tj 0 8 (J9 w.heap.size 0) zz ?_
 refine tj 1 9 (J6 n.op) zz ?_
 refine tj 3 11 (J9 w.heap.size 0) zz ?_
 refine tj 4 12 (J6 n.op) zz ?_
 simp only[sX,sY,sZ]
 refine tj 5 13 (J9 9 n.op.toNat) zz ?_ (hy:=fun w hS=>by simp[execOp,go_sem, *];intro h;omega)
 refine tj 6 14 (.string (wrd n.op)) zz ?_
 simp only[sX,sY,sZ]
 refine callY (i:=2) (f:=295) (args:=#[J6 n.op]) (R:=fun r wz=>r=J6 (lvl n.op)/\wz=W0.drew) 10 rfl rfl (by rfl) (by kernel_rfl) ?hrun0 ((q6o _ _).mono fun e w6 ⟨he,hb⟩=>⟨_,he,rfl,hb⟩) ?_
 case hrun0=>simp[execOp,go_sem]
 rintro r3 w3 ⟨rfl,hw⟩
 subst hw
 refine⟨zz,?_⟩
 simp only[sX,sY,sZ]
 refine tj 7 5 (J6 (lvl n.op)) zz ?_
 refine tj 8 6 (.string (wrd n.op)) zz ?_
 simp only[sX,sY,sZ]
 refine wpAnyH_done (by kernel_rfl) ?_ _
 clear zz hopn
 have HD:Hi (Below W0.heap.size W0 W0.drew):=h_ ((bR _ _).drew)
 replace HB:=h_ (HB.u.trans (HD.u.mono HB.u.size));replace HK:=h_ (HK.u.mono HD.u HK.u.lt);replace HA:=h_ (HA.u.mono HD.u);replace HP:=h_ (HP.u.mono HD.u)
 clear HD
 obtain⟨W1,hW1⟩:=Nq W0.drew
 rw[hW1]at HB HK HA HP⊢
 clear hW1
 obtain⟨W0,hW0⟩:∃W0,W0=W1:=⟨_,rfl⟩
 subst hW0
 obtain⟨y0,y1,y2,y3,y4⟩:=five HK.u
 rcases ops2 n.op with h | h | ⟨h,h'⟩
 . have HY:Hi (showB n.v.k n.v.n n.v.s=t):=h_ (by rw[<- HX.u,phT,Yv h])
   rw[h]at y0;go_wp2_with fail;refine(q3v _ _ _ _ hf.1 hf.2.2.1 hf.2.2.2 HP.u).mono ?_;rintro r w2 ⟨rfl,hb⟩;replace HB:=mT HB hb;clear hb;go_wp2_with fail;go_ret;exact⟨qnh HY.u,HB.u⟩
 . have HY:Hi (n.nm=t):=h_ (by rw[<- HX.u,phT,Yn (by omega),Yv h])
   rw[h]at y0;go_wp2_with fail;go_ret;exact⟨qnh HY.u,HB.u⟩
 have n0:(n.op==0)=false:=Ya.2 h
 have n1:(n.op==1)=false:=Ya.2 h'
 have hop:2<=n.op:=by omega
 have hwsz:=qjm hop hop25
 have hfa:=hf
 clear hf hfa
 by_cases h2:n.op=2
 . have e1:arn n=1:=by unfold arn;rw[ar_one (.inl h2)];rfl
   rw[e1]at HL⊢;obtain⟨x,rfl⟩:=list1 HL.u;have HY:Hi (⟨#[45]⟩++wrap 6 x=t):=h_ (by rw[<- HX.u,phT,Yn h,Yn h',Yv h2];rfl);obtain⟨b1,o1,rfl,-,c0,c1,c2⟩:=HA.u 0 (by simp);simp only[Vu,Nat.zero_mul,Zn]at c0 c1 c2;have hsx:x.t.size<=2000000:=by have:=HS.u;simp only[tot]at this;omega
   have hws:=qfb 6 x;rw[h2]at y0;rw[show wrd n.op=⟨#[45]⟩ by rw[h2];rfl,show lvl n.op=6 by rw[h2];rfl];clear n0 n1 hop h h' h2 hwsz;go_wp2_with fail;refine(q5b x 6 _ hsx).mono ?_;rintro r w2 ⟨rfl,hb⟩;replace HB:=mT HB hb;generalize wrap 6 x=q at *;clear hb;go_wp2_with fail;go_ret;exact⟨qnh HY.u,HB.u⟩
 by_cases h3:n.op=3
 . have e1:arn n=1:=by unfold arn;rw[ar_one (.inr h3)];rfl
   rw[e1]at HL⊢;obtain⟨x,rfl⟩:=list1 HL.u;have HY:Hi (⟨#[110,111,116,32]⟩++wrap 6 x=t):=h_ (by rw[<- HX.u,phT,Yn h,Yn h',Yn h2,Yv h3];rfl);obtain⟨b1,o1,rfl,-,c0,c1,c2⟩:=HA.u 0 (by simp);simp only[Vu,Nat.zero_mul,Zn]at c0 c1 c2;have hsx:x.t.size<=2000000:=by have:=HS.u;simp only[tot]at this;omega
   have hws:=qfb 6 x;rw[h3]at y0;rw[show wrd n.op=⟨#[110,111,116]⟩ by rw[h3];rfl,show lvl n.op=6 by rw[h3];rfl];clear n0 n1 hop h h' h2 h3 hwsz;go_wp2_with fail;refine(q5b x 6 _ hsx).mono ?_;rintro r w2 ⟨rfl,hb⟩;replace HB:=mT HB hb;generalize wrap 6 x=q at *;clear hb;go_wp2_with fail;go_ret;exact⟨qnh HY.u,HB.u⟩
 have n2:(n.op==2)=false:=Ya.2 h2
 have n3:(n.op==3)=false:=Ya.2 h3
 by_cases h7:lvl n.op=7
 . have HY:Hi (wrd n.op++⟨#[40]⟩++jn (l.map (·.t))++⟨#[41]⟩=t):=h_ (by rw[<- HX.u,phT,Yn h,Yn h',Yn h2,Yn h3,Yv h7])
   have har:=arn_le n;have har1:1<=arn n:=by
    have:=qfg n;have e:=ar_opn n.op;rw[Yv (by omega)]at e;have:1<=opn n.op:=(by unfold opn;(repeat' split) <;> omega);omega
   have hjs:=qlq l;have hst:=HS.u;rw[HL.u]at hjs;rw[h7];clear h h' h2 h3 h7;generalize wrd n.op=wd at *;go_wp2_with fail;refine(show Calls Tryz.prog 297 #[.slice a (arn n) c] W0 fun r w'=>r=.returned (.string (jn (l.map (·.t))))/\Below W0.heap.size W0 w' from ?_).mono ?_
   . rw[<- HL.u];exact q9p a c l W0 (by have:=HL.u;omega) (by have:=HL.u;omega) HA.u HS.u
   rintro r w2 ⟨rfl,hb⟩;replace HB:=mT HB hb;clear hb;generalize jn (l.map (·.t))=q at *;have hA:(wd++(⟨#[40]⟩:ByteArray)).size=wd.size+1:=by rw[Yi];rfl
   have hA2:(wd++(⟨#[40]⟩:ByteArray)++q).size=wd.size+1+q.size:=by rw[Yi,hA]
   go_wp2_with fail;go_ret;exact⟨qnh HY.u,HB.u⟩
 . have e2:arn n=2:=by unfold arn;rw[ar_two hop hop25 h7 h2 h3];rfl
   rw[e2]at HL⊢;obtain⟨x,y,rfl⟩:=list2 HL.u;have HY:Hi (wrap (lft n.op) x++⟨#[32]⟩++wrd n.op++⟨#[32]⟩++wrap (lvl n.op+1) y=t):=h_ (by rw[<- HX.u,phT,Yn h,Yn h',Yn h2,Yn h3,Yn h7];rfl);have hg0:=HA.u 0 (by simp);have hg1:=HA.u 1 (by simp);obtain⟨b1,o1,rfl,hc0⟩:=hg0;obtain⟨b2,o2,e12,hc1⟩:=hg1;cases e12;simp only[Vu,List.getElem_cons_succ,Nat.zero_mul,Nat.one_mul,Zn]at hc0 hc1;have HC:=h_ (And.intro hc0 hc1);have hsx:x.t.size+y.t.size<=2000000:=by have:=HS.u;simp only[tot]at this;omega
   have hlv:=qma n.op;have HLf:Hi (lft n.op=if lvl n.op=3 then 4 else lvl n.op):=h_ rfl;obtain⟨lv,hlve⟩:=Nq (lvl n.op);obtain⟨lf,hlfe⟩:=Nq (lft n.op);rw[hlve]at HY HLf h7 hlv⊢;rw[hlfe]at HY HLf;have n7:(lv==7)=false:=Ya.2 h7;clear hlve hlfe h h' h2 h3;by_cases h3:lv=3
   . have hl4:lf=4:=by rw[HLf.u,Yv h3]
     subst h3 hl4;simp only[show(3:Int)+1=4 from rfl]at HY;clear HLf n7 h7 hlv;go_wp2_with fail;refine wp_region_held_drew (S:=fun w'=>PCel w' b1 o1 x/\PCel w' b1 (o1+3) y) (by kernel_rfl) ⟨hc0,hc1⟩ (fun zz=>?_);refine tj 0 65 (.slice (some ⟨b1,o1,none⟩) 2 c) zz ?_;refine tj 1 66 (J9 b1 o1) zz ?_;refine tj 2 67 (.agg (Jy x.t x.lv x.d)) zz ?_ (hy:=fun w hS=>by obtain⟨⟨-,q0,q1,q2⟩,-,q3,q4,q5⟩:=hS;simp[execOp,go_sem,q0,q1,q2]);refine tj 3 68 (J6 4) zz ?_;simp only[sX,sY,sZ];refine tj 6 71 (.string (wrd n.op)) zz ?_;refine tj 9 74 (.slice (some ⟨b1,o1,none⟩) 2 c) zz ?_;refine tj 10 75 (J9 b1 (o1+3)) zz ?_;refine tj 11 76 (.agg (Jy y.t y.lv y.d)) zz ?_ (hy:=fun w hS=>by obtain⟨⟨-,q0,q1,q2⟩,-,q3,q4,q5⟩:=hS;simp[execOp,go_sem,q3,q4,q5]);simp only[sX,sY,sZ];refine tj 12 77 (J6 3) zz ?_;refine tj 13 78 (J6 4) zz ?_ (hy:=fun w hS=>by simp[execOp,go_sem, *];rfl);simp only[sX,sY,sZ];refine callY (i:=4) (f:=296) (args:=#[.agg (Jy x.t x.lv x.d),J6 4]) (R:=fun r wz=>r=.string (wrap 4 x)/\Below W0.heap.size W0 wz) 69 rfl rfl (by rfl) (by kernel_rfl) ?hrun1 ((q5b x 4 _ (by omega)).mono fun e w6 ⟨he,hb⟩=>⟨_,he,rfl,q29 hb⟩) ?_
     case hrun1=>simp[execOp,go_sem]
     rintro r3 W4 ⟨rfl,hb⟩;replace HB:=mT HB hb;replace zz:PCel W4 b1 o1 x/\PCel W4 b1 (o1+3) y:=⟨HC.u.1.mono hb,HC.u.2.mono hb⟩;clear hb hc0 hc1;refine⟨zz,?_⟩;simp only[sX,sY,sZ];have ht1:=qfb 4 x;have ht2:=qfb 4 y;obtain⟨t1,ht1e⟩:=Nq (wrap 4 x);rw[ht1e]at HY ht1⊢;clear ht1e;have hA:(t1++(⟨#[32]⟩:ByteArray)).size=t1.size+1:=(by rw[Yi];rfl);obtain⟨wd,hwde⟩:=Nq (wrd n.op);rw[hwde]at HY hwsz⊢;clear hwde;refine tj 5 70 (.string (t1++⟨#[32]⟩)) zz ?_ (hy:=fun w hS=>by have:=run_string_add_sum (P:=Tryz.prog) w t1 ⟨#[32]⟩ (by show t1.size+1<=_;omega);simp[execOp,go_sem,this]);simp only[sX,sY,sZ];have hA2:(t1++(⟨#[32]⟩:ByteArray)++wd).size=t1.size+1+wd.size:=(by rw[Yi,hA]);refine tj 7 72 (.string (t1++⟨#[32]⟩++wd)) zz ?_ (hy:=fun w hS=>by have:=run_string_add_sum (P:=Tryz.prog) w (t1++⟨#[32]⟩) wd (by omega);simp[execOp,go_sem,this]);simp only[sX,sY,sZ];have hA3:(t1++(⟨#[32]⟩:ByteArray)++wd++⟨#[32]⟩).size=t1.size+1+wd.size+1:=(by rw[Yi,hA2];rfl);refine tj 8 73 (.string (t1++⟨#[32]⟩++wd++⟨#[32]⟩)) zz ?_ (hy:=fun w hS=>by have:=run_string_add_sum (P:=Tryz.prog) w (t1++⟨#[32]⟩++wd) ⟨#[32]⟩ (by rw[hA2];show t1.size+1+wd.size+1<=_;omega);simp[execOp,go_sem,this]);simp only[sX,sY,sZ];refine callY (i:=14) (f:=296) (args:=#[.agg (Jy y.t y.lv y.d),J6 4]) (R:=fun r wz=>r=.string (wrap 4 y)/\Below W4.heap.size W4 wz) 79 rfl rfl (by rfl) (by kernel_rfl) ?hrun2 ((q5b y 4 _ (by omega)).mono fun e w6 ⟨he,hb⟩=>⟨_,he,rfl,hb⟩) ?_
     case hrun2=>simp[execOp,go_sem]
     rintro r3 W5 ⟨rfl,hb⟩;replace HB:=mT HB hb;replace zz:PCel W5 b1 o1 x/\PCel W5 b1 (o1+3) y:=⟨zz.1.mono hb,zz.2.mono hb⟩;clear hb;refine⟨zz,?_⟩;simp only[sX,sY,sZ];obtain⟨t2,ht2e⟩:=Nq (wrap 4 y);rw[ht2e]at HY ht2⊢;clear ht2e;obtain⟨u3,hu3⟩:=Nq (t1++(⟨#[32]⟩:ByteArray)++wd++⟨#[32]⟩);rw[hu3]at HY hA3⊢;clear hu3 hA hA2;refine tj 15 80 (.string (u3++t2)) zz ?_ (hy:=fun w hS=>by have:=run_string_add_sum (P:=Tryz.prog) w u3 t2 (by omega);simp[execOp,go_sem,this]);refine tj 16 4 (.string (u3++t2)) zz ?_;simp only[sX,sY,sZ];refine wpAnyH_done (by kernel_rfl) ?_ _;clear zz;go_wp2;go_ret;exact⟨qnh HY.u,HB.u⟩
   . have hl4:lf=lv:=by rw[HLf.u,Yn h3]
     subst hl4;have n3':(lf==3)=false:=Ya.2 h3;clear HLf h7 h3;go_wp2_with fail;refine wp_region_held_drew (S:=fun w'=>PCel w' b1 o1 x/\PCel w' b1 (o1+3) y) (by kernel_rfl) ⟨hc0,hc1⟩ (fun zz=>?_);refine tj 0 65 (.slice (some ⟨b1,o1,none⟩) 2 c) zz ?_;refine tj 1 66 (J9 b1 o1) zz ?_;refine tj 2 67 (.agg (Jy x.t x.lv x.d)) zz ?_ (hy:=fun w hS=>by obtain⟨⟨-,q0,q1,q2⟩,-,q3,q4,q5⟩:=hS;simp[execOp,go_sem,q0,q1,q2]);refine tj 3 68 (J6 lf) zz ?_;simp only[sX,sY,sZ];refine tj 6 71 (.string (wrd n.op)) zz ?_;refine tj 9 74 (.slice (some ⟨b1,o1,none⟩) 2 c) zz ?_;refine tj 10 75 (J9 b1 (o1+3)) zz ?_;refine tj 11 76 (.agg (Jy y.t y.lv y.d)) zz ?_ (hy:=fun w hS=>by obtain⟨⟨-,q0,q1,q2⟩,-,q3,q4,q5⟩:=hS;simp[execOp,go_sem,q3,q4,q5]);simp only[sX,sY,sZ];refine tj 12 77 (J6 lf) zz ?_;refine tj 13 78 (J6 (lf+1)) zz ?_ (hy:=fun w hS=>by simp[execOp,go_sem, *];rw[IntKind.wrap_i64];omega);simp only[sX,sY,sZ];refine callY (i:=4) (f:=296) (args:=#[.agg (Jy x.t x.lv x.d),J6 lf]) (R:=fun r wz=>r=.string (wrap lf x)/\Below W0.heap.size W0 wz) 69 rfl rfl (by rfl) (by kernel_rfl) ?hrun1 ((q5b x lf _ (by omega)).mono fun e w6 ⟨he,hb⟩=>⟨_,he,rfl,q29 hb⟩) ?_
     case hrun1=>simp[execOp,go_sem]
     rintro r3 W4 ⟨rfl,hb⟩;replace HB:=mT HB hb;replace zz:PCel W4 b1 o1 x/\PCel W4 b1 (o1+3) y:=⟨HC.u.1.mono hb,HC.u.2.mono hb⟩;clear hb hc0 hc1;refine⟨zz,?_⟩;simp only[sX,sY,sZ];have ht1:=qfb lf x;have ht2:=qfb (lf+1) y;obtain⟨t1,ht1e⟩:=Nq (wrap lf x);rw[ht1e]at HY ht1⊢;clear ht1e;have hA:(t1++(⟨#[32]⟩:ByteArray)).size=t1.size+1:=(by rw[Yi];rfl);obtain⟨wd,hwde⟩:=Nq (wrd n.op);rw[hwde]at HY hwsz⊢;clear hwde;refine tj 5 70 (.string (t1++⟨#[32]⟩)) zz ?_ (hy:=fun w hS=>by have:=run_string_add_sum (P:=Tryz.prog) w t1 ⟨#[32]⟩ (by show t1.size+1<=_;omega);simp[execOp,go_sem,this]);simp only[sX,sY,sZ];have hA2:(t1++(⟨#[32]⟩:ByteArray)++wd).size=t1.size+1+wd.size:=(by rw[Yi,hA]);refine tj 7 72 (.string (t1++⟨#[32]⟩++wd)) zz ?_ (hy:=fun w hS=>by have:=run_string_add_sum (P:=Tryz.prog) w (t1++⟨#[32]⟩) wd (by omega);simp[execOp,go_sem,this]);simp only[sX,sY,sZ];have hA3:(t1++(⟨#[32]⟩:ByteArray)++wd++⟨#[32]⟩).size=t1.size+1+wd.size+1:=(by rw[Yi,hA2];rfl);refine tj 8 73 (.string (t1++⟨#[32]⟩++wd++⟨#[32]⟩)) zz ?_ (hy:=fun w hS=>by have:=run_string_add_sum (P:=Tryz.prog) w (t1++⟨#[32]⟩++wd) ⟨#[32]⟩ (by rw[hA2];show t1.size+1+wd.size+1<=_;omega);simp[execOp,go_sem,this]);simp only[sX,sY,sZ];refine callY (i:=14) (f:=296) (args:=#[.agg (Jy y.t y.lv y.d),J6 (lf+1)]) (R:=fun r wz=>r=.string (wrap (lf+1) y)/\Below W4.heap.size W4 wz) 79 rfl rfl (by rfl) (by kernel_rfl) ?hrun2 ((q5b y (lf+1) _ (by omega)).mono fun e w6 ⟨he,hb⟩=>⟨_,he,rfl,hb⟩) ?_
     case hrun2=>simp[execOp,go_sem]
     rintro r3 W5 ⟨rfl,hb⟩;replace HB:=mT HB hb;replace zz:PCel W5 b1 o1 x/\PCel W5 b1 (o1+3) y:=⟨zz.1.mono hb,zz.2.mono hb⟩;clear hb;refine⟨zz,?_⟩;simp only[sX,sY,sZ];obtain⟨t2,ht2e⟩:=Nq (wrap (lf+1) y);rw[ht2e]at HY ht2⊢;clear ht2e;obtain⟨u3,hu3⟩:=Nq (t1++(⟨#[32]⟩:ByteArray)++wd++⟨#[32]⟩);rw[hu3]at HY hA3⊢;clear hu3 hA hA2;refine tj 15 80 (.string (u3++t2)) zz ?_ (hy:=fun w hS=>by have:=run_string_add_sum (P:=Tryz.prog) w u3 t2 (by omega);simp[execOp,go_sem,this]);refine tj 16 4 (.string (u3++t2)) zz ?_;simp only[sX,sY,sZ];refine wpAnyH_done (by kernel_rfl) ?_ _;clear zz;go_wp2;go_ret;exact⟨qnh HY.u,HB.u⟩
end Go.Proofs.YtgojgjlninakjaaGreatDoor
namespace Go.Proofs.YtgojgjlninakjaaGreatDoor
open Go
def kl (x:ByteArray):Lit:=.string (sb x)
theorem kl_inj {x y:ByteArray}(h:kl x=kl y):x=y:=by
 unfold kl sb at h
 simp only[Lit.string.injEq]at h
 obtain⟨⟨a⟩⟩:=x
 obtain⟨⟨b⟩⟩:=y
 simp at h
 rw[h]
def mpR:List ByteArray->DataW Unit
 | []=>.map []
 | x :: r=>(mpR r).put (kl x) (.lit (.int .i64 (r.length:Int)))
def mp (l:List ByteArray):DataW Unit:=mpR l.reverse
theorem qmm (l:List ByteArray)(x:ByteArray):mp (l++[x])=(mp l).put (kl x) (.lit (.int .i64 (l.length:Int))):=by
 unfold mp
 rw[List.reverse_append]
 simp[mpR]
theorem qj6 (r:List ByteArray):Maps.Tidy (mpR r):=by
 induction r with
 | nil=>exact Maps.tidy_empty
 | cons x r ih=>exact ih.put (show WideAt.IsKeyLit (kl x) from trivial) _
theorem ql9 (r:List ByteArray)(x:ByteArray):Maps.has (mpR r) (kl x)=memB x r:=by
 induction r with
 | nil=>rfl
 | cons y r ih =>
  by_cases h:x=y
  . subst h
    rw[show mpR (x :: r)=(mpR r).put (kl x) (.lit (.int .i64 (r.length:Int))) from rfl,Maps.has_put_same (qj6 r).isMap (show WideAt.IsKeyLit (kl x) from trivial)];exact((qh6 _ _).2 Yq).symm
  . rw[show mpR (y :: r)=(mpR r).put (kl y) (.lit (.int .i64 (r.length:Int))) from rfl,Maps.has_put_other (fun hc=>h (kl_inj hc)),ih]
    unfold memB;rw[List.any_cons,Yb (fun e=>h e.symm),Bool.false_or]
theorem qio (r:List ByteArray):Maps.size (mpR r)<=r.length/\(Maps.size (mpR r)=r.length ↔ r.Nodup):=by
 induction r with
 | nil=>exact⟨nR _,by simp[mpR,Maps.size]⟩
 | cons x r ih =>
  rw[show mpR (x :: r)=(mpR r).put (kl x) (.lit (.int .i64 (r.length:Int))) from rfl,Maps.size_put (qj6 r),ql9];rw[Ot,Yl];by_cases h:x∈r
  . rw[Yv ((qh6 _ _).2 h)]
    exact⟨by omega,⟨fun hc=>by omega,fun hc=>absurd h hc.1⟩⟩
  . rw[Yn (by rw[qme h];simp)]
    exact⟨by omega,⟨fun hc=>⟨h,ih.2.1 (by omega)⟩,fun hc=>by rw[ih.2.2 hc.2]⟩⟩
theorem has_mp (l:List ByteArray)(x:ByteArray):Maps.has (mp l) (kl x)=memB x l:=by
 unfold mp
 rw[ql9,Zk,qh6,qh6]
 simp
theorem qnq (l:List ByteArray):Maps.size (mp l)<=l.length/\(Maps.size (mp l)=l.length ↔ l.Nodup):=by
 unfold mp
 have h:=qio l.reverse
 rw[Zl]at h
 exact⟨h.1,h.2.trans ⟨fun x=>by simpa using (List.Perm.nodup_iff (List.reverse_perm l)).1 x,fun x=>(List.Perm.nodup_iff (List.reverse_perm l)).2 x⟩⟩
end Go.Proofs.YtgojgjlninakjaaGreatDoor
namespace Go.Proofs.YtgojgjlninakjaaGreatDoor
open Go Go.RowKit
def PMap (w:World)(b:Nat)(l:List ByteArray):Prop:=w.ownsMap Tryz.prog 9 (plainElem (H:=Unit) Tryz.prog 3) b l.length (mp l)
theorem PMap.mono {w w':World}{b:Nat}{l:List ByteArray}(h:PMap w b l)(hb:Below w.heap.size w w'):PMap w' b l:=by
 have hlt:=World.ownsMap.lt h
 obtain⟨es,clock,h1,F,hs,hD⟩:=h
 exact⟨es,clock,(hb.block b hlt).trans h1,F,hs,hD⟩
theorem wf_nat {k:Nat}(h:k<=9223372036854775807):(Lit.int .i64 (k:Int)).wf=true:=by
 unfold Lit.wf
 rw[Yf,Yh,Yh]
 have h1:IntKind.i64.min = -9223372036854775808:=by decide
 have h2:IntKind.i64.max=9223372036854775807:=by decide
 omega
theorem q10 (m:Fm)(A:MA)(w:World)(hf:FitM m) :
 Calls Tryz.prog 174 #[mV m A] w fun r w'=>r=.returned (.bool (decide (m.L.length<=32/\m.P.length<=256/\m.R.length<=64/\m.F.length<=200)))/\Below w.heap.size w w':=by
 obtain⟨al,alc,ap,apc,ar,arc,af,afc,afa⟩:=A
 unfold mV
 dsimp only
 have HK:=h_ (Blk.new w 36 (#[.slice al m.L.length alc,.slice ap m.P.length apc,.slice ar m.R.length arc,.slice af m.F.length afc]))
 have HB:=h_ ((bR w.heap.size w).alloc (nR _) (.cells (#[.slice al m.L.length alc,.slice ap m.P.length apc,.slice ar m.R.length arc,.slice af m.F.length afc]) 36))
 obtain⟨W0,hW0⟩:=Nq (w.alloc (.cells (#[.slice al m.L.length alc,.slice ap m.P.length apc,.slice ar m.R.length arc,.slice af m.F.length afc]) 36))
 rw[hW0]at HK HB
 obtain⟨y0,y1,y2,y3⟩:=quad HK.u
 have h1:=hf.ll;have h2:=hf.pl;have h3:=hf.rl;have h4:=hf.fl
 generalize m.L.length=n1 at *
 generalize m.P.length=n2 at *
 generalize m.R.length=n3 at *
 generalize m.F.length=n4 at *
 clear hf
 by_cases g1:(n1:Int)<=32
 . by_cases g2:(n2:Int)<=256
   . by_cases g3:(n3:Int)<=64
     . by_cases g4:(n4:Int)<=200
       . have HX:Hi (decide (n1<=32/\n2<=256/\n3<=64/\n4<=200)=true):=h_ (Yj (by omega))
         generalize decide (n1<=32/\n2<=256/\n3<=64/\n4<=200)=q at *;go_enter Tryz.func174,Tryz.ntmps174;go_wp2_with fail;go_ret;exact⟨qia HX.u.symm,HB.u⟩
       . have HX:Hi (decide (n1<=32/\n2<=256/\n3<=64/\n4<=200)=false):=h_ (Yb (by omega))
         generalize decide (n1<=32/\n2<=256/\n3<=64/\n4<=200)=q at *;go_enter Tryz.func174,Tryz.ntmps174;go_wp2_with fail;go_ret;exact⟨qia HX.u.symm,HB.u⟩
     . have HX:Hi (decide (n1<=32/\n2<=256/\n3<=64/\n4<=200)=false):=h_ (Yb (by omega))
       generalize decide (n1<=32/\n2<=256/\n3<=64/\n4<=200)=q at *;go_enter Tryz.func174,Tryz.ntmps174;go_wp2_with fail;go_ret;exact⟨qia HX.u.symm,HB.u⟩
   . have HX:Hi (decide (n1<=32/\n2<=256/\n3<=64/\n4<=200)=false):=h_ (Yb (by omega))
     generalize decide (n1<=32/\n2<=256/\n3<=64/\n4<=200)=q at *;go_enter Tryz.func174,Tryz.ntmps174;go_wp2_with fail;go_ret;exact⟨qia HX.u.symm,HB.u⟩
 . have HX:Hi (decide (n1<=32/\n2<=256/\n3<=64/\n4<=200)=false):=h_ (Yb (by omega))
   generalize decide (n1<=32/\n2<=256/\n3<=64/\n4<=200)=q at *;go_enter Tryz.func174,Tryz.ntmps174;go_wp2_with fail;go_ret;exact⟨qia HX.u.symm,HB.u⟩
theorem q4m (a:Option Addr)(c:Nat)(l:List ByteArray)(w:World)(hl:l.length<=1000000)(hs:∀x,x∈l->x.size<=9223372036854775807)(ha:Strs w a l) :
 Calls Tryz.prog 52 #[.slice a l.length c] w fun r w'=>r=.returned (.map (some w.heap.size))/\PMap w' w.heap.size l/\Below w.heap.size w w':=by
 have HA:=h_ ha;have HS:=h_ hs
 have HM:Hi ((w.alloc (.map #[] 0)).ownsMap Tryz.prog 9 (plainElem (H:=Unit) Tryz.prog 3) w.heap.size 0 (mp (l.take 0))):=h_ (World.ownsMap_made _ _ _ _)
 clear ha hs
 obtain⟨n,hn⟩:=Nq l.length
 rw[hn]at hl⊢
 have HN:=h_ hn
 clear hn
 have hmm:=@run_makeMap Tryz.prog
 go_enter Tryz.func52,Tryz.ntmps52
 go_wp2_with fail
 clear hmm
 go_loopw [9] (fun i wr=>∃k:Nat,k<=n/\i=J6 k/\wr.ownsMap Tryz.prog 9 (plainElem (H:=Unit) Tryz.prog 3) w.heap.size k (mp (l.take k))/\Below w.heap.size w wr) (fun i _=>n - (intOf i).toNat)
 case atStart=>exact⟨0,nZ _,rfl,HM.u,(bR _ _).alloc (nR _) _⟩
 case round =>
  clear HM;obtain⟨k,hk,rfl,hown,hb⟩:=hrel;have HO:=h_ hown;have HB:=h_ hb;have HAr:=h_ (HA.u.mono hb);clear hown hb;by_cases hlt:k<n
  . have hlt':(k:Int)<n:=by omega
    have hkl:k<l.length:=(by have:=HN.u;omega);obtain⟨b,o,rfl,-,z0⟩:=HAr.u k hkl;have HT:Hi (mp (l.take (k+1))=(mp (l.take k)).put (kl l[k]) (.lit (.int .i64 (k:Int)))):=h_ (by
     rw[Ym hkl,qmm,Za,Nat.min_eq_left (by omega)])
    have hkey:keyOf Tryz.prog 9 (.string l[k])=some (kl l[k]):=WideMaps.keyOf_string_mk Tryz.underlying9 (HS.u _ (Ye hkl));have HKy:=h_ hkey;clear hkey;generalize l[k]=x at *;go_wp2_with (at_mapUpdate;refine wpList_mapUpdate_own _ rfl _ _ _ 100 rfl 9 3 (Maps.string_keyed Tryz.underlying9) Tryz.underlying100 _ w.heap.size k _ rfl HO.u (by unfold maxLen;omega) _ _ _ rfl rfl HKy.u _ [] (plainElem_int Tryz.underlying3 (wf_nat (by omega))) ?_);intro w1 hown1 hgrow1;have HO1:Hi (w1.ownsMap Tryz.prog 9 (plainElem (H:=Unit) Tryz.prog 3) w.heap.size (k+1) (mp (l.take (k+1)))):=h_ (by rw[HT.u];exact hown1);have HB1:Hi (Below w.heap.size w w1):=h_ (HB.u.grown hgrow1 HB.u.size (fun j hj=>by cases hj;exact nR _));clear hown1 hgrow1;go_wp2_with fail;go_roundw
    case rel=>first | exact⟨k+1,by omega,by go_num,HO1.u,HB1.u⟩ | ((repeat apply Exists.intro);exact⟨⟨k+1,by omega,by go_num,HO1.u,HB1.u⟩,rfl⟩)
    case measure=>simp[intOf];omega
  . obtain rfl:k=n:=by omega
    have hlt':¬ (k:Int)<(k:Int):=(by omega);have HO2:Hi (PMap wr w.heap.size l):=h_ (by
     have h:=HO.u;have hn:=HN.u;rw[Yz (by omega)]at h;unfold PMap;rw[hn];exact h)
    go_wp2_with fail;go_ret;exact⟨rfl,HO2.u,HB.u⟩
theorem q01 (a:Option Addr)(c:Nat)(l:List ByteArray)(w:World)(hl:l.length<=1000000)(hs:∀x,x∈l->x.size<=9223372036854775807)(ha:Strs w a l) :
 Calls Tryz.prog 252 #[.slice a l.length c] w fun r w'=>r=.returned (.bool (decide l.Nodup))/\Below w.heap.size w w':=by
 have HC:=h_ (q4m a c l w hl hs ha)
 have HS:=h_ (qnq l)
 clear ha hs
 obtain⟨n,hn⟩:=Nq l.length
 rw[hn]at hl HC HS⊢
 have HN:=h_ hn
 clear hn
 go_enter Tryz.func252,Tryz.ntmps252
 go_wp2_with fail
 refine HC.u.mono ?_
 rintro r W1 ⟨rfl,hm,hb⟩
 have HM:=h_ hm;have HB:=h_ hb
 clear hm hb
 obtain⟨q,hq⟩:=Nq (Maps.size (mp l))
 have hq1:=HS.u.1
 rw[hq]at hq1
 have HQ:Hi (decide l.Nodup=((q:Int)==(n:Int))):=h_ (by
  have h:=HS.u.2;rw[hq]at h;by_cases e:q=n
  . rw[Yj (h.1 e),e];simp
  . rw[Yb (fun c=>e (h.2 c))]
    exact(Ya.2 (by omega)).symm)
 go_wp2_with (at_len;refine wpList_len_own _ rfl _ 100 rfl 9 3 Tryz.underlying100 _ w.heap.size l.length (mp l) rfl HM.u ?_;rw[hq];clear hq)
 go_ret
 exact⟨qia HQ.u.symm,HB.u⟩
theorem q0l (a:Option Addr)(c:Nat)(l:List ByteArray)(w:World)(hl:l.length<=1000000)(hs:∀x,x∈l->x.size<=9223372036854775807)(ha:Strs w a l) :
 Calls Tryz.prog 217 #[.slice a l.length c] w fun r w'=>r=.returned (.bool (namesOk l))/\Below w.heap.size w w':=by
 have HA:=h_ ha;have HS:=h_ hs
 have HE:Hi (namesOk l=(l.all goodN&&decide l.Nodup)):=h_ rfl
 clear ha hs
 obtain⟨n,hn⟩:=Nq l.length
 generalize namesOk l=q at *
 have HL:Hi (l.length<=1000000):=h_ hl
 rw[hn]at hl⊢
 have HN:=h_ hn
 clear hn
 go_enter Tryz.func217,Tryz.ntmps217
 go_wp2_with fail
 go_loopw [7] (fun i wr=>∃k:Nat,k<=n/\i=J6 k/\(∀j (h:j<l.length),j<k->goodN l[j]=true)/\Below w.heap.size w wr) (fun i _=>n - (intOf i).toNat)
 case atStart=>exact⟨0,nZ _,rfl,fun j _ hj=>absurd hj (nL _),bR _ _⟩
 case round =>
  obtain⟨k,hk,rfl,hall,hb⟩:=hrel;have HLl:=h_ hall;have HB0:=h_ hb;replace HA:=h_ (HA.u.mono hb);clear hall hb;by_cases hlt:k<n
  . have hlt':(k:Int)<n:=by omega
    have hkl:k<l.length:=(by have:=HN.u;omega);obtain⟨b,o,rfl,-,z0⟩:=HA.u k hkl;have HC:=h_ (q1o l[k] wr (HS.u _ (Ye hkl)));have HF:Hi (goodN l[k]=false->q=false):=h_ fun h=>by
     rw[HE.u,show l.all goodN=false from Vj.2 ⟨l[k],Ye hkl,by simp[h]⟩];rfl
    have HG:Hi (goodN l[k]=true->∀j (h:j<l.length),j<k+1->goodN l[j]=true):=h_ fun h j hj hjk=>by
     by_cases ej:j=k
     . subst ej;exact h
     . exact HLl.u j hj (by omega)
    generalize l[k]=x at *;generalize goodN x=g at *;cases g
    . have HX:=h_ (HF.u rfl)
      go_wp2_with fail;refine HC.u.mono ?_;rintro r w1 ⟨rfl,hw⟩;replace hw:=hw.symm;subst hw;go_wp2_with fail;go_ret;exact⟨qia HX.u.symm,HB0.u⟩
    . have HX:=h_ (HG.u rfl)
      go_wp2_with fail;refine HC.u.mono ?_;rintro r w1 ⟨rfl,hw⟩;replace hw:=hw.symm;subst hw;go_wp2_with fail;go_roundw
      case rel=>first | exact⟨k+1,by omega,by go_num,HX.u,HB0.u⟩ | ((repeat apply Exists.intro);exact⟨⟨k+1,by omega,by go_num,HX.u,HB0.u⟩,rfl⟩)
      case measure=>simp[intOf];omega
  . obtain rfl:k=n:=by omega
    have hlt':¬ (k:Int)<(k:Int):=(by omega);have HX:Hi (q=decide l.Nodup):=h_ (by
     rw[HE.u,show l.all goodN=true from Yu.2 fun x hx=>by
      obtain⟨j,hj,rfl⟩:=Yw.1 hx;exact HLl.u j hj (by have:=HN.u;omega)]
     rfl)
    have HC:Hi (Calls Tryz.prog 252 #[.slice a k c] wr fun r w'=>r=.returned (.bool (decide l.Nodup))/\Below wr.heap.size wr w'):=h_ (by
     have h:=q01 a c l wr HL.u HS.u HA.u;rw[HN.u]at h;exact h)
    generalize decide l.Nodup=d at *;go_wp2_with fail;refine HC.u.mono ?_;rintro r w1 ⟨rfl,hb⟩;have HB:=mT HB0 hb;clear hb;go_wp2_with fail;go_ret;exact⟨qia HX.u.symm,HB.u⟩
theorem q4i (l:List Ph)(k:Nat)(h:k<l.length):mx (l.take (k+1))=max (mx (l.take k)) l[k].d:=by
 rw[Ym h,qdi];simp[mx]
theorem q4l (n:Nx)(a:Option Addr)(c:Nat)(l:List Ph)(w:World)(hok:okNode n=true)(hf:Fit n)(hl:l.length=arn n)(ha:Phs w a l)(hs:tot l<=2000000)(hd:mx l<=1000)(hw:Wrds w)(hp:Pow w) :
 Calls Tryz.prog 289 #[nv n,.slice a (arn n) c] w fun r w'=>r=.returned (pv (phr n l))/\Below w.heap.size w w':=by
 unfold nv
 have HK:=h_ ((Blk.new w 172 #[J6 n.op,J6 n.v.k,J6 n.v.n,.string n.v.s,.string n.nm]).alloc (.cells #[J8,J6 0,J6 0] 325))
 have HR:=h_ (Blk.new (w.alloc (.cells #[J6 n.op,J6 n.v.k,J6 n.v.n,.string n.v.s,.string n.nm] 172)) 325 #[J8,J6 0,J6 0])
 have HB:=h_ (((bR w.heap.size w).alloc (nR _) (.cells #[J6 n.op,J6 n.v.k,J6 n.v.n,.string n.v.s,.string n.nm] 172)).alloc (by simp) (.cells #[J8,J6 0,J6 0] 325))
 rw[Yk]at HR
 obtain⟨W0,hW0⟩:=Nq ((w.alloc (.cells #[J6 n.op,J6 n.v.k,J6 n.v.n,.string n.v.s,.string n.nm] 172)).alloc (.cells #[J8,J6 0,J6 0] 325))
 rw[hW0]at HK HB HR
 have HA:=h_ (ha.mono HB.u);have HP:=h_ (hp.mono HB.u);have HW:=h_ (hw.mono HB.u)
 have HL:=h_ hl;have HS:=h_ hs;have HD:=h_ hd;have HF:=h_ hf;have HO:=h_ hok
 have har:=arn_le n
 obtain⟨m,hm⟩:=Nq (arn n)
 rw[hm]at har HL⊢
 have HM:=h_ hm
 have HX:Hi (∀k,k<=m->mx (l.take k)<=1000):=h_ fun k _=>by
  have:mx l=max (mx (l.take k)) (mx (l.drop k)):=by rw[<- qdi,Vo]
  have:=HD.u;omega
 clear ha hw hp hl hs hd hf hok hm
 go_enter Tryz.func289,Tryz.ntmps289
 go_wp2_with fail
 try rw[hW0]
 clear hW0
 go_loopw [5,7,10] (fun dp _ i wr=>∃k:Nat,k<=m/\dp=J6 (mx (l.take k))/\i=J6 k/\Below W0.heap.size W0 wr) (fun _ _ i _=>m - (intOf i).toNat)
 case atStart=>exact⟨0,nZ _,rfl,rfl,bR _ _⟩
 case round =>
  obtain⟨k,hk,rfl,rfl,hb⟩:=hrel;have HBr:=h_ hb;have HAr:=h_ (HA.u.mono hb);have hmk:=HX.u k hk;clear hb;by_cases hlt:k<m
  . have hlt':(k:Int)<m:=by omega
    have hkl:k<l.length:=(by have:=HL.u;omega);obtain⟨b,o,rfl,-,c0,c1,c2⟩:=HAr.u k hkl;have HN:Hi (mx (l.take (k+1))=max (mx (l.take k)) l[k].d):=h_ (q4i l k hkl);have hmk1:=HX.u (k+1) (by omega);obtain⟨p,hp⟩:=Nq (l[k]);rw[hp]at HN c0 c1 c2;rw[HN.u]at hmk1;clear hp;have HB2:=h_ (HBr.u.alloc HBr.u.size (.cells #[.string p.t,J6 p.lv,J6 p.d] 325));obtain⟨q,hq⟩:=Nq (mx (l.take k));rw[hq]at HN hmk hmk1⊢;clear hq;obtain⟨d,hdd⟩:=Nq p.d;rw[hdd]at HN hmk1 c2 HB2;clear hdd;go_wp2_with fail;go_roundw
    case rel=>first | exact⟨k+1,by omega,by rw[HN.u];exact congrArg (Value.int .i64) (by omega),by go_num,HB2.u⟩ | ((repeat apply Exists.intro);exact⟨⟨k+1,by omega,by rw[HN.u];exact congrArg (Value.int .i64) (by omega),by go_num,HB2.u⟩,rfl⟩)
    case measure=>simp[intOf];omega
  . obtain rfl:k=m:=by omega
    have hlt':¬ (k:Int)<(k:Int):=(by omega);rw[Yz (by have:=HL.u;omega)]at hmk⊢;have HKr:=h_ (HK.u.mono HBr.u HK.u.lt);have HRr:=h_ (HR.u.mono HBr.u HR.u.lt);have HPr:=h_ (HP.u.mono HBr.u);have HWr:=h_ (HW.u.mono HBr.u);have HB2:=h_ (HB.u.trans (HBr.u.mono HB.u.size));clear HK HR HP HW HB HBr HA HX;obtain⟨y0,y1,y2,y3,y4⟩:=five HKr.u;obtain⟨q,hq⟩:=Nq (mx l);rw[hq]at hmk⊢;have HQ:=h_ hq;clear hq;go_wp2_with fail;refine wp_region_held_drew (S:=fun w'=>w'.cell? ⟨w.heap.size,0,none⟩=some (J6 n.op)/\w'.cell? ⟨w.heap.size,1,none⟩=some (J6 n.v.k)/\w'.cell? ⟨w.heap.size,2,none⟩=some (J6 n.v.n)/\w'.cell? ⟨w.heap.size,3,none⟩=some (.string n.v.s)/\w'.cell? ⟨w.heap.size,4,none⟩=some (.string n.nm)) (by kernel_rfl) ⟨y0,y1,y2,y3,y4⟩ (fun zz=>?_);clear y0 y1 y2 y3 y4;refine tj 0 19 (.agg #[J6 n.op,J6 n.v.k,J6 n.v.n,.string n.v.s,.string n.nm]) zz ?_;refine tj 1 20 (.slice a k c) zz ?_;refine tj 3 22 (J9 w.heap.size 0) zz ?_;refine tj 4 23 (J6 n.op) zz ?_;simp only[sX,sY,sZ];refine tj 6 25 (J6 (q:Int)) zz ?_;refine tj 7 26 (J6 ((q:Int)+1)) zz ?_ (hy:=fun w hS=>by simp[execOp,go_sem, *];rw[IntKind.wrap_i64];omega);simp only[sX,sY,sZ];have HD2:Hi (Below wr.heap.size wr wr.drew):=h_ ((bR _ _).drew);have hpt:=q24 n a c l wr.drew HO.u HF.u (HL.u.trans HM.u.symm) (HAr.u.mono HD2.u) HS.u (HWr.u.mono HD2.u) (HPr.u.mono HD2.u);rw[HM.u]at hpt;refine callY (i:=2) (f:=294) (args:=#[.agg #[J6 n.op,J6 n.v.k,J6 n.v.n,.string n.v.s,.string n.nm],.slice a k c]) (R:=fun r wz=>r=.string (phT n l)/\Below wr.heap.size wr wz) 21 rfl rfl (by rfl) (by kernel_rfl) ?hrun1 (hpt.mono fun e w6 ⟨he,hb⟩=>⟨_,he,rfl,q29 hb⟩) ?_
    case hrun1=>simp[execOp,go_sem]
    clear hpt;rintro r3 W4 ⟨rfl,hb⟩;replace HKr:=mB HKr hb;replace HRr:=mB HRr hb;replace HB2:=mT HB2 hb;clear hb zz HD2;obtain⟨y0,y1,y2,y3,y4⟩:=five HKr.u;have zz:W4.cell? ⟨w.heap.size,0,none⟩=some (J6 n.op)/\W4.cell? ⟨w.heap.size,1,none⟩=some (J6 n.v.k)/\W4.cell? ⟨w.heap.size,2,none⟩=some (J6 n.v.n)/\W4.cell? ⟨w.heap.size,3,none⟩=some (.string n.v.s)/\W4.cell? ⟨w.heap.size,4,none⟩=some (.string n.nm):=⟨y0,y1,y2,y3,y4⟩;clear y0 y1 y2 y3 y4;refine⟨zz,?_⟩;simp only[sX,sY,sZ];refine callY (i:=5) (f:=295) (args:=#[J6 n.op]) (R:=fun r wz=>r=J6 (lvl n.op)/\wz=W4) 24 rfl rfl (by rfl) (by kernel_rfl) ?hrun2 ((q6o _ _).mono fun e w6 ⟨he,hb⟩=>⟨_,he,rfl,hb⟩) ?_
    case hrun2=>simp[execOp,go_sem]
    rintro r3 W5 ⟨rfl,hw⟩;replace hw:=hw.symm;subst hw;refine⟨zz,?_⟩;simp only[sX,sY,sZ];obtain⟨t,ht⟩:=Nq (phT n l);obtain⟨lv,hlv⟩:=Nq (lvl n.op);have HE:Hi (phr n l=⟨t,lv,q+1⟩):=h_ (by rw[<- ht,<- hlv,<- HQ.u];rfl);rw[ht,hlv];clear ht hlv;refine tj 8 27 (.agg #[.string t,J6 lv,J6 ((q:Int)+1)]) zz ?_;simp only[sX,sY,sZ];obtain⟨r0,r1,r2⟩:=three HRr.u;have f0:=HRr.u.free 0;have f1:=HRr.u.free 1;have f2:=HRr.u.free 2;have far:∀(w':World) (j i:Nat) (u:Value),(w'.setCell ⟨w.heap.size+1,j,none⟩ u).cell? ⟨w.heap.size,i,none⟩=w'.cell? ⟨w.heap.size,i,none⟩:=fun w' j i u=>World.cell?_of_block (w:=w') (heap_setCell_other w' ⟨w.heap.size+1,j,none⟩ w.heap.size u (by simp));refine storeY (i:=9) (w':=((W4.setCell ⟨w.heap.size+1,0,none⟩ (.string t)).setCell ⟨w.heap.size+1,1,none⟩ (J6 lv)).setCell ⟨w.heap.size+1,2,none⟩ (J6 ((q:Int)+1))) rfl (by rfl) (by kernel_rfl) rfl ?hrunS rfl ⟨by rw[far,far,far];exact zz.1,by rw[far,far,far];exact zz.2.1,by rw[far,far,far];exact zz.2.2.1,by rw[far,far,far];exact zz.2.2.2.1,by rw[far,far,far];exact zz.2.2.2.2⟩ ?_
    case hrunS=>simp[execOp,go_sem,r0,r1,r2,f0,f1,f2]
    refine wpAnyH_done (by kernel_rfl) ?_ _;have bR9:=(((HRr.u.set 0 (.string t)).set 1 (J6 lv)).set 2 (J6 ((q:Int)+1)));have HB9:=h_ (((HB2.u.setCell (show w.heap.size<=(⟨w.heap.size+1,0,none⟩:Addr).block by simp) (.string t)).setCell (show w.heap.size<=(⟨w.heap.size+1,1,none⟩:Addr).block by simp) (J6 lv)).setCell (show w.heap.size<=(⟨w.heap.size+1,2,none⟩:Addr).block by simp) (J6 ((q:Int)+1)));obtain⟨W9,hW9⟩:=Nq (((W4.setCell ⟨w.heap.size+1,0,none⟩ (.string t)).setCell ⟨w.heap.size+1,1,none⟩ (J6 lv)).setCell ⟨w.heap.size+1,2,none⟩ (J6 ((q:Int)+1)));rw[hW9]at bR9 HB9⊢;obtain⟨k0,k1,k2⟩:=three bR9;clear hW9 bR9 r0 r1 r2 f0 f1 f2 far zz;go_wp2;exact bodyPost_ret (v:=.agg #[.string t,J6 lv,J6 ((q:Int)+1)]) (by simp[results,Tryz.results289,go_sem, *]) rfl ⟨by rw[HE.u];rfl,HB9.u⟩
def phV (l:List Ph):List Value:=l.flatMap fun p=>[.string p.t,.int .i64 p.lv,.int .i64 p.d]
theorem qn3 (l:List Ph):(phV l).length=l.length*3:=by
 induction l with
 | nil=>rfl
 | cons p r ih=>simp only[phV,Zu,Yd,Yl,Yt]at *;omega
theorem qa7 (l r:List Ph):phV (l++r)=phV l++phV r:=by simp[phV]
theorem qn2 (l:List Ph)(k:Nat)(h:k<l.length):(phV l)[k*3]? = some (.string l[k].t)/\(phV l)[k*3+1]? = some (J6 l[k].lv)/\(phV l)[k*3+2]? = some (J6 l[k].d):=by
 induction l generalizing k with
 | nil=>cases h
 | cons p r ih =>
  cases k with
  | zero=>exact⟨rfl,rfl,rfl⟩
  | succ k =>
   have:=ih k (by simpa using h);rw[show(k+1)*3=k*3+1+1+1 by omega];simpa [phV] using this
theorem qhu (l:List Ph)(k:Nat):(phV l).take (k*3)=phV (l.take k):=by
 induction l generalizing k with
 | nil=>simp[phV]
 | cons p r ih =>
  cases k with
  | zero=>simp[phV]
  | succ k =>
   rw[show(k+1)*3=k*3+1+1+1 by omega];have:=ih k;simp only[phV,Zu,List.take_succ_cons]at *;simp[this]
theorem qlg:(Tryz.prog.info? 325).map (fun i=>(i.zero,i.size,i.bytes))=some (some (.agg Jt),3,32):=by kernel_rfl
def StkV (w:World)(B:Nat)(v:Value)(l:List Ph):Prop:=w.ownsRow B 325 3 v l.length (phV l)
theorem StkV.shape {w:World}{B:Nat}{v:Value}{l:List Ph}(h:StkV w B v l):∃a cap,v=.slice a l.length cap/\l.length<=cap/\(a=none->l=[]/\cap=0)/\(∀g o f,a=some ⟨g,o,f⟩->o=0/\f=none/\B<=g/\g<w.heap.size):=by
 rcases h.2 with ⟨rfl,h0⟩ | ⟨g,cap,cur,rfl,hb,hg,hc,-,hs,htake⟩
 . exact⟨none,0,by rw[h0],by omega,fun _=>⟨Zt.1 h0,rfl⟩,fun _ _ _ h=>by cases h⟩
 . exact⟨_,cap,rfl,hc,fun h=>(by cases h),fun g' o f h=>by cases h;exact⟨rfl,rfl,hb,(Yr.1 hg).1⟩⟩
theorem StkV.cell {w:World}{B:Nat}{g cap:Nat}{l:List Ph}(h:StkV w B (.slice (some ⟨g,0,none⟩) l.length cap) l)(j:Nat)(hj:j<l.length*3):w.cell? ⟨g,j,none⟩=(phV l)[j]?:=World.ownsRow.cellAt (show w.ownsRow B 325 3 _ _ _ from h) j hj
theorem StkV.from {w:World}{B:Nat}{a:Option Addr}{cap:Nat}{l:List Ph}(h:StkV w B (.slice a l.length cap) l)(r:Nat)(hr:r<=l.length) :
 Phs w (if cap=r then a else a.map (·.add (r*3))) (l.drop r):=by
 intro k hk
 rw[List.length_drop]at hk
 obtain⟨a',cap',e,hc,hn,hs⟩:=h.shape
 simp only[Value.slice.injEq,true_and]at e
 obtain⟨rfl,rfl⟩:=e
 cases a with
 | none=>obtain⟨rfl,-⟩:=hn rfl;simp at hk
 | some ad =>
  obtain⟨g,o,f⟩:=ad;obtain⟨rfl,rfl,-,hlt⟩:=hs g o f rfl;rw[Yn (by omega)];refine⟨g,r*3,by simp[Addr.add];omega,?_⟩;have hg:=qn2 l (r+k) (by omega);rw[List.getElem_drop];exact⟨hlt,by rw[<- Nat.add_mul,h.cell _ (by omega)];exact hg.1,by rw[<- Nat.add_mul,h.cell _ (by omega)];exact hg.2.1,by rw[<- Nat.add_mul,h.cell _ (by omega)];exact hg.2.2⟩
theorem StkV.upto {w:World}{B:Nat}{a:Option Addr}{cap:Nat}{l:List Ph}(h:StkV w B (.slice a l.length cap) l)(r:Nat)(hr:r<=l.length):StkV w B (.slice a r cap) (l.take r):=by
 have hl:(l.take r).length=r:=by rw[Za];omega
 unfold StkV
 rw[hl]
 refine⟨by rw[qn3,hl],?_⟩
 rcases h.2 with ⟨e,h0⟩ | ⟨g,cap',cur,e,hb,hg,hc,hx,hs,htake⟩
 . simp only[Value.slice.injEq]at e
   obtain⟨rfl,-,rfl⟩:=e;exact .inl ⟨by rw[show r=0 by omega],by omega⟩
 . simp only[Value.slice.injEq,true_and]at e
   obtain⟨rfl,rfl⟩:=e;refine .inr ⟨g,cap,cur,rfl,hb,hg,by omega,hx,hs,?_⟩;rw[<- qhu,<- htake,List.take_take,Nat.min_eq_left (by omega)]
theorem StkV.mono {w w':World}{B:Nat}{v:Value}{l:List Ph}(h:StkV w B v l)(hb:Below w.heap.size w w'):StkV w' B v l:=by
 refine⟨h.1,?_⟩
 rcases h.2 with h' | ⟨g,cap,cur,e,hB,hg,hc,hx,hs,htake⟩
 . exact .inl h'
 . exact .inr ⟨g,cap,cur,e,hB,(hb.block g (Yr.1 hg).1).trans hg,hc,hx,hs,htake⟩
theorem StkV.other {w:World}{B:Nat}{v:Value}{l:List Ph}(h:StkV w B v l){b:Nat}(hb:v.ownBlock≠some b)(j:Nat)(u:Value):StkV (w.setCell ⟨b,j,none⟩ u) B v l:=by
 refine⟨h.1,?_⟩
 rcases h.2 with h' | ⟨g,cap,cur,e,hB,hg,hc,hx,hs,htake⟩
 . exact .inl h'
 . refine .inr ⟨g,cap,cur,e,hB,(heap_setCell_other w ⟨b,j,none⟩ g u ?_).trans hg,hc,hx,hs,htake⟩
   rintro rfl;exact hb (by rw[e];rfl)
theorem q0h {α:Type}(l:List α)(k:Nat)(h:k<=l.length):l.reverse.drop (l.length - k)=(l.take k).reverse:=by
 rw[List.drop_reverse];congr 1;congr 1;omega
theorem q0i {α:Type}(l:List α)(k:Nat)(h:k<=l.length):l.reverse.take (l.length - k)=(l.drop k).reverse:=by
 rw[List.take_reverse];congr 1;congr 1;omega
end Go.Proofs.YtgojgjlninakjaaGreatDoor
