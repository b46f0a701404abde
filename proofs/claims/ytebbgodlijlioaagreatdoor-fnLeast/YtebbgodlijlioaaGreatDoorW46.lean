import Derived.Test.YtebbgodlijlioaaGreatDoorW44
import Derived.Deep.CutBlock
set_option maxRecDepth 100000
set_option maxHeartbeats 64000000
namespace Go.Proofs.YtebbgodlijlioaaGreatDoor
open Go Go.RowKit
theorem q2c (len:Nat)(f:Nat->Nat)(hlen:len<=1048576)(p:Nat)(hp:p<=1000)(flds:Nat)(hfl:flds<=20)(D:SD)(ok:SDok len f D p flds)(w:World)(a:Option Addr)(c:Nat)(hby:Byts w a len f) :
 Calls Tryz.prog 41 #[.slice a len c,J9 p,J9 flds] w fun e w'=>∃v1 v2 v3 v4 P,e=.returned (.tuple #[.agg #[v1,v2,v3,v4],J9 ((D.pq flds+D.ls.length+1:Nat):Int)])/\OwM w' w.heap.size v1 v2 v3 v4 (fmX len f D (finX len f D flds)) P/\Below w.heap.size w w':=by
 have HOk:=h_ ok
 have HBy:Hi (∀W,Below w.heap.size w W->Byts W a len f):=h_ fun W hb=>hby.mono hb
 have hN1:=ok.hN1;have hN2:=ok.hN2;have hlp:=ok.hlp;have hq0:=ok.hq0;have hn3:=ok.hn3
 have hb0:Below w.heap.size w ((w.alloc (.cells Jc 28)).alloc (.cells Jc 28)):=((bR w.heap.size w).alloc (nR _) _).alloc (by simp) _
 have hr0:=(Blk.new w 28 Jc).alloc (.cells Jc 28)
 have hx0:=Blk.new (w.alloc (.cells Jc 28)) 28 Jc
 simp only[Yv]at hx0
 obtain⟨W0,hW0⟩:=Nq ((w.alloc (.cells Jc 28)).alloc (.cells Jc 28))
 rw[hW0]at hb0 hr0 hx0
 obtain⟨R,hR⟩:=Nq (w.heap.size+1)
 rw[hR]at hx0
 have hwR:w.heap.size<R:=by omega
 have HM0:Hi (MMk R ⟨[],[],[],[]⟩ [] Ya Ya Ya Ya w W0):=h_ ⟨hx0,OwM.nil _ _,hb0,hr0,hwR⟩
 have HC:=h_ (ok.cD W0 a c (hby.mono hb0))
 have HW0:=h_ hW0;have HR:=h_ hR
 clear hb0 hr0 hx0 hby ok hW0 hR
 go_enter Tryz.func41,Tryz.ntmps41
 go_upto_region 2 with (refine q66 rfl 28 #[] rfl Jc (by kernel_rfl) ?_)
 rw[HW0.u,HR.u]
 clear HW0 HR
 go_wp2_with fail
 refine HC.u.mono ?_
 rintro e W1 ⟨vp,rfl,hop,hb⟩
 obtain⟨xp,cp,rfl,-,-⟩:=q8b hop
 have hba:=(bR W1.heap.size W1).alloc (nR _) (.cells (Jn D.N xp D.lp.length cp) 39)
 have hbb:=hb.trans (hba.mono hb.size)
 have HOb:Hi (Blk _ _ 39 [J9 D.N,.slice xp D.lp.length cp]):=h_ (Blk.new W1 39 (Jn D.N xp D.lp.length cp))
 have HOp:Hi (OwP (W1.alloc (.cells (Jn D.N xp D.lp.length cp) 39)) w.heap.size (.slice xp D.lp.length cp) D.lp):=h_ (qap (qdt hop HM0.u.bl.size) hba)
 have HM2:=h_ (HM0.u.mono hbb)
 obtain⟨W2,hW2⟩:=Nq (W1.alloc (.cells (Jn D.N xp D.lp.length cp) 39))
 obtain⟨B9,hB9⟩:=Nq W1.heap.size
 have h9R:B9≠R:=by have:=HM0.u.bx.lt;have:=hb.size;omega
 rw[hW2]at HOb HOp HM2
 rw[hB9]at HOb
 clear hop hb hba hbb HM0 HC
 go_upto_block 0 with fail
 try rw[hW2]
 try rw[hB9]
 clear hW2 hB9
 go_cut [] from 31 (fun wx=>∃x1 c1,MMk R ⟨D.lab D.N,[],[],[]⟩ [] (.slice x1 D.N c1) Ya Ya Ya w wx/\Blk wx B9 39 [J9 D.N,.slice xp D.lp.length cp]/\OwP wx w.heap.size (.slice xp D.lp.length cp) D.lp)
 case first =>
  as_aux_lemma =>
  go_wp2_with fail;go_loopw [11] (fun i wr=>∃(k:Nat) (x1:Option Addr) (c1:Nat),k<=D.N/\i=J9 k/\MMk R ⟨D.lab k,[],[],[]⟩ [] (.slice x1 k c1) Ya Ya Ya w wr/\Blk wr B9 39 [J9 D.N,.slice xp D.lp.length cp]/\OwP wr w.heap.size (.slice xp D.lp.length cp) D.lp) (fun i _=>D.N - (intOf i).toNat)
  case atStart=>exact⟨0,none,0,nZ _,rfl,HM2.u,HOb.u,HOp.u⟩
  case round =>
   clear HM2 HOb HOp;obtain⟨k,x,c1,hk,rfl,hm,hob,hop⟩:=hrel;have n0:=hob.cell 0;simp only[Yh]at n0;by_cases hlt:k<D.N
   . have hlt':(k:Int)<(D.N:Int):=by omega
     have hm0:MMk R ⟨D.lab k,[],[],[]⟩ [] (.slice x k c1) Ya Ya Ya w wr.drew:=hm.mono (bR _ _).drew;have hob0:Blk wr.drew B9 39 [J9 D.N,.slice xp D.lp.length cp]:=hob;have hop0:OwP wr.drew w.heap.size (.slice xp D.lp.length cp) D.lp:=qap hop (bR _ _).drew;have HLk:Hi (D.lab (k+1)=D.lab k++[D.lnm k]):=h_ (qed _ _);have hLl:(D.lab k).length=k:=qj5 _ _;have HCl:=h_ fun W=>HOk.u.cL k (by omega) W;obtain⟨i0,hi0,hi1,hi2,hi3⟩:=info_parts qct;go_upto_region 7 with fail
     clear n0;obtain⟨X,hX⟩:=Nq wr.drew;refine wp_region_held_drew (S:=fun _=>True) (by kernel_rfl) trivial (fun zz=>?_);rw[hX]at hm0 hob0 hop0;obtain⟨x0,-⟩:=quad hm0.bx;refine takeL (i:=0) (v:=Yc R 0) 45 rfl rfl (by kernel_rfl) (by kernel_rfl) (by kernel_rfl) (fun _ _ _ _ h=>h) (by rfl) (fun w hS=>by rfl) zz (by(first | simp only[Yd,Ye] | skip);rfl) (by(first | simp only[Yd,Ye] | skip);rfl) ?_;refine takeL (i:=2) (v:=J9 k) 47 rfl rfl (by kernel_rfl) (by kernel_rfl) (by kernel_rfl) (fun _ _ _ _ h=>h) (by rfl) (fun w hS=>by rfl) zz (by(first | simp only[Yd,Ye] | skip);rfl) (by(first | simp only[Yd,Ye] | skip);rfl) ?_;rw[hX];refine wpAnyH_ready (rs:=[1,3]) (by kernel_rfl) (by simp) (consRun (v:=.slice x k c1) (w':=X) 46 rfl rfl (by rfl) (by simp[execOp,go_sem,x0]) trivial ?oA (consCall (f:=69) (args:=#[J9 k]) (R:=fun u wz=>u=.string (D.lnm k)/\Below X.heap.size X wz) 48 rfl rfl (by rfl) (by simp[execOp,go_sem]) ((HCl.u X).mono fun e w6 ⟨he,hb⟩=>⟨_,he,rfl,hb⟩) ?oB AllReadyH.nil))
     case' oA =>
      refine outL (by(first | simp only[Yd,Ye] | skip);rfl) (by(first | simp only[Yd,Ye] | skip);rfl) ?_;refine callY (i:=3) (f:=69) (args:=#[J9 k]) (R:=fun u wz=>u=.string (D.lnm k)/\Below X.heap.size X wz) 48 rfl rfl (by rfl) (by kernel_rfl) (by simp[execOp,go_sem]) ((HCl.u X).mono fun e w6 ⟨he,hb⟩=>⟨_,he,rfl,hb⟩) ?_;rintro u W1 ⟨rfl,hb⟩;have hba:=(bR W1.heap.size W1).alloc (nR _) (.cells #[.string (D.lnm k)] 9);have hNY:=Blk.new W1 9 #[.string (D.lnm k)];obtain⟨Y,hY⟩:=Nq (W1.alloc (.cells #[.string (D.lnm k)] 9));rw[hY]at hba hNY;have hbY:=hb.trans (hba.mono hb.size);refine⟨trivial,?_⟩;refine outL (by(first | simp only[Yd,Ye] | skip);rfl) (by(first | simp only[Yd,Ye] | skip);rfl) ?_;refine runG (i:=4) (v:=.slice (some ⟨W1.heap.size,0,none⟩) 1 1) (w':=Y) 49 rfl rfl (by rfl) (by kernel_rfl) (by simp[execOp,go_sem,<- hY]) trivial ?_;refine outL (by(first | simp only[Yd,Ye] | skip);rfl) (by(first | simp only[Yd,Ye] | skip);rfl) ?_
     case' oB =>
      rintro u W1 ⟨rfl,hb⟩;have hba:=(bR W1.heap.size W1).alloc (nR _) (.cells #[.string (D.lnm k)] 9);have hNY:=Blk.new W1 9 #[.string (D.lnm k)];obtain⟨Y,hY⟩:=Nq (W1.alloc (.cells #[.string (D.lnm k)] 9));rw[hY]at hba hNY;have hbY:=hb.trans (hba.mono hb.size);obtain⟨w0,-⟩:=quad (hm0.mono hb).bx;obtain⟨y0,-⟩:=quad (hm0.mono hbY).bx;refine⟨trivial,?_⟩;refine outL (by(first | simp only[Yd,Ye] | skip);rfl) (by(first | simp only[Yd,Ye] | skip);rfl) ?_;refine wpAnyH_ready (rs:=[1,4]) (by kernel_rfl) (by simp) (consRun (v:=.slice x k c1) (w':=W1) 46 rfl rfl (by rfl) (by simp[execOp,go_sem,w0]) trivial ?oC (consRun (v:=.slice (some ⟨W1.heap.size,0,none⟩) 1 1) (w':=Y) 49 rfl rfl (by rfl) (by simp[execOp,go_sem,<- hY]) trivial ?oD AllReadyH.nil))
     case' oC =>
      refine outL (by(first | simp only[Yd,Ye] | skip);rfl) (by(first | simp only[Yd,Ye] | skip);rfl) ?_;refine runG (i:=4) (v:=.slice (some ⟨W1.heap.size,0,none⟩) 1 1) (w':=Y) 49 rfl rfl (by rfl) (by kernel_rfl) (by simp[execOp,go_sem,<- hY]) trivial ?_;refine outL (by(first | simp only[Yd,Ye] | skip);rfl) (by(first | simp only[Yd,Ye] | skip);rfl) ?_
     case' oD =>
      refine outL (by(first | simp only[Yd,Ye] | skip);rfl) (by(first | simp only[Yd,Ye] | skip);rfl) ?_;refine runG (i:=1) (v:=.slice x k c1) (w':=Y) 46 rfl rfl (by rfl) (by kernel_rfl) (by simp[execOp,go_sem,y0]) trivial ?_;refine outL (by(first | simp only[Yd,Ye] | skip);rfl) (by(first | simp only[Yd,Ye] | skip);rfl) ?_
     all_goals
      as_aux_lemma =>
      have hm2:=hm0.mono hbY;have hob2:=hob0.mono hbY hob0.lt;have hop2:OwP Y w.heap.size (.slice xp D.lp.length cp) D.lp:=qap hop0 hbY;have hsz:=hm2.bl.size;refine appY (i:=5) 50 rfl rfl rfl (by kernel_rfl) (.tmp 46) (.tmp 49) 23 rfl w.heap.size 9 i0 _ 1 16 Tryz.underlying23 hi0 hi1 hi2 hi3 rfl (by omega) (.slice x k c1) k (stV (D.lab k)) rfl (by have:=hm2.ow.l;unfold OwnS at this;rw[hLl]at this;exact this) ⟨W1.heap.size,0,none⟩ 1 1 [.string (D.lnm k)] rfl rfl (fun j u hj=>by rw[show(⟨W1.heap.size,0,none⟩:Addr).add j=⟨W1.heap.size,j,none⟩ by simp[Addr.add];try exact fun h=>h.symm];exact(hNY.cell j).trans hj) (by simp[Value.oneCell']) (by omega) (by unfold maxLen;omega) (by omega) hsz _ rfl ?_;intro q cap W9 ho hgw hq9 hq10;have hb9:Below w.heap.size Y W9:=(bR w.heap.size Y).grown hgw hsz (fun g e=>q87 hm2.ow.l e);have hk9:Blk W9 R 28 [.slice x k c1,Ya,Ya,Ya]:=hm2.bx.grow hm2.ow.l (by decide) hgw;have HM9:=h_ (hm2.addL (x:=D.lnm k) (v':=.slice (some ⟨q,0,none⟩) (k+1) cap) (by show W9.ownsRow _ _ _ _ (D.lab k++[D.lnm k]).length (stV (D.lab k++[D.lnm k]));rw[Yg,hLl];unfold stV;rw[Zf];exact ho) hgw hb9);have HOb9:=h_ ((hob2.grow hm2.ow.l (by decide) hgw).other (a:=⟨R,0,none⟩) (.slice (some ⟨q,0,none⟩) (k+1) cap) h9R);have HOp9:Hi (OwP (W9.setCell ⟨R,0,none⟩ (.slice (some ⟨q,0,none⟩) (k+1) cap)) w.heap.size (.slice xp D.lp.length cp) D.lp):=h_ (qij (World.ownsRow.kept hop2 hgw (qaw hop2 hm2.ow.l (by decide))) hk9 (by decide) (fun j hj=>heap_setCell_other _ _ _ _ hj));refine⟨trivial,?_⟩;refine outL (by(first | simp only[Yd,Ye] | skip);rfl) (by(first | simp only[Yd,Ye] | skip);rfl) ?_;refine takeL (i:=6) (v:=Yc R 0) 51 rfl rfl (by kernel_rfl) (by kernel_rfl) (by kernel_rfl) (fun _ _ _ _ h=>h) (by rfl) (fun w hS=>by rfl) zz (by(first | simp only[Yd,Ye] | skip);rfl) (by(first | simp only[Yd,Ye] | skip);rfl) ?_;have v0:=hk9.cell 0;have vf:=hk9.free 0;simp only[Yh]at v0;refine storeY (i:=7) (w':=W9.setCell ⟨R,0,none⟩ (.slice (some ⟨q,0,none⟩) (k+1) cap)) rfl (by rfl) (by kernel_rfl) rfl (by simp[execOp,go_sem,v0,vf]) rfl trivial ?_;refine wpAnyH_done (by kernel_rfl) ?_ _;dsimp only at HM9;rw[<- HLk.u]at HM9;clear zz ho hgw hb9 hk9 v0 vf hm hm0 hm2 hob hob0 hob2 hop hop0 hop2 hba hNY hY x0 hb hbY;go_wp2_with fail;go_roundw
      case rel=>exact⟨k+1,_,_,by omega,by go_num,HM9.u,HOb9.u,HOp9.u⟩
      case measure=>simp[intOf];omega
   . have hlt':¬ (k:Int)<(D.N:Int):=by omega
     obtain rfl:k=D.N:=(by omega);have HMr:=h_ hm;have HObr:=h_ hob;have HOpr:=h_ hop;clear hm hob hop;go_wp2_with fail;go_meet;exact⟨_,_,HMr.u,HObr.u,HOpr.u⟩
 case rest =>
 as_aux_lemma =>
 obtain⟨x1,cl,hm,hob,hop⟩:=hcut
 clear HM2 HOb HOp
 have o1:=hob.cell 1;have q1:=hm.bx.cell 1;have q1f:=hm.bx.free 1
 simp only[Yh,Yo]at o1 q1
 obtain⟨V,hV⟩:=Nq (wc.setCell ⟨R,1,none⟩ (.slice xp D.lp.length cp))
 have HMp:Hi (MMk R ⟨D.lab D.N,D.lp,[],[]⟩ [] (.slice x1 D.N cl) (.slice xp D.lp.length cp) Ya Ya w V):=h_ (by rw[<- hV];exact hm.setP hop)
 have HObp:Hi (Blk V B9 39 [J9 D.N,.slice xp D.lp.length cp]):=h_ (by rw[<- hV];exact hob.other _ h9R)
 have HV:=h_ hV
 clear hm hob hop hV
 go_upto_region 10 with fail
 rw[HV.u]
 clear HV o1 q1 q1f
 obtain⟨T,hT⟩:=Nq (tkD len f D.q0 10)
 have HNn:Hi (D.nn=if 0<T then 1+T % 3 else 0):=h_ (by rw[<- hT];exact HOk.u.hnn)
 have hT10:T<10:=by rw[<- hT];exact tk_lt hlen (by omega) (by omega) (by omega)
 have HT:=h_ hT
 obtain⟨p1,hp1⟩:=Nq (D.q0+1)
 have ep1:(D.q0:Int)+1=(p1:Int):=by omega
 have HP1:=h_ hp1
 clear hT hp1
 go_wp2_with fail
 refine(qju (p:=D.q0) (n:=10) hlen (by omega) (by omega) (by omega) c (HBy.u V HMp.u.bl) rfl rfl).mono ?_
 rintro e w' ⟨rfl,hw'⟩
 subst hw'
 rw[HT.u]
 clear HT
 go_upto_if 62 with fail
 go_cut [12] from 31 (fun s wx=>s=J9 D.nn/\wx=w')
 case first =>
  as_aux_lemma =>
  by_cases h0:0<T
  . have h0':(0:Int)<T:=by omega
    obtain⟨r,hr⟩:=Nq (T % 3);have hr1:(T:Int) % 3=(r:Int):=(by omega);have hr2:(T:Int).tmod 3=(r:Int):=(by rw[show(T:Int).tmod 3=(T:Int) % 3 from rfl];exact hr1);have HE:Hi (D.nn=1+r):=h_ (by rw[HNn.u,Yy h0,hr]);have hr3:r<3:=(by omega);clear hr;go_wp2_with fail;go_meet;exact⟨by have:=HE.u;first | (congr 1;omega) | go_num,rfl⟩
  . have h0':¬ (0:Int)<T:=by omega
    have HE:Hi (D.nn=0):=h_ (by rw[HNn.u,Yu h0]);obtain rfl:T=0:=(by omega);go_wp2_with fail;go_meet;exact⟨by rw[HE.u];rfl,rfl⟩
 case rest =>
 as_aux_lemma =>
 obtain⟨rfl,rfl⟩:=hcut
 clear HNn hT10
 have o0:=HObp.u.cell 0;have o1:=HObp.u.cell 1
 simp only[Yh,Yo]at o0 o1
 have HCb:=h_ (HOk.u.cB wc xp cp (prs_of HMp.u.ow.p))
 go_wp2_with fail
 refine HCb.u.mono ?_
 rintro e W3 ⟨n0,y1,l1,k1,y2,l2,k2,y3,l3,k3,code,rfl,hb⟩
 clear o0 o1 HCb
 have hba:=(bR W3.heap.size W3).alloc (nR _) (.cells #[J9 n0,.slice y1 l1 k1,.slice y2 l2 k2,.slice y3 l3 k3,J9 D.bot,J9 D.top] 35)
 have hbb:=hb.trans (hba.mono hb.size)
 have HLt:Hi (Blk _ _ 35 [J9 n0,.slice y1 l1 k1,.slice y2 l2 k2,.slice y3 l3 k3,J9 D.bot,J9 D.top]):=h_ (Blk.new W3 35 #[J9 n0,.slice y1 l1 k1,.slice y2 l2 k2,.slice y3 l3 k3,J9 D.bot,J9 D.top])
 have HM4:=h_ (HMp.u.mono hbb);have HOb4:=mB HObp hbb
 obtain⟨W4,hW4⟩:=Nq (W3.alloc (.cells #[J9 n0,.slice y1 l1 k1,.slice y2 l2 k2,.slice y3 l3 k3,J9 D.bot,J9 D.top] 35))
 obtain⟨B15,hB15⟩:=Nq W3.heap.size
 have h15R:B15≠R:=by have:=HMp.u.bx.lt;have:=hb.size;omega
 rw[hW4]at HLt HM4 HOb4
 rw[hB15]at HLt
 clear hb hba hbb HMp HObp
 go_upto_block 2 with fail
 try rw[hW4]
 try rw[hB15]
 clear hW4 hB15
 go_cut [1] from 31 (fun s1 wx=>s1=J9 D.p2/\∃x3 c3,MMk R ⟨D.lab D.N,D.lp,rolX len f D (D.nn+1),[]⟩ [] (.slice x1 D.N cl) (.slice xp D.lp.length cp) (.slice x3 (D.nn+1) c3) Ya w wx)
 case first =>
  as_aux_lemma =>
  go_wp2_with fail;go_loopw [1,13,14,17] (fun s1 _ _ i wr=>∃(k q:Nat) (x3:Option Addr) (c3:Nat),k<=D.nn+1/\i=J9 k/\s1=J9 q/\q=D.q0+1+2*k/\MMk R ⟨D.lab D.N,D.lp,rolX len f D k,[]⟩ [] (.slice x1 D.N cl) (.slice xp D.lp.length cp) (.slice x3 k c3) Ya w wr/\Blk wr B9 39 [J9 D.N,.slice xp D.lp.length cp]/\Blk wr B15 35 [J9 n0,.slice y1 l1 k1,.slice y2 l2 k2,.slice y3 l3 k3,J9 D.bot,J9 D.top]) (fun _ _ _ i _=>D.nn+1 - (intOf i).toNat)
  case atStart=>exact⟨0,p1,none,0,nZ _,rfl,rfl,HP1.u.symm,HM4.u,HOb4.u,HLt.u⟩
  case round =>
   clear HM4 HOb4 HLt;obtain⟨k,q,x,c1,hk,rfl,rfl,hq,hm,hob,hlt⟩:=hrel;by_cases hkn:k<=D.nn
   . have hkn':(k:Int)<=(D.nn:Int):=by omega
     obtain⟨q1,hq1⟩:=Nq (q+1);obtain⟨q2,hq2⟩:=Nq (q1+1);have e1:(q:Int)+1=(q1:Int):=(by omega);have e2:(q1:Int)+1=(q2:Int):=(by omega);obtain⟨T,hT⟩:=Nq (tkD len f q D.N);obtain⟨Y,hY⟩:=Nq (tkD len f q1 3);have HRl:Hi (rlX len f D k=if 0<Y/\k=1 then D.top else if 0<Y/\k=0/\0<D.nn then D.bot else (T:Int)):=h_ (by unfold rlX;rw[show D.q0+2+2*k=q1 by omega,show D.q0+1+2*k=q by omega,hY,hT]);have hY3:Y<3:=(by rw[<- hY];exact tk_lt hlen (by omega) (by omega) (by omega));have HT:=h_ hT;have HY:=h_ hY;have HQ:=h_ hq;have HQ2:Hi (q2=D.q0+1+2*(k+1)):=h_ (by omega);have hqb:q<=2000:=(by omega);have hq1b:q1<=2001:=(by omega);have n0':=hob.cell 0;simp only[Yh]at n0';have HM:=h_ hm;have HOb:=h_ hob;have HLt:=h_ hlt;clear hT hY hq hq1 hq2 hm hob hlt;go_wp2_with fail;refine(qju (p:=q) (n:=D.N) hlen (by omega) (by omega) (by omega) c (HBy.u wr HM.u.bl) rfl rfl).mono ?_;rintro e w' ⟨rfl,hw'⟩;subst hw';rw[HT.u];go_wp2_with fail;refine(qju (p:=q1) (n:=3) hlen (by omega) (by omega) (by omega) c (HBy.u w' HM.u.bl) rfl rfl).mono ?_;rintro e w'' ⟨rfl,hw'⟩;subst hw';rw[HY.u];clear HT HY n0';go_upto_region 19 with fail
     go_cut [99] from 71 to 118 (fun s wx=>s=.bool (decide (0<Y/\k=0/\0<D.nn))/\wx=w'')
     case first =>
      as_aux_lemma =>
      by_cases h1:0<Y
      . have h1':(0:Int)<Y:=by omega
        by_cases h2:k=0
        . have h2':((k:Int)==0)=true:=by rw[h2];rfl
          have Hk:=h_ h2;clear h2;by_cases h3:0<D.nn
          . have h3':(0:Int)<D.nn:=by omega
            go_wp2_with fail;go_meet;exact⟨congrArg Value.bool (Ym (show 0<Y/\k=0/\0<D.nn from ⟨h1,Hk.u,h3⟩)).symm,rfl⟩
          . have h3':¬ (0:Int)<D.nn:=by omega
            go_wp2_with fail;go_meet;exact⟨congrArg Value.bool (Yi (show ¬ (0<Y/\k=0/\0<D.nn) from fun h=>h3 h.2.2)).symm,rfl⟩
        . have h2':((k:Int)==0)=false:=Yf.2 (by omega)
          go_wp2_with fail;go_meet;exact⟨congrArg Value.bool (Yi (show ¬ (0<Y/\k=0/\0<D.nn) from fun h=>h2 h.2.1)).symm,rfl⟩
      . have h1':¬ (0:Int)<Y:=by omega
        go_wp2_with fail;go_meet;exact⟨congrArg Value.bool (Yi (show ¬ (0<Y/\k=0/\0<D.nn) from fun h=>h1 h.1)).symm,rfl⟩
     case rest =>
     as_aux_lemma =>
     obtain⟨rfl,rfl⟩:=hcut;have l4:=HLt.u.cell 4;have l5:=HLt.u.cell 5;simp only[Yh,Yo]at l4 l5;go_upto_if 99 with fail
     go_cut [13] from 71 to 118 (fun s wx=>s=J9 (if 0<Y/\k=0/\0<D.nn then D.bot else (T:Int))/\wx=wc)
     case first =>
      as_aux_lemma =>
      by_cases h:0<Y/\k=0/\0<D.nn
      . have Hh:=h_ h
        rw[Ym h];clear h;go_wp2_with fail;go_meet;exact⟨by rw[Yy Hh.u],rfl⟩
      . have Hh:=h_ h
        rw[Yi h];clear h;go_wp2_with fail;go_meet;exact⟨by rw[Yu Hh.u],rfl⟩
     case rest =>
     as_aux_lemma =>
     obtain⟨rfl,rfl⟩:=hcut;obtain⟨X1,hX1⟩:∃X1,(if 0<Y/\k=0/\0<D.nn then D.bot else (T:Int))=X1:=⟨_,rfl⟩;rw[hX1]at HRl⊢;clear hX1;go_upto_region 21 with fail
     go_cut [107] from 71 to 118 (fun s wx=>s=.bool (decide (0<Y/\k=1))/\wx=wc)
     case first =>
      as_aux_lemma =>
      by_cases h1:0<Y
      . have h1':(0:Int)<Y:=by omega
        by_cases h2:k=1
        . have h2':((k:Int)==1)=true:=by rw[h2];rfl
          have Hk:=h_ h2;clear h2;go_wp2_with fail;go_meet;exact⟨congrArg Value.bool (Ym (show 0<Y/\k=1 from ⟨h1,Hk.u⟩)).symm,rfl⟩
        . have h2':((k:Int)==1)=false:=Yf.2 (by omega)
          go_wp2_with fail;go_meet;exact⟨congrArg Value.bool (Yi (show ¬ (0<Y/\k=1) from fun h=>h2 h.2)).symm,rfl⟩
      . have h1':¬ (0:Int)<Y:=by omega
        go_wp2_with fail;go_meet;exact⟨congrArg Value.bool (Yi (show ¬ (0<Y/\k=1) from fun h=>h1 h.1)).symm,rfl⟩
     case rest =>
     as_aux_lemma =>
     obtain⟨rfl,rfl⟩:=hcut;go_upto_if 107 with fail
     go_cut [13] from 71 to 118 (fun s wx=>s=J9 (rlX len f D k)/\wx=wc)
     case first =>
      as_aux_lemma =>
      by_cases h:0<Y/\k=1
      . have Hh:=h_ h
        rw[Ym h];clear h;go_wp2_with fail;go_meet;exact⟨by rw[HRl.u,Yy Hh.u],rfl⟩
      . have Hh:=h_ h
        rw[Yi h];clear h;go_wp2_with fail;go_meet;exact⟨by rw[HRl.u,Yu Hh.u],rfl⟩
     case rest =>
     as_aux_lemma =>
     obtain⟨rfl,rfl⟩:=hcut;clear l4 l5 HRl;obtain⟨y,hy⟩:=Nq (rlX len f D k);have HLk:Hi (rolX len f D (k+1)=rolX len f D k++[⟨D.rnm k,y⟩]):=h_ (by rw[<- hy];exact qed _ _);have hLl:(rolX len f D k).length=k:=qj5 _ _;rw[hy];clear hy;have HCl:=h_ fun W=>HOk.u.cR k (by omega) W;obtain⟨i0,hi0,hi1,hi2,hi3⟩:=info_parts qh4;have hm0:MMk R ⟨D.lab D.N,D.lp,rolX len f D k,[]⟩ [] (.slice x1 D.N cl) (.slice xp D.lp.length cp) (.slice x k c1) Ya w wc.drew:=HM.u.mono (bR _ _).drew;have hob0:Blk wc.drew B9 39 [J9 D.N,.slice xp D.lp.length cp]:=HOb.u;have hlt0:Blk wc.drew B15 35 [J9 n0,.slice y1 l1 k1,.slice y2 l2 k2,.slice y3 l3 k3,J9 D.bot,J9 D.top]:=HLt.u;go_upto_region 23 with fail
     obtain⟨X,hX⟩:=Nq wc.drew;refine wp_region_held_drew (S:=fun _=>True) (by kernel_rfl) trivial (fun zz=>?_);rw[hX]at hm0 hob0 hlt0;obtain⟨-,-,x0,-⟩:=quad hm0.bx;refine takeL (i:=0) (v:=Yc R 2) 110 rfl rfl (by kernel_rfl) (by kernel_rfl) (by kernel_rfl) (fun _ _ _ _ h=>h) (by rfl) (fun w hS=>by rfl) zz (by(first | simp only[Yd,Ye] | skip);rfl) (by(first | simp only[Yd,Ye] | skip);rfl) ?_;refine takeL (i:=2) (v:=J9 k) 112 rfl rfl (by kernel_rfl) (by kernel_rfl) (by kernel_rfl) (fun _ _ _ _ h=>h) (by rfl) (fun w hS=>by rfl) zz (by(first | simp only[Yd,Ye] | skip);rfl) (by(first | simp only[Yd,Ye] | skip);rfl) ?_;refine takeL (i:=4) (v:=J9 y) 114 rfl rfl (by kernel_rfl) (by kernel_rfl) (by kernel_rfl) (fun _ _ _ _ h=>h) (by rfl) (fun w hS=>by rfl) zz (by(first | simp only[Yd,Ye] | skip);rfl) (by(first | simp only[Yd,Ye] | skip);rfl) ?_;rw[hX];refine wpAnyH_ready (rs:=[1,3]) (by kernel_rfl) (by simp) (consRun (v:=.slice x k c1) (w':=X) 111 rfl rfl (by rfl) (by simp[execOp,go_sem,x0]) trivial ?pA (consCall (f:=70) (args:=#[J9 k]) (R:=fun u wz=>u=.string (D.rnm k)/\Below X.heap.size X wz) 113 rfl rfl (by rfl) (by simp[execOp,go_sem]) ((HCl.u X).mono fun e w6 ⟨he,hb⟩=>⟨_,he,rfl,hb⟩) ?pB AllReadyH.nil))
     case' pA =>
      refine outL (by(first | simp only[Yd,Ye] | skip);rfl) (by(first | simp only[Yd,Ye] | skip);rfl) ?_;refine callY (i:=3) (f:=70) (args:=#[J9 k]) (R:=fun u wz=>u=.string (D.rnm k)/\Below X.heap.size X wz) 113 rfl rfl (by rfl) (by kernel_rfl) (by simp[execOp,go_sem]) ((HCl.u X).mono fun e w6 ⟨he,hb⟩=>⟨_,he,rfl,hb⟩) ?_;rintro u W1 ⟨rfl,hb⟩;have hba:=(bR W1.heap.size W1).alloc (nR _) (.cells #[.string (D.rnm k),J9 y] 66);have hNY:=Blk.new W1 66 #[.string (D.rnm k),J9 y];obtain⟨Y,hY⟩:=Nq (W1.alloc (.cells #[.string (D.rnm k),J9 y] 66));rw[hY]at hba hNY;have hbY:=hb.trans (hba.mono hb.size);refine⟨trivial,?_⟩;refine outL (by(first | simp only[Yd,Ye] | skip);rfl) (by(first | simp only[Yd,Ye] | skip);rfl) ?_;refine takeL (i:=5) (v:=.agg #[.string (D.rnm k),J9 y]) 115 rfl rfl (by kernel_rfl) (by kernel_rfl) (by kernel_rfl) (fun _ _ _ _ h=>h) (by rfl) (fun w hS=>by exact q6u 66 #[(0,.tmp 113),(1,.tmp 114)] rfl _ (by kernel_rfl)) zz (by(first | simp only[Yd,Ye] | skip);rfl) (by(first | simp only[Yd,Ye] | skip);rfl) ?_;refine runG (i:=6) (v:=.slice (some ⟨W1.heap.size,0,none⟩) 1 1) (w':=Y) 116 rfl rfl (by rfl) (by kernel_rfl) (by simp[execOp,go_sem,<- hY]) trivial ?_;refine outL (by(first | simp only[Yd,Ye] | skip);rfl) (by(first | simp only[Yd,Ye] | skip);rfl) ?_
     case' pB =>
      rintro u W1 ⟨rfl,hb⟩;have hba:=(bR W1.heap.size W1).alloc (nR _) (.cells #[.string (D.rnm k),J9 y] 66);have hNY:=Blk.new W1 66 #[.string (D.rnm k),J9 y];obtain⟨Y,hY⟩:=Nq (W1.alloc (.cells #[.string (D.rnm k),J9 y] 66));rw[hY]at hba hNY;have hbY:=hb.trans (hba.mono hb.size);obtain⟨-,-,w0,-⟩:=quad (hm0.mono hb).bx;obtain⟨-,-,y0,-⟩:=quad (hm0.mono hbY).bx;refine⟨trivial,?_⟩;refine outL (by(first | simp only[Yd,Ye] | skip);rfl) (by(first | simp only[Yd,Ye] | skip);rfl) ?_;refine takeL (i:=5) (v:=.agg #[.string (D.rnm k),J9 y]) 115 rfl rfl (by kernel_rfl) (by kernel_rfl) (by kernel_rfl) (fun _ _ _ _ h=>h) (by rfl) (fun w hS=>by exact q6u 66 #[(0,.tmp 113),(1,.tmp 114)] rfl _ (by kernel_rfl)) zz (by(first | simp only[Yd,Ye] | skip);rfl) (by(first | simp only[Yd,Ye] | skip);rfl) ?_;refine wpAnyH_ready (rs:=[1,6]) (by kernel_rfl) (by simp) (consRun (v:=.slice x k c1) (w':=W1) 111 rfl rfl (by rfl) (by simp[execOp,go_sem,w0]) trivial ?pC (consRun (v:=.slice (some ⟨W1.heap.size,0,none⟩) 1 1) (w':=Y) 116 rfl rfl (by rfl) (by simp[execOp,go_sem,<- hY]) trivial ?pD AllReadyH.nil))
     case' pC =>
      refine outL (by(first | simp only[Yd,Ye] | skip);rfl) (by(first | simp only[Yd,Ye] | skip);rfl) ?_;refine runG (i:=6) (v:=.slice (some ⟨W1.heap.size,0,none⟩) 1 1) (w':=Y) 116 rfl rfl (by rfl) (by kernel_rfl) (by simp[execOp,go_sem,<- hY]) trivial ?_;refine outL (by(first | simp only[Yd,Ye] | skip);rfl) (by(first | simp only[Yd,Ye] | skip);rfl) ?_
     case' pD =>
      refine outL (by(first | simp only[Yd,Ye] | skip);rfl) (by(first | simp only[Yd,Ye] | skip);rfl) ?_;refine runG (i:=1) (v:=.slice x k c1) (w':=Y) 111 rfl rfl (by rfl) (by kernel_rfl) (by simp[execOp,go_sem,y0]) trivial ?_;refine outL (by(first | simp only[Yd,Ye] | skip);rfl) (by(first | simp only[Yd,Ye] | skip);rfl) ?_
     all_goals
      as_aux_lemma =>
      have hm2:=hm0.mono hbY;have hob2:=hob0.mono hbY hob0.lt;have hlt2:=hlt0.mono hbY hlt0.lt;have hsz:=hm2.bl.size;refine appY (i:=7) 117 rfl rfl rfl (by kernel_rfl) (.tmp 111) (.tmp 116) 25 rfl w.heap.size 66 i0 _ 2 24 Tryz.underlying25 hi0 hi1 hi2 hi3 rfl (by omega) (.slice x k c1) k (rV' (rolX len f D k)) rfl (by have:=hm2.ow.r;unfold OwL at this;rw[hLl]at this;exact this) ⟨W1.heap.size,0,none⟩ 1 1 [.string (D.rnm k),J9 y] rfl rfl (fun j u hj=>by rw[show(⟨W1.heap.size,0,none⟩:Addr).add j=⟨W1.heap.size,j,none⟩ by simp[Addr.add];try exact fun h=>h.symm];exact(hNY.cell j).trans hj) (by simp[Value.oneCell']) (by omega) (by unfold maxLen;omega) (by omega) hsz _ rfl ?_;intro g cap W9 ho hgw hq9 hq10;have hb9:Below w.heap.size Y W9:=(bR w.heap.size Y).grown hgw hsz (fun g e=>q87 hm2.ow.r e);have hk9:=hm2.bx.grow hm2.ow.r (by decide) hgw;have HM9:=h_ (hm2.addR (x:=⟨D.rnm k,y⟩) (v':=.slice (some ⟨g,0,none⟩) (k+1) cap) (by show W9.ownsRow _ _ _ _ (rolX len f D k++[(⟨D.rnm k,y⟩:Rl)]).length (rV' (rolX len f D k++[(⟨D.rnm k,y⟩:Rl)]));rw[Yg,hLl];unfold rV';rw[Zq];exact ho) hgw hb9);have HOb9:=h_ ((hob2.grow hm2.ow.r (by decide) hgw).other (a:=⟨R,2,none⟩) (.slice (some ⟨g,0,none⟩) (k+1) cap) h9R);have HLt9:=h_ ((hlt2.grow hm2.ow.r (by decide) hgw).other (a:=⟨R,2,none⟩) (.slice (some ⟨g,0,none⟩) (k+1) cap) h15R);refine⟨trivial,?_⟩;refine outL (by(first | simp only[Yd,Ye] | skip);rfl) (by(first | simp only[Yd,Ye] | skip);rfl) ?_;refine takeL (i:=8) (v:=Yc R 2) 118 rfl rfl (by kernel_rfl) (by kernel_rfl) (by kernel_rfl) (fun _ _ _ _ h=>h) (by rfl) (fun w hS=>by rfl) zz (by(first | simp only[Yd,Ye] | skip);rfl) (by(first | simp only[Yd,Ye] | skip);rfl) ?_;have v0:=hk9.cell 2;have vf:=hk9.free 2;simp only[Yh,Yo]at v0;refine storeY (i:=9) (w':=W9.setCell ⟨R,2,none⟩ (.slice (some ⟨g,0,none⟩) (k+1) cap)) rfl (by rfl) (by kernel_rfl) rfl (by simp[execOp,go_sem,v0,vf]) rfl trivial ?_;refine wpAnyH_done (by kernel_rfl) ?_ _;dsimp only at HM9;rw[<- HLk.u]at HM9;clear zz ho hgw hb9 hk9 v0 vf hm0 hm2 hob0 hob2 hlt0 hlt2 hba hNY hY x0 hb hbY;go_wp2_with fail;go_roundw
      case rel=>exact⟨k+1,q2,_,_,by omega,by go_num,rfl,HQ2.u,HM9.u,HOb9.u,HLt9.u⟩
      case measure=>simp[intOf];omega
   . have hkn':¬ (k:Int)<=(D.nn:Int):=by omega
     have hk2:k=D.nn+1:=(by omega);subst hk2;have HMr:=h_ hm;have HQr:Hi (q=D.p2):=h_ (by rw[hq];unfold SD.p2;omega);clear hm hob hlt hq;go_wp2_with fail;go_meet;exact⟨by rw[HQr.u],_,_,HMr.u⟩
 case rest =>
 as_aux_lemma =>
 obtain⟨rfl,x3,c3,hm⟩:=hcut
 clear HM4 HOb4 HLt HP1 ep1
 have hba:=((bR wc.heap.size wc).alloc (nR _) (.cells #[] 3)).alloc (by simp) (.cells Jm 110)
 have hty0:=World.ownsRow.alloc (qav wc 3) (.cells Jm 110)
 have hbk0:=Blk.new (wc.alloc (.cells #[] 3)) 110 Jm
 rw[Yv]at hbk0
 obtain⟨W5,hW5⟩:=Nq ((wc.alloc (.cells #[] 3)).alloc (.cells Jm 110))
 rw[hW5]at hba hty0 hbk0
 have hBw:=hm.bl.size
 have HMc:=h_ hm
 have HB5:=h_ hba;have HTy0:=h_ hty0;have HBk0:=h_ hbk0
 obtain⟨B,hB⟩:=Nq wc.heap.size
 rw[hB]at HB5 HTy0 HBk0 hBw
 obtain⟨Wb,hWb⟩:=Nq wc
 have HWs:Hi (Wb.heap.size=B):=h_ (by rw[<- hWb];exact hB)
 rw[hWb]at HB5 HMc
 have HW5:=h_ hW5;have HBe:=h_ hB;have HWb:=h_ hWb
 clear hm hba hty0 hbk0 hW5 hB hWb
 go_upto_block 4 with (refine q66 rfl 110 #[] rfl Jm (by kernel_rfl) ?_)
 rw[HW5.u,HBe.u]
 clear HW5 HWb HBe
 go_cut [1,18] from 31 (fun s1 s18 wx=>s1=J9 ((D.p2+flds:Nat):Int)/\∃x18 c18 u1 u2 u3,s18=.slice x18 flds c18/\OwI wx B (.slice x18 flds c18) (tysX len f D flds)/\Blk wx (B+1) 110 [u1,u2,u3]/\OwnK (pkK (tyD len f D) D.fnm flds) wx B u1 u2 u3/\Below B Wb wx)
 case first =>
  as_aux_lemma =>
  go_wp2_with fail;go_loopw [1,13,18,20,21] (fun s1 _ s18 i _ wr=>∃(k q:Nat) (x18:Option Addr) (c18:Nat) (u1 u2 u3:Value),k<=flds/\i=J9 k/\s1=J9 q/\q=D.p2+k/\s18=.slice x18 k c18/\OwI wr B (.slice x18 k c18) (tysX len f D k)/\Blk wr (B+1) 110 [u1,u2,u3]/\OwnK (pkK (tyD len f D) D.fnm k) wr B u1 u2 u3/\Below B Wb wr) (fun _ _ _ i _ _=>flds - (intOf i).toNat)
  case atStart=>exact⟨0,D.p2,_,0,_,_,_,nZ _,rfl,rfl,rfl,rfl,HTy0.u,HBk0.u,OwnK.nil (fun _=>rfl),HB5.u⟩
  case round =>
   clear HTy0 HBk0 HB5;obtain⟨k,q,x18,c18,u1,u2,u3,hk,rfl,rfl,hq,rfl,hty,hbk,hok,hbw⟩:=hrel;by_cases hlt:k<flds
   . have hlt':(k:Int)<(flds:Int):=by omega
     obtain⟨q1,hq1⟩:=Nq (q+1);have e1:(q:Int)+1=(q1:Int):=(by omega);obtain⟨T,hT⟩:=Nq (tkD len f q 6);have HTd:Hi (tyD len f D k=tyX T):=h_ (by unfold tyD;rw[<- hq,hT]);have HQ1:Hi (q1=D.p2+(k+1)):=h_ (by omega);have hp2b:D.p2<=2000:=(by unfold SD.p2;omega);have hqb:q<=3000:=(by omega);have hT6:T<6:=(by rw[<- hT];exact tk_lt hlen (by omega) (by omega) (by omega));have HT:=h_ hT;have HTy:=h_ hty;have HBk:=h_ hbk;have HKk:=h_ hok;have HBw:=h_ hbw;clear hT hq hq1 hty hbk hok hbw;go_wp2_with fail;refine(qju (p:=q) (n:=6) hlen (by omega) (by omega) (by omega) c (HBy.u wr (HMc.u.bl.trans (HBw.u.mono (by omega)))) rfl rfl).mono ?_;rintro e w' ⟨rfl,hw'⟩;subst hw';rw[HT.u];clear HT;go_upto_region 31 with fail
     go_cut [137] from 121 to 148 (fun s wx=>s=.bool (decide (T=3∨T=4))/\wx=w')
     case first =>
      as_aux_lemma =>
      by_cases h3:T=3
      . subst h3
        rw[show((3:Nat):Int)=3 from rfl];go_wp2_with fail;go_meet;exact⟨rfl,rfl⟩
      . have h3':((T:Int)==3)=false:=Yf.2 (by omega)
        by_cases h4:T=4
        . subst h4
          rw[show((4:Nat):Int)=4 from rfl];go_wp2_with fail;go_meet;exact⟨rfl,rfl⟩
        . have h4':((T:Int)==4)=false:=Yf.2 (by omega)
          go_wp2_with fail;go_meet;exact⟨congrArg Value.bool (Yi (show ¬ (T=3∨T=4) by omega)).symm,rfl⟩
     case rest =>
     as_aux_lemma =>
     obtain⟨rfl,rfl⟩:=hcut;go_upto_if 137 with fail
     go_cut [21] from 121 to 148 (fun s wx=>s=J9 (if T=3∨T=4 then 2 else 1)/\wx=wc)
     case first =>
      as_aux_lemma =>
      by_cases h:T=3∨T=4
      . have Hh:=h_ h
        rw[Ym h];clear h;go_wp2_with fail;go_meet;exact⟨by rw[Yy Hh.u],rfl⟩
      . have Hh:=h_ h
        rw[Yi h];clear h;go_wp2_with fail;go_meet;exact⟨by rw[Yu Hh.u],rfl⟩
     case rest =>
     as_aux_lemma =>
     obtain⟨rfl,rfl⟩:=hcut;go_upto_if 139 with fail
     go_cut [21] from 121 to 148 (fun s wx=>s=J9 (tyD len f D k)/\wx=wc)
     case first =>
      as_aux_lemma =>
      by_cases h:T=5
      . subst h
        rw[show((5:Nat):Int)=5 from rfl];go_wp2_with fail;go_meet;exact⟨by rw[HTd.u];rfl,rfl⟩
      . have h':((T:Int)==5)=false:=Yf.2 (by omega)
        have HTt:Hi (tyX T=if T=3∨T=4 then 2 else 1):=h_ (by unfold tyX;rw[Yu h]);obtain⟨z,hz⟩:∃z:Int,(if T=3∨T=4 then 2 else 1)=z:=⟨_,rfl⟩;rw[hz]at HTt⊢;clear hz;go_wp2_with fail;go_meet;exact⟨by rw[HTd.u,HTt.u],rfl⟩
     case rest =>
     as_aux_lemma =>
     obtain⟨rfl,rfl⟩:=hcut;obtain⟨t,ht⟩:=Nq (tyD len f D k);have HT3:Hi (t=1∨t=2∨t=3):=h_ (by rw[<- ht];exact tyX_in _);have HTs:Hi (tysX len f D (k+1)=tysX len f D k++[t]):=h_ (by rw[<- ht];exact qed _ _);have HKs:Hi (pkK (tyD len f D) D.fnm (k+1)=addK (pkK (tyD len f D) D.fnm k) t (D.fnm k)):=h_ (by rw[<- ht];rfl);have hTl:(tysX len f D k).length=k:=qj5 _ _;rw[ht];clear ht HTd hT6;have hba:=(bR wc.heap.size wc).alloc (nR _) (.cells #[J9 t] 3);have HN:Hi (Blk _ _ 3 [J9 t]):=h_ (Blk.new wc 3 #[J9 t]);have HTy2:Hi (OwI (wc.alloc (.cells #[J9 t] 3)) B (.slice x18 k c18) (tysX len f D k)):=h_ (qap HTy.u hba);have HBk2:=h_ (HBk.u.mono hba HBk.u.lt);have HKk2:=h_ (HKk.u.keep hba);have HBw2:=h_ (HBw.u.trans (hba.mono (show B<=wc.heap.size by have:=HBw.u.size;have:=HWs.u;omega)));have hsz:B<=(wc.alloc (.cells #[J9 t] 3)).heap.size:=(by have:=HBw.u.size;have:=HWs.u;have:=hba.size;omega);clear hba;go_wp2_with (at_builtin;refine qc1 (n:=t) rfl _ _ rfl rfl HTy2.u rfl HN.u (by rw[hTl];omega) hsz ?_);intro v' W4 ho4 hg4 hb4;have hsz4:B<=W4.heap.size:=Ys hsz hb4.size;have HBk4:=h_ (HBk2.u.grow HTy2.u (by decide) hg4);have HKk4:=h_ (HKk2.u.grow HTy2.u (by decide) hg4);have HBw4:=h_ (HBw2.u.trans hb4);rw[<- HTs.u]at ho4;obtain⟨y18,d18,rfl,-,-⟩:=q8b ho4;have hTl':(tysX len f D (k+1)).length=k+1:=qj5 _ _;have hty4:OwI W4 B (.slice y18 (k+1) d18) (tysX len f D (k+1)):=by
      try rw[hTl']at ho4
      unfold OwI;rw[hTl'];exact ho4
     have HTy4:=h_ hty4;clear hty4
     try rw[hTl']
     clear ho4 hg4 hb4 hsz HBk2 HKk2 HBw2 HTy2 HN HTy HBk HKk HBw;have HCn:=h_ fun W=>HOk.u.cN k (by omega) W;have hKl:∀i,(pkK (tyD len f D) D.fnm k i).length<=100000:=fun i=>by have:=(pkK_in (ty:=tyD len f D) (nm:=D.fnm) k i).1;omega
     have HKl:=h_ hKl;clear hKl hTl hTl';go_upto_region 36 with fail
     have hbk0:Blk W4.drew (B+1) 110 [u1,u2,u3]:=HBk4.u;have hok0:=HKk4.u.keep (bR _ _).drew;have hty0:OwI W4.drew B (.slice y18 (k+1) d18) (tysX len f D (k+1)):=qap HTy4.u (bR _ _).drew;have hbw0:=HBw4.u.drew;have hsz0:B<=W4.drew.heap.size:=hsz4;clear HBk4 HKk4 HTy4 HBw4;obtain⟨X,hX⟩:=Nq W4.drew;refine wp_region_held_drew (S:=fun _=>True) (by kernel_rfl) trivial (fun zz=>?_);rw[hX]at hbk0 hok0 hty0 hbw0 hsz0;obtain⟨x1',n1',c1',x2',n2',c2',x3',n3',c3',rfl,rfl,rfl⟩:=hok0.slices;obtain⟨b0,b1,b2⟩:=three hbk0;refine takeL (i:=1) (v:=J9 t) 145 rfl rfl (by kernel_rfl) (by kernel_rfl) (by kernel_rfl) (fun _ _ _ _ h=>h) (by rfl) (fun w hS=>by rfl) zz (by(first | simp only[Yd,Ye] | skip);rfl) (by(first | simp only[Yd,Ye] | skip);rfl) ?_;refine takeL (i:=2) (v:=J9 k) 146 rfl rfl (by kernel_rfl) (by kernel_rfl) (by kernel_rfl) (fun _ _ _ _ h=>h) (by rfl) (fun w hS=>by rfl) zz (by(first | simp only[Yd,Ye] | skip);rfl) (by(first | simp only[Yd,Ye] | skip);rfl) ?_;rw[hX];refine wpAnyH_ready (rs:=[0,3]) (by kernel_rfl) (by simp) (consRun (v:=.agg (Jk x1' n1' c1' x2' n2' c2' x3' n3' c3')) (w':=X) 144 rfl rfl (by rfl) (by simp[execOp,go_sem,b0,b1,b2]) trivial ?rA (consCall (f:=72) (args:=(Jt k)) (R:=fun u wz=>u=.string (D.fnm k)/\Below X.heap.size X wz) 147 rfl rfl (by rfl) (by simp[execOp,go_sem]) ((HCn.u X).mono fun e w6 ⟨he,hb⟩=>⟨_,he,rfl,hb⟩) ?rB AllReadyH.nil))
     case' rA =>
      refine outL (by(first | simp only[Yd,Ye] | skip);rfl) (by(first | simp only[Yd,Ye] | skip);rfl) ?_;refine callY (i:=3) (f:=72) (args:=(Jt k)) (R:=fun u wz=>u=.string (D.fnm k)/\Below X.heap.size X wz) 147 rfl rfl (by rfl) (by kernel_rfl) (by simp[execOp,go_sem]) ((HCn.u X).mono fun e w6 ⟨he,hb⟩=>⟨_,he,rfl,hb⟩) ?_;rintro u W1 ⟨rfl,hb⟩;refine⟨trivial,?_⟩;refine outL (by(first | simp only[Yd,Ye] | skip);rfl) (by(first | simp only[Yd,Ye] | skip);rfl) ?_
     case' rB =>
      rintro u W1 ⟨rfl,hb⟩;obtain⟨d0,d1,d2⟩:=three (hbk0.mono hb hbk0.lt);refine⟨trivial,?_⟩;refine outL (by(first | simp only[Yd,Ye] | skip);rfl) (by(first | simp only[Yd,Ye] | skip);rfl) ?_;refine runG (i:=0) (v:=.agg (Jk x1' n1' c1' x2' n2' c2' x3' n3' c3')) (w':=W1) 144 rfl rfl (by rfl) (by kernel_rfl) (by simp[execOp,go_sem,d0,d1,d2]) trivial ?_;refine outL (by(first | simp only[Yd,Ye] | skip);rfl) (by(first | simp only[Yd,Ye] | skip);rfl) ?_
     all_goals
      as_aux_lemma =>
      have hok1:=hok0.keep hb;have hbk1:=hbk0.mono hb hbk0.lt;have hty1:OwI W1 B (.slice y18 (k+1) d18) (tysX len f D (k+1)):=qap hty0 hb;have hsz1:B<=W1.heap.size:=Ys hsz0 hb.size;have hbw1:=hbw0.trans (hb.mono hsz0);refine callY (i:=4) (f:=71) (args:=#[.agg (Jk x1' n1' c1' x2' n2' c2' x3' n3' c3'),J9 t,.string (D.fnm k)]) (R:=fun u wz=>∃z1 z2 z3,u=.agg #[z1,z2,z3]/\OwnK (addK (pkK (tyD len f D) D.fnm k) t (D.fnm k)) wz B z1 z2 z3/\Kpt (.slice x1' n1' c1') (.slice x2' n2' c2') (.slice x3' n3' c3') W1 wz) 148 rfl rfl (by rfl) (by kernel_rfl) (by simp[execOp,go_sem]) ((q7h t HT3.u (D.fnm k) HKl.u hok1 hsz1).mono fun e w6 ⟨z1,z2,z3,he,h1,h2⟩=>⟨_,he,z1,z2,z3,rfl,h1,h2⟩) ?_;rintro u W2 ⟨z1,z2,z3,rfl,hok2,hkp⟩;have hbk2:=hkp.blk hok1 hbk1 (by decide);have hty2:OwI W2 B (.slice y18 (k+1) d18) (tysX len f D (k+1)):=hkp.own hok1 hty1 (by decide);have hbw2:=hbw1.trans (hkp.below hok1 hsz1);obtain⟨g1,m1,d1',g2,m2,d2',g3,m3,d3',rfl,rfl,rfl⟩:=hok2.slices;have HTy9:Hi (OwI (W2.setRow (B+1) (Jk g1 m1 d1' g2 m2 d2' g3 m3 d3')) B (.slice y18 (k+1) d18) (tysX len f D (k+1))):=h_ (qij hty2 hbk2 (by decide) (fun j hj=>setRow_other _ _ _ _ hj));have HBk9:=h_ (hbk2.row [.slice g1 m1 d1',.slice g2 m2 d2',.slice g3 m3 d3']);have HKk9:=h_ (hok2.one hbk2 (by decide) (fun j hj=>setRow_other W2 (B+1) j (Jk g1 m1 d1' g2 m2 d2' g3 m3 d3') hj));have HBw9:=h_ (below_setRow hbw2 (show B<=B+1 by omega) (Jk g1 m1 d1' g2 m2 d2' g3 m3 d3'));rw[<- HKs.u]at HKk9;refine⟨trivial,?_⟩;refine outL (by(first | simp only[Yd,Ye] | skip);rfl) (by(first | simp only[Yd,Ye] | skip);rfl) ?_;refine storeY (i:=5) (w':=W2.setRow (B+1) (Jk g1 m1 d1' g2 m2 d2' g3 m3 d3')) rfl (by rfl) (by kernel_rfl) rfl (q1g 110 (.tmp 19) (.tmp 148) rfl (B+1) _ rfl rfl 110 _ hbk2 (by kernel_rfl) rfl (by simp[Value.oneCell'])) rfl trivial ?_;refine wpAnyH_done (by kernel_rfl) ?_ _;clear zz hok0 hok1 hok2 hbk0 hbk1 hbk2 hty0 hty1 hty2 hbw0 hbw1 hbw2 hkp hb b0 b1 b2;go_wp2_with fail;go_roundw
      case rel=>exact⟨k+1,q1,_,_,_,_,_,by omega,by go_num,rfl,HQ1.u,rfl,HTy9.u,HBk9.u,HKk9.u,HBw9.u⟩
      case measure=>first | exact qi2 hlt | (simp[intOf];omega)
   . have hlt':¬ (k:Int)<(flds:Int):=by omega
     obtain rfl:k=flds:=(by omega);subst hq;have HTy:=h_ hty;have HBk:=h_ hbk;have HKk:=h_ hok;have HBw:=h_ hbw;clear hty hbk hok hbw;go_wp2_with fail;go_meet;exact⟨rfl,_,_,_,_,_,rfl,HTy.u,HBk.u,HKk.u,HBw.u⟩
 case rest =>
 as_aux_lemma =>
 obtain⟨rfl,x18,c18,u1,u2,u3,rfl,hty,hbk,hok,hbw⟩:=hcut
 clear HTy0 HBk0 HB5
 have hm:=HMc.u.mono (show Below Wb.heap.size Wb wc by rw[HWs.u];exact hbw)
 have hba:=(bR wc.heap.size wc).alloc (nR _) (.cells Jm 110)
 have hb4:=Blk.new wc 110 Jm
 obtain⟨W6,hW6⟩:=Nq (wc.alloc (.cells Jm 110))
 rw[hW6]at hba hb4
 have HM6:=h_ (hm.mono hba)
 have hs6:W6.heap.size=wc.heap.size+1:=by rw[<- hW6];simp
 have hTl:(tysX len f D flds).length=flds:=qj5 _ _
 have HE6:Hi (En4 (tysX len f D flds) (pkK (tyD len f D) D.fnm flds) (pkK (tyD len f D) D.fnm 0) B wc.heap.size (.slice x18 flds c18) u1 u2 u3 Ya Ya Ya W6):=h_ ⟨qap hty hba,hbk.mono hba hbk.lt,hok.keep hba,hb4,OwnK.nil (fun _=>rfl),hbk.lt,hok.low.1,hok.low.2.1,hok.low.2.2⟩
 have HL1:Hi (∀q,(Value.slice x1 D.N cl).ownBlock=some q->q<wc.heap.size):=h_ fun q e=>qig hm.ow.l e
 have hwc:w.heap.size<wc.heap.size:=by have:=hm.bx.lt;omega
 have hRc:R<wc.heap.size:=hm.bx.lt
 have hBR:B+1≠R:=by have:=HMc.u.bx.lt;have:=HWs.u;omega
 have hS6:wc.heap.size<=W6.heap.size:=by omega
 obtain⟨B4,hB4⟩:=Nq wc.heap.size
 rw[hB4]at HE6 HL1 hwc hRc hS6
 have HW6:=h_ hW6;have HB4:=h_ hB4
 clear hty hbk hok hbw hm hba hb4 hs6 HMc HWs hBw hW6 hB4
 go_upto_block 6 with (refine q66 rfl 110 #[] rfl Jm (by kernel_rfl) ?_)
 rw[HW6.u,HB4.u]
 clear HW6 HB4
 go_cut [1] from 31 (fun s1 wx=>s1=J9 (D.pq flds)/\∃x4 c4 P,MMk R (fmX len f D (D.FL 0)) P (.slice x1 D.N cl) (.slice xp D.lp.length cp) (.slice x3 (D.nn+1) c3) (.slice x4 flds c4) w wx)
 case first =>
  as_aux_lemma =>
  go_wp2_with fail;go_loopw [1,23,24] (fun s1 i _ wr=>∃(k:Nat) (x4:Option Addr) (c4:Nat) (P:List (Fl × FA)) (z1 z2 z3:Value),k<=flds/\i=J9 k/\s1=J9 (D.pq k)/\MMk R ⟨D.lab D.N,D.lp,rolX len f D (D.nn+1),(List.range k).map D.g⟩ P (.slice x1 D.N cl) (.slice xp D.lp.length cp) (.slice x3 (D.nn+1) c3) (.slice x4 k c4) w wr/\En4 (tysX len f D flds) (pkK (tyD len f D) D.fnm flds) (pkK (tyD len f D) D.fnm k) B B4 (.slice x18 flds c18) u1 u2 u3 z1 z2 z3 wr/\B4<=wr.heap.size) (fun _ i _ _=>flds - (intOf i).toNat)
  case atStart=>exact⟨0,none,0,[],_,_,_,nZ _,rfl,(by rw[HOk.u.pq0];first | rfl | simp),HM6.u,HE6.u,hS6⟩
  case round =>
   clear HM6 HE6 hS6;obtain⟨k,x4,c4,P,z1,z2,z3,hk,rfl,rfl,hm,he,hsr⟩:=hrel;have hPl:P.length=k:=by have:=congrArg List.length hm.ow.e;simpa using this.symm
   by_cases hlt:k<flds
   . have hlt':(k:Int)<(flds:Int):=by omega
     obtain⟨bt,ot,ex18,hbt,zt⟩:=he.at (x:=x18) (c:=c18) (by rw[hTl]) (k:=k) (by omega);have ht:(tysX len f D flds).getD k 0=tyD len f D k:=(by unfold tysX;rw[Yl,Zk,Oc hlt];rfl);rw[ht]at zt;subst ex18;obtain⟨t,htt⟩:=Nq (tyD len f D k);have HT3:Hi (t=1∨t=2∨t=3):=h_ (by rw[<- htt];exact tyX_in _);have HKs:Hi (pkK (tyD len f D) D.fnm (k+1)=addK (pkK (tyD len f D) D.fnm k) t (D.fnm k)):=h_ (by rw[<- htt];rfl);have HKl:Hi (∀i,(pkK (tyD len f D) D.fnm k i).length<=100000):=h_ fun i=>by have:=(pkK_in (ty:=tyD len f D) (nm:=D.fnm) k i).1;omega
     have HCf:=h_ (HOk.u.cF k hlt);have HGn:=h_ (HOk.u.gnm k hlt);have HGs:Hi ((List.range (k+1)).map D.g=(List.range k).map D.g++[D.g k]):=h_ (qed _ _);have hpk:=HOk.u.hpq k (by omega);rw[htt]at zt HCf;clear ht htt;obtain⟨px1,pn1,pk1,px2,pn2,pk2,px3,pn3,pk3,rfl,rfl,rfl⟩:=he.bk.slices;obtain⟨ax1,an1,ak1,ax2,an2,ak2,ax3,an3,ak3,rfl,rfl,rfl⟩:=he.ak.slices;have hal:=(bR wr.heap.size wr).alloc (nR _) (.cells Je 42);have hF0:=Blk.new wr 42 Je;obtain⟨W1,hW1⟩:=Nq (wr.alloc (.cells Je 42));rw[hW1]at hal hF0;obtain⟨X,hX⟩:=Nq W1.drew;have hbX:Below wr.heap.size wr X:=(by rw[<- hX];exact hal.drew);have hFX:Blk X wr.heap.size 42 [Yb,J9 0,J9 0,Ya,Ya,Ya,Ya,Yb,Ya]:=(by rw[<- hX];exact hF0);have hXs:X.heap.size=wr.heap.size+1:=(by rw[<- hX,<- hW1];show(wr.alloc _).heap.size=_;simp);have hv4:∀q,(Value.slice x4 k c4).ownBlock=some q->q<wr.heap.size:=fun q e=>qig hm.ow.f.row e;obtain⟨B24,hB24⟩:=Nq wr.heap.size;rw[hB24]at hbX hFX hXs hv4 hbt hsr;have HM:=h_ hm;have HE:=h_ he;have HBX:=h_ hbX;have HFX:=h_ hFX;have HV4:=h_ hv4;have hmX:=hm.mono (show Below wr.heap.size wr X by rw[hB24];exact hbX);have heX:=he.mono (show Below wr.heap.size wr X by rw[hB24];exact hbX);have ztX:X.cell? ⟨bt,ot+k,none⟩=some (J9 t):=(hbX.cell (p:=⟨bt,ot+k,none⟩) hbt).trans zt;have HB24:=h_ hB24;have HCX:=h_ (HCf.u X a c x1 xp x3 x4 cl D.lp.length cp c3 k c4 _ _ (HBy.u X hmX.bl) heX.bk.pick heX.ak.pick);clear hm he hal hF0 hbX hFX hv4 hB24 zt HCf;go_upto_region 42 with fail
     rw[HB24.u]
     try rw[hW1]
     refine wp_region_held_drew (S:=fun W'=>Blk W' R 28 [.slice x1 D.N cl,.slice xp D.lp.length cp,.slice x3 (D.nn+1) c3,.slice x4 k c4]/\Blk W' B4 110 [.slice px1 pn1 pk1,.slice px2 pn2 pk2,.slice px3 pn3 pk3]/\Blk W' (B+1) 110 [.slice ax1 an1 ak1,.slice ax2 an2 ak2,.slice ax3 an3 ak3]/\W'.cell? ⟨bt,ot+k,none⟩=some (J9 t)) (by kernel_rfl) (by rw[hX];exact⟨hmX.bx,heX.bb,heX.ab,ztX⟩) (fun zz=>?_);rw[hX]at zz⊢;refine takeL (i:=0) (v:=.slice a len c) 156 rfl rfl (by kernel_rfl) (by kernel_rfl) (by kernel_rfl) (fun _ _ _ _ h=>h) (by rfl) (fun w hS=>by rfl) zz (by(first | simp only[Yd,Ye] | skip);rfl) (by(first | simp only[Yd,Ye] | skip);rfl) ?_;refine takeL (i:=1) (v:=J9 (D.pq k)) 157 rfl rfl (by kernel_rfl) (by kernel_rfl) (by kernel_rfl) (fun _ _ _ _ h=>h) (by rfl) (fun w hS=>by rfl) zz (by(first | simp only[Yd,Ye] | skip);rfl) (by(first | simp only[Yd,Ye] | skip);rfl) ?_;refine takeL (i:=2) (v:=.agg (Jh x1 D.N cl xp D.lp.length cp x3 (D.nn+1) c3 x4 k c4)) 158 rfl rfl (by kernel_rfl) (by kernel_rfl) (by kernel_rfl) (fun _ _ _ _ h=>h) (by rfl) (fun w hS=>by obtain⟨q0,q1,q2,q3⟩:=quad hS.1;simp[execOp,go_sem,q0,q1,q2,q3]) zz (by(first | simp only[Yd,Ye] | skip);rfl) (by(first | simp only[Yd,Ye] | skip);rfl) ?_;refine takeL (i:=3) (v:=J9 k) 159 rfl rfl (by kernel_rfl) (by kernel_rfl) (by kernel_rfl) (fun _ _ _ _ h=>h) (by rfl) (fun w hS=>by rfl) zz (by(first | simp only[Yd,Ye] | skip);rfl) (by(first | simp only[Yd,Ye] | skip);rfl) ?_;refine takeL (i:=4) (v:=.slice (some ⟨bt,ot,none⟩) flds c18) 160 rfl rfl (by kernel_rfl) (by kernel_rfl) (by kernel_rfl) (fun _ _ _ _ h=>h) (by rfl) (fun w hS=>by rfl) zz (by(first | simp only[Yd,Ye] | skip);rfl) (by(first | simp only[Yd,Ye] | skip);rfl) ?_;refine takeL (i:=5) (v:=J9 k) 161 rfl rfl (by kernel_rfl) (by kernel_rfl) (by kernel_rfl) (fun _ _ _ _ h=>h) (by rfl) (fun w hS=>by rfl) zz (by(first | simp only[Yd,Ye] | skip);rfl) (by(first | simp only[Yd,Ye] | skip);rfl) ?_;refine takeL (i:=6) (v:=Yc bt (ot+k)) 162 rfl rfl (by kernel_rfl) (by kernel_rfl) (by kernel_rfl) (fun _ _ _ _ h=>h) (by rfl) (fun w hS=>by simp[execOp,go_sem,hlt']) zz (by(first | simp only[Yd,Ye] | skip);rfl) (by(first | simp only[Yd,Ye] | skip);rfl) ?_;refine takeL (i:=7) (v:=J9 t) 163 rfl rfl (by kernel_rfl) (by kernel_rfl) (by kernel_rfl) (fun _ _ _ _ h=>h) (by rfl) (fun w hS=>by have q0:=hS.2.2.2;simp[execOp,go_sem,q0]) zz (by(first | simp only[Yd,Ye] | skip);rfl) (by(first | simp only[Yd,Ye] | skip);rfl) ?_;refine takeL (i:=8) (v:=.agg (Jk px1 pn1 pk1 px2 pn2 pk2 px3 pn3 pk3)) 164 rfl rfl (by kernel_rfl) (by kernel_rfl) (by kernel_rfl) (fun _ _ _ _ h=>h) (by rfl) (fun w hS=>by obtain⟨q0,q1,q2⟩:=three hS.2.1;simp[execOp,go_sem,q0,q1,q2]) zz (by(first | simp only[Yd,Ye] | skip);rfl) (by(first | simp only[Yd,Ye] | skip);rfl) ?_;refine takeL (i:=9) (v:=.agg (Jk ax1 an1 ak1 ax2 an2 ak2 ax3 an3 ak3)) 165 rfl rfl (by kernel_rfl) (by kernel_rfl) (by kernel_rfl) (fun _ _ _ _ h=>h) (by rfl) (fun w hS=>by obtain⟨q0,q1,q2⟩:=three hS.2.2.1;simp[execOp,go_sem,q0,q1,q2]) zz (by(first | simp only[Yd,Ye] | skip);rfl) (by(first | simp only[Yd,Ye] | skip);rfl) ?_;refine callY (i:=10) (f:=73) (args:=#[.slice a len c,J9 (D.pq k),.agg (Jh x1 D.N cl xp D.lp.length cp x3 (D.nn+1:Nat) c3 x4 k c4),J9 k,J9 t,.agg (Jk px1 pn1 pk1 px2 pn2 pk2 px3 pn3 pk3),.agg (Jk ax1 an1 ak1 ax2 an2 ak2 ax3 an3 ak3)]) (R:=fun u wz=>∃A,u=.tuple #[fV (D.g k) A,J9 (D.pq (k+1))]/\FOw wz X.heap.size (D.g k) A/\Below X.heap.size X wz) 166 rfl rfl (by rfl) (by kernel_rfl) (by simp[execOp,go_sem]) (HCX.u.mono fun e w6 ⟨A,he,h1,h2⟩=>⟨_,he,A,rfl,h1,h2⟩) ?_;rintro u W2 ⟨A,rfl,hfo,hb2⟩;have hm2:=hmX.mono hb2;have he2:=heX.mono hb2;have hFb:Blk W2 B24 42 [Yb,J9 0,J9 0,Ya,Ya,Ya,Ya,Yb,Ya]:=HFX.u.mono hb2 HFX.u.lt;have zt2:W2.cell? ⟨bt,ot+k,none⟩=some (J9 t):=(hb2.cell (p:=⟨bt,ot+k,none⟩) (show bt<X.heap.size by omega)).trans ztX;have zz:=And.intro hm2.bx (And.intro he2.bb (And.intro he2.ab zt2));refine⟨zz,?_⟩;refine outL (by(first | simp only[Yd,Ye] | skip);rfl) (by(first | simp only[Yd,Ye] | skip);rfl) ?_;refine takeL (i:=11) (v:=.tuple #[fV (D.g k) A,J9 (D.pq (k+1))]) 155 rfl rfl (by kernel_rfl) (by kernel_rfl) (by kernel_rfl) (fun _ _ _ _ h=>h) (by rfl) (fun w hS=>by rfl) zz (by(first | simp only[Yd,Ye] | skip);rfl) (by(first | simp only[Yd,Ye] | skip);rfl) ?_;refine takeL (i:=12) (v:=fV (D.g k) A) 167 rfl rfl (by kernel_rfl) (by kernel_rfl) (by kernel_rfl) (fun _ _ _ _ h=>h) (by rfl) (fun w hS=>by rfl) zz (by(first | simp only[Yd,Ye] | skip);rfl) (by(first | simp only[Yd,Ye] | skip);rfl) ?_;refine takeL (i:=13) (v:=J9 (D.pq (k+1))) 168 rfl rfl (by kernel_rfl) (by kernel_rfl) (by kernel_rfl) (fun _ _ _ _ h=>h) (by rfl) (fun w hS=>by rfl) zz (by(first | simp only[Yd,Ye] | skip);rfl) (by(first | simp only[Yd,Ye] | skip);rfl) ?_;have hb3:Below B24 wr (W2.setRow B24 (fCs (D.g k) A).toArray):=below_setRow (HBX.u.trans (hb2.mono (by omega))) (nR _) _;have hB4:B4<B24:=(by have:=HE.u.bb.lt;have:=HB24.u;omega);have hB1:=HE.u.lo;have hm3:=HM.u.mono (show Below wr.heap.size wr _ by rw[HB24.u];exact hb3);have he3:=HE.u.mono (show Below wr.heap.size wr _ by rw[HB24.u];exact hb3);have hf3:Blk (W2.setRow B24 (fCs (D.g k) A).toArray) B24 42 (fCs (D.g k) A):=hFb.row _;have hfo3:FOw (W2.setRow B24 (fCs (D.g k) A).toArray) w.heap.size (D.g k) A:=(hfo.one hFb (by decide) (by decide) (fun j hj=>setRow_other _ _ _ _ hj)).low (by omega);have zt3:(W2.setRow B24 (fCs (D.g k) A).toArray).cell? ⟨bt,ot+k,none⟩=some (J9 t):=(q1c _ (show bt≠B24 by omega)).trans zt2;refine storeY (i:=14) (w':=W2.setRow B24 (fCs (D.g k) A).toArray) rfl (by rfl) (by kernel_rfl) rfl (q1g 42 (.tmp 24) (.tmp 167) rfl B24 (fCs (D.g k) A).toArray rfl rfl 42 _ hFb (by kernel_rfl) rfl (by simp[fCs,Value.oneCell'])) rfl ⟨hm3.bx,he3.bb,he3.ab,zt3⟩ ?_;have zz:=And.intro hm3.bx (And.intro he3.bb (And.intro he3.ab zt3));refine outB (by(first | simp only[Yd,Ye] | skip);rfl) ?_;refine takeL (i:=15) (v:=J9 (D.pq (k+1))) 1 rfl rfl (by kernel_rfl) (by kernel_rfl) (by kernel_rfl) (fun _ _ _ _ h=>h) (by rfl) (fun w hS=>by rfl) zz (by(first | simp only[Yd,Ye] | skip);rfl) (by(first | simp only[Yd,Ye] | skip);rfl) ?_;refine wpAnyH_done (by kernel_rfl) ?_ _;obtain⟨W3,hW3⟩:=Nq (W2.setRow B24 (fCs (D.g k) A).toArray);rw[hW3]at hm3 he3 hf3 hfo3⊢;clear zz hW3 hb3 zt3 zt2 ztX hFb hm2 he2 hb2 hfo hmX heX HFX HBX HM HE HCX hW1 hX hXs hbt;obtain⟨g,hg⟩:=Nq (D.g k);rw[hg]at hf3 hfo3 HGn HGs;have hal:=(bR W3.heap.size W3).alloc (nR _) (.cells (Ja g A.b A.bc A.i A.ic A.h A.hc A.v A.vc A.u A.uc) 42);have hN4:Blk _ _ 42 (Jo g A.b A.bc A.i A.ic A.h A.hc A.v A.vc A.u A.uc):=Blk.new W3 42 (Ja g A.b A.bc A.i A.ic A.h A.hc A.v A.vc A.u A.uc);have hm4:=hm3.mono hal;have he4:=he3.mono hal;have hf4:=hf3.mono hal hf3.lt;have hfo4:=hfo3.mono hal;obtain⟨y0,y1,y2,y3⟩:=quad hm3.bx;have HRg:=h_ hf3.rng;have HM4:=h_ hm4;have HE4:=h_ he4;have HF4:=h_ hf4;have HFo4:=h_ hfo4;have HN4:=h_ hN4;have hsz4:w.heap.size<=(W3.alloc (.cells (Ja g A.b A.bc A.i A.ic A.h A.hc A.v A.vc A.u A.uc) 42)).heap.size:=hm4.bl.size;have HG:=h_ hg;unfold fV;rw[hg];clear hm3 he3 hf3 hfo3 hal hm4 he4 hf4 hfo4 hN4 hg;go_wp2_with (first | (at_builtin;refine qc0 (n:=(g,A)) rfl _ _ rfl rfl HM4.u.ow.f.row rfl HN4.u (by omega) hsz4 ?_) | refine wpList_load_mid rfl 42 (.tmp 24) rfl B24 0 rfl (fCs g A) _ HRg.u Tryz.underlying42 rfl (by kernel_rfl) ?_ | refine qfr rfl (.tmp 171) rfl rfl ?_);intro v' W5 ho5 hg5 hb5;have hlen5:(P++[(g,A)]).length=k+1:=(by rw[Yg,hPl];rfl);have ho6:W5.ownsRow w.heap.size 42 9 v' (k+1) (fdV (P++[(g,A)])):=(by first | exact ho5 | (rw[hlen5]at ho5;exact ho5));obtain⟨y4,d4,rfl,-,-⟩:=q8b ho6;have hM5:=HM4.u.addF (x:=(g,A)) (by rw[hlen5];exact ho6) hg5 HFo4.u hb5;have hk5:=HM4.u.bx.grow HM4.u.ow.f.row (by decide) hg5;have hE5:=HE4.u.grow HM4.u.ow.f.row hg5;have hF5:Blk W5 B24 42 (fCs g A):=(hg5.block _ HF4.u.lt (fun e=>by have:=HV4.u _ e.symm;omega)).trans HF4.u;have hE6:=hE5.one hk5 (fun j hj=>heap_setCell_other W5 ⟨R,3,none⟩ j (.slice y4 (k+1) d4) hj) hBR (show B4≠R by omega);have hF6:Blk (W5.setCell ⟨R,3,none⟩ (.slice y4 (k+1) d4)) B24 42 (fCs g A):=hF5.other _ (show B24≠R by omega);have hs6:B4<=(W5.setCell ⟨R,3,none⟩ (.slice y4 (k+1) d4)).heap.size:=Nat.le_of_lt hE6.bb.lt;dsimp only at hM5;rw[<- HGs.u]at hM5;obtain⟨W6,hW6⟩:=Nq (W5.setCell ⟨R,3,none⟩ (.slice y4 (k+1) d4));rw[hW6]at hM5 hE6 hF6 hs6;have v3:=hk5.cell 3;have vf:=hk5.free 3;simp only[Yh,Yo]at v3;have HM6:=h_ hM5;have HE6:=h_ hE6;have HF6:=h_ hF6;have HW6:=h_ hW6;clear ho5 ho6 hg5 hb5 hM5 hk5 hE5 hE6 hF5 hF6 hW6 HM4 HE4 HF4 HFo4 HN4 hsz4 y0 y1 y2 y3 HRg HV4;go_upto_region 44 with fail
     rw[HW6.u];clear HW6 v3 vf;obtain⟨X,hX⟩:=Nq W6.drew;have hmX:=HM6.u.mono (bR _ _).drew;have heX:=HE6.u.mono (bR _ _).drew;have hfX:Blk W6.drew B24 42 (fCs g A):=HF6.u;have hsX:B4<=W6.drew.heap.size:=hs6;rw[hX]at hmX heX hfX hsX;have hTk:k<(tysX len f D flds).length:=(by omega);have htg:(tysX len f D flds).getD k 0=tyD len f D k:=(by unfold tysX;rw[Yl,Zk,Oc hlt];rfl);obtain⟨b',o',e',-,ztX⟩:=heX.at (x:=some ⟨bt,ot,none⟩) (c:=c18) (by rw[hTl]) hTk;cases e';have f0X:=hfX.cell 0;rw[show(fCs g A)[0]? = some (.string g.nm) from rfl]at f0X;refine wp_region_held_drew (S:=fun W'=>W'.cell? ⟨bt,ot+k,none⟩=some (J9 ((tysX len f D flds).getD k 0))/\W'.cell? ⟨B24,0,none⟩=some (.string g.nm)) (by kernel_rfl) (by rw[hX];exact⟨ztX,f0X⟩) (fun zz=>?_);rw[hX]at zz⊢;refine takeL (i:=1) (v:=.slice (some ⟨bt,ot,none⟩) flds c18) 176 rfl rfl (by kernel_rfl) (by kernel_rfl) (by kernel_rfl) (fun _ _ _ _ h=>h) (by rfl) (fun w hS=>by rfl) zz (by(first | simp only[Yd,Ye] | skip);rfl) (by(first | simp only[Yd,Ye] | skip);rfl) ?_;refine takeL (i:=2) (v:=J9 k) 177 rfl rfl (by kernel_rfl) (by kernel_rfl) (by kernel_rfl) (fun _ _ _ _ h=>h) (by rfl) (fun w hS=>by rfl) zz (by(first | simp only[Yd,Ye] | skip);rfl) (by(first | simp only[Yd,Ye] | skip);rfl) ?_;refine takeL (i:=3) (v:=Yc bt (ot+k)) 178 rfl rfl (by kernel_rfl) (by kernel_rfl) (by kernel_rfl) (fun _ _ _ _ h=>h) (by rfl) (fun w hS=>by simp[execOp,go_sem,hlt']) zz (by(first | simp only[Yd,Ye] | skip);rfl) (by(first | simp only[Yd,Ye] | skip);rfl) ?_;refine takeL (i:=4) (v:=J9 ((tysX len f D flds).getD k 0)) 179 rfl rfl (by kernel_rfl) (by kernel_rfl) (by kernel_rfl) (fun _ _ _ _ h=>h) (by rfl) (fun w hS=>by have q0:=hS.1;simp[execOp,go_sem,q0]) zz (by(first | simp only[Yd,Ye] | skip);rfl) (by(first | simp only[Yd,Ye] | skip);rfl) ?_;refine takeL (i:=5) (v:=Yc B24 0) 180 rfl rfl (by kernel_rfl) (by kernel_rfl) (by kernel_rfl) (fun _ _ _ _ h=>h) (by rfl) (fun w hS=>by rfl) zz (by(first | simp only[Yd,Ye] | skip);rfl) (by(first | simp only[Yd,Ye] | skip);rfl) ?_;refine takeL (i:=6) (v:=.string g.nm) 181 rfl rfl (by kernel_rfl) (by kernel_rfl) (by kernel_rfl) (fun _ _ _ _ h=>h) (by rfl) (fun w hS=>by have q0:=hS.2;simp[execOp,go_sem,q0]) zz (by(first | simp only[Yd,Ye] | skip);rfl) (by(first | simp only[Yd,Ye] | skip);rfl) ?_;obtain⟨b0,b1,b2⟩:=three heX.bb;refine runG (i:=0) (v:=.agg (Jk px1 pn1 pk1 px2 pn2 pk2 px3 pn3 pk3)) (w':=X) 175 rfl rfl (by rfl) (by kernel_rfl) (by simp[execOp,go_sem,b0,b1,b2]) zz ?_;refine outL (by(first | simp only[Yd,Ye] | skip);rfl) (by(first | simp only[Yd,Ye] | skip);rfl) ?_;refine callY (i:=7) (f:=71) (args:=#[.agg (Jk px1 pn1 pk1 px2 pn2 pk2 px3 pn3 pk3),J9 ((tysX len f D flds).getD k 0),.string g.nm]) (R:=fun u wz=>∃y1 y2 y3,u=.agg #[y1,y2,y3]/\OwnK (pkK (tyD len f D) D.fnm (k+1)) wz B4 y1 y2 y3/\Kpt (.slice px1 pn1 pk1) (.slice px2 pn2 pk2) (.slice px3 pn3 pk3) X wz) 182 rfl rfl (by rfl) (by kernel_rfl) (by simp[execOp,go_sem]) ((q7h (K:=pkK (tyD len f D) D.fnm k) ((tysX len f D flds).getD k 0) (by rw[htg];exact tyX_in _) g.nm HKl.u heX.bk hsX).mono fun e w6 ⟨y1,y2,y3,he,h1,h2⟩=>⟨_,he,y1,y2,y3,rfl,by rw[htg,HGn.u]at h1;exact h1,h2⟩) ?_;rintro u W7 ⟨y1,y2,y3,rfl,hk7,hkp⟩;obtain⟨g1,m1,d1,g2,m2,d2,g3,m3,d3,rfl,rfl,rfl⟩:=hk7.slices;have hf7:=hkp.blk heX.bk hfX (by decide);obtain⟨b',o',e',-,zt7⟩:=intL_n (hkp.own heX.bk heX.ty (by decide)) hTl.symm k hTk;cases e';have hE9:=heX.kpt hkp hk7;have hM9:=hmX.four hkp heX.bk hsX hwc HL1.u heX.bb (Jk g1 m1 d1 g2 m2 d2 g3 m3 d3) (show B4≠R by omega);have f07:=hf7.cell 0;have f09:=(hf7.row_other (show B24≠B4 by omega) (Jk g1 m1 d1 g2 m2 d2 g3 m3 d3)).cell 0;rw[show(fCs g A)[0]? = some (.string g.nm) from rfl]at f07 f09;obtain⟨b',o',e',-,zt9⟩:=hE9.at (x:=some ⟨bt,ot,none⟩) (c:=c18) (by rw[hTl]) hTk;cases e';refine⟨⟨zt7,f07⟩,?_⟩;refine outL (by(first | simp only[Yd,Ye] | skip);rfl) (by(first | simp only[Yd,Ye] | skip);rfl) ?_;refine storeY (i:=8) (w':=W7.setRow B4 (Jk g1 m1 d1 g2 m2 d2 g3 m3 d3)) rfl (by rfl) (by kernel_rfl) rfl (q1g 110 (.tmp 22) (.tmp 182) rfl B4 _ rfl rfl 110 _ (hkp.blk heX.bk heX.bb (by decide)) (by kernel_rfl) rfl (by simp[Value.oneCell'])) rfl ⟨zt9,f09⟩ ?_;refine wpAnyH_done (by kernel_rfl) ?_ _;have hs9:B4<=(W7.setRow B4 (Jk g1 m1 d1 g2 m2 d2 g3 m3 d3)).heap.size:=Nat.le_of_lt hE9.bb.lt;have HM9:=h_ hM9;have HE9:=h_ hE9;clear zz hM9 hE9 hmX heX hfX hf7 hkp hk7 zt7 zt9 f07 f09 ztX f0X b0 b1 b2 htg;go_wp2_with fail;go_roundw
     case rel=>exact⟨k+1,y4,d4,P++[(g,A)],_,_,_,by omega,by go_num,rfl,HM9.u,HE9.u,hs9⟩
     case measure=>first | exact qi2 hlt | (simp[intOf];omega)
   . have hlt':¬ (k:Int)<(flds:Int):=by omega
     obtain rfl:k=flds:=(by omega);have HMr:Hi (MMk R (fmX len f D (D.FL 0)) P (.slice x1 D.N cl) (.slice xp D.lp.length cp) (.slice x3 (D.nn+1) c3) (.slice x4 k c4) w wr):=h_ (by rw[HOk.u.FL0];exact hm);clear hm he;go_wp2_with fail;go_meet;exact⟨rfl,_,_,_,HMr.u⟩
 case rest =>
 as_aux_lemma =>
 obtain⟨rfl,x4,c4,P,hm⟩:=hcut
 clear HM6 HE6 HL1 hwc hRc hBR hS6 hTl
 have HM6:=h_ hm
 clear hm
 go_upto_block 8 with fail
 go_cut [] from 31 (fun wx=>∃x4 c4 P,MMk R (fmX len f D (D.FL flds)) P (.slice x1 D.N cl) (.slice xp D.lp.length cp) (.slice x3 (D.nn+1) c3) (.slice x4 flds c4) w wx)
 case first =>
  as_aux_lemma =>
  go_wp2_with fail;go_loopw [25,26] (fun i _ wr=>∃(k:Nat) (x4:Option Addr) (c4:Nat) (P:List (Fl × FA)),k<=flds/\i=J9 k/\MMk R (fmX len f D (D.FL k)) P (.slice x1 D.N cl) (.slice xp D.lp.length cp) (.slice x3 (D.nn+1) c3) (.slice x4 flds c4) w wr) (fun i _ _=>flds - (intOf i).toNat)
  case atStart=>exact⟨0,_,_,_,nZ _,rfl,HM6.u⟩
  case round =>
   clear HM6;obtain⟨k,x4,c4,P,hk,rfl,hm⟩:=hrel;by_cases hlt:k<flds
   . have hlt':(k:Int)<(flds:Int):=by omega
     have hPl:P.length=flds:=(by have:=congrArg List.length hm.ow.e;rw[Yz]at this;rw[<- this];exact HOk.u.FLl k);have HFs:=h_ (HOk.u.FLs k);obtain⟨A,eA,hsA,-⟩:=hm.ow.sl;have HCz:=h_ (HOk.u.cZ k hlt wr A hsA);rw[<- eA]at HCz;obtain⟨y0,y1,y2,y3⟩:=quad hm.bx;have HM:=h_ hm;clear hm hsA eA;go_wp2_with fail;refine HCz.u.mono ?_;rintro e W1 ⟨rfl,hb⟩;have hm1:=HM.u.mono hb;clear y0 y1 y2 y3 HCz HM hb;by_cases h0:0<=D.zz k
     . rw[Yy h0]at HFs
       obtain⟨y0,y1,y2,y3⟩:=quad hm1.bx;have hof:OwF W1 w.heap.size (.slice x4 P.length c4) P:=(by rw[hPl];exact hm1.ow.f);have HCs:=h_ (q49 (D.zz k) (-1) W1 w.heap.size hm1.bl.size P (by omega) x1 xp x3 x4 D.N cl D.lp.length cp (D.nn+1) c3 c4 hof);rw[hPl]at HCs;have HM1:=h_ hm1;clear hm1 hof;go_wp2_with fail;refine HCs.u.mono ?_;rintro e W2 ⟨x5,c5,rfl,hof2,hb⟩;have hm2:=HM1.u.mono hb;have hm3:=hm2.rowF hof2;have hfs:(setT (D.zz k) (-1) P flds).map (·.1)=D.FL (k+1):=by rw[HFs.u,qeq,show D.FL k=P.map (·.1) from HM1.u.ow.e]
       try dsimp only at hm3
       rw[hfs]at hm3;have HM3:Hi (MMk R (fmX len f D (D.FL (k+1))) (setT (D.zz k) (-1) P flds) (.slice x1 D.N cl) (.slice xp D.lp.length cp) (.slice x3 (D.nn+1) c3) (.slice x5 flds c5) w (W2.setRow R (Jh x1 D.N cl xp D.lp.length cp x3 (D.nn+1) c3 x5 flds c5))):=h_ hm3;have HX2:=h_ hm2.bx;clear hm2 hm3 hfs hof2 hb HCs HM1 y0 y1 y2 y3;go_wp2_with (refine wpList_store_row rfl 28 (.tmp 8) (.tmp 194) rfl R (Jh x1 D.N cl xp D.lp.length cp x3 (D.nn+1) c3 x5 flds c5) rfl rfl 28 (Jh x1 D.N cl xp D.lp.length cp x3 (D.nn+1) c3 x4 flds c4) HX2.u (by kernel_rfl) rfl (by simp[Value.oneCell']) ?_);go_roundw
       case rel=>first | exact⟨k+1,_,_,_,by omega,by go_num,HM3.u⟩ | ((repeat apply Exists.intro);exact⟨⟨k+1,_,_,_,by omega,by go_num,HM3.u⟩,rfl⟩)
       case measure=>first | exact qi2 hlt | (simp[intOf];omega)
     . rw[Yu h0]at HFs
       have HM3:Hi (MMk R (fmX len f D (D.FL (k+1))) P (.slice x1 D.N cl) (.slice xp D.lp.length cp) (.slice x3 (D.nn+1) c3) (.slice x4 flds c4) w W1):=h_ (by rw[HFs.u];exact hm1);clear hm1;go_wp2_with fail;go_roundw
       case rel=>first | exact⟨k+1,_,_,_,by omega,by go_num,HM3.u⟩ | ((repeat apply Exists.intro);exact⟨⟨k+1,_,_,_,by omega,by go_num,HM3.u⟩,rfl⟩)
       case measure=>first | exact qi2 hlt | (simp[intOf];omega)
   . have hlt':¬ (k:Int)<(flds:Int):=by omega
     obtain rfl:k=flds:=(by omega);have HMr:=h_ hm;clear hm;go_wp2_with fail;go_meet;exact⟨_,_,_,HMr.u⟩
 case rest =>
 as_aux_lemma =>
 clear HM6
 obtain⟨x4',c4',P',hm⟩:=hcut
 obtain⟨A,eA,hsA,-⟩:=hm.ow.sl
 have HCi:=h_ (HOk.u.cI wc A hsA)
 rw[<- eA]at HCi
 obtain⟨y0,y1,y2,y3⟩:=quad hm.bx
 have hpqf:=HOk.u.hpq flds (nR _)
 have hlsf:=HOk.u.hls
 have HM:=h_ hm
 clear hm hsA eA
 go_wp2_with fail
 refine HCi.u.mono ?_
 rintro e W1 ⟨a27,c27,rfl,hil,hb⟩
 have HM7:Hi (MMk R (fmX len f D (D.FM 0)) P' (.slice x1 D.N cl) (.slice xp D.lp.length cp) (.slice x3 (D.nn+1) c3) (.slice x4' flds c4') w W1):=h_ (by rw[HOk.u.FM0];exact HM.u.mono hb)
 have HIl:=h_ hil
 clear hil hb HM HCi y0 y1 y2 y3
 go_upto_block 10 with fail
 go_cut [1] from 31 (fun s1 wx=>s1=J9 ((D.pq flds+D.ls.length:Nat):Int)/\∃x4 c4 P,MMk R (fmX len f D (D.FM D.ls.length)) P (.slice x1 D.N cl) (.slice xp D.lp.length cp) (.slice x3 (D.nn+1) c3) (.slice x4 flds c4) w wx)
 case first =>
  as_aux_lemma =>
  go_wp2_with fail;go_loopw [1,14,28] (fun s1 _ i wr=>∃(k q:Nat) (x4:Option Addr) (c4:Nat) (P:List (Fl × FA)),k<=D.ls.length/\i=J9 k/\s1=J9 q/\q=D.pq flds+k/\MMk R (fmX len f D (D.FM k)) P (.slice x1 D.N cl) (.slice xp D.lp.length cp) (.slice x3 (D.nn+1) c3) (.slice x4 flds c4) w wr/\IntL wr a27 D.ls) (fun _ _ i _=>D.ls.length - (intOf i).toNat)
  case atStart=>exact⟨0,D.pq flds,_,_,_,nZ _,rfl,rfl,rfl,HM7.u,HIl.u⟩
  case round =>
   clear HM7 HIl;obtain⟨k,q,x4,c4,P,hk,rfl,rfl,hq,hm,hil⟩:=hrel;by_cases hlt:k<D.ls.length
   . have hlt':(k:Int)<(D.ls.length:Int):=by omega
     have hPl:P.length=flds:=(by have:=congrArg List.length hm.ow.e;rw[Yz]at this;rw[<- this];exact HOk.u.FMl k (by omega));have hPk:k<P.length:=(by omega);obtain⟨q1,hq1⟩:=Nq (q+1);have e1:(q:Int)+1=(q1:Int):=(by omega);obtain⟨Y,hY⟩:=Nq (tkD len f q 4);have HQ1:Hi (q1=D.pq flds+(k+1)):=h_ (by omega);obtain⟨lb,hlb⟩:=Nq (((D.FM k).getD k noFl).lb);have HFs:Hi (D.FM (k+1)=if Y=0/\lb<0 then setL k (D.ls.getD k 0) (D.FM k) flds else D.FM k):=h_ (by rw[HOk.u.FMs k hlt,<- hq,hY,hlb]);have hlb2:(P[k]).1.lb=lb:=(by rw[<- hlb,show D.FM k=P.map (·.1) from hm.ow.e,<- qcn,Yl,Yj hPk];rfl);have hof:OwF wr w.heap.size (.slice x4 P.length c4) P:=(by rw[hPl];exact hm.ow.f);obtain⟨bf,of,e4,⟨-,-,-,zl,-⟩,-⟩:=qgk hof k (by rw[Yz];exact hPk);rw[Vh,hlb2]at zl;subst e4;have hqb:q<=200000:=(by omega);have HT:=h_ hY;have HM:=h_ hm;have HIl:=h_ hil;clear hq hq1 hY hlb hlb2 hm hil hof;go_wp2_with fail;refine(qju (p:=q) (n:=4) hlen (by omega) (by omega) (by omega) c (HBy.u wr HM.u.bl) rfl rfl).mono ?_;rintro e w' ⟨rfl,hw'⟩;subst hw';rw[HT.u];clear HT;obtain⟨y0,y1,y2,y3⟩:=quad HM.u.bx;have hkf:(k:Int)<(flds:Int):=(by omega);go_upto_region 56 with fail
     go_cut [219] from 197 to 226 (fun s wx=>s=.bool (decide (Y=0/\lb<0))/\wx=w')
     case first =>
      as_aux_lemma =>
      by_cases h0:Y=0
      . have h0':((Y:Int)==0)=true:=by rw[h0];rfl
        have Hk:=h_ h0;clear h0;by_cases h1:lb<0
        . go_wp2_with fail
          go_meet;exact⟨congrArg Value.bool (Ym (show Y=0/\lb<0 from ⟨Hk.u,h1⟩)).symm,rfl⟩
        . go_wp2_with fail
          go_meet;exact⟨congrArg Value.bool (Yi (show ¬ (Y=0/\lb<0) from fun h=>by have:=h.2;omega)).symm,rfl⟩
      . have h0':((Y:Int)==0)=false:=Yf.2 (by omega)
        go_wp2_with fail;go_meet;exact⟨congrArg Value.bool (Yi (show ¬ (Y=0/\lb<0) from fun h=>h0 h.1)).symm,rfl⟩
     case rest =>
     as_aux_lemma =>
     obtain⟨rfl,rfl⟩:=hcut;clear y0 y1 y2 y3 zl;by_cases h:Y=0/\lb<0
     . rw[Yy h]at HFs
       rw[Ym h];clear h;obtain⟨bl,ol,e27,hbl,zl⟩:=HIl.u k hlt;dsimp only at zl;subst e27;obtain⟨X,hX⟩:=Nq wc.drew;have hmX:=HM.u.mono (bR _ _).drew;have hilX:IntL wc.drew _ D.ls:=HIl.u.mono (bR _ _).drew;have zlX:wc.drew.cell? ⟨bl,ol+k,none⟩=some (J9 (D.ls.getD k 0)):=zl;rw[hX]at hmX hilX zlX;have hblX:bl<X.heap.size:=(by rw[<- hX];exact hbl);go_upto_region 57 with fail
       obtain⟨lk,hlk⟩:=Nq (D.ls.getD k 0);rw[hlk]at HFs zlX;refine wp_region_held_drew (S:=fun W'=>W'.cell? ⟨bl,ol+k,none⟩=some (J9 lk)) (by kernel_rfl) (by rw[hX];exact zlX) (fun zz=>?_);rw[hX]at zz⊢;refine takeL (i:=1) (v:=J9 k) 221 rfl rfl (by kernel_rfl) (by kernel_rfl) (by kernel_rfl) (fun _ _ _ _ h=>h) (by rfl) (fun w hS=>by rfl) zz (by(first | simp only[Yd,Ye] | skip);rfl) (by(first | simp only[Yd,Ye] | skip);rfl) ?_;refine takeL (i:=2) (v:=.slice (some ⟨bl,ol,none⟩) D.ls.length c27) 222 rfl rfl (by kernel_rfl) (by kernel_rfl) (by kernel_rfl) (fun _ _ _ _ h=>h) (by rfl) (fun w hS=>by rfl) zz (by(first | simp only[Yd,Ye] | skip);rfl) (by(first | simp only[Yd,Ye] | skip);rfl) ?_;refine takeL (i:=3) (v:=J9 k) 223 rfl rfl (by kernel_rfl) (by kernel_rfl) (by kernel_rfl) (fun _ _ _ _ h=>h) (by rfl) (fun w hS=>by rfl) zz (by(first | simp only[Yd,Ye] | skip);rfl) (by(first | simp only[Yd,Ye] | skip);rfl) ?_;refine takeL (i:=4) (v:=Yc bl (ol+k)) 224 rfl rfl (by kernel_rfl) (by kernel_rfl) (by kernel_rfl) (fun _ _ _ _ h=>h) (by rfl) (fun w hS=>by simp[execOp,go_sem,hlt']) zz (by(first | simp only[Yd,Ye] | skip);rfl) (by(first | simp only[Yd,Ye] | skip);rfl) ?_;refine takeL (i:=5) (v:=J9 lk) 225 rfl rfl (by kernel_rfl) (by kernel_rfl) (by kernel_rfl) (fun _ _ _ _ h=>h) (by rfl) (fun w hS=>by have q0:=hS;simp[execOp,go_sem,q0]) zz (by(first | simp only[Yd,Ye] | skip);rfl) (by(first | simp only[Yd,Ye] | skip);rfl) ?_;obtain⟨y0,y1,y2,y3⟩:=quad hmX.bx;refine runG (i:=0) (v:=.agg (Jh x1 D.N cl xp D.lp.length cp x3 (D.nn+1) c3 (some ⟨bf,of,none⟩) flds c4)) (w':=X) 220 rfl rfl (by rfl) (by kernel_rfl) (by simp[execOp,go_sem,y0,y1,y2,y3]) zz ?_;refine outL (by(first | simp only[Yd,Ye] | skip);rfl) (by(first | simp only[Yd,Ye] | skip);rfl) ?_;have hof:OwF X w.heap.size (.slice (some ⟨bf,of,none⟩) P.length c4) P:=(by rw[hPl];exact hmX.ow.f);have hCs:=q49 k lk X w.heap.size hmX.bl.size P (by omega) x1 xp x3 (some ⟨bf,of,none⟩) D.N cl D.lp.length cp (D.nn+1) c3 c4 hof;rw[hPl]at hCs;refine callY (i:=6) (f:=19) (args:=#[.agg (Jh x1 D.N cl xp D.lp.length cp x3 (D.nn+1:Nat) c3 (some ⟨bf,of,none⟩) flds c4),J9 k,J9 lk]) (R:=fun u wz=>∃x5 c5,u=.agg (Jh x1 D.N cl xp D.lp.length cp x3 (D.nn+1:Nat) c3 x5 flds c5)/\OwF wz w.heap.size (.slice x5 flds c5) (setT k lk P flds)/\Below X.heap.size X wz) 226 rfl rfl (by rfl) (by kernel_rfl) (by simp[execOp,go_sem]) (hCs.mono fun e w6 ⟨x5,c5,he,h1,h2⟩=>⟨_,he,x5,c5,rfl,h1,h2⟩) ?_;rintro u W2 ⟨x5,c5,rfl,hof2,hb⟩;have hm2:=hmX.mono hb;have hil2:=hilX.mono hb;have hm3:=hm2.rowF hof2;have hil3:IntL (W2.setRow R (Jh x1 D.N cl xp D.lp.length cp x3 (D.nn+1) c3 x5 flds c5)) (some ⟨bl,ol,none⟩) D.ls:=hil2.other hm2.bx (qgn _ _ _ _ _ _ _ _ _ _ _ _) (fun j hj=>setRow_other _ _ _ _ hj) (by simp[World.setRow]);have zl2:W2.cell? ⟨bl,ol+k,none⟩=some (J9 lk):=(hb.cell (p:=⟨bl,ol+k,none⟩) hblX).trans zlX;have zl3:(W2.setRow R (Jh x1 D.N cl xp D.lp.length cp x3 (D.nn+1) c3 x5 flds c5)).cell? ⟨bl,ol+k,none⟩=some (J9 lk):=by
        obtain⟨b',o',e',-,z⟩:=hil3 k hlt;cases e';rw[z];dsimp only;rw[hlk]
       have hfs:(setT k lk P flds).map (·.1)=D.FM (k+1):=by rw[HFs.u,qeq,show D.FM k=P.map (·.1) from HM.u.ow.e]
       try dsimp only at hm3
       rw[hfs]at hm3;have HM3:Hi (MMk R (fmX len f D (D.FM (k+1))) (setT k lk P flds) (.slice x1 D.N cl) (.slice xp D.lp.length cp) (.slice x3 (D.nn+1) c3) (.slice x5 flds c5) w (W2.setRow R (Jh x1 D.N cl xp D.lp.length cp x3 (D.nn+1) c3 x5 flds c5))):=h_ hm3;have HI3:=h_ hil3;refine⟨zl2,?_⟩;refine outL (by(first | simp only[Yd,Ye] | skip);rfl) (by(first | simp only[Yd,Ye] | skip);rfl) ?_;refine storeY (i:=7) (w':=W2.setRow R (Jh x1 D.N cl xp D.lp.length cp x3 (D.nn+1) c3 x5 flds c5)) rfl (by rfl) (by kernel_rfl) rfl (q1g 28 (.tmp 8) (.tmp 226) rfl R _ rfl rfl 28 _ hm2.bx (by kernel_rfl) rfl (by simp[Value.oneCell'])) rfl zl3 ?_;refine wpAnyH_done (by kernel_rfl) ?_ _;clear zz hm2 hm3 hil2 hil3 zl2 zl3 hfs hof2 hb hCs hof hmX hilX zlX y0 y1 y2 y3 zl hlk HM HIl;go_wp2_with fail;go_roundw
       case rel=>first | exact⟨k+1,q1,_,_,_,by omega,by go_num,rfl,HQ1.u,HM3.u,HI3.u⟩ | ((repeat apply Exists.intro);exact⟨⟨k+1,q1,_,_,_,by omega,by go_num,rfl,HQ1.u,HM3.u,HI3.u⟩,rfl⟩)
       case measure=>simp[intOf];omega
     . rw[Yu h]at HFs
       rw[Yi h];clear h;have HM3:Hi (MMk R (fmX len f D (D.FM (k+1))) P (.slice x1 D.N cl) (.slice xp D.lp.length cp) (.slice x3 (D.nn+1) c3) (.slice (some ⟨bf,of,none⟩) flds c4) w wc):=h_ (by rw[HFs.u];exact HM.u);clear HM;go_wp2_with fail;go_roundw
       case rel=>first | exact⟨k+1,q1,_,_,_,by omega,by go_num,rfl,HQ1.u,HM3.u,HIl.u⟩ | ((repeat apply Exists.intro);exact⟨⟨k+1,q1,_,_,_,by omega,by go_num,rfl,HQ1.u,HM3.u,HIl.u⟩,rfl⟩)
       case measure=>simp[intOf];omega
   . have hlt':¬ (k:Int)<(D.ls.length:Int):=by omega
     obtain rfl:k=D.ls.length:=(by omega);subst hq;have HMr:=h_ hm;clear hm hil;go_wp2_with fail;go_meet;exact⟨rfl,_,_,_,HMr.u⟩
 case rest =>
 as_aux_lemma =>
 clear HM7 HIl
 obtain⟨rfl,x4,c4,P,hm⟩:=hcut
 have hPl:P.length=flds:=by have:=congrArg List.length hm.ow.e;rw[Yz]at this;rw[<- this];exact HOk.u.FMl _ (nR _)
 obtain⟨q,hq⟩:=Nq (D.pq flds+D.ls.length)
 obtain⟨T,hT⟩:=Nq (tkD len f q 3)
 have HFin:Hi (finX len f D flds=if T=0/\1<flds then (D.FM D.ls.length).reverse else D.FM D.ls.length):=h_ (by unfold finX;rw[hq,hT])
 have hqb:q<=200000:=by omega
 have e1:(q:Int)+1=((q+1:Nat):Int):=by omega
 obtain⟨q1,hq1⟩:=Nq (q+1)
 rw[hq1]at e1
 rw[hq]
 have HT:=h_ hT;have HM:=h_ hm;have HQ1:=h_ hq1
 have HE:Hi (D.FM D.ls.length=P.map (·.1)):=h_ hm.ow.e
 have HQ:=h_ hq
 clear hT hm hq1 hq
 go_wp2_with fail
 refine(qju (p:=q) (n:=3) hlen (by omega) (by omega) (by omega) c (HBy.u wc HM.u.bl) rfl rfl).mono ?_
 rintro e w' ⟨rfl,hw'⟩
 subst hw'
 rw[HT.u]
 clear HT
 go_upto_region 59 with fail
 go_cut [238] from 31 (fun s wx=>s=.bool (decide (T=0/\1<flds))/\wx=w')
 case first =>
  as_aux_lemma =>
  by_cases h0:T=0
  . have h0':((T:Int)==0)=true:=by rw[h0];rfl
    have Hk:=h_ h0;clear h0;by_cases h1:1<flds
    . have h1':(1:Int)<flds:=by omega
      go_wp2_with fail;go_meet;exact⟨congrArg Value.bool (Ym (show T=0/\1<flds from ⟨Hk.u,h1⟩)).symm,rfl⟩
    . have h1':¬ (1:Int)<flds:=by omega
      go_wp2_with fail;go_meet;exact⟨congrArg Value.bool (Yi (show ¬ (T=0/\1<flds) from fun h=>h1 h.2)).symm,rfl⟩
  . have h0':((T:Int)==0)=false:=Yf.2 (by omega)
    go_wp2_with fail;go_meet;exact⟨congrArg Value.bool (Yi (show ¬ (T=0/\1<flds) from fun h=>h0 h.1)).symm,rfl⟩
 case rest =>
 as_aux_lemma =>
 obtain⟨rfl,rfl⟩:=hcut
 go_upto_if 238 with fail
 go_cut [] from 31 (fun wx=>∃x4 c4 P,MMk R (fmX len f D (finX len f D flds)) P (.slice x1 D.N cl) (.slice xp D.lp.length cp) (.slice x3 (D.nn+1) c3) (.slice x4 flds c4) w wx)
 case first =>
  as_aux_lemma =>
  by_cases h:T=0/\1<flds
  . rw[Yy h]at HFin
    have h1:=h.2;rw[Ym h];clear h;have hba:=(bR wc.heap.size wc).alloc (nR _) (.cells #[] 42);have hn0:(wc.alloc (.cells #[] 42)).ownsRow wc.heap.size 42 9 (.slice (some ⟨wc.heap.size,0,none⟩) 0 0) 0 (fdV []):=⟨rfl,.inr ⟨wc.heap.size,0,_,rfl,nR _,heap_alloc_new wc (.cells #[] 42),nR _,by unfold maxLen;omega,rfl,rfl⟩⟩;obtain⟨W5,hW5⟩:=Nq (wc.alloc (.cells #[] 42));rw[hW5]at hba hn0;obtain⟨B,hB⟩:=Nq wc.heap.size;rw[hB]at hba hn0;have HB5:=h_ hba;have HN0:=h_ hn0;have HBe:=h_ hB;have HWw:Hi (w.heap.size<=B):=h_ (by rw[<- hB];exact HM.u.bl.size);have HW5:=h_ hW5;clear hba hn0 hW5 hB
    go_upto_block 12 with fail
    rw[HW5.u,HBe.u];clear HW5;go_wp2_with fail;go_loopw [29,30] (fun s29 i wr=>∃(r:Nat) (x5:Option Addr) (c5:Nat),r<=flds/\i=J9 ((r:Int) - 1)/\s29=.slice x5 (flds - r) c5/\wr.ownsRow B 42 9 (.slice x5 (flds - r) c5) (P.reverse.take (flds - r)).length (fdV (P.reverse.take (flds - r)))/\Below B wc wr) (fun _ i _=>(intOf i+1).toNat)
    case atStart=>exact⟨flds,_,0,nR _,by first | rfl | go_num,by rw[Nat.sub_self],by rw[Nat.sub_self];exact HN0.u,HB5.u⟩
    case round =>
     clear HN0 HB5;obtain⟨r,x5,c5,hr,rfl,rfl,ho,hb⟩:=hrel;obtain⟨W,hW⟩:=Nq wc;rw[hW]at hb HM HBe;have hm:=HM.u.mono (show Below W.heap.size W wr by rw[HBe.u];exact hb);by_cases hlt:1<=r
     . obtain⟨j,rfl⟩:∃j,r=j+1:=⟨r - 1,by omega⟩
       have hj:j<P.length:=(by omega);rw[show((j+1:Nat):Int) - 1=(j:Int) by omega];have hj0:(0:Int)<=j:=(by omega);have hjf:(j:Int)<flds:=(by omega);have hof:OwF wr w.heap.size (.slice x4 P.length c4) P:=(by rw[hPl];exact hm.ow.f);obtain⟨b1,o1,e4,hfc,-⟩:=qgk hof j (by rw[Yz];exact hj);obtain⟨⟨u,A⟩,hu⟩:∃x,P[j]=x:=⟨_,rfl⟩;rw[Vh,qcg hj,hu]at hfc;have HRg:=h_ hfc.rng;clear hfc;have HRt:Hi (P.reverse.take (flds - j)=P.reverse.take (flds - (j+1))++[(u,A)]):=h_ (by rw[<- hPl,<- hu];exact qea P hj);subst e4;obtain⟨y0,y1,y2,y3⟩:=quad hm.bx;have hal:=(bR wr.heap.size wr).alloc (nR _) (.cells (Ja u A.b A.bc A.i A.ic A.h A.hc A.v A.vc A.u A.uc) 42);have HN:Hi (Blk _ _ 42 (Jo u A.b A.bc A.i A.ic A.h A.hc A.v A.vc A.u A.uc)):=h_ (Blk.new wr 42 (Ja u A.b A.bc A.i A.ic A.h A.hc A.v A.vc A.u A.uc));have HO2:=h_ (qap ho hal);have hsB:B<=wr.heap.size:=(by have:=hb.size;have:=HBe.u;omega);have HB2:=h_ (hb.trans (hal.mono hsB));have hsz2:B<=(wr.alloc (.cells (Ja u A.b A.bc A.i A.ic A.h A.hc A.v A.vc A.u A.uc) 42)).heap.size:=Ys hsB hal.size;have hl4:(P.reverse.take (flds - (j+1))).length<=1000:=(by rw[Y3];omega);obtain⟨n,hn⟩:=Nq (flds - (j+1));rw[hn]at HO2 HRt hl4⊢;have HNn:=h_ hn;have hnl:(P.reverse.take n).length=n:=(by rw[Y3,Y6];omega);obtain⟨Q,hQ⟩:=Nq (P.reverse.take n);rw[hQ]at HO2 HRt hl4 hnl;have HNl:=h_ hnl;clear hal ho hb hm hof hu hn hnl hQ;go_wp2_with (first | (at_builtin;refine qc0 (n:=(u,A)) rfl _ _ rfl rfl HO2.u rfl HN.u (by omega) hsz2 ?_) | refine wpList_load_mid rfl 42 (.tmp 250) rfl b1 (o1+j*9) rfl (fCs u A) _ HRg.u Tryz.underlying42 rfl (by kernel_rfl) ?_ | refine qfr rfl (.tmp 251) rfl rfl ?_);intro v' W4 ho4 hg4 hb4;have HB4:=h_ (HB2.u.trans hb4);have hfj:flds - j=n+1:=(by have:=HNn.u;omega);have ho5:W4.ownsRow B 42 9 v' (n+1) (fdV (Q++[(u,A)])):=(by have h:=ho4;simpa [HNl.u] using h);obtain⟨x6,c6,rfl,-,-⟩:=q8b ho5;have HO4:Hi (W4.ownsRow B 42 9 (.slice x6 (flds - j) c6) (P.reverse.take (flds - j)).length (fdV (P.reverse.take (flds - j)))):=h_ (by rw[HRt.u,Yg,HNl.u,hfj];exact ho5);rw[<- hfj];clear ho5;clear ho4 hg4 hb4 HN HO2 HB2 hsz2 y0 y1 y2 y3 HRg hfj;go_wp2_with fail;go_roundw
       case rel=>exact⟨j,x6,c6,by omega,by first | rfl | go_num,rfl,HO4.u,by rw[hW];exact HB4.u⟩
       case measure=>first | (simp[intOf];done) | (simp[intOf];omega)
     . obtain rfl:r=0:=by omega
       rw[show((0:Nat):Int) - 1 = -1 from rfl];rw[Nat.sub_zero]at ho⊢;have hlP:P.reverse.take flds=P.reverse:=(by rw[<- hPl,<- Y6,Zm]);rw[hlP,Y6]at ho;have hofR:OwF wr w.heap.size (.slice x5 flds c5) P.reverse:=⟨by rw[Y6];exact qdt ho HWw.u,fun p hp=>hm.ow.f.sub p (Oa.1 hp)⟩;have hm9:=hm.setF hofR;have hfn:P.reverse.map (·.1)=finX len f D flds:=by rw[HFin.u,HE.u,List.map_reverse]
       try dsimp only at hm9
       rw[hfn]at hm9;have HM9:Hi (MMk R (fmX len f D (finX len f D flds)) P.reverse (.slice x1 D.N cl) (.slice xp D.lp.length cp) (.slice x3 (D.nn+1) c3) (.slice x5 flds c5) w (wr.setCell ⟨R,3,none⟩ (.slice x5 flds c5))):=h_ hm9;have v3:=hm.bx.cell 3;have vf:=hm.bx.free 3;simp only[Yh,Yo]at v3;clear hm hm9 hofR ho hb hfn hlP HM;go_wp2_with fail;go_meet;exact⟨_,_,_,HM9.u⟩
  . rw[Yu h]at HFin
    rw[Yi h];clear h;have HM9:Hi (MMk R (fmX len f D (finX len f D flds)) P (.slice x1 D.N cl) (.slice xp D.lp.length cp) (.slice x3 (D.nn+1) c3) (.slice x4 flds c4) w wc):=h_ (by rw[HFin.u];exact HM.u);clear HM;go_wp2_with fail;go_meet;exact⟨_,_,_,HM9.u⟩
 case rest =>
 as_aux_lemma =>
 clear HM HFin HE
 obtain⟨x5,c5,P5,hm⟩:=hcut
 obtain⟨y0,y1,y2,y3⟩:=quad hm.bx
 have HF:=h_ hm.fin;have HR0:=h_ hm.r0
 clear hm
 go_wp2_with (refine wpList_store_row rfl 28 (.tmp 6) (.tmp 256) rfl w.heap.size (Jh x1 D.N cl xp D.lp.length cp x3 (D.nn+1) c3 x5 flds c5) rfl rfl 28 Jc HR0.u (by kernel_rfl) rfl (by simp[Value.oneCell']) ?_)
 clear y0 y1 y2 y3
 obtain⟨y0,y1,y2,y3⟩:=quad HF.u.2.2
 exact bodyPost_ret (v:=.tuple #[.agg (Jh x1 D.N cl xp D.lp.length cp x3 (D.nn+1) c3 x5 flds c5),J9 q1]) (by simp[results,Tryz.results41,go_sem,y0,y1,y2,y3]) rfl ⟨_,_,_,_,_,by rw[<- HQ1.u,<- HQ.u],HF.u.1,HF.u.2.1⟩
end Go.Proofs.YtebbgodlijlioaaGreatDoor
