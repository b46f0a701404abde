import Derived.Test.YtebbgodlijlioaaGreatDoorW17
set_option maxRecDepth 100000
set_option maxHeartbeats 64000000
namespace Go.Proofs.YtebbgodlijlioaaGreatDoor
open Go Go.RowKit
theorem q6x (nl nr:Nat)(f:Fl):fieldOk nl nr f=(decide (1<=f.ty/\f.ty<=3)&&decide (-1<=f.lb/\f.lb<nl)&&bysOk nr f.bys&&decide (f.is.length=0∨f.bys.length=0)&&okText f.sy&&decide (f.va.length≠0∨f.sy.size=0)&&ruleOk f.is&&ruleOk f.wh&&ruleOk f.va&&ruleOk f.mu):=rfl
theorem q0o (f:Fl)(A:FA)(m:Fm)(M:MA)(w:World)(hf:FitF f)(ha:FSl w f A) :
 Calls Tryz.prog 26 #[fV f A,mV m M] w fun r w'=>r=.returned (.bool (fieldOk m.L.length m.R.length f))/\Below w.heap.size w w':=by
 obtain⟨ab,abc,ai,aic,ah,ahc,av,avc,au,auc⟩:=A
 obtain⟨al,alc,ap,apc,ar,arc,af,afc,afa⟩:=M
 unfold fV mV
 dsimp only
 have hfo:=q6x m.L.length m.R.length f
 have HK:=h_ ((Blk.new w 42 (Ja f ab abc ai aic ah ahc av avc au auc)).alloc (.cells (#[.slice al m.L.length alc,.slice ap m.P.length apc,.slice ar m.R.length arc,.slice af m.F.length afc]) 28))
 have HR:=h_ (Blk.new (w.alloc (.cells (Ja f ab abc ai aic ah ahc av avc au auc) 42)) 28 (#[.slice al m.L.length alc,.slice ap m.P.length apc,.slice ar m.R.length arc,.slice af m.F.length afc]))
 rw[Yv]at HR
 have HB:=h_ (((bR w.heap.size w).alloc (nR _) (.cells (Ja f ab abc ai aic ah ahc av avc au auc) 42)).alloc (by simp) (.cells (#[.slice al m.L.length alc,.slice ap m.P.length apc,.slice ar m.R.length arc,.slice af m.F.length afc]) 28))
 obtain⟨W0,hW0⟩:=Nq ((w.alloc (.cells (Ja f ab abc ai aic ah ahc av avc au auc) 42)).alloc (.cells (#[.slice al m.L.length alc,.slice ap m.P.length apc,.slice ar m.R.length arc,.slice af m.F.length afc]) 28))
 rw[hW0]at HK HR HB
 have HS:=h_ (ha.mono HB.u);have HF:=h_ hf
 obtain⟨nl,hnl⟩:=Nq m.L.length
 obtain⟨nr,hnr⟩:=Nq m.R.length
 rw[hnl]at hfo HR hW0⊢;rw[hnr]at hfo HR hW0⊢
 clear hnl hnr ha hf
 obtain⟨y0,y1,y2,y3,y4,y5,y6,y7,y8⟩:=nine HK.u
 obtain⟨z0,z1,z2,z3⟩:=quad HR.u
 by_cases h1:f.ty<1
 . rw[show fieldOk nl nr f=false by rw[hfo,Yi (by omega)];rfl]
   go_enter Tryz.func26,Tryz.ntmps26;go_wp2_with fail;go_ret;exact⟨rfl,HB.u⟩
 by_cases h2:3<f.ty
 . rw[show fieldOk nl nr f=false by rw[hfo,Yi (by omega)];rfl]
   go_enter Tryz.func26,Tryz.ntmps26;go_wp2_with fail;go_ret;exact⟨rfl,HB.u⟩
 by_cases h3:f.lb < -1
 . rw[show fieldOk nl nr f=false by rw[hfo,Yi (show ¬ (-1<=f.lb/\f.lb<nl) by omega),Ol];rfl]
   go_enter Tryz.func26,Tryz.ntmps26;go_wp2_with fail;go_ret;exact⟨rfl,HB.u⟩
 by_cases h4:(nl:Int)<=f.lb
 . rw[show fieldOk nl nr f=false by rw[hfo,Yi (show ¬ (-1<=f.lb/\f.lb<nl) by omega),Ol];rfl]
   go_enter Tryz.func26,Tryz.ntmps26;go_wp2_with fail;go_ret;exact⟨rfl,HB.u⟩
 rw[Ym (show 1<=f.ty/\f.ty<=3 by omega),Ym (show -1<=f.lb/\f.lb<nl by omega),Zc,Zc]at hfo
 obtain⟨q,hq⟩:=Nq (fieldOk nl nr f)
 rw[hq]at hfo⊢
 have HQ:=h_ hfo
 have hbl:=HF.u.bl
 have HSb:Hi (∀k (h:k<f.bys.length),∃b o,ab=some ⟨b,o,none⟩/\b<W0.heap.size/\W0.cell? ⟨b,o+k,none⟩=some (J9 f.bys[k])):=h_ fun k h=>by
  obtain⟨b,o,e,hlt,hc⟩:=HS.u.b k h;refine⟨b,o,e,hlt,?_⟩;rw[hc];show some (Value.int .i64 (f.bys.getD k 0))=_;rw[Yl,Yj h];rfl
 clear hq hfo
 go_enter Tryz.func26,Tryz.ntmps26
 go_wp2_with fail
 try rw[hW0]
 clear hW0 y0 y1 y2 y3 y4 y5 y6 y7 y8 z0 z1 z2 z3
 go_loopw [5,6] (fun i _ wr=>∃k:Nat,k<=f.bys.length/\i=J9 k/\(∀j (h:j<f.bys.length),j<k->inR nr f.bys[j]=true/\∀i (hi:i<j),f.bys[j]≠f.bys[i])/\Below W0.heap.size W0 wr) (fun i _ _=>f.bys.length - (intOf i).toNat)
 case atStart=>exact⟨0,nZ _,rfl,fun j _ hj=>absurd hj (nL _),bR _ _⟩
 case round =>
  obtain⟨k,hk,rfl,hall,hb⟩:=hrel;have HL:=h_ hall;have HB1:=h_ hb;have HKr:=mB HK hb;have HRr:=mB HR hb;obtain⟨y0,y1,y2,y3,y4,y5,y6,y7,y8⟩:=nine HKr.u;obtain⟨z0,z1,z2,z3⟩:=quad HRr.u;clear hall hb;by_cases hlt:k<f.bys.length
  . have hlt':(k:Int)<f.bys.length:=by omega
    obtain⟨b,o,rfl,hbl2,hc⟩:=HSb.u k hlt;have c0:=(HB1.u.cell (p:=⟨b,o+k,none⟩) hbl2).trans hc;have HX:Hi (inR nr f.bys[k]=false->q=false):=h_ fun h=>by rw[HQ.u,q92 hlt h];rfl
    have HT:Hi (∀j (hj:j<k),f.bys[k]=f.bys[j]->q=false):=h_ fun j hj h=>by rw[HQ.u,q4l hlt hj h];rfl
    have HD:Hi (Below W0.heap.size W0 wr.drew):=h_ HB1.u.drew;have hinr:inR nr f.bys[k]=decide (0<=f.bys[k]/\f.bys[k]<nr):=rfl;clear hc;obtain⟨x,hx⟩:=Nq (f.bys[k]);by_cases hn:x<0
    . have HX2:Hi (q=false):=h_ (HX.u (by rw[hinr,hx,Yi (by omega)]))
      rw[hx]at c0;go_wp2_with fail;refine wp_region_held_drew (S:=fun w'=>w'.cell? ⟨w.heap.size,3,none⟩=some (.slice (some ⟨b,o,none⟩) f.bys.length abc)/\w'.cell? ⟨b,o+k,none⟩=some (J9 x)/\w'.cell? ⟨w.heap.size+1,2,none⟩=some (.slice ar nr arc)) (by kernel_rfl) ⟨y3,c0,z2⟩ (fun zz=>?_);refine tj 0 35 (Yc w.heap.size 3) zz ?_;refine tj 1 36 (.slice (some ⟨b,o,none⟩) f.bys.length abc) zz ?_;refine tj 2 37 (J9 k) zz ?_;refine tj 3 38 (Yc b (o+k)) zz ?_;simp only[sX,sY,sZ];refine tj 4 39 (J9 x) zz ?_;refine tj 5 40 (.bool true) zz ?_;refine tj 6 41 (.bool true) zz ?_;refine tn 7 42 zz ?_;simp only[sX,sY,sZ];refine tn 8 43 zz ?_;refine tn 9 44 zz ?_;refine tn 10 45 zz ?_;refine tn 11 46 zz ?_;simp only[sX,sY,sZ];refine tn 12 47 zz ?_;refine tn 13 48 zz ?_;refine tn 14 49 zz ?_;refine tn 15 50 zz ?_;simp only[sX,sY,sZ];refine tj 16 51 (.bool true) zz ?_;simp only[sX,sY,sZ];refine wpAnyH_done (by kernel_rfl) ?_ _;clear zz;go_wp2_with fail;go_ret;exact⟨qe9 HX2.u.symm,HB.u.trans (HD.u.mono HB.u.size)⟩
    by_cases hg:(nr:Int)<=x
    . have HX2:Hi (q=false):=h_ (HX.u (by rw[hinr,hx,Yi (by omega)]))
      rw[hx]at c0;go_wp2_with fail;refine wp_region_held_drew (S:=fun w'=>w'.cell? ⟨w.heap.size,3,none⟩=some (.slice (some ⟨b,o,none⟩) f.bys.length abc)/\w'.cell? ⟨b,o+k,none⟩=some (J9 x)/\w'.cell? ⟨w.heap.size+1,2,none⟩=some (.slice ar nr arc)) (by kernel_rfl) ⟨y3,c0,z2⟩ (fun zz=>?_);refine tj 0 35 (Yc w.heap.size 3) zz ?_;refine tj 1 36 (.slice (some ⟨b,o,none⟩) f.bys.length abc) zz ?_;refine tj 2 37 (J9 k) zz ?_;refine tj 3 38 (Yc b (o+k)) zz ?_;simp only[sX,sY,sZ];refine tj 4 39 (J9 x) zz ?_;refine tj 5 40 (.bool false) zz ?_;refine tj 6 41 (.bool false) zz ?_;refine tj 7 42 (Yc w.heap.size 3) zz ?_;simp only[sX,sY,sZ];refine tj 8 43 (.slice (some ⟨b,o,none⟩) f.bys.length abc) zz ?_;refine tj 9 44 (J9 k) zz ?_;refine tj 10 45 (Yc b (o+k)) zz ?_;refine tj 11 46 (J9 x) zz ?_;simp only[sX,sY,sZ];refine tj 12 47 (.pointer (some ⟨(w.heap.size+1),2,none⟩)) zz ?_;refine tj 13 48 (.slice ar nr arc) zz ?_;refine tj 14 49 (J9 nr) zz ?_;refine tj 15 50 (.bool true) zz ?_;simp only[sX,sY,sZ];refine tj 16 51 (.bool true) zz ?_;simp only[sX,sY,sZ];refine wpAnyH_done (by kernel_rfl) ?_ _;clear zz;go_wp2_with fail;go_ret;exact⟨qe9 HX2.u.symm,HB.u.trans (HD.u.mono HB.u.size)⟩
    have HI:Hi (inR nr f.bys[k]=true):=h_ (by rw[hinr,hx,Ym (by omega)]);have HC0:=h_ c0;rw[hx]at c0;go_wp2_with fail;refine wp_region_held_drew (S:=fun w'=>w'.cell? ⟨w.heap.size,3,none⟩=some (.slice (some ⟨b,o,none⟩) f.bys.length abc)/\w'.cell? ⟨b,o+k,none⟩=some (J9 x)/\w'.cell? ⟨w.heap.size+1,2,none⟩=some (.slice ar nr arc)) (by kernel_rfl) ⟨y3,c0,z2⟩ (fun zz=>?_);refine tj 0 35 (Yc w.heap.size 3) zz ?_;refine tj 1 36 (.slice (some ⟨b,o,none⟩) f.bys.length abc) zz ?_;refine tj 2 37 (J9 k) zz ?_;refine tj 3 38 (Yc b (o+k)) zz ?_;simp only[sX,sY,sZ];refine tj 4 39 (J9 x) zz ?_;refine tj 5 40 (.bool false) zz ?_;refine tj 6 41 (.bool false) zz ?_;refine tj 7 42 (Yc w.heap.size 3) zz ?_;simp only[sX,sY,sZ];refine tj 8 43 (.slice (some ⟨b,o,none⟩) f.bys.length abc) zz ?_;refine tj 9 44 (J9 k) zz ?_;refine tj 10 45 (Yc b (o+k)) zz ?_;refine tj 11 46 (J9 x) zz ?_;simp only[sX,sY,sZ];refine tj 12 47 (.pointer (some ⟨(w.heap.size+1),2,none⟩)) zz ?_;refine tj 13 48 (.slice ar nr arc) zz ?_;refine tj 14 49 (J9 nr) zz ?_;refine tj 15 50 (.bool false) zz ?_;simp only[sX,sY,sZ];refine tj 16 51 (.bool false) zz ?_;simp only[sX,sY,sZ];refine wpAnyH_done (by kernel_rfl) ?_ _;clear zz;clear y0 y1 y2 y3 y4 y5 y6 y7 y8 z0 z1 z2 z3 c0 HB1 HKr HRr;go_wp2_with fail;go_loopw [6] (fun jv w3=>∃j:Nat,j<=k/\jv=J9 j/\(∀i (hi:i<k),i<j->f.bys[k]≠f.bys[i])/\Below W0.heap.size W0 w3) (fun jv _=>k - (intOf jv).toNat)
    case atStart=>exact⟨0,nZ _,rfl,fun i _ hj=>absurd hj (nL _),HD.u⟩
    case round =>
     obtain⟨j,hj,rfl,hin,hb⟩:=hrel;have HIN:=h_ hin;have HB1:=h_ hb;have HKr:=mB HK hb;obtain⟨y0,y1,y2,y3,y4,y5,y6,y7,y8⟩:=nine HKr.u;clear hin hb;by_cases hjk:j<k
     . have hjk':(j:Int)<k:=by omega
       have hjl:(j:Int)<f.bys.length:=(by omega);obtain⟨b2,o2,e2,hl2,hc1⟩:=HSb.u j (by omega);cases e2;obtain⟨b3,o3,e3,hl3,hc3⟩:=HSb.u k hlt;cases e3;have c1:=(HB1.u.cell (p:=⟨b,o+j,none⟩) hl2).trans hc1;have c0:=(HB1.u.cell (p:=⟨b,o+k,none⟩) hl3).trans hc3;have HX2:Hi (f.bys[k]=f.bys[j]->q=false):=h_ fun h=>HT.u j hjk h;have HN:Hi (f.bys[k]≠f.bys[j]->∀i (hi:i<k),i<j+1->f.bys[k]≠f.bys[i]):=h_ fun h i hi hij=>by
        by_cases ei:i=j
        . subst ei;exact h
        . exact HIN.u i hi (by omega)
       have HD2:Hi (Below W0.heap.size W0 wr.drew):=h_ HB1.u.drew;clear hc1 hc3;obtain⟨u,hu⟩:=Nq (f.bys[j]);rw[hx]at c0;rw[hu]at c1;by_cases hxu:x=u
       . have HX3:Hi (q=false):=h_ (HX2.u (by rw[hx,hu,hxu]))
         have hxu':(x==u)=true:=(by simp[hxu]);clear hxu HX2 HN;go_wp2_with fail;refine wp_region_held_drew (S:=fun w'=>w'.cell? ⟨w.heap.size,3,none⟩=some (.slice (some ⟨b,o,none⟩) f.bys.length abc)/\w'.cell? ⟨b,o+k,none⟩=some (J9 x)/\w'.cell? ⟨b,o+j,none⟩=some (J9 u)) (by kernel_rfl) ⟨y3,c0,c1⟩ (fun zz=>?_);refine tj 0 57 (Yc w.heap.size 3) zz ?_;refine tj 1 58 (.slice (some ⟨b,o,none⟩) f.bys.length abc) zz ?_;refine tj 2 59 (J9 k) zz ?_;refine tj 3 60 (Yc b (o+k)) zz ?_;simp only[sX,sY,sZ];refine tj 4 61 (J9 x) zz ?_;refine tj 5 62 (Yc w.heap.size 3) zz ?_;refine tj 6 63 (.slice (some ⟨b,o,none⟩) f.bys.length abc) zz ?_;refine tj 7 64 (J9 j) zz ?_;simp only[sX,sY,sZ];refine tj 8 65 (Yc b (o+j)) zz ?_;refine tj 9 66 (J9 u) zz ?_;refine tj 10 67 (.bool true) zz ?_;simp only[sX,sY,sZ];refine wpAnyH_done (by kernel_rfl) ?_ _;clear zz;go_wp2_with fail;go_ret;exact⟨qe9 HX3.u.symm,HB.u.trans (HD2.u.mono HB.u.size)⟩
       . have HN2:=h_ (HN.u (by rw[hx,hu];exact hxu))
         have hxu':(x==u)=false:=Yf.2 hxu;clear hxu HX2 HN;go_wp2_with fail;refine wp_region_held_drew (S:=fun w'=>w'.cell? ⟨w.heap.size,3,none⟩=some (.slice (some ⟨b,o,none⟩) f.bys.length abc)/\w'.cell? ⟨b,o+k,none⟩=some (J9 x)/\w'.cell? ⟨b,o+j,none⟩=some (J9 u)) (by kernel_rfl) ⟨y3,c0,c1⟩ (fun zz=>?_);refine tj 0 57 (Yc w.heap.size 3) zz ?_;refine tj 1 58 (.slice (some ⟨b,o,none⟩) f.bys.length abc) zz ?_;refine tj 2 59 (J9 k) zz ?_;refine tj 3 60 (Yc b (o+k)) zz ?_;simp only[sX,sY,sZ];refine tj 4 61 (J9 x) zz ?_;refine tj 5 62 (Yc w.heap.size 3) zz ?_;refine tj 6 63 (.slice (some ⟨b,o,none⟩) f.bys.length abc) zz ?_;refine tj 7 64 (J9 j) zz ?_;simp only[sX,sY,sZ];refine tj 8 65 (Yc b (o+j)) zz ?_;refine tj 9 66 (J9 u) zz ?_;refine tj 10 67 (.bool false) zz ?_;simp only[sX,sY,sZ];refine wpAnyH_done (by kernel_rfl) ?_ _;clear zz;go_wp2_with fail;go_roundw
         case rel=>exact⟨j+1,by omega,by go_num,HN2.u,HD2.u⟩
         case measure=>simp[intOf];omega
     . obtain rfl:j=k:=by omega
       have hjk':¬ (j:Int)<(j:Int):=(by omega);have HN:Hi (∀i (h:i<f.bys.length),i<j+1->inR nr f.bys[i]=true/\∀m (hm:m<i),f.bys[i]≠f.bys[m]):=h_ fun i h hi=>by
        by_cases ei:i=j
        . subst ei;exact⟨HI.u,fun m hm=>HIN.u m hm hm⟩
        . exact HL.u i h (by omega)
       go_wp2_with fail;go_roundw
       case rel=>first | exact⟨j+1,by omega,by go_num,HN.u,HB1.u⟩ | ((repeat apply Exists.intro);exact⟨⟨j+1,by omega,by go_num,HN.u,HB1.u⟩,rfl⟩)
       case measure=>simp[intOf];omega
  . have hlt':¬ (k:Int)<f.bys.length:=by omega
    have hbo:bysOk nr f.bys=true:=q94 (fun i h=>(HL.u i h (by omega)).1) (fun i h j hj=>(HL.u i h (by omega)).2 j hj);have HQ2:=h_ HQ.u;rw[hbo,Zc]at HQ2;have HSr:=h_ (HS.u.mono HB1.u);have HBw:=h_ (HB.u.trans (HB1.u.mono HB.u.size));have hil:=HF.u.il;have hvl:=HF.u.vl;clear HQ hbo HL HSb HS;by_cases hi:0<f.is.length/\0<f.bys.length
    . have hi1:(0:Int)<f.is.length:=by omega
      have hi2:(0:Int)<f.bys.length:=(by omega);have HX:Hi (q=false):=h_ (by rw[HQ2.u,Yi (show ¬ (f.is.length=0∨f.bys.length=0) by omega)];rfl);clear HQ2 hi;go_wp2_with fail;go_ret;exact⟨qe9 HX.u.symm,HBw.u⟩
    have HQ3:Hi (q=(okText f.sy&&decide (f.va.length≠0∨f.sy.size=0)&&ruleOk f.is&&ruleOk f.wh&&ruleOk f.va&&ruleOk f.mu)):=h_ (by rw[HQ2.u,Ym (show f.is.length=0∨f.bys.length=0 by omega),Zc]);clear HQ2;have hsplit:f.is.length=0∨((0:Int)<f.is.length/\f.bys.length=0):=(by omega);clear hi;have hsy:=HF.u.sy;rcases hsplit with hz1 | ⟨hz1,hz2⟩
    all_goals
     go_wp2_with fail;refine(q1q f.sy _ hsy).mono ?_;rintro e w4 ⟨rfl,hw⟩;replace hw:=hw.symm;subst hw;clear hz1
     try clear hz2
     cases hot:okText f.sy
     . have HX:Hi (q=false):=h_ (by rw[HQ3.u,hot];rfl)
       go_wp2_with fail;go_ret;exact⟨qe9 HX.u.symm,HBw.u⟩
     have HQ4:Hi (q=(decide (f.va.length≠0∨f.sy.size=0)&&ruleOk f.is&&ruleOk f.wh&&ruleOk f.va&&ruleOk f.mu)):=h_ (by rw[HQ3.u,hot,Zc]);clear hot;have hsp:(f.va.length=0/\(0:Int)<f.sy.size)∨(f.va.length=0/\f.sy.size=0)∨((f.va.length:Int)==0)=false:=by
      by_cases hv:f.va.length=0
      . by_cases hs0:f.sy.size=0
        . exact .inr (.inl ⟨hv,hs0⟩)
        . exact .inl ⟨hv,by omega⟩
      . exact .inr (.inr (Yf.2 (by omega)))
     rcases hsp with ⟨hv1,hv2⟩ | hrest
     . have HX:Hi (q=false):=h_ (by
        rw[HQ4.u,Yi (by omega)];rfl)
       go_wp2_with fail;go_ret;exact⟨qe9 HX.u.symm,HBw.u⟩
     have HQ5:Hi (q=(ruleOk f.is&&ruleOk f.wh&&ruleOk f.va&&ruleOk f.mu)):=h_ (by
      rw[HQ4.u,Ym,Zc];rcases hrest with ⟨h1,h2⟩ | h1
      . omega
      . have:=Yf.1 h1
        omega)
     clear HQ3 HQ4;rcases hrest with ⟨hv1,hv2⟩ | hv1
     all_goals
      go_wp2_with fail;refine(q3v ai aic f.is _ HF.u.il HSr.u.i HF.u.i).mono ?_;rintro e w5 ⟨rfl,hb⟩;replace HBw:=mT HBw hb;replace HSr:=h_ (HSr.u.mono hb);replace HKr:=mB HKr hb;clear hb y0 y1 y2 y3 y4 y5 y6 y7 y8;clear hv1
      try clear hv2
      obtain⟨y0,y1,y2,y3,y4,y5,y6,y7,y8⟩:=nine HKr.u;cases hri:ruleOk f.is
      . have HX:Hi (q=false):=h_ (by rw[HQ5.u,hri];simp)
        go_wp2_with fail;go_ret;exact⟨qe9 HX.u.symm,HBw.u⟩
      rw[hri]at HQ5;go_wp2_with fail;refine(q3v ah ahc f.wh _ HF.u.hl HSr.u.h HF.u.h).mono ?_;rintro e w5 ⟨rfl,hb⟩;replace HBw:=mT HBw hb;replace HSr:=h_ (HSr.u.mono hb);replace HKr:=mB HKr hb;clear hb y0 y1 y2 y3 y4 y5 y6 y7 y8;obtain⟨y0,y1,y2,y3,y4,y5,y6,y7,y8⟩:=nine HKr.u;cases hrh:ruleOk f.wh
      . have HX:Hi (q=false):=h_ (by rw[HQ5.u,hrh];simp)
        go_wp2_with fail;go_ret;exact⟨qe9 HX.u.symm,HBw.u⟩
      rw[hrh]at HQ5;go_wp2_with fail;refine(q3v av avc f.va _ HF.u.vl HSr.u.v HF.u.v).mono ?_;rintro e w5 ⟨rfl,hb⟩;replace HBw:=mT HBw hb;replace HSr:=h_ (HSr.u.mono hb);replace HKr:=mB HKr hb;clear hb y0 y1 y2 y3 y4 y5 y6 y7 y8;obtain⟨y0,y1,y2,y3,y4,y5,y6,y7,y8⟩:=nine HKr.u;cases hrv:ruleOk f.va
      . have HX:Hi (q=false):=h_ (by rw[HQ5.u,hrv];simp)
        go_wp2_with fail;go_ret;exact⟨qe9 HX.u.symm,HBw.u⟩
      rw[hrv]at HQ5;go_wp2_with fail;refine(q3v au auc f.mu _ HF.u.ul HSr.u.u HF.u.u).mono ?_;rintro e w5 ⟨rfl,hb⟩;replace HBw:=mT HBw hb;clear hb y0 y1 y2 y3 y4 y5 y6 y7 y8;have HX:Hi (q=ruleOk f.mu):=h_ (by rw[HQ5.u];simp);generalize ruleOk f.mu=z at *;cases z
      all_goals
       go_wp2_with fail;go_ret;exact⟨qe9 HX.u.symm,HBw.u⟩
end Go.Proofs.YtebbgodlijlioaaGreatDoor
