import Derived.Test.YtfmammdgehbjhaaGreatDoorW25
set_option maxRecDepth 100000
set_option maxHeartbeats 64000000
namespace Go.Proofs.YtfmammdgehbjhaaGreatDoor
open Go Go.RowKit
theorem q0m (T:List ByteArray)(hs:cL T=true∨cB T=true∨cR T=true∨cF T=true)(a:Option Addr)(c:Nat)(w:World)(_hc:T.length<=c)(hl:T.length<=1048576)(ht:TkOk T)(ha:Tks w a T) :
 Calls Tryz.prog 12 #[.slice a T.length c] w (StmO w T):=by
 have HT:=h_ ht;have HAw:=h_ ha
 have HB0:=h_ (((bR w.heap.size w).alloc (nR _) (.cells Ja 44)).alloc (by simp) (.cells Ja 44))
 have HR0:=h_ ((Blk.new w 44 Ja).alloc (.cells Ja 44))
 have HN0:=h_ (Blk.new (w.alloc (.cells Ja 44)) 44 Ja)
 rw[Yy]at HN0
 obtain⟨W0,hW0⟩:=Nq ((w.alloc (.cells Ja 44)).alloc (.cells Ja 44))
 have HNl:=HN0
 rw[hW0]at HB0 HR0 HN0
 clear ht
 go_enter Tryz.func12,Tryz.ntmps12
 go_upto_region 3 with (refine stR HN0.u ?_)
 clear HNl
 replace HB0:=h_ (q8i HB0.u (g:=w.heap.size+1) (by omega) Ja)
 replace HR0:=h_ (HR0.u.rowS_other (g:=w.heap.size+1) (by omega) Ja)
 replace HN0:=h_ (HN0.u.rowS [Ya 0,Yc,Yc,.bool false,Ya 0,Yb,Yb,Yb,Yb,Yc,Yb])
 have HA:=h_ (ha.mono HB0.u)
 clear hW0 ha
 generalize W0.setRow (w.heap.size+1) _=W1 at *
 have HB1:=h_ (bR W1.heap.size W1)
 go_cut [30] from 17 (fun s wx=>s=.bool (cL T)/\Below W1.heap.size W1 wx)
 case first =>
  as_aux_lemma =>
   by_cases hk:T.length=2
   case neg =>
    have hn:((T.length:Int)==2)=false:=Ye.2 (by omega);have HC:Hi (cL T=false):=h_ (by unfold cL;rw[Yg hk];rfl);go_wp2_with fail;go_meet;exact⟨by rw[HC.u],bR _ _⟩
   have hn:((T.length:Int)==2)=true:=by simp[hk]
   have HC:Hi (cL T=(decide (pk T 0=kLabel)&&goodN (pk T 1))):=h_ (by unfold cL;rw[Yh hk];rfl);have HLn:=h_ hk;have l0:(0:Int)<T.length:=by omega
   have l1:(1:Int)<T.length:=by omega
   have HBx:=h_ (bR W1.heap.size W1);clear hk;obtain⟨b,o,p0,rfl,-,y0a,y0b,y0c⟩:=pk_tok (HA.u.mono HBx.u) (k:=0) (by have:=HLn.u;omega);rw[show o+0*3=o by omega]at y0a y0b y0c;have HQ0:=h_ fun W=>qf6 (t:=pk T 0) (s:=kLabel) p0 (by decide) W;go_wp2_with fail;by_cases hq0:decide (pk T 0=kLabel)=true
   case neg =>
    rw[Vk]at hq0;rw[hq0]at HC HQ0;refine(HQ0.u _).mono ?_;rintro e w2 ⟨rfl,hb⟩;replace HBx:=mT HBx hb;clear hb y0a y0b y0c;go_wp2_with fail;go_meet;exact⟨by rw[HC.u];rfl,HBx.u⟩
   rw[hq0]at HC HQ0;refine(HQ0.u _).mono ?_;rintro e w2 ⟨rfl,hb⟩;replace HBx:=mT HBx hb;clear hb y0a y0b y0c HQ0 hq0;obtain⟨b',o',p1,e',-,y1a,y1b,y1c⟩:=pk_tok (HA.u.mono HBx.u) (k:=1) (by have:=HLn.u;omega);cases e';rw[show o+1*3=o+3 by omega]at y1a y1b y1c;have hz1:(pk T 1).size<=1048576:=by rw[pk_lt (show 1<T.length by have:=HLn.u;omega)];exact(HT.u.at (by have:=HLn.u;omega)).2
   have HQ1:=h_ fun W=>qch (t:=pk T 1) p1 (by omega) W;go_wp2_with fail;refine(HQ1.u _).mono ?_;rintro e w2 ⟨rfl,hb⟩;replace HBx:=mT HBx hb;clear hb y1a y1b y1c;go_wp2_with fail;go_meet;exact⟨by rw[HC.u];rfl,HBx.u⟩
 case rest =>
  obtain⟨rfl,hb⟩:=hcut;replace HB1:=mT HB1 hb;replace HA:=h_ (HA.u.mono hb);clear hb;cases hcL:cL T
  case true =>
   as_aux_lemma =>
    obtain⟨hst,hgd,hln⟩:=cL_st hcL;have HSt:=h_ hst;have HGd:=h_ hgd;have HLn:=h_ hln;obtain⟨b,o,p1,rfl,-,z0,z1,z2⟩:=pk_tok HA.u (k:=1) hln;rw[show o+1*3=o+3 by omega]at z0 z1 z2;rw[qf1 hgd]at z1;have l1:(1:Int)<T.length:=(by omega);have HRc:=h_ (HR0.u.mono HB1.u HR0.u.lt);have HBw:=h_ (HB0.u.trans (HB1.u.mono HB0.u.size));clear hst hgd hln;go_wp2_with (refine stR HRc.u ?_);have HBl:=h_ (HRc.u.rowS #[Ya 1,.string (pk T 1),Yc,.bool false,Ya 0,Yb,Yb,Yb,Yb,Yc,Yb].toList);obtain⟨⟨c0,c1,c2,c3,c4,c5⟩,c6,c7,c8,c9,c10⟩:=eleven HBl.u;exact bodyPost_ret (v:=.agg #[Ya 1,.string (pk T 1),Yc,.bool false,Ya 0,Yb,Yb,Yb,Yb,Yc,Yb]) (by simp[results,Tryz.results12,go_sem,c0,c1,c2,c3,c4,c5,c6,c7,c8,c9,c10]) rfl ⟨_,rfl,q8i HBw.u (nR _) _,.inl ⟨_,HSt.u,qas _ _ 1 _ _⟩⟩
  go_upto_region 5 with fail
  go_cut [55] from 36 (fun s wx=>s=.bool (cB T)/\Below wc.heap.size wc wx)
  case first =>
   as_aux_lemma =>
    by_cases hk:T.length=3
    case neg =>
     have hn:((T.length:Int)==3)=false:=Ye.2 (by omega);have HC:Hi (cB T=false):=h_ (by unfold cB;rw[Yg hk];rfl);go_wp2_with fail;go_meet;exact⟨by rw[HC.u],bR _ _⟩
    have hn:((T.length:Int)==3)=true:=(by simp[hk]);have HC:Hi (cB T=(decide (pk T 0=kBelow)&&(goodN (pk T 1)&&goodN (pk T 2)))):=h_ (by unfold cB;rw[Yh hk];rfl);have HLn:=h_ hk;have l0:(0:Int)<T.length:=(by omega);have l1:(1:Int)<T.length:=(by omega);have l2:(2:Int)<T.length:=(by omega);have HBx:=h_ (bR wc.heap.size wc);clear hk;obtain⟨b,o,p0,rfl,-,y0a,y0b,y0c⟩:=pk_tok (HA.u.mono HBx.u) (k:=0) (by have:=HLn.u;omega);rw[show o+0*3=o by omega]at y0a y0b y0c;have HQ0:=h_ fun W=>qf6 (t:=pk T 0) (s:=kBelow) p0 (by decide) W;go_wp2_with fail;by_cases hq0:decide (pk T 0=kBelow)=true
    case neg =>
     rw[Vk]at hq0;rw[hq0]at HC HQ0;refine(HQ0.u _).mono ?_;rintro e w2 ⟨rfl,hb⟩;replace HBx:=mT HBx hb;clear hb y0a y0b y0c;go_wp2_with fail;go_meet;exact⟨by rw[HC.u];rfl,HBx.u⟩
    rw[hq0]at HC HQ0;refine(HQ0.u _).mono ?_;rintro e w2 ⟨rfl,hb⟩;replace HBx:=mT HBx hb;clear hb y0a y0b y0c HQ0 hq0;obtain⟨b',o',p1,e',-,y1a,y1b,y1c⟩:=pk_tok (HA.u.mono HBx.u) (k:=1) (by have:=HLn.u;omega);cases e';rw[show o+1*3=o+3 by omega]at y1a y1b y1c;have hz1:(pk T 1).size<=1048576:=(by rw[pk_lt (show 1<T.length by have:=HLn.u;omega)];exact(HT.u.at (by have:=HLn.u;omega)).2);have HQ1:=h_ fun W=>qch (t:=pk T 1) p1 (by omega) W;go_wp2_with fail;by_cases hq1:goodN (pk T 1)=true
    case neg =>
     rw[Vk]at hq1;rw[hq1]at HC HQ1;refine(HQ1.u _).mono ?_;rintro e w2 ⟨rfl,hb⟩;replace HBx:=mT HBx hb;clear hb y1a y1b y1c;go_wp2_with fail;go_meet;exact⟨by rw[HC.u];rfl,HBx.u⟩
    rw[hq1]at HC HQ1;refine(HQ1.u _).mono ?_;rintro e w2 ⟨rfl,hb⟩;replace HBx:=mT HBx hb;clear hb y1a y1b y1c HQ1 hq1;obtain⟨b',o',p2,e',-,y2a,y2b,y2c⟩:=pk_tok (HA.u.mono HBx.u) (k:=2) (by have:=HLn.u;omega);cases e';rw[show o+2*3=o+6 by omega]at y2a y2b y2c;have hz2:(pk T 2).size<=1048576:=(by rw[pk_lt (show 2<T.length by have:=HLn.u;omega)];exact(HT.u.at (by have:=HLn.u;omega)).2);have HQ2:=h_ fun W=>qch (t:=pk T 2) p2 (by omega) W;go_wp2_with fail;refine(HQ2.u _).mono ?_;rintro e w2 ⟨rfl,hb⟩;replace HBx:=mT HBx hb;clear hb y2a y2b y2c;go_wp2_with fail;go_meet;exact⟨by rw[HC.u];rfl,HBx.u⟩
  case rest =>
   obtain⟨rfl,hb⟩:=hcut;replace HB1:=mT HB1 hb;replace HA:=h_ (HA.u.mono hb);clear hb;cases hcB:cB T
   case true =>
    as_aux_lemma =>
     obtain⟨hst,hgd,hgd2,hln⟩:=cB_st hcB;have HSt:=h_ hst;have l1:(1:Int)<T.length:=(by omega);have l2:(2:Int)<T.length:=(by omega);obtain⟨b,o,p1,rfl,-⟩:=HAw.u 1 (by omega);have HT1:Hi (∀W,Below w.heap.size w W->W.cell? ⟨b,o+3+1,none⟩=some (.string (pk T 1))):=h_ fun W hW=>by
      obtain⟨b',o',p',e',-,z0,z1,z2⟩:=pk_tok (HAw.u.mono hW) (k:=1) (by omega);cases e';rw[qf1 hgd,show o+1*3=o+3 by omega]at z1;exact z1
     have HT2:Hi (∀W,Below w.heap.size w W->W.cell? ⟨b,o+6+1,none⟩=some (.string (pk T 2))):=h_ fun W hW=>by
      obtain⟨b',o',p',e',-,z0,z1,z2⟩:=pk_tok (HAw.u.mono hW) (k:=2) (by omega);cases e';rw[qf1 hgd2,show o+2*3=o+6 by omega]at z1;exact z1
     have HRc:=h_ (HR0.u.mono HB1.u HR0.u.lt);have HBw:=h_ (HB0.u.trans (HB1.u.mono HB0.u.size));clear hst hgd hgd2 hln;go_wp2_with fail;refine wp_region_held_drew (S:=fun w'=>Below w.heap.size w w') (by kernel_rfl) HBw.u.drew (fun zz=>?_);refine tj 0 56 (.slice (some ⟨b,o,none⟩) T.length c) zz ?_;refine tj 1 57 (Yd b (o+3)) zz ?_;refine tj 2 58 (Yd b (o+3+1)) zz ?_;refine tj 3 59 (.string (pk T 1)) zz ?_ (hy:=fun w hS=>by have z:=HT1.u w hS;simp[execOp,go_sem,z]);simp only[sX,sY,sZ];refine tj 4 60 (.slice (some ⟨b,o,none⟩) T.length c) zz ?_;refine tj 5 61 (Yd b (o+6)) zz ?_;refine tj 6 62 (Yd b (o+6+1)) zz ?_;refine tj 7 63 (.string (pk T 2)) zz ?_ (hy:=fun w hS=>by have z:=HT2.u w hS;simp[execOp,go_sem,z]);simp only[sX,sY,sZ];refine tj 8 64 (.agg (Jx (pk T 1) (pk T 2))) zz ?_ (hy:=fun w hS=>by exact q4k 44 #[(0,.const (Ya 2)),(1,.tmp 59),(2,.tmp 63)] rfl _ (by kernel_rfl));simp only[sX,sY,sZ];have HRd:Hi (Blk wc.drew w.heap.size 44 nil44):=h_ HRc.u;have HBd:=h_ (q8i HBw.u.drew (nR w.heap.size) (Jx (pk T 1) (pk T 2)));refine storeY (i:=9) (w':=wc.drew.setRow w.heap.size (Jx (pk T 1) (pk T 2))) rfl (by rfl) (by kernel_rfl) rfl (q0p 44 (.tmp 2) (.tmp 64) rfl w.heap.size _ rfl rfl 44 _ HRd.u (by kernel_rfl) rfl (by simp[Value.oneCell'])) rfl HBd.u ?_;refine wpAnyH_done (by kernel_rfl) ?_ _;clear zz;have HBl:=h_ (HRd.u.rowS (Jx (pk T 1) (pk T 2)).toList);obtain⟨⟨c0,c1,c2,c3,c4,c5⟩,c6,c7,c8,c9,c10⟩:=eleven HBl.u;go_wp2_with fail;exact bodyPost_ret (v:=.agg (Jx (pk T 1) (pk T 2))) (by simp[results,Tryz.results12,go_sem,c0,c1,c2,c3,c4,c5,c6,c7,c8,c9,c10]) rfl ⟨_,rfl,HBd.u,.inl ⟨_,HSt.u,qas _ _ 2 _ _⟩⟩
   go_upto_region 7 with fail
   go_cut [90] from 65 (fun s wx=>s=.bool (cR T)/\Below wc.heap.size wc wx)
   case first =>
    as_aux_lemma =>
     by_cases hk:T.length=4
     case neg =>
      have hn:((T.length:Int)==4)=false:=Ye.2 (by omega);have HC:Hi (cR T=false):=h_ (by unfold cR;rw[Yg hk];rfl);go_wp2_with fail;go_meet;exact⟨by rw[HC.u],bR _ _⟩
     have hn:((T.length:Int)==4)=true:=(by simp[hk]);have HC:Hi (cR T=(decide (pk T 0=kRole)&&(goodN (pk T 1)&&(decide (pk T 2=kAt)&&goodN (pk T 3))))):=h_ (by unfold cR;rw[Yh hk];rfl);have HLn:=h_ hk;have l0:(0:Int)<T.length:=(by omega);have l1:(1:Int)<T.length:=(by omega);have l2:(2:Int)<T.length:=(by omega);have l3:(3:Int)<T.length:=(by omega);have HBx:=h_ (bR wc.heap.size wc);clear hk;obtain⟨b,o,p0,rfl,-,y0a,y0b,y0c⟩:=pk_tok (HA.u.mono HBx.u) (k:=0) (by have:=HLn.u;omega);rw[show o+0*3=o by omega]at y0a y0b y0c;have HQ0:=h_ fun W=>qf6 (t:=pk T 0) (s:=kRole) p0 (by decide) W;go_wp2_with fail;by_cases hq0:decide (pk T 0=kRole)=true
     case neg =>
      rw[Vk]at hq0;rw[hq0]at HC HQ0;refine(HQ0.u _).mono ?_;rintro e w2 ⟨rfl,hb⟩;replace HBx:=mT HBx hb;clear hb y0a y0b y0c;go_wp2_with fail;go_meet;exact⟨by rw[HC.u];rfl,HBx.u⟩
     rw[hq0]at HC HQ0;refine(HQ0.u _).mono ?_;rintro e w2 ⟨rfl,hb⟩;replace HBx:=mT HBx hb;clear hb y0a y0b y0c HQ0 hq0;obtain⟨b',o',p1,e',-,y1a,y1b,y1c⟩:=pk_tok (HA.u.mono HBx.u) (k:=1) (by have:=HLn.u;omega);cases e';rw[show o+1*3=o+3 by omega]at y1a y1b y1c;have hz1:(pk T 1).size<=1048576:=(by rw[pk_lt (show 1<T.length by have:=HLn.u;omega)];exact(HT.u.at (by have:=HLn.u;omega)).2);have HQ1:=h_ fun W=>qch (t:=pk T 1) p1 (by omega) W;go_wp2_with fail;by_cases hq1:goodN (pk T 1)=true
     case neg =>
      rw[Vk]at hq1;rw[hq1]at HC HQ1;refine(HQ1.u _).mono ?_;rintro e w2 ⟨rfl,hb⟩;replace HBx:=mT HBx hb;clear hb y1a y1b y1c;go_wp2_with fail;go_meet;exact⟨by rw[HC.u];rfl,HBx.u⟩
     rw[hq1]at HC HQ1;refine(HQ1.u _).mono ?_;rintro e w2 ⟨rfl,hb⟩;replace HBx:=mT HBx hb;clear hb y1a y1b y1c HQ1 hq1;obtain⟨b',o',p2,e',-,y2a,y2b,y2c⟩:=pk_tok (HA.u.mono HBx.u) (k:=2) (by have:=HLn.u;omega);cases e';rw[show o+2*3=o+6 by omega]at y2a y2b y2c;have HQ2:=h_ fun W=>qf6 (t:=pk T 2) (s:=kAt) p2 (by decide) W;go_wp2_with fail;by_cases hq2:decide (pk T 2=kAt)=true
     case neg =>
      rw[Vk]at hq2;rw[hq2]at HC HQ2;refine(HQ2.u _).mono ?_;rintro e w2 ⟨rfl,hb⟩;replace HBx:=mT HBx hb;clear hb y2a y2b y2c;go_wp2_with fail;go_meet;exact⟨by rw[HC.u];rfl,HBx.u⟩
     rw[hq2]at HC HQ2;refine(HQ2.u _).mono ?_;rintro e w2 ⟨rfl,hb⟩;replace HBx:=mT HBx hb;clear hb y2a y2b y2c HQ2 hq2;obtain⟨b',o',p3,e',-,y3a,y3b,y3c⟩:=pk_tok (HA.u.mono HBx.u) (k:=3) (by have:=HLn.u;omega);cases e';rw[show o+3*3=o+9 by omega]at y3a y3b y3c;have hz3:(pk T 3).size<=1048576:=(by rw[pk_lt (show 3<T.length by have:=HLn.u;omega)];exact(HT.u.at (by have:=HLn.u;omega)).2);have HQ3:=h_ fun W=>qch (t:=pk T 3) p3 (by omega) W;go_wp2_with fail;refine(HQ3.u _).mono ?_;rintro e w2 ⟨rfl,hb⟩;replace HBx:=mT HBx hb;clear hb y3a y3b y3c;go_wp2_with fail;go_meet;exact⟨by rw[HC.u];rfl,HBx.u⟩
   case rest =>
    obtain⟨rfl,hb⟩:=hcut;replace HB1:=mT HB1 hb;replace HA:=h_ (HA.u.mono hb);clear hb;cases hcR:cR T
    case true =>
     as_aux_lemma =>
      obtain⟨hst,hgd,hgd2,hln⟩:=cR_st hcR;have HSt:=h_ hst;have l1:(1:Int)<T.length:=(by omega);have l2:(3:Int)<T.length:=(by omega);obtain⟨b,o,p1,rfl,-⟩:=HAw.u 1 (by omega);have HT1:Hi (∀W,Below w.heap.size w W->W.cell? ⟨b,o+3+1,none⟩=some (.string (pk T 1))):=h_ fun W hW=>by
       obtain⟨b',o',p',e',-,z0,z1,z2⟩:=pk_tok (HAw.u.mono hW) (k:=1) (by omega);cases e';rw[qf1 hgd,show o+1*3=o+3 by omega]at z1;exact z1
      have HT2:Hi (∀W,Below w.heap.size w W->W.cell? ⟨b,o+9+1,none⟩=some (.string (pk T 3))):=h_ fun W hW=>by
       obtain⟨b',o',p',e',-,z0,z1,z2⟩:=pk_tok (HAw.u.mono hW) (k:=3) (by omega);cases e';rw[qf1 hgd2,show o+3*3=o+9 by omega]at z1;exact z1
      have HRc:=h_ (HR0.u.mono HB1.u HR0.u.lt);have HBw:=h_ (HB0.u.trans (HB1.u.mono HB0.u.size));clear hst hgd hgd2 hln;go_wp2_with fail;refine wp_region_held_drew (S:=fun w'=>Below w.heap.size w w') (by kernel_rfl) HBw.u.drew (fun zz=>?_);refine tj 0 91 (.slice (some ⟨b,o,none⟩) T.length c) zz ?_;refine tj 1 92 (Yd b (o+3)) zz ?_;refine tj 2 93 (Yd b (o+3+1)) zz ?_;refine tj 3 94 (.string (pk T 1)) zz ?_ (hy:=fun w hS=>by have z:=HT1.u w hS;simp[execOp,go_sem,z]);simp only[sX,sY,sZ];refine tj 4 95 (.slice (some ⟨b,o,none⟩) T.length c) zz ?_;refine tj 5 96 (Yd b (o+9)) zz ?_;refine tj 6 97 (Yd b (o+9+1)) zz ?_;refine tj 7 98 (.string (pk T 3)) zz ?_ (hy:=fun w hS=>by have z:=HT2.u w hS;simp[execOp,go_sem,z]);simp only[sX,sY,sZ];refine tj 8 99 (.agg (Jy (pk T 1) (pk T 3))) zz ?_ (hy:=fun w hS=>by exact q4k 44 #[(0,.const (Ya 3)),(1,.tmp 94),(2,.tmp 98)] rfl _ (by kernel_rfl));simp only[sX,sY,sZ];have HRd:Hi (Blk wc.drew w.heap.size 44 nil44):=h_ HRc.u;have HBd:=h_ (q8i HBw.u.drew (nR w.heap.size) (Jy (pk T 1) (pk T 3)));refine storeY (i:=9) (w':=wc.drew.setRow w.heap.size (Jy (pk T 1) (pk T 3))) rfl (by rfl) (by kernel_rfl) rfl (q0p 44 (.tmp 2) (.tmp 99) rfl w.heap.size _ rfl rfl 44 _ HRd.u (by kernel_rfl) rfl (by simp[Value.oneCell'])) rfl HBd.u ?_;refine wpAnyH_done (by kernel_rfl) ?_ _;clear zz;have HBl:=h_ (HRd.u.rowS (Jy (pk T 1) (pk T 3)).toList);obtain⟨⟨c0,c1,c2,c3,c4,c5⟩,c6,c7,c8,c9,c10⟩:=eleven HBl.u;go_wp2_with fail;exact bodyPost_ret (v:=.agg (Jy (pk T 1) (pk T 3))) (by simp[results,Tryz.results12,go_sem,c0,c1,c2,c3,c4,c5,c6,c7,c8,c9,c10]) rfl ⟨_,rfl,HBd.u,.inl ⟨_,HSt.u,qas _ _ 3 _ _⟩⟩
    go_upto_region 9 with fail
    go_cut [129] from 100 (fun s wx=>s=.bool (cF T)/\Below wc.heap.size wc wx)
    case first =>
     as_aux_lemma =>
      by_cases hk:T.length<5
      case pos =>
       have hn:(T.length:Int)<5:=(by omega);have HC:Hi (cF T=true):=h_ (by unfold cF;rw[Yh hk];rfl);clear hk;go_wp2_with fail;go_meet;exact⟨by rw[HC.u],bR _ _⟩
      have hn:¬ (T.length:Int)<5:=(by omega);have HC:Hi (cF T=(!decide (pk T 0=kField)||(!goodN (pk T 1)||(decide (tyO (pk T 2)=0)||!decide (pk T 3=kAt))))):=h_ (by unfold cF;rw[Yg hk];rfl);have HLn:Hi (5<=T.length):=h_ (by omega);have l0:(0:Int)<T.length:=(by omega);have l1:(1:Int)<T.length:=(by omega);have l2:(2:Int)<T.length:=(by omega);have l3:(3:Int)<T.length:=(by omega);have HBx:=h_ (bR wc.heap.size wc);clear hk;obtain⟨b,o,p0,rfl,-,y0a,y0b,y0c⟩:=pk_tok (HA.u.mono HBx.u) (k:=0) (by have:=HLn.u;omega);rw[show o+0*3=o by omega]at y0a y0b y0c;have HQ0:=h_ fun W=>qf6 (t:=pk T 0) (s:=kField) p0 (by decide) W;go_wp2_with fail;by_cases hq0:decide (pk T 0=kField)=true
      case neg =>
       rw[Vk]at hq0;rw[hq0]at HC HQ0;refine(HQ0.u _).mono ?_;rintro e w2 ⟨rfl,hb⟩;replace HBx:=mT HBx hb;clear hb y0a y0b y0c HQ0;go_wp2_with fail;go_meet;exact⟨by rw[HC.u];rfl,HBx.u⟩
      rw[hq0]at HC HQ0;clear hq0;refine(HQ0.u _).mono ?_;rintro e w2 ⟨rfl,hb⟩;replace HBx:=mT HBx hb;clear hb y0a y0b y0c HQ0;obtain⟨b',o',p1,e',-,y1a,y1b,y1c⟩:=pk_tok (HA.u.mono HBx.u) (k:=1) (by have:=HLn.u;omega);cases e';rw[show o+1*3=o+3 by omega]at y1a y1b y1c;have hz1:(pk T 1).size<=1048576:=(by rw[pk_lt (show 1<T.length by have:=HLn.u;omega)];exact(HT.u.at (by have:=HLn.u;omega)).2);have HQ1:=h_ fun W=>qch (t:=pk T 1) p1 (by omega) W;go_wp2_with fail;by_cases hq1:goodN (pk T 1)=true
      case neg =>
       rw[Vk]at hq1;rw[hq1]at HC HQ1;refine(HQ1.u _).mono ?_;rintro e w2 ⟨rfl,hb⟩;replace HBx:=mT HBx hb;clear hb y1a y1b y1c HQ1;go_wp2_with fail;go_meet;exact⟨by rw[HC.u];rfl,HBx.u⟩
      rw[hq1]at HC HQ1;clear hq1;refine(HQ1.u _).mono ?_;rintro e w2 ⟨rfl,hb⟩;replace HBx:=mT HBx hb;clear hb y1a y1b y1c HQ1;obtain⟨b',o',p2,e',-,y2a,y2b,y2c⟩:=pk_tok (HA.u.mono HBx.u) (k:=2) (by have:=HLn.u;omega);cases e';rw[show o+2*3=o+6 by omega]at y2a y2b y2c;have HQ2:=h_ fun W=>q8b (pk T 2) p2 W;go_wp2_with fail;obtain⟨ty,hty⟩:=Nq (tyO (pk T 2));rw[hty]at HC HQ2;clear hty;by_cases hq2:ty=0
      case pos =>
       have hq':((ty:Int)==0)=true:=(by simp[hq2]);rw[Yh hq2]at HC;clear hq2;refine(HQ2.u _).mono ?_;rintro e w2 ⟨rfl,hb⟩;replace HBx:=mT HBx hb;clear hb y2a y2b y2c HQ2;go_wp2_with fail;go_meet;exact⟨by rw[HC.u];rfl,HBx.u⟩
      have hq':((ty:Int)==0)=false:=Ye.2 (by omega);rw[Yg hq2]at HC;clear hq2;refine(HQ2.u _).mono ?_;rintro e w2 ⟨rfl,hb⟩;replace HBx:=mT HBx hb;clear hb y2a y2b y2c HQ2;obtain⟨b',o',p3,e',-,y3a,y3b,y3c⟩:=pk_tok (HA.u.mono HBx.u) (k:=3) (by have:=HLn.u;omega);cases e';rw[show o+3*3=o+9 by omega]at y3a y3b y3c;have HQ3:=h_ fun W=>qf6 (t:=pk T 3) (s:=kAt) p3 (by decide) W;go_wp2_with fail;refine(HQ3.u _).mono ?_;rintro e w2 ⟨rfl,hb⟩;replace HBx:=mT HBx hb;clear hb y3a y3b y3c HQ3;go_wp2_with fail;go_meet;exact⟨by rw[HC.u];rfl,HBx.u⟩
    case rest =>
     obtain⟨rfl,hb⟩:=hcut;replace HB1:=mT HB1 hb;replace HA:=h_ (HA.u.mono hb);clear hb;cases hcF:cF T
     case true =>
      as_aux_lemma =>
       have HRc:=h_ (HR0.u.mono HB1.u HR0.u.lt);have HNc:=h_ (HN0.u.mono HB1.u HN0.u.lt);have HBw:=h_ (HB0.u.trans (HB1.u.mono HB0.u.size));have HNo:Hi (∀x,¬ StG T x):=h_ fun x hx=>by
        rcases qj2 hx with h | h | h | ⟨h,-⟩
        . rw[hcL]at h;cases h
        . rw[hcB]at h;cases h
        . rw[hcR]at h;cases h
        . rw[hcF]at h;cases h
       clear hcL hcB hcR hcF;obtain⟨⟨n0,n1,n2,n3,n4,n5⟩,n6,n7,n8,n9,n10⟩:=eleven HNc.u;go_wp2_with (refine stR HRc.u ?_);have HBl:=h_ (HRc.u.rowS Ja.toList);obtain⟨⟨c0,c1,c2,c3,c4,c5⟩,c6,c7,c8,c9,c10⟩:=eleven HBl.u;exact bodyPost_ret (v:=.agg Ja) (by simp[results,Tryz.results12,go_sem,c0,c1,c2,c3,c4,c5,c6,c7,c8,c9,c10]) rfl ⟨_,rfl,q8i HBw.u (nR _) _,.inr ⟨HNo.u,rfl⟩⟩
     case false =>
      exfalso;rcases hs with h | h | h | h
      . rw[hcL]at h;cases h
      . rw[hcB]at h;cases h
      . rw[hcR]at h;cases h
      . rw[hcF]at h;cases h
end Go.Proofs.YtfmammdgehbjhaaGreatDoor
