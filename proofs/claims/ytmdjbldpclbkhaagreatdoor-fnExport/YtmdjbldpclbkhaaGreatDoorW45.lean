import Derived.Test.YtmdjbldpclbkhaaGreatDoorW43
set_option linter.all false
set_option maxRecDepth 100000
set_option maxHeartbeats 0
namespace Go.Proofs.YtmdjbldpclbkhaaGreatDoor
open Value renaming slice->Sl,string->St,bool->Bo
open Obj renaming cells->Cl
open Ending renaming returned->Rt
open Go Go.RowKit Go.Proofs.Tryz
def km {p:Prop}(h:p:=by first | exact qps ad | (simp[intOf];omega)):p:=h
def ko {p:Prop}(h:p:=by rw[Ys e];clear e;go_wp2;go_meet;exact⟨by rw[Y6 Hh.u],rfl⟩):p:=h
def kp {p:Prop}(h:p:=by rw[Yo e];clear e;go_wp2;go_meet;exact⟨by rw[Y2 Hh.u],rfl⟩):p:=h
def q2o (j:Nat)(f:Nat->Nat)(aN:j<=1048576)(p:Nat)(hp:p<=1000)(g:Nat)(fA:g<=20)(D:SD)(d:kig j f D p g)(w:Tw)(a:To)(c:Nat)(u:kbs w a j f) :
 Calls prog 15 #[.slice a j c,Yf p,Yf g] w λac w'=>∃e h v3 m o,ac=.returned (.tuple #[.agg #[e,h,v3,m],Yf ((D.pq g+D.ls.length+1:Nat):Int)])/\OwM w' w.1.size e h v3 m (fmX j f D (kd4 j f D g)) o/\Bw w w':=by
 have af:=h_ d;have a0:Hi (∀az,Bw w az->kbs az a j f):=h_ λaz q=>u.mono q;have fx:=d.hN1;have fy:=d.hN2;have fF:=d.hlp;have fL:=d.hq0;have fH:=d.hn3;have m:Bw w ((w.alloc (.cells Jf 28)).alloc (.cells Jf 28)):=((bR w.1.size w).alloc (nR _) _).alloc fT _;have y:=(Blk.new w 28 Jf).alloc (.cells Jf 28);have e:=Blk.new (w.alloc (.cells Jf 28)) 28 Jf;simp only[Yv]at e;obtain⟨W0,t⟩:=Nq ((w.alloc (.cells Jf 28)).alloc (.cells Jf 28));rw[t]at m y e;obtain⟨r,s⟩:=Nq (w.1.size+1);rw[s]at e;have fr:w.1.size<r:=fP
 have h:Hi (MMk r ⟨[],[],[],[]⟩ [] Yg Yg Yg Yg w W0):=h_ ⟨e,OwM.nil _ _,m,y,fr⟩;have z:=h_ (d.cD W0 a c (u.mono m));obtain⟨B,A⟩:=oB t s;clear m y e u d t s;go_enter func15,ntmps15;go_upto_region 2 with (refine q84 rfl 28 #[] rfl Jf fR ?_)
 rw[B.u,A.u];clear B A;go_wp2_with fail;refine z.mono ?_;rintro ac y ⟨vp,rfl,A,q⟩;obtain⟨t,s,rfl,-,-⟩:=qat A;have C:=(bR y.1.size y).alloc (nR _) (.cells (Jt D.N t D.lp.length s) 40);have G:=q.trans (C.mono q.size);have a1:Hi (Blk _ _ 40 [Yf D.N,.slice t D.lp.length s]):=h_ (Blk.new y 40 (Jt D.N t D.lp.length s));have U:Hi (OwP (y.alloc (.cells (Jt D.N t D.lp.length s) 40)) w.1.size (.slice t D.lp.length s) D.lp):=h_ (qeo (qjr A h.bl.size) C);have J:=h_ (h.mono G);obtain⟨W2,e⟩:=Nq (y.alloc (.cells (Jt D.N t D.lp.length s) 40));obtain⟨B9,d⟩:=Nq y.1.size;have di:B9≠r:=by have:=h.bx.lt;have:=q.size;omega
 rw[e]at a1 U J;rw[d]at a1;clear A q C G h z
 go_upto_block 0 with fail
 try rw[e]
 try rw[d]
 clear e d;go_cut [] from 31 (λI=>∃F c1,MMk r ⟨D.lab D.N,[],[],[]⟩ [] (.slice F D.N c1) Yg Yg Yg w I/\Blk I B9 40 [Yf D.N,.slice t D.lp.length s]/\OwP I w.1.size (.slice t D.lp.length s) D.lp)
 case first =>
  as_aux_lemma =>
  go_wp2;go_loopw [11] (λM wr=>∃(d:Nat) (F:To) (c1:Nat),d<=D.N/\M=Yf d/\MMk r ⟨D.lab d,[],[],[]⟩ [] (.slice F d c1) Yg Yg Yg w wr/\Blk wr B9 40 [Yf D.N,.slice t D.lp.length s]/\OwP wr w.1.size (.slice t D.lp.length s) D.lp) (λM _=>D.N - (intOf M).toNat)
  case atStart=>exact⟨0,none,0,nZ _,rfl,J,a1,U⟩
  case round =>
   clear J a1 U;obtain⟨d,ao,c1,hk,rfl,m,h,A⟩:=hrel;have n0:=h.cell 0;simp only[Yp]at n0;by_cases ad:d<D.N
   . have aw:(d:Int)<(D.N:Int):=fP
     have au:MMk r ⟨D.lab d,[],[],[]⟩ [] (.slice ao d c1) Yg Yg Yg w wr.drew:=m.mono (bR _ _).drew;have aO:Blk wr.drew B9 40 [Yf D.N,.slice t D.lp.length s]:=h;have H:OwP wr.drew w.1.size (.slice t D.lp.length s) D.lp:=qeo A (bR _ _).drew;have cP:Hi (D.lab (d+1)=D.lab d++[D.lnm d]):=h_ (qki _ _);have bK:(D.lab d).length=d:=qr8 _ _;have bu:=h_ λaz=>af.cL d fP az;obtain⟨i0,dv,dw,dx,dy⟩:=info_parts qic;go_upto_region 7 with fail
     clear n0;obtain⟨L,hX⟩:=Nq wr.drew;refine wp_region_held_drew (S:=λ_=>True) fR trivial (λu=>?_);rw[hX]at au aO H;obtain⟨x0,-⟩:=kac au.bx;refine kaG (i:=0) (v:=Yi r 0) 45 rfl rfl fR fR fR (λ_ _ _ _ e=>e) gb (λw E=>by rfl) u fQ fQ ?_;refine kaG (i:=2) (v:=Yf d) 47 rfl rfl fR fR fR (λ_ _ _ _ e=>e) gb (λw E=>by rfl) u fQ fQ ?_;rw[hX];refine wpAnyH_ready (rs:=[1,3]) fR fT (kam (v:=.slice ao d c1) (w':=L) 46 rfl rfl gb (by simp[execOp,go_sem,x0]) trivial ?oA (kaH (f:=52) (args:=#[Yf d]) (R:=λQ wz=>Q=.string (D.lnm d)/\Bw L wz) 48 rfl rfl gb gd ((bu L).mono λac w6 ⟨he,q⟩=>⟨_,he,rfl,q⟩) ?oB AllReadyH.nil))
     case' oA =>
      refine kav fQ fQ ?_;refine cyY 3 48 (bu L) λy q=>?_;have C:=(bR y.1.size y).alloc (nR _) (.cells #[.string (D.lnm d)] 9);have aA:=Blk.new y 9 #[.string (D.lnm d)];obtain⟨z,hY⟩:=Nq (y.alloc (.cells #[.string (D.lnm d)] 9));rw[hY]at C aA;have T:=q.trans (C.mono q.size);refine⟨trivial,?_⟩;refine kav fQ fQ ?_;refine keV (i:=4) (v:=.slice (some ⟨y.1.size,0,none⟩) 1 1) (w':=z) 49 rfl rfl gb fR gs trivial ?_;refine kav fQ fQ ?_
     case' oB =>
      rintro Q y ⟨rfl,q⟩;have C:=(bR y.1.size y).alloc (nR _) (.cells #[.string (D.lnm d)] 9);have aA:=Blk.new y 9 #[.string (D.lnm d)];obtain⟨z,hY⟩:=Nq (y.alloc (.cells #[.string (D.lnm d)] 9));rw[hY]at C aA;have T:=q.trans (C.mono q.size);obtain⟨w0,-⟩:=kac (au.mono q).bx;obtain⟨y0,-⟩:=kac (au.mono T).bx;refine⟨trivial,?_⟩;refine kav fQ fQ ?_;refine wpAnyH_ready (rs:=[1,4]) fR fT (kam (v:=.slice ao d c1) (w':=y) 46 rfl rfl gb (by simp[execOp,go_sem,w0]) trivial ?oC (kam (v:=.slice (some ⟨y.1.size,0,none⟩) 1 1) (w':=z) 49 rfl rfl gb gs trivial ?oD AllReadyH.nil))
     case' oC =>
      refine kav fQ fQ ?_;refine keV (i:=4) (v:=.slice (some ⟨y.1.size,0,none⟩) 1 1) (w':=z) 49 rfl rfl gb fR gs trivial ?_;refine kav fQ fQ ?_
     case' oD =>
      refine kav fQ fQ ?_;refine keV (i:=1) (v:=.slice ao d c1) (w':=z) 46 rfl rfl gb fR (by simp[execOp,go_sem,y0]) trivial ?_;refine kav fQ fQ ?_
     all_goals
      as_aux_lemma =>
      have P:=au.mono T;have bU:=aO.mono T aO.lt;have V:OwP z w.1.size (.slice t D.lp.length s) D.lp:=qeo H T;have aQ:=P.bl.size;refine khJ (i:=5) 50 rfl rfl rfl fR (.tmp 46) (.tmp 49) 23 rfl w.1.size 9 i0 _ 1 16 underlying23 dv dw dx dy rfl fP (.slice ao d c1) d (stV (D.lab d)) rfl (by have:=P.ow.l;unfold kct at this;rw[bK]at this;exact this) ⟨y.1.size,0,none⟩ 1 1 [.string (D.lnm d)] rfl rfl (λO Q hj=>by rw[show(⟨y.1.size,0,none⟩:Addr).add O=⟨y.1.size,O,none⟩ by simp[Addr.add];try exact λe=>e.symm];exact(aA.cell O).trans hj) fU fP fZ fP aQ _ rfl ?_;intro B aL W9 ho aq fo fm;have bM:Below w.1.size z W9:=(bR w.1.size z).grown aq aQ (λZ ac=>qao P.ow.l ac);have aV:Blk W9 r 28 [.slice ao d c1,Yg,Yg,Yg]:=P.bx.grow P.ow.l fS aq;have ap:=h_ (P.addL (x:=D.lnm d) (v':=.slice (some ⟨B,0,none⟩) (d+1) aL) (by show W9.ownsRow _ _ _ _ (D.lab d++[D.lnm d]).length (stV (D.lab d++[D.lnm d]));rw[Ym,bK];unfold stV;rw[Zl];exact ho) aq bM);have cV:=h_ ((bU.grow P.ow.l fS aq).other (a:=⟨r,0,none⟩) (.slice (some ⟨B,0,none⟩) (d+1) aL) di);have W:Hi (OwP (W9.setCell ⟨r,0,none⟩ (.slice (some ⟨B,0,none⟩) (d+1) aL)) w.1.size (.slice t D.lp.length s) D.lp):=h_ (qqk (World.ownsRow.kept V aq (qeu V P.ow.l fS)) aV fS (λO hj=>heap_setCell_other _ _ _ _ hj));refine⟨trivial,?_⟩;refine kav fQ fQ ?_;refine kaG (i:=6) (v:=Yi r 0) 51 rfl rfl fR fR fR (λ_ _ _ _ e=>e) gb (λw E=>by rfl) u fQ fQ ?_;have v0:=aV.cell 0;have vf:=aV.free 0;simp only[Yp]at v0;refine kaD (i:=7) (w':=W9.setCell ⟨r,0,none⟩ (.slice (some ⟨B,0,none⟩) (d+1) aL)) rfl gb fR rfl (by simp[execOp,go_sem,v0,vf]) rfl trivial ?_;refine wdQ ?_;dsimp only at ap;rw[<- cP.u]at ap;clear u ho aq bM aV v0 vf m au P h aO bU A H V C aA hY x0 q T;refine rQ ?_;exact⟨d+1,_,_,fP,fX,ap,cV,W⟩
   . have aw:¬ (d:Int)<(D.N:Int):=fP
     obtain rfl:d=D.N:=fP;obtain⟨aK,H,V⟩:=oC m h A;clear m h A;go_wp2;go_meet;exact⟨_,_,aK,H,V⟩
 case rest =>
 as_aux_lemma =>
 obtain⟨F,H,m,h,A⟩:=hcut;clear J a1 U;have o1:=h.cell 1;have Y:=m.bx.cell 1;have W:=m.bx.free 1;simp only[Yp,Y3]at o1 Y;obtain⟨cX,U⟩:=Nq (wc.setCell ⟨r,1,none⟩ (.slice t D.lp.length s));have J:Hi (MMk r ⟨D.lab D.N,D.lp,[],[]⟩ [] (.slice F D.N H) (.slice t D.lp.length s) Yg Yg w cX):=h_ (by rw[<- U];exact m.setP A);have X:Hi (Blk cX B9 40 [Yf D.N,.slice t D.lp.length s]):=h_ (by rw[<- U];exact h.other _ di);have V:=h_ U;clear m h A U;go_upto_region 10 with fail
 rw[V.u];clear V o1 Y W;obtain⟨A,hT⟩:=Nq (tkD j f D.q0 10);have bw:Hi (D.nn=if 0<A then 1+A % 3 else 0):=h_ (by rw[<- hT];exact af.hnn);have V:A<10:=by rw[<- hT];exact kaC aN fP fP fP
 have HT:=h_ hT;obtain⟨p1,U⟩:=Nq (D.q0+1);have ff:(D.q0:Int)+1=(p1:Int):=fP
 have ec:=h_ U;clear hT U;go_wp2_with fail;refine cQ (qsd (p:=D.q0) (n:=10) aN fP fP fP c (a0 cX J.bl) rfl rfl) λw' aD=>?_;subst aD;rw[HT.u];clear HT;go_upto_if 62 with fail
 go_cut [12] from 31 (λah I=>ah=Yf D.nn/\I=w')
 case first =>
  as_aux_lemma =>
  by_cases h0:0<A
  . have bH:(0:Int)<A:=fP
    obtain⟨aj,hr⟩:=Nq (A % 3);have U:(A:Int) % 3=(aj:Int):=fP;have W:(A:Int).tmod 3=(aj:Int):=(by rw[show(A:Int).tmod 3=(A:Int) % 3 from rfl];exact U);have HE:Hi (D.nn=1+aj):=h_ (by rw[bw.u,Y6 h0,hr]);have fN:aj<3:=fP;clear hr;go_wp2;go_meet;exact⟨by have:=HE.u;first | (congr 1;omega) | go_num,rfl⟩
  . have bH:¬ (0:Int)<A:=fP
    have HE:Hi (D.nn=0):=h_ (by rw[bw.u,Y2 h0]);obtain rfl:A=0:=fP;go_wp2;go_meet;exact⟨by rw[HE.u];rfl,rfl⟩
 case rest =>
 as_aux_lemma =>
 obtain⟨rfl,rfl⟩:=hcut;clear bw V;have o0:=X.cell 0;have o1:=X.cell 1;simp only[Yp,Y3]at o0 o1;have dV:=h_ (af.cB wc t s (kdP J.ow.p));go_wp2_with fail;refine dV.mono ?_;rintro ac W3 ⟨n0,U,l1,k1,V,l2,k2,W,l3,k3,fu,rfl,q⟩;clear o0 o1 dV;have C:=(bR W3.1.size W3).alloc (nR _) (.cells #[Yf n0,.slice U l1 k1,.slice V l2 k2,.slice W l3 k3,Yf D.bot,Yf D.top] 36);have G:=q.trans (C.mono q.size);have aI:Hi (Blk _ _ 36 [Yf n0,.slice U l1 k1,.slice V l2 k2,.slice W l3 k3,Yf D.bot,Yf D.top]):=h_ (Blk.new W3 36 #[Yf n0,.slice U l1 k1,.slice V l2 k2,.slice W l3 k3,Yf D.bot,Yf D.top]);have ay:=h_ (J.mono G);have b7:=mB X G;obtain⟨W4,dp⟩:=Nq (W3.alloc (.cells #[Yf n0,.slice U l1 k1,.slice V l2 k2,.slice W l3 k3,Yf D.bot,Yf D.top] 36));obtain⟨cC,dj⟩:=Nq W3.1.size;have fh:cC≠r:=by have:=J.bx.lt;have:=q.size;omega
 rw[dp]at aI ay b7;rw[dj]at aI;clear q C G J X
 go_upto_block 2 with fail
 try rw[dp]
 try rw[dj]
 clear dp dj;go_cut [1] from 31 (λs1 I=>s1=Yf D.p2/\∃J c3,MMk r ⟨D.lab D.N,D.lp,kel j f D (D.nn+1),[]⟩ [] (.slice F D.N H) (.slice t D.lp.length s) (.slice J (D.nn+1) c3) Yg w I)
 case first =>
  as_aux_lemma =>
  go_wp2;go_loopw [1,13,14,17] (λs1 _ _ M wr=>∃(d B:Nat) (J:To) (c3:Nat),d<=D.nn+1/\M=Yf d/\s1=Yf B/\B=D.q0+1+2*d/\MMk r ⟨D.lab D.N,D.lp,kel j f D d,[]⟩ [] (.slice F D.N H) (.slice t D.lp.length s) (.slice J d c3) Yg w wr/\Blk wr B9 40 [Yf D.N,.slice t D.lp.length s]/\Blk wr cC 36 [Yf n0,.slice U l1 k1,.slice V l2 k2,.slice W l3 k3,Yf D.bot,Yf D.top]) (λ_ _ _ M _=>D.nn+1 - (intOf M).toNat)
  case atStart=>exact⟨0,p1,none,0,nZ _,rfl,rfl,ec.symm,ay,b7,aI⟩
  case round =>
   clear ay b7 aI;obtain⟨d,B,ao,c1,hk,rfl,rfl,hq,m,h,ad⟩:=hrel;by_cases fE:d<=D.nn
   . have fl:(d:Int)<=(D.nn:Int):=fP
     obtain⟨Y,aP⟩:=Nq (B+1);obtain⟨q2,fn⟩:=Nq (Y+1);have e1:(B:Int)+1=(Y:Int):=fP;have e2:(Y:Int)+1=(q2:Int):=fP;obtain⟨A,hT⟩:=Nq (tkD j f B D.N);obtain⟨z,hY⟩:=Nq (tkD j f Y 3);have G:Hi (rlX j f D d=if 0<z/\d=1 then D.top else if 0<z/\d=0/\0<D.nn then D.bot else (A:Int)):=h_ (by unfold rlX;rw[show D.q0+2+2*d=Y by omega,show D.q0+1+2*d=B by omega,hY,hT]);have fz:z<3:=(by rw[<- hY];exact kaC aN fP fP fP);obtain⟨HT,HY,HQ⟩:=oC hT hY hq;have e3:Hi (q2=D.q0+1+2*(d+1)):=h_ fP;have dH:B<=2000:=fP;have fM:Y<=2001:=fP;have eQ:=h.cell 0;simp only[Yp]at eQ;obtain⟨X,a1,aI⟩:=oC m h ad;clear hT hY hq aP fn m h ad;go_wp2_with fail;refine cQ (qsd (p:=B) (n:=D.N) aN fP fP fP c (a0 wr X.bl) rfl rfl) λw' aD=>?_;subst aD;rw[HT.u];go_wp2_with fail;refine cQ (qsd (p:=Y) (n:=3) aN fP fP fP c (a0 w' X.bl) rfl rfl) λfs aD=>?_;subst aD;rw[HY.u];clear HT HY eQ;go_upto_region 19 with fail
     go_cut [99] from 71 to 118 (λah I=>ah=.bool (decide (0<z/\d=0/\0<D.nn))/\I=fs)
     case first =>
      as_aux_lemma =>
      by_cases h1:0<z
      . have bI:(0:Int)<z:=fP
        by_cases h2:d=0
        . have dh:((d:Int)==0)=true:=by rw[h2];rfl
          have Hk:=h_ h2;clear h2;by_cases h3:0<D.nn
          . have eh:(0:Int)<D.nn:=fP
            go_wp2;go_meet;exact⟨congrArg Value.bool (Ys (show 0<z/\d=0/\0<D.nn from ⟨h1,Hk,h3⟩)).symm,rfl⟩
          . have eh:¬ (0:Int)<D.nn:=fP
            go_wp2;go_meet;exact⟨congrArg Value.bool (Yo (show ¬ (0<z/\d=0/\0<D.nn) from λe=>h3 e.2.2)).symm,rfl⟩
        . have dh:((d:Int)==0)=false:=Yl.2 fP
          go_wp2;go_meet;exact⟨congrArg Value.bool (Yo (show ¬ (0<z/\d=0/\0<D.nn) from λe=>h2 e.2.1)).symm,rfl⟩
      . have bI:¬ (0:Int)<z:=fP
        go_wp2;go_meet;exact⟨congrArg Value.bool (Yo (show ¬ (0<z/\d=0/\0<D.nn) from λe=>h1 e.1)).symm,rfl⟩
     case rest =>
     as_aux_lemma =>
     obtain⟨rfl,rfl⟩:=hcut;have l4:=aI.cell 4;have l5:=aI.cell 5;simp only[Yp,Y3]at l4 l5;go_upto_if 99 with fail
     go_cut [13] from 71 to 118 (λah I=>ah=Yf (if 0<z/\d=0/\0<D.nn then D.bot else (A:Int))/\I=wc)
     case first =>
      as_aux_lemma =>
      by_cases e:0<z/\d=0/\0<D.nn
      . have Hh:=h_ e
        exact ko
      . have Hh:=h_ e
        exact kp
     case rest =>
     as_aux_lemma =>
     obtain⟨rfl,rfl⟩:=hcut;obtain⟨X1,es⟩:∃X1,(if 0<z/\d=0/\0<D.nn then D.bot else (A:Int))=X1:=⟨_,rfl⟩;rw[es]at G⊢;clear es;go_upto_region 21 with fail
     go_cut [107] from 71 to 118 (λah I=>ah=.bool (decide (0<z/\d=1))/\I=wc)
     case first =>
      as_aux_lemma =>
      by_cases h1:0<z
      . have bI:(0:Int)<z:=fP
        by_cases h2:d=1
        . have dh:((d:Int)==1)=true:=by rw[h2];rfl
          have Hk:=h_ h2;clear h2;go_wp2;go_meet;exact⟨congrArg Value.bool (Ys (show 0<z/\d=1 from ⟨h1,Hk⟩)).symm,rfl⟩
        . have dh:((d:Int)==1)=false:=Yl.2 fP
          go_wp2;go_meet;exact⟨congrArg Value.bool (Yo (show ¬ (0<z/\d=1) from λe=>h2 e.2)).symm,rfl⟩
      . have bI:¬ (0:Int)<z:=fP
        go_wp2;go_meet;exact⟨congrArg Value.bool (Yo (show ¬ (0<z/\d=1) from λe=>h1 e.1)).symm,rfl⟩
     case rest =>
     as_aux_lemma =>
     obtain⟨rfl,rfl⟩:=hcut;go_upto_if 107 with fail
     go_cut [13] from 71 to 118 (λah I=>ah=Yf (rlX j f D d)/\I=wc)
     case first =>
      as_aux_lemma =>
      by_cases e:0<z/\d=1
      . have Hh:=h_ e
        rw[Ys e];clear e;go_wp2;go_meet;exact⟨by rw[G.u,Y6 Hh.u],rfl⟩
      . have Hh:=h_ e
        rw[Yo e];clear e;go_wp2;go_meet;exact⟨by rw[G.u,Y2 Hh.u],rfl⟩
     case rest =>
     as_aux_lemma =>
     obtain⟨rfl,rfl⟩:=hcut;clear l4 l5 G;obtain⟨G,hy⟩:=Nq (rlX j f D d);have cP:Hi (kel j f D (d+1)=kel j f D d++[⟨D.rnm d,G⟩]):=h_ (by rw[<- hy];exact qki _ _);have bK:(kel j f D d).length=d:=qr8 _ _;rw[hy];clear hy;have bu:=h_ λaz=>af.cR d fP az;obtain⟨i0,dv,dw,dx,dy⟩:=info_parts qop;have au:MMk r ⟨D.lab D.N,D.lp,kel j f D d,[]⟩ [] (.slice F D.N H) (.slice t D.lp.length s) (.slice ao d c1) Yg w wc.drew:=X.mono (bR _ _).drew;have aO:Blk wc.drew B9 40 [Yf D.N,.slice t D.lp.length s]:=a1.u;have cq:Blk wc.drew cC 36 [Yf n0,.slice U l1 k1,.slice V l2 k2,.slice W l3 k3,Yf D.bot,Yf D.top]:=aI.u;go_upto_region 23 with fail
     obtain⟨L,hX⟩:=Nq wc.drew;refine wp_region_held_drew (S:=λ_=>True) fR trivial (λu=>?_);rw[hX]at au aO cq;obtain⟨-,-,x0,-⟩:=kac au.bx;refine kaG (i:=0) (v:=Yi r 2) 110 rfl rfl fR fR fR (λ_ _ _ _ e=>e) gb (λw E=>by rfl) u fQ fQ ?_;refine kaG (i:=2) (v:=Yf d) 112 rfl rfl fR fR fR (λ_ _ _ _ e=>e) gb (λw E=>by rfl) u fQ fQ ?_;refine kaG (i:=4) (v:=Yf G) 114 rfl rfl fR fR fR (λ_ _ _ _ e=>e) gb (λw E=>by rfl) u fQ fQ ?_;rw[hX];refine wpAnyH_ready (rs:=[1,3]) fR fT (kam (v:=.slice ao d c1) (w':=L) 111 rfl rfl gb (by simp[execOp,go_sem,x0]) trivial ?pA (kaH (f:=53) (args:=#[Yf d]) (R:=λQ wz=>Q=.string (D.rnm d)/\Bw L wz) 113 rfl rfl gb gd ((bu L).mono λac w6 ⟨he,q⟩=>⟨_,he,rfl,q⟩) ?pB AllReadyH.nil))
     case' pA =>
      refine kav fQ fQ ?_;refine cyY 3 113 (bu L) λy q=>?_;have C:=(bR y.1.size y).alloc (nR _) (.cells #[.string (D.rnm d),Yf G] 47);have aA:=Blk.new y 47 #[.string (D.rnm d),Yf G];obtain⟨z,hY⟩:=Nq (y.alloc (.cells #[.string (D.rnm d),Yf G] 47));rw[hY]at C aA;have T:=q.trans (C.mono q.size);refine⟨trivial,?_⟩;refine kav fQ fQ ?_;refine kaG (i:=5) (v:=.agg #[.string (D.rnm d),Yf G]) 115 rfl rfl fR fR fR (λ_ _ _ _ e=>e) gb (λw E=>by exact q8z 47 #[(0,.tmp 113),(1,.tmp 114)] rfl _ fR) u fQ fQ ?_;refine keV (i:=6) (v:=.slice (some ⟨y.1.size,0,none⟩) 1 1) (w':=z) 116 rfl rfl gb fR gs trivial ?_;refine kav fQ fQ ?_
     case' pB =>
      rintro Q y ⟨rfl,q⟩;have C:=(bR y.1.size y).alloc (nR _) (.cells #[.string (D.rnm d),Yf G] 47);have aA:=Blk.new y 47 #[.string (D.rnm d),Yf G];obtain⟨z,hY⟩:=Nq (y.alloc (.cells #[.string (D.rnm d),Yf G] 47));rw[hY]at C aA;have T:=q.trans (C.mono q.size);obtain⟨-,-,w0,-⟩:=kac (au.mono q).bx;obtain⟨-,-,y0,-⟩:=kac (au.mono T).bx;refine⟨trivial,?_⟩;refine kav fQ fQ ?_;refine kaG (i:=5) (v:=.agg #[.string (D.rnm d),Yf G]) 115 rfl rfl fR fR fR (λ_ _ _ _ e=>e) gb (λw E=>by exact q8z 47 #[(0,.tmp 113),(1,.tmp 114)] rfl _ fR) u fQ fQ ?_;refine wpAnyH_ready (rs:=[1,6]) fR fT (kam (v:=.slice ao d c1) (w':=y) 111 rfl rfl gb (by simp[execOp,go_sem,w0]) trivial ?pC (kam (v:=.slice (some ⟨y.1.size,0,none⟩) 1 1) (w':=z) 116 rfl rfl gb gs trivial ?pD AllReadyH.nil))
     case' pC =>
      refine kav fQ fQ ?_;refine keV (i:=6) (v:=.slice (some ⟨y.1.size,0,none⟩) 1 1) (w':=z) 116 rfl rfl gb fR gs trivial ?_;refine kav fQ fQ ?_
     case' pD =>
      refine kav fQ fQ ?_;refine keV (i:=1) (v:=.slice ao d c1) (w':=z) 111 rfl rfl gb fR (by simp[execOp,go_sem,y0]) trivial ?_;refine kav fQ fQ ?_
     all_goals
      as_aux_lemma =>
      have P:=au.mono T;have bU:=aO.mono T aO.lt;have eJ:=cq.mono T cq.lt;have aQ:=P.bl.size;refine khJ (i:=7) 117 rfl rfl rfl fR (.tmp 111) (.tmp 116) 25 rfl w.1.size 47 i0 _ 2 24 underlying25 dv dw dx dy rfl fP (.slice ao d c1) d (rV' (kel j f D d)) rfl (by have:=P.ow.r;unfold OwL at this;rw[bK]at this;exact this) ⟨y.1.size,0,none⟩ 1 1 [.string (D.rnm d),Yf G] rfl rfl (λO Q hj=>by rw[show(⟨y.1.size,0,none⟩:Addr).add O=⟨y.1.size,O,none⟩ by simp[Addr.add];try exact λe=>e.symm];exact(aA.cell O).trans hj) fU fP fZ fP aQ _ rfl ?_;intro Z aL W9 ho aq fo fm;have bM:Below w.1.size z W9:=(bR w.1.size z).grown aq aQ (λZ ac=>qao P.ow.r ac);have aV:=P.bx.grow P.ow.r fS aq;have ap:=h_ (P.addR (x:=⟨D.rnm d,G⟩) (v':=.slice (some ⟨Z,0,none⟩) (d+1) aL) (by show W9.ownsRow _ _ _ _ (kel j f D d++[(⟨D.rnm d,G⟩:Rl)]).length (rV' (kel j f D d++[(⟨D.rnm d,G⟩:Rl)]));rw[Ym,bK];unfold rV';rw[Zt];exact ho) aq bM);have cV:=h_ ((bU.grow P.ow.r fS aq).other (a:=⟨r,2,none⟩) (.slice (some ⟨Z,0,none⟩) (d+1) aL) di);have eZ:=h_ ((eJ.grow P.ow.r fS aq).other (a:=⟨r,2,none⟩) (.slice (some ⟨Z,0,none⟩) (d+1) aL) fh);refine⟨trivial,?_⟩;refine kav fQ fQ ?_;refine kaG (i:=8) (v:=Yi r 2) 118 rfl rfl fR fR fR (λ_ _ _ _ e=>e) gb (λw E=>by rfl) u fQ fQ ?_;have v0:=aV.cell 2;have vf:=aV.free 2;simp only[Yp,Y3]at v0;refine kaD (i:=9) (w':=W9.setCell ⟨r,2,none⟩ (.slice (some ⟨Z,0,none⟩) (d+1) aL)) rfl gb fR rfl (by simp[execOp,go_sem,v0,vf]) rfl trivial ?_;refine wdQ ?_;dsimp only at ap;rw[<- cP.u]at ap;clear u ho aq bM aV v0 vf au P aO bU cq eJ C aA hY x0 q T;refine rQ ?_;exact⟨d+1,q2,_,_,fP,fX,rfl,e3,ap,cV,eZ⟩
   . have fl:¬ (d:Int)<=(D.nn:Int):=fP
     have T:d=D.nn+1:=fP;subst T;have aK:=h_ m;have G:Hi (B=D.p2):=h_ (by rw[hq];unfold SD.p2;omega);clear m h ad hq;go_wp2;go_meet;exact⟨by rw[G.u],_,_,aK⟩
 case rest =>
 as_aux_lemma =>
 obtain⟨rfl,J,c3,m⟩:=hcut;clear ay b7 aI ec ff;have C:=((bR wc.1.size wc).alloc (nR _) (.cells #[] 3)).alloc fT (.cells Jp 109);have a7:=World.ownsRow.alloc (qet wc 3) (.cells Jp 109);have h:=Blk.new (wc.alloc (.cells #[] 3)) 109 Jp;rw[Yv]at h;obtain⟨W5,a2⟩:=Nq ((wc.alloc (.cells #[] 3)).alloc (.cells Jp 109));rw[a2]at C a7 h;have ej:=m.bl.size;have bv:=h_ m;obtain⟨aR,b9,b5⟩:=oC C a7 h;obtain⟨G,hB⟩:=Nq wc.1.size;rw[hB]at aR b9 b5 ej;obtain⟨Wb,T⟩:=Nq wc;have bC:Hi (Wb.1.size=G):=h_ (by rw[<- T];exact hB);rw[T]at aR bv;obtain⟨bA,aY,e7⟩:=oC a2 hB T;clear m C a7 h a2 hB T
 go_upto_block 4 with (refine q84 rfl 109 #[] rfl Jp fR ?_)
 rw[bA.u,aY.u];clear bA e7 aY;go_cut [1,18] from 31 (λs1 T I=>s1=Yf ((D.p2+g:Nat):Int)/\∃aE al u1 u2 u3,T=.slice aE g al/\OwI I G (.slice aE g al) (kcp j f D g)/\Blk I (G+1) 109 [u1,u2,u3]/\kbo (pkK (tyD j f D) D.fnm g) I G u1 u2 u3/\Below G Wb I)
 case first =>
  as_aux_lemma =>
  go_wp2;go_loopw [1,13,18,20,21] (λs1 _ T M _ wr=>∃(d B:Nat) (aE:To) (al:Nat) (u1 u2 u3:Value),d<=g/\M=Yf d/\s1=Yf B/\B=D.p2+d/\T=.slice aE d al/\OwI wr G (.slice aE d al) (kcp j f D d)/\Blk wr (G+1) 109 [u1,u2,u3]/\kbo (pkK (tyD j f D) D.fnm d) wr G u1 u2 u3/\Below G Wb wr) (λ_ _ _ M _ _=>g - (intOf M).toNat)
  case atStart=>exact⟨0,D.p2,_,0,_,_,_,nZ _,rfl,rfl,rfl,rfl,b9,b5,kbo.nil (λ_=>rfl),aR⟩
  case round =>
   clear b9 b5 aR;obtain⟨d,B,aE,al,u1,u2,u3,hk,rfl,rfl,hq,rfl,a6,aM,T,a3⟩:=hrel;by_cases ad:d<g
   . have aw:(d:Int)<(g:Int):=fP
     obtain⟨Y,aP⟩:=Nq (B+1);have e1:(B:Int)+1=(Y:Int):=fP;obtain⟨A,hT⟩:=Nq (tkD j f B 6);have cW:Hi (tyD j f D d=tyX A):=h_ (by unfold tyD;rw[<- hq,hT]);have aS:Hi (Y=D.p2+(d+1)):=h_ fP;have fI:D.p2<=2000:=(by unfold SD.p2;omega);have dH:B<=3000:=fP;have fi:A<6:=(by rw[<- hT];exact kaC aN fP fP fP);obtain⟨HT,b8,br,b6,aZ⟩:=oG hT a6 aM T a3;clear hT hq aP a6 aM T a3;go_wp2_with fail;refine cQ (qsd (p:=B) (n:=6) aN fP fP fP c (a0 wr (bv.bl.trans (aZ.mono fP))) rfl rfl) λw' aD=>?_;subst aD;rw[HT.u];clear HT;go_upto_region 31 with fail
     go_cut [137] from 121 to 148 (λah I=>ah=.bool (decide (A=3∨A=4))/\I=w')
     case first =>
      as_aux_lemma =>
      by_cases h3:A=3
      . subst h3
        rw[show((3:Nat):Int)=3 from rfl];go_wp2;go_meet;exact⟨rfl,rfl⟩
      . have eh:((A:Int)==3)=false:=Yl.2 fP
        by_cases h4:A=4
        . subst h4
          rw[show((4:Nat):Int)=4 from rfl];go_wp2;go_meet;exact⟨rfl,rfl⟩
        . have fv:((A:Int)==4)=false:=Yl.2 fP
          go_wp2;go_meet;exact⟨congrArg Value.bool (Yo (show ¬ (A=3∨A=4) by omega)).symm,rfl⟩
     case rest =>
     as_aux_lemma =>
     obtain⟨rfl,rfl⟩:=hcut;go_upto_if 137 with fail
     go_cut [21] from 121 to 148 (λah I=>ah=Yf (if A=3∨A=4 then 2 else 1)/\I=wc)
     case first =>
      as_aux_lemma =>
      by_cases e:A=3∨A=4
      . have Hh:=h_ e
        exact ko
      . have Hh:=h_ e
        exact kp
     case rest =>
     as_aux_lemma =>
     obtain⟨rfl,rfl⟩:=hcut;go_upto_if 139 with fail
     go_cut [21] from 121 to 148 (λah I=>ah=Yf (tyD j f D d)/\I=wc)
     case first =>
      as_aux_lemma =>
      by_cases e:A=5
      . subst e
        rw[show((5:Nat):Int)=5 from rfl];go_wp2;go_meet;exact⟨by rw[cW.u];rfl,rfl⟩
      . have h':((A:Int)==5)=false:=Yl.2 fP
        have ee:Hi (tyX A=if A=3∨A=4 then 2 else 1):=h_ (by unfold tyX;rw[Y2 e]);obtain⟨cA,hz⟩:∃cA:Int,(if A=3∨A=4 then 2 else 1)=cA:=⟨_,rfl⟩;rw[hz]at ee⊢;clear hz;go_wp2;go_meet;exact⟨by rw[cW.u,ee.u],rfl⟩
     case rest =>
     as_aux_lemma =>
     obtain⟨rfl,rfl⟩:=hcut;obtain⟨aa,ht⟩:=Nq (tyD j f D d);have ed:Hi (aa=1∨aa=2∨aa=3):=h_ (by rw[<- ht];exact kdI _);have e5:Hi (kcp j f D (d+1)=kcp j f D d++[aa]):=h_ (by rw[<- ht];exact qki _ _);have ea:Hi (pkK (tyD j f D) D.fnm (d+1)=kca (pkK (tyD j f D) D.fnm d) aa (D.fnm d)):=h_ (by rw[<- ht];rfl);have aT:(kcp j f D d).length=d:=qr8 _ _;rw[ht];clear ht cW fi;have C:=(bR wc.1.size wc).alloc (nR _) (.cells #[Yf aa] 3);have HN:Hi (Blk _ _ 3 [Yf aa]):=h_ (Blk.new wc 3 #[Yf aa]);have ca:Hi (OwI (wc.alloc (.cells #[Yf aa] 3)) G (.slice aE d al) (kcp j f D d)):=h_ (qeo b8 C);obtain⟨dQ,d7,dS⟩:=oC (br.mono C br.lt) (b6.keep C) (aZ.trans (C.mono (show G<=wc.1.size by have:=aZ.size;have:=bC.u;omega)));have aQ:G<=(wc.alloc (.cells #[Yf aa] 3)).1.size:=(by have:=aZ.size;have:=bC.u;have:=C.size;omega);clear C;go_wp2_with (at_builtin;refine qgl (n:=aa) rfl _ _ rfl rfl ca rfl HN (by rw[aT];omega) aQ ?_);intro v' W4 aW bS aG;have ct:G<=W4.1.size:=Yx aQ aG.size;obtain⟨dR,d8,dT⟩:=oC (dQ.grow ca fS bS) (d7.grow ca fS bS) (dS.trans aG);rw[<- e5.u]at aW;obtain⟨bY,bE,rfl,-,-⟩:=qat aW;have cj:(kcp j f D (d+1)).length=d+1:=qr8 _ _;have eP:OwI W4 G (.slice bY (d+1) bE) (kcp j f D (d+1)):=by
      try rw[cj]at aW
      unfold OwI;rw[cj];exact aW
     have ef:=h_ eP;clear eP
     try rw[cj]
     clear aW bS aG aQ dQ d7 dS ca HN b8 br b6 aZ;have dW:=h_ λaz=>af.cN d fP az;have em:∀M,(pkK (tyD j f D) D.fnm d M).length<=100000:=λM=>by have:=(kdF (ty:=tyD j f D) (nm:=D.fnm) d M).1;omega
     have cM:=h_ em;clear em aT cj;go_upto_region 36 with fail
     have h:Blk W4.drew (G+1) 109 [u1,u2,u3]:=dR.u;have cr:=d8.keep (bR _ _).drew;have a7:OwI W4.drew G (.slice bY (d+1) bE) (kcp j f D (d+1)):=qeo ef (bR _ _).drew;have ds:=dT.drew;have dJ:G<=W4.drew.1.size:=ct;clear dR d8 ef dT;obtain⟨L,hX⟩:=Nq W4.drew;refine wp_region_held_drew (S:=λ_=>True) fR trivial (λu=>?_);rw[hX]at h cr a7 ds dJ;obtain⟨cx,cu,cb,cy,cv,cc,cz,cw,cd,rfl,rfl,rfl⟩:=cr.slices;obtain⟨b0,b1,b2⟩:=kaE h;refine kaG (i:=1) (v:=Yf aa) 145 rfl rfl fR fR fR (λ_ _ _ _ e=>e) gb (λw E=>by rfl) u fQ fQ ?_;refine kaG (i:=2) (v:=Yf d) 146 rfl rfl fR fR fR (λ_ _ _ _ e=>e) gb (λw E=>by rfl) u fQ fQ ?_;rw[hX];refine wpAnyH_ready (rs:=[0,3]) fR fT (kam (v:=.agg (Jo cx cu cb cy cv cc cz cw cd)) (w':=L) 144 rfl rfl gb (by simp[execOp,go_sem,b0,b1,b2]) trivial ?rA (kaH (f:=55) (args:=#[.string ⟨#[97,98,99,100,101,102,103,104]⟩,Yf d]) (R:=λQ wz=>Q=.string (D.fnm d)/\Bw L wz) 147 rfl rfl gb gd ((dW L).mono λac w6 ⟨he,q⟩=>⟨_,he,rfl,q⟩) ?rB AllReadyH.nil))
     case' rA =>
      refine kav fQ fQ ?_;refine cyY 3 147 (dW L) λy q=>?_;refine⟨trivial,?_⟩;refine kav fQ fQ ?_
     case' rB =>
      rintro Q y ⟨rfl,q⟩;obtain⟨d0,d1,d2⟩:=kaE (h.mono q h.lt);refine⟨trivial,?_⟩;refine kav fQ fQ ?_;refine keV (i:=0) (v:=.agg (Jo cx cu cb cy cv cc cz cw cd)) (w':=y) 144 rfl rfl gb fR (by simp[execOp,go_sem,d0,d1,d2]) trivial ?_;refine kav fQ fQ ?_
     all_goals
      as_aux_lemma =>
      have bW:=cr.keep q;have ew:=h.mono q h.lt;have eN:OwI y G (.slice bY (d+1) bE) (kcp j f D (d+1)):=qeo a7 q;have eL:G<=y.1.size:=Yx dJ q.size;have ex:=ds.trans (q.mono dJ);refine kap (i:=4) (f:=54) (args:=#[.agg (Jo cx cu cb cy cv cc cz cw cd),Yf aa,.string (D.fnm d)]) (R:=λQ wz=>∃z1 z2 z3,Q=.agg #[z1,z2,z3]/\kbo (kca (pkK (tyD j f D) D.fnm d) aa (D.fnm d)) wz G z1 z2 z3/\Kpt (.slice cx cu cb) (.slice cy cv cc) (.slice cz cw cd) y wz) 148 rfl rfl gb fR gd ((q9u aa ed (D.fnm d) cM bW eL).mono λac w6 ⟨z1,z2,z3,he,h1,h2⟩=>⟨_,he,z1,z2,z3,rfl,h1,h2⟩) ?_;rintro Q W2 ⟨z1,z2,z3,rfl,dG,aB⟩;have bO:=aB.blk bW ew fS;have eO:OwI W2 G (.slice bY (d+1) bE) (kcp j f D (d+1)):=aB.own bW eN fS;have ey:=ex.trans (aB.below bW eL);obtain⟨g1,m1,bD,g2,m2,bF,g3,m3,bG,rfl,rfl,rfl⟩:=dG.slices;have e6:Hi (OwI (W2.setRow (G+1) (Jo g1 m1 bD g2 m2 bF g3 m3 bG)) G (.slice bY (d+1) bE) (kcp j f D (d+1))):=h_ (qqk eO bO fS (λO hj=>setRow_other _ _ _ _ hj));have eV:=h_ (bO.row [.slice g1 m1 bD,.slice g2 m2 bF,.slice g3 m3 bG]);have d9:=h_ (dG.one bO fS (λO hj=>setRow_other W2 (G+1) O (Jo g1 m1 bD g2 m2 bF g3 m3 bG) hj));have eW:=h_ (below_setRow ey (show G<=G+1 by omega) (Jo g1 m1 bD g2 m2 bF g3 m3 bG));rw[<- ea.u]at d9;refine⟨trivial,?_⟩;refine kav fQ fQ ?_;refine kaD (i:=5) (w':=W2.setRow (G+1) (Jo g1 m1 bD g2 m2 bF g3 m3 bG)) rfl gb fR rfl (q1q 109 (.tmp 19) (.tmp 148) rfl (G+1) _ rfl rfl 109 _ bO fR rfl fU) rfl trivial ?_;refine wdQ ?_;clear u cr bW dG h ew bO a7 eN eO ds ex ey aB q b0 b1 b2;go_wp2;go_roundw
      case rel=>exact⟨d+1,Y,_,_,_,_,_,fP,fX,rfl,aS,rfl,e6,eV,d9,eW⟩
      case measure=>exact km
   . have aw:¬ (d:Int)<(g:Int):=fP
     obtain rfl:d=g:=fP;subst hq;obtain⟨b8,br,b6,aZ⟩:=oD a6 aM T a3;clear a6 aM T a3;go_wp2;go_meet;exact⟨rfl,_,_,_,_,_,rfl,b8,br,b6,aZ⟩
 case rest =>
 as_aux_lemma =>
 obtain⟨rfl,aE,al,u1,u2,u3,rfl,a6,aM,T,a3⟩:=hcut;clear b9 b5 aR;have m:=bv.mono (show Bw Wb wc by rw[Bw,bC.u];exact a3);have C:=(bR wc.1.size wc).alloc (nR _) (.cells Jp 109);have aG:=Blk.new wc 109 Jp;obtain⟨W6,aU⟩:=Nq (wc.alloc (.cells Jp 109));rw[aU]at C aG;have aJ:=h_ (m.mono C);have cs:W6.1.size=wc.1.size+1:=by rw[<- aU];simp
 have aT:(kcp j f D g).length=g:=qr8 _ _;have a8:Hi (En4 (kcp j f D g) (pkK (tyD j f D) D.fnm g) (pkK (tyD j f D) D.fnm 0) G wc.1.size (.slice aE g al) u1 u2 u3 Yg Yg Yg W6):=h_ ⟨qeo a6 C,aM.mono C aM.lt,T.keep C,aG,kbo.nil (λ_=>rfl),aM.lt,T.low.1,T.low.2.1,T.low.2.2⟩;have cO:Hi (∀B,(Value.slice F D.N H).ownBlock=some B->B<wc.1.size):=h_ λB ac=>qqg m.ow.l ac;have dM:w.1.size<wc.1.size:=by have:=m.bx.lt;omega
 have eq:r<wc.1.size:=m.bx.lt;have ei:G+1≠r:=by have:=bv.bx.lt;have:=bC.u;omega
 have ci:wc.1.size<=W6.1.size:=fP
 obtain⟨B4,ce⟩:=Nq wc.1.size;rw[ce]at a8 cO dM eq ci;obtain⟨bB,b4⟩:=oB aU ce;clear a6 aM T a3 m C aG cs bv bC ej aU ce
 go_upto_block 6 with (refine q84 rfl 109 #[] rfl Jp fR ?_)
 rw[bB.u,b4.u];clear bB b4;go_cut [1] from 31 (λs1 I=>s1=Yf (D.pq g)/\∃T c4 o,MMk r (fmX j f D (D.FL 0)) o (.slice F D.N H) (.slice t D.lp.length s) (.slice J (D.nn+1) c3) (.slice T g c4) w I)
 case first =>
  as_aux_lemma =>
  go_wp2;go_loopw [1,23,24] (λs1 M _ wr=>∃(d:Nat) (T:To) (c4:Nat) (o:List (Fl × FA)) (z1 z2 z3:Value),d<=g/\M=Yf d/\s1=Yf (D.pq d)/\MMk r ⟨D.lab D.N,D.lp,kel j f D (D.nn+1),(List.range d).map D.g⟩ o (.slice F D.N H) (.slice t D.lp.length s) (.slice J (D.nn+1) c3) (.slice T d c4) w wr/\En4 (kcp j f D g) (pkK (tyD j f D) D.fnm g) (pkK (tyD j f D) D.fnm d) G B4 (.slice aE g al) u1 u2 u3 z1 z2 z3 wr/\B4<=wr.1.size) (λ_ M _ _=>g - (intOf M).toNat)
  case atStart=>exact⟨0,none,0,[],_,_,_,nZ _,rfl,(by rw[af.u.pq0];first | rfl | simp),aJ,a8,ci⟩
  case round =>
   clear aJ a8 ci;obtain⟨d,T,c4,o,z1,z2,z3,hk,rfl,rfl,m,he,fq⟩:=hrel;have av:o.length=d:=by have:=congrArg List.length m.ow.e;simpa using this.symm
   by_cases ad:d<g
   . have aw:(d:Int)<(g:Int):=fP
     obtain⟨bt,ot,fg,dr,zt⟩:=he.at (x:=aE) (c:=al) (by rw[aT]) (k:=d) fP;have ht:(kcp j f D g).getD d 0=tyD j f D d:=(by unfold kcp;rw[Yq,Zr,Gu ad];rfl);rw[ht]at zt;subst fg;obtain⟨aa,h⟩:=Nq (tyD j f D d);have ed:Hi (aa=1∨aa=2∨aa=3):=h_ (by rw[<- h];exact kdI _);have ea:Hi (pkK (tyD j f D) D.fnm (d+1)=kca (pkK (tyD j f D) D.fnm d) aa (D.fnm d)):=h_ (by rw[<- h];rfl);have cM:Hi (∀M,(pkK (tyD j f D) D.fnm d M).length<=100000):=h_ λM=>by have:=(kdF (ty:=tyD j f D) (nm:=D.fnm) d M).1;omega
     obtain⟨cE,dZ⟩:=oB (af.cF d ad) (af.gnm d ad);have d5:Hi ((List.range (d+1)).map D.g=(List.range d).map D.g++[D.g d]):=h_ (qki _ _);have fJ:=af.hpq d fP;rw[h]at zt cE;clear ht h;obtain⟨bn,bi,be,bo,bj,bg,bp,bm,bh,rfl,rfl,rfl⟩:=he.bk.slices;obtain⟨db,c8,cY,dc,c9,c0,dd,da,c7,rfl,rfl,rfl⟩:=he.ak.slices;have an:=(bR wr.1.size wr).alloc (nR _) (.cells Jj 73);have dk:=Blk.new wr 73 Jj;obtain⟨y,ck⟩:=Nq (wr.alloc (.cells Jj 73));rw[ck]at an dk;obtain⟨L,hX⟩:=Nq y.drew;have h:Below wr.1.size wr L:=(by rw[<- hX];exact an.drew);have dm:Blk L wr.1.size 73 [Yh,Yf 0,Yf 0,Yg,Yg,Yg,Yg,Yh,Yg]:=(by rw[<- hX];exact dk);have et:L.1.size=wr.1.size+1:=(by rw[<- hX,<- ck];show(wr.alloc _).1.size=_;simp);have dL:∀B,(Value.slice T d c4).ownBlock=some B->B<wr.1.size:=λB ac=>qqg m.ow.f.row ac;obtain⟨ae,bJ⟩:=Nq wr.1.size;rw[bJ]at h dm et dL dr fq;obtain⟨X,HE,dP,cK,eg⟩:=oG m he h dm dL;have am:=m.mono (show Bw wr L by rw[Bw,bJ];exact h);have ag:=he.mono (show Bw wr L by rw[Bw,bJ];exact h);have bq:L.cell? ⟨bt,ot+d,none⟩=some (Yf aa):=(h.cell (p:=⟨bt,ot+d,none⟩) dr).trans zt;obtain⟨b3,dU⟩:=oB bJ (cE L a c F t J T H D.lp.length s c3 d c4 _ _ (a0 L am.bl) ag.bk.pick ag.ak.pick);clear m he an dk h dm dL bJ zt cE;go_upto_region 42 with fail
     rw[b3.u]
     try rw[ck]
     refine wp_region_held_drew (S:=λW'=>Blk W' r 28 [.slice F D.N H,.slice t D.lp.length s,.slice J (D.nn+1) c3,.slice T d c4]/\Blk W' B4 109 [.slice bn bi be,.slice bo bj bg,.slice bp bm bh]/\Blk W' (G+1) 109 [.slice db c8 cY,.slice dc c9 c0,.slice dd da c7]/\W'.cell? ⟨bt,ot+d,none⟩=some (Yf aa)) fR (by rw[hX];exact⟨am.bx,ag.bb,ag.ab,bq⟩) (λu=>?_);rw[hX]at u⊢;refine kaG (i:=0) (v:=.slice a j c) 156 rfl rfl fR fR fR (λ_ _ _ _ e=>e) gb (λw E=>by rfl) u fQ fQ ?_;refine kaG (i:=1) (v:=Yf (D.pq d)) 157 rfl rfl fR fR fR (λ_ _ _ _ e=>e) gb (λw E=>by rfl) u fQ fQ ?_;refine kaG (i:=2) (v:=.agg (Jn F D.N H t D.lp.length s J (D.nn+1) c3 T d c4)) 158 rfl rfl fR fR fR (λ_ _ _ _ e=>e) gb (λw E=>by obtain⟨q0,Y,q2,q3⟩:=kac E.1;simp[execOp,go_sem,q0,Y,q2,q3]) u fQ fQ ?_;refine kaG (i:=3) (v:=Yf d) 159 rfl rfl fR fR fR (λ_ _ _ _ e=>e) gb (λw E=>by rfl) u fQ fQ ?_;refine kaG (i:=4) (v:=.slice (some ⟨bt,ot,none⟩) g al) 160 rfl rfl fR fR fR (λ_ _ _ _ e=>e) gb (λw E=>by rfl) u fQ fQ ?_;refine kaG (i:=5) (v:=Yf d) 161 rfl rfl fR fR fR (λ_ _ _ _ e=>e) gb (λw E=>by rfl) u fQ fQ ?_;refine kaG (i:=6) (v:=Yi bt (ot+d)) 162 rfl rfl fR fR fR (λ_ _ _ _ e=>e) gb (λw E=>by simp[execOp,go_sem,aw]) u fQ fQ ?_;refine kaG (i:=7) (v:=Yf aa) 163 rfl rfl fR fR fR (λ_ _ _ _ e=>e) gb (λw E=>by have q0:=E.2.2.2;simp[execOp,go_sem,q0]) u fQ fQ ?_;refine kaG (i:=8) (v:=.agg (Jo bn bi be bo bj bg bp bm bh)) 164 rfl rfl fR fR fR (λ_ _ _ _ e=>e) gb (λw E=>by obtain⟨q0,Y,q2⟩:=kaE E.2.1;simp[execOp,go_sem,q0,Y,q2]) u fQ fQ ?_;refine kaG (i:=9) (v:=.agg (Jo db c8 cY dc c9 c0 dd da c7)) 165 rfl rfl fR fR fR (λ_ _ _ _ e=>e) gb (λw E=>by obtain⟨q0,Y,q2⟩:=kaE E.2.2.1;simp[execOp,go_sem,q0,Y,q2]) u fQ fQ ?_;refine kap (i:=10) (f:=56) (args:=#[.slice a j c,Yf (D.pq d),.agg (Jn F D.N H t D.lp.length s J (D.nn+1:Nat) c3 T d c4),Yf d,Yf aa,.agg (Jo bn bi be bo bj bg bp bm bh),.agg (Jo db c8 cY dc c9 c0 dd da c7)]) (R:=λQ wz=>∃h,Q=.tuple #[fV (D.g d) h,Yf (D.pq (d+1))]/\FOw wz L.1.size (D.g d) h/\Bw L wz) 166 rfl rfl gb fR gd (dU.mono λac w6 ⟨h,he,h1,h2⟩=>⟨_,he,h,rfl,h1,h2⟩) ?_;rintro Q W2 ⟨h,rfl,eD,a9⟩;have P:=am.mono a9;have dt:=ag.mono a9;have ch:Blk W2 ae 73 [Yh,Yf 0,Yf 0,Yg,Yg,Yg,Yg,Yh,Yg]:=cK.mono a9 cK.lt;have dN:W2.cell? ⟨bt,ot+d,none⟩=some (Yf aa):=(a9.cell (p:=⟨bt,ot+d,none⟩) (show bt<L.1.size by omega)).trans bq;have u:=And.intro P.bx (And.intro dt.bb (And.intro dt.ab dN));refine⟨u,?_⟩;refine kav fQ fQ ?_;refine kaG (i:=11) (v:=.tuple #[fV (D.g d) h,Yf (D.pq (d+1))]) 155 rfl rfl fR fR fR (λ_ _ _ _ e=>e) gb (λw E=>by rfl) u fQ fQ ?_;refine kaG (i:=12) (v:=fV (D.g d) h) 167 rfl rfl fR fR fR (λ_ _ _ _ e=>e) gb (λw E=>by rfl) u fQ fQ ?_;refine kaG (i:=13) (v:=Yf (D.pq (d+1))) 168 rfl rfl fR fR fR (λ_ _ _ _ e=>e) gb (λw E=>by rfl) u fQ fQ ?_;have dq:Below ae wr (W2.setRow ae (fCs (D.g d) h).toArray):=below_setRow (dP.trans (a9.mono fP)) (nR _) _;have ce:B4<ae:=(by have:=HE.bb.lt;have:=b3.u;omega);have fw:=HE.lo;have ai:=X.mono (show Bw wr _ by rw[Bw,b3.u];exact dq);have a4:=HE.mono (show Bw wr _ by rw[Bw,b3.u];exact dq);have ba:Blk (W2.setRow ae (fCs (D.g d) h).toArray) ae 73 (fCs (D.g d) h):=ch.row _;have cn:FOw (W2.setRow ae (fCs (D.g d) h).toArray) w.1.size (D.g d) h:=(eD.one ch fS fS (λO hj=>setRow_other _ _ _ _ hj)).low fP;have dO:(W2.setRow ae (fCs (D.g d) h).toArray).cell? ⟨bt,ot+d,none⟩=some (Yf aa):=(q1n _ (show bt≠ae by omega)).trans dN;refine kaD (i:=14) (w':=W2.setRow ae (fCs (D.g d) h).toArray) rfl gb fR rfl (q1q 73 (.tmp 24) (.tmp 167) rfl ae (fCs (D.g d) h).toArray rfl rfl 73 _ ch fR rfl gt) rfl ⟨ai.bx,a4.bb,a4.ab,dO⟩ ?_;have u:=And.intro ai.bx (And.intro a4.bb (And.intro a4.ab dO));refine khG fQ ?_;refine kaG (i:=15) (v:=Yf (D.pq (d+1))) 1 rfl rfl fR fR fR (λ_ _ _ _ e=>e) gb (λw E=>by rfl) u fQ fQ ?_;refine wdQ ?_;obtain⟨W3,er⟩:=Nq (W2.setRow ae (fCs (D.g d) h).toArray);rw[er]at ai a4 ba cn⊢;clear u er dq dO dN bq ch P dt a9 eD am ag cK dP X HE dU ck hX et dr;obtain⟨Z,hg⟩:=Nq (D.g d);rw[hg]at ba cn dZ d5;have an:=(bR W3.1.size W3).alloc (nR _) (.cells (Jb Z h.b h.bc h.i h.ic h.h h.hc h.v h.vc h.u h.uc) 73);have eo:Blk _ _ 73 (Ju Z h.b h.bc h.i h.ic h.h h.hc h.v h.vc h.u h.uc):=Blk.new W3 73 (Jb Z h.b h.bc h.i h.ic h.h h.hc h.v h.vc h.u h.uc);have dE:=ai.mono an;have ez:=a4.mono an;have eB:=ba.mono an ba.lt;have eE:=cn.mono an;obtain⟨y0,U,V,W⟩:=kac ai.bx;have bz:=h_ ba.rng;have ay:=h_ dE;have dX:=h_ ez;have cJ:=h_ eB;have dY:=h_ eE;have eb:=h_ eo;have ct:w.1.size<=(W3.alloc (.cells (Jb Z h.b h.bc h.i h.ic h.h h.hc h.v h.vc h.u h.uc) 73)).1.size:=dE.bl.size;have HG:=h_ hg;unfold fV;rw[hg];clear ai a4 ba cn an dE ez eB eE eo hg;go_wp2_with (first | (at_builtin;refine qgk (n:=(Z,h)) rfl _ _ rfl rfl ay.ow.f.row rfl eb fP ct ?_) | refine wpList_load_mid rfl 73 (.tmp 24) rfl ae 0 rfl (fCs Z h) _ bz underlying73 rfl fR ?_ | refine qmj rfl (.tmp 171) rfl rfl ?_);intro v' W5 aX bT eu;have eI:(o++[(Z,h)]).length=d+1:=(by rw[Ym,av];rfl);have dF:W5.ownsRow w.1.size 73 9 v' (d+1) (fdV (o++[(Z,h)])):=(by first | exact aX | (rw[eI]at aX;exact aX));obtain⟨y4,d4,rfl,-,-⟩:=qat dF;have bL:=ay.addF (x:=(Z,h)) (by rw[eI];exact dF) bT dY eu;have co:=ay.bx.grow ay.ow.f.row fS bT;have ek:=dX.grow ay.ow.f.row bT;have el:Blk W5 ae 73 (fCs Z h):=(bT.block _ cJ.lt (λac=>by have:=eg _ ac.symm;omega)).trans cJ;have cf:=ek.one co (λO hj=>heap_setCell_other W5 ⟨r,3,none⟩ O (.slice y4 (d+1) d4) hj) ei (show B4≠r by omega);have dl:Blk (W5.setCell ⟨r,3,none⟩ (.slice y4 (d+1) d4)) ae 73 (fCs Z h):=el.other _ (show ae≠r by omega);have cs:B4<=(W5.setCell ⟨r,3,none⟩ (.slice y4 (d+1) d4)).1.size:=Oa cf.bb.lt;dsimp only at bL;rw[<- d5.u]at bL;obtain⟨W6,aU⟩:=Nq (W5.setCell ⟨r,3,none⟩ (.slice y4 (d+1) d4));rw[aU]at bL cf dl cs;have v3:=co.cell 3;have vf:=co.free 3;simp only[Yp,Y3]at v3;have aJ:=h_ bL;have a8:=h_ cf;have eY:=h_ dl;have bB:=h_ aU;clear aX dF bT eu bL co ek cf el dl aU ay dX cJ dY eb ct y0 U V W bz eg;go_upto_region 44 with fail
     rw[bB.u];clear bB v3 vf;obtain⟨L,hX⟩:=Nq W6.drew;have am:=aJ.mono (bR _ _).drew;have ag:=a8.mono (bR _ _).drew;have cm:Blk W6.drew ae 73 (fCs Z h):=eY.u;have dI:B4<=W6.drew.1.size:=cs;rw[hX]at am ag cm dI;have dn:d<(kcp j f D g).length:=fP;have dK:(kcp j f D g).getD d 0=tyD j f D d:=(by unfold kcp;rw[Yq,Zr,Gu ad];rfl);obtain⟨b',o',e',-,bq⟩:=ag.at (x:=some ⟨bt,ot,none⟩) (c:=al) (by rw[aT]) dn;cases e';have dg:=cm.cell 0;rw[show(fCs Z h)[0]? = some (.string Z.nm) from rfl]at dg;refine wp_region_held_drew (S:=λW'=>W'.cell? ⟨bt,ot+d,none⟩=some (Yf ((kcp j f D g).getD d 0))/\W'.cell? ⟨ae,0,none⟩=some (.string Z.nm)) fR (by rw[hX];exact⟨bq,dg⟩) (λu=>?_);rw[hX]at u⊢;refine kaG (i:=1) (v:=.slice (some ⟨bt,ot,none⟩) g al) 176 rfl rfl fR fR fR (λ_ _ _ _ e=>e) gb (λw E=>by rfl) u fQ fQ ?_;refine kaG (i:=2) (v:=Yf d) 177 rfl rfl fR fR fR (λ_ _ _ _ e=>e) gb (λw E=>by rfl) u fQ fQ ?_;refine kaG (i:=3) (v:=Yi bt (ot+d)) 178 rfl rfl fR fR fR (λ_ _ _ _ e=>e) gb (λw E=>by simp[execOp,go_sem,aw]) u fQ fQ ?_;refine kaG (i:=4) (v:=Yf ((kcp j f D g).getD d 0)) 179 rfl rfl fR fR fR (λ_ _ _ _ e=>e) gb (λw E=>by have q0:=E.1;simp[execOp,go_sem,q0]) u fQ fQ ?_;refine kaG (i:=5) (v:=Yi ae 0) 180 rfl rfl fR fR fR (λ_ _ _ _ e=>e) gb (λw E=>by rfl) u fQ fQ ?_;refine kaG (i:=6) (v:=.string Z.nm) 181 rfl rfl fR fR fR (λ_ _ _ _ e=>e) gb (λw E=>by have q0:=E.2;simp[execOp,go_sem,q0]) u fQ fQ ?_;obtain⟨b0,b1,b2⟩:=kaE ag.bb;refine keV (i:=0) (v:=.agg (Jo bn bi be bo bj bg bp bm bh)) (w':=L) 175 rfl rfl gb fR (by simp[execOp,go_sem,b0,b1,b2]) u ?_;refine kav fQ fQ ?_;refine kap (i:=7) (f:=54) (args:=#[.agg (Jo bn bi be bo bj bg bp bm bh),Yf ((kcp j f D g).getD d 0),.string Z.nm]) (R:=λQ wz=>∃U V W,Q=.agg #[U,V,W]/\kbo (pkK (tyD j f D) D.fnm (d+1)) wz B4 U V W/\Kpt (.slice bn bi be) (.slice bo bj bg) (.slice bp bm bh) L wz) 182 rfl rfl gb fR gd ((q9u (K:=pkK (tyD j f D) D.fnm d) ((kcp j f D g).getD d 0) (by rw[dK];exact kdI _) Z.nm cM ag.bk dI).mono λac w6 ⟨U,V,W,he,h1,h2⟩=>⟨_,he,U,V,W,rfl,by rw[dK,dZ.u]at h1;exact h1,h2⟩) ?_;rintro Q W7 ⟨U,V,W,rfl,dB,aB⟩;obtain⟨g1,m1,d1,g2,m2,d2,g3,m3,d3,rfl,rfl,rfl⟩:=dB.slices;have du:=aB.blk ag.bk cm fS;obtain⟨b',o',e',-,eT⟩:=kgH (aB.own ag.bk ag.ty fS) aT.symm d dn;cases e';have cg:=ag.kpt aB dB;have en:=am.four aB ag.bk dI dM cO ag.bb (Jo g1 m1 d1 g2 m2 d2 g3 m3 d3) (show B4≠r by omega);have de:=du.cell 0;have df:=(du.row_other (show ae≠B4 by omega) (Jo g1 m1 d1 g2 m2 d2 g3 m3 d3)).cell 0;rw[show(fCs Z h)[0]? = some (.string Z.nm) from rfl]at de df;obtain⟨b',o',e',-,eU⟩:=cg.at (x:=some ⟨bt,ot,none⟩) (c:=al) (by rw[aT]) dn;cases e';refine⟨⟨eT,de⟩,?_⟩;refine kav fQ fQ ?_;refine kaD (i:=8) (w':=W7.setRow B4 (Jo g1 m1 d1 g2 m2 d2 g3 m3 d3)) rfl gb fR rfl (q1q 109 (.tmp 22) (.tmp 182) rfl B4 _ rfl rfl 109 _ (aB.blk ag.bk ag.bb fS) fR rfl fU) rfl ⟨eU,df⟩ ?_;refine wdQ ?_;have fp:B4<=(W7.setRow B4 (Jo g1 m1 d1 g2 m2 d2 g3 m3 d3)).1.size:=Oa cg.bb.lt;have ap:=h_ en;have eX:=h_ cg;clear u en cg am ag cm du aB dB eT eU de df bq dg b0 b1 b2 dK;go_wp2;go_roundw
     case rel=>exact⟨d+1,y4,d4,o++[(Z,h)],_,_,_,fP,fX,rfl,ap,eX,fp⟩
     case measure=>exact km
   . have aw:¬ (d:Int)<(g:Int):=fP
     obtain rfl:d=g:=fP;have aK:Hi (MMk r (fmX j f D (D.FL 0)) o (.slice F D.N H) (.slice t D.lp.length s) (.slice J (D.nn+1) c3) (.slice T d c4) w wr):=h_ (by rw[af.u.FL0];exact m);clear m he;go_wp2;go_meet;exact⟨rfl,_,_,_,aK⟩
 case rest =>
 as_aux_lemma =>
 obtain⟨rfl,T,c4,o,m⟩:=hcut;clear aJ a8 cO dM eq ei ci aT;have aJ:=h_ m;clear m
 go_upto_block 8 with fail
 go_cut [] from 31 (λI=>∃T c4 o,MMk r (fmX j f D (D.FL g)) o (.slice F D.N H) (.slice t D.lp.length s) (.slice J (D.nn+1) c3) (.slice T g c4) w I)
 case first =>
  as_aux_lemma =>
  go_wp2;go_loopw [25,26] (λM _ wr=>∃(d:Nat) (T:To) (c4:Nat) (o:List (Fl × FA)),d<=g/\M=Yf d/\MMk r (fmX j f D (D.FL d)) o (.slice F D.N H) (.slice t D.lp.length s) (.slice J (D.nn+1) c3) (.slice T g c4) w wr) (λM _ _=>g - (intOf M).toNat)
  case atStart=>exact⟨0,_,_,_,nZ _,rfl,aJ⟩
  case round =>
   clear aJ;obtain⟨d,T,c4,o,hk,rfl,m⟩:=hrel;by_cases ad:d<g
   . have aw:(d:Int)<(g:Int):=fP
     have av:o.length=g:=(by have:=congrArg List.length m.ow.e;rw[Zk]at this;rw[<- this];exact af.FLl d);have aF:=h_ (af.FLs d);obtain⟨h,eA,bX,-⟩:=m.ow.sl;have Z:=h_ (af.cZ d ad wr h bX);rw[<- eA]at Z;obtain⟨y0,U,V,W⟩:=kac m.bx;have X:=h_ m;clear m bX eA;go_wp2_with fail;refine cQ Z λy q=>?_;have a5:=X.mono q;clear y0 U V W Z X q;by_cases h0:0<=D.zz d
     . rw[Y6 h0]at aF
       obtain⟨y0,U,V,W⟩:=kac a5.bx;have aC:OwF y w.1.size (.slice T o.length c4) o:=(by rw[av];exact a5.ow.f);have cH:=h_ (q5a (D.zz d) (-1) y w.1.size a5.bl.size o fP F t J T D.N H D.lp.length s (D.nn+1) c3 c4 aC);rw[av]at cH;have cS:=h_ a5;clear a5 aC;go_wp2_with fail;refine cH.mono ?_;rintro ac W2 ⟨x5,Z,rfl,bV,q⟩;have P:=cS.mono q;have ai:=P.rowF bV;have bP:(kcA (D.zz d) (-1) o g).map (·.1)=D.FL (d+1):=by rw[aF.u,qky,show D.FL d=o.map (·.1) from cS.u.ow.e]
       try dsimp only at ai
       rw[bP]at ai;have ax:Hi (MMk r (fmX j f D (D.FL (d+1))) (kcA (D.zz d) (-1) o g) (.slice F D.N H) (.slice t D.lp.length s) (.slice J (D.nn+1) c3) (.slice x5 g Z) w (W2.setRow r (Jn F D.N H t D.lp.length s J (D.nn+1) c3 x5 g Z))):=h_ ai;have e9:=h_ P.bx;clear P ai bP bV q cH cS y0 U V W;go_wp2_with (refine wpList_store_row rfl 28 (.tmp 8) (.tmp 194) rfl r (Jn F D.N H t D.lp.length s J (D.nn+1) c3 x5 g Z) rfl rfl 28 (Jn F D.N H t D.lp.length s J (D.nn+1) c3 T g c4) e9 fR rfl fU ?_);go_roundw
       case rel=>first | exact⟨d+1,_,_,_,fP,fX,ax⟩ | ((repeat apply Exists.intro);exact⟨⟨d+1,_,_,_,fP,fX,ax⟩,rfl⟩)
       case measure=>exact km
     . rw[Y2 h0]at aF
       have ax:Hi (MMk r (fmX j f D (D.FL (d+1))) o (.slice F D.N H) (.slice t D.lp.length s) (.slice J (D.nn+1) c3) (.slice T g c4) w y):=h_ (by rw[aF.u];exact a5);clear a5;go_wp2;go_roundw
       case rel=>first | exact⟨d+1,_,_,_,fP,fX,ax⟩ | ((repeat apply Exists.intro);exact⟨⟨d+1,_,_,_,fP,fX,ax⟩,rfl⟩)
       case measure=>exact km
   . have aw:¬ (d:Int)<(g:Int):=fP
     obtain rfl:d=g:=fP;have aK:=h_ m;clear m;go_wp2;go_meet;exact⟨_,_,_,aK⟩
 case rest =>
 as_aux_lemma =>
 clear aJ;obtain⟨ft,fd,P',m⟩:=hcut;obtain⟨h,eA,bX,-⟩:=m.ow.sl;have cG:=h_ (af.cI wc h bX);rw[<- eA]at cG;obtain⟨y0,U,V,W⟩:=kac m.bx;have fK:=af.hpq g (nR _);have fG:=af.hls;have X:=h_ m;clear m bX eA;go_wp2_with fail;refine cG.mono ?_;rintro ac y ⟨fb,fc,rfl,bd,q⟩;have cU:Hi (MMk r (fmX j f D (D.FM 0)) P' (.slice F D.N H) (.slice t D.lp.length s) (.slice J (D.nn+1) c3) (.slice ft g fd) w y):=h_ (by rw[af.u.FM0];exact X.mono q);have aH:=h_ bd;clear bd q X cG y0 U V W
 go_upto_block 10 with fail
 go_cut [1] from 31 (λs1 I=>s1=Yf ((D.pq g+D.ls.length:Nat):Int)/\∃T c4 o,MMk r (fmX j f D (D.FM D.ls.length)) o (.slice F D.N H) (.slice t D.lp.length s) (.slice J (D.nn+1) c3) (.slice T g c4) w I)
 case first =>
  as_aux_lemma =>
  go_wp2;go_loopw [1,14,28] (λs1 _ M wr=>∃(d B:Nat) (T:To) (c4:Nat) (o:List (Fl × FA)),d<=D.ls.length/\M=Yf d/\s1=Yf B/\B=D.pq g+d/\MMk r (fmX j f D (D.FM d)) o (.slice F D.N H) (.slice t D.lp.length s) (.slice J (D.nn+1) c3) (.slice T g c4) w wr/\kc6 wr fb D.ls) (λ_ _ M _=>D.ls.length - (intOf M).toNat)
  case atStart=>exact⟨0,D.pq g,_,_,_,nZ _,rfl,rfl,rfl,cU,aH⟩
  case round =>
   clear cU aH;obtain⟨d,B,T,c4,o,hk,rfl,rfl,hq,m,bd⟩:=hrel;by_cases ad:d<D.ls.length
   . have aw:(d:Int)<(D.ls.length:Int):=fP
     have av:o.length=g:=(by have:=congrArg List.length m.ow.e;rw[Zk]at this;rw[<- this];exact af.FMl d fP);have ep:d<o.length:=fP;obtain⟨Y,aP⟩:=Nq (B+1);have e1:(B:Int)+1=(Y:Int):=fP;obtain⟨z,hY⟩:=Nq (tkD j f B 4);have aS:Hi (Y=D.pq g+(d+1)):=h_ fP;obtain⟨lb,dC⟩:=Nq (((D.FM d).getD d kcs).lb);have aF:Hi (D.FM (d+1)=if z=0/\lb<0 then kdH d (D.ls.getD d 0) (D.FM d) g else D.FM d):=h_ (by rw[af.u.FMs d ad,<- hq,hY,dC]);have eH:(o[d]).1.lb=lb:=(by rw[<- dC,show D.FM d=o.map (·.1) from m.ow.e,<- qhz,Yq,Yn ep];rfl);have aC:OwF wr w.1.size (.slice T o.length c4) o:=(by rw[av];exact m.ow.f);obtain⟨bf,of,e4,⟨-,-,-,zl,-⟩,-⟩:=qo1 aC d (by rw[Zk];exact ep);rw[Og,eH]at zl;subst e4;have dH:B<=200000:=fP;obtain⟨HT,X,aH⟩:=oC hY m bd;clear hq aP hY dC eH m bd aC;go_wp2_with fail;refine cQ (qsd (p:=B) (n:=4) aN fP fP fP c (a0 wr X.bl) rfl rfl) λw' aD=>?_;subst aD;rw[HT.u];clear HT;obtain⟨y0,U,V,W⟩:=kac X.bx;have fD:(d:Int)<(g:Int):=fP;go_upto_region 56 with fail
     go_cut [219] from 197 to 226 (λah I=>ah=.bool (decide (z=0/\lb<0))/\I=w')
     case first =>
      as_aux_lemma =>
      by_cases h0:z=0
      . have bH:((z:Int)==0)=true:=by rw[h0];rfl
        have Hk:=h_ h0;clear h0;by_cases h1:lb<0
        . go_wp2
          go_meet;exact⟨congrArg Value.bool (Ys (show z=0/\lb<0 from ⟨Hk,h1⟩)).symm,rfl⟩
        . go_wp2
          go_meet;exact⟨congrArg Value.bool (Yo (show ¬ (z=0/\lb<0) from λe=>by have:=e.2;omega)).symm,rfl⟩
      . have bH:((z:Int)==0)=false:=Yl.2 fP
        go_wp2;go_meet;exact⟨congrArg Value.bool (Yo (show ¬ (z=0/\lb<0) from λe=>h0 e.1)).symm,rfl⟩
     case rest =>
     as_aux_lemma =>
     obtain⟨rfl,rfl⟩:=hcut;clear y0 U V W zl;by_cases e:z=0/\lb<0
     . rw[Y6 e]at aF
       rw[Ys e];clear e;obtain⟨bl,ol,fe,fj,zl⟩:=aH d ad;dsimp only at zl;subst fe;obtain⟨L,hX⟩:=Nq wc.drew;have am:=X.mono (bR _ _).drew;have dA:kc6 wc.drew _ D.ls:=aH.mono (bR _ _).drew;have bZ:wc.drew.cell? ⟨bl,ol+d,none⟩=some (Yf (D.ls.getD d 0)):=zl;rw[hX]at am dA bZ;have fk:bl<L.1.size:=(by rw[<- hX];exact fj);go_upto_region 57 with fail
       obtain⟨lk,dD⟩:=Nq (D.ls.getD d 0);rw[dD]at aF bZ;refine wp_region_held_drew (S:=λW'=>W'.cell? ⟨bl,ol+d,none⟩=some (Yf lk)) fR (by rw[hX];exact bZ) (λu=>?_);rw[hX]at u⊢;refine kaG (i:=1) (v:=Yf d) 221 rfl rfl fR fR fR (λ_ _ _ _ e=>e) gb (λw E=>by rfl) u fQ fQ ?_;refine kaG (i:=2) (v:=.slice (some ⟨bl,ol,none⟩) D.ls.length fc) 222 rfl rfl fR fR fR (λ_ _ _ _ e=>e) gb (λw E=>by rfl) u fQ fQ ?_;refine kaG (i:=3) (v:=Yf d) 223 rfl rfl fR fR fR (λ_ _ _ _ e=>e) gb (λw E=>by rfl) u fQ fQ ?_;refine kaG (i:=4) (v:=Yi bl (ol+d)) 224 rfl rfl fR fR fR (λ_ _ _ _ e=>e) gb (λw E=>by simp[execOp,go_sem,aw]) u fQ fQ ?_;refine kaG (i:=5) (v:=Yf lk) 225 rfl rfl fR fR fR (λ_ _ _ _ e=>e) gb (λw E=>by have q0:=E;simp[execOp,go_sem,q0]) u fQ fQ ?_;obtain⟨y0,U,V,W⟩:=kac am.bx;refine keV (i:=0) (v:=.agg (Jn F D.N H t D.lp.length s J (D.nn+1) c3 (some ⟨bf,of,none⟩) g c4)) (w':=L) 220 rfl rfl gb fR (by simp[execOp,go_sem,y0,U,V,W]) u ?_;refine kav fQ fQ ?_;have aC:OwF L w.1.size (.slice (some ⟨bf,of,none⟩) o.length c4) o:=(by rw[av];exact am.ow.f);have E:=q5a d lk L w.1.size am.bl.size o fP F t J (some ⟨bf,of,none⟩) D.N H D.lp.length s (D.nn+1) c3 c4 aC;rw[av]at E;refine kap (i:=6) (f:=58) (args:=#[.agg (Jn F D.N H t D.lp.length s J (D.nn+1:Nat) c3 (some ⟨bf,of,none⟩) g c4),Yf d,Yf lk]) (R:=λQ wz=>∃x5 Z,Q=.agg (Jn F D.N H t D.lp.length s J (D.nn+1:Nat) c3 x5 g Z)/\OwF wz w.1.size (.slice x5 g Z) (kcA d lk o g)/\Bw L wz) 226 rfl rfl gb fR gd (E.mono λac w6 ⟨x5,Z,he,h1,h2⟩=>⟨_,he,x5,Z,rfl,h1,h2⟩) ?_;rintro Q W2 ⟨x5,Z,rfl,bV,q⟩;have P:=am.mono q;have eF:=dA.mono q;have ai:=P.rowF bV;have dz:kc6 (W2.setRow r (Jn F D.N H t D.lp.length s J (D.nn+1) c3 x5 g Z)) (some ⟨bl,ol,none⟩) D.ls:=eF.other P.bx (qo4 _ _ _ _ _ _ _ _ _ _ _ _) (λO hj=>setRow_other _ _ _ _ hj) (by simp[World.setRow]);have eR:W2.cell? ⟨bl,ol+d,none⟩=some (Yf lk):=(q.cell (p:=⟨bl,ol+d,none⟩) fk).trans bZ;have eS:(W2.setRow r (Jn F D.N H t D.lp.length s J (D.nn+1) c3 x5 g Z)).cell? ⟨bl,ol+d,none⟩=some (Yf lk):=by
        obtain⟨b',o',e',-,cA⟩:=dz d ad;cases e';rw[cA];dsimp only;rw[dD]
       have bP:(kcA d lk o g).map (·.1)=D.FM (d+1):=by rw[aF.u,qky,show D.FM d=o.map (·.1) from X.u.ow.e]
       try dsimp only at ai
       rw[bP]at ai;have ax:Hi (MMk r (fmX j f D (D.FM (d+1))) (kcA d lk o g) (.slice F D.N H) (.slice t D.lp.length s) (.slice J (D.nn+1) c3) (.slice x5 g Z) w (W2.setRow r (Jn F D.N H t D.lp.length s J (D.nn+1) c3 x5 g Z))):=h_ ai;have d6:=h_ dz;refine⟨eR,?_⟩;refine kav fQ fQ ?_;refine kaD (i:=7) (w':=W2.setRow r (Jn F D.N H t D.lp.length s J (D.nn+1) c3 x5 g Z)) rfl gb fR rfl (q1q 28 (.tmp 8) (.tmp 226) rfl r _ rfl rfl 28 _ P.bx fR rfl fU) rfl eS ?_;refine wdQ ?_;clear u P ai eF dz eR eS bP bV q E aC am dA bZ y0 U V W zl dD X aH;go_wp2;go_roundw
       case rel=>first | exact⟨d+1,Y,_,_,_,fP,fX,rfl,aS,ax,d6⟩ | ((repeat apply Exists.intro);exact⟨⟨d+1,Y,_,_,_,fP,fX,rfl,aS,ax,d6⟩,rfl⟩)
       case measure=>simp[intOf];omega
     . rw[Y2 e]at aF
       rw[Yo e];clear e;have ax:Hi (MMk r (fmX j f D (D.FM (d+1))) o (.slice F D.N H) (.slice t D.lp.length s) (.slice J (D.nn+1) c3) (.slice (some ⟨bf,of,none⟩) g c4) w wc):=h_ (by rw[aF.u];exact X);clear X;go_wp2;go_roundw
       case rel=>first | exact⟨d+1,Y,_,_,_,fP,fX,rfl,aS,ax,aH⟩ | ((repeat apply Exists.intro);exact⟨⟨d+1,Y,_,_,_,fP,fX,rfl,aS,ax,aH⟩,rfl⟩)
       case measure=>simp[intOf];omega
   . have aw:¬ (d:Int)<(D.ls.length:Int):=fP
     obtain rfl:d=D.ls.length:=fP;subst hq;have aK:=h_ m;clear m bd;go_wp2;go_meet;exact⟨rfl,_,_,_,aK⟩
 case rest =>
 as_aux_lemma =>
 clear cU aH;obtain⟨rfl,T,c4,o,m⟩:=hcut;have av:o.length=g:=by have:=congrArg List.length m.ow.e;rw[Zk]at this;rw[<- this];exact af.FMl _ (nR _)
 obtain⟨B,hq⟩:=Nq (D.pq g+D.ls.length);obtain⟨A,hT⟩:=Nq (tkD j f B 3);have d:Hi (kd4 j f D g=if A=0/\1<g then (D.FM D.ls.length).reverse else D.FM D.ls.length):=h_ (by unfold kd4;rw[hq,hT]);have dH:B<=200000:=fP
 have e1:(B:Int)+1=((B+1:Nat):Int):=fP
 obtain⟨Y,aP⟩:=Nq (B+1);rw[aP]at e1;rw[hq];obtain⟨HT,X,aS⟩:=oC hT m aP;have HE:Hi (D.FM D.ls.length=o.map (·.1)):=h_ m.ow.e;have HQ:=h_ hq;clear hT m aP hq;go_wp2_with fail;refine cQ (qsd (p:=B) (n:=3) aN fP fP fP c (a0 wc X.bl) rfl rfl) λw' aD=>?_;subst aD;rw[HT.u];clear HT;go_upto_region 59 with fail
 go_cut [238] from 31 (λah I=>ah=.bool (decide (A=0/\1<g))/\I=w')
 case first =>
  as_aux_lemma =>
  by_cases h0:A=0
  . have bH:((A:Int)==0)=true:=by rw[h0];rfl
    have Hk:=h_ h0;clear h0;by_cases h1:1<g
    . have bI:(1:Int)<g:=fP
      go_wp2;go_meet;exact⟨congrArg Value.bool (Ys (show A=0/\1<g from ⟨Hk,h1⟩)).symm,rfl⟩
    . have bI:¬ (1:Int)<g:=fP
      go_wp2;go_meet;exact⟨congrArg Value.bool (Yo (show ¬ (A=0/\1<g) from λe=>h1 e.2)).symm,rfl⟩
  . have bH:((A:Int)==0)=false:=Yl.2 fP
    go_wp2;go_meet;exact⟨congrArg Value.bool (Yo (show ¬ (A=0/\1<g) from λe=>h0 e.1)).symm,rfl⟩
 case rest =>
 as_aux_lemma =>
 obtain⟨rfl,rfl⟩:=hcut;go_upto_if 238 with fail
 go_cut [] from 31 (λI=>∃T c4 o,MMk r (fmX j f D (kd4 j f D g)) o (.slice F D.N H) (.slice t D.lp.length s) (.slice J (D.nn+1) c3) (.slice T g c4) w I)
 case first =>
  as_aux_lemma =>
  by_cases e:A=0/\1<g
  . rw[Y6 e]at d
    have h1:=e.2;rw[Ys e];clear e;have C:=(bR wc.1.size wc).alloc (nR _) (.cells #[] 73);have u:(wc.alloc (.cells #[] 73)).ownsRow wc.1.size 73 9 (.slice (some ⟨wc.1.size,0,none⟩) 0 0) 0 (fdV []):=⟨rfl,.inr ⟨wc.1.size,0,_,rfl,nR _,heap_alloc_new wc (.cells #[] 73),nR _,by unfold maxLen;omega,rfl,rfl⟩⟩;obtain⟨W5,a2⟩:=Nq (wc.alloc (.cells #[] 73));rw[a2]at C u;obtain⟨G,hB⟩:=Nq wc.1.size;rw[hB]at C u;obtain⟨aR,z,aY⟩:=oC C u hB;have e8:Hi (w.1.size<=G):=h_ (by rw[<- hB];exact X.bl.size);have bA:=h_ a2;clear C u a2 hB
    go_upto_block 12 with fail
    rw[bA.u,aY.u];clear bA;go_wp2;go_loopw [29,30] (λu M wr=>∃(aj:Nat) (x5:To) (Z:Nat),aj<=g/\M=Yf ((aj:Int) - 1)/\u=.slice x5 (g - aj) Z/\wr.ownsRow G 73 9 (.slice x5 (g - aj) Z) (o.reverse.take (g - aj)).length (fdV (o.reverse.take (g - aj)))/\Below G wc wr) (λ_ M _=>(intOf M+1).toNat)
    case atStart=>exact⟨g,_,0,nR _,by first | rfl | go_num,by rw[Nat.sub_self],by rw[Nat.sub_self];exact z,aR⟩
    case round =>
     clear z aR;obtain⟨aj,x5,Z,hr,rfl,rfl,ho,q⟩:=hrel;obtain⟨az,hW⟩:=Nq wc;rw[hW]at q X aY;have m:=X.mono (show Bw az wr by rw[Bw,aY.u];exact q);by_cases ad:1<=aj
     . obtain⟨O,rfl⟩:∃O,aj=O+1:=⟨aj - 1,fP⟩
       have hj:O<o.length:=fP;rw[show((O+1:Nat):Int) - 1=(O:Int) by omega];have fB:(0:Int)<=O:=fP;have fC:(O:Int)<g:=fP;have aC:OwF wr w.1.size (.slice T o.length c4) o:=(by rw[av];exact m.ow.f);obtain⟨b1,o1,e4,u,-⟩:=qo1 aC O (by rw[Zk];exact hj);obtain⟨⟨Q,h⟩,L⟩:∃ao,o[O]=ao:=⟨_,rfl⟩;rw[Og,qhm hj,L]at u;have bz:=h_ u.rng;clear u;have C:Hi (o.reverse.take (g - O)=o.reverse.take (g - (O+1))++[(Q,h)]):=h_ (by rw[<- av,<- L];exact qke o hj);subst e4;obtain⟨y0,U,V,W⟩:=kac m.bx;have an:=(bR wr.1.size wr).alloc (nR _) (.cells (Jb Q h.b h.bc h.i h.ic h.h h.hc h.v h.vc h.u h.uc) 73);have HN:Hi (Blk _ _ 73 (Ju Q h.b h.bc h.i h.ic h.h h.hc h.v h.vc h.u h.uc)):=h_ (Blk.new wr 73 (Jb Q h.b h.bc h.i h.ic h.h h.hc h.v h.vc h.u h.uc));have z:=h_ (qeo ho an);have eK:G<=wr.1.size:=(by have:=q.size;have:=aY.u;omega);have M:=h_ (q.trans (an.mono eK));have eM:G<=(wr.alloc (.cells (Jb Q h.b h.bc h.i h.ic h.h h.hc h.v h.vc h.u h.uc) 73)).1.size:=Yx eK an.size;have eG:(o.reverse.take (g - (O+1))).length<=1000:=hZ;obtain⟨u,E⟩:=Nq (g - (O+1));rw[E]at z C eG⊢;have bw:=h_ E;have I:(o.reverse.take u).length=u:=(by rw[Zb,Zo];omega);obtain⟨fa,hQ⟩:=Nq (o.reverse.take u);rw[hQ]at z C eG I;have P:=h_ I;clear an ho q m aC L E I hQ;go_wp2_with (first | (at_builtin;refine qgk (n:=(Q,h)) rfl _ _ rfl rfl z rfl HN fP eM ?_) | refine wpList_load_mid rfl 73 (.tmp 250) rfl b1 (o1+O*9) rfl (fCs Q h) _ bz underlying73 rfl fR ?_ | refine qmj rfl (.tmp 251) rfl rfl ?_);intro v' W4 aW bS aG;have b4:=h_ (M.trans aG);have E:g - O=u+1:=(by have:=bw.u;omega);have aX:W4.ownsRow G 73 9 v' (u+1) (fdV (fa++[(Q,h)])):=(by have e:=aW;simpa [P.u] using e);obtain⟨L,I,rfl,-,-⟩:=qat aX;have e0:Hi (W4.ownsRow G 73 9 (.slice L (g - O) I) (o.reverse.take (g - O)).length (fdV (o.reverse.take (g - O)))):=h_ (by rw[C.u,Ym,P.u,E];exact aX);rw[<- E];clear aX;clear aW bS aG HN z M eM y0 U V W bz E;go_wp2;go_roundw
       case rel=>exact⟨O,L,I,fP,by first | rfl | go_num,rfl,e0,by rw[hW];exact b4⟩
       case measure=>first | (simp[intOf];done) | (simp[intOf];omega)
     . obtain rfl:aj=0:=fP
       rw[show((0:Nat):Int) - 1 = -1 from rfl];rw[Nat.sub_zero]at ho⊢;have C:o.reverse.take g=o.reverse:=(by rw[<- av,<- Zo,Zp]);rw[C,Zo]at ho;have E:OwF wr w.1.size (.slice x5 g Z) o.reverse:=⟨by rw[Zo];exact qjr ho e8,λp hp=>m.ow.f.sub p (Gs.1 hp)⟩;have u:=m.setF E;have z:o.reverse.map (·.1)=kd4 j f D g:=by rw[d.u,HE.u,List.map_reverse]
       try dsimp only at u
       rw[z]at u;have ap:Hi (MMk r (fmX j f D (kd4 j f D g)) o.reverse (.slice F D.N H) (.slice t D.lp.length s) (.slice J (D.nn+1) c3) (.slice x5 g Z) w (wr.setCell ⟨r,3,none⟩ (.slice x5 g Z))):=h_ u;have v3:=m.bx.cell 3;have vf:=m.bx.free 3;simp only[Yp,Y3]at v3;clear m u E ho q z C X;go_wp2;go_meet;exact⟨_,_,_,ap⟩
  . rw[Y2 e]at d
    rw[Yo e];clear e;have ap:Hi (MMk r (fmX j f D (kd4 j f D g)) o (.slice F D.N H) (.slice t D.lp.length s) (.slice J (D.nn+1) c3) (.slice T g c4) w wc):=h_ (by rw[d.u];exact X);clear X;go_wp2;go_meet;exact⟨_,_,_,ap⟩
 case rest =>
 as_aux_lemma =>
 clear X d HE;obtain⟨x5,Z,q,m⟩:=hcut;obtain⟨y0,U,V,W⟩:=kac m.bx;obtain⟨d,e⟩:=oB m.fin m.r0;clear m;go_wp2_with (refine wpList_store_row rfl 28 (.tmp 6) (.tmp 256) rfl w.1.size (Jn F D.N H t D.lp.length s J (D.nn+1) c3 x5 g Z) rfl rfl 28 Jf e fR rfl fU ?_);clear y0 U V W;obtain⟨y0,U,V,W⟩:=kac d.2.2;exact bodyPost_ret (v:=.tuple #[.agg (Jn F D.N H t D.lp.length s J (D.nn+1) c3 x5 g Z),Yf Y]) (by simp[results,results15,go_sem,y0,U,V,W]) rfl ⟨_,_,_,_,_,by rw[<- aS.u,<- HQ.u],d.1,d.2.1⟩
def q63 (d:Nat)(f:Nat->Nat)(j:d<=1048576)(p:Nat)(k:p<=1000)(a:Nat)(i:a<=20):∃(e b:Nat) (c:Fm) (l:Nat),e<=100/\(1<=b/\b<=1000)/\kbK e b c/\c.F.length=a/\l<=150000/\∀(b:Tw) (g:To) (h:Nat),kbs b g d f -> Calls prog 15 #[Sl g d h,Yf p,Yf a] b λs q=>∃e m n o r,s=Rt (.tuple #[.agg #[e,m,n,o],Yf l])/\OwM q b.1.size e m n o c r/\Bw b q:=by obtain⟨c,e,n,o⟩:=kgG d f j p k a i;have q:=e.hpq a (nR _);have r:=e.hls;have l:=e.hN2;have s:=e.hn3;exact⟨c.N,c.nn+1,_,c.pq a+c.ls.length+1,l,⟨Nat.succ_le_succ (nZ _),fP⟩,n,o,fP,λb g h m=>q2o d f j p k a i c e b g h m⟩
def kfL (m:Fm):Prop:=kaY m/\m.F.length<=1000
def SpoX (len:Nat)(f:Nat->Nat):Prop:=∀(q:Nat),q<=200000->∀(N nr:Nat) (m:Fm),N<=100->nr<=1000->kbK N nr m->0<m.F.length->∃m',kfL m'/\∀(w:Tw) (a:To) (c base:Nat) (v1 v2 v3 v4:Value) (P:List (Fl × FA)),kbs w a len f->base<=w.1.size->OwM w base v1 v2 v3 v4 m P ->
 Calls prog 21 #[Sl a len c,Yf q,.agg #[v1,v2,v3,v4]] w λe w'=>∃u1 u2 u3 u4 P',e=Rt (.agg #[u1,u2,u3,u4])/\OwM w' base u1 u2 u3 u4 m' P'/\Bw w w'
def qqa {w W:Tw}{v u a b:Value}{m:Fm}{P:List (Fl × FA)}{base:Nat}(c:Blk W w.1.size 28 J1)(g:OwM W base v u a b m P)(d:Bw w W)(e:w.1.size<=base) :
 OwM (W.setRow w.1.size #[v,u,a,b]) w.1.size v u a b m P/\Bw w (W.setRow w.1.size #[v,u,a,b])/\Blk (W.setRow w.1.size #[v,u,a,b]) w.1.size 28 [v,u,a,b] :=
 ⟨(g.low e).one c fS fS fS fS fS fS (λh f=>setRow_other W w.1.size h #[v,u,a,b] f),below_setRow d (nR _) _,c.row [v,u,a,b]⟩
