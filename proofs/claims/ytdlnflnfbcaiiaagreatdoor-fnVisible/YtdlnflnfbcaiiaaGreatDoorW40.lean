import Derived.Test.YtdlnflnfbcaiiaaGreatDoorW37
import Derived.Deep.CutBlock
set_option linter.all false
set_option maxRecDepth 100000
set_option maxHeartbeats 0
namespace Go.Proofs.YtdlnflnfbcaiiaaGreatDoor
open Value renaming slice->Sl,string->St,bool->Bo
open Obj renaming cells->Cl
open Option renaming none->Nn,some->Sm
open Go Go.RowKit Go.Proofs.Tryz
variable {p:Prop}
def kB(h:p:=by first|exact Ci ad|(simp[intOf];omega)):p:=h
def kC(h:p:=by rw[Yo h];clear h;go_wp2;go_meet;exact⟨by rw[Yz Hh.u],rfl⟩):p:=h
def kD(h:p:=by rw[Yl h];clear h;go_wp2;go_meet;exact⟨by rw[Ys Hh.u],rfl⟩):p:=h
def Qw (X:Nat)(f:Nat->Nat)(aN:X<=1048576)(p:Nat)(hp:p<=1000)(e:Nat)(fA:e<=20)(D:SD)(d:AZ X f D p e)(w:Tw)(a:To)(c:Nat)(z:O7 w a X f) :
 Calls prog 41 #[Sl a X c,Ye p,Ye e] w λac w'=>∃g V v3 y P,ac=.returned (.tuple #[.agg #[g,V,v3,y],Ye ((D.pq e+D.ls.length+1:Nat):Int)])/\T3 w' w.1.size g V v3 y (V8 X f D (vF X f D e)) P/\Bw w w':=by
 have af:=h_ d;have a0:Hi (∀az,Bw w az->O7 az a X f):=h_ λaz j=>z.mono j;have fx:=d.hN1;have fy:=d.hN2;have fF:=d.hlp;have fL:=d.hq0;have fH:=d.hn3;have O:Bw w ((w.alloc (Cl Ji 28)).alloc (Cl Ji 28)):=((bR w.1.size w).alloc (nR _) _).alloc fT _;have B:=(m0.new w 28 Ji).alloc (Cl Ji 28);have t:=m0.new (w.alloc (Cl Ji 28)) 28 Ji;simp only[Y4]at t;obtain⟨W0,o⟩:=Nq ((w.alloc (Cl Ji 28)).alloc (Cl Ji 28));rw[o]at O B t;obtain⟨m,h⟩:=Nq (w.1.size+1);rw[h]at t;have fr:w.1.size<m:=fP
 have g:Hi (C4 m ⟨[],[],[],[]⟩ [] Yf Yf Yf Yf w W0):=h_ ⟨t,T3.nil _ _,O,B,fr⟩;have J:=h_ (d.cD W0 a c (z.mono O));obtain⟨r,q⟩:=oB o h;clear O B t z d o h;go_enter func41,ntmps41;go_upto_region 2 with (refine TG rfl 28 #[] rfl Ji fR ?_)
 rw[r.u,q.u];clear r q;go_wp2_with fail;refine J.mono ?_;rintro ac s ⟨vp,rfl,T,j⟩;obtain⟨q,o,rfl,-,-⟩:=C9 T;have u:=(bR s.1.size s).alloc (nR _) (Cl (Jn D.N q D.lp.length o) 41);have B:=j.trans (u.mono j.size);have a1:Hi (m0 _ _ 41 [Ye D.N,Sl q D.lp.length o]):=h_ (m0.new s 41 (Jn D.N q D.lp.length o));have O:Hi (N8 (s.alloc (Cl (Jn D.N q D.lp.length o) 41)) w.1.size (Sl q D.lp.length o) D.lp):=h_ (BA (VB T g.bl.size) u);have L:=h_ (g.mono B);obtain⟨W2,h⟩:=Nq (s.alloc (Cl (Jn D.N q D.lp.length o) 41));obtain⟨B9,d⟩:=Nq s.1.size;have dk:B9≠m:=by have:=g.bx.lt;have:=j.size;omega
 rw[h]at a1 O L;rw[d]at a1;clear T j u B g J
 go_upto_block 0 with fail
 try rw[h]
 try rw[d]
 clear h d;go_cut [] from 31 (λC=>∃y c1,C4 m ⟨D.lab D.N,[],[],[]⟩ [] (Sl y D.N c1) Yf Yf Yf w C/\m0 C B9 41 [Ye D.N,Sl q D.lp.length o]/\N8 C w.1.size (Sl q D.lp.length o) D.lp)
 case first =>
  as_aux_lemma =>
  go_wp2;go_loopw [11] (λF wr=>∃(d:Nat) (y:To) (c1:Nat),d<=D.N/\F=Ye d/\C4 m ⟨D.lab d,[],[],[]⟩ [] (Sl y d c1) Yf Yf Yf w wr/\m0 wr B9 41 [Ye D.N,Sl q D.lp.length o]/\N8 wr w.1.size (Sl q D.lp.length o) D.lp) (λF _=>D.N - (intOf F).toNat)
  case atStart=>exact⟨0,Nn,0,nZ _,rfl,L,a1,O⟩
  case round =>
   clear L a1 O;obtain⟨d,ao,c1,hk,rfl,g,A,T⟩:=hrel;have n0:=A.cell 0;simp only[Ym]at n0;by_cases ad:d<D.N
   . have aw:(d:Int)<(D.N:Int):=fP
     have au:C4 m ⟨D.lab d,[],[],[]⟩ [] (Sl ao d c1) Yf Yf Yf w wr.drew:=g.mono (bR _ _).drew;have aO:m0 wr.drew B9 41 [Ye D.N,Sl q D.lp.length o]:=A;have z:N8 wr.drew w.1.size (Sl q D.lp.length o) D.lp:=BA T (bR _ _).drew;have cU:Hi (D.lab (d+1)=D.lab d++[D.lnm d]):=h_ (uR _ _);have bK:(D.lab d).length=d:=oJ _ _;have bu:=h_ λaz=>af.cL d fP az;obtain⟨i0,dx,dy,dz,dA⟩:=info_parts TH;go_upto_region 7 with fail
     clear n0;obtain⟨E,hX⟩:=Nq wr.drew;refine wp_region_held_drew (S:=λ_=>True) fR trivial (λr=>?_);rw[hX]at au aO z;obtain⟨x0,-⟩:=E0 au.bx;refine T5 (i:=0) (v:=Yh m 0) 45 rfl rfl fR fR fR (λ_ _ _ _ h=>h) fY (λw G=>by rfl) r fQ fQ ?_;refine T5 (i:=2) (v:=Ye d) 47 rfl rfl fR fR fR (λ_ _ _ _ h=>h) fY (λw G=>by rfl) r fQ fQ ?_;rw[hX];refine wpAnyH_ready (rs:=[1,3]) fR fT (G8 (v:=Sl ao d c1) (w':=E) 46 rfl rfl fY (by simp[execOp,go_sem,x0]) trivial ?oA (zE (f:=78) (args:=#[Ye d]) (R:=λJ wz=>J=St (D.lnm d)/\Bw E wz) 48 rfl rfl fY gd ((bu E).mono λac w6 ⟨he,j⟩=>⟨_,he,rfl,j⟩) ?oB AllReadyH.nil))
     case' oA =>
      refine I1 fQ fQ ?_;refine m9 3 48 (bu E) λs j=>?_;have u:=(bR s.1.size s).alloc (nR _) (Cl #[St (D.lnm d)] 9);have aA:=m0.new s 9 #[St (D.lnm d)];obtain⟨Y,hY⟩:=Nq (s.alloc (Cl #[St (D.lnm d)] 9));rw[hY]at u aA;have M:=j.trans (u.mono j.size);refine⟨trivial,?_⟩;refine I1 fQ fQ ?_;refine EH (i:=4) (v:=Sl (Sm (Aq s.1.size 0)) 1 1) (w':=Y) 49 rfl rfl fY fR go trivial ?_;refine I1 fQ fQ ?_
     case' oB =>
      rintro J s ⟨rfl,j⟩;have u:=(bR s.1.size s).alloc (nR _) (Cl #[St (D.lnm d)] 9);have aA:=m0.new s 9 #[St (D.lnm d)];obtain⟨Y,hY⟩:=Nq (s.alloc (Cl #[St (D.lnm d)] 9));rw[hY]at u aA;have M:=j.trans (u.mono j.size);obtain⟨w0,-⟩:=E0 (au.mono j).bx;obtain⟨y0,-⟩:=E0 (au.mono M).bx;refine⟨trivial,?_⟩;refine I1 fQ fQ ?_;refine wpAnyH_ready (rs:=[1,4]) fR fT (G8 (v:=Sl ao d c1) (w':=s) 46 rfl rfl fY (by simp[execOp,go_sem,w0]) trivial ?oC (G8 (v:=Sl (Sm (Aq s.1.size 0)) 1 1) (w':=Y) 49 rfl rfl fY go trivial ?oD AllReadyH.nil))
     case' oC =>
      refine I1 fQ fQ ?_;refine EH (i:=4) (v:=Sl (Sm (Aq s.1.size 0)) 1 1) (w':=Y) 49 rfl rfl fY fR go trivial ?_;refine I1 fQ fQ ?_
     case' oD =>
      refine I1 fQ fQ ?_;refine EH (i:=1) (v:=Sl ao d c1) (w':=Y) 46 rfl rfl fY fR (by simp[execOp,go_sem,y0]) trivial ?_;refine I1 fQ fQ ?_
     all_goals
      as_aux_lemma =>
      have I:=au.mono M;have bU:=aO.mono M aO.lt;have Q:N8 Y w.1.size (Sl q D.lp.length o) D.lp:=BA z M;have aQ:=I.bl.size;refine IP (i:=5) 50 rfl rfl rfl fR (.tmp 46) (.tmp 49) 23 rfl w.1.size 9 i0 _ 1 16 underlying23 dx dy dz dA rfl fP (Sl ao d c1) d (Q3 (D.lab d)) rfl (by have:=I.ow.l;unfold XA at this;rw[bK]at this;exact this) (Aq s.1.size 0) 1 1 [St (D.lnm d)] rfl rfl (λH J hj=>by rw[show((Aq s.1.size 0):Addr).add H=(Aq s.1.size H) by simp[Addr.add];try exact λh=>h.symm];exact(aA.cell H).trans hj) fZ fP ga fP aQ _ rfl ?_;intro t aL W9 ho aq fo fm;have bM:Below w.1.size Y W9:=(bR w.1.size Y).grown aq aQ (λZ ac=>M3 I.ow.l ac);have aV:m0 W9 m 28 [Sl ao d c1,Yf,Yf,Yf]:=I.bx.grow I.ow.l fS aq;have ap:=h_ (I.addL (x:=D.lnm d) (v':=Sl (Sm (Aq t 0)) (d+1) aL) (by show W9.ownsRow _ _ _ _ (D.lab d++[D.lnm d]).length (Q3 (D.lab d++[D.lnm d]));rw[Yn,bK];unfold Q3;rw[Zs];exact ho) aq bM);have cX:=h_ ((bU.grow I.ow.l fS aq).other (a:=Aq m 0) (Sl (Sm (Aq t 0)) (d+1) aL) dk);have U:Hi (N8 (W9.setCell (Aq m 0) (Sl (Sm (Aq t 0)) (d+1) aL)) w.1.size (Sl q D.lp.length o) D.lp):=h_ (PA (World.ownsRow.kept Q aq (sA Q I.ow.l fS)) aV fS (λH hj=>heap_setCell_other _ _ _ _ hj));refine⟨trivial,?_⟩;refine I1 fQ fQ ?_;refine T5 (i:=6) (v:=Yh m 0) 51 rfl rfl fR fR fR (λ_ _ _ _ h=>h) fY (λw G=>by rfl) r fQ fQ ?_;have v0:=aV.cell 0;have vf:=aV.free 0;simp only[Ym]at v0;refine q9 (i:=7) (w':=W9.setCell (Aq m 0) (Sl (Sm (Aq t 0)) (d+1) aL)) rfl fY fR rfl (by simp[execOp,go_sem,v0,vf]) rfl trivial ?_;refine T2 ?_;dsimp only at ap;rw[<- cU.u]at ap;clear r ho aq bM aV v0 vf g au I A aO bU T z Q u aA hY x0 j M;refine rQ ?_;exact⟨d+1,_,_,fP,fU,ap,cX,U⟩
   . have aw:¬ (d:Int)<(D.N:Int):=fP
     obtain rfl:d=D.N:=fP;obtain⟨aK,z,Q⟩:=oC g A T;clear g A T;go_wp2;go_meet;exact⟨_,_,aK,z,Q⟩
 case rest =>
 as_aux_lemma =>
 obtain⟨y,z,g,A,T⟩:=hcut;clear L a1 O;have o1:=A.cell 1;have W:=g.bx.cell 1;have U:=g.bx.free 1;simp only[Ym,Yv]at o1 W;obtain⟨c0,L⟩:=Nq (wc.setCell (Aq m 1) (Sl q D.lp.length o));have Q:Hi (C4 m ⟨D.lab D.N,D.lp,[],[]⟩ [] (Sl y D.N z) (Sl q D.lp.length o) Yf Yf w c0):=h_ (by rw[<- L];exact g.setP T);have V:Hi (m0 c0 B9 41 [Ye D.N,Sl q D.lp.length o]):=h_ (by rw[<- L];exact A.other _ dk);have O:=h_ L;clear g A T L;go_upto_region 10 with fail
 rw[O.u];clear O o1 W U;obtain⟨T,hT⟩:=Nq (N0 X f D.q0 10);have bw:Hi (D.nn=if 0<T then 1+T % 3 else 0):=h_ (by rw[<- hT];exact af.hnn);have O:T<10:=by rw[<- hT];exact m8 aN fP fP fP
 have HT:=h_ hT;obtain⟨p1,L⟩:=Nq (D.q0+1);have ff:(D.q0:Int)+1=(p1:Int):=fP
 have ee:=h_ L;clear hT L;go_wp2_with fail;refine cQ (L5 (p:=D.q0) (n:=10) aN fP fP fP c (a0 c0 Q.bl) rfl rfl) λw' aD=>?_;subst aD;rw[HT.u];clear HT;go_upto_if 62 with fail
 go_cut [12] from 31 (λah C=>ah=Ye D.nn/\C=w')
 case first =>
  as_aux_lemma =>
  by_cases h0:0<T
  . have bH:(0:Int)<T:=fP
    obtain⟨aj,hr⟩:=Nq (T % 3);have L:(T:Int) % 3=(aj:Int):=fP;have U:(T:Int).tmod 3=(aj:Int):=(by rw[show(T:Int).tmod 3=(T:Int) % 3 from rfl];exact L);have HE:Hi (D.nn=1+aj):=h_ (by rw[bw.u,Yz h0,hr]);have fN:aj<3:=fP;clear hr;go_wp2;go_meet;exact⟨by have:=HE.u;first|(congr 1;omega)|go_num,rfl⟩
  . have bH:¬ (0:Int)<T:=fP
    have HE:Hi (D.nn=0):=h_ (by rw[bw.u,Ys h0]);obtain rfl:T=0:=fP;go_wp2;go_meet;exact⟨by rw[HE.u];rfl,rfl⟩
 case rest =>
 as_aux_lemma =>
 obtain⟨rfl,rfl⟩:=hcut;clear bw O;have o0:=V.cell 0;have o1:=V.cell 1;simp only[Ym,Yv]at o0 o1;have dX:=h_ (af.cB wc q o (mP Q.ow.p));go_wp2_with fail;refine dX.mono ?_;rintro ac W3 ⟨n0,L,l1,k1,O,l2,k2,U,l3,k3,fu,rfl,j⟩;clear o0 o1 dX;have u:=(bR W3.1.size W3).alloc (nR _) (Cl #[Ye n0,Sl L l1 k1,Sl O l2 k2,Sl U l3 k3,Ye D.bot,Ye D.top] 37);have B:=j.trans (u.mono j.size);have aI:Hi (m0 _ _ 37 [Ye n0,Sl L l1 k1,Sl O l2 k2,Sl U l3 k3,Ye D.bot,Ye D.top]):=h_ (m0.new W3 37 #[Ye n0,Sl L l1 k1,Sl O l2 k2,Sl U l3 k3,Ye D.bot,Ye D.top]);have ay:=h_ (Q.mono B);have b7:=mB V B;obtain⟨W4,dr⟩:=Nq (W3.alloc (Cl #[Ye n0,Sl L l1 k1,Sl O l2 k2,Sl U l3 k3,Ye D.bot,Ye D.top] 37));obtain⟨cE,dl⟩:=Nq W3.1.size;have fh:cE≠m:=by have:=Q.bx.lt;have:=j.size;omega
 rw[dr]at aI ay b7;rw[dl]at aI;clear j u B Q V
 go_upto_block 2 with fail
 try rw[dr]
 try rw[dl]
 clear dr dl;go_cut [1] from 31 (λs1 C=>s1=Ye D.p2/\∃Q c3,C4 m ⟨D.lab D.N,D.lp,QF X f D (D.nn+1),[]⟩ [] (Sl y D.N z) (Sl q D.lp.length o) (Sl Q (D.nn+1) c3) Yf w C)
 case first =>
  as_aux_lemma =>
  go_wp2;go_loopw [1,13,14,17] (λs1 _ _ F wr=>∃(d t:Nat) (Q:To) (c3:Nat),d<=D.nn+1/\F=Ye d/\s1=Ye t/\t=D.q0+1+2*d/\C4 m ⟨D.lab D.N,D.lp,QF X f D d,[]⟩ [] (Sl y D.N z) (Sl q D.lp.length o) (Sl Q d c3) Yf w wr/\m0 wr B9 41 [Ye D.N,Sl q D.lp.length o]/\m0 wr cE 37 [Ye n0,Sl L l1 k1,Sl O l2 k2,Sl U l3 k3,Ye D.bot,Ye D.top]) (λ_ _ _ F _=>D.nn+1 - (intOf F).toNat)
  case atStart=>exact⟨0,p1,Nn,0,nZ _,rfl,rfl,ee.symm,ay,b7,aI⟩
  case round =>
   clear ay b7 aI;obtain⟨d,t,ao,c1,hk,rfl,rfl,hq,g,A,ad⟩:=hrel;by_cases fE:d<=D.nn
   . have fl:(d:Int)<=(D.nn:Int):=fP
     obtain⟨W,aP⟩:=Nq (t+1);obtain⟨q2,fn⟩:=Nq (W+1);have e1:(t:Int)+1=(W:Int):=fP;have e2:(W:Int)+1=(q2:Int):=fP;obtain⟨T,hT⟩:=Nq (N0 X f t D.N);obtain⟨Y,hY⟩:=Nq (N0 X f W 3);have B:Hi (yO X f D d=if 0<Y/\d=1 then D.top else if 0<Y/\d=0/\0<D.nn then D.bot else (T:Int)):=h_ (by unfold yO;rw[show D.q0+2+2*d=W by omega,show D.q0+1+2*d=t by omega,hY,hT]);have fz:Y<3:=(by rw[<- hY];exact m8 aN fP fP fP);obtain⟨HT,HY,HQ⟩:=oC hT hY hq;have e3:Hi (q2=D.q0+1+2*(d+1)):=h_ fP;have dJ:t<=2000:=fP;have fM:W<=2001:=fP;have eQ:=A.cell 0;simp only[Ym]at eQ;obtain⟨V,a1,aI⟩:=oC g A ad;clear hT hY hq aP fn g A ad;go_wp2_with fail;refine cQ (L5 (p:=t) (n:=D.N) aN fP fP fP c (a0 wr V.bl) rfl rfl) λw' aD=>?_;subst aD;rw[HT.u];go_wp2_with fail;refine cQ (L5 (p:=W) (n:=3) aN fP fP fP c (a0 w' V.bl) rfl rfl) λfs aD=>?_;subst aD;rw[HY.u];clear HT HY eQ;go_upto_region 19 with fail
     go_cut [99] from 71 to 118 (λah C=>ah=Bo (decide (0<Y/\d=0/\0<D.nn))/\C=fs)
     case first =>
      as_aux_lemma =>
      by_cases h1:0<Y
      . have bI:(0:Int)<Y:=fP
        by_cases h2:d=0
        . have dj:((d:Int)==0)=true:=by rw[h2];rfl
          have Hk:=h_ h2;clear h2;by_cases h3:0<D.nn
          . have ej:(0:Int)<D.nn:=fP
            go_wp2;go_meet;exact⟨congrArg Value.bool (Yo (show 0<Y/\d=0/\0<D.nn from ⟨h1,Hk,h3⟩)).symm,rfl⟩
          . have ej:¬ (0:Int)<D.nn:=fP
            go_wp2;go_meet;exact⟨congrArg Value.bool (Yl (show ¬ (0<Y/\d=0/\0<D.nn) from λh=>h3 h.2.2)).symm,rfl⟩
        . have dj:((d:Int)==0)=false:=Yk.2 fP
          go_wp2;go_meet;exact⟨congrArg Value.bool (Yl (show ¬ (0<Y/\d=0/\0<D.nn) from λh=>h2 h.2.1)).symm,rfl⟩
      . have bI:¬ (0:Int)<Y:=fP
        go_wp2;go_meet;exact⟨congrArg Value.bool (Yl (show ¬ (0<Y/\d=0/\0<D.nn) from λh=>h1 h.1)).symm,rfl⟩
     case rest =>
     as_aux_lemma =>
     obtain⟨rfl,rfl⟩:=hcut;have l4:=aI.cell 4;have l5:=aI.cell 5;simp only[Ym,Yv]at l4 l5;go_upto_if 99 with fail
     go_cut [13] from 71 to 118 (λah C=>ah=Ye (if 0<Y/\d=0/\0<D.nn then D.bot else (T:Int))/\C=wc)
     case first =>
      as_aux_lemma =>
      by_cases h:0<Y/\d=0/\0<D.nn
      . have Hh:=h_ h
        exact kC
      . have Hh:=h_ h
        exact kD
     case rest =>
     as_aux_lemma =>
     obtain⟨rfl,rfl⟩:=hcut;obtain⟨X1,eu⟩:∃X1,(if 0<Y/\d=0/\0<D.nn then D.bot else (T:Int))=X1:=⟨_,rfl⟩;rw[eu]at B|-;clear eu;go_upto_region 21 with fail
     go_cut [107] from 71 to 118 (λah C=>ah=Bo (decide (0<Y/\d=1))/\C=wc)
     case first =>
      as_aux_lemma =>
      by_cases h1:0<Y
      . have bI:(0:Int)<Y:=fP
        by_cases h2:d=1
        . have dj:((d:Int)==1)=true:=by rw[h2];rfl
          have Hk:=h_ h2;clear h2;go_wp2;go_meet;exact⟨congrArg Value.bool (Yo (show 0<Y/\d=1 from ⟨h1,Hk⟩)).symm,rfl⟩
        . have dj:((d:Int)==1)=false:=Yk.2 fP
          go_wp2;go_meet;exact⟨congrArg Value.bool (Yl (show ¬ (0<Y/\d=1) from λh=>h2 h.2)).symm,rfl⟩
      . have bI:¬ (0:Int)<Y:=fP
        go_wp2;go_meet;exact⟨congrArg Value.bool (Yl (show ¬ (0<Y/\d=1) from λh=>h1 h.1)).symm,rfl⟩
     case rest =>
     as_aux_lemma =>
     obtain⟨rfl,rfl⟩:=hcut;go_upto_if 107 with fail
     go_cut [13] from 71 to 118 (λah C=>ah=Ye (yO X f D d)/\C=wc)
     case first =>
      as_aux_lemma =>
      by_cases h:0<Y/\d=1
      . have Hh:=h_ h
        rw[Yo h];clear h;go_wp2;go_meet;exact⟨by rw[B.u,Yz Hh.u],rfl⟩
      . have Hh:=h_ h
        rw[Yl h];clear h;go_wp2;go_meet;exact⟨by rw[B.u,Ys Hh.u],rfl⟩
     case rest =>
     as_aux_lemma =>
     obtain⟨rfl,rfl⟩:=hcut;clear l4 l5 B;obtain⟨B,hy⟩:=Nq (yO X f D d);have cU:Hi (QF X f D (d+1)=QF X f D d++[⟨D.rnm d,B⟩]):=h_ (by rw[<- hy];exact uR _ _);have bK:(QF X f D d).length=d:=oJ _ _;rw[hy];clear hy;have bu:=h_ λaz=>af.cR d fP az;obtain⟨i0,dx,dy,dz,dA⟩:=info_parts NW;have au:C4 m ⟨D.lab D.N,D.lp,QF X f D d,[]⟩ [] (Sl y D.N z) (Sl q D.lp.length o) (Sl ao d c1) Yf w wc.drew:=V.mono (bR _ _).drew;have aO:m0 wc.drew B9 41 [Ye D.N,Sl q D.lp.length o]:=a1.u;have cq:m0 wc.drew cE 37 [Ye n0,Sl L l1 k1,Sl O l2 k2,Sl U l3 k3,Ye D.bot,Ye D.top]:=aI.u;go_upto_region 23 with fail
     obtain⟨E,hX⟩:=Nq wc.drew;refine wp_region_held_drew (S:=λ_=>True) fR trivial (λr=>?_);rw[hX]at au aO cq;obtain⟨-,-,x0,-⟩:=E0 au.bx;refine T5 (i:=0) (v:=Yh m 2) 110 rfl rfl fR fR fR (λ_ _ _ _ h=>h) fY (λw G=>by rfl) r fQ fQ ?_;refine T5 (i:=2) (v:=Ye d) 112 rfl rfl fR fR fR (λ_ _ _ _ h=>h) fY (λw G=>by rfl) r fQ fQ ?_;refine T5 (i:=4) (v:=Ye B) 114 rfl rfl fR fR fR (λ_ _ _ _ h=>h) fY (λw G=>by rfl) r fQ fQ ?_;rw[hX];refine wpAnyH_ready (rs:=[1,3]) fR fT (G8 (v:=Sl ao d c1) (w':=E) 111 rfl rfl fY (by simp[execOp,go_sem,x0]) trivial ?pA (zE (f:=79) (args:=#[Ye d]) (R:=λJ wz=>J=St (D.rnm d)/\Bw E wz) 113 rfl rfl fY gd ((bu E).mono λac w6 ⟨he,j⟩=>⟨_,he,rfl,j⟩) ?pB AllReadyH.nil))
     case' pA =>
      refine I1 fQ fQ ?_;refine m9 3 113 (bu E) λs j=>?_;have u:=(bR s.1.size s).alloc (nR _) (Cl #[St (D.rnm d),Ye B] 50);have aA:=m0.new s 50 #[St (D.rnm d),Ye B];obtain⟨Y,hY⟩:=Nq (s.alloc (Cl #[St (D.rnm d),Ye B] 50));rw[hY]at u aA;have M:=j.trans (u.mono j.size);refine⟨trivial,?_⟩;refine I1 fQ fQ ?_;refine T5 (i:=5) (v:=.agg #[St (D.rnm d),Ye B]) 115 rfl rfl fR fR fR (λ_ _ _ _ h=>h) fY (λw G=>by exact SU 50 #[(0,.tmp 113),(1,.tmp 114)] rfl _ fR) r fQ fQ ?_;refine EH (i:=6) (v:=Sl (Sm (Aq s.1.size 0)) 1 1) (w':=Y) 116 rfl rfl fY fR go trivial ?_;refine I1 fQ fQ ?_
     case' pB =>
      rintro J s ⟨rfl,j⟩;have u:=(bR s.1.size s).alloc (nR _) (Cl #[St (D.rnm d),Ye B] 50);have aA:=m0.new s 50 #[St (D.rnm d),Ye B];obtain⟨Y,hY⟩:=Nq (s.alloc (Cl #[St (D.rnm d),Ye B] 50));rw[hY]at u aA;have M:=j.trans (u.mono j.size);obtain⟨-,-,w0,-⟩:=E0 (au.mono j).bx;obtain⟨-,-,y0,-⟩:=E0 (au.mono M).bx;refine⟨trivial,?_⟩;refine I1 fQ fQ ?_;refine T5 (i:=5) (v:=.agg #[St (D.rnm d),Ye B]) 115 rfl rfl fR fR fR (λ_ _ _ _ h=>h) fY (λw G=>by exact SU 50 #[(0,.tmp 113),(1,.tmp 114)] rfl _ fR) r fQ fQ ?_;refine wpAnyH_ready (rs:=[1,6]) fR fT (G8 (v:=Sl ao d c1) (w':=s) 111 rfl rfl fY (by simp[execOp,go_sem,w0]) trivial ?pC (G8 (v:=Sl (Sm (Aq s.1.size 0)) 1 1) (w':=Y) 116 rfl rfl fY go trivial ?pD AllReadyH.nil))
     case' pC =>
      refine I1 fQ fQ ?_;refine EH (i:=6) (v:=Sl (Sm (Aq s.1.size 0)) 1 1) (w':=Y) 116 rfl rfl fY fR go trivial ?_;refine I1 fQ fQ ?_
     case' pD =>
      refine I1 fQ fQ ?_;refine EH (i:=1) (v:=Sl ao d c1) (w':=Y) 111 rfl rfl fY fR (by simp[execOp,go_sem,y0]) trivial ?_;refine I1 fQ fQ ?_
     all_goals
      as_aux_lemma =>
      have I:=au.mono M;have bU:=aO.mono M aO.lt;have eJ:=cq.mono M cq.lt;have aQ:=I.bl.size;refine IP (i:=7) 117 rfl rfl rfl fR (.tmp 111) (.tmp 116) 25 rfl w.1.size 50 i0 _ 2 24 underlying25 dx dy dz dA rfl fP (Sl ao d c1) d (rV' (QF X f D d)) rfl (by have:=I.ow.r;unfold wJ at this;rw[bK]at this;exact this) (Aq s.1.size 0) 1 1 [St (D.rnm d),Ye B] rfl rfl (λH J hj=>by rw[show((Aq s.1.size 0):Addr).add H=(Aq s.1.size H) by simp[Addr.add];try exact λh=>h.symm];exact(aA.cell H).trans hj) fZ fP ga fP aQ _ rfl ?_;intro Z aL W9 ho aq fo fm;have bM:Below w.1.size Y W9:=(bR w.1.size Y).grown aq aQ (λZ ac=>M3 I.ow.r ac);have aV:=I.bx.grow I.ow.r fS aq;have ap:=h_ (I.addR (x:=⟨D.rnm d,B⟩) (v':=Sl (Sm (Aq Z 0)) (d+1) aL) (by show W9.ownsRow _ _ _ _ (QF X f D d++[(⟨D.rnm d,B⟩:Rl)]).length (rV' (QF X f D d++[(⟨D.rnm d,B⟩:Rl)]));rw[Yn,bK];unfold rV';rw[Vb];exact ho) aq bM);have cX:=h_ ((bU.grow I.ow.r fS aq).other (a:=Aq m 2) (Sl (Sm (Aq Z 0)) (d+1) aL) dk);have eZ:=h_ ((eJ.grow I.ow.r fS aq).other (a:=Aq m 2) (Sl (Sm (Aq Z 0)) (d+1) aL) fh);refine⟨trivial,?_⟩;refine I1 fQ fQ ?_;refine T5 (i:=8) (v:=Yh m 2) 118 rfl rfl fR fR fR (λ_ _ _ _ h=>h) fY (λw G=>by rfl) r fQ fQ ?_;have v0:=aV.cell 2;have vf:=aV.free 2;simp only[Ym,Yv]at v0;refine q9 (i:=9) (w':=W9.setCell (Aq m 2) (Sl (Sm (Aq Z 0)) (d+1) aL)) rfl fY fR rfl (by simp[execOp,go_sem,v0,vf]) rfl trivial ?_;refine T2 ?_;dsimp only at ap;rw[<- cU.u]at ap;clear r ho aq bM aV v0 vf au I aO bU cq eJ u aA hY x0 j M;refine rQ ?_;exact⟨d+1,q2,_,_,fP,fU,rfl,e3,ap,cX,eZ⟩
   . have fl:¬ (d:Int)<=(D.nn:Int):=fP
     have M:d=D.nn+1:=fP;subst M;have aK:=h_ g;have B:Hi (t=D.p2):=h_ (by rw[hq];unfold SD.p2;omega);clear g A ad hq;go_wp2;go_meet;exact⟨by rw[B.u],_,_,aK⟩
 case rest =>
 as_aux_lemma =>
 obtain⟨rfl,Q,c3,g⟩:=hcut;clear ay b7 aI ee ff;have u:=((bR wc.1.size wc).alloc (nR _) (Cl #[] 3)).alloc fT (Cl Jz 153);have a7:=World.ownsRow.alloc (OD wc 3) (Cl Jz 153);have A:=m0.new (wc.alloc (Cl #[] 3)) 153 Jz;rw[Y4]at A;obtain⟨W5,a2⟩:=Nq ((wc.alloc (Cl #[] 3)).alloc (Cl Jz 153));rw[a2]at u a7 A;have el:=g.bl.size;have bv:=h_ g;obtain⟨aR,b9,b5⟩:=oC u a7 A;obtain⟨B,hB⟩:=Nq wc.1.size;rw[hB]at aR b9 b5 el;obtain⟨Wb,M⟩:=Nq wc;have bC:Hi (Wb.1.size=B):=h_ (by rw[<- M];exact hB);rw[M]at aR bv;obtain⟨bA,aY,e7⟩:=oC a2 hB M;clear g u a7 A a2 hB M
 go_upto_block 4 with (refine TG rfl 153 #[] rfl Jz fR ?_)
 rw[bA.u,aY.u];clear bA e7 aY;go_cut [1,18] from 31 (λs1 M C=>s1=Ye ((D.p2+e:Nat):Int)/\∃aE al u1 u2 u3,M=Sl aE e al/\IB C B (Sl aE e al) (mA X f D e)/\m0 C (B+1) 153 [u1,u2,u3]/\R6 (L8 (O6 X f D) D.fnm e) C B u1 u2 u3/\Below B Wb C)
 case first =>
  as_aux_lemma =>
  go_wp2;go_loopw [1,13,18,20,21] (λs1 _ M F _ wr=>∃(d t:Nat) (aE:To) (al:Nat) (u1 u2 u3:Value),d<=e/\F=Ye d/\s1=Ye t/\t=D.p2+d/\M=Sl aE d al/\IB wr B (Sl aE d al) (mA X f D d)/\m0 wr (B+1) 153 [u1,u2,u3]/\R6 (L8 (O6 X f D) D.fnm d) wr B u1 u2 u3/\Below B Wb wr) (λ_ _ _ F _ _=>e - (intOf F).toNat)
  case atStart=>exact⟨0,D.p2,_,0,_,_,_,nZ _,rfl,rfl,rfl,rfl,b9,b5,R6.nil (λ_=>rfl),aR⟩
  case round =>
   clear b9 b5 aR;obtain⟨d,t,aE,al,u1,u2,u3,hk,rfl,rfl,hq,rfl,a6,aM,M,a3⟩:=hrel;by_cases ad:d<e
   . have aw:(d:Int)<(e:Int):=fP
     obtain⟨W,aP⟩:=Nq (t+1);have e1:(t:Int)+1=(W:Int):=fP;obtain⟨T,hT⟩:=Nq (N0 X f t 6);have cY:Hi (O6 X f D d=tJ T):=h_ (by unfold O6;rw[<- hq,hT]);have aS:Hi (W=D.p2+(d+1)):=h_ fP;have fI:D.p2<=2000:=(by unfold SD.p2;omega);have dJ:t<=3000:=fP;have fi:T<6:=(by rw[<- hT];exact m8 aN fP fP fP);obtain⟨HT,b8,br,b6,aZ⟩:=oG hT a6 aM M a3;clear hT hq aP a6 aM M a3;go_wp2_with fail;refine cQ (L5 (p:=t) (n:=6) aN fP fP fP c (a0 wr (bv.bl.trans (aZ.mono fP))) rfl rfl) λw' aD=>?_;subst aD;rw[HT.u];clear HT;go_upto_region 31 with fail
     go_cut [137] from 121 to 148 (λah C=>ah=Bo (decide (T=3\/T=4))/\C=w')
     case first =>
      as_aux_lemma =>
      by_cases h3:T=3
      . subst h3
        rw[show((3:Nat):Int)=3 from rfl];go_wp2;go_meet;exact⟨rfl,rfl⟩
      . have ej:((T:Int)==3)=false:=Yk.2 fP
        by_cases h4:T=4
        . subst h4
          rw[show((4:Nat):Int)=4 from rfl];go_wp2;go_meet;exact⟨rfl,rfl⟩
        . have fv:((T:Int)==4)=false:=Yk.2 fP
          go_wp2;go_meet;exact⟨congrArg Value.bool (Yl (show ¬ (T=3\/T=4) by omega)).symm,rfl⟩
     case rest =>
     as_aux_lemma =>
     obtain⟨rfl,rfl⟩:=hcut;go_upto_if 137 with fail
     go_cut [21] from 121 to 148 (λah C=>ah=Ye (if T=3\/T=4 then 2 else 1)/\C=wc)
     case first =>
      as_aux_lemma =>
      by_cases h:T=3\/T=4
      . have Hh:=h_ h
        exact kC
      . have Hh:=h_ h
        exact kD
     case rest =>
     as_aux_lemma =>
     obtain⟨rfl,rfl⟩:=hcut;go_upto_if 139 with fail
     go_cut [21] from 121 to 148 (λah C=>ah=Ye (O6 X f D d)/\C=wc)
     case first =>
      as_aux_lemma =>
      by_cases h:T=5
      . subst h
        rw[show((5:Nat):Int)=5 from rfl];go_wp2;go_meet;exact⟨by rw[cY.u];rfl,rfl⟩
      . have h':((T:Int)==5)=false:=Yk.2 fP
        have eg:Hi (tJ T=if T=3\/T=4 then 2 else 1):=h_ (by unfold tJ;rw[Ys h]);obtain⟨cC,hz⟩:∃cC:Int,(if T=3\/T=4 then 2 else 1)=cC:=⟨_,rfl⟩;rw[hz]at eg|-;clear hz;go_wp2;go_meet;exact⟨by rw[cY.u,eg.u],rfl⟩
     case rest =>
     as_aux_lemma =>
     obtain⟨rfl,rfl⟩:=hcut;obtain⟨aa,ht⟩:=Nq (O6 X f D d);have ef:Hi (aa=1\/aa=2\/aa=3):=h_ (by rw[<- ht];exact VO _);have e5:Hi (mA X f D (d+1)=mA X f D d++[aa]):=h_ (by rw[<- ht];exact uR _ _);have ec:Hi (L8 (O6 X f D) D.fnm (d+1)=DH (L8 (O6 X f D) D.fnm d) aa (D.fnm d)):=h_ (by rw[<- ht];rfl);have aT:(mA X f D d).length=d:=oJ _ _;rw[ht];clear ht cY fi;have u:=(bR wc.1.size wc).alloc (nR _) (Cl #[Ye aa] 3);have HN:Hi (m0 _ _ 3 [Ye aa]):=h_ (m0.new wc 3 #[Ye aa]);have ca:Hi (IB (wc.alloc (Cl #[Ye aa] 3)) B (Sl aE d al) (mA X f D d)):=h_ (BA b8 u);obtain⟨dS,d9,dU⟩:=oC (br.mono u br.lt) (b6.keep u) (aZ.trans (u.mono (show B<=wc.1.size by have:=aZ.size;have:=bC.u;omega)));have aQ:B<=(wc.alloc (Cl #[Ye aa] 3)).1.size:=(by have:=aZ.size;have:=bC.u;have:=u.size;omega);clear u;go_wp2_with (at_builtin;refine De (n:=aa) rfl _ _ rfl rfl ca rfl HN (by rw[aT];omega) aQ ?_);intro v' W4 aW bS aG;have ct:B<=W4.1.size:=Yu aQ aG.size;obtain⟨dT,ea,dV⟩:=oC (dS.grow ca fS bS) (d9.grow ca fS bS) (dU.trans aG);rw[<- e5.u]at aW;obtain⟨bY,bE,rfl,-,-⟩:=C9 aW;have cj:(mA X f D (d+1)).length=d+1:=oJ _ _;have eP:IB W4 B (Sl bY (d+1) bE) (mA X f D (d+1)):=by
      try rw[cj]at aW
      unfold IB;rw[cj];exact aW
     have eh:=h_ eP;clear eP
     try rw[cj]
     clear aW bS aG aQ dS d9 dU ca HN b8 br b6 aZ;have dY:=h_ λaz=>af.cN d fP az;have eo:∀F,(L8 (O6 X f D) D.fnm d F).length<=100000:=λF=>by have:=(SO (ty:=O6 X f D) (nm:=D.fnm) d F).1;omega
     have cO:=h_ eo;clear eo aT cj;go_upto_region 36 with fail
     have A:m0 W4.drew (B+1) 153 [u1,u2,u3]:=dT.u;have cr:=ea.keep (bR _ _).drew;have a7:IB W4.drew B (Sl bY (d+1) bE) (mA X f D (d+1)):=BA eh (bR _ _).drew;have du:=dV.drew;have dL:B<=W4.drew.1.size:=ct;clear dT ea eh dV;obtain⟨E,hX⟩:=Nq W4.drew;refine wp_region_held_drew (S:=λ_=>True) fR trivial (λr=>?_);rw[hX]at A cr a7 du dL;obtain⟨cy,cu,cb,cz,cw,cc,cA,cx,cd,rfl,rfl,rfl⟩:=cr.slices;obtain⟨b0,b1,b2⟩:=T0 A;refine T5 (i:=1) (v:=Ye aa) 145 rfl rfl fR fR fR (λ_ _ _ _ h=>h) fY (λw G=>by rfl) r fQ fQ ?_;refine T5 (i:=2) (v:=Ye d) 146 rfl rfl fR fR fR (λ_ _ _ _ h=>h) fY (λw G=>by rfl) r fQ fQ ?_;rw[hX];refine wpAnyH_ready (rs:=[0,3]) fR fT (G8 (v:=.agg (Jr cy cu cb cz cw cc cA cx cd)) (w':=E) 144 rfl rfl fY (by simp[execOp,go_sem,b0,b1,b2]) trivial ?rA (zE (f:=81) (args:=#[St ⟨#[97,98,99,100,101,102,103,104]⟩,Ye d]) (R:=λJ wz=>J=St (D.fnm d)/\Bw E wz) 147 rfl rfl fY gd ((dY E).mono λac w6 ⟨he,j⟩=>⟨_,he,rfl,j⟩) ?rB AllReadyH.nil))
     case' rA =>
      refine I1 fQ fQ ?_;refine m9 3 147 (dY E) λs j=>?_;refine⟨trivial,?_⟩;refine I1 fQ fQ ?_
     case' rB =>
      rintro J s ⟨rfl,j⟩;obtain⟨d0,d1,d2⟩:=T0 (A.mono j A.lt);refine⟨trivial,?_⟩;refine I1 fQ fQ ?_;refine EH (i:=0) (v:=.agg (Jr cy cu cb cz cw cc cA cx cd)) (w':=s) 144 rfl rfl fY fR (by simp[execOp,go_sem,d0,d1,d2]) trivial ?_;refine I1 fQ fQ ?_
     all_goals
      as_aux_lemma =>
      have bW:=cr.keep j;have ex:=A.mono j A.lt;have eN:IB s B (Sl bY (d+1) bE) (mA X f D (d+1)):=BA a7 j;have eL:B<=s.1.size:=Yu dL j.size;have ey:=du.trans (j.mono dL);refine L6 (args:=#[.agg (Jr cy cu cb cz cw cc cA cx cd),Ye aa,St (D.fnm d)]) (R:=λJ wz=>∃z1 z2 z3,J=.agg #[z1,z2,z3]/\R6 (DH (L8 (O6 X f D) D.fnm d) aa (D.fnm d)) wz B z1 z2 z3/\wD (Sl cy cu cb) (Sl cz cw cc) (Sl cA cx cd) s wz) 4 148 ((Xa aa ef (D.fnm d) cO bW eL).mono λac w6 ⟨z1,z2,z3,he,h1,h2⟩=>⟨_,he,z1,z2,z3,rfl,h1,h2⟩) ?_;rintro J W2 ⟨z1,z2,z3,rfl,dI,aB⟩;have bO:=aB.blk bW ex fS;have eO:IB W2 B (Sl bY (d+1) bE) (mA X f D (d+1)):=aB.own bW eN fS;have ez:=ey.trans (aB.below bW eL);obtain⟨g1,m1,bD,g2,m2,bF,g3,m3,bG,rfl,rfl,rfl⟩:=dI.slices;have e6:Hi (IB (W2.setRow (B+1) (Jr g1 m1 bD g2 m2 bF g3 m3 bG)) B (Sl bY (d+1) bE) (mA X f D (d+1))):=h_ (PA eO bO fS (λH hj=>setRow_other _ _ _ _ hj));have eV:=h_ (bO.row [Sl g1 m1 bD,Sl g2 m2 bF,Sl g3 m3 bG]);have eb:=h_ (dI.one bO fS (λH hj=>setRow_other W2 (B+1) H (Jr g1 m1 bD g2 m2 bF g3 m3 bG) hj));have eW:=h_ (below_setRow ez (show B<=B+1 by omega) (Jr g1 m1 bD g2 m2 bF g3 m3 bG));rw[<- ec.u]at eb;refine⟨trivial,?_⟩;refine I1 fQ fQ ?_;refine q9 (i:=5) (w':=W2.setRow (B+1) (Jr g1 m1 bD g2 m2 bF g3 m3 bG)) rfl fY fR rfl (QH 153 (.tmp 19) (.tmp 148) rfl (B+1) _ rfl rfl 153 _ bO fR rfl fZ) rfl trivial ?_;refine T2 ?_;clear r cr bW dI A ex bO a7 eN eO du ey ez aB j b0 b1 b2;go_wp2;go_roundw
      case rel=>exact⟨d+1,W,_,_,_,_,_,fP,fU,rfl,aS,rfl,e6,eV,eb,eW⟩
      case measure=>exact kB
   . have aw:¬ (d:Int)<(e:Int):=fP
     obtain rfl:d=e:=fP;subst hq;obtain⟨b8,br,b6,aZ⟩:=oD a6 aM M a3;clear a6 aM M a3;go_wp2;go_meet;exact⟨rfl,_,_,_,_,_,rfl,b8,br,b6,aZ⟩
 case rest =>
 as_aux_lemma =>
 obtain⟨rfl,aE,al,u1,u2,u3,rfl,a6,aM,M,a3⟩:=hcut;clear b9 b5 aR;have g:=bv.mono (show Below Wb.1.size Wb wc by rw[bC.u];exact a3);have u:=(bR wc.1.size wc).alloc (nR _) (Cl Jz 153);have aG:=m0.new wc 153 Jz;obtain⟨W6,aU⟩:=Nq (wc.alloc (Cl Jz 153));rw[aU]at u aG;have aJ:=h_ (g.mono u);have cs:W6.1.size=wc.1.size+1:=by rw[<- aU];simp
 have aT:(mA X f D e).length=e:=oJ _ _;have a8:Hi (OC (mA X f D e) (L8 (O6 X f D) D.fnm e) (L8 (O6 X f D) D.fnm 0) B wc.1.size (Sl aE e al) u1 u2 u3 Yf Yf Yf W6):=h_ ⟨BA a6 u,aM.mono u aM.lt,M.keep u,aG,R6.nil (λ_=>rfl),aM.lt,M.low.1,M.low.2.1,M.low.2.2⟩;have cP:Hi (∀t,(Value.slice y D.N z).ownBlock=Sm t->t<wc.1.size):=h_ λt ac=>TE g.ow.l ac;have dO:w.1.size<wc.1.size:=by have:=g.bx.lt;omega
 have es:m<wc.1.size:=g.bx.lt;have ek:B+1≠m:=by have:=bv.bx.lt;have:=bC.u;omega
 have ci:wc.1.size<=W6.1.size:=fP
 obtain⟨B4,ce⟩:=Nq wc.1.size;rw[ce]at a8 cP dO es ci;obtain⟨bB,b4⟩:=oB aU ce;clear a6 aM M a3 g u aG cs bv bC el aU ce
 go_upto_block 6 with (refine TG rfl 153 #[] rfl Jz fR ?_)
 rw[bB.u,b4.u];clear bB b4;go_cut [1] from 31 (λs1 C=>s1=Ye (D.pq e)/\∃M c4 P,C4 m (V8 X f D (D.FL 0)) P (Sl y D.N z) (Sl q D.lp.length o) (Sl Q (D.nn+1) c3) (Sl M e c4) w C)
 case first =>
  as_aux_lemma =>
  go_wp2;go_loopw [1,23,24] (λs1 F _ wr=>∃(d:Nat) (M:To) (c4:Nat) (P:List (Fl × FA)) (z1 z2 z3:Value),d<=e/\F=Ye d/\s1=Ye (D.pq d)/\C4 m ⟨D.lab D.N,D.lp,QF X f D (D.nn+1),(List.range d).map D.g⟩ P (Sl y D.N z) (Sl q D.lp.length o) (Sl Q (D.nn+1) c3) (Sl M d c4) w wr/\OC (mA X f D e) (L8 (O6 X f D) D.fnm e) (L8 (O6 X f D) D.fnm d) B B4 (Sl aE e al) u1 u2 u3 z1 z2 z3 wr/\B4<=wr.1.size) (λ_ F _ _=>e - (intOf F).toNat)
  case atStart=>exact⟨0,Nn,0,[],_,_,_,nZ _,rfl,(by rw[af.u.pq0];first|rfl|simp),aJ,a8,ci⟩
  case round =>
   clear aJ a8 ci;obtain⟨d,M,c4,P,z1,z2,z3,hk,rfl,rfl,g,he,fq⟩:=hrel;have av:P.length=d:=by have:=congrArg List.length g.ow.e;simpa using this.symm
   by_cases ad:d<e
   . have aw:(d:Int)<(e:Int):=fP
     obtain⟨bt,ot,fg,dt,zt⟩:=he.at (x:=aE) (c:=al) (by rw[aT]) (k:=d) fP;have ht:(mA X f D e).getD d 0=O6 X f D d:=(by unfold mA;rw[Yr,Zt,Ou ad];rfl);rw[ht]at zt;subst fg;obtain⟨aa,A⟩:=Nq (O6 X f D d);have ef:Hi (aa=1\/aa=2\/aa=3):=h_ (by rw[<- A];exact VO _);have ec:Hi (L8 (O6 X f D) D.fnm (d+1)=DH (L8 (O6 X f D) D.fnm d) aa (D.fnm d)):=h_ (by rw[<- A];rfl);have cO:Hi (∀F,(L8 (O6 X f D) D.fnm d F).length<=100000):=h_ λF=>by have:=(SO (ty:=O6 X f D) (nm:=D.fnm) d F).1;omega
     obtain⟨cG,d6⟩:=oB (af.cF d ad) (af.gnm d ad);have d7:Hi ((List.range (d+1)).map D.g=(List.range d).map D.g++[D.g d]):=h_ (uR _ _);have fJ:=af.hpq d fP;rw[A]at zt cG;clear ht A;obtain⟨bn,bi,be,bo,bj,bg,bp,bm,bh,rfl,rfl,rfl⟩:=he.bk.slices;obtain⟨dd,da,c7,de,db,c8,df,dc,c9,rfl,rfl,rfl⟩:=he.ak.slices;have an:=(bR wr.1.size wr).alloc (nR _) (Cl Jh 56);have dm:=m0.new wr 56 Jh;obtain⟨s,ck⟩:=Nq (wr.alloc (Cl Jh 56));rw[ck]at an dm;obtain⟨E,hX⟩:=Nq s.drew;have A:Bw wr E:=(by rw[<- hX];exact an.drew);have dp:m0 E wr.1.size 56 [Yg,Ye 0,Ye 0,Yf,Yf,Yf,Yf,Yg,Yf]:=(by rw[<- hX];exact dm);have ev:E.1.size=wr.1.size+1:=(by rw[<- hX,<- ck];show(wr.alloc _).1.size=_;simp);have dN:∀t,(Value.slice M d c4).ownBlock=Sm t->t<wr.1.size:=λt ac=>TE g.ow.f.row ac;obtain⟨ae,bJ⟩:=Nq wr.1.size;unfold Bw at A;rw[bJ]at A dp ev dN dt fq;obtain⟨V,HE,dR,cM,ei⟩:=oG g he A dp dN;have am:=g.mono (show Below wr.1.size wr E by rw[bJ];exact A);have ag:=he.mono (show Below wr.1.size wr E by rw[bJ];exact A);have bq:E.cell? (Aq bt (ot+d))=Sm (Ye aa):=(A.cell (p:=(Aq bt (ot+d))) dt).trans zt;obtain⟨b3,dW⟩:=oB bJ (cG E a c y q Q M z D.lp.length o c3 d c4 _ _ (a0 E am.bl) ag.bk.pick ag.ak.pick);clear g he an dm A dp dN bJ zt cG;go_upto_region 42 with fail
     rw[b3.u]
     try rw[ck]
     refine wp_region_held_drew (S:=λW'=>m0 W' m 28 [Sl y D.N z,Sl q D.lp.length o,Sl Q (D.nn+1) c3,Sl M d c4]/\m0 W' B4 153 [Sl bn bi be,Sl bo bj bg,Sl bp bm bh]/\m0 W' (B+1) 153 [Sl dd da c7,Sl de db c8,Sl df dc c9]/\W'.cell? (Aq bt (ot+d))=Sm (Ye aa)) fR (by rw[hX];exact⟨am.bx,ag.bb,ag.ab,bq⟩) (λr=>?_);rw[hX]at r|-;refine T5 (i:=0) (v:=Sl a X c) 156 rfl rfl fR fR fR (λ_ _ _ _ h=>h) fY (λw G=>by rfl) r fQ fQ ?_;refine T5 (i:=1) (v:=Ye (D.pq d)) 157 rfl rfl fR fR fR (λ_ _ _ _ h=>h) fY (λw G=>by rfl) r fQ fQ ?_;refine T5 (i:=2) (v:=.agg (Jo y D.N z q D.lp.length o Q (D.nn+1) c3 M d c4)) 158 rfl rfl fR fR fR (λ_ _ _ _ h=>h) fY (λw G=>by obtain⟨q0,W,q2,q3⟩:=E0 G.1;simp[execOp,go_sem,q0,W,q2,q3]) r fQ fQ ?_;refine T5 (i:=3) (v:=Ye d) 159 rfl rfl fR fR fR (λ_ _ _ _ h=>h) fY (λw G=>by rfl) r fQ fQ ?_;refine T5 (i:=4) (v:=Sl (Sm (Aq bt ot)) e al) 160 rfl rfl fR fR fR (λ_ _ _ _ h=>h) fY (λw G=>by rfl) r fQ fQ ?_;refine T5 (i:=5) (v:=Ye d) 161 rfl rfl fR fR fR (λ_ _ _ _ h=>h) fY (λw G=>by rfl) r fQ fQ ?_;refine T5 (i:=6) (v:=Yh bt (ot+d)) 162 rfl rfl fR fR fR (λ_ _ _ _ h=>h) fY (λw G=>by simp[execOp,go_sem,aw]) r fQ fQ ?_;refine T5 (i:=7) (v:=Ye aa) 163 rfl rfl fR fR fR (λ_ _ _ _ h=>h) fY (λw G=>by have q0:=G.2.2.2;simp[execOp,go_sem,q0]) r fQ fQ ?_;refine T5 (i:=8) (v:=.agg (Jr bn bi be bo bj bg bp bm bh)) 164 rfl rfl fR fR fR (λ_ _ _ _ h=>h) fY (λw G=>by obtain⟨q0,W,q2⟩:=T0 G.2.1;simp[execOp,go_sem,q0,W,q2]) r fQ fQ ?_;refine T5 (i:=9) (v:=.agg (Jr dd da c7 de db c8 df dc c9)) 165 rfl rfl fR fR fR (λ_ _ _ _ h=>h) fY (λw G=>by obtain⟨q0,W,q2⟩:=T0 G.2.2.1;simp[execOp,go_sem,q0,W,q2]) r fQ fQ ?_;refine L6 (args:=#[Sl a X c,Ye (D.pq d),.agg (Jo y D.N z q D.lp.length o Q (D.nn+1:Nat) c3 M d c4),Ye d,Ye aa,.agg (Jr bn bi be bo bj bg bp bm bh),.agg (Jr dd da c7 de db c8 df dc c9)]) (R:=λJ wz=>∃A,J=.tuple #[fV (D.g d) A,Ye (D.pq (d+1))]/\S6 wz E.1.size (D.g d) A/\Bw E wz) 10 166 (dW.mono λac w6 ⟨A,he,h1,h2⟩=>⟨_,he,A,rfl,h1,h2⟩) ?_;rintro J W2 ⟨A,rfl,eD,a9⟩;have I:=am.mono a9;have dv:=ag.mono a9;have ch:m0 W2 ae 56 [Yg,Ye 0,Ye 0,Yf,Yf,Yf,Yf,Yg,Yf]:=cM.mono a9 cM.lt;have dP:W2.cell? (Aq bt (ot+d))=Sm (Ye aa):=(a9.cell (p:=(Aq bt (ot+d))) (show bt<E.1.size by omega)).trans bq;have r:=And.intro I.bx (And.intro dv.bb (And.intro dv.ab dP));refine⟨r,?_⟩;refine I1 fQ fQ ?_;refine T5 (i:=11) (v:=.tuple #[fV (D.g d) A,Ye (D.pq (d+1))]) 155 rfl rfl fR fR fR (λ_ _ _ _ h=>h) fY (λw G=>by rfl) r fQ fQ ?_;refine T5 (i:=12) (v:=fV (D.g d) A) 167 rfl rfl fR fR fR (λ_ _ _ _ h=>h) fY (λw G=>by rfl) r fQ fQ ?_;refine T5 (i:=13) (v:=Ye (D.pq (d+1))) 168 rfl rfl fR fR fR (λ_ _ _ _ h=>h) fY (λw G=>by rfl) r fQ fQ ?_;have ds:Below ae wr (W2.setRow ae (L1 (D.g d) A).toArray):=below_setRow (dR.trans (a9.mono fP)) (nR _) _;have ce:B4<ae:=(by have:=HE.bb.lt;have:=b3.u;omega);have fw:=HE.lo;have ai:=V.mono (show Below wr.1.size wr _ by rw[b3.u];exact ds);have a4:=HE.mono (show Below wr.1.size wr _ by rw[b3.u];exact ds);have ba:m0 (W2.setRow ae (L1 (D.g d) A).toArray) ae 56 (L1 (D.g d) A):=ch.row _;have cn:S6 (W2.setRow ae (L1 (D.g d) A).toArray) w.1.size (D.g d) A:=(eD.one ch fS fS (λH hj=>setRow_other _ _ _ _ hj)).low fP;have dQ:(W2.setRow ae (L1 (D.g d) A).toArray).cell? (Aq bt (ot+d))=Sm (Ye aa):=(Ev _ (show bt≠ae by omega)).trans dP;refine q9 (i:=14) (w':=W2.setRow ae (L1 (D.g d) A).toArray) rfl fY fR rfl (QH 56 (.tmp 24) (.tmp 167) rfl ae (L1 (D.g d) A).toArray rfl rfl 56 _ ch fR rfl gA) rfl ⟨ai.bx,a4.bb,a4.ab,dQ⟩ ?_;have r:=And.intro ai.bx (And.intro a4.bb (And.intro a4.ab dQ));refine vZ fQ ?_;refine T5 (i:=15) (v:=Ye (D.pq (d+1))) 1 rfl rfl fR fR fR (λ_ _ _ _ h=>h) fY (λw G=>by rfl) r fQ fQ ?_;refine T2 ?_;obtain⟨W3,et⟩:=Nq (W2.setRow ae (L1 (D.g d) A).toArray);rw[et]at ai a4 ba cn|-;clear r et ds dQ dP bq ch I dv a9 eD am ag cM dR V HE dW ck hX ev dt;obtain⟨Z,hg⟩:=Nq (D.g d);rw[hg]at ba cn d6 d7;have an:=(bR W3.1.size W3).alloc (nR _) (Cl (Ja Z A.b A.bc A.i A.ic A.h A.hc A.v A.vc A.u A.uc) 56);have eq:m0 _ _ 56 (Jm Z A.b A.bc A.i A.ic A.h A.hc A.v A.vc A.u A.uc):=m0.new W3 56 (Ja Z A.b A.bc A.i A.ic A.h A.hc A.v A.vc A.u A.uc);have dG:=ai.mono an;have eB:=a4.mono an;have eC:=ba.mono an ba.lt;have eE:=cn.mono an;obtain⟨y0,L,O,U⟩:=E0 ai.bx;have bz:=h_ ba.rng;have ay:=h_ dG;have dZ:=h_ eB;have cK:=h_ eC;have d5:=h_ eE;have ed:=h_ eq;have ct:w.1.size<=(W3.alloc (Cl (Ja Z A.b A.bc A.i A.ic A.h A.hc A.v A.vc A.u A.uc) 56)).1.size:=dG.bl.size;have HG:=h_ hg;unfold fV;rw[hg];clear ai a4 ba cn an dG eB eC eE eq hg;go_wp2_with (first|(at_builtin;refine WN (n:=(Z,A)) rfl _ _ rfl rfl ay.ow.f.row rfl ed fP ct ?_)|refine wpList_load_mid rfl 56 (.tmp 24) rfl ae 0 rfl (L1 Z A) _ bz underlying56 rfl fR ?_|refine zW rfl (.tmp 171) rfl rfl ?_);intro v' W5 aX bT ew;have eI:(P++[(Z,A)]).length=d+1:=(by rw[Yn,av];rfl);have dH:W5.ownsRow w.1.size 56 9 v' (d+1) (P6 (P++[(Z,A)])):=(by first|exact aX|(rw[eI]at aX;exact aX));obtain⟨y4,d4,rfl,-,-⟩:=C9 dH;have bL:=ay.addF (x:=(Z,A)) (by rw[eI];exact dH) bT d5 ew;have co:=ay.bx.grow ay.ow.f.row fS bT;have em:=dZ.grow ay.ow.f.row bT;have en:m0 W5 ae 56 (L1 Z A):=(bT.block _ cK.lt (λac=>Fq (ei _ ac.symm))).trans cK;have cf:=em.one co (λH hj=>heap_setCell_other W5 (Aq m 3) H (Sl y4 (d+1) d4) hj) ek (show B4≠m by omega);have dn:m0 (W5.setCell (Aq m 3) (Sl y4 (d+1) d4)) ae 56 (L1 Z A):=en.other _ (show ae≠m by omega);have cs:B4<=(W5.setCell (Aq m 3) (Sl y4 (d+1) d4)).1.size:=Oh cf.bb.lt;dsimp only at bL;rw[<- d7.u]at bL;obtain⟨W6,aU⟩:=Nq (W5.setCell (Aq m 3) (Sl y4 (d+1) d4));rw[aU]at bL cf dn cs;have v3:=co.cell 3;have vf:=co.free 3;simp only[Ym,Yv]at v3;have aJ:=h_ bL;have a8:=h_ cf;have eY:=h_ dn;have bB:=h_ aU;clear aX dH bT ew bL co em cf en dn aU ay dZ cK d5 ed ct y0 L O U bz ei;go_upto_region 44 with fail
     rw[bB.u];clear bB v3 vf;obtain⟨E,hX⟩:=Nq W6.drew;have am:=aJ.mono (bR _ _).drew;have ag:=a8.mono (bR _ _).drew;have cm:m0 W6.drew ae 56 (L1 Z A):=eY.u;have dK:B4<=W6.drew.1.size:=cs;rw[hX]at am ag cm dK;have dq:d<(mA X f D e).length:=fP;have dM:(mA X f D e).getD d 0=O6 X f D d:=(by unfold mA;rw[Yr,Zt,Ou ad];rfl);obtain⟨b',o',e',-,bq⟩:=ag.at (x:=Sm (Aq bt ot)) (c:=al) (by rw[aT]) dq;cases e';have di:=cm.cell 0;rw[show(L1 Z A)[0]? = Sm (St Z.nm) from rfl]at di;refine wp_region_held_drew (S:=λW'=>W'.cell? (Aq bt (ot+d))=Sm (Ye ((mA X f D e).getD d 0))/\W'.cell? (Aq ae 0)=Sm (St Z.nm)) fR (by rw[hX];exact⟨bq,di⟩) (λr=>?_);rw[hX]at r|-;refine T5 (i:=1) (v:=Sl (Sm (Aq bt ot)) e al) 176 rfl rfl fR fR fR (λ_ _ _ _ h=>h) fY (λw G=>by rfl) r fQ fQ ?_;refine T5 (i:=2) (v:=Ye d) 177 rfl rfl fR fR fR (λ_ _ _ _ h=>h) fY (λw G=>by rfl) r fQ fQ ?_;refine T5 (i:=3) (v:=Yh bt (ot+d)) 178 rfl rfl fR fR fR (λ_ _ _ _ h=>h) fY (λw G=>by simp[execOp,go_sem,aw]) r fQ fQ ?_;refine T5 (i:=4) (v:=Ye ((mA X f D e).getD d 0)) 179 rfl rfl fR fR fR (λ_ _ _ _ h=>h) fY (λw G=>by have q0:=G.1;simp[execOp,go_sem,q0]) r fQ fQ ?_;refine T5 (i:=5) (v:=Yh ae 0) 180 rfl rfl fR fR fR (λ_ _ _ _ h=>h) fY (λw G=>by rfl) r fQ fQ ?_;refine T5 (i:=6) (v:=St Z.nm) 181 rfl rfl fR fR fR (λ_ _ _ _ h=>h) fY (λw G=>by have q0:=G.2;simp[execOp,go_sem,q0]) r fQ fQ ?_;obtain⟨b0,b1,b2⟩:=T0 ag.bb;refine EH (i:=0) (v:=.agg (Jr bn bi be bo bj bg bp bm bh)) (w':=E) 175 rfl rfl fY fR (by simp[execOp,go_sem,b0,b1,b2]) r ?_;refine I1 fQ fQ ?_;refine L6 (args:=#[.agg (Jr bn bi be bo bj bg bp bm bh),Ye ((mA X f D e).getD d 0),St Z.nm]) (R:=λJ wz=>∃L O U,J=.agg #[L,O,U]/\R6 (L8 (O6 X f D) D.fnm (d+1)) wz B4 L O U/\wD (Sl bn bi be) (Sl bo bj bg) (Sl bp bm bh) E wz) 7 182 ((Xa (K:=L8 (O6 X f D) D.fnm d) ((mA X f D e).getD d 0) (by rw[dM];exact VO _) Z.nm cO ag.bk dK).mono λac w6 ⟨L,O,U,he,h1,h2⟩=>⟨_,he,L,O,U,rfl,by rw[dM,d6.u]at h1;exact h1,h2⟩) ?_;rintro J W7 ⟨L,O,U,rfl,dD,aB⟩;obtain⟨g1,m1,d1,g2,m2,d2,g3,m3,d3,rfl,rfl,rfl⟩:=dD.slices;have dw:=aB.blk ag.bk cm fS;obtain⟨b',o',e',-,eT⟩:=Km (aB.own ag.bk ag.ty fS) aT.symm d dq;cases e';have cg:=ag.kpt aB dD;have ep:=am.four aB ag.bk dK dO cP ag.bb (Jr g1 m1 d1 g2 m2 d2 g3 m3 d3) (show B4≠m by omega);have dg:=dw.cell 0;have dh:=(dw.row_other (show ae≠B4 by omega) (Jr g1 m1 d1 g2 m2 d2 g3 m3 d3)).cell 0;rw[show(L1 Z A)[0]? = Sm (St Z.nm) from rfl]at dg dh;obtain⟨b',o',e',-,eU⟩:=cg.at (x:=Sm (Aq bt ot)) (c:=al) (by rw[aT]) dq;cases e';refine⟨⟨eT,dg⟩,?_⟩;refine I1 fQ fQ ?_;refine q9 (i:=8) (w':=W7.setRow B4 (Jr g1 m1 d1 g2 m2 d2 g3 m3 d3)) rfl fY fR rfl (QH 153 (.tmp 22) (.tmp 182) rfl B4 _ rfl rfl 153 _ (aB.blk ag.bk ag.bb fS) fR rfl fZ) rfl ⟨eU,dh⟩ ?_;refine T2 ?_;have fp:B4<=(W7.setRow B4 (Jr g1 m1 d1 g2 m2 d2 g3 m3 d3)).1.size:=Oh cg.bb.lt;have ap:=h_ ep;have eX:=h_ cg;clear r ep cg am ag cm dw aB dD eT eU dg dh bq di b0 b1 b2 dM;go_wp2;go_roundw
     case rel=>exact⟨d+1,y4,d4,P++[(Z,A)],_,_,_,fP,fU,rfl,ap,eX,fp⟩
     case measure=>exact kB
   . have aw:¬ (d:Int)<(e:Int):=fP
     obtain rfl:d=e:=fP;have aK:Hi (C4 m (V8 X f D (D.FL 0)) P (Sl y D.N z) (Sl q D.lp.length o) (Sl Q (D.nn+1) c3) (Sl M d c4) w wr):=h_ (by rw[af.u.FL0];exact g);clear g he;go_wp2;go_meet;exact⟨rfl,_,_,_,aK⟩
 case rest =>
 as_aux_lemma =>
 obtain⟨rfl,M,c4,P,g⟩:=hcut;clear aJ a8 cP dO es ek ci aT;have aJ:=h_ g;clear g
 go_upto_block 8 with fail
 go_cut [] from 31 (λC=>∃M c4 P,C4 m (V8 X f D (D.FL e)) P (Sl y D.N z) (Sl q D.lp.length o) (Sl Q (D.nn+1) c3) (Sl M e c4) w C)
 case first =>
  as_aux_lemma =>
  go_wp2;go_loopw [25,26] (λF _ wr=>∃(d:Nat) (M:To) (c4:Nat) (P:List (Fl × FA)),d<=e/\F=Ye d/\C4 m (V8 X f D (D.FL d)) P (Sl y D.N z) (Sl q D.lp.length o) (Sl Q (D.nn+1) c3) (Sl M e c4) w wr) (λF _ _=>e - (intOf F).toNat)
  case atStart=>exact⟨0,_,_,_,nZ _,rfl,aJ⟩
  case round =>
   clear aJ;obtain⟨d,M,c4,P,hk,rfl,g⟩:=hrel;by_cases ad:d<e
   . have aw:(d:Int)<(e:Int):=fP
     have av:P.length=e:=(by have:=congrArg List.length g.ow.e;rw[Zc]at this;rw[<- this];exact af.FLl d);have aF:=h_ (af.FLs d);obtain⟨A,eA,bX,-⟩:=g.ow.sl;have Z:=h_ (af.cZ d ad wr A bX);rw[<- eA]at Z;obtain⟨y0,L,O,U⟩:=E0 g.bx;have V:=h_ g;clear g bX eA;go_wp2_with fail;refine cQ Z λs j=>?_;have a5:=V.mono j;clear y0 L O U Z V j;by_cases h0:0<=D.zz d
     . rw[Yz h0]at aF
       obtain⟨y0,L,O,U⟩:=E0 a5.bx;have aC:YB s w.1.size (Sl M P.length c4) P:=(by rw[av];exact a5.ow.f);have cJ:=h_ (E_ (D.zz d) (-1) s w.1.size a5.bl.size P fP y q Q M D.N z D.lp.length o (D.nn+1) c3 c4 aC);rw[av]at cJ;have cV:=h_ a5;clear a5 aC;go_wp2_with fail;refine cJ.mono ?_;rintro ac W2 ⟨x5,Z,rfl,bV,j⟩;have I:=cV.mono j;have ai:=I.rowF bV;have bP:(JA (D.zz d) (-1) P e).map (·.1)=D.FL (d+1):=by rw[aF.u,nW,show D.FL d=P.map (·.1) from cV.u.ow.e]
       try dsimp only at ai
       rw[bP]at ai;have ax:Hi (C4 m (V8 X f D (D.FL (d+1))) (JA (D.zz d) (-1) P e) (Sl y D.N z) (Sl q D.lp.length o) (Sl Q (D.nn+1) c3) (Sl x5 e Z) w (W2.setRow m (Jo y D.N z q D.lp.length o Q (D.nn+1) c3 x5 e Z))):=h_ ai;have e9:=h_ I.bx;clear I ai bP bV j cJ cV y0 L O U;go_wp2_with (refine wpList_store_row rfl 28 (.tmp 8) (.tmp 194) rfl m (Jo y D.N z q D.lp.length o Q (D.nn+1) c3 x5 e Z) rfl rfl 28 (Jo y D.N z q D.lp.length o Q (D.nn+1) c3 M e c4) e9 fR rfl fZ ?_);go_roundw
       case rel=>first|exact⟨d+1,_,_,_,fP,fU,ax⟩|((repeat apply Exists.intro);exact⟨⟨d+1,_,_,_,fP,fU,ax⟩,rfl⟩)
       case measure=>exact kB
     . rw[Ys h0]at aF
       have ax:Hi (C4 m (V8 X f D (D.FL (d+1))) P (Sl y D.N z) (Sl q D.lp.length o) (Sl Q (D.nn+1) c3) (Sl M e c4) w s):=h_ (by rw[aF.u];exact a5);clear a5;go_wp2;go_roundw
       case rel=>first|exact⟨d+1,_,_,_,fP,fU,ax⟩|((repeat apply Exists.intro);exact⟨⟨d+1,_,_,_,fP,fU,ax⟩,rfl⟩)
       case measure=>exact kB
   . have aw:¬ (d:Int)<(e:Int):=fP
     obtain rfl:d=e:=fP;have aK:=h_ g;clear g;go_wp2;go_meet;exact⟨_,_,_,aK⟩
 case rest =>
 as_aux_lemma =>
 clear aJ;obtain⟨ft,fd,P',g⟩:=hcut;obtain⟨A,eA,bX,-⟩:=g.ow.sl;have cH:=h_ (af.cI wc A bX);rw[<- eA]at cH;obtain⟨y0,L,O,U⟩:=E0 g.bx;have fK:=af.hpq e (nR _);have fG:=af.hls;have V:=h_ g;clear g bX eA;go_wp2_with fail;refine cH.mono ?_;rintro ac s ⟨fb,fc,rfl,bd,j⟩;have cW:Hi (C4 m (V8 X f D (D.FM 0)) P' (Sl y D.N z) (Sl q D.lp.length o) (Sl Q (D.nn+1) c3) (Sl ft e fd) w s):=h_ (by rw[af.u.FM0];exact V.mono j);have aH:=h_ bd;clear bd j V cH y0 L O U
 go_upto_block 10 with fail
 go_cut [1] from 31 (λs1 C=>s1=Ye ((D.pq e+D.ls.length:Nat):Int)/\∃M c4 P,C4 m (V8 X f D (D.FM D.ls.length)) P (Sl y D.N z) (Sl q D.lp.length o) (Sl Q (D.nn+1) c3) (Sl M e c4) w C)
 case first =>
  as_aux_lemma =>
  go_wp2;go_loopw [1,14,28] (λs1 _ F wr=>∃(d t:Nat) (M:To) (c4:Nat) (P:List (Fl × FA)),d<=D.ls.length/\F=Ye d/\s1=Ye t/\t=D.pq e+d/\C4 m (V8 X f D (D.FM d)) P (Sl y D.N z) (Sl q D.lp.length o) (Sl Q (D.nn+1) c3) (Sl M e c4) w wr/\AB wr fb D.ls) (λ_ _ F _=>D.ls.length - (intOf F).toNat)
  case atStart=>exact⟨0,D.pq e,_,_,_,nZ _,rfl,rfl,rfl,cW,aH⟩
  case round =>
   clear cW aH;obtain⟨d,t,M,c4,P,hk,rfl,rfl,hq,g,bd⟩:=hrel;by_cases ad:d<D.ls.length
   . have aw:(d:Int)<(D.ls.length:Int):=fP
     have av:P.length=e:=(by have:=congrArg List.length g.ow.e;rw[Zc]at this;rw[<- this];exact af.FMl d fP);have er:d<P.length:=fP;obtain⟨W,aP⟩:=Nq (t+1);have e1:(t:Int)+1=(W:Int):=fP;obtain⟨Y,hY⟩:=Nq (N0 X f t 4);have aS:Hi (W=D.pq e+(d+1)):=h_ fP;obtain⟨lb,dE⟩:=Nq (((D.FM d).getD d qA).lb);have aF:Hi (D.FM (d+1)=if Y=0/\lb<0 then sE d (D.ls.getD d 0) (D.FM d) e else D.FM d):=h_ (by rw[af.u.FMs d ad,<- hq,hY,dE]);have eH:(P[d]).1.lb=lb:=(by rw[<- dE,show D.FM d=P.map (·.1) from g.ow.e,<- oR,Yr,Yp er];rfl);have aC:YB wr w.1.size (Sl M P.length c4) P:=(by rw[av];exact g.ow.f);obtain⟨bf,of,e4,⟨-,-,-,zl,-⟩,-⟩:=qM aC d (by rw[Zc];exact er);rw[Oa,eH]at zl;subst e4;have dJ:t<=200000:=fP;obtain⟨HT,V,aH⟩:=oC hY g bd;clear hq aP hY dE eH g bd aC;go_wp2_with fail;refine cQ (L5 (p:=t) (n:=4) aN fP fP fP c (a0 wr V.bl) rfl rfl) λw' aD=>?_;subst aD;rw[HT.u];clear HT;obtain⟨y0,L,O,U⟩:=E0 V.bx;have fD:(d:Int)<(e:Int):=fP;go_upto_region 56 with fail
     go_cut [219] from 197 to 226 (λah C=>ah=Bo (decide (Y=0/\lb<0))/\C=w')
     case first =>
      as_aux_lemma =>
      by_cases h0:Y=0
      . have bH:((Y:Int)==0)=true:=by rw[h0];rfl
        have Hk:=h_ h0;clear h0;by_cases h1:lb<0
        . go_wp2
          go_meet;exact⟨congrArg Value.bool (Yo (show Y=0/\lb<0 from ⟨Hk,h1⟩)).symm,rfl⟩
        . go_wp2
          go_meet;exact⟨congrArg Value.bool (Yl (show ¬ (Y=0/\lb<0) from λh=>Fq h.2)).symm,rfl⟩
      . have bH:((Y:Int)==0)=false:=Yk.2 fP
        go_wp2;go_meet;exact⟨congrArg Value.bool (Yl (show ¬ (Y=0/\lb<0) from λh=>h0 h.1)).symm,rfl⟩
     case rest =>
     as_aux_lemma =>
     obtain⟨rfl,rfl⟩:=hcut;clear y0 L O U zl;by_cases h:Y=0/\lb<0
     . rw[Yz h]at aF
       rw[Yo h];clear h;obtain⟨bl,ol,fe,fj,zl⟩:=aH d ad;dsimp only at zl;subst fe;obtain⟨E,hX⟩:=Nq wc.drew;have am:=V.mono (bR _ _).drew;have dC:AB wc.drew _ D.ls:=aH.mono (bR _ _).drew;have bZ:wc.drew.cell? (Aq bl (ol+d))=Sm (Ye (D.ls.getD d 0)):=zl;rw[hX]at am dC bZ;have fk:bl<E.1.size:=(by rw[<- hX];exact fj);go_upto_region 57 with fail
       obtain⟨lk,dF⟩:=Nq (D.ls.getD d 0);rw[dF]at aF bZ;refine wp_region_held_drew (S:=λW'=>W'.cell? (Aq bl (ol+d))=Sm (Ye lk)) fR (by rw[hX];exact bZ) (λr=>?_);rw[hX]at r|-;refine T5 (i:=1) (v:=Ye d) 221 rfl rfl fR fR fR (λ_ _ _ _ h=>h) fY (λw G=>by rfl) r fQ fQ ?_;refine T5 (i:=2) (v:=Sl (Sm (Aq bl ol)) D.ls.length fc) 222 rfl rfl fR fR fR (λ_ _ _ _ h=>h) fY (λw G=>by rfl) r fQ fQ ?_;refine T5 (i:=3) (v:=Ye d) 223 rfl rfl fR fR fR (λ_ _ _ _ h=>h) fY (λw G=>by rfl) r fQ fQ ?_;refine T5 (i:=4) (v:=Yh bl (ol+d)) 224 rfl rfl fR fR fR (λ_ _ _ _ h=>h) fY (λw G=>by simp[execOp,go_sem,aw]) r fQ fQ ?_;refine T5 (i:=5) (v:=Ye lk) 225 rfl rfl fR fR fR (λ_ _ _ _ h=>h) fY (λw G=>by have q0:=G;simp[execOp,go_sem,q0]) r fQ fQ ?_;obtain⟨y0,L,O,U⟩:=E0 am.bx;refine EH (i:=0) (v:=.agg (Jo y D.N z q D.lp.length o Q (D.nn+1) c3 (Sm (Aq bf of)) e c4)) (w':=E) 220 rfl rfl fY fR (by simp[execOp,go_sem,y0,L,O,U]) r ?_;refine I1 fQ fQ ?_;have aC:YB E w.1.size (Sl (Sm (Aq bf of)) P.length c4) P:=(by rw[av];exact am.ow.f);have G:=E_ d lk E w.1.size am.bl.size P fP y q Q (Sm (Aq bf of)) D.N z D.lp.length o (D.nn+1) c3 c4 aC;rw[av]at G;refine L6 (args:=#[.agg (Jo y D.N z q D.lp.length o Q (D.nn+1:Nat) c3 (Sm (Aq bf of)) e c4),Ye d,Ye lk]) (R:=λJ wz=>∃x5 Z,J=.agg (Jo y D.N z q D.lp.length o Q (D.nn+1:Nat) c3 x5 e Z)/\YB wz w.1.size (Sl x5 e Z) (JA d lk P e)/\Bw E wz) 6 226 (G.mono λac w6 ⟨x5,Z,he,h1,h2⟩=>⟨_,he,x5,Z,rfl,h1,h2⟩) ?_;rintro J W2 ⟨x5,Z,rfl,bV,j⟩;have I:=am.mono j;have eF:=dC.mono j;have ai:=I.rowF bV;have dB:AB (W2.setRow m (Jo y D.N z q D.lp.length o Q (D.nn+1) c3 x5 e Z)) (Sm (Aq bl ol)) D.ls:=eF.other I.bx (qqw _ _ _ _ _ _ _ _ _ _ _ _) (λH hj=>setRow_other _ _ _ _ hj) (by simp[World.setRow]);have eR:W2.cell? (Aq bl (ol+d))=Sm (Ye lk):=(j.cell (p:=(Aq bl (ol+d))) fk).trans bZ;have eS:(W2.setRow m (Jo y D.N z q D.lp.length o Q (D.nn+1) c3 x5 e Z)).cell? (Aq bl (ol+d))=Sm (Ye lk):=by
        obtain⟨b',o',e',-,cC⟩:=dB d ad;cases e';rw[cC];dsimp only;rw[dF]
       have bP:(JA d lk P e).map (·.1)=D.FM (d+1):=by rw[aF.u,nW,show D.FM d=P.map (·.1) from V.u.ow.e]
       try dsimp only at ai
       rw[bP]at ai;have ax:Hi (C4 m (V8 X f D (D.FM (d+1))) (JA d lk P e) (Sl y D.N z) (Sl q D.lp.length o) (Sl Q (D.nn+1) c3) (Sl x5 e Z) w (W2.setRow m (Jo y D.N z q D.lp.length o Q (D.nn+1) c3 x5 e Z))):=h_ ai;have d8:=h_ dB;refine⟨eR,?_⟩;refine I1 fQ fQ ?_;refine q9 (i:=7) (w':=W2.setRow m (Jo y D.N z q D.lp.length o Q (D.nn+1) c3 x5 e Z)) rfl fY fR rfl (QH 28 (.tmp 8) (.tmp 226) rfl m _ rfl rfl 28 _ I.bx fR rfl fZ) rfl eS ?_;refine T2 ?_;clear r I ai eF dB eR eS bP bV j G aC am dC bZ y0 L O U zl dF V aH;go_wp2;go_roundw
       case rel=>first|exact⟨d+1,W,_,_,_,fP,fU,rfl,aS,ax,d8⟩|((repeat apply Exists.intro);exact⟨⟨d+1,W,_,_,_,fP,fU,rfl,aS,ax,d8⟩,rfl⟩)
       case measure=>simp[intOf];omega
     . rw[Ys h]at aF
       rw[Yl h];clear h;have ax:Hi (C4 m (V8 X f D (D.FM (d+1))) P (Sl y D.N z) (Sl q D.lp.length o) (Sl Q (D.nn+1) c3) (Sl (Sm (Aq bf of)) e c4) w wc):=h_ (by rw[aF.u];exact V);clear V;go_wp2;go_roundw
       case rel=>first|exact⟨d+1,W,_,_,_,fP,fU,rfl,aS,ax,aH⟩|((repeat apply Exists.intro);exact⟨⟨d+1,W,_,_,_,fP,fU,rfl,aS,ax,aH⟩,rfl⟩)
       case measure=>simp[intOf];omega
   . have aw:¬ (d:Int)<(D.ls.length:Int):=fP
     obtain rfl:d=D.ls.length:=fP;subst hq;have aK:=h_ g;clear g bd;go_wp2;go_meet;exact⟨rfl,_,_,_,aK⟩
 case rest =>
 as_aux_lemma =>
 clear cW aH;obtain⟨rfl,M,c4,P,g⟩:=hcut;have av:P.length=e:=by have:=congrArg List.length g.ow.e;rw[Zc]at this;rw[<- this];exact af.FMl _ (nR _)
 obtain⟨t,hq⟩:=Nq (D.pq e+D.ls.length);obtain⟨T,hT⟩:=Nq (N0 X f t 3);have d:Hi (vF X f D e=if T=0/\1<e then (D.FM D.ls.length).reverse else D.FM D.ls.length):=h_ (by unfold vF;rw[hq,hT]);have dJ:t<=200000:=fP
 have e1:(t:Int)+1=((t+1:Nat):Int):=fP
 obtain⟨W,aP⟩:=Nq (t+1);rw[aP]at e1;rw[hq];obtain⟨HT,V,aS⟩:=oC hT g aP;have HE:Hi (D.FM D.ls.length=P.map (·.1)):=h_ g.ow.e;have HQ:=h_ hq;clear hT g aP hq;go_wp2_with fail;refine cQ (L5 (p:=t) (n:=3) aN fP fP fP c (a0 wc V.bl) rfl rfl) λw' aD=>?_;subst aD;rw[HT.u];clear HT;go_upto_region 59 with fail
 go_cut [238] from 31 (λah C=>ah=Bo (decide (T=0/\1<e))/\C=w')
 case first =>
  as_aux_lemma =>
  by_cases h0:T=0
  . have bH:((T:Int)==0)=true:=by rw[h0];rfl
    have Hk:=h_ h0;clear h0;by_cases h1:1<e
    . have bI:(1:Int)<e:=fP
      go_wp2;go_meet;exact⟨congrArg Value.bool (Yo (show T=0/\1<e from ⟨Hk,h1⟩)).symm,rfl⟩
    . have bI:¬ (1:Int)<e:=fP
      go_wp2;go_meet;exact⟨congrArg Value.bool (Yl (show ¬ (T=0/\1<e) from λh=>h1 h.2)).symm,rfl⟩
  . have bH:((T:Int)==0)=false:=Yk.2 fP
    go_wp2;go_meet;exact⟨congrArg Value.bool (Yl (show ¬ (T=0/\1<e) from λh=>h0 h.1)).symm,rfl⟩
 case rest =>
 as_aux_lemma =>
 obtain⟨rfl,rfl⟩:=hcut;go_upto_if 238 with fail
 go_cut [] from 31 (λC=>∃M c4 P,C4 m (V8 X f D (vF X f D e)) P (Sl y D.N z) (Sl q D.lp.length o) (Sl Q (D.nn+1) c3) (Sl M e c4) w C)
 case first =>
  as_aux_lemma =>
  by_cases h:T=0/\1<e
  . rw[Yz h]at d
    have h1:=h.2;rw[Yo h];clear h;have u:=(bR wc.1.size wc).alloc (nR _) (Cl #[] 56);have r:(wc.alloc (Cl #[] 56)).ownsRow wc.1.size 56 9 (Sl (Sm (Aq wc.1.size 0)) 0 0) 0 (P6 []):=⟨rfl,.inr ⟨wc.1.size,0,_,rfl,nR _,heap_alloc_new wc (Cl #[] 56),nR _,by unfold maxLen;omega,rfl,rfl⟩⟩;obtain⟨W5,a2⟩:=Nq (wc.alloc (Cl #[] 56));rw[a2]at u r;obtain⟨B,hB⟩:=Nq wc.1.size;rw[hB]at u r;obtain⟨aR,C,aY⟩:=oC u r hB;have e8:Hi (w.1.size<=B):=h_ (by rw[<- hB];exact V.bl.size);have bA:=h_ a2;clear u r a2 hB
    go_upto_block 12 with fail
    rw[bA.u,aY.u];clear bA;go_wp2;go_loopw [29,30] (λr F wr=>∃(aj:Nat) (x5:To) (Z:Nat),aj<=e/\F=Ye ((aj:Int) - 1)/\r=Sl x5 (e - aj) Z/\wr.ownsRow B 56 9 (Sl x5 (e - aj) Z) (P.reverse.take (e - aj)).length (P6 (P.reverse.take (e - aj)))/\Below B wc wr) (λ_ F _=>(intOf F+1).toNat)
    case atStart=>exact⟨e,_,0,nR _,by first|rfl|go_num,by rw[Nat.sub_self],by rw[Nat.sub_self];exact C,aR⟩
    case round =>
     clear C aR;obtain⟨aj,x5,Z,hr,rfl,rfl,ho,j⟩:=hrel;obtain⟨az,hW⟩:=Nq wc;rw[hW]at j V aY;have g:=V.mono (show Below az.1.size az wr by rw[aY.u];exact j);by_cases ad:1<=aj
     . obtain⟨H,rfl⟩:∃H,aj=H+1:=⟨aj - 1,fP⟩
       have hj:H<P.length:=fP;rw[show((H+1:Nat):Int) - 1=(H:Int) by omega];have fB:(0:Int)<=H:=fP;have fC:(H:Int)<e:=fP;have aC:YB wr w.1.size (Sl M P.length c4) P:=(by rw[av];exact g.ow.f);obtain⟨b1,o1,e4,r,-⟩:=qM aC H (by rw[Zc];exact hj);obtain⟨⟨J,A⟩,G⟩:∃ao,P[H]=ao:=⟨_,rfl⟩;rw[Oa,mM hj,G]at r;have bz:=h_ r.rng;clear r;have C:Hi (P.reverse.take (e - H)=P.reverse.take (e - (H+1))++[(J,A)]):=h_ (by rw[<- av,<- G];exact qmw P hj);subst e4;obtain⟨y0,L,O,U⟩:=E0 g.bx;have an:=(bR wr.1.size wr).alloc (nR _) (Cl (Ja J A.b A.bc A.i A.ic A.h A.hc A.v A.vc A.u A.uc) 56);have HN:Hi (m0 _ _ 56 (Jm J A.b A.bc A.i A.ic A.h A.hc A.v A.vc A.u A.uc)):=h_ (m0.new wr 56 (Ja J A.b A.bc A.i A.ic A.h A.hc A.v A.vc A.u A.uc));have u:=h_ (BA ho an);have eK:B<=wr.1.size:=(by have:=j.size;have:=aY.u;omega);have I:=h_ (j.trans (an.mono eK));have eM:B<=(wr.alloc (Cl (Ja J A.b A.bc A.i A.ic A.h A.hc A.v A.vc A.u A.uc) 56)).1.size:=Yu eK an.size;have eG:(P.reverse.take (e - (H+1))).length<=1000:=(by rw[Za];omega);obtain⟨r,E⟩:=Nq (e - (H+1));rw[E]at u C eG|-;have bw:=h_ E;have F:(P.reverse.take r).length=r:=(by rw[Za,Zh];omega);obtain⟨fa,hQ⟩:=Nq (P.reverse.take r);rw[hQ]at u C eG F;have Y:=h_ F;clear an ho j g aC G E F hQ;go_wp2_with (first|(at_builtin;refine WN (n:=(J,A)) rfl _ _ rfl rfl u rfl HN fP eM ?_)|refine wpList_load_mid rfl 56 (.tmp 250) rfl b1 (o1+H*9) rfl (L1 J A) _ bz underlying56 rfl fR ?_|refine zW rfl (.tmp 251) rfl rfl ?_);intro v' W4 aW bS aG;have b4:=h_ (I.trans aG);have E:e - H=r+1:=(Fq bw.u);have aX:W4.ownsRow B 56 9 v' (r+1) (P6 (fa++[(J,A)])):=(by have h:=aW;simpa [Y.u] using h);obtain⟨G,F,rfl,-,-⟩:=C9 aX;have e0:Hi (W4.ownsRow B 56 9 (Sl G (e - H) F) (P.reverse.take (e - H)).length (P6 (P.reverse.take (e - H)))):=h_ (by rw[C.u,Yn,Y.u,E];exact aX);rw[<- E];clear aX;clear aW bS aG HN u I eM y0 L O U bz E;go_wp2;go_roundw
       case rel=>exact⟨H,G,F,fP,by first|rfl|go_num,rfl,e0,by rw[hW];exact b4⟩
       case measure=>first|(simp[intOf];done)|(simp[intOf];omega)
     . obtain rfl:aj=0:=fP
       rw[show((0:Nat):Int) - 1 = -1 from rfl];rw[Nat.sub_zero]at ho|-;have C:P.reverse.take e=P.reverse:=(by rw[<- av,<- Zh,Zz]);rw[C,Zh]at ho;have E:YB wr w.1.size (Sl x5 e Z) P.reverse:=⟨by rw[Zh];exact VB ho e8,λp hp=>g.ow.f.sub p (Of.1 hp)⟩;have r:=g.setF E;have u:P.reverse.map (·.1)=vF X f D e:=by rw[d.u,HE.u,List.map_reverse]
       try dsimp only at r
       rw[u]at r;have ap:Hi (C4 m (V8 X f D (vF X f D e)) P.reverse (Sl y D.N z) (Sl q D.lp.length o) (Sl Q (D.nn+1) c3) (Sl x5 e Z) w (wr.setCell (Aq m 3) (Sl x5 e Z))):=h_ r;have v3:=g.bx.cell 3;have vf:=g.bx.free 3;simp only[Ym,Yv]at v3;clear g r E ho j u C V;go_wp2;go_meet;exact⟨_,_,_,ap⟩
  . rw[Ys h]at d
    rw[Yl h];clear h;have ap:Hi (C4 m (V8 X f D (vF X f D e)) P (Sl y D.N z) (Sl q D.lp.length o) (Sl Q (D.nn+1) c3) (Sl M e c4) w wc):=h_ (by rw[d.u];exact V);clear V;go_wp2;go_meet;exact⟨_,_,_,ap⟩
 case rest =>
 as_aux_lemma =>
 clear V d HE;obtain⟨x5,Z,j,g⟩:=hcut;obtain⟨y0,L,O,U⟩:=E0 g.bx;obtain⟨d,h⟩:=oB g.fin g.r0;clear g;go_wp2_with (refine wpList_store_row rfl 28 (.tmp 6) (.tmp 256) rfl w.1.size (Jo y D.N z q D.lp.length o Q (D.nn+1) c3 x5 e Z) rfl rfl 28 Ji h fR rfl fZ ?_);clear y0 L O U;obtain⟨y0,L,O,U⟩:=E0 d.2.2;exact bodyPost_ret (v:=.tuple #[.agg (Jo y D.N z q D.lp.length o Q (D.nn+1) c3 x5 e Z),Ye W]) (by simp[results,results41,go_sem,y0,L,O,U]) rfl ⟨_,_,_,_,_,by rw[<- aS.u,<- HQ.u],d.1,d.2.1⟩
