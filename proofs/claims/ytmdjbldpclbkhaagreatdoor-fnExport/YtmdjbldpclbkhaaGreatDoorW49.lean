import Derived.Test.YtmdjbldpclbkhaaGreatDoorW47
import Derived.Test.YtmdjbldpclbkhaaGreatDoorW48
set_option linter.all false
set_option maxRecDepth 100000
set_option maxHeartbeats 0
namespace Go.Proofs.YtmdjbldpclbkhaaGreatDoor
open Value renaming slice->Sl,string->St,bool->Bo
open Obj renaming cells->Cl
open Ending renaming returned->Rt
open Go Go.RowKit Go.Proofs.Tryz
variable {w W:Tw}{n k i j q:Nat}{m:Fm}{a:To}{f g:Nat->Nat}
structure FeO (m:Fm)(L:List Ex)(A1 A2:MA)(X1 X2:Nat)(g1 g2 am:To)(lm:Nat)(fm:Nat->Nat)(W:Tw):Prop where
 k1:Blk W X1 28 [Sl A1.l m.L.length A1.lc,Sl A1.p m.P.length A1.pc,Sl A1.r m.R.length A1.rc,Sl A1.f m.F.length A1.fc]
 k2:Blk W X2 28 [Sl A2.l m.L.length A2.lc,Sl A2.p m.P.length A2.pc,Sl A2.r m.R.length A2.rc,Sl A2.f m.F.length A2.fc]
 s1:MSl W m A1
 s2:MSl W m A2
 n1:kcB W g1 L.length (λj=>L.getD j zE)
 n2:kcB W g2 L.length (λj=>L.getD j zE)
 y:kbs W am lm fm
 e:Env W
def FeO.mono {L:List Ex}{d g:MA}{j h:To}(b:FeO m L d g n k a j h i f w)(c:Bw w W):FeO m L d g n k a j h i f W :=
 ⟨b.k1.mono c b.k1.lt,b.k2.mono c b.k2.lt,b.s1.mono c,b.s2.mono c,b.n1.mono c,b.n2.mono c,b.y.mono c,b.e.mono c⟩
structure FeL (m:Fm)(L:List Ex)(A1 A2:MA)(X1 X2 XL:Nat)(g1 g2 am b1 b2 b3 a0:To)(d1 d2 d3 s:Nat)(bt tp:Int)(F:Nat->Bool)(lf:Nat->Nat)(lm:Nat)(fm:Nat->Nat)(W:Tw):Prop where
 o:FeO m L A1 A2 X1 X2 g1 g2 am lm fm W
 l:Blk W XL 36 (J2 m.L.length b1 s d1 b2 d2 b3 d3 bt tp)
 b:kbi W b1 s F
 p:Plc W a0 (lsL lf m.F.length)
def FeL.mono {L:List Ex}{e h:MA}{z s B:Nat}{A t u v x r:To}{y C:Int}{F:Nat->Bool}(c:FeL m L e h n k i a A t u v x r j q z s y C F f B g w)(d:Bw w W):FeL m L e h n k i a A t u v x r j q z s y C F f B g W :=
 ⟨c.o.mono d,c.l.mono d c.l.lt,c.b.mono d,c.p.mono d⟩
def qof {a b N s:Nat}(d:a<N)(f:b<N)(e:s=N*N):a*N+b<s:=by subst e;have c:(a+1)*N<=N*N:=Z6 N d;rw[Z8]at c;omega
def ks {p:Prop}(h:p:=by go_wp2;go_meet;exact⟨rfl,K,J⟩):p:=h
def key (aP I:Nat)(f fm:Nat->Nat)(a Q:To)(c cm:Nat)(w:Tw)(dk:aP<=1048576)(dm:I<=1048576)(q:kbs w a aP f)(s:kbs w Q I fm)(he:Env w) :
 Gv 3 #[.slice a aP c,.slice Q I cm] w (.bool true):=by
 obtain⟨d,l,ay,m,b,hd⟩:=q8u aP f dk;obtain⟨e,a6,r,C,u⟩:=q8t I fm dm;have dc:l.length<=4001:=by rcases b.1 with j | j <;> omega
 obtain⟨bG,B,t⟩:=khe d m.1 l.length (λk=>l.getD k zE) fP λk hj=>b.2 _ (qi0 hj);obtain⟨l2,ok,x,v,z,A⟩:=khf e r.1 a6 fP;obtain⟨H,hq⟩:=Nq ((bG&&(decide (0<=ay)&&decide (ay<d.R.length))));have dC:¬ (1048576:Int)<aP:=fP
 have dD:¬ (1048576:Int)<I:=fP
 have g:=h_ λh (j:kbs h a aP f)=>hd h a c j;have bm:=h_ λh (j:kbs h Q I fm)=>u h Q cm j;obtain⟨E,bk,bv,bq,ce,cg⟩:=oF B t x v z A;obtain⟨HM,bD,HL,HQ⟩:=oD m r b hq;clear hd u B t x v z A m r b C hq;unfold mV at E bv bq;go_enter func3,ntmps3;go_wp2_with fail;refine(g w q).mono ?_;rintro av W1 ⟨A1,g1,k1,rfl,b,t,u,F⟩;obtain⟨N,O,T,U,ar,V,L,M,ai⟩:=A1;unfold mV;dsimp only at b⊢;obtain⟨W2,X1,x,B,r,A⟩:=bxM W1 28 (Ja N d O T U ar V L M);have m:=F.trans (r.mono F.size);obtain⟨C,cs,cj,aA,Y,K⟩:=oF A (b.mono r) (u.mono r) m (q.mono m) (s.mono m);obtain⟨Z,bn⟩:=oB (he.mono m) t;obtain⟨z,D⟩:=oB x B;clear b t u F r A B x m q s he;go_wp2_with fail
 try rw[z.u]
 try rw[D.u]
 clear z D;refine(g W2 Y).mono ?_;rintro av W3 ⟨A2,g2,k2,rfl,J,-,cL,aI⟩;obtain⟨bl,ag,W,X,br,ad,bf,ae,aj⟩:=A2;unfold mV;dsimp only at J⊢;obtain⟨W4,X2,x,B,r,A⟩:=bxM W3 28 (Ja bl d ag W X br ad bf ae);have m:=aI.trans (r.mono aI.size);have b:FeO d l ⟨N,O,T,U,ar,V,L,M,ai⟩ ⟨bl,ag,W,X,br,ad,bf,ae,aj⟩ X1 X2 g1 g2 Q I fm W4:=⟨C.mono m C.lt,A,cs.mono m,J.mono r,cj.mono m,cL.mono r,K.mono m,Z.mono m⟩;have G:=h_ b;have aB:=mT aA m;obtain⟨z,D⟩:=oB x B;have v:=h_ (E W4 ⟨bl,ag,W,X,br,ad,bf,ae,aj⟩ g2 k2 b.s2 b.n2);dsimp only at v;obtain⟨s,t,q,u⟩:=kac b.k2;dsimp only at s t q u;clear J cL aI r A B x m b C cs cj aA Y K Z g E;go_upto_region 5 with fail
 try rw[z.u]
 try rw[D.u]
 clear z D;go_cut [63] from 50 to 62 (λb g=>b=.bool H/\FeO d l ⟨N,O,T,U,ar,V,L,M,ai⟩ ⟨bl,ag,W,X,br,ad,bf,ae,aj⟩ X1 X2 g1 g2 Q I fm g/\Bw w g)
 case first =>
  go_wp2_with fail;refine cQ v λY b=>?_;have K:=h_ (G.mono b);have J:=mT aB b;clear b s t q u v G aB;cases bG
  . obtain rfl:false=H:=HQ.u
    exact ks
  . by_cases C:0<=ay
    . have q:=(kac K.k2).2.2.1
      dsimp only at q;by_cases E:ay<d.R.length
      . obtain rfl:true=H:=by rw[<- HQ.u,Ys C,Ys E];rfl
        exact ks
      . obtain rfl:false=H:=by rw[<- HQ.u,Ys C,Yo E];rfl
        go_wp2;go_meet;exact⟨by rw[Yo fP],K,J⟩
    . obtain rfl:false=H:=by rw[<- HQ.u,Yo C];rfl
      have E:ay<0:=fP;exact ks
 case rest =>
 clear G aB v s t q u;obtain⟨rfl,C,v⟩:=hcut;obtain⟨K,J⟩:=oB C v;clear C v;go_upto_if 63 with fail
 go_cut [11,12,13,14,15,16,17] from 64 to 128 (λ_ _ _ _ _ _ _ g=>kbs g Q I fm/\Env g/\Bw w g)
 case first =>
  cases H
  . go_wp2
    go_meet;exact⟨K.y,K.e,J⟩
  obtain⟨de,dG,dH⟩:bG=true/\0<=ay/\ay<d.R.length:=by
   have:=HQ.u;rw[Yw,Yw,Yu,Yu]at this;exact this
  obtain⟨⟨ah,du,bt,tp,aa,c8,da,aF,top,lf,E⟩,h4,G⟩:=bk de;obtain⟨Z,rfl⟩:∃Z:Nat,ay=Z:=⟨ay.toNat,fP⟩;have aN:Z<d.R.length:=fP
  obtain⟨T1,Y,g⟩:=khg E HM.1 l HL h4 G Z aN;obtain rfl:=E.hN;obtain⟨gB,C⟩:=Nq (kbb d d.L.length aa lf Z);rw[C]at g;obtain⟨aR,v,aq,a4,cV,cU⟩:=oF (E.sp wc W X (qql K.s2)) (λh A' (j:MSl h d A')=>E.inf HM.1 A' h j) Y g G C;obtain⟨cv,cW,cq⟩:=oC E.L.l1 E.s1.lt E.v.ro;have cD:=E.v.nl;have dF:=E.v.nf;unfold mV at v aq a4;obtain⟨s,t,q,u⟩:=kac K.k2;dsimp only at s t q u;clear Y g G C E bk HL HM;go_wp2_with (refine q84 rfl 40 #[(0,.tmp 67),(1,.tmp 69)] rfl (Jt d.L.length W d.P.length X) fR ?_);refine aR.mono ?_;rintro av W6 ⟨b1,b2,b3,d1,d2,d3,rfl,cF,-,-,b⟩;obtain⟨W7,XL,x,B,r,A⟩:=bxM W6 36 (Ji d.L.length b1 ah d1 b2 d2 b3 d3 aF top);have m:=b.trans (r.mono b.size);have C:=K.mono m;have G:=h_ (v W7 ⟨bl,ag,W,X,br,ad,bf,ae,aj⟩ C.s2);dsimp only at G;have Y:=h_ C;have g:=mT J m;obtain⟨bF,b9,z,D⟩:=oD A (cF.mono r) x B;clear b cF r A B x m C s t q u aR v K J;obtain⟨s,t,q,u⟩:=kac Y.k2;dsimp only at s t q u;go_upto_region 7 with fail
  try rw[z.u]
  try rw[D.u]
  clear z D;go_wp2_with fail;refine G.mono ?_;rintro av W8 ⟨a0,c0,rfl,hp,b⟩;have cE:FeL d l ⟨N,O,T,U,ar,V,L,M,ai⟩ ⟨bl,ag,W,X,br,ad,bf,ae,aj⟩ X1 X2 XL g1 g2 Q b1 b2 b3 a0 d1 d2 d3 ah aF top aa lf I fm W8:=⟨Y.mono b,bF.mono b bF.lt,b9.mono b,hp⟩;have v:=g.trans (b.mono g.size);obtain⟨C,ak⟩:=Nq W8.1.size;have bC:Hi (∀wr,Below C W8 wr->FeL d l ⟨N,O,T,U,ar,V,L,M,ai⟩ ⟨bl,ag,W,X,br,ad,bf,ae,aj⟩ X1 X2 XL g1 g2 Q b1 b2 b3 a0 d1 d2 d3 ah aF top aa lf I fm wr):=h_ λwr j=>cE.mono (by rw[Bw,ak];exact j);have b8:Hi (∀wr,Below C W8 wr->Bw w wr):=h_ λwr j=>v.trans (j.mono (by have:=v.size;omega));have aC:Hi (∀wr,Below C W8 wr->C<=wr.1.size):=h_ λwr j=>by have:=j.size;omega
  have ax:=qar W8 45;rw[ak]at ax;have aH:=(bR C W8).alloc fP (.cells #[] 45);obtain⟨W9,bO⟩:=Nq (W8.alloc (.cells #[] 45));rw[bO]at ax aH;obtain⟨au,ao,cz,aQ⟩:=oD ax aH bO ak;clear hp b cE v ax aH bO ak s t q u Y g bF b9 G;go_upto_region 9 with fail
  try rw[cz.u]
  try rw[aQ.u]
  clear cz aQ;go_wp2;go_loopw [14,15] (λaz aJ wr=>∃g:Nat,g<=l.length/\aJ=Yf g/\kbI wr C az (snL (λk=>l.getD k zE) gB g)/\Below C W8 wr) (λ_ aJ _=>l.length - (intOf aJ).toNat)
  case atStart=>exact⟨0,nZ _,rfl,au,ao⟩
  case round =>
   obtain⟨g,hk,rfl,Y,b⟩:=hrel;clear au ao;by_cases aM:g<l.length
   . have dh:(g:Int)<l.length:=fP
     have k0:(0:Int)<=g:=fP;have aw:=bC wr.drew b.drew;obtain⟨v,hx⟩:=Nq (l.getD g zE);have b6:=qiz cV aM;have bE:Hi (snL (λk=>l.getD k zE) gB (g+1)=_):=h_ (ql4 (λk=>l.getD k zE) gB g);rw[hx]at b6 bE;obtain⟨-,⟨dy,dz⟩,-⟩:=qcy b6;obtain⟨G,bU⟩:∃G:Nat,v.f=G:=⟨v.f.toNat,fP⟩;have bV:G<d.F.length:=fP;have dA:(G:Int)<d.F.length:=fP;obtain⟨eb,eo,rfl,hE⟩:=aw.o.n2 g aM;dsimp only at hE;rw[hx]at hE;obtain⟨pb,po,rfl,-,-⟩:=aw.p.at G (by rw[qpn];exact bV);obtain⟨rb,ro,er,-,-,-⟩:=aw.o.s2.r Z aN;dsimp only at er;subst er;obtain⟨lb,bY⟩:∃lb:Nat,d.R[Z].lb=lb:=⟨d.R[Z].lb.toNat,by
      have:=cq _ (Yr aN);unfold inR at this;rw[Yu]at this;omega⟩
     have dj:lb<d.L.length:=by
      have:=cq _ (Yr aN);unfold inR at this;rw[Yu]at this;omega
     have aY:=cW G bV;obtain⟨aL,hd⟩:=Nq (lf G);obtain⟨ix,bW⟩:=Nq (aL*d.L.length+lb);have cJ:ix<ah:=(by rw[<- bW,<- hd];exact qof aY dj cv);have dJ:ah<=1024:=(by rw[cv.u];exact Gc cD cD);obtain⟨b7,hy⟩:=Nq (aL*d.L.length);have cO:(aL:Int)*(d.L.length:Int)=(b7:Int):=(by rw[<- hy];exact(Zq _ _).symm);have dK:IntKind.i64.wrap ((aL:Int)*(d.L.length:Int))=(b7:Int):=(by rw[cO,IntKind.wrap_i64];omega);have dL:IntKind.i64.wrap ((b7:Int)+(lb:Int))=(ix:Int):=(by rw[IntKind.wrap_i64];omega);obtain⟨bh,bi,rfl,-,-⟩:=aw.b ix cJ;have cb:Hi (gB v.f.toNat=aa ix):=h_ (by
      rw[<- cU.u,bU];show aa (lf ((G:Int).toNat)*d.L.length+rlb d Z)=aa ix;rw[show(G:Int).toNat=G by omega,hd,<- bW];unfold rlb;rw[Yq,Yn aN];show aa (aL*d.L.length+d.R[Z].lb.toNat)=_;rw[bY];rfl)
     have dB:(ix:Int)<ah:=fP;have dM:(0:Int)<=ix:=fP;have dS:(0:Int)<=Z:=fP;have dx:(0:Int)<=G:=fP;obtain⟨ch,aD,ab,HE⟩:=oD aw Y b hE;have hC:∀h,FeL d l ⟨N,O,T,U,ar,V,L,M,ai⟩ ⟨bl,ag,W,X,some ⟨rb,ro,none⟩,ad,bf,ae,aj⟩ X1 X2 XL g1 (some ⟨eb,eo,none⟩) Q (some ⟨bh,bi,none⟩) b2 b3 (some ⟨pb,po,none⟩) d1 d2 d3 ah aF top aa lf I fm h->h.cell? ⟨XL,0,none⟩=some (Yf d.L.length)/\h.cell? ⟨XL,1,none⟩=some (.slice (some ⟨bh,bi,none⟩) ah d1)/\h.cell? ⟨X2,2,none⟩=some (.slice (some ⟨rb,ro,none⟩) d.R.length ad)/\h.cell? ⟨eb,eo+g*5+1,none⟩=some (Yf G)/\h.cell? ⟨pb,po+G,none⟩=some (Yf aL)/\h.cell? ⟨rb,ro+Z*2+1,none⟩=some (Yf lb)/\h.cell? ⟨bh,bi+ix,none⟩=some (.bool (aa ix)):=λh j=>by
      obtain⟨dv,dw,ee,db⟩:=j.o.n2 g aM;cases ee;obtain⟨dP,dQ,ee,-,dq⟩:=j.p.at G (by rw[qpn];exact bV);cases ee;obtain⟨dR,dT,ee,-,-,ds⟩:=j.o.s2.r Z aN;cases ee;obtain⟨dN,dO,ee,-,di⟩:=j.b ix cJ;cases ee;refine⟨j.l.cell 0,j.l.cell 1,(kac j.o.k2).2.2.1,?_,?_,?_,di⟩
      . have:=db.2.2.1
        dsimp only at this;rw[hx,bU]at this;exact this
      . rw[dq,<- hd]
        congr 3
        unfold lsL;simp
      . rw[ds,bY]
     clear aw b6 hE aY hd bW hy cO b Y bY bU;go_wp2;refine wp_region_held_drew (S:=λw'=>FeL d l ⟨N,O,T,U,ar,V,L,M,ai⟩ ⟨bl,ag,W,X,some ⟨rb,ro,none⟩,ad,bf,ae,aj⟩ X1 X2 XL g1 (some ⟨eb,eo,none⟩) Q (some ⟨bh,bi,none⟩) b2 b3 (some ⟨pb,po,none⟩) d1 d2 d3 ah aF top aa lf I fm w') fR ch (λzz=>?_);refine rep 22 ?_
     repeat refine tkN zz ?_
     refine wdQ ?_;clear zz hC;cases hF:aa ix
     . have a5:Hi (kbI wr C u14 (snL (λk=>l.getD k zE) gB (g+1))):=h_ (by
        rw[bE.u,cb.u,hF,Y2 fS,Zv];exact aD)
       refine rQ ?_;exact⟨g+1,fP,fX,qep a5 (bR _ _).drew,ab.drew⟩
     . have a5:=h_ (qep aD (bR _ _).drew)
       have a3:=h_ ab.drew;obtain⟨aU,hV⟩:=Nq wr.drew;rw[hV]at a5 a3 HE⊢;clear hV aD ab ch;obtain⟨-,c0,c1,c2,c3,c4⟩:=HE.u;have aK:Hi (Blk _ _ 45 (eC v)):=h_ (Blk.new aU 45 (Jh v.r v.f v.v.k v.v.n v.v.s));have ac:=h_ ((bR aU.1.size aU).alloc (nR _) (.cells (Jh v.r v.f v.v.k v.v.n v.v.s) 45));have dt:=qrr (λk=>l.getD k zE) gB g;go_wp2_with (at_builtin;refine qgj (y:=v) rfl _ _ rfl rfl (qep a5 ac) rfl aK fP (Yx (aC aU a3) ac.size) ?_);intro v9 V9 aZ aX;have au:Hi (kbI V9 C v9 (snL (λk=>l.getD k zE) gB (g+1))):=h_ (by
        rw[bE.u,cb.u,hF,Y6 rfl];exact aZ)
       have ao:=h_ ((a3.trans (ac.mono (aC aU a3))).trans aX);clear aZ aX c0 c1 c2 c3 c4 dt;refine rQ ?_;exact⟨g+1,fP,fX,au,ao⟩
   . obtain rfl:g=l.length:=fP
     have dn:¬ (l.length:Int)<(l.length:Int):=fP;have aw:=bC wr b;obtain⟨aO,hl⟩:=Nq (snL (λk=>l.getD k zE) gB l.length);have dE:aO.length<=4001:=(by rw[<- hl];exact Yx (qrr _ _ _) dc);rw[hl]at Y a4;obtain⟨wa,wk,rfl,cN⟩:=q40 (λk=>aO.getD k zE) (λk hj=>by rw[Yq,Yn hj];rfl) Y;obtain⟨G,cA,ca⟩:=oC aw.o cN (b8 wr b);have bx:=h_ (aq wr.drew ⟨N,O,T,U,ar,V,L,M,ai⟩ g1 k1 bn (G.s1.mono (bR _ _).drew) (G.n1.mono (bR _ _).drew) (G.e.mono (bR _ _).drew));dsimp only at bx;have hC:∀h,FeO d l ⟨N,O,T,U,ar,V,L,M,ai⟩ ⟨bl,ag,W,X,br,ad,bf,ae,aj⟩ X1 X2 g1 g2 Q I fm h->h.cell? ⟨X1,0,none⟩=some (.slice N d.L.length O)/\h.cell? ⟨X1,1,none⟩=some (.slice T d.P.length U)/\h.cell? ⟨X1,2,none⟩=some (.slice ar d.R.length V)/\h.cell? ⟨X1,3,none⟩=some (.slice L d.F.length M):=λh j=>kac j.k1;clear aw cN b Y hl bC b8 aC aq;go_wp2;refine wp_region_held_drew (S:=λw'=>FeO d l ⟨N,O,T,U,ar,V,L,M,ai⟩ ⟨bl,ag,W,X,br,ad,bf,ae,aj⟩ X1 X2 g1 g2 Q I fm w') fR (G.mono (bR _ _).drew) (λzz=>?_);refine rep 11 ?_
     repeat refine tkN zz ?_
     refine cyY 4 117 bx λV1 F=>?_;replace F:=q2j F;have an:=G.mono F;replace zz:=an;refine⟨zz,?_⟩;refine kav fQ fQ ?_;have bo:=h_ (a4 V1 ⟨N,O,T,U,ar,V,L,M,ai⟩ bn an.s1 an.e);dsimp only at bo;refine kap (i:=5) (f:=8) (args:=#[.agg (Ja N d O T U ar V L M),.string T1]) (R:=λcP wz=>∃az,cP=.tuple #[az,.bool true]/\kbI wz V1.1.size az aO/\Bw V1 wz) 118 rfl rfl gb fR gd (bo.mono λav w6 ⟨az,he,Y,b⟩=>⟨_,he,az,rfl,Y,b⟩) ?_;rintro cP V2 ⟨az,rfl,cM,bS⟩;have aE:=an.mono bS;replace zz:=aE;refine⟨zz,?_⟩;refine kav fQ fQ ?_;obtain⟨ga,gk,rfl,cI⟩:=q40 (λk=>aO.getD k zE) (λk hj=>by rw[Yq,Yn hj];rfl) cM
     repeat refine tkN zz ?_
     refine wdQ ?_;have bP:=F.trans (bS.mono F.size);obtain⟨HY,HE⟩:=oB aE.y aE.e;have aA:=mT ca bP;have cu:=h_ (q0l ga wa (λk=>aO.getD k zE) aO.length gk wk V2 fP cI (cA.mono bP));clear zz hC an aE F bS bP cM cI a4 bo bx G cA ca;go_wp2_with fail;refine cQ cu λV3 b=>?_;obtain⟨c7,G⟩:=oB (HY.mono b) (HE.mono b);have a1:=mT aA b;clear b cu;go_wp2;go_meet;exact⟨c7,G,a1⟩
 case rest =>
 obtain⟨hY,hE,G⟩:=hcut;obtain⟨HY,HE,Z⟩:=oC hY hE G;clear hY hE G bk HQ HL HM bn K J;go_wp2_with fail;refine(bm wc HY).mono ?_;rintro av V1 ⟨A3,rfl,G,K,F⟩;obtain⟨cl,a8,cp,ba,cr,bb,cf,a7,cC⟩:=A3;unfold mV;dsimp only at G⊢;obtain⟨V2,X3,x,B,r,A⟩:=bxM V1 28 (Jn cl e.L.length a8 cp e.P.length ba cr e.R.length bb cf e.F.length a7);have m:=F.trans (r.mono F.size);obtain⟨aT,ct,cR,cB,aS⟩:=oG A (G.mono r) K (HY.mono m) (HE.mono m);have aA:=mT Z m;obtain⟨z,D⟩:=oB x B;clear G K F r A B x m HY HE Z;go_wp2_with fail
 try rw[z.u]
 try rw[D.u]
 clear z D;refine(bm V2 cB).mono ?_;rintro av V3 ⟨A4,rfl,b5,cG,aI⟩;obtain⟨dl,aW,dp,aG,dr,bH,df,aV,bc⟩:=A4;unfold mV;dsimp only at b5⊢;obtain⟨V4,K,x,B,r,A⟩:=bxM V3 28 (Jn dl e.L.length aW dp e.P.length aG dr e.R.length bH df e.F.length aV);have Z:Hi (∀h,Below K V3 h->MSl h e ⟨cl,a8,cp,ba,cr,bb,cf,a7,cC⟩/\MSl h e ⟨dl,aW,dp,aG,dr,bH,df,aV,bc⟩/\Env h/\Blk h X3 28 [.slice cl e.L.length a8,.slice cp e.P.length ba,.slice cr e.R.length bb,.slice cf e.F.length a7]/\Bw w h):=h_ λh j=>by
  rw[<- B]at j;have G:=aI.trans (j.mono aI.size);exact⟨ct.mono G,b5.mono j,aS.mono G,aT.mono G aT.lt,aA.trans (G.mono aA.size)⟩
 rw[Bw,B]at r;have G:K<V4.1.size:=A.lt;obtain⟨aB,cc,cS⟩:=oC r A cG;have bw:=h_ (bv V4 ⟨dl,aW,dp,aG,dr,bH,df,aV,bc⟩ (Z V4 r).2.1);dsimp only at bw;obtain⟨s,t,q,u⟩:=kac A;obtain⟨z,D⟩:=oB x B;clear b5 cG aI r A B x cB aS aA aT ct bv bm;go_upto_region 19 with fail
 try rw[z.u]
 try rw[D.u]
 clear z D;go_wp2_with fail;refine bw.mono ?_;rintro av V5 ⟨u5,rfl,bg⟩;have bI:K<V5.1.size:=Y5 G bg.size;obtain⟨cd,J⟩:=oB (cc.mono bg G) (aB.trans (bg.mono (Oa G)));have be:=Z V5 J;have bu:=h_ (bq V5 ⟨cl,a8,cp,ba,cr,bb,cf,a7,cC⟩ cR be.1 be.2.2.1);dsimp only at bu;have cK:=be.2.2.2.1;clear bg s t q u bw cc aB G bq be;obtain⟨s,t,q,u⟩:=kac cK;clear cK;go_wp2_with fail;refine bu.mono ?_;rintro av V6 ⟨u6,rfl,b4,G⟩;obtain⟨ea,ek,rfl,-⟩:=q40 (λk=>l2.getD k zE) (λk hj=>by rw[Yq,Yn hj];rfl) b4;have bJ:K<V6.1.size:=Y5 bI G.size;obtain⟨bA,a2,ck⟩:=oC (cd.mono G bI) (J.trans (G.mono (Oa bI))) b4;have dg:(ok != ok)=false:=fT
 clear G b4 s t q u bu cd J;cases ok
 . obtain rfl:=ce rfl
   go_wp2;go_ret;exact⟨rfl,(Z V6 a2).2.2.2.2⟩
 clear dg;obtain⟨⟨ah,du,bt,tp,aa,c8,da,aF,top,lf,E⟩,h4,cH,aY⟩:=cg rfl;obtain rfl:=E.hN;obtain rfl:=E.L.ht;obtain⟨G,J⟩:∃G:Tb,⟨#[97,98,111,118,101,95,97,108,108,95,111,116,104,101,114,115]⟩=G:=⟨_,rfl⟩;have b0:G.size<=1000:=by rw[<- J];decide
 have dI:=E.v.nr;have cw:=h_ λhq=>khh E bD.1 G b0 hq l2 a6 h4 cH aY;have cy:=h_ λh A' (j:MSl h (adR e ⟨G,(tp:Int)⟩) A')=>q0h (adR e ⟨G,(tp:Int)⟩) A' h (qnz bD.1 fP b0) j;obtain⟨aR,cX⟩:=oB (E.sp V6 dp aG (qql (Z V6 a2).2.1)) J;clear E cH aY J b0 ce cg bD;obtain⟨s,t,q,u⟩:=kac bA;go_wp2_with (refine q84 rfl 40 #[(0,.tmp 162),(1,.tmp 164)] rfl (Jt e.L.length dp e.P.length aG) fR ?_);refine aR.mono ?_;rintro av V7 ⟨b1,b2,b3,d1,d2,d3,rfl,-,-,-,bT⟩;obtain⟨E,XL,x,B,r,A⟩:=bxM V7 36 (Ji e.L.length b1 ah d1 b2 d2 b3 d3 aF (tp:Int));have m:=bT.trans (r.mono bT.size);have J:K<E.1.size:=Y5 bJ m.size;obtain⟨C,ak⟩:=Nq E.1.size;rw[ak]at J;obtain⟨bB,bj,cn,c6⟩:=oD (bA.mono m bJ) (a2.trans (m.mono (Oa bJ))) (qep ck m) A;have dd:XL<C:=by rw[<- ak];exact A.lt
 have ax:OwL _ _ _ []:=qes E 47 2;rw[ak]at ax;have aH:=(bR C E).alloc fP (.cells #[] 47);obtain⟨V9,h⟩:=Nq (E.alloc (.cells #[] 47));rw[h]at ax aH;obtain⟨au,ao,cx,aQ,z,D⟩:=oF ax aH h ak x B;have aC:Hi (∀wr,Below C E wr->C<=wr.1.size):=h_ λwr j=>by have:=j.size;omega
 clear bT r A B x m ax aH h ak s t q u aR bA a2 ck;go_upto_region 26 with fail
 try rw[z.u]
 try rw[D.u]
 clear z D;go_wp2_with fail
 try rw[cx.u]
 try rw[aQ.u]
 clear cx;go_loopw [28,29] (λaz aJ wr=>∃g:Nat,g<=e.R.length/\aJ=Yf g/\OwL wr C az (e.R.take g)/\Below C E wr) (λ_ aJ _=>e.R.length - (intOf aJ).toNat)
 case atStart=>exact⟨0,nZ _,rfl,au,ao⟩
 case round =>
 obtain⟨g,hk,rfl,Y,b⟩:=hrel;clear au ao;have h:=h_ (bB.mono b J);obtain⟨s,t,q,u⟩:=kac h;by_cases aM:g<e.R.length
 . have dh:(g:Int)<e.R.length:=fP
   have k0:(0:Int)<=g:=fP
   have r:Below K E wr:=b.mono (Oa J);obtain⟨rb,ro,er,-,c0,c1⟩:=(Z wr (bj.trans r)).2.1.r g aM;dsimp only at er;subst er;have m:Hi (e.R.take (g+1)=e.R.take g++[e.R[g]]):=h_ (by rw[O0,Yn aM];rfl);have A:(e.R.take g).length<=64:=Yx (List.length_take_le _ _) fP;obtain⟨v,hx⟩:=Nq (e.R[g]);rw[hx]at c0 c1 m;have aD:=h_ Y;have ab:=h_ b;have aK:Hi (Blk _ _ 47 [.string v.nm,Yf v.lb]):=h_ (Blk.new wr 47 #[.string v.nm,Yf v.lb]);have ac:=h_ ((bR wr.1.size wr).alloc (nR _) (.cells #[.string v.nm,Yf v.lb] 47));clear Y b r hx;go_wp2_with (at_builtin;refine qgn (n:=v) rfl _ _ rfl rfl (qep aD ac) rfl aK fP (Yx (aC wr ab) ac.size) ?_);intro v9 V9 aZ _ aX;have au:Hi (OwL V9 C v9 (e.R.take (g+1))):=h_ (by
    rw[m.u];unfold OwL;rw[Ym,Zb,Gh hk];exact aZ)
   have ao:=h_ ((ab.trans (ac.mono (aC wr ab))).trans aX);clear aZ aX c0 c1 s t q u;refine rQ ?_;exact⟨g+1,fP,fX,au,ao⟩
 obtain rfl:g=e.R.length:=fP
 rw[Zp]at Y;have dn:¬ (e.R.length:Int)<(e.R.length:Int):=fP
 have r:=(c6.mono b dd).cell 5;simp only[Yp,Y3]at r;obtain⟨aD,ab⟩:=oB Y b;have aK:Hi (Blk _ _ 47 [.string G,Yf (tp:Int)]):=h_ (Blk.new wr 47 #[.string G,Yf (tp:Int)]);have ac:=h_ ((bR wr.1.size wr).alloc (nR _) (.cells #[.string G,Yf (tp:Int)] 47));clear Y b;go_wp2_with (first | (at_builtin;refine qgn (n:=⟨G,(tp:Int)⟩) rfl _ _ rfl rfl (qep aD ac) rfl aK fP (Yx (aC wr ab) ac.size) ?_) | (rw[cX.u];refine q84 rfl 47 #[(0,.const (.string G)),(1,.tmp 187)] rfl #[.string G,Yf (tp:Int)] fR ?_));intro v1 W1 m _ F;have Y:=(ab.trans (ac.mono (aC wr ab))).trans F;have an:OwL W1 C v1 (e.R++[⟨G,(tp:Int)⟩]):=by
  unfold OwL;rw[Ym];exact m
 clear m F s t q u r aD ab aK ac h;obtain⟨m,r,rfl,-⟩:=qat an;obtain⟨h,B⟩:=Nq ((e.R++[(⟨G,(tp:Int)⟩:Rl)]).length);have co:Hi (h=e.R.length+1):=h_ (by rw[<- B,Ym];rfl);have F:=bB.mono Y J;obtain⟨s,t,q,u⟩:=kac F;have f2:=F.free 2;have bd:=F.set 2 (.slice m h r);simp only[Yj,Yk]at bd;have bK:=(bj.trans (Y.mono (Oa J))).setCell (p:=⟨K,2,none⟩) (nR _) (.slice m h r);have bX:∀H,H≠K->(W1.setCell ⟨K,2,none⟩ (.slice m h r)).heap[H]? = W1.heap[H]?:=λH hq=>heap_setCell_other W1 ⟨K,2,none⟩ H _ hq;have bL:=qep cn (Y.mono (Oq aQ));have aE:=qqi an (w':=W1.setCell ⟨K,2,none⟩ (.slice m h r)) λH hq=>bX H (by have:=qao an hq;omega);have bM:=qqi bL (w':=W1.setCell ⟨K,2,none⟩ (.slice m h r)) λH hq=>bX H (by have:=qao bL hq;omega);obtain⟨W2,x⟩:=Nq (W1.setCell ⟨K,2,none⟩ (.slice m h r));rw[x]at bd bK aE bM;have A:=Z W2 bK;have bZ:MSl W2 (adR e ⟨G,(tp:Int)⟩) ⟨dl,aW,dp,aG,m,r,df,aV,bc⟩:=⟨A.2.1.l,A.2.1.p,kfq aE,A.2.1.f⟩;have v:=h_ (cy W2 _ bZ);obtain⟨qv,D⟩:=Nq (vfB (adR e ⟨G,(tp:Int)⟩));rw[D]at v;have cY:=h_ D;clear D;unfold mV at v;dsimp only[adR]at v;rw[B]at v;rw[B];obtain⟨ci,bz,aS,D,z,c5⟩:=oF bZ bd bM A.2.2 x B;clear an Y F bX bL aE bM A bZ bd bK x B cy bj bB cn Z;go_upto_region 33 with fail
 rw[z.u];clear s t q u f2 z;obtain⟨s,t,q,u⟩:=kac bz;go_wp2_with fail;refine cQ v λW3 b=>?_;have aT:=mB bz b;have a1:=h_ (D.2.2.trans (b.mono D.2.2.size));clear s t q u v;cases qv
 . clear b
   go_wp2;go_ret;exact⟨rfl,a1⟩
 obtain⟨z,A,x,v⟩:=q40 (λk=>l2.getD k zE) (λk hj=>by rw[Yq,Yn hj];rfl) (qep aS b);cases x;have aq:=h_ (cw cY W3 ⟨dl,aW,dp,aG,m,r,df,aV,bc⟩ ea ek (λg hk=>cS g hk) (ci.mono b) v (D.1.mono b));unfold mV at aq;dsimp only[adR]at aq;rw[c5.u]at aq;have F:wrap64 ((h:Int) - 1)=(e.R.length:Int):=by have:=co.u;rw[q5k fP fP];omega
 have B:IntKind.i64.wrap ((h:Int) - 1)=(e.R.length:Int):=by have:=co.u;rw[IntKind.wrap_i64];omega
 clear b v cw aS ci D bz;obtain⟨s,t,q,u⟩:=kac aT;go_wp2_with fail;refine cQ aq λW4 b=>?_;have aB:=mT a1 b;have k:(a6.toList==a6.toList)=true:=fT
 clear b s t q u aq;go_wp2;go_ret;exact⟨rfl,aB⟩
def kr {p:Prop}(h:p:=by clear h g i;go_enter func3,ntmps3;go_wp2;go_ret;exact⟨rfl,bR _ _⟩):p:=h
def q38 (b d:Nat)(f k:Nat->Nat)(a e:To)(c j:Nat)(w:Tw)(h:kbs w a b f)(g:kbs w e d k)(i:Env w):Gv 3 #[Sl a b c,Sl e d j] w (Bo true):=by by_cases m:b<=1048576;(case neg=>have l:(1048576:Int)<b:=fP;exact kr);by_cases n:d<=1048576;(case neg=>have l:¬ (1048576:Int)<b:=fP;have o:(1048576:Int)<d:=fP;exact kr);exact key b d f k a e c j w m n h g i
