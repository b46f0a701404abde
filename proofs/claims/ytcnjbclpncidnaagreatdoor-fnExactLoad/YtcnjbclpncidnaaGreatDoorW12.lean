import Derived.Test.YtcnjbclpncidnaaGreatDoorW11
import Derived.Test.YtcnjbclpncidnaaGreatDoorW10
set_option linter.all false
set_option maxRecDepth 100000
set_option maxHeartbeats 0
namespace Go.Proofs.YtcnjbclpncidnaaGreatDoor
open Value renaming slice->Sl,string->St,bool->Bo
open Obj renaming cells->Cl
open Ending renaming returned->Rt
open Option renaming none->Nn,some->Sm
open Bool renaming true->Tt,false->Ff
section
open Go Go.RowKit Go.Proofs.Tryz
variable {P:Prop}
def gR(h:P:=by go_wp2;exact Kv):P:=h
def Am (a b l X t w)(G:l.length<=1048576)(j:T5 w a l)(c:T5 w b l):GZ 46 #[Sl a l.length X,Sl b l.length t] w λr d=>r=Rt (Bo Tt)/\Below w.1.size w d:=by obtain⟨Y,e⟩:=oB j c;go_enter func46,ntmps46;go_wp2;go_loopw [5] (λi wr=>∃k:Nat,k<=l.length/\i=Yj k/\Below w.1.size w wr) (λi _=>l.length - (intOf i).toNat);exact⟨0,nZ _,rfl,bR _ _⟩;obtain⟨k,p,rfl,c⟩:=hrel;obtain⟨h,g,f⟩:=oC c (Y.mono c) (e.mono c);by_cases R:k<l.length;{have L:(k:Int)<l.length:=dN;obtain⟨q,i,rfl,-,o⟩:=g k R;obtain⟨C,m,rfl,-,A⟩:=f k R;generalize l[k]=x at *;have F:=h_ h.drew;go_wp2;refine wp_region_held_drew (S:=λd=>d.cell? (Aq q (i+k))=Sm (St x)/\d.cell? (Aq C (m+k))=Sm (St x)) dP ⟨o,A⟩ (λn=>?_);refine rp ?_;(repeat refine D7 n ?_);refine S3 ?_;refine rQ ?_;exact⟨k+1,dN,dR,F⟩};exact Hx
def JD (w:Tw)(b o:Nat)(v0 v1:Value):Prop:=b<w.1.size/\w.cell? (Aq b o)=Sm v0/\w.cell? (Aq b (o+1))=Sm v1
def JD.mono {w w' b o v u}(h:JD w b o v u)(c:Below w.1.size w w'):JD w' b o v u:=⟨Zc h.1 c.size,(c.cell h.1).trans h.2.1,(c.cell h.1).trans h.2.2⟩
def Nt (u:(Int × Int))(w):GZ 116 #[.agg (Jl u.1 u.2),.agg (Jl u.1 u.2)] w λr k=>r=Rt (Bo Tt)/\Below w.1.size w k:=by have h:=h_ (((bR w.1.size w).alloc (nR _) (Cl (Jl u.1 u.2) 47)).alloc dQ (Cl (Jl u.1 u.2) 47));go_enter func116,ntmps116;exact gR
def gT(h:P:=by exact K6):P:=h
def Xn (a b l X t w)(G:l.length<=1048576)(p:oH w a l)(r:oH w b l):GZ 47 #[Sl a l.length X,Sl b l.length t] w λd c=>d=Rt (Bo Tt)/\Below w.1.size w c:=by obtain⟨n,o⟩:=oB p r;go_enter func47,ntmps47;go_wp2;go_loopw [5] (λi wr=>∃k:Nat,k<=l.length/\i=Yj k/\Below w.1.size w wr) (λi _=>l.length - (intOf i).toNat);exact⟨0,nZ _,rfl,bR _ _⟩;obtain⟨k,x,rfl,f⟩:=hrel;have h:=h_ f;by_cases R:k<l.length;{obtain⟨q,d,rfl,v,Y,N⟩:=(n.mono f) k R;obtain⟨C,e,rfl,P,E,i⟩:=(o.mono f) k R;obtain⟨u,s⟩:=Nq (l[k]);rw[s]at Y N E i;have A:Hi (JD wr q (d+k*2) (Yj u.1) (Yj u.2)):=h_ ⟨v,Y,N⟩;have F:Hi (JD wr C (e+k*2) (Yj u.1) (Yj u.2)):=h_ ⟨P,E,i⟩;go_wp2;refine wp_region_held_drew (S:=λc=>JD c q (d+k*2) (Yj u.1) (Yj u.2)/\JD c C (e+k*2) (Yj u.1) (Yj u.2)) dP ⟨A,F⟩ (λm=>?_);refine tq 0 1 2 m ?_;refine F0 3 20 (.agg (Jl u.1 u.2)) m ?_ (hy:=λw U=>by obtain⟨⟨-,M,g⟩,-⟩:=U;simp[execOp,go_sem,M,g]);refine tq 4 5 6 m ?_;refine F0 7 24 (.agg (Jl u.1 u.2)) m ?_ (hy:=λw U=>by obtain⟨-,⟨-,M,g⟩⟩:=U;simp[execOp,go_sem,M,g]);refine jA 8 25 (Nt u _) λj c=>?_;have c:=M7 c;have Z:=mT h c;replace m:JD j q (d+k*2) (Yj u.1) (Yj u.2)/\JD j C (e+k*2) (Yj u.1) (Yj u.2):=⟨A.mono c,F.mono c⟩;exact gT};exact Hx
def Pt (u:Rl)(w):GZ 117 #[.agg #[St u.nm,Yj u.lb],.agg #[St u.nm,Yj u.lb]] w λr k=>r=Rt (Bo Tt)/\Below w.1.size w k:=by have h:=h_ (((bR w.1.size w).alloc (nR _) (Cl #[St u.nm,Yj u.lb] 49)).alloc dQ (Cl #[St u.nm,Yj u.lb] 49));go_enter func117,ntmps117;exact gR
def Ao (a b l X t w)(G:l.length<=1048576)(p:zG w a l)(r:zG w b l):GZ 48 #[Sl a l.length X,Sl b l.length t] w λd c=>d=Rt (Bo Tt)/\Below w.1.size w c:=by obtain⟨n,o⟩:=oB p r;go_enter func48,ntmps48;go_wp2;go_loopw [5] (λi wr=>∃k:Nat,k<=l.length/\i=Yj k/\Below w.1.size w wr) (λi _=>l.length - (intOf i).toNat);exact⟨0,nZ _,rfl,bR _ _⟩;obtain⟨k,x,rfl,f⟩:=hrel;have h:=h_ f;by_cases R:k<l.length;{obtain⟨q,d,rfl,v,Y,N⟩:=(n.mono f) k R;obtain⟨C,e,rfl,P,E,i⟩:=(o.mono f) k R;obtain⟨u,s⟩:=Nq (l[k]);rw[s]at Y N E i;have A:Hi (JD wr q (d+k*2) (St u.nm) (Yj u.lb)):=h_ ⟨v,Y,N⟩;have F:Hi (JD wr C (e+k*2) (St u.nm) (Yj u.lb)):=h_ ⟨P,E,i⟩;go_wp2;refine wp_region_held_drew (S:=λc=>JD c q (d+k*2) (St u.nm) (Yj u.lb)/\JD c C (e+k*2) (St u.nm) (Yj u.lb)) dP ⟨A,F⟩ (λm=>?_);refine tq 0 1 2 m ?_;refine F0 3 20 (.agg #[St u.nm,Yj u.lb]) m ?_ (hy:=λw U=>by obtain⟨⟨-,M,g⟩,-⟩:=U;simp[execOp,go_sem,M,g]);refine tq 4 5 6 m ?_;refine F0 7 24 (.agg #[St u.nm,Yj u.lb]) m ?_ (hy:=λw U=>by obtain⟨-,⟨-,M,g⟩⟩:=U;simp[execOp,go_sem,M,g]);refine jA 8 25 (Pt u _) λj c=>?_;have c:=M7 c;have Z:=mT h c;replace m:JD j q (d+k*2) (St u.nm) (Yj u.lb)/\JD j C (e+k*2) (St u.nm) (Yj u.lb):=⟨A.mono c,F.mono c⟩;exact gT};exact Hx
def LO {m}(h:¬ O2 m):D8 m=Ff:=by grind[D8,vfA,Ia]
def JU {m}(h:O2 m):D8 m=decide ((cT m).length<=30000):=by grind[D8,cT,Ia]
def jQ {n:Nat}{x:Int}(h1:0<=x)(i:x<n):A1 n x=Tt:=Yr ⟨h1,i⟩
def gP(h:P:=by go_wp2;go_ret;exact⟨O1 c.symm,h.u⟩):P:=h
def gQ(h:P:=by refine wpAnyH_done dP ?_ _;go_wp2;go_ret;exact⟨O1 c.symm,U⟩):P:=h
def gU(h:P:=by refine wpAnyH_done dP ?_ _;clear a;go_wp2;go_ret;exact⟨O1 c.symm,U⟩):P:=h
def MN (m az w)(hf:l6 m)(ha:R0 w m az) :
 Gv 7 #[mV m az] w (Bo (D8 m)):=by
 obtain⟨t,H,Y,I,ar,N,af,O,ao⟩:=az;have s:Hi (¬ O2 m->D8 m=Ff):=h_ LO;have a0:Hi (O2 m->D8 m=decide ((cT m).length<=30000)):=h_ JU;generalize D8 m=q at *;unfold mV;dsimp only;obtain⟨W0,ba,A,h⟩:=S7 w 28 (Je t m H Y I ar N af O);obtain⟨K,HF⟩:=oB (ha.mono h.u) hf;have a4:=hf.ll;have bb:=hf.pl;have a6:=hf.rl;have aO:=hf.fl;obtain⟨i,n,z,J⟩:=D0 A.u;by_cases h1:(32:Int)<m.L.length
 . have c:Hi (q=Ff):=h_ (s λv=>Fq v.nl)
   go_enter func7,ntmps7;exact gP
 by_cases h2:(256:Int)<m.P.length
 . have c:Hi (q=Ff):=h_ (s λv=>Fq v.np)
   go_enter func7,ntmps7;exact gP
 by_cases h3:(64:Int)<m.R.length
 . have c:Hi (q=Ff):=h_ (s λv=>Fq v.nr)
   go_enter func7,ntmps7;exact gP
 by_cases h4:(200:Int)<m.F.length
 . have c:Hi (q=Ff):=h_ (s λv=>Fq v.nf)
   go_enter func7,ntmps7;exact gP
 go_enter func7,ntmps7;go_wp2_with fail;refine(lR m ⟨t,H,Y,I,ar,N,af,O,ao⟩ W0 dN K.u.f).mono ?_;rintro a8 W1 ⟨an,cn,rfl,aF,d⟩;have r:=h_ aF;have A:=mB A d;have K:=h_ (K.u.mono d);have h:=mT h d;obtain⟨i,n,z,J⟩:=D0 A.u;go_wp2_with fail;refine cQ (oR t H m.L W1 a4 HF.l K.u.l) λW2 d=>?_;have A:=mB A d;have K:=h_ (K.u.mono d);have h:=mT h d;have r:=h_ (r.mono d);obtain⟨i,n,z,J⟩:=D0 A.u;cases ag:Q5 m.L
 . have c:Hi (q=Ff):=h_ (s λv=>by have:=v.l;rw[ag]at this;cases this)
   exact gP
 have aW:=h_ ag;go_wp2_with fail;refine(lW m ⟨t,H,Y,I,ar,N,af,O,ao⟩ W2 dN K.u.r).mono ?_;rintro a8 W3 ⟨a1,a2,rfl,aF,d⟩;have ax:=h_ aF;have A:=mB A d;have K:=h_ (K.u.mono d);have h:=mT h d;have r:=h_ (r.mono d);obtain⟨i,n,z,J⟩:=D0 A.u;have aJ:Hi (m.R.length=(D2 m).length):=h_ (by simp[D2]);have aw:Hi (m.F.length=(I0 m).length):=h_ fB;go_wp2_with fail;have aq:=oR a1 a2 (D2 m) W3 (by rw[<- aJ.u];exact a6) (λx Q=>by obtain⟨aG,hy,rfl⟩:=Zo.1 Q;exact HF.r aG hy) ax;rw[<- aJ.u]at aq;refine cQ aq λW4 d=>?_;have A:=mB A d;have K:=h_ (K.u.mono d);have h:=mT h d;have r:=h_ (r.mono d);obtain⟨i,n,z,J⟩:=D0 A.u;cases ag:Q5 (D2 m)
 . have c:Hi (q=Ff):=h_ (s λv=>by have:=v.r;rw[ag]at this;cases this)
   exact gP
 have aX:=h_ ag;go_wp2_with fail;have aq:=oR an cn (I0 m) W4 (by rw[<- aw.u];exact aO) (λx Q=>by obtain⟨aG,hy,rfl⟩:=Zo.1 Q;exact(HF.f aG hy).nm) r;rw[<- aw.u]at aq;refine cQ aq λW5 d=>?_;have A:=mB A d;have K:=h_ (K.u.mono d);have h:=mT h d;have r:=h_ (r.mono d);obtain⟨i,n,z,J⟩:=D0 A.u;cases ag:Q5 (I0 m)
 . have c:Hi (q=Ff):=h_ (s λv=>by have:=v.f;rw[ag]at this;cases this)
   exact gP
 have aY:=h_ ag;go_wp2;go_loopw [4] (λT wr=>∃(k:Nat),k<=m.P.length/\T=Yj k/\(∀j (B:j<m.P.length),j<k->A1 m.L.length m.P[j].1=Tt/\A1 m.L.length m.P[j].2=Tt)/\Bw W5 wr) (λT _=>m.P.length - (intOf T).toNat)
 case atStart=>exact⟨0,nZ _,rfl,λj _ y=>absurd y (nL _),bR _ _⟩
 case round =>
  obtain⟨k,X,rfl,aj,f⟩:=hrel;obtain⟨W,g⟩:=oB aj f;have o:=mB A f;have E:=h_ (K.u.mono f);have D:=mT h f;obtain⟨i,n,z,J⟩:=D0 o;by_cases C:k<m.P.length
  . have ak:(k:Int)<m.P.length:=dN
    obtain⟨pb,e,rfl,-,z0,M⟩:=E.p k C;have U:Hi (Bw w wr.drew):=h_ D.drew;have V:Hi (O2 m->A1 m.L.length m.P[k].1=Tt):=h_ λv=>(v.p _ (Yt C)).1;have aE:Hi (O2 m->A1 m.L.length m.P[k].2=Tt):=h_ λv=>(v.p _ (Yt C)).2;have Z:Hi (A1 m.L.length m.P[k].1=Tt->A1 m.L.length m.P[k].2=Tt->∀j (B:j<m.P.length),j<k+1->A1 m.L.length m.P[j].1=Tt/\A1 m.L.length m.P[j].2=Tt):=h_ λg1 g2 j B y=>by
     by_cases ej:j=k
     . subst ej;exact⟨g1,g2⟩
     . exact W j B dN
    obtain⟨G,ay⟩:=Nq (m.P[k].1);obtain⟨x2,a7⟩:=Nq (m.P[k].2);rw[ay]at V Z z0;rw[a7]at aE Z M;by_cases aP:G<0
    . have c:Hi (q=Ff):=h_ (s λv=>Fq (Zj (V v)))
      generalize G=x at *;go_wp2;refine wp_region_held_drew (S:=λb=>b.cell? (zw w 0)=Sm (Sl t m.L.length H)/\b.cell? (zw w 1)=Sm (GV pb e m.P.length I)/\b.cell? (Aq pb (e+k*2))=Sm (Yj x)) dP ⟨i,n,z0⟩ (λa=>?_);refine rp ?_
      repeat refine D7 a ?_
      exact gQ
    by_cases aN:(m.L.length:Int)<=G
    . have c:Hi (q=Ff):=h_ (s λv=>Fq (Zj (V v)))
      generalize G=x at *;go_wp2;refine wp_region_held_drew (S:=λb=>b.cell? (zw w 0)=Sm (Sl t m.L.length H)/\b.cell? (zw w 1)=Sm (GV pb e m.P.length I)/\b.cell? (Aq pb (e+k*2))=Sm (Yj x)) dP ⟨i,n,z0⟩ (λa=>?_);refine tq 0 1 2 a ?_;refine tq 3 4 5 a ?_;refine F0 6 57 (Bo Ff) a ?_;refine F0 7 58 (Bo Ff) a ?_;refine tq 8 9 10 a ?_;refine tq 11 12 13 a ?_;refine tq 14 15 16 a ?_;refine F0 17 68 (Bo Tt) a ?_;refine F0 18 69 (Bo Tt) a ?_;exact gQ
    have aU:Hi (A1 m.L.length G=Tt):=h_ (jQ dN dN);go_wp2;refine wp_region_held_drew (S:=λb=>b.cell? (zw w 0)=Sm (Sl t m.L.length H)/\b.cell? (zw w 1)=Sm (GV pb e m.P.length I)/\b.cell? (Aq pb (e+k*2))=Sm (Yj G)) dP ⟨i,n,z0⟩ (λa=>?_);refine tq 0 1 2 a ?_;refine tq 3 4 5 a ?_;refine F0 6 57 (Bo Ff) a ?_;refine F0 7 58 (Bo Ff) a ?_;refine tq 8 9 10 a ?_;refine tq 11 12 13 a ?_;refine tq 14 15 16 a ?_;refine F0 17 68 (Bo Ff) a ?_;refine F0 18 69 (Bo Ff) a ?_;refine wpAnyH_done dP ?_ _;have aD:Hi (Bw wr wr.drew):=h_ (bR _ _).drew;have i:=(aD.cell (p:=Aq w.1.size 0) o.lt).trans i;have n:=(aD.cell (p:=Aq w.1.size 1) o.lt).trans n;obtain⟨b',o',a3,a5,-,bc⟩:=E.p k C;cases a3;have M:=(aD.cell (p:=(Aq pb (e+k*2+1))) a5).trans M;replace U:Hi (Bw w wr.drew.drew):=h_ U.drew;replace g:Hi (Bw W5 wr.drew.drew):=h_ g.drew.drew;obtain⟨a9,hV⟩:=Nq wr.drew;rw[hV]at i n M U g|-;by_cases aP:x2<0
    . have c:Hi (q=Ff):=h_ (s λv=>Fq (Zj (aE v)))
      generalize x2=x at *;go_wp2;refine wp_region_held_drew (S:=λb=>b.cell? (zw w 0)=Sm (Sl t m.L.length H)/\b.cell? (zw w 1)=Sm (GV pb e m.P.length I)/\b.cell? (Aq pb (e+k*2+1))=Sm (Yj x)) dP ⟨i,n,M⟩ (λa=>?_);refine tq 0 1 2 a ?_;refine tq 3 4 5 a ?_;refine F0 6 76 (Bo Tt) a ?_;refine F0 7 77 (Bo Tt) a ?_;refine l7 8 78 a ?_;refine l7 9 79 a ?_;refine l7 10 80 a ?_;refine l7 11 81 a ?_;refine l7 12 82 a ?_;refine l7 13 83 a ?_;refine l7 14 84 a ?_;refine l7 15 85 a ?_;refine l7 16 86 a ?_;refine l7 17 87 a ?_;refine F0 18 88 (Bo Tt) a ?_;exact gQ
    by_cases aN:(m.L.length:Int)<=x2
    . have c:Hi (q=Ff):=h_ (s λv=>Fq (Zj (aE v)))
      generalize x2=x at *;go_wp2;refine wp_region_held_drew (S:=λb=>b.cell? (zw w 0)=Sm (Sl t m.L.length H)/\b.cell? (zw w 1)=Sm (GV pb e m.P.length I)/\b.cell? (Aq pb (e+k*2+1))=Sm (Yj x)) dP ⟨i,n,M⟩ (λa=>?_);refine tq 0 1 2 a ?_;refine tq 3 4 5 a ?_;refine F0 6 76 (Bo Ff) a ?_;refine F0 7 77 (Bo Ff) a ?_;refine tq 8 9 10 a ?_;refine tq 11 12 13 a ?_;refine tq 14 15 16 a ?_;refine F0 17 87 (Bo Tt) a ?_;refine F0 18 88 (Bo Tt) a ?_;exact gQ
    have aV:Hi (A1 m.L.length x2=Tt):=h_ (jQ dN dN);have am:=h_ (Z aU aV);go_wp2;refine wp_region_held_drew (S:=λb=>b.cell? (zw w 0)=Sm (Sl t m.L.length H)/\b.cell? (zw w 1)=Sm (GV pb e m.P.length I)/\b.cell? (Aq pb (e+k*2+1))=Sm (Yj x2)) dP ⟨i,n,M⟩ (λa=>?_);refine tq 0 1 2 a ?_;refine tq 3 4 5 a ?_;refine F0 6 76 (Bo Ff) a ?_;refine F0 7 77 (Bo Ff) a ?_;refine tq 8 9 10 a ?_;refine tq 11 12 13 a ?_;refine tq 14 15 16 a ?_;refine F0 17 87 (Bo Ff) a ?_;refine F0 18 88 (Bo Ff) a ?_;refine wpAnyH_done dP ?_ _;refine rQ ?_;exact⟨k+1,dN,dR,am,g⟩
  obtain rfl:k=m.P.length:=dN
  have ak:¬ (m.P.length:Int)<(m.P.length:Int):=dN
  have HP:Hi (∀x,x∈m.P->A1 m.L.length x.1=Tt/\A1 m.L.length x.2=Tt):=h_ λx Q=>by
   obtain⟨j,y,rfl⟩:=Zi.1 Q;exact W j y y
  have A:=o;have K:=E;have r:=h_ (r.mono g);have h:=D;go_wp2_with fail;clear i n z J g W C ak o E D;obtain⟨W6,aM⟩:=Nq wr;rw[aM]at h K r A|-;clear aM;go_loopw [5] (λT wr=>∃(k:Nat),k<=m.R.length/\T=Yj k/\(∀j (B:j<m.R.length),j<k->A1 m.L.length m.R[j].lb=Tt)/\Bw W6 wr) (λT _=>m.R.length - (intOf T).toNat)
  case atStart=>exact⟨0,nZ _,rfl,λj _ y=>absurd y (nL _),bR _ _⟩
  case round =>
   obtain⟨k,X,rfl,aj,f⟩:=hrel;obtain⟨W,g⟩:=oB aj f;have o:=mB A f;have E:=h_ (K.u.mono f);have D:=mT h f;obtain⟨i,n,z,J⟩:=D0 o;clear aj f;by_cases C:k<m.R.length
   . have ak:(k:Int)<m.R.length:=dN
     obtain⟨pb,e,rfl,-,z0,M⟩:=E.r k C;have U:Hi (Bw w wr.drew):=h_ D.drew;have V:Hi (O2 m->A1 m.L.length m.R[k].lb=Tt):=h_ λv=>v.ro _ (Yt C);have Z:Hi (A1 m.L.length m.R[k].lb=Tt->∀j (B:j<m.R.length),j<k+1->A1 m.L.length m.R[j].lb=Tt):=h_ λg1 j B y=>by
      by_cases ej:j=k
      . subst ej;exact g1
      . exact W j B dN
     obtain⟨G,ay⟩:=Nq (m.R[k].lb);rw[ay]at V Z M;clear ay;by_cases aP:G<0
     . have c:Hi (q=Ff):=h_ (s λv=>Fq (Zj (V v)))
       generalize G=x at *;go_wp2;refine wp_region_held_drew (S:=λb=>b.cell? (zw w 0)=Sm (Sl t m.L.length H)/\b.cell? (zw w 2)=Sm (GV pb e m.R.length N)/\b.cell? (Aq pb (e+k*2+1))=Sm (Yj x)) dP ⟨i,z,M⟩ (λa=>?_);refine rp ?_
       repeat refine D7 a ?_
       exact gU
     by_cases aN:(m.L.length:Int)<=G
     . have c:Hi (q=Ff):=h_ (s λv=>Fq (Zj (V v)))
       generalize G=x at *;go_wp2;refine wp_region_held_drew (S:=λb=>b.cell? (zw w 0)=Sm (Sl t m.L.length H)/\b.cell? (zw w 2)=Sm (GV pb e m.R.length N)/\b.cell? (Aq pb (e+k*2+1))=Sm (Yj x)) dP ⟨i,z,M⟩ (λa=>?_);refine tq 0 1 2 a ?_;refine tq 3 4 5 a ?_;refine F0 6 102 (Bo Ff) a ?_;refine F0 7 103 (Bo Ff) a ?_;refine tq 8 9 10 a ?_;refine tq 11 12 13 a ?_;refine tq 14 15 16 a ?_;refine F0 17 113 (Bo Tt) a ?_;refine F0 18 114 (Bo Tt) a ?_;exact gU
     have am:=h_ (Z (jQ dN dN));replace g:Hi (Bw W6 wr.drew):=h_ g.drew;go_wp2;refine wp_region_held_drew (S:=λb=>b.cell? (zw w 0)=Sm (Sl t m.L.length H)/\b.cell? (zw w 2)=Sm (GV pb e m.R.length N)/\b.cell? (Aq pb (e+k*2+1))=Sm (Yj G)) dP ⟨i,z,M⟩ (λa=>?_);refine tq 0 1 2 a ?_;refine tq 3 4 5 a ?_;refine F0 6 102 (Bo Ff) a ?_;refine F0 7 103 (Bo Ff) a ?_;refine tq 8 9 10 a ?_;refine tq 11 12 13 a ?_;refine tq 14 15 16 a ?_;refine F0 17 113 (Bo Ff) a ?_;refine F0 18 114 (Bo Ff) a ?_;refine wpAnyH_done dP ?_ _;clear a;refine rQ ?_;exact⟨k+1,dN,dR,am,g⟩
   obtain rfl:k=m.R.length:=dN
   have ak:¬ (m.R.length:Int)<(m.R.length:Int):=dN
   have aZ:Hi (∀x,x∈m.R->A1 m.L.length x.lb=Tt):=h_ λx Q=>by
    obtain⟨j,y,rfl⟩:=Zi.1 Q;exact W j y y
   have A:=o;have K:=E;have r:=h_ (r.mono g);have h:=D;go_wp2_with fail;clear i n z J g W C ak o E D;obtain⟨W7,G⟩:=Nq wr;rw[G]at h K r A|-;clear G;go_loopw [6] (λT wr=>∃(k:Nat),k<=m.F.length/\T=Yj k/\(∀j (B:j<m.F.length),j<k->lA m.L.length m.R.length m.F[j]=Tt/\S6 (I0 m) m.F[j]=Tt)/\Bw W7 wr) (λT _=>m.F.length - (intOf T).toNat)
   case atStart=>exact⟨0,nZ _,rfl,λj _ y=>absurd y (nL _),bR _ _⟩
   case round =>
    obtain⟨k,X,rfl,aj,f⟩:=hrel;obtain⟨W,g⟩:=oB aj f;have o:=mB A f;obtain⟨E,ax⟩:=oB (K.u.mono f) (r.mono f);have D:=mT h f;clear aj f;by_cases C:k<m.F.length
    . have ak:(k:Int)<m.F.length:=dN
      obtain⟨Wr,G⟩:=Nq wr;rw[G]at g o E ax D|-;clear G;obtain⟨pb,e,rfl,G,M⟩:=E.f k C;have V:Hi (O2 m->lA m.L.length m.R.length m.F[k]=Tt/\S6 (I0 m) m.F[k]=Tt):=h_ λv=>⟨v.fi _ (Yt C),v.kn _ (Yt C)⟩;have Z:Hi (lA m.L.length m.R.length m.F[k]=Tt->S6 (I0 m) m.F[k]=Tt->∀j (B:j<m.F.length),j<k+1->lA m.L.length m.R.length m.F[j]=Tt/\S6 (I0 m) m.F[j]=Tt):=h_ λg1 g2 j B y=>by
       by_cases ej:j=k
       . subst ej;exact⟨g1,g2⟩
       . exact W j B dN
      have aK:=h_ (HF.f _ (Yt C));obtain⟨fa,T⟩:=Nq (ao k);dsimp only at G M;rw[T]at G M;obtain⟨aI,aL⟩:=oB G M;clear G M T;generalize m.F[k]=G at *;obtain⟨M,T,ai,ac,ah,aa,av,ae,au,ad⟩:=fa;have aC:=h_ (Wk G ⟨M,T,ai,ac,ah,aa,av,ae,au,ad⟩ m ⟨t,H,Y,I,ar,N,Sm (Aq pb e),O,ao⟩ Wr.drew aK (aL.mono (bR _ _).drew));unfold fV mV at aC;dsimp only at aC;have aS:Hi (∀U,Bw Wr U->Gv 24 #[.agg (Jd G M T ai ac ah aa av ae au ad),Sl an m.F.length cn] U (Bo (S6 (I0 m) G))):=h_ λU f=>by
       have B:=XV G ⟨M,T,ai,ac,ah,aa,av,ae,au,ad⟩ an cn (I0 m) U aK (by rw[<- aw.u];exact aO) (aL.mono f) (ax.mono f);rw[<- aw.u]at B;exact B
      generalize lA m.L.length m.R.length G=g1 at *;generalize S6 (I0 m) G=g2 at *;obtain⟨i,n,z,J⟩:=D0 o;go_wp2_with fail;clear i n z J;refine wp_region_held_drew (S:=λb=>j0 b w.1.size 28 (J2 t m H Y I ar N (Sm (Aq pb e)) O)/\zF b pb (e+k*9) G ⟨M,T,ai,ac,ah,aa,av,ae,au,ad⟩) dP ⟨o,aI⟩ (λa=>?_);refine rp ?_
      repeat refine D7 a ?_
      refine F0 1 123 (GV pb e m.F.length O) a ?_ (hy:=λw b=>by obtain⟨X,-,q0,q1,q2,q3,q4,q5,q6,q7,q8⟩:=b;obtain⟨-,-,-,p3⟩:=D0 X;simp[execOp,go_sem,p3])
      repeat refine D7 a ?_
      refine F0 4 126 (.agg (Jd G M T ai ac ah aa av ae au ad)) a ?_ (hy:=λw b=>by obtain⟨X,-,q0,q1,q2,q3,q4,q5,q6,q7,q8⟩:=b;simp[execOp,go_sem,q0,q1,q2,q3,q4,q5,q6,q7,q8]);refine F0 5 127 (.agg (Je t m H Y I ar N (Sm (Aq pb e)) O)) a ?_ (hy:=λw b=>by obtain⟨X,-,q0,q1,q2,q3,q4,q5,q6,q7,q8⟩:=b;obtain⟨p0,p1,p2,p3⟩:=D0 X;simp[execOp,go_sem,p0,p1,p2,p3]);refine jA 6 128 aC λU B=>?_;have B:=M7 B;have aA:=h_ B;replace a:j0 U w.1.size 28 (J2 t m H Y I ar N (Sm (Aq pb e)) O)/\zF U pb (e+k*9) G ⟨M,T,ai,ac,ah,aa,av,ae,au,ad⟩:=⟨o.mono B o.lt,aI.mono B⟩;clear B;refine⟨a,?_⟩;refine t6 ?_;have aH:Hi (Bw w U):=h_ (D.trans (aA.mono D.size));have aQ:Hi (Bw W7 U):=h_ (g.trans (aA.mono g.size));cases g1
      . have c:Hi (q=Ff):=h_ (s λv=>by have:=(V v).1;cases this)
        repeat refine D7 a ?_
        refine wpAnyH_done dP ?_ _;clear a;go_wp2;go_ret;exact⟨O1 c.symm,aH⟩
      repeat refine D7 a ?_
      refine F0 10 132 (GV pb e m.F.length O) a ?_ (hy:=λw b=>by obtain⟨X,-,q0,q1,q2,q3,q4,q5,q6,q7,q8⟩:=b;obtain⟨-,-,-,p3⟩:=D0 X;simp[execOp,go_sem,p3])
      repeat refine D7 a ?_
      refine F0 13 135 (.agg (Jd G M T ai ac ah aa av ae au ad)) a ?_ (hy:=λw b=>by obtain⟨X,-,q0,q1,q2,q3,q4,q5,q6,q7,q8⟩:=b;simp[execOp,go_sem,q0,q1,q2,q3,q4,q5,q6,q7,q8])
      repeat refine D7 a ?_
      have aT:=aS U aA;refine jA 15 137 (aT) λB b=>?_;have aB:Hi (Bw w B):=mT aH b;have aR:Hi (Bw W7 B):=mT aQ b;replace a:j0 B w.1.size 28 (J2 t m H Y I ar N (Sm (Aq pb e)) O)/\zF B pb (e+k*9) G ⟨M,T,ai,ac,ah,aa,av,ae,au,ad⟩:=⟨a.1.mono b a.1.lt,a.2.mono b⟩;clear b;refine⟨a,?_⟩;refine t6 ?_;cases g2
      . have c:Hi (q=Ff):=h_ (s λv=>by have:=(V v).2;cases this)
        repeat refine D7 a ?_
        refine wpAnyH_done dP ?_ _;clear a;go_wp2;go_ret;exact⟨O1 c.symm,aB⟩
      have am:=h_ (Z rfl rfl)
      repeat refine D7 a ?_
      refine wpAnyH_done dP ?_ _;clear a;refine rQ ?_;exact⟨k+1,dN,dR,am,aR⟩
    obtain rfl:k=m.F.length:=dN;have ak:¬ (m.F.length:Int)<(m.F.length:Int):=dN;have c:Hi (O2 m):=h_ ⟨dN,dN,dN,dN,aW,aX,aY,HP,aZ,λx Q=>by
     obtain⟨j,y,rfl⟩:=Zi.1 Q;exact(W j y y).1,λx Q=>by
     obtain⟨j,y,rfl⟩:=Zi.1 Q;exact(W j y y).2⟩
    have a:=h_ (jW m ⟨t,H,Y,I,ar,N,af,O,ao⟩ wr HF c E);have j:Hi (q=decide ((cT m).length<=30000)):=h_ (a0 c);obtain⟨T,e⟩:∃T:Tb,⟨(cT m).toArray⟩=T:=⟨_,rfl⟩;have v:T.size=(cT m).length:=(by rw[<- e];rfl);have x:(cT m).length<=3714016:=(by rw[<- IJ];exact uI c _);rw[<- v]at j x;rw[e]at a;unfold mV at a;dsimp only at a;clear e v;obtain⟨i,n,z,J⟩:=D0 o;go_wp2_with fail;refine cQ a λB b=>?_;have aB:Hi (Bw w B):=mT D b;clear b;have b:Hi (q=decide ((T.size:Int)<=30000)):=h_ (by rw[j.u];exact decide_eq_decide.2 dN);go_wp2;go_ret;exact⟨O1 b.symm,aB⟩
def up {α:Type}(f:Nat->α)(j:Nat)(v:α):Nat->α:=λi=>if i=j then v else f i
theorem E9 {D}(f j)(v:D):up f j v j=v:=Y4 rfl
theorem V7 {D}(f){i j}(v:D)(h:i≠j):up f j v i=f i:=Ys h
def mN {D}(g:D->Value)(f n j v):((List.range n).map λk=>g (f k)).set j (g v)=(List.range n).map λk=>g (up f j v k):=by refine List.ext_getElem dQ λi a b=>?_;simp only[List.length_set,Zr,List.length_range]at a;rw[List.getElem_set];simp only[G4,List.getElem_range];by_cases e:j=i;{subst e;rw[Y4 rfl,E9]};rw[Ys e,V7 f v (λh=>e h.symm)]
def zs (n:Nat)(f:Nat->Int):Tl:=(List.range n).map λk=>.int .i64 (f k)
def tL {n i}(f)(h:i<n):(zs n f)[i]? = Sm (Yj (f i)):=by grind[zs]
theorem OP {n j}(f v):(zs n f).set j (Yj v)=zs n (up f j v):=mN (λx=>Yj x) f n j v
theorem pM {n f g}(h:∀i,i<n->f i=g i):zs n f=zs n g:=Vn λi X=>by rw[h i (Va.1 X)]
def Pv {X w w' base n k e v xs}(h:w.ownsRow base e k v n xs)(b:B7 X w w')(r:∀a,X a->a<base):w'.ownsRow base e k v n xs:=by refine⟨h.1,?_⟩;rcases h.2 with i|⟨g,q,p,j,c,H,d⟩;{exact .inl i};exact .inr ⟨g,q,p,j,c,b.same g p e _ (λa=>Fq (r g a)) H,d⟩
def GO {w w' base n k e v xs}(h:w.ownsRow base e k v n xs)(c:Bw w w'):w'.ownsRow base e k v n xs :=
 h.kept (row:=Nn) ⟨c.os,c.tape,c.output,c.size,λb a _=>c.block b a⟩ (Classical.em _)
structure Q6 (w:Tw)(base n:Nat)(V:Nat->Value)(L:Nat->List Nat):Prop where
 own:∀j,j<n->w.ownsRow base 3 1 (V j) (L j).length (ui (L j))
 apart:∀i j,i<n->j<n->i≠j->(V i).ownBlock=Nn\/(V i).ownBlock≠(V j).ownBlock
def Q6.mono {w w' base n V L}(h:Q6 w base n V L)(c:Bw w w'):Q6 w' base n V L:=⟨λj y=>GO (h.own j y) c,h.apart⟩
def Q6.keep {X w w' base n V L}(h:Q6 w base n V L)(a:B7 X w w')(r:∀k,X k->k<base):Q6 w' base n V L:=⟨λj y=>Pv (h.own j y) a r,h.apart⟩
def Q6.none (w:Tw)(base n:Nat):Q6 w base n (λ_=>Sl Nn 0 0) (λ_=>[]):=⟨λ_ _=>World.ownsRow_nil _ _ _ _,λ_ _ _ _ _=>.inl rfl⟩
def Q6.sub {w base n k V L}(h:Q6 w base n V L)(G:k<=n):Q6 w base k V L:=⟨λj y=>h.own j dN,λi j X y=>h.apart i j dN dN⟩
def Q6.congr {w base n V A L o}(h:Q6 w base n V L)(e:∀j,j<n->A j=V j)(E:∀j,j<n->o j=L j):Q6 w base n A o :=
 ⟨λj y=>by rw[e j y,E j y];exact h.own j y,λi j X y F=>by rw[e i X,e j y];exact h.apart i j X y F⟩
def PP {w:Tw}{base n i k e v xs}(h:w.ownsRow base e i v n xs)(a:k ≥ w.1.size):v.ownBlock≠Sm k:=λe=>by have:=(h.lt k e).2;omega
def Q6.snoc {w w' base n V L v l}(h:Q6 w base n V L)(c:Bw w w')(S:base<=w.1.size)(Z:w'.ownsRow w.1.size 3 1 v l.length (ui l)):Q6 w' base (n+1) (up V n v) (up L n l):=by have t:w'.ownsRow base 3 1 v l.length (ui l):=(by refine⟨Z.1,?_⟩;rcases Z.2 with b|⟨g,q,p,j,c,r⟩;{exact .inl b};exact .inr ⟨g,q,p,j,dN,r⟩);refine⟨λa y=>?_,λi a X y F=>?_⟩;{by_cases e:a=n;{subst e;rw[E9,E9];exact t};rw[V7 _ _ e,V7 _ _ e];exact GO (h.own a dN) c};have r:∀i,i<n->(V i).ownBlock=Option.none\/(V i).ownBlock≠v.ownBlock:=λi X=>(by cases g:(V i).ownBlock with|none=>exact .inl rfl|some q=>refine .inr λd=>?_;have j:=((h.own i X).lt q g).2;have b:=(Z.lt q d.symm).1;omega);by_cases s:i=n;{subst s;rw[E9,V7 _ _ (λe=>F e.symm)];rcases r a dN with j|j;{rw[j];cases v.ownBlock with|none=>exact .inl rfl|some q=>exact .inr dQ};exact .inr λe=>j e.symm};rw[V7 _ _ s];by_cases q:a=n;{subst q;rw[E9];exact r i dN};rw[V7 _ _ q];exact h.apart i a dN dN F
def Q6.add {w w' base n j x V L v}(h:Q6 w base n V L)(y:j<n)(Z:w'.ownsRow base 3 1 v (L j++[x]).length (ui (L j++[x])))(H:w.grownBy w' (V j).ownBlock)(p:v.ownBlock=(V j).ownBlock\/v.ownBlock=Sm w.1.size):Q6 w' base n (up V j v) (up L j (L j++[x])):=by refine⟨λi X=>?_,λi a X R F=>?_⟩;{by_cases e:i=j;{subst e;rw[E9,E9];exact Z};rw[V7 _ _ e,V7 _ _ e];exact(h.own i X).kept H (h.apart i j X y e)};by_cases e:i=j;{subst e;rw[E9,V7 _ _ (λe=>F e.symm)];rcases p with c|c;{rw[c];exact h.apart i a X R F};exact .inr λb=>PP (h.own a R) (nR _) (b.symm.trans c)};rw[V7 _ _ e];by_cases P:a=j;{subst P;rw[E9];rcases p with c|c;{rw[c];exact h.apart i a X R F};exact .inr λb=>PP (h.own i X) (nR _) (b.trans c)};rw[V7 _ _ P];exact h.apart i a X R F
def F9 (w:Tw)(F n:Nat)(V:Nat->Value):Prop:=j0 w F 51 ((List.range n).map V)
def F9.at {w F n j V}(h:F9 w F n V)(y:j<n):w.cell? (Aq F j)=Sm (V j):=by have:=j0.cell h j;rw[this];simp[y]
def F9.congr {w F n V A}(h:F9 w F n V)(e:∀j,j<n->A j=V j):F9 w F n A:=by unfold F9;rw[Vn λj y=>e j (Va.1 y)];exact h
def qm9 {w w' base F n N j x V L v}(K:F9 w F n V)(D:F<base)(h:Q6 w base N V L)(y:j<N)(Z:w'.ownsRow base 3 1 v (L j++[x]).length (ui (L j++[x])))(H:w.grownBy w' (V j).ownBlock)(p:v.ownBlock=(V j).ownBlock\/v.ownBlock=Sm w.1.size):F9 (w'.setCell (Aq F j) v) F n (up V j v)/\Q6 (w'.setCell (Aq F j) v) base N (up V j v) (up L j (L j++[x])):=by constructor;{have b:j0 w' F 51 ((List.range n).map V):=j0.grown K H (λe=>Fq (((h.own j y).lt F e.symm).1));have i:=b.set j v;rw[show((List.range n).map V).set j v=(List.range n).map λk=>up V j v k from mN (λx=>x) V n j v]at i;exact i};exact(h.add y Z H p).keep (X:=λb=>b=F) (B7.set (a:=Aq F j) v rfl) (λk b=>by omega)
def At {W w w' base F j n v u xs}(c:Below F W w)(f:F<base)(D:F<w.1.size)(Z:w.ownsRow base 3 1 u n xs)(H:w.grownBy w' u.ownBlock):Below F W (w'.setCell (Aq F j) v) :=
 (c.grown H (Nat.le_of_lt D) (λq e=>Fq ((Z.lt q e).1))).setCell (p:=Aq F j) (nR _) v
def yC (m:Fm)(k i j:Nat):List Nat:=C5 m k j++List.replicate (((N6 m k).take i).count j) k
def Mz (m k):yC m k 0=C5 m k:=by grind[yC]
def Iz (m k):yC m k (N6 m k).length=C5 m (k+1):=by grind[yC,N6,C5,qS]
def gV(h:P:=by rw[V7 _ _ e,List.count_singleton,Ys (by simpa using λh=>e h.symm),Z2]):P:=h
def Lz {m k i}(h:i<(N6 m k).length):yC m k (i+1)=up (yC m k i) (N6 m k)[i] (yC m k i (N6 m k)[i]++[k]):=by funext j;unfold yC;rw[Yx h,List.count_append];by_cases e:j=(N6 m k)[i];{subst e;rw[E9,List.count_singleton_self,V8,List.replicate_succ']};exact gV
def VH {l}(h:E1 l=Tt):l.length<=1000:=by unfold E1 at h;rw[Vi]at h;rcases h with h|h;{have:=Zj h;omega};unfold jF at h;exact((JK _ _).1 h).2.1
def lM {m}(h:O2 m){k}(n:k<m.F.length):(N6 m k).length<=2000:=by have U:=(LH _ _ _).1 (h.fi _ (Yt n));have j:=VH U.i;have a:=VH U.h;have D:∀l,(m6 (I0 m) l).length<=l.length:=λl=>(by unfold m6;rw[Zr];exact List.length_filter_le _ _);have d:=D m.F[k].is;have Q:=D m.F[k].wh;unfold N6;rw[UC n,Yn];omega
def mM {m}(h:O2 m)(j):∀k,k<=m.F.length->(C5 m k j).length<=k*2000:=by intro k;induction k with|zero=>intro _;simp[Nz]|succ k c=>intro n;have b:=lM h (show k<m.F.length by omega);have i:=Gp (a:=j) (l:=N6 m k);rw[qS,Yn,List.length_replicate];omega
def qir {m}(h:O2 m){k}(n:k<m.F.length)(i j):(yC m k i j).length<=402000:=by have b:=mM h j k dN;have c:=Gp (a:=j) (l:=(N6 m k).take i);have D:=lM h n;have d:=h.nf;have Q:((N6 m k).take i).length<=(N6 m k).length:=List.length_take_le' _ _;unfold yC;rw[Yn,List.length_replicate];omega
def wE (L:Nat->List Nat)(j i:Nat):Nat:=((List.range j).map λp=>(L p).count i).sum
def Ky (L i):wE L 0 i=0:=rfl
theorem FY (L j i):wE L (j+1) i=wE L j i+(L j).count i:=by unfold wE;rw[Vr];simp
def NA (L:Nat->List Nat)(j p i:Nat):Nat:=wE L j i+((L j).take p).count i
def Ny (L j):NA L j 0=wE L j:=by grind[NA]
def Ly (L j):NA L j (L j).length=wE L (j+1):=by grind[NA,wE,FY]
theorem My {L j p}(h:p<(L j).length)(i):NA L j (p+1) i=up (NA L j p) (L j)[p] (NA L j p (L j)[p]+1) i:=by unfold NA;rw[Yx h,List.count_append];by_cases e:i=(L j)[p];{subst e;rw[E9,List.count_singleton_self];omega};exact gV
def Iy {m}(h:O2 m){i}(hi:i<m.F.length):((wE (C5 m m.F.length) m.F.length i:Nat):Int)=T8 m [] i:=by rw[Px];unfold wE;rw[Vn (λp _=>by rw[WR,Y4 hi]),qgr _ _ (zT h hi)]
def qoi {L B}(E:∀j,(L j).length<=B)(i):∀j,wE L j i<=j*B:=by intro j;induction j with|zero=>simp[Ky]|succ j b=>have:=Gp (a:=i) (l:=L j);have:=E j;rw[FY,Ob];omega
def JA (m:Fm)(D:List Nat)(x p k:Nat):Int:=T8 m D k - (if k=x then 1 else 0) - ((C5 m m.F.length x).take p).count k
def Mx (m D x k):up (T8 m D) x (T8 m D x - 1) k=JA m D x 0 k:=by grind[JA,up]
def Fx {m D x p}(h:p<(C5 m m.F.length x).length)(k):up (JA m D x p) (C5 m m.F.length x)[p] (JA m D x p (C5 m m.F.length x)[p] - 1) k=JA m D x (p+1) k:=by unfold JA;rw[Yx h,List.count_append];by_cases e:k=(C5 m m.F.length x)[p];{subst e;rw[E9,List.count_singleton_self];omega};have v:((C5 m m.F.length x)[p]==k)=Ff:=Yp.2 λh=>e h.symm;rw[V7 _ _ e,List.count_singleton,v];simp
def Ex {m D x k}(r:x ∉ D)(n:k<m.F.length):JA m D x (C5 m m.F.length x).length k=T8 m (D++[x]) k:=by grind[JA,C5,T8,CS,WR]
def wV (m:Fm)(A:MA)(b:Nat):Value:=.agg #[Sl A.l m.L.length A.lc,Sl A.p m.P.length A.pc,Sl A.r m.R.length A.rc,Sl A.f m.F.length A.fc,.map (Sm b)]
section
variable {md:Region.Mode} {ops:Array Oper} {Q:Exit->Act->Tw->Prop} {S:Tw->Prop} {o:Oper} {a:Act} {fuel:Nat} {listed:Array Bool} {i:Nat} {w w':Tw}
def Ij {v}(d)(hi:ops[i]? = Sm o)(e:o.dst=Sm d)(f:Region.wanted o (yielded ops a.tmps)=Tt)(E:Region.ready md ops listed=[i])
 (I:(execOp a.eval o).run prog w=.ok (.value v) w') (U:S w') (h:wpAnyH prog md ops Q S fuel (listed.setIfInBounds i Tt) { tmps:=a.tmps.setIfInBounds d v,defers:=a.defers } w'):wpAnyH prog md ops Q S (fuel+1) listed a w :=
 wpAnyH_ready E dQ (A9 d hi e f I U h AllReadyH.nil)
end
def Rq (m:Fm)(A b k w)(Y:k<m.F.length)(W:R0 w m A):GZ 263 #[wV m A b,Yj k] w λr w'=>∃g,r=Rt (GX g 2 2)/\j0 w' g 52 [Sl (A.fa k).i m.F[k].is.length (A.fa k).ic,Sl (A.fa k).h m.F[k].wh.length (A.fa k).hc]/\Bw w w':=by obtain⟨G,H,I,J,ar,N,B,p,D⟩:=A;unfold wV;dsimp only;obtain⟨E,ae,e,d⟩:=S7 w 151 #[Sl G m.L.length H,Sl I m.P.length J,Sl ar m.R.length N,Sl B m.F.length p,.map (Sm b)];have K:=h_ (W.mono d.u);obtain⟨pb,l,t,⟨X,-,-,-,-,r,y,-⟩,-⟩:=K.f k Y;dsimp only at t r y;subst t;obtain⟨-,-,-,y3,-⟩:=j4 e.u;generalize m.F[k]=f at *;generalize D k=O at *;obtain⟨ab,aa,g,j,x,M,av,ad,au,ac⟩:=O;dsimp only at r y|-;go_enter func263,ntmps263;go_wp2;refine wp_region_held_drew (S:=λw'=>w'.cell? (zw w 3)=Sm (GV pb l m.F.length p)/\w'.cell? (Aq pb (l+k*9+4))=Sm (Sl g f.is.length j)/\w'.cell? (Aq pb (l+k*9+5))=Sm (Sl x f.wh.length M)) dP ⟨y3,r,y⟩ (λc=>?_);refine rp ?_;(repeat refine D7 c ?_);have q:Hi (Bw E E.drew):=h_ (bR _ _).drew;have e:=h_ (e.u.mono q e.u.lt);have d:=h_ (d.u.trans (q.mono d.u.size));have T:pb<E.drew.1.size:=X;obtain⟨V,U⟩:=Nq E.drew;rw[U]at e d c T|-;obtain⟨C,s⟩:=oB ((bR V.1.size V).alloc (nR _) (Cl #[Sl g f.is.length j,Sl x f.wh.length M] 52)) (j0.new V 52 #[Sl g f.is.length j,Sl x f.wh.length M]);obtain⟨n,z⟩:=Nq (V.alloc (Cl #[Sl g f.is.length j,Sl x f.wh.length M] 52));have Z:V.alloc (Cl #[Sl g f.is.length j,Sl x f.wh.length M] 52)=n:=z;rw[z]at C s;replace c:n.cell? (zw w 3)=Sm (GV pb l m.F.length p)/\n.cell? (Aq pb (l+k*9+4))=Sm (Sl g f.is.length j)/\n.cell? (Aq pb (l+k*9+5))=Sm (Sl x f.wh.length M):=⟨(C.cell e.u.lt).trans c.1,(C.cell T).trans c.2.1,(C.cell T).trans c.2.2⟩;refine Ij (i:=14) (v:=Sl (Sm (zw V 0)) 2 2) (w':=n) 19 rfl rfl dV dP (by simp[execOp,go_sem,Z]) c ?_;refine t6 ?_;(repeat refine D7 c ?_);refine S3 ?_;go_wp2;go_ret;exact⟨_,rfl,s,d.u.trans (C.mono d.u.size)⟩
def qfa (m A b w):GZ 261 #[wV m A b] w λr w'=>r=Rt (.func (.func 294) #[] #[Ym w.1.size 0])/\j0 w' w.1.size 151 [Sl A.l m.L.length A.lc,Sl A.p m.P.length A.pc,Sl A.r m.R.length A.rc,Sl A.f m.F.length A.fc,.map (Sm b)]/\Bw w w':=by obtain⟨t,H,K,I,ar,N,c,d,g⟩:=A;unfold wV;dsimp only;obtain⟨e,h⟩:=oB (j0.new w 151 #[Sl t m.L.length H,Sl K m.P.length I,Sl ar m.R.length N,Sl c m.F.length d,.map (Sm b)]) ((bR w.1.size w).alloc (nR _) (Cl #[Sl t m.L.length H,Sl K m.P.length I,Sl ar m.R.length N,Sl c m.F.length d,.map (Sm b)] 151));go_enter func261,ntmps261;go_wp2;go_ret;exact⟨rfl,e,h⟩
def Hd {l k}(h:k<l.length):nf l k∈l:=by grind[nf]
def qs7 {B l k}(h:k<l.length)(h1:(nf l k).op=1):m6 B (l.take (k+1))=m6 B (l.take k)++[TE B (nf l k).nm]:=by rw[FG l k h]at h1|-;unfold m6;rw[Yx h,List.filter_append,Zz];simp[h1]
def qfx {B l k}(h:k<l.length)(h1:¬ (nf l k).op=1):m6 B (l.take (k+1))=m6 B (l.take k):=by rw[FG l k h]at h1;unfold m6;rw[Yx h,List.filter_append,Zz];simp[h1]
def Hp (B l k):(m6 B (l.take k)).length<=(m6 B l).length:=by unfold m6;rw[Zr,Zr];exact((List.take_sublist k l).filter _).length_le
def MY {B}{rs:List (List Nx)}{k}(h:k<rs.length):(rs.take (k+1)).flatMap (m6 B)=(rs.take k).flatMap (m6 B)++m6 B rs[k]:=by rw[Yx h,Vo];simp
def Rz {B}{rs:List (List Nx)}{k}(h:k<rs.length):((rs.take k).flatMap (m6 B)).length+(m6 B rs[k]).length<=(rs.flatMap (m6 B)).length:=by rw[<- Yn,<- MY h];(conv=>rhs;rw[<- Vu (k+1) rs,Vo,Yn]);omega
def qnq {B}(G:B.Nodup){x}(r:x∈B)(z):(mp B).atKey (kl x) z=.lit (.int .i64 ((TE B x:Nat):Int)):=by grind[TE,mp,kl,DV,tM,NS]
def qqa {D z:DataW Unit}{k G x}(h1:D.atKey k z=.lit (.int .i64 G))(i:D.atKey k z=.lit (.int .i64 x)):G=x:=by grind
def Rn (base l)(x:Nat)(v w)(Z:w.ownsRow base 3 1 v l.length (ui l))(P:l.length<=1000000)(c:base<=w.1.size):GZ 264 #[v,Yj x] w λr k=>∃U,r=Rt U/\k.ownsRow base 3 1 U (l++[x]).length (ui (l++[x]))/\Below base w k:=by obtain⟨d,X,j,A,i⟩:=info_parts qB;have p:=h_ Z;go_enter func264,ntmps264;go_wp2_with (at_builtin;refine wpList_append_own _ rfl _ _ 51 rfl base 3 d _ 1 8 underlying51 X j A i rfl dN _ _ _ rfl (p.alloc _) (zw w 0) 1 1 [Yj x] rfl rfl (xK w 3 _) dT dY dN dS ?_;intro U a t N _);have T:Hi (a.ownsRow base 3 1 U (l++[x]).length (ui (l++[x]))):=h_ (by simpa [ui] using t);have B:=h_ (((bR base w).alloc c (Cl #[Yj x] 3)).grown N dS (λE e=>C8 p e));go_ret;exact⟨U,rfl,T,B⟩
def lX {F gf x}(E:F=262/\gf=264/\x=[]\/(∃d A,F=265/\gf=266/\x=[Ym d 0,Ym A 0])\/∃d,F=265/\gf=266/\x=[Ym d 0])(J:List Nat->Value->Tw->Prop)(g c b)(R:Nat->To)(RC:Nat->Nat)(rs:List (List Nx))(B K w)(H:g<w.1.size)(hn:rs.length<=1000) (h:∀k (e:k<rs.length),w.cell? (Aq g k)=Sm (Sl (R k) rs[k].length (RC k))/\rs[k].length<=1000000/\CA w (R k) rs[k]/\(∀i,i<rs[k].length->EA (nf rs[k] i))/\V5 B rs[k]=Tt) (j:B.Nodup) (Q:F5 w b B) (a:∀X v W Y,J X v W->Bw W Y->J X v Y) (l:∀X f v W,Bw w W->J X v W->f<B.length->X.length<(rs.flatMap (m6 B)).length->GZ gf (v :: Yj (f:Nat) :: x).toArray W λr Y=>∃m,r=Rt m/\J (X++[f]) m Y/\Below w.1.size W Y) (I:J [] K w):GZ F #[GX g rs.length c,.map (Sm b),K,.func (.func gf) #[] x.toArray] w λr n=>∃v,r=Rt v/\J (rs.flatMap (m6 B)) v n/\Bw w n:=by obtain⟨N,HM,V,HS,L,S⟩:=oF h Q a l I H;have P:=h_ j;clear h Q a l I j H;rcases E with ⟨rfl,rfl,rfl⟩|⟨d,A,rfl,rfl,rfl⟩|⟨d,rfl,rfl,rfl⟩;(case' inl=>go_enter func262,ntmps262);(case' inr.inl=>go_enter func265,ntmps265);(case' inr.inr=>go_enter func265,ntmps265);all_goals go_wp2;go_loopw [2,15] (λv i wr=>∃k:Nat,k<=rs.length/\i=Yj k/\J ((rs.take k).flatMap (m6 B)) v wr/\Bw w wr) (λ_ i _=>rs.length - (intOf i).toNat);exact⟨0,nZ _,rfl,L,bR _ _⟩;obtain⟨k,hk,rfl,y,a⟩:=hrel;obtain⟨o,h⟩:=oB y a;clear y a;by_cases t:k<rs.length;{have ah:(k:Int)<rs.length:=dN;obtain⟨j,al,l,Y,O⟩:=N k t;have H:=(h.cell (p:=Aq g k) S).trans j;obtain⟨HN,HF,W⟩:=oC l Y O;have HT:Hi ((rs.take (k+1)).flatMap (m6 B)=(rs.take k).flatMap (m6 B)++m6 B rs[k]):=h_ (MY t);have ab:Hi (((rs.take k).flatMap (m6 B)).length+(m6 B rs[k]).length<=(rs.flatMap (m6 B)).length):=h_ (Rz t);clear j l Y O;generalize (rs.take k).flatMap (m6 B)=X at *;generalize rs[k]=l at *;generalize R k=ak at *;generalize RC k=ac at *;go_wp2;go_loopw [2,21] (λv i U=>∃q:Nat,q<=l.length/\i=Yj q/\J (X++m6 B (l.take q)) v U/\Bw w U) (λ_ i _=>l.length - (intOf i).toNat);exact⟨0,nZ _,rfl,by have e:=o.u;simpa [m6] using e,h⟩;clear o h H;obtain⟨q,E,rfl,y,a⟩:=hrel;obtain⟨Z,h,I,ad⟩:=oD y a (HN.mono a) (HM.mono a);clear y a;by_cases e:q<l.length;{have ai:(q:Int)<l.length:=dN;obtain⟨pb,po,rfl,-,H,z1,z2,z3,z4⟩:=I q e;have s:Hi ((nf l q).op=1->m6 B (l.take (q+1))=m6 B (l.take q)++[TE B (nf l q).nm]/\(nf l q).nm∈B):=h_ λj=>⟨qs7 e j,uS W (Hd e) j⟩;have T:Hi (¬ (nf l q).op=1->m6 B (l.take (q+1))=m6 B (l.take q)):=h_ λj=>qfx e j;have ae:Hi ((m6 B (l.take (q+1))).length<=(m6 B l).length):=h_ (Hp B l (q+1));have O:=h_ (HF q e);generalize nf l q=n at *;obtain⟨Wd,a,aa,G⟩:=S7 wr 132 (Ji n);obtain⟨i,Q,z⟩:=oC (h.trans (G.u.mono h.size)) (ad.mono G.u) (V _ _ _ _ Z G.u);obtain⟨x0,x1,x2,x3,x4⟩:=j4 aa.u;by_cases j:n.op=1;{have af:(n.op != 1)=Ff:=(by rw[j];rfl);have ag:(n.op==1)=Tt:=fH;obtain⟨C,v⟩:=s j;have y:=h_ C;have M:Hi ((mp B).atKey (kl n.nm) (.lit (.int .i64 0))=.lit (.int .i64 ((TE B n.nm:Nat):Int))):=h_ (qnq P v _);have aj:=tM v;clear j C v s T;generalize TE B n.nm=f at *;have v:Hi (keyOf prog 9 (St n.nm)=Sm (kl n.nm)):=h_ (WideMaps.keyOf_string_mk underlying9 O.2.1);have Y:=h_ (HS _ f _ Wd i z aj (by have:=ab.u;have:=ae.u;rw[y.u,Yn]at this;rw[Yn];simp at this;omega));go_wp2_with (at_lookup;refine wpList_lookup_own_int _ rfl _ _ 59 rfl 9 3 .i64 (Maps.string_keyed underlying9) underlying59 underlying3 (Tryz.zeroValue3 _) b B.length (mp B) rfl (by first|exact Q|(rw[a];exact Q)) _ _ rfl v ?_;intro pc C _;obtain rfl:=qqa C M;clear C);(try rw[a]);clear a Q v;refine Y.mono ?_;rintro r Q ⟨m,rfl,D,C⟩;have U:Hi (J (X++m6 B (l.take (q+1))) m Q):=h_ (by rw[y.u,<- V8];exact D);have v:=h_ (i.trans C);clear D C Y;go_wp2;go_roundw;{first|exact⟨q+1,dN,dR,U.u,v⟩|((repeat apply Exists.intro);exact⟨⟨q+1,dN,dR,U.u,v⟩,rfl⟩)};exact kq};have af:(n.op != 1)=Tt:=(by simp[j]);have ag:(n.op==1)=Ff:=(by simp[j]);have U:=z;rw[<- T.u j]at U;clear j s T;go_wp2_with fail;(try rw[a]);clear a;go_roundw;{first|exact⟨q+1,dN,dR,U.u,i⟩|((repeat apply Exists.intro);exact⟨⟨q+1,dN,dR,U.u,i⟩,rfl⟩)};exact kq};obtain rfl:q=l.length:=dN;have ai:¬ (l.length:Int)<(l.length:Int):=dN;have U:=Z;rw[Zn (nR _),<- HT.u]at U;go_wp2;go_roundw;{first|exact⟨k+1,dN,dR,U.u,h⟩|((repeat apply Exists.intro);exact⟨⟨k+1,dN,dR,U.u,h⟩,rfl⟩)};exact kq};obtain rfl:k=rs.length:=dN;have ah:¬ (rs.length:Int)<(rs.length:Int):=dN;have U:=o;rw[Zn (nR _)]at U;go_wp2;go_ret;exact⟨_,rfl,U.u,h⟩
def Fu (m A b g k w)(a:O2 m)(N:l6 m)(n:k<m.F.length)(j:R0 w m A)(o:F5 w b (I0 m))(d:j0 w g 52 [Sl (A.fa k).i m.F[k].is.length (A.fa k).ic,Sl (A.fa k).h m.F[k].wh.length (A.fa k).hc]):GZ 262 #[GX g 2 2,.map (Sm b),Yk,.func (.func 264) #[] #[]] w λr e=>∃v,r=Rt v/\e.ownsRow w.1.size 3 1 v (N6 m k).length (ui (N6 m k))/\Bw w e:=by have U:=(LH _ _ _).1 (a.fi _ (Yt n));have Q:=N.f _ (Yt n);have O:=a.knw n;obtain⟨pb,t,-,-,P⟩:=j.f k n;have l:N6 m k=[m.F[k].is,m.F[k].wh].flatMap (m6 (I0 m)):=(by unfold N6;rw[UC n];simp);rw[UC n]at O;have u:=lM a n;rw[l]at u|-;refine lX (.inl ⟨rfl,rfl,rfl⟩) (λX v W=>W.ownsRow w.1.size 3 1 v X.length (ui X)/\w.1.size<=W.1.size) g 2 b (λi=>if i=0 then (A.fa k).i else (A.fa k).h) (λi=>if i=0 then (A.fa k).ic else (A.fa k).hc) [m.F[k].is,m.F[k].wh] (I0 m) Yk w d.lt dQ ?_ a.nod o ?_ ?_ ⟨World.ownsRow_nil _ _ _ _,nR _⟩ |>.mono ?_;{intro i c;have h:=VH U.i;have p:=VH U.h;obtain rfl|rfl:i=0\/i=1:=(by simp at c;omega);{exact⟨d.cell 0,by show m.F[k].is.length<=_;omega,P.i,Q.i,O.1⟩};exact⟨d.cell 1,by show m.F[k].wh.length<=_;omega,P.h,Q.h,O.2.1⟩};{rintro X v W Y ⟨h,J⟩ c;exact⟨h.kept (row:=Nn) ⟨c.os,c.tape,c.output,c.size,λk n _=>c.block k n⟩ (Classical.em _),Y9 J c.size⟩};{rintro X x v W c ⟨h,J⟩ s q;refine(Rn w.1.size X x v W h dN J).mono ?_;rintro r Y ⟨p,rfl,Z,i⟩;exact⟨p,rfl,⟨Z,Y9 J i.size⟩,i⟩};rintro r e ⟨v,rfl,⟨h,-⟩,c⟩;exact⟨v,rfl,h,c⟩
end
section
open Go Go.Proofs.Tryz
structure R8 (N:Nat)(le:Nat->Nat->Prop)(jn:Nat->Nat->Nat)(bot:Nat):Prop where
 refl:∀a,a<N->le a a
 trans:∀a b c,a<N->b<N->c<N->le a b->le b c->le a c
 anti:∀a b,a<N->b<N->le a b->le b a->a=b
 bl:bot<N
 bot:∀a,a<N->le bot a
 jl:∀a b,a<N->b<N->jn a b<N
 j1:∀a b,a<N->b<N->le a (jn a b)
 j2:∀a b,a<N->b<N->le b (jn a b)
 j3:∀a b c,a<N->b<N->c<N->le a c->le b c->le (jn a b) c
section
variable {N:Nat} {le:Nat->Nat->Prop} {jn:Nat->Nat->Nat} {bot:Nat}
def R8.fold_lt (L:R8 N le jn bot):∀(v:List Nat) (a:Nat),a<N->(∀x,x∈v->x<N)->v.foldl jn a<N:=by intro v;induction v with|nil=>intro a w _;exact w|cons x v b=>intro a w h;exact b (jn a x) (L.jl a x w (h x Zq)) λy n=>h y (Zy _ n)
def R8.fold_ge (L:R8 N le jn bot):∀(v:List Nat) (a:Nat),a<N->(∀x,x∈v->x<N)->le a (v.foldl jn a)/\∀x,x∈v->le x (v.foldl jn a):=by intro v;induction v with|nil=>intro a w _;exact⟨L.refl a w,λx r=>by cases r⟩|cons x v c=>intro a w h;have r:=h x Zq;have b:=L.jl a x w r;have Y:∀y,y∈v->y<N:=λy n=>h y (Zy _ n);obtain⟨s,T⟩:=c (jn a x) b Y;have P:=L.fold_lt v (jn a x) b Y;refine⟨L.trans _ _ _ w b P (L.j1 a x w r) s,λy n=>?_⟩;rcases Zs.1 n with rfl|n;{exact L.trans _ _ _ r b P (L.j2 a y w r) s};exact T y n
def R8.fold_le (L:R8 N le jn bot):∀(v:List Nat) (a c:Nat),a<N->c<N->(∀x,x∈v->x<N/\le x c)->le a c->le (v.foldl jn a) c:=by intro v;induction v with|nil=>intro a c _ _ _ h;exact h|cons x v d=>intro a c w b h i;have r:=h x Zq;exact d (jn a x) c (L.jl a x w r.1) b (λy n=>h y (Zy _ n)) (L.j3 a x c w r.1 b i r.2)
structure PB (m:Fm)(N:Nat)(le:Nat->Nat->Prop)(f:Nat->Nat):Prop where
 lt:∀k,k<m.F.length->f k<N
 decl:∀k,k<m.F.length->0<=(I5 m k).lb->(f k:Int)=(I5 m k).lb
 up:∀k,k<m.F.length->(I5 m k).lb<0->∀j,j<m.F.length->WB m j k=Tt->le (f j) (f k)
def UF (m:Fm)(N:Nat)(le:Nat->Nat->Prop)(f:Nat->Nat):Prop:=∀g,PB m N le g->∀k,k<m.F.length->le (f k) (g k)
def qet (L:R8 N le jn bot){m f g}(a:PB m N le f)(H:PB m N le g)(j:UF m N le f)(b:UF m N le g):∀k,k<m.F.length->f k=g k :=
 λk n=>L.anti _ _ (a.lt k n) (H.lt k n) (j g H k n) (b f a k n)
def zA (m:Fm)(bot k:Nat):Nat:=if (I5 m k).lb<0 then bot else (I5 m k).lb.toNat
def qgo (L:R8 N le jn bot){m}:UF m N le (zA m bot):=by intro g hg k hk;unfold zA;split;{exact L.bot _ (hg.lt k hk)};rename_i h;have:=hg.decl k hk dN;rw[show(I5 m k).lb.toNat=g k by omega];exact L.refl _ (hg.lt k hk)
def YZ (L:R8 N le jn bot){m f}(c:UF m N le f)(P:∀k,k<m.F.length->f k<N){k}(n:k<m.F.length)(w:(I5 m k).lb<0)(a)(b:a<N)(A:∀g,PB m N le g->le a (g k))(xs:List Nat)(r:∀x,x∈xs->∃j,j<m.F.length/\WB m j k=Tt/\x=f j):∀g,PB m N le g->le (xs.foldl jn a) (g k):=by intro g H;refine L.fold_le xs a (g k) b (H.lt k n) (λx I=>?_) (A g H);obtain⟨j,y,E,rfl⟩:=r x I;exact⟨P j y,L.trans _ _ _ (P j y) (H.lt j y) (H.lt k n) (c g H j y) (H.up k n w j y E)⟩
end
def Wi (M:Nat->Bool)(k:Nat)(L:List Nat):List Nat:=L.filter λx=>decide (x=k)||M x
def qlc {m k x D}(n:k<m.F.length)(r:YA m D=Sm x):Rch m k x ↔ ∃j,j∈D/\j<m.F.length/\i9 m j x=Tt/\(j=k\/Rch m k j):=by obtain⟨h,E,-⟩:=AK r;have P:∀j,j<m.F.length->i9 m j x=Tt->j∈D:=(by intro j y N;unfold qG at E;rw[Yy,Zm]at E;have:=E.2 j (Va.2 y);rw[N]at this;simpa using this);constructor;{intro a;cases a with|one X N=>exact⟨k,P k n N,n,N,.inl rfl⟩|step y X N=>exact⟨_,P _ y.lt N,y.lt,N,.inr y⟩};rintro⟨j,-,-,N,rfl|y⟩;{exact .one h N};exact .step y h N
end
section
open Go Go.RowKit Go.Proofs.Tryz
def qj6:(prog.info? 51).map (λi=>(i.zero,i.size,i.bytes))=Sm (Sm Yk,1,24):=by kernel_rfl
def Sz {w base F n}(h:w.ownsRow base 51 1 (GX F n n) n (madeCells #[Value.slice Nn 0 0] n).toList):F9 w F n (λ_=>Sl Nn 0 0):=by have c:=j0.of_owns h;rw[toList_madeCells_one]at c;unfold F9;exact Ux
def qtt {w base F n}(h:w.ownsRow base 3 1 (GX F n n) n (madeCells #[Value.int .i64 0] n).toList):j0 w F 3 (zs n λ_=>0):=by have c:=j0.of_owns h;rw[toList_madeCells_one]at c;unfold zs;exact Ux
def EJ {w:Tw}{base v l}(h:w.ownsRow base 3 1 v l.length (ui l)):∃a c,v=Sl a l.length c/\∀i (X:i<l.length),∃g,a=Sm (Aq g 0)/\g<w.1.size/\base<=g/\w.cell? (Aq g i)=Sm (Yj (l[i]:Nat)):=by rcases h.2 with ⟨j,a⟩|⟨g,q,p,j,c,H,r⟩;{exact⟨Nn,0,by rw[j,a],λi X=>absurd X dN⟩};subst j;refine⟨_,_,rfl,λi X=>⟨g,rfl,(Y3.1 H).1,c,?_⟩⟩;rw[h.cellAt i dN];simp[ui,X]
def YO {w:Tw}{base c a l}(h:w.ownsRow base 3 1 (Sl a l.length c) l.length (ui l))(i)(hi:i<l.length):∃g,a=Sm (Aq g 0)/\g<w.1.size/\base<=g/\w.cell? (Aq g i)=Sm (Yj (l[i]:Nat)):=by obtain⟨d,G,e,b⟩:=EJ h;cases e;exact b i hi
def x_ (m f b w)(d:O2 m)(h:l6 m)(e:R0 w m f)(Q:F5 w b (I0 m)):GZ 224 #[wV m f b] w λr a=>∃F V,r=Rt (GX F m.F.length m.F.length)/\w.1.size<=F/\F9 a F m.F.length V/\Q6 a (F+1) m.F.length V (C5 m m.F.length)/\Below w.1.size w a:=by obtain⟨HV,ah,au⟩:=oC d (λW k (hk:k<m.F.length) (J:R0 W m f)=>Rq m f b k W hk J) (λW g k (hk:k<m.F.length) (J:R0 W m f) (hp:F5 W b (I0 m)) c=>Fu m f b g k W d h hk J hp c);have aV:=d.nf;obtain⟨E,H,K,I,ar,N,z,C,aa⟩:=f;unfold wV at ah|-;dsimp only at ah au|-;obtain⟨W0,c,q,HB⟩:=nw w 151 #[Sl E m.L.length H,Sl K m.P.length I,Sl ar m.R.length N,Sl z m.F.length C,.map (Sm b)];have ao:W0.1.size=w.1.size+1:=(by rw[<- c];simp);obtain⟨HS,HM⟩:=oB e Q;clear e Q d h;obtain⟨i0,X,ad,ae,ag⟩:=info_parts qj6;have x:i0.bytes*m.F.length<=281474976710656:=(by rw[ag];omega);obtain⟨l,n,s,o,p⟩:=j4 q;go_enter func224,ntmps224;go_wp2_with (at_make;refine wpList_make_full _ rfl (.tmp 10) (.tmp 10) 235 rfl (w.1.size+1) 51 i0 _ 1 underlying235 X ad ae .i64 .i64 _ _ m.F.length rfl rfl rfl rfl x dY (by first|omega|(simp;done)) ?_);intro O J i;(try rw[c]at J i);(try rw[c]);(try rw[ao]at J);(try rw[ao]);have e:Below (w.1.size+1) W0 O:=(bR _ _).grown i dN (λk h=>by cases h);obtain⟨F,hF⟩:=Nq (w.1.size+1);rw[hF]at J e ao;(try rw[hF]);obtain⟨M,d⟩:=oB (Sz J) e;clear J i e x X ad ae ag c l n s o p;have HB:=h_ (HB.trans (d.mono dN));have q:=h_ (q.mono d dN);have aR:F<O.1.size:=M.lt;clear d;obtain⟨l,n,s,o,p⟩:=j4 q;go_wp2_with fail;clear l n s o p;go_loopw [16] (λi wr=>∃(k:Nat) (V:Nat->Value),k<=m.F.length/\i=Yj k/\F9 wr F m.F.length V/\Q6 wr (F+1) m.F.length V (C5 m k)/\Below F O wr) (λi _=>m.F.length - (intOf i).toNat);exact⟨0,_,nZ _,rfl,M,Q6.none _ _ _,bR _ _⟩;clear M;obtain⟨k,V,hk,rfl,Q,e,d⟩:=hrel;obtain⟨M,y,D,s⟩:=oD Q e d (q.mono d dN);have o:Hi (Below w.1.size w wr):=h_ (HB.trans (d.mono dN));obtain⟨ai,az⟩:=oB (HS.mono o) (HM.mono o);have ab:F<wr.1.size:=Q.lt;clear Q e d;by_cases G:k<m.F.length;{have aN:(k:Int)<m.F.length:=dN;go_wp2;refine wp_region_held_drew (S:=λa=>j0 a w.1.size 151 [Sl E m.L.length H,Sl K m.P.length I,Sl ar m.R.length N,Sl z m.F.length C,.map (Sm b)]) dP s (λc=>?_);refine F0 0 19 (.agg #[Sl E m.L.length H,Sl K m.P.length I,Sl ar m.R.length N,Sl z m.F.length C,.map (Sm b)]) c ?_ (hy:=λw U=>by exact Hv);refine Z1 1 c ?_;refine Z1 3 c ?_;refine F0 4 23 (.map (Sm b)) c ?_ (hy:=λw U=>by obtain⟨q0,q1,q2,q3,q4⟩:=j4 U;simp[execOp,go_sem,q4]);refine Z1 7 c ?_;have HD:Hi (Below wr.1.size wr wr.drew):=h_ (bR _ _).drew;refine TA (args:=#[.agg #[Sl E m.L.length H,Sl K m.P.length I,Sl ar m.R.length N,Sl z m.F.length C,.map (Sm b)],Yj k]) (R:=λn a=>∃g,n=GX g 2 2/\j0 a g 52 [Sl (aa k).i m.F[k].is.length (aa k).ic,Sl (aa k).h m.F[k].wh.length (aa k).hc]/\Below wr.1.size wr a) 2 21 ((ah wr.drew k G (ai.mono HD)).mono λh t ⟨g,r,p,d⟩=>⟨_,r,g,rfl,p,M7 d⟩) ?_;rintro n W ⟨g,rfl,p,l⟩;have c:=s.mono l s.lt;have aP:=l.size;obtain⟨B,av⟩:=oB l p;clear p l;refine⟨c,?_⟩;refine t6 ?_;refine TA (args:=#[GX g 2 2,.map (Sm b),Yk,.func (.func 264) #[] #[]]) (R:=λn a=>a.ownsRow W.1.size 3 1 n (N6 m k).length (ui (N6 m k))/\Below W.1.size W a) 5 24 ((au W g k G (ai.mono B) (az.mono B) av).mono λh t ⟨n,r,Z,d⟩=>⟨n,r,Z,d⟩) ?_;rintro n Y ⟨Z,l⟩;have c:=c.mono l c.lt;have aQ:=l.size;have T:=h_ (Q6.snoc (y.mono B) l dN Z);obtain⟨x,r,rfl,-⟩:=EJ Z;have aw:Hi (F9 Y F m.F.length (up V m.F.length (Sl x (N6 m k).length r))):=h_ (F9.congr (show F9 Y F m.F.length V from j0.mono (j0.mono M B ab) l dN) λa p=>V7 _ _ dN);have U:Hi (Below F O Y):=h_ ((D.trans (B.mono dN)).trans (l.mono dN));have t:Hi ((up V m.F.length (Sl x (N6 m k).length r)) m.F.length=Sl x (N6 m k).length r):=h_ (E9 _ _ _);rw[<- Mz]at T;generalize up V m.F.length (Sl x (N6 m k).length r)=V3 at *;have aM:=lM HV G;obtain⟨ay,aJ⟩:=oB (zT HV G) (λp a=>qir HV G p a);have aB:Hi (∀A,N6 m k=A->∀p (aj:p<A.length),yC m k (p+1)=up (yC m k p) A[p] (yC m k p A[p]++[k])):=h_ λA h p aj=>(by subst h;exact Lz aj);have aA:=h_ (Iz m k);clear Z l B av y M ai az;refine⟨c,?_⟩;refine t6 ?_;clear c;have c:j0 Y w.1.size 151 [Sl E m.L.length H,Sl K m.P.length I,Sl ar m.R.length N,Sl z m.F.length C,.map (Sm b)]:=s.lt |> λaj=>q.mono U dN;refine Z1 6 c ?_;refine S3 ?_;clear c;obtain⟨l,c⟩:=Nq (N6 m k);rw[c]at T t aM ay aA|-;have aK:=h_ (aB l c);clear aB c;go_wp2;go_loopw [26] (λi c=>∃(p:Nat) (A:Nat->Value),p<=l.length/\i=Yj p/\A m.F.length=Sl x l.length r/\F9 c F m.F.length A/\Q6 c (F+1) (m.F.length+1) A (up (yC m k p) m.F.length l)/\Below F O c) (λi _=>l.length - (intOf i).toNat);exact⟨0,_,nZ _,rfl,t,aw,T,U⟩;clear t aw T U D s o ab aP aQ;obtain⟨p,A,hp,rfl,T,Q,e,d⟩:=hrel;have ab:F<wr.1.size:=Q.lt;obtain⟨M,y,D,t⟩:=oD Q e d T;by_cases an:p<l.length;{have aO:(p:Int)<l.length:=dN;have J:=e.own m.F.length dN;rw[T,E9]at J;obtain⟨g2,rfl,aT,-,zc⟩:=YO J p an;have aG:l[p]<m.F.length:=ay _ (Yt an);have aU:((l[p]:Nat):Int)<m.F.length:=dN;have aL:=h_ (aK p an);have aS:=aJ p l[p];have c:=e.own l[p] dN;rw[V7 _ _ dN]at c;have zj:=Q.at aG;have aI:=h_ c;generalize l[p]=a at *;obtain⟨i0,X,ad,ae,ag⟩:=info_parts qB;clear Q e d T J c;go_wp2_with (at_builtin;refine yB qB aI dN ?_);intro U c aH ac _ aE;have Z:=(bR wr.1.size wr).alloc (nR _) (Cl #[Yj k] 3);have am:c.ownsRow (F+1) 3 1 U (up (yC m k p) m.F.length l a++[k]).length (ui (up (yC m k p) m.F.length l a++[k])):=(by rw[V7 _ _ dN];simpa [ui] using aH);obtain⟨a',c',e',-⟩:=EJ am;obtain⟨n',s⟩:=Nq ((up (yC m k p) m.F.length l a++[k]).length);rw[s]at e';clear s;have J:F9 (wr.alloc (Cl #[Yj k] 3)) F m.F.length A:=j0.mono M Z ab;have B:=y.mono Z;have aq:=qm9 J dN B dN am ac (by rw[Y7];exact aE);have aD:F<(wr.alloc (Cl #[Yj k] 3)).1.size:=J.lt;have aF:=At (j:=a) (v:=U) (D.trans (Z.mono dN)) (Za F) aD (B.own a dN) ac;have ak:j0 c F 51 ((List.range m.F.length).map A):=j0.grown J ac (λh=>Fq (((B.own a dN).lt F h.symm).1));have cF:c.cell? (Aq F a)=Sm (A a):=F9.at ak aG;have fF:c.frozen? (Aq F a)=Ff:=ak.free a;have ax:=h_ aq.1;have h:Hi (Q6 (c.setCell (Aq F a) U) (F+1) (m.F.length+1) (up A a U) (up (yC m k (p+1)) m.F.length l)):=h_ (aq.2.congr (λ_ _=>rfl) λi X=>by by_cases s:i=m.F.length;{subst s;rw[E9,V7 _ _ dN,E9]};rw[V7 _ _ s,aL.u];by_cases ej:i=a;{subst ej;rw[E9,E9,V7 _ _ s]};rw[V7 _ _ ej,V7 _ _ ej,V7 _ _ s]);have s:=h_ aF;have aC:Hi (up A a U m.F.length=GX g2 l.length r):=h_ (by rw[V7 _ _ dN];exact t);clear aH ac aE am J B aq aD aF ak Z X ad ae ag zc zj;subst e';go_wp2;go_roundw;{first|exact⟨p+1,_,dN,dR,aC,ax,h,s⟩|((repeat apply Exists.intro);exact⟨⟨p+1,_,dN,dR,aC,ax,h,s⟩,rfl⟩)};exact kq};obtain rfl:p=l.length:=dN;have aO:¬ (l.length:Int)<(l.length:Int):=dN;have h:Hi (Q6 wr (F+1) m.F.length A (C5 m (k+1))):=h_ ((e.sub (O5 _)).congr (λ_ _=>rfl) λi X=>by rw[V7 _ _ dN,aA.u]);clear Q e d T;go_wp2;go_roundw;{first|exact⟨k+1,_,dN,dR,M,h,D⟩|((repeat apply Exists.intro);exact⟨⟨k+1,_,dN,dR,M,h,D⟩,rfl⟩)};exact kq};obtain rfl:k=m.F.length:=dN;have aN:¬ (m.F.length:Int)<(m.F.length:Int):=dN;go_wp2;go_ret;first|exact⟨F,V,rfl,dN,M,y,o⟩|exact⟨F,rfl,dN,V,M,y,o⟩|exact⟨F,rfl,dN,⟨V,M,y⟩,o⟩
