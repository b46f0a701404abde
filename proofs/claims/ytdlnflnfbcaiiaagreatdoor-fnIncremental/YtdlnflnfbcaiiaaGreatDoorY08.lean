import Derived.Test.YtdlnflnfbcaiiaaGreatDoorY05
import Derived.Test.YtdlnflnfbcaiiaaGreatDoorY04
set_option linter.all false
set_option maxRecDepth 100000
set_option maxHeartbeats 0
namespace Go.Proofs.YtdlnflnfbcaiiaaGreatDoor
open Value renaming slice->Sl,bool->Bo
open Option renaming none->Nn,some->Sm
open Bool renaming true->Tt,false->Ff
open Go Go.RowKit Go.Proofs.Tryz
def MN {m}(h:¬ L1 m):A6 m=Ff:=by grind[A6,YR,Nj]
def tY {m}(h:L1 m):A6 m=decide ((cT m).length<=30000):=by grind[A6,cT,Nj]
def MS {n:Nat}{x:Int}(h1:0<=x)(p:x<n):O1 n x=Tt:=Yl ⟨h1,p⟩
variable {p:Prop}
def iX(h:p:=by go_wp2;go_ret;exact⟨M2 b.symm,c.u⟩):p:=h
def iY(h:p:=by refine wpAnyH_done fL ?_ _;go_wp2;go_ret;exact⟨M2 b.symm,V⟩):p:=h
def iZ(h:p:=by refine wpAnyH_done fL ?_ _;clear h;go_wp2;go_ret;exact⟨M2 b.symm,V⟩):p:=h
def NJ (m A w)(hf:N2 m)(ha:I0 w m A) :
 Gv 32 #[mV m A] w (Bo (A6 m)):=by
 obtain⟨g,i,Z,z,ar,C,af,N,aq⟩:=A;have y:Hi (¬ L1 m->A6 m=Ff):=h_ MN;have a0:Hi (L1 m->A6 m=decide ((cT m).length<=30000)):=h_ tY;generalize A6 m=n at *;unfold mV;dsimp only;obtain⟨W0,ba,Q,c⟩:=R6 w 28 (Jb g m i Z z ar C af N);obtain⟨E,HF⟩:=oB (ha.mono c.u) hf;have a4:=hf.ll;have bb:=hf.pl;have a6:=hf.rl;have aO:=hf.fl;obtain⟨q,e,I,J⟩:=F0 Q.u;by_cases h1:(32:Int)<m.L.length
 . have b:Hi (n=Ff):=h_ (y λv=>Fq v.nl)
   go_enter func32,ntmps32;exact iX
 by_cases h2:(256:Int)<m.P.length
 . have b:Hi (n=Ff):=h_ (y λv=>Fq v.np)
   go_enter func32,ntmps32;exact iX
 by_cases h3:(64:Int)<m.R.length
 . have b:Hi (n=Ff):=h_ (y λv=>Fq v.nr)
   go_enter func32,ntmps32;exact iX
 by_cases h4:(200:Int)<m.F.length
 . have b:Hi (n=Ff):=h_ (y λv=>Fq v.nf)
   go_enter func32,ntmps32;exact iX
 go_enter func32,ntmps32;go_wp2_with fail;refine(CZ m ⟨g,i,Z,z,ar,C,af,N,aq⟩ W0 fK E.u.f).mono ?_;rintro a8 W1 ⟨an,cn,rfl,aF,d⟩;have K:=h_ aF;have Q:=mB Q d;have E:=h_ (E.u.mono d);have c:=mT c d;obtain⟨q,e,I,J⟩:=F0 Q.u;go_wp2_with fail;refine cQ (LT g i m.L W1 a4 HF.l E.u.l) λW2 d=>?_;have Q:=mB Q d;have E:=h_ (E.u.mono d);have c:=mT c d;have K:=h_ (K.mono d);obtain⟨q,e,I,J⟩:=F0 Q.u;cases aj:X4 m.L
 . have b:Hi (n=Ff):=h_ (y λv=>by have:=v.l;rw[aj]at this;cases this)
   exact iX
 have aW:=h_ aj;go_wp2_with fail;refine(Lu m ⟨g,i,Z,z,ar,C,af,N,aq⟩ W2 fK E.u.r).mono ?_;rintro a8 W3 ⟨a1,a2,rfl,aF,d⟩;have ay:=h_ aF;have Q:=mB Q d;have E:=h_ (E.u.mono d);have c:=mT c d;have K:=h_ (K.mono d);obtain⟨q,e,I,J⟩:=F0 Q.u;have aJ:Hi (m.R.length=(P7 m).length):=h_ (by simp[P7]);have ax:Hi (m.F.length=(L0 m).length):=h_ (by simp[L0]);go_wp2_with fail;have aw:=LT a1 a2 (P7 m) W3 (by rw[<- aJ.u];exact a6) (λx O=>by obtain⟨aG,hy,rfl⟩:=Y9.1 O;exact HF.r aG hy) ay;rw[<- aJ.u]at aw;refine cQ aw λW4 d=>?_;have Q:=mB Q d;have E:=h_ (E.u.mono d);have c:=mT c d;have K:=h_ (K.mono d);obtain⟨q,e,I,J⟩:=F0 Q.u;cases aj:X4 (P7 m)
 . have b:Hi (n=Ff):=h_ (y λv=>by have:=v.r;rw[aj]at this;cases this)
   exact iX
 have aX:=h_ aj;go_wp2_with fail;have aw:=LT an cn (L0 m) W4 (by rw[<- ax.u];exact aO) (λx O=>by obtain⟨aG,hy,rfl⟩:=Y9.1 O;exact(HF.f aG hy).nm) K;rw[<- ax.u]at aw;refine cQ aw λW5 d=>?_;have Q:=mB Q d;have E:=h_ (E.u.mono d);have c:=mT c d;have K:=h_ (K.mono d);obtain⟨q,e,I,J⟩:=F0 Q.u;cases aj:X4 (L0 m)
 . have b:Hi (n=Ff):=h_ (y λv=>by have:=v.f;rw[aj]at this;cases this)
   exact iX
 have aY:=h_ aj;go_wp2;go_loopw [4] (λU wr=>∃(k:Nat),k<=m.P.length/\U=Yd k/\(∀j (B:j<m.P.length),j<k->O1 m.L.length m.P[j].1=Tt/\O1 m.L.length m.P[j].2=Tt)/\Bw W5 wr) (λU _=>m.P.length - (intOf U).toNat)
 case atStart=>exact⟨0,nZ _,rfl,λj _ s=>absurd s (nL _),bR _ _⟩
 case round =>
  obtain⟨k,X,rfl,ak,f⟩:=hrel;obtain⟨M,o⟩:=oB ak f;have t:=mB Q f;have G:=h_ (E.u.mono f);have T:=mT c f;obtain⟨q,e,I,J⟩:=F0 t;by_cases Y:k<m.P.length
  . have am:(k:Int)<m.P.length:=fK
    obtain⟨pb,r,rfl,-,z0,H⟩:=G.p k Y;have V:Hi (Bw w wr.drew):=h_ T.drew;have W:Hi (L1 m->O1 m.L.length m.P[k].1=Tt):=h_ λv=>(v.p _ (Yn Y)).1;have aE:Hi (L1 m->O1 m.L.length m.P[k].2=Tt):=h_ λv=>(v.p _ (Yn Y)).2;have aa:Hi (O1 m.L.length m.P[k].1=Tt->O1 m.L.length m.P[k].2=Tt->∀j (B:j<m.P.length),j<k+1->O1 m.L.length m.P[j].1=Tt/\O1 m.L.length m.P[j].2=Tt):=h_ λg1 g2 j B s=>by
     by_cases ej:j=k
     . subst ej;exact⟨g1,g2⟩
     . exact M j B fK
    obtain⟨D,az⟩:=Nq (m.P[k].1);obtain⟨x2,a7⟩:=Nq (m.P[k].2);rw[az]at W aa z0;rw[a7]at aE aa H;by_cases aP:D<0
    . have b:Hi (n=Ff):=h_ (y λv=>Fq (Zo (W v)))
      generalize D=x at *;go_wp2;refine wp_region_held_drew (S:=λa=>a.cell? (zw w 0)=Sm (Sl g m.L.length i)/\a.cell? (zw w 1)=Sm (GV pb r m.P.length z)/\a.cell? (Aq pb (r+k*2))=Sm (Yd x)) fL ⟨q,e,z0⟩ (λh=>?_);refine rp ?_
      repeat refine N4 h ?_
      exact iY
    by_cases aN:(m.L.length:Int)<=D
    . have b:Hi (n=Ff):=h_ (y λv=>Fq (Zo (W v)))
      generalize D=x at *;go_wp2;refine wp_region_held_drew (S:=λa=>a.cell? (zw w 0)=Sm (Sl g m.L.length i)/\a.cell? (zw w 1)=Sm (GV pb r m.P.length z)/\a.cell? (Aq pb (r+k*2))=Sm (Yd x)) fL ⟨q,e,z0⟩ (λh=>?_);refine tq 0 1 2 h ?_;refine tq 3 4 5 h ?_;refine E0 6 57 (Bo Ff) h ?_;refine E0 7 58 (Bo Ff) h ?_;refine tq 8 9 10 h ?_;refine tq 11 12 13 h ?_;refine tq 14 15 16 h ?_;refine E0 17 68 (Bo Tt) h ?_;refine E0 18 69 (Bo Tt) h ?_;exact iY
    have aU:Hi (O1 m.L.length D=Tt):=h_ (MS fK fK);go_wp2;refine wp_region_held_drew (S:=λa=>a.cell? (zw w 0)=Sm (Sl g m.L.length i)/\a.cell? (zw w 1)=Sm (GV pb r m.P.length z)/\a.cell? (Aq pb (r+k*2))=Sm (Yd D)) fL ⟨q,e,z0⟩ (λh=>?_);refine tq 0 1 2 h ?_;refine tq 3 4 5 h ?_;refine E0 6 57 (Bo Ff) h ?_;refine E0 7 58 (Bo Ff) h ?_;refine tq 8 9 10 h ?_;refine tq 11 12 13 h ?_;refine tq 14 15 16 h ?_;refine E0 17 68 (Bo Ff) h ?_;refine E0 18 69 (Bo Ff) h ?_;refine wpAnyH_done fL ?_ _;have aD:Hi (Bw wr wr.drew):=h_ (bR _ _).drew;have q:=(aD.cell (p:=Aq w.1.size 0) t.lt).trans q;have e:=(aD.cell (p:=Aq w.1.size 1) t.lt).trans e;obtain⟨b',o',a3,a5,-,bc⟩:=G.p k Y;cases a3;have H:=(aD.cell (p:=(Aq pb (r+k*2+1))) a5).trans H;replace V:Hi (Bw w wr.drew.drew):=h_ V.drew;replace o:Hi (Bw W5 wr.drew.drew):=h_ o.drew.drew;obtain⟨a9,hV⟩:=Nq wr.drew;rw[hV]at q e H V o|-;by_cases aP:x2<0
    . have b:Hi (n=Ff):=h_ (y λv=>Fq (Zo (aE v)))
      generalize x2=x at *;go_wp2;refine wp_region_held_drew (S:=λa=>a.cell? (zw w 0)=Sm (Sl g m.L.length i)/\a.cell? (zw w 1)=Sm (GV pb r m.P.length z)/\a.cell? (Aq pb (r+k*2+1))=Sm (Yd x)) fL ⟨q,e,H⟩ (λh=>?_);refine tq 0 1 2 h ?_;refine tq 3 4 5 h ?_;refine E0 6 76 (Bo Tt) h ?_;refine E0 7 77 (Bo Tt) h ?_;refine D3 8 78 h ?_;refine D3 9 79 h ?_;refine D3 10 80 h ?_;refine D3 11 81 h ?_;refine D3 12 82 h ?_;refine D3 13 83 h ?_;refine D3 14 84 h ?_;refine D3 15 85 h ?_;refine D3 16 86 h ?_;refine D3 17 87 h ?_;refine E0 18 88 (Bo Tt) h ?_;exact iY
    by_cases aN:(m.L.length:Int)<=x2
    . have b:Hi (n=Ff):=h_ (y λv=>Fq (Zo (aE v)))
      generalize x2=x at *;go_wp2;refine wp_region_held_drew (S:=λa=>a.cell? (zw w 0)=Sm (Sl g m.L.length i)/\a.cell? (zw w 1)=Sm (GV pb r m.P.length z)/\a.cell? (Aq pb (r+k*2+1))=Sm (Yd x)) fL ⟨q,e,H⟩ (λh=>?_);refine tq 0 1 2 h ?_;refine tq 3 4 5 h ?_;refine E0 6 76 (Bo Ff) h ?_;refine E0 7 77 (Bo Ff) h ?_;refine tq 8 9 10 h ?_;refine tq 11 12 13 h ?_;refine tq 14 15 16 h ?_;refine E0 17 87 (Bo Tt) h ?_;refine E0 18 88 (Bo Tt) h ?_;exact iY
    have aV:Hi (O1 m.L.length x2=Tt):=h_ (MS fK fK);have ao:=h_ (aa aU aV);go_wp2;refine wp_region_held_drew (S:=λa=>a.cell? (zw w 0)=Sm (Sl g m.L.length i)/\a.cell? (zw w 1)=Sm (GV pb r m.P.length z)/\a.cell? (Aq pb (r+k*2+1))=Sm (Yd x2)) fL ⟨q,e,H⟩ (λh=>?_);refine tq 0 1 2 h ?_;refine tq 3 4 5 h ?_;refine E0 6 76 (Bo Ff) h ?_;refine E0 7 77 (Bo Ff) h ?_;refine tq 8 9 10 h ?_;refine tq 11 12 13 h ?_;refine tq 14 15 16 h ?_;refine E0 17 87 (Bo Ff) h ?_;refine E0 18 88 (Bo Ff) h ?_;refine wpAnyH_done fL ?_ _;refine rQ ?_;exact⟨k+1,fK,fP,ao,o⟩
  obtain rfl:k=m.P.length:=fK
  have am:¬ (m.P.length:Int)<(m.P.length:Int):=fK
  have HP:Hi (∀x,x∈m.P->O1 m.L.length x.1=Tt/\O1 m.L.length x.2=Tt):=h_ λx O=>by
   obtain⟨j,s,rfl⟩:=Y8.1 O;exact M j s s
  have Q:=t;have E:=G;have K:=h_ (K.mono o);have c:=T;go_wp2_with fail;clear q e I J o M Y am t G T;obtain⟨W6,aM⟩:=Nq wr;rw[aM]at c E K Q|-;clear aM;go_loopw [5] (λU wr=>∃(k:Nat),k<=m.R.length/\U=Yd k/\(∀j (B:j<m.R.length),j<k->O1 m.L.length m.R[j].lb=Tt)/\Bw W6 wr) (λU _=>m.R.length - (intOf U).toNat)
  case atStart=>exact⟨0,nZ _,rfl,λj _ s=>absurd s (nL _),bR _ _⟩
  case round =>
   obtain⟨k,X,rfl,ak,f⟩:=hrel;obtain⟨M,o⟩:=oB ak f;have t:=mB Q f;have G:=h_ (E.u.mono f);have T:=mT c f;obtain⟨q,e,I,J⟩:=F0 t;clear ak f;by_cases Y:k<m.R.length
   . have am:(k:Int)<m.R.length:=fK
     obtain⟨pb,r,rfl,-,z0,H⟩:=G.r k Y;have V:Hi (Bw w wr.drew):=h_ T.drew;have W:Hi (L1 m->O1 m.L.length m.R[k].lb=Tt):=h_ λv=>v.ro _ (Yn Y);have aa:Hi (O1 m.L.length m.R[k].lb=Tt->∀j (B:j<m.R.length),j<k+1->O1 m.L.length m.R[j].lb=Tt):=h_ λg1 j B s=>by
      by_cases ej:j=k
      . subst ej;exact g1
      . exact M j B fK
     obtain⟨D,az⟩:=Nq (m.R[k].lb);rw[az]at W aa H;clear az;by_cases aP:D<0
     . have b:Hi (n=Ff):=h_ (y λv=>Fq (Zo (W v)))
       generalize D=x at *;go_wp2;refine wp_region_held_drew (S:=λa=>a.cell? (zw w 0)=Sm (Sl g m.L.length i)/\a.cell? (zw w 2)=Sm (GV pb r m.R.length C)/\a.cell? (Aq pb (r+k*2+1))=Sm (Yd x)) fL ⟨q,I,H⟩ (λh=>?_);refine rp ?_
       repeat refine N4 h ?_
       exact iZ
     by_cases aN:(m.L.length:Int)<=D
     . have b:Hi (n=Ff):=h_ (y λv=>Fq (Zo (W v)))
       generalize D=x at *;go_wp2;refine wp_region_held_drew (S:=λa=>a.cell? (zw w 0)=Sm (Sl g m.L.length i)/\a.cell? (zw w 2)=Sm (GV pb r m.R.length C)/\a.cell? (Aq pb (r+k*2+1))=Sm (Yd x)) fL ⟨q,I,H⟩ (λh=>?_);refine tq 0 1 2 h ?_;refine tq 3 4 5 h ?_;refine E0 6 102 (Bo Ff) h ?_;refine E0 7 103 (Bo Ff) h ?_;refine tq 8 9 10 h ?_;refine tq 11 12 13 h ?_;refine tq 14 15 16 h ?_;refine E0 17 113 (Bo Tt) h ?_;refine E0 18 114 (Bo Tt) h ?_;exact iZ
     have ao:=h_ (aa (MS fK fK));replace o:Hi (Bw W6 wr.drew):=h_ o.drew;go_wp2;refine wp_region_held_drew (S:=λa=>a.cell? (zw w 0)=Sm (Sl g m.L.length i)/\a.cell? (zw w 2)=Sm (GV pb r m.R.length C)/\a.cell? (Aq pb (r+k*2+1))=Sm (Yd D)) fL ⟨q,I,H⟩ (λh=>?_);refine tq 0 1 2 h ?_;refine tq 3 4 5 h ?_;refine E0 6 102 (Bo Ff) h ?_;refine E0 7 103 (Bo Ff) h ?_;refine tq 8 9 10 h ?_;refine tq 11 12 13 h ?_;refine tq 14 15 16 h ?_;refine E0 17 113 (Bo Ff) h ?_;refine E0 18 114 (Bo Ff) h ?_;refine wpAnyH_done fL ?_ _;clear h;refine rQ ?_;exact⟨k+1,fK,fP,ao,o⟩
   obtain rfl:k=m.R.length:=fK
   have am:¬ (m.R.length:Int)<(m.R.length:Int):=fK
   have aZ:Hi (∀x,x∈m.R->O1 m.L.length x.lb=Tt):=h_ λx O=>by
    obtain⟨j,s,rfl⟩:=Y8.1 O;exact M j s s
   have Q:=t;have E:=G;have K:=h_ (K.mono o);have c:=T;go_wp2_with fail;clear q e I J o M Y am t G T;obtain⟨W7,D⟩:=Nq wr;rw[D]at c E K Q|-;clear D;go_loopw [6] (λU wr=>∃(k:Nat),k<=m.F.length/\U=Yd k/\(∀j (B:j<m.F.length),j<k->A9 m.L.length m.R.length m.F[j]=Tt/\IA (L0 m) m.F[j]=Tt)/\Bw W7 wr) (λU _=>m.F.length - (intOf U).toNat)
   case atStart=>exact⟨0,nZ _,rfl,λj _ s=>absurd s (nL _),bR _ _⟩
   case round =>
    obtain⟨k,X,rfl,ak,f⟩:=hrel;obtain⟨M,o⟩:=oB ak f;have t:=mB Q f;obtain⟨G,ay⟩:=oB (E.u.mono f) (K.mono f);have T:=mT c f;clear ak f;by_cases Y:k<m.F.length
    . have am:(k:Int)<m.F.length:=fK
      obtain⟨Wr,D⟩:=Nq wr;rw[D]at o t G ay T|-;clear D;obtain⟨pb,r,rfl,D,H⟩:=G.f k Y;have W:Hi (L1 m->A9 m.L.length m.R.length m.F[k]=Tt/\IA (L0 m) m.F[k]=Tt):=h_ λv=>⟨v.fi _ (Yn Y),v.kn _ (Yn Y)⟩;have aa:Hi (A9 m.L.length m.R.length m.F[k]=Tt->IA (L0 m) m.F[k]=Tt->∀j (B:j<m.F.length),j<k+1->A9 m.L.length m.R.length m.F[j]=Tt/\IA (L0 m) m.F[j]=Tt):=h_ λg1 g2 j B s=>by
       by_cases ej:j=k
       . subst ej;exact⟨g1,g2⟩
       . exact M j B fK
      have aK:=h_ (HF.f _ (Yn Y));obtain⟨fa,U⟩:=Nq (aq k);dsimp only at D H;rw[U]at D H;obtain⟨aI,aL⟩:=oB D H;clear D H U;generalize m.F[k]=D at *;obtain⟨ab,U,ai,ad,V,ac,av,ag,au,ae⟩:=fa;have aC:=h_ (Lt D ⟨ab,U,ai,ad,V,ac,av,ag,au,ae⟩ m ⟨g,i,Z,z,ar,C,Sm (Aq pb r),N,aq⟩ Wr.drew aK (aL.mono (bR _ _).drew));unfold fV mV at aC;dsimp only at aC;have aS:Hi (∀H,Bw Wr H->Gv 65 #[.agg (Ja D ab U ai ad V ac av ag au ae),Sl an m.F.length cn] H (Bo (IA (L0 m) D))):=h_ λH f=>by
       have B:=Kt D ⟨ab,U,ai,ad,V,ac,av,ag,au,ae⟩ an cn (L0 m) H aK (by rw[<- ax.u];exact aO) (aL.mono f) (ay.mono f);rw[<- ax.u]at B;exact B
      generalize A9 m.L.length m.R.length D=g1 at *;generalize IA (L0 m) D=g2 at *;obtain⟨q,e,I,J⟩:=F0 t;go_wp2_with fail;clear q e I J;refine wp_region_held_drew (S:=λa=>m0 a w.1.size 28 (Jj g m i Z z ar C (Sm (Aq pb r)) N)/\rH a pb (r+k*9) D ⟨ab,U,ai,ad,V,ac,av,ag,au,ae⟩) fL ⟨t,aI⟩ (λh=>?_);refine rp ?_
      repeat refine N4 h ?_
      refine E0 1 123 (GV pb r m.F.length N) h ?_ (hy:=λw a=>by obtain⟨X,-,q0,q1,q2,q3,q4,q5,q6,q7,q8⟩:=a;obtain⟨-,-,-,p3⟩:=F0 X;simp[execOp,go_sem,p3])
      repeat refine N4 h ?_
      refine E0 4 126 (.agg (Ja D ab U ai ad V ac av ag au ae)) h ?_ (hy:=λw a=>by obtain⟨X,-,q0,q1,q2,q3,q4,q5,q6,q7,q8⟩:=a;simp[execOp,go_sem,q0,q1,q2,q3,q4,q5,q6,q7,q8]);refine E0 5 127 (.agg (Jb g m i Z z ar C (Sm (Aq pb r)) N)) h ?_ (hy:=λw a=>by obtain⟨X,-,q0,q1,q2,q3,q4,q5,q6,q7,q8⟩:=a;obtain⟨p0,p1,p2,p3⟩:=F0 X;simp[execOp,go_sem,p0,p1,p2,p3]);refine p9 6 128 aC λH B=>?_;have B:=C8 B;have aA:=h_ B;replace h:m0 H w.1.size 28 (Jj g m i Z z ar C (Sm (Aq pb r)) N)/\rH H pb (r+k*9) D ⟨ab,U,ai,ad,V,ac,av,ag,au,ae⟩:=⟨t.mono B t.lt,aI.mono B⟩;clear B;refine⟨h,?_⟩;refine I1 ?_;have aH:Hi (Bw w H):=h_ (T.trans (aA.mono T.size));have aQ:Hi (Bw W7 H):=h_ (o.trans (aA.mono o.size));cases g1
      . have b:Hi (n=Ff):=h_ (y λv=>by have:=(W v).1;cases this)
        repeat refine N4 h ?_
        refine wpAnyH_done fL ?_ _;clear h;go_wp2;go_ret;exact⟨M2 b.symm,aH⟩
      repeat refine N4 h ?_
      refine E0 10 132 (GV pb r m.F.length N) h ?_ (hy:=λw a=>by obtain⟨X,-,q0,q1,q2,q3,q4,q5,q6,q7,q8⟩:=a;obtain⟨-,-,-,p3⟩:=F0 X;simp[execOp,go_sem,p3])
      repeat refine N4 h ?_
      refine E0 13 135 (.agg (Ja D ab U ai ad V ac av ag au ae)) h ?_ (hy:=λw a=>by obtain⟨X,-,q0,q1,q2,q3,q4,q5,q6,q7,q8⟩:=a;simp[execOp,go_sem,q0,q1,q2,q3,q4,q5,q6,q7,q8])
      repeat refine N4 h ?_
      have aT:=aS H aA;refine p9 15 137 (aT) λB a=>?_;have aB:Hi (Bw w B):=mT aH a;have aR:Hi (Bw W7 B):=mT aQ a;replace h:m0 B w.1.size 28 (Jj g m i Z z ar C (Sm (Aq pb r)) N)/\rH B pb (r+k*9) D ⟨ab,U,ai,ad,V,ac,av,ag,au,ae⟩:=⟨h.1.mono a h.1.lt,h.2.mono a⟩;clear a;refine⟨h,?_⟩;refine I1 ?_;cases g2
      . have b:Hi (n=Ff):=h_ (y λv=>by have:=(W v).2;cases this)
        repeat refine N4 h ?_
        refine wpAnyH_done fL ?_ _;clear h;go_wp2;go_ret;exact⟨M2 b.symm,aB⟩
      have ao:=h_ (aa rfl rfl)
      repeat refine N4 h ?_
      refine wpAnyH_done fL ?_ _;clear h;refine rQ ?_;exact⟨k+1,fK,fP,ao,aR⟩
    obtain rfl:k=m.F.length:=fK;have am:¬ (m.F.length:Int)<(m.F.length:Int):=fK;have U:Hi (L1 m):=h_ ⟨fK,fK,fK,fK,aW,aX,aY,HP,aZ,λx O=>by
     obtain⟨j,s,rfl⟩:=Y8.1 O;exact(M j s s).1,λx O=>by
     obtain⟨j,s,rfl⟩:=Y8.1 O;exact(M j s s).2⟩
    have b:=h_ (Iu m ⟨g,i,Z,z,ar,C,af,N,aq⟩ wr HF U G);have W:Hi (n=decide ((cT m).length<=30000)):=h_ (a0 U);obtain⟨h,j⟩:∃h:Tb,⟨(cT m).toArray⟩=h:=⟨_,rfl⟩;have r:h.size=(cT m).length:=(by rw[<- j];rfl);have v:(cT m).length<=3714016:=(by rw[<- QO];exact EM U _);rw[<- r]at W v;rw[j]at b;unfold mV at b;dsimp only at b;clear j r;obtain⟨q,e,I,J⟩:=F0 t;go_wp2_with fail;refine cQ b λB a=>?_;have aB:Hi (Bw w B):=mT T a;clear a;have a:Hi (n=decide ((h.size:Int)<=30000)):=h_ (by rw[W.u];exact decide_eq_decide.2 fK);go_wp2;go_ret;exact⟨M2 a.symm,aB⟩
