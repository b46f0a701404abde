import Derived.Test.YtmdjbldpclbkhaaGreatDoorW21
import Derived.Test.YtmdjbldpclbkhaaGreatDoorW20
set_option linter.all false
set_option maxRecDepth 100000
set_option maxHeartbeats 0
namespace Go.Proofs.YtmdjbldpclbkhaaGreatDoor
open Value renaming slice->Sl,string->St,bool->Bo
open Obj renaming cells->Cl
open Ending renaming returned->Rt
open Go Go.RowKit Go.Proofs.Tryz
def qg9 {m:Fm}(a:¬ VfA m):vfB m=false:=by grind[vfB,vfA,qsp]
def kfz {m:Fm}(a:VfA m):vfB m=decide ((cT m).length<=30000):=by grind[vfB,cT,qsp]
def keG {n:Nat}{x:Int}(a:0<=x)(b:x<n):inR n x=true:=Ys ⟨a,b⟩
def jq {p:Prop}(h:p:=by go_wp2;go_ret;exact⟨qkd h.symm,j.u⟩):p:=h
def jr {p:Prop}(h:p:=by refine wpAnyH_done fR ?_ _;go_wp2;go_ret;exact⟨qkd h.symm,X⟩):p:=h
def js {p:Prop}(h:p:=by refine wpAnyH_done fR ?_ _;clear a;go_wp2;go_ret;exact⟨qkd h.symm,X⟩):p:=h
def q0h (m:Fm)(aA:MA)(w:Tw)(hf:kaY m)(ha:MSl w m aA) :
 Gv 13 #[mV m aA] w (Bo (vfB m)):=by
 obtain⟨v,x,ap,D,ar,J,af,O,ao⟩:=aA;have E:Hi (¬ VfA m->vfB m=false):=h_ qg9;have a1:Hi (VfA m->vfB m=decide ((cT m).length<=30000)):=h_ kfz;generalize vfB m=z at *;unfold mV;dsimp only;obtain⟨W0,bb,q,j⟩:=bxN w 28 (Ja v m x ap D ar J af O);obtain⟨t,HF⟩:=oB (ha.mono j.u) hf;have a6:=hf.ll;have bc:=hf.pl;have a8:=hf.rl;have aP:=hf.fl;obtain⟨o,s,G,Q⟩:=kac q.u;by_cases h1:(32:Int)<m.L.length
 . have h:Hi (z=false):=h_ (E λd=>by have:=d.nl;omega)
   go_enter func13,ntmps13;exact jq
 by_cases h2:(256:Int)<m.P.length
 . have h:Hi (z=false):=h_ (E λd=>by have:=d.np;omega)
   go_enter func13,ntmps13;exact jq
 by_cases h3:(64:Int)<m.R.length
 . have h:Hi (z=false):=h_ (E λd=>by have:=d.nr;omega)
   go_enter func13,ntmps13;exact jq
 by_cases h4:(200:Int)<m.F.length
 . have h:Hi (z=false):=h_ (E λd=>by have:=d.nf;omega)
   go_enter func13,ntmps13;exact jq
 go_enter func13,ntmps13;go_wp2_with fail;refine(q0t m ⟨v,x,ap,D,ar,J,af,O,ao⟩ W0 fP t.u.f).mono ?_;rintro aw W1 ⟨an,cn,rfl,aG,r⟩;have C:=h_ aG;replace q:=mB q r;replace t:=h_ (t.u.mono r);replace j:=mT j r;obtain⟨o,s,G,Q⟩:=kac q.u;go_wp2_with fail;refine cQ (q22 v x m.L W1 a6 HF.l t.u.l) λW2 r=>?_;replace q:=mB q r;replace t:=h_ (t.u.mono r);replace j:=mT j r;replace C:=h_ (C.mono r);obtain⟨o,s,G,Q⟩:=kac q.u;cases aj:kae m.L
 . have h:Hi (z=false):=h_ (E λd=>by have:=d.l;rw[aj]at this;cases this)
   exact jq
 have aX:=h_ aj;go_wp2_with fail;refine(q1b m ⟨v,x,ap,D,ar,J,af,O,ao⟩ W2 fP t.u.r).mono ?_;rintro aw W3 ⟨a2,a3,rfl,aG,r⟩;have ay:=h_ aG;replace q:=mB q r;replace t:=h_ (t.u.mono r);replace j:=mT j r;replace C:=h_ (C.mono r);obtain⟨o,s,G,Q⟩:=kac q.u;have aK:Hi (m.R.length=(kag m).length):=h_ (by simp[kag]);have ax:Hi (m.F.length=(kaa m).length):=h_ (by simp[kaa]);go_wp2_with fail;have aq:=q22 a2 a3 (kag m) W3 (by rw[<- aK.u];exact a8) (λn V=>by obtain⟨aH,hy,rfl⟩:=Ze.1 V;exact HF.r aH hy) ay;rw[<- aK.u]at aq;refine cQ aq λW4 r=>?_;replace q:=mB q r;replace t:=h_ (t.u.mono r);replace j:=mT j r;replace C:=h_ (C.mono r);obtain⟨o,s,G,Q⟩:=kac q.u;cases aj:kae (kag m)
 . have h:Hi (z=false):=h_ (E λd=>by have:=d.r;rw[aj]at this;cases this)
   exact jq
 have aY:=h_ aj;go_wp2_with fail;have aq:=q22 an cn (kaa m) W4 (by rw[<- ax.u];exact aP) (λn V=>by obtain⟨aH,hy,rfl⟩:=Ze.1 V;exact(HF.f aH hy).nm) C;rw[<- ax.u]at aq;refine cQ aq λW5 r=>?_;replace q:=mB q r;replace t:=h_ (t.u.mono r);replace j:=mT j r;replace C:=h_ (C.mono r);obtain⟨o,s,G,Q⟩:=kac q.u;cases aj:kae (kaa m)
 . have h:Hi (z=false):=h_ (E λd=>by have:=d.f;rw[aj]at this;cases this)
   exact jq
 have aZ:=h_ aj;go_wp2;go_loopw [4] (λW wr=>∃(b:Nat),b<=m.P.length/\W=Yf b/\(∀c (H:c<m.P.length),c<b->inR m.L.length m.P[c].1=true/\inR m.L.length m.P[c].2=true)/\Bw W5 wr) (λW _=>m.P.length - (intOf W).toNat)
 case atStart=>exact⟨0,nZ _,rfl,λc _ y=>absurd y (nL _),bR _ _⟩
 case round =>
  obtain⟨b,hk,rfl,Z,k⟩:=hrel;obtain⟨U,A⟩:=oB Z k;have B:=mB q k;have N:=h_ (t.u.mono k);have M:=mT j k;obtain⟨o,s,G,Q⟩:=kac B;by_cases I:b<m.P.length
  . have ak:(b:Int)<m.P.length:=fP
    obtain⟨pb,g,rfl,-,z0,T⟩:=N.p b I;have X:Hi (Bw w wr.drew):=h_ M.drew;have Y:Hi (VfA m->inR m.L.length m.P[b].1=true):=h_ λd=>(d.p _ (Yr I)).1;have aF:Hi (VfA m->inR m.L.length m.P[b].2=true):=h_ λd=>(d.p _ (Yr I)).2;have ag:Hi (inR m.L.length m.P[b].1=true->inR m.L.length m.P[b].2=true->∀c (H:c<m.P.length),c<b+1->inR m.L.length m.P[c].1=true/\inR m.L.length m.P[c].2=true):=h_ λg1 g2 c H y=>by
     by_cases ej:c=b
     . subst ej;exact⟨g1,g2⟩
     . exact U c H fP
    obtain⟨K,az⟩:=Nq (m.P[b].1);obtain⟨x2,a9⟩:=Nq (m.P[b].2);rw[az]at Y ag z0;rw[a9]at aF ag T;by_cases aQ:K<0
    . have h:Hi (z=false):=h_ (E λd=>by have:=Zx (Y d);omega)
      generalize K=n at *;go_wp2;refine wp_region_held_drew (S:=λe=>e.cell? ⟨w.1.size,0,none⟩=some (Sl v m.L.length x)/\e.cell? ⟨w.1.size,1,none⟩=some (Sl (some ⟨pb,g,none⟩) m.P.length D)/\e.cell? ⟨pb,g+b*2,none⟩=some (Yf n)) fR ⟨o,s,z0⟩ (λa=>?_);refine rp ?_
      repeat refine tkX a ?_
      exact jr
    by_cases aO:(m.L.length:Int)<=K
    . have h:Hi (z=false):=h_ (E λd=>by have:=Zx (Y d);omega)
      generalize K=n at *;go_wp2;refine wp_region_held_drew (S:=λe=>e.cell? ⟨w.1.size,0,none⟩=some (Sl v m.L.length x)/\e.cell? ⟨w.1.size,1,none⟩=some (Sl (some ⟨pb,g,none⟩) m.P.length D)/\e.cell? ⟨pb,g+b*2,none⟩=some (Yf n)) fR ⟨o,s,z0⟩ (λa=>?_);refine tkA 0 a ?_;refine tkA 1 a ?_;refine tkA 2 a ?_;refine tkA 3 a ?_;refine tkA 4 a ?_;refine tkA 5 a ?_;refine tkL 6 57 (Bo false) a ?_;refine tkL 7 58 (Bo false) a ?_;refine tkA 8 a ?_;refine tkA 9 a ?_;refine tkA 10 a ?_;refine tkA 11 a ?_;refine tkA 12 a ?_;refine tkA 13 a ?_;refine tkA 14 a ?_;refine tkA 15 a ?_;refine tkA 16 a ?_;refine tkL 17 68 (Bo true) a ?_;refine tkL 18 69 (Bo true) a ?_;exact jr
    have aV:Hi (inR m.L.length K=true):=h_ (keG fP fP);go_wp2;refine wp_region_held_drew (S:=λe=>e.cell? ⟨w.1.size,0,none⟩=some (Sl v m.L.length x)/\e.cell? ⟨w.1.size,1,none⟩=some (Sl (some ⟨pb,g,none⟩) m.P.length D)/\e.cell? ⟨pb,g+b*2,none⟩=some (Yf K)) fR ⟨o,s,z0⟩ (λa=>?_);refine tkA 0 a ?_;refine tkA 1 a ?_;refine tkA 2 a ?_;refine tkA 3 a ?_;refine tkA 4 a ?_;refine tkA 5 a ?_;refine tkL 6 57 (Bo false) a ?_;refine tkL 7 58 (Bo false) a ?_;refine tkA 8 a ?_;refine tkA 9 a ?_;refine tkA 10 a ?_;refine tkA 11 a ?_;refine tkA 12 a ?_;refine tkA 13 a ?_;refine tkA 14 a ?_;refine tkA 15 a ?_;refine tkA 16 a ?_;refine tkL 17 68 (Bo false) a ?_;refine tkL 18 69 (Bo false) a ?_;refine wpAnyH_done fR ?_ _;have aE:Hi (Bw wr wr.drew):=h_ (bR _ _).drew;replace o:=(aE.cell (p:=⟨w.1.size,0,none⟩) B.lt).trans o;replace s:=(aE.cell (p:=⟨w.1.size,1,none⟩) B.lt).trans s;obtain⟨b',o',a5,a7,-,bd⟩:=N.p b I;cases a5;replace T:=(aE.cell (p:=⟨pb,g+b*2+1,none⟩) a7).trans T;replace X:Hi (Bw w wr.drew.drew):=h_ X.drew;replace A:Hi (Bw W5 wr.drew.drew):=h_ A.drew.drew;obtain⟨ba,hV⟩:=Nq wr.drew;rw[hV]at o s T X A⊢;by_cases aQ:x2<0
    . have h:Hi (z=false):=h_ (E λd=>by have:=Zx (aF d);omega)
      generalize x2=n at *;go_wp2;refine wp_region_held_drew (S:=λe=>e.cell? ⟨w.1.size,0,none⟩=some (Sl v m.L.length x)/\e.cell? ⟨w.1.size,1,none⟩=some (Sl (some ⟨pb,g,none⟩) m.P.length D)/\e.cell? ⟨pb,g+b*2+1,none⟩=some (Yf n)) fR ⟨o,s,T⟩ (λa=>?_);refine tkA 0 a ?_;refine tkA 1 a ?_;refine tkA 2 a ?_;refine tkA 3 a ?_;refine tkA 4 a ?_;refine tkA 5 a ?_;refine tkL 6 76 (Bo true) a ?_;refine tkL 7 77 (Bo true) a ?_;refine skL 8 78 a ?_;refine skL 9 79 a ?_;refine skL 10 80 a ?_;refine skL 11 81 a ?_;refine skL 12 82 a ?_;refine skL 13 83 a ?_;refine skL 14 84 a ?_;refine skL 15 85 a ?_;refine skL 16 86 a ?_;refine skL 17 87 a ?_;refine tkL 18 88 (Bo true) a ?_;exact jr
    by_cases aO:(m.L.length:Int)<=x2
    . have h:Hi (z=false):=h_ (E λd=>by have:=Zx (aF d);omega)
      generalize x2=n at *;go_wp2;refine wp_region_held_drew (S:=λe=>e.cell? ⟨w.1.size,0,none⟩=some (Sl v m.L.length x)/\e.cell? ⟨w.1.size,1,none⟩=some (Sl (some ⟨pb,g,none⟩) m.P.length D)/\e.cell? ⟨pb,g+b*2+1,none⟩=some (Yf n)) fR ⟨o,s,T⟩ (λa=>?_);refine tkA 0 a ?_;refine tkA 1 a ?_;refine tkA 2 a ?_;refine tkA 3 a ?_;refine tkA 4 a ?_;refine tkA 5 a ?_;refine tkL 6 76 (Bo false) a ?_;refine tkL 7 77 (Bo false) a ?_;refine tkA 8 a ?_;refine tkA 9 a ?_;refine tkA 10 a ?_;refine tkA 11 a ?_;refine tkA 12 a ?_;refine tkA 13 a ?_;refine tkA 14 a ?_;refine tkA 15 a ?_;refine tkA 16 a ?_;refine tkL 17 87 (Bo true) a ?_;refine tkL 18 88 (Bo true) a ?_;exact jr
    have aW:Hi (inR m.L.length x2=true):=h_ (keG fP fP);have am:=h_ (ag aV aW);go_wp2;refine wp_region_held_drew (S:=λe=>e.cell? ⟨w.1.size,0,none⟩=some (Sl v m.L.length x)/\e.cell? ⟨w.1.size,1,none⟩=some (Sl (some ⟨pb,g,none⟩) m.P.length D)/\e.cell? ⟨pb,g+b*2+1,none⟩=some (Yf x2)) fR ⟨o,s,T⟩ (λa=>?_);refine tkA 0 a ?_;refine tkA 1 a ?_;refine tkA 2 a ?_;refine tkA 3 a ?_;refine tkA 4 a ?_;refine tkA 5 a ?_;refine tkL 6 76 (Bo false) a ?_;refine tkL 7 77 (Bo false) a ?_;refine tkA 8 a ?_;refine tkA 9 a ?_;refine tkA 10 a ?_;refine tkA 11 a ?_;refine tkA 12 a ?_;refine tkA 13 a ?_;refine tkA 14 a ?_;refine tkA 15 a ?_;refine tkA 16 a ?_;refine tkL 17 87 (Bo false) a ?_;refine tkL 18 88 (Bo false) a ?_;refine wpAnyH_done fR ?_ _;refine rQ ?_;exact⟨b+1,fP,fX,am,A⟩
  obtain rfl:b=m.P.length:=fP
  have ak:¬ (m.P.length:Int)<(m.P.length:Int):=fP
  have HP:Hi (∀n,n∈m.P->inR m.L.length n.1=true/\inR m.L.length n.2=true):=h_ λn V=>by
   obtain⟨c,y,rfl⟩:=Zj.1 V;exact U c y y
  replace q:=B;replace t:=N;replace C:=h_ (C.mono A);replace j:=M;go_wp2_with fail;clear o s G Q A U I ak B N M;obtain⟨W6,aN⟩:=Nq wr;rw[aN]at j t C q⊢;clear aN;go_loopw [5] (λW wr=>∃(b:Nat),b<=m.R.length/\W=Yf b/\(∀c (H:c<m.R.length),c<b->inR m.L.length m.R[c].lb=true)/\Bw W6 wr) (λW _=>m.R.length - (intOf W).toNat)
  case atStart=>exact⟨0,nZ _,rfl,λc _ y=>absurd y (nL _),bR _ _⟩
  case round =>
   obtain⟨b,hk,rfl,Z,k⟩:=hrel;obtain⟨U,A⟩:=oB Z k;have B:=mB q k;have N:=h_ (t.u.mono k);have M:=mT j k;obtain⟨o,s,G,Q⟩:=kac B;clear Z k;by_cases I:b<m.R.length
   . have ak:(b:Int)<m.R.length:=fP
     obtain⟨pb,g,rfl,-,z0,T⟩:=N.r b I;have X:Hi (Bw w wr.drew):=h_ M.drew;have Y:Hi (VfA m->inR m.L.length m.R[b].lb=true):=h_ λd=>d.ro _ (Yr I);have ag:Hi (inR m.L.length m.R[b].lb=true->∀c (H:c<m.R.length),c<b+1->inR m.L.length m.R[c].lb=true):=h_ λg1 c H y=>by
      by_cases ej:c=b
      . subst ej;exact g1
      . exact U c H fP
     obtain⟨K,az⟩:=Nq (m.R[b].lb);rw[az]at Y ag T;clear az;by_cases aQ:K<0
     . have h:Hi (z=false):=h_ (E λd=>by have:=Zx (Y d);omega)
       generalize K=n at *;go_wp2;refine wp_region_held_drew (S:=λe=>e.cell? ⟨w.1.size,0,none⟩=some (Sl v m.L.length x)/\e.cell? ⟨w.1.size,2,none⟩=some (Sl (some ⟨pb,g,none⟩) m.R.length J)/\e.cell? ⟨pb,g+b*2+1,none⟩=some (Yf n)) fR ⟨o,G,T⟩ (λa=>?_);refine rp ?_
       repeat refine tkX a ?_
       exact js
     by_cases aO:(m.L.length:Int)<=K
     . have h:Hi (z=false):=h_ (E λd=>by have:=Zx (Y d);omega)
       generalize K=n at *;go_wp2;refine wp_region_held_drew (S:=λe=>e.cell? ⟨w.1.size,0,none⟩=some (Sl v m.L.length x)/\e.cell? ⟨w.1.size,2,none⟩=some (Sl (some ⟨pb,g,none⟩) m.R.length J)/\e.cell? ⟨pb,g+b*2+1,none⟩=some (Yf n)) fR ⟨o,G,T⟩ (λa=>?_);refine tkA 0 a ?_;refine tkA 1 a ?_;refine tkA 2 a ?_;refine tkA 3 a ?_;refine tkA 4 a ?_;refine tkA 5 a ?_;refine tkL 6 102 (Bo false) a ?_;refine tkL 7 103 (Bo false) a ?_;refine tkA 8 a ?_;refine tkA 9 a ?_;refine tkA 10 a ?_;refine tkA 11 a ?_;refine tkA 12 a ?_;refine tkA 13 a ?_;refine tkA 14 a ?_;refine tkA 15 a ?_;refine tkA 16 a ?_;refine tkL 17 113 (Bo true) a ?_;refine tkL 18 114 (Bo true) a ?_;exact js
     have am:=h_ (ag (keG fP fP));replace A:Hi (Bw W6 wr.drew):=h_ A.drew;go_wp2;refine wp_region_held_drew (S:=λe=>e.cell? ⟨w.1.size,0,none⟩=some (Sl v m.L.length x)/\e.cell? ⟨w.1.size,2,none⟩=some (Sl (some ⟨pb,g,none⟩) m.R.length J)/\e.cell? ⟨pb,g+b*2+1,none⟩=some (Yf K)) fR ⟨o,G,T⟩ (λa=>?_);refine tkA 0 a ?_;refine tkA 1 a ?_;refine tkA 2 a ?_;refine tkA 3 a ?_;refine tkA 4 a ?_;refine tkA 5 a ?_;refine tkL 6 102 (Bo false) a ?_;refine tkL 7 103 (Bo false) a ?_;refine tkA 8 a ?_;refine tkA 9 a ?_;refine tkA 10 a ?_;refine tkA 11 a ?_;refine tkA 12 a ?_;refine tkA 13 a ?_;refine tkA 14 a ?_;refine tkA 15 a ?_;refine tkA 16 a ?_;refine tkL 17 113 (Bo false) a ?_;refine tkL 18 114 (Bo false) a ?_;refine wpAnyH_done fR ?_ _;clear a;refine rQ ?_;exact⟨b+1,fP,fX,am,A⟩
   obtain rfl:b=m.R.length:=fP
   have ak:¬ (m.R.length:Int)<(m.R.length:Int):=fP
   have a0:Hi (∀n,n∈m.R->inR m.L.length n.lb=true):=h_ λn V=>by
    obtain⟨c,y,rfl⟩:=Zj.1 V;exact U c y y
   replace q:=B;replace t:=N;replace C:=h_ (C.mono A);replace j:=M;go_wp2_with fail;clear o s G Q A U I ak B N M;obtain⟨W7,K⟩:=Nq wr;rw[K]at j t C q⊢;clear K;go_loopw [6] (λW wr=>∃(b:Nat),b<=m.F.length/\W=Yf b/\(∀c (H:c<m.F.length),c<b->kan m.L.length m.R.length m.F[c]=true/\kah (kaa m) m.F[c]=true)/\Bw W7 wr) (λW _=>m.F.length - (intOf W).toNat)
   case atStart=>exact⟨0,nZ _,rfl,λc _ y=>absurd y (nL _),bR _ _⟩
   case round =>
    obtain⟨b,hk,rfl,Z,k⟩:=hrel;obtain⟨U,A⟩:=oB Z k;have B:=mB q k;obtain⟨N,ay⟩:=oB (t.u.mono k) (C.mono k);have M:=mT j k;clear Z k;by_cases I:b<m.F.length
    . have ak:(b:Int)<m.F.length:=fP
      obtain⟨Wr,K⟩:=Nq wr;rw[K]at A B N ay M⊢;clear K;obtain⟨pb,g,rfl,K,T⟩:=N.f b I;have Y:Hi (VfA m->kan m.L.length m.R.length m.F[b]=true/\kah (kaa m) m.F[b]=true):=h_ λd=>⟨d.fi _ (Yr I),d.kn _ (Yr I)⟩;have ag:Hi (kan m.L.length m.R.length m.F[b]=true->kah (kaa m) m.F[b]=true->∀c (H:c<m.F.length),c<b+1->kan m.L.length m.R.length m.F[c]=true/\kah (kaa m) m.F[c]=true):=h_ λg1 g2 c H y=>by
       by_cases ej:c=b
       . subst ej;exact⟨g1,g2⟩
       . exact U c H fP
      have aL:=h_ (HF.f _ (Yr I));obtain⟨fa,W⟩:=Nq (ao b);dsimp only at K T;rw[W]at K T;obtain⟨aJ,aM⟩:=oB K T;clear K T W;generalize m.F[b]=K at *;obtain⟨W,X,ai,ac,Z,aa,av,ae,au,ad⟩:=fa;have aD:=h_ (q0u K ⟨W,X,ai,ac,Z,aa,av,ae,au,ad⟩ m ⟨v,x,ap,D,ar,J,some ⟨pb,g,none⟩,O,ao⟩ Wr.drew aL (aM.mono (bR _ _).drew));unfold fV mV at aD;dsimp only at aD;have aT:Hi (∀T,Bw Wr T->Gv 49 #[.agg (Jb K W X ai ac Z aa av ae au ad),Sl an m.F.length cn] T (Bo (kah (kaa m) K))):=h_ λT k=>by
       have H:=q0s K ⟨W,X,ai,ac,Z,aa,av,ae,au,ad⟩ an cn (kaa m) T aL (by rw[<- ax.u];exact aP) (aM.mono k) (ay.mono k);rw[<- ax.u]at H;exact H
      generalize kan m.L.length m.R.length K=g1 at *;generalize kah (kaa m) K=g2 at *;obtain⟨o,s,G,Q⟩:=kac B;go_wp2_with fail;clear o s G Q;refine wp_region_held_drew (S:=λe=>Blk e w.1.size 28 (Jd v m x ap D ar J (some ⟨pb,g,none⟩) O)/\kdw e pb (g+b*9) K ⟨W,X,ai,ac,Z,aa,av,ae,au,ad⟩) fR ⟨B,aJ⟩ (λa=>?_);refine rp ?_
      repeat refine tkX a ?_
      refine tkL 1 123 (Sl (some ⟨pb,g,none⟩) m.F.length O) a ?_ (hy:=λw e=>by obtain⟨hk,-,q0,q1,q2,q3,q4,q5,q6,q7,q8⟩:=e;obtain⟨-,-,-,p3⟩:=kac hk;simp[execOp,go_sem,p3])
      repeat refine tkX a ?_
      refine tkL 4 126 (.agg (Jb K W X ai ac Z aa av ae au ad)) a ?_ (hy:=λw e=>by obtain⟨hk,-,q0,q1,q2,q3,q4,q5,q6,q7,q8⟩:=e;simp[execOp,go_sem,q0,q1,q2,q3,q4,q5,q6,q7,q8]);refine tkL 5 127 (.agg (Ja v m x ap D ar J (some ⟨pb,g,none⟩) O)) a ?_ (hy:=λw e=>by obtain⟨hk,-,q0,q1,q2,q3,q4,q5,q6,q7,q8⟩:=e;obtain⟨p0,p1,p2,p3⟩:=kac hk;simp[execOp,go_sem,p0,p1,p2,p3]);refine kap (i:=6) (f:=48) (args:=#[.agg (Jb K W X ai ac Z aa av ae au ad),.agg (Ja v m x ap D ar J (some ⟨pb,g,none⟩) O)]) (R:=λaw wz=>aw=Bo g1/\Bw Wr wz) 128 rfl rfl gb fR gd (aD.mono λa4 w6 ⟨he,k⟩=>⟨_,he,rfl,q2j k⟩) ?_;rintro r3 T ⟨rfl,H⟩;have aB:=h_ H;replace a:Blk T w.1.size 28 (Jd v m x ap D ar J (some ⟨pb,g,none⟩) O)/\kdw T pb (g+b*9) K ⟨W,X,ai,ac,Z,aa,av,ae,au,ad⟩:=⟨B.mono H B.lt,aJ.mono H⟩;clear H;refine⟨a,?_⟩;refine kav fQ fQ ?_;have aI:Hi (Bw w T):=h_ (M.trans (aB.mono M.size));have aR:Hi (Bw W7 T):=h_ (A.trans (aB.mono A.size));cases g1
      . have h:Hi (z=false):=h_ (E λd=>by have:=(Y d).1;cases this)
        repeat refine tkX a ?_
        refine wpAnyH_done fR ?_ _;clear a;go_wp2;go_ret;exact⟨qkd h.symm,aI⟩
      repeat refine tkX a ?_
      refine tkL 10 132 (Sl (some ⟨pb,g,none⟩) m.F.length O) a ?_ (hy:=λw e=>by obtain⟨hk,-,q0,q1,q2,q3,q4,q5,q6,q7,q8⟩:=e;obtain⟨-,-,-,p3⟩:=kac hk;simp[execOp,go_sem,p3])
      repeat refine tkX a ?_
      refine tkL 13 135 (.agg (Jb K W X ai ac Z aa av ae au ad)) a ?_ (hy:=λw e=>by obtain⟨hk,-,q0,q1,q2,q3,q4,q5,q6,q7,q8⟩:=e;simp[execOp,go_sem,q0,q1,q2,q3,q4,q5,q6,q7,q8])
      repeat refine tkX a ?_
      have aU:=aT T aB;refine kap (i:=15) (f:=49) (args:=#[.agg (Jb K W X ai ac Z aa av ae au ad),Sl an m.F.length cn]) (R:=λaw wz=>aw=Bo g2/\Bw T wz) 137 rfl rfl gb fR gd ((aU).mono λa4 w6 ⟨he,k⟩=>⟨_,he,rfl,k⟩) ?_;rintro r3 H ⟨rfl,e⟩;have aC:Hi (Bw w H):=mT aI e;have aS:Hi (Bw W7 H):=mT aR e;replace a:Blk H w.1.size 28 (Jd v m x ap D ar J (some ⟨pb,g,none⟩) O)/\kdw H pb (g+b*9) K ⟨W,X,ai,ac,Z,aa,av,ae,au,ad⟩:=⟨a.1.mono e a.1.lt,a.2.mono e⟩;clear e;refine⟨a,?_⟩;refine kav fQ fQ ?_;cases g2
      . have h:Hi (z=false):=h_ (E λd=>by have:=(Y d).2;cases this)
        repeat refine tkX a ?_
        refine wpAnyH_done fR ?_ _;clear a;go_wp2;go_ret;exact⟨qkd h.symm,aC⟩
      have am:=h_ (ag rfl rfl)
      repeat refine tkX a ?_
      refine wpAnyH_done fR ?_ _;clear a;refine rQ ?_;exact⟨b+1,fP,fX,am,aS⟩
    obtain rfl:b=m.F.length:=fP;have ak:¬ (m.F.length:Int)<(m.F.length:Int):=fP;have d:Hi (VfA m):=h_ ⟨fP,fP,fP,fP,aX,aY,aZ,HP,a0,λn V=>by
     obtain⟨c,y,rfl⟩:=Zj.1 V;exact(U c y y).1,λn V=>by
     obtain⟨c,y,rfl⟩:=Zj.1 V;exact(U c y y).2⟩
    have a:=h_ (q18 m ⟨v,x,ap,D,ar,J,af,O,ao⟩ wr HF d N);have h:Hi (z=decide ((cT m).length<=30000)):=h_ (a1 d);obtain⟨c,g⟩:∃c:Tb,⟨(cT m).toArray⟩=c:=⟨_,rfl⟩;have n:c.size=(cT m).length:=(by rw[<- g];rfl);have y:(cT m).length<=3714016:=(by rw[<- kdL];exact kdd d _);rw[<- n]at h y;rw[g]at a;unfold mV at a;dsimp only at a;clear g n;obtain⟨o,s,G,Q⟩:=kac B;go_wp2_with fail;refine cQ a λH e=>?_;have aC:Hi (Bw w H):=mT M e;clear e;have e:Hi (z=decide ((c.size:Int)<=30000)):=h_ (by rw[h.u];exact decide_eq_decide.2 fP);go_wp2;go_ret;exact⟨qkd e.symm,aC⟩
