import Derived.Test.YtdlnflnfbcaiiaaGreatDoorW45
import Derived.Test.YtdlnflnfbcaiiaaGreatDoorW44
import Derived.Test.YtdlnflnfbcaiiaaGreatDoorW42
set_option linter.all false
set_option maxRecDepth 100000
set_option maxHeartbeats 0
namespace Go.Proofs.YtdlnflnfbcaiiaaGreatDoor
open Value renaming slice->Sl,string->St,bool->Bo
open Obj renaming cells->Cl
open Ending renaming returned->Rt
open Option renaming none->Nn,some->Sm
open Bool renaming true->Tt,false->Ff
open Go Go.RowKit Go.Proofs.Tryz
variable {w W:Tw}{k:Nat}{m:Fm}{t:TypeId}{a:To}
def qv2 {f:Fl}{v:Vx}(h:O1 v):BL f v=if v.k≠0/\v.k≠4/\v.k≠f.ty then C1 1 else v:=by grind[BL,A9,O1,C1]
def JM {b:Nat}{i:Bool}{c:Cx}{v:Vx}{f:Fl}{G:FA}(h:m0 W b t (oH i c v f G)):W.cell? (Aq b 11)=Sm (Sl G.h f.wh.length G.hc)/\(W.cell? (Aq b 0)=Sm (Ye c.v.k)/\W.cell? (Aq b 1)=Sm (Ye c.v.n)/\W.cell? (Aq b 2)=Sm (St c.v.s)/\W.cell? (Aq b 3)=Sm (Bo c.rel))/\W.frozen? (Aq b 0)=Ff/\W.frozen? (Aq b 1)=Ff/\W.frozen? (Aq b 2)=Ff/\W.frozen? (Aq b 3)=Ff :=
 ⟨by rw[h.cell];rfl,⟨by rw[h.cell];rfl,by rw[h.cell];rfl,by rw[h.cell];rfl,by rw[h.cell];rfl⟩,h.free 0,h.free 1,h.free 2,h.free 3⟩
def P1.val {P:m7}{e:Nat->Cx}{d:Nat->Vx}(h:P1 P e d W)(a:k<P.m.F.length)(z:Vx)(c:Cx)(N:c=⟨z,(e k).rel,(e k).ok,(e k).must⟩):P1 P (CA e k c) d (((W.setCell (Aq (P.Bs k) 0) (Ye z.k)).setCell (Aq (P.Bs k) 1) (Ye z.n)).setCell (Aq (P.Bs k) 2) (St z.s)):=by have b:=((h.cell a 0 (Ye z.k) ⟨⟨z.k,(e k).v.n,(e k).v.s⟩,(e k).rel,(e k).ok,(e k).must⟩ (λ_ _ _ _=>rfl)).cell a 1 (Ye z.n) ⟨⟨z.k,z.n,(e k).v.s⟩,(e k).rel,(e k).ok,(e k).must⟩ (λ_ _ _ _=>by exact Uz)).cell a 2 (St z.s) ⟨z,(e k).rel,(e k).ok,(e k).must⟩ (λ_ _ _ _=>by exact Uz);rw[DM,DM,<- N]at b;exact b
def qd0 (P:m7)(e:Nat->Cx)(a:Nat->Vx)(k:Nat)(W:Tw)(d:zA P e)(b:k<P.m.F.length)(G:P1 P e a W)(l:OA P.WD):Gv (YM (E3 (A0 P.m k))) #[.pointer (Sm (Aq (P.Bs k) 0)),Yh P.Sh 0] W (vv (R7 P.m a (cS e) k).2):=by have c:=(G.bx k b).2;show Calls _ _ _ _ λx j=>x=Rt (vv (if (A0 P.m k).is.length=0 then a k else if (M5 O2 (E2 P.m (cS e)) (A0 P.m k).is).k≠0/\(M5 O2 (E2 P.m (cS e)) (A0 P.m k).is).k≠4/\(M5 O2 (E2 P.m (cS e)) (A0 P.m k).is).k≠(A0 P.m k).ty then C1 1 else M5 O2 (E2 P.m (cS e)) (A0 P.m k).is))/\Bw W j;by_cases h:(A0 P.m k).is.length=0;{have C:E3 (A0 P.m k)=Tt:=Yo h;rw[Yz h];rw[C]at c|-;exact qhr _ _ _ _ _ _ _ c};have C:E3 (A0 P.m k)=Ff:=Yl h;have g:=(d.at b rfl).1 h;rw[Ys h,<- qv2 (sL g)];rw[C]at c|-;exact qhq P e a _ _ _ _ _ _ W c g G (G.fsl b).i (l.mono G.base)
def qhu (i:Bool)(a b:Value)(w:Tw):(callFunc (YM i) #[a,b]).run prog w=.ok (.enter (YM i) #[a,b]) w:=by cases i <;> kernel_rfl
def Lw (P:m7)(e:Nat->Cx)(W:Nat->Vx)(k:Nat)(w:Tw)(C:zA P e)(a:k<P.m.F.length)(af:m6 P.m k k=Ff)(G:P1 P e W w)(T:OA P.WD):Calls prog 57 #[Yh P.Sh 0,Ye k] w λx j=>x=Rt (.tuple #[])/\P1 P (CA e k ⟨(R7 P.m W (cS e) k).2,(R7 P.m W (cS e) k).1,(e k).ok,(e k).must⟩) W j/\C6 P w j:=by have Z:=h_ λl d f b (h:wF P e l) (G:P1 P e W b) (O:Q7 b d l)=>MU P e W l d f b h G O (T.mono G.base);have O:=h_ (C.at a rfl);have d:Hi ((R7 P.m W (cS e) k).1=(decide ((A0 P.m k).wh.length=0)||P4 (M5 O2 (E2 P.m (cS e)) (A0 P.m k).wh))):=h_ rfl;obtain⟨r,V⟩:=Nq ((R7 P.m W (cS e) k).1);obtain⟨z,X⟩:=Nq ((R7 P.m W (cS e) k).2);have H:Hi (∀b,P1 P (CA e k ⟨(e k).v,r,(e k).ok,(e k).must⟩) W b->Gv (YM (E3 (A0 P.m k))) #[.pointer (Sm (Aq (P.Bs k) 0)),Yh P.Sh 0] b (.agg (Jc z.k z.n z.s))):=h_ λb i=>(by have h:=qd0 P _ W k b (C.up (k:=k) (c:=⟨(e k).v,r,(e k).ok,(e k).must⟩) (C.g k a)) a i T;have i:R7 P.m W (cS (CA e k ⟨(e k).v,r,(e k).ok,(e k).must⟩)) k=R7 P.m W (cS e) k:=Xb λj l U=>(by have R:j≠k:=λf=>(by rw[f,af]at U;cases U);unfold cS CA;rw[Ys R]);rw[i,X]at h;exact h);rw[V,X];rw[V]at d;have HX:=h_ G;obtain⟨q,S,D,p,-⟩:=G.at a;have E:w.cell? (Aq P.Sh 12)=Sm (Sl (Sm (Aq q 0)) P.m.F.length S):=(by rw[<- D];exact G.blk.cell 12);have N:Hi (∀Q b,P1 P Q W b->b.cell? (Aq P.Sh 12)=Sm (Sl (Sm (Aq q 0)) P.m.F.length S)/\b.cell? (Aq q k)=Sm (.iface (QK (E3 (A0 P.m k))) (.pointer (Sm (Aq (P.Bs k) 0))))/\q≠P.Bs k/\P.Sh≠P.Bs k):=h_ λQ b h=>(by obtain⟨i,f,o,b,M⟩:=h.at a;rw[D]at o;cases o;exact⟨by rw[<- D];exact h.blk.cell 12,b,M,Ne.symm (rE (h.bx k a).2 h.blk (nF _).2)⟩);unfold p7 at p;have hm:=IR (E3 (A0 P.m k)) (P.Bs k);have ak:=qnq (E3 (A0 P.m k)) (P.Bs k);have al:=qhu (E3 (A0 P.m k)) (.pointer (Sm (Aq (P.Bs k) 0))) (Yh P.Sh 0);have ai:(k:Int)<P.m.F.length:=fP;have aj:(0:Int)<=k:=fP;go_enter func57,ntmps57;go_wp2_with fail;refine cQ (GR _ _) λR b=>?_;have Q:=h_ (HX.mono b);have M:Hi (C6 P w R):=h_ (C6.below b);obtain⟨n1,n2⟩:=(N _ _ Q).2.2;by_cases I:(A0 P.m k).wh.length=0;{have ag:(((A0 P.m k).wh.length:Int)==0)=Tt:=(by rw[I];rfl);obtain⟨t,⟨Y,c1,c2,c3⟩,i,j,L,l⟩:=JM (Q.bx k a).2;obtain⟨E,p,-⟩:=N _ _ Q;obtain rfl:Tt=r:=(by rw[d.u,Yo I,Bool.true_or]);obtain⟨f,x⟩:=oB (Q.cell a 3 (Bo (Tt)) ⟨(e k).v,Tt,(e k).ok,(e k).must⟩ (λ_ _ _ _=>rfl)) (M.set a 3 (Bo (Tt)));have J:=h_ (H _ f);go_wp2_with fail;refine cQ J λW5 b=>?_;obtain⟨o,y⟩:=oB (f.mono b) (x.trans (C6.below b));obtain⟨t,⟨Y,c1,c2,c3⟩,i,j,L,l⟩:=JM (o.bx k a).2;go_wp2_with fail;go_end0;refine⟨rfl,?_,((y.set a 0 _).set a 1 _).set a 2 _⟩;have h:=o.val a z ⟨z,Tt,(e k).ok,(e k).must⟩ (by rw[CA,Yz rfl]);rw[DM]at h;exact h};have ag:(((A0 P.m k).wh.length:Int)==0)=Ff:=Yk.2 fP;obtain⟨t,⟨Y,c1,c2,c3⟩,i,j,L,l⟩:=JM (Q.bx k a).2;obtain⟨E,p,-⟩:=N _ _ Q;have K:=h_ (Z (A0 P.m k).wh (P.A.fa k).h (P.A.fa k).hc R (O.2.1 I) Q (Q.fsl a).h);have U:=sL (O.2.1 I);rw[Yl I,Gk]at d;obtain⟨v,ah⟩:=Nq (M5 O2 (E2 P.m (cS e)) (A0 P.m k).wh);rw[ah]at K U d;unfold vv at K;have aa:=h_ U;go_wp2_with fail;refine cQ K λW2 b=>?_;obtain⟨ae,ac⟩:=oB (Q.mono b) (M.trans (C6.below b));go_wp2_with fail;refine cQ (LC Tt _) λW3 b=>?_;obtain⟨B,ad⟩:=oB (ae.mono b) (ac.trans (C6.below b));obtain rfl:r=P4 v:=d.u;obtain⟨t,⟨Y,c1,c2,c3⟩,i,j,L,l⟩:=JM (B.bx k a).2;obtain⟨E,p,-⟩:=N _ _ B;obtain⟨f,x⟩:=oB (B.cell a 3 (Bo (P4 v)) ⟨(e k).v,P4 v,(e k).ok,(e k).must⟩ (λ_ _ _ _=>rfl)) (ad.set a 3 (Bo (P4 v)));have J:=h_ (H _ f);go_wp2_with (refine sV 28 29 v aa fY rfl rfl rfl ?_);refine cQ J λW5 b=>?_;obtain⟨o,y⟩:=oB (f.mono b) (x.trans (C6.below b));obtain⟨t,⟨Y,c1,c2,c3⟩,i,j,L,l⟩:=JM (o.bx k a).2;go_wp2_with fail;go_end0;refine⟨rfl,?_,((y.set a 0 _).set a 1 _).set a 2 _⟩;have h:=o.val a z ⟨z,P4 v,(e k).ok,(e k).must⟩ (by rw[CA,Yz rfl]);rw[DM]at h;exact h
def vS (iv:Nat->Vx)(k:Nat)(v:Vx)(j:Nat):Vx:=if j=k then v else iv j
def qvf (c:Cx)(u:Vx)(f:Fl)(A:FA)(b:Nat)(v:Vx)(w:Tw)(m:v.s.size<=9223372036854775807)(a:m0 w b (AC Tt) (oH Tt c u f A)):Calls prog 383 #[Yh b 0,.agg (Jc v.k v.n v.s)] w λx j=>x=Rt (Bo (A9 f v))/\∃W,Bw w W/\(j=W\/(j=((W.setCell (Aq b 15) (Ye v.k)).setCell (Aq b 16) (Ye v.n)).setCell (Aq b 17) (St v.s)))/\(A9 f v=Tt->j=((W.setCell (Aq b 15) (Ye v.k)).setCell (Aq b 16) (Ye v.n)).setCell (Aq b 17) (St v.s)):=by have o:=m0.new w 46 (Jc v.k v.n v.s);have t:=(bR w.1.size w).alloc (nR _) (Cl (Jc v.k v.n v.s) 46);obtain⟨e,O⟩:=Nq (w.alloc (Cl (Jc v.k v.n v.s) 46));rw[O]at o t;obtain⟨l,R⟩:=oB t (a.mono t a.lt);have J:Hi (∀y,Bw e y->y.cell? (zw w 0)=Sm (Ye v.k)/\y.cell? (zw w 1)=Sm (Ye v.n)/\y.cell? (zw w 2)=Sm (St v.s)):=h_ λy h=>T0 (o.mono h o.lt);have g:=h_ (Lh c f A b _ _ v e.drew m ((a.mono t a.lt).mono (bR _ _).drew (a.mono t a.lt).lt));obtain⟨q,j⟩:=Nq (A9 f v);rw[j]at g|-;go_enter func383,ntmps383;go_wp2_with fail;refine CB (B:=e.1.size) (W0:=e) (bR _ _) λi=>?_;have hC:=J.u;refine tq 0 1 2 i ?_;refine L0 3 i ?_;refine zF 4 9 i i.size g λp F i=>?_;refine L0 5 i ?_;refine T2 ?_;have P:=mT l i;obtain⟨y,z,C⟩:=hC _ i;have d:=R.mono i R.lt;have Y:p.cell? (Aq b 15)=Sm (Ye u.k):=(by rw[d.cell];rfl);have c1:p.cell? (Aq b 16)=Sm (Ye u.n):=(by rw[d.cell];rfl);have c2:p.cell? (Aq b 17)=Sm (St u.s):=(by rw[d.cell];rfl);have r:=d.free 15;have x:=d.free 16;have L:=d.free 17;cases q;{go_wp2;go_ret;exact⟨rfl,p,P,.inl rfl,λh=>gC⟩};go_wp2;go_ret;exact⟨rfl,p,P,.inr rfl,by first|rfl|exact λ_=>rfl⟩
def qve (p:To)(v:Vx)(w:Tw):Gv 385 #[.pointer p,.agg (Jc v.k v.n v.s)] w (Bo (E4 v N4)):=by have o:=m0.new w 46 (Jc v.k v.n v.s);have t:=(bR w.1.size w).alloc (nR _) (Cl (Jc v.k v.n v.s) 46);obtain⟨a,O⟩:=Nq (w.alloc (Cl (Jc v.k v.n v.s) 46));rw[O]at o t;have l:=h_ t;have b:Hi (∀y,Bw a y->y.cell? (zw w 0)=Sm (Ye v.k)/\y.cell? (zw w 1)=Sm (Ye v.n)/\y.cell? (zw w 2)=Sm (St v.s)):=h_ λy h=>T0 (o.mono h o.lt);obtain⟨q,J⟩:=Nq (E4 v N4);rw[J];have X:=h_ J;go_enter func385,ntmps385;go_wp2_with fail;refine CB (B:=a.1.size) (W0:=a) (bR _ _) λi=>?_;have hC:=b.u;refine L0 0 i ?_;refine zF 1 6 i i.size (mK _) λc F i=>?_;refine L0 (v:=Bo q) 2 i ?_ (hy:=λw G=>by rw[<- X.u];simp[execOp,go_sem];unfold E4 N4;exact Kk);refine L0 3 i ?_;exact D6
def Hs {f:Fl}{v:Vx}:E4 v N4=(A9 f v&&decide (v.k=0)):=by grind[zv,A9,Z1,E4,N4,tT]
def OG (f:Fl)(v:Vx):Bool:=A9 f v&&(decide (f.is.length=0)||decide (v.k=0))
def qo7 (P:m7)(e:Nat->Cx)(d:Nat->Vx)(k:Nat)(v:Vx)(W:Tw)(B:v.s.size<=9223372036854775807)(a:k<P.m.F.length)(G:P1 P e d W):Calls prog (ZM (E3 (A0 P.m k))) #[.pointer (Sm (Aq (P.Bs k) 0)),.agg (Jc v.k v.n v.s)] W λx j=>x=Rt (Bo (OG (A0 P.m k) v))/\C6 P W j/\(∃f,P1 P e f j)/\(OG (A0 P.m k) v=Tt->P1 P e (vS d k v) j):=by have l:=(G.bx k a).2;unfold OG;by_cases h:(A0 P.m k).is.length=0;{have C:E3 (A0 P.m k)=Tt:=Yo h;rw[Yo h,Bool.true_or,Bool.and_true];rw[C]at l|-;refine(qvf _ _ _ _ _ v W B l).mono λx j u=>?_;obtain⟨u,f,o,T,w⟩:=u;have g:=G.mono o;have I:C6 P W f:=C6.below o;have t:P1 P e (vS d k v) (((f.setCell (Aq (P.Bs k) 15) (Ye v.k)).setCell (Aq (P.Bs k) 16) (Ye v.n)).setCell (Aq (P.Bs k) 17) (St v.s)):=(by have V:=g.bx k a;have r:=((V.2.set 15 (Ye v.k)).set 16 (Ye v.n)).set 17 (St v.s);have b:=g.turn a (e k) v (((g.base.setCell (p:=(Aq (P.Bs k) 15)) V.1 (Ye v.k)).setCell (p:=(Aq (P.Bs k) 16)) V.1 (Ye v.n)).setCell (p:=(Aq (P.Bs k) 17)) V.1 (St v.s)) (λq J=>((heap_setCell_other _ (Aq (P.Bs k) 17) q _ J).trans (heap_setCell_other _ (Aq (P.Bs k) 16) q _ J)).trans (heap_setCell_other _ (Aq (P.Bs k) 15) q _ J)) (by rw[C]at r|-;exact r);exact DQ);have q:=((I.set a 15 (Ye v.k)).set a 16 (Ye v.n)).set a 17 (St v.s);refine⟨u,?_,?_,λJ=>by rw[w J];exact t⟩;{rcases T with T|T;{rw[T];exact I};rw[T];exact q};rcases T with T|T;{rw[T];exact⟨_,g⟩};rw[T];exact⟨_,t⟩};have C:E3 (A0 P.m k)=Ff:=Yl h;rw[Yl h,Gk,<- Hs];rw[C];refine(qve _ v W).mono λx j u=>?_;have g:=G.mono u.2;refine⟨u.1,C6.below u.2,⟨_,g⟩,λ_=>?_⟩;have V:=(g.bx k a).2;have b:=g.turn a (e k) v g.base (λ_ _=>rfl) (by rw[C]at V|-;exact V);exact DQ
def xF (m:Fm)(inp:Nat->Vx)(k:Nat):Bool:=A9 (A0 m k) (inp k)&&(decide ((A0 m k).is.length=0)||decide ((inp k).k=0))
def lA (m:Fm)(L:Nat)(inp:Nat->Vx):Bool:=decide (L=m.F.length)&&(List.range L).all (xF m inp)
def RV {L:Nat}{r:Nat->Vx}(a:k<L)(h:xF m r k=Ff):lA m L r=Ff:=by grind[lA]
def qfp {L:Nat}{r:Nat->Vx}(S:L=m.F.length)(h:∀k,k<L->xF m r k=Tt):lA m L r=Tt:=by grind[lA]
def QV {L:Nat}{r:Nat->Vx}(h:lA m L r=Tt):L=m.F.length/\∀k,k<L->xF m r k=Tt:=by grind[lA]
def kR {p:Prop}(h:p:=by go_wp2;go_ret;exact⟨by rw[H.u];rfl,d⟩):p:=h
def Mz (m:Fm)(A:MA)(L ci:Nat)(y:To)(r:Nat->Vx)(w:Tw)(hf:C3 m)(hL:L<=9223372036854775807)(aq:∀k,k<L->(r k).s.size<=9223372036854775807)(hm:I0 w m A)(hi:N2 w y L r) :
 Gv 21 #[mV m A,Sl y L ci] w (Bo (lA m L r)):=by
 obtain⟨q,hq⟩:=Nq (lA m L r);rw[hq];obtain⟨X,ag,ah⟩:=oC hq (λ(f:Fl) (G:FA) (v:Vx) W (h:v.s.size<=9223372036854775807)=>qbo f G v W h) aq;obtain⟨B,E,I,J,t,D,x,z,U⟩:=A;unfold mV;obtain⟨p,aw,R,O⟩:=nV w 28 (Jb B m E I J t D x z);have o:Hi (∀W,Bw p W->I0 W m ⟨B,E,I,J,t,D,x,z,U⟩/\N2 W y L r/\m0 W w.1.size 28 (Jj B m E I J t D x z)/\Bw w W):=h_ λW S=>⟨(hm.mono O).mono S,(hi.mono O).mono S,R.mono S R.lt,O.trans (S.mono O.size)⟩;have x3:=(E0 R).2.2.2;have ad:=h_ O;by_cases ac:L=m.F.length
 case neg =>
  have H:Hi (q=Ff):=h_ (by rw[<- X.u,lA,Yl ac];rfl);have C:((L:Int) != (m.F.length:Int))=Tt:=by simp;omega
  go_enter func21,ntmps21;go_wp2;go_ret;exact⟨by rw[H.u];rfl,ad⟩
 case pos =>
 subst ac;go_enter func21,ntmps21;go_wp2;go_loopw [5] (λi wr=>∃k:Nat,k<=m.F.length/\i=Ye k/\(∀j,j<k->xF m r j=Tt)/\Bw p wr) (λi _=>m.F.length - (intOf i).toNat)
 case atStart=>exact⟨0,nZ _,rfl,λj e=>absurd e (nL _),bR _ _⟩
 case round =>
 obtain⟨k,hk,rfl,aj,W⟩:=hrel;obtain⟨ao,av,ay,ak⟩:=o wr W;have h:=h_ aj;by_cases b:k<m.F.length
 case neg =>
  have H:Hi (q=Tt):=h_ (by rw[<- X.u];exact qfp rfl λj e=>h j fP);have a:¬ (k:Int)<m.F.length:=fP
  have d:=h_ ak;exact kR
 case pos =>
 obtain⟨f,aa⟩:=Nq (m.F[k]);obtain⟨G,hG⟩:=Nq (U k);obtain⟨v,M⟩:=Nq (r k);obtain⟨Y,Z,V,-⟩:=ao.f k b;dsimp only at V;subst V;obtain⟨P,Q,rfl,-⟩:=av k b;have hp:xF m r k=(A9 f v&&(decide (f.is.length=0)||decide (v.k=0))):=by rw[xF,V7 b,aa,M]
 have c:=h_ hp;have T:Hi (∀a,Bw p a->(a.cell? (Aq w.1.size 3)=Sm (Sl (Sm (Aq Y Z)) m.F.length z)/\a.cell? (Aq Y (Z+k*9))=Sm (St f.nm)/\a.cell? (Aq Y (Z+k*9+1))=Sm (Ye f.ty)/\a.cell? (Aq Y (Z+k*9+2))=Sm (Ye f.lb)/\a.cell? (Aq Y (Z+k*9+3))=Sm (Sl G.b f.bys.length G.bc)/\a.cell? (Aq Y (Z+k*9+4))=Sm (Sl G.i f.is.length G.ic)/\a.cell? (Aq Y (Z+k*9+5))=Sm (Sl G.h f.wh.length G.hc)/\a.cell? (Aq Y (Z+k*9+6))=Sm (Sl G.v f.va.length G.vc)/\a.cell? (Aq Y (Z+k*9+7))=Sm (St f.sy)/\a.cell? (Aq Y (Z+k*9+8))=Sm (Sl G.u f.mu.length G.uc))/\a.cell? (Aq P (Q+k*3))=Sm (Ye v.k)/\a.cell? (Aq P (Q+k*3+1))=Sm (Ye v.n)/\a.cell? (Aq P (Q+k*3+2))=Sm (St v.s)):=h_ λa S=>by
  obtain⟨i,l,C,-⟩:=o a S;obtain⟨_,_,a,N,-⟩:=i.f k b;dsimp only at a N;cases a;rw[aa,hG]at N;obtain⟨_,_,K,-,g⟩:=l k b;cases K;rw[M]at g;exact⟨⟨(E0 C).2.2.2,N.2⟩,g⟩
 have l:=h_ (ag f G v wr.drew (by rw[<- M];exact ah k b));unfold fV at l;have ae:=h_ W;obtain⟨fi,am⟩:∃a,A9 f v=a:=⟨_,rfl⟩;rw[am]at l c;go_wp2_with fail;refine CB ae λi=>?_;have hC:=T.u;refine L0 0 i ?_;refine L0 1 i ?_;refine L0 2 i ?_;refine L0 3 i ?_;refine L0 4 i ?_;refine L0 5 i ?_;refine L0 6 i ?_;refine L0 7 i ?_;refine L0 8 i ?_;refine zF 9 27 i i.size l λW4 ax a=>?_;have i:=a;refine L0 10 i ?_;refine T2 ?_;obtain⟨d,N⟩:=oB (o _ a).2.2.2 a;obtain⟨⟨x3,-,-,-,-,z4,-⟩,v0,-⟩:=T W4 a;cases fi
 case false =>
  have H:Hi (q=Ff):=h_ (by rw[<- X.u];exact RV b (by rw[c.u];rfl));exact kR
 by_cases S:f.is.length=0
 . have an:¬ (0:Int)<f.is.length:=fP
   have C:Hi (∀j,j<k+1->xF m r j=Tt):=h_ λj e=>by
    by_cases K:j=k
    . rw[K,c.u,Yo S];rfl
    . exact h j fP
   go_wp2;go_roundw
   case rel=>exact⟨k+1,fP,fU,C,N⟩
   case measure=>simp[intOf];omega
 have an:(0:Int)<f.is.length:=fP
 by_cases g:v.k=0
 . have au:(v.k != 0)=Ff:=by simp[g]
   have C:Hi (∀j,j<k+1->xF m r j=Tt):=h_ λj e=>by
    by_cases K:j=k
    . rw[K,c.u,Yo g,Bool.or_true];rfl
    . exact h j fP
   go_wp2;go_roundw
   case rel=>exact⟨k+1,fP,fU,C,N⟩
   case measure=>simp[intOf];omega
 . have au:(v.k != 0)=Tt:=by simp[g]
   have H:Hi (q=Ff):=h_ (by rw[<- X.u];exact RV b (by rw[c.u,Yl S,Yl g];rfl));exact kR
def RF (m:Fm)(sd:Bool)(L:Nat)(inp:Nat->Vx):Nat:=if sd&&lA m L inp then m.F.length else 0
def He {g:Nat->Cx}:yA w a 0 g:=λ_ k=>absurd k (nL _)
def k_ (m:Fm)(A:MA)(L a:Nat)(j:To)(r:Nat->Vx)(l:Bool)(w:Tw)(U:C3 m)(Y:L<=9223372036854775807)(ag:∀k,k<L->(r k).s.size<=9223372036854775807)(ae:∀k,k<L->I6 (r k).n)(hv:l=Tt->N1 m)(hS:∀W,I0 W m A->Gv 20 #[mV m A] W (Bo l))(hm:I0 w m A)(hi:N2 w j L r):Calls prog 6 #[mV m A,Sl j L a] w λd e=>RJ w (RF m l L r) (tE m r) d e:=by have T:=h_ hS;have E:=h_ λW (b:I0 W m A) (c:N2 W j L r)=>Mz m A L a j r W U Y ag b c;have u:Hi (l=Tt->lA m L r=Tt->∀W,I0 W m A->N2 W j L r->Calls prog 22 #[mV m A,Sl j L a] W λd e=>RJ W m.F.length (tE m r) d e):=h_ λZ K W b c=>(by obtain⟨rfl,k⟩:=QV K;have d:=hv Z;refine q8j m A j a r W d.nf (λx e=>(nG _ _ _).1 (d.fi x e)) U (λf e=>?_) b c;have:=k f e;rw[xF,Yx]at this;rw[A9,Yx]at this;exact⟨this.1.1,ae f e⟩);obtain⟨y,J⟩:=Nq (lA m L r);rw[J]at E u;have hN:RF m l L r=if l&&y then m.F.length else 0:=(by rw[RF,J]);rw[hN];obtain⟨B,e,f,g,C,D,d,z,X⟩:=A;unfold mV at *;obtain⟨k,aj,t,O⟩:=nV w 28 (Jb B m e f g C D d z);have c:Hi (∀W,Bw k W->I0 W m ⟨B,e,f,g,C,D,d,z,X⟩/\N2 W j L r/\m0 W w.1.size 28 (Jj B m e f g C D d z)/\Bw w W):=h_ λW S=>⟨(hm.mono O).mono S,(hi.mono O).mono S,t.mono S t.lt,O.trans (S.mono O.size)⟩;obtain⟨G,K,P,Q⟩:=E0 t;go_enter func6,ntmps6;go_wp2_with fail;refine cQ (T k (c k (bR _ _)).1) λp x=>?_;obtain⟨q,H,o,i⟩:=c p x;obtain⟨M,b⟩:=oB x i;cases l;(case false=>have ax:=h_ (b.alloc b.size (Cl #[] 48));go_wp2;exact bQ (v:=Sl (Sm (zw p 0)) 0 0) (tM He ax));obtain⟨G,K,P,Q⟩:=E0 o;obtain⟨Z,S⟩:=oB q H;go_wp2_with fail;refine cQ (E p Z S) λI ac=>?_;have aa:=M.trans (ac.mono M.size);obtain⟨q,H,o,i⟩:=c I aa;have b:=h_ i;cases y;(case false=>have ax:=h_ (b.alloc b.size (Cl #[] 48));go_wp2;exact bQ (v:=Sl (Sm (zw I 0)) 0 0) (tM He ax));obtain⟨G,K,P,Q⟩:=E0 o;have R:=h_ (u (by first|rfl|trivial) (by first|rfl|trivial) I q H);go_wp2_with fail;refine R.mono ?_;rintro ah W3 ⟨V,W,rfl,hc,ad⟩;have N:=h_ hc;have ax:=mT b ad;go_wp2;exact bQ (v:=Sl V m.F.length W) (tM N ax)
def qi8 (i:Bool)(a b:Value)(w:Tw):(callFunc (ZM i) #[a,b]).run prog w=.ok (.enter (ZM i) #[a,b]) w:=by cases i <;> kernel_rfl
def P1.pos {P:m7}{e:Nat->Cx}{a:Nat->Vx}(h:P1 P e a W):∀j,j<P.m.F.length->P.Bs j<W.1.size:=λj s=>(h.bx j s).2.lt
def Cw (P:m7)(e:Nat->Cx)(t:Nat->Vx)(a:To)(L c:Nat)(r:Nat->Vx)(w:Tw)(af:P.m.F.length<=200)(B:∀k,k<L->(r k).s.size<=9223372036854775807)(h:N2 P.WD a L r)(G:P1 P e t w) :
 Calls prog 24 #[Yh P.Sh 0,Sl a L c] w λT b=>T=Rt (Bo (lA P.m L r))/\(∃g,P1 P e g b)/\(lA P.m L r=Tt->P1 P e r b):=by
 obtain⟨ua,o,d⟩:=G.slice;obtain⟨l,HV,HS⟩:=oC G h B;have q:w.cell? (Aq P.Sh 12)=Sm (Sl ua P.m.F.length o):=by rw[<- d];exact G.blk.cell 12
 have HU:=h_ d;clear G h B d;by_cases j:L=P.m.F.length
 case neg =>
  have M:((L:Int) != (P.m.F.length:Int))=Tt:=by simp;omega
  have v:Hi (lA P.m L r=Ff):=h_ (by rw[lA,Yl j,Bool.false_and]);rw[v.u];clear v;go_enter func24,ntmps24;go_wp2;go_ret;exact⟨rfl,⟨_,l⟩,by first|trivial|(intro h;cases h)⟩
 case pos =>
 have J:=h_ j;have M:((L:Int) != (P.m.F.length:Int))=Ff:=by simp[j]
 have K:Hi (∀k,k<L->OG (A0 P.m k) (r k)=Ff->lA P.m L r=Ff):=h_ λk p h=>RV p h;have N:Hi ((∀k,k<L->OG (A0 P.m k) (r k)=Tt)->lA P.m L r=Tt):=h_ λh=>by
  rw[lA,Yo j,Zg,Zd];exact λk p=>h k (Y6.1 p)
 obtain⟨aa,Q⟩:=Nq (lA P.m L r);rw[Q]at K N|-;clear j Q;go_enter func24,ntmps24;go_wp2_with fail;clear q M;go_loopw [5,6,17] (λ_ _ q wr=>∃k:Nat,k<=L/\q=Ye k/\(∀j,j<k->OG (A0 P.m j) (r j)=Tt)/\P1 P e (λj=>if j<k then r j else t j) wr) (λ_ _ q _=>L - (intOf q).toNat)
 case atStart=>exact⟨0,nZ _,rfl,λj h=>absurd h (nL _),l.congr (λ_ _=>rfl) λj _=>fT⟩
 case round =>
 clear l;obtain⟨k,p,rfl,l,G⟩:=hrel;obtain⟨H,M⟩:=oB l G;clear l G;by_cases E:k<L
 case pos =>
  have ae:(k:Int)<L:=fP
  have O:k<P.m.F.length:=by have:=J.u;omega
  obtain⟨ad,ag,rfl,-,Y,c1,c2⟩:=HV.mono M.base k E;have V:=HS k E;obtain⟨v,I⟩:=Nq (r k);rw[I]at Y c1 c2 V;have X:=h_ I;have C:=m0.new wr 46 (Jc v.k v.n v.s);have D:=(bR wr.1.size wr).alloc (nR _) (Cl (Jc v.k v.n v.s) 46);obtain⟨z,y⟩:=Nq (wr.alloc (Cl (Jc v.k v.n v.s) 46));rw[y]at C D;have B:=M.mono D;obtain⟨x,A⟩:=oB B C;have ac:Hi (∀j,j<P.m.F.length->wr.1.size≠P.Bs j):=h_ λj l h=>by have:=M.pos j l;omega
  obtain⟨q,cq,d,U,-⟩:=B.at O;obtain⟨rfl,rfl⟩:ua=Sm (Aq q 0)/\o=cq:=by have:=HU.symm.trans d;simpa using this
  have Z:Hi (∀Q g W,P1 P Q g W->W.cell? (Aq P.Sh 12)=Sm (Sl (Sm (Aq q 0)) P.m.F.length o)/\W.cell? (Aq q k)=Sm (p7 (E3 (A0 P.m k)) (P.Bs k))):=h_ λQ g W h=>by
   obtain⟨q',W,G,Q,-⟩:=h.at O;rw[d]at G;cases G;exact⟨by rw[<- d];exact h.blk.cell 12,Q⟩
  clear I C D B U d;go_wp2_with fail
  try rw[y]
  clear y Y c1 c2;have U:=Z _ _ _ x;refine wp_region_held_drew (S:=λb=>(b.cell? (Aq P.Sh 12)=Sm (Sl (Sm (Aq q 0)) P.m.F.length o)/\b.cell? (Aq q k)=Sm (p7 (E3 (A0 P.m k)) (P.Bs k)))/\b.cell? (Aq wr.1.size 0)=Sm (Ye v.k)/\b.cell? (Aq wr.1.size 1)=Sm (Ye v.n)/\b.cell? (Aq wr.1.size 2)=Sm (St v.s)) fR ⟨U,T0 A⟩ (λd=>?_);refine L0 0 d ?_;refine L0 1 d ?_;refine L0 2 d ?_;refine L0 3 d ?_;refine L0 4 d ?_;refine L0 5 d ?_;refine L0 6 d ?_;refine L0 7 d ?_;have D:=x.mono (bR _ _).drew;refine DG (i:=8) (f:=ZM (E3 (A0 P.m k))) (args:=#[.pointer (Sm (Aq (P.Bs k) 0)),.agg (Jc v.k v.n v.s)]) (R:=λW b=>W=Bo (OG (A0 P.m k) v)/\C6 P z.drew b/\(∃g,P1 P e g b)/\(OG (A0 P.m k) v=Tt->P1 P e (vS (λj=>if j<k then r j else t j) k v) b)) 30 rfl rfl fY fR (by simp[execOp,go_sem,p7,Xl,qi8]) ((qo7 P e _ k v z.drew V O D).mono λT b ⟨y,h⟩=>⟨_,y,rfl,h⟩) ?_;rintro W I ⟨rfl,C,⟨g,Q⟩,G⟩;have T:=(C.block wr.1.size A.lt ac).trans (show z.drew.heap[wr.1.size]? = _ from A);have d:(I.cell? (Aq P.Sh 12)=Sm (Sl (Sm (Aq q 0)) P.m.F.length o)/\I.cell? (Aq q k)=Sm (p7 (E3 (A0 P.m k)) (P.Bs k)))/\I.cell? (Aq wr.1.size 0)=Sm (Ye v.k)/\I.cell? (Aq wr.1.size 1)=Sm (Ye v.n)/\I.cell? (Aq wr.1.size 2)=Sm (St v.s):=⟨Z _ _ _ Q,T0 T⟩;refine⟨d,?_⟩;refine I1 fQ fQ ?_;refine L0 9 d ?_;refine T2 ?_;have B:Hi (∃g,P1 P e g I):=h_ ⟨g,Q⟩;have y:=h_ G;clear d C Q G T D U x A Z;obtain⟨C,d⟩:=Nq (OG (A0 P.m k) v);rw[d]at y|-;have x:=h_ d;clear d;cases C
  . obtain rfl:aa=Ff:=K k E (by rw[X.u];exact x)
    go_wp2;go_ret;exact⟨rfl,B⟩
  . have A:Hi (P1 P e (λj=>if j<k+1 then r j else t j) I):=h_ ((y rfl).congr (λ_ _=>rfl) λj _=>by
     unfold vS;by_cases l:j=k
     . subst l;rw[Yz rfl,Yz (Vc _)];exact X.symm
     . rw[Ys l]
       dsimp only;by_cases h:j<k
       . rw[Yz h,Yz fP]
       . rw[Ys h,Ys fP])
    have d:Hi (∀j,j<k+1->OG (A0 P.m j) (r j)=Tt):=h_ λj l=>by
     by_cases h:j=k
     . subst h;rw[X.u];exact x
     . exact H j fP
    clear y B;go_wp2;go_roundw
    case rel=>first|exact⟨k+1,fP,fU,d,A⟩|((repeat apply Exists.intro);exact⟨⟨k+1,fP,fU,d,A⟩,rfl⟩)
    case measure=>simp[intOf];omega
 case neg =>
  obtain rfl:L=k:=fP
  obtain rfl:aa=Tt:=N H;have b:=h_ (M.congr (λ_ _=>rfl) λj l=>by rw[Yz (by rw[J.u];exact l)]);go_wp2;go_ret;exact⟨rfl,⟨_,b⟩,by first|exact b|exact λ_=>b⟩
