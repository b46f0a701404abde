import Derived.Test.YtdlnflnfbcaiiaaGreatDoorW47
import Derived.Test.YtdlnflnfbcaiiaaGreatDoorW46
set_option linter.all false
set_option maxRecDepth 100000
set_option maxHeartbeats 0
namespace Go.Proofs.YtdlnflnfbcaiiaaGreatDoor
open Value renaming slice->Sl,bool->Bo
open Ending renaming returned->Rt
open Option renaming none->Nn,some->Sm
section
open Go Go.RowKit Go.Proofs.Tryz
def GH (w:Tw)(n:Nat)(g:Nat->Cx)(r:Ending)(w':Tw):Prop:=∃a c,r=Rt (Sl a n c)/\w'.ownsRow w.1.size 48 6 (Sl a n c) n (Q9 g n)/\Bw w w'
def qd4 (P:m7)(e:Nat->Cx)(o:Nat->Vx)(w:Tw)(aa:P.m.F.length<=200)(d:P1 P e o w) :
 Calls prog 26 #[Yh P.Sh 0] w λr j=>GH w P.m.F.length e r j:=by
 obtain⟨t,v,b⟩:=d.slice;have ac:w.cell? (Aq P.Sh 12)=Sm (Sl t P.m.F.length v):=by rw[<- b];exact d.blk.cell 12
 have z:=h_ b;obtain⟨B,g⟩:=Nq w.1.size;have R:Hi (∀W,Below B w W->P1 P e o W/\B<=W.1.size):=h_ λW h=>by rw[<- g]at h|-;exact⟨d.mono h,h.size⟩
 have x:Hi (∀a c W,W.ownsRow B 48 6 (Sl a P.m.F.length c) P.m.F.length (Q9 e P.m.F.length)->Below B w W->GH w P.m.F.length e (Rt (Sl a P.m.F.length c)) W):=h_ λa c W f r=>by rw[<- g]at f r;exact⟨a,c,rfl,f,r⟩
 go_enter func26,ntmps26;go_wp2;go_loopw [3,5,11] (λa _ i wr=>∃(k:Nat) (c:To) (G:Nat),k<=P.m.F.length/\i=Ye k/\a=Sl c k G/\wr.ownsRow B 48 6 (Sl c k G) k (Q9 e k)/\Below B w wr) (λ_ _ i _=>P.m.F.length - (intOf i).toNat)
 case atStart=>exact⟨0,Nn,0,nZ _,rfl,rfl,World.ownsRow_nil _ _ _ _,bR _ _⟩
 case round =>
 obtain⟨k,c,G,W,rfl,rfl,J,D⟩:=hrel;obtain⟨V,l⟩:=oB J D;by_cases S:k<P.m.F.length
 case pos =>
  have Z:(k:Int)<P.m.F.length:=fP
  obtain⟨N,Y,b,L,-⟩:=(R _ l).1.at S;obtain⟨rfl,rfl⟩:t=Sm (Aq N 0)/\v=Y:=by have:=z.symm.trans b;simpa using this
  unfold p7 at L;have hm:=IR (E3 (A0 P.m k)) (P.Bs k);go_wp2_with fail;refine cQ (GR _ _) λI i=>?_;have T:=l.trans (i.mono (R _ l).2);have A:=XG V i;obtain⟨C,M⟩:=R _ T;have a:=(C.bx k S).2;obtain⟨y,j⟩:=Nq (e k);rw[j]at a;have r:=h_ j;have q0:I.cell? (Aq (P.Bs k) 0)=Sm (Ye y.v.k):=by rw[a.cell];rfl
  have q1:I.cell? (Aq (P.Bs k) 1)=Sm (Ye y.v.n):=by rw[a.cell];rfl
  have q2:I.cell? (Aq (P.Bs k) 2)=Sm (.string y.v.s):=by rw[a.cell];rfl
  have q3:I.cell? (Aq (P.Bs k) 3)=Sm (Bo y.rel):=by rw[a.cell];rfl
  have q4:I.cell? (Aq (P.Bs k) 4)=Sm (Bo y.ok):=by rw[a.cell];rfl
  have q5:I.cell? (Aq (P.Bs k) 5)=Sm (Bo y.must):=by rw[a.cell];rfl
  obtain⟨f,p⟩:=oB A T;go_wp2_with (at_builtin;refine R5 VL f fP ?_);intro O X K H _ _;have h:X.ownsRow B 48 6 O (k+1) (Q9 e (k+1)):=by rw[ZL,r.u];exact K
  obtain⟨Q,U,rfl⟩:=LF h;obtain⟨q,E⟩:=oB h ((p.alloc M (.cells (yD y).toArray 48)).grown H fX (λq' e=>M3 f e));refine rQ ?_;exact⟨k+1,_,_,fP,fU,rfl,q,E⟩
 case neg =>
  obtain rfl:P.m.F.length=k:=fP
  have i:=h_ (x _ _ _ V l);go_wp2;go_ret;exact i
def rX (P:m7)(k:Nat):Prop:=∃j,j<P.m.F.length/\k=P.Bs j
section
variable {P:m7} {e:Nat->Cx} {iv:Nat->Vx} {W W':Tw}
def JN {k:Nat}{o:Obj}(h:W.heap[k]? = Sm o):k<W.1.size:=(Yt.1 h).1
def C6.keepB (h:C6 P W W')(hi:Nat):E9 (rX P) hi W W':=⟨h.size,λa _ _ _ _ u k=>(h.block a (JN k) λj s e=>u ⟨j,s,e⟩).trans k⟩
def C6.keepO (h:C6 P W W')(G:P1 P e iv W):KeepsOthers W W':=⟨h.size,λa o k T=>(h.block a (JN k) λj s e=>by
 subst e;have m:=(G.bx j s).2;rw[m]at k;cases k;simp[Obj.isCells]at T).trans k⟩
def P1.out {lo hi:Nat}(h:P1 P e iv W)(T:A7 lo hi W W')(b:P.WD.1.size<=lo)(c:∀j,j<P.m.F.length->P.Bs j<lo)(B:P.Sh<lo)(Q:∀q,P.u.ownBlock=Sm q->q<lo)(f:P.pl<lo):P1 P e iv W' :=
 ⟨h.base.trans (T.below b h.base.size),h.snd,h.msl,h.lo,λj s=>⟨(h.bx j s).1,T.blk (h.bx j s).2 (Fq (c j s))⟩,h.up,T.blk h.blk fP,yK h.row λq e=>T.block q (by
  rcases h.row.2 with ⟨a,-⟩|⟨g,N,d,a,-,H,-⟩
  . rw[a]at e;cases e
  . rw[a]at e
    have Z:g=q:=gB;rw[<- Z];exact JN H) (Fq (Q q e)),(T.block _ (JN h.plm) fP).trans h.plm,h.plc,h.pll⟩
end
end
section
open Go Go.Proofs.Tryz
def qD (m:Fm)(iv:Nat->Vx)(e:Nat->Cx)(k:Nat):Nat->Cx:=CA e k ⟨(R7 m iv (cS e) k).2,(R7 m iv (cS e) k).1,(e k).ok,(e k).must⟩
def qpr (m:Fm)(W:Nat->Vx)(e:Nat->Cx)(k:Nat):cS (qD m W e k)=JD (R7 m W) (cS e) k:=by unfold qD CA JD cS;grind
def qps (m:Fm)(W:Nat->Vx)(l:List Nat)(e:Nat->Cx):cS (l.foldl (qD m W) e)=l.foldl (JD (R7 m W)) (cS e):=by induction l generalizing e with|nil=>rfl|cons k l q=>rw[List.foldl_cons,List.foldl_cons,q,qpr]
def qqv (m:Fm)(W:Nat->Vx)(l:List Nat)(e:Nat->Cx)(j:Nat):((l.foldl (qD m W) e) j).ok=(e j).ok/\((l.foldl (qD m W) e) j).must=(e j).must:=by induction l generalizing e <;> simp_all[qD,CA] <;> grind
def qk8 (m:Fm)(W:Nat->Vx)(l:List Nat)(e:Nat->Cx):l.foldl (qD m W) e=LB e (l.foldl (JD (R7 m W)) (cS e)):=by funext j;have h:=qqv m W l e j;unfold LB;rw[<- qps,<- h.1,<- h.2];rfl
def zB (m:Fm)(e:Nat->Cx)(k j:Nat):Cx:=if j<k then ⟨(e j).v,(e j).rel,IC m e (A0 m j),GC m e (A0 m j)⟩ else e j
theorem qpt (m:Fm)(e:Nat->Cx)(k:Nat):cS (zB m e k)=cS e:=by grind[cS,zB]
def qfw (m:Fm)(e:Nat->Cx)(k:Nat):CA (zB m e k) k ⟨(zB m e k k).v,(zB m e k k).rel,IC m (zB m e k) (A0 m k),GC m (zB m e k) (A0 m k)⟩=zB m e (k+1):=by grind[CA,IC,GC,zB,A0,qpt]
def qkx (m:Fm)(e:Nat->Cx)(n j:Nat)(h:j<n):zB m e n j=ZE m e (λ_=>true) j:=by grind[zB,ZE]
def Dm (m:Fm):∀n i (h:i<(Q0 m n).length),I8 m ((Q0 m n).take i)=Sm (Q0 m n)[i]:=by intro n;induction n with|zero=>intro i h;exact absurd h (nL _)|succ n q=>intro i h;cases u:I8 m (Q0 m n) with|none=>have e:=WL u;simp only[e]at h|-;exact q i h|some x=>have e:=tK u;simp only[e]at h|-;by_cases C:i<(Q0 m n).length;{rw[List.take_append_of_le_length fP,List.getElem_append_left C];exact q i C};obtain rfl:i=(Q0 m n).length:=(by rw[Yn]at h;simp at h;omega);rw[List.take_left'];{simpa using u};rfl
def qt9 {m:Fm}{n i j:Nat}(h:i<(Q0 m n).length)(s:j<m.F.length)(U:m6 m j (Q0 m n)[i]=true):j∈(Q0 m n).take i:=by have a:=(QI (Dm m n i h)).2.1;rw[GE,Yx,Zd]at a;have r:=a.2 j (Y6.2 s);rw[U]at r;simpa using r
def qt8 {m:Fm}(h:(Q0 m m.F.length).length=m.F.length){k:Nat}(d:k<m.F.length):k∈Q0 m m.F.length:=by refine Classical.byContradiction λP=>?_;have q:=O5.2 ⟨P,LN m _⟩;have:=XO m.F.length ((k :: Q0 m m.F.length).map λx:Nat=>(x:Int)) (List.pairwise_map.2 (List.Pairwise.imp (λ{a b} (h:a≠b) c=>h (Int.ofNat.inj c)) q)) (λx u=>by obtain⟨y,c,rfl⟩:=Zb.1 u;rcases Vf.1 c with rfl|c;{omega};have:=TR m _ y c;omega);rw[Zc,Y5]at this;omega
def qua {H:Type}{F:(Nat->H)->Nat->H}{D D':List Nat}(h:∀k,k∈D ↔ k∈D')(s0:Nat->H)(r:Nat):xC F D s0 r=xC F D' s0 r:=by induction r <;> simp_all[xC]
def qux (m:Fm)(b:Nat->Vx)(h:(Q0 m m.F.length).length=m.F.length)(j:Nat)(s:j<m.F.length):zB m ((Q0 m m.F.length).foldl (qD m b) λ_=>zC) m.F.length j=tE m b j:=by rw[qkx _ _ _ _ s,qk8];unfold tE;rw[qua (D':=Q0 m m.F.length) (λk=>⟨λa=>qt8 h (by simpa [OE] using a),λa=>by simpa [OE] using TR m _ k a⟩)];have:=λk=>Bp (F:=R7 m b) (fed:=λj k=>j<m.F.length/\m6 m j k=true) (λa R k B=>Xb λj s U=>B j ⟨s,U⟩) (LN m m.F.length) (λi C j U=>.inl (qt9 C U.1 U.2)) (cS λ_=>zC) (r:=m.F.length+1) (by rw[h];omega) k;rw[funext this]
end
section
open Go Go.RowKit Go.Shelf Go.Proofs.Tryz
attribute [local go_sem] Oper.semAt_some
def qlp {m:Fm}{D:List Nat}{x:Nat}(h:I8 m D=Sm x):m6 m x x=false:=by grind[GE,m6,I8]
section
variable {P:m7} {e:Nat->Cx} {iv:Nat->Vx}
def zA.clc (h:zA P e)(hi:∀j,j<P.m.F.length->O1 (iv j)){k:Nat}(a:k<P.m.F.length):zA P (qD P.m iv e k) :=
 h.up (lY a (λx u=>(nG _ _ _).1 (h.v.fi x u)) h.fit (hi k a) λj s=>h.g j s)
def zA.jud (h:zA P e)(k:Nat):zA P (zB P.m e k):=⟨h.v,h.fit,λj s=>by
 unfold zB;by_cases c:j<k
 . rw[Yz c];exact h.g j s
 . rw[Ys c];exact h.g j s⟩
structure lN (P:m7)(lo:Nat):Prop where
 d:P.WD.1.size<=lo
 b:∀j,j<P.m.F.length->P.Bs j<lo
 s:P.Sh<lo
 r:∀q,P.u.ownBlock=Sm q->q<lo
 p:P.pl<lo
def P1.low {W:Tw}(h:P1 P e iv W):lN P W.1.size:=⟨h.base.size,h.pos,h.blk.lt,λq e=>(h.row.lt q e).2,JN h.plm⟩
def lN.mono {lo n:Nat}(h:lN P lo)(a:lo<=n):lN P n:=⟨Yu h.d a,λj c=>Yw (h.b j c) a,Yw h.s a,λq e=>Yw (h.r q e) a,Yw h.p a⟩
def C6.blk {W W':Tw}(h:C6 P W W'){g lo:Nat}(a:lN P lo)(H:lo<=g){t:TypeId}{cs:Tl}(c:m0 W g t cs):m0 W' g t cs:=(h.block g c.lt λj s e=>Fq (a.b j s)).trans c
end
def qnp (n:Nat)(P:m7)(e:Nat->Cx)(iv:Nat->Vx)(w:Tw)(o:P.m.L.length=P.n)(a:zA P e)(B:∀z,z<P.m.F.length->O1 (iv z))(G:P1 P e iv w)(T:OA P.WD):CallsIn Fence.wide n prog 25 #[Yh P.Sh 0] w λx j=>x=Rt (.tuple #[])/\P1 P (zB P.m ((Q0 P.m P.m.F.length).foldl (qD P.m iv) e) P.m.F.length) iv j:=by have an:=a.v.nf;obtain⟨X,c,J,aa⟩:=oD (λi W=>Fd P.m P.A i W) (λ(k:Tw) (i b:Nat) g H j h=>W_ P.m P.A i b k g a.v a.fit H j h) (λQ k W (a:zA P Q) (y:k<P.m.F.length) V (G:P1 P Q iv W)=>Lw P Q iv k W a y V G T) (λQ k W (a:zA P Q) (y:k<P.m.F.length) (G:P1 P Q iv W)=>qfx P Q iv k W a y G T);obtain⟨i,bt,top,a1,a2,a3,c1,c2,c3,a5,c5,b,r,-,-⟩:=G.snd;have q:=G.msl;unfold wV at X;obtain⟨ua,cp,D⟩:=G.slice;have l:=m0.new w 71 #[Yh P.Sh 0];have t:=(bR w.1.size w).alloc (nR _) (.cells #[Yh P.Sh 0] 71);obtain⟨h,O⟩:=Nq (w.alloc (.cells #[Yh P.Sh 0] 71));rw[O]at l t;have C:=G.mono t;have I:h.cell? (Aq P.Sh 0)=Sm (Sl P.A.l P.m.L.length P.A.lc):=(by rw[C.blk.cell,b,o];rfl);have K:h.cell? (Aq P.Sh 1)=Sm (Sl P.A.p P.m.P.length P.A.pc):=(by rw[C.blk.cell,b];rfl);have U:h.cell? (Aq P.Sh 2)=Sm (Sl P.A.r P.m.R.length P.A.rc):=(by rw[C.blk.cell,b];rfl);have Y:h.cell? (Aq P.Sh 3)=Sm (Sl P.A.f P.m.F.length P.A.fc):=(by rw[C.blk.cell,b];rfl);have Z:h.cell? (Aq P.Sh 4)=Sm (.map (Sm i)):=(by rw[C.blk.cell,b];rfl);have E:=l.cell 0;simp only[Ym]at E;obtain⟨g,M,HU,ae,af,j⟩:=oF l C D q r G.low;obtain⟨Q,ad⟩:=oB a B;have H:=h_ t;clear G l t C b D q r a B o;refine callsIn_of_wp_marks func25 rfl trivial ?_ rfl;simp only[ntmps25,Zr,Y5,Ze,Nat.reduceAdd,Nat.reduceSub,Vu,Vt,Ob,Vw,Oc,Vj];gi_wp2_with fail;(try rw[O]);refine wA ((X i h).mono ?_);rintro e1 S ⟨rfl,r,a⟩;have g:=mB g a;have M:=h_ (M.mono a);have ah:w.1.size<h.1.size:=(by rw[<- O];simp);have ag:=r.lt;obtain⟨B,V⟩:=Nq h.1.size;rw[V]at r ah ag;have N:=h_ (c S i B (rX P) r (ae.mono M.base) (af.mono M.base));(try rw[V]);clear O r a c X I K U Y Z E H;gi_wp2_with fail;refine Rb (gf:=96) (lb:=#[Yh B 0]) rfl (enters_of func96 fR rfl) N (bR _ _) (λz ⟨o,C,a⟩=>Fq (j.b o C)) rfl (λ_ K W=>P1 P (K.foldl (qD P.m iv) e) iv W/\zA P (K.foldl (qD P.m iv) e)/\m0 W w.1.size 71 [Yh P.Sh 0]) ?hI ?h0 (λx=>{ tmps:=#[Yh P.Sh 0,Yh w.1.size 0,Ye (x:Int),undef,Yh P.Sh 0,Yh P.Sh 0,Yh P.Sh 0,Yh P.Sh 0,.agg #[Sl P.A.l P.m.L.length P.A.lc,Sl P.A.p P.m.P.length P.A.pc,Sl P.A.r P.m.R.length P.A.rc,Sl P.A.f P.m.F.length P.A.fc,.map (Sm i)],.func (.func 96) #[] #[Yh B 0],Ye (x:Int),undef,undef,undef,undef,undef,undef,undef,undef,undef,undef,undef,undef,undef,undef,undef],defers:=[] }) ?assign ?body ?done;(case hI=>rintro C K W l ⟨a,r,Z⟩ c;have b:=j.mono (show w.1.size<=S.1.size by omega);exact⟨a.out c b.d b.b b.s b.r b.p,r,c.blk Z fP⟩);(case h0=>intro W c;exact⟨M.mono c,Q,g.mono c g.lt⟩);(case assign=>intro m' ai x W l c;gi_wp2;first|exact c|simpa using c);(case body=>rintro m' ai C K x W am ⟨a,r,Z⟩ ⟨-,-,l⟩;have O:=(QI l).1;have Y:=Z.cell 0;simp only[Ym]at Y;obtain⟨D,q,E,t⟩:=oD (J _ x W r O (qlp l) a) a r Z;clear a r Z l;gi_wp2_with fail;refine BH (D.mono ?_);rintro aj W2 ⟨rfl,l,I⟩;obtain⟨X,U⟩:=oB l I;clear l I D Y;gi_wp2_with fail;refine⟨U.keepO q,U.keepB C,?_⟩;dsimp only;rw[List.foldl_append];exact⟨X,E.clc ad O,U.blk j (nR _) t⟩);case done=>rintro D C xs W hD al O ⟨a,r,Z⟩ c;rw[O]at a r;obtain⟨X,x⟩:=Nq ((Q0 P.m P.m.F.length).foldl (qD P.m iv) e);rw[x]at a r;have ac:=h_ x;have Y:=Z.cell 0;simp only[Ym]at Y;have ak:W.cell? (Aq P.Sh 12)=Sm (Sl ua P.m.F.length cp):=(by rw[<- HU.u];exact a.blk.cell 12);obtain⟨q,E,t,K⟩:=oD a r Z c;clear a r Z c O x M g Q J N;gi_wp2_with fail;clear ak Y;gi_loopw [3,19] (λ_ o wr=>∃k:Nat,k<=P.m.F.length/\o=Ye k/\P1 P (zB P.m X k) iv wr/\m0 wr w.1.size 71 [Yh P.Sh 0]/\wr.heap[D]? = Sm (.deferred (Sm []))) (λ_ o _=>P.m.F.length - (intOf o).toNat);exact⟨0,nZ _,rfl,q.congr (λz _=>by unfold zB;rw[Ys (nL _)]) λ_ _=>rfl,t,K⟩;clear q t K;obtain⟨k,y,rfl,G,a,c⟩:=hrel;obtain⟨M,H,g⟩:=oC G a c;by_cases t:k<P.m.F.length;{have x:(k:Int)<P.m.F.length:=fP;have Y:=a.cell 0;simp only[Ym]at Y;have q:=h_ (aa _ k wr (E.jud k) t G);rw[qfw]at q;clear G a c;gi_wp2_with fail;refine wA (q.mono ?_);rintro aj W2 ⟨rfl,l,I⟩;obtain⟨r,U⟩:=oB l I;clear l I q Y;gi_wp2_with fail;exact⟨⟨k+1,fP,fU,r,U.blk j (nR _) H,(U.keepO M).same _ _ g rfl⟩,by exact kZ⟩};obtain rfl:k=P.m.F.length:=fP;clear G a c;gi_wp2_with fail;refine⟨fT,.inl ⟨_,_,rfl,run_takeDeferred g,?_⟩⟩;have b:=j.mono (show w.1.size<=D by omega);exact⟨.tuple #[],by simp[results,Tryz.f25,go_sem],rfl,by rw[ac.u];exact M.u.out (A7.put (lo:=D) (hi:=D+1) wr _ (nR _) (Vc _)) b.d b.b b.s b.r b.p⟩
def qhl (P:m7)(e:Nat->Cx)(iv:Nat->Vx)(w:Tw)(O:P.m.L.length=P.n)(G:zA P e)(B:∀j,j<P.m.F.length->O1 (iv j))(a:P1 P e iv w)(l:OA P.WD) :
 Calls prog 25 #[Yh P.Sh 0] w λx j=>x=Rt (.tuple #[])/\P1 P (zB P.m ((Q0 P.m P.m.F.length).foldl (qD P.m iv) e) P.m.F.length) iv j :=
 (callsIn_wide (n:=9)).1 (qnp 9 P e iv w O G B a l)
end
section
open Go Go.RowKit Go.Proofs.Tryz
def qm5 {w:Tw}{base k n i:Nat}{e:TypeId}{v:Value}{x:Tl}(h:w.ownsRow base e i v n x)(c:k<=base):w.ownsRow k e i v n x:=by refine⟨h.1,?_⟩;rcases h.2 with W|⟨g,N,b,q,a,r⟩;{exact .inl W};exact .inr ⟨g,N,b,q,Yu c a,r⟩
def qj6 {a b:Nat}{w U W:Tw}(h1:Below a w W)(r:Below b U W)(C:a<=b)(B:w.1.size<=U.1.size):Below a w U :=
 ⟨r.os.symm.trans h1.os,r.tape.symm.trans h1.tape,r.output.symm.trans h1.output,B,λk c=>(r.block k fP).symm.trans (h1.block k c)⟩
def Wy (m:Fm)(A:MA)(v:Value)(g:Nat->Cx)(w:Tw)(a:∀W,I0 W m A->F7 W->B8 W->Q2 W->Gv 23 #[mV m A] W (.tuple #[.pointer Nn,Bo false]))(K:I0 w m A)(r:F7 w)(hy:B8 w)(b:Q2 w):Calls prog 7 #[mV m A,v] w λx j=>GH w 0 g x j:=by have G:=h_ a;obtain⟨B,d,e,f,ar,P,L,z,F⟩:=A;unfold mV at G|-;dsimp only at G|-;obtain⟨k,O,R,l⟩:=S5 w 28 (Jb B m d e f ar P L z);have J:=h_ (G k (K.mono l.u) (r.mono l.u) (hy.mono l.u) (b.mono l.u));have i:Hi (∀W,Bw w W->GH w 0 g (Rt Yf) W):=h_ λW h=>⟨Nn,0,rfl,World.ownsRow_nil _ _ _ _,h⟩;obtain⟨h,n,D,E⟩:=E0 R.u;clear K r hy b a G;go_enter func7,ntmps7;go_wp2_with fail;(try rw[O]);refine cQ J λp c=>?_;have M:=h_ (i p (l.u.trans (c.mono l.u.size)));clear c O h n D E i J l R;go_wp2;go_ret;exact M
def Xy (m:Fm)(A:MA)(n:Nat)(F:Nat->Bool)(f:Nat->Nat)(L c:Nat)(a:To)(r:Nat->Vx)(w:Tw)(I:N1 m)(v:C3 m)(o:m.L.length=n)(q:(Q0 m m.F.length).length=m.F.length)(z:∀k,k<L->(r k).s.size<=9223372036854775807)(y:∀k,k<L->I6 (r k).n)(k:∀W,I0 W m A->F7 W->B8 W->Q2 W->Calls prog 23 #[mV m A] W λx j=>∃S V U u K D,x=Rt (.tuple #[Yh U 0,Bo true])/\W.1.size<=V.1.size/\p6 m A n F f S V U u (λ_=>XB) m.F.length K D j/\Bw W j)(p:I0 w m A)(N:N2 w a L r)(B:F7 w)(hy:B8 w)(Z:Q2 w)(d:OA w):Calls prog 7 #[mV m A,Sl a L c] w λx j=>GH w (RF m true L r) (tE m r) x j:=by have G:=h_ k;have C:Hi (lA m L r=true->∀j,j<m.F.length->O1 (r j)):=h_ λh j i=>(by obtain⟨rfl,b⟩:=QV h;have:=b j i;rw[xF,Yx,A9,Yx]at this;exact⟨this.1.1,y j i⟩);have Q:=h_ λP (b:P.m=m) W (h:P1 P (λ_=>zC) (λ_=>N4) W) (e:N2 P.WD a L r)=>Cw P _ _ a L c r W (by rw[b];exact I.nf) z e h;have O:=h_ λP (b:P.m=m) (e:P.n=n) W (H:∀j,j<m.F.length->O1 (r j)) (h:P1 P (λ_=>zC) r W) (d:OA P.WD)=>qhl P _ r W (by rw[b,e];exact o) ⟨by rw[b];exact I,by rw[b];exact v,λ_ _=>tO⟩ (by rw[b];exact H) h d;have M:=h_ λP (b:P.m=m) e W (h:P1 P e r W)=>qd4 P e r W (by rw[b];exact I.nf) h;have X:=h_ λj (i:j<m.F.length)=>qux m r q j i;obtain⟨E,J⟩:=Nq (lA m L r);obtain⟨t,g⟩:=Nq (RF m true L r);have aj:Hi (E=false->t=0):=h_ λh=>(by rw[<- g,RF,J,h];rfl);have ak:Hi (E=true->t=m.F.length):=h_ λh=>(by rw[<- g,RF,J,h];rfl);rw[J]at C;rw[g];have HQ:=h_ J;clear J g;obtain⟨al,ac,ap,ad,ar,ae,af,aa,am⟩:=A;unfold mV at G|-;dsimp only at G|-;obtain⟨W0,ah,T,l⟩:=S5 w 28 (Jb al m ac ap ad ar ae af aa);have J:=h_ (G W0 (p.mono l.u) (B.mono l.u) (hy.mono l.u) (Z.mono l.u));obtain⟨Y,R⟩:=oB (N.mono l.u) (d.mono l.u);obtain⟨y0,y1,y2,y3⟩:=E0 T.u;clear p B hy Z k G N z y I v o q d;go_enter func7,ntmps7;go_wp2_with fail;(try rw[ah]);refine J.mono ?_;rintro x W1 ⟨S,V,U,u,K,D,rfl,q,G,g⟩;have N:=qj6 g G.base q q;have an:=Yu l.u.size q;have B:Hi (∀W,Bw V W->Bw w W):=h_ λW h=>(l.u.trans (N.mono l.u.size)).trans (h.mono an);obtain⟨Z,I⟩:=oB (Y.mono N) (R.mono N);obtain⟨P,b⟩:=Nq ((⟨m,⟨al,ac,ap,ad,ar,ae,af,aa,am⟩,n,F,f,S,V,U,u,K,D,.map #[] 0⟩:m7));have ai:P1 P (λ_=>zC) (λ_=>N4) W1:=(by rw[<- b];exact G.toI);have d:P.m=m:=(by rw[<- b]);have ag:P.n=n:=(by rw[<- b]);have o:P.WD=V:=(by rw[<- b]);have p:P.Sh=U:=(by rw[<- b]);have k:=h_ (Q P d W1 ai (by rw[o];exact Z));rw[d,p]at k;have z:=h_ λW H h=>O P d ag W H h (by rw[o];exact I);rw[d,p]at z;have y:=h_ λe W h=>M P d e W h;rw[d,p]at y;have v:Hi (∀e H W,P1 P e H W->Bw V W):=h_ λe H W h=>(by have:=h.base;rw[o]at this;exact this);clear b ai d ag o p Q O M g ah y0 y1 y2 y3 G N q J Y R Z I l T;rw[HQ.u]at k;go_wp2_with fail;refine k.mono ?_;rintro x I ⟨rfl,d,e⟩;obtain⟨Q,b⟩:=oB d e;clear d e k;cases E;(case false=>obtain⟨e,p⟩:=Q.u;obtain rfl:t=0:=aj rfl;have d:Hi (GH w 0 (tE m r) (Rt Yf) I):=h_ ⟨Nn,0,rfl,World.ownsRow_nil _ _ _ _,B _ (v _ _ _ p)⟩;clear p Q b;go_wp2;go_ret;exact d);obtain rfl:t=m.F.length:=ak rfl;have e:=h_ (z I (C rfl) (b rfl));clear Q b z C;go_wp2_with fail;refine cQ e λo d=>?_;have k:=h_ (y _ o d);have p:=v _ _ _ d;have q:Hi (∀x b,GH o m.F.length (zB m ((Q0 m m.F.length).foldl (qD m r) λ_=>zC) m.F.length) x b->GH w m.F.length (tE m r) x b):=h_ λx b h=>(by obtain⟨a,c,rfl,T,g⟩:=h;have Z:=B _ p;refine⟨a,c,rfl,?_,Z.trans (g.mono Z.size)⟩;have h:Q9 (zB m ((Q0 m m.F.length).foldl (qD m r) λ_=>zC) m.F.length) m.F.length=Q9 (tE m r) m.F.length:=(by unfold Q9;rw[List.flatMap_def,List.flatMap_def];congr 1;exact Zw λj i=>by rw[X.u j (Y6.1 i)]);rw[<- h];exact qm5 T Z.size);clear d p e y X B v;go_wp2_with fail;refine k.mono ?_;intro x b d;obtain⟨h,c4,rfl,T,g⟩:=q x b d;obtain⟨e,l⟩:=oB T g;clear d T g q k;go_wp2;go_ret;exact⟨h,c4,rfl,e,l.u⟩
def kS {p:Prop}(h:p:=by go_enter func36,ntmps36;go_wp2;go_ret;exact kV):p:=h
def q7r (m:Fm)(A:MA)(n:Nat)(F:Nat->Bool)(f:Nat->Nat)(S:SF)(V:Tw)(U:Nat)(Bs:Nat->Nat)(u:Value)(C:Nat)(r:Int)(e:Nat->Cx)(w:Tw)(G:p6 m A n F f S V U Bs e m.F.length u C w):Calls prog 36 #[Yh U 0,Ye r] w λx j=>x=Rt (Bo (decide (0<=r/\r<m.R.length)))/\j=w:=by obtain⟨d,o,top,b,x,c,c1,c2,c3,O,g,K,-,-,-⟩:=G.snd;have i:w.cell? (Aq U 2)=Sm (Sl A.r m.R.length A.rc):=(G.blk.cell 2).trans hU;clear G K;by_cases D:0<=r;{by_cases a:r<m.R.length;{rw[Yo ⟨D,a⟩];exact kS};rw[Yl (λh=>a h.2)];exact kS};rw[Yl (λh=>D h.1)];exact kS
def qn4 (m:Fm)(A:MA)(n:Nat)(F:Nat->Bool)(f:Nat->Nat)(S:SF)(g:Tw)(U:Nat)(Bs:Nat->Nat)(u:Value)(C r b I s:Nat)(e:Nat->Cx)(w:Tw)(aa:m.F.length<=200)(P:n<=32)(i:T8 m n (λa c=>F (a*n+c)=true) f)(G:p6 m A n F f S g U Bs e m.F.length u C w)(c:oI n F (yC m r) U b I s w) :
 Calls prog 37 #[Yh U 0,zM r b I] w λx j=>∃v,x=Rt v/\wL j w.1.size v (M8 m e (xA m n F f r) m.F.length)/\Bw w j:=by
 have H:=h_ λj W (a:j<m.F.length) (h:p6 m A n F f S g U Bs e m.F.length u C W) (d:oI n F (yC m r) U b I s W)=>qnd m A n F f S g U Bs u C r j b I s e W P a i h d;have N:=h_ λj W (a:j<m.F.length) (h:p6 m A n F f S g U Bs e m.F.length u C W)=>qui m (e j) j (Bs j) (E3 (A0 m j)) (A.fa j) W (h.bx j a).2;unfold zM PP;have D:=m0.new w 86 #[Ye r,.func (.func 71) #[] #[Yh b 0,Yh I 0]];have t:=(bR w.1.size w).alloc (nR _) (.cells #[Ye r,.func (.func 71) #[] #[Yh b 0,Yh I 0]] 86);obtain⟨d,O⟩:=Nq (w.alloc (.cells #[Ye r,.func (.func 71) #[] #[Yh b 0,Yh I 0]] 86));rw[O]at D t;obtain⟨W,l⟩:=oB D t;obtain⟨M,J⟩:=oB (G.mono t) (c.mono t);obtain⟨z,B,X⟩:=G.slice;subst X;have a:d.cell? (Aq U 12)=Sm (Sl z m.F.length B):=M.blk.cell 12;clear G c D t i P;go_enter func37,ntmps37;go_wp2_with fail
 try rw[O]
 clear O a;go_loopw [5,14] (λv i wr=>∃k:Nat,k<=m.F.length/\i=Ye k/\wL wr d.1.size v (M8 m e (xA m n F f r) k)/\Bw d wr) (λ_ i _=>m.F.length - (intOf i).toNat)
 case atStart=>exact⟨0,nZ _,rfl,World.ownsRow_nil _ _ _ _,bR _ _⟩
 case round =>
  obtain⟨k,hk,rfl,a,c⟩:=hrel;obtain⟨V,Y,p⟩:=oC a (M.mono c) (J.mono c);have q:=mB W c;have K:=h_ c;have Z:=Tj m e (xA m n F f r) k;clear c a;by_cases i:k<m.F.length
  . have R:(k:Int)<m.F.length:=fP
    obtain⟨y,L,Q,P,-⟩:=Y.at i;obtain⟨rfl,rfl⟩:z=Sm (Aq y 0)/\B=L:=(by simpa using Q);clear Q;unfold p7 at P;have j:=zY (E3 (A0 m k)) (Bs k);go_wp2_with fail;refine cQ (Ue _ _) λG Q=>?_;subst Q;have h:=q.cell 1;simp only[Ym,Yv]at h;have a:=h_ (H k G i Y p);clear j P;go_wp2_with fail;refine cQ a λt c=>?_;have Y:=h_ (Y.mono c);have K:=mT K c;have V:=h_ (S8 V c);clear c h a p q;have a:=h_ (yR m e (xA m n F f r) k);cases j:xA m n F f r k
    . rw[j,Gc,Ys fS,Zu]at a
      rw[<- a.u]at V;go_wp2;go_roundw
      case rel=>first|exact⟨k+1,fP,fU,V,K⟩|((repeat apply Exists.intro);exact⟨⟨k+1,fP,fU,V,K⟩,rfl⟩)
      case measure=>simp[intOf];omega
    rw[j,Bool.and_true]at a;have p:t.cell? (Aq (Bs k) 3)=Sm (Bo (e k).rel):=((Y.bx k i).2.cell 3).trans rfl;cases E:(e k).rel
    . rw[E]at p a
      rw[Ys fS,Zu]at a;rw[<- a.u]at V;go_wp2;go_roundw
      case rel=>first|exact⟨k+1,fP,fU,V,K⟩|((repeat apply Exists.intro);exact⟨⟨k+1,fP,fU,V,K⟩,rfl⟩)
      case measure=>simp[intOf];omega
    rw[E]at p a;rw[Yz rfl]at a;have h:=h_ (N k t i Y);obtain⟨x,o⟩:=Nq (QA m (e k) k);rw[o]at h a;unfold rV rC at h;clear o j E;go_wp2_with fail;refine cQ h λj c=>?_;have q:=S8 V c;have o:=K.trans (c.mono K.size);have O:=m0.new j 52 (rC x).toArray;have D:=(bR j.1.size j).alloc (nR _) (.cells (rC x).toArray 52);have v:=o.size;clear c p h;go_wp2_with (at_builtin;refine R5 qkl q fP ?_);intro E p T c _ _;have P:=h_ ((o.trans (D.mono v)).grown c (Yu v D.size) (λy e=>M3 V e));have h:Hi (wL p d.1.size E (M8 m e (xA m n F f r) (k+1))):=h_ (by
     rw[a.u];unfold wL IJ;rw[Vb,Yn];simpa [IJ,rC] using T)
    clear T c D O q o;go_wp2;go_roundw
    case rel=>first|exact⟨k+1,fP,fU,h,P⟩|((repeat apply Exists.intro);exact⟨⟨k+1,fP,fU,h,P⟩,rfl⟩)
    case measure=>simp[intOf];omega
  . obtain rfl:k=m.F.length:=fP
    have R:¬ (m.F.length:Int)<(m.F.length:Int):=fP;obtain⟨h,P⟩:=oB (Nb V l.size) (l.trans (K.mono l.size));go_wp2;go_ret;exact⟨_,rfl,h,P⟩
def q7t (m:Fm)(A:MA)(n:Nat)(F:Nat->Bool)(f:Nat->Nat)(L c:Nat)(a:To)(e:Nat->Cx)(r:Int)(w:Tw)(g:N1 m)(O:m.L.length=n)(P:n<=32)(T:T8 m n (λa b=>F (a*n+b)=true) f)(k:L<=9223372036854775807)(X:∀b,b<L->(e b).v.s.size<=9223372036854775807)(z:∀W,I0 W m A->F7 W->B8 W->Q2 W->Calls prog 23 #[mV m A] W λx j=>∃S V U p u C,x=Rt (.tuple #[Yh U 0,Bo true])/\W.1.size<=V.1.size/\p6 m A n F f S V U p (λ_=>XB) m.F.length u C j/\Bw W j)(D:I0 w m A)(N:yA w a L e)(H:F7 w)(hy:B8 w)(M:Q2 w):Calls prog 10 #[mV m A,Sl a L c,Ye r] w λx j=>∃u,x=Rt u/\wL j w.1.size u (lI m n F f L e r)/\Bw w j:=by have G:=h_ z;have E:=g.nf;obtain⟨t,q,K,v⟩:=oD (λS V U p u C W (h:p6 m A n F f S V U p (λ_=>XB) m.F.length u C W) (d:yA V a L e)=>Ew m A n F f S V U p u C L c a e W E k X h d) (λS V U p u C W (h:p6 m A n F f S V U p e m.F.length u C W)=>q7r m A n F f S V U p u C r e W h) (λS V U p u C (b:Nat) W (Q:b<m.R.length) (h:p6 m A n F f S V U p e m.F.length u C W)=>q6x m A n F f S V U p u C b e W g O P Q h) (λS V U p u C (b i I s:Nat) W (h:p6 m A n F f S V U p e m.F.length u C W) (d:oI n F (yC m b) U i I s W)=>qn4 m A n F f S V U p u C b i I s e W E P T h d);unfold zM PP at v K;obtain⟨al,ac,ap,ad,ar,ae,af,aa,ag⟩:=A;unfold mV at G|-;dsimp only at G|-;obtain⟨Z,B,y,l⟩:=S5 w 28 (Jb al m ac ap ad ar ae af aa);obtain⟨J,o⟩:=oB (G Z (D.mono l.u) (H.mono l.u) (hy.mono l.u) (M.mono l.u)) (N.mono l.u);obtain⟨Y,y1,y2,y3⟩:=E0 y.u;clear D H hy M z G N k X T g O P;go_enter func10,ntmps10;go_wp2_with fail;(try rw[B]);refine J.mono ?_;rintro x H ⟨S,V,U,p,u,C,rfl,g,G,d⟩;have N:=qdu d G.base g g;have D:=Yu l.u.size g;have j:Hi (∀W,Bw V W->Bw w W):=h_ λW h=>(l.u.trans (N.mono l.u.size)).trans (h.mono D);have k:=h_ (t S V U p u C H G (o.mono N));clear d B Y y1 y2 y3 G N g J o t l y;go_wp2_with fail;refine k.mono ?_;rintro x G ⟨rfl,Y,g⟩;obtain⟨B,l⟩:=oB Y g;clear Y g k;cases t:OB m L e;{have g:Hi (lI m n F f L e r=[]):=h_ (by unfold lI;rw[Ys (λh=>by rw[t]at h;exact absurd h.1 fS)]);go_wp2;go_ret;exact⟨_,rfl,by rw[g.u];exact World.ownsRow_nil _ _ _ _,j _ l⟩};have N:=(qe7 t).1;subst N;obtain⟨M,y⟩:=oB (B t) t;have k:=h_ (q S V U p u C G M);clear t q;go_wp2_with fail;refine cQ k λq W=>?_;subst W;clear k;by_cases Q:0<=r/\r<m.R.length;(case neg=>rw[Yl Q];have g:Hi (lI m n F f m.F.length e r=[]):=h_ (by unfold lI;rw[Ys (λh=>Q h.2)]);go_wp2;go_ret;exact⟨_,rfl,by rw[g.u];exact World.ownsRow_nil _ _ _ _,j _ M.base⟩);rw[Yo Q];obtain⟨b,rfl⟩:∃b:Nat,r=b:=⟨r.toNat,fP⟩;have O:b<m.R.length:=fP;have g:Hi (lI m n F f m.F.length e b=M8 m e (xA m n F f b) m.F.length):=h_ (by unfold lI;rw[Yz ⟨y.u,Q⟩];rfl);have J:=h_ (K S V U p u C b q O M);clear K;go_wp2_with fail;refine J.mono ?_;rintro x t ⟨i,I,s,rfl,h,d⟩;have o:=h_ (M.mono d);have z:=h_ (v S V U p u C b i I s t o h);clear d h J M;go_wp2_with fail;refine z.mono ?_;rintro x J ⟨K,rfl,T,d⟩;obtain⟨k,h⟩:=oB (Nb T (Yu D o.base.size)) (j J ((o.mono d).base));clear T d z;go_wp2;go_ret;exact⟨_,rfl,by rw[g.u];exact k,h⟩
