import Derived.Test.YtdlnflnfbcaiiaaGreatDoorW37
import Derived.Test.YtdlnflnfbcaiiaaGreatDoorW30
set_option linter.all false
set_option maxRecDepth 100000
set_option maxHeartbeats 0
namespace Go.Proofs.YtdlnflnfbcaiiaaGreatDoor
open Value renaming slice->Sl
open Option renaming none->Nn,some->Sm
open Bool renaming false->Ff
open Go Go.RowKit Go.Proofs.Tryz
def LD (G:Nat->Nat->Fl × Nat)(p0:Nat):Nat->Nat
 | 0=>p0
 | k+1=>(G k (LD G p0 k)).2
def zD (Z:List Fl->Int)(flds:Nat)(l0:List Fl):Nat->List Fl
 | 0=>l0
 | i+1=>if 0<=Z (zD Z flds l0 i) then sE (Z (zD Z flds l0 i)) (-1) (zD Z flds l0 i) flds else zD Z flds l0 i
def pI (len:Nat)(f:Nat->Nat)(p0 flds:Nat)(ls:List Int)(l0:List Fl):Nat->List Fl
 | 0=>l0
 | k+1=>if N0 len f (p0+k) 4=0/\((pI len f p0 flds ls l0 k).getD k qA).lb<0 then sE k (ls.getD k 0) (pI len f p0 flds ls l0 k) flds else pI len f p0 flds ls l0 k
structure qE (N nr:Nat)(m:Fm):Prop where
 ll:m.L.length=N
 l:∀x,x∈m.L->x.size<=64
 pl:m.P.length<=200
 rl:m.R.length=nr
 r:∀x,x∈m.R->x.nm.size<=64
 fs:GF N nr m.F
 fl:m.F.length<=100
def qE.fit {N n:Nat}{m:Fm}(h:qE N n m)(O:N<=100)(Q:n<=1000):C3 m:=by have:=h.ll;have:=h.pl;have:=h.rl;have:=h.fl;exact⟨fP,fP,fP,fP,λx u=>Yu (h.l x u) fS,λx u=>Yu (h.r x u) fS,λx u=>(h.fs x u).fit Q⟩
def qE.lba {N n:Nat}{m:Fm}(h:qE N n m):vJ m:=by have:=h.fl;refine⟨fP,λa k=>?_⟩;rw[V7 k,h.ll];exact(h.fs _ (Yq k)).lb
def Mh {n:Nat}{f:Nat->Nat}{D:SD}(e:∀i,i<=1000->(D.lnm i).size<=64)(Q:∀i,i<=1000->(D.rnm i).size<=64)(O:D.N<=100)(P:D.nn<=3)(h:D.lp.length<=200){l:List Fl}(B:GF D.N (D.nn+1) l)(X:l.length<=100):qE D.N (D.nn+1) (V8 n f D l):=by refine⟨oJ _ _,λx u=>?_,h,oJ _ _,λx u=>?_,B,X⟩;{obtain⟨i,C,rfl⟩:=Zb.1 u;have:=Y6.1 C;exact e i fP};obtain⟨i,C,rfl⟩:=Zb.1 u;have:=Y6.1 C;exact Q i fP
def kA {p:Prop}(h:p:=by show(pI X f (LD G c l) l I (zD Z l y l) I.length).length<=100;omega):p:=h
def Im (X:Nat)(f:Nat->Nat)(aa:X<=1048576)(p:Nat)(hp:p<=1000)(l:Nat)(ai:l<=20):∃a:SD,AZ X f a p l/\qE a.N (a.nn+1) (V8 X f a (vF X f a l))/\(vF X f a l).length=l:=by obtain⟨N,B,s,O,t,Q,af,cD⟩:=qqa X f p aa hp;obtain⟨U,P⟩:=WV Mu;obtain⟨V,T⟩:=WV Rv;obtain⟨j,v⟩:=WV (λi C=>yU ⟨#[97,98,99,100,101,102,103,104]⟩ i fS fS C);obtain⟨E,top,ah,aj,cB⟩:=Hm N O B fP;obtain⟨w,ac⟩:∃w,w=if 0<N0 X f s 10 then 1+N0 X f s 10 % 3 else 0:=⟨_,rfl⟩;have S:w<=3:=(by rw[ac];split <;> omega);obtain⟨r,L⟩:∃r:SD,r=⟨N,B,s,w,E,top,U,V,j,λ_=>qA,λ_=>0,λ_=>0,λ_=>[],[],λ_=>[]⟩:=⟨_,rfl⟩;have ag:r.p2<=p+11+9:=(by rw[L];show s+1+2*(w+1)<=_;omega);have n:∀a q:Nat,∃Y:Fl × Nat,a<l->q<=50000->vC N (w+1) Y.1/\Y.1.nm=j a/\Y.2<=q+800/\∀(d:Tw) (b:To) (y:Nat) (W Z xr M:To) (z K H I nf R:Nat) (u c:Value),O7 d b X f->tC (L8 (O6 X f r) j a) d u->tC (L8 (O6 X f r) j l) d c -> Calls prog 82 #[Sl b X y,Ye q,.agg (Jo W N z Z K H xr (w+1:Nat) I M nf R),Ye a,Ye (O6 X f r a),u,c] d λJ x=>∃A,J=.returned (.tuple #[fV Y.1 A,Ye Y.2])/\S6 x d.1.size Y.1 A/\Bw d x:=λa q=>(by by_cases e:a<l;{by_cases hq:q<=50000;{obtain⟨h,q',g,o,-,-,G,Y⟩:=Qy (XX (ty:=O6 X f r) (nm:=j) (k:=a) fP (λi C=>(v i C).1)) (XX (ty:=O6 X f r) (nm:=j) (k:=l) fP (λi C=>(v i C).1)) X f aa q fP a N (w+1) fP O fP fP (O6 X f r a) (VO _) (j a) (v a fP).1 (v a fP).2;exact⟨(h,q'),λ_ _=>⟨g,o,G,Y⟩⟩};exact⟨(qA,0),λ_ h=>absurd h hq⟩};exact⟨(qA,0),λh=>absurd h e⟩);obtain⟨G,n⟩:∃G:Nat->Nat->Fl × Nat,∀a q:Nat,a<l->q<=50000->vC N (w+1) (G a q).1/\(G a q).1.nm=j a/\(G a q).2<=q+800/\∀(d:Tw) (b:To) (y:Nat) (W Z xr M:To) (z K H I nf R:Nat) (u c:Value),O7 d b X f->tC (L8 (O6 X f r) j a) d u->tC (L8 (O6 X f r) j l) d c -> Calls prog 82 #[Sl b X y,Ye q,.agg (Jo W N z Z K H xr (w+1:Nat) I M nf R),Ye a,Ye (O6 X f r a),u,c] d λJ x=>∃A,J=.returned (.tuple #[fV (G a q).1 A,Ye (G a q).2])/\S6 x d.1.size (G a q).1 A/\Bw d x:=⟨λa q=>Classical.choose (n a q),λa q=>Classical.choose_spec (n a q)⟩;obtain⟨c,ae⟩:∃c,c=r.p2+l:=⟨_,rfl⟩;have z:∀a,a<=l->LD G c a<=c+800*a:=λa=>(by induction a with|zero=>intro _;exact nR _|succ a q=>intro e;have g:=q fP;have o:=(n a (LD G c a) fP fP).2.2.1;show(G a (LD G c a)).2<=c+800*(a+1);rw[Nat.mul_succ,<- Gi];exact Yu o (Nat.add_le_add_right g 800));obtain⟨y,H⟩:∃y,y=(List.range l).map λa=>(G a (LD G c a)).1:=⟨_,rfl⟩;have ad:GF N (w+1) y:=λW u=>(by rw[H]at u;obtain⟨a,e,rfl⟩:=Zb.1 u;have e:=Y6.1 e;have:=z a fP;exact(n a (LD G c a) e fP).1);have R:∀{b:List Fl},GF N (w+1) b->b.length=l->qE N (w+1) (V8 X f r b):=λ{b} g o=>(by subst L;exact Mh (D:=⟨N,B,s,w,E,top,U,V,j,λ_=>qA,λ_=>0,λ_=>0,λ_=>[],[],λ_=>[]⟩) (λi C=>(P i C).1) (λi C=>(T i C).1) t S Q g fP);have x:∀b:List Fl,∃J:Int,GF N (w+1) b->b.length=l->∀(d:Tw) (A:MA),I0 d (V8 X f r b) A->Gv 83 #[mV (V8 X f r b) A] d (Ye J):=λb=>(by by_cases h:GF N (w+1) b/\b.length=l;{have I:=R h.1 h.2;obtain⟨J,-,K⟩:=qqb _ (I.fit t fP) I.lba (Fq I.pl);exact⟨J,λ_ _=>K⟩};exact⟨0,λg o=>absurd ⟨g,o⟩ h⟩);obtain⟨Z,x⟩:∃Z:List Fl->Int,∀b:List Fl,GF N (w+1) b->b.length=l->∀(d:Tw) (A:MA),I0 d (V8 X f r b) A->Gv 83 #[mV (V8 X f r b) A] d (Ye (Z b)):=⟨λb=>Classical.choose (x b),λb=>Classical.choose_spec (x b)⟩;have M:∀i,GF N (w+1) (zD Z l y i)/\(zD Z l y i).length=l:=λi=>(by induction i with|zero=>exact⟨ad,by show y.length=l;rw[H,oJ]⟩|succ i q=>unfold zD;split;{refine⟨?_,mW _ _ _ _⟩;have:=Dg (m:=Z (zD Z l y i)) (lab:=-1) q.1 ⟨fP,fP⟩;rwa [q.2]at this};exact q);have b:=R (M l).1 (M l).2;obtain⟨I,o,d,Y⟩:=qkh _ (b.fit t fP);have g:I.length<=l:=(by have:(V8 X f r (zD Z l y l)).F.length=l:=(M l).2;omega);have K:∀a,a<=I.length->GF N (w+1) (pI X f (LD G c l) l I (zD Z l y l) a)/\(pI X f (LD G c l) l I (zD Z l y l) a).length=l:=λa=>(by induction a with|zero=>intro _;exact M l|succ a q=>intro e;have q:=q fP;unfold pI;split;{refine⟨?_,mW _ _ _ _⟩;have u:=d (I.getD a 0) (by rw[Yr,Yp fP];exact Yq _);rw[b.ll]at u;have:=Dg (m:=a) (lab:=I.getD a 0) q.1 ⟨fP,fP⟩;rwa [q.2]at this};exact q);subst L;refine⟨⟨N,B,s,w,E,top,U,V,j,λa=>(G a (LD G c a)).1,LD G c,λi=>Z (zD Z l y i),zD Z l y,I,pI X f (LD G c l) l I (zD Z l y l)⟩,?_,?_,?_⟩;{refine⟨O,t,Q,af,cD,λi C=>(P i C).2,ac,S,cB,λi C=>(T i C).2,λi C=>(v i C).2,ae,λa e=>?_,λa e=>?_,λa e=>?_,H,λi=>rfl,λi=>(M i).2,λi _=>x _ (M i).1 (M i).2,g,Y,rfl,λa _=>rfl,λa e=>(K a e).2⟩;{have:=z a e;show LD G c a<=100000;omega};{have:=z a fP;exact(n a (LD G c a) e fP).2.2.2};have:=z a fP;exact(n a (LD G c a) e fP).2.1};{refine Mh (λi C=>(P i C).1) (λi C=>(T i C).1) t S Q ?_ ?_;{unfold vF;have h:=(K I.length (nR _)).1;split;{exact λW u=>h W (Of.1 u)};exact h};unfold vF;have h:=(K I.length (nR _)).2;split;{rw[Zh];exact kA};exact kA};unfold vF;have h:=(K I.length (nR _)).2;split;{rw[Zh];exact h};exact h
def qat (w:Tw)(r:Option Nat):w.grownBy w r:=⟨rfl,rfl,rfl,nR _,λ_ _ _=>rfl⟩
def OU {Y:Array Oper}{rest:List Oper}{o:Oper}{a:Act}{Q:Exit->Act->Tw->Prop}{w:Tw}(E:o.guard=.none)(s x:Operand)(t e:TypeId)(b:TypeInfo)(z:Value)(G N:Nat)
 (T:o.op=.call { callee:=.builtin .append,args:=#[s,x],argTypes:=#[t,t] }) (p:prog.underlying t=some (.slice e)) (hi:prog.info? e=some b) (P:b.zero=some z) (R:b.size=G) (S:b.bytes=N) (U:z.cells.size=G) (X:0<G)
 {base k n i:Nat} {v u:Value} {y c:Tl} (B:a.eval s=v) (d:w.ownsRow base e G v n y) (A:a.eval x=u) (hy:w.ownsRow k e G u i c) (h1:∀h,h∈c->h.oneCell'=true)
 (K:n+i<=1000000) (J:N<=1000) (m:base<=w.1.size)
 (l:∀f j,j.ownsRow base e G f (n+i) (y++c)->w.grownBy j v.ownBlock->Below base w j->wpList prog Y Q rest (a.put o.dst f) j):wpList prog Y Q (o :: rest) a w:=by
 have C:=hy.1;rcases hy.2 with ⟨rfl,rfl⟩ | ⟨g,D,F,rfl,hg,O,V,W,Z,H⟩
 . have M:c=[]:=Zj.1 (by rw[C,Gs])
   subst M;refine wpList_append_own_none E s x t T base e b G p hi v n y B d A ?_;exact l v w hP (qat _ _) (bR _ _)
 . have I:m0 w g e F.toList:=by
    show w.heap[g]? = _;rw[O]
   have L:(n+i)*N<=140737488355328:=Yu (Ok K J) fS;refine wpList_append_own w E s x t T base e b z G N p hi P R S U X v n y B d ⟨g,0,none⟩ i D c A C (λM h q=>?_) h1 ga L m (λf j h1 r _=>l f j h1 r ((bR base w).grown r m (λf e=>M3 d e)));rw[Addr.add_mid,Zk,I.cell,<- q,<- H,Z8];have:=(List.getElem?_eq_some_iff.1 q).1;omega
def QE:Tl->Nat->Tl->Tl
 | xs,_,[]=>xs
 | xs,o,c :: r=>QE (xs.set o c) (o+1) r
def Ni:∀(B:Tl) (s:Tl)(o:Nat),(QE s o B).length=s.length
 | [],_,_=>rfl
 | c :: r,s,o=>by rw[QE,Ni r];simp
def Hd:∀(B:Tl) (s zs x:Tl),zs.length=B.length->QE (s++(zs++x)) s.length B=s++(B++x)|[],s,zs,x,h=>by rw[Zj.1 h];rfl|c :: r,s,zs,x,h=>by cases zs with|nil=>cases h|cons z zs=>rw[QE,Vj,List.set_append_right _ _ (nR _),Nat.sub_self,Yi];have:=Hd r (s++[c]) zs x gv;rw[Yn]at this;simpa using this
def qql {P:List (Fl × FA)}{k:Nat}(a:k<P.length)(x:Fl × FA):QE (P6 P) (k*9) (L1 x.1 x.2)=P6 (P.set k x):=by have A:P=P.take k++P[k] :: P.drop (k+1):=(by rw[<- Om a,Vi]);have e:(P6 (P.take k)).length=k*9:=(by unfold P6;rw[Qe (s:=9) (λ_=>rfl),Za,Gl fP]);have Z:P6 P=P6 (P.take k)++(L1 P[k].1 P[k].2++P6 (P.drop (k+1))):=(by (conv=>lhs;rw[A]);unfold P6;rw[Vb,Vk]);have K:P6 (P.set k x)=P6 (P.take k)++(L1 x.1 x.2++P6 (P.drop (k+1))):=(by rw[List.set_eq_take_append_cons_drop,Yz a];unfold P6;rw[Vb,Vk]);rw[Z,K,<- e];exact Hd _ _ _ _ rfl
def i_ (b:Nat)(t:TypeId):∀(B:Tl) (o:Nat) (w:Tw) (a:Tl),m0 w b t a->m0 (w.setCells b o B) b t (QE a o B)
 | [],_,_,_,h=>h
 | c :: r,o,w,a,h=>by rw[World.setCells,QE];exact i_ b t r (o+1) _ _ (h.set o c)
def XP (b:Nat):∀(B:Tl) (o:Nat) (w:Tw) (k:Nat),k≠b->(w.setCells b o B).heap[k]? = w.heap[k]?
 | [],_,_,_,_=>rfl
 | c :: r,o,w,k,h=>by rw[World.setCells,XP b r (o+1) _ k h];exact heap_setCell_other _ _ _ _ h
def a_ {B b:Nat}{a:Tw}(d:B<=b):∀(e:Tl) (o:Nat) (w:Tw),Below B a w->Below B a (w.setCells b o e)
 | [],_,_,h=>h
 | c :: r,o,w,h=>by rw[World.setCells];exact a_ d r (o+1) _ (h.setCell d c)
def Pf:∀(B:Tl) (s:Tl)(o n:Nat),(QE s o B).take n=QE (s.take n) o B
 | [],_,_,_=>rfl
 | c :: r,s,o,n=>by rw[QE,QE,Pf r,List.take_set]
def Qf {w:Tw}{base g c k:Nat}{P:List (Fl × FA)}(h:w.ownsRow base 56 9 (Sl (Sm (Aq g 0)) P.length c) P.length (P6 P))(i:k<P.length)(x:Fl × FA):w.there g (k*9) 9/\(w.setCells g (k*9) (L1 x.1 x.2)).ownsRow base 56 9 (Sl (Sm (Aq g 0)) P.length c) (P.set k x).length (P6 (P.set k x)):=by rcases h.2 with ⟨e,W⟩|⟨l,N,b,e,H,J,K,f,d,G⟩;{cases e};cases e;have a:m0 w g 56 b.toList:=(by exact K7);refine⟨λj m=>⟨?_,a.free _⟩,by rw[Vm];unfold P6;rw[Qe (s:=9) (λ_=>rfl),Vm],.inr ⟨g,c,(QE b.toList (k*9) (L1 x.1 x.2)).toArray,by rw[Vm],H,i_ g _ _ _ _ _ a,by rw[Vm];exact K,f,by simp[Ni,d],?_⟩⟩;{have:k*9+j<b.toList.length:=(by rw[Gg,d];omega);rw[a.cell,Yp this];rfl};rw[Vm,<- qql i x,<- G,<- Pf]
def F9 (x:Tb):Nx:=⟨1,⟨0,0,⟨#[]⟩⟩,x⟩
def tP:Tb:=⟨#[109,117,115,116]⟩
def VK:Tb:=⟨#[110,111,32,114,117,108,101]⟩
def QO:Tb:=⟨#[110,111,119,104,101,114,101]⟩
def IM:Tb:=⟨#[99,108,101,114,107]⟩
section
variable (what k nl:Nat) (nx:Tb)
def AO (g:Fl):Fl:=if what=0 then { g with nm:=nx } else g
def BO (g:Fl):Fl:=if what=1 then { g with nm:=tP } else g
def CO (g:Fl):Fl:=if what=2 then { g with lb:=(nl:Int) } else g
def DO (g:Fl):Fl:=if what=3 then { g with ty:=4 - (((k % 2:Nat):Int)*4) } else g
def oS (g:Fl):Fl:=if what=4 then { g with bys:=[0,0]++g.bys } else g
def pS (g:Fl):Fl:=if what=5 then { g with sy:=VK,va:=[] } else g
def qS (g:Fl):Fl:=if what=6 then { g with mu:=[⟨3,⟨0,0,⟨#[]⟩⟩,⟨#[]⟩⟩] } else g
def rS (g:Fl):Fl:=if what=7 then { g with wh:=[F9 QO] } else g
def tS (g:Fl):Fl:=if what=8\/what=9 then { g with bys:=[],is:=[F9 nx] } else g
def BP (g:Fl):Fl:=if what=10 then { g with wh:=[F9 nx] } else g
def zL (g:Fl):Fl:=if what=11\/what=12 then { g with lb:=0 } else if what=13\/what=14 then { g with lb:=0,mu:=[F9 nx] } else if what=15 then { g with lb:=0,mu:=[F9 nx],bys:=[],is:=[⟨0,⟨1,1,⟨#[]⟩⟩,⟨#[]⟩⟩] } else g
def EO (g:Fl):Fl:=zL what nx (BP what nx (tS what nx (rS what (qS what (pS what (oS what (DO what k (CO what nl (BO what (AO what nx g))))))))))
def rJ (l:List (Int × Int)):List (Int × Int):=if what=16/\0<l.length then l.drop 1 else if what=17 then ((nl:Int) - 1,0) :: l else if what=19 then (0,(nl:Int)) :: l else l
def sJ (l:List Rl):List Rl:=if what=18 then ⟨IM,0⟩ :: l else l
end
structure qB (v1 v2 v3 v4 vo:Value)(P:List (Fl × FA))(base F X rd:Nat)(nx:Tb)(g:Fl)(A:FA)(w W:Tw):Prop where
 fb:m0 W F 28 [v1,v2,v3,v4]
 r0:m0 W (F+1) 28 J2
 out:W.ownsRow F 56 9 vo P.length (P6 P)
 bx:m0 W X 56 (L1 g A)
 ow:S6 W base g A
 rr:A5 W base (Sl (Sm (Aq rd 0)) 1 1) [F9 nx]
 bl:Below F w W
 ne:vo.ownBlock≠Sm X
 hX:F+1<X
section
variable {v1 v2 v3 v4 vo:Value} {P:List (Fl × FA)} {base F X rd:Nat} {nx:Tb} {g g':Fl} {A A':FA} {w W W':Tw}
def qB.mono (h:qB v1 v2 v3 v4 vo P base F X rd nx g A w W)(c:Bw W W'):qB v1 v2 v3 v4 vo P base F X rd nx g A w W' :=
 ⟨h.fb.mono c h.fb.lt,h.r0.mono c h.r0.lt,BA h.out c,h.bx.mono c h.bx.lt,h.ow.mono c,h.rr.keep c,h.bl.trans (c.mono (Oh h.fb.lt)),h.ne,h.hX⟩
def qB.put (h:qB v1 v2 v3 v4 vo P base F X rd nx g A w W)(j:Nat)(v:Value)(N:(L1 g A).set j v=L1 g' A')(T:S6 W base g' A'):qB v1 v2 v3 v4 vo P base F X rd nx g' A' w (W.setCell (Aq X j) v):=by have G:=h.hX;exact⟨h.fb.other _ (show F≠X by omega),h.r0.other _ (show F+1≠X by omega),mJ h.out λq e=>heap_setCell_other _ _ _ _ (λQ=>h.ne (by rw[e,show q=X from Q])),by rw[<- N];exact h.bx.set j v,T.one h.bx fS fS (λk a=>heap_setCell_other _ _ _ _ a),PA h.rr h.bx fS (λk a=>heap_setCell_other _ _ _ _ a),h.bl.setCell (show F<=X by omega) _,h.ne,G⟩
end
structure sB (v1 v2 v3 v4:Value)(m:Fm)(P:List (Fl × FA))(base F:Nat)(w W:Tw):Prop where
 fb:m0 W F 28 [v1,v2,v3,v4]
 r0:m0 W (F+1) 28 J2
 om:T3 W base v1 v2 v3 v4 m P
 bl:Below F w W
section
variable {v1 v2 v3 v4 v':Value} {P:List (Fl × FA)} {m:Fm} {base F:Nat} {w W W':Tw}
def sB.mono (h:sB v1 v2 v3 v4 m P base F w W)(c:Bw W W'):sB v1 v2 v3 v4 m P base F w W':=⟨h.fb.mono c h.fb.lt,h.r0.mono c h.r0.lt,h.om.mono c,h.bl.trans (c.mono (Oh h.fb.lt))⟩
def sB.setP (h:sB v1 v2 v3 v4 m P base F w W){l:List (Int × Int)}(a:N8 W base v' l):sB v1 v' v3 v4 { m with P:=l } P base F w (W.setCell (Aq F 1) v'):=by have b:T3 W base v1 v' v3 v4 { m with P:=l } P:=⟨h.om.l,a,h.om.r,h.om.f,h.om.e⟩;exact⟨h.fb.set 1 _,h.r0.other _ (show F+1≠F by omega),b.formSet h.fb 1 _,h.bl.setCell (nR _) _⟩
def sB.setR (h:sB v1 v2 v3 v4 m P base F w W){l:List Rl}(a:wJ W base v' l):sB v1 v2 v' v4 { m with R:=l } P base F w (W.setCell (Aq F 2) v'):=by have b:T3 W base v1 v2 v' v4 { m with R:=l } P:=⟨h.om.l,h.om.p,a,h.om.f,h.om.e⟩;exact⟨h.fb.set 2 _,h.r0.other _ (show F+1≠F by omega),b.formSet h.fb 2 _,h.bl.setCell (nR _) _⟩
def sB.fin (h:sB v1 v2 v3 v4 m P base F w W):T3 (W.setRow (F+1) #[v1,v2,v3,v4]) base v1 v2 v3 v4 m P/\Below F w (W.setRow (F+1) #[v1,v2,v3,v4])/\m0 (W.setRow (F+1) #[v1,v2,v3,v4]) (F+1) 28 [v1,v2,v3,v4] :=
 ⟨h.om.one h.r0 fS fS fS fS fS fS (λk a=>setRow_other W (F+1) k #[v1,v2,v3,v4] a),below_setRow h.bl fP _,h.r0.row [v1,v2,v3,v4]⟩
end
def qB.done {v1 v2 v3 v4:Value}{P:List (Fl × FA)}{base F X rd n j k:Nat}{nx:Tb}{g:Fl}{A:FA}{w W:Tw}{m:Fm}(h:qB v1 v2 v3 v4 (Sl (Sm (Aq n 0)) P.length j) P base F X rd nx g A w W)(x:base<=F)(p:w.1.size=F)(z:k<P.length)(d:T3 w base v1 v2 v3 v4 m P):sB v1 v2 v3 (Sl (Sm (Aq n 0)) P.length j) { m with F:=m.F.set k g } (P.set k (g,A)) base F w ((W.setCells n (k*9) (L1 g A)).setCell (Aq F 3) (Sl (Sm (Aq n 0)) P.length j)):=by have y:=M3 h.out rfl;have C:Below F w (W.setCells n (k*9) (L1 g A)):=a_ y _ _ _ h.bl;have D:∀{q:Nat} {t:TypeId} {B:Tl},m0 W q t B->56≠t->m0 (W.setCells n (k*9) (L1 g A)) q t B:=λJ a=>(XP n _ _ _ _ (λe=>uD h.out J a (by rw[<- e];rfl))).trans J;have N:=d.mono (show Bw w (W.setCells n (k*9) (L1 g A)) by rw[Bw,p];exact C);have o:S6 (W.setCells n (k*9) (L1 g A)) base g A:=(by have a:∀{b e G c:Nat} {v:Value} {s:Tl},W.ownsRow b e G v c s->e≠56->(W.setCells n (k*9) (L1 g A)).ownsRow b e G v c s:=λQ b=>mJ Q λq J=>XP n _ _ _ _ (λe=>YQ Q h.out b J (by rw[e];rfl));exact⟨a h.ow.b fS,a h.ow.i fS,a h.ow.h fS,a h.ow.v fS,a h.ow.u fS⟩);have b:=(Qf h.out z (g,A)).2;have e:T3 (W.setCells n (k*9) (L1 g A)) base v1 v2 v3 (Sl (Sm (Aq n 0)) P.length j) { m with F:=m.F.set k g } (P.set k (g,A)):=(by refine⟨N.l,N.p,N.r,⟨VB b x,λc a=>?_⟩,?_⟩;{rcases List.mem_or_eq_of_mem_set a with a|rfl;{exact N.f.sub c a};exact o};show m.F.set k g=_;rw[List.map_set,<- d.e]);have Z:=D h.fb fS;exact⟨Z.set 3 _,(D h.r0 fS).other _ (show F+1≠F by omega),e.formSet Z 3 _,C.setCell (nR _) _⟩
def YF:Tl:=[.nilFunc,.nilFunc,.nilFunc,.nilFunc,.func (.func 239) #[] #[],.func (.func 240) #[] #[],.func (.func 241) #[] #[],.func (.func 242) #[] #[],.func (.func 239) #[] #[],.func (.func 243) #[] #[],.func (.func 239) #[] #[],.func (.func 244) #[] #[],.func (.func 239) #[] #[],.func (.func 245) #[] #[],.func (.func 239) #[] #[],.func (.func 246) #[] #[],.func (.func 239) #[] #[],.func (.func 247) #[] #[],.func (.func 248) #[] #[],.func (.func 249) #[] #[],.func (.func 250) #[] #[],.func (.func 251) #[] #[],.func (.func 250) #[] #[],.func (.func 252) #[] #[],.func (.func 253) #[] #[],.func (.func 254) #[] #[],.func (.func 253) #[] #[],.func (.func 255) #[] #[],.func (.func 256) #[] #[],.func (.func 257) #[] #[],.func (.func 256) #[] #[],.func (.func 258) #[] #[],.func (.func 259) #[] #[],.func (.func 260) #[] #[],.func (.func 239) #[] #[],.func (.func 261) #[] #[],.func (.func 239) #[] #[],.func (.func 262) #[] #[],.func (.func 263) #[] #[],.func (.func 264) #[] #[],.func (.func 248) #[] #[],.func (.func 265) #[] #[],.func (.func 248) #[] #[],.func (.func 266) #[] #[],.func (.func 248) #[] #[],.func (.func 267) #[] #[],.func (.func 250) #[] #[],.func (.func 268) #[] #[],.func (.func 263) #[] #[],.func (.func 269) #[] #[],.func (.func 263) #[] #[],.func (.func 270) #[] #[]]
def mZ:Tl:=List.replicate 52 .nilFunc
def qlt:(prog.info? 273).map (·.size)=Sm YF.toArray.size:=by kernel_rfl
def qt4:YF.toArray.all (·.oneCell')=true:=by kernel_rfl
section
variable {ops:Array Oper} {rest:List Oper} {o:Oper} {a:Act} {w:Tw} {Q:Exit->Act->Tw->Prop}
def Bu (E:o.guard=Nn)(x y:Operand)(T:o.op=.store 273 x y)(b:Nat)(u:a.eval x=Yh b 0)(hy:a.eval y=.agg YF.toArray)(c:m0 w b 273 mZ)
 (h:∀j,m0 j b 273 YF->w.grownBy j (Sm b)->j.1.size=w.1.size->wpList prog ops Q rest (a.put o.dst undef) j):wpList prog ops Q (o :: rest) a w :=
 wpList_plain E λ_ k=>wp_store_row 273 x y T b YF.toArray u hy _ _ c qlt fY qt4
  (k _ _ (h _ (setRow_heap w b _ _ _ _ c) ⟨rfl,rfl,rfl,fT,λd _ k=>setRow_other w b d _ (λe=>k (by rw[e]))⟩ fT))
def UP (f v:Nat)(E:o.guard=Nn)(x y:Operand)(g:o.op=.store 253 x y)(b:Nat)(T:Tl)(d:T.length=2)(u:a.eval x=Yh b 0)(hy:a.eval y=.agg #[.func (.func f) #[] #[],.func (.func v) #[] #[]])(c:m0 w b 253 T)
 (h:∀j,m0 j b 253 [.func (.func f) #[] #[],.func (.func v) #[] #[]]->w.grownBy j (Sm b)->j.1.size=w.1.size->wpList prog ops Q rest (a.put o.dst undef) j):wpList prog ops Q (o :: rest) a w :=
 wpList_plain E λ_ k=>wp_store_row 253 x y g b #[.func (.func f) #[] #[],.func (.func v) #[] #[]] u hy _ _ c fR hP fZ
  (k _ _ (h _ (setRow_heap w b _ _ _ _ c) ⟨rfl,rfl,rfl,fT,λe _ k=>setRow_other w b e _ (λe=>k (by rw[e]))⟩ fT))
end
def oU (n f v:Nat)(j:n<=25)(t:YF[n*2]? = Sm (.func (.func f) #[] #[])/\YF[n*2+1]? = Sm (.func (.func v) #[] #[]))(w:Tw):Gv 209 #[Ye n] w (.agg #[.func (.func f) #[] #[],.func (.func v) #[] #[]]):=by have D:=h_ t;obtain⟨B,d⟩:=Nq (w.1.size+1);go_enter func209,ntmps209;go_wp2_with (refine Bu rfl _ _ rfl B rfl rfl ?hb ?_);(case hb=>rw[<- d];have h:=m0.new (w.alloc (.cells #[.nilFunc,.nilFunc] 253)) 273 mZ.toArray;rw[Y4]at h;exact h);intro b F q M;have g:m0 b w.1.size 253 [.nilFunc,.nilFunc]:=m0.grown ((m0.new w 253 #[.nilFunc,.nilFunc]).alloc _) q (λe=>Fq (Z7 e));have h:Bw w b:=(((bR _ w).alloc (nR _) _).alloc fT _).grown q fX (λk e=>Fq (Z7 e));have i:b.cell? (Aq B (n*2))=Sm (.func (.func f) #[] #[]):=(F.cell (n*2)).trans D.1;have c1:b.cell? (Aq B (n*2+1))=Sm (.func (.func v) #[] #[]):=(F.cell (n*2+1)).trans D.2;have l:(n:Int)<26:=fP;obtain⟨y,c⟩:=oB h g;go_wp2_with (refine UP f v rfl _ _ rfl w.1.size [.nilFunc,.nilFunc] rfl rfl rfl c ?_);intro H V I m;have N:H.cell? (zw w 0)=Sm (.func (.func f) #[] #[]):=V.cell 0;have J:H.cell? (zw w 1)=Sm (.func (.func v) #[] #[]):=V.cell 1;have Y:=h_ (y.grown I y.size (λk e=>Fq (Z7 e)));go_wp2;exact bQ ⟨rfl,Y⟩
def m0.val {W:Tw}{b:Nat}(h:m0 W b 46 Jl):(W.cell? (Aq b 0)=Sm (Ye 0)/\W.cell? (Aq b 1)=Sm (Ye 0)/\W.cell? (Aq b 2)=Sm Yg)/\(W.frozen? (Aq b 0)=Ff/\W.frozen? (Aq b 1)=Ff/\W.frozen? (Aq b 2)=Ff):=⟨T0 h,h.free 0,h.free 1,h.free 2⟩
def X4 (op:Int)(m:Nat)(f:Nat->Vx)(A:Bool)(R:Vx):Vx :=
 match (if mE op then Nn else CD f m) with
 | some u=>u
 | none=>if !YA op&&UF f m then N4 else if A then R else C1 1
def qnv {op:Int}{m k:Nat}{f:Nat->Vx}{A:Bool}{R:Vx}(t:mE op=Ff)(b:k<m)(h:∀j,j<k->¬ (f j).k=4)(K:(f k).k=4):X4 op m f A R=f k:=by grind[X4,mE,M_]
def YR {op:Int}{m:Nat}{f:Nat->Vx}{A:Bool}{R:Vx}(h:mE op=Ff->∀j,j<m->¬ (f j).k=4):X4 op m f A R=if !YA op&&UF f m then N4 else if A then R else C1 1:=by unfold X4;cases t:mE op;{rw[Ys fS,L_ (h t)]};rw[Yz rfl]
def JO (k:FuncId):Prop:=∀(args:Ta) (w:Tw),(callFunc k args).run prog w=.ok (.enter k args) w
section
variable {ops:Array Oper} {rest:List Oper} {o:Oper} {a:Act} {w:Tw} {Q:Exit->Act->Tw->Prop}
end
def kv {p:Prop}(h:p:=by have T:∀(i:Ta) (w:Tw),(callFunc g i).run prog w=.ok (.enter g i) w:=ae.u;go_wp2_with fail;refine cQ (ac X E (by trivial) r l) λS b=>?_;have d:=mB d b;have l:=mT l b;have j:=h_ (j.mono b);obtain⟨⟨N,J,C⟩,z,B,L⟩:=d.val;unfold vv;go_wp2;exact bQ (v:=.agg (Jc R.k R.n R.s)) ⟨by rw[M.u];rfl,L9 l _ _ _⟩):p:=h
def kw {p:Prop}(h:p:=by go_wp2_with fail;refine cQ (pK 1 r) λS b=>?_;have d:=mB d b;have l:=mT l b;have j:=h_ (j.mono b);obtain⟨⟨N,J,C⟩,z,B,L⟩:=d.val;unfold vv C1;go_wp2;exact bQ (v:=.agg #[Ye 4,Ye 1,Yg]) ⟨by rw[M.u];rfl,L9 l _ _ _⟩):p:=h
def q8y (n e g:Nat)(a:To)(m c:Nat)(f:Nat->Vx)(A:Bool)(R:Vx)(w:Tw)(ai:m<=1048576)(hv:N2 w a m f)(ap:2<=n/\n<=25) (F:YF[n*2]? = Sm (.func (.func e) #[] #[])/\YF[n*2+1]? = Sm (.func (.func g) #[] #[])) (Z:JO e) (T:JO g) (an:∀W,Bw w W->Gv e #[Sl a m c] W (.bool A)) (ao:(mE n=Ff->∀h,h<m->¬ (f h).k=4)->(YA n=Ff->∀h,h<m->¬ (f h).k=0)->A=true->∀W,Bw w W->Gv g #[Sl a m c] W (vv R)):Gv 172 (Jn n a m c) w (vv (X4 n m f A R)):=by obtain⟨y,hu⟩:=Nq (X4 n m f A R);rw[hu];have t:=h_ hu;obtain⟨W,hW,am,b⟩:=nV w 46 Jd;obtain⟨l,d,HW,ag,j,af⟩:=oF b am hW ap (hv.mono b) F;obtain⟨aa,ac,ad,ae⟩:=oD an ao Z T;go_enter func172,ntmps172;go_wp2_with fail;refine cQ (NZ n W) λY K=>?_;rw[K];cases F:mE n;{have al:=h_ F;go_wp2_with fail;refine(TT a m c f 4 W ai j).mono ?_;rintro u Y ⟨aq,rfl,hr,b⟩;have d:=mB d b;have l:=mT l b;have j:=h_ (j.mono b);rcases hr with ⟨q,U,rfl,he,ah⟩|⟨rfl,ah⟩;{have M:Hi (y=f q):=h_ (t.symm.trans (qnv al U ah he));have p:(q:Int)<m:=fP;obtain⟨i,o,rfl,-,k,c1,c2⟩:=j q U;obtain⟨⟨N,J,C⟩,z,B,L⟩:=d.val;skip;go_wp2;exact bQ (v:=.agg (Jc (f q).k (f q).n (f q).s)) ⟨by rw[M.u];rfl,L9 l _ _ _⟩};have X:Hi (mE n=Ff->∀h,h<m->¬ (f h).k=4):=h_ (λ_=>ah);go_wp2_with fail;refine cQ (MZ n Y) λw3 K=>?_;rw[K];cases D:YA n;{have p:=h_ D;go_wp2_with fail;refine(TT a m c f 0 Y ai j).mono ?_;rintro u w3 ⟨aq,rfl,hr,b⟩;have d:=mB d b;have l:=mT l b;have j:=h_ (j.mono b);rcases hr with ⟨q,U,rfl,he,-⟩|⟨rfl,aj⟩;{have M:Hi (y=N4):=h_ (by rw[<- t.u,YR X.u,p.u,Ce U he];rfl);go_wp2_with fail;refine cQ (mK w3) λi b=>?_;have d:=mB d b;have l:=mT l b;have j:=h_ (j.mono b);obtain⟨⟨N,J,C⟩,z,B,L⟩:=d.val;skip;go_wp2;exact bQ (v:=.agg Jd) ⟨by rw[M.u];rfl,L9 l _ _ _⟩};have E:Hi (YA n=Ff->∀h,h<m->¬ (f h).k=0):=h_ (λ_=>aj);have x:=h_ (Jg aj);go_wp2_with fail;refine cQ (oU n e g ag.2 af w3) λw5 b=>?_;have d:=mB d b;have l:=mT l b;have j:=h_ (j.mono b);go_wp2_with (refine UP e g rfl _ _ rfl w5.1.size [.nilFunc,.nilFunc] rfl rfl rfl (m0.new w5 253 #[.nilFunc,.nilFunc]) ?_);intro k G I ak;have H:Bw w5 (w5.alloc (.cells #[.nilFunc,.nilFunc] 253)):=Bq;have b:Bw w5 k:=H.grown I fT (λq u=>Fq (Z7 u));have V:=h_ G;have d:=mB d b;have l:=mT l b;have j:=h_ (j.mono b);obtain⟨O,P⟩:k.cell? (zw w5 0)=Sm (.func (.func e) #[] #[])/\k.cell? (zw w5 1)=Sm (.func (.func g) #[] #[]):=⟨V.cell 0,V.cell 1⟩;have Z:∀(i:Ta) (w:Tw),(callFunc e i).run prog w=.ok (.enter e i) w:=ad.u;go_wp2_with fail;refine cQ (aa k l) λr b=>?_;have V:=mB V b;have d:=mB d b;have l:=mT l b;have j:=h_ (j.mono b);obtain⟨O,P⟩:r.cell? (zw w5 0)=Sm (.func (.func e) #[] #[])/\r.cell? (zw w5 1)=Sm (.func (.func g) #[] #[]):=⟨V.cell 0,V.cell 1⟩;cases A;{have M:Hi (y=C1 1):=h_ (by rw[<- t.u,YR X.u,p.u,x.u];rfl);exact kw};have M:Hi (y=R):=h_ (by rw[<- t.u,YR X.u,p.u,x.u];rfl);exact kv};have p:=h_ D;have E:Hi (YA n=Ff->∀h,h<m->¬ (f h).k=0):=h_ (λx=>by rw[D]at x;cases x);go_wp2_with fail;refine cQ (oU n e g ag.2 af Y) λw5 b=>?_;have d:=mB d b;have l:=mT l b;have j:=h_ (j.mono b);go_wp2_with (refine UP e g rfl _ _ rfl w5.1.size [.nilFunc,.nilFunc] rfl rfl rfl (m0.new w5 253 #[.nilFunc,.nilFunc]) ?_);intro k G I ak;have H:Bw w5 (w5.alloc (.cells #[.nilFunc,.nilFunc] 253)):=Bq;have b:Bw w5 k:=H.grown I fT (λq u=>Fq (Z7 u));have V:=h_ G;have d:=mB d b;have l:=mT l b;have j:=h_ (j.mono b);obtain⟨O,P⟩:k.cell? (zw w5 0)=Sm (.func (.func e) #[] #[])/\k.cell? (zw w5 1)=Sm (.func (.func g) #[] #[]):=⟨V.cell 0,V.cell 1⟩;have Z:∀(i:Ta) (w:Tw),(callFunc e i).run prog w=.ok (.enter e i) w:=ad.u;go_wp2_with fail;refine cQ (aa k l) λr b=>?_;have V:=mB V b;have d:=mB d b;have l:=mT l b;have j:=h_ (j.mono b);obtain⟨O,P⟩:r.cell? (zw w5 0)=Sm (.func (.func e) #[] #[])/\r.cell? (zw w5 1)=Sm (.func (.func g) #[] #[]):=⟨V.cell 0,V.cell 1⟩;cases A;{have M:Hi (y=C1 1):=h_ gH;exact kw};have M:Hi (y=R):=h_ gH;exact kv};have D:YA n=true:=(by unfold YA;rw[F];rfl);have X:Hi (mE n=Ff->∀h,h<m->¬ (f h).k=4):=h_ (λx=>by rw[F]at x;cases x);have E:Hi (YA n=Ff->∀h,h<m->¬ (f h).k=0):=h_ (λx=>by rw[D]at x;cases x);have p:=h_ D;go_wp2_with fail;refine(MZ n W).mono ?_;rw[p.u];rintro u w3 ⟨rfl,K⟩;rw[K];go_wp2_with fail;refine cQ (oU n e g ag.2 af W) λw5 b=>?_;have d:=mB d b;have l:=mT l b;have j:=h_ (j.mono b);go_wp2_with (refine UP e g rfl _ _ rfl w5.1.size [.nilFunc,.nilFunc] rfl rfl rfl (m0.new w5 253 #[.nilFunc,.nilFunc]) ?_);intro k G I ak;have H:Bw w5 (w5.alloc (.cells #[.nilFunc,.nilFunc] 253)):=Bq;have b:Bw w5 k:=H.grown I fT (λq u=>Fq (Z7 u));have V:=h_ G;have d:=mB d b;have l:=mT l b;have j:=h_ (j.mono b);obtain⟨O,P⟩:k.cell? (zw w5 0)=Sm (.func (.func e) #[] #[])/\k.cell? (zw w5 1)=Sm (.func (.func g) #[] #[]):=⟨V.cell 0,V.cell 1⟩;have Z:∀(i:Ta) (w:Tw),(callFunc e i).run prog w=.ok (.enter e i) w:=ad.u;go_wp2_with fail;refine cQ (aa k l) λr b=>?_;have V:=mB V b;have d:=mB d b;have l:=mT l b;have j:=h_ (j.mono b);obtain⟨O,P⟩:r.cell? (zw w5 0)=Sm (.func (.func e) #[] #[])/\r.cell? (zw w5 1)=Sm (.func (.func g) #[] #[]):=⟨V.cell 0,V.cell 1⟩;cases A;{have M:Hi (y=C1 1):=h_ gH;exact kw};have M:Hi (y=R):=h_ gH;exact kv
