import Derived.Test.YtdlnflnfbcaiiaaGreatDoorW35
import Derived.Test.YtdlnflnfbcaiiaaGreatDoorW32
import Derived.Test.YtdlnflnfbcaiiaaGreatDoorW13
set_option linter.all false
set_option maxRecDepth 100000
set_option maxHeartbeats 0
namespace Go.Proofs.YtdlnflnfbcaiiaaGreatDoor
open Value renaming slice->Sl,string->St
open Ending renaming returned->Rt
open Option renaming none->Nn,some->Sm
open Go Go.RowKit Go.Proofs.Tryz
variable {n k i j p q:Nat}{t:TypeId}{v:Value}{x y:Tl}{a:To}{g:Nat->Nat}
def Ex (m:Fm)(A:MA)(w:Tw)(q:Int)(G:q≠0)(g:vI m.L.length m.P.length (JC m) (KC m) q)(U:C3 m)(K:I0 w m A):Gv 83 #[mV m A] w (Ye (-1)):=by obtain⟨X,d,Y⟩:=oC (λW=>NL m A W U) g (λW (B:I0 W m A)=>VH B);have j:(q != 0)=true:=(by simpa using G);obtain⟨B,f,b,v,ar,i,e,z,F⟩:=A;unfold mV at X|-;dsimp only at X Y|-;obtain⟨k,O,R,l⟩:=S5 w 28 (Jb B m f b v ar i e z);have a:=h_ (K.mono l.u);clear K U g G;obtain⟨g,n,D,E⟩:=E0 R.u;go_enter func83,ntmps83;go_wp2_with fail;(try rw[O]);refine cQ (X k) λI c=>?_;have a:=h_ (a.mono c);have l:=mT l c;have h:=h_ (d I b v (Y I a));unfold I7 at h;clear c O g n D E;go_wp2_with fail;refine cQ h λg c=>?_;have l:=mT l c;have E:=h_ (l.u.alloc l.u.size (.cells Je 37));clear c;go_wp2;go_ret;exact⟨rfl,E⟩
def qet {m:Fm}{F:Nat->Bool}{f:Nat->Nat}(h:∀k,k<m.F.length->f k=g k):∀k,k<m.F.length->(QB m n F f k ↔ QB m n F g k):=λk a=>by unfold QB;rw[h k a];exact⟨λ⟨D,j,s,K,o⟩=>⟨D,j,s,K,by rw[<- h j s];exact o⟩,λ⟨D,j,s,K,o⟩=>⟨D,j,s,K,by rw[h j s];exact o⟩⟩
def qqb (m:Fm)(U:C3 m)(d:vJ m)(l:m.P.length<=1048576):∃z:Int,(-1<=z/\z<m.F.length)/\∀(w:Tw) (A:MA),I0 w m A -> Gv 83 #[mV m A] w (Ye z):=by rcases qT m.L.length m.P.length (JC m) (KC m) l with ⟨i,k,a,-⟩|⟨s,F,J,M,D,top,-,⟨n,o,h,S⟩,a,-⟩;{exact⟨-1,⟨fP,fP⟩,λw A K=>Ex m A w i k a U K⟩};by_cases t:∃f,T8 m n (λb c=>F (b*n+c)=true) f/\xD m n (λb c=>F (b*n+c)=true) f;{obtain⟨f,W,X⟩:=t;obtain⟨z,b⟩:=v7.ex (QB m n F f) m.F.length;refine⟨z,b.bounds,λw A K=>(tU m A w D top s n o h F J M d a S U K).mono λr p ⟨H,g,e,q,N,j,c⟩=>⟨?_,c⟩⟩;rw[e,(j.iff (qet (QN (tG S) q W N X))).one b]};exact⟨-1,⟨fP,fP⟩,λw A K=>(tU m A w D top s n o h F J M d a S U K).mono λr p ⟨H,g,e,q,N,j,c⟩=>absurd ⟨g,q,N⟩ t⟩
def qkh (m:Fm)(U:C3 m):∃I:List Int,(I.length=0\/I.length=m.F.length)/\(∀x,x∈I->0<=x/\x<m.L.length)/\∀(w:Tw) (A:MA),I0 w m A -> Calls prog 9 #[mV m A] w λr j=>∃J Y,r=Rt (Sl J I.length Y)/\AB j J I/\Bw w j:=by have v:(G6 m=true->∃q,q≠0/\vI m.L.length m.P.length (JC m) (KC m) q)->∃I:List Int,(I.length=0\/I.length=m.F.length)/\(∀x,x∈I->0<=x/\x<m.L.length)/\∀(w:Tw) (A:MA),I0 w m A -> Calls prog 9 #[mV m A] w λr j=>∃J Y,r=Rt (Sl J I.length Y)/\AB j J I/\Bw w j:=λh=>⟨[],.inl rfl,λx u=>by simp at u,λw A K=>(q9k m A w (λy H=>II m A y U H) h U K).mono λr j ⟨J,Y,e,c⟩=>⟨J,Y,e,λl k=>absurd k (nL _),c⟩⟩;cases a:G6 m;{exact v λh=>by rw[a]at h;cases h};have I:N1 m:=Classical.byContradiction λb=>(by rw[VN b]at a;cases a);rcases qT m.L.length m.P.length (JC m) (KC m) (Fq I.np) with ⟨q,z,b,-⟩|⟨s,F,h,M,D,top,-,⟨n,o,p,S⟩,b,-⟩;{exact v λ_=>⟨q,z,b⟩};by_cases t:∃f,T8 m n (λd g=>F (d*n+g)=true) f/\xD m n (λd g=>F (d*n+g)=true) f;{obtain⟨f,W,X⟩:=t;refine⟨(P3 f m.F.length).map λx:Nat=>(x:Int),.inr (by rw[Zc,rM]),λx u=>?_,λw A K=>(KU m A w D top s n o p F h M (λy H=>II m A y U H) a I b S U K).mono λr j ⟨g,J,Y,e,d,N,i,c⟩=>⟨J,Y,?_,?_,c⟩⟩;{obtain⟨C,B,rfl⟩:=Zb.1 u;obtain⟨l,k,rfl⟩:=Zb.1 B;have:=W.lt l (Y6.1 k);have:=S.hN;omega};{rw[Zc,rM];exact e};have k:P3 g m.F.length=P3 f m.F.length:=Dd (QN (tG S) d W N X);rw[<- k];exact i};exact⟨[],.inl rfl,λx u=>by simp at u,λw A K=>(KU m A w D top s n o p F h M (λy H=>II m A y U H) a I b S U K).mono λr j ⟨g,J,Y,e,d,N,i,c⟩=>absurd ⟨g,d,N⟩ t⟩
def Hm (N:Nat)(h1:1<=N)(l:List (Int × Int))(d:l.length<=1048576):∃D top:Int,(0<=D/\D<N)/\(0<=top/\top<N)/\∀(w:Tw) (X:To) (c:Nat),nI w X l -> Calls prog 8 #[.agg (Jn N X l.length c)] w λe j=>∃t u n c1 x a c2 C Z c3 q,e=Rt (.tuple #[.agg #[Ye t,Sl u n c1,Sl x a c2,Sl C Z c3,Ye D,Ye top],Ye q])/\Bw w j:=by rcases qT N l.length (λk=>(l.getD k (0,0)).1) (λk=>(l.getD k (0,0)).2) d with ⟨q,-,h,-⟩|⟨s,F,J,M,D,top,-,⟨n,o,g,S⟩,h,-⟩;{exact⟨0,0,⟨fP,fP⟩,⟨fP,fP⟩,λw X c b=>(h w X c (XV b)).mono λe j ⟨Z,a⟩=>⟨0,Nn,0,0,Nn,0,0,Nn,0,0,q,Z,a⟩⟩};have:=S.hN;have:=S.hb;have:=S.ht;have:=S.bb;have:=S.tt;exact⟨D,top,⟨fP,fP⟩,⟨fP,fP⟩,λw X c b=>(h w X c (XV b)).mono λe j ⟨u,x,C,c1,c2,c3,Z,_,_,_,a⟩=>⟨N,u,s,c1,x,s,c2,C,s,c3,0,Z,a⟩⟩
def uR {H:Type}(g:Nat->H)(k:Nat):(List.range (k+1)).map g=(List.range k).map g++[g k]:=by rw[Zi,Zs];rfl
def oJ {H:Type}(g:Nat->H)(k:Nat):((List.range k).map g).length=k:=by rw[Zc,Gp]
def L8 (ty:Nat->Int)(nm:Nat->Tb):Nat->Int->List Tb
 | 0=>λ_=>[]
 | k+1=>DH (L8 ty nm k) (ty k) (nm k)
def SO {ty:Nat->Int}{nm:Nat->Tb}:∀k F,(L8 ty nm k F).length<=k/\∀x,x∈L8 ty nm k F->∃i,i<k/\x=nm i|0,_=>⟨nZ _,λx u=>by simp[L8]at u⟩|k+1,F=>by have q:=SO (ty:=ty) (nm:=nm) k F;unfold L8 DH;by_cases h:F=ty k;{rw[Yz h,Yn];refine⟨by have:=q.1;show _+1<=k+1;omega,λx u=>?_⟩;rw[Zf]at u;rcases u with u|u;{obtain⟨i,m,r⟩:=q.2 x u;exact⟨i,fP,r⟩};exact⟨k,fP,Y7.1 u⟩};rw[Ys h];refine⟨Fq q.1,λx u=>?_⟩;obtain⟨i,m,r⟩:=q.2 x u;exact⟨i,fP,r⟩
def XX {ty:Nat->Int}{nm:Nat->Tb}(a:k<=1000)(h:∀i,i<=1000->(nm i).size<=64):FH (L8 ty nm k):=λF=>by have w:∀m,(L8 ty nm k m).length<=1000/\∀x,x∈L8 ty nm k m->x.size<=64:=λm=>(by have:=SO (ty:=ty) (nm:=nm) k m;refine⟨fP,λx u=>?_⟩;obtain⟨i,m,rfl⟩:=this.2 x u;exact h i fP);unfold tD;by_cases m:F=1;{rw[Yz m];exact w 1};rw[Ys m];by_cases r:F=2;{rw[Yz r];exact w 2};rw[Ys r];exact w 3
def mN (m lab:Int)(k:Nat)(x:Fl):Fl:=if (k:Int)=m then { x with lb:=lab } else x
def sE (m lab:Int)(l:List Fl):Nat->List Fl
 | 0=>[]
 | k+1=>sE m lab l k++[mN m lab k (l.getD k qA)]
def mW (m lab:Int)(l:List Fl):∀k,(sE m lab l k).length=k
 | 0=>rfl
 | k+1=>by show(sE m lab l k++_).length=_;rw[Yn,mW m lab l k];rfl
def Eg (m lab:Int)(l:List Fl):∀k,k<=l.length->∀x,x∈sE m lab l k->∃j y,y∈l/\x=mN m lab j y|0,_,_,h=>by simp[sE]at h|k+1,hk,x,h=>by unfold sE at h;rw[Zf]at h;rcases h with h|h;{exact Eg m lab l k fP x h};obtain rfl:=Y7.1 h;exact⟨k,l.getD k qA,by rw[Yr,Yp fP];exact Yq _,rfl⟩
def qnf (m lab:Int)(k:Nat)(x:Fl × FA):(setF m lab k x).1=mN m lab k x.1:=by unfold setF mN;split <;> rfl
def oR (l:List (Fl × FA))(k:Nat):(l.getD k (qA,GG)).1=(l.map (·.1)).getD k qA:=by rw[Yr,Yr,Zt];cases l[k]? <;> rfl
def nW (m lab:Int)(l:List (Fl × FA)):∀k,(JA m lab l k).map (·.1)=sE m lab (l.map (·.1)) k|0=>rfl|k+1=>by show(JA m lab l k++[_]).map _=sE m lab (l.map (·.1)) k++[_];rw[Zs,nW m lab l k,<- oR,<- qnf];rfl
def GF (nl nr:Nat)(l:List Fl):Prop:=∀x,x∈l->vC nl nr x
def Dg {m lab:Int}{l:List Fl}(h:GF n k l)(e:-1<=lab/\lab<n):GF n k (sE m lab l l.length):=λx u=>by obtain⟨j,y,c,rfl⟩:=Eg m lab l l.length (nR _) x u;have g:=h y c;unfold mN;split;{exact⟨g.nm,g.ty,e,g.bs,g.is,g.wh,g.va,g.sy,g.mu⟩};exact g
structure SD where
 N:Nat
 lp:List (Int × Int)
 q0:Nat
 nn:Nat
 bot:Int
 top:Int
 lnm:Nat->Tb
 rnm:Nat->Tb
 fnm:Nat->Tb
 g:Nat->Fl
 pq:Nat->Nat
 zz:Nat->Int
 FL:Nat->List Fl
 ls:List Int
 FM:Nat->List Fl
def tJ (x:Nat):Int:=if x=3\/x=4 then 2 else if x=5 then 3 else 1
def VO (x:Nat):tJ x=1\/tJ x=2\/tJ x=3:=by unfold tJ;split;{exact .inr (.inl rfl)};split;{exact .inr (.inr rfl)};exact .inl rfl
section
variable (len:Nat) (f:Nat->Nat) (D:SD)
def yO (i:Nat):Int:=if 0<N0 len f (D.q0+2+2*i) 3/\i=1 then D.top else if 0<N0 len f (D.q0+2+2*i) 3/\i=0/\0<D.nn then D.bot else ((N0 len f (D.q0+1+2*i) D.N:Nat):Int)
def SD.lab (k:Nat):List Tb:=(List.range k).map D.lnm
def QF (k:Nat):List Rl:=(List.range k).map λi=>⟨D.rnm i,yO len f D i⟩
def SD.p2:Nat:=D.q0+1+2*(D.nn+1)
def O6 (k:Nat):Int:=tJ (N0 len f (D.p2+k) 6)
def mA (k:Nat):List Int:=(List.range k).map (O6 len f D)
def V8 (l:List Fl):Fm:=⟨D.lab D.N,D.lp,QF len f D (D.nn+1),l⟩
def vF (k:Nat):List Fl:=if N0 len f (D.pq k+D.ls.length) 3=0/\1<k then (D.FM D.ls.length).reverse else D.FM D.ls.length
structure AZ (p flds:Nat):Prop where
 hN1:1<=D.N
 hN2:D.N<=100
 hlp:D.lp.length<=200
 hq0:D.q0<=p+11
 cD:∀(w:Tw) (a:To) (c:Nat),O7 w a len f->Calls prog 77 #[Sl a len c,Ye p] w λe w'=>UO w D.N D.lp D.q0 e w'
 cL:∀i:Nat,i<=1000->∀w:Tw,Gv 78 #[Ye i] w (St (D.lnm i))
 hnn:D.nn=if 0<N0 len f D.q0 10 then 1+N0 len f D.q0 10 % 3 else 0
 hn3:D.nn<=3
 cB:∀(w:Tw) (X:To) (c:Nat),nI w X D.lp->Calls prog 8 #[.agg (Jn D.N X D.lp.length c)] w λe w'=>∃n0 a1 l1 c1 a2 l2 c2 a3 l3 c3 code,e=Rt (.tuple #[.agg #[Ye n0,Sl a1 l1 c1,Sl a2 l2 c2,Sl a3 l3 c3,Ye D.bot,Ye D.top],Ye code])/\Bw w w'
 cR:∀i:Nat,i<=1000->∀w:Tw,Gv 79 #[Ye i] w (St (D.rnm i))
 cN:∀i:Nat,i<=1000->∀w:Tw,Gv 81 #[St ⟨#[97,98,99,100,101,102,103,104]⟩,Ye i] w (St (D.fnm i))
 pq0:D.pq 0=D.p2+flds
 hpq:∀k,k<=flds->D.pq k<=100000
 cF:∀k:Nat,k<flds->∀(w:Tw) (a:To) (c:Nat) (xl xp xr xf:To) (cl np cp cr nf cf:Nat) (vb va:Value),O7 w a len f->tC (L8 (O6 len f D) D.fnm k) w vb->tC (L8 (O6 len f D) D.fnm flds) w va ->
  Calls prog 82 #[Sl a len c,Ye (D.pq k),.agg (Jo xl D.N cl xp np cp xr (D.nn+1:Nat) cr xf nf cf),Ye k,Ye (O6 len f D k),vb,va] w λe w'=>∃A,e=Rt (.tuple #[fV (D.g k) A,Ye (D.pq (k+1))])/\S6 w' w.1.size (D.g k) A/\Bw w w'
 gnm:∀k,k<flds->(D.g k).nm=D.fnm k
 FL0:D.FL 0=(List.range flds).map D.g
 FLs:∀i,D.FL (i+1)=if 0<=D.zz i then sE (D.zz i) (-1) (D.FL i) flds else D.FL i
 FLl:∀i,(D.FL i).length=flds
 cZ:∀i,i<flds->∀(w:Tw) (A:MA),I0 w (V8 len f D (D.FL i)) A->Gv 83 #[mV (V8 len f D (D.FL i)) A] w (Ye (D.zz i))
 hls:D.ls.length<=flds
 cI:∀(w:Tw) (A:MA),I0 w (V8 len f D (D.FL flds)) A->Calls prog 9 #[mV (V8 len f D (D.FL flds)) A] w λr w'=>∃a0 c0,r=Rt (Sl a0 D.ls.length c0)/\AB w' a0 D.ls/\Bw w w'
 FM0:D.FM 0=D.FL flds
 FMs:∀k,k<D.ls.length->D.FM (k+1)=if N0 len f (D.pq flds+k) 4=0/\((D.FM k).getD k qA).lb<0 then sE k (D.ls.getD k 0) (D.FM k) flds else D.FM k
 FMl:∀k,k<=D.ls.length->(D.FM k).length=flds
end
def JH.rng {w:Tw}{b o:Nat}{g:Fl}{A:FA}(h:JH w b o g A):w.rangeAt b o (L1 g A):=λj v s=>by obtain⟨-,D,a,r,Z,c,d,e,G,x⟩:=h;match j,s with|0,s=>cases s;exact D|1,s=>cases s;exact a|2,s=>cases s;exact r|3,s=>cases s;exact Z|4,s=>cases s;exact c|5,s=>cases s;exact d|6,s=>cases s;exact e|7,s=>cases s;exact G|8,s=>cases s;exact x|_+9,s=>cases s
def m0.rng {w:Tw}{g:Nat}{cs:Tl}(h:m0 w g t cs):w.rangeAt g 0 cs:=λj v s=>by rw[Zk];exact(h.cell j).trans s
def Ci (h:j<n):n - (intOf (Ye ((j:Int)+1))).toNat<n - (intOf (Ye (j:Int))).toNat:=by exact kZ
section
variable {R:Nat} {m:Fm} {P:List (Fl × FA)} {v1 v2 v3 v4:Value} {w W W':Tw}
def m0.grow {base e:Nat}{cs:Tl}(h:m0 W q t cs)(a:W.ownsRow base e k v n x)(f:e≠t)(H:W.grownBy W' v.ownBlock):m0 W' q t cs:=(H.block _ h.lt (λQ=>uD a h f Q.symm)).trans h
def C4.setP (h:C4 R m P v1 v2 v3 v4 w W){l:List (Int × Int)}{v':Value}(a:N8 W w.1.size v' l):C4 R { m with P:=l } P v1 v' v3 v4 w (W.setCell (Aq R 1) v'):=by have g:=h.hR;have b:T3 W w.1.size v1 v' v3 v4 { m with P:=l } P:=⟨h.ow.l,a,h.ow.r,h.ow.f,h.ow.e⟩;exact⟨h.bx.set 1 _,b.formSet h.bx 1 _,h.bl.setCell (show w.1.size<=R by omega) _,h.r0.other _ (show w.1.size≠R by omega),g⟩
def C4.setF (h:C4 R m P v1 v2 v3 v4 w W){a:List (Fl × FA)}{v':Value}(b:YB W w.1.size v' a):C4 R { m with F:=a.map (·.1) } a v1 v2 v3 v' w (W.setCell (Aq R 3) v'):=by have g:=h.hR;have c:T3 W w.1.size v1 v2 v3 v' { m with F:=a.map (·.1) } a:=⟨h.ow.l,h.ow.p,h.ow.r,b,rfl⟩;exact⟨h.bx.set 3 _,c.formSet h.bx 3 _,h.bl.setCell (show w.1.size<=R by omega) _,h.r0.other _ (show w.1.size≠R by omega),g⟩
def C4.rowF (h:C4 R m P v1 v2 v3 v4 w W){a:List (Fl × FA)}{v':Value}(b:YB W w.1.size v' a):C4 R { m with F:=a.map (·.1) } a v1 v2 v3 v' w (W.setRow R #[v1,v2,v3,v']):=by have g:=h.hR;have d:T3 W w.1.size v1 v2 v3 v' { m with F:=a.map (·.1) } a:=⟨h.ow.l,h.ow.p,h.ow.r,b,rfl⟩;exact⟨h.bx.row [v1,v2,v3,v'],d.one h.bx fS fS fS fS fS fS (λc k=>setRow_other W R c #[v1,v2,v3,v'] k),below_setRow h.bl (show w.1.size<=R by omega) _,h.r0.row_other (show w.1.size≠R by omega) _,g⟩
section
variable {K:Int->List Tb} {B:Nat} {z1 z2 z3:Value}
def wD.blk (h:wD z1 z2 z3 W W')(k:R6 K W B z1 z2 z3){cs:Tl}(c:m0 W q t cs)(r:9≠t):m0 W' q t cs :=
 (h.block q c.lt (uD k.r1 c r) (uD k.r2 c r) (uD k.r3 c r)).trans c
def YQ {base e c:Nat}{v':Value}(h:W.ownsRow base e k v n x)(b:W.ownsRow i j p v' c y)(f:e≠j)(J:v.ownBlock=Sm q):v'.ownBlock≠Sm q:=λN=>by rcases sA h b f with a|a;{rw[a]at J;cases J};exact a (J.trans N.symm)
def wD.own (h:wD z1 z2 z3 W W')(a:R6 K W B z1 z2 z3){base e:Nat}(Q:W.ownsRow base e k v n x)(f:e≠9):W'.ownsRow base e k v n x :=
 mJ Q λq J=>h.block q (TE Q J) (YQ Q a.r1 f J) (YQ Q a.r2 f J) (YQ Q a.r3 f J)
def wD.low (h:wD z1 z2 z3 W W')(a:R6 K W B z1 z2 z3){base e:Nat}(Q:W.ownsRow base e k v n x)(c:∀q,v.ownBlock=Sm q->q<B):W'.ownsRow base e k v n x := mJ Q λq J=>by have u:=c q J;have N:∀{z:Value} {l:List Tb},XA W B z l->z.ownBlock≠Sm q:=λg b=>(Fq (M3 g b));exact h.block q (TE Q J) (N a.r1) (N a.r2) (N a.r3)
def wD.below (h:wD z1 z2 z3 W W')(k:R6 K W B z1 z2 z3)(d:B<=W.1.size):Below B W W' :=
 ⟨h.os,h.tape,h.output,h.size,λq J=>by
  have N:∀{z:Value} {l:List Tb},XA W B z l->z.ownBlock≠Sm q:=λg a=>by have:=M3 g a;omega
  exact h.block q fP (N k.r1) (N k.r2) (N k.r3)⟩
def S6.kpt (h:wD z1 z2 z3 W W')(k:R6 K W B z1 z2 z3){base:Nat}{g:Fl}{A:FA}(Q:S6 W base g A):S6 W' base g A :=
 ⟨h.own k Q.b fS,h.own k Q.i fS,h.own k Q.h fS,h.own k Q.v fS,h.own k Q.u fS⟩
def C4.kpt (a:C4 R m P v1 v2 v3 v4 w W)(h:wD z1 z2 z3 W W')(k:R6 K W B z1 z2 z3)(d:B<=W.1.size)(g:w.1.size<=B)(b:∀q,v1.ownBlock=Sm q->q<B):C4 R m P v1 v2 v3 v4 w W' :=
 ⟨h.blk k a.bx fS,⟨h.low k a.ow.l b,h.own k a.ow.p fS,h.own k a.ow.r fS,⟨h.own k a.ow.f.row fS,λp c=>S6.kpt h k (a.ow.f.sub p c)⟩,a.ow.e⟩,a.bl.trans ((h.below k d).mono g),h.blk k a.r0 fS,a.hR⟩
def R6.grow (a:R6 K W B z1 z2 z3){base e:Nat}(Q:W.ownsRow base e k v n x)(f:9≠e)(H:W.grownBy W' v.ownBlock):R6 K W' B z1 z2 z3 :=
 ⟨a.r1.kept H (sA a.r1 Q f),a.r2.kept H (sA a.r2 Q f),a.r3.kept H (sA a.r3 Q f),a.a12,a.a13,a.a23⟩
def R6.one (k:R6 K W B z1 z2 z3){g:Nat}{cs:Tl}(c:m0 W g t cs)(r:9≠t)(f:∀a,a≠g->W'.heap[a]? = W.heap[a]?):R6 K W' B z1 z2 z3 :=
 ⟨PA k.r1 c r f,PA k.r2 c r f,PA k.r3 c r f,k.a12,k.a13,k.a23⟩
def R6.nil (k:∀i,K i=[]):R6 K W B Yf Yf Yf:=by have z:∀i,XA W B Yf (K i):=λi=>(by rw[k i];exact World.ownsRow_nil _ _ _ _);exact⟨z 1,z 2,z 3,λq h=>gC,λq h=>gC,λq h=>gC⟩
def R6.slices (k:R6 K W B z1 z2 z3):∃d S f b Z v Q a T,z1=Sl d S f/\z2=Sl b Z v/\z3=Sl Q a T:=by obtain⟨c,f,Z,-,-⟩:=k.r1.strs;obtain⟨X,v,a,-,-⟩:=k.r2.strs;obtain⟨h,T,b,-,-⟩:=k.r3.strs;exact⟨_,_,_,_,_,_,_,_,_,Z,a,b⟩
def R6.pick (k:R6 K W B z1 z2 z3):tC K W (.agg #[z1,z2,z3]):=by obtain⟨b,f,rfl,-,a⟩:=k.r1.strs;obtain⟨X,v,rfl,-,r⟩:=k.r2.strs;obtain⟨h,T,rfl,-,Z⟩:=k.r3.strs;exact⟨_,_,_,_,_,_,_,_,_,rfl,⟨rfl,a⟩,⟨rfl,r⟩,rfl,Z⟩
def R6.low (k:R6 K W B z1 z2 z3):(∀q,z1.ownBlock=Sm q->q<W.1.size)/\(∀q,z2.ownBlock=Sm q->q<W.1.size)/\∀q,z3.ownBlock=Sm q->q<W.1.size:=⟨λ_ h=>TE k.r1 h,λ_ h=>TE k.r2 h,λ_ h=>TE k.r3 h⟩
end
def Ev {w:Tw}{g:Nat}{a:Addr}(u:Ta)(h:a.block≠g):(w.setRow g u).cell? a=w.cell? a:=by unfold World.cell?;rw[setRow_other _ _ _ _ h]
def Km {w:Tw}{base c:Nat}{l:List Int}(h:IB w base (Sl a n c) l)(b:n=l.length):AB w a l:=by subst b;exact OW h
structure OC (tys:List Int)(KA KB:Int->List Tb)(B B4:Nat)(vt u1 u2 u3 z1 z2 z3:Value)(W:Tw):Prop where
 ty:IB W B vt tys
 ab:m0 W (B+1) 153 [u1,u2,u3]
 ak:R6 KA W B u1 u2 u3
 bb:m0 W B4 153 [z1,z2,z3]
 bk:R6 KB W B4 z1 z2 z3
 lo:B+1<B4
 l1:∀q,u1.ownBlock=Sm q->q<B4
 l2:∀q,u2.ownBlock=Sm q->q<B4
 l3:∀q,u3.ownBlock=Sm q->q<B4
section
variable {tys:List Int} {KA KB KB':Int->List Tb} {B B4:Nat} {vt u1 u2 u3 z1 z2 z3 y1 y2 y3:Value}
def OC.mono (h:OC tys KA KB B B4 vt u1 u2 u3 z1 z2 z3 W)(c:Bw W W'):OC tys KA KB B B4 vt u1 u2 u3 z1 z2 z3 W' :=
 ⟨BA h.ty c,h.ab.mono c h.ab.lt,h.ak.keep c,h.bb.mono c h.bb.lt,h.bk.keep c,h.lo,h.l1,h.l2,h.l3⟩
def OC.grow (h:OC tys KA KB B B4 vt u1 u2 u3 z1 z2 z3 W){base:Nat}(Q:W.ownsRow base 56 k v n x)(H:W.grownBy W' v.ownBlock):OC tys KA KB B B4 vt u1 u2 u3 z1 z2 z3 W' :=
 ⟨h.ty.kept H (sA h.ty Q fS),h.ab.grow Q fS H,h.ak.grow Q fS H,h.bb.grow Q fS H,h.bk.grow Q fS H,h.lo,h.l1,h.l2,h.l3⟩
def OC.one (h:OC tys KA KB B B4 vt u1 u2 u3 z1 z2 z3 W){cs:Tl}(c:m0 W R 28 cs)(f:∀k,k≠R->W'.heap[k]? = W.heap[k]?)(S:B+1≠R)(Z:B4≠R):OC tys KA KB B B4 vt u1 u2 u3 z1 z2 z3 W' :=
 ⟨PA h.ty c fS f,(f _ S).trans h.ab,h.ak.one c fS f,(f _ Z).trans h.bb,h.bk.one c fS f,h.lo,h.l1,h.l2,h.l3⟩
def OC.kpt (h:OC tys KA KB B B4 vt u1 u2 u3 z1 z2 z3 W)(k:wD z1 z2 z3 W W')(hy:R6 KB' W' B4 y1 y2 y3):OC tys KA KB' B B4 vt u1 u2 u3 y1 y2 y3 (W'.setRow B4 #[y1,y2,y3]):=by have a:=k.blk h.bk h.bb fS;have J:=h.lo;have L:∀j,j≠B4->(W'.setRow B4 #[y1,y2,y3]).heap[j]? = W'.heap[j]?:=λj s=>setRow_other _ _ _ _ s;have b:R6 KA W' B u1 u2 u3:=⟨k.low h.bk h.ak.r1 h.l1,k.low h.bk h.ak.r2 h.l2,k.low h.bk h.ak.r3 h.l3,h.ak.a12,h.ak.a13,h.ak.a23⟩;exact⟨PA (k.own h.bk h.ty fS) a fS L,(L _ fP).trans (k.blk h.bk h.ab fS),b.one a fS L,a.row [y1,y2,y3],hy.one a fS L,J,h.l1,h.l2,h.l3⟩
def OC.at (h:OC tys KA KB B B4 vt u1 u2 u3 z1 z2 z3 W){x:To}{c:Nat}(I:vt=Sl x tys.length c)(a:k<tys.length):∃b o,x=Sm (Aq b o)/\b<W.1.size/\W.cell? (Aq b (o+k))=Sm (Ye (tys.getD k 0)):=by have:=h.ty;rw[I]at this;exact OW this k a
def C4.four (a:C4 R m P v1 v2 v3 v4 w W)(h:wD z1 z2 z3 W W')(k:R6 KB W B4 z1 z2 z3)(d:B4<=W.1.size)(i:w.1.size<B4)(e:∀q,v1.ownBlock=Sm q->q<B4)(c:m0 W B4 153 [u1,u2,u3])(cs:Ta)(g:B4≠R):C4 R m P v1 v2 v3 v4 w (W'.setRow B4 cs):=by have F:=a.kpt h k d fP e;have b:=h.blk k c fS;have y:=a.hR;exact⟨F.bx.row_other (Ne.symm g) _,F.ow.one b fS fS fS fS fS fS (λf k=>setRow_other W' B4 f cs k),below_setRow F.bl fP _,F.r0.row_other fP _,y⟩
end
def qmw {H:Type}(l:List H)(s:j<l.length):l.reverse.take (l.length - j)=l.reverse.take (l.length - (j+1))++[l[j]]:=by have h:l.length - j=(l.length - (j+1))+1:=fP;rw[h,Oq];congr 1;have r:l.length - (j+1)<l.reverse.length:=(by rw[Zh];omega);rw[Yp r,List.getElem_reverse];simp only[Option.toList_some,List.cons.injEq,and_true];congr 1;omega
def AB.other {l:List Int}(h:AB W a l){cs:Tl}(c:m0 W R 28 cs)(N:∀(j:Nat) (i:Int),cs[j]?≠Sm (Value.int .i64 i))(d:∀k,k≠R->W'.heap[k]? = W.heap[k]?)(g:W.1.size<=W'.1.size):AB W' a l:=λk q=>by obtain⟨b,o,e,f,r⟩:=h k q;have M:b≠R:=λQ=>(by subst Q;rw[c.cell]at r;exact N _ _ r);refine⟨b,o,e,fP,?_⟩;rw[<- r];unfold World.cell?;rw[d b M]
def qqw (u x C D:To)(S Z a t c1 c2 c3 c4:Nat):∀(j:Nat) (i:Int),[Value.slice u S c1,Sl x Z c2,Sl C a c3,Sl D t c4][j]?≠Sm (Ye i):=λj i h=>by match j,h with|0,h=>cases h|1,h=>cases h|2,h=>cases h|3,h=>cases h|_+4,h=>cases h
