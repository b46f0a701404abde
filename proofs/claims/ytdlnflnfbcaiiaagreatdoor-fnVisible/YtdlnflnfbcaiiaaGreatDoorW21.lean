import Derived.Test.YtdlnflnfbcaiiaaGreatDoorW18
import Derived.Test.YtdlnflnfbcaiiaaGreatDoorW19
set_option linter.all false
set_option maxRecDepth 100000
set_option maxHeartbeats 0
namespace Go.Proofs.YtdlnflnfbcaiiaaGreatDoor
open Value renaming slice->Sl,string->St,bool->Bo
open Obj renaming cells->Cl
open Option renaming none->Nn,some->Sm
section
open Go Go.RowKit Go.Proofs.Tryz
def nC (n:Nx):Tl:=[.int .i64 n.op,.int .i64 n.v.k,.int .i64 n.v.n,St n.v.s,St n.nm]
def nA (l:List Nx):Tl:=l.flatMap nC
def qlk (l):(nA l).length=l.length*5:=by induction l with|nil=>rfl|cons p r q=>simp only[nA,Vk,Yn,nC,Y5,Ze]at *;omega
def Hf (l r):nA (l++r)=nA l++nA r:=by simp[nA]
def If {l k p}(a:k<l.length)(h:p<5):(nA l)[k*5+p]? = (nC l[k])[p]?:=by induction l generalizing k with|nil=>cases a|cons x r q=>cases k with|zero=>rw[show nA (x :: r)=nC x++nA r from rfl,Gs,Zk,Ol (by simp[nC];omega)];rfl|succ k=>rw[show nA (x :: r)=nC x++nA r from rfl,Oe (by simp[nC];omega)];have:=q (k:=k) gt;rw[show(k+1)*5+p - (nC x).length=k*5+p by simp[nC];omega];simpa using this
def A5 (w:Tw)(base:Nat)(v:Value)(l:List Nx):Prop:=w.ownsRow base 96 5 v l.length (nA l)
def A5.keep {w w' base v l}(h:A5 w base v l)(c:Bw w w'):A5 w' base v l :=
 World.ownsRow.kept (row:=Nn) h ⟨c.os,c.tape,c.output,c.size,λa k _=>c.block a k⟩ (Classical.em _)
def A5.low {w base n v l}(h:A5 w base v l)(c:n<=base):A5 w n v l:=by refine⟨h.1,?_⟩;rcases h.2 with r|⟨g,N,b,m,H,a⟩;{exact .inl r};exact Dj
def A5.none (w:Tw):A5 (w.alloc (Cl #[] 96)) w.1.size (Sl (Sm (Aq w.1.size 0)) 0 0) [] :=
 ⟨rfl,.inr ⟨w.1.size,0,#[],rfl,nR _,heap_alloc_new w (Cl #[] 96),nR _,nZ _,rfl,rfl⟩⟩
def A5.nods {w base v l}(h:A5 w base v l):∃a c,v=Sl a l.length c/\Q7 w a l:=by rcases h.2 with ⟨e,D⟩|⟨g,b,d,e,H,J,K,i,j,G⟩;{exact⟨.none,0,by rw[e,D],λk a=>fP⟩};have c:m0 w g 96 d.toList:=(by exact K7);refine⟨Sm (Aq g 0),b,e,λk a=>⟨g,0,rfl,?_⟩⟩;have N:∀p,p<5->w.cell? (Aq g (k*5+p))=(nC l[k])[p]?:=λp f=>(by rw[c.cell,<- If a f,<- G,Z8 fP]);rw[Zk,rH l k a];exact⟨c.lt,N 0 fP,N 1 fP,N 2 fP,N 3 fP,N 4 fP⟩
def Wh:(prog.info? 96).map (λi=>(i.zero,i.size,i.bytes))=Sm (Sm (.agg #[Ye 0,Ye 0,Ye 0,Yg,Yg]),5,56):=by kernel_rfl
def DU {Y rest o a Q w}(E:o.guard=.none)(s x)
 (T:o.op=.call { callee:=.builtin .append,args:=#[s,x],argTypes:=#[54,54] }) {base v l} (B:a.eval s=v) (e:A5 w base v l)
 {g n} (u:a.eval x=Sl (Sm (Aq g 0)) 1 1) (N:m0 w g 96 (nC n)) (b:l.length+1<=2097152) (z:base<=w.1.size)
 (h:∀t j,A5 j base t (l++[n])->Below base w j->wpList prog Y Q rest (a.put o.dst t) j):wpList prog Y Q (o :: rest) a w :=
 yJ Wh E T B e u N z (h1:=by simp[nC,Value.oneCell']) λt j m _ Z _=>h t j (by simpa [A5,Hf,nA] using m) Z
def ju {p:Prop}(h:p:=by intro t f T y;have h:=h_ T;rw[<- U.u]at h;have P:=h_ (l.trans ((A.mono l.size).trans y));clear T y Y c1 c2 c3 c4;refine rQ ?_;exact⟨k+1,fP,fU,h,P⟩):p:=h
def qbk (a b m s q lb w)(x:q.length+lb.length<=1048576)(d:Q7 w a q)(c:Q7 w b lb):Calls prog 156 #[Sl a q.length m,Sl b lb.length s] w λr j=>∃v,r=.returned v/\A5 j w.1.size v (q++lb)/\Bw w j:=by obtain⟨K,p⟩:=oB ((bR w.1.size w).alloc (nR _) (Cl #[] 96)) (A5.none w);obtain⟨B,J⟩:=oB d c;clear d c;obtain⟨r,O⟩:=Nq (w.alloc (Cl #[] 96));rw[O]at K p;go_enter func156,ntmps156;go_wp2_with fail;(try rw[O]);clear O;go_loopw [5,6] (λv i wr=>∃k:Nat,k<=q.length/\i=Ye k/\A5 wr w.1.size v (q.take k)/\Bw w wr) (λ_ i _=>q.length - (intOf i).toNat);exact⟨0,nZ _,rfl,p,K⟩;clear p K;obtain⟨k,e,rfl,T,c⟩:=hrel;obtain⟨V,l,j,d⟩:=oD T c (B.mono c) (J.mono c);clear T c;by_cases S:k<q.length;{have M:(k:Int)<q.length:=fP;have U:=h_ (Y2 S);obtain⟨g,o,rfl,-,Y,c1,c2,c3,c4⟩:=j k S;rw[rH q k S]at Y c1 c2 c3 c4;generalize q[k]=n at *;obtain⟨C,A⟩:=oB (m0.new wr 96 (nC n).toArray) ((bR wr.1.size wr).alloc (nR _) (Cl (nC n).toArray 96));go_wp2_with (at_builtin;refine DU rfl _ _ rfl rfl (V.keep A) rfl C (by rw[Za];omega) (Yu l.size A.size) ?_);exact ju};obtain rfl:k=q.length:=fP;have M:¬ (q.length:Int)<q.length:=fP;rw[Zz]at V;go_wp2;go_loopw [5,7] (λv i wr=>∃k:Nat,k<=lb.length/\i=Ye k/\A5 wr w.1.size v (q++lb.take k)/\Bw w wr) (λ_ i _=>lb.length - (intOf i).toNat);exact⟨0,nZ _,rfl,by rw[List.take_zero,Zu];exact V,l⟩;clear V l j d S M e;obtain⟨k,e,rfl,T,c⟩:=hrel;obtain⟨V,l,d⟩:=oC T c (J.mono c);clear T c;by_cases S:k<lb.length;{have M:(k:Int)<lb.length:=fP;have U:Hi (q++lb.take (k+1)=q++(lb.take k++[lb[k]])):=h_ (by rw[Y2 S]);obtain⟨g,o,rfl,-,Y,c1,c2,c3,c4⟩:=d k S;rw[rH lb k S]at Y c1 c2 c3 c4;generalize lb[k]=n at *;rename Tw=>wr;obtain⟨C,A⟩:=oB (m0.new wr 96 (nC n).toArray) ((bR wr.1.size wr).alloc (nR _) (Cl (nC n).toArray 96));go_wp2_with (at_builtin;refine DU rfl _ _ rfl rfl (V.keep A) rfl C (by rw[Yn,Za];omega) (Yu l.size A.size) ?_);exact ju};obtain rfl:k=lb.length:=fP;rw[Zz]at V;go_wp2;go_ret;exact⟨_,rfl,V,l⟩
def A5.lone (w:Tw)(n):A5 (w.alloc (Cl #[Ye n.op,Ye n.v.k,Ye n.v.n,St n.v.s,St n.nm] 96)) w.1.size (Sl (Sm (Aq w.1.size 0)) 1 1) [n] :=
 ⟨rfl,.inr ⟨w.1.size,1,_,rfl,nR _,heap_alloc_new w (Cl #[Ye n.op,Ye n.v.k,Ye n.v.n,St n.v.s,St n.nm] 96),nR _,by unfold maxLen;omega,rfl,rfl⟩⟩
def qll {l k p}(a:k<l.length)(h:p<5){n x}(P:nC n=(nC l[k]).set p x):nA (l.set k n)=(nA l).set (k*5+p) x:=by induction l generalizing k with|nil=>cases a|cons y r q=>cases k with|zero=>rw[Yi,show nA (n :: r)=nC n++nA r from rfl,show nA (y :: r)=nC y++nA r from rfl,List.set_append_left _ _ (by simp[nC];omega),P];simp|succ k=>have:=q (k:=k) gt (by simpa using P);rw[Yj,show nA (y :: r.set k n)=nC y++nA (r.set k n) from rfl,show nA (y :: r)=nC y++nA r from rfl,this,List.set_append_right _ _ (by simp[nC];omega)];rw[show(k+1)*5+p - (nC y).length=k*5+p by simp[nC];omega]
def A5.put {w base v l}(i:A5 w base v l)(D:0<l.length):∃g c,v=Sl (Sm (Aq g 0)) l.length c/\base<=g/\g<w.1.size/\(∀j,j<l.length*5->(∃u,w.cell? (Aq g j)=Sm u)/\w.frozen? (Aq g j)=false) /\ (∀k,k<l.length->w.cell? (Aq g (k*5))=Sm (Ye (nf l k).op)/\w.cell? (Aq g (k*5+4))=Sm (St (nf l k).nm)) /\ ∀(k p:Nat) (a:k<l.length) (_:p<5) (n:Nx) (x:Value),nC n=(nC l[k]).set p x->A5 (w.setCell (Aq g (k*5+p)) x) base v (l.set k n):=by rcases i.2 with ⟨e,W⟩|⟨g,N,b,e,H,J,K,m,d,G⟩;{omega};have c:m0 w g 96 b.toList:=(by exact K7);have f:∀k p,(a:k<l.length)->p<5->w.cell? (Aq g (k*5+p))=(nC l[k])[p]?:=λk p a h=>(by rw[c.cell,<- If a h,<- G,Z8 fP]);refine⟨g,N,e,H,c.lt,λj s=>⟨?_,c.free j⟩,λk a=>?_,λk p a h n x P=>?_⟩;{have:j<b.toList.length:=(by rw[Gg,d];omega);exact⟨b.toList[j],by rw[c.cell,Yp this]⟩};{rw[rH l k a];exact⟨f k 0 a fP,f k 4 a fP⟩};have B:=c.set (k*5+p) x;refine⟨by rw[qlk],.inr ⟨g,N,(b.toList.set (k*5+p) x).toArray,by rw[Vm];exact e,H,B,by rw[Vm];exact K,m,by simp[d],?_⟩⟩;rw[qll a h P,<- G,Vm,List.take_set]
def XA (w:Tw)(base:Nat)(v:Value)(l:List Tb):Prop:=w.ownsRow base 9 1 v l.length (Q3 l)
def XA.keep {w w' base v l}(h:XA w base v l)(c:Bw w w'):XA w' base v l :=
 World.ownsRow.kept (row:=Nn) h ⟨c.os,c.tape,c.output,c.size,λa k _=>c.block a k⟩ (Classical.em _)
def XA.strs {w base v l}(h:XA w base v l):∃a c,v=Sl a l.length c/\l.length<=c/\P7 w a l:=by rcases h.2 with ⟨e,D⟩|⟨g,N,b,e,H,J,K,d,f,G⟩;{exact⟨.none,0,by rw[e,D],fP,λk a=>fP⟩};have c:m0 w g 9 b.toList:=(by exact K7);refine⟨Sm (Aq g 0),N,e,K,λk a=>⟨g,0,rfl,c.lt,?_⟩⟩;have x:(b.toList.take (l.length*1))[k]? = Sm (St l[k]):=(by rw[G];simp[Q3,a]);rw[Z8 fP]at x;rw[Zk,c.cell];exact x
def VB {w:Tw}{base k e i n v x}(h:w.ownsRow base e i v n x)(c:k<=base):w.ownsRow k e i v n x:=by refine⟨h.1,?_⟩;rcases h.2 with r|⟨g,N,b,m,H,a⟩;{exact .inl r};exact Dj
def BA {w w' base e k n v x}(h:w.ownsRow base e k v n x)(c:Bw w w'):w'.ownsRow base e k v n x :=
 World.ownsRow.kept (row:=Nn) h ⟨c.os,c.tape,c.output,c.size,λb a _=>c.block b a⟩ (Classical.em _)
def sA {w:Tw}{base e k n i j p q v v' x y}(h:w.ownsRow base e k v n x)(W:w.ownsRow i j p v' q y)(f:e≠j):v.ownBlock=Nn\/v.ownBlock≠v'.ownBlock:=by rcases h.2 with ⟨r,-⟩|⟨g,a,b,m,-,J,-⟩;{exact .inl (by rw[r];rfl)};refine .inr λN=>?_;rcases W.2 with ⟨Z,-⟩|⟨l,X,c,K,-,d,-⟩;{rw[m,Z]at N;cases N};rw[m,K]at N;have N:=N;cases N;rw[J]at d;simp only[Oo,Obj.cells.injEq]at d;exact f d.2.1
def uD {w base e k n g v x cs}(h:w.ownsRow base e k v n x){t}(c:m0 w g t cs)(f:e≠t):v.ownBlock≠Sm g:=λN=>by rcases h.2 with ⟨r,-⟩|⟨a,b,d,m,-,J,-⟩;{rw[r]at N;cases N};rw[m]at N;have N:Sm a=Sm g:=N;cases N;have c:w.heap[g]? = Sm (Cl cs.toArray t):=c;rw[J]at c;simp only[Oo,Obj.cells.injEq]at c;exact f c.2.1
def C9 {w:Tw}{base e k n v x}(h:w.ownsRow base e k v n x):∃a c,v=Sl a n c/\n<=c/\(0<n->∃g,a=Sm (Aq g 0)/\g<w.1.size/\base<=g/\∀p,p<n*k->w.cell? (Aq g p)=x[p]?):=by rcases h.2 with ⟨r,D⟩|⟨g,N,b,m,H,J,K,d,f,G⟩;{exact⟨Nn,0,by rw[r,D],fP,λh=>fP⟩};refine⟨Sm (Aq g 0),N,m,K,λ_=>⟨g,rfl,(Yt.1 J).1,H,λp a=>?_⟩⟩;have c:m0 w g e b.toList:=(by exact K7);rw[c.cell,<- G,Z8 a]
def mO {H:Type}{f:H->Tl}{s k p}(U:∀x,(f x).length=s){l:List H}(a:k<l.length)(h:p<s):(l.flatMap f)[k*s+p]? = (f l[k])[p]?:=by induction l generalizing k with|nil=>cases a|cons x r q=>rw[Vk];cases k with|zero=>rw[Gs,Zk,Ol (by rw[U];exact h)];rfl|succ k=>rw[Oe (by rw[U,Z5];omega),U];have:=q (k:=k) gt;rw[show(k+1)*s+p - s=k*s+p by rw[Z5];omega];simpa using this
def Qe {H:Type}{f:H->Tl}{s}(U:∀x,(f x).length=s)(l:List H):(l.flatMap f).length=l.length*s:=by induction l with|nil=>simp|cons x r q=>rw[Vk,Yn,U,q,Y5,Z5];omega
def iV (l:List Int):Tl:=l.flatMap λx=>[.int .i64 x]
def pV (l:List (Int × Int)):Tl:=l.flatMap λx=>[.int .i64 x.1,.int .i64 x.2]
def rV' (l:List Rl):Tl:=l.flatMap λx=>[St x.nm,.int .i64 x.lb]
def P6 (l:List (Fl × FA)):Tl:=l.flatMap λx=>L1 x.1 x.2
def IB (w:Tw)(base:Nat)(v:Value)(l:List Int):Prop:=w.ownsRow base 3 1 v l.length (iV l)
def N8 (w:Tw)(base:Nat)(v:Value)(l:List (Int × Int)):Prop:=w.ownsRow base 101 2 v l.length (pV l)
def wJ (w:Tw)(base:Nat)(v:Value)(l:List Rl):Prop:=w.ownsRow base 50 2 v l.length (rV' l)
structure S6 (w:Tw)(base:Nat)(f:Fl)(A:FA):Prop where
 b:IB w base (Sl A.b f.bys.length A.bc) f.bys
 i:A5 w base (Sl A.i f.is.length A.ic) f.is
 h:A5 w base (Sl A.h f.wh.length A.hc) f.wh
 v:A5 w base (Sl A.v f.va.length A.vc) f.va
 u:A5 w base (Sl A.u f.mu.length A.uc) f.mu
structure YB (w:Tw)(base:Nat)(v:Value)(l:List (Fl × FA)):Prop where
 row:w.ownsRow base 56 9 v l.length (P6 l)
 sub:∀p,p∈l->S6 w base p.1 p.2
def S6.mono {w w' base f A}(h:S6 w base f A)(c:Bw w w'):S6 w' base f A:=⟨BA h.b c,h.i.keep c,h.h.keep c,h.v.keep c,h.u.keep c⟩
def S6.low {w base n f A}(h:S6 w base f A)(c:n<=base):S6 w n f A:=⟨VB h.b c,h.i.low c,h.h.low c,h.v.low c,h.u.low c⟩
def YB.mono {w w' base v l}(h:YB w base v l)(c:Bw w w'):YB w' base v l:=⟨BA h.row c,λp a=>(h.sub p a).mono c⟩
def S6.grown {w w' base k e j n f A x y}(h:S6 w base f A)(a:w.ownsRow k e j x n y)(h1:3≠e)(r:96≠e)(H:w.grownBy w' x.ownBlock):S6 w' base f A :=
 ⟨h.b.kept H (sA h.b a h1),h.i.kept H (sA h.i a r),h.h.kept H (sA h.h a r),h.v.kept H (sA h.v a r),h.u.kept H (sA h.u a r)⟩
def OW {w base c a l}(h:IB w base (Sl a l.length c) l):AB w a l:=λk b=>by obtain⟨N,o,e,-,J⟩:=C9 h;cases e;obtain⟨g,rfl,m,-,r⟩:=J fP;have:=r (k*1+0) fP;unfold iV at this;rw[mO (f:=λx:Int=>[Ye x]) (s:=1) (p:=0) (λ_=>rfl) b fP]at this;refine⟨g,0,rfl,m,?_⟩;rw[show 0+k=k*1+0 by omega,this];simp[List.getD_eq_getElem?_getD,b]
def QR {w base c a l}(h:A5 w base (Sl a l.length c) l):Q7 w a l:=by obtain⟨N,o,e,P⟩:=h.nods;cases e;exact P
def mP {w base c a l}(h:N8 w base (Sl a l.length c) l):nI w a l:=λk d=>by obtain⟨N,o,e,-,J⟩:=C9 h;cases e;obtain⟨g,rfl,b,-,r⟩:=J fP;have m:=r (k*2+0) fP;have n:=r (k*2+1) fP;unfold pV at m n;rw[mO (f:=λx:Int × Int=>[Ye x.1,Ye x.2]) (λ_=>rfl) d fP]at m n;exact⟨g,0,rfl,b,by rw[Zk];exact m,by rw[Zk];exact n⟩
def Qo {w base c a l}(h:wJ w base (Sl a l.length c) l):xJ w a l:=λk d=>by obtain⟨N,o,e,-,J⟩:=C9 h;cases e;obtain⟨g,rfl,b,-,r⟩:=J fP;have m:=r (k*2+0) fP;have n:=r (k*2+1) fP;unfold rV' at m n;rw[mO (f:=λx:Rl=>[St x.nm,Ye x.lb]) (λ_=>rfl) d fP]at m n;exact⟨g,0,rfl,b,by rw[Zk];exact m,by rw[Zk];exact n⟩
def GG:FA:=⟨Nn,0,Nn,0,Nn,0,Nn,0,Nn,0⟩
def qA:Fl:=⟨⟨#[]⟩,0,0,[],[],[],[],⟨#[]⟩,[]⟩
def DL (l:List (Fl × FA))(k:Nat):FA:=(l.getD k (qA,GG)).2
def mM {l k}(h:k<l.length):DL l k=l[k].2:=by unfold DL;rw[Yr,Yp h];rfl
def qM {w base c a l}(h:YB w base (Sl a l.length c) l):DI w a (l.map (·.1)) (DL l):=λk d=>by rw[Zc]at d;obtain⟨N,o,e,-,J⟩:=C9 h.row;cases e;obtain⟨g,rfl,m,-,r⟩:=J fP;have y:∀p,p<9->w.cell? (Aq g (k*9+p))=(L1 l[k].1 l[k].2)[p]?:=λp j=>(by rw[r (k*9+p) fP];exact mO (f:=λx:Fl × FA=>L1 x.1 x.2) (λ_=>rfl) d j);have B:=h.sub l[k] (Yq d);rw[Oa,mM d];refine⟨g,0,rfl,?_,OW B.b,QR B.i,QR B.h,QR B.v,QR B.u⟩;rw[Zk];exact⟨m,y 0 fP,y 1 fP,y 2 fP,y 3 fP,y 4 fP,y 5 fP,y 6 fP,y 7 fP,y 8 fP⟩
structure T3 (w:Tw)(base:Nat)(v1 v2 v3 v4:Value)(m:Fm)(P:List (Fl × FA)):Prop where
 l:XA w base v1 m.L
 p:N8 w base v2 m.P
 r:wJ w base v3 m.R
 f:YB w base v4 P
 e:m.F=P.map (·.1)
def T3.mono {w w' base v u Y y m P}(h:T3 w base v u Y y m P)(c:Bw w w'):T3 w' base v u Y y m P:=⟨h.l.keep c,BA h.p c,BA h.r c,h.f.mono c,h.e⟩
def T3.sl {w base v u Y y m P}(h:T3 w base v u Y y m P):∃A:MA,.agg #[v,u,Y,y]=mV m A/\I0 w m A/\v=Sl A.l m.L.length A.lc/\u=Sl A.p m.P.length A.pc/\Y=Sl A.r m.R.length A.rc/\y=Sl A.f m.F.length A.fc/\A.fa=DL P:=by obtain⟨b,c1,rfl,-,B⟩:=h.l.strs;obtain⟨x,c2,rfl,-⟩:=C9 h.p;obtain⟨C,c3,rfl,-⟩:=C9 h.r;obtain⟨D,c4,rfl,-⟩:=C9 h.f.row;have a:P.length=m.F.length:=(by rw[h.e,Zc]);refine⟨⟨b,c1,x,c2,C,c3,D,c4,DL P⟩,?_,⟨B,mP h.p,Qo h.r,?_⟩,rfl,rfl,rfl,?_,rfl⟩;{unfold mV;simp only[a]};{have:=qM h.f;rwa [<- h.e]at this};simp only[a]
def T3.nil (w base):T3 w base Yf Yf Yf Yf ⟨[],[],[],[]⟩ [] :=
 ⟨⟨rfl,.inl ⟨rfl,rfl⟩⟩,⟨rfl,.inl ⟨rfl,rfl⟩⟩,⟨rfl,.inl ⟨rfl,rfl⟩⟩,⟨⟨rfl,.inl ⟨rfl,rfl⟩⟩,λp h=>gC⟩,rfl⟩
def Uh:(prog.info? 3).map (λi=>(i.zero,i.size,i.bytes))=Sm (Sm (Ye 0),1,8):=by kernel_rfl
def MW:(prog.info? 101).map (λi=>(i.zero,i.size,i.bytes))=Sm (Sm (.agg J3),2,16):=by kernel_rfl
def NW:(prog.info? 50).map (λi=>(i.zero,i.size,i.bytes))=Sm (Sm (.agg #[Yg,Ye 0]),2,24):=by kernel_rfl
def Th:(prog.info? 56).map (λi=>(i.zero,i.size,i.bytes))=Sm (Sm (.agg Jh),9,168):=by kernel_rfl
def De {Y rest o a Q w}(E:o.guard=.none)(s x)
 (T:o.op=.call { callee:=.builtin .append,args:=#[s,x],argTypes:=#[35,35] }) {base v l} (B:a.eval s=v) (e:IB w base v l)
 {g n} (u:a.eval x=Sl (Sm (Aq g 0)) 1 1) (N:m0 w g 3 [Ye n]) (b:l.length+1<=2097152) (z:base<=w.1.size)
 (h:∀t j,j.ownsRow base 3 1 t (l++[n]).length (iV (l++[n]))->w.grownBy j v.ownBlock->Below base w j->wpList prog Y Q rest (a.put o.dst t) j):wpList prog Y Q (o :: rest) a w :=
 yJ Uh E T B e u N z λt j m r Z _=>h t j (by simpa [iV] using m) r Z
def Ee {Y rest o a Q w}(E:o.guard=.none)(s x)
 (T:o.op=.call { callee:=.builtin .append,args:=#[s,x],argTypes:=#[24,24] }) {base v l} (B:a.eval s=v) (e:N8 w base v l)
 {g n} (u:a.eval x=Sl (Sm (Aq g 0)) 1 1) (N:m0 w g 101 [Ye n.1,Ye n.2]) (b:l.length+1<=2097152) (z:base<=w.1.size)
 (h:∀t j,j.ownsRow base 101 2 t (l++[n]).length (pV (l++[n]))->w.grownBy j v.ownBlock->Below base w j->wpList prog Y Q rest (a.put o.dst t) j):wpList prog Y Q (o :: rest) a w :=
 yJ MW E T B e u N z λt j m r Z _=>h t j (by simpa [pV] using m) r Z
def WN {Y rest o a Q w}(E:o.guard=.none)(s x)
 (T:o.op=.call { callee:=.builtin .append,args:=#[s,x],argTypes:=#[26,26] }) {base v l} (B:a.eval s=v) (e:w.ownsRow base 56 9 v l.length (P6 l))
 {g n} (u:a.eval x=Sl (Sm (Aq g 0)) 1 1) (N:m0 w g 56 (L1 n.1 n.2)) (b:l.length+1<=2097152) (z:base<=w.1.size)
 (h:∀t j,j.ownsRow base 56 9 t (l++[n]).length (P6 (l++[n]))->w.grownBy j v.ownBlock->Below base w j->wpList prog Y Q rest (a.put o.dst t) j):wpList prog Y Q (o :: rest) a w :=
 yJ Th E T B e u N z (h1:=by simp[L1,Value.oneCell']) λt j m r Z _=>h t j (by simpa [P6] using m) r Z
def PA {w w':Tw}{base e k n g v x cs}(h:w.ownsRow base e k v n x){t}(c:m0 w g t cs)(f:e≠t)(d:∀a,a≠g->w'.heap[a]? = w.heap[a]?):w'.ownsRow base e k v n x:=by have M:=uD h c f;refine⟨h.1,?_⟩;rcases h.2 with r|⟨N,a,b,m,H,J,i⟩;{exact .inl r};exact .inr ⟨N,a,b,m,H,(d N (λQ=>M (by rw[m];exact congrArg Sm Q))).trans J,i⟩
def T3.one {w w' base g j V Y y m P}(h:T3 w base j V Y y m P){t cs}(c:m0 w g t cs)(h1:9≠t)(n:101≠t)(Z:50≠t)(K:56≠t)(o:3≠t)(d:96≠t)(k:∀a,a≠g->w'.heap[a]? = w.heap[a]?):T3 w' base j V Y y m P :=
 ⟨PA h.l c h1 k,PA h.p c n k,PA h.r c Z k,⟨PA h.f.row c K k,λp a=>⟨PA (h.f.sub p a).b c o k,PA (h.f.sub p a).i c d k,PA (h.f.sub p a).h c d k,PA (h.f.sub p a).v c d k,PA (h.f.sub p a).u c d k⟩⟩,h.e⟩
def T3.low {w base n v u Y y m P}(h:T3 w base v u Y y m P)(c:n<=base):T3 w n v u Y y m P:=⟨VB h.l c,VB h.p c,VB h.r c,⟨VB h.f.row c,λp a=>(h.f.sub p a).low c⟩,h.e⟩
def T3.addL {w w' base v u Y y a m P x}(h:T3 w base v u Y y m P)(b:w'.ownsRow base 9 1 a (m.L++[x]).length (Q3 (m.L++[x])))(H:w.grownBy w' v.ownBlock):T3 w' base a u Y y { m with L:=m.L++[x] } P :=
 ⟨b,h.p.kept H (sA h.p h.l fS),h.r.kept H (sA h.r h.l fS),⟨h.f.row.kept H (sA h.f.row h.l fS),λp c=>(h.f.sub p c).grown h.l fS fS H⟩,h.e⟩
def T3.addR {w w' base v u Y y a m P x}(h:T3 w base v u Y y m P)(b:w'.ownsRow base 50 2 a (m.R++[x]).length (rV' (m.R++[x])))(H:w.grownBy w' Y.ownBlock):T3 w' base v u a y { m with R:=m.R++[x] } P :=
 ⟨h.l.kept H (sA h.l h.r fS),h.p.kept H (sA h.p h.r fS),b,⟨h.f.row.kept H (sA h.f.row h.r fS),λp c=>(h.f.sub p c).grown h.r fS fS H⟩,h.e⟩
def T3.addF {w w' base v u Y y b m P x}(h:T3 w base v u Y y m P)(c:w'.ownsRow base 56 9 b (P++[x]).length (P6 (P++[x])))(H:w.grownBy w' y.ownBlock)(d:S6 w base x.1 x.2):T3 w' base v u Y b { m with F:=m.F++[x.1] } (P++[x]) :=
 ⟨h.l.kept H (sA h.l h.f.row fS),h.p.kept H (sA h.p h.f.row fS),h.r.kept H (sA h.r h.f.row fS),⟨c,λp a=>(Zf.1 a).elim (λa=>(h.f.sub p a).grown h.f.row fS fS H) (λa=>by rw[Y7.1 a];exact d.grown h.f.row fS fS H)⟩,by simp[h.e]⟩
end
section
open Go Go.Proofs.Tryz
def kl (x:Tb):Lit:=.string (sb x)
def oY {x y}(h:kl x=kl y):x=y:=by unfold kl sb at h;simp only[Lit.string.injEq]at h;obtain⟨⟨a⟩⟩:=x;obtain⟨⟨b⟩⟩:=y;simp at h;rw[h]
def FC:List Tb->DataW Unit
 | []=>.map []
 | x :: r=>(FC r).put (kl x) (.lit (.int .i64 (r.length:Int)))
def mp (l:List Tb):DataW Unit:=FC l.reverse
def qss (l x):mp (l++[x])=(mp l).put (kl x) (.lit (.int .i64 (l.length:Int))):=by simp[mp,FC]
def tW (r):Maps.Tidy (FC r):=by
 induction r with
 | nil=>exact Maps.tidy_empty
 | cons x r q=>exact q.put (show WideAt.IsKeyLit (kl x) from trivial) _
theorem Qh (r x):Maps.has (FC r) (kl x)=TB x r:=by
 induction r with
 | nil=>rfl
 | cons y r q =>
  by_cases h:x=y
  . subst h
    rw[show FC (x :: r)=(FC r).put (kl x) (.lit (.int .i64 (r.length:Int))) from rfl,Maps.has_put_same (tW r).isMap (show WideAt.IsKeyLit (kl x) from trivial)];exact((nM _ _).2 Zl).symm
  . rw[show FC (y :: r)=(FC r).put (kl y) (.lit (.int .i64 (r.length:Int))) from rfl,Maps.has_put_other (λN=>h (oY N)),q]
    unfold TB;rw[List.any_cons,Yl (λe=>h e.symm),Gk]
theorem qnn (r):Maps.size (FC r)<=r.length/\(Maps.size (FC r)=r.length ↔ r.Nodup):=by induction r with|nil=>exact⟨nR _,by simp[FC,Maps.size]⟩|cons x r q=>rw[show FC (x :: r)=(FC r).put (kl x) (.lit (.int .i64 (r.length:Int))) from rfl,Maps.size_put (tW r),Qh];rw[O5,Y5];by_cases h:x∈r;{rw[Yz ((nM _ _).2 h)];exact⟨fP,⟨λN=>fP,λN=>absurd h N.1⟩⟩};rw[Ys (by rw[Di h];simp)];exact⟨fP,⟨λN=>⟨h,q.2.1 fP⟩,λN=>by rw[q.2.2 N.2]⟩⟩
def pY (l x):Maps.has (mp l) (kl x)=TB x l:=by grind[mp,kl,TB,Qh,nM]
def quu (l):Maps.size (mp l)<=l.length/\(Maps.size (mp l)=l.length ↔ l.Nodup):=by grind[mp,qnn]
end
section
open Go Go.RowKit Go.Proofs.Tryz
def F6 (w:Tw)(b:Nat)(l:List Tb):Prop:=w.ownsMap prog 9 (plainElem (H:=Unit) prog 3) b l.length (mp l)
def F6.mono {w w' b l}(h:F6 w b l)(c:Bw w w'):F6 w' b l:=by have S:=World.ownsMap.lt h;obtain⟨H,p,m,F,B,N⟩:=h;exact⟨H,p,(c.block b S).trans m,F,B,N⟩
def Hp {k:Nat}(h:k<=9223372036854775807):(Lit.int .i64 (k:Int)).wf=true:=by unfold Lit.wf;rw[Yx,Y3,Y3];have m:IntKind.i64.min = -9223372036854775808:=fS;have r:IntKind.i64.max=9223372036854775807:=fS;omega
def js {p:Prop}(h:p:=by generalize decide (S<=32/\Z<=256/\a<=64/\t<=200)=q at *;go_enter func192,ntmps192;exact U4):p:=h
def Ku (m A w)(U:C3 m):Gv 192 #[mV m A] w (Bo (decide (m.L.length<=32/\m.P.length<=256/\m.R.length<=64/\m.F.length<=200))):=by obtain⟨B,d,e,v,ar,f,c,z,g⟩:=A;unfold mV;dsimp only;obtain⟨k,O,b,l⟩:=S5 w 28 (#[Sl B m.L.length d,Sl e m.P.length v,Sl ar m.R.length f,Sl c m.F.length z]);obtain⟨i,n,D,E⟩:=E0 b.u;generalize m.L.length=S at *;generalize m.P.length=Z at *;generalize m.R.length=a at *;generalize m.F.length=t at *;by_cases h:(S:Int)<=32;{by_cases N:(Z:Int)<=256;{by_cases x:(a:Int)<=64;{by_cases p:(t:Int)<=200;{have M:Hi (decide (S<=32/\Z<=256/\a<=64/\t<=200)=true):=h_ (Yo fP);exact js};exact Kq};exact Kq};exact Kq};exact Kq
def BU (a c l w)(o:l.length<=1000000)(p:∀x,x∈l->x.size<=9223372036854775807)(K:P7 w a l):Calls prog 129 #[Sl a l.length c] w λr j=>r=.returned (.map (Sm w.1.size))/\F6 j w.1.size l/\Bw w j:=by obtain⟨B,A⟩:=oB K p;have f:Hi ((w.alloc (.map #[] 0)).ownsMap prog 9 (plainElem (H:=Unit) prog 3) w.1.size 0 (mp (l.take 0))):=h_ (World.ownsMap_made _ _ _ _);obtain⟨n,P⟩:=Nq l.length;rw[P]at o|-;have C:=h_ P;have Y:=@run_makeMap prog;go_enter func129,ntmps129;go_wp2;go_loopw [9] (λi wr=>∃k:Nat,k<=n/\i=Ye k/\wr.ownsMap prog 9 (plainElem (H:=Unit) prog 3) w.1.size k (mp (l.take k))/\Bw w wr) (λi _=>n - (intOf i).toNat);exact⟨0,nZ _,rfl,f,Bq⟩;obtain⟨k,q,rfl,i,d⟩:=hrel;obtain⟨V,b,v⟩:=oC i d (B.mono d);by_cases S:k<n;{have r:(k:Int)<n:=fP;have s:k<l.length:=f9;obtain⟨j,t,rfl,-,z⟩:=v k s;have U:Hi (mp (l.take (k+1))=(mp (l.take k)).put (kl l[k]) (.lit (.int .i64 (k:Int)))):=h_ (by rw[Y2 s,qss,Za,Gl fP]);have G:=WideMaps.keyOf_string_mk underlying9 (A _ (Yq s));have e:=h_ G;generalize l[k]=x at *;go_wp2_with (at_mapUpdate;refine wpList_mapUpdate_own _ rfl _ _ _ 110 rfl 9 3 (Maps.string_keyed underlying9) underlying110 _ w.1.size k _ rfl V ga _ _ _ rfl rfl e _ [] (plainElem_int underlying3 (Hp fP)) ?_);intro h E F;have m:Hi (h.ownsMap prog 9 (plainElem (H:=Unit) prog 3) w.1.size (k+1) (mp (l.take (k+1)))):=h_ (by rw[U.u];exact E);have M:=h_ (b.grown F b.size (λg g=>by cases g;exact nR _));refine rQ ?_;exact⟨k+1,fP,fU,m,M⟩};obtain rfl:k=n:=fP;have e:Hi (F6 wr w.1.size l):=h_ (by have h:=V.u;have P:=C.u;rw[Zm fP]at h;unfold F6;rw[P];exact h);go_wp2;go_ret;exact⟨rfl,e,b⟩
def Ns (a c l w)(d:l.length<=1000000)(B:∀x,x∈l->x.size<=9223372036854775807)(K:P7 w a l):Gv 280 #[Sl a l.length c] w (Bo (decide l.Nodup)):=by obtain⟨b,A⟩:=oB (BU a c l w d B K) (quu l);obtain⟨n,P⟩:=Nq l.length;rw[P]at d b A|-;go_enter func280,ntmps280;go_wp2_with fail;refine b.mono ?_;rintro r p ⟨rfl,i,g⟩;obtain⟨V,f⟩:=oB i g;obtain⟨q,J⟩:=Nq (Maps.size (mp l));have j:=A.1;rw[J]at j;have X:Hi (decide l.Nodup=((q:Int)==(n:Int))):=h_ (by have h:=A.2;rw[J]at h;by_cases e:q=n;{rw[Yo (h.1 e),e];simp};rw[Yl (λc=>e (h.2 c))];exact(Yk.2 fP).symm);go_wp2_with (at_len;refine wpList_len_own _ rfl _ 110 rfl 9 3 underlying110 _ w.1.size l.length (mp l) rfl V ?_;rw[J];clear J);go_ret;exact⟨L2 X.symm,f⟩
def RT (a c l w)(f:l.length<=1000000)(t:∀x,x∈l->x.size<=9223372036854775807)(o:P7 w a l):Gv 222 #[Sl a l.length c] w (Bo (m5 l)):=by obtain⟨B,A⟩:=oB o t;have e:Hi (m5 l=(l.all N7&&decide l.Nodup)):=h_ rfl;obtain⟨n,P⟩:=Nq l.length;generalize m5 l=q at *;have O:=h_ f;rw[P]at f|-;have C:=h_ P;go_enter func222,ntmps222;go_wp2;go_loopw [7] (λi wr=>∃k:Nat,k<=n/\i=Ye k/\(∀j (h:j<l.length),j<k->N7 l[j]=true)/\Bw w wr) (λi _=>n - (intOf i).toNat);exact⟨0,nZ _,rfl,λj _ s=>absurd s (nL _),bR _ _⟩;obtain⟨k,y,rfl,r,b⟩:=hrel;obtain⟨S,K⟩:=oB r b;have B:=h_ (B.mono b);by_cases z:k<n;{have D:(k:Int)<n:=fP;have d:k<l.length:=f9;obtain⟨v,E,rfl,-,F⟩:=B k d;have J:=h_ (QZ l[k] wr (A _ (Yq d)));have i:Hi (N7 l[k]=false->q=false):=h_ λh=>(by rw[e.u,show l.all N7=false from O9.2 ⟨l[k],Yq d,by simp[h]⟩];rfl);have R:Hi (N7 l[k]=true->∀j (h:j<l.length),j<k+1->N7 l[j]=true):=h_ λh j s g=>(by by_cases p:j=k;{subst p;exact h};exact S j s fP);generalize l[k]=x at *;generalize N7 x=m at *;cases m;{have M:=h_ (i rfl);go_wp2_with fail;refine cQ J λg W=>?_;have W:=W.symm;subst W;go_wp2;go_ret;exact⟨L2 M.symm,K⟩};have M:=h_ (R rfl);go_wp2_with fail;refine cQ J λg W=>?_;have W:=W.symm;subst W;refine rQ ?_;exact⟨k+1,fP,fU,M,K⟩};obtain rfl:k=n:=fP;have M:Hi (q=decide l.Nodup):=h_ (by rw[e.u,show l.all N7=true from Zd.2 λx d=>by obtain⟨j,s,rfl⟩:=Y8.1 d;exact S j s f9];rfl);have J:Hi (Gv 280 #[Sl a k c] wr (Bo (decide l.Nodup))):=h_ (by have h:=Ns a c l wr O A B;rw[C.u]at h;exact h);generalize decide l.Nodup=h at *;go_wp2_with fail;refine cQ J λg b=>?_;have d:=mT K b;go_wp2;go_ret;exact⟨L2 M.symm,d⟩
