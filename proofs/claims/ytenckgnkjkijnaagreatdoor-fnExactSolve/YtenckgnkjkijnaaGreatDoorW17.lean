import Derived.Test.YtenckgnkjkijnaaGreatDoorW15
namespace Go.Proofs.YtenckgnkjkijnaaGreatDoor
open Go Go.Proofs.Tryz
theorem kdA:∀(b:Nat) (l:List Int),l.Nodup->(∀a,a∈l->0<=a/\a<b)->l.length<=b:=by
 intro b
 induction b with
 | zero =>
  intro l _ c;cases l with
  | nil=>exact nR _
  | cons a d=>have:=c a Y8;omega
 | succ b i =>
  intro l e c;by_cases h:(b:Int)∈l
  . have f:=i (l.erase (b:Int)) (e.erase _) (fun a d=>by
     have g:=(e.mem_erase_iff).1 d;have j:=c a g.2;have k:=g.1;omega)
    rw[List.length_erase_of_mem h]at f;omega
  . have f:=i l e (fun a d=>by
     have j:=c a d;have k:a≠b:=fun a=>h (a ▸ d);omega)
    omega
theorem qdz {n:Nat}{l:List Int}(a:kbG n l=true):l.length<=n:=by
 unfold kbG at a;rw[Yh,Yv,Yk]at a;refine kdA n l a.2 fun c b=>?_;have:=a.1 c b;unfold inR at this;exact Y6 this
structure VfA (m:Fm):Prop where
 nl:m.L.length<=32
 np:m.P.length<=256
 nr:m.R.length<=64
 nf:m.F.length<=200
 l:kae m.L=true
 r:kae (kav m)=true
 f:kae (kaa m)=true
 p:∀x,x∈m.P->inR m.L.length x.1=true/\inR m.L.length x.2=true
 ro:∀x,x∈m.R->inR m.L.length x.lb=true
 fi:∀x,x∈m.F->kaq m.L.length m.R.length x=true
 kn:∀x,x∈m.F->kai (kaa m) x=true
theorem qsr (m:Fm):vfA m=true ↔ VfA m:=by
 unfold vfA;simp only[Yh,Yk,Yv];constructor
 . rintro⟨⟨⟨⟨⟨⟨⟨d,e,f,g⟩,h⟩,i⟩,j⟩,k⟩,l⟩,c⟩
   exact⟨d,e,f,g,h,i,j,k,l,fun b a=>(c b a).1,fun b a=>(c b a).2⟩
 . rintro⟨d,e,f,g,h,i,j,k,l,c,n⟩
   exact⟨⟨⟨⟨⟨⟨⟨d,e,f,g⟩,h⟩,i⟩,j⟩,k⟩,l⟩,fun b a=>⟨c b a,n b a⟩⟩
structure FOk (nl nr:Nat)(f:Fl):Prop where
 t1:1<=f.ty
 t2:f.ty<=3
 l1:-1<=f.lb
 l2:f.lb<nl
 b:kbG nr f.bys=true
 ib:f.is.length=0∨f.bys.length=0
 sy:kaw f.sy=true
 vs:f.va.length≠0∨f.sy.size=0
 i:kac f.is=true
 h:kac f.wh=true
 v:kac f.va=true
 u:kac f.mu=true
theorem q7o (n o:Nat)(f:Fl):kaq n o f=true ↔ FOk n o f:=by
 unfold kaq;simp only[Yh,Yk];constructor
 . rintro⟨⟨⟨⟨⟨⟨⟨⟨⟨⟨a,e⟩,g,h⟩,i⟩,j⟩,k⟩,l⟩,m⟩,b⟩,c⟩,d⟩
   exact⟨a,e,g,h,i,j,k,l,m,b,c,d⟩
 . rintro⟨a,e,g,h,i,j,k,l,m,b,c,d⟩
   exact⟨⟨⟨⟨⟨⟨⟨⟨⟨⟨a,e⟩,g,h⟩,i⟩,j⟩,k⟩,l⟩,m⟩,b⟩,c⟩,d⟩
theorem q6c {l:List Tb}(a:kae l=true){x:Tb}(b:x∈l):x.size<=16:=by
 simp only[kae,Yh,Yv]at a;exact qau (a.1 x b)
theorem qco {rs:List Rl}{i:Int}(a:kae (rs.map (·.nm))=true):(kdS rs i).nm.size<=16:=by
 unfold kdS;rw[Yo];cases b:rs[i.toNat]? with
 | none=>exact nZ _
 | some c=>exact q6c a (Y4.2 ⟨c,O8 b,rfl⟩)
theorem qmc {x:Tb}(a:x.size<=16):(kdT x).length<=24:=by
 unfold kdT;simp only[Yj,Yt,Y2,kbt];omega
theorem qma {b:List Tb}(a:kae b=true)(p:Int × Int):(kdU b p).length<=41:=by
 have c:=qbp (i:=p.1) a;have d:=qbp (i:=p.2) a;unfold kdU;simp only[Yj,Yt,Y2,kbt];omega
theorem qmd {a:List Tb}(b:kae a=true){r:Rl}(d:r.nm.size<=16):(kd1 a r).length<=43:=by
 have c:=qbp (i:=r.lb) b;unfold kd1;simp only[Yj,Yt,Y2,kbt];omega
theorem qhg {m:Fm}(b:VfA m){f:Fl}(e:f.nm.size<=16):(kcg m f).length<=50:=by
 have a:=qbp (i:=f.lb) b.l;have c:(kbs f.ty).length<=4:=by unfold kbs;split <;> (try split) <;> simp
 have d:(if f.lb<0 then ([97,117,116,111]:List UInt8) else sb (kbA m.L f.lb)).length<=16:=by
  split
  . simp
  . rw[kbt];exact a
 unfold kcg;simp only[Yj,Yt,Y2,kbt];omega
theorem qsd {m:Fm}(a:VfA m)(i:Int):(tBy m.R i).length<=20:=by
 have b:=qco (i:=i) a.r;unfold tBy;simp only[Yj,Yt,Y2,kbt];omega
theorem q8y {s:Tb}(a:kaw s=true):s.size<=1000:=by
 simp only[kaw,Yh,Yk]at a;omega
theorem qhi {f:Fl}(a:kaw f.sy=true):(kdc f).length<=1008:=by
 have b:=q8y a;unfold kdc;split
 . simp
 . simp only[Yj,Yt,Y2,kbt]
   omega
theorem qhh {m:Fm}(a:VfA m){f:Fl}(c:FOk m.L.length m.R.length f)(j:Nat):((f.bys.take j).flatMap (tBy m.R)).length<=1280:=by
 have e:=q7t (f.bys.take j) (tBy m.R) 20 fun d _=>qsd a d;have d:=qdz c.b;have g:=a.nr;have h:(f.bys.take j).length<=64:=by rw[Zb];omega
 omega
theorem qmb {m:Fm}(b:VfA m){f:Fl}(d:f.nm.size<=16)(a:FOk m.L.length m.R.length f):(keP m f).length<=18500:=by
 have e:=qhg b d;have c:=qhh b a f.bys.length;rw[Vt]at c;have g:=q9e (word:=wIs) a.i (by decide);have j:=q9e (word:=kdr) a.h (by decide);have k:=q9e (word:=kcB) a.v (by decide);have l:=q9e (word:=kdV) a.u (by decide);have n:=qhi a.sy;unfold keP;simp only[Yj,Yt,Y2];omega
def c1 (m:Fm)(k:Nat):List UInt8:=(m.L.take k).flatMap kdT
def c2 (m:Fm)(k:Nat):List UInt8:=m.L.flatMap kdT++(m.P.take k).flatMap (kdU m.L)
def c3 (m:Fm)(k:Nat):List UInt8:=m.L.flatMap kdT++m.P.flatMap (kdU m.L)++(m.R.take k).flatMap (kd1 m.L)
def c4 (m:Fm)(k:Nat):List UInt8:=m.L.flatMap kdT++m.P.flatMap (kdU m.L)++m.R.flatMap (kd1 m.L)++(m.F.take k).flatMap (keP m)
theorem qni (m:Fm):c1 m 0=[]:=by simp[c1]
theorem qnk (m:Fm):c2 m 0=c1 m m.L.length:=by simp[c1,c2]
theorem qnm (m:Fm):c3 m 0=c2 m m.P.length:=by simp[c2,c3]
theorem qno (m:Fm):c4 m 0=c3 m m.R.length:=by simp[c3,c4]
theorem kdB (m:Fm):c4 m m.F.length=cT m:=by simp[c4,cT]
theorem qf3 {a:Type}(l:List a)(g:a->List UInt8)(k:Nat)(b:k<l.length):(l.take (k+1)).flatMap g=(l.take k).flatMap g++g l[k]:=by
 rw[Ys b,V7];simp
theorem qnh (m:Fm)(k:Nat)(a:k<m.L.length):c1 m (k+1)=c1 m k++kdT m.L[k]:=qf3 _ _ k a
theorem qnj (m:Fm)(k:Nat)(a:k<m.P.length):c2 m (k+1)=c2 m k++kdU m.L m.P[k]:=by unfold c2;rw[qf3 _ _ k a,Vy]
theorem qnl (m:Fm)(k:Nat)(a:k<m.R.length):c3 m (k+1)=c3 m k++kd1 m.L m.R[k]:=by unfold c3;rw[qf3 _ _ k a];simp
theorem qnn (m:Fm)(k:Nat)(a:k<m.F.length):c4 m (k+1)=c4 m k++keP m m.F[k]:=by unfold c4;rw[qf3 _ _ k a];simp
theorem ker {m:Fm}(a:VfA m)(k:Nat):(c1 m k).length<=768:=by
 have c:=q7t (m.L.take k) kdT 24 fun b b=>qmc (q6c a.l (Z6 b));have b:=a.nl;have d:(m.L.take k).length<=32:=by rw[Zb];omega
 unfold c1;omega
theorem kes {m:Fm}(a:VfA m)(k:Nat):(c2 m k).length<=11264:=by
 have c:=q7t (m.P.take k) (kdU m.L) 41 fun b _=>qma a.l b;have d:=a.np;have e:(m.P.take k).length<=256:=by rw[Zb];omega
 have b:=ker a m.L.length;unfold c1 at b;rw[Vt]at b;unfold c2;rw[Yj];omega
theorem ket {m:Fm}(a:VfA m)(k:Nat):(c3 m k).length<=14016:=by
 have d:=q7t (m.R.take k) (kd1 m.L) 43 fun c b=>qmd a.l (q6c a.r (Y4.2 ⟨c,Z6 b,rfl⟩));have c:=a.nr;have e:(m.R.take k).length<=64:=by rw[Zb];omega
 have b:=kes a m.P.length;unfold c2 at b;rw[Vt]at b;unfold c3;rw[Yj];omega
theorem kdd {m:Fm}(a:VfA m)(k:Nat):(c4 m k).length<=3714016:=by
 have d:=q7t (m.F.take k) (keP m) 18500 fun c b=>qmb a (q6c a.f (Y4.2 ⟨c,Z6 b,rfl⟩)) ((q7o _ _ _).1 (a.fi c (Z6 b)));have c:=a.nf;have e:(m.F.take k).length<=200:=by rw[Zb];omega
 have b:=ket a m.R.length;unfold c3 at b;rw[Vt]at b;unfold c4;rw[Yj];omega
