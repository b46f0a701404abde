import Derived.Test.YtmdjbldpclbkhaaGreatDoorW14
set_option linter.all false
namespace Go.Proofs.YtmdjbldpclbkhaaGreatDoor
open Value renaming slice->Sl,string->St,bool->Bo
open Obj renaming cells->Cl
open Ending renaming returned->Rt
open Go Go.Proofs.Tryz
def ket:∀(b:Nat) (l:List Int),l.Nodup->(∀a,a∈l->0<=a/\a<b)->l.length<=b:=by intro b;induction b with|zero=>(intro l _ c;cases l with|nil=>exact nR _|cons a d=>have:=c a Y7;omega)|succ b i=>intro l e c;by_cases h:(b:Int)∈l;{have f:=i (l.erase (b:Int)) (e.erase _) (λa d=>by have g:=(e.mem_erase_iff).1 d;have j:=c a g.2;have k:=g.1;omega);rw[List.length_erase_of_mem h]at f;omega};have f:=i l e (λa d=>by have j:=c a d;have k:a≠b:=λa=>h (a ▸ d);omega);omega
def qc4 {n:Nat}{l:List Int}(a:kbt n l=true):l.length<=n:=by simp_all[kbt,inR,ket]
structure VfA (m:Fm):Prop where
 nl:m.L.length<=32
 np:m.P.length<=256
 nr:m.R.length<=64
 nf:m.F.length<=200
 l:kae m.L=true
 r:kae (kag m)=true
 f:kae (kaa m)=true
 p:∀x,x∈m.P->inR m.L.length x.1=true/\inR m.L.length x.2=true
 ro:∀x,x∈m.R->inR m.L.length x.lb=true
 fi:∀x,x∈m.F->kan m.L.length m.R.length x=true
 kn:∀x,x∈m.F->kah (kaa m) x=true
theorem qsp (m:Fm):vfA m=true ↔ VfA m:=by unfold vfA;simp only[Yw,Yu,Zg];constructor;{rintro⟨⟨⟨⟨⟨⟨⟨d,e,f,g⟩,h⟩,i⟩,j⟩,k⟩,l⟩,c⟩;exact⟨d,e,f,g,h,i,j,k,l,λb a=>(c b a).1,λb a=>(c b a).2⟩};rintro⟨d,e,f,g,h,i,j,k,l,c,n⟩;exact⟨⟨⟨⟨⟨⟨⟨d,e,f,g⟩,h⟩,i⟩,j⟩,k⟩,l⟩,λb a=>⟨c b a,n b a⟩⟩
structure FOk (nl nr:Nat)(f:Fl):Prop where
 t1:1<=f.ty
 t2:f.ty<=3
 l1:-1<=f.lb
 l2:f.lb<nl
 b:kbt nr f.bys=true
 ib:f.is.length=0∨f.bys.length=0
 sy:kaL f.sy=true
 vs:f.va.length≠0∨f.sy.size=0
 i:kad f.is=true
 h:kad f.wh=true
 v:kad f.va=true
 u:kad f.mu=true
def q68 (n o:Nat)(f:Fl):kan n o f=true ↔ FOk n o f:=by unfold kan;simp only[Yw,Yu];constructor;{rintro⟨⟨⟨⟨⟨⟨⟨⟨⟨⟨a,e⟩,g,h⟩,i⟩,j⟩,k⟩,l⟩,m⟩,b⟩,c⟩,d⟩;exact⟨a,e,g,h,i,j,k,l,m,b,c,d⟩};rintro⟨a,e,g,h,i,j,k,l,m,b,c,d⟩;exact⟨⟨⟨⟨⟨⟨⟨⟨⟨⟨a,e⟩,g,h⟩,i⟩,j⟩,k⟩,l⟩,m⟩,b⟩,c⟩,d⟩
def q50 {l:List Tb}(a:kae l=true){x:Tb}(b:x∈l):x.size<=16:=by grind[kae,q96]
def qb1 {rs:List Rl}{i:Int}(a:kae (rs.map (·.nm))=true):(kdX rs i).nm.size<=16:=by unfold kdX;rw[Yq];cases b:rs[i.toNat]? with|none=>exact nZ _|some c=>exact q50 a (Ze.2 ⟨c,Ow b,rfl⟩)
def qlj {x:Tb}(a:x.size<=16):(kdY x).length<=24:=by simp_all[kdY,kak]
def jd {p:Prop}(h:p:=by simp only[Ym,Yy,Za,kak];omega):p:=h
def qlh {b:List Tb}(a:kae b=true)(p:Int × Int):(kdK b p).length<=41:=by have c:=qa6 (i:=p.1) a;have d:=qa6 (i:=p.2) a;unfold kdK;exact jd
def qlk {a:List Tb}(b:kae a=true){r:Rl}(d:r.nm.size<=16):(kdZ a r).length<=43:=by have c:=qa6 (i:=r.lb) b;unfold kdZ;exact jd
def qfu {m:Fm}(b:VfA m){f:Fl}(e:f.nm.size<=16):(kcd m f).length<=50:=by have a:=qa6 (i:=f.lb) b.l;have c:(kbf f.ty).length<=4:=(by unfold kbf;split <;> (try split) <;> simp);have d:(if f.lb<0 then ([97,117,116,111]:List UInt8) else sb (kbk m.L f.lb)).length<=16:=(by split;{simp};rw[kak];exact a);unfold kcd;exact jd
def qsa {m:Fm}(a:VfA m)(i:Int):(tBy m.R i).length<=20:=by have b:=qb1 (i:=i) a.r;unfold tBy;exact jd
def q7g {s:Tb}(a:kaL s=true):s.size<=1000:=by grind[kaL]
def qfw {f:Fl}(a:kaL f.sy=true):(kdc f).length<=1008:=by have b:=q7g a;unfold kdc;split;{simp};simp only[Ym,Yy,Za,kak];omega
def qfv {m:Fm}(a:VfA m){f:Fl}(c:FOk m.L.length m.R.length f)(j:Nat):((f.bys.take j).flatMap (tBy m.R)).length<=1280:=by have e:=q6b (f.bys.take j) (tBy m.R) 20 λd _=>qsa a d;have d:=qc4 c.b;have g:=a.nr;have h:(f.bys.take j).length<=64:=(by rw[Zb];omega);omega
def qli {m:Fm}(b:VfA m){f:Fl}(d:f.nm.size<=16)(a:FOk m.L.length m.R.length f):(kes m f).length<=18500:=by have e:=qfu b d;have c:=qfv b a f.bys.length;rw[Zp]at c;have g:=q7s (word:=wIs) a.i fS;have j:=q7s (word:=kdv) a.h fS;have k:=q7s (word:=kcw) a.v fS;have l:=q7s (word:=kd0) a.u fS;have n:=qfw a.sy;unfold kes;simp only[Ym,Yy,Za];omega
def c1 (m:Fm)(k:Nat):List UInt8:=(m.L.take k).flatMap kdY
def c2 (m:Fm)(k:Nat):List UInt8:=m.L.flatMap kdY++(m.P.take k).flatMap (kdK m.L)
def c3 (m:Fm)(k:Nat):List UInt8:=m.L.flatMap kdY++m.P.flatMap (kdK m.L)++(m.R.take k).flatMap (kdZ m.L)
def c4 (m:Fm)(k:Nat):List UInt8:=m.L.flatMap kdY++m.P.flatMap (kdK m.L)++m.R.flatMap (kdZ m.L)++(m.F.take k).flatMap (kes m)
def qmt (m:Fm):c1 m 0=[]:=by simp[c1]
def qmv (m:Fm):c2 m 0=c1 m m.L.length:=by simp[c1,c2]
def qmx (m:Fm):c3 m 0=c2 m m.P.length:=by simp[c2,c3]
def qmz (m:Fm):c4 m 0=c3 m m.R.length:=by simp[c3,c4]
def kdL (m:Fm):c4 m m.F.length=cT m:=by simp[c4,cT]
theorem qdf {a:Type}(l:List a)(g:a->List UInt8)(k:Nat)(b:k<l.length):(l.take (k+1)).flatMap g=(l.take k).flatMap g++g l[k]:=by rw[Yz b,Zt];simp
def qms (m:Fm)(k:Nat)(a:k<m.L.length):c1 m (k+1)=c1 m k++kdY m.L[k]:=qdf _ _ k a
def qmu (m:Fm)(k:Nat)(a:k<m.P.length):c2 m (k+1)=c2 m k++kdK m.L m.P[k]:=by grind[c2,kdK,qdf]
def qmw (m:Fm)(k:Nat)(a:k<m.R.length):c3 m (k+1)=c3 m k++kdZ m.L m.R[k]:=by grind[c3,kdZ,qdf]
def qmy (m:Fm)(k:Nat)(a:k<m.F.length):c4 m (k+1)=c4 m k++kes m m.F[k]:=by grind[c4,kes,qdf]
def keu {m:Fm}(a:VfA m)(k:Nat):(c1 m k).length<=768:=by have c:=q6b (m.L.take k) kdY 24 λb b=>qlj (q50 a.l (Vo b));have b:=a.nl;have d:(m.L.take k).length<=32:=(by rw[Zb];omega);unfold c1;omega
def kev {m:Fm}(a:VfA m)(k:Nat):(c2 m k).length<=11264:=by have c:=q6b (m.P.take k) (kdK m.L) 41 λb _=>qlh a.l b;have d:=a.np;have e:(m.P.take k).length<=256:=(by rw[Zb];omega);have b:=keu a m.L.length;unfold c1 at b;rw[Zp]at b;unfold c2;rw[Ym];omega
def kew {m:Fm}(a:VfA m)(k:Nat):(c3 m k).length<=14016:=by have d:=q6b (m.R.take k) (kdZ m.L) 43 λc b=>qlk a.l (q50 a.r (Ze.2 ⟨c,Vo b,rfl⟩));have c:=a.nr;have e:(m.R.take k).length<=64:=(by rw[Zb];omega);have b:=kev a m.P.length;unfold c2 at b;rw[Zp]at b;unfold c3;rw[Ym];omega
def kdd {m:Fm}(a:VfA m)(k:Nat):(c4 m k).length<=3714016:=by have d:=q6b (m.F.take k) (kes m) 18500 λc b=>qli a (q50 a.f (Ze.2 ⟨c,Vo b,rfl⟩)) ((q68 _ _ _).1 (a.fi c (Vo b)));have c:=a.nf;have e:(m.F.take k).length<=200:=(by rw[Zb];omega);have b:=kew a m.R.length;unfold c3 at b;rw[Zp]at b;unfold c4;rw[Ym];omega
