import Derived.Test.YtdlnflnfbcaiiaaGreatDoorY06
import Derived.Test.YtdlnflnfbcaiiaaGreatDoorY05
import Derived.Test.YtdlnflnfbcaiiaaGreatDoorY07
import Derived.Deep.DeepCutAuto
set_option linter.all false
set_option maxRecDepth 100000
set_option maxHeartbeats 0
namespace Go.Proofs.YtdlnflnfbcaiiaaGreatDoor
open Value renaming slice->Sl,bool->Bo
open Obj renaming cells->Cl
open Option renaming none->Nn,some->Sm
open Bool renaming true->Tt,false->Ff
section
open Go Go.RowKit Go.Proofs.Tryz
variable (K:Int->List Tb)
def BK (kind:Int)(a b:Nat)(op arg:Int):Prop :=
 (a=14/\op=16/\arg=kind)\/(a=13/\op=19/\arg=kind) \/
 (kind=1/\a<8/\op=4+(b:Int) % 5/\arg=1)\/(kind=1/\(8<=a/\a<10)/\op=2/\arg=1)\/(kind=1/\(10<=a/\a<12)/\op=17+(b:Int) % 2/\arg=1)\/(kind=1/\a=12/\op=21+(b:Int) % 2/\arg=3) \/
 (kind=2/\(a<8/\b<48)/\op=10+(b:Int) % 4/\arg=1)\/(kind=2/\(a<8/\48<=b)/\op=10+(b:Int) % 4/\arg=3)\/(kind=2/\(8<=a/\a<10)/\op=14+(b:Int) % 2/\arg=2) \/
 (kind=2/\a=10/\op=3/\arg=2)\/(kind=2/\a=11/\op=20/\arg=3)\/(kind=2/\a=12/\op=24+(b:Int) % 2/\arg=(b:Int) % 3+1) \/
 (kind=3/\a<9/\op=9/\arg=3)\/(kind=3/\(9<=a/\a<13)/\op=23/\arg=(b:Int) % 3+1)
def Pl {H a b}(k:H=1\/H=2\/H=3)(c:a<15):∃i W,BK H a b i W:=by by_cases Z:a=14;{exact⟨_,_,.inl ⟨Z,rfl,rfl⟩⟩};by_cases I:a=13;{exact⟨_,_,.inr (.inl ⟨I,rfl,rfl⟩)⟩};rcases k with rfl|rfl|rfl;{by_cases f:a<8;{exact⟨_,_,.inr (.inr (.inl ⟨rfl,f,rfl,rfl⟩))⟩};by_cases p:a<10;{exact⟨_,_,.inr (.inr (.inr (.inl ⟨rfl,fK,rfl,rfl⟩)))⟩};by_cases N:a<12;{exact⟨_,_,.inr (.inr (.inr (.inr (.inl ⟨rfl,fK,rfl,rfl⟩))))⟩};exact⟨_,_,.inr (.inr (.inr (.inr (.inr (.inl ⟨rfl,fK,rfl,rfl⟩)))))⟩};{by_cases f:a<8;{by_cases d:b<48;{exact⟨_,_,.inr (.inr (.inr (.inr (.inr (.inr (.inl ⟨rfl,fK,rfl,rfl⟩))))))⟩};exact⟨_,_,.inr (.inr (.inr (.inr (.inr (.inr (.inr (.inl ⟨rfl,fK,rfl,rfl⟩)))))))⟩};by_cases p:a<10;{exact⟨_,_,.inr (.inr (.inr (.inr (.inr (.inr (.inr (.inr (.inl ⟨rfl,fK,rfl,rfl⟩))))))))⟩};by_cases J:a=10;{exact⟨_,_,.inr (.inr (.inr (.inr (.inr (.inr (.inr (.inr (.inr (.inl ⟨rfl,J,rfl,rfl⟩)))))))))⟩};by_cases N:a=11;{exact⟨_,_,.inr (.inr (.inr (.inr (.inr (.inr (.inr (.inr (.inr (.inr (.inl ⟨rfl,N,rfl,rfl⟩))))))))))⟩};exact⟨_,_,.inr (.inr (.inr (.inr (.inr (.inr (.inr (.inr (.inr (.inr (.inr (.inl ⟨rfl,fK,rfl,rfl⟩)))))))))))⟩};by_cases A:a<9;{exact⟨_,_,.inr (.inr (.inr (.inr (.inr (.inr (.inr (.inr (.inr (.inr (.inr (.inr (.inl ⟨rfl,fK,rfl,rfl⟩))))))))))))⟩};exact⟨_,_,.inr (.inr (.inr (.inr (.inr (.inr (.inr (.inr (.inr (.inr (.inr (.inr (.inr ⟨rfl,fK,rfl,rfl⟩))))))))))))⟩
def BK.fit {H op W a b}(k:H=1\/H=2\/H=3)(h:BK H a b op W):(2<=op/\op<=25)/\(W=1\/W=2\/W=3):=by unfold BK at h;omega
def ar_m (op):∃m:Nat,ar op=m/\m<=3:=by unfold ar;split;{exact⟨1,rfl,fK⟩};split;{exact⟨3,rfl,fK⟩};split;{exact⟨2,rfl,fK⟩};exact⟨0,rfl,fK⟩
def zJ (op arg:Int)(i:Nat):Int:=if op=16/\i=0 then 2 else arg
def Ql {op W}(i)(h:W=1\/W=2\/W=3):zJ op W i=1\/zJ op W i=2\/zJ op W i=3:=by unfold zJ;split;{omega};exact h
def vL (len:Nat)(f:Nat->Nat)(d p:Nat)(kind:Int)(l:List Nx)(q:Nat):Prop:=∀(w:Tw) (a:To) (c:Nat) (v:Value),D6 w a len f->VB K w v ->
 GZ 121 #[Sl a len c,Yd p,v,Yd kind,Yd d] w (mS w l q)
def xG (len:Nat)(f:Nat->Nat)(d p:Nat)(kind:Int)(l:List Nx)(q:Nat):Prop:=(∀n,n∈l->o8 n)/\1<=l.length/\l.length<=4 ^ d/\p<=q/\q<=p+3*4 ^ d/\vL K len f d p kind l q
structure SY (len:Nat)(f:Nat->Nat)(d p:Nat)(kd:Nat->Int)(m:Nat)(st:Nat->List Nx × Nat):Prop where
 zero:st 0=([],p)
 step:∀i,i<m->∃l,(st (i+1)).1=(st i).1++l/\vL K len f d (st i).2 (kd i) l (st (i+1)).2
 fit:∀i,i<=m->(∀n,n∈(st i).1->o8 n)/\(st i).1.length<=i*4 ^ d/\p<=(st i).2/\(st i).2<=p+i*(3*4 ^ d)
def FX {n k p:Nat}{f:Nat->Nat}{t:Nat->Int}(b:∀i,t i=1\/t i=2\/t i=3)(M:Nat)(h:p+M*(3*4 ^ k)<=900000)(c:∀p H,p+3*4 ^ k<=900000->(H=1\/H=2\/H=3)->∃l q,xG K n f k p H l q):∀m,m<=M->∃Z,SY K n f k p t m Z|0,_=>⟨λ_=>([],p),rfl,λi y=>absurd y (nL _),λi y=>⟨λa P=>(by cases P),nZ _,nR _,Nat.le_add_right _ _⟩⟩|m+1,hm=>by obtain⟨Z,G,F,T⟩:=FX b M h c m fK;obtain⟨X,L,D,o⟩:=T m (nR _);have j:(m+1)*(3*4 ^ k)<=M*(3*4 ^ k):=Z4 _ hm;have u:(m+1)*(3*4 ^ k)=m*(3*4 ^ k)+3*4 ^ k:=Z8 _ _;have V:(m+1)*4 ^ k=m*4 ^ k+4 ^ k:=Z8 _ _;obtain⟨l,q,d,s,O,r,v,g⟩:=c (Z m).2 (t m) fK (b m);refine⟨λi=>if i<=m then Z i else ((Z m).1++l,q),by simp only[nZ,if_true];exact G,λi y=>?_,λi y=>?_⟩;{by_cases e:i<m;{simp only[Yy (show i+1<=m by omega),Yy (show i<=m by omega)];exact F i e};obtain rfl:i=m:=fK;simp only[Ys (show ¬ i+1<=i by omega),Yy (nR i)];exact⟨l,rfl,g⟩};by_cases e:i<=m;{simp only[Yy e];exact T i e};obtain rfl:i=m+1:=fK;simp only[Ys e];exact⟨λa P=>(Zb.1 P).elim (X a) (d a),by rw[Yk];omega,fK,fK⟩
end
section
open Go Go.Proofs.Tryz
def noFd:Fl:=⟨⟨#[]⟩,0,0,[],[],[],[],⟨#[]⟩,[]⟩
def A0 (m:Fm)(k:Nat):Fl:=m.F.getD k noFd
theorem P6 {m k}(h:k<m.F.length):A0 m k=m.F[k]:=by grind[A0]
def Q9 (l:List Nx)(x:Tb):Bool:=l.any λn=>decide (n.op=1)&&decide (n.nm=x)
def D5 (m:Fm)(j k:Nat):Bool:=Q9 (A0 m k).is (A0 m j).nm||Q9 (A0 m k).wh (A0 m j).nm
def mC (m:Fm)(j k:Nat):Bool:=Q9 (A0 m k).va (A0 m j).nm||Q9 (A0 m k).mu (A0 m j).nm
def MB (m:Fm)(j k:Nat):Bool:=D5 m j k||mC m j k
def LD (m:Fm)(D:List Nat)(k:Nat):Bool:=!decide (k∈D)&&(List.range m.F.length).all λj=>!D5 m j k||decide (j∈D)
def p7 (m:Fm)(D:List Nat):Option Nat:=(List.range m.F.length).find? (LD m D)
def N0 (m:Fm):Nat->List Nat
 | 0=>[]
 | i+1=>match p7 m (N0 m i) with
  | some k=>N0 m i++[k]
  | none=>N0 m i
theorem GG {m D k}(h:p7 m D=Sm k):k<m.F.length/\LD m D k=Tt/\∀j,j<k->LD m D j=Ff:=by simp_all[p7]
def Cf {m D}(h:p7 m D=Nn):∀j,j<m.F.length->LD m D j=Ff:=by simp_all[p7]
def jc {p:Prop}(h:p:=by show(match p7 m (N0 m i) with|some k=>N0 m i++[k]|none=>N0 m i)=_;rw[h]):p:=h
def ZJ {m i k}(h:p7 m (N0 m i)=Sm k):N0 m (i+1)=N0 m i++[k]:=by exact jc
def PL {m i}(h:p7 m (N0 m i)=Nn):N0 m (i+1)=N0 m i:=by exact jc
theorem JI (m i):∀k,k∈N0 m i->k<m.F.length:=by induction i <;> simp_all[p7,N0] <;> grind
def LL (m i):(N0 m i).Nodup:=by induction i with|zero=>exact List.nodup_nil|succ i l=>cases h:p7 m (N0 m i) with|none=>rw[PL h];exact l|some j=>rw[ZJ h,List.nodup_append];refine⟨l,fN,λa H b c e=>?_⟩;rw[Y7.1 c]at e;subst e;have:=(GG h).2.1;unfold LD at this;rw[Yl H]at this;simp at this
def Ef (m i):(N0 m i).length<=i:=by induction i <;> simp_all[p7,N0] <;> grind
def qc0 {m i}(h:p7 m (N0 m i)=Nn):∀d,N0 m (i+d)=N0 m i:=by intro d;induction d with|zero=>rfl|succ d l=>have:p7 m (N0 m (i+d))=Nn:=(by rw[l];exact h);exact(PL this).trans l
def No (r)(P:r.Nodup)(z):∀k (a:k<r.length),(qC r).atKey (kl r[k]) z=.lit (.int .i64 ((r.length - 1 - k:Nat):Int)):=by induction r with|nil=>intro k a;cases a|cons x r l=>intro k a;rw[Ol]at P;rw[show qC (x :: r)=(qC r).put (kl x) (.lit (.int .i64 (r.length:Int))) from rfl];cases k with|zero=>rw[Of,Maps.atKey_put_same (QV r).isMap (show WideAt.IsKeyLit (kl x) from trivial)];simp|succ k=>have O:k<r.length:=gp;rw[List.getElem_cons_succ,Maps.atKey_put_other (λe=>P.1 (by rw[<- YX e];exact Yn O)),l P.2 k O];simp only[Y4];congr 3;omega
theorem KY (l:List Tb)(P:l.Nodup)(z k)(a:k<l.length):(mp l).atKey (kl l[k]) z=.lit (.int .i64 (k:Int)):=by unfold mp;have O:=(List.Perm.nodup_iff (List.reverse_perm l)).2 P;have h:=No l.reverse O z (l.length - 1 - k) (by rw[Zh];omega);have e:l.reverse[l.length - 1 - k]'(by rw[Zh];omega)=l[k]:=(by rw[List.getElem_reverse];congr 1;omega);rw[e,Zh]at h;rw[h];congr 3;omega
def VE (names:List Tb)(x:Tb):Nat:=names.findIdx λy=>decide (y=x)
theorem ZN {v x}(h:x∈v):VE v x<v.length:=List.findIdx_lt_length.2 ⟨x,h,fN⟩
theorem tV {v x}(h):v[VE v x]'(ZN h)=x:=by grind[VE]
def qqc {v}(P:v.Nodup){j}(s:j<v.length):VE v v[j]=j:=by have w:=Yn s;have m:=tV w;have p:=ZN w;rcases Nat.lt_trichotomy (VE v v[j]) j with h|h|h;{exact absurd m (Vb.1 P _ _ p s h)};{exact h};exact absurd m.symm (Vb.1 P _ _ s p h)
def E3 (names:List Tb)(l:List Nx):List Nat:=(l.filter λn=>decide (n.op=1)).map λn=>VE names n.nm
def WU {v l}(h:T3 v l=Tt){n}(P:n∈l)(h1:n.op=1):n.nm∈v:=by grind[T3,WL]
def RK {v l}(h:T3 v l=Tt):∀j,j∈E3 v l->j<v.length:=by intro j s;unfold E3 at s;obtain⟨n,P,rfl⟩:=Y9.1 s;rw[Vd,Y3]at P;exact ZN (WU h P.1 P.2)
def GI {v l}(P:v.Nodup)(h:T3 v l=Tt){j}(s:j<v.length):j∈E3 v l ↔ Q9 l v[j]=Tt:=by unfold E3 Q9;rw[Oa];constructor;{intro t;obtain⟨n,S,rfl⟩:=Y9.1 t;rw[Vd,Y3]at S;exact⟨n,S.1,by rw[Yl S.2,Yl (tV (WU h S.1 S.2)).symm];rfl⟩};rintro⟨n,w,e⟩;rw[Yr,Y3,Y3]at e;exact Y9.2 ⟨n,Vd.2 ⟨w,Yl e.1⟩,by rw[e.2];exact qqc P s⟩
def M4 (m:Fm)(k:Nat):List Nat:=E3 (L0 m) (A0 m k).is++E3 (L0 m) (A0 m k).wh
def L1.nod {m}(h:L1 m):(L0 m).Nodup:=by have:=h.f;unfold X4 at this;rw[Yr,Y3]at this;exact this.2
def zH (m):(L0 m).length=m.F.length:=by simp[L0]
def Ea {m j}(s):(L0 m)[j]'(by rw[zH];exact s)=(A0 m j).nm:=by grind[L0,A0]
def L1.knw {m}(h:L1 m){k}(a:k<m.F.length):T3 (L0 m) (A0 m k).is=Tt/\T3 (L0 m) (A0 m k).wh=Tt/\T3 (L0 m) (A0 m k).va=Tt/\T3 (L0 m) (A0 m k).mu=Tt:=by have:=h.kn _ (Yn a);rw[P6 a];unfold IA at this;simp only[Yr]at this;exact⟨this.1.1.1,this.1.1.2,this.1.2,this.2⟩
theorem tR {m}(h:L1 m){k}(a:k<m.F.length):∀j,j∈M4 m k->j<m.F.length:=by intro j s;rw[<- zH m];rcases Zb.1 s with s|s;{exact RK (h.knw a).1 j s};exact RK (h.knw a).2.1 j s
theorem VQ {m}(h:L1 m){j k}(s:j<m.F.length)(a:k<m.F.length):j∈M4 m k ↔ D5 m j k=Tt:=by have f:j<(L0 m).length:=(by rw[zH];exact s);unfold M4 D5;rw[Zb,Zm,GI h.nod (h.knw a).1 f,GI h.nod (h.knw a).2.1 f,Ea s]
def q8n (m i):∀a,a∈N0 m i->∀j,j<m.F.length->D5 m j a=Tt->j∈N0 m i:=by induction i with|zero=>intro a k;cases k|succ i l=>cases h:p7 m (N0 m i) with|none=>rw[PL h];exact l|some x=>rw[ZJ h];intro a k j s T;rcases Zb.1 k with k|k;{exact Ob _ (l a k j s T)};rw[Y7.1 k]at T;have O:=(GG h).2.1;unfold LD at O;rw[Yr,Zc]at O;have:=O.2 j (Y5.2 s);rw[T]at this;exact Ob _ (by simpa using this)
def A8 (m:Fm)(D:List Nat)(k:Nat):Int:=((M4 m k).filter λj=>!decide (j∈D)).length - (if k∈D then 1 else 0)
def LQ {m}(h:L1 m)(i){k}(a:k<m.F.length):A8 m (N0 m i) k=0 ↔ LD m (N0 m i) k=Tt:=by unfold A8 LD;have G:((M4 m k).filter λj=>!decide (j∈N0 m i)).length=0 ↔ ∀j,j<m.F.length->D5 m j k=Tt->j∈N0 m i:=(by rw[Zj,List.filter_eq_nil_iff];constructor;{intro t j s T;have:=t j ((VQ h s a).2 T);simpa using this};intro t j s;have f:=tR h a j s;simp[t j f ((VQ h f a).1 s)]);have b:((List.range m.F.length).all λj=>!D5 m j k||decide (j∈N0 m i))=Tt ↔ ∀j,j<m.F.length->D5 m j k=Tt->j∈N0 m i:=(by rw[Zc];constructor;{intro t j s T;have:=t j (Y5.2 s);rw[T]at this;simpa using this};intro t j s;cases T:D5 m j k;{rfl};simp[t j (List.mem_range.1 s) T]);by_cases w:k∈N0 m i;{rw[Yy w,Yl w,G.2 (q8n m i k w)];simp};rw[Ys w,Yj w];rw[show((((M4 m k).filter λj=>!decide (j∈N0 m i)).length:Int) - 0=0) ↔ ((M4 m k).filter λj=>!decide (j∈N0 m i)).length=0 by omega,G];simp only[Bool.not_false,Zg];exact b.symm
theorem q7c (l D:List Nat)(x)(t:x ∉ D):(l.filter λj=>!decide (j∈D++[x])).length+l.count x=(l.filter λj=>!decide (j∈D)).length:=by induction l <;> grind
theorem oV (m D x)(t:x ∉ D)(k):A8 m (D++[x]) k=A8 m D k - (M4 m k).count x - (if k=x then 1 else 0):=by grind[A8,M4,q7c]
def qd7 (m k):A8 m [] k=(M4 m k).length:=by unfold A8;rw[show(M4 m k).filter (λj=>!decide (j∈([]:List Nat)))=M4 m k from List.filter_eq_self.2 (λ_ _=>by simp)];simp
def N3 (m:Fm)(k j:Nat):List Nat:=(List.range k).flatMap λi=>List.replicate ((M4 m i).count j) i
def qex (m j):N3 m 0 j=[]:=rfl
theorem SU (m k j):N3 m (k+1) j=N3 m k j++List.replicate ((M4 m k).count j) k:=by unfold N3;rw[Zi,Vf];simp
def uR (m k j):∀i,i∈N3 m k j->i<k:=by grind[N3]
theorem FU (m j i):∀k,(N3 m k j).count i=if i<k then (M4 m i).count j else 0:=by intro k;induction k with|zero=>rfl|succ k l=>rw[SU,List.count_append,l,List.count_replicate];by_cases h:i<k;{have a:(k==i)=Ff:=Yh.2 fK;rw[Yy h,Yy (show i<k+1 by omega),a];simp};by_cases e:i=k;{subst e;rw[Ys h,Yy (show i<i+1 by omega)];simp};have a:(k==i)=Ff:=Yh.2 fK;rw[Ys h,Ys (show ¬ i<k+1 by omega),a];simp
def Dg (l:List Nat)(h:∀x,x∈l->x=0):l.sum=0:=by induction l <;> simp_all
def qhq (n)(l:List Nat)(h:∀x,x∈l->x<n):((List.range n).map λj=>l.count j).sum=l.length:=by induction l with|nil=>refine Dg _ λc a=>?_;obtain⟨j,-,rfl⟩:=Y9.1 a;rfl|cons x l b=>have t:=h x Zk;have y:=b λc a=>h c (Z5 _ a);have e:((List.range n).map λj=>(x :: l).count j).sum=((List.range n).map λj=>l.count j).sum+((List.range n).map λj=>if j=x then 1 else 0).sum:=(by clear b y h t;induction n with|zero=>rfl|succ n z=>rw[Zi];simp only[Zs,O0,Zy,Vy,Gi,Gr,Zx];rw[z,List.count_cons];have:(if (x==n)=Tt then 1 else 0)=if n=x then 1 else 0:=(by by_cases e:n=x;{subst e;simp};rw[Ys e,Ys fQ]);rw[this];omega);have u:((List.range n).map λj=>if j=x then 1 else 0).sum=1:=(by clear e b y h;induction n with|zero=>omega|succ n z=>rw[Zi];simp only[Zs,O0,Zy,Vy,Gi,Gr,Zx];by_cases e:n=x;{subst e;rw[Yy rfl];have:((List.range n).map λj=>if j=n then 1 else 0).sum=0:=(by refine Dg _ λc a=>?_;obtain⟨j,s,rfl⟩:=Y9.1 a;rw[Ys (Fq (Y5.1 s))]);omega};rw[Ys e,z fK]);rw[e,u,y,Y4]
inductive Rch (m:Fm)(k:Nat):Nat->Prop
 | one {i:Nat}:i<m.F.length->D5 m k i=Tt->Rch m k i
 | step {j i:Nat}:Rch m k j->i<m.F.length->D5 m j i=Tt->Rch m k i
def Rch.lt {m k i}(h:Rch m k i):i<m.F.length:=by cases h <;> assumption
def Sx {m k}{M:Nat->Bool}(a:∀j,(j=k\/M j=Tt)->∀i,i<m.F.length->D5 m j i=Tt->M i=Tt):∀i,Rch m k i->M i=Tt:=by intro i h;induction h with|one y T=>exact a k (.inl rfl) _ y T|step _ y T l=>exact a _ (.inr l) _ y T
end
section
open Go Go.RowKit Go.Proofs.Tryz
def up {α:Type}(f:Nat->α)(j:Nat)(v:α):Nat->α:=λi=>if i=j then v else f i
theorem R7 {K}(f j)(v:K):up f j v j=v:=Yy rfl
theorem M6 {K}(f){i j}(v:K)(h:i≠j):up f j v i=f i:=Ys h
def PO {K}(g:K->Value)(f n j v):((List.range n).map λk=>g (f k)).set j (g v)=(List.range n).map λk=>g (up f j v k):=by refine List.ext_getElem fN λi m p=>?_;simp only[Vk,Zd,O9]at m;rw[List.getElem_set];simp only[V9,List.getElem_range];by_cases e:j=i;{subst e;rw[Yy rfl,R7]};rw[Ys e,M6 f v (λh=>e h.symm)]
def zs (n:Nat)(f:Nat->Int):Tl:=(List.range n).map λk=>.int .i64 (f k)
def QM {n i}(f)(h:i<n):(zs n f)[i]? = Sm (Yd (f i)):=by grind[zs]
theorem yS {n j}(f v):(zs n f).set j (Yd v)=zs n (up f j v):=PO (λx=>Yd x) f n j v
theorem XN {n f g}(h:∀i,i<n->f i=g i):zs n f=zs n g:=Z3 λi y=>by rw[h i (Y5.1 y)]
def CN {X w w' base n k e v x}(a:w.ownsRow base e k v n x)(d:Q5 X w w')(t:∀b,X b->b<base):w'.ownsRow base e k v n x:=by refine⟨a.1,?_⟩;rcases a.2 with p|⟨g,R,h,m,c,C,r⟩;{exact .inl p};exact .inr ⟨g,R,h,m,c,d.same g h e _ (λE=>Fq (t g E)) C,r⟩
def lK {w w' base n k e v x}(h:w.ownsRow base e k v n x)(c:Bw w w'):w'.ownsRow base e k v n x :=
 h.kept (row:=Nn) ⟨c.os,c.tape,c.output,c.size,λb a _=>c.block b a⟩ (Classical.em _)
structure N5 (w:Tw)(base n:Nat)(V:Nat->Value)(L:Nat->List Nat):Prop where
 own:∀j,j<n->w.ownsRow base 3 1 (V j) (L j).length (ui (L j))
 apart:∀i j,i<n->j<n->i≠j->(V i).ownBlock=Nn\/(V i).ownBlock≠(V j).ownBlock
def N5.mono {w w' base n V L}(h:N5 w base n V L)(c:Bw w w'):N5 w' base n V L:=⟨λj s=>lK (h.own j s) c,h.apart⟩
def N5.keep {X w w' base n V L}(h:N5 w base n V L)(a:Q5 X w w')(t:∀k,X k->k<base):N5 w' base n V L:=⟨λj s=>CN (h.own j s) a t,h.apart⟩
def N5.none (w:Tw)(base n:Nat):N5 w base n (λ_=>Sl Nn 0 0) (λ_=>[]):=⟨λ_ _=>World.ownsRow_nil _ _ _ _,λ_ _ _ _ _=>.inl rfl⟩
def N5.sub {w base n k V L}(h:N5 w base n V L)(P:k<=n):N5 w base k V L:=⟨λj s=>h.own j fK,λi j y s=>h.apart i j fK fK⟩
def N5.congr {w base n V E L o}(h:N5 w base n V L)(k:∀j,j<n->E j=V j)(R:∀j,j<n->o j=L j):N5 w base n E o :=
 ⟨λj s=>by rw[k j s,R j s];exact h.own j s,λi j y s U=>by rw[k i y,k j s];exact h.apart i j y s U⟩
def zS {w:Tw}{base n i k e v x}(h:w.ownsRow base e i v n x)(a:k ≥ w.1.size):v.ownBlock≠Sm k:=λe=>by have:=(h.lt k e).2;omega
def N5.snoc {w w' base n V L v l}(h:N5 w base n V L)(c:Bw w w')(D:base<=w.1.size)(a:w'.ownsRow w.1.size 3 1 v l.length (ui l)):N5 w' base (n+1) (up V n v) (up L n l):=by have T:w'.ownsRow base 3 1 v l.length (ui l):=(by refine⟨a.1,?_⟩;rcases a.2 with p|⟨g,R,b,m,c,r⟩;{exact .inl p};exact .inr ⟨g,R,b,m,fK,r⟩);refine⟨λj s=>?_,λi j y s U=>?_⟩;{by_cases e:j=n;{subst e;rw[R7,R7];exact T};rw[M6 _ _ e,M6 _ _ e];exact lK (h.own j fK) c};have t:∀i,i<n->(V i).ownBlock=Option.none\/(V i).ownBlock≠v.ownBlock:=λi y=>(by cases X:(V i).ownBlock with|none=>exact .inl rfl|some q=>refine .inr λu=>?_;have m:=((h.own i y).lt q X).2;have p:=(a.lt q u.symm).1;omega);by_cases G:i=n;{subst G;rw[R7,M6 _ _ (λe=>U e.symm)];rcases t j fK with m|m;{rw[m];cases v.ownBlock with|none=>exact .inl rfl|some q=>exact .inr fN};exact .inr λe=>m e.symm};rw[M6 _ _ G];by_cases b:j=n;{subst b;rw[R7];exact t i fK};rw[M6 _ _ b];exact h.apart i j fK fK U
def N5.add {w w' base n j x V L v}(h:N5 w base n V L)(s:j<n)(d:w'.ownsRow base 3 1 v (L j++[x]).length (ui (L j++[x])))(C:w.grownBy w' (V j).ownBlock)(X:v.ownBlock=(V j).ownBlock\/v.ownBlock=Sm w.1.size):N5 w' base n (up V j v) (up L j (L j++[x])):=by refine⟨λi y=>?_,λi a y b U=>?_⟩;{by_cases e:i=j;{subst e;rw[R7,R7];exact d};rw[M6 _ _ e,M6 _ _ e];exact(h.own i y).kept C (h.apart i j y s e)};by_cases e:i=j;{subst e;rw[R7,M6 _ _ (λe=>U e.symm)];rcases X with u|u;{rw[u];exact h.apart i a y b U};exact .inr λc=>zS (h.own a b) (nR _) (c.symm.trans u)};rw[M6 _ _ e];by_cases f:a=j;{subst f;rw[R7];rcases X with u|u;{rw[u];exact h.apart i a y b U};exact .inr λc=>zS (h.own i y) (nR _) (c.trans u)};rw[M6 _ _ f];exact h.apart i a y b U
def Q8 (w:Tw)(F n:Nat)(V:Nat->Value):Prop:=m0 w F 35 ((List.range n).map V)
def Q8.at {w F n j V}(h:Q8 w F n V)(s:j<n):w.cell? (Aq F j)=Sm (V j):=by have:=m0.cell h j;rw[this];simp[s]
def Q8.congr {w F n V E}(h:Q8 w F n V)(k:∀j,j<n->E j=V j):Q8 w F n E:=by unfold Q8;rw[Z3 λj s=>k j (Y5.1 s)];exact h
def qnn {w w' base F n N j x V L v}(t:Q8 w F n V)(f:F<base)(h:N5 w base N V L)(s:j<N)(d:w'.ownsRow base 3 1 v (L j++[x]).length (ui (L j++[x])))(C:w.grownBy w' (V j).ownBlock)(c:v.ownBlock=(V j).ownBlock\/v.ownBlock=Sm w.1.size):Q8 (w'.setCell (Aq F j) v) F n (up V j v)/\N5 (w'.setCell (Aq F j) v) base N (up V j v) (up L j (L j++[x])):=by constructor;{have m:m0 w' F 35 ((List.range n).map V):=m0.grown t C (λe=>Fq (((h.own j s).lt F e.symm).1));have p:=m.set j v;rw[show((List.range n).map V).set j v=(List.range n).map λk=>up V j v k from PO (λx=>x) V n j v]at p;exact p};exact(h.add s d C c).keep (X:=λb=>b=F) (Q5.set (a:=Aq F j) v rfl) (λk k=>by omega)
def q9p {W w w' base F j n v u x}(c:Below F W w)(R:F<base)(a:F<w.1.size)(V:w.ownsRow base 3 1 u n x)(C:w.grownBy w' u.ownBlock):Below F W (w'.setCell (Aq F j) v) :=
 (c.grown C (Oi a) (λq e=>Fq ((V.lt q e).1))).setCell (p:=Aq F j) (nR _) v
def YB (m:Fm)(k i j:Nat):List Nat:=N3 m k j++List.replicate (((M4 m k).take i).count j) k
def qev (m k):YB m k 0=N3 m k:=by grind[YB]
def qet (m k):YB m k (M4 m k).length=N3 m (k+1):=by grind[YB,M4,N3,SU]
def jd {p:Prop}(h:p:=by rw[M6 _ _ e,List.count_singleton,Ys (by simpa using λh=>e h.symm),Zx]):p:=h
def qeu {m k i}(h:i<(M4 m k).length):YB m k (i+1)=up (YB m k i) (M4 m k)[i] (YB m k i (M4 m k)[i]++[k]):=by funext j;unfold YB;rw[Yu h,List.count_append];by_cases e:j=(M4 m k)[i];{subst e;rw[R7,List.count_singleton_self,Vv,List.replicate_succ']};exact jd
def YE {l}(h:Q1 l=Tt):l.length<=1000:=by unfold Q1 at h;rw[Zm]at h;rcases h with h|h;{have:=Zo h;omega};unfold JG at h;exact((DH _ _).1 h).2.1
def QN {m}(h:L1 m){k}(b:k<m.F.length):(M4 m k).length<=2000:=by have D:=(MD _ _ _).1 (h.fi _ (Yn b));have c:=YE D.i;have p:=YE D.h;have a:∀l,(E3 (L0 m) l).length<=l.length:=λl=>(by unfold E3;rw[Zd];exact Vm _ _);have S:=a m.F[k].is;have q:=a m.F[k].wh;unfold M4;rw[P6 b,Yk];omega
def RN {m}(h:L1 m)(j):∀k,k<=m.F.length->(N3 m k j).length<=k*2000:=by intro k;induction k with|zero=>intro _;simp[qex]|succ k d=>intro c;have b:=QN h (show k<m.F.length by omega);have p:=Gc (a:=j) (l:=M4 m k);rw[SU,Yk,List.length_replicate];omega
def qjt {m}(h:L1 m){k}(b:k<m.F.length)(i j):(YB m k i j).length<=402000:=by have c:=RN h j k fK;have p:=Gc (a:=j) (l:=(M4 m k).take i);have d:=QN h b;have S:=h.nf;have q:((M4 m k).take i).length<=(M4 m k).length:=List.length_take_le' _ _;unfold YB;rw[Yk,List.length_replicate];omega
def pE (L:Nat->List Nat)(j i:Nat):Nat:=((List.range j).map λp=>(L p).count i).sum
def qe8 (L i):pE L 0 i=0:=rfl
theorem Ac (L j i):pE L (j+1) i=pE L j i+(L j).count i:=by unfold pE;rw[Zi];simp
def sA (L:Nat->List Nat)(j p i:Nat):Nat:=pE L j i+((L j).take p).count i
def qeb (L j):sA L j 0=pE L j:=by grind[sA]
def qe9 (L j):sA L j (L j).length=pE L (j+1):=by grind[sA,pE,Ac]
theorem qea {L j p}(h:p<(L j).length)(i):sA L j (p+1) i=up (sA L j p) (L j)[p] (sA L j p (L j)[p]+1) i:=by unfold sA;rw[Yu h,List.count_append];by_cases e:i=(L j)[p];{subst e;rw[R7,List.count_singleton_self];omega};exact jd
def qe7 {m}(h:L1 m){i}(hi:i<m.F.length):((pE (N3 m m.F.length) m.F.length i:Nat):Int)=A8 m [] i:=by rw[qd7];unfold pE;rw[Z3 (λp _=>by rw[FU,Yy hi]),qhq _ _ (tR h hi)]
def qpr {L B}(R:∀j,(L j).length<=B)(i):∀j,pE L j i<=j*B:=by intro j;induction j with|zero=>simp[qe8]|succ j b=>have:=Gc (a:=i) (l:=L j);have:=R j;rw[Ac,Z8];omega
def nA (m:Fm)(D:List Nat)(x p k:Nat):Int:=A8 m D k - (if k=x then 1 else 0) - ((N3 m m.F.length x).take p).count k
def qd6 (m D x k):up (A8 m D) x (A8 m D x - 1) k=nA m D x 0 k:=by grind[nA,up]
def qd5 {m D x p}(h:p<(N3 m m.F.length x).length)(k):up (nA m D x p) (N3 m m.F.length x)[p] (nA m D x p (N3 m m.F.length x)[p] - 1) k=nA m D x (p+1) k:=by unfold nA;rw[Yu h,List.count_append];by_cases e:k=(N3 m m.F.length x)[p];{subst e;rw[R7,List.count_singleton_self];omega};have M:((N3 m m.F.length x)[p]==k)=Ff:=Yh.2 λh=>e h.symm;rw[M6 _ _ e,List.count_singleton,M];simp
def qd4 {m D x k}(t:x ∉ D)(a:k<m.F.length):nA m D x (N3 m m.F.length x).length k=A8 m (D++[x]) k:=by grind[nA,N3,A8,oV,FU]
def JF (F:Nat->Bool)(n i:Nat):Int:=QD (qJ F n (i / n) (i % n)) n
def MF (F:Nat->Bool)(n i:Nat):Int:=QD (rJ F n (i / n) (i % n)) n
def vE (F:Nat->Bool)(n:Nat):Prop:=∃a b,a<n/\b<n/\a≠b/\F (a*n+b)=Tt/\F (b*n+a)=Tt
def CB (p:Nat->Bool):Nat->Int
 | 0=>0
 | k+1=>if p k then (k:Int) else CB p k
def zC (F:Nat->Bool)(n m c:Nat):Bool:=(List.range m).all λd=>F (c*n+d)
def AC (F:Nat->Bool)(n m c:Nat):Bool:=(List.range m).all λd=>F (d*n+c)
def Xv (F n m c):zC F n (m+1) c=(zC F n m c&&F (c*n+m)):=by grind[zC]
def Wv (F n m c):AC F n (m+1) c=(AC F n m c&&F (m*n+c)):=by grind[AC]
def MK (n:Nat)(F:Nat->Bool)(e:Ending)(w':Tw):Prop :=
 (vE F n/\e=.returned (.tuple #[F7,Yd 2])) \/
 (¬ vE F n/\(∃i,i<n*n/\JF F n i<0)/\e=.returned (.tuple #[F7,Yd 3])) \/
 (¬ vE F n/\(∀i,i<n*n->0<=JF F n i)/\(∃i,i<n*n/\MF F n i<0)/\e=.returned (.tuple #[F7,Yd 4])) \/
 (¬ vE F n/\(∀i,i<n*n->0<=JF F n i)/\(∀i,i<n*n->0<=MF F n i)/\∃a1 a2 a3 c1 c2 c3,e=.returned (.tuple #[.agg (Jh n a1 (n*n) c1 a2 c2 a3 c3 (CB (zC F n n) n) (CB (AC F n n) n)),Yd 0]) /\
  o9 w' a1 (n*n) F/\F5 w' a2 (n*n) (JF F n)/\F5 w' a3 (n*n) (MF F n))
def AA {w b t v u V i E F}(h:m0 w b t [v,u,V,i,E,F]) :
 (w.cell? (Aq b 0)=Sm v/\w.cell? (Aq b 1)=Sm u/\w.cell? (Aq b 2)=Sm V/\w.cell? (Aq b 3)=Sm i/\w.cell? (Aq b 4)=Sm E/\w.cell? (Aq b 5)=Sm F)/\(w.frozen? (Aq b 0)=Ff/\w.frozen? (Aq b 1)=Ff/\w.frozen? (Aq b 2)=Ff/\w.frozen? (Aq b 3)=Ff/\w.frozen? (Aq b 4)=Ff/\w.frozen? (Aq b 5)=Ff) :=
 ⟨⟨h.cell 0,h.cell 1,h.cell 2,h.cell 3,h.cell 4,h.cell 5⟩,⟨h.free 0,h.free 1,h.free 2,h.free 3,h.free 4,h.free 5⟩⟩
def RJ {B R w w'}(h:Below B w w')(a:B<=R)(P d V i E F):Below B w ((((((w'.setCell (Aq R 0) P).setCell (Aq R 1) d).setCell (Aq R 2) V).setCell (Aq R 3) i).setCell (Aq R 4) E).setCell (Aq R 5) F) :=
 (((((h.setCell (p:=Aq R 0) a P).setCell (p:=Aq R 1) a d).setCell (p:=Aq R 2) a V).setCell (p:=Aq R 3) a i).setCell (p:=Aq R 4) a E).setCell (p:=Aq R 5) a F
def a_ (N a m c w)(M:∀j,Bw w j->Gv 27 #[.agg (Jn N a m c)] j (Bo Ff)):Gv 8 #[.agg (Jn N a m c)] w (.tuple #[F7,Yd 1]):=by obtain⟨b,Z⟩:=oB (by simpa using m0.new (w.alloc (Cl (Jn N a m c) 41)) 37 Je:m0 ((w.alloc (Cl (Jn N a m c) 41)).alloc (Cl Je 37)) (w.1.size+1) 37 [Yd 0,Ye,Ye,Ye,Yd 0,Yd 0]) ((m0.new w 41 (Jn N a m c)).alloc (Cl Je 37));have O:Hi (Bw w ((w.alloc (Cl (Jn N a m c) 41)).alloc (Cl Je 37))):=((bR _ w).alloc (nR _) _).alloc fN _;go_enter func8,ntmps8;go_wp2_with fail;refine cQ (M _ O) λk d=>?_;have b:=mB b d;have Z:=mB Z d;have O:=mT O d;obtain⟨⟨P,f,i,G,j,u⟩,⟨h,X,L,D,g,t⟩⟩:=AA b;have e:=h_ (RJ O (Zv _) (Yd 0) Ye Ye Ye (Yd 0) (Yd 0));go_wp2;refine bodyPost_ret (v:=.tuple #[F7,Yd 1]) go rfl ⟨?_,e⟩;rfl
def CQ {w:Tw}{base k i n e v x}(h:w.ownsRow base e i v n x)(c:k<=base):w.ownsRow k e i v n x:=by rcases h.2 with V|⟨g,R,a,f,M,b⟩;{exact⟨h.1,.inl V⟩};exact⟨h.1,.inr ⟨g,R,a,f,Yt c M,b⟩⟩
def yR {w base n e v G}(h:w.ownsRow base e 1 v n (is n G)):∃a R,v=Sl a n R/\F5 w a n G:=by rcases h.2 with ⟨rfl,rfl⟩|⟨g,R,b,rfl,c,C,M,-,F,d⟩;{exact⟨Nn,0,rfl,λa k=>absurd k (nL _)⟩};refine⟨_,R,rfl,λa k=>⟨g,0,rfl,(Yp.1 C).1,?_⟩⟩;have:=h.cellAt a fK;rw[Zl,this];simp[is,k]
def GD {w b t v u}(h:m0 w b t [v,u]) :
 (w.cell? (Aq b 0)=Sm v/\w.cell? (Aq b 1)=Sm u)/\(w.frozen? (Aq b 0)=Ff/\w.frozen? (Aq b 1)=Ff):=⟨⟨h.cell 0,h.cell 1⟩,⟨h.free 0,h.free 1⟩⟩
def q6h (n a m c f g w)(h1:1<=n)(t:n<=32)(hm:m<=256)(h:qA w a m (λk=>(f k:Int)) (λk=>(g k:Int)))(T:∀k,k<m->f k<n)(C:∀k,k<m->g k<n)(F)(i:S5 n (C7 m8 f g m n)=F):GZ 8 #[.agg (Jn n a m c)] w λe A=>MK n F e A/\Bw w A:=by obtain⟨l,Z⟩:=oB (by simpa using m0.new (w.alloc (Cl (Jn n a m c) 41)) 37 Je:m0 ((w.alloc (Cl (Jn n a m c) 41)).alloc (Cl Je 37)) (w.1.size+1) 37 [Yd 0,Ye,Ye,Ye,Yd 0,Yd 0]) ((m0.new w 41 (Jn n a m c)).alloc (Cl Je 37));have O:Hi (Bw w ((w.alloc (Cl (Jn n a m c) 41)).alloc (Cl Je 37))):=((bR _ w).alloc (nR _) _).alloc fN _;go_enter func8,ntmps8;go_wp2_with fail;refine(EZ n a m c _ _ _ fK fK hm (h.mono O) Tt ⟨λ_ k K=>by have:=T k K;have:=C k K;omega,λ_=>rfl⟩).mono ?_;rintro e w1 ⟨rfl,d⟩;have l:=mB l d;have Z:=mB Z d;have O:=mT O d;clear d;obtain⟨⟨o,q⟩,-⟩:=GD Z;go_wp2_with fail;refine(VZ n a m c f g _ h1 t hm (h.mono O) T C).mono ?_;rintro e L ⟨G,rfl,b,j,d⟩;have V:=l.lt;have l:=mB l d;have Z:=mB Z d;have O:=mT O d;clear d o q;rw[i]at b;have J:=h_ b;have H:G≠w.1.size+1:=fK;have au:w.1.size+1<L.1.size:=l.lt;clear b h T C i j V;have aN:=BJ t;go_wp2_with fail;go_loop [6] (λi=>∃k:Nat,k<=n/\i=Yd k/\∀x,x<k->∀y,y<n->¬ (x≠y/\F (x*n+y)=Tt/\F (y*n+x)=Tt)) (λi=>n - (intOf i).toNat);exact⟨0,nZ _,rfl,λx h=>absurd h (nL _)⟩;obtain⟨k,K,rfl,b⟩:=hrel;have I:=h_ b;clear b;by_cases Y:k<n;{go_wp2_with fail;go_loop [7] (λi=>∃j:Nat,j<=n/\i=Yd j/\∀y,y<j->¬ (k≠y/\F (k*n+y)=Tt/\F (y*n+k)=Tt)) (λi=>n - (intOf i).toNat);exact⟨0,nZ _,rfl,λx h=>absurd h (nL _)⟩;obtain⟨j,hj,rfl,b⟩:=hrel;have o:=h_ b;clear b;by_cases T:j<n;{have q:(((k:Int) != j)=Tt/\F (k*n+j)=Tt/\F (j*n+k)=Tt)\/(((k:Int) != j)=Ff\/(((k:Int) != j)=Tt/\F (k*n+j)=Ff)\/(((k:Int) != j)=Tt/\F (k*n+j)=Tt/\F (j*n+k)=Ff)):=(by cases ((k:Int) != j) <;> cases F (k*n+j) <;> cases F (j*n+k) <;> simp);rcases q with ⟨X,b,V⟩|q;{have r:Hi (vE F n):=⟨k,j,Y,T,λe=>by subst e;simp at X,b,V⟩;obtain⟨⟨r0,r1,r2,r3,r4,r5⟩,⟨f0,f1,f2,f3,f4,f5⟩⟩:=AA l;have D:=h_ (RJ O (Zv _) (Yd 0) Ye Ye Ye (Yd 0) (Yd 0));go_wp2_with (go_at_call 29;refine(YJ _ _ _ _ _ _ F _ (nR _) fK fK t J.bools).mono ?_;rintro e A ⟨rfl,rfl⟩);exact bodyPost_ret (v:=.tuple #[F7,Yd 2]) go rfl ⟨.inl ⟨r,rfl⟩,D⟩};have s:Hi (¬ (k≠j/\F (k*n+j)=Tt/\F (j*n+k)=Tt)):=λ⟨X,b,V⟩=>(by rcases q with h|⟨_,h⟩|⟨_,_,h⟩;{simp at h;omega};{exact Bool.false_ne_true (h.symm.trans b)};exact Bool.false_ne_true (h.symm.trans V));rcases q with X|⟨X,b⟩|⟨X,b,V⟩;all_goals go_wp2_with (go_at_call 29;refine(YJ _ _ _ _ _ _ F _ (nR _) fK fK t J.bools).mono ?_;rintro e A ⟨rfl,rfl⟩);go_round;exact⟨j+1,fK,fP,λy r=>by by_cases e:y=j;{rw[e];exact s};exact o y fK⟩;exact kv};go_wp2_with fail;go_round;exact⟨k+1,fK,fP,λx s y r=>by by_cases e:x=k;{rw[e];exact o y fK};exact I x fK y r⟩;exact kv};obtain rfl:n=k:=fK;have q:¬ vE F n:=λ⟨x,y,s,r,h⟩=>I x fK y r h;have V:=h_ q;clear q I Y K;go_wp2_with fail;have q:Bw L ((L.alloc (Cl #[] 3)).alloc (Cl #[] 3)):=((bR _ L).alloc (nR _) _).alloc fN _;have P:((L.alloc (Cl #[] 3)).alloc (Cl #[] 3)).ownsRow L.1.size 3 1 (Sl (Sm (zw L 0)) 0 0) 0 (is 0 (JF F n)):=(uD L 3).alloc _;have Q:((L.alloc (Cl #[] 3)).alloc (Cl #[] 3)).ownsRow L.1.size 3 1 (Sl (Sm (zQ L 1 0)) 0 0) 0 (is 0 (MF F n)):=(by have:=uD (L.alloc (Cl #[] 3)) 3;simp only[Yz]at this;exact CQ this (Zv _));obtain⟨s,z,B⟩:=oC P Q q;clear P Q q;have r:∀G:Nat->Int,(Ff=Tt ↔ ∃i,i<0*n/\G i<0):=λG=>⟨(λh=>by cases h),(λ⟨i,q,_⟩=>by simp at q)⟩;go_loopw [8,9,10,11,12] (λS Q nj nm i wr=>∃(k:Nat) (R N:Bool),k<=n/\i=Yd k/\nj=Bo R/\nm=Bo N/\(R=Tt ↔ ∃i,i<k*n/\JF F n i<0)/\(N=Tt ↔ ∃i,i<k*n/\MF F n i<0)/\wr.ownsRow L.1.size 3 1 S (k*n) (is (k*n) (JF F n))/\wr.ownsRow L.1.size 3 1 Q (k*n) (is (k*n) (MF F n))/\S.ownBlock≠Q.ownBlock/\Bw L wr) (λ_ _ _ _ i _=>n - (intOf i).toNat);exact⟨0,Ff,Ff,nZ _,rfl,rfl,rfl,r _,r _,by simpa using s.u,by simpa using z.u,by simp[Value.ownBlock],B⟩;clear s z B r;obtain⟨k,R,N,K,rfl,rfl,rfl,U,E,W,P,M,z⟩:=hrel;obtain⟨B,C,r,s,I,o⟩:=oF U E W P M z;clear U E W P M;by_cases Y:k<n;{clear z;go_wp2;go_loopw [8,9,10,11,13] (λS Q nj nm i wr=>∃(j:Nat) (R N:Bool),j<=n/\i=Yd j/\nj=Bo R/\nm=Bo N/\(R=Tt ↔ ∃i,i<k*n+j/\JF F n i<0)/\(N=Tt ↔ ∃i,i<k*n+j/\MF F n i<0)/\wr.ownsRow L.1.size 3 1 S (k*n+j) (is (k*n+j) (JF F n))/\wr.ownsRow L.1.size 3 1 Q (k*n+j) (is (k*n+j) (MF F n))/\S.ownBlock≠Q.ownBlock/\Bw L wr) (λ_ _ _ _ i _=>n - (intOf i).toNat);exact⟨0,R,N,nZ _,rfl,rfl,rfl,B,C,r,s,I,o⟩;clear B C r s I o;obtain⟨j,R,N,hj,rfl,rfl,rfl,U,E,W,P,M,z⟩:=hrel;obtain⟨B,C,r,s,I,o⟩:=oF U E W P M z;clear U E W P M;by_cases T:j<n;{have aq:=(J.mono z J.lt).bools;have ac:=h_ aq;have aM:=JE Y T;have P:(k*n+j) / n=k/\(k*n+j) % n=j:=(by rw[Oz,Vl _ _ fK,Va T,Z9,Zw T];simp);obtain⟨E,ah⟩:∃Q,JF F n (k*n+j)=Q:=⟨_,rfl⟩;obtain⟨M,ai⟩:∃Q,MF F n (k*n+j)=Q:=⟨_,rfl⟩;have av:QD (qJ F n k j) n=E:=(by rw[<- ah,JF,P.1,P.2]);have aw:QD (rJ F n k j) n=M:=(by rw[<- ai,MF,P.1,P.2]);obtain⟨Q,S⟩:=oB ah ai;go_wp2_with fail;refine(Me (p:=λx y=>F (x*n+y)) _ _ _ n k j F _ (nR _) t Y T ac E av (.inl ⟨rfl,λ_ _=>rfl⟩)).mono ?_;rintro e A ⟨rfl,rfl⟩;go_wp2_with fail;refine(Me (p:=λx y=>F (y*n+x)) _ _ _ n k j F _ (nR _) t Y T ac M aw (.inr ⟨rfl,λ_ _=>rfl⟩)).mono ?_;rintro e A ⟨rfl,rfl⟩;have aK:∀x:Bool,(x=(decide (E<0)||R))->(x=Tt ↔ ∃i,i<k*n+(j+1)/\JF F n i<0):=λx d=>(by rw[d,Zm,Y3,B.u];refine⟨λh=>?_,λ⟨i,q,h⟩=>?_⟩;{rcases h with h|⟨i,q,h⟩;{exact⟨k*n+j,fK,by rw[Q.u];exact h⟩};exact⟨i,fK,h⟩};by_cases e:i=k*n+j;{left;rw[e,Q.u]at h;exact h};exact .inr ⟨i,fK,h⟩);have aL:∀x:Bool,(x=(decide (M<0)||N))->(x=Tt ↔ ∃i,i<k*n+(j+1)/\MF F n i<0):=λx d=>(by rw[d,Zm,Y3,C.u];refine⟨λh=>?_,λ⟨i,q,h⟩=>?_⟩;{rcases h with h|⟨i,q,h⟩;{exact⟨k*n+j,fK,by rw[S.u];exact h⟩};exact⟨i,fK,h⟩};by_cases e:i=k*n+j;{left;rw[e,S.u]at h;exact h};exact .inr ⟨i,fK,h⟩);have SJ:=h_ aK;have SM:=h_ aL;by_cases c1:E<0 <;> by_cases c2:M<0;all_goals obtain⟨i0,q,aO,aP,aQ⟩:=info_parts RQ;go_wp2_with (at_builtin;refine M5 RQ r (Fq o.size) ?_);intro aa w3 aD x _ W;have az:=s.lt;have ag:=r.lt;have ao:=(o.alloc o.size (Cl #[Yd E] 3)).grown x (by have:=o.size;simp;omega) (λq' e=>C3 r e);have aH:=(s.alloc (Cl #[Yd E] 3)).kept x (.inr λe=>I e.symm);have aB:aa.ownBlock≠u9.ownBlock:=(by rcases W with e|e;{rw[e];exact I};rw[e];intro b;have U:=(az _ b.symm).2;first|omega|(simp only[Yz]at U;omega));have aE:w3.ownsRow L.1.size 3 1 aa (k*n+(j+1)) (is (k*n+(j+1)) (JF F n)):=(by rw[<- Gh,yW,Q.u];exact aD);obtain⟨ae,af,ad,y⟩:=oD aE aH aB ao;go_wp2_with (at_builtin;refine M5 RQ af (Fq y.size) ?_);intro aj w4 aG x _ W;have ag:=ae.lt;have ap:=(y.alloc y.size (Cl #[Yd M] 3)).grown x (by have:=y.size;simp;omega) (λq' e=>C3 af e);have aF:=(ae.alloc (Cl #[Yd M] 3)).kept x (.inr ad);have aC:aa.ownBlock≠aj.ownBlock:=(by rcases W with e|e;{rw[e];exact ad};rw[e];intro b;have U:=(ag _ b).2;first|omega|(simp only[Yz]at U;omega));have aI:w4.ownsRow L.1.size 3 1 aj (k*n+(j+1)) (is (k*n+(j+1)) (MF F n)):=(by rw[<- Gh,yW,S.u];exact aG);obtain⟨am,an,al,U⟩:=oD aF aI aC ap;go_wp2;go_roundw;exact⟨j+1,_,_,fK,fP,rfl,rfl,SJ _ (by first|(rw[Yl fK];rfl)|(rw[Yj fK];rfl)),SM _ (by first|(rw[Yl fK];rfl)|(rw[Yj fK];rfl)),am,an,al,U⟩;exact kv};obtain rfl:n=j:=fK;go_wp2;go_roundw;exact⟨k+1,R,N,fK,fP,rfl,rfl,by rw[Z8];exact B,by rw[Z8];exact C,by rw[Z8];exact r,by rw[Z8];exact s,I,o⟩;exact kv};obtain rfl:n=k:=fK;have l:=mB l z;have J:=mB J z;have aJ:w.1.size+1<L.1.size:=au;have O:=mT O z;have U:=h_ J.bools;cases R;{have M:Hi (∀i,i<n*n->0<=JF F n i):=λi q=>(by apply Classical.byContradiction;intro h;have:=B.2 ⟨i,q,fK⟩;cases this);cases N;{have P:Hi (∀i,i<n*n->0<=MF F n i):=λi q=>(by apply Classical.byContradiction;intro h;have:=C.2 ⟨i,q,fK⟩;cases this);obtain⟨q,y,rfl,-⟩:=yR r;obtain⟨x,E,rfl,-⟩:=yR s;go_wp2_with fail;go_loop [16,17,18] (λQ S i=>∃k:Nat,k<=n/\i=Yd k/\Q=Yd (CB (zC F n n) k)/\S=Yd (CB (AC F n n) k)) (λ_ _ i=>n - (intOf i).toNat);exact⟨0,nZ _,rfl,rfl,rfl⟩;obtain⟨k,K,rfl,rfl,rfl⟩:=hrel;by_cases Y:k<n;{go_wp2_with fail;go_loop [19,20,21] (λQ S i=>∃j:Nat,j<=n/\i=Yd j/\Q=Bo (zC F n j k)/\S=Bo (AC F n j k)) (λ_ _ i=>n - (intOf i).toNat);exact⟨0,nZ _,rfl,rfl,rfl⟩;obtain⟨j,hj,rfl,rfl,rfl⟩:=hrel;by_cases T:j<n;{cases X:F (k*n+j) <;> cases b:F (j*n+k);all_goals obtain⟨Q,S⟩:=oB (Xv F n j k) (Wv F n j k);go_wp2_with fail;refine(YJ _ _ _ n k j F _ (nR _) Y T t U).mono ?_;rintro e A ⟨rfl,rfl⟩;rw[X];go_wp2_with fail;refine(YJ _ _ _ n j k F _ (nR _) T Y t U).mono ?_;rintro e A ⟨rfl,rfl⟩;rw[b];go_wp2_with fail;go_round;exact⟨j+1,fK,fP,by rw[Q.u,X];simp,by rw[S.u,b];simp⟩;exact kv};obtain rfl:n=j:=fK;have S:Hi (CB (zC F n n) (k+1)=if zC F n n k then (k:Int) else CB (zC F n n) k):=rfl;have A:Hi (CB (AC F n n) (k+1)=if AC F n n k then (k:Int) else CB (AC F n n) k):=rfl;cases X:zC F n n k <;> cases b:AC F n n k;all_goals go_wp2_with fail;go_round;exact⟨k+1,fK,fP,by rw[S.u,X];rfl,by rw[A.u,b];rfl⟩;exact kv};obtain rfl:n=k:=fK;obtain⟨j,S⟩:=Nq (CB (zC F n n) n);obtain⟨A,T⟩:=Nq (CB (AC F n n) n);rw[S,T];have Q:=h_ (And.intro S T);obtain⟨⟨r0,r1,r2,r3,r4,r5⟩,⟨f0,f1,f2,f3,f4,f5⟩⟩:=AA l;have b:w.1.size+1<L.1.size:=aJ;have ay:=ownsRow_setCell_below (ownsRow_setCell_below (ownsRow_setCell_below (ownsRow_setCell_below (ownsRow_setCell_below (ownsRow_setCell_below r (a:=(zQ w 1 0)) b (Yd n)) (a:=(zQ w 1 1)) b (GX G (n*n) (n*n))) (a:=(zQ w 1 2)) b (Sl q (n*n) y)) (a:=(zQ w 1 3)) b (Sl x (n*n) E)) (a:=(zQ w 1 4)) b (Yd j)) (a:=(zQ w 1 5)) b (Yd A);have aA:=ownsRow_setCell_below (ownsRow_setCell_below (ownsRow_setCell_below (ownsRow_setCell_below (ownsRow_setCell_below (ownsRow_setCell_below s (a:=(zQ w 1 0)) b (Yd n)) (a:=(zQ w 1 1)) b (GX G (n*n) (n*n))) (a:=(zQ w 1 2)) b (Sl q (n*n) y)) (a:=(zQ w 1 3)) b (Sl x (n*n) E)) (a:=(zQ w 1 4)) b (Yd j)) (a:=(zQ w 1 5)) b (Yd A);have ax:=((((((J.other (a:=(zQ w 1 0)) (Yd n) H).other (a:=(zQ w 1 1)) (GX G (n*n) (n*n)) H).other (a:=(zQ w 1 2)) (Sl q (n*n) y) H).other (a:=(zQ w 1 3)) (Sl x (n*n) E) H).other (a:=(zQ w 1 4)) (Yd j) H).other (a:=(zQ w 1 5)) (Yd A) H);obtain⟨D,X,ak,W⟩:=oD (RJ O (Zv _) (Yd n) (GX G (n*n) (n*n)) (Sl q (n*n) y) (Sl x (n*n) E) (Yd j) (Yd A)) ay aA ax;go_wp2;refine bQ (v:=.tuple #[.agg #[Yd n,GX G (n*n) (n*n),Sl q (n*n) y,Sl x (n*n) E,Yd j,Yd A],Yd 0]) ⟨.inr (.inr (.inr ⟨V,M,P,Sm (Aq G 0),q,x,n*n,y,E,by rw[Q.u.1,Q.u.2],W.bools,?_,?_⟩)),D⟩;{obtain⟨x1,x2,e,h⟩:=yR X;cases e;exact h};obtain⟨x1,x2,e,h⟩:=yR ak;cases e;exact h};have P:Hi (∃i,i<n*n/\MF F n i<0):=C.1 rfl;obtain⟨⟨r0,r1,r2,r3,r4,r5⟩,⟨f0,f1,f2,f3,f4,f5⟩⟩:=AA l;have D:=h_ (RJ O (Zv _) (Yd 0) Ye Ye Ye (Yd 0) (Yd 0));go_wp2;refine bodyPost_ret (v:=.tuple #[F7,Yd 4]) go rfl ⟨?_,D⟩;exact .inr (.inr (.inl ⟨V,M,P,rfl⟩))};have M:Hi (∃i,i<n*n/\JF F n i<0):=B.1 rfl;obtain⟨⟨r0,r1,r2,r3,r4,r5⟩,⟨f0,f1,f2,f3,f4,f5⟩⟩:=AA l;have D:=h_ (RJ O (Zv _) (Yd 0) Ye Ye Ye (Yd 0) (Yd 0));go_wp2;refine bodyPost_ret (v:=.tuple #[F7,Yd 3]) go rfl ⟨?_,D⟩;exact .inr (.inl ⟨V,M,rfl⟩)
def Le (f:Nat->Bool)(n a b:Nat):Prop:=a<n/\b<n/\f (a*n+b)=Tt
theorem YQ {f n a b}:part f n (n*n) a b=Tt ↔ Le f n a b:=by unfold part Le;simp only[Yr,decide_eq_true_iff];constructor;{rintro⟨⟨m,p⟩,e⟩;refine⟨?_,m,e⟩;apply Ou;intro h;have:=Z4 n h;omega};rintro⟨m,p,e⟩;exact⟨⟨p,JE m p⟩,e⟩
section
variable {n:Nat} {f:Nat->Bool} {u c d:Nat->Nat}
def ZG (e:A4 u (part f n (n*n))){a}(H:a<32)(b):(u a).testBit b=Tt ↔ Le f n a b:=by grind[A4,part,Le,YQ]
def kH (o:A4 d (λb a=>decide (a<n)&&part f n (n*n) a b)){a}(H:a<32)(b):(d a).testBit b=Tt ↔ Le f n b a:=by grind[A4,part,Le,YQ]
def Ij (P:n<=32)(e:A4 u (part f n (n*n)))(o:A4 d (λb a=>decide (a<n)&&part f n (n*n) a b))(O:∀a,a<n->Le f n a a){a}(H:a<n):T7 (u a) (d a)=2 ^ a ↔ ∀b,Le f n a b->Le f n b a->a=b:=by have N:∀b,(T7 (u a) (d a)).testBit b=Tt ↔ Le f n a b/\Le f n b a:=λb=>(by rw[uN (e a fK).1 (o a fK).1,Yr,ZG e fK,kH o fK]);constructor;{intro h b m p;have:=(N b).2 ⟨m,p⟩;rw[h,Oe,decide_eq_true_iff]at this;exact this};intro h;apply Nat.eq_of_testBit_eq;intro b;rw[Z2,N,Oe,decide_eq_true_iff];exact⟨λ⟨m,p⟩=>h b m p,λg=>by subst g;exact⟨O a H,O a H⟩⟩
def JL {s t}(F:s<4294967296)(z:t<4294967296):V7 s t=0 ↔ ∀x,s.testBit x=Tt->t.testBit x=Tt:=by constructor;{intro h x a;have:=IL F z x;rw[h,a]at this;simpa using this.symm};intro h;apply Nat.eq_of_testBit_eq;intro x;rw[IL F z x];cases e:s.testBit x;{simp};simp[h x e]
def Ke (P:n<=32)(g:A4 u (part f n (n*n))){a b e}(H:a<n)(j:b<n)(i:e<32):((T7 (u a) (u b)).testBit e=Tt/\V7 (T7 (u a) (u b)) (u e)=0) ↔ (e<n/\BC f n a b e):=by have A:=(g a fK).1;have l:=(g b fK).1;rw[JL (DU A) (g e i).1,uN A l,Yr,ZG g fK,ZG g fK];have t:∀x,(T7 (u a) (u b)).testBit x=Tt ↔ Le f n a x/\Le f n b x:=λx=>(by rw[uN A l,Yr,ZG g fK,ZG g fK]);unfold BC;constructor;{rintro⟨⟨m,p⟩,h⟩;refine⟨m.2.1,m.2.2,p.2.2,λx k S q=>?_⟩;exact((ZG g i x).1 (h x ((t x).2 ⟨⟨H,k,S⟩,⟨j,k,q⟩⟩))).2.2};rintro⟨G,m,p,h⟩;refine⟨⟨⟨H,G,m⟩,⟨j,G,p⟩⟩,λx k=>?_⟩;obtain⟨S,q⟩:=(t x).1 k;exact(ZG g i x).2 ⟨G,S.2.1,h x S.2.1 S.2.2 q.2.2⟩
def Qe (P:n<=32)(o:A4 d (λb a=>decide (a<n)&&part f n (n*n) a b)){a b e}(H:a<n)(i:b<n)(h:e<32):((T7 (d a) (d b)).testBit e=Tt/\V7 (T7 (d a) (d b)) (d e)=0) ↔ (e<n/\CC f n a b e):=by have A:=(o a fK).1;have k:=(o b fK).1;rw[JL (DU A) (o e h).1,uN A k,Yr,kH o fK,kH o fK];have t:∀x,(T7 (d a) (d b)).testBit x=Tt ↔ Le f n x a/\Le f n x b:=λx=>(by rw[uN A k,Yr,kH o fK,kH o fK]);unfold CC;constructor;{rintro⟨⟨m,p⟩,g⟩;refine⟨m.1,m.2.2,p.2.2,λx j S q=>?_⟩;exact((kH o h x).1 (g x ((t x).2 ⟨⟨j,H,S⟩,⟨j,i,q⟩⟩))).2.2};rintro⟨G,m,p,g⟩;refine⟨⟨⟨G,H,m⟩,⟨G,i,p⟩⟩,λx j=>?_⟩;obtain⟨S,q⟩:=(t x).1 j;exact(kH o h x).2 ⟨S.1,G,g x S.1 S.2.2 q.2.2⟩
def qa9 (P:n<=32)(k:A4 u (part f n (n*n))){a b}(H:a<n)(j:b<n){v}(h:ZA u a b v):(∃e:Nat,e<n/\v=e/\BC f n a b e)\/(v = -1/\∀e,e<n->¬ BC f n a b e):=by rcases h with ⟨e,i,rfl,m,p⟩|⟨rfl,h⟩;{obtain⟨g,S⟩:=(Ke P k H j i).1 ⟨m,p⟩;exact .inl ⟨e,g,rfl,S⟩};refine .inr ⟨rfl,λe i s=>?_⟩;obtain⟨g,S⟩:=(Ke P k H j fK).2 ⟨i,s⟩;exact h e g S
def qaa (P:n<=32)(o:A4 d (λb a=>decide (a<n)&&part f n (n*n) a b)){a b}(H:a<n)(j:b<n){v}(h:ZA d a b v):(∃e:Nat,e<n/\v=e/\CC f n a b e)\/(v = -1/\∀e,e<n->¬ CC f n a b e):=by rcases h with ⟨e,i,rfl,m,p⟩|⟨rfl,h⟩;{obtain⟨g,S⟩:=(Qe P o H j i).1 ⟨m,p⟩;exact .inl ⟨e,g,rfl,S⟩};refine .inr ⟨rfl,λe i s=>?_⟩;obtain⟨g,S⟩:=(Qe P o H j fK).2 ⟨i,s⟩;exact h e g S
def BI (n x):(2 ^ n - 1).testBit x=Tt ↔ x<n:=by simp
def Iq (P:n<=32)(a:A4 u (part f n (n*n))){v}(h:XG u (2 ^ n - 1) v):(∃e:Nat,e<n/\v=e/\∀x,x<n->Le f n e x)\/(v = -1/\∀e,e<n->¬ ∀x,x<n->Le f n e x):=by rcases h with ⟨e,g,rfl,m,p⟩|⟨rfl,h⟩;{rw[JL (IM P) (a e g).1]at p;exact .inl ⟨e,(BI n e).1 m,rfl,λx t=>(ZG a g x).1 (p x ((BI n x).2 t))⟩};refine .inr ⟨rfl,λe g b=>h e ((BI n e).2 g) ?_⟩;rw[JL (IM P) (a e fK).1];exact λx t=>(ZG a fK x).2 (b x ((BI n x).1 t))
def Lq (P:n<=32)(o:A4 d (λb a=>decide (a<n)&&part f n (n*n) a b)){v}(h:XG d (2 ^ n - 1) v):(∃e:Nat,e<n/\v=e/\∀x,x<n->Le f n x e)\/(v = -1/\∀e,e<n->¬ ∀x,x<n->Le f n x e):=by rcases h with ⟨e,g,rfl,m,p⟩|⟨rfl,h⟩;{rw[JL (IM P) (o e g).1]at p;exact .inl ⟨e,(BI n e).1 m,rfl,λx t=>(kH o g x).1 (p x ((BI n x).2 t))⟩};refine .inr ⟨rfl,λe g a=>h e ((BI n e).2 g) ?_⟩;rw[JL (IM P) (o e fK).1];exact λx t=>(kH o fK x).2 (a x ((BI n x).1 t))
def qqy {n f}(h1:1<=n)(z:∀a b e,Le f n a b->Le f n b e->Le f n a e)(w:∀a,a<n->∀b,b<n->∃e,e<n/\CC f n a b e):∃e,e<n/\∀x,x<n->Le f n e x:=by have o:∀k,k<=n->∃e,e<n/\∀x,x<k->Le f n e x:=λk=>(by induction k with|zero=>exact λ_=>⟨0,fK,λx h=>absurd h (nL _)⟩|succ k l=>intro h;obtain⟨e,g,t⟩:=l fK;obtain⟨q,B,p,b,-⟩:=w e g k fK;refine⟨q,B,λx Q=>?_⟩;by_cases a:x=k;{subst a;exact⟨B,fK,b⟩};exact z q e x ⟨B,g,p⟩ (t x fK));exact o n (nR _)
def qr1 {n f}(h1:1<=n)(z:∀a b e,Le f n a b->Le f n b e->Le f n a e)(w:∀a,a<n->∀b,b<n->∃e,e<n/\BC f n a b e):∃e,e<n/\∀x,x<n->Le f n x e:=by have o:∀k,k<=n->∃e,e<n/\∀x,x<k->Le f n x e:=λk=>(by induction k with|zero=>exact λ_=>⟨0,fK,λx h=>absurd h (nL _)⟩|succ k l=>intro h;obtain⟨e,g,t⟩:=l fK;obtain⟨q,B,p,b,-⟩:=w e g k fK;refine⟨q,B,λx Q=>?_⟩;by_cases a:x=k;{subst a;exact⟨fK,B,b⟩};exact z x e q (t x fK) ⟨g,B,p⟩);exact o n (nR _)
def qkp {n a b e q f}(F:∀a b,Le f n a b->Le f n b a->a=b)(g:e<n)(B:q<n)(h:BC f n a b e)(V:BC f n a b q):e=q :=
 F e q ⟨g,B,h.2.2 q B V.1 V.2.1⟩ ⟨B,g,V.2.2 e g h.1 h.2.1⟩
def qkz {n a b e q f}(F:∀a b,Le f n a b->Le f n b a->a=b)(g:e<n)(B:q<n)(h:CC f n a b e)(V:CC f n a b q):e=q :=
 F e q ⟨g,B,V.2.2 e g h.1 h.2.1⟩ ⟨B,g,h.2.2 q B V.1 V.2.1⟩
def VU {n i:Nat}(h:i<n*n):i / n<n/\i % n<n/\i / n*n+i % n=i:=by have P:0<n:=(by apply Nat.pos_of_ne_zero;intro e;subst e;simp at h);exact⟨(Nat.div_lt_iff_lt_mul P).2 h,Vr _ P,by rw[Gf];exact Nat.div_add_mod i n⟩
end
end
section
open Go Go.Proofs.Tryz
structure s8 (N:Nat)(le:Nat->Nat->Prop)(jn:Nat->Nat->Nat)(bot:Nat):Prop where
 refl:∀a,a<N->le a a
 trans:∀a b c,a<N->b<N->c<N->le a b->le b c->le a c
 anti:∀a b,a<N->b<N->le a b->le b a->a=b
 bl:bot<N
 bot:∀a,a<N->le bot a
 jl:∀a b,a<N->b<N->jn a b<N
 j1:∀a b,a<N->b<N->le a (jn a b)
 j2:∀a b,a<N->b<N->le b (jn a b)
 j3:∀a b c,a<N->b<N->c<N->le a c->le b c->le (jn a b) c
section
variable {N:Nat} {le:Nat->Nat->Prop} {jn:Nat->Nat->Nat} {bot:Nat}
def s8.fold_lt (L:s8 N le jn bot):∀(B:List Nat) (a:Nat),a<N->(∀x,x∈B->x<N)->B.foldl jn a<N:=by intro B;induction B with|nil=>intro a H _;exact H|cons x B l=>intro a H h;exact l (jn a x) (L.jl a x H (h x Zk)) λy b=>h y (Z5 _ b)
def s8.fold_ge (L:s8 N le jn bot):∀(B:List Nat) (a:Nat),a<N->(∀x,x∈B->x<N)->le a (B.foldl jn a)/\∀x,x∈B->le x (B.foldl jn a):=by intro B;induction B with|nil=>intro a H _;exact⟨L.refl a H,λx t=>by cases t⟩|cons x B l=>intro a H h;have t:=h x Zk;have s:=L.jl a x H t;have V:∀y,y∈B->y<N:=λy b=>h y (Z5 _ b);obtain⟨d,c⟩:=l (jn a x) s V;have e:=L.fold_lt B (jn a x) s V;refine⟨L.trans _ _ _ H s e (L.j1 a x H t) d,λy b=>?_⟩;rcases Vc.1 b with rfl|b;{exact L.trans _ _ _ t s e (L.j2 a y H t) d};exact c y b
def s8.fold_le (L:s8 N le jn bot):∀(B:List Nat) (a c:Nat),a<N->c<N->(∀x,x∈B->x<N/\le x c)->le a c->le (B.foldl jn a) c:=by intro B;induction B with|nil=>intro a c _ _ _ h;exact h|cons x B l=>intro a c H M h s;have t:=h x Zk;exact l (jn a x) c (L.jl a x H t.1) M (λy b=>h y (Z5 _ b)) (L.j3 a x c H t.1 M s t.2)
structure G9 (m:Fm)(N:Nat)(le:Nat->Nat->Prop)(f:Nat->Nat):Prop where
 lt:∀k,k<m.F.length->f k<N
 decl:∀k,k<m.F.length->0<=(A0 m k).lb->(f k:Int)=(A0 m k).lb
 up:∀k,k<m.F.length->(A0 m k).lb<0->∀j,j<m.F.length->MB m j k=Tt->le (f j) (f k)
def UC (m:Fm)(N:Nat)(le:Nat->Nat->Prop)(f:Nat->Nat):Prop:=∀g,G9 m N le g->∀k,k<m.F.length->le (f k) (g k)
def xQ (L:s8 N le jn bot){m f g}(T:G9 m N le f)(C:G9 m N le g)(I:UC m N le f)(t:UC m N le g):∀k,k<m.F.length->f k=g k :=
 λk a=>L.anti _ _ (T.lt k a) (C.lt k a) (I g C k a) (t f T k a)
def L9 (m:Fm)(bot k:Nat):Nat:=if (A0 m k).lb<0 then bot else (A0 m k).lb.toNat
def qhp (L:s8 N le jn bot){m}:UC m N le (L9 m bot):=by intro g hg k hk;unfold L9;split;{exact L.bot _ (hg.lt k hk)};rename_i h;have:=hg.decl k hk fK;rw[show(A0 m k).lb.toNat=g k by omega];exact L.refl _ (hg.lt k hk)
def Sf (L:s8 N le jn bot){m f}(T:UC m N le f)(e:∀k,k<m.F.length->f k<N){k}(b:k<m.F.length)(H:(A0 m k).lb<0)(a)(V:a<N)(u:∀g,G9 m N le g->le a (g k))(B:List Nat)(t:∀x,x∈B->∃j,j<m.F.length/\MB m j k=Tt/\x=f j):∀g,G9 m N le g->le (B.foldl jn a) (g k):=by intro g C;refine L.fold_le B a (g k) V (C.lt k b) (λx W=>?_) (u g C);obtain⟨j,s,O,rfl⟩:=t x W;exact⟨e j s,L.trans _ _ _ (e j s) (C.lt j s) (C.lt k b) (T g C j s) (C.up k b H j s O)⟩
