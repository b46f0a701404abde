import Derived.Test.YtcnjbclpncidnaaGreatDoorW02
set_option linter.all false
set_option maxRecDepth 100000
set_option maxHeartbeats 0
namespace Go.Proofs.YtcnjbclpncidnaaGreatDoor
open Value renaming string->St,bool->Bo
open Option renaming none->Nn,some->Sm
open Bool renaming true->Tt,false->Ff
section
open Go Go.Proofs.Tryz
def Q4 (s:Tb):Nat->Nat->Nat
 | _,0=>0
 | a,n+1=>if t5 a=s then a else Q4 s (a+1) n
def tG {s:Tb}:∀{n a:Nat},Q4 s a n≠0->a<=Q4 s a n/\Q4 s a n<a+n/\t5 (Q4 s a n:Nat)=s|0,_,h=>absurd rfl h|n+1,a,h=>by unfold Q4 at h|-;split at h;{rename_i e;rw[Y4 e];exact⟨nR _,dN,e⟩};rename_i e;rw[Ys e];have:=tG (n:=n) (a:=a+1) h;exact⟨dN,dN,this.2.2⟩
def A6 (o:Nat):Nx:=⟨o,jG,⟨#[]⟩⟩
def oL (s:Tb):Nx:=⟨1,jG,s⟩
def pL (s:Tb):Nx:=⟨0,⟨(rv s).1,(rv s).2.1,(rv s).2.2.1⟩,⟨#[]⟩⟩
def vA (s:Tb):Option Nx:=if E0 s=Tt then Sm (oL s) else if (rv s).2.2.2=Tt then Sm (pL s) else Nn
def A0:Lx Tb Nx where
 L s:=decide (s=⟨#[40]⟩)
 R s:=decide (s=⟨#[41]⟩)
 C s:=decide (s=⟨#[44]⟩)
 b s:=Q4 s 4 12
 u s:=Q4 s 2 2
 k:=vA
 g:=E0
 f s:=if E0 s=Tt then Q4 s 16 10 else 0
 lv o:=(N4 o).toNat
 ar o:=(ar o).toNat
 o:=A6
def tT {s}(h:E0 s=Ff)(Y:(rv s).2.2.2=Ff):vA s=Nn:=by unfold vA;rw[h,Y];rfl
def EQ {s}(h1:s≠⟨#[98,108,97,110,107]⟩)(i:s≠⟨#[116,114,117,101]⟩)(D:s≠⟨#[102,97,108,115,101]⟩)(d:∀c r,s.data.toList=c :: r->¬ ((c=45/\r≠[])\/(48<=c.toNat/\c.toNat<=57)\/c=34)):(rv s).2.2.2=Ff:=by cases q:(rv s).2.2.2 with|false=>rfl|true=>rcases LT q with h|h|h|⟨c,r,h,Y⟩;{exact absurd h h1};{exact absurd h i};{exact absurd h D};exact absurd Y (d c r h)
def qL:∀s∈([⟨#[40]⟩,⟨#[41]⟩,⟨#[44]⟩]++[2,3,4,5,6,7,8,9,10,11,12,13,14,15].map (λo:Int=>t5 o):List Tb),vA s=Nn:=by intro s J;have N:s∈([⟨#[40]⟩,⟨#[41]⟩,⟨#[44]⟩,⟨#[45]⟩,⟨#[110,111,116]⟩,⟨#[42]⟩,⟨#[47]⟩,⟨#[37]⟩,⟨#[43]⟩,⟨#[45]⟩,⟨#[38]⟩,⟨#[61]⟩,⟨#[60,62]⟩,⟨#[60]⟩,⟨#[60,61]⟩,⟨#[97,110,100]⟩,⟨#[111,114]⟩]:List Tb):=J;simp only[Zs,Om,or_false]at N;rcases N with h|h|h|h|h|h|h|h|h|h|h|h|h|h|h|h|h;all_goals subst h;refine tT (by first|decide|decide +kernel) (EQ dO dO dO λc r h=>?_);simp only[Oj]at h;obtain⟨rfl,rfl⟩:=h;decide
def Sa {s}(h:Q4 s 4 12≠0):vA s=Nn:=by obtain⟨j,i,D⟩:=tG h;generalize Q4 s 4 12=o at *;refine qL s ?_;rw[<- D];have:o=4\/o=5\/o=6\/o=7\/o=8\/o=9\/o=10\/o=11\/o=12\/o=13\/o=14\/o=15:=dN;rcases this with rfl|rfl|rfl|rfl|rfl|rfl|rfl|rfl|rfl|rfl|rfl|rfl <;> exact List.mem_append_right _ (Zo.2 ⟨_,dO,rfl⟩)
def u_k {s}(h:Q4 s 2 2≠0):vA s=Nn:=by obtain⟨j,i,D⟩:=tG h;generalize Q4 s 2 2=o at *;refine qL s ?_;rw[<- D];have:o=2\/o=3:=dN;rcases this with rfl|rfl <;> exact List.mem_append_right _ (Zo.2 ⟨_,dO,rfl⟩)
def DB:A0.Ok where
 LR t h:=by
  obtain rfl:t=⟨#[40]⟩:=Zj h;exact⟨dO,dO,dO,dO,qL ⟨#[40]⟩ (Ol _ dQ)⟩
 RC t h:=by
  obtain rfl:t=⟨#[41]⟩:=Zj h;exact⟨dO,dO,dO,qL ⟨#[41]⟩ (Ol _ dQ)⟩
 Cb t h:=by
  obtain rfl:t=⟨#[44]⟩:=Zj h;exact⟨dO,dO,qL ⟨#[44]⟩ (Ol _ dQ)⟩
 bk t h:=Sa h
 uk t h:=u_k h
 gk t h:=by
  show vA t≠Nn;unfold vA;rw[Y4 (show E0 t=Tt from h)];simp
 fg t h:=by
  cases q:E0 t with
  | true=>exact q
  | false=>exact absurd (by show(if E0 t=Tt then _ else 0)=0;rw[q];rfl) h
 lv t h:=by
  obtain⟨j,i,D⟩:=tG h;show 1<=(N4 (Q4 t 4 12:Nat)).toNat/\(N4 (Q4 t 4 12:Nat)).toNat<=5;generalize Q4 t 4 12=o at *;have:o=4\/o=5\/o=6\/o=7\/o=8\/o=9\/o=10\/o=11\/o=12\/o=13\/o=14\/o=15:=dN
  rcases this with rfl|rfl|rfl|rfl|rfl|rfl|rfl|rfl|rfl|rfl|rfl|rfl <;> decide
 ar t h:=by
  have H:E0 t=Tt:=by
   cases q:E0 t with
   | true=>rfl
   | false=>exact absurd (by show(if E0 t=Tt then _ else 0)=0;rw[q];rfl) h
  have Y:Q4 t 16 10≠0:=by
   have e:A0.f t=Q4 t 16 10:=by show(if E0 t=Tt then _ else 0)=_;rw[Y4 H]
   rw[<- e];exact h
  have e:A0.f t=Q4 t 16 10:=by show(if E0 t=Tt then _ else 0)=_;rw[Y4 H]
  rw[e];obtain⟨j,i,D⟩:=tG Y;show 1<=(Go.Proofs.YtcnjbclpncidnaaGreatDoor.ar (Q4 t 16 10:Nat)).toNat;generalize Q4 t 16 10=o at *;have:o=16\/o=17\/o=18\/o=19\/o=20\/o=21\/o=22\/o=23\/o=24\/o=25:=dN
  rcases this with rfl|rfl|rfl|rfl|rfl|rfl|rfl|rfl|rfl|rfl <;> decide
def bt (s:Tb)(i:Nat):Nat:=if h:i<s.size then (s[i]).toNat else 0
def IC {s i}(h:i<s.size):bt s i=(s[i]).toNat:=by unfold bt;rw[dif_pos h]
def GI {s i}(h:¬ i<s.size):bt s i=0:=by unfold bt;rw[dif_neg h]
def lF (c:Nat):Bool:=decide (c=32\/c=10)
def RG (c:Nat):Bool:=decide (c=40\/c=41\/c=44\/c=59\/c=43\/c=45\/c=42\/c=47\/c=37\/c=38\/c=61)
def l8 (s:Tb)(i:Nat):Nat :=
 if D9 (bt s i)=Tt then i+1+O6 I8 s (i+1)
 else if P7 (bt s i)=Tt then i+1+O6 P7 s (i+1)
 else if bt s i=34 then (if bt s (i+1+O6 tb s (i+1))=34 then i+1+O6 tb s (i+1)+1 else i)
 else if bt s i=60 then (if bt s (i+1)=62\/bt s (i+1)=61 then i+2 else i+1)
 else if RG (bt s i)=Tt then i+1 else i
def pD (t:Tb):Bool:=if D9 (bt t 0)=Tt then decide (t.size<=16) else if P7 (bt t 0)=Tt\/bt t 0=34 then (rv t).2.2.2 else Tt
def tk (s:Tb)(i:Nat):Option (Tb × Nat):=if l8 s i=i then Nn else if pD (s.extract i (l8 s i))=Tt then Sm (s.extract i (l8 s i),l8 s i) else Nn
def GB (s:Tb):Nat->Nat->List Tb->Nat ⊕ List Tb
 | 0,_,acc=>.inr acc
 | f+1,i,acc=>if s.size<=i then .inr acc else if lF (bt s i)=Tt then GB s f (i+1) acc else match tk s i with
  | none=>.inl i
  | some (t,e)=>GB s f e (acc++[t])
def KD (s:Tb)(i:Nat)(acc:List Tb):Prop:=∃f,s.size - i<=f/\GB s f i acc=GB s s.size 0 []
def KD.start (s):KD s 0 []:=⟨s.size,nR _,rfl⟩
def KD.done {s i V}(h:KD s i V)(hi:s.size<=i):GB s s.size 0 []=.inr V:=by obtain⟨f,-,h⟩:=h;rw[<- h];cases f with|zero=>rfl|succ f=>unfold GB;rw[Y4 hi]
def KD.skip {s i V}(h:KD s i V)(hi:i<s.size)(a:lF (bt s i)=Tt):KD s (i+1) V:=by obtain⟨f,N,h⟩:=h;obtain⟨f,rfl⟩:∃g,f=g+1:=⟨f - 1,dN⟩;refine⟨f,dN,?_⟩;rw[<- h];(conv=>rhs;unfold GB);rw[Ys dN,Y4 a]
def KD.next {s t i e V}(h:KD s i V)(hi:i<s.size)(a:lF (bt s i)=Ff)(M:tk s i=Sm (t,e))(b:i<e):KD s e (V++[t]):=by obtain⟨f,N,h⟩:=h;obtain⟨f,rfl⟩:∃g,f=g+1:=⟨f - 1,dN⟩;refine⟨f,dN,?_⟩;rw[<- h];(conv=>rhs;unfold GB);rw[Ys dN,Ys (by rw[a];decide),M]
def KD.bad {s i V}(h:KD s i V)(hi:i<s.size)(a:lF (bt s i)=Ff)(M:tk s i=Nn):GB s s.size 0 []=.inl i:=by obtain⟨f,N,h⟩:=h;obtain⟨f,rfl⟩:∃g,f=g+1:=⟨f - 1,dN⟩;rw[<- h];unfold GB;rw[Ys dN,Ys (by rw[a];decide),M]
def Ca {s i}(hi:i<s.size):i<=l8 s i/\l8 s i<=s.size:=by have a:=lI I8 s (i+1);have b:=lI P7 s (i+1);have c:=lI tb s (i+1);unfold l8;split;{omega};split;{omega};split;{split;{rename_i h;by_cases hq:i+1+O6 tb s (i+1)<s.size;{omega};rw[GI hq]at h;cases h};omega};split;{split;{rename_i h;by_cases hq:i+1<s.size;{omega};rw[GI hq]at h;omega};omega};split <;> omega
def Ba {s t i e}(hi:i<s.size)(h:tk s i=Sm (t,e)):i<e/\e<=s.size/\e=l8 s i/\t=s.extract i e/\pD t=Tt:=by unfold tk at h;have:=Ca hi;split at h;{cases h};split at h;{rename_i h1 h2;cases h;exact⟨dN,this.2,rfl,rfl,h2⟩};cases h
def cls (t:Tb):Nat:=if D9 (bt t 0)=Tt then 1 else if P7 (bt t 0)=Tt then 2 else if bt t 0=34 then 3 else 4
def A4 (t:Tb):Tb:=if cls t=3 then mid t else t
def yJ {s i e j}(b:e<=s.size)(y:i+j<e):bt (s.extract i e) j=bt s (i+j):=by have a:j<(s.extract i e).size:=(by simp;omega);rw[IC a,IC dN,ByteArray.getElem_extract]
def qm4 {c}(h:D9 c=Tt):I8 c=Tt:=by unfold I8;rw[h];rfl
def WL {p s i}(hi:i<s.size)(h:p (bt s i)=Tt):O6 p s i=1+O6 p s (i+1):=by unfold O6;rw[IC hi]at h;have e:s.data.toList.drop i=s[i] :: s.data.toList.drop (i+1):=Zt (l:=s.data.toList) (i:=i) (by rw[Ou];exact hi);rw[e,List.takeWhile_cons_of_pos fE,Yv];omega
def pN {a b:Tb}(h:a.data.toList=b.data.toList):a=b:=by cases a with|mk x=>cases b with|mk y=>have:x=y:=Array.toList_inj.1 h;rw[this]
def AA {t}(h:t.size=1){c}(v:bt t 0=c.toNat):t=⟨#[c]⟩:=by rw[IC dN]at v;refine pN (List.ext_getElem fE λj a i=>?_);have y:j=0:=(by simp at i;omega);subst y;exact DX
def qN {t}(h:t.size=2){c d}(v:bt t 0=c.toNat)(e:bt t 1=d.toNat):t=⟨#[c,d]⟩:=by rw[IC dN]at v e;refine pN (List.ext_getElem fE λj a i=>?_);have y:j=0\/j=1:=(by simp at i;omega);rcases y with rfl|rfl;{exact DX};simp only[Array.getElem_toList];exact UInt8.toNat_inj.1 e
def E7:List Tb:=[⟨#[40]⟩,⟨#[41]⟩,⟨#[44]⟩,⟨#[59]⟩,⟨#[43]⟩,⟨#[45]⟩,⟨#[42]⟩,⟨#[47]⟩,⟨#[37]⟩,⟨#[38]⟩,⟨#[61]⟩,⟨#[60]⟩,⟨#[60,62]⟩,⟨#[60,61]⟩]
structure VT (t:Tb):Prop where
 ne:0<t.size
 c1:cls t=1->t.size<=16
 c2:cls t=2->(rv t).2.2.2=Tt
 c3:cls t=3->(rv t).2.2.2=Tt
 c4:cls t=4->t∈E7
def Lh {s t i e}(hi:i<s.size)(h:tk s i=Sm (t,e)):VT t:=by obtain⟨h1,h2,h3,rfl,h5⟩:=Ba hi h;have hb:bt (s.extract i e) 0=bt s i:=yJ h2 dN;have hz:(s.extract i e).size=e - i:=(by simp;omega);refine⟨dN,λhc=>?_,λhc=>?_,λhc=>?_,λhc=>?_⟩;{unfold cls at hc;split at hc;{rename_i hq;unfold pD at h5;rw[Y4 hq]at h5;exact Zj h5};split at hc;{omega};split at hc <;> omega};{unfold cls at hc;split at hc;{omega};rename_i hq;split at hc;{rename_i hd;unfold pD at h5;rw[Ys hq,Y4 (.inl hd)]at h5;exact h5};split at hc <;> omega};{unfold cls at hc;split at hc;{omega};rename_i hq;split at hc;{omega};split at hc;{rename_i hd;unfold pD at h5;rw[Ys hq,Y4 (.inr hd)]at h5;exact h5};omega};unfold cls at hc;split at hc;{omega};rename_i hq;split at hc;{omega};rename_i hd;split at hc;{omega};rename_i h34;rw[hb]at hq hd h34;unfold l8 at h3;rw[Ys hq,Ys hd,Ys h34]at h3;split at h3;{rename_i h60;split at h3;{rename_i hn;have hz2:(s.extract i e).size=2:=dN;have hb1:bt (s.extract i e) 1=bt s (i+1):=yJ h2 dN;rcases hn with hn|hn;{rw[qN hz2 (c:=60) (d:=62) (by rw[hb,h60];rfl) (by rw[hb1,hn];rfl)];simp[E7]};rw[qN hz2 (c:=60) (d:=61) (by rw[hb,h60];rfl) (by rw[hb1,hn];rfl)];simp[E7]};rw[AA (t:=s.extract i e) dN (c:=60) (by rw[hb,h60];rfl)];simp[E7]};split at h3;{rename_i hs;have hz1:(s.extract i e).size=1:=dN;have hs':=Zj hs;rcases hs' with h|h|h|h|h|h|h|h|h|h|h;{rw[AA hz1 (c:=40) eI];simp[E7]};{rw[AA hz1 (c:=41) eI];simp[E7]};{rw[AA hz1 (c:=44) eI];simp[E7]};{rw[AA hz1 (c:=59) eI];simp[E7]};{rw[AA hz1 (c:=43) eI];simp[E7]};{rw[AA hz1 (c:=45) eI];simp[E7]};{rw[AA hz1 (c:=42) eI];simp[E7]};{rw[AA hz1 (c:=47) eI];simp[E7]};{rw[AA hz1 (c:=37) eI];simp[E7]};{rw[AA hz1 (c:=38) eI];simp[E7]};rw[AA hz1 (c:=61) eI];simp[E7]};omega
def PE {t}(h:cls t≠3):A4 t=t:=by unfold A4;rw[Ys h]
def qt1 {t w}(f:cls w=4):(cls t=4/\A4 t=w) ↔ t=w:=by exact UZ
def qnb {t w}(f:cls w=1):(cls t=1/\A4 t=w) ↔ t=w:=by exact UZ
def RL {t}(h:E0 t=Tt):cls t=1:=by unfold E0 at h;simp only[Yy,Yw]at h;have I:bt t 0=(t.data.getD 0 0).toNat:=(by rw[IC dN];have e:0<t.data.size:=(by have:=h.1.1.1.1;exact this);have V:0<t.size:=e;simp only[Array.getD,e,dif_pos];rfl);unfold cls;rw[I,Y4 h.1.1.2]
def qj0 {t}:(cls t=1/\E0 (A4 t)=Tt) ↔ E0 t=Tt:=by constructor;{rintro⟨j,i⟩;rw[PE dN]at i;exact i};intro h;have:=RL h;exact⟨this,by rw[PE dN];exact h⟩
def PM {t c r}(h:t.data.toList=c :: r):bt t 0=c.toNat:=by have a:0<t.size:=(by have:=congrArg List.length h;rw[Ou,Yv]at this;show 0<t.data.size;omega);rw[IC a];have:t.data.toList[0]? = Sm c:=(by rw[h];rfl);rw[Oe]at this;obtain⟨j,i⟩:=this;rw[<- i];simp;rfl
def SU {t}(h:cls t=2)(hr:(rv t).2.2.2=Tt):∃n,AB t.data.toList=Sm n/\rv t=(1,n,⟨#[]⟩,Tt):=by have hd:∀c r,t.data.toList=c :: r->48<=c.toNat/\c.toNat<=57:=λc r e=>(by have:=PM e;unfold cls at h;split at h;{omega};split at h;{rename_i hq;rw[this]at hq;exact Zj hq};split at h <;> omega);have n1:t≠⟨#[98,108,97,110,107]⟩:=λe=>(by subst e;exact absurd (hd 98 _ rfl) dO);have n2:t≠⟨#[116,114,117,101]⟩:=λe=>(by subst e;exact absurd (hd 116 _ rfl) dO);have n3:t≠⟨#[102,97,108,115,101]⟩:=λe=>(by subst e;exact absurd (hd 102 _ rfl) dO);unfold rv at hr|-;rw[Ys n1,Ys n2,Ys n3]at hr|-;split at hr;{rename_i n hn;exact⟨n,hn,rfl⟩};split at hr;{rename_i hq;have:=congrArg (λx:Tb=>x.data.toList) hq.2.2;simp only[Vj,O9]at this;have h9:=hd 34 _ this.symm;exact absurd h9 dO};cases hr
def VP {t}(h:cls t=3)(hr:(rv t).2.2.2=Tt):rv t=(3,0,mid t,Tt)/\BA (mid t)=Tt:=by have hd:bt t 0=34:=(by unfold cls at h;split at h;{omega};split at h;{omega};split at h;{assumption};omega);have hd':∀c r,t.data.toList=c :: r->c.toNat=34:=λc r e=>(by rw[<- PM e];exact hd);have n1:t≠⟨#[98,108,97,110,107]⟩:=λe=>(by subst e;exact absurd (hd' 98 _ rfl) dO);have n2:t≠⟨#[116,114,117,101]⟩:=λe=>(by subst e;exact absurd (hd' 116 _ rfl) dO);have n3:t≠⟨#[102,97,108,115,101]⟩:=λe=>(by subst e;exact absurd (hd' 102 _ rfl) dO);unfold rv at hr|-;rw[Ys n1,Ys n2,Ys n3]at hr|-;split at hr;{rename_i n hn;obtain⟨c,r,e,hc⟩:=RW hn;have:=hd' c r e;rcases hc with ⟨rfl,-⟩|hc;{exact absurd this dO};omega};rename_i hn;split at hr;{rename_i hq;exact⟨Y4 hq,hq.2.1⟩};cases hr
def PC (x:Tb)(l:Int):Nat->Nat->Nat
 | _,0=>0
 | a,n+1=>if N4 a=l/\t5 a=x then a else PC x l (a+1) n
def OZ {x:Tb}{l:Int}:∀{n a:Nat},PC x l a n≠0->a<=PC x l a n/\PC x l a n<a+n/\N4 (PC x l a n:Nat)=l/\t5 (PC x l a n:Nat)=x|0,_,h=>absurd rfl h|n+1,a,h=>by unfold PC at h|-;split at h;{rename_i e;rw[Y4 e];exact⟨nR _,dN,e.1,e.2⟩};rename_i e;rw[Ys e];have:=OZ (n:=n) (a:=a+1) h;exact⟨dN,dN,this.2.2⟩
def oU {x:Tb}{l:Int}:∀{n a o:Nat},0<a->a<=o->o<a+n->N4 o=l->t5 o=x->PC x l a n≠0|0,a,o,_,h1,h2,_,_=>dN|n+1,a,o,h0,h1,h2,h3,h4=>by unfold PC;split;{omega};rename_i e;by_cases hq:a=o;{subst hq;exact absurd ⟨h3,h4⟩ e};exact oU dN dN dN h3 h4
def pU {x:Tb}:∀{n a o:Nat},0<a->a<=o->o<a+n->t5 o=x->Q4 x a n≠0|0,a,o,_,h1,h2,_=>dN|n+1,a,o,h0,h1,h2,h4=>by unfold Q4;split;{omega};rename_i e;by_cases hq:a=o;{subst hq;exact absurd h4 e};exact pU dN dN dN h4
def qts {a b}(w:4<=a)(A:a<=15)(d:4<=b)(W:b<=15)(h:t5 (a:Nat)=t5 (b:Nat)):a=b:=by have c:∀i:Fin 12,∀j:Fin 12,t5 ((i.val+4:Nat):Int)=t5 ((j.val+4:Nat):Int)->i=j:=dO;have:=c ⟨a - 4,dN⟩ ⟨b - 4,dN⟩ (by show t5 ((a - 4+4:Nat):Int)=t5 ((b - 4+4:Nat):Int);rw[show a - 4+4=a by omega,show b - 4+4=b by omega];exact h);have:=congrArg Fin.val this;simp only at this;omega
def Mh (t)(l:Nat):(if cls t=4\/cls t=1 then PC (A4 t) l 4 12 else 0)=if A0.b t≠0/\A0.lv (A0.b t)=l then A0.b t else 0:=by show _=if Q4 t 4 12≠0/\(N4 (Q4 t 4 12:Nat)).toNat=l then Q4 t 4 12 else 0;have I:∀o:Nat,0<=N4 o:=λo=>(by unfold N4;repeat (first|omega|split));by_cases v:cls t=4\/cls t=1;{rw[Y4 v,PE dN];by_cases E:PC t l 4 12=0;{rw[E,Ys];rintro⟨j,i⟩;obtain⟨k,r,G⟩:=tG j;exact oU dN k r (Fq (I (Q4 t 4 12))) G E};obtain⟨k,r,G,p⟩:=OZ E;have f:=pU (n:=12) (a:=4) dN k r p;obtain⟨q,C,U⟩:=tG f;have e:=qts q dN k dN (U.trans p.symm);rw[e,Y4 ⟨E,dN⟩]};rw[Ys v,Ys];rintro⟨j,-⟩;obtain⟨k,r,G⟩:=tG j;generalize Q4 t 4 12=o at *;have:o=4\/o=5\/o=6\/o=7\/o=8\/o=9\/o=10\/o=11\/o=12\/o=13\/o=14\/o=15:=dN;apply v;rw[<- G];rcases this with rfl|rfl|rfl|rfl|rfl|rfl|rfl|rfl|rfl|rfl|rfl|rfl <;> decide
def ZF (t:Tb):Bool:=decide (cls t=2)||decide (cls t=3)||decide (t=⟨#[41]⟩)||(E0 t||decide (t=⟨#[116,114,117,101]⟩)||decide (t=⟨#[102,97,108,115,101]⟩)||decide (t=⟨#[98,108,97,110,107]⟩))
def oP {t}(h:E0 t=Tt\/(rv t).2.2.2=Tt):(vA t).isSome=Tt:=by unfold vA;split;{rfl};rename_i hg;rw[Y4 (h.resolve_left hg)];rfl
def gg {p:Prop}(h:p:=by exact .inr (oP (.inr (by rw[h];decide)))):p:=h
def zV {t}(ht:VT t):A0.eo t=ZF t:=by
 rw[Zv];unfold Lx.eo ZF;simp only[Vi,Yw];constructor
 . rintro (h|h)
   . exact .inl (.inr (Zj h))
   . have hk:E0 t=Tt\/(rv t).2.2.2=Tt:=by
      change (vA t).isSome=Tt at h
      unfold vA at h;split at h
      . rename_i hg;exact .inl hg
      . split at h
        . rename_i hr;exact .inr hr
        . cases h
     rcases hk with h|h
     . exact .inr (.inl (.inl (.inl h)))
     . rcases LT h with h|h|h|⟨c,r,e,hc⟩
       . exact .inr (.inr h)
       . exact .inr (.inl (.inl (.inr h)))
       . exact .inr (.inl (.inr h))
       . have hb:=PM e
         rcases hc with ⟨rfl,hr⟩|hc|rfl
         . have h4:cls t=4:=by unfold cls;rw[hb];decide
           have:=ht.c4 h4;unfold E7 at this;simp only[Zs,Om,or_false]at this;rcases this with h|h|h|h|h|h|h|h|h|h|h|h|h|h <;>
            . subst h
              simp only[Oj]at e
              first|exact absurd e.1 dO|exact absurd e.2.symm hr
         . left;left;left
           unfold cls;rw[hb];rw[Ys (by unfold D9;simp;omega),Y4 (by unfold P7;simp;omega)]
         . left;left;right
           unfold cls;rw[hb]
           decide
 . rintro (((h|h)|h)|(((h|h)|h)|h))
   . exact .inr (oP (.inr (ht.c2 h)))
   . exact .inr (oP (.inr (ht.c3 h)))
   . exact .inl (Yr h)
   . exact .inr (oP (.inl h))
   . exact gg
   . exact gg
   . exact gg
end
section
open Go Go.RowKit Go.Proofs.Tryz
def ge {p:Prop}(h:p:=by go_wp2;go_ret;exact⟨xD (by rw[CM dN Y.u (λh=>absurd h R)]),rfl⟩):p:=h
def sW (s:Tb)(i w)(J:GJ s.size)(hi:i<=s.size):GZ 101 #[St s,Yj i] w λe a=>e=.returned (Yj (O6 P7 s i))/\a=w:=by go_enter func101,ntmps101;go_wp2;go_loopw [5] (λn wr=>∃k:Nat,i+k<=s.size/\n=Yj k/\(∀j (y:i+j<s.size),j<k->P7 (s[i+j]).toNat=Tt)/\wr=w) (λn _=>s.size - (intOf n).toNat);exact⟨0,dN,rfl,λj _ y=>absurd y (nL _),rfl⟩;obtain⟨k,n,rfl,W,rfl⟩:=hrel;have Y:=h_ W;clear W;have z:wrap64 ((i:Int)+(k:Int))=((i+k:Nat):Int):=(by exact uK);by_cases R:i+k<s.size;{have L:((i:Int)+k)<s.size:=dN;cases M:P7 (s[i+k]).toNat;{go_wp2_with (go_at_call 100;refine(PA _ _).mono ?_;rintro e a ⟨rfl,rfl⟩;rw[M]);go_ret;exact⟨xD (by rw[CM dN Y.u (λ_=>M)]),rfl⟩};go_wp2_with (go_at_call 100;refine(PA _ _).mono ?_;rintro e a ⟨rfl,rfl⟩;rw[M]);go_roundw;exact⟨k+1,dN,dR,λj y F=>by by_cases e:j=k;{subst e;exact M};exact Y j y dN,trivial⟩;exact kq};have L:¬ ((i:Int)+k)<s.size:=dN;exact ge
def TN (s:Tb)(i w)(J:GJ s.size)(hi:i<=s.size):GZ 103 #[St s,Yj i] w λe a=>e=.returned (Yj (O6 tb s i))/\a=w:=by go_enter func103,ntmps103;go_wp2;go_loopw [5] (λn wr=>∃k:Nat,i+k<=s.size/\n=Yj k/\(∀j (y:i+j<s.size),j<k->tb (s[i+j]).toNat=Tt)/\wr=w) (λn _=>s.size - (intOf n).toNat);exact⟨0,dN,rfl,λj _ y=>absurd y (nL _),rfl⟩;obtain⟨k,n,rfl,W,rfl⟩:=hrel;have Y:=h_ W;clear W;have z:wrap64 ((i:Int)+(k:Int))=((i+k:Nat):Int):=(by exact uK);by_cases R:i+k<s.size;{have L:((i:Int)+k)<s.size:=dN;cases M:tb (s[i+k]).toNat;{go_wp2_with (go_at_call 136;refine(TI _ _).mono ?_;rintro e a ⟨rfl,rfl⟩;rw[M]);go_ret;exact⟨xD (by rw[CM dN Y.u (λ_=>M)]),rfl⟩};go_wp2_with (go_at_call 136;refine(TI _ _).mono ?_;rintro e a ⟨rfl,rfl⟩;rw[M]);go_roundw;exact⟨k+1,dN,dR,λj y F=>by by_cases e:j=k;{subst e;exact M};exact Y j y dN,trivial⟩;exact kq};have L:¬ ((i:Int)+k)<s.size:=dN;exact ge
def wL:List (List UInt8):=[[40],[41],[44],[59],[43],[45],[42],[47],[37],[38],[61],[60],[60,62],[60,61]]
def YB (s:Tb):Bool:=E7.any λy=>decide (y=s)
def nP (x):YB x=Tt ↔ x∈E7:=by unfold YB;rw[List.any_eq_true];exact⟨λ⟨y,n,e⟩=>by rw[<- Zj e];exact n,λh=>⟨x,h,Yr rfl⟩⟩
def nU:E7=wL.map λx=>⟨x.toArray⟩:=rfl
def AL (s w):GZ 104 #[St s] w λe k=>e=.returned (Bo (YB s))/\k=w:=by by_cases h:∃x,x∈wL/\(s.toList==x)=Tt;{obtain⟨x,r,b⟩:=h;have J:=QR b;clear b;subst J;rw[(nP _).2 (show(⟨x.toArray⟩:Tb)∈E7 by rw[nU];exact Zo.2 ⟨x,r,rfl⟩)];unfold wL at r;simp only[Zs,Om,or_false]at r;rcases r with rfl|rfl|rfl|rfl|rfl|rfl|rfl|rfl|rfl|rfl|rfl|rfl|rfl|rfl;all_goals go_enter func104,ntmps104;go_wp2;go_ret;exact kw};have G:∀x,x∈wL->(s.toList==x)=Ff:=λx r=>(by cases e:(s.toList==x);{rfl};exact absurd ⟨x,r,e⟩ h);rw[show YB s=Ff by rw[Bool.eq_false_iff,Ne,nP,nU];intro a;obtain⟨x,r,e⟩:=Zo.1 a;have:=G x r;rw[<- e,Zu]at this;simp at this];clear h;unfold wL at G;simp only[List.forall_mem_cons,Om,false_imp_iff,implies_true,and_true]at G;obtain⟨j,i,a,d,Q,b,T,O,x,J,c,D,k,l⟩:=G;go_enter func104,ntmps104;go_wp2;go_ret;exact kw
end
section
open Go Go.Proofs.Tryz
def ZK {t c}(h:bt t 0=c):(D9 c=Tt->cls t=1)/\(P7 c=Tt->D9 c=Ff->cls t=2)/\(c=34->cls t=3)/\(D9 c=Ff->P7 c=Ff->c≠34->cls t=4):=by unfold cls;rw[h];refine⟨λa=>by rw[Y4 a],λa b=>by rw[b,Ys dO,Y4 a],λa=>by subst a;decide,λa b d=>by rw[a,b,Ys dO,Ys dO,Ys d]⟩
def Ag {c}(h:P7 c=Tt):D9 c=Ff:=by unfold P7 at h;unfold D9;simp only[Yw]at h;simp;omega
def zJ {s i e}(b:e<=s.size)(hi:i<e):bt (s.extract i e) 0=bt s i:=yJ b dN
def qta {s i n}(hi:i<s.size)(h:D9 (bt s i)=Tt)(G:O6 I8 s i=n):1<=n/\i+n<=s.size/\cls (s.extract i (i+n))=1/\tk s i=(if n<=16 then Sm (s.extract i (i+n),i+n) else Nn):=by have j:=WL hi (qm4 h);have d:=lI I8 s i;have c:bt (s.extract i (i+n)) 0=bt s i:=zJ dN dN;refine⟨dN,dN,(ZK c).1 h,?_⟩;have M:l8 s i=i+n:=(by unfold l8;rw[Y4 h];omega);have b:(s.extract i (i+n)).size=n:=(by simp;omega);unfold tk;rw[M,Ys dN];unfold pD;rw[c,Y4 h,b];by_cases a:n<=16;{rw[Y4 a,Y4 (Yr a)]};rw[Ys a,Ys (by simpa using a)]
def Kh {t}(h:cls t=2):(rv t).2.2.2=(AB t.data.toList).isSome:=by rw[Zv];constructor;{intro E;obtain⟨n,G,-⟩:=SU h E;rw[G];rfl};intro E;unfold rv;split;{rfl};split;{rfl};split;{rfl};cases s:AB t.data.toList with|none=>rw[s]at E;cases E|some n=>rfl
def AZ {t}(h:cls t=2\/cls t=3):pD t=(rv t).2.2.2:=by unfold pD;unfold cls at h;split;{rename_i hq;rw[Y4 hq]at h;omega};rename_i hq;rw[Ys hq]at h;split;{rfl};rename_i hd;rw[Ys (λe=>hd (.inl e)),Ys (λe=>hd (.inr e))]at h;omega
def Bg {s i n}(hi:i<s.size)(h:P7 (bt s i)=Tt)(G:O6 P7 s i=n):1<=n/\i+n<=s.size/\cls (s.extract i (i+n))=2/\tk s i=(if (AB (s.extract i (i+n)).data.toList).isSome=Tt then Sm (s.extract i (i+n),i+n) else Nn):=by have j:=WL hi h;have a:=lI P7 s i;have J:=Ag h;have c:bt (s.extract i (i+n)) 0=bt s i:=zJ dN dN;have v:=(ZK c).2.1 h J;refine⟨dN,dN,v,?_⟩;have M:l8 s i=i+n:=(by unfold l8;rw[J,Ys dO,Y4 h];omega);unfold tk;rw[M,Ys dN];rw[AZ (.inl v),Kh v]
def QO (s:Tb)(i j):(s.extract i j).data.toList=(s.data.toList.take j).drop i:=by rw[ByteArray.data_extract,Array.toList_extract];simp[List.extract,List.drop_take]
def qqt {s:Tb}{i n}(h:i+1+n<s.size):mid (s.extract i (i+n+2))=s.extract (i+1) (i+1+n):=by have a:(s.extract i (i+n+2)).size=n+2:=(by simp;omega);unfold mid;rw[a];refine pN ?_;rw[QO,QO,QO,show n+2 - 1=n+1 by omega,List.drop_take,List.drop_take,List.drop_take,List.take_take,List.drop_take,Gq];congr 1;omega
def Aw (l:List UInt8){n}(P:l.length=n)(i:2<=n)(W:l[0]? = Sm 34)(q:l[n - 1]? = Sm 34):[34]++(l.take (n - 1)).drop 1++[34]=l:=by have g:l=l.take (n - 1)++[34]:=(by have:=Yx (show n - 1<l.length by omega);rw[show n - 1+1=l.length by omega,Z7,(Oe.1 q).2]at this;exact this);have c:l.take (n - 1)=34 :: (l.take (n - 1)).drop 1:=(by have R:0<(l.take (n - 1)).length:=(by rw[Zd];omega);have:=Zt R;rw[Od,Vz,(Oe.1 W).2]at this;exact this);generalize l.take (n - 1)=m at *;rw[g];(conv=>rhs;rw[c]);simp
def qfv {t}(i:2<=t.size)(I:bt t 0=34)(h1:bt t (t.size - 1)=34):⟨#[34]⟩++mid t++⟨#[34]⟩=t:=by refine pN ?_;rw[Vj,Vj,O9,O9];unfold mid;rw[QO];rw[IC dN]at I h1;have P:t.data.toList.length=t.size:=dQ;have W:t.data.toList[0]? = Sm 34:=(by rw[Yu dN];exact congrArg Sm (UInt8.toNat_inj.1 I));have q:t.data.toList[t.size - 1]? = Sm 34:=(by rw[Yu dN];exact congrArg Sm (UInt8.toNat_inj.1 h1));exact Aw _ P i W q
def qg4 {p s i j}(h:j<O6 p s i):p (bt s (i+j))=Tt:=by have P:=lI p s i;have R:i+j<s.size:=dN;unfold O6 at h;have Q:=Yt (l:=(s.data.toList.drop i).takeWhile λc=>p c.toNat) h;have:=List.all_takeWhile (p:=λc:UInt8=>p c.toNat) (l:=s.data.toList.drop i);rw[Zm]at this;have a:=this _ Q;rw[IC R];have e:((s.data.toList.drop i).takeWhile λc=>p c.toNat)[j]=s[i+j]:=(by rw[(List.takeWhile_prefix _).getElem h,Ot];rfl);rw[e]at a;exact a
def Cg {s i n}(h:bt s i=34)(G:O6 tb s (i+1)=n):(¬ (i+1+n<s.size/\bt s (i+1+n)=34/\n<=1000)->tk s i=Nn)/\(i+1+n<s.size->bt s (i+1+n)=34->n<=1000->tk s i=Sm (s.extract i (i+n+2),i+n+2)/\cls (s.extract i (i+n+2))=3/\A4 (s.extract i (i+n+2))=s.extract (i+1) (i+1+n)):=by have O:D9 (bt s i)=Ff:=(by rw[h];decide);have X:P7 (bt s i)=Ff:=(by rw[h];decide);have M:l8 s i=if bt s (i+1+n)=34 then i+n+2 else i:=(by unfold l8;rw[O,X,Ys dO,Ys dO,Y4 h,G];split <;> omega);by_cases a:bt s (i+1+n)=34;{rw[Y4 a]at M;have R:i+1+n<s.size:=Classical.byContradiction λv=>(by rw[GI v]at a;cases a);have c:bt (s.extract i (i+n+2)) 0=bt s i:=zJ dN dN;have w:bt (s.extract i (i+n+2)) (n+1)=bt s (i+(n+1)):=yJ dN dN;have Q:=qqt R;have d:(s.extract i (i+n+2)).size=n+2:=(by simp;omega);have v:cls (s.extract i (i+n+2))=3:=(ZK c).2.2.1 h;have A:∀b,b<n->tb (bt (s.extract (i+1) (i+1+n)) b)=Tt:=λb y=>(by rw[yJ dN dN];exact qg4 (p:=tb) (s:=s) (i:=i+1) (j:=b) dN);have e:(s.extract (i+1) (i+1+n)).size=n:=(by simp;omega);have B:A4 (s.extract i (i+n+2))=s.extract (i+1) (i+1+n):=(by unfold A4;rw[Y4 v,Q]);have S:tk s i=if pD (s.extract i (i+n+2))=Tt then Sm (s.extract i (i+n+2),i+n+2) else Nn:=(by unfold tk;rw[M,Ys dN]);rw[AZ (.inr v)]at S;rw[show i+(n+1)=i+1+n by omega,a]at w;rw[h]at c;generalize s.extract (i+1) (i+1+n)=g at *;generalize s.extract i (i+n+2)=t at *;have U:n<=1000->(rv t).2.2.2=Tt:=λP=>(by have f:BA (mid t)=Tt:=(by rw[Q];refine rY dN λb y=>?_;have:=A b dN;rw[IC y]at this;exact this);have T:=qfv dN c (by rw[d];exact w);unfold rv;split;{rfl};split;{rfl};split;{rfl};split;{rfl};rw[Y4 ⟨dN,f,T⟩]);refine⟨λb=>?_,λ_ _ P=>⟨by rw[S,Y4 (U P)],v,B⟩⟩;rw[S,Ys];intro E;have f:=(qK.1 (VP v E).2).1;rw[Q,e]at f;exact b ⟨R,a,f⟩};rw[Ys a]at M;refine⟨λ_=>by unfold tk;rw[M,Y4 rfl],λ_ b=>absurd b a⟩
def qt4 {t}(h:t.size=2):YB t=Tt ↔ bt t 0=60/\(bt t 1=62\/bt t 1=61):=by rw[nP];constructor;{intro Q;unfold E7 at Q;simp only[Zs,Om,or_false]at Q;rcases Q with e|e|e|e|e|e|e|e|e|e|e|e|e|e <;> subst e;all_goals first|exact absurd h dO|decide};rintro⟨I,j|j⟩;{rw[qN h (c:=60) (d:=62) I j];simp[E7]};rw[qN h (c:=60) (d:=61) I j];simp[E7]
def qt2 {t}(h:t.size=1):YB t=Tt ↔ RG (bt t 0)=Tt\/bt t 0=60:=by rw[nP];constructor;{intro Q;unfold E7 at Q;simp only[Zs,Om,or_false]at Q;rcases Q with e|e|e|e|e|e|e|e|e|e|e|e|e|e <;> subst e;all_goals first|exact absurd h dO|decide};rintro (I|I);{have J:=Zj I;rcases J with e|e|e|e|e|e|e|e|e|e|e;{rw[AA h (c:=40) e];simp[E7]};{rw[AA h (c:=41) e];simp[E7]};{rw[AA h (c:=44) e];simp[E7]};{rw[AA h (c:=59) e];simp[E7]};{rw[AA h (c:=43) e];simp[E7]};{rw[AA h (c:=45) e];simp[E7]};{rw[AA h (c:=42) e];simp[E7]};{rw[AA h (c:=47) e];simp[E7]};{rw[AA h (c:=37) e];simp[E7]};{rw[AA h (c:=38) e];simp[E7]};rw[AA h (c:=61) e];simp[E7]};rw[AA h (c:=60) I];simp[E7]
def PY {t}(h:cls t=4):pD t=Tt:=by unfold pD;unfold cls at h;split;{rename_i hq;rw[Y4 hq]at h;omega};rename_i hq;rw[Ys hq]at h;split;{rename_i hd;rcases hd with hd|hd;{rw[Y4 hd]at h;omega};rw[hd]at h;exact absurd h dO};rfl
def Dg {s i}(hi:i<s.size)(h1:D9 (bt s i)=Ff)(b:P7 (bt s i)=Ff)(D:bt s i≠34):(i+2<=s.size->YB (s.extract i (i+2))=Tt->tk s i=Sm (s.extract i (i+2),i+2)/\cls (s.extract i (i+2))=4) /\ (¬ (i+2<=s.size/\YB (s.extract i (i+2))=Tt)->YB (s.extract i (i+1))=Tt->tk s i=Sm (s.extract i (i+1),i+1)/\cls (s.extract i (i+1))=4) /\ (¬ (i+2<=s.size/\YB (s.extract i (i+2))=Tt)->YB (s.extract i (i+1))=Ff->tk s i=Nn):=by have A:(s.extract i (i+1)).size=1:=(by simp;omega);have w:bt (s.extract i (i+1)) 0=bt s i:=zJ dN dN;have K:cls (s.extract i (i+1))=4:=(ZK w).2.2.2 h1 b D;have M:l8 s i=if bt s i=60 then (if bt s (i+1)=62\/bt s (i+1)=61 then i+2 else i+1) else if RG (bt s i)=Tt then i+1 else i:=(by unfold l8;rw[h1,b,Ys dO,Ys dO,Ys D]);have LB:i+2<=s.size->(YB (s.extract i (i+2))=Tt ↔ bt s i=60/\(bt s (i+1)=62\/bt s (i+1)=61)):=λa=>(by rw[qt4 dS,zJ a dN,yJ a dN]);have S:YB (s.extract i (i+1))=Tt ↔ RG (bt s i)=Tt\/bt s i=60:=(by rw[qt2 A,w]);have C:¬ (i+2<=s.size/\YB (s.extract i (i+2))=Tt)->¬ (bt s i=60/\(bt s (i+1)=62\/bt s (i+1)=61)):=λG a=>(by have R:i+1<s.size:=Classical.byContradiction λv=>(by rw[GI v]at a;omega);exact G ⟨dN,(LB dN).2 a⟩);refine⟨λa J=>?_,λG J=>?_,λG J=>?_⟩;{obtain⟨q,T⟩:=(LB a).1 J;have e:bt (s.extract i (i+2)) 0=bt s i:=zJ a dN;have c:=(ZK e).2.2.2 h1 b D;rw[Y4 q,Y4 T]at M;exact⟨by unfold tk;rw[M,Ys dN,Y4 (PY c)],c⟩};{have Q:=C G;have e:l8 s i=i+1:=(by rw[M];by_cases g:bt s i=60;{rw[Y4 g,Ys (λh=>Q ⟨g,h⟩)]};rw[Ys g,Y4 ((S.1 J).resolve_right g)]);exact⟨by unfold tk;rw[e,Ys dN,Y4 (PY K)],K⟩};have Q:¬ (RG (bt s i)=Tt\/bt s i=60):=λh=>(by rw[S.2 h]at J;cases J);have e:l8 s i=i:=(by rw[M,Ys (λh=>Q (.inr h)),Ys (λh=>Q (.inl h))]);unfold tk;rw[e,Y4 rfl]
end
section
open Go Go.RowKit Go.Proofs.Tryz
def AD (a b:Tb):(a.toList==b.toList)=decide (a=b):=by exact Hq
def tV (t:Tb)(p:Int):Value:=.agg #[.int .i64 (cls t:Nat),St (A4 t),.int .i64 p]
def xF (w:Tw)(b o:Nat)(t:Tb)(p:Int):Prop:=b<w.1.size/\w.cell? (Aq b o)=Sm (.int .i64 (cls t:Nat))/\w.cell? (Aq b (o+1))=Sm (St (A4 t))/\w.cell? (Aq b (o+2))=Sm (.int .i64 p)
def xF.mono {w w' b o t p}(h:xF w b o t p)(c:Bw w w'):xF w' b o t p :=
 ⟨Zc h.1 c.size,(c.cell h.1).trans h.2.1,(c.cell h.1).trans h.2.2.1,(c.cell h.1).trans h.2.2.2⟩
def E8 (w:Tw)(a:To)(l:List Tb):Prop:=∀k (h:k<l.length),∃b o p,a=Sm (Aq b o)/\xF w b (o+k*3) l[k] p
def E8.mono {w w' a l}(h:E8 w a l)(c:Bw w w'):E8 w' a l:=λk n=>by obtain⟨b,o,p,e,v⟩:=h k n;exact⟨b,o,p,e,v.mono c⟩
def gb {p:Prop}(h:p:=by go_wp2;exact Kv):p:=h
def Bp (c p x s w):Gv 41 #[.agg (Jv c x p),St s] w (Bo (decide (c=4/\x=s))):=by have h:=h_ ((bR w.1.size w).alloc (nR _) (.cells (Jv c x p) 79));have b:=AD x s;by_cases j:c=4;{have N:(c==4)=Tt:=(by simp[j]);by_cases i:x=s;{rw[Yr i]at b;rw[Yr ⟨j,i⟩];clear j i;go_enter func41,ntmps41;exact gb};rw[Yo i]at b;rw[Yo (λa=>i a.2)];clear j i;go_enter func41,ntmps41;exact gb};have N:(c==4)=Ff:=Yp.2 j;rw[Yo (λa=>j a.1)];clear j;go_enter func41,ntmps41;exact gb
def Xu (c p x s w):Gv 105 #[.agg (Jv c x p),St s] w (Bo (decide (c=1/\x=s))):=by have h:=h_ ((bR w.1.size w).alloc (nR _) (.cells (Jv c x p) 79));have b:=AD x s;by_cases j:c=1;{have N:(c==1)=Tt:=(by simp[j]);by_cases i:x=s;{rw[Yr i]at b;rw[Yr ⟨j,i⟩];clear j i;exact Hj};rw[Yo i]at b;rw[Yo (λa=>i a.2)];clear j i;exact Hj};have N:(c==1)=Ff:=Yp.2 j;rw[Yo (λa=>j a.1)];clear j;exact Hj
def Wo (c p x w)(J:GJ x.size):Gv 106 #[.agg (Jv c x p)] w (Bo (decide (c=1/\E0 x=Tt))):=by have h:=h_ ((bR w.1.size w).alloc (nR _) (.cells (Jv c x p) 79));by_cases j:c=1;{have N:(c==1)=Tt:=(by simp[j]);cases i:E0 x;{rw[Yo (λa=>by cases a.2)];exact K5};rw[Yr ⟨j,rfl⟩];exact K5};have N:(c==1)=Ff:=Yp.2 j;rw[Yo (λa=>j a.1)];clear j;go_enter func106,ntmps106;exact gb
def gd {p:Prop}(h:p:=by exact⟨λh=>this.1 ⟨dN,h.2⟩,λh=>⟨by have:=(this.2 h).1;omega,(this.2 h).2⟩⟩):p:=h
def oE {t s}(p)(J:cls s=4)(w):Gv 41 #[tV t p,St s] w (Bo (decide (t=s))):=by have:=Bp (cls t:Nat) p (A4 t) s w;have e:decide ((cls t:Int)=4/\A4 t=s)=decide (t=s):=(by have:=qt1 (t:=t) J;rw[decide_eq_decide];exact gd);rw[e]at this;exact this
def kC {t s}(p)(J:cls s=1)(w):Gv 105 #[tV t p,St s] w (Bo (decide (t=s))):=by have:=Xu (cls t:Nat) p (A4 t) s w;have e:decide ((cls t:Int)=1/\A4 t=s)=decide (t=s):=(by have:=qnb (t:=t) J;rw[decide_eq_decide];exact gd);rw[e]at this;exact this
def d_ (t):(A4 t).size<=t.size:=by unfold A4;split;{rw[US];omega};exact nR _
def VE {t}(p)(J:GJ t.size)(w):Gv 106 #[tV t p] w (Bo (E0 t)):=by have:=Wo (cls t:Nat) p (A4 t) w (Y9 (d_ t) J);have e:decide ((cls t:Int)=1/\E0 (A4 t)=Tt)=E0 t:=(by rw[Zv,Yw];have:=qj0 (t:=t);exact gd);rw[e]at this;exact this
def qke (x l a n):PC x l a (n+1)=if N4 a=l/\t5 a=x then a else PC x l (a+1) n:=rfl
def Ap (c p l x w):Gv 215 #[.agg (Jv c x p),Yj l] w (Yj (if c=4\/c=1 then PC x l 4 12 else 0:Nat)):=by obtain⟨h,A⟩:=oB ((bR w.1.size w).alloc (nR _) (.cells (Jv c x p) 79)) (j0.new w 79 (Jv c x p));obtain⟨m,f⟩:=Nq (w.alloc (.cells (Jv c x p) 79));rw[f]at h A;obtain⟨R,V⟩:∃R,(if c=4\/c=1 then PC x l 4 12 else 0)=R:=⟨_,rfl⟩;rw[V];have y:=h_ V;clear V;go_enter func215,ntmps215;go_wp2_with fail;(try rw[f]);go_loopw [5] (λi wr=>∃k t:Nat,4<=k/\k<=16/\i=Yj (k:Nat)/\R=(if c=4\/c=1 then PC x l k (16 - k) else 0)/\wr=m.drewN t) (λi _=>16 - (intOf i).toNat);exact⟨4,0,dN,dN,rfl,y.symm,rfl⟩;obtain⟨k,t,v,s,rfl,E,rfl⟩:=hrel;have a:=h_ E;clear E;have B:Hi (∀n,Bw w (m.drewN n)):=h_ λn=>h.trans ((CL m n).mono h.size);have C:m.cell? (zw w 0)=Sm (Yj c):=A.cell 0;have H:m.cell? (zw w 1)=Sm (St x):=A.cell 1;by_cases z:k<16;{have L:(k:Int)<=15:=dN;obtain⟨n,G⟩:∃n,16 - k=n+1:=⟨15 - k,dN⟩;obtain⟨W,K⟩:=oB (JR (k:Int)) (λw=>ZR (k:Int) w dN dN);rw[G,qke x l k n]at a;obtain⟨lv,r⟩:=Nq (N4 (k:Int));obtain⟨b,E⟩:=Nq (t5 (k:Int));rw[r]at W a;rw[E]at K a;have g:=AD x b;by_cases j:lv=l;{have N:(lv==l)=Tt:=(by simp[j]);by_cases i:x=b;{rw[Yr i]at g;by_cases D:c=4;{have o:(c==4)=Tt:=(by simp[D]);rw[Y4 (.inl D),Y4 ⟨j,i.symm⟩]at a;clear j i D;exact KZ};have o:(c==4)=Ff:=Yp.2 D;by_cases d:c=1;{have q:(c==1)=Tt:=fG;rw[Y4 (.inr d),Y4 ⟨j,i.symm⟩]at a;clear j i D d;exact KZ};have q:(c==1)=Ff:=Yp.2 d;have e:Hi (¬ (c=4\/c=1)):=h_ dN;rw[Ys e.u]at a;clear j i D d;go_wp2_with fail;(go_quiet (first|(go_at_call 192;refine QH (W _))|(go_at_call 195;refine QH (K _))));go_wp2;go_roundw;exact⟨k+1,_,dN,dN,dR,by rw[Ys e.u];exact a,rfl⟩;exact kq};rw[Yo i]at g;rw[Ys (show ¬ (lv=l/\b=x) from λd=>i d.2.symm)]at a;clear j i;go_wp2_with fail;(go_quiet (first|(go_at_call 192;refine QH (W _))|(go_at_call 195;refine QH (K _))));go_wp2;go_roundw;exact⟨k+1,_,dN,dN,dR,by rw[show 16 - (k+1)=n by omega];exact a,rfl⟩;exact kq};have N:(lv==l)=Ff:=Yp.2 j;rw[Ys (show ¬ (lv=l/\b=x) from λd=>j d.1)]at a;clear j;go_wp2_with fail;(go_quiet (first|(go_at_call 192;refine QH (W _))|(go_at_call 195;refine QH (K _))));go_wp2;go_roundw;exact⟨k+1,_,dN,dN,dR,by rw[show 16 - (k+1)=n by omega];exact a,rfl⟩;exact kq};obtain rfl:k=16:=dN;have F:Hi (R=0):=h_ (by rw[a.u];split <;> rfl);go_wp2;go_ret;exact⟨xD (by rw[F.u];rfl),B _⟩
def OF (t:Tb)(l:Nat):Nat:=if A0.b t≠0/\A0.lv (A0.b t)=l then A0.b t else 0
def a_ (t p)(l:Nat)(w):Gv 215 #[tV t p,Yj l] w (Yj (OF t l:Nat)):=by have:=Ap (cls t:Nat) p l (A4 t) w;have e:(if (cls t:Int)=4\/(cls t:Int)=1 then PC (A4 t) l 4 12 else 0)=OF t l:=(by unfold OF;rw[<- Mh];by_cases h:cls t=4\/cls t=1;{rw[Y4 h,Y4 dN]};rw[Ys h,Ys dN]);rw[e]at this;exact this
def qih (t p)(J:GJ t.size)(w):Gv 251 #[tV t p] w (Bo (ZF t)):=by obtain⟨d,x,v,HF,l⟩:=oG (λw=>oE (t:=t) (s:=⟨#[41]⟩) p dO w) (λw=>VE (t:=t) p J w) (λw=>kC (t:=t) (s:=⟨#[116,114,117,101]⟩) p dO w) (λw=>kC (t:=t) (s:=⟨#[102,97,108,115,101]⟩) p dO w) (λw=>kC (t:=t) (s:=⟨#[98,108,97,110,107]⟩) p dO w);have R:Hi (ZF t=(decide (cls t=2)||decide (cls t=3)||decide (t=⟨#[41]⟩)||(E0 t||decide (t=⟨#[116,114,117,101]⟩)||decide (t=⟨#[102,97,108,115,101]⟩)||decide (t=⟨#[98,108,97,110,107]⟩)))):=rfl;unfold tV at *;have i:cls t=2\/¬ cls t=2:=Decidable.em _;have D:cls t=3\/¬ cls t=3:=Decidable.em _;have E:((cls t:Int)==2)=decide (cls t=2):=(by rcases i with b|b <;> simp[b];omega);have F:((cls t:Int)==3)=decide (cls t=3):=(by rcases D with b|b <;> simp[b];omega);clear i D;generalize a:(cls t:Int)=e at *;generalize decide (cls t=2)=f at *;generalize decide (cls t=3)=g at *;generalize A4 t=q at *;generalize decide (t=⟨#[41]⟩)=Y at *;generalize E0 t=o at *;generalize decide (t=⟨#[116,114,117,101]⟩)=j at *;generalize decide (t=⟨#[102,97,108,115,101]⟩)=k at *;generalize decide (t=⟨#[98,108,97,110,107]⟩)=m at *;generalize ZF t=r at *;clear a;obtain rfl:=R.u;clear R;obtain⟨y,V,A,h⟩:=nw w 79 (Jv e q p);have i:=A.cell 0;have n:=A.cell 1;have a:=A.cell 2;simp only[Yq,Zb]at i n a;cases f;(case true=>go_enter func251,ntmps251;go_wp2_with fail;(try rw[V]);go_ret;exact⟨rfl,h⟩);cases g;(case true=>go_enter func251,ntmps251;go_wp2_with fail;(try rw[V]);go_ret;exact⟨rfl,h⟩);go_enter func251,ntmps251;go_wp2_with fail;(try rw[V]);refine cQ (d _) λz c=>?_;have h:=mT h c;have A:=mB A c;clear c i n a V;cases Y;(case true=>exact gb);have i:=A.cell 0;have n:=A.cell 1;have a:=A.cell 2;simp only[Yq,Zb]at i n a;go_wp2_with fail;refine cQ (x _) λB c=>?_;have h:=mT h c;have A:=mB A c;clear c i n a;cases o;(case true=>exact gb);have i:=A.cell 0;have n:=A.cell 1;have a:=A.cell 2;simp only[Yq,Zb]at i n a;go_wp2_with fail;refine cQ (v _) λV c=>?_;have h:=mT h c;have A:=mB A c;clear c i n a;cases j;(case true=>exact gb);have i:=A.cell 0;have n:=A.cell 1;have a:=A.cell 2;simp only[Yq,Zb]at i n a;go_wp2_with fail;refine cQ (HF _) λC c=>?_;have h:=mT h c;have A:=mB A c;clear c i n a;cases k;(case true=>exact gb);have i:=A.cell 0;have n:=A.cell 1;have a:=A.cell 2;simp only[Yq,Zb]at i n a;go_wp2_with fail;refine cQ (l _) λD c=>?_;have h:=mT h c;clear c i n a;go_wp2;go_ret;exact⟨by cases m <;> rfl,h⟩
def OA (l:List Tb):Prop:=∀t,t∈l->VT t/\t.size<=1048576
def OA.at {l}(h:OA l){k}(n:k<l.length):VT l[k]/\l[k].size<=1048576:=h _ (Yt n)
def mL (t):(decide (t=⟨#[40]⟩)=Tt/\decide (t=⟨#[41]⟩)=Ff/\A0.L t=Tt/\A0.R t=Ff/\I7 A0 t=1)\/(decide (t=⟨#[40]⟩)=Ff/\decide (t=⟨#[41]⟩)=Tt/\A0.L t=Ff/\A0.R t=Tt/\I7 A0 t = -1)\/(decide (t=⟨#[40]⟩)=Ff/\decide (t=⟨#[41]⟩)=Ff/\A0.L t=Ff/\A0.R t=Ff/\I7 A0 t=0):=by by_cases j:t=⟨#[40]⟩;{subst j;left;decide};by_cases i:t=⟨#[41]⟩;{subst i;right;left;decide};right;right;have a:A0.L t=Ff:=Yo j;have b:A0.R t=Ff:=Yo i;exact⟨Yo j,Yo i,a,b,by unfold I7;rw[a,b];rfl⟩
def TH {l:List Tb}{k}(h:k<l.length):l.drop k=l[k] :: l.drop (k+1):=Zt h
def Em (a c l w)(P:l.length<=1048576)(b:E8 w a l):Gv 162 #[.slice a l.length c] w (Bo (decide (I4 A0 64 0 l=Sm 0))):=by have Y:=h_ b;clear b;obtain⟨m,V⟩:=Nq (I4 A0 64 0 l);rw[V];have y:=h_ V;clear V;go_enter func162,ntmps162;go_wp2;go_loopw [3,4] (λq i wr=>∃k d:Nat,k<=l.length/\d<=64/\q=Yj (d:Nat)/\i=Yj k/\m=I4 A0 64 d (l.drop k)/\Bw w wr) (λ_ i _=>l.length - (intOf i).toNat);exact⟨0,0,nZ _,dN,rfl,rfl,y.symm,bR _ _⟩;obtain⟨k,d,C,B,rfl,rfl,E,b⟩:=hrel;obtain⟨h,e,r⟩:=oC b E (Y.mono b);clear b E;by_cases p:k<l.length;{have L:(k:Int)<l.length:=dN;rw[TH p]at e;obtain⟨z,E,q,rfl,v⟩:=r k p;generalize l[k]=j at *;have f:=h_ v;obtain⟨-,R,c1,c2⟩:=v;obtain⟨W,i⟩:=oB (λw=>oE (t:=j) (s:=⟨#[40]⟩) q dO w) (λw=>oE (t:=j) (s:=⟨#[41]⟩) q dO w);unfold tV at W i;rcases mL j with ⟨g,O,J,D,-⟩|⟨g,O,J,D,-⟩|⟨g,O,J,D,-⟩;{rw[g]at W;rw[O]at i;simp only[I4,J,if_true]at e;clear g O J D;go_wp2_with fail;refine cQ (W _) λn b=>?_;have h:=mT h b;have f:=h_ (f.mono b);clear b R c1 c2;obtain⟨-,R,c1,c2⟩:=f.u;go_wp2_with fail;refine cQ (i _) λo b=>?_;have h:=mT h b;clear b R c1 c2;by_cases A:d+1<=64;{rw[Y4 A]at e;go_wp2_with fail;go_roundw;(case rel=>exact⟨k+1,d+1,dN,A,dR,dR,e,h⟩);(case measure=>simp[intOf];omega)};rw[Ys A]at e;obtain rfl:d=64:=dN;go_wp2;go_ret;exact⟨O1 (by rw[e.u];rfl),h⟩};{rw[g]at W;rw[O]at i;simp only[I4,J,D,if_true,Gb,if_false]at e;clear g O J D;go_wp2_with fail;refine cQ (W _) λn b=>?_;have h:=mT h b;have f:=h_ (f.mono b);clear b R c1 c2;obtain⟨-,R,c1,c2⟩:=f.u;go_wp2_with fail;refine cQ (i _) λo b=>?_;have h:=mT h b;clear b R c1 c2;by_cases A:d=0;{rw[Y4 A]at e;subst A;go_wp2;go_ret;exact⟨O1 (by rw[e.u];rfl),h⟩};rw[Ys A]at e;obtain⟨d,rfl⟩:∃x,d=x+1:=⟨d - 1,dN⟩;have x:wrap64 (((d+1:Nat):Int) - 1)=(d:Int):=eO;go_wp2_with fail;go_roundw;(case rel=>exact⟨k+1,d,dN,dN,dR,dR,e,h⟩);(case measure=>simp[intOf];omega)};rw[g]at W;rw[O]at i;simp only[I4,J,D,Gb,if_false]at e;clear g O J D;go_wp2_with fail;refine cQ (W _) λn b=>?_;have h:=mT h b;have f:=h_ (f.mono b);clear b R c1 c2;obtain⟨-,R,c1,c2⟩:=f.u;go_wp2_with fail;refine cQ (i _) λo b=>?_;have h:=mT h b;clear b R c1 c2;go_wp2_with fail;go_roundw;(case rel=>exact⟨k+1,d,dN,dN,dR,dR,e,h⟩);(case measure=>simp[intOf];omega)};have L:¬ (k:Int)<l.length:=dN;have F:Hi (m=Sm d):=h_ (by rw[e.u,Zl dN];rfl);go_wp2;go_ret;exact⟨O1 (by rw[F.u];by_cases b:d=0 <;> simp[b]),h⟩
def ZB (k:Nat)(d:Int)(l:List Tb):Int:=match CC A0 d (l.drop k) with
 | some j=>((k+j:Nat):Int)
 | none=>-1
def qr6 {k d l}(h:k<l.length)(h1:A0.R l[k]=Tt)(i:d+I7 A0 l[k]=0):ZB k d l=k:=by unfold ZB;rw[TH h];simp only[CC,h1,i,and_self,if_true];simp
def He {k d l}(h:k<l.length)(h1:¬ (A0.R l[k]=Tt/\d+I7 A0 l[k]=0)):ZB k d l=ZB (k+1) (d+I7 A0 l[k]) l:=by unfold ZB;rw[TH h];simp only[CC,Ys h1];cases CC A0 (d+I7 A0 l[k]) (l.drop (k+1)) with|none=>rfl|some j=>simp;omega
def vX (a c)(l:List Tb)(i w)(Q:l.length<=1048576)(hi:i<=l.length)(b:E8 w a l):Gv 254 (Ye a l.length c i) w (Yj (ZB i 0 l)):=by have Y:=h_ b;clear b;obtain⟨r,V⟩:=Nq (ZB i 0 l);rw[V];have C:=h_ V;clear V;go_enter func254,ntmps254;go_wp2;go_loopw [5,6] (λq f wr=>∃(k:Nat) (e:Int),k<=l.length/\-(k:Int)<=e/\e<=k/\q=Yj e/\f=Yj k/\r=ZB k e l/\Bw w wr) (λ_ i _=>l.length - (intOf i).toNat);exact⟨i,0,hi,dN,dN,rfl,rfl,C.symm,bR _ _⟩;obtain⟨k,e,M,I,K,rfl,rfl,E,b⟩:=hrel;obtain⟨h,j,B⟩:=oC b E (Y.mono b);clear b E;by_cases p:k<l.length;{have L:(k:Int)<l.length:=dN;obtain⟨E,S,A,rfl,z⟩:=B k p;obtain⟨y,f⟩:=oB (λo g=>qr6 (d:=e) p o g) (λo=>He (d:=e) p o);generalize l[k]=q at *;have g:=h_ z;obtain⟨-,R,c1,c2⟩:=z;obtain⟨W,n⟩:=oB (λw=>oE (t:=q) (s:=⟨#[40]⟩) A dO w) (λw=>oE (t:=q) (s:=⟨#[41]⟩) A dO w);unfold tV at W n;have U:wrap64 (e+1)=e+1:=CE dN dN;have T:wrap64 (e - 1)=e - 1:=CE dN dN;rcases mL q with ⟨m,O,J,D,H⟩|⟨m,O,J,D,H⟩|⟨m,O,J,D,H⟩;{rw[m]at W;rw[O]at n;rw[D,H]at f;have F:=h_ (j.trans (f dQ));clear m O J D H y f j;go_wp2_with fail;refine cQ (W _) λv b=>?_;have h:=mT h b;have g:=h_ (g.mono b);clear b R c1 c2;obtain⟨-,R,c1,c2⟩:=g.u;go_wp2_with fail;refine cQ (n _) λx b=>?_;have h:=mT h b;clear b R c1 c2;refine rQ ?_;exact⟨k+1,e+1,dN,dN,dN,dR,dR,F,h⟩};{rw[m]at W;rw[O]at n;rw[D,H]at f;rw[D,H]at y;clear m O J D H;go_wp2_with fail;refine cQ (W _) λv b=>?_;have h:=mT h b;have g:=h_ (g.mono b);clear b R c1 c2;obtain⟨-,R,c1,c2⟩:=g.u;go_wp2_with fail;refine cQ (n _) λx b=>?_;have h:=mT h b;clear b R c1 c2;by_cases o:e=1;{have F:=h_ (j.trans (y (by trivial) dN));subst o;clear y f j;go_wp2;go_ret;exact⟨xD (by rw[F.u]),h⟩};have F:=h_ (j.trans (f (λG=>by omega)));have N:(e - 1==0)=Ff:=Yp.2 dN;have P:(e==1)=Ff:=Yp.2 o;clear y f j;go_wp2;go_roundw;exact⟨k+1,e - 1,dN,dN,dN,dR,dR,by rw[F.u];rfl,h⟩;exact kq};rw[m]at W;rw[O]at n;rw[D,H]at f;have F:=h_ (j.trans (f dQ));clear m O J D H y f j;go_wp2_with fail;refine cQ (W _) λv b=>?_;have h:=mT h b;have g:=h_ (g.mono b);clear b R c1 c2;obtain⟨-,R,c1,c2⟩:=g.u;go_wp2_with fail;refine cQ (n _) λx b=>?_;have h:=mT h b;clear b R c1 c2;go_wp2;go_roundw;exact⟨k+1,e,dN,dN,dN,dR,dR,by rw[F.u];simp,h⟩;exact kq};have L:¬ (k:Int)<l.length:=dN;have F:Hi (r = -1):=h_ (by rw[j.u];unfold ZB;rw[Zl dN];rfl);go_wp2;go_ret;exact⟨xD (by rw[F.u]),h⟩
