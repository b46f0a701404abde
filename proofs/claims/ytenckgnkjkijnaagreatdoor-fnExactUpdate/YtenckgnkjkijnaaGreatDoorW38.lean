import Derived.Test.YtenckgnkjkijnaaGreatDoorW37
import Derived.Test.YtenckgnkjkijnaaGreatDoorW33
import Derived.Test.YtenckgnkjkijnaaGreatDoorW25
set_option linter.all false
namespace Go.Proofs.YtenckgnkjkijnaaGreatDoor
open Go Go.RowKit Go.Proofs.Tryz
def rlb (m:Fm)(r:Nat):Nat:=(m.R.getD r kid).lb.toNat
def kdt (m:Fm)(n:Nat)(F:Nat->Bool)(f:Nat->Nat)(r k:Nat):Bool:=F (f k*n+rlb m r)
def bysN (m:Fm)(k:Nat):List Nat:=(fAt m k).bys.map Int.toNat
def kaK (m:Fm)(L:Nat)(e:Nat->Cx):Bool:=decide (L=m.F.length)&&(List.range L).all λk=>kae (e k).v.k (e k).v.n (e k).v.s
def khx (m:Fm)(n:Nat)(F:Nat->Bool)(f:Nat->Nat)(e:Nat->Cx)(r j:Nat):Bool:=(e j).rel&&kdt m n F f r j&&decide (r∈bysN m j)
def kgb (k j:Nat)(back:Bool):Prop:=if back=true then j<k else k<j
def kcz (P:Nat->Bool)(N k:Nat)(back:Bool)(z:Int):Prop:=(z = -1/\∀j,j<N->kgb k j back->P j=false)∨∃j:Nat,z=j/\j<N/\kgb k j back/\P j=true/\∀i,i<N->kgb k i back->P i=true->if back=true then i<=j else j<=i
def kcz.one {P:Nat->Bool}{N k:Nat}{a:Bool}{z b:Int}(c:kcz P N k a z)(d:kcz P N k a b):z=b:=by grind[kcz]
def kgp (m:Fm)(n:Nat)(F:Nat->Bool)(f:Nat->Nat)(L:Nat)(e:Nat->Cx)(r k:Int)(back:Bool)(z:Int):Prop :=
 (¬ (kaK m L e=true/\(0<=r/\r<m.R.length)/\(0<=k/\k<m.F.length)/\kdt m n F f r.toNat k.toNat=true)/\z = -1) ∨
 ((kaK m L e=true/\(0<=r/\r<m.R.length)/\(0<=k/\k<m.F.length)/\kdt m n F f r.toNat k.toNat=true)/\kcz (khx m n F f e r.toNat) m.F.length k.toNat back z)
def kgp.one {m:Fm}{n L:Nat}{F:Nat->Bool}{f:Nat->Nat}{d:Nat->Cx}{r k z e:Int}{c:Bool}(g:kgp m n F f L d r k c z)(h:kgp m n F f L d r k c e):z=e:=by rcases g with ⟨a,rfl⟩ | ⟨a,i⟩ <;> rcases h with ⟨b,rfl⟩ | ⟨b,j⟩;{rfl};{exact absurd b a};{exact absurd a b};exact i.one j
def qn0 {m:Fm}{n r k:Nat}{F:Nat->Bool}{f g:Nat->Nat}(a:∀k,k<m.F.length->f k=g k)(b:k<m.F.length):kdt m n F f r k=kdt m n F g r k:=by grind[kdt]
def kcz.congr {P b:Nat->Bool}{N k:Nat}{c:Bool}{z:Int}(d:∀a,a<N->P a=b a)(a:kcz P N k c z):kcz b N k c z:=by grind[kcz]
def kgp.congr {m:Fm}{n L:Nat}{F:Nat->Bool}{f g:Nat->Nat}{c:Nat->Cx}{r k z:Int}{b:Bool}(e:∀k,k<m.F.length->f k=g k)(j:kgp m n F f L c r k b z):kgp m n F g L c r k b z:=by have h:(0<=k/\k<m.F.length)->kdt m n F f r.toNat k.toNat=kdt m n F g r.toNat k.toNat:=λa=>qn0 e cr;rcases j with ⟨a,rfl⟩ | ⟨⟨a,l,d,o⟩,p⟩;{refine .inl ⟨λ⟨q,s,i,t⟩=>a ⟨q,s,i,by rw[h i];exact t⟩,rfl⟩};refine .inr ⟨⟨a,l,d,by rw[<- h d];exact o⟩,p.congr λq i=>?_⟩;unfold khx;rw[qn0 e i]
structure GoT (P:Nat->Bool)(k:Nat)(back:Bool)(j:Nat)(T:List Nat):Prop where
 all:∀i,i<j->kgb k i back->P i=true->i∈T
 ok:∀i,i∈T->i<j/\kgb k i back/\P i=true
 up:T.Pairwise (· < ·)
 len:T.length<=j
def GoT.start (P:Nat->Bool)(k:Nat)(b:Bool):GoT P k b 0 []:=⟨λc a=>absurd a (nL _),λc a=>absurd a cw,List.Pairwise.nil,nR _⟩
def GoT.skip {P:Nat->Bool}{k j:Nat}{c:Bool}{l:List Nat}(a:GoT P k c j l)(h:¬ (kgb k j c/\P j=true)):GoT P k c (j+1) l :=
 ⟨λb d f e=>by
  by_cases g:b=j
  . subst g;exact absurd ⟨f,e⟩ h
  . exact a.all b cr f e,λb d=>⟨by have:=(a.ok b d).1;omega,(a.ok b d).2⟩,a.up,by have:=a.len;omega⟩
def GoT.take {P:Nat->Bool}{k j:Nat}{d:Bool}{l:List Nat}(b:GoT P k d j l)(m:kgb k j d)(i:P j=true):GoT P k d (j+1) (l++[j]) :=
 ⟨λc a g e=>by
  by_cases f:c=j
  . subst f;simp
  . exact Vk _ (b.all c cr g e),λc a=>by
  rcases Zm.1 a with a | a
  . exact⟨by have:=(b.ok c a).1;omega,(b.ok c a).2⟩
  . obtain rfl:c=j:=cV
    exact⟨cr,m,i⟩,by
  rw[List.pairwise_append];refine⟨b.up,cw,λc g e h=>?_⟩;obtain rfl:e=j:=by simpa using h
  exact(b.ok c g).1,by have:=b.len;simp;omega⟩
def GoT.none {P:Nat->Bool}{k N:Nat}{a:Bool}(c:GoT P k a N []):kcz P N k a (-1):=.inl ⟨rfl,λb d f=>by
 cases e:P b
 . rfl
 . exact absurd (c.all b d f e) cw⟩
def GoT.first {P:Nat->Bool}{k N:Nat}{l:List Nat}(a:GoT P k false N l)(c:0<l.length):kcz P N k false (l[0]:Nat):=by have b:l[0]∈l:=Yl c;refine .inr ⟨l[0],rfl,(a.ok _ b).1,(a.ok _ b).2.1,(a.ok _ b).2.2,λi e h f=>?_⟩;obtain⟨d,g,m⟩:=Y4.1 (a.all i e h f);simp only[Oz,if_false];by_cases j:d=0;{subst j;omega};have:=Z4.1 a.up 0 d c g cr;omega
def GoT.last {P:Nat->Bool}{k N:Nat}{l:List Nat}(a:GoT P k true N l)(m:0<l.length):kcz P N k true (l[l.length - 1]:Nat):=by have b:l[l.length - 1]∈l:=Yl cr;refine .inr ⟨_,rfl,(a.ok _ b).1,(a.ok _ b).2.1,(a.ok _ b).2.2,λh d g e=>?_⟩;obtain⟨c,f,j⟩:=Y4.1 (a.all h d g e);simp only[if_true];by_cases i:c=l.length - 1;{subst i;omega};have:=Z4.1 a.up c (l.length - 1) f cr cr;omega
theorem kb0 {u:Vx}(a:kae u.k u.n u.s=true):u=kal∨(∃b,u=kbz b)∨(∃c,u=kaj c)∨(∃c,u=kbT c)∨∃d,u=kay d:=by obtain⟨d,b,c⟩:=u;dsimp only at a;rcases keW d with rfl | rfl | rfl | rfl | rfl | ⟨e,g,h,i,j⟩;{simp[kae]at a;exact .inl (by rw[a.1,a.2];rfl)};{simp[kae]at a;exact .inr (.inl ⟨b,by rw[a];rfl⟩)};{simp[kae]at a;refine .inr (.inr (.inl ?_));rw[a.2];rcases a.1 with rfl | rfl;{exact⟨false,rfl⟩};exact⟨true,rfl⟩};{simp[kae]at a;exact .inr (.inr (.inr (.inl ⟨c,by rw[a.1];rfl⟩)))};{simp[kae]at a;exact .inr (.inr (.inr (.inr ⟨b,by rw[a.2];rfl⟩)))};simp[kae,e,g,h,i,j]at a
theorem khq {u:Vx}(b:kae u.k u.n u.s=true)(c:u.k=1):∃a,u=kbz a:=by grind[kal,kaj,kbT,kay,kae,kbz,kb0]
theorem keO {u:Vx}(b:kae u.k u.n u.s=true)(c:u.k=2):∃a,u=kaj a:=by grind[kal,kbz,kbT,kay,kae,kaj,kb0]
theorem kfM {u:Vx}(b:kae u.k u.n u.s=true)(c:u.k=3):∃a,u=kbT a:=by grind[kal,kbz,kaj,kay,kae,kbT,kb0]
def qo7 {f:Nat->Vx}{m:Nat}{k k':Int}(a:1<=m)(b:kaz f m k=true)(c:k≠k'):kaz f m k'=false:=qo8 (i:=0) a (by rw[qo6 b a];exact c)
section
variable {f:Nat->Vx} {m:Nat} {A:Bool} {R r1 r2 r3:Vx} {op:Int}
def kfN (b:kbn f m=none):∀a,a<m->¬ (f a).k=4:=by simp_all[kbn]
def khr (b:keh f m=false):∀a,a<m->¬ (f a).k=0:=by grind[keh]
theorem qm9 (d:mE op=false)(c:mBk op=false)(b:(∀a,a<m->¬ (f a).k=4)->(∀a,a<m->¬ (f a).k=0)->(if A then R else kay 1)=if kaz f m 1 then r1 else if kaz f m 3 then r3 else if kaz f m 2 then r2 else kay 1):kaD op m f A R=kbA f m r1 r3 r2:=by unfold kaD kbA;rw[d,c,Yu cx];cases e:kbn f m with|some a=>rfl|none=>cases a:keh f m;{exact b (kfN e) (khr a)};rfl
def ql2 (g:mE op=false)(e:mBk op=false)(b:kaz f m 1=true->(if A then R else kay 1)=r1)(d:kaz f m 3=true->(if A then R else kay 1)=r3)(c:kaz f m 2=true->(if A then R else kay 1)=r2)
 (a:kaz f m 1=false->kaz f m 3=false->kaz f m 2=false->A=false):kaD op m f A R=kbA f m r1 r3 r2:=by grind[kaz,mE,mB,kay,kaD,kbA,qm9]
def qql (c:1<=m)(i:mE op=false)(h:mBk op=false)(b:A=kaz f m 1)(d:kaz f m 1=true->R=r1)(g:r3=kay 1)(e:r2=kay 1):kaD op m f A R=kbA f m r1 r3 r2 :=
 ql2 i h (λa=>by rw[b,a];exact d a) (λa=>by rw[b,qo7 c a cx,g];rfl) (λa=>by rw[b,qo7 c a cx,e];rfl) (λa _ _=>by rw[b,a])
def qnl (c:1<=m)(i:mE op=false)(h:mBk op=false)(b:A=kaz f m 3)(g:kaz f m 3=true->R=r3)(d:r1=kay 1)(e:r2=kay 1):kaD op m f A R=kbA f m r1 r3 r2 :=
 ql2 i h (λa=>by rw[b,qo7 c a cx,d];rfl) (λa=>by rw[b,a];exact g a) (λa=>by rw[b,qo7 c a cx,e];rfl) (λ_ a _=>by rw[b,a])
def qjd (c:1<=m)(i:mE op=false)(h:mBk op=false)(b:A=kaz f m 2)(e:kaz f m 2=true->R=r2)(d:r1=kay 1)(g:r3=kay 1):kaD op m f A R=kbA f m r1 r3 r2 :=
 ql2 i h (λa=>by rw[b,qo7 c a cx,d];rfl) (λa=>by rw[b,qo7 c a cx,g];rfl) (λa=>by rw[b,a];exact e a) (λ_ _ a=>by rw[b,a])
def qlx (c:1<=m)(j:mE op=false)(i:mBk op=false)(b:A=(kaz f m 1||kaz f m 3))(e:kaz f m 1=true->R=r1)(h:kaz f m 3=true->R=r3)(g:r2=kay 1):kaD op m f A R=kbA f m r1 r3 r2 :=
 ql2 j i (λa=>by rw[b,a];exact e a) (λa=>by rw[b,a,Bool.or_true];exact h a) (λa=>by rw[b,qo7 c a cx,qo7 (k':=3) c a cx,g];rfl) (λa d _=>by rw[b,a,d];rfl)
def qj3 (j:mE op=false)(i:mBk op=false)(b:A=(kaz f m 1||kaz f m 2||kaz f m 3))(e:kaz f m 1=true->R=r1)(h:kaz f m 3=true->R=r3)(g:kaz f m 2=true->R=r2):kaD op m f A R=kbA f m r1 r3 r2 :=
 ql2 j i (λa=>by rw[b,a];exact e a) (λa=>by rw[b,a,Bool.or_true];exact h a) (λa=>by rw[b,a,Bool.or_true,Gd];exact g a) (λa c d=>by rw[b,a,c,d];rfl)
def qpf {S:Vx}(d:mE op=false)(c:mBk op=true)(b:(∀a,a<m->¬ (f a).k=4)->(if A then R else kay 1)=S):kaD op m f A R=ka2 f m S:=by unfold kaD ka2;rw[d,c,Yu cx];cases a:kbn f m with|some e=>rfl|none=>exact b (kfN a)
def qtf {S:Vx}(c:mE op=true)(b:mBk op=true)(a:(if A then R else kay 1)=S):kaD op m f A R=S:=by grind[kaD]
end
def qik {x y:Int}(h:-9223372036854775808<=x/\x<=9223372036854775807):kbz (x.tmod y)=kbu (x + -(y*x.tdiv y)):=by have c:x + -(y*x.tdiv y)=x.tmod y:=(by have:=Int.tmod_add_mul_tdiv x y;omega);rw[c];have b:(x.tmod y).natAbs<=x.natAbs:=(by rw[Int.natAbs_tmod];exact Nat.mod_le _ _);have g:0<=x->0<=x.tmod y:=λb=>Int.tmod_nonneg y b;have e:¬ 0<=x->x.tmod y<=0:=λb=>(by have d:=Int.tmod_nonneg (a:=-x) y cr;rw[Int.neg_tmod]at d;omega);unfold kbu kbN;rw[Yy (Yk cr)]
def kdR (b a:Bool):eqX (kaj b) (kaj a)=(b==a):=by grind[eqX,kaj]
def kdS (b:Bool):eqX (kaj b) kal=false:=by simp[eqX,kaj,kal]
section
variable {f:Nat->Vx}
def qpe (b:kb9 f 2=true)(a:kaz f 2 1=true):eqX (f 0) (f 1)=decide ((f 0).n=(f 1).n):=by grind[eqX,kbz,kb9,kaz,khq,qo6]
def qjy (b:kb9 f 2=true)(a:kaz f 2 2=true):eqX (f 0) (f 1)=decide ((f 0).n=(f 1).n):=by grind[eqX,kaj,kb9,kaz,keO,qo6]
theorem qeq {s t:Tb}:s.toList=t.toList ↔ s=t:=by rw[Zc,Zc];constructor;{exact λa=>ByteArray.ext (Array.toList_inj.1 a)};intro a;rw[a]
def qjz (b:kb9 f 2=true)(a:kaz f 2 3=true):eqX (f 0) (f 1)=decide ((f 0).s=(f 1).s):=by grind[eqX,kbT,kb9,kaz,kfM,qo6,qeq]
def qjj (a:kaz f 2 1=true):decide (kdI (f 0) (f 1)<0)=decide ((f 0).n<(f 1).n)/\decide (kdI (f 0) (f 1)<=0)=decide ((f 0).n<=(f 1).n):=by have b:¬ (f 0).k=3:=(by rw[qo6 a cx];decide);rw[kdI,Yu b];unfold Lib.compareInt;constructor;all_goals apply decide_eq_decide.2;split;{omega};split <;> omega
def qez (a:kaz f 2 3=true):decide (kdI (f 0) (f 1)<0)=tl (f 0).s.data.toList (f 1).s.data.toList/\decide (kdI (f 0) (f 1)<=0) = !tl (f 1).s.data.toList (f 0).s.data.toList:=by simp_all[kdI,kaz,kfL]
end
def keP (p q r:Vx):Vx:=if p.k=2 then (if p.n=1 then q else r) else p
section
variable {f:Nat->Vx}
def st_2:kaD 2 1 f (kaz f 1 1) (kbu (-(f 0).n))=apY 2 1 f:=qql cx rfl rfl rfl (λ_=>rfl) rfl rfl
def st_3:kaD 3 1 f (kaz f 1 2) (kaj ((f 0).n==0))=apY 3 1 f:=qjd cx rfl rfl rfl (λ_=>by simp[R2,kde];rfl) rfl rfl
def st_4:kaD 4 2 f (kaz f 2 1) (kbu ((f 0).n*(f 1).n))=apY 4 2 f:=qql cx rfl rfl rfl (λ_=>rfl) rfl rfl
def st_5:kaD 5 2 f (kaz f 2 1) (if (f 1).n=0 then kay 3 else kbu ((f 0).n.tdiv (f 1).n))=apY 5 2 f:=qql cx rfl rfl rfl (λ_=>rfl) rfl rfl
def st_6 (a:-9223372036854775808<=(f 0).n/\(f 0).n<=9223372036854775807):kaD 6 2 f (kaz f 2 1) (if (f 1).n=0 then kay 3 else kbz ((f 0).n.tmod (f 1).n))=apY 6 2 f:=qql cx rfl rfl rfl (λ_=>by rw[qik a];rfl) rfl rfl
def st_7:kaD 7 2 f (kaz f 2 1) (kbu ((f 0).n+(f 1).n))=apY 7 2 f:=qql cx rfl rfl rfl (λ_=>rfl) rfl rfl
def st_8:kaD 8 2 f (kaz f 2 1) (kbu ((f 0).n - (f 1).n))=apY 8 2 f:=qql cx rfl rfl rfl (λ_=>rfl) rfl rfl
def st_9:kaD 9 2 f (kaz f 2 3) (if 1000<(f 0).s.size+(f 1).s.size then kay 4 else kbT ((f 0).s++(f 1).s))=apY 9 2 f:=qnl cx rfl rfl rfl (λ_=>rfl) rfl rfl
def kik (b:kb9 f 2=true):kaD 10 2 f (kaz f 2 1||kaz f 2 2||kaz f 2 3) (kaj (eqX (f 0) (f 1)))=apY 10 2 f:=qj3 rfl rfl rfl (λa=>by rw[qpe b a];rfl) (λa=>by rw[qjz b a];rfl) (λa=>by rw[qjy b a];rfl)
def kil (b:kb9 f 2=true):kaD 11 2 f (kaz f 2 1||kaz f 2 2||kaz f 2 3) (kaj (!eqX (f 0) (f 1)))=apY 11 2 f:=qj3 rfl rfl rfl (λa=>by rw[qpe b a,<- decide_not];rfl) (λa=>by rw[qjz b a];rfl) (λa=>by rw[qjy b a];rfl)
def kim:kaD 12 2 f (kaz f 2 1||kaz f 2 3) (kaj (decide (kdI (f 0) (f 1)<0)))=apY 12 2 f:=qlx cx rfl rfl rfl (λa=>by rw[(qjj a).1];rfl) (λa=>by rw[(qez a).1];rfl) rfl
def kin:kaD 13 2 f (kaz f 2 1||kaz f 2 3) (kaj (decide (kdI (f 0) (f 1)<=0)))=apY 13 2 f:=qlx cx rfl rfl rfl (λa=>by rw[(qjj a).2];rfl) (λa=>by rw[(qez a).2];rfl) rfl
def kio:kaD 17 2 f (kaz f 2 1) (kbz (if (f 0).n<(f 1).n then (f 0).n else (f 1).n))=apY 17 2 f:=qql cx rfl rfl rfl (λ_=>rfl) rfl rfl
def kip:kaD 18 2 f (kaz f 2 1) (kbz (if (f 0).n<(f 1).n then (f 1).n else (f 0).n))=apY 18 2 f:=qql cx rfl rfl rfl (λ_=>rfl) rfl rfl
def kiq:kaD 20 2 f (kaz f 2 3) (kaj (Lib.contains (f 0).s.data.toList (f 1).s.data.toList))=apY 20 2 f:=qnl cx rfl rfl rfl (λ_=>by rw[q55];rfl) rfl rfl
def kir:kaD 21 1 f (kaz f 1 3) (kbz ((f 0).s.size:Int))=apY 21 1 f:=qnl cx rfl rfl rfl (λ_=>rfl) rfl rfl
def kis:kaD 22 1 f (kaz f 1 3) (if (rd (f 0).s.data.toList).2 then kbz (rd (f 0).s.data.toList).1 else kay 5)=apY 22 1 f:=qnl cx rfl rfl rfl (λ_=>rfl) rfl rfl
def kit (c:kb9 f 1=true):kaD 23 1 f (kaz f 1 1||kaz f 1 2||kaz f 1 3) (kbT (kb7 (f 0).k (f 0).n (f 0).s))=apY 23 1 f:=qj3 rfl rfl rfl
 (λa=>by
  obtain⟨d,b⟩:=khq (qed.1 c 0 cx) (qo6 a cx);simp only[R1,b];rfl)
 (λa=>by
  obtain⟨d,b⟩:=kfM (qed.1 c 0 cx) (qo6 a cx);simp only[R3,b];rfl)
 (λa=>by
  obtain⟨d,b⟩:=keO (qed.1 c 0 cx) (qo6 a cx);simp only[R2,b];cases d <;> rfl)
def kiu:kaD 24 1 f true (kaj ((f 0).k==0))=apY 24 1 f:=qpf rfl rfl λ_=>rfl
def kiv:kaD 25 1 f true (kaj ((f 0).k==4))=apY 25 1 f:=qtf rfl rfl rfl
def kiw:kaD 19 2 f true (if (f 0).k==0 then f 1 else f 0)=apY 19 2 f:=qtf rfl rfl (by
 show(if (f 0).k==0 then f 1 else f 0)=kdB (f 0) (f 1);unfold kdB;simp)
def kix (c:kb9 f 3=true):kaD 16 3 f ((f 0).k != 1&&(f 0).k != 3) (keP (f 0) (f 1) (f 2))=apY 16 3 f:=qtf rfl rfl (by
 show _=ifX (f 0) (f 1) (f 2);rcases kb0 (qed.1 c 0 cx) with a | ⟨d,a⟩ | ⟨b,a⟩ | ⟨e,a⟩ | ⟨d,a⟩
 all_goals rw[a]
 . rfl
 . rfl
 . cases b <;> rfl
 . rfl
 . rfl)
def khQ (g:Nat->Bool):(List.range 2).any g=(g 0||g 1):=by grind
def kiy (h:kb9 f 2=true):kaD 14 2 f (kdq f 2) (keb f 2 (kaj false) (kaj true))=apY 14 2 f:=qpf rfl rfl λa=>by show _=kei (f 0) (f 1);have e:=a 0 cx;have g:=a 1 cx;rw[keb,khQ,khQ];show(if (true&&((f 0).k==2||(f 0).k==0))&&((f 1).k==2||(f 1).k==0) then _ else _)=_;rcases kb0 (qed.1 h 0 cx) with a | ⟨i,a⟩ | ⟨c,a⟩ | ⟨l,a⟩ | ⟨i,a⟩;(all_goals rw[a]at e⊢);(all_goals rcases kb0 (qed.1 h 1 cx) with b | ⟨j,b⟩ | ⟨d,b⟩ | ⟨n,b⟩ | ⟨j,b⟩);(all_goals rw[b]at g⊢);(all_goals try rw[kdR]);(all_goals try rw[kdR]);(all_goals try rw[kdS]);(all_goals try rw[kdS]);all_goals first|rfl|(exfalso;exact e rfl)|(exfalso;exact g rfl)|(cases c <;> rfl)|(cases d <;> rfl)|(cases c <;> cases d <;> rfl)
def kiz (h:kb9 f 2=true):kaD 15 2 f (kdq f 2) (keb f 2 (kaj true) (kaj false))=apY 15 2 f:=qpf rfl rfl λa=>by show _=orX (f 0) (f 1);have e:=a 0 cx;have g:=a 1 cx;rw[keb,khQ,khQ];show(if (true&&((f 0).k==2||(f 0).k==0))&&((f 1).k==2||(f 1).k==0) then _ else _)=_;rcases kb0 (qed.1 h 0 cx) with a | ⟨i,a⟩ | ⟨c,a⟩ | ⟨l,a⟩ | ⟨i,a⟩;(all_goals rw[a]at e⊢);(all_goals rcases kb0 (qed.1 h 1 cx) with b | ⟨j,b⟩ | ⟨d,b⟩ | ⟨n,b⟩ | ⟨j,b⟩);(all_goals rw[b]at g⊢);(all_goals try rw[kdR]);(all_goals try rw[kdR]);(all_goals try rw[kdS]);(all_goals try rw[kdS]);all_goals first|rfl|(exfalso;exact e rfl)|(exfalso;exact g rfl)|(cases c <;> rfl)|(cases d <;> rfl)|(cases c <;> cases d <;> rfl)
end
