import Derived.Test.YtfmammdgehbjhaaGreatDoorW07
import Derived.Test.YtfmammdgehbjhaaGreatDoorW03
namespace Go.Proofs.YtfmammdgehbjhaaGreatDoor
open List
variable {T N:Type}
def BinAt (X:Lx T N)(l:Nat)(ts:List T)(i:Nat):Prop:=∃p t,ts[i]? = some p/\ts[i+1]? = some t/\dpt X (ts.take (i+2))=0/\X.eo p=true/\X.b t≠0/\X.lv (X.b t)=l
theorem PhT.last {X:Lx T N}{l:Nat}{a:List T}(h:PhT X l a):∃p,a[a.length - 1]? = some p/\X.eo p=true:=by
 cases hq:a.getLast? with
 | none=>rw[List.getLast?_eq_none_iff]at hq;exact absurd hq h.ne
 | some p=>exact⟨p,by rw[<- List.getLast?_eq_getElem?];exact hq,h.eo p hq⟩
theorem qcu {X:Lx T N}(ok:X.Ok){l la:Nat}{a b:List T}{t:T}(ha:PhT X la a)(hb:PhT X (l+1) b)(h1:X.b t≠0)(h2:X.lv (X.b t)=l):BinAt X l (a++t :: b) (a.length - 1)/\∀j,a.length - 1<j->¬ BinAt X l (a++t :: b) j:=by
 obtain⟨q1,q2,q3,q4⟩:=ok.nb h1
 have dt:∀r,dpt X (t :: r)=dpt X r:=dep_nl q1 q2
 have hla:1<=a.length:=List.length_pos_iff.2 ha.ne
 obtain⟨p,hp,he⟩:=ha.last
 constructor
 . refine⟨p,t,by rw[List.getElem?_append_left (by omega)];exact hp,?_,?_,he,h1,h2⟩
   . rw[show a.length - 1+1=a.length by omega,List.getElem?_append_right (Nat.le_refl _),Nat.sub_self];rfl
   . rw[show a.length - 1+2=a.length+1 by omega,q5p (by omega),q69,ha.d0,show a.length+1 - a.length=0+1 by omega,List.take_succ_cons,dt];rfl
 . rintro j hj ⟨p',t',a1,a2,a3,a4,a5,a6⟩
   rw[List.getElem?_append_right (by omega)]at a1 a2;rw[q5p (by omega),q69,ha.d0]at a3;by_cases hje:j=a.length
   . subst hje
     rw[Nat.sub_self]at a1;simp at a1;subst a1;rw[q4]at a4;cases a4
   . obtain⟨k,hk⟩:∃k,j=a.length+1+k:=⟨j - a.length - 1,by omega⟩
     subst hk;rw[show a.length+1+k - a.length=k+1 by omega,List.getElem?_cons_succ]at a1;rw[show a.length+1+k+1 - a.length=k+1+1 by omega,List.getElem?_cons_succ]at a2;rw[show a.length+1+k+2 - a.length=k+2+1 by omega,List.take_succ_cons,dt]at a3;have:=hb.lo k p' t' a1 a2 (by omega) a4 a5;omega
theorem Gr.inv {X:Lx T N}{l:Nat}{ts:List T}{e:List N}(h:Gr X l 0 ts e)(h1:1<=l)(h5:l<=5):Gr X (l+1) 0 ts e∨∃a t b ea eb,ts=a++t :: b/\e=ea++eb++[X.o (X.b t)]/\X.b t≠0/\X.lv (X.b t)=l/\Gr X (if l=3 then 4 else l) 0 a ea/\Gr X (l+1) 0 b eb:=by
 cases h with
 | up _ _ h=>exact .inl h
 | bin _ _ h3 ha h4 hl hb=>exact .inr ⟨_,_,_,_,_,rfl,rfl,h4,hl,by rw[if_neg h3];exact ha,hb⟩
 | cmp ha h4 hl hb=>exact .inr ⟨_,_,_,_,_,rfl,rfl,h4,hl,ha,hb⟩
 | pre=>omega
 | one=>omega
 | par=>omega
 | call=>omega
theorem no_low {X:Lx T N}(ok:X.Ok){l:Nat}{ts:List T}{e:List N}(h:Gr X (l+1) 0 ts e)(h5:l<=5)(i:Nat):¬ BinAt X l ts i:=by
 rintro⟨p,t,a1,a2,a3,a4,a5,a6⟩
 have:=((h.ph ok).1 (by omega)).lo i p t a1 a2 a3 a4 a5
 omega
theorem q83 {X:Lx T N}(ok:X.Ok){l:Nat}{ts:List T}(h1:1<=l)(h5:l<=5)(hn:∀i,¬ BinAt X l ts i)(e:List N):Gr X l 0 ts e ↔ Gr X (l+1) 0 ts e:=by
 constructor
 . intro h
   rcases h.inv h1 h5 with h | ⟨a,t,b,ea,eb,rfl,rfl,h4,hl,ha,hb⟩
   . exact h
   . refine absurd (qcu ok ((ha.ph ok).1 (by split <;> omega)) ((hb.ph ok).1 (by omega)) h4 hl).1 (hn _)
 . exact fun h=>.up h1 (by omega) h
theorem q84 {X:Lx T N}(ok:X.Ok){l i:Nat}{a b:List T}{t:T}(h1:1<=l)(h5:l<=5)(hi:BinAt X l (a++t :: b) i)(hl:∀j,i<j->¬ BinAt X l (a++t :: b) j)(ha:a.length=i+1)(e:List N):Gr X l 0 (a++t :: b) e ↔ ∃ea eb,Gr X (if l=3 then 4 else l) 0 a ea/\Gr X (l+1) 0 b eb/\e=ea++eb++[X.o (X.b t)]:=by
 constructor
 . intro h
   rcases h.inv h1 h5 with h | ⟨a',t',b',ea,eb,he,rfl,h4,hl',ha',hb'⟩
   . exact absurd hi (no_low ok h h5 i)
   . have pa:=(ha'.ph ok).1 (show(if l=3 then 4 else l)<=7 by split <;> omega)
     have hm:=qcu ok pa ((hb'.ph ok).1 (by omega)) h4 hl';rw[<- he]at hm;have hla:1<=a'.length:=List.length_pos_iff.2 pa.ne;have hlen:a.length=a'.length:=by
      rcases Nat.lt_trichotomy i (a'.length - 1) with h | h | h
      . exact absurd hm.1 (hl _ h)
      . omega
      . exact absurd hi (hm.2 _ h)
     obtain⟨rfl,h'⟩:=List.append_inj he hlen;cases h';exact⟨ea,eb,ha',hb',rfl⟩
 . rintro⟨ea,eb,h2,h3,rfl⟩
   obtain⟨p,t',a1,a2,a3,a4,a5,a6⟩:=hi;rw[List.getElem?_append_right (by omega),ha,Nat.sub_self]at a2;simp at a2;subst a2;by_cases hl3:l=3
   . rw[if_pos hl3]at h2
     subst hl3;exact .cmp h2 a5 a6 h3
   . rw[if_neg hl3]at h2
     exact .bin h1 h5 hl3 h2 a5 a6 h3
theorem qe3 {X:Lx T N}(ok:X.Ok){t:T}{r:List T}(h:X.u t≠0)(e:List N):Gr X 6 0 (t :: r) e ↔ ∃eb,Gr X 6 0 r eb/\e=eb++[X.o (X.u t)]:=by
 constructor
 . intro hg
   generalize hl:(6:Nat)=l at hg;generalize hts:t :: r=ts at hg;cases hg with
   | up h1 h2 hg =>
    subst hl;obtain⟨q,-⟩:(∀t,ts.head? = some t->X.u t=0)/\True:=⟨by
     have:=hg.comp ok 0;unfold Cmpl at this;simp only[Nat.reduceLeDiff,false_and,if_false,Nat.reduceEqDiff,if_true,Nat.reduceAdd]at this;exact this.1,trivial⟩
    exact absurd (q t (by rw[<- hts];rfl)) h
   | bin h1 h2=>omega
   | cmp=>omega
   | pre h1 hb =>
    cases hts;exact⟨_,hb,rfl⟩
   | one=>omega
   | par=>omega
   | call=>omega
 . rintro⟨eb,h1,rfl⟩
   exact .pre h h1
theorem q7h {X:Lx T N}{t:T}{r:List T}(h:X.u t=0)(e:List N):Gr X 6 0 (t :: r) e ↔ Gr X 7 0 (t :: r) e:=by
 constructor
 . intro hg
   generalize hl:(6:Nat)=l at hg;generalize hts:t :: r=ts at hg;cases hg with
   | up h1 h2 hg=>subst hl;exact hg
   | bin h1 h2=>omega
   | cmp=>omega
   | pre h1 hb=>cases hts;exact absurd h h1
   | one=>omega
   | par=>omega
   | call=>omega
 . exact fun hg=>.up (by omega) (by omega) hg
theorem Gr.inv7 {X:Lx T N}{ts:List T}{e:List N}(h:Gr X 7 0 ts e):(∃t n,ts=[t]/\e=[n]/\X.k t=some n)∨(∃l r a,ts=l :: (a++[r])/\X.L l=true/\X.R r=true/\Gr X 1 0 a e)∨∃t l r a e',ts=t :: l :: (a++[r])/\e=e'++[X.o (X.f t)]/\X.f t≠0/\X.L l=true/\X.R r=true/\Gr X 8 (X.ar (X.f t)) a e':=by
 generalize hl:(7:Nat)=l at h
 cases h with
 | up=>omega
 | bin=>omega
 | cmp=>omega
 | pre=>omega
 | one h=>exact .inl ⟨_,_,rfl,rfl,h⟩
 | par h1 h2 h3=>exact .inr (.inl ⟨_,_,_,rfl,h1,h2,h3⟩)
 | call h0 h1 h2 h3=>exact .inr (.inr ⟨_,_,_,_,_,rfl,rfl,h0,h1,h2,h3⟩)
theorem qhy {X:Lx T N}(t:T)(e:List N):Gr X 7 0 [t] e ↔ ∃n,X.k t=some n/\e=[n]:=by
 constructor
 . intro h
   rcases h.inv7 with ⟨t',n,h1,h2,h3⟩ | ⟨l,r,a,h1,-⟩ | ⟨t',l,r,a,e',h1,-⟩
   . cases h1;exact⟨n,h3,h2⟩
   . have:=congrArg List.length h1;simp at this
   . have:=congrArg List.length h1;simp at this
 . rintro⟨n,h,rfl⟩
   exact .one h
theorem qi4 {X:Lx T N}(ok:X.Ok){l r:T}{a:List T}(h1:X.L l=true)(h2:X.R r=true)(e:List N):Gr X 7 0 (l :: (a++[r])) e ↔ Gr X 1 0 a e:=by
 constructor
 . intro h
   rcases h.inv7 with ⟨t',n,g1,g2,g3⟩ | ⟨l',r',a',g1,-,-,g2⟩ | ⟨t',l',r',a',e',g1,-,g2,-⟩
   . have:=congrArg List.length g1;simp at this
   . simp only[List.cons.injEq]at g1
     obtain⟨rfl,g1⟩:=g1;obtain⟨rfl,-⟩:=List.append_inj' g1 rfl;exact g2
   . simp only[List.cons.injEq]at g1
     obtain⟨rfl,-⟩:=g1;obtain⟨n,hn⟩:=ok.nf g2;rw[(ok.nk hn).1]at h1;cases h1
 . exact fun h=>.par h1 h2 h
theorem qbl {X:Lx T N}{t l r:T}{a:List T}(h0:X.L t=false)(h1:X.L l=true)(h2:X.R r=true)(e:List N):Gr X 7 0 (t :: l :: (a++[r])) e ↔ X.f t≠0/\∃e',Gr X 8 (X.ar (X.f t)) a e'/\e=e'++[X.o (X.f t)]:=by
 constructor
 . intro h
   rcases h.inv7 with ⟨t',n,g1,g2,g3⟩ | ⟨l',r',a',g1,g2,-⟩ | ⟨t',l',r',a',e',g1,g2,g3,g4,g5,g6⟩
   . have:=congrArg List.length g1;simp at this
   . simp only[List.cons.injEq]at g1
     rw[<- g1.1,h0]at g2;cases g2
   . simp only[List.cons.injEq]at g1
     obtain⟨rfl,rfl,g1⟩:=g1;obtain⟨rfl,-⟩:=List.append_inj' g1 rfl;exact⟨g3,e',g6,g2⟩
 . rintro⟨g1,e',g2,rfl⟩
   exact .call g1 h1 h2 g2
theorem q8d {X:Lx T N}(ok:X.Ok){ts:List T}{e:List N}(h:Gr X 7 0 ts e):(∃t,ts=[t])∨(∃l r a,ts=l :: (a++[r])/\X.L l=true/\X.R r=true/\dpt X a=0/\∀i,i<=a.length->0<=dpt X (a.take i))∨∃t l r a,ts=t :: l :: (a++[r])/\X.g t=true/\X.L l=true/\X.R r=true/\dpt X a=0/\∀i,i<=a.length->0<=dpt X (a.take i):=by
 rcases h.inv7 with ⟨t',n,g1,g2,g3⟩ | ⟨l',r',a',g1,g2,g3,g4⟩ | ⟨t',l',r',a',e',g1,g2,g3,g4,g5,g6⟩
 . exact .inl ⟨t',g1⟩
 . exact .inr (.inl ⟨l',r',a',g1,g2,g3,(g4.ph ok).2.1,(g4.ph ok).2.2⟩)
 . exact .inr (.inr ⟨t',l',r',a',g1,ok.fg t' g3,g4,g5,(g6.ph ok).2.1,(g6.ph ok).2.2⟩)
def dlt (X:Lx T N)(t:T):Int:=if X.L t=true then 1 else if X.R t=true then -1 else 0
theorem qbt (X:Lx T N)(t:T)(r:List T):dpt X (t :: r)=dlt X t+dpt X r:=rfl
def pcs (X:Lx T N):Int->List T->List T->List (List T)
 | _,cur,[]=>[cur]
 | d,cur,t :: r=>if d+dlt X t=0/\X.C t=true then cur :: pcs X 0 [] r else pcs X (d+dlt X t) (cur++[t]) r
def AllG (X:Lx T N):List (List T)->List N->Prop
 | [],e=>e=[]
 | p :: ps,e=>∃e1 e2,Gr X 1 0 p e1/\AllG X ps e2/\e=e1++e2
theorem AllG.app {X:Lx T N}{ps qs:List (List T)}{e1 e2:List N}(h1:AllG X ps e1)(h2:AllG X qs e2):AllG X (ps++qs) (e1++e2):=by
 induction ps generalizing e1 with
 | nil=>cases h1;simpa using h2
 | cons p ps ih =>
  obtain⟨a,b,h3,h4,rfl⟩:=h1;exact⟨a,b++e2,h3,ih h4,by simp⟩
theorem AllG.unapp {X:Lx T N}{ps qs:List (List T)}{e:List N}(h:AllG X (ps++qs) e):∃e1 e2,AllG X ps e1/\AllG X qs e2/\e=e1++e2:=by
 induction ps generalizing e with
 | nil=>exact⟨[],e,rfl,h,rfl⟩
 | cons p ps ih =>
  obtain⟨a,b,h3,h4,rfl⟩:=h;obtain⟨c,d,h5,h6,rfl⟩:=ih h4;exact⟨a++c,d,⟨a,c,h3,h5,rfl⟩,h6,by simp⟩
theorem qi5 {X:Lx T N}(ok:X.Ok){c:T}(hc:X.C c=true)(b:List T):∀(a:List T) (d:Int) (cur:List T),d+dpt X a=0->pcs X d cur (a++c :: b)=pcs X d cur a++pcs X 0 [] b
 | [],d,cur,h=>by
  obtain⟨q1,q2⟩:=ok.nC hc;simp only[List.nil_append,pcs];have:dlt X c=0:=by simp[dlt,q1,q2]
  rw[if_pos ⟨by rw[this];simpa [dpt] using h,hc⟩];rfl
 | t :: a,d,cur,h=>by
  rw[qbt]at h;simp only[List.cons_append,pcs];split
  . rename_i hd
    rw[qi5 ok hc b a 0 [] (by omega)];rfl
  . exact qi5 ok hc b a _ _ (by omega)
theorem qi6 {X:Lx T N}:∀(b:List T) (d:Int) (cur:List T),(∀i t,b[i]? = some t->d+dpt X (b.take (i+1))=0->X.C t=false)->pcs X d cur b=[cur++b]
 | [],d,cur,_=>by simp[pcs]
 | t :: b,d,cur,h=>by
  simp only[pcs];rw[if_neg]
  . rw[qi6 b _ _ fun i x hx hd=>h (i+1) x (by simpa using hx) (by rw[List.take_succ_cons,qbt];omega)]
    simp
  . rintro⟨h1,h2⟩
    have:=h 0 t rfl (by simp[List.take_succ_cons,qbt,dpt];exact h1);rw[this]at h2;cases h2
theorem qbb {X:Lx T N}(ok:X.Ok){l n:Nat}{a:List T}{e:List N}(h:Gr X l n a e):l=8->(pcs X 0 [] a).length=n/\AllG X (pcs X 0 [] a) e:=by
 have one:∀{b:List T} {e:List N},Gr X 1 0 b e->pcs X 0 [] b=[b]:=fun h=>by
  rw[qi6 _ 0 [] fun i t hi hd=>((h.ph ok).1 (by omega)).nc i t hi (by omega)];rfl
 induction h with
 | arg ha=>intro _;rw[one ha];exact⟨rfl,_,_,ha,rfl,by simp⟩
 | args ha hc hb iha _ =>
  intro _;obtain⟨h1,h2⟩:=iha rfl;rw[qi5 ok hc _ _ 0 [] (by rw[(ha.ph ok).2.1];rfl),one hb];exact⟨by simp[h1],h2.app ⟨_,_,hb,rfl,by simp⟩⟩
 | up=>omega
 | bin=>omega
 | cmp=>omega
 | pre=>omega
 | one=>omega
 | par=>omega
 | call=>omega
theorem qdl {X:Lx T N}:∀(a:List T) (d:Int) (cur:List T) (e:List N),AllG X (pcs X d cur a) e->Gr X 8 (pcs X d cur a).length (cur++a) e/\∀m pre c e0,Gr X 8 m pre e0->X.C c=true->Gr X 8 (m+(pcs X d cur a).length) (pre++c :: (cur++a)) (e0++e)
 | [],d,cur,e,h=>by
  simp only[pcs]at h⊢;obtain⟨e1,e2,h1,rfl,rfl⟩:=h;rw[List.append_nil,List.append_nil];exact⟨.arg h1,fun m pre c e0 hp hc=>.args hp hc h1⟩
 | t :: a,d,cur,e,h=>by
  simp only[pcs]at h⊢;split at h
  . rename_i hd
    obtain⟨e1,e2,h1,h2,rfl⟩:=h;obtain⟨-,h3⟩:=qdl a 0 [] e2 h2;rw[if_pos hd,List.length_cons];constructor
    . have:=h3 1 cur t e1 (.arg h1) hd.2
      rw[Nat.add_comm]at this;simpa using this
    . intro m pre c e0 hp hc
      have:=h3 (m+1) _ t _ (.args hp hc h1) hd.2;rw[show m+((pcs X 0 [] a).length+1)=m+1+(pcs X 0 [] a).length by omega];simpa using this
  . rename_i hd
    rw[if_neg hd];have:=qdl a _ _ e h;rw[List.append_assoc]at this;exact this
theorem qba {X:Lx T N}(ok:X.Ok){n:Nat}{a:List T}{e:List N}:Gr X 8 n a e ↔ (pcs X 0 [] a).length=n/\AllG X (pcs X 0 [] a) e:=by
 constructor
 . exact fun h=>qbb ok h rfl
 . rintro⟨rfl,h⟩
   exact(qdl a 0 [] e h).1
def mtc (X:Lx T N):Int->List T->Option Nat
 | _,[]=>none
 | d,t :: r=>if X.R t=true/\d+dlt X t=0 then some 0 else (mtc X (d+dlt X t) r).map (· + 1)
theorem qhv {X:Lx T N}:∀(s:List T) (d:Int) (j:Nat),mtc X d s=some j->∃a r b,s=a++r :: b/\a.length=j/\X.R r=true
 | [],_,_,h=>by cases h
 | t :: s,d,j,h=>by
  simp only[mtc]at h;split at h
  . rename_i hq
    cases h;exact⟨[],t,s,rfl,rfl,hq.1⟩
  . cases hm:mtc X (d+dlt X t) s with
    | none=>rw[hm]at h;cases h
    | some k =>
     rw[hm]at h;cases h;obtain⟨a,r,b,rfl,rfl,hr⟩:=qhv s _ k hm;exact⟨t :: a,r,b,rfl,rfl,hr⟩
theorem qhu {X:Lx T N}(ok:X.Ok){r:T}(hr:X.R r=true):∀(a:List T) (d:Int),1<=d->d+dpt X a=1->(∀i,i<=a.length->1<=d+dpt X (a.take i))->mtc X d (a++[r])=some a.length
 | [],d,_,h,_=>by
  simp only[dpt]at h;simp only[List.nil_append,mtc];rw[if_pos ⟨hr,by simp[dlt,ok.rl hr,hr];omega⟩];rfl
 | t :: a,d,h1,h2,h3=>by
  rw[qbt]at h2;simp only[List.cons_append,mtc];have h4:=h3 1 (by simp);rw[List.take_succ_cons,qbt]at h4;simp only[List.take_zero,dpt]at h4;rw[if_neg (by rintro⟨-,h⟩;omega),qhu ok hr a _ (by omega) (by omega) fun i hi=>by
   have:=h3 (i+1) (by simpa using hi);rw[List.take_succ_cons,qbt]at this;omega]
  rfl
theorem q7e {X:Lx T N}(ok:X.Ok){l r:T}{a:List T}(h1:X.L l=true)(h2:X.R r=true)(d0:dpt X a=0)(dn:∀i,i<=a.length->0<=dpt X (a.take i)):mtc X 0 (l :: (a++[r]))=some (a.length+1):=by
 have hd:dlt X l=1:=by simp[dlt,h1]
 simp only[mtc]
 rw[if_neg (by rintro⟨-,h⟩;omega),hd,qhu ok h2 a _ (by omega) (by omega) fun i hi=>by have:=dn i hi;omega]
 rfl
theorem q5d {X:Lx T N}{l:T}{s:List T}(h:mtc X 0 (l :: s)=some s.length)(h1:X.L l=true):∃a r,s=a++[r]/\X.R r=true:=by
 have hd:dlt X l=1:=by simp[dlt,h1]
 simp only[mtc]at h
 rw[if_neg (by rintro⟨-,h⟩;omega)]at h
 cases hm:mtc X (0+dlt X l) s with
 | none=>rw[hm]at h;cases h
 | some k =>
  rw[hm]at h;simp only[Option.map_some,Option.some.injEq]at h;obtain⟨a,r,b,rfl,h3,h4⟩:=qhv s _ k hm;simp only[List.length_append,List.length_cons]at h;have hb:b=[]:=List.length_eq_zero_iff.1 (by omega);subst hb;exact⟨a,r,rfl,h4⟩
def lsd (X:Lx T N)(l:Nat)(ts:List T)(k:Nat)(last:Option Nat):Prop:=match last with
 | none=>∀i,i+1<k->¬ BinAt X l ts i
 | some j=>∃i,j=i+1/\j<k/\BinAt X l ts i/\∀i',i<i'->i'+1<k->¬ BinAt X l ts i'
theorem qcs (X:Lx T N)(l:Nat)(ts:List T):lsd X l ts 0 none:=fun i h=>by omega
theorem lsd_no {X:Lx T N}{l:Nat}{ts:List T}{k:Nat}{last:Option Nat}(h:lsd X l ts k last)(hn:∀i,i+1=k->¬ BinAt X l ts i):lsd X l ts (k+1) last:=by
 cases last with
 | none =>
  intro i hi;by_cases e:i+1=k
  . exact hn i e
  . exact h i (by omega)
 | some j =>
  obtain⟨i,h1,h2,h3,h4⟩:=h;refine⟨i,h1,by omega,h3,fun i' h5 h6=>?_⟩;by_cases e:i'+1=k
  . exact hn i' e
  . exact h4 i' h5 (by omega)
theorem qh9 {X:Lx T N}{l:Nat}{ts:List T}{i:Nat}(hb:BinAt X l ts i):lsd X l ts (i+2) (some (i+1)):=⟨i,rfl,by omega,hb,fun i' h1 h2=>by omega⟩
end Go.Proofs.YtfmammdgehbjhaaGreatDoor
namespace Go.Proofs.YtfmammdgehbjhaaGreatDoor
open Go
def mid (s:ByteArray):ByteArray:=s.extract 1 (s.size - 1)
theorem qcv (s:ByteArray):(mid s).size=s.size - 1 - 1:=by simp[mid]
def rv (s:ByteArray):Int × Int × ByteArray × Bool :=
 if s=⟨#[98,108,97,110,107]⟩ then (0,0,⟨#[]⟩,true)
 else if s=⟨#[116,114,117,101]⟩ then (2,1,⟨#[]⟩,true)
 else if s=⟨#[102,97,108,115,101]⟩ then (2,0,⟨#[]⟩,true)
 else match readDec s.data.toList with
  | some n=>(1,n,⟨#[]⟩,true)
  | none=>if 2<=s.size/\okText (mid s)=true/\⟨#[34]⟩++mid s++⟨#[34]⟩=s then (3,0,mid s,true) else (0,0,⟨#[]⟩,false)
theorem q3r {l:List UInt8}{n:Int}(h:readDec l=some n):Lib.itoa n=l:=by
 unfold readDec at h
 split at h
 . rename_i m _
   split at h
   . rename_i e
     simp only[Zr]at h;rw[<- h];exact e
   . cases h
 . cases h
theorem q3o {l:List UInt8}{n:Int}(h:readDec l=some n):∃c r,l=c :: r/\((c=45/\r≠[])∨(48<=c.toNat/\c.toNat<=57)):=by
 have e:=q3r h
 unfold Lib.itoa at e
 split at e
 . obtain⟨c,r,h1,-⟩:=qbs n.natAbs
   exact⟨45,Lib.decDigits n.natAbs,e.symm,.inl ⟨rfl,by rw[h1];simp⟩⟩
 . obtain⟨c,r,h1,h2,h3⟩:=qbs n.toNat
   exact⟨c,r,by rw[<- e,h1],.inr ⟨h2,h3⟩⟩
theorem qis {s:ByteArray}(h:(rv s).2.2.2=true):s=⟨#[98,108,97,110,107]⟩∨s=⟨#[116,114,117,101]⟩∨s=⟨#[102,97,108,115,101]⟩∨∃c r,s.data.toList=c :: r/\((c=45/\r≠[])∨(48<=c.toNat/\c.toNat<=57)∨c=34):=by
 unfold rv at h
 split at h
 . rename_i e;exact .inl e
 . split at h
   . rename_i e;exact .inr (.inl e)
   . split at h
     . rename_i e;exact .inr (.inr (.inl e))
     . split at h
       . rename_i n hn
         obtain⟨c,r,h1,h2⟩:=q3o hn;exact .inr (.inr (.inr ⟨c,r,h1,by rcases h2 with h | h <;> simp[h]⟩))
       . split at h
         . rename_i hq
           refine .inr (.inr (.inr ⟨34,(mid s).data.toList++[34],?_,.inr (.inr rfl)⟩));have:=congrArg (fun x:ByteArray=>x.data.toList) hq.2.2;simp only[Zu,Vq]at this;rw[<- this];rfl
         . cases h
def opW (s:ByteArray):Nat->Nat->Nat
 | _,0=>0
 | a,n+1=>if wrd a=s then a else opW s (a+1) n
theorem qd9 {s:ByteArray}:∀{n a:Nat},opW s a n≠0->a<=opW s a n/\opW s a n<a+n/\wrd (opW s a n:Nat)=s
 | 0,_,h=>absurd rfl h
 | n+1,a,h=>by
  unfold opW at h⊢;split at h
  . rename_i e
    rw[Yn e];exact⟨nR _,by omega,e⟩
  . rename_i e
    rw[Yi e];have:=qd9 (n:=n) (a:=a+1) h;exact⟨by omega,by omega,this.2.2⟩
def opNd (o:Nat):Nx:=⟨o,blankX,⟨#[]⟩⟩
def fldNd (s:ByteArray):Nx:=⟨1,blankX,s⟩
def cstNd (s:ByteArray):Nx:=⟨0,⟨(rv s).1,(rv s).2.1,(rv s).2.2.1⟩,⟨#[]⟩⟩
def tkK (s:ByteArray):Option Nx:=if goodN s=true then some (fldNd s) else if (rv s).2.2.2=true then some (cstNd s) else none
def tkX:Lx ByteArray Nx where
 L s:=decide (s=⟨#[40]⟩)
 R s:=decide (s=⟨#[41]⟩)
 C s:=decide (s=⟨#[44]⟩)
 b s:=opW s 4 12
 u s:=opW s 2 2
 k:=tkK
 g:=goodN
 f s:=if goodN s=true then opW s 16 10 else 0
 lv o:=(lvl o).toNat
 ar o:=(ar o).toNat
 o:=opNd
theorem qep {s:ByteArray}(h:goodN s=false)(h':(rv s).2.2.2=false):tkK s=none:=by
 unfold tkK;rw[h,h'];rfl
theorem rv_no {s:ByteArray}(h1:s≠⟨#[98,108,97,110,107]⟩)(h2:s≠⟨#[116,114,117,101]⟩)(h3:s≠⟨#[102,97,108,115,101]⟩)(h4:∀c r,s.data.toList=c :: r->¬ ((c=45/\r≠[])∨(48<=c.toNat/\c.toNat<=57)∨c=34)):(rv s).2.2.2=false:=by
 cases q:(rv s).2.2.2 with
 | false=>rfl
 | true =>
  rcases qis q with h | h | h | ⟨c,r,h,h'⟩
  . exact absurd h h1
  . exact absurd h h2
  . exact absurd h h3
  . exact absurd h' (h4 c r h)
theorem sgn_k:∀s∈([⟨#[40]⟩,⟨#[41]⟩,⟨#[44]⟩]++[2,3,4,5,6,7,8,9,10,11,12,13,14,15].map (fun o:Int=>wrd o):List ByteArray),tkK s=none:=by
 intro s hs
 have hs':s∈([⟨#[40]⟩,⟨#[41]⟩,⟨#[44]⟩,⟨#[45]⟩,⟨#[110,111,116]⟩,⟨#[42]⟩,⟨#[47]⟩,⟨#[37]⟩,⟨#[43]⟩,⟨#[45]⟩,⟨#[38]⟩,⟨#[61]⟩,⟨#[60,62]⟩,⟨#[60]⟩,⟨#[60,61]⟩,⟨#[97,110,100]⟩,⟨#[111,114]⟩]:List ByteArray):=hs
 simp only[Y9,Z1,or_false]at hs'
 rcases hs' with h | h | h | h | h | h | h | h | h | h | h | h | h | h | h | h | h
 all_goals
  subst h;refine qep (by first | decide | decide +kernel) (rv_no (by decide) (by decide) (by decide) fun c r h=>?_);simp only[Vp]at h;obtain⟨rfl,rfl⟩:=h
  decide
theorem b_k {s:ByteArray}(h:opW s 4 12≠0):tkK s=none:=by
 obtain⟨h1,h2,h3⟩:=qd9 h
 generalize opW s 4 12=o at *
 refine sgn_k s ?_
 rw[<- h3]
 have:o=4∨o=5∨o=6∨o=7∨o=8∨o=9∨o=10∨o=11∨o=12∨o=13∨o=14∨o=15:=by omega
 rcases this with rfl | rfl | rfl | rfl | rfl | rfl | rfl | rfl | rfl | rfl | rfl | rfl <;> exact List.mem_append_right _ (Z4.2 ⟨_,by decide,rfl⟩)
theorem u_k {s:ByteArray}(h:opW s 2 2≠0):tkK s=none:=by
 obtain⟨h1,h2,h3⟩:=qd9 h
 generalize opW s 2 2=o at *
 refine sgn_k s ?_
 rw[<- h3]
 have:o=2∨o=3:=by omega
 rcases this with rfl | rfl <;> exact List.mem_append_right _ (Z4.2 ⟨_,by decide,rfl⟩)
theorem tkX_ok:tkX.Ok where
 LR t h:=by
  obtain rfl:t=⟨#[40]⟩:=Ze h;exact⟨by decide,by decide,by decide,by decide,sgn_k ⟨#[40]⟩ (Of _ (by simp))⟩
 RC t h:=by
  obtain rfl:t=⟨#[41]⟩:=Ze h;exact⟨by decide,by decide,by decide,sgn_k ⟨#[41]⟩ (Of _ (by simp))⟩
 Cb t h:=by
  obtain rfl:t=⟨#[44]⟩:=Ze h;exact⟨by decide,by decide,sgn_k ⟨#[44]⟩ (Of _ (by simp))⟩
 bk t h:=b_k h
 uk t h:=u_k h
 gk t h:=by
  show tkK t≠none;unfold tkK;rw[Yn (show goodN t=true from h)];simp
 fg t h:=by
  cases q:goodN t with
  | true=>exact q
  | false=>exact absurd (by show(if goodN t=true then _ else 0)=0;rw[q];rfl) h
 lv t h:=by
  obtain⟨h1,h2,h3⟩:=qd9 h;show 1<=(lvl (opW t 4 12:Nat)).toNat/\(lvl (opW t 4 12:Nat)).toNat<=5;generalize opW t 4 12=o at *;have:o=4∨o=5∨o=6∨o=7∨o=8∨o=9∨o=10∨o=11∨o=12∨o=13∨o=14∨o=15:=by omega
  rcases this with rfl | rfl | rfl | rfl | rfl | rfl | rfl | rfl | rfl | rfl | rfl | rfl <;> decide
 ar t h:=by
  have hg:goodN t=true:=by
   cases q:goodN t with
   | true=>rfl
   | false=>exact absurd (by show(if goodN t=true then _ else 0)=0;rw[q];rfl) h
  have h':opW t 16 10≠0:=by
   have e:tkX.f t=opW t 16 10:=by show(if goodN t=true then _ else 0)=_;rw[Yn hg]
   rw[<- e];exact h
  have e:tkX.f t=opW t 16 10:=by show(if goodN t=true then _ else 0)=_;rw[Yn hg]
  rw[e];obtain⟨h1,h2,h3⟩:=qd9 h';show 1<=(Go.Proofs.YtfmammdgehbjhaaGreatDoor.ar (opW t 16 10:Nat)).toNat;generalize opW t 16 10=o at *;have:o=16∨o=17∨o=18∨o=19∨o=20∨o=21∨o=22∨o=23∨o=24∨o=25:=by omega
  rcases this with rfl | rfl | rfl | rfl | rfl | rfl | rfl | rfl | rfl | rfl <;> decide
def bt (s:ByteArray)(i:Nat):Nat:=if h:i<s.size then (s[i]).toNat else 0
theorem bt_lt {s:ByteArray}{i:Nat}(h:i<s.size):bt s i=(s[i]).toNat:=by unfold bt;rw[dif_pos h]
theorem bt_ge {s:ByteArray}{i:Nat}(h:¬ i<s.size):bt s i=0:=by unfold bt;rw[dif_neg h]
def wsB (c:Nat):Bool:=decide (c=32∨c=10)
def symB (c:Nat):Bool:=decide (c=40∨c=41∨c=44∨c=59∨c=43∨c=45∨c=42∨c=47∨c=37∨c=38∨c=61)
def tokE (s:ByteArray)(i:Nat):Nat :=
 if small (bt s i)=true then i+1+runN nameB s (i+1)
 else if digitB (bt s i)=true then i+1+runN digitB s (i+1)
 else if bt s i=34 then (if bt s (i+1+runN tb s (i+1))=34 then i+1+runN tb s (i+1)+1 else i)
 else if bt s i=60 then (if bt s (i+1)=62∨bt s (i+1)=61 then i+2 else i+1)
 else if symB (bt s i)=true then i+1 else i
def keepsB (t:ByteArray):Bool:=if small (bt t 0)=true then decide (t.size<=16) else if digitB (bt t 0)=true∨bt t 0=34 then (rv t).2.2.2 else true
def tk (s:ByteArray)(i:Nat):Option (ByteArray × Nat):=if tokE s i=i then none else if keepsB (s.extract i (tokE s i))=true then some (s.extract i (tokE s i),tokE s i) else none
def lxF (s:ByteArray):Nat->Nat->List ByteArray->Nat ⊕ List ByteArray
 | 0,_,acc=>.inr acc
 | f+1,i,acc=>if s.size<=i then .inr acc else if wsB (bt s i)=true then lxF s f (i+1) acc else match tk s i with
  | none=>.inl i
  | some (t,e)=>lxF s f e (acc++[t])
def LxAt (s:ByteArray)(i:Nat)(acc:List ByteArray):Prop:=∃f,s.size - i<=f/\lxF s f i acc=lxF s s.size 0 []
theorem LxAt.start (s:ByteArray):LxAt s 0 []:=⟨s.size,nR _,rfl⟩
theorem LxAt.done {s:ByteArray}{i:Nat}{acc:List ByteArray}(h:LxAt s i acc)(hi:s.size<=i):lxF s s.size 0 []=.inr acc:=by
 obtain⟨f,-,h⟩:=h
 rw[<- h]
 cases f with
 | zero=>rfl
 | succ f=>unfold lxF;rw[Yn hi]
theorem LxAt.skip {s:ByteArray}{i:Nat}{acc:List ByteArray}(h:LxAt s i acc)(hi:i<s.size)(hw:wsB (bt s i)=true):LxAt s (i+1) acc:=by
 obtain⟨f,hf,h⟩:=h
 obtain⟨f,rfl⟩:∃g,f=g+1:=⟨f - 1,by omega⟩
 refine⟨f,by omega,?_⟩
 rw[<- h]
 conv=>rhs;unfold lxF
 rw[Yi (by omega),Yn hw]
theorem LxAt.next {s:ByteArray}{i e:Nat}{t:ByteArray}{acc:List ByteArray}(h:LxAt s i acc)(hi:i<s.size)(hw:wsB (bt s i)=false)(ht:tk s i=some (t,e))(he:i<e):LxAt s e (acc++[t]):=by
 obtain⟨f,hf,h⟩:=h
 obtain⟨f,rfl⟩:∃g,f=g+1:=⟨f - 1,by omega⟩
 refine⟨f,by omega,?_⟩
 rw[<- h]
 conv=>rhs;unfold lxF
 rw[Yi (by omega),Yi (by rw[hw];decide),ht]
theorem LxAt.bad {s:ByteArray}{i:Nat}{acc:List ByteArray}(h:LxAt s i acc)(hi:i<s.size)(hw:wsB (bt s i)=false)(ht:tk s i=none):lxF s s.size 0 []=.inl i:=by
 obtain⟨f,hf,h⟩:=h
 obtain⟨f,rfl⟩:∃g,f=g+1:=⟨f - 1,by omega⟩
 rw[<- h]
 unfold lxF
 rw[Yi (by omega),Yi (by rw[hw];decide),ht]
theorem qjf {s:ByteArray}{i:Nat}(hi:i<s.size):i<=tokE s i/\tokE s i<=s.size:=by
 have a:=qio nameB s (i+1)
 have b:=qio digitB s (i+1)
 have c:=qio tb s (i+1)
 unfold tokE
 split
 . omega
 . split
   . omega
   . split
     . split
       . rename_i h
         by_cases hq:i+1+runN tb s (i+1)<s.size
         . omega
         . rw[bt_ge hq]at h;cases h
       . omega
     . split
       . split
         . rename_i h
           by_cases hq:i+1<s.size
           . omega
           . rw[bt_ge hq]at h;omega
         . omega
       . split <;> omega
theorem qjd {s t:ByteArray}{i e:Nat}(hi:i<s.size)(h:tk s i=some (t,e)):i<e/\e<=s.size/\e=tokE s i/\t=s.extract i e/\keepsB t=true:=by
 unfold tk at h
 have:=qjf hi
 split at h
 . cases h
 . split at h
   . rename_i h1 h2
     cases h;exact⟨by omega,this.2,rfl,rfl,h2⟩
   . cases h
def cls (t:ByteArray):Nat:=if small (bt t 0)=true then 1 else if digitB (bt t 0)=true then 2 else if bt t 0=34 then 3 else 4
def txt (t:ByteArray):ByteArray:=if cls t=3 then mid t else t
theorem bt_ext {s:ByteArray}{i e j:Nat}(he:e<=s.size)(hj:i+j<e):bt (s.extract i e) j=bt s (i+j):=by
 have h1:j<(s.extract i e).size:=by simp;omega
 rw[bt_lt h1,bt_lt (by omega),ByteArray.getElem_extract]
theorem qe8 {c:Nat}(h:small c=true):nameB c=true:=by unfold nameB;rw[h];rfl
theorem qae {p:Nat->Bool}{s:ByteArray}{i:Nat}(hi:i<s.size)(h:p (bt s i)=true):runN p s i=1+runN p s (i+1):=by
 unfold runN
 rw[bt_lt hi]at h
 have e:s.data.toList.drop i=s[i] :: s.data.toList.drop (i+1):=Y8 (l:=s.data.toList) (i:=i) (by rw[Z7];exact hi)
 rw[e,List.takeWhile_cons_of_pos (by simpa using h),Yl]
 omega
theorem ba_ext {a b:ByteArray}(h:a.data.toList=b.data.toList):a=b:=by
 cases a with
 | mk x =>
  cases b with
  | mk y =>
   have:x=y:=Array.toList_inj.1 h;rw[this]
theorem bt_one {t:ByteArray}(h:t.size=1){c:UInt8}(hc:bt t 0=c.toNat):t=⟨#[c]⟩:=by
 rw[bt_lt (by omega)]at hc
 refine ba_ext (List.ext_getElem (by simpa using h) fun j h1 h2=>?_)
 have hj:j=0:=by simp at h2;omega
 subst hj
 simp only[Array.getElem_toList]
 exact UInt8.toNat_inj.1 hc
theorem bt_two {t:ByteArray}(h:t.size=2){c d:UInt8}(hc:bt t 0=c.toNat)(hd:bt t 1=d.toNat):t=⟨#[c,d]⟩:=by
 rw[bt_lt (by omega)]at hc hd
 refine ba_ext (List.ext_getElem (by simpa using h) fun j h1 h2=>?_)
 have hj:j=0∨j=1:=by simp at h2;omega
 rcases hj with rfl | rfl
 . simp only[Array.getElem_toList];exact UInt8.toNat_inj.1 hc
 . simp only[Array.getElem_toList];exact UInt8.toNat_inj.1 hd
def syms:List ByteArray:=[⟨#[40]⟩,⟨#[41]⟩,⟨#[44]⟩,⟨#[59]⟩,⟨#[43]⟩,⟨#[45]⟩,⟨#[42]⟩,⟨#[47]⟩,⟨#[37]⟩,⟨#[38]⟩,⟨#[61]⟩,⟨#[60]⟩,⟨#[60,62]⟩,⟨#[60,61]⟩]
structure VT (t:ByteArray):Prop where
 ne:0<t.size
 c1:cls t=1->t.size<=16
 c2:cls t=2->(rv t).2.2.2=true
 c3:cls t=3->(rv t).2.2.2=true
 c4:cls t=4->t∈syms
theorem tk_vt {s t:ByteArray}{i e:Nat}(hi:i<s.size)(h:tk s i=some (t,e)):VT t:=by
 obtain⟨h1,h2,h3,rfl,h5⟩:=qjd hi h
 have hb:bt (s.extract i e) 0=bt s i:=bt_ext h2 (by omega)
 have hz:(s.extract i e).size=e - i:=by simp;omega
 refine⟨by omega,fun hc=>?_,fun hc=>?_,fun hc=>?_,fun hc=>?_⟩
 . unfold cls at hc
   split at hc
   . rename_i hq
     unfold keepsB at h5;rw[Yn hq]at h5;exact Ze h5
   . split at hc
     . omega
     . split at hc <;> omega
 . unfold cls at hc
   split at hc
   . omega
   . rename_i hq
     split at hc
     . rename_i hd
       unfold keepsB at h5;rw[Yi hq,Yn (.inl hd)]at h5;exact h5
     . split at hc <;> omega
 . unfold cls at hc
   split at hc
   . omega
   . rename_i hq
     split at hc
     . omega
     . split at hc
       . rename_i hd
         unfold keepsB at h5;rw[Yi hq,Yn (.inr hd)]at h5;exact h5
       . omega
 . unfold cls at hc
   split at hc
   . omega
   . rename_i hq
     split at hc
     . omega
     . rename_i hd
       split at hc
       . omega
       . rename_i h34
         rw[hb]at hq hd h34;unfold tokE at h3;rw[Yi hq,Yi hd,Yi h34]at h3;split at h3
         . rename_i h60
           split at h3
           . rename_i hn
             have hz2:(s.extract i e).size=2:=(by omega);have hb1:bt (s.extract i e) 1=bt s (i+1):=bt_ext h2 (by omega);rcases hn with hn | hn
             . rw[bt_two hz2 (c:=60) (d:=62) (by rw[hb,h60];rfl) (by rw[hb1,hn];rfl)];simp[syms]
             . rw[bt_two hz2 (c:=60) (d:=61) (by rw[hb,h60];rfl) (by rw[hb1,hn];rfl)];simp[syms]
           . rw[bt_one (t:=s.extract i e) (by omega) (c:=60) (by rw[hb,h60];rfl)];simp[syms]
         . split at h3
           . rename_i hs
             have hz1:(s.extract i e).size=1:=(by omega);have hs':=Ze hs;rcases hs' with h | h | h | h | h | h | h | h | h | h | h
             . rw[bt_one hz1 (c:=40) (by rw[hb,h];rfl)];simp[syms]
             . rw[bt_one hz1 (c:=41) (by rw[hb,h];rfl)];simp[syms]
             . rw[bt_one hz1 (c:=44) (by rw[hb,h];rfl)];simp[syms]
             . rw[bt_one hz1 (c:=59) (by rw[hb,h];rfl)];simp[syms]
             . rw[bt_one hz1 (c:=43) (by rw[hb,h];rfl)];simp[syms]
             . rw[bt_one hz1 (c:=45) (by rw[hb,h];rfl)];simp[syms]
             . rw[bt_one hz1 (c:=42) (by rw[hb,h];rfl)];simp[syms]
             . rw[bt_one hz1 (c:=47) (by rw[hb,h];rfl)];simp[syms]
             . rw[bt_one hz1 (c:=37) (by rw[hb,h];rfl)];simp[syms]
             . rw[bt_one hz1 (c:=38) (by rw[hb,h];rfl)];simp[syms]
             . rw[bt_one hz1 (c:=61) (by rw[hb,h];rfl)];simp[syms]
           . omega
theorem txt_eq {t:ByteArray}(h:cls t≠3):txt t=t:=by unfold txt;rw[Yi h]
theorem qj7 {t w:ByteArray}(hw:cls w=4):(cls t=4/\txt t=w) ↔ t=w:=by
 constructor
 . rintro⟨h1,h2⟩
   rw[txt_eq (by omega)]at h2;exact h2
 . rintro rfl
   exact⟨hw,txt_eq (by omega)⟩
theorem qf5 {t w:ByteArray}(hw:cls w=1):(cls t=1/\txt t=w) ↔ t=w:=by
 constructor
 . rintro⟨h1,h2⟩
   rw[txt_eq (by omega)]at h2;exact h2
 . rintro rfl
   exact⟨hw,txt_eq (by omega)⟩
theorem q98 {t:ByteArray}(h:goodN t=true):cls t=1:=by
 unfold goodN at h
 simp only[Yo,Yj]at h
 have h0:bt t 0=(t.data.getD 0 0).toNat:=by
  rw[bt_lt (by omega)];have hd:0<t.data.size:=by have:=h.1.1.1.1;exact this
  have hd':0<t.size:=hd;simp only[Array.getD,hd,dif_pos];rfl
 unfold cls
 rw[h0,Yn h.1.1.2]
theorem qcg {t:ByteArray}:(cls t=1/\goodN (txt t)=true) ↔ goodN t=true:=by
 constructor
 . rintro⟨h1,h2⟩
   rw[txt_eq (by omega)]at h2;exact h2
 . intro h
   have:=q98 h;exact⟨this,by rw[txt_eq (by omega)];exact h⟩
theorem bt0 {t:ByteArray}{c:UInt8}{r:List UInt8}(h:t.data.toList=c :: r):bt t 0=c.toNat:=by
 have hz:0<t.size:=by
  have:=congrArg List.length h;rw[Z7,Yl]at this;show 0<t.data.size;omega
 rw[bt_lt hz]
 have:t.data.toList[0]? = some c:=by rw[h];rfl
 rw[Z6]at this
 obtain⟨h1,h2⟩:=this
 rw[<- h2]
 simp;rfl
theorem rv_int {t:ByteArray}(h:cls t=2)(hr:(rv t).2.2.2=true):∃n,readDec t.data.toList=some n/\rv t=(1,n,⟨#[]⟩,true):=by
 have hd:∀c r,t.data.toList=c :: r->48<=c.toNat/\c.toNat<=57:=fun c r e=>by
  have:=bt0 e;unfold cls at h;split at h
  . omega
  . split at h
    . rename_i hq
      rw[this]at hq;exact Ze hq
    . split at h <;> omega
 have n1:t≠⟨#[98,108,97,110,107]⟩:=fun e=>by subst e;exact absurd (hd 98 _ rfl) (by decide)
 have n2:t≠⟨#[116,114,117,101]⟩:=fun e=>by subst e;exact absurd (hd 116 _ rfl) (by decide)
 have n3:t≠⟨#[102,97,108,115,101]⟩:=fun e=>by subst e;exact absurd (hd 102 _ rfl) (by decide)
 unfold rv at hr⊢
 rw[Yi n1,Yi n2,Yi n3]at hr⊢
 split at hr
 . rename_i n hn
   exact⟨n,hn,rfl⟩
 . split at hr
   . rename_i hq
     have:=congrArg (fun x:ByteArray=>x.data.toList) hq.2.2;simp only[Zu,Vq]at this;have h9:=hd 34 _ this.symm;exact absurd h9 (by decide)
   . cases hr
theorem rv_txt {t:ByteArray}(h:cls t=3)(hr:(rv t).2.2.2=true):rv t=(3,0,mid t,true)/\okText (mid t)=true:=by
 have hd:bt t 0=34:=by
  unfold cls at h;split at h
  . omega
  . split at h
    . omega
    . split at h
      . assumption
      . omega
 have hd':∀c r,t.data.toList=c :: r->c.toNat=34:=fun c r e=>by rw[<- bt0 e];exact hd
 have n1:t≠⟨#[98,108,97,110,107]⟩:=fun e=>by subst e;exact absurd (hd' 98 _ rfl) (by decide)
 have n2:t≠⟨#[116,114,117,101]⟩:=fun e=>by subst e;exact absurd (hd' 116 _ rfl) (by decide)
 have n3:t≠⟨#[102,97,108,115,101]⟩:=fun e=>by subst e;exact absurd (hd' 102 _ rfl) (by decide)
 unfold rv at hr⊢
 rw[Yi n1,Yi n2,Yi n3]at hr⊢
 split at hr
 . rename_i n hn
   obtain⟨c,r,e,hc⟩:=q3o hn;have:=hd' c r e;rcases hc with ⟨rfl,-⟩ | hc
   . exact absurd this (by decide)
   . omega
 . rename_i hn
   split at hr
   . rename_i hq
     exact⟨Yn hq,hq.2.1⟩
   . cases hr
end Go.Proofs.YtfmammdgehbjhaaGreatDoor
