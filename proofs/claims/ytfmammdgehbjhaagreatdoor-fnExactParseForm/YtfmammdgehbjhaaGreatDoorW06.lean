namespace Go.Proofs.YtfmammdgehbjhaaGreatDoor
open List
structure Lx (T N:Type) where
 L:T->Bool
 R:T->Bool
 C:T->Bool
 b:T->Nat
 u:T->Nat
 k:T->Option N
 g:T->Bool
 f:T->Nat
 lv:Nat->Nat
 ar:Nat->Nat
 o:Nat->N
structure Lx.Ok {T N:Type}(X:Lx T N):Prop where
 LR:∀t,X.L t=true->X.R t=false/\X.C t=false/\X.b t=0/\X.u t=0/\X.k t=none
 RC:∀t,X.R t=true->X.C t=false/\X.b t=0/\X.u t=0/\X.k t=none
 Cb:∀t,X.C t=true->X.b t=0/\X.u t=0/\X.k t=none
 bk:∀t,X.b t≠0->X.k t=none
 uk:∀t,X.u t≠0->X.k t=none
 gk:∀t,X.g t=true->X.k t≠none
 fg:∀t,X.f t≠0->X.g t=true
 lv:∀t,X.b t≠0->1<=X.lv (X.b t)/\X.lv (X.b t)<=5
 ar:∀t,X.f t≠0->1<=X.ar (X.f t)
variable {T N:Type}
def Lx.eo (X:Lx T N)(t:T):Bool:=X.R t||(X.k t).isSome
inductive Gr (X:Lx T N):Nat->Nat->List T->List N->Prop
 | up {l ts e}:1<=l->l<=6->Gr X (l+1) 0 ts e->Gr X l 0 ts e
 | bin {l a t b ea eb}:1<=l->l<=5->l≠3->Gr X l 0 a ea->X.b t≠0->X.lv (X.b t)=l->Gr X (l+1) 0 b eb->Gr X l 0 (a++t :: b) (ea++eb++[X.o (X.b t)])
 | cmp {a t b ea eb}:Gr X 4 0 a ea->X.b t≠0->X.lv (X.b t)=3->Gr X 4 0 b eb->Gr X 3 0 (a++t :: b) (ea++eb++[X.o (X.b t)])
 | pre {t b eb}:X.u t≠0->Gr X 6 0 b eb->Gr X 6 0 (t :: b) (eb++[X.o (X.u t)])
 | one {t n}:X.k t=some n->Gr X 7 0 [t] [n]
 | par {l r a e}:X.L l=true->X.R r=true->Gr X 1 0 a e->Gr X 7 0 (l :: (a++[r])) e
 | call {t l r a e}:X.f t≠0->X.L l=true->X.R r=true->Gr X 8 (X.ar (X.f t)) a e->Gr X 7 0 (t :: l :: (a++[r])) (e++[X.o (X.f t)])
 | arg {a e}:Gr X 1 0 a e->Gr X 8 1 a e
 | args {n a c b ea eb}:Gr X 8 n a ea->X.C c=true->Gr X 1 0 b eb->Gr X 8 (n+1) (a++c :: b) (ea++eb)
def dpt (X:Lx T N):List T->Int
 | []=>0
 | t :: r=>(if X.L t=true then 1 else if X.R t=true then -1 else 0)+dpt X r
theorem q69 (X:Lx T N)(a b:List T):dpt X (a++b)=dpt X a+dpt X b:=by
 induction a with
 | nil=>simp[dpt]
 | cons t a ih=>simp only[List.cons_append,dpt,ih];omega
theorem dep_nl {X:Lx T N}{t:T}(h1:X.L t=false)(h2:X.R t=false)(r:List T):dpt X (t :: r)=dpt X r:=by simp[dpt,h1,h2]
theorem Lx.Ok.nb {X:Lx T N}(h:X.Ok){t:T}(hb:X.b t≠0):X.L t=false/\X.R t=false/\X.C t=false/\X.eo t=false:=by
 have h1:X.L t=false:=by
  cases q:X.L t with
  | false=>rfl
  | true=>exact absurd (h.LR t q).2.2.1 hb
 have h2:X.R t=false:=by
  cases q:X.R t with
  | false=>rfl
  | true=>exact absurd (h.RC t q).2.1 hb
 have h3:X.C t=false:=by
  cases q:X.C t with
  | false=>rfl
  | true=>exact absurd (h.Cb t q).1 hb
 exact⟨h1,h2,h3,by unfold Lx.eo;rw[h2,h.bk t hb];rfl⟩
theorem Lx.Ok.nu {X:Lx T N}(h:X.Ok){t:T}(hb:X.u t≠0):X.L t=false/\X.R t=false/\X.C t=false/\X.eo t=false:=by
 have h1:X.L t=false:=by
  cases q:X.L t with
  | false=>rfl
  | true=>exact absurd (h.LR t q).2.2.2.1 hb
 have h2:X.R t=false:=by
  cases q:X.R t with
  | false=>rfl
  | true=>exact absurd (h.RC t q).2.2.1 hb
 have h3:X.C t=false:=by
  cases q:X.C t with
  | false=>rfl
  | true=>exact absurd (h.Cb t q).2.1 hb
 exact⟨h1,h2,h3,by unfold Lx.eo;rw[h2,h.uk t hb];rfl⟩
theorem Lx.Ok.nk {X:Lx T N}(h:X.Ok){t:T}{n:N}(hb:X.k t=some n):X.L t=false/\X.R t=false/\X.C t=false/\X.b t=0/\X.u t=0:=by
 have h1:X.L t=false:=by
  cases q:X.L t with
  | false=>rfl
  | true=>have:=(h.LR t q).2.2.2.2;rw[hb]at this;cases this
 have h2:X.R t=false:=by
  cases q:X.R t with
  | false=>rfl
  | true=>have:=(h.RC t q).2.2.2;rw[hb]at this;cases this
 have h3:X.C t=false:=by
  cases q:X.C t with
  | false=>rfl
  | true=>have:=(h.Cb t q).2.2;rw[hb]at this;cases this
 refine⟨h1,h2,h3,?_,?_⟩
 . exact Classical.byContradiction fun q=>by have:=h.bk t q;rw[hb]at this;cases this
 . exact Classical.byContradiction fun q=>by have:=h.uk t q;rw[hb]at this;cases this
theorem Lx.Ok.nf {X:Lx T N}(h:X.Ok){t:T}(hf:X.f t≠0):∃n,X.k t=some n:=by
 cases q:X.k t with
 | none=>exact absurd q (h.gk t (h.fg t hf))
 | some n=>exact⟨n,rfl⟩
structure PhT (X:Lx T N)(l:Nat)(ts:List T):Prop where
 ne:ts≠[]
 d0:dpt X ts=0
 dn:∀i,i<=ts.length->0<=dpt X (ts.take i)
 eo:∀t,ts.getLast? = some t->X.eo t=true
 lo:∀i p t,ts[i]? = some p->ts[i+1]? = some t->dpt X (ts.take (i+2))=0->X.eo p=true->X.b t≠0->l<=X.lv (X.b t)
 nc:∀i t,ts[i]? = some t->dpt X (ts.take (i+1))=0->X.C t=false
theorem PhT.up {X:Lx T N}{l l':Nat}{ts:List T}(h:PhT X l ts)(hl:l'<=l):PhT X l' ts :=
 ⟨h.ne,h.d0,h.dn,h.eo,fun i p t h1 h2 h3 h4 h5=>Nat.le_trans hl (h.lo i p t h1 h2 h3 h4 h5),h.nc⟩
theorem q5q {α:Type}{a b:List α}{i:Nat}(h:i<=a.length):(a++b).take i=a.take i:=by
 rw[List.take_append_of_le_length h]
theorem q5p {α:Type}{a b:List α}{i:Nat}(h:a.length<=i):(a++b).take i=a++b.take (i - a.length):=by
 rw[List.take_append]
 rw[List.take_of_length_le h]
theorem PhT.mid {X:Lx T N}(ok:X.Ok){l la lb:Nat}{a b:List T}{t:T}(ha:PhT X la a)(hb:PhT X lb b)(hla:l<=la)(hlb:l<=lb)(h1:X.b t≠0)(h2:X.lv (X.b t)=l):PhT X l (a++t :: b):=by
 obtain⟨q1,q2,q3,q4⟩:=ok.nb h1
 have dt:∀r,dpt X (t :: r)=dpt X r:=dep_nl q1 q2
 refine⟨by simp,by rw[q69,dt,ha.d0,hb.d0];rfl,fun i hi=>?_,fun x hx=>?_,fun i p x h3 h4 h5 h6 h7=>?_,fun i x h3 h4=>?_⟩
 . by_cases h:i<=a.length
   . rw[q5q h];exact ha.dn i h
   . rw[q5p (by omega),q69,ha.d0]
     obtain⟨j,hj⟩:∃j,i - a.length=j+1:=⟨i - a.length - 1,by omega⟩;rw[hj,List.take_succ_cons,dt];have:=hb.dn j (by simp at hi;omega);omega
 . rw[List.getLast?_append]at hx
   have hbl:(t :: b).getLast? = b.getLast?:=by
    cases b with
    | nil=>exact absurd rfl hb.ne
    | cons y b=>simp[List.getLast?_cons_cons]
   rw[hbl]at hx;cases hq:b.getLast? with
   | none=>rw[List.getLast?_eq_none_iff]at hq;exact absurd hq hb.ne
   | some y=>rw[hq]at hx;simp at hx;subst hx;exact hb.eo _ hq
 . by_cases h:i+1<a.length
   . rw[List.getElem?_append_left (by omega)]at h3 h4
     rw[q5q (by omega)]at h5;exact Nat.le_trans hla (ha.lo i p x h3 h4 h5 h6 h7)
   . by_cases h':i+1=a.length
     . rw[List.getElem?_append_right (by omega),h',Nat.sub_self]at h4
       simp at h4;subst h4;omega
     . rw[List.getElem?_append_right (by omega)]at h3 h4
       rw[q5p (by omega),q69,ha.d0]at h5;by_cases h'':i=a.length
       . subst h''
         rw[Nat.sub_self]at h3;simp at h3;subst h3;rw[q4]at h6;cases h6
       . obtain⟨j,hj⟩:∃j,i=a.length+1+j:=⟨i - a.length - 1,by omega⟩
         subst hj;rw[show a.length+1+j - a.length=j+1 by omega,List.getElem?_cons_succ]at h3;rw[show a.length+1+j+1 - a.length=j+1+1 by omega,List.getElem?_cons_succ]at h4;rw[show a.length+1+j+2 - a.length=j+2+1 by omega,List.take_succ_cons,dt]at h5;exact Nat.le_trans hlb (hb.lo j p x h3 h4 (by omega) h6 h7)
 . by_cases h:i<a.length
   . rw[List.getElem?_append_left h]at h3
     rw[q5q (by omega)]at h4;exact ha.nc i x h3 h4
   . rw[List.getElem?_append_right (by omega)]at h3
     rw[q5p (by omega),q69,ha.d0]at h4;obtain⟨j,hj⟩:∃j,i - a.length=j:=⟨_,rfl⟩;rw[hj]at h3;rw[show i+1 - a.length=j+1 by omega,List.take_succ_cons,dt]at h4;cases j with
     | zero=>simp at h3;subst h3;exact q3
     | succ j=>rw[List.getElem?_cons_succ]at h3;exact hb.nc j x h3 (by omega)
theorem PhT.cons {X:Lx T N}{l:Nat}{b:List T}{t:T}(h1:X.L t=false)(h2:X.R t=false)(h3:X.C t=false)(hb:PhT X l b)(h0:∀x,b.head? = some x->X.eo t=true->X.b x≠0->l<=X.lv (X.b x)):PhT X l (t :: b):=by
 have dt:∀r,dpt X (t :: r)=dpt X r:=dep_nl h1 h2
 refine⟨by simp,by rw[dt,hb.d0],fun i hi=>?_,fun x hx=>?_,fun i p x q1 q2 q3 q4 q5=>?_,fun i x q1 q2=>?_⟩
 . cases i with
   | zero=>simp[dpt]
   | succ i=>rw[List.take_succ_cons,dt];exact hb.dn i (by simpa using hi)
 . cases b with
   | nil=>exact absurd rfl hb.ne
   | cons y b=>rw[List.getLast?_cons_cons]at hx;exact hb.eo x hx
 . rw[show i+2=(i+1)+1 from rfl,List.take_succ_cons,dt]at q3
   rw[List.getElem?_cons_succ]at q2;cases i with
   | zero =>
    simp at q1;subst q1;exact h0 x (by rw[List.head?_eq_getElem?];exact q2) q4 q5
   | succ i=>rw[List.getElem?_cons_succ]at q1;exact hb.lo i p x q1 q2 q3 q4 q5
 . rw[List.take_succ_cons,dt]at q2
   cases i with
   | zero=>simp at q1;subst q1;exact h3
   | succ i=>rw[List.getElem?_cons_succ]at q1;exact hb.nc i x q1 q2
theorem PhT.wrap {X:Lx T N}(ok:X.Ok){l r:T}{a:List T}(h1:X.L l=true)(h2:X.R r=true)(d0:dpt X a=0)(dn:∀i,i<=a.length->0<=dpt X (a.take i)):PhT X 7 (l :: (a++[r])):=by
 have hr:X.L r=false:=by
  cases q:X.L r with
  | false=>rfl
  | true=>rw[(ok.LR r q).1]at h2;cases h2
 have dlt:∀s,dpt X (l :: s)=1+dpt X s:=fun s=>by simp[dpt,h1]
 have dr:dpt X [r] = -1:=by simp[dpt,hr,h2]
 have dq:∀j,j<=a.length->dpt X ((a++[r]).take j)=dpt X (a.take j):=fun j hj=>by rw[q5q hj]
 refine⟨by simp,by rw[dlt,q69,d0,dr];rfl,fun i hi=>?_,fun x hx=>?_,fun i p x q1 q2 q3 q4 q5=>?_,fun i x q1 q2=>?_⟩
 . cases i with
   | zero=>simp[dpt]
   | succ i =>
    rw[List.take_succ_cons,dlt];by_cases h:i<=a.length
    . rw[dq i h];have:=dn i h;omega
    . rw[List.take_of_length_le (by simp;omega),q69,d0,dr];omega
 . rw[show l :: (a++[r])=(l :: a)++[r] from rfl,List.getLast?_append]at hx
   simp at hx;subst hx;unfold Lx.eo;rw[h2];rfl
 . rw[show i+2=(i+1)+1 from rfl,List.take_succ_cons,dlt]at q3
   rw[List.getElem?_cons_succ]at q2;by_cases h:i+1<=a.length
   . rw[dq _ h]at q3;have:=dn _ h;omega
   . have hi:i=a.length:=by
      have:=(List.getElem?_eq_some_iff.1 q2).1;simp at this;omega
     subst hi;rw[List.getElem?_append_right (Nat.le_refl _),Nat.sub_self]at q2;simp at q2;subst q2;exact absurd (ok.RC r h2).2.1 q5
 . rw[List.take_succ_cons,dlt]at q2
   cases i with
   | zero=>simp[dpt]at q2
   | succ i =>
    rw[List.getElem?_cons_succ]at q1;by_cases h:i+1<=a.length
    . rw[dq _ h]at q2;have:=dn _ h;omega
    . have hi:i=a.length:=by
       have:=(List.getElem?_eq_some_iff.1 q1).1;simp at this;omega
      subst hi;rw[List.getElem?_append_right (Nat.le_refl _),Nat.sub_self]at q1;simp at q1;subst q1;exact(ok.RC r h2).1
theorem Lx.Ok.nC {X:Lx T N}(ok:X.Ok){c:T}(h:X.C c=true):X.L c=false/\X.R c=false:=by
 constructor
 . cases q:X.L c with
   | false=>rfl
   | true=>rw[(ok.LR c q).2.1]at h;cases h
 . cases q:X.R c with
   | false=>rfl
   | true=>rw[(ok.RC c q).1]at h;cases h
theorem Gr.ph {X:Lx T N}(ok:X.Ok){l n:Nat}{ts:List T}{e:List N}(h:Gr X l n ts e):(l<=7->PhT X l ts)/\dpt X ts=0/\∀i,i<=ts.length->0<=dpt X (ts.take i):=by
 have fin:∀{l ts},PhT X l ts->(l<=7->PhT X l ts)/\dpt X ts=0/\∀i,i<=ts.length->0<=dpt X (ts.take i):=fun h=>⟨fun _=>h,h.d0,h.dn⟩
 induction h with
 | up h1 h2 _ ih=>exact fin ((ih.1 (by omega)).up (Nat.le_succ _))
 | bin h1 h2 h3 _ h4 h5 _ iha ihb=>exact fin (PhT.mid ok (iha.1 (by omega)) (ihb.1 (by omega)) (Nat.le_refl _) (Nat.le_succ _) h4 h5)
 | cmp _ h4 h5 _ iha ihb=>exact fin (PhT.mid ok (iha.1 (by omega)) (ihb.1 (by omega)) (by omega) (by omega) h4 h5)
 | pre h1 _ ih =>
  obtain⟨q1,q2,q3,q4⟩:=ok.nu h1;exact fin (PhT.cons q1 q2 q3 (ih.1 (by omega)) (fun x _ h=>by rw[q4]at h;cases h))
 | @one t n h1 =>
  obtain⟨q1,q2,q3,q4,q5⟩:=ok.nk h1;refine fin ⟨by simp,by simp[dpt,q1,q2],fun i hi=>?_,fun x hx=>?_,fun i p x a1 a2=>?_,fun i x a1 _=>?_⟩
  . cases i with
    | zero=>simp[dpt]
    | succ i=>simp[dpt,q1,q2]
  . simp at hx;subst hx;unfold Lx.eo;rw[h1];simp
  . simp at a2
  . cases i with
    | zero=>simp at a1;subst a1;exact q3
    | succ i=>simp at a1
 | par h1 h2 _ ih=>exact fin (PhT.wrap ok h1 h2 ih.2.1 ih.2.2)
 | call h0 h1 h2 _ ih =>
  obtain⟨n,hn⟩:=ok.nf h0;obtain⟨q1,q2,q3,q4,q5⟩:=ok.nk hn;refine fin (PhT.cons q1 q2 q3 (PhT.wrap ok h1 h2 ih.2.1 ih.2.2) (fun x hx _ hb=>?_));simp at hx;subst hx;exact absurd (ok.LR _ h1).2.2.1 hb
 | arg _ ih=>exact⟨fun h=>absurd h (by omega),ih.2⟩
 | @args n a c b ea eb _ h1 _ iha ihb =>
  obtain⟨q1,q2⟩:=ok.nC h1;have dt:∀r,dpt X (c :: r)=dpt X r:=dep_nl q1 q2;refine⟨fun h=>absurd h (by omega),by rw[q69,dt,iha.2.1,ihb.2.1];rfl,fun i hi=>?_⟩;by_cases h:i<=a.length
  . rw[q5q h];exact iha.2.2 i h
  . rw[q5p (by omega),q69,iha.2.1]
    obtain⟨j,hj⟩:∃j,i - a.length=j+1:=⟨i - a.length - 1,by omega⟩;rw[hj,List.take_succ_cons,dt];have:=ihb.2.2 j (by simp at hi;omega);omega
end Go.Proofs.YtfmammdgehbjhaaGreatDoor
