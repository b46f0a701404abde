import Derived.Test.YtfmammdgehbjhaaGreatDoorW06
namespace Go.Proofs.YtfmammdgehbjhaaGreatDoor
open List
variable {T N:Type}
def blc (X:Lx T N)(M:Nat):Nat->List T->Option Nat
 | d,[]=>some d
 | d,t :: r=>if X.L t=true then (if d+1<=M then blc X M (d+1) r else none) else if X.R t=true then (if d=0 then none else blc X M (d - 1) r) else blc X M d r
theorem q63 (X:Lx T N)(M d:Nat)(a b:List T):blc X M d (a++b)=(blc X M d a).bind fun d'=>blc X M d' b:=by
 induction a generalizing d with
 | nil=>rfl
 | cons t a ih =>
  simp only[List.cons_append,blc];split
  . split
    . exact ih _
    . rfl
  . split
    . split
      . rfl
      . exact ih _
    . exact ih _
theorem qfg {X:Lx T N}{M d d':Nat}{a:List T}(h:blc X M d a=some d'):(d':Int)=d+dpt X a:=by
 induction a generalizing d with
 | nil=>simp only[blc,Option.some.injEq]at h;simp[dpt,h]
 | cons t a ih =>
  simp only[blc]at h;simp only[dpt];split at h
  . rename_i hL
    split at h
    . have:=ih h;rw[if_pos hL];omega
    . cases h
  . rename_i hL
    rw[if_neg hL];split at h
    . rename_i hR
      rw[if_pos hR];split at h
      . cases h
      . have:=ih h;omega
    . rename_i hR
      rw[if_neg hR];have:=ih h;omega
theorem q8f {X:Lx T N}{M d:Nat}{a b:List T}(h:blc X M d (a++b)=some d)(ha:dpt X a=0):blc X M d a=some d/\blc X M d b=some d:=by
 rw[q63]at h
 cases hq:blc X M d a with
 | none=>rw[hq]at h;cases h
 | some d' =>
  have:=qfg hq;obtain rfl:d'=d:=by omega
  rw[hq]at h;exact⟨rfl,h⟩
theorem qbg {X:Lx T N}{M d:Nat}{a b:List T}(ha:blc X M d a=some d)(hb:blc X M d b=some d):blc X M d (a++b)=some d:=by rw[q63,ha];exact hb
theorem bal_nl {X:Lx T N}{M d:Nat}{t:T}(h1:X.L t=false)(h2:X.R t=false)(r:List T):blc X M d (t :: r)=blc X M d r:=by simp[blc,h1,h2]
theorem Lx.Ok.rl {X:Lx T N}(ok:X.Ok){r:T}(h:X.R r=true):X.L r=false:=by
 cases q:X.L r with
 | false=>rfl
 | true=>rw[(ok.LR r q).1]at h;cases h
theorem qbh {X:Lx T N}(ok:X.Ok){M d:Nat}{l r:T}{a:List T}(h1:X.L l=true)(h2:X.R r=true)(ha:dpt X a=0):blc X M d (l :: (a++[r]))=some d ↔ d+1<=M/\blc X M (d+1) a=some (d+1):=by
 simp only[blc,h1,if_true]
 constructor
 . intro h
   split at h
   . rename_i hd
     refine⟨hd,?_⟩;rw[q63]at h;cases hq:blc X M (d+1) a with
     | none=>rw[hq]at h;cases h
     | some d'=>have:=qfg hq;obtain rfl:d'=d+1:=(by omega);rfl
   . cases h
 . rintro⟨hd,hb⟩
   rw[if_pos hd,q63,hb];simp[blc,ok.rl h2,h2]
inductive Mdx (N:Type) where
 | op (l:Nat)
 | lp (l:Nat) (acc:List N)
 | atm
 | ar (n:Nat) (acc:List N)
def usg (X:Lx T N)(ts:List T):List T:=ts.takeWhile fun t=>decide (X.u t≠0)
def prd (X:Lx T N)(M:Nat):Nat->Mdx N->Nat->List T->Option (List N × List T)
 | 0,_,_,_=>none
 | f+1,.op l,d,ts =>
  if l=6 then
   match prd X M f .atm d (ts.drop (usg X ts).length) with
   | none=>none
   | some (e,r)=>some (e++(usg X ts).reverse.map (fun t=>X.o (X.u t)),r)
  else
   match prd X M f (.op (l+1)) d ts with
   | none=>none
   | some (e,r)=>prd X M f (.lp l e) d r
 | f+1,.lp l acc,d,ts =>
  match ts with
  | []=>some (acc,[])
  | t :: r =>
   if X.b t≠0/\X.lv (X.b t)=l then
    match prd X M f (.op (l+1)) d r with
    | none=>none
    | some (eb,r')=>if l=3 then some (acc++eb++[X.o (X.b t)],r') else prd X M f (.lp l (acc++eb++[X.o (X.b t)])) d r'
   else some (acc,t :: r)
 | f+1,.atm,d,ts =>
  match ts with
  | []=>none
  | t :: r =>
   if X.L t=true then
    if d+1<=M then
     match prd X M f (.op 1) (d+1) r with
     | some (e,c :: r')=>if X.R c=true then some (e,r') else none
     | _=>none
    else none
   else
    match X.k t with
    | none=>none
    | some n =>
     match X.g t,r with
     | true,l :: r1 =>
      if X.L l=true then
       if X.f t=0 then none
       else if d+1<=M then
        match prd X M f (.op 1) (d+1) r1 with
        | none=>none
        | some (e1,r2) =>
         match prd X M f (.ar (X.ar (X.f t) - 1) e1) (d+1) r2 with
         | some (e,c :: r')=>if X.R c=true then some (e++[X.o (X.f t)],r') else none
         | _=>none
       else none
      else some ([n],r)
     | _,_=>some ([n],r)
 | f+1,.ar n acc,d,ts =>
  match n with
  | 0=>some (acc,ts)
  | n+1 =>
   match ts with
   | []=>none
   | c :: r =>
    if X.C c=true then
     match prd X M f (.op 1) d r with
     | none=>none
     | some (e,r')=>prd X M f (.ar n (acc++e)) d r'
    else none
theorem qjn (X:Lx T N)(t:T)(r:List T):usg X (t :: r)=if X.u t=0 then [] else t :: usg X r:=by
 unfold usg
 rw[List.takeWhile_cons]
 by_cases h:X.u t=0 <;> simp[h]
theorem qf3 (X:Lx T N)(ts:List T):ts=usg X ts++ts.drop (usg X ts).length:=by
 induction ts with
 | nil=>rfl
 | cons t r ih =>
  rw[qjn];by_cases h:X.u t=0
  . rw[if_pos h];rfl
  . rw[if_neg h,List.length_cons,List.drop_succ_cons,List.cons_append,<- ih]
theorem us_all {X:Lx T N}{ts:List T}{t:T}(h:t∈usg X ts):X.u t≠0:=by
 induction ts with
 | nil=>cases h
 | cons x r ih =>
  rw[qjn]at h;by_cases hx:X.u x=0
  . rw[if_pos hx]at h;cases h
  . rw[if_neg hx]at h
    rcases List.mem_cons.1 h with rfl | h
    . exact hx
    . exact ih h
theorem Gr.signs {X:Lx T N}{b:List T}{e:List N}(h:Gr X 6 0 b e)(l:List T)(hl:∀t,t∈l->X.u t≠0):Gr X 6 0 (l++b) (e++l.reverse.map (fun t=>X.o (X.u t))):=by
 induction l with
 | nil=>simpa using h
 | cons t l ih =>
  have:=Gr.pre (hl t (by simp)) (ih fun x hx=>hl x (by simp[hx]));simpa using this
def SoundAt (X:Lx T N)(M:Nat)(md:Mdx N)(d:Nat)(ts:List T)(e:List N)(rest:List T):Prop :=
 match md with
 | .op l=>1<=l->l<=6->∃pre,ts=pre++rest/\Gr X l 0 pre e/\blc X M d pre=some d
 | .lp l acc=>1<=l->l<=5->∃mid,ts=mid++rest/\blc X M d mid=some d/\∀pre0,Gr X (if l=3 then 4 else l) 0 pre0 acc->Gr X l 0 (pre0++mid) e
 | .atm=>∃pre,ts=pre++rest/\Gr X 7 0 pre e/\blc X M d pre=some d
 | .ar n acc=>∃mid,ts=mid++rest/\blc X M d mid=some d/\∀m pre0,Gr X 8 m pre0 acc->Gr X 8 (m+n) (pre0++mid) e
theorem qdp {X:Lx T N}(ok:X.Ok)(M:Nat):∀(f:Nat) (md:Mdx N) (d:Nat) (ts:List T) (e:List N) (rest:List T),prd X M f md d ts=some (e,rest)->SoundAt X M md d ts e rest
 | 0,_,_,_,_,_,h=>by cases h
 | f+1,.op l,d,ts,e,rest,h=>by
  intro h1 h6;simp only[prd]at h;split at h
  . rename_i hl
    subst hl;split at h
    . cases h
    . rename_i e0 r0 hq
      simp only[Option.some.injEq,Prod.mk.injEq]at h;obtain⟨rfl,rfl⟩:=h;obtain⟨pre,h2,h3,h4⟩:=qdp ok M f .atm d _ _ _ hq;refine⟨usg X ts++pre,?_,Gr.signs (.up (by omega) (by omega) h3) _ fun t ht=>us_all ht,?_⟩
      . rw[List.append_assoc,<- h2];exact qf3 X ts
      . refine qbg ?_ h4
        have:∀l:List T,(∀t,t∈l->X.u t≠0)->blc X M d l=some d:=fun l hl=>by
         induction l with
         | nil=>rfl
         | cons t l ih =>
          obtain⟨q1,q2,-,-⟩:=ok.nu (hl t (by simp));rw[bal_nl q1 q2];exact ih fun x hx=>hl x (by simp[hx])
        exact this _ fun t ht=>us_all ht
  . rename_i hl
    split at h
    . cases h
    . rename_i e0 r0 hq
      obtain⟨pre,h2,h3,h4⟩:=qdp ok M f (.op (l+1)) d ts e0 r0 hq (by omega) (by omega);obtain⟨mid,h5,h6',h7⟩:=qdp ok M f (.lp l e0) d r0 e rest h h1 (by omega);refine⟨pre++mid,by rw[h2,h5,List.append_assoc],h7 pre ?_,qbg h4 h6'⟩;split
      . rename_i h3';subst h3';exact h3
      . exact .up h1 h6 h3
 | f+1,.lp l acc,d,ts,e,rest,h=>by
  intro h1 h5;simp only[prd]at h;have stop:∀r:List T,SoundAt X M (.lp l acc) d r acc r:=fun r _ _=>⟨[],rfl,rfl,fun pre0 hp=>by
   rw[List.append_nil];split at hp
   . rename_i h3';subst h3';exact .up h1 (by omega) hp
   . exact hp⟩
  split at h
  . simp only[Option.some.injEq,Prod.mk.injEq]at h
    obtain⟨rfl,rfl⟩:=h;exact stop [] h1 h5
  . rename_i t r
    split at h
    . rename_i hs
      split at h
      . cases h
      . rename_i eb r' hq
        obtain⟨b,h2,h3,h4⟩:=qdp ok M f (.op (l+1)) d r eb r' hq (by omega) (by omega);obtain⟨q1,q2,-,-⟩:=ok.nb hs.1;have hbt:blc X M d (t :: b)=some d:=(by rw[bal_nl q1 q2];exact h4);split at h
        . rename_i h3'
          simp only[Option.some.injEq,Prod.mk.injEq]at h;obtain⟨rfl,rfl⟩:=h;refine⟨t :: b,by rw[h2];rfl,hbt,fun pre0 hp=>?_⟩;rw[if_pos h3']at hp;subst h3';exact .cmp hp hs.1 hs.2 h3
        . rename_i h3'
          obtain⟨mid,h6,h7,h8⟩:=qdp ok M f (.lp l (acc++eb++[X.o (X.b t)])) d r' e rest h h1 h5;refine⟨t :: b++mid,by rw[h2,h6];simp,qbg hbt h7,fun pre0 hp=>?_⟩;rw[if_neg h3']at hp h8;have:=h8 _ (Gr.bin h1 h5 h3' hp hs.1 hs.2 h3);simpa using this
    . simp only[Option.some.injEq,Prod.mk.injEq]at h
      obtain⟨rfl,rfl⟩:=h;exact stop _ h1 h5
 | f+1,.atm,d,ts,e,rest,h=>by
  simp only[prd]at h;split at h
  . cases h
  . rename_i t r
    split at h
    . rename_i hL
      split at h
      . rename_i hd
        split at h
        . rename_i e0 c r' hq
          split at h
          . rename_i hR
            simp only[Option.some.injEq,Prod.mk.injEq]at h;obtain⟨rfl,rfl⟩:=h;obtain⟨pre,h2,h3,h4⟩:=qdp ok M f (.op 1) (d+1) r e0 (c :: r') hq (by omega) (by omega);refine⟨t :: (pre++[c]),by rw[h2];simp,.par hL hR h3,(qbh ok hL hR (h3.ph ok).2.1).2 ⟨hd,h4⟩⟩
          . cases h
        . cases h
      . cases h
    . rename_i hL
      have hL':X.L t=false:=(by simpa using hL);split at h
      . cases h
      . rename_i n hk
        have one:SoundAt X M .atm d (t :: r) [n] r:=⟨[t],rfl,.one hk,by
         obtain⟨q1,q2,-,-,-⟩:=ok.nk hk;rw[bal_nl q1 q2];rfl⟩
        split at h
        . rename_i l r1 hg
          split at h
          . rename_i hLl
            split at h
            . cases h
            . rename_i hf
              split at h
              . rename_i hd
                split at h
                . cases h
                . rename_i e1 r2 hq
                  split at h
                  . rename_i e2 c r' hq2
                    split at h
                    . rename_i hR
                      simp only[Option.some.injEq,Prod.mk.injEq]at h;obtain⟨rfl,rfl⟩:=h;obtain⟨pre,h2,h3,h4⟩:=qdp ok M f (.op 1) (d+1) r1 e1 r2 hq (by omega) (by omega);obtain⟨mid,h5,h6,h7⟩:=qdp ok M f (.ar (X.ar (X.f t) - 1) e1) (d+1) r2 e2 (c :: r') hq2;have h8:=h7 1 pre (.arg h3);have har:=ok.ar t hf;rw[show 1+(X.ar (X.f t) - 1)=X.ar (X.f t) by omega]at h8;obtain⟨q1,q2,-,-,-⟩:=ok.nk hk;refine⟨t :: l :: ((pre++mid)++[c]),by rw[h2,h5];simp,.call hf hLl hR h8,?_⟩;rw[bal_nl q1 q2];exact(qbh ok hLl hR (h8.ph ok).2.1).2 ⟨hd,qbg h4 h6⟩
                    . cases h
                  . cases h
              . cases h
          . simp only[Option.some.injEq,Prod.mk.injEq]at h
            obtain⟨rfl,rfl⟩:=h;exact one
        . simp only[Option.some.injEq,Prod.mk.injEq]at h
          obtain⟨rfl,rfl⟩:=h;exact one
 | f+1,.ar n acc,d,ts,e,rest,h=>by
  simp only[prd]at h;split at h
  . simp only[Option.some.injEq,Prod.mk.injEq]at h
    obtain⟨rfl,rfl⟩:=h;exact⟨[],rfl,rfl,fun m pre0 hp=>by simpa using hp⟩
  . rename_i n
    split at h
    . cases h
    . rename_i c r
      split at h
      . rename_i hC
        split at h
        . cases h
        . rename_i e1 r' hq
          obtain⟨pre,h2,h3,h4⟩:=qdp ok M f (.op 1) d r e1 r' hq (by omega) (by omega);obtain⟨mid,h5,h6,h7⟩:=qdp ok M f (.ar n (acc++e1)) d r' e rest h;obtain⟨q1,q2⟩:=ok.nC hC;refine⟨c :: pre++mid,by rw[h2,h5];simp,qbg (by rw[bal_nl q1 q2];exact h4) h6,fun m pre0 hp=>?_⟩;have:=h7 _ _ (Gr.args hp hC h3);rw[show m+(n+1)=m+1+n by omega];simpa using this
      . cases h
def Stp (X:Lx T N)(l:Nat)(rest:List T):Prop:=∀t r,rest=t :: r->X.L t=false/\(X.b t≠0->X.lv (X.b t)<l)
theorem Stp.up {X:Lx T N}{l l':Nat}{rest:List T}(h:Stp X l rest)(hl:l<=l'):Stp X l' rest:=fun t r e=>⟨(h t r e).1,fun hb=>Nat.lt_of_lt_of_le ((h t r e).2 hb) hl⟩
theorem Stp.sign {X:Lx T N}(ok:X.Ok){l:Nat}{t:T}(h1:X.b t≠0)(h2:X.lv (X.b t)<l)(r:List T):Stp X l (t :: r):=fun x y e=>by
 cases e
 exact⟨(ok.nb h1).1,fun _=>h2⟩
theorem Stp.close {X:Lx T N}(ok:X.Ok){l:Nat}{t:T}(h:X.R t=true)(r:List T):Stp X l (t :: r):=fun x y e=>by
 cases e
 exact⟨ok.rl h,fun hb=>absurd (ok.RC t h).2.1 hb⟩
theorem Stp.comma {X:Lx T N}(ok:X.Ok){l:Nat}{t:T}(h:X.C t=true)(r:List T):Stp X l (t :: r):=fun x y e=>by
 cases e
 exact⟨(ok.nC h).1,fun hb=>absurd (ok.Cb t h).1 hb⟩
def Evn (X:Lx T N)(M:Nat)(md:Mdx N)(d:Nat)(ts:List T)(x:List N × List T):Prop:=∃F,∀f,F<=f->prd X M f md d ts=some x
theorem qh8 {X:Lx T N}{M:Nat}{l:Nat}{e:List N}{d:Nat}{rest:List T}(h:Stp X l rest):Evn X M (.lp l e) d rest (e,rest):=by
 refine⟨1,fun f hf=>?_⟩
 obtain⟨f,rfl⟩:∃g,f=g+1:=⟨f - 1,by omega⟩
 simp only[prd]
 split
 . rfl
 . rename_i t r
   rw[if_neg];rintro⟨h1,h2⟩;have:=(h t r rfl).2 h1;omega
def Cmpl (X:Lx T N)(M l n:Nat)(ts:List T)(e:List N):Prop :=
 if l<=5/\l≠3 then ∀d rest x,blc X M d ts=some d->Stp X (l+1) rest->Evn X M (.lp l e) d rest x->Evn X M (.op l) d (ts++rest) x
 else if l=3 then ∀d rest,blc X M d ts=some d->Stp X 3 rest->Evn X M (.op 3) d (ts++rest) (e,rest)
 else if l=6 then ∀d rest,blc X M d ts=some d->Stp X 6 rest->Evn X M (.op 6) d (ts++rest) (e,rest)
 else if l=7 then (∀t,ts.head? = some t->X.u t=0)/\∀d rest,blc X M d ts=some d->Stp X 6 rest->Evn X M .atm d (ts++rest) (e,rest)
 else ∀d rest x m,blc X M d ts=some d->Stp X 1 rest->Evn X M (.ar m e) d rest x->∃F e1 r1,∀f,F<=f->prd X M f (.op 1) d (ts++rest)=some (e1,r1)/\prd X M f (.ar (n - 1+m) e1) d r1=some x
theorem Cmpl.op {X:Lx T N}{M l n:Nat}{ts:List T}{e:List N}(h:Cmpl X M l n ts e)(hl:l<=6){d:Nat}{rest:List T}(hb:blc X M d ts=some d)(hs:Stp X l rest):Evn X M (.op l) d (ts++rest) (e,rest):=by
 unfold Cmpl at h
 split at h
 . exact h d rest _ hb (hs.up (Nat.le_succ _)) (qh8 hs)
 . split at h
   . rename_i h3;subst h3;exact h d rest hb hs
   . split at h
     . rename_i h6;subst h6;exact h d rest hb hs
     . omega
theorem op_lp {X:Lx T N}{M l d:Nat}{ts r:List T}{e:List N}{x:List N × List T}(hl:l≠6)(h1:Evn X M (.op (l+1)) d ts (e,r))(h2:Evn X M (.lp l e) d r x):Evn X M (.op l) d ts x:=by
 obtain⟨F1,h1⟩:=h1
 obtain⟨F2,h2⟩:=h2
 refine⟨max F1 F2+1,fun f hf=>?_⟩
 obtain⟨f,rfl⟩:∃g,f=g+1:=⟨f - 1,by omega⟩
 simp only[prd,if_neg hl,h1 f (by omega),h2 f (by omega)]
theorem lp_go {X:Lx T N}{M l d:Nat}{t:T}{r r':List T}{acc eb:List N}{x:List N × List T}(h1:X.b t≠0)(h2:X.lv (X.b t)=l)(h3:l≠3)(h4:Evn X M (.op (l+1)) d r (eb,r'))(h5:Evn X M (.lp l (acc++eb++[X.o (X.b t)])) d r' x):Evn X M (.lp l acc) d (t :: r) x:=by
 obtain⟨F1,h4⟩:=h4
 obtain⟨F2,h5⟩:=h5
 refine⟨max F1 F2+1,fun f hf=>?_⟩
 obtain⟨f,rfl⟩:∃g,f=g+1:=⟨f - 1,by omega⟩
 simp only[prd,if_pos (show X.b t≠0/\X.lv (X.b t)=l from ⟨h1,h2⟩),h4 f (by omega),if_neg h3,h5 f (by omega)]
theorem lp_cmp {X:Lx T N}{M d:Nat}{t:T}{r r':List T}{acc eb:List N}(h1:X.b t≠0)(h2:X.lv (X.b t)=3)(h4:Evn X M (.op 4) d r (eb,r')):Evn X M (.lp 3 acc) d (t :: r) (acc++eb++[X.o (X.b t)],r'):=by
 obtain⟨F1,h4⟩:=h4
 refine⟨F1+1,fun f hf=>?_⟩
 obtain⟨f,rfl⟩:∃g,f=g+1:=⟨f - 1,by omega⟩
 simp only[prd,if_pos (show X.b t≠0/\X.lv (X.b t)=3 from ⟨h1,h2⟩),h4 f (by omega),if_true]
theorem Cmpl.left {X:Lx T N}{M l:Nat}{ts:List T}{e:List N}(hl:l<=5)(h3:l≠3)(h:∀d rest x,blc X M d ts=some d->Stp X (l+1) rest->Evn X M (.lp l e) d rest x->Evn X M (.op l) d (ts++rest) x):Cmpl X M l 0 ts e:=by
 unfold Cmpl;rw[if_pos ⟨hl,h3⟩];exact h
theorem Cmpl.goL {X:Lx T N}{M l:Nat}{ts:List T}{e:List N}(h:Cmpl X M l 0 ts e)(hl:l<=5)(h3:l≠3):∀d rest x,blc X M d ts=some d->Stp X (l+1) rest->Evn X M (.lp l e) d rest x->Evn X M (.op l) d (ts++rest) x:=by
 unfold Cmpl at h;rw[if_pos ⟨hl,h3⟩]at h;exact h
theorem Gr.comp {X:Lx T N}(ok:X.Ok)(M:Nat){l n:Nat}{ts:List T}{e:List N}(h:Gr X l n ts e):Cmpl X M l n ts e:=by
 induction h with
 | @up l ts e h1 h6 hg ih =>
  by_cases hl:l=6
  . subst hl
    unfold Cmpl at ih⊢;simp only[Nat.reduceLeDiff,false_and,if_false,Nat.reduceEqDiff,if_true]at ih⊢;intro d rest hb hs;obtain⟨F,hF⟩:=ih.2 d rest hb hs;refine⟨F+1,fun f hf=>?_⟩;obtain⟨f,rfl⟩:∃g,f=g+1:=⟨f - 1,by omega⟩;have hu:usg X (ts++rest)=[]:=by
     have hne:=((hg.ph ok).1 (by omega)).ne;cases ts with
     | nil=>exact absurd rfl hne
     | cons t r=>rw[List.cons_append,qjn,if_pos (ih.1 t rfl)]
    simp only[prd,if_true,hu,List.length_nil,List.drop_zero,hF f (by omega),List.reverse_nil,List.map_nil,List.append_nil]
  . by_cases h3:l=3
    . subst h3
      unfold Cmpl;simp only[Nat.reduceLeDiff,ne_eq,not_true_eq_false,and_false,if_false,if_true];intro d rest hb hs;exact op_lp (by omega) (ih.op (by omega) hb (hs.up (by omega))) (qh8 hs)
    . exact Cmpl.left (by omega) h3 fun d rest x hb hs hx=>op_lp hl (ih.op (by omega) hb hs) hx
 | @bin l a t b ea eb h1 h5 h3 ha h4 hl hb iha ihb =>
  refine Cmpl.left h5 h3 fun d rest x hbal hs hx=>?_;obtain⟨q1,q2,-,-⟩:=ok.nb h4;obtain⟨b1,b2⟩:=q8f hbal (ha.ph ok).2.1;rw[bal_nl q1 q2]at b2;rw[List.append_assoc,List.cons_append];exact iha.goL h5 h3 d _ x b1 (Stp.sign ok h4 (by omega) _) (lp_go h4 hl h3 (ihb.op (by omega) b2 hs) hx)
 | @cmp a t b ea eb ha h4 hl hb iha ihb =>
  unfold Cmpl;simp only[Nat.reduceLeDiff,ne_eq,not_true_eq_false,and_false,if_false,if_true];intro d rest hbal hs;obtain⟨q1,q2,-,-⟩:=ok.nb h4;obtain⟨b1,b2⟩:=q8f hbal (ha.ph ok).2.1;rw[bal_nl q1 q2]at b2;rw[List.append_assoc,List.cons_append];exact op_lp (by omega) (iha.op (by omega) b1 (Stp.sign ok h4 (by omega) _)) (lp_cmp h4 hl (ihb.op (by omega) b2 (hs.up (by omega))))
 | @pre t b eb h1 hb ih =>
  unfold Cmpl at ih⊢;simp only[Nat.reduceLeDiff,false_and,if_false,Nat.reduceEqDiff,if_true]at ih⊢;intro d rest hbal hs;obtain⟨q1,q2,-,-⟩:=ok.nu h1;rw[bal_nl q1 q2]at hbal;obtain⟨F,hF⟩:=ih d rest hbal hs;refine⟨F+1,fun f hf=>?_⟩;have h:=hF f (by omega);obtain⟨f,rfl⟩:∃g,f=g+1:=⟨f - 1,by omega⟩;simp only[prd,if_true]at h⊢;rw[List.cons_append,qjn,if_neg h1,List.length_cons,List.drop_succ_cons];split at h
  . cases h
  . rename_i e0 r0 hq
    simp only[Option.some.injEq,Prod.mk.injEq]at h;obtain⟨rfl,rfl⟩:=h;simp
 | @one t n h1 =>
  obtain⟨q1,q2,q3,q4,q5⟩:=ok.nk h1;unfold Cmpl;simp only[Nat.reduceLeDiff,false_and,if_false,Nat.reduceEqDiff,if_true];refine⟨fun x hx=>by simp at hx;subst hx;exact q5,fun d rest _ hs=>⟨1,fun f hf=>?_⟩⟩;obtain⟨f,rfl⟩:∃g,f=g+1:=⟨f - 1,by omega⟩;simp only[prd,List.cons_append,List.nil_append,q1,Bool.false_eq_true,if_false,h1];split
  . rename_i l r1 _
    rw[if_neg (by rw[(hs l r1 rfl).1];decide)]
  . rfl
 | @par l r a e h1 h2 ha ih =>
  unfold Cmpl;simp only[Nat.reduceLeDiff,false_and,if_false,Nat.reduceEqDiff,if_true];refine⟨fun x hx=>by simp at hx;subst hx;exact(ok.LR _ h1).2.2.2.1,fun d rest hbal hs=>?_⟩;obtain⟨hd,hb⟩:=(qbh ok h1 h2 (ha.ph ok).2.1).1 hbal;obtain⟨F,hF⟩:=ih.op (by omega) hb (Stp.close ok (l:=1) h2 rest);refine⟨F+1,fun f hf=>?_⟩;obtain⟨f,rfl⟩:∃g,f=g+1:=⟨f - 1,by omega⟩;have:=hF f (by omega);simp only[prd,List.cons_append,List.append_assoc,List.nil_append,h1,if_true,if_pos hd,this,h2]
 | @call t l r a e h0 h1 h2 ha ih =>
  obtain⟨n,hk⟩:=ok.nf h0;obtain⟨q1,q2,q3,q4,q5⟩:=ok.nk hk;have hg:=ok.fg t h0;have har:=ok.ar t h0;unfold Cmpl at ih⊢;simp only[Nat.reduceLeDiff,false_and,if_false,Nat.reduceEqDiff,if_true]at ih⊢;refine⟨fun x hx=>by simp at hx;subst hx;exact q5,fun d rest hbal hs=>?_⟩;rw[bal_nl q1 q2]at hbal;obtain⟨hd,hb⟩:=(qbh ok h1 h2 (ha.ph ok).2.1).1 hbal;obtain⟨F,e1,r1,hF⟩:=ih (d+1) (r :: rest) (e,r :: rest) 0 hb (Stp.close ok (l:=1) h2 rest) ⟨1,fun f hf=>by
   obtain⟨f,rfl⟩:∃g,f=g+1:=⟨f - 1,by omega⟩;rfl⟩
  refine⟨F+1,fun f hf=>?_⟩;obtain⟨f,rfl⟩:∃g,f=g+1:=⟨f - 1,by omega⟩;obtain⟨g1,g2⟩:=hF f (by omega);rw[Nat.add_zero]at g2;simp only[prd,List.cons_append,List.append_assoc,List.nil_append,q1,Bool.false_eq_true,if_false,hk,hg,h1,if_true,if_neg h0,if_pos hd,g1,g2,h2]
 | @arg a e ha ih =>
  unfold Cmpl;simp only[Nat.reduceLeDiff,false_and,if_false,Nat.reduceEqDiff];intro d rest x m hb hs hx;obtain⟨F1,h1⟩:=ih.op (by omega) hb hs;obtain⟨F2,h2⟩:=hx;refine⟨max F1 F2,e,rest,fun f hf=>⟨h1 f (by omega),?_⟩⟩;rw[show 1 - 1+m=m by omega];exact h2 f (by omega)
 | @args n a c b ea eb ha hc hb iha ihb =>
  unfold Cmpl at iha⊢;simp only[Nat.reduceLeDiff,false_and,if_false,Nat.reduceEqDiff]at iha⊢;intro d rest x m hbal hs hx;obtain⟨q1,q2⟩:=ok.nC hc;obtain⟨b1,b2⟩:=q8f hbal (ha.ph ok).2.1;rw[bal_nl q1 q2]at b2;obtain⟨F1,h1⟩:=ihb.op (by omega) b2 hs;obtain⟨F2,h2⟩:=hx;obtain⟨F,e1,r1,hF⟩:=iha d (c :: b++rest) x (m+1) b1 (Stp.comma ok (l:=1) hc _) ⟨max F1 F2+1,fun f hf=>by
   obtain⟨f,rfl⟩:∃g,f=g+1:=⟨f - 1,by omega⟩;simp only[prd,List.cons_append,hc,if_true,h1 f (by omega),h2 f (by omega)]⟩
  refine⟨F,e1,r1,fun f hf=>?_⟩;have hn:1<=n:=by
   cases ha <;> omega
  rw[List.append_assoc,show n+1 - 1+m=n - 1+(m+1) by omega];exact hF f hf
theorem pr_all {X:Lx T N}(ok:X.Ok){M:Nat}{ts:List T}{e:List N}(h:Gr X 1 0 ts e)(hb:blc X M 0 ts=some 0):∃F,∀f,F<=f->prd X M f (.op 1) 0 ts=some (e,[]):=by
 have:=(h.comp ok M).op (by omega) hb (rest:=[]) (fun t r e=>by cases e)
 rw[List.append_nil]at this
 exact this
theorem Gr.uniq {X:Lx T N}(ok:X.Ok){ts:List T}{e e':List N}(h:Gr X 1 0 ts e)(h':Gr X 1 0 ts e'):e=e':=by
 have hb:∃M,blc X M 0 ts=some 0:=by
  refine⟨ts.length,?_⟩;have gen:∀(l:List T) (d:Nat),(∀i,i<=l.length->0<=(d:Int)+dpt X (l.take i))->d+l.length<=ts.length->∃d',blc X ts.length d l=some d':=fun l=>by
   induction l with
   | nil=>exact fun d _ _=>⟨d,rfl⟩
   | cons t r ih =>
    intro d hd hl;simp only[List.length_cons]at hl;simp only[blc];have hi:∀i,i<=r.length->0<=(d:Int)+dpt X (t :: r.take i):=fun i hi=>by
     have:=hd (i+1) (by simpa using hi)
     rwa [List.take_succ_cons]at this
    split
    . rename_i hL
      rw[if_pos (by omega)];refine ih (d+1) (fun i h=>?_) (by omega);have:=hi i h;simp only[dpt,hL,if_true]at this;omega
    . rename_i hL
      split
      . rename_i hR
        have h0:=hi 0 (Nat.zero_le _);simp only[dpt,if_neg hL,hR,if_true,List.take_zero]at h0;rw[if_neg (by omega)];refine ih (d - 1) (fun i h=>?_) (by omega);have:=hi i h;simp only[dpt,if_neg hL,hR,if_true]at this;omega
      . rename_i hR
        refine ih d (fun i h=>?_) (by omega);have:=hi i h;simp only[dpt,if_neg hL,if_neg hR]at this;omega
  obtain⟨d',hd'⟩:=gen ts 0 (fun i hi=>by have:=((h.ph ok).2.2) i hi;omega) (by omega);have:=qfg hd';rw[(h.ph ok).2.1]at this;obtain rfl:d'=0:=by omega
  exact hd'
 obtain⟨M,hb⟩:=hb
 obtain⟨F,hF⟩:=pr_all ok h hb
 obtain⟨F',hF'⟩:=pr_all ok h' hb
 have:=(hF (max F F') (by omega)).symm.trans (hF' (max F F') (by omega))
 simpa using this
end Go.Proofs.YtfmammdgehbjhaaGreatDoor
