import Derived.Test.YtcnjbclpncidnaaGreatDoorW00
set_option linter.all false
set_option maxRecDepth 100000
set_option maxHeartbeats 0
namespace Go.Proofs.YtcnjbclpncidnaaGreatDoor
open Ending renaming returned->Rt
open Option renaming none->Nn,some->Sm
open Bool renaming true->Tt,false->Ff
section
open Go Go.RowKit Go.Proofs.Tryz
def M7 {B w w'}(h:Below B w.drew w'):Below B w w':=⟨h.os,h.tape,h.output,h.size,h.block⟩
section
variable {md:Region.Mode} {ops:Array Oper} {Q:Exit->Act->Tw->Prop} {S:Tw->Prop} {o:Oper} {a:Act} {fuel:Nat} {listed:Array Bool} {w:Tw} {f:FuncId} {args:Ta}
def TA {R:Value->Tw->Prop}(i d)(b:GZ f args w λe k=>∃v,e=Rt v/\R v k)(h:∀v k,R v k->S k/\wpAnyH prog md ops Q S fuel (listed.setIfInBounds i Tt) { tmps:=a.tmps.setIfInBounds d v,defers:=a.defers } k)
 (hi:ops[i]? = Sm o:=by exact rfl) (e:o.dst=Sm d:=by exact rfl) (c:Region.wanted o (yielded ops a.tmps)=Tt:=by rfl) (E:Region.ready md ops listed=[i]:=by kernel_rfl) (I:(execOp a.eval o).run prog w=.ok (.enter f args) w:=by simp[execOp,go_sem] <;> rfl):wpAnyH prog md ops Q S (fuel+1) listed a w :=
 vF d hi e c E I b h
def jA {v}{P:Tw->Prop}(i d)(b:GZ f args w λe k=>e=Rt v/\P k)(h:∀k,P k->S k/\wpAnyH prog md ops Q S fuel (listed.setIfInBounds i Tt) { tmps:=a.tmps.setIfInBounds d v,defers:=a.defers } k)
 (hi:ops[i]? = Sm o:=by exact rfl) (c:o.dst=Sm d:=by exact rfl) (g:Region.wanted o (yielded ops a.tmps)=Tt:=by rfl) (E:Region.ready md ops listed=[i]:=by kernel_rfl) (I:(execOp a.eval o).run prog w=.ok (.enter f args) w:=by simp[execOp,go_sem] <;> rfl):wpAnyH prog md ops Q S (fuel+1) listed a w :=
 TA (R:=λj k=>j=v/\P k) i d (b.mono λ_ _ ⟨e,p⟩=>⟨_,e,rfl,p⟩) (λ_ k ⟨e,p⟩=>e ▸ h k p) hi c g E I
end
end
section
open Go.Lib
def pI (c:UInt8):Nat:=c.toNat - 48
def BJ (l:List UInt8):Prop:=∀c,c∈l->48<=c.toNat/\c.toNat<=57
def low (l:List UInt8):List Nat:=l.reverse.map pI
def qqc {l}(h:BJ l):P6 (low l):=λd e=>by obtain⟨c,v,rfl⟩:=List.mem_map.1 e;have:=h c (List.mem_reverse.1 v);unfold pI;omega
def Tz (l):∀V,t8 V l=V*10 ^ l.length+N2 l.reverse:=by induction l <;> grind[t8,N2,AO]
def D_ (n):BJ (decDigits n)/\N2 (low (decDigits n))=n/\decDigits n≠[]:=by obtain⟨e,b,c,f⟩:=tP n;have a:∀x,x∈sE n->(UInt8.ofNat (48+x)).toNat=48+x:=λx r=>(by have:=b x r;rw[UInt8.toNat_ofNat'];omega);refine⟨λx r=>?_,?_,rU n⟩;{rw[c]at r;obtain⟨y,d,rfl⟩:=List.mem_map.1 r;have:=b y d;rw[a y d];omega};have d:low (decDigits n)=(sE n).reverse:=(by rw[c,low,AC,<- List.map_reverse,List.map_map];(conv=>rhs;rw[<- List.map_id (sE n).reverse]);refine List.map_congr_left λx r=>?_;have:=a x (List.mem_reverse.1 r);simp only[Function.comp,pI,this,id];omega);have:=Tz (sE n) 0;rw[e]at this;rw[d];omega
def PH (n):(n<0->∃t,itoa n=45 :: t/\t=decDigits n.natAbs)/\(¬ n<0->itoa n=decDigits n.natAbs/\∃c r,itoa n=c :: r/\c.toNat≠45):=by refine⟨λh=>⟨_,by rw[itoa,if_pos h],rfl⟩,λh=>?_⟩;have e:itoa n=decDigits n.natAbs:=(by rw[itoa,if_neg h,show n.toNat=n.natAbs by omega]);obtain⟨c,r,a,j,i⟩:=ZL n.natAbs;exact⟨e,c,r,by rw[e,a],dN⟩
def qja (n)(h:nF n):1<=(itoa n).length/\(itoa n).length<=20:=by have a:∀m:Nat,m<=9223372036854775808->1<=(decDigits m).length/\(decDigits m).length<=19:=λm Q=>(by by_cases I:m=0;{subst I;rw[decDigits_one dN];simp};rw[mR I];have j:=SI (n:=m) (k:=19) dN;have i:(Q0 m).length≠0:=λe=>I (jM.1 (List.length_eq_zero_iff.1 e));simp;omega);have:=a n.natAbs (by unfold nF at h;omega);by_cases G:n<0;{obtain⟨t,e,rfl⟩:=(PH n).1 G;rw[e,List.length_cons];omega};rw[((PH n).2 G).1];omega
def AI (neg:Bool)(l:List UInt8):Int:=if neg then -(N2 (low l):Int) else N2 (low l)
def Py {t n}(h:itoa n=45 :: t):BJ t/\AI Tt t=n:=by by_cases G:n<0;{obtain⟨k,e,rfl⟩:=(PH n).1 G;rw[h]at e;have:t=decDigits n.natAbs:=(by simpa using e);subst this;obtain⟨a,b,-⟩:=D_ n.natAbs;exact⟨a,by simp only[AI,b,if_true];omega⟩};obtain⟨-,c,r,e,v⟩:=(PH n).2 G;rw[h]at e;simp only[List.cons.injEq]at e;rw[<- e.1]at v;exact absurd rfl v
def Qy {c t n}(v:c.toNat≠45)(h:itoa n=c :: t):BJ (c :: t)/\AI Ff (c :: t)=n:=by by_cases G:n<0;{obtain⟨k,e,-⟩:=(PH n).1 G;rw[h]at e;simp only[List.cons.injEq]at e;rw[e.1]at v;exact absurd rfl v};obtain⟨e,-⟩:=(PH n).2 G;rw[<- h,e];obtain⟨a,b,-⟩:=D_ n.natAbs;refine⟨a,?_⟩;simp only[AI,b,Bool.false_eq_true,if_false];omega
end
section
open Go Go.RowKit Go.Proofs.Tryz
def FT {op}(h:¬ (2<=op/\op<=15)):N4 op=7:=by grind[N4]
def fK {p:Prop}(h:p:=by go_wp2;go_ret;exact kw):p:=h
def JR (op w):GZ 192 #[Yj op] w λe k=>e=Rt (Yj (N4 op))/\k=w:=by by_cases h:2<=op/\op<=15;{have h:op=2\/op=3\/op=4\/op=5\/op=6\/op=7\/op=8\/op=9\/op=10\/op=11\/op=12\/op=13\/op=14\/op=15:=dN;rcases h with rfl|rfl|rfl|rfl|rfl|rfl|rfl|rfl|rfl|rfl|rfl|rfl|rfl|rfl;all_goals go_enter func192,ntmps192;exact fK};rw[FT h];have C:(op==3)=Ff:=Yp.2 dN;have y:(op==4)=Ff:=Yp.2 dN;have K:(op==5)=Ff:=Yp.2 dN;have f:(op==6)=Ff:=Yp.2 dN;have q:(op==7)=Ff:=Yp.2 dN;have L:(op==8)=Ff:=Yp.2 dN;have g:(op==9)=Ff:=Yp.2 dN;have a:(op==10)=Ff:=Yp.2 dN;have Z:(op==11)=Ff:=Yp.2 dN;have b:(op==12)=Ff:=Yp.2 dN;have c:(op==13)=Ff:=Yp.2 dN;have d:(op==14)=Ff:=Yp.2 dN;have e:(op==15)=Ff:=Yp.2 dN;rcases (show op<2\/15<op by omega) with Y|Y;all_goals go_enter func192,ntmps192;exact fK
def oO (op w):GZ 278 #[Yj op] w λe k=>e=Rt (Yj (N4 op))/\k=w:=by by_cases h:2<=op/\op<=15;{have h:op=2\/op=3\/op=4\/op=5\/op=6\/op=7\/op=8\/op=9\/op=10\/op=11\/op=12\/op=13\/op=14\/op=15:=dN;rcases h with rfl|rfl|rfl|rfl|rfl|rfl|rfl|rfl|rfl|rfl|rfl|rfl|rfl|rfl;all_goals go_enter func278,ntmps278;exact fK};rw[FT h];rcases (show op<2\/15<op by omega) with Y|Y;all_goals go_enter func278,ntmps278;exact fK
def tW (op w)(I:16<=op)(h1:op<=25):GZ 194 #[Yj op] w λe k=>e=Rt (.string (t5 op))/\k=w:=by have h:op=16\/op=17\/op=18\/op=19\/op=20\/op=21\/op=22\/op=23\/op=24\/op=25:=dN;rcases h with rfl|rfl|rfl|rfl|rfl|rfl|rfl|rfl|rfl|rfl;all_goals go_enter func194,ntmps194;exact fK
def ZR (op w)(I:4<=op)(h1:op<=15):GZ 195 #[Yj op] w λe k=>e=Rt (.string (t5 op))/\k=w:=by have h:op=4\/op=5\/op=6\/op=7\/op=8\/op=9\/op=10\/op=11\/op=12\/op=13\/op=14\/op=15:=dN;rcases h with rfl|rfl|rfl|rfl|rfl|rfl|rfl|rfl|rfl|rfl|rfl|rfl;all_goals go_enter func195,ntmps195;exact fK
def Bk (w:Tw)(g:Nat)(t:TypeId)(n:Nat):Prop:=∃cs,j0 w g t cs/\cs.length=n
def Bk.lt {w g n t}(h:Bk w g t n):g<w.1.size:=h.elim λ_ h=>h.1.lt
def Bk.mono {w w' B g n t}(h:Bk w g t n)(c:Below B w w')(H:g<B):Bk w' g t n:=h.elim λo h=>⟨o,h.1.mono c H,h.2⟩
def Bk.keep {w w' g n t}(h:Bk w g t n)(a:w'.heap[g]? = w.heap[g]?):Bk w' g t n:=h.elim λo h=>⟨o,a.trans h.1,h.2⟩
def Bk.other {w g n R t}(h:Bk w g t n)(V:g≠R)(j v):Bk (w.setCell (Aq R j) v) g t n:=h.elim λo h=>⟨o,h.1.other v V,h.2⟩
def Bk.set {w g n t}(h:Bk w g t n)(j v):Bk (w.setCell (Aq g j) v) g t n:=h.elim λo h=>⟨o.set j v,h.1.set j v,by rw[List.length_set];exact h.2⟩
def Bk.cell {w g n j t}(h:Bk w g t n)(y:j<n):∃v,w.cell? (Aq g j)=Sm v:=h.elim λo h=>⟨_,(h.1.cell j).trans (Yu (by rw[h.2];exact y))⟩
def Bk.free {w g n t}(h:Bk w g t n)(j):w.frozen? (Aq g j)=Ff:=h.elim λ_ h=>h.1.free j
def Co (k n t w):Gv 267 #[.agg (J1 k n t),.agg (J1 k n t)] w (.bool Tt):=by have f:∀a b,Bw w ((w.alloc a).alloc b):=λa b=>((bR _ w).alloc (nR _) a).alloc dQ b;have h:=h_ f;go_enter func267,ntmps267;go_wp2;go_ret;exact⟨rfl,h _ _⟩
def fL {p:Prop}(h:p:=by go_enter func133,ntmps133;go_wp2;go_ret;exact⟨O1 eC,rfl⟩):p:=h
theorem kO (a n w)(I:0<=a)(h1:a<n):GZ 133 (Jl a n) w λe k=>e=Rt (.bool Tt)/\k=w:=by exact fL
theorem YR (a n w)(h:a<0\/n<=a):GZ 133 (Jl a n) w λe k=>e=Rt (.bool Ff)/\k=w:=by by_cases I:0<=a;{have j:n<=a:=dN;exact fL};clear h;exact fL
end
section
open List
variable {T N:Type}
def I4 (X:Lx T N)(M:Nat):Nat->List T->Option Nat
 | d,[]=>Sm d
 | d,t :: r=>if X.L t=Tt then (if d+1<=M then I4 X M (d+1) r else Nn) else if X.R t=Tt then (if d=0 then Nn else I4 X M (d - 1) r) else I4 X M d r
def qO (X:Lx T N)(M d a b):I4 X M d (a++b)=(I4 X M d a).bind λA=>I4 X M A b:=by induction a generalizing d with|nil=>rfl|cons t a c=>simp only[List.cons_append,I4];split;{split;{exact c _};rfl};split;{split;{rfl};exact c _};exact c _
def wT {X:Lx T N}{M d d' a}(h:I4 X M d a=Sm d'):(d':Int)=d+T0 X a:=by induction a generalizing d with|nil=>simp only[I4,Option.some.injEq]at h;simp[T0,h]|cons t a ih=>simp only[I4]at h;simp only[T0];split at h;{rename_i hL;split at h;{have:=ih h;rw[if_pos hL];omega};cases h};rename_i hL;rw[if_neg hL];split at h;{rename_i hR;rw[if_pos hR];split at h;{cases h};have:=ih h;omega};rename_i hR;rw[if_neg hR];have:=ih h;omega
def oS {X:Lx T N}{M d a b}(h:I4 X M d (a++b)=Sm d)(w:T0 X a=0):I4 X M d a=Sm d/\I4 X M d b=Sm d:=by rw[qO]at h;cases s:I4 X M d a with|none=>rw[s]at h;cases h|some A=>have:=wT s;obtain rfl:A=d:=dN;rw[s]at h;exact⟨rfl,h⟩
def YL {X:Lx T N}{M d a b}(w:I4 X M d a=Sm d)(c:I4 X M d b=Sm d):I4 X M d (a++b)=Sm d:=by rw[qO,w];exact c
def lG {X:Lx T N}{M d t}(h1:X.L t=Ff)(i:X.R t=Ff)(r):I4 X M d (t :: r)=I4 X M d r:=by simp[I4,h1,i]
def Lx.Ok.rl {X:Lx T N}(s:X.Ok){r}(h:X.R r=Tt):X.L r=Ff:=by cases q:X.L r with|false=>rfl|true=>rw[(s.LR r q).1]at h;cases h
def NO {X:Lx T N}(ok:X.Ok){M d l r a}(h1:X.L l=Tt)(h2:X.R r=Tt)(ha:T0 X a=0):I4 X M d (l :: (a++[r]))=Sm d ↔ d+1<=M/\I4 X M (d+1) a=Sm (d+1):=by simp only[I4,h1,if_true];constructor;{intro h;split at h;{rename_i hd;refine⟨hd,?_⟩;rw[qO]at h;cases hq:I4 X M (d+1) a with|none=>rw[hq]at h;cases h|some d'=>have:=wT hq;obtain rfl:d'=d+1:=dN;rfl};cases h};rintro⟨hd,hb⟩;rw[if_pos hd,qO,hb];simp[I4,ok.rl h2,h2]
inductive Mdx (N:Type) where
 | op (l:Nat)
 | lp (l:Nat) (acc:List N)
 | atm
 | ar (n:Nat) (acc:List N)
def pE (X:Lx T N)(ts:List T):List T:=ts.takeWhile λt=>decide (X.u t≠0)
def C4 (X:Lx T N)(M:Nat):Nat->Mdx N->Nat->List T->Option (List N × List T)
 | 0,_,_,_=>Nn
 | f+1,.op l,d,ts =>
  if l=6 then
   match C4 X M f .atm d (ts.drop (pE X ts).length) with
   | none=>Nn
   | some (e,r)=>Sm (e++(pE X ts).reverse.map (λt=>X.o (X.u t)),r)
  else
   match C4 X M f (.op (l+1)) d ts with
   | none=>Nn
   | some (e,r)=>C4 X M f (.lp l e) d r
 | f+1,.lp l acc,d,ts =>
  match ts with
  | []=>Sm (acc,[])
  | t :: r =>
   if X.b t≠0/\X.lv (X.b t)=l then
    match C4 X M f (.op (l+1)) d r with
    | none=>Nn
    | some (eb,r')=>if l=3 then Sm (acc++eb++[X.o (X.b t)],r') else C4 X M f (.lp l (acc++eb++[X.o (X.b t)])) d r'
   else Sm (acc,t :: r)
 | f+1,.atm,d,ts =>
  match ts with
  | []=>Nn
  | t :: r =>
   if X.L t=Tt then
    if d+1<=M then
     match C4 X M f (.op 1) (d+1) r with
     | some (e,c :: r')=>if X.R c=Tt then Sm (e,r') else Nn
     | _=>Nn
    else Nn
   else
    match X.k t with
    | none=>Nn
    | some n =>
     match X.g t,r with
     | true,l :: r1 =>
      if X.L l=Tt then
       if X.f t=0 then Nn
       else if d+1<=M then
        match C4 X M f (.op 1) (d+1) r1 with
        | none=>Nn
        | some (e1,r2) =>
         match C4 X M f (.ar (X.ar (X.f t) - 1) e1) (d+1) r2 with
         | some (e,c :: r')=>if X.R c=Tt then Sm (e++[X.o (X.f t)],r') else Nn
         | _=>Nn
       else Nn
      else Sm ([n],r)
     | _,_=>Sm ([n],r)
 | f+1,.ar n acc,d,ts =>
  match n with
  | 0=>Sm (acc,ts)
  | n+1 =>
   match ts with
   | []=>Nn
   | c :: r =>
    if X.C c=Tt then
     match C4 X M f (.op 1) d r with
     | none=>Nn
     | some (e,r')=>C4 X M f (.ar n (acc++e)) d r'
    else Nn
def IK (X:Lx T N)(t r):pE X (t :: r)=if X.u t=0 then [] else t :: pE X r:=by unfold pE;rw[List.takeWhile_cons];by_cases h:X.u t=0 <;> simp[h]
def qn5 (X:Lx T N)(ts):ts=pE X ts++ts.drop (pE X ts).length:=by induction ts with|nil=>rfl|cons t r b=>rw[IK];by_cases h:X.u t=0;{rw[if_pos h];rfl};rw[if_neg h,List.length_cons,List.drop_succ_cons,List.cons_append,<- b]
def vU {X:Lx T N}{ts t}(h:t∈pE X ts):X.u t≠0:=by induction ts with|nil=>cases h|cons x a b=>rw[IK]at h;by_cases r:X.u x=0;{rw[if_pos r]at h;cases h};rw[if_neg r]at h;rcases List.mem_cons.1 h with rfl|h;{exact r};exact b h
def Gr.signs {X b}{e:List N}(h:Gr X 6 0 b e)(l:List T)(P:∀t,t∈l->X.u t≠0):Gr X 6 0 (l++b) (e++l.reverse.map (λt=>X.o (X.u t))):=by induction l with|nil=>simpa using h|cons t l a=>have:=Gr.pre (P t dQ) (a λx r=>P x (by simp[r]));simpa using this
def NP (X:Lx T N)(M:Nat)(md:Mdx N)(d:Nat)(ts:List T)(e:List N)(rest:List T):Prop :=
 match md with
 | .op l=>1<=l->l<=6->∃pre,ts=pre++rest/\Gr X l 0 pre e/\I4 X M d pre=Sm d
 | .lp l acc=>1<=l->l<=5->∃mid,ts=mid++rest/\I4 X M d mid=Sm d/\∀pre0,Gr X (if l=3 then 4 else l) 0 pre0 acc->Gr X l 0 (pre0++mid) e
 | .atm=>∃pre,ts=pre++rest/\Gr X 7 0 pre e/\I4 X M d pre=Sm d
 | .ar n acc=>∃mid,ts=mid++rest/\I4 X M d mid=Sm d/\∀m pre0,Gr X 8 m pre0 acc->Gr X 8 (m+n) (pre0++mid) e
def NF {X:Lx T N}(ok:X.Ok)(M:Nat):∀(f:Nat) (md:Mdx N) (d:Nat) (ts:List T) (e:List N) (rest:List T),C4 X M f md d ts=Sm (e,rest)->NP X M md d ts e rest
 | 0,_,_,_,_,_,h=>eJ
 | f+1,.op l,d,ts,e,rest,h=>by
  intro h1 h6;simp only[C4]at h;split at h
  . rename_i hl
    subst hl;split at h
    . cases h
    . rename_i e0 r0 hq
      simp only[Option.some.injEq,Prod.mk.injEq]at h;obtain⟨rfl,rfl⟩:=h;obtain⟨pre,h2,h3,h4⟩:=NF ok M f .atm d _ _ _ hq;refine⟨pE X ts++pre,?_,Gr.signs (.up dN dN h3) _ λt ht=>vU ht,?_⟩
      . rw[List.append_assoc,<- h2];exact qn5 X ts
      . refine YL ?_ h4
        have:∀l:List T,(∀t,t∈l->X.u t≠0)->I4 X M d l=Sm d:=λl hl=>by
         induction l with
         | nil=>rfl
         | cons t l ih =>
          obtain⟨q1,q2,-,-⟩:=ok.nu (hl t dQ);rw[lG q1 q2];exact ih λx hx=>hl x (by simp[hx])
        exact this _ λt ht=>vU ht
  . rename_i hl
    split at h
    . cases h
    . rename_i e0 r0 hq
      obtain⟨pre,h2,h3,h4⟩:=NF ok M f (.op (l+1)) d ts e0 r0 hq dN dN;obtain⟨mid,h5,h6',h7⟩:=NF ok M f (.lp l e0) d r0 e rest h h1 dN;refine⟨pre++mid,by rw[h2,h5,List.append_assoc],h7 pre ?_,YL h4 h6'⟩;split
      . rename_i h3';subst h3';exact h3
      . exact .up h1 h6 h3
 | f+1,.lp l acc,d,ts,e,rest,h=>by
  intro h1 h5;simp only[C4]at h;have stop:∀r:List T,NP X M (.lp l acc) d r acc r:=λr _ _=>⟨[],rfl,rfl,λpre0 hp=>by
   rw[List.append_nil];split at hp
   . rename_i h3';subst h3';exact .up h1 dN hp
   . exact hp⟩
  split at h
  . simp only[Option.some.injEq,Prod.mk.injEq]at h
    obtain⟨rfl,rfl⟩:=h;exact stop [] h1 h5
  . rename_i t r
    split at h
    . rename_i hs
      split at h
      . cases h
      . rename_i eb r' hq
        obtain⟨b,h2,h3,h4⟩:=NF ok M f (.op (l+1)) d r eb r' hq dN dN;obtain⟨q1,q2,-,-⟩:=ok.nb hs.1;have hbt:I4 X M d (t :: b)=Sm d:=(by rw[lG q1 q2];exact h4);split at h
        . rename_i h3'
          simp only[Option.some.injEq,Prod.mk.injEq]at h;obtain⟨rfl,rfl⟩:=h;refine⟨t :: b,by rw[h2];rfl,hbt,λpre0 hp=>?_⟩;rw[if_pos h3']at hp;subst h3';exact .cmp hp hs.1 hs.2 h3
        . rename_i h3'
          obtain⟨mid,h6,h7,h8⟩:=NF ok M f (.lp l (acc++eb++[X.o (X.b t)])) d r' e rest h h1 h5;refine⟨t :: b++mid,by rw[h2,h6];simp,YL hbt h7,λpre0 hp=>?_⟩;rw[if_neg h3']at hp h8;have:=h8 _ (Gr.bin h1 h5 h3' hp hs.1 hs.2 h3);simpa using this
    . simp only[Option.some.injEq,Prod.mk.injEq]at h
      obtain⟨rfl,rfl⟩:=h;exact stop _ h1 h5
 | f+1,.atm,d,ts,e,rest,h=>by
  simp only[C4]at h;split at h
  . cases h
  . rename_i t r
    split at h
    . rename_i hL
      split at h
      . rename_i hd
        split at h
        . rename_i e0 c r' hq
          split at h
          . rename_i hR
            simp only[Option.some.injEq,Prod.mk.injEq]at h;obtain⟨rfl,rfl⟩:=h;obtain⟨pre,h2,h3,h4⟩:=NF ok M f (.op 1) (d+1) r e0 (c :: r') hq dN dN;refine⟨t :: (pre++[c]),by rw[h2];simp,.par hL hR h3,(NO ok hL hR (h3.ph ok).2.1).2 ⟨hd,h4⟩⟩
          . cases h
        . cases h
      . cases h
    . rename_i hL
      have hL':X.L t=Ff:=(by simpa using hL);split at h
      . cases h
      . rename_i n hk
        have one:NP X M .atm d (t :: r) [n] r:=⟨[t],rfl,.one hk,by
         obtain⟨q1,q2,-,-,-⟩:=ok.nk hk;rw[lG q1 q2];rfl⟩
        split at h
        . rename_i l r1 hg
          split at h
          . rename_i hLl
            split at h
            . cases h
            . rename_i hf
              split at h
              . rename_i hd
                split at h
                . cases h
                . rename_i e1 r2 hq
                  split at h
                  . rename_i e2 c r' hq2
                    split at h
                    . rename_i hR
                      simp only[Option.some.injEq,Prod.mk.injEq]at h;obtain⟨rfl,rfl⟩:=h;obtain⟨pre,h2,h3,h4⟩:=NF ok M f (.op 1) (d+1) r1 e1 r2 hq dN dN;obtain⟨mid,h5,h6,h7⟩:=NF ok M f (.ar (X.ar (X.f t) - 1) e1) (d+1) r2 e2 (c :: r') hq2;have h8:=h7 1 pre (.arg h3);have har:=ok.ar t hf;rw[show 1+(X.ar (X.f t) - 1)=X.ar (X.f t) by omega]at h8;obtain⟨q1,q2,-,-,-⟩:=ok.nk hk;refine⟨t :: l :: ((pre++mid)++[c]),by rw[h2,h5];simp,.call hf hLl hR h8,?_⟩;rw[lG q1 q2];exact(NO ok hLl hR (h8.ph ok).2.1).2 ⟨hd,YL h4 h6⟩
                    . cases h
                  . cases h
              . cases h
          . simp only[Option.some.injEq,Prod.mk.injEq]at h
            obtain⟨rfl,rfl⟩:=h;exact one
        . simp only[Option.some.injEq,Prod.mk.injEq]at h
          obtain⟨rfl,rfl⟩:=h;exact one
 | f+1,.ar n acc,d,ts,e,rest,h=>by
  simp only[C4]at h;split at h
  . simp only[Option.some.injEq,Prod.mk.injEq]at h
    obtain⟨rfl,rfl⟩:=h;exact⟨[],rfl,rfl,λm pre0 hp=>by simpa using hp⟩
  . rename_i n
    split at h
    . cases h
    . rename_i c r
      split at h
      . rename_i hC
        split at h
        . cases h
        . rename_i e1 r' hq
          obtain⟨pre,h2,h3,h4⟩:=NF ok M f (.op 1) d r e1 r' hq dN dN;obtain⟨mid,h5,h6,h7⟩:=NF ok M f (.ar n (acc++e1)) d r' e rest h;obtain⟨q1,q2⟩:=ok.nC hC;refine⟨c :: pre++mid,by rw[h2,h5];simp,YL (by rw[lG q1 q2];exact h4) h6,λm pre0 hp=>?_⟩;have:=h7 _ _ (Gr.args hp hC h3);rw[show m+(n+1)=m+1+n by omega];simpa using this
      . cases h
def IA (X:Lx T N)(l:Nat)(rest:List T):Prop:=∀t r,rest=t :: r->X.L t=Ff/\(X.b t≠0->X.lv (X.b t)<l)
def IA.up {X:Lx T N}{l l' rest}(h:IA X l rest)(P:l<=l'):IA X l' rest:=λt r e=>⟨(h t r e).1,λc=>Nat.lt_of_lt_of_le ((h t r e).2 c) P⟩
def IA.sign {X:Lx T N}(s:X.Ok){l t}(h1:X.b t≠0)(i:X.lv (X.b t)<l)(r):IA X l (t :: r):=λx y e=>by cases e;exact⟨(s.nb h1).1,λ_=>i⟩
def IA.close {X:Lx T N}(s:X.Ok){l t}(h:X.R t=Tt)(r):IA X l (t :: r):=λx y e=>by cases e;exact⟨s.rl h,λc=>absurd (s.RC t h).2.1 c⟩
def IA.comma {X:Lx T N}(s:X.Ok){l t}(h:X.C t=Tt)(r):IA X l (t :: r):=λx y e=>by cases e;exact⟨(s.nC h).1,λc=>absurd (s.Cb t h).1 c⟩
def uB (X:Lx T N)(M:Nat)(md:Mdx N)(d:Nat)(ts:List T)(x:List N × List T):Prop:=∃F,∀f,F<=f->C4 X M f md d ts=Sm x
def E_ {X:Lx T N}{M l d e rest}(h:IA X l rest):uB X M (.lp l e) d rest (e,rest):=by refine⟨1,λf hf=>?_⟩;obtain⟨f,rfl⟩:∃g,f=g+1:=⟨f - 1,dN⟩;simp only[C4];split;{rfl};rename_i t r;rw[if_neg];rintro⟨h1,h2⟩;have:=(h t r rfl).2 h1;omega
def XA (X:Lx T N)(M l n:Nat)(ts:List T)(e:List N):Prop :=
 if l<=5/\l≠3 then ∀d rest x,I4 X M d ts=Sm d->IA X (l+1) rest->uB X M (.lp l e) d rest x->uB X M (.op l) d (ts++rest) x
 else if l=3 then ∀d rest,I4 X M d ts=Sm d->IA X 3 rest->uB X M (.op 3) d (ts++rest) (e,rest)
 else if l=6 then ∀d rest,I4 X M d ts=Sm d->IA X 6 rest->uB X M (.op 6) d (ts++rest) (e,rest)
 else if l=7 then (∀t,ts.head? = Sm t->X.u t=0)/\∀d rest,I4 X M d ts=Sm d->IA X 6 rest->uB X M .atm d (ts++rest) (e,rest)
 else ∀d rest x m,I4 X M d ts=Sm d->IA X 1 rest->uB X M (.ar m e) d rest x->∃F e1 r1,∀f,F<=f->C4 X M f (.op 1) d (ts++rest)=Sm (e1,r1)/\C4 X M f (.ar (n - 1+m) e1) d r1=Sm x
def XA.op {X:Lx T N}{M l n d ts rest e}(h:XA X M l n ts e)(hl:l<=6)(hb:I4 X M d ts=Sm d)(hs:IA X l rest):uB X M (.op l) d (ts++rest) (e,rest):=by unfold XA at h;split at h;{exact h d rest _ hb (hs.up (Nat.le_succ _)) (E_ hs)};split at h;{rename_i h3;subst h3;exact h d rest hb hs};split at h;{rename_i h6;subst h6;exact h d rest hb hs};omega
def wQ {X:Lx T N}{M l d ts r e x}(P:l≠6)(h1:uB X M (.op (l+1)) d ts (e,r))(i:uB X M (.lp l e) d r x):uB X M (.op l) d ts x:=by obtain⟨a,h1⟩:=h1;obtain⟨E,i⟩:=i;refine⟨max a E+1,λf b=>?_⟩;obtain⟨f,rfl⟩:∃g,f=g+1:=⟨f - 1,dN⟩;simp only[C4,if_neg P,h1 f dN,i f dN]
def Xh {X:Lx T N}{M l d t r c V C x}(h1:X.b t≠0)(i:X.lv (X.b t)=l)(D:l≠3)(a:uB X M (.op (l+1)) d r (C,c))(Q:uB X M (.lp l (V++C++[X.o (X.b t)])) d c x):uB X M (.lp l V) d (t :: r) x:=by obtain⟨e,a⟩:=a;obtain⟨E,Q⟩:=Q;refine⟨max e E+1,λf h=>?_⟩;obtain⟨f,rfl⟩:∃g,f=g+1:=⟨f - 1,dN⟩;simp only[C4,if_pos (show X.b t≠0/\X.lv (X.b t)=l from ⟨h1,i⟩),a f dN,if_neg D,Q f dN]
def Pg {X:Lx T N}{M d t r c V C}(h1:X.b t≠0)(i:X.lv (X.b t)=3)(a:uB X M (.op 4) d r (C,c)):uB X M (.lp 3 V) d (t :: r) (V++C++[X.o (X.b t)],c):=by obtain⟨e,a⟩:=a;refine⟨e+1,λf h=>?_⟩;obtain⟨f,rfl⟩:∃g,f=g+1:=⟨f - 1,dN⟩;simp only[C4,if_pos (show X.b t≠0/\X.lv (X.b t)=3 from ⟨h1,i⟩),a f dN,if_true]
def XA.left {X:Lx T N}{M l ts e}(P:l<=5)(D:l≠3)(h:∀d rest x,I4 X M d ts=Sm d->IA X (l+1) rest->uB X M (.lp l e) d rest x->uB X M (.op l) d (ts++rest) x):XA X M l 0 ts e:=by unfold XA;rw[if_pos ⟨P,D⟩];exact h
def XA.goL {X:Lx T N}{M l ts e}(h:XA X M l 0 ts e)(P:l<=5)(D:l≠3):∀d rest x,I4 X M d ts=Sm d->IA X (l+1) rest->uB X M (.lp l e) d rest x->uB X M (.op l) d (ts++rest) x:=by unfold XA at h;rw[if_pos ⟨P,D⟩]at h;exact h
def Gr.comp {X:Lx T N}(ok:X.Ok)(M){l n ts e}(h:Gr X l n ts e):XA X M l n ts e:=by induction h with|@up l ts e h1 h6 hg ih=>by_cases hl:l=6;{subst hl;unfold XA at ih|-;simp only[Nat.reduceLeDiff,false_and,if_false,Nat.reduceEqDiff,if_true]at ih|-;intro d rest hb hs;obtain⟨F,hF⟩:=ih.2 d rest hb hs;refine⟨F+1,λf hf=>?_⟩;obtain⟨f,rfl⟩:∃g,f=g+1:=⟨f - 1,dN⟩;have hu:pE X (ts++rest)=[]:=(by have hne:=((hg.ph ok).1 dN).ne;cases ts with|nil=>exact absurd rfl hne|cons t r=>rw[List.cons_append,IK,if_pos (ih.1 t rfl)]);simp only[C4,if_true,hu,List.length_nil,List.drop_zero,hF f dN,List.reverse_nil,List.map_nil,List.append_nil]};by_cases h3:l=3;{subst h3;unfold XA;simp only[Nat.reduceLeDiff,ne_eq,not_true_eq_false,and_false,if_false,if_true];intro d rest hb hs;exact wQ dN (ih.op dN hb (hs.up dN)) (E_ hs)};exact XA.left dN h3 λd rest x hb hs hx=>wQ hl (ih.op dN hb hs) hx|@bin l a t b ea eb h1 h5 h3 ha h4 hl hb iha ihb=>refine XA.left h5 h3 λd rest x hbal hs hx=>?_;obtain⟨q1,q2,-,-⟩:=ok.nb h4;obtain⟨b1,b2⟩:=oS hbal (ha.ph ok).2.1;rw[lG q1 q2]at b2;rw[List.append_assoc,List.cons_append];exact iha.goL h5 h3 d _ x b1 (IA.sign ok h4 dN _) (Xh h4 hl h3 (ihb.op dN b2 hs) hx)|@cmp a t b ea eb ha h4 hl hb iha ihb=>unfold XA;simp only[Nat.reduceLeDiff,ne_eq,not_true_eq_false,and_false,if_false,if_true];intro d rest hbal hs;obtain⟨q1,q2,-,-⟩:=ok.nb h4;obtain⟨b1,b2⟩:=oS hbal (ha.ph ok).2.1;rw[lG q1 q2]at b2;rw[List.append_assoc,List.cons_append];exact wQ dN (iha.op dN b1 (IA.sign ok h4 dN _)) (Pg h4 hl (ihb.op dN b2 (hs.up dN)))|@pre t b eb h1 hb ih=>unfold XA at ih|-;simp only[Nat.reduceLeDiff,false_and,if_false,Nat.reduceEqDiff,if_true]at ih|-;intro d rest hbal hs;obtain⟨q1,q2,-,-⟩:=ok.nu h1;rw[lG q1 q2]at hbal;obtain⟨F,hF⟩:=ih d rest hbal hs;refine⟨F+1,λf hf=>?_⟩;have h:=hF f dN;obtain⟨f,rfl⟩:∃g,f=g+1:=⟨f - 1,dN⟩;simp only[C4,if_true]at h|-;rw[List.cons_append,IK,if_neg h1,List.length_cons,List.drop_succ_cons];split at h;{cases h};rename_i e0 r0 hq;simp only[Option.some.injEq,Prod.mk.injEq]at h;obtain⟨rfl,rfl⟩:=h;simp|@one t n h1=>obtain⟨q1,q2,q3,q4,q5⟩:=ok.nk h1;unfold XA;simp only[Nat.reduceLeDiff,false_and,if_false,Nat.reduceEqDiff,if_true];refine⟨λx hx=>by simp at hx;subst hx;exact q5,λd rest _ hs=>⟨1,λf hf=>?_⟩⟩;obtain⟨f,rfl⟩:∃g,f=g+1:=⟨f - 1,dN⟩;simp only[C4,List.cons_append,List.nil_append,q1,Bool.false_eq_true,if_false,h1];split;{rename_i l r1 _;rw[if_neg (by rw[(hs l r1 rfl).1];decide)]};rfl|@par l r a e h1 h2 ha ih=>unfold XA;simp only[Nat.reduceLeDiff,false_and,if_false,Nat.reduceEqDiff,if_true];refine⟨λx hx=>by simp at hx;subst hx;exact(ok.LR _ h1).2.2.2.1,λd rest hbal hs=>?_⟩;obtain⟨hd,hb⟩:=(NO ok h1 h2 (ha.ph ok).2.1).1 hbal;obtain⟨F,hF⟩:=ih.op dN hb (IA.close ok (l:=1) h2 rest);refine⟨F+1,λf hf=>?_⟩;obtain⟨f,rfl⟩:∃g,f=g+1:=⟨f - 1,dN⟩;have:=hF f dN;simp only[C4,List.cons_append,List.append_assoc,List.nil_append,h1,if_true,if_pos hd,this,h2]|@call t l r a e h0 h1 h2 ha ih=>obtain⟨n,hk⟩:=ok.nf h0;obtain⟨q1,q2,q3,q4,q5⟩:=ok.nk hk;have hg:=ok.fg t h0;have har:=ok.ar t h0;unfold XA at ih|-;simp only[Nat.reduceLeDiff,false_and,if_false,Nat.reduceEqDiff,if_true]at ih|-;refine⟨λx hx=>by simp at hx;subst hx;exact q5,λd rest hbal hs=>?_⟩;rw[lG q1 q2]at hbal;obtain⟨hd,hb⟩:=(NO ok h1 h2 (ha.ph ok).2.1).1 hbal;obtain⟨F,e1,r1,hF⟩:=ih (d+1) (r :: rest) (e,r :: rest) 0 hb (IA.close ok (l:=1) h2 rest) ⟨1,λf hf=>by obtain⟨f,rfl⟩:∃g,f=g+1:=⟨f - 1,dN⟩;rfl⟩;refine⟨F+1,λf hf=>?_⟩;obtain⟨f,rfl⟩:∃g,f=g+1:=⟨f - 1,dN⟩;obtain⟨g1,g2⟩:=hF f dN;rw[Nat.add_zero]at g2;simp only[C4,List.cons_append,List.append_assoc,List.nil_append,q1,Bool.false_eq_true,if_false,hk,hg,h1,if_true,if_neg h0,if_pos hd,g1,g2,h2]|@arg a e ha ih=>unfold XA;simp only[Nat.reduceLeDiff,false_and,if_false,Nat.reduceEqDiff];intro d rest x m hb hs hx;obtain⟨F1,h1⟩:=ih.op dN hb hs;obtain⟨F2,h2⟩:=hx;refine⟨max F1 F2,e,rest,λf hf=>⟨h1 f dN,?_⟩⟩;rw[show 1 - 1+m=m by omega];exact h2 f dN|@args n a c b ea eb ha hc hb iha ihb=>unfold XA at iha|-;simp only[Nat.reduceLeDiff,false_and,if_false,Nat.reduceEqDiff]at iha|-;intro d rest x m hbal hs hx;obtain⟨q1,q2⟩:=ok.nC hc;obtain⟨b1,b2⟩:=oS hbal (ha.ph ok).2.1;rw[lG q1 q2]at b2;obtain⟨F1,h1⟩:=ihb.op dN b2 hs;obtain⟨F2,h2⟩:=hx;obtain⟨F,e1,r1,hF⟩:=iha d (c :: b++rest) x (m+1) b1 (IA.comma ok (l:=1) hc _) ⟨max F1 F2+1,λf hf=>by obtain⟨f,rfl⟩:∃g,f=g+1:=⟨f - 1,dN⟩;simp only[C4,List.cons_append,hc,if_true,h1 f dN,h2 f dN]⟩;refine⟨F,e1,r1,λf hf=>?_⟩;have hn:1<=n:=(by cases ha <;> omega);rw[List.append_assoc,show n+1 - 1+m=n - 1+(m+1) by omega];exact hF f hf
def wU {X:Lx T N}(s:X.Ok){M ts e}(h:Gr X 1 0 ts e)(c:I4 X M 0 ts=Sm 0):∃F,∀f,F<=f->C4 X M f (.op 1) 0 ts=Sm (e,[]):=by have:=(h.comp s M).op dN c (rest:=[]) (λt r e=>by cases e);rw[List.append_nil]at this;exact this
def Gr.uniq {X:Lx T N}(ok:X.Ok){ts e e'}(h:Gr X 1 0 ts e)(h':Gr X 1 0 ts e'):e=e':=by have hb:∃M,I4 X M 0 ts=Sm 0:=(by refine⟨ts.length,?_⟩;have gen:∀(l:List T) (d:Nat),(∀i,i<=l.length->0<=(d:Int)+T0 X (l.take i))->d+l.length<=ts.length->∃d',I4 X ts.length d l=Sm d':=λl=>(by induction l with|nil=>exact λd _ _=>⟨d,rfl⟩|cons t r ih=>intro d hd hl;simp only[List.length_cons]at hl;simp only[I4];have hi:∀i,i<=r.length->0<=(d:Int)+T0 X (t :: r.take i):=λi hi=>(by have:=hd (i+1) (by simpa using hi);rwa [List.take_succ_cons]at this);split;{rename_i hL;rw[if_pos dN];refine ih (d+1) (λi h=>?_) dN;have:=hi i h;simp only[T0,hL,if_true]at this;omega};rename_i hL;split;{rename_i hR;have h0:=hi 0 (Nat.zero_le _);simp only[T0,if_neg hL,hR,if_true,List.take_zero]at h0;rw[if_neg dN];refine ih (d - 1) (λi h=>?_) dN;have:=hi i h;simp only[T0,if_neg hL,hR,if_true]at this;omega};rename_i hR;refine ih d (λi h=>?_) dN;have:=hi i h;simp only[T0,if_neg hL,if_neg hR]at this;omega);obtain⟨d',hd'⟩:=gen ts 0 (λi hi=>Fq (((h.ph ok).2.2) i hi)) dN;have:=wT hd';rw[(h.ph ok).2.1]at this;obtain rfl:d'=0:=dN;exact hd');obtain⟨M,hb⟩:=hb;obtain⟨F,hF⟩:=wU ok h hb;obtain⟨F',hF'⟩:=wU ok h' hb;have:=(hF (max F F') dN).symm.trans (hF' (max F F') dN);simpa using this
end
section
open Go Go.Proofs.Tryz
def mid (s:Tb):Tb:=s.extract 1 (s.size - 1)
def US (s):(mid s).size=s.size - 1 - 1:=by simp[mid]
def rv (s:Tb):Int × Int × Tb × Bool :=
 if s=⟨#[98,108,97,110,107]⟩ then (0,0,⟨#[]⟩,Tt)
 else if s=⟨#[116,114,117,101]⟩ then (2,1,⟨#[]⟩,Tt)
 else if s=⟨#[102,97,108,115,101]⟩ then (2,0,⟨#[]⟩,Tt)
 else match AB s.data.toList with
  | some n=>(1,n,⟨#[]⟩,Tt)
  | none=>if 2<=s.size/\BA (mid s)=Tt/\⟨#[34]⟩++mid s++⟨#[34]⟩=s then (3,0,mid s,Tt) else (0,0,⟨#[]⟩,Ff)
def TW {l n}(h:AB l=Sm n):Lib.itoa n=l:=by unfold AB at h;split at h;{rename_i m _;split at h;{rename_i e;simp only[Vb]at h;rw[<- h];exact e};cases h};cases h
def RW {l n}(h:AB l=Sm n):∃c r,l=c :: r/\((c=45/\r≠[])\/(48<=c.toNat/\c.toNat<=57)):=by have e:=TW h;unfold Lib.itoa at e;split at e;{obtain⟨c,r,j,-⟩:=ZL n.natAbs;exact⟨45,Lib.decDigits n.natAbs,e.symm,.inl ⟨rfl,by rw[j];simp⟩⟩};obtain⟨c,r,j,i,D⟩:=ZL n.toNat;exact⟨c,r,by rw[<- e,j],.inr ⟨i,D⟩⟩
def LT {s}(h:(rv s).2.2.2=Tt):s=⟨#[98,108,97,110,107]⟩\/s=⟨#[116,114,117,101]⟩\/s=⟨#[102,97,108,115,101]⟩\/∃c r,s.data.toList=c :: r/\((c=45/\r≠[])\/(48<=c.toNat/\c.toNat<=57)\/c=34):=by unfold rv at h;split at h;{rename_i e;exact .inl e};split at h;{rename_i e;exact .inr (.inl e)};split at h;{rename_i e;exact .inr (.inr (.inl e))};split at h;{rename_i n hn;obtain⟨c,r,h1,h2⟩:=RW hn;exact .inr (.inr (.inr ⟨c,r,h1,by rcases h2 with h|h <;> simp[h]⟩))};split at h;{rename_i hq;refine .inr (.inr (.inr ⟨34,(mid s).data.toList++[34],?_,.inr (.inr rfl)⟩));have:=congrArg (λx:Tb=>x.data.toList) hq.2.2;simp only[Vj,O9]at this;rw[<- this];rfl};cases h
end
section
def vN {k n e:Nat}(h:k+n=e):(k:Int)+(n:Int)=(e:Int):=by omega
def wF {k e:Nat}(h:k+1=e):(k:Int)+1=(e:Int):=by omega
def UU {k e:Nat}(h:k+2=e):(k:Int)+2=(e:Int):=by omega
def SQ {k e:Nat}(h:k<e):(k:Int)<(e:Int):=by omega
def JV {k e:Nat}(h:k<=e):(k:Int)<=(e:Int):=by omega
def Ej {k e:Nat}(h:¬ k<e):¬ (k:Int)<(e:Int):=by omega
def VU {k e:Nat}(h:¬ k<=e):¬ (k:Int)<=(e:Int):=by omega
end
section
open List
variable {T N:Type}
def mD (X:Lx T N)(l:Nat)(ts:List T)(i:Nat):Prop:=∃p t,ts[i]? = Sm p/\ts[i+1]? = Sm t/\T0 X (ts.take (i+2))=0/\X.eo p=Tt/\X.b t≠0/\X.lv (X.b t)=l
def T9.last {X:Lx T N}{l a}(h:T9 X l a):∃p,a[a.length - 1]? = Sm p/\X.eo p=Tt:=by cases s:a.getLast? with|none=>rw[List.getLast?_eq_none_iff]at s;exact absurd s h.ne|some p=>exact⟨p,by rw[<- List.getLast?_eq_getElem?];exact s,h.eo p s⟩
def IZ {X:Lx T N}(s:X.Ok){l n a b t}(w:T9 X n a)(e:T9 X (l+1) b)(h1:X.b t≠0)(i:X.lv (X.b t)=l):mD X l (a++t :: b) (a.length - 1)/\∀j,a.length - 1<j->¬ mD X l (a++t :: b) j:=by obtain⟨u,O,J,D⟩:=s.nb h1;have z:∀r,T0 X (t :: r)=T0 X r:=XM u O;have x:1<=a.length:=List.length_pos_iff.2 w.ne;obtain⟨m,W,f⟩:=w.last;constructor;{refine⟨m,t,by rw[List.getElem?_append_left dN];exact W,?_,?_,f,h1,i⟩;{rw[show a.length - 1+1=a.length by omega,List.getElem?_append_right (Nat.le_refl _),Nat.sub_self];rfl};rw[show a.length - 1+2=a.length+1 by omega,jK dN,KF,w.d0,show a.length+1 - a.length=0+1 by omega,List.take_succ_cons,z];rfl};rintro j y ⟨o,q,c,r,G,p,d,v⟩;rw[List.getElem?_append_right dN]at c r;rw[jK dN,KF,w.d0]at G;by_cases g:j=a.length;{subst g;rw[Nat.sub_self]at c;simp at c;subst c;rw[D]at p;cases p};obtain⟨k,h⟩:∃k,j=a.length+1+k:=⟨j - a.length - 1,dN⟩;subst h;rw[show a.length+1+k - a.length=k+1 by omega,List.getElem?_cons_succ]at c;rw[show a.length+1+k+1 - a.length=k+1+1 by omega,List.getElem?_cons_succ]at r;rw[show a.length+1+k+2 - a.length=k+2+1 by omega,List.take_succ_cons,z]at G;have:=e.lo k o q c r dN p d;omega
def Gr.inv {X:Lx T N}{l ts e}(h:Gr X l 0 ts e)(h1:1<=l)(Q:l<=5):Gr X (l+1) 0 ts e\/∃a t b n C,ts=a++t :: b/\e=n++C++[X.o (X.b t)]/\X.b t≠0/\X.lv (X.b t)=l/\Gr X (if l=3 then 4 else l) 0 a n/\Gr X (l+1) 0 b C:=by cases h with|up _ _ h=>exact .inl h|bin _ _ h3 ha h4 hl hb=>exact .inr ⟨_,_,_,_,_,rfl,rfl,h4,hl,by rw[if_neg h3];exact ha,hb⟩|cmp ha h4 hl hb=>exact .inr ⟨_,_,_,_,_,rfl,rfl,h4,hl,ha,hb⟩|pre=>omega|one=>omega|par=>omega|call=>omega
def Qg {X:Lx T N}(s:X.Ok){l ts e}(h:Gr X (l+1) 0 ts e)(Q:l<=5)(i):¬ mD X l ts i:=by rintro⟨b,t,k,r,G,p,a,c⟩;have:=((h.ph s).1 dN).lo i b t k r G p a;omega
def Qw {X:Lx T N}(s:X.Ok){l ts}(h1:1<=l)(Q:l<=5)(G:∀i,¬ mD X l ts i)(e):Gr X l 0 ts e ↔ Gr X (l+1) 0 ts e:=by constructor;{intro h;rcases h.inv h1 Q with h|⟨a,t,b,n,C,rfl,rfl,d,P,w,c⟩;{exact h};refine absurd (IZ s ((w.ph s).1 (by split <;> omega)) ((c.ph s).1 dN) d P).1 (G _)};exact λh=>.up h1 dN h
def Rw {X:Lx T N}(s:X.Ok){l i a b t}(h1:1<=l)(Q:l<=5)(hi:mD X l (a++t :: b) i)(P:∀j,i<j->¬ mD X l (a++t :: b) j)(w:a.length=i+1)(e):Gr X l 0 (a++t :: b) e ↔ ∃n C,Gr X (if l=3 then 4 else l) 0 a n/\Gr X (l+1) 0 b C/\e=n++C++[X.o (X.b t)]:=by constructor;{intro h;rcases h.inv h1 Q with h|⟨c,j,k,n,C,f,rfl,g,y,A,W⟩;{exact absurd hi (Qg s h Q i)};have U:=(A.ph s).1 (show(if l=3 then 4 else l)<=7 by split <;> omega);have d:=IZ s U ((W.ph s).1 dN) g y;rw[<- f]at d;have r:1<=c.length:=List.length_pos_iff.2 U.ne;have u:a.length=c.length:=(by rcases Nat.lt_trichotomy i (c.length - 1) with h|h|h;{exact absurd d.1 (P _ h)};{omega};exact absurd hi (d.2 _ h));obtain⟨rfl,Y⟩:=List.append_inj f u;cases Y;exact⟨n,C,A,W,rfl⟩};rintro⟨n,C,c,D,rfl⟩;obtain⟨g,j,f,r,G,p,k,d⟩:=hi;rw[List.getElem?_append_right dN,w,Nat.sub_self]at r;simp at r;subst r;by_cases z:l=3;{rw[if_pos z]at c;subst z;exact .cmp c k d D};rw[if_neg z]at c;exact .bin h1 Q z c k d D
def qlz {X:Lx T N}(s:X.Ok){t r}(h:X.u t≠0)(e):Gr X 6 0 (t :: r) e ↔ ∃C,Gr X 6 0 r C/\e=C++[X.o (X.u t)]:=by constructor;{intro H;generalize P:(6:Nat)=l at H;generalize L:t :: r=V at H;cases H with|up j h2 H=>subst P;obtain⟨q,-⟩:(∀t,V.head? = Sm t->X.u t=0)/\True:=⟨by have:=H.comp s 0;unfold XA at this;simp only[Nat.reduceLeDiff,false_and,if_false,Nat.reduceEqDiff,if_true,Nat.reduceAdd]at this;exact this.1,trivial⟩;exact absurd (q t (by rw[<- L];rfl)) h|bin j h2=>omega|cmp=>omega|pre j hb=>cases L;exact⟨_,hb,rfl⟩|one=>omega|par=>omega|call=>omega};rintro⟨C,j,rfl⟩;exact .pre h j
def Lv {X:Lx T N}{t r}(h:X.u t=0)(e):Gr X 6 0 (t :: r) e ↔ Gr X 7 0 (t :: r) e:=by constructor;{intro H;generalize P:(6:Nat)=l at H;generalize L:t :: r=V at H;cases H with|up h1 h2 H=>subst P;exact H|bin h1 h2=>omega|cmp=>omega|pre h1 hb=>cases L;exact absurd h h1|one=>omega|par=>omega|call=>omega};exact λH=>.up dN dN H
def Gr.inv7 {X:Lx T N}{ts e}(h:Gr X 7 0 ts e):(∃t n,ts=[t]/\e=[n]/\X.k t=Sm n)\/(∃l r a,ts=l :: (a++[r])/\X.L l=Tt/\X.R r=Tt/\Gr X 1 0 a e)\/∃t l r a P,ts=t :: l :: (a++[r])/\e=P++[X.o (X.f t)]/\X.f t≠0/\X.L l=Tt/\X.R r=Tt/\Gr X 8 (X.ar (X.f t)) a P:=by generalize P:(7:Nat)=l at h;cases h with|up=>omega|bin=>omega|cmp=>omega|pre=>omega|one h=>exact .inl ⟨_,_,rfl,rfl,h⟩|par h1 h2 h3=>exact .inr (.inl ⟨_,_,_,rfl,h1,h2,h3⟩)|call h0 h1 h2 h3=>exact .inr (.inr ⟨_,_,_,_,_,rfl,rfl,h0,h1,h2,h3⟩)
def M_ {X:Lx T N}(t e):Gr X 7 0 [t] e ↔ ∃n,X.k t=Sm n/\e=[n]:=by constructor;{intro h;rcases h.inv7 with ⟨b,n,j,i,D⟩|⟨l,r,a,j,-⟩|⟨b,l,r,a,P,j,-⟩;{cases j;exact⟨n,D,i⟩};{have:=congrArg List.length j;simp at this};have:=congrArg List.length j;simp at this};rintro⟨n,h,rfl⟩;exact .one h
def P_ {X:Lx T N}(s:X.Ok){l r a}(h1:X.L l=Tt)(i:X.R r=Tt)(e):Gr X 7 0 (l :: (a++[r])) e ↔ Gr X 1 0 a e:=by constructor;{intro h;rcases h.inv7 with ⟨k,n,q,b,f⟩|⟨A,d,c,q,-,-,b⟩|⟨k,A,d,c,P,q,-,b,-⟩;{have:=congrArg List.length q;simp at this};{simp only[List.cons.injEq]at q;obtain⟨rfl,q⟩:=q;obtain⟨rfl,-⟩:=List.append_inj' q rfl;exact b};simp only[List.cons.injEq]at q;obtain⟨rfl,-⟩:=q;obtain⟨n,G⟩:=s.nf b;rw[(s.nk G).1]at h1;cases h1};exact λh=>.par h1 i h
def KS {X:Lx T N}{t l r a}(I:X.L t=Ff)(h1:X.L l=Tt)(i:X.R r=Tt)(e):Gr X 7 0 (t :: l :: (a++[r])) e ↔ X.f t≠0/\∃P,Gr X 8 (X.ar (X.f t)) a P/\e=P++[X.o (X.f t)]:=by constructor;{intro h;rcases h.inv7 with ⟨k,n,q,b,s⟩|⟨A,d,c,q,b,-⟩|⟨k,A,d,c,P,q,b,s,S,g,m⟩;{have:=congrArg List.length q;simp at this};{simp only[List.cons.injEq]at q;rw[<- q.1,I]at b;cases b};simp only[List.cons.injEq]at q;obtain⟨rfl,rfl,q⟩:=q;obtain⟨rfl,-⟩:=List.append_inj' q rfl;exact⟨s,P,m,b⟩};rintro⟨q,P,b,rfl⟩;exact .call q h1 i b
def Ay {X:Lx T N}(s:X.Ok){ts e}(h:Gr X 7 0 ts e):(∃t,ts=[t])\/(∃l r a,ts=l :: (a++[r])/\X.L l=Tt/\X.R r=Tt/\T0 X a=0/\∀i,i<=a.length->0<=T0 X (a.take i))\/∃t l r a,ts=t :: l :: (a++[r])/\X.g t=Tt/\X.L l=Tt/\X.R r=Tt/\T0 X a=0/\∀i,i<=a.length->0<=T0 X (a.take i):=by rcases h.inv7 with ⟨k,n,q,c,a⟩|⟨A,d,b,q,c,a,S⟩|⟨k,A,d,b,P,q,c,a,S,f,m⟩;{exact .inl ⟨k,q⟩};{exact .inr (.inl ⟨A,d,b,q,c,a,(S.ph s).2.1,(S.ph s).2.2⟩)};exact .inr (.inr ⟨k,A,d,b,q,s.fg k a,S,f,(m.ph s).2.1,(m.ph s).2.2⟩)
def I7 (X:Lx T N)(t:T):Int:=if X.L t=Tt then 1 else if X.R t=Tt then -1 else 0
def YI (X:Lx T N)(t r):T0 X (t :: r)=I7 X t+T0 X r:=rfl
def l9 (X:Lx T N):Int->List T->List T->List (List T)
 | _,cur,[]=>[cur]
 | d,cur,t :: r=>if d+I7 X t=0/\X.C t=Tt then cur :: l9 X 0 [] r else l9 X (d+I7 X t) (cur++[t]) r
def AE (X:Lx T N):List (List T)->List N->Prop
 | [],e=>e=[]
 | p :: ps,e=>∃e1 e2,Gr X 1 0 p e1/\AE X ps e2/\e=e1++e2
def AE.app {X:Lx T N}{g x e1 c}(h1:AE X g e1)(i:AE X x c):AE X (g++x) (e1++c):=by induction g generalizing e1 with|nil=>cases h1;simpa using i|cons p g e=>obtain⟨a,b,D,d,rfl⟩:=h1;exact⟨a,b++c,D,e d,dQ⟩
def AE.unapp {X:Lx T N}{g x e}(h:AE X (g++x) e):∃a c,AE X g a/\AE X x c/\e=a++c:=by induction g generalizing e with|nil=>exact⟨[],e,rfl,h,rfl⟩|cons p g f=>obtain⟨a,i,D,b,rfl⟩:=h;obtain⟨c,d,Q,j,rfl⟩:=f b;exact⟨a++c,d,⟨a,c,D,Q,rfl⟩,j,dQ⟩
def JT {X:Lx T N}(ok:X.Ok){c:T}(hc:X.C c=Tt)(b:List T):∀(a:List T) (d:Int) (cur:List T),d+T0 X a=0->l9 X d cur (a++c :: b)=l9 X d cur a++l9 X 0 [] b
 | [],d,cur,h=>by
  obtain⟨q1,q2⟩:=ok.nC hc;simp only[List.nil_append,l9];have:I7 X c=0:=by simp[I7,q1,q2]
  rw[if_pos ⟨by rw[this];simpa [T0] using h,hc⟩];rfl
 | t :: a,d,cur,h=>by
  rw[YI]at h;simp only[List.cons_append,l9];split
  . rename_i hd
    rw[JT ok hc b a 0 [] dN];rfl
  . exact JT ok hc b a _ _ dN
def R_ {X:Lx T N}:∀(b:List T) (d:Int) (p:List T),(∀i t,b[i]? = Sm t->d+T0 X (b.take (i+1))=0->X.C t=Ff)->l9 X d p b=[p++b]|[],d,p,_=>by simp[l9]|t :: b,d,p,h=>by simp only[l9];rw[if_neg];{rw[R_ b _ _ λi x r e=>h (i+1) x fD (by rw[List.take_succ_cons,YI];omega)];simp};rintro⟨j,i⟩;have:=h 0 t rfl (by simp[List.take_succ_cons,YI,T0];exact j);rw[this]at i;cases i
def qhn {X:Lx T N}(s:X.Ok){l n a e}(h:Gr X l n a e):l=8->(l9 X 0 [] a).length=n/\AE X (l9 X 0 [] a) e:=by have B:∀{b:List T} {e:List N},Gr X 1 0 b e->l9 X 0 [] b=[b]:=λh=>(by rw[R_ _ 0 [] λi t b c=>((h.ph s).1 dN).nc i t b dN];rfl);induction h with|arg ha=>intro _;rw[B ha];exact⟨rfl,_,_,ha,rfl,dQ⟩|args ha hc hb iha _=>intro _;obtain⟨j,i⟩:=iha rfl;rw[JT s hc _ _ 0 [] (by rw[(ha.ph s).2.1];rfl),B hb];exact⟨by simp[j],i.app ⟨_,_,hb,rfl,dQ⟩⟩|up=>omega|bin=>omega|cmp=>omega|pre=>omega|one=>omega|par=>omega|call=>omega
def jT {X:Lx T N}:∀(a:List T) (d:Int) (cur:List T) (e:List N),AE X (l9 X d cur a) e->Gr X 8 (l9 X d cur a).length (cur++a) e/\∀m pre c e0,Gr X 8 m pre e0->X.C c=Tt->Gr X 8 (m+(l9 X d cur a).length) (pre++c :: (cur++a)) (e0++e)
 | [],d,cur,e,h=>by
  simp only[l9]at h|-;obtain⟨e1,e2,h1,rfl,rfl⟩:=h;rw[List.append_nil,List.append_nil];exact⟨.arg h1,λm pre c e0 hp hc=>.args hp hc h1⟩
 | t :: a,d,cur,e,h=>by
  simp only[l9]at h|-;split at h
  . rename_i hd
    obtain⟨e1,e2,h1,h2,rfl⟩:=h;obtain⟨-,h3⟩:=jT a 0 [] e2 h2;rw[if_pos hd,List.length_cons];constructor
    . have:=h3 1 cur t e1 (.arg h1) hd.2
      rw[Nat.add_comm]at this;simpa using this
    . intro m pre c e0 hp hc
      have:=h3 (m+1) _ t _ (.args hp hc h1) hd.2;rw[show m+((l9 X 0 [] a).length+1)=m+1+(l9 X 0 [] a).length by omega];simpa using this
  . rename_i hd
    rw[if_neg hd];have:=jT a _ _ e h;rw[List.append_assoc]at this;exact this
def GS {X:Lx T N}(s:X.Ok){n a e}:Gr X 8 n a e ↔ (l9 X 0 [] a).length=n/\AE X (l9 X 0 [] a) e:=by constructor;{exact λh=>qhn s h rfl};rintro⟨rfl,h⟩;exact(jT a 0 [] e h).1
def CC (X:Lx T N):Int->List T->Option Nat
 | _,[]=>Nn
 | d,t :: r=>if X.R t=Tt/\d+I7 X t=0 then Sm 0 else (CC X (d+I7 X t) r).map (· + 1)
def L_ {X:Lx T N}:∀(s:List T) (d:Int) (j:Nat),CC X d s=Sm j->∃a r b,s=a++r :: b/\a.length=j/\X.R r=Tt|[],_,_,h=>eJ|t :: s,d,j,h=>by simp only[CC]at h;split at h;{rename_i hq;cases h;exact⟨[],t,s,rfl,rfl,hq.1⟩};cases hm:CC X (d+I7 X t) s with|none=>rw[hm]at h;cases h|some k=>rw[hm]at h;cases h;obtain⟨a,r,b,rfl,rfl,hr⟩:=L_ s _ k hm;exact⟨t :: a,r,b,rfl,rfl,hr⟩
def K_ {X:Lx T N}(s:X.Ok){r:T}(E:X.R r=Tt):∀(a:List T) (d:Int),1<=d->d+T0 X a=1->(∀i,i<=a.length->1<=d+T0 X (a.take i))->CC X d (a++[r])=Sm a.length
 | [],d,_,h,_=>by
  simp only[T0]at h;simp only[List.nil_append,CC];rw[if_pos ⟨E,by simp[I7,s.rl E,E];omega⟩];rfl
 | t :: a,d,h1,h2,h3=>by
  rw[YI]at h2;simp only[List.cons_append,CC];have d:=h3 1 dQ;rw[List.take_succ_cons,YI]at d;simp only[List.take_zero,T0]at d;rw[if_neg (by rintro⟨-,h⟩;omega),K_ s E a _ dN dN λi a=>by
   have:=h3 (i+1) (by simpa using a);rw[List.take_succ_cons,YI]at this;omega]
  rfl
def pY {X:Lx T N}(s:X.Ok){l r a}(h1:X.L l=Tt)(b:X.R r=Tt)(f:T0 X a=0)(e:∀i,i<=a.length->0<=T0 X (a.take i)):CC X 0 (l :: (a++[r]))=Sm (a.length+1):=by have c:I7 X l=1:=(by simp[I7,h1]);simp only[CC];rw[if_neg (by rintro⟨-,h⟩;omega),c,K_ s b a _ dN dN λi d=>by have:=e i d;omega];rfl
def zX {X:Lx T N}{l s}(h:CC X 0 (l :: s)=Sm s.length)(h1:X.L l=Tt):∃a r,s=a++[r]/\X.R r=Tt:=by have e:I7 X l=1:=(by simp[I7,h1]);simp only[CC]at h;rw[if_neg (by rintro⟨-,h⟩;omega)]at h;cases Q:CC X (0+I7 X l) s with|none=>rw[Q]at h;cases h|some k=>rw[Q]at h;simp only[Option.map_some,Option.some.injEq]at h;obtain⟨a,r,b,rfl,D,d⟩:=L_ s _ k Q;simp only[List.length_append,List.length_cons]at h;have c:b=[]:=List.length_eq_zero_iff.1 dN;subst c;exact⟨a,r,rfl,d⟩
def WJ (X:Lx T N)(l:Nat)(ts:List T)(k:Nat)(last:Option Nat):Prop:=match last with
 | none=>∀i,i+1<k->¬ mD X l ts i
 | some j=>∃i,j=i+1/\j<k/\mD X l ts i/\∀i',i<i'->i'+1<k->¬ mD X l ts i'
def qjp (X:Lx T N)(l ts):WJ X l ts 0 Nn:=λi h=>by omega
def YM {X:Lx T N}{l k ts g}(a:WJ X l ts k g)(G:∀i,i+1=k->¬ mD X l ts i):WJ X l ts (k+1) g:=by cases g with|none=>intro i b;by_cases e:i+1=k;{exact G i e};exact a i dN|some f=>obtain⟨i,j,b,D,d⟩:=a;refine⟨i,j,dN,D,λh Q c=>?_⟩;by_cases e:h+1=k;{exact G h e};exact d h Q dN
def qqh {X:Lx T N}{l i ts}(c:mD X l ts i):WJ X l ts (i+2) (Sm (i+1)):=⟨i,rfl,dN,c,λh j a=>dN⟩
end
section
open Go Go.RowKit Go.Proofs.Tryz
def zR (op w):Gv 129 #[Yj op] w (.agg #[Yj op,Yj 0,Yj 0,Yl,Yl]):=by go_enter func129,ntmps129;go_wp2;exact bQ ⟨rfl,Bq⟩
def ML (k n s w):Gv 96 #[.agg (J1 k n s)] w (.agg #[Yj 0,Yj k,Yj n,.string s,Yl]):=by go_enter func96,ntmps96;go_wp2;exact bQ ⟨rfl,(Bq).alloc dQ _⟩
end
section
open Go Go.Proofs.Tryz
def oQ (J:Nat->Act->World->Prop)(Q:Exit->Act->World->Prop):Exit->Act->World->Prop
 | .goto l,a,w=>J l a w
 | e,a,w=>Q e a w
def Iw {P a w Q c}(J)(G:Nat->Act->World->Nat) (first:c.wp P (oQ J Q) a w) (pass:∀l a w,J l a w->∃rest,findLabel c l=Sm rest/\rest.wp P (oQ (λA b k=>J A b k/\G A b k < G l a w) Q) a w):(Code.scope c).wp P Q a w:=by intro d f o;have m:∀n l a w,G l a w=n->J l a w->∃rest,findLabel c l=Sm rest/\∃e b k,Q e b k/\Arrives P (lone (d.at a (.code rest :: .inScope c :: f)) o w) d f o e b k:=(by intro n;induction n using Nat.strongRecOn with|_ n ih=>intro l a w p h;obtain⟨rest,E,j⟩:=pass l a w h;refine⟨rest,E,?_⟩;obtain⟨e,z,V,s,W⟩:=j d (.inScope c :: f) o;cases e with|normal=>exact⟨.normal,z,V,s,Steps.trans W (.one step_inScope)⟩|exit id=>exact⟨.exit id,z,V,s,λS b=>W S (by simp[exitTo,b])⟩|goto A=>obtain⟨i,R⟩:=s;obtain⟨M,k,H,I,g,K,L⟩:=ih _ dN A z V rfl i;exact⟨H,I,g,K,.of_steps (W _ (by simp[gotoIn,k])) L⟩|ret=>exact⟨_,z,V,s,W⟩|panic ch=>exact⟨_,z,V,s,W⟩|outgrown=>exact⟨_,z,V,s,W⟩);obtain⟨e,z,V,s,W⟩:=first d (.inScope c :: f) o;cases e with|normal=>exact⟨.normal,z,V,s,.head step_scope (Steps.trans W (.one step_inScope))⟩|exit id=>exact⟨.exit id,z,V,s,λS b=>.head step_scope (W S (by simp[exitTo,b]))⟩|goto A=>obtain⟨rest,E,H,I,g,K,L⟩:=m _ A z V rfl s;exact⟨H,I,g,K,.of_steps (.head step_scope (W _ (by simp[gotoIn,E]))) L⟩|ret=>exact⟨_,z,V,s,.of_steps (.one step_scope) W⟩|panic ch=>exact⟨_,z,V,s,.of_steps (.one step_scope) W⟩|outgrown=>exact⟨_,z,V,s,.of_steps (.one step_scope) W⟩
