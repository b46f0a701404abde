import Derived.Test.YtfmammdgehbjhaaGreatDoorW21
namespace Go.Proofs.YtfmammdgehbjhaaGreatDoor
open Go
def cL (T:List ByteArray):Bool:=decide (T.length=2)&&(decide (pk T 0=kLabel)&&goodN (pk T 1))
def cB (T:List ByteArray):Bool:=decide (T.length=3)&&(decide (pk T 0=kBelow)&&(goodN (pk T 1)&&goodN (pk T 2)))
def cR (T:List ByteArray):Bool:=decide (T.length=4)&&(decide (pk T 0=kRole)&&(goodN (pk T 1)&&(decide (pk T 2=kAt)&&goodN (pk T 3))))
def cF (T:List ByteArray):Bool:=decide (T.length<5)||(!decide (pk T 0=kField)||(!goodN (pk T 1)||(decide (tyO (pk T 2)=0)||!decide (pk T 3=kAt))))
theorem qf1 {t:ByteArray}(h:goodN t=true):txt t=t:=by
 unfold txt
 rw[q98 h,Yi (by omega)]
theorem len2 {T:List ByteArray}(h:T.length=2):T=[pk T 0,pk T 1]:=by
 match T,h with
 | [_,_],_=>rfl
theorem len3 {T:List ByteArray}(h:T.length=3):T=[pk T 0,pk T 1,pk T 2]:=by
 match T,h with
 | [_,_,_],_=>rfl
theorem len4 {T:List ByteArray}(h:T.length=4):T=[pk T 0,pk T 1,pk T 2,pk T 3]:=by
 match T,h with
 | [_,_,_,_],_=>rfl
theorem len5 {T:List ByteArray}(h:5<=T.length):T=pk T 0 :: pk T 1 :: pk T 2 :: pk T 3 :: pk T 4 :: T.drop 5:=by
 match T,h with
 | _ :: _ :: _ :: _ :: _ :: _,_=>rfl
theorem cL_st {T:List ByteArray}(h:cL T=true):StG T ⟨1,pk T 1,⟨#[]⟩,false,0,[],ru0⟩/\goodN (pk T 1)=true/\1<T.length:=by
 unfold cL at h
 simp only[Yo,Yj]at h
 obtain⟨h1,h2,h3⟩:=h
 refine⟨?_,h3,by omega⟩
 have:=StG.label h3
 rw[len2 h1,h2]
 exact this
theorem cB_st {T:List ByteArray}(h:cB T=true):StG T ⟨2,pk T 1,pk T 2,false,0,[],ru0⟩/\goodN (pk T 1)=true/\goodN (pk T 2)=true/\2<T.length:=by
 unfold cB at h
 simp only[Yo,Yj]at h
 obtain⟨h1,h2,h3,h4⟩:=h
 refine⟨?_,h3,h4,by omega⟩
 have:=StG.below h3 h4
 rw[len3 h1,h2]
 exact this
theorem cR_st {T:List ByteArray}(h:cR T=true):StG T ⟨3,pk T 1,pk T 3,false,0,[],ru0⟩/\goodN (pk T 1)=true/\goodN (pk T 3)=true/\3<T.length:=by
 unfold cR at h
 simp only[Yo,Yj]at h
 obtain⟨h1,h2,h3,h4,h5⟩:=h
 refine⟨?_,h3,h5,by omega⟩
 have:=StG.role h3 h5
 rw[len4 h1,h2,h4]
 exact this
theorem qj2 {T:List ByteArray}{x:Sx}(h:StG T x):cL T=true∨cB T=true∨cR T=true∨(cF T=false/\(pk T 4=kAuto∨goodN (pk T 4)=true)):=by
 have hF:∀(n:ByteArray) (t:Nat) (m:ByteArray) (L:List ByteArray),goodN n=true->1<=t->t<=3->cF (kField :: n :: tyT t :: kAt :: m :: L)=false:=by
  intro n t m L h1 h2 h3;unfold cF;rw[show pk (kField :: n :: tyT t :: kAt :: m :: L) 0=kField from rfl,show pk (kField :: n :: tyT t :: kAt :: m :: L) 1=n from rfl,show pk (kField :: n :: tyT t :: kAt :: m :: L) 2=tyT t from rfl,show pk (kField :: n :: tyT t :: kAt :: m :: L) 3=kAt from rfl,h1,tyO_at h2 h3];simp;omega
 have gL:∀n,goodN n=true->cL [kLabel,n]=true:=fun n h=>by
  unfold cL;rw[show pk [kLabel,n] 1=n from rfl,show pk [kLabel,n] 0=kLabel from rfl,h];simp
 have gB:∀n m,goodN n=true->goodN m=true->cB [kBelow,n,m]=true:=fun n m h h'=>by
  unfold cB;rw[show pk [kBelow,n,m] 1=n from rfl,show pk [kBelow,n,m] 2=m from rfl,show pk [kBelow,n,m] 0=kBelow from rfl,h,h'];simp
 have gR:∀n m,goodN n=true->goodN m=true->cR [kRole,n,kAt,m]=true:=fun n m h h'=>by
  unfold cR;rw[show pk [kRole,n,kAt,m] 1=n from rfl,show pk [kRole,n,kAt,m] 3=m from rfl,show pk [kRole,n,kAt,m] 0=kRole from rfl,show pk [kRole,n,kAt,m] 2=kAt from rfl,h,h'];simp
 cases h with
 | label h1=>exact .inl (gL _ h1)
 | below h1 h2=>exact .inr (.inl (gB _ _ h1 h2))
 | role h1 h2=>exact .inr (.inr (.inl (gR _ _ h1 h2)))
 | auto h1 h2 h3=>exact .inr (.inr (.inr ⟨hF _ _ _ _ h1 h2 h3,.inl rfl⟩))
 | field h1 h2 h3 h4=>exact .inr (.inr (.inr ⟨hF _ _ _ _ h1 h2 h3,.inr h4⟩))
theorem q8j {l l' C R:List ByteArray}(h:byT l++C=byT l'++R)(h1:Hdr C)(hg:∀b,b∈l->goodN b=true)(h2:∀b R',R=kBy :: b :: R'->goodN b=false):l=l'/\C=R:=by
 have k0:rk kBy=0:=by decide
 induction l generalizing l' with
 | nil =>
  cases l' with
  | nil=>exact⟨rfl,h⟩
  | cons b r=>exact absurd k0 (h1 kBy _ h)
 | cons b r ih =>
  cases l' with
  | nil =>
   have:=h2 b (byT r++C) h.symm;rw[hg b (by simp)]at this;cases this
  | cons b' r' =>
   rw[show byT (b :: r)++C=kBy :: b :: (byT r++C) from rfl,show byT (b' :: r')++R=kBy :: b' :: (byT r'++R) from rfl]at h;injection h with _ h
   injection h with e1 h
   obtain⟨rfl,rfl⟩:=ih h (fun x hx=>hg x (by simp[hx]));exact⟨by rw[e1],rfl⟩
theorem qeb {T:List ByteArray}{l R:List ByteArray}(hF:cF T=false)(ha:pk T 4=kAuto∨goodN (pk T 4)=true)(hT:T.drop 5=byT l++R)(hl:∀b,b∈l->goodN b=true)(hR:∀b R',R=kBy :: b :: R'->goodN b=false)(x:Sx) :
 StG T x ↔ ∃u,ClsG R u/\(l=[]∨u.is=[])/\x=⟨4,pk T 1,if pk T 4=kAuto then ⟨#[]⟩ else pk T 4,decide (pk T 4=kAuto),tyO (pk T 2),l,u⟩:=by
 unfold cF at hF
 simp only[Bool.or_eq_false_iff,Zy,Bool.not_eq_false',Yj]at hF
 obtain⟨f1,f2,f3,f4,f5⟩:=hF
 have e5:=len5 (T:=T) (by omega)
 obtain⟨t1,t2,t3⟩:=tyO_t rfl f4
 constructor
 . intro h
   rw[e5,f2,f5]at h;generalize hL:kField :: pk T 1 :: pk T 2 :: kAt :: pk T 4 :: T.drop 5=L at h;cases h with
   | label=>cases hL
   | below=>cases hL
   | role=>cases hL
   | @auto n t bys C u g1 g2 g3 g4 g5 g6 =>
    simp only[Vp]at hL;obtain⟨-,rfl,e1,-,e2,e3⟩:=hL;rw[hT]at e3;obtain⟨rfl,rfl⟩:=q8j e3.symm g5.hdr g4 hR;exact⟨u,g5,g6,by rw[Yn e2,Yh e2,e1,tyO_at g2 g3]⟩
   | @field n t m bys C u g1 g2 g3 g0 g4 g5 g6 =>
    simp only[Vp]at hL;obtain⟨-,rfl,e1,-,rfl,e3⟩:=hL;have hn:¬ pk T 4=kAuto:=fun e=>by rw[e,qbe]at g0;cases g0
    rw[hT]at e3;obtain⟨rfl,rfl⟩:=q8j e3.symm g5.hdr g4 hR;exact⟨u,g5,g6,by rw[Yi hn,Yg hn,e1,tyO_at g2 g3]⟩
 . rintro⟨u,h1,h2,rfl⟩
   by_cases hn:pk T 4=kAuto
   . rw[Yn hn,Yh hn]
     have:=StG.auto f3 t1 t2 hl h1 h2;rw[e5,f2,f5,hn,hT];rw[<- t3]at this;exact this
   . rw[Yi hn,Yg hn]
     have:=StG.field f3 t1 t2 (ha.resolve_left hn) hl h1 h2;rw[<- t3]at this;have e6:T=kField :: pk T 1 :: pk T 2 :: kAt :: pk T 4 :: (byT l++R):=(by rw[<- hT,<- f2,<- f5];exact e5);rw[e6];exact this
end Go.Proofs.YtfmammdgehbjhaaGreatDoor
namespace Go.Proofs.YtfmammdgehbjhaaGreatDoor
open Go Go.RowKit
def PrtS (l:List ByteArray)(x:Sx):Prop:=∃T,l=T++[kSemi]/\StG T x
def Smi (l:List ByteArray):Prop:=∀k,k+1<l.length->pk l k≠kSemi
theorem PrtS.uniq {l:List ByteArray}{x y:Sx}(h:PrtS l x)(h':PrtS l y):x=y:=by
 obtain⟨T,rfl,h1⟩:=h
 obtain⟨T',e,h2⟩:=h'
 obtain rfl:=(List.append_inj_left' e rfl)
 exact h1.uniq h2
theorem pk_ne {l:List ByteArray}{i:Nat}{t:ByteArray}(h:pk l i=t)(ht:t≠⟨#[]⟩):i<l.length:=Yv fun hn=>ht (by rw[<- h,pk_ge hn])
theorem qge {t:ByteArray}(h:goodN t=true):t≠⟨#[]⟩:=fun e=>by subst e;revert h;decide +kernel
theorem qe1 {l:List ByteArray}(h:Smi l){k:Nat}(hk:pk l k=kSemi):l.drop k=[kSemi]/\l.length=k+1:=by
 have h1:=pk_ne hk (by decide)
 have h2:l.length=k+1:=Yv fun hn=>h k (by omega) hk
 refine⟨?_,h2⟩
 rw[qia h1,hk,Yx (by omega)]
theorem qa6 {l:List ByteArray}(hs:Smi l)(h0:pk l 0=kLabel)(h1:goodN (pk l 1)=true)(h2:pk l 2=kSemi):PrtS l ⟨1,pk l 1,⟨#[]⟩,false,0,[],ru0⟩:=by
 obtain⟨e,hl⟩:=qe1 hs h2
 refine⟨[kLabel,pk l 1],?_,.label h1⟩
 have:l=l.drop 0:=rfl
 rw[qia (by omega),h0,qia (show 1<l.length by omega),e]at this
 exact this
theorem qa4 {l:List ByteArray}(hs:Smi l)(h0:pk l 0=kBelow)(h1:goodN (pk l 1)=true)(h2:goodN (pk l 2)=true)(h3:pk l 3=kSemi):PrtS l ⟨2,pk l 1,pk l 2,false,0,[],ru0⟩:=by
 obtain⟨e,hl⟩:=qe1 hs h3
 refine⟨[kBelow,pk l 1,pk l 2],?_,.below h1 h2⟩
 have:l=l.drop 0:=rfl
 rw[qia (by omega),h0,qia (show 1<l.length by omega),qia (show 2<l.length by omega),e]at this
 exact this
theorem qdr {l:List ByteArray}(hs:Smi l)(h0:pk l 0=kRole)(h1:goodN (pk l 1)=true)(h2:pk l 2=kAt)(h3:goodN (pk l 3)=true)(h4:pk l 4=kSemi):PrtS l ⟨3,pk l 1,pk l 3,false,0,[],ru0⟩:=by
 obtain⟨e,hl⟩:=qe1 hs h4
 refine⟨[kRole,pk l 1,kAt,pk l 3],?_,.role h1 h3⟩
 have:l=l.drop 0:=rfl
 rw[qia (by omega),h0,qia (show 1<l.length by omega),qia (show 2<l.length by omega),h2,qia (show 3<l.length by omega),e]at this
 exact this
theorem PrtS.parts {l:List ByteArray}{x:Sx}(h:PrtS l x) :
 (pk l 0=kLabel/\goodN (pk l 1)=true/\pk l 2=kSemi)∨(pk l 0=kBelow/\goodN (pk l 1)=true/\goodN (pk l 2)=true/\pk l 3=kSemi)∨(pk l 0=kRole/\goodN (pk l 1)=true/\pk l 2=kAt/\goodN (pk l 3)=true/\pk l 4=kSemi) ∨
 (pk l 0=kField/\goodN (pk l 1)=true/\tyO (pk l 2)≠0/\pk l 3=kAt/\(pk l 4=kAuto∨goodN (pk l 4)=true)/\∃bys C u,(∀b,b∈bys->goodN b=true)/\ClsG C u/\(bys=[]∨u.is=[])/\l.drop 5=byT bys++(C++[kSemi])):=by
 obtain⟨T,rfl,h⟩:=h
 cases h with
 | label h1=>exact .inl ⟨rfl,h1,rfl⟩
 | below h1 h2=>exact .inr (.inl ⟨rfl,h1,h2,rfl⟩)
 | role h1 h2=>exact .inr (.inr (.inl ⟨rfl,h1,rfl,h2,rfl⟩))
 | @auto n t bys C u h1 h2 h3 h4 h5 h6=>exact .inr (.inr (.inr ⟨rfl,h1,by show tyO (tyT t)≠0;rw[tyO_at h2 h3];omega,rfl,.inl rfl,bys,C,u,h4,h5,h6,by simp⟩))
 | @field n t m bys C u h1 h2 h3 h0 h4 h5 h6=>exact .inr (.inr (.inr ⟨rfl,h1,by show tyO (tyT t)≠0;rw[tyO_at h2 h3];omega,rfl,.inr h0,bys,C,u,h4,h5,h6,by simp⟩))
theorem qit {C:List ByteArray}{u:Ru}(h:ClsG C u):∀s,C++[kSemi]≠kBy :: s:=fun s e=>by
 cases C with
 | nil=>injection e with e _;exact absurd e (by decide)
 | cons t r =>
  injection e with e _
  have:=h.hdr t r rfl;rw[e]at this;exact this (by decide)
theorem q65 {l l' C R:List ByteArray}(h:byT l++C=byT l'++R)(h1:∀s,C≠kBy :: s)(hg:∀b,b∈l->goodN b=true)(h2:∀b R',R=kBy :: b :: R'->goodN b=false):l=l'/\C=R:=by
 induction l generalizing l' with
 | nil =>
  cases l' with
  | nil=>exact⟨rfl,h⟩
  | cons b r=>exact absurd h (h1 _)
 | cons b r ih =>
  cases l' with
  | nil =>
   have:=h2 b (byT r++C) h.symm;rw[hg b (by simp)]at this;cases this
  | cons b' r' =>
   rw[show byT (b :: r)++C=kBy :: b :: (byT r++C) from rfl,show byT (b' :: r')++R=kBy :: b' :: (byT r'++R) from rfl]at h;injection h with _ h
   injection h with e1 h
   obtain⟨rfl,rfl⟩:=ih h (fun x hx=>hg x (by simp[hx]));exact⟨by rw[e1],rfl⟩
theorem PrtS.fld {l:List ByteArray}{x:Sx}(h:PrtS l x)(h0:pk l 0=kField){r:List ByteArray}{i:Nat}(hd:l.drop 5=byT r++l.drop i)(h2:∀b R',l.drop i=kBy :: b :: R'->goodN b=false) :
 ∃u,ClR (l.drop i) u [kSemi]/\(r=[]∨u.is=[])/\∀s,l.drop i≠kBy :: s:=by
 rcases h.parts with ⟨e,-⟩ | ⟨e,-⟩ | ⟨e,-⟩ | ⟨-,-,-,-,-,bys,C,u,g1,g2,g3,g4⟩
 . rw[h0]at e;exact absurd e (by decide)
 . rw[h0]at e;exact absurd e (by decide)
 . rw[h0]at e;exact absurd e (by decide)
 . rw[g4]at hd
   obtain⟨rfl,e⟩:=q65 hd (qit g2) g1 h2;refine⟨u,?_,g3,?_⟩
   . rw[<- e];exact g2.run
   . rw[<- e];exact qit g2
theorem qa5 {l:List ByteArray}(hs:Smi l)(h0:pk l 0=kField)(h1:goodN (pk l 1)=true)(ht:tyO (pk l 2)≠0)(h3:pk l 3=kAt)(h4:pk l 4=kAuto∨goodN (pk l 4)=true){r:List ByteArray}(hr:∀b,b∈r->goodN b=true){i j:Nat}(hd:l.drop 5=byT r++l.drop i){u:Ru}(hc:ClR (l.drop i) u (l.drop j))(hn:r=[]∨u.is=[])(hj:pk l j=kSemi) :
 PrtS l ⟨4,pk l 1,if pk l 4=kAuto then ⟨#[]⟩ else pk l 4,decide (pk l 4=kAuto),tyO (pk l 2),r,u⟩:=by
 obtain⟨t1,t2,t3⟩:=tyO_t rfl ht
 obtain⟨e,hl⟩:=qe1 hs hj
 obtain⟨C,eC,hC⟩:=hc.cls
 have h5:5<=l.length:=by
  rcases h4 with h4 | h4
  . exact pk_ne h4 (by decide)
  . exact pk_ne rfl (qge h4)
 have el:=len5 h5
 rw[h0,h3,hd,eC,e,<- Z8]at el
 refine⟨kField :: pk l 1 :: pk l 2 :: kAt :: pk l 4 :: (byT r++C),?_,?_⟩
 . exact el.trans (by simp)
 . by_cases ha:pk l 4=kAuto
   . rw[Yn ha,Yh ha,ha]
     have:=StG.auto h1 t1 t2 hr hC hn
     rwa [<- t3]at this
   . rw[Yi ha,Yg ha]
     have:=StG.field h1 t1 t2 (h4.resolve_left ha) hr hC hn
     rwa [<- t3]at this
theorem ClR.is {L r:List ByteArray}{u:Ru}(h:ClR L u r):∃L1,RuR kIs L (some (u.is,L1))/\∃L2,RuR kWhen L1 (some (u.wh,L2))/\∃L3,RuR kValid L2 (some (u.va,L3))/\((u.va=[]/\u.sa=⟨#[]⟩/\RuR kMust L3 (some (u.mu,r)))∨(u.va≠[]/\∃x L4,L3=kSays :: x :: L4/\StrT x u.sa/\RuR kMust L4 (some (u.mu,r)))):=by
 cases h with
 | no h1 h2 h3 h4 h5 h6=>exact⟨_,h1,_,h2,_,h3,.inl ⟨h4,h5,h6⟩⟩
 | yes h1 h2 h3 h4 h5 h6=>exact⟨_,h1,_,h2,_,h3,.inr ⟨h4,_,_,rfl,h5,h6⟩⟩
theorem RuR.no {w:ByteArray}{L r:List ByteArray}{e:List Nx}(h:RuR w L none)(h':RuR w L (some (e,r))):False:=by
 have:=h.same h'
 cases this
end Go.Proofs.YtfmammdgehbjhaaGreatDoor
namespace Go.Proofs.YtfmammdgehbjhaaGreatDoor
open Go
def ixN (l:List ByteArray)(x:ByteArray):Nat:=l.findIdx fun y=>decide (y=x)
theorem ixN_lt {l:List ByteArray}{x:ByteArray}(h:x∈l):ixN l x<l.length:=List.findIdx_lt_length_of_exists ⟨x,h,by simp⟩
def addS (m:Fm)(last:Nat)(x:Sx):Sum Nat Fm :=
 if x.kind<last then .inl 4
 else if x.kind=1 then
  (if 32<=m.L.length then .inl 5 else if memB x.name m.L=true then .inl 6 else .inr { m with L:=m.L++[x.name] })
 else if x.kind=2 then
  (if 256<=m.P.length then .inl 5 else if (memB x.name m.L&&memB x.other m.L)=true then .inr { m with P:=m.P++[(((ixN m.L x.name:Nat):Int),((ixN m.L x.other:Nat):Int))] } else .inl 7)
 else if x.kind=3 then
  (if 64<=m.R.length then .inl 5 else if memB x.name (rNames m)=true then .inl 6 else if memB x.other m.L=true then .inr { m with R:=m.R++[⟨x.name,((ixN m.L x.other:Nat):Int)⟩] } else .inl 7)
 else if 200<=m.F.length then .inl 5
 else if (memB x.name (fNames m)||!decide x.bys.Nodup)=true then .inl 6
 else if ((x.auto||memB x.other m.L)&&x.bys.all fun b=>memB b (rNames m))=false then .inl 7
 else if (ruleOk x.u.is&&ruleOk x.u.wh&&ruleOk x.u.va&&ruleOk x.u.mu)=true then
  .inr { m with F:=m.F++[⟨x.name,x.typ,if x.auto=true then -1 else ((ixN m.L x.other:Nat):Int),x.bys.map fun b=>((ixN (rNames m) b:Nat):Int),x.u.is,x.u.wh,x.u.va,x.u.sa,x.u.mu⟩] }
 else .inl 8
def fm0:Fm:=⟨[],[],[],[]⟩
inductive StsA:List (List ByteArray)->List ByteArray->Fm->Nat->Nat->Fm->Int->Int->Prop
 | stop {rest m last i}:rest≠[]->StsA [] rest m last i fm0 3 i
 | astray {m last i k}:k<m.F.length->(∀j (h:j<m.F.length),j<k->fieldKnows (fNames m) m.F[j]=true)->(∀h:k<m.F.length,fieldKnows (fNames m) m.F[k]=false)->StsA [] [] m last i fm0 9 ((i:Int) - m.F.length+k)
 | long {m last i}:(∀j (h:j<m.F.length),fieldKnows (fNames m) m.F[j]=true)->30000<(cT m).length->StsA [] [] m last i fm0 10 0
 | good {m last i}:(∀j (h:j<m.F.length),fieldKnows (fNames m) m.F[j]=true)->¬ 30000<(cT m).length->StsA [] [] m last i m 0 0
 | no {T Ts rest m last i}:(∀x,¬ StG T x)->StsA (T :: Ts) rest m last i fm0 3 i
 | bad {T Ts rest m last i x c}:StG T x->addS m last x=.inl c->StsA (T :: Ts) rest m last i fm0 c i
 | step {T Ts rest m last i x m' r c p}:StG T x->addS m last x=.inr m'->StsA Ts rest m' x.kind (i+1) r c p->StsA (T :: Ts) rest m last i r c p
def splT:List ByteArray->List (List ByteArray) × List ByteArray
 | []=>([],[])
 | t :: r=>if t=kSemi then ([] :: (splT r).1,(splT r).2) else match (splT r).1 with
  | []=>([],t :: (splT r).2)
  | T :: Ts=>((t :: T) :: Ts,(splT r).2)
def FrmA (s:ByteArray)(m:Fm)(code at':Int):Prop:=(30000<s.size/\m=fm0/\code=1/\at'=0)∨(s.size<=30000/\((∃i:Nat,lxF s s.size 0 []=.inl i/\m=fm0/\code=2/\at'=i)∨∃ts,lxF s s.size 0 []=.inr ts/\StsA (splT ts).1 (splT ts).2 fm0 0 0 m code at'))
theorem StsA.uniq {Ts:List (List ByteArray)}{rest:List ByteArray}{m:Fm}{last i:Nat}{r r':Fm}{c c' p p':Int}(h:StsA Ts rest m last i r c p)(h':StsA Ts rest m last i r' c' p'):r=r'/\c=c'/\p=p':=by
 induction h with
 | stop hr=>cases h' with
  | stop=>exact⟨rfl,rfl,rfl⟩
  | astray=>exact absurd rfl hr
  | long=>exact absurd rfl hr
  | good=>exact absurd rfl hr
 | @astray m last i k h1 h2 h3=>cases h' with
  | stop hr=>exact absurd rfl hr
  | @astray _ _ _ k' g1 g2 g3 =>
   have:k=k':=by
    rcases Nat.lt_trichotomy k k' with h | h | h
    . have:=g2 k h1 h;rw[h3 h1]at this;cases this
    . exact h
    . have:=h2 k' g1 h;rw[g3 g1]at this;cases this
   subst this;exact⟨rfl,rfl,rfl⟩
  | long g1=>have:=g1 k h1;rw[h3 h1]at this;cases this
  | good g1=>have:=g1 k h1;rw[h3 h1]at this;cases this
 | long h1 h2=>cases h' with
  | stop hr=>exact absurd rfl hr
  | @astray _ _ _ k' g1 g2 g3=>have:=h1 k' g1;rw[g3 g1]at this;cases this
  | long=>exact⟨rfl,rfl,rfl⟩
  | good _ g2=>exact absurd h2 g2
 | good h1 h2=>cases h' with
  | stop hr=>exact absurd rfl hr
  | @astray _ _ _ k' g1 g2 g3=>have:=h1 k' g1;rw[g3 g1]at this;cases this
  | long _ g2=>exact absurd g2 h2
  | good=>exact⟨rfl,rfl,rfl⟩
 | no h1=>cases h' with
  | no=>exact⟨rfl,rfl,rfl⟩
  | bad g1=>exact absurd g1 (h1 _)
  | step g1=>exact absurd g1 (h1 _)
 | bad h1 h2=>cases h' with
  | no g1=>exact absurd h1 (g1 _)
  | bad g1 g2 =>
   obtain rfl:=h1.uniq g1;rw[h2]at g2;cases g2;exact⟨rfl,rfl,rfl⟩
  | step g1 g2 =>
   obtain rfl:=h1.uniq g1;rw[h2]at g2;cases g2
 | step h1 h2 _ ih=>cases h' with
  | no g1=>exact absurd h1 (g1 _)
  | bad g1 g2 =>
   obtain rfl:=h1.uniq g1;rw[h2]at g2;cases g2
  | step g1 g2 g3 =>
   obtain rfl:=h1.uniq g1;rw[h2]at g2;cases g2;exact ih g3
theorem FrmA.uniq {s:ByteArray}{m m':Fm}{c c' p p':Int}(h:FrmA s m c p)(h':FrmA s m' c' p'):m=m'/\c=c'/\p=p':=by
 rcases h with ⟨h1,rfl,rfl,rfl⟩ | ⟨h1,h2⟩
 . rcases h' with ⟨-,rfl,rfl,rfl⟩ | ⟨h2,-⟩
   . exact⟨rfl,rfl,rfl⟩
   . omega
 . rcases h' with ⟨h3,-⟩ | ⟨-,h4⟩
   . omega
   . rcases h2 with ⟨i,a1,rfl,rfl,rfl⟩ | ⟨ts,a1,a2⟩
     . rcases h4 with ⟨j,b1,rfl,rfl,rfl⟩ | ⟨ts',b1,b2⟩
       . rw[a1]at b1;cases b1;exact⟨rfl,rfl,rfl⟩
       . rw[a1]at b1;cases b1
     . rcases h4 with ⟨j,b1,rfl,rfl,rfl⟩ | ⟨ts',b1,b2⟩
       . rw[a1]at b1;cases b1
       . rw[a1]at b1
         cases b1;exact a2.uniq b2
theorem pigeon:∀(n:Nat) (l:List Int),l.Nodup->(∀x,x∈l->0<=x/\x<n)->l.length<=n:=by
 intro n
 induction n with
 | zero =>
  intro l _ h;cases l with
  | nil=>exact nR _
  | cons x r=>have:=h x Zd;omega
 | succ n ih =>
  intro l hn h;by_cases hm:(n:Int)∈l
  . have h1:=ih (l.erase (n:Int)) (hn.erase _) (fun x hx=>by
     have h2:=(hn.mem_erase_iff).1 hx;have h3:=h x h2.2;have h4:=h2.1;omega)
    rw[List.length_erase_of_mem hm]at h1;omega
  . have h1:=ih l hn (fun x hx=>by
     have h3:=h x hx;have h4:x≠n:=fun e=>hm (e ▸ hx);omega)
    omega
theorem q8k {n:Nat}{l:List Int}(h:bysOk n l=true):l.length<=n:=by
 unfold bysOk at h
 rw[Yo,Zh,Yj]at h
 refine pigeon n l h.2 fun x hx=>?_
 have:=h.1 x hx
 unfold inR at this
 exact Ze this
structure VfA (m:Fm):Prop where
 nl:m.L.length<=32
 np:m.P.length<=256
 nr:m.R.length<=64
 nf:m.F.length<=200
 l:namesOk m.L=true
 r:namesOk (rNames m)=true
 f:namesOk (fNames m)=true
 p:∀x,x∈m.P->inR m.L.length x.1=true/\inR m.L.length x.2=true
 ro:∀x,x∈m.R->inR m.L.length x.lb=true
 fi:∀x,x∈m.F->fieldOk m.L.length m.R.length x=true
 kn:∀x,x∈m.F->fieldKnows (fNames m) x=true
theorem qjo (m:Fm):vfA m=true ↔ VfA m:=by
 unfold vfA
 simp only[Yo,Yj,Zh]
 constructor
 . rintro⟨⟨⟨⟨⟨⟨⟨h1,h2,h3,h4⟩,h5⟩,h6⟩,h7⟩,h8⟩,h9⟩,h10⟩
   exact⟨h1,h2,h3,h4,h5,h6,h7,h8,h9,fun x hx=>(h10 x hx).1,fun x hx=>(h10 x hx).2⟩
 . rintro⟨h1,h2,h3,h4,h5,h6,h7,h8,h9,h10,h11⟩
   exact⟨⟨⟨⟨⟨⟨⟨h1,h2,h3,h4⟩,h5⟩,h6⟩,h7⟩,h8⟩,h9⟩,fun x hx=>⟨h10 x hx,h11 x hx⟩⟩
structure FOk (nl nr:Nat)(f:Fl):Prop where
 t1:1<=f.ty
 t2:f.ty<=3
 l1:-1<=f.lb
 l2:f.lb<nl
 b:bysOk nr f.bys=true
 ib:f.is.length=0∨f.bys.length=0
 sy:okText f.sy=true
 vs:f.va.length≠0∨f.sy.size=0
 i:ruleOk f.is=true
 h:ruleOk f.wh=true
 v:ruleOk f.va=true
 u:ruleOk f.mu=true
theorem q4m (nl nr:Nat)(f:Fl):fieldOk nl nr f=true ↔ FOk nl nr f:=by
 unfold fieldOk
 simp only[Yo,Yj]
 constructor
 . rintro⟨⟨⟨⟨⟨⟨⟨⟨⟨⟨h1,h2⟩,h3,h4⟩,h5⟩,h6⟩,h7⟩,h8⟩,h9⟩,h10⟩,h11⟩,h12⟩
   exact⟨h1,h2,h3,h4,h5,h6,h7,h8,h9,h10,h11,h12⟩
 . rintro⟨h1,h2,h3,h4,h5,h6,h7,h8,h9,h10,h11,h12⟩
   exact⟨⟨⟨⟨⟨⟨⟨⟨⟨⟨h1,h2⟩,h3,h4⟩,h5⟩,h6⟩,h7⟩,h8⟩,h9⟩,h10⟩,h11⟩,h12⟩
theorem q3k {l:List ByteArray}(h:namesOk l=true){x:ByteArray}(hx:x∈l):x.size<=16:=by
 simp only[namesOk,Yo,Zh]at h
 exact q6n (h.1 x hx)
theorem q7w {rs:List Rl}{i:Int}(h:namesOk (rs.map (·.nm))=true):(rolAt rs i).nm.size<=16:=by
 unfold rolAt
 rw[Y0]
 cases hh:rs[i.toNat]? with
 | none=>exact nZ _
 | some x=>exact q3k h (Z4.2 ⟨x,List.mem_of_getElem? hh,rfl⟩)
theorem qej {x:ByteArray}(h:x.size<=16):(tLab x).length<=24:=by
 unfold tLab
 simp only[Yf,Yl,Yw,sb_len]
 omega
theorem qeh {ls:List ByteArray}(h:namesOk ls=true)(p:Int × Int):(tBel ls p).length<=41:=by
 have h1:=q77 (i:=p.1) h
 have h2:=q77 (i:=p.2) h
 unfold tBel
 simp only[Yf,Yl,Yw,sb_len]
 omega
theorem qek {ls:List ByteArray}(h:namesOk ls=true){r:Rl}(hr:r.nm.size<=16):(tRol ls r).length<=43:=by
 have h1:=q77 (i:=r.lb) h
 unfold tRol
 simp only[Yf,Yl,Yw,sb_len]
 omega
theorem qat {m:Fm}(hm:VfA m){f:Fl}(hn:f.nm.size<=16):(tFldA m f).length<=50:=by
 have h1:=q77 (i:=f.lb) hm.l
 have h2:(tyName f.ty).length<=4:=by unfold tyName;split <;> (try split) <;> simp
 have h3:(if f.lb<0 then ([97,117,116,111]:List UInt8) else sb (labAt m.L f.lb)).length<=16:=by
  split
  . simp
  . rw[sb_len];exact h1
 unfold tFldA
 simp only[Yf,Yl,Yw,sb_len]
 omega
theorem qjb {m:Fm}(hm:VfA m)(i:Int):(tBy m.R i).length<=20:=by
 have h1:=q7w (i:=i) hm.r
 unfold tBy
 simp only[Yf,Yl,Yw,sb_len]
 omega
theorem q5f {s:ByteArray}(h:okText s=true):s.size<=1000:=by
 simp only[okText,Yo,Yj]at h
 omega
theorem qav {f:Fl}(h:okText f.sy=true):(tSays f).length<=1008:=by
 have h1:=q5f h
 unfold tSays
 split
 . simp
 . simp only[Yf,Yl,Yw,sb_len]
   omega
theorem qau {m:Fm}(hm:VfA m){f:Fl}(hf:FOk m.L.length m.R.length f)(j:Nat):((f.bys.take j).flatMap (tBy m.R)).length<=1280:=by
 have h1:=q4n (f.bys.take j) (tBy m.R) 20 fun x _=>qjb hm x
 have h2:=q8k hf.b
 have h3:=hm.nr
 have h4:(f.bys.take j).length<=64:=by rw[Yu];omega
 omega
theorem qei {m:Fm}(hm:VfA m){f:Fl}(hn:f.nm.size<=16)(hf:FOk m.L.length m.R.length f):(tFld m f).length<=18500:=by
 have h1:=qat hm hn
 have h2:=qau hm hf f.bys.length
 rw[Zl]at h2
 have h3:=q5k (word:=wIs) hf.i (by decide)
 have h4:=q5k (word:=wWhen) hf.h (by decide)
 have h5:=q5k (word:=wValid) hf.v (by decide)
 have h6:=q5k (word:=wMust) hf.u (by decide)
 have h7:=qav hf.sy
 unfold tFld
 simp only[Yf,Yl,Yw]
 omega
def c1 (m:Fm)(k:Nat):List UInt8:=(m.L.take k).flatMap tLab
def c2 (m:Fm)(k:Nat):List UInt8:=m.L.flatMap tLab++(m.P.take k).flatMap (tBel m.L)
def c3 (m:Fm)(k:Nat):List UInt8:=m.L.flatMap tLab++m.P.flatMap (tBel m.L)++(m.R.take k).flatMap (tRol m.L)
def c4 (m:Fm)(k:Nat):List UInt8:=m.L.flatMap tLab++m.P.flatMap (tBel m.L)++m.R.flatMap (tRol m.L)++(m.F.take k).flatMap (tFld m)
theorem qfq (m:Fm):c1 m 0=[]:=by simp[c1]
theorem qfs (m:Fm):c2 m 0=c1 m m.L.length:=by simp[c1,c2]
theorem qfu (m:Fm):c3 m 0=c2 m m.P.length:=by simp[c2,c3]
theorem qfw (m:Fm):c4 m 0=c3 m m.R.length:=by simp[c3,c4]
theorem c4_all (m:Fm):c4 m m.F.length=cT m:=by simp[c4,cT]
theorem q97 {α:Type}(l:List α)(g:α->List UInt8)(k:Nat)(h:k<l.length):(l.take (k+1)).flatMap g=(l.take k).flatMap g++g l[k]:=by
 rw[Yq h,Vg]
 simp
theorem qfp (m:Fm)(k:Nat)(h:k<m.L.length):c1 m (k+1)=c1 m k++tLab m.L[k]:=q97 _ _ k h
theorem qfr (m:Fm)(k:Nat)(h:k<m.P.length):c2 m (k+1)=c2 m k++tBel m.L m.P[k]:=by unfold c2;rw[q97 _ _ k h,Z8]
theorem qft (m:Fm)(k:Nat)(h:k<m.R.length):c3 m (k+1)=c3 m k++tRol m.L m.R[k]:=by unfold c3;rw[q97 _ _ k h];simp
theorem qfv (m:Fm)(k:Nat)(h:k<m.F.length):c4 m (k+1)=c4 m k++tFld m m.F[k]:=by unfold c4;rw[q97 _ _ k h];simp
theorem c1_len {m:Fm}(hm:VfA m)(k:Nat):(c1 m k).length<=768:=by
 have h1:=q4n (m.L.take k) tLab 24 fun x hx=>qej (q3k hm.l (Zw hx))
 have h2:=hm.nl
 have h3:(m.L.take k).length<=32:=by rw[Yu];omega
 unfold c1
 omega
theorem c2_len {m:Fm}(hm:VfA m)(k:Nat):(c2 m k).length<=11264:=by
 have h1:=q4n (m.P.take k) (tBel m.L) 41 fun x _=>qeh hm.l x
 have h2:=hm.np
 have h3:(m.P.take k).length<=256:=by rw[Yu];omega
 have h4:=c1_len hm m.L.length
 unfold c1 at h4
 rw[Zl]at h4
 unfold c2
 rw[Yf]
 omega
theorem c3_len {m:Fm}(hm:VfA m)(k:Nat):(c3 m k).length<=14016:=by
 have h1:=q4n (m.R.take k) (tRol m.L) 43 fun x hx=>qek hm.l (q3k hm.r (Z4.2 ⟨x,Zw hx,rfl⟩))
 have h2:=hm.nr
 have h3:(m.R.take k).length<=64:=by rw[Yu];omega
 have h4:=c2_len hm m.P.length
 unfold c2 at h4
 rw[Zl]at h4
 unfold c3
 rw[Yf]
 omega
theorem c4_len {m:Fm}(hm:VfA m)(k:Nat):(c4 m k).length<=3714016:=by
 have h1:=q4n (m.F.take k) (tFld m) 18500 fun x hx=>qei hm (q3k hm.f (Z4.2 ⟨x,Zw hx,rfl⟩)) ((q4m _ _ _).1 (hm.fi x (Zw hx)))
 have h2:=hm.nf
 have h3:(m.F.take k).length<=200:=by rw[Yu];omega
 have h4:=c3_len hm m.R.length
 unfold c3 at h4
 rw[Zl]at h4
 unfold c4
 rw[Yf]
 omega
structure VfB (m:Fm):Prop where
 nl:m.L.length<=32
 np:m.P.length<=256
 nr:m.R.length<=64
 nf:m.F.length<=200
 l:namesOk m.L=true
 r:namesOk (rNames m)=true
 f:namesOk (fNames m)=true
 p:∀x,x∈m.P->inR m.L.length x.1=true/\inR m.L.length x.2=true
 ro:∀x,x∈m.R->inR m.L.length x.lb=true
 fi:∀x,x∈m.F->FOk m.L.length m.R.length x
theorem VfB.vfA {m:Fm}(h:VfB m)(hk:∀j (h:j<m.F.length),fieldKnows (fNames m) m.F[j]=true):VfA m :=
 ⟨h.nl,h.np,h.nr,h.nf,h.l,h.r,h.f,h.p,h.ro,fun x hx=>(q4m _ _ _).2 (h.fi x hx),fun x hx=>by
  obtain⟨j,hj,rfl⟩:=Zo.1 hx;exact hk j hj⟩
theorem qjp:VfB fm0:=⟨by decide,by decide,by decide,by decide,rfl,rfl,rfl,fun x hx=>(by cases hx),fun x hx=>(by cases hx),fun x hx=>(by cases hx)⟩
theorem qck {n n':Nat}{x:Int}(h:inR n x=true)(hn:n<=n'):inR n' x=true:=by
 unfold inR at *
 rw[Yj]at *
 omega
theorem q66 {n n':Nat}{l:List Int}(h:bysOk n l=true)(hn:n<=n'):bysOk n' l=true:=by
 unfold bysOk at *
 rw[Yo,Zh]at *
 exact⟨fun x hx=>qck (h.1 x hx) hn,h.2⟩
theorem FOk.mono {nl nl' nr nr':Nat}{f:Fl}(h:FOk nl nr f)(h1:nl<=nl')(h2:nr<=nr'):FOk nl' nr' f:=⟨h.t1,h.t2,h.l1,by have:=h.l2;omega,q66 h.b h2,h.ib,h.sy,h.vs,h.i,h.h,h.v,h.u⟩
theorem q3l {l:List ByteArray}{x:ByteArray}(h:namesOk l=true)(hg:goodN x=true)(hn:memB x l≠true):namesOk (l++[x])=true:=by
 unfold namesOk at *
 rw[Yo,Zh,Yj]at *
 refine⟨fun y hy=>?_,?_⟩
 . rcases Zg.1 hy with h' | h'
   . exact h.1 y h'
   . rw[Y7.1 h'];exact hg
 . rw[List.nodup_append]
   refine⟨h.2,by simp,fun y hy z hz e=>?_⟩;rw[Y7.1 hz]at e;subst e;exact hn ((qct _ _).2 hy)
theorem inR_ix {l:List ByteArray}{x:ByteArray}(h:memB x l=true):inR l.length ((ixN l x:Nat):Int)=true:=by
 have:=ixN_lt ((qct _ _).1 h)
 unfold inR
 rw[Yj]
 omega
theorem qgv {l:List ByteArray}{x:ByteArray}(h:x∈l):l[ixN l x]'(ixN_lt h)=x:=by
 have:=List.findIdx_getElem (p:=fun y=>decide (y=x)) (xs:=l) (w:=ixN_lt h)
 rwa [Yj]at this
theorem qgw {l:List ByteArray}{x y:ByteArray}(hx:x∈l)(hy:y∈l)(h:ixN l x=ixN l y):x=y:=by
 have h1:=qgv hx
 have h2:=qgv hy
 rw[<- h1,<- h2]
 congr 1
theorem bys_ix {l bys:List ByteArray}(hn:bys.Nodup)(hm:∀b,b∈bys->memB b l=true):bysOk l.length (bys.map fun b=>((ixN l b:Nat):Int))=true:=by
 unfold bysOk
 rw[Yo,Zh,Yj]
 refine⟨fun x hx=>?_,?_⟩
 . obtain⟨b,hb,rfl⟩:=Z4.1 hx
   exact inR_ix (hm b hb)
 . rw[List.nodup_iff_pairwise_ne,List.pairwise_map]
   exact(List.nodup_iff_pairwise_ne.1 hn).imp_of_mem fun {a b} ha hb hne e=>hne (qgw ((qct _ _).1 (hm a ha)) ((qct _ _).1 (hm b hb)) (by omega))
theorem StrT.ok {x s:ByteArray}(h:StrT x s):okText s=true:=by
 obtain⟨h1,h2,h3⟩:=h
 subst h3
 unfold rv at h1 h2⊢
 split at h2
 . cases h2
 . split at h2
   . cases h2
   . split at h2
     . cases h2
     . split at h2
       . cases h2
       . split at h2
         . rename_i n1 n2 n3 _ hq hc
           rw[Yi n1,Yi n2,Yi n3,Yn hc];exact hc.2.1
         . cases h2
theorem ClsG.says {T:List ByteArray}{u:Ru}(h:ClsG T u):okText u.sa=true/\(u.va.length≠0∨u.sa.size=0):=by
 obtain⟨T1,T2,T3,T4,-,-,-,h3,-⟩:=h
 rcases h3 with ⟨-,-,e⟩ | ⟨E,x,-,hE,hx⟩
 . rw[e]
   exact⟨by decide,.inr rfl⟩
 . refine⟨hx.ok,.inl fun e=>hE.1.some_node (List.eq_nil_of_length_eq_zero e)⟩
theorem q4l (m:Fm)(f:Fl):fNames { m with F:=m.F++[f] } = fNames m++[f.nm]:=by simp[fNames]
theorem q5j (m:Fm)(f:Rl):rNames { m with R:=m.R++[f] } = rNames m++[f.nm]:=by simp[rNames]
theorem qf8 {m m':Fm}{last:Nat}{x:Sx}{T:List ByteArray}(hx:StG T x)(h:VfB m)(ha:addS m last x=.inr m'):VfB m':=by
 unfold addS at ha
 split at ha
 . cases ha
 rename_i hk
 split at ha
 . rename_i hk1
   split at ha
   . cases ha
   split at ha
   . cases ha
   rename_i h1 h2
   injection ha with ha
   subst ha;have hg:goodN x.name=true:=by
    cases hx with
    | label g=>exact g
    | below=>simp at hk1
    | role=>simp at hk1
    | auto=>simp at hk1
    | field=>simp at hk1
   have hlen:(m.L++[x.name]).length=m.L.length+1:=by simp
   exact⟨by simp only[hlen];omega,h.np,h.nr,h.nf,q3l h.l hg h2,h.r,h.f,fun y hy=>⟨qck (h.p y hy).1 (by simp only[hlen];omega),qck (h.p y hy).2 (by simp only[hlen];omega)⟩,fun y hy=>qck (h.ro y hy) (by simp only[hlen];omega),fun y hy=>(h.fi y hy).mono (by simp only[hlen];omega) (nR _)⟩
 split at ha
 . split at ha
   . cases ha
   rename_i h1
   split at ha
   . rename_i h2
     injection ha with ha
     subst ha;rw[Yo]at h2;refine⟨h.nl,by simp;omega,h.nr,h.nf,h.l,h.r,h.f,fun y hy=>?_,h.ro,h.fi⟩;rcases Zg.1 hy with h' | h'
     . exact h.p y h'
     . rw[Y7.1 h']
       exact⟨inR_ix h2.1,inR_ix h2.2⟩
   . cases ha
 split at ha
 . rename_i hk1 hk2 hk3
   split at ha
   . cases ha
   split at ha
   . cases ha
   split at ha
   . rename_i h1 h2 h3
     injection ha with ha
     subst ha;have hg:goodN x.name=true:=by
      cases hx with
      | label=>simp at hk3
      | below=>simp at hk3
      | role g=>exact g
      | auto=>simp at hk3
      | field=>simp at hk3
     refine⟨h.nl,h.np,by simp;omega,h.nf,h.l,by rw[q5j];exact q3l h.r hg h2,h.f,h.p,fun y hy=>?_,fun y hy=>(h.fi y hy).mono (nR _) (by simp)⟩;rcases Zg.1 hy with h' | h'
     . exact h.ro y h'
     . rw[Y7.1 h']
       exact inR_ix h3
   . cases ha
 rename_i hk1 hk2 hk3
 split at ha
 . cases ha
 split at ha
 . cases ha
 split at ha
 . cases ha
 split at ha
 . rename_i h1 h2 h3 h4
   injection ha with ha
   subst ha;rw[Oa,not_or]at h2;rw[Bool.not_eq_false,Yo,Zh]at h3;simp only[Yo]at h4;have hf:∃bys C,goodN x.name=true/\1<=x.typ/\x.typ<=3/\x.bys=bys/\ClsG C x.u/\(bys=[]∨x.u.is=[]):=by
    cases hx with
    | label=>simp at hk1
    | below=>simp at hk2
    | role=>simp at hk3
    | auto g1 g2 g3 g4 g5 g6=>exact⟨_,_,g1,g2,g3,rfl,g5,g6⟩
    | field g1 g2 g3 g0 g4 g5 g6=>exact⟨_,_,g1,g2,g3,rfl,g5,g6⟩
   obtain⟨bys,C,g1,g2,g3,rfl,g5,g6⟩:=hf;refine⟨h.nl,h.np,h.nr,by simp;omega,h.l,h.r,by rw[q4l];exact q3l h.f g1 h2.1,h.p,h.ro,fun y hy=>?_⟩;rcases Zg.1 hy with h' | h'
   . exact h.fi y h'
   . rw[Y7.1 h']
     have hnd:x.bys.Nodup:=by
      have:=h2.2;simp only[Bool.not_eq_true',Zy,Decidable.not_not]at this;exact this
     refine⟨by simp only;omega,by simp only;omega,?_,?_,?_,?_,g5.says.1,g5.says.2,h4.1.1.1,h4.1.1.2,h4.1.2,h4.2⟩
     . simp only
       split
       . omega
       . omega
     . simp only
       split
       . omega
       . rename_i ha
         have:=h3.1;rw[Oa]at this;have:=ixN_lt ((qct _ _).1 (this.resolve_left ha));omega
     . have:=bys_ix (l:=rNames m) hnd h3.2
       rwa [show(rNames m).length=m.R.length by simp[rNames]]at this
     . rcases g6 with e | e
       . right;simp[e]
       . left;simp[e]
 . cases ha
end Go.Proofs.YtfmammdgehbjhaaGreatDoor
