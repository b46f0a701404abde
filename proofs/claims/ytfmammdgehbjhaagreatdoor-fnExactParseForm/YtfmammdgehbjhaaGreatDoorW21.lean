import Derived.Test.YtfmammdgehbjhaaGreatDoorW19
import Derived.Scope
import Derived.WalkMore
set_option maxRecDepth 100000
set_option maxHeartbeats 64000000
namespace Go.Proofs.YtfmammdgehbjhaaGreatDoor
open Go
def Tk {T N:Type}(X:Lx T N)(t:T):Prop:=X.L t=true∨X.R t=true∨X.C t=true∨X.b t≠0∨X.u t≠0∨∃n,X.k t=some n
theorem Gr.tok {T N:Type}{X:Lx T N}(ok:X.Ok){l n:Nat}{ts:List T}{e:List N}(h:Gr X l n ts e):∀t,t∈ts->Tk X t:=by
 induction h with
 | up _ _ _ ih=>exact ih
 | bin _ _ _ _ hb _ _ ih1 ih2 =>
  intro t ht;rcases Zg.1 ht with h | h
  . exact ih1 t h
  . rcases Y9.1 h with rfl | h
    . exact .inr (.inr (.inr (.inl hb)))
    . exact ih2 t h
 | cmp _ hb _ _ ih1 ih2 =>
  intro t ht;rcases Zg.1 ht with h | h
  . exact ih1 t h
  . rcases Y9.1 h with rfl | h
    . exact .inr (.inr (.inr (.inl hb)))
    . exact ih2 t h
 | pre hu _ ih =>
  intro t ht;rcases Y9.1 ht with rfl | h
  . exact .inr (.inr (.inr (.inr (.inl hu))))
  . exact ih t h
 | one hk =>
  intro t ht;obtain rfl:=Y7.1 ht;exact .inr (.inr (.inr (.inr (.inr ⟨_,hk⟩))))
 | par hl hr _ ih =>
  intro t ht;rcases Y9.1 ht with rfl | h
  . exact .inl hl
  . rcases Zg.1 h with h | h
    . exact ih t h
    . obtain rfl:=Y7.1 h;exact .inr (.inl hr)
 | call hf hl hr _ ih =>
  intro t ht;rcases Y9.1 ht with rfl | h
  . exact .inr (.inr (.inr (.inr (.inr (ok.nf hf)))))
  . rcases Y9.1 h with rfl | h
    . exact .inl hl
    . rcases Zg.1 h with h | h
      . exact ih t h
      . obtain rfl:=Y7.1 h;exact .inr (.inl hr)
 | arg _ ih=>exact ih
 | args _ hc _ ih1 ih2 =>
  intro t ht;rcases Zg.1 ht with h | h
  . exact ih1 t h
  . rcases Y9.1 h with rfl | h
    . exact .inr (.inr (.inl hc))
    . exact ih2 t h
theorem Gr.some_node {T N:Type}{X:Lx T N}{l n:Nat}{ts:List T}{e:List N}(h:Gr X l n ts e):e≠[]:=by
 induction h with
 | up _ _ _ ih=>exact ih
 | bin=>simp
 | cmp=>simp
 | pre=>simp
 | one=>simp
 | par _ _ _ ih=>exact ih
 | call=>simp
 | arg _ ih=>exact ih
 | args _ _ _ ih1 _=>exact fun h=>ih1 (List.append_eq_nil_iff.1 h).1
def kIs:ByteArray:=⟨#[105,115]⟩
def kWhen:ByteArray:=⟨#[119,104,101,110]⟩
def kValid:ByteArray:=⟨#[118,97,108,105,100]⟩
def kSays:ByteArray:=⟨#[115,97,121,115]⟩
def kMust:ByteArray:=⟨#[109,117,115,116]⟩
def kSemi:ByteArray:=⟨#[59]⟩
def kBy:ByteArray:=⟨#[98,121]⟩
def kAt:ByteArray:=⟨#[97,116]⟩
def kAuto:ByteArray:=⟨#[97,117,116,111]⟩
def rk (t:ByteArray):Nat:=if t=kIs then 1 else if t=kWhen then 2 else if t=kValid then 3 else if t=kSays then 4 else if t=kMust then 5 else 0
theorem rk_ne {t:ByteArray}(h:rk t≠0):t=kIs∨t=kWhen∨t=kValid∨t=kSays∨t=kMust:=by
 unfold rk at h
 split at h
 . exact .inl ‹_›
 . split at h
   . exact .inr (.inl ‹_›)
   . split at h
     . exact .inr (.inr (.inl ‹_›))
     . split at h
       . exact .inr (.inr (.inr (.inl ‹_›)))
       . split at h
         . exact .inr (.inr (.inr (.inr ‹_›)))
         . exact absurd rfl h
def Stw (t:ByteArray):Prop:=rk t≠0∨t=kSemi
theorem stw_no {t:ByteArray}(h:Stw t):tkX.L t=false/\tkX.R t=false/\tkX.C t=false/\tkX.b t=0/\tkX.u t=0/\tkX.k t=none:=by
 have hk:∀s∈([kIs,kWhen,kValid,kSays,kMust,kSemi]:List ByteArray),tkX.L s=false/\tkX.R s=false/\tkX.C s=false/\tkX.b s=0/\tkX.u s=0/\tkX.k s=none:=by
  intro s hs;simp only[Y9,Z1,or_false]at hs;rcases hs with h | h | h | h | h | h
  all_goals
   subst h;refine⟨by decide,by decide,by decide,by decide,by decide,?_⟩;rw[show tkX.k=tkK from rfl];refine qep (by first | decide | decide +kernel) (rv_no (by decide) (by decide) (by decide) fun c r h=>?_);injection h with h1 h2
   subst h1 h2
   decide
 refine hk t ?_
 rcases h with h | h
 . rcases rk_ne h with rfl | rfl | rfl | rfl | rfl <;> simp
 . subst h;simp
theorem ExG.plain {E:List ByteArray}{e:List Nx}(h:ExG E e){t:ByteArray}(ht:t∈E):¬ Stw t:=fun hs=>by
 obtain⟨h1,h2,h3,h4,h5,h6⟩:=stw_no hs
 rcases h.1.tok tkX_ok t ht with q | q | q | q | q | ⟨n,q⟩
 . rw[h1]at q;cases q
 . rw[h2]at q;cases q
 . rw[h3]at q;cases q
 . exact q h4
 . exact q h5
 . rw[h6]at q;cases q
theorem ExG.rk0 {E:List ByteArray}{e:List Nx}(h:ExG E e){t:ByteArray}(ht:t∈E):rk t=0:=Yv fun hn=>h.plain ht (.inl hn)
def Hdw (r:List ByteArray):Prop:=∀t s,r=t :: s->Stw t
theorem ExG.read {E r:List ByteArray}{e:List Nx}(h:ExG E e)(hr:Hdw r):Evx tkX 64 (.op 1) 0 (E++r) (some (e,r)) :=
 (h.1.comp tkX_ok 64).op (by omega) h.2 fun t s es=>by
  obtain⟨h1,h2,h3,h4,h5,h6⟩:=stw_no (hr t s es);exact⟨h1,fun hb=>absurd h4 hb⟩
theorem qc4 {ts r:List ByteArray}{e:List Nx}(h:Evx tkX 64 (.op 1) 0 ts (some (e,r))):∃E,ts=E++r/\ExG E e:=by
 obtain⟨F,hF⟩:=h
 obtain⟨E,h1,h2,h3⟩:=qdp tkX_ok 64 F (.op 1) 0 ts e r (hF F (nR _)) (by omega) (by omega)
 exact⟨E,h1,h2,h3⟩
def RulG (w:ByteArray)(T:List ByteArray)(e:List Nx):Prop:=(T=[]/\e=[])∨∃E,T=w :: E/\ExG E e
def StrT (x s:ByteArray):Prop:=(rv x).2.2.2=true/\(rv x).1=3/\s=(rv x).2.2.1
def ValG (T:List ByteArray)(e:List Nx)(s:ByteArray):Prop:=(T=[]/\e=[]/\s=⟨#[]⟩)∨∃E x,T=kValid :: (E++[kSays,x])/\ExG E e/\StrT x s
structure Ru where
 is:List Nx
 wh:List Nx
 va:List Nx
 sa:ByteArray
 mu:List Nx
def ClsG (T:List ByteArray)(u:Ru):Prop:=∃T1 T2 T3 T4,T=T1++(T2++(T3++T4))/\RulG kIs T1 u.is/\RulG kWhen T2 u.wh/\ValG T3 u.va u.sa/\RulG kMust T4 u.mu
def RuR (w:ByteArray)(L:List ByteArray)(x:Option (List Nx × List ByteArray)):Prop:=((∀L',L≠w :: L')/\x=some ([],L))∨∃L',L=w :: L'/\Evx tkX 64 (.op 1) 0 L' x
theorem RuR.same {w:ByteArray}{L:List ByteArray}{x y:Option (List Nx × List ByteArray)}(h:RuR w L x)(h':RuR w L y):x=y:=by
 rcases h with ⟨h1,rfl⟩ | ⟨L',rfl,h1⟩
 . rcases h' with ⟨-,rfl⟩ | ⟨L',e,-⟩
   . rfl
   . exact absurd e (h1 L')
 . rcases h' with ⟨h2,-⟩ | ⟨L2,e,h2⟩
   . exact absurd rfl (h2 L')
   . cases e;exact h1.same h2
theorem RulG.run {w:ByteArray}{T r:List ByteArray}{e:List Nx}(h:RulG w T e)(hr:Hdw r)(hn:∀r',r≠w :: r'):RuR w (T++r) (some (e,r)):=by
 rcases h with ⟨rfl,rfl⟩ | ⟨E,rfl,hE⟩
 . exact .inl ⟨hn,rfl⟩
 . exact .inr ⟨E++r,rfl,hE.read hr⟩
theorem RuR.rul {w:ByteArray}{L r:List ByteArray}{e:List Nx}(h:RuR w L (some (e,r))):∃T,L=T++r/\RulG w T e:=by
 rcases h with ⟨h1,h2⟩ | ⟨L',rfl,h1⟩
 . cases h2;exact⟨[],rfl,.inl ⟨rfl,rfl⟩⟩
 . obtain⟨E,rfl,hE⟩:=qc4 h1
   exact⟨w :: E,rfl,.inr ⟨E,rfl,hE⟩⟩
inductive ClR (L:List ByteArray)(u:Ru)(r:List ByteArray):Prop
 | no {L1 L2 L3}:RuR kIs L (some (u.is,L1))->RuR kWhen L1 (some (u.wh,L2))->RuR kValid L2 (some (u.va,L3))->u.va=[]->u.sa=⟨#[]⟩->RuR kMust L3 (some (u.mu,r))->ClR L u r
 | yes {L1 L2 L3 x}:RuR kIs L (some (u.is,L1))->RuR kWhen L1 (some (u.wh,L2))->RuR kValid L2 (some (u.va,kSays :: x :: L3))->u.va≠[]->StrT x u.sa->RuR kMust L3 (some (u.mu,r))->ClR L u r
theorem qcj:Hdw [kSemi]:=fun t s e=>by cases e;exact .inr rfl
theorem qci {t:ByteArray}{r:List ByteArray}(h:Stw t):Hdw (t :: r):=fun t' s e=>by cases e;exact h
theorem RulG.hd {w:ByteArray}{T r:List ByteArray}{e:List Nx}(h:RulG w T e)(hw:Stw w)(hr:Hdw r):Hdw (T++r):=by
 rcases h with ⟨rfl,-⟩ | ⟨E,rfl,-⟩
 . exact hr
 . exact qci hw
theorem RulG.not {w v:ByteArray}{T r:List ByteArray}{e:List Nx}(h:RulG w T e)(hw:w≠v)(hr:∀r',r≠v :: r'):∀r',T++r≠v :: r':=by
 rcases h with ⟨rfl,-⟩ | ⟨E,rfl,-⟩
 . exact hr
 . exact fun r' e=>hw (by injection e)
theorem ClsG.run {T:List ByteArray}{u:Ru}(h:ClsG T u):ClR (T++[kSemi]) u [kSemi]:=by
 obtain⟨T1,T2,T3,T4,rfl,h1,h2,h3,h4⟩:=h
 have s1:Stw kIs:=.inl (by decide)
 have s2:Stw kWhen:=.inl (by decide)
 have s3:Stw kValid:=.inl (by decide)
 have s4:Stw kSays:=.inl (by decide)
 have s5:Stw kMust:=.inl (by decide)
 have ns:∀v,v≠kSemi->∀r',([kSemi]:List ByteArray)≠v :: r':=fun v hv r' e=>hv (by injection e with e;exact e.symm)
 have a4:RuR kMust (T4++[kSemi]) (some (u.mu,[kSemi])):=h4.run qcj (ns _ (by decide))
 have d4:Hdw (T4++[kSemi]):=h4.hd s5 qcj
 have n4:∀v,v≠kMust->v≠kSemi->∀r',T4++[kSemi]≠v :: r':=fun v hv hv'=>h4.not (fun e=>hv e.symm) (ns v hv')
 rw[show T1++(T2++(T3++T4))++[kSemi]=T1++(T2++(T3++(T4++[kSemi]))) by simp]
 rcases h3 with ⟨rfl,e3,e4⟩ | ⟨E,x,rfl,hE,hx⟩
 . rw[Vo]
   have a2:=h2.run d4 (n4 _ (by decide) (by decide));have d2:=h2.hd s2 d4;have a1:=h1.run d2 (h2.not (by decide) (n4 _ (by decide) (by decide)));exact .no a1 a2 (.inl ⟨n4 _ (by decide) (by decide),by rw[e3]⟩) e3 e4 a4
 . have a3:RuR kValid (kValid :: (E++[kSays,x])++(T4++[kSemi])) (some (u.va,kSays :: x :: (T4++[kSemi]))):=.inr ⟨E++kSays :: x :: (T4++[kSemi]),by simp,hE.read (qci s4)⟩
   have d3:Hdw (kValid :: (E++[kSays,x])++(T4++[kSemi])):=qci s3;have n3:∀v,v≠kValid->∀r',kValid :: (E++[kSays,x])++(T4++[kSemi])≠v :: r':=fun v hv r' e=>hv (by injection e with e;exact e.symm);have a2:=h2.run d3 (n3 _ (by decide));have d2:=h2.hd s2 d3;have a1:=h1.run d2 (h2.not (by decide) (n3 _ (by decide)));exact .yes a1 a2 a3 hE.1.some_node hx a4
theorem ClR.cls {L:List ByteArray}{u:Ru}{r:List ByteArray}(h:ClR L u r):∃T,L=T++r/\ClsG T u:=by
 cases h with
 | no h1 h2 h3 e3 e4 h5 =>
  obtain⟨T1,rfl,g1⟩:=h1.rul;obtain⟨T2,rfl,g2⟩:=h2.rul;obtain⟨T3,rfl,g3⟩:=h3.rul;obtain⟨T4,rfl,g4⟩:=h5.rul;have:T3=[]:=by
   rcases g3 with ⟨rfl,-⟩ | ⟨E,-,hE⟩
   . rfl
   . exact absurd e3 hE.1.some_node
  subst this;exact⟨T1++(T2++([]++T4)),by simp,T1,T2,[],T4,rfl,g1,g2,.inl ⟨rfl,e3,e4⟩,g4⟩
 | yes h1 h2 h3 e3 hx h5 =>
  obtain⟨T1,rfl,g1⟩:=h1.rul;obtain⟨T2,rfl,g2⟩:=h2.rul;obtain⟨T3,rfl,g3⟩:=h3.rul;obtain⟨T4,rfl,g4⟩:=h5.rul;rcases g3 with ⟨-,e⟩ | ⟨E,rfl,hE⟩
  . exact absurd e e3
  . exact⟨T1++(T2++(kValid :: (E++[kSays,_])++T4)),by simp,T1,T2,_,T4,rfl,g1,g2,.inr ⟨E,_,rfl,hE,hx⟩,g4⟩
theorem RuR.inj {w:ByteArray}{L r r':List ByteArray}{e e':List Nx}(h:RuR w L (some (e,r)))(h':RuR w L (some (e',r'))):e=e'/\r=r':=by
 have:=h.same h'
 simpa using this
theorem ClR.same {L r r':List ByteArray}{u u':Ru}(h:ClR L u r)(h':ClR L u' r'):u=u'/\r=r':=by
 obtain⟨ui,uw,uv,us,um⟩:=u
 obtain⟨vi,vw,vv,vs,vm⟩:=u'
 cases h with
 | no h1 h2 h3 e3 e4 h5 =>
  cases h' with
  | no g1 g2 g3 f3 f4 g5 =>
   obtain⟨rfl,rfl⟩:=h1.inj g1;obtain⟨rfl,rfl⟩:=h2.inj g2;obtain⟨rfl,rfl⟩:=h3.inj g3;obtain⟨rfl,rfl⟩:=h5.inj g5;simp only at e4 f4;subst e4 f4;exact⟨rfl,rfl⟩
  | yes g1 g2 g3 f3 f4 g5 =>
   obtain⟨rfl,rfl⟩:=h1.inj g1;obtain⟨rfl,rfl⟩:=h2.inj g2;obtain⟨rfl,rfl⟩:=h3.inj g3;exact absurd e3 f3
 | yes h1 h2 h3 e3 e4 h5 =>
  cases h' with
  | no g1 g2 g3 f3 f4 g5 =>
   obtain⟨rfl,rfl⟩:=h1.inj g1;obtain⟨rfl,rfl⟩:=h2.inj g2;obtain⟨rfl,rfl⟩:=h3.inj g3;exact absurd f3 e3
  | yes g1 g2 g3 f3 f4 g5 =>
   obtain⟨rfl,rfl⟩:=h1.inj g1;obtain⟨rfl,rfl⟩:=h2.inj g2;obtain⟨rfl,e⟩:=h3.inj g3;injection e with _ e
   injection e with ex eL
   subst ex eL;obtain⟨rfl,rfl⟩:=h5.inj g5;have:=e4.2.2.trans f4.2.2.symm;simp only at this;subst this;exact⟨rfl,rfl⟩
theorem ClsG.uniq {T:List ByteArray}{u u':Ru}(h:ClsG T u)(h':ClsG T u'):u=u':=(h.run.same h'.run).1
def ru0:Ru:=⟨[],[],[],⟨#[]⟩,[]⟩
def Ru.put (u:Ru)(k:Nat)(e:List Nx):Ru:=if k=1 then { u with is:=e } else if k=2 then { u with wh:=e } else if k=3 then { u with va:=e } else { u with mu:=e }
def Hdr (r:List ByteArray):Prop:=∀t s,r=t :: s->rk t≠0
inductive CmpG:Nat->Ru->List ByteArray->Ru->Prop
 | nil {r u}:r≠3->CmpG r u [] u
 | says {u x s R u'}:StrT x s->rk x=0->Hdr R->CmpG 4 { u with sa:=s } R u'->CmpG 3 u (kSays :: x :: R) u'
 | rule {r u t E e R u'}:r<rk t->r≠3->rk t≠4->ExG E e->Hdr R->CmpG (rk t) (u.put (rk t) e) R u'->CmpG r u (t :: (E++R)) u'
theorem qbr {E E' R R':List ByteArray}(h:E++R=E'++R')(h1:∀t,t∈E->rk t=0)(h2:∀t,t∈E'->rk t=0)(h3:Hdr R)(h4:Hdr R'):E=E'/\R=R':=by
 induction E generalizing E' with
 | nil =>
  cases E' with
  | nil=>exact⟨rfl,h⟩
  | cons t r=>exact absurd (h2 t (by simp)) (h3 t _ h)
 | cons t r ih =>
  cases E' with
  | nil=>exact absurd (h1 t (by simp)) (h4 t _ h.symm)
  | cons t' r' =>
   injection h with e1 e2
   obtain⟨rfl,rfl⟩:=ih e2 (fun x hx=>h1 x (by simp[hx])) (fun x hx=>h2 x (by simp[hx]));exact⟨by rw[e1],rfl⟩
theorem str_rk {x s:ByteArray}(h:StrT x s):rk x=0:=Yv fun hn=>by
 have hk:∀y∈([kIs,kWhen,kValid,kSays,kMust]:List ByteArray),(rv y).2.2.2=false:=by
  intro y hy;simp only[Y9,Z1,or_false]at hy;rcases hy with e | e | e | e | e
  all_goals
   subst e;refine rv_no (by decide) (by decide) (by decide) fun c r h=>?_;injection h with h1 h2
   subst h1 h2
   decide
 have:=hk x (by rcases rk_ne hn with rfl | rfl | rfl | rfl | rfl <;> simp)
 have h1:=h.1
 rw[this]at h1
 cases h1
theorem CmpG.head {r:Nat}{u u':Ru}{t:ByteArray}{E R:List ByteArray}(h:CmpG r u (t :: (E++R)) u')(hE:∀x,x∈E->rk x=0)(hR:Hdr R) :
 (r=3/\t=kSays/\∃x s,E=[x]/\StrT x s/\CmpG 4 { u with sa:=s } R u')∨(r≠3/\r<rk t/\rk t≠4/\∃e,ExG E e/\CmpG (rk t) (u.put (rk t) e) R u'):=by
 generalize hL:t :: (E++R)=L at h
 cases h with
 | nil=>cases hL
 | @says _ x s R' _ h1 h2 h3 h4 =>
  injection hL with e1 e2
  obtain⟨rfl,rfl⟩:=qbr (E':=[x]) (R':=R') (by rw[e2];rfl) hE (fun y hy=>by obtain rfl:=Y7.1 hy;exact h2) hR h3;exact .inl ⟨rfl,e1,x,s,rfl,h1,h4⟩
 | @rule _ _ t' E' e R' _ h1 h2 h3 h4 h5 h6 =>
  injection hL with e1 e2
  obtain⟨rfl,rfl⟩:=qbr e2 hE (fun y hy=>h4.rk0 hy) hR h5;subst e1;exact .inr ⟨h2,h1,h3,e,h4,h6⟩
theorem CmpG.done {r:Nat}{u u':Ru}(h:CmpG r u [] u'):r≠3/\u'=u:=by
 cases h with
 | nil h=>exact⟨h,rfl⟩
theorem rk_t:rk kIs=1/\rk kWhen=2/\rk kValid=3/\rk kSays=4/\rk kMust=5:=by decide
theorem RulG.hdr {w:ByteArray}{T r:List ByteArray}{e:List Nx}(h:RulG w T e)(hw:rk w≠0)(hr:Hdr r):Hdr (T++r):=by
 rcases h with ⟨rfl,-⟩ | ⟨E,rfl,-⟩
 . exact hr
 . exact fun t s e=>by injection e with e _;rw[<- e];exact hw
theorem qgh:Hdr []:=fun _ _ e=>by cases e
theorem ClsG.cmp {T:List ByteArray}{u:Ru}(h:ClsG T u):CmpG 0 ru0 T u:=by
 obtain⟨ui,uw,uv,us,um⟩:=u
 obtain⟨T1,T2,T3,T4,rfl,h1,h2,h3,h4⟩:=h
 simp only at h1 h2 h3 h4
 obtain⟨k1,k2,k3,k4,k5⟩:=rk_t
 have d4:Hdr T4:=by have:=h4.hdr (by rw[k5];omega) qgh;rwa [Zi]at this
 have d3:Hdr (T3++T4):=by
  rcases h3 with ⟨rfl,-⟩ | ⟨E,x,rfl,-⟩
  . exact d4
  . exact fun t s e=>by injection e with e _;rw[<- e,k3];omega
 have d2:Hdr (T2++(T3++T4)):=h2.hdr (by rw[k2];omega) d3
 have m4:∀r u,r<5->r≠3->u.mu=[]->CmpG r u T4 { u with mu:=um }:=by
  intro r u hr hr3 hu;rcases h4 with ⟨rfl,rfl⟩ | ⟨E,rfl,hE⟩
  . obtain⟨a,b,c,d,e⟩:=u
    simp only at hu;subst hu;exact .nil hr3
  . have:=CmpG.rule (r:=r) (u:=u) (t:=kMust) (E:=E) (e:=um) (R:=[]) (u':={ u with mu:=um }) (by rw[k5];exact hr) hr3 (by rw[k5];omega) hE qgh (by rw[k5];exact .nil (by omega))
    rwa [Zi]at this
 have m3:∀r u,r<3->u.mu=[]->u.va=[]->u.sa=⟨#[]⟩->CmpG r u (T3++T4) { u with va:=uv,sa:=us,mu:=um }:=by
  intro r u hr hu hv hs;rcases h3 with ⟨rfl,rfl,rfl⟩ | ⟨E,x,rfl,hE,hx⟩
  . have:=m4 r u (by omega) (by omega) hu
    obtain⟨a,b,c,d,e⟩:=u;simp only at hv hs;subst hv hs;exact this
  . have q:=CmpG.rule (r:=r) (u:=u) (t:=kValid) (E:=E) (e:=uv) (R:=kSays :: x :: T4) (u':={ u with va:=uv,sa:=us,mu:=um }) (by rw[k3];exact hr) (by omega) (by rw[k3];omega) hE (fun t s e=>by injection e with e _;rw[<- e,k4];omega) (by
     rw[k3];exact .says hx (str_rk hx) d4 (m4 4 _ (by omega) (by omega) hu))
    rw[show kValid :: (E++[kSays,x])++T4=kValid :: (E++kSays :: x :: T4) by simp];exact q
 have m2:∀r u,r<2->u.mu=[]->u.va=[]->u.sa=⟨#[]⟩->u.wh=[]->CmpG r u (T2++(T3++T4)) { u with wh:=uw,va:=uv,sa:=us,mu:=um }:=by
  intro r u hr hu hv hs hw;rcases h2 with ⟨rfl,rfl⟩ | ⟨E,rfl,hE⟩
  . have:=m3 r u (by omega) hu hv hs
    obtain⟨a,b,c,d,e⟩:=u;simp only at hw;subst hw;exact this
  . exact CmpG.rule (r:=r) (u:=u) (t:=kWhen) (E:=E) (e:=uw) (R:=T3++T4) (by rw[k2];exact hr) (by omega) (by rw[k2];omega) hE d3 (by rw[k2];exact m3 2 { u with wh:=uw } (by omega) hu hv hs)
 rcases h1 with ⟨rfl,rfl⟩ | ⟨E,rfl,hE⟩
 . exact m2 0 ru0 (by omega) rfl rfl rfl rfl
 . exact CmpG.rule (r:=0) (u:=ru0) (t:=kIs) (E:=E) (e:=ui) (R:=T2++(T3++T4)) (by rw[k1];omega) (by omega) (by rw[k1];omega) hE d2 (by rw[k1];exact m2 1 { ru0 with is:=ui } (by omega) rfl rfl rfl rfl)
theorem qil {t:ByteArray}{k:Nat}(h:rk t=k)(hk:k≠0):(k=1/\t=kIs)∨(k=2/\t=kWhen)∨(k=3/\t=kValid)∨(k=4/\t=kSays)∨(k=5/\t=kMust):=by
 obtain⟨k1,k2,k3,k4,k5⟩:=rk_t
 rcases rk_ne (by rw[h];exact hk) with rfl | rfl | rfl | rfl | rfl
 . rw[k1]at h;exact .inl ⟨h.symm,rfl⟩
 . rw[k2]at h;exact .inr (.inl ⟨h.symm,rfl⟩)
 . rw[k3]at h;exact .inr (.inr (.inl ⟨h.symm,rfl⟩))
 . rw[k4]at h;exact .inr (.inr (.inr (.inl ⟨h.symm,rfl⟩)))
 . rw[k5]at h;exact .inr (.inr (.inr (.inr ⟨h.symm,rfl⟩)))
theorem rk_le (t:ByteArray):rk t<=5:=by
 by_cases h:rk t=0
 . omega
 . rcases qil rfl h with ⟨e,-⟩ | ⟨e,-⟩ | ⟨e,-⟩ | ⟨e,-⟩ | ⟨e,-⟩ <;> omega
theorem CmpG.c5 {u u':Ru}{R:List ByteArray}(h:CmpG 5 u R u'):R=[]/\u'=u:=by
 cases h with
 | nil=>exact⟨rfl,rfl⟩
 | @rule _ _ t E e R' _ h1=>have:=rk_le t;omega
theorem CmpG.gt {r:Nat}{u u':Ru}{t:ByteArray}{s:List ByteArray}(h:CmpG r u (t :: s) u')(hr:r≠3):r<rk t:=by
 cases h with
 | says=>exact absurd rfl hr
 | rule h1=>exact h1
theorem CmpG.c4 {r:Nat}{u u':Ru}{R:List ByteArray}(hr:r≠3)(hu:u.mu=[])(h:CmpG r u R u')(hw:∀t s,R=t :: s->3<rk t):∃e,RulG kMust R e/\u' = { u with mu:=e }:=by
 cases h with
 | nil=>exact⟨[],.inl ⟨rfl,rfl⟩,by rw[<- hu]⟩
 | says=>exact absurd rfl hr
 | @rule _ _ t E e R' _ h1 h2 h3 h4 h5 h6 =>
  have ht:=hw t _ rfl;have hl:=rk_le t;have h5':rk t=5:=by omega
  rw[h5']at h6;obtain⟨rfl,rfl⟩:=h6.c5;rcases qil h5' (by omega) with ⟨e',-⟩ | ⟨e',-⟩ | ⟨e',-⟩ | ⟨e',-⟩ | ⟨-,rfl⟩
  . omega
  . omega
  . omega
  . omega
  . exact⟨e,.inr ⟨E,by rw[Zi],h4⟩,rfl⟩
theorem CmpG.c3 {r:Nat}{u u':Ru}{R:List ByteArray}(hr:r≠3)(hu:u.mu=[])(hv:u.va=[])(hs:u.sa=⟨#[]⟩)(h:CmpG r u R u')(hw:∀t s,R=t :: s->2<rk t) :
 ∃T3 T4 v s m,R=T3++T4/\ValG T3 v s/\RulG kMust T4 m/\u' = { u with va:=v,sa:=s,mu:=m }:=by
 by_cases hx:∃t s,R=t :: s/\rk t=3
 . obtain⟨t,R0,rfl,ht⟩:=hx
   generalize hL:t :: R0=L at h;cases h with
   | nil=>cases hL
   | says=>exact absurd rfl hr
   | @rule _ _ t' E e R' _ h1 h2 h3 h4 h5 h6 =>
    injection hL with e1 e2
    subst e1 e2;rw[ht]at h6;rcases qil ht (by omega) with ⟨e',-⟩ | ⟨e',-⟩ | ⟨-,rfl⟩ | ⟨e',-⟩ | ⟨e',-⟩
    . omega
    . omega
    . generalize hL2:R'=L2 at h6
      cases h6 with
      | nil hn=>exact absurd rfl hn
      | @says _ x s R2 _ g1 g2 g3 g4 =>
       obtain⟨m,gm,rfl⟩:=CmpG.c4 (r:=4) (by omega) (by exact hu) g4 fun t s e=>by
        subst e;have:=g4.gt (by omega);omega
       exact⟨kValid :: (E++[kSays,x]),R2,e,s,m,by simp,.inr ⟨E,x,rfl,h4,g1⟩,gm,rfl⟩
      | rule _ h2=>exact absurd rfl h2
    . omega
    . omega
 . obtain⟨m,gm,rfl⟩:=CmpG.c4 hr hu h fun t s e=>by
    have:=hw t s e;have:rk t≠3:=fun e3=>hx ⟨t,s,e,e3⟩;omega
   exact⟨[],R,[],⟨#[]⟩,m,rfl,.inl ⟨rfl,rfl,rfl⟩,gm,by rw[<- hv,<- hs]⟩
theorem CmpG.c2 {r:Nat}{u u':Ru}{R:List ByteArray}(hr:r≠3)(hu:u.mu=[])(hv:u.va=[])(hs:u.sa=⟨#[]⟩)(hh:u.wh=[])(h:CmpG r u R u')(hw:∀t s,R=t :: s->1<rk t) :
 ∃T2 T3 T4 w v s m,R=T2++(T3++T4)/\RulG kWhen T2 w/\ValG T3 v s/\RulG kMust T4 m/\u' = { u with wh:=w,va:=v,sa:=s,mu:=m }:=by
 by_cases hx:∃t s,R=t :: s/\rk t=2
 . obtain⟨t,R0,rfl,ht⟩:=hx
   generalize hL:t :: R0=L at h;cases h with
   | nil=>cases hL
   | says=>exact absurd rfl hr
   | @rule _ _ t' E e R' _ h1 h2 h3 h4 h5 h6 =>
    injection hL with e1 e2
    subst e1 e2;rw[ht]at h6;rcases qil ht (by omega) with ⟨e',-⟩ | ⟨-,rfl⟩ | ⟨e',-⟩ | ⟨e',-⟩ | ⟨e',-⟩
    . omega
    . obtain⟨T3,T4,v,s,m,rfl,g1,g2,rfl⟩:=CmpG.c3 (r:=2) (by omega) (by exact hu) (by exact hv) (by exact hs) h6 fun t s e=>by
       subst e;exact h6.gt (by omega)
      exact⟨kWhen :: E,T3,T4,e,v,s,m,rfl,.inr ⟨E,rfl,h4⟩,g1,g2,rfl⟩
    . omega
    . omega
    . omega
 . obtain⟨T3,T4,v,s,m,rfl,g1,g2,rfl⟩:=CmpG.c3 hr hu hv hs h fun t s e=>by
    have:=hw t s e;have:rk t≠2:=fun e3=>hx ⟨t,s,e,e3⟩;omega
   exact⟨[],T3,T4,[],v,s,m,rfl,.inl ⟨rfl,rfl⟩,g1,g2,by rw[<- hh]⟩
theorem CmpG.cls {R:List ByteArray}{u':Ru}(h:CmpG 0 ru0 R u'):ClsG R u':=by
 by_cases hx:∃t s,R=t :: s/\rk t=1
 . obtain⟨t,R0,rfl,ht⟩:=hx
   generalize hL:t :: R0=L at h;cases h with
   | nil=>cases hL
   | @rule _ _ t' E e R' _ h1 h2 h3 h4 h5 h6 =>
    injection hL with e1 e2
    subst e1 e2;rw[ht]at h6;rcases qil ht (by omega) with ⟨-,rfl⟩ | ⟨e',-⟩ | ⟨e',-⟩ | ⟨e',-⟩ | ⟨e',-⟩
    . obtain⟨T2,T3,T4,w,v,s,m,rfl,g1,g2,g3,rfl⟩:=CmpG.c2 (r:=1) (by omega) (by rfl) (by rfl) (by rfl) (by rfl) h6 fun t s e=>by
       subst e;exact h6.gt (by omega)
      exact⟨kIs :: E,T2,T3,T4,rfl,.inr ⟨E,rfl,h4⟩,g1,g2,g3⟩
    . omega
    . omega
    . omega
    . omega
 . obtain⟨T2,T3,T4,w,v,s,m,rfl,g1,g2,g3,rfl⟩:=CmpG.c2 (by omega) rfl rfl rfl rfl h fun t s e=>by
    subst e;have:=h.gt (by omega);have:rk t≠1:=fun e3=>hx ⟨t,s,rfl,e3⟩;omega
   exact⟨[],T2,T3,T4,rfl,.inl ⟨rfl,rfl⟩,g1,g2,g3⟩
theorem qfy {T:List ByteArray}{u:Ru}:ClsG T u ↔ CmpG 0 ru0 T u:=⟨ClsG.cmp,CmpG.cls⟩
def kLabel:ByteArray:=⟨#[108,97,98,101,108]⟩
def kBelow:ByteArray:=⟨#[98,101,108,111,119]⟩
def kRole:ByteArray:=⟨#[114,111,108,101]⟩
def kField:ByteArray:=⟨#[102,105,101,108,100]⟩
def tyT (t:Nat):ByteArray:=if t=1 then ⟨#[105,110,116]⟩ else if t=2 then ⟨#[98,111,111,108]⟩ else ⟨#[116,101,120,116]⟩
structure Sx where
 kind:Nat
 name:ByteArray
 other:ByteArray
 auto:Bool
 typ:Nat
 bys:List ByteArray
 u:Ru
def byT (l:List ByteArray):List ByteArray:=l.flatMap fun b=>[kBy,b]
inductive StG:List ByteArray->Sx->Prop
 | label {n}:goodN n=true->StG [kLabel,n] ⟨1,n,⟨#[]⟩,false,0,[],ru0⟩
 | below {n m}:goodN n=true->goodN m=true->StG [kBelow,n,m] ⟨2,n,m,false,0,[],ru0⟩
 | role {n m}:goodN n=true->goodN m=true->StG [kRole,n,kAt,m] ⟨3,n,m,false,0,[],ru0⟩
 | auto {n t bys C u}:goodN n=true->1<=t->t<=3->(∀b,b∈bys->goodN b=true)->ClsG C u->bys=[]∨u.is=[]->StG (kField :: n :: tyT t :: kAt :: kAuto :: (byT bys++C)) ⟨4,n,⟨#[]⟩,true,t,bys,u⟩
 | field {n t m bys C u}:goodN n=true->1<=t->t<=3->goodN m=true->(∀b,b∈bys->goodN b=true)->ClsG C u->bys=[]∨u.is=[]->StG (kField :: n :: tyT t :: kAt :: m :: (byT bys++C)) ⟨4,n,m,false,t,bys,u⟩
theorem ClsG.hdr {C:List ByteArray}{u:Ru}(h:ClsG C u):Hdr C:=fun t s e=>by
 subst e
 have:=h.cmp.gt (by omega)
 omega
theorem qfo {l l' C C':List ByteArray}(h:byT l++C=byT l'++C')(h1:Hdr C)(h2:Hdr C'):l=l'/\C=C':=by
 have k0:rk kBy=0:=by decide
 induction l generalizing l' with
 | nil =>
  cases l' with
  | nil=>exact⟨rfl,h⟩
  | cons b r=>exact absurd k0 (h1 kBy _ h)
 | cons b r ih =>
  cases l' with
  | nil=>exact absurd k0 (h2 kBy _ h.symm)
  | cons b' r' =>
   rw[show byT (b :: r)++C=kBy :: b :: (byT r++C) from rfl,show byT (b' :: r')++C'=kBy :: b' :: (byT r'++C') from rfl]at h;injection h with _ h
   injection h with e1 h
   obtain⟨rfl,rfl⟩:=ih h;exact⟨by rw[e1],rfl⟩
theorem ty_inj {a b:Nat}(h:tyT a=tyT b)(h1:1<=a)(h2:a<=3)(h3:1<=b)(h4:b<=3):a=b:=by
 have:∀x y:Fin 4,tyT x.val=tyT y.val->1<=x.val->1<=y.val->x.val=y.val:=by decide
 exact this ⟨a,by omega⟩ ⟨b,by omega⟩ h h1 h3
theorem qbe:goodN kAuto=false:=by decide +kernel
theorem StG.uniq {T:List ByteArray}{x y:Sx}(h:StG T x)(h':StG T y):x=y:=by
 cases h with
 | label=>cases h' with
  | label=>rfl
 | below=>cases h' with
  | below=>rfl
 | role=>cases h' with
  | role=>rfl
 | @auto n t bys C u g1 g2 g3 g4 g5 g6 =>
  generalize hL:kField :: n :: tyT t :: kAt :: kAuto :: (byT bys++C)=L at h';cases h' with
  | label=>cases hL
  | below=>cases hL
  | role=>cases hL
  | @auto n' t' bys' C' u' f1 f2 f3 f4 f5 f6 =>
   simp only[Vp]at hL;obtain⟨-,rfl,e1,-,-,e2⟩:=hL;obtain rfl:=ty_inj e1 g2 g3 f2 f3;obtain⟨rfl,rfl⟩:=qfo e2 g5.hdr f5.hdr;obtain rfl:=g5.uniq f5;rfl
  | @field n' t' m bys' C' u' f1 f2 f3 f0 f4 f5 f6 =>
   simp only[Vp]at hL;obtain⟨-,-,-,-,e,-⟩:=hL;rw[<- e,qbe]at f0;cases f0
 | @field n t m bys C u g1 g2 g3 g0 g4 g5 g6 =>
  generalize hL:kField :: n :: tyT t :: kAt :: m :: (byT bys++C)=L at h';cases h' with
  | label=>cases hL
  | below=>cases hL
  | role=>cases hL
  | @auto n' t' bys' C' u' f1 f2 f3 f4 f5 f6 =>
   simp only[Vp]at hL;obtain⟨-,-,-,-,e,-⟩:=hL;rw[e,qbe]at g0;cases g0
  | @field n' t' m' bys' C' u' f1 f2 f3 f0 f4 f5 f6 =>
   simp only[Vp]at hL;obtain⟨-,rfl,e1,-,rfl,e2⟩:=hL;obtain rfl:=ty_inj e1 g2 g3 f2 f3;obtain⟨rfl,rfl⟩:=qfo e2 g5.hdr f5.hdr;obtain rfl:=g5.uniq f5;rfl
end Go.Proofs.YtfmammdgehbjhaaGreatDoor
namespace Go.Proofs.YtfmammdgehbjhaaGreatDoor
open Go Go.RowKit
theorem qds (t:ByteArray)(p:Int)(w:World):Calls Tryz.prog 47 #[tV t p] w fun e w'=>e=.returned (Ya (rk t:Nat))/\Below w.heap.size w w':=by
 have HW:Hi (∀s w,cls s=1->Calls Tryz.prog 44 #[.agg (Jv (cls t:Nat) (txt t) p),.string s] w fun e w'=>e=.returned (.bool (decide (t=s)))/\Below w.heap.size w w'):=h_ fun s w hs=>qf6 p hs w
 have HB:=h_ ((bR w.heap.size w).alloc (nR _) (.cells (Jv (cls t:Nat) (txt t) p) 41))
 have HK:=h_ (Blk.new w 41 (Jv (cls t:Nat) (txt t) p))
 unfold tV
 obtain⟨W0,hW0⟩:=Nq (w.alloc (.cells (Jv (cls t:Nat) (txt t) p) 41))
 rw[hW0]at HB HK
 have HR:Hi (rk t=if t=kIs then 1 else if t=kWhen then 2 else if t=kValid then 3 else if t=kSays then 4 else if t=kMust then 5 else 0):=h_ rfl
 generalize (cls t:Int)=ct at *
 generalize txt t=xt at *
 obtain⟨r0,r1,r2⟩:=three HK.u
 go_enter Tryz.func47,Tryz.ntmps47
 go_wp2_with fail
 try rw[hW0]
 refine(HW.u kIs _ (by decide)).mono ?_
 rintro e w1 ⟨rfl,hb⟩
 replace HB:=mT HB hb;replace HK:=mB HK hb
 clear hb r0 r1 r2
 obtain⟨r0,r1,r2⟩:=three HK.u
 by_cases h1:t=kIs
 . rw[Yh h1]
   rw[Yn h1]at HR;go_wp2_with fail;go_ret;exact⟨by rw[HR.u];rfl,HB.u⟩
 rw[Yg h1]
 rw[Yi h1]at HR
 go_wp2_with fail
 refine(HW.u kWhen _ (by decide)).mono ?_
 rintro e w2 ⟨rfl,hb⟩
 replace HB:=mT HB hb;replace HK:=mB HK hb
 clear hb r0 r1 r2
 obtain⟨r0,r1,r2⟩:=three HK.u
 by_cases h2:t=kWhen
 . rw[Yh h2]
   rw[Yn h2]at HR;go_wp2_with fail;go_ret;exact⟨by rw[HR.u];rfl,HB.u⟩
 rw[Yg h2]
 rw[Yi h2]at HR
 go_wp2_with fail
 refine(HW.u kValid _ (by decide)).mono ?_
 rintro e w3 ⟨rfl,hb⟩
 replace HB:=mT HB hb;replace HK:=mB HK hb
 clear hb r0 r1 r2
 obtain⟨r0,r1,r2⟩:=three HK.u
 by_cases h3:t=kValid
 . rw[Yh h3]
   rw[Yn h3]at HR;go_wp2_with fail;go_ret;exact⟨by rw[HR.u];rfl,HB.u⟩
 rw[Yg h3]
 rw[Yi h3]at HR
 go_wp2_with fail
 refine(HW.u kSays _ (by decide)).mono ?_
 rintro e w4 ⟨rfl,hb⟩
 replace HB:=mT HB hb;replace HK:=mB HK hb
 clear hb r0 r1 r2
 obtain⟨r0,r1,r2⟩:=three HK.u
 by_cases h4:t=kSays
 . rw[Yh h4]
   rw[Yn h4]at HR;go_wp2_with fail;go_ret;exact⟨by rw[HR.u];rfl,HB.u⟩
 rw[Yg h4]
 rw[Yi h4]at HR
 go_wp2_with fail
 refine(HW.u kMust _ (by decide)).mono ?_
 rintro e w5 ⟨rfl,hb⟩
 replace HB:=mT HB hb;replace HK:=mB HK hb
 clear hb r0 r1 r2
 obtain⟨r0,r1,r2⟩:=three HK.u
 by_cases h5:t=kMust
 . rw[Yh h5]
   rw[Yn h5]at HR;go_wp2_with fail;go_ret;exact⟨by rw[HR.u];rfl,HB.u⟩
 rw[Yg h5]
 rw[Yi h5]at HR
 go_wp2_with fail
 go_ret
 exact⟨by rw[HR.u];rfl,HB.u⟩
def tyO (t:ByteArray):Nat:=if t=tyT 1 then 1 else if t=tyT 2 then 2 else if t=tyT 3 then 3 else 0
theorem tyO_t {t:ByteArray}{k:Nat}(h:tyO t=k)(hk:k≠0):1<=k/\k<=3/\t=tyT k:=by
 unfold tyO at h
 split at h
 . subst h;exact⟨by omega,by omega,‹_›⟩
 . split at h
   . subst h;exact⟨by omega,by omega,‹_›⟩
   . split at h
     . subst h;exact⟨by omega,by omega,‹_›⟩
     . exact absurd h.symm hk
theorem tyO_at {k:Nat}(h1:1<=k)(h2:k<=3):tyO (tyT k)=k:=by
 have:∀x:Fin 4,1<=x.val->tyO (tyT x.val)=x.val:=by decide
 exact this ⟨k,by omega⟩ h1
theorem qjl (k:Nat)(h1:1<=k)(h2:k<=3)(w:World):Calls Tryz.prog 53 #[Ya (k:Nat)] w fun r w'=>r=.returned (.string (tyT k))/\w'=w:=by
 rcases (show k=1∨k=2∨k=3 by omega) with rfl | rfl | rfl
 all_goals
  go_enter Tryz.func53,Tryz.ntmps53;go_wp2;go_ret;exact⟨rfl,rfl⟩
theorem q8b (t:ByteArray)(p:Int)(w:World):Calls Tryz.prog 46 #[tV t p] w fun e w'=>e=.returned (Ya (tyO t:Nat))/\Below w.heap.size w w':=by
 have HW:Hi (∀s w,cls s=1->Calls Tryz.prog 44 #[.agg (Jv (cls t:Nat) (txt t) p),.string s] w fun e w'=>e=.returned (.bool (decide (t=s)))/\Below w.heap.size w w'):=h_ fun s w hs=>qf6 p hs w
 have HB0:=h_ ((bR w.heap.size w).alloc (nR _) (.cells (Jv (cls t:Nat) (txt t) p) 41))
 have HK0:=h_ (Blk.new w 41 (Jv (cls t:Nat) (txt t) p))
 unfold tV
 obtain⟨W0,hW0⟩:=Nq (w.alloc (.cells (Jv (cls t:Nat) (txt t) p) 41))
 rw[hW0]at HB0 HK0
 have HC:Hi (∀k,1<=k->k<=3->cls (tyT k)=1):=h_ fun k h1 h2=>by
  rcases (show k=1∨k=2∨k=3 by omega) with rfl | rfl | rfl <;> decide
 have HYes:Hi (∀k,1<=k->k<=3->t=tyT k->tyO t=k):=h_ fun k h1 h2 e=>by rw[e];exact tyO_at h1 h2
 have HNo:Hi ((∀j,1<=j->j<=3->t≠tyT j)->tyO t=0):=h_ fun h=>by
  unfold tyO;rw[Yi (h 1 (by omega) (by omega)),Yi (h 2 (by omega) (by omega)),Yi (h 3 (by omega) (by omega))]
 generalize tyO t=R at *
 generalize (cls t:Int)=ct at *
 generalize txt t=xt at *
 go_enter Tryz.func46,Tryz.ntmps46
 go_wp2_with fail
 try rw[hW0]
 clear hW0
 go_loopw [3] (fun v wr=>∃k:Nat,1<=k/\k<=4/\v=Ya (k:Nat)/\(∀j,1<=j->j<k->t≠tyT j)/\Below w.heap.size w wr/\Below W0.heap.size W0 wr) (fun v _=>5 - (intOf v).toNat)
 case atStart=>exact⟨1,by omega,by omega,rfl,fun j h1 h2=>absurd h2 (by omega),HB0.u,bR _ _⟩
 case round =>
  obtain⟨k,k1,k4,rfl,hnot,hb,hb0⟩:=hrel;have HB:=h_ hb;have HN:=h_ hnot;have HB1:=h_ hb0;have HK:=mB HK0 hb0;clear hb hnot hb0;by_cases hk:k<=3
  . have hk':(k:Int)<=3:=by omega
    have HTN:=h_ (qjl k k1 hk);have HWt:=h_ (fun w=>HW.u (tyT k) w (HC.u k k1 hk));obtain⟨q,hq⟩:∃q,decide (t=tyT k)=q:=⟨_,rfl⟩;rw[hq]at HWt;have HQ:=h_ hq;clear hq;go_wp2_with fail;refine wp_region_held_drew (S:=fun w'=>Blk w' w.heap.size 41 [Ya ct,.string xt,Ya p]) (by kernel_rfl) HK.u (fun zz=>?_);refine tj 0 8 (.agg (Jv ct xt p)) zz ?_ (hy:=fun w hS=>by obtain⟨r0,r1,r2⟩:=three hS;simp[execOp,go_sem,r0,r1,r2]);refine tj 1 9 (Ya k) zz ?_;simp only[sX,sY,sZ];refine callY (i:=2) (f:=53) (args:=#[Ya k]) (R:=fun v wz=>v=.string (tyT k)/\wz=wr.drew) 10 rfl rfl (by rfl) (by kernel_rfl) ?hrun1 ((HTN.u _).mono fun e w6 ⟨he,hb⟩=>⟨_,he,rfl,hb⟩) ?_
    case hrun1=>simp[execOp,go_sem]
    rintro v w6 ⟨rfl,rfl⟩;refine⟨zz,?_⟩;simp only[sX,sY,sZ];refine callY (i:=3) (f:=44) (args:=#[.agg (Jv ct xt p),.string (tyT k)]) (R:=fun v wz=>v=.bool q/\Below wr.heap.size wr wz) 11 rfl rfl (by rfl) (by kernel_rfl) ?hrun2 ((HWt.u _).mono fun e w6 ⟨he,hb⟩=>⟨_,he,rfl,q23 hb⟩) ?_
    case hrun2=>simp[execOp,go_sem]
    rintro v w6 ⟨rfl,hb6⟩;have HB6:=mT HB hb6;have HB7:=mT HB1 hb6;refine⟨HK.u.mono hb6 HK.u.lt,?_⟩;simp only[sX,sY,sZ];refine wpAnyH_done (by kernel_rfl) ?_ _;clear zz hb6;cases q
    . go_wp2_with fail
      go_roundw
      case rel=>exact⟨k+1,by omega,by omega,by go_num,fun j h1 h2 e=>(if h:j<k then HN.u j h1 h e else (by
       have hj:j=k:=(by omega);subst hj;exact absurd e (of_decide_eq_false HQ.u))),HB6.u,HB7.u⟩
      case measure=>simp[intOf];omega
    . go_wp2_with fail
      go_ret;exact⟨by rw[HYes.u k k1 hk (Ze HQ.u)];rfl,HB6.u⟩
  . have hk':¬ (k:Int)<=3:=by omega
    go_wp2_with fail;go_ret;exact⟨by rw[HNo.u fun j h1 h2=>HN.u j h1 (by omega)];rfl,HB.u⟩
end Go.Proofs.YtfmammdgehbjhaaGreatDoor
namespace Go.Proofs.YtfmammdgehbjhaaGreatDoor
open Go
def JmpM (J:Nat->Act->World->Prop)(Q:Exit->Act->World->Prop):Exit->Act->World->Prop
 | .goto l,a,w=>J l a w
 | e,a,w=>Q e a w
theorem q7y {P:Program}{a:Act}{w:World}{Q:Exit->Act->World->Prop}{c:Code}(J:Nat->Act->World->Prop)(μ:Nat->Act->World->Nat)
 (first:c.wp P (JmpM J Q) a w)
 (pass:∀l a w,J l a w->∃rest,findLabel c l=some rest/\rest.wp P (JmpM (fun l' a' w'=>J l' a' w'/\μ l' a' w' < μ l a w) Q) a w):(Code.scope c).wp P Q a w:=by
 intro b k cs
 have key:∀n l a w,μ l a w=n->J l a w->∃rest,findLabel c l=some rest/\∃e a' w',Q e a' w'/\Arrives P (lone (b.at a (.code rest :: .inScope c :: k)) cs w) b k cs e a' w':=by
  intro n
  induction n using Nat.strongRecOn with
  | _ n ih =>
   intro l a w hn hJ;obtain⟨rest,hr,hp⟩:=pass l a w hJ;refine⟨rest,hr,?_⟩;obtain⟨e,a₁,w₁,hq,harr⟩:=hp b (.inScope c :: k) cs;cases e with
   | normal=>exact⟨.normal,a₁,w₁,hq,Steps.trans harr (.one step_inScope)⟩
   | exit id=>exact⟨.exit id,a₁,w₁,hq,fun k' hk=>harr k' (by simp[exitTo,hk])⟩
   | goto l' =>
    obtain⟨hJ',hlt⟩:=hq;obtain⟨rest',hr',e₂,a₂,w₂,hq₂,harr₂⟩:=ih _ (by omega) l' a₁ w₁ rfl hJ';exact⟨e₂,a₂,w₂,hq₂,.of_steps (harr _ (by simp[gotoIn,hr'])) harr₂⟩
   | ret=>exact⟨_,a₁,w₁,hq,harr⟩
   | panic ch=>exact⟨_,a₁,w₁,hq,harr⟩
   | outgrown=>exact⟨_,a₁,w₁,hq,harr⟩
 obtain⟨e,a₁,w₁,hq,harr⟩:=first b (.inScope c :: k) cs
 cases e with
 | normal=>exact⟨.normal,a₁,w₁,hq,.head step_scope (Steps.trans harr (.one step_inScope))⟩
 | exit id=>exact⟨.exit id,a₁,w₁,hq,fun k' hk=>.head step_scope (harr k' (by simp[exitTo,hk]))⟩
 | goto l' =>
  obtain⟨rest,hr,e₂,a₂,w₂,hq₂,harr₂⟩:=key _ l' a₁ w₁ rfl hq;exact⟨e₂,a₂,w₂,hq₂,.of_steps (.head step_scope (harr _ (by simp[gotoIn,hr]))) harr₂⟩
 | ret=>exact⟨_,a₁,w₁,hq,.of_steps (.one step_scope) harr⟩
 | panic ch=>exact⟨_,a₁,w₁,hq,.of_steps (.one step_scope) harr⟩
 | outgrown=>exact⟨_,a₁,w₁,hq,.of_steps (.one step_scope) harr⟩
end Go.Proofs.YtfmammdgehbjhaaGreatDoor
