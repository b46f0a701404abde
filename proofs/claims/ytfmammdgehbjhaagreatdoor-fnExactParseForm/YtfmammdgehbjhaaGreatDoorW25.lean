import Derived.Test.YtfmammdgehbjhaaGreatDoorW24
import Derived.Test.YtfmammdgehbjhaaGreatDoorW23
import Derived.Maps.OwnSet
import Derived.Deep.DeepCutAuto
import Derived.Laws.Tables
set_option maxRecDepth 100000
set_option maxHeartbeats 64000000
namespace Go.Proofs.YtfmammdgehbjhaaGreatDoor
open Go
def RlF (e:List Nx):Prop:=e.length<=1048576/\∀k,k<e.length->Fit (nf e k)
theorem RulG.fit {w:ByteArray}{T:List ByteArray}{e:List Nx}(h:RulG w T e)(hl:T.length<=1048576)(hz:∀t,t∈T->t.size<=1048576):RlF e:=by
 rcases h with ⟨-,rfl⟩ | ⟨E,rfl,hE⟩
 . exact⟨by simp,fun k hk=>absurd hk (by simp)⟩
 . have:=hE.1.len
   rw[Yl]at hl;exact⟨by omega,hE.1.fitL fun t ht=>hz t (by simp[ht])⟩
theorem ClsG.fit {T:List ByteArray}{u:Ru}(h:ClsG T u)(hl:T.length<=1048576)(hz:∀t,t∈T->t.size<=1048576):RlF u.is/\RlF u.wh/\RlF u.va/\RlF u.mu:=by
 obtain⟨T1,T2,T3,T4,rfl,h1,h2,h3,h4⟩:=h
 simp only[Yf]at hl
 refine⟨h1.fit (by omega) fun t ht=>hz t (by simp[ht]),h2.fit (by omega) fun t ht=>hz t (by simp[ht]),?_,h4.fit (by omega) fun t ht=>hz t (by simp[ht])⟩
 rcases h3 with ⟨-,h,-⟩ | ⟨E,x,rfl,hE,-⟩
 . rw[h];exact⟨by simp,fun k hk=>absurd hk (by simp)⟩
 . have:=hE.1.len
   simp only[Yl,Yf,Yw]at hl;exact⟨by omega,hE.1.fitL fun t ht=>hz t (by simp[ht])⟩
theorem qfm (l:List ByteArray):(byT l).length=2*l.length:=by
 induction l with
 | nil=>rfl
 | cons b r ih=>rw[show byT (b :: r)=kBy :: b :: byT r from rfl];simp only[Yl,ih];omega
theorem StG.fit {T:List ByteArray}{x:Sx}(h:StG T x)(hl:T.length<=1048576)(hz:∀t,t∈T->t.size<=1048576):x.bys.length<=1048576/\(RlF x.u.is/\RlF x.u.wh/\RlF x.u.va/\RlF x.u.mu):=by
 have h0:RlF []:=⟨by simp,fun k hk=>absurd hk (by simp)⟩
 cases h with
 | label=>exact⟨by simp,h0,h0,h0,h0⟩
 | below=>exact⟨by simp,h0,h0,h0,h0⟩
 | role=>exact⟨by simp,h0,h0,h0,h0⟩
 | @auto n t bys C u h1 h2 h3 h4 h5 h6 =>
  simp only[Yl,Yf,qfm]at hl;exact⟨by simp only;omega,h5.fit (by omega) fun t ht=>hz t (by simp[ht])⟩
 | @field n t m bys C u h1 h2 h3 h0 h4 h5 h6 =>
  simp only[Yl,Yf,qfm]at hl;exact⟨by simp only;omega,h5.fit (by omega) fun t ht=>hz t (by simp[ht])⟩
theorem StG.kinds {T:List ByteArray}{x:Sx}(h:StG T x):x.kind=1∨x.kind=2∨x.kind=3∨x.kind=4:=by
 cases h with
 | label=>exact .inl rfl
 | below=>exact .inr (.inl rfl)
 | role=>exact .inr (.inr (.inl rfl))
 | auto=>exact .inr (.inr (.inr rfl))
 | field=>exact .inr (.inr (.inr rfl))
def Flt (m:Fm):Prop:=∀f,f∈m.F->f.bys.length<=1048576/\RlF f.is/\RlF f.wh/\RlF f.va/\RlF f.mu
theorem qgc:Flt fm0:=fun f hf=>by cases hf
theorem VfB.fitM {m:Fm}(h:VfB m)(hf:Flt m):FitM m:=by
 have hl:=h.l;have hr:=h.r;have hn:=h.f
 unfold namesOk at hl hr hn
 rw[Yo,Zh]at hl hr hn
 refine⟨by have:=h.nl;omega,by have:=h.np;omega,by have:=h.nr;omega,by have:=h.nf;omega,fun x hx=>?_,fun x hx=>?_,fun x hx=>?_⟩
 . have:=q6n (hl.1 x hx);omega
 . have:=q6n (hr.1 x.nm (Z4.2 ⟨x,hx,rfl⟩));omega
 . obtain⟨h1,h2,h3,h4,h5⟩:=hf x hx
   have hsy:=q5f (h.fi x hx).sy;have:=q6n (hn.1 x.nm (Z4.2 ⟨x,hx,rfl⟩));have:=h2.1;have:=h3.1;have:=h4.1;have:=h5.1;exact⟨by omega,by omega,by omega,by omega,by omega,by omega,by omega,h2.2,h3.2,h4.2,h5.2⟩
theorem qb2 {m m':Fm}{last:Nat}{x:Sx}{T:List ByteArray}(hx:StG T x)(hl:T.length<=1048576)(hz:∀t,t∈T->t.size<=1048576)(h:Flt m)(ha:addS m last x=.inr m'):Flt m':=by
 unfold addS at ha
 split at ha
 . cases ha
 split at ha
 . split at ha
   . cases ha
   split at ha
   . cases ha
   injection ha with ha
   subst ha;exact h
 split at ha
 . split at ha
   . cases ha
   split at ha
   . injection ha with ha
     subst ha;exact h
   . cases ha
 split at ha
 . split at ha
   . cases ha
   split at ha
   . cases ha
   split at ha
   . injection ha with ha
     subst ha;exact h
   . cases ha
 split at ha
 . cases ha
 split at ha
 . cases ha
 split at ha
 . cases ha
 split at ha
 . injection ha with ha
   subst ha;intro f hf;rcases Zg.1 hf with h' | h'
   . exact h f h'
   . rw[Y7.1 h']
     obtain⟨h1,h2,h3,h4,h5⟩:=hx.fit hl hz;exact⟨by rw[Zf];exact h1,h2,h3,h4,h5⟩
 . cases ha
theorem qap {T:List ByteArray}(R:List ByteArray)(h:∀t,t∈T->t≠kSemi):splT (T++kSemi :: R)=(T :: (splT R).1,(splT R).2):=by
 induction T with
 | nil=>rw[Vo,splT,Yn rfl]
 | cons t T ih=>rw[Vj,splT,Yi (h t (by simp)),ih fun t ht=>h t (by simp[ht])]
theorem qao {T:List ByteArray}(h:∀t,t∈T->t≠kSemi):splT T=([],T):=by
 induction T with
 | nil=>rfl
 | cons t T ih=>rw[splT,Yi (h t (by simp)),ih fun t ht=>h t (by simp[ht])]
structure PfI (s:ByteArray)(ts:List ByteArray)(m:Fm)(last idx from' i:Nat):Prop where
 fi:from'<=i
 il:i<=ts.length
 no:∀j (h:j<ts.length),from'<=j->j<i->ts[j]≠kSemi
 go:∀r c p,StsA (splT (ts.drop from')).1 (splT (ts.drop from')).2 m last idx r c p->FrmA s r c p
 v:VfB m
 f:Flt m
 la:last<=4
 ix:idx<=i
theorem PfI.next {s:ByteArray}{ts:List ByteArray}{m:Fm}{last idx from' i:Nat}(h:PfI s ts m last idx from' i)(hi:i<ts.length)(hn:ts[i]≠kSemi):PfI s ts m last idx from' (i+1) :=
 ⟨by have:=h.fi;omega,hi,fun j hj h1 h2=>(by
  by_cases e:j=i
  . subst e;exact hn
  . exact h.no j hj h1 (by omega)),h.go,h.v,h.f,h.la,by have:=h.ix;omega⟩
theorem PfI.parts {s:ByteArray}{ts:List ByteArray}{m:Fm}{last idx from' i:Nat}(h:PfI s ts m last idx from' i):∀t,t∈(ts.take i).drop from'->t≠kSemi:=fun t ht=>by
 obtain⟨j,hj,rfl⟩:=Zo.1 ht
 rw[qg1 h.il]at hj
 rw[Vf,Ve]
 exact h.no (from'+j) (by have:=h.il;omega) (by omega) (by omega)
theorem PfI.cut {s:ByteArray}{ts:List ByteArray}{m:Fm}{last idx from' i:Nat}(h:PfI s ts m last idx from' i)(hi:i<ts.length)(hn:ts[i]=kSemi):splT (ts.drop from')=((ts.take i).drop from' :: (splT (ts.drop (i+1))).1,(splT (ts.drop (i+1))).2):=by
 have hp:=h.fi
 have:ts.drop from'=(ts.take i).drop from'++kSemi :: ts.drop (i+1):=by
  rw[<- hn,<- Y8 hi];rw[show ts.drop from'=(ts.take i++ts.drop i).drop from' by rw[Z9]];rw[Vu (by rw[Yu];omega)]
 rw[this]
 exact qap _ h.parts
theorem PfI.none {s:ByteArray}{ts:List ByteArray}{m:Fm}{last idx from' i:Nat}(h:PfI s ts m last idx from' i)(hi:i<ts.length)(hn:ts[i]=kSemi)(hx:∀x,¬ StG ((ts.take i).drop from') x):FrmA s fm0 3 (idx:Nat):=h.go _ _ _ (by rw[h.cut hi hn];exact .no hx)
theorem PfI.bad {s:ByteArray}{ts:List ByteArray}{m:Fm}{last idx from' i c:Nat}{x:Sx}(h:PfI s ts m last idx from' i)(hi:i<ts.length)(hn:ts[i]=kSemi)(hx:StG ((ts.take i).drop from') x)(ha:addS m last x=.inl c):FrmA s fm0 (c:Nat) (idx:Nat):=h.go _ _ _ (by rw[h.cut hi hn];exact .bad hx ha)
theorem PfI.step {s:ByteArray}{ts:List ByteArray}{m m':Fm}{last idx from' i:Nat}{x:Sx}(h:PfI s ts m last idx from' i)(hi:i<ts.length)(hn:ts[i]=kSemi)(hl:ts.length<=1048576)(hz:∀t,t∈ts->t.size<=1048576)(hx:StG ((ts.take i).drop from') x)(ha:addS m last x=.inr m'):PfI s ts m' x.kind (idx+1) (i+1) (i+1) :=
 ⟨nR _,hi,fun j _ h1 h2=>by omega,fun r c p hs=>h.go _ _ _ (by rw[h.cut hi hn];exact .step hx ha hs),qf8 hx h.v ha,qb2 hx (by rw[qg1 h.il];omega) (fun t ht=>hz t (Zw (Vl ht))) h.f ha,by rcases hx.kinds with h | h | h | h <;> omega,by have:=h.ix;omega⟩
theorem PfI.stop {s:ByteArray}{ts:List ByteArray}{m:Fm}{last idx from':Nat}(h:PfI s ts m last idx from' ts.length):splT (ts.drop from')=([],ts.drop from'):=qao fun t ht=>h.parts t (by rw[Zl];exact ht)
theorem PfI.rest {s:ByteArray}{ts:List ByteArray}{m:Fm}{last idx from':Nat}(h:PfI s ts m last idx from' ts.length)(hf:from'<ts.length):FrmA s fm0 3 (idx:Nat):=h.go _ _ _ (by
 rw[h.stop]
 exact .stop fun e=>by have:=congrArg List.length e;rw[Vc,Yw]at this;omega)
theorem PfI.done {s:ByteArray}{ts:List ByteArray}{m:Fm}{last idx from':Nat}(h:PfI s ts m last idx from' ts.length)(hf:¬ from'<ts.length):∀r c p,StsA [] [] m last idx r c p->FrmA s r c p:=fun r c p hs=>h.go _ _ _ (by
 rw[h.stop,Ob (by omega)]
 exact hs)
theorem PfI.start {s:ByteArray}{ts:List ByteArray}(hs:s.size<=30000)(hl:lxF s s.size 0 []=.inr ts):PfI s ts fm0 0 0 0 0 :=
 ⟨nR _,nZ _,fun j _ _ h2=>absurd h2 (nL _),fun r c p h=>.inr ⟨hs,.inr ⟨ts,hl,by rw[Z5]at h;exact h⟩⟩,qjp,qgc,nZ _,nR _⟩
def kl (x:ByteArray):Lit:=.string (sb x)
theorem kl_inj {x y:ByteArray}(h:kl x=kl y):x=y:=by
 unfold kl sb at h
 simp only[Lit.string.injEq]at h
 obtain⟨⟨a⟩⟩:=x
 obtain⟨⟨b⟩⟩:=y
 simp at h
 rw[h]
def mpR:List ByteArray->DataW Unit
 | []=>.map []
 | x :: r=>(mpR r).put (kl x) (.lit (.int .i64 (r.length:Int)))
def mp (l:List ByteArray):DataW Unit:=mpR l.reverse
theorem qho (l:List ByteArray)(x:ByteArray):mp (l++[x])=(mp l).put (kl x) (.lit (.int .i64 (l.length:Int))):=by
 unfold mp
 rw[List.reverse_append]
 simp[mpR]
theorem qeo (r:List ByteArray):Maps.Tidy (mpR r):=by
 induction r with
 | nil=>exact Maps.tidy_empty
 | cons x r ih=>exact ih.put (show WideAt.IsKeyLit (kl x) from trivial) _
theorem qgf (r:List ByteArray)(x:ByteArray):Maps.has (mpR r) (kl x)=memB x r:=by
 induction r with
 | nil=>rfl
 | cons y r ih =>
  by_cases h:x=y
  . subst h
    rw[show mpR (x :: r)=(mpR r).put (kl x) (.lit (.int .i64 (r.length:Int))) from rfl,Maps.has_put_same (qeo r).isMap (show WideAt.IsKeyLit (kl x) from trivial)];exact((qct _ _).2 Zd).symm
  . rw[show mpR (y :: r)=(mpR r).put (kl y) (.lit (.int .i64 (r.length:Int))) from rfl,Maps.has_put_other (fun hc=>h (kl_inj hc)),ih]
    unfold memB;rw[List.any_cons,Yg (fun e=>h e.symm),Bool.false_or]
theorem qe5 (r:List ByteArray):Maps.size (mpR r)<=r.length/\(Maps.size (mpR r)=r.length ↔ r.Nodup):=by
 induction r with
 | nil=>exact⟨nR _,by simp[mpR,Maps.size]⟩
 | cons x r ih =>
  rw[show mpR (x :: r)=(mpR r).put (kl x) (.lit (.int .i64 (r.length:Int))) from rfl,Maps.size_put (qeo r),qgf];rw[List.nodup_cons,Yl];by_cases h:x∈r
  . rw[Yn ((qct _ _).2 h)]
    exact⟨by omega,⟨fun hc=>by omega,fun hc=>absurd h hc.1⟩⟩
  . rw[Yi (by rw[qhe h];simp)]
    exact⟨by omega,⟨fun hc=>⟨h,ih.2.1 (by omega)⟩,fun hc=>by rw[ih.2.2 hc.2]⟩⟩
theorem has_mp (l:List ByteArray)(x:ByteArray):Maps.has (mp l) (kl x)=memB x l:=by
 unfold mp
 rw[qgf,Zj,qct,qct]
 simp
theorem qiu (l:List ByteArray):Maps.size (mp l)<=l.length/\(Maps.size (mp l)=l.length ↔ l.Nodup):=by
 unfold mp
 have h:=qe5 l.reverse
 rw[Zm]at h
 exact⟨h.1,h.2.trans ⟨fun x=>by simpa using (List.Perm.nodup_iff (List.reverse_perm l)).1 x,fun x=>(List.Perm.nodup_iff (List.reverse_perm l)).2 x⟩⟩
end Go.Proofs.YtfmammdgehbjhaaGreatDoor
namespace Go.Proofs.YtfmammdgehbjhaaGreatDoor
open Go Go.RowKit
def PMap (w:World)(b:Nat)(l:List ByteArray):Prop:=w.ownsMap Tryz.prog 9 (plainElem (H:=Unit) Tryz.prog 3) b l.length (mp l)
theorem PMap.mono {w w':World}{b:Nat}{l:List ByteArray}(h:PMap w b l)(hb:Below w.heap.size w w'):PMap w' b l:=by
 have hlt:=World.ownsMap.lt h
 obtain⟨es,clock,h1,F,hs,hD⟩:=h
 exact⟨es,clock,(hb.block b hlt).trans h1,F,hs,hD⟩
theorem wf_nat {k:Nat}(h:k<=9223372036854775807):(Lit.int .i64 (k:Int)).wf=true:=by
 unfold Lit.wf
 rw[Yo,Yj,Yj]
 have h1:IntKind.i64.min = -9223372036854775808:=by decide
 have h2:IntKind.i64.max=9223372036854775807:=by decide
 omega
theorem q3n (a:Option Addr)(c:Nat)(l:List ByteArray)(w:World)(hl:l.length<=1000000)(hs:∀x,x∈l->x.size<=9223372036854775807)(ha:Strs w a l) :
 Calls Tryz.prog 66 #[.slice a l.length c] w fun r w'=>r=.returned (.map (some w.heap.size))/\PMap w' w.heap.size l/\Below w.heap.size w w':=by
 have HA:=h_ ha;have HS:=h_ hs
 have HM:Hi ((w.alloc (.map #[] 0)).ownsMap Tryz.prog 9 (plainElem (H:=Unit) Tryz.prog 3) w.heap.size 0 (mp (l.take 0))):=h_ (World.ownsMap_made _ _ _ _)
 clear ha hs
 obtain⟨n,hn⟩:=Nq l.length
 rw[hn]at hl⊢
 have HN:=h_ hn
 clear hn
 have hmm:=@run_makeMap Tryz.prog
 go_enter Tryz.func66,Tryz.ntmps66
 go_wp2_with fail
 clear hmm
 go_loopw [9] (fun i wr=>∃k:Nat,k<=n/\i=Ya k/\wr.ownsMap Tryz.prog 9 (plainElem (H:=Unit) Tryz.prog 3) w.heap.size k (mp (l.take k))/\Below w.heap.size w wr) (fun i _=>n - (intOf i).toNat)
 case atStart=>exact⟨0,nZ _,rfl,HM.u,(bR _ _).alloc (nR _) _⟩
 case round =>
  clear HM;obtain⟨k,hk,rfl,hown,hb⟩:=hrel;have HO:=h_ hown;have HB:=h_ hb;have HAr:=h_ (HA.u.mono hb);clear hown hb;by_cases hlt:k<n
  . have hlt':(k:Int)<n:=by omega
    have hkl:k<l.length:=(by have:=HN.u;omega);obtain⟨b,o,rfl,-,z0⟩:=HAr.u k hkl;have HT:Hi (mp (l.take (k+1))=(mp (l.take k)).put (kl l[k]) (.lit (.int .i64 (k:Int)))):=h_ (by
     rw[Yq hkl,qho,Yu,Nat.min_eq_left (by omega)])
    have hkey:keyOf Tryz.prog 9 (.string l[k])=some (kl l[k]):=WideMaps.keyOf_string_mk Tryz.underlying9 (HS.u _ (Ys hkl));have HKy:=h_ hkey;clear hkey;generalize l[k]=x at *;go_wp2_with (at_mapUpdate;refine wpList_mapUpdate_own _ rfl _ _ _ 57 rfl 9 3 (Maps.string_keyed Tryz.underlying9) Tryz.underlying57 _ w.heap.size k _ rfl HO.u (by unfold maxLen;omega) _ _ _ rfl rfl HKy.u _ [] (plainElem_int Tryz.underlying3 (wf_nat (by omega))) ?_);intro w1 hown1 hgrow1;have HO1:Hi (w1.ownsMap Tryz.prog 9 (plainElem (H:=Unit) Tryz.prog 3) w.heap.size (k+1) (mp (l.take (k+1)))):=h_ (by rw[HT.u];exact hown1);have HB1:Hi (Below w.heap.size w w1):=h_ (HB.u.grown hgrow1 HB.u.size (fun j hj=>by cases hj;exact nR _));clear hown1 hgrow1;go_wp2_with fail;go_roundw
    case rel=>first | exact⟨k+1,by omega,by go_num,HO1.u,HB1.u⟩ | ((repeat apply Exists.intro);exact⟨⟨k+1,by omega,by go_num,HO1.u,HB1.u⟩,rfl⟩)
    case measure=>simp[intOf];omega
  . obtain rfl:k=n:=by omega
    have hlt':¬ (k:Int)<(k:Int):=(by omega);have HO2:Hi (PMap wr w.heap.size l):=h_ (by
     have h:=HO.u;have hn:=HN.u;rw[Za (by omega)]at h;unfold PMap;rw[hn];exact h)
    go_wp2_with fail;go_ret;exact⟨rfl,HO2.u,HB.u⟩
theorem q00 (a:Option Addr)(c:Nat)(l:List ByteArray)(w:World)(hl:l.length<=1000000)(hs:∀x,x∈l->x.size<=9223372036854775807)(ha:Strs w a l) :
 Calls Tryz.prog 61 #[.slice a l.length c] w fun r w'=>r=.returned (.bool (decide l.Nodup))/\Below w.heap.size w w':=by
 have HC:=h_ (q3n a c l w hl hs ha)
 have HS:=h_ (qiu l)
 clear ha hs
 obtain⟨n,hn⟩:=Nq l.length
 rw[hn]at hl HC HS⊢
 have HN:=h_ hn
 clear hn
 go_enter Tryz.func61,Tryz.ntmps61
 go_wp2_with fail
 refine HC.u.mono ?_
 rintro r W1 ⟨rfl,hm,hb⟩
 have HM:=h_ hm;have HB:=h_ hb
 clear hm hb
 obtain⟨q,hq⟩:=Nq (Maps.size (mp l))
 have hq1:=HS.u.1
 rw[hq]at hq1
 have HQ:Hi (decide l.Nodup=((q:Int)==(n:Int))):=h_ (by
  have h:=HS.u.2;rw[hq]at h;by_cases e:q=n
  . rw[Yh (h.1 e),e];simp
  . rw[Yg (fun c=>e (h.2 c))]
    exact(Ye.2 (by omega)).symm)
 go_wp2_with (at_len;refine wpList_len_own _ rfl _ 57 rfl 9 3 Tryz.underlying57 _ w.heap.size l.length (mp l) rfl HM.u ?_;rw[hq];clear hq)
 go_ret
 exact⟨qdx HQ.u.symm,HB.u⟩
def Asc:Nat->List Value->Nat->Prop
 | lo,[],hi=>lo<=hi
 | lo,v :: r,hi=>∃mid,(∀q,v.ownBlock=some q->lo<=q/\q<mid)/\lo<=mid/\Asc mid r hi
theorem Asc.le {l:List Value}{lo hi:Nat}(h:Asc lo l hi):lo<=hi:=by
 induction l generalizing lo with
 | nil=>exact h
 | cons v r ih =>
  obtain⟨mid,-,h1,h2⟩:=h;exact Yt h1 (ih h2)
theorem Asc.low {l:List Value}{lo lo' hi:Nat}(h:Asc lo l hi)(hl:lo'<=lo):Asc lo' l hi:=by
 cases l with
 | nil=>exact Yt hl h
 | cons v r =>
  obtain⟨mid,h0,h1,h2⟩:=h;exact⟨mid,fun q hq=>⟨Yt hl (h0 q hq).1,(h0 q hq).2⟩,Yt hl h1,h2⟩
theorem Asc.app {l l':List Value}{lo mid hi:Nat}(h:Asc lo l mid)(h':Asc mid l' hi):Asc lo (l++l') hi:=by
 induction l generalizing lo with
 | nil=>exact h'.low h
 | cons v r ih =>
  obtain⟨m1,h0,h1,h2⟩:=h;exact⟨m1,h0,h1,ih h2⟩
theorem Asc.up {l:List Value}{lo hi hi':Nat}(h:Asc lo l hi)(hh:hi<=hi'):Asc lo l hi':=by
 have:=h.app (l':=[]) (hi:=hi') hh
 rwa [Zi]at this
theorem Asc.one {w:World}{base e size n:Nat}{v:Value}{xs:List Value}(h:w.ownsRow base e size v n xs)(hb:base<=w.heap.size):Asc base [v] w.heap.size :=
 ⟨w.heap.size,fun _ hq=>qi2 h hq,hb,nR _⟩
def lbS (x:Sx):List ByteArray:=if x.kind=2 then [x.name,x.other] else if x.kind=3 then [x.other] else if x.kind=4/\x.auto=false then [x.other] else []
def nmS (x:Sx):ByteArray:=if x.kind=2 then ⟨#[]⟩ else x.name
def psA (k:Nat)(n:ByteArray)(t:Nat)(vl vr vi vh vv:Value)(sa:ByteArray)(vm:Value):Array Value:=#[.int .i64 (k:Nat),.string n,vl,vr,.string ⟨#[]⟩,.int .i64 (t:Nat),.int .i64 0,.slice none 0 0,vi,vh,vv,.string sa,vm]
def PsV (w:World)(base:Nat)(v:Value)(x:Sx):Prop:=∃vl vr vi vh vv vm,v=.agg (psA (x.kind - 1) (nmS x) x.typ vl vr vi vh vv x.u.sa vm)/\OwnS w base vl (lbS x)/\OwnS w base vr x.bys/\OwnN w base vi x.u.is/\OwnN w base vh x.u.wh/\OwnN w base vv x.u.va/\OwnN w base vm x.u.mu/\Asc base [vi,vh,vv,vm] w.heap.size
def StO (w0 w:World)(l:List ByteArray)(e:Ending)(w':World):Prop:=(∃x v,PrtS l x/\e=.returned v/\PsV w' w.heap.size v x/\Below w0.heap.size w0 w')∨((∀x,¬ PrtS l x)/\e=flt 3/\Below w0.heap.size w0 w')
def TyT (w:World):Prop:=1<w.heap.size/\∀k:Nat,1<=k->k<=3->w.cell? ⟨1,k,none⟩=some (.string (tyT k))
theorem TyT.mono {w w':World}(h:TyT w)(hb:Below w.heap.size w w'):TyT w':=⟨Y3 h.1 hb.size,fun k h1 h2=>(hb.cell h.1).trans (h.2 k h1 h2)⟩
theorem tyO_no {t:ByteArray}(h:∀j,1<=j->j<4->t≠tyT j):tyO t=0:=Yv fun hn=>by
 obtain⟨h1,h2,h3⟩:=tyO_t rfl hn
 exact h _ h1 (by omega) h3
theorem q27 {w0:World}{a:Option Addr}{c:Nat}{l:List ByteArray}{w:World}{i d:Nat}{v:Value}{ns:List Nx}(hi:i<=2000000)(hc:RC w0 a l)(hy:TyT w0)(h:Rdr w0 a c l w i d v ns) :
 Calls Tryz.prog 137 #[Yd w0.heap.size 0] w fun e w'=>(tyO (pk l i)≠0/\e=.returned (Ya ((tyO (pk l i):Nat):Int))/\Rdr w0 a c l w' (i+1) d v ns/\Kp w0.heap.size w w')∨(tyO (pk l i)=0/\e=flt 3/\Below w0.heap.size w0 w'):=by
 have HT:=h_ (qjc hi hc h)
 generalize pk l i=t at *
 have HY:=h_ hy
 clear hc h hy
 go_enter Tryz.func137,Tryz.ntmps137
 go_wp2_with fail
 refine HT.u.mono ?_
 rintro e W1 ⟨rfl,hr,hk⟩
 have H:=h_ hr;have HK:=h_ hk
 have HC:=h_ (HY.u.mono hr.bel)
 clear hr hk HT HY
 go_wp2_with fail
 go_loopw [4] (fun q wr=>∃k:Nat,1<=k/\k<=4/\q=Ya k/\(∀j,1<=j->j<k->t≠tyT j)/\wr=W1) (fun q _=>4 - (intOf q).toNat)
 case atStart=>exact⟨1,nR _,by omega,rfl,fun j h1 h2=>by omega,rfl⟩
 case round =>
  obtain⟨k,h1,h4,rfl,hno,hwr⟩:=hrel;subst hwr;have HN:=h_ hno;clear hno;by_cases h3:k<=3
  . have h3':(k:Int)<=3:=by omega
    have hk0:(0:Int)<=(k:Int):=(by omega);have hk4:(k:Int)<4:=(by omega);have c0:=HC.u.2 k h1 h3;have he:=eqT (tyT k) t;by_cases hq:tyT k=t
    . rw[Yh hq]at he
      have HO:Hi (tyO t=k):=h_ (by rw[<- hq];exact tyO_at h1 h3);generalize tyT k=u at *;clear hq;go_wp2_with fail;go_ret;exact .inl ⟨by rw[HO.u];omega,by rw[HO.u];rfl,H.u,HK.u⟩
    . rw[Yg hq]at he
      have HN2:Hi (∀j,1<=j->j<k+1->t≠tyT j):=h_ fun j g1 g2 e=>by
       by_cases ej:j=k
       . subst ej;exact hq e.symm
       . exact HN.u j g1 (by omega) e
      generalize tyT k=u at *;clear hq;go_wp2_with fail;go_roundw
      case rel=>exact⟨k+1,by omega,by omega,by go_num,HN2.u,by first | rfl | trivial⟩
      case measure=>simp[intOf];omega
  . obtain rfl:k=4:=by omega
    have HO:=h_ (tyO_no HN.u);go_wp2_with fail;exact⟨rfl,.inr ⟨HO.u,rfl,H.u.bel⟩⟩
def SxV (w:World)(base:Nat)(v:Value)(x:Sx):Prop:=∃vb vi vh vv vm,v=.agg #[.int .i64 (x.kind:Nat),.string x.name,.string x.other,.bool x.auto,.int .i64 (x.typ:Nat),vb,vi,vh,vv,.string x.u.sa,vm] /\
 OwnS w base vb x.bys/\OwnN w base vi x.u.is/\OwnN w base vh x.u.wh/\OwnN w base vv x.u.va/\OwnN w base vm x.u.mu
def nil44:List Value:=[.int .i64 0,.string ⟨#[]⟩,.string ⟨#[]⟩,.bool false,.int .i64 0,.slice none 0 0,.slice none 0 0,.slice none 0 0,.slice none 0 0,.string ⟨#[]⟩,.slice none 0 0]
def StmO (w:World)(T:List ByteArray)(r:Ending)(w':World):Prop:=∃v,r=.returned v/\Below w.heap.size w w'/\((∃x,StG T x/\SxV w' w.heap.size v x)∨((∀x,¬ StG T x)/\v=.agg nil44.toArray))
theorem pk_tok {w:World}{a:Option Addr}{T:List ByteArray}(h:Tks w a T){k:Nat}(hk:k<T.length):∃b o p,a=some ⟨b,o,none⟩/\TCel w b (o+k*3) (pk T k) p:=by
 rw[pk_lt hk];exact h k hk
theorem Blk.rowS {w:World}{g:Nat}{t:TypeId}{cs:List Value}(h:Blk w g t cs)(cells:List Value):Blk (w.setRow g cells.toArray) g t cells:=setRow_heap w g cs.toArray cells.toArray t (0,0) h
theorem stR {ops:Array Oper}{rest:List Oper}{o:Oper}{a:Act}{w:World}{Q:Exit->Act->World->Prop}{ty:TypeId}{x y:Operand}{g:Nat}{cells:Array Value}{t:TypeId}{old:List Value}(hB:Blk w g t old)(h:wpList Tryz.prog ops Q rest (a.put o.dst undef) (w.setRow g cells))(hgd:o.guard=none:=by exact rfl)(ho:o.op=.store ty x y:=by exact rfl)(hx:a.eval x=Yd g 0:=by exact rfl)(hy:a.eval y=.agg cells:=by exact rfl)(hi:(Tryz.prog.info? ty).map (·.size)=some cells.size:=by kernel_rfl)(hold:old.length=cells.size:=by exact rfl)(h1:cells.all (·.oneCell')=true:=by simp [Value.oneCell']) : wpList Tryz.prog ops Q (o::rest) a w:=
 wpList_store_row hgd ty x y ho g cells hx hy t old.toArray hB hi hold h1 h
theorem Blk.rowS_other {w:World}{g g':Nat}{t:TypeId}{cs:List Value}(h:Blk w g' t cs)(hne:g'≠g)(cells:Array Value):Blk (w.setRow g cells) g' t cs:=(setRow_other w g g' cells hne).trans h
theorem q8i {B:Nat}{w W:World}(h:Below B w W){g:Nat}(hg:B<=g)(cells:Array Value):Below B w (W.setRow g cells) :=
 ⟨h.os,h.tape,h.output,by simp[World.setRow];exact h.size,fun b hb=>(setRow_other W g b cells (by omega)).trans (h.block b hb)⟩
theorem q4k {o:Oper}{a:Act}{w:World}(t:TypeId)(parts:Array (Nat × Operand))(ho:o.op=.build t parts)(cells:Array Value)(hc:Tryz.prog.built t (parts.map fun (i,x)=>(i,a.eval x)).toList=some cells):(execOp a.eval o).run Tryz.prog w=.ok (.value (.agg cells)) w:=by
 unfold execOp
 simp only[ho,Sem.run_bind,run_build w t _ cells hc,Result.andThen_ok]
 rfl
theorem q0p {o:Oper}{a:Act}{w:World}(ty:TypeId)(x y:Operand)(ho:o.op=.store ty x y)(g:Nat)(cells:Array Value)(hx:a.eval x=Yd g 0)(hy:a.eval y=.agg cells)(t:TypeId)(old:Array Value)(hg:w.heap[g]? = some (.cells old t (0,0)))(hi:(Tryz.prog.info? ty).map (·.size)=some cells.size)(hold:old.size=cells.size)(h1:cells.all (·.oneCell')=true):(execOp a.eval o).run Tryz.prog w=.ok .skip (w.setRow g cells):=by
 unfold execOp
 simp only[ho,hx,hy,Instr.storeAt,Instr.sureAddr,Sem.run_bind,Sem.run_pure,Result.andThen_ok,run_storeVar_row w g t ty old cells hg hi hold h1]
theorem eleven {w:World}{b:Nat}{t:TypeId}{v0 v1 v2 v3 v4 v5 v6 v7 v8 v9 v10:Value}(h:Blk w b t [v0,v1,v2,v3,v4,v5,v6,v7,v8,v9,v10]):(w.cell? ⟨b,0,none⟩=some v0/\w.cell? ⟨b,1,none⟩=some v1/\w.cell? ⟨b,2,none⟩=some v2/\w.cell? ⟨b,3,none⟩=some v3/\w.cell? ⟨b,4,none⟩=some v4/\w.cell? ⟨b,5,none⟩=some v5)/\(w.cell? ⟨b,6,none⟩=some v6/\w.cell? ⟨b,7,none⟩=some v7/\w.cell? ⟨b,8,none⟩=some v8/\w.cell? ⟨b,9,none⟩=some v9/\w.cell? ⟨b,10,none⟩=some v10) :=
 ⟨⟨h.cell 0,h.cell 1,h.cell 2,h.cell 3,h.cell 4,h.cell 5⟩,h.cell 6,h.cell 7,h.cell 8,h.cell 9,h.cell 10⟩
theorem qde (w:World)(base:Nat):OwnS w base Yb []:=⟨rfl,.inl ⟨rfl,rfl⟩⟩
theorem qdc (w:World)(base:Nat):OwnN w base Yb []:=⟨rfl,.inl ⟨rfl,rfl⟩⟩
theorem qas (w:World)(base:Nat)(k:Nat)(n m:ByteArray):SxV w base (.agg #[Ya (k:Nat),.string n,.string m,.bool false,Ya 0,Yb,Yb,Yb,Yb,Yc,Yb]) ⟨k,n,m,false,0,[],ru0⟩:=
 ⟨_,_,_,_,_,rfl,qde _ _,qdc _ _,qdc _ _,qdc _ _,qdc _ _⟩
theorem qef {w w':World}{base:Nat}{v:Value}{x:Sx}(h:SxV w base v x)(hb:Below w.heap.size w w'):SxV w' base v x:=by
 obtain⟨a,b,c,d,e,h0,h1,h2,h3,h4,h5⟩:=h
 exact⟨a,b,c,d,e,h0,h1.keep hb,h2.keep hb,h3.keep hb,h4.keep hb,h5.keep hb⟩
theorem qj5 {x s:ByteArray}(h:StrT x s):cls x=3/\s=txt x:=by
 obtain⟨h1,h2,h3⟩:=h
 have e3:⟨#[34]⟩++mid x++⟨#[34]⟩=x/\(rv x).2.2.1=mid x:=by
  unfold rv at h1 h2⊢;split at h2
  . cases h2
  . split at h2
    . cases h2
    . split at h2
      . cases h2
      . split at h2
        . cases h2
        . split at h2
          . rename_i n1 n2 n3 _ hq hc
            rw[Yi n1,Yi n2,Yi n3,Yn hc];exact⟨hc.2.2,rfl⟩
          . cases h2
 have hb:bt x 0=34:=by
  have:=congrArg (fun x:ByteArray=>x.data.toList) e3.1;simp only[Zu,Vq]at this;exact bt0 this.symm
 have hc:cls x=3:=by
  unfold cls;rw[hb]
  decide
 refine⟨hc,?_⟩
 unfold txt
 rw[Yn hc,h3,e3.2]
theorem qfz {x:ByteArray}(hv:VT x)(h:cls x=3):StrT x (txt x):=by
 have:=(rv_txt h (hv.c3 h)).1
 unfold StrT txt
 rw[this,Yn h]
 exact⟨rfl,rfl,rfl⟩
theorem ExG.uniq {E:List ByteArray}{e e':List Nx}(h:ExG E e)(h':ExG E e'):e=e':=h.1.uniq tkX_ok h'.1
theorem CmpG.low {r:Nat}{u u':Ru}{t:ByteArray}{s:List ByteArray}(h:CmpG r u (t :: s) u'):r<rk t:=by
 cases h with
 | says=>rw[rk_t.2.2.2.1];omega
 | rule h1=>exact h1
theorem CmpG.ord {r:Nat}{u u':Ru}{t:ByteArray}{s:List ByteArray}(h:CmpG r u (t :: s) u'):rk t=4 ↔ r=3:=by
 cases h with
 | says=>rw[rk_t.2.2.2.1];omega
 | rule h1 h2 h3=>exact⟨fun h=>absurd h h3,fun h=>absurd h h2⟩
theorem qbp {u u':Ru}{t:ByteArray}{E R:List ByteArray}(ht:rk t=4)(hE:∀x,x∈E->rk x=0)(hR:Hdr R):CmpG 3 u (t :: (E++R)) u' ↔ ∃x s,E=[x]/\StrT x s/\CmpG 4 { u with sa:=s } R u':=by
 constructor
 . intro h
   rcases h.head hE hR with ⟨-,-,h⟩ | ⟨h,-⟩
   . exact h
   . exact absurd rfl h
 . rintro⟨x,s,rfl,h1,h2⟩
   rcases qil ht (by omega) with ⟨e,-⟩ | ⟨e,-⟩ | ⟨e,-⟩ | ⟨-,rfl⟩ | ⟨e,-⟩
   . omega
   . omega
   . omega
   . exact .says h1 (str_rk h1) hR h2
   . omega
theorem qbo {r:Nat}{u u':Ru}{t:ByteArray}{E R:List ByteArray}(hr:r≠3)(h1:r<rk t)(h4:rk t≠4)(hE:∀x,x∈E->rk x=0)(hR:Hdr R):CmpG r u (t :: (E++R)) u' ↔ ∃e,ExG E e/\CmpG (rk t) (u.put (rk t) e) R u':=by
 constructor
 . intro h
   rcases h.head hE hR with ⟨h,-⟩ | ⟨-,-,-,h⟩
   . exact absurd h hr
   . exact h
 . rintro⟨e,h5,h6⟩
   exact .rule h1 hr h4 h5 hR h6
theorem cut_at {T:List ByteArray}{a B e:Nat}(ha:a<T.length)(hB:a+1=B)(hBe:B<=e):T.drop a=pk T a :: ((T.take e).drop B++T.drop e):=by
 have h1:T.drop a=pk T a :: T.drop (a+1):=by rw[pk_lt ha];exact Y8 ha
 rw[h1,hB]
 congr 1
 have:T.drop B=(T.take e++T.drop e).drop B:=by rw[Z9]
 rw[this]
 by_cases he:e<=T.length
 . rw[Vu (by rw[Yu];omega)]
 . rw[Ob (by omega:T.length<=e),Za (by omega),Zi,Zi]
theorem qg2 {T:List ByteArray}{B e:Nat}{P:ByteArray->Prop}(h:∀k,B<=k->k<e->k<T.length->P (pk T k)):∀x,x∈(T.take e).drop B->P x:=fun x hx=>by
 obtain⟨k,hk,rfl⟩:=Zo.1 hx
 rw[Vc,Yu]at hk
 rw[Vf,Ve]
 have:=h (B+k) (by omega) (by omega) (by omega)
 rwa [pk_lt (by omega)]at this
theorem hdr_at {T:List ByteArray}{e:Nat}(h:e<T.length->rk (pk T e)≠0):Hdr (T.drop e):=fun t s he=>by
 by_cases hl:e<T.length
 . rw[pk_lt hl]at h
   rw[Y8 hl]at he;injection he with e1 _
   rw[<- e1];exact h hl
 . rw[Ob (by omega)]at he
   cases he
theorem qdk {w:World}{base e size n:Nat}{v:Value}{xs:List Value}(h:w.ownsRow base e size v n xs){p:Addr}(hp:p.block<base)(x:Value):(w.setCell p x).ownsRow base e size v n xs:=by
 refine⟨h.1,?_⟩
 rcases h.2 with h2 | ⟨g,cap,cur,h1,hg,hq,r⟩
 . exact .inl h2
 . exact .inr ⟨g,cap,cur,h1,hg,(heap_setCell_other w p g x (by omega)).trans hq,r⟩
theorem OwnN.setB {w:World}{base:Nat}{v:Value}{l:List Nx}(h:OwnN w base v l){p:Addr}(hp:p.block<base)(x:Value):OwnN (w.setCell p x) base v l:=qdk h hp x
theorem OwnS.setB {w:World}{base:Nat}{v:Value}{l:List ByteArray}(h:OwnS w base v l){p:Addr}(hp:p.block<base)(x:Value):OwnS (w.setCell p x) base v l:=qdk h hp x
theorem OwnS.low {w:World}{base base':Nat}{v:Value}{l:List ByteArray}(h:OwnS w base v l)(hb:base'<=base):OwnS w base' v l:=by
 refine⟨h.1,?_⟩
 rcases h.2 with h2 | ⟨g,cap,cur,h1,hg,r⟩
 . exact .inl h2
 . exact .inr ⟨g,cap,cur,h1,Yt hb hg,r⟩
end Go.Proofs.YtfmammdgehbjhaaGreatDoor
