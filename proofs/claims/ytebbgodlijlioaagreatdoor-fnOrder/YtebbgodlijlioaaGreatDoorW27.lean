import Derived.Test.YtebbgodlijlioaaGreatDoorW16
import Derived.Test.YtebbgodlijlioaaGreatDoorW23
import Derived.Test.YtebbgodlijlioaaGreatDoorW19
import Derived.Test.YtebbgodlijlioaaGreatDoorW20
import Derived.Maps.Views
set_option maxRecDepth 100000
set_option maxHeartbeats 64000000
namespace Go.Proofs.YtebbgodlijlioaaGreatDoor
open Go
def noFd:Fl:=⟨⟨#[]⟩,0,0,[],[],[],[],⟨#[]⟩,[]⟩
def fAt (m:Fm)(k:Nat):Fl:=m.F.getD k noFd
theorem qif {m:Fm}{k:Nat}(h:k<m.F.length):fAt m k=m.F[k]:=by unfold fAt;rw[Yl,Yi h];rfl
def rdsN (l:List Nx)(x:ByteArray):Bool:=l.any fun n=>decide (n.op=1)&&decide (n.nm=x)
def fedB (m:Fm)(j k:Nat):Bool:=rdsN (fAt m k).is (fAt m j).nm||rdsN (fAt m k).wh (fAt m j).nm
def watB (m:Fm)(j k:Nat):Bool:=rdsN (fAt m k).va (fAt m j).nm||rdsN (fAt m k).mu (fAt m j).nm
def anyR (m:Fm)(j k:Nat):Bool:=fedB m j k||watB m j k
def rdyB (m:Fm)(D:List Nat)(k:Nat):Bool:=!decide (k∈D)&&(List.range m.F.length).all fun j=>!fedB m j k||decide (j∈D)
def nxt (m:Fm)(D:List Nat):Option Nat:=(List.range m.F.length).find? (rdyB m D)
def ordL (m:Fm):Nat->List Nat
 | 0=>[]
 | i+1=>match nxt m (ordL m i) with
  | some k=>ordL m i++[k]
  | none=>ordL m i
def calcL (m:Fm):List Nat:=if (ordL m m.F.length).length=m.F.length then ordL m m.F.length else []
theorem qfc {m:Fm}{D:List Nat}{k:Nat}(h:nxt m D=some k):k<m.F.length/\rdyB m D k=true/\∀j,j<k->rdyB m D j=false:=by
 unfold nxt at h
 rw[List.find?_eq_some_iff_getElem]at h
 obtain⟨h1,i,hi,e,h2⟩:=h
 rw[List.getElem_range]at e
 subst e
 rw[Od]at hi
 refine⟨hi,h1,fun j hj=>?_⟩
 have:=h2 j hj
 rw[List.getElem_range]at this
 simpa using this
theorem qfb {m:Fm}{D:List Nat}(h:nxt m D=none):∀j,j<m.F.length->rdyB m D j=false:=by
 intro j hj
 unfold nxt at h
 have:=List.find?_eq_none.1 h j (Y3.2 hj)
 simpa using this
theorem nxt_of {m:Fm}{D:List Nat}{k:Nat}(hk:k<m.F.length)(h1:rdyB m D k=true)(h2:∀j,j<k->rdyB m D j=false):nxt m D=some k:=by
 cases e:nxt m D with
 | none=>have:=qfb e k hk;rw[h1]at this;cases this
 | some i =>
  obtain⟨hi,g1,g2⟩:=qfc e;have:i=k:=by
   rcases Nat.lt_trichotomy i k with h | h | h
   . have:=h2 i h;rw[g1]at this;cases this
   . exact h
   . have:=g2 k h;rw[h1]at this;cases this
  rw[this]
theorem q5w {m:Fm}{D:List Nat}(h:∀j,j<m.F.length->rdyB m D j=false):nxt m D=none:=by
 cases e:nxt m D with
 | none=>rfl
 | some i=>obtain⟨hi,g1,-⟩:=qfc e;rw[h i hi]at g1;cases g1
theorem qbp {m:Fm}{i k:Nat}(h:nxt m (ordL m i)=some k):ordL m (i+1)=ordL m i++[k]:=by
 show(match nxt m (ordL m i) with | some k=>ordL m i++[k] | none=>ordL m i)=_
 rw[h]
theorem qbo {m:Fm}{i:Nat}(h:nxt m (ordL m i)=none):ordL m (i+1)=ordL m i:=by
 show(match nxt m (ordL m i) with | some k=>ordL m i++[k] | none=>ordL m i)=_
 rw[h]
theorem qki (m:Fm)(i:Nat):∀k,k∈ordL m i->k<m.F.length:=by
 induction i with
 | zero=>intro k hk;cases hk
 | succ i ih =>
  cases h:nxt m (ordL m i) with
  | none=>rw[qbo h];exact ih
  | some j =>
   rw[qbp h];intro k hk;rcases Zb.1 hk with hk | hk
   . exact ih k hk
   . rw[Yw.1 hk];exact(qfc h).1
theorem q8o (m:Fm)(i:Nat):(ordL m i).Nodup:=by
 induction i with
 | zero=>exact List.nodup_nil
 | succ i ih =>
  cases h:nxt m (ordL m i) with
  | none=>rw[qbo h];exact ih
  | some j =>
   rw[qbp h,List.nodup_append];refine⟨ih,(by simp),fun a ha b hb e=>?_⟩;rw[Yw.1 hb]at e;subst e;have:=(qfc h).2.1;unfold rdyB at this;rw[Ym ha]at this;simp at this
theorem qfe (m:Fm)(i:Nat):(ordL m i).length<=i:=by
 induction i with
 | zero=>exact nR _
 | succ i ih =>
  cases h:nxt m (ordL m i) with
  | none=>rw[qbo h];omega
  | some j=>rw[qbp h,Yg];simp;exact ih
theorem q8p {m:Fm}{i:Nat}(h:nxt m (ordL m i)=none):∀d,ordL m (i+d)=ordL m i:=by
 intro d
 induction d with
 | zero=>rfl
 | succ d ih =>
  have:nxt m (ordL m (i+d))=none:=by rw[ih];exact h
  exact(qbo this).trans ih
theorem q4p {m:Fm}{i:Nat}(hi:i<m.F.length)(h:nxt m (ordL m i)=none):calcL m=[]:=by
 unfold calcL
 rw[Yt]
 have e:=q8p h (m.F.length - i)
 rw[show i+(m.F.length - i)=m.F.length by omega]at e
 rw[e]
 have:=qfe m i
 omega
theorem q6w {m:Fm}(h:(ordL m m.F.length).length=m.F.length):calcL m=ordL m m.F.length:=by
 unfold calcL
 rw[Yz h]
theorem at_mpR (r:List ByteArray)(hn:r.Nodup)(z:DataW Unit):∀k (hk:k<r.length),(mpR r).atKey (kl r[k]) z=.lit (.int .i64 ((r.length - 1 - k:Nat):Int)):=by
 induction r with
 | nil=>intro k hk;cases hk
 | cons x r ih =>
  intro k hk;rw[Oa]at hn;rw[show mpR (x :: r)=(mpR r).put (kl x) (.lit (.int .i64 (r.length:Int))) from rfl];cases k with
  | zero =>
   rw[Vz,Maps.atKey_put_same (qgy r).isMap (show WideAt.IsKeyLit (kl x) from trivial)];simp
  | succ k =>
   have hk':k<r.length:=by simpa using hk
   rw[List.getElem_cons_succ,Maps.atKey_put_other (fun e=>hn.1 (by rw[<- kl_inj e];exact Yk hk')),ih hn.2 k hk'];simp only[Ys]
   congr 3
   omega
theorem at_mp (l:List ByteArray)(hn:l.Nodup)(z:DataW Unit)(k:Nat)(hk:k<l.length):(mp l).atKey (kl l[k]) z=.lit (.int .i64 (k:Int)):=by
 unfold mp
 have hr:l.reverse.Nodup:=(List.Perm.nodup_iff (List.reverse_perm l)).2 hn
 have h:=at_mpR l.reverse hr z (l.length - 1 - k) (by rw[Y8];omega)
 have e:l.reverse[l.length - 1 - k]'(by rw[Y8];omega)=l[k]:=by
  rw[List.getElem_reverse]
  congr 1
  omega
 rw[e,Y8]at h
 rw[h]
 congr 3
 omega
def fIdx (names:List ByteArray)(x:ByteArray):Nat:=names.findIdx fun y=>decide (y=x)
theorem qig {names:List ByteArray}{x:ByteArray}(h:x∈names):fIdx names x<names.length:=List.findIdx_lt_length.2 ⟨x,h,by simp⟩
theorem qds {names:List ByteArray}{x:ByteArray}(h:x∈names):names[fIdx names x]'(qig h)=x:=by
 have:=List.findIdx_getElem (xs:=names) (p:=fun y=>decide (y=x)) (w:=qig h)
 exact Zg this
theorem qih {names:List ByteArray}(hn:names.Nodup){j:Nat}(hj:j<names.length):fIdx names names[j]=j:=by
 have hm:names[j]∈names:=Yk hj
 have h1:=qds hm
 have h2:=qig hm
 rcases Nat.lt_trichotomy (fIdx names names[j]) j with h | h | h
 . exact absurd h1 (Zq.1 hn _ _ h2 hj h)
 . exact h
 . exact absurd h1.symm (Zq.1 hn _ _ hj h2 h)
def rdL (names:List ByteArray)(l:List Nx):List Nat:=(l.filter fun n=>decide (n.op=1)).map fun n=>fIdx names n.nm
theorem qb4 {names:List ByteArray}{l:List Nx}(h:knows names l=true){n:Nx}(hn:n∈l)(h1:n.op=1):n.nm∈names:=by
 unfold knows at h
 have:=Y2.1 h n hn
 rw[Ym h1]at this
 exact(qez _ _).1 (by simpa using this)
theorem rdL_lt {names:List ByteArray}{l:List Nx}(h:knows names l=true):∀j,j∈rdL names l->j<names.length:=by
 intro j hj
 unfold rdL at hj
 obtain⟨n,hn,rfl⟩:=Zc.1 hj
 rw[Or,Yp]at hn
 exact qig (qb4 h hn.1 hn.2)
theorem qk5 {names:List ByteArray}{l:List Nx}(hn:names.Nodup)(h:knows names l=true){j:Nat}(hj:j<names.length):j∈rdL names l ↔ rdsN l names[j]=true:=by
 unfold rdL rdsN
 rw[Ol]
 constructor
 . intro hx
   obtain⟨n,hn',rfl⟩:=Zc.1 hx;rw[Or,Yp]at hn';exact⟨n,hn'.1,by rw[Ym hn'.2,Ym (qds (qb4 h hn'.1 hn'.2)).symm];rfl⟩
 . rintro⟨n,hm,e⟩
   rw[Yn,Yp,Yp]at e;exact Zc.2 ⟨n,Or.2 ⟨hm,Ym e.1⟩,by rw[e.2];exact qih hn hj⟩
def fedL (m:Fm)(k:Nat):List Nat:=rdL (fNames m) (fAt m k).is++rdL (fNames m) (fAt m k).wh
theorem VfA.nod {m:Fm}(h:VfA m):(fNames m).Nodup:=by
 have:=h.f
 unfold namesOk at this
 rw[Yn,Yp]at this
 exact this.2
theorem q79 (m:Fm):(fNames m).length=m.F.length:=by simp[fNames]
theorem q78 {m:Fm}{j:Nat}(hj:j<m.F.length):(fNames m)[j]'(by rw[q79];exact hj)=(fAt m j).nm:=by rw[qif hj];simp[fNames]
theorem VfA.knw {m:Fm}(h:VfA m){k:Nat}(hk:k<m.F.length):knows (fNames m) (fAt m k).is=true/\knows (fNames m) (fAt m k).wh=true/\knows (fNames m) (fAt m k).va=true/\knows (fNames m) (fAt m k).mu=true:=by
 have:=h.kn _ (Yk hk)
 rw[qif hk]
 unfold fieldKnows at this
 simp only[Yn]at this
 exact⟨this.1.1.1,this.1.1.2,this.1.2,this.2⟩
theorem qil {m:Fm}(h:VfA m){k:Nat}(hk:k<m.F.length):∀j,j∈fedL m k->j<m.F.length:=by
 intro j hj
 rw[<- q79 m]
 rcases Zb.1 hj with hj | hj
 . exact rdL_lt (h.knw hk).1 j hj
 . exact rdL_lt (h.knw hk).2.1 j hj
theorem qf0 {m:Fm}(h:VfA m){j k:Nat}(hj:j<m.F.length)(hk:k<m.F.length):j∈fedL m k ↔ fedB m j k=true:=by
 have hj':j<(fNames m).length:=by rw[q79];exact hj
 unfold fedL fedB
 rw[Zb,Zu,qk5 h.nod (h.knw hk).1 hj',qk5 h.nod (h.knw hk).2.1 hj',q78 hj]
theorem q5y (m:Fm)(i:Nat):∀k,k∈ordL m i->∀j,j<m.F.length->fedB m j k=true->j∈ordL m i:=by
 induction i with
 | zero=>intro k hk;cases hk
 | succ i ih =>
  cases h:nxt m (ordL m i) with
  | none=>rw[qbo h];exact ih
  | some x =>
   rw[qbp h];intro k hk j hj hf;rcases Zb.1 hk with hk | hk
   . exact List.mem_append_left _ (ih k hk j hj hf)
   . rw[Yw.1 hk]at hf
     have hr:=(qfc h).2.1;unfold rdyB at hr;rw[Yn,Y2]at hr;have:=hr.2 j (Y3.2 hj);rw[hf]at this;exact List.mem_append_left _ (by simpa using this)
def waitZ (m:Fm)(D:List Nat)(k:Nat):Int:=((fedL m k).filter fun j=>!decide (j∈D)).length - (if k∈D then 1 else 0)
theorem qd6 {m:Fm}(h:VfA m)(i:Nat){k:Nat}(hk:k<m.F.length):waitZ m (ordL m i) k=0 ↔ rdyB m (ordL m i) k=true:=by
 unfold waitZ rdyB
 have h0:((fedL m k).filter fun j=>!decide (j∈ordL m i)).length=0 ↔ ∀j,j<m.F.length->fedB m j k=true->j∈ordL m i:=by
  rw[Z7,List.filter_eq_nil_iff];constructor
  . intro hx j hj hf
    have:=hx j ((qf0 h hj hk).2 hf);simpa using this
  . intro hx j hj
    have hj':=qil h hk j hj;simp[hx j hj' ((qf0 h hj' hk).1 hj)]
 have h1:((List.range m.F.length).all fun j=>!fedB m j k||decide (j∈ordL m i))=true ↔ ∀j,j<m.F.length->fedB m j k=true->j∈ordL m i:=by
  rw[Y2];constructor
  . intro hx j hj hf
    have:=hx j (Y3.2 hj);rw[hf]at this;simpa using this
  . intro hx j hj
    cases hf:fedB m j k
    . rfl
    . simp[hx j (List.mem_range.1 hj) hf]
 by_cases hm:k∈ordL m i
 . rw[Yz hm,Ym hm,h0.2 (q5y m i k hm)]
   simp
 . rw[Yt hm,Yj hm]
   rw[show((((fedL m k).filter fun j=>!decide (j∈ordL m i)).length:Int) - 0=0) ↔ ((fedL m k).filter fun j=>!decide (j∈ordL m i)).length=0 by omega,h0];simp only[Bool.not_false,Ze];exact h1.symm
theorem q4z (l D:List Nat)(x:Nat)(hx:x ∉ D):(l.filter fun j=>!decide (j∈D++[x])).length+l.count x=(l.filter fun j=>!decide (j∈D)).length:=by
 induction l with
 | nil=>rfl
 | cons y l ih =>
  by_cases e:y=x
  . subst e
    have h1:decide (y∈D++[y])=true:=(by simp);have h2:decide (y∈D)=false:=Yj hx;simp only[List.filter_cons,h1,h2,List.count_cons_self];simp only[Bool.not_true,Bool.not_false,if_true];simp only[Bool.false_eq_true,if_false,Ys];omega
  . have h3:decide (y∈D++[x])=decide (y∈D):=decide_eq_decide.2 (by simp[e])
    simp only[List.filter_cons,h3];rw[List.count_cons_of_ne e];split
    . simp only[Ys];omega
    . exact ih
theorem qd5 (m:Fm)(D:List Nat)(x:Nat)(hx:x ∉ D)(k:Nat):waitZ m (D++[x]) k=waitZ m D k - (fedL m k).count x - (if k=x then 1 else 0):=by
 unfold waitZ
 have h:=q4z (fedL m k) D x hx
 by_cases e:k=x
 . subst e
   rw[Yz (by simp),Yt hx,Yz rfl];omega
 . rw[Yt e]
   by_cases hm:k∈D
   . rw[Yz (by simp[hm]),Yz hm];omega
   . rw[Yt (by simp[hm,e]),Yt hm];omega
theorem q9g (m:Fm)(k:Nat):waitZ m [] k=(fedL m k).length:=by
 unfold waitZ
 rw[show(fedL m k).filter (fun j=>!decide (j∈([]:List Nat)))=fedL m k from List.filter_eq_self.2 (fun _ _=>by simp)]
 simp
def fedT (m:Fm)(k j:Nat):List Nat:=(List.range k).flatMap fun i=>List.replicate ((fedL m i).count j) i
theorem qam (m:Fm)(j:Nat):fedT m 0 j=[]:=rfl
theorem qal (m:Fm)(k j:Nat):fedT m (k+1) j=fedT m k j++List.replicate ((fedL m k).count j) k:=by
 unfold fedT
 rw[Za,Zp]
 simp
theorem qim (m:Fm)(k j:Nat):∀i,i∈fedT m k j->i<k:=by
 intro i hi
 unfold fedT at hi
 obtain⟨x,hx,h⟩:=Vn.1 hi
 rw[(List.mem_replicate.1 h).2]
 exact Y3.1 hx
theorem q7a (m:Fm)(j i:Nat):∀k,(fedT m k j).count i=if i<k then (fedL m i).count j else 0:=by
 intro k
 induction k with
 | zero=>rfl
 | succ k ih =>
  rw[qal,List.count_append,ih,List.count_replicate];by_cases h:i<k
  . have hk:(k==i)=false:=Yf.2 (by omega)
    rw[Yz h,Yz (show i<k+1 by omega),hk];simp
  . by_cases e:i=k
    . subst e
      rw[Yt h,Yz (show i<i+1 by omega)];simp
    . have hk:(k==i)=false:=Yf.2 (by omega)
      rw[Yt h,Yt (show ¬ i<k+1 by omega),hk];simp
theorem qgs (l:List Nat)(h:∀x,x∈l->x=0):l.sum=0:=by
 induction l with
 | nil=>rfl
 | cons x l ih=>rw[Oc,h x Zd,ih fun y hy=>h y (Zl _ hy)]
theorem qcp (n:Nat)(l:List Nat)(h:∀x,x∈l->x<n):((List.range n).map fun j=>l.count j).sum=l.length:=by
 induction l with
 | nil =>
  refine qgs _ fun y hy=>?_;obtain⟨j,-,rfl⟩:=Zc.1 hy;rfl
 | cons x l ih =>
  have hx:=h x Zd;have ih':=ih fun y hy=>h y (Zl _ hy);have e:((List.range n).map fun j=>(x :: l).count j).sum=((List.range n).map fun j=>l.count j).sum+((List.range n).map fun j=>if j=x then 1 else 0).sum:=by
   clear ih ih' h hx
   induction n with
   | zero=>rfl
   | succ n ihn =>
    rw[Za];simp only[Zf,V9,Zo,Vi,Oc,O0,Zr];rw[ihn,List.count_cons];have:(if (x==n)=true then 1 else 0)=if n=x then 1 else 0:=by
     by_cases e:n=x
     . subst e;simp
     . rw[Yt e,Yt (by simp;omega)]
    rw[this];omega
  have e2:((List.range n).map fun j=>if j=x then 1 else 0).sum=1:=by
   clear e ih ih' h
   induction n with
   | zero=>omega
   | succ n ihn =>
    rw[Za];simp only[Zf,V9,Zo,Vi,Oc,O0,Zr];by_cases e:n=x
    . subst e
      rw[Yz rfl];have:((List.range n).map fun j=>if j=n then 1 else 0).sum=0:=by
       refine qgs _ fun y hy=>?_;obtain⟨j,hj,rfl⟩:=Zc.1 hy;rw[Yt (by have:=Y3.1 hj;omega)]
      omega
    . rw[Yt e,ihn (by omega)]
  rw[e,e2,ih',Ys]
inductive Rch (m:Fm)(k:Nat):Nat->Prop
 | one {i:Nat}:i<m.F.length->fedB m k i=true->Rch m k i
 | step {j i:Nat}:Rch m k j->i<m.F.length->fedB m j i=true->Rch m k i
theorem Rch.lt {m:Fm}{k i:Nat}(h:Rch m k i):i<m.F.length:=by cases h <;> assumption
end Go.Proofs.YtebbgodlijlioaaGreatDoor
namespace Go.Proofs.YtebbgodlijlioaaGreatDoor
open Go Go.RowKit
def up {α:Type}(f:Nat->α)(j:Nat)(v:α):Nat->α:=fun i=>if i=j then v else f i
theorem up_at {α:Type}(f:Nat->α)(j:Nat)(v:α):up f j v j=v:=Yz rfl
theorem up_ne {α:Type}(f:Nat->α){i j:Nat}(v:α)(h:i≠j):up f j v i=f i:=Yt h
theorem map_up {α:Type}(g:α->Value)(f:Nat->α)(n j:Nat)(v:α):((List.range n).map fun k=>g (f k)).set j (g v)=(List.range n).map fun k=>g (up f j v k):=by
 refine List.ext_getElem (by simp) fun i h1 h2=>?_
 simp only[Vd,Y7,Od]at h1
 rw[List.getElem_set]
 simp only[Vq,List.getElem_range]
 by_cases e:j=i
 . subst e;rw[Yz rfl,up_at]
 . rw[Yt e,up_ne f v (fun h=>e h.symm)]
def zs (n:Nat)(f:Nat->Int):List Value:=(List.range n).map fun k=>.int .i64 (f k)
theorem zs_at {n i:Nat}(f:Nat->Int)(h:i<n):(zs n f)[i]? = some (J9 (f i)):=by simp[zs,h]
theorem zs_set {n j:Nat}(f:Nat->Int)(v:Int):(zs n f).set j (J9 v)=zs n (up f j v):=map_up (fun x=>J9 x) f n j v
theorem qhd {n:Nat}{f g:Nat->Int}(h:∀i,i<n->f i=g i):zs n f=zs n g:=Z2 fun i hi=>by rw[h i (Y3.1 hi)]
theorem q8r {X:Nat->Prop}{w w':World}{base n size:Nat}{e:TypeId}{v:Value}{xs:List Value}(h:w.ownsRow base e size v n xs)(hk:KeepX X w w')(hx:∀k,X k->k<base):w'.ownsRow base e size v n xs:=by
 refine⟨h.1,?_⟩
 rcases h.2 with h2 | ⟨g,cap,cur,h1,hb,hg,r⟩
 . exact .inl h2
 . exact .inr ⟨g,cap,cur,h1,hb,hk.same g cur e _ (fun hX=>by have:=hx g hX;omega) hg,r⟩
theorem qbz {w w':World}{base n size:Nat}{e:TypeId}{v:Value}{xs:List Value}(h:w.ownsRow base e size v n xs)(hb:Below w.heap.size w w'):w'.ownsRow base e size v n xs :=
 h.kept (row:=none) ⟨hb.os,hb.tape,hb.output,hb.size,fun k hk _=>hb.block k hk⟩ (Classical.em _)
structure Fam (w:World)(base n:Nat)(V:Nat->Value)(L:Nat->List Nat):Prop where
 own:∀j,j<n->w.ownsRow base 3 1 (V j) (L j).length (ui (L j))
 apart:∀i j,i<n->j<n->i≠j->(V i).ownBlock=none∨(V i).ownBlock≠(V j).ownBlock
theorem Fam.mono {w w':World}{base n:Nat}{V:Nat->Value}{L:Nat->List Nat}(h:Fam w base n V L)(hb:Below w.heap.size w w'):Fam w' base n V L:=⟨fun j hj=>qbz (h.own j hj) hb,h.apart⟩
theorem Fam.keep {X:Nat->Prop}{w w':World}{base n:Nat}{V:Nat->Value}{L:Nat->List Nat}(h:Fam w base n V L)(hk:KeepX X w w')(hx:∀k,X k->k<base):Fam w' base n V L:=⟨fun j hj=>q8r (h.own j hj) hk hx,h.apart⟩
theorem Fam.none (w:World)(base n:Nat):Fam w base n (fun _=>.slice none 0 0) (fun _=>[]):=⟨fun _ _=>World.ownsRow_nil _ _ _ _,fun _ _ _ _ _=>.inl rfl⟩
theorem Fam.sub {w:World}{base n n':Nat}{V:Nat->Value}{L:Nat->List Nat}(h:Fam w base n V L)(hn:n'<=n):Fam w base n' V L:=⟨fun j hj=>h.own j (by omega),fun i j hi hj=>h.apart i j (by omega) (by omega)⟩
theorem Fam.congr {w:World}{base n:Nat}{V V':Nat->Value}{L L':Nat->List Nat}(h:Fam w base n V L)(hV:∀j,j<n->V' j=V j)(hL:∀j,j<n->L' j=L j):Fam w base n V' L' :=
 ⟨fun j hj=>by rw[hV j hj,hL j hj];exact h.own j hj,fun i j hi hj hne=>by rw[hV i hi,hV j hj];exact h.apart i j hi hj hne⟩
theorem own_lt {w:World}{base n size:Nat}{e:TypeId}{v:Value}{xs:List Value}(h:w.ownsRow base e size v n xs){k:Nat}(hk:k ≥ w.heap.size):v.ownBlock≠some k:=fun e=>by have:=(h.lt k e).2;omega
theorem Fam.snoc {w w':World}{base n:Nat}{V:Nat->Value}{L:Nat->List Nat}{v:Value}{l:List Nat}(h:Fam w base n V L)(hb:Below w.heap.size w w')(hbs:base<=w.heap.size)(ho:w'.ownsRow w.heap.size 3 1 v l.length (ui l)):Fam w' base (n+1) (up V n v) (up L n l):=by
 have ho':w'.ownsRow base 3 1 v l.length (ui l):=by
  refine⟨ho.1,?_⟩;rcases ho.2 with h2 | ⟨g,cap,cur,h1,hb,r⟩
  . exact .inl h2
  . exact .inr ⟨g,cap,cur,h1,by omega,r⟩
 refine⟨fun j hj=>?_,fun i j hi hj hne=>?_⟩
 . by_cases e:j=n
   . subst e;rw[up_at,up_at];exact ho'
   . rw[up_ne _ _ e,up_ne _ _ e];exact qbz (h.own j (by omega)) hb
 . have hx:∀i,i<n->(V i).ownBlock=Option.none∨(V i).ownBlock≠v.ownBlock:=fun i hi=>by
    cases e1:(V i).ownBlock with
    | none=>exact .inl rfl
    | some q =>
     refine .inr fun e2=>?_;have h1:=((h.own i hi).lt q e1).2;have h2:=(ho.lt q e2.symm).1;omega
   by_cases ei:i=n
   . subst ei
     rw[up_at,up_ne _ _ (fun e=>hne e.symm)];rcases hx j (by omega) with h1 | h1
     . rw[h1]
       cases v.ownBlock with
       | none=>exact .inl rfl
       | some q=>exact .inr (by simp)
     . exact .inr fun e=>h1 e.symm
   . rw[up_ne _ _ ei]
     by_cases ej:j=n
     . subst ej;rw[up_at];exact hx i (by omega)
     . rw[up_ne _ _ ej];exact h.apart i j (by omega) (by omega) hne
theorem Fam.add {w w':World}{base n j x:Nat}{V:Nat->Value}{L:Nat->List Nat}{v:Value}(h:Fam w base n V L)(hj:j<n)(ho:w'.ownsRow base 3 1 v (L j++[x]).length (ui (L j++[x])))(hg:w.grownBy w' (V j).ownBlock)(hat:v.ownBlock=(V j).ownBlock∨v.ownBlock=some w.heap.size):Fam w' base n (up V j v) (up L j (L j++[x])):=by
 refine⟨fun i hi=>?_,fun i i' hi hi' hne=>?_⟩
 . by_cases e:i=j
   . subst e;rw[up_at,up_at];exact ho
   . rw[up_ne _ _ e,up_ne _ _ e];exact(h.own i hi).kept hg (h.apart i j hi hj e)
 . by_cases e:i=j
   . subst e
     rw[up_at,up_ne _ _ (fun e=>hne e.symm)];rcases hat with e2 | e2
     . rw[e2];exact h.apart i i' hi hi' hne
     . exact .inr fun e3=>own_lt (h.own i' hi') (nR _) (e3.symm.trans e2)
   . rw[up_ne _ _ e]
     by_cases e':i'=j
     . subst e'
       rw[up_at];rcases hat with e2 | e2
       . rw[e2];exact h.apart i i' hi hi' hne
       . exact .inr fun e3=>own_lt (h.own i hi) (nR _) (e3.trans e2)
     . rw[up_ne _ _ e'];exact h.apart i i' hi hi' hne
def HoldF (w:World)(F n:Nat)(V:Nat->Value):Prop:=Blk w F 30 ((List.range n).map V)
theorem HoldF.at {w:World}{F n:Nat}{V:Nat->Value}(h:HoldF w F n V){j:Nat}(hj:j<n):w.cell? ⟨F,j,none⟩=some (V j):=by
 have:=Blk.cell h j
 rw[this]
 simp[hj]
theorem HoldF.congr {w:World}{F n:Nat}{V V':Nat->Value}(h:HoldF w F n V)(hV:∀j,j<n->V' j=V j):HoldF w F n V':=by
 unfold HoldF
 rw[Z2 fun j hj=>hV j (Y3.1 hj)]
 exact h
theorem qgp {w w':World}{base F n N j x:Nat}{V:Nat->Value}{L:Nat->List Nat}{v:Value}(hH:HoldF w F n V)(hF:F<base)(h:Fam w base N V L)(hj:j<N)(ho:w'.ownsRow base 3 1 v (L j++[x]).length (ui (L j++[x])))(hg:w.grownBy w' (V j).ownBlock)(hat:v.ownBlock=(V j).ownBlock∨v.ownBlock=some w.heap.size) :
 HoldF (w'.setCell ⟨F,j,none⟩ v) F n (up V j v)/\Fam (w'.setCell ⟨F,j,none⟩ v) base N (up V j v) (up L j (L j++[x])):=by
 constructor
 . have h1:Blk w' F 30 ((List.range n).map V):=Blk.grown hH hg (fun e=>by have:=((h.own j hj).lt F e.symm).1;omega)
   have h2:=h1.set j v;rw[show((List.range n).map V).set j v=(List.range n).map fun k=>up V j v k from map_up (fun x=>x) V n j v]at h2;exact h2
 . exact(h.add hj ho hg hat).keep (X:=fun b=>b=F) (KeepX.set (a:=⟨F,j,none⟩) v rfl) (fun k hk=>by omega)
theorem q6r {W w w':World}{base F j:Nat}{v u:Value}{n:Nat}{xs:List Value}(hb:Below F W w)(hFb:F<base)(hF:F<w.heap.size)(ho:w.ownsRow base 3 1 u n xs)(hg:w.grownBy w' u.ownBlock):Below F W (w'.setCell ⟨F,j,none⟩ v) :=
 (hb.grown hg (Oz hF) (fun q e=>by have:=(ho.lt q e).1;omega)).setCell (p:=⟨F,j,none⟩) (nR _) v
def fedP (m:Fm)(k i j:Nat):List Nat:=fedT m k j++List.replicate (((fedL m k).take i).count j) k
theorem qak (m:Fm)(k:Nat):fedP m k 0=fedT m k:=by
 funext j
 unfold fedP
 simp
theorem qai (m:Fm)(k:Nat):fedP m k (fedL m k).length=fedT m (k+1):=by
 funext j
 unfold fedP
 rw[Y9 (nR _),qal]
theorem qaj {m:Fm}{k i:Nat}(h:i<(fedL m k).length):fedP m k (i+1)=up (fedP m k i) (fedL m k)[i] (fedP m k i (fedL m k)[i]++[k]):=by
 funext j
 unfold fedP
 rw[Yq h,List.count_append]
 by_cases e:j=(fedL m k)[i]
 . subst e
   rw[up_at,List.count_singleton_self,Z6,List.replicate_succ']
 . rw[up_ne _ _ e,List.count_singleton,Yt (by simpa using fun h=>e h.symm),Zr]
theorem qg8 {l:List Nx}(h:ruleOk l=true):l.length<=1000:=by
 unfold ruleOk at h
 rw[Zu]at h
 rcases h with h | h
 . have:=Zg h;omega
 . unfold vxL at h
   exact((qmb _ _).1 h).2.1
theorem qdw {m:Fm}(h:VfA m){k:Nat}(hk:k<m.F.length):(fedL m k).length<=2000:=by
 have hok:=(q4y _ _ _).1 (h.fi _ (Yk hk))
 have h1:=qg8 hok.i
 have h2:=qg8 hok.h
 have h3:∀l,(rdL (fNames m) l).length<=l.length:=fun l=>by unfold rdL;rw[Y7];exact Vr _ _
 have h4:=h3 m.F[k].is
 have h5:=h3 m.F[k].wh
 unfold fedL
 rw[qif hk,Yg]
 omega
theorem qdy {m:Fm}(h:VfA m)(j:Nat):∀k,k<=m.F.length->(fedT m k j).length<=k*2000:=by
 intro k
 induction k with
 | zero=>intro _;simp[qam]
 | succ k ih =>
  intro hk;have h1:=qdw h (show k<m.F.length by omega);have h2:=Oe (a:=j) (l:=fedL m k);have h3:=ih (by omega);rw[qal,Yg,List.length_replicate];omega
theorem qdx {m:Fm}(h:VfA m){k:Nat}(hk:k<m.F.length)(i j:Nat):(fedP m k i j).length<=402000:=by
 have h1:=qdy h j k (by omega)
 have h2:=Oe (a:=j) (l:=(fedL m k).take i)
 have h3:=qdw h hk
 have h4:=h.nf
 have h5:((fedL m k).take i).length<=(fedL m k).length:=List.length_take_le' _ _
 unfold fedP
 rw[Yg,List.length_replicate]
 omega
def cntL (L:Nat->List Nat)(j i:Nat):Nat:=((List.range j).map fun p=>(L p).count i).sum
theorem qa6 (L:Nat->List Nat)(i:Nat):cntL L 0 i=0:=rfl
theorem qa4 (L:Nat->List Nat)(j i:Nat):cntL L (j+1) i=cntL L j i+(L j).count i:=by
 unfold cntL
 rw[Za]
 simp
def cntP (L:Nat->List Nat)(j p i:Nat):Nat:=cntL L j i+((L j).take p).count i
theorem qa9 (L:Nat->List Nat)(j:Nat):cntP L j 0=cntL L j:=by
 funext i
 unfold cntP
 simp
theorem qa7 (L:Nat->List Nat)(j:Nat):cntP L j (L j).length=cntL L (j+1):=by
 funext i
 unfold cntP
 rw[Y9 (nR _),qa4]
theorem qa8 {L:Nat->List Nat}{j p:Nat}(h:p<(L j).length)(i:Nat):cntP L j (p+1) i=up (cntP L j p) (L j)[p] (cntP L j p (L j)[p]+1) i:=by
 unfold cntP
 rw[Yq h,List.count_append]
 by_cases e:i=(L j)[p]
 . subst e
   rw[up_at,List.count_singleton_self];omega
 . rw[up_ne _ _ e,List.count_singleton,Yt (by simpa using fun h=>e h.symm),Zr]
theorem qa5 {m:Fm}(h:VfA m){i:Nat}(hi:i<m.F.length):((cntL (fedT m m.F.length) m.F.length i:Nat):Int)=waitZ m [] i:=by
 rw[q9g]
 unfold cntL
 rw[Z2 (fun p _=>by rw[q7a,Yz hi]),qcp _ _ (qil h hi)]
theorem qi6 {L:Nat->List Nat}{B:Nat}(hL:∀j,(L j).length<=B)(i:Nat):∀j,cntL L j i<=j*B:=by
 intro j
 induction j with
 | zero=>simp[qa6]
 | succ j ih =>
  have:=Oe (a:=i) (l:=L j);have:=hL j;rw[qa4,Zw];omega
def waitP (m:Fm)(D:List Nat)(x p k:Nat):Int:=waitZ m D k - (if k=x then 1 else 0) - ((fedT m m.F.length x).take p).count k
theorem q9f (m:Fm)(D:List Nat)(x:Nat)(k:Nat):up (waitZ m D) x (waitZ m D x - 1) k=waitP m D x 0 k:=by
 unfold waitP
 by_cases e:k=x
 . subst e;rw[up_at,Yz rfl];simp
 . rw[up_ne _ _ e,Yt e];simp
theorem q9e {m:Fm}{D:List Nat}{x p:Nat}(h:p<(fedT m m.F.length x).length)(k:Nat):up (waitP m D x p) (fedT m m.F.length x)[p] (waitP m D x p (fedT m m.F.length x)[p] - 1) k=waitP m D x (p+1) k:=by
 unfold waitP
 rw[Yq h,List.count_append]
 by_cases e:k=(fedT m m.F.length x)[p]
 . subst e
   rw[up_at,List.count_singleton_self];omega
 . have hc:((fedT m m.F.length x)[p]==k)=false:=Yf.2 fun h=>e h.symm
   rw[up_ne _ _ e,List.count_singleton,hc];simp
theorem q9d {m:Fm}{D:List Nat}{x:Nat}(hx:x ∉ D){k:Nat}(hk:k<m.F.length):waitP m D x (fedT m m.F.length x).length k=waitZ m (D++[x]) k:=by
 rw[qd5 m D x hx k]
 unfold waitP
 rw[Y9 (nR _),q7a,Yz hk]
 omega
end Go.Proofs.YtebbgodlijlioaaGreatDoor
namespace Go.Proofs.YtebbgodlijlioaaGreatDoor
open Go
def dirBy (M:Nat->Bool)(k:Nat)(L:List Nat):List Nat:=L.filter fun x=>decide (x=k)||M x
theorem q72 (M:Nat->Bool)(k:Nat)(L:List Nat)(x:Nat):dirBy M k (L++[x])=dirBy M k L++if (decide (x=k)||M x)=true then [x] else []:=by
 unfold dirBy
 rw[Ot]
 congr 1
 by_cases h:(decide (x=k)||M x)=true
 . rw[Yz h];simp[h]
 . rw[Yt h];simp[h]
theorem qfx {m:Fm}{k x:Nat}{D:List Nat}(hk:k<m.F.length)(hx:nxt m D=some x):Rch m k x ↔ ∃j,j∈D/\j<m.F.length/\fedB m j x=true/\(j=k∨Rch m k j):=by
 obtain⟨hxn,hr,-⟩:=qfc hx
 have hD:∀j,j<m.F.length->fedB m j x=true->j∈D:=by
  intro j hj hf;unfold rdyB at hr;rw[Yn,Y2]at hr;have:=hr.2 j (Y3.2 hj);rw[hf]at this;simpa using this
 constructor
 . intro h
   cases h with
   | one hi hf=>exact⟨k,hD k hk hf,hk,hf,.inl rfl⟩
   | step hj hi hf=>exact⟨_,hD _ hj.lt hf,hj.lt,hf,.inr hj⟩
 . rintro⟨j,-,-,hf,rfl | hj⟩
   . exact .one hxn hf
   . exact .step hj hxn hf
def cntB (M:Nat->Bool)(n:Nat):Nat:=((List.range n).filter M).length
theorem qa3 (M:Nat->Bool)(n:Nat):cntB M (n+1)=cntB M n+if M n=true then 1 else 0:=by
 unfold cntB
 rw[Za,Ot,Yg]
 cases h:M n <;> simp[h]
theorem qi4 (M:Nat->Bool)(n:Nat):cntB M n<=n:=by
 induction n with
 | zero=>exact nR _
 | succ n ih=>rw[qa3];split <;> omega
theorem qfy {m:Fm}{k j i:Nat}(hj:j=k∨Rch m k j)(hi:i<m.F.length)(hf:fedB m j i=true):Rch m k i:=by
 rcases hj with e | e
 . subst e;exact .one hi hf
 . exact .step e hi hf
def ms (n:Nat)(M:Nat->Bool):List Value:=(List.range n).map fun k=>.bool (M k)
theorem ms_at {n i:Nat}(M:Nat->Bool)(h:i<n):(ms n M)[i]? = some (.bool (M i)):=by simp[ms,h]
theorem ms_set {n j:Nat}(M:Nat->Bool)(v:Bool):(ms n M).set j (.bool v)=ms n (up M j v):=map_up (fun x=>.bool x) M n j v
def DirOk (m:Fm)(kz:Int)(c l:List Nat):Prop:=(¬ (0<=kz/\kz<c.length)/\l=[])∨(0<=kz/\kz<c.length/\∃M:Nat->Bool,(∀i,i<m.F.length->i≠kz.toNat->(M i=true ↔ Rch m kz.toNat i))/\l=dirBy M kz.toNat c)
theorem DirOk.len {m:Fm}{kz:Int}{c l:List Nat}(h:DirOk m kz c l):l.length<=c.length:=by
 rcases h with ⟨-,e⟩ | ⟨-,-,M,-,e⟩
 . rw[e];simp
 . rw[e];exact Vr _ _
end Go.Proofs.YtebbgodlijlioaaGreatDoor
namespace Go.Proofs.YtebbgodlijlioaaGreatDoor
open Go Go.RowKit
theorem qg0 {l:List Nx}{x:ByteArray}{k:Nat}(h:k<l.length)(h1:(nf l k).op=1)(h2:(nf l k).nm=x):rdsN l x=true:=by
 unfold rdsN
 refine Ol.2 ⟨l[k],Yk h,?_⟩
 rw[nf_get l k h]at h1 h2
 simp[h1,h2]
theorem ql7 {l:List Nx}{x:ByteArray}(h:∀k,k<l.length->¬ ((nf l k).op=1/\(nf l k).nm=x)):rdsN l x=false:=by
 unfold rdsN
 refine List.any_eq_false.2 fun n hn=>?_
 obtain⟨k,hk,rfl⟩:=Yy.1 hn
 have:=h k hk
 rw[nf_get l k hk]at this
 simpa using this
theorem q5k (a:Option Addr)(c:Nat)(l:List Nx)(x:ByteArray)(w:World)(hl:l.length<=9223372036854775807)(ha:NodL w a l) :
 Calls Tryz.prog 94 #[.slice a l.length c,.string x] w fun r w'=>r=.returned (.bool (rdsN l x))/\Below w.heap.size w w':=by
 have HA:=h_ ha
 obtain⟨q,hq⟩:=Nq (rdsN l x)
 rw[hq]
 have HQ:=h_ hq
 clear ha hq
 go_enter Tryz.func94,Tryz.ntmps94
 go_wp2_with fail
 go_loopw [5] (fun i wr=>∃k:Nat,k<=l.length/\i=J9 k/\(∀j,j<k->¬ ((nf l j).op=1/\(nf l j).nm=x))/\Below w.heap.size w wr) (fun i _=>l.length - (intOf i).toNat)
 case atStart=>exact⟨0,nZ _,rfl,fun j hj=>absurd hj (nL _),bR _ _⟩
 case round =>
  obtain⟨k,hk,rfl,hall,hb⟩:=hrel;have HL:=h_ hall;have HB:=h_ hb;have HAr:=h_ (HA.u.mono hb);clear hall hb;by_cases hlt:k<l.length
  . have hlt':(k:Int)<l.length:=by omega
    obtain⟨pb,po,rfl,-,z0,z1,z2,z3,z4⟩:=HAr.u k hlt;have HX:Hi ((nf l k).op=1->(nf l k).nm=x->q=true):=h_ fun h1 h2=>by rw[<- HQ.u,qg0 hlt h1 h2]
    have HG:Hi (¬ ((nf l k).op=1/\(nf l k).nm=x)->∀j,j<k+1->¬ ((nf l j).op=1/\(nf l j).nm=x)):=h_ fun h j hj=>by
     by_cases ej:j=k
     . subst ej;exact h
     . exact HL.u j (by omega)
    generalize nf l k=n at *;have he:=eqS n.nm x;by_cases h1:n.op=1
    . have h1':(n.op==1)=true:=by rw[h1];rfl
      by_cases h2:n.nm=x
      . have HX2:=h_ (HX.u h1 h2)
        rw[Ym h2]at he;clear h1 h2;go_wp2_with fail;go_ret;exact⟨qg2 HX2.u.symm,HB.u⟩
      . have HG2:=h_ (HG.u fun h=>h2 h.2)
        rw[Yj h2]at he;clear h1 h2;go_wp2_with fail;go_roundw
        case rel=>first | exact⟨k+1,by omega,by go_num,HG2.u,HB.u⟩ | ((repeat apply Exists.intro);exact⟨⟨k+1,by omega,by go_num,HG2.u,HB.u⟩,rfl⟩)
        case measure=>simp[intOf];omega
    . have h1':(n.op==1)=false:=by simp[h1]
      have HG2:=h_ (HG.u fun h=>h1 h.1);clear h1 he;go_wp2_with fail;go_roundw
      case rel=>first | exact⟨k+1,by omega,by go_num,HG2.u,HB.u⟩ | ((repeat apply Exists.intro);exact⟨⟨k+1,by omega,by go_num,HG2.u,HB.u⟩,rfl⟩)
      case measure=>simp[intOf];omega
  . obtain rfl:k=l.length:=by omega
    have hlt':¬ (l.length:Int)<(l.length:Int):=(by omega);have HX:Hi (q=false):=h_ (by rw[<- HQ.u,ql7 HL.u]);go_wp2_with fail;go_ret;exact⟨qg2 HX.u.symm,HB.u⟩
theorem q5i (m:Fm)(A:MA)(j k:Nat)(w:World)(hj:j<m.F.length)(hk:k<m.F.length)(hf:FitM m)(ha:MSl w m A) :
 Calls Tryz.prog 59 #[mV m A,J9 j,J9 k] w fun r w'=>r=.returned (.bool (fedB m j k))/\Below w.heap.size w w':=by
 obtain⟨al,alc,ap,apc,ar,arc,af,afc,afa⟩:=A
 unfold mV
 dsimp only
 have HK:=h_ (Blk.new w 28 (Jb al m alc ap apc ar arc af afc))
 have HB:=h_ ((bR w.heap.size w).alloc (nR _) (.cells (Jb al m alc ap apc ar arc af afc) 28))
 obtain⟨W0,hW0⟩:=Nq (w.alloc (.cells (Jb al m alc ap apc ar arc af afc) 28))
 rw[hW0]at HK HB
 have HS:=h_ (ha.mono HB.u)
 have hj':(j:Int)<m.F.length:=by omega
 have hk':(k:Int)<m.F.length:=by omega
 have hfl:=hf.fl
 have HE:Hi (fedB m j k=(rdsN m.F[k].is m.F[j].nm||rdsN m.F[k].wh m.F[j].nm)):=h_ (by unfold fedB;rw[qif hj,qif hk])
 have HI:=h_ (hf.f _ (Yk hk))
 clear ha hf
 obtain⟨b,o,e1,⟨-,z0,-⟩,-⟩:=HS.u.f j hj
 obtain⟨b',o',e2,⟨hbl,-,-,-,-,x4,x5,-⟩,hsl⟩:=HS.u.f k hk
 dsimp only at e1 e2 x4 x5 hsl
 subst e1
 cases e2
 have HSl:=h_ hsl
 clear hsl
 generalize m.F[j].nm=nm at *
 generalize m.F[k]=f at *
 generalize afa k=fa at *
 obtain⟨ab,abc,ai,aic,ah,ahc,av,avc,au,auc⟩:=fa
 dsimp only at x4 x5
 have HC1:=h_ (q5k ai aic f.is nm W0 HI.u.il HSl.u.i)
 obtain⟨y0,y1,y2,y3⟩:=quad HK.u
 generalize fedB m j k=q at *
 go_enter Tryz.func59,Tryz.ntmps59
 go_wp2_with fail
 try rw[hW0]
 refine HC1.u.mono ?_
 rintro r W1 ⟨rfl,hb⟩
 have hx5:=(hb.cell (p:=⟨b,o+k*9+5,none⟩) hbl).trans x5
 replace HK:=mB HK hb;replace HB:=mT HB hb;replace HSl:=h_ (HSl.u.mono hb)
 clear hb hW0 y0 y1 y2 y3 z0 x4 x5 HC1
 obtain⟨y0,y1,y2,y3⟩:=quad HK.u
 cases hr:rdsN f.is nm
 . have HC2:=h_ (q5k ah ahc f.wh nm W1 HI.u.hl HSl.u.h)
   have HX:Hi (q=rdsN f.wh nm):=h_ (by rw[HE.u,hr];rfl);clear hr;go_wp2_with fail;refine HC2.u.mono ?_;rintro r W2 ⟨rfl,hb⟩;replace HB:=mT HB hb;clear hb;go_wp2_with fail;go_ret;exact⟨qg2 HX.u.symm,HB.u⟩
 . have HX:Hi (q=true):=h_ (by rw[HE.u,hr];rfl)
   clear hr;go_wp2_with fail;go_ret;exact⟨qg2 HX.u.symm,HB.u⟩
def Plc (w:World)(a:Option Addr)(l:List Nat):Prop:=IntL w a (l.map fun x:Nat=>(x:Int))
theorem Plc.mono {w w':World}{a:Option Addr}{l:List Nat}(h:Plc w a l)(hb:Below w.heap.size w w'):Plc w' a l:=IntL.mono h hb
theorem Plc.at {w:World}{a:Option Addr}{l:List Nat}(h:Plc w a l)(k:Nat)(hk:k<l.length):∃b o,a=some ⟨b,o,none⟩/\b<w.heap.size/\w.cell? ⟨b,o+k,none⟩=some (J9 (l[k]:Int)):=by
 obtain⟨b,o,e,h1,h2⟩:=h k (by simpa using hk)
 refine⟨b,o,e,h1,?_⟩
 rw[h2]
 dsimp only
 rw[Yl,Zk,Yi hk]
 rfl
theorem qbc (a:Option Addr)(c:Nat)(l:List Nat)(x:Nat)(w:World)(hl:l.length<=9223372036854775807)(ha:Plc w a l) :
 Calls Tryz.prog 58 #[.slice a l.length c,J9 x] w fun r w'=>r=.returned (.bool (decide (x∈l)))/\Below w.heap.size w w':=by
 have HA:=h_ ha
 clear ha
 obtain⟨q,hq⟩:=Nq (decide (x∈l))
 rw[hq]
 have HQ:=h_ hq
 clear hq
 go_enter Tryz.func58,Tryz.ntmps58
 go_wp2_with fail
 go_loopw [5] (fun i wr=>∃k:Nat,k<=l.length/\i=J9 k/\(∀j (h:j<l.length),j<k->l[j]≠x)/\Below w.heap.size w wr) (fun i _=>l.length - (intOf i).toNat)
 case atStart=>exact⟨0,nZ _,rfl,fun j _ hj=>absurd hj (nL _),bR _ _⟩
 case round =>
  obtain⟨k,hk,rfl,hall,hb⟩:=hrel;have HL:=h_ hall;have HB:=h_ hb;have HAr:=h_ (HA.u.mono hb);clear hall hb;by_cases hlt:k<l.length
  . have hlt':(k:Int)<l.length:=by omega
    obtain⟨b,o,rfl,-,z0⟩:=HAr.u.at k hlt;have HX:Hi (l[k]=x->q=true):=h_ fun h=>by rw[<- HQ.u];exact Ym (h ▸ Yk hlt)
    have HG:Hi (l[k]≠x->∀j (h:j<l.length),j<k+1->l[j]≠x):=h_ fun h j hj hjk=>by
     by_cases ej:j=k
     . subst ej;exact h
     . exact HL.u j hj (by omega)
    generalize l[k]=u at *;by_cases he:u=x
    . have he':((u:Int)==(x:Int))=true:=by rw[he];simp
      have HX2:=h_ (HX.u he);clear he;go_wp2_with fail;go_ret;exact⟨qg2 HX2.u.symm,HB.u⟩
    . have he':((u:Int)==(x:Int))=false:=Yf.2 (by omega)
      have HG2:=h_ (HG.u he);clear he;go_wp2_with fail;go_roundw
      case rel=>first | exact⟨k+1,by omega,by go_num,HG2.u,HB.u⟩ | ((repeat apply Exists.intro);exact⟨⟨k+1,by omega,by go_num,HG2.u,HB.u⟩,rfl⟩)
      case measure=>simp[intOf];omega
  . obtain rfl:k=l.length:=by omega
    have hlt':¬ (l.length:Int)<(l.length:Int):=(by omega);have HX:Hi (q=false):=h_ (by
     rw[<- HQ.u];refine Yj fun h=>?_;obtain⟨j,hj,e⟩:=Yy.1 h;exact HL.u j hj hj e)
    go_wp2_with fail;go_ret;exact⟨qg2 HX.u.symm,HB.u⟩
def nxI (m:Fm)(D:List Nat):Int:=match nxt m D with
 | some k=>(k:Int)
 | none=>-1
theorem qfa {m:Fm}{D:List Nat}{k:Nat}(h:nxt m D=some k):nxI m D=k:=by unfold nxI;rw[h]
theorem qf9 {m:Fm}{D:List Nat}(h:nxt m D=none):nxI m D = -1:=by unfold nxI;rw[h]
def upTo (m:Fm)(D:List Nat)(k j:Nat):Bool:=(List.range j).all fun i=>!fedB m i k||decide (i∈D)
theorem qd1 (m:Fm)(D:List Nat)(k j:Nat):upTo m D k (j+1)=(upTo m D k j&&(!fedB m j k||decide (j∈D))):=by
 unfold upTo
 rw[Za,List.all_append]
 simp
theorem ql8 (m:Fm)(D:List Nat)(k:Nat):rdyB m D k=(!decide (k∈D)&&upTo m D k m.F.length):=rfl
theorem q87 (m:Fm)(A:MA)(a:Option Addr)(c:Nat)(D:List Nat)(w:World)(hn:m.F.length<=200)(hDl:D.length<=200)(hf:FitM m)(ha:MSl w m A)(hD:Plc w a D) :
 Calls Tryz.prog 35 #[mV m A,.slice a D.length c] w fun r w'=>r=.returned (J9 (nxI m D))/\Below w.heap.size w w':=by
 obtain⟨al,alc,ap,apc,ar,arc,af,afc,afa⟩:=A
 have HCf:=h_ fun W j k (hj:j<m.F.length) (hk:k<m.F.length) (hs:MSl W m ⟨al,alc,ap,apc,ar,arc,af,afc,afa⟩)=>q5i m ⟨al,alc,ap,apc,ar,arc,af,afc,afa⟩ j k W hj hk hf hs
 have HCh:=h_ fun W x (hs:Plc W a D)=>qbc a c D x W (by omega) hs
 unfold mV at HCf⊢
 dsimp only at HCf⊢
 have HK:=h_ (Blk.new w 28 (Jb al m alc ap apc ar arc af afc))
 have HB:=h_ ((bR w.heap.size w).alloc (nR _) (.cells (Jb al m alc ap apc ar arc af afc) 28))
 obtain⟨W0,hW0⟩:=Nq (w.alloc (.cells (Jb al m alc ap apc ar arc af afc) 28))
 rw[hW0]at HK HB
 have HS:=h_ (ha.mono HB.u);have HP:=h_ (hD.mono HB.u)
 have HX1:Hi (∀k,k<m.F.length->rdyB m D k=true->(∀j,j<k->rdyB m D j=false)->nxI m D=k):=h_ fun k hk h1 h2=>qfa (nxt_of hk h1 h2)
 have HX2:Hi ((∀j,j<m.F.length->rdyB m D j=false)->nxI m D = -1):=h_ fun h=>qf9 (q5w h)
 generalize nxI m D=q at *
 clear ha hD hf
 obtain⟨y0,y1,y2,y3⟩:=quad HK.u
 go_enter Tryz.func35,Tryz.ntmps35
 go_wp2_with fail
 try rw[hW0]
 clear hW0 y0 y1 y2 y3
 go_loopw [5,6,7] (fun i _ _ wr=>∃k:Nat,k<=m.F.length/\i=J9 k/\(∀j,j<k->rdyB m D j=false)/\Below W0.heap.size W0 wr) (fun i _ _ _=>m.F.length - (intOf i).toNat)
 case atStart=>exact⟨0,nZ _,rfl,fun j hj=>absurd hj (nL _),bR _ _⟩
 case round =>
  obtain⟨k,hk,rfl,hall,hb⟩:=hrel;have HL:=h_ hall;have HB1:=h_ hb;have HKr:=mB HK hb;have HPr:=h_ (HP.u.mono hb);obtain⟨y0,y1,y2,y3⟩:=quad HKr.u;clear hall hb;by_cases hlt:k<m.F.length
  . have hlt':(k:Int)<m.F.length:=by omega
    have HG:Hi (rdyB m D k=false->∀j,j<k+1->rdyB m D j=false):=h_ fun h j hj=>by
     by_cases ej:j=k
     . subst ej;exact h
     . exact HL.u j (by omega)
    go_wp2_with fail;refine(HCh.u wr k HPr.u).mono ?_;rintro r W1 ⟨rfl,hb⟩;have HB2:=mT HB1 hb;clear hb y0 y1 y2 y3;by_cases hin:k∈D
    . rw[Ym hin]
      have HG2:=h_ (HG.u (by rw[ql8,Ym hin];rfl));clear hin;go_wp2_with fail;go_roundw
      case rel=>first | exact⟨k+1,by omega,by go_num,HG2.u,HB2.u⟩ | ((repeat apply Exists.intro);exact⟨⟨k+1,by omega,by go_num,HG2.u,HB2.u⟩,rfl⟩)
      case measure=>simp[intOf];omega
    . rw[Yj hin]
      have HR:Hi (rdyB m D k=upTo m D k m.F.length):=h_ (by rw[ql8,Yj hin];rfl);clear hin;go_wp2_with fail;go_loopw [6,7] (fun v i w3=>∃(j:Nat),j<=m.F.length/\i=J9 j/\v=.bool (upTo m D k j)/\Below W0.heap.size W0 w3) (fun _ i _=>m.F.length - (intOf i).toNat)
      case atStart=>exact⟨0,nZ _,rfl,rfl,HB2.u⟩
      case round =>
       clear HB1 HKr HPr HB2;obtain⟨j,hj,rfl,rfl,hb⟩:=hrel;have HB2:=h_ hb;have HKr:=mB HK hb;have HPr:=h_ (HP.u.mono hb);have HSr:=h_ (HS.u.mono hb);obtain⟨y0,y1,y2,y3⟩:=quad HKr.u;clear hb;by_cases hjl:j<m.F.length
       . have hjl':(j:Int)<m.F.length:=by omega
         have HU:Hi (upTo m D k (j+1)=(upTo m D k j&&(!fedB m j k||decide (j∈D)))):=h_ (qd1 m D k j);go_wp2_with fail;refine(HCf.u wr j k hjl hlt HSr.u).mono ?_;rintro r W2 ⟨rfl,hb⟩;have HB3:=mT HB2 hb;replace HPr:=h_ (HPr.u.mono hb);clear hb y0 y1 y2 y3;generalize fedB m j k=g at *;generalize upTo m D k j=u at *;cases g
         . have HU2:Hi (u=upTo m D k (j+1)):=h_ (by rw[HU.u];simp)
           go_wp2_with fail;go_roundw
           case rel=>first | exact⟨j+1,by omega,by go_num,by rw[<- HU2.u],HB3.u⟩ | ((repeat apply Exists.intro);exact⟨⟨j+1,by omega,by go_num,by rw[<- HU2.u],HB3.u⟩,rfl⟩)
           case measure=>simp[intOf];omega
         . go_wp2_with fail
           refine(HCh.u W2 j HPr.u).mono ?_;rintro r W3 ⟨rfl,hb⟩;have HB4:=mT HB3 hb;clear hb;generalize decide (j∈D)=d at *;cases d
           . have HU2:Hi (false=upTo m D k (j+1)):=h_ (by rw[HU.u];simp)
             go_wp2_with fail;go_roundw
             case rel=>first | exact⟨j+1,by omega,by go_num,by rw[<- HU2.u],HB4.u⟩ | ((repeat apply Exists.intro);exact⟨⟨j+1,by omega,by go_num,by rw[<- HU2.u],HB4.u⟩,rfl⟩)
             case measure=>simp[intOf];omega
           . have HU2:Hi (u=upTo m D k (j+1)):=h_ (by rw[HU.u];simp)
             go_wp2_with fail;go_roundw
             case rel=>first | exact⟨j+1,by omega,by go_num,by rw[<- HU2.u],HB4.u⟩ | ((repeat apply Exists.intro);exact⟨⟨j+1,by omega,by go_num,by rw[<- HU2.u],HB4.u⟩,rfl⟩)
             case measure=>simp[intOf];omega
       . obtain rfl:j=m.F.length:=by omega
         have hjl':¬ (m.F.length:Int)<(m.F.length:Int):=(by omega);rw[<- HR.u];cases hr:rdyB m D k
         . have HG2:=h_ (HG.u hr)
           clear hr;go_wp2_with fail;go_roundw
           case rel=>first | exact⟨k+1,by omega,by go_num,HG2.u,HB2.u⟩ | ((repeat apply Exists.intro);exact⟨⟨k+1,by omega,by go_num,HG2.u,HB2.u⟩,rfl⟩)
           case measure=>simp[intOf];omega
         . have HX:Hi (q=k):=h_ (HX1.u k hlt hr HL.u)
           clear hr;go_wp2_with fail;go_ret;exact⟨ql9 HX.u.symm,HB.u.trans (HB2.u.mono HB.u.size)⟩
  . obtain rfl:k=m.F.length:=by omega
    have hlt':¬ (m.F.length:Int)<(m.F.length:Int):=(by omega);have HX:Hi (q = -1):=h_ (HX2.u HL.u);go_wp2_with fail;go_ret;exact⟨ql9 HX.u.symm,HB.u.trans (HB1.u.mono HB.u.size)⟩
end Go.Proofs.YtebbgodlijlioaaGreatDoor
