import Derived.Test.YtgkcaeidhkddjaaGreatDoorXGD
import Derived.Maps.Views
import Derived.Test.YtgkcaeidhkddjaaGreatDoorXGRa
import Derived.Maps.OwnOps
import Derived.Maps.AppendAt
set_option maxRecDepth 100000
set_option maxHeartbeats 20000000
namespace Go.Proofs.YtgkcaeidhkddjaaGreatDoor
open Go
def noFd:Fl:=⟨⟨#[]⟩,0,0,[],[],[],[],⟨#[]⟩,[]⟩
def fAt (m:Fm) (k:Nat):Fl:=m.F.getD k noFd
theorem qi1 {m:Fm} {k:Nat} (h:k<m.F.length):fAt m k=m.F[k]:=by unfold fAt;rw [List.getD_eq_getElem?_getD,List.getElem?_eq_getElem h];rfl
def rdsN (l:List Nx) (x:ByteArray):Bool:=l.any fun n=>decide (n.op=1)&&decide (n.nm=x)
def fedB (m:Fm) (j k:Nat):Bool:=rdsN (fAt m k).is (fAt m j).nm || rdsN (fAt m k).wh (fAt m j).nm
def watB (m:Fm) (j k:Nat):Bool:=rdsN (fAt m k).va (fAt m j).nm || rdsN (fAt m k).mu (fAt m j).nm
def anyR (m:Fm) (j k:Nat):Bool:=fedB m j k || watB m j k
def rdyB (m:Fm) (D:List Nat) (k:Nat):Bool:=!decide (k ∈ D)&&(List.range m.F.length).all fun j=>!fedB m j k || decide (j ∈ D)
def nxt (m:Fm) (D:List Nat):Option Nat:=(List.range m.F.length).find? (rdyB m D)
def ordL (m:Fm):Nat->List Nat
 | 0=>[]
 | i+1=>match nxt m (ordL m i) with
  | some k=>ordL m i++[k]
  | none=>ordL m i
theorem qfc {m:Fm} {D:List Nat} {k:Nat} (h:nxt m D=some k):k<m.F.length/\rdyB m D k=true/\∀ j,j<k->rdyB m D j=false:=by
 unfold nxt at h
 rw [List.find?_eq_some_iff_getElem] at h
 obtain ⟨h1,i,hi,e,h2⟩:=h
 rw [List.getElem_range] at e
 subst e
 rw [List.length_range] at hi
 refine ⟨hi,h1,fun j hj=>?_⟩
 have:=h2 j hj
 rw [List.getElem_range] at this
 simpa using this
theorem qfb {m:Fm} {D:List Nat} (h:nxt m D=none):∀ j,j<m.F.length->rdyB m D j=false:=by
 intro j hj
 unfold nxt at h
 have:=List.find?_eq_none.1 h j (List.mem_range.2 hj)
 simpa using this
theorem qc7 {m:Fm} {i k:Nat} (h:nxt m (ordL m i)=some k):ordL m (i+1)=ordL m i++[k]:=by
 show (match nxt m (ordL m i) with | some k=>ordL m i++[k] | none=>ordL m i)=_
 rw [h]
theorem qc6 {m:Fm} {i:Nat} (h:nxt m (ordL m i)=none):ordL m (i+1)=ordL m i:=by
 show (match nxt m (ordL m i) with | some k=>ordL m i++[k] | none=>ordL m i)=_
 rw [h]
theorem qjo (m:Fm) (i:Nat):∀ k,k ∈ ordL m i->k<m.F.length:=by
 induction i with
 | zero=>intro k hk;cases hk
 | succ i ih =>
  cases h:nxt m (ordL m i) with
  | none=>rw [qc6 h];exact ih
  | some j =>
   rw [qc7 h]
   intro k hk
   rcases List.mem_append.1 hk with hk | hk
   . exact ih k hk
   . rw [List.mem_singleton.1 hk];exact (qfc h).1
theorem q8w (m:Fm) (i:Nat):(ordL m i).Nodup:=by
 induction i with
 | zero=>exact List.nodup_nil
 | succ i ih =>
  cases h:nxt m (ordL m i) with
  | none=>rw [qc6 h];exact ih
  | some j =>
   rw [qc7 h,List.nodup_append]
   refine ⟨ih,(by simp),fun a ha b hb e=>?_⟩
   rw [List.mem_singleton.1 hb] at e
   subst e
   have:=(qfc h).2.1
   unfold rdyB at this
   rw [decide_eq_true ha] at this
   simp at this
theorem q8x {m:Fm} {i:Nat} (h:nxt m (ordL m i)=none):∀ d,ordL m (i+d)=ordL m i:=by
 intro d
 induction d with
 | zero=>rfl
 | succ d ih =>
  have:nxt m (ordL m (i+d))=none:=by rw [ih];exact h
  exact (qc6 this).trans ih
theorem at_mpR (r:List ByteArray) (hn:r.Nodup) (z:DataW Unit):∀ k (hk:k<r.length),(mpR r).atKey (kl r[k]) z=.lit (.int .i64 ((r.length - 1 - k:Nat):Int)):=by
 induction r with
 | nil=>intro k hk;cases hk
 | cons x r ih =>
  intro k hk
  rw [List.nodup_cons] at hn
  rw [show mpR (x :: r)=(mpR r).put (kl x) (.lit (.int .i64 (r.length:Int))) from rfl]
  cases k with
  | zero =>
   rw [List.getElem_cons_zero,Maps.atKey_put_same (qgr r).isMap (show WideAt.IsKeyLit (kl x) from trivial)]
   simp
  | succ k =>
   have hk':k<r.length:=by simpa using hk
   rw [List.getElem_cons_succ,Maps.atKey_put_other (fun e=>hn.1 (by rw [<- kl_inj e];exact List.getElem_mem hk')),ih hn.2 k hk']
   simp only [List.length_cons]
   congr 3
   omega
theorem at_mp (l:List ByteArray) (hn:l.Nodup) (z:DataW Unit) (k:Nat) (hk:k<l.length):(mp l).atKey (kl l[k]) z=.lit (.int .i64 (k:Int)):=by
 unfold mp
 have hr:l.reverse.Nodup:=(List.Perm.nodup_iff (List.reverse_perm l)).2 hn
 have h:=at_mpR l.reverse hr z (l.length - 1 - k) (by rw [List.length_reverse];omega)
 have e:l.reverse[l.length - 1 - k]'(by rw [List.length_reverse];omega)=l[k]:=by
  rw [List.getElem_reverse]
  congr 1
  omega
 rw [e,List.length_reverse] at h
 rw [h]
 congr 3
 omega
def fIdx (names:List ByteArray) (x:ByteArray):Nat:=names.findIdx fun y=>decide (y=x)
theorem qi2 {names:List ByteArray} {x:ByteArray} (h:x ∈ names):fIdx names x<names.length:=List.findIdx_lt_length.2 ⟨x,h,by simp⟩
theorem qe1 {names:List ByteArray} {x:ByteArray} (h:x ∈ names):names[fIdx names x]'(qi2 h)=x:=by
 have:=List.findIdx_getElem (xs:=names) (p:=fun y=>decide (y=x)) (w:=qi2 h)
 exact of_decide_eq_true this
theorem qi3 {names:List ByteArray} (hn:names.Nodup) {j:Nat} (hj:j<names.length):fIdx names names[j]=j:=by
 have hm:names[j] ∈ names:=List.getElem_mem hj
 have h1:=qe1 hm
 have h2:=qi2 hm
 rcases Nat.lt_trichotomy (fIdx names names[j]) j with h | h | h
 . exact absurd h1 (List.pairwise_iff_getElem.1 hn _ _ h2 hj h)
 . exact h
 . exact absurd h1.symm (List.pairwise_iff_getElem.1 hn _ _ hj h2 h)
def rdL (names:List ByteArray) (l:List Nx):List Nat:=(l.filter fun n=>decide (n.op=1)).map fun n=>fIdx names n.nm
theorem qbm {names:List ByteArray} {l:List Nx} (h:knows names l=true) {n:Nx} (hn:n ∈ l) (h1:n.op=1):n.nm ∈ names:=by
 unfold knows at h
 have:=List.all_eq_true.1 h n hn
 rw [decide_eq_true h1] at this
 exact (qf3 _ _).1 (by simpa using this)
theorem rdL_lt {names:List ByteArray} {l:List Nx} (h:knows names l=true):∀ j,j ∈ rdL names l->j<names.length:=by
 intro j hj
 unfold rdL at hj
 obtain ⟨n,hn,rfl⟩:=List.mem_map.1 hj
 rw [List.mem_filter,decide_eq_true_eq] at hn
 exact qi2 (qbm h hn.1 hn.2)
theorem qjd {names:List ByteArray} {l:List Nx} (hn:names.Nodup) (h:knows names l=true) {j:Nat} (hj:j<names.length):j ∈ rdL names l ↔ rdsN l names[j]=true:=by
 unfold rdL rdsN
 rw [List.any_eq_true]
 constructor
 . intro hx
   obtain ⟨n,hn',rfl⟩:=List.mem_map.1 hx
   rw [List.mem_filter,decide_eq_true_eq] at hn'
   exact ⟨n,hn'.1,by rw [decide_eq_true hn'.2,decide_eq_true (qe1 (qbm h hn'.1 hn'.2)).symm];rfl⟩
 . rintro ⟨n,hm,e⟩
   rw [Bool.and_eq_true,decide_eq_true_eq,decide_eq_true_eq] at e
   exact List.mem_map.2 ⟨n,List.mem_filter.2 ⟨hm,decide_eq_true e.1⟩,by rw [e.2];exact qi3 hn hj⟩
def fedL (m:Fm) (k:Nat):List Nat:=rdL (fNames m) (fAt m k).is++rdL (fNames m) (fAt m k).wh
theorem VfA.nod {m:Fm} (h:VfA m):(fNames m).Nodup:=by
 have:=h.f
 unfold namesOk at this
 rw [Bool.and_eq_true,decide_eq_true_eq] at this
 exact this.2
theorem q7p (m:Fm):(fNames m).length=m.F.length:=by simp [fNames]
theorem q7o {m:Fm} {j:Nat} (hj:j<m.F.length):(fNames m)[j]'(by rw [q7p];exact hj)=(fAt m j).nm:=by rw [qi1 hj];simp [fNames]
theorem VfA.knw {m:Fm} (h:VfA m) {k:Nat} (hk:k<m.F.length):knows (fNames m) (fAt m k).is=true/\knows (fNames m) (fAt m k).wh=true/\knows (fNames m) (fAt m k).va=true/\knows (fNames m) (fAt m k).mu=true:=by
 have:=h.kn _ (List.getElem_mem hk)
 rw [qi1 hk]
 unfold fieldKnows at this
 simp only [Bool.and_eq_true] at this
 exact ⟨this.1.1.1,this.1.1.2,this.1.2,this.2⟩
theorem qi5 {m:Fm} (h:VfA m) {k:Nat} (hk:k<m.F.length):∀ j,j ∈ fedL m k->j<m.F.length:=by
 intro j hj
 rw [<- q7p m]
 rcases List.mem_append.1 hj with hj | hj
 . exact rdL_lt (h.knw hk).1 j hj
 . exact rdL_lt (h.knw hk).2.1 j hj
theorem qf4 {m:Fm} (h:VfA m) {j k:Nat} (hj:j<m.F.length) (hk:k<m.F.length):j ∈ fedL m k ↔ fedB m j k=true:=by
 have hj':j<(fNames m).length:=by rw [q7p];exact hj
 unfold fedL fedB
 rw [List.mem_append,Bool.or_eq_true,qjd h.nod (h.knw hk).1 hj',qjd h.nod (h.knw hk).2.1 hj',q7o hj]
theorem q64 (m:Fm) (i:Nat):∀ k,k ∈ ordL m i->∀ j,j<m.F.length->fedB m j k=true->j ∈ ordL m i:=by
 induction i with
 | zero=>intro k hk;cases hk
 | succ i ih =>
  cases h:nxt m (ordL m i) with
  | none=>rw [qc6 h];exact ih
  | some x =>
   rw [qc7 h]
   intro k hk j hj hf
   rcases List.mem_append.1 hk with hk | hk
   . exact List.mem_append_left _ (ih k hk j hj hf)
   . rw [List.mem_singleton.1 hk] at hf
     have hr:=(qfc h).2.1
     unfold rdyB at hr
     rw [Bool.and_eq_true,List.all_eq_true] at hr
     have:=hr.2 j (List.mem_range.2 hj)
     rw [hf] at this
     exact List.mem_append_left _ (by simpa using this)
def waitZ (m:Fm) (D:List Nat) (k:Nat):Int:=((fedL m k).filter fun j=>!decide (j ∈ D)).length - (if k ∈ D then 1 else 0)
theorem qdl {m:Fm} (h:VfA m) (i:Nat) {k:Nat} (hk:k<m.F.length):waitZ m (ordL m i) k=0 ↔ rdyB m (ordL m i) k=true:=by
 unfold waitZ rdyB
 have h0:((fedL m k).filter fun j=>!decide (j ∈ ordL m i)).length=0 ↔ ∀ j,j<m.F.length->fedB m j k=true->j ∈ ordL m i:=by
  rw [List.length_eq_zero_iff,List.filter_eq_nil_iff]
  constructor
  . intro hx j hj hf
    have:=hx j ((qf4 h hj hk).2 hf)
    simpa using this
  . intro hx j hj
    have hj':=qi5 h hk j hj
    simp [hx j hj' ((qf4 h hj' hk).1 hj)]
 have h1:((List.range m.F.length).all fun j=>!fedB m j k || decide (j ∈ ordL m i))=true ↔ ∀ j,j<m.F.length->fedB m j k=true->j ∈ ordL m i:=by
  rw [List.all_eq_true]
  constructor
  . intro hx j hj hf
    have:=hx j (List.mem_range.2 hj)
    rw [hf] at this
    simpa using this
  . intro hx j hj
    cases hf:fedB m j k
    . rfl
    . simp [hx j (List.mem_range.1 hj) hf]
 by_cases hm:k ∈ ordL m i
 . rw [if_pos hm,decide_eq_true hm,h0.2 (q64 m i k hm)]
   simp
 . rw [if_neg hm,decide_eq_false hm]
   rw [show ((((fedL m k).filter fun j=>!decide (j ∈ ordL m i)).length:Int) - 0=0) ↔ ((fedL m k).filter fun j=>!decide (j ∈ ordL m i)).length=0 by omega,h0]
   simp only [Bool.not_false,Bool.true_and]
   exact h1.symm
theorem q54 (l D:List Nat) (x:Nat) (hx:x ∉ D):(l.filter fun j=>!decide (j ∈ D++[x])).length+l.count x=(l.filter fun j=>!decide (j ∈ D)).length:=by
 induction l with
 | nil=>rfl
 | cons y l ih =>
  by_cases e:y=x
  . subst e
    have h1:decide (y ∈ D++[y])=true:=by simp
    have h2:decide (y ∈ D)=false:=decide_eq_false hx
    simp only [List.filter_cons,h1,h2,List.count_cons_self]
    simp only [Bool.not_true,Bool.not_false,if_true]
    simp only [Bool.false_eq_true,if_false,List.length_cons]
    omega
  . have h3:decide (y ∈ D++[x])=decide (y ∈ D):=decide_eq_decide.2 (by simp [e])
    simp only [List.filter_cons,h3]
    rw [List.count_cons_of_ne e]
    split
    . simp only [List.length_cons];omega
    . exact ih
theorem qdk (m:Fm) (D:List Nat) (x:Nat) (hx:x ∉ D) (k:Nat):waitZ m (D++[x]) k=waitZ m D k - (fedL m k).count x - (if k=x then 1 else 0):=by
 unfold waitZ
 have h:=q54 (fedL m k) D x hx
 by_cases e:k=x
 . subst e
   rw [if_pos (by simp),if_neg hx,if_pos rfl]
   omega
 . rw [if_neg e]
   by_cases hm:k ∈ D
   . rw [if_pos (by simp [hm]),if_pos hm];omega
   . rw [if_neg (by simp [hm,e]),if_neg hm];omega
theorem q9y (m:Fm) (k:Nat):waitZ m [] k=(fedL m k).length:=by
 unfold waitZ
 rw [show (fedL m k).filter (fun j=>!decide (j ∈ ([]:List Nat)))=fedL m k from List.filter_eq_self.2 (fun _ _=>by simp)]
 simp
def fedT (m:Fm) (k j:Nat):List Nat:=(List.range k).flatMap fun i=>List.replicate ((fedL m i).count j) i
theorem qb4 (m:Fm) (j:Nat):fedT m 0 j=[]:=rfl
theorem qb3 (m:Fm) (k j:Nat):fedT m (k+1) j=fedT m k j++List.replicate ((fedL m k).count j) k:=by
 unfold fedT
 rw [List.range_succ,List.flatMap_append]
 simp
theorem qi6 (m:Fm) (k j:Nat):∀ i,i ∈ fedT m k j->i<k:=by
 intro i hi
 unfold fedT at hi
 obtain ⟨x,hx,h⟩:=List.mem_flatMap.1 hi
 rw [(List.mem_replicate.1 h).2]
 exact List.mem_range.1 hx
theorem q7q (m:Fm) (j i:Nat):∀ k,(fedT m k j).count i=if i<k then (fedL m i).count j else 0:=by
 intro k
 induction k with
 | zero=>rfl
 | succ k ih =>
  rw [qb3,List.count_append,ih,List.count_replicate]
  by_cases h:i<k
  . have hk:(k == i)=false:=beq_eq_false_iff_ne.2 (by omega)
    rw [if_pos h,if_pos (show i<k+1 by omega),hk]
    simp
  . by_cases e:i=k
    . subst e
      rw [if_neg h,if_pos (show i<i+1 by omega)]
      simp
    . have hk:(k == i)=false:=beq_eq_false_iff_ne.2 (by omega)
      rw [if_neg h,if_neg (show ¬ i<k+1 by omega),hk]
      simp
theorem qgk (l:List Nat) (h:∀ x,x ∈ l->x=0):l.sum=0:=by
 induction l with
 | nil=>rfl
 | cons x l ih=>rw [List.sum_cons,h x List.mem_cons_self,ih fun y hy=>h y (List.mem_cons_of_mem _ hy)]
theorem qd3 (n:Nat) (l:List Nat) (h:∀ x,x ∈ l->x<n):((List.range n).map fun j=>l.count j).sum=l.length:=by
 induction l with
 | nil =>
  refine qgk _ fun y hy=>?_
  obtain ⟨j,-,rfl⟩:=List.mem_map.1 hy
  rfl
 | cons x l ih =>
  have hx:=h x List.mem_cons_self
  have ih':=ih fun y hy=>h y (List.mem_cons_of_mem _ hy)
  have e:((List.range n).map fun j=>(x :: l).count j).sum=((List.range n).map fun j=>l.count j).sum+((List.range n).map fun j=>if j=x then 1 else 0).sum:=by
   clear ih ih' h hx
   induction n with
   | zero=>rfl
   | succ n ihn =>
    rw [List.range_succ]
    simp only [List.map_append,List.sum_append,List.map_cons,List.map_nil,List.sum_cons,List.sum_nil,Nat.add_zero]
    rw [ihn,List.count_cons]
    have:(if (x == n)=true then 1 else 0)=if n=x then 1 else 0:=by
     by_cases e:n=x
     . subst e;simp
     . rw [if_neg e,if_neg (by simp;omega)]
    rw [this]
    omega
  have e2:((List.range n).map fun j=>if j=x then 1 else 0).sum=1:=by
   clear e ih ih' h
   induction n with
   | zero=>omega
   | succ n ihn =>
    rw [List.range_succ]
    simp only [List.map_append,List.sum_append,List.map_cons,List.map_nil,List.sum_cons,List.sum_nil,Nat.add_zero]
    by_cases e:n=x
    . subst e
      rw [if_pos rfl]
      have:((List.range n).map fun j=>if j=n then 1 else 0).sum=0:=by
       refine qgk _ fun y hy=>?_
       obtain ⟨j,hj,rfl⟩:=List.mem_map.1 hy
       rw [if_neg (by have:=List.mem_range.1 hj;omega)]
      omega
    . rw [if_neg e,ihn (by omega)]
  rw [e,e2,ih',List.length_cons]
inductive Rch (m:Fm) (k:Nat):Nat->Prop
 | one {i:Nat}:i<m.F.length->fedB m k i=true->Rch m k i
 | step {j i:Nat}:Rch m k j->i<m.F.length->fedB m j i=true->Rch m k i
theorem Rch.lt {m:Fm} {k i:Nat} (h:Rch m k i):i<m.F.length:=by cases h <;> assumption
theorem q2s {m:Fm} {k:Nat} {M:Nat->Bool} (hc:∀ j,(j=k ∨ M j=true)->∀ i,i<m.F.length->fedB m j i=true->M i=true):∀ i,Rch m k i->M i=true:=by
 intro i h
 induction h with
 | one hi hf=>exact hc k (.inl rfl) _ hi hf
 | step _ hi hf ih=>exact hc _ (.inr ih) _ hi hf
end Go.Proofs.YtgkcaeidhkddjaaGreatDoor
namespace Go.Proofs.YtgkcaeidhkddjaaGreatDoor
open Go Go.RowKit
def up {α:Type} (f:Nat->α) (j:Nat) (v:α):Nat->α:=fun i=>if i=j then v else f i
theorem up_at {α:Type} (f:Nat->α) (j:Nat) (v:α):up f j v j=v:=if_pos rfl
theorem up_ne {α:Type} (f:Nat->α) {i j:Nat} (v:α) (h:i ≠ j):up f j v i=f i:=if_neg h
theorem map_up {α:Type} (g:α->Value) (f:Nat->α) (n j:Nat) (v:α):((List.range n).map fun k=>g (f k)).set j (g v)=(List.range n).map fun k=>g (up f j v k):=by
 refine List.ext_getElem (by simp) fun i h1 h2=>?_
 simp only [List.length_set,List.length_map,List.length_range] at h1
 rw [List.getElem_set]
 simp only [List.getElem_map,List.getElem_range]
 by_cases e:j=i
 . subst e;rw [if_pos rfl,up_at]
 . rw [if_neg e,up_ne f v (fun h=>e h.symm)]
def zs (n:Nat) (f:Nat->Int):List Value:=(List.range n).map fun k=>.int .i64 (f k)
theorem zs_at {n i:Nat} (f:Nat->Int) (h:i<n):(zs n f)[i]? = some (.int .i64 (f i)):=by simp [zs,h]
theorem zs_set {n j:Nat} (f:Nat->Int) (v:Int):(zs n f).set j (.int .i64 v)=zs n (up f j v):=map_up (fun x=>.int .i64 x) f n j v
theorem qh5 {n:Nat} {f g:Nat->Int} (h:∀ i,i<n->f i=g i):zs n f=zs n g:=List.map_congr_left fun i hi=>by rw [h i (List.mem_range.1 hi)]
theorem qcc {X:Nat->Prop} {w w':World} {base n size:Nat} {e:TypeId} {v:Value} {xs:List Value} (h:w.ownsRow base e size v n xs) (hk:KeepX X w w') (hx:∀ k,X k->k<base):w'.ownsRow base e size v n xs:=by
 refine ⟨h.1,?_⟩
 rcases h.2 with h2 | ⟨g,cap,cur,h1,hb,hg,r⟩
 . exact .inl h2
 . exact .inr ⟨g,cap,cur,h1,hb,hk.same g cur e _ (fun hX=>by have:=hx g hX;omega) hg,r⟩
theorem qce {w w':World} {base n size:Nat} {e:TypeId} {v:Value} {xs:List Value} (h:w.ownsRow base e size v n xs) (hb:Below w.heap.size w w'):w'.ownsRow base e size v n xs :=
 h.kept (row:=none) ⟨hb.os,hb.tape,hb.output,hb.size,fun k hk _=>hb.block k hk⟩ (Classical.em _)
structure Fam (w:World) (base n:Nat) (V:Nat->Value) (L:Nat->List Nat):Prop where
 own:∀ j,j<n->w.ownsRow base 3 1 (V j) (L j).length (ui (L j))
 apart:∀ i j,i<n->j<n->i ≠ j->(V i).ownBlock=none ∨ (V i).ownBlock ≠ (V j).ownBlock
theorem Fam.mono {w w':World} {base n:Nat} {V:Nat->Value} {L:Nat->List Nat} (h:Fam w base n V L) (hb:Below w.heap.size w w'):Fam w' base n V L:=⟨fun j hj=>qce (h.own j hj) hb,h.apart⟩
theorem Fam.keep {X:Nat->Prop} {w w':World} {base n:Nat} {V:Nat->Value} {L:Nat->List Nat} (h:Fam w base n V L) (hk:KeepX X w w') (hx:∀ k,X k->k<base):Fam w' base n V L:=⟨fun j hj=>qcc (h.own j hj) hk hx,h.apart⟩
theorem Fam.none (w:World) (base n:Nat):Fam w base n (fun _=>.slice none 0 0) (fun _=>[]):=⟨fun _ _=>World.ownsRow_nil _ _ _ _,fun _ _ _ _ _=>.inl rfl⟩
theorem Fam.sub {w:World} {base n n':Nat} {V:Nat->Value} {L:Nat->List Nat} (h:Fam w base n V L) (hn:n'<=n):Fam w base n' V L:=⟨fun j hj=>h.own j (by omega),fun i j hi hj=>h.apart i j (by omega) (by omega)⟩
theorem Fam.congr {w:World} {base n:Nat} {V V':Nat->Value} {L L':Nat->List Nat} (h:Fam w base n V L) (hV:∀ j,j<n->V' j=V j) (hL:∀ j,j<n->L' j=L j):Fam w base n V' L' :=
 ⟨fun j hj=>by rw [hV j hj,hL j hj];exact h.own j hj,fun i j hi hj hne=>by rw [hV i hi,hV j hj];exact h.apart i j hi hj hne⟩
theorem own_lt {w:World} {base n size:Nat} {e:TypeId} {v:Value} {xs:List Value} (h:w.ownsRow base e size v n xs) {k:Nat} (hk:k ≥ w.heap.size):v.ownBlock ≠ some k:=fun e=>by have:=(h.lt k e).2;omega
theorem Fam.snoc {w w':World} {base n:Nat} {V:Nat->Value} {L:Nat->List Nat} {v:Value} {l:List Nat} (h:Fam w base n V L) (hb:Below w.heap.size w w') (hbs:base<=w.heap.size) (ho:w'.ownsRow w.heap.size 3 1 v l.length (ui l)):Fam w' base (n+1) (up V n v) (up L n l):=by
 have ho':w'.ownsRow base 3 1 v l.length (ui l):=by
  refine ⟨ho.1,?_⟩
  rcases ho.2 with h2 | ⟨g,cap,cur,h1,hb,r⟩
  . exact .inl h2
  . exact .inr ⟨g,cap,cur,h1,by omega,r⟩
 refine ⟨fun j hj=>?_,fun i j hi hj hne=>?_⟩
 . by_cases e:j=n
   . subst e;rw [up_at,up_at];exact ho'
   . rw [up_ne _ _ e,up_ne _ _ e];exact qce (h.own j (by omega)) hb
 . have hx:∀ i,i<n->(V i).ownBlock=Option.none ∨ (V i).ownBlock ≠ v.ownBlock:=fun i hi=>by
    cases e1:(V i).ownBlock with
    | none=>exact .inl rfl
    | some q =>
     refine .inr fun e2=>?_
     have h1:=((h.own i hi).lt q e1).2
     have h2:=(ho.lt q e2.symm).1
     omega
   by_cases ei:i=n
   . subst ei
     rw [up_at,up_ne _ _ (fun e=>hne e.symm)]
     rcases hx j (by omega) with h1 | h1
     . rw [h1]
       cases v.ownBlock with
       | none=>exact .inl rfl
       | some q=>exact .inr (by simp)
     . exact .inr fun e=>h1 e.symm
   . rw [up_ne _ _ ei]
     by_cases ej:j=n
     . subst ej;rw [up_at];exact hx i (by omega)
     . rw [up_ne _ _ ej];exact h.apart i j (by omega) (by omega) hne
theorem Fam.add {w w':World} {base n j x:Nat} {V:Nat->Value} {L:Nat->List Nat} {v:Value} (h:Fam w base n V L) (hj:j<n) (ho:w'.ownsRow base 3 1 v (L j++[x]).length (ui (L j++[x]))) (hg:w.grownBy w' (V j).ownBlock) (hat:v.ownBlock=(V j).ownBlock ∨ v.ownBlock=some w.heap.size):Fam w' base n (up V j v) (up L j (L j++[x])):=by
 refine ⟨fun i hi=>?_,fun i i' hi hi' hne=>?_⟩
 . by_cases e:i=j
   . subst e;rw [up_at,up_at];exact ho
   . rw [up_ne _ _ e,up_ne _ _ e];exact (h.own i hi).kept hg (h.apart i j hi hj e)
 . by_cases e:i=j
   . subst e
     rw [up_at,up_ne _ _ (fun e=>hne e.symm)]
     rcases hat with e2 | e2
     . rw [e2];exact h.apart i i' hi hi' hne
     . exact .inr fun e3=>own_lt (h.own i' hi') (nR _) (e3.symm.trans e2)
   . rw [up_ne _ _ e]
     by_cases e':i'=j
     . subst e'
       rw [up_at]
       rcases hat with e2 | e2
       . rw [e2];exact h.apart i i' hi hi' hne
       . exact .inr fun e3=>own_lt (h.own i hi) (nR _) (e3.trans e2)
     . rw [up_ne _ _ e'];exact h.apart i i' hi hi' hne
def HoldF (w:World) (F n:Nat) (V:Nat->Value):Prop:=Blk w F 84 ((List.range n).map V)
theorem HoldF.at {w:World} {F n:Nat} {V:Nat->Value} (h:HoldF w F n V) {j:Nat} (hj:j<n):w.cell? ⟨F,j,none⟩=some (V j):=by
 have:=Blk.cell h j
 rw [this]
 simp [hj]
theorem HoldF.congr {w:World} {F n:Nat} {V V':Nat->Value} (h:HoldF w F n V) (hV:∀ j,j<n->V' j=V j):HoldF w F n V':=by
 unfold HoldF
 rw [List.map_congr_left fun j hj=>hV j (List.mem_range.1 hj)]
 exact h
theorem qgh {w w':World} {base F n N j x:Nat} {V:Nat->Value} {L:Nat->List Nat} {v:Value} (hH:HoldF w F n V) (hF:F<base) (h:Fam w base N V L) (hj:j<N) (ho:w'.ownsRow base 3 1 v (L j++[x]).length (ui (L j++[x]))) (hg:w.grownBy w' (V j).ownBlock) (hat:v.ownBlock=(V j).ownBlock ∨ v.ownBlock=some w.heap.size) :
 HoldF (w'.setCell ⟨F,j,none⟩ v) F n (up V j v)/\Fam (w'.setCell ⟨F,j,none⟩ v) base N (up V j v) (up L j (L j++[x])):=by
 constructor
 . have h1:Blk w' F 84 ((List.range n).map V):=Blk.grown hH hg (fun e=>by have:=((h.own j hj).lt F e.symm).1;omega)
   have h2:=h1.set j v
   rw [show ((List.range n).map V).set j v=(List.range n).map fun k=>up V j v k from map_up (fun x=>x) V n j v] at h2
   exact h2
 . exact (h.add hj ho hg hat).keep (X:=fun b=>b=F) (KeepX.set (a:=⟨F,j,none⟩) v rfl) (fun k hk=>by omega)
theorem q77 {W w w':World} {base F j:Nat} {v u:Value} {n:Nat} {xs:List Value} (hb:Below F W w) (hFb:F<base) (hF:F<w.heap.size) (ho:w.ownsRow base 3 1 u n xs) (hg:w.grownBy w' u.ownBlock):Below F W (w'.setCell ⟨F,j,none⟩ v) :=
 (hb.grown hg (Nat.le_of_lt hF) (fun q e=>by have:=(ho.lt q e).1;omega)).setCell (p:=⟨F,j,none⟩) (nR _) v
def fedP (m:Fm) (k i j:Nat):List Nat:=fedT m k j++List.replicate (((fedL m k).take i).count j) k
theorem qb2 (m:Fm) (k:Nat):fedP m k 0=fedT m k:=by
 funext j
 unfold fedP
 simp
theorem qb0 (m:Fm) (k:Nat):fedP m k (fedL m k).length=fedT m (k+1):=by
 funext j
 unfold fedP
 rw [List.take_of_length_le (nR _),qb3]
theorem qb1 {m:Fm} {k i:Nat} (h:i<(fedL m k).length):fedP m k (i+1)=up (fedP m k i) (fedL m k)[i] (fedP m k i (fedL m k)[i]++[k]):=by
 funext j
 unfold fedP
 rw [List.take_succ_eq_append_getElem h,List.count_append]
 by_cases e:j=(fedL m k)[i]
 . subst e
   rw [up_at,List.count_singleton_self,List.append_assoc,List.replicate_succ']
 . rw [up_ne _ _ e,List.count_singleton,if_neg (by simpa using fun h=>e h.symm),Nat.add_zero]
theorem qg5 {l:List Nx} (h:ruleOk l=true):l.length<=1000:=by
 unfold ruleOk at h
 rw [Bool.or_eq_true] at h
 rcases h with h | h
 . have:=of_decide_eq_true h;omega
 . unfold vxL at h
   exact ((ql2 _ _).1 h).2.1
theorem qe3 {m:Fm} (h:VfA m) {k:Nat} (hk:k<m.F.length):(fedL m k).length<=2000:=by
 have hok:=(q53 _ _ _).1 (h.fi _ (List.getElem_mem hk))
 have h1:=qg5 hok.i
 have h2:=qg5 hok.h
 have h3:∀ l,(rdL (fNames m) l).length<=l.length:=fun l=>by unfold rdL;rw [List.length_map];exact List.length_filter_le _ _
 have h4:=h3 m.F[k].is
 have h5:=h3 m.F[k].wh
 unfold fedL
 rw [qi1 hk,List.length_append]
 omega
theorem qe5 {m:Fm} (h:VfA m) (j:Nat):∀ k,k<=m.F.length->(fedT m k j).length<=k*2000:=by
 intro k
 induction k with
 | zero=>intro _;simp [qb4]
 | succ k ih =>
  intro hk
  have h1:=qe3 h (show k<m.F.length by omega)
  have h2:=List.count_le_length (a:=j) (l:=fedL m k)
  have h3:=ih (by omega)
  rw [qb3,List.length_append,List.length_replicate]
  omega
theorem qe4 {m:Fm} (h:VfA m) {k:Nat} (hk:k<m.F.length) (i j:Nat):(fedP m k i j).length<=402000:=by
 have h1:=qe5 h j k (by omega)
 have h2:=List.count_le_length (a:=j) (l:=(fedL m k).take i)
 have h3:=qe3 h hk
 have h4:=h.nf
 have h5:((fedL m k).take i).length<=(fedL m k).length:=List.length_take_le' _ _
 unfold fedP
 rw [List.length_append,List.length_replicate]
 omega
def cntL (L:Nat->List Nat) (j i:Nat):Nat:=((List.range j).map fun p=>(L p).count i).sum
theorem qao (L:Nat->List Nat) (i:Nat):cntL L 0 i=0:=rfl
theorem qam (L:Nat->List Nat) (j i:Nat):cntL L (j+1) i=cntL L j i+(L j).count i:=by
 unfold cntL
 rw [List.range_succ]
 simp
def cntP (L:Nat->List Nat) (j p i:Nat):Nat:=cntL L j i+((L j).take p).count i
theorem qar (L:Nat->List Nat) (j:Nat):cntP L j 0=cntL L j:=by
 funext i
 unfold cntP
 simp
theorem qap (L:Nat->List Nat) (j:Nat):cntP L j (L j).length=cntL L (j+1):=by
 funext i
 unfold cntP
 rw [List.take_of_length_le (nR _),qam]
theorem qaq {L:Nat->List Nat} {j p:Nat} (h:p<(L j).length) (i:Nat):cntP L j (p+1) i=up (cntP L j p) (L j)[p] (cntP L j p (L j)[p]+1) i:=by
 unfold cntP
 rw [List.take_succ_eq_append_getElem h,List.count_append]
 by_cases e:i=(L j)[p]
 . subst e
   rw [up_at,List.count_singleton_self]
   omega
 . rw [up_ne _ _ e,List.count_singleton,if_neg (by simpa using fun h=>e h.symm),Nat.add_zero]
theorem qan {m:Fm} (h:VfA m) {i:Nat} (hi:i<m.F.length):((cntL (fedT m m.F.length) m.F.length i:Nat):Int)=waitZ m [] i:=by
 rw [q9y]
 unfold cntL
 rw [List.map_congr_left (fun p _=>by rw [q7q,if_pos hi]),qd3 _ _ (qi5 h hi)]
theorem qhv {L:Nat->List Nat} {B:Nat} (hL:∀ j,(L j).length<=B) (i:Nat):∀ j,cntL L j i<=j*B:=by
 intro j
 induction j with
 | zero=>simp [qao]
 | succ j ih =>
  have:=List.count_le_length (a:=i) (l:=L j)
  have:=hL j
  rw [qam,Nat.succ_mul]
  omega
def waitP (m:Fm) (D:List Nat) (x p k:Nat):Int:=waitZ m D k - (if k=x then 1 else 0) - ((fedT m m.F.length x).take p).count k
theorem q9x (m:Fm) (D:List Nat) (x:Nat) (k:Nat):up (waitZ m D) x (waitZ m D x - 1) k=waitP m D x 0 k:=by
 unfold waitP
 by_cases e:k=x
 . subst e;rw [up_at,if_pos rfl];simp
 . rw [up_ne _ _ e,if_neg e];simp
theorem q9w {m:Fm} {D:List Nat} {x p:Nat} (h:p<(fedT m m.F.length x).length) (k:Nat):up (waitP m D x p) (fedT m m.F.length x)[p] (waitP m D x p (fedT m m.F.length x)[p] - 1) k=waitP m D x (p+1) k:=by
 unfold waitP
 rw [List.take_succ_eq_append_getElem h,List.count_append]
 by_cases e:k=(fedT m m.F.length x)[p]
 . subst e
   rw [up_at,List.count_singleton_self]
   omega
 . have hc:((fedT m m.F.length x)[p] == k)=false:=beq_eq_false_iff_ne.2 fun h=>e h.symm
   rw [up_ne _ _ e,List.count_singleton,hc]
   simp
theorem q9v {m:Fm} {D:List Nat} {x:Nat} (hx:x ∉ D) {k:Nat} (hk:k<m.F.length):waitP m D x (fedT m m.F.length x).length k=waitZ m (D++[x]) k:=by
 rw [qdk m D x hx k]
 unfold waitP
 rw [List.take_of_length_le (nR _),q7q,if_pos hk]
 omega
def wV (m:Fm) (A:MA) (b:Nat):Value:=.agg #[.slice A.l m.L.length A.lc,.slice A.p m.P.length A.pc,.slice A.r m.R.length A.rc,.slice A.f m.F.length A.fc,.map (some b)]
section
variable {md:Region.Mode} {ops:Array Oper} {Q:Exit->Act->World->Prop} {S:World->Prop} {o:Oper} {a:Act} {fuel:Nat} {listed:Array Bool} {i:Nat} {w w':World}
theorem runZ {v:Value} (d:Tmp) (hi:ops[i]? = some o) (hd:o.dst=some d) (hw:Region.wanted o (yielded ops a.tmps)=true) (hr:Region.ready md ops listed=[i])
 (hrun:(execOp a.eval o).run Tryz.prog w=.ok (.value v) w') (hS:S w') (h:wpAnyH Tryz.prog md ops Q S fuel (listed.setIfInBounds i true) { tmps:=a.tmps.setIfInBounds d v,defers:=a.defers } w'):wpAnyH Tryz.prog md ops Q S (fuel+1) listed a w :=
 wpAnyH_ready hr (by simp) (consRun d hi hd hw hrun hS h AllReadyH.nil)
end
theorem q52 (m:Fm) (A:MA) (b k:Nat) (w:World) (hk:k<m.F.length) (ha:MSl w m A) :
 Calls Tryz.prog 143 #[wV m A b,.int .i64 k] w fun r w'=>∃ g,r=.returned (.slice (some ⟨g,0,none⟩) 2 2)/\Blk w' g 92 [.slice (A.fa k).i m.F[k].is.length (A.fa k).ic,.slice (A.fa k).h m.F[k].wh.length (A.fa k).hc]/\Below w.heap.size w w':=by
 obtain ⟨al,alc,ap,apc,ar,arc,af,afc,afa⟩:=A
 unfold wV
 dsimp only
 have HK:=h_ (Blk.new w 112 #[.slice al m.L.length alc,.slice ap m.P.length apc,.slice ar m.R.length arc,.slice af m.F.length afc,.map (some b)])
 have HB:=h_ ((bR w.heap.size w).alloc (nR _) (.cells #[.slice al m.L.length alc,.slice ap m.P.length apc,.slice ar m.R.length arc,.slice af m.F.length afc,.map (some b)] 112))
 obtain ⟨W0,hW0⟩:∃ W0,w.alloc (.cells #[.slice al m.L.length alc,.slice ap m.P.length apc,.slice ar m.R.length arc,.slice af m.F.length afc,.map (some b)] 112)=W0:=⟨_,rfl⟩
 rw [hW0] at HK HB
 have HS:=h_ (ha.mono (u_ HB))
 clear ha
 obtain ⟨pb,po,e1,⟨hbl,-,-,-,-,x4,x5,-⟩,-⟩:=(u_ HS).f k hk
 dsimp only at e1 x4 x5
 subst e1
 have hk':(k:Int)<m.F.length:=by omega
 obtain ⟨-,-,-,y3,-⟩:=five (u_ HK)
 have y3':=y3
 generalize m.F[k]=f at *
 generalize afa k=fa at *
 obtain ⟨ab,abc,ai,aic,ah,ahc,av,avc,au,auc⟩:=fa
 dsimp only at x4 x5 ⊢
 go_enter Tryz.func143,Tryz.ntmps143
 go_wp2_with fail
 try rw [hW0]
 clear hW0
 refine wp_region_held_drew (S:=fun w'=>w'.cell? ⟨w.heap.size,3,none⟩=some (.slice (some ⟨pb,po,none⟩) m.F.length afc)/\w'.cell? ⟨pb,po+k*9+4,none⟩=some (.slice ai f.is.length aic)/\w'.cell? ⟨pb,po+k*9+5,none⟩=some (.slice ah f.wh.length ahc)) (by kernel_rfl) ⟨y3,x4,x5⟩ (fun zz=>?_)
 refine tk 0 5 (.pointer (some ⟨w.heap.size,0,none⟩)) zz ?_
 refine tk 1 6 (.pointer (some ⟨w.heap.size,3,none⟩)) zz ?_
 refine tk 2 7 (.slice (some ⟨pb,po,none⟩) m.F.length afc) zz ?_
 refine tk 3 8 (.int .i64 k) zz ?_
 simp only [sX,sY,sZ]
 refine tk 4 9 (.pointer (some ⟨pb,po+k*9,none⟩)) zz ?_
 refine tk 5 10 (.pointer (some ⟨pb,po+k*9+4,none⟩)) zz ?_
 refine tk 6 11 (.slice ai f.is.length aic) zz ?_
 refine tk 7 12 (.pointer (some ⟨w.heap.size,0,none⟩)) zz ?_
 simp only [sX,sY,sZ]
 refine tk 8 13 (.pointer (some ⟨w.heap.size,3,none⟩)) zz ?_
 refine tk 9 14 (.slice (some ⟨pb,po,none⟩) m.F.length afc) zz ?_
 refine tk 10 15 (.int .i64 k) zz ?_
 refine tk 11 16 (.pointer (some ⟨pb,po+k*9,none⟩)) zz ?_
 simp only [sX,sY,sZ]
 refine tk 12 17 (.pointer (some ⟨pb,po+k*9+5,none⟩)) zz ?_
 refine tk 13 18 (.slice ah f.wh.length ahc) zz ?_
 simp only [sX,sY,sZ]
 have HD:Hid (Below W0.heap.size W0 W0.drew):=h_ (bR _ _).drew
 replace HK:=h_ ((u_ HK).mono (u_ HD) (u_ HK).lt);replace HB:=h_ ((u_ HB).trans ((u_ HD).mono (u_ HB).size))
 have hbl2:pb<W0.drew.heap.size:=hbl
 obtain ⟨V,hV⟩:∃ V,W0.drew=V:=⟨_,rfl⟩
 rw [hV] at HK HB zz hbl2 ⊢
 clear hV HD y3 y3' x4 x5
 have HBv:=h_ ((bR V.heap.size V).alloc (nR _) (.cells #[.slice ai f.is.length aic,.slice ah f.wh.length ahc] 92))
 have HG:=h_ (Blk.new V 92 #[.slice ai f.is.length aic,.slice ah f.wh.length ahc])
 obtain ⟨V2,hV2⟩:∃ V2,V.alloc (.cells #[.slice ai f.is.length aic,.slice ah f.wh.length ahc] 92)=V2:=⟨_,rfl⟩
 have hrun:V.alloc (.cells #[.slice ai f.is.length aic,.slice ah f.wh.length ahc] 92)=V2:=hV2
 rw [hV2] at HBv HG
 replace zz:V2.cell? ⟨w.heap.size,3,none⟩=some (.slice (some ⟨pb,po,none⟩) m.F.length afc)/\V2.cell? ⟨pb,po+k*9+4,none⟩=some (.slice ai f.is.length aic)/\V2.cell? ⟨pb,po+k*9+5,none⟩=some (.slice ah f.wh.length ahc):=⟨((u_ HBv).cell (u_ HK).lt).trans zz.1,((u_ HBv).cell hbl2).trans zz.2.1,((u_ HBv).cell hbl2).trans zz.2.2⟩
 refine runZ (i:=14) (v:=.slice (some ⟨V.heap.size,0,none⟩) 2 2) (w':=V2) 19 rfl rfl (by rfl) (by kernel_rfl) (by simp [execOp,go_sem,hrun]) zz ?_
 simp only [sX,sY,sZ]
 refine tk 15 4 (.slice (some ⟨V.heap.size,0,none⟩) 2 2) zz ?_
 simp only [sX,sY,sZ]
 refine wpAnyH_done (by kernel_rfl) ?_ _
 clear zz hrun hV2
 go_wp2_with fail
 go_ret
 exact ⟨_,rfl,u_ HG,(u_ HB).trans ((u_ HBv).mono (u_ HB).size)⟩
theorem qc8 (m:Fm) (A:MA) (b:Nat) (w:World) :
 Calls Tryz.prog 141 #[wV m A b] w fun r w'=>r=.returned (.func (.func 177) #[] #[.pointer (some ⟨w.heap.size,0,none⟩)])/\Blk w' w.heap.size 112 [.slice A.l m.L.length A.lc,.slice A.p m.P.length A.pc,.slice A.r m.R.length A.rc,.slice A.f m.F.length A.fc,.map (some b)]/\Below w.heap.size w w':=by
 obtain ⟨al,alc,ap,apc,ar,arc,af,afc,afa⟩:=A
 unfold wV
 dsimp only
 have HK:=h_ (Blk.new w 112 #[.slice al m.L.length alc,.slice ap m.P.length apc,.slice ar m.R.length arc,.slice af m.F.length afc,.map (some b)])
 have HB:=h_ ((bR w.heap.size w).alloc (nR _) (.cells #[.slice al m.L.length alc,.slice ap m.P.length apc,.slice ar m.R.length arc,.slice af m.F.length afc,.map (some b)] 112))
 go_enter Tryz.func141,Tryz.ntmps141
 go_wp2_with fail
 go_ret
 exact ⟨rfl,u_ HK,u_ HB⟩
theorem nf_mem {l:List Nx} {k:Nat} (h:k<l.length):nf l k ∈ l:=by rw [nf_get l k h];exact List.getElem_mem h
theorem qk7 {names:List ByteArray} {l:List Nx} {k:Nat} (h:k<l.length) (h1:(nf l k).op=1):rdL names (l.take (k+1))=rdL names (l.take k)++[fIdx names (nf l k).nm]:=by
 rw [nf_get l k h] at h1 ⊢
 unfold rdL
 rw [List.take_succ_eq_append_getElem h,List.filter_append,List.map_append]
 simp [h1]
theorem qck {names:List ByteArray} {l:List Nx} {k:Nat} (h:k<l.length) (h1:¬ (nf l k).op=1):rdL names (l.take (k+1))=rdL names (l.take k):=by
 rw [nf_get l k h] at h1
 unfold rdL
 rw [List.take_succ_eq_append_getElem h,List.filter_append,List.map_append]
 simp [h1]
theorem q48 (names:List ByteArray) (l:List Nx) (k:Nat):(rdL names (l.take k)).length<=(rdL names l).length:=by
 unfold rdL
 rw [List.length_map,List.length_map]
 exact ((List.take_sublist k l).filter _).length_le
theorem qb9 {names:List ByteArray} {rs:List (List Nx)} {k:Nat} (h:k<rs.length):(rs.take (k+1)).flatMap (rdL names)=(rs.take k).flatMap (rdL names)++rdL names rs[k]:=by
 rw [List.take_succ_eq_append_getElem h,List.flatMap_append]
 simp
theorem qe7 {names:List ByteArray} {rs:List (List Nx)} {k:Nat} (h:k<rs.length):((rs.take k).flatMap (rdL names)).length+(rdL names rs[k]).length<=(rs.flatMap (rdL names)).length:=by
 rw [<- List.length_append,<- qb9 h]
 conv=>rhs;rw [<- List.take_append_drop (k+1) rs,List.flatMap_append,List.length_append]
 omega
theorem qhd {names:List ByteArray} (hn:names.Nodup) {x:ByteArray} (hx:x ∈ names) (z:DataW Unit):(mp names).atKey (kl x) z=.lit (.int .i64 ((fIdx names x:Nat):Int)):=by
 have h:=at_mp names hn z (fIdx names x) (qi2 hx)
 rw [qe1 hx] at h
 exact h
theorem qj2 {D:DataW Unit} {k:Lit} {z:DataW Unit} {pc x:Int} (h1:D.atKey k z=.lit (.int .i64 pc)) (h2:D.atKey k z=.lit (.int .i64 x)):pc=x:=by
 rw [h1] at h2
 injection h2 with h2
 injection h2
theorem q36 (base:Nat) (l:List Nat) (x:Nat) (v:Value) (w:World) (ho:w.ownsRow base 3 1 v l.length (ui l)) (hl:l.length<=1000000) (hb:base<=w.heap.size) :
 Calls Tryz.prog 144 #[v,.int .i64 x] w fun r w'=>∃ v',r=.returned v'/\w'.ownsRow base 3 1 v' (l++[x]).length (ui (l++[x]))/\Below base w w':=by
 obtain ⟨i0,hi,hz0,hz1,hz2⟩:=info_parts infoI
 have HO:=h_ ho
 clear ho
 go_enter Tryz.func144,Tryz.ntmps144
 go_wp2_with (at_builtin;refine wpList_append_own _ rfl _ _ 84 rfl base 3 i0 _ 1 8 Tryz.underlying84 hi hz0 hz1 hz2 rfl (by omega) _ _ _ rfl ((u_ HO).alloc _) ⟨w.heap.size,0,none⟩ 1 1 [.int .i64 x] rfl rfl (qdt w 3 _) (by simp [Value.oneCell']) (by unfold maxLen;omega) (by omega) (by simp;omega) ?_;intro v' w3 ho' hgr' _)
 have HO2:Hid (w3.ownsRow base 3 1 v' (l++[x]).length (ui (l++[x]))):=h_ (by simpa [ui] using ho')
 have HB2:=h_ (((bR base w).alloc hb (.cells #[.int .i64 x] 3)).grown hgr' (by simp;omega) (fun q' e=>q8y (u_ HO) e))
 clear ho' hgr' hi hz0 hz1 hz2
 go_ret
 exact ⟨v',rfl,u_ HO2,u_ HB2⟩
theorem q3b (J:List Nat->Value->World->Prop) (g c b:Nat) (R:Nat->Option Addr) (RC:Nat->Nat) (rs:List (List Nx)) (names:List ByteArray) (v0:Value) (w:World) (hg:g<w.heap.size) (hn:rs.length<=1000)
 (hc:∀ k (h:k<rs.length),w.cell? ⟨g,k,none⟩=some (.slice (R k) rs[k].length (RC k))/\rs[k].length<=1000000/\NodL w (R k) rs[k]/\(∀ i,i<rs[k].length->Fit (nf rs[k] i))/\knows names rs[k]=true)
 (hnd:names.Nodup) (hm:PMap w b names) (hJ:∀ pre v W W',J pre v W->Below W.heap.size W W'->J pre v W')
 (hstep:∀ pre x v W,Below w.heap.size w W->J pre v W->x<names.length->pre.length<(rs.flatMap (rdL names)).length->Calls Tryz.prog 144 #[v,.int .i64 (x:Nat)] W fun r W'=>∃ v',r=.returned v'/\J (pre++[x]) v' W'/\Below w.heap.size W W')
 (h0:J [] v0 w) :
 Calls Tryz.prog 142 #[.slice (some ⟨g,0,none⟩) rs.length c,.map (some b),v0,.func (.func 144) #[] #[]] w fun r w'=>∃ v,r=.returned v/\J (rs.flatMap (rdL names)) v w'/\Below w.heap.size w w':=by
 have HC:=h_ hc;have HM:=h_ hm;have HJ:=h_ hJ;have HS:=h_ hstep;have H0:=h_ h0;have HG:=h_ hg;have HD:=h_ hnd
 clear hc hm hJ hstep h0 hnd hg
 go_enter Tryz.func142,Tryz.ntmps142
 go_wp2_with fail
 go_loopw [2,15] (fun v i wr=>∃ k:Nat,k<=rs.length/\i=.int .i64 k/\J ((rs.take k).flatMap (rdL names)) v wr/\Below w.heap.size w wr) (fun _ i _=>rs.length - (intOf i).toNat)
 case atStart=>exact ⟨0,nZ _,rfl,u_ H0,bR _ _⟩
 case round =>
  obtain ⟨k,hk,rfl,hj,hb⟩:=hrel
  have HJk:=h_ hj;have HB:=h_ hb
  clear hj hb
  by_cases hlt:k<rs.length
  . have hlt':(k:Int)<rs.length:=by omega
    obtain ⟨hcell,hlen,hnod,hfit,hkn⟩:=u_ HC k hlt
    have z0:=((u_ HB).cell (p:=⟨g,k,none⟩) (u_ HG)).trans hcell
    have HN:=h_ hnod;have HF:=h_ hfit;have HK:=h_ hkn
    have HT:Hid ((rs.take (k+1)).flatMap (rdL names)=(rs.take k).flatMap (rdL names)++rdL names rs[k]):=h_ (qb9 hlt)
    have HLe:Hid (((rs.take k).flatMap (rdL names)).length+(rdL names rs[k]).length<=(rs.flatMap (rdL names)).length):=h_ (qe7 hlt)
    clear hcell hnod hfit hkn
    generalize (rs.take k).flatMap (rdL names)=pre at *
    generalize rs[k]=l at *
    generalize R k=a at *
    generalize RC k=ac at *
    go_wp2_with fail
    go_loopw [2,21] (fun v i w3=>∃ q:Nat,q<=l.length/\i=.int .i64 q/\J (pre++rdL names (l.take q)) v w3/\Below w.heap.size w w3) (fun _ i _=>l.length - (intOf i).toNat)
    case atStart=>exact ⟨0,nZ _,rfl,by have h:=u_ HJk;simpa [rdL] using h,u_ HB⟩
    case round =>
     clear HJk HB z0
     obtain ⟨q,hq,rfl,hj,hb⟩:=hrel
     have HJq:=h_ hj;have HB:=h_ hb
     have HAr:=h_ ((u_ HN).mono hb);have HMr:=h_ ((u_ HM).mono hb)
     clear hj hb
     by_cases hql:q<l.length
     . have hql':(q:Int)<l.length:=by omega
       obtain ⟨pb,po,rfl,-,z0,z1,z2,z3,z4⟩:=u_ HAr q hql
       have HR:Hid ((nf l q).op=1->rdL names (l.take (q+1))=rdL names (l.take q)++[fIdx names (nf l q).nm]/\(nf l q).nm ∈ names):=h_ fun h1=>⟨qk7 hql h1,qbm (u_ HK) (nf_mem hql) h1⟩
       have HRo:Hid (¬ (nf l q).op=1->rdL names (l.take (q+1))=rdL names (l.take q)):=h_ fun h1=>qck hql h1
       have HQl:Hid ((rdL names (l.take (q+1))).length<=(rdL names l).length):=h_ (q48 names l (q+1))
       have HFk:=h_ (u_ HF q hql)
       generalize nf l q=n at *
       have HKf:=h_ (Blk.new wr 200 #[.int .i64 n.op,.int .i64 n.v.k,.int .i64 n.v.n,.string n.v.s,.string n.nm])
       have HBa:=h_ ((bR wr.heap.size wr).alloc (nR _) (.cells #[.int .i64 n.op,.int .i64 n.v.k,.int .i64 n.v.n,.string n.v.s,.string n.nm] 200))
       obtain ⟨Wd,hWd⟩:∃ Wd,wr.alloc (.cells #[.int .i64 n.op,.int .i64 n.v.k,.int .i64 n.v.n,.string n.v.s,.string n.nm] 200)=Wd:=⟨_,rfl⟩
       rw [hWd] at HKf HBa
       have HBf:=h_ ((u_ HB).trans ((u_ HBa).mono (u_ HB).size))
       have HMf:=h_ ((u_ HMr).mono (u_ HBa))
       have HJd:=h_ (u_ HJ _ _ _ _ (u_ HJq) (u_ HBa))
       obtain ⟨x0,x1,x2,x3,x4⟩:=five (u_ HKf)
       by_cases h1:n.op=1
       . have h1':(n.op != 1)=false:=by rw [h1];rfl
         have h1'':(n.op == 1)=true:=by rw [h1];rfl
         obtain ⟨e1,hmem⟩:=u_ HR h1
         have HE:=h_ e1
         have HAt:Hid ((mp names).atKey (kl n.nm) (.lit (.int .i64 0))=.lit (.int .i64 ((fIdx names n.nm:Nat):Int))):=h_ (qhd (u_ HD) hmem _)
         have hxl:=qi2 hmem
         clear h1 e1 hmem HR HRo
         generalize fIdx names n.nm=x at *
         have HKy:Hid (keyOf Tryz.prog 9 (.string n.nm)=some (kl n.nm)):=h_ (WideMaps.keyOf_string_mk Tryz.underlying9 (u_ HFk).2.1)
         have HCa:=h_ (u_ HS _ x _ Wd (u_ HBf) (u_ HJd) hxl (by
          have:=u_ HLe;have:=u_ HQl
          rw [u_ HE,List.length_append] at this
          rw [List.length_append]
          simp at this
          omega))
         go_wp2_with (at_lookup;refine wpList_lookup_own_int _ rfl _ _ 110 rfl 9 3 .i64 (Maps.string_keyed Tryz.underlying9) Tryz.underlying110 Tryz.underlying3 (Tryz.zeroValue3 _) b names.length (mp names) rfl (by first | exact u_ HMf | (rw [hWd];exact u_ HMf)) _ _ rfl (u_ HKy) ?_;intro pc hpc _;obtain rfl:=qj2 hpc (u_ HAt);clear hpc)
         try rw [hWd]
         clear hWd HMf HKy
         refine (u_ HCa).mono ?_
         rintro r W2 ⟨v',rfl,hj2,hb2⟩
         have HJ2:Hid (J (pre++rdL names (l.take (q+1))) v' W2):=h_ (by rw [u_ HE,<- List.append_assoc];exact hj2)
         have HB2:=h_ ((u_ HBf).trans hb2)
         clear hj2 hb2 HCa
         go_wp2_with fail
         go_roundw
         case rel=>first | exact ⟨q+1,by omega,by go_num,u_ HJ2,u_ HB2⟩ | ((repeat apply Exists.intro);exact ⟨⟨q+1,by omega,by go_num,u_ HJ2,u_ HB2⟩,rfl⟩)
         case measure=>simp [intOf];omega
       . have h1':(n.op != 1)=true:=by simp [h1]
         have h1'':(n.op == 1)=false:=by simp [h1]
         have HJ2:=HJd
         rw [<- u_ HRo h1] at HJ2
         clear h1 HR HRo
         go_wp2_with fail
         try rw [hWd]
         clear hWd
         go_roundw
         case rel=>first | exact ⟨q+1,by omega,by go_num,u_ HJ2,u_ HBf⟩ | ((repeat apply Exists.intro);exact ⟨⟨q+1,by omega,by go_num,u_ HJ2,u_ HBf⟩,rfl⟩)
         case measure=>simp [intOf];omega
     . obtain rfl:q=l.length:=by omega
       have hql':¬ (l.length:Int)<(l.length:Int):=by omega
       have HJ2:=HJq
       rw [List.take_of_length_le (nR _),<- u_ HT] at HJ2
       go_wp2_with fail
       go_roundw
       case rel=>first | exact ⟨k+1,by omega,by go_num,u_ HJ2,u_ HB⟩ | ((repeat apply Exists.intro);exact ⟨⟨k+1,by omega,by go_num,u_ HJ2,u_ HB⟩,rfl⟩)
       case measure=>simp [intOf];omega
  . obtain rfl:k=rs.length:=by omega
    have hlt':¬ (rs.length:Int)<(rs.length:Int):=by omega
    have HJ2:=HJk
    rw [List.take_of_length_le (nR _)] at HJ2
    go_wp2_with fail
    go_ret
    exact ⟨_,rfl,u_ HJ2,u_ HB⟩
theorem q7t (m:Fm) (A:MA) (b g k:Nat) (w:World) (hv:VfA m) (hf:FitM m) (hk:k<m.F.length) (ha:MSl w m A) (hm:PMap w b (fNames m)) (hG:Blk w g 92 [.slice (A.fa k).i m.F[k].is.length (A.fa k).ic,.slice (A.fa k).h m.F[k].wh.length (A.fa k).hc]) :
 Calls Tryz.prog 142 #[.slice (some ⟨g,0,none⟩) 2 2,.map (some b),.slice none 0 0,.func (.func 144) #[] #[]] w fun r w'=>∃ v,r=.returned v/\w'.ownsRow w.heap.size 3 1 v (fedL m k).length (ui (fedL m k))/\Below w.heap.size w w':=by
 have hok:=(q53 _ _ _).1 (hv.fi _ (List.getElem_mem hk))
 have hff:=hf.f _ (List.getElem_mem hk)
 have hkn:=hv.knw hk
 obtain ⟨pb,po,-,-,hsl⟩:=ha.f k hk
 have he:fedL m k=[m.F[k].is,m.F[k].wh].flatMap (rdL (fNames m)):=by
  unfold fedL
  rw [qi1 hk]
  simp
 rw [qi1 hk] at hkn
 have hlen:=qe3 hv hk
 rw [he] at hlen ⊢
 refine q3b (fun pre v W=>W.ownsRow w.heap.size 3 1 v pre.length (ui pre)/\w.heap.size<=W.heap.size) g 2 b (fun i=>if i=0 then (A.fa k).i else (A.fa k).h) (fun i=>if i=0 then (A.fa k).ic else (A.fa k).hc) [m.F[k].is,m.F[k].wh] (fNames m) (.slice none 0 0) w hG.lt (by simp) ?_ hv.nod hm ?_ ?_ ⟨World.ownsRow_nil _ _ _ _,nR _⟩ |>.mono ?_
 . intro i hi
   have h1:=qg5 hok.i
   have h2:=qg5 hok.h
   obtain rfl | rfl:i=0 ∨ i=1:=by simp at hi;omega
   . exact ⟨hG.cell 0,by show m.F[k].is.length<=_;omega,hsl.i,hff.i,hkn.1⟩
   . exact ⟨hG.cell 1,by show m.F[k].wh.length<=_;omega,hsl.h,hff.h,hkn.2.1⟩
 . rintro pre v W W' ⟨h,hs⟩ hb
   exact ⟨h.kept (row:=none) ⟨hb.os,hb.tape,hb.output,hb.size,fun k hk _=>hb.block k hk⟩ (Classical.em _),Nat.le_trans hs hb.size⟩
 . rintro pre x v W hb ⟨h,hs⟩ hx hl
   refine (q36 w.heap.size pre x v W h (by omega) hs).mono ?_
   rintro r W' ⟨v',rfl,ho,hb'⟩
   exact ⟨v',rfl,⟨ho,Nat.le_trans hs hb'.size⟩,hb'⟩
 . rintro r w' ⟨v,rfl,⟨h,-⟩,hb⟩
   exact ⟨v,rfl,h,hb⟩
theorem qem:(Tryz.prog.info? 84).map (fun i=>(i.zero,i.size,i.bytes))=some (some (.slice none 0 0),1,24):=by kernel_rfl
theorem qbd {w:World} {base F n:Nat} (h:w.ownsRow base 84 1 (.slice (some ⟨F,0,none⟩) n n) n (madeCells #[Value.slice none 0 0] n).toList):HoldF w F n (fun _=>.slice none 0 0):=by
 have hb:=Blk.of_owns h
 rw [toList_madeCells_one] at hb
 unfold HoldF
 rw [List.map_const',List.length_range]
 exact hb
theorem ql4 {w:World} {base F n:Nat} (h:w.ownsRow base 3 1 (.slice (some ⟨F,0,none⟩) n n) n (madeCells #[Value.int .i64 0] n).toList):Blk w F 3 (zs n fun _=>0):=by
 have hb:=Blk.of_owns h
 rw [toList_madeCells_one] at hb
 unfold zs
 rw [List.map_const',List.length_range]
 exact hb
theorem own_at {w:World} {base:Nat} {v:Value} {l:List Nat} (h:w.ownsRow base 3 1 v l.length (ui l)):∃ a c,v=.slice a l.length c/\∀ i (hi:i<l.length),∃ g,a=some ⟨g,0,none⟩/\g<w.heap.size/\base<=g/\w.cell? ⟨g,i,none⟩=some (.int .i64 (l[i]:Nat)):=by
 rcases h.2 with ⟨h1,h2⟩ | ⟨g,cap,cur,h1,hb,hg,r⟩
 . exact ⟨none,0,by rw [h1,h2],fun i hi=>absurd hi (by omega)⟩
 . subst h1
   refine ⟨_,_,rfl,fun i hi=>⟨g,rfl,(Array.getElem?_eq_some_iff.1 hg).1,hb,?_⟩⟩
   rw [h.cellAt i (by omega)]
   simp [ui,hi]
theorem qfe {w:World} {base c:Nat} {a:Option Addr} {l:List Nat} (h:w.ownsRow base 3 1 (.slice a l.length c) l.length (ui l)) (i:Nat) (hi:i<l.length):∃ g,a=some ⟨g,0,none⟩/\g<w.heap.size/\base<=g/\w.cell? ⟨g,i,none⟩=some (.int .i64 (l[i]:Nat)):=by
 obtain ⟨a',c',e,h2⟩:=own_at h
 cases e
 exact h2 i hi
theorem qi7 (m:Fm) (A:MA) (b:Nat) (w:World) (hv:VfA m) (hf:FitM m) (ha:MSl w m A) (hm:PMap w b (fNames m)) :
 Calls Tryz.prog 116 #[wV m A b] w fun r w'=>∃ F V,r=.returned (.slice (some ⟨F,0,none⟩) m.F.length m.F.length)/\w.heap.size<=F/\HoldF w' F m.F.length V/\Fam w' (F+1) m.F.length V (fedT m m.F.length)/\Below w.heap.size w w':=by
 have HV:=h_ hv
 have HCf:=h_ fun W k (hk:k<m.F.length) (hs:MSl W m A)=>q52 m A b k W hk hs
 have HCg:=h_ fun W g k (hk:k<m.F.length) (hs:MSl W m A) (hp:PMap W b (fNames m)) hG=>q7t m A b g k W hv hf hk hs hp hG
 have hnf:=hv.nf
 obtain ⟨al,alc,ap,apc,ar,arc,af,afc,afa⟩:=A
 unfold wV at HCf ⊢
 dsimp only at HCf HCg ⊢
 have HK:=h_ (Blk.new w 112 #[.slice al m.L.length alc,.slice ap m.P.length apc,.slice ar m.R.length arc,.slice af m.F.length afc,.map (some b)])
 have HB:=h_ ((bR w.heap.size w).alloc (nR _) (.cells #[.slice al m.L.length alc,.slice ap m.P.length apc,.slice ar m.R.length arc,.slice af m.F.length afc,.map (some b)] 112))
 obtain ⟨W0,hW0⟩:∃ W0,w.alloc (.cells #[.slice al m.L.length alc,.slice ap m.P.length apc,.slice ar m.R.length arc,.slice af m.F.length afc,.map (some b)] 112)=W0:=⟨_,rfl⟩
 have hs0:W0.heap.size=w.heap.size+1:=by rw [<- hW0];simp
 rw [hW0] at HK HB
 have HS:=h_ ha;have HM:=h_ hm
 clear ha hm hv hf
 obtain ⟨i0,hi,hz0,hz1,hz2⟩:=info_parts qem
 have hbn:i0.bytes*m.F.length<=281474976710656:=by rw [hz2];omega
 obtain ⟨y0,y1,y2,y3,y4⟩:=five (u_ HK)
 go_enter Tryz.func116,Tryz.ntmps116
 go_wp2_with (at_make;refine wpList_make_full _ rfl (.tmp 10) (.tmp 10) 203 rfl (w.heap.size+1) 84 i0 _ 1 Tryz.underlying203 hi hz0 hz1 .i64 .i64 _ _ m.F.length rfl rfl rfl rfl hbn (by unfold maxLen;omega) (by first | omega | (simp;done)) ?_)
 intro w1 hown hgrow
 try rw [hW0] at hown hgrow
 try rw [hW0]
 try rw [hs0] at hown
 try rw [hs0]
 have hb1:Below (w.heap.size+1) W0 w1:=(bR _ _).grown hgrow (by omega) (fun k e=>by cases e)
 obtain ⟨F,hF⟩:∃ F,w.heap.size+1=F:=⟨_,rfl⟩
 rw [hF] at hown hb1 hs0
 try rw [hF]
 have HH:=h_ (qbd hown)
 have HKb:=h_ hb1
 clear hown hgrow hb1 hbn hi hz0 hz1 hz2 hW0 y0 y1 y2 y3 y4
 replace HB:=h_ ((u_ HB).trans ((u_ HKb).mono (by omega)))
 replace HK:=h_ ((u_ HK).mono (u_ HKb) (by omega))
 have hF1:F<w1.heap.size:=(u_ HH).lt
 clear HKb
 obtain ⟨y0,y1,y2,y3,y4⟩:=five (u_ HK)
 go_wp2_with fail
 clear y0 y1 y2 y3 y4
 go_loopw [16] (fun i wr=>∃ (k:Nat) (V:Nat->Value),k<=m.F.length/\i=.int .i64 k/\HoldF wr F m.F.length V/\Fam wr (F+1) m.F.length V (fedT m k)/\Below F w1 wr) (fun i _=>m.F.length - (intOf i).toNat)
 case atStart=>exact ⟨0,_,nZ _,rfl,u_ HH,Fam.none _ _ _,bR _ _⟩
 case round =>
  clear HH
  obtain ⟨k,V,hk,rfl,hh,hfam,hb⟩:=hrel
  have HH:=h_ hh;have HFm:=h_ hfam;have HBr:=h_ hb
  have HKr:=h_ ((u_ HK).mono hb (by omega))
  have HBw:Hid (Below w.heap.size w wr):=h_ ((u_ HB).trans (hb.mono (by omega)))
  have HSr:=h_ ((u_ HS).mono (u_ HBw));have HMr:=h_ ((u_ HM).mono (u_ HBw))
  have hFr:F<wr.heap.size:=hh.lt
  clear hh hfam hb
  by_cases hlt:k<m.F.length
  . have hlt':(k:Int)<m.F.length:=by omega
    go_wp2_with fail
    refine wp_region_held_drew (S:=fun w'=>Blk w' w.heap.size 112 [.slice al m.L.length alc,.slice ap m.P.length apc,.slice ar m.R.length arc,.slice af m.F.length afc,.map (some b)]) (by kernel_rfl) (u_ HKr) (fun zz=>?_)
    refine tk 0 19 (.agg #[.slice al m.L.length alc,.slice ap m.P.length apc,.slice ar m.R.length arc,.slice af m.F.length afc,.map (some b)]) zz ?_ (hy:=fun w hS=>by obtain ⟨q0,q1,q2,q3,q4⟩:=five hS;simp [execOp,go_sem,q0,q1,q2,q3,q4])
    refine tk 1 20 (.int .i64 k) zz ?_
    refine tk 3 22 (.pointer (some ⟨w.heap.size,4,none⟩)) zz ?_
    refine tk 4 23 (.map (some b)) zz ?_ (hy:=fun w hS=>by obtain ⟨q0,q1,q2,q3,q4⟩:=five hS;simp [execOp,go_sem,q4])
    simp only [sX,sY,sZ]
    refine tk 7 26 (.int .i64 0) zz ?_
    simp only [sX,sY,sZ]
    have HD:Hid (Below wr.heap.size wr wr.drew):=h_ (bR _ _).drew
    refine callY (i:=2) (f:=143) (args:=#[.agg #[.slice al m.L.length alc,.slice ap m.P.length apc,.slice ar m.R.length arc,.slice af m.F.length afc,.map (some b)],.int .i64 k]) (R:=fun v wz=>∃ g,v=.slice (some ⟨g,0,none⟩) 2 2/\Blk wz g 92 [.slice (afa k).i m.F[k].is.length (afa k).ic,.slice (afa k).h m.F[k].wh.length (afa k).hc]/\Below wr.heap.size wr wz) 21 rfl rfl (by rfl) (by kernel_rfl) ?hrun2 ((u_ HCf wr.drew k hlt ((u_ HSr).mono (u_ HD))).mono fun e w6 ⟨g,he,hg,hb⟩=>⟨_,he,g,rfl,hg,q26 hb⟩) ?_
    case hrun2=>simp [execOp,go_sem]
    rintro v W2 ⟨g,rfl,hg,hb2⟩
    replace zz:=(u_ HKr).mono hb2 (u_ HKr).lt
    have hs2:=hb2.size
    have HB2:=h_ hb2;have HGb:=h_ hg
    clear hg hb2
    refine ⟨zz,?_⟩
    simp only [sX,sY,sZ]
    refine callY (i:=5) (f:=142) (args:=#[.slice (some ⟨g,0,none⟩) 2 2,.map (some b),.slice none 0 0,.func (.func 144) #[] #[]]) (R:=fun v wz=>wz.ownsRow W2.heap.size 3 1 v (fedL m k).length (ui (fedL m k))/\Below W2.heap.size W2 wz) 24 rfl rfl (by rfl) (by kernel_rfl) ?hrun5 ((u_ HCg W2 g k hlt ((u_ HSr).mono (u_ HB2)) ((u_ HMr).mono (u_ HB2)) (u_ HGb)).mono fun e w6 ⟨v,he,ho,hb⟩=>⟨v,he,ho,hb⟩) ?_
    case hrun5=>simp [execOp,go_sem]
    rintro v W3 ⟨ho,hb3⟩
    replace zz:=zz.mono hb3 zz.lt
    have hs3:=hb3.size
    have HF3:=h_ (Fam.snoc ((u_ HFm).mono (u_ HB2)) hb3 (by omega) ho)
    obtain ⟨a,c,rfl,-⟩:=own_at ho
    have HH3:Hid (HoldF W3 F m.F.length (up V m.F.length (.slice a (fedL m k).length c))):=h_ (HoldF.congr (show HoldF W3 F m.F.length V from Blk.mono (Blk.mono (u_ HH) (u_ HB2) hFr) hb3 (by omega)) fun j hj=>up_ne _ _ (by omega))
    have HB3:Hid (Below F w1 W3):=h_ (((u_ HBr).trans ((u_ HB2).mono (by omega))).trans (hb3.mono (by omega)))
    have HVn:Hid ((up V m.F.length (.slice a (fedL m k).length c)) m.F.length=.slice a (fedL m k).length c):=h_ (up_at _ _ _)
    rw [<- qb2] at HF3
    generalize up V m.F.length (.slice a (fedL m k).length c)=V3 at *
    have hlen:=qe3 (u_ HV) hlt
    have HLt:=h_ (qi5 (u_ HV) hlt)
    have HPl:=h_ (fun p j=>qe4 (u_ HV) hlt p j)
    have HPz:Hid (∀ l',fedL m k=l'->∀ p (h:p<l'.length),fedP m k (p+1)=up (fedP m k p) l'[p] (fedP m k p l'[p]++[k])):=h_ fun l' e p h=>by subst e;exact qb1 h
    have HPf:=h_ (qb0 m k)
    clear ho hb3 HB2 HGb HFm HH HSr HMr
    refine ⟨zz,?_⟩
    simp only [sX,sY,sZ]
    clear zz
    have zz:Blk W3 w.heap.size 112 [.slice al m.L.length alc,.slice ap m.P.length apc,.slice ar m.R.length arc,.slice af m.F.length afc,.map (some b)]:=(u_ HKr).lt |> fun h=>(u_ HK).mono (u_ HB3) (by omega)
    refine tk 6 25 (.int .i64 (fedL m k).length) zz ?_
    simp only [sX,sY,sZ]
    refine wpAnyH_done (by kernel_rfl) ?_ _
    clear zz
    obtain ⟨l,hl⟩:∃ l,fedL m k=l:=⟨_,rfl⟩
    rw [hl] at HF3 HVn hlen HLt HPf ⊢
    have HPs:=h_ (u_ HPz l hl)
    clear HPz hl
    go_wp2_with fail
    go_loopw [26] (fun i w3=>∃ (p:Nat) (V':Nat->Value),p<=l.length/\i=.int .i64 p/\V' m.F.length=.slice a l.length c/\HoldF w3 F m.F.length V'/\Fam w3 (F+1) (m.F.length+1) V' (up (fedP m k p) m.F.length l)/\Below F w1 w3) (fun i _=>l.length - (intOf i).toNat)
    case atStart=>exact ⟨0,_,nZ _,rfl,u_ HVn,u_ HH3,u_ HF3,u_ HB3⟩
    case round =>
     clear HVn HH3 HF3 HB3 HBr HKr HBw hFr hs2 hs3
     obtain ⟨p,V',hp,rfl,hVn,hh,hfam,hb⟩:=hrel
     have hFr:F<wr.heap.size:=hh.lt
     have HH:=h_ hh;have HFm:=h_ hfam;have HBr:=h_ hb;have HVn:=h_ hVn
     by_cases hpl:p<l.length
     . have hpl':(p:Int)<l.length:=by omega
       have hown:=hfam.own m.F.length (by omega)
       rw [hVn,up_at] at hown
       obtain ⟨g2,rfl,hg2,-,zc⟩:=qfe hown p hpl
       have hjn:l[p]<m.F.length:=u_ HLt _ (List.getElem_mem hpl)
       have hjn':((l[p]:Nat):Int)<m.F.length:=by omega
       have HSt:=h_ (u_ HPs p hpl)
       have hLl:=u_ HPl p l[p]
       have hoj:=hfam.own l[p] (by omega)
       rw [up_ne _ _ (by omega)] at hoj
       have zj:=hh.at hjn
       have HOj:=h_ hoj
       generalize l[p]=j at *
       obtain ⟨i0,hi,hz0,hz1,hz2⟩:=info_parts infoI
       clear hh hfam hb hVn hown hoj
       go_wp2_with (at_builtin;refine wpList_append_own_at _ rfl _ _ 84 rfl (F+1) 3 i0 _ 1 8 Tryz.underlying84 hi hz0 hz1 hz2 rfl (by omega) _ _ _ rfl ((u_ HOj).alloc _) ⟨wr.heap.size,0,none⟩ 1 1 [.int .i64 k] rfl rfl (qdt wr 3 _) (by simp [Value.oneCell']) (by unfold maxLen;omega) (by omega) (by simp;omega) ?_)
       intro v' w4 ho' hgr' _ hat'
       have hba:=(bR wr.heap.size wr).alloc (nR _) (.cells #[.int .i64 k] 3)
       have ho2:w4.ownsRow (F+1) 3 1 v' (up (fedP m k p) m.F.length l j++[k]).length (ui (up (fedP m k p) m.F.length l j++[k])):=by
        rw [up_ne _ _ (by omega)]
        simpa [ui] using ho'
       obtain ⟨a',c',e',-⟩:=own_at ho2
       obtain ⟨n',hn'⟩:∃ n',(up (fedP m k p) m.F.length l j++[k]).length=n':=⟨_,rfl⟩
       rw [hn'] at e'
       clear hn'
       have hHa:HoldF (wr.alloc (.cells #[.int .i64 k] 3)) F m.F.length V':=Blk.mono (u_ HH) hba hFr
       have hFa:=(u_ HFm).mono hba
       have hst:=qgh hHa (by omega) hFa (by omega) ho2 hgr' (by rw [World.size_alloc];exact hat')
       have hFz:F<(wr.alloc (.cells #[.int .i64 k] 3)).heap.size:=hHa.lt
       have hbb:=q77 (j:=j) (v:=v') ((u_ HBr).trans (hba.mono (by omega))) (Nat.lt_succ_self F) hFz (hFa.own j (by omega)) hgr'
       have hH4:Blk w4 F 84 ((List.range m.F.length).map V'):=Blk.grown hHa hgr' (fun e=>by have:=((hFa.own j (by omega)).lt F e.symm).1;omega)
       have cF:w4.cell? ⟨F,j,none⟩=some (V' j):=HoldF.at hH4 hjn
       have fF:w4.frozen? ⟨F,j,none⟩=false:=hH4.free j
       have HH4:=h_ hst.1
       have HF4:Hid (Fam (w4.setCell ⟨F,j,none⟩ v') (F+1) (m.F.length+1) (up V' j v') (up (fedP m k (p+1)) m.F.length l)):=h_ (hst.2.congr (fun _ _=>rfl) fun i hi=>by
        by_cases ei:i=m.F.length
        . subst ei
          rw [up_at,up_ne _ _ (by omega),up_at]
        . rw [up_ne _ _ ei,u_ HSt]
          by_cases ej:i=j
          . subst ej
            rw [up_at,up_at,up_ne _ _ ei]
          . rw [up_ne _ _ ej,up_ne _ _ ej,up_ne _ _ ei])
       have HB4:=h_ hbb
       have HV4:Hid (up V' j v' m.F.length=.slice (some ⟨g2,0,none⟩) l.length c):=h_ (by rw [up_ne _ _ (by omega)];exact u_ HVn)
       clear ho' hgr' hat' ho2 hHa hFa hst hFz hbb hH4 hba hi hz0 hz1 hz2 zc zj
       subst e'
       go_wp2_with fail
       go_roundw
       case rel=>first | exact ⟨p+1,_,by omega,by go_num,u_ HV4,u_ HH4,u_ HF4,u_ HB4⟩ | ((repeat apply Exists.intro);exact ⟨⟨p+1,_,by omega,by go_num,u_ HV4,u_ HH4,u_ HF4,u_ HB4⟩,rfl⟩)
       case measure=>simp [intOf];omega
     . obtain rfl:p=l.length:=by omega
       have hpl':¬ (l.length:Int)<(l.length:Int):=by omega
       have HF4:Hid (Fam wr (F+1) m.F.length V' (fedT m (k+1))):=h_ ((hfam.sub (Nat.le_succ _)).congr (fun _ _=>rfl) fun i hi=>by
        rw [up_ne _ _ (by omega),u_ HPf])
       clear hh hfam hb hVn
       go_wp2_with fail
       go_roundw
       case rel=>first | exact ⟨k+1,_,by omega,by go_num,u_ HH,u_ HF4,u_ HBr⟩ | ((repeat apply Exists.intro);exact ⟨⟨k+1,_,by omega,by go_num,u_ HH,u_ HF4,u_ HBr⟩,rfl⟩)
       case measure=>simp [intOf];omega
  . obtain rfl:k=m.F.length:=by omega
    have hlt':¬ (m.F.length:Int)<(m.F.length:Int):=by omega
    go_wp2_with fail
    go_ret
    first | exact ⟨F,V,rfl,by omega,u_ HH,u_ HFm,u_ HBw⟩ | exact ⟨F,rfl,by omega,V,u_ HH,u_ HFm,u_ HBw⟩ | exact ⟨F,rfl,by omega,⟨V,u_ HH,u_ HFm⟩,u_ HBw⟩
end Go.Proofs.YtgkcaeidhkddjaaGreatDoor
