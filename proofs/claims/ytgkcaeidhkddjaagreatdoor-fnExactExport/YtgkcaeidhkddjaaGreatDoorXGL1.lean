import Derived.Test.YtgkcaeidhkddjaaGreatDoorXGM
import Derived.Test.YtgkcaeidhkddjaaGreatDoorXG1g
namespace Go.Proofs.YtgkcaeidhkddjaaGreatDoor
open Go
theorem qft {m:Fm} {k x:Nat} {D:List Nat} (hk:k<m.F.length) (hx:nxt m D=some x):Rch m k x ↔ ∃ j,j ∈ D/\j<m.F.length/\fedB m j x=true/\(j=k ∨ Rch m k j):=by
 obtain ⟨hxn,hr,-⟩:=qfc hx
 have hD:∀ j,j<m.F.length->fedB m j x=true->j ∈ D:=by
  intro j hj hf
  unfold rdyB at hr
  rw [Bool.and_eq_true,List.all_eq_true] at hr
  have:=hr.2 j (List.mem_range.2 hj)
  rw [hf] at this
  simpa using this
 constructor
 . intro h
   cases h with
   | one hi hf=>exact ⟨k,hD k hk hf,hk,hf,.inl rfl⟩
   | step hj hi hf=>exact ⟨_,hD _ hj.lt hf,hj.lt,hf,.inr hj⟩
 . rintro ⟨j,-,-,hf,rfl | hj⟩
   . exact .one hxn hf
   . exact .step hj hxn hf
def cntB (M:Nat->Bool) (n:Nat):Nat:=((List.range n).filter M).length
theorem qal (M:Nat->Bool) (n:Nat):cntB M (n+1)=cntB M n+if M n=true then 1 else 0:=by
 unfold cntB
 rw [List.range_succ,List.filter_append,List.length_append]
 cases h:M n <;> simp [h]
theorem qhs (M:Nat->Bool) (n:Nat):cntB M n<=n:=by
 induction n with
 | zero=>exact nR _
 | succ n ih=>rw [qal];split <;> omega
theorem qdw {M:Nat->Bool} {n:Nat} (h:n<=cntB M n):∀ i,i<n->M i=true:=by
 induction n with
 | zero=>intro i hi;omega
 | succ n ih =>
  have hl:=qhs M n
  rw [qal] at h
  have hn:M n=true:=by
   cases e:M n
   . rw [e] at h;simp at h;omega
   . rfl
  rw [hn] at h
  simp at h
  intro i hi
  by_cases e:i=n
  . subst e;exact hn
  . exact ih h i (by omega)
theorem q7f {M M':Nat->Bool} {n:Nat} (h:∀ i,i<n->M i=M' i):cntB M n=cntB M' n:=by
 unfold cntB
 rw [List.filter_congr fun i hi=>h i (List.mem_range.1 hi)]
theorem qhu {M:Nat->Bool} {n i:Nat} (hi:i<n) (h:M i=false):cntB (up M i true) n=cntB M n+1:=by
 induction n with
 | zero=>omega
 | succ n ih =>
  rw [qal,qal]
  by_cases e:i=n
  . subst e
    rw [up_at,h,q7f (M:=up M i true) (M':=M) fun j hj=>up_ne _ _ (by omega)]
    simp
  . rw [ih (by omega),up_ne M true (show n ≠ i by omega)]
    omega
def Snd (m:Fm) (k:Nat) (M:Nat->Bool):Prop:=∀ i,M i=true->Rch m k i
theorem Snd.up {m:Fm} {k i:Nat} {M:Nat->Bool} (h:Snd m k M) (hr:Rch m k i):Snd m k (up M i true):=fun j hj=>by
 by_cases e:j=i
 . subst e;exact hr
 . rw [up_ne _ _ e] at hj;exact h j hj
def Cls (m:Fm) (k:Nat) (M:Nat->Bool) (j:Nat):Prop:=(j=k ∨ M j=true)->∀ i,i<m.F.length->fedB m j i=true->M i=true
theorem qfs {m:Fm} {k:Nat} {M:Nat->Bool} (h:Snd m k M) (hc:m.F.length<=cntB M m.F.length):∀ i,i<m.F.length->(M i=true ↔ Rch m k i):=fun i hi=>⟨h i,fun _=>qdw hc i hi⟩
theorem q95 {m:Fm} {k:Nat} {M:Nat->Bool} (hk:k<m.F.length) (h:Snd m k M) (hc:∀ j,j<m.F.length->Cls m k M j):∀ i,i<m.F.length->(M i=true ↔ Rch m k i):=fun i _ =>
 ⟨h i,q2s (fun j hj=>hc j (by
  rcases hj with e | e
  . rw [e];exact hk
  . exact (h j e).lt) hj) i⟩
theorem qfu {m:Fm} {k j i:Nat} (hj:j=k ∨ Rch m k j) (hi:i<m.F.length) (hf:fedB m j i=true):Rch m k i:=by
 rcases hj with e | e
 . subst e;exact .one hi hf
 . exact .step e hi hf
def ms (n:Nat) (M:Nat->Bool):List Value:=(List.range n).map fun k=>.bool (M k)
theorem ms_at {n i:Nat} (M:Nat->Bool) (h:i<n):(ms n M)[i]? = some (.bool (M i)):=by simp [ms,h]
theorem ms_set {n j:Nat} (M:Nat->Bool) (v:Bool):(ms n M).set j (.bool v)=ms n (up M j v):=map_up (fun x=>.bool x) M n j v
structure LatP (N:Nat) (le:Nat->Nat->Prop) (jn:Nat->Nat->Nat) (bot:Nat):Prop where
 refl:∀ a,a<N->le a a
 trans:∀ a b c,a<N->b<N->c<N->le a b->le b c->le a c
 anti:∀ a b,a<N->b<N->le a b->le b a->a=b
 bl:bot<N
 bot:∀ a,a<N->le bot a
 jl:∀ a b,a<N->b<N->jn a b<N
 j1:∀ a b,a<N->b<N->le a (jn a b)
 j2:∀ a b,a<N->b<N->le b (jn a b)
 j3:∀ a b c,a<N->b<N->c<N->le a c->le b c->le (jn a b) c
section
variable {N:Nat} {le:Nat->Nat->Prop} {jn:Nat->Nat->Nat} {bot:Nat}
theorem LatP.fold_lt (L:LatP N le jn bot):∀ (xs:List Nat) (a:Nat),a<N->(∀ x,x ∈ xs->x<N)->xs.foldl jn a<N:=by
 intro xs
 induction xs with
 | nil=>intro a ha _;exact ha
 | cons x xs ih=>intro a ha h;exact ih (jn a x) (L.jl a x ha (h x List.mem_cons_self)) fun y hy=>h y (List.mem_cons_of_mem _ hy)
theorem LatP.fold_ge (L:LatP N le jn bot):∀ (xs:List Nat) (a:Nat),a<N->(∀ x,x ∈ xs->x<N)->le a (xs.foldl jn a)/\∀ x,x ∈ xs->le x (xs.foldl jn a):=by
 intro xs
 induction xs with
 | nil=>intro a ha _;exact ⟨L.refl a ha,fun x hx=>by cases hx⟩
 | cons x xs ih =>
  intro a ha h
  have hx:=h x List.mem_cons_self
  have hj:=L.jl a x ha hx
  have h':∀ y,y ∈ xs->y<N:=fun y hy=>h y (List.mem_cons_of_mem _ hy)
  obtain ⟨i1,i2⟩:=ih (jn a x) hj h'
  have hl:=L.fold_lt xs (jn a x) hj h'
  refine ⟨L.trans _ _ _ ha hj hl (L.j1 a x ha hx) i1,fun y hy=>?_⟩
  rcases List.mem_cons.1 hy with rfl | hy
  . exact L.trans _ _ _ hx hj hl (L.j2 a y ha hx) i1
  . exact i2 y hy
theorem LatP.fold_le (L:LatP N le jn bot):∀ (xs:List Nat) (a c:Nat),a<N->c<N->(∀ x,x ∈ xs->x<N/\le x c)->le a c->le (xs.foldl jn a) c:=by
 intro xs
 induction xs with
 | nil=>intro a c _ _ _ h;exact h
 | cons x xs ih =>
  intro a c ha hc h hac
  have hx:=h x List.mem_cons_self
  exact ih (jn a x) c (L.jl a x ha hx.1) hc (fun y hy=>h y (List.mem_cons_of_mem _ hy)) (L.j3 a x c ha hx.1 hc hac hx.2)
structure Sol (m:Fm) (N:Nat) (le:Nat->Nat->Prop) (f:Nat->Nat):Prop where
 lt:∀ k,k<m.F.length->f k<N
 decl:∀ k,k<m.F.length->0<=(fAt m k).lb->(f k:Int)=(fAt m k).lb
 up:∀ k,k<m.F.length->(fAt m k).lb<0->∀ j,j<m.F.length->anyR m j k=true->le (f j) (f k)
def Low (m:Fm) (N:Nat) (le:Nat->Nat->Prop) (f:Nat->Nat):Prop:=∀ g,Sol m N le g->∀ k,k<m.F.length->le (f k) (g k)
theorem qbt (L:LatP N le jn bot) {m:Fm} {f g:Nat->Nat} (hf:Sol m N le f) (hg:Sol m N le g) (lf:Low m N le f) (lg:Low m N le g):∀ k,k<m.F.length->f k=g k :=
 fun k hk=>L.anti _ _ (hf.lt k hk) (hg.lt k hk) (lf g hg k hk) (lg f hf k hk)
def startL (m:Fm) (bot k:Nat):Nat:=if (fAt m k).lb<0 then bot else (fAt m k).lb.toNat
theorem qd1 (L:LatP N le jn bot) {m:Fm}:Low m N le (startL m bot):=by
 intro g hg k hk
 unfold startL
 split
 . exact L.bot _ (hg.lt k hk)
 . rename_i h
   have:=hg.decl k hk (by omega)
   rw [show (fAt m k).lb.toNat=g k by omega]
   exact L.refl _ (hg.lt k hk)
theorem qg0 (L:LatP N le jn bot) {m:Fm} {f:Nat->Nat} (hf:Low m N le f) (hl:∀ k,k<m.F.length->f k<N) {k:Nat} (hk:k<m.F.length) (ha:(fAt m k).lb<0) (a:Nat) (haN:a<N) (hal:∀ g,Sol m N le g->le a (g k)) (xs:List Nat) (hx:∀ x,x ∈ xs->∃ j,j<m.F.length/\anyR m j k=true/\x=f j) :
 ∀ g,Sol m N le g->le (xs.foldl jn a) (g k):=by
 intro g hg
 refine L.fold_le xs a (g k) haN (hg.lt k hk) (fun x hxx=>?_) (hal g hg)
 obtain ⟨j,hj,hr,rfl⟩:=hx x hxx
 exact ⟨hl j hj,L.trans _ _ _ (hl j hj) (hg.lt j hj) (hg.lt k hk) (hf g hg j hj) (hg.up k hk ha j hj hr)⟩
end
theorem qak {M M':Nat->Bool}:∀ {n:Nat},(∀ i,i<n->M i=true->M' i=true)->cntB M n<=cntB M' n:=by
 intro n
 induction n with
 | zero=>intro _;exact nR _
 | succ n ih =>
  intro h
  rw [qal,qal]
  have:=ih fun i hi=>h i (by omega)
  have h2:=h n (by omega)
  cases e:M n
  . simp;split <;> omega
  . rw [h2 e];simp;exact this
theorem qht {M M':Nat->Bool} {j:Nat}:∀ {n:Nat},(∀ i,i<n->M i=true->M' i=true)->j<n->M j=false->M' j=true->cntB M n<cntB M' n:=by
 intro n
 induction n with
 | zero=>intro _ h;omega
 | succ n ih =>
  intro h hj h1 h2
  rw [qal,qal]
  by_cases e:j=n
  . subst e
    have:=qak (M:=M) (M':=M') (n:=j) fun i hi=>h i (by omega)
    rw [h1,h2]
    simp
    omega
  . have:=ih (fun i hi=>h i (by omega)) (by omega) h1 h2
    have h3:=h n (by omega)
    cases e2:M n
    . simp;split <;> omega
    . rw [h3 e2];simp;exact this
section
variable {N:Nat} {F:Nat->Nat->Bool} {jn:Nat->Nat->Nat} {bot:Nat}
def rkL (F:Nat->Nat->Bool) (N a:Nat):Nat:=cntB (fun b=>F b a) N
theorem rkL_le (F:Nat->Nat->Bool) (N a:Nat):rkL F N a<=N:=qhs _ _
theorem qg1 (L:LatP N (fun a b=>F a b=true) jn bot) {a b:Nat} (ha:a<N) (hb:b<N) (h:F a b=true):rkL F N a<=rkL F N b:=qak fun i hi hx=>L.trans i a b hi ha hb hx h
theorem rkL_lt (L:LatP N (fun a b=>F a b=true) jn bot) {a b:Nat} (ha:a<N) (hb:b<N) (h:F a b=true) (hne:a ≠ b):rkL F N a<rkL F N b:=by
 refine qht (j:=b) (fun i hi hx=>L.trans i a b hi ha hb hx h) hb ?_ (L.refl b hb)
 cases e:F b a
 . rfl
 . exact absurd (L.anti a b ha hb h e) hne
def potL (F:Nat->Nat->Bool) (N n:Nat) (f:Nat->Nat):Nat:=((List.range n).map fun k=>rkL F N (f k)).sum
theorem pot_le (F:Nat->Nat->Bool) (N n:Nat) (f:Nat->Nat):potL F N n f<=n*N:=by
 unfold potL
 induction n with
 | zero=>simp
 | succ n ih =>
  rw [List.range_succ]
  simp only [List.map_append,List.sum_append,List.map_cons,List.map_nil,List.sum_cons,List.sum_nil,Nat.add_zero]
  have:=rkL_le F N (f n)
  rw [Nat.succ_mul]
  omega
end
theorem qko {n:Nat} {f g:Nat->Nat} (h:∀ j,j<n->f j<=g j):((List.range n).map f).sum<=((List.range n).map g).sum:=by
 induction n with
 | zero=>exact nR _
 | succ n ih =>
  rw [List.range_succ]
  simp only [List.map_append,List.sum_append,List.map_cons,List.map_nil,List.sum_cons,List.sum_nil,Nat.add_zero]
  have:=ih fun j hj=>h j (by omega)
  have:=h n (by omega)
  omega
theorem qkp {n:Nat} {f g:Nat->Nat} (h:∀ j,j<n->f j<=g j) {x:Nat} (hx:x<n) (hlt:f x<g x):((List.range n).map f).sum<((List.range n).map g).sum:=by
 induction n with
 | zero=>omega
 | succ n ih =>
  rw [List.range_succ]
  simp only [List.map_append,List.sum_append,List.map_cons,List.map_nil,List.sum_cons,List.sum_nil,Nat.add_zero]
  by_cases e:x=n
  . subst e
    have:=qko (n:=x) fun j hj=>h j (by omega)
    omega
  . have:=ih (fun j hj=>h j (by omega)) (by omega)
    have:=h n (by omega)
    omega
section
variable {N:Nat} {F:Nat->Nat->Bool} {jn:Nat->Nat->Nat} {bot:Nat}
theorem qfo (L:LatP N (fun a b=>F a b=true) jn bot) {n:Nat} {f g:Nat->Nat} (hf:∀ k,k<n->f k<N) (hg:∀ k,k<n->g k<N) (h:∀ k,k<n->F (f k) (g k)=true):potL F N n f<=potL F N n g:=qko fun k hk=>qg1 L (hf k hk) (hg k hk) (h k hk)
theorem pot_lt (L:LatP N (fun a b=>F a b=true) jn bot) {n:Nat} {f g:Nat->Nat} (hf:∀ k,k<n->f k<N) (hg:∀ k,k<n->g k<N) (h:∀ k,k<n->F (f k) (g k)=true) {x:Nat} (hx:x<n) (hne:f x ≠ g x):potL F N n f<potL F N n g :=
 qkp (fun k hk=>qg1 L (hf k hk) (hg k hk) (h k hk)) hx (rkL_lt L (hf x hx) (hg x hx) (h x hx) hne)
end
def rdA (m:Fm) (k:Nat):List Nat:=[(fAt m k).is,(fAt m k).wh,(fAt m k).va,(fAt m k).mu].flatMap (rdL (fNames m))
theorem qjc {m:Fm} (h:VfA m) {j k:Nat} (hj:j<m.F.length) (hk:k<m.F.length):j ∈ rdA m k ↔ anyR m j k=true:=by
 have hj':j<(fNames m).length:=by rw [q7p];exact hj
 have hkn:=h.knw hk
 unfold rdA anyR fedB watB
 simp only [List.flatMap_cons,List.flatMap_nil,List.append_nil,List.mem_append,Bool.or_eq_true]
 rw [qjd h.nod hkn.1 hj',qjd h.nod hkn.2.1 hj',qjd h.nod hkn.2.2.1 hj',qjd h.nod hkn.2.2.2 hj',q7o hj]
 exact ⟨fun h=>h.elim (fun h=>.inl (.inl h)) fun h=>h.elim (fun h=>.inl (.inr h)) fun h=>h.elim (fun h=>.inr (.inl h)) fun h=>.inr (.inr h),fun h=>h.elim (fun h=>h.elim .inl fun h=>.inr (.inl h)) fun h=>h.elim (fun h=>.inr (.inr (.inl h))) fun h=>.inr (.inr (.inr h))⟩
theorem rdA_lt {m:Fm} (h:VfA m) {k:Nat} (hk:k<m.F.length):∀ j,j ∈ rdA m k->j<m.F.length:=by
 intro j hj
 have hkn:=h.knw hk
 unfold rdA at hj
 simp only [List.flatMap_cons,List.flatMap_nil,List.append_nil,List.mem_append] at hj
 rw [<- q7p m]
 rcases hj with hj | hj | hj | hj
 . exact rdL_lt hkn.1 j hj
 . exact rdL_lt hkn.2.1 j hj
 . exact rdL_lt hkn.2.2.1 j hj
 . exact rdL_lt hkn.2.2.2 j hj
theorem declared {m:Fm} (h:VfA m) {k:Nat} (hk:k<m.F.length):-1<=(fAt m k).lb/\(fAt m k).lb<m.L.length:=by
 have:=(q53 _ _ _).1 (h.fi _ (List.getElem_mem hk))
 rw [qi1 hk]
 exact ⟨this.l1,this.l2⟩
structure Way (m:Fm) (N:Nat) (le:Nat->Nat->Prop) (f:Nat->Nat):Prop where
 low:Low m N le f
 lt:∀ k,k<m.F.length->f k<N
 decl:∀ k,k<m.F.length->0<=(fAt m k).lb->(f k:Int)=(fAt m k).lb
section
variable {N:Nat} {le:Nat->Nat->Prop} {jn:Nat->Nat->Nat} {bot:Nat}
theorem qdm (L:LatP N le jn bot) {m:Fm} (hv:VfA m) (hN:m.L.length=N):Way m N le (startL m bot):=by
 refine ⟨qd1 L,fun k hk=>?_,fun k hk h0=>?_⟩
 . unfold startL
   have:=declared hv hk
   split
   . exact L.bl
   . omega
 . unfold startL
   rw [if_neg (by omega)]
   omega
theorem Way.rise (L:LatP N le jn bot) {m:Fm} {f:Nat->Nat} (hf:Way m N le f) {k:Nat} (hk:k<m.F.length) (ha:(fAt m k).lb<0) (a:Nat) (haN:a<N) (hal:∀ g,Sol m N le g->le a (g k)) (xs:List Nat) (hx:∀ x,x ∈ xs->∃ j,j<m.F.length/\anyR m j k=true/\x=f j):Way m N le (up f k (xs.foldl jn a)):=by
 have hlt:xs.foldl jn a<N:=L.fold_lt xs a haN fun x h=>by
  obtain ⟨j,hj,-,rfl⟩:=hx x h
  exact hf.lt j hj
 refine ⟨fun g hg i hi=>?_,fun i hi=>?_,fun i hi h0=>?_⟩
 . by_cases e:i=k
   . subst e;rw [up_at];exact qg0 L hf.low hf.lt hk ha a haN hal xs hx g hg
   . rw [up_ne _ _ e];exact hf.low g hg i hi
 . by_cases e:i=k
   . subst e;rw [up_at];exact hlt
   . rw [up_ne _ _ e];exact hf.lt i hi
 . by_cases e:i=k
   . subst e;omega
   . rw [up_ne _ _ e];exact hf.decl i hi h0
theorem Way.sol {m:Fm} {f:Nat->Nat} (hf:Way m N le f) (h:∀ k,k<m.F.length->(fAt m k).lb<0->∀ j,j<m.F.length->anyR m j k=true->le (f j) (f k)):Sol m N le f:=⟨hf.lt,hf.decl,h⟩
end
section
variable {N:Nat} {le:Nat->Nat->Prop} {jn:Nat->Nat->Nat} {bot:Nat}
def rdO (m:Fm) (k q:Nat):List Nat:=(List.range q).filter fun j=>anyR m j k
theorem qfv (m:Fm) (k q:Nat):rdO m k (q+1)=rdO m k q++if anyR m q k=true then [q] else []:=by
 unfold rdO
 rw [List.range_succ,List.filter_append]
 congr 1
 cases h:anyR m q k <;> simp [h]
theorem qje {m:Fm} {k q j:Nat}:j ∈ rdO m k q ↔ j<q/\anyR m j k=true:=by
 unfold rdO
 rw [List.mem_filter,List.mem_range]
def jac (m:Fm) (jn:Nat->Nat->Nat) (f:Nat->Nat) (k:Nat):Nat:=if (fAt m k).lb<0 then ((rdO m k m.F.length).map f).foldl jn (f k) else f k
theorem rdO_lt {m:Fm} {f:Nat->Nat} (h:∀ k,k<m.F.length->f k<N) (k q:Nat) (hq:q<=m.F.length):∀ x,x ∈ (rdO m k q).map f->x<N:=by
 intro x hx
 obtain ⟨j,hj,rfl⟩:=List.mem_map.1 hx
 exact h j (by have:=(qje.1 hj).1;omega)
theorem Way.jac (L:LatP N le jn bot) {m:Fm} {f:Nat->Nat} (h:Way m N le f):Way m N le (jac m jn f):=by
 refine ⟨fun g hg k hk=>?_,fun k hk=>?_,fun k hk h0=>?_⟩
 . unfold Proofs.YtgkcaeidhkddjaaGreatDoor.jac
   split
   . rename_i ha
     refine qg0 L h.low h.lt hk ha (f k) (h.lt k hk) (fun g hg=>h.low g hg k hk) _ (fun x hx=>?_) g hg
     obtain ⟨j,hj,rfl⟩:=List.mem_map.1 hx
     exact ⟨j,(qje.1 hj).1,(qje.1 hj).2,rfl⟩
   . exact h.low g hg k hk
 . unfold Proofs.YtgkcaeidhkddjaaGreatDoor.jac
   split
   . exact L.fold_lt _ _ (h.lt k hk) (rdO_lt h.lt k _ (nR _))
   . exact h.lt k hk
 . unfold Proofs.YtgkcaeidhkddjaaGreatDoor.jac
   rw [if_neg (by omega)]
   exact h.decl k hk h0
theorem jac_ge (L:LatP N le jn bot) {m:Fm} {f:Nat->Nat} (h:Way m N le f):∀ k,k<m.F.length->le (f k) (jac m jn f k):=fun k hk=>by
 unfold jac
 split
 . exact (L.fold_ge _ _ (h.lt k hk) (rdO_lt h.lt k _ (nR _))).1
 . exact L.refl _ (h.lt k hk)
theorem qiq (L:LatP N le jn bot) {m:Fm} {f:Nat->Nat} (h:Way m N le f) (he:∀ k,k<m.F.length->jac m jn f k=f k):Sol m N le f:=h.sol fun k hk ha j hj hr=>by
 have:=he k hk
 unfold jac at this
 rw [if_pos ha] at this
 rw [<- this]
 exact (L.fold_ge _ _ (h.lt k hk) (rdO_lt h.lt k _ (nR _))).2 _ (List.mem_map.2 ⟨j,qje.2 ⟨hj,hr⟩,rfl⟩)
def rdV (m:Fm) (jn:Nat->Nat->Nat) (bot:Nat) (f:Nat->Nat) (k:Nat):Nat:=((rdA m k).map f).foldl jn bot
theorem rdV_lt (L:LatP N le jn bot) {m:Fm} (hv:VfA m) {f:Nat->Nat} (h:∀ k,k<m.F.length->f k<N) {k:Nat} (hk:k<m.F.length):(∀ x,x ∈ (rdA m k).map f->x<N)/\rdV m jn bot f k<N:=by
 have hx:∀ x,x ∈ (rdA m k).map f->x<N:=fun x hx=>by
  obtain ⟨j,hj,rfl⟩:=List.mem_map.1 hx
  exact h j (rdA_lt hv hk j hj)
 exact ⟨hx,L.fold_lt _ _ L.bl hx⟩
def Asc (m:Fm) (le:Nat->Nat->Prop) (jn:Nat->Nat->Nat) (bot:Nat) (f:Nat->Nat):Prop:=∀ k,k<m.F.length->(fAt m k).lb<0->le (f k) (rdV m jn bot f k)
theorem qfw (L:LatP N le jn bot) {m:Fm} (hv:VfA m) {f g:Nat->Nat} (hf:∀ k,k<m.F.length->f k<N) (hg:∀ k,k<m.F.length->g k<N) (h:∀ k,k<m.F.length->le (f k) (g k)) {k:Nat} (hk:k<m.F.length):le (rdV m jn bot f k) (rdV m jn bot g k):=by
 have h1:=rdV_lt L hv hg hk
 refine L.fold_le _ _ _ L.bl h1.2 (fun x hx=>?_) (L.bot _ h1.2)
 obtain ⟨j,hj,rfl⟩:=List.mem_map.1 hx
 have hjn:=rdA_lt hv hk j hj
 refine ⟨hf j hjn,L.trans _ _ _ (hf j hjn) (hg j hjn) h1.2 (h j hjn) ?_⟩
 exact (L.fold_ge _ _ L.bl h1.1).2 _ (List.mem_map.2 ⟨j,hj,rfl⟩)
theorem qa4 (L:LatP N le jn bot) {m:Fm} (hv:VfA m) (hN:m.L.length=N):Asc m le jn bot (startL m bot):=fun k hk ha=>by
 rw [show startL m bot k=bot by unfold startL;rw [if_pos ha]]
 exact L.bot _ (rdV_lt L hv (qdm L hv hN).lt hk).2
theorem qie (L:LatP N le jn bot) {m:Fm} (hv:VfA m) {f:Nat->Nat} (hw:Way m N le f) (ha:Asc m le jn bot f) {k:Nat} (hk:k<m.F.length) (hau:(fAt m k).lb<0):Way m N le (up f k (rdV m jn bot f k))/\Asc m le jn bot (up f k (rdV m jn bot f k))/\∀ i,i<m.F.length->le (f i) (up f k (rdV m jn bot f k) i):=by
 have hlt:=(rdV_lt L hv hw.lt hk).2
 have hw':Way m N le (up f k (rdV m jn bot f k)):=hw.rise L hk hau bot L.bl (fun g hg=>L.bot _ (hg.lt k hk)) _ fun x hx=>by
  obtain ⟨j,hj,rfl⟩:=List.mem_map.1 hx
  exact ⟨j,rdA_lt hv hk j hj,(qjc hv (rdA_lt hv hk j hj) hk).1 hj,rfl⟩
 have hge:∀ i,i<m.F.length->le (f i) (up f k (rdV m jn bot f k) i):=fun i hi=>by
  by_cases e:i=k
  . subst e;rw [up_at];exact ha i hi hau
  . rw [up_ne _ _ e];exact L.refl _ (hw.lt i hi)
 refine ⟨hw',fun i hi hai=>?_,hge⟩
 have hm:=qfw L hv hw.lt hw'.lt hge hi
 have hli:=(rdV_lt L hv hw'.lt hi).2
 have hlf:=(rdV_lt L hv hw.lt hi).2
 by_cases e:i=k
 . subst e;rw [up_at];exact hm
 . rw [up_ne _ _ e];exact L.trans _ _ _ (hw.lt i hi) hlf hli (ha i hi hai) hm
theorem gs_sol (L:LatP N le jn bot) {m:Fm} (hv:VfA m) {f:Nat->Nat} (hw:Way m N le f) (he:∀ k,k<m.F.length->(fAt m k).lb<0->rdV m jn bot f k=f k):Sol m N le f:=hw.sol fun k hk ha j hj hr=>by
 rw [<- he k hk ha]
 exact (L.fold_ge _ _ L.bl (rdV_lt L hv hw.lt hk).1).2 _ (List.mem_map.2 ⟨j,(qjc hv hj hk).2 hr,rfl⟩)
end
theorem qj1 {N bot top:Int} {s n bt tp:Nat} {F:Nat->Bool} {J M:Nat->Int} (h:ValidP N s s s F J M bot top n bt tp):LatP n (fun a b=>F (a*n+b)=true) (fun a b=>(J (a*n+b)).toNat) bt:=by
 refine ⟨fun a ha=>(h.rows a ha).1,fun a b c ha hb hc x y=>((h.rows a ha).2.2.2 b hb).2 c hc x y,fun a b ha hb x y=>Classical.byContradiction fun e=>((h.rows a ha).2.2.2 b hb).1 ⟨e,x,y⟩,h.bb,fun a ha=>(h.rows a ha).2.1,fun a b ha hb=>?_,fun a b ha hb=>?_,fun a b ha hb=>?_,fun a b c ha hb hc x y=>?_⟩
 . obtain ⟨j,m,hj,-,hl,-⟩:=h.ents a ha b hb
   show (J (a*n+b)).toNat<n
   rw [hj]
   simpa using hl
 . obtain ⟨j,m,hj,-,-,-,hp,-⟩:=h.ents a ha b hb
   show F (a*n+(J (a*n+b)).toNat)=true
   rw [hj]
   simpa using hp.1
 . obtain ⟨j,m,hj,-,-,-,hp,-⟩:=h.ents a ha b hb
   show F (b*n+(J (a*n+b)).toNat)=true
   rw [hj]
   simpa using hp.2.1
 . obtain ⟨j,m,hj,-,-,-,hp,-⟩:=h.ents a ha b hb
   show F ((J (a*n+b)).toNat*n+c)=true
   rw [hj]
   simpa using hp.2.2 c hc x y
theorem qes {N bot top:Int} {s n bt tp:Nat} {F:Nat->Bool} {J M:Nat->Int} (h:ValidP N s s s F J M bot top n bt tp) {a b:Nat} (ha:a<n) (hb:b<n):J (a*n+b)=(((J (a*n+b)).toNat:Nat):Int):=by
 obtain ⟨j,m,hj,-,-,-,hp,-⟩:=h.ents a ha b hb
 rw [hj]
 simp
theorem qfi {w:World} {a:Option Addr} {l:List (Int × Int)} (h:Prs w a l):Pairs w a l.length (fun k=>(l.getD k (0,0)).1) (fun k=>(l.getD k (0,0)).2):=fun k hk=>by
 obtain ⟨b,o,e,h1,h2,h3⟩:=h k hk
 refine ⟨b,o,e,h1,?_,?_⟩
 . dsimp only;rw [List.getD_eq_getElem?_getD,List.getElem?_eq_getElem hk];exact h2
 . dsimp only;rw [List.getD_eq_getElem?_getD,List.getElem?_eq_getElem hk];exact h3
end Go.Proofs.YtgkcaeidhkddjaaGreatDoor
