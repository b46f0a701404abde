import Derived.Test.YtebbgodlijlioaaGreatDoorW27
set_option maxRecDepth 100000
set_option maxHeartbeats 64000000
namespace Go.Proofs.YtebbgodlijlioaaGreatDoor
open Go Go.RowKit
def Le (f:Nat->Bool)(n a b:Nat):Prop:=a<n/\b<n/\f (a*n+b)=true
theorem qfr {f:Nat->Bool}{n a b:Nat}:part f n (n*n) a b=true ↔ Le f n a b:=by
 unfold part Le
 simp only[Yn,decide_eq_true_iff]
 constructor
 . rintro⟨⟨h1,h2⟩,h3⟩
   refine⟨?_,h1,h3⟩;apply O4;intro h;have:=Zs n h;omega
 . rintro⟨h1,h2,h3⟩
   exact⟨⟨h2,idx_lt h1 h2⟩,h3⟩
section
variable {n:Nat} {f:Nat->Bool} {u c d:Nat->Nat}
theorem u_bit (hu:IsRel u (part f n (n*n))){a:Nat}(ha:a<32)(b:Nat):(u a).testBit b=true ↔ Le f n a b:=by rw[(hu a ha).2 b];exact qfr
theorem d_bit (hd:IsRel d (fun b a=>decide (a<n)&&part f n (n*n) a b)){a:Nat}(ha:a<32)(b:Nat):(d a).testBit b=true ↔ Le f n b a:=by
 rw[(hd a ha).2 b,Yn,decide_eq_true_iff,qfr]
 exact⟨fun h=>h.2,fun h=>⟨h.1,h⟩⟩
theorem qcf (hn:n<=32)(hu:IsRel u (part f n (n*n)))(hc:IsReach c (fun a b=>a<n/\Reach u a b))(h:sameN u c=true):(∀a,a<n->Le f n a a)/\∀a b e,Le f n a b->Le f n b e->Le f n a e:=by
 rw[qce]at h
 have key:∀a b,a<n->Reach u a b->Le f n a b:=fun a b ha hr=>by
  rw[<- u_bit hu (by omega),h a (by omega),(hc a (by omega)).2 b];exact⟨ha,hr⟩
 refine⟨fun a ha=>key a a ha (Reach.refl _ _),fun a b e h1 h2=>?_⟩
 have ha:=h1.1;have hb:=h1.2.1
 have r1:Reach u a b:=(Reach.refl u a).step (by omega) ((u_bit hu (by omega) b).2 h1)
 exact key a e h1.1 (r1.step (by omega) ((u_bit hu (by omega) e).2 h2))
theorem qm5 (hn:n<=32)(hu:IsRel u (part f n (n*n)))(hd:IsRel d (fun b a=>decide (a<n)&&part f n (n*n) a b))(hr:∀a,a<n->Le f n a a){a:Nat}(ha:a<n) :
 commonN (u a) (d a)=2 ^ a ↔ ∀b,Le f n a b->Le f n b a->a=b:=by
 have bits:∀b,(commonN (u a) (d a)).testBit b=true ↔ Le f n a b/\Le f n b a:=fun b=>by
  rw[q4s (hu a (by omega)).1 (hd a (by omega)).1,Yn,u_bit hu (by omega),d_bit hd (by omega)]
 constructor
 . intro h b h1 h2
   have:=(bits b).2 ⟨h1,h2⟩;rw[h,Va,decide_eq_true_iff]at this;exact this
 . intro h
   apply Nat.eq_of_testBit_eq;intro b;rw[Zv,bits,Va,decide_eq_true_iff];exact⟨fun⟨h1,h2⟩=>h b h1 h2,fun e=>by subst e;exact⟨hr a ha,hr a ha⟩⟩
theorem q8g {s t:Nat}(hs:s<4294967296)(ht:t<4294967296):minusN s t=0 ↔ ∀x,s.testBit x=true->t.testBit x=true:=by
 constructor
 . intro h x hx
   have:=q8f hs ht x;rw[h,hx]at this;simpa using this.symm
 . intro h
   apply Nat.eq_of_testBit_eq;intro x;rw[q8f hs ht x];cases e:s.testBit x
   . simp
   . simp[h x e]
theorem qee (hn:n<=32)(hu:IsRel u (part f n (n*n))){a b e:Nat}(ha:a<n)(hb:b<n)(he:e<32) :
 ((commonN (u a) (u b)).testBit e=true/\minusN (commonN (u a) (u b)) (u e)=0) ↔ (e<n/\isJoinP f n a b e):=by
 have ua:=(hu a (by omega)).1;have ub:=(hu b (by omega)).1
 rw[q8g (q70 ua) (hu e he).1,q4s ua ub,Yn,u_bit hu (by omega),u_bit hu (by omega)]
 have hx:∀x,(commonN (u a) (u b)).testBit x=true ↔ Le f n a x/\Le f n b x:=fun x=>by rw[q4s ua ub,Yn,u_bit hu (by omega),u_bit hu (by omega)]
 unfold isJoinP
 constructor
 . rintro⟨⟨h1,h2⟩,h3⟩
   refine⟨h1.2.1,h1.2.2,h2.2.2,fun x hxn h4 h5=>?_⟩;exact((u_bit hu he x).1 (h3 x ((hx x).2 ⟨⟨ha,hxn,h4⟩,⟨hb,hxn,h5⟩⟩))).2.2
 . rintro⟨h0,h1,h2,h3⟩
   refine⟨⟨⟨ha,h0,h1⟩,⟨hb,h0,h2⟩⟩,fun x hx'=>?_⟩;obtain⟨h4,h5⟩:=(hx x).1 hx';exact(u_bit hu he x).2 ⟨h0,h4.2.1,h3 x h4.2.1 h4.2.2 h5.2.2⟩
theorem qex (hn:n<=32)(hd:IsRel d (fun b a=>decide (a<n)&&part f n (n*n) a b)){a b e:Nat}(ha:a<n)(hb:b<n)(he:e<32) :
 ((commonN (d a) (d b)).testBit e=true/\minusN (commonN (d a) (d b)) (d e)=0) ↔ (e<n/\isMeetP f n a b e):=by
 have ua:=(hd a (by omega)).1;have ub:=(hd b (by omega)).1
 rw[q8g (q70 ua) (hd e he).1,q4s ua ub,Yn,d_bit hd (by omega),d_bit hd (by omega)]
 have hx:∀x,(commonN (d a) (d b)).testBit x=true ↔ Le f n x a/\Le f n x b:=fun x=>by rw[q4s ua ub,Yn,d_bit hd (by omega),d_bit hd (by omega)]
 unfold isMeetP
 constructor
 . rintro⟨⟨h1,h2⟩,h3⟩
   refine⟨h1.1,h1.2.2,h2.2.2,fun x hxn h4 h5=>?_⟩;exact((d_bit hd he x).1 (h3 x ((hx x).2 ⟨⟨hxn,ha,h4⟩,⟨hxn,hb,h5⟩⟩))).2.2
 . rintro⟨h0,h1,h2,h3⟩
   refine⟨⟨⟨h0,ha,h1⟩,⟨h0,hb,h2⟩⟩,fun x hx'=>?_⟩;obtain⟨h4,h5⟩:=(hx x).1 hx';exact(d_bit hd he x).2 ⟨h4.1,h0,h3 x h4.1 h4.2.2 h5.2.2⟩
theorem q75 (hn:n<=32)(hu:IsRel u (part f n (n*n))){a b:Nat}(ha:a<n)(hb:b<n){v:Int}(h:Entry u a b v) :
 (∃e:Nat,e<n/\v=e/\isJoinP f n a b e)∨(v = -1/\∀e,e<n->¬ isJoinP f n a b e):=by
 rcases h with ⟨e,he,rfl,h1,h2⟩ | ⟨rfl,h⟩
 . obtain⟨h3,h4⟩:=(qee hn hu ha hb he).1 ⟨h1,h2⟩
   exact .inl ⟨e,h3,rfl,h4⟩
 . refine .inr ⟨rfl,fun e he hj=>?_⟩
   obtain⟨h3,h4⟩:=(qee hn hu ha hb (by omega)).2 ⟨he,hj⟩;exact h e h3 h4
theorem q76 (hn:n<=32)(hd:IsRel d (fun b a=>decide (a<n)&&part f n (n*n) a b)){a b:Nat}(ha:a<n)(hb:b<n){v:Int}(h:Entry d a b v) :
 (∃e:Nat,e<n/\v=e/\isMeetP f n a b e)∨(v = -1/\∀e,e<n->¬ isMeetP f n a b e):=by
 rcases h with ⟨e,he,rfl,h1,h2⟩ | ⟨rfl,h⟩
 . obtain⟨h3,h4⟩:=(qex hn hd ha hb he).1 ⟨h1,h2⟩
   exact .inl ⟨e,h3,rfl,h4⟩
 . refine .inr ⟨rfl,fun e he hj=>?_⟩
   obtain⟨h3,h4⟩:=(qex hn hd ha hb (by omega)).2 ⟨he,hj⟩;exact h e h3 h4
theorem qhh (n x:Nat):(2 ^ n - 1).testBit x=true ↔ x<n:=by rw[Nat.testBit_two_pow_sub_one];simp
theorem bot_of (hn:n<=32)(hu:IsRel u (part f n (n*n))){v:Int}(h:Least u (2 ^ n - 1) v):(∃e:Nat,e<n/\v=e/\∀x,x<n->Le f n e x)∨(v = -1/\∀e,e<n->¬ ∀x,x<n->Le f n e x):=by
 rcases h with ⟨e,he,rfl,h1,h2⟩ | ⟨rfl,h⟩
 . rw[q8g (all_lt hn) (hu e he).1]at h2
   exact .inl ⟨e,(qhh n e).1 h1,rfl,fun x hx=>(u_bit hu he x).1 (h2 x ((qhh n x).2 hx))⟩
 . refine .inr ⟨rfl,fun e he hall=>h e ((qhh n e).2 he) ?_⟩
   rw[q8g (all_lt hn) (hu e (by omega)).1];exact fun x hx=>(u_bit hu (by omega) x).2 (hall x ((qhh n x).1 hx))
theorem top_of (hn:n<=32)(hd:IsRel d (fun b a=>decide (a<n)&&part f n (n*n) a b)){v:Int}(h:Least d (2 ^ n - 1) v):(∃e:Nat,e<n/\v=e/\∀x,x<n->Le f n x e)∨(v = -1/\∀e,e<n->¬ ∀x,x<n->Le f n x e):=by
 rcases h with ⟨e,he,rfl,h1,h2⟩ | ⟨rfl,h⟩
 . rw[q8g (all_lt hn) (hd e he).1]at h2
   exact .inl ⟨e,(qhh n e).1 h1,rfl,fun x hx=>(d_bit hd he x).1 (h2 x ((qhh n x).2 hx))⟩
 . refine .inr ⟨rfl,fun e he hall=>h e ((qhh n e).2 he) ?_⟩
   rw[q8g (all_lt hn) (hd e (by omega)).1];exact fun x hx=>(d_bit hd (by omega) x).2 (hall x ((qhh n x).1 hx))
theorem qiu {n:Nat}{f:Nat->Bool}(h1:1<=n)(ht:∀a b e,Le f n a b->Le f n b e->Le f n a e)(hm:∀a,a<n->∀b,b<n->∃e,e<n/\isMeetP f n a b e):∃e,e<n/\∀x,x<n->Le f n e x:=by
 have key:∀k,k<=n->∃e,e<n/\∀x,x<k->Le f n e x:=fun k=>by
  induction k with
  | zero=>exact fun _=>⟨0,by omega,fun x h=>absurd h (nL _)⟩
  | succ k ih =>
   intro hk;obtain⟨e,he,hx⟩:=ih (by omega);obtain⟨q,hq,h2,h3,-⟩:=hm e he k (by omega);refine⟨q,hq,fun x hxk=>?_⟩;by_cases ex:x=k
   . subst ex;exact⟨hq,by omega,h3⟩
   . exact ht q e x ⟨hq,he,h2⟩ (hx x (by omega))
 exact key n (nR _)
theorem qiw {n:Nat}{f:Nat->Bool}(h1:1<=n)(ht:∀a b e,Le f n a b->Le f n b e->Le f n a e)(hm:∀a,a<n->∀b,b<n->∃e,e<n/\isJoinP f n a b e):∃e,e<n/\∀x,x<n->Le f n x e:=by
 have key:∀k,k<=n->∃e,e<n/\∀x,x<k->Le f n x e:=fun k=>by
  induction k with
  | zero=>exact fun _=>⟨0,by omega,fun x h=>absurd h (nL _)⟩
  | succ k ih =>
   intro hk;obtain⟨e,he,hx⟩:=ih (by omega);obtain⟨q,hq,h2,h3,-⟩:=hm e he k (by omega);refine⟨q,hq,fun x hxk=>?_⟩;by_cases ex:x=k
   . subst ex;exact⟨by omega,hq,h3⟩
   . exact ht x e q (hx x (by omega)) ⟨he,hq,h2⟩
 exact key n (nR _)
theorem qeg {n:Nat}{f:Nat->Bool}(hs:∀a b,Le f n a b->Le f n b a->a=b){a b e q:Nat}(he:e<n)(hq:q<n)(h:isJoinP f n a b e)(h':isJoinP f n a b q):e=q :=
 hs e q ⟨he,hq,h.2.2 q hq h'.1 h'.2.1⟩ ⟨hq,he,h'.2.2 e he h.1 h.2.1⟩
theorem qey {n:Nat}{f:Nat->Bool}(hs:∀a b,Le f n a b->Le f n b a->a=b){a b e q:Nat}(he:e<n)(hq:q<n)(h:isMeetP f n a b e)(h':isMeetP f n a b q):e=q :=
 hs e q ⟨he,hq,h'.2.2 e he h.1 h.2.1⟩ ⟨hq,he,h.2.2 q hq h'.1 h'.2.1⟩
theorem qaz {n i:Nat}(h:i<n*n):i / n<n/\i % n<n/\i / n*n+i % n=i:=by
 have hn:0<n:=by
  apply Nat.pos_of_ne_zero;intro e;subst e;simp at h
 exact⟨(Nat.div_lt_iff_lt_mul hn).2 h,On _ hn,by rw[Nat.mul_comm];exact Nat.div_add_mod i n⟩
end
end Go.Proofs.YtebbgodlijlioaaGreatDoor
namespace Go.Proofs.YtebbgodlijlioaaGreatDoor
open Go
structure LatP (N:Nat)(le:Nat->Nat->Prop)(jn:Nat->Nat->Nat)(bot:Nat):Prop where
 refl:∀a,a<N->le a a
 trans:∀a b c,a<N->b<N->c<N->le a b->le b c->le a c
 anti:∀a b,a<N->b<N->le a b->le b a->a=b
 bl:bot<N
 bot:∀a,a<N->le bot a
 jl:∀a b,a<N->b<N->jn a b<N
 j1:∀a b,a<N->b<N->le a (jn a b)
 j2:∀a b,a<N->b<N->le b (jn a b)
 j3:∀a b c,a<N->b<N->c<N->le a c->le b c->le (jn a b) c
section
variable {N:Nat} {le:Nat->Nat->Prop} {jn:Nat->Nat->Nat} {bot:Nat}
theorem LatP.fold_lt (L:LatP N le jn bot):∀(xs:List Nat) (a:Nat),a<N->(∀x,x∈xs->x<N)->xs.foldl jn a<N:=by
 intro xs
 induction xs with
 | nil=>intro a ha _;exact ha
 | cons x xs ih=>intro a ha h;exact ih (jn a x) (L.jl a x ha (h x Zd)) fun y hy=>h y (Zl _ hy)
theorem LatP.fold_ge (L:LatP N le jn bot):∀(xs:List Nat) (a:Nat),a<N->(∀x,x∈xs->x<N)->le a (xs.foldl jn a)/\∀x,x∈xs->le x (xs.foldl jn a):=by
 intro xs
 induction xs with
 | nil=>intro a ha _;exact⟨L.refl a ha,fun x hx=>by cases hx⟩
 | cons x xs ih =>
  intro a ha h;have hx:=h x Zd;have hj:=L.jl a x ha hx;have h':∀y,y∈xs->y<N:=fun y hy=>h y (Zl _ hy);obtain⟨i1,i2⟩:=ih (jn a x) hj h';have hl:=L.fold_lt xs (jn a x) hj h';refine⟨L.trans _ _ _ ha hj hl (L.j1 a x ha hx) i1,fun y hy=>?_⟩;rcases Zy.1 hy with rfl | hy
  . exact L.trans _ _ _ hx hj hl (L.j2 a y ha hx) i1
  . exact i2 y hy
theorem LatP.fold_le (L:LatP N le jn bot):∀(xs:List Nat) (a c:Nat),a<N->c<N->(∀x,x∈xs->x<N/\le x c)->le a c->le (xs.foldl jn a) c:=by
 intro xs
 induction xs with
 | nil=>intro a c _ _ _ h;exact h
 | cons x xs ih =>
  intro a c ha hc h hac;have hx:=h x Zd;exact ih (jn a x) c (L.jl a x ha hx.1) hc (fun y hy=>h y (Zl _ hy)) (L.j3 a x c ha hx.1 hc hac hx.2)
structure Sol (m:Fm)(N:Nat)(le:Nat->Nat->Prop)(f:Nat->Nat):Prop where
 lt:∀k,k<m.F.length->f k<N
 decl:∀k,k<m.F.length->0<=(fAt m k).lb->(f k:Int)=(fAt m k).lb
 up:∀k,k<m.F.length->(fAt m k).lb<0->∀j,j<m.F.length->anyR m j k=true->le (f j) (f k)
def Low (m:Fm)(N:Nat)(le:Nat->Nat->Prop)(f:Nat->Nat):Prop:=∀g,Sol m N le g->∀k,k<m.F.length->le (f k) (g k)
theorem qbe (L:LatP N le jn bot){m:Fm}{f g:Nat->Nat}(hf:Sol m N le f)(hg:Sol m N le g)(lf:Low m N le f)(lg:Low m N le g):∀k,k<m.F.length->f k=g k :=
 fun k hk=>L.anti _ _ (hf.lt k hk) (hg.lt k hk) (lf g hg k hk) (lg f hf k hk)
def startL (m:Fm)(bot k:Nat):Nat:=if (fAt m k).lb<0 then bot else (fAt m k).lb.toNat
theorem qco (L:LatP N le jn bot){m:Fm}:Low m N le (startL m bot):=by
 intro g hg k hk
 unfold startL
 split
 . exact L.bot _ (hg.lt k hk)
 . rename_i h
   have:=hg.decl k hk (by omega);rw[show(fAt m k).lb.toNat=g k by omega];exact L.refl _ (hg.lt k hk)
theorem qg4 (L:LatP N le jn bot){m:Fm}{f:Nat->Nat}(hf:Low m N le f)(hl:∀k,k<m.F.length->f k<N){k:Nat}(hk:k<m.F.length)(ha:(fAt m k).lb<0)(a:Nat)(haN:a<N)(hal:∀g,Sol m N le g->le a (g k))(xs:List Nat)(hx:∀x,x∈xs->∃j,j<m.F.length/\anyR m j k=true/\x=f j) :
 ∀g,Sol m N le g->le (xs.foldl jn a) (g k):=by
 intro g hg
 refine L.fold_le xs a (g k) haN (hg.lt k hk) (fun x hxx=>?_) (hal g hg)
 obtain⟨j,hj,hr,rfl⟩:=hx x hxx
 exact⟨hl j hj,L.trans _ _ _ (hl j hj) (hg.lt j hj) (hg.lt k hk) (hf g hg j hj) (hg.up k hk ha j hj hr)⟩
end
theorem qa2 {M M':Nat->Bool}:∀{n:Nat},(∀i,i<n->M i=true->M' i=true)->cntB M n<=cntB M' n:=by
 intro n
 induction n with
 | zero=>intro _;exact nR _
 | succ n ih =>
  intro h;rw[qa3,qa3];have:=ih fun i hi=>h i (by omega);have h2:=h n (by omega);cases e:M n
  . simp;split <;> omega
  . rw[h2 e];simp;exact this
theorem qi5 {M M':Nat->Bool}{j:Nat}:∀{n:Nat},(∀i,i<n->M i=true->M' i=true)->j<n->M j=false->M' j=true->cntB M n<cntB M' n:=by
 intro n
 induction n with
 | zero=>intro _ h;omega
 | succ n ih =>
  intro h hj h1 h2;rw[qa3,qa3];by_cases e:j=n
  . subst e
    have:=qa2 (M:=M) (M':=M') (n:=j) fun i hi=>h i (by omega);rw[h1,h2];simp;omega
  . have:=ih (fun i hi=>h i (by omega)) (by omega) h1 h2
    have h3:=h n (by omega);cases e2:M n
    . simp;split <;> omega
    . rw[h3 e2];simp;exact this
section
variable {N:Nat} {F:Nat->Nat->Bool} {jn:Nat->Nat->Nat} {bot:Nat}
def rkL (F:Nat->Nat->Bool)(N a:Nat):Nat:=cntB (fun b=>F b a) N
theorem rkL_le (F:Nat->Nat->Bool)(N a:Nat):rkL F N a<=N:=qi4 _ _
theorem qg5 (L:LatP N (fun a b=>F a b=true) jn bot){a b:Nat}(ha:a<N)(hb:b<N)(h:F a b=true):rkL F N a<=rkL F N b:=qa2 fun i hi hx=>L.trans i a b hi ha hb hx h
theorem rkL_lt (L:LatP N (fun a b=>F a b=true) jn bot){a b:Nat}(ha:a<N)(hb:b<N)(h:F a b=true)(hne:a≠b):rkL F N a<rkL F N b:=by
 refine qi5 (j:=b) (fun i hi hx=>L.trans i a b hi ha hb hx h) hb ?_ (L.refl b hb)
 cases e:F b a
 . rfl
 . exact absurd (L.anti a b ha hb h e) hne
def potL (F:Nat->Nat->Bool)(N n:Nat)(f:Nat->Nat):Nat:=((List.range n).map fun k=>rkL F N (f k)).sum
theorem pot_le (F:Nat->Nat->Bool)(N n:Nat)(f:Nat->Nat):potL F N n f<=n*N:=by
 unfold potL
 induction n with
 | zero=>simp
 | succ n ih =>
  rw[Za];simp only[Zf,V9,Zo,Vi,Oc,O0,Zr];have:=rkL_le F N (f n);rw[Zw];omega
end
theorem qlu {n:Nat}{f g:Nat->Nat}(h:∀j,j<n->f j<=g j):((List.range n).map f).sum<=((List.range n).map g).sum:=by
 induction n with
 | zero=>exact nR _
 | succ n ih =>
  rw[Za];simp only[Zf,V9,Zo,Vi,Oc,O0,Zr];have:=ih fun j hj=>h j (by omega);have:=h n (by omega);omega
theorem qlv {n:Nat}{f g:Nat->Nat}(h:∀j,j<n->f j<=g j){x:Nat}(hx:x<n)(hlt:f x<g x):((List.range n).map f).sum<((List.range n).map g).sum:=by
 induction n with
 | zero=>omega
 | succ n ih =>
  rw[Za];simp only[Zf,V9,Zo,Vi,Oc,O0,Zr];by_cases e:x=n
  . subst e
    have:=qlu (n:=x) fun j hj=>h j (by omega);omega
  . have:=ih (fun j hj=>h j (by omega)) (by omega)
    have:=h n (by omega);omega
section
variable {N:Nat} {F:Nat->Nat->Bool} {jn:Nat->Nat->Nat} {bot:Nat}
theorem pot_lt (L:LatP N (fun a b=>F a b=true) jn bot){n:Nat}{f g:Nat->Nat}(hf:∀k,k<n->f k<N)(hg:∀k,k<n->g k<N)(h:∀k,k<n->F (f k) (g k)=true){x:Nat}(hx:x<n)(hne:f x≠g x):potL F N n f<potL F N n g :=
 qlv (fun k hk=>qg5 L (hf k hk) (hg k hk) (h k hk)) hx (rkL_lt L (hf x hx) (hg x hx) (h x hx) hne)
end
structure LbA (m:Fm):Prop where
 nf:m.F.length<=200
 dc:∀k,k<m.F.length->-1<=(fAt m k).lb/\(fAt m k).lb<m.L.length
theorem VfA.lba {m:Fm}(h:VfA m):LbA m:=⟨h.nf,fun k hk=>by
 have:=(q4y _ _ _).1 (h.fi _ (Yk hk))
 rw[qif hk]
 exact⟨this.l1,this.l2⟩⟩
theorem declared {m:Fm}(h:LbA m){k:Nat}(hk:k<m.F.length):-1<=(fAt m k).lb/\(fAt m k).lb<m.L.length:=h.dc k hk
structure Way (m:Fm)(N:Nat)(le:Nat->Nat->Prop)(f:Nat->Nat):Prop where
 low:Low m N le f
 lt:∀k,k<m.F.length->f k<N
 decl:∀k,k<m.F.length->0<=(fAt m k).lb->(f k:Int)=(fAt m k).lb
section
variable {N:Nat} {le:Nat->Nat->Prop} {jn:Nat->Nat->Nat} {bot:Nat}
theorem qd7 (L:LatP N le jn bot){m:Fm}(hv:LbA m)(hN:m.L.length=N):Way m N le (startL m bot):=by
 refine⟨qco L,fun k hk=>?_,fun k hk h0=>?_⟩
 . unfold startL
   have:=declared hv hk;split
   . exact L.bl
   . omega
 . unfold startL
   rw[Yt (by omega)];omega
theorem Way.sol {m:Fm}{f:Nat->Nat}(hf:Way m N le f)(h:∀k,k<m.F.length->(fAt m k).lb<0->∀j,j<m.F.length->anyR m j k=true->le (f j) (f k)):Sol m N le f:=⟨hf.lt,hf.decl,h⟩
end
section
variable {N:Nat} {le:Nat->Nat->Prop} {jn:Nat->Nat->Nat} {bot:Nat}
def rdO (m:Fm)(k q:Nat):List Nat:=(List.range q).filter fun j=>anyR m j k
theorem qfz (m:Fm)(k q:Nat):rdO m k (q+1)=rdO m k q++if anyR m q k=true then [q] else []:=by
 unfold rdO
 rw[Za,Ot]
 congr 1
 cases h:anyR m q k <;> simp[h]
theorem qk6 {m:Fm}{k q j:Nat}:j∈rdO m k q ↔ j<q/\anyR m j k=true:=by
 unfold rdO
 rw[Or,Y3]
def jac (m:Fm)(jn:Nat->Nat->Nat)(f:Nat->Nat)(k:Nat):Nat:=if (fAt m k).lb<0 then ((rdO m k m.F.length).map f).foldl jn (f k) else f k
theorem rdO_lt {m:Fm}{f:Nat->Nat}(h:∀k,k<m.F.length->f k<N)(k q:Nat)(hq:q<=m.F.length):∀x,x∈(rdO m k q).map f->x<N:=by
 intro x hx
 obtain⟨j,hj,rfl⟩:=Zc.1 hx
 exact h j (by have:=(qk6.1 hj).1;omega)
theorem Way.jac (L:LatP N le jn bot){m:Fm}{f:Nat->Nat}(h:Way m N le f):Way m N le (jac m jn f):=by
 refine⟨fun g hg k hk=>?_,fun k hk=>?_,fun k hk h0=>?_⟩
 . unfold Proofs.YtebbgodlijlioaaGreatDoor.jac
   split
   . rename_i ha
     refine qg4 L h.low h.lt hk ha (f k) (h.lt k hk) (fun g hg=>h.low g hg k hk) _ (fun x hx=>?_) g hg;obtain⟨j,hj,rfl⟩:=Zc.1 hx;exact⟨j,(qk6.1 hj).1,(qk6.1 hj).2,rfl⟩
   . exact h.low g hg k hk
 . unfold Proofs.YtebbgodlijlioaaGreatDoor.jac
   split
   . exact L.fold_lt _ _ (h.lt k hk) (rdO_lt h.lt k _ (nR _))
   . exact h.lt k hk
 . unfold Proofs.YtebbgodlijlioaaGreatDoor.jac
   rw[Yt (by omega)];exact h.decl k hk h0
theorem jac_ge (L:LatP N le jn bot){m:Fm}{f:Nat->Nat}(h:Way m N le f):∀k,k<m.F.length->le (f k) (jac m jn f k):=fun k hk=>by
 unfold jac
 split
 . exact(L.fold_ge _ _ (h.lt k hk) (rdO_lt h.lt k _ (nR _))).1
 . exact L.refl _ (h.lt k hk)
theorem qja (L:LatP N le jn bot){m:Fm}{f:Nat->Nat}(h:Way m N le f)(he:∀k,k<m.F.length->jac m jn f k=f k):Sol m N le f:=h.sol fun k hk ha j hj hr=>by
 have:=he k hk
 unfold jac at this
 rw[Yz ha]at this
 rw[<- this]
 exact(L.fold_ge _ _ (h.lt k hk) (rdO_lt h.lt k _ (nR _))).2 _ (Zc.2 ⟨j,qk6.2 ⟨hj,hr⟩,rfl⟩)
end
end Go.Proofs.YtebbgodlijlioaaGreatDoor
namespace Go.Proofs.YtebbgodlijlioaaGreatDoor
open Go Go.RowKit
theorem q2l (m:Fm)(A:MA)(j k:Nat)(w:World)(hj:j<m.F.length)(hk:k<m.F.length)(hf:FitM m)(ha:MSl w m A) :
 Calls Tryz.prog 140 #[mV m A,J9 j,J9 k] w fun r w'=>r=.returned (.bool (watB m j k))/\Below w.heap.size w w':=by
 obtain⟨al,alc,ap,apc,ar,arc,af,afc,afa⟩:=A
 unfold mV
 dsimp only
 have HK:=h_ (Blk.new w 28 (Jb al m alc ap apc ar arc af afc))
 have HB:=h_ ((bR w.heap.size w).alloc (nR _) (.cells (Jb al m alc ap apc ar arc af afc) 28))
 obtain⟨W0,hW0⟩:=Nq (w.alloc (.cells (Jb al m alc ap apc ar arc af afc) 28))
 rw[hW0]at HK HB
 have HS:=h_ (ha.mono HB.u)
 have hj':(j:Int)<m.F.length:=by omega
 have hk':(k:Int)<m.F.length:=by omega
 have hfl:=hf.fl
 have HE:Hi (watB m j k=(rdsN m.F[k].va m.F[j].nm||rdsN m.F[k].mu m.F[j].nm)):=h_ (by unfold watB;rw[qif hj,qif hk])
 have HI:=h_ (hf.f _ (Yk hk))
 clear ha hf
 obtain⟨b,o,e1,⟨-,z0,-⟩,-⟩:=HS.u.f j hj
 obtain⟨b',o',e2,⟨hbl,-,-,-,-,-,-,x4,-,x5⟩,hsl⟩:=HS.u.f k hk
 dsimp only at e1 e2 x4 x5 hsl
 subst e1
 cases e2
 have HSl:=h_ hsl
 clear hsl
 generalize m.F[j].nm=nm at *
 generalize m.F[k]=f at *
 generalize afa k=fa at *
 obtain⟨ab,abc,ai,aic,ah,ahc,av,avc,au,auc⟩:=fa
 dsimp only at x4 x5
 have HC1:=h_ (q5k av avc f.va nm W0 HI.u.vl HSl.u.v)
 obtain⟨y0,y1,y2,y3⟩:=quad HK.u
 generalize watB m j k=q at *
 go_enter Tryz.func140,Tryz.ntmps140
 go_wp2_with fail
 try rw[hW0]
 refine HC1.u.mono ?_
 rintro r W1 ⟨rfl,hb⟩
 have hx5:=(hb.cell (p:=⟨b,o+k*9+8,none⟩) hbl).trans x5
 replace HK:=mB HK hb;replace HB:=mT HB hb;replace HSl:=h_ (HSl.u.mono hb)
 clear hb hW0 y0 y1 y2 y3 z0 x4 x5 HC1
 obtain⟨y0,y1,y2,y3⟩:=quad HK.u
 cases hr:rdsN f.va nm
 . have HC2:=h_ (q5k au auc f.mu nm W1 HI.u.ul HSl.u.u)
   have HX:Hi (q=rdsN f.mu nm):=h_ (by rw[HE.u,hr];rfl);clear hr;go_wp2_with fail;refine HC2.u.mono ?_;rintro r W2 ⟨rfl,hb⟩;replace HB:=mT HB hb;clear hb;go_wp2_with fail;go_ret;exact⟨qg2 HX.u.symm,HB.u⟩
 . have HX:Hi (q=true):=h_ (by rw[HE.u,hr];rfl)
   clear hr;go_wp2_with fail;go_ret;exact⟨qg2 HX.u.symm,HB.u⟩
theorem qba (m:Fm)(A:MA)(j k:Nat)(w:World)(hj:j<m.F.length)(hk:k<m.F.length)(hf:FitM m)(ha:MSl w m A) :
 Calls Tryz.prog 108 #[mV m A,J9 j,J9 k] w fun r w'=>r=.returned (.bool (anyR m j k))/\Below w.heap.size w w':=by
 have HC1:=h_ fun W (hs:MSl W m A)=>q5i m A j k W hj hk hf hs
 have HC2:=h_ fun W (hs:MSl W m A)=>q2l m A j k W hj hk hf hs
 obtain⟨al,alc,ap,apc,ar,arc,af,afc,afa⟩:=A
 unfold mV at HC1 HC2⊢
 dsimp only at HC1 HC2⊢
 have HK:=h_ (Blk.new w 28 (Jb al m alc ap apc ar arc af afc))
 have HB:=h_ ((bR w.heap.size w).alloc (nR _) (.cells (Jb al m alc ap apc ar arc af afc) 28))
 obtain⟨W0,hW0⟩:=Nq (w.alloc (.cells (Jb al m alc ap apc ar arc af afc) 28))
 rw[hW0]at HK HB
 have HS:=h_ (ha.mono HB.u)
 have HE:Hi (anyR m j k=(fedB m j k||watB m j k)):=h_ rfl
 generalize anyR m j k=q at *
 clear ha hf
 obtain⟨y0,y1,y2,y3⟩:=quad HK.u
 go_enter Tryz.func108,Tryz.ntmps108
 go_wp2_with fail
 try rw[hW0]
 refine(HC1.u W0 HS.u).mono ?_
 rintro r W1 ⟨rfl,hb⟩
 replace HK:=mB HK hb;replace HB:=mT HB hb;replace HS:=h_ (HS.u.mono hb)
 clear hb hW0 y0 y1 y2 y3 HC1
 obtain⟨y0,y1,y2,y3⟩:=quad HK.u
 cases hr:fedB m j k
 . have HX:Hi (q=watB m j k):=h_ (by rw[HE.u,hr];rfl)
   clear hr;go_wp2_with fail;refine(HC2.u W1 HS.u).mono ?_;rintro r W2 ⟨rfl,hb⟩;replace HB:=mT HB hb;clear hb;go_wp2_with fail;go_ret;exact⟨qg2 HX.u.symm,HB.u⟩
 . have HX:Hi (q=true):=h_ (by rw[HE.u,hr];rfl)
   clear hr;go_wp2_with fail;go_ret;exact⟨qg2 HX.u.symm,HB.u⟩
def calcX (m:Fm):List Nat:=if vfB m then calcL m else []
theorem q64 {w:World}{base:Nat}{e:TypeId}{v:Value}{n:Nat}{us:List Nat}(h:w.ownsRow base e 1 v n (ui us)):∃a cap,v=.slice a n cap/\n=us.length/\Plc w a us:=by
 have hlen:us.length=n:=by have:=h.1;simpa [ui] using this
 obtain⟨a,cap,e1,hi⟩:=q3h h
 refine⟨a,cap,e1,hlen.symm,fun k hk=>?_⟩
 have hk':k<us.length:=by simpa using hk
 obtain⟨b,o,e2,h1,h2⟩:=hi k (by omega)
 refine⟨b,o,e2,h1,?_⟩
 rw[h2]
 dsimp only
 rw[Yl,Yi hk',Yl,Zk,Yi hk']
 rfl
theorem qfi {w w':World}{base n:Nat}{e:TypeId}{v:Value}{xs:List Value}(h:w.ownsRow base e 1 v n xs)(hb:Below w.heap.size w w'):w'.ownsRow base e 1 v n xs :=
 h.kept (row:=none) ⟨hb.os,hb.tape,hb.output,hb.size,fun k hk _=>hb.block k hk⟩ (Classical.em _)
theorem qkv (w:World)(a:Option Addr):Plc w a []:=fun _ hk=>absurd hk (nL _)
theorem q6a (m:Fm)(A:MA)(w:World)(hV:∀W,MSl W m A->Calls Tryz.prog 7 #[mV m A] W fun r w'=>r=.returned (.bool (vfB m))/\Below W.heap.size W w')(hv:vfB m=true->m.F.length<=200)(hf:FitM m)(ha:MSl w m A) :
 Calls Tryz.prog 12 #[mV m A] w fun r w'=>∃a0 c0,r=.returned (.slice a0 (calcX m).length c0)/\Plc w' a0 (calcX m)/\Below w.heap.size w w':=by
 have HN:=h_ fun W (c:Nat) (a:Option Addr) (D:List Nat) (hn:m.F.length<=200) (hD:D.length<=200) (hs:MSl W m A) (hp:Plc W a D)=>q87 m A a c D W hn hD hf hs hp
 obtain⟨al,alc,ap,apc,ar,arc,af,afc,afa⟩:=A
 have HV:=h_ hV
 unfold mV at HN HV⊢
 dsimp only at HN HV⊢
 have HK:=h_ (Blk.new w 28 (Jb al m alc ap apc ar arc af afc))
 have HB:=h_ ((bR w.heap.size w).alloc (nR _) (.cells (Jb al m alc ap apc ar arc af afc) 28))
 obtain⟨W0,hW0⟩:=Nq (w.alloc (.cells (Jb al m alc ap apc ar arc af afc) 28))
 rw[hW0]at HK HB
 have HS:=h_ (ha.mono HB.u);have HL:=h_ hv
 clear ha hf hV hv
 obtain⟨y0,y1,y2,y3⟩:=quad HK.u
 go_enter Tryz.func12,Tryz.ntmps12
 go_wp2_with fail
 try rw[hW0]
 refine(HV.u W0 HS.u).mono ?_
 rintro r W1 ⟨rfl,hb⟩
 replace HK:=mB HK hb;replace HS:=h_ (HS.u.mono hb);replace HB:=mT HB hb
 clear hb hW0 y0 y1 y2 y3
 obtain⟨y0,y1,y2,y3⟩:=quad HK.u
 cases hq:vfB m
 . have HX:Hi (calcX m=[]):=h_ (by unfold calcX;rw[hq];rfl)
   have HB2:=h_ (HB.u.alloc HB.u.size (.cells #[] 3));clear hq;go_wp2_with fail;go_ret;rw[HX.u]
   first | exact⟨_,⟨_,rfl⟩,qkv _ _,HB2.u⟩ | exact⟨_,_,rfl,qkv _ _,HB2.u⟩
 . have HX:Hi (calcX m=calcL m):=h_ (by unfold calcX;rw[hq];rfl)
   have hn:=HL.u hq;clear hq;have HO:=h_ (qc1 W1 3);have HB2:=h_ ((bR W1.heap.size W1).alloc (nR _) (.cells #[] 3));have HK1:=h_ (HK.u.alloc (.cells #[] 3));obtain⟨W2,hW2⟩:=Nq (W1.alloc (.cells #[] 3));rw[hW2]at HO HB2 HK1;clear y0 y1 y2 y3;obtain⟨y0,y1,y2,y3⟩:=quad HK1.u;go_wp2_with fail
   try rw[hW2]
   clear hW2 y0 y1 y2 y3;go_loopw [3,4,5] (fun v i _ wr=>∃k:Nat,k<=m.F.length/\i=J9 k/\(ordL m k).length=k/\wr.ownsRow W1.heap.size 3 1 v k (ui (ordL m k))/\Below W1.heap.size W1 wr) (fun _ i _ _=>m.F.length - (intOf i).toNat)
   case atStart=>exact⟨0,nZ _,rfl,rfl,HO.u,HB2.u⟩
   case round =>
    clear HO HB2 HK1;obtain⟨k,hk,rfl,hlen,hO,hb⟩:=hrel;have HO:=h_ hO;have HB1:=h_ hb;have HLen:=h_ hlen;have HKr:=mB HK hb;have HSr:=h_ (HS.u.mono hb);have hws:=hb.size;obtain⟨y0,y1,y2,y3⟩:=quad HKr.u;clear hb hlen;obtain⟨a1,c1,rfl,-,hP⟩:=q64 hO;have HP:=h_ hP;clear hO hP;by_cases hlt:k<m.F.length
    . have hlt':(k:Int)<m.F.length:=by omega
      have HC:=h_ (HN.u wr c1 a1 (ordL m k) hn (by rw[HLen.u];omega) HSr.u HP.u);rw[HLen.u]at HC;go_wp2_with fail;refine HC.u.mono ?_;rintro r W3 ⟨rfl,hb⟩;have hO3:=qfi HO.u hb;have HB3:=h_ (HB1.u.trans (hb.mono hws));have HO3:=h_ hO3;have hw3:=HB3.u.size;clear hb hO3 y0 y1 y2 y3;cases hx:nxt m (ordL m k) with
      | none =>
       rw[qf9 hx];have HX2:Hi (calcX m=[]):=h_ (by rw[HX.u];exact q4p hlt hx);have HB4:=h_ (HB.u.trans ((HB3.u.alloc hw3 (.cells #[] 3)).mono HB.u.size));clear hx;go_wp2_with fail;go_ret;rw[HX2.u]
       first | exact⟨_,⟨_,rfl⟩,qkv _ _,HB4.u⟩ | exact⟨_,_,rfl,qkv _ _,HB4.u⟩
      | some x =>
       rw[qfa hx];have HT:Hi (ordL m (k+1)=ordL m k++[x]):=h_ (qbp hx);have hx0:¬ (x:Int)<0:=(by omega);clear hx;obtain⟨i0,hi,hz0,hz1,hz2⟩:=info_parts infoI;go_wp2_with (at_builtin;refine wpList_append_own _ rfl _ _ 30 rfl W1.heap.size 3 i0 _ 1 8 Tryz.underlying30 hi hz0 hz1 hz2 rfl (by omega) _ _ _ rfl (HO3.u.alloc _) ⟨W3.heap.size,0,none⟩ 1 1 [J9 x] rfl rfl (qdh W3 3 _) (by simp[Value.oneCell']) (by unfold maxLen;omega) (by omega) (by simp;omega) ?_);intro v' w4 ho' hgr' _;have HB4:=h_ ((HB3.u.alloc hw3 (.cells #[J9 x] 3)).grown hgr' (by simp;omega) (fun q' e=>q8q HO3.u e));have HO4:Hi (w4.ownsRow W1.heap.size 3 1 v' (k+1) (ui (ordL m (k+1)))):=h_ (by rw[HT.u];simpa [ui] using ho');have HLen2:Hi ((ordL m (k+1)).length=k+1):=h_ (by rw[HT.u,Yg,HLen.u];rfl);clear ho' hgr' hi hz0 hz1 hz2;go_wp2_with fail;go_roundw
       case rel=>first | exact⟨k+1,by omega,by go_num,HLen2.u,HO4.u,HB4.u⟩ | ((repeat apply Exists.intro);exact⟨⟨k+1,by omega,by go_num,HLen2.u,HO4.u,HB4.u⟩,rfl⟩)
       case measure=>simp[intOf];omega
    . obtain rfl:k=m.F.length:=by omega
      have hlt':¬ (m.F.length:Int)<(m.F.length:Int):=(by omega);have HE:Hi (calcX m=ordL m m.F.length):=h_ (by rw[HX.u];exact q6w HLen.u);have HE2:Hi ((calcX m).length=m.F.length):=h_ (by rw[HE.u];exact HLen.u);have HB4:=h_ (HB.u.trans (HB1.u.mono HB.u.size));go_wp2_with fail;go_ret;rw[HE2.u]
      first | exact⟨_,⟨_,rfl⟩,by rw[HE.u];exact HP.u,HB4.u⟩ | exact⟨_,_,rfl,by rw[HE.u];exact HP.u,HB4.u⟩
end Go.Proofs.YtebbgodlijlioaaGreatDoor
