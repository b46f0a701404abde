import Derived.Test.YtgkcaeidhkddjaaGreatDoorXG1f
namespace Go.Proofs.YtgkcaeidhkddjaaGreatDoor
open Go Go.RowKit
def sameN (g g':Nat->Nat):Bool:=(List.range 32).all fun i=>g i == g' i
theorem qcp {g g':Nat->Nat}:sameN g g'=true ↔ ∀ i,i<32->g i=g' i:=by simp [sameN]
def Le (f:Nat->Bool) (n a b:Nat):Prop:=a<n/\b<n/\f (a*n+b)=true
theorem qfj {f:Nat->Bool} {n a b:Nat}:part f n (n*n) a b=true ↔ Le f n a b:=by
 unfold part Le
 simp only [Bool.and_eq_true,decide_eq_true_iff]
 constructor
 . rintro ⟨⟨h1,h2⟩,h3⟩
   refine ⟨?_,h1,h3⟩
   apply Nat.lt_of_not_le;intro h
   have:=Nat.mul_le_mul_right n h;omega
 . rintro ⟨h1,h2,h3⟩
   exact ⟨⟨h2,idx_lt h1 h2⟩,h3⟩
section
variable {n:Nat} {f:Nat->Bool} {u c d:Nat->Nat}
theorem u_bit (hu:IsRel u (part f n (n*n))) {a:Nat} (ha:a<32) (b:Nat):(u a).testBit b=true ↔ Le f n a b:=by rw [(hu a ha).2 b];exact qfj
theorem d_bit (hd:IsRel d (fun b a=>decide (a<n)&&part f n (n*n) a b)) {a:Nat} (ha:a<32) (b:Nat):(d a).testBit b=true ↔ Le f n b a:=by
 rw [(hd a ha).2 b,Bool.and_eq_true,decide_eq_true_iff,qfj]
 exact ⟨fun h=>h.2,fun h=>⟨h.1,h⟩⟩
theorem qcq (hn:n<=32) (hu:IsRel u (part f n (n*n))) (hc:IsReach c (fun a b=>a<n/\Reach u a b)) (h:sameN u c=true):(∀ a,a<n->Le f n a a)/\∀ a b e,Le f n a b->Le f n b e->Le f n a e:=by
 rw [qcp] at h
 have key:∀ a b,a<n->Reach u a b->Le f n a b:=fun a b ha hr=>by
  rw [<- u_bit hu (by omega),h a (by omega),(hc a (by omega)).2 b];exact ⟨ha,hr⟩
 refine ⟨fun a ha=>key a a ha (Reach.refl _ _),fun a b e h1 h2=>?_⟩
 have ha:=h1.1;have hb:=h1.2.1
 have r1:Reach u a b:=(Reach.refl u a).step (by omega) ((u_bit hu (by omega) b).2 h1)
 exact key a e h1.1 (r1.step (by omega) ((u_bit hu (by omega) e).2 h2))
theorem qkx (hn:n<=32) (hu:IsRel u (part f n (n*n))) (hd:IsRel d (fun b a=>decide (a<n)&&part f n (n*n) a b)) (hr:∀ a,a<n->Le f n a a) {a:Nat} (ha:a<n) :
 commonN (u a) (d a)=2 ^ a ↔ ∀ b,Le f n a b->Le f n b a->a=b:=by
 have bits:∀ b,(commonN (u a) (d a)).testBit b=true ↔ Le f n a b/\Le f n b a:=fun b=>by
  rw [q4w (hu a (by omega)).1 (hd a (by omega)).1,Bool.and_eq_true,u_bit hu (by omega),d_bit hd (by omega)]
 constructor
 . intro h b h1 h2
   have:=(bits b).2 ⟨h1,h2⟩
   rw [h,Nat.testBit_two_pow,decide_eq_true_iff] at this
   exact this
 . intro h
   apply Nat.eq_of_testBit_eq
   intro b
   rw [Bool.eq_iff_iff,bits,Nat.testBit_two_pow,decide_eq_true_iff]
   exact ⟨fun ⟨h1,h2⟩=>h b h1 h2,fun e=>by subst e;exact ⟨hr a ha,hr a ha⟩⟩
theorem q8q {s t:Nat} (hs:s<4294967296) (ht:t<4294967296):minusN s t=0 ↔ ∀ x,s.testBit x=true->t.testBit x=true:=by
 constructor
 . intro h x hx
   have:=q8p hs ht x
   rw [h,hx] at this
   simpa using this.symm
 . intro h
   apply Nat.eq_of_testBit_eq
   intro x
   rw [q8p hs ht x]
   cases e:s.testBit x
   . simp
   . simp [h x e]
theorem qer (hn:n<=32) (hu:IsRel u (part f n (n*n))) {a b e:Nat} (ha:a<n) (hb:b<n) (he:e<32) :
 ((commonN (u a) (u b)).testBit e=true/\minusN (commonN (u a) (u b)) (u e)=0) ↔ (e<n/\isJoinP f n a b e):=by
 have ua:=(hu a (by omega)).1;have ub:=(hu b (by omega)).1
 rw [q8q (q7g ua) (hu e he).1,q4w ua ub,Bool.and_eq_true,u_bit hu (by omega),u_bit hu (by omega)]
 have hx:∀ x,(commonN (u a) (u b)).testBit x=true ↔ Le f n a x/\Le f n b x:=fun x=>by rw [q4w ua ub,Bool.and_eq_true,u_bit hu (by omega),u_bit hu (by omega)]
 unfold isJoinP
 constructor
 . rintro ⟨⟨h1,h2⟩,h3⟩
   refine ⟨h1.2.1,h1.2.2,h2.2.2,fun x hxn h4 h5=>?_⟩
   exact ((u_bit hu he x).1 (h3 x ((hx x).2 ⟨⟨ha,hxn,h4⟩,⟨hb,hxn,h5⟩⟩))).2.2
 . rintro ⟨h0,h1,h2,h3⟩
   refine ⟨⟨⟨ha,h0,h1⟩,⟨hb,h0,h2⟩⟩,fun x hx'=>?_⟩
   obtain ⟨h4,h5⟩:=(hx x).1 hx'
   exact (u_bit hu he x).2 ⟨h0,h4.2.1,h3 x h4.2.1 h4.2.2 h5.2.2⟩
theorem qf1 (hn:n<=32) (hd:IsRel d (fun b a=>decide (a<n)&&part f n (n*n) a b)) {a b e:Nat} (ha:a<n) (hb:b<n) (he:e<32) :
 ((commonN (d a) (d b)).testBit e=true/\minusN (commonN (d a) (d b)) (d e)=0) ↔ (e<n/\isMeetP f n a b e):=by
 have ua:=(hd a (by omega)).1;have ub:=(hd b (by omega)).1
 rw [q8q (q7g ua) (hd e he).1,q4w ua ub,Bool.and_eq_true,d_bit hd (by omega),d_bit hd (by omega)]
 have hx:∀ x,(commonN (d a) (d b)).testBit x=true ↔ Le f n x a/\Le f n x b:=fun x=>by rw [q4w ua ub,Bool.and_eq_true,d_bit hd (by omega),d_bit hd (by omega)]
 unfold isMeetP
 constructor
 . rintro ⟨⟨h1,h2⟩,h3⟩
   refine ⟨h1.1,h1.2.2,h2.2.2,fun x hxn h4 h5=>?_⟩
   exact ((d_bit hd he x).1 (h3 x ((hx x).2 ⟨⟨hxn,ha,h4⟩,⟨hxn,hb,h5⟩⟩))).2.2
 . rintro ⟨h0,h1,h2,h3⟩
   refine ⟨⟨⟨h0,ha,h1⟩,⟨h0,hb,h2⟩⟩,fun x hx'=>?_⟩
   obtain ⟨h4,h5⟩:=(hx x).1 hx'
   exact (d_bit hd he x).2 ⟨h4.1,h0,h3 x h4.1 h4.2.2 h5.2.2⟩
theorem q7j (hn:n<=32) (hu:IsRel u (part f n (n*n))) {a b:Nat} (ha:a<n) (hb:b<n) {v:Int} (h:Entry u a b v) :
 (∃ e:Nat,e<n/\v=e/\isJoinP f n a b e) ∨ (v = -1/\∀ e,e<n->¬ isJoinP f n a b e):=by
 rcases h with ⟨e,he,rfl,h1,h2⟩ | ⟨rfl,h⟩
 . obtain ⟨h3,h4⟩:=(qer hn hu ha hb he).1 ⟨h1,h2⟩
   exact .inl ⟨e,h3,rfl,h4⟩
 . refine .inr ⟨rfl,fun e he hj=>?_⟩
   obtain ⟨h3,h4⟩:=(qer hn hu ha hb (by omega)).2 ⟨he,hj⟩
   exact h e h3 h4
theorem q7k (hn:n<=32) (hd:IsRel d (fun b a=>decide (a<n)&&part f n (n*n) a b)) {a b:Nat} (ha:a<n) (hb:b<n) {v:Int} (h:Entry d a b v) :
 (∃ e:Nat,e<n/\v=e/\isMeetP f n a b e) ∨ (v = -1/\∀ e,e<n->¬ isMeetP f n a b e):=by
 rcases h with ⟨e,he,rfl,h1,h2⟩ | ⟨rfl,h⟩
 . obtain ⟨h3,h4⟩:=(qf1 hn hd ha hb he).1 ⟨h1,h2⟩
   exact .inl ⟨e,h3,rfl,h4⟩
 . refine .inr ⟨rfl,fun e he hj=>?_⟩
   obtain ⟨h3,h4⟩:=(qf1 hn hd ha hb (by omega)).2 ⟨he,hj⟩
   exact h e h3 h4
theorem qh8 (n x:Nat):(2 ^ n - 1).testBit x=true ↔ x<n:=by rw [Nat.testBit_two_pow_sub_one];simp
theorem bot_of (hn:n<=32) (hu:IsRel u (part f n (n*n))) {v:Int} (h:Least u (2 ^ n - 1) v):(∃ e:Nat,e<n/\v=e/\∀ x,x<n->Le f n e x) ∨ (v = -1/\∀ e,e<n->¬ ∀ x,x<n->Le f n e x):=by
 rcases h with ⟨e,he,rfl,h1,h2⟩ | ⟨rfl,h⟩
 . rw [q8q (all_lt hn) (hu e he).1] at h2
   exact .inl ⟨e,(qh8 n e).1 h1,rfl,fun x hx=>(u_bit hu he x).1 (h2 x ((qh8 n x).2 hx))⟩
 . refine .inr ⟨rfl,fun e he hall=>h e ((qh8 n e).2 he) ?_⟩
   rw [q8q (all_lt hn) (hu e (by omega)).1]
   exact fun x hx=>(u_bit hu (by omega) x).2 (hall x ((qh8 n x).1 hx))
theorem top_of (hn:n<=32) (hd:IsRel d (fun b a=>decide (a<n)&&part f n (n*n) a b)) {v:Int} (h:Least d (2 ^ n - 1) v):(∃ e:Nat,e<n/\v=e/\∀ x,x<n->Le f n x e) ∨ (v = -1/\∀ e,e<n->¬ ∀ x,x<n->Le f n x e):=by
 rcases h with ⟨e,he,rfl,h1,h2⟩ | ⟨rfl,h⟩
 . rw [q8q (all_lt hn) (hd e he).1] at h2
   exact .inl ⟨e,(qh8 n e).1 h1,rfl,fun x hx=>(d_bit hd he x).1 (h2 x ((qh8 n x).2 hx))⟩
 . refine .inr ⟨rfl,fun e he hall=>h e ((qh8 n e).2 he) ?_⟩
   rw [q8q (all_lt hn) (hd e (by omega)).1]
   exact fun x hx=>(d_bit hd (by omega) x).2 (hall x ((qh8 n x).1 hx))
theorem qig {n:Nat} {f:Nat->Bool} (h1:1<=n) (ht:∀ a b e,Le f n a b->Le f n b e->Le f n a e) (hm:∀ a,a<n->∀ b,b<n->∃ e,e<n/\isMeetP f n a b e):∃ e,e<n/\∀ x,x<n->Le f n e x:=by
 have key:∀ k,k<=n->∃ e,e<n/\∀ x,x<k->Le f n e x:=fun k=>by
  induction k with
  | zero=>exact fun _=>⟨0,by omega,fun x h=>absurd h (nL _)⟩
  | succ k ih =>
   intro hk
   obtain ⟨e,he,hx⟩:=ih (by omega)
   obtain ⟨q,hq,h2,h3,-⟩:=hm e he k (by omega)
   refine ⟨q,hq,fun x hxk=>?_⟩
   by_cases ex:x=k
   . subst ex;exact ⟨hq,by omega,h3⟩
   . exact ht q e x ⟨hq,he,h2⟩ (hx x (by omega))
 exact key n (nR _)
theorem qii {n:Nat} {f:Nat->Bool} (h1:1<=n) (ht:∀ a b e,Le f n a b->Le f n b e->Le f n a e) (hm:∀ a,a<n->∀ b,b<n->∃ e,e<n/\isJoinP f n a b e):∃ e,e<n/\∀ x,x<n->Le f n x e:=by
 have key:∀ k,k<=n->∃ e,e<n/\∀ x,x<k->Le f n x e:=fun k=>by
  induction k with
  | zero=>exact fun _=>⟨0,by omega,fun x h=>absurd h (nL _)⟩
  | succ k ih =>
   intro hk
   obtain ⟨e,he,hx⟩:=ih (by omega)
   obtain ⟨q,hq,h2,h3,-⟩:=hm e he k (by omega)
   refine ⟨q,hq,fun x hxk=>?_⟩
   by_cases ex:x=k
   . subst ex;exact ⟨by omega,hq,h3⟩
   . exact ht x e q (hx x (by omega)) ⟨he,hq,h2⟩
 exact key n (nR _)
theorem qet {n:Nat} {f:Nat->Bool} (hs:∀ a b,Le f n a b->Le f n b a->a=b) {a b e q:Nat} (he:e<n) (hq:q<n) (h:isJoinP f n a b e) (h':isJoinP f n a b q):e=q :=
 hs e q ⟨he,hq,h.2.2 q hq h'.1 h'.2.1⟩ ⟨hq,he,h'.2.2 e he h.1 h.2.1⟩
theorem qf2 {n:Nat} {f:Nat->Bool} (hs:∀ a b,Le f n a b->Le f n b a->a=b) {a b e q:Nat} (he:e<n) (hq:q<n) (h:isMeetP f n a b e) (h':isMeetP f n a b q):e=q :=
 hs e q ⟨he,hq,h'.2.2 e he h.1 h.2.1⟩ ⟨hq,he,h.2.2 q hq h'.1 h'.2.1⟩
theorem qbf {n i:Nat} (h:i<n*n):i / n<n/\i % n<n/\i / n*n+i % n=i:=by
 have hn:0<n:=by
  apply Nat.pos_of_ne_zero;intro e;subst e;simp at h
 exact ⟨(Nat.div_lt_iff_lt_mul hn).2 h,Nat.mod_lt _ hn,by rw [Nat.mul_comm];exact Nat.div_add_mod i n⟩
end
theorem qj0 {p:Nat->Bool} {e:Nat} (he:p e=true):∀ {k:Nat},e<k->(∀ c,c<k->p c=true->c=e)->lastN p k=e
 | k+1,h,hu=>by
  rw [lastN]
  by_cases hk:p k=true
  . rw [if_pos hk,hu k (by omega) hk]
  . rw [if_neg hk]
    have:e ≠ k:=fun x=>hk (x ▸ he)
    exact qj0 he (by omega) (fun c hc=>hu c (by omega))
theorem q37 {F:Nat->Bool} {n m c:Nat}:belowAll F n m c=true ↔ ∀ d,d<m->F (c*n+d)=true:=by simp [belowAll]
theorem q35 {F:Nat->Bool} {n m c:Nat}:aboveAll F n m c=true ↔ ∀ d,d<m->F (d*n+c)=true:=by simp [aboveAll]
theorem qep {n:Nat} {F G:Nat->Int} (h:∀ i,i<n->F i=G i):is n F=is n G:=List.map_congr_left fun i hi=>by rw [h i (List.mem_range.1 hi)]
theorem qds {n:Nat} {F G:Nat->Bool} (h:∀ i,i<n->F i=G i):bs n F=bs n G:=List.map_congr_left fun i hi=>by rw [h i (List.mem_range.1 hi)]
theorem qfy {u f g:Nat->Nat} {m n a b:Nat} (hu:PairBits u f g m) (hg:∀ k,k<m->g k<n) (ha:a<n) (h:Reach u a b):b<n :=
 h (fun x=>x<n) ha fun x y _ hx hy=>by obtain ⟨k,hk,-,rfl⟩:=(hu x hx y).1 hy;exact hg k hk
theorem q6b {u:Nat->Nat} {a b c:Nat} (h1:Reach u a b) (h2:Reach u b c):Reach u a c:=fun C h hs=>h2 C (h1 C h hs) hs
theorem q66 {u f g:Nat->Nat} {m:Nat} (h:IsRel u (pb f g m)):PairBits u f g m:=fun x hx y=>by rw [(h x hx).2 y,pb_iff]
section
variable {u q f g:Nat->Nat} {m n:Nat} {F:Nat->Bool}
theorem qew (hn:n<=32) (hu:IsRel u (pb f g m)) (hf:∀ k,k<m->f k<n) (hg:∀ k,k<m->g k<n) (hF:tabB n (rounds diag f g m n)=F) {a b:Nat}:Le F n a b ↔ a<n/\Reach u a b:=by
 unfold Le
 rw [<- hF]
 refine ⟨fun ⟨h1,h2,h3⟩=>⟨h1,?_⟩,fun ⟨h1,h2⟩=>?_⟩
 . rw [qks _ h2] at h3
   exact (q4v hn (q66 hu) hf hg h1).1 h3
 . have h3:=qfy (q66 hu) hg h1 h2
   refine ⟨h1,h3,?_⟩
   rw [qks _ h3]
   exact (q4v hn (q66 hu) hf hg h1).2 h2
theorem rel_q (hn:n<=32) (hu:IsRel u (pb f g m)) (hf:∀ k,k<m->f k<n) (hg:∀ k,k<m->g k<n) (hF:tabB n (rounds diag f g m n)=F) (hq:IsReach q (fun a b=>a<n/\Reach u a b)):IsRel q (part F n (n*n)):=fun a ha =>
 ⟨(hq a ha).1,fun b=>by rw [Bool.eq_iff_iff,(hq a ha).2 b,qfj,qew hn hu hf hg hF]⟩
end
def SameOut (n:Nat) (F:Nat->Bool) (B:Nat) (e1 e2:Ending) (w1 w2:World):Prop :=
 (∃ code:Int,e1=.returned (.tuple #[zeroL,.int .i64 code])/\e2=.returned (.tuple #[zeroL,.int .i64 code])) ∨
 (∃ a1 a2 a3 c1 c2 c3 G1 G2 G3,∃ bot top:Int,e1=.returned (.tuple #[.agg #[.int .i64 n,.slice a1 (n*n) c1,.slice a2 (n*n) c2,.slice a3 (n*n) c3,.int .i64 bot,.int .i64 top],.int .i64 0]) /\
  e2=.returned (.tuple #[.agg #[.int .i64 n,.slice (some ⟨G1,0,none⟩) (n*n) (n*n),.slice (some ⟨G2,0,none⟩) (n*n) (n*n),.slice (some ⟨G3,0,none⟩) (n*n) (n*n),.int .i64 bot,.int .i64 top],.int .i64 0]) /\
  Bools w1 a1 (n*n) F/\Ints w1 a2 (n*n) (JF F n)/\Ints w1 a3 (n*n) (MF F n)/\Blk w2 G1 4 (bs (n*n) F)/\Blk w2 G2 3 (is (n*n) (JF F n))/\Blk w2 G3 3 (is (n*n) (MF F n))/\B<=G1/\B<=G2/\B<=G3/\G1 ≠ G2/\G1 ≠ G3/\G2 ≠ G3)
section
variable {n B:Nat} {F:Nat->Bool} {q d:Nat->Nat}
theorem qir {a b:Nat} (hb:b<n) (h:∀ e,e<n->¬ isJoinP F n a b e):JF F n (a*n+b) = -1:=by
 have hd:(a*n+b) / n=a/\(a*n+b) % n=b:=by
  rw [Nat.add_comm,Nat.add_mul_div_right _ _ (by omega),Nat.div_eq_of_lt hb,Nat.add_mul_mod_self_right,Nat.mod_eq_of_lt hb];simp
 rw [JF,hd.1,hd.2,q7s fun c hc=>q3s (h c hc)]
theorem qis {a b e:Nat} (hs:∀ a b,Le F n a b->Le F n b a->a=b) (hb:b<n) (he:e<n) (h:isJoinP F n a b e):JF F n (a*n+b)=e:=by
 have hd:(a*n+b) / n=a/\(a*n+b) % n=b:=by
  rw [Nat.add_comm,Nat.add_mul_div_right _ _ (by omega),Nat.div_eq_of_lt hb,Nat.add_mul_mod_self_right,Nat.mod_eq_of_lt hb];simp
 rw [JF,hd.1,hd.2]
 rcases q55 (isJoin F n a b) n with ⟨c,hc,h1,h2⟩ | ⟨-,h2⟩
 . rw [h1,qet hs hc he (q82.1 h2) h]
 . have:=h2 e he
   rw [q5c h] at this;cases this
theorem qjf {a b:Nat} (hb:b<n) (h:∀ e,e<n->¬ isMeetP F n a b e):MF F n (a*n+b) = -1:=by
 have hd:(a*n+b) / n=a/\(a*n+b) % n=b:=by
  rw [Nat.add_comm,Nat.add_mul_div_right _ _ (by omega),Nat.div_eq_of_lt hb,Nat.add_mul_mod_self_right,Nat.mod_eq_of_lt hb];simp
 rw [MF,hd.1,hd.2,q7s fun c hc=>q3u (h c hc)]
theorem qjg {a b e:Nat} (hs:∀ a b,Le F n a b->Le F n b a->a=b) (hb:b<n) (he:e<n) (h:isMeetP F n a b e):MF F n (a*n+b)=e:=by
 have hd:(a*n+b) / n=a/\(a*n+b) % n=b:=by
  rw [Nat.add_comm,Nat.add_mul_div_right _ _ (by omega),Nat.div_eq_of_lt hb,Nat.add_mul_mod_self_right,Nat.mod_eq_of_lt hb];simp
 rw [MF,hd.1,hd.2]
 rcases q55 (isMeet F n a b) n with ⟨c,hc,h1,h2⟩ | ⟨-,h2⟩
 . rw [h1,qf2 hs hc he (q85.1 h2) h]
 . have:=h2 e he
   rw [q5e h] at this;cases this
theorem qg8 {Rl:Nat->Nat->Bool} {e1 e2:Ending} {w1 w2:World} (h1:1<=n) (hn:n<=32) (hq:IsRel q (part F n (n*n))) (hd:IsRel d (fun b a=>decide (a<n)&&part F n (n*n) a b)) (hRl:∀ a b,a<n->b<n->Rl a b=F (a*n+b))
 (hr:∀ a,a<n->Le F n a a) (ht:∀ a b e,Le F n a b->Le F n b e->Le F n a e) (hS:SpecOut n F e1 w1) (hL:LatOut n q d Rl B e2 w2):SameOut n F B e1 e2 w1 w2:=by
 have anti:¬ TwoW F n->∀ a b,Le F n a b->Le F n b a->a=b:=fun h a b x y=>Classical.byContradiction fun e=>h ⟨a,b,x.1,y.1,e,x.2.2,y.2.2⟩
 have two1:(∃ a,a<n/\¬ commonN (q a) (d a)=2 ^ a)->TwoW F n:=fun ⟨a,ha,h⟩=>Classical.byContradiction fun hno=>h ((qkx hn hq hd hr ha).2 fun b x y=>anti hno a b x y)
 have two2:(∀ a,a<n->commonN (q a) (d a)=2 ^ a)->¬ TwoW F n:=fun h ⟨a,b,ha,hb,hne,x,y⟩=>hne ((qkx hn hq hd hr ha).1 (h a ha) b ⟨ha,hb,x⟩ ⟨hb,ha,y⟩)
 have entJ:∀ {a b:Nat} {v:Int},a<n->b<n->Entry q a b v->_:=fun ha hb h=>q7j hn hq ha hb h
 have entM:∀ {a b:Nat} {v:Int},a<n->b<n->Entry d a b v->_:=fun ha hb h=>q7k hn hd ha hb h
 have noJ:(∃ a b,a<n/\b<n/\Entry q a b (-1))->∃ i,i<n*n/\JF F n i<0:=fun ⟨a,b,ha,hb,h⟩=>by
  rcases entJ ha hb h with ⟨e,-,he,-⟩ | ⟨-,h⟩
  . omega
  . exact ⟨a*n+b,idx_lt ha hb,by rw [qir hb h];omega⟩
 have noM:(∃ a b,a<n/\b<n/\Entry d a b (-1))->∃ i,i<n*n/\MF F n i<0:=fun ⟨a,b,ha,hb,h⟩=>by
  rcases entM ha hb h with ⟨e,-,he,-⟩ | ⟨-,h⟩
  . omega
  . exact ⟨a*n+b,idx_lt ha hb,by rw [qjf hb h];omega⟩
 have valJ:∀ {F1:Nat->Int},¬ TwoW F n->(∀ a,a<n->∀ b,b<n->0<=F1 (a*n+b)/\Entry q a b (F1 (a*n+b)))->∀ i,i<n*n->JF F n i=F1 i/\0<=F1 i/\∃ e,e<n/\isJoinP F n (i / n) (i % n) e:=fun {F1} hno h i hi=>by
  obtain ⟨ha,hb,he⟩:=qbf hi
  obtain ⟨h0,hE⟩:=h _ ha _ hb
  rcases entJ ha hb hE with ⟨e,hen,hv,hj⟩ | ⟨hv,-⟩
  . have:=qis (anti hno) hb hen hj
    rw [he] at this hv h0
    exact ⟨by rw [this,hv],h0,e,hen,hj⟩
  . omega
 have valM:∀ {F2:Nat->Int},¬ TwoW F n->(∀ a,a<n->∀ b,b<n->0<=F2 (a*n+b)/\Entry d a b (F2 (a*n+b)))->∀ i,i<n*n->MF F n i=F2 i/\0<=F2 i/\∃ e,e<n/\isMeetP F n (i / n) (i % n) e:=fun {F2} hno h i hi=>by
  obtain ⟨ha,hb,he⟩:=qbf hi
  obtain ⟨h0,hE⟩:=h _ ha _ hb
  rcases entM ha hb hE with ⟨e,hen,hv,hj⟩ | ⟨hv,-⟩
  . have:=qjg (anti hno) hb hen hj
    rw [he] at this hv h0
    exact ⟨by rw [this,hv],h0,e,hen,hj⟩
  . omega
 rcases hL with ⟨l2,le⟩ | ⟨l2,l3,le⟩ | ⟨l2,l4,⟨F1,l3⟩,le⟩ | ⟨l2,G1,G2,G3,F1,F2,bot,top,le,b1,b2,b3,x1,x2,x3,y1,y2,y3,l3,l4,lb,lt⟩
 . rcases hS with ⟨-,se⟩ | ⟨s2,-⟩ | ⟨s2,-⟩ | ⟨s2,-⟩
   . exact .inl ⟨2,se,le⟩
   all_goals exact absurd (two1 l2) s2
 . rcases hS with ⟨s2,-⟩ | ⟨s2,s3,se⟩ | ⟨s2,s3,-⟩ | ⟨s2,s3,-⟩
   . exact absurd s2 (two2 l2)
   . exact .inl ⟨3,se,le⟩
   all_goals
    obtain ⟨i,hi,h⟩:=noJ l3
    have:=s3 i hi
    omega
 . have vJ:=valJ (two2 l2) l3
   rcases hS with ⟨s2,-⟩ | ⟨s2,⟨i,hi,h⟩,se⟩ | ⟨s2,s3,s4,se⟩ | ⟨s2,s3,s4,-⟩
   . exact absurd s2 (two2 l2)
   . have:=vJ i hi;omega
   . exact .inl ⟨4,se,le⟩
   . obtain ⟨i,hi,h⟩:=noM l4
     have:=s4 i hi
     omega
 . have vJ:=valJ (two2 l2) l3
   have vM:=valM (two2 l2) l4
   rcases hS with ⟨s2,-⟩ | ⟨s2,⟨i,hi,h⟩,se⟩ | ⟨s2,s3,⟨i,hi,h⟩,se⟩ | ⟨s2,s3,s4,a1,a2,a3,c1,c2,c3,se,k1,k2,k3⟩
   . exact absurd s2 (two2 l2)
   . have:=vJ i hi;omega
   . have:=vM i hi;omega
   . have hA:=anti s2
     have joins:∀ a,a<n->∀ b,b<n->∃ e,e<n/\isJoinP F n a b e:=fun a ha b hb=>by
      obtain ⟨-,-,e,he,hj⟩:=vJ _ (idx_lt ha hb)
      have hdm:(a*n+b) / n=a/\(a*n+b) % n=b:=by
       rw [Nat.add_comm,Nat.add_mul_div_right _ _ (by omega),Nat.div_eq_of_lt hb,Nat.add_mul_mod_self_right,Nat.mod_eq_of_lt hb];simp
      rw [hdm.1,hdm.2] at hj
      exact ⟨e,he,hj⟩
     have meets:∀ a,a<n->∀ b,b<n->∃ e,e<n/\isMeetP F n a b e:=fun a ha b hb=>by
      obtain ⟨-,-,e,he,hj⟩:=vM _ (idx_lt ha hb)
      have hdm:(a*n+b) / n=a/\(a*n+b) % n=b:=by
       rw [Nat.add_comm,Nat.add_mul_div_right _ _ (by omega),Nat.div_eq_of_lt hb,Nat.add_mul_mod_self_right,Nat.mod_eq_of_lt hb];simp
      rw [hdm.1,hdm.2] at hj
      exact ⟨e,he,hj⟩
     have hbot:lastN (belowAll F n n) n=bot:=by
      rcases bot_of hn hq lb with ⟨e,he,hv,hx⟩ | ⟨-,hx⟩
      . rw [hv]
        refine qj0 (q37.2 fun x h=>(hx x h).2.2) he fun c hc hp=>?_
        have hp':=q37.1 hp
        exact hA c e ⟨hc,he,hp' e he⟩ (hx c hc)
      . obtain ⟨e,he,h⟩:=qig h1 ht meets
        exact absurd h (hx e he)
     have htop:lastN (aboveAll F n n) n=top:=by
      rcases top_of hn hd lt with ⟨e,he,hv,hx⟩ | ⟨-,hx⟩
      . rw [hv]
        refine qj0 (q35.2 fun x h=>(hx x h).2.2) he fun c hc hp=>?_
        have hp':=q35.1 hp
        exact hA c e (hx c hc) ⟨he,hc,hp' e he⟩
      . obtain ⟨e,he,h⟩:=qii h1 ht joins
        exact absurd h (hx e he)
     rw [hbot,htop] at se
     rw [qds (G:=F) fun i hi=>by
      obtain ⟨ha,hb,he⟩:=qbf hi
      rw [tabB,hRl _ _ ha hb,he]] at b1
     rw [qep (G:=JF F n) fun i hi=>(vJ i hi).1.symm] at b2
     rw [qep (G:=MF F n) fun i hi=>(vM i hi).1.symm] at b3
     exact .inr ⟨a1,a2,a3,c1,c2,c3,G1,G2,G3,bot,top,se,le,k1,k2,k3,b1,b2,b3,x1,x2,x3,y1,y2,y3⟩
end
section
variable {F:Nat->Bool} {n:Nat}
theorem qfm {a b:Nat} (ha:a<n) (hb:b<n):a*n+b<n*n:=by
 have:(a+1)*n<=n*n:=Nat.mul_le_mul_right n (by omega)
 rw [Nat.add_mul] at this
 omega
theorem qch {a b:Nat} (hb:b<n):(a*n+b) / n=a:=by
 rw [Nat.mul_comm,Nat.mul_add_div (by omega),Nat.div_eq_of_lt hb];rfl
theorem qci {a b:Nat} (hb:b<n):(a*n+b) % n=b:=by
 rw [Nat.mul_comm,Nat.mul_add_mod,Nat.mod_eq_of_lt hb]
theorem jf_is {a b:Nat} (ha:a<n) (hb:b<n) (hJ:∀ i,i<n*n->0<=JF F n i):∃ j:Nat,JF F n (a*n+b)=j/\j<n/\isJoinP F n a b j:=by
 have h:=hJ _ (qfm ha hb)
 unfold JF at h ⊢
 rw [qch hb,qci hb] at h ⊢
 rcases q55 (isJoin F n a b) n with ⟨c,hc,e,hp⟩ | ⟨e,-⟩
 . exact ⟨c,e,hc,q82.1 hp⟩
 . rw [e] at h;omega
theorem mf_is {a b:Nat} (ha:a<n) (hb:b<n) (hM:∀ i,i<n*n->0<=MF F n i):∃ j:Nat,MF F n (a*n+b)=j/\j<n/\isMeetP F n a b j:=by
 have h:=hM _ (qfm ha hb)
 unfold MF at h ⊢
 rw [qch hb,qci hb] at h ⊢
 rcases q55 (isMeet F n a b) n with ⟨c,hc,e,hp⟩ | ⟨e,-⟩
 . exact ⟨c,e,hc,q85.1 hp⟩
 . rw [e] at h;omega
theorem q4t (h1:1<=n) (h32:n<=32) (hr:∀ a,a<n->F (a*n+a)=true) (ht:∀ a b c,a<n->b<n->c<n->F (a*n+b)=true->F (b*n+c)=true->F (a*n+c)=true) (hT:¬ TwoW F n)
 (hJ:∀ i,i<n*n->0<=JF F n i) (hM:∀ i,i<n*n->0<=MF F n i):Valid n (n*n) (n*n) (n*n) F (JF F n) (MF F n) (lastN (belowAll F n n) n) (lastN (aboveAll F n n) n):=by
 have anti:∀ a b,a<n->b<n->F (a*n+b)=true->F (b*n+a)=true->a=b:=fun a b ha hb x y=>Classical.byContradiction fun h=>hT ⟨a,b,ha,hb,h,x,y⟩
 have low:∀ k,k<=n->1<=k->∃ c,c<n/\∀ d,d<k->F (c*n+d)=true:=by
  intro k
  induction k with
  | zero=>intro _ h;omega
  | succ k ih =>
   intro hk _
   by_cases h0:k=0
   . refine ⟨0,by omega,fun d hd=>?_⟩
     obtain rfl:d=0:=by omega
     exact hr 0 (by omega)
   . obtain ⟨c,hc,hd⟩:=ih (by omega) (by omega)
     obtain ⟨j,-,hj,m1,m2,-⟩:=mf_is (F:=F) hc (show k<n by omega) hM
     refine ⟨j,hj,fun d hdk=>?_⟩
     by_cases e:d=k
     . rw [e];exact m2
     . exact ht j c d hj hc (by omega) m1 (hd d (by omega))
 have high:∀ k,k<=n->1<=k->∃ c,c<n/\∀ d,d<k->F (d*n+c)=true:=by
  intro k
  induction k with
  | zero=>intro _ h;omega
  | succ k ih =>
   intro hk _
   by_cases h0:k=0
   . refine ⟨0,by omega,fun d hd=>?_⟩
     obtain rfl:d=0:=by omega
     exact hr 0 (by omega)
   . obtain ⟨c,hc,hd⟩:=ih (by omega) (by omega)
     obtain ⟨j,-,hj,m1,m2,-⟩:=jf_is (F:=F) hc (show k<n by omega) hJ
     refine ⟨j,hj,fun d hdk=>?_⟩
     by_cases e:d=k
     . rw [e];exact m2
     . exact ht d c j (by omega) hc hj (hd d (by omega)) m1
 obtain ⟨bt,hbt,hb⟩:=low n (nR _) h1
 obtain ⟨tp,htp,hp⟩:=high n (nR _) h1
 have e1:lastN (belowAll F n n) n=bt:=qj0 (q37.2 hb) hbt fun c hc h=>anti c bt hc hbt (q37.1 h bt hbt) (hb c hc)
 have e2:lastN (aboveAll F n n) n=tp:=qj0 (q35.2 hp) htp fun c hc h=>anti c tp hc htp (hp c hc) (q35.1 h tp htp)
 refine ⟨n,bt,tp,rfl,h1,h32,rfl,rfl,rfl,e1,e2,hbt,htp,fun a ha=>⟨hr a ha,hb a ha,hp a ha,fun b hb=>⟨fun h=>h.1 (anti a b ha hb h.2.1 h.2.2),fun c hc x y=>ht a b c ha hb hc x y⟩⟩,fun a ha b hb=>?_⟩
 obtain ⟨j,ej,hj,pj⟩:=jf_is (F:=F) ha hb hJ
 obtain ⟨m,em,hm,pm⟩:=mf_is (F:=F) ha hb hM
 exact ⟨j,m,ej,em,hj,hm,pj,pm⟩
end
def SpecZ (N:Int) (m:Nat) (f g:Nat->Int) (code:Int):Prop:=∀ (w:World) (X:Option Addr) (c:Nat),Pairs w X m f g->Calls Tryz.prog 67 #[.agg #[.int .i64 N,.slice X m c]] w fun e w'=>e=.returned (.tuple #[zeroL,.int .i64 code])/\Below w.heap.size w w'
def ImplZ (N:Int) (m:Nat) (f g:Nat->Int) (code:Int):Prop:=∀ (w:World) (X:Option Addr) (c:Nat),Pairs w X m f g->Tab w->Calls Tryz.prog 114 #[.agg #[.int .i64 N,.slice X m c]] w fun e w'=>e=.returned (.tuple #[zeroL,.int .i64 code])/\Below w.heap.size w w'
def SpecF (N:Int) (m:Nat) (f g:Nat->Int) (s:Nat) (F:Nat->Bool) (J M:Nat->Int) (bot top:Int):Prop:=∀ (w:World) (X:Option Addr) (c:Nat),Pairs w X m f g->Calls Tryz.prog 67 #[.agg #[.int .i64 N,.slice X m c]] w fun e w' =>
 ∃ a1 a2 a3 c1 c2 c3,e=.returned (.tuple #[.agg #[.int .i64 N,.slice a1 s c1,.slice a2 s c2,.slice a3 s c3,.int .i64 bot,.int .i64 top],.int .i64 0])/\Bools w' a1 s F/\Ints w' a2 s J/\Ints w' a3 s M/\Below w.heap.size w w'
def ImplF (N:Int) (m:Nat) (f g:Nat->Int) (s:Nat) (F:Nat->Bool) (J M:Nat->Int) (bot top:Int):Prop:=∀ (w:World) (X:Option Addr) (c:Nat),Pairs w X m f g->Tab w->Calls Tryz.prog 114 #[.agg #[.int .i64 N,.slice X m c]] w fun e w' =>
 ∃ G1 G2 G3,e=.returned (.tuple #[.agg #[.int .i64 N,.slice (some ⟨G1,0,none⟩) s s,.slice (some ⟨G2,0,none⟩) s s,.slice (some ⟨G3,0,none⟩) s s,.int .i64 bot,.int .i64 top],.int .i64 0])/\Blk w' G1 4 (bs s F)/\Blk w' G2 3 (is s J)/\Blk w' G3 3 (is s M)/\w.heap.size<=G1/\w.heap.size<=G2/\w.heap.size<=G3/\G1 ≠ G2/\G1 ≠ G3/\G2 ≠ G3/\Below w.heap.size w w'
def SpecC (N:Int) (m:Nat) (f g:Nat->Int) (s:Nat) (F:Nat->Bool):Prop:=∀ (w:World) (X:Option Addr) (c:Nat),Pairs w X m f g->Calls Tryz.prog 44 #[.agg #[.int .i64 N,.slice X m c]] w fun e w'=>∃ G,e=.returned (.slice (some ⟨G,0,none⟩) s s)/\Blk w' G 4 (bs s F)/\w.heap.size<=G/\Below w.heap.size w w'
theorem Pairs.congr {w:World} {a:Option Addr} {m:Nat} {f g f' g':Nat->Int} (h:Pairs w a m f g) (hf:∀ k,k<m->f k=f' k) (hg:∀ k,k<m->g k=g' k):Pairs w a m f' g':=fun k hk=>by
 obtain ⟨b,off,e,h1,h2,h3⟩:=h k hk
 exact ⟨b,off,e,h1,by rw [<- hf k hk];exact h2,by rw [<- hg k hk];exact h3⟩
theorem qcu (w:World) (n:Nat) (F:Nat->Bool) (J M:Nat->Int):∃ w1 a1 a2 a3,Bools w1 a1 n F/\Ints w1 a2 n J/\Ints w1 a3 n M:=by
 have b1:=((Blk.new w 4 (bs n F).toArray).alloc (.cells (is n J).toArray 3)).alloc (.cells (is n M).toArray 3)
 have b2:=(Blk.new (w.alloc (.cells (bs n F).toArray 4)) 3 (is n J).toArray).alloc (.cells (is n M).toArray 3)
 have b3:=Blk.new ((w.alloc (.cells (bs n F).toArray 4)).alloc (.cells (is n J).toArray 3)) 3 (is n M).toArray
 exact ⟨_,_,_,_,Blk.bools (f:=F) b1,Blk.ints (f:=J) b2,Blk.ints (f:=M) b3⟩
theorem pb_is (f g:Nat->Nat):∀ m,(∀ k,k<m->f k<32)->(∀ k,k<m->g k<32)->∃ u,IsRel u (pb f g m)
 | 0,_,_=>⟨fun _=>0,fun a _=>⟨Nat.zero_lt_of_lt (show 0<4294967296 by decide),fun b=>by simp [pb]⟩⟩
 | m+1,hf,hg=>by
  obtain ⟨u,h⟩:=pb_is f g m (fun k hk=>hf k (by omega)) (fun k hk=>hg k (by omega))
  have h':=h.add (hf m (by omega)) (hg m (by omega))
  exact ⟨_,fun a ha=>⟨(h' a ha).1,fun b=>((h' a ha).2 b).trans (qjt f g m a b).symm⟩⟩
theorem dich4 (N:Int) (m:Nat) (f g:Nat->Int) (hm:m<=1048576):(∃ code,(1<=code/\code<=4)/\SpecZ N m f g code/\ImplZ N m f g code) ∨ (∃ s F J M bot top,s<=1024/\Valid N s s s F J M bot top/\SpecF N m f g s F J M bot top/\ImplF N m f g s F J M bot top/\SpecC N m f g s F):=by
 by_cases hr:1<=N/\N<=32/\m<=256
 . by_cases hp:∀ k,k<m->0<=f k/\f k<N/\0<=g k/\g k<N
   . obtain ⟨n,rfl⟩:∃ n:Nat,N=n:=⟨N.toNat,by omega⟩
     have h1:1<=n:=by omega
     have h32:n<=32:=by omega
     have hF1:∀ k,k<m->f k=(((f k).toNat:Nat):Int):=fun k hk=>by have:=hp k hk;omega
     have hG1:∀ k,k<m->g k=(((g k).toNat:Nat):Int):=fun k hk=>by have:=hp k hk;omega
     have hf:∀ k,k<m->(f k).toNat<n:=fun k hk=>by have:=hp k hk;omega
     have hg:∀ k,k<m->(g k).toNat<n:=fun k hk=>by have:=hp k hk;omega
     obtain ⟨F,hF⟩:∃ F,tabB n (rounds diag (fun k=>(f k).toNat) (fun k=>(g k).toNat) m n)=F:=⟨_,rfl⟩
     have spec:∀ (w:World) (X:Option Addr) (c:Nat),Pairs w X m f g->Calls Tryz.prog 67 #[.agg #[.int .i64 n,.slice X m c]] w fun e w'=>SpecOut n F e w'/\Below w.heap.size w w':=fun w X c h =>
      q4b n X m c _ _ w h1 h32 hr.2.2 (h.congr hF1 hG1) hf hg F hF
     have impl:∀ (e1:Ending) (w1:World),SpecOut n F e1 w1->∀ (w:World) (X:Option Addr) (c:Nat),Pairs w X m f g->Tab w->Calls Tryz.prog 114 #[.agg #[.int .i64 n,.slice X m c]] w fun e w'=>SameOut n F w.heap.size e1 e w1 w'/\Below w.heap.size w w':=fun e1 w1 hS w X c h ht =>
      (q3p n X m c _ _ w h1 h32 hr.2.2 (h.congr hF1 hG1) hf hg ht).mono fun e w' ⟨hb,u,q,d,Rl,hu,hq,hqr,hd,hL⟩=>by
       have hqp:=rel_q h32 hu hf hg hF hq
       have hRl:∀ a b,a<32->Rl a b=part F n (n*n) a b:=fun a b ha=>((hqr a ha).2 b).symm.trans ((hqp a ha).2 b)
       have hd':IsRel d (fun b a=>decide (a<n)&&part F n (n*n) a b):=hd.congr fun a b _=>by
        by_cases hb:b<n
        . rw [hRl b a (by omega)]
        . rw [decide_eq_false hb];rfl
       have hle:∀ {a b},Le F n a b ↔ a<n/\Reach u a b:=qew h32 hu hf hg hF
       refine ⟨qg8 h1 h32 hqp hd' (fun a b ha hb=>?_) (fun a ha=>hle.2 ⟨ha,Reach.refl _ _⟩) (fun a b e x y=>hle.2 ⟨(hle.1 x).1,q6b (hle.1 x).2 (hle.1 y).2⟩) hS hL,hb⟩
       rw [hRl a b (by omega),Bool.eq_iff_iff,qfj]
       exact ⟨fun h=>h.2.2,fun h=>⟨ha,hb,h⟩⟩
     have zero:∀ code:Int,(∀ e w',SpecOut n F e w'->e=.returned (.tuple #[zeroL,.int .i64 code]))->(∀ w',SpecOut n F (.returned (.tuple #[zeroL,.int .i64 code])) w')->SpecZ n m f g code/\ImplZ n m f g code:=fun code h1 h2=>by
      refine ⟨fun w X c h=>(spec w X c h).mono fun e w' ⟨a,b⟩=>⟨h1 e w' a,b⟩,fun w X c h ht=>(impl _ w (h2 w) w X c h ht).mono fun e w' ⟨a,b⟩=>⟨?_,b⟩⟩
      rcases a with ⟨code',x,y⟩ | ⟨a1,a2,a3,c1,c2,c3,G1,G2,G3,bot,top,x,-⟩
      . simp only [Ending.returned.injEq,Value.tuple.injEq,Array.mk.injEq,List.cons.injEq,Value.int.injEq,and_true,true_and] at x
        rw [y,x]
      . exfalso
        simp [zeroL] at x
        omega
     by_cases t2:TwoW F n
     . exact .inl ⟨2,by decide,zero 2 (fun e w' h=>by
        rcases h with ⟨-,he⟩ | ⟨x,-⟩ | ⟨x,-⟩ | ⟨x,-⟩
        . exact he
        all_goals exact absurd t2 x) fun w'=>.inl ⟨t2,rfl⟩⟩
     by_cases t3:∃ i,i<n*n/\JF F n i<0
     . have n3:¬ ∀ i,i<n*n->0<=JF F n i:=fun h=>by obtain ⟨i,hi,x⟩:=t3;have:=h i hi;omega
       exact .inl ⟨3,by decide,zero 3 (fun e w' h=>by
        rcases h with ⟨x,-⟩ | ⟨-,-,he⟩ | ⟨-,x,-⟩ | ⟨-,x,-⟩
        . exact absurd x t2
        . exact he
        all_goals exact absurd x n3) fun w'=>.inr (.inl ⟨t2,t3,rfl⟩)⟩
     have p3:∀ i,i<n*n->0<=JF F n i:=fun i hi=>Classical.byContradiction fun h=>t3 ⟨i,hi,by omega⟩
     by_cases t4:∃ i,i<n*n/\MF F n i<0
     . have n4:¬ ∀ i,i<n*n->0<=MF F n i:=fun h=>by obtain ⟨i,hi,x⟩:=t4;have:=h i hi;omega
       exact .inl ⟨4,by decide,zero 4 (fun e w' h=>by
        rcases h with ⟨x,-⟩ | ⟨-,x,-⟩ | ⟨-,-,-,he⟩ | ⟨-,-,x,-⟩
        . exact absurd x t2
        . exact absurd x t3
        . exact he
        . exact absurd x n4) fun w'=>.inr (.inr (.inl ⟨t2,p3,t4,rfl⟩))⟩
     have p4:∀ i,i<n*n->0<=MF F n i:=fun i hi=>Classical.byContradiction fun h=>t4 ⟨i,hi,by omega⟩
     refine .inr ⟨n*n,F,JF F n,MF F n,lastN (belowAll F n n) n,lastN (aboveAll F n n) n,sq_le h32,?_,fun w X c h=>(spec w X c h).mono fun e w' ⟨a,b⟩=>?_,fun w X c h ht=>?_,fun w X c h=>by rw [<- hF];exact q2f n X m c _ _ w h1 h32 hr.2.2 (h.congr hF1 hG1) hf hg⟩
     . obtain ⟨u,hu⟩:=pb_is (fun k=>(f k).toNat) (fun k=>(g k).toNat) m (fun k hk=>Nat.lt_of_lt_of_le (hf k hk) h32) (fun k hk=>Nat.lt_of_lt_of_le (hg k hk) h32)
       have hle:∀ {a b},Le F n a b ↔ a<n/\Reach u a b:=qew h32 hu hf hg hF
       exact q4t h1 h32 (fun a ha=>(hle.2 ⟨ha,Reach.refl _ _⟩).2.2) (fun a b c ha hb hc x y=>(hle.2 ⟨ha,q6b (hle.1 ⟨ha,hb,x⟩).2 (hle.1 ⟨hb,hc,y⟩).2⟩).2.2) t2 p3 p4
     . rcases a with ⟨x,-⟩ | ⟨-,x,-⟩ | ⟨-,-,x,-⟩ | ⟨-,-,-,a1,a2,a3,c1,c2,c3,he,k1,k2,k3⟩
       . exact absurd x t2
       . exact absurd x t3
       . exact absurd x t4
       . exact ⟨a1,a2,a3,c1,c2,c3,he,k1,k2,k3,b⟩
     . obtain ⟨w1,a1,a2,a3,k1,k2,k3⟩:=qcu w (n*n) F (JF F n) (MF F n)
       refine (impl _ w1 (.inr (.inr (.inr ⟨t2,p3,p4,a1,a2,a3,0,0,0,rfl,k1,k2,k3⟩))) w X c h ht).mono fun e w' ⟨a,b⟩=>?_
       rcases a with ⟨code',x,-⟩ | ⟨a1',a2',a3',c1,c2,c3,G1,G2,G3,bot,top,x,y,-,-,-,b1,b2,b3,z⟩
       . exfalso
         simp [zeroL] at x
         omega
       . simp only [Ending.returned.injEq,Value.tuple.injEq,Value.agg.injEq,Array.mk.injEq,List.cons.injEq,Value.int.injEq,Value.slice.injEq,and_true,true_and] at x
         obtain ⟨-,-,-,hb,ht⟩:=x
         rw [<- hb,<- ht] at y
         exact ⟨G1,G2,G3,y,b1,b2,b3,z.1,z.2.1,z.2.2.1,z.2.2.2.1,z.2.2.2.2.1,z.2.2.2.2.2,b⟩
   . refine .inl ⟨1,by decide,fun w X c h=>q2x N X m c w fun w' hb=>q0z N X m c f g w' hr.1 hr.2.1 hr.2.2 (h.mono hb) false ⟨(fun x=>by cases x),fun x=>absurd x hp⟩,fun w X c h _=>q2b N X m c w fun w' hb=>q31 N X m c f g w' hr.1 hr.2.1 hr.2.2 (h.mono hb) false ⟨(fun x=>by cases x),fun x=>absurd x hp⟩⟩
 . exact .inl ⟨1,by decide,fun w X c _=>q2x N X m c w fun w' _=>q10 N X m c w' (by omega) hr,fun w X c _ _=>q2b N X m c w fun w' _=>q32 N X m c w' (by omega) hr⟩
end Go.Proofs.YtgkcaeidhkddjaaGreatDoor
