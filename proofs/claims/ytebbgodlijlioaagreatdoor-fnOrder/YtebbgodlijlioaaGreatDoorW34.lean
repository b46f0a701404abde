import Derived.Test.YtebbgodlijlioaaGreatDoorW30
import Derived.Test.YtebbgodlijlioaaGreatDoorW18
set_option maxRecDepth 100000
set_option maxHeartbeats 64000000
namespace Go.Proofs.YtebbgodlijlioaaGreatDoor
open Go Go.RowKit
theorem q8a {n B R j:Nat}{g d:Nat->Nat}{Rl:Nat->Nat->Bool}{e:Ending}{w':World}(h:LatOut n g d Rl B e w')(hR:R<B)(v:Value):LatOut n g d Rl B e (w'.setCell ⟨R,j,none⟩ v):=by
 rcases h with h | h | h | ⟨h1,G1,G2,G3,F1,F2,bot,top,he,b1,b2,b3,x1,x2,x3,h2⟩
 . exact .inl h
 . exact .inr (.inl h)
 . exact .inr (.inr (.inl h))
 . exact .inr (.inr (.inr ⟨h1,G1,G2,G3,F1,F2,bot,top,he,b1.other v (by simp;omega),b2.other v (by simp;omega),b3.other v (by simp;omega),x1,x2,x3,h2⟩))
theorem q3z {n B:Nat}{g d:Nat->Nat}{Rl:Nat->Nat->Bool}{e:Ending}{w':World}(h:LatOut n g d Rl B e w'):∃(l0:Int) (a1 a2 a3:Option Addr) (n1 n2 n3 c1 c2 c3:Nat) (l4 l5 code:Int),e=.returned (.tuple #[.agg #[J9 l0,.slice a1 n1 c1,.slice a2 n2 c2,.slice a3 n3 c3,J9 l4,J9 l5],J9 code]):=by
 rcases h with ⟨-,he⟩ | ⟨-,-,he⟩ | ⟨-,-,-,he⟩ | ⟨-,G1,G2,G3,F1,F2,bot,top,he,-⟩
 . exact⟨0,none,none,none,0,0,0,0,0,0,0,0,2,he⟩
 . exact⟨0,none,none,none,0,0,0,0,0,0,0,0,3,he⟩
 . exact⟨0,none,none,none,0,0,0,0,0,0,0,0,4,he⟩
 . exact⟨n,_,_,_,_,_,_,_,_,_,bot,top,0,he⟩
theorem q5m {n B B':Nat}{g d:Nat->Nat}{Rl:Nat->Nat->Bool}{e:Ending}{w':World}(h:LatOut n g d Rl B e w')(hB:B'<=B):LatOut n g d Rl B' e w':=by
 rcases h with h | h | h | ⟨h1,G1,G2,G3,F1,F2,bot,top,he,b1,b2,b3,x1,x2,x3,h2⟩
 . exact .inl h
 . exact .inr (.inl h)
 . exact .inr (.inr (.inl h))
 . exact .inr (.inr (.inr ⟨h1,G1,G2,G3,F1,F2,bot,top,he,b1,b2,b3,by omega,by omega,by omega,h2⟩))
def TwoO (w':World)(A:Nat)(v0 v1:Value):Prop:=w'.cell? ⟨A,0,none⟩=some v0/\w'.cell? ⟨A,1,none⟩=some v1
theorem q2a (N:Int)(a:Option Addr)(m c:Nat)(w:World)(hc:∀w',Below w.heap.size w w'->Calls Tryz.prog 80 #[.agg (Jm N a m c)] w' fun e w''=>e=.returned (.bool false)/\Below w'.heap.size w' w'') :
 Calls Tryz.prog 47 #[.agg (Jm N a m c)] w fun e w'=>e=.returned (.tuple #[zeroL,J9 1])/\Below w.heap.size w w':=by
 have HR:=h_ (by simpa using Blk.new (w.alloc (.cells (Jm N a m c) 39)) 35 #[J9 0,Ya,Ya,Ya,J9 0,J9 0]:Blk ((w.alloc (.cells (Jm N a m c) 39)).alloc (.cells #[J9 0,Ya,Ya,Ya,J9 0,J9 0] 35)) (w.heap.size+1) 35 [J9 0,Ya,Ya,Ya,J9 0,J9 0])
 have H0:=h_ ((Blk.new w 39 (Jm N a m c)).alloc (.cells #[J9 0,Ya,Ya,Ya,J9 0,J9 0] 35))
 have HW:Hi (Below w.heap.size w ((w.alloc (.cells (Jm N a m c) 39)).alloc (.cells #[J9 0,Ya,Ya,Ya,J9 0,J9 0] 35))):=((bR _ w).alloc (nR _) _).alloc (by simp) _
 go_enter Tryz.func47,Tryz.ntmps47
 go_wp2_with fail
 refine(hc _ HW.u).mono ?_
 rintro e w1 ⟨rfl,hb⟩
 replace HR:=mB HR hb;replace H0:=mB H0 hb;replace HW:=mT HW hb
 clear hb
 obtain⟨⟨r0,r1,r2,r3,r4,r5⟩,⟨f0,f1,f2,f3,f4,f5⟩⟩:=six' HR.u
 have HZ:=h_ (q6s HW.u (Vl _) (J9 0) Ya Ya Ya (J9 0) (J9 0))
 go_wp2
 exact bodyPost_ret (v:=.tuple #[zeroL,J9 1]) (by simp[results,Tryz.results47,go_sem,zeroL, *]) rfl ⟨rfl,HZ.u⟩
theorem q3e (n:Nat)(a:Option Addr)(m c:Nat)(f g:Nat->Nat)(w:World)(h1:1<=n)(h32:n<=32)(hm:m<=256)(ha:Pairs w a m (fun k=>(f k:Int)) (fun k=>(g k:Int)))(hf:∀k,k<m->f k<n)(hg:∀k,k<m->g k<n)(ht:Tab w) :
 Calls Tryz.prog 47 #[.agg (Jm n a m c)] w fun e w'=>Below w.heap.size w w'/\∃u q d Rl,IsRel u (pb f g m)/\IsReach q (fun a b=>a<n/\Reach u a b)/\IsRel q Rl/\IsRel d (fun b a=>decide (a<n)&&Rl a b)/\LatOut n q d Rl w.heap.size e w':=by
 have HR:=h_ (by simpa using Blk.new (w.alloc (.cells (Jm n a m c) 39)) 35 #[J9 0,Ya,Ya,Ya,J9 0,J9 0]:Blk ((w.alloc (.cells (Jm n a m c) 39)).alloc (.cells #[J9 0,Ya,Ya,Ya,J9 0,J9 0] 35)) (w.heap.size+1) 35 [J9 0,Ya,Ya,Ya,J9 0,J9 0])
 have H0:=h_ ((Blk.new w 39 (Jm n a m c)).alloc (.cells #[J9 0,Ya,Ya,Ya,J9 0,J9 0] 35))
 have HW:Hi (Below w.heap.size w ((w.alloc (.cells (Jm n a m c) 39)).alloc (.cells #[J9 0,Ya,Ya,Ya,J9 0,J9 0] 35))):=((bR _ w).alloc (nR _) _).alloc (by simp) _
 go_enter Tryz.func47,Tryz.ntmps47
 go_wp2_with fail
 refine(q2x n a m c _ _ _ (by omega) (by omega) hm (ha.mono HW.u) true ⟨fun _ k hk=>by have:=hf k hk;have:=hg k hk;omega,fun _=>rfl⟩).mono ?_
 rintro e W ⟨rfl,hb⟩
 replace HR:=mB HR hb;replace H0:=mB H0 hb;replace HW:=mT HW hb
 clear hb
 have S0:TwoO W w.heap.size (J9 n) (.slice a m c):=⟨H0.u.cell 0,H0.u.cell 1⟩
 have HS0:=h_ S0;clear S0
 go_wp2_with fail
 refine wp_region_held_drew (S:=fun w'=>TwoO w' w.heap.size (J9 n) (.slice a m c)) (by kernel_rfl) HS0.u (fun zz=>?_)
 refine tj 0 8 (Yc w.heap.size 0) zz ?_ (hy:=fun w hS=>by obtain⟨q0,q1⟩:=hS;simp[execOp,go_sem, *])
 refine tj 1 9 (J9 n) zz ?_ (hy:=fun w hS=>by obtain⟨q0,q1⟩:=hS;simp[execOp,go_sem, *])
 refine tj 2 10 (.agg (Jm n a m c)) zz ?_ (hy:=fun w hS=>by obtain⟨q0,q1⟩:=hS;simp[execOp,go_sem, *])
 refine tj 4 12 (Yc w.heap.size 0) zz ?_ (hy:=fun w hS=>by obtain⟨q0,q1⟩:=hS;simp[execOp,go_sem, *])
 simp only[sX,sY,sZ]
 refine tj 5 13 (J9 n) zz ?_ (hy:=fun w hS=>by obtain⟨q0,q1⟩:=hS;simp[execOp,go_sem, *])
 simp only[sX,sY,sZ]
 refine callY (i:=3) (f:=82) (args:=#[.agg (Jm n a m c)]) (R:=fun v wz=>∃u,v=.agg (us u).toArray/\IsRel u (pb f g m)/\Below W.heap.size W wz) 11 rfl rfl (by rfl) (by kernel_rfl) ?hrun1 ((q09 n a m c f g _ h32 hm (ha.mono (HW.u.trans ((q33 W 1).mono HW.u.size))) hf hg).mono fun e w6 ⟨u,he,hu,hb⟩=>⟨_,he,u,rfl,hu,q25 hb⟩) ?_
 case hrun1=>simp[execOp,go_sem]
 rintro v w5 ⟨u,rfl,hu,hb⟩
 replace HR:=mB HR hb;replace H0:=mB H0 hb;replace HW:=mT HW hb
 clear hb zz
 refine⟨⟨H0.u.cell 0,H0.u.cell 1⟩,?_⟩
 simp only[sX,sY,sZ]
 refine callY (i:=6) (f:=83) (args:=#[.agg (us u).toArray,J9 n]) (R:=fun v wz=>∃q,v=.agg (us q).toArray/\IsReach q (fun a b=>a<n/\Reach u a b)/\Below w5.heap.size w5 wz) 14 rfl rfl (by rfl) (by kernel_rfl) ?hrun2 ((q6z u n w5 h32 (fun a ha=>(hu a ha).1) (ht.mono HW.u)).mono fun e w6 ⟨q,he,hq,hb⟩=>⟨_,he,q,rfl,hq,hb⟩) ?_
 case hrun2=>simp[execOp,go_sem]
 rintro v w6 ⟨q,rfl,hq,hb⟩
 replace HR:=mB HR hb;replace H0:=mB H0 hb;replace HW:=mT HW hb
 clear hb
 refine⟨⟨H0.u.cell 0,H0.u.cell 1⟩,?_⟩
 simp only[sX,sY,sZ]
 have hqr:IsRel q (fun a b=>(q a).testBit b):=fun a ha=>⟨(hq a ha).1,fun b=>rfl⟩
 refine callY (i:=7) (f:=81) (args:=#[J9 n,.agg (us q).toArray]) (R:=fun v wz=>Below w6.heap.size w6 wz/\∃d,IsRel d (fun b a=>decide (a<n)&&(q a).testBit b)/\LatOut n q d (fun a b=>(q a).testBit b) w6.heap.size (.returned v) wz) 15 rfl rfl (by rfl) (by kernel_rfl) ?hrun3 ((q2m n q (fun a b=>(q a).testBit b) w6 h1 h32 hqr (ht.mono HW.u)).mono fun e w7 ⟨hb,d,hd,hL⟩=>?_) ?_
 case hrun3=>simp[execOp,go_sem]
 . obtain⟨l0,a1,a2,a3,n1,n2,n3,c1,c2,c3,l4,l5,code,rfl⟩:=q3z hL
   exact⟨_,rfl,hb,d,hd,hL⟩
 rintro v w7 ⟨hb,d,hd,hL⟩
 have hRB:w.heap.size+1<w6.heap.size:=HR.u.lt
 replace HR:=mB HR hb;replace H0:=mB H0 hb;replace HW:=mT HW hb
 have hWs:=HW.u.size
 have hB6:w.heap.size<=w6.heap.size:=by omega
 clear hb
 obtain⟨l0,a1,a2,a3,n1,n2,n3,c1,c2,c3,l4,l5,code,hv⟩:=q3z hL
 simp only[Ending.returned.injEq]at hv
 subst hv
 refine⟨⟨H0.u.cell 0,H0.u.cell 1⟩,?_⟩
 simp only[sX,sY,sZ]
 have zz:TwoO w7 w.heap.size (J9 n) (.slice a m c):=⟨H0.u.cell 0,H0.u.cell 1⟩
 refine tj 8 16 (.agg #[J9 l0,.slice a1 n1 c1,.slice a2 n2 c2,.slice a3 n3 c3,J9 l4,J9 l5]) zz ?_ (hy:=fun w hS=>by obtain⟨q0,q1⟩:=hS;simp[execOp,go_sem, *])
 refine tj 9 17 (J9 code) zz ?_ (hy:=fun w hS=>by obtain⟨q0,q1⟩:=hS;simp[execOp,go_sem, *])
 simp only[sX,sY,sZ]
 obtain⟨⟨r0,r1,r2,r3,r4,r5⟩,⟨f0,f1,f2,f3,f4,f5⟩⟩:=six' HR.u
 have A9:=((((((H0.u.other (a:=⟨w.heap.size+1,0,none⟩) (J9 l0) (by simp)).other (a:=⟨w.heap.size+1,1,none⟩) (.slice a1 n1 c1) (by simp)).other (a:=⟨w.heap.size+1,2,none⟩) (.slice a2 n2 c2) (by simp)).other (a:=⟨w.heap.size+1,3,none⟩) (.slice a3 n3 c3) (by simp)).other (a:=⟨w.heap.size+1,4,none⟩) (J9 l4) (by simp)).other (a:=⟨w.heap.size+1,5,none⟩) (J9 l5) (by simp))
 have R9:=((((((HR.u.set 0 (J9 l0)).set 1 (.slice a1 n1 c1)).set 2 (.slice a2 n2 c2)).set 3 (.slice a3 n3 c3)).set 4 (J9 l4)).set 5 (J9 l5))
 refine storeY (i:=10) (w':=((((((w7.setCell ⟨w.heap.size+1,0,none⟩ (J9 l0)).setCell ⟨w.heap.size+1,1,none⟩ (.slice a1 n1 c1)).setCell ⟨w.heap.size+1,2,none⟩ (.slice a2 n2 c2)).setCell ⟨w.heap.size+1,3,none⟩ (.slice a3 n3 c3)).setCell ⟨w.heap.size+1,4,none⟩ (J9 l4)).setCell ⟨w.heap.size+1,5,none⟩ (J9 l5))) rfl (by rfl) (by kernel_rfl) rfl ?hrun4 rfl ⟨A9.cell 0,A9.cell 1⟩ ?_
 case hrun4=>simp[execOp,go_sem,r0,r1,r2,r3,r4,r5,f0,f1,f2,f3,f4,f5]
 have HL9:=h_ (q8a (j:=5) (q8a (j:=4) (q8a (j:=3) (q8a (j:=2) (q8a (j:=1) (q8a (j:=0) hL hRB (J9 l0)) hRB (.slice a1 n1 c1)) hRB (.slice a2 n2 c2)) hRB (.slice a3 n3 c3)) hRB (J9 l4)) hRB (J9 l5))
 have HZ:=h_ (q6s HW.u (Vl _) (J9 l0) (.slice a1 n1 c1) (.slice a2 n2 c2) (.slice a3 n3 c3) (J9 l4) (J9 l5))
 obtain⟨⟨s0,s1,s2,s3,s4,s5⟩,-⟩:=six' R9
 clear r0 r1 r2 r3 r4 r5 f0 f1 f2 f3 f4 f5 R9 hL zz
 have zz:TwoO _ w.heap.size (J9 n) (.slice a m c):=⟨A9.cell 0,A9.cell 1⟩
 clear A9
 generalize ((((((w7.setCell ⟨w.heap.size+1,0,none⟩ (J9 l0)).setCell ⟨w.heap.size+1,1,none⟩ (.slice a1 n1 c1)).setCell ⟨w.heap.size+1,2,none⟩ (.slice a2 n2 c2)).setCell ⟨w.heap.size+1,3,none⟩ (.slice a3 n3 c3)).setCell ⟨w.heap.size+1,4,none⟩ (J9 l4)).setCell ⟨w.heap.size+1,5,none⟩ (J9 l5))=W9 at *
 refine tj 11 3 (J9 code) zz ?_ (hy:=fun w hS=>by obtain⟨q0,q1⟩:=hS;simp[execOp,go_sem, *])
 simp only[sX,sY,sZ]
 refine wpAnyH_done (by kernel_rfl) ?_ _
 go_wp2
 refine bodyPost_ret (v:=.tuple #[.agg #[J9 l0,.slice a1 n1 c1,.slice a2 n2 c2,.slice a3 n3 c3,J9 l4,J9 l5],J9 code]) (by simp[results,Tryz.results47,go_sem, *]) rfl ⟨HZ.u,u,q,d,_,hu,hq,hqr,hd,q5m HL9.u hB6⟩
theorem qjk {p:Nat->Bool}{e:Nat}(he:p e=true):∀{k:Nat},e<k->(∀c,c<k->p c=true->c=e)->lastN p k=e
 | k+1,h,hu=>by
  rw[lastN];by_cases hk:p k=true
  . rw[Yz hk,hu k (by omega) hk]
  . rw[Yt hk]
    have:e≠k:=fun x=>hk (x ▸ he);exact qjk he (by omega) (fun c hc=>hu c (by omega))
theorem q32 {F:Nat->Bool}{n m c:Nat}:belowAll F n m c=true ↔ ∀d,d<m->F (c*n+d)=true:=by simp[belowAll]
theorem q2z {F:Nat->Bool}{n m c:Nat}:aboveAll F n m c=true ↔ ∀d,d<m->F (d*n+c)=true:=by simp[aboveAll]
theorem qed {n:Nat}{F G:Nat->Int}(h:∀i,i<n->F i=G i):is n F=is n G:=Z2 fun i hi=>by rw[h i (Y3.1 hi)]
theorem qdg {n:Nat}{F G:Nat->Bool}(h:∀i,i<n->F i=G i):bs n F=bs n G:=Z2 fun i hi=>by rw[h i (Y3.1 hi)]
theorem qg1 {u f g:Nat->Nat}{m n a b:Nat}(hu:PairBits u f g m)(hg:∀k,k<m->g k<n)(ha:a<n)(h:Reach u a b):b<n :=
 h (fun x=>x<n) ha fun x y _ hx hy=>by obtain⟨k,hk,-,rfl⟩:=(hu x hx y).1 hy;exact hg k hk
theorem q66 {u:Nat->Nat}{a b c:Nat}(h1:Reach u a b)(h2:Reach u b c):Reach u a c:=fun C h hs=>h2 C (h1 C h hs) hs
theorem q61 {u f g:Nat->Nat}{m:Nat}(h:IsRel u (pb f g m)):PairBits u f g m:=fun x hx y=>by rw[(h x hx).2 y,pb_iff]
section
variable {u q f g:Nat->Nat} {m n:Nat} {F:Nat->Bool}
theorem qel (hn:n<=32)(hu:IsRel u (pb f g m))(hf:∀k,k<m->f k<n)(hg:∀k,k<m->g k<n)(hF:tabB n (rounds diag f g m n)=F){a b:Nat}:Le F n a b ↔ a<n/\Reach u a b:=by
 unfold Le
 rw[<- hF]
 refine⟨fun⟨h1,h2,h3⟩=>⟨h1,?_⟩,fun⟨h1,h2⟩=>?_⟩
 . rw[qly _ h2]at h3
   exact(q4q hn (q61 hu) hf hg h1).1 h3
 . have h3:=qg1 (q61 hu) hg h1 h2
   refine⟨h1,h3,?_⟩;rw[qly _ h3];exact(q4q hn (q61 hu) hf hg h1).2 h2
theorem rel_q (hn:n<=32)(hu:IsRel u (pb f g m))(hf:∀k,k<m->f k<n)(hg:∀k,k<m->g k<n)(hF:tabB n (rounds diag f g m n)=F)(hq:IsReach q (fun a b=>a<n/\Reach u a b)):IsRel q (part F n (n*n)):=fun a ha =>
 ⟨(hq a ha).1,fun b=>by rw[Zv,(hq a ha).2 b,qfr,qel hn hu hf hg hF]⟩
end
def SameOut (n:Nat)(F:Nat->Bool)(B:Nat)(e1 e2:Ending)(w1 w2:World):Prop :=
 (∃code:Int,e1=.returned (.tuple #[zeroL,J9 code])/\e2=.returned (.tuple #[zeroL,J9 code])) ∨
 (∃a1 a2 a3 c1 c2 c3 G1 G2 G3,∃bot top:Int,e1=.returned (.tuple #[.agg (Jo n a1 (n*n) c1 a2 c2 a3 c3 bot top),J9 0]) /\
  e2=.returned (.tuple #[.agg #[J9 n,.slice (some ⟨G1,0,none⟩) (n*n) (n*n),.slice (some ⟨G2,0,none⟩) (n*n) (n*n),.slice (some ⟨G3,0,none⟩) (n*n) (n*n),J9 bot,J9 top],J9 0]) /\
  Bools w1 a1 (n*n) F/\Ints w1 a2 (n*n) (JF F n)/\Ints w1 a3 (n*n) (MF F n)/\Blk w2 G1 4 (bs (n*n) F)/\Blk w2 G2 3 (is (n*n) (JF F n))/\Blk w2 G3 3 (is (n*n) (MF F n))/\B<=G1/\B<=G2/\B<=G3/\G1≠G2/\G1≠G3/\G2≠G3)
section
variable {n B:Nat} {F:Nat->Bool} {q d:Nat->Nat}
theorem qjb {a b:Nat}(hb:b<n)(h:∀e,e<n->¬ isJoinP F n a b e):JF F n (a*n+b) = -1:=by
 have hd:(a*n+b) / n=a/\(a*n+b) % n=b:=by
  rw[Oo,Vc _ _ (by omega),Vm hb,Zx,Z4 hb];simp
 rw[JF,hd.1,hd.2,q7c fun c hc=>q3i (h c hc)]
theorem qjc {a b e:Nat}(hs:∀a b,Le F n a b->Le F n b a->a=b)(hb:b<n)(he:e<n)(h:isJoinP F n a b e):JF F n (a*n+b)=e:=by
 have hd:(a*n+b) / n=a/\(a*n+b) % n=b:=by
  rw[Oo,Vc _ _ (by omega),Vm hb,Zx,Z4 hb];simp
 rw[JF,hd.1,hd.2]
 rcases q50 (isJoin F n a b) n with ⟨c,hc,h1,h2⟩ | ⟨-,h2⟩
 . rw[h1,qeg hs hc he (q7j.1 h2) h]
 . have:=h2 e he
   rw[q54 h]at this;cases this
theorem qk7 {a b:Nat}(hb:b<n)(h:∀e,e<n->¬ isMeetP F n a b e):MF F n (a*n+b) = -1:=by
 have hd:(a*n+b) / n=a/\(a*n+b) % n=b:=by
  rw[Oo,Vc _ _ (by omega),Vm hb,Zx,Z4 hb];simp
 rw[MF,hd.1,hd.2,q7c fun c hc=>q3k (h c hc)]
theorem qk8 {a b e:Nat}(hs:∀a b,Le F n a b->Le F n b a->a=b)(hb:b<n)(he:e<n)(h:isMeetP F n a b e):MF F n (a*n+b)=e:=by
 have hd:(a*n+b) / n=a/\(a*n+b) % n=b:=by
  rw[Oo,Vc _ _ (by omega),Vm hb,Zx,Z4 hb];simp
 rw[MF,hd.1,hd.2]
 rcases q50 (isMeet F n a b) n with ⟨c,hc,h1,h2⟩ | ⟨-,h2⟩
 . rw[h1,qey hs hc he (q7m.1 h2) h]
 . have:=h2 e he
   rw[q56 h]at this;cases this
theorem qgb {Rl:Nat->Nat->Bool}{e1 e2:Ending}{w1 w2:World}(h1:1<=n)(hn:n<=32)(hq:IsRel q (part F n (n*n)))(hd:IsRel d (fun b a=>decide (a<n)&&part F n (n*n) a b))(hRl:∀a b,a<n->b<n->Rl a b=F (a*n+b))
 (hr:∀a,a<n->Le F n a a) (ht:∀a b e,Le F n a b->Le F n b e->Le F n a e) (hS:SpecOut n F e1 w1) (hL:LatOut n q d Rl B e2 w2):SameOut n F B e1 e2 w1 w2:=by
 have anti:¬ TwoW F n->∀a b,Le F n a b->Le F n b a->a=b:=fun h a b x y=>Classical.byContradiction fun e=>h ⟨a,b,x.1,y.1,e,x.2.2,y.2.2⟩
 have two1:(∃a,a<n/\¬ commonN (q a) (d a)=2 ^ a)->TwoW F n:=fun⟨a,ha,h⟩=>Classical.byContradiction fun hno=>h ((qm5 hn hq hd hr ha).2 fun b x y=>anti hno a b x y)
 have two2:(∀a,a<n->commonN (q a) (d a)=2 ^ a)->¬ TwoW F n:=fun h ⟨a,b,ha,hb,hne,x,y⟩=>hne ((qm5 hn hq hd hr ha).1 (h a ha) b ⟨ha,hb,x⟩ ⟨hb,ha,y⟩)
 have entJ:∀{a b:Nat} {v:Int},a<n->b<n->Entry q a b v->_:=fun ha hb h=>q75 hn hq ha hb h
 have entM:∀{a b:Nat} {v:Int},a<n->b<n->Entry d a b v->_:=fun ha hb h=>q76 hn hd ha hb h
 have noJ:(∃a b,a<n/\b<n/\Entry q a b (-1))->∃i,i<n*n/\JF F n i<0:=fun⟨a,b,ha,hb,h⟩=>by
  rcases entJ ha hb h with ⟨e,-,he,-⟩ | ⟨-,h⟩
  . omega
  . exact⟨a*n+b,idx_lt ha hb,by rw[qjb hb h];omega⟩
 have noM:(∃a b,a<n/\b<n/\Entry d a b (-1))->∃i,i<n*n/\MF F n i<0:=fun⟨a,b,ha,hb,h⟩=>by
  rcases entM ha hb h with ⟨e,-,he,-⟩ | ⟨-,h⟩
  . omega
  . exact⟨a*n+b,idx_lt ha hb,by rw[qk7 hb h];omega⟩
 have valJ:∀{F1:Nat->Int},¬ TwoW F n->(∀a,a<n->∀b,b<n->0<=F1 (a*n+b)/\Entry q a b (F1 (a*n+b)))->∀i,i<n*n->JF F n i=F1 i/\0<=F1 i/\∃e,e<n/\isJoinP F n (i / n) (i % n) e:=fun {F1} hno h i hi=>by
  obtain⟨ha,hb,he⟩:=qaz hi;obtain⟨h0,hE⟩:=h _ ha _ hb;rcases entJ ha hb hE with ⟨e,hen,hv,hj⟩ | ⟨hv,-⟩
  . have:=qjc (anti hno) hb hen hj
    rw[he]at this hv h0;exact⟨by rw[this,hv],h0,e,hen,hj⟩
  . omega
 have valM:∀{F2:Nat->Int},¬ TwoW F n->(∀a,a<n->∀b,b<n->0<=F2 (a*n+b)/\Entry d a b (F2 (a*n+b)))->∀i,i<n*n->MF F n i=F2 i/\0<=F2 i/\∃e,e<n/\isMeetP F n (i / n) (i % n) e:=fun {F2} hno h i hi=>by
  obtain⟨ha,hb,he⟩:=qaz hi;obtain⟨h0,hE⟩:=h _ ha _ hb;rcases entM ha hb hE with ⟨e,hen,hv,hj⟩ | ⟨hv,-⟩
  . have:=qk8 (anti hno) hb hen hj
    rw[he]at this hv h0;exact⟨by rw[this,hv],h0,e,hen,hj⟩
  . omega
 rcases hL with ⟨l2,le⟩ | ⟨l2,l3,le⟩ | ⟨l2,l4,⟨F1,l3⟩,le⟩ | ⟨l2,G1,G2,G3,F1,F2,bot,top,le,b1,b2,b3,x1,x2,x3,y1,y2,y3,l3,l4,lb,lt⟩
 . rcases hS with ⟨-,se⟩ | ⟨s2,-⟩ | ⟨s2,-⟩ | ⟨s2,-⟩
   . exact .inl ⟨2,se,le⟩
   all_goals exact absurd (two1 l2) s2
 . rcases hS with ⟨s2,-⟩ | ⟨s2,s3,se⟩ | ⟨s2,s3,-⟩ | ⟨s2,s3,-⟩
   . exact absurd s2 (two2 l2)
   . exact .inl ⟨3,se,le⟩
   all_goals
    obtain⟨i,hi,h⟩:=noJ l3;have:=s3 i hi;omega
 . have vJ:=valJ (two2 l2) l3
   rcases hS with ⟨s2,-⟩ | ⟨s2,⟨i,hi,h⟩,se⟩ | ⟨s2,s3,s4,se⟩ | ⟨s2,s3,s4,-⟩
   . exact absurd s2 (two2 l2)
   . have:=vJ i hi;omega
   . exact .inl ⟨4,se,le⟩
   . obtain⟨i,hi,h⟩:=noM l4
     have:=s4 i hi;omega
 . have vJ:=valJ (two2 l2) l3
   have vM:=valM (two2 l2) l4;rcases hS with ⟨s2,-⟩ | ⟨s2,⟨i,hi,h⟩,se⟩ | ⟨s2,s3,⟨i,hi,h⟩,se⟩ | ⟨s2,s3,s4,a1,a2,a3,c1,c2,c3,se,k1,k2,k3⟩
   . exact absurd s2 (two2 l2)
   . have:=vJ i hi;omega
   . have:=vM i hi;omega
   . have hA:=anti s2
     have joins:∀a,a<n->∀b,b<n->∃e,e<n/\isJoinP F n a b e:=fun a ha b hb=>by
      obtain⟨-,-,e,he,hj⟩:=vJ _ (idx_lt ha hb);have hdm:(a*n+b) / n=a/\(a*n+b) % n=b:=by
       rw[Oo,Vc _ _ (by omega),Vm hb,Zx,Z4 hb];simp
      rw[hdm.1,hdm.2]at hj;exact⟨e,he,hj⟩
     have meets:∀a,a<n->∀b,b<n->∃e,e<n/\isMeetP F n a b e:=fun a ha b hb=>by
      obtain⟨-,-,e,he,hj⟩:=vM _ (idx_lt ha hb);have hdm:(a*n+b) / n=a/\(a*n+b) % n=b:=by
       rw[Oo,Vc _ _ (by omega),Vm hb,Zx,Z4 hb];simp
      rw[hdm.1,hdm.2]at hj;exact⟨e,he,hj⟩
     have hbot:lastN (belowAll F n n) n=bot:=by
      rcases bot_of hn hq lb with ⟨e,he,hv,hx⟩ | ⟨-,hx⟩
      . rw[hv]
        refine qjk (q32.2 fun x h=>(hx x h).2.2) he fun c hc hp=>?_;have hp':=q32.1 hp;exact hA c e ⟨hc,he,hp' e he⟩ (hx c hc)
      . obtain⟨e,he,h⟩:=qiu h1 ht meets
        exact absurd h (hx e he)
     have htop:lastN (aboveAll F n n) n=top:=by
      rcases top_of hn hd lt with ⟨e,he,hv,hx⟩ | ⟨-,hx⟩
      . rw[hv]
        refine qjk (q2z.2 fun x h=>(hx x h).2.2) he fun c hc hp=>?_;have hp':=q2z.1 hp;exact hA c e (hx c hc) ⟨he,hc,hp' e he⟩
      . obtain⟨e,he,h⟩:=qiw h1 ht joins
        exact absurd h (hx e he)
     rw[hbot,htop]at se;rw[qdg (G:=F) fun i hi=>by
      obtain⟨ha,hb,he⟩:=qaz hi;rw[tabB,hRl _ _ ha hb,he]]at b1
     rw[qed (G:=JF F n) fun i hi=>(vJ i hi).1.symm]at b2;rw[qed (G:=MF F n) fun i hi=>(vM i hi).1.symm]at b3;exact .inr ⟨a1,a2,a3,c1,c2,c3,G1,G2,G3,bot,top,se,le,k1,k2,k3,b1,b2,b3,x1,x2,x3,y1,y2,y3⟩
end
section
variable {F:Nat->Bool} {n:Nat}
theorem qfu {a b:Nat}(ha:a<n)(hb:b<n):a*n+b<n*n:=by
 have:(a+1)*n<=n*n:=Zs n (by omega)
 rw[Nat.add_mul]at this
 omega
theorem qc4 {a b:Nat}(hb:b<n):(a*n+b) / n=a:=by
 rw[Nat.mul_comm,Nat.mul_add_div (by omega),Vm hb];rfl
theorem qc5 {a b:Nat}(hb:b<n):(a*n+b) % n=b:=by
 rw[Nat.mul_comm,Nat.mul_add_mod,Z4 hb]
theorem jf_is {a b:Nat}(ha:a<n)(hb:b<n)(hJ:∀i,i<n*n->0<=JF F n i):∃j:Nat,JF F n (a*n+b)=j/\j<n/\isJoinP F n a b j:=by
 have h:=hJ _ (qfu ha hb)
 unfold JF at h⊢
 rw[qc4 hb,qc5 hb]at h⊢
 rcases q50 (isJoin F n a b) n with ⟨c,hc,e,hp⟩ | ⟨e,-⟩
 . exact⟨c,e,hc,q7j.1 hp⟩
 . rw[e]at h;omega
theorem mf_is {a b:Nat}(ha:a<n)(hb:b<n)(hM:∀i,i<n*n->0<=MF F n i):∃j:Nat,MF F n (a*n+b)=j/\j<n/\isMeetP F n a b j:=by
 have h:=hM _ (qfu ha hb)
 unfold MF at h⊢
 rw[qc4 hb,qc5 hb]at h⊢
 rcases q50 (isMeet F n a b) n with ⟨c,hc,e,hp⟩ | ⟨e,-⟩
 . exact⟨c,e,hc,q7m.1 hp⟩
 . rw[e]at h;omega
theorem q4n (h1:1<=n)(h32:n<=32)(hr:∀a,a<n->F (a*n+a)=true)(ht:∀a b c,a<n->b<n->c<n->F (a*n+b)=true->F (b*n+c)=true->F (a*n+c)=true)(hT:¬ TwoW F n)
 (hJ:∀i,i<n*n->0<=JF F n i) (hM:∀i,i<n*n->0<=MF F n i):Valid n (n*n) (n*n) (n*n) F (JF F n) (MF F n) (lastN (belowAll F n n) n) (lastN (aboveAll F n n) n):=by
 have anti:∀a b,a<n->b<n->F (a*n+b)=true->F (b*n+a)=true->a=b:=fun a b ha hb x y=>Classical.byContradiction fun h=>hT ⟨a,b,ha,hb,h,x,y⟩
 have low:∀k,k<=n->1<=k->∃c,c<n/\∀d,d<k->F (c*n+d)=true:=by
  intro k
  induction k with
  | zero=>intro _ h;omega
  | succ k ih =>
   intro hk _;by_cases h0:k=0
   . refine⟨0,by omega,fun d hd=>?_⟩
     obtain rfl:d=0:=(by omega);exact hr 0 (by omega)
   . obtain⟨c,hc,hd⟩:=ih (by omega) (by omega)
     obtain⟨j,-,hj,m1,m2,-⟩:=mf_is (F:=F) hc (show k<n by omega) hM;refine⟨j,hj,fun d hdk=>?_⟩;by_cases e:d=k
     . rw[e];exact m2
     . exact ht j c d hj hc (by omega) m1 (hd d (by omega))
 have high:∀k,k<=n->1<=k->∃c,c<n/\∀d,d<k->F (d*n+c)=true:=by
  intro k
  induction k with
  | zero=>intro _ h;omega
  | succ k ih =>
   intro hk _;by_cases h0:k=0
   . refine⟨0,by omega,fun d hd=>?_⟩
     obtain rfl:d=0:=(by omega);exact hr 0 (by omega)
   . obtain⟨c,hc,hd⟩:=ih (by omega) (by omega)
     obtain⟨j,-,hj,m1,m2,-⟩:=jf_is (F:=F) hc (show k<n by omega) hJ;refine⟨j,hj,fun d hdk=>?_⟩;by_cases e:d=k
     . rw[e];exact m2
     . exact ht d c j (by omega) hc hj (hd d (by omega)) m1
 obtain⟨bt,hbt,hb⟩:=low n (nR _) h1
 obtain⟨tp,htp,hp⟩:=high n (nR _) h1
 have e1:lastN (belowAll F n n) n=bt:=qjk (q32.2 hb) hbt fun c hc h=>anti c bt hc hbt (q32.1 h bt hbt) (hb c hc)
 have e2:lastN (aboveAll F n n) n=tp:=qjk (q2z.2 hp) htp fun c hc h=>anti c tp hc htp (hp c hc) (q2z.1 h tp htp)
 refine⟨n,bt,tp,rfl,h1,h32,rfl,rfl,rfl,e1,e2,hbt,htp,fun a ha=>⟨hr a ha,hb a ha,hp a ha,fun b hb=>⟨fun h=>h.1 (anti a b ha hb h.2.1 h.2.2),fun c hc x y=>ht a b c ha hb hc x y⟩⟩,fun a ha b hb=>?_⟩
 obtain⟨j,ej,hj,pj⟩:=jf_is (F:=F) ha hb hJ
 obtain⟨m,em,hm,pm⟩:=mf_is (F:=F) ha hb hM
 exact⟨j,m,ej,em,hj,hm,pj,pm⟩
end
def SpecZ (N:Int)(m:Nat)(f g:Nat->Int)(code:Int):Prop:=∀(w:World) (X:Option Addr) (c:Nat),Pairs w X m f g->Calls Tryz.prog 8 #[.agg #[.int .i64 N,.slice X m c]] w fun e w'=>e=.returned (.tuple #[zeroL,.int .i64 code])/\Below w.heap.size w w'
def ImplZ (N:Int)(m:Nat)(f g:Nat->Int)(code:Int):Prop:=∀(w:World) (X:Option Addr) (c:Nat),Pairs w X m f g->Tab w->Calls Tryz.prog 47 #[.agg #[.int .i64 N,.slice X m c]] w fun e w'=>e=.returned (.tuple #[zeroL,.int .i64 code])/\Below w.heap.size w w'
def SpecF (N:Int)(m:Nat)(f g:Nat->Int)(s:Nat)(F:Nat->Bool)(J M:Nat->Int)(bot top:Int):Prop:=∀(w:World) (X:Option Addr) (c:Nat),Pairs w X m f g->Calls Tryz.prog 8 #[.agg #[.int .i64 N,.slice X m c]] w fun e w' =>
 ∃a1 a2 a3 c1 c2 c3,e=.returned (.tuple #[.agg (Jo N a1 s c1 a2 c2 a3 c3 bot top),J9 0])/\Bools w' a1 s F/\Ints w' a2 s J/\Ints w' a3 s M/\Below w.heap.size w w'
def ImplF (N:Int)(m:Nat)(f g:Nat->Int)(s:Nat)(F:Nat->Bool)(J M:Nat->Int)(bot top:Int):Prop:=∀(w:World) (X:Option Addr) (c:Nat),Pairs w X m f g->Tab w->Calls Tryz.prog 47 #[.agg #[.int .i64 N,.slice X m c]] w fun e w' =>
 ∃G1 G2 G3,e=.returned (.tuple #[.agg #[J9 N,.slice (some ⟨G1,0,none⟩) s s,.slice (some ⟨G2,0,none⟩) s s,.slice (some ⟨G3,0,none⟩) s s,J9 bot,J9 top],J9 0])/\Blk w' G1 4 (bs s F)/\Blk w' G2 3 (is s J)/\Blk w' G3 3 (is s M)/\w.heap.size<=G1/\w.heap.size<=G2/\w.heap.size<=G3/\G1≠G2/\G1≠G3/\G2≠G3/\Below w.heap.size w w'
def SpecC (N:Int)(m:Nat)(f g:Nat->Int)(s:Nat)(F:Nat->Bool):Prop:=∀(w:World) (X:Option Addr) (c:Nat),Pairs w X m f g->Calls Tryz.prog 30 #[.agg #[.int .i64 N,.slice X m c]] w fun e w'=>∃G,e=.returned (.slice (some ⟨G,0,none⟩) s s)/\Blk w' G 4 (bs s F)/\w.heap.size<=G/\Below w.heap.size w w'
theorem Pairs.congr {w:World}{a:Option Addr}{m:Nat}{f g f' g':Nat->Int}(h:Pairs w a m f g)(hf:∀k,k<m->f k=f' k)(hg:∀k,k<m->g k=g' k):Pairs w a m f' g':=fun k hk=>by
 obtain⟨b,off,e,h1,h2,h3⟩:=h k hk
 exact⟨b,off,e,h1,by rw[<- hf k hk];exact h2,by rw[<- hg k hk];exact h3⟩
theorem qck (w:World)(n:Nat)(F:Nat->Bool)(J M:Nat->Int):∃w1 a1 a2 a3,Bools w1 a1 n F/\Ints w1 a2 n J/\Ints w1 a3 n M:=by
 have b1:=((Blk.new w 4 (bs n F).toArray).alloc (.cells (is n J).toArray 3)).alloc (.cells (is n M).toArray 3)
 have b2:=(Blk.new (w.alloc (.cells (bs n F).toArray 4)) 3 (is n J).toArray).alloc (.cells (is n M).toArray 3)
 have b3:=Blk.new ((w.alloc (.cells (bs n F).toArray 4)).alloc (.cells (is n J).toArray 3)) 3 (is n M).toArray
 exact⟨_,_,_,_,Blk.bools (f:=F) b1,Blk.ints (f:=J) b2,Blk.ints (f:=M) b3⟩
theorem pb_is (f g:Nat->Nat):∀m,(∀k,k<m->f k<32)->(∀k,k<m->g k<32)->∃u,IsRel u (pb f g m)
 | 0,_,_=>⟨fun _=>0,fun a _=>⟨Nat.zero_lt_of_lt (show 0<4294967296 by decide),fun b=>by simp[pb]⟩⟩
 | m+1,hf,hg=>by
  obtain⟨u,h⟩:=pb_is f g m (fun k hk=>hf k (by omega)) (fun k hk=>hg k (by omega));have h':=h.add (hf m (by omega)) (hg m (by omega));exact⟨_,fun a ha=>⟨(h' a ha).1,fun b=>((h' a ha).2 b).trans (qkq f g m a b).symm⟩⟩
theorem dich4 (N:Int)(m:Nat)(f g:Nat->Int)(hm:m<=1048576):(∃code,(1<=code/\code<=4)/\SpecZ N m f g code/\ImplZ N m f g code)∨(∃s F J M bot top,s<=1024/\Valid N s s s F J M bot top/\SpecF N m f g s F J M bot top/\ImplF N m f g s F J M bot top/\SpecC N m f g s F):=by
 by_cases hr:1<=N/\N<=32/\m<=256
 . by_cases hp:∀k,k<m->0<=f k/\f k<N/\0<=g k/\g k<N
   . obtain⟨n,rfl⟩:∃n:Nat,N=n:=⟨N.toNat,by omega⟩
     have h1:1<=n:=(by omega);have h32:n<=32:=(by omega);have hF1:∀k,k<m->f k=(((f k).toNat:Nat):Int):=fun k hk=>by have:=hp k hk;omega
     have hG1:∀k,k<m->g k=(((g k).toNat:Nat):Int):=fun k hk=>by have:=hp k hk;omega
     have hf:∀k,k<m->(f k).toNat<n:=fun k hk=>by have:=hp k hk;omega
     have hg:∀k,k<m->(g k).toNat<n:=fun k hk=>by have:=hp k hk;omega
     obtain⟨F,hF⟩:=Nq (tabB n (rounds diag (fun k=>(f k).toNat) (fun k=>(g k).toNat) m n));have spec:∀(w:World) (X:Option Addr) (c:Nat),Pairs w X m f g->Calls Tryz.prog 8 #[.agg (Jm n X m c)] w fun e w'=>SpecOut n F e w'/\Below w.heap.size w w':=fun w X c h =>
      q4c n X m c _ _ w h1 h32 hr.2.2 (h.congr hF1 hG1) hf hg F hF
     have impl:∀(e1:Ending) (w1:World),SpecOut n F e1 w1->∀(w:World) (X:Option Addr) (c:Nat),Pairs w X m f g->Tab w->Calls Tryz.prog 47 #[.agg (Jm n X m c)] w fun e w'=>SameOut n F w.heap.size e1 e w1 w'/\Below w.heap.size w w':=fun e1 w1 hS w X c h ht =>
      (q3e n X m c _ _ w h1 h32 hr.2.2 (h.congr hF1 hG1) hf hg ht).mono fun e w' ⟨hb,u,q,d,Rl,hu,hq,hqr,hd,hL⟩=>by
       have hqp:=rel_q h32 hu hf hg hF hq;have hRl:∀a b,a<32->Rl a b=part F n (n*n) a b:=fun a b ha=>((hqr a ha).2 b).symm.trans ((hqp a ha).2 b);have hd':IsRel d (fun b a=>decide (a<n)&&part F n (n*n) a b):=hd.congr fun a b _=>by
        by_cases hb:b<n
        . rw[hRl b a (by omega)]
        . rw[Yj hb];rfl
       have hle:∀{a b},Le F n a b ↔ a<n/\Reach u a b:=qel h32 hu hf hg hF;refine⟨qgb h1 h32 hqp hd' (fun a b ha hb=>?_) (fun a ha=>hle.2 ⟨ha,Reach.refl _ _⟩) (fun a b e x y=>hle.2 ⟨(hle.1 x).1,q66 (hle.1 x).2 (hle.1 y).2⟩) hS hL,hb⟩;rw[hRl a b (by omega),Zv,qfr];exact⟨fun h=>h.2.2,fun h=>⟨ha,hb,h⟩⟩
     have zero:∀code:Int,(∀e w',SpecOut n F e w'->e=.returned (.tuple #[zeroL,J9 code]))->(∀w',SpecOut n F (.returned (.tuple #[zeroL,J9 code])) w')->SpecZ n m f g code/\ImplZ n m f g code:=fun code h1 h2=>by
      refine⟨fun w X c h=>(spec w X c h).mono fun e w' ⟨a,b⟩=>⟨h1 e w' a,b⟩,fun w X c h ht=>(impl _ w (h2 w) w X c h ht).mono fun e w' ⟨a,b⟩=>⟨?_,b⟩⟩;rcases a with ⟨code',x,y⟩ | ⟨a1,a2,a3,c1,c2,c3,G1,G2,G3,bot,top,x,-⟩
      . simp only[Ending.returned.injEq,Value.tuple.injEq,Array.mk.injEq,List.cons.injEq,Value.int.injEq,and_true,true_and]at x
        rw[y,x]
      . exfalso
        simp[zeroL]at x;omega
     by_cases t2:TwoW F n
     . exact .inl ⟨2,by decide,zero 2 (fun e w' h=>by
        rcases h with ⟨-,he⟩ | ⟨x,-⟩ | ⟨x,-⟩ | ⟨x,-⟩
        . exact he
        all_goals exact absurd t2 x) fun w'=>.inl ⟨t2,rfl⟩⟩
     by_cases t3:∃i,i<n*n/\JF F n i<0
     . have n3:¬ ∀i,i<n*n->0<=JF F n i:=fun h=>by obtain⟨i,hi,x⟩:=t3;have:=h i hi;omega
       exact .inl ⟨3,by decide,zero 3 (fun e w' h=>by
        rcases h with ⟨x,-⟩ | ⟨-,-,he⟩ | ⟨-,x,-⟩ | ⟨-,x,-⟩
        . exact absurd x t2
        . exact he
        all_goals exact absurd x n3) fun w'=>.inr (.inl ⟨t2,t3,rfl⟩)⟩
     have p3:∀i,i<n*n->0<=JF F n i:=fun i hi=>Classical.byContradiction fun h=>t3 ⟨i,hi,by omega⟩;by_cases t4:∃i,i<n*n/\MF F n i<0
     . have n4:¬ ∀i,i<n*n->0<=MF F n i:=fun h=>by obtain⟨i,hi,x⟩:=t4;have:=h i hi;omega
       exact .inl ⟨4,by decide,zero 4 (fun e w' h=>by
        rcases h with ⟨x,-⟩ | ⟨-,x,-⟩ | ⟨-,-,-,he⟩ | ⟨-,-,x,-⟩
        . exact absurd x t2
        . exact absurd x t3
        . exact he
        . exact absurd x n4) fun w'=>.inr (.inr (.inl ⟨t2,p3,t4,rfl⟩))⟩
     have p4:∀i,i<n*n->0<=MF F n i:=fun i hi=>Classical.byContradiction fun h=>t4 ⟨i,hi,by omega⟩;refine .inr ⟨n*n,F,JF F n,MF F n,lastN (belowAll F n n) n,lastN (aboveAll F n n) n,sq_le h32,?_,fun w X c h=>(spec w X c h).mono fun e w' ⟨a,b⟩=>?_,fun w X c h ht=>?_,fun w X c h=>by rw[<- hF];exact q2d n X m c _ _ w h1 h32 hr.2.2 (h.congr hF1 hG1) hf hg⟩
     . obtain⟨u,hu⟩:=pb_is (fun k=>(f k).toNat) (fun k=>(g k).toNat) m (fun k hk=>Y5 (hf k hk) h32) (fun k hk=>Y5 (hg k hk) h32)
       have hle:∀{a b},Le F n a b ↔ a<n/\Reach u a b:=qel h32 hu hf hg hF;exact q4n h1 h32 (fun a ha=>(hle.2 ⟨ha,Reach.refl _ _⟩).2.2) (fun a b c ha hb hc x y=>(hle.2 ⟨ha,q66 (hle.1 ⟨ha,hb,x⟩).2 (hle.1 ⟨hb,hc,y⟩).2⟩).2.2) t2 p3 p4
     . rcases a with ⟨x,-⟩ | ⟨-,x,-⟩ | ⟨-,-,x,-⟩ | ⟨-,-,-,a1,a2,a3,c1,c2,c3,he,k1,k2,k3⟩
       . exact absurd x t2
       . exact absurd x t3
       . exact absurd x t4
       . exact⟨a1,a2,a3,c1,c2,c3,he,k1,k2,k3,b⟩
     . obtain⟨w1,a1,a2,a3,k1,k2,k3⟩:=qck w (n*n) F (JF F n) (MF F n)
       refine(impl _ w1 (.inr (.inr (.inr ⟨t2,p3,p4,a1,a2,a3,0,0,0,rfl,k1,k2,k3⟩))) w X c h ht).mono fun e w' ⟨a,b⟩=>?_;rcases a with ⟨code',x,-⟩ | ⟨a1',a2',a3',c1,c2,c3,G1,G2,G3,bot,top,x,y,-,-,-,b1,b2,b3,z⟩
       . exfalso
         simp[zeroL]at x;omega
       . simp only[Ending.returned.injEq,Value.tuple.injEq,Value.agg.injEq,Array.mk.injEq,List.cons.injEq,Value.int.injEq,Value.slice.injEq,and_true,true_and]at x
         obtain⟨-,-,-,hb,ht⟩:=x;rw[<- hb,<- ht]at y;exact⟨G1,G2,G3,y,b1,b2,b3,z.1,z.2.1,z.2.2.1,z.2.2.2.1,z.2.2.2.2.1,z.2.2.2.2.2,b⟩
   . refine .inl ⟨1,by decide,fun w X c h=>q2v N X m c w fun w' hb=>q0u N X m c f g w' hr.1 hr.2.1 hr.2.2 (h.mono hb) false ⟨(fun x=>by cases x),fun x=>absurd x hp⟩,fun w X c h _=>q2a N X m c w fun w' hb=>q2x N X m c f g w' hr.1 hr.2.1 hr.2.2 (h.mono hb) false ⟨(fun x=>by cases x),fun x=>absurd x hp⟩⟩
 . exact .inl ⟨1,by decide,fun w X c _=>q2v N X m c w fun w' _=>q0v N X m c w' (by omega) hr,fun w X c _ _=>q2a N X m c w fun w' _=>q2y N X m c w' (by omega) hr⟩
theorem dich3 (N:Int)(m:Nat)(f g:Nat->Int)(hm:m<=1048576):(∃code,(1<=code/\code<=4)/\SpecZ N m f g code/\ImplZ N m f g code)∨(∃s F J M bot top,s<=1024/\Valid N s s s F J M bot top/\SpecF N m f g s F J M bot top/\ImplF N m f g s F J M bot top):=by
 rcases dich4 N m f g hm with h | ⟨s,F,J,M,bot,top,h1,h2,h3,h4,-⟩
 . exact .inl h
 . exact .inr ⟨s,F,J,M,bot,top,h1,h2,h3,h4⟩
theorem dich2 (N:Int)(m:Nat)(f g:Nat->Int)(hm:m<=1048576):(∃code,code≠0/\SpecZ N m f g code/\ImplZ N m f g code)∨(∃s F J M bot top,s<=1024/\Valid N s s s F J M bot top/\SpecF N m f g s F J M bot top/\ImplF N m f g s F J M bot top):=by
 rcases dich3 N m f g hm with ⟨code,h0,h⟩ | h
 . exact .inl ⟨code,by omega,h⟩
 . exact .inr h
end Go.Proofs.YtebbgodlijlioaaGreatDoor
namespace Go.Proofs.YtebbgodlijlioaaGreatDoor
open Go
theorem qjl {N bot top:Int}{s n bt tp:Nat}{F:Nat->Bool}{J M:Nat->Int}(h:ValidP N s s s F J M bot top n bt tp):LatP n (fun a b=>F (a*n+b)=true) (fun a b=>(J (a*n+b)).toNat) bt:=by
 refine⟨fun a ha=>(h.rows a ha).1,fun a b c ha hb hc x y=>((h.rows a ha).2.2.2 b hb).2 c hc x y,fun a b ha hb x y=>Classical.byContradiction fun e=>((h.rows a ha).2.2.2 b hb).1 ⟨e,x,y⟩,h.bb,fun a ha=>(h.rows a ha).2.1,fun a b ha hb=>?_,fun a b ha hb=>?_,fun a b ha hb=>?_,fun a b c ha hb hc x y=>?_⟩
 . obtain⟨j,m,hj,-,hl,-⟩:=h.ents a ha b hb
   show(J (a*n+b)).toNat<n;rw[hj];simpa using hl
 . obtain⟨j,m,hj,-,-,-,hp,-⟩:=h.ents a ha b hb
   show F (a*n+(J (a*n+b)).toNat)=true;rw[hj];simpa using hp.1
 . obtain⟨j,m,hj,-,-,-,hp,-⟩:=h.ents a ha b hb
   show F (b*n+(J (a*n+b)).toNat)=true;rw[hj];simpa using hp.2.1
 . obtain⟨j,m,hj,-,-,-,hp,-⟩:=h.ents a ha b hb
   show F ((J (a*n+b)).toNat*n+c)=true;rw[hj];simpa using hp.2.2 c hc x y
theorem qef {N bot top:Int}{s n bt tp:Nat}{F:Nat->Bool}{J M:Nat->Int}(h:ValidP N s s s F J M bot top n bt tp){a b:Nat}(ha:a<n)(hb:b<n):J (a*n+b)=(((J (a*n+b)).toNat:Nat):Int):=by
 obtain⟨j,m,hj,-,-,-,hp,-⟩:=h.ents a ha b hb
 rw[hj]
 simp
theorem qfq {w:World}{a:Option Addr}{l:List (Int × Int)}(h:Prs w a l):Pairs w a l.length (fun k=>(l.getD k (0,0)).1) (fun k=>(l.getD k (0,0)).2):=fun k hk=>by
 obtain⟨b,o,e,h1,h2,h3⟩:=h k hk
 refine⟨b,o,e,h1,?_,?_⟩
 . dsimp only;rw[Yl,Yi hk];exact h2
 . dsimp only;rw[Yl,Yi hk];exact h3
end Go.Proofs.YtebbgodlijlioaaGreatDoor
namespace Go.Proofs.YtebbgodlijlioaaGreatDoor
open Go Go.RowKit
theorem q0b (a:Option Addr)(m c:Nat)(e:Nat->Nx)(w:World)(hm:m<=9223372036854775807)(ha:Nods w a m e)(hf:∀k,k<m->Fit (e k))(hw:Wrds w)(hp:Pow w) :
 Calls Tryz.prog 186 #[.slice a m c] w fun r w'=>r=.returned (.string (if vxB e m then (top e m).t else ⟨#[]⟩))/\Below w.heap.size w w':=by
 have HC:=h_ (q65 a m c e w hm ha hf hw hp)
 obtain⟨t,ht⟩:=Nq ((if vxB e m then (top e m).t else ⟨#[]⟩))
 obtain⟨q,hq⟩:=Nq (vxB e m)
 rw[ht,hq]at HC
 rw[ht]
 clear ht hq ha hf hw hp
 go_enter Tryz.func186,Tryz.ntmps186
 go_wp2_with fail
 refine HC.u.mono ?_
 rintro x w1 ⟨rfl,hb⟩
 have HB:=h_ hb
 clear hb HC
 go_wp2_with fail
 go_ret
 exact⟨rfl,HB.u⟩
end Go.Proofs.YtebbgodlijlioaaGreatDoor
