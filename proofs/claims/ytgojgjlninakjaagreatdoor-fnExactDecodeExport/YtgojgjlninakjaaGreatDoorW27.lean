import Derived.Test.YtgojgjlninakjaaGreatDoorW24
set_option maxRecDepth 100000
set_option maxHeartbeats 64000000
namespace Go.Proofs.YtgojgjlninakjaaGreatDoor
open Go Go.RowKit
def nxI (m:Fm)(D:List Nat):Int:=match nxt m D with
 | some k=>(k:Int)
 | none=>-1
theorem qhj {m:Fm}{D:List Nat}{k:Nat}(h:nxt m D=some k):nxI m D=k:=by unfold nxI;rw[h]
theorem qhi {m:Fm}{D:List Nat}(h:nxt m D=none):nxI m D = -1:=by unfold nxI;rw[h]
end Go.Proofs.YtgojgjlninakjaaGreatDoor
namespace Go.Proofs.YtgojgjlninakjaaGreatDoor
open Go
theorem qi3 {m:Fm}{k x:Nat}{D:List Nat}(hk:k<m.F.length)(hx:nxt m D=some x):Rch m k x ↔ ∃j,j∈D/\j<m.F.length/\fedB m j x=true/\(j=k∨Rch m k j):=by
 obtain⟨hxn,hr,-⟩:=qhl hx
 have hD:∀j,j<m.F.length->fedB m j x=true->j∈D:=by
  intro j hj hf;unfold rdyB at hr;rw[Yf,Yu]at hr;have:=hr.2 j (Y9.2 hj);rw[hf]at this;simpa using this
 constructor
 . intro h
   cases h with
   | one hi hf=>exact⟨k,hD k hk hf,hk,hf,.inl rfl⟩
   | step hj hi hf=>exact⟨_,hD _ hj.lt hf,hj.lt,hf,.inr hj⟩
 . rintro⟨j,-,-,hf,rfl | hj⟩
   . exact .one hxn hf
   . exact .step hj hxn hf
def cntB (M:Nat->Bool)(n:Nat):Nat:=((List.range n).filter M).length
theorem qbu (M:Nat->Bool)(n:Nat):cntB M (n+1)=cntB M n+if M n=true then 1 else 0:=by
 unfold cntB
 rw[Zh,List.filter_append,Yd]
 cases h:M n <;> simp[h]
theorem qkb (M:Nat->Bool)(n:Nat):cntB M n<=n:=by
 induction n with
 | zero=>exact nR _
 | succ n ih=>rw[qbu];split <;> omega
theorem qfo {M:Nat->Bool}{n:Nat}(h:n<=cntB M n):∀i,i<n->M i=true:=by
 induction n with
 | zero=>intro i hi;omega
 | succ n ih =>
  have hl:=qkb M n;rw[qbu]at h;have hn:M n=true:=by
   cases e:M n
   . rw[e]at h;simp at h;omega
   . rfl
  rw[hn]at h;simp at h;intro i hi;by_cases e:i=n
  . subst e;exact hn
  . exact ih h i (by omega)
theorem q88 {M M':Nat->Bool}{n:Nat}(h:∀i,i<n->M i=M' i):cntB M n=cntB M' n:=by
 unfold cntB
 rw[List.filter_congr fun i hi=>h i (Y9.1 hi)]
theorem qkd {M:Nat->Bool}{n i:Nat}(hi:i<n)(h:M i=false):cntB (up M i true) n=cntB M n+1:=by
 induction n with
 | zero=>omega
 | succ n ih =>
  rw[qbu,qbu];by_cases e:i=n
  . subst e
    rw[up_at,h,q88 (M:=up M i true) (M':=M) fun j hj=>up_ne _ _ (by omega)];simp
  . rw[ih (by omega),up_ne M true (show n≠i by omega)]
    omega
def Snd (m:Fm)(k:Nat)(M:Nat->Bool):Prop:=∀i,M i=true->Rch m k i
theorem Snd.up {m:Fm}{k i:Nat}{M:Nat->Bool}(h:Snd m k M)(hr:Rch m k i):Snd m k (up M i true):=fun j hj=>by
 by_cases e:j=i
 . subst e;exact hr
 . rw[up_ne _ _ e]at hj;exact h j hj
def Cls (m:Fm)(k:Nat)(M:Nat->Bool)(j:Nat):Prop:=(j=k∨M j=true)->∀i,i<m.F.length->fedB m j i=true->M i=true
theorem qi2 {m:Fm}{k:Nat}{M:Nat->Bool}(h:Snd m k M)(hc:m.F.length<=cntB M m.F.length):∀i,i<m.F.length->(M i=true ↔ Rch m k i):=fun i hi=>⟨h i,fun _=>qfo hc i hi⟩
theorem qa9 {m:Fm}{k:Nat}{M:Nat->Bool}(hk:k<m.F.length)(h:Snd m k M)(hc:∀j,j<m.F.length->Cls m k M j):∀i,i<m.F.length->(M i=true ↔ Rch m k i):=fun i _ =>
 ⟨h i,q2z (fun j hj=>hc j (by
  rcases hj with e | e
  . rw[e];exact hk
  . exact(h j e).lt) hj) i⟩
theorem qi4 {m:Fm}{k j i:Nat}(hj:j=k∨Rch m k j)(hi:i<m.F.length)(hf:fedB m j i=true):Rch m k i:=by
 rcases hj with e | e
 . subst e;exact .one hi hf
 . exact .step e hi hf
def ms (n:Nat)(M:Nat->Bool):List Value:=(List.range n).map fun k=>.bool (M k)
theorem ms_at {n i:Nat}(M:Nat->Bool)(h:i<n):(ms n M)[i]? = some (.bool (M i)):=by simp[ms,h]
theorem ms_set {n j:Nat}(M:Nat->Bool)(v:Bool):(ms n M).set j (.bool v)=ms n (up M j v):=map_up (fun x=>.bool x) M n j v
end Go.Proofs.YtgojgjlninakjaaGreatDoor
namespace Go.Proofs.YtgojgjlninakjaaGreatDoor
open Go Go.RowKit
theorem q75 {w:World}{base:Nat}{e:TypeId}{v:Value}{n:Nat}{us:List Nat}(h:w.ownsRow base e 1 v n (ui us)):∃a cap,v=.slice a n cap/\n=us.length/\Plc w a us:=by
 have hlen:us.length=n:=by have:=h.1;simpa [ui] using this
 obtain⟨a,cap,e1,hi⟩:=q3x h
 refine⟨a,cap,e1,hlen.symm,fun k hk=>?_⟩
 have hk':k<us.length:=by simpa using hk
 obtain⟨b,o,e2,h1,h2⟩:=hi k (by omega)
 refine⟨b,o,e2,h1,?_⟩
 rw[h2]
 dsimp only
 rw[Yo,Yc hk',Yo,Zg,Yc hk']
 rfl
theorem q9k {n B R j:Nat}{g d:Nat->Nat}{Rl:Nat->Nat->Bool}{e:Ending}{w':World}(h:LatOut n g d Rl B e w')(hR:R<B)(v:Value):LatOut n g d Rl B e (w'.setCell ⟨R,j,none⟩ v):=by
 rcases h with h | h | h | ⟨h1,G1,G2,G3,F1,F2,bot,top,he,b1,b2,b3,x1,x2,x3,h2⟩
 . exact .inl h
 . exact .inr (.inl h)
 . exact .inr (.inr (.inl h))
 . exact .inr (.inr (.inr ⟨h1,G1,G2,G3,F1,F2,bot,top,he,b1.other v (by simp;omega),b2.other v (by simp;omega),b3.other v (by simp;omega),x1,x2,x3,h2⟩))
theorem q4c {n B:Nat}{g d:Nat->Nat}{Rl:Nat->Nat->Bool}{e:Ending}{w':World}(h:LatOut n g d Rl B e w'):∃(l0:Int) (a1 a2 a3:Option Addr) (n1 n2 n3 c1 c2 c3:Nat) (l4 l5 code:Int),e=.returned (.tuple #[.agg #[J6 l0,.slice a1 n1 c1,.slice a2 n2 c2,.slice a3 n3 c3,J6 l4,J6 l5],J6 code]):=by
 rcases h with ⟨-,he⟩ | ⟨-,-,he⟩ | ⟨-,-,-,he⟩ | ⟨-,G1,G2,G3,F1,F2,bot,top,he,-⟩
 . exact⟨0,none,none,none,0,0,0,0,0,0,0,0,2,he⟩
 . exact⟨0,none,none,none,0,0,0,0,0,0,0,0,3,he⟩
 . exact⟨0,none,none,none,0,0,0,0,0,0,0,0,4,he⟩
 . exact⟨n,_,_,_,_,_,_,_,_,_,bot,top,0,he⟩
theorem q6m {n B B':Nat}{g d:Nat->Nat}{Rl:Nat->Nat->Bool}{e:Ending}{w':World}(h:LatOut n g d Rl B e w')(hB:B'<=B):LatOut n g d Rl B' e w':=by
 rcases h with h | h | h | ⟨h1,G1,G2,G3,F1,F2,bot,top,he,b1,b2,b3,x1,x2,x3,h2⟩
 . exact .inl h
 . exact .inr (.inl h)
 . exact .inr (.inr (.inl h))
 . exact .inr (.inr (.inr ⟨h1,G1,G2,G3,F1,F2,bot,top,he,b1,b2,b3,by omega,by omega,by omega,h2⟩))
def TwoO (w':World)(A:Nat)(v0 v1:Value):Prop:=w'.cell? ⟨A,0,none⟩=some v0/\w'.cell? ⟨A,1,none⟩=some v1
theorem q2f (N:Int)(a:Option Addr)(m c:Nat)(w:World)(hc:∀w',Below w.heap.size w w'->Calls Tryz.prog 144 #[.agg (Jp N a m c)] w' fun e w''=>e=.returned (.bool false)/\Below w'.heap.size w' w'') :
 Calls Tryz.prog 116 #[.agg (Jp N a m c)] w fun e w'=>e=.returned (.tuple #[zeroL,J6 1])/\Below w.heap.size w w':=by
 have HR:=h_ (by simpa using Blk.new (w.alloc (.cells (Jp N a m c) 131)) 105 Jf:Blk ((w.alloc (.cells (Jp N a m c) 131)).alloc (.cells Jf 105)) (w.heap.size+1) 105 [J6 0,J7,J7,J7,J6 0,J6 0])
 have H0:=h_ ((Blk.new w 131 (Jp N a m c)).alloc (.cells Jf 105))
 have HW:Hi (Below w.heap.size w ((w.alloc (.cells (Jp N a m c) 131)).alloc (.cells Jf 105))):=((bR _ w).alloc (nR _) _).alloc (by simp) _
 go_enter Tryz.func116,Tryz.ntmps116
 go_wp2_with fail
 refine(hc _ HW.u).mono ?_
 rintro e w1 ⟨rfl,hb⟩
 replace HR:=mB HR hb;replace H0:=mB H0 hb;replace HW:=mT HW hb
 clear hb
 obtain⟨⟨r0,r1,r2,r3,r4,r5⟩,⟨f0,f1,f2,f3,f4,f5⟩⟩:=six' HR.u
 have HZ:=h_ (q81 HW.u (Vg _) (J6 0) J7 J7 J7 (J6 0) (J6 0))
 go_wp2
 exact bodyPost_ret (v:=.tuple #[zeroL,J6 1]) (by simp[results,Tryz.results116,go_sem,zeroL, *]) rfl ⟨rfl,HZ.u⟩
theorem q3t (n:Nat)(a:Option Addr)(m c:Nat)(f g:Nat->Nat)(w:World)(h1:1<=n)(h32:n<=32)(hm:m<=256)(ha:Pairs w a m (fun k=>(f k:Int)) (fun k=>(g k:Int)))(hf:∀k,k<m->f k<n)(hg:∀k,k<m->g k<n)(ht:Tab w) :
 Calls Tryz.prog 116 #[.agg (Jp n a m c)] w fun e w'=>Below w.heap.size w w'/\∃u q d Rl,IsRel u (pb f g m)/\IsReach q (fun a b=>a<n/\Reach u a b)/\IsRel q Rl/\IsRel d (fun b a=>decide (a<n)&&Rl a b)/\LatOut n q d Rl w.heap.size e w':=by
 have HR:=h_ (by simpa using Blk.new (w.alloc (.cells (Jp n a m c) 131)) 105 Jf:Blk ((w.alloc (.cells (Jp n a m c) 131)).alloc (.cells Jf 105)) (w.heap.size+1) 105 [J6 0,J7,J7,J7,J6 0,J6 0])
 have H0:=h_ ((Blk.new w 131 (Jp n a m c)).alloc (.cells Jf 105))
 have HW:Hi (Below w.heap.size w ((w.alloc (.cells (Jp n a m c) 131)).alloc (.cells Jf 105))):=((bR _ w).alloc (nR _) _).alloc (by simp) _
 go_enter Tryz.func116,Tryz.ntmps116
 go_wp2_with fail
 refine(q38 n a m c _ _ _ (by omega) (by omega) hm (ha.mono HW.u) true ⟨fun _ k hk=>by have:=hf k hk;have:=hg k hk;omega,fun _=>rfl⟩).mono ?_
 rintro e W ⟨rfl,hb⟩
 replace HR:=mB HR hb;replace H0:=mB H0 hb;replace HW:=mT HW hb
 clear hb
 have S0:TwoO W w.heap.size (J6 n) (.slice a m c):=⟨H0.u.cell 0,H0.u.cell 1⟩
 have HS0:=h_ S0;clear S0
 go_wp2_with fail
 refine wp_region_held_drew (S:=fun w'=>TwoO w' w.heap.size (J6 n) (.slice a m c)) (by kernel_rfl) HS0.u (fun zz=>?_)
 refine tj 0 8 (J9 w.heap.size 0) zz ?_ (hy:=fun w hS=>by obtain⟨q0,q1⟩:=hS;simp[execOp,go_sem, *])
 refine tj 1 9 (J6 n) zz ?_ (hy:=fun w hS=>by obtain⟨q0,q1⟩:=hS;simp[execOp,go_sem, *])
 refine tj 2 10 (.agg (Jp n a m c)) zz ?_ (hy:=fun w hS=>by obtain⟨q0,q1⟩:=hS;simp[execOp,go_sem, *])
 refine tj 4 12 (J9 w.heap.size 0) zz ?_ (hy:=fun w hS=>by obtain⟨q0,q1⟩:=hS;simp[execOp,go_sem, *])
 simp only[sX,sY,sZ]
 refine tj 5 13 (J6 n) zz ?_ (hy:=fun w hS=>by obtain⟨q0,q1⟩:=hS;simp[execOp,go_sem, *])
 simp only[sX,sY,sZ]
 refine callY (i:=3) (f:=146) (args:=#[.agg (Jp n a m c)]) (R:=fun v wz=>∃u,v=.agg (us u).toArray/\IsRel u (pb f g m)/\Below W.heap.size W wz) 11 rfl rfl (by rfl) (by kernel_rfl) ?hrun1 ((q0a n a m c f g _ h32 hm (ha.mono (HW.u.trans ((q3d W 1).mono HW.u.size))) hf hg).mono fun e w6 ⟨u,he,hu,hb⟩=>⟨_,he,u,rfl,hu,q29 hb⟩) ?_
 case hrun1=>simp[execOp,go_sem]
 rintro v w5 ⟨u,rfl,hu,hb⟩
 replace HR:=mB HR hb;replace H0:=mB H0 hb;replace HW:=mT HW hb
 clear hb zz
 refine⟨⟨H0.u.cell 0,H0.u.cell 1⟩,?_⟩
 simp only[sX,sY,sZ]
 refine callY (i:=6) (f:=147) (args:=#[.agg (us u).toArray,J6 n]) (R:=fun v wz=>∃q,v=.agg (us q).toArray/\IsReach q (fun a b=>a<n/\Reach u a b)/\Below w5.heap.size w5 wz) 14 rfl rfl (by rfl) (by kernel_rfl) ?hrun2 ((q87 u n w5 h32 (fun a ha=>(hu a ha).1) (ht.mono HW.u)).mono fun e w6 ⟨q,he,hq,hb⟩=>⟨_,he,q,rfl,hq,hb⟩) ?_
 case hrun2=>simp[execOp,go_sem]
 rintro v w6 ⟨q,rfl,hq,hb⟩
 replace HR:=mB HR hb;replace H0:=mB H0 hb;replace HW:=mT HW hb
 clear hb
 refine⟨⟨H0.u.cell 0,H0.u.cell 1⟩,?_⟩
 simp only[sX,sY,sZ]
 have hqr:IsRel q (fun a b=>(q a).testBit b):=fun a ha=>⟨(hq a ha).1,fun b=>rfl⟩
 refine callY (i:=7) (f:=145) (args:=#[J6 n,.agg (us q).toArray]) (R:=fun v wz=>Below w6.heap.size w6 wz/\∃d,IsRel d (fun b a=>decide (a<n)&&(q a).testBit b)/\LatOut n q d (fun a b=>(q a).testBit b) w6.heap.size (.returned v) wz) 15 rfl rfl (by rfl) (by kernel_rfl) ?hrun3 ((q2s n q (fun a b=>(q a).testBit b) w6 h1 h32 hqr (ht.mono HW.u)).mono fun e w7 ⟨hb,d,hd,hL⟩=>?_) ?_
 case hrun3=>simp[execOp,go_sem]
 . obtain⟨l0,a1,a2,a3,n1,n2,n3,c1,c2,c3,l4,l5,code,rfl⟩:=q4c hL
   exact⟨_,rfl,hb,d,hd,hL⟩
 rintro v w7 ⟨hb,d,hd,hL⟩
 have hRB:w.heap.size+1<w6.heap.size:=HR.u.lt
 replace HR:=mB HR hb;replace H0:=mB H0 hb;replace HW:=mT HW hb
 have hWs:=HW.u.size
 have hB6:w.heap.size<=w6.heap.size:=by omega
 clear hb
 obtain⟨l0,a1,a2,a3,n1,n2,n3,c1,c2,c3,l4,l5,code,hv⟩:=q4c hL
 simp only[Ending.returned.injEq]at hv
 subst hv
 refine⟨⟨H0.u.cell 0,H0.u.cell 1⟩,?_⟩
 simp only[sX,sY,sZ]
 have zz:TwoO w7 w.heap.size (J6 n) (.slice a m c):=⟨H0.u.cell 0,H0.u.cell 1⟩
 refine tj 8 16 (.agg #[J6 l0,.slice a1 n1 c1,.slice a2 n2 c2,.slice a3 n3 c3,J6 l4,J6 l5]) zz ?_ (hy:=fun w hS=>by obtain⟨q0,q1⟩:=hS;simp[execOp,go_sem, *])
 refine tj 9 17 (J6 code) zz ?_ (hy:=fun w hS=>by obtain⟨q0,q1⟩:=hS;simp[execOp,go_sem, *])
 simp only[sX,sY,sZ]
 obtain⟨⟨r0,r1,r2,r3,r4,r5⟩,⟨f0,f1,f2,f3,f4,f5⟩⟩:=six' HR.u
 have A9:=((((((H0.u.other (a:=⟨w.heap.size+1,0,none⟩) (J6 l0) (by simp)).other (a:=⟨w.heap.size+1,1,none⟩) (.slice a1 n1 c1) (by simp)).other (a:=⟨w.heap.size+1,2,none⟩) (.slice a2 n2 c2) (by simp)).other (a:=⟨w.heap.size+1,3,none⟩) (.slice a3 n3 c3) (by simp)).other (a:=⟨w.heap.size+1,4,none⟩) (J6 l4) (by simp)).other (a:=⟨w.heap.size+1,5,none⟩) (J6 l5) (by simp))
 have R9:=((((((HR.u.set 0 (J6 l0)).set 1 (.slice a1 n1 c1)).set 2 (.slice a2 n2 c2)).set 3 (.slice a3 n3 c3)).set 4 (J6 l4)).set 5 (J6 l5))
 refine storeY (i:=10) (w':=((((((w7.setCell ⟨w.heap.size+1,0,none⟩ (J6 l0)).setCell ⟨w.heap.size+1,1,none⟩ (.slice a1 n1 c1)).setCell ⟨w.heap.size+1,2,none⟩ (.slice a2 n2 c2)).setCell ⟨w.heap.size+1,3,none⟩ (.slice a3 n3 c3)).setCell ⟨w.heap.size+1,4,none⟩ (J6 l4)).setCell ⟨w.heap.size+1,5,none⟩ (J6 l5))) rfl (by rfl) (by kernel_rfl) rfl ?hrun4 rfl ⟨A9.cell 0,A9.cell 1⟩ ?_
 case hrun4=>simp[execOp,go_sem,r0,r1,r2,r3,r4,r5,f0,f1,f2,f3,f4,f5]
 have HL9:=h_ (q9k (j:=5) (q9k (j:=4) (q9k (j:=3) (q9k (j:=2) (q9k (j:=1) (q9k (j:=0) hL hRB (J6 l0)) hRB (.slice a1 n1 c1)) hRB (.slice a2 n2 c2)) hRB (.slice a3 n3 c3)) hRB (J6 l4)) hRB (J6 l5))
 have HZ:=h_ (q81 HW.u (Vg _) (J6 l0) (.slice a1 n1 c1) (.slice a2 n2 c2) (.slice a3 n3 c3) (J6 l4) (J6 l5))
 obtain⟨⟨s0,s1,s2,s3,s4,s5⟩,-⟩:=six' R9
 clear r0 r1 r2 r3 r4 r5 f0 f1 f2 f3 f4 f5 R9 hL zz
 have zz:TwoO _ w.heap.size (J6 n) (.slice a m c):=⟨A9.cell 0,A9.cell 1⟩
 clear A9
 generalize ((((((w7.setCell ⟨w.heap.size+1,0,none⟩ (J6 l0)).setCell ⟨w.heap.size+1,1,none⟩ (.slice a1 n1 c1)).setCell ⟨w.heap.size+1,2,none⟩ (.slice a2 n2 c2)).setCell ⟨w.heap.size+1,3,none⟩ (.slice a3 n3 c3)).setCell ⟨w.heap.size+1,4,none⟩ (J6 l4)).setCell ⟨w.heap.size+1,5,none⟩ (J6 l5))=W9 at *
 refine tj 11 3 (J6 code) zz ?_ (hy:=fun w hS=>by obtain⟨q0,q1⟩:=hS;simp[execOp,go_sem, *])
 simp only[sX,sY,sZ]
 refine wpAnyH_done (by kernel_rfl) ?_ _
 go_wp2
 refine bodyPost_ret (v:=.tuple #[.agg #[J6 l0,.slice a1 n1 c1,.slice a2 n2 c2,.slice a3 n3 c3,J6 l4,J6 l5],J6 code]) (by simp[results,Tryz.results116,go_sem, *]) rfl ⟨HZ.u,u,q,d,_,hu,hq,hqr,hd,q6m HL9.u hB6⟩
theorem qlw {p:Nat->Bool}{e:Nat}(he:p e=true):∀{k:Nat},e<k->(∀c,c<k->p c=true->c=e)->lastN p k=e
 | k+1,h,hu=>by
  rw[lastN];by_cases hk:p k=true
  . rw[Yv hk,hu k (by omega) hk]
  . rw[Yn hk]
    have:e≠k:=fun x=>hk (x ▸ he);exact qlw he (by omega) (fun c hc=>hu c (by omega))
theorem q3c {F:Nat->Bool}{n m c:Nat}:belowAll F n m c=true ↔ ∀d,d<m->F (c*n+d)=true:=by simp[belowAll]
theorem q3a {F:Nat->Bool}{n m c:Nat}:aboveAll F n m c=true ↔ ∀d,d<m->F (d*n+c)=true:=by simp[aboveAll]
theorem qgr {n:Nat}{F G:Nat->Int}(h:∀i,i<n->F i=G i):is n F=is n G:=Zo fun i hi=>by rw[h i (Y9.1 hi)]
theorem qfk {n:Nat}{F G:Nat->Bool}(h:∀i,i<n->F i=G i):bs n F=bs n G:=Zo fun i hi=>by rw[h i (Y9.1 hi)]
theorem qi9 {u f g:Nat->Nat}{m n a b:Nat}(hu:PairBits u f g m)(hg:∀k,k<m->g k<n)(ha:a<n)(h:Reach u a b):b<n :=
 h (fun x=>x<n) ha fun x y _ hx hy=>by obtain⟨k,hk,-,rfl⟩:=(hu x hx y).1 hy;exact hg k hk
theorem q78 {u:Nat->Nat}{a b c:Nat}(h1:Reach u a b)(h2:Reach u b c):Reach u a c:=fun C h hs=>h2 C (h1 C h hs) hs
theorem q72 {u f g:Nat->Nat}{m:Nat}(h:IsRel u (pb f g m)):PairBits u f g m:=fun x hx y=>by rw[(h x hx).2 y,pb_iff]
section
variable {u q f g:Nat->Nat} {m n:Nat} {F:Nat->Bool}
theorem qgz (hn:n<=32)(hu:IsRel u (pb f g m))(hf:∀k,k<m->f k<n)(hg:∀k,k<m->g k<n)(hF:tabB n (rounds diag f g m n)=F){a b:Nat}:Le F n a b ↔ a<n/\Reach u a b:=by
 unfold Le
 rw[<- hF]
 refine⟨fun⟨h1,h2,h3⟩=>⟨h1,?_⟩,fun⟨h1,h2⟩=>?_⟩
 . rw[qo4 _ h2]at h3
   exact(q5g hn (q72 hu) hf hg h1).1 h3
 . have h3:=qi9 (q72 hu) hg h1 h2
   refine⟨h1,h3,?_⟩;rw[qo4 _ h3];exact(q5g hn (q72 hu) hf hg h1).2 h2
theorem rel_q (hn:n<=32)(hu:IsRel u (pb f g m))(hf:∀k,k<m->f k<n)(hg:∀k,k<m->g k<n)(hF:tabB n (rounds diag f g m n)=F)(hq:IsReach q (fun a b=>a<n/\Reach u a b)):IsRel q (part F n (n*n)):=fun a ha =>
 ⟨(hq a ha).1,fun b=>by rw[Zk,(hq a ha).2 b,qht,qgz hn hu hf hg hF]⟩
end
def SameOut (n:Nat)(F:Nat->Bool)(B:Nat)(e1 e2:Ending)(w1 w2:World):Prop :=
 (∃code:Int,e1=.returned (.tuple #[zeroL,J6 code])/\e2=.returned (.tuple #[zeroL,J6 code])) ∨
 (∃a1 a2 a3 c1 c2 c3 G1 G2 G3,∃bot top:Int,e1=.returned (.tuple #[.agg (Ji n a1 (n*n) c1 a2 c2 a3 c3 bot top),J6 0]) /\
  e2=.returned (.tuple #[.agg #[J6 n,.slice (some ⟨G1,0,none⟩) (n*n) (n*n),.slice (some ⟨G2,0,none⟩) (n*n) (n*n),.slice (some ⟨G3,0,none⟩) (n*n) (n*n),J6 bot,J6 top],J6 0]) /\
  Bools w1 a1 (n*n) F/\Ints w1 a2 (n*n) (JF F n)/\Ints w1 a3 (n*n) (MF F n)/\Blk w2 G1 4 (bs (n*n) F)/\Blk w2 G2 3 (is (n*n) (JF F n))/\Blk w2 G3 3 (is (n*n) (MF F n))/\B<=G1/\B<=G2/\B<=G3/\G1≠G2/\G1≠G3/\G2≠G3)
section
variable {n B:Nat} {F:Nat->Bool} {q d:Nat->Nat}
theorem qln {a b:Nat}(hb:b<n)(h:∀e,e<n->¬ isJoinP F n a b e):JF F n (a*n+b) = -1:=by
 have hd:(a*n+b) / n=a/\(a*n+b) % n=b:=by
  rw[Vv,Va _ _ (by omega),Z3 hb,Zr,Z2 hb];simp
 rw[JF,hd.1,hd.2,q8n fun c hc=>q3y (h c hc)]
theorem qlo {a b e:Nat}(hs:∀a b,Le F n a b->Le F n b a->a=b)(hb:b<n)(he:e<n)(h:isJoinP F n a b e):JF F n (a*n+b)=e:=by
 have hd:(a*n+b) / n=a/\(a*n+b) % n=b:=by
  rw[Vv,Va _ _ (by omega),Z3 hb,Zr,Z2 hb];simp
 rw[JF,hd.1,hd.2]
 rcases q5v (isJoin F n a b) n with ⟨c,hc,h1,h2⟩ | ⟨-,h2⟩
 . rw[h1,qgx hs hc he (q8y.1 h2) h]
 . have:=h2 e he
   rw[q61 h]at this;cases this
theorem qmi {a b:Nat}(hb:b<n)(h:∀e,e<n->¬ isMeetP F n a b e):MF F n (a*n+b) = -1:=by
 have hd:(a*n+b) / n=a/\(a*n+b) % n=b:=by
  rw[Vv,Va _ _ (by omega),Z3 hb,Zr,Z2 hb];simp
 rw[MF,hd.1,hd.2,q8n fun c hc=>q40 (h c hc)]
theorem qmj {a b e:Nat}(hs:∀a b,Le F n a b->Le F n b a->a=b)(hb:b<n)(he:e<n)(h:isMeetP F n a b e):MF F n (a*n+b)=e:=by
 have hd:(a*n+b) / n=a/\(a*n+b) % n=b:=by
  rw[Vv,Va _ _ (by omega),Z3 hb,Zr,Z2 hb];simp
 rw[MF,hd.1,hd.2]
 rcases q5v (isMeet F n a b) n with ⟨c,hc,h1,h2⟩ | ⟨-,h2⟩
 . rw[h1,qh5 hs hc he (q91.1 h2) h]
 . have:=h2 e he
   rw[q63 h]at this;cases this
theorem qil {Rl:Nat->Nat->Bool}{e1 e2:Ending}{w1 w2:World}(h1:1<=n)(hn:n<=32)(hq:IsRel q (part F n (n*n)))(hd:IsRel d (fun b a=>decide (a<n)&&part F n (n*n) a b))(hRl:∀a b,a<n->b<n->Rl a b=F (a*n+b))
 (hr:∀a,a<n->Le F n a a) (ht:∀a b e,Le F n a b->Le F n b e->Le F n a e) (hS:SpecOut n F e1 w1) (hL:LatOut n q d Rl B e2 w2):SameOut n F B e1 e2 w1 w2:=by
 have anti:¬ TwoW F n->∀a b,Le F n a b->Le F n b a->a=b:=fun h a b x y=>Classical.byContradiction fun e=>h ⟨a,b,x.1,y.1,e,x.2.2,y.2.2⟩
 have two1:(∃a,a<n/\¬ commonN (q a) (d a)=2 ^ a)->TwoW F n:=fun⟨a,ha,h⟩=>Classical.byContradiction fun hno=>h ((qoa hn hq hd hr ha).2 fun b x y=>anti hno a b x y)
 have two2:(∀a,a<n->commonN (q a) (d a)=2 ^ a)->¬ TwoW F n:=fun h ⟨a,b,ha,hb,hne,x,y⟩=>hne ((qoa hn hq hd hr ha).1 (h a ha) b ⟨ha,hb,x⟩ ⟨hb,ha,y⟩)
 have entJ:∀{a b:Nat} {v:Int},a<n->b<n->Entry q a b v->_:=fun ha hb h=>q8e hn hq ha hb h
 have entM:∀{a b:Nat} {v:Int},a<n->b<n->Entry d a b v->_:=fun ha hb h=>q8f hn hd ha hb h
 have noJ:(∃a b,a<n/\b<n/\Entry q a b (-1))->∃i,i<n*n/\JF F n i<0:=fun⟨a,b,ha,hb,h⟩=>by
  rcases entJ ha hb h with ⟨e,-,he,-⟩ | ⟨-,h⟩
  . omega
  . exact⟨a*n+b,idx_lt ha hb,by rw[qln hb h];omega⟩
 have noM:(∃a b,a<n/\b<n/\Entry d a b (-1))->∃i,i<n*n/\MF F n i<0:=fun⟨a,b,ha,hb,h⟩=>by
  rcases entM ha hb h with ⟨e,-,he,-⟩ | ⟨-,h⟩
  . omega
  . exact⟨a*n+b,idx_lt ha hb,by rw[qmi hb h];omega⟩
 have valJ:∀{F1:Nat->Int},¬ TwoW F n->(∀a,a<n->∀b,b<n->0<=F1 (a*n+b)/\Entry q a b (F1 (a*n+b)))->∀i,i<n*n->JF F n i=F1 i/\0<=F1 i/\∃e,e<n/\isJoinP F n (i / n) (i % n) e:=fun {F1} hno h i hi=>by
  obtain⟨ha,hb,he⟩:=qcv hi;obtain⟨h0,hE⟩:=h _ ha _ hb;rcases entJ ha hb hE with ⟨e,hen,hv,hj⟩ | ⟨hv,-⟩
  . have:=qlo (anti hno) hb hen hj
    rw[he]at this hv h0;exact⟨by rw[this,hv],h0,e,hen,hj⟩
  . omega
 have valM:∀{F2:Nat->Int},¬ TwoW F n->(∀a,a<n->∀b,b<n->0<=F2 (a*n+b)/\Entry d a b (F2 (a*n+b)))->∀i,i<n*n->MF F n i=F2 i/\0<=F2 i/\∃e,e<n/\isMeetP F n (i / n) (i % n) e:=fun {F2} hno h i hi=>by
  obtain⟨ha,hb,he⟩:=qcv hi;obtain⟨h0,hE⟩:=h _ ha _ hb;rcases entM ha hb hE with ⟨e,hen,hv,hj⟩ | ⟨hv,-⟩
  . have:=qmj (anti hno) hb hen hj
    rw[he]at this hv h0;exact⟨by rw[this,hv],h0,e,hen,hj⟩
  . omega
 rcases hL with ⟨l2,le⟩ | ⟨l2,l3,le⟩ | ⟨l2,l4,⟨F1,l3⟩,le⟩ | ⟨l2,G1,G2,G3,F1,F2,bot,top,le,b1,b2,b3,x1,x2,x3,y1,y2,y3,l3,l4,lb,lt⟩
 . rcases hS with ⟨-,se⟩ | ⟨s2,-⟩ | ⟨s2,-⟩ | ⟨s2,-⟩
   . exact .inl ⟨2,se,le⟩
   all_goals exact absurd (two1 l2) s2
 . rcases hS with ⟨s2,-⟩ | ⟨s2,s3,se⟩ | ⟨s2,s3,-⟩ | ⟨s2,s3,-⟩
   . exact absurd s2 (two2 l2)
   . exact .inl ⟨3,se,le⟩
   all_goals
    obtain⟨i,hi,h⟩:=noJ l3;have:=s3 i hi;omega
 . have vJ:=valJ (two2 l2) l3
   rcases hS with ⟨s2,-⟩ | ⟨s2,⟨i,hi,h⟩,se⟩ | ⟨s2,s3,s4,se⟩ | ⟨s2,s3,s4,-⟩
   . exact absurd s2 (two2 l2)
   . have:=vJ i hi;omega
   . exact .inl ⟨4,se,le⟩
   . obtain⟨i,hi,h⟩:=noM l4
     have:=s4 i hi;omega
 . have vJ:=valJ (two2 l2) l3
   have vM:=valM (two2 l2) l4;rcases hS with ⟨s2,-⟩ | ⟨s2,⟨i,hi,h⟩,se⟩ | ⟨s2,s3,⟨i,hi,h⟩,se⟩ | ⟨s2,s3,s4,a1,a2,a3,c1,c2,c3,se,k1,k2,k3⟩
   . exact absurd s2 (two2 l2)
   . have:=vJ i hi;omega
   . have:=vM i hi;omega
   . have hA:=anti s2
     have joins:∀a,a<n->∀b,b<n->∃e,e<n/\isJoinP F n a b e:=fun a ha b hb=>by
      obtain⟨-,-,e,he,hj⟩:=vJ _ (idx_lt ha hb);have hdm:(a*n+b) / n=a/\(a*n+b) % n=b:=by
       rw[Vv,Va _ _ (by omega),Z3 hb,Zr,Z2 hb];simp
      rw[hdm.1,hdm.2]at hj;exact⟨e,he,hj⟩
     have meets:∀a,a<n->∀b,b<n->∃e,e<n/\isMeetP F n a b e:=fun a ha b hb=>by
      obtain⟨-,-,e,he,hj⟩:=vM _ (idx_lt ha hb);have hdm:(a*n+b) / n=a/\(a*n+b) % n=b:=by
       rw[Vv,Va _ _ (by omega),Z3 hb,Zr,Z2 hb];simp
      rw[hdm.1,hdm.2]at hj;exact⟨e,he,hj⟩
     have hbot:lastN (belowAll F n n) n=bot:=by
      rcases bot_of hn hq lb with ⟨e,he,hv,hx⟩ | ⟨-,hx⟩
      . rw[hv]
        refine qlw (q3c.2 fun x h=>(hx x h).2.2) he fun c hc hp=>?_;have hp':=q3c.1 hp;exact hA c e ⟨hc,he,hp' e he⟩ (hx c hc)
      . obtain⟨e,he,h⟩:=ql8 h1 ht meets
        exact absurd h (hx e he)
     have htop:lastN (aboveAll F n n) n=top:=by
      rcases top_of hn hd lt with ⟨e,he,hv,hx⟩ | ⟨-,hx⟩
      . rw[hv]
        refine qlw (q3a.2 fun x h=>(hx x h).2.2) he fun c hc hp=>?_;have hp':=q3a.1 hp;exact hA c e (hx c hc) ⟨he,hc,hp' e he⟩
      . obtain⟨e,he,h⟩:=qla h1 ht joins
        exact absurd h (hx e he)
     rw[hbot,htop]at se;rw[qfk (G:=F) fun i hi=>by
      obtain⟨ha,hb,he⟩:=qcv hi;rw[tabB,hRl _ _ ha hb,he]]at b1
     rw[qgr (G:=JF F n) fun i hi=>(vJ i hi).1.symm]at b2;rw[qgr (G:=MF F n) fun i hi=>(vM i hi).1.symm]at b3;exact .inr ⟨a1,a2,a3,c1,c2,c3,G1,G2,G3,bot,top,se,le,k1,k2,k3,b1,b2,b3,x1,x2,x3,y1,y2,y3⟩
end
section
variable {F:Nat->Bool} {n:Nat}
theorem qhw {a b:Nat}(ha:a<n)(hb:b<n):a*n+b<n*n:=by
 have:(a+1)*n<=n*n:=Vd n (by omega)
 rw[Nat.add_mul]at this
 omega
theorem qe0 {a b:Nat}(hb:b<n):(a*n+b) / n=a:=by
 rw[Nat.mul_comm,Nat.mul_add_div (by omega),Z3 hb];rfl
theorem qe1 {a b:Nat}(hb:b<n):(a*n+b) % n=b:=by
 rw[Nat.mul_comm,Nat.mul_add_mod,Z2 hb]
theorem jf_is {a b:Nat}(ha:a<n)(hb:b<n)(hJ:∀i,i<n*n->0<=JF F n i):∃j:Nat,JF F n (a*n+b)=j/\j<n/\isJoinP F n a b j:=by
 have h:=hJ _ (qhw ha hb)
 unfold JF at h⊢
 rw[qe0 hb,qe1 hb]at h⊢
 rcases q5v (isJoin F n a b) n with ⟨c,hc,e,hp⟩ | ⟨e,-⟩
 . exact⟨c,e,hc,q8y.1 hp⟩
 . rw[e]at h;omega
theorem mf_is {a b:Nat}(ha:a<n)(hb:b<n)(hM:∀i,i<n*n->0<=MF F n i):∃j:Nat,MF F n (a*n+b)=j/\j<n/\isMeetP F n a b j:=by
 have h:=hM _ (qhw ha hb)
 unfold MF at h⊢
 rw[qe0 hb,qe1 hb]at h⊢
 rcases q5v (isMeet F n a b) n with ⟨c,hc,e,hp⟩ | ⟨e,-⟩
 . exact⟨c,e,hc,q91.1 hp⟩
 . rw[e]at h;omega
theorem q5e (h1:1<=n)(h32:n<=32)(hr:∀a,a<n->F (a*n+a)=true)(ht:∀a b c,a<n->b<n->c<n->F (a*n+b)=true->F (b*n+c)=true->F (a*n+c)=true)(hT:¬ TwoW F n)
 (hJ:∀i,i<n*n->0<=JF F n i) (hM:∀i,i<n*n->0<=MF F n i):Valid n (n*n) (n*n) (n*n) F (JF F n) (MF F n) (lastN (belowAll F n n) n) (lastN (aboveAll F n n) n):=by
 have anti:∀a b,a<n->b<n->F (a*n+b)=true->F (b*n+a)=true->a=b:=fun a b ha hb x y=>Classical.byContradiction fun h=>hT ⟨a,b,ha,hb,h,x,y⟩
 have low:∀k,k<=n->1<=k->∃c,c<n/\∀d,d<k->F (c*n+d)=true:=by
  intro k
  induction k with
  | zero=>intro _ h;omega
  | succ k ih =>
   intro hk _;by_cases h0:k=0
   . refine⟨0,by omega,fun d hd=>?_⟩
     obtain rfl:d=0:=(by omega);exact hr 0 (by omega)
   . obtain⟨c,hc,hd⟩:=ih (by omega) (by omega)
     obtain⟨j,-,hj,m1,m2,-⟩:=mf_is (F:=F) hc (show k<n by omega) hM;refine⟨j,hj,fun d hdk=>?_⟩;by_cases e:d=k
     . rw[e];exact m2
     . exact ht j c d hj hc (by omega) m1 (hd d (by omega))
 have high:∀k,k<=n->1<=k->∃c,c<n/\∀d,d<k->F (d*n+c)=true:=by
  intro k
  induction k with
  | zero=>intro _ h;omega
  | succ k ih =>
   intro hk _;by_cases h0:k=0
   . refine⟨0,by omega,fun d hd=>?_⟩
     obtain rfl:d=0:=(by omega);exact hr 0 (by omega)
   . obtain⟨c,hc,hd⟩:=ih (by omega) (by omega)
     obtain⟨j,-,hj,m1,m2,-⟩:=jf_is (F:=F) hc (show k<n by omega) hJ;refine⟨j,hj,fun d hdk=>?_⟩;by_cases e:d=k
     . rw[e];exact m2
     . exact ht d c j (by omega) hc hj (hd d (by omega)) m1
 obtain⟨bt,hbt,hb⟩:=low n (nR _) h1
 obtain⟨tp,htp,hp⟩:=high n (nR _) h1
 have e1:lastN (belowAll F n n) n=bt:=qlw (q3c.2 hb) hbt fun c hc h=>anti c bt hc hbt (q3c.1 h bt hbt) (hb c hc)
 have e2:lastN (aboveAll F n n) n=tp:=qlw (q3a.2 hp) htp fun c hc h=>anti c tp hc htp (hp c hc) (q3a.1 h tp htp)
 refine⟨n,bt,tp,rfl,h1,h32,rfl,rfl,rfl,e1,e2,hbt,htp,fun a ha=>⟨hr a ha,hb a ha,hp a ha,fun b hb=>⟨fun h=>h.1 (anti a b ha hb h.2.1 h.2.2),fun c hc x y=>ht a b c ha hb hc x y⟩⟩,fun a ha b hb=>?_⟩
 obtain⟨j,ej,hj,pj⟩:=jf_is (F:=F) ha hb hJ
 obtain⟨m,em,hm,pm⟩:=mf_is (F:=F) ha hb hM
 exact⟨j,m,ej,em,hj,hm,pj,pm⟩
end
end Go.Proofs.YtgojgjlninakjaaGreatDoor
namespace Go.Proofs.YtgojgjlninakjaaGreatDoor
open Go
structure LatP (N:Nat)(le:Nat->Nat->Prop)(jn:Nat->Nat->Nat)(bot:Nat):Prop where
 refl:∀a,a<N->le a a
 trans:∀a b c,a<N->b<N->c<N->le a b->le b c->le a c
 anti:∀a b,a<N->b<N->le a b->le b a->a=b
 bl:bot<N
 bot:∀a,a<N->le bot a
 jl:∀a b,a<N->b<N->jn a b<N
 j1:∀a b,a<N->b<N->le a (jn a b)
 j2:∀a b,a<N->b<N->le b (jn a b)
 j3:∀a b c,a<N->b<N->c<N->le a c->le b c->le (jn a b) c
section
variable {N:Nat} {le:Nat->Nat->Prop} {jn:Nat->Nat->Nat} {bot:Nat}
theorem LatP.fold_lt (L:LatP N le jn bot):∀(xs:List Nat) (a:Nat),a<N->(∀x,x∈xs->x<N)->xs.foldl jn a<N:=by
 intro xs
 induction xs with
 | nil=>intro a ha _;exact ha
 | cons x xs ih=>intro a ha h;exact ih (jn a x) (L.jl a x ha (h x Yq)) fun y hy=>h y (Yy _ hy)
theorem LatP.fold_ge (L:LatP N le jn bot):∀(xs:List Nat) (a:Nat),a<N->(∀x,x∈xs->x<N)->le a (xs.foldl jn a)/\∀x,x∈xs->le x (xs.foldl jn a):=by
 intro xs
 induction xs with
 | nil=>intro a ha _;exact⟨L.refl a ha,fun x hx=>by cases hx⟩
 | cons x xs ih =>
  intro a ha h;have hx:=h x Yq;have hj:=L.jl a x ha hx;have h':∀y,y∈xs->y<N:=fun y hy=>h y (Yy _ hy);obtain⟨i1,i2⟩:=ih (jn a x) hj h';have hl:=L.fold_lt xs (jn a x) hj h';refine⟨L.trans _ _ _ ha hj hl (L.j1 a x ha hx) i1,fun y hy=>?_⟩;rcases Zp.1 hy with rfl | hy
  . exact L.trans _ _ _ hx hj hl (L.j2 a y ha hx) i1
  . exact i2 y hy
theorem LatP.fold_le (L:LatP N le jn bot):∀(xs:List Nat) (a c:Nat),a<N->c<N->(∀x,x∈xs->x<N/\le x c)->le a c->le (xs.foldl jn a) c:=by
 intro xs
 induction xs with
 | nil=>intro a c _ _ _ h;exact h
 | cons x xs ih =>
  intro a c ha hc h hac;have hx:=h x Yq;exact ih (jn a x) c (L.jl a x ha hx.1) hc (fun y hy=>h y (Yy _ hy)) (L.j3 a x c ha hx.1 hc hac hx.2)
structure Sol (m:Fm)(N:Nat)(le:Nat->Nat->Prop)(f:Nat->Nat):Prop where
 lt:∀k,k<m.F.length->f k<N
 decl:∀k,k<m.F.length->0<=(fAt m k).lb->(f k:Int)=(fAt m k).lb
 up:∀k,k<m.F.length->(fAt m k).lb<0->∀j,j<m.F.length->anyR m j k=true->le (f j) (f k)
def Low (m:Fm)(N:Nat)(le:Nat->Nat->Prop)(f:Nat->Nat):Prop:=∀g,Sol m N le g->∀k,k<m.F.length->le (f k) (g k)
theorem qdc (L:LatP N le jn bot){m:Fm}{f g:Nat->Nat}(hf:Sol m N le f)(hg:Sol m N le g)(lf:Low m N le f)(lg:Low m N le g):∀k,k<m.F.length->f k=g k :=
 fun k hk=>L.anti _ _ (hf.lt k hk) (hg.lt k hk) (lf g hg k hk) (lg f hf k hk)
def startL (m:Fm)(bot k:Nat):Nat:=if (fAt m k).lb<0 then bot else (fAt m k).lb.toNat
theorem qeo (L:LatP N le jn bot){m:Fm}:Low m N le (startL m bot):=by
 intro g hg k hk
 unfold startL
 split
 . exact L.bot _ (hg.lt k hk)
 . rename_i h
   have:=hg.decl k hk (by omega);rw[show(fAt m k).lb.toNat=g k by omega];exact L.refl _ (hg.lt k hk)
theorem qib (L:LatP N le jn bot){m:Fm}{f:Nat->Nat}(hf:Low m N le f)(hl:∀k,k<m.F.length->f k<N){k:Nat}(hk:k<m.F.length)(ha:(fAt m k).lb<0)(a:Nat)(haN:a<N)(hal:∀g,Sol m N le g->le a (g k))(xs:List Nat)(hx:∀x,x∈xs->∃j,j<m.F.length/\anyR m j k=true/\x=f j) :
 ∀g,Sol m N le g->le (xs.foldl jn a) (g k):=by
 intro g hg
 refine L.fold_le xs a (g k) haN (hg.lt k hk) (fun x hxx=>?_) (hal g hg)
 obtain⟨j,hj,hr,rfl⟩:=hx x hxx
 exact⟨hl j hj,L.trans _ _ _ (hl j hj) (hg.lt j hj) (hg.lt k hk) (hf g hg j hj) (hg.up k hk ha j hj hr)⟩
end
theorem qbt {M M':Nat->Bool}:∀{n:Nat},(∀i,i<n->M i=true->M' i=true)->cntB M n<=cntB M' n:=by
 intro n
 induction n with
 | zero=>intro _;exact nR _
 | succ n ih =>
  intro h;rw[qbu,qbu];have:=ih fun i hi=>h i (by omega);have h2:=h n (by omega);cases e:M n
  . simp;split <;> omega
  . rw[h2 e];simp;exact this
theorem qkc {M M':Nat->Bool}{j:Nat}:∀{n:Nat},(∀i,i<n->M i=true->M' i=true)->j<n->M j=false->M' j=true->cntB M n<cntB M' n:=by
 intro n
 induction n with
 | zero=>intro _ h;omega
 | succ n ih =>
  intro h hj h1 h2;rw[qbu,qbu];by_cases e:j=n
  . subst e
    have:=qbt (M:=M) (M':=M') (n:=j) fun i hi=>h i (by omega);rw[h1,h2];simp;omega
  . have:=ih (fun i hi=>h i (by omega)) (by omega) h1 h2
    have h3:=h n (by omega);cases e2:M n
    . simp;split <;> omega
    . rw[h3 e2];simp;exact this
section
variable {N:Nat} {F:Nat->Nat->Bool} {jn:Nat->Nat->Nat} {bot:Nat}
def rkL (F:Nat->Nat->Bool)(N a:Nat):Nat:=cntB (fun b=>F b a) N
theorem rkL_le (F:Nat->Nat->Bool)(N a:Nat):rkL F N a<=N:=qkb _ _
theorem qid (L:LatP N (fun a b=>F a b=true) jn bot){a b:Nat}(ha:a<N)(hb:b<N)(h:F a b=true):rkL F N a<=rkL F N b:=qbt fun i hi hx=>L.trans i a b hi ha hb hx h
theorem rkL_lt (L:LatP N (fun a b=>F a b=true) jn bot){a b:Nat}(ha:a<N)(hb:b<N)(h:F a b=true)(hne:a≠b):rkL F N a<rkL F N b:=by
 refine qkc (j:=b) (fun i hi hx=>L.trans i a b hi ha hb hx h) hb ?_ (L.refl b hb)
 cases e:F b a
 . rfl
 . exact absurd (L.anti a b ha hb h e) hne
def potL (F:Nat->Nat->Bool)(N n:Nat)(f:Nat->Nat):Nat:=((List.range n).map fun k=>rkL F N (f k)).sum
theorem pot_le (F:Nat->Nat->Bool)(N n:Nat)(f:Nat->Nat):potL F N n f<=n*N:=by
 unfold potL
 induction n with
 | zero=>simp
 | succ n ih =>
  rw[Zh];simp only[Zc,Oe,Z5,Oc,Oh,O0,Zn];have:=rkL_le F N (f n);rw[Zx];omega
end
theorem qo0 {n:Nat}{f g:Nat->Nat}(h:∀j,j<n->f j<=g j):((List.range n).map f).sum<=((List.range n).map g).sum:=by
 induction n with
 | zero=>exact nR _
 | succ n ih =>
  rw[Zh];simp only[Zc,Oe,Z5,Oc,Oh,O0,Zn];have:=ih fun j hj=>h j (by omega);have:=h n (by omega);omega
theorem qo1 {n:Nat}{f g:Nat->Nat}(h:∀j,j<n->f j<=g j){x:Nat}(hx:x<n)(hlt:f x<g x):((List.range n).map f).sum<((List.range n).map g).sum:=by
 induction n with
 | zero=>omega
 | succ n ih =>
  rw[Zh];simp only[Zc,Oe,Z5,Oc,Oh,O0,Zn];by_cases e:x=n
  . subst e
    have:=qo0 (n:=x) fun j hj=>h j (by omega);omega
  . have:=ih (fun j hj=>h j (by omega)) (by omega)
    have:=h n (by omega);omega
section
variable {N:Nat} {F:Nat->Nat->Bool} {jn:Nat->Nat->Nat} {bot:Nat}
theorem qhy (L:LatP N (fun a b=>F a b=true) jn bot){n:Nat}{f g:Nat->Nat}(hf:∀k,k<n->f k<N)(hg:∀k,k<n->g k<N)(h:∀k,k<n->F (f k) (g k)=true):potL F N n f<=potL F N n g:=qo0 fun k hk=>qid L (hf k hk) (hg k hk) (h k hk)
theorem pot_lt (L:LatP N (fun a b=>F a b=true) jn bot){n:Nat}{f g:Nat->Nat}(hf:∀k,k<n->f k<N)(hg:∀k,k<n->g k<N)(h:∀k,k<n->F (f k) (g k)=true){x:Nat}(hx:x<n)(hne:f x≠g x):potL F N n f<potL F N n g :=
 qo1 (fun k hk=>qid L (hf k hk) (hg k hk) (h k hk)) hx (rkL_lt L (hf x hx) (hg x hx) (h x hx) hne)
end
def rdA (m:Fm)(k:Nat):List Nat:=[(fAt m k).is,(fAt m k).wh,(fAt m k).va,(fAt m k).mu].flatMap (rdL (fNames m))
theorem qmf {m:Fm}(h:VfA m){j k:Nat}(hj:j<m.F.length)(hk:k<m.F.length):j∈rdA m k ↔ anyR m j k=true:=by
 have hj':j<(fNames m).length:=by rw[q8k];exact hj
 have hkn:=h.knw hk
 unfold rdA anyR fedB watB
 simp only[Zu,List.flatMap_nil,Ou,Ze,Zj]
 rw[qmg h.nod hkn.1 hj',qmg h.nod hkn.2.1 hj',qmg h.nod hkn.2.2.1 hj',qmg h.nod hkn.2.2.2 hj',q8j hj]
 exact⟨fun h=>h.elim (fun h=>.inl (.inl h)) fun h=>h.elim (fun h=>.inl (.inr h)) fun h=>h.elim (fun h=>.inr (.inl h)) fun h=>.inr (.inr h),fun h=>h.elim (fun h=>h.elim .inl fun h=>.inr (.inl h)) fun h=>h.elim (fun h=>.inr (.inr (.inl h))) fun h=>.inr (.inr (.inr h))⟩
theorem rdA_lt {m:Fm}(h:VfA m){k:Nat}(hk:k<m.F.length):∀j,j∈rdA m k->j<m.F.length:=by
 intro j hj
 have hkn:=h.knw hk
 unfold rdA at hj
 simp only[Zu,List.flatMap_nil,Ou,Ze]at hj
 rw[<- q8k m]
 rcases hj with hj | hj | hj | hj
 . exact rdL_lt hkn.1 j hj
 . exact rdL_lt hkn.2.1 j hj
 . exact rdL_lt hkn.2.2.1 j hj
 . exact rdL_lt hkn.2.2.2 j hj
theorem declared {m:Fm}(h:VfA m){k:Nat}(hk:k<m.F.length):-1<=(fAt m k).lb/\(fAt m k).lb<m.L.length:=by
 have:=(q5t _ _ _).1 (h.fi _ (Ye hk))
 rw[qku hk]
 exact⟨this.l1,this.l2⟩
structure Way (m:Fm)(N:Nat)(le:Nat->Nat->Prop)(f:Nat->Nat):Prop where
 low:Low m N le f
 lt:∀k,k<m.F.length->f k<N
 decl:∀k,k<m.F.length->0<=(fAt m k).lb->(f k:Int)=(fAt m k).lb
section
variable {N:Nat} {le:Nat->Nat->Prop} {jn:Nat->Nat->Nat} {bot:Nat}
theorem qfa (L:LatP N le jn bot){m:Fm}(hv:VfA m)(hN:m.L.length=N):Way m N le (startL m bot):=by
 refine⟨qeo L,fun k hk=>?_,fun k hk h0=>?_⟩
 . unfold startL
   have:=declared hv hk;split
   . exact L.bl
   . omega
 . unfold startL
   rw[Yn (by omega)];omega
theorem Way.rise (L:LatP N le jn bot){m:Fm}{f:Nat->Nat}(hf:Way m N le f){k:Nat}(hk:k<m.F.length)(ha:(fAt m k).lb<0)(a:Nat)(haN:a<N)(hal:∀g,Sol m N le g->le a (g k))(xs:List Nat)(hx:∀x,x∈xs->∃j,j<m.F.length/\anyR m j k=true/\x=f j):Way m N le (up f k (xs.foldl jn a)):=by
 have hlt:xs.foldl jn a<N:=L.fold_lt xs a haN fun x h=>by
  obtain⟨j,hj,-,rfl⟩:=hx x h;exact hf.lt j hj
 refine⟨fun g hg i hi=>?_,fun i hi=>?_,fun i hi h0=>?_⟩
 . by_cases e:i=k
   . subst e;rw[up_at];exact qib L hf.low hf.lt hk ha a haN hal xs hx g hg
   . rw[up_ne _ _ e];exact hf.low g hg i hi
 . by_cases e:i=k
   . subst e;rw[up_at];exact hlt
   . rw[up_ne _ _ e];exact hf.lt i hi
 . by_cases e:i=k
   . subst e;omega
   . rw[up_ne _ _ e];exact hf.decl i hi h0
theorem Way.sol {m:Fm}{f:Nat->Nat}(hf:Way m N le f)(h:∀k,k<m.F.length->(fAt m k).lb<0->∀j,j<m.F.length->anyR m j k=true->le (f j) (f k)):Sol m N le f:=⟨hf.lt,hf.decl,h⟩
end
section
variable {N:Nat} {le:Nat->Nat->Prop} {jn:Nat->Nat->Nat} {bot:Nat}
def rdO (m:Fm)(k q:Nat):List Nat:=(List.range q).filter fun j=>anyR m j k
theorem qi5 (m:Fm)(k q:Nat):rdO m k (q+1)=rdO m k q++if anyR m q k=true then [q] else []:=by
 unfold rdO
 rw[Zh,List.filter_append]
 congr 1
 cases h:anyR m q k <;> simp[h]
theorem qmh {m:Fm}{k q j:Nat}:j∈rdO m k q ↔ j<q/\anyR m j k=true:=by
 unfold rdO
 rw[List.mem_filter,Y9]
def jac (m:Fm)(jn:Nat->Nat->Nat)(f:Nat->Nat)(k:Nat):Nat:=if (fAt m k).lb<0 then ((rdO m k m.F.length).map f).foldl jn (f k) else f k
theorem rdO_lt {m:Fm}{f:Nat->Nat}(h:∀k,k<m.F.length->f k<N)(k q:Nat)(hq:q<=m.F.length):∀x,x∈(rdO m k q).map f->x<N:=by
 intro x hx
 obtain⟨j,hj,rfl⟩:=Y3.1 hx
 exact h j (by have:=(qmh.1 hj).1;omega)
theorem Way.jac (L:LatP N le jn bot){m:Fm}{f:Nat->Nat}(h:Way m N le f):Way m N le (jac m jn f):=by
 refine⟨fun g hg k hk=>?_,fun k hk=>?_,fun k hk h0=>?_⟩
 . unfold Proofs.YtgojgjlninakjaaGreatDoor.jac
   split
   . rename_i ha
     refine qib L h.low h.lt hk ha (f k) (h.lt k hk) (fun g hg=>h.low g hg k hk) _ (fun x hx=>?_) g hg;obtain⟨j,hj,rfl⟩:=Y3.1 hx;exact⟨j,(qmh.1 hj).1,(qmh.1 hj).2,rfl⟩
   . exact h.low g hg k hk
 . unfold Proofs.YtgojgjlninakjaaGreatDoor.jac
   split
   . exact L.fold_lt _ _ (h.lt k hk) (rdO_lt h.lt k _ (nR _))
   . exact h.lt k hk
 . unfold Proofs.YtgojgjlninakjaaGreatDoor.jac
   rw[Yn (by omega)];exact h.decl k hk h0
theorem jac_ge (L:LatP N le jn bot){m:Fm}{f:Nat->Nat}(h:Way m N le f):∀k,k<m.F.length->le (f k) (jac m jn f k):=fun k hk=>by
 unfold jac
 split
 . exact(L.fold_ge _ _ (h.lt k hk) (rdO_lt h.lt k _ (nR _))).1
 . exact L.refl _ (h.lt k hk)
theorem qlm (L:LatP N le jn bot){m:Fm}{f:Nat->Nat}(h:Way m N le f)(he:∀k,k<m.F.length->jac m jn f k=f k):Sol m N le f:=h.sol fun k hk ha j hj hr=>by
 have:=he k hk
 unfold jac at this
 rw[Yv ha]at this
 rw[<- this]
 exact(L.fold_ge _ _ (h.lt k hk) (rdO_lt h.lt k _ (nR _))).2 _ (Y3.2 ⟨j,qmh.2 ⟨hj,hr⟩,rfl⟩)
def rdV (m:Fm)(jn:Nat->Nat->Nat)(bot:Nat)(f:Nat->Nat)(k:Nat):Nat:=((rdA m k).map f).foldl jn bot
theorem rdV_lt (L:LatP N le jn bot){m:Fm}(hv:VfA m){f:Nat->Nat}(h:∀k,k<m.F.length->f k<N){k:Nat}(hk:k<m.F.length):(∀x,x∈(rdA m k).map f->x<N)/\rdV m jn bot f k<N:=by
 have hx:∀x,x∈(rdA m k).map f->x<N:=fun x hx=>by
  obtain⟨j,hj,rfl⟩:=Y3.1 hx;exact h j (rdA_lt hv hk j hj)
 exact⟨hx,L.fold_lt _ _ L.bl hx⟩
def Asc (m:Fm)(le:Nat->Nat->Prop)(jn:Nat->Nat->Nat)(bot:Nat)(f:Nat->Nat):Prop:=∀k,k<m.F.length->(fAt m k).lb<0->le (f k) (rdV m jn bot f k)
theorem qi6 (L:LatP N le jn bot){m:Fm}(hv:VfA m){f g:Nat->Nat}(hf:∀k,k<m.F.length->f k<N)(hg:∀k,k<m.F.length->g k<N)(h:∀k,k<m.F.length->le (f k) (g k)){k:Nat}(hk:k<m.F.length):le (rdV m jn bot f k) (rdV m jn bot g k):=by
 have h1:=rdV_lt L hv hg hk
 refine L.fold_le _ _ _ L.bl h1.2 (fun x hx=>?_) (L.bot _ h1.2)
 obtain⟨j,hj,rfl⟩:=Y3.1 hx
 have hjn:=rdA_lt hv hk j hj
 refine⟨hf j hjn,L.trans _ _ _ (hf j hjn) (hg j hjn) h1.2 (h j hjn) ?_⟩
 exact(L.fold_ge _ _ L.bl h1.1).2 _ (Y3.2 ⟨j,hj,rfl⟩)
theorem qbd (L:LatP N le jn bot){m:Fm}(hv:VfA m)(hN:m.L.length=N):Asc m le jn bot (startL m bot):=fun k hk ha=>by
 rw[show startL m bot k=bot by unfold startL;rw[Yv ha]]
 exact L.bot _ (rdV_lt L hv (qfa L hv hN).lt hk).2
theorem ql6 (L:LatP N le jn bot){m:Fm}(hv:VfA m){f:Nat->Nat}(hw:Way m N le f)(ha:Asc m le jn bot f){k:Nat}(hk:k<m.F.length)(hau:(fAt m k).lb<0):Way m N le (up f k (rdV m jn bot f k))/\Asc m le jn bot (up f k (rdV m jn bot f k))/\∀i,i<m.F.length->le (f i) (up f k (rdV m jn bot f k) i):=by
 have hlt:=(rdV_lt L hv hw.lt hk).2
 have hw':Way m N le (up f k (rdV m jn bot f k)):=hw.rise L hk hau bot L.bl (fun g hg=>L.bot _ (hg.lt k hk)) _ fun x hx=>by
  obtain⟨j,hj,rfl⟩:=Y3.1 hx;exact⟨j,rdA_lt hv hk j hj,(qmf hv (rdA_lt hv hk j hj) hk).1 hj,rfl⟩
 have hge:∀i,i<m.F.length->le (f i) (up f k (rdV m jn bot f k) i):=fun i hi=>by
  by_cases e:i=k
  . subst e;rw[up_at];exact ha i hi hau
  . rw[up_ne _ _ e];exact L.refl _ (hw.lt i hi)
 refine⟨hw',fun i hi hai=>?_,hge⟩
 have hm:=qi6 L hv hw.lt hw'.lt hge hi
 have hli:=(rdV_lt L hv hw'.lt hi).2
 have hlf:=(rdV_lt L hv hw.lt hi).2
 by_cases e:i=k
 . subst e;rw[up_at];exact hm
 . rw[up_ne _ _ e];exact L.trans _ _ _ (hw.lt i hi) hlf hli (ha i hi hai) hm
theorem gs_sol (L:LatP N le jn bot){m:Fm}(hv:VfA m){f:Nat->Nat}(hw:Way m N le f)(he:∀k,k<m.F.length->(fAt m k).lb<0->rdV m jn bot f k=f k):Sol m N le f:=hw.sol fun k hk ha j hj hr=>by
 rw[<- he k hk ha]
 exact(L.fold_ge _ _ L.bl (rdV_lt L hv hw.lt hk).1).2 _ (Y3.2 ⟨j,(qmf hv hj hk).2 hr,rfl⟩)
end
end Go.Proofs.YtgojgjlninakjaaGreatDoor
namespace Go.Proofs.YtgojgjlninakjaaGreatDoor
open Go Go.RowKit
theorem q2q (m:Fm)(A:MA)(j k:Nat)(w:World)(hj:j<m.F.length)(hk:k<m.F.length)(hf:FitM m)(ha:MSl w m A) :
 Calls Tryz.prog 139 #[mV m A,J6 j,J6 k] w fun r w'=>r=.returned (.bool (watB m j k))/\Below w.heap.size w w':=by
 obtain⟨al,alc,ap,apc,ar,arc,af,afc,afa⟩:=A
 unfold mV
 dsimp only
 have HK:=h_ (Blk.new w 36 (#[.slice al m.L.length alc,.slice ap m.P.length apc,.slice ar m.R.length arc,.slice af m.F.length afc]))
 have HB:=h_ ((bR w.heap.size w).alloc (nR _) (.cells (#[.slice al m.L.length alc,.slice ap m.P.length apc,.slice ar m.R.length arc,.slice af m.F.length afc]) 36))
 obtain⟨W0,hW0⟩:=Nq (w.alloc (.cells (#[.slice al m.L.length alc,.slice ap m.P.length apc,.slice ar m.R.length arc,.slice af m.F.length afc]) 36))
 rw[hW0]at HK HB
 have HS:=h_ (ha.mono HB.u)
 have hj':(j:Int)<m.F.length:=by omega
 have hk':(k:Int)<m.F.length:=by omega
 have hfl:=hf.fl
 have HE:Hi (watB m j k=(rdsN m.F[k].va m.F[j].nm||rdsN m.F[k].mu m.F[j].nm)):=h_ (by unfold watB;rw[qku hj,qku hk])
 have HI:=h_ (hf.f _ (Ye hk))
 clear ha hf
 obtain⟨b,o,e1,⟨-,z0,-⟩,-⟩:=HS.u.f j hj
 obtain⟨b',o',e2,⟨hbl,-,-,-,-,-,-,x4,-,x5⟩,hsl⟩:=HS.u.f k hk
 dsimp only at e1 e2 x4 x5 hsl
 subst e1
 cases e2
 have HSl:=h_ hsl
 clear hsl
 generalize m.F[j].nm=nm at *
 generalize m.F[k]=f at *
 generalize afa k=fa at *
 obtain⟨ab,abc,ai,aic,ah,ahc,av,avc,au,auc⟩:=fa
 dsimp only at x4 x5
 have HC1:=h_ (q6i av avc f.va nm W0 HI.u.vl HSl.u.v)
 obtain⟨y0,y1,y2,y3⟩:=quad HK.u
 generalize watB m j k=q at *
 go_enter Tryz.func139,Tryz.ntmps139
 go_wp2_with fail
 try rw[hW0]
 refine HC1.u.mono ?_
 rintro r W1 ⟨rfl,hb⟩
 have hx5:=(hb.cell (p:=⟨b,o+k*9+8,none⟩) hbl).trans x5
 replace HK:=mB HK hb;replace HB:=mT HB hb;replace HSl:=h_ (HSl.u.mono hb)
 clear hb hW0 y0 y1 y2 y3 z0 x4 x5 HC1
 obtain⟨y0,y1,y2,y3⟩:=quad HK.u
 cases hr:rdsN f.va nm
 . have HC2:=h_ (q6i au auc f.mu nm W1 HI.u.ul HSl.u.u)
   have HX:Hi (q=rdsN f.mu nm):=h_ (by rw[HE.u,hr];rfl);clear hr;go_wp2_with fail;refine HC2.u.mono ?_;rintro r W2 ⟨rfl,hb⟩;replace HB:=mT HB hb;clear hb;go_wp2_with fail;go_ret;exact⟨qia HX.u.symm,HB.u⟩
 . have HX:Hi (q=true):=h_ (by rw[HE.u,hr];rfl)
   clear hr;go_wp2_with fail;go_ret;exact⟨qia HX.u.symm,HB.u⟩
theorem qd8 (m:Fm)(A:MA)(j k:Nat)(w:World)(hj:j<m.F.length)(hk:k<m.F.length)(hf:FitM m)(ha:MSl w m A) :
 Calls Tryz.prog 108 #[mV m A,J6 j,J6 k] w fun r w'=>r=.returned (.bool (anyR m j k))/\Below w.heap.size w w':=by
 have HC1:=h_ fun W (hs:MSl W m A)=>q6f m A j k W hj hk hf hs
 have HC2:=h_ fun W (hs:MSl W m A)=>q2q m A j k W hj hk hf hs
 obtain⟨al,alc,ap,apc,ar,arc,af,afc,afa⟩:=A
 unfold mV at HC1 HC2⊢
 dsimp only at HC1 HC2⊢
 have HK:=h_ (Blk.new w 36 (#[.slice al m.L.length alc,.slice ap m.P.length apc,.slice ar m.R.length arc,.slice af m.F.length afc]))
 have HB:=h_ ((bR w.heap.size w).alloc (nR _) (.cells (#[.slice al m.L.length alc,.slice ap m.P.length apc,.slice ar m.R.length arc,.slice af m.F.length afc]) 36))
 obtain⟨W0,hW0⟩:=Nq (w.alloc (.cells (#[.slice al m.L.length alc,.slice ap m.P.length apc,.slice ar m.R.length arc,.slice af m.F.length afc]) 36))
 rw[hW0]at HK HB
 have HS:=h_ (ha.mono HB.u)
 have HE:Hi (anyR m j k=(fedB m j k||watB m j k)):=h_ rfl
 generalize anyR m j k=q at *
 clear ha hf
 obtain⟨y0,y1,y2,y3⟩:=quad HK.u
 go_enter Tryz.func108,Tryz.ntmps108
 go_wp2_with fail
 try rw[hW0]
 refine(HC1.u W0 HS.u).mono ?_
 rintro r W1 ⟨rfl,hb⟩
 replace HK:=mB HK hb;replace HB:=mT HB hb;replace HS:=h_ (HS.u.mono hb)
 clear hb hW0 y0 y1 y2 y3 HC1
 obtain⟨y0,y1,y2,y3⟩:=quad HK.u
 cases hr:fedB m j k
 . have HX:Hi (q=watB m j k):=h_ (by rw[HE.u,hr];rfl)
   clear hr;go_wp2_with fail;refine(HC2.u W1 HS.u).mono ?_;rintro r W2 ⟨rfl,hb⟩;replace HB:=mT HB hb;clear hb;go_wp2_with fail;go_ret;exact⟨qia HX.u.symm,HB.u⟩
 . have HX:Hi (q=true):=h_ (by rw[HE.u,hr];rfl)
   clear hr;go_wp2_with fail;go_ret;exact⟨qia HX.u.symm,HB.u⟩
end Go.Proofs.YtgojgjlninakjaaGreatDoor
