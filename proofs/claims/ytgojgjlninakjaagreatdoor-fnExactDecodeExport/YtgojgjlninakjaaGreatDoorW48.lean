import Derived.Test.YtgojgjlninakjaaGreatDoorW46
set_option maxRecDepth 100000
set_option maxHeartbeats 64000000
namespace Go.Proofs.YtgojgjlninakjaaGreatDoor
open Go Go.RowKit
theorem Shet.at {m:Fm}{A:MA}{n:Nat}{F:Nat->Bool}{f:Nat->Nat}{S:SF}{WD:World}{Sh:Nat}{Bs:Nat->Nat}{e:Nat->Cx}{K:Nat}{u:Value}{pl:Nat}{W:World}(h:Shet m A n F f S WD Sh Bs e K u pl W){k:Nat}(hk:k<K):∃q cp,u=.slice (some ⟨q,0,none⟩) K cp/\W.cell? ⟨q,k,none⟩=some (ifV (inpB (fAt m k)) (Bs k))/\q≠Bs k:=by
 rcases h.row.2 with ⟨-,h0⟩ | ⟨q,cap,cur,rfl,-,hq,-,-,hs,ht⟩
 . omega
 . refine⟨q,cap,rfl,?_,fun e=>?_⟩
   . have e2:=qll (m:=m) (Bs:=Bs) hk
     rw[<- ht,On (by omega)]at e2;simp only[World.cell?,hq];simpa using e2
   . exact ne_ty (h.bx k hk).2 hq (ctT_ne _).1 e.symm
theorem Shet.slice {m:Fm}{A:MA}{n:Nat}{F:Nat->Bool}{f:Nat->Nat}{S:SF}{WD:World}{Sh:Nat}{Bs:Nat->Nat}{e:Nat->Cx}{K:Nat}{u:Value}{pl:Nat}{W:World}(h:Shet m A n F f S WD Sh Bs e K u pl W):∃a cp,u=.slice a K cp:=by
 rcases h.row.2 with ⟨e,h0⟩ | ⟨q,cap,cur,e,-⟩
 . exact⟨none,0,by rw[e,h0]⟩
 . exact⟨_,_,e⟩
theorem qgj (p:Option Addr)(w:World):Calls Tryz.prog 314 #[.pointer p] w fun x w'=>x=.returned (.pointer p)/\w'=w:=by
 go_enter Tryz.func314,Tryz.ntmps314
 go_wp2_with fail
 go_ret
 exact⟨rfl,rfl⟩
theorem head_m (i:Bool)(B fuel:Nat)(hf:0<fuel)(W:World):(method fuel (ctP i) (J9 B 0) "loop.example/s0011/impl.head").run Tryz.prog W=.ok (314,J9 B 0) W:=by
 cases fuel with
 | zero=>omega
 | succ d=>cases i <;> kernel_rfl
theorem q3s (m:Fm)(A:MA)(n:Nat)(F:Nat->Bool)(f:Nat->Nat)(S:SF)(WD:World)(Sh:Nat)(Bs:Nat->Nat)(u:Value)(pl:Nat)(k:Int)(e:Nat->Cx)(w:World)(hX:Shet m A n F f S WD Sh Bs e m.F.length u pl w) :
 Calls Tryz.prog 127 #[J9 Sh 0,J6 k] w fun x w'=>x=.returned (.bool (decide (0<=k/\k<m.F.length)))/\w'=w:=by
 obtain⟨ua,ucp,rfl⟩:=hX.slice
 have y12:w.cell? ⟨Sh,12,none⟩=some (.slice ua m.F.length ucp):=hX.blk.cell 12
 clear hX
 by_cases h0:0<=k
 . by_cases h1:k<m.F.length
   . rw[Yj ⟨h0,h1⟩]
     go_enter Tryz.func127,Tryz.ntmps127;go_wp2_with fail;go_ret;exact⟨rfl,rfl⟩
   . rw[Yb (fun h=>h1 h.2)]
     go_enter Tryz.func127,Tryz.ntmps127;go_wp2_with fail;go_ret;exact⟨rfl,rfl⟩
 . rw[Yb (fun h=>h0 h.1)]
   go_enter Tryz.func127,Tryz.ntmps127;go_wp2_with fail;go_ret;exact⟨rfl,rfl⟩
theorem threeC {w:World}{b:Nat}{t:TypeId}{v0 v1 v2:Value}(h:Blk w b t [v0,v1,v2]):w.cell? ⟨b,0,none⟩=some v0/\w.cell? ⟨b,1,none⟩=some v1/\w.cell? ⟨b,2,none⟩=some v2:=⟨h.cell 0,h.cell 1,h.cell 2⟩
theorem qg6 (i:Bool)(c:Cx)(f:Fl)(A:FA)(B:Nat)(v:Vx)(w:World)(hs:v.s.size<=9223372036854775807)(hB:Blk w B (ctT i) (ctC i c f A)) :
 Calls Tryz.prog 128 #[J9 B 0,.agg (Jk v.k v.n v.s)] w fun x w'=>x=.returned (.bool (fitB f v))/\Below w.heap.size w w':=by
 have hV0:=Blk.new w 50 (Jk v.k v.n v.s)
 have hB0:=(bR w.heap.size w).alloc (nR _) (.cells (Jk v.k v.n v.s) 50)
 obtain⟨W0,hW0⟩:=Nq (w.alloc (.cells (Jk v.k v.n v.s) 50))
 rw[hW0]at hV0 hB0
 have HV:=h_ hV0;have HB:=h_ hB0;have HH:=h_ (hB.mono hB0 hB.lt)
 have HC:=h_ (q1m v.k v.n v.s W0.drew hs)
 clear hB hV0 hB0
 go_enter Tryz.func128,Tryz.ntmps128
 go_wp2_with fail
 try rw[hW0]
 clear hW0
 refine wp_region_held_drew (S:=fun w'=>Blk w' w.heap.size 50 [J6 v.k,J6 v.n,.string v.s]/\Blk w' B (ctT i) (ctC i c f A)) (by kernel_rfl) ⟨HV.u,HH.u⟩ (fun zz=>?_)
 refine tj 0 5 (J9 w.heap.size 0) zz ?_
 refine tj 1 6 (J6 v.k) zz ?_ (hy:=fun w hS=>by have q0:=(threeC hS.1).1;simp[execOp,go_sem,q0])
 simp only[sX,sY,sZ]
 have HF:Hi (fitB f v=((decide (v.k=0)||decide (v.k=f.ty))&&okVal v.k v.n v.s)):=h_ (Bool.and_comm _ _)
 by_cases hg:v.k=0∨v.k=f.ty
 . have HF2:Hi (fitB f v=okVal v.k v.n v.s):=h_ (by
    rw[HF.u];rcases hg with h | h
    . rw[Yj h,Bool.true_or,Y5]
    . rw[Yj h,Bool.or_true,Y5])
   by_cases h0:v.k=0
   case' pos =>
    have h0':(v.k==0)=true:=(by simp[h0]);refine tj 2 7 (.bool true) zz ?_ (hy:=fun w hS=>by simp[execOp,go_sem,h0']);refine tj 3 8 (.bool true) zz ?_;refine tn 4 9 zz ?_;refine tn 5 10 zz ?_;simp only[sX,sY,sZ];refine tn 6 11 zz ?_;refine tn 7 12 zz ?_;refine tn 8 13 zz ?_;refine tn 9 14 zz ?_;simp only[sX,sY,sZ];refine tn 10 15 zz ?_;refine tn 11 16 zz ?_;refine tj 12 17 (.bool true) zz ?_;simp only[sX,sY,sZ]
   case' neg =>
    have h0':(v.k==0)=false:=(by simpa using h0);have h1':(v.k==f.ty)=true:=by
     rcases hg with h | h
     . exact absurd h h0
     . simp[h]
    refine tj 2 7 (.bool false) zz ?_ (hy:=fun w hS=>by simp[execOp,go_sem,h0']);refine tj 3 8 (.bool false) zz ?_;refine tj 4 9 (J9 w.heap.size 0) zz ?_;refine tj 5 10 (J6 v.k) zz ?_ (hy:=fun w hS=>by have q0:=(threeC hS.1).1;simp[execOp,go_sem,q0]);simp only[sX,sY,sZ];refine tj 6 11 (J9 B 0) zz ?_;refine tj 7 12 (J9 B 0) zz ?_;refine tj 8 13 (J9 B 6) zz ?_;refine tj 9 14 (J9 B 7) zz ?_;simp only[sX,sY,sZ];refine tj 10 15 (J6 f.ty) zz ?_ (hy:=fun w hS=>by have q0:w.cell? ⟨B,7,none⟩=some (J6 f.ty):=(hS.2.cell 7).trans rfl;simp[execOp,go_sem,q0]);refine tj 11 16 (.bool true) zz ?_ (hy:=fun w hS=>by simp[execOp,go_sem,h1']);refine tj 12 17 (.bool true) zz ?_;simp only[sX,sY,sZ]
   all_goals
    refine tj 13 18 (.bool true) zz ?_;refine tj 14 19 (.agg (Jk v.k v.n v.s)) zz ?_ (hy:=fun w hS=>by obtain⟨q0,q1,q2⟩:=threeC hS.1;simp[execOp,go_sem,q0,q1,q2]);simp only[sX,sY,sZ];refine callY (i:=15) (f:=163) (args:=#[.agg (Jk v.k v.n v.s)]) (R:=fun u wz=>u=.bool (okVal v.k v.n v.s)/\Below W0.heap.size W0 wz) 20 rfl rfl (by rfl) (by kernel_rfl) (by simp[execOp,go_sem]) (HC.u.mono fun e w6 ⟨he,hb⟩=>⟨_,he,rfl,q29 hb⟩) ?_;rintro u W1 ⟨rfl,hb⟩;replace zz:Blk W1 w.heap.size 50 [J6 v.k,J6 v.n,.string v.s]/\Blk W1 B (ctT i) (ctC i c f A):=⟨HV.u.mono hb HV.u.lt,HH.u.mono hb HH.u.lt⟩;have HB9:=mT HB hb;refine⟨zz,?_⟩;simp only[sX,sY,sZ];refine tj 16 21 (.bool (okVal v.k v.n v.s)) zz ?_;refine tj 17 4 (.bool (okVal v.k v.n v.s)) zz ?_;simp only[sX,sY,sZ];refine wpAnyH_done (by kernel_rfl) ?_ _;clear zz hb;go_wp2_with fail;go_ret;rw[HF2.u];exact⟨rfl,HB9.u⟩
 . have h0':(v.k==0)=false:=by simpa using fun h=>hg (.inl h)
   have h1':(v.k==f.ty)=false:=by simpa using fun h=>hg (.inr h)
   rw[Yb (fun h=>hg (.inl h)),Yb (fun h=>hg (.inr h))]at HF;refine tj 2 7 (.bool false) zz ?_ (hy:=fun w hS=>by simp[execOp,go_sem,h0']);refine tj 3 8 (.bool false) zz ?_;refine tj 4 9 (J9 w.heap.size 0) zz ?_;refine tj 5 10 (J6 v.k) zz ?_ (hy:=fun w hS=>by have q0:=(threeC hS.1).1;simp[execOp,go_sem,q0]);simp only[sX,sY,sZ];refine tj 6 11 (J9 B 0) zz ?_;refine tj 7 12 (J9 B 0) zz ?_;refine tj 8 13 (J9 B 6) zz ?_;refine tj 9 14 (J9 B 7) zz ?_;simp only[sX,sY,sZ];refine tj 10 15 (J6 f.ty) zz ?_ (hy:=fun w hS=>by have q0:w.cell? ⟨B,7,none⟩=some (J6 f.ty):=(hS.2.cell 7).trans rfl;simp[execOp,go_sem,q0]);refine tj 11 16 (.bool false) zz ?_ (hy:=fun w hS=>by simp[execOp,go_sem,h1']);refine tj 12 17 (.bool false) zz ?_;refine tj 13 18 (.bool false) zz ?_;simp only[sX,sY,sZ];refine tn 14 19 zz ?_;refine tn 15 20 zz ?_;refine tj 16 21 (.bool false) zz ?_;refine tj 17 4 (.bool false) zz ?_;simp only[sX,sY,sZ];refine wpAnyH_done (by kernel_rfl) ?_ _;clear zz;go_wp2_with fail;go_ret;rw[HF.u];exact⟨rfl,HB.u.drew⟩
theorem qey (m:Fm)(A:MA)(n:Nat)(F:Nat->Bool)(f:Nat->Nat)(S:SF)(WD:World)(Sh:Nat)(Bs:Nat->Nat)(u:Value)(pl:Nat)(k:Int)(v:Vx)(w:World)(hs:v.s.size<=9223372036854775807)(hX:Shet m A n F f S WD Sh Bs (fun _=>zCx) m.F.length u pl w) :
 Calls Tryz.prog 91 #[J9 Sh 0,J6 k,.agg (Jk v.k v.n v.s)] w fun x w'=>x=.returned (.bool (decide (0<=k/\k<m.F.length)&&(decide ((fAt m k.toNat).is.length=0)&&fitB (fAt m k.toNat) v)))/\Below w.heap.size w w':=by
 have hV0:=Blk.new w 50 (Jk v.k v.n v.s)
 have hB0:=(bR w.heap.size w).alloc (nR _) (.cells (Jk v.k v.n v.s) 50)
 obtain⟨W0,hW0⟩:=Nq (w.alloc (.cells (Jk v.k v.n v.s) 50))
 rw[hW0]at hV0 hB0
 have HXa:=h_ ((hX.mono hB0).mono (bR W0.heap.size W0).drew)
 have HBa:=h_ (hB0.trans ((bR W0.heap.size W0).drew.mono hB0.size))
 have HVa:=h_ (hV0.mono (bR W0.heap.size W0).drew hV0.lt)
 have HC:=h_ (q3s m A n F f S WD Sh Bs u pl k (fun _=>zCx) W0.drew HXa.u)
 obtain⟨ua,ucp,hu⟩:=hX.slice
 subst hu
 clear hX hV0 hB0
 go_enter Tryz.func91,Tryz.ntmps91
 go_wp2_with fail
 try rw[hW0]
 clear hW0
 refine wp_region_held_drew (S:=fun w'=>Blk w' Sh 113 (sfC S++[Value.slice ua m.F.length ucp,Value.map (some pl)])/\Blk w' w.heap.size 50 [J6 v.k,J6 v.n,.string v.s]/\∀j:Nat,j<m.F.length->k=j->∃q,ua=some ⟨q,0,none⟩/\w'.cell? ⟨q,j,none⟩=some (ifV (inpB (fAt m j)) (Bs j))) (by kernel_rfl) ⟨HXa.u.blk,HVa.u,fun j hj _=>by
  obtain⟨q,cp,eu,hqc,-⟩:=HXa.u.at hj;obtain⟨rfl,rfl⟩:ua=some ⟨q,0,none⟩/\ucp=cp:=by simpa using eu
  exact⟨q,rfl,hqc⟩⟩ (fun zz=>?_)
 generalize W0.drew=V at *
 refine tj 0 7 (J9 Sh 0) zz ?_
 refine tj 1 8 (J6 k) zz ?_
 simp only[sX,sY,sZ]
 refine callY (i:=2) (f:=127) (args:=#[J9 Sh 0,J6 k]) (R:=fun x wz=>x=.bool (decide (0<=k/\k<m.F.length))/\wz=V) 9 rfl rfl (by rfl) (by kernel_rfl) (by simp[execOp,go_sem]) (HC.u.mono fun e w6 ⟨he,hb⟩=>⟨_,he,rfl,hb⟩) ?_
 rintro x W1 ⟨rfl,e1⟩
 rw[e1]
 clear e1
 refine⟨zz,?_⟩
 simp only[sX,sY,sZ]
 by_cases hin:0<=k/\k<m.F.length
 case neg =>
  have HR:Hi ((decide (0<=k/\k<m.F.length)&&(decide ((fAt m k.toNat).is.length=0)&&fitB (fAt m k.toNat) v))=false):=h_ (by rw[Yb hin,Bool.false_and]);rw[Yb hin];refine tj 3 10 (.bool false) zz ?_;refine tn 4 11 zz ?_;refine tn 5 12 zz ?_;refine tn 6 13 zz ?_;simp only[sX,sY,sZ];refine tn 7 14 zz ?_;refine tn 8 15 zz ?_;refine tn 9 16 zz ?_;refine tn 10 17 zz ?_;simp only[sX,sY,sZ];refine tn 11 18 zz ?_;refine tn 12 19 zz ?_;refine tj 13 20 (.bool false) zz ?_;refine tj 14 21 (.bool false) zz ?_;simp only[sX,sY,sZ];refine tn 15 22 zz ?_;refine tn 16 23 zz ?_;refine tn 17 24 zz ?_;refine tn 18 25 zz ?_;simp only[sX,sY,sZ];refine tn 19 26 zz ?_;refine tn 20 27 zz ?_;refine tn 21 28 zz ?_;refine tn 22 29 zz ?_;simp only[sX,sY,sZ];refine tn 23 30 zz ?_;refine tn 24 31 zz ?_;refine tj 25 32 (.bool false) zz ?_;refine tj 26 6 (.bool false) zz ?_;simp only[sX,sY,sZ];refine wpAnyH_done (by kernel_rfl) ?_ _;clear zz;go_wp2_with fail;go_ret;rw[HR.u];exact⟨rfl,HBa.u⟩
 have HIn:=h_ (Yj hin)
 rw[Yj hin]
 obtain⟨j,rfl⟩:∃j:Nat,k=j:=⟨k.toNat,by omega⟩
 have hj:j<m.F.length:=by omega
 have hj':(j:Int)<m.F.length:=by omega
 obtain⟨q,hq,-⟩:=zz.2.2 j hj rfl
 subst hq
 have HBx:=h_ fun W (h:Shet m A n F f S WD Sh Bs (fun _=>zCx) m.F.length (.slice (some ⟨q,0,none⟩) m.F.length ucp) pl W)=>(h.bx j hj).2
 refine tj 3 10 (.bool true) zz ?_
 refine tj 4 11 (J9 Sh 0) zz ?_
 refine tj 5 12 (J9 Sh 0) zz ?_
 refine tj 6 13 (J9 Sh 12) zz ?_
 simp only[sX,sY,sZ]
 refine tj 7 14 (.slice (some ⟨q,0,none⟩) m.F.length ucp) zz ?_ (hy:=fun w hS=>by have q1:w.cell? ⟨Sh,12,none⟩=some (.slice (some ⟨q,0,none⟩) m.F.length ucp):=hS.1.cell 12;simp[execOp,go_sem,q1])
 refine tj 8 15 (J6 j) zz ?_
 refine tj 9 16 (J9 q j) zz ?_
 refine tj 10 17 (ifV (inpB (fAt m j)) (Bs j)) zz ?_ (hy:=fun w hS=>by obtain⟨q',e',q1⟩:=hS.2.2 j hj rfl;cases e';simp[execOp,go_sem,q1])
 simp only[sX,sY,sZ]
 refine callY (i:=11) (f:=314) (args:=#[.pointer (some ⟨Bs j,0,none⟩)]) (R:=fun v wz=>v=.pointer (some ⟨Bs j,0,none⟩)/\wz=V) 18 rfl rfl (by rfl) (by kernel_rfl) ?hrun1 ((qgj _ _).mono fun e w6 ⟨he,hb⟩=>⟨_,he,rfl,hb⟩) ?_
 case hrun1=>simp[execOp,go_sem,ifV,head_m]
 rintro x W2 ⟨rfl,e2⟩
 rw[e2]
 clear e2
 refine⟨zz,?_⟩
 simp only[sX,sY,sZ]
 have HCi:=h_ (q60 (fAt m j) (A.fa j) (Bs j) (ctT (inpB (fAt m j))) _ V (HBx.u V HXa.u))
 refine callY (i:=12) (f:=85) (args:=#[.pointer (some ⟨Bs j,0,none⟩)]) (R:=fun v wz=>v=.bool (inpB (fAt m j))/\Below V.heap.size V wz) 19 rfl rfl (by rfl) (by kernel_rfl) (by simp[execOp,go_sem]) (HCi.u.mono fun e w6 ⟨he,hb⟩=>⟨_,he,rfl,hb⟩) ?_
 rintro x W3 ⟨rfl,hb⟩
 have HX3:=h_ (HXa.u.mono hb);have HB3:=mT HBa hb;have HV3:=mB HVa hb
 have HSt:Hi (∀W,Shet m A n F f S WD Sh Bs (fun _=>zCx) m.F.length (.slice (some ⟨q,0,none⟩) m.F.length ucp) pl W->Blk W w.heap.size 50 [J6 v.k,J6 v.n,.string v.s]->Blk W Sh 113 (sfC S++[Value.slice (some ⟨q,0,none⟩) m.F.length ucp,Value.map (some pl)])/\Blk W w.heap.size 50 [J6 v.k,J6 v.n,.string v.s]/\∀i:Nat,i<m.F.length->(j:Int)=i->∃q_1,(some ⟨q,0,none⟩:Option Addr)=some ⟨q_1,0,none⟩/\W.cell? ⟨q_1,i,none⟩=some (ifV (inpB (fAt m i)) (Bs i))):=h_ fun W hX hV=>⟨hX.blk,hV,fun i hi _=>by
  obtain⟨q2,cp,eu,hqc,-⟩:=hX.at hi;obtain⟨e1,-⟩:(some ⟨q,0,none⟩:Option Addr)=some ⟨q2,0,none⟩/\ucp=cp:=by simpa using eu
  exact⟨q2,e1,hqc⟩⟩
 replace zz:=HSt.u W3 HX3.u HV3.u
 clear hb HXa HBa HVa HC HCi
 refine⟨zz,?_⟩
 simp only[sX,sY,sZ]
 have HI:Hi (decide ((fAt m j).is.length=0)=inpB (fAt m j)):=h_ rfl
 cases hq:inpB (fAt m j)
 . rw[hq]at HI
   refine tj 13 20 (.bool false) zz ?_;refine tj 14 21 (.bool false) zz ?_;refine tn 15 22 zz ?_;refine tn 16 23 zz ?_;simp only[sX,sY,sZ];refine tn 17 24 zz ?_;refine tn 18 25 zz ?_;refine tn 19 26 zz ?_;refine tn 20 27 zz ?_;simp only[sX,sY,sZ];refine tn 21 28 zz ?_;refine tn 22 29 zz ?_;refine tn 23 30 zz ?_;refine tn 24 31 zz ?_;simp only[sX,sY,sZ];refine tj 25 32 (.bool false) zz ?_;refine tj 26 6 (.bool false) zz ?_;simp only[sX,sY,sZ];refine wpAnyH_done (by kernel_rfl) ?_ _;clear zz;go_wp2_with fail;go_ret;rw[HIn.u,Vk,HI.u];exact⟨rfl,HB3.u⟩
 rw[hq]at HI
 refine tj 13 20 (.bool true) zz ?_
 refine tj 14 21 (.bool true) zz ?_
 refine tj 15 22 (J9 Sh 0) zz ?_
 refine tj 16 23 (J9 Sh 0) zz ?_
 simp only[sX,sY,sZ]
 refine tj 17 24 (J9 Sh 12) zz ?_
 refine tj 18 25 (.slice (some ⟨q,0,none⟩) m.F.length ucp) zz ?_ (hy:=fun w hS=>by have q1:w.cell? ⟨Sh,12,none⟩=some (.slice (some ⟨q,0,none⟩) m.F.length ucp):=hS.1.cell 12;simp[execOp,go_sem,q1])
 refine tj 19 26 (J6 j) zz ?_
 refine tj 20 27 (J9 q j) zz ?_
 simp only[sX,sY,sZ]
 refine tj 21 28 (ifV (inpB (fAt m j)) (Bs j)) zz ?_ (hy:=fun w hS=>by obtain⟨q',e',q1⟩:=hS.2.2 j hj rfl;cases e';simp[execOp,go_sem,q1])
 refine tj 23 30 (.agg (Jk v.k v.n v.s)) zz ?_ (hy:=fun w hS=>by obtain⟨q0,q1,q2⟩:=threeC hS.2.1;simp[execOp,go_sem,q0,q1,q2])
 simp only[sX,sY,sZ]
 refine callY (i:=22) (f:=314) (args:=#[.pointer (some ⟨Bs j,0,none⟩)]) (R:=fun v wz=>v=.pointer (some ⟨Bs j,0,none⟩)/\wz=W3) 29 rfl rfl (by rfl) (by kernel_rfl) ?hrun2 ((qgj _ _).mono fun e w6 ⟨he,hb⟩=>⟨_,he,rfl,hb⟩) ?_
 case hrun2=>simp[execOp,go_sem,ifV,head_m]
 rintro x W4 ⟨rfl,e4⟩
 rw[e4]
 clear e4
 refine⟨zz,?_⟩
 simp only[sX,sY,sZ]
 have HCf:=h_ (qg6 (inpB (fAt m j)) zCx (fAt m j) (A.fa j) (Bs j) v W3 hs (HBx.u W3 HX3.u))
 refine callY (i:=24) (f:=128) (args:=#[.pointer (some ⟨Bs j,0,none⟩),.agg (Jk v.k v.n v.s)]) (R:=fun x wz=>x=.bool (fitB (fAt m j) v)/\Below W3.heap.size W3 wz) 31 rfl rfl (by rfl) (by kernel_rfl) (by simp[execOp,go_sem]) (HCf.u.mono fun e w6 ⟨he,hb⟩=>⟨_,he,rfl,hb⟩) ?_
 rintro x W5 ⟨rfl,hb⟩
 have HB5:=mT HB3 hb
 replace zz:=HSt.u W5 (HX3.u.mono hb) (HV3.u.mono hb HV3.u.lt)
 clear hb HX3 HB3 HV3 HCf
 refine⟨zz,?_⟩
 simp only[sX,sY,sZ]
 refine tj 25 32 (.bool (fitB (fAt m j) v)) zz ?_
 refine tj 26 6 (.bool (fitB (fAt m j) v)) zz ?_
 simp only[sX,sY,sZ]
 refine wpAnyH_done (by kernel_rfl) ?_ _
 clear zz
 go_wp2_with fail
 go_ret
 rw[HIn.u,Vk,HI.u]
 exact⟨rfl,HB5.u⟩
end Go.Proofs.YtgojgjlninakjaaGreatDoor
