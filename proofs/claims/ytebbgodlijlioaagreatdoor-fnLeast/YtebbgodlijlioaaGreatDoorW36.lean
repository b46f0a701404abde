import Derived.Test.YtebbgodlijlioaaGreatDoorW32
set_option maxRecDepth 100000
set_option maxHeartbeats 64000000
namespace Go.Proofs.YtebbgodlijlioaaGreatDoor
open Go Go.RowKit
def limG (nm:Nat->ByteArray)(k:Nat):Fl × FA:=(⟨nm k,1,0,[],[],[],[],⟨#[]⟩,[]⟩,noFA)
def limF (nm:Nat->ByteArray):Nat->List (Fl × FA)
 | 0=>[]
 | k+1=>limF nm k++[limG nm k]
theorem qd8 (nm:Nat->ByteArray):∀k,(limF nm k).length=k
 | 0=>rfl
 | k+1=>by show(limF nm k++_).length=_;rw[Yg,qd8 nm k];rfl
theorem qd7 (nm:Nat->ByteArray)(k:Nat):(limF nm k).map (·.1)++[(limG nm k).1]=(limF nm (k+1)).map (·.1):=by show _=(limF nm k++[limG nm k]).map (·.1);rw[Zf];rfl
theorem qhs (nm:Nat->ByteArray)(hnm:∀i:Nat,i<=1000->∀w:World,Calls Tryz.prog 72 (Jt i) w fun e w'=>e=.returned (.string (nm i))/\Below w.heap.size w w')(b:Bool)(mo:Nat)(hmo:b.toNat=mo)(w:World) :
 Calls Tryz.prog 67 #[J9 3,.bool b] w fun e w'=>∃v1 v2 v3 v4,e=.returned (.agg #[v1,v2,v3,v4])/\OwM w' w.heap.size v1 v2 v3 v4 ⟨[lowS],[],[],(limF nm (200+mo)).map (·.1)⟩ (limF nm (200+mo))/\Below w.heap.size w w':=by
 have hm1:mo<=1:=by rw[<- hmo];cases b <;> decide
 have HNm:=h_ hnm
 clear hnm
 have hb3:Below w.heap.size w (((w.alloc (.cells Jc 28)).alloc (.cells #[.string lowS] 9)).alloc (.cells (Ji (some ⟨w.heap.size+1,0,none⟩)) 28)):=(((bR w.heap.size w).alloc (nR _) _).alloc (by simp) _).alloc (by simp;omega) _
 go_enter Tryz.func67,Tryz.ntmps67
 go_upto_if 10 with fail
 go_cut [5] from 10 to 10 (fun s5 wx=>s5=J9 mo/\wx=w.alloc (.cells Jc 28))
 case first =>
  cases b
  . obtain rfl:mo=0:=by rw[<- hmo];rfl
    go_wp2_with fail;go_meet;exact⟨rfl,rfl⟩
  . obtain rfl:mo=1:=by rw[<- hmo];rfl
    go_wp2_with fail;go_meet;exact⟨rfl,rfl⟩
 case rest =>
  obtain⟨rfl,rfl⟩:=hcut;go_upto_region 5 with (refine q66 rfl 28 #[(0,.tmp 11)] rfl (Ji (some ⟨w.heap.size+1,0,none⟩)) (by kernel_rfl) ?_)
  have hS1:=(Blk.new (w.alloc (.cells Jc 28)) 9 #[.string lowS]).alloc (.cells (Ji (some ⟨w.heap.size+1,0,none⟩)) 28);have hX1:=Blk.new ((w.alloc (.cells Jc 28)).alloc (.cells #[.string lowS] 9)) 28 (Ji (some ⟨w.heap.size+1,0,none⟩));have hr1:=((Blk.new w 28 Jc).alloc (.cells #[.string lowS] 9)).alloc (.cells (Ji (some ⟨w.heap.size+1,0,none⟩)) 28);simp only[Yv]at hS1 hX1;obtain⟨W0,hW0⟩:=Nq (((w.alloc (.cells Jc 28)).alloc (.cells #[.string lowS] 9)).alloc (.cells (Ji (some ⟨w.heap.size+1,0,none⟩)) 28));rw[hW0]at hS1 hX1 hr1 hb3;have ol:OwnS W0 w.heap.size (.slice (some ⟨w.heap.size+1,0,none⟩) 1 1) [lowS]:=⟨rfl,.inr ⟨w.heap.size+1,1,_,rfl,by omega,hS1,nR _,by unfold maxLen;omega,rfl,rfl⟩⟩;have z:=OwM.nil W0 w.heap.size;have HM:Hi (MMk (w.heap.size+1+1) ⟨[lowS],[],[],(limF nm 0).map (·.1)⟩ (limF nm 0) (.slice (some ⟨w.heap.size+1,0,none⟩) 1 1) Ya Ya Ya w W0):=h_ ⟨hX1,⟨ol,z.p,z.r,z.f,z.e⟩,hb3,hr1,by omega⟩;clear hS1 hX1 hr1 hb3 ol z;simp only[lowS]at hW0;rw[hW0];clear hW0;obtain⟨R,hR⟩:=Nq (w.heap.size+1+1);rw[hR]at HM;rw[hR];go_upto_if 63 with fail
  go_cut [63] from 64 to 79 (fun _ wx=>∃v2,MMk R ⟨[lowS],[],[],(limF nm (200+mo)).map (·.1)⟩ (limF nm (200+mo)) (.slice (some ⟨w.heap.size+1,0,none⟩) 1 1) Ya Ya v2 w wx)
  case first =>
   go_wp2_with fail;go_loopw [] (fun wr=>∃(k:Nat) (x:Option Addr) (c:Nat),k<=200+mo/\MMk R ⟨[lowS],[],[],(limF nm k).map (·.1)⟩ (limF nm k) (.slice (some ⟨w.heap.size+1,0,none⟩) 1 1) Ya Ya (.slice x k c) w wr) (fun wr=>300 - lenAt R 3 wr)
   case atStart=>exact⟨0,none,0,by omega,HM.u⟩
   case round =>
    clear HM;obtain⟨k,x,c,hk,hm⟩:=hrel;obtain⟨q0,q1,q2,q3⟩:=quad hm.bx;by_cases hlt:k<200+mo
    . have hlt':(k:Int)<200+(mo:Int):=by omega
      have hm0:MMk R ⟨[lowS],[],[],(limF nm k).map (·.1)⟩ (limF nm k) (.slice (some ⟨w.heap.size+1,0,none⟩) 1 1) Ya Ya (.slice x k c) w wr.drew:=hm.mono (bR _ _).drew;obtain⟨i0,hi0,hi1,hi2,hi3⟩:=info_parts qgz;go_upto_region 16 with fail
      clear q0 q1 q2 q3;obtain⟨X,hX⟩:=Nq wr.drew;refine wp_region_held_drew (S:=fun _=>True) (by kernel_rfl) trivial (fun zz=>?_);rw[hX]at hm0;obtain⟨-,-,-,x0⟩:=quad hm0.bx;refine tj 0 70 (Yc R 3) zz ?_;refine tj 2 72 (Yc R 3) zz ?_;simp only[sX,sY,sZ];rw[hX];refine wpAnyH_ready (rs:=[1,3]) (by kernel_rfl) (by simp) (consRun (v:=.slice x k c) (w':=X) 71 rfl rfl (by rfl) (by simp[execOp,go_sem,x0]) trivial ?oA (consRun (v:=.slice x k c) (w':=X) 73 rfl rfl (by rfl) (by simp[execOp,go_sem,x0]) trivial ?oB AllReadyH.nil))
      case' oA =>
       simp only[sX,sY,sZ];refine runG (i:=3) (v:=.slice x k c) (w':=X) 73 rfl rfl (by rfl) (by kernel_rfl) (by simp[execOp,go_sem,x0]) trivial ?_;simp only[sX,sY,sZ];refine runG (i:=4) (v:=J9 k) (w':=X) 74 rfl rfl (by rfl) (by kernel_rfl) (by simp[execOp,go_sem]) trivial ?_;simp only[sX,sY,sZ];refine callY (i:=5) (f:=72) (args:=(Jt k)) (R:=fun u wz=>u=.string (nm k)/\Below X.heap.size X wz) 75 rfl rfl (by rfl) (by kernel_rfl) (by simp[execOp,go_sem]) ((HNm.u k (by omega) X).mono fun e w6 ⟨he,hb⟩=>⟨_,he,rfl,hb⟩) ?_;rintro u W1 ⟨rfl,hb⟩;have hm1:=hm0.mono hb;have hba:=(bR W1.heap.size W1).alloc (nR _) (.cells #[.string (nm k),J9 1,J9 0,Ya,Ya,Ya,Ya,Yb,Ya] 42);have hNY:=Blk.new W1 42 #[.string (nm k),J9 1,J9 0,Ya,Ya,Ya,Ya,Yb,Ya];obtain⟨Y,hY⟩:=Nq (W1.alloc (.cells #[.string (nm k),J9 1,J9 0,Ya,Ya,Ya,Ya,Yb,Ya] 42));rw[hY]at hba hNY;have hm2:=hm1.mono hba;obtain⟨-,-,-,w0⟩:=quad hm1.bx;obtain⟨-,-,-,y0⟩:=quad hm2.bx;refine⟨trivial,?_⟩;simp only[sX,sY,sZ];refine tj 6 76 (.agg #[.string (nm k),J9 1,J9 0,Ya,Ya,Ya,Ya,Yb,Ya]) zz ?_;simp only[sX,sY,sZ];refine runG (i:=7) (v:=.slice (some ⟨W1.heap.size,0,none⟩) 1 1) (w':=Y) 77 rfl rfl (by rfl) (by kernel_rfl) (by simp[execOp,go_sem,<- hY]) trivial ?_;simp only[sX,sY,sZ]
      case' oB =>
       simp only[sX,sY,sZ];refine wpAnyH_ready (rs:=[1,4]) (by kernel_rfl) (by simp) (consRun (v:=.slice x k c) (w':=X) 71 rfl rfl (by rfl) (by simp[execOp,go_sem,x0]) trivial ?oC (consRun (v:=J9 k) (w':=X) 74 rfl rfl (by rfl) (by simp[execOp,go_sem]) trivial ?oD AllReadyH.nil))
      case' oC =>
       simp only[sX,sY,sZ];refine runG (i:=4) (v:=J9 k) (w':=X) 74 rfl rfl (by rfl) (by kernel_rfl) (by simp[execOp,go_sem]) trivial ?_;simp only[sX,sY,sZ];refine callY (i:=5) (f:=72) (args:=(Jt k)) (R:=fun u wz=>u=.string (nm k)/\Below X.heap.size X wz) 75 rfl rfl (by rfl) (by kernel_rfl) (by simp[execOp,go_sem]) ((HNm.u k (by omega) X).mono fun e w6 ⟨he,hb⟩=>⟨_,he,rfl,hb⟩) ?_;rintro u W1 ⟨rfl,hb⟩;have hm1:=hm0.mono hb;have hba:=(bR W1.heap.size W1).alloc (nR _) (.cells #[.string (nm k),J9 1,J9 0,Ya,Ya,Ya,Ya,Yb,Ya] 42);have hNY:=Blk.new W1 42 #[.string (nm k),J9 1,J9 0,Ya,Ya,Ya,Ya,Yb,Ya];obtain⟨Y,hY⟩:=Nq (W1.alloc (.cells #[.string (nm k),J9 1,J9 0,Ya,Ya,Ya,Ya,Yb,Ya] 42));rw[hY]at hba hNY;have hm2:=hm1.mono hba;obtain⟨-,-,-,w0⟩:=quad hm1.bx;obtain⟨-,-,-,y0⟩:=quad hm2.bx;refine⟨trivial,?_⟩;simp only[sX,sY,sZ];refine tj 6 76 (.agg #[.string (nm k),J9 1,J9 0,Ya,Ya,Ya,Ya,Yb,Ya]) zz ?_;simp only[sX,sY,sZ];refine runG (i:=7) (v:=.slice (some ⟨W1.heap.size,0,none⟩) 1 1) (w':=Y) 77 rfl rfl (by rfl) (by kernel_rfl) (by simp[execOp,go_sem,<- hY]) trivial ?_;simp only[sX,sY,sZ]
      case' oD =>
       simp only[sX,sY,sZ];refine wpAnyH_ready (rs:=[1,5]) (by kernel_rfl) (by simp) (consRun (v:=.slice x k c) (w':=X) 71 rfl rfl (by rfl) (by simp[execOp,go_sem,x0]) trivial ?oE (consCall (f:=72) (args:=(Jt k)) (R:=fun u wz=>u=.string (nm k)/\Below X.heap.size X wz) 75 rfl rfl (by rfl) (by simp[execOp,go_sem]) ((HNm.u k (by omega) X).mono fun e w6 ⟨he,hb⟩=>⟨_,he,rfl,hb⟩) ?oF AllReadyH.nil))
      case' oE =>
       simp only[sX,sY,sZ];refine callY (i:=5) (f:=72) (args:=(Jt k)) (R:=fun u wz=>u=.string (nm k)/\Below X.heap.size X wz) 75 rfl rfl (by rfl) (by kernel_rfl) (by simp[execOp,go_sem]) ((HNm.u k (by omega) X).mono fun e w6 ⟨he,hb⟩=>⟨_,he,rfl,hb⟩) ?_;rintro u W1 ⟨rfl,hb⟩;have hm1:=hm0.mono hb;have hba:=(bR W1.heap.size W1).alloc (nR _) (.cells #[.string (nm k),J9 1,J9 0,Ya,Ya,Ya,Ya,Yb,Ya] 42);have hNY:=Blk.new W1 42 #[.string (nm k),J9 1,J9 0,Ya,Ya,Ya,Ya,Yb,Ya];obtain⟨Y,hY⟩:=Nq (W1.alloc (.cells #[.string (nm k),J9 1,J9 0,Ya,Ya,Ya,Ya,Yb,Ya] 42));rw[hY]at hba hNY;have hm2:=hm1.mono hba;obtain⟨-,-,-,w0⟩:=quad hm1.bx;obtain⟨-,-,-,y0⟩:=quad hm2.bx;refine⟨trivial,?_⟩;simp only[sX,sY,sZ];refine tj 6 76 (.agg #[.string (nm k),J9 1,J9 0,Ya,Ya,Ya,Ya,Yb,Ya]) zz ?_;simp only[sX,sY,sZ];refine runG (i:=7) (v:=.slice (some ⟨W1.heap.size,0,none⟩) 1 1) (w':=Y) 77 rfl rfl (by rfl) (by kernel_rfl) (by simp[execOp,go_sem,<- hY]) trivial ?_;simp only[sX,sY,sZ]
      case' oF =>
       rintro u W1 ⟨rfl,hb⟩;have hm1:=hm0.mono hb;have hba:=(bR W1.heap.size W1).alloc (nR _) (.cells #[.string (nm k),J9 1,J9 0,Ya,Ya,Ya,Ya,Yb,Ya] 42);have hNY:=Blk.new W1 42 #[.string (nm k),J9 1,J9 0,Ya,Ya,Ya,Ya,Yb,Ya];obtain⟨Y,hY⟩:=Nq (W1.alloc (.cells #[.string (nm k),J9 1,J9 0,Ya,Ya,Ya,Ya,Yb,Ya] 42));rw[hY]at hba hNY;have hm2:=hm1.mono hba;obtain⟨-,-,-,w0⟩:=quad hm1.bx;obtain⟨-,-,-,y0⟩:=quad hm2.bx;refine⟨trivial,?_⟩;simp only[sX,sY,sZ];refine tj 6 76 (.agg #[.string (nm k),J9 1,J9 0,Ya,Ya,Ya,Ya,Yb,Ya]) zz ?_;simp only[sX,sY,sZ];refine wpAnyH_ready (rs:=[1,7]) (by kernel_rfl) (by simp) (consRun (v:=.slice x k c) (w':=W1) 71 rfl rfl (by rfl) (by simp[execOp,go_sem,w0]) trivial ?oG (consRun (v:=.slice (some ⟨W1.heap.size,0,none⟩) 1 1) (w':=Y) 77 rfl rfl (by rfl) (by simp[execOp,go_sem,<- hY]) trivial ?oH AllReadyH.nil))
      case' oG =>
       simp only[sX,sY,sZ];refine runG (i:=7) (v:=.slice (some ⟨W1.heap.size,0,none⟩) 1 1) (w':=Y) 77 rfl rfl (by rfl) (by kernel_rfl) (by simp[execOp,go_sem,<- hY]) trivial ?_;simp only[sX,sY,sZ]
      case' oH =>
       simp only[sX,sY,sZ];refine runG (i:=1) (v:=.slice x k c) (w':=Y) 71 rfl rfl (by rfl) (by kernel_rfl) (by simp[execOp,go_sem,y0]) trivial ?_;simp only[sX,sY,sZ]
      all_goals
       have hsz:=hm2.bl.size;have hrow:Y.ownsRow w.heap.size 42 9 (.slice x k c) k (fdV ((limF nm k))):=(by have:=hm2.ow.f.row;rw[qd8]at this;exact this);refine appY (i:=8) 78 rfl rfl rfl (by kernel_rfl) (.tmp 71) (.tmp 77) 26 rfl w.heap.size 42 i0 _ 9 168 Tryz.underlying26 hi0 hi1 hi2 hi3 rfl (by omega) (.slice x k c) k _ rfl hrow ⟨W1.heap.size,0,none⟩ 1 1 [.string (nm k),J9 1,J9 0,Ya,Ya,Ya,Ya,Yb,Ya] rfl rfl (fun j u hj=>by rw[show(⟨W1.heap.size,0,none⟩:Addr).add j=⟨W1.heap.size,j,none⟩ by simp[Addr.add];try exact fun h=>h.symm];exact(hNY.cell j).trans hj) (by simp[Value.oneCell']) (by omega) (by unfold maxLen;omega) (by omega) hsz _ rfl ?_;intro q cap W9 ho hgw hq9 hq10;have hb9:Below w.heap.size Y W9:=(bR w.heap.size Y).grown hgw hsz (fun g e=>q87 hrow e);have hk9:Blk W9 R 28 [.slice (some ⟨w.heap.size+1,0,none⟩) 1 1,Ya,Ya,.slice x k c]:=(hgw.block _ hm2.bx.lt (fun e=>qdq hrow hm2.bx (by decide) e.symm)).trans hm2.bx;have HM9:Hi (MMk R ⟨[lowS],[],[],(limF nm (k+1)).map (·.1)⟩ (limF nm (k+1)) (.slice (some ⟨w.heap.size+1,0,none⟩) 1 1) Ya Ya (.slice (some ⟨q,0,none⟩) (k+1) cap) w (W9.setCell ⟨R,3,none⟩ (.slice (some ⟨q,0,none⟩) (k+1) cap))):=h_ (by have h9:=hm2.addF (x:=limG nm k) (v':=(.slice (some ⟨q,0,none⟩) (k+1) cap)) (by show W9.ownsRow _ _ _ _ (limF nm k++[limG nm k]).length (fdV (limF nm k++[limG nm k]));rw[Yg,qd8];unfold fdV;rw[Zq];exact ho) hgw ⟨World.ownsRow_nil _ _ _ _,World.ownsRow_nil _ _ _ _,World.ownsRow_nil _ _ _ _,World.ownsRow_nil _ _ _ _,World.ownsRow_nil _ _ _ _⟩ hb9;dsimp only at h9;rw[qd7]at h9;exact h9);refine⟨trivial,?_⟩;simp only[sX,sY,sZ];refine tj 9 79 (Yc R 3) zz ?_;simp only[sX,sY,sZ];have v0:=hk9.cell 3;have vf:=hk9.free 3;simp only[Yh,Yo]at v0;refine storeY (i:=10) (w':=W9.setCell ⟨R,3,none⟩ (.slice (some ⟨q,0,none⟩) (k+1) cap)) rfl (by rfl) (by kernel_rfl) rfl (by simp[execOp,go_sem,v0,vf]) rfl trivial ?_;refine wpAnyH_done (by kernel_rfl) ?_ _;have hln:lenAt R 3 wr=k:=qd4 (quad hm.bx).2.2.2;have hln2:lenAt R 3 (W9.setCell ⟨R,3,none⟩ (.slice (some ⟨q,0,none⟩) (k+1) cap))=k+1:=qd4 (quad HM9.u.bx).2.2.2;have HLn:=h_ hln;have HLn2:=h_ hln2;clear zz ho hgw hb9 hk9 v0 vf hm hm0 hm1 hm2 hrow hba hNY hY x0 w0 y0 hb hln hln2;go_wp2_with fail;go_roundw
       case rel=>exact⟨k+1,_,_,by omega,HM9.u⟩
       case measure=>rw[HLn.u,HLn2.u];omega
    . have hlt':¬ (k:Int)<200+(mo:Int):=by omega
      have HMr:=h_ hm;obtain rfl:k=200+mo:=(by omega);clear hm;go_wp2_with fail;go_meet;exact⟨_,HMr.u⟩
  case rest =>
   obtain⟨v2,hm⟩:=hcut;clear HM HNm;obtain⟨q0,q1,q2,q3⟩:=quad hm.bx;have HF:=h_ hm.fin;have HR0:=h_ hm.r0;obtain⟨x1,c1,rfl,-,-⟩:=q8b hm.ow.f.row;clear hm;go_wp2_with (refine wpList_store_row rfl 28 (.tmp 4) (.tmp 130) rfl w.heap.size #[.slice (some ⟨w.heap.size+1,0,none⟩) 1 1,Ya,Ya,.slice x1 ((limF nm (200+mo))).length c1] rfl rfl 28 Jc HR0.u (by kernel_rfl) rfl (by simp[Value.oneCell']) ?_);clear q0 q1 q2 q3;obtain⟨y0,y1,y2,y3⟩:=quad HF.u.2.2;exact bodyPost_ret (v:=.agg #[.slice (some ⟨w.heap.size+1,0,none⟩) 1 1,Ya,Ya,.slice x1 ((limF nm (200+mo))).length c1]) (by simp[results,Tryz.results67,go_sem,y0,y1,y2,y3]) rfl ⟨_,_,_,_,rfl,HF.u.1,HF.u.2.1⟩
end Go.Proofs.YtebbgodlijlioaaGreatDoor
