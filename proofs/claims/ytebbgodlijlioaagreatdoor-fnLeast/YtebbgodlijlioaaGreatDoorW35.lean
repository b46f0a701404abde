import Derived.Test.YtebbgodlijlioaaGreatDoorW32
set_option maxRecDepth 100000
set_option maxHeartbeats 64000000
namespace Go.Proofs.YtebbgodlijlioaaGreatDoor
open Go Go.RowKit
def limR (nm:Nat->ByteArray):Nat->List Rl
 | 0=>[]
 | k+1=>limR nm k++[⟨nm k,0⟩]
theorem qdb (nm:Nat->ByteArray):∀k,(limR nm k).length=k
 | 0=>rfl
 | k+1=>by show(limR nm k++_).length=_;rw[Yg,qdb nm k];rfl
theorem qhr (nm:Nat->ByteArray)(hnm:∀i:Nat,i<=1000->∀w:World,Calls Tryz.prog 70 #[J9 i] w fun e w'=>e=.returned (.string (nm i))/\Below w.heap.size w w')(b:Bool)(mo:Nat)(hmo:b.toNat=mo)(w:World) :
 Calls Tryz.prog 67 #[J9 2,.bool b] w fun e w'=>∃v1 v2 v3 v4,e=.returned (.agg #[v1,v2,v3,v4])/\OwM w' w.heap.size v1 v2 v3 v4 ⟨[lowS],[],limR nm (64+mo),[]⟩ []/\Below w.heap.size w w':=by
 have hm1:mo<=1:=by rw[<- hmo];cases b <;> decide
 have HNm:=h_ hnm
 clear hnm
 have hb3:Below w.heap.size w (((w.alloc (.cells Jc 28)).alloc (.cells #[.string lowS] 9)).alloc (.cells (Ji (some ⟨w.heap.size+1,0,none⟩)) 28)):=(((bR w.heap.size w).alloc (nR _) _).alloc (by simp) _).alloc (by simp;omega) _
 go_enter Tryz.func67,Tryz.ntmps67
 go_upto_if 10 with fail
 go_cut [5] from 10 to 10 (fun s5 wx=>s5=J9 mo/\wx=w.alloc (.cells Jc 28))
 case first =>
  cases b
  . obtain rfl:mo=0:=by rw[<- hmo];rfl
    go_wp2_with fail;go_meet;exact⟨rfl,rfl⟩
  . obtain rfl:mo=1:=by rw[<- hmo];rfl
    go_wp2_with fail;go_meet;exact⟨rfl,rfl⟩
 case rest =>
  obtain⟨rfl,rfl⟩:=hcut;go_upto_region 5 with (refine q66 rfl 28 #[(0,.tmp 11)] rfl (Ji (some ⟨w.heap.size+1,0,none⟩)) (by kernel_rfl) ?_)
  have hS1:=(Blk.new (w.alloc (.cells Jc 28)) 9 #[.string lowS]).alloc (.cells (Ji (some ⟨w.heap.size+1,0,none⟩)) 28);have hX1:=Blk.new ((w.alloc (.cells Jc 28)).alloc (.cells #[.string lowS] 9)) 28 (Ji (some ⟨w.heap.size+1,0,none⟩));have hr1:=((Blk.new w 28 Jc).alloc (.cells #[.string lowS] 9)).alloc (.cells (Ji (some ⟨w.heap.size+1,0,none⟩)) 28);simp only[Yv]at hS1 hX1;obtain⟨W0,hW0⟩:=Nq (((w.alloc (.cells Jc 28)).alloc (.cells #[.string lowS] 9)).alloc (.cells (Ji (some ⟨w.heap.size+1,0,none⟩)) 28));rw[hW0]at hS1 hX1 hr1 hb3;have ol:OwnS W0 w.heap.size (.slice (some ⟨w.heap.size+1,0,none⟩) 1 1) [lowS]:=⟨rfl,.inr ⟨w.heap.size+1,1,_,rfl,by omega,hS1,nR _,by unfold maxLen;omega,rfl,rfl⟩⟩;have z:=OwM.nil W0 w.heap.size;have HM:Hi (MMk (w.heap.size+1+1) ⟨[lowS],[],limR nm 0,[]⟩ [] (.slice (some ⟨w.heap.size+1,0,none⟩) 1 1) Ya Ya Ya w W0):=h_ ⟨hX1,⟨ol,z.p,z.r,z.f,z.e⟩,hb3,hr1,by omega⟩;clear hS1 hX1 hr1 hb3 ol z;simp only[lowS]at hW0;rw[hW0];clear hW0;obtain⟨R,hR⟩:=Nq (w.heap.size+1+1);rw[hR]at HM;rw[hR];go_upto_if 45 with fail
  go_cut [45] from 46 to 61 (fun _ wx=>∃v2,MMk R ⟨[lowS],[],limR nm (64+mo),[]⟩ [] (.slice (some ⟨w.heap.size+1,0,none⟩) 1 1) Ya v2 Ya w wx)
  case first =>
   go_wp2_with fail;go_loopw [] (fun wr=>∃(k:Nat) (x:Option Addr) (c:Nat),k<=64+mo/\MMk R ⟨[lowS],[],limR nm k,[]⟩ [] (.slice (some ⟨w.heap.size+1,0,none⟩) 1 1) Ya (.slice x k c) Ya w wr) (fun wr=>300 - lenAt R 2 wr)
   case atStart=>exact⟨0,none,0,by omega,HM.u⟩
   case round =>
    clear HM;obtain⟨k,x,c,hk,hm⟩:=hrel;obtain⟨q0,q1,q2,q3⟩:=quad hm.bx;by_cases hlt:k<64+mo
    . have hlt':(k:Int)<64+(mo:Int):=by omega
      have hm0:MMk R ⟨[lowS],[],limR nm k,[]⟩ [] (.slice (some ⟨w.heap.size+1,0,none⟩) 1 1) Ya (.slice x k c) Ya w wr.drew:=hm.mono (bR _ _).drew;obtain⟨i0,hi0,hi1,hi2,hi3⟩:=info_parts qh4;go_upto_region 13 with fail
      clear q0 q1 q2 q3;obtain⟨X,hX⟩:=Nq wr.drew;refine wp_region_held_drew (S:=fun _=>True) (by kernel_rfl) trivial (fun zz=>?_);rw[hX]at hm0;obtain⟨-,-,x0,-⟩:=quad hm0.bx;refine tj 0 52 (Yc R 2) zz ?_;refine tj 2 54 (Yc R 2) zz ?_;simp only[sX,sY,sZ];rw[hX];refine wpAnyH_ready (rs:=[1,3]) (by kernel_rfl) (by simp) (consRun (v:=.slice x k c) (w':=X) 53 rfl rfl (by rfl) (by simp[execOp,go_sem,x0]) trivial ?oA (consRun (v:=.slice x k c) (w':=X) 55 rfl rfl (by rfl) (by simp[execOp,go_sem,x0]) trivial ?oB AllReadyH.nil))
      case' oA =>
       simp only[sX,sY,sZ];refine runG (i:=3) (v:=.slice x k c) (w':=X) 55 rfl rfl (by rfl) (by kernel_rfl) (by simp[execOp,go_sem,x0]) trivial ?_;simp only[sX,sY,sZ];refine runG (i:=4) (v:=J9 k) (w':=X) 56 rfl rfl (by rfl) (by kernel_rfl) (by simp[execOp,go_sem]) trivial ?_;simp only[sX,sY,sZ];refine callY (i:=5) (f:=70) (args:=#[J9 k]) (R:=fun u wz=>u=.string (nm k)/\Below X.heap.size X wz) 57 rfl rfl (by rfl) (by kernel_rfl) (by simp[execOp,go_sem]) ((HNm.u k (by omega) X).mono fun e w6 ⟨he,hb⟩=>⟨_,he,rfl,hb⟩) ?_;rintro u W1 ⟨rfl,hb⟩;have hm1:=hm0.mono hb;have hba:=(bR W1.heap.size W1).alloc (nR _) (.cells #[.string (nm k),J9 0] 66);have hNY:=Blk.new W1 66 #[.string (nm k),J9 0];obtain⟨Y,hY⟩:=Nq (W1.alloc (.cells #[.string (nm k),J9 0] 66));rw[hY]at hba hNY;have hm2:=hm1.mono hba;obtain⟨-,-,w0,-⟩:=quad hm1.bx;obtain⟨-,-,y0,-⟩:=quad hm2.bx;refine⟨trivial,?_⟩;simp only[sX,sY,sZ];refine tj 6 58 (.agg #[.string (nm k),J9 0]) zz ?_;simp only[sX,sY,sZ];refine runG (i:=7) (v:=.slice (some ⟨W1.heap.size,0,none⟩) 1 1) (w':=Y) 59 rfl rfl (by rfl) (by kernel_rfl) (by simp[execOp,go_sem,<- hY]) trivial ?_;simp only[sX,sY,sZ]
      case' oB =>
       simp only[sX,sY,sZ];refine wpAnyH_ready (rs:=[1,4]) (by kernel_rfl) (by simp) (consRun (v:=.slice x k c) (w':=X) 53 rfl rfl (by rfl) (by simp[execOp,go_sem,x0]) trivial ?oC (consRun (v:=J9 k) (w':=X) 56 rfl rfl (by rfl) (by simp[execOp,go_sem]) trivial ?oD AllReadyH.nil))
      case' oC =>
       simp only[sX,sY,sZ];refine runG (i:=4) (v:=J9 k) (w':=X) 56 rfl rfl (by rfl) (by kernel_rfl) (by simp[execOp,go_sem]) trivial ?_;simp only[sX,sY,sZ];refine callY (i:=5) (f:=70) (args:=#[J9 k]) (R:=fun u wz=>u=.string (nm k)/\Below X.heap.size X wz) 57 rfl rfl (by rfl) (by kernel_rfl) (by simp[execOp,go_sem]) ((HNm.u k (by omega) X).mono fun e w6 ⟨he,hb⟩=>⟨_,he,rfl,hb⟩) ?_;rintro u W1 ⟨rfl,hb⟩;have hm1:=hm0.mono hb;have hba:=(bR W1.heap.size W1).alloc (nR _) (.cells #[.string (nm k),J9 0] 66);have hNY:=Blk.new W1 66 #[.string (nm k),J9 0];obtain⟨Y,hY⟩:=Nq (W1.alloc (.cells #[.string (nm k),J9 0] 66));rw[hY]at hba hNY;have hm2:=hm1.mono hba;obtain⟨-,-,w0,-⟩:=quad hm1.bx;obtain⟨-,-,y0,-⟩:=quad hm2.bx;refine⟨trivial,?_⟩;simp only[sX,sY,sZ];refine tj 6 58 (.agg #[.string (nm k),J9 0]) zz ?_;simp only[sX,sY,sZ];refine runG (i:=7) (v:=.slice (some ⟨W1.heap.size,0,none⟩) 1 1) (w':=Y) 59 rfl rfl (by rfl) (by kernel_rfl) (by simp[execOp,go_sem,<- hY]) trivial ?_;simp only[sX,sY,sZ]
      case' oD =>
       simp only[sX,sY,sZ];refine wpAnyH_ready (rs:=[1,5]) (by kernel_rfl) (by simp) (consRun (v:=.slice x k c) (w':=X) 53 rfl rfl (by rfl) (by simp[execOp,go_sem,x0]) trivial ?oE (consCall (f:=70) (args:=#[J9 k]) (R:=fun u wz=>u=.string (nm k)/\Below X.heap.size X wz) 57 rfl rfl (by rfl) (by simp[execOp,go_sem]) ((HNm.u k (by omega) X).mono fun e w6 ⟨he,hb⟩=>⟨_,he,rfl,hb⟩) ?oF AllReadyH.nil))
      case' oE =>
       simp only[sX,sY,sZ];refine callY (i:=5) (f:=70) (args:=#[J9 k]) (R:=fun u wz=>u=.string (nm k)/\Below X.heap.size X wz) 57 rfl rfl (by rfl) (by kernel_rfl) (by simp[execOp,go_sem]) ((HNm.u k (by omega) X).mono fun e w6 ⟨he,hb⟩=>⟨_,he,rfl,hb⟩) ?_;rintro u W1 ⟨rfl,hb⟩;have hm1:=hm0.mono hb;have hba:=(bR W1.heap.size W1).alloc (nR _) (.cells #[.string (nm k),J9 0] 66);have hNY:=Blk.new W1 66 #[.string (nm k),J9 0];obtain⟨Y,hY⟩:=Nq (W1.alloc (.cells #[.string (nm k),J9 0] 66));rw[hY]at hba hNY;have hm2:=hm1.mono hba;obtain⟨-,-,w0,-⟩:=quad hm1.bx;obtain⟨-,-,y0,-⟩:=quad hm2.bx;refine⟨trivial,?_⟩;simp only[sX,sY,sZ];refine tj 6 58 (.agg #[.string (nm k),J9 0]) zz ?_;simp only[sX,sY,sZ];refine runG (i:=7) (v:=.slice (some ⟨W1.heap.size,0,none⟩) 1 1) (w':=Y) 59 rfl rfl (by rfl) (by kernel_rfl) (by simp[execOp,go_sem,<- hY]) trivial ?_;simp only[sX,sY,sZ]
      case' oF =>
       rintro u W1 ⟨rfl,hb⟩;have hm1:=hm0.mono hb;have hba:=(bR W1.heap.size W1).alloc (nR _) (.cells #[.string (nm k),J9 0] 66);have hNY:=Blk.new W1 66 #[.string (nm k),J9 0];obtain⟨Y,hY⟩:=Nq (W1.alloc (.cells #[.string (nm k),J9 0] 66));rw[hY]at hba hNY;have hm2:=hm1.mono hba;obtain⟨-,-,w0,-⟩:=quad hm1.bx;obtain⟨-,-,y0,-⟩:=quad hm2.bx;refine⟨trivial,?_⟩;simp only[sX,sY,sZ];refine tj 6 58 (.agg #[.string (nm k),J9 0]) zz ?_;simp only[sX,sY,sZ];refine wpAnyH_ready (rs:=[1,7]) (by kernel_rfl) (by simp) (consRun (v:=.slice x k c) (w':=W1) 53 rfl rfl (by rfl) (by simp[execOp,go_sem,w0]) trivial ?oG (consRun (v:=.slice (some ⟨W1.heap.size,0,none⟩) 1 1) (w':=Y) 59 rfl rfl (by rfl) (by simp[execOp,go_sem,<- hY]) trivial ?oH AllReadyH.nil))
      case' oG =>
       simp only[sX,sY,sZ];refine runG (i:=7) (v:=.slice (some ⟨W1.heap.size,0,none⟩) 1 1) (w':=Y) 59 rfl rfl (by rfl) (by kernel_rfl) (by simp[execOp,go_sem,<- hY]) trivial ?_;simp only[sX,sY,sZ]
      case' oH =>
       simp only[sX,sY,sZ];refine runG (i:=1) (v:=.slice x k c) (w':=Y) 53 rfl rfl (by rfl) (by kernel_rfl) (by simp[execOp,go_sem,y0]) trivial ?_;simp only[sX,sY,sZ]
      all_goals
       have hsz:=hm2.bl.size;have hrow:Y.ownsRow w.heap.size 66 2 (.slice x k c) k (rV' (limR nm k)):=(by have:=hm2.ow.r;unfold OwL at this;rw[qdb]at this;exact this);refine appY (i:=8) 60 rfl rfl rfl (by kernel_rfl) (.tmp 53) (.tmp 59) 25 rfl w.heap.size 66 i0 _ 2 24 Tryz.underlying25 hi0 hi1 hi2 hi3 rfl (by omega) (.slice x k c) k _ rfl hrow ⟨W1.heap.size,0,none⟩ 1 1 [.string (nm k),J9 0] rfl rfl (fun j u hj=>by rw[show(⟨W1.heap.size,0,none⟩:Addr).add j=⟨W1.heap.size,j,none⟩ by simp[Addr.add];try exact fun h=>h.symm];exact(hNY.cell j).trans hj) (by simp[Value.oneCell']) (by omega) (by unfold maxLen;omega) (by omega) hsz _ rfl ?_;intro q cap W9 ho hgw hq9 hq10;have hb9:Below w.heap.size Y W9:=(bR w.heap.size Y).grown hgw hsz (fun g e=>q87 hrow e);have hk9:Blk W9 R 28 [.slice (some ⟨w.heap.size+1,0,none⟩) 1 1,Ya,.slice x k c,Ya]:=(hgw.block _ hm2.bx.lt (fun e=>qdq hrow hm2.bx (by decide) e.symm)).trans hm2.bx;have HM9:Hi (MMk R ⟨[lowS],[],limR nm (k+1),[]⟩ [] (.slice (some ⟨w.heap.size+1,0,none⟩) 1 1) Ya (.slice (some ⟨q,0,none⟩) (k+1) cap) Ya w (W9.setCell ⟨R,2,none⟩ (.slice (some ⟨q,0,none⟩) (k+1) cap))):=h_ (hm2.addR (x:=(⟨nm k,0⟩:Rl)) (v':=(.slice (some ⟨q,0,none⟩) (k+1) cap)) (by show W9.ownsRow _ _ _ _ (limR nm k++[(⟨nm k,0⟩:Rl)]).length (rV' (limR nm k++[(⟨nm k,0⟩:Rl)]));rw[Yg,qdb];unfold rV';rw[Zq];exact ho) hgw hb9);refine⟨trivial,?_⟩;simp only[sX,sY,sZ];refine tj 9 61 (Yc R 2) zz ?_;simp only[sX,sY,sZ];have v0:=hk9.cell 2;have vf:=hk9.free 2;simp only[Yh,Yo]at v0;refine storeY (i:=10) (w':=W9.setCell ⟨R,2,none⟩ (.slice (some ⟨q,0,none⟩) (k+1) cap)) rfl (by rfl) (by kernel_rfl) rfl (by simp[execOp,go_sem,v0,vf]) rfl trivial ?_;refine wpAnyH_done (by kernel_rfl) ?_ _;have hln:lenAt R 2 wr=k:=qd4 (quad hm.bx).2.2.1;have hln2:lenAt R 2 (W9.setCell ⟨R,2,none⟩ (.slice (some ⟨q,0,none⟩) (k+1) cap))=k+1:=qd4 (quad HM9.u.bx).2.2.1;have HLn:=h_ hln;have HLn2:=h_ hln2;clear zz ho hgw hb9 hk9 v0 vf hm hm0 hm1 hm2 hrow hba hNY hY x0 w0 y0 hb hln hln2;go_wp2_with fail;go_roundw
       case rel=>exact⟨k+1,_,_,by omega,HM9.u⟩
       case measure=>rw[HLn.u,HLn2.u];omega
    . have hlt':¬ (k:Int)<64+(mo:Int):=by omega
      have HMr:=h_ hm;obtain rfl:k=64+mo:=(by omega);clear hm;go_wp2_with fail;go_meet;exact⟨_,HMr.u⟩
  case rest =>
   obtain⟨v2,hm⟩:=hcut;clear HM HNm;obtain⟨q0,q1,q2,q3⟩:=quad hm.bx;have HF:=h_ hm.fin;have HR0:=h_ hm.r0;obtain⟨x1,c1,rfl,-,-⟩:=q8b hm.ow.r;clear hm;go_wp2_with (refine wpList_store_row rfl 28 (.tmp 4) (.tmp 130) rfl w.heap.size #[.slice (some ⟨w.heap.size+1,0,none⟩) 1 1,Ya,.slice x1 (limR nm (64+mo)).length c1,Ya] rfl rfl 28 Jc HR0.u (by kernel_rfl) rfl (by simp[Value.oneCell']) ?_);clear q0 q1 q2 q3;obtain⟨y0,y1,y2,y3⟩:=quad HF.u.2.2;exact bodyPost_ret (v:=.agg #[.slice (some ⟨w.heap.size+1,0,none⟩) 1 1,Ya,.slice x1 (limR nm (64+mo)).length c1,Ya]) (by simp[results,Tryz.results67,go_sem,y0,y1,y2,y3]) rfl ⟨_,_,_,_,rfl,HF.u.1,HF.u.2.1⟩
end Go.Proofs.YtebbgodlijlioaaGreatDoor
