import Derived.Test.YtebbgodlijlioaaGreatDoorW29
set_option maxRecDepth 100000
set_option maxHeartbeats 64000000
namespace Go.Proofs.YtebbgodlijlioaaGreatDoor
open Go Go.RowKit
section
variable {md:Region.Mode} {ops:Array Oper} {Q:Exit->Act->World->Prop} {S:World->Prop} {o:Oper} {a:Act} {fuel:Nat} {listed:Array Bool} {i:Nat} {w w':World}
theorem runG {v:Value}(d:Tmp)(hi:ops[i]? = some o)(hd:o.dst=some d)(hw:Region.wanted o (yielded ops a.tmps)=true)(hr:Region.ready md ops listed=[i])
 (hrun:(execOp a.eval o).run Tryz.prog w=.ok (.value v) w') (hS:S w') (h:wpAnyH Tryz.prog md ops Q S fuel (listed.setIfInBounds i true) { tmps:=a.tmps.setIfInBounds d v,defers:=a.defers } w'):wpAnyH Tryz.prog md ops Q S (fuel+1) listed a w :=
 wpAnyH_ready hr (by simp) (consRun d hi hd hw hrun hS h AllReadyH.nil)
end
def lowS:ByteArray:=⟨#[108,111,119]⟩
def lenAt (R j:Nat)(w:World):Nat:=match w.cell? ⟨R,j,none⟩ with | some (.slice _ n _)=>n | _=>0
theorem qd4 {R j n c:Nat}{a:Option Addr}{w:World}(h:w.cell? ⟨R,j,none⟩=some (.slice a n c)):lenAt R j w=n:=by unfold lenAt;rw[h]
def limL (nm:Nat->ByteArray):Nat->List ByteArray
 | 0=>[lowS]
 | k+1=>limL nm k++[nm (k+1)]
theorem qd9 (nm:Nat->ByteArray):∀k,(limL nm k).length=k+1
 | 0=>rfl
 | k+1=>by show(limL nm k++_).length=_;rw[Yg,qd9 nm k];rfl
theorem qhp (nm:Nat->ByteArray)(hnm:∀i:Nat,i<=1000->∀w:World,Calls Tryz.prog 69 #[J9 i] w fun e w'=>e=.returned (.string (nm i))/\Below w.heap.size w w')(b:Bool)(mo:Nat)(hmo:b.toNat=mo)(w:World) :
 Calls Tryz.prog 67 #[J9 0,.bool b] w fun e w'=>∃v1 v2 v3 v4,e=.returned (.agg #[v1,v2,v3,v4])/\OwM w' w.heap.size v1 v2 v3 v4 ⟨limL nm (31+mo),[],[],[]⟩ []/\Below w.heap.size w w':=by
 have hm1:mo<=1:=by rw[<- hmo];cases b <;> decide
 have HNm:=h_ hnm
 clear hnm
 have hb3:Below w.heap.size w (((w.alloc (.cells Jc 28)).alloc (.cells #[.string lowS] 9)).alloc (.cells (Ji (some ⟨w.heap.size+1,0,none⟩)) 28)):=(((bR w.heap.size w).alloc (nR _) _).alloc (by simp) _).alloc (by simp;omega) _
 go_enter Tryz.func67,Tryz.ntmps67
 go_upto_if 10 with fail
 go_cut [5] from 10 to 10 (fun s5 wx=>s5=J9 mo/\wx=w.alloc (.cells Jc 28))
 case first =>
  cases b
  . obtain rfl:mo=0:=by rw[<- hmo];rfl
    go_wp2_with fail;go_meet;exact⟨rfl,rfl⟩
  . obtain rfl:mo=1:=by rw[<- hmo];rfl
    go_wp2_with fail;go_meet;exact⟨rfl,rfl⟩
 case rest =>
  obtain⟨rfl,rfl⟩:=hcut;go_upto_region 5 with (refine q66 rfl 28 #[(0,.tmp 11)] rfl (Ji (some ⟨w.heap.size+1,0,none⟩)) (by kernel_rfl) ?_)
  have hS1:=(Blk.new (w.alloc (.cells Jc 28)) 9 #[.string lowS]).alloc (.cells (Ji (some ⟨w.heap.size+1,0,none⟩)) 28);have hX1:=Blk.new ((w.alloc (.cells Jc 28)).alloc (.cells #[.string lowS] 9)) 28 (Ji (some ⟨w.heap.size+1,0,none⟩));have hr1:=((Blk.new w 28 Jc).alloc (.cells #[.string lowS] 9)).alloc (.cells (Ji (some ⟨w.heap.size+1,0,none⟩)) 28);simp only[Yv]at hS1 hX1;obtain⟨W0,hW0⟩:=Nq (((w.alloc (.cells Jc 28)).alloc (.cells #[.string lowS] 9)).alloc (.cells (Ji (some ⟨w.heap.size+1,0,none⟩)) 28));rw[hW0]at hS1 hX1 hr1 hb3;have ol:OwnS W0 w.heap.size (.slice (some ⟨w.heap.size+1,0,none⟩) 1 1) [lowS]:=⟨rfl,.inr ⟨w.heap.size+1,1,_,rfl,by omega,hS1,nR _,by unfold maxLen;omega,rfl,rfl⟩⟩;have z:=OwM.nil W0 w.heap.size;have HM:Hi (MMk (w.heap.size+1+1) ⟨limL nm 0,[],[],[]⟩ [] (.slice (some ⟨w.heap.size+1,0,none⟩) 1 1) Ya Ya Ya w W0):=h_ ⟨hX1,⟨ol,z.p,z.r,z.f,z.e⟩,hb3,hr1,by omega⟩;clear hS1 hX1 hr1 hb3 ol z;simp only[lowS]at hW0;rw[hW0];clear hW0;obtain⟨R,hR⟩:=Nq (w.heap.size+1+1);rw[hR]at HM;rw[hR];go_upto_if 14 with fail
  go_cut [14] from 15 to 29 (fun _ wx=>∃v1,MMk R ⟨limL nm (31+mo),[],[],[]⟩ [] v1 Ya Ya Ya w wx)
  case first =>
   go_wp2_with fail;go_loopw [] (fun wr=>∃(k n:Nat) (x:Option Addr) (c:Nat),k+1=n/\n<=32+mo/\MMk R ⟨limL nm k,[],[],[]⟩ [] (.slice x n c) Ya Ya Ya w wr) (fun wr=>40 - lenAt R 0 wr)
   case atStart=>exact⟨0,1,_,_,rfl,by omega,HM.u⟩
   case round =>
    clear HM;obtain⟨k,n,x,c,hkn,hn,hm⟩:=hrel;obtain⟨q0,q1,q2,q3⟩:=quad hm.bx;by_cases hlt:n<32+mo
    . have hlt':(n:Int)<32+(mo:Int):=by omega
      have hm0:MMk R ⟨limL nm k,[],[],[]⟩ [] (.slice x n c) Ya Ya Ya w wr.drew:=hm.mono (bR _ _).drew;obtain⟨i0,hi0,hi1,hi2,hi3⟩:=info_parts qct;go_upto_region 7 with fail
      clear q0 q1 q2 q3;obtain⟨X,hX⟩:=Nq wr.drew;have hXs:X.heap.size=wr.heap.size:=(by rw[<- hX];rfl);refine wp_region_held_drew (S:=fun _=>True) (by kernel_rfl) trivial (fun zz=>?_);rw[hX]at hm0;obtain⟨x0,-⟩:=quad hm0.bx;refine tj 0 21 (Yc R 0) zz ?_;refine tj 2 23 (Yc R 0) zz ?_;simp only[sX,sY,sZ];rw[hX];refine wpAnyH_ready (rs:=[1,3]) (by kernel_rfl) (by simp) (consRun (v:=.slice x n c) (w':=X) 22 rfl rfl (by rfl) (by simp[execOp,go_sem,x0]) trivial ?oA (consRun (v:=.slice x n c) (w':=X) 24 rfl rfl (by rfl) (by simp[execOp,go_sem,x0]) trivial ?oB AllReadyH.nil))
      case' oA =>
       simp only[sX,sY,sZ];refine runG (i:=3) (v:=.slice x n c) (w':=X) 24 rfl rfl (by rfl) (by kernel_rfl) (by simp[execOp,go_sem,x0]) trivial ?_;simp only[sX,sY,sZ];refine runG (i:=4) (v:=J9 n) (w':=X) 25 rfl rfl (by rfl) (by kernel_rfl) (by simp[execOp,go_sem]) trivial ?_;simp only[sX,sY,sZ];refine callY (i:=5) (f:=69) (args:=#[J9 n]) (R:=fun u wz=>u=.string (nm n)/\Below X.heap.size X wz) 26 rfl rfl (by rfl) (by kernel_rfl) (by simp[execOp,go_sem]) ((HNm.u n (by omega) X).mono fun e w6 ⟨he,hb⟩=>⟨_,he,rfl,hb⟩) ?_;rintro u W1 ⟨rfl,hb⟩;have hm1:=hm0.mono hb;have hba:=(bR W1.heap.size W1).alloc (nR _) (.cells #[.string (nm n)] 9);have hNY:=Blk.new W1 9 #[.string (nm n)];obtain⟨Y,hY⟩:=Nq (W1.alloc (.cells #[.string (nm n)] 9));rw[hY]at hba hNY;have hm2:=hm1.mono hba;obtain⟨w0,-⟩:=quad hm1.bx;obtain⟨y0,-⟩:=quad hm2.bx;refine⟨trivial,?_⟩;simp only[sX,sY,sZ];refine runG (i:=6) (v:=.slice (some ⟨W1.heap.size,0,none⟩) 1 1) (w':=Y) 27 rfl rfl (by rfl) (by kernel_rfl) (by simp[execOp,go_sem,<- hY]) trivial ?_;simp only[sX,sY,sZ]
      case' oB =>
       simp only[sX,sY,sZ];refine wpAnyH_ready (rs:=[1,4]) (by kernel_rfl) (by simp) (consRun (v:=.slice x n c) (w':=X) 22 rfl rfl (by rfl) (by simp[execOp,go_sem,x0]) trivial ?oC (consRun (v:=J9 n) (w':=X) 25 rfl rfl (by rfl) (by simp[execOp,go_sem]) trivial ?oD AllReadyH.nil))
      case' oC =>
       simp only[sX,sY,sZ];refine runG (i:=4) (v:=J9 n) (w':=X) 25 rfl rfl (by rfl) (by kernel_rfl) (by simp[execOp,go_sem]) trivial ?_;simp only[sX,sY,sZ];refine callY (i:=5) (f:=69) (args:=#[J9 n]) (R:=fun u wz=>u=.string (nm n)/\Below X.heap.size X wz) 26 rfl rfl (by rfl) (by kernel_rfl) (by simp[execOp,go_sem]) ((HNm.u n (by omega) X).mono fun e w6 ⟨he,hb⟩=>⟨_,he,rfl,hb⟩) ?_;rintro u W1 ⟨rfl,hb⟩;have hm1:=hm0.mono hb;have hba:=(bR W1.heap.size W1).alloc (nR _) (.cells #[.string (nm n)] 9);have hNY:=Blk.new W1 9 #[.string (nm n)];obtain⟨Y,hY⟩:=Nq (W1.alloc (.cells #[.string (nm n)] 9));rw[hY]at hba hNY;have hm2:=hm1.mono hba;obtain⟨w0,-⟩:=quad hm1.bx;obtain⟨y0,-⟩:=quad hm2.bx;refine⟨trivial,?_⟩;simp only[sX,sY,sZ];refine runG (i:=6) (v:=.slice (some ⟨W1.heap.size,0,none⟩) 1 1) (w':=Y) 27 rfl rfl (by rfl) (by kernel_rfl) (by simp[execOp,go_sem,<- hY]) trivial ?_;simp only[sX,sY,sZ]
      case' oD =>
       simp only[sX,sY,sZ];refine wpAnyH_ready (rs:=[1,5]) (by kernel_rfl) (by simp) (consRun (v:=.slice x n c) (w':=X) 22 rfl rfl (by rfl) (by simp[execOp,go_sem,x0]) trivial ?oE (consCall (f:=69) (args:=#[J9 n]) (R:=fun u wz=>u=.string (nm n)/\Below X.heap.size X wz) 26 rfl rfl (by rfl) (by simp[execOp,go_sem]) ((HNm.u n (by omega) X).mono fun e w6 ⟨he,hb⟩=>⟨_,he,rfl,hb⟩) ?oF AllReadyH.nil))
      case' oE =>
       simp only[sX,sY,sZ];refine callY (i:=5) (f:=69) (args:=#[J9 n]) (R:=fun u wz=>u=.string (nm n)/\Below X.heap.size X wz) 26 rfl rfl (by rfl) (by kernel_rfl) (by simp[execOp,go_sem]) ((HNm.u n (by omega) X).mono fun e w6 ⟨he,hb⟩=>⟨_,he,rfl,hb⟩) ?_;rintro u W1 ⟨rfl,hb⟩;have hm1:=hm0.mono hb;have hba:=(bR W1.heap.size W1).alloc (nR _) (.cells #[.string (nm n)] 9);have hNY:=Blk.new W1 9 #[.string (nm n)];obtain⟨Y,hY⟩:=Nq (W1.alloc (.cells #[.string (nm n)] 9));rw[hY]at hba hNY;have hm2:=hm1.mono hba;obtain⟨w0,-⟩:=quad hm1.bx;obtain⟨y0,-⟩:=quad hm2.bx;refine⟨trivial,?_⟩;simp only[sX,sY,sZ];refine runG (i:=6) (v:=.slice (some ⟨W1.heap.size,0,none⟩) 1 1) (w':=Y) 27 rfl rfl (by rfl) (by kernel_rfl) (by simp[execOp,go_sem,<- hY]) trivial ?_;simp only[sX,sY,sZ]
      case' oF =>
       rintro u W1 ⟨rfl,hb⟩;have hm1:=hm0.mono hb;have hba:=(bR W1.heap.size W1).alloc (nR _) (.cells #[.string (nm n)] 9);have hNY:=Blk.new W1 9 #[.string (nm n)];obtain⟨Y,hY⟩:=Nq (W1.alloc (.cells #[.string (nm n)] 9));rw[hY]at hba hNY;have hm2:=hm1.mono hba;obtain⟨w0,-⟩:=quad hm1.bx;obtain⟨y0,-⟩:=quad hm2.bx;refine⟨trivial,?_⟩;simp only[sX,sY,sZ];refine wpAnyH_ready (rs:=[1,6]) (by kernel_rfl) (by simp) (consRun (v:=.slice x n c) (w':=W1) 22 rfl rfl (by rfl) (by simp[execOp,go_sem,w0]) trivial ?oG (consRun (v:=.slice (some ⟨W1.heap.size,0,none⟩) 1 1) (w':=Y) 27 rfl rfl (by rfl) (by simp[execOp,go_sem,<- hY]) trivial ?oH AllReadyH.nil))
      case' oG =>
       simp only[sX,sY,sZ];refine runG (i:=6) (v:=.slice (some ⟨W1.heap.size,0,none⟩) 1 1) (w':=Y) 27 rfl rfl (by rfl) (by kernel_rfl) (by simp[execOp,go_sem,<- hY]) trivial ?_;simp only[sX,sY,sZ]
      case' oH =>
       simp only[sX,sY,sZ];refine runG (i:=1) (v:=.slice x n c) (w':=Y) 22 rfl rfl (by rfl) (by kernel_rfl) (by simp[execOp,go_sem,y0]) trivial ?_;simp only[sX,sY,sZ]
      all_goals
       have hsz:=hm2.bl.size;refine appY (i:=7) 28 rfl rfl rfl (by kernel_rfl) (.tmp 22) (.tmp 27) 23 rfl w.heap.size 9 i0 _ 1 16 Tryz.underlying23 hi0 hi1 hi2 hi3 rfl (by omega) (.slice x n c) n (stV (limL nm k)) rfl (by have:=hm2.ow.l;unfold OwnS at this;rw[qd9,hkn]at this;exact this) ⟨W1.heap.size,0,none⟩ 1 1 [.string (nm n)] rfl rfl (fun j u hj=>by rw[show(⟨W1.heap.size,0,none⟩:Addr).add j=⟨W1.heap.size,j,none⟩ by simp[Addr.add];try exact fun h=>h.symm];exact(hNY.cell j).trans hj) (by simp[Value.oneCell']) (by omega) (by unfold maxLen;omega) (by omega) hsz _ rfl ?_;intro q cap W9 ho hgw hq9 hq10;have hb9:Below w.heap.size Y W9:=(bR w.heap.size Y).grown hgw hsz (fun g e=>q87 hm2.ow.l e);have hk9:Blk W9 R 28 [.slice x n c,Ya,Ya,Ya]:=(hgw.block _ hm2.bx.lt (fun e=>qdq hm2.ow.l hm2.bx (by decide) e.symm)).trans hm2.bx;have HM9:=h_ (hm2.addL (x:=nm n) (v':=.slice (some ⟨q,0,none⟩) (n+1) cap) (by show W9.ownsRow _ _ _ _ (limL nm k++[nm n]).length (stV (limL nm k++[nm n]));rw[Yg,qd9,hkn];unfold stV;rw[Zf];exact ho) hgw hb9);refine⟨trivial,?_⟩;simp only[sX,sY,sZ];refine tj 8 29 (Yc R 0) zz ?_;simp only[sX,sY,sZ];have v0:=hk9.cell 0;have vf:=hk9.free 0;simp only[Yh]at v0;refine storeY (i:=9) (w':=W9.setCell ⟨R,0,none⟩ (.slice (some ⟨q,0,none⟩) (n+1) cap)) rfl (by rfl) (by kernel_rfl) rfl (by simp[execOp,go_sem,v0,vf]) rfl trivial ?_;refine wpAnyH_done (by kernel_rfl) ?_ _;have HL:Hi (limL nm n=limL nm k++[nm n]):=h_ (by rw[<- hkn];rfl);dsimp only at HM9;rw[<- HL.u]at HM9;have hln:lenAt R 0 wr=n:=qd4 (quad hm.bx).1;have hln2:lenAt R 0 (W9.setCell ⟨R,0,none⟩ (.slice (some ⟨q,0,none⟩) (n+1) cap))=n+1:=qd4 (quad HM9.u.bx).1;have HLn:=h_ hln;have HLn2:=h_ hln2;clear zz ho hgw hb9 hk9 v0 vf hm hm0 hm1 hm2 hba hNY hY x0 w0 y0 hb hln hln2;go_wp2_with fail;go_roundw
       case rel=>exact⟨n,n+1,_,_,rfl,by omega,HM9.u⟩
       case measure=>rw[HLn.u,HLn2.u];omega
    . have hlt':¬ (n:Int)<32+(mo:Int):=by omega
      have HMr:=h_ hm;have hk31:k=31+mo:=(by omega);subst hk31;clear hm;go_wp2_with fail;go_meet;exact⟨_,HMr.u⟩
  case rest =>
   obtain⟨v1,hm⟩:=hcut;clear HM HNm;obtain⟨q0,q1,q2,q3⟩:=quad hm.bx;have HF:=h_ hm.fin;have HR0:=h_ hm.r0;obtain⟨x1,c1,rfl,-,-⟩:=hm.ow.l.strs;clear hm;go_wp2_with (refine wpList_store_row rfl 28 (.tmp 4) (.tmp 130) rfl w.heap.size #[.slice x1 (limL nm (31+mo)).length c1,Ya,Ya,Ya] rfl rfl 28 Jc HR0.u (by kernel_rfl) rfl (by simp[Value.oneCell']) ?_);clear q0 q1 q2 q3;obtain⟨y0,y1,y2,y3⟩:=quad HF.u.2.2;exact bodyPost_ret (v:=.agg #[.slice x1 (limL nm (31+mo)).length c1,Ya,Ya,Ya]) (by simp[results,Tryz.results67,go_sem,y0,y1,y2,y3]) rfl ⟨_,_,_,_,rfl,HF.u.1,HF.u.2.1⟩
def limP:Nat->List (Int × Int)
 | 0=>[]
 | k+1=>limP k++[(0,0)]
theorem qda:∀k,(limP k).length=k
 | 0=>rfl
 | k+1=>by show(limP k++_).length=_;rw[Yg,qda k];rfl
theorem qhq (b:Bool)(mo:Nat)(hmo:b.toNat=mo)(w:World) :
 Calls Tryz.prog 67 #[J9 1,.bool b] w fun e w'=>∃v1 v2 v3 v4,e=.returned (.agg #[v1,v2,v3,v4])/\OwM w' w.heap.size v1 v2 v3 v4 ⟨[lowS],limP (256+mo),[],[]⟩ []/\Below w.heap.size w w':=by
 have hm1:mo<=1:=by rw[<- hmo];cases b <;> decide
 have hb3:Below w.heap.size w (((w.alloc (.cells Jc 28)).alloc (.cells #[.string lowS] 9)).alloc (.cells (Ji (some ⟨w.heap.size+1,0,none⟩)) 28)):=(((bR w.heap.size w).alloc (nR _) _).alloc (by simp) _).alloc (by simp;omega) _
 go_enter Tryz.func67,Tryz.ntmps67
 go_upto_if 10 with fail
 go_cut [5] from 10 to 10 (fun s5 wx=>s5=J9 mo/\wx=w.alloc (.cells Jc 28))
 case first =>
  cases b
  . obtain rfl:mo=0:=by rw[<- hmo];rfl
    go_wp2_with fail;go_meet;exact⟨rfl,rfl⟩
  . obtain rfl:mo=1:=by rw[<- hmo];rfl
    go_wp2_with fail;go_meet;exact⟨rfl,rfl⟩
 case rest =>
  obtain⟨rfl,rfl⟩:=hcut;go_upto_region 5 with (refine q66 rfl 28 #[(0,.tmp 11)] rfl (Ji (some ⟨w.heap.size+1,0,none⟩)) (by kernel_rfl) ?_)
  have hS1:=(Blk.new (w.alloc (.cells Jc 28)) 9 #[.string lowS]).alloc (.cells (Ji (some ⟨w.heap.size+1,0,none⟩)) 28);have hX1:=Blk.new ((w.alloc (.cells Jc 28)).alloc (.cells #[.string lowS] 9)) 28 (Ji (some ⟨w.heap.size+1,0,none⟩));have hr1:=((Blk.new w 28 Jc).alloc (.cells #[.string lowS] 9)).alloc (.cells (Ji (some ⟨w.heap.size+1,0,none⟩)) 28);simp only[Yv]at hS1 hX1;obtain⟨W0,hW0⟩:=Nq (((w.alloc (.cells Jc 28)).alloc (.cells #[.string lowS] 9)).alloc (.cells (Ji (some ⟨w.heap.size+1,0,none⟩)) 28));rw[hW0]at hS1 hX1 hr1 hb3;have ol:OwnS W0 w.heap.size (.slice (some ⟨w.heap.size+1,0,none⟩) 1 1) [lowS]:=⟨rfl,.inr ⟨w.heap.size+1,1,_,rfl,by omega,hS1,nR _,by unfold maxLen;omega,rfl,rfl⟩⟩;have z:=OwM.nil W0 w.heap.size;have HM:Hi (MMk (w.heap.size+1+1) ⟨[lowS],limP 0,[],[]⟩ [] (.slice (some ⟨w.heap.size+1,0,none⟩) 1 1) Ya Ya Ya w W0):=h_ ⟨hX1,⟨ol,z.p,z.r,z.f,z.e⟩,hb3,hr1,by omega⟩;clear hS1 hX1 hr1 hb3 ol z;simp only[lowS]at hW0;rw[hW0];clear hW0;obtain⟨R,hR⟩:=Nq (w.heap.size+1+1);rw[hR]at HM;rw[hR];go_upto_if 31 with fail
  go_cut [31] from 32 to 43 (fun _ wx=>∃v2,MMk R ⟨[lowS],limP (256+mo),[],[]⟩ [] (.slice (some ⟨w.heap.size+1,0,none⟩) 1 1) v2 Ya Ya w wx)
  case first =>
   go_wp2_with fail;go_loopw [] (fun wr=>∃(k:Nat) (x:Option Addr) (c:Nat),k<=256+mo/\MMk R ⟨[lowS],limP k,[],[]⟩ [] (.slice (some ⟨w.heap.size+1,0,none⟩) 1 1) (.slice x k c) Ya Ya w wr) (fun wr=>300 - lenAt R 1 wr)
   case atStart=>exact⟨0,none,0,by omega,HM.u⟩
   case round =>
    clear HM;obtain⟨k,x,c,hk,hm⟩:=hrel;obtain⟨q0,q1,q2,q3⟩:=quad hm.bx;by_cases hlt:k<256+mo
    . have hlt':(k:Int)<256+(mo:Int):=by omega
      have el:=qda k;have HN:Hi (Blk _ _ 64 [J9 0,J9 0]):=h_ (Blk.new wr 64 #[J9 0,J9 0]);have hal:=(bR wr.heap.size wr).alloc (nR _) (.cells #[J9 0,J9 0] 64);have hm2:=hm.mono hal;have hln:lenAt R 1 wr=k:=qd4 q1;have HM2:=h_ hm2;have HLn:=h_ hln;have HEl:=h_ el;clear hm hal hm2 hln el;go_wp2_with (first | (refine q66 rfl 64 #[(0,.const (J9 0)),(1,.const (J9 0))] rfl #[J9 0,J9 0] (by kernel_rfl) ?_) | (at_builtin;refine qc2 (n:=((0,0):Int × Int)) rfl _ _ rfl rfl (show OwP _ w.heap.size (.slice x k c) (limP k) from HM2.u.ow.p) rfl HN.u (by have:=HEl.u;omega) HM2.u.bl.size ?_));intro v' W4 ho hg hb;have ho1:W4.ownsRow w.heap.size 64 2 v' (k+1) (pV (limP k++[(0,0)])):=by
       have:=ho;rw[HEl.u]at this;exact this
      obtain⟨b',c',ev,-,-⟩:=q8b ho1;subst ev;have hk4:Blk W4 R 28 [.slice (some ⟨w.heap.size+1,0,none⟩) 1 1,.slice x k c,Ya,Ya]:=(hg.block _ HM2.u.bx.lt (fun e=>qdq HM2.u.ow.p HM2.u.bx (by decide) e.symm)).trans HM2.u.bx;have c1:=hk4.cell 1;have f1:=hk4.free 1;have HM4:Hi (MMk R ⟨[lowS],limP (k+1),[],[]⟩ [] (.slice (some ⟨w.heap.size+1,0,none⟩) 1 1) (.slice b' (k+1) c') Ya Ya w (W4.setCell ⟨R,1,none⟩ (.slice b' (k+1) c'))):=h_ (HM2.u.addP (x:=(0,0)) (by show W4.ownsRow _ _ _ _ (limP k++[(0,0)]).length _;rw[Yg,HEl.u];exact ho1) hg hb);have hln2:lenAt R 1 (W4.setCell ⟨R,1,none⟩ (.slice b' (k+1) c'))=k+1:=qd4 (quad HM4.u.bx).2.1;have HLn2:=h_ hln2;clear ho ho1 hg hb hk4 hln2 q0 q1 q2 q3;go_wp2_with fail;go_roundw
      case rel=>exact⟨k+1,_,_,by omega,HM4.u⟩
      case measure=>rw[HLn.u,HLn2.u];omega
    . have hlt':¬ (k:Int)<256+(mo:Int):=by omega
      have HMr:=h_ hm;obtain rfl:k=256+mo:=(by omega);clear hm;go_wp2_with fail;go_meet;exact⟨_,HMr.u⟩
  case rest =>
   obtain⟨v2,hm⟩:=hcut;clear HM;obtain⟨q0,q1,q2,q3⟩:=quad hm.bx;have HF:=h_ hm.fin;have HR0:=h_ hm.r0;obtain⟨x1,c1,rfl,-,-⟩:=q8b hm.ow.p;clear hm;go_wp2_with (refine wpList_store_row rfl 28 (.tmp 4) (.tmp 130) rfl w.heap.size #[.slice (some ⟨w.heap.size+1,0,none⟩) 1 1,.slice x1 (limP (256+mo)).length c1,Ya,Ya] rfl rfl 28 Jc HR0.u (by kernel_rfl) rfl (by simp[Value.oneCell']) ?_);clear q0 q1 q2 q3;obtain⟨y0,y1,y2,y3⟩:=quad HF.u.2.2;exact bodyPost_ret (v:=.agg #[.slice (some ⟨w.heap.size+1,0,none⟩) 1 1,.slice x1 (limP (256+mo)).length c1,Ya,Ya]) (by simp[results,Tryz.results67,go_sem,y0,y1,y2,y3]) rfl ⟨_,_,_,_,rfl,HF.u.1,HF.u.2.1⟩
end Go.Proofs.YtebbgodlijlioaaGreatDoor
