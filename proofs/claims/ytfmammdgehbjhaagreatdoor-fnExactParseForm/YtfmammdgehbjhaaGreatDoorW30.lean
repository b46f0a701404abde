import Derived.Test.YtfmammdgehbjhaaGreatDoorW29
set_option maxRecDepth 100000
set_option maxHeartbeats 64000000
namespace Go.Proofs.YtfmammdgehbjhaaGreatDoor
open Go Go.RowKit
def Adm (R:Nat)(v:Value)(w w':World):Prop:=∀g,g<w.heap.size->g≠R->v.ownBlock≠some g->w'.heap[g]? = w.heap[g]?
theorem q8l {w w':World}{g o:Nat}(h:w'.heap[g]? = w.heap[g]?):w'.cell? ⟨g,o,none⟩=w.cell? ⟨g,o,none⟩:=World.cell?_of_block h
theorem add_0 (R base:Nat)(v1 v2 v3 v4 r4 r5 r6 r7 r8 m0 m1 m2 m3:Value)(m:Fm)(P:List (Fl × FA))(n:ByteArray)(t:Nat)(vl vr vi vh vv vm vR:Value)(sa:ByteArray)(vL:Value)(w:World)(hR:Blk w R 60 [v1,v2,v3,v4,r4,r5,r6,r7,r8,m0,m1,m2,m3])(hM:OwM w base v1 v2 v3 v4 m P)(hb:base<=w.heap.size)(hRb:R<base)(hl:m.L.length<=1000) :
 Calls Tryz.prog 65 #[Yd R 0,.agg (Jj n vl vr (t:Nat) vi vh vv sa vm),vL,vR] w fun e w'=>e=.returned (.tuple #[])/\∃v',Blk w' R 60 [v',v2,v3,v4,r4,r5,r6,r7,r8,m0,m1,m2,m3]/\OwM w' base v' v2 v3 v4 { m with L:=m.L++[n] } P/\Adm R v1 w w'/\Below R w w':=by
 have hRl:=hR.lt
 have hb0:=(bR w.heap.size w).alloc (nR _) (.cells (Jj n vl vr (t:Nat) vi vh vv sa vm) 96)
 have hS0:=Blk.new w 96 (Jj n vl vr (t:Nat) vi vh vv sa vm)
 obtain⟨W0,hW0⟩:=Nq (w.alloc (.cells (Jj n vl vr (t:Nat) vi vh vv sa vm) 96))
 have hz0:W0.heap.size=w.heap.size+1:=by rw[<- hW0];simp
 rw[hW0]at hb0 hS0
 have hdr:=hb0.drew
 obtain⟨X,hX⟩:=Nq W0.drew
 have hzX:X.heap.size=w.heap.size+1:=by rw[<- hX];exact hz0
 have hSX:Blk X w.heap.size 96 (Jj n vl vr (t:Nat) vi vh vv sa vm).toList:=by rw[<- hX];exact hS0.mono (bR _ _).drew hS0.lt
 rw[hX]at hdr
 have hsX:∀g,g<w.heap.size->g≠R->X.heap[g]? = w.heap[g]?:=fun g hg _=>hdr.block g hg
 have hRX:=hR.mono hdr hR.lt
 have hMX:=hM.mono hdr
 have hba:=(bR X.heap.size X).alloc (nR _) (.cells #[.string n] 9)
 have hNY:=Blk.new X 9 #[.string n]
 obtain⟨Y,hY⟩:=Nq (X.alloc (.cells #[.string n] 9))
 rw[hY]at hba hNY
 have hsY:∀g,g<w.heap.size->g≠R->Y.heap[g]? = w.heap[g]?:=fun g hg hgR=>(hba.block g (by omega)).trans (hsX g hg hgR)
 have hRY:=hRX.mono hba hRX.lt
 have hMY:=hMX.mono hba
 have hSY:=hSX.mono hba hSX.lt
 have hBY:Below R w Y:=(hdr.mono (by omega)).trans (hba.mono (by omega))
 have hzY:X.heap.size<=Y.heap.size:=hba.size
 obtain⟨⟨y0,y1,y2,y3,-⟩,-⟩:=thirteen hRX
 obtain⟨⟨z0,z1,z2,z3,-⟩,-⟩:=thirteen hRY
 obtain⟨⟨s0,s1,s2,s3,s4,s5,s6⟩,s7,s8,s9,s10,s11,s12⟩:=thirteen hS0
 obtain⟨i0,hi0,hi1,hi2,hi3⟩:=info_parts qcl
 go_enter Tryz.func65,Tryz.ntmps65
 go_upto_region 3 with fail
 try rw[hW0]
 refine wp_region_held_drew (S:=fun w'=>Blk w' w.heap.size 96 (Jj n vl vr (t:Nat) vi vh vv sa vm).toList/\True) (by kernel_rfl) (by rw[hX];exact⟨hSX,trivial⟩) (fun zz=>?_)
 refine tj 0 12 (Yd R 0) zz ?_
 refine tj 1 13 (Yd R 0) zz ?_
 refine tj 2 14 (Yd R 0) zz ?_
 refine tj 3 15 (Yd R 0) zz ?_
 simp only[sX,sY,sZ]
 refine tj 4 16 (Yd R 0) zz ?_
 refine tj 6 18 (Yd w.heap.size 1) zz ?_
 refine tj 7 19 (.string n) zz ?_ (hy:=fun w hS=>by obtain⟨⟨q0,q1,-⟩,-⟩:=thirteen hS.1;simp[execOp,go_sem,q1])
 simp only[sX,sY,sZ]
 rw[hX]
 refine wpAnyH_ready (rs:=[5,8]) (by kernel_rfl) (by simp) (consRun (v:=v1) (w':=X) 17 rfl rfl (by rfl) (by simp[execOp,go_sem,y0]) ⟨hSX,trivial⟩ ?oA (consRun (v:=.slice (some ⟨X.heap.size,0,none⟩) 1 1) (w':=Y) 20 rfl rfl (by rfl) (by simp[execOp,go_sem,<- hY]) ⟨hSY,trivial⟩ ?oB AllReadyH.nil))
 case' oA =>
  simp only[sX,sY,sZ];refine runZ (i:=8) (v:=.slice (some ⟨X.heap.size,0,none⟩) 1 1) (w':=Y) 20 rfl rfl (by rfl) (by kernel_rfl) (by simp[execOp,go_sem,<- hY]) ⟨hSY,trivial⟩ ?_;simp only[sX,sY,sZ]
 case' oB =>
  simp only[sX,sY,sZ];refine runZ (i:=5) (v:=v1) (w':=Y) 17 rfl rfl (by rfl) (by kernel_rfl) (by simp[execOp,go_sem,z0]) ⟨hSY,trivial⟩ ?_;simp only[sX,sY,sZ]
 all_goals
  refine appY (i:=9) 21 rfl rfl rfl (by kernel_rfl) (.tmp 17) (.tmp 20) 22 rfl base 9 i0 _ 1 16 Tryz.underlying22 hi0 hi1 hi2 hi3 rfl (by omega) v1 m.L.length (stV m.L) rfl hMY.l ⟨X.heap.size,0,none⟩ 1 1 [.string n] rfl rfl (fun j u hj=>by rw[show(⟨X.heap.size,0,none⟩:Addr).add j=⟨X.heap.size,j,none⟩ by simp[Addr.add];try exact fun h=>h.symm];exact(hNY.cell j).trans hj) (by simp[Value.oneCell']) (by omega) (by unfold maxLen;omega) (by omega) (by omega) _ rfl ?_;intro q cap W9 ho hgw hq9 hq10;have hs9:∀g,g<w.heap.size->g≠R->v1.ownBlock≠some g->W9.heap[g]? = w.heap[g]?:=fun g hg hgR hgo=>(hgw.block g (by omega) (fun e=>hgo e.symm)).trans (hsY g hg hgR);have hS9:=hSY.grown hgw (fun e=>qdg hMY.l hSY (by decide) e.symm);have hR9:=hRY.grown hgw (fun e=>qdg hMY.l hRY (by decide) e.symm);have hM9:=hMY.addL (x:=n) (v1':=.slice (some ⟨q,0,none⟩) (m.L.length+1) cap) (by rw[Yf];unfold stV;rw[Zt];exact ho) hgw;have hB9:Below R w W9:=hBY.grown hgw (by omega) (fun g e=>by have:=(qi2 hMY.l e).1;omega);refine⟨⟨hS9,trivial⟩,?_⟩;simp only[sX,sY,sZ];replace zz:(fun w'=>Blk w' w.heap.size 96 (Jj n vl vr (t:Nat) vi vh vv sa vm).toList/\True) W9:=⟨hS9,trivial⟩;refine tj 10 22 (Yd R 0) zz ?_;refine tj 11 23 (Yd R 0) zz ?_;refine tj 12 24 (Yd R 0) zz ?_;simp only[sX,sY,sZ];obtain⟨⟨x0,x1,x2,x3,-⟩,-⟩:=thirteen hR9;have xf:=hR9.free 0;have hsS:∀g,g<w.heap.size->g≠R->v1.ownBlock≠some g->(W9.setCell ⟨R,0,none⟩ (.slice (some ⟨q,0,none⟩) (m.L.length+1) cap)).heap[g]? = w.heap[g]?:=fun g hg hgR hgo=>(heap_setCell_other W9 ⟨R,0,none⟩ g _ (fun e=>hgR e)).trans (hs9 g hg hgR hgo);refine storeY (i:=13) (w':=W9.setCell ⟨R,0,none⟩ (.slice (some ⟨q,0,none⟩) (m.L.length+1) cap)) rfl (by rfl) (by kernel_rfl) rfl (by simp[execOp,go_sem,x0,xf]) rfl ⟨hS9.other (a:=⟨R,0,none⟩) _ (by show w.heap.size≠R;omega),trivial⟩ ?_;refine wpAnyH_done (by kernel_rfl) ?_ _;have HF:Hi (∃v',Blk (W9.setCell ⟨R,0,none⟩ (.slice (some ⟨q,0,none⟩) (m.L.length+1) cap)) R 60 [v',v2,v3,v4,r4,r5,r6,r7,r8,m0,m1,m2,m3]/\OwM (W9.setCell ⟨R,0,none⟩ (.slice (some ⟨q,0,none⟩) (m.L.length+1) cap)) base v' v2 v3 v4 { m with L:=m.L++[n] } P/\Adm R v1 w (W9.setCell ⟨R,0,none⟩ (.slice (some ⟨q,0,none⟩) (m.L.length+1) cap))/\Below R w (W9.setCell ⟨R,0,none⟩ (.slice (some ⟨q,0,none⟩) (m.L.length+1) cap))):=h_ ⟨_,hR9.set 0 _,hM9.one hR9 (by decide) (by decide) (by decide) (by decide) (by decide) (by decide) (cel_k W9 R 0 _),hsS,hB9.setCell (p:=⟨R,0,none⟩) (nR _) _⟩;clear zz hR9 hM9 hS9 hs9 hB9 ho hgw;go_wp2_with fail
  go_end0
  exact⟨rfl,HF.u⟩
theorem add_1 (R base:Nat)(v1 v2 v3 v4 r4 r5 r6 r7 r8 m0 m1 m2 m3:Value)(m:Fm)(P:List (Fl × FA))(t:Nat)(vl vr vi vh vv vm vR:Value)(sa:ByteArray)(gL cL:Nat)(l0 l1:Int)(w:World)(hR:Blk w R 60 [v1,v2,v3,v4,r4,r5,r6,r7,r8,m0,m1,m2,m3])(hM:OwM w base v1 v2 v3 v4 m P)(hb:base<=w.heap.size)(hRb:R<base)(hl:m.P.length<=1000)(hgL:gL<w.heap.size)(hgR:gL≠R)(hgv:v2.ownBlock≠some gL)(hc0:w.cell? ⟨gL,0,none⟩=some (Ya l0))(hc1:w.cell? ⟨gL,1,none⟩=some (Ya l1)) :
 Calls Tryz.prog 65 #[Yd R 0,.agg (Ji vl vr (t:Nat) vi vh vv sa vm),(.slice (some ⟨gL,0,none⟩) 2 cL),vR] w fun e w'=>e=.returned (.tuple #[])/\∃v',Blk w' R 60 [v1,v',v3,v4,r4,r5,r6,r7,r8,m0,m1,m2,m3]/\OwM w' base v1 v' v3 v4 { m with P:=m.P++[((l0,l1):Int × Int)] } P/\Adm R v2 w w'/\Below R w w':=by
 have hRl:=hR.lt
 have hb0:=(bR w.heap.size w).alloc (nR _) (.cells (Ji vl vr (t:Nat) vi vh vv sa vm) 96)
 have hS0:=Blk.new w 96 (Ji vl vr (t:Nat) vi vh vv sa vm)
 obtain⟨W0,hW0⟩:=Nq (w.alloc (.cells (Ji vl vr (t:Nat) vi vh vv sa vm) 96))
 have hz0:W0.heap.size=w.heap.size+1:=by rw[<- hW0];simp
 rw[hW0]at hb0 hS0
 have hdr:=hb0.drew
 obtain⟨X,hX⟩:=Nq W0.drew
 have hzX:X.heap.size=w.heap.size+1:=by rw[<- hX];exact hz0
 have hSX:Blk X w.heap.size 96 (Ji vl vr (t:Nat) vi vh vv sa vm).toList:=by rw[<- hX];exact hS0.mono (bR _ _).drew hS0.lt
 rw[hX]at hdr
 have hsX:∀g,g<w.heap.size->g≠R->X.heap[g]? = w.heap[g]?:=fun g hg _=>hdr.block g hg
 have hRX:=hR.mono hdr hR.lt
 have hMX:=hM.mono hdr
 have hba:=(bR X.heap.size X).alloc (nR _) (.cells (Jw l0 l1) 84)
 have hNY:=Blk.new X 84 (Jw l0 l1)
 obtain⟨Y,hY⟩:=Nq (X.alloc (.cells (Jw l0 l1) 84))
 rw[hY]at hba hNY
 have hsY:∀g,g<w.heap.size->g≠R->Y.heap[g]? = w.heap[g]?:=fun g hg hgR=>(hba.block g (by omega)).trans (hsX g hg hgR)
 have hRY:=hRX.mono hba hRX.lt
 have hMY:=hMX.mono hba
 have hSY:=hSX.mono hba hSX.lt
 have hBY:Below R w Y:=(hdr.mono (by omega)).trans (hba.mono (by omega))
 have hzY:X.heap.size<=Y.heap.size:=hba.size
 obtain⟨⟨y0,y1,y2,y3,-⟩,-⟩:=thirteen hRX
 obtain⟨⟨z0,z1,z2,z3,-⟩,-⟩:=thirteen hRY
 obtain⟨⟨s0,s1,s2,s3,s4,s5,s6⟩,s7,s8,s9,s10,s11,s12⟩:=thirteen hS0
 obtain⟨i0,hi0,hi1,hi2,hi3⟩:=info_parts qgp
 go_enter Tryz.func65,Tryz.ntmps65
 go_upto_region 5 with fail
 try rw[hW0]
 refine wp_region_held_drew (S:=fun w'=>Blk w' w.heap.size 96 (Ji vl vr (t:Nat) vi vh vv sa vm).toList/\w'.cell? ⟨gL,0,none⟩=some (Ya l0)/\w'.cell? ⟨gL,1,none⟩=some (Ya l1)) (by kernel_rfl) (by rw[hX];exact⟨hSX,⟨(q8l (hsX gL hgL hgR)).trans hc0,(q8l (hsX gL hgL hgR)).trans hc1⟩⟩) (fun zz=>?_)
 refine tj 0 27 (Yd R 0) zz ?_
 refine tj 1 28 (Yd R 0) zz ?_
 refine tj 2 29 (Yd R 0) zz ?_
 refine tj 3 30 (Yd R 0) zz ?_
 simp only[sX,sY,sZ]
 refine tj 4 31 (Yd R 1) zz ?_
 refine tj 6 33 (.slice (some ⟨gL,0,none⟩) 2 cL) zz ?_
 refine tj 7 34 (Yd gL 0) zz ?_
 refine tj 8 35 (Ya l0) zz ?_ (hy:=fun w hS=>by simp[execOp,go_sem,hS.2.1])
 simp only[sX,sY,sZ]
 refine tj 9 36 (.slice (some ⟨gL,0,none⟩) 2 cL) zz ?_
 refine tj 10 37 (Yd gL 1) zz ?_
 refine tj 11 38 (Ya l1) zz ?_ (hy:=fun w hS=>by simp[execOp,go_sem,hS.2.2])
 refine tj 12 39 (.agg (Jw l0 l1)) zz ?_
 simp only[sX,sY,sZ]
 rw[hX]
 refine wpAnyH_ready (rs:=[5,13]) (by kernel_rfl) (by simp) (consRun (v:=v2) (w':=X) 32 rfl rfl (by rfl) (by simp[execOp,go_sem,y1]) ⟨hSX,⟨(q8l (hsX gL hgL hgR)).trans hc0,(q8l (hsX gL hgL hgR)).trans hc1⟩⟩ ?oA (consRun (v:=.slice (some ⟨X.heap.size,0,none⟩) 1 1) (w':=Y) 40 rfl rfl (by rfl) (by simp[execOp,go_sem,<- hY]) ⟨hSY,⟨(q8l (hsY gL hgL hgR)).trans hc0,(q8l (hsY gL hgL hgR)).trans hc1⟩⟩ ?oB AllReadyH.nil))
 case' oA =>
  simp only[sX,sY,sZ];refine runZ (i:=13) (v:=.slice (some ⟨X.heap.size,0,none⟩) 1 1) (w':=Y) 40 rfl rfl (by rfl) (by kernel_rfl) (by simp[execOp,go_sem,<- hY]) ⟨hSY,⟨(q8l (hsY gL hgL hgR)).trans hc0,(q8l (hsY gL hgL hgR)).trans hc1⟩⟩ ?_;simp only[sX,sY,sZ]
 case' oB =>
  simp only[sX,sY,sZ];refine runZ (i:=5) (v:=v2) (w':=Y) 32 rfl rfl (by rfl) (by kernel_rfl) (by simp[execOp,go_sem,z1]) ⟨hSY,⟨(q8l (hsY gL hgL hgR)).trans hc0,(q8l (hsY gL hgL hgR)).trans hc1⟩⟩ ?_;simp only[sX,sY,sZ]
 all_goals
  refine appY (i:=14) 41 rfl rfl rfl (by kernel_rfl) (.tmp 32) (.tmp 40) 23 rfl base 84 i0 _ 2 16 Tryz.underlying23 hi0 hi1 hi2 hi3 rfl (by omega) v2 m.P.length (pV m.P) rfl hMY.p ⟨X.heap.size,0,none⟩ 1 1 [Ya l0,Ya l1] rfl rfl (fun j u hj=>by rw[show(⟨X.heap.size,0,none⟩:Addr).add j=⟨X.heap.size,j,none⟩ by simp[Addr.add];try exact fun h=>h.symm];exact(hNY.cell j).trans hj) (by simp[Value.oneCell']) (by omega) (by unfold maxLen;omega) (by omega) (by omega) _ rfl ?_;intro q cap W9 ho hgw hq9 hq10;have hs9:∀g,g<w.heap.size->g≠R->v2.ownBlock≠some g->W9.heap[g]? = w.heap[g]?:=fun g hg hgR hgo=>(hgw.block g (by omega) (fun e=>hgo e.symm)).trans (hsY g hg hgR);have hS9:=hSY.grown hgw (fun e=>qdg hMY.p hSY (by decide) e.symm);have hR9:=hRY.grown hgw (fun e=>qdg hMY.p hRY (by decide) e.symm);have hM9:=hMY.addP (x:=((l0,l1):Int × Int)) (v2':=.slice (some ⟨q,0,none⟩) (m.P.length+1) cap) (by rw[Yf];unfold pV;rw[Vg];exact ho) hgw;have hB9:Below R w W9:=hBY.grown hgw (by omega) (fun g e=>by have:=(qi2 hMY.p e).1;omega);refine⟨⟨hS9,⟨(q8l (hs9 gL hgL hgR hgv)).trans hc0,(q8l (hs9 gL hgL hgR hgv)).trans hc1⟩⟩,?_⟩;simp only[sX,sY,sZ];replace zz:(fun w'=>Blk w' w.heap.size 96 (Ji vl vr (t:Nat) vi vh vv sa vm).toList/\w'.cell? ⟨gL,0,none⟩=some (Ya l0)/\w'.cell? ⟨gL,1,none⟩=some (Ya l1)) W9:=⟨hS9,⟨(q8l (hs9 gL hgL hgR hgv)).trans hc0,(q8l (hs9 gL hgL hgR hgv)).trans hc1⟩⟩;refine tj 15 42 (Yd R 0) zz ?_;refine tj 16 43 (Yd R 0) zz ?_;refine tj 17 44 (Yd R 1) zz ?_;simp only[sX,sY,sZ];obtain⟨⟨x0,x1,x2,x3,-⟩,-⟩:=thirteen hR9;have xf:=hR9.free 1;have hsS:∀g,g<w.heap.size->g≠R->v2.ownBlock≠some g->(W9.setCell ⟨R,1,none⟩ (.slice (some ⟨q,0,none⟩) (m.P.length+1) cap)).heap[g]? = w.heap[g]?:=fun g hg hgR hgo=>(heap_setCell_other W9 ⟨R,1,none⟩ g _ (fun e=>hgR e)).trans (hs9 g hg hgR hgo);refine storeY (i:=18) (w':=W9.setCell ⟨R,1,none⟩ (.slice (some ⟨q,0,none⟩) (m.P.length+1) cap)) rfl (by rfl) (by kernel_rfl) rfl (by simp[execOp,go_sem,x1,xf]) rfl ⟨hS9.other (a:=⟨R,1,none⟩) _ (by show w.heap.size≠R;omega),⟨(q8l (hsS gL hgL hgR hgv)).trans hc0,(q8l (hsS gL hgL hgR hgv)).trans hc1⟩⟩ ?_;refine wpAnyH_done (by kernel_rfl) ?_ _;have HF:Hi (∃v',Blk (W9.setCell ⟨R,1,none⟩ (.slice (some ⟨q,0,none⟩) (m.P.length+1) cap)) R 60 [v1,v',v3,v4,r4,r5,r6,r7,r8,m0,m1,m2,m3]/\OwM (W9.setCell ⟨R,1,none⟩ (.slice (some ⟨q,0,none⟩) (m.P.length+1) cap)) base v1 v' v3 v4 { m with P:=m.P++[((l0,l1):Int × Int)] } P/\Adm R v2 w (W9.setCell ⟨R,1,none⟩ (.slice (some ⟨q,0,none⟩) (m.P.length+1) cap))/\Below R w (W9.setCell ⟨R,1,none⟩ (.slice (some ⟨q,0,none⟩) (m.P.length+1) cap))):=h_ ⟨_,hR9.set 1 _,hM9.one hR9 (by decide) (by decide) (by decide) (by decide) (by decide) (by decide) (cel_k W9 R 1 _),hsS,hB9.setCell (p:=⟨R,1,none⟩) (nR _) _⟩;clear zz hR9 hM9 hS9 hs9 hB9 ho hgw;go_wp2_with fail
  go_end0
  exact⟨rfl,HF.u⟩
theorem add_2 (R base:Nat)(v1 v2 v3 v4 r4 r5 r6 r7 r8 m0 m1 m2 m3:Value)(m:Fm)(P:List (Fl × FA))(n:ByteArray)(t:Nat)(vl vr vi vh vv vm vR:Value)(sa:ByteArray)(gL cL:Nat)(l0:Int)(w:World)(hR:Blk w R 60 [v1,v2,v3,v4,r4,r5,r6,r7,r8,m0,m1,m2,m3])(hM:OwM w base v1 v2 v3 v4 m P)(hb:base<=w.heap.size)(hRb:R<base)(hl:m.R.length<=1000)(hgL:gL<w.heap.size)(hgR:gL≠R)(hgv:v3.ownBlock≠some gL)(hc0:w.cell? ⟨gL,0,none⟩=some (Ya l0)) :
 Calls Tryz.prog 65 #[Yd R 0,.agg (Jk n vl vr (t:Nat) vi vh vv sa vm),(.slice (some ⟨gL,0,none⟩) 1 cL),vR] w fun e w'=>e=.returned (.tuple #[])/\∃v',Blk w' R 60 [v1,v2,v',v4,r4,r5,r6,r7,r8,m0,m1,m2,m3]/\OwM w' base v1 v2 v' v4 { m with R:=m.R++[(⟨n,l0⟩:Rl)] } P/\Adm R v3 w w'/\Below R w w':=by
 have hRl:=hR.lt
 have hb0:=(bR w.heap.size w).alloc (nR _) (.cells (Jk n vl vr (t:Nat) vi vh vv sa vm) 96)
 have hS0:=Blk.new w 96 (Jk n vl vr (t:Nat) vi vh vv sa vm)
 obtain⟨W0,hW0⟩:=Nq (w.alloc (.cells (Jk n vl vr (t:Nat) vi vh vv sa vm) 96))
 have hz0:W0.heap.size=w.heap.size+1:=by rw[<- hW0];simp
 rw[hW0]at hb0 hS0
 have hdr:=hb0.drew
 obtain⟨X,hX⟩:=Nq W0.drew
 have hzX:X.heap.size=w.heap.size+1:=by rw[<- hX];exact hz0
 have hSX:Blk X w.heap.size 96 (Jk n vl vr (t:Nat) vi vh vv sa vm).toList:=by rw[<- hX];exact hS0.mono (bR _ _).drew hS0.lt
 rw[hX]at hdr
 have hsX:∀g,g<w.heap.size->g≠R->X.heap[g]? = w.heap[g]?:=fun g hg _=>hdr.block g hg
 have hRX:=hR.mono hdr hR.lt
 have hMX:=hM.mono hdr
 have hba:=(bR X.heap.size X).alloc (nR _) (.cells #[.string n,Ya l0] 86)
 have hNY:=Blk.new X 86 #[.string n,Ya l0]
 obtain⟨Y,hY⟩:=Nq (X.alloc (.cells #[.string n,Ya l0] 86))
 rw[hY]at hba hNY
 have hsY:∀g,g<w.heap.size->g≠R->Y.heap[g]? = w.heap[g]?:=fun g hg hgR=>(hba.block g (by omega)).trans (hsX g hg hgR)
 have hRY:=hRX.mono hba hRX.lt
 have hMY:=hMX.mono hba
 have hSY:=hSX.mono hba hSX.lt
 have hBY:Below R w Y:=(hdr.mono (by omega)).trans (hba.mono (by omega))
 have hzY:X.heap.size<=Y.heap.size:=hba.size
 obtain⟨⟨y0,y1,y2,y3,-⟩,-⟩:=thirteen hRX
 obtain⟨⟨z0,z1,z2,z3,-⟩,-⟩:=thirteen hRY
 obtain⟨⟨s0,s1,s2,s3,s4,s5,s6⟩,s7,s8,s9,s10,s11,s12⟩:=thirteen hS0
 obtain⟨i0,hi0,hi1,hi2,hi3⟩:=info_parts qgq
 go_enter Tryz.func65,Tryz.ntmps65
 go_upto_region 7 with fail
 try rw[hW0]
 refine wp_region_held_drew (S:=fun w'=>Blk w' w.heap.size 96 (Jk n vl vr (t:Nat) vi vh vv sa vm).toList/\w'.cell? ⟨gL,0,none⟩=some (Ya l0)) (by kernel_rfl) (by rw[hX];exact⟨hSX,(q8l (hsX gL hgL hgR)).trans hc0⟩) (fun zz=>?_)
 refine tj 0 47 (Yd R 0) zz ?_
 refine tj 1 48 (Yd R 0) zz ?_
 refine tj 2 49 (Yd R 0) zz ?_
 refine tj 3 50 (Yd R 0) zz ?_
 simp only[sX,sY,sZ]
 refine tj 4 51 (Yd R 2) zz ?_
 refine tj 6 53 (Yd w.heap.size 1) zz ?_
 refine tj 7 54 (.string n) zz ?_ (hy:=fun w hS=>by obtain⟨⟨q0,q1,-⟩,-⟩:=thirteen hS.1;simp[execOp,go_sem,q1])
 refine tj 8 55 (.slice (some ⟨gL,0,none⟩) 1 cL) zz ?_
 simp only[sX,sY,sZ]
 refine tj 9 56 (Yd gL 0) zz ?_
 refine tj 10 57 (Ya l0) zz ?_ (hy:=fun w hS=>by simp[execOp,go_sem,hS.2])
 refine tj 11 58 (.agg #[.string n,Ya l0]) zz ?_
 simp only[sX,sY,sZ]
 rw[hX]
 refine wpAnyH_ready (rs:=[5,12]) (by kernel_rfl) (by simp) (consRun (v:=v3) (w':=X) 52 rfl rfl (by rfl) (by simp[execOp,go_sem,y2]) ⟨hSX,(q8l (hsX gL hgL hgR)).trans hc0⟩ ?oA (consRun (v:=.slice (some ⟨X.heap.size,0,none⟩) 1 1) (w':=Y) 59 rfl rfl (by rfl) (by simp[execOp,go_sem,<- hY]) ⟨hSY,(q8l (hsY gL hgL hgR)).trans hc0⟩ ?oB AllReadyH.nil))
 case' oA =>
  simp only[sX,sY,sZ];refine runZ (i:=12) (v:=.slice (some ⟨X.heap.size,0,none⟩) 1 1) (w':=Y) 59 rfl rfl (by rfl) (by kernel_rfl) (by simp[execOp,go_sem,<- hY]) ⟨hSY,(q8l (hsY gL hgL hgR)).trans hc0⟩ ?_;simp only[sX,sY,sZ]
 case' oB =>
  simp only[sX,sY,sZ];refine runZ (i:=5) (v:=v3) (w':=Y) 52 rfl rfl (by rfl) (by kernel_rfl) (by simp[execOp,go_sem,z2]) ⟨hSY,(q8l (hsY gL hgL hgR)).trans hc0⟩ ?_;simp only[sX,sY,sZ]
 all_goals
  refine appY (i:=13) 60 rfl rfl rfl (by kernel_rfl) (.tmp 52) (.tmp 59) 24 rfl base 86 i0 _ 2 24 Tryz.underlying24 hi0 hi1 hi2 hi3 rfl (by omega) v3 m.R.length (rV' m.R) rfl hMY.r ⟨X.heap.size,0,none⟩ 1 1 [.string n,Ya l0] rfl rfl (fun j u hj=>by rw[show(⟨X.heap.size,0,none⟩:Addr).add j=⟨X.heap.size,j,none⟩ by simp[Addr.add];try exact fun h=>h.symm];exact(hNY.cell j).trans hj) (by simp[Value.oneCell']) (by omega) (by unfold maxLen;omega) (by omega) (by omega) _ rfl ?_;intro q cap W9 ho hgw hq9 hq10;have hs9:∀g,g<w.heap.size->g≠R->v3.ownBlock≠some g->W9.heap[g]? = w.heap[g]?:=fun g hg hgR hgo=>(hgw.block g (by omega) (fun e=>hgo e.symm)).trans (hsY g hg hgR);have hS9:=hSY.grown hgw (fun e=>qdg hMY.r hSY (by decide) e.symm);have hR9:=hRY.grown hgw (fun e=>qdg hMY.r hRY (by decide) e.symm);have hM9:=hMY.addR (x:=(⟨n,l0⟩:Rl)) (v3':=.slice (some ⟨q,0,none⟩) (m.R.length+1) cap) (by rw[Yf];unfold rV';rw[Vg];exact ho) hgw;have hB9:Below R w W9:=hBY.grown hgw (by omega) (fun g e=>by have:=(qi2 hMY.r e).1;omega);refine⟨⟨hS9,(q8l (hs9 gL hgL hgR hgv)).trans hc0⟩,?_⟩;simp only[sX,sY,sZ];replace zz:(fun w'=>Blk w' w.heap.size 96 (Jk n vl vr (t:Nat) vi vh vv sa vm).toList/\w'.cell? ⟨gL,0,none⟩=some (Ya l0)) W9:=⟨hS9,(q8l (hs9 gL hgL hgR hgv)).trans hc0⟩;refine tj 14 61 (Yd R 0) zz ?_;refine tj 15 62 (Yd R 0) zz ?_;refine tj 16 63 (Yd R 2) zz ?_;simp only[sX,sY,sZ];obtain⟨⟨x0,x1,x2,x3,-⟩,-⟩:=thirteen hR9;have xf:=hR9.free 2;have hsS:∀g,g<w.heap.size->g≠R->v3.ownBlock≠some g->(W9.setCell ⟨R,2,none⟩ (.slice (some ⟨q,0,none⟩) (m.R.length+1) cap)).heap[g]? = w.heap[g]?:=fun g hg hgR hgo=>(heap_setCell_other W9 ⟨R,2,none⟩ g _ (fun e=>hgR e)).trans (hs9 g hg hgR hgo);refine storeY (i:=17) (w':=W9.setCell ⟨R,2,none⟩ (.slice (some ⟨q,0,none⟩) (m.R.length+1) cap)) rfl (by rfl) (by kernel_rfl) rfl (by simp[execOp,go_sem,x2,xf]) rfl ⟨hS9.other (a:=⟨R,2,none⟩) _ (by show w.heap.size≠R;omega),(q8l (hsS gL hgL hgR hgv)).trans hc0⟩ ?_;refine wpAnyH_done (by kernel_rfl) ?_ _;have HF:Hi (∃v',Blk (W9.setCell ⟨R,2,none⟩ (.slice (some ⟨q,0,none⟩) (m.R.length+1) cap)) R 60 [v1,v2,v',v4,r4,r5,r6,r7,r8,m0,m1,m2,m3]/\OwM (W9.setCell ⟨R,2,none⟩ (.slice (some ⟨q,0,none⟩) (m.R.length+1) cap)) base v1 v2 v' v4 { m with R:=m.R++[(⟨n,l0⟩:Rl)] } P/\Adm R v3 w (W9.setCell ⟨R,2,none⟩ (.slice (some ⟨q,0,none⟩) (m.R.length+1) cap))/\Below R w (W9.setCell ⟨R,2,none⟩ (.slice (some ⟨q,0,none⟩) (m.R.length+1) cap))):=h_ ⟨_,hR9.set 2 _,hM9.one hR9 (by decide) (by decide) (by decide) (by decide) (by decide) (by decide) (cel_k W9 R 2 _),hsS,hB9.setCell (p:=⟨R,2,none⟩) (nR _) _⟩;clear zz hR9 hM9 hS9 hs9 hB9 ho hgw;go_wp2_with fail
  go_end0
  exact⟨rfl,HF.u⟩
theorem add_3 (R base:Nat)(v1 v2 v3 v4 r4 r5 r6 r7 r8 m0 m1 m2 m3:Value)(m:Fm)(P:List (Fl × FA))(n:ByteArray)(t:Nat)(vl vr:Value)(bys:List Int)(e1 e2 e3 e4:List Nx)(aR ai ah av au:Option Addr)(cR ci ch cv cu:Nat)(sa:ByteArray)(aL:Option Addr)(nL cL:Nat)(lab:Int)(w:World)(hR:Blk w R 60 [v1,v2,v3,v4,r4,r5,r6,r7,r8,m0,m1,m2,m3])(hM:OwM w base v1 v2 v3 v4 m P)(hb:base<=w.heap.size)(hRb:R<base)(hl:m.F.length<=1000)(hFo:FOw w base (Fl.mk n ((t:Nat):Int) lab bys e1 e2 e3 sa e4) (FA.mk aR cR ai ci ah ch av cv au cu))
 (hL:(nL=0/\lab = -1)∨(nL=1/\∃g,aL=some ⟨g,0,none⟩/\g<w.heap.size/\w.cell? ⟨g,0,none⟩=some (Ya lab))) :
 Calls Tryz.prog 65 #[Yd R 0,.agg #[Ya 3,.string n,vl,vr,Yc,Ya (t:Nat),Ya 0,Yb,.slice ai e1.length ci,.slice ah e2.length ch,.slice av e3.length cv,.string sa,.slice au e4.length cu],.slice aL nL cL,.slice aR bys.length cR] w fun e w'=>e=.returned (.tuple #[])/\∃v',Blk w' R 60 [v1,v2,v3,v',r4,r5,r6,r7,r8,m0,m1,m2,m3]/\OwM w' base v1 v2 v3 v' { m with F:=m.F++[(Fl.mk n ((t:Nat):Int) lab bys e1 e2 e3 sa e4)] } (P++[(((Fl.mk n ((t:Nat):Int) lab bys e1 e2 e3 sa e4),(FA.mk aR cR ai ci ah ch av cv au cu)):Fl × FA)])/\Adm R v4 w w'/\Below R w w':=by
 have hRl:=hR.lt
 have hb0:=(bR w.heap.size w).alloc (nR _) (.cells #[Ya 3,.string n,vl,vr,Yc,Ya (t:Nat),Ya 0,Yb,.slice ai e1.length ci,.slice ah e2.length ch,.slice av e3.length cv,.string sa,.slice au e4.length cu] 96)
 have hS0:=Blk.new w 96 #[Ya 3,.string n,vl,vr,Yc,Ya (t:Nat),Ya 0,Yb,.slice ai e1.length ci,.slice ah e2.length ch,.slice av e3.length cv,.string sa,.slice au e4.length cu]
 obtain⟨W0,hW0⟩:=Nq (w.alloc (.cells #[Ya 3,.string n,vl,vr,Yc,Ya (t:Nat),Ya 0,Yb,.slice ai e1.length ci,.slice ah e2.length ch,.slice av e3.length cv,.string sa,.slice au e4.length cu] 96))
 have hz0:W0.heap.size=w.heap.size+1:=by rw[<- hW0];simp
 rw[hW0]at hb0 hS0
 obtain⟨⟨s0,s1,s2,s3,s4,s5,s6⟩,s7,s8,s9,s10,s11,s12⟩:=thirteen hS0
 have f4:=hS0.free 4
 have hS1:=hS0.set 4 (.string n)
 have g1:=hb0.setCell (p:=⟨w.heap.size,4,none⟩) (nR _) (.string n)
 have hS2:=hS1.set 6 (Ya (-1))
 have g2:=g1.setCell (p:=⟨w.heap.size,6,none⟩) (nR _) (Ya (-1))
 have hS3:Blk (((W0.setCell ⟨w.heap.size,4,none⟩ (.string n)).setCell ⟨w.heap.size,6,none⟩ (Ya (-1))).setCell ⟨w.heap.size,7,none⟩ (.slice aR bys.length cR)) w.heap.size 96 [Ya 3,.string n,vl,vr,.string n,Ya (t:Nat),Ya (-1),.slice aR bys.length cR,.slice ai e1.length ci,.slice ah e2.length ch,.slice av e3.length cv,.string sa,.slice au e4.length cu]:=hS2.set 7 (.slice aR bys.length cR)
 have g3:=g2.setCell (p:=⟨w.heap.size,7,none⟩) (nR _) (.slice aR bys.length cR)
 obtain⟨W3,hW3⟩:=Nq (((W0.setCell ⟨w.heap.size,4,none⟩ (.string n)).setCell ⟨w.heap.size,6,none⟩ (Ya (-1))).setCell ⟨w.heap.size,7,none⟩ (.slice aR bys.length cR))
 have hz3:W3.heap.size=w.heap.size+1:=by rw[<- hW3];simp[hz0]
 rw[hW3]at hS3 g3
 obtain⟨⟨p0,p1,p2,p3,p4,p5,p6⟩,p7,p8,p9,p10,p11,p12⟩:=thirteen hS1
 obtain⟨⟨q0,q1,q2,q3,q4,q5,q6⟩,q7,q8,q9,q10,q11,q12⟩:=thirteen hS2
 have f6:=hS1.free 6
 have f7:=hS2.free 7
 have HR:=h_ hR;have HM:=h_ hM;have HFo:=h_ hFo;have HL:=h_ hL
 clear hR hM hFo hL hb0 hS0 hS1 hS2 g1 g2
 go_enter Tryz.func65,Tryz.ntmps65
 go_upto_if 77 with fail
 try rw[hW0]
 try rw[hW3]
 clear hW0 hW3 s0 s1 s2 s3 s4 s5 s6 s7 s8 s9 s10 s11 s12 p0 p1 p2 p3 p4 p5 p6 p7 p8 p9 p10 p11 p12 q0 q1 q2 q3 q4 q5 q6 q7 q8 q9 q10 q11 q12 f4 f6 f7
 go_cut [] from 8 (fun wx=>Blk wx w.heap.size 96 [Ya 3,.string n,vl,vr,.string n,Ya (t:Nat),Ya lab,.slice aR bys.length cR,.slice ai e1.length ci,.slice ah e2.length ch,.slice av e3.length cv,.string sa,.slice au e4.length cu]/\Below w.heap.size w wx/\wx.heap.size=w.heap.size+1)
 case first =>
  as_aux_lemma =>
   rcases HL.u with ⟨rfl,rfl⟩ | ⟨rfl,g,rfl,hg,hc⟩
   . go_wp2_with fail
     go_meet;exact⟨hS3,g3,hz3⟩
   . have c0:=(g3.cell (p:=⟨g,0,none⟩) hg).trans hc
     obtain⟨⟨s0,s1,s2,s3,s4,s5,s6⟩,s7,s8,s9,s10,s11,s12⟩:=thirteen hS3;have f6:=hS3.free 6;have HX:Hi (Blk (W3.setCell ⟨w.heap.size,6,none⟩ (Ya lab)) w.heap.size 96 [Ya 3,.string n,vl,vr,.string n,Ya (t:Nat),Ya lab,.slice aR bys.length cR,.slice ai e1.length ci,.slice ah e2.length ch,.slice av e3.length cv,.string sa,.slice au e4.length cu]/\Below w.heap.size w (W3.setCell ⟨w.heap.size,6,none⟩ (Ya lab))/\(W3.setCell ⟨w.heap.size,6,none⟩ (Ya lab)).heap.size=w.heap.size+1):=h_ ⟨hS3.set 6 (Ya lab),g3.setCell (p:=⟨w.heap.size,6,none⟩) (nR _) _,by simp[hz3]⟩;go_wp2_with fail;go_meet;exact HX.u
 case rest =>
  obtain⟨hSc,hbc,hzc⟩:=hcut;clear hS3 g3 hz3;have hdr:=hbc.drew;obtain⟨X,hX⟩:=Nq wc.drew;have hzX:X.heap.size=w.heap.size+1:=by rw[<- hX];exact hzc
  have hSX:Blk X w.heap.size 96 [Ya 3,.string n,vl,vr,.string n,Ya (t:Nat),Ya lab,.slice aR bys.length cR,.slice ai e1.length ci,.slice ah e2.length ch,.slice av e3.length cv,.string sa,.slice au e4.length cu]:=by rw[<- hX];exact hSc.mono (bR _ _).drew hSc.lt
  rw[hX]at hdr;have hsX:∀g,g<w.heap.size->g≠R->X.heap[g]? = w.heap[g]?:=fun g hg _=>hdr.block g hg;have hRX:=HR.u.mono hdr HR.u.lt;have hMX:=HM.u.mono hdr;have hba:=(bR X.heap.size X).alloc (nR _) (.cells (Jp n (t:Nat) lab aR bys.length cR ai e1.length ci ah e2.length ch av e3.length cv sa au e4.length cu) 52);have hNY:=Blk.new X 52 (Jp n (t:Nat) lab aR bys.length cR ai e1.length ci ah e2.length ch av e3.length cv sa au e4.length cu);obtain⟨Y,hY⟩:=Nq (X.alloc (.cells (Jp n (t:Nat) lab aR bys.length cR ai e1.length ci ah e2.length ch av e3.length cv sa au e4.length cu) 52));rw[hY]at hba hNY;have hsY:∀g,g<w.heap.size->g≠R->Y.heap[g]? = w.heap[g]?:=fun g hg hgR=>(hba.block g (by omega)).trans (hsX g hg hgR);have hRY:=hRX.mono hba hRX.lt;have hMY:=hMX.mono hba;have hFY:=(HFo.u.mono hdr).mono hba;have hSY:=hSX.mono hba hSX.lt;have hBY:Below R w Y:=(hdr.mono (by omega)).trans (hba.mono (by omega));have hzY:X.heap.size<=Y.heap.size:=hba.size;have hPl:P.length<=1000:=by have h:=hl;rw[hMY.e,Zf]at h;exact h
  obtain⟨⟨y0,y1,y2,y3,-⟩,-⟩:=thirteen hRX;obtain⟨⟨z0,z1,z2,z3,-⟩,-⟩:=thirteen hRY;obtain⟨i0,hi0,hi1,hi2,hi3⟩:=info_parts qgl;go_upto_region 12 with fail
  refine wp_region_held_drew (S:=fun w'=>Blk w' w.heap.size 96 [Ya 3,.string n,vl,vr,.string n,Ya (t:Nat),Ya lab,.slice aR bys.length cR,.slice ai e1.length ci,.slice ah e2.length ch,.slice av e3.length cv,.string sa,.slice au e4.length cu]) (by kernel_rfl) (by rw[hX];exact hSX) (fun zz=>?_);refine tj 0 83 (Yd R 0) zz ?_;refine tj 1 84 (Yd R 0) zz ?_;refine tj 2 85 (Yd R 0) zz ?_;refine tj 3 86 (Yd R 0) zz ?_;simp only[sX,sY,sZ];refine tj 4 87 (Yd R 3) zz ?_;refine tj 6 89 (Yd w.heap.size 4) zz ?_;refine tj 7 90 (.agg (Jp n (t:Nat) lab aR bys.length cR ai e1.length ci ah e2.length ch av e3.length cv sa au e4.length cu)) zz ?_ (hy:=fun w hS=>by obtain⟨⟨-,-,-,-,q4,q5,q6⟩,q7,q8,q9,q10,q11,q12⟩:=thirteen hS;simp[execOp,go_sem,q4,q5,q6,q7,q8,q9,q10,q11,q12]);simp only[sX,sY,sZ];rw[hX];refine wpAnyH_ready (rs:=[5,8]) (by kernel_rfl) (by simp) (consRun (v:=v4) (w':=X) 88 rfl rfl (by rfl) (by simp[execOp,go_sem,y3]) hSX ?oA (consRun (v:=.slice (some ⟨X.heap.size,0,none⟩) 1 1) (w':=Y) 91 rfl rfl (by rfl) (by simp[execOp,go_sem,<- hY]) hSY ?oB AllReadyH.nil))
  case' oA =>
   simp only[sX,sY,sZ];refine runZ (i:=8) (v:=.slice (some ⟨X.heap.size,0,none⟩) 1 1) (w':=Y) 91 rfl rfl (by rfl) (by kernel_rfl) (by simp[execOp,go_sem,<- hY]) hSY ?_;simp only[sX,sY,sZ]
  case' oB =>
   simp only[sX,sY,sZ];refine runZ (i:=5) (v:=v4) (w':=Y) 88 rfl rfl (by rfl) (by kernel_rfl) (by simp[execOp,go_sem,z3]) hSY ?_;simp only[sX,sY,sZ]
  all_goals
   refine appY (i:=9) 92 rfl rfl rfl (by kernel_rfl) (.tmp 88) (.tmp 91) 25 rfl base 52 i0 _ 9 168 Tryz.underlying25 hi0 hi1 hi2 hi3 rfl (by omega) v4 P.length (fdV P) rfl hMY.f.row ⟨X.heap.size,0,none⟩ 1 1 [.string n,Ya (t:Nat),Ya lab,.slice aR bys.length cR,.slice ai e1.length ci,.slice ah e2.length ch,.slice av e3.length cv,.string sa,.slice au e4.length cu] rfl rfl (fun j u hj=>by rw[show(⟨X.heap.size,0,none⟩:Addr).add j=⟨X.heap.size,j,none⟩ by simp[Addr.add];try exact fun h=>h.symm];exact(hNY.cell j).trans hj) (by simp[Value.oneCell']) (by omega) (by unfold maxLen;omega) (by omega) (by omega) _ rfl ?_;intro q cap W9 ho hgw hq9 hq10;have hs9:∀g,g<w.heap.size->g≠R->v4.ownBlock≠some g->W9.heap[g]? = w.heap[g]?:=fun g hg hgR hgo=>(hgw.block g (by omega) (fun e=>hgo e.symm)).trans (hsY g hg hgR);have hS9:=hSY.grown hgw (fun e=>qdg hMY.f.row hSY (by decide) e.symm);have hR9:=hRY.grown hgw (fun e=>qdg hMY.f.row hRY (by decide) e.symm);have hM9:=hMY.addF (x:=(((Fl.mk n ((t:Nat):Int) lab bys e1 e2 e3 sa e4),(FA.mk aR cR ai ci ah ch av cv au cu)):Fl × FA)) (v4':=.slice (some ⟨q,0,none⟩) (P.length+1) cap) (by rw[Yf];unfold fdV;rw[Vg];exact ho) hgw hFY;have hB9:Below R w W9:=hBY.grown hgw (by omega) (fun g e=>by have:=(qi2 hMY.f.row e).1;omega);refine⟨hS9,?_⟩;simp only[sX,sY,sZ];replace zz:Blk W9 w.heap.size 96 [Ya 3,.string n,vl,vr,.string n,Ya (t:Nat),Ya lab,.slice aR bys.length cR,.slice ai e1.length ci,.slice ah e2.length ch,.slice av e3.length cv,.string sa,.slice au e4.length cu]:=hS9;refine tj 10 93 (Yd R 0) zz ?_;refine tj 11 94 (Yd R 0) zz ?_;refine tj 12 95 (Yd R 3) zz ?_;simp only[sX,sY,sZ];obtain⟨⟨x0,x1,x2,x3,-⟩,-⟩:=thirteen hR9;have xf:=hR9.free 3;have hsS:∀g,g<w.heap.size->g≠R->v4.ownBlock≠some g->(W9.setCell ⟨R,3,none⟩ (.slice (some ⟨q,0,none⟩) (P.length+1) cap)).heap[g]? = w.heap[g]?:=fun g hg hgR hgo=>(heap_setCell_other W9 ⟨R,3,none⟩ g _ (fun e=>hgR e)).trans (hs9 g hg hgR hgo);refine storeY (i:=13) (w':=W9.setCell ⟨R,3,none⟩ (.slice (some ⟨q,0,none⟩) (P.length+1) cap)) rfl (by rfl) (by kernel_rfl) rfl (by simp[execOp,go_sem,x3,xf]) rfl (hS9.other (a:=⟨R,3,none⟩) _ (by show w.heap.size≠R;omega)) ?_;refine wpAnyH_done (by kernel_rfl) ?_ _;have HF:Hi (∃v',Blk (W9.setCell ⟨R,3,none⟩ (.slice (some ⟨q,0,none⟩) (P.length+1) cap)) R 60 [v1,v2,v3,v',r4,r5,r6,r7,r8,m0,m1,m2,m3]/\OwM (W9.setCell ⟨R,3,none⟩ (.slice (some ⟨q,0,none⟩) (P.length+1) cap)) base v1 v2 v3 v' { m with F:=m.F++[(Fl.mk n ((t:Nat):Int) lab bys e1 e2 e3 sa e4)] } (P++[(((Fl.mk n ((t:Nat):Int) lab bys e1 e2 e3 sa e4),(FA.mk aR cR ai ci ah ch av cv au cu)):Fl × FA)])/\Adm R v4 w (W9.setCell ⟨R,3,none⟩ (.slice (some ⟨q,0,none⟩) (P.length+1) cap))/\Below R w (W9.setCell ⟨R,3,none⟩ (.slice (some ⟨q,0,none⟩) (P.length+1) cap))):=h_ ⟨_,hR9.set 3 _,hM9.one hR9 (by decide) (by decide) (by decide) (by decide) (by decide) (by decide) (cel_k W9 R 3 _),hsS,hB9.setCell (p:=⟨R,3,none⟩) (nR _) _⟩;clear zz hR9 hM9 hS9 hs9 hB9 ho hgw;go_wp2_with fail
   go_end0
   exact⟨rfl,HF.u⟩
end Go.Proofs.YtfmammdgehbjhaaGreatDoor
