import Derived.Test.YtfmammdgehbjhaaGreatDoorW28
set_option maxRecDepth 100000
set_option maxHeartbeats 64000000
namespace Go.Proofs.YtfmammdgehbjhaaGreatDoor
open Go Go.RowKit
theorem i64_n (n:Nat)(h:n<4294967296):IntKind.i64.wrap (n:Int)=(n:Int):=by
 simp[IntKind.wrap,IntKind.bits,IntKind.signed]
 omega
def isNm:Value->Bool
 | .map none=>true
 | _=>false
def Dsm (R:Nat)(mv:Value)(w w':World):Prop:=∀g,g<w.heap.size->g≠R->mv≠.map (some g)->w'.heap[g]? = w.heap[g]?
section
variable {md:Region.Mode} {ops:Array Oper} {Q:Exit->Act->World->Prop} {S:World->Prop} {o:Oper} {a:Act} {fuel:Nat} {listed:Array Bool} {i:Nat} {w:World}
theorem updY (hi:ops[i]? = some o)(hd:o.dst=none)(hw:Region.wanted o (yielded ops a.tmps)=true)(hr:Region.ready md ops listed=[i])(m x v:Operand)(hop:o.op=Op.mapUpdate 57 m x v)(b:Nat)(l:List ByteArray)(hm:a.eval m=.map (some b))(hown:PMap w b l)(hn:l.length<=1000000)(key:ByteArray)(hx:a.eval x=.string key)(hk:key.size<=9223372036854775807)(hv:a.eval v=Ya (l.length:Nat))
 (h:∀w',PMap w' b (l++[key])->w.grownBy w' (some b)->S w'/\wpAnyH Tryz.prog md ops Q S fuel (listed.setIfInBounds i true) a w'):wpAnyH Tryz.prog md ops Q S (fuel+1) listed a w:=by
 refine wpAnyH_ready hr (by simp) (AllReadyH.cons hi (fun K hK=>?_) AllReadyH.nil)
 rw[Yn hw]
 unfold Oper.wp
 obtain⟨w',hrun,r1,r2⟩:=World.ownsMap.update hown (Maps.string_keyed Tryz.underlying9) Tryz.underlying57 (by unfold maxLen;omega) (WideMaps.keyOf_string_mk Tryz.underlying9 hk) (plainElem_int Tryz.underlying3 (wf_nat (show l.length<=9223372036854775807 by omega)))
 have hp:PMap w' b (l++[key]):=by
  unfold PMap;rw[Yf,qho];exact r1
 obtain⟨h1,h2⟩:=h w' hp r2
 simp[execOp,hop,hm,hx,hv,hrun,Result.andThen]
 exact hK.out _ _ h1 (fun _=>by rw[hd];exact h2)
end
theorem q8q (R:Nat)(v1 v2 v3 v4 m0 m1 m2 m3:Value)(lat:Int)(c0 c1 c2 c3:Nat)(n:ByteArray)(t:Nat)(vl vr vi vh vv vm:Value)(sa:ByteArray)(lst:List ByteArray)(w:World)(hR:Blk w R 60 (J2 v1 v2 v3 v4 lat (c0:Nat) (c1:Nat) (c2:Nat) (c3:Nat) m0 m1 m2 m3))(hm:MpS w m0 lst)(hc:lst.length=c0)(hcb:c0<=1000)(hn:n.size<=1048576)(hne:n.toList.isEmpty=false)(hRb:∀b,m0=.map (some b)->R<b) :
 Calls Tryz.prog 64 #[Yd R 0,.agg (Jj n vl vr (t:Nat) vi vh vv sa vm)] w fun e w'=>e=.returned (.tuple #[])/\∃mv,Blk w' R 60 [v1,v2,v3,v4,Ya 0,Ya (c0+1:Nat),Ya (c1:Nat),Ya (c2:Nat),Ya (c3:Nat),mv,m1,m2,m3]/\MpS w' mv (lst++[n])/\Dsm R m0 w w'/\Below R w w'/\(∀b,mv=.map (some b)->m0=.map (some b)∨w.heap.size<=b):=by
 have hRl:=hR.lt
 have hb0:=(bR w.heap.size w).alloc (nR _) (.cells (Jj n vl vr (t:Nat) vi vh vv sa vm) 96)
 have hS:=Blk.new w 96 (Jj n vl vr (t:Nat) vi vh vv sa vm)
 have hR0:=hR.mono hb0 hR.lt
 have hm0:=hm.mono hb0
 obtain⟨W0,hW0⟩:=Nq (w.alloc (.cells (Jj n vl vr (t:Nat) vi vh vv sa vm) 96))
 rw[hW0]at hb0 hS hR0 hm0
 obtain⟨⟨s0,s1,s2,s3,s4,s5,s6⟩,s7,s8,s9,s10,s11,s12⟩:=thirteen hS
 obtain⟨⟨r0,r1,r2,r3,r4,r5,r6⟩,r7,r8,r9,r10,r11,r12⟩:=thirteen hR0
 have f4:=hR0.free 4
 have hR1:Blk (W0.setCell ⟨R,4,none⟩ (Ya 0)) R 60 [v1,v2,v3,v4,Ya 0,Ya (c0:Nat),Ya (c1:Nat),Ya (c2:Nat),Ya (c3:Nat),m0,m1,m2,m3]:=hR0.set 4 (Ya 0)
 have hS1:Blk (W0.setCell ⟨R,4,none⟩ (Ya 0)) w.heap.size 96 (Jj n vl vr (t:Nat) vi vh vv sa vm).toList:=hS.other (a:=⟨R,4,none⟩) (Ya 0) (by show w.heap.size≠R;omega)
 obtain⟨W1,hW1⟩:=Nq (W0.setCell ⟨R,4,none⟩ (Ya 0))
 rw[hW1]at hR1 hS1
 go_enter Tryz.func64,Tryz.ntmps64
 go_upto_region 2 with fail
 try rw[hW0]
 try rw[hW1]
 clear s0 s1 s2 s3 s4 s5 s6 s7 s8 s9 s10 s11 s12 r0 r1 r2 r3 r4 r5 r6 r7 r8 r9 r10 r11 r12 f4
 obtain⟨⟨s0,s1,s2,s3,s4,s5,s6⟩,s7,s8,s9,s10,s11,s12⟩:=thirteen hS1
 obtain⟨⟨r0,r1,r2,r3,r4,r5,r6⟩,r7,r8,r9,r10,r11,r12⟩:=thirteen hR1
 have hmm:=@run_makeMap Tryz.prog
 have hz1:w.heap.size<W1.heap.size:=hS1.lt
 have hbB:Below R w W1:=by rw[<- hW1];exact(hb0.mono (V8 hRl)).setCell (p:=⟨R,4,none⟩) (nR _) _
 have hsm:∀g,g<w.heap.size->g≠R->W1.heap[g]? = w.heap[g]?:=fun g hg hgR=>by rw[<- hW1];exact(heap_setCell_other W0 ⟨R,4,none⟩ g _ (fun e=>hgR e)).trans (hb0.block g hg)
 have HS1:=h_ hS1;have HR1:=h_ hR1;have HBB:=h_ hbB;have HSM:=h_ hsm
 have hR0':=hR0
 clear s0 s1 s2 s3 s4 s5 s6 s7 s8 s9 s10 s11 s12 r0 r1 r2 r3 r4 r5 r6 r7 r8 r9 r10 r11 r12 hS1 hR1 hbB hsm hb0 hS hR0 hR
 obtain⟨X1,hX1⟩:=Nq W1.drew
 have hSd:Blk X1 R 60 [v1,v2,v3,v4,Ya 0,Ya (c0:Nat),Ya (c1:Nat),Ya (c2:Nat),Ya (c3:Nat),m0,m1,m2,m3]/\Blk X1 w.heap.size 96 (Jj n vl vr (t:Nat) vi vh vv sa vm).toList:=by rw[<- hX1];exact⟨HR1.u.mono (bR _ _).drew HR1.u.lt,HS1.u.mono (bR _ _).drew HS1.u.lt⟩
 have HM0:=h_ (show MpS X1 m0 lst by rw[<- hX1,<- hW1];exact(by rcases hm0 with h | ⟨b,h1,h2⟩;exact .inl h;exact .inr ⟨b,h1,h2.same (heap_setCell_other W0 ⟨R,4,none⟩ b _ (h2.ne hR0'))⟩))
 have HSd:=h_ hSd
 have HBX:Hi (Below R w X1):=h_ (by rw[<- hX1];exact HBB.u.drew)
 have HSX:Hi (∀g,g<w.heap.size->g≠R->X1.heap[g]? = w.heap[g]?):=h_ (by rw[<- hX1];exact HSM.u)
 have hzX:w.heap.size<X1.heap.size:=hSd.2.lt
 clear hSd hm0
 obtain⟨isn,hisn⟩:=Nq (isNm m0)
 go_cut [16] from 4 (fun s wx=>s=.bool isn/\wx=X1)
 case first =>
  as_aux_lemma =>
   refine wp_region_held_drew (S:=fun w'=>Blk w' R 60 [v1,v2,v3,v4,Ya 0,Ya (c0:Nat),Ya (c1:Nat),Ya (c2:Nat),Ya (c3:Nat),m0,m1,m2,m3]/\Blk w' w.heap.size 96 (Jj n vl vr (t:Nat) vi vh vv sa vm).toList) (by kernel_rfl) (by rw[hX1];exact HSd.u) (fun zz=>?_);refine tj 0 9 (Yd R 0) zz ?_;refine tj 1 10 (Yd w.heap.size 0) zz ?_;refine tj 2 11 (Ya 0) zz ?_ (hy:=fun w hS=>by obtain⟨⟨q0,-⟩,-⟩:=thirteen hS.2;simp[execOp,go_sem,q0]);refine tj 3 12 (Yd R 0) zz ?_;simp only[sX,sY,sZ];refine tj 4 13 (Yd R 9) zz ?_;refine tj 5 14 (Yd R 9) zz ?_;refine tj 6 15 m0 zz ?_ (hy:=fun w hS=>by obtain⟨-,q7,q8,q9,q10,q11,q12⟩:=thirteen hS.1;simp[execOp,go_sem,q9]);simp only[sX,sY,sZ];have hmv:=HM0.u;rcases hmv with ⟨rfl,-⟩ | ⟨b,rfl,-⟩
   . obtain rfl:true=isn:=hisn
     refine tj 7 16 (.bool true) zz ?_ (hy:=fun w hS=>by first | (simp[execOp,go_sem];done) | kernel_rfl);simp only[sX,sY,sZ];refine wpAnyH_done (by kernel_rfl) ?_ _;rw[hX1];go_wp2_with fail;go_meet;exact⟨rfl,rfl⟩
   . obtain rfl:false=isn:=hisn
     refine tj 7 16 (.bool false) zz ?_ (hy:=fun w hS=>by first | (simp[execOp,go_sem];done) | kernel_rfl);simp only[sX,sY,sZ];refine wpAnyH_done (by kernel_rfl) ?_ _;rw[hX1];go_wp2_with fail;go_meet;exact⟨rfl,rfl⟩
 obtain⟨rfl,hwx⟩:=hcut
 subst hwx
 obtain⟨X1,hX1'⟩:∃X1,X1=wc:=⟨_,rfl⟩
 subst hX1'
 clear hX1
 rename_i hK0
 refine hK0 _ _ ?_
 clear hK0
 go_cut [] from 4 (fun wx=>∃b,Blk wx R 60 [v1,v2,v3,v4,Ya 0,Ya (c0:Nat),Ya (c1:Nat),Ya (c2:Nat),Ya (c3:Nat),.map (some b),m1,m2,m3]/\Blk wx w.heap.size 96 (Jj n vl vr (t:Nat) vi vh vv sa vm).toList/\PMap wx b lst/\Dsm R m0 w wx/\Below R w wx/\(m0=.map (some b)∨w.heap.size<=b)/\R<b)
 case first =>
  as_aux_lemma =>
   have hmv:=HM0.u;rcases hmv with ⟨rfl,rfl⟩ | ⟨b,rfl,hp⟩
   . obtain rfl:true=isn:=hisn
     have hdr:=(bR X1.heap.size X1).drew;obtain⟨X2,hX2⟩:=Nq X1.drew;rw[hX2]at hdr;have hz2:X2.heap.size=X1.heap.size:=(by rw[<- hX2];rfl);have hR2:=HSd.u.1.mono hdr HSd.u.1.lt;have hS2:=HSd.u.2.mono hdr HSd.u.2.lt;have hba:=(bR X2.heap.size X2).alloc (nR _) (.map #[] 0);have hmd:(X2.alloc (.map #[] 0)).ownsMap Tryz.prog 9 (plainElem (H:=Unit) Tryz.prog 3) X2.heap.size 0 (mp []):=World.ownsMap_made _ _ _ _;have hR3:=hR2.mono hba hR2.lt;have hS3:=hS2.mono hba hS2.lt;obtain⟨⟨r0,r1,r2,r3,r4,r5,r6⟩,r7,r8,r9,r10,r11,r12⟩:=thirteen hR3;have fo:=hR3.free 9;have hR4:=hR3.set 9 (.map (some X2.heap.size));have hS4:Blk ((X2.alloc (.map #[] 0)).setCell ⟨R,9,none⟩ (.map (some X2.heap.size))) w.heap.size 96 (Jj n vl vr (t:Nat) vi vh vv sa vm).toList:=hS3.other (a:=⟨R,9,none⟩) (.map (some X2.heap.size)) (by show w.heap.size≠R;omega);have hp4:PMap ((X2.alloc (.map #[] 0)).setCell ⟨R,9,none⟩ (.map (some X2.heap.size))) X2.heap.size []:=PMap.same hmd (heap_setCell_other _ ⟨R,9,none⟩ X2.heap.size _ (by show X2.heap.size≠R;omega));have HX:Hi (∃b,Blk ((X2.alloc (.map #[] 0)).setCell ⟨R,9,none⟩ (.map (some X2.heap.size))) R 60 [v1,v2,v3,v4,Ya 0,Ya (c0:Nat),Ya (c1:Nat),Ya (c2:Nat),Ya (c3:Nat),.map (some b),m1,m2,m3]/\Blk ((X2.alloc (.map #[] 0)).setCell ⟨R,9,none⟩ (.map (some X2.heap.size))) w.heap.size 96 (Jj n vl vr (t:Nat) vi vh vv sa vm).toList/\PMap ((X2.alloc (.map #[] 0)).setCell ⟨R,9,none⟩ (.map (some X2.heap.size))) b []/\Dsm R (.map none) w ((X2.alloc (.map #[] 0)).setCell ⟨R,9,none⟩ (.map (some X2.heap.size)))/\Below R w ((X2.alloc (.map #[] 0)).setCell ⟨R,9,none⟩ (.map (some X2.heap.size)))/\(Value.map none=Value.map (some b)∨w.heap.size<=b)/\R<b):=h_ ⟨X2.heap.size,hR4,hS4,hp4,(fun g hg hgR _=>(heap_setCell_other _ ⟨R,9,none⟩ g _ (fun e=>hgR e)).trans ((hba.block g (by omega)).trans ((hdr.block g (by omega)).trans (HSX.u g hg hgR)))),((HBX.u.trans ((hdr.trans (hba.mono (by omega))).mono (by omega))).setCell (p:=⟨R,9,none⟩) (nR _) _),.inr (by omega),by omega⟩;clear hz2;go_upto_region 3 with fail
     refine wp_region_held_drew (S:=fun w'=>Blk w' w.heap.size 96 (Jj n vl vr (t:Nat) vi vh vv sa vm).toList) (by kernel_rfl) (by rw[hX2];exact hS2) (fun zz=>?_);refine tj 0 17 (Yd R 0) zz ?_;refine tj 1 18 (Yd w.heap.size 0) zz ?_;refine tj 2 19 (Ya 0) zz ?_ (hy:=fun w hS=>by obtain⟨⟨q0,-⟩,-⟩:=thirteen hS;simp[execOp,go_sem,q0]);refine tj 4 21 (Yd R 0) zz ?_;simp only[sX,sY,sZ];refine tj 5 22 (Yd R 9) zz ?_;simp only[sX,sY,sZ];rw[hX2];refine runZ (i:=3) (v:=.map (some X2.heap.size)) (w':=X2.alloc (.map #[] 0)) 20 rfl rfl (by rfl) (by kernel_rfl) (by simp[execOp,go_sem,hmm]) hS3 ?_;simp only[sX,sY,sZ];replace zz:=hS3;refine tj 6 23 (Yd R 9) zz ?_;simp only[sX,sY,sZ];refine storeY (i:=7) (w':=(X2.alloc (.map #[] 0)).setCell ⟨R,9,none⟩ (.map (some X2.heap.size))) rfl (by rfl) (by kernel_rfl) rfl (by simp[execOp,go_sem,r9,fo]) rfl hS4 ?_;refine wpAnyH_done (by kernel_rfl) ?_ _;clear zz;go_wp2_with fail;go_meet;exact HX.u
   . obtain rfl:false=isn:=hisn
     have HX:Hi (∃b',Blk X1 R 60 [v1,v2,v3,v4,Ya 0,Ya (c0:Nat),Ya (c1:Nat),Ya (c2:Nat),Ya (c3:Nat),.map (some b'),m1,m2,m3]/\Blk X1 w.heap.size 96 (Jj n vl vr (t:Nat) vi vh vv sa vm).toList/\PMap X1 b' lst/\Dsm R (.map (some b)) w X1/\Below R w X1/\(Value.map (some b)=Value.map (some b')∨w.heap.size<=b')/\R<b'):=h_ ⟨b,HSd.u.1,HSd.u.2,hp,(fun g hg hgR _=>HSX.u g hg hgR),HBX.u,.inl rfl,hRb b rfl⟩;go_wp2_with fail;go_meet;exact HX.u
 case rest =>
  obtain⟨b,hR5,hS5,hp5,hd5,hb5,ho5,hRb5⟩:=hcut;clear HSd HM0 HBX HSX HSM HBB HR1 HS1;have HD5:=h_ hd5;have HB5:=h_ hb5;have HO5:=h_ ho5;have hz5:w.heap.size<wc.heap.size:=hS5.lt;obtain⟨⟨s0,s1,s2,s3,s4,s5,s6⟩,s7,s8,s9,s10,s11,s12⟩:=thirteen hS5;clear hd5 hb5 ho5;have hdr:=(bR wc.heap.size wc).drew;obtain⟨X5,hX5⟩:=Nq wc.drew;rw[hX5]at hdr;have hR6:=hR5.mono hdr hR5.lt;have hS6:=hS5.mono hdr hS5.lt;have hp6:=hp5.mono hdr;go_upto_region 5 with fail
  refine wp_region_held_drew (S:=fun w'=>Blk w' R 60 [v1,v2,v3,v4,Ya 0,Ya (c0:Nat),Ya (c1:Nat),Ya (c2:Nat),Ya (c3:Nat),.map (some b),m1,m2,m3]/\Blk w' w.heap.size 96 (Jj n vl vr (t:Nat) vi vh vv sa vm).toList) (by kernel_rfl) (by rw[hX5];exact⟨hR6,hS6⟩) (fun zz=>?_);refine tj 0 27 (Yd R 0) zz ?_;refine tj 1 28 (Yd w.heap.size 0) zz ?_;refine tj 2 29 (Ya 0) zz ?_ (hy:=fun w hS=>by obtain⟨⟨q0,-⟩,-⟩:=thirteen hS.2;simp[execOp,go_sem,q0]);refine tj 3 30 (Yd R 0) zz ?_;simp only[sX,sY,sZ];refine tj 4 31 (Yd R 9) zz ?_;refine tj 5 32 (Yd R 9) zz ?_;refine tj 6 33 (.map (some b)) zz ?_ (hy:=fun w hS=>by obtain⟨-,q7,q8,q9,q10,q11,q12⟩:=thirteen hS.1;simp[execOp,go_sem,q9]);refine tj 7 34 (Yd w.heap.size 1) zz ?_;simp only[sX,sY,sZ];refine tj 8 35 (.string n) zz ?_ (hy:=fun w hS=>by obtain⟨⟨q0,q1,-⟩,-⟩:=thirteen hS.2;simp[execOp,go_sem,q1]);refine tj 9 36 (Yd R 0) zz ?_;refine tj 10 37 (Yd w.heap.size 0) zz ?_;refine tj 11 38 (Ya 0) zz ?_ (hy:=fun w hS=>by obtain⟨⟨q0,-⟩,-⟩:=thirteen hS.2;simp[execOp,go_sem,q0]);simp only[sX,sY,sZ];refine tj 12 39 (Yd R 0) zz ?_;refine tj 13 40 (Yd R 5) zz ?_;refine tj 14 41 (Yd R 5) zz ?_;refine tj 15 42 (Ya (c0:Nat)) zz ?_ (hy:=fun w hS=>by obtain⟨⟨q0,q1,q2,q3,q4,q5,q6⟩,q7,q8,-⟩:=thirteen hS.1;simp[execOp,go_sem,q5]);simp only[sX,sY,sZ];rw[hX5];refine updY (i:=16) rfl rfl (by rfl) (by kernel_rfl) (.tmp 33) (.tmp 35) (.tmp 42) rfl b lst rfl hp6 (by omega) n rfl (by omega) (by rw[hc];rfl) ?_;intro W7 hp7 hg7;have hR7:=hR6.grown hg7 (fun e=>by injection e with e;omega);have hS7:=hS6.grown hg7 (fun e=>hp6.ne hS6 (Vb e).symm);refine⟨⟨hR7,hS7⟩,?_⟩;refine wpAnyH_done (by kernel_rfl) ?_ _;clear zz s0 s1 s2 s3 s4 s5 s6 s7 s8 s9 s10 s11 s12;have hdr7:=(bR W7.heap.size W7).drew;obtain⟨X7,hX7⟩:=Nq W7.drew;rw[hX7]at hdr7;have hR8:=hR7.mono hdr7 hR7.lt;have hS8:=hS7.mono hdr7 hS7.lt;have hp8:=hp7.mono hdr7;obtain⟨⟨r0,r1,r2,r3,r4,r5,r6⟩,r7,r8,r9,r10,r11,r12⟩:=thirteen hR8;have fo:=hR8.free 5;obtain⟨cn,hcn⟩:=Nq (c0+1);have hcn':(c0:Int)+1=(cn:Int):=by omega
  have hwr:IntKind.i64.wrap (cn:Int)=(cn:Int):=i64_n cn (by omega);have hR9:Blk (X7.setCell ⟨R,5,none⟩ (Ya (cn:Nat))) R 60 [v1,v2,v3,v4,Ya 0,Ya (cn:Nat),Ya (c1:Nat),Ya (c2:Nat),Ya (c3:Nat),.map (some b),m1,m2,m3]:=hR8.set 5 (Ya (cn:Nat));have hS9:Blk (X7.setCell ⟨R,5,none⟩ (Ya (cn:Nat))) w.heap.size 96 (Jj n vl vr (t:Nat) vi vh vv sa vm).toList:=hS8.other (a:=⟨R,5,none⟩) _ (by show w.heap.size≠R;omega);have hsz:wc.heap.size<=X7.heap.size:=Yt hdr.size (Yt hg7.size hdr7.size);have HFin:Hi (∃mv,Blk (X7.setCell ⟨R,5,none⟩ (Ya (cn:Nat))) R 60 [v1,v2,v3,v4,Ya 0,Ya (cn:Nat),Ya (c1:Nat),Ya (c2:Nat),Ya (c3:Nat),mv,m1,m2,m3]/\MpS (X7.setCell ⟨R,5,none⟩ (Ya (cn:Nat))) mv (lst++[n])/\Dsm R m0 w (X7.setCell ⟨R,5,none⟩ (Ya (cn:Nat)))/\Below R w (X7.setCell ⟨R,5,none⟩ (Ya (cn:Nat)))/\(∀b,mv=.map (some b)->m0=.map (some b)∨w.heap.size<=b)):=h_ ⟨.map (some b),hR9,.inr ⟨b,rfl,hp8.same (heap_setCell_other X7 ⟨R,5,none⟩ b _ (by show b≠R;omega))⟩,(fun g hg hgR hgm=>(heap_setCell_other X7 ⟨R,5,none⟩ g _ (fun e=>hgR e)).trans ((hdr7.block g (by have:=hg7.size;have:=hdr.size;omega)).trans ((hg7.block g (by have:=hdr.size;omega) (fun e=>by
   injection e with e
   subst e;rcases HO5.u with h | h
   . exact hgm h
   . omega)).trans ((hdr.block g (by omega)).trans (HD5.u g hg hgR hgm))))),(((HB5.u.trans (hdr.mono (by omega))).grown hg7 (by have:=hdr.size;omega) (fun k e=>by injection e with e;omega)).trans (hdr7.mono (by have:=hg7.size;have:=hdr.size;omega))).setCell (p:=⟨R,5,none⟩) (nR _) _,(fun b' e=>by injection e with e;injection e with e;subst e;exact HO5.u)⟩
  go_upto_region 6 with fail
  refine wp_region_held_drew (S:=fun w'=>Blk w' w.heap.size 96 (Jj n vl vr (t:Nat) vi vh vv sa vm).toList) (by kernel_rfl) (by rw[hX7];exact hS8) (fun zz=>?_);refine tj 0 43 (Yd R 0) zz ?_;refine tj 1 44 (Yd w.heap.size 0) zz ?_;refine tj 2 45 (Ya 0) zz ?_ (hy:=fun w hS=>by obtain⟨⟨q0,-⟩,-⟩:=thirteen hS;simp[execOp,go_sem,q0]);refine tj 3 46 (Yd R 0) zz ?_;simp only[sX,sY,sZ];refine tj 4 47 (Yd R 5) zz ?_;refine tj 5 48 (Yd R 5) zz ?_;refine tj 8 51 (Yd R 0) zz ?_;refine tj 9 52 (Yd R 5) zz ?_;simp only[sX,sY,sZ];rw[hX7];refine runZ (i:=6) (v:=Ya (c0:Nat)) (w':=X7) 49 rfl rfl (by rfl) (by kernel_rfl) (by simp[execOp,go_sem,r5]) hS8 ?_;simp only[sX,sY,sZ];replace zz:=hS8;refine tj 7 50 (Ya (cn:Nat)) zz ?_ (hy:=fun w hS=>by simp[execOp,go_sem];rw[hcn'];exact hwr);refine tj 10 53 (Yd R 5) zz ?_;simp only[sX,sY,sZ];refine storeY (i:=11) (w':=X7.setCell ⟨R,5,none⟩ (Ya (cn:Nat))) rfl (by rfl) (by kernel_rfl) rfl (by simp[execOp,go_sem,r5,fo]) rfl hS9 ?_;refine wpAnyH_done (by kernel_rfl) ?_ _;clear zz;go_wp2_with fail
  go_end0
  exact⟨rfl,HFin.u⟩
theorem q8r (R:Nat)(v1 v2 v3 v4 m0 m1 m2 m3:Value)(lat:Int)(c0 c1 c2 c3:Nat)(t:Nat)(vl vr vi vh vv vm:Value)(sa:ByteArray)(w:World)(hR:Blk w R 60 (J2 v1 v2 v3 v4 lat (c0:Nat) (c1:Nat) (c2:Nat) (c3:Nat) m0 m1 m2 m3))(hm:MpS w m1 [])(hcb:c1<=1000)(hRb:∀b,m1=.map (some b)->R<b) :
 Calls Tryz.prog 64 #[Yd R 0,.agg (Ji vl vr (t:Nat) vi vh vv sa vm)] w fun e w'=>e=.returned (.tuple #[])/\∃mv,Blk w' R 60 [v1,v2,v3,v4,Ya 1,Ya (c0:Nat),Ya (c1+1:Nat),Ya (c2:Nat),Ya (c3:Nat),m0,mv,m2,m3]/\MpS w' mv []/\Dsm R m1 w w'/\Below R w w'/\(∀b,mv=.map (some b)->m1=.map (some b)∨w.heap.size<=b):=by
 have hRl:=hR.lt
 have hb0:=(bR w.heap.size w).alloc (nR _) (.cells (Ji vl vr (t:Nat) vi vh vv sa vm) 96)
 have hS:=Blk.new w 96 (Ji vl vr (t:Nat) vi vh vv sa vm)
 have hR0:=hR.mono hb0 hR.lt
 have hm0:=hm.mono hb0
 obtain⟨W0,hW0⟩:=Nq (w.alloc (.cells (Ji vl vr (t:Nat) vi vh vv sa vm) 96))
 rw[hW0]at hb0 hS hR0 hm0
 obtain⟨⟨s0,s1,s2,s3,s4,s5,s6⟩,s7,s8,s9,s10,s11,s12⟩:=thirteen hS
 obtain⟨⟨r0,r1,r2,r3,r4,r5,r6⟩,r7,r8,r9,r10,r11,r12⟩:=thirteen hR0
 have f4:=hR0.free 4
 have hR1:Blk (W0.setCell ⟨R,4,none⟩ (Ya 1)) R 60 [v1,v2,v3,v4,Ya 1,Ya (c0:Nat),Ya (c1:Nat),Ya (c2:Nat),Ya (c3:Nat),m0,m1,m2,m3]:=hR0.set 4 (Ya 1)
 have hS1:Blk (W0.setCell ⟨R,4,none⟩ (Ya 1)) w.heap.size 96 (Ji vl vr (t:Nat) vi vh vv sa vm).toList:=hS.other (a:=⟨R,4,none⟩) (Ya 1) (by show w.heap.size≠R;omega)
 obtain⟨W1,hW1⟩:=Nq (W0.setCell ⟨R,4,none⟩ (Ya 1))
 rw[hW1]at hR1 hS1
 go_enter Tryz.func64,Tryz.ntmps64
 go_upto_region 2 with fail
 try rw[hW0]
 try rw[hW1]
 clear s0 s1 s2 s3 s4 s5 s6 s7 s8 s9 s10 s11 s12 r0 r1 r2 r3 r4 r5 r6 r7 r8 r9 r10 r11 r12 f4
 obtain⟨⟨s0,s1,s2,s3,s4,s5,s6⟩,s7,s8,s9,s10,s11,s12⟩:=thirteen hS1
 obtain⟨⟨r0,r1,r2,r3,r4,r5,r6⟩,r7,r8,r9,r10,r11,r12⟩:=thirteen hR1
 have hmm:=@run_makeMap Tryz.prog
 have hz1:w.heap.size<W1.heap.size:=hS1.lt
 have hbB:Below R w W1:=by rw[<- hW1];exact(hb0.mono (V8 hRl)).setCell (p:=⟨R,4,none⟩) (nR _) _
 have hsm:∀g,g<w.heap.size->g≠R->W1.heap[g]? = w.heap[g]?:=fun g hg hgR=>by rw[<- hW1];exact(heap_setCell_other W0 ⟨R,4,none⟩ g _ (fun e=>hgR e)).trans (hb0.block g hg)
 have HS1:=h_ hS1;have HR1:=h_ hR1;have HBB:=h_ hbB;have HSM:=h_ hsm
 have hR0':=hR0
 clear s0 s1 s2 s3 s4 s5 s6 s7 s8 s9 s10 s11 s12 r0 r1 r2 r3 r4 r5 r6 r7 r8 r9 r10 r11 r12 hS1 hR1 hbB hsm hb0 hS hR0 hR
 obtain⟨X1,hX1⟩:=Nq W1.drew
 have hSd:Blk X1 R 60 [v1,v2,v3,v4,Ya 1,Ya (c0:Nat),Ya (c1:Nat),Ya (c2:Nat),Ya (c3:Nat),m0,m1,m2,m3]/\Blk X1 w.heap.size 96 (Ji vl vr (t:Nat) vi vh vv sa vm).toList:=by rw[<- hX1];exact⟨HR1.u.mono (bR _ _).drew HR1.u.lt,HS1.u.mono (bR _ _).drew HS1.u.lt⟩
 have HM0:=h_ (show MpS X1 m1 [] by rw[<- hX1,<- hW1];exact(by rcases hm0 with h | ⟨b,h1,h2⟩;exact .inl h;exact .inr ⟨b,h1,h2.same (heap_setCell_other W0 ⟨R,4,none⟩ b _ (h2.ne hR0'))⟩))
 have HSd:=h_ hSd
 have HBX:Hi (Below R w X1):=h_ (by rw[<- hX1];exact HBB.u.drew)
 have HSX:Hi (∀g,g<w.heap.size->g≠R->X1.heap[g]? = w.heap[g]?):=h_ (by rw[<- hX1];exact HSM.u)
 have hzX:w.heap.size<X1.heap.size:=hSd.2.lt
 clear hSd hm0
 obtain⟨isn,hisn⟩:=Nq (isNm m1)
 go_cut [16] from 4 (fun s wx=>s=.bool isn/\wx=X1)
 case first =>
  as_aux_lemma =>
   refine wp_region_held_drew (S:=fun w'=>Blk w' R 60 [v1,v2,v3,v4,Ya 1,Ya (c0:Nat),Ya (c1:Nat),Ya (c2:Nat),Ya (c3:Nat),m0,m1,m2,m3]/\Blk w' w.heap.size 96 (Ji vl vr (t:Nat) vi vh vv sa vm).toList) (by kernel_rfl) (by rw[hX1];exact HSd.u) (fun zz=>?_);refine tj 0 9 (Yd R 0) zz ?_;refine tj 1 10 (Yd w.heap.size 0) zz ?_;refine tj 2 11 (Ya 1) zz ?_ (hy:=fun w hS=>by obtain⟨⟨q0,-⟩,-⟩:=thirteen hS.2;simp[execOp,go_sem,q0]);refine tj 3 12 (Yd R 0) zz ?_;simp only[sX,sY,sZ];refine tj 4 13 (Yd R 9) zz ?_;refine tj 5 14 (Yd R 10) zz ?_;refine tj 6 15 m1 zz ?_ (hy:=fun w hS=>by obtain⟨-,q7,q8,q9,q10,q11,q12⟩:=thirteen hS.1;simp[execOp,go_sem,q10]);simp only[sX,sY,sZ];have hmv:=HM0.u;rcases hmv with ⟨rfl,-⟩ | ⟨b,rfl,-⟩
   . obtain rfl:true=isn:=hisn
     refine tj 7 16 (.bool true) zz ?_ (hy:=fun w hS=>by first | (simp[execOp,go_sem];done) | kernel_rfl);simp only[sX,sY,sZ];refine wpAnyH_done (by kernel_rfl) ?_ _;rw[hX1];go_wp2_with fail;go_meet;exact⟨rfl,rfl⟩
   . obtain rfl:false=isn:=hisn
     refine tj 7 16 (.bool false) zz ?_ (hy:=fun w hS=>by first | (simp[execOp,go_sem];done) | kernel_rfl);simp only[sX,sY,sZ];refine wpAnyH_done (by kernel_rfl) ?_ _;rw[hX1];go_wp2_with fail;go_meet;exact⟨rfl,rfl⟩
 obtain⟨rfl,hwx⟩:=hcut
 subst hwx
 obtain⟨X1,hX1'⟩:∃X1,X1=wc:=⟨_,rfl⟩
 subst hX1'
 clear hX1
 rename_i hK0
 refine hK0 _ _ ?_
 clear hK0
 go_cut [] from 4 (fun wx=>∃b,Blk wx R 60 [v1,v2,v3,v4,Ya 1,Ya (c0:Nat),Ya (c1:Nat),Ya (c2:Nat),Ya (c3:Nat),m0,.map (some b),m2,m3]/\Blk wx w.heap.size 96 (Ji vl vr (t:Nat) vi vh vv sa vm).toList/\PMap wx b []/\Dsm R m1 w wx/\Below R w wx/\(m1=.map (some b)∨w.heap.size<=b)/\R<b)
 case first =>
  as_aux_lemma =>
   have hmv:=HM0.u;rcases hmv with ⟨rfl,-⟩ | ⟨b,rfl,hp⟩
   . obtain rfl:true=isn:=hisn
     have hdr:=(bR X1.heap.size X1).drew;obtain⟨X2,hX2⟩:=Nq X1.drew;rw[hX2]at hdr;have hz2:X2.heap.size=X1.heap.size:=(by rw[<- hX2];rfl);have hR2:=HSd.u.1.mono hdr HSd.u.1.lt;have hS2:=HSd.u.2.mono hdr HSd.u.2.lt;have hba:=(bR X2.heap.size X2).alloc (nR _) (.map #[] 0);have hmd:(X2.alloc (.map #[] 0)).ownsMap Tryz.prog 9 (plainElem (H:=Unit) Tryz.prog 3) X2.heap.size 0 (mp []):=World.ownsMap_made _ _ _ _;have hR3:=hR2.mono hba hR2.lt;have hS3:=hS2.mono hba hS2.lt;obtain⟨⟨r0,r1,r2,r3,r4,r5,r6⟩,r7,r8,r9,r10,r11,r12⟩:=thirteen hR3;have fo:=hR3.free 10;have hR4:=hR3.set 10 (.map (some X2.heap.size));have hS4:Blk ((X2.alloc (.map #[] 0)).setCell ⟨R,10,none⟩ (.map (some X2.heap.size))) w.heap.size 96 (Ji vl vr (t:Nat) vi vh vv sa vm).toList:=hS3.other (a:=⟨R,10,none⟩) (.map (some X2.heap.size)) (by show w.heap.size≠R;omega);have hp4:PMap ((X2.alloc (.map #[] 0)).setCell ⟨R,10,none⟩ (.map (some X2.heap.size))) X2.heap.size []:=PMap.same hmd (heap_setCell_other _ ⟨R,10,none⟩ X2.heap.size _ (by show X2.heap.size≠R;omega));have HX:Hi (∃b,Blk ((X2.alloc (.map #[] 0)).setCell ⟨R,10,none⟩ (.map (some X2.heap.size))) R 60 [v1,v2,v3,v4,Ya 1,Ya (c0:Nat),Ya (c1:Nat),Ya (c2:Nat),Ya (c3:Nat),m0,.map (some b),m2,m3]/\Blk ((X2.alloc (.map #[] 0)).setCell ⟨R,10,none⟩ (.map (some X2.heap.size))) w.heap.size 96 (Ji vl vr (t:Nat) vi vh vv sa vm).toList/\PMap ((X2.alloc (.map #[] 0)).setCell ⟨R,10,none⟩ (.map (some X2.heap.size))) b []/\Dsm R (.map none) w ((X2.alloc (.map #[] 0)).setCell ⟨R,10,none⟩ (.map (some X2.heap.size)))/\Below R w ((X2.alloc (.map #[] 0)).setCell ⟨R,10,none⟩ (.map (some X2.heap.size)))/\(Value.map none=Value.map (some b)∨w.heap.size<=b)/\R<b):=h_ ⟨X2.heap.size,hR4,hS4,hp4,(fun g hg hgR _=>(heap_setCell_other _ ⟨R,10,none⟩ g _ (fun e=>hgR e)).trans ((hba.block g (by omega)).trans ((hdr.block g (by omega)).trans (HSX.u g hg hgR)))),((HBX.u.trans ((hdr.trans (hba.mono (by omega))).mono (by omega))).setCell (p:=⟨R,10,none⟩) (nR _) _),.inr (by omega),by omega⟩;clear hz2;go_upto_region 3 with fail
     refine wp_region_held_drew (S:=fun w'=>Blk w' w.heap.size 96 (Ji vl vr (t:Nat) vi vh vv sa vm).toList) (by kernel_rfl) (by rw[hX2];exact hS2) (fun zz=>?_);refine tj 0 17 (Yd R 0) zz ?_;refine tj 1 18 (Yd w.heap.size 0) zz ?_;refine tj 2 19 (Ya 1) zz ?_ (hy:=fun w hS=>by obtain⟨⟨q0,-⟩,-⟩:=thirteen hS;simp[execOp,go_sem,q0]);refine tj 4 21 (Yd R 0) zz ?_;simp only[sX,sY,sZ];refine tj 5 22 (Yd R 9) zz ?_;simp only[sX,sY,sZ];rw[hX2];refine runZ (i:=3) (v:=.map (some X2.heap.size)) (w':=X2.alloc (.map #[] 0)) 20 rfl rfl (by rfl) (by kernel_rfl) (by simp[execOp,go_sem,hmm]) hS3 ?_;simp only[sX,sY,sZ];replace zz:=hS3;refine tj 6 23 (Yd R 10) zz ?_;simp only[sX,sY,sZ];refine storeY (i:=7) (w':=(X2.alloc (.map #[] 0)).setCell ⟨R,10,none⟩ (.map (some X2.heap.size))) rfl (by rfl) (by kernel_rfl) rfl (by simp[execOp,go_sem,r10,fo]) rfl hS4 ?_;refine wpAnyH_done (by kernel_rfl) ?_ _;clear zz;go_wp2_with fail;go_meet;exact HX.u
   . obtain rfl:false=isn:=hisn
     have HX:Hi (∃b',Blk X1 R 60 [v1,v2,v3,v4,Ya 1,Ya (c0:Nat),Ya (c1:Nat),Ya (c2:Nat),Ya (c3:Nat),m0,.map (some b'),m2,m3]/\Blk X1 w.heap.size 96 (Ji vl vr (t:Nat) vi vh vv sa vm).toList/\PMap X1 b' []/\Dsm R (.map (some b)) w X1/\Below R w X1/\(Value.map (some b)=Value.map (some b')∨w.heap.size<=b')/\R<b'):=h_ ⟨b,HSd.u.1,HSd.u.2,hp,(fun g hg hgR _=>HSX.u g hg hgR),HBX.u,.inl rfl,hRb b rfl⟩;go_wp2_with fail;go_meet;exact HX.u
 case rest =>
  obtain⟨b,hR5,hS5,hp5,hd5,hb5,ho5,hRb5⟩:=hcut;clear HSd HM0 HBX HSX HSM HBB HR1 HS1;have HD5:=h_ hd5;have HB5:=h_ hb5;have HO5:=h_ ho5;have hz5:w.heap.size<wc.heap.size:=hS5.lt;obtain⟨⟨s0,s1,s2,s3,s4,s5,s6⟩,s7,s8,s9,s10,s11,s12⟩:=thirteen hS5;clear hd5 hb5 ho5;obtain⟨W7,hW7⟩:∃W7,W7=wc:=⟨_,rfl⟩;subst hW7;have hR7:=hR5;have hS7:=hS5;have hp7:=hp5;go_upto_region 6 with fail
  clear s0 s1 s2 s3 s4 s5 s6 s7 s8 s9 s10 s11 s12;have hdr7:=(bR W7.heap.size W7).drew;obtain⟨X7,hX7⟩:=Nq W7.drew;rw[hX7]at hdr7;have hR8:=hR7.mono hdr7 hR7.lt;have hS8:=hS7.mono hdr7 hS7.lt;have hp8:=hp7.mono hdr7;obtain⟨⟨r0,r1,r2,r3,r4,r5,r6⟩,r7,r8,r9,r10,r11,r12⟩:=thirteen hR8;have fo:=hR8.free 6;obtain⟨cn,hcn⟩:=Nq (c1+1);have hcn':(c1:Int)+1=(cn:Int):=by omega
  have hwr:IntKind.i64.wrap (cn:Int)=(cn:Int):=i64_n cn (by omega);have hR9:Blk (X7.setCell ⟨R,6,none⟩ (Ya (cn:Nat))) R 60 [v1,v2,v3,v4,Ya 1,Ya (c0:Nat),Ya (cn:Nat),Ya (c2:Nat),Ya (c3:Nat),m0,.map (some b),m2,m3]:=hR8.set 6 (Ya (cn:Nat));have hS9:Blk (X7.setCell ⟨R,6,none⟩ (Ya (cn:Nat))) w.heap.size 96 (Ji vl vr (t:Nat) vi vh vv sa vm).toList:=hS8.other (a:=⟨R,6,none⟩) _ (by show w.heap.size≠R;omega);have HFin:Hi (∃mv,Blk (X7.setCell ⟨R,6,none⟩ (Ya (cn:Nat))) R 60 [v1,v2,v3,v4,Ya 1,Ya (c0:Nat),Ya (cn:Nat),Ya (c2:Nat),Ya (c3:Nat),m0,mv,m2,m3]/\MpS (X7.setCell ⟨R,6,none⟩ (Ya (cn:Nat))) mv []/\Dsm R m1 w (X7.setCell ⟨R,6,none⟩ (Ya (cn:Nat)))/\Below R w (X7.setCell ⟨R,6,none⟩ (Ya (cn:Nat)))/\(∀b,mv=.map (some b)->m1=.map (some b)∨w.heap.size<=b)):=h_ ⟨.map (some b),hR9,.inr ⟨b,rfl,hp8.same (heap_setCell_other X7 ⟨R,6,none⟩ b _ (by show b≠R;omega))⟩,(fun g hg hgR hgm=>(heap_setCell_other X7 ⟨R,6,none⟩ g _ (fun e=>hgR e)).trans ((hdr7.block g (by omega)).trans (HD5.u g hg hgR hgm))),(HB5.u.trans (hdr7.mono (by omega))).setCell (p:=⟨R,6,none⟩) (nR _) _,(fun b' e=>by injection e with e;injection e with e;subst e;exact HO5.u)⟩;refine wp_region_held_drew (S:=fun w'=>Blk w' w.heap.size 96 (Ji vl vr (t:Nat) vi vh vv sa vm).toList) (by kernel_rfl) (by rw[hX7];exact hS8) (fun zz=>?_);refine tj 0 43 (Yd R 0) zz ?_;refine tj 1 44 (Yd w.heap.size 0) zz ?_;refine tj 2 45 (Ya 1) zz ?_ (hy:=fun w hS=>by obtain⟨⟨q0,-⟩,-⟩:=thirteen hS;simp[execOp,go_sem,q0]);refine tj 3 46 (Yd R 0) zz ?_;simp only[sX,sY,sZ];refine tj 4 47 (Yd R 5) zz ?_;refine tj 5 48 (Yd R 6) zz ?_;refine tj 8 51 (Yd R 0) zz ?_;refine tj 9 52 (Yd R 5) zz ?_;simp only[sX,sY,sZ];rw[hX7];refine runZ (i:=6) (v:=Ya (c1:Nat)) (w':=X7) 49 rfl rfl (by rfl) (by kernel_rfl) (by simp[execOp,go_sem,r6]) hS8 ?_;simp only[sX,sY,sZ];replace zz:=hS8;refine tj 7 50 (Ya (cn:Nat)) zz ?_ (hy:=fun w hS=>by simp[execOp,go_sem];rw[hcn'];exact hwr);refine tj 10 53 (Yd R 6) zz ?_;simp only[sX,sY,sZ];refine storeY (i:=11) (w':=X7.setCell ⟨R,6,none⟩ (Ya (cn:Nat))) rfl (by rfl) (by kernel_rfl) rfl (by simp[execOp,go_sem,r6,fo]) rfl hS9 ?_;refine wpAnyH_done (by kernel_rfl) ?_ _;clear zz;go_wp2_with fail
  go_end0
  exact⟨rfl,HFin.u⟩
theorem q8s (R:Nat)(v1 v2 v3 v4 m0 m1 m2 m3:Value)(lat:Int)(c0 c1 c2 c3:Nat)(n:ByteArray)(t:Nat)(vl vr vi vh vv vm:Value)(sa:ByteArray)(lst:List ByteArray)(w:World)(hR:Blk w R 60 (J2 v1 v2 v3 v4 lat (c0:Nat) (c1:Nat) (c2:Nat) (c3:Nat) m0 m1 m2 m3))(hm:MpS w m2 lst)(hc:lst.length=c2)(hcb:c2<=1000)(hn:n.size<=1048576)(hne:n.toList.isEmpty=false)(hRb:∀b,m2=.map (some b)->R<b) :
 Calls Tryz.prog 64 #[Yd R 0,.agg (Jk n vl vr (t:Nat) vi vh vv sa vm)] w fun e w'=>e=.returned (.tuple #[])/\∃mv,Blk w' R 60 [v1,v2,v3,v4,Ya 2,Ya (c0:Nat),Ya (c1:Nat),Ya (c2+1:Nat),Ya (c3:Nat),m0,m1,mv,m3]/\MpS w' mv (lst++[n])/\Dsm R m2 w w'/\Below R w w'/\(∀b,mv=.map (some b)->m2=.map (some b)∨w.heap.size<=b):=by
 have hRl:=hR.lt
 have hb0:=(bR w.heap.size w).alloc (nR _) (.cells (Jk n vl vr (t:Nat) vi vh vv sa vm) 96)
 have hS:=Blk.new w 96 (Jk n vl vr (t:Nat) vi vh vv sa vm)
 have hR0:=hR.mono hb0 hR.lt
 have hm0:=hm.mono hb0
 obtain⟨W0,hW0⟩:=Nq (w.alloc (.cells (Jk n vl vr (t:Nat) vi vh vv sa vm) 96))
 rw[hW0]at hb0 hS hR0 hm0
 obtain⟨⟨s0,s1,s2,s3,s4,s5,s6⟩,s7,s8,s9,s10,s11,s12⟩:=thirteen hS
 obtain⟨⟨r0,r1,r2,r3,r4,r5,r6⟩,r7,r8,r9,r10,r11,r12⟩:=thirteen hR0
 have f4:=hR0.free 4
 have hR1:Blk (W0.setCell ⟨R,4,none⟩ (Ya 2)) R 60 [v1,v2,v3,v4,Ya 2,Ya (c0:Nat),Ya (c1:Nat),Ya (c2:Nat),Ya (c3:Nat),m0,m1,m2,m3]:=hR0.set 4 (Ya 2)
 have hS1:Blk (W0.setCell ⟨R,4,none⟩ (Ya 2)) w.heap.size 96 (Jk n vl vr (t:Nat) vi vh vv sa vm).toList:=hS.other (a:=⟨R,4,none⟩) (Ya 2) (by show w.heap.size≠R;omega)
 obtain⟨W1,hW1⟩:=Nq (W0.setCell ⟨R,4,none⟩ (Ya 2))
 rw[hW1]at hR1 hS1
 go_enter Tryz.func64,Tryz.ntmps64
 go_upto_region 2 with fail
 try rw[hW0]
 try rw[hW1]
 clear s0 s1 s2 s3 s4 s5 s6 s7 s8 s9 s10 s11 s12 r0 r1 r2 r3 r4 r5 r6 r7 r8 r9 r10 r11 r12 f4
 obtain⟨⟨s0,s1,s2,s3,s4,s5,s6⟩,s7,s8,s9,s10,s11,s12⟩:=thirteen hS1
 obtain⟨⟨r0,r1,r2,r3,r4,r5,r6⟩,r7,r8,r9,r10,r11,r12⟩:=thirteen hR1
 have hmm:=@run_makeMap Tryz.prog
 have hz1:w.heap.size<W1.heap.size:=hS1.lt
 have hbB:Below R w W1:=by rw[<- hW1];exact(hb0.mono (V8 hRl)).setCell (p:=⟨R,4,none⟩) (nR _) _
 have hsm:∀g,g<w.heap.size->g≠R->W1.heap[g]? = w.heap[g]?:=fun g hg hgR=>by rw[<- hW1];exact(heap_setCell_other W0 ⟨R,4,none⟩ g _ (fun e=>hgR e)).trans (hb0.block g hg)
 have HS1:=h_ hS1;have HR1:=h_ hR1;have HBB:=h_ hbB;have HSM:=h_ hsm
 have hR0':=hR0
 clear s0 s1 s2 s3 s4 s5 s6 s7 s8 s9 s10 s11 s12 r0 r1 r2 r3 r4 r5 r6 r7 r8 r9 r10 r11 r12 hS1 hR1 hbB hsm hb0 hS hR0 hR
 obtain⟨X1,hX1⟩:=Nq W1.drew
 have hSd:Blk X1 R 60 [v1,v2,v3,v4,Ya 2,Ya (c0:Nat),Ya (c1:Nat),Ya (c2:Nat),Ya (c3:Nat),m0,m1,m2,m3]/\Blk X1 w.heap.size 96 (Jk n vl vr (t:Nat) vi vh vv sa vm).toList:=by rw[<- hX1];exact⟨HR1.u.mono (bR _ _).drew HR1.u.lt,HS1.u.mono (bR _ _).drew HS1.u.lt⟩
 have HM0:=h_ (show MpS X1 m2 lst by rw[<- hX1,<- hW1];exact(by rcases hm0 with h | ⟨b,h1,h2⟩;exact .inl h;exact .inr ⟨b,h1,h2.same (heap_setCell_other W0 ⟨R,4,none⟩ b _ (h2.ne hR0'))⟩))
 have HSd:=h_ hSd
 have HBX:Hi (Below R w X1):=h_ (by rw[<- hX1];exact HBB.u.drew)
 have HSX:Hi (∀g,g<w.heap.size->g≠R->X1.heap[g]? = w.heap[g]?):=h_ (by rw[<- hX1];exact HSM.u)
 have hzX:w.heap.size<X1.heap.size:=hSd.2.lt
 clear hSd hm0
 obtain⟨isn,hisn⟩:=Nq (isNm m2)
 go_cut [16] from 4 (fun s wx=>s=.bool isn/\wx=X1)
 case first =>
  as_aux_lemma =>
   refine wp_region_held_drew (S:=fun w'=>Blk w' R 60 [v1,v2,v3,v4,Ya 2,Ya (c0:Nat),Ya (c1:Nat),Ya (c2:Nat),Ya (c3:Nat),m0,m1,m2,m3]/\Blk w' w.heap.size 96 (Jk n vl vr (t:Nat) vi vh vv sa vm).toList) (by kernel_rfl) (by rw[hX1];exact HSd.u) (fun zz=>?_);refine tj 0 9 (Yd R 0) zz ?_;refine tj 1 10 (Yd w.heap.size 0) zz ?_;refine tj 2 11 (Ya 2) zz ?_ (hy:=fun w hS=>by obtain⟨⟨q0,-⟩,-⟩:=thirteen hS.2;simp[execOp,go_sem,q0]);refine tj 3 12 (Yd R 0) zz ?_;simp only[sX,sY,sZ];refine tj 4 13 (Yd R 9) zz ?_;refine tj 5 14 (Yd R 11) zz ?_;refine tj 6 15 m2 zz ?_ (hy:=fun w hS=>by obtain⟨-,q7,q8,q9,q10,q11,q12⟩:=thirteen hS.1;simp[execOp,go_sem,q11]);simp only[sX,sY,sZ];have hmv:=HM0.u;rcases hmv with ⟨rfl,-⟩ | ⟨b,rfl,-⟩
   . obtain rfl:true=isn:=hisn
     refine tj 7 16 (.bool true) zz ?_ (hy:=fun w hS=>by first | (simp[execOp,go_sem];done) | kernel_rfl);simp only[sX,sY,sZ];refine wpAnyH_done (by kernel_rfl) ?_ _;rw[hX1];go_wp2_with fail;go_meet;exact⟨rfl,rfl⟩
   . obtain rfl:false=isn:=hisn
     refine tj 7 16 (.bool false) zz ?_ (hy:=fun w hS=>by first | (simp[execOp,go_sem];done) | kernel_rfl);simp only[sX,sY,sZ];refine wpAnyH_done (by kernel_rfl) ?_ _;rw[hX1];go_wp2_with fail;go_meet;exact⟨rfl,rfl⟩
 obtain⟨rfl,hwx⟩:=hcut
 subst hwx
 obtain⟨X1,hX1'⟩:∃X1,X1=wc:=⟨_,rfl⟩
 subst hX1'
 clear hX1
 rename_i hK0
 refine hK0 _ _ ?_
 clear hK0
 go_cut [] from 4 (fun wx=>∃b,Blk wx R 60 [v1,v2,v3,v4,Ya 2,Ya (c0:Nat),Ya (c1:Nat),Ya (c2:Nat),Ya (c3:Nat),m0,m1,.map (some b),m3]/\Blk wx w.heap.size 96 (Jk n vl vr (t:Nat) vi vh vv sa vm).toList/\PMap wx b lst/\Dsm R m2 w wx/\Below R w wx/\(m2=.map (some b)∨w.heap.size<=b)/\R<b)
 case first =>
  as_aux_lemma =>
   have hmv:=HM0.u;rcases hmv with ⟨rfl,rfl⟩ | ⟨b,rfl,hp⟩
   . obtain rfl:true=isn:=hisn
     have hdr:=(bR X1.heap.size X1).drew;obtain⟨X2,hX2⟩:=Nq X1.drew;rw[hX2]at hdr;have hz2:X2.heap.size=X1.heap.size:=(by rw[<- hX2];rfl);have hR2:=HSd.u.1.mono hdr HSd.u.1.lt;have hS2:=HSd.u.2.mono hdr HSd.u.2.lt;have hba:=(bR X2.heap.size X2).alloc (nR _) (.map #[] 0);have hmd:(X2.alloc (.map #[] 0)).ownsMap Tryz.prog 9 (plainElem (H:=Unit) Tryz.prog 3) X2.heap.size 0 (mp []):=World.ownsMap_made _ _ _ _;have hR3:=hR2.mono hba hR2.lt;have hS3:=hS2.mono hba hS2.lt;obtain⟨⟨r0,r1,r2,r3,r4,r5,r6⟩,r7,r8,r9,r10,r11,r12⟩:=thirteen hR3;have fo:=hR3.free 11;have hR4:=hR3.set 11 (.map (some X2.heap.size));have hS4:Blk ((X2.alloc (.map #[] 0)).setCell ⟨R,11,none⟩ (.map (some X2.heap.size))) w.heap.size 96 (Jk n vl vr (t:Nat) vi vh vv sa vm).toList:=hS3.other (a:=⟨R,11,none⟩) (.map (some X2.heap.size)) (by show w.heap.size≠R;omega);have hp4:PMap ((X2.alloc (.map #[] 0)).setCell ⟨R,11,none⟩ (.map (some X2.heap.size))) X2.heap.size []:=PMap.same hmd (heap_setCell_other _ ⟨R,11,none⟩ X2.heap.size _ (by show X2.heap.size≠R;omega));have HX:Hi (∃b,Blk ((X2.alloc (.map #[] 0)).setCell ⟨R,11,none⟩ (.map (some X2.heap.size))) R 60 [v1,v2,v3,v4,Ya 2,Ya (c0:Nat),Ya (c1:Nat),Ya (c2:Nat),Ya (c3:Nat),m0,m1,.map (some b),m3]/\Blk ((X2.alloc (.map #[] 0)).setCell ⟨R,11,none⟩ (.map (some X2.heap.size))) w.heap.size 96 (Jk n vl vr (t:Nat) vi vh vv sa vm).toList/\PMap ((X2.alloc (.map #[] 0)).setCell ⟨R,11,none⟩ (.map (some X2.heap.size))) b []/\Dsm R (.map none) w ((X2.alloc (.map #[] 0)).setCell ⟨R,11,none⟩ (.map (some X2.heap.size)))/\Below R w ((X2.alloc (.map #[] 0)).setCell ⟨R,11,none⟩ (.map (some X2.heap.size)))/\(Value.map none=Value.map (some b)∨w.heap.size<=b)/\R<b):=h_ ⟨X2.heap.size,hR4,hS4,hp4,(fun g hg hgR _=>(heap_setCell_other _ ⟨R,11,none⟩ g _ (fun e=>hgR e)).trans ((hba.block g (by omega)).trans ((hdr.block g (by omega)).trans (HSX.u g hg hgR)))),((HBX.u.trans ((hdr.trans (hba.mono (by omega))).mono (by omega))).setCell (p:=⟨R,11,none⟩) (nR _) _),.inr (by omega),by omega⟩;clear hz2;go_upto_region 3 with fail
     refine wp_region_held_drew (S:=fun w'=>Blk w' w.heap.size 96 (Jk n vl vr (t:Nat) vi vh vv sa vm).toList) (by kernel_rfl) (by rw[hX2];exact hS2) (fun zz=>?_);refine tj 0 17 (Yd R 0) zz ?_;refine tj 1 18 (Yd w.heap.size 0) zz ?_;refine tj 2 19 (Ya 2) zz ?_ (hy:=fun w hS=>by obtain⟨⟨q0,-⟩,-⟩:=thirteen hS;simp[execOp,go_sem,q0]);refine tj 4 21 (Yd R 0) zz ?_;simp only[sX,sY,sZ];refine tj 5 22 (Yd R 9) zz ?_;simp only[sX,sY,sZ];rw[hX2];refine runZ (i:=3) (v:=.map (some X2.heap.size)) (w':=X2.alloc (.map #[] 0)) 20 rfl rfl (by rfl) (by kernel_rfl) (by simp[execOp,go_sem,hmm]) hS3 ?_;simp only[sX,sY,sZ];replace zz:=hS3;refine tj 6 23 (Yd R 11) zz ?_;simp only[sX,sY,sZ];refine storeY (i:=7) (w':=(X2.alloc (.map #[] 0)).setCell ⟨R,11,none⟩ (.map (some X2.heap.size))) rfl (by rfl) (by kernel_rfl) rfl (by simp[execOp,go_sem,r11,fo]) rfl hS4 ?_;refine wpAnyH_done (by kernel_rfl) ?_ _;clear zz;go_wp2_with fail;go_meet;exact HX.u
   . obtain rfl:false=isn:=hisn
     have HX:Hi (∃b',Blk X1 R 60 [v1,v2,v3,v4,Ya 2,Ya (c0:Nat),Ya (c1:Nat),Ya (c2:Nat),Ya (c3:Nat),m0,m1,.map (some b'),m3]/\Blk X1 w.heap.size 96 (Jk n vl vr (t:Nat) vi vh vv sa vm).toList/\PMap X1 b' lst/\Dsm R (.map (some b)) w X1/\Below R w X1/\(Value.map (some b)=Value.map (some b')∨w.heap.size<=b')/\R<b'):=h_ ⟨b,HSd.u.1,HSd.u.2,hp,(fun g hg hgR _=>HSX.u g hg hgR),HBX.u,.inl rfl,hRb b rfl⟩;go_wp2_with fail;go_meet;exact HX.u
 case rest =>
  obtain⟨b,hR5,hS5,hp5,hd5,hb5,ho5,hRb5⟩:=hcut;clear HSd HM0 HBX HSX HSM HBB HR1 HS1;have HD5:=h_ hd5;have HB5:=h_ hb5;have HO5:=h_ ho5;have hz5:w.heap.size<wc.heap.size:=hS5.lt;obtain⟨⟨s0,s1,s2,s3,s4,s5,s6⟩,s7,s8,s9,s10,s11,s12⟩:=thirteen hS5;clear hd5 hb5 ho5;have hdr:=(bR wc.heap.size wc).drew;obtain⟨X5,hX5⟩:=Nq wc.drew;rw[hX5]at hdr;have hR6:=hR5.mono hdr hR5.lt;have hS6:=hS5.mono hdr hS5.lt;have hp6:=hp5.mono hdr;go_upto_region 5 with fail
  refine wp_region_held_drew (S:=fun w'=>Blk w' R 60 [v1,v2,v3,v4,Ya 2,Ya (c0:Nat),Ya (c1:Nat),Ya (c2:Nat),Ya (c3:Nat),m0,m1,.map (some b),m3]/\Blk w' w.heap.size 96 (Jk n vl vr (t:Nat) vi vh vv sa vm).toList) (by kernel_rfl) (by rw[hX5];exact⟨hR6,hS6⟩) (fun zz=>?_);refine tj 0 27 (Yd R 0) zz ?_;refine tj 1 28 (Yd w.heap.size 0) zz ?_;refine tj 2 29 (Ya 2) zz ?_ (hy:=fun w hS=>by obtain⟨⟨q0,-⟩,-⟩:=thirteen hS.2;simp[execOp,go_sem,q0]);refine tj 3 30 (Yd R 0) zz ?_;simp only[sX,sY,sZ];refine tj 4 31 (Yd R 9) zz ?_;refine tj 5 32 (Yd R 11) zz ?_;refine tj 6 33 (.map (some b)) zz ?_ (hy:=fun w hS=>by obtain⟨-,q7,q8,q9,q10,q11,q12⟩:=thirteen hS.1;simp[execOp,go_sem,q11]);refine tj 7 34 (Yd w.heap.size 1) zz ?_;simp only[sX,sY,sZ];refine tj 8 35 (.string n) zz ?_ (hy:=fun w hS=>by obtain⟨⟨q0,q1,-⟩,-⟩:=thirteen hS.2;simp[execOp,go_sem,q1]);refine tj 9 36 (Yd R 0) zz ?_;refine tj 10 37 (Yd w.heap.size 0) zz ?_;refine tj 11 38 (Ya 2) zz ?_ (hy:=fun w hS=>by obtain⟨⟨q0,-⟩,-⟩:=thirteen hS.2;simp[execOp,go_sem,q0]);simp only[sX,sY,sZ];refine tj 12 39 (Yd R 0) zz ?_;refine tj 13 40 (Yd R 5) zz ?_;refine tj 14 41 (Yd R 7) zz ?_;refine tj 15 42 (Ya (c2:Nat)) zz ?_ (hy:=fun w hS=>by obtain⟨⟨q0,q1,q2,q3,q4,q5,q6⟩,q7,q8,-⟩:=thirteen hS.1;simp[execOp,go_sem,q7]);simp only[sX,sY,sZ];rw[hX5];refine updY (i:=16) rfl rfl (by rfl) (by kernel_rfl) (.tmp 33) (.tmp 35) (.tmp 42) rfl b lst rfl hp6 (by omega) n rfl (by omega) (by rw[hc];rfl) ?_;intro W7 hp7 hg7;have hR7:=hR6.grown hg7 (fun e=>by injection e with e;omega);have hS7:=hS6.grown hg7 (fun e=>hp6.ne hS6 (Vb e).symm);refine⟨⟨hR7,hS7⟩,?_⟩;refine wpAnyH_done (by kernel_rfl) ?_ _;clear zz s0 s1 s2 s3 s4 s5 s6 s7 s8 s9 s10 s11 s12;have hdr7:=(bR W7.heap.size W7).drew;obtain⟨X7,hX7⟩:=Nq W7.drew;rw[hX7]at hdr7;have hR8:=hR7.mono hdr7 hR7.lt;have hS8:=hS7.mono hdr7 hS7.lt;have hp8:=hp7.mono hdr7;obtain⟨⟨r0,r1,r2,r3,r4,r5,r6⟩,r7,r8,r9,r10,r11,r12⟩:=thirteen hR8;have fo:=hR8.free 7;obtain⟨cn,hcn⟩:=Nq (c2+1);have hcn':(c2:Int)+1=(cn:Int):=by omega
  have hwr:IntKind.i64.wrap (cn:Int)=(cn:Int):=i64_n cn (by omega);have hR9:Blk (X7.setCell ⟨R,7,none⟩ (Ya (cn:Nat))) R 60 [v1,v2,v3,v4,Ya 2,Ya (c0:Nat),Ya (c1:Nat),Ya (cn:Nat),Ya (c3:Nat),m0,m1,.map (some b),m3]:=hR8.set 7 (Ya (cn:Nat));have hS9:Blk (X7.setCell ⟨R,7,none⟩ (Ya (cn:Nat))) w.heap.size 96 (Jk n vl vr (t:Nat) vi vh vv sa vm).toList:=hS8.other (a:=⟨R,7,none⟩) _ (by show w.heap.size≠R;omega);have hsz:wc.heap.size<=X7.heap.size:=Yt hdr.size (Yt hg7.size hdr7.size);have HFin:Hi (∃mv,Blk (X7.setCell ⟨R,7,none⟩ (Ya (cn:Nat))) R 60 [v1,v2,v3,v4,Ya 2,Ya (c0:Nat),Ya (c1:Nat),Ya (cn:Nat),Ya (c3:Nat),m0,m1,mv,m3]/\MpS (X7.setCell ⟨R,7,none⟩ (Ya (cn:Nat))) mv (lst++[n])/\Dsm R m2 w (X7.setCell ⟨R,7,none⟩ (Ya (cn:Nat)))/\Below R w (X7.setCell ⟨R,7,none⟩ (Ya (cn:Nat)))/\(∀b,mv=.map (some b)->m2=.map (some b)∨w.heap.size<=b)):=h_ ⟨.map (some b),hR9,.inr ⟨b,rfl,hp8.same (heap_setCell_other X7 ⟨R,7,none⟩ b _ (by show b≠R;omega))⟩,(fun g hg hgR hgm=>(heap_setCell_other X7 ⟨R,7,none⟩ g _ (fun e=>hgR e)).trans ((hdr7.block g (by have:=hg7.size;have:=hdr.size;omega)).trans ((hg7.block g (by have:=hdr.size;omega) (fun e=>by
   injection e with e
   subst e;rcases HO5.u with h | h
   . exact hgm h
   . omega)).trans ((hdr.block g (by omega)).trans (HD5.u g hg hgR hgm))))),(((HB5.u.trans (hdr.mono (by omega))).grown hg7 (by have:=hdr.size;omega) (fun k e=>by injection e with e;omega)).trans (hdr7.mono (by have:=hg7.size;have:=hdr.size;omega))).setCell (p:=⟨R,7,none⟩) (nR _) _,(fun b' e=>by injection e with e;injection e with e;subst e;exact HO5.u)⟩
  go_upto_region 6 with fail
  refine wp_region_held_drew (S:=fun w'=>Blk w' w.heap.size 96 (Jk n vl vr (t:Nat) vi vh vv sa vm).toList) (by kernel_rfl) (by rw[hX7];exact hS8) (fun zz=>?_);refine tj 0 43 (Yd R 0) zz ?_;refine tj 1 44 (Yd w.heap.size 0) zz ?_;refine tj 2 45 (Ya 2) zz ?_ (hy:=fun w hS=>by obtain⟨⟨q0,-⟩,-⟩:=thirteen hS;simp[execOp,go_sem,q0]);refine tj 3 46 (Yd R 0) zz ?_;simp only[sX,sY,sZ];refine tj 4 47 (Yd R 5) zz ?_;refine tj 5 48 (Yd R 7) zz ?_;refine tj 8 51 (Yd R 0) zz ?_;refine tj 9 52 (Yd R 5) zz ?_;simp only[sX,sY,sZ];rw[hX7];refine runZ (i:=6) (v:=Ya (c2:Nat)) (w':=X7) 49 rfl rfl (by rfl) (by kernel_rfl) (by simp[execOp,go_sem,r7]) hS8 ?_;simp only[sX,sY,sZ];replace zz:=hS8;refine tj 7 50 (Ya (cn:Nat)) zz ?_ (hy:=fun w hS=>by simp[execOp,go_sem];rw[hcn'];exact hwr);refine tj 10 53 (Yd R 7) zz ?_;simp only[sX,sY,sZ];refine storeY (i:=11) (w':=X7.setCell ⟨R,7,none⟩ (Ya (cn:Nat))) rfl (by rfl) (by kernel_rfl) rfl (by simp[execOp,go_sem,r7,fo]) rfl hS9 ?_;refine wpAnyH_done (by kernel_rfl) ?_ _;clear zz;go_wp2_with fail
  go_end0
  exact⟨rfl,HFin.u⟩
theorem q8t (R:Nat)(v1 v2 v3 v4 m0 m1 m2 m3:Value)(lat:Int)(c0 c1 c2 c3:Nat)(n:ByteArray)(t:Nat)(vl vr vi vh vv vm:Value)(sa:ByteArray)(lst:List ByteArray)(w:World)(hR:Blk w R 60 (J2 v1 v2 v3 v4 lat (c0:Nat) (c1:Nat) (c2:Nat) (c3:Nat) m0 m1 m2 m3))(hm:MpS w m3 lst)(hc:lst.length=c3)(hcb:c3<=1000)(hn:n.size<=1048576)(hne:n.toList.isEmpty=false)(hRb:∀b,m3=.map (some b)->R<b) :
 Calls Tryz.prog 64 #[Yd R 0,.agg (Jm n vl vr (t:Nat) vi vh vv sa vm)] w fun e w'=>e=.returned (.tuple #[])/\∃mv,Blk w' R 60 [v1,v2,v3,v4,Ya 3,Ya (c0:Nat),Ya (c1:Nat),Ya (c2:Nat),Ya (c3+1:Nat),m0,m1,m2,mv]/\MpS w' mv (lst++[n])/\Dsm R m3 w w'/\Below R w w'/\(∀b,mv=.map (some b)->m3=.map (some b)∨w.heap.size<=b):=by
 have hRl:=hR.lt
 have hb0:=(bR w.heap.size w).alloc (nR _) (.cells (Jm n vl vr (t:Nat) vi vh vv sa vm) 96)
 have hS:=Blk.new w 96 (Jm n vl vr (t:Nat) vi vh vv sa vm)
 have hR0:=hR.mono hb0 hR.lt
 have hm0:=hm.mono hb0
 obtain⟨W0,hW0⟩:=Nq (w.alloc (.cells (Jm n vl vr (t:Nat) vi vh vv sa vm) 96))
 rw[hW0]at hb0 hS hR0 hm0
 obtain⟨⟨s0,s1,s2,s3,s4,s5,s6⟩,s7,s8,s9,s10,s11,s12⟩:=thirteen hS
 obtain⟨⟨r0,r1,r2,r3,r4,r5,r6⟩,r7,r8,r9,r10,r11,r12⟩:=thirteen hR0
 have f4:=hR0.free 4
 have hR1:Blk (W0.setCell ⟨R,4,none⟩ (Ya 3)) R 60 [v1,v2,v3,v4,Ya 3,Ya (c0:Nat),Ya (c1:Nat),Ya (c2:Nat),Ya (c3:Nat),m0,m1,m2,m3]:=hR0.set 4 (Ya 3)
 have hS1:Blk (W0.setCell ⟨R,4,none⟩ (Ya 3)) w.heap.size 96 (Jm n vl vr (t:Nat) vi vh vv sa vm).toList:=hS.other (a:=⟨R,4,none⟩) (Ya 3) (by show w.heap.size≠R;omega)
 obtain⟨W1,hW1⟩:=Nq (W0.setCell ⟨R,4,none⟩ (Ya 3))
 rw[hW1]at hR1 hS1
 go_enter Tryz.func64,Tryz.ntmps64
 go_upto_region 2 with fail
 try rw[hW0]
 try rw[hW1]
 clear s0 s1 s2 s3 s4 s5 s6 s7 s8 s9 s10 s11 s12 r0 r1 r2 r3 r4 r5 r6 r7 r8 r9 r10 r11 r12 f4
 obtain⟨⟨s0,s1,s2,s3,s4,s5,s6⟩,s7,s8,s9,s10,s11,s12⟩:=thirteen hS1
 obtain⟨⟨r0,r1,r2,r3,r4,r5,r6⟩,r7,r8,r9,r10,r11,r12⟩:=thirteen hR1
 have hmm:=@run_makeMap Tryz.prog
 have hz1:w.heap.size<W1.heap.size:=hS1.lt
 have hbB:Below R w W1:=by rw[<- hW1];exact(hb0.mono (V8 hRl)).setCell (p:=⟨R,4,none⟩) (nR _) _
 have hsm:∀g,g<w.heap.size->g≠R->W1.heap[g]? = w.heap[g]?:=fun g hg hgR=>by rw[<- hW1];exact(heap_setCell_other W0 ⟨R,4,none⟩ g _ (fun e=>hgR e)).trans (hb0.block g hg)
 have HS1:=h_ hS1;have HR1:=h_ hR1;have HBB:=h_ hbB;have HSM:=h_ hsm
 have hR0':=hR0
 clear s0 s1 s2 s3 s4 s5 s6 s7 s8 s9 s10 s11 s12 r0 r1 r2 r3 r4 r5 r6 r7 r8 r9 r10 r11 r12 hS1 hR1 hbB hsm hb0 hS hR0 hR
 obtain⟨X1,hX1⟩:=Nq W1.drew
 have hSd:Blk X1 R 60 [v1,v2,v3,v4,Ya 3,Ya (c0:Nat),Ya (c1:Nat),Ya (c2:Nat),Ya (c3:Nat),m0,m1,m2,m3]/\Blk X1 w.heap.size 96 (Jm n vl vr (t:Nat) vi vh vv sa vm).toList:=by rw[<- hX1];exact⟨HR1.u.mono (bR _ _).drew HR1.u.lt,HS1.u.mono (bR _ _).drew HS1.u.lt⟩
 have HM0:=h_ (show MpS X1 m3 lst by rw[<- hX1,<- hW1];exact(by rcases hm0 with h | ⟨b,h1,h2⟩;exact .inl h;exact .inr ⟨b,h1,h2.same (heap_setCell_other W0 ⟨R,4,none⟩ b _ (h2.ne hR0'))⟩))
 have HSd:=h_ hSd
 have HBX:Hi (Below R w X1):=h_ (by rw[<- hX1];exact HBB.u.drew)
 have HSX:Hi (∀g,g<w.heap.size->g≠R->X1.heap[g]? = w.heap[g]?):=h_ (by rw[<- hX1];exact HSM.u)
 have hzX:w.heap.size<X1.heap.size:=hSd.2.lt
 clear hSd hm0
 obtain⟨isn,hisn⟩:=Nq (isNm m3)
 go_cut [16] from 4 (fun s wx=>s=.bool isn/\wx=X1)
 case first =>
  as_aux_lemma =>
   refine wp_region_held_drew (S:=fun w'=>Blk w' R 60 [v1,v2,v3,v4,Ya 3,Ya (c0:Nat),Ya (c1:Nat),Ya (c2:Nat),Ya (c3:Nat),m0,m1,m2,m3]/\Blk w' w.heap.size 96 (Jm n vl vr (t:Nat) vi vh vv sa vm).toList) (by kernel_rfl) (by rw[hX1];exact HSd.u) (fun zz=>?_);refine tj 0 9 (Yd R 0) zz ?_;refine tj 1 10 (Yd w.heap.size 0) zz ?_;refine tj 2 11 (Ya 3) zz ?_ (hy:=fun w hS=>by obtain⟨⟨q0,-⟩,-⟩:=thirteen hS.2;simp[execOp,go_sem,q0]);refine tj 3 12 (Yd R 0) zz ?_;simp only[sX,sY,sZ];refine tj 4 13 (Yd R 9) zz ?_;refine tj 5 14 (Yd R 12) zz ?_;refine tj 6 15 m3 zz ?_ (hy:=fun w hS=>by obtain⟨-,q7,q8,q9,q10,q11,q12⟩:=thirteen hS.1;simp[execOp,go_sem,q12]);simp only[sX,sY,sZ];have hmv:=HM0.u;rcases hmv with ⟨rfl,-⟩ | ⟨b,rfl,-⟩
   . obtain rfl:true=isn:=hisn
     refine tj 7 16 (.bool true) zz ?_ (hy:=fun w hS=>by first | (simp[execOp,go_sem];done) | kernel_rfl);simp only[sX,sY,sZ];refine wpAnyH_done (by kernel_rfl) ?_ _;rw[hX1];go_wp2_with fail;go_meet;exact⟨rfl,rfl⟩
   . obtain rfl:false=isn:=hisn
     refine tj 7 16 (.bool false) zz ?_ (hy:=fun w hS=>by first | (simp[execOp,go_sem];done) | kernel_rfl);simp only[sX,sY,sZ];refine wpAnyH_done (by kernel_rfl) ?_ _;rw[hX1];go_wp2_with fail;go_meet;exact⟨rfl,rfl⟩
 obtain⟨rfl,hwx⟩:=hcut
 subst hwx
 obtain⟨X1,hX1'⟩:∃X1,X1=wc:=⟨_,rfl⟩
 subst hX1'
 clear hX1
 rename_i hK0
 refine hK0 _ _ ?_
 clear hK0
 go_cut [] from 4 (fun wx=>∃b,Blk wx R 60 [v1,v2,v3,v4,Ya 3,Ya (c0:Nat),Ya (c1:Nat),Ya (c2:Nat),Ya (c3:Nat),m0,m1,m2,.map (some b)]/\Blk wx w.heap.size 96 (Jm n vl vr (t:Nat) vi vh vv sa vm).toList/\PMap wx b lst/\Dsm R m3 w wx/\Below R w wx/\(m3=.map (some b)∨w.heap.size<=b)/\R<b)
 case first =>
  as_aux_lemma =>
   have hmv:=HM0.u;rcases hmv with ⟨rfl,rfl⟩ | ⟨b,rfl,hp⟩
   . obtain rfl:true=isn:=hisn
     have hdr:=(bR X1.heap.size X1).drew;obtain⟨X2,hX2⟩:=Nq X1.drew;rw[hX2]at hdr;have hz2:X2.heap.size=X1.heap.size:=(by rw[<- hX2];rfl);have hR2:=HSd.u.1.mono hdr HSd.u.1.lt;have hS2:=HSd.u.2.mono hdr HSd.u.2.lt;have hba:=(bR X2.heap.size X2).alloc (nR _) (.map #[] 0);have hmd:(X2.alloc (.map #[] 0)).ownsMap Tryz.prog 9 (plainElem (H:=Unit) Tryz.prog 3) X2.heap.size 0 (mp []):=World.ownsMap_made _ _ _ _;have hR3:=hR2.mono hba hR2.lt;have hS3:=hS2.mono hba hS2.lt;obtain⟨⟨r0,r1,r2,r3,r4,r5,r6⟩,r7,r8,r9,r10,r11,r12⟩:=thirteen hR3;have fo:=hR3.free 12;have hR4:=hR3.set 12 (.map (some X2.heap.size));have hS4:Blk ((X2.alloc (.map #[] 0)).setCell ⟨R,12,none⟩ (.map (some X2.heap.size))) w.heap.size 96 (Jm n vl vr (t:Nat) vi vh vv sa vm).toList:=hS3.other (a:=⟨R,12,none⟩) (.map (some X2.heap.size)) (by show w.heap.size≠R;omega);have hp4:PMap ((X2.alloc (.map #[] 0)).setCell ⟨R,12,none⟩ (.map (some X2.heap.size))) X2.heap.size []:=PMap.same hmd (heap_setCell_other _ ⟨R,12,none⟩ X2.heap.size _ (by show X2.heap.size≠R;omega));have HX:Hi (∃b,Blk ((X2.alloc (.map #[] 0)).setCell ⟨R,12,none⟩ (.map (some X2.heap.size))) R 60 [v1,v2,v3,v4,Ya 3,Ya (c0:Nat),Ya (c1:Nat),Ya (c2:Nat),Ya (c3:Nat),m0,m1,m2,.map (some b)]/\Blk ((X2.alloc (.map #[] 0)).setCell ⟨R,12,none⟩ (.map (some X2.heap.size))) w.heap.size 96 (Jm n vl vr (t:Nat) vi vh vv sa vm).toList/\PMap ((X2.alloc (.map #[] 0)).setCell ⟨R,12,none⟩ (.map (some X2.heap.size))) b []/\Dsm R (.map none) w ((X2.alloc (.map #[] 0)).setCell ⟨R,12,none⟩ (.map (some X2.heap.size)))/\Below R w ((X2.alloc (.map #[] 0)).setCell ⟨R,12,none⟩ (.map (some X2.heap.size)))/\(Value.map none=Value.map (some b)∨w.heap.size<=b)/\R<b):=h_ ⟨X2.heap.size,hR4,hS4,hp4,(fun g hg hgR _=>(heap_setCell_other _ ⟨R,12,none⟩ g _ (fun e=>hgR e)).trans ((hba.block g (by omega)).trans ((hdr.block g (by omega)).trans (HSX.u g hg hgR)))),((HBX.u.trans ((hdr.trans (hba.mono (by omega))).mono (by omega))).setCell (p:=⟨R,12,none⟩) (nR _) _),.inr (by omega),by omega⟩;clear hz2;go_upto_region 3 with fail
     refine wp_region_held_drew (S:=fun w'=>Blk w' w.heap.size 96 (Jm n vl vr (t:Nat) vi vh vv sa vm).toList) (by kernel_rfl) (by rw[hX2];exact hS2) (fun zz=>?_);refine tj 0 17 (Yd R 0) zz ?_;refine tj 1 18 (Yd w.heap.size 0) zz ?_;refine tj 2 19 (Ya 3) zz ?_ (hy:=fun w hS=>by obtain⟨⟨q0,-⟩,-⟩:=thirteen hS;simp[execOp,go_sem,q0]);refine tj 4 21 (Yd R 0) zz ?_;simp only[sX,sY,sZ];refine tj 5 22 (Yd R 9) zz ?_;simp only[sX,sY,sZ];rw[hX2];refine runZ (i:=3) (v:=.map (some X2.heap.size)) (w':=X2.alloc (.map #[] 0)) 20 rfl rfl (by rfl) (by kernel_rfl) (by simp[execOp,go_sem,hmm]) hS3 ?_;simp only[sX,sY,sZ];replace zz:=hS3;refine tj 6 23 (Yd R 12) zz ?_;simp only[sX,sY,sZ];refine storeY (i:=7) (w':=(X2.alloc (.map #[] 0)).setCell ⟨R,12,none⟩ (.map (some X2.heap.size))) rfl (by rfl) (by kernel_rfl) rfl (by simp[execOp,go_sem,r12,fo]) rfl hS4 ?_;refine wpAnyH_done (by kernel_rfl) ?_ _;clear zz;go_wp2_with fail;go_meet;exact HX.u
   . obtain rfl:false=isn:=hisn
     have HX:Hi (∃b',Blk X1 R 60 [v1,v2,v3,v4,Ya 3,Ya (c0:Nat),Ya (c1:Nat),Ya (c2:Nat),Ya (c3:Nat),m0,m1,m2,.map (some b')]/\Blk X1 w.heap.size 96 (Jm n vl vr (t:Nat) vi vh vv sa vm).toList/\PMap X1 b' lst/\Dsm R (.map (some b)) w X1/\Below R w X1/\(Value.map (some b)=Value.map (some b')∨w.heap.size<=b')/\R<b'):=h_ ⟨b,HSd.u.1,HSd.u.2,hp,(fun g hg hgR _=>HSX.u g hg hgR),HBX.u,.inl rfl,hRb b rfl⟩;go_wp2_with fail;go_meet;exact HX.u
 case rest =>
  obtain⟨b,hR5,hS5,hp5,hd5,hb5,ho5,hRb5⟩:=hcut;clear HSd HM0 HBX HSX HSM HBB HR1 HS1;have HD5:=h_ hd5;have HB5:=h_ hb5;have HO5:=h_ ho5;have hz5:w.heap.size<wc.heap.size:=hS5.lt;obtain⟨⟨s0,s1,s2,s3,s4,s5,s6⟩,s7,s8,s9,s10,s11,s12⟩:=thirteen hS5;clear hd5 hb5 ho5;have hdr:=(bR wc.heap.size wc).drew;obtain⟨X5,hX5⟩:=Nq wc.drew;rw[hX5]at hdr;have hR6:=hR5.mono hdr hR5.lt;have hS6:=hS5.mono hdr hS5.lt;have hp6:=hp5.mono hdr;go_upto_region 5 with fail
  refine wp_region_held_drew (S:=fun w'=>Blk w' R 60 [v1,v2,v3,v4,Ya 3,Ya (c0:Nat),Ya (c1:Nat),Ya (c2:Nat),Ya (c3:Nat),m0,m1,m2,.map (some b)]/\Blk w' w.heap.size 96 (Jm n vl vr (t:Nat) vi vh vv sa vm).toList) (by kernel_rfl) (by rw[hX5];exact⟨hR6,hS6⟩) (fun zz=>?_);refine tj 0 27 (Yd R 0) zz ?_;refine tj 1 28 (Yd w.heap.size 0) zz ?_;refine tj 2 29 (Ya 3) zz ?_ (hy:=fun w hS=>by obtain⟨⟨q0,-⟩,-⟩:=thirteen hS.2;simp[execOp,go_sem,q0]);refine tj 3 30 (Yd R 0) zz ?_;simp only[sX,sY,sZ];refine tj 4 31 (Yd R 9) zz ?_;refine tj 5 32 (Yd R 12) zz ?_;refine tj 6 33 (.map (some b)) zz ?_ (hy:=fun w hS=>by obtain⟨-,q7,q8,q9,q10,q11,q12⟩:=thirteen hS.1;simp[execOp,go_sem,q12]);refine tj 7 34 (Yd w.heap.size 1) zz ?_;simp only[sX,sY,sZ];refine tj 8 35 (.string n) zz ?_ (hy:=fun w hS=>by obtain⟨⟨q0,q1,-⟩,-⟩:=thirteen hS.2;simp[execOp,go_sem,q1]);refine tj 9 36 (Yd R 0) zz ?_;refine tj 10 37 (Yd w.heap.size 0) zz ?_;refine tj 11 38 (Ya 3) zz ?_ (hy:=fun w hS=>by obtain⟨⟨q0,-⟩,-⟩:=thirteen hS.2;simp[execOp,go_sem,q0]);simp only[sX,sY,sZ];refine tj 12 39 (Yd R 0) zz ?_;refine tj 13 40 (Yd R 5) zz ?_;refine tj 14 41 (Yd R 8) zz ?_;refine tj 15 42 (Ya (c3:Nat)) zz ?_ (hy:=fun w hS=>by obtain⟨⟨q0,q1,q2,q3,q4,q5,q6⟩,q7,q8,-⟩:=thirteen hS.1;simp[execOp,go_sem,q8]);simp only[sX,sY,sZ];rw[hX5];refine updY (i:=16) rfl rfl (by rfl) (by kernel_rfl) (.tmp 33) (.tmp 35) (.tmp 42) rfl b lst rfl hp6 (by omega) n rfl (by omega) (by rw[hc];rfl) ?_;intro W7 hp7 hg7;have hR7:=hR6.grown hg7 (fun e=>by injection e with e;omega);have hS7:=hS6.grown hg7 (fun e=>hp6.ne hS6 (Vb e).symm);refine⟨⟨hR7,hS7⟩,?_⟩;refine wpAnyH_done (by kernel_rfl) ?_ _;clear zz s0 s1 s2 s3 s4 s5 s6 s7 s8 s9 s10 s11 s12;have hdr7:=(bR W7.heap.size W7).drew;obtain⟨X7,hX7⟩:=Nq W7.drew;rw[hX7]at hdr7;have hR8:=hR7.mono hdr7 hR7.lt;have hS8:=hS7.mono hdr7 hS7.lt;have hp8:=hp7.mono hdr7;obtain⟨⟨r0,r1,r2,r3,r4,r5,r6⟩,r7,r8,r9,r10,r11,r12⟩:=thirteen hR8;have fo:=hR8.free 8;obtain⟨cn,hcn⟩:=Nq (c3+1);have hcn':(c3:Int)+1=(cn:Int):=by omega
  have hwr:IntKind.i64.wrap (cn:Int)=(cn:Int):=i64_n cn (by omega);have hR9:Blk (X7.setCell ⟨R,8,none⟩ (Ya (cn:Nat))) R 60 [v1,v2,v3,v4,Ya 3,Ya (c0:Nat),Ya (c1:Nat),Ya (c2:Nat),Ya (cn:Nat),m0,m1,m2,.map (some b)]:=hR8.set 8 (Ya (cn:Nat));have hS9:Blk (X7.setCell ⟨R,8,none⟩ (Ya (cn:Nat))) w.heap.size 96 (Jm n vl vr (t:Nat) vi vh vv sa vm).toList:=hS8.other (a:=⟨R,8,none⟩) _ (by show w.heap.size≠R;omega);have hsz:wc.heap.size<=X7.heap.size:=Yt hdr.size (Yt hg7.size hdr7.size);have HFin:Hi (∃mv,Blk (X7.setCell ⟨R,8,none⟩ (Ya (cn:Nat))) R 60 [v1,v2,v3,v4,Ya 3,Ya (c0:Nat),Ya (c1:Nat),Ya (c2:Nat),Ya (cn:Nat),m0,m1,m2,mv]/\MpS (X7.setCell ⟨R,8,none⟩ (Ya (cn:Nat))) mv (lst++[n])/\Dsm R m3 w (X7.setCell ⟨R,8,none⟩ (Ya (cn:Nat)))/\Below R w (X7.setCell ⟨R,8,none⟩ (Ya (cn:Nat)))/\(∀b,mv=.map (some b)->m3=.map (some b)∨w.heap.size<=b)):=h_ ⟨.map (some b),hR9,.inr ⟨b,rfl,hp8.same (heap_setCell_other X7 ⟨R,8,none⟩ b _ (by show b≠R;omega))⟩,(fun g hg hgR hgm=>(heap_setCell_other X7 ⟨R,8,none⟩ g _ (fun e=>hgR e)).trans ((hdr7.block g (by have:=hg7.size;have:=hdr.size;omega)).trans ((hg7.block g (by have:=hdr.size;omega) (fun e=>by
   injection e with e
   subst e;rcases HO5.u with h | h
   . exact hgm h
   . omega)).trans ((hdr.block g (by omega)).trans (HD5.u g hg hgR hgm))))),(((HB5.u.trans (hdr.mono (by omega))).grown hg7 (by have:=hdr.size;omega) (fun k e=>by injection e with e;omega)).trans (hdr7.mono (by have:=hg7.size;have:=hdr.size;omega))).setCell (p:=⟨R,8,none⟩) (nR _) _,(fun b' e=>by injection e with e;injection e with e;subst e;exact HO5.u)⟩
  go_upto_region 6 with fail
  refine wp_region_held_drew (S:=fun w'=>Blk w' w.heap.size 96 (Jm n vl vr (t:Nat) vi vh vv sa vm).toList) (by kernel_rfl) (by rw[hX7];exact hS8) (fun zz=>?_);refine tj 0 43 (Yd R 0) zz ?_;refine tj 1 44 (Yd w.heap.size 0) zz ?_;refine tj 2 45 (Ya 3) zz ?_ (hy:=fun w hS=>by obtain⟨⟨q0,-⟩,-⟩:=thirteen hS;simp[execOp,go_sem,q0]);refine tj 3 46 (Yd R 0) zz ?_;simp only[sX,sY,sZ];refine tj 4 47 (Yd R 5) zz ?_;refine tj 5 48 (Yd R 8) zz ?_;refine tj 8 51 (Yd R 0) zz ?_;refine tj 9 52 (Yd R 5) zz ?_;simp only[sX,sY,sZ];rw[hX7];refine runZ (i:=6) (v:=Ya (c3:Nat)) (w':=X7) 49 rfl rfl (by rfl) (by kernel_rfl) (by simp[execOp,go_sem,r8]) hS8 ?_;simp only[sX,sY,sZ];replace zz:=hS8;refine tj 7 50 (Ya (cn:Nat)) zz ?_ (hy:=fun w hS=>by simp[execOp,go_sem];rw[hcn'];exact hwr);refine tj 10 53 (Yd R 8) zz ?_;simp only[sX,sY,sZ];refine storeY (i:=11) (w':=X7.setCell ⟨R,8,none⟩ (Ya (cn:Nat))) rfl (by rfl) (by kernel_rfl) rfl (by simp[execOp,go_sem,r8,fo]) rfl hS9 ?_;refine wpAnyH_done (by kernel_rfl) ?_ _;clear zz;go_wp2_with fail
  go_end0
  exact⟨rfl,HFin.u⟩
end Go.Proofs.YtfmammdgehbjhaaGreatDoor
