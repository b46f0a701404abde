import Derived.Test.YtfmammdgehbjhaaGreatDoorW25
set_option maxRecDepth 100000
set_option maxHeartbeats 64000000
namespace Go.Proofs.YtfmammdgehbjhaaGreatDoor
open Go Go.RowKit
theorem q0l (T:List ByteArray)(hF:cF T=false)(a:Option Addr)(c:Nat)(w:World)(hc:T.length<=c)(hl:T.length<=1048576)(ht:TkOk T)(ha:Tks w a T) :
 Calls Tryz.prog 12 #[.slice a T.length c] w (StmO w T):=by
 have hF':=hF
 unfold cF at hF'
 simp only[Bool.or_eq_false_iff,Zy,Bool.not_eq_false',Yj]at hF'
 obtain⟨g5,gW,gG,gT,gA⟩:=hF'
 have n2:((T.length:Int)==2)=false:=Ye.2 (by omega)
 have n3:((T.length:Int)==3)=false:=Ye.2 (by omega)
 have n4:((T.length:Int)==4)=false:=Ye.2 (by omega)
 have n5:¬ (T.length:Int)<5:=by omega
 have l0:(0:Int)<T.length:=by omega
 have l1:(1:Int)<T.length:=by omega
 have l2:(2:Int)<T.length:=by omega
 have l3:(3:Int)<T.length:=by omega
 have l4:(4:Int)<T.length:=by omega
 have HLn:Hi (5<=T.length):=h_ (by omega)
 obtain⟨ty,hty⟩:=Nq (tyO (pk T 2))
 have ht0:((ty:Int)==0)=false:=Ye.2 (by rw[hty]at gT;omega)
 have HTy:=h_ hty;have HGG:=h_ gG;have HF:=h_ hF
 have HT:=h_ ht;have HAw:=h_ ha
 have HG1:Hi ((pk T 1).size<=9223372036854775807):=h_ (by rw[pk_lt (show 1<T.length by omega)];have:=(ht.at (show 1<T.length by omega)).2;omega)
 obtain⟨b,o,p1,rfl,-⟩:=ha 1 (by omega)
 have HTk:Hi (∀k,k<T.length->∃p,∀W,Below w.heap.size w W->W.cell? ⟨b,o+k*3,none⟩=some (Ya (cls (pk T k):Nat))/\W.cell? ⟨b,o+k*3+1,none⟩=some (.string (txt (pk T k)))/\W.cell? ⟨b,o+k*3+2,none⟩=some (Ya p)):=h_ fun k hk=>by
  obtain⟨b',o',p,e',hb',z0,z1,z2⟩:=ha k hk;cases e';rw[<- pk_lt hk]at z0 z1;have hlt:b<w.heap.size:=hb';exact⟨p,fun W hW=>⟨(hW.cell hlt).trans z0,(hW.cell hlt).trans z1,(hW.cell hlt).trans z2⟩⟩
 have HQ0:Hi (∀p W,Calls Tryz.prog 44 #[tV (pk T 0) p,.string kField] W fun e w'=>e=.returned (.bool true)/\Below W.heap.size W w'):=h_ fun p W=>by have:=qf6 (t:=pk T 0) (s:=kField) p (by decide) W;rwa [Yh gW]at this
 have HQ1:Hi (∀p W,Calls Tryz.prog 45 #[tV (pk T 1) p] W fun e w'=>e=.returned (.bool true)/\Below W.heap.size W w'):=h_ fun p W=>by have:=qch (t:=pk T 1) p HG1.u W;rwa [gG]at this
 have HQ2:Hi (∀p W,Calls Tryz.prog 46 #[tV (pk T 2) p] W fun e w'=>e=.returned (Ya (ty:Nat))/\Below W.heap.size W w'):=h_ fun p W=>by have:=q8b (pk T 2) p W;rwa [hty]at this
 have HQ3:Hi (∀p W,Calls Tryz.prog 44 #[tV (pk T 3) p,.string kAt] W fun e w'=>e=.returned (.bool true)/\Below W.heap.size W w'):=h_ fun p W=>by have:=qf6 (t:=pk T 3) (s:=kAt) p (by decide) W;rwa [Yh gA]at this
 clear g5 gW gG gT gA hty hF
 have HB0:=h_ (((bR w.heap.size w).alloc (nR _) (.cells Ja 44)).alloc (by simp) (.cells Ja 44))
 have HR0:=h_ ((Blk.new w 44 Ja).alloc (.cells Ja 44))
 have HN0:=h_ (Blk.new (w.alloc (.cells Ja 44)) 44 Ja)
 rw[Yy]at HN0
 obtain⟨W0,hW0⟩:=Nq ((w.alloc (.cells Ja 44)).alloc (.cells Ja 44))
 have HNl:=HN0
 rw[hW0]at HB0 HR0 HN0
 clear ht
 go_enter Tryz.func12,Tryz.ntmps12
 go_upto_region 3 with (refine stR HN0.u ?_)
 clear HNl
 replace HB0:=h_ (q8i HB0.u (g:=w.heap.size+1) (by omega) Ja)
 replace HR0:=h_ (HR0.u.rowS_other (g:=w.heap.size+1) (by omega) Ja)
 replace HN0:=h_ (HN0.u.rowS [Ya 0,Yc,Yc,.bool false,Ya 0,Yb,Yb,Yb,Yb,Yc,Yb])
 have HA:=h_ (ha.mono HB0.u)
 clear hW0 ha
 generalize W0.setRow (w.heap.size+1) _=W1 at *
 have HBx:=h_ HB0.u
 obtain⟨p0',z0⟩:=HTk.u 0 (by have:=HLn.u;omega)
 obtain⟨z0a,z0b,z0c⟩:=z0 _ HBx.u
 rw[show o+0*3=o by omega]at z0a z0b z0c
 go_wp2_with fail
 refine(HQ0.u p0' _).mono ?_
 rintro e w2 ⟨rfl,hb⟩
 replace HBx:=mT HBx hb
 replace HR0:=mB HR0 hb;replace HN0:=mB HN0 hb
 clear hb z0a z0b z0c
 obtain⟨p1',z1⟩:=HTk.u 1 (by have:=HLn.u;omega)
 obtain⟨z1a,z1b,z1c⟩:=z1 _ HBx.u
 rw[show o+1*3=o+3 by omega]at z1a z1b z1c
 go_wp2_with fail
 refine(HQ1.u p1' _).mono ?_
 rintro e w2 ⟨rfl,hb⟩
 replace HBx:=mT HBx hb
 replace HR0:=mB HR0 hb;replace HN0:=mB HN0 hb
 clear hb z1a z1b z1c
 obtain⟨p2',z2⟩:=HTk.u 2 (by have:=HLn.u;omega)
 obtain⟨z2a,z2b,z2c⟩:=z2 _ HBx.u
 rw[show o+2*3=o+6 by omega]at z2a z2b z2c
 go_wp2_with fail
 refine(HQ2.u p2' _).mono ?_
 rintro e w2 ⟨rfl,hb⟩
 replace HBx:=mT HBx hb
 replace HR0:=mB HR0 hb;replace HN0:=mB HN0 hb
 clear hb z2a z2b z2c
 obtain⟨p3',z3⟩:=HTk.u 3 (by have:=HLn.u;omega)
 obtain⟨z3a,z3b,z3c⟩:=z3 _ HBx.u
 rw[show o+3*3=o+9 by omega]at z3a z3b z3c
 go_wp2_with fail
 refine(HQ3.u p3' _).mono ?_
 rintro e w2 ⟨rfl,hb⟩
 replace HBx:=mT HBx hb
 replace HR0:=mB HR0 hb;replace HN0:=mB HN0 hb
 clear hb z3a z3b z3c
 go_upto_region 11 with fail
 go_cut [5] from 100 (fun s5 wx=>∃D,s5=Yd D 0/\w.heap.size+2<=D/\Blk wx D 44 (Je (pk T 1) (ty:Nat)).toList/\Below w.heap.size w wx/\Blk wx w.heap.size 44 Ja.toList/\Blk wx (w.heap.size+1) 44 Ja.toList)
 case first =>
  as_aux_lemma =>
   obtain⟨p2',z2⟩:=HTk.u 2 (by have:=HLn.u;omega);obtain⟨p1',z1⟩:=HTk.u 1 (by have:=HLn.u;omega);have HT1:Hi (∀W,Below w.heap.size w W->W.cell? ⟨b,o+3+1,none⟩=some (.string (pk T 1))):=h_ fun W hW=>by
    have:=(z1 W hW).2.1;rw[qf1 HGG.u]at this;exact this
   have HT2:=h_ z2;clear z1 z2;refine wp_region_held_drew (S:=fun w'=>Below w.heap.size w w') (by kernel_rfl) HBx.u.drew (fun zz=>?_);refine tj 0 131 (.slice (some ⟨b,o,none⟩) T.length c) zz ?_;refine tj 1 132 (Yd b (o+3)) zz ?_;refine tj 2 133 (Yd b (o+3+1)) zz ?_;refine tj 3 134 (.string (pk T 1)) zz ?_ (hy:=fun w hS=>by have z:=HT1.u w hS;simp[execOp,go_sem,z]);simp only[sX,sY,sZ];refine tj 4 135 (.slice (some ⟨b,o,none⟩) T.length c) zz ?_;refine tj 5 136 (Yd b (o+6)) zz ?_;refine tj 6 137 (.agg (Jv (cls (pk T 2):Nat) (txt (pk T 2)) p2')) zz ?_ (hy:=fun w hS=>by obtain⟨za,zb,zc⟩:=HT2.u w hS;rw[show o+2*3=o+6 by omega]at za zb zc;simp[execOp,go_sem,za,zb,zc]);simp only[sX,sY,sZ];obtain⟨V,hV⟩:=Nq w2.drew;have hRV:Blk V w.heap.size 44 Ja.toList:=by rw[<- hV];exact HR0.u
   have hNV:Blk V (w.heap.size+1) 44 Ja.toList:=by rw[<- hV];exact HN0.u
   have hBV:Below w.heap.size w V:=by rw[<- hV];exact HBx.u.drew
   rw[hV]at zz⊢;clear hV HR0 HN0 HBx;have hNl:w.heap.size+2<=V.heap.size:=hNV.lt;have hba:=(bR V.heap.size V).alloc (nR _) (.cells Ja 44);have hDa:=Blk.new V 44 Ja;have hBa:=hBV.trans (hba.mono hBV.size);refine wpAnyH_ready (rs:=[7,9]) (by kernel_rfl) (by simp) (consCall (i:=7) (f:=46) (args:=#[.agg (Jv (cls (pk T 2):Nat) (txt (pk T 2)) p2')]) (R:=fun v wz=>v=Ya (ty:Nat)/\Below V.heap.size V wz) 138 rfl rfl (by rfl) (by simp[execOp,go_sem]) ((HQ2.u p2' V).mono fun e w6 ⟨he,hw⟩=>⟨_,he,rfl,hw⟩) ?pA (consRun (i:=9) (v:=Yd V.heap.size 0) (w':=V.alloc (.cells Ja 44)) 5 rfl rfl (by rfl) (by simp[execOp,go_sem]) hBa ?pB AllReadyH.nil))
   case pA =>
    rintro v W7 ⟨rfl,hb7⟩;have hB7:=hBV.trans (hb7.mono hBV.size);have hR7:=hRV.mono hb7 hRV.lt;have hN7:=hNV.mono hb7 hNV.lt;have hl7:=hb7.size;have hDb:=Blk.new W7 44 Ja;have hbb:=(bR W7.heap.size W7).alloc (nR _) (.cells Ja 44);have hBb:=hB7.trans (hbb.mono hB7.size);have hRb:=hR7.mono hbb hR7.lt;have hNb:=hN7.mono hbb hN7.lt;refine⟨hB7,?_⟩;replace zz:=hB7;simp only[sX,sY,sZ];refine tj 8 139 (.agg (Je (pk T 1) (ty:Nat))) zz ?_ (hy:=fun w hS=>by exact q4k 44 #[(0,.const (Ya 4)),(1,.tmp 134),(4,.tmp 138)] rfl _ (by kernel_rfl));simp only[sX,sY,sZ];refine wpAnyH_ready (rs:=[9]) (by kernel_rfl) (by simp) (consRun (i:=9) (v:=Yd W7.heap.size 0) (w':=W7.alloc (.cells Ja 44)) 5 rfl rfl (by rfl) (by simp[execOp,go_sem]) hBb ?_ AllReadyH.nil);simp only[sX,sY,sZ];obtain⟨X,hX⟩:=Nq (W7.alloc (.cells Ja 44));obtain⟨D,hD⟩:=Nq W7.heap.size;rw[hX]at hDb hBb hRb hNb⊢;rw[hD]at hDb hl7⊢;have hBr:=q8i hBb (g:=D) (by omega) (Je (pk T 1) (ty:Nat));refine storeY (i:=10) (w':=X.setRow D (Je (pk T 1) (ty:Nat))) rfl (by rfl) (by kernel_rfl) rfl (q0p 44 (.tmp 5) (.tmp 139) rfl D _ rfl rfl 44 _ hDb (by kernel_rfl) rfl (by simp[Value.oneCell'])) rfl hBr ?_;refine wpAnyH_done (by kernel_rfl) ?_ _;have hDr:=hDb.rowS (Je (pk T 1) (ty:Nat)).toList;have hRr:=hRb.rowS_other (g:=D) (by omega) (Je (pk T 1) (ty:Nat));have hNr:=hNb.rowS_other (g:=D) (by omega) (Je (pk T 1) (ty:Nat));have HF9:=h_ (⟨D,rfl,by omega,hDr,hBr,hRr,hNr⟩:∃D',Value.pointer (some ⟨D,0,none⟩)=Yd D' 0/\w.heap.size+2<=D'/\Blk (X.setRow D (Je (pk T 1) (ty:Nat))) D' 44 (Je (pk T 1) (ty:Nat)).toList/\Below w.heap.size w (X.setRow D (Je (pk T 1) (ty:Nat)))/\Blk (X.setRow D (Je (pk T 1) (ty:Nat))) w.heap.size 44 Ja.toList/\Blk (X.setRow D (Je (pk T 1) (ty:Nat))) (w.heap.size+1) 44 Ja.toList);generalize X.setRow D (Je (pk T 1) (ty:Nat))=Y at *;clear zz hDr hRr hNr hBr hDb hBb hRb hNb hR7 hN7 hB7 hb7 hbb hba hDa hBa hRV hNV hBV;go_wp2_with fail;go_meet;exact HF9.u
   case pB =>
    simp only[sX,sY,sZ];have hRa:=hRV.mono hba hRV.lt;have hNa:=hNV.mono hba hNV.lt;obtain⟨X,hX⟩:=Nq (V.alloc (.cells Ja 44));obtain⟨D,hD⟩:=Nq V.heap.size;rw[hX]at hDa hBa hRa hNa⊢;rw[hD]at hDa hNl⊢;refine callY (i:=7) (f:=46) (args:=#[.agg (Jv (cls (pk T 2):Nat) (txt (pk T 2)) p2')]) (R:=fun v wz=>v=Ya (ty:Nat)/\Below X.heap.size X wz) 138 rfl rfl (by rfl) (by kernel_rfl) (by simp[execOp,go_sem]) ((HQ2.u p2' X).mono fun e w6 ⟨he,hw⟩=>⟨_,he,rfl,hw⟩) ?_;rintro v W7 ⟨rfl,hb7⟩;have hB7:=hBa.trans (hb7.mono hBa.size);have hR7:=hRa.mono hb7 hRa.lt;have hN7:=hNa.mono hb7 hNa.lt;have hD7:=hDa.mono hb7 hDa.lt;refine⟨hB7,?_⟩;replace zz:=hB7;simp only[sX,sY,sZ];refine tj 8 139 (.agg (Je (pk T 1) (ty:Nat))) zz ?_ (hy:=fun w hS=>by exact q4k 44 #[(0,.const (Ya 4)),(1,.tmp 134),(4,.tmp 138)] rfl _ (by kernel_rfl));simp only[sX,sY,sZ];have hBr:=q8i hB7 (g:=D) (by omega) (Je (pk T 1) (ty:Nat));refine storeY (i:=10) (w':=W7.setRow D (Je (pk T 1) (ty:Nat))) rfl (by rfl) (by kernel_rfl) rfl (q0p 44 (.tmp 5) (.tmp 139) rfl D _ rfl rfl 44 _ hD7 (by kernel_rfl) rfl (by simp[Value.oneCell'])) rfl hBr ?_;refine wpAnyH_done (by kernel_rfl) ?_ _;have hDr:=hD7.rowS (Je (pk T 1) (ty:Nat)).toList;have hRr:=hR7.rowS_other (g:=D) (by omega) (Je (pk T 1) (ty:Nat));have hNr:=hN7.rowS_other (g:=D) (by omega) (Je (pk T 1) (ty:Nat));have HF9:=h_ (⟨D,rfl,by omega,hDr,hBr,hRr,hNr⟩:∃D',Value.pointer (some ⟨D,0,none⟩)=Yd D' 0/\w.heap.size+2<=D'/\Blk (W7.setRow D (Je (pk T 1) (ty:Nat))) D' 44 (Je (pk T 1) (ty:Nat)).toList/\Below w.heap.size w (W7.setRow D (Je (pk T 1) (ty:Nat)))/\Blk (W7.setRow D (Je (pk T 1) (ty:Nat))) w.heap.size 44 Ja.toList/\Blk (W7.setRow D (Je (pk T 1) (ty:Nat))) (w.heap.size+1) 44 Ja.toList);generalize W7.setRow D (Je (pk T 1) (ty:Nat))=Y at *;clear zz hDr hRr hNr hBr hDa hBa hRa hNa hR7 hN7 hB7 hb7 hba hRV hNV hBV hD7;go_wp2_with fail;go_meet;exact HF9.u
 case rest =>
  obtain⟨D,rfl,hD2,hDB,hBw,hRB,hNB⟩:=hcut;have HD:=h_ hDB;have HBx:=h_ hBw;have HR0:=h_ hRB;have HN0:=h_ hNB;clear hDB hBw hRB hNB;obtain⟨p4',z4⟩:=HTk.u 4 (by have:=HLn.u;omega);have HT4:=h_ z4;have HG4:Hi ((pk T 4).size<=9223372036854775807):=h_ (by rw[pk_lt (show 4<T.length by have:=HLn.u;omega)];have:=(HT.u.at (show 4<T.length by have:=HLn.u;omega)).2;omega);have HQ4:=h_ fun W=>qf6 (t:=pk T 4) (s:=kAuto) p4' (by decide) W;have HQ5:=h_ fun W=>qch (t:=pk T 4) p4' HG4.u W;obtain⟨z4a,z4b,z4c⟩:=HT4.u _ HBx.u;rw[show o+4*3=o+12 by omega]at z4a z4b z4c;clear z4;obtain⟨qa,hqa⟩:∃qa,decide (pk T 4=kAuto)=qa:=⟨_,rfl⟩;obtain⟨ot,hot⟩:∃ot,(if pk T 4=kAuto then (⟨#[]⟩:ByteArray) else pk T 4)=ot:=⟨_,rfl⟩;have HOt:=h_ hot;have HQa:=h_ hqa;rw[hqa]at HQ4;clear hqa hot;go_upto_region 13 with fail
  go_wp2_with fail;refine(HQ4.u _).mono ?_;rintro e w3 ⟨rfl,hb⟩;replace HBx:=mT HBx hb;replace HR0:=mB HR0 hb;replace HN0:=mB HN0 hb;replace HD:=mB HD hb;clear hb z4a z4b z4c;go_upto_if 143 with fail
  go_cut [] from 100 (fun wx=>(pk T 4=kAuto∨goodN (pk T 4)=true)/\Blk wx D 44 #[Ya 4,.string (pk T 1),.string ot,.bool qa,Ya (ty:Nat),Yb,Yb,Yb,Yb,Yc,Yb].toList/\Below w.heap.size w wx/\Blk wx w.heap.size 44 Ja.toList/\Blk wx (w.heap.size+1) 44 Ja.toList)
  case first =>
   as_aux_lemma =>
    obtain⟨⟨d0,d1,d2,d3,d4,d5⟩,d6,d7,d8,d9,d10⟩:=eleven HD.u;have fr2:=HD.u.free 2;have fr3:=HD.u.free 3;by_cases hau:pk T 4=kAuto
    case pos =>
     obtain rfl:true=qa:=(by rw[<- HQa.u,Yh hau]);obtain rfl:(⟨#[]⟩:ByteArray)=ot:=(by rw[<- HOt.u,Yn hau]);have HD3:=h_ (HD.u.set 3 (.bool true));have HAu:=h_ hau;have HBr:=h_ (HBx.u.setCell (p:=⟨D,3,none⟩) (by show w.heap.size<=D;omega) (.bool true));have HRr:=h_ (HR0.u.other (a:=⟨D,3,none⟩) (.bool true) (by show w.heap.size≠D;omega));have HNr:=h_ (HN0.u.other (a:=⟨D,3,none⟩) (.bool true) (by show w.heap.size+1≠D;omega));clear hau;go_wp2_with fail;go_meet;exact⟨.inl HAu.u,HD3.u,HBr.u,HRr.u,HNr.u⟩
    obtain rfl:false=qa:=(by rw[<- HQa.u,Yg hau]);obtain rfl:pk T 4=ot:=(by rw[<- HOt.u,Yi hau]);have HAu:=h_ hau;obtain⟨z4a,z4b,z4c⟩:=HT4.u _ HBx.u;rw[show o+4*3=o+12 by omega]at z4a z4b z4c;clear hau;go_wp2_with fail;by_cases hgd:goodN (pk T 4)=true
    case pos =>
     rw[hgd]at HQ5;refine(HQ5.u _).mono ?_;rintro e w4 ⟨rfl,hb⟩;replace HBx:=mT HBx hb;replace HR0:=mB HR0 hb;replace HN0:=mB HN0 hb;replace HD:=mB HD hb;clear hb z4a z4b z4c d0 d1 d2 d3 d4 d5 d6 d7 d8 d9 d10 fr2 fr3;obtain⟨⟨d0,d1,d2,d3,d4,d5⟩,d6,d7,d8,d9,d10⟩:=eleven HD.u;have fr2:=HD.u.free 2;obtain⟨z4a,z4b,z4c⟩:=HT4.u _ HBx.u;rw[show o+4*3=o+12 by omega]at z4a z4b z4c;rw[qf1 hgd]at z4b;have HGd:=h_ hgd;have HD3:=h_ (HD.u.set 2 (.string (pk T 4)));have HBr:=h_ (HBx.u.setCell (p:=⟨D,2,none⟩) (by show w.heap.size<=D;omega) (.string (pk T 4)));have HRr:=h_ (HR0.u.other (a:=⟨D,2,none⟩) (.string (pk T 4)) (by show w.heap.size≠D;omega));have HNr:=h_ (HN0.u.other (a:=⟨D,2,none⟩) (.string (pk T 4)) (by show w.heap.size+1≠D;omega));clear hgd;dsimp only;go_wp2_with fail;go_meet;exact⟨.inr HGd.u,HD3.u,HBr.u,HRr.u,HNr.u⟩
    rw[Vk]at hgd;rw[hgd]at HQ5;have HNo:Hi (∀x,¬ StG T x):=h_ fun x hx=>by
     have h5:=HLn.u;rcases qj2 hx with h | h | h | ⟨-,h | h⟩
     . unfold cL at h;simp only[Yo,Yj]at h;omega
     . unfold cB at h;simp only[Yo,Yj]at h;omega
     . unfold cR at h;simp only[Yo,Yj]at h;omega
     . exact HAu.u h
     . rw[hgd]at h;cases h
    refine(HQ5.u _).mono ?_;rintro e w4 ⟨rfl,hb⟩;replace HBx:=mT HBx hb;replace HR0:=mB HR0 hb;replace HN0:=mB HN0 hb;clear hb z4a z4b z4c d0 d1 d2 d3 d4 d5 d6 d7 d8 d9 d10 fr2 fr3 hgd;obtain⟨⟨n0,n1,n2',n3',n4',n5'⟩,n6,n7,n8,n9,n10⟩:=eleven HN0.u;dsimp only;go_wp2_with (refine stR HR0.u ?_);have HBl:=h_ (HR0.u.rowS Ja.toList);obtain⟨⟨c0,c1,c2,c3,c4,c5⟩,c6,c7,c8,c9,c10⟩:=eleven HBl.u;exact bodyPost_ret (v:=.agg Ja) (by simp[results,Tryz.results12,go_sem,c0,c1,c2,c3,c4,c5,c6,c7,c8,c9,c10]) rfl ⟨_,rfl,q8i HBx.u (nR _) _,.inr ⟨HNo.u,rfl⟩⟩
  case rest =>
   obtain⟨hau,hDB,hBw,hRB,hNB⟩:=hcut;replace HD:=h_ hDB;replace HBx:=h_ hBw;replace HR0:=h_ hRB;replace HN0:=h_ hNB;have HAu:=h_ hau;have hDl:D+1<=wc.heap.size:=hDB.lt;have HBe:=h_ ((bR wc.heap.size wc).alloc (nR _) (.cells #[] 9));have HOe:Hi (OwnS (wc.alloc (.cells #[] 9)) (D+1) (.slice (some ⟨wc.heap.size,0,none⟩) 0 0) []):=h_ ⟨rfl,.inr ⟨wc.heap.size,0,#[],rfl,hDl,heap_alloc_new wc (.cells #[] 9),nR _,nZ _,rfl,rfl⟩⟩;obtain⟨X0,hX0⟩:=Nq (wc.alloc (.cells #[] 9));rw[hX0]at HBe HOe;have HXl:Hi (D+1<=X0.heap.size):=h_ (Yt hDl HBe.u.size);have HDx:=h_ (HD.u.mono HBe.u HD.u.lt);have HBx0:=h_ (HBx.u.trans (HBe.u.mono HBx.u.size));have HRx:=h_ (HR0.u.mono HBe.u HR0.u.lt);have HNx:=h_ (HN0.u.mono HBe.u HN0.u.lt);clear hau hDB hBw hRB hNB HD HBx HR0 HN0;go_wp2_with fail
   try rw[hX0]
   clear hX0;go_loopw [6,7] (fun v6 v7 wr=>∃l:List ByteArray,v6=Ya ((5+2*l.length:Nat):Int)/\5+2*l.length<=T.length/\T.drop 5=byT l++T.drop (5+2*l.length)/\(∀x,x∈l->goodN x=true)/\OwnS wr (D+1) v7 l/\Below (D+1) X0 wr) (fun v6 _ _=>T.length - (intOf v6).toNat)
   case atStart=>exact⟨[],rfl,HLn.u,rfl,fun x hx=>(by cases hx),HOe.u,bR _ _⟩
   case round =>
    obtain⟨l,rfl,hlen,hdrop,hgood,hown,hb⟩:=hrel;obtain⟨A,hA⟩:=Nq (5+2*l.length);rw[hA]at hlen hdrop⊢;have HO:=h_ hown;have HDr:=h_ hdrop;have HGo:=h_ hgood;have HBl:=h_ hb;have HAe:=h_ hA;have HBr:=h_ (HBx0.u.trans (hb.mono (show w.heap.size<=D+1 by omega)));obtain⟨B,hB⟩:=Nq (A+1);have hAB:(A:Int)+1=(B:Nat):=(by omega);have HBe':=h_ hB;obtain⟨q,hq⟩:∃q,(decide (B<T.length)&&(decide (pk T A=kBy)&&goodN (pk T B)))=q:=⟨_,rfl⟩;have HQq:=h_ hq;clear hown hdrop hgood hb hA hB hq HOe;go_upto_region 19 with fail
    go_cut [174] from 156 to 185 (fun s wx=>s=.bool q/\Below wr.heap.size wr wx)
    case first =>
     as_aux_lemma =>
      by_cases h1:B<T.length
      case neg =>
       have h1':¬ (B:Int)<T.length:=(by omega);obtain rfl:false=q:=(by rw[<- HQq.u,Yg h1];rfl);clear h1;go_wp2_with fail;go_meet;exact⟨rfl,bR _ _⟩
      have h1':(B:Int)<T.length:=(by omega);have h0':(A:Int)<T.length:=(by omega);have HQ2:=HQq;rw[Yh h1]at HQ2;obtain⟨pA,zA⟩:=HTk.u A (by have:=HBe'.u;omega);obtain⟨pB,zB⟩:=HTk.u B h1;have HzB:=h_ zB;obtain⟨zAa,zAb,zAc⟩:=zA _ HBr.u;have HWq:=h_ fun W=>qf6 (t:=pk T A) (s:=kBy) pA (by decide) W;have hgz:(pk T B).size<=9223372036854775807:=(by rw[pk_lt h1];have:=(HT.u.at h1).2;omega);have HGq:=h_ fun W=>qch (t:=pk T B) pB hgz W;have HBy:=h_ (bR wr.heap.size wr);clear zA zB h1;go_wp2_with fail;by_cases h2:pk T A=kBy
      case neg =>
       rw[Yg h2]at HWq HQ2;obtain rfl:false=q:=(by rw[<- HQ2.u];rfl);clear h2;refine(HWq.u _).mono ?_;rintro e w5 ⟨rfl,hb⟩;replace HBy:=h_ (HBy.u.trans hb);clear hb zAa zAb zAc;dsimp only;go_wp2_with fail;go_meet;exact⟨rfl,HBy.u⟩
      rw[Yh h2]at HWq HQ2;clear h2;refine(HWq.u _).mono ?_;rintro e w5 ⟨rfl,hb⟩;replace HBy:=h_ (HBy.u.trans hb);obtain⟨zBa,zBb,zBc⟩:=HzB.u _ (HBr.u.trans (HBy.u.mono HBr.u.size));clear hb zAa zAb zAc;dsimp only;go_wp2_with fail;refine(HGq.u _).mono ?_;rintro e w6 ⟨rfl,hb⟩;replace HBy:=mT HBy hb;clear hb zBa zBb zBc;dsimp only;go_wp2_with fail;go_meet;exact⟨by rw[<- HQ2.u];rfl,HBy.u⟩
    case rest =>
     obtain⟨rfl,hb⟩:=hcut;have HBc:=h_ hb;have HDl:Hi (D+1<=wr.heap.size):=h_ (Yt HXl.u HBl.u.size);clear hb;cases q
     case true =>
      as_aux_lemma =>
       have hq:=HQq.u;simp only[Yo,Yj]at hq;obtain⟨q1,q2,q3⟩:=hq;have h1':(B:Int)<T.length:=(by omega);obtain⟨pB,zB⟩:=HTk.u B q1;have HBw:=h_ (HBr.u.trans (HBc.u.mono HBr.u.size));obtain⟨zBa,zBb,zBc⟩:=zB _ HBw.u;rw[qf1 q3]at zBb;have HDn:Hi (T.drop 5=byT (l++[pk T B])++T.drop (A+2)):=h_ (by
        rw[HDr.u,qia (show A<T.length by have:=HBe'.u;omega),HBe'.u,qia q1,q2,show B+1=A+2 by have:=HBe'.u;omega];simp[byT])
       have HGn:Hi (∀x,x∈l++[pk T B]->goodN x=true):=h_ fun x hx=>(Zg.1 hx).elim (HGo.u x) (fun h=>by rw[Y7.1 h];exact q3);have HLt:Hi (A+2<=T.length):=h_ (by have:=HBe'.u;omega);have HNs:Hi (Blk _ _ 9 [.string (pk T B)]):=h_ (Blk.new wc 9 #[.string (pk T B)]);have HSs:=h_ ((bR wc.heap.size wc).alloc (nR _) (.cells #[.string (pk T B)] 9));have HOs:=h_ ((HO.u.keep HBc.u).keep HSs.u);obtain⟨C,hC⟩:=Nq (A+2);have hAC:(A:Int)+2=(C:Nat):=(by omega);have hCb:C<=1048576:=(by have:=HLt.u;omega);have HCe:=h_ hC;rw[hC]at HDn HLt;clear hC;have HBs:Hi (Below (D+1) X0 (wc.alloc (.cells #[.string (pk T B)] 9))):=h_ ((HBl.u.trans (HBc.u.mono HDl.u)).trans (HSs.u.mono (Yt HDl.u HBc.u.size)));have HL9:Hi (l.length+1<=2097152):=h_ (by have:=HAe.u;omega);clear q1 q2 q3 zB;go_wp2_with (at_builtin;refine q5v rfl _ _ rfl rfl HOs.u rfl HNs.u HL9.u (Yt HDl.u (Yt HBc.u.size HSs.u.size)) ?_);intro v9 W9 ho9 hb9;have HO9:=h_ ho9;have HB9:=h_ (HBs.u.trans hb9);clear ho9 hb9 zBa zBb zBc;go_wp2_with fail;go_roundw
       case rel =>
        refine⟨l++[pk T B],?_,?_,?_,HGn.u,HO9.u,HB9.u⟩
        . have:=HAe.u;have:=HCe.u;rw[Yf,Va,show 5+2*(l.length+1)=C by omega]
        . have:=HAe.u;have:=HCe.u;have:=HLt.u;rw[Yf,Va];omega
        . have:=HAe.u;have:=HCe.u;rw[Yf,Va,show 5+2*(l.length+1)=C by omega];exact HDn.u
       case measure=>simp[intOf];have:=HLt.u;have:=HCe.u;omega
     case false =>
      as_aux_lemma =>
       have HOs:=h_ (HO.u.keep HBc.u);have HBa:=h_ (HBl.u.trans (HBc.u.mono HDl.u));have HDc:=h_ (HDx.u.mono HBa.u (Yr _));have HRc:=h_ (HRx.u.mono HBa.u (show w.heap.size<D+1 by omega));have HNc:=h_ (HNx.u.mono HBa.u (show w.heap.size+1<D+1 by omega));have HBw:=h_ (HBx0.u.trans (HBa.u.mono (show w.heap.size<=D+1 by omega)));have HSt:Hi (∀x,StG T x ↔ ∃u,ClsG (T.drop A) u/\(l=[]∨u.is=[])/\x=⟨4,pk T 1,ot,qa,ty,l,u⟩):=h_ (by
        have h:=qeb HF.u HAu.u HDr.u HGo.u (fun b' R' e=>by
         have hq:=HQq.u;have hlen:=congrArg List.length e;simp only[Vc,Yl]at hlen;have hB:=HBe'.u;have e1:pk T A=kBy:=by have:=qia (l:=T) (i:=A) (by omega);rw[e]at this;injection this with e1 _;exact e1.symm
         have e2:pk T B=b':=by
          have h1:=qia (l:=T) (i:=A) (by omega);rw[e,hB,qia (l:=T) (i:=B) (by omega)]at h1;injection h1 with _ h1
          injection h1 with e2 _
          exact e2.symm
         rw[e1,e2,Yh (show B<T.length by omega),Yh rfl,Zs,Zs]at hq;exact hq)
        rw[HOt.u,HQa.u,HTy.u]at h;exact h)
       obtain⟨av,cv,hv,-,-⟩:=HO.u.strs;subst hv;obtain⟨⟨d0,d1,d2,d3,d4,d5⟩,d6,d7,d8,d9,d10⟩:=eleven HDc.u;have fr5:=HDc.u.free 5;have HDd:=h_ (HDc.u.set 5 (.slice av l.length cv));have HSl:=h_ (HOs.u.setB (p:=⟨D,5,none⟩) (Yr _) (.slice av l.length cv));have HBx:=h_ (HBw.u.setCell (p:=⟨D,5,none⟩) (by show w.heap.size<=D;omega) (.slice av l.length cv));have HR0:=h_ (HRc.u.other (a:=⟨D,5,none⟩) (.slice av l.length cv) (by show w.heap.size≠D;omega));have HN0:=h_ (HNc.u.other (a:=⟨D,5,none⟩) (.slice av l.length cv) (by show w.heap.size+1≠D;omega));obtain⟨X1,hX1⟩:=Nq (wc.setCell ⟨D,5,none⟩ (.slice av l.length cv));rw[hX1]at HDd HSl HBx HR0 HN0;have HDz:Hi (D+1<=X1.heap.size):=h_ HDd.u.lt;have hAl:A<=T.length:=hlen;clear HQq HDr HGo HOt HQa HOs HBa HDc HRc HNc HBw HBc HBl HO HDl HDx HRx HNx HBx0 HXl HBe HBr;go_wp2_with fail
       try rw[hX1]
       clear hX1 d0 d1 d2 d3 d4 d5 d6 d7 d8 d9 d10 fr5;clear HBe' hAB;clear HAe;go_loopw [6,8,9,10,11,12,13] (fun v6 v8 _ _ _ _ _ wr=>∃(a r:Nat) (u:Ru) (vi vh vv vm:Value),v6=Ya a/\v8=Ya r/\a<=T.length/\r<=5/\(∀u',ClsG (T.drop A) u' ↔ CmpG r u (T.drop a) u')/\Blk wr D 44 #[Ya 4,.string (pk T 1),.string ot,.bool qa,Ya (ty:Nat),.slice av l.length cv,vi,vh,vv,.string u.sa,vm].toList/\OwnS wr (D+1) (.slice av l.length cv) l/\OwnN wr (D+1) vi u.is/\OwnN wr (D+1) vh u.wh/\OwnN wr (D+1) vv u.va/\OwnN wr (D+1) vm u.mu/\Below w.heap.size w wr/\Blk wr w.heap.size 44 Ja.toList/\Blk wr (w.heap.size+1) 44 Ja.toList) (fun v6 _ _ _ _ _ _ _=>T.length - (intOf v6).toNat)
       case atStart=>exact⟨A,0,ru0,_,_,_,_,rfl,rfl,hAl,by omega,fun u'=>qfy,HDd.u,HSl.u,qdc _ _,qdc _ _,qdc _ _,qdc _ _,HBx.u,HR0.u,HN0.u⟩
       case round =>
        clear HDd HSl HBx HR0 HN0 HDz;obtain⟨a,r,u,vi,vh,vv,vm,rfl,rfl,hal,hr5,hcl,hdd,hsl,hii,hih,hiv,him,hbx,hr0,hn0⟩:=hrel;have HCl:=h_ hcl;have HDd:=h_ hdd;have HSl:=h_ hsl;have HIi:=h_ hii;have HIh:=h_ hih;have HIv:=h_ hiv;have HIm:=h_ him;have HBx:=h_ hbx;have HR0:=h_ hr0;have HN0:=h_ hn0;clear hcl hdd hsl hii hih hiv him hbx hr0 hn0;by_cases hlt:a<T.length
        case neg =>
         as_aux_lemma =>
          have hlt':¬ (a:Int)<T.length:=(by omega);have HTd:Hi (T.drop a=[]):=h_ (Yx (by omega));have HCx:Hi (∀u',ClsG (T.drop A) u' ↔ CmpG r u [] u'):=h_ (by have:=HCl.u;rw[HTd.u]at this;exact this);obtain⟨ai,ci,hvi,-⟩:=HIi.u.nods;subst hvi;by_cases h3:r=3
          case pos =>
           have h3':((r:Int)==3)=true:=(by simp;omega);have HNo:Hi (∀x,¬ StG T x):=h_ fun x hx=>by
            obtain⟨u',h1,-⟩:=(HSt.u x).1 hx;exact((HCx.u u').1 h1).done.1 h3
           clear h3;go_upto_region 52 with fail
           obtain⟨⟨n0,n1,n2',n3',n4',n5'⟩,n6,n7,n8,n9,n10⟩:=eleven HN0.u
           try dsimp only
           go_wp2_with (refine stR HR0.u ?_);have HBq:=h_ (HR0.u.rowS Ja.toList);obtain⟨⟨c0,c1,c2,c3,c4,c5⟩,c6,c7,c8,c9,c10⟩:=eleven HBq.u;exact bodyPost_ret (v:=.agg Ja) (by simp[results,Tryz.results12,go_sem,c0,c1,c2,c3,c4,c5,c6,c7,c8,c9,c10]) rfl ⟨_,rfl,q8i HBx.u (nR _) _,.inr ⟨HNo.u,rfl⟩⟩
          have h3':((r:Int)==3)=false:=(by simp;omega);have HCu:Hi (ClsG (T.drop A) u):=h_ ((HCx.u u).2 (.nil h3));have HUn:Hi (∀u',ClsG (T.drop A) u'->u'=u):=h_ fun u' h=>((HCx.u u').1 h).done.2;clear h3;obtain⟨⟨d0,d1,d2,d3,d4,d5⟩,d6,d7,d8,d9,d10⟩:=eleven HDd.u;obtain⟨ah,ch,hvh,-⟩:=HIh.u.nods;obtain⟨av',cv',hvv,-⟩:=HIv.u.nods;obtain⟨am,cm,hvm,-⟩:=HIm.u.nods;subst hvh hvv hvm;by_cases hq:l=[]∨u.is=[]
          case neg =>
           have hl0:(0:Int)<(l.length:Int):=by
            have:l≠[]:=fun e=>hq (.inl e);have:=V0.2 this;omega
           have hi0:(0:Int)<(u.is.length:Int):=by
            have:u.is≠[]:=fun e=>hq (.inr e);have:=V0.2 this;omega
           have HNo:Hi (∀x,¬ StG T x):=h_ fun x hx=>by
            obtain⟨u',h1,h2,-⟩:=(HSt.u x).1 hx;rw[HUn.u u' h1]at h2;exact hq h2
           clear hq;go_upto_region 52 with fail
           obtain⟨⟨n0,n1,n2',n3',n4',n5'⟩,n6,n7,n8,n9,n10⟩:=eleven HN0.u
           try dsimp only
           go_wp2_with (refine stR HR0.u ?_);have HBq:=h_ (HR0.u.rowS Ja.toList);obtain⟨⟨c0,c1,c2,c3,c4,c5⟩,c6,c7,c8,c9,c10⟩:=eleven HBq.u;exact bodyPost_ret (v:=.agg Ja) (by simp[results,Tryz.results12,go_sem,c0,c1,c2,c3,c4,c5,c6,c7,c8,c9,c10]) rfl ⟨_,rfl,q8i HBx.u (nR _) _,.inr ⟨HNo.u,rfl⟩⟩
          have HQ:=h_ hq;have HGo9:Hi (StG T ⟨4,pk T 1,ot,qa,ty,l,u⟩):=h_ ((HSt.u _).2 ⟨u,HCu.u,hq,rfl⟩);have HO1:=h_ (qdi (qi3 HSl.u HR0.u (by decide) (fun k hk=>setRow_other wr w.heap.size k (Jl (pk T 1) ot qa (ty:Nat) av l.length cv ai u.is.length ci ah u.wh.length ch av' u.va.length cv' u.sa am u.mu.length cm) hk)) (show w.heap.size<=D+1 by omega));have HO2:=h_ (qdi (qi3 HIi.u HR0.u (by decide) (fun k hk=>setRow_other wr w.heap.size k (Jl (pk T 1) ot qa (ty:Nat) av l.length cv ai u.is.length ci ah u.wh.length ch av' u.va.length cv' u.sa am u.mu.length cm) hk)) (show w.heap.size<=D+1 by omega));have HO3:=h_ (qdi (qi3 HIh.u HR0.u (by decide) (fun k hk=>setRow_other wr w.heap.size k (Jl (pk T 1) ot qa (ty:Nat) av l.length cv ai u.is.length ci ah u.wh.length ch av' u.va.length cv' u.sa am u.mu.length cm) hk)) (show w.heap.size<=D+1 by omega));have HO4:=h_ (qdi (qi3 HIv.u HR0.u (by decide) (fun k hk=>setRow_other wr w.heap.size k (Jl (pk T 1) ot qa (ty:Nat) av l.length cv ai u.is.length ci ah u.wh.length ch av' u.va.length cv' u.sa am u.mu.length cm) hk)) (show w.heap.size<=D+1 by omega));have HO5:=h_ (qdi (qi3 HIm.u HR0.u (by decide) (fun k hk=>setRow_other wr w.heap.size k (Jl (pk T 1) ot qa (ty:Nat) av l.length cv ai u.is.length ci ah u.wh.length ch av' u.va.length cv' u.sa am u.mu.length cm) hk)) (show w.heap.size<=D+1 by omega));by_cases hi0:u.is=[]
          case pos =>
           have hi':¬ (0:Int)<(u.is.length:Int):=(by rw[hi0];simp);clear hq hi0;go_upto_region 53 with fail
           go_wp2_with (refine stR HR0.u ?_);have HBq:=h_ (HR0.u.rowS (Jl (pk T 1) ot qa (ty:Nat) av l.length cv ai u.is.length ci ah u.wh.length ch av' u.va.length cv' u.sa am u.mu.length cm).toList);obtain⟨⟨c0,c1,c2,c3,c4,c5⟩,c6,c7,c8,c9,c10⟩:=eleven HBq.u;exact bodyPost_ret (v:=.agg (Jl (pk T 1) ot qa (ty:Nat) av l.length cv ai u.is.length ci ah u.wh.length ch av' u.va.length cv' u.sa am u.mu.length cm)) (by simp[results,Tryz.results12,go_sem,c0,c1,c2,c3,c4,c5,c6,c7,c8,c9,c10]) rfl ⟨_,rfl,q8i HBx.u (nR _) _,.inl ⟨_,HGo9.u,_,_,_,_,_,rfl,HO1.u,HO2.u,HO3.u,HO4.u,HO5.u⟩⟩
          have hl0:l=[]:=hq.resolve_right hi0;have hi':(0:Int)<(u.is.length:Int):=by
           have:=V0.2 hi0;omega
          have hl':¬ (0:Int)<(l.length:Int):=(by rw[hl0];simp);clear hq hi0 hl0;go_upto_region 53 with fail
          go_wp2_with (refine stR HR0.u ?_);have HBq:=h_ (HR0.u.rowS (Jl (pk T 1) ot qa (ty:Nat) av l.length cv ai u.is.length ci ah u.wh.length ch av' u.va.length cv' u.sa am u.mu.length cm).toList);obtain⟨⟨c0,c1,c2,c3,c4,c5⟩,c6,c7,c8,c9,c10⟩:=eleven HBq.u;exact bodyPost_ret (v:=.agg (Jl (pk T 1) ot qa (ty:Nat) av l.length cv ai u.is.length ci ah u.wh.length ch av' u.va.length cv' u.sa am u.mu.length cm)) (by simp[results,Tryz.results12,go_sem,c0,c1,c2,c3,c4,c5,c6,c7,c8,c9,c10]) rfl ⟨_,rfl,q8i HBx.u (nR _) _,.inl ⟨_,HGo9.u,_,_,_,_,_,rfl,HO1.u,HO2.u,HO3.u,HO4.u,HO5.u⟩⟩
        case pos =>
         have hlt':(a:Int)<T.length:=(by omega);obtain⟨pa,za⟩:=HTk.u a hlt;obtain⟨zaa,zab,zac⟩:=za _ HBx.u;have HRk:=h_ fun W=>qds (pk T a) pa W;unfold tV at HRk;obtain⟨k,hk⟩:=Nq (rk (pk T a));have HK:=h_ hk;have hk5:k<=5:=(by rw[<- hk];exact rk_le _);rw[hk]at HRk;clear hk za;go_upto_region 25 with fail
         go_cut [9] from 188 to 278 (fun s9 wx=>s9=Ya (k:Nat)/\Below wr.heap.size wr wx)
         case first =>
          as_aux_lemma =>
           go_wp2_with fail;refine(HRk.u _).mono ?_;rintro e w5 ⟨rfl,hb⟩;have HBy:=h_ hb;clear hb zaa zab zac;go_wp2_with fail;go_meet;exact⟨rfl,HBy.u⟩
         case rest =>
          obtain⟨rfl,hb⟩:=hcut;replace HBx:=mT HBx hb;replace HR0:=mB HR0 hb;replace HN0:=mB HN0 hb;replace HDd:=mB HDd hb;replace HSl:=h_ (HSl.u.keep hb);replace HIi:=h_ (HIi.u.keep hb);replace HIh:=h_ (HIh.u.keep hb);replace HIv:=h_ (HIv.u.keep hb);replace HIm:=h_ (HIm.u.keep hb);clear hb zaa zab zac HRk;by_cases hlow:k<=r
          case pos =>
           as_aux_lemma =>
            have hlow':(k:Int)<=(r:Int):=(by omega);have HNo:Hi (∀x,¬ StG T x):=h_ fun x hx=>by
             obtain⟨u',h1,-⟩:=(HSt.u x).1 hx;have h2:=(HCl.u u').1 h1;rw[qia hlt]at h2;have:=h2.low;rw[HK.u]at this;omega
            obtain⟨⟨n0,n1,n2',n3',n4',n5'⟩,n6,n7,n8,n9,n10⟩:=eleven HN0.u
            try dsimp only
            go_wp2_with (refine stR HR0.u ?_);have HBq:=h_ (HR0.u.rowS Ja.toList);obtain⟨⟨c0,c1,c2,c3,c4,c5⟩,c6,c7,c8,c9,c10⟩:=eleven HBq.u;exact bodyPost_ret (v:=.agg Ja) (by simp[results,Tryz.results12,go_sem,c0,c1,c2,c3,c4,c5,c6,c7,c8,c9,c10]) rfl ⟨_,rfl,q8i HBx.u (nR _) _,.inr ⟨HNo.u,rfl⟩⟩
          have hlow':¬ (k:Int)<=(r:Int):=(by omega);by_cases hord:k=4 ↔ r=3
          case neg =>
           as_aux_lemma =>
            have HNo:Hi (∀x,¬ StG T x):=h_ fun x hx=>by
             obtain⟨u',h1,-⟩:=(HSt.u x).1 hx;have h2:=(HCl.u u').1 h1;rw[qia hlt]at h2;have:=h2.ord;rw[HK.u]at this;exact hord this
            by_cases h4:k=4
            . have h3:¬ r=3:=fun h3=>hord ⟨fun _=>h3,fun _=>h4⟩
              have h4':((k:Int)==4)=true:=(by simp;omega);have h3':((r:Int) != 3)=true:=(by simp;omega);clear h3 h4 hord;obtain⟨⟨n0,n1,n2',n3',n4',n5'⟩,n6,n7,n8,n9,n10⟩:=eleven HN0.u
              try dsimp only
              go_wp2_with (refine stR HR0.u ?_);have HBq:=h_ (HR0.u.rowS Ja.toList);obtain⟨⟨c0,c1,c2,c3,c4,c5⟩,c6,c7,c8,c9,c10⟩:=eleven HBq.u;exact bodyPost_ret (v:=.agg Ja) (by simp[results,Tryz.results12,go_sem,c0,c1,c2,c3,c4,c5,c6,c7,c8,c9,c10]) rfl ⟨_,rfl,q8i HBx.u (nR _) _,.inr ⟨HNo.u,rfl⟩⟩
            . have h3:r=3:=Yv fun h3=>hord ⟨fun h=>absurd h h4,fun h=>absurd h h3⟩
              have h4':((k:Int)==4)=false:=(by simp;omega);have h4n:((k:Int) != 4)=true:=(by simp;omega);have h3':((r:Int)==3)=true:=(by simp;omega);clear h3 h4 hord;obtain⟨⟨n0,n1,n2',n3',n4',n5'⟩,n6,n7,n8,n9,n10⟩:=eleven HN0.u
              try dsimp only
              go_wp2_with (refine stR HR0.u ?_);have HBq:=h_ (HR0.u.rowS Ja.toList);obtain⟨⟨c0,c1,c2,c3,c4,c5⟩,c6,c7,c8,c9,c10⟩:=eleven HBq.u;exact bodyPost_ret (v:=.agg Ja) (by simp[results,Tryz.results12,go_sem,c0,c1,c2,c3,c4,c5,c6,c7,c8,c9,c10]) rfl ⟨_,rfl,q8i HBx.u (nR _) _,.inr ⟨HNo.u,rfl⟩⟩
          case pos =>
           obtain⟨B,hB⟩:=Nq (a+1);have hAB:(a:Int)+1=(B:Nat):=(by omega);have hBl:B<=T.length:=(by omega);have HBe':=h_ hB;have hB0:B<=1048576:=(by omega);have HOrd:=h_ hord;have hg4:((k:Int)==4)=decide (k=4):=(by rw[Zj];simp;omega);have hn4:((k:Int) != 4)=decide (k≠4):=(by rw[Zj];simp;omega);have hg3:((r:Int)==3)=decide (k=4):=(by rw[Zj];simp;omega);have hn3:((r:Int) != 3)=decide (k≠4):=(by rw[Zj];simp;omega);clear hB hord;obtain⟨k4,hk4⟩:∃k4,decide (k=4)=k4:=⟨_,rfl⟩;have hk4n:decide (k≠4) = !k4:=(by rw[<- hk4];simp);rw[hk4]at hg4 hg3;rw[hk4n]at hn4 hn3;have HK4:=h_ hk4;clear hk4 hk4n;have HBz:=h_ (bR wc.heap.size wc);go_upto_region 28 with fail
           go_cut [213] from 188 to 278 (fun s wx=>s=.bool false/\wx=wc)
           case first =>
            as_aux_lemma =>
             cases k4
             all_goals
              try dsimp only[Bool.not_true,Bool.not_false]at hn4 hn3
              go_wp2_with fail;go_meet;exact⟨rfl,rfl⟩
           case rest =>
            obtain⟨rfl,hw9⟩:=hcut;subst hw9;clear hg3 hn3 hn4;go_wp2_with fail;go_loopw [10] (fun v10 wq=>∃e:Nat,v10=Ya e/\B<=e/\e<=T.length/\(∀j,B<=j->j<e->j<T.length->rk (pk T j)=0)/\Below wc.heap.size wc wq) (fun v10 _=>T.length - (intOf v10).toNat)
            case atStart=>exact⟨B,rfl,nR _,hBl,fun j h1 h2=>absurd h1 (by omega),bR _ _⟩
            case round =>
             obtain⟨e,rfl,hBe,heT,hz,hb⟩:=hrel;have HZ:=h_ hz;replace HBx:=mT HBx hb;replace HR0:=mB HR0 hb;replace HN0:=mB HN0 hb;replace HDd:=mB HDd hb;replace HSl:=h_ (HSl.u.keep hb);replace HIi:=h_ (HIi.u.keep hb);replace HIh:=h_ (HIh.u.keep hb);replace HIv:=h_ (HIv.u.keep hb);replace HIm:=h_ (HIm.u.keep hb);have HBl:=h_ hb;clear hz hb HBz;obtain⟨q,hq⟩:∃q,(decide (e<T.length)&&decide (rk (pk T e)=0))=q:=⟨_,rfl⟩;have HQq:=h_ hq;clear hq;go_upto_region 32 with fail
             go_cut [228] from 218 to 230 (fun s wx=>s=.bool q/\Below wr.heap.size wr wx)
             case first =>
              as_aux_lemma =>
               by_cases h1:e<T.length
               case neg =>
                have h1':¬ (e:Int)<T.length:=(by omega);obtain rfl:false=q:=(by rw[<- HQq.u,Yg h1];rfl);clear h1;go_wp2_with fail;go_meet;exact⟨rfl,bR _ _⟩
               have h1':(e:Int)<T.length:=(by omega);obtain⟨pe,ze⟩:=HTk.u e h1;obtain⟨zea,zeb,zec⟩:=ze _ HBx.u;have HRk:=h_ fun W=>qds (pk T e) pe W;unfold tV at HRk;obtain⟨k',hk'⟩:=Nq (rk (pk T e));rw[hk']at HRk;have hq0:((k':Int)==0)=q:=by
                have:=HQq.u;rw[Yh h1,hk',Zs]at this;rw[<- this,Zj]
                first | (simp;done) | (simp;omega)
               clear h1 ze hk';go_wp2_with fail;refine(HRk.u _).mono ?_;rintro e5 w5 ⟨rfl,hb⟩;have HBy:=h_ hb;clear hb zea zeb zec HRk
               try dsimp only
               go_wp2_with fail;go_meet;exact⟨rfl,HBy.u⟩
             case rest =>
              obtain⟨rfl,hb⟩:=hcut;replace HBx:=mT HBx hb;replace HR0:=mB HR0 hb;replace HN0:=mB HN0 hb;replace HDd:=mB HDd hb;replace HSl:=h_ (HSl.u.keep hb);replace HIi:=h_ (HIi.u.keep hb);replace HIh:=h_ (HIh.u.keep hb);replace HIv:=h_ (HIv.u.keep hb);replace HIm:=h_ (HIm.u.keep hb);replace HBl:=mT HBl hb;clear hb;cases q
              case true =>
               as_aux_lemma =>
                have hq:=HQq.u;simp only[Yo,Yj]at hq;obtain⟨q1,q2⟩:=hq;obtain⟨C,hC⟩:=Nq (e+1);have hAC:(e:Int)+1=(C:Nat):=(by omega);have hCb:C<=1048576:=(by omega);have HCe:=h_ hC;have HCl2:Hi (C<=T.length):=h_ (by omega);have HZ2:Hi (∀j,B<=j->j<C->j<T.length->rk (pk T j)=0):=h_ fun j h1 h2 h3=>by
                 by_cases hj:j=e
                 . rw[hj];exact q2
                 . exact HZ.u j h1 (by omega) h3
                clear hC q1 q2;go_wp2_with fail;go_roundw
                case rel=>exact⟨C,rfl,by have:=HCe.u;omega,HCl2.u,HZ2.u,HBl.u⟩
                case measure=>simp[intOf];have:=HCl2.u;have:=HCe.u;omega
              case false =>
               have HHd:Hi (Hdr (T.drop e)):=h_ (hdr_at fun h1 h2=>by
                have:=HQq.u;rw[Yh h1,Yh h2]at this;cases this)
               obtain⟨E,hE⟩:=Nq ((T.take e).drop B);have HEz:Hi (∀x,x∈E->rk x=0):=h_ (by rw[<- hE];exact qg2 HZ.u);have HTd:Hi (T.drop a=pk T a :: (E++T.drop e)):=h_ (by rw[<- hE];exact cut_at hlt HBe'.u hBe);have hEl:E.length=e - B:=(by rw[<- hE,qg1 heT]);have HPT:Hi (TkOk E):=h_ (by rw[<- hE];exact HT.u.cut B e);have HPV:Hi (∀W,Below w.heap.size w W->Tks W (cutA (some ⟨b,o,none⟩) B c 3) E):=h_ fun W hW=>by rw[<- hE];exact(HAw.u.mono hW).cut heT hc
               have hsl:=cut_lh (some ⟨b,o,none⟩) T.length c B e hBe (by omega);rw[<- hEl]at hsl;have HEe:=h_ hE;have HEl:=h_ hEl;clear hE hEl HQq HZ;by_cases h4:k=4
               case pos =>
                as_aux_lemma =>
                 obtain rfl:true=k4:=(by rw[<- HK4.u,Yh h4]);have hr3:r=3:=HOrd.u.1 h4;have HRl:Hi (∀u',ClsG (T.drop A) u' ↔ ∃x s,E=[x]/\StrT x s/\CmpG 4 { u with sa:=s } (T.drop e) u'):=h_ fun u'=>by
                  rw[HCl.u u',HTd.u,hr3];exact qbp (by rw[HK.u];exact h4) HEz.u HHd.u
                 subst h4;clear hr3;by_cases h1:E.length=1
                 case neg =>
                  have h1':((E.length:Int) != 1)=true:=(by simp;omega);have HNo:Hi (∀x,¬ StG T x):=h_ fun x hx=>by
                   obtain⟨u',h2,-⟩:=(HSt.u x).1 hx;obtain⟨y,s,hE,-⟩:=(HRl.u u').1 h2;exact h1 (by rw[hE];rfl)
                  clear h1;go_upto_region 37 with fail
                  obtain⟨⟨n0,n1,n2',n3',n4',n5'⟩,n6,n7,n8,n9,n10⟩:=eleven HN0.u
                  try dsimp only
                  go_wp2_with (refine stR HR0.u ?_);have HBq:=h_ (HR0.u.rowS Ja.toList);obtain⟨⟨c0,c1,c2,c3,c4,c5⟩,c6,c7,c8,c9,c10⟩:=eleven HBq.u;exact bodyPost_ret (v:=.agg Ja) (by simp[results,Tryz.results12,go_sem,c0,c1,c2,c3,c4,c5,c6,c7,c8,c9,c10]) rfl ⟨_,rfl,q8i HBx.u (nR _) _,.inr ⟨HNo.u,rfl⟩⟩
                 have h1':((E.length:Int) != 1)=false:=(by simp;omega);have hBT:B<T.length:=(by have:=HEl.u;omega);have HEx:Hi (E=[pk T B]):=h_ (by
                  obtain⟨y,hy⟩:=List.length_eq_one_iff.1 h1;have h2:=HEe.u;have h3:((T.take e).drop B)[0]? = some (pk T B):=(by rw[List.getElem?_drop,Vi (by have:=HEl.u;omega),pk_lt hBT];simp[hBT]);rw[h2,hy]at h3;simp only[Yp,Zr]at h3;rw[hy,h3])
                 have HVt:Hi (VT (pk T B)):=h_ (by rw[pk_lt hBT];exact(HT.u.at hBT).1);obtain⟨pB,zB⟩:=HTk.u B hBT;obtain⟨zBa,zBb,zBc⟩:=zB _ HBx.u;have hcA:cutA (some ⟨b,o,none⟩) B c 3=some ⟨b,o+B*3,none⟩:=by
                  unfold cutA;rw[Yi (by omega)];simp[Addr.add];have:=HBe'.u;omega
                 rw[hcA]at hsl;have hE1:(0:Int)<(E.length:Int):=(by omega);clear h1 hcA zB HPV;by_cases h3:cls (pk T B)=3
                 case neg =>
                  have h3':((cls (pk T B):Int) != 3)=true:=(by simp;omega);have HNo:Hi (∀x,¬ StG T x):=h_ fun x hx=>by
                   obtain⟨u',h2,-⟩:=(HSt.u x).1 hx;obtain⟨y,s,hE,hs,-⟩:=(HRl.u u').1 h2;rw[HEx.u]at hE;injection hE with hE _
                   rw[<- hE]at hs;exact h3 (qj5 hs).1
                  clear h3;go_upto_region 37 with fail
                  obtain⟨⟨n0,n1,n2',n3',n4',n5'⟩,n6,n7,n8,n9,n10⟩:=eleven HN0.u
                  try dsimp only
                  go_wp2_with (refine stR HR0.u ?_);have HBq:=h_ (HR0.u.rowS Ja.toList);obtain⟨⟨c0,c1,c2,c3,c4,c5⟩,c6,c7,c8,c9,c10⟩:=eleven HBq.u;exact bodyPost_ret (v:=.agg Ja) (by simp[results,Tryz.results12,go_sem,c0,c1,c2,c3,c4,c5,c6,c7,c8,c9,c10]) rfl ⟨_,rfl,q8i HBx.u (nR _) _,.inr ⟨HNo.u,rfl⟩⟩
                 have h3':((cls (pk T B):Int) != 3)=false:=(by simp;omega);have HS9:Hi (StrT (pk T B) (txt (pk T B))):=h_ (qfz HVt.u h3);have HCn:Hi (∀u',ClsG (T.drop A) u' ↔ CmpG 4 { u with sa:=txt (pk T B) } (T.drop e) u'):=h_ fun u'=>(HRl.u u').trans ⟨fun⟨y,s,e1,h1,h2⟩=>by
                  rw[HEx.u]at e1;injection e1 with e1 _
                  rw[<- e1]at h1;rw[(qj5 h1).2]at h2;exact h2,fun h=>⟨_,_,HEx.u,HS9.u,h⟩⟩
                 obtain⟨sx,hsx⟩:=Nq (txt (pk T B));rw[hsx]at HCn zBb;clear h3 hsx HS9;obtain⟨⟨d0,d1,d2,d3,d4,d5⟩,d6,d7,d8,d9,d10⟩:=eleven HDd.u;have fr:=HDd.u.free 9;have HD9:=h_ (HDd.u.set 9 (.string sx));have HB9:=h_ (HBx.u.setCell (p:=⟨D,9,none⟩) (by show w.heap.size<=D;omega) (.string sx));have HR9:=h_ (HR0.u.other (a:=⟨D,9,none⟩) (.string sx) (by show w.heap.size≠D;omega));have HN9:=h_ (HN0.u.other (a:=⟨D,9,none⟩) (.string sx) (by show w.heap.size+1≠D;omega));have HSl9:=h_ (HSl.u.setB (p:=⟨D,9,none⟩) (Yr _) (.string sx));have HIi9:=h_ (HIi.u.setB (p:=⟨D,9,none⟩) (Yr _) (.string sx));have HIh9:=h_ (HIh.u.setB (p:=⟨D,9,none⟩) (Yr _) (.string sx));have HIv9:=h_ (HIv.u.setB (p:=⟨D,9,none⟩) (Yr _) (.string sx));have HIm9:=h_ (HIm.u.setB (p:=⟨D,9,none⟩) (Yr _) (.string sx));go_wp2_with fail;go_roundw
                 case rel=>exact⟨e,4,{ u with sa:=sx },_,_,_,_,rfl,rfl,heT,by omega,HCn.u,HD9.u,HSl9.u,HIi9.u,HIh9.u,HIv9.u,HIm9.u,HB9.u,HR9.u,HN9.u⟩
                 case measure=>simp[intOf];have:=HBe'.u;omega
               case neg =>
                as_aux_lemma =>
                 obtain rfl:false=k4:=(by rw[<- HK4.u,Yg h4]);have hr3:r≠3:=fun h=>h4 (HOrd.u.2 h);have HRl:Hi (∀u',ClsG (T.drop A) u' ↔ ∃en,ExG E en/\CmpG k (u.put k en) (T.drop e) u'):=h_ fun u'=>by
                  rw[HCl.u u',HTd.u];have:=qbo (u:=u) (u':=u') (t:=pk T a) (E:=E) (R:=T.drop e) hr3 (by rw[HK.u];omega) (by rw[HK.u];exact h4) HEz.u HHd.u
                  rwa [HK.u]at this
                 have hE9:E.length<=c - B:=(by rw[HEl.u];omega);have hE8:E.length<=1048576:=(by rw[HEl.u];omega);go_wp2_with fail;refine(q3b E _ (c - B) _ hE9 hE8 HPT.u (HPV.u _ HBx.u)).mono ?_;rintro r1 w1 ⟨va,bq,rfl,hb,hy,hno⟩;have HDd0:=HDd;replace HBx:=mT HBx hb;replace HR0:=mB HR0 hb;replace HN0:=mB HN0 hb;replace HDd:=mB HDd hb;replace HSl:=h_ (HSl.u.keep hb);replace HIi:=h_ (HIi.u.keep hb);replace HIh:=h_ (HIh.u.keep hb);replace HIv:=h_ (HIv.u.keep hb);replace HIm:=h_ (HIm.u.keep hb);have HLw:=h_ (HBl.u.size);have hDw:D+1<=wc.heap.size:=HDd0.u.lt;cases bq
                 case false =>
                  have HNo:Hi (∀x,¬ StG T x):=h_ fun x hx=>by
                   obtain⟨u',h1,-⟩:=(HSt.u x).1 hx;obtain⟨en,h2,-⟩:=(HRl.u u').1 h1;exact hno rfl en h2
                  clear hy hno hb;obtain⟨⟨n0,n1,n2',n3',n4',n5'⟩,n6,n7,n8,n9,n10⟩:=eleven HN0.u
                  try dsimp only
                  go_wp2_with (refine stR HR0.u ?_);have HBq:=h_ (HR0.u.rowS Ja.toList);obtain⟨⟨c0,c1,c2,c3,c4,c5⟩,c6,c7,c8,c9,c10⟩:=eleven HBq.u;exact bodyPost_ret (v:=.agg Ja) (by simp[results,Tryz.results12,go_sem,c0,c1,c2,c3,c4,c5,c6,c7,c8,c9,c10]) rfl ⟨_,rfl,q8i HBx.u (nR _) _,.inr ⟨HNo.u,rfl⟩⟩
                 obtain⟨en,hg,ho⟩:=hy rfl;have hg':ExG E en:=hg;have HOn:=h_ (OwnN.low ho hDw);have HCn:Hi (∀u',ClsG (T.drop A) u' ↔ CmpG k (u.put k en) (T.drop e) u'):=h_ fun u'=>(HRl.u u').trans ⟨fun⟨e',h1,h2⟩=>by rw[ExG.uniq h1 hg']at h2;exact h2,fun h=>⟨en,hg',h⟩⟩;obtain⟨an,cn,rfl,-⟩:=ho.nods;clear hy hno hb hg hg' ho;obtain⟨⟨d0,d1,d2,d3,d4,d5⟩,d6,d7,d8,d9,d10⟩:=eleven HDd.u;have hkk:k=1∨k=2∨k=3∨k=5:=(by omega);rcases hkk with hkk | hkk | hkk | hkk
                 . subst hkk
                   have fr:=HDd.u.free 6;have HD9:=h_ (HDd.u.set 6 (.slice an en.length cn));have HB9:=h_ (HBx.u.setCell (p:=⟨D,6,none⟩) (by show w.heap.size<=D;omega) (.slice an en.length cn));have HR9:=h_ (HR0.u.other (a:=⟨D,6,none⟩) (.slice an en.length cn) (by show w.heap.size≠D;omega));have HN9:=h_ (HN0.u.other (a:=⟨D,6,none⟩) (.slice an en.length cn) (by show w.heap.size+1≠D;omega));have HSl9:=h_ (HSl.u.setB (p:=⟨D,6,none⟩) (Yr _) (.slice an en.length cn));have HIi9:=h_ (HIi.u.setB (p:=⟨D,6,none⟩) (Yr _) (.slice an en.length cn));have HIh9:=h_ (HIh.u.setB (p:=⟨D,6,none⟩) (Yr _) (.slice an en.length cn));have HIv9:=h_ (HIv.u.setB (p:=⟨D,6,none⟩) (Yr _) (.slice an en.length cn));have HIm9:=h_ (HIm.u.setB (p:=⟨D,6,none⟩) (Yr _) (.slice an en.length cn));have HOn9:=h_ (HOn.u.setB (p:=⟨D,6,none⟩) (Yr _) (.slice an en.length cn));clear d0 d1 d2 d3 d4 d5 d6 d7 d8 d9 d10;obtain⟨⟨d0,d1,d2,d3,d4,d5⟩,d6,d7,d8,d9,d10⟩:=eleven HDd.u;go_wp2_with fail;go_roundw
                   case rel=>exact⟨e,1,u.put 1 en,_,_,_,_,rfl,rfl,heT,by omega,HCn.u,HD9.u,HSl9.u,HOn9.u,HIh9.u,HIv9.u,HIm9.u,HB9.u,HR9.u,HN9.u⟩
                   case measure=>simp[intOf];have:=HBe'.u;omega
                 . subst hkk
                   have fr:=HDd.u.free 7;have HD9:=h_ (HDd.u.set 7 (.slice an en.length cn));have HB9:=h_ (HBx.u.setCell (p:=⟨D,7,none⟩) (by show w.heap.size<=D;omega) (.slice an en.length cn));have HR9:=h_ (HR0.u.other (a:=⟨D,7,none⟩) (.slice an en.length cn) (by show w.heap.size≠D;omega));have HN9:=h_ (HN0.u.other (a:=⟨D,7,none⟩) (.slice an en.length cn) (by show w.heap.size+1≠D;omega));have HSl9:=h_ (HSl.u.setB (p:=⟨D,7,none⟩) (Yr _) (.slice an en.length cn));have HIi9:=h_ (HIi.u.setB (p:=⟨D,7,none⟩) (Yr _) (.slice an en.length cn));have HIh9:=h_ (HIh.u.setB (p:=⟨D,7,none⟩) (Yr _) (.slice an en.length cn));have HIv9:=h_ (HIv.u.setB (p:=⟨D,7,none⟩) (Yr _) (.slice an en.length cn));have HIm9:=h_ (HIm.u.setB (p:=⟨D,7,none⟩) (Yr _) (.slice an en.length cn));have HOn9:=h_ (HOn.u.setB (p:=⟨D,7,none⟩) (Yr _) (.slice an en.length cn));clear d0 d1 d2 d3 d4 d5 d6 d7 d8 d9 d10;obtain⟨⟨d0,d1,d2,d3,d4,d5⟩,d6,d7,d8,d9,d10⟩:=eleven HDd.u;go_wp2_with fail;go_roundw
                   case rel=>exact⟨e,2,u.put 2 en,_,_,_,_,rfl,rfl,heT,by omega,HCn.u,HD9.u,HSl9.u,HIi9.u,HOn9.u,HIv9.u,HIm9.u,HB9.u,HR9.u,HN9.u⟩
                   case measure=>simp[intOf];have:=HBe'.u;omega
                 . subst hkk
                   have fr:=HDd.u.free 8;have HD9:=h_ (HDd.u.set 8 (.slice an en.length cn));have HB9:=h_ (HBx.u.setCell (p:=⟨D,8,none⟩) (by show w.heap.size<=D;omega) (.slice an en.length cn));have HR9:=h_ (HR0.u.other (a:=⟨D,8,none⟩) (.slice an en.length cn) (by show w.heap.size≠D;omega));have HN9:=h_ (HN0.u.other (a:=⟨D,8,none⟩) (.slice an en.length cn) (by show w.heap.size+1≠D;omega));have HSl9:=h_ (HSl.u.setB (p:=⟨D,8,none⟩) (Yr _) (.slice an en.length cn));have HIi9:=h_ (HIi.u.setB (p:=⟨D,8,none⟩) (Yr _) (.slice an en.length cn));have HIh9:=h_ (HIh.u.setB (p:=⟨D,8,none⟩) (Yr _) (.slice an en.length cn));have HIv9:=h_ (HIv.u.setB (p:=⟨D,8,none⟩) (Yr _) (.slice an en.length cn));have HIm9:=h_ (HIm.u.setB (p:=⟨D,8,none⟩) (Yr _) (.slice an en.length cn));have HOn9:=h_ (HOn.u.setB (p:=⟨D,8,none⟩) (Yr _) (.slice an en.length cn));clear d0 d1 d2 d3 d4 d5 d6 d7 d8 d9 d10;obtain⟨⟨d0,d1,d2,d3,d4,d5⟩,d6,d7,d8,d9,d10⟩:=eleven HDd.u;go_wp2_with fail;go_roundw
                   case rel=>exact⟨e,3,u.put 3 en,_,_,_,_,rfl,rfl,heT,by omega,HCn.u,HD9.u,HSl9.u,HIi9.u,HIh9.u,HOn9.u,HIm9.u,HB9.u,HR9.u,HN9.u⟩
                   case measure=>simp[intOf];have:=HBe'.u;omega
                 . subst hkk
                   have fr:=HDd.u.free 10;have HD9:=h_ (HDd.u.set 10 (.slice an en.length cn));have HB9:=h_ (HBx.u.setCell (p:=⟨D,10,none⟩) (by show w.heap.size<=D;omega) (.slice an en.length cn));have HR9:=h_ (HR0.u.other (a:=⟨D,10,none⟩) (.slice an en.length cn) (by show w.heap.size≠D;omega));have HN9:=h_ (HN0.u.other (a:=⟨D,10,none⟩) (.slice an en.length cn) (by show w.heap.size+1≠D;omega));have HSl9:=h_ (HSl.u.setB (p:=⟨D,10,none⟩) (Yr _) (.slice an en.length cn));have HIi9:=h_ (HIi.u.setB (p:=⟨D,10,none⟩) (Yr _) (.slice an en.length cn));have HIh9:=h_ (HIh.u.setB (p:=⟨D,10,none⟩) (Yr _) (.slice an en.length cn));have HIv9:=h_ (HIv.u.setB (p:=⟨D,10,none⟩) (Yr _) (.slice an en.length cn));have HIm9:=h_ (HIm.u.setB (p:=⟨D,10,none⟩) (Yr _) (.slice an en.length cn));have HOn9:=h_ (HOn.u.setB (p:=⟨D,10,none⟩) (Yr _) (.slice an en.length cn));clear d0 d1 d2 d3 d4 d5 d6 d7 d8 d9 d10;obtain⟨⟨d0,d1,d2,d3,d4,d5⟩,d6,d7,d8,d9,d10⟩:=eleven HDd.u;go_wp2_with fail;go_roundw
                   case rel=>exact⟨e,5,u.put 5 en,_,_,_,_,rfl,rfl,heT,by omega,HCn.u,HD9.u,HSl9.u,HIi9.u,HIh9.u,HIv9.u,HOn9.u,HB9.u,HR9.u,HN9.u⟩
                   case measure=>simp[intOf];have:=HBe'.u;omega
end Go.Proofs.YtfmammdgehbjhaaGreatDoor
