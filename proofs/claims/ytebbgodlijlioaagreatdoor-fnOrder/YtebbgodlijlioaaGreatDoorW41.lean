import Derived.Test.YtebbgodlijlioaaGreatDoorW31
import Derived.Test.YtebbgodlijlioaaGreatDoorW39
set_option maxRecDepth 100000
set_option maxHeartbeats 64000000
namespace Go.Proofs.YtebbgodlijlioaaGreatDoor
open Go Go.RowKit
theorem q4g (m:Fm)(A:MA)(w:World)(hf:FitM m)(hcap:Caps m A)(ha:MSl w m A)(ht:Tabs w)(hy:TyW w) :
 Calls Tryz.prog 20 #[mV m A] w fun r w'=>((vfB m=false/\r=.returned (.tuple #[.agg Ju,.bool false]))∨(vfB m=true/\∃b,r=.returned (.tuple #[wV m A b,.bool true])/\PMap w' b (fNames m)))/\Below w.heap.size w w':=by
 have HVa:Hi (vfB m=true->VfA m):=h_ fun h=>Classical.byContradiction fun hn=>by rw[qd4 hn]at h;cases h
 have HCv:=h_ fun W (hs:MSl W m A) (ht:Tabs W) (hy:TyW W)=>q0c m A W hf hcap hs ht hy
 have HCn:=h_ fun W (hl:m.F.length<=200) (hs:MSl W m A)=>q1c m A W hl hs.f
 have HNs:Hi (∀x,x∈fNames m->x.size<=9223372036854775807):=h_ fun x hx=>by
  obtain⟨f,hff,rfl⟩:=Zc.1 hx;exact(hf.f f hff).nm
 obtain⟨al,alc,ap,apc,ar,arc,af,afc,afa⟩:=A
 unfold mV at HCv HCn⊢
 unfold wV
 dsimp only at HCv HCn⊢
 have HK:=h_ ((Blk.new w 28 (Jb al m alc ap apc ar arc af afc)).alloc (.cells Ju 56))
 have HR:=h_ (Blk.new (w.alloc (.cells (Jb al m alc ap apc ar arc af afc) 28)) 56 Ju)
 rw[Yx]at HR
 have HB:=h_ (((bR w.heap.size w).alloc (nR _) (.cells (Jb al m alc ap apc ar arc af afc) 28)).alloc (by simp) (.cells Ju 56))
 obtain⟨W0,hW0⟩:=Nq ((w.alloc (.cells (Jb al m alc ap apc ar arc af afc) 28)).alloc (.cells Ju 56))
 rw[hW0]at HK HR HB
 have HS:=h_ (ha.mono HB.u);have HT:=h_ (ht.mono HB.u);have HY:=h_ (hy.mono HB.u)
 clear ha ht hy hf hcap
 obtain⟨y0,y1,y2,y3⟩:=quad HK.u
 go_enter Tryz.func20,Tryz.ntmps20
 go_wp2_with fail
 try rw[hW0]
 refine(HCv.u W0 HS.u HT.u HY.u).mono ?_
 rintro r W1 ⟨rfl,hb1⟩
 replace HK:=mB HK hb1;replace HR:=mB HR hb1;replace HS:=h_ (HS.u.mono hb1);replace HB:=mT HB hb1
 clear hb1 hW0 y0 y1 y2 y3 HCv HT HY
 obtain⟨r0,r1,r2,r3,r4⟩:=five HR.u
 have f0:=HR.u.free 0;have f1:=HR.u.free 1;have f2:=HR.u.free 2;have f3:=HR.u.free 3;have f4:=HR.u.free 4
 cases hq:vfB m
 . have HQ:=h_ hq
   clear hq;go_wp2_with fail;have HR9:=h_ (((((HR.u.set 0 Ya).set 1 Ya).set 2 Ya).set 3 Ya).set 4 (.map none));simp only[Yd,Ye]at HR9;have HB9:=h_ (((((HB.u.setCell (p:=⟨w.heap.size+1,0,none⟩) (by simp) Ya).setCell (p:=⟨w.heap.size+1,1,none⟩) (by simp) Ya).setCell (p:=⟨w.heap.size+1,2,none⟩) (by simp) Ya).setCell (p:=⟨w.heap.size+1,3,none⟩) (by simp) Ya).setCell (p:=⟨w.heap.size+1,4,none⟩) (by simp) (.map none));obtain⟨k0,k1,k2,k3,k4⟩:=five HR9.u;exact bodyPost_ret (v:=.tuple #[.agg Ju,.bool false]) (by simp[results,Tryz.results20,go_sem, *]) rfl ⟨.inl ⟨HQ.u,rfl⟩,HB9.u⟩
 . have HQ:=h_ hq;have HV:=h_ (HVa.u hq)
   clear hq r0 r1 r2 r3 r4 f0 f1 f2 f3 f4;have hnf:=HV.u.nf;go_wp2_with fail;refine wp_region_held_drew (S:=fun w'=>Blk w' w.heap.size 28 (Jj al m alc ap apc ar arc af afc)) (by kernel_rfl) HK.u (fun zz=>?_);refine tj 0 8 (.agg (Jb al m alc ap apc ar arc af afc)) zz ?_ (hy:=fun w hS=>by obtain⟨q0,q1,q2,q3⟩:=quad hS;simp[execOp,go_sem,q0,q1,q2,q3]);refine tj 1 9 (.agg (Jb al m alc ap apc ar arc af afc)) zz ?_ (hy:=fun w hS=>by obtain⟨q0,q1,q2,q3⟩:=quad hS;simp[execOp,go_sem,q0,q1,q2,q3]);simp only[sX,sY,sZ];have HD:Hi (Below W1.heap.size W1 W1.drew):=h_ (bR _ _).drew;refine callY (i:=2) (f:=46) (args:=#[.agg (Jb al m alc ap apc ar arc af afc)]) (R:=fun v wz=>∃a0 c0,v=.slice a0 (fNames m).length c0/\Strs wz a0 (fNames m)/\Below W1.heap.size W1 wz) 10 rfl rfl (by rfl) (by kernel_rfl) ?hrun2 ((HCn.u W1.drew hnf (HS.u.mono HD.u)).mono fun e w6 ⟨a0,c0,he,hs,hb⟩=>⟨_,he,a0,c0,by rw[q79],hs,q25 hb⟩) ?_
   case hrun2=>simp[execOp,go_sem]
   rintro v W2 ⟨a0,c0,rfl,hs,hb⟩;replace HK:=mB HK hb;replace HR:=mB HR hb;replace HB:=mT HB hb;have HC3:=h_ (q46 a0 c0 (fNames m) W2 (by rw[q79];omega) HNs.u hs);clear hs hb zz;have zz:=HK.u;refine⟨zz,?_⟩;simp only[sX,sY,sZ];refine callY (i:=3) (f:=45) (args:=#[.slice a0 (fNames m).length c0]) (R:=fun v wz=>v=.map (some W2.heap.size)/\PMap wz W2.heap.size (fNames m)/\Below W2.heap.size W2 wz) 11 rfl rfl (by rfl) (by kernel_rfl) ?hrun3 (HC3.u.mono fun e w6 ⟨he,hm,hb⟩=>⟨_,he,rfl,hm,hb⟩) ?_
   case hrun3=>simp[execOp,go_sem]
   rintro v W3 ⟨rfl,hm,hb⟩;have HM:=h_ hm;replace HK:=mB HK hb;have HRl:Hi (w.heap.size+1<W2.heap.size):=h_ HR.u.lt;replace HR:=mB HR hb;replace HB:=mT HB hb;clear hm hb zz HC3;have zz:=HK.u;refine⟨zz,?_⟩;simp only[sX,sY,sZ];obtain⟨b,hbq⟩:=Nq W2.heap.size;rw[hbq]at HM HRl⊢;clear hbq;refine tj 4 12 (.agg #[.slice al m.L.length alc,.slice ap m.P.length apc,.slice ar m.R.length arc,.slice af m.F.length afc,.map (some b)]) zz ?_;simp only[sX,sY,sZ];obtain⟨r0,r1,r2,r3,r4⟩:=five HR.u;have f0:=HR.u.free 0;have f1:=HR.u.free 1;have f2:=HR.u.free 2;have f3:=HR.u.free 3;have f4:=HR.u.free 4;refine storeY (i:=5) (w':=((((W3.setCell ⟨w.heap.size+1,0,none⟩ (.slice al m.L.length alc)).setCell ⟨w.heap.size+1,1,none⟩ (.slice ap m.P.length apc)).setCell ⟨w.heap.size+1,2,none⟩ (.slice ar m.R.length arc)).setCell ⟨w.heap.size+1,3,none⟩ (.slice af m.F.length afc)).setCell ⟨w.heap.size+1,4,none⟩ (.map (some b))) rfl (by rfl) (by kernel_rfl) rfl ?hrunS rfl (((((zz.other (a:=⟨w.heap.size+1,0,none⟩) (.slice al m.L.length alc) (by simp)).other (a:=⟨w.heap.size+1,1,none⟩) (.slice ap m.P.length apc) (by simp)).other (a:=⟨w.heap.size+1,2,none⟩) (.slice ar m.R.length arc) (by simp)).other (a:=⟨w.heap.size+1,3,none⟩) (.slice af m.F.length afc) (by simp)).other (a:=⟨w.heap.size+1,4,none⟩) (.map (some b)) (by simp)) ?_
   case hrunS=>simp[execOp,go_sem,r0,r1,r2,r3,r4,f0,f1,f2,f3,f4]
   replace zz:=(((((zz.other (a:=⟨w.heap.size+1,0,none⟩) (.slice al m.L.length alc) (by simp)).other (a:=⟨w.heap.size+1,1,none⟩) (.slice ap m.P.length apc) (by simp)).other (a:=⟨w.heap.size+1,2,none⟩) (.slice ar m.R.length arc) (by simp)).other (a:=⟨w.heap.size+1,3,none⟩) (.slice af m.F.length afc) (by simp)).other (a:=⟨w.heap.size+1,4,none⟩) (.map (some b)) (by simp));refine tj 6 3 (.bool true) zz ?_;simp only[sX,sY,sZ];refine wpAnyH_done (by kernel_rfl) ?_ _;have HR9:=h_ (((((HR.u.set 0 (.slice al m.L.length alc)).set 1 (.slice ap m.P.length apc)).set 2 (.slice ar m.R.length arc)).set 3 (.slice af m.F.length afc)).set 4 (.map (some b)));simp only[Yd,Ye]at HR9;have HB9:=h_ (((((HB.u.setCell (p:=⟨w.heap.size+1,0,none⟩) (by simp) (.slice al m.L.length alc)).setCell (p:=⟨w.heap.size+1,1,none⟩) (by simp) (.slice ap m.P.length apc)).setCell (p:=⟨w.heap.size+1,2,none⟩) (by simp) (.slice ar m.R.length arc)).setCell (p:=⟨w.heap.size+1,3,none⟩) (by simp) (.slice af m.F.length afc)).setCell (p:=⟨w.heap.size+1,4,none⟩) (by simp) (.map (some b)));have HM9:Hi (PMap (((((W3.setCell ⟨w.heap.size+1,0,none⟩ (.slice al m.L.length alc)).setCell ⟨w.heap.size+1,1,none⟩ (.slice ap m.P.length apc)).setCell ⟨w.heap.size+1,2,none⟩ (.slice ar m.R.length arc)).setCell ⟨w.heap.size+1,3,none⟩ (.slice af m.F.length afc)).setCell ⟨w.heap.size+1,4,none⟩ (.map (some b))) b (fNames m)):=h_ (by
    obtain⟨es,clock,h1,F,hs,hD⟩:=HM.u;have hne:b≠w.heap.size+1:=(by have:=HRl.u;omega);exact⟨es,clock,((((heap_setCell_other _ _ b _ hne).trans (heap_setCell_other _ _ b _ hne)).trans (heap_setCell_other _ _ b _ hne)).trans (heap_setCell_other _ _ b _ hne)).trans ((heap_setCell_other _ _ b _ hne).trans h1),F,hs,hD⟩)
   obtain⟨W9,hW9⟩:=Nq (((((W3.setCell ⟨w.heap.size+1,0,none⟩ (.slice al m.L.length alc)).setCell ⟨w.heap.size+1,1,none⟩ (.slice ap m.P.length apc)).setCell ⟨w.heap.size+1,2,none⟩ (.slice ar m.R.length arc)).setCell ⟨w.heap.size+1,3,none⟩ (.slice af m.F.length afc)).setCell ⟨w.heap.size+1,4,none⟩ (.map (some b)));rw[hW9]at HR9 HB9 HM9⊢;clear hW9 r0 r1 r2 r3 r4 f0 f1 f2 f3 f4 zz;obtain⟨k0,k1,k2,k3,k4⟩:=five HR9.u;go_wp2_with fail;exact bodyPost_ret (v:=.tuple #[.agg #[.slice al m.L.length alc,.slice ap m.P.length apc,.slice ar m.R.length arc,.slice af m.F.length afc,.map (some b)],.bool true]) (by simp[results,Tryz.results20,go_sem, *]) rfl ⟨.inr ⟨HQ.u,b,rfl,HM9.u⟩,HB9.u⟩
end Go.Proofs.YtebbgodlijlioaaGreatDoor
