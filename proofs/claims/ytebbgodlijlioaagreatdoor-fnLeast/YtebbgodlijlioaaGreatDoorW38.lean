import Derived.Test.YtebbgodlijlioaaGreatDoorW33
import Derived.Test.YtebbgodlijlioaaGreatDoorW34
set_option maxRecDepth 100000
set_option maxHeartbeats 64000000
namespace Go.Proofs.YtebbgodlijlioaaGreatDoor
open Go Go.RowKit
theorem q4e (m:Fm)(A:MA)(w:World)(hf:FitM m)(hcap:Caps m A)(ha:MSl w m A)(ht:Tabs w)(hy:TyW w) :
 Calls Tryz.prog 20 #[mV m A] w fun r w'=>((vfB m=false/\r=.returned (.tuple #[.agg J1,.bool false]))∨(vfB m=true/\∃b,r=.returned (.tuple #[wV m A b,.bool true])/\PMap w' b (fNames m)))/\Below w.heap.size w w':=by
 have HVa:Hi (vfB m=true->VfA m):=h_ fun h=>Classical.byContradiction fun hn=>by rw[qbu hn]at h;cases h
 have HCv:=h_ fun W (hs:MSl W m A) (ht:Tabs W) (hy:TyW W)=>q0c m A W hf hcap hs ht hy
 have HCn:=h_ fun W (hl:m.F.length<=200) (hs:MSl W m A)=>q1h m A W hl hs.f
 have HNs:Hi (∀x,x∈fNames m->x.size<=9223372036854775807):=h_ fun x hx=>by
  obtain⟨f,hff,rfl⟩:=Y8.1 hx;exact(hf.f f hff).nm
 obtain⟨al,alc,ap,apc,ar,arc,af,afc,afa⟩:=A
 unfold mV at HCv HCn⊢
 unfold wV
 dsimp only at HCv HCn⊢
 have HK:=h_ ((Blk.new w 28 (Jb al m alc ap apc ar arc af afc)).alloc (.cells J1 56))
 have HR:=h_ (Blk.new (w.alloc (.cells (Jb al m alc ap apc ar arc af afc) 28)) 56 J1)
 rw[Yv]at HR
 have HB:=h_ (((bR w.heap.size w).alloc (nR _) (.cells (Jb al m alc ap apc ar arc af afc) 28)).alloc (by simp) (.cells J1 56))
 obtain⟨W0,hW0⟩:=Nq ((w.alloc (.cells (Jb al m alc ap apc ar arc af afc) 28)).alloc (.cells J1 56))
 rw[hW0]at HK HR HB
 have HS:=h_ (ha.mono HB.u);have HT:=h_ (ht.mono HB.u);have HY:=h_ (hy.mono HB.u)
 clear ha ht hy hf hcap
 obtain⟨y0,y1,y2,y3⟩:=quad HK.u
 go_enter Tryz.func20,Tryz.ntmps20
 go_wp2_with fail
 try rw[hW0]
 refine(HCv.u W0 HS.u HT.u HY.u).mono ?_
 rintro r W1 ⟨rfl,hb1⟩
 replace HK:=mB HK hb1;replace HR:=mB HR hb1;replace HS:=h_ (HS.u.mono hb1);replace HB:=mT HB hb1
 clear hb1 hW0 y0 y1 y2 y3 HCv HT HY
 obtain⟨r0,r1,r2,r3,r4⟩:=five HR.u
 have f0:=HR.u.free 0;have f1:=HR.u.free 1;have f2:=HR.u.free 2;have f3:=HR.u.free 3;have f4:=HR.u.free 4
 cases hq:vfB m
 . have HQ:=h_ hq
   clear hq;go_wp2_with fail;have HR9:=h_ (((((HR.u.set 0 Ya).set 1 Ya).set 2 Ya).set 3 Ya).set 4 (.map none));simp only[Yd,Ye]at HR9;have HB9:=h_ (((((HB.u.setCell (p:=⟨w.heap.size+1,0,none⟩) (by simp) Ya).setCell (p:=⟨w.heap.size+1,1,none⟩) (by simp) Ya).setCell (p:=⟨w.heap.size+1,2,none⟩) (by simp) Ya).setCell (p:=⟨w.heap.size+1,3,none⟩) (by simp) Ya).setCell (p:=⟨w.heap.size+1,4,none⟩) (by simp) (.map none));obtain⟨k0,k1,k2,k3,k4⟩:=five HR9.u;exact bodyPost_ret (v:=.tuple #[.agg J1,.bool false]) (by simp[results,Tryz.results20,go_sem, *]) rfl ⟨.inl ⟨HQ.u,rfl⟩,HB9.u⟩
 . have HQ:=h_ hq;have HV:=h_ (HVa.u hq)
   clear hq r0 r1 r2 r3 r4 f0 f1 f2 f3 f4;have hnf:=HV.u.nf;go_wp2_with fail;refine wp_region_held_drew (S:=fun w'=>Blk w' w.heap.size 28 (Jl al m alc ap apc ar arc af afc)) (by kernel_rfl) HK.u (fun zz=>?_);refine tj 0 8 (.agg (Jb al m alc ap apc ar arc af afc)) zz ?_ (hy:=fun w hS=>by obtain⟨q0,q1,q2,q3⟩:=quad hS;simp[execOp,go_sem,q0,q1,q2,q3]);refine tj 1 9 (.agg (Jb al m alc ap apc ar arc af afc)) zz ?_ (hy:=fun w hS=>by obtain⟨q0,q1,q2,q3⟩:=quad hS;simp[execOp,go_sem,q0,q1,q2,q3]);simp only[sX,sY,sZ];have HD:Hi (Below W1.heap.size W1 W1.drew):=h_ (bR _ _).drew;refine callY (i:=2) (f:=46) (args:=#[.agg (Jb al m alc ap apc ar arc af afc)]) (R:=fun v wz=>∃a0 c0,v=.slice a0 (fNames m).length c0/\Strs wz a0 (fNames m)/\Below W1.heap.size W1 wz) 10 rfl rfl (by rfl) (by kernel_rfl) ?hrun2 ((HCn.u W1.drew hnf (HS.u.mono HD.u)).mono fun e w6 ⟨a0,c0,he,hs,hb⟩=>⟨_,he,a0,c0,by rw[q6w],hs,q28 hb⟩) ?_
   case hrun2=>simp[execOp,go_sem]
   rintro v W2 ⟨a0,c0,rfl,hs,hb⟩;replace HK:=mB HK hb;replace HR:=mB HR hb;replace HB:=mT HB hb;have HC3:=h_ (q45 a0 c0 (fNames m) W2 (by rw[q6w];omega) HNs.u hs);clear hs hb zz;have zz:=HK.u;refine⟨zz,?_⟩;simp only[sX,sY,sZ];refine callY (i:=3) (f:=45) (args:=#[.slice a0 (fNames m).length c0]) (R:=fun v wz=>v=.map (some W2.heap.size)/\PMap wz W2.heap.size (fNames m)/\Below W2.heap.size W2 wz) 11 rfl rfl (by rfl) (by kernel_rfl) ?hrun3 (HC3.u.mono fun e w6 ⟨he,hm,hb⟩=>⟨_,he,rfl,hm,hb⟩) ?_
   case hrun3=>simp[execOp,go_sem]
   rintro v W3 ⟨rfl,hm,hb⟩;have HM:=h_ hm;replace HK:=mB HK hb;have HRl:Hi (w.heap.size+1<W2.heap.size):=h_ HR.u.lt;replace HR:=mB HR hb;replace HB:=mT HB hb;clear hm hb zz HC3;have zz:=HK.u;refine⟨zz,?_⟩;simp only[sX,sY,sZ];obtain⟨b,hbq⟩:=Nq W2.heap.size;rw[hbq]at HM HRl⊢;clear hbq;refine tj 4 12 (.agg #[.slice al m.L.length alc,.slice ap m.P.length apc,.slice ar m.R.length arc,.slice af m.F.length afc,.map (some b)]) zz ?_;simp only[sX,sY,sZ];obtain⟨r0,r1,r2,r3,r4⟩:=five HR.u;have f0:=HR.u.free 0;have f1:=HR.u.free 1;have f2:=HR.u.free 2;have f3:=HR.u.free 3;have f4:=HR.u.free 4;refine storeY (i:=5) (w':=((((W3.setCell ⟨w.heap.size+1,0,none⟩ (.slice al m.L.length alc)).setCell ⟨w.heap.size+1,1,none⟩ (.slice ap m.P.length apc)).setCell ⟨w.heap.size+1,2,none⟩ (.slice ar m.R.length arc)).setCell ⟨w.heap.size+1,3,none⟩ (.slice af m.F.length afc)).setCell ⟨w.heap.size+1,4,none⟩ (.map (some b))) rfl (by rfl) (by kernel_rfl) rfl ?hrunS rfl (((((zz.other (a:=⟨w.heap.size+1,0,none⟩) (.slice al m.L.length alc) (by simp)).other (a:=⟨w.heap.size+1,1,none⟩) (.slice ap m.P.length apc) (by simp)).other (a:=⟨w.heap.size+1,2,none⟩) (.slice ar m.R.length arc) (by simp)).other (a:=⟨w.heap.size+1,3,none⟩) (.slice af m.F.length afc) (by simp)).other (a:=⟨w.heap.size+1,4,none⟩) (.map (some b)) (by simp)) ?_
   case hrunS=>simp[execOp,go_sem,r0,r1,r2,r3,r4,f0,f1,f2,f3,f4]
   replace zz:=(((((zz.other (a:=⟨w.heap.size+1,0,none⟩) (.slice al m.L.length alc) (by simp)).other (a:=⟨w.heap.size+1,1,none⟩) (.slice ap m.P.length apc) (by simp)).other (a:=⟨w.heap.size+1,2,none⟩) (.slice ar m.R.length arc) (by simp)).other (a:=⟨w.heap.size+1,3,none⟩) (.slice af m.F.length afc) (by simp)).other (a:=⟨w.heap.size+1,4,none⟩) (.map (some b)) (by simp));refine tj 6 3 (.bool true) zz ?_;simp only[sX,sY,sZ];refine wpAnyH_done (by kernel_rfl) ?_ _;have HR9:=h_ (((((HR.u.set 0 (.slice al m.L.length alc)).set 1 (.slice ap m.P.length apc)).set 2 (.slice ar m.R.length arc)).set 3 (.slice af m.F.length afc)).set 4 (.map (some b)));simp only[Yd,Ye]at HR9;have HB9:=h_ (((((HB.u.setCell (p:=⟨w.heap.size+1,0,none⟩) (by simp) (.slice al m.L.length alc)).setCell (p:=⟨w.heap.size+1,1,none⟩) (by simp) (.slice ap m.P.length apc)).setCell (p:=⟨w.heap.size+1,2,none⟩) (by simp) (.slice ar m.R.length arc)).setCell (p:=⟨w.heap.size+1,3,none⟩) (by simp) (.slice af m.F.length afc)).setCell (p:=⟨w.heap.size+1,4,none⟩) (by simp) (.map (some b)));have HM9:Hi (PMap (((((W3.setCell ⟨w.heap.size+1,0,none⟩ (.slice al m.L.length alc)).setCell ⟨w.heap.size+1,1,none⟩ (.slice ap m.P.length apc)).setCell ⟨w.heap.size+1,2,none⟩ (.slice ar m.R.length arc)).setCell ⟨w.heap.size+1,3,none⟩ (.slice af m.F.length afc)).setCell ⟨w.heap.size+1,4,none⟩ (.map (some b))) b (fNames m)):=h_ (by
    obtain⟨es,clock,h1,F,hs,hD⟩:=HM.u;have hne:b≠w.heap.size+1:=(by have:=HRl.u;omega);exact⟨es,clock,((((heap_setCell_other _ _ b _ hne).trans (heap_setCell_other _ _ b _ hne)).trans (heap_setCell_other _ _ b _ hne)).trans (heap_setCell_other _ _ b _ hne)).trans ((heap_setCell_other _ _ b _ hne).trans h1),F,hs,hD⟩)
   obtain⟨W9,hW9⟩:=Nq (((((W3.setCell ⟨w.heap.size+1,0,none⟩ (.slice al m.L.length alc)).setCell ⟨w.heap.size+1,1,none⟩ (.slice ap m.P.length apc)).setCell ⟨w.heap.size+1,2,none⟩ (.slice ar m.R.length arc)).setCell ⟨w.heap.size+1,3,none⟩ (.slice af m.F.length afc)).setCell ⟨w.heap.size+1,4,none⟩ (.map (some b)));rw[hW9]at HR9 HB9 HM9⊢;clear hW9 r0 r1 r2 r3 r4 f0 f1 f2 f3 f4 zz;obtain⟨k0,k1,k2,k3,k4⟩:=five HR9.u;go_wp2_with fail;exact bodyPost_ret (v:=.tuple #[.agg #[.slice al m.L.length alc,.slice ap m.P.length apc,.slice ar m.R.length arc,.slice af m.F.length afc,.map (some b)],.bool true]) (by simp[results,Tryz.results20,go_sem, *]) rfl ⟨.inr ⟨HQ.u,b,rfl,HM9.u⟩,HB9.u⟩
theorem q36 (X Y:Nat)(J:List Nat->Value->World->Prop)(g c b:Nat)(R:Nat->Option Addr)(RC:Nat->Nat)(rs:List (List Nx))(names:List ByteArray)(v0:Value)(w:World)(hg:g<w.heap.size)(hn:rs.length<=1000)
 (hc:∀k (h:k<rs.length),w.cell? ⟨g,k,none⟩=some (.slice (R k) rs[k].length (RC k))/\rs[k].length<=1000000/\NodL w (R k) rs[k]/\(∀i,i<rs[k].length->Fit (nf rs[k] i))/\knows names rs[k]=true)
 (hnd:names.Nodup) (hm:PMap w b names) (hJ:∀pre v W W',J pre v W->Below W.heap.size W W'->J pre v W')
 (hstep:∀pre x v W,Below w.heap.size w W->J pre v W->x<names.length->pre.length<(rs.flatMap (rdL names)).length->Calls Tryz.prog 86 #[v,J9 (x:Nat),Yc X 0,Yc Y 0] W fun r W'=>∃v',r=.returned v'/\J (pre++[x]) v' W'/\Below w.heap.size W W')
 (h0:J [] v0 w) :
 Calls Tryz.prog 85 #[.slice (some ⟨g,0,none⟩) rs.length c,.map (some b),v0,.func (.func 86) #[] #[Yc X 0,Yc Y 0]] w fun r w'=>∃v,r=.returned v/\J (rs.flatMap (rdL names)) v w'/\Below w.heap.size w w':=by
 have HC:=h_ hc;have HM:=h_ hm;have HJ:=h_ hJ;have HS:=h_ hstep;have H0:=h_ h0;have HG:=h_ hg;have HD:=h_ hnd
 clear hc hm hJ hstep h0 hnd hg
 go_enter Tryz.func85,Tryz.ntmps85
 go_wp2_with fail
 go_loopw [2,15] (fun v i wr=>∃k:Nat,k<=rs.length/\i=J9 k/\J ((rs.take k).flatMap (rdL names)) v wr/\Below w.heap.size w wr) (fun _ i _=>rs.length - (intOf i).toNat)
 case atStart=>exact⟨0,nZ _,rfl,H0.u,bR _ _⟩
 case round =>
  obtain⟨k,hk,rfl,hj,hb⟩:=hrel;have HJk:=h_ hj;have HB:=h_ hb;clear hj hb;by_cases hlt:k<rs.length
  . have hlt':(k:Int)<rs.length:=by omega
    obtain⟨hcell,hlen,hnod,hfit,hkn⟩:=HC.u k hlt;have z0:=(HB.u.cell (p:=⟨g,k,none⟩) HG.u).trans hcell;have HN:=h_ hnod;have HF:=h_ hfit;have HK:=h_ hkn;have HT:Hi ((rs.take (k+1)).flatMap (rdL names)=(rs.take k).flatMap (rdL names)++rdL names rs[k]):=h_ (q9t hlt);have HLe:Hi (((rs.take k).flatMap (rdL names)).length+(rdL names rs[k]).length<=(rs.flatMap (rdL names)).length):=h_ (q9r hlt);clear hcell hnod hfit hkn;generalize (rs.take k).flatMap (rdL names)=pre at *;generalize rs[k]=l at *;generalize R k=a at *;generalize RC k=ac at *;go_wp2_with fail;go_loopw [2,21] (fun v i w3=>∃q:Nat,q<=l.length/\i=J9 q/\J (pre++rdL names (l.take q)) v w3/\Below w.heap.size w w3) (fun _ i _=>l.length - (intOf i).toNat)
    case atStart=>exact⟨0,nZ _,rfl,by have h:=HJk.u;simpa [rdL] using h,HB.u⟩
    case round =>
     clear HJk HB z0;obtain⟨q,hq,rfl,hj,hb⟩:=hrel;have HJq:=h_ hj;have HB:=h_ hb;have HAr:=h_ (HN.u.mono hb);have HMr:=h_ (HM.u.mono hb);clear hj hb;by_cases hql:q<l.length
     . have hql':(q:Int)<l.length:=by omega
       obtain⟨pb,po,rfl,-,z0,z1,z2,z3,z4⟩:=HAr.u q hql;have HR:Hi ((nf l q).op=1->rdL names (l.take (q+1))=rdL names (l.take q)++[fIdx names (nf l q).nm]/\(nf l q).nm∈names):=h_ fun h1=>⟨qj1 hql h1,qa3 HK.u (nf_mem hql) h1⟩;have HRo:Hi (¬ (nf l q).op=1->rdL names (l.take (q+1))=rdL names (l.take q)):=h_ fun h1=>qb2 hql h1;have HQl:Hi ((rdL names (l.take (q+1))).length<=(rdL names l).length):=h_ (q46 names l (q+1));have HFk:=h_ (HF.u q hql);generalize nf l q=n at *;have HKf:=h_ (Blk.new wr 96 (Jf n));have HBa:=h_ ((bR wr.heap.size wr).alloc (nR _) (.cells (Jf n) 96));obtain⟨Wd,hWd⟩:=Nq (wr.alloc (.cells (Jf n) 96));rw[hWd]at HKf HBa;have HBf:=h_ (HB.u.trans (HBa.u.mono HB.u.size));have HMf:=h_ (HMr.u.mono HBa.u);have HJd:=h_ (HJ.u _ _ _ _ HJq.u HBa.u);obtain⟨x0,x1,x2,x3,x4⟩:=five HKf.u;by_cases h1:n.op=1
       . have h1':(n.op != 1)=false:=by rw[h1];rfl
         have h1'':(n.op==1)=true:=(by rw[h1];rfl);obtain⟨e1,hmem⟩:=HR.u h1;have HE:=h_ e1;have HAt:Hi ((mp names).atKey (kl n.nm) (.lit (.int .i64 0))=.lit (.int .i64 ((fIdx names n.nm:Nat):Int))):=h_ (qfp HD.u hmem _);have hxl:=qgf hmem;clear h1 e1 hmem HR HRo;generalize fIdx names n.nm=x at *;have HKy:Hi (keyOf Tryz.prog 9 (.string n.nm)=some (kl n.nm)):=h_ (WideMaps.keyOf_string_mk Tryz.underlying9 HFk.u.2.1);have HCa:=h_ (HS.u _ x _ Wd HBf.u HJd.u hxl (by
          have:=HLe.u;have:=HQl.u;rw[HE.u,Yg]at this;rw[Yg];simp at this;omega))
         go_wp2_with (at_lookup;refine wpList_lookup_own_int _ rfl _ _ 54 rfl 9 3 .i64 (Maps.string_keyed Tryz.underlying9) Tryz.underlying54 Tryz.underlying3 (Tryz.zeroValue3 _) b names.length (mp names) rfl (by first | exact HMf.u | (rw[hWd];exact HMf.u)) _ _ rfl HKy.u ?_;intro pc hpc _;obtain rfl:=qhu hpc HAt.u;clear hpc)
         try rw[hWd]
         clear hWd HMf HKy;refine HCa.u.mono ?_;rintro r W2 ⟨v',rfl,hj2,hb2⟩;have HJ2:Hi (J (pre++rdL names (l.take (q+1))) v' W2):=h_ (by rw[HE.u,<- Vb];exact hj2);have HB2:=h_ (HBf.u.trans hb2);clear hj2 hb2 HCa;go_wp2_with fail;go_roundw
         case rel=>first | exact⟨q+1,by omega,by go_num,HJ2.u,HB2.u⟩ | ((repeat apply Exists.intro);exact⟨⟨q+1,by omega,by go_num,HJ2.u,HB2.u⟩,rfl⟩)
         case measure=>simp[intOf];omega
       . have h1':(n.op != 1)=true:=by simp[h1]
         have h1'':(n.op==1)=false:=(by simp[h1]);have HJ2:=HJd;rw[<- HRo.u h1]at HJ2;clear h1 HR HRo;go_wp2_with fail
         try rw[hWd]
         clear hWd;go_roundw
         case rel=>first | exact⟨q+1,by omega,by go_num,HJ2.u,HBf.u⟩ | ((repeat apply Exists.intro);exact⟨⟨q+1,by omega,by go_num,HJ2.u,HBf.u⟩,rfl⟩)
         case measure=>simp[intOf];omega
     . obtain rfl:q=l.length:=by omega
       have hql':¬ (l.length:Int)<(l.length:Int):=(by omega);have HJ2:=HJq;rw[Zh (nR _),<- HT.u]at HJ2;go_wp2_with fail;go_roundw
       case rel=>first | exact⟨k+1,by omega,by go_num,HJ2.u,HB.u⟩ | ((repeat apply Exists.intro);exact⟨⟨k+1,by omega,by go_num,HJ2.u,HB.u⟩,rfl⟩)
       case measure=>simp[intOf];omega
  . obtain rfl:k=rs.length:=by omega
    have hlt':¬ (rs.length:Int)<(rs.length:Int):=(by omega);have HJ2:=HJk;rw[Zh (nR _)]at HJ2;go_wp2_with fail;go_ret;exact⟨_,rfl,HJ2.u,HB.u⟩
theorem q3j (X Y n nF x j c5 base:Nat)(f:Nat->Nat)(jn:Nat->Nat->Nat)(J:Nat->Int)(a1 a2 a3 a5:Option Addr)(c1 c2 c3:Nat)(bt top:Int)(w:World)(hn:n<=32)(hx:x<n)(hj:j<nF)(hfj:f j<n)(hJ:J (x*n+f j)=((jn x (f j):Nat):Int))(hX:Blk w X 35 [J9 n,.slice a1 (n*n) c1,.slice a2 (n*n) c2,.slice a3 (n*n) c3,J9 bt,J9 top])(hY:Blk w Y 30 [.slice a5 nF c5])(hI:Ints w a2 (n*n) J)(hR:w.ownsRow base 3 1 (.slice a5 nF c5) nF (ui (lsL f nF))) :
 Calls Tryz.prog 86 #[J9 (x:Nat),J9 (j:Nat),Yc X 0,Yc Y 0] w fun r w'=>r=.returned (J9 (jn x (f j):Nat))/\Below w.heap.size w w':=by
 obtain⟨hidx,hw1,hw2,hidx',-⟩:=q9w hx hfj hn
 obtain⟨g,rfl,hgl,zk⟩:=qj6 hR hj
 obtain⟨b2,o2,rfl,hb2,zj⟩:=hI _ hidx
 rw[hJ]at zj
 have x2:=hX.cell 2;have x0:=hX.cell 0;have y0:=hY.cell 0
 simp only[Yh,Yo]at x2 x0 y0
 have hj':((j:Nat):Int)<(nF:Int):=by omega
 generalize jn x (f j)=u at *
 generalize f j=y at *
 generalize hq1:x*n+y=q1 at *
 generalize hq2:x*n=q2 at *
 generalize hq3:n*n=q3 at *
 clear hX hY hI hR hJ hq1 hq2 hq3 hidx hfj
 go_enter Tryz.func86,Tryz.ntmps86
 go_wp2_with fail
 refine wp_region_held_drew (S:=fun w'=>w'.cell? ⟨X,2,none⟩=some (.slice (some ⟨b2,o2,none⟩) q3 c2)/\w'.cell? ⟨X,0,none⟩=some (J9 n)/\w'.cell? ⟨Y,0,none⟩=some (.slice (some ⟨g,0,none⟩) nF c5)/\w'.cell? ⟨g,j,none⟩=some (J9 (y:Nat))/\w'.cell? ⟨b2,o2+q1,none⟩=some (J9 (u:Nat))) (by kernel_rfl) ⟨x2,x0,y0,zk,zj⟩ (fun zz=>?_)
 clear x2 x0 y0 zk zj
 refine tj 0 7 (Yc X 2) zz ?_
 refine tj 1 8 (.slice (some ⟨b2,o2,none⟩) q3 c2) zz ?_
 refine tj 2 9 (J9 x) zz ?_
 refine tj 3 10 (Yc X 0) zz ?_
 simp only[sX,sY,sZ]
 refine tj 4 11 (J9 n) zz ?_
 refine tj 5 12 (J9 q2) zz ?_ (hy:=fun w hS=>by simp[execOp,go_sem, *];exact(IntWalk.i64_left _).trans hw1)
 refine tj 6 13 (.slice (some ⟨g,0,none⟩) nF c5) zz ?_
 refine tj 7 14 (J9 j) zz ?_
 simp only[sX,sY,sZ]
 refine tj 8 15 (Yc g j) zz ?_
 refine tj 9 16 (J9 y) zz ?_
 refine tj 10 17 (J9 q1) zz ?_ (hy:=fun w hS=>by simp[execOp,go_sem, *];exact(IntWalk.i64_left _).trans hw2)
 refine tj 11 18 (Yc b2 (o2+q1)) zz ?_
 simp only[sX,sY,sZ]
 refine tj 12 19 (J9 u) zz ?_
 refine tj 13 6 (J9 u) zz ?_
 simp only[sX,sY,sZ]
 refine wpAnyH_done (by kernel_rfl) ?_ _
 clear zz
 go_wp2_with fail
 go_ret
 exact⟨rfl,(bR _ _).drew⟩
theorem q2q (m:Fm)(A:MA)(b g k X Y n bt c5 base:Nat)(f:Nat->Nat)(F:Nat->Nat->Prop)(jn:Nat->Nat->Nat)(J:Nat->Int)(a1 a2 a3 a5:Option Addr)(c1 c2 c3:Nat)(top:Int)(w:World)(hv:VfA m)(hf:FitM m)(hL:LatP n F jn bt)(hn:n<=32)(hJ:∀a b,a<n->b<n->J (a*n+b)=((jn a b:Nat):Int))(hfl:∀k,k<m.F.length->f k<n)(hk:k<m.F.length)(ha:MSl w m A)(hm:PMap w b (fNames m))
 (hg:Blk w g 129 [.slice (A.fa k).i m.F[k].is.length (A.fa k).ic,.slice (A.fa k).h m.F[k].wh.length (A.fa k).hc,.slice (A.fa k).v m.F[k].va.length (A.fa k).vc,.slice (A.fa k).u m.F[k].mu.length (A.fa k).uc])
 (hX:Blk w X 35 [J9 n,.slice a1 (n*n) c1,.slice a2 (n*n) c2,.slice a3 (n*n) c3,J9 (bt:Int),J9 top]) (hY:Blk w Y 30 [.slice a5 m.F.length c5]) (hI:Ints w a2 (n*n) J) (hR:w.ownsRow base 3 1 (.slice a5 m.F.length c5) m.F.length (ui (lsL f m.F.length))) :
 Calls Tryz.prog 85 #[.slice (some ⟨g,0,none⟩) 4 4,.map (some b),J9 bt,.func (.func 86) #[] #[Yc X 0,Yc Y 0]] w fun r w'=>r=.returned (J9 (rdV m jn bt f k:Nat))/\Below w.heap.size w w':=by
 have hok:=(q4r _ _ _).1 (hv.fi _ (Yk hk))
 have hff:=hf.f _ (Yk hk)
 have hkn:=hv.knw hk
 obtain⟨pb,po,-,-,hsl⟩:=ha.f k hk
 have he:rdA m k=[m.F[k].is,m.F[k].wh,m.F[k].va,m.F[k].mu].flatMap (rdL (fNames m)):=by
  unfold rdA;rw[qge hk]
 rw[qge hk]at hkn
 unfold rdV
 rw[he]
 refine q36 X Y (fun pre v W=>v=J9 (((pre.map f).foldl jn bt:Nat):Int)/\(∀j,j∈pre->j<m.F.length)/\Blk W X 35 [J9 n,.slice a1 (n*n) c1,.slice a2 (n*n) c2,.slice a3 (n*n) c3,J9 (bt:Int),J9 top]/\Blk W Y 30 [.slice a5 m.F.length c5]/\Ints W a2 (n*n) J/\W.ownsRow base 3 1 (.slice a5 m.F.length c5) m.F.length (ui (lsL f m.F.length))) g 4 b (fun i=>if i=0 then (A.fa k).i else if i=1 then (A.fa k).h else if i=2 then (A.fa k).v else (A.fa k).u) (fun i=>if i=0 then (A.fa k).ic else if i=1 then (A.fa k).hc else if i=2 then (A.fa k).vc else (A.fa k).uc) [m.F[k].is,m.F[k].wh,m.F[k].va,m.F[k].mu] (fNames m) (J9 bt) w hg.lt (by simp) ?_ hv.nod hm ?_ ?_ ⟨rfl,(fun j h=>by cases h),hX,hY,hI,hR⟩ |>.mono ?_
 . intro i hi
   have h1:=qef hok.i;have h2:=qef hok.h;have h3:=qef hok.v;have h4:=qef hok.u;obtain rfl | rfl | rfl | rfl:i=0∨i=1∨i=2∨i=3:=by simp at hi;omega
   . exact⟨hg.cell 0,by show m.F[k].is.length<=_;omega,hsl.i,hff.i,hkn.1⟩
   . exact⟨hg.cell 1,by show m.F[k].wh.length<=_;omega,hsl.h,hff.h,hkn.2.1⟩
   . exact⟨hg.cell 2,by show m.F[k].va.length<=_;omega,hsl.v,hff.v,hkn.2.2.1⟩
   . exact⟨hg.cell 3,by show m.F[k].mu.length<=_;omega,hsl.u,hff.u,hkn.2.2.2⟩
 . rintro pre v W W' ⟨h1,h2,h3,h4,h5,h6⟩ hb
   exact⟨h1,h2,h3.mono hb h3.lt,h4.mono hb h4.lt,h5.mono hb,qaq h6 hb⟩
 . rintro pre x v W hb ⟨rfl,h2,h3,h4,h5,h6⟩ hx hl
   rw[q6w]at hx;have hlt:(pre.map f).foldl jn bt<n:=hL.fold_lt _ _ hL.bl fun y hy=>by
    obtain⟨j,hj,rfl⟩:=Y8.1 hy;exact hfl j (h2 j hj)
   refine(q3j X Y n m.F.length _ x c5 base f jn J a1 a2 a3 a5 c1 c2 c3 bt top W hn hlt hx (hfl x hx) (hJ _ _ hlt (hfl x hx)) h3 h4 h5 h6).mono ?_;rintro r W' ⟨rfl,hb'⟩;refine⟨_,rfl,⟨by rw[Zf,List.foldl_append];rfl,fun j hj=>?_,h3.mono hb' h3.lt,h4.mono hb' h4.lt,h5.mono hb',qaq h6 hb'⟩,hb'.mono hb.size⟩;rcases Y9.1 hj with h | h
   . exact h2 j h
   . rw[Yx.1 h];exact hx
 . rintro r w' ⟨v,rfl,⟨rfl,-⟩,hb⟩
   exact⟨rfl,hb⟩
theorem q2o (m:Fm)(A:MA)(b k n bt c5 base:Nat)(f:Nat->Nat)(F:Nat->Nat->Prop)(jn:Nat->Nat->Nat)(J:Nat->Int)(a1 a2 a3 a5:Option Addr)(c1 c2 c3:Nat)(top:Int)(w:World)(hv:VfA m)(hf:FitM m)(hL:LatP n F jn bt)(hn:n<=32)(hJ:∀a b,a<n->b<n->J (a*n+b)=((jn a b:Nat):Int))(hfl:∀k,k<m.F.length->f k<n)(hk:k<m.F.length)(ha:MSl w m A)(hm:PMap w b (fNames m))(hI:Ints w a2 (n*n) J)(hR:w.ownsRow base 3 1 (.slice a5 m.F.length c5) m.F.length (ui (lsL f m.F.length))) :
 Calls Tryz.prog 49 #[wV m A b,J9 k,.agg (Jj n a1 (n*n) c1 a2 c2 a3 c3 (bt:Int) top),.slice a5 m.F.length c5] w fun r w'=>r=.returned (J9 (rdV m jn bt f k:Nat))/\Below w.heap.size w w':=by
 have HC:=h_ fun (W:World) (g X Y:Nat) hs hp hg hX hY hI hR=>q2q m A b g k X Y n bt c5 base f F jn J a1 a2 a3 a5 c1 c2 c3 top W hv hf hL hn hJ hfl hk hs hp hg hX hY hI hR
 have HCu:=h_ fun (W:World)=>q5y m.F[k] (A.fa k) W
 have hnf:=hv.nf
 obtain⟨al,alc,ap,apc,ar,arc,af,afc,afa⟩:=A
 unfold wV
 dsimp only at HC HCu⊢
 have HK:=h_ (((Blk.new w 56 #[.slice al m.L.length alc,.slice ap m.P.length apc,.slice ar m.R.length arc,.slice af m.F.length afc,.map (some b)]).alloc (.cells (Jj n a1 (n*n) c1 a2 c2 a3 c3 (bt:Int) top) 35)).alloc (.cells #[.slice a5 m.F.length c5] 30))
 have HX:=h_ ((Blk.new (w.alloc (.cells #[.slice al m.L.length alc,.slice ap m.P.length apc,.slice ar m.R.length arc,.slice af m.F.length afc,.map (some b)] 56)) 35 (Jj n a1 (n*n) c1 a2 c2 a3 c3 (bt:Int) top)).alloc (.cells #[.slice a5 m.F.length c5] 30))
 have HYb:=h_ (Blk.new ((w.alloc (.cells #[.slice al m.L.length alc,.slice ap m.P.length apc,.slice ar m.R.length arc,.slice af m.F.length afc,.map (some b)] 56)).alloc (.cells (Jj n a1 (n*n) c1 a2 c2 a3 c3 (bt:Int) top) 35)) 30 #[.slice a5 m.F.length c5])
 simp only[Yv]at HX HYb
 have HB:=h_ ((((bR w.heap.size w).alloc (nR _) (.cells #[.slice al m.L.length alc,.slice ap m.P.length apc,.slice ar m.R.length arc,.slice af m.F.length afc,.map (some b)] 56)).alloc (by simp) (.cells (Jj n a1 (n*n) c1 a2 c2 a3 c3 (bt:Int) top) 35)).alloc (by simp;omega) (.cells #[.slice a5 m.F.length c5] 30))
 obtain⟨W0,hW0⟩:=Nq (((w.alloc (.cells #[.slice al m.L.length alc,.slice ap m.P.length apc,.slice ar m.R.length arc,.slice af m.F.length afc,.map (some b)] 56)).alloc (.cells (Jj n a1 (n*n) c1 a2 c2 a3 c3 (bt:Int) top) 35)).alloc (.cells #[.slice a5 m.F.length c5] 30))
 rw[hW0]at HK HX HYb HB
 have HS:=h_ (ha.mono HB.u);have HM:=h_ (hm.mono HB.u);have HI:=h_ (hI.mono HB.u);have HR:=h_ (qaq hR HB.u)
 clear ha hm hI hR hv hf hL hJ hfl
 obtain⟨pb,po,e1,⟨hbl,z0,z1,z2,z3,z4,z5,z6,z7,z8⟩,-⟩:=HS.u.f k hk
 dsimp only at e1 z3 z4 z5 z6 z8
 have hk':(k:Int)<m.F.length:=by omega
 obtain⟨y0,y1,y2,y3,y4⟩:=five HK.u
 rw[e1]at y3
 clear e1
 generalize rdV m jn bt f k=u at *
 generalize m.F[k]=fl at *
 generalize afa k=fa at *
 obtain⟨ub,ubc,ui',uic,uh,uhc,uv,uvc,uu,uuc⟩:=fa
 dsimp only at z3 z4 z5 z6 z8 HC HCu
 unfold fV at HCu
 dsimp only at HCu
 go_enter Tryz.func49,Tryz.ntmps49
 go_wp2_with fail
 try rw[hW0]
 refine(HCu.u W0).mono ?_
 rintro r W1 ⟨rfl,hb⟩
 replace HK:=mB HK hb;replace HX:=mB HX hb;replace HYb:=mB HYb hb;replace HB:=mT HB hb;replace HS:=h_ (HS.u.mono hb);replace HM:=h_ (HM.u.mono hb);replace HI:=h_ (HI.u.mono hb);replace HR:=h_ (qaq HR.u hb)
 clear hb hW0 y0 y1 y2 y3 y4 z0 z1 z2 z3 z4 z5 z6 z7 z8 HCu
 have HG:=h_ (Blk.new W1 129 #[.slice ui' fl.is.length uic,.slice uh fl.wh.length uhc,.slice uv fl.va.length uvc,.slice uu fl.mu.length uuc])
 have hba:=(bR W1.heap.size W1).alloc (nR _) (.cells #[.slice ui' fl.is.length uic,.slice uh fl.wh.length uhc,.slice uv fl.va.length uvc,.slice uu fl.mu.length uuc] 129)
 obtain⟨W2,hW2⟩:=Nq (W1.alloc (.cells #[.slice ui' fl.is.length uic,.slice uh fl.wh.length uhc,.slice uv fl.va.length uvc,.slice uu fl.mu.length uuc] 129))
 rw[hW2]at HG hba
 replace HK:=mB HK hba;replace HX:=mB HX hba;replace HYb:=mB HYb hba;replace HB:=mT HB hba;replace HS:=h_ (HS.u.mono hba);replace HM:=h_ (HM.u.mono hba);replace HI:=h_ (HI.u.mono hba);replace HR:=h_ (qaq HR.u hba)
 obtain⟨g,hg⟩:=Nq W1.heap.size
 rw[hg]at HG
 clear hba
 go_wp2_with fail
 try rw[hW2]
 try rw[hg]
 clear hW2 hg
 refine wp_region_held_drew (S:=fun w'=>Blk w' w.heap.size 56 [.slice al m.L.length alc,.slice ap m.P.length apc,.slice ar m.R.length arc,.slice af m.F.length afc,.map (some b)]/\Blk w' (w.heap.size+1) 35 [J9 n,.slice a1 (n*n) c1,.slice a2 (n*n) c2,.slice a3 (n*n) c3,J9 (bt:Int),J9 top]) (by kernel_rfl) ⟨HK.u,HX.u⟩ (fun zz=>?_)
 refine tj 0 17 (.slice (some ⟨g,0,none⟩) 4 4) zz ?_
 refine tj 1 18 (Yc w.heap.size 4) zz ?_
 refine tj 2 19 (.map (some b)) zz ?_ (hy:=fun w hS=>by obtain⟨q0,q1,q2,q3,q4⟩:=five hS.1;simp[execOp,go_sem,q4])
 refine tj 3 20 (Yc (w.heap.size+1) 4) zz ?_
 simp only[sX,sY,sZ]
 refine tj 4 21 (J9 bt) zz ?_ (hy:=fun w hS=>by have q4:=hS.2.cell 4;simp only[Yh,Yo]at q4;simp[execOp,go_sem,q4])
 refine tj 5 22 (.func (.func 86) #[] #[Yc (w.heap.size+1) 0,Yc (w.heap.size+1+1) 0]) zz ?_
 simp only[sX,sY,sZ]
 have HD:Hi (Below W2.heap.size W2 W2.drew):=h_ (bR _ _).drew
 have HC2:=h_ (HC.u W2.drew g (w.heap.size+1) (w.heap.size+1+1) (HS.u.mono HD.u) (HM.u.mono HD.u) HG.u HX.u HYb.u (HI.u.mono HD.u) HR.u)
 refine callY (i:=6) (f:=85) (args:=#[.slice (some ⟨g,0,none⟩) 4 4,.map (some b),J9 bt,.func (.func 86) #[] #[Yc (w.heap.size+1) 0,Yc (w.heap.size+1+1) 0]]) (R:=fun v wz=>v=J9 (u:Nat)/\Below W2.heap.size W2 wz) 23 rfl rfl (by rfl) (by kernel_rfl) ?hrun6 (HC2.u.mono fun e w6 ⟨he,hb⟩=>⟨_,he,rfl,q28 hb⟩) ?_
 case hrun6=>simp[execOp,go_sem]
 rintro v W3 ⟨rfl,hb⟩
 replace zz:=And.intro (HK.u.mono hb HK.u.lt) (HX.u.mono hb HX.u.lt)
 replace HB:=mT HB hb
 clear hb HC2
 refine⟨zz,?_⟩
 simp only[sX,sY,sZ]
 refine tj 7 8 (J9 u) zz ?_
 simp only[sX,sY,sZ]
 refine wpAnyH_done (by kernel_rfl) ?_ _
 clear zz
 go_wp2_with fail
 go_ret
 exact⟨rfl,HB.u⟩
end Go.Proofs.YtebbgodlijlioaaGreatDoor
