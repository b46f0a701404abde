import Derived.Test.YtebbgodlijlioaaGreatDoorW22
import Derived.Test.YtebbgodlijlioaaGreatDoorW20
set_option maxRecDepth 100000
set_option maxHeartbeats 64000000
namespace Go.Proofs.YtebbgodlijlioaaGreatDoor
open Go Go.RowKit
theorem qbu {m:Fm}(h:¬ VfA m):vfB m=false:=by
 unfold vfB
 rw[show vfA m=false from Bool.eq_false_iff.2 fun e=>h ((qk3 m).1 e)]
 rfl
theorem vfB_of {m:Fm}(h:VfA m):vfB m=decide ((cT m).length<=30000):=by
 unfold vfB
 rw[(qk3 m).2 h,Zc]
theorem inR_of {n:Nat}{x:Int}(h1:0<=x)(h2:x<n):inR n x=true:=Ym ⟨h1,h2⟩
theorem q0e (m:Fm)(A:MA)(w:World)(hf:FitM m)(ha:MSl w m A) :
 Calls Tryz.prog 7 #[mV m A] w fun r w'=>r=.returned (.bool (vfB m))/\Below w.heap.size w w':=by
 obtain⟨al,alc,ap,apc,ar,arc,af,afc,afa⟩:=A
 have HF0:Hi (¬ VfA m->vfB m=false):=h_ qbu
 have HT0:Hi (VfA m->vfB m=decide ((cT m).length<=30000)):=h_ vfB_of
 generalize vfB m=q at *
 unfold mV
 dsimp only
 have HK:=h_ (Blk.new w 28 (Jb al m alc ap apc ar arc af afc))
 have HB:=h_ ((bR w.heap.size w).alloc (nR _) (.cells (Jb al m alc ap apc ar arc af afc) 28))
 obtain⟨W0,hW0⟩:=Nq (w.alloc (.cells (Jb al m alc ap apc ar arc af afc) 28))
 rw[hW0]at HK HB
 have HS:=h_ (ha.mono HB.u);have HF:=h_ hf
 have hll:=hf.ll;have hpl:=hf.pl;have hrl:=hf.rl;have hfl:=hf.fl
 clear ha hf
 obtain⟨y0,y1,y2,y3⟩:=quad HK.u
 by_cases h1:(32:Int)<m.L.length
 . have HX:Hi (q=false):=h_ (HF0.u fun v=>by have:=v.nl;omega)
   go_enter Tryz.func7,Tryz.ntmps7;go_wp2_with fail;go_ret;exact⟨qe9 HX.u.symm,HB.u⟩
 by_cases h2:(256:Int)<m.P.length
 . have HX:Hi (q=false):=h_ (HF0.u fun v=>by have:=v.np;omega)
   go_enter Tryz.func7,Tryz.ntmps7;go_wp2_with fail;go_ret;exact⟨qe9 HX.u.symm,HB.u⟩
 by_cases h3:(64:Int)<m.R.length
 . have HX:Hi (q=false):=h_ (HF0.u fun v=>by have:=v.nr;omega)
   go_enter Tryz.func7,Tryz.ntmps7;go_wp2_with fail;go_ret;exact⟨qe9 HX.u.symm,HB.u⟩
 by_cases h4:(200:Int)<m.F.length
 . have HX:Hi (q=false):=h_ (HF0.u fun v=>by have:=v.nf;omega)
   go_enter Tryz.func7,Tryz.ntmps7;go_wp2_with fail;go_ret;exact⟨qe9 HX.u.symm,HB.u⟩
 go_enter Tryz.func7,Tryz.ntmps7
 go_wp2_with fail
 try rw[hW0]
 refine(q0n m ⟨al,alc,ap,apc,ar,arc,af,afc,afa⟩ W0 (by omega) HS.u.f).mono ?_
 rintro r W1 ⟨an,cn,rfl,hnames,hb1⟩
 have HN:=h_ hnames
 replace HK:=mB HK hb1;replace HS:=h_ (HS.u.mono hb1);replace HB:=mT HB hb1
 clear hW0 y0 y1 y2 y3 hnames hb1
 obtain⟨y0,y1,y2,y3⟩:=quad HK.u
 go_wp2_with fail
 refine(q1s al alc m.L W1 hll HF.u.l HS.u.l).mono ?_
 rintro r W2 ⟨rfl,hb1⟩
 replace HK:=mB HK hb1;replace HS:=h_ (HS.u.mono hb1);replace HB:=mT HB hb1;replace HN:=h_ (HN.u.mono hb1)
 clear y0 y1 y2 y3 hb1
 obtain⟨y0,y1,y2,y3⟩:=quad HK.u
 cases hn1:namesOk m.L
 . have HX:Hi (q=false):=h_ (HF0.u fun v=>by have:=v.l;rw[hn1]at this;cases this)
   go_wp2_with fail;go_ret;exact⟨qe9 HX.u.symm,HB.u⟩
 have HN1:=h_ hn1
 clear hn1
 go_wp2_with fail
 refine(q14 m ⟨al,alc,ap,apc,ar,arc,af,afc,afa⟩ W2 (by omega) HS.u.r).mono ?_
 rintro r W3 ⟨an2,cn2,rfl,hnames,hb1⟩
 have HNr:=h_ hnames
 replace HK:=mB HK hb1;replace HS:=h_ (HS.u.mono hb1);replace HB:=mT HB hb1;replace HN:=h_ (HN.u.mono hb1)
 clear y0 y1 y2 y3 hb1 hnames
 obtain⟨y0,y1,y2,y3⟩:=quad HK.u
 have HE1:Hi (m.R.length=(rNames m).length):=h_ (by simp[rNames]);have HE2:Hi (m.F.length=(fNames m).length):=h_ (by simp[fNames])
 go_wp2_with fail
 have hcr:=q1s an2 cn2 (rNames m) W3 (by rw[<- HE1.u];exact hrl) (fun x hx=>by obtain⟨y,hy,rfl⟩:=Y8.1 hx;exact HF.u.r y hy) HNr.u
 rw[<- HE1.u]at hcr
 refine hcr.mono ?_
 rintro r W4 ⟨rfl,hb1⟩
 replace HK:=mB HK hb1;replace HS:=h_ (HS.u.mono hb1);replace HB:=mT HB hb1;replace HN:=h_ (HN.u.mono hb1)
 clear y0 y1 y2 y3 hb1 hcr HNr
 obtain⟨y0,y1,y2,y3⟩:=quad HK.u
 cases hn1:namesOk (rNames m)
 . have HX:Hi (q=false):=h_ (HF0.u fun v=>by have:=v.r;rw[hn1]at this;cases this)
   go_wp2_with fail;go_ret;exact⟨qe9 HX.u.symm,HB.u⟩
 have HN2:=h_ hn1
 clear hn1
 go_wp2_with fail
 have hcr:=q1s an cn (fNames m) W4 (by rw[<- HE2.u];exact hfl) (fun x hx=>by obtain⟨y,hy,rfl⟩:=Y8.1 hx;exact(HF.u.f y hy).nm) HN.u
 rw[<- HE2.u]at hcr
 refine hcr.mono ?_
 rintro r W5 ⟨rfl,hb1⟩
 replace HK:=mB HK hb1;replace HS:=h_ (HS.u.mono hb1);replace HB:=mT HB hb1;replace HN:=h_ (HN.u.mono hb1)
 clear y0 y1 y2 y3 hb1 hcr
 obtain⟨y0,y1,y2,y3⟩:=quad HK.u
 cases hn1:namesOk (fNames m)
 . have HX:Hi (q=false):=h_ (HF0.u fun v=>by have:=v.f;rw[hn1]at this;cases this)
   go_wp2_with fail;go_ret;exact⟨qe9 HX.u.symm,HB.u⟩
 have HN3:=h_ hn1
 clear hn1
 go_wp2_with fail
 clear y0 y1 y2 y3
 go_loopw [4] (fun i wr=>∃(k:Nat),k<=m.P.length/\i=J9 k/\(∀j (h:j<m.P.length),j<k->inR m.L.length m.P[j].1=true/\inR m.L.length m.P[j].2=true)/\Below W5.heap.size W5 wr) (fun i _=>m.P.length - (intOf i).toNat)
 case atStart=>exact⟨0,nZ _,rfl,fun j _ hj=>absurd hj (nL _),bR _ _⟩
 case round =>
  obtain⟨k,hk,rfl,hall,hb⟩:=hrel;have HL:=h_ hall;have HB1:=h_ hb;have HKr:=mB HK hb;have HSr:=h_ (HS.u.mono hb);have HBw:=mT HB hb;obtain⟨y0,y1,y2,y3⟩:=quad HKr.u;clear hall hb;by_cases hlt:k<m.P.length
  . have hlt':(k:Int)<m.P.length:=by omega
    obtain⟨pb,po,rfl,-,z0,z1⟩:=HSr.u.p k hlt;have HD:Hi (Below w.heap.size w wr.drew):=h_ HBw.u.drew;have HM1:Hi (VfA m->inR m.L.length m.P[k].1=true):=h_ fun v=>(v.p _ (Yk hlt)).1;have HM2:Hi (VfA m->inR m.L.length m.P[k].2=true):=h_ fun v=>(v.p _ (Yk hlt)).2;have HL2:Hi (inR m.L.length m.P[k].1=true->inR m.L.length m.P[k].2=true->∀j (h:j<m.P.length),j<k+1->inR m.L.length m.P[j].1=true/\inR m.L.length m.P[j].2=true):=h_ fun g1 g2 j h hj=>by
     by_cases ej:j=k
     . subst ej;exact⟨g1,g2⟩
     . exact HL.u j h (by omega)
    obtain⟨x1,hx1⟩:=Nq (m.P[k].1);obtain⟨x2,hx2⟩:=Nq (m.P[k].2);rw[hx1]at HM1 HL2 z0;rw[hx2]at HM2 HL2 z1;clear hx1 hx2;by_cases hneg:x1<0
    . have HX:Hi (q=false):=h_ (HF0.u fun v=>by have:=Ze (HM1.u v);omega)
      generalize x1=x at *;go_wp2_with fail;refine wp_region_held_drew (S:=fun w'=>w'.cell? ⟨w.heap.size,0,none⟩=some (.slice al m.L.length alc)/\w'.cell? ⟨w.heap.size,1,none⟩=some (.slice (some ⟨pb,po,none⟩) m.P.length apc)/\w'.cell? ⟨pb,po+k*2,none⟩=some (J9 x)) (by kernel_rfl) ⟨y0,y1,z0⟩ (fun zz=>?_);refine tj 0 51 (Yc w.heap.size 1) zz ?_;refine tj 1 52 (.slice (some ⟨pb,po,none⟩) m.P.length apc) zz ?_;refine tj 2 53 (J9 k) zz ?_;refine tj 3 54 (.pointer (some ⟨pb,po+k*2,none⟩)) zz ?_;simp only[sX,sY,sZ];refine tj 4 55 (.pointer (some ⟨pb,po+k*2,none⟩)) zz ?_;refine tj 5 56 (J9 x) zz ?_;refine tj 6 57 (.bool true) zz ?_;refine tj 7 58 (.bool true) zz ?_;simp only[sX,sY,sZ];refine tn 8 59 zz ?_;refine tn 9 60 zz ?_;refine tn 10 61 zz ?_;refine tn 11 62 zz ?_;simp only[sX,sY,sZ];refine tn 12 63 zz ?_;refine tn 13 64 zz ?_;refine tn 14 65 zz ?_;refine tn 15 66 zz ?_;simp only[sX,sY,sZ];refine tn 16 67 zz ?_;refine tn 17 68 zz ?_;refine tj 18 69 (.bool true) zz ?_;simp only[sX,sY,sZ];refine wpAnyH_done (by kernel_rfl) ?_ _;clear zz;go_wp2_with fail;go_ret;exact⟨qe9 HX.u.symm,HD.u⟩
    by_cases hbig:(m.L.length:Int)<=x1
    . have HX:Hi (q=false):=h_ (HF0.u fun v=>by have:=Ze (HM1.u v);omega)
      generalize x1=x at *;go_wp2_with fail;refine wp_region_held_drew (S:=fun w'=>w'.cell? ⟨w.heap.size,0,none⟩=some (.slice al m.L.length alc)/\w'.cell? ⟨w.heap.size,1,none⟩=some (.slice (some ⟨pb,po,none⟩) m.P.length apc)/\w'.cell? ⟨pb,po+k*2,none⟩=some (J9 x)) (by kernel_rfl) ⟨y0,y1,z0⟩ (fun zz=>?_);refine tj 0 51 (Yc w.heap.size 1) zz ?_;refine tj 1 52 (.slice (some ⟨pb,po,none⟩) m.P.length apc) zz ?_;refine tj 2 53 (J9 k) zz ?_;refine tj 3 54 (.pointer (some ⟨pb,po+k*2,none⟩)) zz ?_;simp only[sX,sY,sZ];refine tj 4 55 (.pointer (some ⟨pb,po+k*2,none⟩)) zz ?_;refine tj 5 56 (J9 x) zz ?_;refine tj 6 57 (.bool false) zz ?_;refine tj 7 58 (.bool false) zz ?_;simp only[sX,sY,sZ];refine tj 8 59 (Yc w.heap.size 1) zz ?_;refine tj 9 60 (.slice (some ⟨pb,po,none⟩) m.P.length apc) zz ?_;refine tj 10 61 (J9 k) zz ?_;refine tj 11 62 (.pointer (some ⟨pb,po+k*2,none⟩)) zz ?_;simp only[sX,sY,sZ];refine tj 12 63 (.pointer (some ⟨pb,po+k*2,none⟩)) zz ?_;refine tj 13 64 (J9 x) zz ?_;refine tj 14 65 (Yc w.heap.size 0) zz ?_;refine tj 15 66 (.slice al m.L.length alc) zz ?_;simp only[sX,sY,sZ];refine tj 16 67 (J9 m.L.length) zz ?_;refine tj 17 68 (.bool true) zz ?_;refine tj 18 69 (.bool true) zz ?_;simp only[sX,sY,sZ];refine wpAnyH_done (by kernel_rfl) ?_ _;clear zz;go_wp2_with fail;go_ret;exact⟨qe9 HX.u.symm,HD.u⟩
    have HG1:Hi (inR m.L.length x1=true):=h_ (inR_of (by omega) (by omega));go_wp2_with fail;refine wp_region_held_drew (S:=fun w'=>w'.cell? ⟨w.heap.size,0,none⟩=some (.slice al m.L.length alc)/\w'.cell? ⟨w.heap.size,1,none⟩=some (.slice (some ⟨pb,po,none⟩) m.P.length apc)/\w'.cell? ⟨pb,po+k*2,none⟩=some (J9 x1)) (by kernel_rfl) ⟨y0,y1,z0⟩ (fun zz=>?_);refine tj 0 51 (Yc w.heap.size 1) zz ?_;refine tj 1 52 (.slice (some ⟨pb,po,none⟩) m.P.length apc) zz ?_;refine tj 2 53 (J9 k) zz ?_;refine tj 3 54 (.pointer (some ⟨pb,po+k*2,none⟩)) zz ?_;simp only[sX,sY,sZ];refine tj 4 55 (.pointer (some ⟨pb,po+k*2,none⟩)) zz ?_;refine tj 5 56 (J9 x1) zz ?_;refine tj 6 57 (.bool false) zz ?_;refine tj 7 58 (.bool false) zz ?_;simp only[sX,sY,sZ];refine tj 8 59 (Yc w.heap.size 1) zz ?_;refine tj 9 60 (.slice (some ⟨pb,po,none⟩) m.P.length apc) zz ?_;refine tj 10 61 (J9 k) zz ?_;refine tj 11 62 (.pointer (some ⟨pb,po+k*2,none⟩)) zz ?_;simp only[sX,sY,sZ];refine tj 12 63 (.pointer (some ⟨pb,po+k*2,none⟩)) zz ?_;refine tj 13 64 (J9 x1) zz ?_;refine tj 14 65 (Yc w.heap.size 0) zz ?_;refine tj 15 66 (.slice al m.L.length alc) zz ?_;simp only[sX,sY,sZ];refine tj 16 67 (J9 m.L.length) zz ?_;refine tj 17 68 (.bool false) zz ?_;refine tj 18 69 (.bool false) zz ?_;simp only[sX,sY,sZ];refine wpAnyH_done (by kernel_rfl) ?_ _;clear zz;have HDd:Hi (Below wr.heap.size wr wr.drew):=h_ (bR _ _).drew;replace y0:=(HDd.u.cell (p:=⟨w.heap.size,0,none⟩) HKr.u.lt).trans y0;replace y1:=(HDd.u.cell (p:=⟨w.heap.size,1,none⟩) HKr.u.lt).trans y1;obtain⟨b',o',he',hlt2,-,z1'⟩:=HSr.u.p k hlt;cases he';replace z1:=(HDd.u.cell (p:=⟨pb,po+k*2+1,none⟩) hlt2).trans z1;replace HD:Hi (Below w.heap.size w wr.drew.drew):=h_ HD.u.drew;replace HB1:Hi (Below W5.heap.size W5 wr.drew.drew):=h_ HB1.u.drew.drew;clear z0 y2 y3 hneg hbig z1';obtain⟨V,hV⟩:=Nq wr.drew;rw[hV]at y0 y1 z1 HD HB1⊢;clear hV;by_cases hneg:x2<0
    . have HX:Hi (q=false):=h_ (HF0.u fun v=>by have:=Ze (HM2.u v);omega)
      generalize x2=x at *;go_wp2_with fail;refine wp_region_held_drew (S:=fun w'=>w'.cell? ⟨w.heap.size,0,none⟩=some (.slice al m.L.length alc)/\w'.cell? ⟨w.heap.size,1,none⟩=some (.slice (some ⟨pb,po,none⟩) m.P.length apc)/\w'.cell? ⟨pb,po+k*2+1,none⟩=some (J9 x)) (by kernel_rfl) ⟨y0,y1,z1⟩ (fun zz=>?_);refine tj 0 70 (Yc w.heap.size 1) zz ?_;refine tj 1 71 (.slice (some ⟨pb,po,none⟩) m.P.length apc) zz ?_;refine tj 2 72 (J9 k) zz ?_;refine tj 3 73 (.pointer (some ⟨pb,po+k*2,none⟩)) zz ?_;simp only[sX,sY,sZ];refine tj 4 74 (.pointer (some ⟨pb,po+k*2+1,none⟩)) zz ?_;refine tj 5 75 (J9 x) zz ?_;refine tj 6 76 (.bool true) zz ?_;refine tj 7 77 (.bool true) zz ?_;simp only[sX,sY,sZ];refine tn 8 78 zz ?_;refine tn 9 79 zz ?_;refine tn 10 80 zz ?_;refine tn 11 81 zz ?_;simp only[sX,sY,sZ];refine tn 12 82 zz ?_;refine tn 13 83 zz ?_;refine tn 14 84 zz ?_;refine tn 15 85 zz ?_;simp only[sX,sY,sZ];refine tn 16 86 zz ?_;refine tn 17 87 zz ?_;refine tj 18 88 (.bool true) zz ?_;simp only[sX,sY,sZ];refine wpAnyH_done (by kernel_rfl) ?_ _;clear zz;go_wp2_with fail;go_ret;exact⟨qe9 HX.u.symm,HD.u⟩
    by_cases hbig:(m.L.length:Int)<=x2
    . have HX:Hi (q=false):=h_ (HF0.u fun v=>by have:=Ze (HM2.u v);omega)
      generalize x2=x at *;go_wp2_with fail;refine wp_region_held_drew (S:=fun w'=>w'.cell? ⟨w.heap.size,0,none⟩=some (.slice al m.L.length alc)/\w'.cell? ⟨w.heap.size,1,none⟩=some (.slice (some ⟨pb,po,none⟩) m.P.length apc)/\w'.cell? ⟨pb,po+k*2+1,none⟩=some (J9 x)) (by kernel_rfl) ⟨y0,y1,z1⟩ (fun zz=>?_);refine tj 0 70 (Yc w.heap.size 1) zz ?_;refine tj 1 71 (.slice (some ⟨pb,po,none⟩) m.P.length apc) zz ?_;refine tj 2 72 (J9 k) zz ?_;refine tj 3 73 (.pointer (some ⟨pb,po+k*2,none⟩)) zz ?_;simp only[sX,sY,sZ];refine tj 4 74 (.pointer (some ⟨pb,po+k*2+1,none⟩)) zz ?_;refine tj 5 75 (J9 x) zz ?_;refine tj 6 76 (.bool false) zz ?_;refine tj 7 77 (.bool false) zz ?_;simp only[sX,sY,sZ];refine tj 8 78 (Yc w.heap.size 1) zz ?_;refine tj 9 79 (.slice (some ⟨pb,po,none⟩) m.P.length apc) zz ?_;refine tj 10 80 (J9 k) zz ?_;refine tj 11 81 (.pointer (some ⟨pb,po+k*2,none⟩)) zz ?_;simp only[sX,sY,sZ];refine tj 12 82 (.pointer (some ⟨pb,po+k*2+1,none⟩)) zz ?_;refine tj 13 83 (J9 x) zz ?_;refine tj 14 84 (Yc w.heap.size 0) zz ?_;refine tj 15 85 (.slice al m.L.length alc) zz ?_;simp only[sX,sY,sZ];refine tj 16 86 (J9 m.L.length) zz ?_;refine tj 17 87 (.bool true) zz ?_;refine tj 18 88 (.bool true) zz ?_;simp only[sX,sY,sZ];refine wpAnyH_done (by kernel_rfl) ?_ _;clear zz;go_wp2_with fail;go_ret;exact⟨qe9 HX.u.symm,HD.u⟩
    have HG2:Hi (inR m.L.length x2=true):=h_ (inR_of (by omega) (by omega));have HL3:=h_ (HL2.u HG1.u HG2.u);go_wp2_with fail;refine wp_region_held_drew (S:=fun w'=>w'.cell? ⟨w.heap.size,0,none⟩=some (.slice al m.L.length alc)/\w'.cell? ⟨w.heap.size,1,none⟩=some (.slice (some ⟨pb,po,none⟩) m.P.length apc)/\w'.cell? ⟨pb,po+k*2+1,none⟩=some (J9 x2)) (by kernel_rfl) ⟨y0,y1,z1⟩ (fun zz=>?_);refine tj 0 70 (Yc w.heap.size 1) zz ?_;refine tj 1 71 (.slice (some ⟨pb,po,none⟩) m.P.length apc) zz ?_;refine tj 2 72 (J9 k) zz ?_;refine tj 3 73 (.pointer (some ⟨pb,po+k*2,none⟩)) zz ?_;simp only[sX,sY,sZ];refine tj 4 74 (.pointer (some ⟨pb,po+k*2+1,none⟩)) zz ?_;refine tj 5 75 (J9 x2) zz ?_;refine tj 6 76 (.bool false) zz ?_;refine tj 7 77 (.bool false) zz ?_;simp only[sX,sY,sZ];refine tj 8 78 (Yc w.heap.size 1) zz ?_;refine tj 9 79 (.slice (some ⟨pb,po,none⟩) m.P.length apc) zz ?_;refine tj 10 80 (J9 k) zz ?_;refine tj 11 81 (.pointer (some ⟨pb,po+k*2,none⟩)) zz ?_;simp only[sX,sY,sZ];refine tj 12 82 (.pointer (some ⟨pb,po+k*2+1,none⟩)) zz ?_;refine tj 13 83 (J9 x2) zz ?_;refine tj 14 84 (Yc w.heap.size 0) zz ?_;refine tj 15 85 (.slice al m.L.length alc) zz ?_;simp only[sX,sY,sZ];refine tj 16 86 (J9 m.L.length) zz ?_;refine tj 17 87 (.bool false) zz ?_;refine tj 18 88 (.bool false) zz ?_;simp only[sX,sY,sZ];refine wpAnyH_done (by kernel_rfl) ?_ _;clear zz;go_wp2_with fail;go_roundw
    case rel=>first | exact⟨k+1,by omega,by go_num,HL3.u,HB1.u⟩ | ((repeat apply Exists.intro);exact⟨⟨k+1,by omega,by go_num,HL3.u,HB1.u⟩,rfl⟩)
    case measure=>simp[intOf];omega
  obtain rfl:k=m.P.length:=by omega
  have hlt':¬ (m.P.length:Int)<(m.P.length:Int):=by omega
  have HP:Hi (∀x,x∈m.P->inR m.L.length x.1=true/\inR m.L.length x.2=true):=h_ fun x hx=>by
   obtain⟨j,hj,rfl⟩:=Y2.1 hx;exact HL.u j hj hj
  replace HK:=HKr;replace HS:=HSr;replace HN:=h_ (HN.u.mono HB1.u);replace HB:=HBw;go_wp2_with fail;clear y0 y1 y2 y3 HB1 HL hlt hlt' HKr HSr HBw;obtain⟨W6,hW6⟩:=Nq wr;rw[hW6]at HB HS HN HK⊢;clear hW6;go_loopw [5] (fun i wr=>∃(k:Nat),k<=m.R.length/\i=J9 k/\(∀j (h:j<m.R.length),j<k->inR m.L.length m.R[j].lb=true)/\Below W6.heap.size W6 wr) (fun i _=>m.R.length - (intOf i).toNat)
  case atStart=>exact⟨0,nZ _,rfl,fun j _ hj=>absurd hj (nL _),bR _ _⟩
  case round =>
   obtain⟨k,hk,rfl,hall,hb⟩:=hrel;have HL:=h_ hall;have HB1:=h_ hb;have HKr:=mB HK hb;have HSr:=h_ (HS.u.mono hb);have HBw:=mT HB hb;obtain⟨y0,y1,y2,y3⟩:=quad HKr.u;clear hall hb;by_cases hlt:k<m.R.length
   . have hlt':(k:Int)<m.R.length:=by omega
     obtain⟨pb,po,rfl,-,z0,z1⟩:=HSr.u.r k hlt;have HD:Hi (Below w.heap.size w wr.drew):=h_ HBw.u.drew;have HM1:Hi (VfA m->inR m.L.length m.R[k].lb=true):=h_ fun v=>v.ro _ (Yk hlt);have HL2:Hi (inR m.L.length m.R[k].lb=true->∀j (h:j<m.R.length),j<k+1->inR m.L.length m.R[j].lb=true):=h_ fun g1 j h hj=>by
      by_cases ej:j=k
      . subst ej;exact g1
      . exact HL.u j h (by omega)
     obtain⟨x1,hx1⟩:=Nq (m.R[k].lb);rw[hx1]at HM1 HL2 z1;clear hx1;by_cases hneg:x1<0
     . have HX:Hi (q=false):=h_ (HF0.u fun v=>by have:=Ze (HM1.u v);omega)
       generalize x1=x at *;go_wp2_with fail;refine wp_region_held_drew (S:=fun w'=>w'.cell? ⟨w.heap.size,0,none⟩=some (.slice al m.L.length alc)/\w'.cell? ⟨w.heap.size,2,none⟩=some (.slice (some ⟨pb,po,none⟩) m.R.length arc)/\w'.cell? ⟨pb,po+k*2+1,none⟩=some (J9 x)) (by kernel_rfl) ⟨y0,y2,z1⟩ (fun zz=>?_);refine tj 0 96 (Yc w.heap.size 2) zz ?_;refine tj 1 97 (.slice (some ⟨pb,po,none⟩) m.R.length arc) zz ?_;refine tj 2 98 (J9 k) zz ?_;refine tj 3 99 (.pointer (some ⟨pb,po+k*2,none⟩)) zz ?_;simp only[sX,sY,sZ];refine tj 4 100 (.pointer (some ⟨pb,po+k*2+1,none⟩)) zz ?_;refine tj 5 101 (J9 x) zz ?_;refine tj 6 102 (.bool true) zz ?_;refine tj 7 103 (.bool true) zz ?_;simp only[sX,sY,sZ];refine tn 8 104 zz ?_;refine tn 9 105 zz ?_;refine tn 10 106 zz ?_;refine tn 11 107 zz ?_;simp only[sX,sY,sZ];refine tn 12 108 zz ?_;refine tn 13 109 zz ?_;refine tn 14 110 zz ?_;refine tn 15 111 zz ?_;simp only[sX,sY,sZ];refine tn 16 112 zz ?_;refine tn 17 113 zz ?_;refine tj 18 114 (.bool true) zz ?_;simp only[sX,sY,sZ];refine wpAnyH_done (by kernel_rfl) ?_ _;clear zz;go_wp2_with fail;go_ret;exact⟨qe9 HX.u.symm,HD.u⟩
     by_cases hbig:(m.L.length:Int)<=x1
     . have HX:Hi (q=false):=h_ (HF0.u fun v=>by have:=Ze (HM1.u v);omega)
       generalize x1=x at *;go_wp2_with fail;refine wp_region_held_drew (S:=fun w'=>w'.cell? ⟨w.heap.size,0,none⟩=some (.slice al m.L.length alc)/\w'.cell? ⟨w.heap.size,2,none⟩=some (.slice (some ⟨pb,po,none⟩) m.R.length arc)/\w'.cell? ⟨pb,po+k*2+1,none⟩=some (J9 x)) (by kernel_rfl) ⟨y0,y2,z1⟩ (fun zz=>?_);refine tj 0 96 (Yc w.heap.size 2) zz ?_;refine tj 1 97 (.slice (some ⟨pb,po,none⟩) m.R.length arc) zz ?_;refine tj 2 98 (J9 k) zz ?_;refine tj 3 99 (.pointer (some ⟨pb,po+k*2,none⟩)) zz ?_;simp only[sX,sY,sZ];refine tj 4 100 (.pointer (some ⟨pb,po+k*2+1,none⟩)) zz ?_;refine tj 5 101 (J9 x) zz ?_;refine tj 6 102 (.bool false) zz ?_;refine tj 7 103 (.bool false) zz ?_;simp only[sX,sY,sZ];refine tj 8 104 (Yc w.heap.size 2) zz ?_;refine tj 9 105 (.slice (some ⟨pb,po,none⟩) m.R.length arc) zz ?_;refine tj 10 106 (J9 k) zz ?_;refine tj 11 107 (.pointer (some ⟨pb,po+k*2,none⟩)) zz ?_;simp only[sX,sY,sZ];refine tj 12 108 (.pointer (some ⟨pb,po+k*2+1,none⟩)) zz ?_;refine tj 13 109 (J9 x) zz ?_;refine tj 14 110 (Yc w.heap.size 0) zz ?_;refine tj 15 111 (.slice al m.L.length alc) zz ?_;simp only[sX,sY,sZ];refine tj 16 112 (J9 m.L.length) zz ?_;refine tj 17 113 (.bool true) zz ?_;refine tj 18 114 (.bool true) zz ?_;simp only[sX,sY,sZ];refine wpAnyH_done (by kernel_rfl) ?_ _;clear zz;go_wp2_with fail;go_ret;exact⟨qe9 HX.u.symm,HD.u⟩
     have HL3:=h_ (HL2.u (inR_of (by omega) (by omega)));replace HB1:Hi (Below W6.heap.size W6 wr.drew):=h_ HB1.u.drew;go_wp2_with fail;refine wp_region_held_drew (S:=fun w'=>w'.cell? ⟨w.heap.size,0,none⟩=some (.slice al m.L.length alc)/\w'.cell? ⟨w.heap.size,2,none⟩=some (.slice (some ⟨pb,po,none⟩) m.R.length arc)/\w'.cell? ⟨pb,po+k*2+1,none⟩=some (J9 x1)) (by kernel_rfl) ⟨y0,y2,z1⟩ (fun zz=>?_);refine tj 0 96 (Yc w.heap.size 2) zz ?_;refine tj 1 97 (.slice (some ⟨pb,po,none⟩) m.R.length arc) zz ?_;refine tj 2 98 (J9 k) zz ?_;refine tj 3 99 (.pointer (some ⟨pb,po+k*2,none⟩)) zz ?_;simp only[sX,sY,sZ];refine tj 4 100 (.pointer (some ⟨pb,po+k*2+1,none⟩)) zz ?_;refine tj 5 101 (J9 x1) zz ?_;refine tj 6 102 (.bool false) zz ?_;refine tj 7 103 (.bool false) zz ?_;simp only[sX,sY,sZ];refine tj 8 104 (Yc w.heap.size 2) zz ?_;refine tj 9 105 (.slice (some ⟨pb,po,none⟩) m.R.length arc) zz ?_;refine tj 10 106 (J9 k) zz ?_;refine tj 11 107 (.pointer (some ⟨pb,po+k*2,none⟩)) zz ?_;simp only[sX,sY,sZ];refine tj 12 108 (.pointer (some ⟨pb,po+k*2+1,none⟩)) zz ?_;refine tj 13 109 (J9 x1) zz ?_;refine tj 14 110 (Yc w.heap.size 0) zz ?_;refine tj 15 111 (.slice al m.L.length alc) zz ?_;simp only[sX,sY,sZ];refine tj 16 112 (J9 m.L.length) zz ?_;refine tj 17 113 (.bool false) zz ?_;refine tj 18 114 (.bool false) zz ?_;simp only[sX,sY,sZ];refine wpAnyH_done (by kernel_rfl) ?_ _;clear zz;go_wp2_with fail;go_roundw
     case rel=>first | exact⟨k+1,by omega,by go_num,HL3.u,HB1.u⟩ | ((repeat apply Exists.intro);exact⟨⟨k+1,by omega,by go_num,HL3.u,HB1.u⟩,rfl⟩)
     case measure=>simp[intOf];omega
   obtain rfl:k=m.R.length:=by omega
   have hlt':¬ (m.R.length:Int)<(m.R.length:Int):=by omega
   have HRo:Hi (∀x,x∈m.R->inR m.L.length x.lb=true):=h_ fun x hx=>by
    obtain⟨j,hj,rfl⟩:=Y2.1 hx;exact HL.u j hj hj
   replace HK:=HKr;replace HS:=HSr;replace HN:=h_ (HN.u.mono HB1.u);replace HB:=HBw;go_wp2_with fail;clear y0 y1 y2 y3 HB1 HL hlt hlt' HKr HSr HBw;obtain⟨W7,hW7⟩:=Nq wr;rw[hW7]at HB HS HN HK⊢;clear hW7;go_loopw [6] (fun i wr=>∃(k:Nat),k<=m.F.length/\i=J9 k/\(∀j (h:j<m.F.length),j<k->fieldOk m.L.length m.R.length m.F[j]=true/\fieldKnows (fNames m) m.F[j]=true)/\Below W7.heap.size W7 wr) (fun i _=>m.F.length - (intOf i).toNat)
   case atStart=>exact⟨0,nZ _,rfl,fun j _ hj=>absurd hj (nL _),bR _ _⟩
   case round =>
    obtain⟨k,hk,rfl,hall,hb⟩:=hrel;have HL:=h_ hall;have HB1:=h_ hb;have HKr:=mB HK hb;have HSr:=h_ (HS.u.mono hb);have HNr:=h_ (HN.u.mono hb);have HBw:=mT HB hb;clear hall hb;by_cases hlt:k<m.F.length
    . have hlt':(k:Int)<m.F.length:=by omega
      obtain⟨Wr,hWr⟩:=Nq wr;rw[hWr]at HB1 HKr HSr HNr HBw⊢;clear hWr;obtain⟨pb,po,rfl,hcel,hsl⟩:=HSr.u.f k hlt;have HM1:Hi (VfA m->fieldOk m.L.length m.R.length m.F[k]=true/\fieldKnows (fNames m) m.F[k]=true):=h_ fun v=>⟨v.fi _ (Yk hlt),v.kn _ (Yk hlt)⟩;have HL2:Hi (fieldOk m.L.length m.R.length m.F[k]=true->fieldKnows (fNames m) m.F[k]=true->∀j (h:j<m.F.length),j<k+1->fieldOk m.L.length m.R.length m.F[j]=true/\fieldKnows (fNames m) m.F[j]=true):=h_ fun g1 g2 j h hj=>by
       by_cases ej:j=k
       . subst ej;exact⟨g1,g2⟩
       . exact HL.u j h (by omega)
      have HFf:=h_ (HF.u.f _ (Yk hlt));obtain⟨fa,hfa⟩:=Nq (afa k);dsimp only at hcel hsl;rw[hfa]at hcel hsl;have HCl:=h_ hcel;have HSf:=h_ hsl;clear hcel hsl hfa;generalize m.F[k]=f at *;obtain⟨ab,abc,ai,aic,ah,ahc,av,avc,au,auc⟩:=fa;have HC1:=h_ (q0o f ⟨ab,abc,ai,aic,ah,ahc,av,avc,au,auc⟩ m ⟨al,alc,ap,apc,ar,arc,some ⟨pb,po,none⟩,afc,afa⟩ Wr.drew HFf.u (HSf.u.mono (bR _ _).drew));unfold fV mV at HC1;dsimp only at HC1;have HC2:Hi (∀W8,Below Wr.heap.size Wr W8->Calls Tryz.prog 27 #[.agg (Ja f ab abc ai aic ah ahc av avc au auc),.slice an m.F.length cn] W8 fun r w'=>r=.returned (.bool (fieldKnows (fNames m) f))/\Below W8.heap.size W8 w'):=h_ fun W8 hb=>by
       have h:=q0m f ⟨ab,abc,ai,aic,ah,ahc,av,avc,au,auc⟩ an cn (fNames m) W8 HFf.u (by rw[<- HE2.u];exact hfl) (HSf.u.mono hb) (HNr.u.mono hb);rw[<- HE2.u]at h;exact h
      generalize fieldOk m.L.length m.R.length f=g1 at *;generalize fieldKnows (fNames m) f=g2 at *;obtain⟨y0,y1,y2,y3⟩:=quad HKr.u;go_wp2_with fail;clear y0 y1 y2 y3;refine wp_region_held_drew (S:=fun w'=>Blk w' w.heap.size 28 (Jl al m alc ap apc ar arc (some ⟨pb,po,none⟩) afc)/\FCel w' pb (po+k*9) f ⟨ab,abc,ai,aic,ah,ahc,av,avc,au,auc⟩) (by kernel_rfl) ⟨HKr.u,HCl.u⟩ (fun zz=>?_);refine tj 0 122 (Yc w.heap.size 3) zz ?_;refine tj 1 123 (.slice (some ⟨pb,po,none⟩) m.F.length afc) zz ?_ (hy:=fun w hS=>by obtain⟨hk,-,q0,q1,q2,q3,q4,q5,q6,q7,q8⟩:=hS;obtain⟨-,-,-,p3⟩:=quad hk;simp[execOp,go_sem,p3]);refine tj 2 124 (J9 k) zz ?_;refine tj 3 125 (.pointer (some ⟨pb,po+k*9,none⟩)) zz ?_;simp only[sX,sY,sZ];refine tj 4 126 (.agg (Ja f ab abc ai aic ah ahc av avc au auc)) zz ?_ (hy:=fun w hS=>by obtain⟨hk,-,q0,q1,q2,q3,q4,q5,q6,q7,q8⟩:=hS;simp[execOp,go_sem,q0,q1,q2,q3,q4,q5,q6,q7,q8]);refine tj 5 127 (.agg (Jb al m alc ap apc ar arc (some ⟨pb,po,none⟩) afc)) zz ?_ (hy:=fun w hS=>by obtain⟨hk,-,q0,q1,q2,q3,q4,q5,q6,q7,q8⟩:=hS;obtain⟨p0,p1,p2,p3⟩:=quad hk;simp[execOp,go_sem,p0,p1,p2,p3]);simp only[sX,sY,sZ];refine callY (i:=6) (f:=26) (args:=#[.agg (Ja f ab abc ai aic ah ahc av avc au auc),.agg (Jb al m alc ap apc ar arc (some ⟨pb,po,none⟩) afc)]) (R:=fun r wz=>r=.bool g1/\Below Wr.heap.size Wr wz) 128 rfl rfl (by rfl) (by kernel_rfl) (by simp[execOp,go_sem]) (HC1.u.mono fun e w6 ⟨he,hb⟩=>⟨_,he,rfl,q28 hb⟩) ?_;rintro r3 W8 ⟨rfl,hb8⟩;have HB8:=h_ hb8;replace zz:Blk W8 w.heap.size 28 (Jl al m alc ap apc ar arc (some ⟨pb,po,none⟩) afc)/\FCel W8 pb (po+k*9) f ⟨ab,abc,ai,aic,ah,ahc,av,avc,au,auc⟩:=⟨HKr.u.mono hb8 HKr.u.lt,HCl.u.mono hb8⟩;clear hb8;refine⟨zz,?_⟩;simp only[sX,sY,sZ];have HBw8:Hi (Below w.heap.size w W8):=h_ (HBw.u.trans (HB8.u.mono HBw.u.size));have HB78:Hi (Below W7.heap.size W7 W8):=h_ (HB1.u.trans (HB8.u.mono HB1.u.size));cases g1
      . have HX:Hi (q=false):=h_ (HF0.u fun v=>by have:=(HM1.u v).1;cases this)
        refine tj 7 129 (.bool true) zz ?_;refine tj 8 130 (.bool true) zz ?_;refine tn 9 131 zz ?_;refine tn 10 132 zz ?_;simp only[sX,sY,sZ];refine tn 11 133 zz ?_;refine tn 12 134 zz ?_;refine tn 13 135 zz ?_;refine tn 14 136 zz ?_;simp only[sX,sY,sZ];refine tn 15 137 zz ?_;refine tn 16 138 zz ?_;refine tj 17 139 (.bool true) zz ?_;simp only[sX,sY,sZ];refine wpAnyH_done (by kernel_rfl) ?_ _;clear zz;go_wp2_with fail;go_ret;exact⟨qe9 HX.u.symm,HBw8.u⟩
      refine tj 7 129 (.bool false) zz ?_;refine tj 8 130 (.bool false) zz ?_;refine tj 9 131 (Yc w.heap.size 3) zz ?_;refine tj 10 132 (.slice (some ⟨pb,po,none⟩) m.F.length afc) zz ?_ (hy:=fun w hS=>by obtain⟨hk,-,q0,q1,q2,q3,q4,q5,q6,q7,q8⟩:=hS;obtain⟨-,-,-,p3⟩:=quad hk;simp[execOp,go_sem,p3]);simp only[sX,sY,sZ];refine tj 11 133 (J9 k) zz ?_;refine tj 12 134 (.pointer (some ⟨pb,po+k*9,none⟩)) zz ?_;refine tj 13 135 (.agg (Ja f ab abc ai aic ah ahc av avc au auc)) zz ?_ (hy:=fun w hS=>by obtain⟨hk,-,q0,q1,q2,q3,q4,q5,q6,q7,q8⟩:=hS;simp[execOp,go_sem,q0,q1,q2,q3,q4,q5,q6,q7,q8]);refine tj 14 136 (.slice an m.F.length cn) zz ?_;simp only[sX,sY,sZ];have HC2':=HC2.u W8 HB8.u;refine callY (i:=15) (f:=27) (args:=#[.agg (Ja f ab abc ai aic ah ahc av avc au auc),.slice an m.F.length cn]) (R:=fun r wz=>r=.bool g2/\Below W8.heap.size W8 wz) 137 rfl rfl (by rfl) (by kernel_rfl) (by simp[execOp,go_sem]) ((HC2').mono fun e w6 ⟨he,hb⟩=>⟨_,he,rfl,hb⟩) ?_;rintro r3 W9 ⟨rfl,hb9⟩;have HBw9:Hi (Below w.heap.size w W9):=mT HBw8 hb9;have HB79:Hi (Below W7.heap.size W7 W9):=mT HB78 hb9;replace zz:Blk W9 w.heap.size 28 (Jl al m alc ap apc ar arc (some ⟨pb,po,none⟩) afc)/\FCel W9 pb (po+k*9) f ⟨ab,abc,ai,aic,ah,ahc,av,avc,au,auc⟩:=⟨zz.1.mono hb9 zz.1.lt,zz.2.mono hb9⟩;clear hb9;refine⟨zz,?_⟩;simp only[sX,sY,sZ];cases g2
      . have HX:Hi (q=false):=h_ (HF0.u fun v=>by have:=(HM1.u v).2;cases this)
        refine tj 16 138 (.bool true) zz ?_;refine tj 17 139 (.bool true) zz ?_;simp only[sX,sY,sZ];refine wpAnyH_done (by kernel_rfl) ?_ _;clear zz;go_wp2_with fail;go_ret;exact⟨qe9 HX.u.symm,HBw9.u⟩
      have HL3:=h_ (HL2.u rfl rfl);refine tj 16 138 (.bool false) zz ?_;refine tj 17 139 (.bool false) zz ?_;simp only[sX,sY,sZ];refine wpAnyH_done (by kernel_rfl) ?_ _;clear zz;go_wp2_with fail;go_roundw
      case rel=>first | exact⟨k+1,by omega,by go_num,HL3.u,HB79.u⟩ | ((repeat apply Exists.intro);exact⟨⟨k+1,by omega,by go_num,HL3.u,HB79.u⟩,rfl⟩)
      case measure=>simp[intOf];omega
    obtain rfl:k=m.F.length:=(by omega);have hlt':¬ (m.F.length:Int)<(m.F.length:Int):=(by omega);have HVv:Hi (VfA m):=h_ ⟨by omega,by omega,by omega,by omega,HN1.u,HN2.u,HN3.u,HP.u,HRo.u,fun x hx=>by
     obtain⟨j,hj,rfl⟩:=Y2.1 hx;exact(HL.u j hj hj).1,fun x hx=>by
     obtain⟨j,hj,rfl⟩:=Y2.1 hx;exact(HL.u j hj hj).2⟩
    have HC:=h_ (q11 m ⟨al,alc,ap,apc,ar,arc,af,afc,afa⟩ wr HF.u HVv.u HSr.u);have HQ:Hi (q=decide ((cT m).length<=30000)):=h_ (HT0.u HVv.u);obtain⟨T,hT⟩:∃T:ByteArray,⟨(cT m).toArray⟩=T:=⟨_,rfl⟩;have hTs:T.size=(cT m).length:=(by rw[<- hT];rfl);have hTb:(cT m).length<=3714016:=(by rw[<- c4_all];exact c4_len HVv.u _);rw[<- hTs]at HQ hTb;rw[hT]at HC;unfold mV at HC;dsimp only at HC;clear hT hTs;obtain⟨y0,y1,y2,y3⟩:=quad HKr.u;go_wp2_with fail;refine HC.u.mono ?_;rintro r W9 ⟨rfl,hb9⟩;have HBw9:Hi (Below w.heap.size w W9):=mT HBw hb9;clear hb9;have HQ2:Hi (q=decide ((T.size:Int)<=30000)):=h_ (by rw[HQ.u];exact decide_eq_decide.2 (by omega));go_wp2_with fail;go_ret;exact⟨qe9 HQ2.u.symm,HBw9.u⟩
end Go.Proofs.YtebbgodlijlioaaGreatDoor
