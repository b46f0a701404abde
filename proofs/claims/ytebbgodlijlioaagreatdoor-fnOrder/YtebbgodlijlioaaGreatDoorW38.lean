import Derived.Test.YtebbgodlijlioaaGreatDoorW34
set_option maxRecDepth 100000
set_option maxHeartbeats 64000000
namespace Go.Proofs.YtebbgodlijlioaaGreatDoor
open Go Go.RowKit
def lsL (f:Nat->Nat)(k:Nat):List Nat:=(List.range k).map f
theorem qew (f:Nat->Nat)(k:Nat):lsL f (k+1)=lsL f k++[f k]:=by
 unfold lsL
 rw[Za,Zf]
 rfl
theorem qjz (f:Nat->Nat)(k:Nat):(lsL f k).length=k:=by simp[lsL]
theorem qjy {f:Nat->Nat}{k i:Nat}(h:i<(lsL f k).length):(lsL f k)[i]=f i:=by simp[lsL]
theorem qbg {f g:Nat->Nat}{k:Nat}(h:∀i,i<k->f i=g i):lsL f k=lsL g k:=Z2 fun i hi=>h i (Y3.1 hi)
theorem qlc {w:World}{base c n:Nat}{a:Option Addr}{f:Nat->Nat}(h:w.ownsRow base 3 1 (.slice a n c) n (ui (lsL f n))){i:Nat}(hi:i<n):∃g,a=some ⟨g,0,none⟩/\g<w.heap.size/\w.cell? ⟨g,i,none⟩=some (J9 (f i:Nat)):=by
 have hl:=qjz f n
 have h':w.ownsRow base 3 1 (.slice a (lsL f n).length c) (lsL f n).length (ui (lsL f n)):=by rw[hl];exact h
 obtain⟨a',c',e,h2⟩:∃a' c',Value.slice a (lsL f n).length c=.slice a' (lsL f n).length c'/\∀i (hi:i<(lsL f n).length),∃g,a'=some ⟨g,0,none⟩/\g<w.heap.size/\w.cell? ⟨g,i,none⟩=some (J9 ((lsL f n)[i]:Nat)):=by
  rcases h'.2 with ⟨h1,h2⟩ | ⟨g,cap,cur,h1,hb,hg,r⟩
  . omega
  . refine⟨_,_,h1,fun i hi=>⟨g,rfl,(Yr.1 hg).1,?_⟩⟩
    rw[h1]at h';rw[h'.cellAt i (by omega)];simp[ui,hi]
 cases e
 obtain⟨g,e,h3,h4⟩:=h2 i (by omega)
 rw[qjy]at h4
 exact⟨g,e,h3,h4⟩
theorem qbx {w w':World}{base n size:Nat}{e:TypeId}{v:Value}{xs:List Value}(h:w.ownsRow base e size v n xs)(hb:Below w.heap.size w w'):w'.ownsRow base e size v n xs :=
 h.kept (row:=none) ⟨hb.os,hb.tape,hb.output,hb.size,fun k hk _=>hb.block k hk⟩ (Classical.em _)
theorem qcb {w:World}{base n:Nat}{v:Value}{xs:List Value}(h:w.ownsRow base 3 1 v n xs):∃a c,v=.slice a n c:=by
 rcases h.2 with ⟨h1,h2⟩ | ⟨g,cap,cur,h1,-⟩
 . exact⟨none,0,by rw[h1,h2]⟩
 . exact⟨_,_,h1⟩
theorem qay {x n y:Nat}(hx:x<n)(hy:y<n)(hn:n<=32):x*n+y<n*n/\wrap64 ((x:Int)*(n:Int))=((x*n:Nat):Int)/\wrap64 (((x*n:Nat):Int)+((y:Nat):Int))=((x*n+y:Nat):Int)/\((x*n+y:Nat):Int)<((n*n:Nat):Int)/\((x*n+y:Nat):Int)<(n:Int)*(n:Int):=by
 rw[<- Zi n n]
 have h1:x*n+n<=n*n:=by rw[<- Zw];exact Zs _ hx
 have h2:n*n<=1024:=by have:=Ox hn hn;omega
 have h3:x*n+y<n*n:=by omega
 generalize n*n=q at *
 refine⟨h3,?_,?_,by omega,by omega⟩
 . rw[<- Zi]
   generalize x*n=z at *;exact q4h (by omega) (by omega)
 . rw[<- Int.natCast_add]
   generalize x*n=z at *;exact q4h (by omega) (by omega)
theorem q3x (m:Fm)(A:MA)(w:World)(N bot top:Int)(s n bt tp:Nat)(F:Nat->Bool)(J M:Nat->Int)(a1 a2 a3:Option Addr)(c1 c2 c3:Nat)(hv:LbA m)(hf:FitM m)(hL:ValidP N s s s F J M bot top n bt tp)(hN:m.L.length=n)(ha:MSl w m A)(hj:Ints w a2 s J) :
 Calls Tryz.prog 107 #[mV m A,.agg (Jo N a1 s c1 a2 c2 a3 c3 bot top)] w fun r w'=>∃f a0 c0,r=.returned (.slice a0 m.F.length c0)/\Sol m n (fun a b=>F (a*n+b)=true) f/\Low m n (fun a b=>F (a*n+b)=true) f/\Plc w' a0 (lsL f m.F.length)/\Below w.heap.size w w':=by
 have HL:=h_ hL;have HV:=h_ hv;have HNl:=h_ hN
 have HLat:=h_ (qjl hL)
 have HJn:=h_ fun a b (ha:a<n) (hb:b<n)=>qef hL ha hb
 obtain⟨jn,hjn⟩:∃jn:Nat->Nat->Nat,(fun a b=>(J (a*n+b)).toNat)=jn:=⟨_,rfl⟩
 rw[hjn]at HLat
 have HJe:Hi (∀a b,a<n->b<n->J (a*n+b)=((jn a b:Nat):Int)):=h_ fun a b ha hb=>by rw[<- hjn];exact HJn.u a b ha hb
 clear HJn hjn
 have HCa:=h_ fun W j k (hj:j<m.F.length) (hk:k<m.F.length) (hs:MSl W m A)=>qba m A j k W hj hk hf hs
 have hnf:=hv.nf
 have hNe:=hL.hN;have hb:=hL.hb;have hn32:=hL.h32;have hn1:=hL.h1;have hs2:=hL.l2;have hbb:=hL.bb
 subst hNe hb hs2
 clear hL hf hN
 obtain⟨al,alc,ap,apc,ar,arc,af,afc,afa⟩:=A
 unfold mV at HCa⊢
 dsimp only at HCa⊢
 have HK:=h_ ((Blk.new w 28 (Jb al m alc ap apc ar arc af afc)).alloc (.cells (Jo n a1 (n*n) c1 a2 c2 a3 c3 bt top) 35))
 have HQ:=h_ (Blk.new (w.alloc (.cells (Jb al m alc ap apc ar arc af afc) 28)) 35 (Jo n a1 (n*n) c1 a2 c2 a3 c3 bt top))
 rw[Yx]at HQ
 have HB:=h_ (((bR w.heap.size w).alloc (nR _) (.cells (Jb al m alc ap apc ar arc af afc) 28)).alloc (by simp) (.cells (Jo n a1 (n*n) c1 a2 c2 a3 c3 bt top) 35))
 obtain⟨W0,hW0⟩:=Nq ((w.alloc (.cells (Jb al m alc ap apc ar arc af afc) 28)).alloc (.cells (Jo n a1 (n*n) c1 a2 c2 a3 c3 bt top) 35))
 rw[hW0]at HK HQ HB
 have HS:=h_ (ha.mono HB.u);have HJm:=h_ (hj.mono HB.u)
 clear ha hj hv
 have HO:=h_ (qc1 W0 3)
 have HBo:=h_ ((bR W0.heap.size W0).alloc (nR _) (.cells #[] 3))
 obtain⟨W1,hW1⟩:=Nq (W0.alloc (.cells #[] 3))
 rw[hW1]at HO HBo
 obtain⟨y0,y1,y2,y3⟩:=quad HK.u
 go_enter Tryz.func107,Tryz.ntmps107
 go_wp2_with fail
 try rw[hW0]
 try rw[hW1]
 clear hW0 hW1 y0 y1 y2 y3
 go_loopw [6,7] (fun v i wr=>∃k:Nat,k<=m.F.length/\i=J9 k/\wr.ownsRow W0.heap.size 3 1 v k (ui (lsL (startL m bt) k))/\Below W0.heap.size W0 wr) (fun _ i _=>m.F.length - (intOf i).toNat)
 case atStart=>exact⟨0,nZ _,rfl,HO.u,HBo.u⟩
 case round =>
  clear HO HBo;obtain⟨k,hk,rfl,ho,hb⟩:=hrel;have HO:=h_ ho;have HBr:=h_ hb;have HKr:=mB HK hb;have HQr:=mB HQ hb;have HSr:=h_ (HS.u.mono hb);have hws:=hb.size;clear ho hb;by_cases hlt:k<m.F.length
  . have hlt':(k:Int)<m.F.length:=by omega
    have HT:=h_ (qew (startL m bt) k);obtain⟨pb,po,rfl,⟨-,-,-,z2,-⟩,-⟩:=HSr.u.f k hlt;obtain⟨y0,y1,y2,y3⟩:=quad HKr.u;have hlb:=declared HV.u hlt;have hst:(m.F[k].lb<0/\startL m bt k=bt)∨(¬ m.F[k].lb<0/\m.F[k].lb=((startL m bt k:Nat):Int)):=by
     unfold startL;rw[qif hlt];by_cases h:m.F[k].lb<0
     . exact .inl ⟨h,by rw[Yz h]⟩
     . exact .inr ⟨h,by rw[Yt h];omega⟩
    generalize startL m bt k=x at *;obtain⟨i0,hi,hz0,hz1,hz2⟩:=info_parts infoI;have q4:=HQr.u.cell 4;simp only[Yh,Yu]at q4;rcases hst with ⟨hneg,hx⟩ | ⟨hneg,hx⟩
    case' inl =>
     rw[<- hx]at q4;clear hx
    case' inr =>
     rw[hx]at z2;have hneg':¬ ((x:Nat):Int)<0:=(by omega);clear hx
    all_goals
     go_wp2_with (at_builtin;refine wpList_append_own _ rfl _ _ 30 rfl W0.heap.size 3 i0 _ 1 8 Tryz.underlying30 hi hz0 hz1 hz2 rfl (by omega) _ _ _ rfl (HO.u.alloc _) ⟨wr.heap.size,0,none⟩ 1 1 [J9 x] rfl rfl (qdh wr 3 _) (by simp[Value.oneCell']) (by unfold maxLen;omega) (by omega) (by simp;omega) ?_);intro v' w4 ho' hgr' _;have HO2:Hi (w4.ownsRow W0.heap.size 3 1 v' (k+1) (ui (lsL (startL m bt) (k+1)))):=h_ (by rw[HT.u];simpa [ui] using ho');have HB3:=h_ ((HBr.u.alloc hws (.cells #[J9 x] 3)).grown hgr' (by simp;omega) (fun q' e=>q8q HO.u e));clear ho' hgr' hi hz0 hz1 hz2 z2 y0 y1 y2 y3 q4;go_wp2_with fail;go_roundw
     case rel=>first | exact⟨k+1,by omega,by go_num,HO2.u,HB3.u⟩ | ((repeat apply Exists.intro);exact⟨⟨k+1,by omega,by go_num,HO2.u,HB3.u⟩,rfl⟩)
     case measure=>simp[intOf];omega
  . obtain rfl:k=m.F.length:=by omega
    have hlt':¬ (m.F.length:Int)<(m.F.length:Int):=(by omega);have HWs:=h_ (qd7 HLat.u HV.u HNl.u);obtain⟨p,hp⟩:=Nq (m.F.length*n);have hpi:(m.F.length:Int)*(n:Int)=(p:Int):=(by rw[<- Zi,hp]);have hpl:p<=6400:=(by rw[<- hp];exact Ox hnf hn32);have HPot:Hi (∀f,potL (fun a b=>F (a*n+b)) n m.F.length f<=p):=h_ fun f=>by rw[<- hp];exact pot_le _ _ _ f
    clear hp;obtain⟨a5,c5,e5⟩:=qcb HO.u;rw[e5]at HO;subst e5;go_wp2_with fail;go_loopw [6,8] (fun v r w3=>∃(q:Nat) (f:Nat->Nat),q<=p+1/\r=J9 q/\w3.ownsRow W0.heap.size 3 1 v m.F.length (ui (lsL f m.F.length))/\Way m n (fun a b=>F (a*n+b)=true) f/\q<=potL (fun a b=>F (a*n+b)) n m.F.length f/\Below W0.heap.size W0 w3) (fun _ r _=>p+1 - (intOf r).toNat)
    case atStart=>exact⟨0,_,nZ _,rfl,HO.u,HWs.u,nZ _,HBr.u⟩
    case round =>
     clear HO HBr HKr HQr HSr hws HWs;obtain⟨q,f,hq,rfl,ho,hway,hpot,hb⟩:=hrel;obtain⟨a5,c5,e5⟩:=qcb ho;rw[e5]at ho;subst e5;have HNow:=h_ ho;have HWay:=h_ hway;have HPq:=h_ hpot;have HBr:=h_ hb;have HQr:=mB HQ hb;have q0:=HQr.u.cell 0;simp only[Yh]at q0;have hws:=hb.size;clear ho hway hpot hb;have hqp:q<=p:=by
      have h1:=HPq.u;have h2:=HPot.u f;omega
     have hqp':(q:Int)<=p:=(by omega);have HWj:=h_ (HWay.u.jac HLat.u);have HJg:=h_ (jac_ge HLat.u HWay.u);have HO:=h_ (qc1 wr 3);have HBo:=h_ ((bR wr.heap.size wr).alloc (nR _) (.cells #[] 3));obtain⟨W3,hW3⟩:=Nq (wr.alloc (.cells #[] 3));rw[hW3]at HO HBo;obtain⟨B1,hB1⟩:=Nq wr.heap.size;go_wp2_with fail
     try rw[hW3]
     rw[hB1]at HO;clear hW3 q0;obtain⟨wz,hwz⟩:=Nq wr;rw[hwz]at HNow HBr HQr HBo hB1 hws;rw[hB1]at HBo;go_loopw [9,10,11] (fun v ch kk w3=>∃(k:Nat) (cb:Bool),k<=m.F.length/\kk=J9 k/\ch=.bool cb/\w3.ownsRow B1 3 1 v k (ui (lsL (jac m jn f) k))/\(cb=true ↔ ∃i,i<k/\jac m jn f i≠f i)/\Below B1 wz w3) (fun _ _ kk _=>m.F.length - (intOf kk).toNat)
     case atStart=>exact⟨0,false,nZ _,rfl,rfl,HO.u,⟨(fun h=>by cases h),fun⟨i,h,_⟩=>absurd h (nL _)⟩,HBo.u⟩
     case round =>
      clear HO HBo hwz;obtain⟨k,cb,hkl,rfl,rfl,ho,hcb,hb⟩:=hrel;have HNx:=h_ ho;have HCb:=h_ hcb;have HB1:=h_ hb;have HBk:Hi (Below wz.heap.size wz wr):=h_ (by rw[hB1];exact hb);have hz1:B1<=wr.heap.size:=(by have:=hb.size;omega);clear ho hcb hb;by_cases hklt:k<m.F.length
      . have hklt':(k:Int)<m.F.length:=by omega
        have HBa:=h_ (HBr.u.trans (HBk.u.mono hws));have HKr:=h_ (HK.u.mono HBa.u HK.u.lt);have HSr:=h_ (HS.u.mono HBa.u);obtain⟨pb,po,e1,⟨hpb,-,-,z2,-⟩,-⟩:=HSr.u.f k hklt;dsimp only at e1;obtain⟨y0,y1,y2,y3⟩:=quad HKr.u;rw[e1]at y3;clear e1;obtain⟨g,e2,hgl,zk⟩:=qlc (qbx HNow.u HBk.u) hklt;have hauto:(m.F[k].lb<0/\jac m jn f k=((rdO m k m.F.length).map f).foldl jn (f k))∨(¬ m.F[k].lb<0/\jac m jn f k=f k):=by
         unfold jac;rw[qif hklt];by_cases h:m.F[k].lb<0
         . exact .inl ⟨h,by rw[Yz h]⟩
         . exact .inr ⟨h,by rw[Yt h]⟩
        generalize m.F[k].lb=lb at *;rcases hauto with ⟨hneg,hjk⟩ | ⟨hneg,hjk⟩
        . subst e2
          have hfk:=HWay.u.lt k hklt;go_wp2_with fail;clear z2 y0 y1 y2 y3 zk;obtain⟨wx,hwx⟩:=Nq wr;rw[hwx]at HNx HB1 HBk HBa HKr HSr hz1 hpb hgl;go_loopw [12,13] (fun xv jv w4=>∃j:Nat,j<=m.F.length/\jv=J9 j/\xv=J9 ((((rdO m k j).map f).foldl jn (f k):Nat):Int)/\Below wx.heap.size wx w4) (fun _ jv _=>m.F.length - (intOf jv).toNat)
          case atStart=>exact⟨0,nZ _,rfl,rfl,by rw[hwx];exact bR _ _⟩
          case round =>
           clear hwx;obtain⟨j,hjl,rfl,rfl,hb⟩:=hrel;have HBx:=h_ hb;have HBb:=mT HBa hb;have HK2:=h_ (HK.u.mono HBb.u HK.u.lt);have HS2:=h_ (HS.u.mono HBb.u);have HQ2:=h_ (HQ.u.mono HBb.u HQ.u.lt);have HJ2:=h_ (HJm.u.mono HBb.u);have HR2:=h_ (qbx (qbx HNow.u HBk.u) hb);have hws4:=hb.size;clear hb;have hxl:=HLat.u.fold_lt _ _ hfk (rdO_lt HWay.u.lt k j hjl);by_cases hjlt:j<m.F.length
           . have hjlt':(j:Int)<m.F.length:=by omega
             have hfj:=HWay.u.lt j hjlt;have HSu:=h_ (qfz m k j);obtain⟨y0,y1,y2,y3⟩:=quad HK2.u;have HC2:=h_ (HCa.u wr j k hjlt hklt HS2.u);generalize hxx:((rdO m k j).map f).foldl jn (f k)=x at *;have HXX:=h_ hxx;clear hxx;go_wp2_with fail;refine HC2.u.mono ?_;rintro r W5 ⟨rfl,hb⟩;have HB5:=mT HBx hb;have HQ5:=h_ (HQ2.u.mono hb HQ2.u.lt);have HJ5:=h_ (HJ2.u.mono hb);have HR5:=h_ (qbx HR2.u hb);clear hb y0 y1 y2 y3 HC2 HK2 HS2 HQ2 HJ2 HR2;cases har:anyR m j k
             . have HXn:Hi (((rdO m k (j+1)).map f).foldl jn (f k)=x):=h_ (by rw[HSu.u,har,<- HXX.u];simp)
               clear har HSu;go_wp2_with fail;go_roundw
               case rel=>first | exact⟨j+1,by omega,by go_num,by rw[HXn.u],HB5.u⟩ | ((repeat apply Exists.intro);exact⟨⟨j+1,by omega,by go_num,by rw[HXn.u],HB5.u⟩,rfl⟩)
               case measure=>simp[intOf];omega
             . have HXn:Hi (((rdO m k (j+1)).map f).foldl jn (f k)=jn x (f j)):=h_ (by rw[HSu.u,har,<- HXX.u];simp)
               clear har HSu;obtain⟨hidx,hw1,hw2,hidx',hidx2⟩:=qay hxl hfj hn32;obtain⟨g',e2,-,zk⟩:=qlc HR5.u hjlt;cases e2;obtain⟨b2,o2,e3,-,zj⟩:=HJ5.u _ hidx;rw[HJe.u x (f j) hxl hfj]at zj;have x2:=HQ5.u.cell 2;have x0:=HQ5.u.cell 0;simp only[Yh,Yu]at x2 x0;rw[e3]at x2;clear e3;generalize jn x (f j)=u at *;generalize f j=y at *;generalize x*n+y=q1 at *;generalize x*n=q2 at *;go_wp2_with fail;refine wp_region_held_drew (S:=fun w'=>w'.cell? ⟨w.heap.size+1,2,none⟩=some (.slice (some ⟨b2,o2,none⟩) (n*n) c2)/\w'.cell? ⟨w.heap.size+1,0,none⟩=some (J9 n)/\w'.cell? ⟨g,j,none⟩=some (J9 (y:Nat))/\w'.cell? ⟨b2,o2+q1,none⟩=some (J9 (u:Nat))) (by kernel_rfl) ⟨x2,x0,zk,zj⟩ (fun zz=>?_);clear x2 x0 zk zj;refine tj 0 78 (Yc (w.heap.size+1) 2) zz ?_;refine tj 1 79 (.slice (some ⟨b2,o2,none⟩) (n*n) c2) zz ?_;refine tj 2 80 (J9 x) zz ?_;refine tj 3 81 (Yc (w.heap.size+1) 0) zz ?_;simp only[sX,sY,sZ];refine tj 4 82 (J9 n) zz ?_;refine tj 5 83 (J9 q2) zz ?_ (hy:=fun w hS=>by simp[execOp,go_sem, *];exact(IntWalk.i64_left _).trans hw1);refine tj 6 84 (.slice (some ⟨g,0,none⟩) m.F.length c5) zz ?_;refine tj 7 85 (J9 j) zz ?_;simp only[sX,sY,sZ];refine tj 8 86 (Yc g j) zz ?_;refine tj 9 87 (J9 y) zz ?_;refine tj 10 88 (J9 q1) zz ?_ (hy:=fun w hS=>by simp[execOp,go_sem, *];exact(IntWalk.i64_left _).trans hw2);refine tj 11 89 (Yc b2 (o2+q1)) zz ?_;simp only[sX,sY,sZ];refine tj 12 90 (J9 u) zz ?_;refine tj 13 12 (J9 u) zz ?_;simp only[sX,sY,sZ];refine wpAnyH_done (by kernel_rfl) ?_ _;have HB6:=h_ (HB5.u.drew);clear zz;go_wp2_with fail;go_roundw
               case rel=>first | exact⟨j+1,by omega,by go_num,by rw[HXn.u],HB6.u⟩ | ((repeat apply Exists.intro);exact⟨⟨j+1,by omega,by go_num,by rw[HXn.u],HB6.u⟩,rfl⟩)
               case measure=>simp[intOf];omega
           . obtain rfl:j=m.F.length:=by omega
             have hjlt':¬ (m.F.length:Int)<(m.F.length:Int):=(by omega);rw[<- hjk];rw[<- hjk]at hxl;replace HNx:=h_ (qbx HNx.u HBx.u);replace HB1:=h_ (HB1.u.trans (HBx.u.mono hz1));replace HBk:=h_ (HBk.u.trans (HBx.u.mono HBk.u.size));clear HBa HKr HSr HBb HK2 HS2 HQ2 HJ2 HR2 HBx hjk;obtain⟨g,e2,-,zk⟩:=qlc (qbx HNow.u HBk.u) hklt;cases e2;obtain⟨i0,hi,hz0,hz1,hz2⟩:=info_parts infoI;have hne:(jac m jn f k≠f k/\((((jac m jn f k:Nat):Int) != ((f k:Nat):Int))=true))∨(jac m jn f k=f k/\((((jac m jn f k:Nat):Int) != ((f k:Nat):Int))=false)):=by
              by_cases e:jac m jn f k=f k
              . exact .inr ⟨e,by rw[e];simp⟩
              . exact .inl ⟨e,by simp;omega⟩
             have hkb:jac m jn f k<n:=HWj.u.lt k hklt;have HT:=h_ (qew (jac m jn f) k);have hws2:=HBk.u.size;have HCg:Hi (∀c2:Bool,(c2=true ↔ ∃i,i<k+1/\jac m jn f i≠f i) ↔ (c2=(cb||decide (jac m jn f k≠f k)))):=h_ fun c2=>by
              have hcb:=HCb.u;have h:(∃i,i<k+1/\jac m jn f i≠f i) ↔ (cb||decide (jac m jn f k≠f k))=true:=by
               rw[Zu,decide_eq_true_iff,hcb];constructor
               . rintro⟨i,h1,h2⟩
                 by_cases e:i=k
                 . subst e;exact .inr h2
                 . exact .inl ⟨i,by omega,h2⟩
               . rintro (⟨i,h1,h2⟩ | h)
                 . exact⟨i,by omega,h2⟩
                 . exact⟨k,by omega,h⟩
              rw[h];cases c2 <;> cases (cb||decide (jac m jn f k≠f k)) <;> simp
             rcases hne with ⟨hne1,hne⟩ | ⟨hne1,hne⟩
             case' inl =>
              have HCn:Hi (true=true ↔ ∃i,i<k+1/\jac m jn f i≠f i):=h_ ((HCg.u true).2 (by rw[Ym hne1];simp));clear hne1 HCg
             case' inr =>
              have HCn:Hi (cb=true ↔ ∃i,i<k+1/\jac m jn f i≠f i):=h_ ((HCg.u cb).2 (by rw[Yj (not_not_intro hne1)];simp));clear hne1 HCg
             all_goals
              generalize jac m jn f k=x at *;generalize f k=y at *;go_wp2_with (at_builtin;refine wpList_append_own _ rfl _ _ 30 rfl B1 3 i0 _ 1 8 Tryz.underlying30 hi hz0 hz1 hz2 rfl (by omega) _ _ _ rfl (HNx.u.alloc _) ⟨wr.heap.size,0,none⟩ 1 1 [J9 x] rfl rfl (qdh wr 3 _) (by simp[Value.oneCell']) (by unfold maxLen;omega) (by omega) (by simp;omega) ?_);intro v' w4 ho' hgr' _;have HO2:Hi (w4.ownsRow B1 3 1 v' (k+1) (ui (lsL (jac m jn f) (k+1)))):=h_ (by rw[HT.u];simpa [ui] using ho');have HB3:=h_ ((HB1.u.alloc (by omega) (.cells #[J9 x] 3)).grown hgr' (by simp;omega) (fun q' e=>q8q HNx.u e));clear ho' hgr' hi hz0 hz1 hz2 zk hne;go_wp2_with fail;go_roundw
              case rel=>exact⟨k+1,_,by omega,by go_num,rfl,HO2.u,by first | exact HCn.u | simpa using HCn.u,HB3.u⟩
              case measure=>simp[intOf];omega
        . have HT0:=h_ (qew (jac m jn f) k)
          have HCn:Hi (cb=true ↔ ∃i,i<k+1/\jac m jn f i≠f i):=h_ (by
           rw[HCb.u];constructor
           . rintro⟨i,h1,h2⟩
             exact⟨i,by omega,h2⟩
           . rintro⟨i,h1,h2⟩
             by_cases e:i=k
             . subst e;exact absurd hjk h2
             . exact⟨i,by omega,h2⟩)
          have HT:=HT0;rw[hjk]at HT;subst e2;have hws2:=HBk.u.size;obtain⟨i0,hi,hz0,hz1',hz2⟩:=info_parts infoI;clear hjk HT0;generalize f k=y at *;go_wp2_with (at_builtin;refine wpList_append_own _ rfl _ _ 30 rfl B1 3 i0 _ 1 8 Tryz.underlying30 hi hz0 hz1' hz2 rfl (by omega) _ _ _ rfl (HNx.u.alloc _) ⟨wr.heap.size,0,none⟩ 1 1 [J9 y] rfl rfl (qdh wr 3 _) (by simp[Value.oneCell']) (by unfold maxLen;omega) (by omega) (by simp;omega) ?_);intro v' w4 ho' hgr' _;have HO2:Hi (w4.ownsRow B1 3 1 v' (k+1) (ui (lsL (jac m jn f) (k+1)))):=h_ (by rw[HT.u];simpa [ui] using ho');have HB3:=h_ ((HB1.u.alloc (by omega) (.cells #[J9 y] 3)).grown hgr' (by simp;omega) (fun q' e=>q8q HNx.u e));clear ho' hgr' hi hz0 hz1' hz2 zk z2 y0 y1 y2 y3;go_wp2_with fail;go_roundw
          case rel=>first | exact⟨k+1,cb,by omega,by go_num,rfl,HO2.u,HCn.u,HB3.u⟩ | ((repeat apply Exists.intro);exact⟨⟨k+1,cb,by omega,by go_num,rfl,HO2.u,HCn.u,HB3.u⟩,rfl⟩)
          case measure=>simp[intOf];omega
      . obtain rfl:k=m.F.length:=by omega
        have hklt':¬ (m.F.length:Int)<(m.F.length:Int):=(by omega);have HB4:Hi (Below W0.heap.size W0 wr):=h_ (HBr.u.trans (HBk.u.mono hws));cases cb
        . have he:∀i,i<m.F.length->jac m jn f i=f i:=fun i hi=>Classical.byContradiction fun h=>by have:=HCb.u.2 ⟨i,hi,h⟩;cases this
          have HSo:=h_ (qja HLat.u HWay.u he);have hO:=HNx.u;rw[qbg he]at hO;obtain⟨a6,c6,rfl,-,hp6⟩:=q64 hO;have HP6:=h_ hp6;have HLo:=h_ HWay.u.low;have HBw:=h_ (HB.u.trans (HB4.u.mono HB.u.size));clear hO hp6 he HNx;go_wp2_with fail;go_ret
          first | exact⟨f,a6,c6,rfl,HSo.u,HLo.u,HP6.u,HBw.u⟩ | exact⟨f,a6,⟨c6,rfl⟩,HSo.u,HLo.u,HP6.u,HBw.u⟩ | exact⟨f,⟨a6,⟨c6,rfl⟩,HSo.u,HLo.u,HP6.u⟩,HBw.u⟩
        . obtain⟨i,hi,hne⟩:=HCb.u.1 rfl
          have HPn:Hi (q+1<=potL (fun a b=>F (a*n+b)) n m.F.length (jac m jn f)):=h_ (by
           have h1:=pot_lt (F:=fun a b=>F (a*n+b)) HLat.u HWay.u.lt HWj.u.lt HJg.u hi (fun e=>hne e.symm);have h2:=HPq.u;omega)
          have HO6:=h_ (qbv HNx.u (show W0.heap.size<=B1 by omega));clear hne;go_wp2_with fail;go_roundw
          case rel=>first | exact⟨q+1,jac m jn f,by omega,by go_num,HO6.u,HWj.u,HPn.u,HB4.u⟩ | ((repeat apply Exists.intro);exact⟨⟨q+1,jac m jn f,by omega,by go_num,HO6.u,HWj.u,HPn.u,HB4.u⟩,rfl⟩)
          case measure=>simp[intOf];omega
end Go.Proofs.YtebbgodlijlioaaGreatDoor
