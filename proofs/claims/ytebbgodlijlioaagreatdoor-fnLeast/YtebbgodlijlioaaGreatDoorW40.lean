import Derived.Test.YtebbgodlijlioaaGreatDoorW38
import Derived.Test.YtebbgodlijlioaaGreatDoorW37
set_option maxRecDepth 100000
set_option maxHeartbeats 64000000
namespace Go.Proofs.YtebbgodlijlioaaGreatDoor
open Go Go.RowKit
theorem q61 {m:Fm}(hv:VfA m)(bt:Nat){k:Nat}(hk:k<m.F.length):(m.F[k].lb<0/\startL m bt k=bt)∨(¬ m.F[k].lb<0/\m.F[k].lb=((startL m bt k:Nat):Int)):=by
 have:=declared hv.lba hk
 unfold startL
 rw[qge hk]
 by_cases h:m.F[k].lb<0
 . exact .inl ⟨h,by rw[Yy h]⟩
 . exact .inr ⟨h,by rw[Yu h];omega⟩
theorem q0p (m:Fm)(A:MA)(b bt:Nat)(w:World)(hv:VfA m)(ha:MSl w m A) :
 Calls Tryz.prog 48 #[wV m A b,J9 (bt:Nat)] w fun r w'=>∃v,r=.returned v/\w'.ownsRow w.heap.size 3 1 v m.F.length (ui (lsL (startL m bt) m.F.length))/\Below w.heap.size w w':=by
 have HV:=h_ hv;have HA:=h_ ha
 have hnf:=hv.nf
 obtain⟨al,alc,ap,apc,ar,arc,af,afc,afa⟩:=A
 unfold wV
 dsimp only
 have HK:=h_ (Blk.new w 56 #[.slice al m.L.length alc,.slice ap m.P.length apc,.slice ar m.R.length arc,.slice af m.F.length afc,.map (some b)])
 have HB:=h_ ((bR w.heap.size w).alloc (nR _) (.cells #[.slice al m.L.length alc,.slice ap m.P.length apc,.slice ar m.R.length arc,.slice af m.F.length afc,.map (some b)] 56))
 obtain⟨W0,hW0⟩:=Nq (w.alloc (.cells #[.slice al m.L.length alc,.slice ap m.P.length apc,.slice ar m.R.length arc,.slice af m.F.length afc,.map (some b)] 56))
 have hsz:W0.heap.size=w.heap.size+1:=by rw[<- hW0];simp
 rw[hW0]at HK HB
 have HO:Hi (W0.ownsRow (w.heap.size+1) 3 1 Ya 0 []):=h_ (World.ownsRow_nil _ _ _ _)
 clear ha hv
 obtain⟨y0,y1,y2,y3,y4⟩:=five HK.u
 go_enter Tryz.func48,Tryz.ntmps48
 go_wp2_with fail
 try rw[hW0]
 clear hW0 y0 y1 y2 y3 y4
 go_loopw [5,12] (fun v i wr=>∃k:Nat,k<=m.F.length/\i=J9 k/\wr.ownsRow (w.heap.size+1) 3 1 v k (ui (lsL (startL m bt) k))/\Below (w.heap.size+1) W0 wr) (fun _ i _=>m.F.length - (intOf i).toNat)
 case atStart=>exact⟨0,nZ _,rfl,HO.u,bR _ _⟩
 case round =>
  clear HO;obtain⟨k,hk,rfl,hO,hb⟩:=hrel;have hbw:=HB.u.trans (hb.mono (by omega));have hws:=hb.size;have HAr:=h_ (HA.u.mono hbw);have HBr:=h_ hb;have HBw:=h_ hbw;have HO:=h_ hO;clear hb hbw hO;by_cases hlt:k<m.F.length
  . have hlt':(k:Int)<m.F.length:=by omega
    obtain⟨pb,po,e1,⟨-,z0,z1,z2,z3,z4,z5,z6,z7,z8⟩,-⟩:=HAr.u.f k hlt;dsimp only at e1 z3 z4 z5 z6 z8;subst e1;have HT:=h_ (qdd (startL m bt) k);have hst:=q61 HV.u bt hlt;generalize startL m bt k=x at *;generalize m.F[k]=u at *;generalize afa k=fa at *;obtain⟨ub,ubc,ui',uic,uh,uhc,uv,uvc,uu,uuc⟩:=fa;dsimp only at z3 z4 z5 z6 z8;have HKf:=h_ (Blk.new wr 42 (Ja u ub ubc ui' uic uh uhc uv uvc uu uuc));have HBf:=h_ (HBr.u.alloc (by omega) (.cells (Ja u ub ubc ui' uic uh uhc uv uvc uu uuc) 42));have HO1:=h_ (HO.u.alloc (.cells (Ja u ub ubc ui' uic uh uhc uv uvc uu uuc) 42));obtain⟨Wd,hWd⟩:=Nq (wr.alloc (.cells (Ja u ub ubc ui' uic uh uhc uv uvc uu uuc) 42));have hdz:wr.heap.size+1<=Wd.heap.size:=(by rw[<- hWd];simp);rw[hWd]at HKf HBf HO1;obtain⟨x0,x1,x2,x3,x4,x5,x6,x7,x8⟩:=nine HKf.u;obtain⟨i0,hi,hz0,hz1,hz2⟩:=info_parts infoI;rcases hst with ⟨hneg,hx⟩ | ⟨hneg,hx⟩
    . rw[hx]at HT
      clear hx;go_wp2_with (at_builtin;refine wpList_append_own _ rfl _ _ 30 rfl (w.heap.size+1) 3 i0 _ 1 8 Tryz.underlying30 hi hz0 hz1 hz2 rfl (by omega) _ _ _ rfl (HO1.u.alloc _) ⟨Wd.heap.size,0,none⟩ 1 1 [J9 bt] rfl rfl (qc6 Wd 3 _) (by simp[Value.oneCell']) (by unfold maxLen;omega) (by omega) (by simp;omega) ?_);intro v' w3 ho' hgr' _;have HO2:Hi (w3.ownsRow (w.heap.size+1) 3 1 v' (k+1) (ui (lsL (startL m bt) (k+1)))):=h_ (by rw[HT.u];simpa [ui] using ho');have HB2:=h_ ((HBf.u.alloc (by omega) (.cells #[J9 bt] 3)).grown hgr' (by simp;omega) (fun q' e=>q87 HO1.u e));clear ho' hgr' hi hz0 hz1 hz2;go_wp2_with fail;go_roundw
      case rel=>first | exact⟨k+1,by omega,by go_num,HO2.u,HB2.u⟩ | ((repeat apply Exists.intro);exact⟨⟨k+1,by omega,by go_num,HO2.u,HB2.u⟩,rfl⟩)
      case measure=>simp[intOf];omega
    . rw[hx]at x2
      have hneg':¬ ((x:Nat):Int)<0:=(by omega);clear hx hneg;go_wp2_with (at_builtin;refine wpList_append_own _ rfl _ _ 30 rfl (w.heap.size+1) 3 i0 _ 1 8 Tryz.underlying30 hi hz0 hz1 hz2 rfl (by omega) _ _ _ rfl (HO1.u.alloc _) ⟨Wd.heap.size,0,none⟩ 1 1 [J9 x] rfl rfl (qc6 Wd 3 _) (by simp[Value.oneCell']) (by unfold maxLen;omega) (by omega) (by simp;omega) ?_);intro v' w3 ho' hgr' _;have HO2:Hi (w3.ownsRow (w.heap.size+1) 3 1 v' (k+1) (ui (lsL (startL m bt) (k+1)))):=h_ (by rw[HT.u];simpa [ui] using ho');have HB2:=h_ ((HBf.u.alloc (by omega) (.cells #[J9 x] 3)).grown hgr' (by simp;omega) (fun q' e=>q87 HO1.u e));clear ho' hgr' hi hz0 hz1 hz2;go_wp2_with fail;go_roundw
      case rel=>first | exact⟨k+1,by omega,by go_num,HO2.u,HB2.u⟩ | ((repeat apply Exists.intro);exact⟨⟨k+1,by omega,by go_num,HO2.u,HB2.u⟩,rfl⟩)
      case measure=>simp[intOf];omega
  . obtain rfl:k=m.F.length:=by omega
    have hlt':¬ (m.F.length:Int)<(m.F.length:Int):=(by omega);go_wp2_with fail;go_ret;exact⟨_,rfl,qao HO.u (by omega),HBw.u⟩
theorem qhz (f:Nat->Nat)(n k v:Nat):(ui (lsL f n)).set k (J9 (v:Nat))=ui (lsL (up f k v) n):=by
 unfold ui lsL
 rw[List.map_map,List.map_map]
 exact map_up (fun u:Nat=>J9 ((u:Nat):Int)) f n k v
theorem qk1 (f:Nat->Nat)(k:Nat):up f k (f k)=f:=by
 funext i
 unfold up
 split
 . rename_i h;rw[h]
 . rfl
def adB:Option Addr->Nat
 | some x=>x.block
 | none=>0
def potW (F:Nat->Nat->Bool)(N n:Nat)(g:Nat)(w:World):Nat:=potL F N n fun k=>(intOf ((w.cell? ⟨g,k,none⟩).getD undef)).toNat
theorem qiq {F:Nat->Nat->Bool}{N n base c:Nat}{a:Option Addr}{f:Nat->Nat}{w:World}(h:w.ownsRow base 3 1 (.slice a n c) n (ui (lsL f n))):potW F N n (adB a) w=potL F N n f:=by
 unfold potW potL
 congr 1
 refine Vd fun k hk=>?_
 obtain⟨g,rfl,-,z⟩:=qj6 h (Zb.1 hk)
 dsimp only[adB]
 rw[z]
 show rkL F N (((f k:Nat):Int).toNat)=_
 rw[Int.toNat_natCast]
def bN:Value->Nat
 | .bool true=>1
 | _=>0
theorem q0u (m:Fm)(A:MA)(b n bt:Nat)(F:Nat->Nat->Bool)(jn:Nat->Nat->Nat)(J:Nat->Int)(a1 a2 a3:Option Addr)(c1 c2 c3:Nat)(top:Int)(w:World)(hv:VfA m)(hf:FitM m)(hL:LatP n (fun a b=>F a b=true) jn bt)(hN:m.L.length=n)(hn:n<=32)(hJ:∀a b,a<n->b<n->J (a*n+b)=((jn a b:Nat):Int))(ha:MSl w m A)(hm:PMap w b (fNames m))(hI:Ints w a2 (n*n) J) :
 Calls Tryz.prog 22 #[wV m A b,.agg (Jj n a1 (n*n) c1 a2 c2 a3 c3 (bt:Int) top)] w fun r w'=>∃v f,r=.returned v/\w'.ownsRow w.heap.size 3 1 v m.F.length (ui (lsL f m.F.length))/\Sol m n (fun a b=>F a b=true) f/\Low m n (fun a b=>F a b=true) f/\Below w.heap.size w w':=by
 have HV:=h_ hv;have HLat:=h_ hL
 have HCl:=h_ fun (W:World) (hs:MSl W m A)=>q0p m A b bt W hv hs
 have HCr:=h_ fun (W:World) (k c5 base:Nat) (f:Nat->Nat) (a5:Option Addr) (hfl:∀k,k<m.F.length->f k<n) (hk:k<m.F.length) (hs:MSl W m A) (hp:PMap W b (fNames m)) (hi:Ints W a2 (n*n) J) hR=>q2o m A b k n bt c5 base f _ jn J a1 a2 a3 a5 c1 c2 c3 top W hv hf hL hn hJ hfl hk hs hp hi hR
 have HWs:=h_ (qbw hL hv.lba hN);have HAs:=h_ (q8w hL hv hN)
 have HS:=h_ ha;have HM:=h_ hm;have HI:=h_ hI
 have hnf:=hv.nf
 obtain⟨al,alc,ap,apc,ar,arc,af,afc,afa⟩:=A
 unfold wV at HCl HCr⊢
 dsimp only at HCl HCr⊢
 clear ha hm hI hv hf hL hN hJ
 have HK:=h_ ((Blk.new w 56 #[.slice al m.L.length alc,.slice ap m.P.length apc,.slice ar m.R.length arc,.slice af m.F.length afc,.map (some b)]).alloc (.cells (Jj n a1 (n*n) c1 a2 c2 a3 c3 (bt:Int) top) 35))
 have HQ:=h_ (Blk.new (w.alloc (.cells #[.slice al m.L.length alc,.slice ap m.P.length apc,.slice ar m.R.length arc,.slice af m.F.length afc,.map (some b)] 56)) 35 (Jj n a1 (n*n) c1 a2 c2 a3 c3 (bt:Int) top))
 rw[Yv]at HQ
 have HB:=h_ (((bR w.heap.size w).alloc (nR _) (.cells #[.slice al m.L.length alc,.slice ap m.P.length apc,.slice ar m.R.length arc,.slice af m.F.length afc,.map (some b)] 56)).alloc (by simp) (.cells (Jj n a1 (n*n) c1 a2 c2 a3 c3 (bt:Int) top) 35))
 obtain⟨W0,hW0⟩:=Nq ((w.alloc (.cells #[.slice al m.L.length alc,.slice ap m.P.length apc,.slice ar m.R.length arc,.slice af m.F.length afc,.map (some b)] 56)).alloc (.cells (Jj n a1 (n*n) c1 a2 c2 a3 c3 (bt:Int) top) 35))
 have hs0:W0.heap.size=w.heap.size+2:=by rw[<- hW0];simp
 rw[hW0]at HK HQ HB
 obtain⟨y0,y1,y2,y3,y4⟩:=five HK.u
 have q4:=HQ.u.cell 4
 simp only[Yh,Yo]at q4
 go_enter Tryz.func22,Tryz.ntmps22
 go_wp2_with fail
 try rw[hW0]
 refine(HCl.u W0 (HS.u.mono HB.u)).mono ?_
 rintro r W1 ⟨v,rfl,ho,hb1⟩
 rw[hs0]at ho hb1
 replace HK:=h_ (HK.u.mono hb1 (by omega));replace HQ:=h_ (HQ.u.mono hb1 (by omega));replace HB:=h_ (HB.u.trans (hb1.mono (by omega)))
 have hs1:w.heap.size+2<=W1.heap.size:=by have:=hb1.size;omega
 obtain⟨a5,c5,e5⟩:=qb5 ho
 rw[e5]at ho
 subst e5
 have HO:=h_ ho
 clear ho hb1 hW0 y0 y1 y2 y3 y4 q4 HCl
 go_wp2_with fail
 go_loopw [6] (fun rs wr=>∃(rb:Bool) (f:Nat->Nat),rs=.bool rb/\wr.ownsRow (w.heap.size+2) 3 1 (.slice a5 m.F.length c5) m.F.length (ui (lsL f m.F.length))/\Way m n (fun a b=>F a b=true) f/\Asc m (fun a b=>F a b=true) jn bt f/\(rb=false->Sol m n (fun a b=>F a b=true) f)/\Below (w.heap.size+2) W1 wr) (fun rs wr=>2*(m.F.length*n - potW F n m.F.length (adB a5) wr)+bN rs)
 case atStart=>exact⟨true,_,rfl,HO.u,HWs.u,HAs.u,(fun h=>by cases h),bR _ _⟩
 case round =>
  clear HO HWs HAs;obtain⟨rb,f,rfl,ho,hway,hasc,hsol,hb⟩:=hrel;have HO:=h_ ho;have HWay:=h_ hway;have HAsc:=h_ hasc;have HBr:=h_ hb;have HP0:=h_ (qiq (F:=F) (N:=n) ho);clear ho hway hasc hb;cases rb
  . have HSol:=h_ (hsol rfl);have HLow:=h_ HWay.u.low
    have HBw:=h_ (HB.u.trans (HBr.u.mono (by omega)));have HOo:=h_ (qao HO.u (show w.heap.size<=w.heap.size+2 by omega));clear hsol;go_wp2_with fail;go_ret
    first | exact⟨_,f,rfl,HOo.u,HSol.u,HLow.u,HBw.u⟩ | exact⟨_,rfl,f,HOo.u,HSol.u,HLow.u,HBw.u⟩
  . have HKr:=h_ (HK.u.mono HBr.u (by omega))
    obtain⟨y0,y1,y2,y3,y4⟩:=five HKr.u;obtain⟨P0,hP0⟩:=Nq (potL F n m.F.length f);have HPz:=h_ hP0;rw[hP0]at HP0;clear hsol hP0;go_wp2_with fail;clear y0 y1 y2 y3 y4;go_loopw [6,19] (fun rs iv w3=>∃(k:Nat) (rb:Bool) (h:Nat->Nat),k<=m.F.length/\rs=.bool rb/\iv=J9 k/\w3.ownsRow (w.heap.size+2) 3 1 (.slice a5 m.F.length c5) m.F.length (ui (lsL h m.F.length))/\Way m n (fun a b=>F a b=true) h/\Asc m (fun a b=>F a b=true) jn bt h/\P0<=potL F n m.F.length h/\(rb=true->P0+1<=potL F n m.F.length h)/\(rb=false->∀k',k'<k->(fAt m k').lb<0->rdV m jn bt h k'=h k')/\Below (w.heap.size+2) W1 w3) (fun _ iv _=>m.F.length - (intOf iv).toNat)
    case atStart=>exact⟨0,false,f,nZ _,rfl,rfl,HO.u,HWay.u,HAsc.u,by rw[HPz.u];exact nR _,(fun h=>by cases h),(fun _ k' h=>absurd h (nL _)),HBr.u⟩
    case round =>
     clear HO HWay HAsc HBr HPz HKr;obtain⟨k,rb,h,hk,rfl,rfl,ho,hway,hasc,hp1,hp2,hcl,hb⟩:=hrel;have HO:=h_ ho;have HWay:=h_ hway;have HAsc:=h_ hasc;have HP1:=h_ hp1;have HP2:=h_ hp2;have HCl:=h_ hcl;have HBr:=h_ hb;have HBw:=h_ (HB.u.trans (hb.mono (by omega)));have hzr:W1.heap.size<=wr.heap.size:=hb.size;clear ho hway hasc hp1 hp2 hcl hb;by_cases hlt:k<m.F.length
     . have hlt':(k:Int)<m.F.length:=by omega
       have HKr:=h_ (HK.u.mono HBr.u (by omega));have HQr:=h_ (HQ.u.mono HBr.u (by omega));have HSr:=h_ (HS.u.mono HBw.u);have HMr:=h_ (HM.u.mono HBw.u);have HIr:=h_ (HI.u.mono HBw.u);obtain⟨pb,po,e1,⟨-,z0,z1,z2,z3,z4,z5,z6,z7,z8⟩,-⟩:=HSr.u.f k hlt;dsimp only at e1 z3 z4 z5 z6 z8;subst e1;have HFk:Hi (fAt m k=m.F[k]):=h_ (qge hlt);generalize m.F[k]=u at *;generalize afa k=fa at *;obtain⟨ub,ubc,ui',uic,uh,uhc,uv,uvc,uu,uuc⟩:=fa;dsimp only at z3 z4 z5 z6 z8;have HKf:=h_ (Blk.new wr 42 (Ja u ub ubc ui' uic uh uhc uv uvc uu uuc));have hba:=(bR wr.heap.size wr).alloc (nR _) (.cells (Ja u ub ubc ui' uic uh uhc uv uvc uu uuc) 42);obtain⟨Wd,hWd⟩:=Nq (wr.alloc (.cells (Ja u ub ubc ui' uic uh uhc uv uvc uu uuc) 42));rw[hWd]at HKf hba;have HBd:=h_ (HBr.u.trans (hba.mono (by omega)));have HKd:=mB HKr hba;have HQd:=mB HQr hba;have HSd:=h_ (HSr.u.mono hba);have HMd:=h_ (HMr.u.mono hba);have HId:=h_ (HIr.u.mono hba);have HOd:=h_ (qaq HO.u hba);have hzd:wr.heap.size<=Wd.heap.size:=hba.size;clear hba;obtain⟨x0,x1,x2,x3,x4,x5,x6,x7,x8⟩:=nine HKf.u;by_cases hneg:u.lb<0
       . have hneg':¬ (0:Int)<=u.lb:=by omega
         have HAu:Hi ((fAt m k).lb<0):=h_ (by rw[HFk.u];exact hneg);have HC2:=h_ (HCr.u Wd k c5 (w.heap.size+2) h a5 HWay.u.lt hlt HSd.u HMd.u HId.u HOd.u);obtain⟨hg1,hg2,hg3⟩:=qgo HLat.u HV.u HWay.u HAsc.u hlt HAu.u;have HG1:=h_ hg1;have HG2:=h_ hg2;have HG3:=h_ hg3;have hvl:=(rdV_lt HLat.u HV.u HWay.u.lt hlt).2;have HPm:=h_ (qe2 (F:=F) HLat.u HWay.u.lt hg1.lt hg3);have HPl:Hi (h k≠rdV m jn bt h k->potL F n m.F.length h<potL F n m.F.length (up h k (rdV m jn bt h k))):=h_ fun hne=>pot_lt (F:=F) HLat.u HWay.u.lt hg1.lt hg3 hlt (by rw[up_at];exact hne);have hhl:=HWay.u.lt k hlt;obtain⟨y0,y1,y2,y3,y4⟩:=five HKd.u;have q0:=HQd.u.cell 0;have q1:=HQd.u.cell 1;have q2:=HQd.u.cell 2;have q3:=HQd.u.cell 3;have q4:=HQd.u.cell 4;have q5:=HQd.u.cell 5;simp only[Yh,Yo]at q0 q1 q2 q3 q4 q5;clear hg1 hg2 hg3;go_wp2_with fail
         try rw[hWd]
         refine HC2.u.mono ?_;rintro r W2 ⟨rfl,hb2⟩;have HO2:=h_ (qaq HOd.u hb2);have HB2:=h_ (HBd.u.trans (hb2.mono (by omega)));clear hb2 hWd HC2 x0 x1 x2 x3 x4 x5 x6 x7 x8 y0 y1 y2 y3 y4 q0 q1 q2 q3 q4 q5 z0 z1 z2 z3 z4 z5 z6 z7 z8;obtain⟨g,e5,hgl,zk⟩:=qj6 HO2.u hlt;obtain⟨g',e6,hgb,-⟩:=qdp HO2.u hlt;rw[e5]at e6;cases e6;have HO3:=h_ (by have h1:=HO2.u;rw[e5]at h1;exact h1:Hi (W2.ownsRow (w.heap.size+2) 3 1 (.slice (some ⟨g,0,none⟩) m.F.length c5) m.F.length (ui (lsL h m.F.length))));have fk:=(u_ HO3.u).frozenAt k;have HO4:Hi ((W2.setCell ⟨g,k,none⟩ (J9 (rdV m jn bt h k:Nat))).ownsRow (w.heap.size+2) 3 1 (.slice a5 m.F.length c5) m.F.length (ui (lsL (up h k (rdV m jn bt h k)) m.F.length))):=h_ (by
          have h1:=((u_ HO3.u).stored k (J9 (rdV m jn bt h k:Nat))).1;rw[qhz]at h1;rw[e5];exact h1)
         have HB4:=h_ (HB2.u.setCell (p:=⟨g,k,none⟩) hgb (J9 (rdV m jn bt h k:Nat)));have hmul:n*n<=1024:=(by have:=Vn hn hn;omega);have HE5:=h_ e5;have HP1n:Hi (P0<=potL F n m.F.length (up h k (rdV m jn bt h k))):=h_ (Ys HP1.u HPm.u);clear HO3 HE5 hmul;have HCk:Hi (rb=false->rdV m jn bt h k=h k->∀k',k'<k+1->(fAt m k').lb<0->rdV m jn bt (up h k (rdV m jn bt h k)) k'=up h k (rdV m jn bt h k) k'):=h_ fun e e2 k' hk' ha'=>by
          rw[e2,qk1];by_cases ek:k'=k
          . subst ek;exact e2
          . exact HCl.u e k' (by omega) ha'
         subst e5;generalize rdV m jn bt h k=vv at *;cases rb
         . by_cases hq:vv=h k
           . have hqb:(((vv:Nat):Int) != ((h k:Nat):Int))=false:=by rw[hq];simp
             have HCn:=h_ (HCk.u rfl hq);clear hq HCk;generalize h k=hk' at zk hqb;go_wp2_with fail;go_roundw
             case rel=>first | exact⟨k+1,false,_,by omega,rfl,by go_num,HO4.u,HG1.u,HG2.u,HP1n.u,(fun h=>by cases h),(fun _=>HCn.u),HB4.u⟩ | ((repeat apply Exists.intro);exact⟨⟨k+1,false,_,by omega,rfl,by go_num,HO4.u,HG1.u,HG2.u,HP1n.u,(fun h=>by cases h),(fun _=>HCn.u),HB4.u⟩,rfl⟩)
             case measure=>simp[intOf];omega
           . have hqb:(((vv:Nat):Int) != ((h k:Nat):Int))=true:=by simp;omega
             have HP2n:Hi (P0+1<=potL F n m.F.length (up h k vv)):=h_ (by have h1:=HPl.u (fun e=>hq e.symm);have h2:=HP1.u;omega);clear hq HCk;generalize h k=hk' at zk hqb;go_wp2_with fail;go_roundw
             case rel=>first | exact⟨k+1,true,_,by omega,rfl,by go_num,HO4.u,HG1.u,HG2.u,HP1n.u,(fun _=>HP2n.u),(fun h=>by cases h),HB4.u⟩ | ((repeat apply Exists.intro);exact⟨⟨k+1,true,_,by omega,rfl,by go_num,HO4.u,HG1.u,HG2.u,HP1n.u,(fun _=>HP2n.u),(fun h=>by cases h),HB4.u⟩,rfl⟩)
             case measure=>simp[intOf];omega
         . have HP2n:Hi (P0+1<=potL F n m.F.length (up h k vv)):=h_ (Ys (HP2.u rfl) HPm.u)
           clear HCk;generalize h k=hk' at zk;go_wp2_with fail;go_roundw
           case rel=>first | exact⟨k+1,true,_,by omega,rfl,by go_num,HO4.u,HG1.u,HG2.u,HP1n.u,(fun _=>HP2n.u),(fun h=>by cases h),HB4.u⟩ | ((repeat apply Exists.intro);exact⟨⟨k+1,true,_,by omega,rfl,by go_num,HO4.u,HG1.u,HG2.u,HP1n.u,(fun _=>HP2n.u),(fun h=>by cases h),HB4.u⟩,rfl⟩)
           case measure=>simp[intOf];omega
       . have hneg':(0:Int)<=u.lb:=by omega
         have HC2:Hi (rb=false->∀k',k'<k+1->(fAt m k').lb<0->rdV m jn bt h k'=h k'):=h_ fun e k' hk' ha'=>by
          by_cases ek:k'=k
          . subst ek;rw[HFk.u]at ha';exact absurd ha' hneg
          . exact HCl.u e k' (by omega) ha'
         go_wp2_with fail
         try rw[hWd]
         clear hWd;go_roundw
         case rel=>first | exact⟨k+1,rb,h,by omega,rfl,by go_num,HOd.u,HWay.u,HAsc.u,HP1.u,HP2.u,HC2.u,HBd.u⟩ | ((repeat apply Exists.intro);exact⟨⟨k+1,rb,h,by omega,rfl,by go_num,HOd.u,HWay.u,HAsc.u,HP1.u,HP2.u,HC2.u,HBd.u⟩,rfl⟩)
         case measure=>simp[intOf];omega
     . obtain rfl:k=m.F.length:=by omega
       have hlt':¬ (m.F.length:Int)<(m.F.length:Int):=(by omega);have HPn:=h_ (qiq (F:=F) (N:=n) HO.u);have hpl:=pot_le F n m.F.length h;have HSn:Hi (rb=false->Sol m n (fun a b=>F a b=true) h):=h_ fun e=>gs_sol HLat.u HV.u HWay.u (HCl.u e);go_wp2_with fail;go_roundw
       case rel=>first | exact⟨rb,h,rfl,HO.u,HWay.u,HAsc.u,HSn.u,HBr.u⟩ | ((repeat apply Exists.intro);exact⟨⟨rb,h,rfl,HO.u,HWay.u,HAsc.u,HSn.u,HBr.u⟩,rfl⟩)
       case measure =>
        have e1:=HPn.u;have e2:=HP0.u;have e3:=HP1.u;have e4:=HP2.u;generalize potL F n m.F.length h=ph at *;generalize m.F.length*n=X at *
        first | rw[e1,e2] | (simp only[] ;rw[e1,e2])
        cases rb
        . show 2*(X - ph)+0<2*(X - P0)+1
          omega
        . have:=e4 rfl
          show 2*(X - ph)+1<2*(X - P0)+1;omega
end Go.Proofs.YtebbgodlijlioaaGreatDoor
