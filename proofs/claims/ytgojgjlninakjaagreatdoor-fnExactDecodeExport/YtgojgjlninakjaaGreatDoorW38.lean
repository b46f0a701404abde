import Derived.Test.YtgojgjlninakjaaGreatDoorW37
import Derived.Test.YtgojgjlninakjaaGreatDoorW33
set_option maxRecDepth 100000
set_option maxHeartbeats 64000000
namespace Go.Proofs.YtgojgjlninakjaaGreatDoor
open Go Go.RowKit
def pr1 (m:Fm)(k:Nat):Int:=(m.P.getD k (0,0)).1
def pr2 (m:Fm)(k:Nat):Int:=(m.P.getD k (0,0)).2
theorem qmz {w:World}{m:Fm}{A:MA}(h:MSl w m A):Pairs w A.p m.P.length (pr1 m) (pr2 m):=qhs h.p
theorem q6g (m:Fm)(A:MA)(w:World)(hf:FitM m) :
 Calls Tryz.prog 65 #[mV m A] w fun r w'=>r=.returned (.agg (Jp m.L.length A.p m.P.length A.pc))/\Below w.heap.size w w':=by
 obtain⟨al,alc,ap,apc,ar,arc,af,afc,afa⟩:=A
 unfold mV
 dsimp only
 have h1:=hf.ll
 have HK:=h_ ((Blk.new w 36 (Jb al m alc ap apc ar arc af afc)).alloc (.cells #[J6 0,J7] 131))
 have HR:=h_ (Blk.new (w.alloc (.cells (Jb al m alc ap apc ar arc af afc) 36)) 131 #[J6 0,J7])
 rw[Yk]at HR
 have HB:=h_ (((bR w.heap.size w).alloc (nR _) (.cells (Jb al m alc ap apc ar arc af afc) 36)).alloc (by simp) (.cells #[J6 0,J7] 131))
 obtain⟨W0,hW0⟩:=Nq ((w.alloc (.cells (Jb al m alc ap apc ar arc af afc) 36)).alloc (.cells #[J6 0,J7] 131))
 rw[hW0]at HK HR HB
 obtain⟨y0,y1,y2,y3⟩:=quad HK.u
 obtain⟨⟨r0,r1⟩,⟨f0,f1⟩⟩:=two' HR.u
 have HR9:=h_ ((HR.u.set 0 (J6 m.L.length)).set 1 (.slice ap m.P.length apc))
 simp only[Yx,Y2]at HR9
 have HB9:=h_ ((HB.u.setCell (p:=⟨w.heap.size+1,0,none⟩) (by simp) (J6 m.L.length)).setCell (p:=⟨w.heap.size+1,1,none⟩) (by simp) (.slice ap m.P.length apc))
 clear hf
 go_enter Tryz.func65,Tryz.ntmps65
 go_wp2_with fail
 try rw[hW0]
 obtain⟨k0,k1⟩:=(two' HR9.u).1
 exact bodyPost_ret (v:=.agg (Jp m.L.length ap m.P.length apc)) (by simp[results,Tryz.results65,go_sem, *]) rfl ⟨rfl,HB9.u⟩
abbrev latV (N:Int)(a1 a2 a3:Option Addr)(s1 c1 s2 c2 s3 c3:Nat)(bot top:Int):Value:=.agg #[J6 N,.slice a1 s1 c1,.slice a2 s2 c2,.slice a3 s3 c3,J6 bot,J6 top]
theorem q1g (m:Fm)(A:MA)(b:Nat)(code:Int)(w:World)(hz:ImplZ m.L.length m.P.length (pr1 m) (pr2 m) code)(hf:FitM m)(ha:MSl w m A)(ht:Tab w) :
 Calls Tryz.prog 80 #[wV m A b] w fun r w'=>r=.returned (.tuple #[zeroL,J6 code])/\Below w.heap.size w w':=by
 have HZ:=h_ hz
 have HPm:=h_ fun W (hs:MSl W m A)=>qmz hs
 have h1:=hf.ll
 obtain⟨al,alc,ap,apc,ar,arc,af,afc,afa⟩:=A
 unfold wV
 dsimp only at HPm⊢
 have HK:=h_ ((Blk.new w 102 #[.slice al m.L.length alc,.slice ap m.P.length apc,.slice ar m.R.length arc,.slice af m.F.length afc,.map (some b)]).alloc (.cells Jf 105))
 have HR:=h_ (Blk.new (w.alloc (.cells #[.slice al m.L.length alc,.slice ap m.P.length apc,.slice ar m.R.length arc,.slice af m.F.length afc,.map (some b)] 102)) 105 Jf)
 rw[Yk]at HR
 have HB:=h_ (((bR w.heap.size w).alloc (nR _) (.cells #[.slice al m.L.length alc,.slice ap m.P.length apc,.slice ar m.R.length arc,.slice af m.F.length afc,.map (some b)] 102)).alloc (by simp) (.cells Jf 105))
 obtain⟨W0,hW0⟩:=Nq ((w.alloc (.cells #[.slice al m.L.length alc,.slice ap m.P.length apc,.slice ar m.R.length arc,.slice af m.F.length afc,.map (some b)] 102)).alloc (.cells Jf 105))
 have hs0:W0.heap.size=w.heap.size+2:=by rw[<- hW0];simp
 rw[hW0]at HK HR HB
 obtain⟨y0,y1,y2,y3,y4⟩:=five HK.u
 have HC2:=h_ (HZ.u W0 ap apc (HPm.u W0 (ha.mono HB.u)) (ht.mono HB.u))
 unfold zeroL at HC2⊢
 clear hf hz ha ht
 go_enter Tryz.func80,Tryz.ntmps80
 go_wp2_with fail
 try rw[hW0]
 refine HC2.u.mono ?_
 rintro r W1 ⟨rfl,hb⟩
 rw[hs0]at hb
 replace HR:=h_ (HR.u.mono hb (by omega));replace HB:=h_ (HB.u.trans (hb.mono (by omega)))
 obtain⟨r0,r1,r2,r3,r4,r5⟩:=(six' HR.u).1
 obtain⟨f0,f1,f2,f3,f4,f5⟩:=(six' HR.u).2
 have HR9:=h_ ((((((HR.u.set 0 (J6 0)).set 1 J7).set 2 J7).set 3 J7).set 4 (J6 0)).set 5 (J6 0))
 simp only[Yx,Y2]at HR9
 have HB9:=h_ ((((((HB.u.setCell (p:=⟨w.heap.size+1,0,none⟩) (by simp) (J6 0)).setCell (p:=⟨w.heap.size+1,1,none⟩) (by simp) J7).setCell (p:=⟨w.heap.size+1,2,none⟩) (by simp) J7).setCell (p:=⟨w.heap.size+1,3,none⟩) (by simp) J7).setCell (p:=⟨w.heap.size+1,4,none⟩) (by simp) (J6 0)).setCell (p:=⟨w.heap.size+1,5,none⟩) (by simp) (J6 0))
 clear hb hW0 y0 y1 y2 y3 y4
 go_wp2_with fail
 obtain⟨k0,k1,k2,k3,k4,k5⟩:=(six' HR9.u).1
 exact bodyPost_ret (v:=.tuple #[.agg Jf,J6 code]) (by simp[results,Tryz.results80,go_sem,k0,k1,k2,k3,k4,k5]) rfl ⟨rfl,HB9.u⟩
theorem q1f (m:Fm)(A:MA)(b s:Nat)(F:Nat->Bool)(J M:Nat->Int)(bot top:Int)(w:World)(hz:ImplF m.L.length m.P.length (pr1 m) (pr2 m) s F J M bot top)(hf:FitM m)(ha:MSl w m A)(ht:Tab w) :
 Calls Tryz.prog 80 #[wV m A b] w fun r w'=>∃a1 a2 a3 c1 c2 c3,r=.returned (.tuple #[latV m.L.length a1 a2 a3 s c1 s c2 s c3 bot top,J6 0])/\Bools w' a1 s F/\Ints w' a2 s J/\Below w.heap.size w w':=by
 have HZ:=h_ hz
 have HPm:=h_ fun W (hs:MSl W m A)=>qmz hs
 have h1:=hf.ll
 obtain⟨al,alc,ap,apc,ar,arc,af,afc,afa⟩:=A
 unfold wV
 dsimp only at HPm⊢
 have HK:=h_ ((Blk.new w 102 #[.slice al m.L.length alc,.slice ap m.P.length apc,.slice ar m.R.length arc,.slice af m.F.length afc,.map (some b)]).alloc (.cells Jf 105))
 have HR:=h_ (Blk.new (w.alloc (.cells #[.slice al m.L.length alc,.slice ap m.P.length apc,.slice ar m.R.length arc,.slice af m.F.length afc,.map (some b)] 102)) 105 Jf)
 rw[Yk]at HR
 have HB:=h_ (((bR w.heap.size w).alloc (nR _) (.cells #[.slice al m.L.length alc,.slice ap m.P.length apc,.slice ar m.R.length arc,.slice af m.F.length afc,.map (some b)] 102)).alloc (by simp) (.cells Jf 105))
 obtain⟨W0,hW0⟩:=Nq ((w.alloc (.cells #[.slice al m.L.length alc,.slice ap m.P.length apc,.slice ar m.R.length arc,.slice af m.F.length afc,.map (some b)] 102)).alloc (.cells Jf 105))
 have hs0:W0.heap.size=w.heap.size+2:=by rw[<- hW0];simp
 rw[hW0]at HK HR HB
 obtain⟨y0,y1,y2,y3,y4⟩:=five HK.u
 have HC2:=h_ (HZ.u W0 ap apc (HPm.u W0 (ha.mono HB.u)) (ht.mono HB.u))
 clear hf hz ha ht
 go_enter Tryz.func80,Tryz.ntmps80
 go_wp2_with fail
 try rw[hW0]
 refine HC2.u.mono ?_
 rintro r W1 ⟨G1,G2,G3,rfl,k1,k2,-,g1,g2,-,-,-,-,hb⟩
 rw[hs0]at hb g1 g2
 replace HR:=h_ (HR.u.mono hb (by omega));replace HB:=h_ (HB.u.trans (hb.mono (by omega)))
 obtain⟨r0,r1,r2,r3,r4,r5⟩:=(six' HR.u).1
 obtain⟨f0,f1,f2,f3,f4,f5⟩:=(six' HR.u).2
 have HR9:=h_ ((((((HR.u.set 0 (J6 m.L.length)).set 1 (.slice (some ⟨G1,0,none⟩) s s)).set 2 (.slice (some ⟨G2,0,none⟩) s s)).set 3 (.slice (some ⟨G3,0,none⟩) s s)).set 4 (J6 bot)).set 5 (J6 top))
 simp only[Yx,Y2]at HR9
 have HB9:=h_ ((((((HB.u.setCell (p:=⟨w.heap.size+1,0,none⟩) (by simp) (J6 m.L.length)).setCell (p:=⟨w.heap.size+1,1,none⟩) (by simp) (.slice (some ⟨G1,0,none⟩) s s)).setCell (p:=⟨w.heap.size+1,2,none⟩) (by simp) (.slice (some ⟨G2,0,none⟩) s s)).setCell (p:=⟨w.heap.size+1,3,none⟩) (by simp) (.slice (some ⟨G3,0,none⟩) s s)).setCell (p:=⟨w.heap.size+1,4,none⟩) (by simp) (J6 bot)).setCell (p:=⟨w.heap.size+1,5,none⟩) (by simp) (J6 top))
 have keep:∀{g:Nat} {t:TypeId} {cs:List Value},Blk W1 g t cs->w.heap.size+2<=g->Blk ((((((W1.setCell ⟨w.heap.size+1,0,none⟩ (J6 m.L.length)).setCell ⟨w.heap.size+1,1,none⟩ (.slice (some ⟨G1,0,none⟩) s s)).setCell ⟨w.heap.size+1,2,none⟩ (.slice (some ⟨G2,0,none⟩) s s)).setCell ⟨w.heap.size+1,3,none⟩ (.slice (some ⟨G3,0,none⟩) s s)).setCell ⟨w.heap.size+1,4,none⟩ (J6 bot)).setCell ⟨w.heap.size+1,5,none⟩ (J6 top)) g t cs:=fun {g _ _} h hg=>by
  have hne:∀j,g≠(⟨w.heap.size+1,j,none⟩:Addr).block:=fun j=>by show g≠w.heap.size+1;omega
  exact(((((h.other _ (hne 0)).other _ (hne 1)).other _ (hne 2)).other _ (hne 3)).other _ (hne 4)).other _ (hne 5)
 have HK1:=h_ (Blk.bools (keep k1 g1));have HK2:=h_ (Blk.ints (keep k2 g2))
 clear hb hW0 y0 y1 y2 y3 y4 k1 k2 g1 g2 keep
 go_wp2_with fail
 obtain⟨k0,k1,k2,k3,k4,k5⟩:=(six' HR9.u).1
 exact bodyPost_ret (v:=.tuple #[latV m.L.length (some ⟨G1,0,none⟩) (some ⟨G2,0,none⟩) (some ⟨G3,0,none⟩) s s s s s s bot top,J6 0]) (by simp[results,Tryz.results80,go_sem,k0,k1,k2,k3,k4,k5]) rfl ⟨_,_,_,_,_,_,rfl,HK1.u,HK2.u,HB9.u⟩
def DownI (m:Fm)(n:Nat)(F:Nat->Bool)(jn:Nat->Nat->Nat)(bt:Nat)(f:Nat->Nat)(k:Nat):Prop:=0<=(fAt m k).lb/\F (rdV m jn bt f k*n+f k)=false
def DownS (m:Fm)(n:Nat)(F:Nat->Bool)(f:Nat->Nat)(k:Nat):Prop:=0<=(fAt m k).lb/\∃j,j<m.F.length/\anyR m j k=true/\F (f j*n+f k)=false
theorem qfz {m:Fm}{n:Nat}{F:Nat->Bool}{jn:Nat->Nat->Nat}{bt:Nat}{f:Nat->Nat}(hv:VfA m)(L:LatP n (fun a b=>F (a*n+b)=true) jn bt)(hfl:∀k,k<m.F.length->f k<n){k:Nat}(hk:k<m.F.length):DownI m n F jn bt f k ↔ DownS m n F f k:=by
 obtain⟨hx,hr⟩:=rdV_lt L hv hfl hk
 unfold DownI DownS
 refine⟨fun⟨h0,h⟩=>⟨h0,Classical.byContradiction fun hno=>?_⟩,fun⟨h0,j,hj,ha,h⟩=>⟨h0,?_⟩⟩
 . have:F (rdV m jn bt f k*n+f k)=true:=L.fold_le _ _ _ L.bl (hfl k hk) (fun x hxm=>⟨hx x hxm,by
    obtain⟨j,hj,rfl⟩:=Y3.1 hxm;have hjn:=rdA_lt hv hk j hj;show F (f j*n+f k)=true;cases e:F (f j*n+f k)
    . exact absurd ⟨j,hjn,(qmf hv hjn hk).1 hj,e⟩ hno
    . rfl⟩) (L.bot _ (hfl k hk))
   rw[h]at this;cases this
 . cases e:F (rdV m jn bt f k*n+f k)
   . rfl
   . have h1:F (f j*n+rdV m jn bt f k)=true:=(L.fold_ge _ _ L.bl hx).2 (f j) (Y3.2 ⟨j,(qmf hv hj hk).2 ha,rfl⟩)
     have h2:F (f j*n+f k)=true:=L.trans _ _ _ (hfl j hj) hr (hfl k hk) h1 e;rw[h]at h2;cases h2
theorem qbn {w w':World}{p:Addr}{v:Value}(hb:Below w.heap.size w w')(h:w.cell? p=some v):w'.cell? p=some v:=(hb.cell (World.block_lt_of_cell? _ _ h)).trans h
theorem q0x (m:Fm)(A:MA)(b n bt c5 base:Nat)(f:Nat->Nat)(F:Nat->Bool)(jn:Nat->Nat->Nat)(J:Nat->Int)(a1 a2 a3 a5:Option Addr)(c1 c2 c3:Nat)(top:Int)(w:World)(hv:VfA m)(hf:FitM m)(hL:LatP n (fun a b=>F (a*n+b)=true) jn bt)(hn:n<=32)(hJ:∀a b,a<n->b<n->J (a*n+b)=((jn a b:Nat):Int))(hsol:Sol m n (fun a b=>F (a*n+b)=true) f)(ha:MSl w m A)(hm:PMap w b (fNames m))(hO:Bools w a1 (n*n) F)(hI:Ints w a2 (n*n) J)(hR:w.ownsRow base 3 1 (.slice a5 m.F.length c5) m.F.length (ui (lsL f m.F.length))) :
 Calls Tryz.prog 84 #[wV m A b,.agg (Ji n a1 (n*n) c1 a2 c2 a3 c3 (bt:Int) top),.slice a5 m.F.length c5] w fun r w'=>∃z,r=.returned (J6 z)/\Fst (DownI m n F jn bt f) m.F.length z/\Below w.heap.size w w':=by
 have HSol:=h_ hsol
 have HRl:=h_ fun k hk=>(rdV_lt hL hv hsol.lt (k:=k) hk).2
 have HCr:=h_ fun (W:World) (k:Nat) (hk:k<m.F.length) (hs:MSl W m A) (hp:PMap W b (fNames m)) (hi:Ints W a2 (n*n) J) hR=>q2r m A b k n bt c5 base f _ jn J a1 a2 a3 a5 c1 c2 c3 top W hv hf hL hn hJ hsol.lt hk hs hp hi hR
 have HS:=h_ ha;have HM:=h_ hm;have HI:=h_ hI;have HO:=h_ hO;have HR:=h_ hR
 have hnf:=hv.nf
 obtain⟨al,alc,ap,apc,ar,arc,af,afc,afa⟩:=A
 unfold wV at HCr⊢
 dsimp only at HCr⊢
 clear ha hm hI hv hf hL hJ hO hR hsol
 have HK:=h_ ((Blk.new w 102 #[.slice al m.L.length alc,.slice ap m.P.length apc,.slice ar m.R.length arc,.slice af m.F.length afc,.map (some b)]).alloc (.cells (Ji n a1 (n*n) c1 a2 c2 a3 c3 (bt:Int) top) 105))
 have HQ:=h_ (Blk.new (w.alloc (.cells #[.slice al m.L.length alc,.slice ap m.P.length apc,.slice ar m.R.length arc,.slice af m.F.length afc,.map (some b)] 102)) 105 (Ji n a1 (n*n) c1 a2 c2 a3 c3 (bt:Int) top))
 rw[Yk]at HQ
 have HB:=h_ (((bR w.heap.size w).alloc (nR _) (.cells #[.slice al m.L.length alc,.slice ap m.P.length apc,.slice ar m.R.length arc,.slice af m.F.length afc,.map (some b)] 102)).alloc (by simp) (.cells (Ji n a1 (n*n) c1 a2 c2 a3 c3 (bt:Int) top) 105))
 obtain⟨W0,hW0⟩:=Nq ((w.alloc (.cells #[.slice al m.L.length alc,.slice ap m.P.length apc,.slice ar m.R.length arc,.slice af m.F.length afc,.map (some b)] 102)).alloc (.cells (Ji n a1 (n*n) c1 a2 c2 a3 c3 (bt:Int) top) 105))
 have hs0:W0.heap.size=w.heap.size+2:=by rw[<- hW0];simp
 rw[hW0]at HK HQ HB
 obtain⟨y0,y1,y2,y3,y4⟩:=five HK.u
 go_enter Tryz.func84,Tryz.ntmps84
 go_wp2_with fail
 try rw[hW0]
 clear y0 y1 y2 y3 y4 hW0
 go_loopw [13] (fun iv w3=>∃k:Nat,k<=m.F.length/\iv=J6 k/\(∀j,j<k->¬ DownI m n F jn bt f j)/\Below W0.heap.size W0 w3) (fun iv _=>m.F.length - (intOf iv).toNat)
 case atStart=>exact⟨0,nZ _,rfl,(fun j h=>absurd h (nL _)),bR _ _⟩
 case round =>
  obtain⟨k,hk,rfl,hno,hb⟩:=hrel;have HN:=h_ hno;have HBz:=h_ hb;have HBw:=mT HB hb;have hzr:W0.heap.size<=wr.heap.size:=hb.size;have HKr:=h_ (HK.u.mono hb (by omega));have HQr:=h_ (HQ.u.mono hb (by omega));clear hno hb;by_cases hlt:k<m.F.length
  . have hlt':(k:Int)<m.F.length:=by omega
    have HSr:=h_ (HS.u.mono HBw.u);have HMr:=h_ (HM.u.mono HBw.u);have HIr:=h_ (HI.u.mono HBw.u);have HOr:=h_ (HO.u.mono HBw.u);have HRr:=h_ (qdv HR.u HBw.u);obtain⟨pb,po,e1,⟨-,z0,z1,z2,z3,z4,z5,z6,z7,z8⟩,-⟩:=HSr.u.f k hlt;dsimp only at e1 z3 z4 z5 z6 z8;subst e1;have HFk:Hi (fAt m k=m.F[k]):=h_ (qku hlt);generalize m.F[k]=u at *;generalize afa k=fa at *;obtain⟨ub,ubc,ui',uic,uh,uhc,uv,uvc,uu,uuc⟩:=fa;dsimp only at z3 z4 z5 z6 z8;have HKf:=h_ (Blk.new wr 88 (Ja u ub ubc ui' uic uh uhc uv uvc uu uuc));have hba:=(bR wr.heap.size wr).alloc (nR _) (.cells (Ja u ub ubc ui' uic uh uhc uv uvc uu uuc) 88);obtain⟨Wd,hWd⟩:=Nq (wr.alloc (.cells (Ja u ub ubc ui' uic uh uhc uv uvc uu uuc) 88));rw[hWd]at HKf hba;have HBd:=h_ (HBz.u.trans (hba.mono (by omega)));have HBwd:=mT HBw hba;have HKd:=mB HKr hba;have HQd:=mB HQr hba;have HSd:=h_ (HSr.u.mono hba);have HMd:=h_ (HMr.u.mono hba);have HId:=h_ (HIr.u.mono hba);have HOd:=h_ (HOr.u.mono hba);have HRd:=h_ (qdv HRr.u hba);have hzd:wr.heap.size<=Wd.heap.size:=hba.size;clear hba;obtain⟨y0,y1,y2,y3,y4⟩:=five HKr.u;go_wp2_with fail
    try rw[hWd]
    obtain⟨X,hX⟩:=Nq wr.heap.size;rw[hX]at HKf
    try rw[hX]
    clear hWd y0 y1 y2 y3 y4 z0 z1 z2 z3 z4 z5 z6 z7 z8;have x2:=HKf.u.cell 2;simp only[Yg,Y6]at x2;by_cases hneg:u.lb<0
    . have HN2:Hi (∀j,j<k+1->¬ DownI m n F jn bt f j):=h_ fun j hj=>by
       by_cases e:j=k
       . subst e;rintro⟨h,-⟩;rw[HFk.u]at h;omega
       . exact HN.u j (by omega)
      have hge:decide ((0:Int)<=u.lb)=false:=Yb (by omega);refine wp_region_held_drew (S:=fun w'=>w'.cell? ⟨X,2,none⟩=some (J6 u.lb)) (by kernel_rfl) x2 (fun zz=>?_);refine tj 0 18 (J9 X 2) zz ?_;refine tj 1 19 (J6 u.lb) zz ?_;refine tj 2 20 (.bool false) zz ?_;refine tj 3 21 (.bool false) zz ?_;simp only[sX,sY,sZ];refine tn 4 22 zz ?_;refine tn 5 23 zz ?_;refine tn 6 24 zz ?_;refine tn 7 25 zz ?_;simp only[sX,sY,sZ];refine tn 8 26 zz ?_;refine tn 9 27 zz ?_;refine tn 10 28 zz ?_;refine tn 11 29 zz ?_;simp only[sX,sY,sZ];refine tn 12 30 zz ?_;refine tn 13 31 zz ?_;refine tn 14 32 zz ?_;refine tn 15 33 zz ?_;simp only[sX,sY,sZ];refine tn 16 34 zz ?_;refine tn 17 35 zz ?_;refine tn 18 36 zz ?_;refine tn 19 37 zz ?_;simp only[sX,sY,sZ];refine tj 20 38 (.bool false) zz ?_;simp only[sX,sY,sZ];refine wpAnyH_done (by kernel_rfl) ?_ _;have HBe:=h_ (HBd.u.drew);clear zz x2 hge hneg;go_wp2_with fail;go_roundw
      case rel=>first | exact⟨k+1,by omega,by go_num,HN2.u,HBe.u⟩ | ((repeat apply Exists.intro);exact⟨⟨k+1,by omega,by go_num,HN2.u,HBe.u⟩,rfl⟩)
      case measure=>simp[intOf];omega
    . have hlb:u.lb=((f k:Nat):Int):=by have:=HSol.u.decl k hlt (by rw[HFk.u];omega);rw[HFk.u]at this;exact this.symm
      have hfk:=HSol.u.lt k hlt;have hvl:=HRl.u k hlt;have HDn:Hi (DownI m n F jn bt f k ↔ F (rdV m jn bt f k*n+f k)=false):=h_ ⟨fun h=>h.2,fun h=>⟨by rw[HFk.u];omega,h⟩⟩;have HC2:=h_ (HCr.u Wd.drew k hlt (HSd.u.mono ((bR _ _).drew)) (HMd.u.mono ((bR _ _).drew)) (HId.u.mono ((bR _ _).drew)) (qdv HRd.u ((bR _ _).drew)));generalize rdV m jn bt f k=v at *;obtain⟨hidx,hw1,hw2,hidx',hidx2⟩:=qcu hvl hfk hn;obtain⟨b2,o2,e3,-,zj⟩:=HOd.u _ hidx;rw[hlb]at x2;clear hneg hlb;subst e3;generalize hfk0:f k=fk at *;clear hfk0;generalize F (v*n+fk)=vb at *;generalize v*n+fk=q1 at *;generalize v*n=q2 at *;have x3:=x2;refine wp_region_held_drew (S:=fun w'=>Blk w' w.heap.size 102 [.slice al m.L.length alc,.slice ap m.P.length apc,.slice ar m.R.length arc,.slice (some ⟨pb,po,none⟩) m.F.length afc,.map (some b)]/\Blk w' (w.heap.size+1) 105 [J6 n,.slice (some ⟨b2,o2,none⟩) (n*n) c1,.slice a2 (n*n) c2,.slice a3 (n*n) c3,J6 (bt:Int),J6 top]/\w'.cell? ⟨X,2,none⟩=some (J6 (fk:Nat))/\w'.cell? ⟨b2,o2+q1,none⟩=some (.bool vb)) (by kernel_rfl) ⟨HKd.u,HQd.u,x2,zj⟩ (fun zz=>?_);clear x2;refine tj 0 18 (J9 X 2) zz ?_;refine tj 1 19 (J6 fk) zz ?_ (hy:=fun w hS=>by have q0:=hS.2.2.1;simp[execOp,go_sem,q0]);refine tj 2 20 (.bool true) zz ?_ (hy:=fun w hS=>by simp[execOp,go_sem]);refine tj 3 21 (.bool true) zz ?_;simp only[sX,sY,sZ];refine tj 4 22 (J9 (w.heap.size+1) 1) zz ?_;refine tj 5 23 (.slice (some ⟨b2,o2,none⟩) (n*n) c1) zz ?_ (hy:=fun w hS=>by have q1:=hS.2.1.cell 1;simp only[Yg,Y6]at q1;simp[execOp,go_sem,q1]);refine tj 6 24 (.agg #[.slice al m.L.length alc,.slice ap m.P.length apc,.slice ar m.R.length arc,.slice (some ⟨pb,po,none⟩) m.F.length afc,.map (some b)]) zz ?_ (hy:=fun w hS=>by obtain⟨q0,q1,q2,q3,q4⟩:=five hS.1;simp[execOp,go_sem,q0,q1,q2,q3,q4]);refine tj 7 25 (J6 k) zz ?_;simp only[sX,sY,sZ];refine tj 8 26 (.agg (Ji n (some ⟨b2,o2,none⟩) (n*n) c1 a2 c2 a3 c3 (bt:Int) top)) zz ?_ (hy:=fun w hS=>by obtain⟨q0,q1,q2,q3,q4,q5⟩:=(six' hS.2.1).1;simp[execOp,go_sem,q0,q1,q2,q3,q4,q5]);refine tj 9 27 (.slice a5 m.F.length c5) zz ?_;refine tj 11 29 (J9 (w.heap.size+1) 0) zz ?_;refine tj 12 30 (J6 n) zz ?_ (hy:=fun w hS=>by have q1:=hS.2.1.cell 0;simp only[Yg]at q1;simp[execOp,go_sem,q1]);simp only[sX,sY,sZ];refine tj 14 32 (J9 X 2) zz ?_;refine tj 15 33 (J6 fk) zz ?_ (hy:=fun w hS=>by have q0:=hS.2.2.1;simp[execOp,go_sem,q0]);simp only[sX,sY,sZ];refine callY (i:=10) (f:=121) (args:=#[.agg #[.slice al m.L.length alc,.slice ap m.P.length apc,.slice ar m.R.length arc,.slice (some ⟨pb,po,none⟩) m.F.length afc,.map (some b)],J6 k,.agg (Ji n (some ⟨b2,o2,none⟩) (n*n) c1 a2 c2 a3 c3 (bt:Int) top),.slice a5 m.F.length c5]) (R:=fun v' wz=>v'=J6 (v:Nat)/\Below Wd.heap.size Wd wz) 28 rfl rfl (by rfl) (by kernel_rfl) ?hrun10 (HC2.u.mono fun e w6 ⟨he,hb⟩=>⟨_,he,rfl,q29 hb⟩) ?_
      case hrun10=>simp[execOp,go_sem]
      rintro v' W3 ⟨rfl,hb⟩;replace zz:Blk W3 w.heap.size 102 [.slice al m.L.length alc,.slice ap m.P.length apc,.slice ar m.R.length arc,.slice (some ⟨pb,po,none⟩) m.F.length afc,.map (some b)]/\Blk W3 (w.heap.size+1) 105 [J6 n,.slice (some ⟨b2,o2,none⟩) (n*n) c1,.slice a2 (n*n) c2,.slice a3 (n*n) c3,J6 (bt:Int),J6 top]/\W3.cell? ⟨X,2,none⟩=some (J6 (fk:Nat))/\W3.cell? ⟨b2,o2+q1,none⟩=some (.bool vb):=⟨HKd.u.mono hb HKd.u.lt,HQd.u.mono hb HQd.u.lt,qbn hb x3,qbn hb zj⟩;have HB3:=h_ (HBd.u.trans (hb.mono (by omega)));have HBw3:=mT HBwd hb;clear hb HC2 x3 zj;refine⟨zz,?_⟩;simp only[sX,sY,sZ];refine tj 13 31 (J6 q2) zz ?_ (hy:=fun w hS=>by simp[execOp,go_sem];exact(IntWalk.i64_left _).trans hw1);refine tj 16 34 (J6 q1) zz ?_ (hy:=fun w hS=>by simp[execOp,go_sem];exact(IntWalk.i64_left _).trans hw2);refine tj 17 35 (J9 b2 (o2+q1)) zz ?_;refine tj 18 36 (.bool vb) zz ?_ (hy:=fun w hS=>by have q0:=hS.2.2.2;simp[execOp,go_sem,q0]);simp only[sX,sY,sZ];refine tj 19 37 (.bool (!vb)) zz ?_;refine tj 20 38 (.bool (!vb)) zz ?_;simp only[sX,sY,sZ];refine wpAnyH_done (by kernel_rfl) ?_ _;clear zz;cases vb
      . have HF:Hi (Fst (DownI m n F jn bt f) m.F.length (k:Int)):=h_ (.inr ⟨k,hlt,rfl,HDn.u.2 rfl,HN.u⟩)
        go_wp2_with fail;go_ret
        first | exact⟨_,rfl,HF.u,HBw3.u⟩ | exact⟨HF.u,HBw3.u⟩
      . have HN2:Hi (∀j,j<k+1->¬ DownI m n F jn bt f j):=h_ fun j hj=>by
         by_cases e:j=k
         . subst e;intro h;have:=HDn.u.1 h;cases this
         . exact HN.u j (by omega)
        go_wp2_with fail;go_roundw
        case rel=>first | exact⟨k+1,by omega,by go_num,HN2.u,HB3.u⟩ | ((repeat apply Exists.intro);exact⟨⟨k+1,by omega,by go_num,HN2.u,HB3.u⟩,rfl⟩)
        case measure=>simp[intOf];omega
  . obtain rfl:k=m.F.length:=by omega
    have hlt':¬ (m.F.length:Int)<(m.F.length:Int):=(by omega);have HF:Hi (Fst (DownI m n F jn bt f) m.F.length (-1)):=h_ (.inl ⟨rfl,HN.u⟩);go_wp2_with fail;go_ret
    first | exact⟨_,rfl,HF.u,HBw.u⟩ | exact⟨HF.u,HBw.u⟩
end Go.Proofs.YtgojgjlninakjaaGreatDoor
