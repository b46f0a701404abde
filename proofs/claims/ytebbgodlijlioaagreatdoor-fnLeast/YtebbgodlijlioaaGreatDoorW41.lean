import Derived.Test.YtebbgodlijlioaaGreatDoorW40
import Derived.Test.YtebbgodlijlioaaGreatDoorW28
set_option maxRecDepth 100000
set_option maxHeartbeats 64000000
namespace Go.Proofs.YtebbgodlijlioaaGreatDoor
open Go Go.RowKit
def pr1 (m:Fm)(k:Nat):Int:=(m.P.getD k (0,0)).1
def pr2 (m:Fm)(k:Nat):Int:=(m.P.getD k (0,0)).2
theorem qik {w:World}{m:Fm}{A:MA}(h:MSl w m A):Pairs w A.p m.P.length (pr1 m) (pr2 m):=qdx h.p
theorem q5c (m:Fm)(A:MA)(w:World)(hf:FitM m) :
 Calls Tryz.prog 106 #[mV m A] w fun r w'=>r=.returned (.agg (Jn m.L.length A.p m.P.length A.pc))/\Below w.heap.size w w':=by
 obtain⟨al,alc,ap,apc,ar,arc,af,afc,afa⟩:=A
 unfold mV
 dsimp only
 have h1:=hf.ll
 have HK:=h_ ((Blk.new w 28 (Jb al m alc ap apc ar arc af afc)).alloc (.cells J4 39))
 have HR:=h_ (Blk.new (w.alloc (.cells (Jb al m alc ap apc ar arc af afc) 28)) 39 J4)
 rw[Yv]at HR
 have HB:=h_ (((bR w.heap.size w).alloc (nR _) (.cells (Jb al m alc ap apc ar arc af afc) 28)).alloc (by simp) (.cells J4 39))
 obtain⟨W0,hW0⟩:=Nq ((w.alloc (.cells (Jb al m alc ap apc ar arc af afc) 28)).alloc (.cells J4 39))
 rw[hW0]at HK HR HB
 obtain⟨y0,y1,y2,y3⟩:=quad HK.u
 obtain⟨⟨r0,r1⟩,⟨f0,f1⟩⟩:=two' HR.u
 have HR9:=h_ ((HR.u.set 0 (J9 m.L.length)).set 1 (.slice ap m.P.length apc))
 simp only[Yd,Ye]at HR9
 have HB9:=h_ ((HB.u.setCell (p:=⟨w.heap.size+1,0,none⟩) (by simp) (J9 m.L.length)).setCell (p:=⟨w.heap.size+1,1,none⟩) (by simp) (.slice ap m.P.length apc))
 clear hf
 go_enter Tryz.func106,Tryz.ntmps106
 go_wp2_with fail
 try rw[hW0]
 obtain⟨k0,k1⟩:=(two' HR9.u).1
 exact bodyPost_ret (v:=.agg (Jn m.L.length ap m.P.length apc)) (by simp[results,Tryz.results106,go_sem, *]) rfl ⟨rfl,HB9.u⟩
theorem q60 (m:Fm)(A:MA)(w:World)(hV:∀W,MSl W m A->Calls Tryz.prog 7 #[mV m A] W fun r w'=>r=.returned (.bool (vfB m))/\Below W.heap.size W w')(hz:vfB m=true->∃code,code≠0/\SpecZ m.L.length m.P.length (pr1 m) (pr2 m) code)(hf:FitM m)(ha:MSl w m A) :
 Calls Tryz.prog 75 #[mV m A] w fun r w'=>∃a0 c0,r=.returned (.slice a0 0 c0)/\Below w.heap.size w w':=by
 have HCo:=h_ fun W=>q5c m A W hf
 have HV:=h_ hV;have HZ:=h_ hz
 have HPm:=h_ fun W (hs:MSl W m A)=>qik hs
 obtain⟨al,alc,ap,apc,ar,arc,af,afc,afa⟩:=A
 unfold mV at HV HCo⊢
 dsimp only at HV HCo HPm⊢
 have HK:=h_ (Blk.new w 28 (Jb al m alc ap apc ar arc af afc))
 have HB:=h_ ((bR w.heap.size w).alloc (nR _) (.cells (Jb al m alc ap apc ar arc af afc) 28))
 obtain⟨W0,hW0⟩:=Nq (w.alloc (.cells (Jb al m alc ap apc ar arc af afc) 28))
 rw[hW0]at HK HB
 have HS:=h_ (ha.mono HB.u)
 clear ha hf hV hz
 obtain⟨y0,y1,y2,y3⟩:=quad HK.u
 go_enter Tryz.func75,Tryz.ntmps75
 go_wp2_with fail
 try rw[hW0]
 refine(HV.u W0 HS.u).mono ?_
 rintro r W1 ⟨rfl,hb⟩
 replace HK:=mB HK hb;replace HS:=h_ (HS.u.mono hb);replace HB:=mT HB hb
 clear hb hW0 y0 y1 y2 y3
 obtain⟨y0,y1,y2,y3⟩:=quad HK.u
 cases hq:vfB m
 . have HB2:=h_ (HB.u.alloc HB.u.size (.cells #[] 3))
   clear hq;go_wp2_with fail;go_ret
   first | exact⟨_,⟨_,rfl⟩,HB2.u⟩ | exact⟨_,_,rfl,HB2.u⟩
 . obtain⟨code,hc0,hz⟩:=HZ.u hq
   have HZz:=h_ hz;have hc0':(code != 0)=true:=by simpa using hc0
   clear hq hz hc0 HZ;go_wp2_with fail;refine(HCo.u W1).mono ?_;rintro r W2 ⟨rfl,hb⟩;replace HS:=h_ (HS.u.mono hb);replace HB:=mT HB hb;have HC2:=h_ (HZz.u W2 ap apc (HPm.u W2 HS.u));unfold zeroL at HC2;clear hb y0 y1 y2 y3;go_wp2_with fail;refine HC2.u.mono ?_;rintro r W3 ⟨rfl,hb⟩;replace HB:=mT HB hb;have HB3:=h_ ((HB.u.alloc HB.u.size (.cells Jd 35)).alloc (by simp;have:=HB.u.size;omega) (.cells #[] 3));clear hb;go_wp2_with fail;go_ret
   first | exact⟨_,⟨_,rfl⟩,HB3.u⟩ | exact⟨_,_,rfl,HB3.u⟩
theorem q5z (m:Fm)(A:MA)(w:World)(bot top:Int)(s n bt tp:Nat)(F:Nat->Bool)(J M:Nat->Int)(hV:∀W,MSl W m A->Calls Tryz.prog 7 #[mV m A] W fun r w'=>r=.returned (.bool (vfB m))/\Below W.heap.size W w')(hq:vfB m=true)(hv:VfA m)(hz:SpecF m.L.length m.P.length (pr1 m) (pr2 m) s F J M bot top)(hL:ValidP m.L.length s s s F J M bot top n bt tp)(hf:FitM m)(ha:MSl w m A) :
 Calls Tryz.prog 75 #[mV m A] w fun r w'=>∃f a0 c0,r=.returned (.slice a0 m.F.length c0)/\Sol m n (fun a b=>F (a*n+b)=true) f/\Low m n (fun a b=>F (a*n+b)=true) f/\Plc w' a0 (lsL f m.F.length)/\Below w.heap.size w w':=by
 have HCo:=h_ fun W=>q5c m A W hf
 have HV:=h_ hV;have HZz:=h_ hz
 have HPm:=h_ fun W (hs:MSl W m A)=>qik hs
 have hN:m.L.length=n:=by have:=hL.hN;omega
 have HCl:=h_ fun W (a1 a2 a3:Option Addr) (c1 c2 c3:Nat) (hs:MSl W m A) (hj:Ints W a2 s J)=>q3w m A W m.L.length bot top s n bt tp F J M a1 a2 a3 c1 c2 c3 hv.lba hf hL hN hs hj
 obtain⟨al,alc,ap,apc,ar,arc,af,afc,afa⟩:=A
 unfold mV at HV HCo HCl⊢
 dsimp only at HV HCo HPm HCl⊢
 have HK:=h_ (Blk.new w 28 (Jb al m alc ap apc ar arc af afc))
 have HB:=h_ ((bR w.heap.size w).alloc (nR _) (.cells (Jb al m alc ap apc ar arc af afc) 28))
 obtain⟨W0,hW0⟩:=Nq (w.alloc (.cells (Jb al m alc ap apc ar arc af afc) 28))
 rw[hW0]at HK HB
 have HS:=h_ (ha.mono HB.u)
 clear ha hf hV hz hL hv hN
 obtain⟨y0,y1,y2,y3⟩:=quad HK.u
 go_enter Tryz.func75,Tryz.ntmps75
 go_wp2_with fail
 try rw[hW0]
 refine(HV.u W0 HS.u).mono ?_
 rintro r W1 ⟨rfl,hb⟩
 replace HK:=mB HK hb;replace HS:=h_ (HS.u.mono hb);replace HB:=mT HB hb
 clear hb hW0 y0 y1 y2 y3
 obtain⟨y0,y1,y2,y3⟩:=quad HK.u
 rw[hq]
 clear hq
 go_wp2_with fail
 refine(HCo.u W1).mono ?_
 rintro r W2 ⟨rfl,hb⟩
 replace HK:=mB HK hb;replace HS:=h_ (HS.u.mono hb);replace HB:=mT HB hb
 have HC2:=h_ (HZz.u W2 ap apc (HPm.u W2 HS.u))
 clear hb y0 y1 y2 y3
 go_wp2_with fail
 refine HC2.u.mono ?_
 rintro r W3 ⟨a1,a2,a3,c1,c2,c3,rfl,-,hj,-,hb⟩
 replace HK:=mB HK hb;replace HS:=h_ (HS.u.mono hb);replace HB:=mT HB hb
 have HX:=h_ (Blk.new W3 35 (Jj m.L.length a1 s c1 a2 c2 a3 c3 bot top))
 have hba:=(bR W3.heap.size W3).alloc (nR _) (.cells (Jj m.L.length a1 s c1 a2 c2 a3 c3 bot top) 35)
 obtain⟨W4,hW4⟩:=Nq (W3.alloc (.cells (Jj m.L.length a1 s c1 a2 c2 a3 c3 bot top) 35))
 rw[hW4]at HX hba
 replace HK:=mB HK hba;replace HS:=h_ (HS.u.mono hba);replace HB:=mT HB hba
 have HC3:=h_ (HCl.u W4 a1 a2 a3 c1 c2 c3 HS.u (hj.mono hba))
 obtain⟨⟨x0,x1,x2,x3,x4,x5⟩,-⟩:=six' HX.u
 obtain⟨y0,y1,y2,y3⟩:=quad HK.u
 clear hb hba hj HCl HC2
 go_wp2_with fail
 try rw[hW4]
 refine HC3.u.mono ?_
 rintro r W5 ⟨f,a0,c0,rfl,h1,h2,h3,hb⟩
 replace HB:=mT HB hb
 have H1:=h_ h1;have H2:=h_ h2;have H3:=h_ h3
 clear hb hW4 h1 h2 h3 x0 x1 x2 x3 x4 x5 y0 y1 y2 y3
 go_wp2_with fail
 go_ret
 first | exact⟨f,a0,c0,rfl,H1.u,H2.u,H3.u,HB.u⟩ | exact⟨f,a0,⟨c0,rfl⟩,H1.u,H2.u,H3.u,HB.u⟩ | exact⟨f,⟨a0,⟨c0,rfl⟩,H1.u,H2.u,H3.u⟩,HB.u⟩
def DownS (m:Fm)(n:Nat)(F:Nat->Bool)(f:Nat->Nat)(k:Nat):Prop:=0<=(fAt m k).lb/\∃j,j<m.F.length/\anyR m j k=true/\F (f j*n+f k)=false
theorem q97 {w w':World}{p:Addr}{v:Value}(hb:Below w.heap.size w w')(h:w.cell? p=some v):w'.cell? p=some v:=(hb.cell (World.block_lt_of_cell? _ _ h)).trans h
def NoDown (m:Fm)(n:Nat)(F:Nat->Bool)(f:Nat->Nat)(k j:Nat):Prop:=∀i,i<j->anyR m i k=true->F (f i*n+f k)=true
theorem q5n {m:Fm}{n:Nat}{F:Nat->Bool}{f:Nat->Nat}{k:Nat}(h:NoDown m n F f k m.F.length):¬ DownS m n F f k:=by
 rintro⟨-,j,hj,ha,hF⟩
 have:=h j hj ha
 rw[hF]at this
 cases this
theorem q2l (m:Fm)(A:MA)(w:World)(bot top:Int)(s n bt tp:Nat)(F:Nat->Bool)(J M:Nat->Int)(hv:LbA m)(hz:SpecF m.L.length m.P.length (pr1 m) (pr2 m) s F J M bot top)(hL:ValidP m.L.length s s s F J M bot top n bt tp)(hf:FitM m)(ha:MSl w m A) :
 Calls Tryz.prog 74 #[mV m A] w fun r w'=>∃z f,r=.returned (J9 z)/\Sol m n (fun a b=>F (a*n+b)=true) f/\Low m n (fun a b=>F (a*n+b)=true) f/\Fst (DownS m n F f) m.F.length z/\Below w.heap.size w w':=by
 have HCo:=h_ fun W=>q5c m A W hf
 have HZz:=h_ hz
 have HPm:=h_ fun W (hs:MSl W m A)=>qik hs
 have hN:m.L.length=n:=by have:=hL.hN;omega
 have HCl:=h_ fun W (a1 a2 a3:Option Addr) (c1 c2 c3:Nat) (hs:MSl W m A) (hj:Ints W a2 s J)=>q3w m A W m.L.length bot top s n bt tp F J M a1 a2 a3 c1 c2 c3 hv hf hL hN hs hj
 have HCa:=h_ fun W j k (hj:j<m.F.length) (hk:k<m.F.length) (hs:MSl W m A)=>qa9 m A j k W hj hk hf hs
 have hn:=hL.h32
 have e1:=hL.l1
 have e2:=hL.hb
 subst e1
 subst e2
 have hnf:=hv.nf
 obtain⟨al,alc,ap,apc,ar,arc,af,afc,afa⟩:=A
 unfold mV at HCo HCl HCa⊢
 dsimp only at HCo HPm HCl HCa⊢
 rw[hN]at HCo HCl HCa HZz
 try rw[hN]
 have HK:=h_ (Blk.new w 28 #[.slice al n alc,.slice ap m.P.length apc,.slice ar m.R.length arc,.slice af m.F.length afc])
 have HB:=h_ ((bR w.heap.size w).alloc (nR _) (.cells #[.slice al n alc,.slice ap m.P.length apc,.slice ar m.R.length arc,.slice af m.F.length afc] 28))
 obtain⟨W0,hW0⟩:=Nq (w.alloc (.cells #[.slice al n alc,.slice ap m.P.length apc,.slice ar m.R.length arc,.slice af m.F.length afc] 28))
 rw[hW0]at HK HB
 have HS:=h_ (ha.mono HB.u)
 clear ha hf hz hL hv hN
 obtain⟨y0,y1,y2,y3⟩:=quad HK.u
 go_enter Tryz.func74,Tryz.ntmps74
 go_wp2_with fail
 try rw[hW0]
 refine(HCo.u W0).mono ?_
 rintro r W2 ⟨rfl,hb⟩
 replace HK:=mB HK hb;replace HS:=h_ (HS.u.mono hb);replace HB:=mT HB hb
 have HC2:=h_ (HZz.u W2 ap apc (HPm.u W2 HS.u))
 clear hb hW0 y0 y1 y2 y3
 go_wp2_with fail
 refine HC2.u.mono ?_
 rintro r W3 ⟨a1,a2,a3,c1,c2,c3,rfl,ho,hj,-,hb⟩
 replace HK:=mB HK hb;replace HS:=h_ (HS.u.mono hb);replace HB:=mT HB hb
 have HX:=h_ (Blk.new W3 35 (Jj n a1 (n*n) c1 a2 c2 a3 c3 (bt:Int) top))
 have hba:=(bR W3.heap.size W3).alloc (nR _) (.cells (Jj n a1 (n*n) c1 a2 c2 a3 c3 (bt:Int) top) 35)
 obtain⟨W4,hW4⟩:=Nq (W3.alloc (.cells (Jj n a1 (n*n) c1 a2 c2 a3 c3 (bt:Int) top) 35))
 rw[hW4]at HX hba
 replace HK:=mB HK hba;replace HS:=h_ (HS.u.mono hba);replace HB:=mT HB hba
 have HO:=h_ (ho.mono hba)
 have HC3:=h_ (HCl.u W4 a1 a2 a3 c1 c2 c3 HS.u (hj.mono hba))
 obtain⟨X,hX⟩:=Nq W3.heap.size
 rw[hX]at HX
 obtain⟨⟨x0,x1,x2,x3,x4,x5⟩,-⟩:=six' HX.u
 obtain⟨y0,y1,y2,y3⟩:=quad HK.u
 clear hb hba hj ho HCl HC2
 go_wp2_with fail
 try rw[hX]
 try rw[hW4]
 refine HC3.u.mono ?_
 rintro r W5 ⟨f,a0,c0,rfl,h1,h2,h3,hb⟩
 replace HB:=mT HB hb;replace HK:=mB HK hb;replace HX:=mB HX hb;replace HS:=h_ (HS.u.mono hb);replace HO:=h_ (HO.u.mono hb)
 have H1:=h_ h1;have H2:=h_ h2;have H3:=h_ h3
 clear hb hW4 h1 h2 h3 x0 x1 x2 x3 x4 x5 y0 y1 y2 y3 HC3 hX
 go_wp2_with fail
 go_loopw [6] (fun kv wr=>∃k:Nat,k<=m.F.length/\kv=J9 k/\(∀j,j<k->¬ DownS m n F f j)/\Below W5.heap.size W5 wr) (fun kv _=>m.F.length - (intOf kv).toNat)
 case atStart=>exact⟨0,nZ _,rfl,(fun j h=>absurd h (nL _)),bR _ _⟩
 case round =>
  obtain⟨k,hk,rfl,hno,hb⟩:=hrel;have HN:=h_ hno;have HBz:=h_ hb;have HBw:=mT HB hb;have HKr:=mB HK hb;have HSr:=h_ (HS.u.mono hb);have hzr:W5.heap.size<=wr.heap.size:=hb.size;clear hno hb;by_cases hlt:k<m.F.length
  . have hlt':(k:Int)<m.F.length:=by omega
    obtain⟨pb,po,e1,⟨hpb,-,-,z2,-⟩,-⟩:=HSr.u.f k hlt;dsimp only at e1;subst e1;obtain⟨y0,y1,y2,y3⟩:=quad HKr.u;have HFk:Hi ((fAt m k).lb=m.F[k].lb):=h_ (by rw[qge hlt]);generalize m.F[k].lb=lb at *;by_cases hneg:lb<0
    . have hge:¬ (0:Int)<=lb:=by omega
      have HN2:Hi (∀j,j<k+1->¬ DownS m n F f j):=h_ fun j hj=>by
       by_cases e:j=k
       . subst e;rintro⟨h,-⟩;rw[HFk.u]at h;omega
       . exact HN.u j (by omega)
      go_wp2_with fail;go_roundw
      case rel=>first | exact⟨k+1,by omega,by go_num,HN2.u,HBz.u⟩ | ((repeat apply Exists.intro);exact⟨⟨k+1,by omega,by go_num,HN2.u,HBz.u⟩,rfl⟩)
      case measure=>simp[intOf];omega
    . have hge:(0:Int)<=lb:=by omega
      have hlb:lb=((f k:Nat):Int):=(by have:=H1.u.decl k hlt (by rw[HFk.u];omega);rw[HFk.u]at this;exact this.symm);have HGe:Hi (0<=(fAt m k).lb):=h_ (by rw[HFk.u];exact hge);have hfk:=H1.u.lt k hlt;go_wp2_with fail;rw[hlb]at z2;obtain⟨wx,hwx⟩:=Nq wr;rw[hwx]at z2 HBz HBw HKr HSr hzr hpb;clear y0 y1 y2 y3 hlb hge hneg HFk;go_loopw [7] (fun jv w4=>∃j:Nat,j<=m.F.length/\jv=J9 j/\NoDown m n F f k j/\Below wx.heap.size wx w4) (fun jv _=>m.F.length - (intOf jv).toNat)
      case atStart=>exact⟨0,nZ _,rfl,(fun j h=>absurd h (nL _)),by rw[hwx];exact bR _ _⟩
      case round =>
       clear hwx;obtain⟨j,hj,rfl,hnd,hb⟩:=hrel;have HND:=h_ hnd;have HBj:=h_ hb;have HB5:=h_ (HBz.u.trans (hb.mono hzr));have HB6:=mT HBw hb;have HK6:=mB HKr hb;have HS6:=h_ (HSr.u.mono hb);have HX6:=h_ (HX.u.mono HB5.u HX.u.lt);have HO6:=h_ (HO.u.mono HB5.u);have H36:=h_ (H3.u.mono HB5.u);have zl:=q97 hb z2;clear hnd hb;by_cases hjl:j<m.F.length
       . have hjl':(j:Int)<m.F.length:=by omega
         obtain⟨y0,y1,y2,y3⟩:=quad HK6.u;have hfj:=H1.u.lt j hjl;have HC4:=h_ (HCa.u wr.drew j k hjl hlt (HS6.u.mono (bR _ _).drew));obtain⟨g0,o0,e0,-,zk⟩:=H36.u.at j (by rw[qhy];exact hjl);rw[qhx]at zk;obtain⟨hidx,hw1,hw2,hidx',hidx2⟩:=q9w hfj hfk hn;obtain⟨b2,o2,e3,-,zj⟩:=HO6.u _ hidx;go_wp2_with fail;clear y0 y1 y2 y3;subst e0;subst e3;have HFb:Hi (∀v,F (f j*n+f k)=v->v=false->anyR m j k=true->Fst (DownS m n F f) m.F.length (k:Int)):=h_ fun v e1 e2 e3=>.inr ⟨k,hlt,rfl,⟨HGe.u,j,hjl,e3,e1.trans e2⟩,HN.u⟩;have HFt:Hi (∀v,F (f j*n+f k)=v->(anyR m j k=true->v=true)->NoDown m n F f k (j+1)):=h_ fun v e1 e2 i hi ha=>by
          by_cases e:i=j
          . subst e;exact e1.trans (e2 ha)
          . exact HND.u i (by omega) ha
         obtain⟨vb,hvb⟩:=Nq (F (f j*n+f k));replace HFb:=h_ (HFb.u vb hvb);replace HFt:=h_ (HFt.u vb hvb);rw[hvb]at zj;clear hvb;generalize hfk0:f k=fk at *;generalize hfj0:f j=fj at *;have HFK:=h_ hfk0;clear hfk0 hfj0;generalize fj*n+fk=q1 at *;generalize fj*n=q2 at *;obtain⟨ar2,har⟩:=Nq (anyR m j k);rw[har]at HC4 HFb HFt;clear har;refine wp_region_held_drew (S:=fun w'=>Blk w' w.heap.size 28 [.slice al n alc,.slice ap m.P.length apc,.slice ar m.R.length arc,.slice (some ⟨pb,po,none⟩) m.F.length afc]/\Blk w' X 35 [J9 n,.slice (some ⟨b2,o2,none⟩) (n*n) c1,.slice a2 (n*n) c2,.slice a3 (n*n) c3,J9 (bt:Int),J9 top]/\w'.cell? ⟨g0,o0+j,none⟩=some (J9 (fj:Nat))/\w'.cell? ⟨pb,po+k*9+2,none⟩=some (J9 (fk:Nat))/\w'.cell? ⟨b2,o2+q1,none⟩=some (.bool vb)) (by kernel_rfl) ⟨HK6.u,HX6.u,zk,zl,zj⟩ (fun zz=>?_);refine tj 0 40 (.agg #[.slice al n alc,.slice ap m.P.length apc,.slice ar m.R.length arc,.slice (some ⟨pb,po,none⟩) m.F.length afc]) zz ?_ (hy:=fun w hS=>by obtain⟨q0,q1,q2,q3⟩:=quad hS.1;simp[execOp,go_sem,q0,q1,q2,q3]);refine tj 1 41 (J9 j) zz ?_;refine tj 2 42 (J9 k) zz ?_;simp only[sX,sY,sZ];refine callY (i:=3) (f:=108) (args:=#[.agg #[.slice al n alc,.slice ap m.P.length apc,.slice ar m.R.length arc,.slice (some ⟨pb,po,none⟩) m.F.length afc],J9 j,J9 k]) (R:=fun v' wz=>v'=.bool ar2/\Below wr.heap.size wr wz) 43 rfl rfl (by rfl) (by kernel_rfl) ?hrun3 (HC4.u.mono fun e w6 ⟨he,hb⟩=>⟨_,he,rfl,q28 hb⟩) ?_
         case hrun3=>simp[execOp,go_sem]
         rintro v' W7 ⟨rfl,hb⟩;replace zz:Blk W7 w.heap.size 28 [.slice al n alc,.slice ap m.P.length apc,.slice ar m.R.length arc,.slice (some ⟨pb,po,none⟩) m.F.length afc]/\Blk W7 X 35 [J9 n,.slice (some ⟨b2,o2,none⟩) (n*n) c1,.slice a2 (n*n) c2,.slice a3 (n*n) c3,J9 (bt:Int),J9 top]/\W7.cell? ⟨g0,o0+j,none⟩=some (J9 (fj:Nat))/\W7.cell? ⟨pb,po+k*9+2,none⟩=some (J9 (fk:Nat))/\W7.cell? ⟨b2,o2+q1,none⟩=some (.bool vb):=⟨HK6.u.mono hb HK6.u.lt,HX6.u.mono hb HX6.u.lt,q97 hb zk,q97 hb zl,q97 hb zj⟩;have HB7:=mT HBj hb;have HBw7:=mT HB6 hb;clear hb HC4 zk zl zj;refine⟨zz,?_⟩;simp only[sX,sY,sZ];cases ar2
         . skip
           refine tj 4 44 (.bool false) zz ?_;refine tn 5 45 zz ?_;refine tn 6 46 zz ?_;refine tn 7 47 zz ?_;simp only[sX,sY,sZ];refine tn 8 48 zz ?_;refine tn 9 49 zz ?_;refine tn 10 50 zz ?_;refine tn 11 51 zz ?_;simp only[sX,sY,sZ];refine tn 12 52 zz ?_;refine tn 13 53 zz ?_;refine tn 14 54 zz ?_;refine tn 15 55 zz ?_;simp only[sX,sY,sZ];refine tn 16 56 zz ?_;refine tn 17 57 zz ?_;refine tn 18 58 zz ?_;refine tn 19 59 zz ?_;simp only[sX,sY,sZ];refine tn 20 60 zz ?_;refine tn 21 61 zz ?_;refine tn 22 62 zz ?_;refine tn 23 63 zz ?_;simp only[sX,sY,sZ];refine tj 24 64 (.bool false) zz ?_;simp only[sX,sY,sZ];refine wpAnyH_done (by kernel_rfl) ?_ _;have HN3:=h_ (HFt.u (fun h=>by cases h));clear zz;go_wp2_with fail;have efk:=HFK.u;subst efk;go_roundw
           case rel=>first | exact⟨j+1,by omega,by go_num,HN3.u,HB7.u⟩ | ((repeat apply Exists.intro);exact⟨⟨j+1,by omega,by go_num,HN3.u,HB7.u⟩,rfl⟩) | ((repeat apply Exists.intro);exact⟨⟨j+1,by omega,by go_num,HN3.u,HB7.u⟩,rfl,rfl,rfl⟩)
           case measure=>simp[intOf];omega
         . skip
           refine tj 4 44 (.bool true) zz ?_;refine tj 5 45 (Yc X 1) zz ?_;refine tj 6 46 (.slice (some ⟨b2,o2,none⟩) (n*n) c1) zz ?_ (hy:=fun w hS=>by have q1:=hS.2.1.cell 1;simp only[Yh,Yo]at q1;simp[execOp,go_sem,q1]);refine tj 7 47 (.slice (some ⟨g0,o0,none⟩) m.F.length c0) zz ?_;simp only[sX,sY,sZ];refine tj 8 48 (J9 j) zz ?_;refine tj 9 49 (Yc g0 (o0+j)) zz ?_;refine tj 10 50 (J9 fj) zz ?_ (hy:=fun w hS=>by have q0:=hS.2.2.1;simp[execOp,go_sem,q0]);refine tj 11 51 (Yc X 0) zz ?_;simp only[sX,sY,sZ];refine tj 12 52 (J9 n) zz ?_ (hy:=fun w hS=>by have q1:=hS.2.1.cell 0;simp only[Yh]at q1;simp[execOp,go_sem,q1]);refine tj 13 53 (J9 q2) zz ?_ (hy:=fun w hS=>by simp[execOp,go_sem];exact(IntWalk.i64_left _).trans hw1);refine tj 14 54 (Yc w.heap.size 3) zz ?_;refine tj 15 55 (.slice (some ⟨pb,po,none⟩) m.F.length afc) zz ?_ (hy:=fun w hS=>by obtain⟨q0,q1,q2,q3⟩:=quad hS.1;simp[execOp,go_sem,q3]);simp only[sX,sY,sZ];refine tj 16 56 (J9 k) zz ?_;refine tj 17 57 (.pointer (some ⟨pb,po+k*9,none⟩)) zz ?_;refine tj 18 58 (.pointer (some ⟨pb,po+k*9+2,none⟩)) zz ?_;refine tj 19 59 (J9 fk) zz ?_ (hy:=fun w hS=>by have q0:=hS.2.2.2.1;simp[execOp,go_sem,q0]);simp only[sX,sY,sZ];refine tj 20 60 (J9 q1) zz ?_ (hy:=fun w hS=>by simp[execOp,go_sem];exact(IntWalk.i64_left _).trans hw2);refine tj 21 61 (Yc b2 (o2+q1)) zz ?_;refine tj 22 62 (.bool vb) zz ?_ (hy:=fun w hS=>by have q0:=hS.2.2.2.2;simp[execOp,go_sem,q0]);refine tj 23 63 (.bool (!vb)) zz ?_;simp only[sX,sY,sZ];refine tj 24 64 (.bool (!vb)) zz ?_;simp only[sX,sY,sZ];refine wpAnyH_done (by kernel_rfl) ?_ _;clear zz;cases vb
           . have HF:=h_ (HFb.u rfl rfl)
             go_wp2_with fail;go_ret
             first | exact⟨_,f,rfl,H1.u,H2.u,HF.u,HBw7.u⟩ | exact⟨_,rfl,f,H1.u,H2.u,HF.u,HBw7.u⟩ | exact⟨f,H1.u,H2.u,HF.u,HBw7.u⟩
           . have HN3:=h_ (HFt.u (fun _=>rfl))
             go_wp2_with fail;have efk:=HFK.u;subst efk;go_roundw
             case rel=>first | exact⟨j+1,by omega,by go_num,HN3.u,HB7.u⟩ | ((repeat apply Exists.intro);exact⟨⟨j+1,by omega,by go_num,HN3.u,HB7.u⟩,rfl⟩) | ((repeat apply Exists.intro);exact⟨⟨j+1,by omega,by go_num,HN3.u,HB7.u⟩,rfl,rfl,rfl⟩)
             case measure=>simp[intOf];omega
       . obtain rfl:j=m.F.length:=by omega
         have hjl':¬ (m.F.length:Int)<(m.F.length:Int):=(by omega);have HN2:Hi (∀j,j<k+1->¬ DownS m n F f j):=h_ fun j hj=>by
          by_cases e:j=k
          . subst e;exact q5n HND.u
          . exact HN.u j (by omega)
         obtain⟨y0,y1,y2,y3⟩:=quad HK6.u;go_wp2_with fail;go_roundw
         case rel=>first | exact⟨k+1,by omega,by go_num,HN2.u,HB5.u⟩ | ((repeat apply Exists.intro);exact⟨⟨k+1,by omega,by go_num,HN2.u,HB5.u⟩,rfl⟩)
         case measure=>simp[intOf];omega
  . obtain rfl:k=m.F.length:=by omega
    have hlt':¬ (m.F.length:Int)<(m.F.length:Int):=(by omega);have HF:Hi (Fst (DownS m n F f) m.F.length (-1)):=h_ (.inl ⟨rfl,HN.u⟩);obtain⟨y0,y1,y2,y3⟩:=quad HKr.u;go_wp2_with fail;go_ret
    first | exact⟨_,f,rfl,H1.u,H2.u,HF.u,HBw.u⟩ | exact⟨_,rfl,f,H1.u,H2.u,HF.u,HBw.u⟩ | exact⟨f,H1.u,H2.u,HF.u,HBw.u⟩
end Go.Proofs.YtebbgodlijlioaaGreatDoor
