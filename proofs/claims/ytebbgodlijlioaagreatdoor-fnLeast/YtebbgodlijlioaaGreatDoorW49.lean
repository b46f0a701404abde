import Derived.Test.YtebbgodlijlioaaGreatDoorW48
set_option maxRecDepth 100000
set_option maxHeartbeats 64000000
namespace Go.Proofs.YtebbgodlijlioaaGreatDoor
open Go Go.RowKit
theorem qat (w:World):(w.alloc (.cells #[] 3)).ownsRow w.heap.size 3 1 (.slice (some ⟨w.heap.size,0,none⟩) 0 0) 0 [] :=
 ⟨by simp,.inr ⟨w.heap.size,0,#[],rfl,nR _,heap_alloc_new w (.cells #[] 3),nR _,nZ _,by simp,by simp⟩⟩
theorem OwM.capsL {w:World}{base:Nat}{v1 v2 v3 v4:Value}{m:Fm}{P:List (Fl × FA)}(h:OwM w base v1 v2 v3 v4 m P){A:MA}(hA:A.fa=faOf P):Caps m A:=fun k hk=>by
 have hl:m.F.length=P.length:=by rw[h.e,Yz]
 have hk':k<P.length:=by omega
 have e1:m.F[k]=(P[k]).1:=by
  have:m.F[k]? = some (P[k]).1:=by rw[h.e,Zk,Yj hk'];rfl
  rw[Yj hk]at this;exact Z6 this
 rw[hA,qcg hk',e1]
 obtain⟨a,c,e,hc,-⟩:=q8b (h.f.sub _ (Yk hk')).b
 cases e
 exact hc
theorem q7v (len lm:Nat)(f fm:Nat->Nat)(a am:Option Addr)(c cm:Nat)(w:World)(hlen:len<=1048576)(hlm:lm<=1048576)(hby:Byts w a len f)(hbm:Byts w am lm fm)(ht:Tabs w)(hy:TyW w)(htb:Tab w)(m:Fm)(hf:FitM m)
 (hc:∀(w:World) (a:Option Addr) (c:Nat),Byts w a len f->Calls Tryz.prog 5 #[.slice a len c] w (OutF w m))
 (hz:vfB m=true->∃code,code≠0/\SpecZ m.L.length m.P.length (pr1 m) (pr2 m) code)
 (HCi:Hi (∀W A',Caps m A'->MSl W m A'->Tabs W->TyW W->Tab W->Calls Tryz.prog 6 #[mV m A'] W fun r w'=>r=.returned Ya/\Below W.heap.size W w')) :
 Calls Tryz.prog 3 #[.slice a len c,.slice am lm cm] w fun r w'=>r=.returned (.bool true)/\Below w.heap.size w w':=by
 have HZ:=h_ hz
 clear hz
 obtain⟨m1len,hm1l⟩:∃z,len=z:=⟨_,rfl⟩
 clear hm1l m1len
 have hl':¬ (1048576:Int)<len:=by omega
 have hl2':¬ (1048576:Int)<lm:=by omega
 have HCd:=h_ fun W (h:Byts W a len f)=>hc W a c h
 have HCv:=h_ fun W A' (hs:MSl W m A')=>q0e m A' W hf hs
 clear hc
 unfold mV at HCv HCi
 go_enter Tryz.func3,Tryz.ntmps3
 go_wp2_with fail
 refine(HCd.u w hby).mono ?_
 rintro e W1 ⟨v1,v2,v3,v4,P,rfl,ho,hb⟩
 obtain⟨A1,-,hs1,rfl,rfl,rfl,rfl,hfa⟩:=ho.sl
 have hcap:=ho.capsL hfa
 obtain⟨al,alc,ap,apc,ar,arc,af,afc,afa⟩:=A1
 dsimp only at hs1 hfa⊢
 have hal:=(bR W1.heap.size W1).alloc (nR _) (.cells (Jb al m alc ap apc ar arc af afc) 28)
 have hX1:=Blk.new W1 28 (Jb al m alc ap apc ar arc af afc)
 obtain⟨X1,hXe⟩:=Nq W1.heap.size
 obtain⟨W2,hW2⟩:=Nq (W1.alloc (.cells (Jb al m alc ap apc ar arc af afc) 28))
 rw[hW2]at hal hX1
 rw[hXe]at hX1
 have hbw:=hb.trans (hal.mono hb.size)
 have HK1:=h_ hX1;have HS1:=h_ (hs1.mono hal);have HB:=h_ hbw;have HBy:=h_ (hby.mono hbw);have HCap:=h_ hcap
 have HT:=h_ (ht.mono hbw);have HY:=h_ (hy.mono hbw);have HTb:=h_ (htb.mono hbw);have HBm:=h_ (hbm.mono hbw)
 have HW2:=h_ hW2;have HXe:=h_ hXe
 clear ho hb hs1 hfa hcap hal hX1 hW2 hXe hbw hby ht hy htb hbm
 go_wp2_with fail
 try rw[HW2.u]
 try rw[HXe.u]
 clear HW2 HXe
 refine(HCd.u W2 HBy.u).mono ?_
 rintro e W3 ⟨v1,v2,v3,v4,P2,rfl,ho,hb⟩
 obtain⟨A2,-,hs2,rfl,rfl,rfl,rfl,-⟩:=ho.sl
 obtain⟨bl,blc,bp,bpc,br,brc,bf,bfc,bfa⟩:=A2
 dsimp only at hs2⊢
 have hal:=(bR W3.heap.size W3).alloc (nR _) (.cells (Jb bl m blc bp bpc br brc bf bfc) 28)
 have hX2:=Blk.new W3 28 (Jb bl m blc bp bpc br brc bf bfc)
 obtain⟨X2,hXe⟩:=Nq W3.heap.size
 obtain⟨W4,hW4⟩:=Nq (W3.alloc (.cells (Jb bl m blc bp bpc br brc bf bfc) 28))
 rw[hW4]at hal hX2
 rw[hXe]at hX2
 have hbw:=hb.trans (hal.mono hb.size)
 have HK2:=h_ hX2;replace HK1:=mB HK1 hbw
 have HS2:=h_ (hs2.mono hal);replace HS1:=h_ (HS1.u.mono hbw);replace HT:=h_ (HT.u.mono hbw);replace HY:=h_ (HY.u.mono hbw);replace HTb:=h_ (HTb.u.mono hbw);replace HBm:=h_ (HBm.u.mono hbw);replace HB:=mT HB hbw
 have HW4:=h_ hW4;have HXe:=h_ hXe
 clear ho hb hs2 hal hX2 hW4 hXe hbw HBy HCd
 obtain⟨y0,y1,y2,y3⟩:=quad HK1.u
 have HCi2:=h_ (HCi.u W4 ⟨al,alc,ap,apc,ar,arc,af,afc,afa⟩ HCap.u HS1.u HT.u HY.u HTb.u)
 dsimp only at HCi2
 go_upto_region 5 with fail
 try rw[HW4.u]
 try rw[HXe.u]
 clear HW4 HXe
 go_wp2_with fail
 refine HCi2.u.mono ?_
 rintro e W5 ⟨rfl,hb⟩
 replace HK2:=mB HK2 hb;replace HS2:=h_ (HS2.u.mono hb);replace HB:=mT HB hb
 clear hb y0 y1 y2 y3 HCi HCi2 HK1 HS1 HT HY HTb HBm
 obtain⟨y0,y1,y2,y3⟩:=quad HK2.u
 have HCv2:=h_ (HCv.u W5 ⟨bl,blc,bp,bpc,br,brc,bf,bfc,bfa⟩ HS2.u)
 dsimp only at HCv2
 go_wp2_with fail
 refine HCv2.u.mono ?_
 rintro e W6 ⟨rfl,hb⟩
 replace HK2:=mB HK2 hb;replace HS2:=h_ (HS2.u.mono hb);replace HB:=mT HB hb
 clear hb y0 y1 y2 y3 HCv HCv2
 cases hq:vfB m
 . clear HZ
   go_wp2_with fail;go_ret;exact⟨rfl,HB.u⟩
 obtain⟨code,h0,hz⟩:=HZ.u hq
 have HCb:=h_ (hz W6 bp bpc (qik HS2.u))
 have h0':(code==0)=false:=Yf.2 h0
 unfold zeroL at HCb
 clear hz HZ hq
 obtain⟨y0,y1,y2,y3⟩:=quad HK2.u
 go_wp2_with (refine q66 rfl 39 #[(0,.tmp 45),(1,.tmp 47)] rfl (Jn m.L.length bp m.P.length bpc) (by kernel_rfl) ?_)
 refine HCb.u.mono ?_
 rintro e W7 ⟨rfl,hb⟩
 have HB7:=h_ ((HB.u.trans (hb.mono HB.u.size)).alloc ((HB.u.trans (hb.mono HB.u.size)).size) (.cells Jd 35))
 clear hb y0 y1 y2 y3 HCb
 go_wp2_with fail
 go_ret
 exact⟨rfl,HB7.u⟩
theorem qgv {a b N s:Nat}(ha:a<N)(hb:b<N)(hs:s=N*N):a*N+b<s:=by
 subst hs
 have h1:(a+1)*N<=N*N:=Zl N ha
 rw[Zt]at h1
 omega
theorem sq_leL {N s:Nat}(h:N<=32)(hs:s=N*N):s<=1024:=by subst hs;exact Vn h h
def RzK (m:Fm)(N:Nat)(g:Nat->Nat)(k:Nat):Prop:=∀i,i<k->g i<N/\(0<=(fAt m i).lb->(g i:Int)=(fAt m i).lb)
structure LeO (m:Fm)(A2:MA)(X2 XL:Nat)(b1 b2 b3:Option Addr)(d1 d2 d3 N s bt tp:Nat)(F:Nat->Bool)(J:Nat->Int)(a7:Option Addr)(lf:Nat->Nat)(am:Option Addr)(lm:Nat)(fm:Nat->Nat)(W:World):Prop where
 k2:Blk W X2 28 [.slice A2.l m.L.length A2.lc,.slice A2.p m.P.length A2.pc,.slice A2.r m.R.length A2.rc,.slice A2.f m.F.length A2.fc]
 s2:MSl W m A2
 kl:Blk W XL 35 [J9 N,.slice b1 s d1,.slice b2 s d2,.slice b3 s d3,J9 bt,J9 tp]
 bl:Bools W b1 s F
 ji:Ints W b2 s J
 p:Plc W a7 (lsL lf m.F.length)
 by':Byts W am lm fm
theorem LeO.mono {m:Fm}{A2:MA}{X2 XL:Nat}{b1 b2 b3:Option Addr}{d1 d2 d3 N s bt tp:Nat}{F:Nat->Bool}{J:Nat->Int}{a7:Option Addr}{lf:Nat->Nat}{am:Option Addr}{lm:Nat}{fm:Nat->Nat}{W W':World}(h:LeO m A2 X2 XL b1 b2 b3 d1 d2 d3 N s bt tp F J a7 lf am lm fm W)(hb:Below W.heap.size W W'):LeO m A2 X2 XL b1 b2 b3 d1 d2 d3 N s bt tp F J a7 lf am lm fm W' :=
 ⟨h.k2.mono hb h.k2.lt,h.s2.mono hb,h.kl.mono hb h.kl.lt,h.bl.mono hb,h.ji.mono hb,h.p.mono hb,h.by'.mono hb⟩
theorem q7u (len lm:Nat)(f fm:Nat->Nat)(a am:Option Addr)(c cm:Nat)(w:World)(hlen:len<=1048576)(hlm:lm<=1048576)(hby:Byts w a len f)(hbm:Byts w am lm fm)(ht:Tabs w)(hy:TyW w)(htb:Tab w)(m:Fm)(hf:FitM m)
 (hc:∀(w:World) (a:Option Addr) (c:Nat),Byts w a len f->Calls Tryz.prog 5 #[.slice a len c] w (OutF w m))
 (N s bt tp:Nat) (F:Nat->Bool) (J M:Nat->Int) (hq:vfB m=true) (hz:SpecF m.L.length m.P.length (pr1 m) (pr2 m) s F J M bt tp) (hLN:m.L.length=N) (hN1:1<=N) (hN2:N<=32) (hs:s=N*N) (jn:Nat->Nat->Nat)
 (L:LatP N (fun a b=>F (a*N+b)=true) jn bt) (hJ:∀a b,a<N->b<N->J (a*N+b)=((jn a b:Nat):Int)) (hnf:m.F.length<=200)
 (HCi:Hi (∀W A',Caps m A'->MSl W m A'->Tabs W->TyW W->Tab W->Calls Tryz.prog 6 #[mV m A'] W fun r w'=>∃v lf,r=.returned v/\w'.ownsRow W.heap.size 3 1 v m.F.length (ui (lsL lf m.F.length))/\Sol m N (fun a b=>F (a*N+b)=true) lf/\Low m N (fun a b=>F (a*N+b)=true) lf/\Below W.heap.size W w')) :
 Calls Tryz.prog 3 #[.slice a len c,.slice am lm cm] w fun r w'=>r=.returned (.bool true)/\Below w.heap.size w w':=by
 have HZ:=h_ hz;have HLt:=h_ L;have HJ:=h_ hJ;have HSq:=h_ hs;have HLN:=h_ hLN
 have hs2:=sq_leL hN2 hs
 clear hz L hJ hs hLN
 have HCn:=h_ fun (j k:Nat) W A' (hj:j<m.F.length) (hk:k<m.F.length) (hs:MSl W m A')=>qff m A' j k W hj hk hf hs
 have HCw:=h_ fun (i:Nat) (hi:i<=1000000) W (h:Byts W am lm fm)=>qbv lm fm am cm i W hlm hi h
 unfold mV at HCn
 obtain⟨m1len,hm1l⟩:∃z,len=z:=⟨_,rfl⟩
 clear hm1l m1len
 have hl':¬ (1048576:Int)<len:=by omega
 have hl2':¬ (1048576:Int)<lm:=by omega
 have HCd:=h_ fun W (h:Byts W a len f)=>hc W a c h
 have HCv:=h_ fun W A' (hs:MSl W m A')=>q0e m A' W hf hs
 clear hc
 unfold mV at HCv HCi
 go_enter Tryz.func3,Tryz.ntmps3
 go_wp2_with fail
 refine(HCd.u w hby).mono ?_
 rintro e W1 ⟨v1,v2,v3,v4,P,rfl,ho,hb⟩
 obtain⟨A1,-,hs1,rfl,rfl,rfl,rfl,hfa⟩:=ho.sl
 have hcap:=ho.capsL hfa
 obtain⟨al,alc,ap,apc,ar,arc,af,afc,afa⟩:=A1
 dsimp only at hs1 hfa⊢
 have hal:=(bR W1.heap.size W1).alloc (nR _) (.cells (Jb al m alc ap apc ar arc af afc) 28)
 have hX1:=Blk.new W1 28 (Jb al m alc ap apc ar arc af afc)
 obtain⟨X1,hXe⟩:=Nq W1.heap.size
 obtain⟨W2,hW2⟩:=Nq (W1.alloc (.cells (Jb al m alc ap apc ar arc af afc) 28))
 rw[hW2]at hal hX1
 rw[hXe]at hX1
 have hbw:=hb.trans (hal.mono hb.size)
 have HK1:=h_ hX1;have HS1:=h_ (hs1.mono hal);have HB:=h_ hbw;have HBy:=h_ (hby.mono hbw);have HCap:=h_ hcap
 have HT:=h_ (ht.mono hbw);have HY:=h_ (hy.mono hbw);have HTb:=h_ (htb.mono hbw);have HBm:=h_ (hbm.mono hbw)
 have HW2:=h_ hW2;have HXe:=h_ hXe
 clear ho hb hs1 hfa hcap hal hX1 hW2 hXe hbw hby ht hy htb hbm
 go_wp2_with fail
 try rw[HW2.u]
 try rw[HXe.u]
 clear HW2 HXe
 refine(HCd.u W2 HBy.u).mono ?_
 rintro e W3 ⟨v1,v2,v3,v4,P2,rfl,ho,hb⟩
 obtain⟨A2,-,hs2,rfl,rfl,rfl,rfl,-⟩:=ho.sl
 obtain⟨bl,blc,bp,bpc,br,brc,bf,bfc,bfa⟩:=A2
 dsimp only at hs2⊢
 have hal:=(bR W3.heap.size W3).alloc (nR _) (.cells (Jb bl m blc bp bpc br brc bf bfc) 28)
 have hX2:=Blk.new W3 28 (Jb bl m blc bp bpc br brc bf bfc)
 obtain⟨X2,hXe⟩:=Nq W3.heap.size
 obtain⟨W4,hW4⟩:=Nq (W3.alloc (.cells (Jb bl m blc bp bpc br brc bf bfc) 28))
 rw[hW4]at hal hX2
 rw[hXe]at hX2
 have hbw:=hb.trans (hal.mono hb.size)
 have HK2:=h_ hX2;replace HK1:=mB HK1 hbw
 have HS2:=h_ (hs2.mono hal);replace HS1:=h_ (HS1.u.mono hbw);replace HT:=h_ (HT.u.mono hbw);replace HY:=h_ (HY.u.mono hbw);replace HTb:=h_ (HTb.u.mono hbw);replace HBm:=h_ (HBm.u.mono hbw);replace HB:=mT HB hbw
 have HW4:=h_ hW4;have HXe:=h_ hXe
 clear ho hb hs2 hal hX2 hW4 hXe hbw HBy HCd
 obtain⟨y0,y1,y2,y3⟩:=quad HK1.u
 have HCi2:=h_ (HCi.u W4 ⟨al,alc,ap,apc,ar,arc,af,afc,afa⟩ HCap.u HS1.u HT.u HY.u HTb.u)
 dsimp only at HCi2
 go_upto_region 5 with fail
 try rw[HW4.u]
 try rw[HXe.u]
 clear HW4 HXe
 go_wp2_with fail
 refine HCi2.u.mono ?_
 rintro e W5 ⟨v,lf,rfl,hv,hSol,hLow,hb⟩
 obtain⟨a7,c7,rfl,-,hp⟩:=q5t hv
 have HSol:=h_ hSol;have HLow:=h_ hLow;have HP:=h_ hp
 replace HK2:=mB HK2 hb;replace HS2:=h_ (HS2.u.mono hb);replace HB:=mT HB hb;replace HBm:=h_ (HBm.u.mono hb)
 clear hb hv hp hSol hLow y0 y1 y2 y3 HCi HCi2 HK1 HS1 HT HY HTb
 obtain⟨y0,y1,y2,y3⟩:=quad HK2.u
 have HCv2:=h_ (HCv.u W5 ⟨bl,blc,bp,bpc,br,brc,bf,bfc,bfa⟩ HS2.u)
 dsimp only at HCv2
 rw[hq]at HCv2
 go_wp2_with fail
 refine HCv2.u.mono ?_
 rintro e W6 ⟨rfl,hb⟩
 replace HK2:=mB HK2 hb;replace HS2:=h_ (HS2.u.mono hb);replace HB:=mT HB hb;replace HBm:=h_ (HBm.u.mono hb);replace HP:=h_ (HP.u.mono hb)
 clear hb y0 y1 y2 y3 HCv HCv2 hq
 have HCb:=h_ (HZ.u W6 bp bpc (qik HS2.u))
 rw[HLN.u]at HCb
 obtain⟨y0,y1,y2,y3⟩:=quad HK2.u
 clear HZ
 rw[HLN.u]at y0
 go_wp2_with (refine q66 rfl 39 #[(0,.tmp 45),(1,.tmp 47)] rfl (Jn N bp m.P.length bpc) (by kernel_rfl) ?_)
 refine HCb.u.mono ?_
 rintro e W6b ⟨b1,b2,b3,d1,d2,d3,rfl,hbo,hin,-,hb⟩
 have hal:=(bR W6b.heap.size W6b).alloc (nR _) (.cells (Jj N b1 s d1 b2 d2 b3 d3 bt tp) 35)
 have hXL:=Blk.new W6b 35 (Jj N b1 s d1 b2 d2 b3 d3 bt tp)
 obtain⟨XL,hXe⟩:=Nq W6b.heap.size
 obtain⟨W7,hW7⟩:=Nq (W6b.alloc (.cells (Jj N b1 s d1 b2 d2 b3 d3 bt tp) 35))
 rw[hW7]at hal hXL
 rw[hXe]at hXL
 have hbw:=hb.trans (hal.mono hb.size)
 have hL7:LeO m ⟨bl,blc,bp,bpc,br,brc,bf,bfc,bfa⟩ X2 XL b1 b2 b3 d1 d2 d3 N s bt tp F J a7 lf am lm fm W7:=⟨HK2.u.mono hbw HK2.u.lt,HS2.u.mono hbw,hXL,hbo.mono hal,hin.mono hal,HP.u.mono hbw,HBm.u.mono hbw⟩
 obtain⟨B,hBe⟩:=Nq W7.heap.size
 have HLm:Hi (∀wr,Below B W7 wr->LeO m ⟨bl,blc,bp,bpc,br,brc,bf,bfc,bfa⟩ X2 XL b1 b2 b3 d1 d2 d3 N s bt tp F J a7 lf am lm fm wr):=h_ fun wr h=>hL7.mono (by rw[hBe];exact h)
 have HBw:=mT HB hbw
 have HBf:Hi (∀wr,Below B W7 wr->Below w.heap.size w wr):=h_ fun wr h=>HBw.u.trans (h.mono (by have:=HBw.u.size;omega))
 have HB7:Hi (Below B W7 W7):=h_ (bR _ _)
 have HBs:Hi (∀wr,Below B W7 wr->B<=wr.heap.size):=h_ fun wr h=>by have:=h.size;omega
 have hy3:=(quad hL7.k2).2.2.2
 have HW7:=h_ hW7;have HXe:=h_ hXe
 clear y0 y1 y2 y3 hal hXL hXe hW7 hb hbw hbo hin hL7 HB HBw HK2 HS2 HP HBm HCb hBe
 go_upto_region 9 with fail
 try rw[HW7.u]
 try rw[HXe.u]
 clear HW7 HXe
 go_wp2_with fail
 clear hy3
 go_loopw [11] (fun i wr=>∃k:Nat,k<=m.F.length/\i=J9 k/\Below B W7 wr) (fun i _=>m.F.length - (intOf i).toNat)
 case atStart=>exact⟨0,nZ _,rfl,HB7.u⟩
 case round =>
 obtain⟨k,hk,rfl,hb⟩:=hrel
 by_cases hlt:k<m.F.length
 case pos => as_aux_lemma =>
  have hlt':(k:Int)<m.F.length:=by omega
  have hL:=HLm.u wr hb;obtain⟨pb,po,rfl,hpb,z1⟩:=hL.p.at k (by rw[qhy];exact hlt);rw[qhx]at z1;have hxN:=HSol.u.lt k hlt;have hxd:=HSol.u.decl k hlt;rw[qge hlt]at hxd;have k0:(0:Int)<=k:=by omega
  have HS17:Hi (wr.cell? ⟨pb,po+k,none⟩=some (J9 (lf k:Nat))/\wr.cell? ⟨XL,0,none⟩=some (J9 N)):=h_ ⟨z1,hL.kl.cell 0⟩;have hbd:Below B W7 wr.drew:=hb.drew;have hLd:=HLm.u wr.drew hbd;obtain⟨pb2,po2,e2,-,z1d⟩:=hLd.p.at k (by rw[qhy];exact hlt);cases e2;rw[qhx]at z1d;obtain⟨fb,fo,e3,⟨-,-,-,z2,-⟩,-⟩:=hLd.s2.f k hlt;dsimp only at e3 z2;subst e3;have HS19:Hi (Blk wr.drew X2 28 (Jl bl m blc bp bpc br brc (some ⟨fb,fo,none⟩) bfc)/\wr.drew.cell? ⟨fb,fo+k*9+2,none⟩=some (J9 (m.F[k]).lb)/\wr.drew.cell? ⟨pb,po+k,none⟩=some (J9 (lf k:Nat))):=h_ ⟨hLd.k2,z2,z1d⟩;have HBd:Hi (Below B W7 wr.drew.drew):=h_ hbd.drew;generalize lf k=x at *;generalize (m.F[k]).lb=lb at *;have hxN':¬ (N:Int)<=(x:Int):=by omega
  have hx0:¬ (x:Int)<0:=by omega
  clear hL hLd hb hbd z1 z1d z2 hpb;go_wp2_with fail;refine wp_region_held_drew (S:=fun w'=>w'.cell? ⟨pb,po+k,none⟩=some (J9 (x:Nat))/\w'.cell? ⟨XL,0,none⟩=some (J9 N)) (by kernel_rfl) HS17.u (fun zz=>?_);clear HS17;refine tkL 0 69 (.slice (some ⟨pb,po,none⟩) m.F.length c7) zz ?_;refine tkL 1 70 (J9 k) zz ?_;refine tkL 2 71 (Yc pb (po+k)) zz ?_;refine tkL 3 72 (J9 x) zz ?_ (hy:=fun w hS=>by obtain⟨h1,-⟩:=hS;simp[execOp,go_sem,h1]);refine tkL 4 73 (.bool false) zz ?_ (hy:=fun w hS=>by simp[execOp,go_sem];try omega);refine tkL 5 74 (.bool false) zz ?_;refine tkL 6 75 (.slice (some ⟨pb,po,none⟩) m.F.length c7) zz ?_;refine tkL 7 76 (J9 k) zz ?_;refine tkL 8 77 (Yc pb (po+k)) zz ?_;refine tkL 9 78 (J9 x) zz ?_ (hy:=fun w hS=>by obtain⟨h1,-⟩:=hS;simp[execOp,go_sem,h1]);refine tkL 10 79 (Yc XL 0) zz ?_;refine tkL 11 80 (J9 N) zz ?_ (hy:=fun w hS=>by obtain⟨-,h1⟩:=hS;simp[execOp,go_sem,h1]);refine tkL 12 81 (.bool false) zz ?_ (hy:=fun w hS=>by simp[execOp,go_sem];try omega);refine tkL 13 82 (.bool false) zz ?_;refine wpAnyH_done (by kernel_rfl) ?_ _;clear zz;obtain⟨U,hU⟩:=Nq wr.drew;rw[hU]at HS19 HBd⊢;clear hU;go_wp2_with fail;refine wp_region_held_drew (S:=fun w'=>Blk w' X2 28 (Jl bl m blc bp bpc br brc (some ⟨fb,fo,none⟩) bfc)/\w'.cell? ⟨fb,fo+k*9+2,none⟩=some (J9 lb)/\w'.cell? ⟨pb,po+k,none⟩=some (J9 (x:Nat))) (by kernel_rfl) HS19.u (fun zz=>?_);clear HS19;refine tkL 0 83 (Yc X2 3) zz ?_;refine tkL 1 84 (.slice (some ⟨fb,fo,none⟩) m.F.length bfc) zz ?_ (hy:=fun w hS=>by obtain⟨h1,-⟩:=hS;obtain⟨q0,q1,q2,q3⟩:=quad h1;simp[execOp,go_sem,q3]);refine tkL 2 85 (J9 k) zz ?_;refine tkL 3 86 (.pointer (some ⟨fb,fo+k*9,none⟩)) zz ?_;refine tkL 4 87 (.pointer (some ⟨fb,fo+k*9+2,none⟩)) zz ?_;refine tkL 5 88 (J9 lb) zz ?_ (hy:=fun w hS=>by obtain⟨-,h1,-⟩:=hS;simp[execOp,go_sem,h1]);by_cases h0:0<=lb
  . have he:=hxd h0
    refine tkL 6 89 (.bool true) zz ?_ (hy:=fun w hS=>by simp[execOp,go_sem,h0]);refine tkL 7 90 (.bool true) zz ?_;refine tkL 8 91 (.slice (some ⟨pb,po,none⟩) m.F.length c7) zz ?_;refine tkL 9 92 (J9 k) zz ?_;refine tkL 10 93 (Yc pb (po+k)) zz ?_;refine tkL 11 94 (J9 x) zz ?_ (hy:=fun w hS=>by obtain⟨-,-,h1⟩:=hS;simp[execOp,go_sem,h1]);refine tkL 12 95 (Yc X2 3) zz ?_;refine tkL 13 96 (.slice (some ⟨fb,fo,none⟩) m.F.length bfc) zz ?_ (hy:=fun w hS=>by obtain⟨h1,-⟩:=hS;obtain⟨q0,q1,q2,q3⟩:=quad h1;simp[execOp,go_sem,q3]);refine tkL 14 97 (J9 k) zz ?_;refine tkL 15 98 (.pointer (some ⟨fb,fo+k*9,none⟩)) zz ?_;refine tkL 16 99 (.pointer (some ⟨fb,fo+k*9+2,none⟩)) zz ?_;refine tkL 17 100 (J9 lb) zz ?_ (hy:=fun w hS=>by obtain⟨-,h1,-⟩:=hS;simp[execOp,go_sem,h1]);refine tkL 18 101 (.bool false) zz ?_ (hy:=fun w hS=>by simp[execOp,go_sem,he]);refine tkL 19 102 (.bool false) zz ?_;refine wpAnyH_done (by kernel_rfl) ?_ _;clear zz he hxd;go_wp2_with fail;go_roundw
    case rel=>exact⟨k+1,by omega,by go_num,HBd.u⟩
    case measure=>simp[intOf];omega
  . have h0':lb<0:=by omega
    refine tkL 6 89 (.bool false) zz ?_ (hy:=fun w hS=>by simp[execOp,go_sem,h0'];try omega);refine tkL 7 90 (.bool false) zz ?_;refine skL 8 91 zz ?_;refine skL 9 92 zz ?_;refine skL 10 93 zz ?_;refine skL 11 94 zz ?_;refine skL 12 95 zz ?_;refine skL 13 96 zz ?_;refine skL 14 97 zz ?_;refine skL 15 98 zz ?_;refine skL 16 99 zz ?_;refine skL 17 100 zz ?_;refine skL 18 101 zz ?_;refine tkL 19 102 (.bool false) zz ?_;refine wpAnyH_done (by kernel_rfl) ?_ _;clear zz hxd;go_wp2_with fail;go_roundw
    case rel=>exact⟨k+1,by omega,by go_num,HBd.u⟩
    case measure=>simp[intOf];omega
 case neg =>
 have hlt':¬ (k:Int)<(m.F.length:Int):=by omega
 clear hk hlt HB7
 have hsB:=HBs.u wr hb
 have hba:=hb.alloc hsB (.cells #[] 3)
 have hO0:(wr.alloc (.cells #[] 3)).ownsRow B 3 1 (.slice (some ⟨wr.heap.size,0,none⟩) 0 0) 0 (ui (lsL (fun _=>0) 0)):=qdt (qat wr) hsB
 obtain⟨W8,hW8⟩:=Nq (wr.alloc (.cells #[] 3))
 rw[hW8]at hba hO0
 obtain⟨g8,hg8⟩:∃g,wr.heap.size=g:=⟨_,rfl⟩
 rw[hg8]at hO0
 have HO0:=h_ hO0;have HB8:=h_ hba;have HW8:=h_ hW8;have HG8:=h_ hg8
 clear hb hba hO0 hW8 hg8 hsB
 go_upto_block 2 with fail
 try rw[HW8.u]
 try rw[HG8.u]
 clear HW8 HG8 hlt'
 go_wp2_with fail
 go_loopw [12,13,14,15] (fun v i _ _ wr=>∃(k:Nat) (g:Nat->Nat) (a8:Option Addr) (c8:Nat),k<=m.F.length/\i=J9 k/\v=.slice a8 k c8/\wr.ownsRow B 3 1 (.slice a8 k c8) k (ui (lsL g k))/\RzK m N g k/\Below B W7 wr) (fun _ i _ _ _=>m.F.length - (intOf i).toNat)
 case atStart=>exact⟨0,_,_,_,nZ _,rfl,rfl,HO0.u,fun i hi=>absurd hi (nL _),HB8.u⟩
 case round =>
 clear HO0 HB8
 obtain⟨k,g,a8,c8,hk,rfl,rfl,ho,hrz,hb⟩:=hrel
 have HO:=h_ ho;have HRz:=h_ hrz;have HBk:=h_ hb
 clear ho hrz hb
 by_cases hlt:k<m.F.length
 case pos =>
  have hlt':(k:Int)<m.F.length:=by omega
  go_upto_block 4 with fail
  go_cut [14] from 109 to 145 (fun _ wx=>wx.ownsRow B 3 1 (.slice a8 k c8) k (ui (lsL g k))/\Below B W7 wx)
  case first => as_aux_lemma =>
   go_wp2_with fail;go_loopw [14] (fun i wr=>∃j:Nat,j<=m.F.length/\i=J9 j/\wr.ownsRow B 3 1 (.slice a8 k c8) k (ui (lsL g k))/\Below B W7 wr) (fun i _=>m.F.length - (intOf i).toNat)
   case atStart=>exact⟨0,nZ _,rfl,HO.u,HBk.u⟩
   case round =>
    clear HO HBk;obtain⟨j,hj,rfl,ho,hb⟩:=hrel;by_cases hjt:j<m.F.length
    . have hjt':(j:Int)<m.F.length:=by omega
      have k0:(0:Int)<=k:=(by omega);have j0:(0:Int)<=j:=(by omega);have hbd:Below wr.heap.size wr wr.drew:=(bR _ _).drew;have hLd:=HLm.u wr.drew hb.drew;obtain⟨pb,po,rfl,-,-⟩:=hLd.p.at k (by rw[qhy];exact hlt);obtain⟨fb,fo,e3,-,-⟩:=hLd.s2.f k hlt;dsimp only at e3;subst e3;have HCn2:=h_ (HCn.u j k wr.drew _ hjt hlt hLd.s2);dsimp only at HCn2;have hup:(m.F[k]).lb<0->anyR m j k=true->F (lf j*N+lf k)=true:=fun h1 h2=>HSol.u.up k hlt (by rw[qge hlt];exact h1) j hjt h2;have hjN:=HSol.u.lt j hjt;have hkN:=HSol.u.lt k hlt;obtain⟨ix,hix0⟩:=Nq (lf j*N+lf k);have hix:ix<s:=(by rw[<- hix0];exact qgv hjN hkN HSq.u);obtain⟨y1,hy1⟩:=Nq (lf j*N);have hy1':((lf j:Nat):Int)*(N:Int)=(y1:Int):=(by rw[<- hy1];exact(Za _ _).symm);have hw1:IntKind.i64.wrap (((lf j:Nat):Int)*(N:Int))=(y1:Int):=(by rw[hy1',IntKind.wrap_i64];omega);have hw2:IntKind.i64.wrap ((y1:Int)+((lf k:Nat):Int))=(ix:Int):=(by rw[IntKind.wrap_i64];omega);rw[hix0]at hup;obtain⟨lb1,lo1,rfl,-,-⟩:=hLd.bl ix hix;have hix':(ix:Int)<s:=(by omega);have ix0:(0:Int)<=ix:=(by omega);have HLd:=h_ hLd;have HOd:=h_ (qaq ho hbd);have HBd:Hi (Below B W7 wr.drew):=h_ hb.drew;obtain⟨q,hqe⟩:=Nq (anyR m j k);rw[hqe]at hup HCn2;clear hqe ho hb hbd hLd hix0 hy1 hy1';go_wp2_with fail;refine wp_region_held_drew (S:=fun w'=>LeO m ⟨bl,blc,bp,bpc,br,brc,some ⟨fb,fo,none⟩,bfc,bfa⟩ X2 XL (some ⟨lb1,lo1,none⟩) b2 b3 d1 d2 d3 N s bt tp F J (some ⟨pb,po,none⟩) lf am lm fm w') (by kernel_rfl) HLd.u (fun zz=>?_);refine tkL 0 114 (Yc X2 3) zz ?_;refine tkL 1 115 (.slice (some ⟨fb,fo,none⟩) m.F.length bfc) zz ?_ (hy:=fun w hS=>by have h1:=(quad hS.k2).2.2.2;simp[execOp,go_sem,h1]);refine tkL 2 116 (J9 k) zz ?_;refine tkL 3 117 (.pointer (some ⟨fb,fo+k*9,none⟩)) zz ?_;refine tkL 4 118 (.pointer (some ⟨fb,fo+k*9+2,none⟩)) zz ?_;refine tkL 5 119 (J9 (m.F[k]).lb) zz ?_ (hy:=fun w hS=>by obtain⟨fb2,fo2,e3,⟨-,-,-,h1,-⟩,-⟩:=hS.s2.f k hlt;cases e3;simp[execOp,go_sem,h1]);by_cases hneg:(m.F[k]).lb<0
      . have hsz:B<=wr.drew.heap.size:=HBs.u _ HBd.u
        refine tkL 6 120 (.bool true) zz ?_ (hy:=fun w hS=>by simp[execOp,go_sem,hneg]);refine tkL 7 121 (.bool true) zz ?_;refine tkL 8 122 (.agg (Jb bl m blc bp bpc br brc (some ⟨fb,fo,none⟩) bfc)) zz ?_ (hy:=fun w hS=>by obtain⟨q0,q1,q2,q3⟩:=quad hS.k2;simp[execOp,go_sem,q0,q1,q2,q3]);refine tkL 9 123 (J9 j) zz ?_;refine tkL 10 124 (J9 k) zz ?_;refine callY (i:=11) (f:=9) (args:=#[.agg (Jb bl m blc bp bpc br brc (some ⟨fb,fo,none⟩) bfc),J9 j,J9 k]) (R:=fun u wq=>u=.bool q/\Below wr.drew.heap.size wr.drew wq) 125 rfl rfl (by rfl) (by kernel_rfl) (by simp[execOp,go_sem]) (HCn2.u.mono fun e w6 ⟨he,hb⟩=>⟨_,he,rfl,hb⟩) ?_;rintro u U ⟨rfl,hb⟩;replace zz:=HLd.u.mono hb;have HO2:=h_ (qaq HOd.u hb);have HB2:=h_ (HBd.u.trans (hb.mono hsz));refine⟨zz,?_⟩;clear hb HCn2 HLd HOd HBd hsz;refine outL (by(first | simp only[Yd,Ye] | skip);rfl) (by(first | simp only[Yd,Ye] | skip);rfl) ?_;refine tkL 12 126 (.bool q) zz ?_;refine tkL 13 127 (.bool q) zz ?_;cases q
        . skip
          refine skL 14 128 zz ?_;refine skL 15 129 zz ?_;refine skL 16 130 zz ?_;refine skL 17 131 zz ?_;refine skL 18 132 zz ?_;refine skL 19 133 zz ?_;refine skL 20 134 zz ?_;refine skL 21 135 zz ?_;refine skL 22 136 zz ?_;refine skL 23 137 zz ?_;refine skL 24 138 zz ?_;refine skL 25 139 zz ?_;refine skL 26 140 zz ?_;refine skL 27 141 zz ?_;refine skL 28 142 zz ?_;refine skL 29 143 zz ?_;refine skL 30 144 zz ?_;refine tkL 31 145 (.bool false) zz ?_;refine wpAnyH_done (by kernel_rfl) ?_ _;clear zz hup;go_wp2_with fail;go_roundw
          case rel=>exact⟨j+1,by omega,by go_num,HO2.u,HB2.u⟩
          case measure=>simp[intOf];omega
        . have hFx:=hup hneg rfl
          refine tkL 14 128 (Yc XL 1) zz ?_;refine tkL 15 129 (.slice (some ⟨lb1,lo1,none⟩) s d1) zz ?_ (hy:=fun w hS=>by have h1:=hS.kl.cell 1;simp only[Yh,Yo]at h1;simp[execOp,go_sem,h1]);refine tkL 16 130 (.slice (some ⟨pb,po,none⟩) m.F.length c7) zz ?_;refine tkL 17 131 (J9 j) zz ?_;refine tkL 18 132 (Yc pb (po+j)) zz ?_;refine tkL 19 133 (J9 (lf j:Nat)) zz ?_ (hy:=fun w hS=>by obtain⟨pb2,po2,e3,-,h1⟩:=hS.p.at j (by rw[qhy];exact hjt);cases e3;rw[qhx]at h1;simp[execOp,go_sem,h1]);refine tkL 20 134 (Yc XL 0) zz ?_;refine tkL 21 135 (J9 N) zz ?_ (hy:=fun w hS=>by have h1:=hS.kl.cell 0;simp only[Yh]at h1;simp[execOp,go_sem,h1]);refine tkL 22 136 (J9 y1) zz ?_ (hy:=fun w hS=>by simp[execOp,go_sem,hw1]);refine tkL 23 137 (.slice (some ⟨pb,po,none⟩) m.F.length c7) zz ?_;refine tkL 24 138 (J9 k) zz ?_;refine tkL 25 139 (Yc pb (po+k)) zz ?_;refine tkL 26 140 (J9 (lf k:Nat)) zz ?_ (hy:=fun w hS=>by obtain⟨pb2,po2,e3,-,h1⟩:=hS.p.at k (by rw[qhy];exact hlt);cases e3;rw[qhx]at h1;simp[execOp,go_sem,h1]);refine tkL 27 141 (J9 ix) zz ?_ (hy:=fun w hS=>by simp[execOp,go_sem,hw2]);refine tkL 28 142 (Yc lb1 (lo1+ix)) zz ?_;refine tkL 29 143 (.bool true) zz ?_ (hy:=fun w hS=>by obtain⟨lb2,lo2,e3,-,h1⟩:=hS.bl ix hix;cases e3;rw[hFx]at h1;simp[execOp,go_sem,h1]);refine tkL 30 144 (.bool false) zz ?_;refine tkL 31 145 (.bool false) zz ?_;refine wpAnyH_done (by kernel_rfl) ?_ _;clear zz hup hFx;go_wp2_with fail;go_roundw
          case rel=>exact⟨j+1,by omega,by go_num,HO2.u,HB2.u⟩
          case measure=>simp[intOf];omega
      . have hneg':¬ (m.F[k]).lb<0:=hneg
        refine tkL 6 120 (.bool false) zz ?_ (hy:=fun w hS=>by simp[execOp,go_sem];try omega);refine tkL 7 121 (.bool false) zz ?_;refine skL 8 122 zz ?_;refine skL 9 123 zz ?_;refine skL 10 124 zz ?_;refine skL 11 125 zz ?_;refine tkL 12 126 (.bool false) zz ?_;refine tkL 13 127 (.bool false) zz ?_;refine skL 14 128 zz ?_;refine skL 15 129 zz ?_;refine skL 16 130 zz ?_;refine skL 17 131 zz ?_;refine skL 18 132 zz ?_;refine skL 19 133 zz ?_;refine skL 20 134 zz ?_;refine skL 21 135 zz ?_;refine skL 22 136 zz ?_;refine skL 23 137 zz ?_;refine skL 24 138 zz ?_;refine skL 25 139 zz ?_;refine skL 26 140 zz ?_;refine skL 27 141 zz ?_;refine skL 28 142 zz ?_;refine skL 29 143 zz ?_;refine skL 30 144 zz ?_;refine tkL 31 145 (.bool false) zz ?_;refine wpAnyH_done (by kernel_rfl) ?_ _;clear zz hup;go_wp2_with fail;go_roundw
        case rel=>exact⟨j+1,by omega,by go_num,HOd.u,HBd.u⟩
        case measure=>simp[intOf];omega
    . have hjt':¬ (j:Int)<(m.F.length:Int):=by omega
      have HOr:=h_ ho;have HBr:=h_ hb;clear ho hb hj hjt;go_wp2_with fail;go_meet;exact⟨HOr.u,HBr.u⟩
  case rest =>
   clear HO HBk;obtain⟨ho,hb⟩:=hcut;have hL:=HLm.u wc hb;obtain⟨fb,fo,e3,⟨-,-,-,z2,-⟩,-⟩:=hL.s2.f k hlt;dsimp only at e3 z2;subst e3;have y3:=(quad hL.k2).2.2.2;have x0:=hL.kl.cell 0;have x4:=hL.kl.cell 4;simp only[Yh,Yo]at x0 x4;have HBm:=h_ hL.by';have hdN:=HSol.u.decl k hlt;have hlN:=HSol.u.lt k hlt;rw[qge hlt]at hdN;obtain⟨lbv,hlb⟩:∃z,(m.F[k]).lb=z:=⟨_,rfl⟩;rw[hlb]at z2 hdN;have HLb:Hi ((fAt m k).lb=lbv):=h_ (by rw[qge hlt];exact hlb);have HOk:=h_ ho;have HBk:=h_ hb;obtain⟨kk,hkk⟩:=Nq (2*k);have hk2:(2:Int)*(k:Int)=(kk:Int):=by omega
   have hkb:kk<=400:=by omega
   have HCw2:=h_ (HCw.u kk (by omega) wc HBm.u);have HLl:=h_ hlN;have HDn:Hi (0<=lbv->lbv.toNat<N/\((lbv.toNat:Nat):Int)=lbv):=h_ fun h=>by have:=hdN h;omega
   have HL0:=h_ HLt.u.bl;clear hL hlb ho hb hdN hlN hkk;have k0:(0:Int)<=k:=by omega
   go_upto_if 153 with fail
   go_cut [15] from 153 to 169 (fun s wx=>∃x:Nat,s=J9 x/\x<N/\(0<=lbv->(x:Int)=lbv)/\wx.ownsRow B 3 1 (.slice a8 k c8) k (ui (lsL g k))/\Below B W7 wx)
   case first => as_aux_lemma =>
    by_cases hneg:lbv<0
    . have hpos:¬ 0<=lbv:=by omega
      go_wp2_with fail
      try rw[hk2]
      refine HCw2.u.mono ?_;rintro e w' ⟨z,rfl,hz,hw'⟩;rw[hw'];clear hw' w';obtain⟨r3,hr3⟩:=Nq (z % 3);have hr3':(z:Int).tmod 3=(r3:Int):=(by rw[<- hr3];rfl);have hr3'':(z:Int) % 3=(r3:Int):=(by rw[<- hr3];rfl);by_cases h3:r3=0
      . have h3':((r3:Int)==0)=true:=by rw[h3];rfl
        have hN0:¬ N=0:=(by omega);have hbd:Below wc.heap.size wc wc.drew:=(bR _ _).drew;obtain⟨kk1,hkk1⟩:=Nq (kk+1);have HCw3:=h_ (HCw.u kk1 (by omega) wc.drew (HBm.u.mono hbd));have hk3:IntKind.i64.wrap ((kk:Int)+1)=(kk1:Int):=(by rw[IntKind.wrap_i64];omega);have hkw:IntKind.i64.wrap ((2:Int)*(k:Int))=(kk:Int):=(by rw[hk2,IntKind.wrap_i64];omega);have HSx:Hi (wc.drew.cell? ⟨XL,0,none⟩=some (J9 N)):=h_ (by exact x0);have HOd:=h_ (qaq HOk.u hbd);have HBd:=h_ HBk.u.drew;clear h3 hr3 hbd;go_wp2_with fail;refine wp_region_held_drew (S:=fun w'=>w'.cell? ⟨XL,0,none⟩=some (J9 N)) (by kernel_rfl) HSx.u (fun zz=>?_);refine tkL 0 162 (.slice am lm cm) zz ?_;refine tkL 1 163 (J9 k) zz ?_;refine tkL 2 164 (J9 kk) zz ?_ (hy:=fun w hS=>by simp[execOp,go_sem,hkw]);refine tkL 3 165 (J9 kk1) zz ?_ (hy:=fun w hS=>by simp[execOp,go_sem,hk3]);refine tkL 5 167 (Yc XL 0) zz ?_;refine tkL 6 168 (J9 N) zz ?_ (hy:=fun w hS=>by have h1:=hS;simp[execOp,go_sem,h1]);refine callY (i:=4) (f:=10) (args:=#[.slice am lm cm,J9 kk1]) (R:=fun u wq=>∃z:Nat,u=J9 z/\z<=1000000/\wq=wc.drew) 166 rfl rfl (by rfl) (by kernel_rfl) (by simp[execOp,go_sem]) (HCw3.u.mono fun e w6 ⟨z,he,hz,hb⟩=>⟨_,he,z,rfl,hz,hb⟩) ?_;rintro u U ⟨z2,rfl,hz2,rfl⟩;refine⟨HSx.u,?_⟩;obtain⟨xx,hxx⟩:=Nq (z2 % N);have hxl:xx<N:=(by rw[<- hxx];exact Vq _ (by omega));have hx1:(z2:Int).tmod (N:Int)=(xx:Int):=(by rw[<- hxx];rfl);refine outL (by(first | simp only[Yd,Ye] | skip);rfl) (by(first | simp only[Yd,Ye] | skip);rfl) ?_;refine tkL 7 169 (J9 xx) zz ?_ (hy:=fun w hS=>by simp[execOp,go_sem,hx1,hN0]);refine tkL 8 15 (J9 xx) zz ?_;refine wpAnyH_done (by kernel_rfl) ?_ _;clear zz hxx hx1;go_wp2_with fail;go_meet;exact⟨xx,rfl,hxl,fun h=>by omega,HOd.u,HBd.u⟩
      . have h3':((r3:Int)==0)=false:=Yf.2 (by omega)
        clear h3 hr3;go_wp2_with fail;go_meet;exact⟨bt,rfl,HL0.u,fun h=>by omega,HOk.u,HBk.u⟩
    . have hpos:0<=lbv:=by omega
      go_wp2_with fail;go_meet;exact⟨lbv.toNat,by rw[(HDn.u hpos).2],(HDn.u hpos).1,fun _=>(HDn.u hpos).2,HOk.u,HBk.u⟩
   case rest => as_aux_lemma =>
    clear HOk HBk HBm HCw2 HLl HDn HL0 x0 x4 y3 z2 hk2 hkb kk;obtain⟨x,rfl,hxN,hxd,ho,hb⟩:=hcut;obtain⟨i0,hi,hz0,hz1,hz2⟩:=info_parts infoI;have hsB:=HBs.u wc hb;have HT:Hi (lsL (up g k x) (k+1)=lsL g k++[x]):=h_ (by rw[qdd,up_at,qad fun i hi=>up_ne g x (Nat.ne_of_lt hi)]);have HRn:Hi (RzK m N (up g k x) (k+1)):=h_ fun i hi=>by
     by_cases e:i=k
     . subst e
       rw[up_at,HLb.u];exact⟨hxN,hxd⟩
     . rw[up_ne _ _ e]
       exact HRz.u i (by omega)
    have HO3:=h_ ho;have HB3:=h_ hb;clear ho hb hxd HLb HRz;go_wp2_with (at_builtin;refine wpList_append_own _ rfl _ _ 30 rfl B 3 i0 _ 1 8 Tryz.underlying30 hi hz0 hz1 hz2 rfl (by omega) _ _ _ rfl (HO3.u.alloc _) ⟨wc.heap.size,0,none⟩ 1 1 [J9 x] rfl rfl (qc6 wc 3 _) (by simp[Value.oneCell']) (by unfold maxLen;omega) (by omega) (by simp;omega) ?_);intro v' w3 ho' hgr' _;have hO4:w3.ownsRow B 3 1 v' (k+1) (ui (lsL (up g k x) (k+1))):=(by rw[HT.u];simpa [ui] using ho');obtain⟨a9,c9,e9,-,-⟩:=q8b hO4;subst e9;have HO4:=h_ hO4;have HB4:=h_ ((HB3.u.alloc hsB (.cells #[J9 x] 3)).grown hgr' (by simp;omega) (fun q' e=>q87 HO3.u e));clear ho' hgr' hi hz0 hz1 hz2 hO4;go_wp2_with fail;go_roundw
    case rel=>first | exact⟨k+1,_,_,_,by omega,by go_num,rfl,HO4.u,HRn.u,HB4.u⟩ | ((repeat apply Exists.intro);exact⟨⟨k+1,_,_,_,by omega,by go_num,rfl,HO4.u,HRn.u,HB4.u⟩,rfl⟩)
    case measure=>simp[intOf];omega
 case neg =>
 have hlt':¬ (k:Int)<(m.F.length:Int):=by omega
 obtain rfl:m.F.length=k:=by omega
 have hRz:Rz m N g:=⟨fun i hi=>(HRz.u i hi).1,fun i hi=>(HRz.u i hi).2⟩
 have HR0:Hi (RoI m N (fun a b=>F (a*N+b)) g true 0):=h_ ⟨hRz,fun _=>nZ _,fun h=>by cases h⟩
 clear hRz HRz hk hlt
 obtain⟨mu,hmu⟩:=Nq (m.F.length*N)
 have hmu':(m.F.length:Int)*(N:Int)=(mu:Int):=by rw[<- hmu];exact(Za _ _).symm
 have hmub:mu<=6400:=by rw[<- hmu];exact Vn hnf hN2
 have HMu:=h_ hmu
 clear hmu
 go_wp2_with fail
 clear hlt'
 go_loopw [16,17,18,19,20] (fun cv rv _ _ _ wr=>∃(cb:Bool) (r:Nat) (g:Nat->Nat),cv=.bool cb/\rv=J9 r/\r<=mu+1/\RoI m N (fun a b=>F (a*N+b)) g cb r/\wr.ownsRow B 3 1 (.slice a8 m.F.length c8) m.F.length (ui (lsL g m.F.length))/\Below B W7 wr) (fun _ rv _ _ _ _=>mu+1 - (intOf rv).toNat)
 case atStart=>exact⟨true,0,g,rfl,rfl,nZ _,HR0.u,HO.u,HBk.u⟩
 case round =>
 clear HR0 HO HBk g
 obtain⟨cb,r,g,rfl,rfl,hr,hro,ho,hb⟩:=hrel
 have x0:=(HLm.u wr hb).kl.cell 0
 simp only[Yh]at x0
 have HRo:=h_ hro;have HO:=h_ ho;have HBk:=h_ hb
 clear hro ho hb
 by_cases hgo:r<=mu/\cb=true
 case pos => as_aux_lemma =>
  obtain⟨hr2,rfl⟩:=hgo;have hr':(r:Int)<=(mu:Int):=by omega
  have HRd:=h_ (RdI.start HLt.u HRo.u.rz);go_wp2_with fail;clear x0;go_loopw [16,18,19,20] (fun cv kv _ _ wr=>∃(cb:Bool) (k:Nat) (h:Nat->Nat),cv=.bool cb/\kv=J9 k/\k<=m.F.length/\RdI m N (fun a b=>F (a*N+b)) g h cb k 0/\wr.ownsRow B 3 1 (.slice a8 m.F.length c8) m.F.length (ui (lsL h m.F.length))/\Below B W7 wr) (fun _ kv _ _ _=>m.F.length - (intOf kv).toNat)
  case atStart=>exact⟨false,0,g,rfl,rfl,nZ _,HRd.u,HO.u,HBk.u⟩
  case round =>
  clear HRd HO HBk;obtain⟨cb,k,h,rfl,rfl,hk,hrd,ho,hb⟩:=hrel;have HRd:=h_ hrd;have HO:=h_ ho;have HBk:=h_ hb;clear hrd ho hb;by_cases hlt:k<m.F.length
  case pos =>
   have hlt':(k:Int)<m.F.length:=by omega
   go_wp2_with fail;go_loopw [16,19,20] (fun cv jv _ wr=>∃(cb:Bool) (j:Nat) (h:Nat->Nat),cv=.bool cb/\jv=J9 j/\j<=m.F.length/\RdI m N (fun a b=>F (a*N+b)) g h cb k j/\wr.ownsRow B 3 1 (.slice a8 m.F.length c8) m.F.length (ui (lsL h m.F.length))/\Below B W7 wr) (fun _ jv _ _=>m.F.length - (intOf jv).toNat)
   case atStart=>exact⟨cb,0,h,rfl,rfl,nZ _,HRd.u,HO.u,HBk.u⟩
   case round =>
   clear HRd HO HBk;obtain⟨cb,j,h,rfl,rfl,hj,hrd,ho,hb⟩:=hrel;by_cases hjt:j<m.F.length
   case pos =>
    have hjt':(j:Int)<m.F.length:=(by omega);have k0:(0:Int)<=k:=(by omega);have j0:(0:Int)<=j:=(by omega);have hL:=HLm.u wr hb;obtain⟨fb,fo,e3,⟨-,-,-,z2,-⟩,-⟩:=hL.s2.f k hlt;dsimp only at e3 z2;subst e3;obtain⟨y0,y1,y2,y3⟩:=quad hL.k2;have HCn2:=h_ (HCn.u j k wr _ hjt hlt hL.s2);dsimp only at HCn2;obtain⟨lbv,hlb⟩:∃z,(m.F[k]).lb=z:=⟨_,rfl⟩;rw[hlb]at z2;have HLb:Hi ((fAt m k).lb=lbv):=h_ (by rw[qge hlt];exact hlb);have hsz:=HBs.u wr hb;obtain⟨q,hqe⟩:=Nq (anyR m j k);rw[hqe]at HCn2;have HQ:=h_ hqe;have HRd:=h_ hrd;have HO:=h_ ho;have HBk:=h_ hb;clear hL hlb hqe hrd ho hb;by_cases hneg:lbv<0
    . have HNeg:=h_ hneg
      go_wp2_with fail;refine HCn2.u.mono ?_;rintro e U ⟨rfl,hb⟩;have HO2:=h_ (qaq HO.u hb);have HB2:=h_ (HBk.u.trans (hb.mono hsz));clear hb HO HBk HCn2 y0 y1 y2 y3 z2;cases q
      . have HRn:=h_ (HRd.u.skip (fun hh=>by have:=HQ.u;rw[hh.2]at this;cases this))
        go_wp2_with fail;go_roundw
        case rel=>exact⟨cb,j+1,h,rfl,by go_num,by omega,HRn.u,HO2.u,HB2.u⟩
        case measure=>simp[intOf];omega
      . have HRn:=h_ (HRd.u.rise HLt.u hlt hjt (by rw[HLb.u];exact HNeg.u))
        have hkN:=HRd.u.rz.lt k hlt;have hjN:=HRd.u.rz.lt j hjt;obtain⟨ix,hix0⟩:=Nq (h k*N+h j);have hix:ix<s:=(by rw[<- hix0];exact qgv hkN hjN HSq.u);have hJx:=HJ.u (h k) (h j) hkN hjN;rw[hix0]at hJx;obtain⟨vv,hvv⟩:=Nq (jn (h k) (h j));rw[hvv]at hJx HRn;obtain⟨yy,hy1⟩:=Nq (h k*N);have hy1':((h k:Nat):Int)*(N:Int)=(yy:Int):=(by rw[<- hy1];exact(Za _ _).symm);have hw1:IntKind.i64.wrap (((h k:Nat):Int)*(N:Int))=(yy:Int):=(by rw[hy1',IntKind.wrap_i64];omega);have hw2:IntKind.i64.wrap ((yy:Int)+((h j:Nat):Int))=(ix:Int):=(by rw[IntKind.wrap_i64];omega);have hix':(ix:Int)<s:=(by omega);have ix0:(0:Int)<=ix:=(by omega);have hbd:Below U.heap.size U U.drew:=(bR _ _).drew;have hLd:=HLm.u U.drew HB2.u.drew;have hod:=qaq HO2.u hbd;obtain⟨G,e8,hGl,zk⟩:=qj6 hod hlt;obtain⟨G',e6,hgb,-⟩:=qdp hod hlt;rw[e8]at e6;cases e6;subst e8;obtain⟨jb,jo,rfl,-,-⟩:=hLd.ji ix hix;have fk:=hod.frozenAt k;have HO4:Hi ((U.drew.setCell ⟨G,k,none⟩ (J9 (vv:Nat))).ownsRow B 3 1 (.slice (some ⟨G,0,none⟩) m.F.length c8) m.F.length (ui (lsL (up h k vv) m.F.length))):=h_ (by
         have h1:=(hod.stored k (J9 (vv:Nat))).1;rw[qhz]at h1;exact h1)
        have HB4:=h_ (HB2.u.drew.setCell (p:=⟨G,k,none⟩) hgb (J9 (vv:Nat)));have HSd:Hi (LeO m ⟨bl,blc,bp,bpc,br,brc,some ⟨fb,fo,none⟩,bfc,bfa⟩ X2 XL b1 (some ⟨jb,jo,none⟩) b3 d1 d2 d3 N s bt tp F J a7 lf am lm fm U.drew/\U.drew.ownsRow B 3 1 (.slice (some ⟨G,0,none⟩) m.F.length c8) m.F.length (ui (lsL h m.F.length))):=h_ ⟨hLd,hod⟩;clear hbd hLd hod hgb hGl hvv hy1 hy1' hix0 HO2 HB2 HRd HQ HNeg HLb;go_wp2_with fail;refine wp_region_held_drew (S:=fun w'=>LeO m ⟨bl,blc,bp,bpc,br,brc,some ⟨fb,fo,none⟩,bfc,bfa⟩ X2 XL b1 (some ⟨jb,jo,none⟩) b3 d1 d2 d3 N s bt tp F J a7 lf am lm fm w'/\w'.ownsRow B 3 1 (.slice (some ⟨G,0,none⟩) m.F.length c8) m.F.length (ui (lsL h m.F.length))) (by kernel_rfl) HSd.u (fun zz=>?_);clear HSd;refine tkL 0 208 (Yc XL 2) zz ?_;refine tkL 1 209 (.slice (some ⟨jb,jo,none⟩) s d2) zz ?_ (hy:=fun w hS=>by have h1:=hS.1.kl.cell 2;simp only[Yh,Yo]at h1;simp[execOp,go_sem,h1]);refine tkL 2 210 (.slice (some ⟨G,0,none⟩) m.F.length c8) zz ?_;refine tkL 3 211 (J9 k) zz ?_;refine tkL 4 212 (Yc G k) zz ?_;refine tkL 5 213 (J9 (h k:Nat)) zz ?_ (hy:=fun w hS=>by obtain⟨G2,e3,-,h1⟩:=qj6 hS.2 hlt;cases e3;simp[execOp,go_sem,h1]);refine tkL 6 214 (Yc XL 0) zz ?_;refine tkL 7 215 (J9 N) zz ?_ (hy:=fun w hS=>by have h1:=hS.1.kl.cell 0;simp only[Yh]at h1;simp[execOp,go_sem,h1]);refine tkL 8 216 (J9 yy) zz ?_ (hy:=fun w hS=>by simp[execOp,go_sem,hw1]);refine tkL 9 217 (.slice (some ⟨G,0,none⟩) m.F.length c8) zz ?_;refine tkL 10 218 (J9 j) zz ?_;refine tkL 11 219 (Yc G j) zz ?_;refine tkL 12 220 (J9 (h j:Nat)) zz ?_ (hy:=fun w hS=>by obtain⟨G2,e3,-,h1⟩:=qj6 hS.2 hjt;cases e3;simp[execOp,go_sem,h1]);refine tkL 13 221 (J9 ix) zz ?_ (hy:=fun w hS=>by simp[execOp,go_sem,hw2]);refine tkL 14 222 (Yc jb (jo+ix)) zz ?_;refine tkL 15 223 (J9 (vv:Nat)) zz ?_ (hy:=fun w hS=>by obtain⟨jb2,jo2,e3,-,h1⟩:=hS.1.ji ix hix;cases e3;rw[hJx]at h1;simp[execOp,go_sem,h1]);refine tkL 16 20 (J9 (vv:Nat)) zz ?_;refine wpAnyH_done (by kernel_rfl) ?_ _;clear zz hJx hw1 hw2;obtain⟨U2,hU2⟩:=Nq U.drew;rw[hU2]at zk fk HO4 HB4⊢;clear hU2;obtain⟨gk,hgk⟩:=Nq (h k);rw[hgk]at zk HRn;have HGk:=h_ hgk;clear hgk;by_cases hv:vv=gk
        . have hqb:(((vv:Nat):Int) != ((gk:Nat):Int))=false:=by rw[hv];simp
          rw[show decide (vv≠gk)=false from Yi (fun hh=>hh hv),Bool.or_false]at HRn;clear hv;go_wp2_with fail;go_roundw
          case rel=>exact⟨cb,j+1,up h k vv,rfl,by go_num,by omega,HRn.u,HO4.u,HB4.u⟩
          case measure=>simp[intOf];omega
        . have hqb:(((vv:Nat):Int) != ((gk:Nat):Int))=true:=by simp;omega
          rw[show decide (vv≠gk)=true from Ym hv,Bool.or_true]at HRn;clear hv;go_wp2_with fail;go_roundw
          case rel=>exact⟨true,j+1,up h k vv,rfl,by go_num,by omega,HRn.u,HO4.u,HB4.u⟩
          case measure=>simp[intOf];omega
    . have HRn:=h_ (HRd.u.skip (fun hh=>hneg (by rw[<- HLb.u];exact hh.1)))
      clear HCn2;go_wp2_with fail;go_roundw
      case rel=>exact⟨cb,j+1,h,rfl,by go_num,by omega,HRn.u,HO.u,HBk.u⟩
      case measure=>simp[intOf];omega
   case neg =>
    have hjt':¬ (j:Int)<(m.F.length:Int):=(by omega);obtain rfl:m.F.length=j:=(by omega);have HRn:=h_ hrd.row;have HO:=h_ ho;have HBk:=h_ hb;clear hrd ho hb hjt hj;go_wp2_with fail;go_roundw
    case rel=>exact⟨cb,k+1,h,rfl,by go_num,by omega,HRn.u,HO.u,HBk.u⟩
    case measure=>simp[intOf];omega
  case neg =>
   have hlt':¬ (k:Int)<(m.F.length:Int):=by omega
   obtain rfl:m.F.length=k:=by omega
   have HRn:=h_ (HRo.u.next HRd.u);clear hlt hk;go_wp2_with fail;go_roundw
   case rel=>exact⟨cb,r+1,h,rfl,by go_num,by omega,HRn.u,HO.u,HBk.u⟩
   case measure=>simp[intOf];omega
 case neg =>
 have HSg:=h_ (HRo.u.done (by rw[HMu.u];exact hgo))
 clear HRo HMu
 have hcase:(¬ (r:Int)<=(mu:Int))∨((r:Int)<=(mu:Int)/\cb=false):=by
  by_cases h1:r<=mu
  . refine .inr ⟨by omega,?_⟩
    cases cb
    . rfl
    . exact absurd ⟨h1,rfl⟩ hgo
  . exact .inl (by omega)
 clear hgo
 rcases hcase with hr2 | ⟨hr2,rfl⟩
 all_goals as_aux_lemma =>
  go_wp2_with fail;clear x0 hr2;go_loopw [21] (fun i wr=>∃k:Nat,k<=m.F.length/\i=J9 k/\wr.ownsRow B 3 1 (.slice a8 m.F.length c8) m.F.length (ui (lsL g m.F.length))/\Below B W7 wr) (fun i _=>m.F.length - (intOf i).toNat)
  case atStart=>exact⟨0,nZ _,rfl,HO.u,HBk.u⟩
  case round =>
   clear HO HBk;obtain⟨k,hk,rfl,ho,hb⟩:=hrel;by_cases hlt:k<m.F.length
   . have hlt':(k:Int)<m.F.length:=by omega
     have k0:(0:Int)<=k:=(by omega);have hFx:F (lf k*N+g k)=true:=HLow.u g HSg.u k hlt;have hfN:=HSol.u.lt k hlt;have hgN:=HSg.u.lt k hlt;obtain⟨ix,hix0⟩:=Nq (lf k*N+g k);have hix:ix<s:=(by rw[<- hix0];exact qgv hfN hgN HSq.u);rw[hix0]at hFx;obtain⟨yy,hy1⟩:=Nq (lf k*N);have hy1':((lf k:Nat):Int)*(N:Int)=(yy:Int):=(by rw[<- hy1];exact(Za _ _).symm);have hw1:IntKind.i64.wrap (((lf k:Nat):Int)*(N:Int))=(yy:Int):=(by rw[hy1',IntKind.wrap_i64];omega);have hw2:IntKind.i64.wrap ((yy:Int)+((g k:Nat):Int))=(ix:Int):=(by rw[IntKind.wrap_i64];omega);have hix':(ix:Int)<s:=(by omega);have ix0:(0:Int)<=ix:=(by omega);have hbd:Below wr.heap.size wr wr.drew:=(bR _ _).drew;have hLd:=HLm.u wr.drew hb.drew;have hod:=qaq ho hbd;obtain⟨G,rfl,-,-⟩:=qj6 hod hlt;obtain⟨pb,po,rfl,-,-⟩:=hLd.p.at k (by rw[qhy];exact hlt);obtain⟨lb1,lo1,rfl,-,-⟩:=hLd.bl ix hix;have HOd:=h_ hod;have HBd:=h_ hb.drew;have HSd:Hi (LeO m ⟨bl,blc,bp,bpc,br,brc,bf,bfc,bfa⟩ X2 XL (some ⟨lb1,lo1,none⟩) b2 b3 d1 d2 d3 N s bt tp F J (some ⟨pb,po,none⟩) lf am lm fm wr.drew/\wr.drew.ownsRow B 3 1 (.slice (some ⟨G,0,none⟩) m.F.length c8) m.F.length (ui (lsL g m.F.length))):=h_ ⟨hLd,hod⟩;clear ho hb hbd hLd hod hix0 hy1 hy1';go_wp2_with fail;refine wp_region_held_drew (S:=fun w'=>LeO m ⟨bl,blc,bp,bpc,br,brc,bf,bfc,bfa⟩ X2 XL (some ⟨lb1,lo1,none⟩) b2 b3 d1 d2 d3 N s bt tp F J (some ⟨pb,po,none⟩) lf am lm fm w'/\w'.ownsRow B 3 1 (.slice (some ⟨G,0,none⟩) m.F.length c8) m.F.length (ui (lsL g m.F.length))) (by kernel_rfl) HSd.u (fun zz=>?_);clear HSd;refine tkL 0 239 (Yc XL 1) zz ?_;refine tkL 1 240 (.slice (some ⟨lb1,lo1,none⟩) s d1) zz ?_ (hy:=fun w hS=>by have h1:=hS.1.kl.cell 1;simp only[Yh,Yo]at h1;simp[execOp,go_sem,h1]);refine tkL 2 241 (.slice (some ⟨pb,po,none⟩) m.F.length c7) zz ?_;refine tkL 3 242 (J9 k) zz ?_;refine tkL 4 243 (Yc pb (po+k)) zz ?_;refine tkL 5 244 (J9 (lf k:Nat)) zz ?_ (hy:=fun w hS=>by obtain⟨pb2,po2,e3,-,h1⟩:=hS.1.p.at k (by rw[qhy];exact hlt);cases e3;rw[qhx]at h1;simp[execOp,go_sem,h1]);refine tkL 6 245 (Yc XL 0) zz ?_;refine tkL 7 246 (J9 N) zz ?_ (hy:=fun w hS=>by have h1:=hS.1.kl.cell 0;simp only[Yh]at h1;simp[execOp,go_sem,h1]);refine tkL 8 247 (J9 yy) zz ?_ (hy:=fun w hS=>by simp[execOp,go_sem,hw1]);refine tkL 9 248 (.slice (some ⟨G,0,none⟩) m.F.length c8) zz ?_;refine tkL 10 249 (J9 k) zz ?_;refine tkL 11 250 (Yc G k) zz ?_;refine tkL 12 251 (J9 (g k:Nat)) zz ?_ (hy:=fun w hS=>by obtain⟨G2,e3,-,h1⟩:=qj6 hS.2 hlt;cases e3;simp[execOp,go_sem,h1]);refine tkL 13 252 (J9 ix) zz ?_ (hy:=fun w hS=>by simp[execOp,go_sem,hw2]);refine tkL 14 253 (Yc lb1 (lo1+ix)) zz ?_;refine tkL 15 254 (.bool true) zz ?_ (hy:=fun w hS=>by obtain⟨lb2,lo2,e3,-,h1⟩:=hS.1.bl ix hix;cases e3;rw[hFx]at h1;simp[execOp,go_sem,h1]);refine tkL 16 255 (.bool false) zz ?_;refine wpAnyH_done (by kernel_rfl) ?_ _;clear zz hFx hw1 hw2;go_wp2_with fail;go_roundw
     case rel=>exact⟨k+1,by omega,by go_num,HOd.u,HBd.u⟩
     case measure=>simp[intOf];omega
   . have hlt':¬ (k:Int)<(m.F.length:Int):=by omega
     have HBz:=h_ (HBf.u wr hb);clear ho hb hk hlt;go_wp2_with fail;go_ret;exact⟨rfl,HBz.u⟩
theorem q3z (len lm:Nat)(f fm:Nat->Nat)(a am:Option Addr)(c cm:Nat)(w:World)(hby:Byts w a len f)(hbm:Byts w am lm fm)(ht:Tabs w)(hy:TyW w)(htb:Tab w)(HX:len<=1048576->DrwG len f) :
 Calls Tryz.prog 3 #[.slice a len c,.slice am lm cm] w fun r w'=>r=.returned (.bool true)/\Below w.heap.size w w':=by
 by_cases hlen:len<=1048576
 case neg =>
  have hl':(1048576:Int)<len:=by omega
  clear hby ht hy HX hbm htb;go_enter Tryz.func3,Tryz.ntmps3;go_wp2_with fail;go_ret;exact⟨rfl,bR _ _⟩
 by_cases hlm:lm<=1048576
 case neg =>
  have hl':¬ (1048576:Int)<len:=by omega
  have hl2':(1048576:Int)<lm:=by omega
  clear hby ht hy HX hbm htb;go_enter Tryz.func3,Tryz.ntmps3;go_wp2_with fail;go_ret;exact⟨rfl,bR _ _⟩
 obtain⟨m,hf,hc⟩:=q6p len f hlen (HX hlen)
 have HVa:vfB m=true->VfA m:=fun h=>Classical.byContradiction fun hn=>by rw[qbu hn]at h;cases h
 cases hq:vfB m
 . exact q7v len lm f fm a am c cm w hlen hlm hby hbm ht hy htb m hf.1 hc (fun h=>by rw[hq]at h;cases h) (h_ fun W A' hcap hs h1 h2 h3=>q4v m A' W (fun h=>by rw[hq]at h;cases h) hf.1 hcap hs h1 h2 h3)
 have hv:=HVa hq
 rcases dich2 m.L.length m.P.length (pr1 m) (pr2 m) (by have:=hv.np;omega) with ⟨code,h0,h1,h2⟩ | ⟨s,F,J,M,bot,top,-,⟨n,bt,tp,hL⟩,h1,h2⟩
 . exact q7v len lm f fm a am c cm w hlen hlm hby hbm ht hy htb m hf.1 hc (fun _=>⟨code,h0,h1⟩) (h_ fun W A' hcap hs k1 k2 k3=>q4v m A' W (fun _=>⟨code,h0,h2⟩) hf.1 hcap hs k1 k2 k3)
 . have e1:=hL.hb
   have e2:=hL.ht;subst e1 e2;exact q7u len lm f fm a am c cm w hlen hlm hby hbm ht hy htb m hf.1 hc n s bt tp F J M hq h1 (by have:=hL.hN;omega) hL.h1 hL.h32 hL.l1 (fun a b=>(J (a*n+b)).toNat) (qhk hL) (fun a b ha hb=>qcx hL ha hb) hv.nf (h_ fun W A' hcap hs k1 k2 k3=>q4u m A' W bt tp s n bt tp F J M hq hv h2 hL hf.1 hcap hs k1 k2 k3)
end Go.Proofs.YtebbgodlijlioaaGreatDoor
