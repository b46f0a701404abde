import Derived.Test.YtgojgjlninakjaaGreatDoorW49
set_option maxRecDepth 100000
set_option maxHeartbeats 64000000
namespace Go.Proofs.YtgojgjlninakjaaGreatDoor
open Go Go.RowKit
def eL (l:List Ex):Nat->Ex:=fun j=>l.getD j zE
theorem qcc (l:List Ex):(entsV l).length=l.length*5:=by
 induction l with
 | nil=>rfl
 | cons x l ih=>show(eC x++entsV l).length=_;rw[Yd,ih,Yl];show 5+_=_;omega
theorem qho {w:World}{base:Nat}{v:Value}{l:List Ex}(h:OwnE w base v l):∃a c,v=.slice a l.length c/\Ents w a l.length (eL l)/\(0<l.length->∃g N,a=some ⟨g,0,none⟩/\base<=g/\l.length*5<=N/\Bk w g 52 N):=by
 obtain⟨a,c,e,he⟩:=q3k (eL l) (fun k hk=>by unfold eL;rw[Yo,Yc hk];rfl) h
 refine⟨a,c,e,he,fun h0=>?_⟩
 rcases h.2 with ⟨e2,h2⟩ | ⟨g,cap,cur,e2,hg,hq,h4,h5,h6,h7⟩
 . omega
 . have hb:Blk w g 52 cur.toList:=by
    show w.heap[g]? = _;rw[hq]
   obtain⟨rfl,-⟩:a=some ⟨g,0,none⟩/\c=cap:=by simpa using e.symm.trans e2
   refine⟨g,cur.toList.length,rfl,hg,?_,⟨_,hb,rfl⟩⟩;have:=congrArg List.length h7;rw[Za,qcc]at this;omega
structure OldD (m:Fm)(A:MA)(X:Nat)(cs:List Value)(a0:Option Addr)(l:List Ex)(W:World):Prop where
 k:Blk W X 27 cs
 s:MSl W m A
 n:Env W
 p:Ents W a0 l.length (eL l)
theorem OldD.mono {m:Fm}{A:MA}{X:Nat}{cs:List Value}{a0:Option Addr}{l:List Ex}{W W':World}(h:OldD m A X cs a0 l W)(hb:Below W.heap.size W W'):OldD m A X cs a0 l W':=⟨h.k.mono hb h.k.lt,h.s.mono hb,h.n.mono hb,h.p.mono hb⟩
theorem qdb (m:Fm)(A:MA)(s:ByteArray)(l:List Ex)(ok:Bool)(w:World)(hll:l.length<=4000)(hsp:∀W A',s.size<=1048576->MSl W m A'->Calls Tryz.prog 5 #[mV m A',.string s] W fun x w'=>∃u,x=.returned (.tuple #[u,.bool ok])/\OwnE w' W.heap.size u l/\Below W.heap.size W w')(him:∀W A',s.size<=1048576->Caps m A'->MSl W m A'->Env W->Calls Tryz.prog 7 #[mV m A',.string s] W fun x w'=>∃u,x=.returned (.tuple #[u,.bool ok])/\OwnE w' W.heap.size u l/\Below W.heap.size W w')(hf:FitM m)(hs:s.size<=9223372036854775807)(ha:MSl w m A)(he:Env w) :
 Calls Tryz.prog 3 #[mV m A,.string s] w fun x w'=>x=.returned (.bool true)/\Below w.heap.size w w':=by
 obtain⟨al,alc,ap,apc,ar,arc,af,afc,afa⟩:=A
 have HCz:=h_ fun W (hs:MSl W m ⟨al,alc,ap,apc,ar,arc,af,afc,afa⟩)=>qer m ⟨al,alc,ap,apc,ar,arc,af,afc,afa⟩ 1048576 W hf (by omega) (by omega) hs
 have HCt:=h_ fun W (hn:Sm m) (hs:MSl W m ⟨al,alc,ap,apc,ar,arc,af,afc,afa⟩)=>qez m ⟨al,alc,ap,apc,ar,arc,af,afc,afa⟩ W hn hs
 have HCe:=h_ fun W A1 A2 (hn:Sm m) (h1:MSl W m A1) (h2:MSl W m A2)=>q8g m A1 A2 W hn h1 h2
 have HCr:=h_ fun (W:World) (a1 a2:Option Addr) (c1 c2:Nat) (h1:Ents W a1 l.length (eL l)) (h2:Ents W a2 l.length (eL l))=>q2d a1 a2 (eL l) l.length c1 c2 W (by omega) h1 h2
 have HCk:=h_ fun (lo hi:Nat) (w0 W:World) (A':MA) (hn:Sm m) hz hM hbk (hs:MSl W m A')=>q6q m A' lo hi w0 W hn hz hM hbk hs
 have hs9:(s.size:Int)<=9223372036854775807:=by omega
 unfold mV at HCz HCt hsp him HCe HCk⊢
 dsimp only at HCz HCt⊢
 have HK:=h_ (Blk.new w 27 (Jb al m alc ap apc ar arc af afc))
 have HB:=h_ ((bR w.heap.size w).alloc (nR _) (.cells (Jb al m alc ap apc ar arc af afc) 27))
 obtain⟨W0,hW0⟩:=Nq (w.alloc (.cells (Jb al m alc ap apc ar arc af afc) 27))
 rw[hW0]at HK HB
 have HK0:=h_ HK.u
 have HO:Hi (MSl W0 m ⟨al,alc,ap,apc,ar,arc,af,afc,afa⟩/\Env W0):=h_ ⟨ha.mono HB.u,he.mono HB.u⟩
 clear ha he hf HK
 by_cases hz:(1048576:Int)<s.size
 . clear hsp him HCz HCt HCe HCr HCk HO HK0
   go_enter Tryz.func3,Tryz.ntmps3;go_wp2_with fail
   try rw[hW0]
   go_ret;exact⟨rfl,HB.u⟩
 have HCs:=h_ fun W A' (h:MSl W m A')=>hsp W A' (by omega) h
 have HCi:=h_ fun W A' (h1:Caps m A') (h:MSl W m A') (h2:Env W)=>him W A' (by omega) h1 h h2
 clear hsp him hs hs9
 obtain⟨y0,y1,y2,y3⟩:=quad HK0.u
 go_enter Tryz.func3,Tryz.ntmps3
 go_wp2_with fail
 try rw[hW0]
 refine(HCz.u W0 HO.u.1).mono ?_
 rintro x W1 ⟨q,rfl,hq,hb⟩
 replace HO:=h_ (And.intro (HO.u.1.mono hb) (HO.u.2.mono hb));replace HK0:=mB HK0 hb;replace HB:=mT HB hb
 clear hW0 hb y0 y1 y2 y3
 by_cases hqq:q<0
 . clear hq
   go_wp2_with fail;go_ret;exact⟨rfl,HB.u⟩
 obtain⟨hn,-⟩:=hq (by omega)
 have HN:=h_ hn
 clear hn hq
 obtain⟨y0,y1,y2,y3⟩:=quad HK0.u
 go_wp2_with fail
 refine(HCt.u W1 HN.u HO.u.1).mono ?_
 rintro x W3 ⟨A1,rfl,hs1,-,-,hb⟩
 replace HO:=h_ (And.intro (HO.u.1.mono hb) (HO.u.2.mono hb));replace HK0:=mB HK0 hb;replace HB:=mT HB hb
 have HC2:=h_ (HCs.u W3 A1 hs1)
 clear hb hs1 HCs y0 y1 y2 y3
 go_wp2_with fail
 refine HC2.u.mono ?_
 rintro x W5 ⟨u0,rfl,ho,hb⟩
 replace HB:=mT HB hb
 obtain⟨a0,c0,rfl,hr0,-⟩:=qho ho
 have HOl:Hi (OldD m ⟨al,alc,ap,apc,ar,arc,af,afc,afa⟩ w.heap.size [.slice al m.L.length alc,.slice ap m.P.length apc,.slice ar m.R.length arc,.slice af m.F.length afc] a0 l W5):=h_ ⟨HK0.u.mono hb HK0.u.lt,HO.u.1.mono hb,HO.u.2.mono hb,hr0⟩
 clear hb HC2 ho hr0 HO HK0
 obtain⟨lo,hlo⟩:=Nq W5.heap.size
 have hwl:w.heap.size<=lo:=by have:=HB.u.size;omega
 obtain⟨y0,y1,y2,y3⟩:=quad HOl.u.k
 go_wp2_with fail
 refine(HCt.u W5 HN.u HOl.u.s).mono ?_
 rintro x W6 ⟨A2,rfl,hs2,hc2,hmb,hb⟩
 obtain⟨X,hX⟩:=Nq W6.heap.size
 have hlX:lo<=X:=by have:=hb.size;omega
 rw[hlo]at hmb
 have HMb:=h_ hmb
 obtain⟨bl,blc,bp,bpc,br,brc,bf,bfc,bfa⟩:=A2
 dsimp only
 have HX:=h_ (Blk.new W6 36 (Jb bl m blc bp bpc br brc bf bfc))
 have hbx:=(bR W6.heap.size W6).alloc (nR _) (.cells (Jb bl m blc bp bpc br brc bf bfc) 36)
 obtain⟨W8,hW7⟩:=Nq (W6.alloc (.cells (Jb bl m blc bp bpc br brc bf bfc) 36))
 rw[hW7]at hbx HX
 have hhi:W8.heap.size=X+1:=by rw[<- hW7,<- hX];simp
 rw[hX]at HX
 have HS8:=h_ (hs2.mono hbx);have HCp:=h_ hc2
 have HL8:Hi (Below W5.heap.size W5 W8):=h_ (hb.trans (hbx.mono hb.size))
 have HG8:Hi (Below X W6 W8):=h_ (by rw[<- hX];exact hbx)
 have HO8:=h_ (HOl.u.mono HL8.u)
 clear hb hbx hs2 hc2 hmb y0 y1 y2 y3
 obtain⟨x0,x1,x2,x3⟩:=quad HX.u
 have HC3:=h_ (HCi.u W8 ⟨bl,blc,bp,bpc,br,brc,bf,bfc,bfa⟩ HCp.u HS8.u HO8.u.n)
 dsimp only at HC3
 clear HCp
 go_wp2_with fail
 try rw[hX]
 try rw[hW7]
 refine HC3.u.mono ?_
 rintro x W9 ⟨u9,rfl,ho,hb⟩
 rw[hhi]at ho
 have HV:=h_ ho
 obtain⟨a9,c9,rfl,hr9,-⟩:=qho ho
 have HS9:=h_ (HS8.u.mono hb);have HX9:=mB HX hb
 have HL9:=mT HL8 hb;have HG9:=h_ (HG8.u.trans (hb.mono (by omega)))
 have HO9:=h_ (HO8.u.mono hb)
 have hs9:X+1<=W9.heap.size:=by have:=hb.size;omega
 have HE9:=h_ (HCr.u W9 a9 a0 c9 c0 hr9 HO9.u.p)
 have hee:(ok==ok)=true:=by simp
 clear hb x0 x1 x2 x3 HC3 ho hr9 HS8 HX HL8 HG8 HO8 hhi hW7
 go_wp2_with fail
 refine HE9.u.mono ?_
 rintro x W10 ⟨rfl,hb⟩
 replace HV:=h_ (qdv HV.u hb)
 have HS10:=h_ (HS9.u.mono hb);have HX10:=mB HX9 hb
 have HL10:=mT HL9 hb;have HG10:=h_ (HG9.u.trans (hb.mono (by omega)))
 have HO10:=h_ (HO9.u.mono hb)
 have hs10:X+1<=W10.heap.size:=by have:=hb.size;omega
 clear hb HE9 HS9 HX9 HL9 HG9 HO9 hs9
 go_wp2_with fail
 refine wp_region_held_drew (S:=fun w'=>Blk w' w.heap.size 27 [.slice al m.L.length alc,.slice ap m.P.length apc,.slice ar m.R.length arc,.slice af m.F.length afc]/\Blk w' X 36 [.slice bl m.L.length blc,.slice bp m.P.length bpc,.slice br m.R.length brc,.slice bf m.F.length bfc]) (by kernel_rfl) ⟨HO10.u.k,HX10.u⟩ (fun zz=>?_)
 refine tj 0 48 (.agg (Jb bl m blc bp bpc br brc bf bfc)) zz ?_ (hy:=fun w hS=>by obtain⟨-,h2⟩:=hS;obtain⟨q0,q1,q2,q3⟩:=quad h2;simp[execOp,go_sem,q0,q1,q2,q3])
 refine tj 1 49 (.agg (Jb al m alc ap apc ar arc af afc)) zz ?_ (hy:=fun w hS=>by obtain⟨h2,-⟩:=hS;obtain⟨q0,q1,q2,q3⟩:=quad h2;simp[execOp,go_sem,q0,q1,q2,q3])
 simp only[sX,sY,sZ]
 have HDr:Hi (Below W10.heap.size W10 W10.drew):=h_ (bR _ _).drew
 refine callY (i:=2) (f:=6) (args:=#[.agg (Jb al m alc ap apc ar arc af afc)]) (R:=fun v wz=>∃A3,v=mV m A3/\MSl wz m A3/\Below W10.heap.size W10 wz) 50 rfl rfl (by rfl) (by kernel_rfl) ?hrun1 ((HCt.u W10.drew HN.u (HO10.u.s.mono HDr.u)).mono fun e w6 ⟨A3,he,hs,_,_,hb⟩=>⟨_,he,A3,rfl,hs,q29 hb⟩) ?_
 case hrun1=>simp[execOp,go_sem]
 rintro v W11 ⟨A3,rfl,hs3,hb⟩
 replace HV:=h_ (qdv HV.u hb)
 have HS11:=h_ (HS10.u.mono hb);have HX11:=mB HX10 hb
 have HL11:=mT HL10 hb;have HG11:=h_ (HG10.u.trans (hb.mono (by omega)))
 have HO11:=h_ (HO10.u.mono hb)
 have hs11:X+1<=W11.heap.size:=by have:=hb.size;omega
 replace zz:Blk W11 w.heap.size 27 [.slice al m.L.length alc,.slice ap m.P.length apc,.slice ar m.R.length arc,.slice af m.F.length afc]/\Blk W11 X 36 [.slice bl m.L.length blc,.slice bp m.P.length bpc,.slice br m.R.length brc,.slice bf m.F.length bfc]:=⟨HO11.u.k,HX11.u⟩
 have HS3:=h_ hs3
 clear hb hs3 HDr HS10 HX10 HL10 HG10 HO10 hs10
 refine⟨zz,?_⟩
 unfold mV
 obtain⟨dl,dlc,dp,dpc,dr,drc,df,dfc,dfa⟩:=A3
 dsimp only
 simp only[sX,sY,sZ]
 have HCe2:=h_ (HCe.u W11 ⟨bl,blc,bp,bpc,br,brc,bf,bfc,bfa⟩ ⟨dl,dlc,dp,dpc,dr,drc,df,dfc,dfa⟩ HN.u HS11.u HS3.u)
 dsimp only at HCe2
 refine callY (i:=3) (f:=9) (args:=#[.agg (Jb bl m blc bp bpc br brc bf bfc),.agg (Jb dl m dlc dp dpc dr drc df dfc)]) (R:=fun v wz=>v=.bool true/\Below W11.heap.size W11 wz) 51 rfl rfl (by rfl) (by kernel_rfl) ?hrun2 (HCe2.u.mono fun e w6 ⟨he,hb⟩=>⟨_,he,rfl,hb⟩) ?_
 case hrun2=>simp[execOp,go_sem]
 rintro v W14 ⟨rfl,hb⟩
 replace HV:=h_ (qdv HV.u hb)
 have HS14:=h_ (HS11.u.mono hb);have HX14:=mB HX11 hb
 have HL14:=mT HL11 hb;have HG14:=h_ (HG11.u.trans (hb.mono (by omega)))
 have HO14:=h_ (HO11.u.mono hb)
 have hs14:X+1<=W14.heap.size:=by have:=hb.size;omega
 replace zz:Blk W14 w.heap.size 27 [.slice al m.L.length alc,.slice ap m.P.length apc,.slice ar m.R.length arc,.slice af m.F.length afc]/\Blk W14 X 36 [.slice bl m.L.length blc,.slice bp m.P.length bpc,.slice br m.R.length brc,.slice bf m.F.length bfc]:=⟨HO14.u.k,HX14.u⟩
 clear hb HCe2 HS3 HS11 HX11 HL11 HG11 HO11 hs11
 refine⟨zz,?_⟩
 simp only[sX,sY,sZ]
 refine tj 4 52 (.bool false) zz ?_
 simp only[sX,sY,sZ]
 refine wpAnyH_done (by kernel_rfl) ?_ _
 clear zz
 obtain⟨x0,x1,x2,x3⟩:=quad HX14.u
 have HCk2:=h_ (HCk.u lo X W6 W14 ⟨bl,blc,bp,bpc,br,brc,bf,bfc,bfa⟩ HN.u hX HMb.u (fun g t n hb=>hb.mono HG14.u (by have:=hb.lt;omega)) HS14.u)
 dsimp only at HCk2
 go_wp2_with fail
 refine HCk2.u.mono ?_
 rintro x W16 ⟨k2,rfl,hk',hmk⟩
 have hk0:¬ (k2:Int)<0:=by omega
 have HV16:=h_ (hmk.out.owns HV.u (fun q e=>by have:=(HV.u.lt q e).1;omega))
 have HB16:Hi (Below lo W5 W16):=h_ (by
  have h9:=HL14.u;rw[hlo]at h9;exact h9.trans (hmk.out.below (nR _) (by omega)))
 have hs16:X+1<=W16.heap.size:=by have:=hmk.out.size;omega
 clear hmk x0 x1 x2 x3 HCk2 HCk HV HS14 HX14 HL14 HG14 HO14 hs14 HMb hk'
 have HO16:Hi (OldD m ⟨al,alc,ap,apc,ar,arc,af,afc,afa⟩ w.heap.size [.slice al m.L.length alc,.slice ap m.P.length apc,.slice ar m.R.length arc,.slice af m.F.length afc] a0 l W16):=h_ (HOl.u.mono (by rw[hlo];exact HB16.u))
 have HE16:=h_ (HCr.u W16 a9 a0 c9 c0 (by
  obtain⟨a,c,e,hp,-⟩:=qho HV16.u;cases e;exact hp) HO16.u.p)
 go_wp2_with fail
 refine HE16.u.mono ?_
 rintro x W17 ⟨rfl,hb⟩
 have HV17:=h_ (qdv HV16.u hb)
 have HB17:=h_ (HB16.u.trans (hb.mono (by omega)))
 have hs17:X+1<=W17.heap.size:=by have:=hb.size;omega
 clear hb HE16 HO16 HV16 HB16 hs16
 obtain⟨g,N,hgb,hgN,hgk⟩:∃g N,X+1<=g/\l.length*5<=N/\(0<l.length->a9=some ⟨g,0,none⟩/\Bk W17 g 52 N):=by
  obtain⟨a,c,e,-,hp⟩:=qho HV17.u;cases e;by_cases h0:0<l.length
  . obtain⟨g,N,h1,h2,h3,h4⟩:=hp h0
    exact⟨g,N,h2,h3,fun _=>⟨h1,h4⟩⟩
  . exact⟨X+1,l.length*5,nR _,nR _,fun h=>absurd h h0⟩
 have HMr:=h_ (q2v a9 1 g l.length N c9 (X+1) (g+1) W17 (by decide) (by decide) (by omega) hgN hgb (by omega) hgk)
 obtain⟨p,hp⟩:=Nq (1+l.length*5)
 rw[hp,show((1:Nat):Int)=1 from rfl]at HMr
 have hpl:(p:Int)<=7000001:=by omega
 have HGk:=h_ hgk
 clear hgk
 go_wp2_with fail
 refine HMr.u.mono ?_
 rintro x W18 ⟨rfl,hpre,hmk⟩
 have HB18:=h_ (HB17.u.trans (hmk.out.below (by omega) (by omega)))
 have hs18:X+1<=W18.heap.size:=by have:=hmk.out.size;omega
 have HHr:=h_ (q2e a9 1 g l.length c9 W18 (by decide) (by decide) (by omega) fun h=>⟨(HGk.u h).1,Ys (HGk.u h).2.lt hmk.out.size,hpre h⟩)
 rw[hp,show((1:Nat):Int)=1 from rfl]at HHr
 clear hpre hmk HMr HV17 HB17 hs17 HGk
 go_wp2_with fail
 refine HHr.u.mono ?_
 rintro x W19 ⟨rfl,hb⟩
 have HB19:=h_ (HB18.u.trans (hb.mono (by omega)))
 have HO19:Hi (OldD m ⟨al,alc,ap,apc,ar,arc,af,afc,afa⟩ w.heap.size [.slice al m.L.length alc,.slice ap m.P.length apc,.slice ar m.R.length arc,.slice af m.F.length afc] a0 l W19):=h_ (HOl.u.mono (by rw[hlo];exact HB19.u))
 have hs19:X+1<=W19.heap.size:=by have:=hb.size;omega
 have hp0:¬ (p:Int)<0:=by omega
 clear hb HHr HB18 hs18
 obtain⟨y0,y1,y2,y3⟩:=quad HO19.u.k
 go_wp2_with fail
 refine(HCt.u W19 HN.u HO19.u.s).mono ?_
 rintro x W21 ⟨A4,rfl,hs4,hc4,-,hb⟩
 have HO21:=h_ (HO19.u.mono hb)
 have HB21:=h_ (HB19.u.trans (hb.mono (by omega)))
 have hs21:X+1<=W21.heap.size:=by have:=hb.size;omega
 have HCi3:=h_ (HCi.u W21 A4 hc4 hs4 HO21.u.n)
 clear hb hs4 hc4 HO19 HB19 hs19 y0 y1 y2 y3 HCi
 go_wp2_with fail
 refine HCi3.u.mono ?_
 rintro x W22 ⟨v,rfl,ho,hb⟩
 obtain⟨a7,c7,rfl,hr7,-⟩:=qho ho
 have HO22:=h_ (HO21.u.mono hb)
 have HB22:=h_ (HB21.u.trans (hb.mono (by omega)))
 have HE22:=h_ (HCr.u W22 a7 a0 c7 c0 hr7 HO22.u.p)
 have hs22:X+1<=W22.heap.size:=by have:=hb.size;omega
 clear hb ho hr7 HCi3 HO21 HB21 hs21
 go_wp2_with fail
 refine HE22.u.mono ?_
 rintro x W23 ⟨rfl,hb⟩
 have HB23:Hi (Below w.heap.size w W23):=h_ (HB.u.trans ((HB22.u.trans (hb.mono (by omega))).mono hwl))
 clear hb HE22
 go_wp2_with fail
 go_ret
 exact⟨rfl,HB23.u⟩
theorem q9l (m:Fm)(A:MA)(s:ByteArray)(w:World)(hf:FitM m)(hs:s.size<=9223372036854775807)(ha:MSl w m A)(he:Env w) :
 Calls Tryz.prog 3 #[mV m A,.string s] w fun x w'=>x=.returned (.bool true)/\Below w.heap.size w w':=by
 have no:∀(cs ci:Int),cs≠0->(∀W A',MSl W m A'->Calls Tryz.prog 39 #[mV m A'] W fun r w'=>∃c a,r=.returned (dgV c a)/\c=cs/\Below W.heap.size W w')->(∀W A',Caps m A'->MSl W m A'->Tabs W->TyW W->Tab W->Calls Tryz.prog 48 #[mV m A'] W fun r w'=>∃S c a,r=.returned (.tuple #[sfV S,dgV c a])/\c≠0/\Below W.heap.size W w')->Calls Tryz.prog 3 #[mV m A,.string s] w fun x w'=>x=.returned (.bool true)/\Below w.heap.size w w':=fun cs _ hcs h1 h2 =>
  qdb m A s [] false w (by simp) (fun W A' _ hs=>qah m A' s W (fun W' hs'=>(q9g m A' W' (fun c _=>c=cs) (fun W2 hs2=>h1 W2 A' hs2) hs').mono fun x w' ⟨c,_,e,h,hb⟩=>⟨by rw[e,h,Yb hcs],hb⟩) hs) (fun W A' _ hcp hs k=>q8r m A' s W (fun W' hs' t1 t2 t3=>qac m A' W' (fun W2 hs2 u1 u2 u3=>h2 W2 A' hcp hs2 u1 u2 u3) hs' t1 t2 t3) hs k) hf hs ha he
 cases hq:vfB m
 . exact no 20 20 (by decide) (fun W A' hs=>(q7f m A' W (fun W' hs'=>q0g m A' W' hf hs') hq hs).mono fun r w' ⟨e,hb⟩=>⟨20,0,e,rfl,hb⟩) (fun W A' hcp hs k1 k2 k3=>(qei m A' W hq hf hcp hs k1 k2 k3).mono fun r w' ⟨e,hb⟩=>⟨sf0,20,0,e,by decide,hb⟩)
 have hv:VfA m:=Classical.byContradiction fun hn=>by rw[qf7 hn]at hq;cases hq
 rcases dich4 m.L.length m.P.length (pr1 m) (pr2 m) (by have:=hv.np;omega) with ⟨code,hcd,h1,h2⟩ | ⟨s',F,J,M,bot,top,-,⟨n,bt,tp,hLt⟩,h1,h2,h3⟩
 . exact no (10+code) 0 (by omega) (fun W A' hs=>(q7g m A' W code (fun W' hs'=>q0g m A' W' hf hs') hq hcd h1 hf hs).mono fun r w' ⟨e,hb⟩=>⟨10+code,0,e,rfl,hb⟩) (fun W A' hcp hs k1 k2 k3=>(qej m A' W code hq hcd h2 hf hcp hs k1 k2 k3).mono fun r w' ⟨e,hb⟩=>⟨sf0,10+code,0,e,by omega,hb⟩)
 have hN:m.L.length=n:=by have:=hLt.hN;omega
 have spC:∀W A',MSl W m A'->Calls Tryz.prog 39 #[mV m A'] W fun r w'=>∃c a,r=.returned (dgV c a)/\ChkF m n F c a/\Below W.heap.size W w':=fun W A' hs=>q7e m A' W bot top s' n bt tp F J M (fun W' hs'=>q0g m A' W' hf hs') hq hv h1 hLt hf hs
 by_cases hE:∃c a,ChkF m n F c a
 . obtain⟨c0,a0,hca⟩:=hE
   have hone:∀{c' a'},ChkF m n F c' a'->c'=c0:=fun h=>(h.one (qlx hLt) hca).1;by_cases hc0:c0=0
   . subst hc0
     obtain⟨f,s1,s2⟩:∃f,Sol m n (fun a b=>F (a*n+b)=true) f/\Low m n (fun a b=>F (a*n+b)=true) f:=by
      rcases hca with ⟨z,-,-,h,-⟩ | ⟨-,f,z,s1,s2,-⟩
      . exact absurd h (by decide)
      . exact⟨f,s1,s2⟩
     obtain⟨l,ok,hd,hl⟩:∃l ok,DecA m s l ok/\l.length<=4000:=by
      by_cases hx:∃l':List Ex,l'.length<=4000/\(∀x,x∈l'->EntV m x)/\lnL m l'=sb s
      . obtain⟨l',q1,q2,q3⟩:=hx
        exact⟨l',true,.inl ⟨rfl,q1,q2,q3⟩,q1⟩
      . exact⟨[],false,.inr ⟨rfl,rfl,fun l' q1 q2 q3=>hx ⟨l',q1,q2,q3⟩⟩,nZ _⟩
     exact qdb m A s l ok w hl (fun W A' hz hs=>(qai m A' s W hv hz (fun W' hs'=>(q9g m A' W' (ChkF m n F) (fun W2 hs2=>spC W2 A' hs2) hs').mono fun x w' ⟨c,_,e,h,hb⟩=>⟨by rw[e,hone h,Yj rfl],hb⟩) hs).mono fun x w' ⟨u,l',ok',e,hd',ho,hb⟩=>by
      obtain⟨rfl,rfl⟩:=hd.uniq hv hd';exact⟨u,e,ho,hb⟩)
      (fun W A' hz hcp hs k=>(q8s m A' n F f s W hv hN hz (fun W' hs' t1 t2 t3=>qad m A' n F f W' hv.nf (fun W2 hs2 u1 u2 u3=>(qeh m A' W2 bot top s' n bt tp F J M hq hv h2 hLt hf hcp hs2 u1 u2 u3).mono fun x w' ⟨S,c,a,e,hk,hsn,hb⟩=>by
       obtain⟨rfl,rfl⟩:=hk.one (qlx hLt) hca;obtain rfl:=qfn hk;obtain⟨g,g1,g2,hw⟩:=hsn rfl;exact⟨S,e,hw.congr (qdc (qlx hLt) g1 s1 g2 s2),hb⟩) hs' t1 t2 t3) hs k).mono fun x w' ⟨u,l',ok',e,hd',ho,hb⟩=>by
       obtain⟨rfl,rfl⟩:=hd.uniq hv hd';exact⟨u,e,ho,hb⟩) hf hs ha he
   . exact no c0 0 hc0 (fun W A' hs=>(spC W A' hs).mono fun r w' ⟨c,a,e,h,hb⟩=>⟨c,a,e,hone h,hb⟩) (fun W A' hcp hs k1 k2 k3=>(qeh m A' W bot top s' n bt tp F J M hq hv h2 hLt hf hcp hs k1 k2 k3).mono fun r w' ⟨S,c,a,e,h,_,hb⟩=>⟨S,c,a,e,by rw[hone h];exact hc0,hb⟩)
 . exact no 1 0 (by decide) (fun W A' hs=>(spC W A' hs).mono fun r w' ⟨c,a,e,h,hb⟩=>absurd ⟨c,a,h⟩ hE) (fun W A' hcp hs k1 k2 k3=>(qeh m A' W bot top s' n bt tp F J M hq hv h2 hLt hf hcp hs k1 k2 k3).mono fun r w' ⟨S,c,a,e,h,_,hb⟩=>absurd ⟨c,a,h⟩ hE)
end Go.Proofs.YtgojgjlninakjaaGreatDoor
namespace Go.Proofs.YtgojgjlninakjaaGreatDoor
open Go Go.RowKit Go.ChangeShapes Go.WideShapes Go.ChangeAt
theorem contractDe (H:Type)(enc:TypeId × Value->H)(W:World)(base:Nat)(args:Array Value)(ds gs:List (DataW H))(before:List MemPlace)
 (hval:∀(j:Nat) t v,Tryz.f3.params[j]? = some t->args[j]? = some v->Value.okWide Tryz.prog W .any base t v)
 (hW:DataW.Whole enc Tryz.prog Tryz.f3.params.toList Rows.fnExactDecodeExportSpec.vars false W args.toList ds gs before) (he:Env W) :
 Calls Tryz.prog 3 args W fun e W'=>∃v,e=.returned v/\Rows.fnExactDecodeExportSpec.post enc Tryz.prog Tryz.f3 false true false false W args v W':=by
 have hW':=hW
 obtain⟨p,q,hA0,hV,rfl,hfz,hnd⟩:=hW
 have hA:DataW.TrodAll enc Tryz.prog W 0 (fun _=>true) true Tryz.f3.params.toList args.toList ds p:=hA0
 rw[Tryz.params3]at hA hval
 obtain⟨v0,v1,d0,e1,p,px,rfl,rfl,rfl,h0,hs0⟩:=trodAll_two hA
 obtain⟨g0,t0',cs0,f0,d1,p1,g1,t1',cs1,f1,d2,p2,rfl,-,-,-,-,-,-,-,-,-⟩:=trodVars_two hV
 have h0k:=h0
 have h1k:=hs0
 clear hA0
 have hlt0:∀x∈p++px,x.block<W.heap.size:=fun x hx=>by simpa using hW'.lt x (Vf _ hx)
 have hlt:∀x∈p,x.block<W.heap.size:=fun x hx=>hlt0 x (Vf _ hx)
 have hargs1:∀(W':World),Below W.heap.size W W'->DataW.Trod enc Tryz.prog W' 0 (fun b=>decide (b<W.heap.size)) true 9 v1 e1 px :=
  fun W' hn=>Below.trod laidOutV (by kernel_rfl) (Zb (by kernel_rfl)) h1k hn (fun x hx=>hlt0 x (List.mem_append_right _ hx))
 have hargs:∀(W':World),Below W.heap.size W W'->DataW.Trod enc Tryz.prog W' 0 (fun b=>decide (b<W.heap.size)) true 27 v0 d0 p :=
  fun W' hn=>Below.trod laidOutV (by kernel_rfl) (Zb (by kernel_rfl)) h0k hn hlt
 obtain⟨u0,u1,u2,u3,y0,y1,y2,y3,n,rfl,rfl,rfl,t0,t1,t2,t3⟩:=Go.Joins.open_agg4 Tryz.underlying27 (by kernel_rfl) cellsForm (hval 0 27 v0 rfl rfl) h0
 obtain⟨al,ll,alc,rfl,hl1,hl2,hl3⟩:=qgi Tryz.underlying22 Tryz.underlying9 cellsStr t0 (fun x hx=>hlt x (by simp[hx]))
 obtain⟨ap,lp,apc,rfl,hp1,hp2⟩:=ql3 Tryz.underlying23 Tryz.underlying97 cellsPairL rfl rfl Tryz.underlying3 Tryz.underlying3 cellsInt0 cellsInt0 t1 (fun x hx=>hlt x (by simp[hx]))
 obtain⟨ar,lr,arc,rfl,hr1,hr2,hr3⟩:=ql4 Tryz.underlying24 Tryz.underlying75 cellsRoleL rfl rfl Tryz.underlying9 Tryz.underlying3 cellsStr cellsInt0 t2 (fun x hx=>hlt x (by simp[hx]))
 obtain⟨af,lf,AF,afc,rfl,hf1,hf2,hf3⟩:=qge t3 (fun x hx=>hlt x (by simp[hx]))
 obtain⟨s,rfl,rfl,rfl,hs⟩:=ChangeMaps.open_string Tryz.underlying9 (hval 1 9 v1 rfl rfl) hs0
 refine(q9l ⟨ll,lp,lr,lf⟩ ⟨al,alc,ap,apc,ar,arc,af,afc,AF⟩ s W ⟨hl1,hp1,hr1,hf1,hl3,hr3,hf3⟩ hs ⟨hl2,hp2,hr2,hf2⟩ he).mono fun e W' ⟨he,hn⟩=>?_
 subst he
 exact⟨_,rfl,⟨_,_,_,[],_,_,hW',trodAll_mk1 (shut_bool Tryz.underlying4 _),trodAll_mk2 (hargs _ hn) (hargs1 _ hn),Below.trodVars laidOutV hn (by kernel_rfl) hV,hn.frame _,fun h=>by cases h⟩⟩
def accT:List Int:=[128,191,160,191,128,159,144,191,128,143,0,0,0,0,0,0,0,0,0,0,0,0,0,0,0,0,0,0,0,0,0,0]
def errM:Input:=⟨#[.cells #[.string ⟨#[118,97,108,117,101,32,111,117,116,32,111,102,32,114,97,110,103,101]⟩] 322,.cells #[.string ⟨#[105,110,118,97,108,105,100,32,115,121,110,116,97,120]⟩] 322],#[],[]⟩
theorem witnessDe (os:Os){H:Type}(enc:TypeId × Value->H)(w0:World)(e:w0 = { World.holding Tryz.prog os errM with heap:=(((((((((World.holding Tryz.prog os errM).heap.modify 5 (laidT .u8 (Lib.deBruijn32tab.map (fun n=>((n:Nat):Int))))).modify 6 (laidT .u8 (Lib.deBruijn64tab.map (fun n=>((n:Nat):Int))))).modify 1 (laidT .u64 Lib.pow10Tab)).modify 4 (laidT .u8 accT)).modify 8 (laidE (World.holding Tryz.prog default ⟨#[],#[],[]⟩).heap.size)).modify 7 (laidE ((World.holding Tryz.prog default ⟨#[],#[],[]⟩).heap.size+1))).modify 9 (laidS wrdT)).modify 2 (laidS tyT)).modify 3 (laidT .u8 (Go.Pinned.utf8FirstZ.map (fun n=>((n:Nat):Int)))) }) :
 ∃(w:World) (tape:Tape) (i:Input),w.os=os/\(w.forCall tape i).Shaped Tryz.checked.prog/\i.vars=[]/\Input.okWide Tryz.checked.prog (w.forCall tape i) .any w.heap.size 3 i /\
  (OpenSpec.ofChange Rows.fnExactDecodeExportSpec).preRow enc Tryz.checked.prog Tryz.f3 Rows.fnExactDecodeExportRow.domain false Rows.fnExactDecodeExportRow.laid (w.forCall tape i).memory i.args/\({ modest:=false }:Assume).holds Tryz.checked.prog (lone (Frame.enter Tryz.checked.prog 3 i.args .normal) [] (w.forCall tape i)):=by
 exact witness_row_at (enc:=enc) (C:=Tryz.checked) false w0 #[.agg Jq,J8] (by subst e;rfl) (by subst e;kernel_rfl) (by subst e;kernel_rfl) (by subst e;kernel_rfl)
  (OpenSpec.preRow_of_cond (x:=([.agg [.nil,.nil,.nil,.nil],.lit (.string [])],[Rows.laid_loop_example_s0011_impl_operatorWords,Rows.laid_loop_example_s0011_impl_typeWords],MemPlace.row ⟨9,0,none⟩ 26++MemPlace.row ⟨2,0,none⟩ 4)) 8 (by subst e;kernel_rfl) (by subst e;kernel_rfl) (fun k hk=>by cases hk) (by subst e;kernel_rfl) (laidMet_of_run' 8 (by subst e;kernel_rfl) (by subst e;kernel_rfl)))
theorem liftedDe (os:Os)(started:os.Started)(H:Type)(enc:TypeId × Value->H)(F:Stop.Interp) :
 ReturnsInHanded {} Tryz.checked os 3 .any ((OpenSpec.ofChange Rows.fnExactDecodeExportSpec).preRow enc Tryz.prog Tryz.f3 Rows.fnExactDecodeExportRow.domain false Rows.fnExactDecodeExportRow.laid) (((OpenSpec.ofChange Rows.fnExactDecodeExportSpec).at F).post enc Tryz.prog Tryz.f3 false true false false):=by
 refine returnsInHanded_of_row (C:=Tryz.checked) (s:=OpenSpec.ofChange Rows.fnExactDecodeExportSpec) knobsV started (by kernel_rfl) Tryz.func3 (witnessDe os enc _ rfl) ?_
 intro W base args ds gs before hval hW _ _ _ hL hsh _
 exact contractDe H enc W base args ds gs before hval hW ⟨⟨q7s hL.tail.tail.tail.tail.tail.tail,pow_of hL⟩,qb1 hL.tail.tail.tail.tail.tail.tail.tail,qj4 hL,qkt hL.tail,qks hL.tail,mxl_of hsh⟩
theorem cloP:(Rows.fnExactDecodeExportRow.inPlace==Tryz.prog.inPlace 3)=true:=by kernel_rfl
theorem cloU:(Rows.fnExactDecodeExportRow.unfollowed==Tryz.prog.unfollowed 3)=true:=by kernel_rfl
theorem cloR:(Rows.fnExactDecodeExportRow.recurses==Tryz.prog.recurses 3)=true:=by kernel_rfl
theorem cloN:(Rows.fnExactDecodeExportRow.named==Tryz.prog.varsNamed 3)=true:=by kernel_rfl
theorem cloDe:joinedFacts Tryz.prog 3 Tryz.f3 (OpenSpec.ofChange Rows.fnExactDecodeExportSpec).bare Rows.fnExactDecodeExportRow=true:=by
 unfold joinedFacts
 rw[cloP,cloU,cloR,cloN]
 kernel_rfl
theorem saidDe:Rows.FnExactDecodeExportSaid :=
 OpenClaim.holds_of_cond 3 Tryz.f3 rfl rfl rfl rfl rfl rfl rfl ⟨rfl,rfl,rfl,rfl,rfl⟩ rfl rfl rfl rfl rfl (by kernel_rfl) Tryz.func3 cloDe
  (Zb (by kernel_rfl)) (by unfold Func.isWrapper;first | (rw[Yv (by decide +kernel)];kernel_rfl) | (rw[Yn (by decide +kernel)];exact⟨rfl,rfl⟩))
  (fun os started H enc _ F=>by rw[OpenClaim.pre_eq_preRow];exact liftedDe os started H enc F)
theorem plainDe (f:FuncId)(fn:Func)(hf:Tryz.pinned.checked.prog.funcNamed "loop.example/s0011/laws.FnExactDecodeExport" = some f) (hfn:Tryz.pinned.checked.prog.funcs[f]? = some fn) :
 Rows.fnExactDecodeExportCard.stood.looks=Tryz.pinned.checked.prog.looks []/\∀(j:Nat) t,fn.params[j]? = some t->Tryz.pinned.checked.prog.wantsStandIn t=false:=by
 obtain rfl:f=3:=Od ((show Tryz.prog.funcNamed "loop.example/s0011/laws.FnExactDecodeExport" = some 3 by kernel_rfl).symm.trans hf) |>.symm
 obtain rfl:fn=Tryz.f3:=(Od (Tryz.func3.symm.trans hfn)).symm
 refine⟨by kernel_rfl,fun j t ht=>?_⟩
 rw[Tryz.params3]at ht
 have hm:=Array.mem_of_getElem? ht
 simp only[List.mem_toArray,Zp,O4,or_false]at hm
 rcases hm with rfl | rfl
 . exact(show Tryz.prog.wantsStandIn 27=false by kernel_rfl)
 . exact(show Tryz.prog.wantsStandIn 9=false by kernel_rfl)
theorem cardDe:Rows.FnExactDecodeExportCardSaid :=
 Claim7.holds_tied_plain_at .later [] _ _ _ _ saidDe (fun _ h=>by cases h) (by kernel_rfl) (fun _ h=>by cases h) fnExactDecodeExport_row_tie rfl ⟨rfl,rfl⟩ (by kernel_rfl) rfl plainDe (by kernel_rfl)
end Go.Proofs.YtgojgjlninakjaaGreatDoor
