import Derived.Test.YtfmammdgehbjhaaGreatDoorW34
set_option maxRecDepth 100000
set_option maxHeartbeats 64000000
namespace Go.Proofs.YtfmammdgehbjhaaGreatDoor
open Go Go.RowKit
def astr1 (names:List ByteArray)(l:List Fl)(r:Int):Prop:=(r = -1/\∀j (h:j<l.length),fieldKnows names l[j]=true)∨∃k:Nat,r=(k:Int)/\k<l.length/\(∀j (h:j<l.length),j<k->fieldKnows names l[j]=true)/\∀h:k<l.length,fieldKnows names l[k]=false
theorem q0i (a:Option Addr)(c X b:Nat)(l:List Fl)(AF:Nat->FA)(names:List ByteArray)(w:World)(hl:l.length<=200)(hf:∀x,x∈l->FitF x)(ha:Flds w a l AF)(hm:PMap w b names)(hX:X<w.heap.size)(hc:w.cell? ⟨X,0,none⟩=some (.map (some b))) :
 Calls Tryz.prog 68 #[.slice a l.length c,.func (.func 69) #[] #[Yd X 0]] w fun e w'=>∃r,e=.returned (Ya r)/\astr1 names l r/\Below w.heap.size w w':=by
 have HA:=h_ ha;have HM:=h_ hm;have HF:=h_ hf;have HC:=h_ (And.intro hX hc)
 clear ha hm hX hc hf
 go_enter Tryz.func68,Tryz.ntmps68
 go_wp2_with fail
 go_loopw [5,8] (fun _ i wr=>∃k:Nat,k<=l.length/\i=Ya k/\(∀j (h:j<l.length),j<k->fieldKnows names l[j]=true)/\Below w.heap.size w wr) (fun _ i _=>l.length - (intOf i).toNat)
 case atStart=>exact⟨0,nZ _,rfl,fun j _ hj=>absurd hj (nL _),bR _ _⟩
 case round =>
  obtain⟨k,hk,rfl,hall,hb⟩:=hrel;have HL:=h_ hall;have HB:=h_ hb;have HAr:=h_ (HA.u.mono hb);have HMr:=h_ (HM.u.mono hb);have HC2:Hi (X<wr.heap.size/\wr.cell? ⟨X,0,none⟩=some (.map (some b))):=h_ ⟨Y3 HC.u.1 hb.size,(hb.cell (p:=⟨X,0,none⟩) HC.u.1).trans HC.u.2⟩;clear hall hb;by_cases hlt:k<l.length
  . have hlt':(k:Int)<l.length:=by omega
    obtain⟨pb,po,rfl,⟨-,z0,z1,z2,z3,z4,z5,z6,z7,z8⟩,hsl⟩:=HAr.u k hlt;have HCf:=h_ (q0q l[k] (AF k) X b names wr (HF.u _ (Ys hlt)) hsl HMr.u HC2.u.1 HC2.u.2);have HX:Hi (fieldKnows names l[k]=false->astr1 names l k):=h_ fun h=>.inr ⟨k,rfl,hlt,fun j hj hjk=>HL.u j hj hjk,fun _=>h⟩;have HG:Hi (fieldKnows names l[k]=true->∀j (h:j<l.length),j<k+1->fieldKnows names l[j]=true):=h_ fun h j hj hjk=>by
     by_cases ej:j=k
     . subst ej;exact h
     . exact HL.u j hj (by omega)
    generalize l[k]=f at *;generalize AF k=fa at *;obtain⟨ab,abc,ai,aic,ah,ahc,av,avc,au,auc⟩:=fa;unfold fV at HCf;dsimp only at z3 z4 z5 z6 z8 HCf;clear hsl;generalize fieldKnows names f=g at *;go_wp2_with fail;refine HCf.u.mono ?_;rintro e W2 ⟨rfl,hb2⟩;have HB2:=mT HB hb2;clear hb2 z0 z1 z2 z3 z4 z5 z6 z7 z8 HCf;cases g
    . have HX2:=h_ (HX.u rfl)
      go_wp2_with fail;go_ret;exact⟨_,rfl,HX2.u,HB2.u⟩
    . have HG2:=h_ (HG.u rfl)
      go_wp2_with fail;go_roundw
      case rel=>first | exact⟨k+1,by omega,by go_num,HG2.u,HB2.u⟩ | ((repeat apply Exists.intro);exact⟨⟨k+1,by omega,by go_num,HG2.u,HB2.u⟩,rfl⟩)
      case measure=>simp[intOf];omega
  . obtain rfl:k=l.length:=by omega
    have hlt':¬ (l.length:Int)<(l.length:Int):=(by omega);have HX:Hi (astr1 names l (-1)):=h_ (.inl ⟨rfl,fun j hj=>HL.u j hj hj⟩);go_wp2_with fail;go_ret;exact⟨_,rfl,HX.u,HB.u⟩
theorem q0h (m:Fm)(A:MA)(w:World)(hf:FitM m)(hc:Counts m)(ha:MSl w m A) :
 Calls Tryz.prog 22 #[mV m A] w fun e w'=>∃r,e=.returned (Ya r)/\astr1 (fNames m) m.F r/\Below w.heap.size w w':=by
 obtain⟨al,alc,ap,apc,ar,arc,af,afc,afa⟩:=A
 unfold mV
 dsimp only
 have HK:=h_ (Blk.new w 27 #[.slice al m.L.length alc,.slice ap m.P.length apc,.slice ar m.R.length arc,.slice af m.F.length afc])
 have HB:=h_ ((bR w.heap.size w).alloc (nR _) (.cells #[.slice al m.L.length alc,.slice ap m.P.length apc,.slice ar m.R.length arc,.slice af m.F.length afc] 27))
 obtain⟨W0,hW0⟩:=Nq (w.alloc (.cells #[.slice al m.L.length alc,.slice ap m.P.length apc,.slice ar m.R.length arc,.slice af m.F.length afc] 27))
 rw[hW0]at HK HB
 have HS:=h_ (ha.mono HB.u);have HF:=h_ hf;have HC:=h_ hc
 clear ha hf hc
 obtain⟨y0,y1,y2,y3⟩:=quad HK.u
 go_enter Tryz.func22,Tryz.ntmps22
 go_wp2_with fail
 try rw[hW0]
 refine(q1d m ⟨al,alc,ap,apc,ar,arc,af,afc,afa⟩ W0 HC.u.f HS.u.f).mono ?_
 rintro r W1 ⟨an,cn,rfl,hnames,hb1⟩
 have HN:=h_ hnames
 replace HK:=mB HK hb1;replace HS:=h_ (HS.u.mono hb1);replace HB:=mT HB hb1
 clear hW0 y0 y1 y2 y3 hb1 hnames
 have HE2:Hi (m.F.length=(fNames m).length):=h_ (by simp[fNames])
 go_wp2_with fail
 have hcr:=q3n an cn (fNames m) W1 (by rw[<- HE2.u];have:=HC.u.f;omega) (fun x hx=>by obtain⟨y,hy,rfl⟩:=Z4.1 hx;exact(HF.u.f y hy).nm) HN.u
 rw[<- HE2.u]at hcr
 refine hcr.mono ?_
 rintro r W2 ⟨rfl,hm,hb1⟩
 replace HK:=mB HK hb1;replace HS:=h_ (HS.u.mono hb1);replace HB:=mT HB hb1
 have HM:=h_ hm
 clear hb1 hm hcr HN
 have HX:=h_ (Blk.new W2 57 #[.map (some W1.heap.size)])
 have HBx:=h_ ((bR W2.heap.size W2).alloc (nR _) (.cells #[.map (some W1.heap.size)] 57))
 obtain⟨W3,hW3⟩:=Nq (W2.alloc (.cells #[.map (some W1.heap.size)] 57))
 rw[hW3]at HX HBx
 replace HK:=h_ (HK.u.mono HBx.u HK.u.lt);replace HS:=h_ (HS.u.mono HBx.u);replace HB:=h_ (HB.u.trans (HBx.u.mono HB.u.size));replace HM:=h_ (HM.u.mono HBx.u)
 obtain⟨y0,y1,y2,y3⟩:=quad HK.u
 go_wp2_with fail
 try rw[hW3]
 clear hW3
 refine(q0i af afc W2.heap.size W1.heap.size m.F afa (fNames m) W3 HC.u.f HF.u.f HS.u.f HM.u HX.u.lt (HX.u.cell 0)).mono ?_
 rintro r W4 ⟨x,rfl,hx,hb1⟩
 have HR:=h_ hx
 replace HB:=mT HB hb1
 clear hx hb1 y0 y1 y2 y3
 go_wp2_with fail
 go_ret
 exact⟨_,rfl,HR.u,HB.u⟩
theorem q0e (m:Fm)(A:MA)(k:Nat)(w:World)(hv:Counts m)(hk:k<m.F.length) :
 Calls Tryz.prog 23 #[mV m A,Ya (k:Nat)] w fun r w'=>r=.returned (Ya ((m.L.length:Int)+m.P.length+m.R.length+k))/\Below w.heap.size w w':=by
 obtain⟨al,alc,ap,apc,ar,arc,af,afc,afa⟩:=A
 unfold mV
 dsimp only
 have HK:=h_ (Blk.new w 27 #[.slice al m.L.length alc,.slice ap m.P.length apc,.slice ar m.R.length arc,.slice af m.F.length afc])
 have HB:=h_ ((bR w.heap.size w).alloc (nR _) (.cells #[.slice al m.L.length alc,.slice ap m.P.length apc,.slice ar m.R.length arc,.slice af m.F.length afc] 27))
 obtain⟨y0,y1,y2,y3⟩:=quad HK.u
 have h1:=hv.l;have h2:=hv.p;have h3:=hv.r;have h4:=hv.f
 clear hv
 go_enter Tryz.func23,Tryz.ntmps23
 go_wp2_with fail
 go_ret
 exact⟨by go_num,HB.u⟩
end Go.Proofs.YtfmammdgehbjhaaGreatDoor
