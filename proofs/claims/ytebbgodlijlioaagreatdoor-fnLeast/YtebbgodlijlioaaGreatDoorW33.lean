import Derived.Test.YtebbgodlijlioaaGreatDoorW30
import Derived.Test.YtebbgodlijlioaaGreatDoorW27
set_option maxRecDepth 100000
set_option maxHeartbeats 64000000
namespace Go.Proofs.YtebbgodlijlioaaGreatDoor
open Go Go.RowKit
theorem q29 (m:Fm)(A:MA)(w:World)(hf:FitM m)(hcap:Caps m A)(ha:MSl w m A)(ht:Tabs w)(hy:TyW w) :
 Calls Tryz.prog 79 #[mV m A] w fun r w'=>r=.returned (.tuple #[.string (if vfB m then ⟨(cT m).toArray⟩ else ⟨#[]⟩),.bool (vfB m)])/\Below w.heap.size w w':=by
 obtain⟨al,alc,ap,apc,ar,arc,af,afc,afa⟩:=A
 have HF0:Hi (¬ VfA m->vfB m=false):=h_ qbu
 have HT0:Hi (VfA m->vfB m=decide ((cT m).length<=30000)):=h_ vfB_of
 generalize vfB m=q at *
 have HCk:=h_ fun W=>q0v m ⟨al,alc,ap,apc,ar,arc,af,afc,afa⟩ W hf
 have HCn:=h_ fun W (hc:Counts m) (hs:MSl W m ⟨al,alc,ap,apc,ar,arc,af,afc,afa⟩)=>q0k m ⟨al,alc,ap,apc,ar,arc,af,afc,afa⟩ W hf hc hs
 have HCl:=h_ fun W (hc:Counts m) (hs:MSl W m ⟨al,alc,ap,apc,ar,arc,af,afc,afa⟩)=>q0h m ⟨al,alc,ap,apc,ar,arc,af,afc,afa⟩ W hc hs
 have HCf:=h_ fun W (hc:Counts m) (hs:MSl W m ⟨al,alc,ap,apc,ar,arc,af,afc,afa⟩) (ht:Tabs W)=>q04 m ⟨al,alc,ap,apc,ar,arc,af,afc,afa⟩ W hf hc hs hcap ht
 have HCa:=h_ fun W (hc:Counts m) (hs:MSl W m ⟨al,alc,ap,apc,ar,arc,af,afc,afa⟩)=>q0s m ⟨al,alc,ap,apc,ar,arc,af,afc,afa⟩ W hf hc hs
 have HCt:=h_ fun W (hv:VfA m) (hs:MSl W m ⟨al,alc,ap,apc,ar,arc,af,afc,afa⟩) (ht:Tabs W) (hy:TyW W)=>q08 m ⟨al,alc,ap,apc,ar,arc,af,afc,afa⟩ W hf hv hs ht hy
 unfold mV at HCk HCn HCl HCf HCa HCt⊢
 dsimp only at HCk HCn HCl HCf HCa HCt⊢
 have HK:=h_ (Blk.new w 28 (Jb al m alc ap apc ar arc af afc))
 have HB:=h_ ((bR w.heap.size w).alloc (nR _) (.cells (Jb al m alc ap apc ar arc af afc) 28))
 obtain⟨W0,hW0⟩:=Nq (w.alloc (.cells (Jb al m alc ap apc ar arc af afc) 28))
 rw[hW0]at HK HB
 have HS:=h_ (ha.mono HB.u);have HT:=h_ (ht.mono HB.u);have HY:=h_ (hy.mono HB.u)
 clear ha ht hy hf hcap
 have HR:Hi (q=false->(Ending.returned (.tuple #[.string (if q then ⟨(cT m).toArray⟩ else ⟨#[]⟩),.bool q]))=.returned (.tuple #[Yb,.bool false])):=h_ fun h=>by rw[h];rfl
 have HR1:Hi (q=true->(Ending.returned (.tuple #[.string (if q then ⟨(cT m).toArray⟩ else ⟨#[]⟩),.bool q]))=.returned (.tuple #[.string ⟨(cT m).toArray⟩,.bool true])):=h_ fun h=>by rw[h];rfl
 generalize (Ending.returned (.tuple #[.string (if q then ⟨(cT m).toArray⟩ else ⟨#[]⟩),.bool q]))=RR at *
 obtain⟨y0,y1,y2,y3⟩:=quad HK.u
 go_enter Tryz.func79,Tryz.ntmps79
 go_wp2_with fail
 try rw[hW0]
 refine(HCk.u W0).mono ?_
 rintro r W1 ⟨rfl,hb1⟩
 clear hW0
 replace HK:=mB HK hb1;replace HS:=h_ (HS.u.mono hb1);replace HT:=h_ (HT.u.mono hb1);replace HY:=h_ (HY.u.mono hb1);replace HB:=mT HB hb1
 clear y0 y1 y2 y3 hb1
 obtain⟨y0,y1,y2,y3⟩:=quad HK.u
 have HCo:Hi (decide (m.L.length<=32/\m.P.length<=256/\m.R.length<=64/\m.F.length<=200)=true->Counts m):=h_ fun h=>⟨(Ze h).1,(Ze h).2.1,(Ze h).2.2.1,(Ze h).2.2.2⟩
 have HCx:Hi (decide (m.L.length<=32/\m.P.length<=256/\m.R.length<=64/\m.F.length<=200)=false->¬ VfA m):=h_ fun h v=>of_decide_eq_false h ⟨v.nl,v.np,v.nr,v.nf⟩
 generalize decide (m.L.length<=32/\m.P.length<=256/\m.R.length<=64/\m.F.length<=200)=g at *
 cases g
 . have HX:=h_ (HR.u (HF0.u (HCx.u rfl)))
   go_wp2_with fail
   go_ret2
   exact⟨HX.u.symm,HB.u⟩
 have HC:=h_ (HCo.u rfl)
 clear HCo HCx HCk
 go_wp2_with fail
 refine(HCn.u W1 HC.u HS.u).mono ?_
 rintro r W2 ⟨rfl,hb1⟩
 replace HK:=mB HK hb1;replace HS:=h_ (HS.u.mono hb1);replace HT:=h_ (HT.u.mono hb1);replace HY:=h_ (HY.u.mono hb1);replace HB:=mT HB hb1
 clear y0 y1 y2 y3 hb1
 obtain⟨y0,y1,y2,y3⟩:=quad HK.u
 cases hn:(namesOk m.L&&namesOk (rNames m)&&namesOk (fNames m))
 . have HX:=h_ (HR.u (HF0.u fun v=>by rw[v.l,v.r,v.f]at hn;cases hn))
   go_wp2_with fail
   go_ret2
   exact⟨HX.u.symm,HB.u⟩
 have HN:=h_ hn
 clear hn HCn
 go_wp2_with fail
 refine(HCl.u W2 HC.u HS.u).mono ?_
 rintro r W3 ⟨rfl,hb1⟩
 replace HK:=mB HK hb1;replace HS:=h_ (HS.u.mono hb1);replace HT:=h_ (HT.u.mono hb1);replace HY:=h_ (HY.u.mono hb1);replace HB:=mT HB hb1
 clear y0 y1 y2 y3 hb1
 obtain⟨y0,y1,y2,y3⟩:=quad HK.u
 have HLx:Hi (((m.P.all fun p=>inR m.L.length p.1&&inR m.L.length p.2)&&m.R.all fun r=>inR m.L.length r.lb)=false->¬ VfA m):=h_ fun h v=>by
  rw[Y4.2 (fun x hx=>by rw[(v.p x hx).1,(v.p x hx).2];rfl),Y4.2 (fun x hx=>v.ro x hx)]at h;cases h
 have HLy:Hi (((m.P.all fun p=>inR m.L.length p.1&&inR m.L.length p.2)&&m.R.all fun r=>inR m.L.length r.lb)=true->(∀x,x∈m.P->inR m.L.length x.1=true/\inR m.L.length x.2=true)/\∀x,x∈m.R->inR m.L.length x.lb=true):=h_ fun h=>by
  simp only[Yp,Y4]at h;exact h
 generalize ((m.P.all fun p=>inR m.L.length p.1&&inR m.L.length p.2)&&m.R.all fun r=>inR m.L.length r.lb)=g at *
 cases g
 . have HX:=h_ (HR.u (HF0.u (HLx.u rfl)))
   go_wp2_with fail
   go_ret2
   exact⟨HX.u.symm,HB.u⟩
 have HL:=h_ (HLy.u rfl)
 clear HLx HLy HCl
 go_wp2_with fail
 refine(HCf.u W3 HC.u HS.u HT.u).mono ?_
 rintro r W4 ⟨rfl,hb1⟩
 replace HK:=mB HK hb1;replace HS:=h_ (HS.u.mono hb1);replace HT:=h_ (HT.u.mono hb1);replace HY:=h_ (HY.u.mono hb1);replace HB:=mT HB hb1
 clear y0 y1 y2 y3 hb1
 obtain⟨y0,y1,y2,y3⟩:=quad HK.u
 cases hn:m.F.all (fieldOk m.L.length m.R.length)
 . have HX:=h_ (HR.u (HF0.u fun v=>by rw[Y4.2 (fun x hx=>v.fi x hx)]at hn;cases hn))
   go_wp2_with fail
   go_ret2
   exact⟨HX.u.symm,HB.u⟩
 have HFi:=h_ (Y4.1 hn)
 clear hn HCf
 go_wp2_with fail
 refine(HCa.u W4 HC.u HS.u).mono ?_
 rintro r W5 ⟨x,rfl,hx,hb1⟩
 replace HK:=mB HK hb1;replace HS:=h_ (HS.u.mono hb1);replace HT:=h_ (HT.u.mono hb1);replace HY:=h_ (HY.u.mono hb1);replace HB:=mT HB hb1
 clear y0 y1 y2 y3 hb1
 obtain⟨y0,y1,y2,y3⟩:=quad HK.u
 have HA:=h_ hx
 clear hx HCa
 by_cases hneg:0<=x
 . have HX:=h_ (HR.u (HF0.u fun v=>by have:=HA.u.2.2.2 (fun y hy=>v.kn y hy);omega))
   go_wp2_with fail
   go_ret2
   exact⟨HX.u.symm,HB.u⟩
 have HVv:Hi (VfA m):=h_ ⟨HC.u.l,HC.u.p,HC.u.r,HC.u.f,by have:=HN.u;simp only[Yp]at this;exact this.1.1,by have:=HN.u;simp only[Yp]at this;exact this.1.2,by have:=HN.u;simp only[Yp]at this;exact this.2,HL.u.1,HL.u.2,HFi.u,HA.u.2.2.1 (by omega)⟩
 have hTb:(cT m).length<=3714016:=by rw[<- c4_all];exact c4_len HVv.u _
 have HQ:Hi (q=decide ((cT m).length<=30000)):=h_ (HT0.u HVv.u)
 replace HCt:=h_ (HCt.u W5 HVv.u HS.u HT.u HY.u)
 obtain⟨T,hT⟩:∃T:ByteArray,⟨(cT m).toArray⟩=T:=⟨_,rfl⟩
 have hTs:T.size=(cT m).length:=by rw[<- hT];rfl
 rw[<- hTs]at HQ hTb
 rw[hT]at HCt HR1
 clear hT hTs
 go_wp2_with fail
 refine HCt.u.mono ?_
 rintro r W6 ⟨rfl,hb1⟩
 replace HB:=mT HB hb1
 clear hb1 y0 y1 y2 y3
 by_cases hlen:(30000:Int)<T.size
 . have HX:=h_ (HR.u (by rw[HQ.u,Yi (by omega)]))
   go_wp2_with fail
   go_ret2
   exact⟨HX.u.symm,HB.u⟩
 . have HX:=h_ (HR1.u (by rw[HQ.u,Ym (by omega)]))
   go_wp2_with fail
   go_ret2
   exact⟨HX.u.symm,HB.u⟩
theorem q0c (m:Fm)(A:MA)(w:World)(hf:FitM m)(hcap:Caps m A)(ha:MSl w m A)(ht:Tabs w)(hy:TyW w) :
 Calls Tryz.prog 44 #[mV m A] w fun r w'=>r=.returned (.bool (vfB m))/\Below w.heap.size w w':=by
 obtain⟨al,alc,ap,apc,ar,arc,af,afc,afa⟩:=A
 have HC:=h_ fun W (hs:MSl W m ⟨al,alc,ap,apc,ar,arc,af,afc,afa⟩) (ht:Tabs W) (hy:TyW W)=>q29 m ⟨al,alc,ap,apc,ar,arc,af,afc,afa⟩ W hf hcap hs ht hy
 obtain⟨t,ht'⟩:∃t,(if vfB m then ⟨(cT m).toArray⟩ else ⟨#[]⟩)=(t:ByteArray):=⟨_,rfl⟩
 unfold mV at HC⊢
 dsimp only at HC⊢
 have HK:=h_ (Blk.new w 28 (Jb al m alc ap apc ar arc af afc))
 have HB:=h_ ((bR w.heap.size w).alloc (nR _) (.cells (Jb al m alc ap apc ar arc af afc) 28))
 obtain⟨W0,hW0⟩:=Nq (w.alloc (.cells (Jb al m alc ap apc ar arc af afc) 28))
 rw[hW0]at HK HB
 replace HC:=h_ (HC.u W0 (ha.mono HB.u) (ht.mono HB.u) (hy.mono HB.u))
 rw[ht']at HC
 clear ha ht hy hf hcap ht'
 obtain⟨y0,y1,y2,y3⟩:=quad HK.u
 go_enter Tryz.func44,Tryz.ntmps44
 go_wp2_with fail
 try rw[hW0]
 refine HC.u.mono ?_
 rintro r W1 ⟨rfl,hb1⟩
 replace HB:=mT HB hb1
 clear hb1 hW0 y0 y1 y2 y3
 go_wp2_with fail
 go_ret
 exact⟨rfl,HB.u⟩
end Go.Proofs.YtebbgodlijlioaaGreatDoor
