import Derived.Test.YtfmammdgehbjhaaGreatDoorW31
import Derived.Great.BuildSlice
set_option maxRecDepth 100000
set_option maxHeartbeats 64000000
namespace Go.Proofs.YtfmammdgehbjhaaGreatDoor
open Go Go.RowKit
def fdI (l:List ByteArray)(x:ByteArray):Int:=if memB x l=true then ((ixN l x:Nat):Int) else -1
theorem fdI_at {l:List ByteArray}{x:ByteArray}{k:Nat}(hk:k<l.length)(hx:l[k]=x)(h:∀j (h:j<l.length),j<k->l[j]≠x):fdI l x=(k:Int):=by
 have hm:memB x l=true:=(qct _ _).2 (hx ▸ Ys hk)
 unfold fdI
 rw[Yn hm]
 have:ixN l x=k:=by
  unfold ixN;rw[List.findIdx_eq hk];exact⟨by simpa using hx,fun j hj=>by simpa using h j (by omega) hj⟩
 rw[this]
theorem fdI_no {l:List ByteArray}{x:ByteArray}(h:∀j (h:j<l.length),l[j]≠x):fdI l x = -1:=by
 unfold fdI
 rw[Yi]
 intro hm
 obtain⟨j,hj,e⟩:=Zo.1 ((qct _ _).1 hm)
 exact h j hj e
theorem fdI_y {l:List ByteArray}{x:ByteArray}(h:memB x l=true):fdI l x=((ixN l x:Nat):Int):=by unfold fdI;rw[Yn h]
theorem fdI_n {l:List ByteArray}{x:ByteArray}(h:memB x l=false):fdI l x = -1:=by unfold fdI;rw[Yi (by rw[h];decide)]
theorem q9j (a:Option Addr)(c:Nat)(l:List ByteArray)(s:ByteArray)(w:World)(hl:l.length<=9223372036854775807)(ha:Strs w a l) :
 Calls Tryz.prog 50 #[.slice a l.length c,.string s] w fun r w'=>r=.returned (Ya (fdI l s))/\w'=w:=by
 have HA:=h_ ha
 clear ha
 go_enter Tryz.func50,Tryz.ntmps50
 go_wp2_with fail
 go_loopw [5] (fun i wr=>∃k:Nat,k<=l.length/\i=Ya k/\(∀j (h:j<l.length),j<k->l[j]≠s)/\wr=w) (fun i _=>l.length - (intOf i).toNat)
 case atStart=>exact⟨0,nZ _,rfl,fun j _ hj=>absurd hj (nL _),rfl⟩
 case round =>
  obtain⟨k,hk,rfl,hall,rfl⟩:=hrel;have HL:=h_ hall;clear hall;by_cases hlt:k<l.length
  . have hlt':(k:Int)<l.length:=by omega
    obtain⟨b,o,rfl,-,c0⟩:=HA.u k hlt;have he:=eqS l[k] s;by_cases hq:l[k]=s
    . have HX:Hi (fdI l s=(k:Int)):=h_ (fdI_at hlt hq HL.u)
      rw[Yh hq]at he;clear hq;generalize l[k]=t at *;go_wp2_with fail;go_ret;exact⟨by rw[HX.u];rfl,rfl⟩
    . have HN:Hi (∀j (h:j<l.length),j<k+1->l[j]≠s):=h_ fun j h hj=>by
       by_cases ej:j=k
       . subst ej;exact hq
       . exact HL.u j h (by omega)
      rw[Yg hq]at he;clear hq;generalize l[k]=t at *;go_wp2_with fail;go_roundw
      case rel=>exact⟨k+1,by omega,by go_num,HN.u,by first | rfl | trivial⟩
      case measure=>simp[intOf];omega
  . have hlt':¬ (k:Int)<l.length:=by omega
    go_wp2_with fail;go_ret;exact⟨by rw[fdI_no fun j hj=>HL.u j hj (by omega)];rfl,rfl⟩
def FmV (v:Value):Prop:=∃a1 n1 c1 a2 n2 c2 a3 n3 c3 a4 n4 c4,v=.agg #[.slice a1 n1 c1,.slice a2 n2 c2,.slice a3 n3 c3,.slice a4 n4 c4]
def AddO (w:World)(base:Nat)(m:Fm)(last:Nat)(x:Sx)(r:Ending)(w':World):Prop:=Below base w w'/\(∀g cs,Blk w g 44 cs->Blk w' g 44 cs) /\
 ((∃(c:Nat) (v:Value),addS m last x=.inl c/\c≠0/\FmV v/\r=.returned (.tuple #[v,Ya (c:Nat)])) ∨
 ∃m' v1 v2 v3 v4 P',addS m last x=.inr m'/\r=.returned (.tuple #[.agg #[v1,v2,v3,v4],Ya 0])/\OwM w' base v1 v2 v3 v4 m' P')
theorem qe2 (w:World)(g:Nat)(cells:Array Value):∀k,k≠g->(w.setRow g cells).heap[k]? = w.heap[k]?:=fun k hk=>setRow_other w g k cells hk
theorem qaj (w:World)(g o:Nat)(x:Value):∀k,k≠g->(w.setCell ⟨g,o,none⟩ x).heap[k]? = w.heap[k]?:=fun k hk=>heap_setCell_other w ⟨g,o,none⟩ k x hk
theorem q6y (m:Fm)(P:List (Fl × FA))(last:Nat)(v1 v2 v3 v4:Value)(base:Nat)(w:World)(hb0:base<=w.heap.size)(hm:OwM w base v1 v2 v3 v4 m P) :
 Calls Tryz.prog 13 #[.agg #[v1,v2,v3,v4],.agg nil44.toArray,Ya (last:Nat)] w fun r w'=>Below base w w'/\∃v,FmV v/\r=.returned (.tuple #[v,Ya 3]):=by
 obtain⟨A,-,-,rfl,rfl,rfl,rfl,-⟩:=hm.sl
 rw[show nil44.toArray=Ja from rfl]
 have HB:=h_ ((((bR w.heap.size w).alloc (nR _) (.cells (Jb A m) 27)).alloc (by simp) (.cells Ja 44)).alloc (by simp;omega) (.cells Jc 27))
 have HF:=h_ (((Blk.new w 27 (Jb A m)).alloc (.cells Ja 44)).alloc (.cells Jc 27))
 have HS:=h_ ((Blk.new (w.alloc (.cells (Jb A m) 27)) 44 Ja).alloc (.cells Jc 27))
 have HR:=h_ (Blk.new ((w.alloc (.cells (Jb A m) 27)).alloc (.cells Ja 44)) 27 Jc)
 rw[Yy]at HS
 rw[Yy,Yy]at HR
 obtain⟨W0,hW0⟩:=Nq (((w.alloc (.cells (Jb A m) 27)).alloc (.cells Ja 44)).alloc (.cells Jc 27))
 rw[hW0]at HB HF HS HR
 have HB0:=h_ hb0
 clear hm hb0
 obtain⟨⟨s0,s1,s2,s3,s4,s5⟩,s6,s7,s8,s9,s10⟩:=eleven HS.u
 obtain⟨g0,g1,g2,g3⟩:=quad HF.u
 go_enter Tryz.func13,Tryz.ntmps13
 go_wp2_with (refine stR HR.u ?_)
 have HBq:=h_ (HR.u.rowS (Jb A m).toList)
 obtain⟨q0,q1,q2,q3⟩:=quad HBq.u
 exact bodyPost_ret (v:=.tuple #[.agg (Jb A m),Ya 3]) (by simp[results,Tryz.results13,go_sem,q0,q1,q2,q3]) rfl ⟨(q8i HB.u (by omega) _).mono HB0.u,_,⟨_,_,_,_,_,_,_,_,_,_,_,_,rfl⟩,rfl⟩
theorem q4y (m:Fm)(P:List (Fl × FA))(last:Nat)(x:Sx)(v1 v2 v3 v4 v:Value)(base:Nat)(w:World)(hk:x.kind=1)(hb0:base<=w.heap.size)(hm:OwM w base v1 v2 v3 v4 m P)(hv:VfB m)(hx:SxV w base v x)(hl:last<=4) :
 Calls Tryz.prog 13 #[.agg #[v1,v2,v3,v4],v,Ya (last:Nat)] w (AddO w base m last x):=by
 obtain⟨kind,name,other,auto,typ,bys,u⟩:=x
 obtain⟨vb,vi,vh,vv,vm,rfl,hsb,hsi,hsh,hsv,hsm⟩:=hx
 simp only at hk hsb hsi hsh hsv hsm
 subst hk
 obtain⟨A,-,hsl,rfl,rfl,rfl,rfl,-⟩:=hm.sl
 obtain⟨ab,cb,rfl,-,-⟩:=hsb.strs
 obtain⟨ai,ci,rfl,-⟩:=hsi.nods
 obtain⟨ah,ch,rfl,-⟩:=hsh.nods
 obtain⟨av,cv,rfl,-⟩:=hsv.nods
 obtain⟨au,cu,rfl,-⟩:=hsm.nods
 dsimp only
 rw[show(((1:Nat):Int))=1 from rfl]
 have bl:=hv.nl;have bp:=hv.np;have br:=hv.nr;have bf:=hv.nf
 have HB:=h_ ((((bR w.heap.size w).alloc (nR _) (.cells (Jb A m) 27)).alloc (by simp) (.cells #[Ya 1,.string name,.string other,.bool auto,Ya (typ:Nat),.slice ab bys.length cb,.slice ai u.is.length ci,.slice ah u.wh.length ch,.slice av u.va.length cv,.string u.sa,.slice au u.mu.length cu] 44)).alloc (by simp;omega) (.cells Jc 27))
 have HF:=h_ (((Blk.new w 27 (Jb A m)).alloc (.cells #[Ya 1,.string name,.string other,.bool auto,Ya (typ:Nat),.slice ab bys.length cb,.slice ai u.is.length ci,.slice ah u.wh.length ch,.slice av u.va.length cv,.string u.sa,.slice au u.mu.length cu] 44)).alloc (.cells Jc 27))
 have HS:=h_ ((Blk.new (w.alloc (.cells (Jb A m) 27)) 44 #[Ya 1,.string name,.string other,.bool auto,Ya (typ:Nat),.slice ab bys.length cb,.slice ai u.is.length ci,.slice ah u.wh.length ch,.slice av u.va.length cv,.string u.sa,.slice au u.mu.length cu]).alloc (.cells Jc 27))
 have HR:=h_ (Blk.new ((w.alloc (.cells (Jb A m) 27)).alloc (.cells #[Ya 1,.string name,.string other,.bool auto,Ya (typ:Nat),.slice ab bys.length cb,.slice ai u.is.length ci,.slice ah u.wh.length ch,.slice av u.va.length cv,.string u.sa,.slice au u.mu.length cu] 44)) 27 Jc)
 rw[Yy]at HS
 rw[Yy,Yy]at HR
 obtain⟨W0,hW0⟩:=Nq (((w.alloc (.cells (Jb A m) 27)).alloc (.cells #[Ya 1,.string name,.string other,.bool auto,Ya (typ:Nat),.slice ab bys.length cb,.slice ai u.is.length ci,.slice ah u.wh.length ch,.slice av u.va.length cv,.string u.sa,.slice au u.mu.length cu] 44)).alloc (.cells Jc 27))
 rw[hW0]at HB HF HS HR
 have HM:=h_ (hm.mono HB.u)
 have HKs:Hi (∀g cs,Blk w g 44 cs->Blk W0 g 44 cs):=h_ fun g cs h=>h.mono HB.u h.lt
 have HRn:=h_ (q0x m A W0 br (hsl.r.mono HB.u))
 have HLs:=h_ (hsl.l.mono HB.u)
 have HRl:=h_ (hsl.r.mono HB.u);have HFl:=h_ (hsl.f.mono HB.u)
 have HB0:=h_ hb0
 clear hm hsl hb0
 obtain⟨⟨s0,s1,s2,s3,s4,s5⟩,s6,s7,s8,s9,s10⟩:=eleven HS.u
 obtain⟨g0,g1,g2,g3⟩:=quad HF.u
 by_cases hla:1<last
 case pos =>
  have hla':((1:Int)<(last:Int)):=by omega
  have HX:Hi (addS m last ⟨1,name,other,auto,typ,bys,u⟩=.inl 4):=h_ (by unfold addS;rw[Yn hla]);clear hla;go_enter Tryz.func13,Tryz.ntmps13;go_wp2_with (refine stR HR.u ?_);have HBq:=h_ (HR.u.rowS (Jb A m).toList);obtain⟨q0,q1,q2,q3⟩:=quad HBq.u;exact bodyPost_ret (v:=.tuple #[.agg (Jb A m),Ya 4]) (by simp[results,Tryz.results13,go_sem,q0,q1,q2,q3]) rfl ⟨(q8i HB.u (by omega) _).mono HB0.u,fun g cs h=>(HKs.u g cs h).rowS_other (fun e=>by have:=h.lt;omega) _,.inl ⟨4,_,HX.u,by decide,⟨_,_,_,_,_,_,_,_,_,_,_,_,rfl⟩,rfl⟩⟩
 have hla':¬ ((1:Int)<(last:Int)):=by omega
 have HLa:=h_ hla
 clear hla
 go_enter Tryz.func13,Tryz.ntmps13
 go_wp2_with fail
 try rw[hW0]
 refine HRn.u.mono ?_
 rintro e W1 ⟨a0,c0,rfl,hro,hb⟩
 have HRo:=h_ hro
 clear hro hW0 HRn
 replace HF:=h_ (HF.u.mono hb HF.u.lt);replace HS:=mB HS hb;replace HR:=mB HR hb;replace HM:=h_ (HM.u.mono hb);replace HB:=mT HB hb;replace HLs:=h_ (HLs.u.mono hb);replace HRl:=h_ (HRl.u.mono hb);replace HFl:=h_ (HFl.u.mono hb)
 replace HKs:=h_ (fun g cs h=>(HKs.u g cs h).mono hb (HKs.u g cs h).lt)
 clear hb s0 s1 s2 s3 s4 s5 s6 s7 s8 s9 s10 g0 g1 g2 g3
 obtain⟨⟨s0,s1,s2,s3,s4,s5⟩,s6,s7,s8,s9,s10⟩:=eleven HS.u
 obtain⟨g0,g1,g2,g3⟩:=quad HF.u
 by_cases hcap:32<=m.L.length
 case pos =>
  have hcap':(32:Int)<=(m.L.length:Int):=by omega
  have HX:Hi (addS m last ⟨1,name,other,auto,typ,bys,u⟩=.inl 5):=h_ (by unfold addS;rw[Yi HLa.u,Yn rfl,Yn hcap]);clear hcap;go_wp2_with (refine stR HR.u ?_);have HBq:=h_ (HR.u.rowS (Jb A m).toList);obtain⟨q0,q1,q2,q3⟩:=quad HBq.u;exact bodyPost_ret (v:=.tuple #[.agg (Jb A m),Ya 5]) (by simp[results,Tryz.results13,go_sem,q0,q1,q2,q3]) rfl ⟨(q8i HB.u (by omega) _).mono HB0.u,fun g cs h=>(HKs.u g cs h).rowS_other (fun e=>by have:=h.lt;omega) _,.inl ⟨5,_,HX.u,by decide,⟨_,_,_,_,_,_,_,_,_,_,_,_,rfl⟩,rfl⟩⟩
 have hcap':¬ (32:Int)<=(m.L.length:Int):=by omega
 go_wp2_with fail
 refine(q9j _ _ _ _ _ (by omega) HLs.u).mono ?_
 rintro e W8 ⟨rfl,hwe⟩
 subst hwe
 cases hme:memB name m.L
 case true =>
  rw[fdI_y hme];have HX:Hi (addS m last ⟨1,name,other,auto,typ,bys,u⟩=.inl 6):=h_ (by unfold addS;rw[Yi HLa.u,Yn rfl,Yi hcap,Yn hme]);have hge:(0:Int)<=((ixN m.L name:Nat):Int):=by omega
  clear hcap hme;go_wp2_with (refine stR HR.u ?_);have HBq:=h_ (HR.u.rowS (Jb A m).toList);obtain⟨q0,q1,q2,q3⟩:=quad HBq.u;exact bodyPost_ret (v:=.tuple #[.agg (Jb A m),Ya 6]) (by simp[results,Tryz.results13,go_sem,q0,q1,q2,q3]) rfl ⟨(q8i HB.u (by omega) _).mono HB0.u,fun g cs h=>(HKs.u g cs h).rowS_other (fun e=>by have:=h.lt;omega) _,.inl ⟨6,_,HX.u,by decide,⟨_,_,_,_,_,_,_,_,_,_,_,_,rfl⟩,rfl⟩⟩
 rw[fdI_n hme]
 have HX:Hi (addS m last ⟨1,name,other,auto,typ,bys,u⟩=.inr { m with L:=m.L++[name] }):=h_ (by unfold addS;rw[Yi HLa.u,Yn rfl,Yi hcap,Yi (by rw[hme];decide)])
 have hge:¬ (0:Int)<=(-1:Int):=by omega
 clear hcap hme
 have HNs:Hi (Blk _ _ 9 [.string name]):=h_ (Blk.new W8 9 #[.string name])
 have hb:=(bR W8.heap.size W8).alloc (nR _) (.cells #[.string name] 9)
 have HM2:=h_ (HM.u.mono hb);have HF2:=h_ (HF.u.mono hb HF.u.lt);have HR2:=mB HR hb;have HB2:=mT HB hb
 have HK2:Hi (∀g cs,Blk w g 44 cs->Blk _ g 44 cs):=h_ (fun g cs h=>(HKs.u g cs h).mono hb (HKs.u g cs h).lt)
 clear hb
 go_wp2_with (at_builtin;refine qb8 (n:=name) rfl _ _ rfl rfl HM2.u.l rfl HNs.u (by omega) (by have:=HB0.u;have:=HB2.u.size;omega) ?_)
 intro v9 W9 ho9 hg9 hb9
 have HM9:=h_ (HM2.u.addL (x:=name) (by rw[Yf];exact ho9) hg9)
 have HF9:=h_ (HF2.u.grown hg9 (fun e=>qdg HM2.u.l HF2.u (by decide) e.symm));have HR9:=h_ (HR2.u.grown hg9 (fun e=>qdg HM2.u.l HR2.u (by decide) e.symm))
 have HK9:Hi (∀g cs,Blk w g 44 cs->Blk W9 g 44 cs):=h_ (fun g cs h=>(HK2.u g cs h).grown hg9 (fun e=>qdg HM2.u.l (HK2.u g cs h) (by decide) e.symm))
 have HB9:=h_ ((HB2.u.mono HB0.u).trans hb9)
 obtain⟨a9,c9,hv9,-⟩:=q7o ho9
 subst hv9
 have fr0:=HF9.u.free 0
 obtain⟨g0',g1',g2',g3'⟩:=quad HF9.u
 have HFs:=h_ (HF9.u.set 0 (.slice a9 (m.L.length+1) c9))
 have HMs:=h_ (HM9.u.one HF9.u (by decide) (by decide) (by decide) (by decide) (by decide) (by decide) (qaj W9 w.heap.size 0 (.slice a9 (m.L.length+1) c9)))
 have HRs:=h_ (HR9.u.other (a:=⟨w.heap.size,0,none⟩) (.slice a9 (m.L.length+1) c9) (by show w.heap.size+1+1≠w.heap.size;omega))
 have HBs:=h_ (HB9.u.setCell (p:=⟨w.heap.size,0,none⟩) HB0.u (.slice a9 (m.L.length+1) c9))
 have HKt:Hi (∀g cs,Blk w g 44 cs->Blk _ g 44 cs):=h_ (fun g cs h=>(HK9.u g cs h).other (a:=⟨w.heap.size,0,none⟩) (.slice a9 (m.L.length+1) c9) (fun e=>by have:=h.lt;simp only at e;omega))
 clear ho9 hg9 hb9 s0 s1 s2 s3 s4 s5 s6 s7 s8 s9 s10 g0 g1 g2 g3
 obtain⟨X,hX⟩:=Nq (W9.setCell ⟨w.heap.size,0,none⟩ (.slice a9 (m.L.length+1) c9))
 rw[hX]at HFs HMs HRs HBs HKt
 obtain⟨q0,q1,q2,q3⟩:=quad HFs.u
 go_wp2_with ((try rw[hX]);refine stR HRs.u ?_)
 have HBq:=h_ (HRs.u.rowS #[.slice a9 (m.L.length+1) c9,.slice A.p m.P.length A.pc,.slice A.r m.R.length A.rc,.slice A.f m.F.length A.fc].toList)
 obtain⟨p0,p1,p2,p3⟩:=quad HBq.u
 have HMe:=h_ (HMs.u.one HRs.u (by decide) (by decide) (by decide) (by decide) (by decide) (by decide) (qe2 X (w.heap.size+1+1) #[.slice a9 (m.L.length+1) c9,.slice A.p m.P.length A.pc,.slice A.r m.R.length A.rc,.slice A.f m.F.length A.fc]))
 exact bodyPost_ret (v:=.tuple #[.agg #[.slice a9 (m.L.length+1) c9,.slice A.p m.P.length A.pc,.slice A.r m.R.length A.rc,.slice A.f m.F.length A.fc],Ya 0]) (by simp[results,Tryz.results13,go_sem,p0,p1,p2,p3]) rfl ⟨q8i HBs.u (by have:=HB0.u;omega) _,fun g cs h=>(HKt.u g cs h).rowS_other (fun e=>by have:=h.lt;omega) _,.inr ⟨_,_,_,_,_,_,HX.u,rfl,HMe.u⟩⟩
theorem q4w (m:Fm)(P:List (Fl × FA))(last:Nat)(x:Sx)(v1 v2 v3 v4 v:Value)(base:Nat)(w:World)(hk:x.kind=2)(hb0:base<=w.heap.size)(hm:OwM w base v1 v2 v3 v4 m P)(hv:VfB m)(hx:SxV w base v x)(hl:last<=4) :
 Calls Tryz.prog 13 #[.agg #[v1,v2,v3,v4],v,Ya (last:Nat)] w (AddO w base m last x):=by
 obtain⟨kind,name,other,auto,typ,bys,u⟩:=x
 obtain⟨vb,vi,vh,vv,vm,rfl,hsb,hsi,hsh,hsv,hsm⟩:=hx
 simp only at hk hsb hsi hsh hsv hsm
 subst hk
 obtain⟨A,-,hsl,rfl,rfl,rfl,rfl,-⟩:=hm.sl
 obtain⟨ab,cb,rfl,-,-⟩:=hsb.strs
 obtain⟨ai,ci,rfl,-⟩:=hsi.nods
 obtain⟨ah,ch,rfl,-⟩:=hsh.nods
 obtain⟨av,cv,rfl,-⟩:=hsv.nods
 obtain⟨au,cu,rfl,-⟩:=hsm.nods
 dsimp only
 rw[show(((2:Nat):Int))=2 from rfl]
 have bl:=hv.nl;have bp:=hv.np;have br:=hv.nr;have bf:=hv.nf
 have HB:=h_ ((((bR w.heap.size w).alloc (nR _) (.cells (Jb A m) 27)).alloc (by simp) (.cells #[Ya 2,.string name,.string other,.bool auto,Ya (typ:Nat),.slice ab bys.length cb,.slice ai u.is.length ci,.slice ah u.wh.length ch,.slice av u.va.length cv,.string u.sa,.slice au u.mu.length cu] 44)).alloc (by simp;omega) (.cells Jc 27))
 have HF:=h_ (((Blk.new w 27 (Jb A m)).alloc (.cells #[Ya 2,.string name,.string other,.bool auto,Ya (typ:Nat),.slice ab bys.length cb,.slice ai u.is.length ci,.slice ah u.wh.length ch,.slice av u.va.length cv,.string u.sa,.slice au u.mu.length cu] 44)).alloc (.cells Jc 27))
 have HS:=h_ ((Blk.new (w.alloc (.cells (Jb A m) 27)) 44 #[Ya 2,.string name,.string other,.bool auto,Ya (typ:Nat),.slice ab bys.length cb,.slice ai u.is.length ci,.slice ah u.wh.length ch,.slice av u.va.length cv,.string u.sa,.slice au u.mu.length cu]).alloc (.cells Jc 27))
 have HR:=h_ (Blk.new ((w.alloc (.cells (Jb A m) 27)).alloc (.cells #[Ya 2,.string name,.string other,.bool auto,Ya (typ:Nat),.slice ab bys.length cb,.slice ai u.is.length ci,.slice ah u.wh.length ch,.slice av u.va.length cv,.string u.sa,.slice au u.mu.length cu] 44)) 27 Jc)
 rw[Yy]at HS
 rw[Yy,Yy]at HR
 obtain⟨W0,hW0⟩:=Nq (((w.alloc (.cells (Jb A m) 27)).alloc (.cells #[Ya 2,.string name,.string other,.bool auto,Ya (typ:Nat),.slice ab bys.length cb,.slice ai u.is.length ci,.slice ah u.wh.length ch,.slice av u.va.length cv,.string u.sa,.slice au u.mu.length cu] 44)).alloc (.cells Jc 27))
 rw[hW0]at HB HF HS HR
 have HM:=h_ (hm.mono HB.u)
 have HKs:Hi (∀g cs,Blk w g 44 cs->Blk W0 g 44 cs):=h_ fun g cs h=>h.mono HB.u h.lt
 have HRn:=h_ (q0x m A W0 br (hsl.r.mono HB.u))
 have HLs:=h_ (hsl.l.mono HB.u)
 have HRl:=h_ (hsl.r.mono HB.u);have HFl:=h_ (hsl.f.mono HB.u)
 have HB0:=h_ hb0
 clear hm hsl hb0
 obtain⟨⟨s0,s1,s2,s3,s4,s5⟩,s6,s7,s8,s9,s10⟩:=eleven HS.u
 obtain⟨g0,g1,g2,g3⟩:=quad HF.u
 by_cases hla:2<last
 case pos =>
  have hla':((2:Int)<(last:Int)):=by omega
  have HX:Hi (addS m last ⟨2,name,other,auto,typ,bys,u⟩=.inl 4):=h_ (by unfold addS;rw[Yn hla]);clear hla;go_enter Tryz.func13,Tryz.ntmps13;go_wp2_with (refine stR HR.u ?_);have HBq:=h_ (HR.u.rowS (Jb A m).toList);obtain⟨q0,q1,q2,q3⟩:=quad HBq.u;exact bodyPost_ret (v:=.tuple #[.agg (Jb A m),Ya 4]) (by simp[results,Tryz.results13,go_sem,q0,q1,q2,q3]) rfl ⟨(q8i HB.u (by omega) _).mono HB0.u,fun g cs h=>(HKs.u g cs h).rowS_other (fun e=>by have:=h.lt;omega) _,.inl ⟨4,_,HX.u,by decide,⟨_,_,_,_,_,_,_,_,_,_,_,_,rfl⟩,rfl⟩⟩
 have hla':¬ ((2:Int)<(last:Int)):=by omega
 have HLa:=h_ hla
 clear hla
 go_enter Tryz.func13,Tryz.ntmps13
 go_wp2_with fail
 try rw[hW0]
 refine HRn.u.mono ?_
 rintro e W1 ⟨a0,c0,rfl,hro,hb⟩
 have HRo:=h_ hro
 clear hro hW0 HRn
 replace HF:=h_ (HF.u.mono hb HF.u.lt);replace HS:=mB HS hb;replace HR:=mB HR hb;replace HM:=h_ (HM.u.mono hb);replace HB:=mT HB hb;replace HLs:=h_ (HLs.u.mono hb);replace HRl:=h_ (HRl.u.mono hb);replace HFl:=h_ (HFl.u.mono hb)
 replace HKs:=h_ (fun g cs h=>(HKs.u g cs h).mono hb (HKs.u g cs h).lt)
 clear hb s0 s1 s2 s3 s4 s5 s6 s7 s8 s9 s10 g0 g1 g2 g3
 obtain⟨⟨s0,s1,s2,s3,s4,s5⟩,s6,s7,s8,s9,s10⟩:=eleven HS.u
 obtain⟨g0,g1,g2,g3⟩:=quad HF.u
 by_cases hcap:256<=m.P.length
 case pos =>
  have hcap':(256:Int)<=(m.P.length:Int):=by omega
  have HX:Hi (addS m last ⟨2,name,other,auto,typ,bys,u⟩=.inl 5):=h_ (by unfold addS;rw[Yi HLa.u,Yi (show ¬ (2:Nat)=1 by decide),Yn rfl,Yn hcap]);clear hcap;go_wp2_with (refine stR HR.u ?_);have HBq:=h_ (HR.u.rowS (Jb A m).toList);obtain⟨q0,q1,q2,q3⟩:=quad HBq.u;exact bodyPost_ret (v:=.tuple #[.agg (Jb A m),Ya 5]) (by simp[results,Tryz.results13,go_sem,q0,q1,q2,q3]) rfl ⟨(q8i HB.u (by omega) _).mono HB0.u,fun g cs h=>(HKs.u g cs h).rowS_other (fun e=>by have:=h.lt;omega) _,.inl ⟨5,_,HX.u,by decide,⟨_,_,_,_,_,_,_,_,_,_,_,_,rfl⟩,rfl⟩⟩
 have hcap':¬ (256:Int)<=(m.P.length:Int):=by omega
 go_wp2_with fail
 refine(q9j _ _ _ _ _ (by omega) HLs.u).mono ?_
 rintro e W7 ⟨rfl,hwe⟩
 subst hwe
 go_wp2_with fail
 refine(q9j _ _ _ _ _ (by omega) HLs.u).mono ?_
 rintro e W8 ⟨rfl,hwe⟩
 subst hwe
 cases hme:memB name m.L
 case false =>
  rw[fdI_n hme];have HX:Hi (addS m last ⟨2,name,other,auto,typ,bys,u⟩=.inl 7):=h_ (by unfold addS;rw[Yi HLa.u,Yi (show ¬ (2:Nat)=1 by decide),Yn rfl,Yi hcap,Yi (by simp[hme])]);have hge:(-1:Int)<0:=by omega
  clear hcap hme;go_wp2_with (refine stR HR.u ?_);have HBq:=h_ (HR.u.rowS (Jb A m).toList);obtain⟨q0,q1,q2,q3⟩:=quad HBq.u;exact bodyPost_ret (v:=.tuple #[.agg (Jb A m),Ya 7]) (by simp[results,Tryz.results13,go_sem,q0,q1,q2,q3]) rfl ⟨(q8i HB.u (by omega) _).mono HB0.u,fun g cs h=>(HKs.u g cs h).rowS_other (fun e=>by have:=h.lt;omega) _,.inl ⟨7,_,HX.u,by decide,⟨_,_,_,_,_,_,_,_,_,_,_,_,rfl⟩,rfl⟩⟩
 rw[fdI_y hme]
 cases hmo:memB other m.L
 case false =>
  rw[fdI_n hmo];have HX:Hi (addS m last ⟨2,name,other,auto,typ,bys,u⟩=.inl 7):=h_ (by unfold addS;rw[Yi HLa.u,Yi (show ¬ (2:Nat)=1 by decide),Yn rfl,Yi hcap,Yi (by simp[hme,hmo])]);have hge:(-1:Int)<0:=by omega
  have hgi:¬ ((ixN m.L name:Nat):Int)<0:=by omega
  clear hcap hme hmo;go_wp2_with (refine stR HR.u ?_);have HBq:=h_ (HR.u.rowS (Jb A m).toList);obtain⟨q0,q1,q2,q3⟩:=quad HBq.u;exact bodyPost_ret (v:=.tuple #[.agg (Jb A m),Ya 7]) (by simp[results,Tryz.results13,go_sem,q0,q1,q2,q3]) rfl ⟨(q8i HB.u (by omega) _).mono HB0.u,fun g cs h=>(HKs.u g cs h).rowS_other (fun e=>by have:=h.lt;omega) _,.inl ⟨7,_,HX.u,by decide,⟨_,_,_,_,_,_,_,_,_,_,_,_,rfl⟩,rfl⟩⟩
 rw[fdI_y hmo]
 have HX:Hi (addS m last ⟨2,name,other,auto,typ,bys,u⟩=.inr { m with P:=m.P++[(((ixN m.L name:Nat):Int),((ixN m.L other:Nat):Int))] }):=h_ (by unfold addS;rw[Yi HLa.u,Yi (show ¬ (2:Nat)=1 by decide),Yn rfl,Yi hcap,Yn (by simp[hme,hmo])])
 have hgi:¬ ((ixN m.L name:Nat):Int)<0:=by omega
 have hgj:¬ ((ixN m.L other:Nat):Int)<0:=by omega
 clear hcap hme hmo
 have HNs:Hi (Blk _ _ 84 [Ya ((ixN m.L name:Nat):Int),Ya ((ixN m.L other:Nat):Int)]):=h_ (Blk.new W8 84 #[Ya ((ixN m.L name:Nat):Int),Ya ((ixN m.L other:Nat):Int)])
 have hb:=(bR W8.heap.size W8).alloc (nR _) (.cells #[Ya ((ixN m.L name:Nat):Int),Ya ((ixN m.L other:Nat):Int)] 84)
 have HM2:=h_ (HM.u.mono hb);have HF2:=h_ (HF.u.mono hb HF.u.lt);have HR2:=mB HR hb;have HB2:=mT HB hb
 have HK2:Hi (∀g cs,Blk w g 44 cs->Blk _ g 44 cs):=h_ (fun g cs h=>(HKs.u g cs h).mono hb (HKs.u g cs h).lt)
 clear hb
 go_wp2_with (at_builtin;refine qb6 (n:=(((ixN m.L name:Nat):Int),((ixN m.L other:Nat):Int))) rfl _ _ rfl rfl HM2.u.p rfl HNs.u (by omega) (by have:=HB0.u;have:=HB2.u.size;omega) ?_)
 intro v9 W9 ho9 hg9 hb9
 have HM9:=h_ (HM2.u.addP (x:=(((ixN m.L name:Nat):Int),((ixN m.L other:Nat):Int))) (by rw[Yf];exact ho9) hg9)
 have HF9:=h_ (HF2.u.grown hg9 (fun e=>qdg HM2.u.p HF2.u (by decide) e.symm));have HR9:=h_ (HR2.u.grown hg9 (fun e=>qdg HM2.u.p HR2.u (by decide) e.symm))
 have HK9:Hi (∀g cs,Blk w g 44 cs->Blk W9 g 44 cs):=h_ (fun g cs h=>(HK2.u g cs h).grown hg9 (fun e=>qdg HM2.u.p (HK2.u g cs h) (by decide) e.symm))
 have HB9:=h_ ((HB2.u.mono HB0.u).trans hb9)
 obtain⟨a9,c9,hv9,-⟩:=q7o ho9
 subst hv9
 have fr0:=HF9.u.free 1
 obtain⟨g0',g1',g2',g3'⟩:=quad HF9.u
 have HFs:=h_ (HF9.u.set 1 (.slice a9 (m.P.length+1) c9))
 have HMs:=h_ (HM9.u.one HF9.u (by decide) (by decide) (by decide) (by decide) (by decide) (by decide) (qaj W9 w.heap.size 1 (.slice a9 (m.P.length+1) c9)))
 have HRs:=h_ (HR9.u.other (a:=⟨w.heap.size,1,none⟩) (.slice a9 (m.P.length+1) c9) (by show w.heap.size+1+1≠w.heap.size;omega))
 have HBs:=h_ (HB9.u.setCell (p:=⟨w.heap.size,1,none⟩) HB0.u (.slice a9 (m.P.length+1) c9))
 have HKt:Hi (∀g cs,Blk w g 44 cs->Blk _ g 44 cs):=h_ (fun g cs h=>(HK9.u g cs h).other (a:=⟨w.heap.size,1,none⟩) (.slice a9 (m.P.length+1) c9) (fun e=>by have:=h.lt;simp only at e;omega))
 clear ho9 hg9 hb9 s0 s1 s2 s3 s4 s5 s6 s7 s8 s9 s10 g0 g1 g2 g3
 obtain⟨X,hX⟩:=Nq (W9.setCell ⟨w.heap.size,1,none⟩ (.slice a9 (m.P.length+1) c9))
 rw[hX]at HFs HMs HRs HBs HKt
 obtain⟨q0,q1,q2,q3⟩:=quad HFs.u
 go_wp2_with ((try rw[hX]);refine stR HRs.u ?_)
 have HBq:=h_ (HRs.u.rowS #[.slice A.l m.L.length A.lc,.slice a9 (m.P.length+1) c9,.slice A.r m.R.length A.rc,.slice A.f m.F.length A.fc].toList)
 obtain⟨p0,p1,p2,p3⟩:=quad HBq.u
 have HMe:=h_ (HMs.u.one HRs.u (by decide) (by decide) (by decide) (by decide) (by decide) (by decide) (qe2 X (w.heap.size+1+1) #[.slice A.l m.L.length A.lc,.slice a9 (m.P.length+1) c9,.slice A.r m.R.length A.rc,.slice A.f m.F.length A.fc]))
 exact bodyPost_ret (v:=.tuple #[.agg #[.slice A.l m.L.length A.lc,.slice a9 (m.P.length+1) c9,.slice A.r m.R.length A.rc,.slice A.f m.F.length A.fc],Ya 0]) (by simp[results,Tryz.results13,go_sem,p0,p1,p2,p3]) rfl ⟨q8i HBs.u (by have:=HB0.u;omega) _,fun g cs h=>(HKt.u g cs h).rowS_other (fun e=>by have:=h.lt;omega) _,.inr ⟨_,_,_,_,_,_,HX.u,rfl,HMe.u⟩⟩
theorem q6z (m:Fm)(P:List (Fl × FA))(last:Nat)(x:Sx)(v1 v2 v3 v4 v:Value)(base:Nat)(w:World)(hk:x.kind=3)(hb0:base<=w.heap.size)(hm:OwM w base v1 v2 v3 v4 m P)(hv:VfB m)(hx:SxV w base v x)(hl:last<=4) :
 Calls Tryz.prog 13 #[.agg #[v1,v2,v3,v4],v,Ya (last:Nat)] w (AddO w base m last x):=by
 obtain⟨kind,name,other,auto,typ,bys,u⟩:=x
 obtain⟨vb,vi,vh,vv,vm,rfl,hsb,hsi,hsh,hsv,hsm⟩:=hx
 simp only at hk hsb hsi hsh hsv hsm
 subst hk
 obtain⟨A,-,hsl,rfl,rfl,rfl,rfl,-⟩:=hm.sl
 obtain⟨ab,cb,rfl,-,-⟩:=hsb.strs
 obtain⟨ai,ci,rfl,-⟩:=hsi.nods
 obtain⟨ah,ch,rfl,-⟩:=hsh.nods
 obtain⟨av,cv,rfl,-⟩:=hsv.nods
 obtain⟨au,cu,rfl,-⟩:=hsm.nods
 dsimp only
 rw[show(((3:Nat):Int))=3 from rfl]
 have bl:=hv.nl;have bp:=hv.np;have br:=hv.nr;have bf:=hv.nf
 have HB:=h_ ((((bR w.heap.size w).alloc (nR _) (.cells (Jb A m) 27)).alloc (by simp) (.cells #[Ya 3,.string name,.string other,.bool auto,Ya (typ:Nat),.slice ab bys.length cb,.slice ai u.is.length ci,.slice ah u.wh.length ch,.slice av u.va.length cv,.string u.sa,.slice au u.mu.length cu] 44)).alloc (by simp;omega) (.cells Jc 27))
 have HF:=h_ (((Blk.new w 27 (Jb A m)).alloc (.cells #[Ya 3,.string name,.string other,.bool auto,Ya (typ:Nat),.slice ab bys.length cb,.slice ai u.is.length ci,.slice ah u.wh.length ch,.slice av u.va.length cv,.string u.sa,.slice au u.mu.length cu] 44)).alloc (.cells Jc 27))
 have HS:=h_ ((Blk.new (w.alloc (.cells (Jb A m) 27)) 44 #[Ya 3,.string name,.string other,.bool auto,Ya (typ:Nat),.slice ab bys.length cb,.slice ai u.is.length ci,.slice ah u.wh.length ch,.slice av u.va.length cv,.string u.sa,.slice au u.mu.length cu]).alloc (.cells Jc 27))
 have HR:=h_ (Blk.new ((w.alloc (.cells (Jb A m) 27)).alloc (.cells #[Ya 3,.string name,.string other,.bool auto,Ya (typ:Nat),.slice ab bys.length cb,.slice ai u.is.length ci,.slice ah u.wh.length ch,.slice av u.va.length cv,.string u.sa,.slice au u.mu.length cu] 44)) 27 Jc)
 rw[Yy]at HS
 rw[Yy,Yy]at HR
 obtain⟨W0,hW0⟩:=Nq (((w.alloc (.cells (Jb A m) 27)).alloc (.cells #[Ya 3,.string name,.string other,.bool auto,Ya (typ:Nat),.slice ab bys.length cb,.slice ai u.is.length ci,.slice ah u.wh.length ch,.slice av u.va.length cv,.string u.sa,.slice au u.mu.length cu] 44)).alloc (.cells Jc 27))
 rw[hW0]at HB HF HS HR
 have HM:=h_ (hm.mono HB.u)
 have HKs:Hi (∀g cs,Blk w g 44 cs->Blk W0 g 44 cs):=h_ fun g cs h=>h.mono HB.u h.lt
 have HRn:=h_ (q0x m A W0 br (hsl.r.mono HB.u))
 have HLs:=h_ (hsl.l.mono HB.u)
 have HRl:=h_ (hsl.r.mono HB.u);have HFl:=h_ (hsl.f.mono HB.u)
 have HB0:=h_ hb0
 clear hm hsl hb0
 obtain⟨⟨s0,s1,s2,s3,s4,s5⟩,s6,s7,s8,s9,s10⟩:=eleven HS.u
 obtain⟨g0,g1,g2,g3⟩:=quad HF.u
 by_cases hla:3<last
 case pos =>
  have hla':((3:Int)<(last:Int)):=by omega
  have HX:Hi (addS m last ⟨3,name,other,auto,typ,bys,u⟩=.inl 4):=h_ (by unfold addS;rw[Yn hla]);clear hla;go_enter Tryz.func13,Tryz.ntmps13;go_wp2_with (refine stR HR.u ?_);have HBq:=h_ (HR.u.rowS (Jb A m).toList);obtain⟨q0,q1,q2,q3⟩:=quad HBq.u;exact bodyPost_ret (v:=.tuple #[.agg (Jb A m),Ya 4]) (by simp[results,Tryz.results13,go_sem,q0,q1,q2,q3]) rfl ⟨(q8i HB.u (by omega) _).mono HB0.u,fun g cs h=>(HKs.u g cs h).rowS_other (fun e=>by have:=h.lt;omega) _,.inl ⟨4,_,HX.u,by decide,⟨_,_,_,_,_,_,_,_,_,_,_,_,rfl⟩,rfl⟩⟩
 have hla':¬ ((3:Int)<(last:Int)):=by omega
 have HLa:=h_ hla
 clear hla
 go_enter Tryz.func13,Tryz.ntmps13
 go_wp2_with fail
 try rw[hW0]
 refine HRn.u.mono ?_
 rintro e W1 ⟨a0,c0,rfl,hro,hb⟩
 have HRo:=h_ hro
 clear hro hW0 HRn
 replace HF:=h_ (HF.u.mono hb HF.u.lt);replace HS:=mB HS hb;replace HR:=mB HR hb;replace HM:=h_ (HM.u.mono hb);replace HB:=mT HB hb;replace HLs:=h_ (HLs.u.mono hb);replace HRl:=h_ (HRl.u.mono hb);replace HFl:=h_ (HFl.u.mono hb)
 replace HKs:=h_ (fun g cs h=>(HKs.u g cs h).mono hb (HKs.u g cs h).lt)
 clear hb s0 s1 s2 s3 s4 s5 s6 s7 s8 s9 s10 g0 g1 g2 g3
 obtain⟨⟨s0,s1,s2,s3,s4,s5⟩,s6,s7,s8,s9,s10⟩:=eleven HS.u
 obtain⟨g0,g1,g2,g3⟩:=quad HF.u
 have hrl:(rNames m).length=m.R.length:=by simp[rNames]
 have HFd:=h_ (fun W (h:Strs W a0 (rNames m))=>q9j a0 c0 (rNames m) name W (by rw[hrl];omega) h)
 rw[hrl]at HFd
 clear hrl
 go_wp2_with fail
 refine(q9j _ _ _ _ _ (by omega) HLs.u).mono ?_
 rintro e W6 ⟨rfl,hwe⟩
 subst hwe
 by_cases hcap:64<=m.R.length
 case pos =>
  have hcap':(64:Int)<=(m.R.length:Int):=by omega
  have HX:Hi (addS m last ⟨3,name,other,auto,typ,bys,u⟩=.inl 5):=h_ (by unfold addS;rw[Yi HLa.u,Yi (show ¬ (3:Nat)=1 by decide),Yi (show ¬ (3:Nat)=2 by decide),Yn rfl,Yn hcap]);clear hcap;go_wp2_with (refine stR HR.u ?_);have HBq:=h_ (HR.u.rowS (Jb A m).toList);obtain⟨q0,q1,q2,q3⟩:=quad HBq.u;exact bodyPost_ret (v:=.tuple #[.agg (Jb A m),Ya 5]) (by simp[results,Tryz.results13,go_sem,q0,q1,q2,q3]) rfl ⟨(q8i HB.u (by omega) _).mono HB0.u,fun g cs h=>(HKs.u g cs h).rowS_other (fun e=>by have:=h.lt;omega) _,.inl ⟨5,_,HX.u,by decide,⟨_,_,_,_,_,_,_,_,_,_,_,_,rfl⟩,rfl⟩⟩
 have hcap':¬ (64:Int)<=(m.R.length:Int):=by omega
 go_wp2_with fail
 refine(HFd.u _ HRo.u).mono ?_
 rintro e W8 ⟨rfl,hwe⟩
 subst hwe
 cases hme:memB name (rNames m)
 case true =>
  rw[fdI_y hme];have HX:Hi (addS m last ⟨3,name,other,auto,typ,bys,u⟩=.inl 6):=h_ (by unfold addS;rw[Yi HLa.u,Yi (show ¬ (3:Nat)=1 by decide),Yi (show ¬ (3:Nat)=2 by decide),Yn rfl,Yi hcap,Yn hme]);have hge:(0:Int)<=((ixN (rNames m) name:Nat):Int):=by omega
  clear hcap hme;go_wp2_with (refine stR HR.u ?_);have HBq:=h_ (HR.u.rowS (Jb A m).toList);obtain⟨q0,q1,q2,q3⟩:=quad HBq.u;exact bodyPost_ret (v:=.tuple #[.agg (Jb A m),Ya 6]) (by simp[results,Tryz.results13,go_sem,q0,q1,q2,q3]) rfl ⟨(q8i HB.u (by omega) _).mono HB0.u,fun g cs h=>(HKs.u g cs h).rowS_other (fun e=>by have:=h.lt;omega) _,.inl ⟨6,_,HX.u,by decide,⟨_,_,_,_,_,_,_,_,_,_,_,_,rfl⟩,rfl⟩⟩
 rw[fdI_n hme]
 have hge:¬ (0:Int)<=(-1:Int):=by omega
 cases hmo:memB other m.L
 case false =>
  rw[fdI_n hmo];have HX:Hi (addS m last ⟨3,name,other,auto,typ,bys,u⟩=.inl 7):=h_ (by unfold addS;rw[Yi HLa.u,Yi (show ¬ (3:Nat)=1 by decide),Yi (show ¬ (3:Nat)=2 by decide),Yn rfl,Yi hcap,Yi (by simp[hme]),Yi (by simp[hmo])]);have hgi:(-1:Int)<0:=by omega
  clear hcap hme hmo;go_wp2_with (refine stR HR.u ?_);have HBq:=h_ (HR.u.rowS (Jb A m).toList);obtain⟨q0,q1,q2,q3⟩:=quad HBq.u;exact bodyPost_ret (v:=.tuple #[.agg (Jb A m),Ya 7]) (by simp[results,Tryz.results13,go_sem,q0,q1,q2,q3]) rfl ⟨(q8i HB.u (by omega) _).mono HB0.u,fun g cs h=>(HKs.u g cs h).rowS_other (fun e=>by have:=h.lt;omega) _,.inl ⟨7,_,HX.u,by decide,⟨_,_,_,_,_,_,_,_,_,_,_,_,rfl⟩,rfl⟩⟩
 rw[fdI_y hmo]
 have HX:Hi (addS m last ⟨3,name,other,auto,typ,bys,u⟩=.inr { m with R:=m.R++[⟨name,((ixN m.L other:Nat):Int)⟩] }):=h_ (by unfold addS;rw[Yi HLa.u,Yi (show ¬ (3:Nat)=1 by decide),Yi (show ¬ (3:Nat)=2 by decide),Yn rfl,Yi hcap,Yi (by simp[hme]),Yn hmo])
 have hgj:¬ ((ixN m.L other:Nat):Int)<0:=by omega
 clear hcap hme hmo
 have HNs:Hi (Blk _ _ 86 [.string name,Ya ((ixN m.L other:Nat):Int)]):=h_ (Blk.new W8 86 #[.string name,Ya ((ixN m.L other:Nat):Int)])
 have hb:=(bR W8.heap.size W8).alloc (nR _) (.cells #[.string name,Ya ((ixN m.L other:Nat):Int)] 86)
 have HM2:=h_ (HM.u.mono hb);have HF2:=h_ (HF.u.mono hb HF.u.lt);have HR2:=mB HR hb;have HB2:=mT HB hb
 have HK2:Hi (∀g cs,Blk w g 44 cs->Blk _ g 44 cs):=h_ (fun g cs h=>(HKs.u g cs h).mono hb (HKs.u g cs h).lt)
 clear hb
 go_wp2_with (at_builtin;refine qb7 (n:=(⟨name,((ixN m.L other:Nat):Int)⟩:Rl)) rfl _ _ rfl rfl HM2.u.r rfl HNs.u (by omega) (by have:=HB0.u;have:=HB2.u.size;omega) ?_)
 intro v9 W9 ho9 hg9 hb9
 have HM9:=h_ (HM2.u.addR (x:=(⟨name,((ixN m.L other:Nat):Int)⟩:Rl)) (by rw[Yf];exact ho9) hg9)
 have HF9:=h_ (HF2.u.grown hg9 (fun e=>qdg HM2.u.r HF2.u (by decide) e.symm));have HR9:=h_ (HR2.u.grown hg9 (fun e=>qdg HM2.u.r HR2.u (by decide) e.symm))
 have HK9:Hi (∀g cs,Blk w g 44 cs->Blk W9 g 44 cs):=h_ (fun g cs h=>(HK2.u g cs h).grown hg9 (fun e=>qdg HM2.u.r (HK2.u g cs h) (by decide) e.symm))
 have HB9:=h_ ((HB2.u.mono HB0.u).trans hb9)
 obtain⟨a9,c9,hv9,-⟩:=q7o ho9
 subst hv9
 have fr0:=HF9.u.free 2
 obtain⟨g0',g1',g2',g3'⟩:=quad HF9.u
 have HFs:=h_ (HF9.u.set 2 (.slice a9 (m.R.length+1) c9))
 have HMs:=h_ (HM9.u.one HF9.u (by decide) (by decide) (by decide) (by decide) (by decide) (by decide) (qaj W9 w.heap.size 2 (.slice a9 (m.R.length+1) c9)))
 have HRs:=h_ (HR9.u.other (a:=⟨w.heap.size,2,none⟩) (.slice a9 (m.R.length+1) c9) (by show w.heap.size+1+1≠w.heap.size;omega))
 have HBs:=h_ (HB9.u.setCell (p:=⟨w.heap.size,2,none⟩) HB0.u (.slice a9 (m.R.length+1) c9))
 have HKt:Hi (∀g cs,Blk w g 44 cs->Blk _ g 44 cs):=h_ (fun g cs h=>(HK9.u g cs h).other (a:=⟨w.heap.size,2,none⟩) (.slice a9 (m.R.length+1) c9) (fun e=>by have:=h.lt;simp only at e;omega))
 clear ho9 hg9 hb9 s0 s1 s2 s3 s4 s5 s6 s7 s8 s9 s10 g0 g1 g2 g3
 obtain⟨X,hX⟩:=Nq (W9.setCell ⟨w.heap.size,2,none⟩ (.slice a9 (m.R.length+1) c9))
 rw[hX]at HFs HMs HRs HBs HKt
 obtain⟨q0,q1,q2,q3⟩:=quad HFs.u
 go_wp2_with ((try rw[hX]);refine stR HRs.u ?_)
 have HBq:=h_ (HRs.u.rowS #[.slice A.l m.L.length A.lc,.slice A.p m.P.length A.pc,.slice a9 (m.R.length+1) c9,.slice A.f m.F.length A.fc].toList)
 obtain⟨p0,p1,p2,p3⟩:=quad HBq.u
 have HMe:=h_ (HMs.u.one HRs.u (by decide) (by decide) (by decide) (by decide) (by decide) (by decide) (qe2 X (w.heap.size+1+1) #[.slice A.l m.L.length A.lc,.slice A.p m.P.length A.pc,.slice a9 (m.R.length+1) c9,.slice A.f m.F.length A.fc]))
 exact bodyPost_ret (v:=.tuple #[.agg #[.slice A.l m.L.length A.lc,.slice A.p m.P.length A.pc,.slice a9 (m.R.length+1) c9,.slice A.f m.F.length A.fc],Ya 0]) (by simp[results,Tryz.results13,go_sem,p0,p1,p2,p3]) rfl ⟨q8i HBs.u (by have:=HB0.u;omega) _,fun g cs h=>(HKt.u g cs h).rowS_other (fun e=>by have:=h.lt;omega) _,.inr ⟨_,_,_,_,_,_,HX.u,rfl,HMe.u⟩⟩
theorem fill_F (s0 s7:ByteArray)(i1 i2:Int)(a3 a4 a5 a6 a8:Option Addr)(n3 n4 n5 n6 n8 c3 c4 c5 c6 c8:Nat):Instr.fill (fun i=>some (i*9,9)) ((Array.range (1*9)).map ((Value.agg Jq).cells[· % (Value.agg Jq).cells.size]!)) [(0,.agg (Jp s0 i1 i2 a3 n3 c3 a4 n4 c4 a5 n5 c5 a6 n6 c6 s7 a8 n8 c8))]=some (Jp s0 i1 i2 a3 n3 c3 a4 n4 c4 a5 n5 c5 a6 n6 c6 s7 a8 n8 c8):=by kernel_rfl
theorem qfj {ops:Array Oper}{rest:List Oper}{o:Oper}{a:Act}{w:World}{Q:Exit->Act->World->Prop}(hg:o.guard=none)(x:Operand)(ho:o.op=.buildSlice 25 1 #[(0,x)]){s0 s7:ByteArray}{i1 i2:Int}{a3 a4 a5 a6 a8:Option Addr}{n3 n4 n5 n6 n8 c3 c4 c5 c6 c8:Nat}
 (hx:a.eval x=.agg (Jp s0 i1 i2 a3 n3 c3 a4 n4 c4 a5 n5 c5 a6 n6 c6 s7 a8 n8 c8))
 (h:wpList Tryz.prog ops Q rest (a.put o.dst (.slice (some ⟨w.heap.size,0,none⟩) 1 1)) (w.alloc (.cells (Jp s0 i1 i2 a3 n3 c3 a4 n4 c4 a5 n5 c5 a6 n6 c6 s7 a8 n8 c8) 52))):wpList Tryz.prog ops Q (o :: rest) a w:=by
 obtain⟨i0,hi,hz0,hz1,hz2⟩:=info_parts qgl
 refine wpList_buildSlice hg _ 52 1 _ ho _ i0 _ Tryz.underlying25 hi hz0 (by rw[hz1];decide) (by rw[hz1];decide) ?_ h
 rw[hz1]
 simp only[List.map_toArray,Vr,List.map_nil,hx]
 exact fill_F s0 s7 i1 i2 a3 a4 a5 a6 a8 n3 n4 n5 n6 n8 c3 c4 c5 c6 c8
end Go.Proofs.YtfmammdgehbjhaaGreatDoor

