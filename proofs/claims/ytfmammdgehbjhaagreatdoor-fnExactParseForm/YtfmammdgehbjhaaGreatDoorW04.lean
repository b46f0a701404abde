import Derived.Test.YtfmammdgehbjhaaGreatDoorW03
import Derived.Deep.RegionHeld3
set_option maxRecDepth 100000
set_option maxHeartbeats 64000000
namespace Go.Proofs.YtfmammdgehbjhaaGreatDoor
open Go Go.RowKit
section
variable {md:Region.Mode} {ops:Array Oper} {Q:Exit->Act->World->Prop} {S:World->Prop} {o:Oper} {a:Act}
theorem qih {a:Act}{o:Oper}{d:Tmp}{v:Value}(h:o.dst=some d):a.put o.dst v = { tmps:=a.tmps.setIfInBounds d v,defers:=a.defers }:=by rw[h];rfl
theorem takeY {i:Nat}{v:Value}{fuel:Nat}{listed:Array Bool}{w:World}(d:Tmp)(hi:ops[i]? = some o)(hd:o.dst=some d)(hs:Region.noSelect ops=true)(hf:Region.free md ops listed i=true)(hr:(Region.ready md ops listed).contains i=true)
 (hQ:∀c (b:Act) (t:Array Value) w,Q (.panic c) { tmps:=t,defers:=b.defers } w->Q (.panic c) b w) (hw:Region.wanted o (yielded ops a.tmps)=true) (hy:∀w,S w->(execOp a.eval o).run Tryz.prog w=.ok (.value v) w) (hS:S w) (h:wpAnyH Tryz.prog md ops Q S fuel (listed.setIfInBounds i true) { tmps:=a.tmps.setIfInBounds d v,defers:=a.defers } w):wpAnyH Tryz.prog md ops Q S (fuel+1) listed a w :=
 wpAnyH_take hi hs hf hr (fun c a w h=>hQ c a _ w (by rw[qih hd]at h;exact h)) (.inl ⟨hw,hy⟩) hS (by rw[qih hd];exact h)
theorem takeN {i:Nat}{fuel:Nat}{listed:Array Bool}{w:World}(d:Tmp)(hi:ops[i]? = some o)(hd:o.dst=some d)(hs:Region.noSelect ops=true)(hf:Region.free md ops listed i=true)(hr:(Region.ready md ops listed).contains i=true)
 (hQ:∀c (b:Act) (t:Array Value) w,Q (.panic c) { tmps:=t,defers:=b.defers } w->Q (.panic c) b w) (hw:Region.wanted o (yielded ops a.tmps)=false) (hS:S w) (h:wpAnyH Tryz.prog md ops Q S fuel (listed.setIfInBounds i true) { tmps:=a.tmps.setIfInBounds d undef,defers:=a.defers } w):wpAnyH Tryz.prog md ops Q S (fuel+1) listed a w :=
 wpAnyH_take hi hs hf hr (fun c a w h=>hQ c a _ w (by rw[qih hd]at h;exact h)) (.inr ⟨hw,rfl⟩) hS (by rw[qih hd];exact h)
theorem tj {fuel:Nat}{listed:Array Bool}{w:World}(i:Nat)(d:Tmp)(v:Value)(hS:S w)(h:wpAnyH Tryz.prog md ops Q S fuel (listed.setIfInBounds i true) { tmps:=a.tmps.setIfInBounds d v,defers:=a.defers } w)(hi:ops[i]? = some o:=by exact rfl)(hd:o.dst=some d:=by exact rfl)(hs:Region.noSelect ops=true:=by kernel_rfl)(hf:Region.free md ops listed i=true:=by kernel_rfl)(hr:(Region.ready md ops listed).contains i=true:=by kernel_rfl)
 (hQ:∀c (b:Act) (t:Array Value) w,Q (.panic c) { tmps:=t,defers:=b.defers } w->Q (.panic c) b w:=by exact fun _ _ _ _ h=>h) (hw:Region.wanted o (yielded ops a.tmps)=true:=by rfl) (hy:∀w,S w->(execOp a.eval o).run Tryz.prog w=.ok (.value v) w:=by intro w hS;simp[execOp,go_sem, *]):wpAnyH Tryz.prog md ops Q S (fuel+1) listed a w :=
 takeY d hi hd hs hf hr hQ hw hy hS h
theorem tn {fuel:Nat}{listed:Array Bool}{w:World}(i:Nat)(d:Tmp)(hS:S w)(h:wpAnyH Tryz.prog md ops Q S fuel (listed.setIfInBounds i true) { tmps:=a.tmps.setIfInBounds d undef,defers:=a.defers } w)(hi:ops[i]? = some o:=by exact rfl)(hd:o.dst=some d:=by exact rfl)(hs:Region.noSelect ops=true:=by kernel_rfl)(hf:Region.free md ops listed i=true:=by kernel_rfl)(hr:(Region.ready md ops listed).contains i=true:=by kernel_rfl)
 (hQ:∀c (b:Act) (t:Array Value) w,Q (.panic c) { tmps:=t,defers:=b.defers } w->Q (.panic c) b w:=by exact fun _ _ _ _ h=>h) (hw:Region.wanted o (yielded ops a.tmps)=false:=by rfl):wpAnyH Tryz.prog md ops Q S (fuel+1) listed a w :=
 takeN d hi hd hs hf hr hQ hw hS h
theorem callY {i:Nat}{fuel:Nat}{listed:Array Bool}{w:World}{f:FuncId}{args:Array Value}{R:Value->World->Prop}(d:Tmp)(hi:ops[i]? = some o)(hd:o.dst=some d)(hw:Region.wanted o (yielded ops a.tmps)=true)(hr:Region.ready md ops listed=[i])
 (hrun:(execOp a.eval o).run Tryz.prog w=.ok (.enter f args) w) (hc:Calls Tryz.prog f args w fun e w'=>∃v,e=.returned v/\R v w')
 (h:∀v w',R v w'->S w'/\wpAnyH Tryz.prog md ops Q S fuel (listed.setIfInBounds i true) { tmps:=a.tmps.setIfInBounds d v,defers:=a.defers } w'):wpAnyH Tryz.prog md ops Q S (fuel+1) listed a w:=by
 refine wpAnyH_ready hr (by simp) (AllReadyH.cons hi (fun K hK=>?_) AllReadyH.nil)
 rw[Yn hw]
 unfold Oper.wp
 rw[hrun,Oper.upon_enter]
 refine hc.mono ?_
 rintro e w' ⟨v,rfl,hR⟩
 obtain⟨h1,h2⟩:=h v w' hR
 show K (a.put o.dst v) w'
 rw[qih hd]
 exact hK.out _ _ h1 (fun _=>h2)
theorem storeY {i:Nat}{fuel:Nat}{listed:Array Bool}{w w':World}{v:Next}(hi:ops[i]? = some o)(hw:Region.wanted o (yielded ops a.tmps)=true)(hr:Region.ready md ops listed=[i])
 (hd:o.dst=none) (hrun:(execOp a.eval o).run Tryz.prog w=.ok v w') (hv:v=.skip) (hS:S w') (h:wpAnyH Tryz.prog md ops Q S fuel (listed.setIfInBounds i true) a w'):wpAnyH Tryz.prog md ops Q S (fuel+1) listed a w:=by
 subst hv
 refine wpAnyH_ready hr (by simp) (AllReadyH.cons hi (fun K hK=>?_) AllReadyH.nil)
 rw[Yn hw]
 unfold Oper.wp
 rw[hrun,Oper.upon_skip,hd]
 exact hK.out _ _ hS (fun _=>h)
end
section
variable {md:Region.Mode} {ops:Array Oper} {Q:Exit->Act->World->Prop} {S:World->Prop} {o:Oper} {a:Act} {fuel:Nat} {listed:Array Bool} {i:Nat} {rs:List Nat} {w w':World}
theorem consCall {f:FuncId}{args:Array Value}{R:Value->World->Prop}(d:Tmp)(hi:ops[i]? = some o)(hd:o.dst=some d)(hw:Region.wanted o (yielded ops a.tmps)=true)
 (hrun:(execOp a.eval o).run Tryz.prog w=.ok (.enter f args) w) (hc:Calls Tryz.prog f args w fun e w'=>∃v,e=.returned v/\R v w')
 (h:∀v w',R v w'->S w'/\wpAnyH Tryz.prog md ops Q S fuel (listed.setIfInBounds i true) { tmps:=a.tmps.setIfInBounds d v,defers:=a.defers } w') (hs:AllReadyH Tryz.prog md ops Q S fuel listed a w rs):AllReadyH Tryz.prog md ops Q S fuel listed a w (i :: rs):=by
 refine AllReadyH.cons hi (fun K hK=>?_) hs
 rw[Yn hw]
 unfold Oper.wp
 rw[hrun,Oper.upon_enter]
 refine hc.mono ?_
 rintro e w' ⟨v,rfl,hR⟩
 obtain⟨h1,h2⟩:=h v w' hR
 show K (a.put o.dst v) w'
 rw[qih hd]
 exact hK.out _ _ h1 (fun _=>h2)
theorem consRun {v:Value}(d:Tmp)(hi:ops[i]? = some o)(hd:o.dst=some d)(hw:Region.wanted o (yielded ops a.tmps)=true)
 (hrun:(execOp a.eval o).run Tryz.prog w=.ok (.value v) w') (hS:S w') (h:wpAnyH Tryz.prog md ops Q S fuel (listed.setIfInBounds i true) { tmps:=a.tmps.setIfInBounds d v,defers:=a.defers } w') (hs:AllReadyH Tryz.prog md ops Q S fuel listed a w rs):AllReadyH Tryz.prog md ops Q S fuel listed a w (i :: rs):=by
 refine AllReadyH.cons hi (fun K hK=>?_) hs
 rw[Yn hw]
 unfold Oper.wp
 rw[hrun]
 show K (a.put o.dst v) w'
 rw[qih hd]
 exact hK.out _ _ hS (fun _=>h)
end
theorem q23 {B:Nat}{w w':World}(h:Below B w.drew w'):Below B w w':=⟨h.os,h.tape,h.output,h.size,h.block⟩
theorem qh2 (l:List ByteArray)(x:ByteArray):jt (l++[x])=jt l++(⟨#[44,32]⟩++x):=by
 induction l with
 | nil=>show ⟨#[44,32]⟩++x++ByteArray.empty=ByteArray.empty++(⟨#[44,32]⟩++x);rw[ByteArray.append_empty,ByteArray.empty_append]
 | cons y r ih=>simp only[Vj,jt,ih,ByteArray.append_assoc]
theorem qgz (l:List ByteArray)(x:ByteArray)(h:l≠[]):jn (l++[x])=jn l++⟨#[44,32]⟩++x:=by
 cases l with
 | nil=>exact absurd rfl h
 | cons y r=>simp only[Vj,jn,qh2,ByteArray.append_assoc]
structure PrOk (a:Option Addr)(m:Nat)(e:Nat->Nx)(n:Nat)(w:World):Prop where
 nods:Nods w a m e
 st:stkOk e n
 ok:okAll e n
 fit:∀k,k<n->Fit (e k)
theorem PrOk.mono {a:Option Addr}{m:Nat}{e:Nat->Nx}{n:Nat}{w w':World}(h:PrOk a m e n w)(hb:Below w.heap.size w w'):PrOk a m e n w':=⟨h.nods.mono hb,h.st,h.ok,h.fit⟩
theorem PrOk.le {a:Option Addr}{m:Nat}{e:Nat->Nx}{n k:Nat}{w:World}(h:PrOk a m e n w)(hk:k<=n):PrOk a m e k w:=⟨h.nods,h.st.le hk,h.ok.le hk,fun j hj=>h.fit j (by omega)⟩
theorem PrOk.tot {a:Option Addr}{m:Nat}{e:Nat->Nx}{n:Nat}{w:World}(h:PrOk a m e n w):tot (pst e n)<=1100*n:=(qji e n h.st h.ok (fun k hk=>(h.fit k hk).2.2.2)).2
theorem PrOk.top {a:Option Addr}{m:Nat}{e:Nat->Nx}{n:Nat}{w:World}(h:PrOk a m e n w)(hn:1<=n):(top e n).t.size<=1100*n:=Yt (qjh (qjg e hn)) h.tot
def Prints (a:Option Addr)(m c:Nat)(e:Nat->Nx)(en:Nat):Prop:=∀w:World,PrOk a m e en w ->
 Calls Tryz.prog 93 (J7 a m c en) w fun r w'=>r=.returned (.string (top e en).t)/\Below w.heap.size w w'
theorem q9l (a:Option Addr)(m c:Nat)(e:Nat->Nx)(n:Nat)(l:Int)(w:World)(hm:m<=1000)(hn:n+1<=m)(hp:Prints a m c e (n+1))(h:PrOk a m e (n+1) w) :
 Calls Tryz.prog 128 #[.slice a m c,Ya ((n+1:Nat):Int),Ya l] w fun r w'=>r=.returned (.string (wrap l (top e (n+1))))/\Below w.heap.size w w':=by
 have hw0:wrap64 (((n+1:Nat):Int) - 1)=(n:Int):=by rw[q40 (by omega) (by omega)];omega
 have hnm:(n:Int)<m:=by omega
 have hsz:=h.top (by omega)
 have HO:=h_ h
 have HW:Hi (wrap l (top e (n+1))=if lvl (e n).op<l then ⟨#[40]⟩++(top e (n+1)).t++⟨#[41]⟩ else (top e (n+1)).t):=h_ rfl
 clear h
 go_enter Tryz.func128,Tryz.ntmps128
 go_wp2_with fail
 refine(hp _ HO.u).mono ?_
 rintro r w1 ⟨rfl,hb⟩
 have HB:=h_ hb
 replace HO:=h_ (HO.u.mono hb)
 clear hb
 obtain⟨b,o,rfl,-,z0,z1,z2,z3,z4⟩:=HO.u.nods n (by omega)
 generalize (top e (n+1)).t=t at *
 go_wp2_with fail
 refine(q52 _ _).mono ?_
 rintro r w2 ⟨rfl,hw⟩
 replace hw:=hw.symm;subst hw
 generalize lvl (e n).op=q at *
 clear z0 z1 z2 z3 z4
 by_cases hq:q<l
 . go_wp2_with fail
   go_ret;exact⟨qik (by rw[HW.u,Yn hq]),HB.u⟩
 . go_wp2_with fail
   go_ret;exact⟨qik (by rw[HW.u,Yi (by omega)]),HB.u⟩
theorem qi7 (e:Nat->Nx)(n:Nat):(top e (n+1)).t=phT (e n) ((argsOf e n).map (top e)):=by rw[qev,q5y];rfl
theorem qfc {l:List Nat}{i:Nat}(h:i<l.length):l.getD i 0=l[i]:=by rw[Y0,Yk h];rfl
theorem qex (a:List Ph)(k:Nat):tot (a.take k)<=tot a:=by
 have:tot a=tot (a.take k)+tot (a.drop k):=by rw[<- q8a,Z9]
 omega
theorem qew (e:Nat->Nx)(n:Nat):tot ((argsOf e n).map (top e))<=tot (pst e n):=by rw[q5y,q5r];exact qex _ _
def fnT (e:Nat->Nx)(n k:Nat):ByteArray:=wrd (e n).op++⟨#[40]⟩++jn ((((argsOf e n).take k).map (top e)).map (·.t))
theorem qce (e:Nat->Nx)(n:Nat):fnT e n 0=wrd (e n).op++⟨#[40]⟩:=by
 unfold fnT;rw[List.take_zero];show _++_++ByteArray.empty=_;rw[ByteArray.append_empty]
theorem qgd (e:Nat->Nx)(n:Nat)(h:0<(argsOf e n).length):fnT e n 1=fnT e n 0++(top e (argsOf e n)[0]).t:=by
 rw[qce]
 unfold fnT
 rw[Yq h,List.take_zero]
 show _++_++((top e (argsOf e n)[0]).t++ByteArray.empty)=_
 rw[ByteArray.append_empty]
theorem qcd (e:Nat->Nx)(n k:Nat)(h0:0<k)(h:k<(argsOf e n).length):fnT e n (k+1)=fnT e n k++⟨#[44,32]⟩++(top e (argsOf e n)[k]).t:=by
 unfold fnT
 rw[Yq h,Zt,Zt]
 show _++_++jn (_++[_])=_
 rw[qgz _ _ (by
  intro hc;have:=congrArg List.length hc;simp only[Zf,Yu,Yw]at this;omega)]
 simp only[ByteArray.append_assoc]
theorem qcc (e:Nat->Nx)(n k:Nat)(h0:2<=(e n).op)(h1:(e n).op<=25):(fnT e n k).size<=tot (pst e n)+2*k+8:=by
 have hw:=qf7 h0 h1
 have hj:=(qgy (((argsOf e n).take k).map (top e))).2
 have ht:=qex ((argsOf e n).map (top e)) k
 rw[<- List.map_take]at ht
 have ha:=qew e n
 have hl:(((argsOf e n).take k).map (top e)).length<=k:=by rw[Zf];exact List.length_take_le _ _
 unfold fnT
 simp only[Ym,bsz,Zz,Yl,Yw]
 omega
theorem lvl_bd (op:Int):1<=lvl op/\lvl op<=7:=by
 unfold lvl
 (repeat' split) <;> omega
theorem lvl_in {op:Int}(h:lvl op=7)(h0:2<=op):16<=op:=by
 refine Yv fun hc=>?_
 have:op=2∨op=3∨op=4∨op=5∨op=6∨op=7∨op=8∨op=9∨op=10∨op=11∨op=12∨op=13∨op=14∨op=15:=by omega
 rcases this with rfl | rfl | rfl | rfl | rfl | rfl | rfl | rfl | rfl | rfl | rfl | rfl | rfl | rfl <;> exact absurd h (by decide)
theorem q54 (a:Option Addr)(m c:Nat)(e:Nat->Nx)(hm:m<=1000)(F:Nat):∀en:Nat,en<=F->1<=en->en<=m->Prints a m c e en:=by
 induction F with
 | zero=>intro en h0 h1;omega
 | succ F ih =>
  intro en hF h1 h2 w h;obtain⟨n,rfl⟩:∃n,en=n+1:=⟨en - 1,by omega⟩;have HI:=h_ ih;have hw0:wrap64 (((n+1:Nat):Int) - 1)=(n:Int):=by rw[q40 (by omega) (by omega)];omega
  have hnm:(n:Int)<m:=by omega
  have hsz:=h.top (by omega);have HT:=h_ (qi7 e n);have hok:=h.ok n (by omega);have hft:=h.fit n (by omega);have hal:=h.st n (by omega);have hargs:=q5x hal;have HM:Hi (∀p,p∈argsOf e n->1<=p/\p<=n):=h_ fun p hp=>q5z hp;have HO:=h_ h;obtain⟨b,o,rfl,-,z0,z1,z2,z3,z4⟩:=h.nods n (by omega);obtain⟨W1,hW1⟩:=Nq (w.alloc (.cells #[Ya (e n).op,Ya (e n).v.k,Ya (e n).v.n,.string (e n).v.s,.string (e n).nm] 133));have HK:=h_ (Blk.new w 133 #[Ya (e n).op,Ya (e n).v.k,Ya (e n).v.n,.string (e n).v.s,.string (e n).nm]);have HB:=h_ ((bR w.heap.size w).alloc (nR _) (.cells #[Ya (e n).op,Ya (e n).v.k,Ya (e n).v.n,.string (e n).v.s,.string (e n).nm] 133));rw[hW1]at HK HB;have HO1:=h_ (HO.u.mono HB.u);clear ih h;rcases ops2 (e n).op with h | h | ⟨h,h'⟩
  . have HX:Hi ((top e (n+1)).t=showB (e n).v.k (e n).v.n (e n).v.s):=h_ (by rw[HT.u,phT,Yn h])
    rw[h]at z0 hW1 HK;obtain⟨y0,y1,y2,y3,y4⟩:=five HK.u;clear h;go_enter Tryz.func93,Tryz.ntmps93;go_wp2_with fail;refine(q3v _ _ _ _ hft.1 hft.2.2.1 hft.2.2.2).mono ?_;rintro r w2 ⟨rfl,hb⟩;replace HB:=mT HB hb;clear hb;go_wp2_with fail;go_ret;exact⟨qik HX.u.symm,HB.u⟩
  . have HX:Hi ((top e (n+1)).t=(e n).nm):=h_ (by rw[HT.u,phT,Yi (by omega),Yn h])
    rw[h]at z0 hW1 HK;obtain⟨y0,y1,y2,y3,y4⟩:=five HK.u;clear h;go_enter Tryz.func93,Tryz.ntmps93;go_wp2_with fail;go_ret;exact⟨qik HX.u.symm,HB.u⟩
  . have hop:2<=(e n).op/\(e n).op<=25:=by
     rw[okNode2 h h']at hok;simp only[Yo,Yj]at hok;exact hok.1.1
    have n0:((e n).op==0)=false:=Ye.2 h;have n1:((e n).op==1)=false:=Ye.2 h';have HT':Hi ((top e (n+1)).t=(if (e n).op=2 then ⟨#[45]⟩++wrap 6 (((argsOf e n).map (top e)).getD 0 noPh) else if (e n).op=3 then ⟨#[110,111,116,32]⟩++wrap 6 (((argsOf e n).map (top e)).getD 0 noPh) else if lvl (e n).op=7 then wrd (e n).op++⟨#[40]⟩++jn (((argsOf e n).map (top e)).map (·.t))++⟨#[41]⟩ else wrap (lft (e n).op) (((argsOf e n).map (top e)).getD 0 noPh)++⟨#[32]⟩++wrd (e n).op++⟨#[32]⟩++wrap (lvl (e n).op+1) (((argsOf e n).map (top e)).getD 1 noPh))):=h_ (by rw[HT.u,phT,Yi h,Yi h']);obtain⟨y0,y1,y2,y3,y4⟩:=five HK.u;clear h h' HT hok hft;go_enter Tryz.func93,Tryz.ntmps93;go_wp2_with fail;refine(q70 _ m c e n _ hm HO1.u.nods h2 HO1.u.st).mono ?_;rintro r w2 ⟨a0,c0,rfl,hI,hb⟩;replace HB:=mT HB hb;replace HO1:=h_ (HO1.u.mono hb);replace HK:=mB HK hb;have HG:=h_ hI;clear hb hI y0 y1 y2 y3 y4 hW1 z0 z1 z2 z3 z4;obtain⟨y0,y1,y2,y3,y4⟩:=five HK.u;go_wp2_with fail;refine(q52 _ _).mono ?_;rintro r w3 ⟨rfl,hw⟩;replace hw:=hw.symm;subst hw;by_cases h2':(e n).op=2
    . have e1:arn (e n)=1:=by unfold arn;rw[ar_one (.inl h2')];rfl
      rw[e1]at HG hargs⊢;obtain⟨p,hp⟩:=list1 hargs;have hpm:=HM.u p (by rw[hp];exact Zd);obtain⟨pn,rfl⟩:∃k,p=k+1:=⟨p - 1,by omega⟩;have HX:Hi ((top e (n+1)).t=⟨#[45]⟩++wrap 6 (top e (pn+1))):=h_ (by rw[HT'.u,Yn h2',hp];rfl);obtain⟨b1,o1,rfl,-,hc⟩:=HG.u 0 (by omega);simp only[hp,Z0,Zq]at hc;rw[h2']at y0⊢;have hs2:=qaz 6 (top e (pn+1));have hs3:=(HO1.u.le (show pn+1<=n+1 by omega)).top (by omega);clear HT' n0 n1 hop h2' HG;go_wp2_with fail;refine(q9l _ m c e pn 6 _ hm (by omega) (HI.u (pn+1) (by omega) (by omega) (by omega)) (HO1.u.le (by omega))).mono ?_;rintro r w4 ⟨rfl,hb⟩;replace HB:=mT HB hb;generalize wrap 6 (top e (pn+1))=t at *;clear hb;go_wp2_with fail;go_ret;exact⟨qik HX.u.symm,HB.u⟩
    by_cases h3':(e n).op=3
    . have e1:arn (e n)=1:=by unfold arn;rw[ar_one (.inr h3')];rfl
      rw[e1]at HG hargs⊢;obtain⟨p,hp⟩:=list1 hargs;have hpm:=HM.u p (by rw[hp];exact Zd);obtain⟨pn,rfl⟩:∃k,p=k+1:=⟨p - 1,by omega⟩;have HX:Hi ((top e (n+1)).t=⟨#[110,111,116,32]⟩++wrap 6 (top e (pn+1))):=h_ (by rw[HT'.u,Yi h2',Yn h3',hp];rfl);obtain⟨b1,o1,rfl,-,hc⟩:=HG.u 0 (by omega);simp only[hp,Z0,Zq]at hc;rw[h3']at y0⊢;have hs2:=qaz 6 (top e (pn+1));have hs3:=(HO1.u.le (show pn+1<=n+1 by omega)).top (by omega);clear HT' n0 n1 hop h2' h3' HG;go_wp2_with fail;refine(q9l _ m c e pn 6 _ hm (by omega) (HI.u (pn+1) (by omega) (by omega) (by omega)) (HO1.u.le (by omega))).mono ?_;rintro r w4 ⟨rfl,hb⟩;replace HB:=mT HB hb;generalize wrap 6 (top e (pn+1))=t at *;clear hb;go_wp2_with fail;go_ret;exact⟨qik HX.u.symm,HB.u⟩
    have n2:((e n).op==2)=false:=Ye.2 h2';have n3:((e n).op==3)=false:=Ye.2 h3';have HT2:Hi ((top e (n+1)).t=(if lvl (e n).op=7 then wrd (e n).op++⟨#[40]⟩++jn (((argsOf e n).map (top e)).map (·.t))++⟨#[41]⟩ else wrap (lft (e n).op) (((argsOf e n).map (top e)).getD 0 noPh)++⟨#[32]⟩++wrd (e n).op++⟨#[32]⟩++wrap (lvl (e n).op+1) (((argsOf e n).map (top e)).getD 1 noPh))):=h_ (by rw[HT'.u,Yi h2',Yi h3']);clear HT' n0 n1;by_cases h7:lvl (e n).op=7
    . have h16:=lvl_in h7 hop.1
      have HX:Hi ((top e (n+1)).t=fnT e n (arn (e n))++⟨#[41]⟩):=h_ (by rw[HT2.u,Yn h7,fnT,Za (by omega)]);have HF0:=h_ (qce e n);have HFS:Hi (∀k,k<=arn (e n)->(fnT e n k).size<=1200000):=h_ fun k hk=>by
       have:=qcc e n k hop.1 hop.2;have:=(HO1.u.le (show n<=n+1 by omega)).tot;have:=arn_le (e n);omega
      have hwsz:=qf7 hop.1 hop.2;have har:=arn_le (e n);rw[h7];clear HT2 h7;go_wp2_with fail;refine(q1r _ _ h16 hop.2).mono ?_;rintro r w4 ⟨rfl,hw⟩;replace hw:=hw.symm;subst hw;obtain⟨wd,hwd⟩:=Nq (wrd (e n).op);rw[hwd]at HF0 hwsz⊢;clear hwd;go_wp2_with fail;go_loopw [8,9] (fun sv i wr=>∃k:Nat,k<=arn (e n)/\sv=.string (fnT e n k)/\i=Ya k/\Below w.heap.size w wr/\PrOk (some ⟨b,o,none⟩) m e (n+1) wr/\Ints wr a0 (arn (e n)) (fun k=>(((argsOf e n).getD k 0:Nat):Int))) (fun _ i _=>arn (e n) - (intOf i).toNat)
      case atStart=>exact⟨0,nZ _,by rw[HF0.u],rfl,HB.u,HO1.u,HG.u⟩
      case round =>
       clear HB HO1 HG HF0 y0 y1 y2 y3 y4;obtain⟨k,hk,rfl,rfl,hb,hO,hG⟩:=hrel;have HB:=h_ hb;have HO1:=h_ hO;have HG:=h_ hG;clear hb hO hG;have hks:=HFS.u k hk;by_cases hlt:k<arn (e n)
       . have hlt':(k:Int)<(arn (e n):Int):=by omega
         obtain⟨b1,o1,rfl,-,hc⟩:=HG.u k hlt;have hkl:k<(argsOf e n).length:=(by omega);simp only[qfc hkl]at hc;obtain⟨p,hp⟩:=Nq ((argsOf e n)[k]);have hpm:=HM.u _ (Ys hkl);have HS:Hi (fnT e n (k+1)=(if k=0 then fnT e n k else fnT e n k++⟨#[44,32]⟩)++(top e p).t):=h_ (by
          by_cases hk0:k=0
          . subst hk0;rw[Yn rfl,qgd e n (by omega),hp]
          . rw[Yi hk0,qcd e n k (by omega) hkl,hp])
         rw[hp]at hc hpm;clear hp;have hs3:=(HO1.u.le (show p<=n+1 by omega)).top (by omega);obtain⟨q,hq⟩:=Nq (fnT e n k);rw[hq]at HS hks⊢;clear hq;by_cases hk0:k=0
         . subst hk0
           rw[Yn rfl]at HS;simp only[Zq]at hc;rw[show((0:Nat):Int)=(0:Int) from rfl];have hlt2:(0:Int)<(arn (e n):Int):=(by omega);clear hlt';go_wp2_with fail;refine(HI.u p (by omega) (by omega) (by omega) _ (HO1.u.le (by omega))).mono ?_;rintro r w5 ⟨rfl,hb⟩;replace HB:=mT HB hb;replace HO1:=h_ (HO1.u.mono hb);replace HG:=h_ (HG.u.mono hb);generalize (top e p).t=t at *;clear hb hc;go_wp2_with fail;go_roundw
           case rel=>first | exact⟨1,by omega,by rw[HS.u],rfl,HB.u,HO1.u,HG.u⟩ | ((repeat apply Exists.intro);exact⟨⟨1,by omega,by rw[HS.u],rfl,HB.u,HO1.u,HG.u⟩,rfl⟩)
           case measure=>simp[intOf];omega
         . rw[Yi hk0]at HS
           have hk1:(0:Int)<k:=(by omega);go_wp2_with fail;refine(HI.u p (by omega) (by omega) (by omega) _ (HO1.u.le (by omega))).mono ?_;rintro r w5 ⟨rfl,hb⟩;replace HB:=mT HB hb;replace HO1:=h_ (HO1.u.mono hb);replace HG:=h_ (HG.u.mono hb);generalize (top e p).t=t at *;clear hb hc;have hq2:(q++(⟨#[44,32]⟩:ByteArray)).size=q.size+2:=(by rw[Ym];rfl);obtain⟨q2,hq3⟩:=Nq (q++(⟨#[44,32]⟩:ByteArray));rw[hq3]at HS hq2⊢;clear hq3;go_wp2_with fail;go_roundw
           case rel=>first | exact⟨k+1,by omega,by rw[HS.u],by go_num,HB.u,HO1.u,HG.u⟩ | ((repeat apply Exists.intro);exact⟨⟨k+1,by omega,by rw[HS.u],by go_num,HB.u,HO1.u,HG.u⟩,rfl⟩)
           case measure=>simp[intOf];omega
       . obtain rfl:k=arn (e n):=by omega
         have hlt':¬ ((arn (e n):Nat):Int)<(arn (e n):Int):=(by omega);generalize fnT e n (arn (e n))=q at *;go_wp2_with fail;go_ret;exact⟨qik HX.u.symm,HB.u⟩
    . have e2:arn (e n)=2:=by unfold arn;rw[ar_two hop.1 hop.2 h7 h2' h3'];rfl
      have hop15:4<=(e n).op/\(e n).op<=15:=by
       refine⟨by omega,?_⟩;refine Yv fun hc=>h7 (qhd (by omega))
      rw[e2]at HG hargs⊢;obtain⟨p,q,hp⟩:=list2 hargs;have hpm:=HM.u p (by rw[hp];exact Zd);have hqm:=HM.u q (by rw[hp];exact Zp _ Zd);obtain⟨pn,rfl⟩:∃k,p=k+1:=⟨p - 1,by omega⟩;obtain⟨qn,rfl⟩:∃k,q=k+1:=⟨q - 1,by omega⟩;have HX:Hi ((top e (n+1)).t=wrap (lft (e n).op) (top e (pn+1))++⟨#[32]⟩++wrd (e n).op++⟨#[32]⟩++wrap (lvl (e n).op+1) (top e (qn+1))):=h_ (by rw[HT2.u,Yi h7,hp];rfl);have HLf:Hi (lft (e n).op=if lvl (e n).op=3 then 4 else lvl (e n).op):=h_ rfl;have hg0:=HG.u 0 (by omega);have hg1:=HG.u 1 (by omega);obtain⟨b1,o1,rfl,-,hc0⟩:=hg0;obtain⟨b2,o2,e12,-,hc1⟩:=hg1;cases e12;simp only[hp,Z0,Vt,Zq]at hc0 hc1;have hs1:=(HO1.u.le (show pn+1<=n+1 by omega)).top (by omega);have hs2:=(HO1.u.le (show qn+1<=n+1 by omega)).top (by omega);have ht1:=qaz (lft (e n).op) (top e (pn+1));have ht2:=qaz (lvl (e n).op+1) (top e (qn+1));have hwsz:=qf7 hop.1 hop.2;have hlv:1<=lvl (e n).op/\lvl (e n).op<=7:=lvl_bd _;have HP:=h_ (show Prints (some ⟨b,o,none⟩) m c e (pn+1) from HI.u (pn+1) (by omega) (by omega) (by omega));have HQ:=h_ (show Prints (some ⟨b,o,none⟩) m c e (qn+1) from HI.u (qn+1) (by omega) (by omega) (by omega));have hpn:pn+1<=n:=hpm.2;have hqn:qn+1<=n:=hqm.2;obtain⟨lv,hlve⟩:=Nq (lvl (e n).op);obtain⟨lf,hlfe⟩:=Nq (lft (e n).op);have hw1:wrap64 (lv+1)=lv+1:=q40 (by omega) (by omega);rw[hlve]at HX HLf h7 ht2 hlv⊢;rw[hlfe]at HX HLf ht1;have n7:(lv==7)=false:=Ye.2 h7;have HPQ:=h_ hp;clear HT2 hp HM HI e2 hargs hlve hlfe hpm hqm hal;have HF:Hi (Below w2.heap.size w2 w2.drew):=h_ ((bR _ _).drew);by_cases h3:lv=3
      . have hl4:lf=4:=by rw[HLf.u,Yn h3]
        subst h3 hl4;simp only[show(3:Int)+1=4 from rfl]at HX ht2;clear HLf n7 h7 hlv hw1;go_wp2_with fail;refine wp_region_held_drew (S:=fun w'=>w'.cell? ⟨b1,o1,none⟩=some (Ya ((pn+1:Nat):Int))/\w'.cell? ⟨b1,o1+1,none⟩=some (Ya ((qn+1:Nat):Int))/\w'.cell? ⟨w.heap.size,0,none⟩=some (Ya (e n).op)) (by kernel_rfl) ⟨hc0,hc1,y0⟩ (fun zz=>?_);clear hc0 hc1 y0 y1 y2 y3 y4;refine tj 0 80 (.slice (some ⟨b,o,none⟩) m c) zz ?_;refine tj 1 81 (.slice (some ⟨b1,o1,none⟩) 2 c0) zz ?_;refine tj 2 82 (Yd b1 o1) zz ?_;refine tj 3 83 (Ya ((pn+1:Nat):Int)) zz ?_;simp only[sX,sY,sZ];refine tj 4 84 (Ya 4) zz ?_;refine tj 7 87 (Yd w.heap.size 0) zz ?_;refine tj 8 88 (Ya (e n).op) zz ?_;refine tj 12 92 (.slice (some ⟨b,o,none⟩) m c) zz ?_;simp only[sX,sY,sZ];refine tj 13 93 (.slice (some ⟨b1,o1,none⟩) 2 c0) zz ?_;refine tj 14 94 (Yd b1 (o1+1)) zz ?_;refine tj 15 95 (Ya ((qn+1:Nat):Int)) zz ?_;refine tj 16 96 (Ya 3) zz ?_;simp only[sX,sY,sZ];refine tj 17 97 (Ya 4) zz ?_ (hy:=fun w hS=>by simp[execOp,go_sem, *];rfl);simp only[sX,sY,sZ];refine callY (i:=5) (f:=128) (args:=#[.slice (some ⟨b,o,none⟩) m c,Ya ((pn+1:Nat):Int),Ya 4]) (R:=fun r wz=>r=.string (wrap 4 (top e (pn+1)))/\Below w2.heap.size w2 wz) 85 rfl rfl (by rfl) (by kernel_rfl) ?hrun1 ((q9l _ m c e pn 4 _ hm (by omega) HP.u ((HO1.u.mono HF.u).le (by omega))).mono fun e w6 ⟨he,hb⟩=>⟨_,he,rfl,q23 hb⟩) ?_
        case hrun1=>simp[execOp,go_sem]
        rintro r3 W4 ⟨rfl,hb⟩;replace HB:=mT HB hb;replace HO1:=h_ (HO1.u.mono hb);replace HK:=mB HK hb;replace HG:=h_ (HG.u.mono hb);clear hb HF zz;obtain⟨y0,y1,y2,y3,y4⟩:=five HK.u;obtain⟨b3,o3,e13,-,hc0⟩:=HG.u 0 (by omega);obtain⟨b4,o4,e14,-,hc1⟩:=HG.u 1 (by omega);cases e13;cases e14;simp only[HPQ.u,Z0,Vt,Zq]at hc0 hc1;have zz:W4.cell? ⟨b1,o1,none⟩=some (Ya ((pn+1:Nat):Int))/\W4.cell? ⟨b1,o1+1,none⟩=some (Ya ((qn+1:Nat):Int))/\W4.cell? ⟨w.heap.size,0,none⟩=some (Ya (e n).op):=⟨hc0,hc1,y0⟩;refine⟨zz,?_⟩;clear hc0 hc1 y0 y1 y2 y3 y4;simp only[sX,sY,sZ];obtain⟨t1,ht1e⟩:=Nq (wrap 4 (top e (pn+1)));rw[ht1e]at HX ht1⊢;clear ht1e;have ht1':t1.size<=1200000:=(by omega);have hA:(t1++(⟨#[32]⟩:ByteArray)).size=t1.size+1:=(by rw[Ym];rfl);refine tj 6 86 (.string (t1++⟨#[32]⟩)) zz ?_ (hy:=fun w hS=>by have:=run_string_add_sum (P:=Tryz.prog) w t1 ⟨#[32]⟩ (by show t1.size+1<=_;omega);simp[execOp,go_sem,this]);simp only[sX,sY,sZ];refine callY (i:=9) (f:=130) (args:=#[Ya (e n).op]) (R:=fun r wz=>r=.string (wrd (e n).op)/\wz=W4) 89 rfl rfl (by rfl) (by kernel_rfl) ?hrun2 ((q74 _ _ hop15.1 hop15.2).mono fun e w6 ⟨he,hb⟩=>⟨_,he,rfl,hb⟩) ?_
        case hrun2=>simp[execOp,go_sem]
        rintro r3 W5 ⟨rfl,hw⟩;replace hw:=hw.symm;subst hw;refine⟨zz,?_⟩;simp only[sX,sY,sZ];obtain⟨wd,hwde⟩:=Nq (wrd (e n).op);rw[hwde]at HX hwsz⊢;clear hwde;have hA2:(t1++(⟨#[32]⟩:ByteArray)++wd).size=t1.size+1+wd.size:=(by rw[Ym,hA]);refine tj 10 90 (.string (t1++⟨#[32]⟩++wd)) zz ?_ (hy:=fun w hS=>by have:=run_string_add_sum (P:=Tryz.prog) w (t1++⟨#[32]⟩) wd (by omega);simp[execOp,go_sem,this]);simp only[sX,sY,sZ];have hA3:(t1++(⟨#[32]⟩:ByteArray)++wd++⟨#[32]⟩).size=t1.size+1+wd.size+1:=(by rw[Ym,hA2];rfl);refine tj 11 91 (.string (t1++⟨#[32]⟩++wd++⟨#[32]⟩)) zz ?_ (hy:=fun w hS=>by have:=run_string_add_sum (P:=Tryz.prog) w (t1++⟨#[32]⟩++wd) ⟨#[32]⟩ (by rw[hA2];show t1.size+1+wd.size+1<=_;omega);simp[execOp,go_sem,this]);simp only[sX,sY,sZ];refine callY (i:=18) (f:=128) (args:=#[.slice (some ⟨b,o,none⟩) m c,Ya ((qn+1:Nat):Int),Ya 4]) (R:=fun r wz=>r=.string (wrap 4 (top e (qn+1)))/\Below W4.heap.size W4 wz) 98 rfl rfl (by rfl) (by kernel_rfl) ?hrun3 ((q9l _ m c e qn 4 _ hm (by omega) HQ.u (HO1.u.le (by omega))).mono fun e w6 ⟨he,hb⟩=>⟨_,he,rfl,hb⟩) ?_
        case hrun3=>simp[execOp,go_sem]
        rintro r3 W6 ⟨rfl,hb⟩;replace HB:=mT HB hb;replace HK:=mB HK hb;replace HG:=h_ (HG.u.mono hb);clear hb zz;obtain⟨y0,y1,y2,y3,y4⟩:=five HK.u;obtain⟨b3,o3,e13,-,hc0⟩:=HG.u 0 (by omega);obtain⟨b4,o4,e14,-,hc1⟩:=HG.u 1 (by omega);cases e13;cases e14;simp only[HPQ.u,Z0,Vt,Zq]at hc0 hc1;have zz:W6.cell? ⟨b1,o1,none⟩=some (Ya ((pn+1:Nat):Int))/\W6.cell? ⟨b1,o1+1,none⟩=some (Ya ((qn+1:Nat):Int))/\W6.cell? ⟨w.heap.size,0,none⟩=some (Ya (e n).op):=⟨hc0,hc1,y0⟩;refine⟨zz,?_⟩;clear hc0 hc1 y0 y1 y2 y3 y4;simp only[sX,sY,sZ];obtain⟨t2,ht2e⟩:=Nq (wrap 4 (top e (qn+1)));rw[ht2e]at HX ht2⊢;clear ht2e;obtain⟨u3,hu3⟩:=Nq (t1++(⟨#[32]⟩:ByteArray)++wd++⟨#[32]⟩);rw[hu3]at HX hA3⊢;clear hu3 hA hA2;refine tj 19 99 (.string (u3++t2)) zz ?_ (hy:=fun w hS=>by have:=run_string_add_sum (P:=Tryz.prog) w u3 t2 (by omega);simp[execOp,go_sem,this]);refine tj 20 4 (.string (u3++t2)) zz ?_;simp only[sX,sY,sZ];refine wpAnyH_done (by kernel_rfl) ?_ _;clear zz;go_wp2;go_ret;exact⟨qik HX.u.symm,HB.u⟩
      . have hl4:lf=lv:=by rw[HLf.u,Yi h3]
        subst hl4;have n3':(lf==3)=false:=Ye.2 h3;clear HLf h7 h3;go_wp2_with fail;refine wp_region_held_drew (S:=fun w'=>w'.cell? ⟨b1,o1,none⟩=some (Ya ((pn+1:Nat):Int))/\w'.cell? ⟨b1,o1+1,none⟩=some (Ya ((qn+1:Nat):Int))/\w'.cell? ⟨w.heap.size,0,none⟩=some (Ya (e n).op)) (by kernel_rfl) ⟨hc0,hc1,y0⟩ (fun zz=>?_);clear hc0 hc1 y0 y1 y2 y3 y4;refine tj 0 80 (.slice (some ⟨b,o,none⟩) m c) zz ?_;refine tj 1 81 (.slice (some ⟨b1,o1,none⟩) 2 c0) zz ?_;refine tj 2 82 (Yd b1 o1) zz ?_;refine tj 3 83 (Ya ((pn+1:Nat):Int)) zz ?_;simp only[sX,sY,sZ];refine tj 4 84 (Ya lf) zz ?_;refine tj 7 87 (Yd w.heap.size 0) zz ?_;refine tj 8 88 (Ya (e n).op) zz ?_;refine tj 12 92 (.slice (some ⟨b,o,none⟩) m c) zz ?_;simp only[sX,sY,sZ];refine tj 13 93 (.slice (some ⟨b1,o1,none⟩) 2 c0) zz ?_;refine tj 14 94 (Yd b1 (o1+1)) zz ?_;refine tj 15 95 (Ya ((qn+1:Nat):Int)) zz ?_;refine tj 16 96 (Ya lf) zz ?_;simp only[sX,sY,sZ];refine tj 17 97 (Ya (lf+1)) zz ?_ (hy:=fun w hS=>by simp[execOp,go_sem, *];rw[IntKind.wrap_i64];omega);simp only[sX,sY,sZ];refine callY (i:=5) (f:=128) (args:=#[.slice (some ⟨b,o,none⟩) m c,Ya ((pn+1:Nat):Int),Ya lf]) (R:=fun r wz=>r=.string (wrap lf (top e (pn+1)))/\Below w2.heap.size w2 wz) 85 rfl rfl (by rfl) (by kernel_rfl) ?hrun1 ((q9l _ m c e pn lf _ hm (by omega) HP.u ((HO1.u.mono HF.u).le (by omega))).mono fun e w6 ⟨he,hb⟩=>⟨_,he,rfl,q23 hb⟩) ?_
        case hrun1=>simp[execOp,go_sem]
        rintro r3 W4 ⟨rfl,hb⟩;replace HB:=mT HB hb;replace HO1:=h_ (HO1.u.mono hb);replace HK:=mB HK hb;replace HG:=h_ (HG.u.mono hb);clear hb HF zz;obtain⟨y0,y1,y2,y3,y4⟩:=five HK.u;obtain⟨b3,o3,e13,-,hc0⟩:=HG.u 0 (by omega);obtain⟨b4,o4,e14,-,hc1⟩:=HG.u 1 (by omega);cases e13;cases e14;simp only[HPQ.u,Z0,Vt,Zq]at hc0 hc1;have zz:W4.cell? ⟨b1,o1,none⟩=some (Ya ((pn+1:Nat):Int))/\W4.cell? ⟨b1,o1+1,none⟩=some (Ya ((qn+1:Nat):Int))/\W4.cell? ⟨w.heap.size,0,none⟩=some (Ya (e n).op):=⟨hc0,hc1,y0⟩;refine⟨zz,?_⟩;clear hc0 hc1 y0 y1 y2 y3 y4;simp only[sX,sY,sZ];obtain⟨t1,ht1e⟩:=Nq (wrap lf (top e (pn+1)));rw[ht1e]at HX ht1⊢;clear ht1e;have ht1':t1.size<=1200000:=(by omega);have hA:(t1++(⟨#[32]⟩:ByteArray)).size=t1.size+1:=(by rw[Ym];rfl);refine tj 6 86 (.string (t1++⟨#[32]⟩)) zz ?_ (hy:=fun w hS=>by have:=run_string_add_sum (P:=Tryz.prog) w t1 ⟨#[32]⟩ (by show t1.size+1<=_;omega);simp[execOp,go_sem,this]);simp only[sX,sY,sZ];refine callY (i:=9) (f:=130) (args:=#[Ya (e n).op]) (R:=fun r wz=>r=.string (wrd (e n).op)/\wz=W4) 89 rfl rfl (by rfl) (by kernel_rfl) ?hrun2 ((q74 _ _ hop15.1 hop15.2).mono fun e w6 ⟨he,hb⟩=>⟨_,he,rfl,hb⟩) ?_
        case hrun2=>simp[execOp,go_sem]
        rintro r3 W5 ⟨rfl,hw⟩;replace hw:=hw.symm;subst hw;refine⟨zz,?_⟩;simp only[sX,sY,sZ];obtain⟨wd,hwde⟩:=Nq (wrd (e n).op);rw[hwde]at HX hwsz⊢;clear hwde;have hA2:(t1++(⟨#[32]⟩:ByteArray)++wd).size=t1.size+1+wd.size:=(by rw[Ym,hA]);refine tj 10 90 (.string (t1++⟨#[32]⟩++wd)) zz ?_ (hy:=fun w hS=>by have:=run_string_add_sum (P:=Tryz.prog) w (t1++⟨#[32]⟩) wd (by omega);simp[execOp,go_sem,this]);simp only[sX,sY,sZ];have hA3:(t1++(⟨#[32]⟩:ByteArray)++wd++⟨#[32]⟩).size=t1.size+1+wd.size+1:=(by rw[Ym,hA2];rfl);refine tj 11 91 (.string (t1++⟨#[32]⟩++wd++⟨#[32]⟩)) zz ?_ (hy:=fun w hS=>by have:=run_string_add_sum (P:=Tryz.prog) w (t1++⟨#[32]⟩++wd) ⟨#[32]⟩ (by rw[hA2];show t1.size+1+wd.size+1<=_;omega);simp[execOp,go_sem,this]);simp only[sX,sY,sZ];refine callY (i:=18) (f:=128) (args:=#[.slice (some ⟨b,o,none⟩) m c,Ya ((qn+1:Nat):Int),Ya (lf+1)]) (R:=fun r wz=>r=.string (wrap (lf+1) (top e (qn+1)))/\Below W4.heap.size W4 wz) 98 rfl rfl (by rfl) (by kernel_rfl) ?hrun3 ((q9l _ m c e qn (lf+1) _ hm (by omega) HQ.u (HO1.u.le (by omega))).mono fun e w6 ⟨he,hb⟩=>⟨_,he,rfl,hb⟩) ?_
        case hrun3=>simp[execOp,go_sem]
        rintro r3 W6 ⟨rfl,hb⟩;replace HB:=mT HB hb;replace HK:=mB HK hb;replace HG:=h_ (HG.u.mono hb);clear hb zz;obtain⟨y0,y1,y2,y3,y4⟩:=five HK.u;obtain⟨b3,o3,e13,-,hc0⟩:=HG.u 0 (by omega);obtain⟨b4,o4,e14,-,hc1⟩:=HG.u 1 (by omega);cases e13;cases e14;simp only[HPQ.u,Z0,Vt,Zq]at hc0 hc1;have zz:W6.cell? ⟨b1,o1,none⟩=some (Ya ((pn+1:Nat):Int))/\W6.cell? ⟨b1,o1+1,none⟩=some (Ya ((qn+1:Nat):Int))/\W6.cell? ⟨w.heap.size,0,none⟩=some (Ya (e n).op):=⟨hc0,hc1,y0⟩;refine⟨zz,?_⟩;clear hc0 hc1 y0 y1 y2 y3 y4;simp only[sX,sY,sZ];obtain⟨t2,ht2e⟩:=Nq (wrap (lf+1) (top e (qn+1)));rw[ht2e]at HX ht2⊢;clear ht2e;obtain⟨u3,hu3⟩:=Nq (t1++(⟨#[32]⟩:ByteArray)++wd++⟨#[32]⟩);rw[hu3]at HX hA3⊢;clear hu3 hA hA2;refine tj 19 99 (.string (u3++t2)) zz ?_ (hy:=fun w hS=>by have:=run_string_add_sum (P:=Tryz.prog) w u3 t2 (by omega);simp[execOp,go_sem,this]);refine tj 20 4 (.string (u3++t2)) zz ?_;simp only[sX,sY,sZ];refine wpAnyH_done (by kernel_rfl) ?_ _;clear zz;go_wp2;go_ret;exact⟨qik HX.u.symm,HB.u⟩
end Go.Proofs.YtfmammdgehbjhaaGreatDoor
