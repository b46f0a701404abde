import Derived.Test.YtebbgodlijlioaaGreatDoorW06
import Derived.Deep.RegionHeld3
set_option maxRecDepth 100000
set_option maxHeartbeats 64000000
namespace Go.Proofs.YtebbgodlijlioaaGreatDoor
open Go Go.RowKit
theorem qi1 {op:Int}(h:¬ (2<=op/\op<=15)):lvl op=7:=by
 unfold lvl;rw[Yu (by omega),Yu (by omega),Yu (by omega),Yu (by omega),Yu (by omega),Yu (by omega)]
theorem q56 (op:Int)(w:World):Calls Tryz.prog 132 #[J9 op] w fun e w'=>e=.returned (J9 (lvl op))/\w'=w:=by
 by_cases h:2<=op/\op<=15
 . have h:op=2∨op=3∨op=4∨op=5∨op=6∨op=7∨op=8∨op=9∨op=10∨op=11∨op=12∨op=13∨op=14∨op=15:=by omega
   rcases h with rfl | rfl | rfl | rfl | rfl | rfl | rfl | rfl | rfl | rfl | rfl | rfl | rfl | rfl
   all_goals
    go_enter Tryz.func132,Tryz.ntmps132;go_wp2;go_ret;exact⟨rfl,rfl⟩
 . rw[qi1 h]
   have n2:(op==2)=false:=Yf.2 (by omega);have n3:(op==3)=false:=Yf.2 (by omega);have n4:(op==4)=false:=Yf.2 (by omega);have n5:(op==5)=false:=Yf.2 (by omega);have n6:(op==6)=false:=Yf.2 (by omega);have n7:(op==7)=false:=Yf.2 (by omega);have n8:(op==8)=false:=Yf.2 (by omega);have n9:(op==9)=false:=Yf.2 (by omega);have n10:(op==10)=false:=Yf.2 (by omega);have n11:(op==11)=false:=Yf.2 (by omega);have n12:(op==12)=false:=Yf.2 (by omega);have n13:(op==13)=false:=Yf.2 (by omega);have n14:(op==14)=false:=Yf.2 (by omega);have n15:(op==15)=false:=Yf.2 (by omega);rcases (show op<2∨15<op by omega) with h' | h'
   all_goals
    clear h;go_enter Tryz.func132,Tryz.ntmps132;go_wp2;go_ret;exact⟨rfl,rfl⟩
theorem q5h (op:Int)(w:World):Calls Tryz.prog 207 #[J9 op] w fun e w'=>e=.returned (J9 (lvl op))/\w'=w:=by
 by_cases h:2<=op/\op<=15
 . have h:op=2∨op=3∨op=4∨op=5∨op=6∨op=7∨op=8∨op=9∨op=10∨op=11∨op=12∨op=13∨op=14∨op=15:=by omega
   rcases h with rfl | rfl | rfl | rfl | rfl | rfl | rfl | rfl | rfl | rfl | rfl | rfl | rfl | rfl
   all_goals
    go_enter Tryz.func207,Tryz.ntmps207;go_wp2;go_ret;exact⟨rfl,rfl⟩
 . rw[qi1 h]
   have n2:(op==2)=false:=Yf.2 (by omega);have n3:(op==3)=false:=Yf.2 (by omega);have n4:(op==4)=false:=Yf.2 (by omega);have n5:(op==5)=false:=Yf.2 (by omega);have n6:(op==6)=false:=Yf.2 (by omega);have n7:(op==7)=false:=Yf.2 (by omega);have n8:(op==8)=false:=Yf.2 (by omega);have n9:(op==9)=false:=Yf.2 (by omega);have n10:(op==10)=false:=Yf.2 (by omega);have n11:(op==11)=false:=Yf.2 (by omega);have n12:(op==12)=false:=Yf.2 (by omega);have n13:(op==13)=false:=Yf.2 (by omega);have n14:(op==14)=false:=Yf.2 (by omega);have n15:(op==15)=false:=Yf.2 (by omega);rcases (show op<2∨15<op by omega) with h' | h'
   all_goals
    clear h;go_enter Tryz.func207,Tryz.ntmps207;go_wp2;go_ret;exact⟨rfl,rfl⟩
theorem q1t (op:Int)(w:World)(h0:16<=op)(h1:op<=25):Calls Tryz.prog 134 #[J9 op] w fun e w'=>e=.returned (.string (wrd op))/\w'=w:=by
 have h:op=16∨op=17∨op=18∨op=19∨op=20∨op=21∨op=22∨op=23∨op=24∨op=25:=by omega
 clear h0 h1
 rcases h with rfl | rfl | rfl | rfl | rfl | rfl | rfl | rfl | rfl | rfl
 all_goals
  go_enter Tryz.func134,Tryz.ntmps134;go_wp2;go_ret;exact⟨rfl,rfl⟩
theorem q7n (op:Int)(w:World)(h0:4<=op)(h1:op<=15):Calls Tryz.prog 135 #[J9 op] w fun e w'=>e=.returned (.string (wrd op))/\w'=w:=by
 have h:op=4∨op=5∨op=6∨op=7∨op=8∨op=9∨op=10∨op=11∨op=12∨op=13∨op=14∨op=15:=by omega
 clear h0 h1
 rcases h with rfl | rfl | rfl | rfl | rfl | rfl | rfl | rfl | rfl | rfl | rfl | rfl
 all_goals
  go_enter Tryz.func135,Tryz.ntmps135;go_wp2;go_ret;exact⟨rfl,rfl⟩
theorem q28 {B:Nat}{w w':World}(h:Below B w.drew w'):Below B w w':=⟨h.os,h.tape,h.output,h.size,h.block⟩
section
variable {md:Region.Mode} {ops:Array Oper} {Q:Exit->Act->World->Prop} {S:World->Prop} {o:Oper} {a:Act}
theorem qiz {a:Act}{o:Oper}{d:Tmp}{v:Value}(h:o.dst=some d):a.put o.dst v = { tmps:=a.tmps.setIfInBounds d v,defers:=a.defers }:=by rw[h];rfl
theorem takeY {i:Nat}{v:Value}{fuel:Nat}{listed:Array Bool}{w:World}(d:Tmp)(hi:ops[i]? = some o)(hd:o.dst=some d)(hs:Region.noSelect ops=true)(hf:Region.free md ops listed i=true)(hr:(Region.ready md ops listed).contains i=true)
 (hQ:∀c (b:Act) (t:Array Value) w,Q (.panic c) { tmps:=t,defers:=b.defers } w->Q (.panic c) b w) (hw:Region.wanted o (yielded ops a.tmps)=true) (hy:∀w,S w->(execOp a.eval o).run Tryz.prog w=.ok (.value v) w) (hS:S w) (h:wpAnyH Tryz.prog md ops Q S fuel (listed.setIfInBounds i true) { tmps:=a.tmps.setIfInBounds d v,defers:=a.defers } w):wpAnyH Tryz.prog md ops Q S (fuel+1) listed a w :=
 wpAnyH_take hi hs hf hr (fun c a w h=>hQ c a _ w (by rw[qiz hd]at h;exact h)) (.inl ⟨hw,hy⟩) hS (by rw[qiz hd];exact h)
theorem takeN {i:Nat}{fuel:Nat}{listed:Array Bool}{w:World}(d:Tmp)(hi:ops[i]? = some o)(hd:o.dst=some d)(hs:Region.noSelect ops=true)(hf:Region.free md ops listed i=true)(hr:(Region.ready md ops listed).contains i=true)
 (hQ:∀c (b:Act) (t:Array Value) w,Q (.panic c) { tmps:=t,defers:=b.defers } w->Q (.panic c) b w) (hw:Region.wanted o (yielded ops a.tmps)=false) (hS:S w) (h:wpAnyH Tryz.prog md ops Q S fuel (listed.setIfInBounds i true) { tmps:=a.tmps.setIfInBounds d undef,defers:=a.defers } w):wpAnyH Tryz.prog md ops Q S (fuel+1) listed a w :=
 wpAnyH_take hi hs hf hr (fun c a w h=>hQ c a _ w (by rw[qiz hd]at h;exact h)) (.inr ⟨hw,rfl⟩) hS (by rw[qiz hd];exact h)
theorem tj {fuel:Nat}{listed:Array Bool}{w:World}(i:Nat)(d:Tmp)(v:Value)(hS:S w)(h:wpAnyH Tryz.prog md ops Q S fuel (listed.setIfInBounds i true) { tmps:=a.tmps.setIfInBounds d v,defers:=a.defers } w)(hi:ops[i]? = some o:=by exact rfl)(hd:o.dst=some d:=by exact rfl)(hs:Region.noSelect ops=true:=by kernel_rfl)(hf:Region.free md ops listed i=true:=by kernel_rfl)(hr:(Region.ready md ops listed).contains i=true:=by kernel_rfl)
 (hQ:∀c (b:Act) (t:Array Value) w,Q (.panic c) { tmps:=t,defers:=b.defers } w->Q (.panic c) b w:=by exact fun _ _ _ _ h=>h) (hw:Region.wanted o (yielded ops a.tmps)=true:=by rfl) (hy:∀w,S w->(execOp a.eval o).run Tryz.prog w=.ok (.value v) w:=by intro w hS;simp[execOp,go_sem, *]):wpAnyH Tryz.prog md ops Q S (fuel+1) listed a w :=
 takeY d hi hd hs hf hr hQ hw hy hS h
theorem tn {fuel:Nat}{listed:Array Bool}{w:World}(i:Nat)(d:Tmp)(hS:S w)(h:wpAnyH Tryz.prog md ops Q S fuel (listed.setIfInBounds i true) { tmps:=a.tmps.setIfInBounds d undef,defers:=a.defers } w)(hi:ops[i]? = some o:=by exact rfl)(hd:o.dst=some d:=by exact rfl)(hs:Region.noSelect ops=true:=by kernel_rfl)(hf:Region.free md ops listed i=true:=by kernel_rfl)(hr:(Region.ready md ops listed).contains i=true:=by kernel_rfl)
 (hQ:∀c (b:Act) (t:Array Value) w,Q (.panic c) { tmps:=t,defers:=b.defers } w->Q (.panic c) b w:=by exact fun _ _ _ _ h=>h) (hw:Region.wanted o (yielded ops a.tmps)=false:=by rfl):wpAnyH Tryz.prog md ops Q S (fuel+1) listed a w :=
 takeN d hi hd hs hf hr hQ hw hS h
theorem callY {i:Nat}{fuel:Nat}{listed:Array Bool}{w:World}{f:FuncId}{args:Array Value}{R:Value->World->Prop}(d:Tmp)(hi:ops[i]? = some o)(hd:o.dst=some d)(hw:Region.wanted o (yielded ops a.tmps)=true)(hr:Region.ready md ops listed=[i])
 (hrun:(execOp a.eval o).run Tryz.prog w=.ok (.enter f args) w) (hc:Calls Tryz.prog f args w fun e w'=>∃v,e=.returned v/\R v w')
 (h:∀v w',R v w'->S w'/\wpAnyH Tryz.prog md ops Q S fuel (listed.setIfInBounds i true) { tmps:=a.tmps.setIfInBounds d v,defers:=a.defers } w'):wpAnyH Tryz.prog md ops Q S (fuel+1) listed a w:=by
 refine wpAnyH_ready hr (by simp) (AllReadyH.cons hi (fun K hK=>?_) AllReadyH.nil)
 rw[Yy hw]
 unfold Oper.wp
 rw[hrun,Oper.upon_enter]
 refine hc.mono ?_
 rintro e w' ⟨v,rfl,hR⟩
 obtain⟨h1,h2⟩:=h v w' hR
 show K (a.put o.dst v) w'
 rw[qiz hd]
 exact hK.out _ _ h1 (fun _=>h2)
theorem storeY {i:Nat}{fuel:Nat}{listed:Array Bool}{w w':World}{v:Next}(hi:ops[i]? = some o)(hw:Region.wanted o (yielded ops a.tmps)=true)(hr:Region.ready md ops listed=[i])
 (hd:o.dst=none) (hrun:(execOp a.eval o).run Tryz.prog w=.ok v w') (hv:v=.skip) (hS:S w') (h:wpAnyH Tryz.prog md ops Q S fuel (listed.setIfInBounds i true) a w'):wpAnyH Tryz.prog md ops Q S (fuel+1) listed a w:=by
 subst hv
 refine wpAnyH_ready hr (by simp) (AllReadyH.cons hi (fun K hK=>?_) AllReadyH.nil)
 rw[Yy hw]
 unfold Oper.wp
 rw[hrun,Oper.upon_skip,hd]
 exact hK.out _ _ hS (fun _=>h)
end
section
variable {md:Region.Mode} {ops:Array Oper} {Q:Exit->Act->World->Prop} {S:World->Prop} {o:Oper} {a:Act} {fuel:Nat} {listed:Array Bool} {i:Nat} {rs:List Nat} {w w':World}
theorem consCall {f:FuncId}{args:Array Value}{R:Value->World->Prop}(d:Tmp)(hi:ops[i]? = some o)(hd:o.dst=some d)(hw:Region.wanted o (yielded ops a.tmps)=true)
 (hrun:(execOp a.eval o).run Tryz.prog w=.ok (.enter f args) w) (hc:Calls Tryz.prog f args w fun e w'=>∃v,e=.returned v/\R v w')
 (h:∀v w',R v w'->S w'/\wpAnyH Tryz.prog md ops Q S fuel (listed.setIfInBounds i true) { tmps:=a.tmps.setIfInBounds d v,defers:=a.defers } w') (hs:AllReadyH Tryz.prog md ops Q S fuel listed a w rs):AllReadyH Tryz.prog md ops Q S fuel listed a w (i :: rs):=by
 refine AllReadyH.cons hi (fun K hK=>?_) hs
 rw[Yy hw]
 unfold Oper.wp
 rw[hrun,Oper.upon_enter]
 refine hc.mono ?_
 rintro e w' ⟨v,rfl,hR⟩
 obtain⟨h1,h2⟩:=h v w' hR
 show K (a.put o.dst v) w'
 rw[qiz hd]
 exact hK.out _ _ h1 (fun _=>h2)
theorem consRun {v:Value}(d:Tmp)(hi:ops[i]? = some o)(hd:o.dst=some d)(hw:Region.wanted o (yielded ops a.tmps)=true)
 (hrun:(execOp a.eval o).run Tryz.prog w=.ok (.value v) w') (hS:S w') (h:wpAnyH Tryz.prog md ops Q S fuel (listed.setIfInBounds i true) { tmps:=a.tmps.setIfInBounds d v,defers:=a.defers } w') (hs:AllReadyH Tryz.prog md ops Q S fuel listed a w rs):AllReadyH Tryz.prog md ops Q S fuel listed a w (i :: rs):=by
 refine AllReadyH.cons hi (fun K hK=>?_) hs
 rw[Yy hw]
 unfold Oper.wp
 rw[hrun]
 show K (a.put o.dst v) w'
 rw[qiz hd]
 exact hK.out _ _ hS (fun _=>h)
end
end Go.Proofs.YtebbgodlijlioaaGreatDoor
