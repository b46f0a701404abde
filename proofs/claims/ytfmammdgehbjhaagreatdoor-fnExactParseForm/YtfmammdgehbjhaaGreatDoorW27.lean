import Derived.Test.YtfmammdgehbjhaaGreatDoorW26
set_option maxRecDepth 100000
set_option maxHeartbeats 64000000
namespace Go.Proofs.YtfmammdgehbjhaaGreatDoor
open Go Go.RowKit
theorem thirteen {w:World}{b:Nat}{t:TypeId}{v0 v1 v2 v3 v4 v5 v6 v7 v8 v9 v10 v11 v12:Value}(h:Blk w b t [v0,v1,v2,v3,v4,v5,v6,v7,v8,v9,v10,v11,v12]):(w.cell? ⟨b,0,none⟩=some v0/\w.cell? ⟨b,1,none⟩=some v1/\w.cell? ⟨b,2,none⟩=some v2/\w.cell? ⟨b,3,none⟩=some v3/\w.cell? ⟨b,4,none⟩=some v4/\w.cell? ⟨b,5,none⟩=some v5/\w.cell? ⟨b,6,none⟩=some v6)/\(w.cell? ⟨b,7,none⟩=some v7/\w.cell? ⟨b,8,none⟩=some v8/\w.cell? ⟨b,9,none⟩=some v9/\w.cell? ⟨b,10,none⟩=some v10/\w.cell? ⟨b,11,none⟩=some v11/\w.cell? ⟨b,12,none⟩=some v12) :=
 ⟨⟨h.cell 0,h.cell 1,h.cell 2,h.cell 3,h.cell 4,h.cell 5,h.cell 6⟩,h.cell 7,h.cell 8,h.cell 9,h.cell 10,h.cell 11,h.cell 12⟩
section
variable {md:Region.Mode} {ops:Array Oper} {Q:Exit->Act->World->Prop} {S:World->Prop} {o:Oper} {a:Act} {fuel:Nat} {listed:Array Bool} {i:Nat} {rs:List Nat} {w:World}
theorem consPan {f:FuncId}{args:Array Value}{R:List PanicEntry->World->Prop}(hi:ops[i]? = some o)(hw:Region.wanted o (yielded ops a.tmps)=true)
 (hrun:(execOp a.eval o).run Tryz.prog w=.ok (.enter f args) w) (hc:Calls Tryz.prog f args w fun e w'=>∃ch,e=.panicked ch/\R ch w')
 (h:∀ch w',R ch w'->Q (.panic ch) a w') (hs:AllReadyH Tryz.prog md ops Q S fuel listed a w rs):AllReadyH Tryz.prog md ops Q S fuel listed a w (i :: rs):=by
 refine AllReadyH.cons hi (fun K hK=>?_) hs
 rw[Yn hw]
 unfold Oper.wp
 rw[hrun,Oper.upon_enter]
 refine hc.mono ?_
 rintro e w' ⟨ch,rfl,hR⟩
 exact h ch w' hR
end
theorem qbi {R:Nat}{w w':World}(h:Kp R w w')(o:Nat)(x:Value){G:Nat}(hG:w.heap.size<=G):Kp R w (w'.setCell ⟨G,o,none⟩ x):=⟨by simpa using h.size,fun k hk hR=>(heap_setCell_other w' ⟨G,o,none⟩ k x (by show k≠G;omega)).trans (h.same k hk hR)⟩
theorem row_kp {R:Nat}{w w':World}(h:Kp R w w'){G:Nat}(hG:w.heap.size<=G)(cells:Array Value):Kp R w (w'.setRow G cells):=⟨by simp[World.setRow];exact h.size,fun k hk hR=>(setRow_other w' G k cells (by omega)).trans (h.same k hk hR)⟩
theorem q04 {w0:World}{a:Option Addr}{c:Nat}{l:List ByteArray}{w:World}{v:Value}{ns:List Nx}(hc:RC w0 a l)(hcl:l.length<=c)(hy:TyT w0)(h0:pk l 0=kField)(h:Rdr w0 a c l w 1 0 v ns) :
 Calls Tryz.prog 104 #[Yd w0.heap.size 0] w (FldO w0 a c l w):=by
 have hl:=hc.len
 have HC:=h_ hc;have HY:=h_ hy;have H0:=h_ h0
 have hRw:w0.heap.size<w.heap.size:=h.blk.lt
 have hb0:=(bR w.heap.size w).alloc (nR _) (.cells Jf 96)
 have hk0:=Blk.new w 96 Jf
 obtain⟨W0,hW0⟩:=Nq (w.alloc (.cells Jf 96))
 rw[hW0]at hb0 hk0
 have HN:=h_ (qcz (by omega) hc (h.mono hb0))
 have HK0:=h_ hk0;have HP0:=h_ (Kp.of_below w0.heap.size hb0)
 clear hc hy h0 h hb0 hk0
 go_enter Tryz.func104,Tryz.ntmps104
 go_wp2_with fail
 try rw[hW0]
 refine HN.u.mono ?_
 rintro e W1 (⟨hg1,rfl,hr,hk⟩ | ⟨hg1,rfl,hb⟩)
 case inr=>exact⟨rfl,.inr ⟨fun x hp=>(by have:=(hp.f H0.u).1;rw[hg1]at this;cases this),rfl,hb⟩⟩
 obtain⟨G3,hG3⟩:=Nq W1.heap.size
 have hG23:w.heap.size<G3:=by have:=hk.size;have:=HK0.u.lt;omega
 have HG1:=h_ hg1
 have hP1:=HP0.u.trans hk
 have hK1:=hk.blk HK0.u (by omega)
 have hb1:=(bR W1.heap.size W1).alloc (nR _) (.cells Jf 96)
 have hB3:=Blk.new W1 96 Jf
 obtain⟨X1,hX1⟩:=Nq (W1.alloc (.cells Jf 96))
 rw[hX1]at hb1 hB3
 rw[hG3]at hB3
 have HB3:=h_ hB3
 have hb2:=q8i hb1 (g:=G3) (by omega) #[Ya 3,.string (pk l 1),Yb,Yb,Yc,Ya (0),Ya 0,Yb,Yb,Yb,Yb,Yc,Yb]
 have hB4:=hB3.rowS [Ya 3,.string (pk l 1),Yb,Yb,Yc,Ya (0),Ya 0,Yb,Yb,Yb,Yb,Yc,Yb]
 obtain⟨X2,hX2⟩:=Nq (X1.setRow G3 #[Ya 3,.string (pk l 1),Yb,Yb,Yc,Ya (0),Ya 0,Yb,Yb,Yb,Yb,Yc,Yb])
 have hJ:FsJ w0 a c l w.heap.size w.heap.size G3 X2 2 [Ya 3,.string (pk l 1),Yb,Yb,Yc,Ya (0),Ya 0,Yb,Yb,Yb,Yb,Yc,Yb] [] Yb [] Yb [] Yb [] Yb [] Yb [] Yb []:=⟨⟨_,_,hr.mono (by rw[<- hX2];exact hb2)⟩,by rw[<- hX2];exact hK1.mono hb2 hK1.lt,by rw[<- hX2];exact hB4,hRw,nR _,hG23,⟨rfl,.inl ⟨rfl,rfl⟩⟩,⟨rfl,.inl ⟨rfl,rfl⟩⟩,⟨rfl,.inl ⟨rfl,rfl⟩⟩,⟨rfl,.inl ⟨rfl,rfl⟩⟩,⟨rfl,.inl ⟨rfl,rfl⟩⟩,⟨rfl,.inl ⟨rfl,rfl⟩⟩,(by show w.heap.size<=X2.heap.size;rw[<- hX2];have:=hb2.size;omega)⟩
 have HJ:=h_ hJ
 have HP:Hi (Kp w0.heap.size w X2):=h_ (hP1.trans (Kp.of_below _ (by rw[<- hX2];exact hb2)))
 obtain⟨v1,n1,hrd⟩:=hJ.rd
 have HT:=h_ (q27 (by omega) HC.u HY.u hrd)
 clear hr hk hb1 hB3 hb2 hB4 hJ hP1 hK1 HN HK0 HP0 hg1 hrd
 go_wp2_with ((try rw[hX1]);(try rw[hG3]);refine stR HB3.u ?_)
 try rw[hX2]
 clear hX1 hX2 HB3 hW0 hG3
 refine HT.u.mono ?_
 rintro e W2 (⟨ht,rfl,hr,hk⟩ | ⟨ht,rfl,hb⟩)
 case inr=>exact⟨rfl,.inr ⟨fun x hp=>(hp.f H0.u).2.1 ht,rfl,hb⟩⟩
 have hJ:=HJ.u.kp hk hr
 have HTy:=h_ ht
 obtain⟨⟨s0,s1,s2,s3,s4,s5,s6⟩,s7,s8,s9,s10,s11,s12⟩:=thirteen hJ.b3
 have f5:=hJ.b3.free 5
 have hP:=qbi (HP.u.trans hk) 5 (Ya ((tyO (pk l 2):Nat):Int)) (show w.heap.size<=G3 by omega)
 have hJ2:FsJ w0 a c l w.heap.size w.heap.size G3 (W2.setCell ⟨G3,5,none⟩ (Ya ((tyO (pk l 2):Nat):Int))) 3 [Ya 3,.string (pk l 1),Yb,Yb,Yc,Ya (((tyO (pk l 2):Nat):Int)),Ya 0,Yb,Yb,Yb,Yb,Yc,Yb] [] Yb [] Yb [] Yb [] Yb [] Yb [] Yb []:=hJ.set 5 (Ya ((tyO (pk l 2):Nat):Int))
 obtain⟨X3,hX3⟩:=Nq (W2.setCell ⟨G3,5,none⟩ (Ya ((tyO (pk l 2):Nat):Int)))
 rw[hX3]at hP hJ2
 replace HP:=h_ hP;replace HJ:=h_ hJ2
 obtain⟨v2,n2,hrd⟩:=hJ2.rd
 have HA:=h_ (qhw kAt (by omega) HC.u hrd)
 clear hrd hJ hJ2 hP ht hr hk HT
 go_wp2_with fail
 try rw[hX3]
 clear s0 s1 s2 s3 s4 s5 s6 s7 s8 s9 s10 s11 s12 f5 hX3
 refine HA.u.mono ?_
 rintro e W3 (⟨ha,rfl,hr,hk⟩ | ⟨ha,rfl,hb⟩)
 case inr=>exact⟨rfl,.inr ⟨fun x hp=>ha (hp.f H0.u).2.2.1,rfl,hb⟩⟩
 have HAt:=h_ ha
 replace HJ:=h_ (HJ.u.kp hk hr);replace HP:=h_ (HP.u.trans hk)
 have HS:=h_ (qiv kAuto (by omega) HC.u hr)
 clear ha hr hk HA
 go_wp2_with fail
 refine HS.u.mono ?_
 rintro e W4 ⟨rfl,hr,hk⟩
 replace HJ:=h_ (HJ.u.kp hk hr);replace HP:=h_ (HP.u.trans hk)
 have HR:=h_ hr
 clear hr hk HS
 go_upto_if 15 with fail
 go_cut [] from 4 (fun wx=>∃vl,FsJ w0 a c l w.heap.size w.heap.size G3 wx 5 (J5 (pk l 1) vl (((tyO (pk l 2):Nat):Int))) [] vl (if pk l 4=kAuto then [] else [pk l 4]) Yb [] Yb [] Yb [] Yb [] Yb []/\Kp w0.heap.size w wx/\(pk l 4=kAuto∨goodN (pk l 4)=true)/\5<=l.length)
 case first =>
  as_aux_lemma =>
   by_cases hq:pk l 4=kAuto
   . have hd:decide (pk l 4=kAuto)=true:=Yh hq
     rw[Yn hq]at HJ;have h5:4<l.length:=pk_ne hq (by decide);have HX:Hi (∃vl,FsJ w0 a c l w.heap.size w.heap.size G3 W4 5 (J5 (pk l 1) vl (((tyO (pk l 2):Nat):Int))) [] vl (if pk l 4=kAuto then [] else [pk l 4]) Yb [] Yb [] Yb [] Yb [] Yb []/\Kp w0.heap.size w W4/\(pk l 4=kAuto∨goodN (pk l 4)=true)/\5<=l.length):=h_ ⟨_,by rw[Yn hq];exact HJ.u,HP.u,.inl hq,h5⟩;rw[hd];clear hq hd;go_wp2_with fail;go_meet;exact HX.u
   . have hd:decide (pk l 4=kAuto)=false:=Yg hq
     rw[Yi hq]at HJ HR;have HQ:=h_ hq;have HN:=h_ (qcz (by omega) HC.u HR.u);rw[hd];clear hq hd;go_wp2_with fail;refine HN.u.mono ?_;rintro e W5 (⟨hg4,rfl,hr,hk⟩ | ⟨hg4,rfl,hb⟩)
     case inr=>exact⟨rfl,.inr ⟨fun x hp=>(by
      rcases (hp.f H0.u).2.2.2 with h | h
      . exact HQ.u h
      . rw[hg4]at h;cases h),rfl,hb⟩⟩
     have hJ:=(HJ.u.kp hk hr).lab (pk l 4);have hP:=HP.u.trans (hk.trans (Kp.of_below w0.heap.size ((bR W5.heap.size W5).alloc (nR _) (.cells #[.string (pk l 4)] 9))));obtain⟨⟨s0,s1,s2,s3,s4,s5,s6⟩,s7,s8,s9,s10,s11,s12⟩:=thirteen hJ.b3;have f2:=hJ.b3.free 2;have hP2:=qbi hP 2 (.slice (some ⟨W5.heap.size,0,none⟩) 1 1) (show w.heap.size<=G3 by omega);have hJ2:=hJ.set 2 (.slice (some ⟨W5.heap.size,0,none⟩) 1 1);have h5:4<l.length:=pk_ne rfl (qge hg4);have HX:Hi (∃vl,FsJ w0 a c l w.heap.size w.heap.size G3 ((W5.alloc (.cells #[.string (pk l 4)] 9)).setCell ⟨G3,2,none⟩ (.slice (some ⟨W5.heap.size,0,none⟩) 1 1)) 5 (J5 (pk l 1) vl (((tyO (pk l 2):Nat):Int))) [] vl (if pk l 4=kAuto then [] else [pk l 4]) Yb [] Yb [] Yb [] Yb [] Yb []/\Kp w0.heap.size w ((W5.alloc (.cells #[.string (pk l 4)] 9)).setCell ⟨G3,2,none⟩ (.slice (some ⟨W5.heap.size,0,none⟩) 1 1))/\(pk l 4=kAuto∨goodN (pk l 4)=true)/\5<=l.length):=h_ ⟨_,by rw[Yi HQ.u];exact hJ2,hP2,.inr hg4,h5⟩;clear hJ hJ2 hP hP2 hr hk HN hg4;go_wp2_with fail;go_meet;exact HX.u
 case rest =>
  obtain⟨vl,hJ,hP,h4,h5⟩:=hcut;obtain⟨lb,hlb⟩:∃lb,(if pk l 4=kAuto then [] else [pk l 4])=lb:=⟨_,rfl⟩;rw[hlb]at hJ;have HLb:=h_ hlb;clear hlb;clear HJ HP HR;have HJ:=h_ hJ;have HP:=h_ hP;have H4:=h_ h4;have HLl:Hi (∀q,vl.ownBlock=some q->q<wc.heap.size):=h_ fun q e=>(qi2 hJ.ol e).2;obtain⟨B2,hB2⟩:=Nq wc.heap.size;have hwB:w.heap.size<=B2:=by rw[<- hB2];exact hP.size
  rw[hB2]at HLl;clear hJ hP h4;go_wp2_with fail;go_loopw [20] (fun _ wr=>∃(i:Nat) (r:List ByteArray) (vr:Value),5<=i/\i<=l.length/\r.length<=i/\l.drop 5=byT r++l.drop i/\(∀b,b∈r->goodN b=true)/\FsJ w0 a c l w.heap.size w.heap.size G3 wr i [Ya 3,.string (pk l 1),vl,vr,Yc,Ya (((tyO (pk l 2):Nat):Int)),Ya 0,Yb,Yb,Yb,Yb,Yc,Yb] [] vl lb vr r Yb [] Yb [] Yb [] Yb []/\OwnS wr B2 vr r/\Kp w0.heap.size w wr/\B2<=wr.heap.size) (fun _ wr=>l.length - rdI wr w0.heap.size)
  case atStart=>exact⟨5,[],_,nR _,h5,by simp,rfl,(fun b hb=>by cases hb),HJ.u,⟨rfl,.inl ⟨rfl,rfl⟩⟩,HP.u,by omega⟩
  case round =>
   obtain⟨i,r,vr,hi5,hil,hrl,hd,hgr,hJ,hOr,hP,hB2w⟩:=hrel;clear HJ HP;obtain⟨v3,n3,hrd⟩:=hJ.rd;have HMs:Hi (rdI wr w0.heap.size=i):=h_ hrd.rdI;have HS:=h_ (qiv kBy (by omega) HC.u hrd);have HJ:=h_ hJ;have HP:=h_ hP;have HD:=h_ hd;have HG:=h_ hgr;have HOr:=h_ hOr;clear hrd hJ hP hd hgr hOr;go_wp2_with fail;refine HS.u.mono ?_;rintro e W6 ⟨rfl,hr,hk⟩
   try dsimp only
   replace HJ:=h_ (HJ.u.kp hk hr);replace HP:=h_ (HP.u.trans hk);replace HOr:=h_ (hk.ownS HOr.u (by omega));have hB6:B2<=W6.heap.size:=Yt hB2w hk.size;have HR6:=h_ hr;clear hr hk HS;by_cases hq:pk l i=kBy
   case neg =>
    as_aux_lemma =>
     rw[Yi hq]at HJ HR6;rw[Yg hq];have HCl:Hi (Cl l r i):=h_ ⟨H0.u,HD.u,hq⟩;clear hq HMs HD;have HU:=h_ (qdy kIs (by decide) hil HC.u hcl HR6.u);clear HR6;go_wp2_with fail;refine HU.u.mono ?_;rintro e W8 (⟨hru,rfl,hb⟩ | ⟨ei,i1,vi,v5,n5,hru1,rfl,k1,k2,k3,how,hr,hk⟩)
     case inl=>exact⟨rfl,.inr ⟨HCl.u.no1 hru,rfl,hb⟩⟩
     have HU1:=h_ hru1;have hJ:=HJ.u.rI hk hr how;obtain⟨ai,ci,hvi,-⟩:=how.nods;subst hvi;obtain⟨ar,cr,hvr,-,-⟩:=hJ.orr.strs;subst hvr;obtain⟨⟨s0,s1,s2,s3,s4,s5,s6⟩,s7,s8,s9,s10,s11,s12⟩:=thirteen hJ.b3;have f8:=hJ.b3.free 8;have hP:=qbi (HP.u.trans hk) 8 (.slice ai ei.length ci) (show w.heap.size<=G3 by omega);have hJ2:FsJ w0 a c l w.heap.size w.heap.size G3 (W8.setCell ⟨G3,8,none⟩ (.slice ai ei.length ci)) i1 [Ya 3,.string (pk l 1),vl,.slice ar r.length cr,Yc,Ya (((tyO (pk l 2):Nat):Int)),Ya 0,Yb,.slice ai ei.length ci,Yb,Yb,Yc,Yb] ([]++[.slice ai ei.length ci]) vl lb (.slice ar r.length cr) r (.slice ai ei.length ci) ei Yb [] Yb [] Yb []:=hJ.set 8 (.slice ai ei.length ci);obtain⟨X9,hX9⟩:=Nq (W8.setCell ⟨G3,8,none⟩ (.slice ai ei.length ci));rw[hX9]at hP hJ2;replace HP:=h_ hP;replace HJ:=h_ hJ2;clear hru1 hJ how hr hk hP hJ2 HU HOr;go_upto_region 9 with fail
     try rw[hX9]
     clear s0 s1 s2 s3 s4 s5 s6 s7 s8 s9 s10 s11 s12 f8 hX9;go_cut [] from 4 (fun wx=>wx=X9/\(r=[]∨ei=[]))
     case first =>
      as_aux_lemma =>
       obtain⟨⟨s0,s1,s2,s3,s4,s5,s6⟩,s7,s8,s9,s10,s11,s12⟩:=thirteen HJ.u.b3;by_cases hr0:r=[]
       . have hl0:((r.length:Int)==0)=true:=by simp[hr0]
         go_wp2_with fail;refine(qfe _ _).mono ?_;rintro e w9 ⟨rfl,hw9⟩;subst hw9;go_wp2_with fail;go_meet;exact⟨rfl,.inl hr0⟩
       . have hl0:((r.length:Int)==0)=false:=by simp[hr0]
         by_cases he0:ei=[]
         . have hl1:((ei.length:Int)==0)=true:=by simp[he0]
           go_wp2_with fail;refine(qfe _ _).mono ?_;rintro e w9 ⟨rfl,hw9⟩;subst hw9;go_wp2_with fail;go_meet;exact⟨rfl,.inr he0⟩
         . have hl1:((ei.length:Int)==0)=false:=by simp[he0]
           have HNo:=h_ (HCl.u.no1b HU1.u hr0 he0);have HBe:Hi (Below w0.heap.size w0 X9):=h_ (HJ.u.rd.elim fun v h'=>h'.elim fun ns h'=>h'.bel);go_wp2_with fail;refine(ask_no _ _).mono ?_;rintro e w9 ⟨rfl,hw9⟩;subst hw9;exact⟨rfl,.inr ⟨HNo.u,rfl,HBe.u⟩⟩
     case rest =>
      obtain⟨hw9,hre⟩:=hcut;subst hw9;have HRe:=h_ hre;clear hre;obtain⟨v6,n6,hrd⟩:=HJ.u.rd;have HU:=h_ (qdy kWhen (by decide) k2 HC.u hcl hrd);clear hrd;go_wp2_with fail;refine HU.u.mono ?_;rintro e Wa (⟨hru,rfl,hb⟩ | ⟨eh,i2,vh,v7,n7,hru2,rfl,k4,k5,k6,how,hr,hk⟩)
      case inl=>exact⟨rfl,.inr ⟨HCl.u.no2 HU1.u hru,rfl,hb⟩⟩
      have HU2:=h_ hru2;have hJ:=HJ.u.rH hk hr how;obtain⟨ah,ch,hvh,-⟩:=how.nods;subst hvh;obtain⟨⟨s0,s1,s2,s3,s4,s5,s6⟩,s7,s8,s9,s10,s11,s12⟩:=thirteen hJ.b3;have f9:=hJ.b3.free 9;have hP:=qbi (HP.u.trans hk) 9 (.slice ah eh.length ch) (show w.heap.size<=G3 by omega);have hJ2:FsJ w0 a c l w.heap.size w.heap.size G3 (Wa.setCell ⟨G3,9,none⟩ (.slice ah eh.length ch)) i2 [Ya 3,.string (pk l 1),vl,.slice ar r.length cr,Yc,Ya (((tyO (pk l 2):Nat):Int)),Ya 0,Yb,.slice ai ei.length ci,.slice ah eh.length ch,Yb,Yc,Yb] ([]++[.slice ai ei.length ci]++[.slice ah eh.length ch]) vl lb (.slice ar r.length cr) r (.slice ai ei.length ci) ei (.slice ah eh.length ch) eh Yb [] Yb []:=hJ.set 9 (.slice ah eh.length ch);obtain⟨Xa,hXa⟩:=Nq (Wa.setCell ⟨G3,9,none⟩ (.slice ah eh.length ch));rw[hXa]at hP hJ2;replace HP:=h_ hP;replace HJ:=h_ hJ2;obtain⟨v8,n8,hrd⟩:=hJ2.rd;replace HU:=h_ (qdy kValid (by decide) k5 HC.u hcl hrd);clear hru2 hJ how hr hk hP hJ2 hrd;go_wp2_with fail
      try rw[hXa]
      clear s0 s1 s2 s3 s4 s5 s6 s7 s8 s9 s10 s11 s12 f9 hXa;refine HU.u.mono ?_;rintro e Wb (⟨hru,rfl,hb⟩ | ⟨ev,i3,vv,v9,n9,hru3,rfl,k7,k8,k9,how,hr,hk⟩)
      case inl=>exact⟨rfl,.inr ⟨HCl.u.no3 HU1.u HU2.u hru,rfl,hb⟩⟩
      have HU3:=h_ hru3;have hJ:=HJ.u.rV hk hr how;obtain⟨av,cv,hvv,-⟩:=how.nods;subst hvv;obtain⟨⟨s0,s1,s2,s3,s4,s5,s6⟩,s7,s8,s9,s10,s11,s12⟩:=thirteen hJ.b3;have f10:=hJ.b3.free 10;have hP:=qbi (HP.u.trans hk) 10 (.slice av ev.length cv) (show w.heap.size<=G3 by omega);have hJ2:FsJ w0 a c l w.heap.size w.heap.size G3 (Wb.setCell ⟨G3,10,none⟩ (.slice av ev.length cv)) i3 [Ya 3,.string (pk l 1),vl,.slice ar r.length cr,Yc,Ya (((tyO (pk l 2):Nat):Int)),Ya 0,Yb,.slice ai ei.length ci,.slice ah eh.length ch,.slice av ev.length cv,Yc,Yb] ([]++[.slice ai ei.length ci]++[.slice ah eh.length ch]++[.slice av ev.length cv]) vl lb (.slice ar r.length cr) r (.slice ai ei.length ci) ei (.slice ah eh.length ch) eh (.slice av ev.length cv) ev Yb []:=hJ.set 10 (.slice av ev.length cv);obtain⟨Xb,hXb⟩:=Nq (Wb.setCell ⟨G3,10,none⟩ (.slice av ev.length cv));rw[hXb]at hP hJ2;replace HP:=h_ hP;replace HJ:=h_ hJ2;obtain⟨y0,y1,y2⟩:Xb.cell? ⟨G3,10,none⟩=some (.slice av ev.length cv)/\True/\True:=⟨hJ2.b3.cell 10,trivial,trivial⟩;clear hru3 hJ how hr hk hP hJ2 HU;go_upto_if 57 with fail
      try rw[hXb]
      clear s0 s1 s2 s3 s4 s5 s6 s7 s8 s9 s10 s11 s12 f10 hXb y0 y1 y2;go_cut [] from 4 (fun wx=>∃(i4:Nat) (sa:ByteArray),FsJ w0 a c l w.heap.size w.heap.size G3 wx i4 [Ya 3,.string (pk l 1),vl,.slice ar r.length cr,Yc,Ya (((tyO (pk l 2):Nat):Int)),Ya 0,Yb,.slice ai ei.length ci,.slice ah eh.length ch,.slice av ev.length cv,.string sa,Yb] ([]++[.slice ai ei.length ci]++[.slice ah eh.length ch]++[.slice av ev.length cv]) vl lb (.slice ar r.length cr) r (.slice ai ei.length ci) ei (.slice ah eh.length ch) eh (.slice av ev.length cv) ev Yb []/\Kp w0.heap.size w wx/\i4<=l.length/\((ev=[]/\i4=i3/\sa=⟨#[]⟩)∨(ev≠[]/\i4=i3+2/\pk l i3=kSays/\StrT (pk l (i3+1)) sa)))
      case first =>
       as_aux_lemma =>
        by_cases he0:ev=[]
        . have hl1:¬ (0:Int)<(ev.length:Int):=by simp[he0]
          go_wp2_with fail;go_meet;exact⟨i3,⟨#[]⟩,HJ.u,HP.u,k8,.inl ⟨he0,rfl,rfl⟩⟩
        . have hl1:(0:Int)<(ev.length:Int):=by have:=V0.2 he0;omega
          have HE:=h_ he0;obtain⟨va,na,hrd⟩:=HJ.u.rd;have HN:=h_ (qhw kSays (by omega) HC.u hrd);clear hrd he0;go_wp2_with fail;refine HN.u.mono ?_;rintro e Wc (⟨hsy,rfl,hr,hk⟩ | ⟨hsy,rfl,hb⟩)
          case inr=>exact⟨rfl,.inr ⟨HCl.u.no4 HU1.u HU2.u HU3.u HE.u (.inl hsy),rfl,hb⟩⟩
          have HSy:=h_ hsy;replace HJ:=h_ (HJ.u.kp hk hr);replace HP:=h_ (HP.u.trans hk);have HTx:=h_ (qen (by omega) HC.u hr);clear hsy hr hk HN;go_wp2_with fail;refine HTx.u.mono ?_;rintro e Wd (⟨sa9,hst,rfl,hr,hk⟩ | ⟨hst,rfl,hb⟩)
          case inr=>exact⟨rfl,.inr ⟨HCl.u.no4 HU1.u HU2.u HU3.u HE.u (.inr hst),rfl,hb⟩⟩
          have h4l:i3+1<l.length:=pk_ne rfl hst.ne;have hJ:=HJ.u.kp hk hr;obtain⟨⟨s0,s1,s2,s3,s4,s5,s6⟩,s7,s8,s9,s10,s11,s12⟩:=thirteen hJ.b3;have f11:=hJ.b3.free 11;have HX:Hi (∃(i4:Nat) (sa:ByteArray),FsJ w0 a c l w.heap.size w.heap.size G3 (Wd.setCell ⟨G3,11,none⟩ (.string sa9)) i4 [Ya 3,.string (pk l 1),vl,.slice ar r.length cr,Yc,Ya (((tyO (pk l 2):Nat):Int)),Ya 0,Yb,.slice ai ei.length ci,.slice ah eh.length ch,.slice av ev.length cv,.string sa,Yb] ([]++[.slice ai ei.length ci]++[.slice ah eh.length ch]++[.slice av ev.length cv]) vl lb (.slice ar r.length cr) r (.slice ai ei.length ci) ei (.slice ah eh.length ch) eh (.slice av ev.length cv) ev Yb []/\Kp w0.heap.size w (Wd.setCell ⟨G3,11,none⟩ (.string sa9))/\i4<=l.length/\((ev=[]/\i4=i3/\sa=⟨#[]⟩)∨(ev≠[]/\i4=i3+2/\pk l i3=kSays/\StrT (pk l (i3+1)) sa))):=h_ ⟨i3+2,sa9,hJ.set 11 (.string sa9),qbi (HP.u.trans hk) 11 (.string sa9) (show w.heap.size<=G3 by omega),by omega,.inr ⟨HE.u,rfl,HSy.u,hst⟩⟩;clear hJ hr hk hst HTx;go_wp2_with fail;go_meet;exact HX.u
      case rest =>
       obtain⟨i4,sa,hJ,hP,k10,hsa⟩:=hcut;clear HJ HP;have HSa:=h_ hsa;have HJ:=h_ hJ;have HP:=h_ hP;obtain⟨vb,nb,hrd⟩:=hJ.rd;have HU:=h_ (qdy kMust (by decide) k10 HC.u hcl hrd);clear hJ hP hsa hrd;go_wp2_with fail;refine HU.u.mono ?_;rintro e We (⟨hru,rfl,hb⟩ | ⟨em,i5,vm,ve,ne,hru4,rfl,k11,k12,k13,how,hr,hk⟩)
       case inl=>exact⟨rfl,.inr ⟨HCl.u.no5 HU1.u HU2.u HU3.u (by
        rcases HSa.u with ⟨h1,h2,-⟩ | ⟨h1,h2,-⟩
        . exact .inl ⟨h1,h2⟩
        . exact .inr ⟨h1,h2⟩) hru,rfl,hb⟩⟩
       have hJ:=HJ.u.rM hk hr how;obtain⟨am,cm,hvm,-⟩:=how.nods;subst hvm;obtain⟨al,cl,hvl,-,-⟩:=hJ.ol.strs;subst hvl;have HClr:Hi (ClR (l.drop i) ⟨ei,eh,ev,sa,em⟩ (l.drop i5)):=h_ (by
        rcases HSa.u with ⟨h1,h2,h3⟩ | ⟨h1,h2,h3,h4⟩
        . exact .no HU1.u HU2.u HU3.u h1 h3 (by rw[<- h2];exact hru4)
        . have g1:i3+1<l.length:=pk_ne rfl h4.ne
          have e3:l.drop i3=kSays :: pk l (i3+1) :: l.drop (i3+2):=(by rw[qia (show i3<l.length by omega),h3,qia g1]);have g3:=HU3.u;rw[e3]at g3;exact .yes HU1.u HU2.u g3 h1 h4 (by rw[<- h2];exact hru4))
       obtain⟨⟨s0,s1,s2,s3,s4,s5,s6⟩,s7,s8,s9,s10,s11,s12⟩:=thirteen hJ.b3;have f12:=hJ.b3.free 12;have hP:=qbi (HP.u.trans hk) 12 (.slice am em.length cm) (show w.heap.size<=G3 by omega);have hJ2:FsJ w0 a c l w.heap.size w.heap.size G3 (We.setCell ⟨G3,12,none⟩ (.slice am em.length cm)) i5 [Ya 3,.string (pk l 1),.slice al lb.length cl,.slice ar r.length cr,Yc,Ya (((tyO (pk l 2):Nat):Int)),Ya 0,Yb,.slice ai ei.length ci,.slice ah eh.length ch,.slice av ev.length cv,.string sa,.slice am em.length cm] ([]++[.slice ai ei.length ci]++[.slice ah eh.length ch]++[.slice av ev.length cv]++[.slice am em.length cm]) (.slice al lb.length cl) lb (.slice ar r.length cr) r (.slice ai ei.length ci) ei (.slice ah eh.length ch) eh (.slice av ev.length cv) ev (.slice am em.length cm) em:=hJ.set 12 (.slice am em.length cm);obtain⟨Xe,hXe⟩:=Nq (We.setCell ⟨G3,12,none⟩ (.slice am em.length cm));rw[hXe]at hP hJ2;replace HP:=h_ hP;replace HJ:=h_ hJ2;have HB2:=h_ hJ2.b2;unfold zero13 at HB2;obtain⟨⟨z0,z1,z2,z3,z4,z5,z6⟩,z7,z8,z9,z10,z11,z12⟩:=thirteen hJ2.b3;clear hJ how hr hk hP hJ2 HU hru4;go_upto_region 16 with fail
       try rw[hXe]
       go_wp2_with (refine stR HB2.u ?_);have hB5:=HB2.u.rowS [Ya 3,.string (pk l 1),.slice al lb.length cl,.slice ar r.length cr,Yc,Ya (((tyO (pk l 2):Nat):Int)),Ya 0,Yb,.slice ai ei.length ci,.slice ah eh.length ch,.slice av ev.length cv,.string sa,.slice am em.length cm];obtain⟨⟨p0,p1,p2,p3,p4,p5,p6⟩,p7,p8,p9,p10,p11,p12⟩:=thirteen hB5;have hk2:=rw_k Xe w.heap.size #[Ya 3,.string (pk l 1),.slice al lb.length cl,.slice ar r.length cr,Yc,Ya (((tyO (pk l 2):Nat):Int)),Ya 0,Yb,.slice ai ei.length ci,.slice ah eh.length ch,.slice av ev.length cv,.string sa,.slice am em.length cm];have hJf:=HJ.u;obtain⟨vf,nf',hrd⟩:=hJf.rd;have hbl:=hJf.b2;have hrd2:Rdr w0 a c l (Xe.setRow w.heap.size #[Ya 3,.string (pk l 1),.slice al lb.length cl,.slice ar r.length cr,Yc,Ya (((tyO (pk l 2):Nat):Int)),Ya 0,Yb,.slice ai ei.length ci,.slice ah eh.length ch,.slice av ev.length cv,.string sa,.slice am em.length cm]) i5 0 vf nf':=⟨hrd.blk.rowS_other (by omega) _,qi3 hrd.own hbl (by decide) hk2,q8i hrd.bel (by omega) _⟩;exact bodyPost_ret (v:=.agg #[Ya 3,.string (pk l 1),.slice al lb.length cl,.slice ar r.length cr,Yc,Ya (((tyO (pk l 2):Nat):Int)),Ya 0,Yb,.slice ai ei.length ci,.slice ah eh.length ch,.slice av ev.length cv,.string sa,.slice am em.length cm]) (by simp[results,Tryz.results104,go_sem,p0,p1,p2,p3,p4,p5,p6,p7,p8,p9,p10,p11,p12]) rfl (.inl ⟨r,⟨ei,eh,ev,sa,em⟩,i,i5,_,⟨HG1.u,HTy.u,HAt.u,H4.u⟩,HG.u,HCl.u,HClr.u,HRe.u,k12,rfl,⟨_,_,hrd2⟩,⟨_,_,_,_,_,_,rfl,(by
        have:=qi3 hJf.ol hbl (by decide) hk2;rw[q9n,HLb.u];exact this),qi3 hJf.orr hbl (by decide) hk2,qi3 hJf.oi hbl (by decide) hk2,qi3 hJf.oh hbl (by decide) hk2,qi3 hJf.ov hbl (by decide) hk2,qi3 hJf.om hbl (by decide) hk2,(by have:=hJf.asc;simpa [World.setRow] using this)⟩,row_kp HP.u (nR _) _⟩)
   case pos =>
    as_aux_lemma =>
     rw[Yn hq]at HJ HR6;rw[Yh hq];have hil2:i<l.length:=pk_ne hq (by decide);have HDi:Hi (l.drop i=kBy :: l.drop (i+1)):=h_ (by rw[qia hil2,hq]);clear hq;go_wp2_with fail;have hdr:=(bR W6.heap.size W6).drew;have HN:=h_ (qcz (by omega) HC.u (HR6.u.mono hdr));have hJd:=HJ.u.mono hdr;obtain⟨⟨s0,s1,s2,s3,s4,s5,s6⟩,s7,s8,s9,s10,s11,s12⟩:=thirteen hJd.b3;cases hg:goodN (pk l (i+1))
     case false =>
      have HNo:Hi (∀x,¬ PrtS l x):=h_ fun x hp=>by
       obtain⟨u,-,-,h3⟩:=hp.fld H0.u HD.u (fun b R' e=>by
        rw[HDi.u]at e;injection e with _ e
        have h2:i+1<l.length:=Yv fun hc=>by rw[Yx (by omega)]at e;cases e
        rw[qia h2]at e;injection e with e _
        rw[<- e];exact hg)
       exact h3 _ HDi.u
      have HN':Hi (Calls Tryz.prog 102 #[Yd w0.heap.size 0] W6.drew fun e w'=>∃ch,e=.panicked ch/\(.panicked ch=flt 3/\Below w0.heap.size w0 w')):=h_ (HN.u.mono (by
       rintro e w' (⟨h,-⟩ | ⟨-,rfl,hb⟩)
       . rw[hg]at h;cases h
       . exact⟨_,rfl,rfl,hb⟩))
      clear hg HN hJd hdr;refine wp_region_held_drew (S:=fun _=>True) (by kernel_rfl) trivial (fun zz=>?_);refine tj 0 22 (Yd G3 3) zz ?_;refine tj 2 24 (Yd w0.heap.size 0) zz ?_;simp only[sX,sY,sZ];refine wpAnyH_ready (rs:=[1,3]) (by kernel_rfl) (by simp) (consRun (v:=vr) (w':=W6.drew) 23 rfl rfl (by rfl) (by simp[execOp,go_sem,s3]) trivial ?oA (consPan (f:=102) (args:=#[Yd w0.heap.size 0]) (R:=fun ch w'=>.panicked ch=flt 3/\Below w0.heap.size w0 w') rfl (by rfl) (by simp[execOp,go_sem]) HN'.u ?oB AllReadyH.nil))
      case oA =>
       simp only[sX,sY,sZ];refine panY (i:=3) (f:=102) (args:=#[Yd w0.heap.size 0]) (R:=fun ch w'=>.panicked ch=flt 3/\Below w0.heap.size w0 w') rfl (by rfl) (by kernel_rfl) (by simp[execOp,go_sem]) HN'.u ?_;rintro ch W7 ⟨hch,hb⟩;refine⟨rfl,?_⟩;rw[hch];exact .inr ⟨HNo.u,rfl,hb⟩
      case oB =>
       rintro ch W7 ⟨hch,hb⟩;refine⟨rfl,?_⟩;rw[hch];exact .inr ⟨HNo.u,rfl,hb⟩
     case true =>
      have HN':Hi (Calls Tryz.prog 102 #[Yd w0.heap.size 0] W6.drew fun e w'=>∃vz,e=.returned vz/\(vz=.string (pk l (i+1))/\Rdr w0 a c l w' (i+1+1) 0 v3 n3/\Kp w0.heap.size W6.drew w')):=h_ (HN.u.mono (by
       rintro e w' (⟨-,rfl,h1,h2⟩ | ⟨h,-⟩)
       . exact⟨_,rfl,rfl,h1,h2⟩
       . rw[hg]at h;cases h))
      have hi2:i+1<l.length:=pk_ne rfl (qge hg);have HJd:=h_ hJd;have HOd:Hi (OwnS W6.drew B2 vr r):=h_ (HOr.u.keep hdr);have HPd:Hi (Kp w0.heap.size w W6.drew):=h_ (HP.u.trans (Kp.of_below _ hdr));have HDn:Hi (l.drop 5=byT (r++[pk l (i+1)])++l.drop (i+2)):=h_ (by rw[qbk,HD.u,HDi.u,qia hi2]);have HGn:Hi (∀b,b∈r++[pk l (i+1)]->goodN b=true):=h_ fun b hb=>by
       rcases Zg.1 hb with h | h
       . exact HG.u b h
       . rw[Y7.1 h];exact hg
      clear hg HN hJd hdr HD HDi HG HJ HOr HP;obtain⟨i0,hi0,hz0,hz1,hz2⟩:=info_parts qcl;refine wp_region_held_drew (S:=fun _=>True) (by kernel_rfl) trivial (fun zz=>?_);refine tj 0 22 (Yd G3 3) zz ?_;refine tj 2 24 (Yd w0.heap.size 0) zz ?_;simp only[sX,sY,sZ];refine wpAnyH_ready (rs:=[1,3]) (by kernel_rfl) (by simp) (consRun (v:=vr) (w':=W6.drew) 23 rfl rfl (by rfl) (by simp[execOp,go_sem,s3]) trivial ?oA (consCall (f:=102) (args:=#[Yd w0.heap.size 0]) (R:=fun vz w'=>vz=.string (pk l (i+1))/\Rdr w0 a c l w' (i+1+1) 0 v3 n3/\Kp w0.heap.size W6.drew w') 25 rfl rfl (by rfl) (by simp[execOp,go_sem]) HN'.u ?oB AllReadyH.nil))
      case' oA =>
       simp only[sX,sY,sZ];refine callY (i:=3) (f:=102) (args:=#[Yd w0.heap.size 0]) (R:=fun vz w'=>vz=.string (pk l (i+1))/\Rdr w0 a c l w' (i+1+1) 0 v3 n3/\Kp w0.heap.size W6.drew w') 25 rfl rfl (by rfl) (by kernel_rfl) (by simp[execOp,go_sem]) HN'.u ?_;rintro vz W7 ⟨rfl,hr7,hk7⟩;refine⟨trivial,?_⟩;simp only[sX,sY,sZ];refine runZ (i:=4) (v:=.slice (some ⟨W7.heap.size,0,none⟩) 1 1) (w':=W7.alloc (.cells #[.string (pk l (i+1))] 9)) 26 rfl rfl (by rfl) (by kernel_rfl) (by simp[execOp,go_sem]) trivial ?_;simp only[sX,sY,sZ]
      case' oB =>
       rintro vz W7 ⟨rfl,hr7,hk7⟩;refine⟨trivial,?_⟩;simp only[sX,sY,sZ];have t3:=(hk7.blk HJd.u.b3 (by omega)).cell 3;simp only[Yp,Zb]at t3;have t4:=((hk7.blk HJd.u.b3 (by omega)).alloc (.cells #[.string (pk l (i+1))] 9)).cell 3;simp only[Yp,Zb]at t4;refine wpAnyH_ready (rs:=[1,4]) (by kernel_rfl) (by simp) (consRun (v:=vr) (w':=W7) 23 rfl rfl (by rfl) (by simp[execOp,go_sem,t3]) trivial ?oC (consRun (v:=.slice (some ⟨W7.heap.size,0,none⟩) 1 1) (w':=W7.alloc (.cells #[.string (pk l (i+1))] 9)) 26 rfl rfl (by rfl) (by simp[execOp,go_sem]) trivial ?oD AllReadyH.nil))
       case' oC =>
        simp only[sX,sY,sZ];refine runZ (i:=4) (v:=.slice (some ⟨W7.heap.size,0,none⟩) 1 1) (w':=W7.alloc (.cells #[.string (pk l (i+1))] 9)) 26 rfl rfl (by rfl) (by kernel_rfl) (by simp[execOp,go_sem]) trivial ?_;simp only[sX,sY,sZ]
       case' oD =>
        simp only[sX,sY,sZ];refine runZ (i:=1) (v:=vr) (w':=W7.alloc (.cells #[.string (pk l (i+1))] 9)) 23 rfl rfl (by rfl) (by kernel_rfl) (by simp[execOp,go_sem,t4]) trivial ?_;simp only[sX,sY,sZ]
      all_goals
       as_aux_lemma =>
        have hJ7:=HJd.u.kp hk7 hr7;have hba:=(bR W7.heap.size W7).alloc (nR _) (.cells #[.string (pk l (i+1))] 9);have hJ8:=hJ7.mono hba;have hO8:OwnS (W7.alloc (.cells #[.string (pk l (i+1))] 9)) B2 vr r:=(hk7.ownS HOd.u (by omega)).keep hba;have hP8:=(HPd.u.trans hk7).trans (Kp.of_below _ hba);have h7b:B2<=W7.heap.size:=Yt hB6 hk7.size;refine appY (i:=5) 27 rfl rfl rfl (by kernel_rfl) (.tmp 23) (.tmp 26) 22 rfl B2 9 i0 _ 1 16 Tryz.underlying22 hi0 hz0 hz1 hz2 rfl (by omega) vr r.length (stV r) rfl hO8 ⟨W7.heap.size,0,none⟩ 1 1 [.string (pk l (i+1))] rfl rfl (qbm W7 9 _) (by simp[Value.oneCell']) (by omega) (by unfold maxLen;omega) (by omega) (by simp;omega) _ rfl ?_;intro q cap W9 ho hgw hq9 hq10;refine⟨trivial,?_⟩;simp only[sX,sY,sZ];refine tj 6 28 (Yd G3 3) zz ?_;simp only[sX,sY,sZ];have hne:vl.ownBlock=none∨vl.ownBlock≠vr.ownBlock:=by
         cases hv:vl.ownBlock with
         | none=>exact .inl rfl
         | some k=>exact .inr fun e=>by have:=HLl.u k hv;have:=(qi2 hO8 e.symm).1;omega
        have hJ9:=hJ8.grow hgw hne (OwnS.low (OwnS.snoc ho) hwB);have hP9:=hP8.grown hgw (fun k e=>by have:=(qi2 hO8 e).1;omega);obtain⟨⟨x0,x1,x2,x3,x4,x5,x6⟩,x7,x8,x9,x10,x11,x12⟩:=thirteen hJ9.b3;have xf:=hJ9.b3.free 3;have HO9:=h_ (qi3 (OwnS.snoc ho) hJ9.b3 (by decide) (cel_k W9 G3 3 (.slice (some ⟨q,0,none⟩) (r.length+1) cap)));have HP9:=h_ (qbi hP9 3 (.slice (some ⟨q,0,none⟩) (r.length+1) cap) (show w.heap.size<=G3 by omega));have HJ9:=h_ (hJ9.set 3 (.slice (some ⟨q,0,none⟩) (r.length+1) cap));have HM9:Hi (rdI (W9.setCell ⟨G3,3,none⟩ (.slice (some ⟨q,0,none⟩) (r.length+1) cap)) w0.heap.size=i+2):=h_ (HJ9.u.rd.elim fun v h'=>h'.elim fun ns h'=>h'.rdI);have hB9:B2<=(W9.setCell ⟨G3,3,none⟩ (.slice (some ⟨q,0,none⟩) (r.length+1) cap)).heap.size:=(by have:=hgw.size;simp at this⊢;omega);refine storeY (i:=7) (w':=W9.setCell ⟨G3,3,none⟩ (.slice (some ⟨q,0,none⟩) (r.length+1) cap)) rfl (by rfl) (by kernel_rfl) rfl (by simp[execOp,go_sem,x3,xf]) rfl trivial ?_;refine wpAnyH_done (by kernel_rfl) ?_ _;obtain⟨X,hX⟩:=Nq (W9.setCell ⟨G3,3,none⟩ (.slice (some ⟨q,0,none⟩) (r.length+1) cap));rw[hX]at HO9 HP9 HJ9 HM9 hB9⊢;clear hX hJ7 hba hJ8 hO8 hP8 ho hgw hq9 hq10 hne hJ9 hP9 x0 x1 x2 x3 x4 x5 x6 x7 x8 x9 x10 x11 x12 xf zz hr7 hk7 s0 s1 s2 s3 s4 s5 s6 s7 s8 s9 s10 s11 s12;go_wp2_with fail;go_roundw
        case rel=>first | exact⟨i+2,r++[pk l (i+1)],_,by omega,by omega,by rw[Yf];simp;omega,HDn.u,HGn.u,HJ9.u,HO9.u,HP9.u,hB9⟩ | ((repeat apply Exists.intro);exact⟨⟨i+2,r++[pk l (i+1)],_,by omega,by omega,by rw[Yf];simp;omega,HDn.u,HGn.u,HJ9.u,HO9.u,HP9.u,hB9⟩,rfl⟩)
        case measure=>rw[HM9.u,HMs.u];omega
end Go.Proofs.YtfmammdgehbjhaaGreatDoor
