import Derived.Test.YtfmammdgehbjhaaGreatDoorW31
import Derived.Test.YtfmammdgehbjhaaGreatDoorW30
import Derived.Test.YtfmammdgehbjhaaGreatDoorShelf3
set_option maxRecDepth 100000
set_option maxHeartbeats 64000000
namespace Go.Proofs.YtfmammdgehbjhaaGreatDoor
open Go Go.RowKit
theorem q6q (a:Option Addr)(c:Nat)(l:List Nx)(w:World)(hm:l.length<=9223372036854775807)(ha:NodL w a l)(hf:∀k,k<l.length->Fit (nf l k))(hw:Wrds w)(hp:Pow w) :
 Calls Tryz.prog 105 #[.slice a l.length c] w fun r w'=>r=.returned (.bool (vxL l))/\Below w.heap.size w w':=by
 have HC:=h_ (q5h a l.length c (nf l) w hm ha hf hw hp)
 obtain⟨t,ht⟩:=Nq ((if vxB (nf l) l.length then (top (nf l) l.length).t else ⟨#[]⟩))
 obtain⟨q,hq⟩:=Nq (vxB (nf l) l.length)
 rw[ht,hq]at HC
 rw[show vxL l=q from hq]
 clear ht hq ha hf hw hp
 go_enter Tryz.func105,Tryz.ntmps105
 go_wp2_with fail
 refine HC.u.mono ?_
 rintro x w1 ⟨rfl,hb⟩
 have HB:=h_ hb
 clear hb HC
 go_wp2_with fail
 go_ret
 exact⟨rfl,HB.u⟩
theorem q5l (f:Fl)(A:FA)(w:World) :
 Calls Tryz.prog 70 #[fV f A] w fun r w'=>r=.returned (.agg #[.slice A.i f.is.length A.ic,.slice A.h f.wh.length A.hc,.slice A.v f.va.length A.vc,.slice A.u f.mu.length A.uc])/\Below w.heap.size w w':=by
 obtain⟨ab,abc,ai,aic,ah,ahc,av,avc,au,auc⟩:=A
 unfold fV
 dsimp only
 go_enter Tryz.func70,Tryz.ntmps70
 go_wp2_with fail
 exact bodyPost_ret (v:=.agg #[.slice ai f.is.length aic,.slice ah f.wh.length ahc,.slice av f.va.length avc,.slice au f.mu.length auc]) (by simp[results,Tryz.results70,go_sem]) rfl ⟨rfl,((bR _ _).alloc (nR _) _).alloc (by simp) _⟩
def ruleAt (f:Fl)(k:Nat):List Nx:=if k=0 then f.is else if k=1 then f.wh else if k=2 then f.va else f.mu
structure Tabs (w:World):Prop where
 ws:Wrds w
 pw:Pow w
theorem Tabs.mono {w w':World}(h:Tabs w)(hb:Below w.heap.size w w'):Tabs w':=⟨h.ws.mono hb,h.pw.mono hb⟩
theorem q0a (f:Fl)(A:FA)(w:World)(hf:FitF f)(ha:FSl w f A)(ht:Tabs w) :
 Calls Tryz.prog 63 #[fV f A] w fun r w'=>r=.returned (.bool (ruleOk f.is&&ruleOk f.wh&&ruleOk f.va&&ruleOk f.mu))/\Below w.heap.size w w':=by
 obtain⟨ab,abc,ai,aic,ah,ahc,av,avc,au,auc⟩:=A
 have HCr:=h_ fun W=>q5l f ⟨ab,abc,ai,aic,ah,ahc,av,avc,au,auc⟩ W
 obtain⟨q,hq⟩:=Nq ((ruleOk f.is&&ruleOk f.wh&&ruleOk f.va&&ruleOk f.mu))
 rw[hq]
 have HQ:=h_ hq
 unfold fV at HCr⊢
 dsimp only at HCr⊢
 have HK:=h_ (Blk.new w 52 (Jd f ab abc ai aic ah ahc av avc au auc))
 have HB:=h_ ((bR w.heap.size w).alloc (nR _) (.cells (Jd f ab abc ai aic ah ahc av avc au auc) 52))
 obtain⟨W0,hW0⟩:=Nq (w.alloc (.cells (Jd f ab abc ai aic ah ahc av avc au auc) 52))
 rw[hW0]at HK HB
 have HS:=h_ (ha.mono HB.u);have HT:=h_ (ht.mono HB.u);have HF:=h_ hf
 clear ha ht hf hq
 obtain⟨y0,y1,y2,y3,y4,y5,y6,y7,y8⟩:=nine HK.u
 go_enter Tryz.func63,Tryz.ntmps63
 go_wp2_with fail
 try rw[hW0]
 refine(HCr.u W0).mono ?_
 rintro r W1 ⟨rfl,hb1⟩
 replace HS:=h_ (HS.u.mono hb1);replace HT:=h_ (HT.u.mono hb1);replace HB:=mT HB hb1
 clear hW0 y0 y1 y2 y3 y4 y5 y6 y7 y8 hb1 HCr HK
 have HR:Hi (∀k:Nat,k<4->∀W,Below W1.heap.size W1 W->∃a c,(∀W',(Instr.index 107 (.agg (#[Value.slice ai f.is.length aic,.slice ah f.wh.length ahc,.slice av f.va.length avc,.slice au f.mu.length auc]:Array Value)) (Ya k)).run Tryz.prog W'=.ok (.slice a (ruleAt f k).length c) W')/\(ruleAt f k).length<=9223372036854775807/\Calls Tryz.prog 105 #[.slice a (ruleAt f k).length c] W fun r w'=>r=.returned (.bool (vxL (ruleAt f k)))/\Below W.heap.size W w'):=h_ fun k hk W hb=>by
  have S:=HS.u.mono hb;have T:=HT.u.mono hb;have F:=HF.u;obtain rfl | rfl | rfl | rfl:k=0∨k=1∨k=2∨k=3:=by omega
  . exact⟨ai,aic,fun W'=>by simp[Instr.index,run_underlying Tryz.underlying107,asIntOf,go_sem,ruleAt],F.il,q6q ai aic f.is W F.il S.i F.i T.ws T.pw⟩
  . exact⟨ah,ahc,fun W'=>by simp[Instr.index,run_underlying Tryz.underlying107,asIntOf,go_sem,ruleAt],F.hl,q6q ah ahc f.wh W F.hl S.h F.h T.ws T.pw⟩
  . exact⟨av,avc,fun W'=>by simp[Instr.index,run_underlying Tryz.underlying107,asIntOf,go_sem,ruleAt],F.vl,q6q av avc f.va W F.vl S.v F.v T.ws T.pw⟩
  . exact⟨au,auc,fun W'=>by simp[Instr.index,run_underlying Tryz.underlying107,asIntOf,go_sem,ruleAt],F.ul,q6q au auc f.mu W F.ul S.u F.u T.ws T.pw⟩
 have HX:Hi (∀k,k<4->ruleOk (ruleAt f k)=false->q=false):=h_ fun k hk h=>by
  rw[<- HQ.u];obtain rfl | rfl | rfl | rfl:k=0∨k=1∨k=2∨k=3:=by omega
  all_goals
   simp only[ruleAt]at h;simp at h;simp[h]
 have HY:Hi ((∀k,k<4->ruleOk (ruleAt f k)=true)->q=true):=h_ fun h=>by
  rw[<- HQ.u,show ruleOk f.is=true from h 0 (by omega),show ruleOk f.wh=true from h 1 (by omega),show ruleOk f.va=true from h 2 (by omega),show ruleOk f.mu=true from h 3 (by omega)];rfl
 clear HQ HF HS HT
 obtain⟨rs,hrs⟩:=Nq ((#[Value.slice ai f.is.length aic,.slice ah f.wh.length ahc,.slice av f.va.length avc,.slice au f.mu.length auc]:Array Value))
 rw[hrs]at HR⊢
 clear hrs
 go_wp2_with fail
 go_loopw [7] (fun i wr=>∃k:Nat,k<=4/\i=Ya k/\(∀j,j<k->ruleOk (ruleAt f j)=true)/\Below W1.heap.size W1 wr) (fun i _=>4 - (intOf i).toNat)
 case atStart=>exact⟨0,by omega,rfl,fun j hj=>absurd hj (nL _),bR _ _⟩
 case round =>
  obtain⟨k,hk,rfl,hall,hb⟩:=hrel;have HL:=h_ hall;have HB1:=h_ hb;clear hall hb;by_cases hlt:k<4
  . have hlt':(k:Int)<4:=by omega
    obtain⟨a,c,hget,hlen,hC⟩:=HR.u k hlt wr HB1.u;have HC:=h_ hC;have HF1:Hi (ruleOk (ruleAt f k)=false->q=false):=h_ (HX.u k hlt);have HG1:Hi (ruleOk (ruleAt f k)=true->∀j,j<k+1->ruleOk (ruleAt f j)=true):=h_ fun h j hj=>by
     by_cases ej:j=k
     . subst ej;exact h
     . exact HL.u j (by omega)
    have hro:ruleOk (ruleAt f k)=(decide ((ruleAt f k).length=0)||vxL (ruleAt f k)):=rfl;generalize ruleAt f k=l at *;generalize vxL l=v at *;generalize ruleOk l=ro at *;clear hC;by_cases h0:l.length=0
    . have h0':¬ (0:Int)<l.length:=by omega
      have HG2:=h_ (HG1.u (by rw[hro,h0];rfl));clear hro h0;go_wp2_with fail;go_roundw
      case rel=>first | exact⟨k+1,by omega,by go_num,HG2.u,HB1.u⟩ | ((repeat apply Exists.intro);exact⟨⟨k+1,by omega,by go_num,HG2.u,HB1.u⟩,rfl⟩)
      case measure=>simp[intOf];omega
    . have h0':(0:Int)<l.length:=by omega
      replace hro:ro=v:=(by rw[hro,Yg h0,Bool.false_or]);subst hro;clear h0;go_wp2_with fail;refine HC.u.mono ?_;rintro e W2 ⟨rfl,hb2⟩;have HB2:=mT HB1 hb2;clear hb2 hget;cases ro
      . have HX2:=h_ (HF1.u rfl)
        go_wp2_with fail;go_ret;exact⟨qdx HX2.u.symm,HB.u.trans (HB2.u.mono HB.u.size)⟩
      . have HG2:=h_ (HG1.u rfl)
        go_wp2_with fail;go_roundw
        case rel=>first | exact⟨k+1,by omega,by go_num,HG2.u,HB2.u⟩ | ((repeat apply Exists.intro);exact⟨⟨k+1,by omega,by go_num,HG2.u,HB2.u⟩,rfl⟩)
        case measure=>simp[intOf];omega
  . obtain rfl:k=4:=by omega
    have HX2:Hi (q=true):=h_ (HY.u HL.u);go_wp2_with fail;go_ret;exact⟨qdx HX2.u.symm,HB.u.trans (HB1.u.mono HB.u.size)⟩
def lstS (m:Fm)(k:Nat):List ByteArray:=if k=1 then m.L else if k=2 then [] else if k=3 then rNames m else fNames m
def cntS (m:Fm)(k:Nat):Nat:=if k=1 then m.L.length else if k=2 then m.P.length else if k=3 then m.R.length else m.F.length
def limS (k:Nat):Nat:=if k=1 then 32 else if k=2 then 256 else if k=3 then 64 else 200
def rulS (x:Sx):Bool:=ruleOk x.u.is&&ruleOk x.u.wh&&ruleOk x.u.va&&ruleOk x.u.mu
def mkS (m:Fm)(x:Sx):Fm:=if x.kind=1 then { m with L:=m.L++[x.name] } else if x.kind=2 then { m with P:=m.P++[(((ixN m.L x.name:Nat):Int),((ixN m.L x.other:Nat):Int))] } else if x.kind=3 then { m with R:=m.R++[⟨x.name,((ixN m.L x.other:Nat):Int)⟩] } else { m with F:=m.F++[⟨x.name,x.typ,if x.auto=true then -1 else ((ixN m.L x.other:Nat):Int),x.bys.map fun b=>((ixN (rNames m) b:Nat):Int),x.u.is,x.u.wh,x.u.va,x.u.sa,x.u.mu⟩] }
section
variable {m:Fm} {last:Nat} {x:Sx} {T:List ByteArray}
theorem addS_4 (h:x.kind<last):addS m last x=.inl 4:=by unfold addS;rw[Yn h]
theorem addS_5 (hx:StG T x)(h:¬ x.kind<last)(h5:limS x.kind<=cntS m x.kind):addS m last x=.inl 5:=by
 unfold addS limS cntS at *
 rw[Yi h]
 rcases hx.kinds with e | e | e | e <;> rw[e]at h5⊢ <;> simp at h5⊢ <;> intro hc <;> omega
theorem StG.plain (hx:StG T x)(h:x.kind≠4):x.bys=[]/\x.u=ru0:=by
 cases hx with
 | label=>exact⟨rfl,rfl⟩
 | below=>exact⟨rfl,rfl⟩
 | role=>exact⟨rfl,rfl⟩
 | auto=>exact absurd rfl h
 | field=>exact absurd rfl h
theorem addS_6 (hx:StG T x)(h:¬ x.kind<last)(h5:¬ limS x.kind<=cntS m x.kind)(h6:memB (nmS x) (lstS m x.kind)=true∨¬ x.bys.Nodup):addS m last x=.inl 6:=by
 rcases hx.kinds with e | e | e | e
 . have hb:=(hx.plain (by omega)).1
   unfold addS limS cntS lstS nmS at *;rw[Yi h];rw[e]at h5 h6⊢;rw[hb]at h6;simp at h5 h6⊢;rw[Yi (by omega),Yn h6]
 . have hb:=(hx.plain (by omega)).1
   unfold lstS at h6;rw[e,hb]at h6;simp[memB]at h6
 . have hb:=(hx.plain (by omega)).1
   unfold addS limS cntS lstS nmS at *;rw[Yi h];rw[e]at h5 h6⊢;rw[hb]at h6;simp at h5 h6⊢;rw[Yi (by omega),Yn h6]
 . unfold addS limS cntS lstS nmS at *
   rw[Yi h];rw[e]at h5 h6⊢;simp at h5 h6⊢;rw[Yi (by omega),Yn (by rcases h6 with h | h;exact .inl h;exact .inr h)]
theorem all_lb (h:x.kind=2):((lbS x).all fun y=>memB y m.L)=(memB x.name m.L&&memB x.other m.L):=by unfold lbS;rw[Yn h];simp
theorem addS_7 (hx:StG T x)(h:¬ x.kind<last)(h5:¬ limS x.kind<=cntS m x.kind)(h6:¬ (memB (nmS x) (lstS m x.kind)=true∨¬ x.bys.Nodup))(h7:(((lbS x).all fun y=>memB y m.L)&&x.bys.all fun y=>memB y (rNames m))=false):addS m last x=.inl 7:=by
 rcases hx.kinds with e | e | e | e
 . have hb:=(hx.plain (by omega)).1
   unfold lbS at h7;rw[e,hb]at h7;simp at h7
 . have hb:=(hx.plain (by omega)).1
   rw[all_lb e,hb]at h7;unfold addS limS cntS at *;rw[Yi h];rw[e]at h5⊢;simp at h5 h7⊢;rw[Yi (by omega),Yi (by rintro⟨a,b⟩;rw[h7 a]at b;cases b)]
 . have hb:=(hx.plain (by omega)).1
   unfold lbS at h7;rw[e,hb]at h7;unfold addS limS cntS lstS nmS at *;rw[Yi h];rw[e]at h5 h6⊢;simp at h5 h6 h7⊢;rw[Yi (by omega),Yi (by rw[h6.1];decide),Yi (by rw[h7];decide)]
 . have hl:((lbS x).all fun y=>memB y m.L)=(x.auto||memB x.other m.L):=by
    unfold lbS;rw[e];cases x.auto <;> simp
   rw[hl]at h7;unfold addS limS cntS lstS nmS at *;rw[Yi h];rw[e]at h5 h6⊢;rw[h7];simp at h5 h6⊢;rw[Yi (by omega),Yi (by rw[h6.1];simp[h6.2])]
theorem addS_8 (hx:StG T x)(h:¬ x.kind<last)(h5:¬ limS x.kind<=cntS m x.kind)(h6:¬ (memB (nmS x) (lstS m x.kind)=true∨¬ x.bys.Nodup))(h7:(((lbS x).all fun y=>memB y m.L)&&x.bys.all fun y=>memB y (rNames m))=true)(h8:rulS x=false):addS m last x=.inl 8:=by
 by_cases e:x.kind=4
 . have hl:((lbS x).all fun y=>memB y m.L)=(x.auto||memB x.other m.L):=by
    unfold lbS;rw[e];cases x.auto <;> simp
   rw[hl]at h7;unfold addS limS cntS lstS nmS rulS at *;rw[Yi h];rw[e]at h5 h6⊢;rw[h7,h8];simp at h5 h6⊢;rw[Yi (by omega),Yi (by rw[h6.1];simp[h6.2])]
 . have hu:=(hx.plain e).2
   unfold rulS at h8;rw[hu]at h8;exact absurd h8 (by decide)
theorem addS_0 (hx:StG T x)(h:¬ x.kind<last)(h5:¬ limS x.kind<=cntS m x.kind)(h6:¬ (memB (nmS x) (lstS m x.kind)=true∨¬ x.bys.Nodup))(h7:(((lbS x).all fun y=>memB y m.L)&&x.bys.all fun y=>memB y (rNames m))=true)(h8:rulS x=true):addS m last x=.inr (mkS m x):=by
 rcases hx.kinds with e | e | e | e
 . unfold addS limS cntS lstS nmS mkS at *
   rw[Yi h];rw[e]at h5 h6⊢;simp at h5 h6⊢;rw[Yi (by omega),Yi (by rw[h6.1];decide)]
 . have hb:=(hx.plain (by omega)).1
   rw[all_lb e,hb]at h7;unfold addS limS cntS mkS at *;rw[Yi h];rw[e]at h5⊢;simp at h5 h7⊢;rw[Yi (by omega),Yn h7]
 . have hb:=(hx.plain (by omega)).1
   unfold lbS at h7;rw[e,hb]at h7;unfold addS limS cntS lstS nmS mkS at *;rw[Yi h];rw[e]at h5 h6⊢;simp at h5 h6 h7⊢;rw[Yi (by omega),Yi (by rw[h6.1];decide),Yn h7]
 . have hl:((lbS x).all fun y=>memB y m.L)=(x.auto||memB x.other m.L):=by
    unfold lbS;rw[e];cases x.auto <;> simp
   rw[hl]at h7;unfold addS limS cntS lstS nmS rulS mkS at *;rw[Yi h];rw[e]at h5 h6⊢;rw[h7,h8];simp at h5 h6⊢;rw[Yi (by omega),Yi (by rw[h6.1];simp[h6.2])]
end
theorem qcx (v:Value)(l:List ByteArray)(key:ByteArray)(hk:key.size<=9223372036854775807):∃c:Int,∀w,MpS w v l->(Instr.lookup 57 v (.string key) true).run Tryz.prog w=.ok (.tuple #[Ya c,.bool (memB key l)]) w:=by
 have hkey:keyOf Tryz.prog 9 (.string key)=some (kl key):=WideMaps.keyOf_string_mk Tryz.underlying9 hk
 by_cases h:∃w,MpS w v l
 . obtain⟨w0,h0⟩:=h
   rcases h0 with ⟨rfl,rfl⟩ | ⟨b,rfl,hp⟩
   . refine⟨0,fun w _=>?_⟩
     exact Maps.look_nil (w:=w) true (Maps.string_keyed Tryz.underlying9) Tryz.underlying57 (Tryz.zeroValue3 _) hkey
   . obtain⟨u,ps,-,hu⟩:=World.ownsMap.look_ok hp (Maps.string_keyed Tryz.underlying9) Tryz.underlying57 (Tryz.zeroValue3 _) (plainElem_int Tryz.underlying3 (by decide)) hkey
     obtain⟨c,rfl,hc,-⟩:=plainElem_int_inv Tryz.underlying3 hu;refine⟨c,fun w hw=>?_⟩;rcases hw with ⟨e,-⟩ | ⟨b',e,hp'⟩
     . cases e
     . cases e
       obtain⟨u',ps',hrun,hu'⟩:=World.ownsMap.look_ok hp' (Maps.string_keyed Tryz.underlying9) Tryz.underlying57 (Tryz.zeroValue3 _) (plainElem_int Tryz.underlying3 (by decide)) hkey;obtain⟨c',rfl,hc',-⟩:=plainElem_int_inv Tryz.underlying3 hu';have e1:=congrArg Prod.fst hc;have e2:=congrArg Prod.fst hc';rw[e1]at e2;injection e2 with e2
       injection e2 with _ e2
       subst e2;rw[has_mp]at hrun;exact hrun
 . exact⟨0,fun w hw=>absurd ⟨w,hw⟩ h⟩
def fvs (x:Fl × FA):List Value:=[.slice x.2.i x.1.is.length x.2.ic,.slice x.2.h x.1.wh.length x.2.hc,.slice x.2.v x.1.va.length x.2.vc,.slice x.2.u x.1.mu.length x.2.uc,.slice x.2.b x.1.bys.length x.2.bc]
def Mne (a b:Value):Prop:=∀g,a=.map (some g)->b≠.map (some g)
structure FRd (w:World)(R base:Nat)(m:Fm)(P:List (Fl × FA))(last:Nat)(v1 v2 v3 v4 m0 m1 m2 m3:Value):Prop where
 blk:Blk w R 60 (J2 v1 v2 v3 v4 ((last - 1:Nat):Int) (m.L.length:Nat) (m.P.length:Nat) (m.R.length:Nat) (m.F.length:Nat) m0 m1 m2 m3)
 own:OwM w base v1 v2 v3 v4 m P
 a0:MpS w m0 m.L
 a1:MpS w m1 []
 a2:MpS w m2 (rNames m)
 a3:MpS w m3 (fNames m)
 n01:Mne m0 m1
 n02:Mne m0 m2
 n03:Mne m0 m3
 n12:Mne m1 m2
 n13:Mne m1 m3
 n23:Mne m2 m3
 mb:∀g,(m0=.map (some g)∨m1=.map (some g)∨m2=.map (some g)∨m3=.map (some g))->base<=g
 asc:Asc base (P.flatMap fvs) w.heap.size
 lo:R<base
 hi:base<=w.heap.size
def KdL (w:World):Prop:=0<w.heap.size/\w.cell? ⟨0,0,none⟩=some (.int .i64 32)/\w.cell? ⟨0,1,none⟩=some (.int .i64 256)/\w.cell? ⟨0,2,none⟩=some (.int .i64 64)/\w.cell? ⟨0,3,none⟩=some (.int .i64 200)
theorem KdL.mono {w w':World}(h:KdL w)(hb:Below w.heap.size w w'):KdL w':=⟨Y3 h.1 hb.size,(hb.cell h.1).trans h.2.1,(hb.cell h.1).trans h.2.2.1,(hb.cell h.1).trans h.2.2.2.1,(hb.cell h.1).trans h.2.2.2.2⟩
def RfO (w:World)(R base:Nat)(m:Fm)(last:Nat)(l:List ByteArray)(e:Ending)(w':World):Prop:=(∃code:Int,e=flt code/\Below w.heap.size w w'/\(((∀x,¬ PrtS l x)/\code=3)∨∃(x:Sx) (c:Nat),PrtS l x/\addS m last x=.inl c/\c≠0/\code=c)) ∨
 ∃x P' v1 v2 v3 v4 m0 m1 m2 m3,PrtS l x/\addS m last x=.inr (mkS m x)/\e=.returned (.tuple #[])/\FRd w' R base (mkS m x) P' x.kind v1 v2 v3 v4 m0 m1 m2 m3/\Below R w w'/\∀g t cs,Blk w g t cs->t≠60->t≠9->t≠84->t≠86->t≠52->Blk w' g t cs
theorem Blk.ty {w:World}{g:Nat}{t t':TypeId}{cs cs':List Value}(h:Blk w g t cs)(h':Blk w g t' cs'):t=t':=by
 have e:some (Obj.cells cs.toArray t (0,0))=some (Obj.cells cs'.toArray t' (0,0)):=h.symm.trans h'
 injection e with e
 injection e
theorem Mne.sym {a b:Value}(h:Mne a b):Mne b a:=fun g e1 e2=>h g e2 e1
theorem MpS.same {w w':World}{v:Value}{l:List ByteArray}(h:MpS w v l)(hb:∀g,v=.map (some g)->w'.heap[g]? = w.heap[g]?):MpS w' v l:=by
 rcases h with h | ⟨b,h1,h2⟩
 . exact .inl h
 . exact .inr ⟨b,h1,h2.same (hb b h1)⟩
theorem MpS.lt {w:World}{v:Value}{l:List ByteArray}(h:MpS w v l){g:Nat}(hg:v=.map (some g)):g<w.heap.size:=by
 rcases h with ⟨h,-⟩ | ⟨b,h1,h2⟩
 . rw[h]at hg;cases hg
 . rw[h1]at hg
   cases hg;exact World.ownsMap.lt h2
theorem MpS.ne {w:World}{v:Value}{l:List ByteArray}(h:MpS w v l){g:Nat}{t:TypeId}{cs:List Value}(hb:Blk w g t cs):v≠.map (some g):=fun e=>by
 rcases h with ⟨h,-⟩ | ⟨b,h1,h2⟩
 . rw[h]at e;cases e
 . rw[h1]at e
   cases e;exact h2.ne hb rfl
theorem MpS.neo {w:World}{v:Value}{l:List ByteArray}(h:MpS w v l){base e size n:Nat}{u:Value}{xs:List Value}(ho:w.ownsRow base e size u n xs){g:Nat}(hg:v=.map (some g)):u.ownBlock≠some g:=by
 rcases h with ⟨h,-⟩ | ⟨b,h1,h2⟩
 . rw[h]at hg;cases hg
 . rw[h1]at hg
   cases hg;exact q5g ho h2
theorem qdh {w w':World}{R:Nat}{mv:Value}{l:List ByteArray}(h:Dsm R mv w w')(hm:MpS w mv l){cs:List Value}(hR:Blk w R 60 cs){base e size n:Nat}{v:Value}{xs:List Value}(ho:w.ownsRow base e size v n xs)(he:e≠60):w'.ownsRow base e size v n xs:=by
 refine⟨ho.1,?_⟩
 rcases ho.2 with h2 | ⟨g,cap,cur,h1,hg,hq,r⟩
 . exact .inl h2
 . exact .inr ⟨g,cap,cur,h1,hg,(h g (Zc.1 hq).1 (fun e'=>by
    subst e';rw[show w.heap[g]? = _ from hR]at hq;injection hq with hq
    injection hq with _ hq
    exact he hq.symm) (fun e'=>hm.neo ho e' (by rw[h1];rfl))).trans hq,r⟩
theorem OwM.dsm {w w':World}{R:Nat}{mv:Value}{l:List ByteArray}(hd:Dsm R mv w w')(hm:MpS w mv l){cs:List Value}(hR:Blk w R 60 cs){base:Nat}{v1 v2 v3 v4:Value}{m:Fm}{P:List (Fl × FA)}(h:OwM w base v1 v2 v3 v4 m P):OwM w' base v1 v2 v3 v4 m P :=
 ⟨qdh hd hm hR h.l (by decide),qdh hd hm hR h.p (by decide),qdh hd hm hR h.r (by decide),⟨qdh hd hm hR h.f.row (by decide),fun p hp=>⟨qdh hd hm hR (h.f.sub p hp).b (by decide),qdh hd hm hR (h.f.sub p hp).i (by decide),qdh hd hm hR (h.f.sub p hp).h (by decide),qdh hd hm hR (h.f.sub p hp).v (by decide),qdh hd hm hR (h.f.sub p hp).u (by decide)⟩⟩,h.e⟩
theorem FRd.mono {w w':World}{R base:Nat}{m:Fm}{P:List (Fl × FA)}{last:Nat}{v1 v2 v3 v4 m0 m1 m2 m3:Value}(h:FRd w R base m P last v1 v2 v3 v4 m0 m1 m2 m3)(hb:Below w.heap.size w w'):FRd w' R base m P last v1 v2 v3 v4 m0 m1 m2 m3 :=
 ⟨h.blk.mono hb h.blk.lt,h.own.mono hb,h.a0.mono hb,h.a1.mono hb,h.a2.mono hb,h.a3.mono hb,h.n01,h.n02,h.n03,h.n12,h.n13,h.n23,h.mb,h.asc.up hb.size,h.lo,Yt h.hi hb.size⟩
structure Mp4 (w:World)(R base:Nat)(m0 m1 m2 m3:Value)(l0 l1 l2 l3:List ByteArray):Prop where
 a0:MpS w m0 l0
 a1:MpS w m1 l1
 a2:MpS w m2 l2
 a3:MpS w m3 l3
 n01:Mne m0 m1
 n02:Mne m0 m2
 n03:Mne m0 m3
 n12:Mne m1 m2
 n13:Mne m1 m3
 n23:Mne m2 m3
 mb:∀g,(m0=.map (some g)∨m1=.map (some g)∨m2=.map (some g)∨m3=.map (some g))->base<=g
theorem mp_dsm {w w':World}{R base:Nat}{mk mj:Value}{l:List ByteArray}(hd:Dsm R mk w w')(hR:R<base)(hb:∀g,mj=.map (some g)->base<=g)(hn:Mne mk mj)(h:MpS w mj l):MpS w' mj l :=
 h.same fun g e=>hd g (h.lt e) (by have:=hb g e;omega) (fun e'=>hn g e' e)
theorem qhk {w:World}{mk mj mv:Value}{l:List ByteArray}(h:MpS w mj l)(hn:Mne mk mj)(hv:∀b,mv=.map (some b)->mk=.map (some b)∨w.heap.size<=b):Mne mv mj:=fun g e1 e2=>by
 rcases hv g e1 with h1 | h1
 . exact hn g h1 e2
 . have:=h.lt e2;omega
theorem Mp4.put0 {w w':World}{R base:Nat}{m0 m1 m2 m3 mv:Value}{l0 l1 l2 l3 l':List ByteArray}(h:Mp4 w R base m0 m1 m2 m3 l0 l1 l2 l3)(hR:R<base)(hb:base<=w.heap.size)(hd:Dsm R m0 w w')(hm:MpS w' mv l')(hv:∀b,mv=.map (some b)->m0=.map (some b)∨w.heap.size<=b):Mp4 w' R base mv m1 m2 m3 l' l1 l2 l3 :=
 ⟨hm,mp_dsm hd hR (fun g e=>h.mb g (.inr (.inl e))) (h.n01) h.a1,mp_dsm hd hR (fun g e=>h.mb g (.inr (.inr (.inl e)))) (h.n02) h.a2,mp_dsm hd hR (fun g e=>h.mb g (.inr (.inr (.inr e)))) (h.n03) h.a3,qhk h.a1 (h.n01) hv,qhk h.a2 (h.n02) hv,qhk h.a3 (h.n03) hv,h.n12,h.n13,h.n23,fun g e=>by
  rcases e with e | e | e | e
  . rcases hv g e with h1 | h1
    . exact h.mb g (.inl h1)
    . omega
  . exact h.mb g (.inr (.inl e))
  . exact h.mb g (.inr (.inr (.inl e)))
  . exact h.mb g (.inr (.inr (.inr e)))⟩
theorem Mp4.put1 {w w':World}{R base:Nat}{m0 m1 m2 m3 mv:Value}{l0 l1 l2 l3 l':List ByteArray}(h:Mp4 w R base m0 m1 m2 m3 l0 l1 l2 l3)(hR:R<base)(hb:base<=w.heap.size)(hd:Dsm R m1 w w')(hm:MpS w' mv l')(hv:∀b,mv=.map (some b)->m1=.map (some b)∨w.heap.size<=b):Mp4 w' R base m0 mv m2 m3 l0 l' l2 l3 :=
 ⟨mp_dsm hd hR (fun g e=>h.mb g (.inl e)) (h.n01.sym) h.a0,hm,mp_dsm hd hR (fun g e=>h.mb g (.inr (.inr (.inl e)))) (h.n12) h.a2,mp_dsm hd hR (fun g e=>h.mb g (.inr (.inr (.inr e)))) (h.n13) h.a3,(qhk h.a0 (h.n01.sym) hv).sym,h.n02,h.n03,qhk h.a2 (h.n12) hv,qhk h.a3 (h.n13) hv,h.n23,fun g e=>by
  rcases e with e | e | e | e
  . exact h.mb g (.inl e)
  . rcases hv g e with h1 | h1
    . exact h.mb g (.inr (.inl h1))
    . omega
  . exact h.mb g (.inr (.inr (.inl e)))
  . exact h.mb g (.inr (.inr (.inr e)))⟩
theorem Mp4.put2 {w w':World}{R base:Nat}{m0 m1 m2 m3 mv:Value}{l0 l1 l2 l3 l':List ByteArray}(h:Mp4 w R base m0 m1 m2 m3 l0 l1 l2 l3)(hR:R<base)(hb:base<=w.heap.size)(hd:Dsm R m2 w w')(hm:MpS w' mv l')(hv:∀b,mv=.map (some b)->m2=.map (some b)∨w.heap.size<=b):Mp4 w' R base m0 m1 mv m3 l0 l1 l' l3 :=
 ⟨mp_dsm hd hR (fun g e=>h.mb g (.inl e)) (h.n02.sym) h.a0,mp_dsm hd hR (fun g e=>h.mb g (.inr (.inl e))) (h.n12.sym) h.a1,hm,mp_dsm hd hR (fun g e=>h.mb g (.inr (.inr (.inr e)))) (h.n23) h.a3,h.n01,(qhk h.a0 (h.n02.sym) hv).sym,h.n03,(qhk h.a1 (h.n12.sym) hv).sym,h.n13,qhk h.a3 (h.n23) hv,fun g e=>by
  rcases e with e | e | e | e
  . exact h.mb g (.inl e)
  . exact h.mb g (.inr (.inl e))
  . rcases hv g e with h1 | h1
    . exact h.mb g (.inr (.inr (.inl h1)))
    . omega
  . exact h.mb g (.inr (.inr (.inr e)))⟩
theorem Mp4.put3 {w w':World}{R base:Nat}{m0 m1 m2 m3 mv:Value}{l0 l1 l2 l3 l':List ByteArray}(h:Mp4 w R base m0 m1 m2 m3 l0 l1 l2 l3)(hR:R<base)(hb:base<=w.heap.size)(hd:Dsm R m3 w w')(hm:MpS w' mv l')(hv:∀b,mv=.map (some b)->m3=.map (some b)∨w.heap.size<=b):Mp4 w' R base m0 m1 m2 mv l0 l1 l2 l' :=
 ⟨mp_dsm hd hR (fun g e=>h.mb g (.inl e)) (h.n03.sym) h.a0,mp_dsm hd hR (fun g e=>h.mb g (.inr (.inl e))) (h.n13.sym) h.a1,mp_dsm hd hR (fun g e=>h.mb g (.inr (.inr (.inl e)))) (h.n23.sym) h.a2,hm,h.n01,h.n02,(qhk h.a0 (h.n03.sym) hv).sym,h.n12,(qhk h.a1 (h.n13.sym) hv).sym,(qhk h.a2 (h.n23.sym) hv).sym,fun g e=>by
  rcases e with e | e | e | e
  . exact h.mb g (.inl e)
  . exact h.mb g (.inr (.inl e))
  . exact h.mb g (.inr (.inr (.inl e)))
  . rcases hv g e with h1 | h1
    . exact h.mb g (.inr (.inr (.inr h1)))
    . omega⟩
theorem Mp4.adm {w w':World}{R base:Nat}{m0 m1 m2 m3:Value}{l0 l1 l2 l3:List ByteArray}(h:Mp4 w R base m0 m1 m2 m3 l0 l1 l2 l3)(hR:R<base){v:Value}(ha:Adm R v w w'){base' e size n:Nat}{xs:List Value}(ho:w.ownsRow base' e size v n xs):Mp4 w' R base m0 m1 m2 m3 l0 l1 l2 l3 :=
 have st:∀{mj:Value} {l:List ByteArray},(∀g,mj=.map (some g)->base<=g)->MpS w mj l->MpS w' mj l:=fun hb hm=>hm.same fun g e=>ha g (hm.lt e) (by have:=hb g e;omega) (hm.neo ho e)
 ⟨st (fun g e=>h.mb g (.inl e)) h.a0,st (fun g e=>h.mb g (.inr (.inl e))) h.a1,st (fun g e=>h.mb g (.inr (.inr (.inl e)))) h.a2,st (fun g e=>h.mb g (.inr (.inr (.inr e)))) h.a3,h.n01,h.n02,h.n03,h.n12,h.n13,h.n23,h.mb⟩
theorem FRd.mp4 {w:World}{R base:Nat}{m:Fm}{P:List (Fl × FA)}{last:Nat}{v1 v2 v3 v4 m0 m1 m2 m3:Value}(h:FRd w R base m P last v1 v2 v3 v4 m0 m1 m2 m3):Mp4 w R base m0 m1 m2 m3 m.L [] (rNames m) (fNames m):=⟨h.a0,h.a1,h.a2,h.a3,h.n01,h.n02,h.n03,h.n12,h.n13,h.n23,h.mb⟩
theorem FRd.of {w:World}{R base:Nat}{m:Fm}{P:List (Fl × FA)}{last:Nat}{v1 v2 v3 v4 m0 m1 m2 m3:Value}(hb:Blk w R 60 (J2 v1 v2 v3 v4 ((last - 1:Nat):Int) (m.L.length:Nat) (m.P.length:Nat) (m.R.length:Nat) (m.F.length:Nat) m0 m1 m2 m3))(ho:OwM w base v1 v2 v3 v4 m P)(h:Mp4 w R base m0 m1 m2 m3 m.L [] (rNames m) (fNames m))(ha:Asc base (P.flatMap fvs) w.heap.size)(hl:R<base)(hh:base<=w.heap.size):FRd w R base m P last v1 v2 v3 v4 m0 m1 m2 m3:=⟨hb,ho,h.a0,h.a1,h.a2,h.a3,h.n01,h.n02,h.n03,h.n12,h.n13,h.n23,h.mb,ha,hl,hh⟩
theorem StG.sas {T:List ByteArray}{x:Sx}(h:StG T x):x.u.sa.size<=1000:=by
 cases h with
 | label=>exact nZ _
 | below=>exact nZ _
 | role=>exact nZ _
 | auto h1 h2 h3 h4 h5 h6=>exact q5f h5.says.1
 | field h1 h2 h3 h0 h4 h5 h6=>exact q5f h5.says.1
theorem StG.nm {T:List ByteArray}{x:Sx}(h:StG T x)(hk:x.kind≠2):(nmS x).toList.isEmpty=false/\nmS x=x.name:=by
 have hg:goodN x.name=true:=by
  cases h with
  | label h1=>exact h1
  | below h1=>exact h1
  | role h1=>exact h1
  | auto h1=>exact h1
  | field h1=>exact h1
 have e:nmS x=x.name:=by unfold nmS;rw[Yi hk]
 refine⟨?_,e⟩
 rw[e]
 cases h:x.name.toList.isEmpty with
 | false=>rfl
 | true =>
  have h1:x.name.toList=[]:=List.isEmpty_iff.1 h;have h2:=eqT x.name ⟨#[]⟩;rw[h1,show(⟨#[]⟩:ByteArray).toList=[] by first | rfl | decide | simp]at h2;have h3:decide (x.name=⟨#[]⟩)=true:=h2.symm.trans rfl;exact absurd (Ze h3) (qge hg)
end Go.Proofs.YtfmammdgehbjhaaGreatDoor
