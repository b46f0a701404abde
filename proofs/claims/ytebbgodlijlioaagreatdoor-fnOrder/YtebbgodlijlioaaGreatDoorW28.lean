import Derived.Test.YtebbgodlijlioaaGreatDoorW23
import Derived.Test.YtebbgodlijlioaaGreatDoorW18
import Derived.Test.YtebbgodlijlioaaGreatDoorW16
import Derived.Test.YtebbgodlijlioaaGreatDoorW22
import Derived.Test.YtebbgodlijlioaaGreatDoorShelf3
set_option maxRecDepth 100000
set_option maxHeartbeats 64000000
namespace Go.Proofs.YtebbgodlijlioaaGreatDoor
open Go Go.RowKit
theorem q6v {n:Nat}{l:List Int}(h:n<l.length):bysOk n l=false:=by
 cases e:bysOk n l
 . rfl
 . have:=q9r e;omega
theorem q00 (a:Option Addr)(c:Nat)(l:List Int)(n:Nat)(w:World)(hl:l.length<=9223372036854775807)(hcap:l.length<=c)(ha:IntL w a l) :
 Calls Tryz.prog 168 #[.slice a l.length c,J9 n] w fun r w'=>r=.returned (.bool (bysOk n l))/\Below w.heap.size w w':=by
 by_cases hn:n<l.length
 . rw[q6v hn]
   have hn':(n:Int)<l.length:=by omega
   go_enter Tryz.func168,Tryz.ntmps168;go_wp2_with fail;go_ret;exact⟨rfl,bR _ _⟩
 . have hn':¬ (n:Int)<l.length:=by omega
   have HA:=h_ ha;obtain⟨q,hq⟩:=Nq (bysOk n l);rw[hq];have HQ:=h_ hq;clear ha hq hn;go_enter Tryz.func168,Tryz.ntmps168;go_wp2_with fail;clear hn';go_loopw [13] (fun i wr=>∃k:Nat,k<=l.length/\i=J9 k/\(∀j (h:j<l.length),j<k->inR n l[j]=true/\∀i (hi:i<j),l[j]≠l[i])/\Below w.heap.size w wr) (fun i _=>l.length - (intOf i).toNat)
   case atStart=>exact⟨0,nZ _,rfl,fun j _ hj=>absurd hj (nL _),bR _ _⟩
   case round =>
    obtain⟨k,hk,rfl,hall,hb⟩:=hrel;have HL:=h_ hall;have HB:=h_ hb;replace HA:=h_ (HA.u.mono hb);clear hall hb;by_cases hlt:k<l.length
    . have hlt':(k:Int)<l.length:=by omega
      obtain⟨b,o,rfl,hbl,z0⟩:=HA.u k hlt;dsimp only at z0;have hget:l.getD k 0=l[k]:=(by rw[Yl,Yi hlt];rfl);rw[hget]at z0;have hcc:(k:Int)<=c:=(by omega);have HC:Hi (∀x,Calls Tryz.prog 181 #[.slice (some ⟨b,o,none⟩) k c,J9 x] wr fun e w'=>e=.returned (.bool ((l.take k).contains x))/\w'=wr):=h_ fun x=>Tryz.slices_Contains_int b o k c l x wr (by omega) (by omega) (fun j hj=>by
       obtain⟨b',o',e,-,hc⟩:=HA.u j hj;cases e;exact hc)
      have HX:Hi (inR n l[k]=false->q=false):=h_ fun h=>by rw[<- HQ.u,q9q hlt h]
      have HT:Hi ((l.take k).contains l[k]=true->q=false):=h_ fun h=>by
       rw[List.contains_iff_mem]at h;obtain⟨j,hj,e⟩:=Yy.1 h;rw[Y6]at hj;rw[List.getElem_take]at e;rw[<- HQ.u,q4o hlt (show j<k by omega) e.symm]
      have HG:Hi (inR n l[k]=true->(l.take k).contains l[k]=false->∀j (h:j<l.length),j<k+1->inR n l[j]=true/\∀i (hi:i<j),l[j]≠l[i]):=h_ fun h1 h2 j hj hjk=>by
       by_cases ej:j=k
       . subst ej
         refine⟨h1,fun i hi e=>?_⟩;have:(l.take j).contains l[j]=true:=List.contains_iff_mem.2 (by rw[e];exact Yy.2 ⟨i,by rw[Y6];omega,by rw[List.getElem_take]⟩);rw[this]at h2;cases h2
       . exact HL.u j hj (by omega)
      have hinr:inR n l[k]=decide (0<=l[k]/\l[k]<n):=rfl;clear hget;generalize l[k]=x at *;replace HC:=h_ (HC.u x);generalize (l.take k).contains x=t at *;generalize inR n x=g at *;by_cases hneg:x<0
      . have HX2:Hi (q=false):=h_ (HX.u (by rw[hinr,Yj (by omega)]))
        clear hinr;go_wp2_with fail;go_ret;exact⟨qg2 HX2.u.symm,HB.u⟩
      by_cases hbig:(n:Int)<=x
      . have HX2:Hi (q=false):=h_ (HX.u (by rw[hinr,Yj (by omega)]))
        clear hinr;go_wp2_with fail;go_ret;exact⟨qg2 HX2.u.symm,HB.u⟩
      have HI:Hi (g=true):=h_ (by rw[hinr,Ym (by omega)]);clear hinr;go_wp2_with fail;refine HC.u.mono ?_;rintro e w1 ⟨rfl,hw⟩;replace hw:=hw.symm;subst hw;cases t
      . have HG2:=h_ (HG.u HI.u rfl)
        go_wp2_with fail;go_roundw
        case rel=>first | exact⟨k+1,by omega,by go_num,HG2.u,HB.u⟩ | ((repeat apply Exists.intro);exact⟨⟨k+1,by omega,by go_num,HG2.u,HB.u⟩,rfl⟩)
        case measure=>simp[intOf];omega
      . have HX2:=h_ (HT.u rfl)
        go_wp2_with fail;go_ret;exact⟨qg2 HX2.u.symm,HB.u⟩
    . obtain rfl:k=l.length:=by omega
      have hlt':¬ (l.length:Int)<(l.length:Int):=(by omega);have HX:Hi (q=true):=h_ (by
       rw[<- HQ.u];exact q9s (fun k h=>(HL.u k h h).1) (fun k h j hj=>(HL.u k h h).2 j hj))
      go_wp2_with fail;go_ret;exact⟨qg2 HX.u.symm,HB.u⟩
theorem q7i (a:Option Addr)(c:Nat)(l:List Nx)(w:World)(hm:l.length<=9223372036854775807)(ha:NodL w a l)(hf:∀k,k<l.length->Fit (nf l k))(hw:Wrds w)(hp:Pow w) :
 Calls Tryz.prog 183 #[.slice a l.length c] w fun r w'=>r=.returned (.bool (vxL l))/\Below w.heap.size w w':=by
 have HC:=h_ (q65 a l.length c (nf l) w hm ha hf hw hp)
 obtain⟨t,ht⟩:=Nq ((if vxB (nf l) l.length then (top (nf l) l.length).t else ⟨#[]⟩))
 obtain⟨q,hq⟩:=Nq (vxB (nf l) l.length)
 rw[ht,hq]at HC
 rw[show vxL l=q from hq]
 clear ht hq ha hf hw hp
 go_enter Tryz.func183,Tryz.ntmps183
 go_wp2_with fail
 refine HC.u.mono ?_
 rintro x w1 ⟨rfl,hb⟩
 have HB:=h_ hb
 clear hb HC
 go_wp2_with fail
 go_ret
 exact⟨rfl,HB.u⟩
theorem q69 (f:Fl)(A:FA)(w:World) :
 Calls Tryz.prog 84 #[fV f A] w fun r w'=>r=.returned (.agg #[.slice A.i f.is.length A.ic,.slice A.h f.wh.length A.hc,.slice A.v f.va.length A.vc,.slice A.u f.mu.length A.uc])/\Below w.heap.size w w':=by
 obtain⟨ab,abc,ai,aic,ah,ahc,av,avc,au,auc⟩:=A
 unfold fV
 dsimp only
 go_enter Tryz.func84,Tryz.ntmps84
 go_wp2_with fail
 exact bodyPost_ret (v:=.agg #[.slice ai f.is.length aic,.slice ah f.wh.length ahc,.slice av f.va.length avc,.slice au f.mu.length auc]) (by simp[results,Tryz.results84,go_sem]) rfl ⟨rfl,((bR _ _).alloc (nR _) _).alloc (by simp) _⟩
def ruleAt (f:Fl)(k:Nat):List Nx:=if k=0 then f.is else if k=1 then f.wh else if k=2 then f.va else f.mu
structure Tabs (w:World):Prop where
 ws:Wrds w
 pw:Pow w
theorem Tabs.mono {w w':World}(h:Tabs w)(hb:Below w.heap.size w w'):Tabs w':=⟨h.ws.mono hb,h.pw.mono hb⟩
theorem q0a (f:Fl)(A:FA)(w:World)(hf:FitF f)(ha:FSl w f A)(ht:Tabs w) :
 Calls Tryz.prog 170 #[fV f A] w fun r w'=>r=.returned (.bool (ruleOk f.is&&ruleOk f.wh&&ruleOk f.va&&ruleOk f.mu))/\Below w.heap.size w w':=by
 obtain⟨ab,abc,ai,aic,ah,ahc,av,avc,au,auc⟩:=A
 have HCr:=h_ fun W=>q69 f ⟨ab,abc,ai,aic,ah,ahc,av,avc,au,auc⟩ W
 obtain⟨q,hq⟩:=Nq ((ruleOk f.is&&ruleOk f.wh&&ruleOk f.va&&ruleOk f.mu))
 rw[hq]
 have HQ:=h_ hq
 unfold fV at HCr⊢
 dsimp only at HCr⊢
 have HK:=h_ (Blk.new w 42 (Ja f ab abc ai aic ah ahc av avc au auc))
 have HB:=h_ ((bR w.heap.size w).alloc (nR _) (.cells (Ja f ab abc ai aic ah ahc av avc au auc) 42))
 obtain⟨W0,hW0⟩:=Nq (w.alloc (.cells (Ja f ab abc ai aic ah ahc av avc au auc) 42))
 rw[hW0]at HK HB
 have HS:=h_ (ha.mono HB.u);have HT:=h_ (ht.mono HB.u);have HF:=h_ hf
 clear ha ht hf hq
 obtain⟨y0,y1,y2,y3,y4,y5,y6,y7,y8⟩:=nine HK.u
 go_enter Tryz.func170,Tryz.ntmps170
 go_wp2_with fail
 try rw[hW0]
 refine(HCr.u W0).mono ?_
 rintro r W1 ⟨rfl,hb1⟩
 replace HS:=h_ (HS.u.mono hb1);replace HT:=h_ (HT.u.mono hb1);replace HB:=mT HB hb1
 clear hW0 y0 y1 y2 y3 y4 y5 y6 y7 y8 hb1 HCr HK
 have HR:Hi (∀k:Nat,k<4->∀W,Below W1.heap.size W1 W->∃a c,(∀W',(Instr.index 129 (.agg (#[Value.slice ai f.is.length aic,.slice ah f.wh.length ahc,.slice av f.va.length avc,.slice au f.mu.length auc]:Array Value)) (J9 k)).run Tryz.prog W'=.ok (.slice a (ruleAt f k).length c) W')/\(ruleAt f k).length<=9223372036854775807/\Calls Tryz.prog 183 #[.slice a (ruleAt f k).length c] W fun r w'=>r=.returned (.bool (vxL (ruleAt f k)))/\Below W.heap.size W w'):=h_ fun k hk W hb=>by
  have S:=HS.u.mono hb;have T:=HT.u.mono hb;have F:=HF.u;obtain rfl | rfl | rfl | rfl:k=0∨k=1∨k=2∨k=3:=by omega
  . exact⟨ai,aic,fun W'=>by simp[Instr.index,run_underlying Tryz.underlying129,asIntOf,go_sem,ruleAt],F.il,q7i ai aic f.is W F.il S.i F.i T.ws T.pw⟩
  . exact⟨ah,ahc,fun W'=>by simp[Instr.index,run_underlying Tryz.underlying129,asIntOf,go_sem,ruleAt],F.hl,q7i ah ahc f.wh W F.hl S.h F.h T.ws T.pw⟩
  . exact⟨av,avc,fun W'=>by simp[Instr.index,run_underlying Tryz.underlying129,asIntOf,go_sem,ruleAt],F.vl,q7i av avc f.va W F.vl S.v F.v T.ws T.pw⟩
  . exact⟨au,auc,fun W'=>by simp[Instr.index,run_underlying Tryz.underlying129,asIntOf,go_sem,ruleAt],F.ul,q7i au auc f.mu W F.ul S.u F.u T.ws T.pw⟩
 have HX:Hi (∀k,k<4->ruleOk (ruleAt f k)=false->q=false):=h_ fun k hk h=>by
  rw[<- HQ.u];obtain rfl | rfl | rfl | rfl:k=0∨k=1∨k=2∨k=3:=by omega
  all_goals
   simp only[ruleAt]at h;simp at h;simp[h]
 have HY:Hi ((∀k,k<4->ruleOk (ruleAt f k)=true)->q=true):=h_ fun h=>by
  rw[<- HQ.u,show ruleOk f.is=true from h 0 (by omega),show ruleOk f.wh=true from h 1 (by omega),show ruleOk f.va=true from h 2 (by omega),show ruleOk f.mu=true from h 3 (by omega)];rfl
 clear HQ HF HS HT
 obtain⟨rs,hrs⟩:=Nq ((#[Value.slice ai f.is.length aic,.slice ah f.wh.length ahc,.slice av f.va.length avc,.slice au f.mu.length auc]:Array Value))
 rw[hrs]at HR⊢
 clear hrs
 go_wp2_with fail
 go_loopw [7] (fun i wr=>∃k:Nat,k<=4/\i=J9 k/\(∀j,j<k->ruleOk (ruleAt f j)=true)/\Below W1.heap.size W1 wr) (fun i _=>4 - (intOf i).toNat)
 case atStart=>exact⟨0,by omega,rfl,fun j hj=>absurd hj (nL _),bR _ _⟩
 case round =>
  obtain⟨k,hk,rfl,hall,hb⟩:=hrel;have HL:=h_ hall;have HB1:=h_ hb;clear hall hb;by_cases hlt:k<4
  . have hlt':(k:Int)<4:=by omega
    obtain⟨a,c,hget,hlen,hC⟩:=HR.u k hlt wr HB1.u;have HC:=h_ hC;have HF1:Hi (ruleOk (ruleAt f k)=false->q=false):=h_ (HX.u k hlt);have HG1:Hi (ruleOk (ruleAt f k)=true->∀j,j<k+1->ruleOk (ruleAt f j)=true):=h_ fun h j hj=>by
     by_cases ej:j=k
     . subst ej;exact h
     . exact HL.u j (by omega)
    have hro:ruleOk (ruleAt f k)=(decide ((ruleAt f k).length=0)||vxL (ruleAt f k)):=rfl;generalize ruleAt f k=l at *;generalize vxL l=v at *;generalize ruleOk l=ro at *;clear hC;by_cases h0:l.length=0
    . have h0':¬ (0:Int)<l.length:=by omega
      have HG2:=h_ (HG1.u (by rw[hro,h0];rfl));clear hro h0;go_wp2_with fail;go_roundw
      case rel=>first | exact⟨k+1,by omega,by go_num,HG2.u,HB1.u⟩ | ((repeat apply Exists.intro);exact⟨⟨k+1,by omega,by go_num,HG2.u,HB1.u⟩,rfl⟩)
      case measure=>simp[intOf];omega
    . have h0':(0:Int)<l.length:=by omega
      replace hro:ro=v:=(by rw[hro,Yj h0,Bool.false_or]);subst hro;clear h0;go_wp2_with fail;refine HC.u.mono ?_;rintro e W2 ⟨rfl,hb2⟩;have HB2:=mT HB1 hb2;clear hb2 hget;cases ro
      . have HX2:=h_ (HF1.u rfl)
        go_wp2_with fail;go_ret;exact⟨qg2 HX2.u.symm,HB.u.trans (HB2.u.mono HB.u.size)⟩
      . have HG2:=h_ (HG1.u rfl)
        go_wp2_with fail;go_roundw
        case rel=>first | exact⟨k+1,by omega,by go_num,HG2.u,HB2.u⟩ | ((repeat apply Exists.intro);exact⟨⟨k+1,by omega,by go_num,HG2.u,HB2.u⟩,rfl⟩)
        case measure=>simp[intOf];omega
  . obtain rfl:k=4:=by omega
    have HX2:Hi (q=true):=h_ (HY.u HL.u);go_wp2_with fail;go_ret;exact⟨qg2 HX2.u.symm,HB.u.trans (HB1.u.mono HB.u.size)⟩
theorem q0l (f:Fl)(A:FA)(nl nr:Nat)(w:World)(hf:FitF f)(hcap:f.bys.length<=A.bc)(ha:FSl w f A)(ht:Tabs w) :
 Calls Tryz.prog 143 #[fV f A,J9 nl,J9 nr] w fun r w'=>r=.returned (.bool (fieldOk nl nr f))/\Below w.heap.size w w':=by
 obtain⟨ab,abc,ai,aic,ah,ahc,av,avc,au,auc⟩:=A
 have hfo:=q7b nl nr f
 have HCv:=h_ fun W (hs:FSl W f ⟨ab,abc,ai,aic,ah,ahc,av,avc,au,auc⟩) (ht:Tabs W)=>q0a f ⟨ab,abc,ai,aic,ah,ahc,av,avc,au,auc⟩ W hf hs ht
 unfold fV at HCv⊢
 dsimp only at hcap HCv⊢
 have HK:=h_ (Blk.new w 42 (Ja f ab abc ai aic ah ahc av avc au auc))
 have HB:=h_ ((bR w.heap.size w).alloc (nR _) (.cells (Ja f ab abc ai aic ah ahc av avc au auc) 42))
 obtain⟨W0,hW0⟩:=Nq (w.alloc (.cells (Ja f ab abc ai aic ah ahc av avc au auc) 42))
 rw[hW0]at HK HB
 have HS:=h_ (ha.mono HB.u);have HT:=h_ (ht.mono HB.u);have HF:=h_ hf
 have hbl:=hf.bl;have hil:=hf.il;have hvl:=hf.vl;have hsy:=hf.sy
 obtain⟨q,hq⟩:=Nq (fieldOk nl nr f)
 rw[hq]at hfo⊢
 clear ha ht hf hq
 obtain⟨y0,y1,y2,y3,y4,y5,y6,y7,y8⟩:=nine HK.u
 by_cases h1:f.ty<1
 . have HX:Hi (q=false):=h_ (by rw[hfo,Yj (by omega)];rfl)
   clear hfo;go_enter Tryz.func143,Tryz.ntmps143;go_wp2_with fail;go_ret;exact⟨qg2 HX.u.symm,HB.u⟩
 by_cases h2:3<f.ty
 . have HX:Hi (q=false):=h_ (by rw[hfo,Yj (by omega)];rfl)
   clear hfo;go_enter Tryz.func143,Tryz.ntmps143;go_wp2_with fail;go_ret;exact⟨qg2 HX.u.symm,HB.u⟩
 rw[Ym (show 1<=f.ty/\f.ty<=3 by omega),Ze]at hfo
 have HCl:=h_ (q7k f.lb nl W0)
 have hlab:(f.lb = -1/\decide (-1<=f.lb/\f.lb<nl)=true)∨(f.lb≠-1/\decide (-1<=f.lb/\f.lb<nl)=inR nl f.lb):=by
  by_cases h:f.lb = -1
  . exact .inl ⟨h,Ym (by omega)⟩
  . exact .inr ⟨h,decide_eq_decide.2 (by omega)⟩
 generalize inR nl f.lb=g at *
 obtain⟨p,hp⟩:=Nq (decide (-1<=f.lb/\f.lb<nl))
 rw[hp]at hfo hlab
 have HQ:=h_ hfo
 clear hfo hp
 have HCb:=h_ (q00 ab abc f.bys nr W0 hbl hcap HS.u.b)
 have hne:(f.sy=⟨#[]⟩) ↔ f.sy.size=0:=⟨fun h=>by rw[h];rfl,fun h=>by
  refine q94 ?_;have:f.sy.data.toList.length=0:=by simpa using h
  rw[Z7.1 this]⟩
 have HNE:=h_ hne
 clear hne hcap
 have hlab2:((f.lb != -1)=false/\(f.lb==-1)=true/\p=true)∨((f.lb != -1)=true/\(f.lb==-1)=false/\p=g):=by
  rcases hlab with ⟨hl,hp⟩ | ⟨hl,hp⟩
  . exact .inl ⟨by rw[hl];rfl,by rw[hl];rfl,hp⟩
  . exact .inr ⟨by simp[hl],by simp[hl],hp⟩
 clear hlab
 have hreg:(¬ (0:Int)<f.bys.length)∨((0:Int)<f.bys.length/\¬ (0:Int)<f.is.length)∨((0:Int)<f.bys.length/\(0:Int)<f.is.length):=by omega
 cases p
 . have HX:Hi (q=false):=h_ (by rw[HQ.u];rfl)
   rcases hlab2 with ⟨hl1,hl2,hp⟩ | ⟨hl1,hl2,hp⟩
   . cases hp
   subst hp;go_enter Tryz.func143,Tryz.ntmps143;go_wp2_with fail
   try rw[hW0]
   refine HCl.u.mono ?_;rintro e W1 ⟨rfl,hw⟩;replace hw:=hw.symm;subst hw;clear hW0;go_wp2_with fail;go_ret;exact⟨qg2 HX.u.symm,HB.u⟩
 rcases hreg with hr1 | ⟨hr1,hr2⟩ | ⟨hr1,hr2⟩
 case' inr.inl =>
  have hr3:¬ 0<f.is.length:=by omega
  have hr4:decide (0<f.is.length)=false:=Yj hr3
 case' inr.inr =>
  have HX:Hi (q=false):=h_ (by rw[HQ.u,Yj (show ¬ (f.is.length=0∨f.bys.length=0) by omega)];simp);have hr3:0<f.is.length:=by omega
  have hr4:decide (0<f.is.length)=true:=Ym hr3;rcases hlab2 with ⟨hl1,hl2,hp⟩ | ⟨hl1,hl2,hp⟩
  . go_enter Tryz.func143,Tryz.ntmps143
    go_wp2_with fail;go_ret;exact⟨qg2 HX.u.symm,HB.u⟩
  subst hp;go_enter Tryz.func143,Tryz.ntmps143;go_wp2_with fail
  try rw[hW0]
  refine HCl.u.mono ?_;rintro e W1 ⟨rfl,hw⟩;replace hw:=hw.symm;subst hw;clear hW0;go_wp2_with fail;go_ret;exact⟨qg2 HX.u.symm,HB.u⟩
 all_goals
  have HQ2:Hi (q=(bysOk nr f.bys&&okText f.sy&&decide (f.va.length≠0∨f.sy.size=0)&&(ruleOk f.is&&ruleOk f.wh&&ruleOk f.va&&ruleOk f.mu))):=h_ (by rw[HQ.u,Ym (show f.is.length=0∨f.bys.length=0 by omega)];simp[Bool.and_assoc]);clear HQ;rcases hlab2 with ⟨hl1,hl2,hp⟩ | ⟨hl1,hl2,hp⟩
  case' inl =>
   clear hp;go_enter Tryz.func143,Tryz.ntmps143;go_wp2_with fail
   try rw[hW0]
   clear hW0
  case' inr =>
   subst hp;go_enter Tryz.func143,Tryz.ntmps143;go_wp2_with fail
   try rw[hW0]
   refine HCl.u.mono ?_;rintro e W1 ⟨rfl,hw⟩;replace hw:=hw.symm;subst hw;clear hW0;go_wp2_with fail
  all_goals
   refine HCb.u.mono ?_;rintro e W2 ⟨rfl,hb2⟩;replace HK:=mB HK hb2;replace HS:=h_ (HS.u.mono hb2);replace HT:=h_ (HT.u.mono hb2);replace HB:=mT HB hb2;clear hb2 y0 y1 y2 y3 y4 y5 y6 y7 y8 HCb HCl hl1 hl2;obtain⟨y0,y1,y2,y3,y4,y5,y6,y7,y8⟩:=nine HK.u;generalize bysOk nr f.bys=gb at *;cases gb
   . have HX:Hi (q=false):=h_ (by rw[HQ2.u];rfl)
     go_wp2_with fail;go_ret;exact⟨qg2 HX.u.symm,HB.u⟩
   have HCt:=h_ (q7o f.sy W2 hsy);have HCr:=h_ (HCv.u W2 HS.u HT.u);generalize okText f.sy=gt at *;generalize (ruleOk f.is&&ruleOk f.wh&&ruleOk f.va&&ruleOk f.mu)=gr at *;have e0:=empty0 f.sy;have hsp:((¬ f.sy.size=0/\((f.va.length:Int)==0)=true)/\decide (f.va.length≠0∨f.sy.size=0)=false)∨((¬ f.sy.size=0/\((f.va.length:Int)==0)=false)/\decide (f.va.length≠0∨f.sy.size=0)=true)∨(f.sy.size=0/\decide (f.va.length≠0∨f.sy.size=0)=true):=by
    by_cases hs0:f.sy.size=0
    . exact .inr (.inr ⟨hs0,Ym (.inr hs0)⟩)
    . by_cases hv:f.va.length=0
      . exact .inl ⟨⟨hs0,by simp[hv]⟩,Yj (by omega)⟩
      . exact .inr (.inl ⟨⟨hs0,Yf.2 (by omega)⟩,Ym (.inl hv)⟩)
   rcases hsp with ⟨⟨u1,u3⟩,hd⟩ | hsp
   . rw[Yj u1]at e0
     have HX:Hi (q=false):=h_ (by rw[HQ2.u,hd];simp);clear hd u1;go_wp2_with fail;go_ret;exact⟨qg2 HX.u.symm,HB.u⟩
   rcases hsp with ⟨⟨u1,u3⟩,hd⟩ | ⟨u1,hd⟩
   all_goals
    first | rw[Yj u1]at e0 | rw[Ym u1]at e0
    have HQ3:Hi (q=(gt&&gr)):=h_ (by rw[HQ2.u,hd];simp);clear hd u1;go_wp2_with fail;refine HCt.u.mono ?_;rintro e W3 ⟨rfl,hw⟩;replace hw:=hw.symm;subst hw;cases gt
    . have HX:Hi (q=false):=h_ (by rw[HQ3.u];rfl)
      go_wp2_with fail;go_ret;exact⟨qg2 HX.u.symm,HB.u⟩
    have HX:Hi (q=gr):=h_ (by rw[HQ3.u];rfl);go_wp2_with fail;refine HCr.u.mono ?_;rintro e W4 ⟨rfl,hb4⟩;replace HB:=mT HB hb4;clear hb4;go_wp2_with fail;go_ret;exact⟨qg2 HX.u.symm,HB.u⟩
theorem q9l {names:List ByteArray}{l:List Nx}{k:Nat}(h:k<l.length)(h1:(nf l k).op=1)(h2:memB (nf l k).nm names=false):knows names l=false:=by
 unfold knows
 refine Vh.2 ⟨l[k],Yk h,?_⟩
 rw[nf_get l k h]at h1 h2
 simp[h1,h2]
theorem q6q {names:List ByteArray}{l:List Nx}(h:∀k,k<l.length->(nf l k).op=1->memB (nf l k).nm names=true):knows names l=true:=by
 unfold knows
 refine Y2.2 fun x hx=>?_
 obtain⟨k,hk,rfl⟩:=Yy.1 hx
 have:=h k hk
 rw[nf_get l k hk]at this
 by_cases e:l[k].op=1
 . rw[this e];simp
 . rw[Yj e];rfl
theorem q15 (a:Option Addr)(c:Nat)(l:List Nx)(b:Nat)(names:List ByteArray)(w:World)(hl:l.length<=9223372036854775807)(hf:∀k,k<l.length->Fit (nf l k))(ha:NodL w a l)(hm:PMap w b names) :
 Calls Tryz.prog 146 #[.slice a l.length c,.map (some b)] w fun r w'=>r=.returned (.bool (!knows names l))/\Below w.heap.size w w':=by
 have HA:=h_ ha;have HM:=h_ hm;have HF:=h_ hf
 obtain⟨q,hq⟩:=Nq ((!knows names l))
 rw[hq]
 have HQ:=h_ hq
 clear ha hm hf hq
 go_enter Tryz.func146,Tryz.ntmps146
 go_wp2_with fail
 go_loopw [11] (fun i wr=>∃k:Nat,k<=l.length/\i=J9 k/\(∀j,j<k->(nf l j).op=1->memB (nf l j).nm names=true)/\Below w.heap.size w wr) (fun i _=>l.length - (intOf i).toNat)
 case atStart=>exact⟨0,nZ _,rfl,fun j hj=>absurd hj (nL _),bR _ _⟩
 case round =>
  obtain⟨k,hk,rfl,hall,hb⟩:=hrel;have HL:=h_ hall;have HB:=h_ hb;have HAr:=h_ (HA.u.mono hb);have HMr:=h_ (HM.u.mono hb);clear hall hb;by_cases hlt:k<l.length
  . have hlt':(k:Int)<l.length:=by omega
    obtain⟨pb,po,rfl,-,z0,z1,z2,z3,z4⟩:=HAr.u k hlt;have HX:Hi ((nf l k).op=1->memB (nf l k).nm names=false->q=true):=h_ fun h1 h2=>by rw[<- HQ.u,q9l hlt h1 h2];rfl
    have HG:Hi (((nf l k).op=1->memB (nf l k).nm names=true)->∀j,j<k+1->(nf l j).op=1->memB (nf l j).nm names=true):=h_ fun h j hj=>by
     by_cases ej:j=k
     . subst ej;exact h
     . exact HL.u j (by omega)
    have HFk:=h_ (HF.u k hlt);generalize nf l k=n at *;have HKf:=h_ (Blk.new wr 96 #[J9 n.op,J9 n.v.k,J9 n.v.n,.string n.v.s,.string n.nm]);have HBf:=h_ (HB.u.alloc HB.u.size (.cells #[J9 n.op,J9 n.v.k,J9 n.v.n,.string n.v.s,.string n.nm] 96));have hMf:=HMr.u.mono ((bR _ _).alloc (nR _) (.cells #[J9 n.op,J9 n.v.k,J9 n.v.n,.string n.v.s,.string n.nm] 96));obtain⟨Wd,hWd⟩:=Nq (wr.alloc (.cells #[J9 n.op,J9 n.v.k,J9 n.v.n,.string n.v.s,.string n.nm] 96));rw[hWd]at HKf HBf hMf;have HMf:=h_ hMf;clear hMf;obtain⟨x0,x1,x2,x3,x4⟩:=five HKf.u;by_cases h1:n.op=1
    . have h1':(n.op != 1)=false:=by rw[h1];rfl
      have h1'':(n.op==1)=true:=(by rw[h1];rfl);replace HX:=h_ (HX.u h1);have HG2:Hi (memB n.nm names=true->∀j,j<k+1->(nf l j).op=1->memB (nf l j).nm names=true):=h_ fun h=>HG.u fun _=>h;clear h1 HG;have HKy:Hi (keyOf Tryz.prog 9 (.string n.nm)=some (kl n.nm)):=h_ (WideMaps.keyOf_string_mk Tryz.underlying9 HFk.u.2.1);cases hg:memB n.nm names
      . have HX2:=h_ (HX.u hg)
        go_wp2_with (at_lookup;refine wpList_lookup_own_ok_int _ rfl _ _ 54 rfl 9 3 .i64 (Maps.string_keyed Tryz.underlying9) Tryz.underlying54 Tryz.underlying3 (Tryz.zeroValue3 _) b names.length (mp names) rfl (by first | exact HMf.u | (rw[hWd];exact HMf.u)) _ _ rfl HKy.u ?_;intro pc _ _;rw[has_mp,hg])
        try rw[hWd]
        clear hWd HMf HKy;go_ret;exact⟨qg2 HX2.u.symm,HBf.u⟩
      . have HG3:=h_ (HG2.u hg)
        go_wp2_with (at_lookup;refine wpList_lookup_own_ok_int _ rfl _ _ 54 rfl 9 3 .i64 (Maps.string_keyed Tryz.underlying9) Tryz.underlying54 Tryz.underlying3 (Tryz.zeroValue3 _) b names.length (mp names) rfl (by first | exact HMf.u | (rw[hWd];exact HMf.u)) _ _ rfl HKy.u ?_;intro pc _ _;rw[has_mp,hg])
        try rw[hWd]
        clear hWd HMf HKy;go_roundw
        case rel=>first | exact⟨k+1,by omega,by go_num,HG3.u,HBf.u⟩ | ((repeat apply Exists.intro);exact⟨⟨k+1,by omega,by go_num,HG3.u,HBf.u⟩,rfl⟩)
        case measure=>simp[intOf];omega
    . have h1':(n.op != 1)=true:=by simp[h1]
      have h1'':(n.op==1)=false:=(by simp[h1]);have HG3:=h_ (HG.u fun h=>absurd h h1);clear h1 HG;go_wp2_with fail
      try rw[hWd]
      clear hWd;go_roundw
      case rel=>first | exact⟨k+1,by omega,by go_num,HG3.u,HBf.u⟩ | ((repeat apply Exists.intro);exact⟨⟨k+1,by omega,by go_num,HG3.u,HBf.u⟩,rfl⟩)
      case measure=>simp[intOf];omega
  . obtain rfl:k=l.length:=by omega
    have hlt':¬ (l.length:Int)<(l.length:Int):=(by omega);have HX:Hi (q=false):=h_ (by rw[<- HQ.u,q6q HL.u];rfl);go_wp2_with fail;go_ret;exact⟨qg2 HX.u.symm,HB.u⟩
theorem q0q (f:Fl)(A:FA)(X b:Nat)(names:List ByteArray)(w:World)(hf:FitF f)(ha:FSl w f A)(hm:PMap w b names)(hX:X<w.heap.size)(hc:w.cell? ⟨X,0,none⟩=some (.map (some b))) :
 Calls Tryz.prog 145 #[fV f A,Yc X 0] w fun r w'=>r=.returned (.bool (!fieldKnows names f))/\Below w.heap.size w w':=by
 obtain⟨ab,abc,ai,aic,ah,ahc,av,avc,au,auc⟩:=A
 have HCr:=h_ fun W=>q69 f ⟨ab,abc,ai,aic,ah,ahc,av,avc,au,auc⟩ W
 obtain⟨q,hq⟩:=Nq ((!fieldKnows names f))
 rw[hq]
 have HQ:Hi ((!(knows names f.is&&knows names f.wh&&knows names f.va&&knows names f.mu))=q):=h_ hq
 unfold fV at HCr⊢
 dsimp only at HCr⊢
 have HK:=h_ (Blk.new w 42 #[.string f.nm,J9 f.ty,J9 f.lb,.slice ab f.bys.length abc,.slice ai f.is.length aic,.slice ah f.wh.length ahc,.slice av f.va.length avc,.string f.sy,.slice au f.mu.length auc])
 have HB:=h_ ((bR w.heap.size w).alloc (nR _) (.cells #[.string f.nm,J9 f.ty,J9 f.lb,.slice ab f.bys.length abc,.slice ai f.is.length aic,.slice ah f.wh.length ahc,.slice av f.va.length avc,.string f.sy,.slice au f.mu.length auc] 42))
 obtain⟨W0,hW0⟩:=Nq (w.alloc (.cells #[.string f.nm,J9 f.ty,J9 f.lb,.slice ab f.bys.length abc,.slice ai f.is.length aic,.slice ah f.wh.length ahc,.slice av f.va.length avc,.string f.sy,.slice au f.mu.length auc] 42))
 rw[hW0]at HK HB
 have HS:=h_ (ha.mono HB.u);have HM:=h_ (hm.mono HB.u);have HF:=h_ hf
 have HC:Hi (X<W0.heap.size/\W0.cell? ⟨X,0,none⟩=some (.map (some b))):=h_ ⟨Y5 hX HB.u.size,(HB.u.cell (p:=⟨X,0,none⟩) hX).trans hc⟩
 clear ha hm hf hq hX hc
 obtain⟨y0,y1,y2,y3,y4,y5,y6,y7,y8⟩:=nine HK.u
 go_enter Tryz.func145,Tryz.ntmps145
 go_wp2_with fail
 try rw[hW0]
 refine(HCr.u W0).mono ?_
 rintro r W1 ⟨rfl,hb1⟩
 replace HS:=h_ (HS.u.mono hb1);replace HM:=h_ (HM.u.mono hb1);replace HB:=mT HB hb1
 replace HC:Hi (X<W1.heap.size/\W1.cell? ⟨X,0,none⟩=some (.map (some b))):=h_ ⟨Y5 HC.u.1 hb1.size,(hb1.cell (p:=⟨X,0,none⟩) HC.u.1).trans HC.u.2⟩
 clear hW0 y0 y1 y2 y3 y4 y5 y6 y7 y8 hb1 HCr HK
 have HR:Hi (∀k:Nat,k<4->∀W,Below W1.heap.size W1 W->∃a c,(∀W',(Instr.index 129 (.agg (#[Value.slice ai f.is.length aic,.slice ah f.wh.length ahc,.slice av f.va.length avc,.slice au f.mu.length auc]:Array Value)) (J9 k)).run Tryz.prog W'=.ok (.slice a (ruleAt f k).length c) W')/\(ruleAt f k).length<=9223372036854775807/\Calls Tryz.prog 146 #[.slice a (ruleAt f k).length c,.map (some b)] W fun r w'=>r=.returned (.bool (!knows names (ruleAt f k)))/\Below W.heap.size W w'):=h_ fun k hk W hb=>by
  have S:=HS.u.mono hb;have M:=HM.u.mono hb;have F:=HF.u;obtain rfl | rfl | rfl | rfl:k=0∨k=1∨k=2∨k=3:=by omega
  . exact⟨ai,aic,fun W'=>by simp[Instr.index,run_underlying Tryz.underlying129,asIntOf,go_sem,ruleAt],F.il,q15 ai aic f.is b names W F.il F.i S.i M⟩
  . exact⟨ah,ahc,fun W'=>by simp[Instr.index,run_underlying Tryz.underlying129,asIntOf,go_sem,ruleAt],F.hl,q15 ah ahc f.wh b names W F.hl F.h S.h M⟩
  . exact⟨av,avc,fun W'=>by simp[Instr.index,run_underlying Tryz.underlying129,asIntOf,go_sem,ruleAt],F.vl,q15 av avc f.va b names W F.vl F.v S.v M⟩
  . exact⟨au,auc,fun W'=>by simp[Instr.index,run_underlying Tryz.underlying129,asIntOf,go_sem,ruleAt],F.ul,q15 au auc f.mu b names W F.ul F.u S.u M⟩
 have HX:Hi (∀k,k<4->knows names (ruleAt f k)=false->q=true):=h_ fun k hk h=>by
  rw[<- HQ.u];obtain rfl | rfl | rfl | rfl:k=0∨k=1∨k=2∨k=3:=by omega
  all_goals
   simp only[ruleAt]at h;simp at h;simp[h]
 have HY:Hi ((∀k,k<4->knows names (ruleAt f k)=true)->q=false):=h_ fun h=>by
  rw[<- HQ.u,show knows names f.is=true from h 0 (by omega),show knows names f.wh=true from h 1 (by omega),show knows names f.va=true from h 2 (by omega),show knows names f.mu=true from h 3 (by omega)];rfl
 clear HQ HF HS HM
 obtain⟨rs,hrs⟩:=Nq ((#[Value.slice ai f.is.length aic,.slice ah f.wh.length ahc,.slice av f.va.length avc,.slice au f.mu.length auc]:Array Value))
 rw[hrs]at HR⊢
 clear hrs
 go_wp2_with fail
 go_loopw [8] (fun i wr=>∃k:Nat,k<=4/\i=J9 k/\(∀j,j<k->knows names (ruleAt f j)=true)/\Below W1.heap.size W1 wr) (fun i _=>4 - (intOf i).toNat)
 case atStart=>exact⟨0,by omega,rfl,fun j hj=>absurd hj (nL _),bR _ _⟩
 case round =>
  obtain⟨k,hk,rfl,hall,hb⟩:=hrel;have HL:=h_ hall;have HB1:=h_ hb;have x0:=(hb.cell (p:=⟨X,0,none⟩) HC.u.1).trans HC.u.2;clear hall hb;by_cases hlt:k<4
  . have hlt':(k:Int)<4:=by omega
    obtain⟨a,c,hget,hlen,hC⟩:=HR.u k hlt wr HB1.u;have HCk:=h_ hC;have HF1:Hi (knows names (ruleAt f k)=false->q=true):=h_ (HX.u k hlt);have HG1:Hi (knows names (ruleAt f k)=true->∀j,j<k+1->knows names (ruleAt f j)=true):=h_ fun h j hj=>by
     by_cases ej:j=k
     . subst ej;exact h
     . exact HL.u j (by omega)
    generalize ruleAt f k=l at *;generalize knows names l=v at *;clear hC;go_wp2_with fail;refine HCk.u.mono ?_;rintro e W2 ⟨rfl,hb2⟩;have HB2:=mT HB1 hb2;clear hb2 hget x0;cases v
    . have HX2:=h_ (HF1.u rfl)
      go_wp2_with fail;go_ret;exact⟨qg2 HX2.u.symm,HB.u.trans (HB2.u.mono HB.u.size)⟩
    . have HG2:=h_ (HG1.u rfl)
      go_wp2_with fail;go_roundw
      case rel=>first | exact⟨k+1,by omega,by go_num,HG2.u,HB2.u⟩ | ((repeat apply Exists.intro);exact⟨⟨k+1,by omega,by go_num,HG2.u,HB2.u⟩,rfl⟩)
      case measure=>simp[intOf];omega
  . obtain rfl:k=4:=by omega
    have HX2:Hi (q=false):=h_ (HY.u HL.u);go_wp2_with fail;go_ret;exact⟨qg2 HX2.u.symm,HB.u.trans (HB1.u.mono HB.u.size)⟩
def astr (names:List ByteArray)(l:List Fl)(r:Int):Prop:=-1<=r/\r<=l.length/\(r<0 ↔ ∀x,x∈l->fieldKnows names x=true)
theorem q0s (a:Option Addr)(c X b:Nat)(l:List Fl)(AF:Nat->FA)(names:List ByteArray)(w:World)(hl:l.length<=200)(hf:∀x,x∈l->FitF x)(ha:Flds w a l AF)(hm:PMap w b names)(hX:X<w.heap.size)(hc:w.cell? ⟨X,0,none⟩=some (.map (some b))) :
 Calls Tryz.prog 144 #[.slice a l.length c,.func (.func 145) #[] #[Yc X 0]] w fun e w'=>∃r,e=.returned (J9 r)/\astr names l r/\Below w.heap.size w w':=by
 have HA:=h_ ha;have HM:=h_ hm;have HF:=h_ hf;have HC:=h_ (And.intro hX hc)
 clear ha hm hX hc hf
 go_enter Tryz.func144,Tryz.ntmps144
 go_wp2_with fail
 go_loopw [5,8] (fun _ i wr=>∃k:Nat,k<=l.length/\i=J9 k/\(∀j (h:j<l.length),j<k->fieldKnows names l[j]=true)/\Below w.heap.size w wr) (fun _ i _=>l.length - (intOf i).toNat)
 case atStart=>exact⟨0,nZ _,rfl,fun j _ hj=>absurd hj (nL _),bR _ _⟩
 case round =>
  obtain⟨k,hk,rfl,hall,hb⟩:=hrel;have HL:=h_ hall;have HB:=h_ hb;have HAr:=h_ (HA.u.mono hb);have HMr:=h_ (HM.u.mono hb);have HC2:Hi (X<wr.heap.size/\wr.cell? ⟨X,0,none⟩=some (.map (some b))):=h_ ⟨Y5 HC.u.1 hb.size,(hb.cell (p:=⟨X,0,none⟩) HC.u.1).trans HC.u.2⟩;clear hall hb;by_cases hlt:k<l.length
  . have hlt':(k:Int)<l.length:=by omega
    obtain⟨pb,po,rfl,⟨-,z0,z1,z2,z3,z4,z5,z6,z7,z8⟩,hsl⟩:=HAr.u k hlt;have HCf:=h_ (q0q l[k] (AF k) X b names wr (HF.u _ (Yk hlt)) hsl HMr.u HC2.u.1 HC2.u.2);have HX:Hi (fieldKnows names l[k]=false->astr names l k):=h_ fun h=>⟨by omega,by omega,⟨fun h0=>by omega,fun h0=>by have:=h0 _ (Yk hlt);rw[h]at this;cases this⟩⟩;have HG:Hi (fieldKnows names l[k]=true->∀j (h:j<l.length),j<k+1->fieldKnows names l[j]=true):=h_ fun h j hj hjk=>by
     by_cases ej:j=k
     . subst ej;exact h
     . exact HL.u j hj (by omega)
    generalize l[k]=f at *;generalize AF k=fa at *;obtain⟨ab,abc,ai,aic,ah,ahc,av,avc,au,auc⟩:=fa;unfold fV at HCf;dsimp only at z3 z4 z5 z6 z8 HCf;clear hsl;generalize fieldKnows names f=g at *;go_wp2_with fail;refine HCf.u.mono ?_;rintro e W2 ⟨rfl,hb2⟩;have HB2:=mT HB hb2;clear hb2 z0 z1 z2 z3 z4 z5 z6 z7 z8 HCf;cases g
    . have HX2:=h_ (HX.u rfl)
      go_wp2_with fail;go_ret;exact⟨_,rfl,HX2.u,HB2.u⟩
    . have HG2:=h_ (HG.u rfl)
      go_wp2_with fail;go_roundw
      case rel=>first | exact⟨k+1,by omega,by go_num,HG2.u,HB2.u⟩ | ((repeat apply Exists.intro);exact⟨⟨k+1,by omega,by go_num,HG2.u,HB2.u⟩,rfl⟩)
      case measure=>simp[intOf];omega
  . obtain rfl:k=l.length:=by omega
    have hlt':¬ (l.length:Int)<(l.length:Int):=(by omega);have HX:Hi (astr names l (-1)):=h_ ⟨by omega,by omega,⟨fun _ x hx=>by
     obtain⟨j,hj,rfl⟩:=Yy.1 hx;exact HL.u j hj hj,fun _=>by omega⟩⟩
    go_wp2_with fail;go_ret;exact⟨_,rfl,HX.u,HB.u⟩
theorem q0r (m:Fm)(A:MA)(w:World)(hf:FitM m)(hc:Counts m)(ha:MSl w m A) :
 Calls Tryz.prog 113 #[mV m A] w fun e w'=>∃r,e=.returned (J9 r)/\astr (fNames m) m.F r/\Below w.heap.size w w':=by
 obtain⟨al,alc,ap,apc,ar,arc,af,afc,afa⟩:=A
 unfold mV
 dsimp only
 have HK:=h_ (Blk.new w 28 (Jb al m alc ap apc ar arc af afc))
 have HB:=h_ ((bR w.heap.size w).alloc (nR _) (.cells (Jb al m alc ap apc ar arc af afc) 28))
 obtain⟨W0,hW0⟩:=Nq (w.alloc (.cells (Jb al m alc ap apc ar arc af afc) 28))
 rw[hW0]at HK HB
 have HS:=h_ (ha.mono HB.u);have HF:=h_ hf;have HC:=h_ hc
 clear ha hf hc
 obtain⟨y0,y1,y2,y3⟩:=quad HK.u
 go_enter Tryz.func113,Tryz.ntmps113
 go_wp2_with fail
 try rw[hW0]
 refine(q1c m ⟨al,alc,ap,apc,ar,arc,af,afc,afa⟩ W0 HC.u.f HS.u.f).mono ?_
 rintro r W1 ⟨an,cn,rfl,hnames,hb1⟩
 have HN:=h_ hnames
 replace HK:=mB HK hb1;replace HS:=h_ (HS.u.mono hb1);replace HB:=mT HB hb1
 clear hW0 y0 y1 y2 y3 hb1 hnames
 have HE2:Hi (m.F.length=(fNames m).length):=h_ (by simp[fNames])
 go_wp2_with fail
 have hcr:=q46 an cn (fNames m) W1 (by rw[<- HE2.u];have:=HC.u.f;omega) (fun x hx=>by obtain⟨y,hy,rfl⟩:=Zc.1 hx;exact(HF.u.f y hy).nm) HN.u
 rw[<- HE2.u]at hcr
 refine hcr.mono ?_
 rintro r W2 ⟨rfl,hm,hb1⟩
 replace HK:=mB HK hb1;replace HS:=h_ (HS.u.mono hb1);replace HB:=mT HB hb1
 have HM:=h_ hm
 clear hb1 hm hcr HN
 have HX:=h_ (Blk.new W2 54 #[.map (some W1.heap.size)])
 have HBx:=h_ ((bR W2.heap.size W2).alloc (nR _) (.cells #[.map (some W1.heap.size)] 54))
 obtain⟨W3,hW3⟩:=Nq (W2.alloc (.cells #[.map (some W1.heap.size)] 54))
 rw[hW3]at HX HBx
 replace HK:=h_ (HK.u.mono HBx.u HK.u.lt);replace HS:=h_ (HS.u.mono HBx.u);replace HB:=h_ (HB.u.trans (HBx.u.mono HB.u.size));replace HM:=h_ (HM.u.mono HBx.u)
 obtain⟨y0,y1,y2,y3⟩:=quad HK.u
 go_wp2_with fail
 try rw[hW3]
 clear hW3
 refine(q0s af afc W2.heap.size W1.heap.size m.F afa (fNames m) W3 HC.u.f HF.u.f HS.u.f HM.u HX.u.lt (HX.u.cell 0)).mono ?_
 rintro r W4 ⟨x,rfl,hx,hb1⟩
 have HR:=h_ hx
 replace HB:=mT HB hb1
 clear hx hb1 y0 y1 y2 y3
 go_wp2_with fail
 go_ret
 exact⟨_,rfl,HR.u,HB.u⟩
def Caps (m:Fm)(A:MA):Prop:=∀k (h:k<m.F.length),(m.F[k]).bys.length<=(A.fa k).bc
theorem q04 (m:Fm)(A:MA)(w:World)(hf:FitM m)(hc:Counts m)(ha:MSl w m A)(hcap:Caps m A)(ht:Tabs w) :
 Calls Tryz.prog 112 #[mV m A] w fun r w'=>r=.returned (.bool (m.F.all (fieldOk m.L.length m.R.length)))/\Below w.heap.size w w':=by
 obtain⟨al,alc,ap,apc,ar,arc,af,afc,afa⟩:=A
 unfold mV
 dsimp only
 have HK:=h_ (Blk.new w 28 (Jb al m alc ap apc ar arc af afc))
 have HB:=h_ ((bR w.heap.size w).alloc (nR _) (.cells (Jb al m alc ap apc ar arc af afc) 28))
 obtain⟨W0,hW0⟩:=Nq (w.alloc (.cells (Jb al m alc ap apc ar arc af afc) 28))
 rw[hW0]at HK HB
 have HS:=h_ (ha.mono HB.u);have HF:=h_ hf;have HT:=h_ (ht.mono HB.u);have HCp:=h_ hcap
 have hl:=hc.l;have hr:=hc.r;have hfl:=hc.f
 obtain⟨q,hq⟩:=Nq (m.F.all (fieldOk m.L.length m.R.length))
 rw[hq]
 have HQ:=h_ hq
 clear ha hf hc hq ht hcap
 obtain⟨y0,y1,y2,y3⟩:=quad HK.u
 go_enter Tryz.func112,Tryz.ntmps112
 go_wp2_with fail
 try rw[hW0]
 clear hW0 y0 y1 y2 y3
 go_loopw [8] (fun i wr=>∃k:Nat,k<=m.F.length/\i=J9 k/\(∀j (h:j<m.F.length),j<k->fieldOk m.L.length m.R.length m.F[j]=true)/\Below W0.heap.size W0 wr) (fun i _=>m.F.length - (intOf i).toNat)
 case atStart=>exact⟨0,nZ _,rfl,fun j _ hj=>absurd hj (nL _),bR _ _⟩
 case round =>
  obtain⟨k,hk,rfl,hall,hb⟩:=hrel;have HL:=h_ hall;have HB1:=h_ hb;have HSr:=h_ (HS.u.mono hb);have HKr:=mB HK hb;have HTr:=h_ (HT.u.mono hb);clear hall hb;by_cases hlt:k<m.F.length
  . have hlt':(k:Int)<m.F.length:=by omega
    obtain⟨pb,po,rfl,⟨-,z0,z1,z2,z3,z4,z5,z6,z7,z8⟩,hsl⟩:=HSr.u.f k hlt;dsimp only at z3 z4 z5 z6 z8 hsl;have hcap:=HCp.u k hlt;dsimp only at hcap;have HFk:=h_ (HF.u.f _ (Yk hlt));have HX:Hi (fieldOk m.L.length m.R.length m.F[k]=false->q=false):=h_ fun h=>by
     rw[<- HQ.u];exact Vh.2 ⟨m.F[k],Yk hlt,by simp[h]⟩
    have HG:Hi (fieldOk m.L.length m.R.length m.F[k]=true->∀j (h:j<m.F.length),j<k+1->fieldOk m.L.length m.R.length m.F[j]=true):=h_ fun g1 j h hj=>by
     by_cases ej:j=k
     . subst ej;exact g1
     . exact HL.u j h (by omega)
    generalize m.F[k]=f at *;generalize afa k=fa at *;obtain⟨ab,abc,ai,aic,ah,ahc,av,avc,au,auc⟩:=fa;dsimp only at z3 z4 z5 z6 z8 hcap;have HKf:=h_ (Blk.new wr 42 (Ja f ab abc ai aic ah ahc av avc au auc));have HBf:=h_ ((bR wr.heap.size wr).alloc (nR _) (.cells (Ja f ab abc ai aic ah ahc av avc au auc) 42));obtain⟨Wd,hWd⟩:=Nq (wr.alloc (.cells (Ja f ab abc ai aic ah ahc av avc au auc) 42));rw[hWd]at HKf HBf;have HBd:=h_ (HB1.u.trans (HBf.u.mono HB1.u.size));have HKd:=h_ (HKr.u.mono HBf.u HKr.u.lt);have HCf:=h_ (q0l f ⟨ab,abc,ai,aic,ah,ahc,av,avc,au,auc⟩ m.L.length m.R.length Wd HFk.u hcap (hsl.mono HBf.u) (HTr.u.mono HBf.u));unfold fV at HCf;dsimp only at HCf;obtain⟨x0,x1,x2,x3,x4,x5,x6,x7,x8⟩:=nine HKf.u;obtain⟨v0,v1,v2,v3⟩:=quad HKd.u;generalize fieldOk m.L.length m.R.length f=g at *;clear hsl hcap;go_wp2_with fail
    try rw[hWd]
    refine HCf.u.mono ?_;rintro e W2 ⟨rfl,hb2⟩;have HB2:=mT HBd hb2;clear hb2 hWd x0 x1 x2 x3 x4 x5 x6 x7 x8 v0 v1 v2 v3 z0 z1 z2 z3 z4 z5 z6 z7 z8;cases g
    . have HX2:=h_ (HX.u rfl)
      go_wp2_with fail;go_ret;exact⟨qg2 HX2.u.symm,HB.u.trans (HB2.u.mono HB.u.size)⟩
    . have HG2:=h_ (HG.u rfl)
      go_wp2_with fail;go_roundw
      case rel=>first | exact⟨k+1,by omega,by go_num,HG2.u,HB2.u⟩ | ((repeat apply Exists.intro);exact⟨⟨k+1,by omega,by go_num,HG2.u,HB2.u⟩,rfl⟩)
      case measure=>simp[intOf];omega
  . obtain rfl:k=m.F.length:=by omega
    have hlt':¬ (m.F.length:Int)<(m.F.length:Int):=(by omega);have HX:Hi (q=true):=h_ (by
     rw[<- HQ.u];exact Y2.2 fun x hx=>by
      obtain⟨j,hj,rfl⟩:=Yy.1 hx;exact HL.u j hj hj)
    go_wp2_with fail;go_ret;exact⟨qg2 HX.u.symm,HB.u.trans (HB1.u.mono HB.u.size)⟩
end Go.Proofs.YtebbgodlijlioaaGreatDoor
