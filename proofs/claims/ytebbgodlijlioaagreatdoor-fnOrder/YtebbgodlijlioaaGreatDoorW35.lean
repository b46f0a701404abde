import Derived.Test.YtebbgodlijlioaaGreatDoorW31
import Derived.Test.YtebbgodlijlioaaGreatDoorW30
import Derived.OpenShut
import Derived.Carry
import Derived.Deep.DeepHandedRow
import Derived.Deep.Grids
import Derived.Lib.LaidTab
import Derived.Lib.SmallJoins
import Derived.Test.YtebbgodlijlioaaGreatDoorCards
import Derived.Test.YtebbgodlijlioaaGreatDoorTie
import Derived.Stop.LaidErr
import Derived.Deep.Slices
import Derived.Test.YtebbgodlijlioaaGreatDoorShelf3
import Derived.OrdersIn
set_option maxRecDepth 100000
set_option maxHeartbeats 64000000
namespace Go.Proofs.YtebbgodlijlioaaGreatDoor
open Go Go.RowKit Go.ChangeShapes Go.WideShapes Go.ChangeAt
section
variable {H:Type} {enc:TypeId × Value->H} {P:Program} {w:World} {base:Nat} {spare:Nat->Bool} {held:Bool}
end
theorem knobsV:ownKnob Tryz.prog.godebug=none:=by kernel_rfl
theorem laidOutV:laidOutB Tryz.prog=true:=by kernel_rfl
theorem cellsStr:Tryz.prog.cellsOf 9=1:=by kernel_rfl
theorem gPow:Tryz.prog.globalNamed "internal/strconv.uint64pow10" = some 4:=by kernel_rfl
theorem gPowType:(Tryz.prog.globals[4]?).map (·.type)=some 221:=by kernel_rfl
theorem cellsPow:Tryz.prog.cellsOf 221=20:=by kernel_rfl
theorem cellsU64:Tryz.prog.cellsOf 213=1:=by kernel_rfl
theorem pow_eq:(Rows.laid_internal_strconv_uint64pow10:DataW Unit)=Lib.tabData .u64 Lib.pow10Tab:=by rfl
theorem pow_of {W:World}{rest:List (String × DataW Unit)}(h:laidMet Tryz.prog (("math/bits.deBruijn32tab",Rows.laid_math_bits_deBruijn32tab) :: ("math/bits.deBruijn64tab",Rows.laid_math_bits_deBruijn64tab) :: ("internal/strconv.uint64pow10",Rows.laid_internal_strconv_uint64pow10) :: rest) W):Pow W:=by
 have h2:=h.tail.tail
 rw[pow_eq]at h2
 exact Lib.tabIs_of_head gPow gPowType Tryz.underlying221 Tryz.underlying213 cellsU64 cellsPow h2
def laidT (k:IntKind)(zs:List Int):Obj->Obj:=fun
 | .cells _ t frozen=>.cells (zs.map (fun z=>Value.int k z)).toArray t frozen
 | o=>o
section
variable {H:Type} {enc:TypeId × Value->H} {P:Program} {w:World} {base:Nat} {held:Bool}
theorem q27 {enc:TypeId × Value->H}{sp:Nat->Bool}{fuel:Nat}{t e:TypeId}{n:Nat}{cs:List Value}{zs:List (List UInt8)}{p:List MemPlace}
 (ht:P.underlying t=some (.array n e)) (he:P.underlying e=some .string) (hce:P.cellsOf e=1) (hct:P.cellsOf t=n)
 (h:DataW.trod enc P w base sp held fuel t cs=some (.agg (zs.map fun z=>.lit (.string z)),p)):cs=zs.map fun z=>Value.string ⟨z.toArray⟩:=by
 cases fuel with
 | zero=>simp[DataW.trod]at h
 | succ fuel =>
  simp only[DataW.trod,ht,hce,hct,Nat.mul_one]at h;split at h
  . rename_i hl
    obtain⟨xs,hm,hx⟩:=Option.map_eq_some_iff.1 h;have hxs:xs.map (·.1)=zs.map fun z=>(DataW.lit (.string z):DataW H):=by
     have:=congrArg Prod.fst hx;simpa using this
    have hxl:xs.length=n:=(by simpa using Lib.mapM_length hm);have hzl:zs.length=n:=by
     have:=congrArg List.length hxs;simp at this;omega
    apply List.ext_getElem?;intro i;by_cases hi:i<n
    . obtain⟨b,hb,hf⟩:=Lib.mapM_at hm i i (by simp[hi])
      obtain⟨s,hc,rfl,_⟩:=DataW.trod_string he hf;have h1:cs[i]? = some (.string s):=by
       have:=congrArg (·[0]?) hc;simpa [List.getElem?_take,List.getElem?_drop] using this
      have h2:(xs.map (·.1))[i]? = some (DataW.lit (.string s.data.toList):DataW H):=(by simp[hb]);rw[hxs]at h2;simp only[Zk,Option.map_eq_some_iff,DataW.lit.injEq,Lit.string.injEq]at h2;obtain⟨z',hz',rfl⟩:=h2;simp[h1,hz']
    . rw[Vs (by omega),Vs (by simp;omega)]
  . cases h
end
theorem gWrd:Tryz.prog.globalNamed "loop.example/s0011/impl.operatorWords" = some 3:=by kernel_rfl
theorem gWrdType:(Tryz.prog.globals[3]?).map (·.type)=some 218:=by kernel_rfl
theorem cellsWrd:Tryz.prog.cellsOf 218=26:=by kernel_rfl
theorem wrd_eq:(Rows.laid_loop_example_s0011_impl_operatorWords:DataW Unit)=.agg ((wrdT.map (·.data.toList)).map fun z=>.lit (.string z)):=by rfl
theorem q6i {W:World}{rest:List (String × DataW Unit)}(h:laidMet Tryz.prog (("loop.example/s0011/impl.operatorWords",Rows.laid_loop_example_s0011_impl_operatorWords) :: rest) W):Wrds W:=by
 rw[wrd_eq]at h
 obtain⟨ps,⟨g',t',cs,fuel,p,q,hg',ht',hvar,hd,_,_⟩,_⟩:=h
 obtain rfl:=Zt (gWrd.symm.trans hg')
 obtain rfl:=Zt (gWrdType.symm.trans ht')
 have hc:=q27 Tryz.underlying218 Tryz.underlying9 cellsStr cellsWrd hd
 have hcell:∀k,k<26->W.cell? ⟨3,k,none⟩=some (.string (wrdT.getD k ⟨#[]⟩)):=fun k hk=>by
  have:=World.var?_cell gWrd hvar k;rw[this];have e:cs[k]? = cs.toList[k]?:=by simp
  rw[e,hc];have hl:wrdT.length=26:=rfl;simp only[List.map_map,Zk];rw[Yi (by omega)];simp[List.getD,List.getElem?_eq_getElem (show k<wrdT.length by omega)]
 refine⟨?_,hcell⟩
 apply O4
 intro h0
 have hz:=hcell 0 (by omega)
 have e:W.heap[(3:Nat)]? = none:=Array.getElem?_eq_none h0
 simp[World.cell?,e]at hz
def laidS (zs:List ByteArray):Obj->Obj:=fun
 | .cells _ t frozen=>.cells (zs.map Value.string).toArray t frozen
 | o=>o
end Go.Proofs.YtebbgodlijlioaaGreatDoor
namespace Go.Proofs.YtebbgodlijlioaaGreatDoor
open Go Go.RowKit
theorem qm7 (f:Nat->Nat)(x v i:Nat):((up f x v i:Nat):Int)=up (fun i=>((f i:Nat):Int)) x (v:Int) i:=by
 unfold up
 split <;> rfl
theorem qi8 {L:Nat->List Nat}{n j p:Nat}(h:p<(L j).length):(zs n fun i=>((cntP L j p i:Nat):Int)).set (L j)[p] (J9 (((cntP L j p (L j)[p]:Nat):Int)+1))=zs n fun i=>((cntP L j (p+1) i:Nat):Int):=by
 rw[zs_set]
 refine qhd fun i _=>?_
 rw[qa8 h i,qm7]
 rfl
theorem qi7 {L:Nat->List Nat}{B:Nat}(hL:∀j,(L j).length<=B)(j p i:Nat):cntP L j p i<=(j+1)*B:=by
 have h1:=qi6 hL i j
 have h2:=Oe (a:=i) (l:=(L j).take p)
 have h3:((L j).take p).length<=(L j).length:=List.length_take_le' _ _
 have h4:=hL j
 unfold cntP
 rw[Zw]
 omega
theorem q36 (F n base:Nat)(V:Nat->Value)(L:Nat->List Nat)(w:World)(hn:n<=200)(hH:HoldF w F n V)(hFm:Fam w base n V L)(hL:∀j i,i∈L j->i<n)(hLl:∀j,(L j).length<=400000) :
 Calls Tryz.prog 63 #[.slice (some ⟨F,0,none⟩) n n] w fun r w'=>r=.returned (.slice (some ⟨w.heap.size,0,none⟩) n n)/\Blk w' w.heap.size 3 (zs n fun i=>((cntL L n i:Nat):Int))/\Below w.heap.size w w':=by
 have HH:=h_ hH;have HFm:=h_ hFm;have HL:=h_ hL;have HLl:=h_ hLl
 obtain⟨i0,hi,hz0,hz1,hz2⟩:=info_parts infoI
 have hbn:i0.bytes*n<=281474976710656:=by rw[hz2];omega
 have hFw:F<w.heap.size:=hH.lt
 clear hH hFm hL hLl
 go_enter Tryz.func63,Tryz.ntmps63
 go_wp2_with (at_make;refine wpList_make_full _ rfl (.tmp 9) (.tmp 9) 30 rfl w.heap.size 3 i0 _ 1 Tryz.underlying30 hi hz0 hz1 .i64 .i64 _ _ n rfl rfl rfl rfl hbn (by unfold maxLen;omega) (nR _) ?_)
 intro w1 hown hgrow
 obtain⟨C,hC⟩:=Nq w.heap.size
 have hb1:Below C w w1:=by rw[<- hC];exact(bR _ _).grown hgrow (nR _) (fun k e=>by cases e)
 rw[hC]at hown hFw
 try rw[hC]
 have HZ:=h_ (qme hown);have HB1:=h_ hb1
 clear hown hgrow hb1 hbn hi hz0 hz1 hz2
 go_wp2_with fail
 go_loopw [13] (fun i wr=>∃j:Nat,j<=n/\i=J9 j/\Blk wr C 3 (zs n fun i=>((cntL L j i:Nat):Int))/\Below C w wr) (fun i _=>n - (intOf i).toNat)
 case atStart=>exact⟨0,nZ _,rfl,HZ.u,HB1.u⟩
 case round =>
  clear HZ HB1;obtain⟨j,hj,rfl,hz,hb⟩:=hrel;have HZ:=h_ hz;have HB:=h_ hb;have HBw:Hi (Below w.heap.size w wr):=h_ (by rw[hC];exact hb);clear hz hb;by_cases hlt:j<n
  . have hlt':(j:Int)<n:=by omega
    have zj:=(HB.u.cell (p:=⟨F,j,none⟩) hFw).trans (HoldF.at HH.u hlt);have hoj:=HFm.u.own j hlt;obtain⟨a,c,e,-⟩:=own_at hoj;rw[e]at zj hoj;have HOj:=h_ hoj;have HLj:=h_ (HL.u j);have HSt:Hi (∀l,L j=l->∀p (h:p<l.length),(zs n fun i=>((cntP L j p i:Nat):Int)).set l[p] (J9 (((cntP L j p l[p]:Nat):Int)+1))=zs n fun i=>((cntP L j (p+1) i:Nat):Int)):=h_ fun l e p h=>by subst e;exact qi8 h
    have HCl:Hi (∀p i,cntP L j p i<=80000000):=h_ fun p i=>by
     have:=qi7 HLl.u j p i;have:(j+1)*400000<=200*400000:=Zs _ (by omega);omega
    have HFu:Hi (cntP L j (L j).length=cntL L (j+1)):=h_ (qa7 L j);have HZ0:Hi (Blk wr C 3 (zs n fun i=>((cntP L j 0 i:Nat):Int))):=h_ (by rw[qa9];exact HZ.u);have hll:=HLl.u j;obtain⟨l,hl⟩:=Nq (L j);rw[hl]at HOj HLj HFu hll zj;have HSp:=h_ (HSt.u l hl);clear hl HSt e hoj HZ;go_wp2_with fail;go_loopw [19] (fun i w3=>∃p:Nat,p<=l.length/\i=J9 p/\Blk w3 C 3 (zs n fun i=>((cntP L j p i:Nat):Int))/\Below C w w3) (fun i _=>l.length - (intOf i).toNat)
    case atStart=>exact⟨0,nZ _,rfl,HZ0.u,HB.u⟩
    case round =>
     clear HZ0 HB HBw zj;obtain⟨p,hp,rfl,hz,hb⟩:=hrel;have HZ:=h_ hz;have HB:=h_ hb;have HBw:Hi (Below w.heap.size w wr):=h_ (by rw[hC];exact hb);clear hz hb;by_cases hpl:p<l.length
     . have hpl':(p:Int)<l.length:=by omega
       obtain⟨g2,rfl,hg2,-,zc⟩:=qfh (qbz HOj.u HBw.u) p hpl;have hxn:l[p]<n:=HLj.u _ (Yk hpl);have hxn':((l[p]:Nat):Int)<n:=(by omega);have HS:=h_ (HSp.u p hpl);have hcl:=HCl.u p l[p];have zx:=(HZ.u.cell l[p]).trans (zs_at _ hxn);have fx:=HZ.u.free l[p];generalize l[p]=x at *;have HSet:=h_ (HZ.u.set x (J9 (((cntP L j p x:Nat):Int)+1)));rw[HS.u]at HSet;have HB2:=h_ (HB.u.setCell (p:=⟨C,x,none⟩) (nR C) (J9 (((cntP L j p x:Nat):Int)+1)));generalize hq:cntP L j p x=q at *;clear hq;have hq':((q:Nat):Int)<=80000000:=(by omega);go_wp2_with fail;go_roundw
       case rel=>first | exact⟨p+1,by omega,by go_num,HSet.u,HB2.u⟩ | ((repeat apply Exists.intro);exact⟨⟨p+1,by omega,by go_num,HSet.u,HB2.u⟩,rfl⟩)
       case measure=>simp[intOf];omega
     . obtain rfl:p=l.length:=by omega
       have hpl':¬ (l.length:Int)<(l.length:Int):=(by omega);have HZ2:=HZ;rw[HFu.u]at HZ2;go_wp2_with fail;go_roundw
       case rel=>first | exact⟨j+1,by omega,by go_num,HZ2.u,HB.u⟩ | ((repeat apply Exists.intro);exact⟨⟨j+1,by omega,by go_num,HZ2.u,HB.u⟩,rfl⟩)
       case measure=>simp[intOf];omega
  . obtain rfl:j=n:=by omega
    have hlt':¬ (j:Int)<(j:Int):=(by omega);go_wp2_with fail;go_ret
    first | exact⟨rfl,HZ.u,HB.u⟩ | exact⟨rfl,HZ.u,HBw.u⟩
theorem qf4 (m:Fm)(C i:Nat)(w:World)(hv:VfA m)(hC:Blk w C 3 (zs m.F.length (waitZ m (ordL m i)))) :
 Calls Tryz.prog 64 #[.slice (some ⟨C,0,none⟩) m.F.length m.F.length,J9 0] w fun e w'=>e=.returned (J9 (nxI m (ordL m i)))/\w'=w:=by
 have hnf:=hv.nf
 have hget:∀j,j<m.F.length->((List.range m.F.length).map (waitZ m (ordL m i))).getD j 0=waitZ m (ordL m i) j:=fun j hj=>by
  rw[Yl];simp[hj]
 have h:=Tryz.slices_Index_int C 0 m.F.length m.F.length ((List.range m.F.length).map (waitZ m (ordL m i))) 0 w (by simp) (by omega) (fun j hj=>by
  have hj':j<m.F.length:=by simpa using hj
  rw[hget j hj',Zj];exact(hC.cell j).trans (zs_at _ hj'))
 have e:Lib.idxOf (((List.range m.F.length).map (waitZ m (ordL m i))).take m.F.length) 0=nxI m (ordL m i):=by
  cases hx:nxt m (ordL m i) with
  | some k =>
   obtain⟨hk,h1,h2⟩:=qfc hx;rw[qfa hx];refine Lib.idxOf_hit _ _ k 0 hk (by simp) ?_ fun j hj=>?_
   . rw[hget k hk];exact(qd6 hv i hk).2 h1
   . rw[hget j (by omega)]
     intro h0;have:=(qd6 hv i (by omega)).1 h0;rw[h2 j hj]at this;cases this
  | none =>
   rw[qf9 hx];refine Lib.idxOf_miss _ _ 0 fun j hj=>?_;rw[hget j hj];intro h0;have:=(qd6 hv i hj).1 h0;rw[qfb hx j hj]at this;cases this
 rw[e]at h
 exact h
end Go.Proofs.YtebbgodlijlioaaGreatDoor
namespace Go.Proofs.YtebbgodlijlioaaGreatDoor
open Go Go.RowKit Go.Shelf
attribute [local go_sem] Oper.semAt_some
theorem sum_le {n:Nat}{f g:Nat->Nat}(h:∀j,j<n->f j<=g j):((List.range n).map f).sum<=((List.range n).map g).sum:=by
 induction n with
 | zero=>exact nR _
 | succ n ih =>
  rw[Za];simp only[Zf,V9,Zo,Vi,Oc,O0,Zr];have:=ih fun j hj=>h j (by omega);have:=h n (by omega);omega
theorem sum_lt {n:Nat}{f g:Nat->Nat}(h:∀j,j<n->f j<=g j){x:Nat}(hx:x<n)(hlt:f x<g x):((List.range n).map f).sum<((List.range n).map g).sum:=by
 induction n with
 | zero=>omega
 | succ n ih =>
  rw[Za];simp only[Zf,V9,Zo,Vi,Oc,O0,Zr];by_cases e:x=n
  . subst e
    have:=sum_le (n:=x) fun j hj=>h j (by omega);omega
  . have:=ih (fun j hj=>h j (by omega)) (by omega)
    have:=h n (by omega);omega
def leftN (w:World)(C n:Nat):Nat:=((List.range n).map fun j=>(intOf ((w.cell? ⟨C,j,none⟩).getD undef)+1).toNat).sum
theorem qem {w:World}{C n:Nat}{f:Nat->Int}(h:Blk w C 3 (zs n f)):leftN w C n=((List.range n).map fun j=>(f j+1).toNat).sum:=by
 unfold leftN
 congr 1
 refine Z2 fun j hj=>?_
 rw[(h.cell j).trans (zs_at f (Y3.1 hj))]
 rfl
theorem qbf {w w':World}{m:Fm}{C x:Nat}{D:List Nat}(hx:x<m.F.length)(hn:x ∉ D)(h0:waitZ m D x=0)(h:Blk w C 3 (zs m.F.length (waitZ m D)))(h':Blk w' C 3 (zs m.F.length (waitZ m (D++[x])))):leftN w' C m.F.length<leftN w C m.F.length:=by
 rw[qem h,qem h']
 refine sum_lt (fun j _=>?_) hx ?_
 . rw[qd5 m D x hn j]
   split <;> omega
 . rw[qd5 m D x hn x,h0,Yz rfl]
   omega
theorem qkh (m:Fm)(i:Nat):(ordL m i).length<=m.F.length:=by
 have h:=pigeon m.F.length ((ordL m i).map fun k=>((k:Nat):Int)) ?_ ?_
 . simpa using h
 . exact List.Pairwise.map _ (fun a b h e=>h (by omega)) (q8o m i)
 . intro x hx
   obtain⟨k,hk,rfl⟩:=Zc.1 hx;have:=qki m i k hk;omega
theorem qha (m:Fm)(D:List Nat)(k:Nat):-1<=waitZ m D k:=by
 unfold waitZ
 split <;> omega
theorem qh9 (m:Fm)(D:List Nat)(k:Nat):waitZ m D k<=(fedL m k).length:=by
 unfold waitZ
 have:=Vr (fun j=>!decide (j∈D)) (fedL m k)
 split <;> omega
theorem qh8 {m:Fm}{D:List Nat}{x p k:Nat}(hv:VfA m):-2 - 402000<=waitP m D x p k:=by
 unfold waitP
 have h1:=qha m D k
 have h2:=Oe (a:=k) (l:=(fedT m m.F.length x).take p)
 have h3:((fedT m m.F.length x).take p).length<=(fedT m m.F.length x).length:=List.length_take_le' _ _
 have h4:=qdy hv x m.F.length (nR _)
 have h5:=hv.nf
 split <;> omega
theorem qh7 {m:Fm}{D:List Nat}{x p k:Nat}(hv:VfA m)(hk:k<m.F.length):waitP m D x p k<=2000:=by
 unfold waitP
 have h1:=qh9 m D k
 have h2:=qdw hv hk
 split <;> omega
theorem qag {X:Nat->Prop}{hi:Nat}{w w':World}{base n:Nat}{V:Nat->Value}{L:Nat->List Nat}(h:Fam w base n V L)(hk:KeepB X hi w w')(hq:∀j,j<n->∀q,(V j).ownBlock=some q->q<hi/\¬ X q):Fam w' base n V L:=⟨fun j hj=>hk.owns (h.own j hj) (hq j hj),h.apart⟩
theorem qah {w:World}{base n C k:Nat}{V:Nat->Value}{L:Nat->List Nat}(h:Fam w base n V L)(v:Value)(hC:∀j,j<n->(V j).ownBlock≠some C):Fam (w.setCell ⟨C,k,none⟩ v) base n V L :=
 ⟨fun j hj=>(h.own j hj).kept (row:=some C) ⟨rfl,rfl,rfl,by simp,fun i _ hne=>heap_setCell_other w ⟨C,k,none⟩ i v (fun e=>hne (by rw[e]))⟩ (.inr (hC j hj)),h.apart⟩
theorem q5z (m:Fm)(A:MA)(b B:Nat)(w0:World)(X:Nat->Prop)(hv:VfA m)(hf:FitM m)(hW:Blk w0 B 56 [.slice A.l m.L.length A.lc,.slice A.p m.P.length A.pc,.slice A.r m.R.length A.rc,.slice A.f m.F.length A.fc,.map (some b)])(ha:MSl w0 m A)(hm:PMap w0 b (fNames m)) :
 GivesH Tryz.prog 61 #[Yc B 0] (fun pre x=>pre=ordL m pre.length/\pre.length<m.F.length/\nxt m pre=some x) (fun xs=>xs=ordL m m.F.length) X w0:=by
 intro n l J W hb hJ h0 hX hY
 have HCf:=h_ (qin m A b W hv hf (ha.mono hb) (hm.mono hb))
 have HV:=h_ hv;have HY:=h_ hY;have HJ:=h_ hJ;have HX:=h_ hX
 have hK:=hW.mono hb hW.lt
 obtain⟨y0,y1,y2,y3,y4⟩:=five hK
 have H0:=h_ h0
 unfold wV at HCf
 have hnf:=hv.nf
 clear hY hJ hX h0 hK ha hm hW hb hf hv
 refine callsIn_of_wp Tryz.func61 rfl trivial ?_ rfl
 simp only[Tryz.ntmps61,Zh,Ys,Y4,Nat.reduceAdd,Nat.reduceSub,Z9,Z8,Vg,Vb,Vj,Zn]
 gi_wp2_with fail
 refine callW (HCf.u.mono ?_)
 rintro e w1 ⟨F,V,rfl,hF,hh,hfam,hb1⟩
 clear y0 y1 y2 y3 y4 HCf
 have HCc:=h_ (q36 F m.F.length (F+1) V (fedT m m.F.length) w1 hnf hh hfam (fun j i hi=>qim m _ j i hi) (fun j=>by have:=qdy HV.u j m.F.length (nR _);omega))
 have hFw:F<w1.heap.size:=hh.lt
 have HB1:=h_ hb1;have HH:=h_ hh;have HFm:=h_ hfam
 have HFq:Hi (∀j,j<m.F.length->∀q,(V j).ownBlock=some q->F<q/\q<w1.heap.size):=h_ fun j hj q e=>(hfam.own j hj).lt q e
 have HFb:Hi (∀j,j<m.F.length->(V j).ownBlock≠some w1.heap.size):=h_ fun j hj=>own_lt (hfam.own j hj) (nR _)
 clear hh hfam hb1
 gi_wp2_with fail
 refine callW (HCc.u.mono ?_)
 rintro e w2 ⟨rfl,hz,hb2⟩
 obtain⟨C,hC⟩:=Nq w1.heap.size
 rw[hC]at hz hFw HFb HFq
 try rw[hC]
 have hz0:Blk w2 C 3 (zs m.F.length (waitZ m (ordL m 0))):=by
  have e:zs m.F.length (fun i=>((cntL (fedT m m.F.length) m.F.length i:Nat):Int))=zs m.F.length (waitZ m []):=qhd fun i hi=>qa5 HV.u hi;rw[e]at hz;exact hz
 have hWC:W.heap.size<=C:=by omega
 have HZ:=h_ hz0;replace HH:=h_ (Blk.mono HH.u hb2 (by omega));replace HFm:=h_ (HFm.u.mono hb2)
 have HJ0:=h_ (H0.u w2 (HB1.u.trans (hb2.mono (by omega))))
 have hsW:W.heap.size<=w2.heap.size:=by have:=hb2.size;omega
 have hCh:C<w2.heap.size:=HZ.u.lt
 obtain⟨hi,hhi⟩:=Nq w2.heap.size
 rw[hhi]at HJ0 hsW hCh
 clear hhi
 clear hz hz0 hb2 HCc H0 HB1
 gi_wp2_with fail
 refine callW ((qf4 m C 0 w2 HV.u HZ.u).mono ?_)
 rintro e w3 ⟨rfl,rfl⟩
 gi_wp2_with fail
 gi_loopw [5] (fun v wr=>∃i:Nat,(ordL m i).length=i/\v=J9 (nxI m (ordL m i))/\HoldF wr F m.F.length V/\Fam wr (F+1) m.F.length V (fedT m m.F.length)/\Blk wr C 3 (zs m.F.length (waitZ m (ordL m i)))/\J hi (ordL m i) wr) (fun _ wr=>leftN wr C m.F.length)
 case atStart=>exact⟨0,rfl,rfl,HH.u,HFm.u,HZ.u,HJ0.u⟩
 case round =>
  clear HH HFm HZ HJ0;obtain⟨i,hil,rfl,hh,hfam,hz,hj⟩:=hrel;have HH:=h_ hh;have HFm:=h_ hfam;have HZ:=h_ hz;have HJi:=h_ hj;have hCr:C<wr.heap.size:=hz.lt;clear hh hfam hz hj;cases hnx:nxt m (ordL m i) with
  | none =>
   have he:=qf9 hnx;have HE:Hi (ordL m i=ordL m m.F.length):=h_ (by
    have h1:=q8p hnx (m.F.length - i);have h2:=qkh m i;rw[show i+(m.F.length - i)=m.F.length by omega]at h1;exact h1.symm)
   rw[he];clear hnx he;gi_wp2_with fail
   go_end0
   exact⟨⟨_,rfl⟩,hi,_,HE.u,HJi.u⟩
  | some x =>
   obtain⟨hx,hr,-⟩:=qfc hnx;have he:=qfa hnx;have HXi:Hi (x ∉ ordL m i):=h_ fun hin=>by
    unfold rdyB at hr;rw[Ym hin]at hr;simp at hr
   have hx0:waitZ m (ordL m i) x=0:=(qd6 HV.u i hx).2 hr;have HX0:=h_ hx0;have HO:Hi (ordL m (i+1)=ordL m i++[x]):=h_ (qbp hnx);have HP0:Hi (zs m.F.length (up (waitZ m (ordL m i)) x (-1))=zs m.F.length (waitP m (ordL m i) x 0)):=h_ (qhd fun k _=>by rw[<- q9f,hx0];rfl);have HPs:Hi (∀l,fedT m m.F.length x=l->∀p (h:p<l.length),zs m.F.length (up (waitP m (ordL m i) x p) l[p] (waitP m (ordL m i) x p l[p] - 1))=zs m.F.length (waitP m (ordL m i) x (p+1))):=h_ fun l e p h=>by subst e;exact qhd fun k _=>q9e h k
   have HPf:Hi (zs m.F.length (waitP m (ordL m i) x (fedT m m.F.length x).length)=zs m.F.length (waitZ m (ordL m i++[x]))):=h_ (qhd fun k hk=>q9d HXi.u hk);have HPl:=h_ fun p k=>qh8 (m:=m) (D:=ordL m i) (x:=x) (p:=p) (k:=k) HV.u;have HPh:=h_ fun p k (hk:k<m.F.length)=>qh7 (m:=m) (D:=ordL m i) (x:=x) (p:=p) HV.u hk;rw[he];have hx':(x:Int)<m.F.length:=by omega
   have HTx:Hi (ordL m i=ordL m (ordL m i).length/\(ordL m i).length<m.F.length/\nxt m (ordL m i)=some x):=h_ ⟨by rw[hil],by
    have h1:=qkh m (i+1);rw[HO.u,Yg]at h1;simp at h1;omega,hnx⟩
   have hyy:=HY.u (n - 1) hi (ordL m i) x wr HJi.u HTx.u;obtain⟨fn,tmps,assign,body,hy,hRd⟩:=hyy;have HRD:=h_ hRd;clear hRd hnx he hr hx0;gi_wp2_with fail;refine⟨noDepth,HRD.u.mono ?_⟩;rintro e W3 ⟨rfl,hj3,hk3⟩
   . have HH3:=h_ (hk3.blk HH.u (by omega) (fun h=>by have:=HX.u _ h;omega))
     have HF3:=h_ (qag HFm.u hk3 (fun j hj q e=>by
      have h1:=HFq.u j hj q e;exact⟨by omega,fun h=>by have:=HX.u q h;omega⟩))
     have HZ3:=h_ (hk3.blk HZ.u (by omega) (fun h=>by have:=HX.u _ h;omega));have HJ3:=h_ hj3;have hs3:wr.heap.size<=W3.heap.size:=hk3.size;clear hk3 hj3 hy HRD;have zx:=(HZ3.u.cell x).trans (zs_at _ hx);rw[HX0.u]at zx;have fx:=HZ3.u.free x;have HZ4:=h_ (HZ3.u.set x (J9 (-1)));rw[zs_set,HP0.u]at HZ4;have HH4:=h_ (Blk.other HH3.u (a:=⟨C,x,none⟩) (J9 (-1)) (show F≠C by omega));have HF4:=h_ (qah (k:=x) HF3.u (J9 (-1)) HFb.u);have HJ4:=h_ (HJ.u _ _ _ _ HJ3.u (Out.set (a:=⟨C,x,none⟩) (J9 (-1)) hWC hCh));have zf:=HoldF.at HH4.u hx;have hox:=HF4.u.own x hx;obtain⟨a,c,e,-⟩:=own_at hox;rw[e]at zf;have HEx:=h_ e;have hll:=qdy HV.u x m.F.length (nR _);have HLt:=h_ fun k hk=>qim m m.F.length x k hk;obtain⟨W4,hW4⟩:=Nq (W3.setCell ⟨C,x,none⟩ (J9 (-1)));rw[hW4]at HZ4 HH4 HF4 HJ4 zf;have HFx:Hi (∀w',Fam w' (F+1) m.F.length V (fedT m m.F.length)->w'.ownsRow (F+1) 3 1 (.slice a (fedT m m.F.length x).length c) (fedT m m.F.length x).length (ui (fedT m m.F.length x))):=h_ fun w' hf=>by rw[<- HEx.u];exact hf.own x hx
     obtain⟨l,hl⟩:=Nq (fedT m m.F.length x);rw[hl]at zf hll HLt HPf HFx;have HPp:=h_ (HPs.u l hl);clear hl HPs e hox HEx HH3 HF3 HZ3 HJ3;gi_wp2_with fail
     try rw[hW4]
     clear hW4 zx fx zf;gi_loopw [33] (fun v w5=>∃p:Nat,p<=l.length/\v=J9 p/\HoldF w5 F m.F.length V/\Fam w5 (F+1) m.F.length V (fedT m m.F.length)/\Blk w5 C 3 (zs m.F.length (waitP m (ordL m i) x p))/\J hi (ordL m i++[x]) w5) (fun v _=>l.length - (intOf v).toNat)
     case atStart=>exact⟨0,nZ _,rfl,HH4.u,HF4.u,HZ4.u,HJ4.u⟩
     case round =>
      clear HZ4 HH4 HF4 HJ4;obtain⟨p,hp,rfl,hh,hfam,hz,hj⟩:=hrel;have HH5:=h_ hh;have HF5:=h_ hfam;have HZ5:=h_ hz;have HJ5:=h_ hj;clear hh hfam hz hj;by_cases hpl:p<l.length
      . have hpl':(p:Int)<l.length:=by omega
        obtain⟨g2,rfl,hg2,-,zc⟩:=qfh (HFx.u _ HF5.u) p hpl;have hkn:l[p]<m.F.length:=HLt.u _ (Yk hpl);have hkn':((l[p]:Nat):Int)<m.F.length:=(by omega);have HS:=h_ (HPp.u p hpl);have h1:=HPl.u p l[p];have h2:=HPh.u p l[p] hkn;have zk:=(HZ5.u.cell l[p]).trans (zs_at _ hkn);have fk:=HZ5.u.free l[p];generalize l[p]=k at *;have HZ6:=h_ (HZ5.u.set k (J9 (waitP m (ordL m i) x p k - 1)));rw[zs_set,HS.u]at HZ6;have HH6:=h_ (Blk.other HH5.u (a:=⟨C,k,none⟩) (J9 (waitP m (ordL m i) x p k - 1)) (show F≠C by omega));have HF6:=h_ (qah (k:=k) HF5.u (J9 (waitP m (ordL m i) x p k - 1)) HFb.u);have HJ6:=h_ (HJ.u _ _ _ _ HJ5.u (Out.set (a:=⟨C,k,none⟩) (J9 (waitP m (ordL m i) x p k - 1)) hWC hCh));clear HS;generalize waitP m (ordL m i) x p k=q at *;gi_wp2_with fail;exact⟨⟨p+1,by omega,by go_num,HH6.u,HF6.u,HZ6.u,HJ6.u⟩,by simp[intOf];omega⟩
      . obtain rfl:p=l.length:=by omega
        have hpl':¬ (l.length:Int)<(l.length:Int):=(by omega);have HZ6:=HZ5;rw[HPf.u,<- HO.u]at HZ6;have HJ6:=HJ5;rw[<- HO.u]at HJ6;have HCn:=h_ (qf4 m C (i+1) _ HV.u HZ6.u);gi_wp2_with fail;refine callW (HCn.u.mono ?_);rintro e w6 ⟨rfl,rfl⟩;gi_wp2_with fail;exact⟨⟨i+1,by rw[HO.u,Yg];simp;exact hil,rfl,HH5.u,HF5.u,HZ6.u,HJ6.u⟩,qbf hx HXi.u HX0.u HZ.u (by have h:=HZ6.u;rw[HO.u]at h;exact h)⟩
attribute [local go_sem] Oper.semAt_some
theorem q52 (n:Nat)(m:Fm)(A:MA)(b:Nat)(w:World)(hv:VfA m)(hf:FitM m)(ha:MSl w m A)(hm:PMap w b (fNames m)) :
 CallsIn Fence.wide n Tryz.prog 36 #[wV m A b] w fun e w'=>e=.returned (.bool (decide ((ordL m m.F.length).length<m.F.length)))/\Below w.heap.size w w':=by
 have HCo:=h_ fun W=>qbq m A b W
 have HG:=h_ fun (w0:World) (B:Nat) X hW hs hp=>q5z m A b B w0 X hv hf hW hs hp
 obtain⟨al,alc,ap,apc,ar,arc,af,afc,afa⟩:=A
 unfold wV at HCo⊢
 dsimp only at HCo HG⊢
 have hnf:=hv.nf
 have HK:=h_ (Blk.new w 56 #[.slice al m.L.length alc,.slice ap m.P.length apc,.slice ar m.R.length arc,.slice af m.F.length afc,.map (some b)])
 have HB:=h_ ((bR w.heap.size w).alloc (nR _) (.cells #[.slice al m.L.length alc,.slice ap m.P.length apc,.slice ar m.R.length arc,.slice af m.F.length afc,.map (some b)] 56))
 obtain⟨W0,hW0⟩:=Nq (w.alloc (.cells #[.slice al m.L.length alc,.slice ap m.P.length apc,.slice ar m.R.length arc,.slice af m.F.length afc,.map (some b)] 56))
 have hs0:W0.heap.size=w.heap.size+1:=by rw[<- hW0];simp
 rw[hW0]at HK HB
 have HL:=h_ (Blk.new W0 3 #[J9 m.F.length])
 have HBl:=h_ ((bR W0.heap.size W0).alloc (nR _) (.cells #[J9 m.F.length] 3))
 obtain⟨W1,hW1⟩:=Nq (W0.alloc (.cells #[J9 m.F.length] 3))
 have hs1:W1.heap.size=w.heap.size+1+1:=by rw[<- hW1];simp;omega
 rw[hW1,hs0]at HL
 rw[hW1]at HBl
 have HK1:=h_ (HK.u.mono HBl.u HK.u.lt)
 replace HB:=h_ (HB.u.trans (HBl.u.mono HB.u.size))
 have HS:=h_ (ha.mono HB.u);have HM:=h_ (hm.mono HB.u)
 obtain⟨y0,y1,y2,y3,y4⟩:=five HK.u
 obtain⟨z0,z1,z2,z3,z4⟩:=five HK1.u
 clear ha hm hv hf
 refine callsIn_of_wp_marks Tryz.func36 rfl trivial ?_ rfl
 simp only[Tryz.ntmps36,Zh,Ys,Y4,Nat.reduceAdd,Nat.reduceSub,Z9,Z8,Vg,Vb,Vj,Zn]
 gi_wp2_with fail
 try rw[hW0]
 try rw[hW1]
 refine callW ((HCo.u W1).mono ?_)
 rintro e w2 ⟨rfl,hO,hb2⟩
 clear hW0 hW1 y0 y1 y2 y3 y4 z0 z1 z2 z3 z4 HCo
 rw[hs1]at hO
 have HO:=h_ hO
 have HL2:=mB HL hb2
 have HB2:=h_ (HB.u.trans (hb2.mono (by omega)))
 have hs2:W1.heap.size<=w2.heap.size:=hb2.size
 have HG2:=h_ (HG.u w2 (w.heap.size+1+1) (fun j=>j=w.heap.size+1) hO (HS.u.mono hb2) (HM.u.mono hb2))
 clear hO hb2 HG HS HM
 try rw[hs1]
 try rw[hs0]
 gi_wp2_with fail
 refine q8z (gf:=61) (lb:=#[Yc (w.heap.size+1+1) 0]) rfl (enters_of Tryz.func61 (by kernel_rfl) rfl)
  HG2.u (bR _ _) (fun j hj=>by omega) rfl
  (fun _ pre W=>Blk W (w.heap.size+1) 3 [J9 ((m.F.length:Int) - pre.length)]/\Below w.heap.size w W)
  ?hI ?h0
  (fun x=>{ tmps:=#[.agg #[.slice al m.L.length alc,.slice ap m.P.length apc,.slice ar m.R.length arc,.slice af m.F.length afc,.map (some b)],Yc w.heap.size 0,.bool false,Yc (w.heap.size+1) 0,Yc w.heap.size 0,Yc w.heap.size 3,.slice af m.F.length afc,J9 m.F.length,.agg #[.slice al m.L.length alc,.slice ap m.P.length apc,.slice ar m.R.length arc,.slice af m.F.length afc,.map (some b)],.func (.func 61) #[] #[Yc (w.heap.size+1+1) 0],J9 (x:Int),undef,undef,undef,undef],defers:=[] })
  ?assign ?body ?done
 case hI =>
  rintro hi pre W W' ⟨h1,h2⟩ hb;exact⟨hb.blk h1 (by omega),h2.trans (hb.below (by omega) h2.size)⟩
 case h0 =>
  intro W hb;exact⟨by simpa using HL2.u.mono hb HL2.u.lt,HB2.u.trans (hb.mono HB2.u.size)⟩
 case assign =>
  intro m' l x W K hK
  gi_wp2
  first | exact hK | simpa using hK
 case body =>
  rintro m' l hi pre x W hhi ⟨h1,h2⟩ ⟨ht1,ht2,ht3⟩;have c0:=h1.cell 0;simp only[Yh]at c0;have f0:=h1.free 0;have HE:Hi ((m.F.length:Int) - ((pre++[x]).length:Nat)=(m.F.length:Int) - pre.length - 1):=h_ (by rw[Yg];simp;omega);have hq1:(m.F.length:Int) - pre.length<=200:=by omega
  have hq0:0<=(m.F.length:Int) - pre.length:=by omega
  have H1:=h_ h1;have H2:=h_ h2;have hl1:=h1.lt;clear h1 h2 ht1 ht2 ht3;generalize (m.F.length:Int) - pre.length=q at *;gi_wp2_with fail;refine⟨KeepsOthers.setCell _ _ _,KeepB.set _ rfl,?_,H2.u.setCell (p:=⟨w.heap.size+1,0,none⟩) (by simp) _⟩;rw[HE.u];exact H1.u.set 0 (J9 (q - 1))
 case done =>
  rintro D hi xs W hD hDh hS ⟨h1,h2⟩ hK;have c0:=h1.cell 0;simp only[Yh]at c0;have hxl:xs.length<=m.F.length:=by rw[hS];exact qkh m _
  have HE:Hi (decide ((ordL m m.F.length).length<m.F.length)=decide ((m.F.length:Int) - xs.length > 0)):=h_ (by rw[<- hS];exact decide_eq_decide.2 (by omega));have hq1:(m.F.length:Int) - xs.length<=200:=by omega
  have hq0:0<=(m.F.length:Int) - xs.length:=by omega
  have H2:=h_ h2;have HK:=h_ hK;clear h1 h2 hS hK;generalize (m.F.length:Int) - xs.length=q at *;gi_wp2_with fail;refine⟨by simp,.inl ⟨_,_,rfl,run_takeDeferred HK.u,?_⟩⟩;refine⟨.bool (decide (0<q)),?_,by rw[HE.u],H2.u.trans (q9o _ D _ (by omega))⟩;simp[results,Tryz.f36,go_sem]
theorem q3d (m:Fm)(A:MA)(b:Nat)(w:World)(hv:VfA m)(hf:FitM m)(ha:MSl w m A)(hm:PMap w b (fNames m)) :
 Calls Tryz.prog 36 #[wV m A b] w fun e w'=>e=.returned (.bool (decide ((ordL m m.F.length).length<m.F.length)))/\Below w.heap.size w w' :=
 (callsIn_wide (n:=9)).1 (q52 9 m A b w hv hf ha hm)
end Go.Proofs.YtebbgodlijlioaaGreatDoor
namespace Go.Proofs.YtebbgodlijlioaaGreatDoor
open Go Go.RowKit
theorem q34 (X:Nat)(J:List Nat->Value->World->Prop)(g c b:Nat)(R:Nat->Option Addr)(RC:Nat->Nat)(rs:List (List Nx))(names:List ByteArray)(v0:Value)(w:World)(hg:g<w.heap.size)(hn:rs.length<=1000)
 (hc:∀k (h:k<rs.length),w.cell? ⟨g,k,none⟩=some (.slice (R k) rs[k].length (RC k))/\rs[k].length<=1000000/\NodL w (R k) rs[k]/\(∀i,i<rs[k].length->Fit (nf rs[k] i))/\knows names rs[k]=true)
 (hnd:names.Nodup) (hm:PMap w b names) (hJ:∀pre v W W',J pre v W->Below W.heap.size W W'->J pre v W')
 (hstep:∀pre x v W,Below w.heap.size w W->J pre v W->x<names.length->pre.length<(rs.flatMap (rdL names)).length->Calls Tryz.prog 98 #[v,J9 (x:Nat),Yc X 0] W fun r W'=>∃v',r=.returned v'/\J (pre++[x]) v' W'/\Below w.heap.size W W')
 (h0:J [] v0 w) :
 Calls Tryz.prog 97 #[.slice (some ⟨g,0,none⟩) rs.length c,.map (some b),v0,.func (.func 98) #[] #[Yc X 0]] w fun r w'=>∃v,r=.returned v/\J (rs.flatMap (rdL names)) v w'/\Below w.heap.size w w':=by
 have HC:=h_ hc;have HM:=h_ hm;have HJ:=h_ hJ;have HS:=h_ hstep;have H0:=h_ h0;have HG:=h_ hg;have HD:=h_ hnd
 clear hc hm hJ hstep h0 hnd hg
 go_enter Tryz.func97,Tryz.ntmps97
 go_wp2_with fail
 go_loopw [2,15] (fun v i wr=>∃k:Nat,k<=rs.length/\i=J9 k/\J ((rs.take k).flatMap (rdL names)) v wr/\Below w.heap.size w wr) (fun _ i _=>rs.length - (intOf i).toNat)
 case atStart=>exact⟨0,nZ _,rfl,H0.u,bR _ _⟩
 case round =>
  obtain⟨k,hk,rfl,hj,hb⟩:=hrel;have HJk:=h_ hj;have HB:=h_ hb;clear hj hb;by_cases hlt:k<rs.length
  . have hlt':(k:Int)<rs.length:=by omega
    obtain⟨hcell,hlen,hnod,hfit,hkn⟩:=HC.u k hlt;have z0:=(HB.u.cell (p:=⟨g,k,none⟩) HG.u).trans hcell;have HN:=h_ hnod;have HF:=h_ hfit;have HK:=h_ hkn;have HT:Hi ((rs.take (k+1)).flatMap (rdL names)=(rs.take k).flatMap (rdL names)++rdL names rs[k]):=h_ (qau hlt);have HLe:Hi (((rs.take k).flatMap (rdL names)).length+(rdL names rs[k]).length<=(rs.flatMap (rdL names)).length):=h_ (qas hlt);clear hcell hnod hfit hkn;generalize (rs.take k).flatMap (rdL names)=pre at *;generalize rs[k]=l at *;generalize R k=a at *;generalize RC k=ac at *;go_wp2_with fail;go_loopw [2,21] (fun v i w3=>∃q:Nat,q<=l.length/\i=J9 q/\J (pre++rdL names (l.take q)) v w3/\Below w.heap.size w w3) (fun _ i _=>l.length - (intOf i).toNat)
    case atStart=>exact⟨0,nZ _,rfl,by have h:=HJk.u;simpa [rdL] using h,HB.u⟩
    case round =>
     clear HJk HB z0;obtain⟨q,hq,rfl,hj,hb⟩:=hrel;have HJq:=h_ hj;have HB:=h_ hb;have HAr:=h_ (HN.u.mono hb);have HMr:=h_ (HM.u.mono hb);clear hj hb;by_cases hql:q<l.length
     . have hql':(q:Int)<l.length:=by omega
       obtain⟨pb,po,rfl,-,z0,z1,z2,z3,z4⟩:=HAr.u q hql;have HR:Hi ((nf l q).op=1->rdL names (l.take (q+1))=rdL names (l.take q)++[fIdx names (nf l q).nm]/\(nf l q).nm∈names):=h_ fun h1=>⟨ql6 hql h1,qb4 HK.u (nf_mem hql) h1⟩;have HRo:Hi (¬ (nf l q).op=1->rdL names (l.take (q+1))=rdL names (l.take q)):=h_ fun h1=>qc8 hql h1;have HQl:Hi ((rdL names (l.take (q+1))).length<=(rdL names l).length):=h_ (q47 names l (q+1));have HFk:=h_ (HF.u q hql);generalize nf l q=n at *;have HKf:=h_ (Blk.new wr 96 (Jd n));have HBa:=h_ ((bR wr.heap.size wr).alloc (nR _) (.cells (Jd n) 96));obtain⟨Wd,hWd⟩:=Nq (wr.alloc (.cells (Jd n) 96));rw[hWd]at HKf HBa;have HBf:=h_ (HB.u.trans (HBa.u.mono HB.u.size));have HMf:=h_ (HMr.u.mono HBa.u);have HJd:=h_ (HJ.u _ _ _ _ HJq.u HBa.u);obtain⟨x0,x1,x2,x3,x4⟩:=five HKf.u;by_cases h1:n.op=1
       . have h1':(n.op != 1)=false:=by rw[h1];rfl
         have h1'':(n.op==1)=true:=(by rw[h1];rfl);obtain⟨e1,hmem⟩:=HR.u h1;have HE:=h_ e1;have HAt:Hi ((mp names).atKey (kl n.nm) (.lit (.int .i64 0))=.lit (.int .i64 ((fIdx names n.nm:Nat):Int))):=h_ (qhl HD.u hmem _);have hxl:=qig hmem;clear h1 e1 hmem HR HRo;generalize fIdx names n.nm=x at *;have HKy:Hi (keyOf Tryz.prog 9 (.string n.nm)=some (kl n.nm)):=h_ (WideMaps.keyOf_string_mk Tryz.underlying9 HFk.u.2.1);have HCa:=h_ (HS.u _ x _ Wd HBf.u HJd.u hxl (by
          have:=HLe.u;have:=HQl.u;rw[HE.u,Yg]at this;rw[Yg];simp at this;omega))
         go_wp2_with (at_lookup;refine wpList_lookup_own_int _ rfl _ _ 54 rfl 9 3 .i64 (Maps.string_keyed Tryz.underlying9) Tryz.underlying54 Tryz.underlying3 (Tryz.zeroValue3 _) b names.length (mp names) rfl (by first | exact HMf.u | (rw[hWd];exact HMf.u)) _ _ rfl HKy.u ?_;intro pc hpc _;obtain rfl:=qjv hpc HAt.u;clear hpc)
         try rw[hWd]
         clear hWd HMf HKy;refine HCa.u.mono ?_;rintro r W2 ⟨v',rfl,hj2,hb2⟩;have HJ2:Hi (J (pre++rdL names (l.take (q+1))) v' W2):=h_ (by rw[HE.u,<- Z6];exact hj2);have HB2:=h_ (HBf.u.trans hb2);clear hj2 hb2 HCa;go_wp2_with fail;go_roundw
         case rel=>first | exact⟨q+1,by omega,by go_num,HJ2.u,HB2.u⟩ | ((repeat apply Exists.intro);exact⟨⟨q+1,by omega,by go_num,HJ2.u,HB2.u⟩,rfl⟩)
         case measure=>simp[intOf];omega
       . have h1':(n.op != 1)=true:=by simp[h1]
         have h1'':(n.op==1)=false:=(by simp[h1]);have HJ2:=HJd;rw[<- HRo.u h1]at HJ2;clear h1 HR HRo;go_wp2_with fail
         try rw[hWd]
         clear hWd;go_roundw
         case rel=>first | exact⟨q+1,by omega,by go_num,HJ2.u,HBf.u⟩ | ((repeat apply Exists.intro);exact⟨⟨q+1,by omega,by go_num,HJ2.u,HBf.u⟩,rfl⟩)
         case measure=>simp[intOf];omega
     . obtain rfl:q=l.length:=by omega
       have hql':¬ (l.length:Int)<(l.length:Int):=(by omega);have HJ2:=HJq;rw[Y9 (nR _),<- HT.u]at HJ2;go_wp2_with fail;go_roundw
       case rel=>first | exact⟨k+1,by omega,by go_num,HJ2.u,HB.u⟩ | ((repeat apply Exists.intro);exact⟨⟨k+1,by omega,by go_num,HJ2.u,HB.u⟩,rfl⟩)
       case measure=>simp[intOf];omega
  . obtain rfl:k=rs.length:=by omega
    have hlt':¬ (rs.length:Int)<(rs.length:Int):=(by omega);have HJ2:=HJk;rw[Y9 (nR _)]at HJ2;go_wp2_with fail;go_ret;exact⟨_,rfl,HJ2.u,HB.u⟩
theorem q8m (X G n x:Nat)(M:Nat->Bool)(v:Bool)(w:World)(hx:x<n)(hX:Blk w X 33 [.slice (some ⟨G,0,none⟩) n n])(hG:Blk w G 4 (ms n M)) :
 Calls Tryz.prog 98 #[.bool v,J9 (x:Nat),Yc X 0] w fun r w'=>r=.returned (.bool (v||M x))/\w'=w:=by
 have c0:=hX.cell 0
 simp only[Yh]at c0
 have c1:=(hG.cell x).trans (ms_at M hx)
 have hx':(x:Int)<n:=by omega
 clear hX hG
 generalize M x=u at *
 cases v
 . go_enter Tryz.func98,Tryz.ntmps98
   go_wp2_with fail;go_ret;exact⟨rfl,rfl⟩
 . go_enter Tryz.func98,Tryz.ntmps98
   go_wp2_with fail;go_ret;exact⟨rfl,rfl⟩
theorem q4j (m:Fm)(A:MA)(b g k X G:Nat)(M:Nat->Bool)(w:World)(hv:VfA m)(hf:FitM m)(hk:k<m.F.length)(ha:MSl w m A)(hm:PMap w b (fNames m))(hg:Blk w g 40 [.slice (A.fa k).i m.F[k].is.length (A.fa k).ic,.slice (A.fa k).h m.F[k].wh.length (A.fa k).hc])(hX:Blk w X 33 [.slice (some ⟨G,0,none⟩) m.F.length m.F.length])(hG:Blk w G 4 (ms m.F.length M)) :
 Calls Tryz.prog 97 #[.slice (some ⟨g,0,none⟩) 2 2,.map (some b),.bool false,.func (.func 98) #[] #[Yc X 0]] w fun r w'=>r=.returned (.bool ((fedL m k).any M))/\Below w.heap.size w w':=by
 have hok:=(q4y _ _ _).1 (hv.fi _ (Yk hk))
 have hff:=hf.f _ (Yk hk)
 have hkn:=hv.knw hk
 obtain⟨pb,po,-,-,hsl⟩:=ha.f k hk
 have he:fedL m k=[m.F[k].is,m.F[k].wh].flatMap (rdL (fNames m)):=by
  unfold fedL;rw[qif hk];simp
 rw[qif hk]at hkn
 rw[he]
 refine q34 X (fun pre v W=>v=.bool (pre.any M)/\Blk W X 33 [.slice (some ⟨G,0,none⟩) m.F.length m.F.length]/\Blk W G 4 (ms m.F.length M)) g 2 b (fun i=>if i=0 then (A.fa k).i else (A.fa k).h) (fun i=>if i=0 then (A.fa k).ic else (A.fa k).hc) [m.F[k].is,m.F[k].wh] (fNames m) (.bool false) w hg.lt (by simp) ?_ hv.nod hm ?_ ?_ ⟨rfl,hX,hG⟩ |>.mono ?_
 . intro i hi
   have h1:=qg8 hok.i;have h2:=qg8 hok.h;obtain rfl | rfl:i=0∨i=1:=by simp at hi;omega
   . exact⟨hg.cell 0,by show m.F[k].is.length<=_;omega,hsl.i,hff.i,hkn.1⟩
   . exact⟨hg.cell 1,by show m.F[k].wh.length<=_;omega,hsl.h,hff.h,hkn.2.1⟩
 . rintro pre v W W' ⟨h1,h2,h3⟩ hb
   exact⟨h1,h2.mono hb h2.lt,h3.mono hb h3.lt⟩
 . rintro pre x v W hb ⟨rfl,h2,h3⟩ hx hl
   rw[q79]at hx;refine(q8m X G m.F.length x M (pre.any M) W hx h2 h3).mono ?_;rintro r W' ⟨rfl,rfl⟩;exact⟨_,rfl,⟨by rw[List.any_append];simp,h2,h3⟩,bR _ _⟩
 . rintro r w' ⟨v,rfl,⟨rfl,-⟩,hb⟩
   exact⟨rfl,hb⟩
theorem q1y (m:Fm)(A:MA)(b g k G:Nat)(M:Nat->Bool)(w:World)(hv:VfA m)(hf:FitM m)(hk:k<m.F.length)(ha:MSl w m A)(hm:PMap w b (fNames m))(hg:Blk w g 40 [.slice (A.fa k).i m.F[k].is.length (A.fa k).ic,.slice (A.fa k).h m.F[k].wh.length (A.fa k).hc])(hG:Blk w G 4 (ms m.F.length M)) :
 Calls Tryz.prog 65 #[wV m A b,.slice (some ⟨g,0,none⟩) 2 2,.slice (some ⟨G,0,none⟩) m.F.length m.F.length] w fun r w'=>r=.returned (.bool ((fedL m k).any M))/\Below w.heap.size w w':=by
 have HC:=h_ fun (W:World) (X:Nat) hs hp hg hX hG=>q4j m A b g k X G M W hv hf hk hs hp hg hX hG
 obtain⟨al,alc,ap,apc,ar,arc,af,afc,afa⟩:=A
 unfold wV
 dsimp only at HC hg⊢
 have HK:=h_ ((Blk.new w 56 #[.slice al m.L.length alc,.slice ap m.P.length apc,.slice ar m.R.length arc,.slice af m.F.length afc,.map (some b)]).alloc (.cells #[.slice (some ⟨G,0,none⟩) m.F.length m.F.length] 33))
 have HX:=h_ (Blk.new (w.alloc (.cells #[.slice al m.L.length alc,.slice ap m.P.length apc,.slice ar m.R.length arc,.slice af m.F.length afc,.map (some b)] 56)) 33 #[.slice (some ⟨G,0,none⟩) m.F.length m.F.length])
 rw[Yx]at HX
 have HB:=h_ (((bR w.heap.size w).alloc (nR _) (.cells #[.slice al m.L.length alc,.slice ap m.P.length apc,.slice ar m.R.length arc,.slice af m.F.length afc,.map (some b)] 56)).alloc (by simp) (.cells #[.slice (some ⟨G,0,none⟩) m.F.length m.F.length] 33))
 obtain⟨W0,hW0⟩:=Nq ((w.alloc (.cells #[.slice al m.L.length alc,.slice ap m.P.length apc,.slice ar m.R.length arc,.slice af m.F.length afc,.map (some b)] 56)).alloc (.cells #[.slice (some ⟨G,0,none⟩) m.F.length m.F.length] 33))
 rw[hW0]at HK HX HB
 have HC2:=h_ (HC.u W0 (w.heap.size+1) (ha.mono HB.u) (hm.mono HB.u) (hg.mono HB.u hg.lt) HX.u (hG.mono HB.u hG.lt))
 generalize (fedL m k).any M=q at *
 clear ha hm hg hG hv hf HC
 obtain⟨y0,y1,y2,y3,y4⟩:=five HK.u
 go_enter Tryz.func65,Tryz.ntmps65
 go_wp2_with fail
 try rw[hW0]
 refine HC2.u.mono ?_
 rintro r W1 ⟨rfl,hb⟩
 replace HB:=mT HB hb
 clear hb hW0 y0 y1 y2 y3 y4
 go_wp2_with fail
 go_ret
 exact⟨rfl,HB.u⟩
end Go.Proofs.YtebbgodlijlioaaGreatDoor
namespace Go.Proofs.YtebbgodlijlioaaGreatDoor
open Go Go.RowKit Go.Shelf
section
variable {P:Program} {ops:Array Oper} {Q:Exit->Act->World->Prop} {o:Oper} {a:Act} {w:World} {K K':Act->World->Prop} {n l:Nat}
theorem qm9 {r:Result Next}(h:o.upon P a K Q r):o.uponIn (Fence.wide.inRound l) n P a K Q r:=by
 cases r with
 | ok x w' =>
  cases x with
  | value v=>exact h
  | skip=>exact h
  | defer d=>exact h
  | enter f args=>exact⟨noDepth,CallsIn.inRound l (callsIn_wide.2 h)⟩
  | row row args=>exact⟨noDepth,fun c cs _=>let ⟨v,w',r,s⟩:=h c cs;⟨v,w',r,stepsIn_wide.2 s⟩⟩
  | _=>exact h.elim
 | halt x w'=>cases x <;> exact h
theorem qkf (hd:∀c,o.op≠.defer c)(h:o.wp P a w K Q):o.wpIn (Fence.wide.inRound l) n P a w K Q:=⟨fun _ _=>trivial,by
 unfold Oper.wp at h
 rw[Oper.semAt_eq _ _ _ hd]
 exact qm9 h⟩
theorem op_in {i:Nat}(hL:¬ LetsOut Q)(hd:∀o:Oper,ops[i]? = some o->∀c:Call,o.op≠.defer c)(hK:∀a w,K a w->K' a w)(h:wpOp P ops Q i K a w):wpOpIn (Fence.wide.inRound l) n P ops Q i K' a w:=by
 refine wpOpIn_mono hK ?_
 unfold wpOp at h
 unfold wpOpIn
 cases ho:ops[i]? with
 | none=>rw[ho]at h;exact h
 | some o =>
  rw[ho]at h;simp only at h⊢;split
  . rename_i hw
    rw[Yz hw]at h;exact qkf (hd o ho) (h.resolve_right fun c=>hL c.2)
  . rename_i hw
    rw[Yt hw]at h;exact⟨fun _ _=>trivial,h⟩
theorem ops_in (hL:¬ LetsOut Q)(hd:∀(i:Nat) (o:Oper),ops[i]? = some o->∀c:Call,o.op≠.defer c):∀(is:List Nat) (a:Act) (w:World),wpOps P ops Q is a w->wpOpsIn (Fence.wide.inRound l) n P ops Q is a w
 | [],_,_,h=>h
 | i :: rest,a,w,h=>by
  rw[wpOps_cons]at h;rw[wpOpsIn_cons];exact op_in hL (hd i) (fun a w=>ops_in hL hd rest a w) h
theorem q48 {S:World->Prop}{id:Nat}(hL:¬ LetsOut Q)(hm:P.follows .mixedOrders=true)(hd:(ops.toList.all fun o=>match o.op with | .defer _=>false | _=>true)=true)(hS:S w.drew)(h:S w.drew->wpAnyH P .any ops Q S ops.size (Array.replicate ops.size false) a w.drew):(Code.region id ops true).wpIn (Fence.wide.inRound l) n P Q a w :=
 wpIn_region_draw fun t=>by
  simp only[Region.schedule,hm,Bool.true_or,if_true];refine ops_in hL (fun i o ho c hc=>?_) _ _ _ (wpAny_sound ops.size t _ a _ (wpAny_of_held _ _ _ _ (h hS)));have:=Y2.1 hd o (Array.mem_toList_iff.2 (Array.mem_of_getElem? ho));rw[hc]at this;cases this
end
end Go.Proofs.YtebbgodlijlioaaGreatDoor
namespace Go.Proofs.YtebbgodlijlioaaGreatDoor
open Go Go.RowKit
theorem q7h:(Tryz.prog.info? 4).map (fun i=>(i.zero,i.size,i.bytes))=some (some (.bool false),1,1):=by kernel_rfl
theorem qka {w:World}{base F n:Nat}(h:w.ownsRow base 4 1 (.slice (some ⟨F,0,none⟩) n n) n (madeCells #[Value.bool false] n).toList):Blk w F 4 (ms n fun _=>false):=by
 have hb:=Blk.of_owns h
 rw[toList_madeCells_one]at hb
 unfold ms
 rw[List.map_const',Od]
 exact hb
end Go.Proofs.YtebbgodlijlioaaGreatDoor
namespace Go.Proofs.YtebbgodlijlioaaGreatDoor
open Go
def AtI (l:List Nat)(x:Nat)(z:Int):Prop:=(∃i,∃h:i<l.length,l[i]=x/\z=i)∨(x ∉ l/\z = -1)
theorem AtI.neg {l:List Nat}{x:Nat}{z:Int}(h:AtI l x z):z<0 ↔ x ∉ l:=by
 rcases h with ⟨i,hi,rfl,rfl⟩ | ⟨h,rfl⟩
 . exact⟨fun h=>by omega,fun h=>absurd (Yk hi) h⟩
 . exact⟨fun _=>h,fun _=>by omega⟩
theorem AtI.pos {l:List Nat}{x:Nat}{z:Int}(h:AtI l x z)(hx:x∈l):¬ z<0:=fun hn=>(h.neg.1 hn) hx
theorem AtI.bnd {l:List Nat}{x:Nat}{z:Int}(h:AtI l x z):-1<=z/\z<l.length:=by
 rcases h with ⟨i,hi,-,rfl⟩ | ⟨-,rfl⟩ <;> omega
theorem qbk {l:List Nat}(h:l.Nodup){i j:Nat}(hi:i<l.length)(hj:j<l.length)(e:l[i]=l[j]):i=j:=by
 have:=Zq.1 h
 rcases Nat.lt_trichotomy i j with g | g | g
 . exact absurd e (this i j hi hj g)
 . exact g
 . exact absurd e.symm (this j i hj hi g)
theorem qff (m:Fm)(i:Nat):∀p (hp:p<(ordL m i).length),∀j,j<m.F.length->fedB m j (ordL m i)[p]=true->∃r,∃hr:r<(ordL m i).length,r<p/\(ordL m i)[r]=j:=by
 induction i with
 | zero=>intro p hp;exact absurd hp (nL _)
 | succ i ih =>
  cases h:nxt m (ordL m i) with
  | none=>rw[qbo h];exact ih
  | some x =>
   have e:=qbp h;have el:(ordL m (i+1)).length=(ordL m i).length+1:=by rw[e,Yg];rfl
   intro p hp j hj hf;by_cases hlt:p<(ordL m i).length
   . have ep:(ordL m (i+1))[p]=(ordL m i)[p]:=by
      have:(ordL m (i+1))[p]? = (ordL m i)[p]?:=(by rw[e,Vu hlt]);rw[Yi hp,Yi hlt]at this;exact Zt this
     rw[ep]at hf;obtain⟨r,hr,hrp,er⟩:=ih p hlt j hj hf;refine⟨r,by omega,hrp,?_⟩;have:(ordL m (i+1))[r]? = (ordL m i)[r]?:=(by rw[e,Vu hr]);rw[Yi hr,Yi (show r<(ordL m (i+1)).length by omega)]at this;rw[Zt this,er]
   . obtain rfl:p=(ordL m i).length:=by omega
     have ep:(ordL m (i+1))[(ordL m i).length]=x:=by
      have:(ordL m (i+1))[(ordL m i).length]? = some x:=(by rw[e];exact List.getElem?_concat_length);rw[Yi hp]at this;exact Zt this
     rw[ep]at hf;have hr:=(qfc h).2.1;unfold rdyB at hr;rw[Yn,Y2]at hr;have h2:=hr.2 j (Y3.2 hj);rw[hf]at h2;have hm:j∈ordL m i:=(by simpa using h2);obtain⟨r,hr',er⟩:=Yy.1 hm;refine⟨r,by omega,hr',?_⟩;have:(ordL m (i+1))[r]? = (ordL m i)[r]?:=(by rw[e,Vu hr']);rw[Yi hr',Yi (show r<(ordL m (i+1)).length by omega)]at this;rw[Zt this,er]
structure OrdF (m:Fm)(C:List Nat):Prop where
 n:C.length=m.F.length∨C=[]
 lt:∀x,x∈C->x<C.length
 all:∀k,k<C.length->k∈C
 nd:C.Nodup
 fd:∀i j (hi:i<C.length) (hj:j<C.length),fedB m C[j] C[i]=true->j<i
theorem q5p {n:Nat}{C:List Nat}(hl:C.length=n)(hlt:∀x,x∈C->x<n)(hnd:C.Nodup):∀k,k<n->k∈C:=by
 intro k hk
 refine Classical.byContradiction fun hn=>?_
 have h:=pigeon n ((k :: C).map fun k=>((k:Nat):Int)) ?_ ?_
 . rw[Y7,Ys]at h
   omega
 . refine List.Pairwise.map _ (fun a b hab=>?_) (Oa.2 ⟨hn,hnd⟩)
   intro e;exact hab (by omega)
 . intro x hx
   obtain⟨y,hy,rfl⟩:=Zc.1 hx;rcases Zy.1 hy with rfl | hy
   . omega
   . have:=hlt y hy
     omega
theorem q8n (m:Fm):OrdF m (calcX m):=by
 have nil:OrdF m []:=⟨.inr rfl,fun x hx=>(by cases hx),fun k hk=>absurd hk (nL _),List.nodup_nil,fun i j hi=>absurd hi (nL _)⟩
 unfold calcX
 split
 . unfold calcL
   split
   . rename_i h
     have hlt:=qki m m.F.length;have hnd:=q8o m m.F.length;refine⟨.inl h,fun x hx=>by rw[h];exact hlt x hx,fun k hk=>q5p h hlt hnd k (by omega),hnd,fun i j hi hj hf=>?_⟩;obtain⟨r,hr,hri,er⟩:=qff m m.F.length i hi _ (hlt _ (Yk hj)) hf;have:=qbk hnd hr hj er;omega
   . exact nil
 . exact nil
structure DirF (m:Fm)(C l:List Nat)(k:Nat):Prop where
 me:k∈l
 sub:∀x,x∈l->x∈C
 asc:∀i (h0:0<i) (hi:i<l.length) p q (hp:p<C.length) (hq:q<C.length),C[p]=l[i - 1]->C[q]=l[i]->p<q
 fed:∀j,j<C.length->j≠k->((∃i,∃h:i<l.length,fedB m l[i] j=true) ↔ j∈l)
theorem qib {m:Fm}{C l:List Nat}{k:Nat}(h:OrdF m C)(hk:k<C.length)(hd:DirOk m (k:Int) C l):DirF m C l k:=by
 have hn:C.length=m.F.length:=by
  rcases h.n with e | e
  . exact e
  . rw[e]at hk;exact absurd hk (nL _)
 rcases hd with ⟨h1,-⟩ | ⟨-,-,M,hM,rfl⟩
 . exact absurd ⟨by omega,by omega⟩ h1
 . rw[Ov]at hM⊢
   have hmem:∀x,x∈dirBy M k C ↔ x∈C/\(x=k∨M x=true):=fun x=>by unfold dirBy;rw[Or,Zu,Yp]
   have hme:k∈dirBy M k C:=(hmem k).2 ⟨h.all k hk,.inl rfl⟩;refine⟨hme,fun x hx=>((hmem x).1 hx).1,fun i h0 hi p q hp hq ep eq=>?_,fun j hj hjk=>?_⟩
   . have hpw:C.Pairwise fun a b=>∀p q (hp:p<C.length) (hq:q<C.length),C[p]=a->C[q]=b->p<q:=Zq.2 fun a b ha hb hab p q hp hq ep eq=>by
      have:=qbk h.nd hp ha ep;have:=qbk h.nd hq hb eq;omega
     have hpl:(dirBy M k C).Pairwise fun a b=>∀p q (hp:p<C.length) (hq:q<C.length),C[p]=a->C[q]=b->p<q:=hpw.filter _;exact Zq.1 hpl (i - 1) i (by omega) hi (by omega) p q hp hq ep eq
   . have hr:∀x,x∈dirBy M k C->x=k∨Rch m k x:=fun x hx=>by
      obtain⟨hc,e | e⟩:=(hmem x).1 hx
      . exact .inl e
      . by_cases ex:x=k
        . exact .inl ex
        . exact .inr ((hM x (by rw[<- hn];exact h.lt x hc) ex).1 e)
     constructor
     . rintro⟨i,hi,hf⟩
       have:=qfy (hr _ (Yk hi)) (by omega) hf;exact(hmem j).2 ⟨h.all j hj,.inr ((hM j (by omega) hjk).2 this)⟩
     . intro hj'
       have hR:Rch m k j:=by
        rcases hr j hj' with e | e
        . exact absurd e hjk
        . exact e
       have hin:∀x,x<C.length->(x=k∨Rch m k x)->x∈dirBy M k C:=fun x hx hxr=>(hmem x).2 ⟨h.all x hx,by
        by_cases ex:x=k
        . exact .inl ex
        . rcases hxr with e | e
          . exact absurd e ex
          . exact .inr ((hM x (by omega) ex).2 e)⟩
       cases hR with
       | one hi hf =>
        obtain⟨i,hi',e⟩:=Yy.1 hme;exact⟨i,hi',by rw[e];exact hf⟩
       | step hx hi hf =>
        obtain⟨i,hi',e⟩:=Yy.1 (hin _ (by have:=hx.lt;omega) (.inr hx));exact⟨i,hi',by rw[e];exact hf⟩
end Go.Proofs.YtebbgodlijlioaaGreatDoor
namespace Go.Proofs.YtebbgodlijlioaaGreatDoor
open Go Go.RowKit
theorem qmc (a:Option Addr)(c:Nat)(l:List Nat)(x:Nat)(w:World)(hl:l.length<=9223372036854775807)(ha:Plc w a l) :
 Calls Tryz.prog 14 #[.slice a l.length c,J9 x] w fun r w'=>∃z,r=.returned (J9 z)/\AtI l x z/\w'=w:=by
 have HA:=h_ ha
 clear ha
 go_enter Tryz.func14,Tryz.ntmps14
 go_wp2_with fail
 go_loopw [5] (fun i wr=>wr=w/\∃k:Nat,k<=l.length/\i=J9 k/\(∀j (h:j<l.length),j<k->l[j]≠x)) (fun i _=>l.length - (intOf i).toNat)
 case atStart=>exact⟨rfl,0,nZ _,rfl,fun j _ hj=>absurd hj (nL _)⟩
 case round =>
  obtain⟨rfl,k,hk,rfl,hall⟩:=hrel;have HL:=h_ hall;clear hall;by_cases hlt:k<l.length
  . have hlt':(k:Int)<l.length:=by omega
    obtain⟨b,o,rfl,-,z0⟩:=HA.u.at k hlt;have HX:Hi (l[k]=x->AtI l x (k:Int)):=h_ fun h=>.inl ⟨k,hlt,h,rfl⟩;have HG:Hi (l[k]≠x->∀j (h:j<l.length),j<k+1->l[j]≠x):=h_ fun h j hj hjk=>by
     by_cases ej:j=k
     . subst ej;exact h
     . exact HL.u j hj (by omega)
    generalize l[k]=u at *;by_cases he:u=x
    . have he':((u:Int)==(x:Int))=true:=by rw[he];simp
      have HX2:=h_ (HX.u he);clear he;go_wp2_with fail;go_ret;exact⟨_,rfl,HX2.u,rfl⟩
    . have he':((u:Int)==(x:Int))=false:=Yf.2 (by omega)
      have HG2:=h_ (HG.u he);clear he;go_wp2_with fail;go_roundw
      case rel=>exact⟨trivial,k+1,by omega,by go_num,HG2.u⟩
      case measure=>simp[intOf];omega
  . obtain rfl:k=l.length:=by omega
    have hlt':¬ (l.length:Int)<(l.length:Int):=(by omega);have HX:Hi (AtI l x (-1)):=h_ (.inr ⟨fun h=>by
     obtain⟨j,hj,e⟩:=Yy.1 h;exact HL.u j hj hj e,rfl⟩)
    go_wp2_with fail;go_ret;exact⟨_,rfl,HX.u,rfl⟩
theorem q9c (a:Option Addr)(c:Nat)(l:List Nx)(x:ByteArray)(w:World)(hl:l.length<=9223372036854775807)(ha:NodL w a l) :
 Calls Tryz.prog 34 #[.slice a l.length c,.string x] w fun r w'=>r=.returned (.bool (rdsN l x))/\w'=w:=by
 have HA:=h_ ha
 obtain⟨q,hq⟩:=Nq (rdsN l x)
 rw[hq]
 have HQ:=h_ hq
 clear ha hq
 go_enter Tryz.func34,Tryz.ntmps34
 go_wp2_with fail
 go_loopw [5] (fun i wr=>wr=w/\∃k:Nat,k<=l.length/\i=J9 k/\(∀j,j<k->¬ ((nf l j).op=1/\(nf l j).nm=x))) (fun i _=>l.length - (intOf i).toNat)
 case atStart=>exact⟨rfl,0,nZ _,rfl,fun j hj=>absurd hj (nL _)⟩
 case round =>
  obtain⟨rfl,k,hk,rfl,hall⟩:=hrel;have HL:=h_ hall;clear hall;by_cases hlt:k<l.length
  . have hlt':(k:Int)<l.length:=by omega
    obtain⟨pb,po,rfl,-,z0,z1,z2,z3,z4⟩:=HA.u k hlt;have HX:Hi ((nf l k).op=1->(nf l k).nm=x->q=true):=h_ fun h1 h2=>by rw[<- HQ.u,qg0 hlt h1 h2]
    have HG:Hi (¬ ((nf l k).op=1/\(nf l k).nm=x)->∀j,j<k+1->¬ ((nf l j).op=1/\(nf l j).nm=x)):=h_ fun h j hj=>by
     by_cases ej:j=k
     . subst ej;exact h
     . exact HL.u j (by omega)
    generalize nf l k=n at *;have he:=eqS n.nm x;by_cases h1:n.op=1
    . have h1':(n.op==1)=true:=by rw[h1];rfl
      by_cases h2:n.nm=x
      . have HX2:=h_ (HX.u h1 h2)
        rw[Ym h2]at he;clear h1 h2;go_wp2_with fail;go_ret;exact⟨qg2 HX2.u.symm,rfl⟩
      . have HG2:=h_ (HG.u fun h=>h2 h.2)
        rw[Yj h2]at he;clear h1 h2;go_wp2_with fail;go_roundw
        case rel=>first | exact⟨trivial,k+1,by omega,by go_num,HG2.u⟩ | ((repeat apply Exists.intro);exact⟨⟨trivial,k+1,by omega,by go_num,HG2.u⟩,rfl⟩)
        case measure=>simp[intOf];omega
    . have h1':(n.op==1)=false:=by simp[h1]
      have HG2:=h_ (HG.u fun h=>h1 h.1);clear h1 he;go_wp2_with fail;go_roundw
      case rel=>first | exact⟨trivial,k+1,by omega,by go_num,HG2.u⟩ | ((repeat apply Exists.intro);exact⟨⟨trivial,k+1,by omega,by go_num,HG2.u⟩,rfl⟩)
      case measure=>simp[intOf];omega
  . obtain rfl:k=l.length:=by omega
    have hlt':¬ (l.length:Int)<(l.length:Int):=(by omega);have HX:Hi (q=false):=h_ (by rw[<- HQ.u,ql7 HL.u]);go_wp2_with fail;go_ret;exact⟨qg2 HX.u.symm,rfl⟩
theorem q9b (m:Fm)(A:MA)(j k:Nat)(w:World)(hj:j<m.F.length)(hk:k<m.F.length)(hf:FitM m)(ha:MSl w m A) :
 Calls Tryz.prog 15 #[mV m A,J9 j,J9 k] w fun r w'=>r=.returned (.bool (fedB m j k))/\Below w.heap.size w w':=by
 obtain⟨al,alc,ap,apc,ar,arc,af,afc,afa⟩:=A
 unfold mV
 dsimp only
 have HK:=h_ (Blk.new w 28 (Jb al m alc ap apc ar arc af afc))
 have HB:=h_ ((bR w.heap.size w).alloc (nR _) (.cells (Jb al m alc ap apc ar arc af afc) 28))
 obtain⟨W0,hW0⟩:=Nq (w.alloc (.cells (Jb al m alc ap apc ar arc af afc) 28))
 rw[hW0]at HK HB
 have HS:=h_ (ha.mono HB.u)
 have hj':(j:Int)<m.F.length:=by omega
 have hk':(k:Int)<m.F.length:=by omega
 have hfl:=hf.fl
 have HE:Hi (fedB m j k=(rdsN m.F[k].is m.F[j].nm||rdsN m.F[k].wh m.F[j].nm)):=h_ (by unfold fedB;rw[qif hj,qif hk])
 have HI:=h_ (hf.f _ (Yk hk))
 clear ha hf
 obtain⟨b,o,e1,⟨-,z0,-⟩,-⟩:=HS.u.f j hj
 obtain⟨b',o',e2,⟨hbl,-,-,-,-,x4,x5,-⟩,hsl⟩:=HS.u.f k hk
 dsimp only at e1 e2 x4 x5 hsl
 subst e1
 cases e2
 have HSl:=h_ hsl
 clear hsl
 generalize m.F[j].nm=nm at *
 generalize m.F[k]=f at *
 generalize afa k=fa at *
 obtain⟨ab,abc,ai,aic,ah,ahc,av,avc,au,auc⟩:=fa
 dsimp only at x4 x5
 have hbd:Below W0.heap.size W0 W0.drew:=(bR _ _).drew
 have HC1:=h_ (q9c ai aic f.is nm W0.drew HI.u.il (HSl.u.mono hbd).i)
 have HC2:=h_ (q9c ah ahc f.wh nm W0.drew HI.u.hl (HSl.u.mono hbd).h)
 have HBd:=mT HB hbd
 have HH:Hi (Blk W0 w.heap.size 28 (Jj al m alc ap apc ar arc (some ⟨b,o,none⟩) afc)/\W0.cell? ⟨b,o+j*9,none⟩=some (.string nm)/\W0.cell? ⟨b,o+k*9+4,none⟩=some (.slice ai f.is.length aic)/\W0.cell? ⟨b,o+k*9+5,none⟩=some (.slice ah f.wh.length ahc)):=h_ ⟨HK.u,z0,x4,x5⟩
 have HHd:Hi (Blk W0.drew w.heap.size 28 (Jj al m alc ap apc ar arc (some ⟨b,o,none⟩) afc)/\W0.drew.cell? ⟨b,o+j*9,none⟩=some (.string nm)/\W0.drew.cell? ⟨b,o+k*9+4,none⟩=some (.slice ai f.is.length aic)/\W0.drew.cell? ⟨b,o+k*9+5,none⟩=some (.slice ah f.wh.length ahc)):=h_ ⟨HK.u.mono hbd HK.u.lt,(hbd.cell (p:=⟨b,o+j*9,none⟩) hbl).trans z0,(hbd.cell (p:=⟨b,o+k*9+4,none⟩) hbl).trans x4,(hbd.cell (p:=⟨b,o+k*9+5,none⟩) hbl).trans x5⟩
 have k0:(0:Int)<=k:=by omega
 have j0:(0:Int)<=j:=by omega
 generalize fedB m j k=q at *
 clear z0 x4 x5 HS HSl hbd hbl
 go_enter Tryz.func15,Tryz.ntmps15
 go_wp2_with fail
 try rw[hW0]
 clear hW0
 refine wp_region_held_drew (S:=fun w'=>Blk w' w.heap.size 28 (Jj al m alc ap apc ar arc (some ⟨b,o,none⟩) afc)/\w'.cell? ⟨b,o+j*9,none⟩=some (.string nm)/\w'.cell? ⟨b,o+k*9+4,none⟩=some (.slice ai f.is.length aic)/\w'.cell? ⟨b,o+k*9+5,none⟩=some (.slice ah f.wh.length ahc)) (by kernel_rfl) HH.u (fun zz=>?_)
 clear HH
 refine tj 0 7 (Yc w.heap.size 3) zz ?_
 refine tj 1 8 (.slice (some ⟨b,o,none⟩) m.F.length afc) zz ?_ (hy:=fun w hS=>by obtain⟨h1,-⟩:=hS;obtain⟨q0,q1,q2,q3⟩:=quad h1;simp[execOp,go_sem,q3])
 refine tj 2 9 (J9 k) zz ?_
 refine tj 3 10 (.pointer (some ⟨b,o+k*9,none⟩)) zz ?_
 simp only[sX,sY,sZ]
 refine tj 4 11 (.pointer (some ⟨b,o+k*9+4,none⟩)) zz ?_
 refine tj 5 12 (.slice ai f.is.length aic) zz ?_ (hy:=fun w hS=>by obtain⟨-,-,h4,h5⟩:=hS;simp[execOp,go_sem,h4])
 refine tj 6 13 (Yc w.heap.size 3) zz ?_
 refine tj 7 14 (.slice (some ⟨b,o,none⟩) m.F.length afc) zz ?_ (hy:=fun w hS=>by obtain⟨h1,-⟩:=hS;obtain⟨q0,q1,q2,q3⟩:=quad h1;simp[execOp,go_sem,q3])
 simp only[sX,sY,sZ]
 refine tj 8 15 (J9 j) zz ?_
 refine tj 9 16 (.pointer (some ⟨b,o+j*9,none⟩)) zz ?_
 refine tj 10 17 (.pointer (some ⟨b,o+j*9,none⟩)) zz ?_
 refine tj 11 18 (.string nm) zz ?_ (hy:=fun w hS=>by obtain⟨-,h0,-,-⟩:=hS;simp[execOp,go_sem,h0])
 simp only[sX,sY,sZ]
 refine callY (i:=12) (f:=34) (args:=#[.slice ai f.is.length aic,.string nm]) (R:=fun u wz=>u=.bool (rdsN f.is nm)/\wz=W0.drew) 19 rfl rfl (by rfl) (by kernel_rfl) (by simp[execOp,go_sem]) (HC1.u.mono fun e w6 ⟨he,hb⟩=>⟨_,he,rfl,hb⟩) ?_
 rintro u W1 ⟨rfl,rfl⟩
 refine⟨zz,?_⟩
 simp only[sX,sY,sZ]
 cases hr:rdsN f.is nm
 . have HX:Hi (q=rdsN f.wh nm):=h_ (by rw[HE.u,hr];rfl)
   refine tj 13 20 (.bool false) zz ?_;refine tj 14 21 (Yc w.heap.size 3) zz ?_;refine tj 15 22 (.slice (some ⟨b,o,none⟩) m.F.length afc) zz ?_ (hy:=fun w hS=>by obtain⟨h1,-⟩:=hS;obtain⟨q0,q1,q2,q3⟩:=quad h1;simp[execOp,go_sem,q3]);refine tj 16 23 (J9 k) zz ?_;simp only[sX,sY,sZ];refine tj 17 24 (.pointer (some ⟨b,o+k*9,none⟩)) zz ?_;refine tj 18 25 (.pointer (some ⟨b,o+k*9+5,none⟩)) zz ?_;refine tj 19 26 (.slice ah f.wh.length ahc) zz ?_ (hy:=fun w hS=>by obtain⟨-,-,h4,h5⟩:=hS;simp[execOp,go_sem,h5]);refine tj 20 27 (Yc w.heap.size 3) zz ?_;simp only[sX,sY,sZ];refine tj 21 28 (.slice (some ⟨b,o,none⟩) m.F.length afc) zz ?_ (hy:=fun w hS=>by obtain⟨h1,-⟩:=hS;obtain⟨q0,q1,q2,q3⟩:=quad h1;simp[execOp,go_sem,q3]);refine tj 22 29 (J9 j) zz ?_;refine tj 23 30 (.pointer (some ⟨b,o+j*9,none⟩)) zz ?_;refine tj 24 31 (.pointer (some ⟨b,o+j*9,none⟩)) zz ?_;simp only[sX,sY,sZ];refine tj 25 32 (.string nm) zz ?_ (hy:=fun w hS=>by obtain⟨-,h0,-,-⟩:=hS;simp[execOp,go_sem,h0]);simp only[sX,sY,sZ];refine callY (i:=26) (f:=34) (args:=#[.slice ah f.wh.length ahc,.string nm]) (R:=fun u wz=>u=.bool (rdsN f.wh nm)/\wz=W0.drew) 33 rfl rfl (by rfl) (by kernel_rfl) (by simp[execOp,go_sem]) (HC2.u.mono fun e w6 ⟨he,hb⟩=>⟨_,he,rfl,hb⟩) ?_;rintro u W1 ⟨rfl,rfl⟩;refine⟨zz,?_⟩;simp only[sX,sY,sZ];rw[<- HX.u];refine tj 27 34 (.bool q) zz ?_;refine tj 28 6 (.bool q) zz ?_;simp only[sX,sY,sZ];refine wpAnyH_done (by kernel_rfl) ?_ _;clear zz;go_wp2_with fail;go_ret;exact⟨rfl,HBd.u⟩
 . have HX:Hi (q=true):=h_ (by rw[HE.u,hr];rfl)
   refine tj 13 20 (.bool true) zz ?_;refine tn 14 21 zz ?_;refine tn 15 22 zz ?_;refine tn 16 23 zz ?_;simp only[sX,sY,sZ];refine tn 17 24 zz ?_;refine tn 18 25 zz ?_;refine tn 19 26 zz ?_;refine tn 20 27 zz ?_;simp only[sX,sY,sZ];refine tn 21 28 zz ?_;refine tn 22 29 zz ?_;refine tn 23 30 zz ?_;refine tn 24 31 zz ?_;simp only[sX,sY,sZ];refine tn 25 32 zz ?_;refine tn 26 33 zz ?_;refine tj 27 34 (.bool true) zz ?_;refine tj 28 6 (.bool true) zz ?_;simp only[sX,sY,sZ];refine wpAnyH_done (by kernel_rfl) ?_ _;clear zz;go_wp2_with fail;go_ret;exact⟨qg2 HX.u.symm,HBd.u⟩
end Go.Proofs.YtebbgodlijlioaaGreatDoor
