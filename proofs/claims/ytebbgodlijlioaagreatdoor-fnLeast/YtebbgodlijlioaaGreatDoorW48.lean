import Derived.Test.YtebbgodlijlioaaGreatDoorW45
import Derived.Test.YtebbgodlijlioaaGreatDoorW46
import Derived.OpenShut
import Derived.Carry
import Derived.Deep.DeepHandedRow
import Derived.Deep.Grids
import Derived.Lib.LaidTab
import Derived.Lib.SmallJoins
import Derived.Test.YtebbgodlijlioaaGreatDoorCards
import Derived.Test.YtebbgodlijlioaaGreatDoorTie
import Derived.Stop.LaidErr
import Derived.Deep.Slices
set_option maxRecDepth 100000
set_option maxHeartbeats 64000000
namespace Go.Proofs.YtebbgodlijlioaaGreatDoor
open Go Go.RowKit Go.ChangeShapes Go.WideShapes Go.ChangeAt
section
variable {H:Type} {enc:TypeId × Value->H} {P:Program} {w:World} {base:Nat} {spare:Nat->Bool} {held:Bool}
end
theorem knobsV:ownKnob Tryz.prog.godebug=none:=by kernel_rfl
theorem laidOutV:laidOutB Tryz.prog=true:=by kernel_rfl
theorem cellsStr:Tryz.prog.cellsOf 9=1:=by kernel_rfl
theorem gPow:Tryz.prog.globalNamed "internal/strconv.uint64pow10" = some 4:=by kernel_rfl
theorem gPowType:(Tryz.prog.globals[4]?).map (·.type)=some 221:=by kernel_rfl
theorem cellsPow:Tryz.prog.cellsOf 221=20:=by kernel_rfl
theorem cellsU64:Tryz.prog.cellsOf 213=1:=by kernel_rfl
theorem pow_eq:(Rows.laid_internal_strconv_uint64pow10:DataW Unit)=Lib.tabData .u64 Lib.pow10Tab:=by rfl
theorem pow_of {W:World}{rest:List (String × DataW Unit)}(h:laidMet Tryz.prog (("math/bits.deBruijn32tab",Rows.laid_math_bits_deBruijn32tab) :: ("math/bits.deBruijn64tab",Rows.laid_math_bits_deBruijn64tab) :: ("internal/strconv.uint64pow10",Rows.laid_internal_strconv_uint64pow10) :: rest) W):Pow W:=by
 have h2:=h.tail.tail
 rw[pow_eq]at h2
 exact Lib.tabIs_of_head gPow gPowType Tryz.underlying221 Tryz.underlying213 cellsU64 cellsPow h2
def laidT (k:IntKind)(zs:List Int):Obj->Obj:=fun
 | .cells _ t frozen=>.cells (zs.map (fun z=>Value.int k z)).toArray t frozen
 | o=>o
section
variable {H:Type} {enc:TypeId × Value->H} {P:Program} {w:World} {base:Nat} {held:Bool}
theorem q2a {enc:TypeId × Value->H}{sp:Nat->Bool}{fuel:Nat}{t e:TypeId}{n:Nat}{cs:List Value}{zs:List (List UInt8)}{p:List MemPlace}
 (ht:P.underlying t=some (.array n e)) (he:P.underlying e=some .string) (hce:P.cellsOf e=1) (hct:P.cellsOf t=n)
 (h:DataW.trod enc P w base sp held fuel t cs=some (.agg (zs.map fun z=>.lit (.string z)),p)):cs=zs.map fun z=>Value.string ⟨z.toArray⟩:=by
 cases fuel with
 | zero=>simp[DataW.trod]at h
 | succ fuel =>
  simp only[DataW.trod,ht,hce,hct,Nat.mul_one]at h;split at h
  . rename_i hl
    obtain⟨xs,hm,hx⟩:=Option.map_eq_some_iff.1 h;have hxs:xs.map (·.1)=zs.map fun z=>(DataW.lit (.string z):DataW H):=by
     have:=congrArg Prod.fst hx;simpa using this
    have hxl:xs.length=n:=(by simpa using Lib.mapM_length hm);have hzl:zs.length=n:=by
     have:=congrArg List.length hxs;simp at this;omega
    apply List.ext_getElem?;intro i;by_cases hi:i<n
    . obtain⟨b,hb,hf⟩:=Lib.mapM_at hm i i (by simp[hi])
      obtain⟨s,hc,rfl,_⟩:=DataW.trod_string he hf;have h1:cs[i]? = some (.string s):=by
       have:=congrArg (·[0]?) hc;simpa [List.getElem?_take,List.getElem?_drop] using this
      have h2:(xs.map (·.1))[i]? = some (DataW.lit (.string s.data.toList):DataW H):=(by simp[hb]);rw[hxs]at h2;simp only[Zk,Option.map_eq_some_iff,DataW.lit.injEq,Lit.string.injEq]at h2;obtain⟨z',hz',rfl⟩:=h2;simp[h1,hz']
    . rw[Vl (by omega),Vl (by simp;omega)]
  . cases h
end
theorem gWrd:Tryz.prog.globalNamed "loop.example/s0011/impl.operatorWords" = some 3:=by kernel_rfl
theorem gWrdType:(Tryz.prog.globals[3]?).map (·.type)=some 218:=by kernel_rfl
theorem cellsWrd:Tryz.prog.cellsOf 218=26:=by kernel_rfl
theorem wrd_eq:(Rows.laid_loop_example_s0011_impl_operatorWords:DataW Unit)=.agg ((wrdT.map (·.data.toList)).map fun z=>.lit (.string z)):=by rfl
theorem q67 {W:World}{rest:List (String × DataW Unit)}(h:laidMet Tryz.prog (("loop.example/s0011/impl.operatorWords",Rows.laid_loop_example_s0011_impl_operatorWords) :: rest) W):Wrds W:=by
 rw[wrd_eq]at h
 obtain⟨ps,⟨g',t',cs,fuel,p,q,hg',ht',hvar,hd,_,_⟩,_⟩:=h
 obtain rfl:=Z6 (gWrd.symm.trans hg')
 obtain rfl:=Z6 (gWrdType.symm.trans ht')
 have hc:=q2a Tryz.underlying218 Tryz.underlying9 cellsStr cellsWrd hd
 have hcell:∀k,k<26->W.cell? ⟨3,k,none⟩=some (.string (wrdT.getD k ⟨#[]⟩)):=fun k hk=>by
  have:=World.var?_cell gWrd hvar k;rw[this];have e:cs[k]? = cs.toList[k]?:=by simp
  rw[e,hc];have hl:wrdT.length=26:=rfl;simp only[List.map_map,Zk];rw[Yj (by omega)];simp[List.getD,List.getElem?_eq_getElem (show k<wrdT.length by omega)]
 refine⟨?_,hcell⟩
 apply On
 intro h0
 have hz:=hcell 0 (by omega)
 have e:W.heap[(3:Nat)]? = none:=Array.getElem?_eq_none h0
 simp[World.cell?,e]at hz
def laidS (zs:List ByteArray):Obj->Obj:=fun
 | .cells _ t frozen=>.cells (zs.map Value.string).toArray t frozen
 | o=>o
end Go.Proofs.YtebbgodlijlioaaGreatDoor
namespace Go.Proofs.YtebbgodlijlioaaGreatDoor
open Go Go.RowKit
structure FW (b:Nat)(g:Fl):Prop where
 nm:g.nm.size<=64
 sy:g.sy.size<=64
 bl:g.bys.length<=b
 is:LFit g.is
 wh:LFit g.wh
 va:LFit g.va
 mu:LFit g.mu
theorem FFit.fw {nl nr:Nat}{g:Fl}(h:FFit nl nr g):FW nr g:=⟨h.nm,h.sy,h.bs.1,h.is,h.wh,h.va,h.mu⟩
theorem FW.fit {b:Nat}{g:Fl}(h:FW b g)(hb:b<=10000):FitF g:=by
 have:=h.nm;have:=h.sy;have:=h.bl;have:=h.is.2;have:=h.wh.2;have:=h.va.2;have:=h.mu.2
 exact⟨by omega,by omega,by omega,by omega,by omega,by omega,by omega,fun _ hk=>qgj h.is hk,fun _ hk=>qgj h.wh hk,fun _ hk=>qgj h.va hk,fun _ hk=>qgj h.mu hk⟩
theorem qd6 {n:Nx}(h:FitS n):LFit [n]:=⟨fun x hx=>by obtain rfl:=Yx.1 hx;exact h,by show 1<=66;omega⟩
theorem sp1_fw (what:Nat){nx:ByteArray}(hx:nx.size<=64){b:Nat}{g:Fl}(h:FW b g):FW b (sp1 what nx g):=by
 unfold sp1
 split
 . exact⟨hx,h.sy,h.bl,h.is,h.wh,h.va,h.mu⟩
 . exact h
theorem sp2_fw (what:Nat){b:Nat}{g:Fl}(h:FW b g):FW b (sp2 what g):=by
 unfold sp2
 split
 . exact⟨by show mustS.size<=64;decide,h.sy,h.bl,h.is,h.wh,h.va,h.mu⟩
 . exact h
theorem sp3_fw (what nl:Nat){b:Nat}{g:Fl}(h:FW b g):FW b (sp3 what nl g):=by
 unfold sp3
 split
 . exact⟨h.nm,h.sy,h.bl,h.is,h.wh,h.va,h.mu⟩
 . exact h
theorem sp4_fw (what k:Nat){b:Nat}{g:Fl}(h:FW b g):FW b (sp4 what k g):=by
 unfold sp4
 split
 . exact⟨h.nm,h.sy,h.bl,h.is,h.wh,h.va,h.mu⟩
 . exact h
theorem sp5_fw (what:Nat){b:Nat}{g:Fl}(h:FW b g):FW (b+2) (sp5 what g):=by
 unfold sp5
 split
 . exact⟨h.nm,h.sy,by show([0,0]++g.bys).length<=b+2;rw[Yg];have:=h.bl;show 2+_<=_;omega,h.is,h.wh,h.va,h.mu⟩
 . exact⟨h.nm,h.sy,Ys h.bl (by omega),h.is,h.wh,h.va,h.mu⟩
theorem sp6_fw (what:Nat){b:Nat}{g:Fl}(h:FW b g):FW b (sp6 what g):=by
 unfold sp6
 split
 . exact⟨h.nm,by show noRuleS.size<=64;decide,h.bl,h.is,h.wh,qd5,h.mu⟩
 . exact h
theorem sp7_fw (what:Nat){b:Nat}{g:Fl}(h:FW b g):FW b (sp7 what g):=by
 unfold sp7
 split
 . exact⟨h.nm,h.sy,h.bl,h.is,h.wh,h.va,qd6 (FitS.opn (by omega) (by omega))⟩
 . exact h
theorem sp8_fw (what:Nat){b:Nat}{g:Fl}(h:FW b g):FW b (sp8 what g):=by
 unfold sp8
 split
 . exact⟨h.nm,h.sy,h.bl,h.is,qd6 (FitS.fld (by decide)),h.va,h.mu⟩
 . exact h
theorem sp9_fw (what:Nat){nx:ByteArray}(hx:nx.size<=64){b:Nat}{g:Fl}(h:FW b g):FW b (sp9 what nx g):=by
 unfold sp9
 split
 . exact⟨h.nm,h.sy,nZ _,qd6 (FitS.fld hx),h.wh,h.va,h.mu⟩
 . exact h
theorem qji (what:Nat){nx:ByteArray}(hx:nx.size<=64){b:Nat}{g:Fl}(h:FW b g):FW b (sp10 what nx g):=by
 unfold sp10
 split
 . exact⟨h.nm,h.sy,h.bl,h.is,qd6 (FitS.fld hx),h.va,h.mu⟩
 . exact h
theorem qjj (what:Nat){nx:ByteArray}(hx:nx.size<=64){b:Nat}{g:Fl}(h:FW b g):FW b (sp11 what nx g):=by
 unfold sp11
 split
 . exact⟨h.nm,h.sy,h.bl,h.is,h.wh,h.va,h.mu⟩
 . split
   . exact⟨h.nm,h.sy,h.bl,h.is,h.wh,h.va,qd6 (FitS.fld hx)⟩
   . split
     . exact⟨h.nm,h.sy,nZ _,qd6 (FitS.cst 1 1 (nZ _) (by omega) (by omega)),h.wh,h.va,qd6 (FitS.fld hx)⟩
     . exact h
theorem spG_fw (what k nl:Nat){nx:ByteArray}(hx:nx.size<=64){b:Nat}{g:Fl}(h:FW b g):FW (b+2) (spG what k nl nx g) :=
 qjj what hx (qji what hx (sp9_fw what hx (sp8_fw what (sp7_fw what (sp6_fw what (sp5_fw what (sp4_fw what k (sp3_fw what nl (sp2_fw what (sp1_fw what hx h))))))))))
theorem qbe {N nr:Nat}{m:Fm}(h:FmFit N nr m)(hN:N<=100)(hr:nr<=1000)(what k x:Nat)(hx:x<m.F.length)(hk:k<m.F.length):FitM { m with F:=m.F.set k (spG what k N (m.F.getD x noFl).nm (m.F.getD k noFl)),P:=spB what N m.P,R:=spR what m.R }:=by
 have gd:∀{j:Nat},j<m.F.length->FFit N nr (m.F.getD j noFl):=fun {j} hj=>by
  rw[Yl,Yj hj];exact h.fs _ (Yk hj)
 have e1:=h.ll;have e2:=h.pl;have e3:=h.rl;have e4:=h.fl
 refine⟨by show m.L.length<=_;omega,?_,?_,by show(m.F.set k _).length<=_;rw[Zz];omega,fun y hy=>Ys (h.l y hy) (by decide),?_,?_⟩
 . show(spB what N m.P).length<=_
   unfold spB;split
   . rw[List.length_drop];omega
   . split
     . show m.P.length+1<=_;omega
     . split
       . show m.P.length+1<=_;omega
       . omega
 . show(spR what m.R).length<=_
   unfold spR;split
   . show m.R.length+1<=_;omega
   . omega
 . intro y hy
   have hy:y∈spR what m.R:=hy;unfold spR at hy;split at hy
   . rcases Z2.1 hy with rfl | hy
     . show clerkS.size<=_;decide
     . exact Ys (h.r y hy) (by decide)
   . exact Ys (h.r y hy) (by decide)
 . intro y hy
   rcases List.mem_or_eq_of_mem_set hy with hy | rfl
   . exact(h.fs y hy).fit hr
   . exact(spG_fw what k N (gd hx).nm (gd hk).fw).fit (by omega)
structure DMk (X:Nat)(g:Fl)(A:FA)(base:Nat)(W1 W:World):Prop where
 bx:Blk W X 42 (fCs g A)
 ow:FOw W base g A
 bl:Below W1.heap.size W1 W
 hX:W1.heap.size<=X
section
variable {X base:Nat} {g g':Fl} {A A':FA} {W1 W W':World}
theorem DMk.mono (h:DMk X g A base W1 W)(hb:Below W.heap.size W W'):DMk X g A base W1 W':=⟨h.bx.mono hb h.bx.lt,h.ow.mono hb,h.bl.trans (hb.mono h.bl.size),h.hX⟩
theorem DMk.put (h:DMk X g A base W1 W)(j:Nat)(v:Value)(hc:(fCs g A).set j v=fCs g' A')(ho:FOw W base g' A'):DMk X g' A' base W1 (W.setCell ⟨X,j,none⟩ v) :=
 ⟨by rw[<- hc];exact h.bx.set j v,ho.one h.bx (by decide) (by decide) (fun k hk=>heap_setCell_other _ _ _ _ hk),h.bl.setCell h.hX _,h.hX⟩
end
def c28:Nx:=⟨0,⟨2,1,⟨#[]⟩⟩,⟨#[]⟩⟩
def lmF (nm:Nat->ByteArray)(S:ByteArray)(k:Nat):Fl:=⟨nm k,3,0,[],[],[],[c28],S,[]⟩
def lmL (nm:Nat->ByteArray)(S:ByteArray):Nat->List Fl
 | 0=>[]
 | k+1=>lmL nm S k++[lmF nm S k]
theorem qhv (nm:Nat->ByteArray)(S:ByteArray):∀k,(lmL nm S k).length=k
 | 0=>rfl
 | k+1=>by show(lmL nm S k++_).length=_;rw[Yg,qhv nm S k];rfl
def ab8:ByteArray:=⟨#[97,98,99,100,101,102,103,104]⟩
theorem qhw (nm:Nat->ByteArray)(S:ByteArray):∀k,(lmL nm S k).map (·.nm)=(List.range k).map nm
 | 0=>rfl
 | k+1=>by show(lmL nm S k++[lmF nm S k]).map _=_;rw[Zf,qhw nm S k,Zg,Zf];rfl
theorem lmL_in (nm:Nat->ByteArray)(S:ByteArray):∀k x,x∈lmL nm S k->∃i,i<k/\x=lmF nm S i
 | 0,x,hx=>by cases hx
 | k+1,x,hx=>by
  have hx':x∈lmL nm S k++[lmF nm S k]:=hx;rcases Y9.1 hx' with h | h
  . obtain⟨i,hi,e⟩:=lmL_in nm S k x h
    exact⟨i,by omega,e⟩
  . exact⟨k,by omega,Yx.1 h⟩
theorem nms_ok:namesOk ((List.range 28).map (nmT ab8))=true:=by decide +kernel
theorem lm_vfA {nm:Nat->ByteArray}{S:ByteArray}(hn:∀i,i<28->nm i=nmT ab8 i)(hS:okText S=true):VfA ⟨[lowS],[],[],lmL nm S 28⟩:=by
 have hl:=qhv nm S 28
 have e:fNames ⟨[lowS],[],[],lmL nm S 28⟩=(List.range 28).map (nmT ab8):=by
  show(lmL nm S 28).map (·.nm)=_;rw[qhw];exact Vd fun i hi=>hn i (Zb.1 hi)
 refine⟨by show 1<=32;decide,nZ _,nZ _,by show(lmL nm S 28).length<=200;omega,by show namesOk [lowS]=true;decide +kernel,rfl,by rw[e];exact nms_ok,fun x hx=>by simp at hx,fun x hx=>by simp at hx,fun x hx=>?_,fun x hx=>?_⟩
 . obtain⟨i,hi,rfl⟩:=lmL_in nm S 28 x hx
   refine(q4r _ _ _).2 ⟨by show(1:Int)<=3;omega,by show(3:Int)<=3;omega,by show(-1:Int)<=0;omega,by show(0:Int)<((1:Nat):Int);omega,rfl,.inl rfl,hS,.inl (by show [c28].length≠0;decide),rfl,rfl,by show ruleOk [c28]=true;decide +kernel,rfl⟩
 . obtain⟨i,hi,rfl⟩:=lmL_in nm S 28 x hx
   show(knows _ []&&knows _ []&&knows _ [c28]&&knows _ [])=true;simp[knows,c28]
theorem fit28 {n S:ByteArray}(h1:n.size<=64)(hS:S.size<=1000):FitF ⟨n,3,0,[],[],[],[c28],S,[]⟩:=
 ⟨by show n.size<=_;omega,by show S.size<=_;omega,by show 0<=_;omega,by show 0<=_;omega,by show 0<=_;omega,by show 1<=_;omega,by show 0<=_;omega,fun _ hk=>absurd hk (nL _),fun _ hk=>absurd hk (nL _),fun k hk=>by
  have:k=0:=by have:k<1:=hk;omega
  subst this;exact(show Fit c28 from ⟨by decide,by decide,by decide,by decide⟩),fun _ hk=>absurd hk (nL _)⟩
theorem lm_fit {nm:Nat->ByteArray}{S:ByteArray}(hn:∀i,i<=28->(nm i).size<=64)(hS:S.size<=1000)(k:Nat)(hk2:k<=28):∀x,x∈lmL nm S k->FitF x:=fun x hx=>by
 obtain⟨i,hi,rfl⟩:=lmL_in nm S k x hx
 have h1:=hn i (by omega)
 exact fit28 h1 hS
theorem qht (nm:Nat->ByteArray)(S:ByteArray)(hnm:∀i:Nat,i<=1000->(nm i=nmT ab8 i/\(nm i).size<=64)/\∀w:World,Calls Tryz.prog 72 (Jt i) w fun e w'=>e=.returned (.string (nm i))/\Below w.heap.size w w')
 (hS:S.size=1000/\okText S=true) (hRp:∀w:World,Calls Tryz.prog 100 #[J9 1000] w fun e w'=>e=.returned (.string S)/\w'=w) (b:Bool) (mo:Nat) (hmo:b.toNat=mo) (left:Int) (hleft:30000+(mo:Int) - ((cT ⟨[lowS],[],[],lmL nm S 28⟩).length:Int) - 40=left)
 (Z:ByteArray) (hZ:0<=left->left<=1000->Z.size<=1000/\∀w:World,Calls Tryz.prog 100 #[J9 left] w fun e w'=>e=.returned (.string Z)/\w'=w) :
 ∀w:World,Calls Tryz.prog 67 #[J9 4,.bool b] w fun e w'=>∃v1 v2 v3 v4 P,e=.returned (.agg #[v1,v2,v3,v4])/\OwM w' w.heap.size v1 v2 v3 v4 ⟨[lowS],[],[],if 0<=left/\left<=1000 then lmL nm S 28++[⟨⟨#[122]⟩,3,0,[],[],[],[c28],Z,[]⟩] else lmL nm S 28⟩ P/\Below w.heap.size w w':=by
 intro w
 obtain⟨fSq,hFS⟩:∃l:List Fl,(if 0<=left/\left<=1000 then lmL nm S 28++[⟨⟨#[122]⟩,3,0,[],[],[],[c28],Z,[]⟩] else lmL nm S 28)=l:=⟨_,rfl⟩
 rw[hFS]
 have HFS:=h_ hFS
 clear hFS
 have hm1:mo<=1:=by rw[<- hmo];cases b <;> decide
 have hv:=lm_vfA (fun i hi=>(hnm i (by omega)).1.1) hS.2
 have hTb:(cT ⟨[lowS],[],[],lmL nm S 28⟩).length<=3714016:=by rw[<- c4_all];exact c4_len hv _
 have hfm:FitM ⟨[lowS],[],[],lmL nm S 28⟩:=⟨(show 1<=9223372036854775807 by decide),nZ _,nZ _,by show(lmL nm S 28).length<=_;rw[qhv];omega,low_in,fun x hx=>by simp at hx,fun x hx=>lm_fit (fun i hi=>(hnm i (by omega)).1.2) (by omega) 28 (nR _) x hx⟩
 have HCp:=h_ fun A W (hs:MSl W ⟨[lowS],[],[],lmL nm S 28⟩ A)=>q11 ⟨[lowS],[],[],lmL nm S 28⟩ A W hfm hv hs
 have HNm:=h_ fun i (hi:i<=1000)=>(hnm i hi).2
 have HRp:=h_ hRp;have HZ:=h_ hZ;have HLf:=h_ hleft;have HTb:=h_ hTb
 clear hnm hS hRp hZ hv hfm hleft hTb
 have hb3:Below w.heap.size w (((w.alloc (.cells Jc 28)).alloc (.cells #[.string lowS] 9)).alloc (.cells (Ji (some ⟨w.heap.size+1,0,none⟩)) 28)):=(((bR w.heap.size w).alloc (nR _) _).alloc (by simp) _).alloc (by simp;omega) _
 go_enter Tryz.func67,Tryz.ntmps67
 go_upto_if 10 with fail
 go_cut [5] from 10 to 10 (fun s5 wx=>s5=J9 mo/\wx=w.alloc (.cells Jc 28))
 case first =>
  cases b
  . obtain rfl:mo=0:=by rw[<- hmo];rfl
    go_wp2_with fail;go_meet;exact⟨rfl,rfl⟩
  . obtain rfl:mo=1:=by rw[<- hmo];rfl
    go_wp2_with fail;go_meet;exact⟨rfl,rfl⟩
 case rest =>
  obtain⟨rfl,rfl⟩:=hcut;go_upto_region 5 with (refine q66 rfl 28 #[(0,.tmp 11)] rfl (Ji (some ⟨w.heap.size+1,0,none⟩)) (by kernel_rfl) ?_)
  have hS1:=(Blk.new (w.alloc (.cells Jc 28)) 9 #[.string lowS]).alloc (.cells (Ji (some ⟨w.heap.size+1,0,none⟩)) 28);have hX1:=Blk.new ((w.alloc (.cells Jc 28)).alloc (.cells #[.string lowS] 9)) 28 (Ji (some ⟨w.heap.size+1,0,none⟩));have hr1:=((Blk.new w 28 Jc).alloc (.cells #[.string lowS] 9)).alloc (.cells (Ji (some ⟨w.heap.size+1,0,none⟩)) 28);simp only[Yv]at hS1 hX1;obtain⟨W0,hW0⟩:=Nq (((w.alloc (.cells Jc 28)).alloc (.cells #[.string lowS] 9)).alloc (.cells (Ji (some ⟨w.heap.size+1,0,none⟩)) 28));rw[hW0]at hS1 hX1 hr1 hb3;have ol:OwnS W0 w.heap.size (.slice (some ⟨w.heap.size+1,0,none⟩) 1 1) [lowS]:=⟨rfl,.inr ⟨w.heap.size+1,1,_,rfl,by omega,hS1,nR _,by unfold maxLen;omega,rfl,rfl⟩⟩;have z:=OwM.nil W0 w.heap.size;have HM:Hi (MMk (w.heap.size+1+1) ⟨[lowS],[],[],lmL nm S 0⟩ [] (.slice (some ⟨w.heap.size+1,0,none⟩) 1 1) Ya Ya Ya w W0):=h_ ⟨hX1,⟨ol,z.p,z.r,z.f,z.e⟩,hb3,hr1,by omega⟩;clear hS1 hX1 hr1 hb3 ol z;simp only[lowS]at hW0;rw[hW0];clear hW0;obtain⟨R,hR⟩:=Nq (w.heap.size+1+1);rw[hR]at HM;rw[hR];go_upto_if 81 with fail
  go_cut [7,8,9] from 82 to 129 (fun _ _ _ wx=>∃P v4,MMk R ⟨[lowS],[],[],fSq⟩ P (.slice (some ⟨w.heap.size+1,0,none⟩) 1 1) Ya Ya v4 w wx)
  case first =>
   go_upto_block 8 with fail
   go_cut [7] from 82 to 102 (fun _ wx=>∃P x c,MMk R ⟨[lowS],[],[],lmL nm S 28⟩ P (.slice (some ⟨w.heap.size+1,0,none⟩) 1 1) Ya Ya (.slice x 28 c) w wx)
   case first =>
    go_wp2_with fail;go_loopw [7] (fun _ wr=>∃(k:Nat) (x:Option Addr) (c:Nat) (P:List (Fl × FA)),k<=28/\P.length=k/\MMk R ⟨[lowS],[],[],lmL nm S k⟩ P (.slice (some ⟨w.heap.size+1,0,none⟩) 1 1) Ya Ya (.slice x k c) w wr) (fun _ wr=>300 - lenAt R 3 wr)
    case atStart=>exact⟨0,none,0,[],by omega,rfl,HM.u⟩
    case round =>
     clear HM;obtain⟨k,x,c,P,hk,hPl,hm⟩:=hrel;obtain⟨q0,q1,q2,q3⟩:=quad hm.bx;have HMr:=h_ hm;clear hm;by_cases hlt:k<28
     . have hlt':(k:Int)<28:=by omega
       have hk3:k<=1000:=(by omega);go_wp2_with fail;refine(HNm.u k hk3 wr).mono ?_;rintro e W1 ⟨rfl,hb⟩;have HM1:=h_ (HMr.u.mono hb);have hln:lenAt R 3 wr=k:=qd4 (quad HMr.u.bx).2.2.2;have HLn:=h_ hln;clear hb HMr q0 q1 q2 q3 hln;obtain⟨X,hXe⟩:=Nq W1.heap.size;have hal:=(bR W1.heap.size W1).alloc (nR _) (.cells (J2 (nm k)) 42);have hd:DMk X ⟨(nm k),3,0,[],[],[],[],⟨#[]⟩,[]⟩ noFA w.heap.size W1 (W1.alloc (.cells (J2 (nm k)) 42)):=⟨by rw[<- hXe];exact Blk.new W1 42 _,⟨World.ownsRow_nil _ _ _ _,World.ownsRow_nil _ _ _ _,World.ownsRow_nil _ _ _ _,World.ownsRow_nil _ _ _ _,World.ownsRow_nil _ _ _ _⟩,hal,by omega⟩;obtain⟨W2,hW2⟩:=Nq (W1.alloc (.cells (J2 (nm k)) 42));rw[hW2]at hd;have HD:=h_ hd;have HW2:=h_ hW2;have HXe:=h_ hXe;clear hal hd hW2 hXe;go_upto_region 20 with (refine q66 rfl 42 #[(0,.tmp 89),(1,.const (J9 3)),(2,.const (J9 0))] rfl (J2 (nm k)) (by kernel_rfl) ?_)
       rw[HW2.u]
       try rw[HXe.u]
       clear HW2 HXe;have HCb:Hi (Calls Tryz.prog 99 #[.bool true] W2 fun e w'=>e=.returned (.agg #[J9 2,J9 1,Yb])/\Below W2.heap.size W2 w'):=h_ (q7e true W2);go_wp2_with fail;refine HCb.u.mono ?_;rintro e W3 ⟨rfl,hb3⟩;have hd3:=HD.u.mono hb3;have HCc:=h_ (q52 2 1 ⟨#[]⟩ W3);have HD3:=h_ hd3;clear HD HCb hb3 hd3;go_wp2_with fail;refine HCc.u.mono ?_;rintro e W4 ⟨rfl,hb4⟩;have hd4:=HD3.u.mono hb4;obtain⟨N5,hN5⟩:=Nq W4.heap.size;have hal:=(bR W4.heap.size W4).alloc (nR _) (.cells J7 96);have hd5:=hd4.mono hal;have hn1:OwnN (W4.alloc (.cells J7 96)) W4.heap.size (.slice (some ⟨W4.heap.size,0,none⟩) 1 1) [c28]:=OwnN.lone W4 c28;have hsz:w.heap.size<=W4.heap.size:=(by have:=HM1.u.bl.size;have:=hd4.bl.size;omega);rw[hN5]at hn1 hsz;have hput:=hd5.put (g':=⟨(nm k),3,0,[],[],[],[c28],⟨#[]⟩,[]⟩) (A':=⟨none,0,none,0,none,0,some ⟨N5,0,none⟩,1,none,0⟩) 6 (.slice (some ⟨N5,0,none⟩) 1 1) rfl ⟨hd5.ow.b,hd5.ow.i,hd5.ow.h,hn1.low hsz,hd5.ow.u⟩;have q6:=hd5.bx.cell 6;have f6:=hd5.bx.free 6;rw[show(fCs ⟨(nm k),3,0,[],[],[],[],⟨#[]⟩,[]⟩ noFA)[6]? = some Ya from rfl]at q6;obtain⟨W5,hW5⟩:=Nq ((W4.alloc (.cells J7 96)).setCell ⟨X,6,none⟩ (.slice (some ⟨N5,0,none⟩) 1 1));rw[hW5]at hput;have HD5:=h_ hput;have HW5:=h_ hW5;have HN5:=h_ hN5;clear hb4 hd4 hal hd5 hn1 hsz hput hW5 HD3 HCc;go_upto_region 21 with (refine qfs rfl (.tmp 92) rfl rfl ?_)
       rw[HW5.u]
       try rw[HN5.u]
       clear HW5 q6 f6 HN5 hN5;go_wp2_with fail;refine(HRp.u W5).mono ?_;rintro e w' ⟨rfl,hw'⟩;rw[hw'];clear hw' w';have hd6:=HD5.u;have hput:=hd6.put (g':=⟨(nm k),3,0,[],[],[],[c28],S,[]⟩) (A':=⟨none,0,none,0,none,0,some ⟨N5,0,none⟩,1,none,0⟩) 7 (.string S) rfl ⟨hd6.ow.b,hd6.ow.i,hd6.ow.h,hd6.ow.v,hd6.ow.u⟩;have q7:=hd6.bx.cell 7;have f7:=hd6.bx.free 7;rw[show(fCs ⟨(nm k),3,0,[],[],[],[c28],⟨#[]⟩,[]⟩ ⟨none,0,none,0,none,0,some ⟨N5,0,none⟩,1,none,0⟩)[7]? = some Yb from rfl]at q7;obtain⟨W6,hW6⟩:=Nq (W5.setCell ⟨X,7,none⟩ (.string S));rw[hW6]at hput;have hm6:=HM1.u.mono hput.bl;have HW6:=h_ hW6;have HRg:=h_ hput.bx.rng;have hal:=(bR W6.heap.size W6).alloc (nR _) (.cells (Ju (nm k) (some ⟨N5,0,none⟩) S) 42);have hm7:=hm6.mono hal;have HFo:=h_ (hput.ow.mono hal);have HNb:Hi (Blk (W6.alloc (.cells (Ju (nm k) (some ⟨N5,0,none⟩) S) 42)) W6.heap.size 42 (fCs ⟨(nm k),3,0,[],[],[],[c28],S,[]⟩ ⟨none,0,none,0,none,0,some ⟨N5,0,none⟩,1,none,0⟩)):=h_ (Blk.new W6 42 (Ju (nm k) (some ⟨N5,0,none⟩) S));have HM7:=h_ hm7;have hrow:=hm7.ow.f.row;rw[hPl]at hrow;have HO7:Hi ((W6.alloc (.cells (Ju (nm k) (some ⟨N5,0,none⟩) S) 42)).ownsRow w.heap.size 42 9 (.slice x k c) P.length (fdV P)):=h_ (by rw[hPl];exact hrow);have hsz7:w.heap.size<=(W6.alloc (.cells (Ju (nm k) (some ⟨N5,0,none⟩) S) 42)).heap.size:=hm7.bl.size;obtain⟨q0,q1,q2,q3⟩:=quad hm6.bx;clear hd6 hput hW6 hm6 hal hm7 hrow HD5 HM1;go_upto_region 22 with fail
       rw[HW6.u];clear HW6 q7 f7;go_wp2_with (first | (at_builtin;refine qc0 (n:=(⟨(nm k),3,0,[],[],[],[c28],S,[]⟩,⟨none,0,none,0,none,0,some ⟨N5,0,none⟩,1,none,0⟩)) rfl _ _ rfl rfl HO7.u rfl HNb.u (by omega) hsz7 ?_) | refine wpList_load_mid rfl 42 (.tmp 7) rfl X 0 rfl (fCs ⟨(nm k),3,0,[],[],[],[c28],S,[]⟩ ⟨none,0,none,0,none,0,some ⟨N5,0,none⟩,1,none,0⟩) _ HRg.u Tryz.underlying42 rfl (by kernel_rfl) ?_ | refine qfr rfl (.tmp 99) rfl rfl ?_);intro v' W8 ho8 hg8 hb8;obtain⟨x8,c8,e8,-,-⟩:=q8b ho8;have hl8:(P++[((⟨(nm k),3,0,[],[],[],[c28],S,[]⟩:Fl),(⟨none,0,none,0,none,0,some ⟨N5,0,none⟩,1,none,0⟩:FA))]).length=k+1:=by rw[Yg,hPl];rfl
       try rw[hl8]at e8
       subst e8;have hm7:=HM7.u;have hm8:=hm7.addF (x:=(⟨(nm k),3,0,[],[],[],[c28],S,[]⟩,⟨none,0,none,0,none,0,some ⟨N5,0,none⟩,1,none,0⟩)) (v':=.slice x8 (k+1) c8) (by first | exact ho8 | (rw[hl8];exact ho8)) hg8 HFo.u hb8;have hk8:Blk W8 R 28 [.slice (some ⟨w.heap.size+1,0,none⟩) 1 1,Ya,Ya,(.slice x k c)]:=(hg8.block _ hm7.bx.lt (fun e=>qdq HO7.u hm7.bx (by decide) e.symm)).trans hm7.bx;have v3:=hk8.cell 3;have vf:=hk8.free 3;simp only[Yh,Yo]at v3;have HM8:=h_ hm8;obtain⟨P8,hP8⟩:=Nq (P++[((⟨(nm k),3,0,[],[],[],[c28],S,[]⟩:Fl),(⟨none,0,none,0,none,0,some ⟨N5,0,none⟩,1,none,0⟩:FA))]);have HL8:Hi (P8.length=k+1):=h_ (by rw[<- hP8];exact hl8);rw[hP8]at HM8;clear hP8 hl8 ho8 hg8 hb8 hm7 hm8 hk8 HM7 HFo HO7 HNb HRg hsz7 q0 q1 q2 q3;have HM9:Hi (MMk R ⟨[lowS],[],[],lmL nm S (k+1)⟩ P8 (.slice (some ⟨w.heap.size+1,0,none⟩) 1 1) Ya Ya (.slice x8 (k+1) c8) w (W8.setCell ⟨R,3,none⟩ (.slice x8 (k+1) c8))):=h_ HM8.u;have hln2:lenAt R 3 (W8.setCell ⟨R,3,none⟩ (.slice x8 (k+1) c8))=k+1:=qd4 (quad HM9.u.bx).2.2.2;have HLn2:=h_ hln2;clear HM8 hln2;go_wp2_with fail;go_roundw
       case rel=>exact⟨k+1,_,_,P8,by omega,HL8.u,HM9.u⟩
       case measure=>rw[HLn.u,HLn2.u];omega
     . have hlt':¬ (k:Int)<28:=by omega
       obtain rfl:k=28:=(by omega);rw[show((28:Nat):Int)=28 from rfl]at *;go_wp2_with fail;go_meet;exact⟨P,x,c,HMr.u⟩
   case rest =>
    clear HM HNm;obtain⟨P,x,c,hm⟩:=hcut;have hPl:P.length=28:=(by have:=hm.ow.e;have h2:=qhv nm S 28;rw[show lmL nm S 28=P.map (·.1) from this,Yz]at h2;exact h2);obtain⟨A,eA,hsl,-⟩:=hm.ow.sl;have HCp2:=h_ (HCp.u A wc hsl);rw[<- eA]at HCp2;have hn28:(lmL nm S 28).length=28:=qhv nm S 28;have HMr:=h_ hm;obtain⟨q0,q1,q2,q3⟩:=quad hm.bx;clear hm eA hsl hn28 HCp;obtain⟨T,hT⟩:∃T:ByteArray,⟨(cT ⟨[lowS],[],[],lmL nm S 28⟩).toArray⟩=T:=⟨_,rfl⟩;have hTs:T.size=(cT ⟨[lowS],[],[],lmL nm S 28⟩).length:=(by rw[<- hT];rfl);have hTb:T.size<=3714016:=(by rw[hTs];exact HTb.u);rw[hT]at HCp2;have HLt:Hi (30000+(mo:Int) - (T.size:Int) - 40=left):=h_ (by rw[hTs];exact HLf.u);clear hT hTs HTb HLf;go_wp2_with fail;refine HCp2.u.mono ?_;rintro e W1 ⟨rfl,hb⟩;have HM1:=h_ (HMr.u.mono hb);clear hb HMr q0 q1 q2 q3 HCp2;have hw1:IntKind.i64.wrap (30000+(mo:Int))=30000+(mo:Int):=(by rw[IntKind.wrap_i64];omega);have hw2:IntKind.i64.wrap (30000+(mo:Int) - (T.size:Int))=30000+(mo:Int) - (T.size:Int):=(by rw[IntKind.wrap_i64];omega);have hw3:IntKind.i64.wrap (30000+(mo:Int) - (T.size:Int) - 40)=left:=(by rw[IntKind.wrap_i64];have:=HLt.u;omega);have hlb:-10000000<=left/\left<=100000:=(by have:=HLt.u;omega);go_upto_region 24 with fail
    try rw[hw1]
    try rw[hw2]
    try rw[hw3]
    try rw[HLt.u]
    clear hw1 hw2 hw3 HLt;by_cases hl0:0<=left
    . by_cases hl1:left<=1000
      . have HCz:=h_ (HZ.u hl0 hl1).2
        have hli:fSq=lmL nm S 28++[⟨⟨#[122]⟩,3,0,[],[],[],[c28],Z,[]⟩]:=(by rw[<- HFS.u];exact Yy ⟨hl0,hl1⟩);have HLi:=h_ hli;clear hli;go_upto_if 115 with fail
        go_upto_region 25 with fail
        obtain⟨X,hXe⟩:=Nq W1.heap.size;have hal:=(bR W1.heap.size W1).alloc (nR _) (.cells Jv 42);have hd:DMk X ⟨⟨#[122]⟩,3,0,[],[],[],[],⟨#[]⟩,[]⟩ noFA w.heap.size W1 (W1.alloc (.cells Jv 42)):=⟨by rw[<- hXe];exact Blk.new W1 42 _,⟨World.ownsRow_nil _ _ _ _,World.ownsRow_nil _ _ _ _,World.ownsRow_nil _ _ _ _,World.ownsRow_nil _ _ _ _,World.ownsRow_nil _ _ _ _⟩,hal,by omega⟩;obtain⟨W2,hW2⟩:=Nq (W1.alloc (.cells Jv 42));rw[hW2]at hd;have HD:=h_ hd;have HW2:=h_ hW2;have HXe:=h_ hXe;clear hal hd hW2 hXe;go_upto_region 26 with (refine q66 rfl 42 #[(0,.const (.string ⟨#[122]⟩)),(1,.const (J9 3)),(2,.const (J9 0))] rfl Jv (by kernel_rfl) ?_)
        rw[HW2.u]
        try rw[HXe.u]
        clear HW2 HXe;have HCb:Hi (Calls Tryz.prog 99 #[.bool true] W2 fun e w'=>e=.returned (.agg #[J9 2,J9 1,Yb])/\Below W2.heap.size W2 w'):=h_ (q7e true W2);go_wp2_with fail;refine HCb.u.mono ?_;rintro e W3 ⟨rfl,hb3⟩;have hd3:=HD.u.mono hb3;have HCc:=h_ (q52 2 1 ⟨#[]⟩ W3);have HD3:=h_ hd3;clear HD HCb hb3 hd3;go_wp2_with fail;refine HCc.u.mono ?_;rintro e W4 ⟨rfl,hb4⟩;have hd4:=HD3.u.mono hb4;obtain⟨N5,hN5⟩:=Nq W4.heap.size;have hal:=(bR W4.heap.size W4).alloc (nR _) (.cells J7 96);have hd5:=hd4.mono hal;have hn1:OwnN (W4.alloc (.cells J7 96)) W4.heap.size (.slice (some ⟨W4.heap.size,0,none⟩) 1 1) [c28]:=OwnN.lone W4 c28;have hsz:w.heap.size<=W4.heap.size:=(by have:=HM1.u.bl.size;have:=hd4.bl.size;omega);rw[hN5]at hn1 hsz;have hput:=hd5.put (g':=⟨⟨#[122]⟩,3,0,[],[],[],[c28],⟨#[]⟩,[]⟩) (A':=⟨none,0,none,0,none,0,some ⟨N5,0,none⟩,1,none,0⟩) 6 (.slice (some ⟨N5,0,none⟩) 1 1) rfl ⟨hd5.ow.b,hd5.ow.i,hd5.ow.h,hn1.low hsz,hd5.ow.u⟩;have q6:=hd5.bx.cell 6;have f6:=hd5.bx.free 6;rw[show(fCs ⟨⟨#[122]⟩,3,0,[],[],[],[],⟨#[]⟩,[]⟩ noFA)[6]? = some Ya from rfl]at q6;obtain⟨W5,hW5⟩:=Nq ((W4.alloc (.cells J7 96)).setCell ⟨X,6,none⟩ (.slice (some ⟨N5,0,none⟩) 1 1));rw[hW5]at hput;have HD5:=h_ hput;have HW5:=h_ hW5;have HN5:=h_ hN5;clear hb4 hd4 hal hd5 hn1 hsz hput hW5 HD3 HCc;go_upto_region 27 with (refine qfs rfl (.tmp 118) rfl rfl ?_)
        rw[HW5.u]
        try rw[HN5.u]
        clear HW5 q6 f6 HN5 hN5;go_wp2_with fail;refine(HCz.u W5).mono ?_;rintro e w' ⟨rfl,hw'⟩;rw[hw'];clear hw' w';have hd6:=HD5.u;have hput:=hd6.put (g':=⟨⟨#[122]⟩,3,0,[],[],[],[c28],Z,[]⟩) (A':=⟨none,0,none,0,none,0,some ⟨N5,0,none⟩,1,none,0⟩) 7 (.string Z) rfl ⟨hd6.ow.b,hd6.ow.i,hd6.ow.h,hd6.ow.v,hd6.ow.u⟩;have q7:=hd6.bx.cell 7;have f7:=hd6.bx.free 7;rw[show(fCs ⟨⟨#[122]⟩,3,0,[],[],[],[c28],⟨#[]⟩,[]⟩ ⟨none,0,none,0,none,0,some ⟨N5,0,none⟩,1,none,0⟩)[7]? = some Yb from rfl]at q7;obtain⟨W6,hW6⟩:=Nq (W5.setCell ⟨X,7,none⟩ (.string Z));rw[hW6]at hput;have hm6:=HM1.u.mono hput.bl;have HW6:=h_ hW6;have HRg:=h_ hput.bx.rng;have hal:=(bR W6.heap.size W6).alloc (nR _) (.cells (Js (some ⟨N5,0,none⟩) Z) 42);have hm7:=hm6.mono hal;have HFo:=h_ (hput.ow.mono hal);have HNb:Hi (Blk (W6.alloc (.cells (Js (some ⟨N5,0,none⟩) Z) 42)) W6.heap.size 42 (fCs ⟨⟨#[122]⟩,3,0,[],[],[],[c28],Z,[]⟩ ⟨none,0,none,0,none,0,some ⟨N5,0,none⟩,1,none,0⟩)):=h_ (Blk.new W6 42 (Js (some ⟨N5,0,none⟩) Z));have HM7:=h_ hm7;have hrow:=hm7.ow.f.row;rw[hPl]at hrow;have HO7:Hi ((W6.alloc (.cells (Js (some ⟨N5,0,none⟩) Z) 42)).ownsRow w.heap.size 42 9 (.slice x 28 c) P.length (fdV P)):=h_ (by rw[hPl];exact hrow);have hsz7:w.heap.size<=(W6.alloc (.cells (Js (some ⟨N5,0,none⟩) Z) 42)).heap.size:=hm7.bl.size;obtain⟨q0,q1,q2,q3⟩:=quad hm6.bx;clear hd6 hput hW6 hm6 hal hm7 hrow HD5 HM1;go_upto_region 28 with fail
        rw[HW6.u];clear HW6 q7 f7;go_wp2_with (first | (at_builtin;refine qc0 (n:=(⟨⟨#[122]⟩,3,0,[],[],[],[c28],Z,[]⟩,⟨none,0,none,0,none,0,some ⟨N5,0,none⟩,1,none,0⟩)) rfl _ _ rfl rfl HO7.u rfl HNb.u (by omega) hsz7 ?_) | refine wpList_load_mid rfl 42 (.tmp 9) rfl X 0 rfl (fCs ⟨⟨#[122]⟩,3,0,[],[],[],[c28],Z,[]⟩ ⟨none,0,none,0,none,0,some ⟨N5,0,none⟩,1,none,0⟩) _ HRg.u Tryz.underlying42 rfl (by kernel_rfl) ?_ | refine qfr rfl (.tmp 126) rfl rfl ?_);intro v' W8 ho8 hg8 hb8;obtain⟨x8,c8,e8,-,-⟩:=q8b ho8;have hl8:(P++[((⟨⟨#[122]⟩,3,0,[],[],[],[c28],Z,[]⟩:Fl),(⟨none,0,none,0,none,0,some ⟨N5,0,none⟩,1,none,0⟩:FA))]).length=28+1:=by rw[Yg,hPl];rfl
        try rw[hl8]at e8
        subst e8;have hm7:=HM7.u;have hm8:=hm7.addF (x:=(⟨⟨#[122]⟩,3,0,[],[],[],[c28],Z,[]⟩,⟨none,0,none,0,none,0,some ⟨N5,0,none⟩,1,none,0⟩)) (v':=.slice x8 (28+1) c8) (by first | exact ho8 | (rw[hl8];exact ho8)) hg8 HFo.u hb8;have hk8:Blk W8 R 28 [.slice (some ⟨w.heap.size+1,0,none⟩) 1 1,Ya,Ya,(.slice x 28 c)]:=(hg8.block _ hm7.bx.lt (fun e=>qdq HO7.u hm7.bx (by decide) e.symm)).trans hm7.bx;have v3:=hk8.cell 3;have vf:=hk8.free 3;simp only[Yh,Yo]at v3;have HM8:=h_ hm8;obtain⟨P8,hP8⟩:=Nq (P++[((⟨⟨#[122]⟩,3,0,[],[],[],[c28],Z,[]⟩:Fl),(⟨none,0,none,0,none,0,some ⟨N5,0,none⟩,1,none,0⟩:FA))]);have HL8:Hi (P8.length=28+1):=h_ (by rw[<- hP8];exact hl8);rw[hP8]at HM8;clear hP8 hl8 ho8 hg8 hb8 hm7 hm8 hk8 HM7 HFo HO7 HNb HRg hsz7 q0 q1 q2 q3;go_wp2_with fail;go_meet;exact⟨P8,_,by rw[HLi.u];exact HM8.u⟩
      . have hli:fSq=lmL nm S 28:=by rw[<- HFS.u];exact Yu (fun h=>hl1 h.2)
        have HLi:=h_ hli;clear hli;go_wp2_with fail;go_meet;exact⟨P,_,by rw[HLi.u];exact HM1.u⟩
    . have hli:fSq=lmL nm S 28:=by rw[<- HFS.u];exact Yu (fun h=>hl0 h.1)
      have HLi:=h_ hli;clear hli;go_wp2_with fail;go_meet;exact⟨P,_,by rw[HLi.u];exact HM1.u⟩
  case rest =>
   obtain⟨P,v4,hm⟩:=hcut;obtain⟨x1,c1,e1,-,-⟩:=q8b hm.ow.f.row;obtain⟨n4,hn4⟩:=Nq P.length;rw[hn4]at e1;subst e1;have HF:=h_ hm.fin;have HR0:=h_ hm.r0;obtain⟨q0,q1,q2,q3⟩:=quad hm.bx;clear hm hn4 HM HNm HCp HRp HZ HLf HTb hmo hm1;go_wp2_with (refine wpList_store_row rfl 28 (.tmp 4) (.tmp 130) rfl w.heap.size #[.slice (some ⟨w.heap.size+1,0,none⟩) 1 1,Ya,Ya,.slice x1 n4 c1] rfl rfl 28 Jc HR0.u (by kernel_rfl) rfl (by simp[Value.oneCell']) ?_);clear q0 q1 q2 q3;obtain⟨y0,y1,y2,y3⟩:=quad HF.u.2.2;exact bodyPost_ret (v:=.agg #[.slice (some ⟨w.heap.size+1,0,none⟩) 1 1,Ya,Ya,.slice x1 n4 c1]) (by simp[results,Tryz.results67,go_sem,y0,y1,y2,y3]) rfl ⟨_,_,_,_,P,rfl,HF.u.1,HF.u.2.1⟩
abbrev latV (N:Int)(a1 a2 a3:Option Addr)(s1 c1 s2 c2 s3 c3:Nat)(bot top:Int):Value:=.agg #[J9 N,.slice a1 s1 c1,.slice a2 s2 c2,.slice a3 s3 c3,J9 bot,J9 top]
theorem q1b (m:Fm)(A:MA)(b:Nat)(code:Int)(w:World)(hz:ImplZ m.L.length m.P.length (pr1 m) (pr2 m) code)(hf:FitM m)(ha:MSl w m A)(ht:Tab w) :
 Calls Tryz.prog 21 #[wV m A b] w fun r w'=>r=.returned (.tuple #[zeroL,J9 code])/\Below w.heap.size w w':=by
 have HZ:=h_ hz
 have HPm:=h_ fun W (hs:MSl W m A)=>qik hs
 have h1:=hf.ll
 obtain⟨al,alc,ap,apc,ar,arc,af,afc,afa⟩:=A
 unfold wV
 dsimp only at HPm⊢
 have HK:=h_ ((Blk.new w 56 #[.slice al m.L.length alc,.slice ap m.P.length apc,.slice ar m.R.length arc,.slice af m.F.length afc,.map (some b)]).alloc (.cells Jd 35))
 have HR:=h_ (Blk.new (w.alloc (.cells #[.slice al m.L.length alc,.slice ap m.P.length apc,.slice ar m.R.length arc,.slice af m.F.length afc,.map (some b)] 56)) 35 Jd)
 rw[Yv]at HR
 have HB:=h_ (((bR w.heap.size w).alloc (nR _) (.cells #[.slice al m.L.length alc,.slice ap m.P.length apc,.slice ar m.R.length arc,.slice af m.F.length afc,.map (some b)] 56)).alloc (by simp) (.cells Jd 35))
 obtain⟨W0,hW0⟩:=Nq ((w.alloc (.cells #[.slice al m.L.length alc,.slice ap m.P.length apc,.slice ar m.R.length arc,.slice af m.F.length afc,.map (some b)] 56)).alloc (.cells Jd 35))
 have hs0:W0.heap.size=w.heap.size+2:=by rw[<- hW0];simp
 rw[hW0]at HK HR HB
 obtain⟨y0,y1,y2,y3,y4⟩:=five HK.u
 have HC2:=h_ (HZ.u W0 ap apc (HPm.u W0 (ha.mono HB.u)) (ht.mono HB.u))
 unfold zeroL at HC2⊢
 clear hf hz ha ht
 go_enter Tryz.func21,Tryz.ntmps21
 go_wp2_with fail
 try rw[hW0]
 refine HC2.u.mono ?_
 rintro r W1 ⟨rfl,hb⟩
 rw[hs0]at hb
 replace HR:=h_ (HR.u.mono hb (by omega));replace HB:=h_ (HB.u.trans (hb.mono (by omega)))
 obtain⟨r0,r1,r2,r3,r4,r5⟩:=(six' HR.u).1
 obtain⟨f0,f1,f2,f3,f4,f5⟩:=(six' HR.u).2
 have HR9:=h_ ((((((HR.u.set 0 (J9 0)).set 1 Ya).set 2 Ya).set 3 Ya).set 4 (J9 0)).set 5 (J9 0))
 simp only[Yd,Ye]at HR9
 have HB9:=h_ ((((((HB.u.setCell (p:=⟨w.heap.size+1,0,none⟩) (by simp) (J9 0)).setCell (p:=⟨w.heap.size+1,1,none⟩) (by simp) Ya).setCell (p:=⟨w.heap.size+1,2,none⟩) (by simp) Ya).setCell (p:=⟨w.heap.size+1,3,none⟩) (by simp) Ya).setCell (p:=⟨w.heap.size+1,4,none⟩) (by simp) (J9 0)).setCell (p:=⟨w.heap.size+1,5,none⟩) (by simp) (J9 0))
 clear hb hW0 y0 y1 y2 y3 y4
 go_wp2_with fail
 obtain⟨k0,k1,k2,k3,k4,k5⟩:=(six' HR9.u).1
 exact bodyPost_ret (v:=.tuple #[.agg Jd,J9 code]) (by simp[results,Tryz.results21,go_sem,k0,k1,k2,k3,k4,k5]) rfl ⟨rfl,HB9.u⟩
theorem q1a (m:Fm)(A:MA)(b s:Nat)(F:Nat->Bool)(J M:Nat->Int)(bot top:Int)(w:World)(hz:ImplF m.L.length m.P.length (pr1 m) (pr2 m) s F J M bot top)(hf:FitM m)(ha:MSl w m A)(ht:Tab w) :
 Calls Tryz.prog 21 #[wV m A b] w fun r w'=>∃a1 a2 a3 c1 c2 c3,r=.returned (.tuple #[latV m.L.length a1 a2 a3 s c1 s c2 s c3 bot top,J9 0])/\Bools w' a1 s F/\Ints w' a2 s J/\Below w.heap.size w w':=by
 have HZ:=h_ hz
 have HPm:=h_ fun W (hs:MSl W m A)=>qik hs
 have h1:=hf.ll
 obtain⟨al,alc,ap,apc,ar,arc,af,afc,afa⟩:=A
 unfold wV
 dsimp only at HPm⊢
 have HK:=h_ ((Blk.new w 56 #[.slice al m.L.length alc,.slice ap m.P.length apc,.slice ar m.R.length arc,.slice af m.F.length afc,.map (some b)]).alloc (.cells Jd 35))
 have HR:=h_ (Blk.new (w.alloc (.cells #[.slice al m.L.length alc,.slice ap m.P.length apc,.slice ar m.R.length arc,.slice af m.F.length afc,.map (some b)] 56)) 35 Jd)
 rw[Yv]at HR
 have HB:=h_ (((bR w.heap.size w).alloc (nR _) (.cells #[.slice al m.L.length alc,.slice ap m.P.length apc,.slice ar m.R.length arc,.slice af m.F.length afc,.map (some b)] 56)).alloc (by simp) (.cells Jd 35))
 obtain⟨W0,hW0⟩:=Nq ((w.alloc (.cells #[.slice al m.L.length alc,.slice ap m.P.length apc,.slice ar m.R.length arc,.slice af m.F.length afc,.map (some b)] 56)).alloc (.cells Jd 35))
 have hs0:W0.heap.size=w.heap.size+2:=by rw[<- hW0];simp
 rw[hW0]at HK HR HB
 obtain⟨y0,y1,y2,y3,y4⟩:=five HK.u
 have HC2:=h_ (HZ.u W0 ap apc (HPm.u W0 (ha.mono HB.u)) (ht.mono HB.u))
 clear hf hz ha ht
 go_enter Tryz.func21,Tryz.ntmps21
 go_wp2_with fail
 try rw[hW0]
 refine HC2.u.mono ?_
 rintro r W1 ⟨G1,G2,G3,rfl,k1,k2,-,g1,g2,-,-,-,-,hb⟩
 rw[hs0]at hb g1 g2
 replace HR:=h_ (HR.u.mono hb (by omega));replace HB:=h_ (HB.u.trans (hb.mono (by omega)))
 obtain⟨r0,r1,r2,r3,r4,r5⟩:=(six' HR.u).1
 obtain⟨f0,f1,f2,f3,f4,f5⟩:=(six' HR.u).2
 have HR9:=h_ ((((((HR.u.set 0 (J9 m.L.length)).set 1 (.slice (some ⟨G1,0,none⟩) s s)).set 2 (.slice (some ⟨G2,0,none⟩) s s)).set 3 (.slice (some ⟨G3,0,none⟩) s s)).set 4 (J9 bot)).set 5 (J9 top))
 simp only[Yd,Ye]at HR9
 have HB9:=h_ ((((((HB.u.setCell (p:=⟨w.heap.size+1,0,none⟩) (by simp) (J9 m.L.length)).setCell (p:=⟨w.heap.size+1,1,none⟩) (by simp) (.slice (some ⟨G1,0,none⟩) s s)).setCell (p:=⟨w.heap.size+1,2,none⟩) (by simp) (.slice (some ⟨G2,0,none⟩) s s)).setCell (p:=⟨w.heap.size+1,3,none⟩) (by simp) (.slice (some ⟨G3,0,none⟩) s s)).setCell (p:=⟨w.heap.size+1,4,none⟩) (by simp) (J9 bot)).setCell (p:=⟨w.heap.size+1,5,none⟩) (by simp) (J9 top))
 have keep:∀{g:Nat} {t:TypeId} {cs:List Value},Blk W1 g t cs->w.heap.size+2<=g->Blk ((((((W1.setCell ⟨w.heap.size+1,0,none⟩ (J9 m.L.length)).setCell ⟨w.heap.size+1,1,none⟩ (.slice (some ⟨G1,0,none⟩) s s)).setCell ⟨w.heap.size+1,2,none⟩ (.slice (some ⟨G2,0,none⟩) s s)).setCell ⟨w.heap.size+1,3,none⟩ (.slice (some ⟨G3,0,none⟩) s s)).setCell ⟨w.heap.size+1,4,none⟩ (J9 bot)).setCell ⟨w.heap.size+1,5,none⟩ (J9 top)) g t cs:=fun {g _ _} h hg=>by
  have hne:∀j,g≠(⟨w.heap.size+1,j,none⟩:Addr).block:=fun j=>by show g≠w.heap.size+1;omega
  exact(((((h.other _ (hne 0)).other _ (hne 1)).other _ (hne 2)).other _ (hne 3)).other _ (hne 4)).other _ (hne 5)
 have HK1:=h_ (Blk.bools (keep k1 g1));have HK2:=h_ (Blk.ints (keep k2 g2))
 clear hb hW0 y0 y1 y2 y3 y4 k1 k2 g1 g2 keep
 go_wp2_with fail
 obtain⟨k0,k1,k2,k3,k4,k5⟩:=(six' HR9.u).1
 exact bodyPost_ret (v:=.tuple #[latV m.L.length (some ⟨G1,0,none⟩) (some ⟨G2,0,none⟩) (some ⟨G3,0,none⟩) s s s s s s bot top,J9 0]) (by simp[results,Tryz.results21,go_sem,k0,k1,k2,k3,k4,k5]) rfl ⟨_,_,_,_,_,_,rfl,HK1.u,HK2.u,HB9.u⟩
theorem q4v (m:Fm)(A:MA)(w:World)(hz:vfB m=true->∃code,code≠0/\ImplZ m.L.length m.P.length (pr1 m) (pr2 m) code)(hf:FitM m)(hcap:Caps m A)(ha:MSl w m A)(ht:Tabs w)(hy:TyW w)(htb:Tab w) :
 Calls Tryz.prog 6 #[mV m A] w fun r w'=>r=.returned Ya/\Below w.heap.size w w':=by
 have HZ:=h_ hz
 have HCw:=h_ fun W (hs:MSl W m A) (ht:Tabs W) (hy:TyW W)=>q4e m A W hf hcap hs ht hy
 have HCl:=h_ fun W b code (h:ImplZ m.L.length m.P.length (pr1 m) (pr2 m) code) (hs:MSl W m A) (ht:Tab W)=>q1b m A b code W h hf hs ht
 obtain⟨al,alc,ap,apc,ar,arc,af,afc,afa⟩:=A
 unfold mV at HCw⊢
 unfold wV at HCw HCl
 unfold zeroL at HCl
 dsimp only at HCw HCl⊢
 have HK:=h_ (Blk.new w 28 (#[.slice al m.L.length alc,.slice ap m.P.length apc,.slice ar m.R.length arc,.slice af m.F.length afc]))
 have HB:=h_ ((bR w.heap.size w).alloc (nR _) (.cells (#[.slice al m.L.length alc,.slice ap m.P.length apc,.slice ar m.R.length arc,.slice af m.F.length afc]) 28))
 obtain⟨W0,hW0⟩:=Nq (w.alloc (.cells (#[.slice al m.L.length alc,.slice ap m.P.length apc,.slice ar m.R.length arc,.slice af m.F.length afc]) 28))
 rw[hW0]at HK HB
 have HS:=h_ (ha.mono HB.u);have HT:=h_ (ht.mono HB.u);have HY:=h_ (hy.mono HB.u);have HTb:=h_ (htb.mono HB.u)
 clear ha ht hy hf hcap htb hz
 obtain⟨y0,y1,y2,y3⟩:=quad HK.u
 go_enter Tryz.func6,Tryz.ntmps6
 go_wp2_with fail
 try rw[hW0]
 refine(HCw.u W0 HS.u HT.u HY.u).mono ?_
 rintro r W1 ⟨h | h,hb1⟩
 . obtain⟨hq,rfl⟩:=h
   replace HB:=mT HB hb1;have HBz:=h_ (HB.u.alloc HB.u.size (.cells J1 56));clear hb1 hW0 y0 y1 y2 y3 hq;go_wp2_with fail;go_ret;exact⟨rfl,HBz.u⟩
 . obtain⟨hq,b,rfl,hm⟩:=h
   obtain⟨code,hc0,hz⟩:=HZ.u hq;have hc0':(code != 0)=true:=by simpa using hc0
   have HZ2:=h_ hz;replace HS:=h_ (HS.u.mono hb1);replace HTb:=h_ (HTb.u.mono hb1);replace HB:=mT HB hb1;clear hb1 hW0 y0 y1 y2 y3 hq hm HT HY HCw hz hc0 HZ;have HKw:=h_ (Blk.new W1 56 #[.slice al m.L.length alc,.slice ap m.P.length apc,.slice ar m.R.length arc,.slice af m.F.length afc,.map (some b)]);have hba:=(bR W1.heap.size W1).alloc (nR _) (.cells #[.slice al m.L.length alc,.slice ap m.P.length apc,.slice ar m.R.length arc,.slice af m.F.length afc,.map (some b)] 56);obtain⟨W2,hW2⟩:=Nq (W1.alloc (.cells #[.slice al m.L.length alc,.slice ap m.P.length apc,.slice ar m.R.length arc,.slice af m.F.length afc,.map (some b)] 56));rw[hW2]at HKw hba;replace HS:=h_ (HS.u.mono hba);replace HTb:=h_ (HTb.u.mono hba);replace HB:=mT HB hba;obtain⟨X,hX⟩:=Nq W1.heap.size;rw[hX]at HKw;clear hba;obtain⟨z0,z1,z2,z3,z4⟩:=five HKw.u;go_wp2_with fail
   try rw[hW2]
   refine(HCl.u W2 b code HZ2.u HS.u HTb.u).mono ?_;rintro r W3 ⟨rfl,hb3⟩;replace HB:=mT HB hb3;have HBz:=h_ (HB.u.alloc HB.u.size (.cells Jd 35));clear hb3 hW2 z0 z1 z2 z3 z4 hX;go_wp2_with fail;go_ret;exact⟨rfl,HBz.u⟩
theorem q4u (m:Fm)(A:MA)(w:World)(bot top:Int)(s n bt tp:Nat)(F:Nat->Bool)(J M:Nat->Int)(hq:vfB m=true)(hv:VfA m)(hz:ImplF m.L.length m.P.length (pr1 m) (pr2 m) s F J M bot top)(hL:ValidP m.L.length s s s F J M bot top n bt tp)(hf:FitM m)(hcap:Caps m A)(ha:MSl w m A)(ht:Tabs w)(hy:TyW w)(htb:Tab w) :
 Calls Tryz.prog 6 #[mV m A] w fun r w'=>∃v f,r=.returned v/\w'.ownsRow w.heap.size 3 1 v m.F.length (ui (lsL f m.F.length))/\Sol m n (fun a b=>F (a*n+b)=true) f/\Low m n (fun a b=>F (a*n+b)=true) f/\Below w.heap.size w w':=by
 have hN:m.L.length=n:=by have:=hL.hN;omega
 have HCw:=h_ fun W (hs:MSl W m A) (ht:Tabs W) (hy:TyW W)=>q4e m A W hf hcap hs ht hy
 have HCl:=h_ fun W b (hs:MSl W m A) (ht:Tab W)=>q1a m A b s F J M bot top W hz hf hs ht
 have HCi:=h_ fun W b (a1 a2 a3:Option Addr) (c1 c2 c3:Nat) (hs:MSl W m A) (hm:PMap W b (fNames m)) (hI:Ints W a2 (n*n) J)=>q0u m A b n bt (fun a b=>F (a*n+b)) _ J a1 a2 a3 c1 c2 c3 top W hv hf (qhk hL) hN hL.h32 (fun a b ha hb=>qcx hL ha hb) hs hm hI
 have e1:=hL.l1
 have e2:=hL.hb
 subst e1
 subst e2
 obtain⟨al,alc,ap,apc,ar,arc,af,afc,afa⟩:=A
 unfold mV at HCw⊢
 unfold wV at HCw HCl HCi
 unfold latV at HCl
 rw[hN]at HCl
 dsimp only at HCw HCl HCi⊢
 have HK:=h_ (Blk.new w 28 (#[.slice al m.L.length alc,.slice ap m.P.length apc,.slice ar m.R.length arc,.slice af m.F.length afc]))
 have HB:=h_ ((bR w.heap.size w).alloc (nR _) (.cells (#[.slice al m.L.length alc,.slice ap m.P.length apc,.slice ar m.R.length arc,.slice af m.F.length afc]) 28))
 obtain⟨W0,hW0⟩:=Nq (w.alloc (.cells (#[.slice al m.L.length alc,.slice ap m.P.length apc,.slice ar m.R.length arc,.slice af m.F.length afc]) 28))
 rw[hW0]at HK HB
 have HS:=h_ (ha.mono HB.u);have HT:=h_ (ht.mono HB.u);have HY:=h_ (hy.mono HB.u);have HTb:=h_ (htb.mono HB.u)
 rw[hN]at HCw HCi HK hW0
 try rw[hN]
 clear ha ht hy hf hcap htb hz hL hN hv
 obtain⟨y0,y1,y2,y3⟩:=quad HK.u
 go_enter Tryz.func6,Tryz.ntmps6
 have HQ:=h_ hq
 clear hq
 go_wp2_with fail
 try rw[hW0]
 refine(HCw.u W0 HS.u HT.u HY.u).mono ?_
 rintro r W1 ⟨h | h,hb1⟩
 . exact absurd (h.1.symm.trans HQ.u) (by decide)
 . obtain⟨hq,b,rfl,hm⟩:=h
   have HM:=h_ hm;replace HS:=h_ (HS.u.mono hb1);replace HTb:=h_ (HTb.u.mono hb1);replace HB:=mT HB hb1;clear hb1 hW0 y0 y1 y2 y3 hq hm HT HY HCw;have HKw:=h_ (Blk.new W1 56 #[.slice al n alc,.slice ap m.P.length apc,.slice ar m.R.length arc,.slice af m.F.length afc,.map (some b)]);have hba:=(bR W1.heap.size W1).alloc (nR _) (.cells #[.slice al n alc,.slice ap m.P.length apc,.slice ar m.R.length arc,.slice af m.F.length afc,.map (some b)] 56);obtain⟨W2,hW2⟩:=Nq (W1.alloc (.cells #[.slice al n alc,.slice ap m.P.length apc,.slice ar m.R.length arc,.slice af m.F.length afc,.map (some b)] 56));rw[hW2]at HKw hba;replace HS:=h_ (HS.u.mono hba);replace HTb:=h_ (HTb.u.mono hba);replace HM:=h_ (HM.u.mono hba);replace HB:=mT HB hba;obtain⟨X,hX⟩:=Nq W1.heap.size;rw[hX]at HKw;clear hba;obtain⟨z0,z1,z2,z3,z4⟩:=five HKw.u;have HC2:=h_ (HCl.u W2 b HS.u HTb.u);go_wp2_with fail
   try rw[hW2]
   refine HC2.u.mono ?_;rintro r W3 ⟨a1,a2,a3,c1,c2,c3,rfl,-,hj,hb3⟩;replace HB:=mT HB hb3;replace HKw:=mB HKw hb3;replace HS:=h_ (HS.u.mono hb3);replace HM:=h_ (HM.u.mono hb3);have HX:=h_ (Blk.new W3 35 (Jj n a1 (n*n) c1 a2 c2 a3 c3 (bt:Int) top));have hba:=(bR W3.heap.size W3).alloc (nR _) (.cells (Jj n a1 (n*n) c1 a2 c2 a3 c3 (bt:Int) top) 35);obtain⟨W4,hW4⟩:=Nq (W3.alloc (.cells (Jj n a1 (n*n) c1 a2 c2 a3 c3 (bt:Int) top) 35));rw[hW4]at HX hba;replace HB:=mT HB hba;replace HKw:=mB HKw hba;replace HS:=h_ (HS.u.mono hba);replace HM:=h_ (HM.u.mono hba);have HC3:=h_ (HCi.u W4 b a1 a2 a3 c1 c2 c3 HS.u HM.u (hj.mono hba));clear hb3 hW2 z0 z1 z2 z3 z4 hba hj HC2;obtain⟨z0,z1,z2,z3,z4⟩:=five HKw.u;obtain⟨x0,x1,x2,x3,x4,x5⟩:=(six' HX.u).1;go_wp2_with fail
   try rw[hX]
   try rw[hW4]
   clear hX;refine HC3.u.mono ?_;rintro r W5 ⟨v,f,rfl,ho,h1,h2,hb5⟩;have HO:=h_ (qao ho HB.u.size);replace HB:=mT HB hb5;have H1:=h_ h1;have H2:=h_ h2;clear hb5 ho h1 h2 hW4 x0 x1 x2 x3 x4 x5 z0 z1 z2 z3 z4;go_wp2_with fail;go_ret
   first | exact⟨v,f,rfl,HO.u,H1.u,H2.u,HB.u⟩ | exact⟨v,rfl,f,HO.u,H1.u,H2.u,HB.u⟩ | exact⟨f,HO.u,H1.u,H2.u,HB.u⟩
end Go.Proofs.YtebbgodlijlioaaGreatDoor
namespace Go.Proofs.YtebbgodlijlioaaGreatDoor
open Go
def AtI (l:List Nat)(x:Nat)(z:Int):Prop:=(∃i,∃h:i<l.length,l[i]=x/\z=i)∨(x ∉ l/\z = -1)
theorem AtI.neg {l:List Nat}{x:Nat}{z:Int}(h:AtI l x z):z<0 ↔ x ∉ l:=by
 rcases h with ⟨i,hi,rfl,rfl⟩ | ⟨h,rfl⟩
 . exact⟨fun h=>by omega,fun h=>absurd (Yk hi) h⟩
 . exact⟨fun _=>h,fun _=>by omega⟩
theorem AtI.pos {l:List Nat}{x:Nat}{z:Int}(h:AtI l x z)(hx:x∈l):¬ z<0:=fun hn=>(h.neg.1 hn) hx
end Go.Proofs.YtebbgodlijlioaaGreatDoor
namespace Go.Proofs.YtebbgodlijlioaaGreatDoor
open Go Go.RowKit
theorem q8r (a:Option Addr)(c:Nat)(l:List Nx)(x:ByteArray)(w:World)(hl:l.length<=9223372036854775807)(ha:NodL w a l) :
 Calls Tryz.prog 34 #[.slice a l.length c,.string x] w fun r w'=>r=.returned (.bool (rdsN l x))/\w'=w:=by
 have HA:=h_ ha
 obtain⟨q,hq⟩:=Nq (rdsN l x)
 rw[hq]
 have HQ:=h_ hq
 clear ha hq
 go_enter Tryz.func34,Tryz.ntmps34
 go_wp2_with fail
 go_loopw [5] (fun i wr=>wr=w/\∃k:Nat,k<=l.length/\i=J9 k/\(∀j,j<k->¬ ((nf l j).op=1/\(nf l j).nm=x))) (fun i _=>l.length - (intOf i).toNat)
 case atStart=>exact⟨rfl,0,nZ _,rfl,fun j hj=>absurd hj (nL _)⟩
 case round =>
  obtain⟨rfl,k,hk,rfl,hall⟩:=hrel;have HL:=h_ hall;clear hall;by_cases hlt:k<l.length
  . have hlt':(k:Int)<l.length:=by omega
    obtain⟨pb,po,rfl,-,z0,z1,z2,z3,z4⟩:=HA.u k hlt;have HX:Hi ((nf l k).op=1->(nf l k).nm=x->q=true):=h_ fun h1 h2=>by rw[<- HQ.u,qe7 hlt h1 h2]
    have HG:Hi (¬ ((nf l k).op=1/\(nf l k).nm=x)->∀j,j<k+1->¬ ((nf l j).op=1/\(nf l j).nm=x)):=h_ fun h j hj=>by
     by_cases ej:j=k
     . subst ej;exact h
     . exact HL.u j (by omega)
    generalize nf l k=n at *;have he:=eqS n.nm x;by_cases h1:n.op=1
    . have h1':(n.op==1)=true:=by rw[h1];rfl
      by_cases h2:n.nm=x
      . have HX2:=h_ (HX.u h1 h2)
        rw[Ym h2]at he;clear h1 h2;go_wp2_with fail;go_ret;exact⟨qe9 HX2.u.symm,rfl⟩
      . have HG2:=h_ (HG.u fun h=>h2 h.2)
        rw[Yi h2]at he;clear h1 h2;go_wp2_with fail;go_roundw
        case rel=>first | exact⟨trivial,k+1,by omega,by go_num,HG2.u⟩ | ((repeat apply Exists.intro);exact⟨⟨trivial,k+1,by omega,by go_num,HG2.u⟩,rfl⟩)
        case measure=>simp[intOf];omega
    . have h1':(n.op==1)=false:=by simp[h1]
      have HG2:=h_ (HG.u fun h=>h1 h.1);clear h1 he;go_wp2_with fail;go_roundw
      case rel=>first | exact⟨trivial,k+1,by omega,by go_num,HG2.u⟩ | ((repeat apply Exists.intro);exact⟨⟨trivial,k+1,by omega,by go_num,HG2.u⟩,rfl⟩)
      case measure=>simp[intOf];omega
  . obtain rfl:k=l.length:=by omega
    have hlt':¬ (l.length:Int)<(l.length:Int):=(by omega);have HX:Hi (q=false):=h_ (by rw[<- HQ.u,qj2 HL.u]);go_wp2_with fail;go_ret;exact⟨qe9 HX.u.symm,rfl⟩
theorem q8q (m:Fm)(A:MA)(j k:Nat)(w:World)(hj:j<m.F.length)(hk:k<m.F.length)(hf:FitM m)(ha:MSl w m A) :
 Calls Tryz.prog 15 #[mV m A,J9 j,J9 k] w fun r w'=>r=.returned (.bool (fedB m j k))/\Below w.heap.size w w':=by
 obtain⟨al,alc,ap,apc,ar,arc,af,afc,afa⟩:=A
 unfold mV
 dsimp only
 have HK:=h_ (Blk.new w 28 (Jb al m alc ap apc ar arc af afc))
 have HB:=h_ ((bR w.heap.size w).alloc (nR _) (.cells (Jb al m alc ap apc ar arc af afc) 28))
 obtain⟨W0,hW0⟩:=Nq (w.alloc (.cells (Jb al m alc ap apc ar arc af afc) 28))
 rw[hW0]at HK HB
 have HS:=h_ (ha.mono HB.u)
 have hj':(j:Int)<m.F.length:=by omega
 have hk':(k:Int)<m.F.length:=by omega
 have hfl:=hf.fl
 have HE:Hi (fedB m j k=(rdsN m.F[k].is m.F[j].nm||rdsN m.F[k].wh m.F[j].nm)):=h_ (by unfold fedB;rw[qge hj,qge hk])
 have HI:=h_ (hf.f _ (Yk hk))
 clear ha hf
 obtain⟨b,o,e1,⟨-,z0,-⟩,-⟩:=HS.u.f j hj
 obtain⟨b',o',e2,⟨hbl,-,-,-,-,x4,x5,-⟩,hsl⟩:=HS.u.f k hk
 dsimp only at e1 e2 x4 x5 hsl
 subst e1
 cases e2
 have HSl:=h_ hsl
 clear hsl
 generalize m.F[j].nm=nm at *
 generalize m.F[k]=f at *
 generalize afa k=fa at *
 obtain⟨ab,abc,ai,aic,ah,ahc,av,avc,au,auc⟩:=fa
 dsimp only at x4 x5
 have hbd:Below W0.heap.size W0 W0.drew:=(bR _ _).drew
 have HC1:=h_ (q8r ai aic f.is nm W0.drew HI.u.il (HSl.u.mono hbd).i)
 have HC2:=h_ (q8r ah ahc f.wh nm W0.drew HI.u.hl (HSl.u.mono hbd).h)
 have HBd:=mT HB hbd
 have HH:Hi (Blk W0 w.heap.size 28 (Jl al m alc ap apc ar arc (some ⟨b,o,none⟩) afc)/\W0.cell? ⟨b,o+j*9,none⟩=some (.string nm)/\W0.cell? ⟨b,o+k*9+4,none⟩=some (.slice ai f.is.length aic)/\W0.cell? ⟨b,o+k*9+5,none⟩=some (.slice ah f.wh.length ahc)):=h_ ⟨HK.u,z0,x4,x5⟩
 have HHd:Hi (Blk W0.drew w.heap.size 28 (Jl al m alc ap apc ar arc (some ⟨b,o,none⟩) afc)/\W0.drew.cell? ⟨b,o+j*9,none⟩=some (.string nm)/\W0.drew.cell? ⟨b,o+k*9+4,none⟩=some (.slice ai f.is.length aic)/\W0.drew.cell? ⟨b,o+k*9+5,none⟩=some (.slice ah f.wh.length ahc)):=h_ ⟨HK.u.mono hbd HK.u.lt,(hbd.cell (p:=⟨b,o+j*9,none⟩) hbl).trans z0,(hbd.cell (p:=⟨b,o+k*9+4,none⟩) hbl).trans x4,(hbd.cell (p:=⟨b,o+k*9+5,none⟩) hbl).trans x5⟩
 have k0:(0:Int)<=k:=by omega
 have j0:(0:Int)<=j:=by omega
 generalize fedB m j k=q at *
 clear z0 x4 x5 HS HSl hbd hbl
 go_enter Tryz.func15,Tryz.ntmps15
 go_wp2_with fail
 try rw[hW0]
 clear hW0
 refine wp_region_held_drew (S:=fun w'=>Blk w' w.heap.size 28 (Jl al m alc ap apc ar arc (some ⟨b,o,none⟩) afc)/\w'.cell? ⟨b,o+j*9,none⟩=some (.string nm)/\w'.cell? ⟨b,o+k*9+4,none⟩=some (.slice ai f.is.length aic)/\w'.cell? ⟨b,o+k*9+5,none⟩=some (.slice ah f.wh.length ahc)) (by kernel_rfl) HH.u (fun zz=>?_)
 clear HH
 refine tj 0 7 (Yc w.heap.size 3) zz ?_
 refine tj 1 8 (.slice (some ⟨b,o,none⟩) m.F.length afc) zz ?_ (hy:=fun w hS=>by obtain⟨h1,-⟩:=hS;obtain⟨q0,q1,q2,q3⟩:=quad h1;simp[execOp,go_sem,q3])
 refine tj 2 9 (J9 k) zz ?_
 refine tj 3 10 (.pointer (some ⟨b,o+k*9,none⟩)) zz ?_
 simp only[sX,sY,sZ]
 refine tj 4 11 (.pointer (some ⟨b,o+k*9+4,none⟩)) zz ?_
 refine tj 5 12 (.slice ai f.is.length aic) zz ?_ (hy:=fun w hS=>by obtain⟨-,-,h4,h5⟩:=hS;simp[execOp,go_sem,h4])
 refine tj 6 13 (Yc w.heap.size 3) zz ?_
 refine tj 7 14 (.slice (some ⟨b,o,none⟩) m.F.length afc) zz ?_ (hy:=fun w hS=>by obtain⟨h1,-⟩:=hS;obtain⟨q0,q1,q2,q3⟩:=quad h1;simp[execOp,go_sem,q3])
 simp only[sX,sY,sZ]
 refine tj 8 15 (J9 j) zz ?_
 refine tj 9 16 (.pointer (some ⟨b,o+j*9,none⟩)) zz ?_
 refine tj 10 17 (.pointer (some ⟨b,o+j*9,none⟩)) zz ?_
 refine tj 11 18 (.string nm) zz ?_ (hy:=fun w hS=>by obtain⟨-,h0,-,-⟩:=hS;simp[execOp,go_sem,h0])
 simp only[sX,sY,sZ]
 refine callY (i:=12) (f:=34) (args:=#[.slice ai f.is.length aic,.string nm]) (R:=fun u wz=>u=.bool (rdsN f.is nm)/\wz=W0.drew) 19 rfl rfl (by rfl) (by kernel_rfl) (by simp[execOp,go_sem]) (HC1.u.mono fun e w6 ⟨he,hb⟩=>⟨_,he,rfl,hb⟩) ?_
 rintro u W1 ⟨rfl,rfl⟩
 refine⟨zz,?_⟩
 simp only[sX,sY,sZ]
 cases hr:rdsN f.is nm
 . have HX:Hi (q=rdsN f.wh nm):=h_ (by rw[HE.u,hr];rfl)
   refine tj 13 20 (.bool false) zz ?_;refine tj 14 21 (Yc w.heap.size 3) zz ?_;refine tj 15 22 (.slice (some ⟨b,o,none⟩) m.F.length afc) zz ?_ (hy:=fun w hS=>by obtain⟨h1,-⟩:=hS;obtain⟨q0,q1,q2,q3⟩:=quad h1;simp[execOp,go_sem,q3]);refine tj 16 23 (J9 k) zz ?_;simp only[sX,sY,sZ];refine tj 17 24 (.pointer (some ⟨b,o+k*9,none⟩)) zz ?_;refine tj 18 25 (.pointer (some ⟨b,o+k*9+5,none⟩)) zz ?_;refine tj 19 26 (.slice ah f.wh.length ahc) zz ?_ (hy:=fun w hS=>by obtain⟨-,-,h4,h5⟩:=hS;simp[execOp,go_sem,h5]);refine tj 20 27 (Yc w.heap.size 3) zz ?_;simp only[sX,sY,sZ];refine tj 21 28 (.slice (some ⟨b,o,none⟩) m.F.length afc) zz ?_ (hy:=fun w hS=>by obtain⟨h1,-⟩:=hS;obtain⟨q0,q1,q2,q3⟩:=quad h1;simp[execOp,go_sem,q3]);refine tj 22 29 (J9 j) zz ?_;refine tj 23 30 (.pointer (some ⟨b,o+j*9,none⟩)) zz ?_;refine tj 24 31 (.pointer (some ⟨b,o+j*9,none⟩)) zz ?_;simp only[sX,sY,sZ];refine tj 25 32 (.string nm) zz ?_ (hy:=fun w hS=>by obtain⟨-,h0,-,-⟩:=hS;simp[execOp,go_sem,h0]);simp only[sX,sY,sZ];refine callY (i:=26) (f:=34) (args:=#[.slice ah f.wh.length ahc,.string nm]) (R:=fun u wz=>u=.bool (rdsN f.wh nm)/\wz=W0.drew) 33 rfl rfl (by rfl) (by kernel_rfl) (by simp[execOp,go_sem]) (HC2.u.mono fun e w6 ⟨he,hb⟩=>⟨_,he,rfl,hb⟩) ?_;rintro u W1 ⟨rfl,rfl⟩;refine⟨zz,?_⟩;simp only[sX,sY,sZ];rw[<- HX.u];refine tj 27 34 (.bool q) zz ?_;refine tj 28 6 (.bool q) zz ?_;simp only[sX,sY,sZ];refine wpAnyH_done (by kernel_rfl) ?_ _;clear zz;go_wp2_with fail;go_ret;exact⟨rfl,HBd.u⟩
 . have HX:Hi (q=true):=h_ (by rw[HE.u,hr];rfl)
   refine tj 13 20 (.bool true) zz ?_;refine tn 14 21 zz ?_;refine tn 15 22 zz ?_;refine tn 16 23 zz ?_;simp only[sX,sY,sZ];refine tn 17 24 zz ?_;refine tn 18 25 zz ?_;refine tn 19 26 zz ?_;refine tn 20 27 zz ?_;simp only[sX,sY,sZ];refine tn 21 28 zz ?_;refine tn 22 29 zz ?_;refine tn 23 30 zz ?_;refine tn 24 31 zz ?_;simp only[sX,sY,sZ];refine tn 25 32 zz ?_;refine tn 26 33 zz ?_;refine tj 27 34 (.bool true) zz ?_;refine tj 28 6 (.bool true) zz ?_;simp only[sX,sY,sZ];refine wpAnyH_done (by kernel_rfl) ?_ _;clear zz;go_wp2_with fail;go_ret;exact⟨qe9 HX.u.symm,HBd.u⟩
theorem qff (m:Fm)(A:MA)(j k:Nat)(w:World)(hj:j<m.F.length)(hk:k<m.F.length)(hf:FitM m)(ha:MSl w m A) :
 Calls Tryz.prog 9 #[mV m A,J9 j,J9 k] w fun r w'=>r=.returned (.bool (anyR m j k))/\Below w.heap.size w w':=by
 have HCf:=h_ fun W (hs:MSl W m A)=>q8q m A j k W hj hk hf hs
 obtain⟨al,alc,ap,apc,ar,arc,af,afc,afa⟩:=A
 unfold mV at HCf⊢
 dsimp only at HCf⊢
 have HK:=h_ (Blk.new w 28 (Jb al m alc ap apc ar arc af afc))
 have HB:=h_ ((bR w.heap.size w).alloc (nR _) (.cells (Jb al m alc ap apc ar arc af afc) 28))
 obtain⟨W0,hW0⟩:=Nq (w.alloc (.cells (Jb al m alc ap apc ar arc af afc) 28))
 rw[hW0]at HK HB
 have HS:=h_ (ha.mono HB.u)
 have hj':(j:Int)<m.F.length:=by omega
 have hk':(k:Int)<m.F.length:=by omega
 have hfl:=hf.fl
 have HE:Hi (anyR m j k=(fedB m j k||(rdsN m.F[k].va m.F[j].nm||rdsN m.F[k].mu m.F[j].nm))):=h_ (by unfold anyR watB;rw[qge hj,qge hk])
 have HI:=h_ (hf.f _ (Yk hk))
 clear ha hf
 obtain⟨q,hq⟩:=Nq (anyR m j k)
 rw[hq]at HE⊢
 clear hq
 obtain⟨y0,y1,y2,y3⟩:=quad HK.u
 generalize fedB m j k=q0' at *
 go_enter Tryz.func9,Tryz.ntmps9
 go_wp2_with fail
 try rw[hW0]
 clear hW0
 refine(HCf.u W0 HS.u).mono ?_
 rintro r W1 ⟨rfl,hb⟩
 replace HK:=mB HK hb;replace HB:=mT HB hb;replace HS:=h_ (HS.u.mono hb)
 clear hb y0 y1 y2 y3 HCf
 obtain⟨b,o,e1,⟨-,z0,-⟩,-⟩:=HS.u.f j hj
 obtain⟨b',o',e2,⟨hbl,-,-,-,-,-,-,x6,-,x8⟩,hsl⟩:=HS.u.f k hk
 dsimp only at e1 e2 x6 x8 hsl
 subst e1
 cases e2
 have HSl:=h_ hsl
 clear hsl
 generalize m.F[j].nm=nm at *
 generalize m.F[k]=f at *
 generalize afa k=fa at *
 obtain⟨ab,abc,ai,aic,ah,ahc,av,avc,au,auc⟩:=fa
 dsimp only at x6 x8
 have hbd:Below W1.heap.size W1 W1.drew:=(bR _ _).drew
 have HC1:=h_ (q8r av avc f.va nm W1.drew HI.u.vl (HSl.u.mono hbd).v)
 have HC2:=h_ (q8r au auc f.mu nm W1.drew HI.u.ul (HSl.u.mono hbd).u)
 have HBd:=mT HB hbd
 have HH:Hi (Blk W1 w.heap.size 28 (Jl al m alc ap apc ar arc (some ⟨b,o,none⟩) afc)/\W1.cell? ⟨b,o+j*9,none⟩=some (.string nm)/\W1.cell? ⟨b,o+k*9+6,none⟩=some (.slice av f.va.length avc)/\W1.cell? ⟨b,o+k*9+8,none⟩=some (.slice au f.mu.length auc)):=h_ ⟨HK.u,z0,x6,x8⟩
 have k0:(0:Int)<=k:=by omega
 have j0:(0:Int)<=j:=by omega
 clear z0 x6 x8 HS HSl hbd hbl
 cases q0'
 case true =>
  have HX:Hi (q=true):=h_ (by rw[HE.u];rfl);clear HH HC1 HC2 HBd;go_wp2_with fail;go_ret;exact⟨qe9 HX.u.symm,HB.u⟩
 case false =>
 go_wp2_with fail
 refine wp_region_held_drew (S:=fun w'=>Blk w' w.heap.size 28 (Jl al m alc ap apc ar arc (some ⟨b,o,none⟩) afc)/\w'.cell? ⟨b,o+j*9,none⟩=some (.string nm)/\w'.cell? ⟨b,o+k*9+6,none⟩=some (.slice av f.va.length avc)/\w'.cell? ⟨b,o+k*9+8,none⟩=some (.slice au f.mu.length auc)) (by kernel_rfl) HH.u (fun zz=>?_)
 clear HH
 refine tj 0 11 (Yc w.heap.size 3) zz ?_
 refine tj 1 12 (.slice (some ⟨b,o,none⟩) m.F.length afc) zz ?_ (hy:=fun w hS=>by obtain⟨h1,-⟩:=hS;obtain⟨q0,q1,q2,q3⟩:=quad h1;simp[execOp,go_sem,q3])
 refine tj 2 13 (J9 k) zz ?_
 refine tj 3 14 (.pointer (some ⟨b,o+k*9,none⟩)) zz ?_
 simp only[sX,sY,sZ]
 refine tj 4 15 (.pointer (some ⟨b,o+k*9+6,none⟩)) zz ?_
 refine tj 5 16 (.slice av f.va.length avc) zz ?_ (hy:=fun w hS=>by obtain⟨-,-,h6,h8⟩:=hS;simp[execOp,go_sem,h6])
 refine tj 6 17 (Yc w.heap.size 3) zz ?_
 refine tj 7 18 (.slice (some ⟨b,o,none⟩) m.F.length afc) zz ?_ (hy:=fun w hS=>by obtain⟨h1,-⟩:=hS;obtain⟨q0,q1,q2,q3⟩:=quad h1;simp[execOp,go_sem,q3])
 simp only[sX,sY,sZ]
 refine tj 8 19 (J9 j) zz ?_
 refine tj 9 20 (.pointer (some ⟨b,o+j*9,none⟩)) zz ?_
 refine tj 10 21 (.pointer (some ⟨b,o+j*9,none⟩)) zz ?_
 refine tj 11 22 (.string nm) zz ?_ (hy:=fun w hS=>by obtain⟨-,h0,-,-⟩:=hS;simp[execOp,go_sem,h0])
 simp only[sX,sY,sZ]
 refine callY (i:=12) (f:=34) (args:=#[.slice av f.va.length avc,.string nm]) (R:=fun u wz=>u=.bool (rdsN f.va nm)/\wz=W1.drew) 23 rfl rfl (by rfl) (by kernel_rfl) (by simp[execOp,go_sem]) (HC1.u.mono fun e w6 ⟨he,hb⟩=>⟨_,he,rfl,hb⟩) ?_
 rintro u U ⟨rfl,rfl⟩
 refine⟨zz,?_⟩
 simp only[sX,sY,sZ]
 cases hr:rdsN f.va nm
 . have HX:Hi (q=rdsN f.mu nm):=h_ (by rw[HE.u,hr];rfl)
   refine tj 13 24 (.bool false) zz ?_;refine tj 14 25 (Yc w.heap.size 3) zz ?_;refine tj 15 26 (.slice (some ⟨b,o,none⟩) m.F.length afc) zz ?_ (hy:=fun w hS=>by obtain⟨h1,-⟩:=hS;obtain⟨q0,q1,q2,q3⟩:=quad h1;simp[execOp,go_sem,q3]);refine tj 16 27 (J9 k) zz ?_;simp only[sX,sY,sZ];refine tj 17 28 (.pointer (some ⟨b,o+k*9,none⟩)) zz ?_;refine tj 18 29 (.pointer (some ⟨b,o+k*9+8,none⟩)) zz ?_;refine tj 19 30 (.slice au f.mu.length auc) zz ?_ (hy:=fun w hS=>by obtain⟨-,-,h6,h8⟩:=hS;simp[execOp,go_sem,h8]);refine tj 20 31 (Yc w.heap.size 3) zz ?_;simp only[sX,sY,sZ];refine tj 21 32 (.slice (some ⟨b,o,none⟩) m.F.length afc) zz ?_ (hy:=fun w hS=>by obtain⟨h1,-⟩:=hS;obtain⟨q0,q1,q2,q3⟩:=quad h1;simp[execOp,go_sem,q3]);refine tj 22 33 (J9 j) zz ?_;refine tj 23 34 (.pointer (some ⟨b,o+j*9,none⟩)) zz ?_;refine tj 24 35 (.pointer (some ⟨b,o+j*9,none⟩)) zz ?_;simp only[sX,sY,sZ];refine tj 25 36 (.string nm) zz ?_ (hy:=fun w hS=>by obtain⟨-,h0,-,-⟩:=hS;simp[execOp,go_sem,h0]);simp only[sX,sY,sZ];refine callY (i:=26) (f:=34) (args:=#[.slice au f.mu.length auc,.string nm]) (R:=fun u wz=>u=.bool (rdsN f.mu nm)/\wz=W1.drew) 37 rfl rfl (by rfl) (by kernel_rfl) (by simp[execOp,go_sem]) (HC2.u.mono fun e w6 ⟨he,hb⟩=>⟨_,he,rfl,hb⟩) ?_;rintro u U ⟨rfl,rfl⟩;refine⟨zz,?_⟩;simp only[sX,sY,sZ];rw[<- HX.u];refine tj 27 38 (.bool q) zz ?_;refine tj 28 6 (.bool q) zz ?_;simp only[sX,sY,sZ];refine wpAnyH_done (by kernel_rfl) ?_ _;clear zz;go_wp2_with fail;go_ret;exact⟨rfl,HBd.u⟩
 . have HX:Hi (q=true):=h_ (by rw[HE.u,hr];rfl)
   refine tj 13 24 (.bool true) zz ?_;refine tn 14 25 zz ?_;refine tn 15 26 zz ?_;refine tn 16 27 zz ?_;simp only[sX,sY,sZ];refine tn 17 28 zz ?_;refine tn 18 29 zz ?_;refine tn 19 30 zz ?_;refine tn 20 31 zz ?_;simp only[sX,sY,sZ];refine tn 21 32 zz ?_;refine tn 22 33 zz ?_;refine tn 23 34 zz ?_;refine tn 24 35 zz ?_;simp only[sX,sY,sZ];refine tn 25 36 zz ?_;refine tn 26 37 zz ?_;refine tj 27 38 (.bool true) zz ?_;refine tj 28 6 (.bool true) zz ?_;simp only[sX,sY,sZ];refine wpAnyH_done (by kernel_rfl) ?_ _;clear zz;go_wp2_with fail;go_ret;exact⟨qe9 HX.u.symm,HBd.u⟩
theorem qbv (len:Nat)(f:Nat->Nat)(a:Option Addr)(c i:Nat)(w:World)(hl:len<=1048576)(hi:i<=1000000)(ha:Byts w a len f) :
 Calls Tryz.prog 10 #[.slice a len c,J9 i] w fun r w'=>∃z:Nat,r=.returned (J9 z)/\z<=1000000/\w'=w:=by
 by_cases h0:len=0
 . have h0':((len:Int)==0)=true:=by rw[h0];rfl
   clear ha h0;go_enter Tryz.func10,Tryz.ntmps10;go_wp2_with fail;go_ret;exact⟨i,rfl,hi,rfl⟩
 . have h0':((len:Int)==0)=false:=Yf.2 (by omega)
   have h1:¬ (len:Int)=0:=by omega
   obtain⟨p,hp⟩:=Nq (i % len);have hpl:p<len:=by rw[<- hp];exact Vq _ (by omega)
   have hp1:(i:Int).tmod (len:Int)=(p:Int):=by rw[<- hp];rfl
   have hp2:(i:Int) % (len:Int)=(p:Int):=by rw[<- hp];rfl
   obtain⟨hv,b,o,rfl,-,z0⟩:=ha p hpl;obtain⟨v,hve⟩:=Nq (f p);rw[hve]at hv z0;have hpl':(p:Int)<len:=by omega
   have p0:(0:Int)<=p:=by omega
   have hv':(v:Int)<256:=by omega
   clear ha hp hve h0;go_enter Tryz.func10,Tryz.ntmps10;go_wp2_with fail;go_ret;exact⟨v,rfl,by omega,rfl⟩
end Go.Proofs.YtebbgodlijlioaaGreatDoor
namespace Go.Proofs.YtebbgodlijlioaaGreatDoor
open Go
section
variable {m:Fm} {N:Nat} {F:Nat->Nat->Bool} {jn:Nat->Nat->Nat} {bot:Nat}
structure Rz (m:Fm)(N:Nat)(g:Nat->Nat):Prop where
 lt:∀k,k<m.F.length->g k<N
 decl:∀k,k<m.F.length->0<=(fAt m k).lb->(g k:Int)=(fAt m k).lb
theorem Rz.up {g:Nat->Nat}(h:Rz m N g){k v:Nat}(hv:v<N)(ha:(fAt m k).lb<0):Rz m N (up g k v) :=
 ⟨fun x hx=>by
  by_cases e:x=k
  . subst e;rw[up_at];exact hv
  . rw[up_ne _ _ e];exact h.lt x hx,fun x hx hd=>by
  by_cases e:x=k
  . subst e;omega
  . rw[up_ne _ _ e];exact h.decl x hx hd⟩
structure RdI (m:Fm)(N:Nat)(F:Nat->Nat->Bool)(g0 g:Nat->Nat)(c:Bool)(k j:Nat):Prop where
 z0:Rz m N g0
 rz:Rz m N g
 ge:∀x,x<m.F.length->F (g0 x) (g x)=true
 ch:c=true->potL F N m.F.length g0<potL F N m.F.length g
 eq:c=false->(∀x,x<m.F.length->g x=g0 x)/\∀k' j',k'<m.F.length->j'<m.F.length->(k'<k∨k'=k/\j'<j)->(fAt m k').lb<0->anyR m j' k'=true->F (g0 j') (g0 k')=true
theorem RdI.start (L:LatP N (fun a b=>F a b=true) jn bot){g:Nat->Nat}(h:Rz m N g):RdI m N F g g false 0 0 :=
 ⟨h,h,fun x hx=>L.refl _ (h.lt x hx),fun h=>(by cases h),fun _=>⟨fun _ _=>rfl,fun k' j' _ _ hk=>absurd hk (by omega)⟩⟩
theorem RdI.skip {g0 g:Nat->Nat}{c:Bool}{k j:Nat}(h:RdI m N F g0 g c k j)(hn:¬ ((fAt m k).lb<0/\anyR m j k=true)):RdI m N F g0 g c k (j+1) :=
 ⟨h.z0,h.rz,h.ge,h.ch,fun e=>⟨(h.eq e).1,fun k' j' h1 h2 h3 h4 h5=>by
  rcases h3 with h3 | ⟨rfl,h3⟩
  . exact(h.eq e).2 k' j' h1 h2 (.inl h3) h4 h5
  . by_cases ej:j'=j
    . subst ej;exact absurd ⟨h4,h5⟩ hn
    . exact(h.eq e).2 k' j' h1 h2 (.inr ⟨rfl,by omega⟩) h4 h5⟩⟩
theorem RdI.row {g0 g:Nat->Nat}{c:Bool}{k:Nat}(h:RdI m N F g0 g c k m.F.length):RdI m N F g0 g c (k+1) 0 :=
 ⟨h.z0,h.rz,h.ge,h.ch,fun e=>⟨(h.eq e).1,fun k' j' h1 h2 h3 h4 h5=>by
  refine(h.eq e).2 k' j' h1 h2 ?_ h4 h5;by_cases ek:k'=k
  . exact .inr ⟨ek,h2⟩
  . exact .inl (by omega)⟩⟩
theorem RdI.rise (L:LatP N (fun a b=>F a b=true) jn bot){g0 g:Nat->Nat}{c:Bool}{k j:Nat}(h:RdI m N F g0 g c k j)(hk:k<m.F.length)(hj:j<m.F.length)(ha:(fAt m k).lb<0):RdI m N F g0 (up g k (jn (g k) (g j))) (c||decide (jn (g k) (g j)≠g k)) k (j+1):=by
 have hgk:=h.rz.lt k hk
 have hgj:=h.rz.lt j hj
 have hv:=L.jl _ _ hgk hgj
 have hle:∀x,x<m.F.length->F (g x) (up g k (jn (g k) (g j)) x)=true:=fun x hx=>by
  by_cases e:x=k
  . subst e;rw[up_at];exact L.j1 _ _ hgk hgj
  . rw[up_ne _ _ e];exact L.refl _ (h.rz.lt x hx)
 have hz:=h.rz.up (k:=k) hv ha
 refine⟨h.z0,hz,fun x hx=>L.trans _ _ _ (h.z0.lt x hx) (h.rz.lt x hx) (hz.lt x hx) (h.ge x hx) (hle x hx),fun hc=>?_,fun hc=>?_⟩
 . have h1:=qe2 L h.rz.lt hz.lt hle
   cases hcc:c with
   | true=>have:=h.ch hcc;omega
   | false =>
    rw[hcc,Bool.false_or,Yq]at hc;have h2:=pot_lt L h.rz.lt hz.lt hle hk (by rw[up_at];exact fun e=>hc e.symm);have h3:=qe2 L h.z0.lt h.rz.lt h.ge;omega
 . rw[Bool.or_eq_false_iff,Oi]at hc
   obtain⟨hc1,hc2⟩:=hc;have hc3:jn (g k) (g j)=g k:=Classical.byContradiction hc2;obtain⟨e1,e2⟩:=h.eq hc1;refine⟨fun x hx=>?_,fun k' j' h1 h2 h3 h4 h5=>?_⟩
   . by_cases e:x=k
     . subst e;rw[up_at,hc3];exact e1 x hx
     . rw[up_ne _ _ e];exact e1 x hx
   . rcases h3 with h3 | ⟨rfl,h3⟩
     . exact e2 k' j' h1 h2 (.inl h3) h4 h5
     . by_cases ej:j'=j
       . subst ej
         have:=L.j2 _ _ hgk hgj;rw[hc3,e1 k' hk,e1 j' hj]at this;exact this
       . exact e2 k' j' h1 h2 (.inr ⟨rfl,by omega⟩) h4 h5
structure RoI (m:Fm)(N:Nat)(F:Nat->Nat->Bool)(g:Nat->Nat)(c:Bool)(r:Nat):Prop where
 rz:Rz m N g
 ch:c=true->r<=potL F N m.F.length g
 so:c=false->Sol m N (fun a b=>F a b=true) g
theorem RoI.next {g0 g:Nat->Nat}{c:Bool}{r:Nat}(h:RoI m N F g0 true r)(hd:RdI m N F g0 g c m.F.length 0):RoI m N F g c (r+1) :=
 ⟨hd.rz,fun hc=>by have:=h.ch rfl;have:=hd.ch hc;omega,fun hc=>⟨hd.rz.lt,hd.rz.decl,fun k hk ha j hj hr=>by
  obtain⟨e1,e2⟩:=hd.eq hc;show F (g j) (g k)=true;rw[e1 j hj,e1 k hk];exact e2 k j hk hj (.inl hk) ha hr⟩⟩
theorem RoI.done {g:Nat->Nat}{c:Bool}{r:Nat}(h:RoI m N F g c r)(hx:¬ (r<=m.F.length*N/\c=true)):Sol m N (fun a b=>F a b=true) g:=by
 cases hc:c with
 | false=>exact h.so hc
 | true =>
  have h1:=h.ch hc;have h2:=pot_le F N m.F.length g;exact absurd ⟨by omega,hc⟩ hx
end
end Go.Proofs.YtebbgodlijlioaaGreatDoor
namespace Go.Proofs.YtebbgodlijlioaaGreatDoor
open Go Go.RowKit
theorem q6q (len:Nat)(f:Nat->Nat)(hlen:len<=1048576)(p:Nat)(hp:p<=1000)(flds:Nat)(hfl:flds<=20):∃(N nr:Nat) (m:Fm) (q:Nat),N<=100/\nr<=1000/\FmFit N nr m/\m.F.length=flds/\q<=200000/\∀(w:World) (a:Option Addr) (c:Nat),Byts w a len f ->
 Calls Tryz.prog 41 #[.slice a len c,J9 p,J9 flds] w fun e w'=>∃v1 v2 v3 v4 P,e=.returned (.tuple #[.agg #[v1,v2,v3,v4],J9 q])/\OwM w' w.heap.size v1 v2 v3 v4 m P/\Below w.heap.size w w':=by
 obtain⟨D,ok,hf,hl⟩:=snd_ex len f hlen p hp flds hfl
 have h1:=ok.hpq flds (nR _)
 have h2:=ok.hls
 have h3:=ok.hN2
 have h4:=ok.hn3
 exact⟨D.N,D.nn+1,_,D.pq flds+D.ls.length+1,h3,by omega,hf,hl,by omega,fun w a c hby=>q2c len f hlen p hp flds hfl D ok w a c hby⟩
def OutF (w:World)(m:Fm)(e:Ending)(w':World):Prop:=∃v1 v2 v3 v4 P,e=.returned (.agg #[v1,v2,v3,v4])/\OwM w' w.heap.size v1 v2 v3 v4 m P/\Below w.heap.size w w'
def FitN (m:Fm):Prop:=FitM m/\m.F.length<=1000
def LimX:Prop:=∀which:Nat,which<5->∀b:Bool,∃m,FitN m/\∀w:World,Calls Tryz.prog 67 #[.int .i64 which,.bool b] w (OutF w m)
def SpoX (len:Nat)(f:Nat->Nat):Prop:=∀(q:Nat),q<=200000->∀(N nr:Nat) (m:Fm),N<=100->nr<=1000->FmFit N nr m->0<m.F.length->∃m',FitN m'/\∀(w:World) (a:Option Addr) (c base:Nat) (v1 v2 v3 v4:Value) (P:List (Fl × FA)),Byts w a len f->base<=w.heap.size->OwM w base v1 v2 v3 v4 m P ->
 Calls Tryz.prog 43 #[.slice a len c,J9 q,.agg #[v1,v2,v3,v4]] w fun e w'=>∃u1 u2 u3 u4 P',e=.returned (.agg #[u1,u2,u3,u4])/\OwM w' base u1 u2 u3 u4 m' P'/\Below w.heap.size w w'
theorem qie {w W:World}{v1 v2 v3 v4:Value}{m:Fm}{P:List (Fl × FA)}{base:Nat}(hr:Blk W w.heap.size 28 J3)(ho:OwM W base v1 v2 v3 v4 m P)(hb:Below w.heap.size w W)(hbs:w.heap.size<=base) :
 OwM (W.setRow w.heap.size #[v1,v2,v3,v4]) w.heap.size v1 v2 v3 v4 m P/\Below w.heap.size w (W.setRow w.heap.size #[v1,v2,v3,v4])/\Blk (W.setRow w.heap.size #[v1,v2,v3,v4]) w.heap.size 28 [v1,v2,v3,v4] :=
 ⟨(ho.low hbs).one hr (by decide) (by decide) (by decide) (by decide) (by decide) (by decide) (fun k hk=>setRow_other W w.heap.size k #[v1,v2,v3,v4] hk),below_setRow hb (nR _) _,hr.row [v1,v2,v3,v4]⟩
theorem q39 (len:Nat)(f:Nat->Nat)(hlen:len<=1048576)(hh:tkD len f 0 20=19)(HL:LimX):∃m,FitN m/\∀(w:World) (a:Option Addr) (c:Nat),Byts w a len f->Calls Tryz.prog 40 #[.slice a len c] w (OutF w m):=by
 have hx5:tkD len f 1 5<5:=tk_lt hlen (by omega) (by omega) (by omega)
 obtain⟨x,hx⟩:=Nq (tkD len f 1 5)
 obtain⟨y,hy⟩:=Nq (tkD len f 2 2)
 rw[hx]at hx5
 obtain⟨b,hb⟩:=Nq (((y:Int)==1))
 obtain⟨m,hm,hc⟩:=HL x hx5 b
 refine⟨m,hm,fun w a c hby=>?_⟩
 have HH:=h_ hh;have HX:=h_ hx;have HY:=h_ hy
 have hba:=(bR w.heap.size w).alloc (nR _) (.cells Jc 28)
 have hr0:=Blk.new w 28 Jc
 obtain⟨W0,hW0⟩:=Nq (w.alloc (.cells Jc 28))
 rw[hW0]at hba hr0
 have HBy:=h_ (hby.mono hba);have HBa:=h_ hba;have HR0:=h_ hr0;have HC:=h_ (hc W0)
 clear hh hx hy hby hba hr0 hc
 go_enter Tryz.func40,Tryz.ntmps40
 go_wp2_with fail
 try rw[hW0]
 refine(qju (p:=0) (n:=20) hlen (by omega) (by omega) (by omega) c HBy.u rfl rfl).mono ?_
 rintro e w' ⟨rfl,hw'⟩
 rw[hw',HH.u]
 clear hw' w'
 go_wp2_with fail
 refine(qju (p:=1) (n:=5) hlen (by omega) (by omega) (by omega) c HBy.u rfl rfl).mono ?_
 rintro e w' ⟨rfl,hw'⟩
 rw[hw',HX.u]
 clear hw' w'
 go_wp2_with fail
 refine(qju (p:=2) (n:=2) hlen (by omega) (by omega) (by omega) c HBy.u rfl rfl).mono ?_
 rintro e w' ⟨rfl,hw'⟩
 rw[hw',HY.u]
 clear hw' w' hW0
 go_wp2_with fail
 refine HC.u.mono ?_
 rintro e W1 ⟨v1,v2,v3,v4,P,rfl,ho,hb1⟩
 obtain⟨a1,c1,e1,-⟩:=q8b ho.l;obtain⟨a2,c2,e2,-⟩:=q8b ho.p;obtain⟨a3,c3,e3,-⟩:=q8b ho.r;obtain⟨a4,c4,e4,-⟩:=q8b ho.f.row
 generalize m.L.length=n1 at e1
 generalize m.P.length=n2 at e2
 generalize m.R.length=n3 at e3
 generalize P.length=n4 at e4
 subst e1 e2 e3 e4
 have hr1:=HR0.u.mono hb1 HR0.u.lt
 have HO:=h_ (qie hr1 ho (HBa.u.trans (hb1.mono HBa.u.size)) HBa.u.size)
 have HR1:=h_ hr1
 clear hr1 ho hb1 HC HR0 HBa HBy
 go_wp2_with (refine wpList_store_row rfl 28 (.tmp 2) (.tmp 32) rfl w.heap.size (Jh a1 n1 c1 a2 n2 c2 a3 n3 c3 a4 n4 c4) rfl rfl 28 Jc HR1.u (by kernel_rfl) rfl (by simp[Value.oneCell']) ?_)
 obtain⟨y0,y1,y2,y3⟩:=quad HO.u.2.2
 exact bodyPost_ret (v:=.agg (Jh a1 n1 c1 a2 n2 c2 a3 n3 c3 a4 n4 c4)) (by simp[results,Tryz.results40,go_sem,y0,y1,y2,y3]) rfl ⟨_,_,_,_,_,rfl,HO.u.1,HO.u.2.1⟩
theorem q3a (len:Nat)(f:Nat->Nat)(hlen:len<=1048576)(hh:tkD len f 0 20=18)(w:World)(a:Option Addr)(c:Nat)(hby:Byts w a len f):Calls Tryz.prog 40 #[.slice a len c] w (OutF w ⟨[],[],[],[]⟩):=by
 have hba:=(bR w.heap.size w).alloc (nR _) (.cells Jc 28)
 have hr0:=Blk.new w 28 Jc
 obtain⟨W0,hW0⟩:=Nq (w.alloc (.cells Jc 28))
 rw[hW0]at hba hr0
 have HBy:=h_ (hby.mono hba);have HBa:=h_ hba;have HR0:=h_ hr0
 have HH:=h_ hh;have HW0:=h_ hW0
 have HO:=h_ (qie HR0.u (OwM.nil W0 w.heap.size) HBa.u (nR _))
 clear hh hby hba hr0 hW0
 go_enter Tryz.func40,Tryz.ntmps40
 go_wp2_with fail
 rw[HW0.u]
 refine(qju (p:=0) (n:=20) hlen (by omega) (by omega) (by omega) c HBy.u rfl rfl).mono ?_
 rintro e w' ⟨rfl,hw'⟩
 rw[hw',HH.u]
 clear hw' w' HW0
 go_wp2_with (first | refine q66 rfl 28 #[] rfl Jc (by kernel_rfl) ?_ | refine wpList_store_row rfl 28 (.tmp 2) (.tmp 35) rfl w.heap.size Jc rfl rfl 28 Jc HR0.u (by kernel_rfl) rfl (by simp[Value.oneCell']) ?_)
 obtain⟨y0,y1,y2,y3⟩:=quad HO.u.2.2
 exact bodyPost_ret (v:=.agg Jc) (by simp[results,Tryz.results40,go_sem,y0,y1,y2,y3]) rfl ⟨_,_,_,_,_,rfl,HO.u.1,HO.u.2.1⟩
theorem q3b (len:Nat)(f:Nat->Nat)(hlen:len<=1048576)(how:Nat)(hh:tkD len f 0 20=how)(h14:how<14):∃m,FitN m/\∀(w:World) (a:Option Addr) (c:Nat),Byts w a len f->Calls Tryz.prog 40 #[.slice a len c] w (OutF w m):=by
 obtain⟨fl,hfl⟩:=Nq (min (2+len / 12) 12)
 obtain⟨N,nr,m,q,hN,hnr,hm,hl,hq,hc⟩:=q6q len f hlen 1 (by omega) fl (by omega)
 refine⟨m,⟨hm.fit hN hnr,Ys hm.fl (by omega)⟩,fun w a c hby=>?_⟩
 have hba:=(bR w.heap.size w).alloc (nR _) (.cells Jc 28)
 have hr0:=Blk.new w 28 Jc
 obtain⟨W0,hW0⟩:=Nq (w.alloc (.cells Jc 28))
 rw[hW0]at hba hr0
 have HBy:=h_ (hby.mono hba);have HBa:=h_ hba;have HR0:=h_ hr0
 have HH:=h_ hh;have HFl:=h_ hfl;have HC:=h_ (hc W0 a c (hby.mono hba))
 have g19:((how:Int)==19)=false:=Yf.2 (by omega)
 have g18:((how:Int)==18)=false:=Yf.2 (by omega)
 have g14:¬ (14:Int)<=how:=by omega
 clear hh hby hba hr0 hc hfl
 go_enter Tryz.func40,Tryz.ntmps40
 go_wp2_with fail
 try rw[hW0]
 refine(qju (p:=0) (n:=20) hlen (by omega) (by omega) (by omega) c HBy.u rfl rfl).mono ?_
 rintro e w' ⟨rfl,hw'⟩
 rw[hw',HH.u]
 clear hw' w'
 go_wp2_with fail
 refine(q7b len 12 2 12 a c W0 hlen (by omega) (by omega) (by omega) (by omega)).mono ?_
 rintro e w' ⟨rfl,hw'⟩
 rw[hw',HFl.u]
 clear hw' w' hW0
 go_wp2_with fail
 refine HC.u.mono ?_
 rintro e W1 ⟨v1,v2,v3,v4,P,rfl,ho,hb1⟩
 obtain⟨a1,c1,e1,-⟩:=q8b ho.l;obtain⟨a2,c2,e2,-⟩:=q8b ho.p;obtain⟨a3,c3,e3,-⟩:=q8b ho.r;obtain⟨a4,c4,e4,-⟩:=q8b ho.f.row
 generalize hl1:m.L.length=n1 at e1
 generalize hl2:m.P.length=n2 at e2
 generalize hl3:m.R.length=n3 at e3
 generalize hl4:P.length=n4 at e4
 subst e1 e2 e3 e4
 clear hl1 hl2 hl3 hl4
 have hal:=(bR W1.heap.size W1).alloc (nR _) (.cells (Jh a1 n1 c1 a2 n2 c2 a3 n3 c3 a4 n4 c4) 28)
 have hX:=Blk.new W1 28 (Jh a1 n1 c1 a2 n2 c2 a3 n3 c3 a4 n4 c4)
 obtain⟨W2,hW2⟩:=Nq (W1.alloc (.cells (Jh a1 n1 c1 a2 n2 c2 a3 n3 c3 a4 n4 c4) 28))
 obtain⟨X,hXe⟩:=Nq W1.heap.size
 rw[hW2]at hal hX
 have hb2:=hb1.trans (hal.mono hb1.size)
 have HX:Hi (Blk W2 X 28 [.slice a1 n1 c1,.slice a2 n2 c2,.slice a3 n3 c3,.slice a4 n4 c4]):=h_ (by rw[<- hXe];exact hX)
 have ho2:=ho.mono hal
 have hr2:=HR0.u.mono hb2 HR0.u.lt
 have hbw:=HBa.u.trans (hb2.mono HBa.u.size)
 have HO:=h_ (qie hr2 ho2 hbw HBa.u.size)
 have HR2:=h_ hr2
 obtain⟨x0,x1,x2,x3⟩:=quad HX.u
 clear hr2 ho2 hbw hb2 ho hb1 hal hX HC HR0 HBa HBy
 go_wp2_with (refine wpList_store_row rfl 28 (.tmp 2) (.tmp 50) rfl w.heap.size (Jh a1 n1 c1 a2 n2 c2 a3 n3 c3 a4 n4 c4) rfl rfl 28 Jc HR2.u (by kernel_rfl) rfl (by simp[Value.oneCell']) ?_)
 clear x0 x1 x2 x3
 obtain⟨y0,y1,y2,y3⟩:=quad HO.u.2.2
 exact bodyPost_ret (v:=.agg (Jh a1 n1 c1 a2 n2 c2 a3 n3 c3 a4 n4 c4)) (by simp[results,Tryz.results40,go_sem,y0,y1,y2,y3]) rfl ⟨_,_,_,_,_,rfl,HO.u.1,HO.u.2.1⟩
theorem q3c (len:Nat)(f:Nat->Nat)(hlen:len<=1048576)(how:Nat)(hh:tkD len f 0 20=how)(h14:14<=how)(h18:how<18)(HS:SpoX len f):∃m,FitN m/\∀(w:World) (a:Option Addr) (c:Nat),Byts w a len f->Calls Tryz.prog 40 #[.slice a len c] w (OutF w m):=by
 obtain⟨fl,hfl⟩:=Nq (min (2+len / 12) 12)
 obtain⟨N,nr,m,q,hN,hnr,hm,hl,hq,hc⟩:=q6q len f hlen 1 (by omega) fl (by omega)
 obtain⟨m',hm',hcs⟩:=HS q hq N nr m hN hnr hm (by omega)
 refine⟨m',hm',fun w a c hby=>?_⟩
 have hba:=(bR w.heap.size w).alloc (nR _) (.cells Jc 28)
 have hr0:=Blk.new w 28 Jc
 obtain⟨W0,hW0⟩:=Nq (w.alloc (.cells Jc 28))
 rw[hW0]at hba hr0
 have HBy:=h_ (hby.mono hba);have HBa:=h_ hba;have HR0:=h_ hr0
 have HH:=h_ hh;have HFl:=h_ hfl;have HC:=h_ (hc W0 a c (hby.mono hba))
 have g19:((how:Int)==19)=false:=Yf.2 (by omega)
 have g18:((how:Int)==18)=false:=Yf.2 (by omega)
 have g14:(14:Int)<=how:=by omega
 have HCs:=h_ hcs;have hBw:=fun W (h:Below w.heap.size w W)=>hby.mono h
 have HByW:=h_ hBw
 clear hBw
 clear hh hby hba hr0 hc hfl hcs
 go_enter Tryz.func40,Tryz.ntmps40
 go_wp2_with fail
 try rw[hW0]
 refine(qju (p:=0) (n:=20) hlen (by omega) (by omega) (by omega) c HBy.u rfl rfl).mono ?_
 rintro e w' ⟨rfl,hw'⟩
 rw[hw',HH.u]
 clear hw' w'
 go_wp2_with fail
 refine(q7b len 12 2 12 a c W0 hlen (by omega) (by omega) (by omega) (by omega)).mono ?_
 rintro e w' ⟨rfl,hw'⟩
 rw[hw',HFl.u]
 clear hw' w' hW0
 go_wp2_with fail
 refine HC.u.mono ?_
 rintro e W1 ⟨v1,v2,v3,v4,P,rfl,ho,hb1⟩
 obtain⟨a1,c1,e1,-⟩:=q8b ho.l;obtain⟨a2,c2,e2,-⟩:=q8b ho.p;obtain⟨a3,c3,e3,-⟩:=q8b ho.r;obtain⟨a4,c4,e4,-⟩:=q8b ho.f.row
 generalize hl1:m.L.length=n1 at e1
 generalize hl2:m.P.length=n2 at e2
 generalize hl3:m.R.length=n3 at e3
 generalize hl4:P.length=n4 at e4
 subst e1 e2 e3 e4
 clear hl1 hl2 hl3 hl4
 have hal:=(bR W1.heap.size W1).alloc (nR _) (.cells (Jh a1 n1 c1 a2 n2 c2 a3 n3 c3 a4 n4 c4) 28)
 have hX:=Blk.new W1 28 (Jh a1 n1 c1 a2 n2 c2 a3 n3 c3 a4 n4 c4)
 obtain⟨W2,hW2⟩:=Nq (W1.alloc (.cells (Jh a1 n1 c1 a2 n2 c2 a3 n3 c3 a4 n4 c4) 28))
 obtain⟨X,hXe⟩:=Nq W1.heap.size
 rw[hW2]at hal hX
 have hb2:=hb1.trans (hal.mono hb1.size)
 have HX:Hi (Blk W2 X 28 [.slice a1 n1 c1,.slice a2 n2 c2,.slice a3 n3 c3,.slice a4 n4 c4]):=h_ (by rw[<- hXe];exact hX)
 have ho2:=ho.mono hal
 have hr2:=HR0.u.mono hb2 HR0.u.lt
 have hbw:=HBa.u.trans (hb2.mono HBa.u.size)
 have HC2:=h_ (HCs.u W2 a c W0.heap.size _ _ _ _ P (HByW.u W2 hbw) (Ys hb1.size hal.size) ho2)
 have HR2:=h_ hr2;have HBw:=h_ hbw
 obtain⟨x0,x1,x2,x3⟩:=quad HX.u
 clear hr2 ho2 hbw hb2 ho hb1 hal hX HC HR0 HBy HCs HByW
 go_wp2_with fail
 try rw[hW2]
 refine HC2.u.mono ?_
 rintro e W3 ⟨u1,u2,u3,u4,P3,rfl,ho,hb3⟩
 clear x0 x1 x2 x3 HX
 obtain⟨a1,c1,e1,-⟩:=q8b ho.l;obtain⟨a2,c2,e2,-⟩:=q8b ho.p;obtain⟨a3,c3,e3,-⟩:=q8b ho.r;obtain⟨a4,c4,e4,-⟩:=q8b ho.f.row
 generalize hl1:m'.L.length=k1 at e1
 generalize hl2:m'.P.length=k2 at e2
 generalize hl3:m'.R.length=k3 at e3
 generalize hl4:P3.length=k4 at e4
 subst e1 e2 e3 e4
 clear hl1 hl2 hl3 hl4
 have hr3:=HR2.u.mono hb3 HR2.u.lt
 have HO:=h_ (qie hr3 ho (HBw.u.trans (hb3.mono HBw.u.size)) HBa.u.size)
 have HR3:=h_ hr3
 clear hr3 ho hb3 HC2 HBa HR2 HBw
 go_wp2_with (refine wpList_store_row rfl 28 (.tmp 2) (.tmp 49) rfl w.heap.size (Jh a1 k1 c1 a2 k2 c2 a3 k3 c3 a4 k4 c4) rfl rfl 28 Jc HR3.u (by kernel_rfl) rfl (by simp[Value.oneCell']) ?_)
 obtain⟨y0,y1,y2,y3⟩:=quad HO.u.2.2
 exact bodyPost_ret (v:=.agg (Jh a1 k1 c1 a2 k2 c2 a3 k3 c3 a4 k4 c4)) (by simp[results,Tryz.results40,go_sem,y0,y1,y2,y3]) rfl ⟨_,_,_,_,_,rfl,HO.u.1,HO.u.2.1⟩
theorem q4q (len:Nat)(f:Nat->Nat)(hlen:len<=1048576)(HL:LimX)(HS:SpoX len f):∃m,FitN m/\∀(w:World) (a:Option Addr) (c:Nat),Byts w a len f->Calls Tryz.prog 40 #[.slice a len c] w (OutF w m):=by
 have h20:tkD len f 0 20<20:=tk_lt hlen (by omega) (by omega) (by omega)
 by_cases h19:tkD len f 0 20=19
 . exact q39 len f hlen h19 HL
 by_cases h18:tkD len f 0 20=18
 . exact⟨⟨[],[],[],[]⟩,⟨⟨nZ _,nZ _,nZ _,nZ _,fun x hx=>by simp at hx,fun x hx=>by simp at hx,fun x hx=>by simp at hx⟩,nZ _⟩,fun w a c hby=>q3a len f hlen h18 w a c hby⟩
 by_cases h14:tkD len f 0 20<14
 . exact q3b len f hlen _ rfl h14
 . exact q3c len f hlen _ rfl (by omega) (by omega) HS
def OutG (w:World)(m:Fm)(q:Nat)(e:Ending)(w':World):Prop:=∃v1 v2 v3 v4 P,e=.returned (.tuple #[.agg #[v1,v2,v3,v4],.int .i64 q])/\OwM w' w.heap.size v1 v2 v3 v4 m P/\Below w.heap.size w w'
def DrwG (len:Nat)(f:Nat->Nat):Prop:=∃m q,FitN m/\q<=300000/\∀(w:World) (a:Option Addr) (c:Nat),Byts w a len f->Calls Tryz.prog 17 #[.slice a len c] w (OutG w m q)
theorem q7o (len:Nat)(f:Nat->Nat)(hlen:len<=1048576)(hh:tkD len f 0 16=15)(HL:LimX)(HS:SpoX len f):DrwG len f:=by
 obtain⟨m,hm,hc⟩:=q4q len f hlen HL HS
 refine⟨m,1,hm,by omega,fun w a c hby=>?_⟩
 have hba:=(bR w.heap.size w).alloc (nR _) (.cells Jc 28)
 have hr0:=Blk.new w 28 Jc
 obtain⟨W0,hW0⟩:=Nq (w.alloc (.cells Jc 28))
 rw[hW0]at hba hr0
 have HBy:=h_ (hby.mono hba);have HBa:=h_ hba;have HR0:=h_ hr0
 have HH:=h_ hh;have HC:=h_ (hc W0 a c (hby.mono hba))
 clear hh hby hba hr0 hc
 go_enter Tryz.func17,Tryz.ntmps17
 go_wp2_with fail
 try rw[hW0]
 refine(qju (p:=0) (n:=16) hlen (by omega) (by omega) (by omega) c HBy.u rfl rfl).mono ?_
 rintro e w' ⟨rfl,hw'⟩
 rw[hw',HH.u]
 clear hw' w' hW0
 go_wp2_with fail
 refine HC.u.mono ?_
 rintro e W1 ⟨v1,v2,v3,v4,P,rfl,ho,hb1⟩
 obtain⟨a1,c1,e1,-⟩:=q8b ho.l;obtain⟨a2,c2,e2,-⟩:=q8b ho.p;obtain⟨a3,c3,e3,-⟩:=q8b ho.r;obtain⟨a4,c4,e4,-⟩:=q8b ho.f.row
 generalize hl1:m.L.length=n1 at e1
 generalize hl2:m.P.length=n2 at e2
 generalize hl3:m.R.length=n3 at e3
 generalize hl4:P.length=n4 at e4
 subst e1 e2 e3 e4
 clear hl1 hl2 hl3 hl4
 have hr1:=HR0.u.mono hb1 HR0.u.lt
 have HO:=h_ (qie hr1 ho (HBa.u.trans (hb1.mono HBa.u.size)) HBa.u.size)
 have HR1:=h_ hr1
 clear hr1 ho hb1 HC HR0 HBa HBy
 go_wp2_with (refine wpList_store_row rfl 28 (.tmp 2) (.tmp 16) rfl w.heap.size (Jh a1 n1 c1 a2 n2 c2 a3 n3 c3 a4 n4 c4) rfl rfl 28 Jc HR1.u (by kernel_rfl) rfl (by simp[Value.oneCell']) ?_)
 obtain⟨y0,y1,y2,y3⟩:=quad HO.u.2.2
 exact bodyPost_ret (v:=.tuple #[.agg (Jh a1 n1 c1 a2 n2 c2 a3 n3 c3 a4 n4 c4),J9 1]) (by simp[results,Tryz.results17,go_sem,y0,y1,y2,y3]) rfl ⟨_,_,_,_,_,rfl,HO.u.1,HO.u.2.1⟩
theorem q7p (len:Nat)(f:Nat->Nat)(hlen:len<=1048576)(how:Nat)(hh:tkD len f 0 16=how)(h10:how<10):DrwG len f:=by
 obtain⟨fl,hfl⟩:=Nq (min (2+len / 10) 14)
 obtain⟨N,nr,m,q,hN,hnr,hm,hl,hq,hc⟩:=q6q len f hlen 1 (by omega) fl (by omega)
 refine⟨m,q,⟨hm.fit hN hnr,Ys hm.fl (by omega)⟩,by omega,fun w a c hby=>?_⟩
 have hba:=(bR w.heap.size w).alloc (nR _) (.cells Jc 28)
 have hr0:=Blk.new w 28 Jc
 obtain⟨W0,hW0⟩:=Nq (w.alloc (.cells Jc 28))
 rw[hW0]at hba hr0
 have HBy:=h_ (hby.mono hba);have HBa:=h_ hba;have HR0:=h_ hr0
 have HH:=h_ hh;have HFl:=h_ hfl;have HC:=h_ (hc W0 a c (hby.mono hba))
 have g15:((how:Int)==15)=false:=Yf.2 (by omega)
 have g10:¬ (10:Int)<=how:=by omega
 clear hh hby hba hr0 hc hfl
 go_enter Tryz.func17,Tryz.ntmps17
 go_wp2_with fail
 try rw[hW0]
 refine(qju (p:=0) (n:=16) hlen (by omega) (by omega) (by omega) c HBy.u rfl rfl).mono ?_
 rintro e w' ⟨rfl,hw'⟩
 rw[hw',HH.u]
 clear hw' w'
 go_wp2_with fail
 refine(q7b len 10 2 14 a c W0 hlen (by omega) (by omega) (by omega) (by omega)).mono ?_
 rintro e w' ⟨rfl,hw'⟩
 rw[hw',HFl.u]
 clear hw' w' hW0
 go_wp2_with fail
 refine HC.u.mono ?_
 rintro e W1 ⟨v1,v2,v3,v4,P,rfl,ho,hb1⟩
 obtain⟨a1,c1,e1,-⟩:=q8b ho.l;obtain⟨a2,c2,e2,-⟩:=q8b ho.p;obtain⟨a3,c3,e3,-⟩:=q8b ho.r;obtain⟨a4,c4,e4,-⟩:=q8b ho.f.row
 generalize hl1:m.L.length=n1 at e1
 generalize hl2:m.P.length=n2 at e2
 generalize hl3:m.R.length=n3 at e3
 generalize hl4:P.length=n4 at e4
 subst e1 e2 e3 e4
 clear hl1 hl2 hl3 hl4
 have hal:=(bR W1.heap.size W1).alloc (nR _) (.cells (Jh a1 n1 c1 a2 n2 c2 a3 n3 c3 a4 n4 c4) 28)
 have hX:=Blk.new W1 28 (Jh a1 n1 c1 a2 n2 c2 a3 n3 c3 a4 n4 c4)
 obtain⟨W2,hW2⟩:=Nq (W1.alloc (.cells (Jh a1 n1 c1 a2 n2 c2 a3 n3 c3 a4 n4 c4) 28))
 obtain⟨X,hXe⟩:=Nq W1.heap.size
 rw[hW2]at hal hX
 have hb2:=hb1.trans (hal.mono hb1.size)
 have HX:Hi (Blk W2 X 28 [.slice a1 n1 c1,.slice a2 n2 c2,.slice a3 n3 c3,.slice a4 n4 c4]):=h_ (by rw[<- hXe];exact hX)
 have ho2:=ho.mono hal
 have hr2:=HR0.u.mono hb2 HR0.u.lt
 have hbw:=HBa.u.trans (hb2.mono HBa.u.size)
 have HO:=h_ (qie hr2 ho2 hbw HBa.u.size)
 have HR2:=h_ hr2
 obtain⟨x0,x1,x2,x3⟩:=quad HX.u
 clear hr2 ho2 hbw hb2 ho hb1 hal hX HC HR0 HBa HBy
 go_wp2_with (refine wpList_store_row rfl 28 (.tmp 2) (.tmp 34) rfl w.heap.size (Jh a1 n1 c1 a2 n2 c2 a3 n3 c3 a4 n4 c4) rfl rfl 28 Jc HR2.u (by kernel_rfl) rfl (by simp[Value.oneCell']) ?_)
 obtain⟨y0,y1,y2,y3⟩:=quad HO.u.2.2
 exact bodyPost_ret (v:=.tuple #[.agg (Jh a1 n1 c1 a2 n2 c2 a3 n3 c3 a4 n4 c4),J9 q]) (by simp[results,Tryz.results17,go_sem,y0,y1,y2,y3]) rfl ⟨_,_,_,_,_,rfl,HO.u.1,HO.u.2.1⟩
theorem q7q (len:Nat)(f:Nat->Nat)(hlen:len<=1048576)(how:Nat)(hh:tkD len f 0 16=how)(h10:10<=how)(h15:how<15)(HS:SpoX len f):DrwG len f:=by
 obtain⟨fl,hfl⟩:=Nq (min (2+len / 10) 14)
 obtain⟨N,nr,m,q,hN,hnr,hm,hl,hq,hc⟩:=q6q len f hlen 1 (by omega) fl (by omega)
 obtain⟨m',hm',hcs⟩:=HS q hq N nr m hN hnr hm (by omega)
 obtain⟨q3,hq3⟩:=Nq (q+3)
 have e3:(q:Int)+3=(q3:Int):=by omega
 refine⟨m',q3,hm',by omega,fun w a c hby=>?_⟩
 have hba:=(bR w.heap.size w).alloc (nR _) (.cells Jc 28)
 have hr0:=Blk.new w 28 Jc
 obtain⟨W0,hW0⟩:=Nq (w.alloc (.cells Jc 28))
 rw[hW0]at hba hr0
 have HBy:=h_ (hby.mono hba);have HBa:=h_ hba;have HR0:=h_ hr0
 have HH:=h_ hh;have HFl:=h_ hfl;have HC:=h_ (hc W0 a c (hby.mono hba))
 have g15:((how:Int)==15)=false:=Yf.2 (by omega)
 have g10:(10:Int)<=how:=by omega
 have HCs:=h_ hcs;have HByW:=h_ fun W (h:Below w.heap.size w W)=>hby.mono h
 clear hh hby hba hr0 hc hfl hcs hq3
 go_enter Tryz.func17,Tryz.ntmps17
 go_wp2_with fail
 try rw[hW0]
 refine(qju (p:=0) (n:=16) hlen (by omega) (by omega) (by omega) c HBy.u rfl rfl).mono ?_
 rintro e w' ⟨rfl,hw'⟩
 rw[hw',HH.u]
 clear hw' w'
 go_wp2_with fail
 refine(q7b len 10 2 14 a c W0 hlen (by omega) (by omega) (by omega) (by omega)).mono ?_
 rintro e w' ⟨rfl,hw'⟩
 rw[hw',HFl.u]
 clear hw' w' hW0
 go_wp2_with fail
 refine HC.u.mono ?_
 rintro e W1 ⟨v1,v2,v3,v4,P,rfl,ho,hb1⟩
 obtain⟨a1,c1,e1,-⟩:=q8b ho.l;obtain⟨a2,c2,e2,-⟩:=q8b ho.p;obtain⟨a3,c3,e3,-⟩:=q8b ho.r;obtain⟨a4,c4,e4,-⟩:=q8b ho.f.row
 generalize hl1:m.L.length=n1 at e1
 generalize hl2:m.P.length=n2 at e2
 generalize hl3:m.R.length=n3 at e3
 generalize hl4:P.length=n4 at e4
 subst e1 e2 e3 e4
 clear hl1 hl2 hl3 hl4
 have hal:=(bR W1.heap.size W1).alloc (nR _) (.cells (Jh a1 n1 c1 a2 n2 c2 a3 n3 c3 a4 n4 c4) 28)
 have hX:=Blk.new W1 28 (Jh a1 n1 c1 a2 n2 c2 a3 n3 c3 a4 n4 c4)
 obtain⟨W2,hW2⟩:=Nq (W1.alloc (.cells (Jh a1 n1 c1 a2 n2 c2 a3 n3 c3 a4 n4 c4) 28))
 obtain⟨X,hXe⟩:=Nq W1.heap.size
 rw[hW2]at hal hX
 have hb2:=hb1.trans (hal.mono hb1.size)
 have HX:Hi (Blk W2 X 28 [.slice a1 n1 c1,.slice a2 n2 c2,.slice a3 n3 c3,.slice a4 n4 c4]):=h_ (by rw[<- hXe];exact hX)
 have ho2:=ho.mono hal
 have hr2:=HR0.u.mono hb2 HR0.u.lt
 have hbw:=HBa.u.trans (hb2.mono HBa.u.size)
 have HC2:=h_ (HCs.u W2 a c W0.heap.size _ _ _ _ P (HByW.u W2 hbw) (Ys hb1.size hal.size) ho2)
 have HR2:=h_ hr2;have HBw:=h_ hbw
 obtain⟨x0,x1,x2,x3⟩:=quad HX.u
 clear hr2 ho2 hbw hb2 ho hb1 hal hX HC HR0 HBy HCs HByW
 go_wp2_with fail
 try rw[hW2]
 refine HC2.u.mono ?_
 rintro e W3 ⟨u1,u2,u3,u4,P3,rfl,ho,hb3⟩
 clear x0 x1 x2 x3 HX
 obtain⟨a1,c1,e1,-⟩:=q8b ho.l;obtain⟨a2,c2,e2,-⟩:=q8b ho.p;obtain⟨a3,c3,e3,-⟩:=q8b ho.r;obtain⟨a4,c4,e4,-⟩:=q8b ho.f.row
 generalize hl1:m'.L.length=k1 at e1
 generalize hl2:m'.P.length=k2 at e2
 generalize hl3:m'.R.length=k3 at e3
 generalize hl4:P3.length=k4 at e4
 subst e1 e2 e3 e4
 clear hl1 hl2 hl3 hl4
 have hr3:=HR2.u.mono hb3 HR2.u.lt
 have HO:=h_ (qie hr3 ho (HBw.u.trans (hb3.mono HBw.u.size)) HBa.u.size)
 have HR3:=h_ hr3
 clear hr3 ho hb3 HC2 HBa HR2 HBw
 go_wp2_with (refine wpList_store_row rfl 28 (.tmp 2) (.tmp 31) rfl w.heap.size (Jh a1 k1 c1 a2 k2 c2 a3 k3 c3 a4 k4 c4) rfl rfl 28 Jc HR3.u (by kernel_rfl) rfl (by simp[Value.oneCell']) ?_)
 obtain⟨y0,y1,y2,y3⟩:=quad HO.u.2.2
 exact bodyPost_ret (v:=.tuple #[.agg (Jh a1 k1 c1 a2 k2 c2 a3 k3 c3 a4 k4 c4),J9 q3]) (by simp[results,Tryz.results17,go_sem,y0,y1,y2,y3]) rfl ⟨_,_,_,_,_,rfl,HO.u.1,HO.u.2.1⟩
theorem qaa (len:Nat)(f:Nat->Nat)(hlen:len<=1048576)(HL:LimX)(HS:SpoX len f):DrwG len f:=by
 have h16:tkD len f 0 16<16:=tk_lt hlen (by omega) (by omega) (by omega)
 by_cases h15:tkD len f 0 16=15
 . exact q7o len f hlen h15 HL HS
 by_cases h10:tkD len f 0 16<10
 . exact q7p len f hlen _ rfl h10
 . exact q7q len f hlen _ rfl (by omega) (by omega) HS
def inL (len:Nat)(f:Nat->Nat)(p0:Nat)(l0:List Fl):Nat->List Fl
 | 0=>l0
 | k+1=>if tkD len f (p0+k) 3=0∨0<((inL len f p0 l0 k).getD k noFl).is.length then setL k (-1) (inL len f p0 l0 k) l0.length else inL len f p0 l0 k
theorem qgx (len:Nat)(f:Nat->Nat)(p0:Nat)(l0:List Fl):∀k,(inL len f p0 l0 k).length=l0.length
 | 0=>rfl
 | k+1=>by
  unfold inL;split
  . exact qen _ _ _ _
  . exact qgx len f p0 l0 k
theorem qel {m lab:Int}{j:Nat}{y:Fl}(h:FitF y):FitF (setG m lab j y):=by
 unfold setG
 split
 . exact⟨h.nm,h.sy,h.bl,h.il,h.hl,h.vl,h.ul,h.i,h.h,h.v,h.u⟩
 . exact h
theorem qgw {len:Nat}{f:Nat->Nat}{p0:Nat}{l0:List Fl}(h:∀x,x∈l0->FitF x):∀k x,x∈inL len f p0 l0 k->FitF x
 | 0,x,hx=>h x hx
 | k+1,x,hx=>by
  unfold inL at hx;split at hx
  . obtain⟨j,y,hy,rfl⟩:=qeo _ _ _ _ (by rw[qgx];exact nR _) x hx
    exact qel (qgw h k y hy)
  . exact qgw h k x hx
theorem q6p (len:Nat)(f:Nat->Nat)(hlen:len<=1048576)(h:DrwG len f):∃m,FitN m/\∀(w:World) (a:Option Addr) (c:Nat),Byts w a len f->Calls Tryz.prog 5 #[.slice a len c] w (OutF w m):=by
 obtain⟨m,q,hm,hq,hc⟩:=h
 obtain⟨n,hn⟩:=Nq m.F.length
 obtain⟨x,hx⟩:=Nq (tkD len f q 4)
 obtain⟨q1,hq1⟩:=Nq (q+1)
 obtain⟨FL,hFL⟩:∃FL,(if x=0 then m.F else inL len f q1 m.F n)=FL:=⟨_,rfl⟩
 have hFl:FL.length=n:=by rw[<- hFL];split;exact hn;rw[qgx];exact hn
 have hn2:n<=1000:=by rw[<- hn];exact hm.2
 refine⟨⟨m.L,m.P,m.R,FL⟩,⟨⟨hm.1.ll,hm.1.pl,hm.1.rl,by show FL.length<=_;omega,hm.1.l,hm.1.r,fun y hy=>?_⟩,by show FL.length<=1000;omega⟩,fun w a c hby=>?_⟩
 . have hy:y∈FL:=hy
   rw[<- hFL]at hy;split at hy
   . exact hm.1.f y hy
   . exact qgw hm.1.f n y hy
 have hba:=(bR w.heap.size w).alloc (nR _) (.cells Jc 28)
 have hr0:=Blk.new w 28 Jc
 obtain⟨W0,hW0⟩:=Nq (w.alloc (.cells Jc 28))
 rw[hW0]at hba hr0
 have HBm:Hi (∀W,Below w.heap.size w W->Byts W a len f):=h_ fun W hb=>hby.mono hb
 have HBa:=h_ hba;have HR0:=h_ hr0
 have HC:=h_ (hc W0 a c (hby.mono hba))
 have HX:=h_ hx;have HFL:=h_ hFL;have HN:=h_ hn
 have hq1b:q1<=300001:=by omega
 have hq1':(q:Int)+1=(q1:Int):=by omega
 clear hc hby hba hr0 hx hFL hFl hn hm hq1
 go_enter Tryz.func5,Tryz.ntmps5
 go_wp2_with fail
 try rw[hW0]
 clear hW0
 refine HC.u.mono ?_
 rintro e W1 ⟨v1,v2,v3,v4,P,rfl,ho,hb1⟩
 have hPl:P.length=n:=by have:=congrArg List.length ho.e;rw[Yz]at this;rw[<- this];exact HN.u
 obtain⟨a1,c1,e1,-⟩:=q8b ho.l;obtain⟨a2,c2,e2,-⟩:=q8b ho.p;obtain⟨a3,c3,e3,-⟩:=q8b ho.r;obtain⟨a4,c4,e4,-⟩:=q8b ho.f.row
 obtain⟨n1,hn1⟩:∃k,m.L.length=k:=⟨_,rfl⟩
 obtain⟨n2,hn2'⟩:∃k,m.P.length=k:=⟨_,rfl⟩
 obtain⟨n3,hn3⟩:∃k,m.R.length=k:=⟨_,rfl⟩
 rw[hn1]at e1
 rw[hn2']at e2
 rw[hn3]at e3
 rw[hPl]at e4
 subst e1 e2 e3 e4
 clear hn1 hn2' hn3
 have hal:=(bR W1.heap.size W1).alloc (nR _) (.cells (Jh a1 n1 c1 a2 n2 c2 a3 n3 c3 a4 n c4) 28)
 have hX:=Blk.new W1 28 (Jh a1 n1 c1 a2 n2 c2 a3 n3 c3 a4 n c4)
 obtain⟨W2,hW2⟩:=Nq (W1.alloc (.cells (Jh a1 n1 c1 a2 n2 c2 a3 n3 c3 a4 n c4) 28))
 obtain⟨R,hRe⟩:=Nq W1.heap.size
 rw[hW2]at hal hX
 rw[hRe]at hX
 have hb2:=hb1.trans (hal.mono hb1.size)
 have hlt0:=HR0.u.lt
 have hs1:=hb1.size
 have HM:Hi (MMk R ⟨m.L,m.P,m.R,inL len f q1 m.F 0⟩ P (.slice a1 n1 c1) (.slice a2 n2 c2) (.slice a3 n3 c3) (.slice a4 n c4) w W2):=h_ ⟨hX,(ho.mono hal).low HBa.u.size,HBa.u.trans (hb2.mono HBa.u.size),HR0.u.mono hb2 HR0.u.lt,by omega⟩
 have HW2:=h_ hW2;have HRe:=h_ hRe
 clear hal hX hW2 hRe hb2 hlt0 hs1 ho hb1 HC HR0 HBa
 go_upto_region 2 with fail
 try rw[HW2.u]
 try rw[HRe.u]
 clear HW2 HRe
 go_wp2_with fail
 refine(qju (p:=q) (n:=4) hlen (by omega) (by omega) (by omega) c (HBm.u W2 HM.u.bl) rfl rfl).mono ?_
 rintro e w' ⟨rfl,hw'⟩
 rw[hw',HX.u,hq1']
 clear hw' w'
 go_upto_if 20 with fail
 go_cut [5,6,7] from 20 to 48 (fun _ _ _ wx=>∃x4 c4 P,MMk R ⟨m.L,m.P,m.R,FL⟩ P (.slice a1 n1 c1) (.slice a2 n2 c2) (.slice a3 n3 c3) (.slice x4 n c4) w wx)
 case first =>
  by_cases h0:x=0
  . have h0':¬ (0:Int)<x:=by omega
    have HM2:Hi (MMk R ⟨m.L,m.P,m.R,FL⟩ P (.slice a1 n1 c1) (.slice a2 n2 c2) (.slice a3 n3 c3) (.slice a4 n c4) w W2):=h_ (by rw[<- HFL.u,Yy h0];exact HM.u);clear h0;go_wp2_with fail;go_meet;exact⟨_,_,_,HM2.u⟩
  . have h0':(0:Int)<x:=by omega
    have HFn:Hi (FL=inL len f q1 m.F n):=h_ (by rw[<- HFL.u,Yu h0]);have hd0:decide (0<x)=true:=Ym (by omega);clear h0 HFL;go_wp2_with fail
    try rw[hd0]
    clear hd0;go_loopw [5,6,7] (fun _ v i wr=>∃(k p:Nat) (x4:Option Addr) (c4:Nat) (P:List (Fl × FA)),k<=n/\p=q1+k/\v=J9 p/\i=J9 k/\MMk R ⟨m.L,m.P,m.R,inL len f q1 m.F k⟩ P (.slice a1 n1 c1) (.slice a2 n2 c2) (.slice a3 n3 c3) (.slice x4 n c4) w wr) (fun _ _ i _=>n - (intOf i).toNat)
    case atStart=>exact⟨0,q1,_,_,_,nZ _,rfl,rfl,rfl,HM.u⟩
    case round =>
     clear HM;obtain⟨k,p,x4,c4,P,hk,hp,rfl,rfl,hm⟩:=hrel;obtain⟨y0,y1,y2,y3⟩:=quad hm.bx;by_cases hlt:k<n
     . have hlt':(k:Int)<(n:Int):=by omega
       have hp2:p<=301001:=(by omega);have hPl:P.length=n:=(by have:=congrArg List.length hm.ow.e;rw[Yz]at this;rw[<- this];show(inL len f q1 m.F k).length=n;rw[qgx];exact HN.u);have hkP:k<P.length:=(by omega);have hof:OwF wr w.heap.size (.slice x4 P.length c4) P:=(by rw[hPl];exact hm.ow.f);obtain⟨b1,o1,e4,hfc,-⟩:=qgk hof k (by rw[Yz];exact hkP);subst e4;have hgd:(inL len f q1 m.F k).getD k noFl=(P[k]).1:=(by rw[show inL len f q1 m.F k=P.map (·.1) from hm.ow.e,<- qcn,Yl,Yj hkP];rfl);obtain⟨⟨u,A⟩,hu⟩:∃y,P[k]=y:=⟨_,rfl⟩;rw[Vh,qcg hkP,hu]at hfc;rw[hu]at hgd;obtain⟨hbl,-,-,-,-,z4,-⟩:=hfc;obtain⟨t,ht⟩:=Nq (tkD len f p 3);have HT:=h_ ht;have HSt:Hi (inL len f q1 m.F (k+1)=if t=0∨0<u.is.length then setL k (-1) (inL len f q1 m.F k) n else inL len f q1 m.F k):=h_ (by
        show(if tkD len f (q1+k) 3=0∨0<((inL len f q1 m.F k).getD k noFl).is.length then setL k (-1) (inL len f q1 m.F k) m.F.length else inL len f q1 m.F k)=_;rw[hgd,<- hp,ht,HN.u])
       have HCs:=h_ (q49 (k:Int) (-1) wr w.heap.size hm.bl.size P (by omega) a1 a2 a3 (some ⟨b1,o1,none⟩) n1 c1 n2 c2 n3 c3 c4 hof);rw[hPl]at HCs;have hfe:inL len f q1 m.F k=P.map (·.1):=hm.ow.e;have HFe:=h_ hfe;have HMr:=h_ hm;have hby2:=HBm.u wr hm.bl;have HBy:=h_ hby2;have HPk:=h_ hp;clear hm hof hgd hu ht hfe hby2 hp;go_upto_region 7 with fail
       clear y0 y1 y2 y3;go_wp2_with fail;refine(qju (p:=p) (n:=3) hlen (by omega) (by omega) (by omega) c HBy.u rfl rfl).mono ?_;rintro e w' ⟨rfl,hw'⟩;rw[hw',HT.u];clear hw' w' HT HBy;obtain⟨y0,y1,y2,y3⟩:=quad HMr.u.bx;have k0:(0:Int)<=k:=(by omega);obtain⟨bq,hbq⟩:∃bq,decide (t=0∨0<u.is.length)=bq:=⟨_,rfl⟩;have HBq:=h_ hbq;clear hbq;go_upto_region 8 with fail
       go_cut [45] from 34 to 44 (fun s wx=>s=.bool bq/\wx=wr)
       case first =>
        by_cases ht0:t=0
        . have ht':((t:Int)==0)=true:=by rw[ht0];rfl
          obtain rfl:bq=true:=(by rw[<- HBq.u];exact Ym (.inl ht0));clear ht0;go_wp2_with fail;go_meet;exact⟨rfl,rfl⟩
        . have ht':((t:Int)==0)=false:=Yf.2 (by omega)
          by_cases hil:0<u.is.length
          . have hil':(0:Int)<u.is.length:=by omega
            obtain rfl:bq=true:=(by rw[<- HBq.u];exact Ym (.inr hil));clear ht0;go_wp2_with fail;go_meet;exact⟨rfl,rfl⟩
          . have hil':¬ (0:Int)<u.is.length:=by omega
            obtain rfl:bq=false:=(by rw[<- HBq.u];exact Yi fun h=>h.elim ht0 hil);clear ht0;go_wp2_with fail;go_meet;exact⟨rfl,rfl⟩
       case rest =>
        obtain⟨rfl,hwc⟩:=hcut;subst hwc;by_cases hd:t=0∨0<u.is.length
        . obtain rfl:bq=true:=by rw[<- HBq.u];exact Ym hd
          rw[Yy hd]at HSt;clear hd;go_wp2_with fail;refine HCs.u.mono ?_;rintro e W3 ⟨x5,c5,rfl,hof2,hb⟩;have hm2:=HMr.u.mono hb;have hm3:=hm2.rowF hof2;have hfs:(setT (k:Int) (-1) P n).map (·.1)=inL len f q1 m.F (k+1):=by rw[HSt.u,qeq,HFe.u]
          try dsimp only at hm3
          rw[hfs]at hm3;have HM3:Hi (MMk R ⟨m.L,m.P,m.R,inL len f q1 m.F (k+1)⟩ (setT (k:Int) (-1) P n) (.slice a1 n1 c1) (.slice a2 n2 c2) (.slice a3 n3 c3) (.slice x5 n c5) w (W3.setRow R (Jh a1 n1 c1 a2 n2 c2 a3 n3 c3 x5 n c5))):=h_ hm3;have HX2:=h_ hm2.bx;clear hm2 hm3 hfs hof2 hb HCs HMr y0 y1 y2 y3 z4;go_wp2_with (refine wpList_store_row rfl 28 (.tmp 3) (.tmp 48) rfl R (Jh a1 n1 c1 a2 n2 c2 a3 n3 c3 x5 n c5) rfl rfl 28 (Jh a1 n1 c1 a2 n2 c2 a3 n3 c3 (some ⟨b1,o1,none⟩) n c4) HX2.u (by kernel_rfl) rfl (by simp[Value.oneCell']) ?_);go_roundw
          case rel=>first | exact⟨k+1,p+1,_,_,_,by omega,by have:=HPk.u;omega,by go_num,by go_num,HM3.u⟩ | ((repeat apply Exists.intro);exact⟨⟨k+1,p+1,_,_,_,by omega,by have:=HPk.u;omega,by go_num,by go_num,HM3.u⟩,rfl⟩)
          case measure=>first | exact qi2 hlt | (simp[intOf];omega)
        . obtain rfl:bq=false:=by rw[<- HBq.u];exact Yi hd
          rw[Yu hd]at HSt;have HM3:Hi (MMk R ⟨m.L,m.P,m.R,inL len f q1 m.F (k+1)⟩ P (.slice a1 n1 c1) (.slice a2 n2 c2) (.slice a3 n3 c3) (.slice (some ⟨b1,o1,none⟩) n c4) w wc):=h_ (by rw[HSt.u];exact HMr.u);clear hd HCs HMr;go_wp2_with fail;go_roundw
          case rel=>first | exact⟨k+1,p+1,_,_,_,by omega,by have:=HPk.u;omega,by go_num,by go_num,HM3.u⟩ | ((repeat apply Exists.intro);exact⟨⟨k+1,p+1,_,_,_,by omega,by have:=HPk.u;omega,by go_num,by go_num,HM3.u⟩,rfl⟩)
          case measure=>first | exact qi2 hlt | (simp[intOf];omega)
     . have hlt':¬ (k:Int)<(n:Int):=by omega
       obtain rfl:n=k:=(by omega);have HMr:Hi (MMk R ⟨m.L,m.P,m.R,FL⟩ P (.slice a1 n1 c1) (.slice a2 n2 c2) (.slice a3 n3 c3) (.slice x4 n c4) w wr):=h_ (by rw[HFn.u];exact hm);clear hm;go_wp2_with fail;go_meet;exact⟨_,_,_,HMr.u⟩
 case rest =>
  clear HM HBm HX HFL;obtain⟨x4,c4',P',hm⟩:=hcut;have HF:=h_ hm.fin;have HR0:=h_ hm.r0;obtain⟨q0,q1',q2,q3⟩:=quad hm.bx;clear hm;go_wp2_with (refine wpList_store_row rfl 28 (.tmp 2) (.tmp 49) rfl w.heap.size (Jh a1 n1 c1 a2 n2 c2 a3 n3 c3 x4 n c4') rfl rfl 28 Jc HR0.u (by kernel_rfl) rfl (by simp[Value.oneCell']) ?_);clear q0 q1' q2 q3;obtain⟨y0,y1,y2,y3⟩:=quad HF.u.2.2;exact bodyPost_ret (v:=.agg (Jh a1 n1 c1 a2 n2 c2 a3 n3 c3 x4 n c4')) (by simp[results,Tryz.results5,go_sem,y0,y1,y2,y3]) rfl ⟨_,_,_,_,P',rfl,HF.u.1,HF.u.2.1⟩
end Go.Proofs.YtebbgodlijlioaaGreatDoor
