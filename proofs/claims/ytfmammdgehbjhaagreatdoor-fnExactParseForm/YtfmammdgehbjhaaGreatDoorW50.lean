import Derived.Test.YtfmammdgehbjhaaGreatDoorW39
import Derived.Test.YtfmammdgehbjhaaGreatDoorW49
import Derived.OpenShut
import Derived.Carry
import Derived.Deep.DeepHandedRow
import Derived.Deep.Grids
import Derived.Lib.LaidTab
import Derived.Lib.SmallJoins
import Derived.Test.YtfmammdgehbjhaaGreatDoorCards
import Derived.Test.YtfmammdgehbjhaaGreatDoorTie
import Derived.Stop.LaidErr
import Derived.Lib.TrailingZeros
import Derived.ChangeMaps5
import Derived.Deep.Slices
import Derived.Shelf.Vars
import Derived.OpenVars
import Derived.ChangeVars
set_option maxRecDepth 100000
set_option maxHeartbeats 64000000
namespace Go.Proofs.YtfmammdgehbjhaaGreatDoor
open Go Go.RowKit
theorem VfB.sm {m:Fm}(h:VfB m)(hf:Flt m):Sm m:=⟨by have:=h.nl;omega,by have:=h.np;omega,by have:=h.nr;omega,by have:=h.nf;omega,fun x hx=>⟨(hf x hx).1,(hf x hx).2.1.1,(hf x hx).2.2.1.1,(hf x hx).2.2.2.1.1,(hf x hx).2.2.2.2.1⟩⟩
def uW (W:World):World:=(W.alloc (.cells #[.slice none 0 0,.slice none 0 0,.slice none 0 0,.slice none 0 0] 27)).alloc (.cells #[.int .i64 0,.int .i64 0] 29)
theorem qez (W:World)(cF cD:List Value):Blk (uW W) W.heap.size 27 Jc.toList/\Blk ((uW W).setRow W.heap.size cF.toArray) (W.heap.size+1) 29 J4.toList/\Blk (((uW W).setRow W.heap.size cF.toArray).setRow (W.heap.size+1) cD.toArray) W.heap.size 27 cF/\Blk (((uW W).setRow W.heap.size cF.toArray).setRow (W.heap.size+1) cD.toArray) (W.heap.size+1) 29 cD/\Below W.heap.size W (((uW W).setRow W.heap.size cF.toArray).setRow (W.heap.size+1) cD.toArray):=by
 have h1:Blk (uW W) W.heap.size 27 Jc.toList:=(Blk.new W 27 Jc).alloc _
 have h2:Blk (uW W) (W.heap.size+1) 29 J4.toList:=by
  have:=Blk.new (W.alloc (.cells Jc 27)) 29 J4;rw[Yy]at this;exact this
 have hb:Below W.heap.size W (uW W):=((bR W.heap.size W).alloc (nR _) _).alloc (by simp) _
 have h3:=h2.rowS_other (g:=W.heap.size) (by omega) cF.toArray
 exact⟨h1,h3,(h1.rowS cF).rowS_other (by omega) _,h3.rowS cD,q8i (q8i hb (nR _) _) (by omega) _⟩
theorem q58 (s:ByteArray)(w:World)(hw:Wrds w)(hp:Pow w)(q1:ErrV "strconv.ErrSyntax" w) (q2:ErrV "strconv.ErrRange" w) (hy:TyT w) (hkl:KdL w) (hs0:s.size<=9223372036854775807) :
 Calls Tryz.prog 3 #[.string s] w fun r w'=>r=.returned (.bool true)/\Below w.heap.size w w':=by
 by_cases hbig:1048576<s.size
 . have hbig':(1048576:Int)<(s.size:Int):=by omega
   clear hw hp q1 q2 hy hkl;go_enter Tryz.func3,Tryz.ntmps3;go_wp2_with fail;go_ret;exact⟨rfl,bR _ _⟩
 have hs:s.size<=1048576:=by omega
 have hbig':¬ (1048576:Int)<(s.size:Int):=by omega
 have HSp:=h_ (q3u s w hs)
 have HIm:Hi (∀W,Below w.heap.size w W->Calls Tryz.prog 5 #[.string s] W (FpO s W)):=h_ fun W h=>q2z s W hs (hw.mono h) (hp.mono h) (q1.mono h) (q2.mono h) (hy.mono h) (hkl.mono h)
 clear hw hp q1 q2 hy hkl hbig
 go_enter Tryz.func3,Tryz.ntmps3
 go_wp2_with fail
 refine HSp.u.mono ?_
 rintro e W1 ⟨m,code,at',v1,v2,v3,v4,P,hA,hvb,hft,rfl,hm1,hb1⟩
 obtain⟨A,-,hsl1,rfl,rfl,rfl,rfl,-⟩:=hm1.sl
 have HA:=h_ hA;have HSm:=h_ (hvb.sm hft);have HS1:=h_ hsl1;have HB:=h_ hb1
 clear hA hvb hft hm1 hsl1 hb1 HSp hs hs0 hbig'
 have T:=qez W1 (Jb A m).toList (Jw code at').toList
 unfold uW at T
 have HZ1:=h_ T.1;have HZ2:=h_ T.2.1
 obtain⟨V1,hV⟩:∃V,(((W1.alloc (.cells Jc 27)).alloc (.cells J4 29)).setRow W1.heap.size (Jb A m)).setRow (W1.heap.size+1) (Jw code at')=V:=⟨_,rfl⟩
 have F1:Hi (Blk V1 W1.heap.size 27 (Jb A m).toList):=h_ (by rw[<- hV];exact T.2.2.1)
 have D1:Hi (Blk V1 (W1.heap.size+1) 29 (Jw code at').toList):=h_ (by rw[<- hV];exact T.2.2.2.1)
 have B1:Hi (Below W1.heap.size W1 V1):=h_ (by rw[<- hV];exact T.2.2.2.2)
 replace hV:=h_ hV
 clear T
 go_wp2_with (first | (refine stR HZ1.u ?_) | (refine stR HZ2.u ?_))
 rw[hV.u]
 replace HB:=h_ (HB.u.trans (B1.u.mono HB.u.size));replace HS1:=h_ (HS1.u.mono B1.u)
 have hv1:W1.heap.size+1<V1.heap.size:=D1.u.lt
 have HB2:Hi (Below V1.heap.size V1 V1):=h_ (bR _ _)
 clear hV HZ1 HZ2 B1
 refine(HIm.u V1 HB.u).mono ?_
 rintro e W2 ⟨m',code',at2,v1,v2,v3,v4,P,hA',-,-,rfl,hm2,has,hb2⟩
 obtain⟨rfl,rfl,rfl⟩:=HA.u.uniq hA'
 obtain⟨A2,-,hsl2,rfl,rfl,rfl,rfl,hfa⟩:=hm2.sl
 have HM2:=h_ hm2;have HAs:=h_ has;have HS2:=h_ hsl2;have HFa:=h_ hfa
 replace HB2:=h_ (HB2.u.trans hb2)
 have hv2:V1.heap.size<=W2.heap.size:=hb2.size
 clear hA' hm2 has hsl2 hfa hb2
 have T:=qez W2 (Jb A2 m).toList (Jw code at').toList
 unfold uW at T
 have HZ1:=h_ T.1;have HZ2:=h_ T.2.1
 obtain⟨V2,hV⟩:∃V,(((W2.alloc (.cells Jc 27)).alloc (.cells J4 29)).setRow W2.heap.size (Jb A2 m)).setRow (W2.heap.size+1) (Jw code at')=V:=⟨_,rfl⟩
 have F2:Hi (Blk V2 W2.heap.size 27 (Jb A2 m).toList):=h_ (by rw[<- hV];exact T.2.2.1)
 have D2:Hi (Blk V2 (W2.heap.size+1) 29 (Jw code at').toList):=h_ (by rw[<- hV];exact T.2.2.2.1)
 have HKw:Hi (Below W2.heap.size W2 V2):=h_ (by rw[<- hV];exact T.2.2.2.2)
 replace hV:=h_ hV
 clear T
 go_upto_region 5 with (first | (refine stR HZ1.u ?_) | (refine stR HZ2.u ?_))
 rw[hV.u]
 replace HB2:=h_ (HB2.u.trans (HKw.u.mono hv2))
 clear hV HZ1 HZ2
 obtain⟨y0,y1,y2,y3⟩:=quad (F1.u.mono HB2.u (by omega));obtain⟨z0,z1,z2,z3⟩:=quad F2.u
 have HE:=h_ (q6b m A2 A V2 HSm.u (HS2.u.mono HKw.u) (HS1.u.mono HB2.u))
 unfold mV at HE
 go_wp2_with fail
 refine HE.u.mono ?_
 rintro e W3 ⟨rfl,hb⟩
 replace HB2:=mT HB2 hb;replace F2:=mB F2 hb;replace D2:=mB D2 hb;replace HKw:=mT HKw hb
 clear hb y0 y1 y2 y3 z0 z1 z2 z3 HE
 obtain⟨y0,y1⟩:=twin (D1.u.mono HB2.u (by omega));obtain⟨z0,z1⟩:=twin D2.u
 go_wp2_with fail
 refine(q4e code at' W3).mono ?_
 rintro e W4 ⟨rfl,hb⟩
 replace HB2:=mT HB2 hb;replace F2:=mB F2 hb;replace HKw:=mT HKw hb
 clear hb y0 y1 z0 z1
 obtain⟨z0,z1,z2,z3⟩:=quad F2.u
 have HMk:=h_ (q5a m A2 P V1.heap.size W2 W4 HSm.u HM2.u HS2.u HFa.u HAs.u HKw.u)
 unfold mV at HMk
 have hkb:=kNo_le (K:=kA m) HSm.u.s (nR _)
 have hkA:kA m<=6000000:=by have:=HSm.u.l;have:=HSm.u.p;have:=HSm.u.r;unfold kA;omega
 have hnf:=HSm.u.f
 obtain⟨q,hq⟩:=Nq (kNo (kA m) m.F m.F.length)
 rw[hq]at HMk hkb
 have hqb:q<=31463280000000:=by omega
 have HQe:=h_ hq
 clear hkb hkA hnf hq HM2 HS2 HFa HAs
 go_wp2_with fail
 refine HMk.u.mono ?_
 rintro e W5 ⟨X,hxl,hxk,rfl,hF,hTc⟩
 replace F2:=h_ (F2.u.tc hTc (by omega))
 replace HB2:=h_ (HB2.u.trans (hTc.keepB HB2.u.size fun b hb=>hb.1))
 have HHl:=h_ (q4o m A2 X W5 HSm.u hxl hxk hF)
 unfold mV at HHl
 rw[HQe.u]at HHl
 clear z0 z1 z2 z3 hxl hxk hF hTc HMk HKw
 obtain⟨z0,z1,z2,z3⟩:=quad F2.u
 have hq0:¬ (q:Int)<0:=by omega
 have hqq:((q:Int) != (q:Int))=false:=by simp
 go_wp2_with fail
 refine HHl.u.mono ?_
 rintro e W6 ⟨rfl,hb⟩
 replace HB2:=mT HB2 hb
 clear hb z0 z1 z2 z3 HHl F2 D2
 go_wp2_with fail
 refine(HIm.u W6 (HB.u.trans (HB2.u.mono HB.u.size))).mono ?_
 rintro e W7 ⟨m',code',at2,v1,v2,v3,v4,P,hA',-,-,rfl,hm3,-,hb2⟩
 obtain⟨rfl,rfl,rfl⟩:=HA.u.uniq hA'
 obtain⟨A3,-,hsl3,rfl,rfl,rfl,rfl,-⟩:=hm3.sl
 replace HB2:=mT HB2 hb2
 have HS3:=h_ hsl3
 clear hA' hm3 hsl3 hb2
 have T:=qez W7 (Jb A3 m).toList (Jw code at').toList
 unfold uW at T
 have HZ1:=h_ T.1;have HZ2:=h_ T.2.1
 obtain⟨V3,hV⟩:∃V,(((W7.alloc (.cells Jc 27)).alloc (.cells J4 29)).setRow W7.heap.size (Jb A3 m)).setRow (W7.heap.size+1) (Jw code at')=V:=⟨_,rfl⟩
 have F3:Hi (Blk V3 W7.heap.size 27 (Jb A3 m).toList):=h_ (by rw[<- hV];exact T.2.2.1)
 have D3:Hi (Blk V3 (W7.heap.size+1) 29 (Jw code at').toList):=h_ (by rw[<- hV];exact T.2.2.2.1)
 have HKw:Hi (Below W7.heap.size W7 V3):=h_ (by rw[<- hV];exact T.2.2.2.2)
 replace hV:=h_ hV
 clear T
 go_upto_region 16 with (first | (refine stR HZ1.u ?_) | (refine stR HZ2.u ?_))
 rw[hV.u]
 replace HB2:=h_ (HB2.u.trans (HKw.u.mono HB2.u.size))
 clear hV HZ1 HZ2
 obtain⟨y0,y1,y2,y3⟩:=quad (F1.u.mono HB2.u (by omega));obtain⟨z0,z1,z2,z3⟩:=quad F3.u
 have HE:=h_ (q6b m A3 A V3 HSm.u (HS3.u.mono HKw.u) (HS1.u.mono HB2.u))
 unfold mV at HE
 go_wp2_with fail
 refine HE.u.mono ?_
 rintro e W8 ⟨rfl,hb⟩
 replace HB2:=mT HB2 hb;replace F3:=mB F3 hb;replace D3:=mB D3 hb
 clear hb y0 y1 y2 y3 z0 z1 z2 z3 HE
 obtain⟨y0,y1⟩:=twin (D1.u.mono HB2.u (by omega));obtain⟨z0,z1⟩:=twin D3.u
 go_wp2_with fail
 refine(q4e code at' W8).mono ?_
 rintro e W9 ⟨rfl,hb⟩
 replace HB2:=mT HB2 hb;replace F3:=mB F3 hb
 clear hb y0 y1 z0 z1
 go_wp2_with fail
 go_ret
 exact⟨rfl,HB.u.trans (HB2.u.mono HB.u.size)⟩
end Go.Proofs.YtfmammdgehbjhaaGreatDoor
namespace Go.Proofs.YtfmammdgehbjhaaGreatDoor
open Go Go.RowKit Go.ChangeShapes Go.WideShapes Go.ChangeAt
section
variable {H:Type} {enc:TypeId × Value->H} {P:Program} {w:World} {base:Nat} {spare:Nat->Bool} {held:Bool}
end
theorem knobsV:ownKnob Tryz.prog.godebug=none:=by kernel_rfl
theorem laidOutV:laidOutB Tryz.prog=true:=by kernel_rfl
theorem gPow:Tryz.prog.globalNamed "internal/strconv.uint64pow10" = some 4:=by kernel_rfl
theorem gPowType:(Tryz.prog.globals[4]?).map (·.type)=some 218:=by kernel_rfl
theorem cellsPow:Tryz.prog.cellsOf 218=20:=by kernel_rfl
theorem cellsU64:Tryz.prog.cellsOf 201=1:=by kernel_rfl
theorem pow_eq:(Rows.laid_internal_strconv_uint64pow10:DataW Unit)=Lib.tabData .u64 Lib.pow10Tab:=by rfl
theorem pow_of {W:World}{rest:List (String × DataW Unit)}(h:laidMet Tryz.prog (("math/bits.deBruijn32tab",Rows.laid_math_bits_deBruijn32tab) :: ("math/bits.deBruijn64tab",Rows.laid_math_bits_deBruijn64tab) :: ("internal/strconv.uint64pow10",Rows.laid_internal_strconv_uint64pow10) :: rest) W):Pow W:=by
 have h2:=h.tail.tail
 rw[pow_eq]at h2
 exact Lib.tabIs_of_head gPow gPowType Tryz.underlying218 Tryz.underlying201 cellsU64 cellsPow h2
def laidT (k:IntKind)(zs:List Int):Obj->Obj:=fun
 | .cells _ t frozen=>.cells (zs.map (fun z=>Value.int k z)).toArray t frozen
 | o=>o
theorem star: "*" ++ "errors.errorString" = "*errors.errorString":=by decide
theorem rowES (u:TypeId)(h:Tryz.prog.typeName? 3 u=some "*errors.errorString"):u=229 :=
 typeName_ptr_named (nm:= "errors.errorString") (by rw[star];kernel_rfl) (by kernel_rfl) (by decide) u (by rw[star];exact h)
theorem gES:Tryz.prog.globalNamed "strconv.ErrSyntax" = some 5:=by kernel_rfl
theorem gER:Tryz.prog.globalNamed "strconv.ErrRange" = some 6:=by kernel_rfl
theorem gESType:(Tryz.prog.globals[5]?).map (·.type)=some 141:=by kernel_rfl
theorem gERType:(Tryz.prog.globals[6]?).map (·.type)=some 141:=by kernel_rfl
theorem cellsES:Tryz.prog.cellsOf 231=1:=by kernel_rfl
theorem cellsStr:Tryz.prog.cellsOf 9=1:=by kernel_rfl
theorem qg7 {W:World}{a b c:String × DataW Unit}{rest:List (String × DataW Unit)}(h:laidMet Tryz.prog (a :: b :: c :: ("strconv.ErrRange",Rows.laid_strconv_ErrRange) :: rest) W):ErrV "strconv.ErrRange" W:=by
 obtain⟨p,s,hv,-⟩:=laid_sentinel h.tail.tail.tail gER gERType Tryz.underlying141 rowES Tryz.underlying229 Tryz.underlying231 rfl rfl Tryz.underlying9 cellsES cellsStr
 exact⟨_,_,hv⟩
theorem qg8 {W:World}{a b c d:String × DataW Unit}{rest:List (String × DataW Unit)}(h:laidMet Tryz.prog (a :: b :: c :: d :: ("strconv.ErrSyntax",Rows.laid_strconv_ErrSyntax) :: rest) W):ErrV "strconv.ErrSyntax" W:=by
 obtain⟨p,s,hv,-⟩:=laid_sentinel h.tail.tail.tail.tail gES gESType Tryz.underlying141 rowES Tryz.underlying229 Tryz.underlying231 rfl rfl Tryz.underlying9 cellsES cellsStr
 exact⟨_,_,hv⟩
def laidE (b:Nat):Obj->Obj:=fun
 | .cells _ t frozen=>.cells #[.iface 229 (.pointer (some ⟨b,0,none⟩))] t frozen
 | o=>o
section
variable {H:Type} {enc:TypeId × Value->H} {P:Program} {w:World} {base:Nat} {held:Bool}
theorem q25 {enc:TypeId × Value->H}{sp:Nat->Bool}{fuel:Nat}{t e:TypeId}{n:Nat}{cs:List Value}{zs:List (List UInt8)}{p:List MemPlace}
 (ht:P.underlying t=some (.array n e)) (he:P.underlying e=some .string) (hce:P.cellsOf e=1) (hct:P.cellsOf t=n)
 (h:DataW.trod enc P w base sp held fuel t cs=some (.agg (zs.map fun z=>.lit (.string z)),p)):cs=zs.map fun z=>Value.string ⟨z.toArray⟩:=by
 cases fuel with
 | zero=>simp[DataW.trod]at h
 | succ fuel =>
  simp only[DataW.trod,ht,hce,hct,Nat.mul_one]at h;split at h
  . rename_i hl
    obtain⟨xs,hm,hx⟩:=Option.map_eq_some_iff.1 h;have hxs:xs.map (·.1)=zs.map fun z=>(DataW.lit (.string z):DataW H):=by
     have:=congrArg Prod.fst hx;simpa using this
    have hxl:xs.length=n:=(by simpa using Lib.mapM_length hm);have hzl:zs.length=n:=by
     have:=congrArg List.length hxs;simp at this;omega
    apply List.ext_getElem?;intro i;by_cases hi:i<n
    . obtain⟨b,hb,hf⟩:=Lib.mapM_at hm i i (by simp[hi])
      obtain⟨s,hc,rfl,_⟩:=DataW.trod_string he hf;have h1:cs[i]? = some (.string s):=by
       have:=congrArg (·[0]?) hc;simpa [List.getElem?_take,List.getElem?_drop] using this
      have h2:(xs.map (·.1))[i]? = some (DataW.lit (.string s.data.toList):DataW H):=(by simp[hb]);rw[hxs]at h2;simp only[Vs,Option.map_eq_some_iff,DataW.lit.injEq,Lit.string.injEq]at h2;obtain⟨z',hz',rfl⟩:=h2;simp[h1,hz']
    . rw[Od (by omega),Od (by simp;omega)]
  . cases h
end
theorem gWrd:Tryz.prog.globalNamed "loop.example/s0011/impl.operatorWords" = some 3:=by kernel_rfl
theorem gWrdType:(Tryz.prog.globals[3]?).map (·.type)=some 198:=by kernel_rfl
theorem cellsWrd:Tryz.prog.cellsOf 198=26:=by kernel_rfl
theorem wrd_eq:(Rows.laid_loop_example_s0011_impl_operatorWords:DataW Unit)=.agg ((wrdT.map (·.data.toList)).map fun z=>.lit (.string z)):=by rfl
theorem q5u {W:World}{rest:List (String × DataW Unit)}(h:laidMet Tryz.prog (("loop.example/s0011/impl.operatorWords",Rows.laid_loop_example_s0011_impl_operatorWords) :: rest) W):Wrds W:=by
 rw[wrd_eq]at h
 obtain⟨ps,⟨g',t',cs,fuel,p,q,hg',ht',hvar,hd,_,_⟩,_⟩:=h
 obtain rfl:=Vb (gWrd.symm.trans hg')
 obtain rfl:=Vb (gWrdType.symm.trans ht')
 have hc:=q25 Tryz.underlying198 Tryz.underlying9 cellsStr cellsWrd hd
 have hcell:∀k,k<26->W.cell? ⟨3,k,none⟩=some (.string (wrdT.getD k ⟨#[]⟩)):=fun k hk=>by
  have:=World.var?_cell gWrd hvar k;rw[this];have e:cs[k]? = cs.toList[k]?:=by simp
  rw[e,hc];have hl:wrdT.length=26:=rfl;simp only[List.map_map,Vs];rw[Yk (by omega)];simp[List.getD,List.getElem?_eq_getElem (show k<wrdT.length by omega)]
 refine⟨?_,hcell⟩
 apply Nat.lt_of_not_le
 intro h0
 have hz:=hcell 0 (by omega)
 have e:W.heap[(3:Nat)]? = none:=Oc h0
 simp[World.cell?,e]at hz
def laidS (zs:List ByteArray):Obj->Obj:=fun
 | .cells _ t frozen=>.cells (zs.map Value.string).toArray t frozen
 | o=>o
def tyL:List ByteArray:=[⟨#[]⟩,⟨#[105,110,116]⟩,⟨#[98,111,111,108]⟩,⟨#[116,101,120,116]⟩]
theorem gTy:Tryz.prog.globalNamed "loop.example/s0011/impl.typeWords" = some 1:=by kernel_rfl
theorem gTyType:(Tryz.prog.globals[1]?).map (·.type)=some 145:=by kernel_rfl
theorem cellsTy:Tryz.prog.cellsOf 145=4:=by kernel_rfl
theorem ty_eq:(Rows.laid_loop_example_s0011_impl_typeWords:DataW Unit)=.agg ((tyL.map (·.data.toList)).map fun z=>.lit (.string z)):=by rfl
theorem tyt_of {W:World}{rest:List (String × DataW Unit)}(h:laidMet Tryz.prog (("loop.example/s0011/impl.typeWords",Rows.laid_loop_example_s0011_impl_typeWords) :: rest) W):TyT W:=by
 rw[ty_eq]at h
 obtain⟨ps,⟨g',t',cs,fuel,p,q,hg',ht',hvar,hd,_,_⟩,_⟩:=h
 obtain rfl:=Vb (gTy.symm.trans hg')
 obtain rfl:=Vb (gTyType.symm.trans ht')
 have hc:=q25 Tryz.underlying145 Tryz.underlying9 cellsStr cellsTy hd
 have hcell:∀k,k<4->W.cell? ⟨1,k,none⟩=some (.string (tyL.getD k ⟨#[]⟩)):=fun k hk=>by
  have:=World.var?_cell gTy hvar k;rw[this];have e:cs[k]? = cs.toList[k]?:=by simp
  rw[e,hc];have hl:tyL.length=4:=rfl;simp only[List.map_map,Vs];rw[Yk (by omega)];simp[List.getD,List.getElem?_eq_getElem (show k<tyL.length by omega)]
 refine⟨?_,fun k h1 h3=>?_⟩
 . apply Nat.lt_of_not_le
   intro h0;have hz:=hcell 0 (by omega);have e:W.heap[(1:Nat)]? = none:=Oc h0;simp[World.cell?,e]at hz
 . rw[hcell k (by omega)]
   obtain rfl | rfl | rfl:k=1∨k=2∨k=3:=by omega
   . rfl
   . rfl
   . rfl
theorem gKd:Tryz.prog.globalNamed "loop.example/s0011/impl.kindLimits" = some 0:=by kernel_rfl
theorem gKdType:(Tryz.prog.globals[0]?).map (·.type)=some 56:=by kernel_rfl
theorem cellsKd:Tryz.prog.cellsOf 56=4:=by kernel_rfl
theorem cellsIn:Tryz.prog.cellsOf 3=1:=by kernel_rfl
theorem kd_eq:(Rows.laid_loop_example_s0011_impl_kindLimits:DataW Unit)=Lib.tabData .i64 [32,256,64,200]:=by rfl
theorem kdl_of {W:World}{rest:List (String × DataW Unit)}(h:laidMet Tryz.prog (("loop.example/s0011/impl.kindLimits",Rows.laid_loop_example_s0011_impl_kindLimits) :: rest) W):KdL W:=by
 rw[kd_eq]at h
 have ht:=Lib.tabIs_of_head gKd gKdType Tryz.underlying56 Tryz.underlying3 cellsIn cellsKd h
 have h0:=ht.cell gKd 0 (by decide)
 refine⟨?_,h0,ht.cell gKd 1 (by decide),ht.cell gKd 2 (by decide),ht.cell gKd 3 (by decide)⟩
 apply Nat.lt_of_not_le
 intro hn
 have e:W.heap[(0:Nat)]? = none:=Oc hn
 simp[World.cell?,e]at h0
theorem q3z {H:Type}{enc:TypeId × Value->H}{P:Program}{w:World}{sp:Nat->Bool}{a b c:String}{gs:List (DataW H)}{ps:List MemPlace}(h:DataW.TrodVars enc P w sp [a,b,c] gs ps):∃d1 d2 d3,gs=[d1,d2,d3]:=by
 match gs,h with
 | [],h=>simp[DataW.TrodVars]at h
 | d1 :: gs,h =>
  obtain⟨_,_,_,_,_,_,_,_,_,_,h,_⟩:=h
  match gs,h with
  | [],h=>simp[DataW.TrodVars]at h
  | d2 :: gs,h =>
   obtain⟨_,_,_,_,_,_,_,_,_,_,h,_⟩:=h
   match gs,h with
   | [],h=>simp[DataW.TrodVars]at h
   | d3 :: gs,h =>
    obtain⟨_,_,_,_,_,_,_,_,_,_,h,_⟩:=h;obtain⟨rfl,-⟩:=trodVars_none h;exact⟨d1,d2,d3,rfl⟩
theorem contractPf (H:Type)(enc:TypeId × Value->H)(W:World)(base:Nat)(args:Array Value)(ds gs:List (DataW H))(before:List MemPlace)
 (hval:∀(j:Nat) t v,Tryz.f3.params[j]? = some t->args[j]? = some v->Value.okWide Tryz.prog W .any base t v)
 (hW:DataW.Whole enc Tryz.prog Tryz.f3.params.toList Rows.fnExactParseFormSpec.vars false W args.toList ds gs before) (hg:Wrds W) (ht:Pow W) (q1:ErrV "strconv.ErrSyntax" W) (q2:ErrV "strconv.ErrRange" W) (hy:TyT W) (hkl:KdL W) :
 Calls Tryz.prog 3 args W fun e W'=>∃v,e=.returned v/\Rows.fnExactParseFormSpec.post enc Tryz.prog Tryz.f3 false true false false W args v W':=by
 have hW':=hW
 obtain⟨p,q,hA0,hV,rfl,hfz,hnd⟩:=hW
 have hA:DataW.TrodAll enc Tryz.prog W 0 (fun _=>true) true Tryz.f3.params.toList args.toList ds p:=hA0
 rw[Tryz.params3]at hA hval
 obtain⟨v0,d0,rfl,rfl,h0⟩:=trodAll_one hA
 obtain⟨d1,d2,d3,rfl⟩:=q3z hV
 have h0k:=h0
 clear hA0
 have hlt:∀x∈p,x.block<W.heap.size:=fun x hx=>by simpa using hW'.lt x (Of _ hx)
 have hargs:∀(W':World),Below W.heap.size W W'->DataW.Trod enc Tryz.prog W' 0 (fun b=>decide (b<W.heap.size)) true 9 v0 d0 p :=
  fun W' hn=>Below.trod laidOutV (by kernel_rfl) (Ze (by kernel_rfl)) h0k hn hlt
 obtain⟨s,rfl,rfl,rfl,hs⟩:=ChangeMaps.open_string Tryz.underlying9 (hval 0 9 v0 rfl rfl) h0
 refine(q58 s W hg ht q1 q2 hy hkl hs).mono fun e W' ⟨he,hn⟩=>?_
 subst he
 exact⟨_,rfl,⟨_,_,_,[],_,_,hW',trodAll_mk1 (shut_bool Tryz.underlying4 _),trodAll_mk1 (hargs _ hn),Below.trodVars laidOutV hn (by kernel_rfl) hV,hn.frame _,fun h=>by cases h⟩⟩
theorem witnessPf (os:Os){H:Type}(enc:TypeId × Value->H)(w0:World)(e:w0 = { World.holding Tryz.prog os ⟨#[.cells #[.string ⟨#[118,97,108,117,101,32,111,117,116,32,111,102,32,114,97,110,103,101]⟩] 231,.cells #[.string ⟨#[105,110,118,97,108,105,100,32,115,121,110,116,97,120]⟩] 231],#[],[]⟩ with heap:=((((((((World.holding Tryz.prog os ⟨#[.cells #[.string ⟨#[118,97,108,117,101,32,111,117,116,32,111,102,32,114,97,110,103,101]⟩] 231,.cells #[.string ⟨#[105,110,118,97,108,105,100,32,115,121,110,116,97,120]⟩] 231],#[],[]⟩).heap.modify 7 (laidT .u8 (Lib.deBruijn32tab.map (fun n=>((n:Nat):Int))))).modify 8 (laidT .u8 (Lib.deBruijn64tab.map (fun n=>((n:Nat):Int))))).modify 4 (laidT .u64 Lib.pow10Tab)).modify 6 (laidE (World.holding Tryz.prog default ⟨#[],#[],[]⟩).heap.size)).modify 5 (laidE ((World.holding Tryz.prog default ⟨#[],#[],[]⟩).heap.size+1))).modify 3 (laidS wrdT)).modify 0 (laidT .i64 [32,256,64,200])).modify 1 (laidS tyL) }) :
 ∃(w:World) (tape:Tape) (i:Input),w.os=os/\(w.forCall tape i).Shaped Tryz.checked.prog/\i.vars=[]/\Input.okWide Tryz.checked.prog (w.forCall tape i) .any w.heap.size 3 i /\
  (OpenSpec.ofChange Rows.fnExactParseFormSpec).preRow enc Tryz.checked.prog Tryz.f3 Rows.fnExactParseFormRow.domain false Rows.fnExactParseFormRow.laid (w.forCall tape i).memory i.args/\({ modest:=false }:Assume).holds Tryz.checked.prog (lone (Frame.enter Tryz.checked.prog 3 i.args .normal) [] (w.forCall tape i)):=by
 exact witness_row_at (enc:=enc) (C:=Tryz.checked) false w0 #[Yc] (by subst e;rfl) (by subst e;kernel_rfl) (by subst e;kernel_rfl) (by subst e;kernel_rfl)
  (OpenSpec.preRow_of_cond (x:=([.lit (.string [])],[Rows.laid_loop_example_s0011_impl_kindLimits,Rows.laid_loop_example_s0011_impl_typeWords,Rows.laid_loop_example_s0011_impl_operatorWords],MemPlace.row ⟨0,0,none⟩ 4++(MemPlace.row ⟨1,0,none⟩ 4++MemPlace.row ⟨3,0,none⟩ 26))) 8 (by subst e;kernel_rfl) (by subst e;kernel_rfl) (fun k hk=>by cases hk) (by subst e;kernel_rfl) (laidMet_of_run' 8 (by subst e;kernel_rfl) (by subst e;kernel_rfl)))
theorem liftedPf (os:Os)(started:os.Started)(H:Type)(enc:TypeId × Value->H)(F:Stop.Interp) :
 ReturnsInHanded {} Tryz.checked os 3 .any ((OpenSpec.ofChange Rows.fnExactParseFormSpec).preRow enc Tryz.prog Tryz.f3 Rows.fnExactParseFormRow.domain false Rows.fnExactParseFormRow.laid) (((OpenSpec.ofChange Rows.fnExactParseFormSpec).at F).post enc Tryz.prog Tryz.f3 false true false false):=by
 refine returnsInHanded_of_row (C:=Tryz.checked) (s:=OpenSpec.ofChange Rows.fnExactParseFormSpec) knobsV started (by kernel_rfl) Tryz.func3 (witnessPf os enc _ rfl) ?_
 intro W base args ds gs before hval hW _ _ _ hL _ _
 exact contractPf H enc W base args ds gs before hval hW (q5u hL.tail.tail.tail.tail.tail) (pow_of hL) (qg8 hL) (qg7 hL) (tyt_of hL.tail.tail.tail.tail.tail.tail.tail) (kdl_of hL.tail.tail.tail.tail.tail.tail)
theorem saidPf:Rows.FnExactParseFormSaid :=
 OpenClaim.holds_of_cond 3 Tryz.f3 rfl rfl rfl rfl rfl rfl rfl ⟨rfl,rfl,rfl,rfl,rfl⟩ rfl rfl rfl rfl rfl (by kernel_rfl) Tryz.func3 (by kernel_rfl)
  (Ze (by kernel_rfl)) (by unfold Func.isWrapper;first | (rw[Yn (by decide +kernel)];kernel_rfl) | (rw[Yi (by decide +kernel)];exact⟨rfl,rfl⟩))
  (fun os started H enc _ F=>by rw[OpenClaim.pre_eq_preRow];exact liftedPf os started H enc F)
theorem plainPf (f:FuncId)(fn:Func)(hf:Tryz.pinned.checked.prog.funcNamed "loop.example/s0011/laws.FnExactParseForm" = some f) (hfn:Tryz.pinned.checked.prog.funcs[f]? = some fn) :
 Rows.fnExactParseFormCard.stood.looks=Tryz.pinned.checked.prog.looks []/\∀(j:Nat) t,fn.params[j]? = some t->Tryz.pinned.checked.prog.wantsStandIn t=false:=by
 obtain rfl:f=3:=Vb ((show Tryz.prog.funcNamed "loop.example/s0011/laws.FnExactParseForm" = some 3 by kernel_rfl).symm.trans hf) |>.symm
 obtain rfl:fn=Tryz.f3:=(Vb (Tryz.func3.symm.trans hfn)).symm
 refine⟨by kernel_rfl,fun j t ht=>?_⟩
 rw[Tryz.params3]at ht
 obtain rfl:t=9:=by simpa using Array.mem_of_getElem? ht
 exact(show Tryz.prog.wantsStandIn 9=false by kernel_rfl)
theorem cardPf:Rows.FnExactParseFormCardSaid :=
 Claim7.holds_tied_plain_at .later [] _ _ _ _ saidPf (fun _ h=>by cases h) (by kernel_rfl) (fun _ h=>by cases h) fnExactParseForm_row_tie rfl ⟨rfl,rfl⟩ (by kernel_rfl) rfl plainPf (by kernel_rfl)
end Go.Proofs.YtfmammdgehbjhaaGreatDoor
