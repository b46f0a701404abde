import Derived.Test.YtgojgjlninakjaaGreatDoorW23
import Derived.Test.YtgojgjlninakjaaGreatDoorW28
import Derived.OpenShut
import Derived.Carry
import Derived.Deep.DeepHandedRow
import Derived.Deep.Grids
import Derived.Lib.LaidTab
import Derived.Lib.SmallJoins
import Derived.Test.YtgojgjlninakjaaGreatDoorCards
import Derived.Test.YtgojgjlninakjaaGreatDoorTie
import Derived.Stop.LaidErr
import Derived.Deep.Slices
import Derived.ChangeMaps5
set_option maxRecDepth 100000
set_option maxHeartbeats 64000000
namespace Go.Proofs.YtgojgjlninakjaaGreatDoor
open Go Go.RowKit Go.ChangeShapes Go.WideShapes Go.ChangeAt
section
variable {H:Type} {enc:TypeId × Value->H} {P:Program} {w:World} {base:Nat} {spare:Nat->Bool} {held:Bool}
theorem ql2 {t:TypeId}{n:Nat}{v:Value}{y:DataW H × List MemPlace}(ht:P.underlying t=some (.int .i64))(h:DataW.trod enc P w base spare held n t [v]=some y):∃x,v=.int .i64 x/\-9223372036854775808<=x/\x<=9223372036854775807:=by
 obtain⟨x,h1,h2⟩:=DataW.trod_int ht h
 have h3:=h2.2
 simp[Lit.wf,IntKind.min,IntKind.max,IntKind.signed,IntKind.bits]at h3
 exact⟨x,by simpa using h1,by omega,by omega⟩
theorem ql5 {t:TypeId}{n:Nat}{v:Value}{y:DataW H × List MemPlace}(ht:P.underlying t=some .string)(h:DataW.trod enc P w base spare held n t [v]=some y):∃s:ByteArray,v=.string s/\s.size<=9223372036854775807:=by
 obtain⟨s,h1,_,h2⟩:=DataW.trod_string ht h
 exact⟨s,by simpa using h1,h2⟩
end
theorem knobsV:ownKnob Tryz.prog.godebug=none:=by kernel_rfl
theorem laidOutV:laidOutB Tryz.prog=true:=by kernel_rfl
theorem cellsVal:Tryz.prog.cellsOf 174=3:=by kernel_rfl
theorem cellsStr:Tryz.prog.cellsOf 9=1:=by kernel_rfl
theorem gPow:Tryz.prog.globalNamed "internal/strconv.uint64pow10" = some 1:=by kernel_rfl
theorem gPowType:(Tryz.prog.globals[1]?).map (·.type)=some 283:=by kernel_rfl
theorem cellsPow:Tryz.prog.cellsOf 283=20:=by kernel_rfl
theorem cellsU64:Tryz.prog.cellsOf 255=1:=by kernel_rfl
theorem pow_eq:(Rows.laid_internal_strconv_uint64pow10:DataW Unit)=Lib.tabData .u64 Lib.pow10Tab:=by rfl
theorem pow_of {W:World}{rest:List (String × DataW Unit)}(h:laidMet Tryz.prog (("math/bits.deBruijn32tab",Rows.laid_math_bits_deBruijn32tab) :: ("math/bits.deBruijn64tab",Rows.laid_math_bits_deBruijn64tab) :: ("internal/strconv.uint64pow10",Rows.laid_internal_strconv_uint64pow10) :: rest) W):Pow W:=by
 have h2:=h.tail.tail
 rw[pow_eq]at h2
 exact Lib.tabIs_of_head gPow gPowType Tryz.underlying283 Tryz.underlying255 cellsU64 cellsPow h2
def laidT (k:IntKind)(zs:List Int):Obj->Obj:=fun
 | .cells _ t frozen=>.cells (zs.map (fun z=>Value.int k z)).toArray t frozen
 | o=>o
theorem cellsInt0:Tryz.prog.cellsOf 3=1:=by kernel_rfl
theorem cellsI640:Tryz.prog.cellsOf 2=1:=by kernel_rfl
theorem cellsNode:Tryz.prog.cellsOf 176=5:=by kernel_rfl
theorem qbb (b off j:Nat):(⟨b,off,none⟩:Addr).add j=⟨b,off+j,none⟩:=by simp[Addr.add]
section
variable {H:Type} {enc:TypeId × Value->H} {P:Program} {w:World} {base:Nat} {held:Bool}
def zeroNx:Nx:=⟨0,blankX,⟨#[]⟩⟩
theorem qcr {t e:TypeId}{f0 f1 f2 g0 g1 g2:Field}{n:Nat}{v:Value}{y:DataW H × List MemPlace}(ht:P.underlying t=some (.slice e))(he:P.underlying e=some (.struct #[f0,f1,f2]))(ce:P.cellsOf e=5)(o0:f0.offset=0)(o1:f1.offset=1)(o2:f2.offset=4)
 (hv:P.underlying f1.type=some (.struct #[g0,g1,g2])) (cv:P.cellsOf f1.type=3) (q0:g0.offset=0) (q1:g1.offset=1) (q2:g2.offset=2)
 (i0:P.underlying f0.type=some (.int .i64)) (i2:P.underlying f2.type=some .string) (c0:P.cellsOf f0.type=1) (c2:P.cellsOf f2.type=1)
 (j0:P.underlying g0.type=some (.int .i64)) (j1:P.underlying g1.type=some (.int .i64)) (j2:P.underlying g2.type=some .string) (d0:P.cellsOf g0.type=1) (d1:P.cellsOf g1.type=1) (d2:P.cellsOf g2.type=1) (h:DataW.trod enc P w base (fun _=>true) held n t [v]=some y)
 (hlt:∀x∈y.2,x.block<w.heap.size):∃a len cap f,v=.slice a len cap/\len<=9223372036854775807/\Nods w a len f/\(∀i,i<len->Fit (f i)):=by
 rcases Deep.open_slice ht h with ⟨h0,-⟩ | ⟨a,len,cap,m,k,D,Pl,h0,-,hl,hm,hmm,rfl,hx⟩
 . exact⟨none,0,0,fun _=>zeroNx,by simpa using h0,by omega,fun k hk=>absurd hk (nL _),fun k hk=>absurd hk (nL _)⟩
 . simp only[if_true]at hmm
   subst hmm;have each:∀i,i<m->∃u:Nx,w.cell? (a.add (i*5))=some (J6 u.op)/\w.cell? (a.add (i*5+1))=some (J6 u.v.k)/\w.cell? (a.add (i*5+2))=some (J6 u.v.n)/\w.cell? (a.add (i*5+3))=some (.string u.v.s)/\w.cell? (a.add (i*5+4))=some (.string u.nm)/\Fit u:=by
    intro i hi;obtain⟨cs',h1,h2⟩:=hx i hi;rw[ce]at h1;obtain⟨_,hlen,hcell⟩:=World.cells?_some h1;obtain⟨xs,k',hk,hxy,_,hxl,hf⟩:=DataW.trod_struct he h2
    match xs,hxl,cs',hlen with
    | [y0,y1,y2],_,[v0,v1,v2,v3,v4],_ =>
     have g0':=hf 0 f0 rfl;have g1':=hf 1 f1 rfl;have g2':=hf 2 f2 rfl;simp[o0,o1,o2,c0,c2,cv]at g0' g1' g2';have e0:=hcell 0 (by omega);have e1:=hcell 1 (by omega);have e2:=hcell 2 (by omega);have e3:=hcell 3 (by omega);have e4:=hcell 4 (by omega);rw[Deep.add_add]at e0 e1 e2 e3 e4;obtain⟨xs',k'',hk',hxy',_,hxl',hf'⟩:=DataW.trod_struct hv g1'
     match xs',hxl' with
     | [z0,z1,z2],_ =>
      have r0:=hf' 0 g0 rfl;have r1:=hf' 1 g1 rfl;have r2:=hf' 2 g2 rfl;simp[q0,q1,q2,d0,d1,d2]at r0 r1 r2;obtain⟨op,rfl,-,-⟩:=ql2 i0 g0';obtain⟨kind,rfl,-,-⟩:=ql2 j0 r0;obtain⟨num,rfl,n0,n1⟩:=ql2 j1 r1;obtain⟨s,rfl,hs⟩:=ql5 j2 r2;obtain⟨nm,rfl,hn⟩:=ql5 i2 g2';exact⟨⟨op,⟨kind,num,s⟩,nm⟩,by simpa using e0,by simpa using e1,by simpa using e2,by simpa using e3,by simpa using e4,hs,hn,n0,n1⟩
   obtain⟨f,hf⟩:∃f:Nat->Nx,∀i,i<m->w.cell? (a.add (i*5))=some (J6 (f i).op)/\w.cell? (a.add (i*5+1))=some (J6 (f i).v.k)/\w.cell? (a.add (i*5+2))=some (J6 (f i).v.n)/\w.cell? (a.add (i*5+3))=some (.string (f i).v.s)/\w.cell? (a.add (i*5+4))=some (.string (f i).nm)/\Fit (f i):=by
    classical
    exact⟨fun i=>if h:i<m then (each i h).choose else zeroNx,fun i hi=>by simp only[dif_pos hi];exact(each i hi).choose_spec⟩
   refine⟨some a,len,m,f,by simpa using h0,by have:maxLen=9223372036854775807:=rfl;omega,fun i hi=>?_,fun i hi=>(hf i (by omega)).2.2.2.2.2⟩;obtain⟨x0,x1,x2,x3,x4,-⟩:=hf i (by omega);obtain⟨b,off,spot⟩:=a;have hs:spot=none:=by simpa [Addr.add] using World.cell?_spot (hf 0 (by omega)).1
   subst hs;rw[qbb]at x0 x1 x2 x3 x4;refine⟨b,off,rfl,hlt (.cell b (off+i*5)) ?_,x0,x1,x2,x3,x4⟩;rw[ce];exact Vf _ (MemPlace.mem_row.2 ⟨i*5,by omega,by simp⟩)
theorem q2c {enc:TypeId × Value->H}{sp:Nat->Bool}{fuel:Nat}{t e:TypeId}{n:Nat}{cs:List Value}{zs:List (List UInt8)}{p:List MemPlace}
 (ht:P.underlying t=some (.array n e)) (he:P.underlying e=some .string) (hce:P.cellsOf e=1) (hct:P.cellsOf t=n)
 (h:DataW.trod enc P w base sp held fuel t cs=some (.agg (zs.map fun z=>.lit (.string z)),p)):cs=zs.map fun z=>Value.string ⟨z.toArray⟩:=by
 cases fuel with
 | zero=>simp[DataW.trod]at h
 | succ fuel =>
  simp only[DataW.trod,ht,hce,hct,Nat.mul_one]at h;split at h
  . rename_i hl
    obtain⟨xs,hm,hx⟩:=Option.map_eq_some_iff.1 h;have hxs:xs.map (·.1)=zs.map fun z=>(DataW.lit (.string z):DataW H):=by
     have:=congrArg Prod.fst hx;simpa using this
    have hxl:xs.length=n:=(by simpa using Lib.mapM_length hm);have hzl:zs.length=n:=by
     have:=congrArg List.length hxs;simp at this;omega
    apply List.ext_getElem?;intro i;by_cases hi:i<n
    . obtain⟨b,hb,hf⟩:=Lib.mapM_at hm i i (by simp[hi])
      obtain⟨s,hc,rfl,_⟩:=DataW.trod_string he hf;have h1:cs[i]? = some (.string s):=by
       have:=congrArg (·[0]?) hc;simpa [List.getElem?_take,List.getElem?_drop] using this
      have h2:(xs.map (·.1))[i]? = some (DataW.lit (.string s.data.toList):DataW H):=(by simp[hb]);rw[hxs]at h2;simp only[Zg,Option.map_eq_some_iff,DataW.lit.injEq,Lit.string.injEq]at h2;obtain⟨z',hz',rfl⟩:=h2;simp[h1,hz']
    . rw[Vb (by omega),Vb (by simp;omega)]
  . cases h
end
theorem gWrd:Tryz.prog.globalNamed "loop.example/s0011/impl.operatorWords" = some 9:=by kernel_rfl
theorem gWrdType:(Tryz.prog.globals[9]?).map (·.type)=some 329:=by kernel_rfl
theorem cellsWrd:Tryz.prog.cellsOf 329=26:=by kernel_rfl
theorem wrd_eq:(Rows.laid_loop_example_s0011_impl_operatorWords:DataW Unit)=.agg ((wrdT.map (·.data.toList)).map fun z=>.lit (.string z)):=by rfl
theorem q7s {W:World}{rest:List (String × DataW Unit)}(h:laidMet Tryz.prog (("loop.example/s0011/impl.operatorWords",Rows.laid_loop_example_s0011_impl_operatorWords) :: rest) W):Wrds W:=by
 rw[wrd_eq]at h
 obtain⟨ps,⟨g',t',cs,fuel,p,q,hg',ht',hvar,hd,_,_⟩,_⟩:=h
 obtain rfl:=Od (gWrd.symm.trans hg')
 obtain rfl:=Od (gWrdType.symm.trans ht')
 have hc:=q2c Tryz.underlying329 Tryz.underlying9 cellsStr cellsWrd hd
 have hcell:∀k,k<26->W.cell? ⟨9,k,none⟩=some (.string (wrdT.getD k ⟨#[]⟩)):=fun k hk=>by
  have:=World.var?_cell gWrd hvar k;rw[this];have e:cs[k]? = cs.toList[k]?:=by simp
  rw[e,hc];have hl:wrdT.length=26:=rfl;simp only[List.map_map,Zg];rw[Yc (by omega)];simp[List.getD,List.getElem?_eq_getElem (show k<wrdT.length by omega)]
 refine⟨?_,hcell⟩
 apply V9
 intro h0
 have hz:=hcell 0 (by omega)
 have e:W.heap[(9:Nat)]? = none:=Ob h0
 simp[World.cell?,e]at hz
def laidS (zs:List ByteArray):Obj->Obj:=fun
 | .cells _ t frozen=>.cells (zs.map Value.string).toArray t frozen
 | o=>o
end Go.Proofs.YtgojgjlninakjaaGreatDoor
namespace Go.Proofs.YtgojgjlninakjaaGreatDoor
open Go Go.RowKit
structure Cx where
 v:Vx
 rel:Bool
 ok:Bool
 must:Bool
def cv (n:Cx):Value:=.agg #[.int .i64 n.v.k,.int .i64 n.v.n,.string n.v.s,.bool n.rel,.bool n.ok,.bool n.must]
end Go.Proofs.YtgojgjlninakjaaGreatDoor
namespace Go.Proofs.YtgojgjlninakjaaGreatDoor
open Go Go.RowKit Go.ChangeShapes Go.WideShapes Go.ChangeAt
theorem star: "*"++ "errors.errorString" = "*errors.errorString":=by decide
theorem rowES (u:TypeId)(h:Tryz.prog.typeName? 3 u=some "*errors.errorString"):u=320 :=
 typeName_ptr_named (nm:= "errors.errorString") (by rw[star];kernel_rfl) (by kernel_rfl) (by decide) u (by rw[star];exact h)
theorem gES:Tryz.prog.globalNamed "strconv.ErrSyntax" = some 7:=by kernel_rfl
theorem gER:Tryz.prog.globalNamed "strconv.ErrRange" = some 8:=by kernel_rfl
theorem gESType:(Tryz.prog.globals[7]?).map (·.type)=some 261:=by kernel_rfl
theorem gERType:(Tryz.prog.globals[8]?).map (·.type)=some 261:=by kernel_rfl
theorem cellsES:Tryz.prog.cellsOf 322=1:=by kernel_rfl
theorem qks {W:World}{a b c:String × DataW Unit}{rest:List (String × DataW Unit)}(h:laidMet Tryz.prog (a :: b :: c :: ("strconv.ErrRange",Rows.laid_strconv_ErrRange) :: rest) W):ErrV "strconv.ErrRange" W:=by
 obtain⟨p,s,hv,-⟩:=laid_sentinel h.tail.tail.tail gER gERType Tryz.underlying261 rowES Tryz.underlying320 Tryz.underlying322 rfl rfl Tryz.underlying9 cellsES cellsStr
 exact⟨_,_,hv⟩
theorem qkt {W:World}{a b c d:String × DataW Unit}{rest:List (String × DataW Unit)}(h:laidMet Tryz.prog (a :: b :: c :: d :: ("strconv.ErrSyntax",Rows.laid_strconv_ErrSyntax) :: rest) W):ErrV "strconv.ErrSyntax" W:=by
 obtain⟨p,s,hv,-⟩:=laid_sentinel h.tail.tail.tail.tail gES gESType Tryz.underlying261 rowES Tryz.underlying320 Tryz.underlying322 rfl rfl Tryz.underlying9 cellsES cellsStr
 exact⟨_,_,hv⟩
def laidE (b:Nat):Obj->Obj:=fun
 | .cells _ t frozen=>.cells #[.iface 320 (.pointer (some ⟨b,0,none⟩))] t frozen
 | o=>o
end Go.Proofs.YtgojgjlninakjaaGreatDoor
namespace Go.Proofs.YtgojgjlninakjaaGreatDoor
open Go Go.RowKit
def mtF:Nat->Nat->ByteArray->ByteArray
 | 0,_,t=>t
 | f+1,q,t=>if q=0 then t else mtF f (q / 10) (Ga (UInt8.ofNat (48+(q:Int) % 10).toNat)++t)
def mkT (k:Nat):ByteArray:=⟨#[109]⟩++mtF k k ⟨#[]⟩
theorem qhb (f:Nat)(t:ByteArray):mtF f 0 t=t:=by cases f <;> rfl
theorem q6s (k:Nat)(w:World)(h1:0<k)(hk:k<=4611686018427387904):Calls Tryz.prog 36 #[J6 k] w fun r w'=>r=.returned (.string (mkT k))/\Below w.heap.size w w':=by
 have h0':¬ (k:Int)<=0:=by omega
 have hk':(k:Int)<=4611686018427387904:=by omega
 go_enter Tryz.func36,Tryz.ntmps36
 go_wp2_with fail
 go_loopw [0,3] (fun v s wr=>∃(q:Nat) (t:ByteArray),v=J6 q/\s=.string t/\t.size+q<=4611686018427387904/\(∃f,q<=f/\mtF k k ⟨#[]⟩=mtF f q t)/\Below w.heap.size w wr) (fun v _ _=>(intOf v).toNat)
 case atStart=>exact⟨k,_,rfl,rfl,by show 0+k<=_;omega,⟨k,nR _,rfl⟩,bR _ _⟩
 case round =>
  clear h1 h0' hk' hk;obtain⟨q,t,rfl,rfl,hq,⟨f,hf,hm⟩,hb⟩:=hrel;have HB:=h_ hb;clear hb;have hts:t.size<=4611686018427387904:=by omega
  have hts':(t.size:Int)<=4611686018427387904:=by omega
  by_cases h0:q=0
  . subst h0
    have HM:Hi (mkT k=⟨#[109]⟩++t):=h_ (by unfold mkT;rw[hm,qhb]);clear hm hf;go_wp2_with fail;go_ret;rw[HM.u];exact⟨rfl,HB.u⟩
  . have h0':(0:Int)<q:=by omega
    have hq':(q:Int)<=4611686018427387904:=(by omega);obtain⟨s1,hs1⟩:=Nq (Ga (UInt8.ofNat (48+(q:Int) % 10).toNat));have hz1:s1.size=1:=(by rw[<- hs1];rfl);have HM:Hi (∃f,q / 10<=f/\mtF k k ⟨#[]⟩=mtF f (q / 10) (s1++t)):=h_ (by
     obtain⟨f',rfl⟩:∃f',f=f'+1:=⟨f - 1,by omega⟩;refine⟨f',by omega,?_⟩;rw[hm,<- hs1];show(if q=0 then t else _)=_;rw[Yn h0])
    have hcv:=qfp wr (48+(q:Int) % 10);rw[hs1]at hcv;clear hs1 hm hf;have HB2:=h_ (HB.u.alloc HB.u.size (.cells #[.int .u8 (48+(q:Int) % 10)] 5));go_wp2_with fail;clear hcv;go_roundw
    case rel=>exact⟨q / 10,_,by go_num,rfl,by rw[Yi];omega,HM.u,HB2.u⟩
    case measure=>simp[intOf];omega
theorem Bk.cell_eq {w:World}{g:Nat}{t:TypeId}{n j:Nat}(h:Bk w g t n)(hj:j<n)(v:Value):(w.setCell ⟨g,j,none⟩ v).cell? ⟨g,j,none⟩=some v:=h.elim fun cs h=>by
 rw[(h.1.set j v).cell j,Ov (by rw[h.2];exact hj)]
def Pre (w:World)(g:Nat)(xs:List Value):Prop:=∀p,p<xs.length->w.cell? ⟨g,p,none⟩=xs[p]?
theorem Pre.mono {w w':World}{g B:Nat}{xs:List Value}(h:Pre w g xs)(hb:Below B w w')(hg:g<B):Pre w' g xs:=fun p hp=>(hb.cell (p:=⟨g,p,none⟩) hg).trans (h p hp)
theorem Pre.set {w:World}{g:Nat}{t:TypeId}{n j:Nat}{xs:List Value}(h:Pre w g xs)(hb:Bk w g t n)(hj:xs.length=j)(hl:j<n)(v:Value):Pre (w.setCell ⟨g,j,none⟩ v) g (xs++[v]):=fun p hp=>by
 rw[Yd,List.length_singleton]at hp
 by_cases e:p=j
 . subst e
   rw[hb.cell_eq hl,List.getElem?_append_right (by omega),hj,Nat.sub_self];rfl
 . rw[hb.cell_ne (fun e'=>e e'.symm),h p (by omega),Vm (by omega)]
def meC (q:Nat):List Value:=[.int .i64 ((q:Int)),.int .i64 ((q:Int)+1),.int .i64 ((q:Int)+1+1),.int .i64 ((q:Int)+1+1+1),.string (mkT (q+1+1+1+1))]
def meL (K:Nat):Nat->List Value
 | 0=>[]
 | i+1=>meL K i++meC (K+i*5)
theorem qmd (K n:Nat):(meL K n).length=n*5:=by
 induction n with
 | zero=>rfl
 | succ n ih=>show(meL K n++meC _).length=_;rw[Yd,ih];show _+5=_;omega
theorem qmc {K n i p:Nat}(hi:i<n)(hp:p<5):(meL K n)[i*5+p]? = (meC (K+i*5))[p]?:=by
 induction n with
 | zero=>omega
 | succ n ih =>
  show(meL K n++meC _)[_]? = _;by_cases h:i<n
  . rw[Vm (by rw[qmd];omega),ih h]
  . obtain rfl:i=n:=by omega
    rw[List.getElem?_append_right (by rw[qmd];omega),qmd,show i*5+p - i*5=p by omega]
theorem q2v (a:Option Addr)(K g n N c lo hi:Nat)(w:World)(hK:0<K)(hK2:K<=1152921504606846976)(hn:n<=2000000)(hN:n*5<=N)(hl:lo<=g)(hh:g<hi)(ho:0<n->a=some ⟨g,0,none⟩/\Bk w g 52 N) :
 Calls Tryz.prog 11 #[.slice a n c,J6 (K:Nat)] w fun r w'=>r=.returned (J6 ((K+n*5:Nat):Int))/\(0<n->Pre w' g (meL K n))/\MkL lo hi w w':=by
 have HBk:=h_ ho
 clear ho
 go_enter Tryz.func11,Tryz.ntmps11
 go_wp2_with fail
 go_loopw [1,5] (fun q v wr=>∃i:Nat,i<=n/\v=J6 i/\q=J6 ((K+i*5:Nat):Int)/\(0<n->Pre wr g (meL K i))/\MkL lo hi w wr) (fun _ v _=>n - (intOf v).toNat)
 case atStart=>exact⟨0,nZ _,rfl,by simp,fun _ p hp=>absurd hp (nL _),MkL.refl _ _ _⟩
 case round =>
  obtain⟨i,hi',rfl,rfl,hp,hm⟩:=hrel;have HM:=h_ hm;have HP:=h_ hp;clear hp;by_cases hlt:i<n
  . have hlt':(i:Int)<n:=by omega
    have HBr:=h_ (hm.bk _ _ _ (HBk.u (by omega)).2);obtain rfl:=(HBk.u (by omega)).1;have HPr:=h_ (HP.u (by omega));obtain⟨q,hq⟩:=Nq (K+i*5);have hq':(q:Int)+7<4611686018427387904:=(by omega);have hq1:0<q:=(by omega);have hln:=qmd K i;have HNx:Hi (meL K (i+1)=meL K i++meC q):=h_ (by show meL K i++meC (K+i*5)=_;rw[hq]);rw[hq];clear hm;obtain⟨u0,c0⟩:=HBr.u.cell (show i*5<N by omega);have f0:=HBr.u.free (i*5);obtain⟨u1,c1⟩:=HBr.u.cell (show i*5+1<N by omega);have f1:=HBr.u.free (i*5+1);obtain⟨u2,c2⟩:=HBr.u.cell (show i*5+2<N by omega);have f2:=HBr.u.free (i*5+2);obtain⟨u3,c3⟩:=HBr.u.cell (show i*5+3<N by omega);have f3:=HBr.u.free (i*5+3);replace HM:=h_ (((((((HM.u.trans (MkL.set (i*5) (J6 ((q:Int))) hl hh))).trans (MkL.set (i*5+1) (J6 ((q:Int)+1)) hl hh))).trans (MkL.set (i*5+2) (J6 ((q:Int)+1+1)) hl hh))).trans (MkL.set (i*5+3) (J6 ((q:Int)+1+1+1)) hl hh));replace HPr:=h_ (((((((HPr.u.set HBr.u (j:=i*5) (by simp[hln]) (by omega) (J6 ((q:Int))))).set ((HBr.u.set (i*5) (J6 ((q:Int))))) (j:=i*5+1) (by simp[hln]) (by omega) (J6 ((q:Int)+1)))).set ((((HBr.u.set (i*5) (J6 ((q:Int))))).set (i*5+1) (J6 ((q:Int)+1)))) (j:=i*5+2) (by simp[hln]) (by omega) (J6 ((q:Int)+1+1)))).set ((((((HBr.u.set (i*5) (J6 ((q:Int))))).set (i*5+1) (J6 ((q:Int)+1)))).set (i*5+2) (J6 ((q:Int)+1+1)))) (j:=i*5+3) (by simp[hln]) (by omega) (J6 ((q:Int)+1+1+1)));replace HBr:=h_ (((((((HBr.u.set (i*5) (J6 ((q:Int))))).set (i*5+1) (J6 ((q:Int)+1)))).set (i*5+2) (J6 ((q:Int)+1+1)))).set (i*5+3) (J6 ((q:Int)+1+1+1)));go_wp2_with fail;obtain⟨W4,hW4⟩:∃W,((((wr).setCell ⟨g,i*5,none⟩ (J6 ((q:Int)))).setCell ⟨g,i*5+1,none⟩ (J6 ((q:Int)+1))).setCell ⟨g,i*5+2,none⟩ (J6 ((q:Int)+1+1))).setCell ⟨g,i*5+3,none⟩ (J6 ((q:Int)+1+1+1))=W:=⟨_,rfl⟩;rw[hW4]at HM HBr HPr⊢;clear hW4 c0 f0 c1 f1 c2 f2 c3 f3;have HT:=h_ (q6s (q+1+1+1+1) W4 (by omega) (by omega));simp only[Og,Zq]at HT;refine HT.u.mono ?_;rintro e X4 ⟨rfl,hb⟩;obtain⟨s4,hs⟩:∃s,mkT (q+1+1+1+1)=s:=⟨_,rfl⟩;rw[hs];have HS4:=h_ hs;replace HPr:=h_ (HPr.u.mono hb HBr.u.lt);replace HBr:=h_ (HBr.u.mono hb HBr.u.lt);replace HM:=h_ (HM.u.trans (MkL.below hb));clear hb hs HT;obtain⟨u4,c4⟩:=HBr.u.cell (show i*5+4<N by omega);have f4:=HBr.u.free (i*5+4);replace HM:=h_ (HM.u.trans (MkL.set (i*5+4) (.string s4) hl hh));replace HPr:=h_ (HPr.u.set HBr.u (j:=i*5+4) (by simp[hln]) (by omega) (.string s4));replace HBr:=h_ (HBr.u.set (i*5+4) (.string s4));have HPe:Hi (Pre _ g (meL K (i+1))):=h_ (by
     have h:=HPr.u;rw[HNx.u];unfold meC;rw[HS4.u];simpa using h)
    go_wp2_with fail;go_roundw
    case rel=>first | exact⟨i+1,by omega,by go_num,by rw[show K+(i+1)*5=q+5 by omega];go_num,fun _=>HPe.u,HM.u⟩ | ((repeat apply Exists.intro);exact⟨⟨i+1,by omega,by go_num,by rw[show K+(i+1)*5=q+5 by omega];go_num,fun _=>HPe.u,HM.u⟩,rfl⟩)
    case measure=>simp[intOf];omega
  . obtain rfl:i=n:=by omega
    have hlt':¬ (i:Int)<(i:Int):=(by omega);obtain⟨q,hq⟩:=Nq (K+i*5);rw[hq];clear hm;go_wp2_with fail;go_ret;exact⟨rfl,HP.u,HM.u⟩
theorem q2e (a:Option Addr)(K g n c:Nat)(w:World)(hK:0<K)(hK2:K<=1152921504606846976)(hn:n<=2000000)(ho:0<n->a=some ⟨g,0,none⟩/\g<w.heap.size/\Pre w g (meL K n)) :
 Calls Tryz.prog 12 #[.slice a n c,J6 (K:Nat)] w fun r w'=>r=.returned (J6 ((K+n*5:Nat):Int))/\Below w.heap.size w w':=by
 have HO:=h_ ho
 clear ho
 go_enter Tryz.func12,Tryz.ntmps12
 go_wp2_with fail
 go_loopw [1,5] (fun q v wr=>∃(i:Nat),i<=n/\v=J6 i/\q=J6 ((K+i*5:Nat):Int)/\Below w.heap.size w wr) (fun _ v _=>n - (intOf v).toNat)
 case atStart=>exact⟨0,nZ _,rfl,by simp,bR _ _⟩
 case round =>
  obtain⟨i,hil,rfl,rfl,hb⟩:=hrel;have HB0:=h_ hb;by_cases hlt:i<n
  . have hlt':(i:Int)<n:=by omega
    obtain⟨rfl,hg,hp⟩:=HO.u (by omega);obtain⟨q,hq⟩:=Nq (K+i*5);have hq':(q:Int)+7<4611686018427387904:=(by omega);have hq1:0<q:=(by omega);have HC:Hi (∀W,Below w.heap.size w W->∀p,p<5->W.cell? ⟨g,i*5+p,none⟩=(meC q)[p]?):=h_ fun W h p hp7=>by
     rw[<- hq,<- qmc hlt hp7];exact(hp.mono h hg) (i*5+p) (by rw[qmd];omega)
    have HQ:=h_ hq;rw[hq];clear hp hq;clear hb;have c0:wr.cell? ⟨g,i*5,none⟩=some (J6 ((q:Int))):=(by have h:=HC.u wr HB0.u 0 (by omega);exact h);have c1:wr.cell? ⟨g,i*5+1,none⟩=some (J6 ((q:Int)+1)):=(by have h:=HC.u wr HB0.u 1 (by omega);exact h);have c2:wr.cell? ⟨g,i*5+2,none⟩=some (J6 ((q:Int)+1+1)):=(by have h:=HC.u wr HB0.u 2 (by omega);exact h);have c3:wr.cell? ⟨g,i*5+3,none⟩=some (J6 ((q:Int)+1+1+1)):=(by have h:=HC.u wr HB0.u 3 (by omega);exact h);have cs:wr.drew.cell? ⟨g,i*5+4,none⟩=some (.string (mkT (q+1+1+1+1))):=(by have h:=HC.u wr HB0.u 4 (by omega);exact h);have HT1:=h_ (q6s (q+1+1+1+1) wr.drew (by omega) (by omega))
    try simp only[Og,Zq]at HT1
    obtain⟨st,hst⟩:=Nq (mkT (q+1+1+1+1));rw[hst]at HT1 cs;go_wp2_with fail;refine wp_region_held_drew (S:=fun w'=>w'.cell? ⟨g,i*5+4,none⟩=some (Value.string st)) (by kernel_rfl) cs (fun zz=>?_);refine tj 0 50 (.slice (some ⟨g,0,none⟩) n c) zz ?_;refine tj 1 51 (J6 i) zz ?_;refine tj 2 52 (.pointer (some ⟨g,i*5,none⟩)) zz ?_;refine tj 3 53 (.pointer (some ⟨g,i*5+2,none⟩)) zz ?_;simp only[sX,sY,sZ];refine tj 4 54 (.pointer (some ⟨g,i*5+4,none⟩)) zz ?_;refine tj 5 55 (.string st) zz ?_ (hy:=fun w hS=>by simp[execOp,go_sem,hS]);refine tj 6 56 (J6 ((q:Int)+1+1+1+1)) zz ?_;simp only[sX,sY,sZ];refine callY (i:=7) (f:=36) (args:=#[J6 ((q:Int)+1+1+1+1)]) (R:=fun v wz=>v=.string st/\Below wr.heap.size wr wz) 57 rfl rfl (by rfl) (by kernel_rfl) (by simp[execOp,go_sem]) (HT1.u.mono fun e w6 ⟨he,hb⟩=>⟨_,he,rfl,q29 hb⟩) ?_;rintro v V1 ⟨rfl,hb2⟩;have HB1:=mT HB0 hb2;clear hb2 cs HT1 c0 c1 c2 c3;have cs:V1.cell? ⟨g,i*5+4,none⟩=some (.string st):=(by(rw[<- hst];have h:=HC.u V1 HB1.u 4 (by omega);exact h));refine⟨cs,?_⟩;replace zz:=cs;simp only[sX,sY,sZ];refine tj 8 58 (.bool false) zz ?_ (hy:=fun w hS=>by simp[execOp,go_sem]);simp only[sX,sY,sZ];refine wpAnyH_done (by kernel_rfl) ?_ _;clear zz cs hst;go_wp2_with fail;go_roundw
    case rel=>first | exact⟨i+1,by omega,by go_num,by rw[show K+(i+1)*5=q+1+1+1+1+1 by have:=HQ.u;omega];go_num,HB1.u⟩ | ((repeat apply Exists.intro);exact⟨⟨i+1,by omega,by go_num,by rw[show K+(i+1)*5=q+1+1+1+1+1 by have:=HQ.u;omega];go_num,HB1.u⟩,rfl⟩)
    case measure=>simp[intOf];omega
  . obtain rfl:i=n:=by omega
    have hlt':¬ (i:Int)<(i:Int):=(by omega);obtain⟨q,hq⟩:=Nq (K+i*5);rw[hq];clear hb;go_wp2_with fail;go_ret;exact⟨by first | rfl | (rw[show(K:Int)+i=(q:Int) by omega];rfl),HB0.u⟩
structure Ex where
 r:Int
 f:Int
 v:Vx
def ev (n:Ex):Value:=.agg #[.int .i64 n.r,.int .i64 n.f,.int .i64 n.v.k,.int .i64 n.v.n,.string n.v.s]
def EEnt (w:World)(b o:Nat)(n:Ex):Prop:=b<w.heap.size/\w.cell? ⟨b,o,none⟩=some (.int .i64 n.r)/\w.cell? ⟨b,o+1,none⟩=some (.int .i64 n.f)/\w.cell? ⟨b,o+2,none⟩=some (.int .i64 n.v.k)/\w.cell? ⟨b,o+3,none⟩=some (.int .i64 n.v.n)/\w.cell? ⟨b,o+4,none⟩=some (.string n.v.s)
theorem EEnt.mono {w w':World}{b o:Nat}{n:Ex}(h:EEnt w b o n)(hb:Below w.heap.size w w'):EEnt w' b o n :=
 ⟨Ys h.1 hb.size,(hb.cell h.1).trans h.2.1,(hb.cell h.1).trans h.2.2.1,(hb.cell h.1).trans h.2.2.2.1,(hb.cell h.1).trans h.2.2.2.2.1,(hb.cell h.1).trans h.2.2.2.2.2⟩
def Ents (w:World)(a:Option Addr)(m:Nat)(e:Nat->Ex):Prop:=∀k,k<m->∃b o,a=some ⟨b,o,none⟩/\EEnt w b (o+k*5) (e k)
theorem Ents.mono {w w':World}{a:Option Addr}{m:Nat}{e:Nat->Ex}(h:Ents w a m e)(hb:Below w.heap.size w w'):Ents w' a m e:=fun k hk=>by
 obtain⟨b,o,e,hc⟩:=h k hk
 exact⟨b,o,e,hc.mono hb⟩
def FitE (n:Ex):Prop:=n.v.s.size<=9223372036854775807/\-9223372036854775808<=n.v.n/\n.v.n<=9223372036854775807
theorem qgm:(Tryz.prog.info? 52).map (fun i=>(i.zero,i.size,i.bytes))=some (some (.agg Je),5,48):=by kernel_rfl
theorem q3l (n:Ex)(w:World) :
 Calls Tryz.prog 27 #[ev n,ev n] w fun r w'=>r=.returned (.bool true)/\Below w.heap.size w w':=by
 unfold ev
 have HK:=h_ ((Blk.new w 52 (Jh n.r n.f n.v.k n.v.n n.v.s)).alloc (.cells (Jh n.r n.f n.v.k n.v.n n.v.s) 52))
 have HR:=h_ (Blk.new (w.alloc (.cells (Jh n.r n.f n.v.k n.v.n n.v.s) 52)) 52 (Jh n.r n.f n.v.k n.v.n n.v.s))
 have HB:=h_ (((bR w.heap.size w).alloc (nR _) (.cells (Jh n.r n.f n.v.k n.v.n n.v.s) 52)).alloc (by simp) (.cells (Jh n.r n.f n.v.k n.v.n n.v.s) 52))
 simp only[Yk]at HR
 go_enter Tryz.func27,Tryz.ntmps27
 go_wp2_with fail
 refine(q3q n.v.k n.v.n n.v.s _).mono ?_
 rintro x w2 ⟨rfl,hb⟩
 replace HK:=mB HK hb;replace HR:=mB HR hb;replace HB:=mT HB hb
 clear hb
 obtain⟨y0,y1,y2,y3,y4⟩:=five HK.u
 obtain⟨r0,r1,r2,r3,r4⟩:=five HR.u
 go_wp2_with fail
 go_ret
 exact⟨rfl,HB.u⟩
theorem q2d (a b:Option Addr)(e:Nat->Ex)(n ca cb:Nat)(w:World)(hn:n<=1048576)(ha:Ents w a n e)(hb:Ents w b n e) :
 Calls Tryz.prog 8 #[.slice a n ca,.slice b n cb] w fun r w'=>r=.returned (.bool true)/\Below w.heap.size w w':=by
 have HA:=h_ ha;have HB0:=h_ hb
 clear ha hb
 go_enter Tryz.func8,Tryz.ntmps8
 go_wp2_with fail
 go_loopw [5] (fun i wr=>∃k:Nat,k<=n/\i=J6 k/\Below w.heap.size w wr) (fun i _=>n - (intOf i).toNat)
 case atStart=>exact⟨0,nZ _,rfl,bR _ _⟩
 case round =>
  obtain⟨k,hk,rfl,hB⟩:=hrel;have HB:=h_ hB;by_cases hlt:k<n
  . obtain⟨b1,o1,rfl,C1⟩:=(HA.u.mono hB) k hlt
    obtain⟨b2,o2,rfl,C2⟩:=(HB0.u.mono hB) k hlt;obtain⟨u,hu⟩:=Nq (e k);rw[hu]at C1 C2;have HC1:=h_ C1;have HC2:=h_ C2;have k0:(0:Int)<=k:=(by omega);have k1:(k:Int)<n:=(by omega);clear hB hu C1 C2;go_wp2_with fail;refine wp_region_held_drew (S:=fun w'=>EEnt w' b1 (o1+k*5) u/\EEnt w' b2 (o2+k*5) u) (by kernel_rfl) ⟨HC1.u,HC2.u⟩ (fun zz=>?_);refine tj 0 17 (.slice (some ⟨b1,o1,none⟩) n ca) zz ?_;refine tj 1 18 (J6 k) zz ?_;refine tj 2 19 (.pointer (some ⟨b1,o1+k*5,none⟩)) zz ?_;refine tj 3 20 (.agg (Jh u.r u.f u.v.k u.v.n u.v.s)) zz ?_ (hy:=fun w hS=>by obtain⟨⟨-,q0,q1,q2,q3,q4⟩,-⟩:=hS;simp[execOp,go_sem,q0,q1,q2,q3,q4]);simp only[sX,sY,sZ];refine tj 4 21 (.slice (some ⟨b2,o2,none⟩) n cb) zz ?_;refine tj 5 22 (J6 k) zz ?_;refine tj 6 23 (.pointer (some ⟨b2,o2+k*5,none⟩)) zz ?_;refine tj 7 24 (.agg (Jh u.r u.f u.v.k u.v.n u.v.s)) zz ?_ (hy:=fun w hS=>by obtain⟨-,⟨-,q0,q1,q2,q3,q4⟩⟩:=hS;simp[execOp,go_sem,q0,q1,q2,q3,q4]);simp only[sX,sY,sZ];refine callY (i:=8) (f:=27) (args:=#[ev u,ev u]) (R:=fun v wz=>v=.bool true/\Below wr.heap.size wr wz) 25 rfl rfl (by rfl) (by kernel_rfl) ?hrun1 ((q3l u _).mono fun e w6 ⟨he,hb⟩=>⟨_,he,rfl,q29 hb⟩) ?_
    case hrun1=>simp[execOp,go_sem,ev]
    rintro v w6 ⟨rfl,hb6⟩;have HB6:=mT HB hb6;replace zz:EEnt w6 b1 (o1+k*5) u/\EEnt w6 b2 (o2+k*5) u:=⟨HC1.u.mono hb6,HC2.u.mono hb6⟩;clear hb6;refine⟨zz,?_⟩;simp only[sX,sY,sZ];refine tj 9 26 (.bool false) zz ?_;simp only[sX,sY,sZ];refine wpAnyH_done (by kernel_rfl) ?_ _;clear zz;go_wp2_with fail;go_roundw
    case rel=>exact⟨k+1,by omega,by go_num,HB6.u⟩
    case measure=>simp[intOf];omega
  . obtain rfl:n=k:=by omega
    clear hB;go_wp2_with fail;go_ret;exact⟨rfl,HB.u⟩
def OwnS (w:World)(base:Nat)(v:Value)(l:List ByteArray):Prop:=w.ownsRow base 9 1 v l.length (stV l)
theorem OwnS.keep {w w':World}{base:Nat}{v:Value}{l:List ByteArray}(h:OwnS w base v l)(hb:Below w.heap.size w w'):OwnS w' base v l :=
 World.ownsRow.kept (row:=none) h ⟨hb.os,hb.tape,hb.output,hb.size,fun k hk _=>hb.block k hk⟩ (Classical.em _)
theorem OwnS.strs {w:World}{base:Nat}{v:Value}{l:List ByteArray}(h:OwnS w base v l):∃a c,v=.slice a l.length c/\l.length<=c/\Strs w a l:=by
 rcases h.2 with ⟨e,h0⟩ | ⟨g,cap,cur,e,hg,hq,h4,h5,h6,h7⟩
 . exact⟨.none,0,by rw[e,h0],by omega,fun k hk=>by omega⟩
 . have hb:Blk w g 9 cur.toList:=by
    show w.heap[g]? = _;rw[hq]
   refine⟨some ⟨g,0,.none⟩,cap,e,h4,fun k hk=>⟨g,0,rfl,hb.lt,?_⟩⟩;have h8:(cur.toList.take (l.length*1))[k]? = some (.string l[k]):=by rw[h7];simp[stV,hk]
   rw[On (by omega)]at h8;rw[Y7,hb.cell];exact h8
theorem q7v {ops:Array Oper}{rest:List Oper}{o:Oper}{a:Act}{Q:Exit->Act->World->Prop}{w:World}(hgd:o.guard=.none)(s x:Operand)
 (ho:o.op=.call { callee:=.builtin .append,args:=#[s,x],argTypes:=#[22,22] }) {base:Nat} {v:Value} {l:List ByteArray} (hs:a.eval s=v) (hown:OwnS w base v l)
 {g:Nat} {t:ByteArray} (hx:a.eval x=.slice (some ⟨g,0,.none⟩) 1 1) (hc:Blk w g 9 [.string t]) (hl:l.length+1<=2097152) (hbase:base<=w.heap.size)
 (h:∀v' w',OwnS w' base v' (l++[t])->Below base w w'->wpList Tryz.prog ops Q rest (a.put o.dst v') w'):wpList Tryz.prog ops Q (o :: rest) a w:=by
 obtain⟨i0,hi,hz0,hz1,hz2⟩:=info_parts qgp
 refine wpList_append_own w hgd s x 22 ho base 9 i0 _ 1 16 Tryz.underlying22 hi hz0 hz1 hz2 rfl (by omega) _ _ _ hs hown ⟨g,0,.none⟩ 1 1 [.string t] hx rfl (fun j v hj=>by rw[show(⟨g,0,.none⟩:Addr).add j=⟨g,j,.none⟩ by simp[Addr.add];try exact fun h=>h.symm];exact(hc.cell j).trans hj) (by simp[Value.oneCell']) (by unfold maxLen;omega) (by omega) hbase ?_
 intro v' W9 ho hgr _
 refine h v' W9 ?_ ((bR base w).grown hgr hbase (fun q e=>qa0 hown e))
 unfold OwnS
 rw[Yd,show stV (l++[t])=stV l++[.string t] by simp[stV]]
 exact ho
end Go.Proofs.YtgojgjlninakjaaGreatDoor
