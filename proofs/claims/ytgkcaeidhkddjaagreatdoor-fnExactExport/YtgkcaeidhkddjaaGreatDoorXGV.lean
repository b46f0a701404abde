import Derived.OpenShut
import Derived.Carry
import Derived.Deep.DeepHandedRow
import Derived.Deep.Grids
import Derived.Lib.LaidTab
import Derived.Lib.SmallJoins
import Derived.Test.YtgkcaeidhkddjaaGreatDoorCards
import Derived.Test.YtgkcaeidhkddjaaGreatDoorTie
import Derived.Stop.LaidErr
import Derived.Deep.Slices
import Derived.Shelf.Vars
import Derived.OpenVars
import Derived.ChangeVars
import Derived.Test.YtgkcaeidhkddjaaGreatDoorXGT3
set_option maxRecDepth 100000
set_option maxHeartbeats 20000000
namespace Go.Proofs.YtgkcaeidhkddjaaGreatDoor
open Go Go.RowKit Go.ChangeShapes Go.WideShapes Go.ChangeAt
section
variable {H:Type} {enc:TypeId × Value->H} {P:Program} {w:World} {base:Nat} {spare:Nat->Bool} {held:Bool}
theorem qi9 {t:TypeId} {n:Nat} {v:Value} {y:DataW H × List MemPlace} (ht:P.underlying t=some (.int .i64)) (h:DataW.trod enc P w base spare held n t [v]=some y):∃ x,v=.int .i64 x/\-9223372036854775808<=x/\x<=9223372036854775807:=by
 obtain ⟨x,h1,h2⟩:=DataW.trod_int ht h
 have h3:=h2.2
 simp [Lit.wf,IntKind.min,IntKind.max,IntKind.signed,IntKind.bits] at h3
 exact ⟨x,by simpa using h1,by omega,by omega⟩
theorem qid {t:TypeId} {n:Nat} {v:Value} {y:DataW H × List MemPlace} (ht:P.underlying t=some .string) (h:DataW.trod enc P w base spare held n t [v]=some y):∃ s:ByteArray,v=.string s/\s.size<=9223372036854775807:=by
 obtain ⟨s,h1,_,h2⟩:=DataW.trod_string ht h
 exact ⟨s,by simpa using h1,h2⟩
end
theorem knobsV:ownKnob Tryz.prog.godebug=none:=by kernel_rfl
theorem laidOutV:laidOutB Tryz.prog=true:=by kernel_rfl
theorem cellsVal:Tryz.prog.cellsOf 49=3:=by kernel_rfl
theorem gPow:Tryz.prog.globalNamed "internal/strconv.uint64pow10" = some 0:=by kernel_rfl
theorem gPowType:(Tryz.prog.globals[0]?).map (·.type)=some 258:=by kernel_rfl
theorem cellsPow:Tryz.prog.cellsOf 258=20:=by kernel_rfl
theorem cellsU64:Tryz.prog.cellsOf 238=1:=by kernel_rfl
theorem pow_eq:(Rows.laid_internal_strconv_uint64pow10:DataW Unit)=Lib.tabData .u64 Lib.pow10Tab:=by rfl
theorem pow_of {W:World} {rest:List (String × DataW Unit)} (h:laidMet Tryz.prog (("math/bits.deBruijn32tab",Rows.laid_math_bits_deBruijn32tab) :: ("math/bits.deBruijn64tab",Rows.laid_math_bits_deBruijn64tab) :: ("internal/strconv.uint64pow10",Rows.laid_internal_strconv_uint64pow10) :: rest) W):Pow W:=by
 have h2:=h.tail.tail
 rw [pow_eq] at h2
 exact Lib.tabIs_of_head gPow gPowType Tryz.underlying258 Tryz.underlying238 cellsU64 cellsPow h2
def laidT (k:IntKind) (zs:List Int):Obj->Obj:=fun
 | .cells _ t frozen=>.cells (zs.map (fun z=>Value.int k z)).toArray t frozen
 | o=>o
theorem cellsInt0:Tryz.prog.cellsOf 3=1:=by kernel_rfl
theorem cellsI640:Tryz.prog.cellsOf 2=1:=by kernel_rfl
theorem cellsStr:Tryz.prog.cellsOf 9=1:=by kernel_rfl
theorem cellsNode:Tryz.prog.cellsOf 185=5:=by kernel_rfl
theorem qa3 (b off j:Nat):(⟨b,off,none⟩:Addr).add j=⟨b,off+j,none⟩:=by simp [Addr.add]
section
variable {H:Type} {enc:TypeId × Value->H} {P:Program} {w:World} {base:Nat} {held:Bool}
def zeroNx:Nx:=⟨0,blankX,⟨#[]⟩⟩
theorem qbb {t e:TypeId} {f0 f1 f2 g0 g1 g2:Field} {n:Nat} {v:Value} {y:DataW H × List MemPlace} (ht:P.underlying t=some (.slice e)) (he:P.underlying e=some (.struct #[f0,f1,f2])) (ce:P.cellsOf e=5) (o0:f0.offset=0) (o1:f1.offset=1) (o2:f2.offset=4)
 (hv:P.underlying f1.type=some (.struct #[g0,g1,g2])) (cv:P.cellsOf f1.type=3) (q0:g0.offset=0) (q1:g1.offset=1) (q2:g2.offset=2)
 (i0:P.underlying f0.type=some (.int .i64)) (i2:P.underlying f2.type=some .string) (c0:P.cellsOf f0.type=1) (c2:P.cellsOf f2.type=1)
 (j0:P.underlying g0.type=some (.int .i64)) (j1:P.underlying g1.type=some (.int .i64)) (j2:P.underlying g2.type=some .string) (d0:P.cellsOf g0.type=1) (d1:P.cellsOf g1.type=1) (d2:P.cellsOf g2.type=1) (h:DataW.trod enc P w base (fun _=>true) held n t [v]=some y)
 (hlt:∀ x ∈ y.2,x.block<w.heap.size):∃ a len cap f,v=.slice a len cap/\len<=9223372036854775807/\Nods w a len f/\(∀ i,i<len->Fit (f i)):=by
 rcases Deep.open_slice ht h with ⟨h0,-⟩ | ⟨a,len,cap,m,k,D,Pl,h0,-,hl,hm,hmm,rfl,hx⟩
 . exact ⟨none,0,0,fun _=>zeroNx,by simpa using h0,by omega,fun k hk=>absurd hk (nL _),fun k hk=>absurd hk (nL _)⟩
 . simp only [if_true] at hmm
   subst hmm
   have each:∀ i,i<m->∃ u:Nx,w.cell? (a.add (i*5))=some (.int .i64 u.op)/\w.cell? (a.add (i*5+1))=some (.int .i64 u.v.k)/\w.cell? (a.add (i*5+2))=some (.int .i64 u.v.n)/\w.cell? (a.add (i*5+3))=some (.string u.v.s)/\w.cell? (a.add (i*5+4))=some (.string u.nm)/\Fit u:=by
    intro i hi
    obtain ⟨cs',h1,h2⟩:=hx i hi
    rw [ce] at h1
    obtain ⟨_,hlen,hcell⟩:=World.cells?_some h1
    obtain ⟨xs,k',hk,hxy,_,hxl,hf⟩:=DataW.trod_struct he h2
    match xs,hxl,cs',hlen with
    | [y0,y1,y2],_,[v0,v1,v2,v3,v4],_ =>
     have g0':=hf 0 f0 rfl
     have g1':=hf 1 f1 rfl
     have g2':=hf 2 f2 rfl
     simp [o0,o1,o2,c0,c2,cv] at g0' g1' g2'
     have e0:=hcell 0 (by omega)
     have e1:=hcell 1 (by omega)
     have e2:=hcell 2 (by omega)
     have e3:=hcell 3 (by omega)
     have e4:=hcell 4 (by omega)
     rw [Deep.add_add] at e0 e1 e2 e3 e4
     obtain ⟨xs',k'',hk',hxy',_,hxl',hf'⟩:=DataW.trod_struct hv g1'
     match xs',hxl' with
     | [z0,z1,z2],_ =>
      have r0:=hf' 0 g0 rfl
      have r1:=hf' 1 g1 rfl
      have r2:=hf' 2 g2 rfl
      simp [q0,q1,q2,d0,d1,d2] at r0 r1 r2
      obtain ⟨op,rfl,-,-⟩:=qi9 i0 g0'
      obtain ⟨kind,rfl,-,-⟩:=qi9 j0 r0
      obtain ⟨num,rfl,n0,n1⟩:=qi9 j1 r1
      obtain ⟨s,rfl,hs⟩:=qid j2 r2
      obtain ⟨nm,rfl,hn⟩:=qid i2 g2'
      exact ⟨⟨op,⟨kind,num,s⟩,nm⟩,by simpa using e0,by simpa using e1,by simpa using e2,by simpa using e3,by simpa using e4,hs,hn,n0,n1⟩
   obtain ⟨f,hf⟩:∃ f:Nat->Nx,∀ i,i<m->w.cell? (a.add (i*5))=some (.int .i64 (f i).op)/\w.cell? (a.add (i*5+1))=some (.int .i64 (f i).v.k)/\w.cell? (a.add (i*5+2))=some (.int .i64 (f i).v.n)/\w.cell? (a.add (i*5+3))=some (.string (f i).v.s)/\w.cell? (a.add (i*5+4))=some (.string (f i).nm)/\Fit (f i):=by
    classical
    exact ⟨fun i=>if h:i<m then (each i h).choose else zeroNx,fun i hi=>by simp only [dif_pos hi];exact (each i hi).choose_spec⟩
   refine ⟨some a,len,m,f,by simpa using h0,by have:maxLen=9223372036854775807:=rfl;omega,fun i hi=>?_,fun i hi=>(hf i (by omega)).2.2.2.2.2⟩
   obtain ⟨x0,x1,x2,x3,x4,-⟩:=hf i (by omega)
   obtain ⟨b,off,spot⟩:=a
   have hs:spot=none:=by simpa [Addr.add] using World.cell?_spot (hf 0 (by omega)).1
   subst hs
   rw [qa3] at x0 x1 x2 x3 x4
   refine ⟨b,off,rfl,hlt (.cell b (off+i*5)) ?_,x0,x1,x2,x3,x4⟩
   rw [ce]
   exact List.mem_append_left _ (MemPlace.mem_row.2 ⟨i*5,by omega,by simp⟩)
theorem q29 {enc:TypeId × Value->H} {sp:Nat->Bool} {fuel:Nat} {t e:TypeId} {n:Nat} {cs:List Value} {zs:List (List UInt8)} {p:List MemPlace}
 (ht:P.underlying t=some (.array n e)) (he:P.underlying e=some .string) (hce:P.cellsOf e=1) (hct:P.cellsOf t=n)
 (h:DataW.trod enc P w base sp held fuel t cs=some (.agg (zs.map fun z=>.lit (.string z)),p)):cs=zs.map fun z=>Value.string ⟨z.toArray⟩:=by
 cases fuel with
 | zero=>simp [DataW.trod] at h
 | succ fuel =>
  simp only [DataW.trod,ht,hce,hct,Nat.mul_one] at h
  split at h
  . rename_i hl
    obtain ⟨xs,hm,hx⟩:=Option.map_eq_some_iff.1 h
    have hxs:xs.map (·.1)=zs.map fun z=>(DataW.lit (.string z):DataW H):=by
     have:=congrArg Prod.fst hx
     simpa using this
    have hxl:xs.length=n:=by simpa using Lib.mapM_length hm
    have hzl:zs.length=n:=by
     have:=congrArg List.length hxs
     simp at this
     omega
    apply List.ext_getElem?
    intro i
    by_cases hi:i<n
    . obtain ⟨b,hb,hf⟩:=Lib.mapM_at hm i i (by simp [hi])
      obtain ⟨s,hc,rfl,_⟩:=DataW.trod_string he hf
      have h1:cs[i]? = some (.string s):=by
       have:=congrArg (·[0]?) hc
       simpa [List.getElem?_take,List.getElem?_drop] using this
      have h2:(xs.map (·.1))[i]? = some (DataW.lit (.string s.data.toList):DataW H):=by simp [hb]
      rw [hxs] at h2
      simp only [List.getElem?_map,Option.map_eq_some_iff,DataW.lit.injEq,Lit.string.injEq] at h2
      obtain ⟨z',hz',rfl⟩:=h2
      simp [h1,hz']
    . rw [List.getElem?_eq_none (by omega),List.getElem?_eq_none (by simp;omega)]
  . cases h
end
theorem gWrd:Tryz.prog.globalNamed "loop.example/s0011/impl.operatorWords" = some 5:=by kernel_rfl
theorem gWrdType:(Tryz.prog.globals[5]?).map (·.type)=some 289:=by kernel_rfl
theorem cellsWrd:Tryz.prog.cellsOf 289=26:=by kernel_rfl
theorem wrd_eq:(Rows.laid_loop_example_s0011_impl_operatorWords:DataW Unit)=.agg ((wrdT.map (·.data.toList)).map fun z=>.lit (.string z)):=by rfl
theorem q70 {W:World} {rest:List (String × DataW Unit)} (h:laidMet Tryz.prog (("loop.example/s0011/impl.operatorWords",Rows.laid_loop_example_s0011_impl_operatorWords) :: rest) W):Wrds W:=by
 rw [wrd_eq] at h
 obtain ⟨ps,⟨g',t',cs,fuel,p,q,hg',ht',hvar,hd,_,_⟩,_⟩:=h
 obtain rfl:=Option.some.inj (gWrd.symm.trans hg')
 obtain rfl:=Option.some.inj (gWrdType.symm.trans ht')
 have hc:=q29 Tryz.underlying289 Tryz.underlying9 cellsStr cellsWrd hd
 have hcell:∀ k,k<26->W.cell? ⟨5,k,none⟩=some (.string (wrdT.getD k ⟨#[]⟩)):=fun k hk=>by
  have:=World.var?_cell gWrd hvar k
  rw [this]
  have e:cs[k]? = cs.toList[k]?:=by simp
  rw [e,hc]
  have hl:wrdT.length=26:=rfl
  simp only [List.map_map,List.getElem?_map]
  rw [List.getElem?_eq_getElem (by omega)]
  simp [List.getD,List.getElem?_eq_getElem (show k<wrdT.length by omega)]
 refine ⟨?_,hcell⟩
 apply Nat.lt_of_not_le
 intro h0
 have hz:=hcell 0 (by omega)
 have e:W.heap[(5:Nat)]? = none:=Array.getElem?_eq_none h0
 simp [World.cell?,e] at hz
def laidS (zs:List ByteArray):Obj->Obj:=fun
 | .cells _ t frozen=>.cells (zs.map Value.string).toArray t frozen
 | o=>o
section
variable {H:Type} {enc:TypeId × Value->H} {P:Program} {w:World} {base:Nat} {held:Bool}
theorem qeh {X:Type} {Q:List Value->X->Prop} (z:X) {t e:TypeId} {n c:Nat} {v:Value} {y:DataW H × List MemPlace} (ht:P.underlying t=some (.slice e)) (hc:P.cellsOf e=c) (h1c:1<=c) (h:DataW.trod enc P w base (fun _=>true) held n t [v]=some y) (hlt:∀ x ∈ y.2,x.block<w.heap.size)
 (each:∀ (cs:List Value) (k:Nat) (q:DataW H × List MemPlace),cs.length=c->DataW.trod enc P w base (fun _=>true) held k e cs=some q->(∀ x ∈ q.2,x.block<w.heap.size)->∃ u,Q cs u) :
 ∃ (a:Option Addr) (l:List X) (cap:Nat),v=.slice a l.length cap/\l.length<=9223372036854775807/\l.length<=cap/\∀ i (hi:i<l.length),∃ b o cs,a=some ⟨b,o,none⟩/\b<w.heap.size/\cs.length=c/\(∀ j,j<c->w.cell? ⟨b,o+i*c+j,none⟩=cs[j]?)/\Q cs l[i]:=by
 rcases Deep.open_slice ht h with ⟨h0,-⟩ | ⟨a,len,cap,m,k,D,Pl,h0,-,hl,hm,hmm,rfl,hx⟩
 . exact ⟨none,[],0,by simpa using h0,nZ _,nR _,fun i hi=>absurd hi (nL _)⟩
 . simp only [if_true] at hmm
   subst hmm
   have ea:∀ i,i<m->∃ p:List Value × X,p.1.length=c/\(∀ j,j<c->w.cell? (a.add (i*c+j))=p.1[j]?)/\Q p.1 p.2:=by
    intro i hi
    obtain ⟨cs',g1,g2⟩:=hx i hi
    rw [hc] at g1
    obtain ⟨_,hlen,hcell⟩:=World.cells?_some g1
    obtain ⟨u,hu⟩:=each cs' k (D i,Pl i) hlen g2 (fun x hx'=>hlt x (List.mem_append_right _ (List.mem_flatMap.2 ⟨i,List.mem_range.2 hi,hx'⟩)))
    refine ⟨(cs',u),hlen,fun j hj=>?_,hu⟩
    have:=hcell j hj
    rw [Deep.add_add] at this
    exact this
   obtain ⟨U,hU⟩:∃ U:Nat->List Value × X,∀ i,i<m->(U i).1.length=c/\(∀ j,j<c->w.cell? (a.add (i*c+j))=(U i).1[j]?)/\Q (U i).1 (U i).2:=by
    classical
    exact ⟨fun i=>if h:i<m then (ea i h).choose else ([],z),fun i hi=>by simp only [dif_pos hi];exact (ea i hi).choose_spec⟩
   have hlen:((List.range len).map fun i=>(U i).2).length=len:=by simp
   refine ⟨some a,(List.range len).map fun i=>(U i).2,m,by rw [hlen];simpa using h0,by rw [hlen];have:maxLen=9223372036854775807:=rfl;omega,by rw [hlen];exact hl,fun i hi=>?_⟩
   rw [hlen] at hi
   obtain ⟨x0,x1,x2⟩:=hU i (by omega)
   obtain ⟨b,off,spot⟩:=a
   have hs:spot=none:=by
    obtain ⟨g0,g1,-⟩:=hU 0 (by omega)
    have g2:=g1 0 (by omega)
    rw [List.getElem?_eq_getElem (by omega)] at g2
    simpa [Addr.add] using World.cell?_spot g2
   subst hs
   refine ⟨b,off,(U i).1,rfl,hlt (.cell b (off+i*c)) ?_,x0,fun j hj=>?_,?_⟩
   . rw [hc]
     refine List.mem_append_left _ (MemPlace.mem_row.2 ⟨i*c,?_,by simp⟩)
     have:i*c+c<=m*c:=by rw [<- Nat.succ_mul];exact Nat.mul_le_mul_right c (by omega)
     omega
   . have:=x1 j hj
     rw [qa3,<- Nat.add_assoc] at this
     exact this
   . simpa using x2
theorem qei {t e:TypeId} {n:Nat} {v:Value} {y:DataW H × List MemPlace} (ht:P.underlying t=some (.slice e)) (he:P.underlying e=some .string) (hc:P.cellsOf e=1) (h:DataW.trod enc P w base (fun _=>true) held n t [v]=some y) (hlt:∀ x ∈ y.2,x.block<w.heap.size) :
 ∃ a l cap,v=.slice a l.length cap/\l.length<=9223372036854775807/\Strs w a l/\∀ x,x ∈ l->x.size<=9223372036854775807:=by
 obtain ⟨a,l,cap,h1,h2,-,h3⟩:=qeh (Q:=fun cs x=>cs=[.string x]/\x.size<=9223372036854775807) (⟨#[]⟩:ByteArray) ht hc (nR _) h hlt (fun cs k q hl hq _=>by
  match cs,hl with
  | [v0],_=>obtain ⟨s,rfl,hs⟩:=qid he hq;exact ⟨s,rfl,hs⟩)
 refine ⟨a,l,cap,h1,h2,fun k hk=>?_,fun x hx=>?_⟩
 . obtain ⟨b,o,cs,rfl,hb,-,hcell,rfl,-⟩:=h3 k hk
   have:=hcell 0 (by omega)
   exact ⟨b,o,rfl,hb,by simpa using this⟩
 . obtain ⟨k,hk,rfl⟩:=List.mem_iff_getElem.1 hx
   obtain ⟨b,o,cs,-,-,-,-,-,hs⟩:=h3 k hk
   exact hs
theorem qef {t e:TypeId} {n:Nat} {v:Value} {y:DataW H × List MemPlace} (ht:P.underlying t=some (.slice e)) (he:P.underlying e=some (.int .i64)) (hc:P.cellsOf e=1) (h:DataW.trod enc P w base (fun _=>true) held n t [v]=some y) (hlt:∀ x ∈ y.2,x.block<w.heap.size) :
 ∃ a l cap,v=.slice a l.length cap/\l.length<=9223372036854775807/\IntL w a l:=by
 obtain ⟨a,l,cap,h1,h2,-,h3⟩:=qeh (Q:=fun cs x=>cs=[.int .i64 x]) (0:Int) ht hc (nR _) h hlt (fun cs k q hl hq _=>by
  match cs,hl with
  | [v0],_=>obtain ⟨s,rfl,-,-⟩:=qi9 he hq;exact ⟨s,rfl⟩)
 refine ⟨a,l,cap,h1,h2,fun k hk=>?_⟩
 obtain ⟨b,o,cs,rfl,hb,-,hcell,rfl⟩:=h3 k hk
 have:=hcell 0 (by omega)
 refine ⟨b,o,rfl,hb,?_⟩
 dsimp only
 rw [List.getD_eq_getElem?_getD,List.getElem?_eq_getElem hk]
 simpa using this
theorem qia {t e:TypeId} {f0 f1:Field} {n:Nat} {v:Value} {y:DataW H × List MemPlace} (ht:P.underlying t=some (.slice e)) (he:P.underlying e=some (.struct #[f0,f1])) (hc:P.cellsOf e=2) (o0:f0.offset=0) (o1:f1.offset=1) (i0:P.underlying f0.type=some (.int .i64)) (i1:P.underlying f1.type=some (.int .i64)) (c0:P.cellsOf f0.type=1) (c1:P.cellsOf f1.type=1)
 (h:DataW.trod enc P w base (fun _=>true) held n t [v]=some y) (hlt:∀ x ∈ y.2,x.block<w.heap.size):∃ a l cap,v=.slice a l.length cap/\l.length<=9223372036854775807/\Prs w a l:=by
 obtain ⟨a,l,cap,h1,h2,-,h3⟩:=qeh (Q:=fun cs (x:Int × Int)=>cs=[.int .i64 x.1,.int .i64 x.2]) (0,0) ht hc (by omega) h hlt (fun cs k q hl hq _=>by
  obtain ⟨y0,y1,n',rfl,-,g0,g1⟩:=trod_struct2 he hq
  match cs,hl with
  | [v0,v1],_ =>
   rw [o0,c0] at g0
   rw [o1,c1] at g1
   obtain ⟨s0,rfl,-,-⟩:=qi9 i0 (by simpa using g0)
   obtain ⟨s1,rfl,-,-⟩:=qi9 i1 (by simpa using g1)
   exact ⟨(s0,s1),rfl⟩)
 refine ⟨a,l,cap,h1,h2,fun k hk=>?_⟩
 obtain ⟨b,o,cs,rfl,hb,-,hcell,rfl⟩:=h3 k hk
 have q0:=hcell 0 (by omega)
 have q1:=hcell 1 (by omega)
 exact ⟨b,o,rfl,hb,q0,q1⟩
theorem qib {t e:TypeId} {f0 f1:Field} {n:Nat} {v:Value} {y:DataW H × List MemPlace} (ht:P.underlying t=some (.slice e)) (he:P.underlying e=some (.struct #[f0,f1])) (hc:P.cellsOf e=2) (o0:f0.offset=0) (o1:f1.offset=1) (i0:P.underlying f0.type=some .string) (i1:P.underlying f1.type=some (.int .i64)) (c0:P.cellsOf f0.type=1) (c1:P.cellsOf f1.type=1)
 (h:DataW.trod enc P w base (fun _=>true) held n t [v]=some y) (hlt:∀ x ∈ y.2,x.block<w.heap.size):∃ a l cap,v=.slice a l.length cap/\l.length<=9223372036854775807/\Rls w a l/\∀ x,x ∈ l->x.nm.size<=9223372036854775807:=by
 obtain ⟨a,l,cap,h1,h2,-,h3⟩:=qeh (Q:=fun cs (x:Rl)=>cs=[.string x.nm,.int .i64 x.lb]/\x.nm.size<=9223372036854775807) noRl ht hc (by omega) h hlt (fun cs k q hl hq _=>by
  obtain ⟨y0,y1,n',rfl,-,g0,g1⟩:=trod_struct2 he hq
  match cs,hl with
  | [v0,v1],_ =>
   rw [o0,c0] at g0
   rw [o1,c1] at g1
   obtain ⟨s0,rfl,hs⟩:=qid i0 (by simpa using g0)
   obtain ⟨s1,rfl,-,-⟩:=qi9 i1 (by simpa using g1)
   exact ⟨⟨s0,s1⟩,rfl,hs⟩)
 refine ⟨a,l,cap,h1,h2,fun k hk=>?_,fun x hx=>?_⟩
 . obtain ⟨b,o,cs,rfl,hb,-,hcell,rfl,-⟩:=h3 k hk
   have q0:=hcell 0 (by omega)
   have q1:=hcell 1 (by omega)
   exact ⟨b,o,rfl,hb,q0,q1⟩
 . obtain ⟨k,hk,rfl⟩:=List.mem_iff_getElem.1 hx
   obtain ⟨b,o,cs,-,-,-,-,-,hs⟩:=h3 k hk
   exact hs
theorem qjk {a:Option Addr} {m:Nat} {f:Nat->Nx} (h:Nods w a m f):∃ l:List Nx,l.length=m/\NodL w a l/\∀ k,k<m->nf l k=f k:=by
 have hl:((List.range m).map f).length=m:=by simp
 have hn:∀ k,k<m->nf ((List.range m).map f) k=f k:=fun k hk=>by rw [nf_get _ k (by rw [hl];exact hk)];simp
 refine ⟨(List.range m).map f,hl,?_,hn⟩
 unfold NodL
 rw [hl]
 intro k hk
 obtain ⟨b,o,e,hc⟩:=h k hk
 exact ⟨b,o,e,by rw [hn k hk];exact hc⟩
end
theorem cellsForm:Tryz.prog.cellsOf 27=4:=by kernel_rfl
theorem cellsField:Tryz.prog.cellsOf 87=9:=by kernel_rfl
theorem cellsPairL:Tryz.prog.cellsOf 106=2:=by kernel_rfl
theorem cellsRoleL:Tryz.prog.cellsOf 82=2:=by kernel_rfl
def noFA:FA:=⟨none,0,none,0,none,0,none,0,none,0⟩
def noFl:Fl:=⟨⟨#[]⟩,0,0,[],[],[],[],⟨#[]⟩,[]⟩
section
variable {H:Type} {enc:TypeId × Value->H} {w:World} {base:Nat} {held:Bool}
theorem qeg {n:Nat} {v:Value} {y:DataW H × List MemPlace} (h:DataW.trod enc Tryz.prog w base (fun _=>true) held n 85 [v]=some y) (hlt:∀ x ∈ y.2,x.block<w.heap.size) :
 ∃ a l cap,v=.slice a l.length cap/\l.length<=9223372036854775807/\NodL w a l/\∀ k,k<l.length->Fit (nf l k):=by
 obtain ⟨a,m,c,f,e4,l4,k4,s4⟩:=qbb Tryz.underlying85 Tryz.underlying185 cellsNode rfl rfl rfl Tryz.underlying49 cellsVal rfl rfl rfl Tryz.underlying3 Tryz.underlying9 cellsInt0 cellsStr Tryz.underlying3 Tryz.underlying2 Tryz.underlying9 cellsInt0 cellsI640 cellsStr h hlt
 obtain ⟨l,hl,hN,hf⟩:=qjk k4
 exact ⟨a,l,c,by rw [hl];exact e4,by rw [hl];exact l4,hN,fun k hk=>by rw [hl] at hk;rw [hf k hk];exact s4 k hk⟩
theorem qee {n:Nat} {v:Value} {y:DataW H × List MemPlace} (h:DataW.trod enc Tryz.prog w base (fun _=>true) held n 25 [v]=some y) (hlt:∀ x ∈ y.2,x.block<w.heap.size) :
 ∃ a l AF cap,v=.slice a l.length cap/\l.length<=9223372036854775807/\Flds w a l AF/\∀ x,x ∈ l->FitF x:=by
 obtain ⟨a,l,cap,h1,h2,-,h3⟩:=qeh (Q:=fun cs (u:Fl × FA)=>cs=fCs u.1 u.2/\FSl w u.1 u.2/\FitF u.1) (noFl,noFA) Tryz.underlying25 cellsField (by omega) h hlt (fun cs k q hl hq hp=>by
  obtain ⟨xs,k',hk,rfl,_,hxl,hf⟩:=DataW.trod_struct Tryz.underlying87 hq
  match xs,hxl,cs,hl with
  | [y0,y1,y2,y3,y4,y5,y6,y7,y8],_,[v0,v1,v2,v3,v4,v5,v6,v7,v8],_ =>
   have g0:=hf 0 _ rfl
   have g1:=hf 1 _ rfl
   have g2:=hf 2 _ rfl
   have g3:=hf 3 _ rfl
   have g4:=hf 4 _ rfl
   have g5:=hf 5 _ rfl
   have g6:=hf 6 _ rfl
   have g7:=hf 7 _ rfl
   have g8:=hf 8 _ rfl
   have cI:Tryz.prog.cellsOf 84=1:=by kernel_rfl
   have cN:Tryz.prog.cellsOf 85=1:=by kernel_rfl
   simp [cellsStr,cellsInt0,cI,cN] at g0 g1 g2 g3 g4 g5 g6 g7 g8
   obtain ⟨nm,rfl,hnm⟩:=qid Tryz.underlying9 g0
   obtain ⟨ty,rfl,-,-⟩:=qi9 Tryz.underlying3 g1
   obtain ⟨lb,rfl,-,-⟩:=qi9 Tryz.underlying3 g2
   obtain ⟨ab,bys,abc,rfl,lb3,kb3⟩:=qef Tryz.underlying84 Tryz.underlying3 cellsInt0 g3 (fun x hx=>hp x (by simp [hx]))
   obtain ⟨ai,is',aic,rfl,li,ki,fi⟩:=qeg g4 (fun x hx=>hp x (by simp [hx]))
   obtain ⟨ah,wh,ahc,rfl,lh,kh,fh⟩:=qeg g5 (fun x hx=>hp x (by simp [hx]))
   obtain ⟨av,va,avc,rfl,lv,kv,fv⟩:=qeg g6 (fun x hx=>hp x (by simp [hx]))
   obtain ⟨sy,rfl,hsy⟩:=qid Tryz.underlying9 g7
   obtain ⟨au,mu,auc,rfl,lu,ku,fu⟩:=qeg g8 (fun x hx=>hp x (by simp [hx]))
   exact ⟨(⟨nm,ty,lb,bys,is',wh,va,sy,mu⟩,⟨ab,abc,ai,aic,ah,ahc,av,avc,au,auc⟩),rfl,⟨kb3,ki,kh,kv,ku⟩,⟨hnm,hsy,lb3,li,lh,lv,lu,fi,fh,fv,fu⟩⟩)
 have hml:(l.map (·.1)).length=l.length:=by simp
 refine ⟨a,l.map (·.1),fun k=>(l.getD k (noFl,noFA)).2,cap,by rw [hml];exact h1,by rw [hml];exact h2,fun k hk=>?_,fun x hx=>?_⟩
 . rw [hml] at hk
   obtain ⟨b,o,cs,rfl,hb,-,hcell,rfl,hs,-⟩:=h3 k hk
   have e2:(l.getD k (noFl,noFA)).2=l[k].2:=by rw [List.getD_eq_getElem?_getD,List.getElem?_eq_getElem hk];rfl
   have e1:(l.map (·.1))[k]'(by rw [hml];exact hk)=l[k].1:=by simp
   rw [e1]
   dsimp only
   rw [e2]
   exact ⟨b,o,rfl,⟨hb,hcell 0 (by omega),hcell 1 (by omega),hcell 2 (by omega),hcell 3 (by omega),hcell 4 (by omega),hcell 5 (by omega),hcell 6 (by omega),hcell 7 (by omega),hcell 8 (by omega)⟩,hs⟩
 . obtain ⟨u,hu,rfl⟩:=List.mem_map.1 hx
   obtain ⟨k,hk,rfl⟩:=List.mem_iff_getElem.1 hu
   obtain ⟨b,o,cs,-,-,-,-,-,-,hs⟩:=h3 k hk
   exact hs
end
def tyT:List ByteArray:=[⟨#[]⟩,⟨#[105,110,116]⟩,⟨#[98,111,111,108]⟩,⟨#[116,101,120,116]⟩]
theorem gTy:Tryz.prog.globalNamed "loop.example/s0011/impl.typeWords" = some 2:=by kernel_rfl
theorem gTyType:(Tryz.prog.globals[2]?).map (·.type)=some 276:=by kernel_rfl
theorem cellsTy:Tryz.prog.cellsOf 276=4:=by kernel_rfl
theorem ty_eq:(Rows.laid_loop_example_s0011_impl_typeWords:DataW Unit)=.agg ((tyT.map (·.data.toList)).map fun z=>.lit (.string z)):=by rfl
theorem q9t {W:World} {rest:List (String × DataW Unit)} (h:laidMet Tryz.prog (("loop.example/s0011/impl.typeWords",Rows.laid_loop_example_s0011_impl_typeWords) :: rest) W):TyW W:=by
 rw [ty_eq] at h
 obtain ⟨ps,⟨g',t',cs,fuel,p,q,hg',ht',hvar,hd,_,_⟩,_⟩:=h
 obtain rfl:=Option.some.inj (gTy.symm.trans hg')
 obtain rfl:=Option.some.inj (gTyType.symm.trans ht')
 have hc:=q29 Tryz.underlying276 Tryz.underlying9 cellsStr cellsTy hd
 have hcell:∀ k,k<4->W.cell? ⟨2,k,none⟩=some (.string (tyT.getD k ⟨#[]⟩)):=fun k hk=>by
  have:=World.var?_cell gTy hvar k
  rw [this]
  have e:cs[k]? = cs.toList[k]?:=by simp
  rw [e,hc]
  have hl:tyT.length=4:=rfl
  simp only [List.map_map,List.getElem?_map]
  rw [List.getElem?_eq_getElem (by omega)]
  simp [List.getD,List.getElem?_eq_getElem (show k<tyT.length by omega)]
 refine ⟨?_,fun k h1 h3=>?_⟩
 . apply Nat.lt_of_not_le
   intro h0
   have hz:=hcell 0 (by omega)
   have e:W.heap[(2:Nat)]? = none:=Array.getElem?_eq_none h0
   simp [World.cell?,e] at hz
 . rw [hcell k (by omega)]
   obtain rfl | rfl | rfl:k=1 ∨ k=2 ∨ k=3:=by omega
   . rfl
   . rfl
   . rfl
theorem gTabL:Tryz.prog.globalNamed "math/bits.deBruijn32tab" = some 3:=by kernel_rfl
theorem gTabTypeL:(Tryz.prog.globals[3]?).map (·.type)=some 279:=by kernel_rfl
theorem cellsTabL:Tryz.prog.cellsOf 279=32:=by kernel_rfl
theorem cellsU8L:Tryz.prog.cellsOf 5=1:=by kernel_rfl
theorem qgp {W:World} {rest:List (String × DataW Unit)} (h:laidMet Tryz.prog (("math/bits.deBruijn32tab",Rows.laid_math_bits_deBruijn32tab) :: rest) W):Tab W:=by
 have T:Lib.TabIs Tryz.prog W "math/bits.deBruijn32tab" .u8 (Lib.deBruijn32tab.map (fun n=>((n:Nat):Int))) :=
  Lib.tabIs_of_head (rest:=rest) gTabL gTabTypeL Tryz.underlying279 Tryz.underlying5 cellsU8L cellsTabL h
 have e:∀ j,j<32->(Lib.deBruijn32tab.map (fun n=>((n:Nat):Int))).getD j 0=((Lib.deBruijn32tab.getD j 0:Nat):Int):=by decide +kernel
 intro j hj
 rw [<- e j hj]
 exact T.cell gTabL j (by simpa [Lib.deBruijn32tab] using hj)
section
variable {H:Type} {enc:TypeId × Value->H} {P:Program} {w:World} {base:Nat} {spare:Nat->Bool} {held:Bool}
end
theorem cellsEntL:Tryz.prog.cellsOf 51=5:=by kernel_rfl
section
variable {H:Type} {enc:TypeId × Value->H} {P:Program} {w:World} {base:Nat} {spare:Nat->Bool} {held:Bool}
theorem qed {n:Nat} {v:Value} {y:DataW H × List MemPlace} (h:DataW.trod enc Tryz.prog w base (fun _=>true) held n 28 [v]=some y) (hlt:∀ x ∈ y.2,x.block<w.heap.size) :
 ∃ a L cap e,v=.slice a L cap/\L<=9223372036854775807/\Ents w a L e/\∀ k,k<L->FitE (e k):=by
 obtain ⟨a,l,cap,h1,h2,-,h3⟩:=qeh (Q:=fun cs (u:Ex)=>cs=[.int .i64 u.r,.int .i64 u.f,.int .i64 u.v.k,.int .i64 u.v.n,.string u.v.s]/\FitE u) ⟨0,0,⟨0,0,⟨#[]⟩⟩⟩ Tryz.underlying28 cellsEntL (by omega) h hlt (fun cs k q hl hq hp=>by
  obtain ⟨xs,k',hk,rfl,_,hxl,hf⟩:=DataW.trod_struct Tryz.underlying51 hq
  match xs,hxl,cs,hl with
  | [y0,y1,y2],_,[v0,v1,v2,v3,v4],_ =>
   have g0:=hf 0 _ rfl
   have g1:=hf 1 _ rfl
   have g2:=hf 2 _ rfl
   simp [cellsVal,cellsInt0] at g0 g1 g2
   obtain ⟨xr,rfl,-,-⟩:=qi9 Tryz.underlying3 g0
   obtain ⟨xf,rfl,-,-⟩:=qi9 Tryz.underlying3 g1
   obtain ⟨xs',k'',hk',_,_,hxl',hf'⟩:=DataW.trod_struct Tryz.underlying49 g2
   match xs',hxl' with
   | [z0,z1,z2],_ =>
    have r0:=hf' 0 _ rfl
    have r1:=hf' 1 _ rfl
    have r2:=hf' 2 _ rfl
    simp [cellsInt0,cellsI640,cellsStr] at r0 r1 r2
    obtain ⟨kind,rfl,-,-⟩:=qi9 Tryz.underlying3 r0
    obtain ⟨num,rfl,n0,n1⟩:=qi9 Tryz.underlying2 r1
    obtain ⟨s,rfl,hs⟩:=qid Tryz.underlying9 r2
    exact ⟨⟨xr,xf,⟨kind,num,s⟩⟩,rfl,hs,n0,n1⟩)
 have hget:∀ k (hk:k<l.length),l.getD k ⟨0,0,⟨0,0,⟨#[]⟩⟩⟩=l[k]:=fun k hk=>by rw [List.getD_eq_getElem?_getD,List.getElem?_eq_getElem hk];rfl
 refine ⟨a,l.length,cap,fun k=>l.getD k ⟨0,0,⟨0,0,⟨#[]⟩⟩⟩,h1,h2,fun k hk=>?_,fun k hk=>?_⟩
 . obtain ⟨b,o,cs,rfl,hb,-,hcell,hq,-⟩:=h3 k hk
   dsimp only
   rw [hget k hk]
   subst hq
   exact ⟨b,o,rfl,hb,hcell 0 (by omega),hcell 1 (by omega),hcell 2 (by omega),hcell 3 (by omega),hcell 4 (by omega)⟩
 . obtain ⟨b,o,cs,-,-,-,-,-,hq⟩:=h3 k hk
   dsimp only
   rw [hget k hk]
   exact hq
end
theorem q6x {H:Type} {enc:TypeId × Value->H} {P:Program} {w:World} {base:Nat} {spare:Nat->Bool} {held:Bool} {t t' t'':TypeId} {args:Array Value} {ds:List (DataW H)} {ps:List MemPlace} (h:DataW.TrodAll enc P w base spare held [t,t',t''] args.toList ds ps) :
 ∃ v v' v'' d d' d'' p p' p'',args=#[v,v',v'']/\ds=[d,d',d'']/\ps=p++(p'++p'')/\DataW.Trod enc P w base spare held t v d p/\DataW.Trod enc P w base spare held t' v' d' p'/\DataW.Trod enc P w base spare held t'' v'' d'' p'':=by
 obtain ⟨v,v',v'',d,d',d'',p,p',p'',e1,e2,e3,h1,h2,h3⟩:=trodAll_three h
 exact ⟨v,v',v'',d,d',d'',p,p',p'',e1,e2,e3.trans (List.append_assoc _ _ _),h1,h2,h3⟩
theorem contractEx (H:Type) (enc:TypeId × Value->H) (W:World) (base:Nat) (args:Array Value) (ds gs:List (DataW H)) (before:List MemPlace)
 (hval:∀ (j:Nat) t v,Tryz.f3.params[j]? = some t->args[j]? = some v->Value.okWide Tryz.prog W .any base t v)
 (hW:DataW.Whole enc Tryz.prog Tryz.f3.params.toList Rows.fnExactExportSpec.vars false W args.toList ds gs before) (ht:Tabs W) (hy:TyW W) (htb:Tab W) :
 Calls Tryz.prog 3 args W fun e W'=>∃ v,e=.returned v/\Rows.fnExactExportSpec.post enc Tryz.prog Tryz.f3 false true false false W args v W':=by
 have hW':=hW
 obtain ⟨p,q,hA0,hV,rfl,hfz,hnd⟩:=hW
 have hA:DataW.TrodAll enc Tryz.prog W 0 (fun _=>true) true Tryz.f3.params.toList args.toList ds p:=hA0
 rw [Tryz.params3] at hA hval
 obtain ⟨v0,v1,v2,d0,e1,e2,p,px1,px2,rfl,rfl,rfl,h0,hs1,hs2⟩:=q6x hA
 obtain ⟨g0,t0',cs0,f0,d1,p1,g1,t1',cs1,f1,d2,p2,rfl,-,-,-,-,-,-,-,-,-⟩:=trodVars_two hV
 have h0k:=h0
 clear hA0
 have hlt0:∀ x ∈ p++(px1++px2),x.block<W.heap.size:=fun x hx=>by simpa using hW'.lt x (List.mem_append_left _ hx)
 have hlt:∀ x ∈ p,x.block<W.heap.size:=fun x hx=>hlt0 x (by simp [hx])
 have hlt1:∀ x ∈ px1,x.block<W.heap.size:=fun x hx=>hlt0 x (by simp [hx])
 have hr1:∀ (W':World),Below W.heap.size W W'->DataW.Trod enc Tryz.prog W' 0 (fun b=>decide (b<W.heap.size)) true 28 v1 e1 px1:=fun W' hn=>Below.trod laidOutV (by kernel_rfl) (of_decide_eq_true (by kernel_rfl)) hs1 hn hlt1
 have hr2:∀ (W':World),Below W.heap.size W W'->DataW.Trod enc Tryz.prog W' 0 (fun b=>decide (b<W.heap.size)) true 3 v2 e2 px2:=fun W' hn=>Below.trod laidOutV (by kernel_rfl) (of_decide_eq_true (by kernel_rfl)) hs2 hn (fun x hx=>hlt0 x (by simp [hx]))
 have hargs:∀ (W':World),Below W.heap.size W W'->DataW.Trod enc Tryz.prog W' 0 (fun b=>decide (b<W.heap.size)) true 27 v0 d0 p :=
  fun W' hn=>Below.trod laidOutV (by kernel_rfl) (of_decide_eq_true (by kernel_rfl)) h0k hn hlt
 obtain ⟨u0,u1,u2,u3,y0,y1,y2,y3,n,rfl,rfl,rfl,t0,t1,t2,t3⟩:=Go.Joins.open_agg4 Tryz.underlying27 (by kernel_rfl) cellsForm (hval 0 27 v0 rfl rfl) h0
 obtain ⟨al,ll,alc,rfl,hl1,hl2,hl3⟩:=qei Tryz.underlying22 Tryz.underlying9 cellsStr t0 (fun x hx=>hlt x (by simp [hx]))
 obtain ⟨ap,lp,apc,rfl,hp1,hp2⟩:=qia Tryz.underlying23 Tryz.underlying106 cellsPairL rfl rfl Tryz.underlying3 Tryz.underlying3 cellsInt0 cellsInt0 t1 (fun x hx=>hlt x (by simp [hx]))
 obtain ⟨ar,lr,arc,rfl,hrr1,hrr2,hrr3⟩:=qib Tryz.underlying24 Tryz.underlying82 cellsRoleL rfl rfl Tryz.underlying9 Tryz.underlying3 cellsStr cellsInt0 t2 (fun x hx=>hlt x (by simp [hx]))
 obtain ⟨af,lf,AF,afc,rfl,hf1,hf2,hf3⟩:=qee t3 (fun x hx=>hlt x (by simp [hx]))
 obtain ⟨qa,qL,qc,rfl⟩:=okWide_slice Tryz.underlying28 (hval 1 28 v1 rfl rfl)
 obtain ⟨nc,hsx⟩:=hs1
 obtain ⟨ca,cL,ccap,ce,hce,hcl1,hcl2,hcl3⟩:=qed (v:=.slice qa qL qc) (y:=(e1,px1)) hsx hlt1
 obtain ⟨rfl,rfl,rfl⟩:qa=ca/\qL=cL/\qc=ccap:=by simpa using hce
 obtain ⟨rz,rfl⟩:=okWide_int Tryz.underlying3 (hval 2 3 v2 rfl rfl)
 refine (q8k ⟨ll,lp,lr,lf⟩ ⟨al,alc,ap,apc,ar,arc,af,afc,AF⟩ qL qc qa ce rz W ⟨hl1,hp1,hrr1,hf1,hl3,hrr3,hf3⟩ hcl1 hcl3 ⟨hl2,hp2,hrr2,hf2⟩ hcl2 ht hy htb).mono fun e W' ⟨he,hn⟩=>?_
 subst he
 exact ⟨_,rfl,⟨_,_,_,[],_,_,hW',trodAll_mk1 (shut_bool Tryz.underlying4 _),trodAll_cons_mk (hargs _ hn) (trodAll_mk2 (hr1 _ hn) (hr2 _ hn)),Below.trodVars laidOutV hn (by kernel_rfl) hV,hn.frame _,fun h=>by cases h⟩⟩
theorem witnessEx (os:Os) {H:Type} (enc:TypeId × Value->H) (w0:World) (e:w0 = { World.holding Tryz.prog os ⟨#[],#[],[]⟩ with heap:=(((((World.holding Tryz.prog os ⟨#[],#[],[]⟩).heap.modify 3 (laidT .u8 (Lib.deBruijn32tab.map (fun n=>((n:Nat):Int))))).modify 4 (laidT .u8 (Lib.deBruijn64tab.map (fun n=>((n:Nat):Int))))).modify 0 (laidT .u64 Lib.pow10Tab)).modify 5 (laidS wrdT)).modify 2 (laidS tyT) }) :
 ∃ (w:World) (tape:Tape) (i:Input),w.os=os/\(w.forCall tape i).Shaped Tryz.checked.prog/\i.vars=[]/\Input.okWide Tryz.checked.prog (w.forCall tape i) .any w.heap.size 3 i /\
  (OpenSpec.ofChange Rows.fnExactExportSpec).preRow enc Tryz.checked.prog Tryz.f3 Rows.fnExactExportRow.domain false Rows.fnExactExportRow.laid (w.forCall tape i).memory i.args/\({ modest:=false }:Assume).holds Tryz.checked.prog (lone (Frame.enter Tryz.checked.prog 3 i.args .normal) [] (w.forCall tape i)):=by
 exact witness_row_at (enc:=enc) (C:=Tryz.checked) false w0 #[.agg #[.slice none 0 0,.slice none 0 0,.slice none 0 0,.slice none 0 0],.slice none 0 0,.int .i64 0] (by subst e;rfl) (by subst e;kernel_rfl) (by subst e;kernel_rfl) (by subst e;kernel_rfl)
  (OpenSpec.preRow_of_cond (x:=([.agg [.nil,.nil,.nil,.nil],.nil,.lit (.int .i64 0)],[Rows.laid_loop_example_s0011_impl_operatorWords,Rows.laid_loop_example_s0011_impl_typeWords],MemPlace.row ⟨5,0,none⟩ 26++MemPlace.row ⟨2,0,none⟩ 4)) 8 (by subst e;kernel_rfl) (by subst e;kernel_rfl) (fun k hk=>by cases hk) (by subst e;kernel_rfl) (laidMet_of_run' 8 (by subst e;kernel_rfl) (by subst e;kernel_rfl)))
theorem liftedEx (os:Os) (started:os.Started) (H:Type) (enc:TypeId × Value->H) (F:Stop.Interp) :
 ReturnsInHanded {} Tryz.checked os 3 .any ((OpenSpec.ofChange Rows.fnExactExportSpec).preRow enc Tryz.prog Tryz.f3 Rows.fnExactExportRow.domain false Rows.fnExactExportRow.laid) (((OpenSpec.ofChange Rows.fnExactExportSpec).at F).post enc Tryz.prog Tryz.f3 false true false false):=by
 refine returnsInHanded_of_row (C:=Tryz.checked) (s:=OpenSpec.ofChange Rows.fnExactExportSpec) knobsV started (by kernel_rfl) Tryz.func3 (witnessEx os enc _ rfl) ?_
 intro W base args ds gs before hval hW _ _ _ hL _ _
 exact contractEx H enc W base args ds gs before hval hW ⟨q70 hL.tail.tail.tail,pow_of hL⟩ (q9t hL.tail.tail.tail.tail) (qgp hL)
theorem saidEx:Rows.FnExactExportSaid :=
 OpenClaim.holds_of_cond 3 Tryz.f3 rfl rfl rfl rfl rfl rfl rfl ⟨rfl,rfl,rfl,rfl,rfl⟩ rfl rfl rfl rfl rfl (by kernel_rfl) Tryz.func3 (by kernel_rfl)
  (of_decide_eq_true (by kernel_rfl)) (by unfold Func.isWrapper;first | (rw [if_pos (by decide +kernel)];kernel_rfl) | (rw [if_neg (by decide +kernel)];exact ⟨rfl,rfl⟩))
  (fun os started H enc _ F=>by rw [OpenClaim.pre_eq_preRow];exact liftedEx os started H enc F)
theorem plainEx (f:FuncId) (fn:Func) (hf:Tryz.pinned.checked.prog.funcNamed "loop.example/s0011/laws.FnExactExport" = some f) (hfn:Tryz.pinned.checked.prog.funcs[f]? = some fn) :
 Rows.fnExactExportCard.stood.looks=Tryz.pinned.checked.prog.looks []/\∀ (j:Nat) t,fn.params[j]? = some t->Tryz.pinned.checked.prog.wantsStandIn t=false:=by
 obtain rfl:f=3:=Option.some.inj ((show Tryz.prog.funcNamed "loop.example/s0011/laws.FnExactExport" = some 3 by kernel_rfl).symm.trans hf) |>.symm
 obtain rfl:fn=Tryz.f3:=(Option.some.inj (Tryz.func3.symm.trans hfn)).symm
 refine ⟨by kernel_rfl,fun j t ht=>?_⟩
 rw [Tryz.params3] at ht
 have hm:=Array.mem_of_getElem? ht
 simp only [List.mem_toArray,List.mem_cons,List.not_mem_nil,or_false] at hm
 rcases hm with rfl | rfl | rfl
 . exact (show Tryz.prog.wantsStandIn 27=false by kernel_rfl)
 . exact (show Tryz.prog.wantsStandIn 28=false by kernel_rfl)
 . exact (show Tryz.prog.wantsStandIn 3=false by kernel_rfl)
theorem cardEx:Rows.FnExactExportCardSaid :=
 Claim7.holds_tied_plain_at .later [] _ _ _ _ saidEx (fun _ h=>by cases h) (by kernel_rfl) (fun _ h=>by cases h) fnExactExport_row_tie rfl ⟨rfl,rfl⟩ (by kernel_rfl) rfl plainEx (by kernel_rfl)
end Go.Proofs.YtgkcaeidhkddjaaGreatDoor
