import Derived.Test.YtebbgodlijlioaaGreatDoorW47
import Derived.Test.YtebbgodlijlioaaGreatDoorW49
import Derived.Shelf.Vars
import Derived.OpenVars
import Derived.ChangeVars
set_option maxRecDepth 100000
set_option maxHeartbeats 64000000
namespace Go.Proofs.YtebbgodlijlioaaGreatDoor
open Go Go.RowKit
theorem qdc (which:Nat)(hw:which<4)(b:Bool):∃m P,FitN m/\∀w:World,Calls Tryz.prog 67 #[J9 which,.bool b] w fun e w'=>∃v1 v2 v3 v4,e=.returned (.agg #[v1,v2,v3,v4])/\OwM w' w.heap.size v1 v2 v3 v4 m P/\Below w.heap.size w w':=by
 have hb:b.toNat<=1:=by cases b <;> decide
 have h4:which=0∨which=1∨which=2∨which=3:=by omega
 rcases h4 with rfl | rfl | rfl | rfl
 . obtain⟨nm,hn⟩:=qdh q0z
   refine⟨_,_,⟨⟨?_,nZ _,nZ _,nZ _,fun x hx=>Ys (qhn (fun i hi=>(hn i hi).1) (31+b.toNat) (by omega) x hx) (by decide),fun x hx=>by simp at hx,fun x hx=>by simp at hx⟩,nZ _⟩,fun w=>qhp nm (fun i hi=>(hn i hi).2) b _ rfl w⟩;rw[qd9];omega
 . refine⟨⟨[lowS],limP (256+b.toNat),[],[]⟩,[],⟨⟨(show 1<=9223372036854775807 by decide),?_,nZ _,nZ _,low_in,fun x hx=>by simp at hx,fun x hx=>by simp at hx⟩,nZ _⟩,fun w=>qhq b _ rfl w⟩
   rw[qda];omega
 . obtain⟨nm,hn⟩:=qdh q1y
   refine⟨⟨[lowS],[],limR nm (64+b.toNat),[]⟩,[],⟨⟨(show 1<=9223372036854775807 by decide),nZ _,?_,nZ _,low_in,fun x hx=>Ys (qho (fun i hi=>(hn i hi).1) (64+b.toNat) (by omega) x hx) (by decide),fun x hx=>by simp at hx⟩,nZ _⟩,fun w=>qhr nm (fun i hi=>(hn i hi).2) b _ rfl w⟩;rw[qdb];omega
 . obtain⟨nm,hn⟩:=qdh (fun i hi=>q3r ⟨#[97,98,99,100,101,102,103,104]⟩ i (by decide) (by decide) hi)
   refine⟨⟨[lowS],[],[],(limF nm (200+b.toNat)).map (·.1)⟩,limF nm (200+b.toNat),⟨⟨(show 1<=9223372036854775807 by decide),nZ _,nZ _,?_,low_in,fun x hx=>by simp at hx,fun x hx=>(qhm (fun i hi=>(hn i hi).1) (200+b.toNat) (by omega) x hx).fit (by omega)⟩,by show(List.map _ _).length<=1000;rw[Yz,qd8];omega⟩,fun w=>qhs nm (fun i hi=>(hn i hi).2) b _ rfl w⟩;rw[Yz,qd8];omega
theorem limX:LimX:=fun which hw b=>by
 by_cases h4:which<4
 . obtain⟨m,P,hm,hc⟩:=qdc which h4 b
   exact⟨m,hm,fun w=>(hc w).mono fun e w' ⟨v1,v2,v3,v4,he,ho,hb⟩=>⟨v1,v2,v3,v4,P,he,ho,hb⟩⟩
 . obtain rfl:which=4:=by omega
   have hn:∀i:Nat,i<=1000->(nmT ab8 i=nmT ab8 i/\(nmT ab8 i).size<=64)/\∀w:World,Calls Tryz.prog 72 (Jt i) w fun e w'=>e=.returned (.string (nmT ab8 i))/\Below w.heap.size w w':=fun i hi=>by
    obtain⟨x,⟨e,hs⟩,hc⟩:=q3s ab8 i (by decide) (by decide) hi;subst e;exact⟨⟨rfl,hs⟩,hc⟩
   obtain⟨S,hS,hRp⟩:=q3q 1000 (by omega) (by omega);obtain⟨left,hleft⟩:=Nq (30000+(b.toNat:Int) - ((cT ⟨[lowS],[],[],lmL (nmT ab8) S 28⟩).length:Int) - 40);obtain⟨Z,hZs,hZ⟩:∃Z:ByteArray,Z.size<=1000/\(0<=left->left<=1000->Z.size<=1000/\∀w:World,Calls Tryz.prog 100 #[J9 left] w fun e w'=>e=.returned (.string Z)/\w'=w):=by
    by_cases h:0<=left/\left<=1000
    . by_cases h0:left=0
      . exact⟨⟨#[]⟩,by decide,fun _ _=>⟨by decide,fun w=>by rw[h0];exact q2j w⟩⟩
      . obtain⟨Z,hz,hc⟩:=q3q left.toNat (by omega) (by omega)
        rw[show((left.toNat:Nat):Int)=left by omega]at hc;exact⟨Z,by rw[hz.1];omega,fun _ _=>⟨by rw[hz.1];omega,hc⟩⟩
    . exact⟨⟨#[]⟩,by decide,fun h1 h2=>absurd ⟨h1,h2⟩ h⟩
   refine⟨_,?_,fun w=>(qht (nmT ab8) S hn hS hRp b b.toNat rfl left hleft Z hZ w).mono fun e w' ⟨v1,v2,v3,v4,P,he,ho,hb⟩=>⟨v1,v2,v3,v4,P,he,ho,hb⟩⟩;have hfit:=lm_fit (fun i hi=>(hn i (by omega)).1.2) (show S.size<=1000 by omega) 28 (nR _);have hlen:=qhv (nmT ab8) S 28;refine⟨⟨(show 1<=9223372036854775807 by decide),nZ _,nZ _,?_,low_in,fun x hx=>by simp at hx,fun x hx=>?_⟩,?_⟩
   . show List.length (if _ then _ else _)<=_
     split
     . rw[Yg,hlen];show 28+1<=_;omega
     . rw[hlen];omega
   . have hx:x∈(if 0<=left/\left<=1000 then lmL (nmT ab8) S 28++[⟨⟨#[122]⟩,3,0,[],[],[],[c28],Z,[]⟩] else lmL (nmT ab8) S 28):=hx
     split at hx
     . rcases Y9.1 hx with hx | hx
       . exact hfit x hx
       . obtain rfl:=Yx.1 hx
         exact fit28 (by decide) hZs
     . exact hfit x hx
   . show List.length (if _ then _ else _)<=_
     split
     . rw[Yg,hlen];show 28+1<=_;omega
     . rw[hlen];omega
theorem spoX (len:Nat)(f:Nat->Nat)(hlen:len<=1048576):SpoX len f:=fun q hq N nr m hN hnr hm h0=>by
 have hk:tkD len f (q+1) m.F.length<m.F.length:=tk_lt hlen (by omega) h0 (by have:=hm.fl;omega)
 have hx:tkD len f (q+2) m.F.length<m.F.length:=tk_lt hlen (by omega) h0 (by have:=hm.fl;omega)
 refine⟨_,⟨qbe hm hN hnr (tkD len f q 20) (tkD len f (q+1) m.F.length) (tkD len f (q+2) m.F.length) hx hk,by show(List.set _ _ _).length<=1000;rw[Zz];have:=hm.fl;omega⟩,fun w a c base v1 v2 v3 v4 P hby hbs om=>?_⟩
 exact qbd len f hlen q hq m N _ nr _ hm.ll hN rfl hm.pl hm.rl hnr rfl hm.fl h0 (fun y hy=>Ys (hm.fs y hy).bs.1 hnr) _ _ _ rfl rfl rfl w a c hby base hbs v1 v2 v3 v4 P om
theorem drwG (len:Nat)(f:Nat->Nat)(hlen:len<=1048576):DrwG len f:=qaa len f hlen limX (spoX len f hlen)
end Go.Proofs.YtebbgodlijlioaaGreatDoor
namespace Go.Proofs.YtebbgodlijlioaaGreatDoor
open Go Go.RowKit Go.ChangeShapes Go.WideShapes Go.ChangeAt
theorem q8u (b off j:Nat):(⟨b,off,none⟩:Addr).add j=⟨b,off+j,none⟩:=by simp[Addr.add]
section
variable {H:Type} {enc:TypeId × Value->H} {P:Program} {w:World} {base:Nat} {held:Bool}
theorem q9u {t e:TypeId}{n:Nat}{v:Value}{y:DataW H × List MemPlace}(ht:P.underlying t=some (.slice e))(he:P.underlying e=some (.int .u8))(hc:P.cellsOf e=1)(h:DataW.trod enc P w base (fun _=>true) held n t [v]=some y)
 (hlt:∀x∈y.2,x.block<w.heap.size):∃a len cap f,v=.slice a len cap/\len<=9223372036854775807/\Byts w a len f:=by
 rcases open_ints ht he hc h with ⟨h0,-⟩ | ⟨a,len,cap,zs,h0,-,hl,hm,hz,rfl,hx,hw⟩
 . exact⟨none,0,0,fun _=>0,by simpa using h0,by omega,fun k hk=>absurd hk (nL _)⟩
 . simp only[if_true]at hz
   refine⟨some a,len,cap,fun k=>(zs.getD k 0).toNat,by simpa using h0,by have:maxLen=9223372036854775807:=rfl;omega,fun k hk=>?_⟩;have hk':k<zs.length:=by omega
   obtain⟨b,off,spot⟩:=a;have hs:spot=none:=by simpa [Addr.add] using World.cell?_spot (hx 0 (by omega))
   subst hs;have hq:=hx k hk';rw[q8u]at hq;have hin:zs.getD k 0∈zs:=by rw[Yl,Yj hk'];exact Yk hk'
   have hb:=hw _ hin;have hr:0<=zs.getD k 0/\zs.getD k 0<256:=by
    have e1:IntKind.u8.min=0:=(by decide);have e2:IntKind.u8.max=255:=(by decide);simp only[Lit.wf,Yp,Yq,e1,e2]at hb;omega
   refine⟨by dsimp only;omega,b,off,rfl,hlt (.cell b (off+k)) (MemPlace.mem_row.2 ⟨k,hk',by simp⟩),?_⟩;rw[hq];dsimp only;rw[Int.toNat_of_nonneg hr.1]
end
def tyT:List ByteArray:=[⟨#[]⟩,⟨#[105,110,116]⟩,⟨#[98,111,111,108]⟩,⟨#[116,101,120,116]⟩]
theorem gTy:Tryz.prog.globalNamed "loop.example/s0011/impl.typeWords" = some 0:=by kernel_rfl
theorem gTyType:(Tryz.prog.globals[0]?).map (·.type)=some 193:=by kernel_rfl
theorem cellsTy:Tryz.prog.cellsOf 193=4:=by kernel_rfl
theorem ty_eq:(Rows.laid_loop_example_s0011_impl_typeWords:DataW Unit)=.agg ((tyT.map (·.data.toList)).map fun z=>.lit (.string z)):=by rfl
theorem q8o {W:World}{rest:List (String × DataW Unit)}(h:laidMet Tryz.prog (("loop.example/s0011/impl.typeWords",Rows.laid_loop_example_s0011_impl_typeWords) :: rest) W):TyW W:=by
 rw[ty_eq]at h
 obtain⟨ps,⟨g',t',cs,fuel,p,q,hg',ht',hvar,hd,_,_⟩,_⟩:=h
 obtain rfl:=Z6 (gTy.symm.trans hg')
 obtain rfl:=Z6 (gTyType.symm.trans ht')
 have hc:=q2a Tryz.underlying193 Tryz.underlying9 cellsStr cellsTy hd
 have hcell:∀k,k<4->W.cell? ⟨0,k,none⟩=some (.string (tyT.getD k ⟨#[]⟩)):=fun k hk=>by
  have:=World.var?_cell gTy hvar k;rw[this];have e:cs[k]? = cs.toList[k]?:=by simp
  rw[e,hc];have hl:tyT.length=4:=rfl;simp only[List.map_map,Zk];rw[Yj (by omega)];simp[List.getD,List.getElem?_eq_getElem (show k<tyT.length by omega)]
 refine⟨?_,fun k h1 h3=>?_⟩
 . apply On
   intro h0;have hz:=hcell 0 (by omega);have e:W.heap[(0:Nat)]? = none:=Array.getElem?_eq_none h0;simp[World.cell?,e]at hz
 . rw[hcell k (by omega)]
   obtain rfl | rfl | rfl:k=1∨k=2∨k=3:=by omega
   . rfl
   . rfl
   . rfl
theorem gTabL:Tryz.prog.globalNamed "math/bits.deBruijn32tab" = some 1:=by kernel_rfl
theorem gTabTypeL:(Tryz.prog.globals[1]?).map (·.type)=some 199:=by kernel_rfl
theorem cellsTabL:Tryz.prog.cellsOf 199=32:=by kernel_rfl
theorem cellsU8L:Tryz.prog.cellsOf 5=1:=by kernel_rfl
theorem qf4 {W:World}{rest:List (String × DataW Unit)}(h:laidMet Tryz.prog (("math/bits.deBruijn32tab",Rows.laid_math_bits_deBruijn32tab) :: rest) W):Tab W:=by
 have T:Lib.TabIs Tryz.prog W "math/bits.deBruijn32tab" .u8 (Lib.deBruijn32tab.map (fun n=>((n:Nat):Int))) :=
  Lib.tabIs_of_head (rest:=rest) gTabL gTabTypeL Tryz.underlying199 Tryz.underlying5 cellsU8L cellsTabL h
 have e:∀j,j<32->(Lib.deBruijn32tab.map (fun n=>((n:Nat):Int))).getD j 0=((Lib.deBruijn32tab.getD j 0:Nat):Int):=by decide +kernel
 intro j hj
 rw[<- e j hj]
 exact T.cell gTabL j (by simpa [Lib.deBruijn32tab] using hj)
theorem cellsU8F:Tryz.prog.cellsOf 5=1:=by kernel_rfl
theorem contractLe (H:Type)(enc:TypeId × Value->H)(W:World)(base:Nat)(args:Array Value)(ds gs:List (DataW H))(before:List MemPlace)
 (hval:∀(j:Nat) t v,Tryz.f3.params[j]? = some t->args[j]? = some v->Value.okWide Tryz.prog W .any base t v)
 (hW:DataW.Whole enc Tryz.prog Tryz.f3.params.toList Rows.fnLeastSpec.vars false W args.toList ds gs before) (ht:Tabs W) (hy:TyW W) (htb:Tab W) :
 Calls Tryz.prog 3 args W fun e W'=>∃v,e=.returned v/\Rows.fnLeastSpec.post enc Tryz.prog Tryz.f3 false true false false W args v W':=by
 have hW':=hW
 obtain⟨p,q,hA0,hV,rfl,hfz,hnd⟩:=hW
 have hA:DataW.TrodAll enc Tryz.prog W 0 (fun _=>true) true Tryz.f3.params.toList args.toList ds p:=hA0
 rw[Tryz.params3]at hA hval
 obtain⟨v0,v1,d0,e1,p,px,rfl,rfl,rfl,h0,hs0⟩:=trodAll_two hA
 obtain⟨g0,t0',cs0,f0,d1,p1,g1,t1',cs1,f1,d2,p2,rfl,-,-,-,-,-,-,-,-,-⟩:=trodVars_two hV
 have h0k:=h0
 have h1k:=hs0
 clear hA0
 have hlt0:∀x∈p++px,x.block<W.heap.size:=fun x hx=>by simpa using hW'.lt x (List.mem_append_left _ hx)
 have hlt:∀x∈p,x.block<W.heap.size:=fun x hx=>hlt0 x (List.mem_append_left _ hx)
 have hltx:∀x∈px,x.block<W.heap.size:=fun x hx=>hlt0 x (List.mem_append_right _ hx)
 have hargs1:∀(W':World),Below W.heap.size W W'->DataW.Trod enc Tryz.prog W' 0 (fun b=>decide (b<W.heap.size)) true 22 v1 e1 px :=
  fun W' hn=>Below.trod laidOutV (by kernel_rfl) (Ze (by kernel_rfl)) h1k hn hltx
 have hargs:∀(W':World),Below W.heap.size W W'->DataW.Trod enc Tryz.prog W' 0 (fun b=>decide (b<W.heap.size)) true 22 v0 d0 p :=
  fun W' hn=>Below.trod laidOutV (by kernel_rfl) (Ze (by kernel_rfl)) h0k hn hlt
 obtain⟨a3,m1,c3,rfl⟩:=okWide_slice Tryz.underlying22 (hval 0 22 v0 rfl rfl)
 obtain⟨a4,m2,c4,rfl⟩:=okWide_slice Tryz.underlying22 (hval 1 22 v1 rfl rfl)
 obtain⟨fuel,hf⟩:=h0
 obtain⟨fuel2,hf2⟩:=hs0
 obtain⟨a3',m',c3',x',e3,l3,k3⟩:=q9u (v:=.slice a3 m1 c3) Tryz.underlying22 Tryz.underlying5 cellsU8F hf hlt
 obtain⟨a4',m2',c4',x2',e4,l4,k4⟩:=q9u (v:=.slice a4 m2 c4) Tryz.underlying22 Tryz.underlying5 cellsU8F hf2 hltx
 simp only[Value.slice.injEq]at e3 e4
 obtain⟨rfl,rfl,rfl⟩:=e3
 obtain⟨rfl,rfl,rfl⟩:=e4
 refine(q3z m1 m2 x' x2' a3 a4 c3 c4 W k3 k4 ht hy htb (fun h=>drwG m1 x' h)).mono fun e W' ⟨he,hn⟩=>?_
 subst he
 exact⟨_,rfl,⟨_,_,_,[],_,_,hW',trodAll_mk1 (shut_bool Tryz.underlying4 _),trodAll_mk2 (hargs _ hn) (hargs1 _ hn),Below.trodVars laidOutV hn (by kernel_rfl) hV,hn.frame _,fun h=>by cases h⟩⟩
theorem witnessLe (os:Os){H:Type}(enc:TypeId × Value->H)(w0:World)(e:w0 = { World.holding Tryz.prog os ⟨#[],#[],[]⟩ with heap:=(((((World.holding Tryz.prog os ⟨#[],#[],[]⟩).heap.modify 1 (laidT .u8 (Lib.deBruijn32tab.map (fun n=>((n:Nat):Int))))).modify 5 (laidT .u8 (Lib.deBruijn64tab.map (fun n=>((n:Nat):Int))))).modify 4 (laidT .u64 Lib.pow10Tab)).modify 3 (laidS wrdT)).modify 0 (laidS tyT) }) :
 ∃(w:World) (tape:Tape) (i:Input),w.os=os/\(w.forCall tape i).Shaped Tryz.checked.prog/\i.vars=[]/\Input.okWide Tryz.checked.prog (w.forCall tape i) .any w.heap.size 3 i /\
  (OpenSpec.ofChange Rows.fnLeastSpec).preRow enc Tryz.checked.prog Tryz.f3 Rows.fnLeastRow.domain false Rows.fnLeastRow.laid (w.forCall tape i).memory i.args/\({ modest:=false }:Assume).holds Tryz.checked.prog (lone (Frame.enter Tryz.checked.prog 3 i.args .normal) [] (w.forCall tape i)):=by
 exact witness_row_at (enc:=enc) (C:=Tryz.checked) false w0 #[Ya,Ya] (by subst e;rfl) (by subst e;kernel_rfl) (by subst e;kernel_rfl) (by subst e;kernel_rfl)
  (OpenSpec.preRow_of_cond (x:=([.nil,.nil],[Rows.laid_loop_example_s0011_impl_operatorWords,Rows.laid_loop_example_s0011_impl_typeWords],MemPlace.row ⟨3,0,none⟩ 26++MemPlace.row ⟨0,0,none⟩ 4)) 8 (by subst e;kernel_rfl) (by subst e;kernel_rfl) (fun k hk=>by cases hk) (by subst e;kernel_rfl) (laidMet_of_run' 8 (by subst e;kernel_rfl) (by subst e;kernel_rfl)))
theorem liftedLe (os:Os)(started:os.Started)(H:Type)(enc:TypeId × Value->H)(F:Stop.Interp) :
 ReturnsInHanded {} Tryz.checked os 3 .any ((OpenSpec.ofChange Rows.fnLeastSpec).preRow enc Tryz.prog Tryz.f3 Rows.fnLeastRow.domain false Rows.fnLeastRow.laid) (((OpenSpec.ofChange Rows.fnLeastSpec).at F).post enc Tryz.prog Tryz.f3 false true false false):=by
 refine returnsInHanded_of_row (C:=Tryz.checked) (s:=OpenSpec.ofChange Rows.fnLeastSpec) knobsV started (by kernel_rfl) Tryz.func3 (witnessLe os enc _ rfl) ?_
 intro W base args ds gs before hval hW _ _ _ hL _ _
 exact contractLe H enc W base args ds gs before hval hW ⟨q67 hL.tail.tail.tail,pow_of hL⟩ (q8o hL.tail.tail.tail.tail) (qf4 hL)
theorem saidLe:Rows.FnLeastSaid :=
 OpenClaim.holds_of_cond 3 Tryz.f3 rfl rfl rfl rfl rfl rfl rfl ⟨rfl,rfl,rfl,rfl,rfl⟩ rfl rfl rfl rfl rfl (by kernel_rfl) Tryz.func3 (by kernel_rfl)
  (Ze (by kernel_rfl)) (by unfold Func.isWrapper;first | (rw[Yy (by decide +kernel)];kernel_rfl) | (rw[Yu (by decide +kernel)];exact⟨rfl,rfl⟩))
  (fun os started H enc _ F=>by rw[OpenClaim.pre_eq_preRow];exact liftedLe os started H enc F)
theorem plainLe (f:FuncId)(fn:Func)(hf:Tryz.pinned.checked.prog.funcNamed "loop.example/s0011/laws.FnLeast" = some f) (hfn:Tryz.pinned.checked.prog.funcs[f]? = some fn) :
 Rows.fnLeastCard.stood.looks=Tryz.pinned.checked.prog.looks []/\∀(j:Nat) t,fn.params[j]? = some t->Tryz.pinned.checked.prog.wantsStandIn t=false:=by
 obtain rfl:f=3:=Z6 ((show Tryz.prog.funcNamed "loop.example/s0011/laws.FnLeast" = some 3 by kernel_rfl).symm.trans hf) |>.symm
 obtain rfl:fn=Tryz.f3:=(Z6 (Tryz.func3.symm.trans hfn)).symm
 refine⟨by kernel_rfl,fun j t ht=>?_⟩
 rw[Tryz.params3]at ht
 obtain rfl:t=22:=by simpa using Array.mem_of_getElem? ht
 exact(show Tryz.prog.wantsStandIn 22=false by kernel_rfl)
theorem cardLe:Rows.FnLeastCardSaid :=
 Claim7.holds_tied_plain_at .later [] _ _ _ _ saidLe (fun _ h=>by cases h) (by kernel_rfl) (fun _ h=>by cases h) fnLeast_row_tie rfl ⟨rfl,rfl⟩ (by kernel_rfl) rfl plainLe (by kernel_rfl)
end Go.Proofs.YtebbgodlijlioaaGreatDoor
