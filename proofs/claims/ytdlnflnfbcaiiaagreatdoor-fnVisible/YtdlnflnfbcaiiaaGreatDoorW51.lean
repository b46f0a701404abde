import Derived.Test.YtdlnflnfbcaiiaaGreatDoorW43
import Derived.Test.YtdlnflnfbcaiiaaGreatDoorW50
import Derived.Shelf.Vars
import Derived.OpenVars
set_option maxRecDepth 100000
set_option maxHeartbeats 0
namespace Go.Proofs.YtdlnflnfbcaiiaaGreatDoor
section
open Go Go.RowKit Go.Proofs.Tryz
theorem spoX (X:Nat)(f:Nat->Nat)(L:X<=1048576):DP X f:=λq J N E m O S w D=>by have k:N0 X f (q+1) m.F.length<m.F.length:=m8 L fP D (by have:=w.fl;omega);have u:N0 X f (q+2) m.F.length<m.F.length:=m8 L fP D (by have:=w.fl;omega);refine⟨_,⟨qht w O S (N0 X f q 20) (N0 X f (q+1) m.F.length) (N0 X f (q+2) m.F.length) u k,by show(List.set _ _ _).length<=1000;rw[Vm];have:=w.fl;omega⟩,λh a c b g V Y y P z B e=>?_⟩;exact qhs X f L q J m N _ E _ w.ll O rfl w.pl w.rl S rfl w.fl D (λi d=>Yu (w.fs i d).bs.1 S) _ _ _ rfl rfl rfl h a c z b B g V Y y P e
end
section
open Go Go.RowKit Go.ChangeShapes Go.WideShapes Go.ChangeAt Go.Proofs.Tryz
theorem qdm (b x j:Nat):(⟨b,x,none⟩:Addr).add j=⟨b,x+j,none⟩:=by simp[Addr.add]
section
variable {H:Type} {enc:TypeId × Value->H} {P:Program} {w:Tw} {base:Nat} {held:Bool}
theorem qfe {t e:TypeId}{n:Nat}{v:Value}{y:DataW H × List MemPlace}(r:P.underlying t=some (.slice e))(g:P.underlying e=some (.int .u8))(d:P.cellsOf e=1)(h:DataW.trod enc P w base (λ_=>true) held n t [v]=some y) (S:∀x∈y.2,x.block<w.1.size):∃a X N f,v=.slice a X N/\X<=9223372036854775807/\O7 w a X f:=by rcases open_ints r g d h with ⟨D,-⟩ | ⟨a,X,N,zs,D,-,j,l,i,rfl,u,W⟩;{exact⟨none,0,0,λ_=>0,gs,fP,λk b=>absurd b (nL _)⟩};simp only[if_true]at i;refine⟨some a,X,N,λk=>(zs.getD k 0).toNat,gs,by have:maxLen=9223372036854775807:=rfl;omega,λk b=>?_⟩;have q:k<zs.length:=fP;obtain⟨b,x,z⟩:=a;have B:z=none:=(by simpa [Addr.add] using World.cell?_spot (u 0 fP));subst B;have J:=u k q;rw[qdm]at J;have f:zs.getD k 0∈zs:=(by rw[Yr,Yp q];exact Yq q);have c:=W _ f;have Q:0<=zs.getD k 0/\zs.getD k 0<256:=(by have Z:IntKind.u8.min=0:=fS;have K:IntKind.u8.max=255:=fS;simp only[Lit.wf,Yx,Y3,Z,K]at c;omega);refine⟨by dsimp only;omega,b,x,rfl,S (.cell b (x+k)) (MemPlace.mem_row.2 ⟨k,q,fT⟩),?_⟩;rw[J];dsimp only;rw[Int.toNat_of_nonneg Q.1]
end
def FO:List Tb:=[⟨#[]⟩,⟨#[105,110,116]⟩,⟨#[98,111,111,108]⟩,⟨#[116,101,120,116]⟩]
theorem AX:prog.globalNamed "loop.example/s0011/impl.typeWords" = some 0:=by kernel_rfl
theorem Ml:(prog.globals[0]?).map (·.type)=some 286:=by kernel_rfl
theorem Nl:prog.cellsOf 286=4:=by kernel_rfl
theorem Xr:(Rows.laid_loop_example_s0011_impl_typeWords:DataW Unit)=.agg ((FO.map (·.data.toList)).map λz=>.lit (.string z)):=by rfl
theorem qdb {W:Tw}{rest:List (String × DataW Unit)}(h:laidMet prog (("loop.example/s0011/impl.typeWords",Rows.laid_loop_example_s0011_impl_typeWords) :: rest) W):B8 W:=by rw[Xr]at h;obtain⟨d,⟨c,i,B,S,p,f,j,g,z,q,_,_⟩,_⟩:=h;obtain rfl:=Z7 (AX.symm.trans j);obtain rfl:=Z7 (Ml.symm.trans g);have a:=b_ underlying286 underlying9 PO Nl q;have N:∀k,k<4->W.cell? ⟨0,k,none⟩=some (.string (FO.getD k ⟨#[]⟩)):=λk b=>(by have:=World.var?_cell AX z k;rw[this];have e:B[k]? = B.toList[k]?:=fT;rw[e,a];have b:FO.length=4:=rfl;simp only[List.map_map,Zt];rw[Yp fP];simp[List.getD,List.getElem?_eq_getElem (show k<FO.length by omega)]);refine⟨?_,λk m Z=>?_⟩;{apply Ow;intro D;have b:=N 0 fP;have e:W.heap[(0:Nat)]? = none:=Ox D;simp[World.cell?,e]at b};rw[N k fP];obtain rfl | rfl | rfl:k=1∨k=2∨k=3:=fP;{rfl};{rfl};rfl
theorem LY:prog.globalNamed "math/bits.deBruijn32tab" = some 1:=by kernel_rfl
theorem Ik:(prog.globals[1]?).map (·.type)=some 299:=by kernel_rfl
theorem Lk:prog.cellsOf 299=32:=by kernel_rfl
theorem Tk:prog.cellsOf 5=1:=by kernel_rfl
theorem qo6 {W:Tw}{rest:List (String × DataW Unit)}(h:laidMet prog (("math/bits.deBruijn32tab",Rows.laid_math_bits_deBruijn32tab) :: rest) W):Q2 W:=by have T:Lib.TabIs prog W "math/bits.deBruijn32tab" .u8 (Lib.deBruijn32tab.map (λn=>((n:Nat):Int))) := Lib.tabIs_of_head (rest:=rest) LY Ik underlying299 underlying5 Tk Lk h;have e:∀j,j<32->(Lib.deBruijn32tab.map (λn=>((n:Nat):Int))).getD j 0=((Lib.deBruijn32tab.getD j 0:Nat):Int):=(by decide +kernel);intro j s;rw[<- e j s];exact T.cell LY j (by simpa [Lib.deBruijn32tab] using s)
theorem Wk:prog.cellsOf 5=1:=by kernel_rfl
theorem qsi {W:Tw}(h:W.ShapedOpen prog):EL W:=by obtain⟨z,a⟩:=cell_of_shapedOpen_int (g:=2) (t:=3) (k:=.i64) (zero:=#[Ye 0]) h (Zq fR) fR rfl fR fR underlying3;refine⟨z,?_,a⟩;apply Ow;intro D;have e:W.heap[(2:Nat)]? = none:=Ox D;simp[World.cell?,e]at a
def yZ:Input:=⟨#[.cells #[.string ⟨#[118,97,108,117,101,32,111,117,116,32,111,102,32,114,97,110,103,101]⟩] 347,.cells #[.string ⟨#[105,110,118,97,108,105,100,32,115,121,110,116,97,120]⟩] 347],#[],[]⟩
theorem Nk (H:Type)(enc:TypeId × Value->H)(W:Tw)(base:Nat)(args:Ta)(l A:List (DataW H))(B:List MemPlace) (N6:∀(j:Nat) t a,Tryz.f3.params[j]? = some t->args[j]? = some a->Value.okWide prog W .any base t a) (d:DataW.Whole enc prog Tryz.f3.params.toList Rows.fnVisibleSpec.vars false W args.toList l A B) (t:CL W):Calls prog 3 args W λe y=>∃a,e=.returned a/\Rows.fnVisibleSpec.post enc prog Tryz.f3 false true false false W args a y:=by have T:=d;obtain⟨p,N,U,c,rfl,J,K⟩:=d;have m:DataW.TrodAll enc prog W 0 (λ_=>true) true Tryz.f3.params.toList args.toList l p:=U;rw[params3]at m N6;obtain⟨R,f,rfl,rfl,D⟩:=trodAll_one m;obtain⟨E,O,o,q,d1,L,G,Q,z,r,d2,M,rfl,-,-,-,-,-,-,-,-,-⟩:=trodVars_two c;have g:=D;clear U;have S:∀x∈p,x.block<W.1.size:=λx u=>(by simpa using T.lt x (On _ u));have I:∀(y:Tw),Bw W y->DataW.Trod enc prog y 0 (λb=>decide (b<W.1.size)) true 22 R f p := λy a=>Below.trod EX fR (Zq fR) g a S;obtain⟨C,F,c3,rfl⟩:=okWide_slice underlying22 (N6 0 22 R rfl rfl);obtain⟨s,U⟩:=D;obtain⟨k,u,n,X,b,Z,j⟩:=qfe (v:=.slice C F c3) underlying22 underlying5 Wk U S;simp only[Value.slice.injEq]at b;obtain⟨rfl,rfl,rfl⟩:=b;refine(Up F X C c3 W j t (λh=>spoX F X h)).mono λe y ⟨i,a⟩=>?_;subst i;exact⟨_,rfl,⟨_,_,_,[],_,_,T,trodAll_mk1 (shut_bool underlying4 _),trodAll_mk1 (I _ a),Below.trodVars EX a fR c,a.frame _,λh=>gC⟩⟩
theorem Mk (a:Os){H:Type}(enc:TypeId × Value->H)(b:Tw)(e:b = { World.holding prog a yZ with heap:=(((((((World.holding prog a yZ).heap.modify 1 (pT .u8 (Lib.deBruijn32tab.map (λn=>((n:Nat):Int))))).modify 7 (pT .u8 (Lib.deBruijn64tab.map (λn=>((n:Nat):Int))))).modify 6 (pT .u64 Lib.pow10Tab)).modify 4 (KY (World.holding prog default ⟨#[],#[],[]⟩).1.size)).modify 3 (KY ((World.holding prog default ⟨#[],#[],[]⟩).1.size+1))).modify 5 (MY IH)).modify 0 (MY FO) }):∃(w:Tw) (E:Tape) (i:Input),w.os=a/\(w.forCall E i).Shaped Tryz.checked.prog/\i.vars=[]/\Input.okWide Tryz.checked.prog (w.forCall E i) .any w.1.size 3 i /\ (OpenSpec.ofChange Rows.fnVisibleSpec).preRow enc Tryz.checked.prog Tryz.f3 Rows.fnVisibleRow.domain false Rows.fnVisibleRow.laid (w.forCall E i).memory i.args/\({ modest:=false }:Assume).holds Tryz.checked.prog (lone (Frame.enter Tryz.checked.prog 3 i.args .normal) [] (w.forCall E i)):=by exact witness_row_at (enc:=enc) (C:=Tryz.checked) false b #[Yf] (by subst e;rfl) (by subst e;kernel_rfl) (by subst e;kernel_rfl) (by subst e;kernel_rfl) (OpenSpec.preRow_of_cond (x:=([.nil],[Rows.laid_loop_example_s0011_impl_operatorWords,Rows.laid_loop_example_s0011_impl_typeWords],MemPlace.row ⟨5,0,none⟩ 26++MemPlace.row ⟨0,0,none⟩ 4)) 8 (by subst e;kernel_rfl) (by subst e;kernel_rfl) (λk k=>by cases k) (by subst e;kernel_rfl) (laidMet_of_run' 8 (by subst e;kernel_rfl) (by subst e;kernel_rfl)))
theorem Xk (a:Os)(d:a.Started)(H:Type)(enc:TypeId × Value->H)(F:Stop.Interp):ReturnsInHanded {} Tryz.checked a 3 .any ((OpenSpec.ofChange Rows.fnVisibleSpec).preRow enc prog Tryz.f3 Rows.fnVisibleRow.domain false Rows.fnVisibleRow.laid) (((OpenSpec.ofChange Rows.fnVisibleSpec).at F).post enc prog Tryz.f3 false true false false):=by refine returnsInHanded_of_row (C:=Tryz.checked) (s:=OpenSpec.ofChange Rows.fnVisibleSpec) Qq d fR func3 (Mk a enc _ rfl) ?_;intro W base j l A B N6 b _ _ _ S c _;exact Nk H enc W base j l A B N6 b ⟨⟨q9s S.tail.tail.tail.tail.tail,LX S⟩,qdb S.tail.tail.tail.tail.tail.tail,qo6 S,⟨LX S,qqg S,qqf S,qsi c⟩⟩
theorem cloP:(Rows.fnVisibleRow.inPlace==prog.inPlace 3)=true:=by kernel_rfl
theorem cloU:(Rows.fnVisibleRow.unfollowed==prog.unfollowed 3)=true:=by kernel_rfl
theorem cloR:(Rows.fnVisibleRow.recurses==prog.recurses 3)=true:=by kernel_rfl
theorem cloN:(Rows.fnVisibleRow.named==prog.varsNamed 3)=true:=by kernel_rfl
theorem As:joinedFacts prog 3 Tryz.f3 (OpenSpec.ofChange Rows.fnVisibleSpec).bare Rows.fnVisibleRow=true:=by unfold joinedFacts;rw[cloP,cloU,cloR,cloN];kernel_rfl
theorem Tn:Rows.FnVisibleSaid :=
 OpenClaim.holds_of_cond 3 Tryz.f3 rfl rfl rfl rfl rfl rfl rfl ⟨rfl,rfl,rfl,rfl,rfl⟩ rfl rfl rfl rfl rfl fR func3 As
  (Zq fR) (by unfold Func.isWrapper;first | (rw[Yz (by decide +kernel)];kernel_rfl) | (rw[Ys (by decide +kernel)];exact⟨rfl,rfl⟩))
  (λa C H enc _ F=>by rw[OpenClaim.pre_eq_preRow];exact Xk a C H enc F)
theorem Pl (f:FuncId)(R:Func)(U:Tryz.pinned.checked.prog.funcNamed "loop.example/s0011/laws.FnVisible" = some f)(k:Tryz.pinned.checked.prog.funcs[f]? = some R):Rows.fnVisibleCard.stood.looks=Tryz.pinned.checked.prog.looks []/\∀(j:Nat) t,R.params[j]? = some t->Tryz.pinned.checked.prog.wantsStandIn t=false:=by obtain rfl:f=3:=Z7 ((show prog.funcNamed "loop.example/s0011/laws.FnVisible" = some 3 by kernel_rfl).symm.trans U) |>.symm;obtain rfl:R=Tryz.f3:=(Z7 (func3.symm.trans k)).symm;refine⟨fR,λj t r=>?_⟩;rw[params3]at r;obtain rfl:t=22:=(by simpa using Array.mem_of_getElem? r);exact(show prog.wantsStandIn 22=false by kernel_rfl)
theorem wfVi:Rows.fnVisibleRow.wfByText (OpenSpec.ofChange Rows.fnVisibleSpec)=true:=by kernel_rfl
theorem Un:Tryz.pinned.checked.prog.mainIs=some (Rows.fnVisibleCard.stood.harness.1,Rows.fnVisibleCard.stood.harness.2.toList):=by kernel_rfl
theorem Xn:false=Rows.fnVisibleRow.goesBy Tryz.pinned.checked.prog:=by kernel_rfl
theorem cardVi:Rows.FnVisibleCardSaid :=
 Claim7.holds_tied_plain_at .later [] _ _ _ _ Tn (λ_ h=>by cases h) wfVi (λ_ h=>by cases h) fnVisible_row_tie rfl ⟨rfl,rfl⟩ Un rfl Pl Xn
