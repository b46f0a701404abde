import Derived.Test.YtenckgnkjkijnaaGreatDoorW34
import Derived.Test.YtenckgnkjkijnaaGreatDoorW44
import Derived.Test.YtenckgnkjkijnaaGreatDoorW35
import Derived.OpenVars
set_option maxRecDepth 100000
set_option maxHeartbeats 64000000
namespace Go.Proofs.YtenckgnkjkijnaaGreatDoor
open Go Go.RowKit Go.ChangeShapes Go.WideShapes Go.ChangeAt Go.Proofs.Tryz
section
variable {H:Type} {enc:TypeId × Value->H} {P:Program} {w:Tw} {base:Nat} {held:Bool}
theorem qjk {X:Type}{Q:Tl->X->Prop}(z:X){t e:TypeId}{n c:Nat}{v:Value}{y:DataW H × List MemPlace}(V:P.underlying t=some (.slice e))(G:P.cellsOf e=c)(ac:1<=c)(s:DataW.trod enc P w base (fun _=>true) held n t [v]=some y)(I:∀m∈y.2,m.block<w.heap.size)
 (R:∀(h:Tl) (A:Nat) (M:DataW H × List MemPlace),h.length=c->DataW.trod enc P w base (fun _=>true) held A e h=some M->(∀m∈M.2,m.block<w.heap.size)->∃C,Q h C) :
 ∃(g:To) (k:List X) (r:Nat),v=.slice g k.length r/\k.length<=9223372036854775807/\k.length<=r/\∀a (d:a<k.length),∃j K h,g=some ⟨j,K,none⟩/\j<w.heap.size/\h.length=c/\(∀b,b<c->w.cell? ⟨j,K+a*c+b,none⟩=h[b]?)/\Q h k[a]:=by
 rcases Deep.open_slice V s with ⟨u,-⟩ | ⟨g,B,r,l,A,N,O,u,-,T,hm,J,rfl,Y⟩
 . exact⟨none,[],0,by simpa using u,nZ _,nR _,fun a d=>absurd d (nL _)⟩
 . simp only[if_true]at J
   subst J;have E:∀a,a<l->∃q:Tl × X,q.1.length=c/\(∀b,b<c->w.cell? (g.add (a*c+b))=q.1[b]?)/\Q q.1 q.2:=by
    intro a d;obtain⟨D,o,p⟩:=Y a d;rw[G]at o;obtain⟨_,i,S⟩:=World.cells?_some o;obtain⟨C,W⟩:=R D A (N a,O a) i p (fun m Z=>I m (List.mem_append_right _ (List.mem_flatMap.2 ⟨a,Yu.2 d,Z⟩)));refine⟨(D,C),i,fun b x=>?_,W⟩;have:=S b x;rw[Deep.add_add]at this;exact this
   obtain⟨f,F⟩:∃f:Nat->Tl × X,∀a,a<l->(f a).1.length=c/\(∀b,b<c->w.cell? (g.add (a*c+b))=(f a).1[b]?)/\Q (f a).1 (f a).2:=by
    classical
    exact⟨fun a=>if s:a<l then (E a s).choose else ([],z),fun a d=>by simp only[dif_pos d];exact(E a d).choose_spec⟩
   have i:((List.range B).map fun a=>(f a).2).length=B:=by simp
   refine⟨some g,(List.range B).map fun a=>(f a).2,l,by rw[i];simpa using u,by rw[i];have:maxLen=9223372036854775807:=rfl;omega,by rw[i];exact T,fun a d=>?_⟩;rw[i]at d;obtain⟨x0,x1,x2⟩:=F a (by omega);obtain⟨j,L,aa⟩:=g;have U:aa=none:=by
    obtain⟨g0,o,-⟩:=F 0 (by omega);have p:=o 0 (by omega);rw[Yg (by omega)]at p;simpa [Addr.add] using World.cell?_spot p
   subst U;refine⟨j,L,(f a).1,rfl,I (.cell j (L+a*c)) ?_,x0,fun b x=>?_,?_⟩
   . rw[G]
     refine Vg _ (MemPlace.mem_row.2 ⟨a*c,?_,by simp⟩);have:a*c+c<=l*c:=(by rw[<- Z2];exact Vf c (by omega));omega
   . have:=x1 b x
     rw[qdo,<- Gb]at this;exact this
   . simpa using x2
theorem qjl {t e:TypeId}{n:Nat}{v:Value}{y:DataW H × List MemPlace}(B:P.underlying t=some (.slice e))(u:P.underlying e=some .string)(r:P.cellsOf e=1)(m:DataW.trod enc P w base (fun _=>true) held n t [v]=some y)(z:∀a∈y.2,a.block<w.heap.size) :
 ∃d b g,v=.slice d b.length g/\b.length<=9223372036854775807/\kbY w d b/\∀a,a∈b->a.size<=9223372036854775807:=by
 obtain⟨d,b,g,o,p,-,k⟩:=qjk (Q:=fun c a=>c=[.string a]/\a.size<=9223372036854775807) (⟨#[]⟩:Tb) B r (nR _) m z (fun c f E x A _=>by
  match c,x with
  | [v0],_=>obtain⟨D,rfl,i⟩:=qox u A;exact⟨D,rfl,i⟩)
 refine⟨d,b,g,o,p,fun f h=>?_,fun a C=>?_⟩
 . obtain⟨j,l,c,rfl,q,-,s,rfl,-⟩:=k f h
   have:=s 0 (by omega);exact⟨j,l,rfl,q,by simpa using this⟩
 . obtain⟨f,h,rfl⟩:=Yx.1 C
   obtain⟨j,l,c,-,-,-,-,-,i⟩:=k f h;exact i
theorem qji {t e:TypeId}{n:Nat}{v:Value}{y:DataW H × List MemPlace}(z:P.underlying t=some (.slice e))(r:P.underlying e=some (.int .i64))(p:P.cellsOf e=1)(j:DataW.trod enc P w base (fun _=>true) held n t [v]=some y)(u:∀f∈y.2,f.block<w.heap.size) :
 ∃b a d,v=.slice b a.length d/\a.length<=9223372036854775807/\keQ w b a:=by
 obtain⟨b,a,d,k,l,-,m⟩:=qjk (Q:=fun c f=>c=[J6 f]) (0:Int) z p (nR _) j u (fun c h C s x _=>by
  match c,s with
  | [v0],_=>obtain⟨B,rfl,-,-⟩:=qou r x;exact⟨B,rfl⟩)
 refine⟨b,a,d,k,l,fun h g=>?_⟩;obtain⟨i,A,c,rfl,o,-,q,rfl⟩:=m h g;have:=q 0 (by omega);refine⟨i,A,rfl,o,?_⟩;dsimp only;rw[Yo,Yg g];simpa using this
theorem qov {t e:TypeId}{d f:Field}{n:Nat}{v:Value}{y:DataW H × List MemPlace}(E:P.underlying t=some (.slice e))(z:P.underlying e=some (.struct #[d,f]))(x:P.cellsOf e=2)(J:d.offset=0)(K:f.offset=1)(F:P.underlying d.type=some (.int .i64))(G:P.underlying f.type=some (.int .i64))(o:P.cellsOf d.type=1)(c1:P.cellsOf f.type=1)
 (p:DataW.trod enc P w base (fun _=>true) held n t [v]=some y) (C:∀g∈y.2,g.block<w.heap.size):∃b a h,v=.slice b a.length h/\a.length<=9223372036854775807/\Prs w b a:=by
 obtain⟨b,a,h,q,r,-,s⟩:=qjk (Q:=fun c (g:Int × Int)=>c=[J6 g.1,J6 g.2]) (0,0) E x (by omega) p C (fun c l S B D _=>by
  obtain⟨T,U,R,rfl,-,i,j⟩:=trod_struct2 z D
  match c,B with
  | [v0,v1],_ =>
   rw[J,o]at i;rw[K,c1]at j;obtain⟨N,rfl,-,-⟩:=qou F (by simpa using i);obtain⟨O,rfl,-,-⟩:=qou G (by simpa using j);exact⟨(N,O),rfl⟩)
 refine⟨b,a,h,q,r,fun l A=>?_⟩;obtain⟨m,I,c,rfl,u,-,k,rfl⟩:=s l A;have L:=k 0 (by omega);have M:=k 1 (by omega);exact⟨m,I,rfl,u,L,M⟩
theorem qow {t e:TypeId}{f g:Field}{n:Nat}{v:Value}{y:DataW H × List MemPlace}(G:P.underlying t=some (.slice e))(C:P.underlying e=some (.struct #[f,g]))(B:P.cellsOf e=2)(L:f.offset=0)(M:g.offset=1)(J:P.underlying f.type=some .string)(K:P.underlying g.type=some (.int .i64))(s:P.cellsOf f.type=1)(c1:P.cellsOf g.type=1)
 (u:DataW.trod enc P w base (fun _=>true) held n t [v]=some y) (E:∀a∈y.2,a.block<w.heap.size):∃d b i,v=.slice d b.length i/\b.length<=9223372036854775807/\Rls w d b/\∀a,a∈b->a.nm.size<=9223372036854775807:=by
 obtain⟨d,b,i,x,z,-,p⟩:=qjk (Q:=fun c (a:Rl)=>c=[.string a.nm,J6 a.lb]/\a.nm.size<=9223372036854775807) kie G B (by omega) u E (fun c h U D F _=>by
  obtain⟨V,W,T,rfl,-,m,o⟩:=trod_struct2 C F
  match c,D with
  | [v0,v1],_ =>
   rw[L,s]at m;rw[M,c1]at o;obtain⟨R,rfl,k⟩:=qox J (by simpa using m);obtain⟨S,rfl,-,-⟩:=qou K (by simpa using o);exact⟨⟨R,S⟩,rfl,k⟩)
 refine⟨d,b,i,x,z,fun h j=>?_,fun a I=>?_⟩
 . obtain⟨l,r,c,rfl,A,-,q,rfl,-⟩:=p h j
   have N:=q 0 (by omega);have O:=q 1 (by omega);exact⟨l,r,rfl,A,N,O⟩
 . obtain⟨h,j,rfl⟩:=Yx.1 I
   obtain⟨l,r,c,-,-,-,-,-,k⟩:=p h j;exact k
theorem qqn {a:To}{m:Nat}{f:Nat->Nx}(j:kch w a m f):∃e:List Nx,e.length=m/\kb0 w a e/\∀b,b<m->nf e b=f b:=by
 have d:((List.range m).map f).length=m:=by simp
 have g:∀b,b<m->nf ((List.range m).map f) b=f b:=fun b c=>by rw[kb7 _ b (by rw[d];exact c)];simp
 refine⟨(List.range m).map f,d,?_,g⟩;unfold kb0;rw[d];intro b c;obtain⟨h,l,i,k⟩:=j b c;exact⟨h,l,i,by rw[g b c];exact k⟩
end
theorem keg:prog.cellsOf 27=4:=by kernel_rfl
theorem kdM:prog.cellsOf 108=9:=by kernel_rfl
theorem kdN:prog.cellsOf 115=2:=by kernel_rfl
theorem kdO:prog.cellsOf 104=2:=by kernel_rfl
def khv:FA:=⟨none,0,none,0,none,0,none,0,none,0⟩
def khw:Fl:=⟨⟨#[]⟩,0,0,[],[],[],[],⟨#[]⟩,[]⟩
section
variable {H:Type} {enc:TypeId × Value->H} {w:Tw} {base:Nat} {held:Bool}
theorem qjj {n:Nat}{v:Value}{y:DataW H × List MemPlace}(i:DataW.trod enc prog w base (fun _=>true) held n 106 [v]=some y)(l:∀q∈y.2,q.block<w.heap.size) :
 ∃c a g,v=.slice c a.length g/\a.length<=9223372036854775807/\kb0 w c a/\∀b,b<a.length->Fit (nf a b):=by
 obtain⟨c,s,f,r,h,o,m,p⟩:=qf6 underlying106 underlying197 keh rfl rfl rfl underlying50 kdD rfl rfl rfl underlying3 underlying9 ka8 ka6 underlying3 underlying2 underlying9 ka8 kc6 ka6 i l;obtain⟨a,e,j,k⟩:=qqn m;exact⟨c,a,f,by rw[e];exact h,by rw[e];exact o,j,fun b d=>by rw[e]at d;rw[k b d];exact p b d⟩
theorem qjh {n:Nat}{v:Value}{y:DataW H × List MemPlace}(aa:DataW.trod enc prog w base (fun _=>true) held n 25 [v]=some y)(ac:∀a∈y.2,a.block<w.heap.size) :
 ∃k b E m,v=.slice k b.length m/\b.length<=9223372036854775807/\kdn w k b E/\∀a,a∈b->kd2 a:=by
 obtain⟨k,b,m,h1,h2,-,C⟩:=qjk (Q:=fun i (h:Fl × FA)=>i=fCs h.1 h.2/\FSl w h.1 h.2/\kd2 h.1) (khw,khv) underlying25 kdM (by omega) aa ac (fun i d al hl hq j=>by
  obtain⟨xs,k',g,rfl,_,af,f⟩:=DataW.trod_struct underlying108 hq
  match xs,af,i,hl with
  | [y0,y1,y2,y3,y4,y5,y6,y7,y8],_,[v0,v1,v2,v3,v4,v5,v6,v7,v8],_ =>
   have q:=f 0 _ rfl;have r:=f 1 _ rfl;have s:=f 2 _ rfl;have t:=f 3 _ rfl;have u:=f 4 _ rfl;have x:=f 5 _ rfl;have z:=f 6 _ rfl;have A:=f 7 _ rfl;have B:=f 8 _ rfl;have S:prog.cellsOf 89=1:=by kernel_rfl
   have T:prog.cellsOf 106=1:=by kernel_rfl
   simp[ka6,ka8,S,T]at q r s t u x z A B;obtain⟨nm,rfl,ad⟩:=qox underlying9 q;obtain⟨ty,rfl,-,-⟩:=qou underlying3 r;obtain⟨lb,rfl,-,-⟩:=qou underlying3 s;obtain⟨ab,R,F,rfl,ak,aj⟩:=qji underlying89 underlying3 ka8 t (fun a c=>j a (by simp[c]));obtain⟨J,ag,K,rfl,li,ki,X⟩:=qjj u (fun a c=>j a (by simp[c]));obtain⟨G,wh,I,rfl,lh,kh,W⟩:=qjj x (fun a c=>j a (by simp[c]));obtain⟨N,va,O,rfl,lv,kv,Z⟩:=qjj z (fun a c=>j a (by simp[c]));obtain⟨sy,rfl,ae⟩:=qox underlying9 A;obtain⟨L,mu,M,rfl,lu,ku,Y⟩:=qjj B (fun a c=>j a (by simp[c]));exact⟨(⟨nm,ty,lb,R,ag,wh,va,sy,mu⟩,⟨ab,F,J,K,G,I,N,O,L,M⟩),rfl,⟨aj,ki,kh,kv,ku⟩,⟨ad,ae,ak,li,lh,lv,lu,X,W,Z,Y⟩⟩)
 have l:(b.map (·.1)).length=b.length:=by simp
 refine⟨k,b.map (·.1),fun d=>(b.getD d (khw,khv)).2,m,by rw[l];exact h1,by rw[l];exact h2,fun d g=>?_,fun a c=>?_⟩
 . rw[l]at g
   obtain⟨p,D,i,rfl,hb,-,e,rfl,o,-⟩:=C d g;have V:(b.getD d (khw,khv)).2=b[d].2:=by rw[Yo,Yg g];rfl
   have U:(b.map (·.1))[d]'(by rw[l];exact g)=b[d].1:=by simp
   rw[U];dsimp only;rw[V];exact⟨p,D,rfl,⟨hb,e 0 (by omega),e 1 (by omega),e 2 (by omega),e 3 (by omega),e 4 (by omega),e 5 (by omega),e 6 (by omega),e 7 (by omega),e 8 (by omega)⟩,o⟩
 . obtain⟨h,hu,rfl⟩:=Y4.1 c
   obtain⟨d,g,rfl⟩:=Yx.1 hu;obtain⟨p,D,i,-,-,-,-,-,-,o⟩:=C d g;exact o
end
def tyT:List Tb:=[⟨#[]⟩,⟨#[105,110,116]⟩,⟨#[98,111,111,108]⟩,⟨#[116,101,120,116]⟩]
theorem gTy:prog.globalNamed "loop.example/s0011/impl.typeWords" = some 0:=by kernel_rfl
theorem kfG:(prog.globals[0]?).map (·.type)=some 301:=by kernel_rfl
theorem kfH:prog.cellsOf 301=4:=by kernel_rfl
theorem khx:(Rows.laid_loop_example_s0011_impl_typeWords:DataW Unit)=.agg ((tyT.map (·.data.toList)).map fun a=>.lit (.string a)):=by rfl
theorem qdd {W:Tw}{rest:List (String × DataW Unit)}(d:laidMet prog (("loop.example/s0011/impl.typeWords",Rows.laid_loop_example_s0011_impl_typeWords) :: rest) W):TyW W:=by
 rw[khx]at d;obtain⟨t,⟨n,v,c,m,s,u,i,j,k,h,_,_⟩,_⟩:=d;obtain rfl:=Z3 (gTy.symm.trans i);obtain rfl:=Z3 (kfG.symm.trans j);have g:=q3a underlying301 underlying9 ka6 kfH h;have e:∀a,a<4->W.cell? ⟨0,a,none⟩=some (.string (tyT.getD a ⟨#[]⟩)):=fun a q=>by
  have:=World.var?_cell gTy k a;rw[this];have b:c[a]? = c.toList[a]?:=by simp
  rw[b,g];have r:tyT.length=4:=rfl;simp only[List.map_map,Zj];rw[Yg (by omega)];simp[List.getD,List.getElem?_eq_getElem (show a<tyT.length by omega)]
 refine⟨?_,fun a o p=>?_⟩
 . apply V8
   intro f;have l:=e 0 (by omega);have b:W.heap[(0:Nat)]? = none:=Ob f;simp[World.cell?,b]at l
 . rw[e a (by omega)]
   obtain rfl | rfl | rfl:a=1∨a=2∨a=3:=by omega
   . rfl
   . rfl
   . rfl
theorem kgk:prog.globalNamed "math/bits.deBruijn32tab" = some 1:=by kernel_rfl
theorem ked:(prog.globals[1]?).map (·.type)=some 314:=by kernel_rfl
theorem kee:prog.cellsOf 314=32:=by kernel_rfl
theorem keW:prog.cellsOf 5=1:=by kernel_rfl
theorem qme {W:Tw}{rest:List (String × DataW Unit)}(e:laidMet prog (("math/bits.deBruijn32tab",Rows.laid_math_bits_deBruijn32tab) :: rest) W):Tab W:=by
 have c:Lib.TabIs prog W "math/bits.deBruijn32tab" .u8 (Lib.deBruijn32tab.map (fun b=>((b:Nat):Int))) :=
  Lib.tabIs_of_head (rest:=rest) kgk ked underlying314 underlying5 keW kee e
 have d:∀a,a<32->(Lib.deBruijn32tab.map (fun b=>((b:Nat):Int))).getD a 0=((Lib.deBruijn32tab.getD a 0:Nat):Int):=by decide +kernel
 intro a b;rw[<- d a b];exact c.cell kgk a (by simpa [Lib.deBruijn32tab] using b)
section
variable {H:Type} {enc:TypeId × Value->H} {P:Program} {w:Tw} {base:Nat} {spare:Nat->Bool} {held:Bool}
end
theorem qq6 {W:Tw}(c:W.ShapedOpen prog):kf3 W:=by
 obtain⟨e,a⟩:=cell_of_shapedOpen_int (g:=2) (t:=3) (k:=.i64) (zero:=#[J6 0]) c (Y6 (by kernel_rfl)) (by kernel_rfl) rfl (by kernel_rfl) (by kernel_rfl) underlying3;refine⟨e,?_,a⟩;apply V8;intro d;have b:W.heap[(2:Nat)]? = none:=Ob d;simp[World.cell?,b]at a
section
variable {H:Type} {enc:TypeId × Value->H} {P:Program} {w:Tw} {base:Nat} {spare:Nat->Bool} {held:Bool}
theorem qoy {n:Nat}{v:Value}{y:DataW H × List MemPlace}(m:DataW.trod enc prog w base (fun _=>true) held n 28 [v]=some y)(r:∀a∈y.2,a.block<w.heap.size) :
 ∃f b g c,v=.slice f b g/\b<=9223372036854775807/\kaF w f b c/\∀a,a<b->(c a).s.size<=9223372036854775807/\-9223372036854775808<=(c a).n/\(c a).n<=9223372036854775807:=by
 obtain⟨f,e,g,o,p,-,j⟩:=qjk (Q:=fun c (b:Vx)=>c=[J6 b.k,J6 b.n,.string b.s]/\b.s.size<=9223372036854775807/\-9223372036854775808<=b.n/\b.n<=9223372036854775807) kak underlying28 kdD (by omega) m r (fun c a b i d b=>by
  obtain⟨B,C,b,rfl,_,s,h⟩:=DataW.trod_struct underlying50 d
  match B,s,c,i with
  | [y0,y1,y2],_,[v0,v1,v2],_ =>
   have i:=h 0 _ rfl;have k:=h 1 _ rfl;have l:=h 2 _ rfl;simp[ka8,kc6,ka6]at i k l;obtain⟨t,rfl,-,-⟩:=qou underlying3 i;obtain⟨z,rfl,u,x⟩:=qou underlying2 k;obtain⟨A,rfl,q⟩:=qox underlying9 l;exact⟨⟨t,z,A⟩,rfl,q,u,x⟩)
 have k:∀a (b:a<e.length),e.getD a kak=e[a]:=fun a b=>by rw[Yo,Yg b];rfl
 refine⟨f,e.length,g,fun a=>e.getD a kak,o,p,fun a b=>?_,fun a b=>?_⟩
 . obtain⟨i,l,c,rfl,q,-,h,d,-⟩:=j a b
   dsimp only;rw[k a b];subst d;exact⟨i,l,rfl,q,h 0 (by omega),h 1 (by omega),h 2 (by omega)⟩
 . obtain⟨i,l,c,-,-,-,-,-,d⟩:=j a b
   dsimp only;rw[k a b];exact d
end
def kic:Input:=⟨#[.cells #[.string ⟨#[118,97,108,117,101,32,111,117,116,32,111,102,32,114,97,110,103,101]⟩] 362,.cells #[.string ⟨#[105,110,118,97,108,105,100,32,115,121,110,116,97,120]⟩] 362],#[],[]⟩
end Go.Proofs.YtenckgnkjkijnaaGreatDoor
namespace Go.Proofs.YtenckgnkjkijnaaGreatDoor
open Go Go.RowKit Go.Proofs.Tryz
theorem qbo (m:Fm)(A:MA)(w:Tw)(h:Int->Int->Prop)(hC:∀c,MSl c m A->Calls prog 62 #[mV m A] c fun e d=>∃a b,e=.returned (dgV a b)/\h a b/\Bw c d)(v:MSl w m A) :
 Calls prog 28 #[mV m A] w fun e d=>∃a b,e=.returned (.bool (decide (a=0)))/\h a b/\Bw w d:=by
 have f:=h_ hC;obtain⟨p,q,r,s,ar,t,n,o,B⟩:=A;unfold mV dgV at f;unfold mV;dsimp only at f⊢;obtain⟨l,C,k,d⟩:=nw w 37 (Jb p m q r s ar t n o);have i:=h_ (f l (v.mono d));obtain⟨F,G,H,I⟩:=kaf k;have D:∀(c:Tw) (a b:Int),(Instr.field 110 (.agg (Jr a b)) 0).run prog c=.ok (J6 a) c:=fun c a b=>by kernel_rfl
 go_enter func28,ntmps28;go_wp2_with fail;refine i.mono ?_;rintro e z ⟨a,b,rfl,y,x⟩;have c:=h_ y;replace d:=mT d x;by_cases g:a=0
 . subst g
   go_wp2_with fail;go_ret
   first | exact⟨_,_,rfl,c,d⟩ | exact⟨_,⟨_,rfl⟩,c,d⟩
 . have E:(a==0)=false:=by simpa using g
   have j:Hi (decide (a=0)=false):=h_ (Yd g);go_wp2_with fail;go_ret;exact⟨a,b,by rw[j.u];rfl,c,d⟩
def kel (m:Fm)(inp:Nat->Vx)(k:Nat):Bool:=kcj (fAt m k) (inp k)&&(decide ((fAt m k).is.length=0)||decide ((inp k).k=0))
def kbp (m:Fm)(L:Nat)(inp:Nat->Vx):Bool:=decide (L=m.F.length)&&(List.range L).all (kel m inp)
theorem qjt {m:Fm}{L k:Nat}{a:Nat->Vx}(c:k<L)(b:kel m a k=false):kbp m L a=false:=by
 rw[kbp,Bool.and_eq_false_iff,Zy];exact .inr ⟨k,Yu.2 c,by rw[b];decide⟩
theorem qff {m:Fm}{L:Nat}{b:Nat->Vx}(d:L=m.F.length)(c:∀a,a<L->kel m b a=true):kbp m L b=true:=by
 rw[kbp,Yh,Yv];exact⟨Ye d,fun a e=>c a (Yu.1 e)⟩
theorem qjs {m:Fm}{L:Nat}{c:Nat->Vx}(b:kbp m L c=true):L=m.F.length/\∀a,a<L->kel m c a=true:=by
 rw[kbp,Yh,Yv]at b;exact⟨Y6 b.1,fun a d=>b.2 a (Yu.2 d)⟩
theorem q5y (m:Fm)(A:MA)(L ci:Nat)(J:To)(i:Nat->Vx)(w:Tw)(hf:kbe m)(hL:L<=9223372036854775807)(au:∀a,a<L->(i a).s.size<=9223372036854775807)(hm:MSl w m A)(hi:kaF w J L i) :
 Gv 29 #[mV m A,.slice J L ci] w (.bool (kbp m L i)):=by
 have az:=hf.fl;obtain⟨y,hq⟩:=Nq (kbp m L i);rw[hq];obtain⟨r,ag,ah⟩:=oC hq (fun (b:Fl) (e:FA) (f:Vx) c (d:f.s.size<=9223372036854775807)=>qbm b e f c d) au;obtain⟨K,M,N,O,G,H,I,t,W⟩:=A;unfold mV;obtain⟨E,ax,T,p⟩:=nV w 37 (Jb K m M N O G H I t);have C:Hi (∀c,Bw E c->MSl c m ⟨K,M,N,O,G,H,I,t,W⟩/\kaF c J L i/\Blk c w.heap.size 37 (Jh K m M N O G H I t)/\Bw w c):=h_ fun c l=>⟨(hm.mono p).mono l,(hi.mono p).mono l,T.mono l T.lt,p.trans (l.mono p.size)⟩;have x3:=(kaf T).2.2.2;have ad:=h_ p;by_cases ac:L=m.F.length
 case neg =>
  have k:Hi (y=false):=h_ (by rw[<- r.u,kbp,Yd ac];rfl);have c:((L:Int) != (m.F.length:Int))=true:=by simp;omega
  go_enter func29,ntmps29;go_wp2_with fail;go_ret;exact⟨by rw[k.u];rfl,ad⟩
 case pos =>
 subst ac;go_enter func29,ntmps29;go_wp2_with fail;go_loopw [5] (fun d wr=>∃a:Nat,a<=m.F.length/\d=J6 a/\(∀c,c<a->kel m i c=true)/\Bw E wr) (fun d _=>m.F.length - (intOf d).toNat)
 case atStart=>exact⟨0,nZ _,rfl,fun c v=>absurd v (nL _),bR _ _⟩
 case round =>
 obtain⟨a,hk,rfl,aj,Y⟩:=hrel;obtain⟨aq,aw,aA,ak⟩:=C wr Y;have z:=h_ aj;by_cases j:a<m.F.length
 case neg =>
  have k:Hi (y=true):=h_ (by rw[<- r.u];exact qff rfl fun c v=>z c (by omega));have ao:¬ (a:Int)<m.F.length:=by omega
  have q:=h_ ak;go_wp2_with fail;go_ret;exact⟨by rw[k.u];rfl,q⟩
 case pos =>
 have ao:(a:Int)<m.F.length:=by omega
 have aB:(0:Int)<=a:=by omega
 obtain⟨b,Z⟩:=Nq (m.F[a]);obtain⟨e,hG⟩:=Nq (W a);obtain⟨f,Q⟩:=Nq (i a);obtain⟨g,h,X,-⟩:=aq.f a j;dsimp only at X;subst X;obtain⟨R,S,rfl,-⟩:=aw a j;have hp:kel m i a=(kcj b f&&(decide (b.is.length=0)||decide (f.k=0))):=by rw[kel,qoe j,Z,Q]
 have o:=h_ hp;have V:Hi (∀d,Bw E d->(d.cell? ⟨w.heap.size,3,none⟩=some (.slice (some ⟨g,h,none⟩) m.F.length t)/\d.cell? ⟨g,h+a*9,none⟩=some (.string b.nm)/\d.cell? ⟨g,h+a*9+1,none⟩=some (J6 b.ty)/\d.cell? ⟨g,h+a*9+2,none⟩=some (J6 b.lb)/\d.cell? ⟨g,h+a*9+3,none⟩=some (.slice e.b b.bys.length e.bc)/\d.cell? ⟨g,h+a*9+4,none⟩=some (.slice e.i b.is.length e.ic)/\d.cell? ⟨g,h+a*9+5,none⟩=some (.slice e.h b.wh.length e.hc)/\d.cell? ⟨g,h+a*9+6,none⟩=some (.slice e.v b.va.length e.vc)/\d.cell? ⟨g,h+a*9+7,none⟩=some (.string b.sy)/\d.cell? ⟨g,h+a*9+8,none⟩=some (.slice e.u b.mu.length e.uc))/\d.cell? ⟨R,S+a*3,none⟩=some (J6 f.k)/\d.cell? ⟨R,S+a*3+1,none⟩=some (J6 f.n)/\d.cell? ⟨R,S+a*3+2,none⟩=some (.string f.s)):=h_ fun d l=>by
  obtain⟨D,P,U,-⟩:=C d l;obtain⟨_,_,l,d,-⟩:=D.f a j;dsimp only at l d;cases l;rw[Z,hG]at d;obtain⟨_,_,B,-,x⟩:=P a j;cases B;rw[Q]at x;exact⟨⟨(kaf U).2.2.2,d.2⟩,x⟩
 have B:=h_ (ag b e f wr.drew (by rw[<- Q];exact ah a j));unfold fV at B;have ae:=h_ Y;obtain⟨fi,am⟩:∃d,kcj b f=d:=⟨_,rfl⟩;rw[am]at B o;go_wp2_with fail;refine kd3 ae fun d=>?_;have hC:=V.u;refine tkA 0 d ?_;refine tkA 1 d ?_;refine tkA 2 d ?_;refine tkA 3 d ?_;refine tkA 4 d ?_;refine tkA 5 d ?_;refine tkA 6 d ?_;refine tkA 7 d ?_;refine tkA 8 d ?_;refine keJ 9 27 d d.size B fun W4 ay l=>?_;replace d:=l;refine tkA 10 d ?_;refine wdQ ?_;obtain⟨q,U⟩:=oB (C _ l).2.2.2 l;obtain⟨⟨x3,-,-,-,-,z4,-⟩,v0,-⟩:=V W4 l;cases fi
 case false =>
  have k:Hi (y=false):=h_ (by rw[<- r.u];exact qjt j (by rw[o.u];rfl));go_wp2_with fail;go_ret;exact⟨by rw[k.u];rfl,q⟩
 by_cases aa:b.is.length=0
 . have an:¬ (0:Int)<b.is.length:=by omega
   have D:Hi (∀c,c<a+1->kel m i c=true):=h_ fun c v=>by
    by_cases P:c=a
    . rw[P,o.u,Ye aa];rfl
    . exact z c (by omega)
   go_wp2_with fail;go_roundw
   case rel=>exact⟨a+1,by omega,by go_num,D,U⟩
   case measure=>simp[intOf];omega
 have an:(0:Int)<b.is.length:=by omega
 by_cases x:f.k=0
 . have av:(f.k != 0)=false:=by simp[x]
   have D:Hi (∀c,c<a+1->kel m i c=true):=h_ fun c v=>by
    by_cases P:c=a
    . rw[P,o.u,Ye x,Bool.or_true];rfl
    . exact z c (by omega)
   go_wp2_with fail;go_roundw
   case rel=>exact⟨a+1,by omega,by go_num,D,U⟩
   case measure=>simp[intOf];omega
 . have av:(f.k != 0)=true:=by simp[x]
   have k:Hi (y=false):=h_ (by rw[<- r.u];exact qjt j (by rw[o.u,Yd aa,Yd x];rfl));go_wp2_with fail;go_ret;exact⟨by rw[k.u];rfl,q⟩
def keN (m:Fm)(sd:Bool)(L:Nat)(inp:Nat->Vx):Nat:=if sd&&kbp m L inp then m.F.length else 0
theorem qio {w:Tw}{a:To}{g:Nat->Cx}:kct w a 0 g:=fun _ b=>absurd b (nL _)
theorem q4f (m:Fm)(A:MA)(L e:Nat)(c:To)(b:Nat->Vx)(d:Bool)(w:Tw)(J:kbe m)(Z:L<=9223372036854775807)(ag:∀a,a<L->(b a).s.size<=9223372036854775807)(ae:∀a,a<L->I6 (b a).n)(hv:d=true->VfA m)(hS:∀a,MSl a m A->Gv 28 #[mV m A] a (.bool d))(hm:MSl w m A)(hi:kaF w c L b) :
 Calls prog 7 #[mV m A,.slice c L e] w fun h i=>kfL w (keN m d L b) (kdR m b) h i:=by
 have U:=h_ hS;have G:=h_ fun a (f:MSl a m A) (g:kaF a c L b)=>q5y m A L e c b a J Z ag f g;have H:Hi (d=true->kbp m L b=true->∀a,MSl a m A->kaF a c L b->Calls prog 30 #[mV m A,.slice c L e] a fun h i=>kfL a m.F.length (kdR m b) h i):=h_ fun i h a f g=>by
  obtain⟨rfl,k⟩:=qjs h;have h:=hv i;refine q8j m A c e b a h.nf (fun j i=>(q7o _ _ _).1 (h.fi j i)) J (fun j i=>?_) f g;have:=k j i;rw[kel,Yh]at this;rw[kcj,Yh]at this;exact⟨this.1.1,ae j i⟩
 obtain⟨M,K⟩:=Nq (kbp m L b);rw[K]at G H;have hN:keN m d L b=if d&&M then m.F.length else 0:=by rw[keN,K]
 rw[hN];obtain⟨r,t,u,x,l,o,p,q,X⟩:=A;unfold mV at *;obtain⟨i,aj,D,f⟩:=nV w 37 (Jb r m t u x l o p q);have h:Hi (∀a,Bw i a->MSl a m ⟨r,t,u,x,l,o,p,q,X⟩/\kaF a c L b/\Blk a w.heap.size 37 (Jh r m t u x l o p q)/\Bw w a):=h_ fun a a=>⟨(hm.mono f).mono a,(hi.mono f).mono a,D.mono a D.lt,f.trans (a.mono f.size)⟩;obtain⟨N,O,P,Q⟩:=kaf D;go_enter func7,ntmps7;go_wp2_with fail;refine cQ (U i (h i (bR _ _)).1) fun j I=>?_;obtain⟨B,C,z,y⟩:=h j I;obtain⟨E,a⟩:=oB I y;cases d
 case false =>
  have g:=h_ (a.alloc a.size (.cells #[] 75));go_wp2;exact bQ (v:=.slice (some ⟨j.heap.size,0,none⟩) 0 0) (qqz qio g)
 obtain⟨N,O,P,Q⟩:=kaf z;obtain⟨T,V⟩:=oB B C;go_wp2_with fail;refine cQ (G j T V) fun k ac=>?_;have aa:=E.trans (ac.mono E.size);obtain⟨B,C,z,y⟩:=h k aa;have a:=h_ y;cases M
 case false =>
  have g:=h_ (a.alloc a.size (.cells #[] 75));go_wp2;exact bQ (v:=.slice (some ⟨k.heap.size,0,none⟩) 0 0) (qqz qio g)
 obtain⟨N,O,P,Q⟩:=kaf z;have S:=h_ (H (by first | rfl | trivial) (by first | rfl | trivial) k B C);go_wp2_with fail;refine S.mono ?_;rintro ah W3 ⟨W,Y,rfl,hc,ad⟩;have R:=h_ hc;have g:=mT a ad;go_wp2;exact bQ (v:=.slice W m.F.length Y) (qqz R g)
theorem qhf (m:Fm)(A:MA)(j:Int)(w:Tw)(X:kbe m)(U:0<=j)(V:j<=1048576)(W:MSl w m A) :
 Calls prog 5 #[mV m A,J6 j] w fun i b=>∃a:Int,i=.returned (J6 a)/\(0<=a->Sm m/\a<=1048576)/\Bw w b:=by
 obtain⟨C,D,E,G,ar,H,z,B,T⟩:=A;unfold mV;dsimp only;obtain⟨N,ad,c,b⟩:=nw w 27 (Jb C m D E G ar H z B);obtain⟨d,e⟩:=oB (W.mono b) X;obtain⟨k,n,o,p⟩:=kaf c;go_enter func5,ntmps5;go_wp2_with fail;refine(q4g C D m.L j N U V e.ll e.l d.l).mono ?_;rintro i O ⟨r,rfl,h,q,a⟩;replace c:=mB c a;replace d:=h_ (d.mono a);replace b:=mT b a;have u:=h_ h;obtain⟨k,n,o,p⟩:=kaf c;by_cases ae:r<0
 . go_wp2_with fail
   go_ret;exact⟨_,rfl,fun g=>absurd g (by decide),b⟩
 have Y:r<=1048576:=(u (by omega)).1;have J:=h_ (u (by omega)).2;go_wp2_with fail;refine(q6q E G m.P.length r O (by omega) Y e.pl).mono ?_;rintro i Q ⟨s,rfl,h,q,a⟩;replace c:=mB c a;replace d:=h_ (d.mono a);replace b:=mT b a;have v:=h_ h;obtain⟨k,n,o,p⟩:=kaf c;by_cases ag:s<0
 . go_wp2_with fail
   go_ret;exact⟨_,rfl,fun g=>absurd g (by decide),b⟩
 have Z:s<=1048576:=(v (by omega)).1;have K:=h_ (v (by omega)).2;go_wp2_with fail;refine(q6r ar H m.R s Q (by omega) Z e.rl e.r d.r).mono ?_;rintro i S ⟨t,rfl,h,q,a⟩;replace c:=mB c a;replace d:=h_ (d.mono a);replace b:=mT b a;have x:=h_ h;obtain⟨k,n,o,p⟩:=kaf c;by_cases ah:t<0
 . go_wp2_with fail
   go_ret;exact⟨_,rfl,fun g=>absurd g (by decide),b⟩
 have aa:t<=1048576:=(x (by omega)).1;have M:=h_ (x (by omega)).2;go_wp2_with fail;refine(q6p z B m.F T t S (by omega) aa e.fl e.f d.f).mono ?_;rintro i W4 ⟨I,rfl,h,q,a⟩;replace c:=mB c a;replace d:=h_ (d.mono a);replace b:=mT b a;have y:=h_ h;obtain⟨k,n,o,p⟩:=kaf c;by_cases ai:I<0
 . go_wp2_with fail
   go_ret;exact⟨_,rfl,fun g=>absurd g (by decide),b⟩
 have ac:I<=1048576:=(y (by omega)).1;have g:=h_ (y (by omega)).2;go_wp2_with fail;go_ret;exact⟨_,rfl,fun _=>⟨⟨J,K,M,g.1,g.2⟩,ac⟩,b⟩
theorem qip {m:Fm}{n:Nat}{F:Nat->Bool}{a:Int}(b:kc7 m n F 0 a):a=0:=by
 rcases b with ⟨c,-,-,b,-⟩ | ⟨-,d,c,-,-,-,⟨-,b,-⟩ | ⟨-,-,b⟩⟩
 . exact absurd b (by decide)
 . exact absurd b (by decide)
 . exact b
theorem kfV.congr {m:Fm}{A:MA}{n:Nat}{F:Nat->Bool}{f g:Nat->Nat}{S:SF}{w:Tw}(p:kfV m A n F g S w)(s:∀a,a<m.F.length->g a=f a):kfV m A n F f S w:=by
 obtain⟨i,j,top,c,d,e,c1,c2,c3,h,k,l,q,r,b⟩:=p;have o:lsL g m.F.length=lsL f m.F.length:=by
  unfold lsL;exact Zm fun a t=>s a (Yu.1 t)
 rw[o]at b;exact⟨i,j,top,c,d,e,c1,c2,c3,h,k,l,q,r,b⟩
def sfC (S:SF):Tl:=[.slice S.l S.nl S.lc,.slice S.p S.np S.pc,.slice S.r S.nr S.rc,.slice S.f S.nf S.fc,.map S.mp,.int .i64 S.N,.slice S.a1 S.s1 S.c1,.slice S.a2 S.s2 S.c2,.slice S.a3 S.s3 S.c3,.int .i64 S.bot,.int .i64 S.top,.slice S.lb S.n5 S.c5]
def ivL (m:Fm)(Bs:Nat->Nat)(k:Nat):Tl:=(List.range k).map fun j=>ifV (kbb (fAt m j)) (Bs j)
theorem qjx (m:Fm)(Bs:Nat->Nat)(k:Nat):ivL m Bs (k+1)=ivL m Bs k++[ifV (kbb (fAt m k)) (Bs k)]:=by simp[ivL,List.range_succ]
theorem qfl {m:Fm}{Bs Bs':Nat->Nat}{k:Nat}(b:∀a,a<k->Bs a=Bs' a):ivL m Bs k=ivL m Bs' k:=by
 unfold ivL;exact Zm fun a c=>by rw[b a (Yu.1 c)]
theorem qpj {m:Fm}{Bs:Nat->Nat}{k j:Nat}(a:j<k):(ivL m Bs k)[j]? = some (ifV (kbb (fAt m j)) (Bs j)):=by simp[ivL,a]
structure keR (m:Fm)(A:MA)(n:Nat)(F:Nat->Bool)(f:Nat->Nat)(S:SF)(WD:Tw)(Sh:Nat)(Bs:Nat->Nat)(e:Nat->Cx)(k:Nat)(u:Value)(pl:Nat)(W:Tw):Prop where
 base:Below WD.heap.size WD W
 snd:kfV m A n F f S WD
 msl:MSl WD m A
 lo:WD.heap.size<=Sh
 bx:∀j,j<k->WD.heap.size<=Bs j/\Blk W (Bs j) (ctT (kbb (fAt m j))) (ctC (kbb (fAt m j)) (e j) (fAt m j) (A.fa j))
 up:∀i j,i<j->j<k->Bs i<Bs j
 blk:Blk W Sh 131 (sfC S++[u,.map (some pl)])
 row:W.ownsRow WD.heap.size 133 1 u k (ivL m Bs k)
theorem keR.mono {m:Fm}{A:MA}{n i k j:Nat}{F:Nat->Bool}{f Bs:Nat->Nat}{S:SF}{w W U:Tw}{e:Nat->Cx}{u:Value}(a:keR m A n F f S w i Bs e k u j W)(b:Below W.heap.size W U):keR m A n F f S w i Bs e k u j U :=
 ⟨a.base.trans (b.mono a.base.size),a.snd,a.msl,a.lo,fun d c=>⟨(a.bx d c).1,(a.bx d c).2.mono b (a.bx d c).2.lt⟩,a.up,a.blk.mono b a.blk.lt,qgh a.row b⟩
theorem kdv {w:Tw}{g n:Nat}{t e:TypeId}{cs:Tl}{a:Ta}{c:Nat × Nat}(d:Blk w g t cs)(f:w.heap[n]? = some (.cells a e c))(h:t≠e):g≠n:=fun b=>by
 subst b;have:=(show w.heap[g]? = some (.cells cs.toArray t (0,0)) from d).symm.trans f;simp only[Vk,Obj.cells.injEq]at this;exact h this.2.1
theorem qr6 {w:Tw}{base k n g i:Nat}{e t:TypeId}{v:Value}{xs cs:Tl}(h:w.ownsRow base e k v n xs)(c:Blk w g t cs)(f:t≠e)(a:v.ownBlock=some i):g≠i:=by
 rcases h.2 with ⟨rfl,-⟩ | ⟨b,j,l,rfl,-,d,-⟩
 . cases a
 . have:b=i:=by simpa [Value.ownBlock] using a
   subst this;exact kdv c d f
theorem kcl (i:Bool):ctT i≠133/\ctT i≠131:=by cases i <;> exact⟨by decide,by decide⟩
theorem qr5 {w w':Tw}{base n k:Nat}{t:TypeId}{v:Value}{xs:Tl}(b:w.ownsRow base t k v n xs)(i:∀a,v.ownBlock=some a->w'.heap[a]? = w.heap[a]?):w'.ownsRow base t k v n xs:=by
 refine⟨b.1,?_⟩;rcases b.2 with f | ⟨a,d,e,c,g,h,j⟩
 . exact .inl f
 . exact .inr ⟨a,d,e,c,g,(i a (by rw[c];rfl)).trans h,j⟩
theorem qpc:(prog.info? 133).map (fun a=>(a.zero,a.size,a.bytes))=some (some .nilIface,1,16):=by kernel_rfl
theorem qcr (m:Fm)(A:MA)(w:Tw)(M:∀b,MSl b m A->kbT b->TyW b->Tab b->Calls prog 66 #[mV m A] b fun k c=>∃a d e,k=.returned (.tuple #[sfV a,dgV d e])/\d≠0/\Below b.heap.size b c)(x:MSl w m A)(R:kbT w)(hy:TyW w)(S:Tab w) :
 Calls prog 35 #[mV m A] w fun k c=>k=.returned (.tuple #[.pointer none,.bool false])/\Below w.heap.size w c:=by
 have n:=h_ M;obtain⟨H,I,J,K,ar,L,F,G,V⟩:=A;unfold mV at n⊢;dsimp only at n⊢;obtain⟨E,X,z,b⟩:=nw w 37 (Jb H m I J K ar L F G);obtain⟨T,y⟩:=oB (x.mono b) (n E (x.mono b) (R.mono b) (hy.mono b) (S.mono b));obtain⟨Z,y1,y2,y3⟩:=kaf z;go_enter func35,ntmps35;go_wp2_with fail;refine y.mono ?_;rintro k h ⟨a,d,e,rfl,Q,P⟩;unfold sfV;replace b:=mT b P;have Y:(d != 0)=true:=by simpa using Q
 have i:=(Blk.new h 125 Jd).alloc (.cells Jm 110);have j:=Blk.new (h.alloc (.cells Jd 125)) 110 Jm;rw[Yp]at j;have q:=((bR h.heap.size h).alloc (nR _) (.cells Jd 125)).alloc (by simp) (.cells Jm 110);obtain⟨t,O⟩:=Nq ((h.alloc (.cells Jd 125)).alloc (.cells Jm 110));obtain⟨c,o⟩:=Nq h.heap.size;rw[O]at i j q;rw[o]at i j q;have u:=j.row_other (g:=c) (by omega) #[.slice a.l a.nl a.lc,.slice a.p a.np a.pc,.slice a.r a.nr a.rc,.slice a.f a.nf a.fc,.map a.mp,J6 a.N,.slice a.a1 a.s1 a.c1,.slice a.a2 a.s2 a.c2,.slice a.a3 a.s3 a.c3,J6 a.bot,J6 a.top,.slice a.lb a.n5 a.c5];obtain⟨B,s,r⟩:=oC ((i.row [.slice a.l a.nl a.lc,.slice a.p a.np a.pc,.slice a.r a.nr a.rc,.slice a.f a.nf a.fc,.map a.mp,J6 a.N,.slice a.a1 a.s1 a.c1,.slice a.a2 a.s2 a.c2,.slice a.a3 a.s3 a.c3,J6 a.bot,J6 a.top,.slice a.lb a.n5 a.c5]).row_other (g:=c+1) (by omega) (Jr d e)) (u.row [J6 d,J6 e]) (q.trans (((qr0 (lo:=c) (hi:=c+2) (g:=c) t #[.slice a.l a.nl a.lc,.slice a.p a.np a.pc,.slice a.r a.nr a.rc,.slice a.f a.nf a.fc,.map a.mp,J6 a.N,.slice a.a1 a.s1 a.c1,.slice a.a2 a.s2 a.c2,.slice a.a3 a.s3 a.c3,J6 a.bot,J6 a.top,.slice a.lb a.n5 a.c5] (by omega) (by omega)).trans (qr0 (g:=c+1) _ (Jr d e) (by omega) (by omega))).below (nR _) (by rw[<- o];have:=i.lt;omega)));obtain⟨C,D⟩:=oB i u;obtain⟨U,v⟩:=Nq ((t.setRow c #[.slice a.l a.nl a.lc,.slice a.p a.np a.pc,.slice a.r a.nr a.rc,.slice a.f a.nf a.fc,.map a.mp,J6 a.N,.slice a.a1 a.s1 a.c1,.slice a.a2 a.s2 a.c2,.slice a.a3 a.s3 a.c3,J6 a.bot,J6 a.top,.slice a.lb a.n5 a.c5]).setRow (c+1) (Jr d e));rw[v]at B s r;obtain⟨W,d1⟩:=(kcs s).1;replace b:=h_ (b.trans (r.mono (by rw[<- o];exact b.size)));go_wp2_with (first | (refine wpList_store_row rfl 125 (.tmp 4) (.tmp 12) rfl c #[.slice a.l a.nl a.lc,.slice a.p a.np a.pc,.slice a.r a.nr a.rc,.slice a.f a.nf a.fc,.map a.mp,J6 a.N,.slice a.a1 a.s1 a.c1,.slice a.a2 a.s2 a.c2,.slice a.a3 a.s3 a.c3,J6 a.bot,J6 a.top,.slice a.lb a.n5 a.c5] rfl rfl 125 Jd C (by kernel_rfl) rfl (by simp[Value.oneCell']) ?_) | (refine wpList_store_row rfl 110 (.tmp 5) (.tmp 13) rfl (c+1) (Jr d e) rfl rfl 110 Jm D (by kernel_rfl) rfl (by simp[Value.oneCell']) ?_;rw[v]))
 first | go_ret2 | go_ret
 exact⟨rfl,b⟩
theorem qcs (m:Fm)(A:MA)(n:Nat)(F:Nat->Bool)(f:Nat->Nat)(w:Tw)(a0:m.F.length<=200)(hS:∀e,MSl e m A->kbT e->TyW e->Tab e->Calls prog 66 #[mV m A] e fun ag k=>∃a,ag=.returned (.tuple #[sfV a,dgV 0 0])/\kfV m A n F f a k/\Below e.heap.size e k)(h:MSl w m A)(o:kbT w)(hy:TyW w)(r:Tab w) :
 Calls prog 35 #[mV m A] w fun ag k=>∃a c q B t O,ag=.returned (.tuple #[J9 q 0,.bool true])/\w.heap.size<=c.heap.size/\keR m A n F f a c q B (fun _=>zCx) m.F.length t O k/\Below w.heap.size w k:=by
 have aF:=h_ fun d c e=>qab d c e;have j:=h_ hS;clear hS;obtain⟨al,aa,ap,ac,ar,ad,af,Z,Y⟩:=A;unfold mV at j⊢;dsimp only at j⊢;obtain⟨W0,u,T,E⟩:=nw w 37 (Jb al m aa ap ac ar ad af Z);obtain⟨HM,s⟩:=oB (h.mono E) (j W0 (h.mono E) (o.mono E) (hy.mono E) (r.mono E));clear h o hy r j;obtain⟨z,C,D,G⟩:=kaf T;go_enter func35,ntmps35;go_wp2_with fail
 try rw[u]
 refine s.mono ?_;rintro ag r ⟨a,rfl,x,j⟩;have aH:=h_ x;obtain⟨y,o⟩:∃y:Int,y=0:=⟨0,rfl⟩;obtain⟨I,h⟩:∃I:Int,I=0:=⟨0,rfl⟩;rw[show dgV 0 0=dgV y I by rw[o,h]];unfold sfV;replace T:=mB T j;replace HM:=h_ (HM.mono j);replace E:=mT E j;have aZ:(y != 0)=false:=by simp[o]
 clear j u z C D G s x o h;have h:=(Blk.new r 125 Jd).alloc (.cells Jm 110);have j:=Blk.new (r.alloc (.cells Jd 125)) 110 Jm;rw[Yp]at j;have u:=((bR r.heap.size r).alloc (nR _) (.cells Jd 125)).alloc (by simp) (.cells Jm 110);obtain⟨W2,aA⟩:=Nq ((r.alloc (.cells Jd 125)).alloc (.cells Jm 110));obtain⟨s,L⟩:=Nq r.heap.size;rw[aA]at h j u;rw[L]at h j u;have x:=j.row_other (g:=s) (by omega) #[.slice a.l a.nl a.lc,.slice a.p a.np a.pc,.slice a.r a.nr a.rc,.slice a.f a.nf a.fc,.map a.mp,J6 a.N,.slice a.a1 a.s1 a.c1,.slice a.a2 a.s2 a.c2,.slice a.a3 a.s3 a.c3,J6 a.bot,J6 a.top,.slice a.lb a.n5 a.c5];obtain⟨P,K,o⟩:=oC ((h.row [.slice a.l a.nl a.lc,.slice a.p a.np a.pc,.slice a.r a.nr a.rc,.slice a.f a.nf a.fc,.map a.mp,J6 a.N,.slice a.a1 a.s1 a.c1,.slice a.a2 a.s2 a.c2,.slice a.a3 a.s3 a.c3,J6 a.bot,J6 a.top,.slice a.lb a.n5 a.c5]).row_other (g:=s+1) (by omega) (Jr y I)) (x.row [J6 y,J6 I]) (u.trans (((qr0 (lo:=s) (hi:=s+2) (g:=s) W2 #[.slice a.l a.nl a.lc,.slice a.p a.np a.pc,.slice a.r a.nr a.rc,.slice a.f a.nf a.fc,.map a.mp,J6 a.N,.slice a.a1 a.s1 a.c1,.slice a.a2 a.s2 a.c2,.slice a.a3 a.s3 a.c3,J6 a.bot,J6 a.top,.slice a.lb a.n5 a.c5] (by omega) (by omega)).trans (qr0 (g:=s+1) _ (Jr y I) (by omega) (by omega))).below (nR _) (by rw[<- L];have:=h.lt;omega)));obtain⟨ao,aq⟩:=oB h x;clear h x j u;obtain⟨u,V⟩:=Nq ((W2.setRow s #[.slice a.l a.nl a.lc,.slice a.p a.np a.pc,.slice a.r a.nr a.rc,.slice a.f a.nf a.fc,.map a.mp,J6 a.N,.slice a.a1 a.s1 a.c1,.slice a.a2 a.s2 a.c2,.slice a.a3 a.s3 a.c3,J6 a.bot,J6 a.top,.slice a.lb a.n5 a.c5]).setRow (s+1) (Jr y I));rw[V]at P K o;obtain⟨d0,d1⟩:=(kcs K).1;have aD:w.heap.size<s:=by rw[<- L];exact T.lt
 have Q:s<=u.heap.size:=by rw[<- L];exact o.size
 obtain⟨⟨l0,l1,l2,l3,l4,l5,l6,l7,l8,l9,aX,aY⟩,-⟩:=kb2 P;have X:=h_ (T.mono o aD);have M:=h_ ((X.alloc (.map #[] 0)).alloc (.cells #[.slice a.l a.nl a.lc,.slice a.p a.np a.pc,.slice a.r a.nr a.rc,.slice a.f a.nf a.fc,.map a.mp,J6 a.N,.slice a.a1 a.s1 a.c1,.slice a.a2 a.s2 a.c2,.slice a.a3 a.s3 a.c3,J6 a.bot,J6 a.top,.slice a.lb a.n5 a.c5,J7,.map (some u.heap.size)] 131));obtain⟨z,C,D,G⟩:=kaf M;have h:=h_ (Blk.new (u.alloc (.map #[] 0)) 131 #[.slice a.l a.nl a.lc,.slice a.p a.np a.pc,.slice a.r a.nr a.rc,.slice a.f a.nf a.fc,.map a.mp,J6 a.N,.slice a.a1 a.s1 a.c1,.slice a.a2 a.s2 a.c2,.slice a.a3 a.s3 a.c3,J6 a.bot,J6 a.top,.slice a.lb a.n5 a.c5,J7,.map (some u.heap.size)]);rw[Yp]at h;have H:=h_ ((o.alloc Q (.map #[] 0)).alloc (Y5 Q (by simp)) (.cells #[.slice a.l a.nl a.lc,.slice a.p a.np a.pc,.slice a.r a.nr a.rc,.slice a.f a.nf a.fc,.map a.mp,J6 a.N,.slice a.a1 a.s1 a.c1,.slice a.a2 a.s2 a.c2,.slice a.a3 a.s3 a.c3,J6 a.bot,J6 a.top,.slice a.lb a.n5 a.c5,J7,.map (some u.heap.size)] 131));have aG:Hi (∃O,O=u.heap.size):=h_ ⟨_,rfl⟩;obtain⟨W5,W⟩:=Nq ((u.alloc (.map #[] 0)).alloc (.cells #[.slice a.l a.nl a.lc,.slice a.p a.np a.pc,.slice a.r a.nr a.rc,.slice a.f a.nf a.fc,.map a.mp,J6 a.N,.slice a.a1 a.s1 a.c1,.slice a.a2 a.s2 a.c2,.slice a.a3 a.s3 a.c3,J6 a.bot,J6 a.top,.slice a.lb a.n5 a.c5,J7,.map (some u.heap.size)] 131));obtain⟨q,U⟩:=Nq (u.heap.size+1);rw[W]at M z C D G h H;rw[U]at h;have aL:s<=q:=by omega
 have aR:=@run_makeMap prog;go_wp2_with (first | (refine wpList_store_row rfl 125 (.tmp 4) (.tmp 12) rfl s #[.slice a.l a.nl a.lc,.slice a.p a.np a.pc,.slice a.r a.nr a.rc,.slice a.f a.nf a.fc,.map a.mp,J6 a.N,.slice a.a1 a.s1 a.c1,.slice a.a2 a.s2 a.c2,.slice a.a3 a.s3 a.c3,J6 a.bot,J6 a.top,.slice a.lb a.n5 a.c5] rfl rfl 125 Jd ao (by kernel_rfl) rfl (by simp[Value.oneCell']) ?_) | (refine wpList_store_row rfl 110 (.tmp 5) (.tmp 13) rfl (s+1) (Jr y I) rfl rfl 110 Jm aq (by kernel_rfl) rfl (by simp[Value.oneCell']) ?_;rw[V]) | (refine qdj rfl 131 #[(0,.tmp 17),(2,.tmp 18)] rfl #[.slice a.l a.nl a.lc,.slice a.p a.np a.pc,.slice a.r a.nr a.rc,.slice a.f a.nf a.fc,.map a.mp,J6 a.N,.slice a.a1 a.s1 a.c1,.slice a.a2 a.s2 a.c2,.slice a.a3 a.s3 a.c3,J6 a.bot,J6 a.top,.slice a.lb a.n5 a.c5,J7,.map (some u.heap.size)] (by kernel_rfl) ?_))
 try rw[U]
 try rw[W]
 have au:Hi (keR m ⟨al,aa,ap,ac,ar,ad,af,Z,Y⟩ n F f a r q (fun _=>0) (fun _=>zCx) 0 J7 u.heap.size W5):=h_ ⟨by rw[L];exact H,aH,HM,by rw[L];exact aL,fun j x=>absurd x (nL _),fun J j _ x=>absurd x (nL _),h,World.ownsRow_nil _ _ _ _⟩;have aE:Hi (∀e,Below r.heap.size r e->Below w.heap.size w e):=h_ fun e x=>E.trans (x.mono E.size);generalize u.heap.size=O at *;clear aR W U V aA P K o ao aq X M h H aG d0 d1 l0 l1 l2 l3 l4 l5 l6 l7 l8 l9 aX aY z C D G Q;go_loopw [24] (fun J wr=>∃(h:Nat) (B:Nat->Nat) (t:Value),h<=m.F.length/\J=J6 h/\keR m ⟨al,aa,ap,ac,ar,ad,af,Z,Y⟩ n F f a r q B (fun _=>zCx) h t O wr) (fun J _=>m.F.length - (intOf J).toNat)
 case atStart=>exact⟨0,fun _=>0,J7,nZ _,rfl,au⟩
 case round =>
  clear au;obtain⟨h,B,t,hk,rfl,e⟩:=hrel;have U:=h_ e;clear e;by_cases aC:h<m.F.length
  . have aQ:(h:Int)<m.F.length:=by omega
    obtain⟨fb,fo,ef,ae,-⟩:=(U.msl.mono U.base).f h aC;dsimp only at ef ae;rw[<- qoe aC]at ae;obtain⟨d,z⟩:=Nq (fAt m h);obtain⟨c,e⟩:=Nq (Y h);rw[z,e]at ae;obtain⟨an,aK⟩:=oB z e;obtain⟨-,q0,q1,q2,q3,q4,q5,q6,q7,q8⟩:=ae;have ah:=h_ (Blk.new wr 92 (Ja d c.b c.bc c.i c.ic c.h c.hc c.v c.vc c.u c.uc));have o:=(bR wr.heap.size wr).alloc (nR _) (.cells (Ja d c.b c.bc c.i c.ic c.h c.hc c.v c.vc c.u c.uc) 92);obtain⟨W6,aM⟩:=Nq (wr.alloc (.cells (Ja d c.b c.bc c.i c.ic c.h c.hc c.v c.vc c.u c.uc) 92));obtain⟨av,aO⟩:=Nq wr.heap.size;rw[aM]at ah o;rw[aO]at ah;have aJ:=h_ (U.mono o);clear o z e;go_wp2_with fail;subst ef;obtain⟨i0,hi,aU,aV,aW⟩:=info_parts qpc;refine wp_region_held_drew (S:=fun k=>Blk k av 92 [.string d.nm,J6 d.ty,J6 d.lb,.slice c.b d.bys.length c.bc,.slice c.i d.is.length c.ic,.slice c.h d.wh.length c.hc,.slice c.v d.va.length c.vc,.string d.sy,.slice c.u d.mu.length c.uc]) (by kernel_rfl) ah (fun z=>?_);refine tkA 0 z ?_;refine tkA 1 z ?_;refine tkA 2 z ?_;refine tkA 3 z ?_;refine tkL 5 33 (.agg (Ja d c.b c.bc c.i c.ic c.h c.hc c.v c.vc c.u c.uc)) z ?_ (hy:=fun w hS=>by obtain⟨q0,q1,q2,q3,q4,q5,q6,q7,q8⟩:=kaU hS;simp[execOp,go_sem,q0,q1,q2,q3,q4,q5,q6,q7,q8]);have G:=h_ (aJ.mono (bR W6.heap.size W6).drew);obtain⟨H,hV⟩:=Nq W6.drew;rw[hV]at G z⊢;have C:=h_ z;have hu:H.cell? ⟨q,12,none⟩=some t:=G.blk.cell 12;have am:=h_ (aF d c H);refine wpAnyH_ready (rs:=[4,6]) (by kernel_rfl) (by simp) (kaD (i:=4) (v:=t) (w':=H) 32 rfl rfl (by rfl) (by simp[execOp,go_sem,hu]) z ?br1 (ka7 (i:=6) (f:=67) (args:=#[.agg (Ja d c.b c.bc c.i c.ic c.h c.hc c.v c.vc c.u c.uc)]) (R:=fun X k=>∃e,X=ifV (kbb d) e/\H.heap.size<=e/\Blk k e (ctT (kbb d)) (ctC (kbb d) zCx d c)/\Below H.heap.size H k) 34 rfl rfl (by rfl) (by simp[execOp,go_sem]) (am.mono fun K Q ⟨e,P,o,D,M⟩=>⟨_,P,e,rfl,o,D,M⟩) ?br2 AllReadyH.nil))
    case' br1 =>
     refine kaS (by(first | simp only[Ya,Yb] | skip);rfl) (by(first | simp only[Ya,Yb] | skip);rfl) ?_;refine kaL (i:=6) (f:=67) (args:=#[.agg (Ja d c.b c.bc c.i c.ic c.h c.hc c.v c.vc c.u c.uc)]) (R:=fun X k=>∃e,X=ifV (kbb d) e/\H.heap.size<=e/\Blk k e (ctT (kbb d)) (ctC (kbb d) zCx d c)/\Below H.heap.size H k) 34 rfl rfl (by rfl) (by kernel_rfl) (by simp[execOp,go_sem]) (am.mono fun K Q ⟨e,P,o,D,M⟩=>⟨_,P,e,rfl,o,D,M⟩) ?_;rintro X k ⟨e,rfl,V,W,D⟩;refine⟨C.mono D C.lt,?_⟩;refine kaS (by(first | simp only[Ya,Yb] | skip);rfl) (by(first | simp only[Ya,Yb] | skip);rfl) ?_;have ai:=h_ (G.mono D);have M:=(bR k.heap.size k).alloc (nR _) (.cells #[ifV (kbb d) e] 133);have o:=h_ (ai.mono M);have P:=h_ ((C.mono D C.lt).mono M (Yn C.lt D.size));have ak:=h_ (W.mono M W.lt);have ay:Hi (∀j,j<h->B j<e):=h_ fun j Q=>Yn (G.bx j Q).2.lt V;have ax:r.heap.size<=e:=Y5 G.base.size V;refine kf2 (i:=7) (v:=.slice (some ⟨k.heap.size,0,none⟩) 1 1) (w':=k.alloc (.cells #[ifV (kbb d) e] 133)) 35 rfl rfl (by rfl) (by kernel_rfl) (by simp[execOp,go_sem,ifV]) P ?_;refine kaS (by(first | simp only[Ya,Yb] | skip);rfl) (by(first | simp only[Ya,Yb] | skip);rfl) ?_
    case' br2 =>
     rintro X k ⟨e,rfl,V,W,D⟩;have az:=C.mono D C.lt;refine⟨az,?_⟩;refine kaS (by(first | simp only[Ya,Yb] | skip);rfl) (by(first | simp only[Ya,Yb] | skip);rfl) ?_;have aS:k.cell? ⟨q,12,none⟩=some t:=(G.mono D).blk.cell 12;have ai:=h_ (G.mono D);have M:=(bR k.heap.size k).alloc (nR _) (.cells #[ifV (kbb d) e] 133);have o:=h_ (ai.mono M);have P:=h_ ((C.mono D C.lt).mono M (Yn C.lt D.size));have ak:=h_ (W.mono M W.lt);have ay:Hi (∀j,j<h->B j<e):=h_ fun j Q=>Yn (G.bx j Q).2.lt V;have ax:r.heap.size<=e:=Y5 G.base.size V;have aT:(k.alloc (.cells #[ifV (kbb d) e] 133)).cell? ⟨q,12,none⟩=some t:=o.blk.cell 12;refine wpAnyH_ready (rs:=[4,7]) (by kernel_rfl) (by simp) (kaD (i:=4) (v:=t) (w':=k) 32 rfl rfl (by rfl) (by simp[execOp,go_sem,aS]) az ?b1 (kaD (i:=7) (v:=.slice (some ⟨k.heap.size,0,none⟩) 1 1) (w':=k.alloc (.cells #[ifV (kbb d) e] 133)) 35 rfl rfl (by rfl) (by simp[execOp,go_sem,ifV]) P ?b2 AllReadyH.nil))
    case' b1 =>
     refine kaS (by(first | simp only[Ya,Yb] | skip);rfl) (by(first | simp only[Ya,Yb] | skip);rfl) ?_;refine kf2 (i:=7) (v:=.slice (some ⟨k.heap.size,0,none⟩) 1 1) (w':=k.alloc (.cells #[ifV (kbb d) e] 133)) 35 rfl rfl (by rfl) (by kernel_rfl) (by simp[execOp,go_sem,ifV]) P ?_;refine kaS (by(first | simp only[Ya,Yb] | skip);rfl) (by(first | simp only[Ya,Yb] | skip);rfl) ?_
    case' b2 =>
     refine kaS (by(first | simp only[Ya,Yb] | skip);rfl) (by(first | simp only[Ya,Yb] | skip);rfl) ?_;refine kf2 (i:=4) (v:=t) (w':=k.alloc (.cells #[ifV (kbb d) e] 133)) 32 rfl rfl (by rfl) (by kernel_rfl) (by simp[execOp,go_sem,aT]) P ?_;refine kaS (by(first | simp only[Ya,Yb] | skip);rfl) (by(first | simp only[Ya,Yb] | skip);rfl) ?_
    all_goals
     refine khs (i:=8) 36 rfl rfl rfl (by kernel_rfl) (.tmp 32) (.tmp 35) 129 rfl r.heap.size 133 i0 _ 1 16 underlying129 hi aU aV aW rfl (by omega) t h (ivL m B h) rfl o.row ⟨k.heap.size,0,none⟩ 1 1 [ifV (kbb d) e] rfl rfl (qim k 133 _) (by simp[Value.oneCell',ifV]) (by omega) (by unfold maxLen;omega) (by omega) o.base.size _ rfl ?_;intro aj X D ho aB _ _;have V:∀{W:Nat} {M:TypeId} {cs:Tl},Blk (k.alloc (.cells #[ifV (kbb d) e] 133)) W M cs->M≠133->Blk D W M cs:=fun x k=>(aB.block _ x.lt (fun K=>qr6 o.row x k K.symm rfl)).trans x;have k:=V o.blk (by decide);have M:=V P (by decide);have aw:=V ak (kcl _).1;have aN:av≠q:=kdv M k (by decide);have aI:Hi (keR m ⟨al,aa,ap,ac,ar,ad,(some ⟨fb,fo,none⟩),Z,Y⟩ n F f a r q (fun j=>if j=h then e else B j) (fun _=>zCx) (h+1) (.slice (some ⟨aj,0,none⟩) (h+1) X) O (D.setCell ⟨q,12,none⟩ (.slice (some ⟨aj,0,none⟩) (h+1) X))):=h_ ⟨(o.base.grown aB o.base.size (fun W K=>qc8 o.row K)).setCell o.lo _,o.snd,o.msl,o.lo,fun j Q=>by
      by_cases e:j=h
      . subst e
        simp only[if_true];rw[an.u];refine⟨ax,Blk.other ?_ _ (kdv aw k (kcl _).2)⟩;have:=aK.u;rw[this];exact aw
      . simp only[Yl e]
        have x:=o.bx j (by omega);have P:=V x.2 (kcl _).1;exact⟨x.1,Blk.other P _ (kdv P k (kcl _).2)⟩,fun J j aP Q=>by
      have x:J≠h:=(by omega);simp only[Yl x];by_cases e:j=h
      . simp only[Yr e]
        exact ay J (by omega)
      . simp only[Yl e]
        exact o.up J j aP (by omega),k.set 12 _,by
      refine qr5 ?_ (fun W K=>heap_setCell_other _ _ _ _ (Ne.symm (qr6 ho k (by decide) K)));rw[qjx,qfl (Bs':=B) (fun j Q=>by simp only[Yl (show ¬ j=h by omega)])];simp only[if_true];rw[an.u];exact ho⟩
     refine⟨M,?_⟩;replace z:=M;refine kaS (by(first | simp only[Ya,Yb] | skip);rfl) (by(first | simp only[Ya,Yb] | skip);rfl) ?_;refine tkA 9 z ?_;refine tkA 10 z ?_;refine ka0 (i:=11) (w':=D.setCell ⟨q,12,none⟩ (.slice (some ⟨aj,0,none⟩) (h+1) X)) rfl (by rfl) (by kernel_rfl) rfl ?hrunS rfl (Blk.other M _ aN) ?_
     case hrunS =>
      have y:D.cell? ⟨q,12,none⟩=some t:=k.cell 12;have e:=k.free 12;simp[execOp,go_sem,y,e]
     refine wdQ ?_;refine rQ ?_;exact⟨h+1,_,_,by omega,by go_num,aI⟩
  . obtain rfl:h=m.F.length:=by omega
    have aQ:¬ (m.F.length:Int)<(m.F.length:Int):=(by omega);go_wp2_with fail
    first | go_ret2 | go_ret
    exact⟨a,r,q,rfl,Nat.le_of_lt (by rw[L];exact aD),⟨B,t,O,U⟩,aE _ U.base⟩
def ctD (i:Bool)(c:Cx)(v:Vx)(f:Fl)(A:FA):Tl:=hC c f A++if i=true then [.int .i64 v.k,.int .i64 v.n,.string v.s] else []
structure ShP where
 m:Fm
 A:MA
 n:Nat
 F:Nat->Bool
 f:Nat->Nat
 S:SF
 WD:Tw
 Sh:Nat
 Bs:Nat->Nat
 u:Value
 pl:Nat
structure ShI (P:ShP)(e:Nat->Cx)(iv:Nat->Vx)(W:Tw):Prop where
 base:Below P.WD.heap.size P.WD W
 snd:kfV P.m P.A P.n P.F P.f P.S P.WD
 msl:MSl P.WD P.m P.A
 lo:P.WD.heap.size<=P.Sh
 bx:∀j,j<P.m.F.length->P.WD.heap.size<=P.Bs j/\Blk W (P.Bs j) (ctT (kbb (fAt P.m j))) (ctD (kbb (fAt P.m j)) (e j) (iv j) (fAt P.m j) (P.A.fa j))
 up:∀i j,i<j->j<P.m.F.length->P.Bs i<P.Bs j
 blk:Blk W P.Sh 131 (sfC P.S++[P.u,.map (some P.pl)])
 row:W.ownsRow P.WD.heap.size 133 1 P.u P.m.F.length (ivL P.m P.Bs P.m.F.length)
section
variable {P:ShP} {e:Nat->Cx} {iv:Nat->Vx} {W W':Tw}
theorem keR.toI {m:Fm}{A:MA}{n k i:Nat}{F:Nat->Bool}{f Bs:Nat->Nat}{S:SF}{w:Tw}{u:Value}(a:keR m A n F f S w k Bs e m.F.length u i W):ShI ⟨m,A,n,F,f,S,w,k,Bs,u,i⟩ e (fun _=>kak) W :=
 ⟨a.base,a.snd,a.msl,a.lo,a.bx,a.up,a.blk,a.row⟩
theorem ShI.mono (a:ShI P e iv W)(b:Bw W W'):ShI P e iv W' :=
 ⟨a.base.trans (b.mono a.base.size),a.snd,a.msl,a.lo,fun d c=>⟨(a.bx d c).1,(a.bx d c).2.mono b (a.bx d c).2.lt⟩,a.up,a.blk.mono b a.blk.lt,qgh a.row b⟩
theorem ShI.congr {d:Nat->Cx}{f:Nat->Vx}(b:ShI P e iv W)(g:∀a,a<P.m.F.length->e a=d a)(hi:∀a,a<P.m.F.length->iv a=f a):ShI P d f W :=
 ⟨b.base,b.snd,b.msl,b.lo,fun a c=>by rw[<- g a c,<- hi a c];exact b.bx a c,b.up,b.blk,b.row⟩
theorem ShI.turn (a:ShI P e iv W){k:Nat}(j:k<P.m.F.length)(c:Cx)(v:Vx)(l:Below P.WD.heap.size P.WD W')(i:∀d,d≠P.Bs k->W'.heap[d]? = W.heap[d]?)(n:Blk W' (P.Bs k) (ctT (kbb (fAt P.m k))) (ctD (kbb (fAt P.m k)) c v (fAt P.m k) (P.A.fa k))) :
 ShI P (fun b=>if b=k then c else e b) (fun b=>if b=k then v else iv b) W':=by
 have g:=a.bx k j;refine⟨l,a.snd,a.msl,a.lo,fun b h=>?_,a.up,(i _ (Ne.symm (kdv g.2 a.blk (kcl _).2))).trans a.blk,qr5 a.row fun d e=>i d (Ne.symm (qr6 a.row g.2 (kcl _).1 e))⟩;by_cases d:b=k
 . subst d
   simp only[if_true];exact⟨g.1,n⟩
 . simp only[Yl d]
   refine⟨(a.bx b h).1,(i _ fun e=>?_).trans (a.bx b h).2⟩;rcases Nat.lt_or_gt_of_ne d with f | f
   . have:=a.up b k f j;omega
   . have:=a.up k b f h;omega
theorem ShI.at (c:ShI P e iv W){k:Nat}(d:k<P.m.F.length):∃a b,P.u=.slice (some ⟨a,0,none⟩) P.m.F.length b/\W.cell? ⟨a,k,none⟩=some (ifV (kbb (fAt P.m k)) (P.Bs k))/\a≠P.Bs k:=by
 rcases c.row.2 with ⟨-,l⟩ | ⟨a,g,j,i,-,f,-,-,n,h⟩
 . omega
 . refine⟨a,g,i,?_,fun e=>?_⟩
   . have b:=qpj (m:=P.m) (Bs:=P.Bs) d
     rw[<- h,List.getElem?_take_of_lt (by omega)]at b;simp only[World.cell?,f];simpa using b
   . exact kdv (c.bx k d).2 f (kcl _).1 e.symm
theorem ShI.slice (c:ShI P e iv W):∃a b,P.u=.slice a P.m.F.length b:=by
 rcases c.row.2 with ⟨e,a⟩ | ⟨f,b,d,e,-⟩
 . exact⟨none,0,by rw[e,a]⟩
 . exact⟨_,_,e⟩
theorem ShI.map (b:ShI P e iv W):∃a,P.S.mp=some a/\kbR W a (kaa P.m):=by
 obtain⟨a,i,top,d,f,g,c1,c2,c3,h,j,e,c,-⟩:=b.snd;exact⟨a,by rw[e],c.mono b.base⟩
end
theorem qpx {w:Tw}{b:Nat}{l:List Tb}(c:kbR w b l)(i:l.Nodup)(j:Nat)(f:j<l.length)(g:l[j].size<=9223372036854775807) :
 (Instr.lookup 119 (.map (some b)) (.string l[j]) false).run prog w=.ok (J6 j) w:=by
 have h:keyOf prog 9 (.string l[j])=some (kl l[j]):=WideMaps.keyOf_string_mk underlying9 g;obtain⟨m,k,a,-⟩:=World.ownsMap.lookup_int c (Maps.string_keyed underlying9) underlying119 underlying3 (Tryz.zeroValue3 _) h;have d:=kg9 l i (.lit (.int .i64 0)) j f;rw[d]at a;injection a with a
 injection a with _ a
 rw[k,<- a]
theorem qp6 (p:To)(w:Tw):Gv 397 #[.pointer p] w (.pointer p):=by
 go_enter func397,ntmps397;go_wp2_with fail;go_ret;exact⟨rfl,bR _ _⟩
theorem qp7 (i:Bool)(B fuel:Nat)(b:0<fuel)(W:Tw):(method fuel (ctP i) (J9 B 0) "loop.example/s0011/impl.head").run prog W=.ok (397,J9 B 0) W:=by
 cases fuel with
 | zero=>omega
 | succ a=>cases i <;> kernel_rfl
def kgy (i:Bool):FuncId:=if i=true then 398 else 400
def kgz (i:Bool):FuncId:=if i=true then 399 else 401
theorem qm0 (i:Bool)(B fuel:Nat)(b:0<fuel)(W:Tw):(method fuel (ctP i) (J9 B 0) "loop.example/s0011/impl.source").run prog W=.ok (kgy i,J9 B 0) W:=by
 cases fuel with
 | zero=>omega
 | succ a=>cases i <;> kernel_rfl
theorem kgA (i:Bool)(B fuel:Nat)(b:0<fuel)(W:Tw):(method fuel (ctP i) (J9 B 0) "loop.example/s0011/impl.take").run prog W=.ok (kgz i,J9 B 0) W:=by
 cases fuel with
 | zero=>omega
 | succ a=>cases i <;> kernel_rfl
theorem kgB (z:Vx)(a:kak=z):Gvs 145 #[] z:=by subst a;exact q21
def shX (c:Cx):Vx:=if c.rel=true then c.v else kak
theorem qgy (c:Cx)(f:Fl)(A:FA)(b:Nat)(t:TypeId)(l:Tl)(w:Tw)(a:Blk w b t (hC c f A++l)) :
 Gv 173 #[J9 b 0] w (vv (shX c)):=by
 refine opS fun j h d r g=>?_;replace a:=a.mono g.u.B a.lt;have C:h.cell? ⟨b,0,none⟩=some (J6 c.v.k):=by rw[a.cell];rfl
 have D:h.cell? ⟨b,1,none⟩=some (J6 c.v.n):=by rw[a.cell];rfl
 have E:h.cell? ⟨b,2,none⟩=some (.string c.v.s):=by rw[a.cell];rfl
 have m:h.cell? ⟨b,3,none⟩=some (.bool c.rel):=by rw[a.cell];rfl
 unfold shX at d;cases i:c.rel
 . rw[i]at m d
   go_enter func173,ntmps173;go_wp2_with fail;refine(kgB j d.u _).mono ?_;exact exS g
 . rw[i]at m d
   obtain rfl:c.v=j:=d.u;obtain⟨⟨x,y,z⟩,o,p,q⟩:=g.u.val;go_enter func173,ntmps173;go_wp2_with fail;go_wp2;exact bQ ⟨rfl,g.u.out _ _ _⟩
theorem khC {P:ShP}{n:Nx}{y:Value}{w:Tw}{R:Vx}(g:∀d a c,Hi (R=d)->w.alloc (.cells (Je n) 190)=a->a.alloc (.cells Jf 55)=c->a.heap.size=w.heap.size+1->Hi (RW a c) ->
      Hi (∀b,Below a.heap.size a b->(b.cell? ⟨w.heap.size,0,none⟩=some (J6 n.op)/\b.cell? ⟨w.heap.size,1,none⟩=some (J6 n.v.k)/\b.cell? ⟨w.heap.size,2,none⟩=some (J6 n.v.n)/\b.cell? ⟨w.heap.size,3,none⟩=some (.string n.v.s)/\b.cell? ⟨w.heap.size,4,none⟩=some (.string n.nm))/\Below w.heap.size w b) ->
      Calls prog 144 #[J9 P.Sh 0,.agg (Je n),y] w fun e f=>e=.returned (.agg (Jc d.k d.n d.s))/\Below w.heap.size w f) :
 Calls prog 144 #[J9 P.Sh 0,nv n,y] w fun e f=>e=.returned (vv R)/\Below w.heap.size w f:=by
 have e:Below w.heap.size w (w.alloc (.cells (Je n) 190)):=(bR _ _).alloc (nR _) _;have f:=Blk.new w 190 (Je n);obtain⟨a,d⟩:=Nq (w.alloc (.cells (Je n) 190));rw[d]at e f;obtain⟨c,i,h⟩:=RW.start a;exact g R a c (h_ rfl) d i (by rw[<- d];simp) (h_ h) (h_ fun b b=>⟨kaG (f.mono b f.lt),e.trans (b.mono e.size)⟩)
theorem q1r (P:ShP)(n:Nx)(y:Value)(w:Tw)(g:n.op=0) :
 Calls prog 144 #[J9 P.Sh 0,nv n,y] w fun a b=>a=.returned (vv n.v)/\Below w.heap.size w b:=by
 refine khC fun d f j i p x q c b=>?_;obtain rfl:n.v=d:=i.u;obtain⟨⟨z,A,C,D,E⟩,-⟩:=b.u j c.u.B;obtain⟨⟨r,s,t⟩,k,l,m⟩:=c.u.val;have e:=h_ fun a y d=>c.u.out a y d;have h:Hi (∀a,Below f.heap.size f a->Below w.heap.size w a):=h_ fun a o=>(b.u a o).2;rw[q]at r s t k l m e;have a:(n.op==0)=true:=by simp[g]
 clear b g;go_enter func144,ntmps144;go_wp2_with fail
 try rw[p]
 go_wp2;exact bQ ⟨rfl,h _ (e _ _ _)⟩
theorem q2v (P:ShP)(n:Nx)(a:To)(L c:Nat)(g:Nat->Vx)(w:Tw)(y:2<=n.op/\n.op<=25)(x:(L:Int)=opn n.op)(b:kg3 w a L g) :
 Calls prog 144 #[J9 P.Sh 0,nv n,.slice a L c] w fun d e=>d=.returned (vv (apY n.op L g))/\Below w.heap.size w e:=by
 refine khC fun l j k o J K z h i=>?_;obtain⟨⟨M,N,O,Q,R⟩,d⟩:=i.u k h.u.B;have f:=h_ (q91 n.op a L c g k y x ⟨b.v.mono d,b.s,b.r,b.ok,b.g.mono d⟩);rw[o.u]at f;unfold vv at f;have m:Hi (∀e,Below j.heap.size j e->Below w.heap.size w e):=h_ fun e p=>(i.u e p).2;have H:(n.op==0)=false:=by simp;omega
 have I:(n.op==1)=false:=by simp;omega
 go_enter func144,ntmps144;go_wp2_with fail;refine cQ f fun G d=>?_;obtain⟨⟨A,C,D⟩,p,q,t⟩:=(h.u.mono d).val;have e:=h_ fun E F l=>(h.u.mono d).out E F l;rw[z]at A C D p q t e;go_wp2;exact bQ ⟨rfl,m _ (e _ _ _)⟩
theorem q1s (P:ShP)(e:Nat->Cx)(s:Nat->Vx)(n:Nx)(y:Value)(j:Nat)(w:Tw)(o:n.op=1)(f:j<P.m.F.length)(I:(fAt P.m j).nm=n.nm)(J:(kaa P.m).Nodup)(S:n.nm.size<=9223372036854775807)(i:ShI P e s w) :
 Calls prog 144 #[J9 P.Sh 0,nv n,y] w fun b a=>b=.returned (vv (shX (e j)))/\Below w.heap.size w a:=by
 refine khC fun V c N M C D K l b=>?_;have v:Hi (∀a,Below c.heap.size c a->ShI P e s a):=h_ fun a d=>i.mono (b.u a d).2;obtain⟨k,x,r,-⟩:=i.at f;obtain⟨h,p,-⟩:=i.map;have G:j<(kaa P.m).length:=by simpa [kaa] using f
 have q:(kaa P.m)[j]=n.nm:=by rw[<- I,qoe f];simp[kaa]
 have t:Hi (∀a,Below c.heap.size c a->a.cell? ⟨P.Sh,12,none⟩=some (.slice (some ⟨k,0,none⟩) P.m.F.length x)/\a.cell? ⟨P.Sh,4,none⟩=some (.map (some h))/\a.cell? ⟨w.heap.size,4,none⟩=some (.string n.nm)/\(Instr.lookup 119 (.map (some h)) (.string n.nm) false).run prog a=.ok (J6 j) a/\a.cell? ⟨k,j,none⟩=some (ifV (kbb (fAt P.m j)) (P.Bs j))/\Blk a (P.Bs j) (ctT (kbb (fAt P.m j))) (ctD (kbb (fAt P.m j)) (e j) (s j) (fAt P.m j) (P.A.fa j))):=h_ fun a d=>by
  have g:=v a d;obtain⟨Y,X,L,U,-⟩:=g.at f;rw[r]at L;cases L;obtain⟨W,E,T⟩:=g.map;rw[p]at E;cases E;have O:=g.blk.cell 12;have Q:=g.blk.cell 4;have H:=qpx T J j G (by rw[q];exact S);rw[q]at H;exact⟨by rw[O,<- r];rfl,by rw[Q,<- p];rfl,(b.u a d).1.2.2.2.2,H,U,(g.bx j f).2⟩
 obtain⟨⟨g,H,L,O,Q⟩,-⟩:=b.u N l.u.B;have E:Hi (∀a,Below c.heap.size c a->Below w.heap.size w a):=h_ fun a d=>(b.u a d).2;have T:(n.op==0)=false:=by simp[o]
 have U:(n.op==1)=true:=by simp[o]
 have W:(j:Int)<P.m.F.length:=by omega
 clear b i v q G I J r p o;generalize kbb (fAt P.m j)=G at *;go_enter func144,ntmps144;go_wp2_with fail
 try rw[C]
 try rw[<- K]
 try rw[D]
 clear K;refine kd3 (B:=c.heap.size) (W0:=c) l.u.B fun b=>?_;have hC:∀a,Below c.heap.size c a->a.cell? ⟨P.Sh,12,none⟩=some (.slice (some ⟨k,0,none⟩) P.m.F.length x)/\a.cell? ⟨P.Sh,4,none⟩=some (.map (some h))/\a.cell? ⟨w.heap.size,4,none⟩=some (.string n.nm)/\(Instr.lookup 119 (.map (some h)) (.string n.nm) false).run prog a=.ok (J6 j) a/\a.cell? ⟨k,j,none⟩=some (ifV G (P.Bs j)):=fun a d=>by
  have:=t a d;exact⟨this.1,this.2.1,this.2.2.1,this.2.2.2.1,this.2.2.2.2.1⟩
 clear g H L O Q C D;refine tkA 0 b ?_;refine tkA 1 b ?_;refine tkA 2 b ?_;refine tkA 3 b ?_;refine tkA 4 b ?_;refine tkA 5 b ?_;refine tkA 6 b ?_;refine tkA 7 b ?_;refine tkA 8 b ?_;refine tkA 9 b ?_;refine tkA 10 b ?_;refine tkA 11 b ?_;refine tkA 12 b ?_;refine tkA 13 b ?_;refine tkA 14 b ?_;have g:=l.u.mono (bR _ _).drew;refine keJ 15 30 b g.B.size (qp6 (some ⟨P.Bs j,0,none⟩) _) (hrun:=by simp[execOp,go_sem,ifV,qp7]) fun i p b=>?_;have d:=g.mono p;refine keJ 16 31 b d.B.size (by have:=qgy (e j) (fAt P.m j) (P.A.fa j) (P.Bs j) _ _ i (t i b).2.2.2.2.2;rw[M.u]at this;exact this) fun C q b=>?_;have a:=d.mono q;refine khn (w:=c) (z:=V) 17 c.heap.size a.R (nR _) a.B (qii a.B (nR _) _) ?_;intro D o r;obtain⟨H,I,J⟩:=kag o;have v:=h_ (E _ r);clear hC o r b g d a p q;go_wp2
 all_goals exact bQ ⟨rfl,v⟩
theorem kfl {u:Vx}(b:GVx u):u.s.size<=9223372036854775807:=by
 by_cases c:u.k=3
 . have:=kcQ b.1 c;omega
 . have:=b.1
   unfold kah at this
   repeat' split at this
   all_goals first | omega | (simp only[Yh,Yk]at this;omega) | cases this
theorem kgC {m:Fm}{x:Tb}{j:Nat}(g:j<m.F.length)(f:(fAt m j).nm=x)(h:(kaa m).Nodup):plF m x=j:=by
 have c:j<(kaa m).length:=by simpa [kaa] using g
 have e:∀b (d:b<(kaa m).length),(kaa m)[b]=(fAt m b).nm:=fun b d=>by rw[qoe (by simpa [kaa] using d)];simp[kaa]
 unfold plF;rw[List.findIdx_eq c];refine⟨by simp[e j c,f],fun b i=>?_⟩;simp only[Zr];intro d;have:(kaa m)[b]=(kaa m)[j]:=by rw[d,e j c,f]
 have:=(List.getElem_inj h).1 this;omega
theorem kgD {m:Fm}{b:Nat->Cx}{x:Tb}{j:Nat}(c:j<m.F.length)(d:(fAt m j).nm=x)(e:(kaa m).Nodup):lkF m (cS b) x=shX (b j):=by
 unfold lkF;rw[kgC c d e,Yr c];rfl
theorem q46 (P:ShP)(g:Nat->Cx)(k:Nat->Vx)(n:Nx)(a:To)(L c:Nat)(args:List Vx)(w:Tw)(x:kao n=true)(s:args.length=L)(p:L=arn n)(r:∀b,b∈args->GVx b)(t:n.op=1->∃d,d<P.m.F.length/\(fAt P.m d).nm=n.nm)(j:(kaa P.m).Nodup)(u:n.nm.size<=9223372036854775807)(q:ShI P g k w)(o:kcp w)(y:kaF w a L fun b=>args.getD b kdw) :
 Gv 144 #[J9 P.Sh 0,nv n,.slice a L c] w (vv (keS apL (lkF P.m (cS g)) n args)):=by
 unfold keS;by_cases f:n.op=0
 . rw[Yr f];exact q1r P n _ w f
 rw[Yl f];by_cases e:n.op=1
 . rw[Yr e]
   obtain⟨d,h,i⟩:=t e;rw[kgD h i j];exact q1s P g k n _ d w e h i j u q
 rw[Yl e,apL,s];have i:=qqp x f e;have h:∀b,b<L->GVx (args.getD b kdw):=fun b d=>by
  rw[Yo,Yg (by omega)];exact r _ (Yi _)
 exact q2v P n a L c _ w i (by rw[p,qig,keA,Yr i]) ⟨y,fun b d=>kfl (h b d),fun b d=>(h b d).2,qdq.2 fun b d=>(h b d).1,o⟩
theorem qms (l:List Vx)(k:Nat):(vx3 l).take (k*3)=vx3 (l.take k):=by
 induction l generalizing k with
 | nil=>simp[vx3]
 | cons b l c =>
  cases k with
  | zero=>simp[vx3]
  | succ k =>
   have:vx3 (b :: l)=J6 b.k :: J6 b.n :: .string b.s :: vx3 l:=rfl;rw[this,show(k+1)*3=k*3+1+1+1 by omega,Gf,Gf,Gf,c];rfl
section
variable {w w':Tw} {B cap:Nat} {a:To} {v:Value} {l:List Vx}
def StX (w:Tw)(B:Nat)(v:Value)(l:List Vx):Prop:=w.ownsRow B 55 3 v l.length (vx3 l)
theorem StX.shape (b:StX w B v l):∃a cap,v=.slice a l.length cap/\l.length<=cap/\(a=none->l=[]/\cap=0)/\(∀c e d,a=some ⟨c,e,d⟩->e=0/\d=none/\B<=c/\c<w.heap.size):=by
 rcases b.2 with ⟨rfl,f⟩ | ⟨c,cap,j,rfl,g,i,h,-,m,n⟩
 . exact⟨none,0,by rw[f],by omega,fun _=>⟨Za.1 f,rfl⟩,fun _ _ _ b=>by cases b⟩
 . exact⟨_,cap,rfl,h,fun b=>(by cases b),fun k e d b=>by cases b;exact⟨rfl,rfl,g,(Yq.1 i).1⟩⟩
theorem StX.from (g:StX w B (.slice a l.length cap) l)(r:Nat)(x:r<=l.length):kaF w (if cap=r then a else a.map (·.add (r*3))) (l.length - r) fun b=>(l.drop r).getD b kdw:=by
 intro d m;obtain⟨s,t,e,u,o,p⟩:=g.shape;simp only[Value.slice.injEq,true_and]at e;obtain⟨rfl,rfl⟩:=e;cases a with
 | none=>obtain⟨rfl,-⟩:=o rfl;simp at m
 | some i =>
  obtain⟨f,q,j⟩:=i;obtain⟨rfl,rfl,-,n⟩:=p f q j rfl;rw[Yl (by omega)];refine⟨f,r*3,by simp[Addr.add];omega,?_⟩;have c:=qsu l (r+d) (by omega);have b:=fun h (k:h<l.length*3)=>World.ownsRow.cellAt (show w.ownsRow B 55 3 _ _ _ from g) h k;dsimp only;rw[show(l.drop r).getD d kdw=l[r+d] by rw[Yo,List.getElem?_drop,Yg (by omega)];rfl];exact⟨n,by rw[<- Od,b _ (by omega)];exact c.1,by rw[<- Od,b _ (by omega)];exact c.2.1,by rw[<- Od,b _ (by omega)];exact c.2.2⟩
theorem StX.upto (e:StX w B (.slice a l.length cap) l)(r:Nat)(p:r<=l.length):w.ownsRow B 55 3 (.slice a r cap) r (vx3 (l.take r)):=by
 have h:(l.take r).length=r:=by rw[Zb];omega
 refine⟨by rw[qsv,h],?_⟩;rcases e.2 with ⟨b,n⟩ | ⟨d,m,c,b,f,g,o,k,i,j⟩
 . simp only[Value.slice.injEq]at b
   obtain⟨rfl,-,rfl⟩:=b;exact .inl ⟨by rw[show r=0 by omega],by omega⟩
 . simp only[Value.slice.injEq,true_and]at b
   obtain⟨rfl,rfl⟩:=b;refine .inr ⟨d,cap,c,rfl,f,g,by omega,k,i,?_⟩;rw[<- qms,<- j,List.take_take,Nat.min_eq_left (by omega)]
theorem StX.mono (b:StX w B v l)(c:Bw w w'):StX w' B v l:=qkx b c
end
structure kd0 (P:ShP)(e:Nat->Cx)(l:List Nx):Prop where
 ok:vEx (nf l) l.length
 fit:∀k,k<l.length->Fit (nf l k)
 g:∀j,j<P.m.F.length->GVx (e j).v
 nm:∀k,k<l.length->(nf l k).op=1->∃j,j<P.m.F.length/\(fAt P.m j).nm=(nf l k).nm
 nd:(kaa P.m).Nodup
theorem kd0.step {P:ShP}{b:Nat->Cx}{l:List Nx}(c:kd0 P b l){k L A:Nat}(n:k<l.length)(i:(vst apL (lkF P.m (cS b)) (nf l) k).length=L)(h:arn (nf l k)=A) :
 A<=L/\∃f,f=kcJ apL (lkF P.m (cS b)) (nf l) (k+1)/\(vst apL (lkF P.m (cS b)) (nf l) (k+1)).reverse=(vst apL (lkF P.m (cS b)) (nf l) k).reverse.take (L - A)++[f] /\
 ∀(p:Nat->Vx) (a:To) (o:Nat) (d:Tw),ShI P b p d->kcp d->kaF d a A (fun e=>((vst apL (lkF P.m (cS b)) (nf l) k).reverse.drop (L - A)).getD e kdw) ->
  Gv 144 #[J9 P.Sh 0,nv (nf l k),.slice a A o] d (vv f):=by
 have y:A<=L:=by rw[<- i,<- h,qss];exact c.ok.2.2.2.1 k n
 have s:(vst apL (lkF P.m (cS b)) (nf l) k).reverse.drop (L - A)=((vst apL (lkF P.m (cS b)) (nf l) k).take A).reverse:=by rw[<- i];exact q0o _ _ (by omega)
 have t:(vst apL (lkF P.m (cS b)) (nf l) k).reverse.take (L - A)=((vst apL (lkF P.m (cS b)) (nf l) k).drop A).reverse:=by rw[<- i];exact q0p _ _ (by omega)
 refine⟨y,kcJ apL (lkF P.m (cS b)) (nf l) (k+1),rfl,?_,fun p a o d x u q=>?_⟩
 . rw[t]
   subst h;show(_ :: _).reverse=_;rw[Oi];rfl
 . rw[s]at q
   have D:kcJ apL (lkF P.m (cS b)) (nf l) (k+1)=keS apL (lkF P.m (cS b)) (nf l k) ((vst apL (lkF P.m (cS b)) (nf l) k).take A).reverse:=by subst h;rfl
   rw[D];refine q46 P b p (nf l k) a A o _ d (c.ok.2.2.1 k n) (by rw[Zf,Zb,i];omega) h.symm (fun r f=>?_) (c.nm k n) c.nd (c.fit k n).2.1 x u q;rw[Ol]at f;have f:=Z6 f;rw[qst]at f;obtain⟨F,C,rfl⟩:=Y4.1 f;obtain⟨e,j,rfl⟩:=List.getElem_of_mem C;exact kda c.ok.2.2.1 c.ok.2.2.2.1 (fun e j=>⟨(c.fit e j).2.2.1,(c.fit e j).2.2.2⟩) (fun r=>kgH (fun E z=>c.g E z) r) _ (by have:=(qn9 _ _ e j).2.2;omega)
theorem q9y (P:ShP)(q:Nat->Cx)(Q:Nat->Vx)(l:List Nx)(a:To)(c:Nat)(w:Tw)(T:kd0 P q l)(hX:ShI P q Q w)(hN:kb0 w a l)(hG:kcp w) :
 Gv 104 #[J9 P.Sh 0,.slice a l.length c] w (vv (evL apL (lkF P.m (cS q)) l)):=by
 refine opS fun G M HZ hW HR=>?_;have aX:=T.ok.2.1;have aY:=T.ok.1;obtain⟨g,av,ax,aw⟩:∃g:Nat->List Vx,Hi (g 0=[])/\Hi (∀d,d<l.length->arn (nf l d)<=(g d).length/\(g d).length<=d/\∃j,g (d+1)=(g d).take ((g d).length - arn (nf l d))++[j] /\
  ∀(Q:Nat->Vx) (a:To) (c:Nat) (f:Tw),ShI P q Q f->kcp f->kaF f a (arn (nf l d)) (fun n=>((g d).drop ((g d).length - arn (nf l d))).getD n kdw) ->
   Gv 144 #[J9 P.Sh 0,nv (nf l d),.slice a (arn (nf l d)) c] f (vv j))/\Hi (g l.length=[G]):=by
  refine⟨fun d=>(vst apL (lkF P.m (cS q)) (nf l) d).reverse,h_ rfl,h_ fun d hk=>?_,h_ ?_⟩
  . have:=T.step hk (L:=(vst apL (lkF P.m (cS q)) (nf l) d).length) (A:=arn (nf l d)) rfl rfl
    obtain⟨r,j,-,h2,h3⟩:=this;simp only[Zf];exact⟨r,by rw[qss];exact qs8 _ _,j,h2,h3⟩
  . have r:(vst apL (lkF P.m (cS q)) (nf l) l.length).length=1:=by rw[qss];exact T.ok.2.2.2.2.1
    obtain⟨k,e⟩:=kdb r;dsimp only;have h:evL apL (lkF P.m (cS q)) l=G:=HZ.u;rw[e];show [k]=[G];rw[<- h,evL,kcJ,e];rfl
 obtain⟨k,hB⟩:=Nq M.heap.size;have X:Hi (∀f,Below k M f->ShI P q Q f/\kb0 f a l/\kcp f/\RW w f):=h_ fun f h=>by
  rw[<- hB]at h;have e:=HR.u.B;exact⟨(hX.mono e).mono h,(hN.mono e).mono h,(hG.mono e).mono h,HR.u.mono h⟩
 have V:Hi (∀f,Below k M f->k<=f.heap.size):=h_ fun f h=>by rw[<- hB];exact h.size
 go_enter func104,ntmps104;go_wp2_with fail;go_loopw [5,7,8,9,12] (fun e _ _ _ n wr=>∃d:Nat,d<=l.length/\n=J6 d/\StX wr k e (g d)/\Below k M wr) (fun _ _ _ _ n _=>l.length - (intOf n).toNat)
 case atStart=>exact⟨0,nZ _,rfl,by rw[av.u];exact⟨rfl,.inl ⟨rfl,rfl⟩⟩,bR _ _⟩
 case round =>
 obtain⟨d,hk,rfl,y,h⟩:=hrel;obtain⟨af,H⟩:=oB y h;obtain⟨E,p,rfl,aG,-,aL⟩:=y.shape;have aq:=h_ aL;by_cases al:d<l.length
 case pos =>
  have aJ:(d:Int)<l.length:=by omega
  have aW:(0:Int)<=d:=by omega
  obtain⟨aa,aA,j,ac,U⟩:=ax.u d al;have aB:=(X wr H).2.1;obtain⟨aR,aZ,rfl,-,c0,c1,c2,c3,c4⟩:=aB d al;have aj:=kbQ (nf l d);obtain⟨t,hn⟩:=Nq (nf l d);rw[hn]at aa ac U c0 c1 c2 c3 c4 aj;have Y:=h_ fun f=>q0m t f;obtain⟨o,hA⟩:=Nq (arn t);rw[hA]at aa ac U Y aj;unfold nv at U Y;obtain⟨W,Z⟩:=oB U ac;obtain⟨D,N⟩:=Nq ((g d).length);rw[N]at aa aA W Z aG⊢;have HL:=h_ N;have aN:wrap64 ((D:Int) - (o:Int))=((D - o:Nat):Int):=by rw[q6w (by omega) (by omega)];omega
  obtain⟨e,aC⟩:=Nq (D - o);rw[aC]at aN W Z;have aS:(D:Int) - (o:Int)=(e:Int):=by omega
  have am:Hi (D - e=o):=h_ (by omega);have aU:e<=D:=by omega
  obtain⟨J,aD⟩:∃J,(if p=e then E else E.map (·.add (e*3)))=J:=⟨_,rfl⟩;have ag:Hi (∀f,Bw wr f->kaF f J o (fun n=>((g d).drop e).getD n kdw)/\f.ownsRow k 55 3 (.slice E e p) e (vx3 ((g d).take e))):=h_ fun f h=>by
   have K:=af.mono h;have r:=K.from e (by rw[N];omega);rw[aD,N,show D - e=o by omega]at r;exact⟨r,K.upto e (by rw[N];omega)⟩
  obtain⟨Wn,aV,I,C⟩:=nw wr 190 (Je t);obtain⟨y0,y1,y2,y3,y4⟩:=kaG I;go_wp2_with fail;refine cQ (Y _) fun R h=>?_;replace I:=mB I h;replace C:=mT C h;obtain⟨y0,y1,y2,y3,y4⟩:=kaG I;go_wp2_with fail;have hC:∀n,Bw R n->n.cell? ⟨wr.heap.size,0,none⟩=some (J6 t.op)/\n.cell? ⟨wr.heap.size,1,none⟩=some (J6 t.v.k)/\n.cell? ⟨wr.heap.size,2,none⟩=some (J6 t.v.n)/\n.cell? ⟨wr.heap.size,3,none⟩=some (.string t.v.s)/\n.cell? ⟨wr.heap.size,4,none⟩=some (.string t.nm):=fun n h=>kaG (I.mono h I.lt);refine kd3 (B:=R.heap.size) (W0:=R) (bR _ _) fun f=>?_;refine tkA 0 f ?_;refine tkA 1 f ?_;refine tkA 2 f ?_;refine tkA 3 f ?_;refine tkA (v:=.slice J o (p - e)) 4 f ?_ (hy:=fun w hS=>by have aT:=am.u;simp[execOp,go_sem, *]);refine calV (z:=j) (F:=144) (args:=#[J9 P.Sh 0,.agg (Je t),.slice J o (p - e)]) 5 26 9 f f.size (by decide) (fun n ak=>?hcal) ?_
  case hcal =>
   have O:=C.trans ((f.trans (ak.mono f.size)).mono C.size);obtain⟨hX,-,hG,-⟩:=X n (H.trans (O.mono (V _ H)));exact W Q J (p - e) n hX hG (ag n O).1
  intro u W9 ai aI aF;simp only[Ya,Yb];have O:=C.trans ((f.trans (aF.mono f.size)).mono C.size);obtain⟨an,ae,ah⟩:=oC (ag W9 O).2 (H.trans (O.mono (V _ H))) ai;have aM:=V _ ae;have au:Hi ((Value.slice E e p).ownBlock≠some u):=h_ fun K=>by
   cases E with
   | none=>cases K
   | some ad =>
    obtain⟨x,o',az⟩:=ad;have K:x=u:=(by simpa [Value.ownBlock] using K);have r:=(aq x o' az rfl).2.2.2;have h2:=C.size;have h3:R.heap.size<=u:=aI;omega
  obtain⟨x0,x1,x2⟩:=kag ai;obtain⟨i0,hi,aO,aP,aQ⟩:=info_parts qpa;go_wp2_with fail;refine wp_region_held_drew (S:=fun K=>K.cell? ⟨u,0,none⟩=some (J6 j.k)/\K.cell? ⟨u,1,none⟩=some (J6 j.n)/\K.cell? ⟨u,2,none⟩=some (.string j.s)) (by kernel_rfl) ⟨x0,x1,x2⟩ (fun f=>?_);refine tkA 0 f ?_;refine tkA 1 f ?_;refine tkA (v:=.slice E e p) 2 f ?_ (hy:=fun w hS=>by have h5:e<=p:=(by omega);simp[execOp,go_sem, *]);refine tkA 3 f ?_;refine appT (B:=k) (cs:=[J6 j.k,J6 j.n,.string j.s]) 4 31 32 5 (.tmp 29) (.tmp 31) (fun n ak aH=>kag (w:=n) (b:=u) ((aH u ah.lt (Ne.symm au)).trans ah)) aM (qkx an (bR _ _).drew) underlying39 hi aO aP aQ rfl (by omega) rfl (by simp[Value.oneCell']) (by unfold maxLen;omega) (by omega) ?_;intro x ay W8 aK aE _;simp only[Ya,Yb];have ap:Hi (StX W8 k (.slice (some ⟨x,0,none⟩) (e+1) ay) (g (d+1))):=h_ (by
   have r:((g d).take e).length=e:=by rw[Zb,HL.u];omega
   unfold StX;rw[Z.u,show vx3 ((g d).take e++[j])=vx3 ((g d).take e)++[J6 j.k,J6 j.n,.string j.s] by simp[vx3],Yj,r];exact aK)
  have r:Hi (Below k M W8):=h_ (ae.trans (q36 aE));refine rQ ?_;exact⟨d+1,by omega,by go_num,ap,r⟩
 case neg =>
  obtain rfl:l.length=d:=by omega
  have aJ:¬ ((l.length:Nat):Int)<((l.length:Nat):Int):=by omega
  have y:=af.u;rw[aw.u]at y⊢;obtain⟨x,rfl,-,-⟩:=qr1 (show wr.ownsRow k 55 3 (.slice E 1 p) 1 _ from y) (i:=0) (by omega);have f:wr.cell? ⟨x,0,none⟩=some (J6 G.k):=by rw[World.ownsRow.cellAt (show wr.ownsRow k 55 3 _ 1 _ from y) 0 (by omega)];rfl
  have d1:wr.cell? ⟨x,1,none⟩=some (J6 G.n):=by rw[World.ownsRow.cellAt (show wr.ownsRow k 55 3 _ 1 _ from y) 1 (by omega)];rfl
  have d2:wr.cell? ⟨x,2,none⟩=some (.string G.s):=by rw[World.ownsRow.cellAt (show wr.ownsRow k 55 3 _ 1 _ from y) 2 (by omega)];rfl
  have e:=h_ (X wr H).2.2.2;obtain⟨⟨r,t,u⟩,j,n,o⟩:=e.val;rw[show([G]:List Vx).length=1 from rfl];go_wp2
  all_goals exact bQ ⟨rfl,e.u.out _ _ _⟩
theorem qol (c:Cx)(f:Fl)(A:FA)(b:Nat)(t:TypeId)(l:Tl)(v:Vx)(w:Tw)(F:v.s.size<=9223372036854775807)(h:Blk w b t (hC c f A++l)) :
 Gv 115 #[J9 b 0,.agg (Jc v.k v.n v.s)] w (.bool (kcj f v)):=by
 have j:=Blk.new w 55 (Jc v.k v.n v.s);have g:=(bR w.heap.size w).alloc (nR _) (.cells (Jc v.k v.n v.s) 55);obtain⟨e,E⟩:=Nq (w.alloc (.cells (Jc v.k v.n v.s) 55));rw[E]at j g;have z:Hi (∀a,Bw e a->(a.cell? ⟨w.heap.size,0,none⟩=some (J6 v.k)/\a.cell? ⟨w.heap.size,1,none⟩=some (J6 v.n)/\a.cell? ⟨w.heap.size,2,none⟩=some (.string v.s))/\a.cell? ⟨b,7,none⟩=some (J6 f.ty)):=h_ fun a a=>⟨kag (j.mono a j.lt),by rw[((h.mono g h.lt).mono a (h.mono g h.lt).lt).cell];rfl⟩;obtain⟨m,o⟩:=oB g (q2d v.k v.n v.s e.drew F);have p:Hi (kcj f v=((v.k==0||v.k==f.ty)&&kah v.k v.n v.s)):=h_ (Bool.and_comm _ _);obtain⟨y,x⟩:=Nq (kcj f v);rw[x];have q:=h_ x;go_enter func115,ntmps115;go_wp2_with fail;refine kd3 (B:=e.heap.size) (W0:=e) (bR _ _) fun a=>?_;have hC:=z.u;refine tkA 0 a ?_;refine tkA 1 a ?_;by_cases d:(v.k==0||v.k==f.ty)=true
 . have C:Hi (kah v.k v.n v.s=y):=h_ (by rw[<- q.u,p.u,d,Y9])
   rw[C.u]at o;cases r:(v.k==0)
   case' true =>
    refine tkA 2 a ?_;refine tkA 3 a ?_;refine skL 4 9 a ?_;refine skL 5 10 a ?_;refine skL 6 11 a ?_;refine skL 7 12 a ?_;refine skL 8 13 a ?_;refine skL 9 14 a ?_;refine skL 10 15 a ?_;refine skL 11 16 a ?_;refine tkA 12 a ?_
   case' false =>
    have D:(v.k==f.ty)=true:=(by rw[r,Ot]at d;exact d);refine tkA 2 a ?_;refine tkA 3 a ?_;refine tkA 4 a ?_;refine tkA 5 a ?_;refine tkA 6 a ?_;refine tkA 7 a ?_;refine tkA 8 a ?_;refine tkA 9 a ?_;refine tkA 10 a ?_;refine tkA 11 a ?_;refine tkA 12 a ?_
   all_goals
    refine tkA 13 a ?_;refine tkA 14 a ?_;refine keJ 15 20 a a.size o fun G H a=>?_;refine tkA 16 a ?_;refine tkA 17 a ?_;refine wdQ ?_;have i:=mT m a;go_wp2_with fail;go_ret;exact⟨rfl,i⟩
 . have d:(v.k==0||v.k==f.ty)=false:=by simpa using d
   obtain rfl:false=y:=by rw[<- q.u,p.u,d];rfl
   obtain⟨r,D⟩:(v.k==0)=false/\(v.k==f.ty)=false:=by simpa using d
   refine tkA 2 a ?_;refine tkA 3 a ?_;refine tkA 4 a ?_;refine tkA 5 a ?_;refine tkA 6 a ?_;refine tkA 7 a ?_;refine tkA 8 a ?_;refine tkA 9 a ?_;refine tkA 10 a ?_;refine tkA 11 a ?_;refine tkA 12 a ?_;refine tkA 13 a ?_;refine skL 14 19 a ?_;refine skL 15 20 a ?_;refine tkA 16 a ?_;refine tkA 17 a ?_;refine wdQ ?_;have i:=mT m a;go_wp2_with fail;go_ret;exact⟨rfl,i⟩
theorem qh6 (c:Cx)(v:Vx)(f:Fl)(A:FA)(b:Nat)(y:Value)(w:Tw)(a:Blk w b (ctT true) (ctD true c v f A)) :
 Gv 398 #[J9 b 0,y] w (vv v):=by
 refine opS fun h e g m d=>?_;obtain rfl:v=h:=g.u;replace a:=a.mono d.u.B a.lt;have r:e.cell? ⟨b,15,none⟩=some (J6 v.k):=by rw[a.cell];rfl
 have t:e.cell? ⟨b,16,none⟩=some (J6 v.n):=by rw[a.cell];rfl
 have x:e.cell? ⟨b,17,none⟩=some (.string v.s):=by rw[a.cell];rfl
 obtain⟨⟨o,p,q⟩,i,j,l⟩:=d.u.val;go_enter func398,ntmps398;go_wp2_with fail;go_wp2;exact bQ ⟨rfl,d.u.out _ _ _⟩
def kf1 (f:Fl)(v:Vx):Vx:=if v.k≠4/\kcj f v=false then kax 1 else v
theorem qh5 (P:ShP)(q:Nat->Cx)(I:Nat->Vx)(c:Cx)(f:Fl)(A:FA)(b:Nat)(t:TypeId)(l:Tl)(w:Tw)(o:Blk w b t (hC c f A++l))(a:kd0 P q f.is)(D:ShI P q I w)(y:kb0 w A.i f.is)(x:kcp w) :
 Gv 400 #[J9 b 0,J9 P.Sh 0] w (vv (kf1 f (evL apL (lkF P.m (cS q)) f.is))):=by
 have r:GVx (evL apL (lkF P.m (cS q)) f.is):=kda a.ok.2.2.1 a.ok.2.2.2.1 (fun e d=>⟨(a.fit e d).2.2.1,(a.fit e d).2.2.2⟩) (fun h=>kgH (fun e d=>a.g e d) h) _ (nR _);obtain⟨d,E⟩:=Nq (evL apL (lkF P.m (cS q)) f.is);refine opS fun z G v C i=>?_;have j:=i.u.B;have p:=h_ (q9y P q I f.is A.i A.ic G a (D.mono j) (y.mono j) (x.mono j));rw[E]at p v r;unfold vv at p;have h:=h_ (o.mono j o.lt);have H:G.cell? ⟨b,10,none⟩=some (.slice A.i f.is.length A.ic):=by rw[h.u.cell];rfl
 have K:=h_ fun F e=>qol c f A b t l d F (kfl r) e;clear E r a D y x o j;go_enter func400,ntmps400;go_wp2_with fail
 try rw[C]
 clear C;refine cQ p fun o a=>?_;replace i:=h_ (i.u.mono a);replace h:=mB h a;clear a H p;have a:=Blk.new o 55 Jf;have D:=(bR o.heap.size o).alloc (nR _) (.cells Jf 55);obtain⟨N,U⟩:=Nq (o.alloc (.cells Jf 55));rw[U]at a D;have j:=qii D (nR _) (Jc d.k d.n d.s);have x:=a.row [J6 d.k,J6 d.n,.string d.s];obtain⟨r,C⟩:=Nq o.heap.size;rw[C]at a x;rw[C]at j;obtain⟨p,H⟩:=Nq (N.setRow r (Jc d.k d.n d.s));rw[H]at j x;have y:Bw o p:=by rw[Bw,C];exact j
 replace i:=h_ (i.u.mono y);replace h:=mB h y;obtain⟨M,F⟩:=oB a x;clear a x D j y;go_wp2_with (refine wpList_store_row rfl 55 (.tmp 5) (.tmp 13) rfl r (Jc d.k d.n d.s) rfl rfl 55 Jf M (by kernel_rfl) rfl (by simp[Value.oneCell']) ?_)
 try rw[H]
 have J:Hi (∀a,Bw p a->a.cell? ⟨r,0,none⟩=some (J6 d.k)/\a.cell? ⟨r,1,none⟩=some (J6 d.n)/\a.cell? ⟨r,2,none⟩=some (.string d.s)):=h_ fun a e=>kag (F.mono e F.lt);refine kd3 (B:=p.heap.size) (W0:=p) (bR _ _) fun a=>?_;have hC:=J.u;refine tkA 0 a ?_;refine tkA 1 a ?_;by_cases x:d.k=4
 . obtain rfl:d=z:=by rw[<- v.u,kf1,Yl fun e=>e.1 x]
   have T:(d.k != 4)=false:=by simp[x]
   refine tkA 2 a ?_;refine tkA 3 a ?_;refine skL 4 18 a ?_;refine skL 5 19 a ?_;refine skL 6 20 a ?_;refine skL 7 21 a ?_;refine skL 8 22 a ?_;refine skL 9 23 a ?_;refine tkA 10 a ?_;refine wdQ ?_;obtain⟨O,D⟩:=Nq p.drew;rw[D]at a⊢;have j:=h_ (i.u.mono a);obtain⟨Z,x1,x2⟩:=hC _ a;obtain⟨⟨W,X,Y⟩,Q,R,S⟩:=j.val;go_wp2
   all_goals exact bQ ⟨rfl,j.u.out _ _ _⟩
 . have T:(d.k != 4)=true:=by simp[x]
   refine tkA 2 a ?_;refine tkA 3 a ?_;refine tkA 4 a ?_;refine tkA 5 a ?_;refine tkA 6 a ?_;refine tkA 7 a ?_;have E:=h_ (K p.drew (h.mono a h.lt));obtain⟨V,D⟩:=Nq (kcj f d);rw[D]at E;refine keJ 8 22 a a.size E fun O y a=>?_;refine tkA 9 a ?_;refine tkA 10 a ?_;refine wdQ ?_;have j:=h_ (i.u.mono a);obtain⟨Z,x1,x2⟩:=hC _ a;cases V
   . have L:Hi (kax 1=z):=h_ (by rw[<- v.u,kf1,Yr ⟨x,D⟩])
     go_wp2_with fail;refine(kih z L _).mono ?_;exact exS j
   . obtain rfl:d=z:=by rw[<- v.u,kf1,Yl fun e=>by rw[D]at e;cases e.2]
     obtain⟨⟨W,X,Y⟩,Q,R,S⟩:=j.val;go_wp2
     all_goals exact bQ ⟨rfl,j.u.out _ _ _⟩
structure kcy (P:ShP)(e:Nat->Cx):Prop where
 v:VfA P.m
 fit:kbe P.m
 g:∀j,j<P.m.F.length->GVx (e j).v
theorem kcy.nd {P:ShP}{a:Nat->Cx}(b:kcy P a):(kaa P.m).Nodup:=by
 have:=b.v.f;rw[kae,Yh]at this;simpa using this.2
theorem kcy.rul {P:ShP}{b:Nat->Cx}(c:kcy P b){l:List Nx}(i:kac l=true)(k:∀a,a<l.length->Fit (nf l a))(e:kas (kaa P.m) l=true)(j:¬ l.length=0):kd0 P b l:=by
 rw[kac,Ze]at i;refine⟨(qsw _ _).1 (i.resolve_left (by simpa using j)),k,c.g,fun a f h=>?_,c.nd⟩;rw[khd f]at h⊢;rw[kas,Yv]at e;have:=e _ (Yi f);rw[h]at this;have n:=(qk9 _ _).1 (show kc3 l[a].nm (kaa P.m)=true by simpa using this);obtain⟨r,p,o⟩:=Y4.1 n;obtain⟨q,d,rfl⟩:=List.getElem_of_mem p;exact⟨q,d,by rw[qoe d];exact o⟩
theorem kcy.at {P:ShP}{b:Nat->Cx}(a:kcy P b){k:Nat}(h:k<P.m.F.length){f:Fl}(j:fAt P.m k=f):(¬ f.is.length=0->kd0 P b f.is)/\(¬ f.wh.length=0->kd0 P b f.wh)/\(¬ f.va.length=0->kd0 P b f.va)/\(¬ f.mu.length=0->kd0 P b f.mu):=by
 have g:f∈P.m.F:=by rw[<- j,qoe h];exact Yi h
 have e:=(q7o _ _ _).1 (a.v.fi f g);have d:=a.fit.f f g;have c:=a.v.kn f g;simp only[kai,Yh]at c;exact⟨a.rul e.i d.i c.1.1.1,a.rul e.h d.h c.1.1.2,a.rul e.v d.v c.1.2,a.rul e.u d.u c.2⟩
theorem qoa {v:Vx}(d:GVx v):eqX v (kaj true)=kbg v:=by
 have b:=d.1;unfold eqX kbg;by_cases a:v.k=2
 . rw[kah,a]at b
   simp at b;obtain⟨-,e⟩:=b;by_cases c:v.n=1
   . simp[a,c,e,kaj]
   . simp[a,c,kaj]
 . simp[a,kaj]
theorem qj2 {v:Vx}(c:GVx v):eqX v kak=decide (v.k=0):=by
 have a:=c.1;unfold eqX;by_cases b:v.k=0
 . rw[kah,b]at a
   simp at a;obtain⟨d,e⟩:=a;simp[b,d,e,kak]
 . simp[b,kak]
theorem q1y (v:Vx)(w:Tw)(i:GVx v) :
 Gv 106 #[.agg (Jc v.k v.n v.s)] w (.bool (kbg v||decide (v.k=0))):=by
 rw[<- qoa i,<- qj2 i];have d:=Blk.new w 55 (Jc v.k v.n v.s);have f:=(bR w.heap.size w).alloc (nR _) (.cells (Jc v.k v.n v.s) 55);obtain⟨c,p⟩:=Nq (w.alloc (.cells (Jc v.k v.n v.s) 55));rw[p]at d f;have l:Hi (∀a,Bw c a->a.cell? ⟨w.heap.size,0,none⟩=some (J6 v.k)/\a.cell? ⟨w.heap.size,1,none⟩=some (J6 v.n)/\a.cell? ⟨w.heap.size,2,none⟩=some (.string v.s)):=h_ fun a a=>kag (d.mono a d.lt);have e:=h_ f;obtain⟨j,g⟩:=Nq (eqX v (kaj true));obtain⟨q,h⟩:=Nq (eqX v kak);rw[g,h];obtain⟨m,o⟩:=oB g h;go_enter func106,ntmps106;go_wp2_with fail;refine kd3 (B:=c.heap.size) (W0:=c) (bR _ _) fun a=>?_;have hC:=l.u;refine tkA 0 a ?_;refine keJ 1 4 a a.size (q37 true _) fun r x a=>?_;refine tkA (v:=.bool j) 2 a ?_ (hy:=fun w b=>by rw[<- m.u];simp[execOp,go_sem];unfold eqX kaj;(repeat' split) <;> simp_all);cases j
 case false =>
  refine tkA 3 a ?_;refine tkA 4 a ?_;refine keJ 5 8 a a.size (q21 _) fun t y a=>?_;refine tkA (v:=.bool q) 6 a ?_ (hy:=fun w b=>by rw[<- o.u];simp[execOp,go_sem];unfold eqX kak;(repeat' split) <;> simp_all);refine tkA 7 a ?_;refine tkA 8 a ?_;refine wdQ ?_;have b:=mT e a;go_wp2_with fail;go_ret;exact⟨rfl,b⟩
 case true =>
  refine tkA 3 a ?_;refine skL 4 7 a ?_;refine skL 5 8 a ?_;refine skL 6 9 a ?_;refine tkA 7 a ?_;refine tkA 8 a ?_;refine wdQ ?_;have b:=mT e a;go_wp2_with fail;go_ret;exact⟨rfl,b⟩
def upC (e:Nat->Cx)(k:Nat)(c:Cx)(j:Nat):Cx:=if j=k then c else e j
structure Tch (P:ShP)(w w':Tw):Prop where
 os:w'.os=w.os
 tape:w'.tape=w.tape
 output:w'.output=w.output
 size:w.heap.size<=w'.heap.size
 block:∀q,q<w.heap.size->(∀j,j<P.m.F.length->q≠P.Bs j)->w'.heap[q]? = w.heap[q]?
section
variable {P:ShP} {e:Nat->Cx} {iv:Nat->Vx} {w w' W:Tw}
theorem Tch.below (a:Bw w w'):Tch P w w':=⟨a.os,a.tape,a.output,a.size,fun c b _=>a.block c b⟩
theorem Tch.trans (a:Tch P w w')(b:Tch P w' W):Tch P w W:=⟨b.os.trans a.os,b.tape.trans a.tape,b.output.trans a.output,Y5 a.size b.size,fun f d c=>(b.block f (Yn d a.size) c).trans (a.block f d c)⟩
theorem Tch.set (a:Tch P w W){k:Nat}(d:k<P.m.F.length)(j:Nat)(x:Value):Tch P w (W.setCell ⟨P.Bs k,j,none⟩ x) :=
 ⟨a.os,a.tape,a.output,by have:=a.size;simpa using this,fun c f b=>(heap_setCell_other W ⟨P.Bs k,j,none⟩ c x (b k d)).trans (a.block c f b)⟩
theorem ShI.cell (b:ShI P e iv W){k:Nat}(g:k<P.m.F.length)(j:Nat)(x:Value)(c:Cx)(i:∀a h f d,(ctD a (e k) h f d).set j x=ctD a c h f d):ShI P (upC e k c) iv (W.setCell ⟨P.Bs k,j,none⟩ x):=by
 have d:=b.bx k g;have f:=b.turn g c (iv k) (b.base.setCell (p:=⟨P.Bs k,j,none⟩) d.1 x) (fun l h=>heap_setCell_other W ⟨P.Bs k,j,none⟩ l x h) (by have:=d.2.set j x;rw[i]at this;exact this);exact f.congr (fun _ _=>rfl) (fun a _=>by by_cases h:a=k <;> simp[h])
end
theorem kc8 {W:Tw}{b:Nat}{t:TypeId}{i:Bool}{c:Cx}{v:Vx}{f:Fl}{G:FA}(a:Blk W b t (ctD i c v f G)):W.cell? ⟨b,12,none⟩=some (.slice G.v f.va.length G.vc)/\W.cell? ⟨b,14,none⟩=some (.slice G.u f.mu.length G.uc)/\W.cell? ⟨b,4,none⟩=some (.bool c.ok)/\W.cell? ⟨b,5,none⟩=some (.bool c.must)/\W.frozen? ⟨b,4,none⟩=false/\W.frozen? ⟨b,5,none⟩=false :=
 ⟨by rw[a.cell];rfl,by rw[a.cell];rfl,by rw[a.cell];rfl,by rw[a.cell];rfl,a.free 4,a.free 5⟩
theorem kgE {e:Nat->Cx}{k:Nat}{c:Cx}(d:c.v=(e k).v)(b:c.rel=(e k).rel):cS (upC e k c)=cS e:=by
 funext j
 unfold cS upC;by_cases a:j=k
 . rw[Yr a,a,d,b]
 . rw[Yl a]
theorem kcy.up {P:ShP}{e:Nat->Cx}(a:kcy P e){k:Nat}{c:Cx}(h:GVx c.v):kcy P (upC e k c) :=
 ⟨a.v,a.fit,fun d f=>by unfold upC;by_cases b:d=k;(· rw[Yr b];exact h);(· rw[Yl b];exact a.g d f)⟩
theorem kdQ {P:ShP}{e:Nat->Cx}{l:List Nx}(a:kd0 P e l):GVx (evL apL (lkF P.m (cS e)) l) :=
 kda a.ok.2.2.1 a.ok.2.2.2.1 (fun c b=>⟨(a.fit c b).2.2.1,(a.fit c b).2.2.2⟩) (fun d=>kgH (fun c b=>a.g c b) d) _ (nR _)
theorem ShI.fsl {P:ShP}{e:Nat->Cx}{iv:Nat->Vx}{W:Tw}(a:ShI P e iv W){k:Nat}(b:k<P.m.F.length):FSl W (fAt P.m k) (P.A.fa k):=by
 obtain⟨_,_,-,-,c⟩:=(a.msl.mono a.base).f k b;rw[qoe b];exact c
theorem qdk {b:Array Oper}{rest:List Oper}{o:Oper}{a:Act}{w:Tw}{Q:Exit->Act->Tw->Prop}(i j:Tmp)(v:Vx)(g:GVx v)(h:Region.wanted o (yielded b a.tmps)=true)(d:o.op=.binOp .eql 55 (.tmp i) (.tmp j) 55)(l:a.tmps[i]?.getD undef=.agg (Jc v.k v.n v.s))(hy:a.tmps[j]?.getD undef=.agg #[J6 2,J6 1,J8])
 (c:wpList prog b Q rest (a.put o.dst (.bool (kbg v))) w):wpList prog b Q (o :: rest) a w:=by
 rw[wpList,Yr h];left;unfold Oper.wp;have f:(execOp a.eval o).run prog w=.ok (.value (.bool (kbg v))) w:=by
  rw[<- qoa g];simp[execOp,go_sem,d,l,hy];unfold eqX kaj
  (repeat' split) <;> simp_all
 rw[f];exact c
theorem kci (e:Nat->Cx)(k:Nat)(c b:Cx):upC (upC e k c) k b=upC e k b:=by
 funext j
 unfold upC;by_cases a:j=k
 . rw[Yr a,Yr a]
 . rw[Yl a,Yl a,Yl a]
theorem qfn (P:ShP)(e:Nat->Cx)(iv:Nat->Vx)(k:Nat)(w:Tw)(X:kcy P e)(a:k<P.m.F.length)(C:ShI P e iv w)(hG:kcp P.WD) :
 Calls prog 70 #[J9 P.Sh 0,J6 k] w fun b w'=>b=.returned (.tuple #[])/\ShI P (upC e k ⟨(e k).v,(e k).rel,okB P.m e (fAt P.m k),muB P.m e (fAt P.m k)⟩) iv w'/\Tch P w w':=by
 have L:=h_ fun f h d b W (j:kd0 P f h) (C:ShI P f iv W) (i:kb0 W d h)=>q9y P f iv h d b W j C i (hG.mono C.base);have B:=h_ (X.at a rfl);have ac:Hi (∀b:Cx,b.v=(e k).v->_):=h_ fun b f=>(X.up (k:=k) (c:=b) (by rw[f];exact X.g k a)).at a rfl;have HX:=h_ C;obtain⟨ae,cp,j,ad,-⟩:=C.at a;have ah:w.cell? ⟨P.Sh,12,none⟩=some (.slice (some ⟨ae,0,none⟩) P.m.F.length cp):=by rw[<- j];exact C.blk.cell 12
 unfold ifV at ad;have hm:=qp7 (kbb (fAt P.m k)) (P.Bs k);have af:(k:Int)<P.m.F.length:=by omega
 have ag:(0:Int)<=k:=by omega
 go_enter func70,ntmps70;go_wp2_with fail;refine cQ (qp6 _ _) fun V b=>?_;have f:=h_ (HX.mono b);have M:Hi (Tch P w V):=h_ (Tch.below b);by_cases l:(fAt P.m k).va.length=0
 . by_cases j:(fAt P.m k).mu.length=0
   . have aa:(((fAt P.m k).va.length:Int)==0)=true:=by rw[l];rfl
     have Y:decide (((fAt P.m k).mu.length:Int) > 0)=false:=Yd (by omega);have Z:¬ ((0:Int)<((fAt P.m k).mu.length:Int)):=(by omega);obtain⟨y,z,c4,u,v,x⟩:=kc8 (f.bx k a).2;have s:Hi (okB P.m e (fAt P.m k)=true):=h_ (by rw[okB,Ye l,Bool.true_or]);obtain⟨h,t⟩:=oB (f.cell a 4 (.bool true) ⟨(e k).v,(e k).rel,true,(e k).must⟩ (fun _ _ _ _=>rfl)) (M.set a 4 (.bool true));have r:Hi (muB P.m e (fAt P.m k)=false):=h_ (by rw[muB,Ye j];rfl);go_wp2_with fail
     go_end0
     refine⟨rfl,?_,t.set a 5 _⟩;have i:=h.cell a 5 (.bool (false)) ⟨(e k).v,(e k).rel,true,false⟩ (fun _ _ _ _=>by rw[upC,Yr rfl];rfl);rw[kci]at i;rw[s.u,r.u];exact i
   . have aa:(((fAt P.m k).va.length:Int)==0)=true:=by rw[l];rfl
     have Y:decide (((fAt P.m k).mu.length:Int) > 0)=true:=Ye (by omega);have Z:((0:Int)<((fAt P.m k).mu.length:Int)):=(by omega);obtain⟨y,z,c4,u,v,x⟩:=kc8 (f.bx k a).2;have s:Hi (okB P.m e (fAt P.m k)=true):=h_ (by rw[okB,Ye l,Bool.true_or]);obtain⟨h,t⟩:=oB (f.cell a 4 (.bool true) ⟨(e k).v,(e k).rel,true,(e k).must⟩ (fun _ _ _ _=>rfl)) (M.set a 4 (.bool true));have n:=h_ (L _ (fAt P.m k).mu (P.A.fa k).u (P.A.fa k).uc _ ((ac ⟨(e k).v,(e k).rel,true,(e k).must⟩ rfl).2.2.2 j) h (h.fsl a).u);rw[kgE (c:=⟨(e k).v,(e k).rel,true,(e k).must⟩) rfl rfl]at n;have H:=kdQ (B.2.2.2 j);obtain⟨o,I⟩:=Nq (evL apL (lkF P.m (cS e)) (fAt P.m k).mu);rw[I]at n H;unfold vv at n;have r:Hi (muB P.m e (fAt P.m k)=kbg o):=h_ (by rw[muB,Yd j,I];rfl);have N:=h_ H;go_wp2_with fail;refine cQ n fun W5 b=>?_;obtain⟨U,R⟩:=oB (h.mono b) (t.trans (Tch.below b));go_wp2_with fail;refine cQ (q37 true _) fun W6 b=>?_;obtain⟨E,S⟩:=oB (U.mono b) (R.trans (Tch.below b));obtain⟨y,z,c4,u,v,x⟩:=kc8 (E.bx k a).2;go_wp2_with (refine qdk 49 50 o N (by rfl) rfl rfl rfl ?_)
     go_end0
     refine⟨rfl,?_,S.set a 5 _⟩;have i:=E.cell a 5 (.bool (kbg o)) ⟨(e k).v,(e k).rel,true,kbg o⟩ (fun _ _ _ _=>by rw[upC,Yr rfl];rfl);rw[kci]at i;rw[s.u,r.u];exact i
 . by_cases j:(fAt P.m k).mu.length=0
   . have aa:(((fAt P.m k).va.length:Int)==0)=false:=Yc.2 (by omega)
     have Y:decide (((fAt P.m k).mu.length:Int) > 0)=false:=Yd (by omega);have Z:¬ ((0:Int)<((fAt P.m k).mu.length:Int)):=(by omega);obtain⟨y,z,c4,u,v,x⟩:=kc8 (f.bx k a).2;have q:=h_ (L e (fAt P.m k).va (P.A.fa k).v (P.A.fa k).vc V (B.2.2.1 l) f (f.fsl a).v);have p:=h_ fun W=>q1y (evL apL (lkF P.m (cS e)) (fAt P.m k).va) W (kdQ (B.2.2.1 l));obtain⟨K,J⟩:=Nq (evL apL (lkF P.m (cS e)) (fAt P.m k).va);rw[J]at q p;unfold vv at q;obtain⟨d,G⟩:∃d,(kbg K||decide (K.k=0))=d:=⟨_,rfl⟩;rw[G]at p;have s:Hi (okB P.m e (fAt P.m k)=d):=h_ (by rw[okB,Yd l,Ot,J,G]);go_wp2_with fail;refine cQ q fun W2 b=>?_;obtain⟨T,O⟩:=oB (f.mono b) (M.trans (Tch.below b));go_wp2_with fail;refine cQ (p _) fun W3 b=>?_;obtain⟨D,Q⟩:=oB (T.mono b) (O.trans (Tch.below b));obtain⟨y,z,c4,u,v,x⟩:=kc8 (D.bx k a).2;obtain⟨h,t⟩:=oB (D.cell a 4 (.bool d) ⟨(e k).v,(e k).rel,d,(e k).must⟩ (fun _ _ _ _=>rfl)) (Q.set a 4 (.bool d));have r:Hi (muB P.m e (fAt P.m k)=false):=h_ (by rw[muB,Ye j];rfl);go_wp2_with fail
     go_end0
     refine⟨rfl,?_,t.set a 5 _⟩;have i:=h.cell a 5 (.bool (false)) ⟨(e k).v,(e k).rel,d,false⟩ (fun _ _ _ _=>by rw[upC,Yr rfl];rfl);rw[kci]at i;rw[s.u,r.u];exact i
   . have aa:(((fAt P.m k).va.length:Int)==0)=false:=Yc.2 (by omega)
     have Y:decide (((fAt P.m k).mu.length:Int) > 0)=true:=Ye (by omega);have Z:((0:Int)<((fAt P.m k).mu.length:Int)):=(by omega);obtain⟨y,z,c4,u,v,x⟩:=kc8 (f.bx k a).2;have q:=h_ (L e (fAt P.m k).va (P.A.fa k).v (P.A.fa k).vc V (B.2.2.1 l) f (f.fsl a).v);have p:=h_ fun W=>q1y (evL apL (lkF P.m (cS e)) (fAt P.m k).va) W (kdQ (B.2.2.1 l));obtain⟨K,J⟩:=Nq (evL apL (lkF P.m (cS e)) (fAt P.m k).va);rw[J]at q p;unfold vv at q;obtain⟨d,G⟩:∃d,(kbg K||decide (K.k=0))=d:=⟨_,rfl⟩;rw[G]at p;have s:Hi (okB P.m e (fAt P.m k)=d):=h_ (by rw[okB,Yd l,Ot,J,G]);go_wp2_with fail;refine cQ q fun W2 b=>?_;obtain⟨T,O⟩:=oB (f.mono b) (M.trans (Tch.below b));go_wp2_with fail;refine cQ (p _) fun W3 b=>?_;obtain⟨D,Q⟩:=oB (T.mono b) (O.trans (Tch.below b));obtain⟨y,z,c4,u,v,x⟩:=kc8 (D.bx k a).2;obtain⟨h,t⟩:=oB (D.cell a 4 (.bool d) ⟨(e k).v,(e k).rel,d,(e k).must⟩ (fun _ _ _ _=>rfl)) (Q.set a 4 (.bool d));have n:=h_ (L _ (fAt P.m k).mu (P.A.fa k).u (P.A.fa k).uc _ ((ac ⟨(e k).v,(e k).rel,d,(e k).must⟩ rfl).2.2.2 j) h (h.fsl a).u);rw[kgE (c:=⟨(e k).v,(e k).rel,d,(e k).must⟩) rfl rfl]at n;have H:=kdQ (B.2.2.2 j);obtain⟨o,I⟩:=Nq (evL apL (lkF P.m (cS e)) (fAt P.m k).mu);rw[I]at n H;unfold vv at n;have r:Hi (muB P.m e (fAt P.m k)=kbg o):=h_ (by rw[muB,Yd j,I];rfl);have N:=h_ H;go_wp2_with fail;refine cQ n fun W5 b=>?_;obtain⟨U,R⟩:=oB (h.mono b) (t.trans (Tch.below b));go_wp2_with fail;refine cQ (q37 true _) fun W6 b=>?_;obtain⟨E,S⟩:=oB (U.mono b) (R.trans (Tch.below b));obtain⟨y,z,c4,u,v,x⟩:=kc8 (E.bx k a).2;go_wp2_with (refine qdk 49 50 o N (by rfl) rfl rfl rfl ?_)
     go_end0
     refine⟨rfl,?_,S.set a 5 _⟩;have i:=E.cell a 5 (.bool (kbg o)) ⟨(e k).v,(e k).rel,d,kbg o⟩ (fun _ _ _ _=>by rw[upC,Yr rfl];rfl);rw[kci]at i;rw[s.u,r.u];exact i
theorem qs4 {f:Fl}{v:Vx}(c:GVx v):kf1 f v=if v.k≠0/\v.k≠4/\v.k≠f.ty then kax 1 else v:=by
 unfold kf1 kcj;rw[c.1,Y9];by_cases b:v.k=4
 . rw[Yl fun a=>a.1 b,Yl fun a=>a.2.1 b]
 . by_cases a:v.k=0∨v.k=f.ty
   . rw[Yl (by rcases a with a | a <;> simp[a]),Yl (by omega)]
   . rw[Yr ⟨b,by simp;omega⟩,Yr (by omega)]
theorem kc9 {w:Tw}{b:Nat}{t:TypeId}{i:Bool}{c:Cx}{v:Vx}{f:Fl}{G:FA}(a:Blk w b t (ctD i c v f G)):w.cell? ⟨b,11,none⟩=some (.slice G.h f.wh.length G.hc)/\(w.cell? ⟨b,0,none⟩=some (J6 c.v.k)/\w.cell? ⟨b,1,none⟩=some (J6 c.v.n)/\w.cell? ⟨b,2,none⟩=some (.string c.v.s)/\w.cell? ⟨b,3,none⟩=some (.bool c.rel))/\w.frozen? ⟨b,0,none⟩=false/\w.frozen? ⟨b,1,none⟩=false/\w.frozen? ⟨b,2,none⟩=false/\w.frozen? ⟨b,3,none⟩=false :=
 ⟨by rw[a.cell];rfl,⟨by rw[a.cell];rfl,by rw[a.cell];rfl,by rw[a.cell];rfl,by rw[a.cell];rfl⟩,a.free 0,a.free 1,a.free 2,a.free 3⟩
theorem ShI.val {P:ShP}{a:Nat->Cx}{e:Nat->Vx}{w:Tw}(f:ShI P a e w){k:Nat}(b:k<P.m.F.length)(z:Vx)(c:Cx)(g:c=⟨z,(a k).rel,(a k).ok,(a k).must⟩):ShI P (upC a k c) e (((w.setCell ⟨P.Bs k,0,none⟩ (J6 z.k)).setCell ⟨P.Bs k,1,none⟩ (J6 z.n)).setCell ⟨P.Bs k,2,none⟩ (.string z.s)):=by
 have d:=((f.cell b 0 (J6 z.k) ⟨⟨z.k,(a k).v.n,(a k).v.s⟩,(a k).rel,(a k).ok,(a k).must⟩ (fun _ _ _ _=>rfl)).cell b 1 (J6 z.n) ⟨⟨z.k,z.n,(a k).v.s⟩,(a k).rel,(a k).ok,(a k).must⟩ (fun _ _ _ _=>by rw[upC,Yr rfl];rfl)).cell b 2 (.string z.s) ⟨z,(a k).rel,(a k).ok,(a k).must⟩ (fun _ _ _ _=>by rw[upC,Yr rfl];rfl);rw[kci,kci,<- g]at d;exact d
theorem qcu (P:ShP)(a:Nat->Cx)(f:Nat->Vx)(k:Nat)(c:Tw)(n:kcy P a)(h:k<P.m.F.length)(d:ShI P a f c)(l:kcp P.WD) :
 Gv (kgy (kbb (fAt P.m k))) #[.pointer (some ⟨P.Bs k,0,none⟩),J9 P.Sh 0] c (vv (Frv P.m f (cS a) k).2):=by
 have e:=(d.bx k h).2;show Calls _ _ _ _ fun g b=>g=.returned (vv (if (fAt P.m k).is.length=0 then f k else if (evL apL (lkF P.m (cS a)) (fAt P.m k).is).k≠0/\(evL apL (lkF P.m (cS a)) (fAt P.m k).is).k≠4/\(evL apL (lkF P.m (cS a)) (fAt P.m k).is).k≠(fAt P.m k).ty then kax 1 else evL apL (lkF P.m (cS a)) (fAt P.m k).is))/\Bw c b;by_cases b:(fAt P.m k).is.length=0
 . have g:kbb (fAt P.m k)=true:=Ye b
   rw[Yr b];rw[g]at e⊢;exact qh6 _ _ _ _ _ _ _ e
 . have g:kbb (fAt P.m k)=false:=Yd b
   have j:=(n.at h rfl).1 b;rw[Yl b,<- qs4 (kdQ j)];rw[g]at e⊢;exact qh5 P a f _ _ _ _ _ _ c e j d (d.fsl h).i (l.mono d.base)
theorem qh7 (i:Bool)(a b:Value)(w:Tw):(callFunc (kgy i) #[a,b]).run prog w=.ok (.enter (kgy i) #[a,b]) w:=by cases i <;> kernel_rfl
theorem q38 (P:ShP)(a:Nat->Cx)(e:Nat->Vx)(k:Nat)(w:Tw)(M:kcy P a)(b:k<P.m.F.length)(af:kbM P.m k k=false)(j:ShI P a e w)(V:kcp P.WD) :
 Calls prog 69 #[J9 P.Sh 0,J6 k] w fun f d=>f=.returned (.tuple #[])/\ShI P (upC a k ⟨(Frv P.m e (cS a) k).2,(Frv P.m e (cS a) k).1,(a k).ok,(a k).must⟩) e d/\Tch P w d:=by
 have Z:=h_ fun f i h d (o:kd0 P a f) (j:ShI P a e d) (l:kb0 d i f)=>q9y P a e f i h d o j l (V.mono j.base);have R:=h_ (M.at b rfl);have o:Hi ((Frv P.m e (cS a) k).1=(decide ((fAt P.m k).wh.length=0)||kbg (evL apL (lkF P.m (cS a)) (fAt P.m k).wh))):=h_ rfl;obtain⟨t,X⟩:=Nq ((Frv P.m e (cS a) k).1);obtain⟨i,Y⟩:=Nq ((Frv P.m e (cS a) k).2);have Q:Hi (∀d,ShI P (upC a k ⟨(a k).v,t,(a k).ok,(a k).must⟩) e d->Gv (kgy (kbb (fAt P.m k))) #[.pointer (some ⟨P.Bs k,0,none⟩),J9 P.Sh 0] d (.agg (Jc i.k i.n i.s))):=h_ fun d l=>by
  have f:=qcu P _ e k d (M.up (k:=k) (c:=⟨(a k).v,t,(a k).ok,(a k).must⟩) (M.g k b)) b l V;have p:Frv P.m e (cS (upC a k ⟨(a k).v,t,(a k).ok,(a k).must⟩)) k=Frv P.m e (cS a) k:=qcn fun r l l=>by
   have q:r≠k:=fun h=>by rw[h,af]at l;cases l
   unfold cS upC;rw[Yl q]
  rw[p,Y]at f;exact f
 rw[X,Y];rw[X]at o;have HX:=h_ j;obtain⟨E,U,N,D,-⟩:=j.at b;have O:w.cell? ⟨P.Sh,12,none⟩=some (.slice (some ⟨E,0,none⟩) P.m.F.length U):=by rw[<- N];exact j.blk.cell 12
 have v:Hi (∀h d,ShI P h e d->d.cell? ⟨P.Sh,12,none⟩=some (.slice (some ⟨E,0,none⟩) P.m.F.length U)/\d.cell? ⟨E,k,none⟩=some (.iface (ctP (kbb (fAt P.m k))) (.pointer (some ⟨P.Bs k,0,none⟩)))/\E≠P.Bs k/\P.Sh≠P.Bs k):=h_ fun h d f=>by
  obtain⟨q,p,d,l,h⟩:=f.at b;rw[N]at d;cases d;exact⟨by rw[<- N];exact f.blk.cell 12,l,h,Ne.symm (kdv (f.bx k b).2 f.blk (kcl _).2)⟩
 unfold ifV at D;have hm:=qp7 (kbb (fAt P.m k)) (P.Bs k);have ak:=qm0 (kbb (fAt P.m k)) (P.Bs k);have al:=qh7 (kbb (fAt P.m k)) (.pointer (some ⟨P.Bs k,0,none⟩)) (J9 P.Sh 0);have ai:(k:Int)<P.m.F.length:=by omega
 have aj:(0:Int)<=k:=by omega
 go_enter func69,ntmps69;go_wp2_with fail;refine cQ (qp6 _ _) fun T d=>?_;have h:=h_ (HX.mono d);have S:Hi (Tch P w T):=h_ (Tch.below d);obtain⟨n1,n2⟩:=(v _ _ h).2.2;by_cases r:(fAt P.m k).wh.length=0
 . have ag:(((fAt P.m k).wh.length:Int)==0)=true:=by rw[r];rfl
   obtain⟨G,⟨x,c1,c2,c3⟩,y,z,B,C⟩:=kc9 (h.bx k b).2;obtain⟨O,D,-⟩:=v _ _ h;obtain rfl:true=t:=by rw[o.u,Ye r,Bool.true_or]
   obtain⟨p,J⟩:=oB (h.cell b 3 (.bool (true)) ⟨(a k).v,true,(a k).ok,(a k).must⟩ (fun _ _ _ _=>rfl)) (S.set b 3 (.bool (true)));have H:=h_ (Q _ p);go_wp2_with fail;refine cQ H fun W5 d=>?_;obtain⟨q,K⟩:=oB (p.mono d) (J.trans (Tch.below d));obtain⟨G,⟨x,c1,c2,c3⟩,y,z,B,C⟩:=kc9 (q.bx k b).2;go_wp2_with fail
   go_end0
   refine⟨rfl,?_,((K.set b 0 _).set b 1 _).set b 2 _⟩;have f:=q.val b i ⟨i,true,(a k).ok,(a k).must⟩ (by rw[upC,Yr rfl]);rw[kci]at f;exact f
 . have ag:(((fAt P.m k).wh.length:Int)==0)=false:=Yc.2 (by omega)
   obtain⟨G,⟨x,c1,c2,c3⟩,y,z,B,C⟩:=kc9 (h.bx k b).2;obtain⟨O,D,-⟩:=v _ _ h;have I:=h_ (Z (fAt P.m k).wh (P.A.fa k).h (P.A.fa k).hc T (R.2.1 r) h (h.fsl b).h);have W:=kdQ (R.2.1 r);rw[Yd r,Ot]at o;obtain⟨l,ah⟩:=Nq (evL apL (lkF P.m (cS a)) (fAt P.m k).wh);rw[ah]at I W o;unfold vv at I;have aa:=h_ W;go_wp2_with fail;refine cQ I fun W2 d=>?_;obtain⟨ae,ac⟩:=oB (h.mono d) (S.trans (Tch.below d));go_wp2_with fail;refine cQ (q37 true _) fun W3 d=>?_;obtain⟨L,ad⟩:=oB (ae.mono d) (ac.trans (Tch.below d));obtain rfl:t=kbg l:=o.u;obtain⟨G,⟨x,c1,c2,c3⟩,y,z,B,C⟩:=kc9 (L.bx k b).2;obtain⟨O,D,-⟩:=v _ _ L;obtain⟨p,J⟩:=oB (L.cell b 3 (.bool (kbg l)) ⟨(a k).v,kbg l,(a k).ok,(a k).must⟩ (fun _ _ _ _=>rfl)) (ad.set b 3 (.bool (kbg l)));have H:=h_ (Q _ p);go_wp2_with (refine qdk 28 29 l aa (by rfl) rfl rfl rfl ?_);refine cQ H fun W5 d=>?_;obtain⟨q,K⟩:=oB (p.mono d) (J.trans (Tch.below d));obtain⟨G,⟨x,c1,c2,c3⟩,y,z,B,C⟩:=kc9 (q.bx k b).2;go_wp2_with fail
   go_end0
   refine⟨rfl,?_,((K.set b 0 _).set b 1 _).set b 2 _⟩;have f:=q.val b i ⟨i,kbg l,(a k).ok,(a k).must⟩ (by rw[upC,Yr rfl]);rw[kci]at f;exact f
def ke6 (w:Tw)(n:Nat)(g:Nat->Cx)(r:Ending)(w':Tw):Prop:=∃a c,r=.returned (.slice a n c)/\w'.ownsRow w.heap.size 75 6 (.slice a n c) n (cx6 g n)/\Bw w w'
theorem qcy (P:ShP)(c:Nat->Cx)(A:Nat->Vx)(w:Tw)(ae:P.m.F.length<=200)(i:ShI P c A w) :
 Calls prog 38 #[J9 P.Sh 0] w fun a b=>ke6 w P.m.F.length c a b:=by
 obtain⟨B,r,j⟩:=i.slice;have HX:=h_ i;have af:w.cell? ⟨P.Sh,12,none⟩=some (.slice B P.m.F.length r):=by rw[<- j];exact i.blk.cell 12
 have H:=h_ j;obtain⟨e,t⟩:=Nq w.heap.size;have k:Hi (∀a,Below e w a->ShI P c A a/\e<=a.heap.size):=h_ fun a g=>by rw[<- t]at g⊢;exact⟨i.mono g,g.size⟩
 have G:Hi (∀b d a,a.ownsRow e 75 6 (.slice b P.m.F.length d) P.m.F.length (cx6 c P.m.F.length)->Below e w a->ke6 w P.m.F.length c (.returned (.slice b P.m.F.length d)) a):=h_ fun b d a a f=>by rw[<- t]at a f;exact⟨b,d,rfl,a,f⟩
 go_enter func38,ntmps38;go_wp2_with fail;go_loopw [3,5,11] (fun C _ b wr=>∃(a:Nat) (l:To) (n:Nat),a<=P.m.F.length/\b=J6 a/\C=.slice l a n/\wr.ownsRow e 75 6 (.slice l a n) a (cx6 c a)/\Below e w wr) (fun _ _ b _=>P.m.F.length - (intOf b).toNat)
 case atStart=>exact⟨0,none,0,nZ _,rfl,rfl,World.ownsRow_nil _ _ _ _,bR _ _⟩
 case round =>
 obtain⟨a,l,n,hk,rfl,rfl,R,M⟩:=hrel;obtain⟨p,h⟩:=oB R M;by_cases y:a<P.m.F.length
 case pos =>
  have Q:(a:Int)<P.m.F.length:=by omega
  have ad:(0:Int)<=a:=by omega
  obtain⟨Z,J,j,T,-⟩:=(k _ h).1.at y;obtain⟨rfl,rfl⟩:B=some ⟨Z,0,none⟩/\r=J:=by have:=H.symm.trans j;simpa using this
  unfold ifV at T;have hm:=qp7 (kbb (fAt P.m a)) (P.Bs a);go_wp2_with fail;refine cQ (qp6 _ _) fun b x=>?_;have v:=h.trans (x.mono (k _ h).2);have K:=qkx p x;obtain⟨L,U⟩:=k _ v;have f:=(L.bx a y).2;obtain⟨d,z⟩:=Nq (c a);rw[z]at f;have I:=h_ z;have q0:b.cell? ⟨P.Bs a,0,none⟩=some (J6 d.v.k):=by rw[f.cell];rfl
  have q1:b.cell? ⟨P.Bs a,1,none⟩=some (J6 d.v.n):=by rw[f.cell];rfl
  have q2:b.cell? ⟨P.Bs a,2,none⟩=some (.string d.v.s):=by rw[f.cell];rfl
  have q3:b.cell? ⟨P.Bs a,3,none⟩=some (.bool d.rel):=by rw[f.cell];rfl
  have q4:b.cell? ⟨P.Bs a,4,none⟩=some (.bool d.ok):=by rw[f.cell];rfl
  have q5:b.cell? ⟨P.Bs a,5,none⟩=some (.bool d.must):=by rw[f.cell];rfl
  obtain⟨E,q,D⟩:=oC (Blk.new b 75 (cxC d).toArray) K v;obtain⟨Y,O,V,W,X⟩:=info_parts qfd;go_wp2_with (at_builtin;refine wpList_append_own _ rfl _ _ 31 rfl e 75 Y _ 6 40 underlying31 O V W X rfl (by omega) _ _ _ rfl (q.alloc _) ⟨b.heap.size,0,none⟩ 1 1 (cxC d) rfl rfl (fun o C C=>by rw[show(⟨b.heap.size,0,none⟩:Addr).add o=⟨b.heap.size,o,none⟩ by simp[Addr.add];try exact fun g=>g.symm];exact(E.cell o).trans (by simpa [cxC] using C)) (by simp[cxC,Value.oneCell']) (by unfold maxLen;omega) (by omega) (by simp;omega) ?_);intro v' w3 S N _;have g:w3.ownsRow e 75 6 v' (a+1) (cx6 c (a+1)):=by rw[qit,I.u];exact S
  obtain⟨aa,ac,rfl⟩:=kcz g;obtain⟨C,o⟩:=oB g ((D.alloc U (.cells (cxC d).toArray 75)).grown N (by simp;omega) (fun q' c=>qc8 q c));refine rQ ?_;exact⟨a+1,_,_,by omega,by go_num,rfl,C,o⟩
 case neg =>
  obtain rfl:P.m.F.length=a:=by omega
  have Q:¬ ((P.m.F.length:Nat):Int)<((P.m.F.length:Nat):Int):=by omega
  have b:=h_ (G _ _ _ p h);go_wp2_with fail;go_ret;exact b
def BsX (P:ShP)(k:Nat):Prop:=∃j,j<P.m.F.length/\k=P.Bs j
section
variable {P:ShP} {e:Nat->Cx} {iv:Nat->Vx} {W W':Tw}
theorem qbw {k:Nat}{o:Obj}(a:W.heap[k]? = some o):k<W.heap.size:=(Yq.1 a).1
theorem Tch.keepB (a:Tch P W W')(hi:Nat):kbJ (BsX P) hi W W':=⟨a.size,fun c _ _ _ _ d b=>(a.block c (qbw b) fun f c e=>d ⟨f,c,e⟩).trans b⟩
theorem Tch.keepO (b:Tch P W W')(f:ShI P e iv W):KeepsOthers W W':=⟨b.size,fun c a a h=>(b.block c (qbw a) fun c g e=>by
 subst e;have d:W.heap[P.Bs c]? = some (.cells _ _ _):=(f.bx c g).2;rw[d]at a;cases a;simp[Obj.isCells]at h).trans a⟩
theorem ShI.out {lo hi:Nat}(a:ShI P e iv W)(d:Out lo hi W W')(j:P.WD.heap.size<=lo)(h:∀b,b<P.m.F.length->P.Bs b<lo)(o:P.Sh<lo)(k:∀c,P.u.ownBlock=some c->c<lo):ShI P e iv W' :=
 ⟨a.base.trans (d.below j a.base.size),a.snd,a.msl,a.lo,fun b f=>⟨(a.bx b f).1,d.blk (a.bx b f).2 (by have:=h b f;omega)⟩,a.up,d.blk a.blk (by omega),qr5 a.row fun c e=>d.block c (by
  rcases a.row.2 with ⟨b,-⟩ | ⟨g,l,n,b,-,i,-⟩
  . rw[b]at e;cases e
  . rw[b]at e
    have f:g=c:=(by simpa [Value.ownBlock] using e);rw[<- f];exact qbw i) (by have:=k c e;omega)⟩
end
end Go.Proofs.YtenckgnkjkijnaaGreatDoor
namespace Go.Proofs.YtenckgnkjkijnaaGreatDoor
open Go Go.Proofs.Tryz
def kcR (m:Fm)(iv:Nat->Vx)(e:Nat->Cx)(k:Nat):Nat->Cx:=upC e k ⟨(Frv m iv (cS e) k).2,(Frv m iv (cS e) k).1,(e k).ok,(e k).must⟩
theorem qnp (m:Fm)(c:Nat->Vx)(a:Nat->Cx)(k:Nat):cS (kcR m c a k)=kdi (Frv m c) (cS a) k:=by
 funext j
 unfold kcR upC kdi;by_cases b:j=k
 . simp only[cS,Yr b]
 . simp only[cS,Yl b]
theorem qnq (m:Fm)(b:Nat->Vx)(l:List Nat)(a:Nat->Cx):cS (l.foldl (kcR m b) a)=l.foldl (kdi (Frv m b)) (cS a):=by
 induction l generalizing a with
 | nil=>rfl
 | cons d l c=>rw[List.foldl_cons,List.foldl_cons,c,qnp]
theorem qon (m:Fm)(b:Nat->Vx)(l:List Nat)(a:Nat->Cx)(j:Nat):((l.foldl (kcR m b) a) j).ok=(a j).ok/\((l.foldl (kcR m b) a) j).must=(a j).must:=by
 induction l generalizing a with
 | nil=>exact⟨rfl,rfl⟩
 | cons c l g =>
  rw[List.foldl_cons];have e:=g (kcR m b a c);have f:(kcR m b a c j).ok=(a j).ok/\(kcR m b a c j).must=(a j).must:=by
   unfold kcR upC;by_cases d:j=c
   . rw[Yr d,d];exact⟨rfl,rfl⟩
   . rw[Yl d];exact⟨rfl,rfl⟩
  exact⟨e.1.trans f.1,e.2.trans f.2⟩
theorem qjd (m:Fm)(b:Nat->Vx)(l:List Nat)(a:Nat->Cx):l.foldl (kcR m b) a=ceR a (l.foldl (kdi (Frv m b)) (cS a)):=by
 funext j
 have c:=qon m b l a j;unfold ceR;rw[<- qnq,<- c.1,<- c.2];rfl
def kcL (m:Fm)(e:Nat->Cx)(k j:Nat):Cx:=if j<k then ⟨(e j).v,(e j).rel,okB m e (fAt m j),muB m e (fAt m j)⟩ else e j
theorem qnr (m:Fm)(a:Nat->Cx)(k:Nat):cS (kcL m a k)=cS a:=by
 funext j
 unfold cS kcL;by_cases b:j<k
 . rw[Yr b]
 . rw[Yl b]
theorem qfm (m:Fm)(a:Nat->Cx)(k:Nat):upC (kcL m a k) k ⟨(kcL m a k k).v,(kcL m a k k).rel,okB m (kcL m a k) (fAt m k),muB m (kcL m a k) (fAt m k)⟩=kcL m a (k+1):=by
 funext j
 unfold upC okB muB;rw[qnr];unfold kcL;by_cases b:j=k
 . subst b
   rw[Yr rfl,Yr (Zu _),Yl (Nat.lt_irrefl _)];rfl
 . rw[Yl b]
   by_cases c:j<k
   . rw[Yr c,Yr (by omega)]
   . rw[Yl c,Yl (by omega)]
theorem qk1 (m:Fm)(a:Nat->Cx)(n j:Nat)(b:j<n):kcL m a n j=ceJ m a (fun _=>true) j:=by
 unfold kcL ceJ;rw[Yr b,Yr rfl]
theorem kgF (m:Fm):∀b a (c:a<(kam m b).length),nxt m ((kam m b).take a)=some (kam m b)[a]:=by
 intro b
 induction b with
 | zero=>intro a c;exact absurd c (nL _)
 | succ b g =>
  intro a c;cases e:nxt m (kam m b) with
  | none =>
   have d:=qgb e;simp only[d]at c⊢;exact g a c
  | some h =>
   have d:=qgc e;simp only[d]at c⊢;by_cases f:a<(kam m b).length
   . rw[List.take_append_of_le_length (by omega),List.getElem_append_left f];exact g a f
   . obtain rfl:a=(kam m b).length:=by rw[Yj]at c;simp at c;omega
     rw[List.take_left']
     . simpa using e
     . rfl
theorem qqy {m:Fm}{n i j:Nat}(c:i<(kam m n).length)(e:j<m.F.length)(d:kbM m j (kam m n)[i]=true):j∈(kam m n).take i:=by
 have a:=(qko (kgF m n i c)).2.1;rw[kdX,Yh,Yv]at a;have b:=a.2 j (Yu.2 e);rw[d]at b;simpa using b
theorem qqx {m:Fm}(b:(kam m m.F.length).length=m.F.length){k:Nat}(g:k<m.F.length):k∈kam m m.F.length:=by
 refine Classical.byContradiction fun f=>?_;have e:(k :: kam m m.F.length).Nodup:=Og.2 ⟨f,qc6 m _⟩;have:=kdA m.F.length ((k :: kam m m.F.length).map fun a:Nat=>(a:Int)) (List.pairwise_map.2 (List.Pairwise.imp (fun {c d} (b:c≠d) c=>b (Int.ofNat.inj c)) e)) (fun a c=>by
  obtain⟨d,a,rfl⟩:=Y4.1 c;rcases Z7.1 a with rfl | a
  . omega
  . have:=qqw m _ d a;omega)
 rw[Zp,Yt]at this;omega
theorem qrp {b:Type}{F:(Nat->b)->Nat->b}{D D':List Nat}(c:∀a,a∈D ↔ a∈D')(s0:Nat->b)(r:Nat):rdS F D s0 r=rdS F D' s0 r:=by
 induction r with
 | zero=>rfl
 | succ r d =>
  funext a
  simp only[rdS,d,c a]
theorem qs3 (m:Fm)(d:Nat->Vx)(e:(kam m m.F.length).length=m.F.length)(j:Nat)(c:j<m.F.length):kcL m ((kam m m.F.length).foldl (kcR m d) fun _=>zeC) m.F.length j=kdR m d j:=by
 rw[qk1 _ _ _ _ c,qjd];unfold kdR;rw[qrp (D':=kam m m.F.length) (fun a=>⟨fun b=>qqx e (by simpa [mkD] using b),fun b=>by simpa [mkD] using qqw m _ a b⟩)];have:=fun a=>khe (F:=Frv m d) (fed:=fun j a=>j<m.F.length/\kbM m j a=true) (fun b b a f=>qcn fun j c b=>f j ⟨c,b⟩) (qc6 m m.F.length) (fun f f j b=>.inl (qqy f b.1 b.2)) (cS fun _=>zeC) (r:=m.F.length+1) (by rw[e];omega) a;rw[funext this]
end Go.Proofs.YtenckgnkjkijnaaGreatDoor
namespace Go.Proofs.YtenckgnkjkijnaaGreatDoor
open Go Go.RowKit Go.Proofs.Tryz
def upV (iv:Nat->Vx)(k:Nat)(v:Vx)(j:Nat):Vx:=if j=k then v else iv j
theorem qsh (c:Cx)(u:Vx)(f:Fl)(A:FA)(b:Nat)(v:Vx)(w:Tw)(y:v.s.size<=9223372036854775807)(d:Blk w b (ctT true) (ctD true c u f A)) :
 Calls prog 399 #[J9 b 0,.agg (Jc v.k v.n v.s)] w fun a e=>a=.returned (.bool (kcj f v))/\∃a,Bw w a/\(e=a∨(e=((a.setCell ⟨b,15,none⟩ (J6 v.k)).setCell ⟨b,16,none⟩ (J6 v.n)).setCell ⟨b,17,none⟩ (.string v.s)))/\(kcj f v=true->e=((a.setCell ⟨b,15,none⟩ (J6 v.k)).setCell ⟨b,16,none⟩ (J6 v.n)).setCell ⟨b,17,none⟩ (.string v.s)):=by
 have j:=Blk.new w 55 (Jc v.k v.n v.s);have h:=(bR w.heap.size w).alloc (nR _) (.cells (Jc v.k v.n v.s) 55);obtain⟨i,t⟩:=Nq (w.alloc (.cells (Jc v.k v.n v.s) 55));rw[t]at j h;obtain⟨C,q,p⟩:=oC j h (d.mono h d.lt);have r:Hi (∀a,Bw i a->a.cell? ⟨w.heap.size,0,none⟩=some (J6 v.k)/\a.cell? ⟨w.heap.size,1,none⟩=some (J6 v.n)/\a.cell? ⟨w.heap.size,2,none⟩=some (.string v.s)):=h_ fun a l=>kag (j.mono l j.lt);have o:=h_ (qol c f A b _ _ v i.drew y ((d.mono h d.lt).mono (bR _ _).drew (d.mono h d.lt).lt));obtain⟨z,x⟩:=Nq (kcj f v);rw[x]at o⊢;go_enter func399,ntmps399;go_wp2_with fail;refine kd3 (B:=i.heap.size) (W0:=i) (bR _ _) fun a=>?_;have hC:=r.u;refine tkA 0 a ?_;refine tkA 1 a ?_;refine tkA 2 a ?_;refine tkA 3 a ?_;refine keJ 4 9 a a.size o fun g H a=>?_;refine tkA 5 a ?_;refine wdQ ?_;have m:=mT q a;obtain⟨I,J,K⟩:=hC _ a;have e:=p.mono a p.lt;have D:g.cell? ⟨b,15,none⟩=some (J6 u.k):=by rw[e.cell];rfl
 have c1:g.cell? ⟨b,16,none⟩=some (J6 u.n):=by rw[e.cell];rfl
 have c2:g.cell? ⟨b,17,none⟩=some (.string u.s):=by rw[e.cell];rfl
 have E:=e.free 15;have F:=e.free 16;have G:=e.free 17;cases z
 . go_wp2_with fail
   go_ret;exact⟨rfl,g,m,.inl rfl,fun l=>by cases l⟩
 . go_wp2_with fail
   go_ret;exact⟨rfl,g,m,.inr rfl,by first | rfl | exact fun _=>rfl⟩
theorem qsg (p:To)(v:Vx)(w:Tw) :
 Gv 401 #[.pointer p,.agg (Jc v.k v.n v.s)] w (.bool (eqX v kak)):=by
 have c:=Blk.new w 55 (Jc v.k v.n v.s);have d:=(bR w.heap.size w).alloc (nR _) (.cells (Jc v.k v.n v.s) 55);obtain⟨b,j⟩:=Nq (w.alloc (.cells (Jc v.k v.n v.s) 55));rw[j]at c d;have f:=h_ d;have h:Hi (∀a,Bw b a->a.cell? ⟨w.heap.size,0,none⟩=some (J6 v.k)/\a.cell? ⟨w.heap.size,1,none⟩=some (J6 v.n)/\a.cell? ⟨w.heap.size,2,none⟩=some (.string v.s)):=h_ fun a a=>kag (c.mono a c.lt);obtain⟨l,e⟩:=Nq (eqX v kak);rw[e];have i:=h_ e;go_enter func401,ntmps401;go_wp2_with fail;refine kd3 (B:=b.heap.size) (W0:=b) (bR _ _) fun a=>?_;have hC:=h.u;refine tkA 0 a ?_;refine keJ 1 6 a a.size (q21 _) fun m o a=>?_;refine tkA (v:=.bool l) 2 a ?_ (hy:=fun w g=>by rw[<- i.u];simp[execOp,go_sem];unfold eqX kak;(repeat' split) <;> simp_all);refine tkA 3 a ?_;refine wdQ ?_;have g:=mT f a;go_wp2_with fail;go_ret;exact⟨rfl,g⟩
theorem khD {f:Fl}{v:Vx}:eqX v kak=(kcj f v&&decide (v.k=0)):=by
 rw[kfR];unfold zv kcj kah;by_cases a:v.k=0
 . simp[a]
 . simp[a]
def keM (f:Fl)(v:Vx):Bool:=kcj f v&&(decide (f.is.length=0)||decide (v.k=0))
theorem qmf (P:ShP)(g:Nat->Cx)(u:Nat->Vx)(k:Nat)(v:Vx)(f:Tw)(D:v.s.size<=9223372036854775807)(c:k<P.m.F.length)(q:ShI P g u f) :
 Calls prog (kgz (kbb (fAt P.m k))) #[.pointer (some ⟨P.Bs k,0,none⟩),.agg (Jc v.k v.n v.s)] f fun w j=>w=.returned (.bool (keM (fAt P.m k) v))/\Tch P f j/\(∃a,ShI P g a j)/\(keM (fAt P.m k) v=true->ShI P g (upV u k v) j):=by
 have z:=(q.bx k c).2;unfold keM;by_cases l:(fAt P.m k).is.length=0
 . have h:kbb (fAt P.m k)=true:=Ye l
   rw[Ye l,Bool.true_or,Bool.and_true];rw[h]at z⊢;refine(qsh _ _ _ _ _ v f D z).mono fun w j e=>?_;obtain⟨e,x,A,a,E⟩:=e;have b:=q.mono A;have y:Tch P f x:=Tch.below A;have C:ShI P g (upV u k v) (((x.setCell ⟨P.Bs k,15,none⟩ (J6 v.k)).setCell ⟨P.Bs k,16,none⟩ (J6 v.n)).setCell ⟨P.Bs k,17,none⟩ (.string v.s)):=by
    have d:=b.bx k c;have B:=((d.2.set 15 (J6 v.k)).set 16 (J6 v.n)).set 17 (.string v.s);have o:=b.turn c (g k) v (((b.base.setCell (p:=⟨P.Bs k,15,none⟩) d.1 (J6 v.k)).setCell (p:=⟨P.Bs k,16,none⟩) d.1 (J6 v.n)).setCell (p:=⟨P.Bs k,17,none⟩) d.1 (.string v.s)) (fun r i=>((heap_setCell_other _ ⟨P.Bs k,17,none⟩ r _ i).trans (heap_setCell_other _ ⟨P.Bs k,16,none⟩ r _ i)).trans (heap_setCell_other _ ⟨P.Bs k,15,none⟩ r _ i)) (by rw[h]at B⊢;exact B);exact o.congr (fun t _=>by by_cases r:t=k <;> simp[r]) (fun _ _=>rfl)
   have B:=((y.set c 15 (J6 v.k)).set c 16 (J6 v.n)).set c 17 (.string v.s);refine⟨e,?_,?_,fun i=>by rw[E i];exact C⟩
   . rcases a with a | a
     . rw[a];exact y
     . rw[a];exact B
   . rcases a with a | a
     . rw[a];exact⟨_,b⟩
     . rw[a];exact⟨_,C⟩
 . have h:kbb (fAt P.m k)=false:=Yd l
   rw[Yd l,Ot,<- khD];rw[h];refine(qsg _ v f).mono fun w j e=>?_;have b:=q.mono e.2;refine⟨e.1,Tch.below e.2,⟨_,b⟩,fun _=>?_⟩;have d:=(b.bx k c).2;have o:=b.turn c (g k) v b.base (fun _ _=>rfl) (by rw[h]at d⊢;exact d);exact o.congr (fun t _=>by by_cases r:t=k <;> simp[r]) (fun _ _=>rfl)
theorem qhn (i:Bool)(a b:Value)(w:Tw):(callFunc (kgz i) #[a,b]).run prog w=.ok (.enter (kgz i) #[a,b]) w:=by cases i <;> kernel_rfl
theorem ShI.pos {P:ShP}{b:Nat->Cx}{e:Nat->Vx}{w:Tw}(c:ShI P b e w):∀a,a<P.m.F.length->P.Bs a<w.heap.size:=fun a d=>(c.bx a d).2.lt
theorem q31 (P:ShP)(l:Nat->Cx)(A:Nat->Vx)(a:To)(L c:Nat)(g:Nat->Vx)(w:Tw)(aj:P.m.F.length<=200)(h:∀b,b<L->(g b).s.size<=9223372036854775807)(d:kaF P.WD a L g)(e:ShI P l A w) :
 Calls prog 36 #[J9 P.Sh 0,.slice a L c] w fun W j=>W=.returned (.bool (kbp P.m L g))/\(∃o,ShI P l o j)/\(kbp P.m L g=true->ShI P l g j):=by
 obtain⟨ua,t,k⟩:=e.slice;obtain⟨p,HV,HS⟩:=oC e d h;have v:w.cell? ⟨P.Sh,12,none⟩=some (.slice ua P.m.F.length t):=by rw[<- k];exact e.blk.cell 12
 have HU:=h_ k;clear e d h k;by_cases d:L=P.m.F.length
 case neg =>
  have q:((L:Int) != (P.m.F.length:Int))=true:=by simp;omega
  have h:Hi (kbp P.m L g=false):=h_ (by rw[kbp,Yd d,Bool.false_and]);rw[h.u];clear h;go_enter func36,ntmps36;go_wp2_with fail;go_ret;exact⟨rfl,⟨_,p⟩,by first | trivial | (intro h;cases h)⟩
 case pos =>
 have O:=h_ d;have q:((L:Int) != (P.m.F.length:Int))=false:=by simp[d]
 have ag:L<=200:=by omega
 have Q:Hi (∀b,b<L->keM (fAt P.m b) (g b)=false->kbp P.m L g=false):=h_ fun b z h=>qjt z h;have T:Hi ((∀b,b<L->keM (fAt P.m b) (g b)=true)->kbp P.m L g=true):=h_ fun h=>by
  rw[kbp,Ye d,Y9,Yv];exact fun b z=>h b (Yu.1 z)
 obtain⟨Z,r⟩:=Nq (kbp P.m L g);rw[r]at Q T⊢;clear d r;go_enter func36,ntmps36;go_wp2_with fail;clear v q;go_loopw [5,6,17] (fun _ _ q wr=>∃b:Nat,b<=L/\q=J6 b/\(∀d,d<b->keM (fAt P.m d) (g d)=true)/\ShI P l (fun d=>if d<b then g d else A d) wr) (fun _ _ q _=>L - (intOf q).toNat)
 case atStart=>exact⟨0,nZ _,rfl,fun d h=>absurd h (nL _),p.congr (fun _ _=>rfl) fun d _=>by simp⟩
 case round =>
 clear p;obtain⟨b,z,rfl,p,e⟩:=hrel;obtain⟨N,v⟩:=oB p e;clear p e;by_cases K:b<L
 case pos =>
  have ad:(b:Int)<L:=by omega
  have J:b<P.m.F.length:=by have:=O.u;omega
  have ai:(b:Int)<P.m.F.length:=by omega
  have ah:(0:Int)<=b:=by omega
  obtain⟨ae,ak,rfl,-,U,c1,c2⟩:=HV.mono v.base b K;have Y:=HS b K;obtain⟨e,M⟩:=Nq (g b);rw[M]at U c1 c2 Y;have C:=h_ M;have G:=Blk.new wr 55 (Jc e.k e.n e.s);have I:=(bR wr.heap.size wr).alloc (nR _) (.cells (Jc e.k e.n e.s) 55);obtain⟨H,y⟩:=Nq (wr.alloc (.cells (Jc e.k e.n e.s) 55));rw[y]at G I;have E:=v.mono I;obtain⟨D,x⟩:=oB E G;have ac:Hi (∀d,d<P.m.F.length->wr.heap.size≠P.Bs d):=h_ fun d q h=>by have:=v.pos d q;omega
  obtain⟨r,cq,k,X,-⟩:=E.at J;obtain⟨rfl,rfl⟩:ua=some ⟨r,0,none⟩/\t=cq:=by have:=HU.symm.trans k;simpa using this
  have B:Hi (∀V o p,ShI P V o p->p.cell? ⟨P.Sh,12,none⟩=some (.slice (some ⟨r,0,none⟩) P.m.F.length t)/\p.cell? ⟨r,b,none⟩=some (ifV (kbb (fAt P.m b)) (P.Bs b))):=h_ fun V o p h=>by
   obtain⟨q',af,p,V,-⟩:=h.at J;rw[k]at p;cases p;exact⟨by rw[<- k];exact h.blk.cell 12,V⟩
  clear M G I E X k;go_wp2_with fail
  try rw[y]
  clear y U c1 c2;have X:=B _ _ _ D;refine wp_region_held_drew (S:=fun j=>(j.cell? ⟨P.Sh,12,none⟩=some (.slice (some ⟨r,0,none⟩) P.m.F.length t)/\j.cell? ⟨r,b,none⟩=some (ifV (kbb (fAt P.m b)) (P.Bs b)))/\j.cell? ⟨wr.heap.size,0,none⟩=some (J6 e.k)/\j.cell? ⟨wr.heap.size,1,none⟩=some (J6 e.n)/\j.cell? ⟨wr.heap.size,2,none⟩=some (.string e.s)) (by kernel_rfl) ⟨X,kag x⟩ (fun k=>?_);refine tkA 0 k ?_;refine tkA 1 k ?_;refine tkA 2 k ?_;refine tkA 3 k ?_;refine tkA 4 k ?_;refine tkA 5 k ?_;refine tkA 6 k ?_;refine tkA 7 k ?_;have U:=D.mono (bR _ _).drew;refine kaL (i:=8) (f:=kgz (kbb (fAt P.m b))) (args:=#[.pointer (some ⟨P.Bs b,0,none⟩),.agg (Jc e.k e.n e.s)]) (R:=fun aa j=>aa=.bool (keM (fAt P.m b) e)/\Tch P H.drew j/\(∃o,ShI P l o j)/\(keM (fAt P.m b) e=true->ShI P l (upV (fun d=>if d<b then g d else A d) b e) j)) 30 rfl rfl (by rfl) (by kernel_rfl) (by simp[execOp,go_sem,ifV,kgA,qhn]) ((qmf P l _ b e H.drew Y J U).mono fun W j ⟨p,y⟩=>⟨_,p,rfl,y⟩) ?_;rintro aa p ⟨rfl,M,⟨o,I⟩,V⟩;have W:=(M.block wr.heap.size x.lt ac).trans (show H.drew.heap[wr.heap.size]? = _ from x);have k:(p.cell? ⟨P.Sh,12,none⟩=some (.slice (some ⟨r,0,none⟩) P.m.F.length t)/\p.cell? ⟨r,b,none⟩=some (ifV (kbb (fAt P.m b)) (P.Bs b)))/\p.cell? ⟨wr.heap.size,0,none⟩=some (J6 e.k)/\p.cell? ⟨wr.heap.size,1,none⟩=some (J6 e.n)/\p.cell? ⟨wr.heap.size,2,none⟩=some (.string e.s):=⟨B _ _ _ I,kag W⟩;refine⟨k,?_⟩;refine kaS (by(first | simp only[Ya,Yb] | skip);rfl) (by(first | simp only[Ya,Yb] | skip);rfl) ?_;refine tkA 9 k ?_;refine wdQ ?_;have E:Hi (∃o,ShI P l o p):=h_ ⟨o,I⟩;have G:=h_ V;clear k M I V W U X D x B;obtain⟨B,k⟩:=Nq (keM (fAt P.m b) e);rw[k]at G⊢;have x:=h_ k;clear k;cases B
  . obtain rfl:Z=false:=Q b K (by rw[C.u];exact x)
    go_wp2_with fail;go_ret
    first | exact⟨rfl,E⟩ | exact⟨rfl,E,fun h=>by cases h⟩
  . have k:Hi (ShI P l (fun d=>if d<b+1 then g d else A d) p):=h_ ((G rfl).congr (fun _ _=>rfl) fun d _=>by
     unfold upV;by_cases q:d=b
     . subst q;rw[Yr rfl,Yr (Zu _)];exact C.symm
     . rw[Yl q]
       dsimp only;by_cases y:d<b
       . rw[Yr y,Yr (by omega)]
       . rw[Yl y,Yl (by omega)])
    have h:Hi (∀d,d<b+1->keM (fAt P.m d) (g d)=true):=h_ fun d q=>by
     by_cases y:d=b
     . subst y;rw[C.u];exact x
     . exact N d (by omega)
    clear G E;go_wp2_with fail;go_roundw
    case rel=>first | exact⟨b+1,by omega,by go_num,h,k⟩ | ((repeat apply Exists.intro);exact⟨⟨b+1,by omega,by go_num,h,k⟩,rfl⟩)
    case measure=>simp[intOf];omega
 case neg =>
  obtain rfl:L=b:=by omega
  have ad:¬ ((L:Nat):Int)<((L:Nat):Int):=by omega
  obtain rfl:Z=true:=T N;have e:Hi (ShI P l g wr):=h_ (v.congr (fun _ _=>rfl) fun d q=>by rw[Yr (by rw[O.u];exact q)]);go_wp2_with fail;go_ret;exact⟨rfl,⟨_,e⟩,by first | exact e | exact fun _=>e⟩
