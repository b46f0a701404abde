import Derived.Test.YtgojgjlninakjaaGreatDoorW44
import Derived.Test.YtgojgjlninakjaaGreatDoorW42
import Derived.Shelf.Vars
import Derived.OpenVars
import Derived.ChangeVars
set_option maxRecDepth 100000
set_option maxHeartbeats 64000000
namespace Go.Proofs.YtgojgjlninakjaaGreatDoor
open Go Go.RowKit Go.ChangeShapes Go.WideShapes Go.ChangeAt
section
variable {H:Type} {enc:TypeId × Value->H} {P:Program} {w:World} {base:Nat} {held:Bool}
theorem qgh {X:Type}{Q:List Value->X->Prop}(z:X){t e:TypeId}{n c:Nat}{v:Value}{y:DataW H × List MemPlace}(ht:P.underlying t=some (.slice e))(hc:P.cellsOf e=c)(h1c:1<=c)(h:DataW.trod enc P w base (fun _=>true) held n t [v]=some y)(hlt:∀x∈y.2,x.block<w.heap.size)
 (each:∀(cs:List Value) (k:Nat) (q:DataW H × List MemPlace),cs.length=c->DataW.trod enc P w base (fun _=>true) held k e cs=some q->(∀x∈q.2,x.block<w.heap.size)->∃u,Q cs u) :
 ∃(a:Option Addr) (l:List X) (cap:Nat),v=.slice a l.length cap/\l.length<=9223372036854775807/\l.length<=cap/\∀i (hi:i<l.length),∃b o cs,a=some ⟨b,o,none⟩/\b<w.heap.size/\cs.length=c/\(∀j,j<c->w.cell? ⟨b,o+i*c+j,none⟩=cs[j]?)/\Q cs l[i]:=by
 rcases Deep.open_slice ht h with ⟨h0,-⟩ | ⟨a,len,cap,m,k,D,Pl,h0,-,hl,hm,hmm,rfl,hx⟩
 . exact⟨none,[],0,by simpa using h0,nZ _,nR _,fun i hi=>absurd hi (nL _)⟩
 . simp only[if_true]at hmm
   subst hmm;have ea:∀i,i<m->∃p:List Value × X,p.1.length=c/\(∀j,j<c->w.cell? (a.add (i*c+j))=p.1[j]?)/\Q p.1 p.2:=by
    intro i hi;obtain⟨cs',g1,g2⟩:=hx i hi;rw[hc]at g1;obtain⟨_,hlen,hcell⟩:=World.cells?_some g1;obtain⟨u,hu⟩:=each cs' k (D i,Pl i) hlen g2 (fun x hx'=>hlt x (List.mem_append_right _ (List.mem_flatMap.2 ⟨i,Y9.2 hi,hx'⟩)));refine⟨(cs',u),hlen,fun j hj=>?_,hu⟩;have:=hcell j hj;rw[Deep.add_add]at this;exact this
   obtain⟨U,hU⟩:∃U:Nat->List Value × X,∀i,i<m->(U i).1.length=c/\(∀j,j<c->w.cell? (a.add (i*c+j))=(U i).1[j]?)/\Q (U i).1 (U i).2:=by
    classical
    exact⟨fun i=>if h:i<m then (ea i h).choose else ([],z),fun i hi=>by simp only[dif_pos hi];exact(ea i hi).choose_spec⟩
   have hlen:((List.range len).map fun i=>(U i).2).length=len:=by simp
   refine⟨some a,(List.range len).map fun i=>(U i).2,m,by rw[hlen];simpa using h0,by rw[hlen];have:maxLen=9223372036854775807:=rfl;omega,by rw[hlen];exact hl,fun i hi=>?_⟩;rw[hlen]at hi;obtain⟨x0,x1,x2⟩:=hU i (by omega);obtain⟨b,off,spot⟩:=a;have hs:spot=none:=by
    obtain⟨g0,g1,-⟩:=hU 0 (by omega);have g2:=g1 0 (by omega);rw[Yc (by omega)]at g2;simpa [Addr.add] using World.cell?_spot g2
   subst hs;refine⟨b,off,(U i).1,rfl,hlt (.cell b (off+i*c)) ?_,x0,fun j hj=>?_,?_⟩
   . rw[hc]
     refine Vf _ (MemPlace.mem_row.2 ⟨i*c,?_,by simp⟩);have:i*c+c<=m*c:=(by rw[<- Zx];exact Vd c (by omega));omega
   . have:=x1 j hj
     rw[qbb,<- Nat.add_assoc]at this;exact this
   . simpa using x2
theorem qgi {t e:TypeId}{n:Nat}{v:Value}{y:DataW H × List MemPlace}(ht:P.underlying t=some (.slice e))(he:P.underlying e=some .string)(hc:P.cellsOf e=1)(h:DataW.trod enc P w base (fun _=>true) held n t [v]=some y)(hlt:∀x∈y.2,x.block<w.heap.size) :
 ∃a l cap,v=.slice a l.length cap/\l.length<=9223372036854775807/\Strs w a l/\∀x,x∈l->x.size<=9223372036854775807:=by
 obtain⟨a,l,cap,h1,h2,-,h3⟩:=qgh (Q:=fun cs x=>cs=[.string x]/\x.size<=9223372036854775807) (⟨#[]⟩:ByteArray) ht hc (nR _) h hlt (fun cs k q hl hq _=>by
  match cs,hl with
  | [v0],_=>obtain⟨s,rfl,hs⟩:=ql5 he hq;exact⟨s,rfl,hs⟩)
 refine⟨a,l,cap,h1,h2,fun k hk=>?_,fun x hx=>?_⟩
 . obtain⟨b,o,cs,rfl,hb,-,hcell,rfl,-⟩:=h3 k hk
   have:=hcell 0 (by omega);exact⟨b,o,rfl,hb,by simpa using this⟩
 . obtain⟨k,hk,rfl⟩:=Yw.1 hx
   obtain⟨b,o,cs,-,-,-,-,-,hs⟩:=h3 k hk;exact hs
theorem qgf {t e:TypeId}{n:Nat}{v:Value}{y:DataW H × List MemPlace}(ht:P.underlying t=some (.slice e))(he:P.underlying e=some (.int .i64))(hc:P.cellsOf e=1)(h:DataW.trod enc P w base (fun _=>true) held n t [v]=some y)(hlt:∀x∈y.2,x.block<w.heap.size) :
 ∃a l cap,v=.slice a l.length cap/\l.length<=9223372036854775807/\IntL w a l:=by
 obtain⟨a,l,cap,h1,h2,-,h3⟩:=qgh (Q:=fun cs x=>cs=[J6 x]) (0:Int) ht hc (nR _) h hlt (fun cs k q hl hq _=>by
  match cs,hl with
  | [v0],_=>obtain⟨s,rfl,-,-⟩:=ql2 he hq;exact⟨s,rfl⟩)
 refine⟨a,l,cap,h1,h2,fun k hk=>?_⟩
 obtain⟨b,o,cs,rfl,hb,-,hcell,rfl⟩:=h3 k hk
 have:=hcell 0 (by omega)
 refine⟨b,o,rfl,hb,?_⟩
 dsimp only
 rw[Yo,Yc hk]
 simpa using this
theorem ql3 {t e:TypeId}{f0 f1:Field}{n:Nat}{v:Value}{y:DataW H × List MemPlace}(ht:P.underlying t=some (.slice e))(he:P.underlying e=some (.struct #[f0,f1]))(hc:P.cellsOf e=2)(o0:f0.offset=0)(o1:f1.offset=1)(i0:P.underlying f0.type=some (.int .i64))(i1:P.underlying f1.type=some (.int .i64))(c0:P.cellsOf f0.type=1)(c1:P.cellsOf f1.type=1)
 (h:DataW.trod enc P w base (fun _=>true) held n t [v]=some y) (hlt:∀x∈y.2,x.block<w.heap.size):∃a l cap,v=.slice a l.length cap/\l.length<=9223372036854775807/\Prs w a l:=by
 obtain⟨a,l,cap,h1,h2,-,h3⟩:=qgh (Q:=fun cs (x:Int × Int)=>cs=[J6 x.1,J6 x.2]) (0,0) ht hc (by omega) h hlt (fun cs k q hl hq _=>by
  obtain⟨y0,y1,n',rfl,-,g0,g1⟩:=trod_struct2 he hq
  match cs,hl with
  | [v0,v1],_ =>
   rw[o0,c0]at g0;rw[o1,c1]at g1;obtain⟨s0,rfl,-,-⟩:=ql2 i0 (by simpa using g0);obtain⟨s1,rfl,-,-⟩:=ql2 i1 (by simpa using g1);exact⟨(s0,s1),rfl⟩)
 refine⟨a,l,cap,h1,h2,fun k hk=>?_⟩
 obtain⟨b,o,cs,rfl,hb,-,hcell,rfl⟩:=h3 k hk
 have q0:=hcell 0 (by omega)
 have q1:=hcell 1 (by omega)
 exact⟨b,o,rfl,hb,q0,q1⟩
theorem ql4 {t e:TypeId}{f0 f1:Field}{n:Nat}{v:Value}{y:DataW H × List MemPlace}(ht:P.underlying t=some (.slice e))(he:P.underlying e=some (.struct #[f0,f1]))(hc:P.cellsOf e=2)(o0:f0.offset=0)(o1:f1.offset=1)(i0:P.underlying f0.type=some .string)(i1:P.underlying f1.type=some (.int .i64))(c0:P.cellsOf f0.type=1)(c1:P.cellsOf f1.type=1)
 (h:DataW.trod enc P w base (fun _=>true) held n t [v]=some y) (hlt:∀x∈y.2,x.block<w.heap.size):∃a l cap,v=.slice a l.length cap/\l.length<=9223372036854775807/\Rls w a l/\∀x,x∈l->x.nm.size<=9223372036854775807:=by
 obtain⟨a,l,cap,h1,h2,-,h3⟩:=qgh (Q:=fun cs (x:Rl)=>cs=[.string x.nm,J6 x.lb]/\x.nm.size<=9223372036854775807) noRl ht hc (by omega) h hlt (fun cs k q hl hq _=>by
  obtain⟨y0,y1,n',rfl,-,g0,g1⟩:=trod_struct2 he hq
  match cs,hl with
  | [v0,v1],_ =>
   rw[o0,c0]at g0;rw[o1,c1]at g1;obtain⟨s0,rfl,hs⟩:=ql5 i0 (by simpa using g0);obtain⟨s1,rfl,-,-⟩:=ql2 i1 (by simpa using g1);exact⟨⟨s0,s1⟩,rfl,hs⟩)
 refine⟨a,l,cap,h1,h2,fun k hk=>?_,fun x hx=>?_⟩
 . obtain⟨b,o,cs,rfl,hb,-,hcell,rfl,-⟩:=h3 k hk
   have q0:=hcell 0 (by omega);have q1:=hcell 1 (by omega);exact⟨b,o,rfl,hb,q0,q1⟩
 . obtain⟨k,hk,rfl⟩:=Yw.1 hx
   obtain⟨b,o,cs,-,-,-,-,-,hs⟩:=h3 k hk;exact hs
theorem qmp {a:Option Addr}{m:Nat}{f:Nat->Nx}(h:Nods w a m f):∃l:List Nx,l.length=m/\NodL w a l/\∀k,k<m->nf l k=f k:=by
 have hl:((List.range m).map f).length=m:=by simp
 have hn:∀k,k<m->nf ((List.range m).map f) k=f k:=fun k hk=>by rw[nf_get _ k (by rw[hl];exact hk)];simp
 refine⟨(List.range m).map f,hl,?_,hn⟩
 unfold NodL
 rw[hl]
 intro k hk
 obtain⟨b,o,e,hc⟩:=h k hk
 exact⟨b,o,e,by rw[hn k hk];exact hc⟩
end
theorem cellsForm:Tryz.prog.cellsOf 27=4:=by kernel_rfl
theorem cellsField:Tryz.prog.cellsOf 80=9:=by kernel_rfl
theorem cellsPairL:Tryz.prog.cellsOf 97=2:=by kernel_rfl
theorem cellsRoleL:Tryz.prog.cellsOf 75=2:=by kernel_rfl
def noFA:FA:=⟨none,0,none,0,none,0,none,0,none,0⟩
def noFl:Fl:=⟨⟨#[]⟩,0,0,[],[],[],[],⟨#[]⟩,[]⟩
section
variable {H:Type} {enc:TypeId × Value->H} {w:World} {base:Nat} {held:Bool}
theorem qgg {n:Nat}{v:Value}{y:DataW H × List MemPlace}(h:DataW.trod enc Tryz.prog w base (fun _=>true) held n 78 [v]=some y)(hlt:∀x∈y.2,x.block<w.heap.size) :
 ∃a l cap,v=.slice a l.length cap/\l.length<=9223372036854775807/\NodL w a l/\∀k,k<l.length->Fit (nf l k):=by
 obtain⟨a,m,c,f,e4,l4,k4,s4⟩:=qcr Tryz.underlying78 Tryz.underlying176 cellsNode rfl rfl rfl Tryz.underlying174 cellsVal rfl rfl rfl Tryz.underlying3 Tryz.underlying9 cellsInt0 cellsStr Tryz.underlying3 Tryz.underlying2 Tryz.underlying9 cellsInt0 cellsI640 cellsStr h hlt
 obtain⟨l,hl,hN,hf⟩:=qmp k4
 exact⟨a,l,c,by rw[hl];exact e4,by rw[hl];exact l4,hN,fun k hk=>by rw[hl]at hk;rw[hf k hk];exact s4 k hk⟩
theorem qge {n:Nat}{v:Value}{y:DataW H × List MemPlace}(h:DataW.trod enc Tryz.prog w base (fun _=>true) held n 25 [v]=some y)(hlt:∀x∈y.2,x.block<w.heap.size) :
 ∃a l AF cap,v=.slice a l.length cap/\l.length<=9223372036854775807/\Flds w a l AF/\∀x,x∈l->FitF x:=by
 obtain⟨a,l,cap,h1,h2,-,h3⟩:=qgh (Q:=fun cs (u:Fl × FA)=>cs=fCs u.1 u.2/\FSl w u.1 u.2/\FitF u.1) (noFl,noFA) Tryz.underlying25 cellsField (by omega) h hlt (fun cs k q hl hq hp=>by
  obtain⟨xs,k',hk,rfl,_,hxl,hf⟩:=DataW.trod_struct Tryz.underlying80 hq
  match xs,hxl,cs,hl with
  | [y0,y1,y2,y3,y4,y5,y6,y7,y8],_,[v0,v1,v2,v3,v4,v5,v6,v7,v8],_ =>
   have g0:=hf 0 _ rfl;have g1:=hf 1 _ rfl;have g2:=hf 2 _ rfl;have g3:=hf 3 _ rfl;have g4:=hf 4 _ rfl;have g5:=hf 5 _ rfl;have g6:=hf 6 _ rfl;have g7:=hf 7 _ rfl;have g8:=hf 8 _ rfl;have cI:Tryz.prog.cellsOf 77=1:=by kernel_rfl
   have cN:Tryz.prog.cellsOf 78=1:=by kernel_rfl
   simp[cellsStr,cellsInt0,cI,cN]at g0 g1 g2 g3 g4 g5 g6 g7 g8;obtain⟨nm,rfl,hnm⟩:=ql5 Tryz.underlying9 g0;obtain⟨ty,rfl,-,-⟩:=ql2 Tryz.underlying3 g1;obtain⟨lb,rfl,-,-⟩:=ql2 Tryz.underlying3 g2;obtain⟨ab,bys,abc,rfl,lb3,kb3⟩:=qgf Tryz.underlying77 Tryz.underlying3 cellsInt0 g3 (fun x hx=>hp x (by simp[hx]));obtain⟨ai,is',aic,rfl,li,ki,fi⟩:=qgg g4 (fun x hx=>hp x (by simp[hx]));obtain⟨ah,wh,ahc,rfl,lh,kh,fh⟩:=qgg g5 (fun x hx=>hp x (by simp[hx]));obtain⟨av,va,avc,rfl,lv,kv,fv⟩:=qgg g6 (fun x hx=>hp x (by simp[hx]));obtain⟨sy,rfl,hsy⟩:=ql5 Tryz.underlying9 g7;obtain⟨au,mu,auc,rfl,lu,ku,fu⟩:=qgg g8 (fun x hx=>hp x (by simp[hx]));exact⟨(⟨nm,ty,lb,bys,is',wh,va,sy,mu⟩,⟨ab,abc,ai,aic,ah,ahc,av,avc,au,auc⟩),rfl,⟨kb3,ki,kh,kv,ku⟩,⟨hnm,hsy,lb3,li,lh,lv,lu,fi,fh,fv,fu⟩⟩)
 have hml:(l.map (·.1)).length=l.length:=by simp
 refine⟨a,l.map (·.1),fun k=>(l.getD k (noFl,noFA)).2,cap,by rw[hml];exact h1,by rw[hml];exact h2,fun k hk=>?_,fun x hx=>?_⟩
 . rw[hml]at hk
   obtain⟨b,o,cs,rfl,hb,-,hcell,rfl,hs,-⟩:=h3 k hk;have e2:(l.getD k (noFl,noFA)).2=l[k].2:=by rw[Yo,Yc hk];rfl
   have e1:(l.map (·.1))[k]'(by rw[hml];exact hk)=l[k].1:=by simp
   rw[e1];dsimp only;rw[e2];exact⟨b,o,rfl,⟨hb,hcell 0 (by omega),hcell 1 (by omega),hcell 2 (by omega),hcell 3 (by omega),hcell 4 (by omega),hcell 5 (by omega),hcell 6 (by omega),hcell 7 (by omega),hcell 8 (by omega)⟩,hs⟩
 . obtain⟨u,hu,rfl⟩:=Y3.1 hx
   obtain⟨k,hk,rfl⟩:=Yw.1 hu;obtain⟨b,o,cs,-,-,-,-,-,-,hs⟩:=h3 k hk;exact hs
end
def tyT:List ByteArray:=[⟨#[]⟩,⟨#[105,110,116]⟩,⟨#[98,111,111,108]⟩,⟨#[116,101,120,116]⟩]
theorem gTy:Tryz.prog.globalNamed "loop.example/s0011/impl.typeWords" = some 2:=by kernel_rfl
theorem gTyType:(Tryz.prog.globals[2]?).map (·.type)=some 292:=by kernel_rfl
theorem cellsTy:Tryz.prog.cellsOf 292=4:=by kernel_rfl
theorem ty_eq:(Rows.laid_loop_example_s0011_impl_typeWords:DataW Unit)=.agg ((tyT.map (·.data.toList)).map fun z=>.lit (.string z)):=by rfl
theorem qb1 {W:World}{rest:List (String × DataW Unit)}(h:laidMet Tryz.prog (("loop.example/s0011/impl.typeWords",Rows.laid_loop_example_s0011_impl_typeWords) :: rest) W):TyW W:=by
 rw[ty_eq]at h
 obtain⟨ps,⟨g',t',cs,fuel,p,q,hg',ht',hvar,hd,_,_⟩,_⟩:=h
 obtain rfl:=Od (gTy.symm.trans hg')
 obtain rfl:=Od (gTyType.symm.trans ht')
 have hc:=q2c Tryz.underlying292 Tryz.underlying9 cellsStr cellsTy hd
 have hcell:∀k,k<4->W.cell? ⟨2,k,none⟩=some (.string (tyT.getD k ⟨#[]⟩)):=fun k hk=>by
  have:=World.var?_cell gTy hvar k;rw[this];have e:cs[k]? = cs.toList[k]?:=by simp
  rw[e,hc];have hl:tyT.length=4:=rfl;simp only[List.map_map,Zg];rw[Yc (by omega)];simp[List.getD,List.getElem?_eq_getElem (show k<tyT.length by omega)]
 refine⟨?_,fun k h1 h3=>?_⟩
 . apply V9
   intro h0;have hz:=hcell 0 (by omega);have e:W.heap[(2:Nat)]? = none:=Ob h0;simp[World.cell?,e]at hz
 . rw[hcell k (by omega)]
   obtain rfl | rfl | rfl:k=1∨k=2∨k=3:=by omega
   . rfl
   . rfl
   . rfl
theorem gTabL:Tryz.prog.globalNamed "math/bits.deBruijn32tab" = some 5:=by kernel_rfl
theorem gTabTypeL:(Tryz.prog.globals[5]?).map (·.type)=some 310:=by kernel_rfl
theorem cellsTabL:Tryz.prog.cellsOf 310=32:=by kernel_rfl
theorem cellsU8L:Tryz.prog.cellsOf 5=1:=by kernel_rfl
theorem qj4 {W:World}{rest:List (String × DataW Unit)}(h:laidMet Tryz.prog (("math/bits.deBruijn32tab",Rows.laid_math_bits_deBruijn32tab) :: rest) W):Tab W:=by
 have T:Lib.TabIs Tryz.prog W "math/bits.deBruijn32tab" .u8 (Lib.deBruijn32tab.map (fun n=>((n:Nat):Int))) :=
  Lib.tabIs_of_head (rest:=rest) gTabL gTabTypeL Tryz.underlying310 Tryz.underlying5 cellsU8L cellsTabL h
 have e:∀j,j<32->(Lib.deBruijn32tab.map (fun n=>((n:Nat):Int))).getD j 0=((Lib.deBruijn32tab.getD j 0:Nat):Int):=by decide +kernel
 intro j hj
 rw[<- e j hj]
 exact T.cell gTabL j (by simpa [Lib.deBruijn32tab] using hj)
section
variable {H:Type} {enc:TypeId × Value->H} {P:Program} {w:World} {base:Nat} {spare:Nat->Bool} {held:Bool}
end
end Go.Proofs.YtgojgjlninakjaaGreatDoor
namespace Go.Proofs.YtgojgjlninakjaaGreatDoor
open Go Go.RowKit
theorem q6k (m:Fm)(A:MA)(l:List Ex)(e:Nat->Ex)(a:Option Addr)(c:Nat)(w:World)(hv:VfA m)(hl:l.length<=4000)(he:∀k (h:k<l.length),e k=l[k])(hx:∀x,x∈l->entB m x=true/\FitE x)(ha:MSl w m A)(hc:Ents w a l.length e) :
 Calls Tryz.prog 20 #[mV m A,.slice a l.length c] w fun y w'=>y=.returned (.string ⟨(lnL m l).toArray⟩)/\Below w.heap.size w w':=by
 have HCl:=h_ fun x (i:Nat) W (h1:entB m x=true) (h2:FitE x) (hi:i<=4000) (h:MSl W m A)=>q9f m A x i W hv h1 h2 hi h
 have HLn:Hi (∀k,k<=l.length->(lnL m (l.take k)).length<=4800000):=h_ fun k hk=>by
  have h:=qm1 hv (l:=l.take k) (by rw[Za];omega) (fun x hx'=>hx x (Ve hx'));rw[Za]at h;omega
 obtain⟨al,alc,ap,apc,ar,arc,af,afc,afa⟩:=A
 unfold mV at HCl⊢
 unfold ev at HCl
 dsimp only at HCl⊢
 have HK:=h_ (Blk.new w 36 (Jb al m alc ap apc ar arc af afc))
 have HB:=h_ ((bR w.heap.size w).alloc (nR _) (.cells (Jb al m alc ap apc ar arc af afc) 36))
 obtain⟨W0,hW0⟩:=Nq (w.alloc (.cells (Jb al m alc ap apc ar arc af afc) 36))
 rw[hW0]at HK HB
 have HS:=h_ (ha.mono HB.u);have HE:=h_ (hc.mono HB.u);have HEe:=h_ he;have HX:=h_ hx
 clear ha hc he hx
 go_enter Tryz.func20,Tryz.ntmps20
 go_wp2_with fail
 try rw[hW0]
 clear hW0
 go_loopw [5,6] (fun s i wr=>∃(k:Nat) (T:ByteArray),k<=l.length/\i=J6 k/\s=.string T/\sb T=lnL m (l.take k)/\Below W0.heap.size W0 wr) (fun _ i _=>l.length - (intOf i).toNat)
 case atStart=>exact⟨0,⟨#[]⟩,nZ _,rfl,rfl,rfl,bR _ _⟩
 case round =>
  obtain⟨k,T,hk,rfl,rfl,hT,hb⟩:=hrel;have hTs:T.size<=4800000:=by rw[<- sb_len,hT];exact HLn.u k hk
  have HT:=h_ hT;have HB0:=h_ hb;have HKr:=mB HK hb;have HSr:=h_ (HS.u.mono hb);by_cases hlt:k<l.length
  . have hlt':(k:Int)<l.length:=by omega
    obtain⟨b,o,ea,hce⟩:=(HE.u.mono hb) k hlt;subst ea;have hxm:=HX.u l[k] (Ye hlt);rw[HEe.u k hlt]at hce;have HT2:Hi (lnL m (l.take (k+1))=lnL m (l.take k)++lnB m l[k] (k+1)):=h_ (by
     rw[Ym hlt,qh2,Za,Nat.min_eq_left (by omega)])
    obtain⟨x,hxe⟩:=Nq (l[k]);rw[hxe]at hce hxm HT2;have HC:=h_ (HCl.u x (k+1) wr.drew hxm.1 hxm.2 (by omega) (HSr.u.mono (bR _ _).drew));have HN2:=h_ (HLn.u (k+1) hlt);obtain⟨ln,hln⟩:∃ln:ByteArray,⟨(lnB m x (k+1)).toArray⟩=ln:=⟨_,rfl⟩;rw[hln]at HC;have hls:T.size+ln.size<=4800000:=by
     have:=HN2.u;rw[HT2.u,Yd]at this;have e1:ln.size=(lnB m x (k+1)).length:=(by rw[<- hln];simp[bsz]);rw[<- sb_len T,HT.u,e1];exact this
    have HT3:Hi (sb (T++ln)=lnL m (l.take (k+1))):=h_ (by rw[qeb,HT.u,<- hln,sb_mk (lnB m x (k+1)),HT2.u]);have HCe:=h_ hce;clear hb hT hxe hxm hln hce;obtain⟨r,f,v⟩:=x;dsimp only at HC HCe;have ecast:((k+1:Nat):Int)=(k:Int)+1:=(by omega);rw[ecast]at HC;go_wp2_with fail;refine wp_region_held_drew (S:=fun w'=>Blk w' w.heap.size 36 [.slice al m.L.length alc,.slice ap m.P.length apc,.slice ar m.R.length arc,.slice af m.F.length afc]/\EEnt w' b (o+k*5) ⟨r,f,v⟩) (by kernel_rfl) ⟨HKr.u,HCe.u⟩ (fun zz=>?_);refine tj 0 13 (.string T) zz ?_;refine tj 1 14 (.agg (Jb al m alc ap apc ar arc af afc)) zz ?_ (hy:=fun w hS=>by obtain⟨q0,q1,q2,q3⟩:=quad hS.1;simp[execOp,go_sem,q0,q1,q2,q3]);refine tj 2 15 (.slice (some ⟨b,o,none⟩) l.length c) zz ?_;refine tj 3 16 (J6 k) zz ?_;simp only[sX,sY,sZ];refine tj 4 17 (.pointer (some ⟨b,o+k*5,none⟩)) zz ?_;refine tj 5 18 (.agg (Jh r f v.k v.n v.s)) zz ?_ (hy:=fun w hS=>by obtain⟨-,q0,q1,q2,q3,q4⟩:=hS.2;simp[execOp,go_sem,q0,q1,q2,q3,q4]);refine tj 6 19 (J6 k) zz ?_;refine tj 7 20 (J6 ((k:Int)+1)) zz ?_ (hy:=fun w hS=>by simp[execOp,go_sem];rw[IntKind.wrap_i64];omega);simp only[sX,sY,sZ];refine callY (i:=8) (f:=44) (args:=#[.agg (Jb al m alc ap apc ar arc af afc),.agg (Jh r f v.k v.n v.s),J6 ((k:Int)+1)]) (R:=fun u wz=>u=.string ln/\Below wr.heap.size wr wz) 21 rfl rfl (by rfl) (by kernel_rfl) (by simp[execOp,go_sem]) (HC.u.mono fun e w6 ⟨he,hb⟩=>⟨_,he,rfl,q29 hb⟩) ?_;rintro u W1 ⟨rfl,hb⟩;replace zz:Blk W1 w.heap.size 36 [.slice al m.L.length alc,.slice ap m.P.length apc,.slice ar m.R.length arc,.slice af m.F.length afc]/\EEnt W1 b (o+k*5) ⟨r,f,v⟩:=⟨HKr.u.mono hb HKr.u.lt,HCe.u.mono hb⟩;have HB1:=mT HB0 hb;clear hb;refine⟨zz,?_⟩;simp only[sX,sY,sZ];refine tj 9 22 (.string (T++ln)) zz ?_ (hy:=fun w hS=>by have h:=run_string_add_sum (P:=Tryz.prog) w T ln (by omega);simp[execOp,go_sem,h]);refine tj 10 5 (.string (T++ln)) zz ?_;simp only[sX,sY,sZ];refine wpAnyH_done (by kernel_rfl) ?_ _;clear zz;go_wp2_with fail;go_roundw
    case rel=>first | exact⟨k+1,_,by omega,by go_num,rfl,HT3.u,HB1.u⟩ | ((repeat apply Exists.intro);exact⟨⟨k+1,_,by omega,by go_num,rfl,HT3.u,HB1.u⟩,rfl⟩)
    case measure=>simp[intOf];omega
  . obtain rfl:k=l.length:=by omega
    have hlt':¬ (l.length:Int)<(l.length:Int):=(by omega);have HF:Hi (T=⟨(lnL m l).toArray⟩):=h_ (sb_inj (by rw[hT,sb_mk (lnL m l),Z4]));have HB9:=mT HB hb;clear hb hT;go_wp2_with fail;go_ret;rw[HF.u];exact⟨rfl,HB9.u⟩
def MxL (w:World):Prop:=∃m,w.cell? ⟨0,0,none⟩=some (.int .i64 m)
theorem MxL.mono {w w':World}(h:MxL w)(hb:Below w.heap.size w w'):MxL w':=by
 obtain⟨m,h⟩:=h
 have hp:0<w.heap.size:=by
  apply V9;intro h0;simp only[World.cell?]at h;rw[Ob (by simpa using h0)]at h;cases h
 exact⟨m,(hb.cell (p:=⟨0,0,none⟩) hp).trans h⟩
theorem mxl_of {w:World}(h:w.ShapedOpen Tryz.prog):MxL w:=Tryz.laysM146.s1_3 w h
theorem qns (s sep:ByteArray)(m:Int)(w:World)(hs:s.size<4294967281)(hm:w.cell? ⟨0,0,none⟩=some (J6 m))(h1:1<=sep.size):Calls Tryz.prog 87 #[.string s,.string sep] w fun e w'=>e=.returned (.slice (some ⟨w.heap.size,0,none⟩) (Lib.countB s sep+1) (Lib.countB s sep+1))/\w'=w.alloc (.cells ((Lib.splitB sep 0 (Lib.countB s sep) s).map Value.string).toArray 9) :=
 Any.strings_Split { Tryz.laysM146 with } Tryz.laysM146.i9 s sep m w hs hm h1
theorem qip (s sep:ByteArray)(n:Nat)(m:Int)(w:World)(hs:s.size<4294967281)(hm:w.cell? ⟨0,0,none⟩=some (J6 m))(h1:1<=sep.size)(hn:1<=n)(hn63:n<=9223372036854775807):Calls Tryz.prog 88 #[.string s,.string sep,J6 n] w fun e w'=>e=.returned (.slice (some ⟨w.heap.size,0,none⟩) (Lib.splitB sep 0 (min n (s.size+1) - 1) s).length (min n (s.size+1)))/\w'=w.alloc (.cells (Lib.cellsOf (Lib.splitB sep 0 (min n (s.size+1) - 1) s) (min n (s.size+1))) 9) :=
 Any.strings_SplitN { Tryz.laysM147 with } Tryz.laysM147.i9 s sep n m w hs hm h1 hn hn63
theorem qfs {t p:List UInt8}(h:¬ (t=[]∨t.getLast? = some 10))(hp:(cutL t).getLast? = some p):p≠[]:=by
 induction t generalizing p with
 | nil=>exact absurd (.inl rfl) h
 | cons c t ih =>
  have hp:(if c=10 then [] :: cutL t else match cutL t with | []=>[[c]] | p :: ps=>(c :: p) :: ps).getLast? = some p:=hp;cases t with
  | nil =>
   have hc:c≠10:=fun e=>h (.inr (by rw[e];rfl));rw[Yn hc]at hp;have hp:some [c]=some p:=hp;cases hp;simp
  | cons d t =>
   have h2:¬ ((d :: t)=[]∨(d :: t).getLast? = some 10):=fun q=>h (.inr (by
    rw[Vs];exact q.resolve_left (by simp)))
   cases hq:cutL (d :: t) with
   | nil =>
    exfalso;have hq:(if d=10 then [] :: cutL t else match cutL t with | []=>[[d]] | p :: ps=>(d :: p) :: ps)=[]:=hq;by_cases hd:d=10
    . rw[Yv hd]at hq;cases hq
    . rw[Yn hd]at hq
      cases hr:cutL t with
      | nil=>rw[hr]at hq;cases hq
      | cons a b=>rw[hr]at hq;cases hq
   | cons q qs =>
    have ih:=fun {p}=>ih (p:=p) h2;rw[hq]at hp ih;by_cases hc:c=10
    . rw[Yv hc,Vs]at hp
      exact ih hp
    . rw[Yn hc]at hp
      cases qs with
      | nil =>
       have hp:some (c :: q)=some p:=hp;cases hp;simp
      | cons r rs =>
       have hp:((c :: q) :: r :: rs).getLast? = some p:=hp;rw[Vs]at hp;exact ih (by rw[Vs];exact hp)
theorem qnu (s:ByteArray){C:Nat}(hC:Lib.countB s ⟨#[10]⟩=C):∃L e,Lib.splitB ⟨#[10]⟩ 0 C s=L++[e]/\L.length=C/\(e.size=0->L.map sb=cutL (sb s))/\(e.size≠0->(L++[e]).map sb=cutL (sb s)):=by
 have hl:(Lib.splitB ⟨#[10]⟩ 0 C s).length=C+1:=Lib.splitB_all ⟨#[10]⟩ (by decide) 0 C s hC
 have hm:(Lib.splitB ⟨#[10]⟩ 0 C s).map sb=Lib.splitK [10] 0 C (sb s):=Lib.splitB_data ⟨#[10]⟩ 0 C s
 have hc:(sb s).count 10=C:=by rw[<- hC];exact(Lib.count_one 10 (sb s)).symm
 generalize Lib.splitB ⟨#[10]⟩ 0 C s=P at *
 rcases List.eq_nil_or_concat P with rfl | ⟨L,e,rfl⟩
 . cases hl
 rw[List.concat_eq_append]at *
 refine⟨L,e,rfl,by simpa using hl,?_⟩
 rw[<- hc]at hm
 obtain⟨h1,h2⟩:=qek (sb s)
 by_cases he:sb s=[]∨(sb s).getLast? = some 10
 . rw[h1 he,Zc]at hm
   obtain⟨q1,q2⟩:=List.append_inj' hm rfl;have q3:[sb e]=[[]]:=q2;have q4:e.size=0:=by rw[<- sb_len];rw[List.cons.inj q3 |>.1];rfl
   exact⟨fun _=>q1,fun h=>absurd q4 h⟩
 . rw[h2 he]at hm
   refine⟨fun h=>?_,fun _=>hm⟩;have hg:(cutL (sb s)).getLast? = some (sb e):=by rw[<- hm,Zc];exact List.getLast?_concat
   exact absurd (O5 (by rw[sb_len];exact h)) (qfs he hg)
theorem qiw {w:World}{g:Nat}{P L:List ByteArray}{R:List Value}(h:Blk w g 9 (P.map Value.string++R))(hl:∀k (hk:k<L.length),P[k]? = some L[k]):Strs w (some ⟨g,0,none⟩) L:=fun k hk=>⟨g,0,rfl,h.lt,by
 have hp:k<P.length:=by
  have:=hl k hk;rw[Z7]at this;exact this.1
 rw[Y7,h.cell,Vm (by simpa using hp),Zg,hl k hk]
 rfl⟩
theorem q6p (s:ByteArray)(w:World)(hs:s.size<=1048576)(hx:MxL w) :
 Calls Tryz.prog 51 #[.string s] w fun x w'=>∃a l c,x=.returned (.slice a l.length c)/\Strs w' a l/\l.map sb=cutL (sb s)/\Below w.heap.size w w':=by
 obtain⟨mx,hmx⟩:=hx
 have HSp:=h_ (qns s ⟨#[10]⟩ mx w (by omega) hmx (by decide))
 have hCl:=Lib.countB_le ⟨#[10]⟩ (by decide) s.size s (nR _)
 obtain⟨C,hC⟩:=Nq (Lib.countB s ⟨#[10]⟩)
 obtain⟨L,e,hP,hLl,h0,h1⟩:=qnu s hC
 rw[hC,hP]at HSp
 rw[hC]at hCl
 have HP0:=h_ h0;have HP1:=h_ h1
 clear hC hP h0 h1 hmx
 have hN:=Blk.new w 9 ((L++[e]).map Value.string).toArray
 have hB:=(bR w.heap.size w).alloc (nR _) (.cells ((L++[e]).map Value.string).toArray 9)
 have hN':Blk (w.alloc (.cells ((L++[e]).map Value.string).toArray 9)) w.heap.size 9 ((L++[e]).map Value.string++[]):=by simpa using hN
 have hSa:=qiw (L:=L++[e]) hN' (fun k hk=>Yc hk)
 have hSb:=qiw (L:=L) hN' (fun k hk=>by rw[Vm hk];exact Yc hk)
 have hce:(w.alloc (.cells ((L++[e]).map Value.string).toArray 9)).cell? ⟨w.heap.size,C,none⟩=some (.string e):=by rw[hN.cell];simp[<- hLl]
 obtain⟨W1,hW1⟩:=Nq (w.alloc (.cells ((L++[e]).map Value.string).toArray 9))
 rw[hW1]at HSp hB hSa hSb hce
 have HB:=h_ hB;have HSa:=h_ hSa;have HSb:=h_ hSb
 clear hN hN' hB hSa hSb hW1
 go_enter Tryz.func51,Tryz.ntmps51
 go_wp2_with fail
 refine HSp.u.mono ?_
 rintro x W2 ⟨rfl,rfl⟩
 clear HSp
 have hC0:(0:Int)<=C:=by omega
 have hC1:(C:Int)<(C:Int)+1:=by omega
 have hC2:(C:Int)<=(C:Int)+1:=by omega
 by_cases he:e.size=0
 . have HX:=h_ (HP0.u he)
   obtain rfl:=ba_nil he;clear HP0 HP1;go_wp2_with fail;go_ret;exact⟨_,L,C+1,by rw[hLl];rfl,HSb.u,HX.u,HB.u⟩
 . have HX:=h_ (HP1.u he)
   have he':e.toList.isEmpty=false:=by
    rw[List.isEmpty_eq_false_iff,Yp];exact fun q=>he (by rw[<- sb_len];unfold sb;rw[q];rfl)
   clear HP0 HP1 he;go_wp2_with fail;go_ret;exact⟨_,L++[e],C+1,by rw[Yd,hLl];rfl,HSa.u,HX.u,HB.u⟩
theorem qm3 {w:World}{b:Nat}{l:List ByteArray}(h:PMap w b l)(hn:l.Nodup)(key:ByteArray)(hk:key.size<=9223372036854775807) :
 ∃c:Int,(Instr.lookup 100 (.map (some b)) (.string key) true).run Tryz.prog w=.ok (.tuple #[J6 c,.bool (memB key l)]) w/\(memB key l=true->∃j:Nat,c=j/\l[j]? = some key):=by
 have hkey:keyOf Tryz.prog 9 (.string key)=some (kl key):=WideMaps.keyOf_string_mk Tryz.underlying9 hk
 obtain⟨v,ps,hrun,hv⟩:=World.ownsMap.look_ok h (Maps.string_keyed Tryz.underlying9) Tryz.underlying100 (Tryz.zeroValue3 _) (plainElem_int Tryz.underlying3 (by decide)) hkey
 obtain⟨c,rfl,hc,-⟩:=plainElem_int_inv Tryz.underlying3 hv
 rw[has_mp]at hrun
 refine⟨c,hrun,fun hm=>?_⟩
 obtain⟨j,hj,e⟩:=List.getElem_of_mem ((qh6 _ _).1 hm)
 refine⟨j,?_,by rw[Yc hj,e]⟩
 have h2:=at_mp l hn (.lit (.int .i64 0)) j hj
 rw[e]at h2
 have h3:=congrArg Prod.fst hc
 dsimp only at h3
 rw[h2]at h3
 injection h3 with h3
 injection h3 with _ h3
 exact h3.symm
theorem qer (m:Fm)(A:MA)(l0:Int)(w:World)(hf:FitM m)(h0:0<=l0)(h1:l0<=1048576)(ha:MSl w m A) :
 Calls Tryz.prog 4 #[mV m A,J6 l0] w fun r w'=>∃q:Int,r=.returned (J6 q)/\(0<=q->Sm m/\q<=1048576)/\Below w.heap.size w w':=by
 obtain⟨al,alc,ap,apc,ar,arc,af,afc,afa⟩:=A
 unfold mV
 dsimp only
 have HK:=h_ (Blk.new w 27 (Jb al m alc ap apc ar arc af afc))
 have HB:=h_ ((bR w.heap.size w).alloc (nR _) (.cells (Jb al m alc ap apc ar arc af afc) 27))
 obtain⟨W0,hW0⟩:=Nq (w.alloc (.cells (Jb al m alc ap apc ar arc af afc) 27))
 rw[hW0]at HK HB
 have HS:=h_ (ha.mono HB.u);have HF:=h_ hf
 clear ha hf
 obtain⟨x0,x1,x2,x3⟩:=quad HK.u
 go_enter Tryz.func4,Tryz.ntmps4
 go_wp2_with fail
 try rw[hW0]
 clear hW0
 refine(q36 al alc m.L l0 W0 h0 h1 HF.u.ll HF.u.l HS.u.l).mono ?_
 rintro r W1 ⟨q1,rfl,hq,hm,hb⟩
 replace HK:=mB HK hb;replace HS:=h_ (HS.u.mono hb);replace HB:=mT HB hb
 have HQ1:=h_ hq
 clear hq hm hb x0 x1 x2 x3
 obtain⟨x0,x1,x2,x3⟩:=quad HK.u
 by_cases hr1:q1<0
 . go_wp2_with fail
   go_ret;exact⟨_,rfl,fun h=>absurd h (by decide),HB.u⟩
 have hl1:q1<=1048576:=(HQ1.u (by omega)).1
 have HX1:=h_ (HQ1.u (by omega)).2
 go_wp2_with fail
 refine(q4z ap apc m.P.length q1 W1 (by omega) hl1 HF.u.pl).mono ?_
 rintro r W2 ⟨q2,rfl,hq,hm,hb⟩
 replace HK:=mB HK hb;replace HS:=h_ (HS.u.mono hb);replace HB:=mT HB hb
 have HQ2:=h_ hq
 clear hq hm hb x0 x1 x2 x3
 obtain⟨x0,x1,x2,x3⟩:=quad HK.u
 by_cases hr2:q2<0
 . go_wp2_with fail
   go_ret;exact⟨_,rfl,fun h=>absurd h (by decide),HB.u⟩
 have hl2:q2<=1048576:=(HQ2.u (by omega)).1
 have HX2:=h_ (HQ2.u (by omega)).2
 go_wp2_with fail
 refine(q50 ar arc m.R q2 W2 (by omega) hl2 HF.u.rl HF.u.r HS.u.r).mono ?_
 rintro r W3 ⟨q3,rfl,hq,hm,hb⟩
 replace HK:=mB HK hb;replace HS:=h_ (HS.u.mono hb);replace HB:=mT HB hb
 have HQ3:=h_ hq
 clear hq hm hb x0 x1 x2 x3
 obtain⟨x0,x1,x2,x3⟩:=quad HK.u
 by_cases hr3:q3<0
 . go_wp2_with fail
   go_ret;exact⟨_,rfl,fun h=>absurd h (by decide),HB.u⟩
 have hl3:q3<=1048576:=(HQ3.u (by omega)).1
 have HX3:=h_ (HQ3.u (by omega)).2
 go_wp2_with fail
 refine(q4y af afc m.F afa q3 W3 (by omega) hl3 HF.u.fl HF.u.f HS.u.f).mono ?_
 rintro r W4 ⟨q4,rfl,hq,hm,hb⟩
 replace HK:=mB HK hb;replace HS:=h_ (HS.u.mono hb);replace HB:=mT HB hb
 have HQ4:=h_ hq
 clear hq hm hb x0 x1 x2 x3
 obtain⟨x0,x1,x2,x3⟩:=quad HK.u
 by_cases hr4:q4<0
 . go_wp2_with fail
   go_ret;exact⟨_,rfl,fun h=>absurd h (by decide),HB.u⟩
 have hl4:q4<=1048576:=(HQ4.u (by omega)).1
 have HX4:=h_ (HQ4.u (by omega)).2
 go_wp2_with fail
 go_ret
 exact⟨_,rfl,fun _=>⟨⟨HX1.u,HX2.u,HX3.u,HX4.u.1,HX4.u.2⟩,hl4⟩,HB.u⟩
theorem qfn {m:Fm}{n:Nat}{F:Nat->Bool}{a:Int}(h:ChkF m n F 0 a):a=0:=by
 rcases h with ⟨z,-,-,h,-⟩ | ⟨-,f,z,-,-,-,⟨-,h,-⟩ | ⟨-,-,h⟩⟩
 . exact absurd h (by decide)
 . exact absurd h (by decide)
 . exact h
theorem SndW.congr {m:Fm}{A:MA}{n:Nat}{F:Nat->Bool}{f g:Nat->Nat}{S:SF}{W:World}(h:SndW m A n F g S W)(he:∀k,k<m.F.length->g k=f k):SndW m A n F f S W:=by
 obtain⟨b,bt,top,a1,a2,a3,c1,c2,c3,a5,c5,e,h1,h2,h3⟩:=h
 have e2:lsL g m.F.length=lsL f m.F.length:=by
  unfold lsL;exact Zo fun k hk=>he k (Y9.1 hk)
 rw[e2]at h3
 exact⟨b,bt,top,a1,a2,a3,c1,c2,c3,a5,c5,e,h1,h2,h3⟩
end Go.Proofs.YtgojgjlninakjaaGreatDoor
