import Derived.Test.YtenckgnkjkijnaaGreatDoorW28
import Derived.Test.YtenckgnkjkijnaaGreatDoorW29
import Derived.Test.YtenckgnkjkijnaaGreatDoorW25
import Derived.Shelf.Lay
set_option maxRecDepth 100000
set_option maxHeartbeats 64000000
namespace Go.Proofs.YtenckgnkjkijnaaGreatDoor
open Go Go.RowKit Go.ChangeShapes Go.WideShapes Go.ChangeAt Go.Proofs.Tryz
theorem ka8:prog.cellsOf 3=1:=by kernel_rfl
theorem kc6:prog.cellsOf 2=1:=by kernel_rfl
theorem keh:prog.cellsOf 197=5:=by kernel_rfl
theorem qdo (b a j:Nat):(⟨b,a,none⟩:Addr).add j=⟨b,a+j,none⟩:=by simp[Addr.add]
section
variable {H:Type} {enc:TypeId × Value->H} {P:Program} {w:Tw} {base:Nat} {held:Bool}
def kfg:Nx:=⟨0,kak,⟨#[]⟩⟩
theorem qf6 {t e:TypeId}{h i j k l m:Field}{n:Nat}{v:Value}{y:DataW H × List MemPlace}(ht:P.underlying t=some (.slice e))(W:P.underlying e=some (.struct #[h,i,j]))(A:P.cellsOf e=5)(o0:h.offset=0)(o1:i.offset=1)(o2:j.offset=4)
 (hv:P.underlying i.type=some (.struct #[k,l,m])) (cv:P.cellsOf i.type=3) (q0:k.offset=0) (q1:l.offset=1) (q2:m.offset=2)
 (i0:P.underlying h.type=some (.int .i64)) (i2:P.underlying j.type=some .string) (S:P.cellsOf h.type=1) (c2:P.cellsOf j.type=1)
 (j0:P.underlying k.type=some (.int .i64)) (j1:P.underlying l.type=some (.int .i64)) (j2:P.underlying m.type=some .string) (U:P.cellsOf k.type=1) (d1:P.cellsOf l.type=1) (d2:P.cellsOf m.type=1) (r:DataW.trod enc P w base (fun _=>true) held n t [v]=some y)
 (Y:∀a∈y.2,a.block<w.heap.size):∃b g z c,v=.slice b g z/\g<=9223372036854775807/\kch w b g c/\(∀a,a<g->Fit (c a)):=by
 rcases Deep.open_slice ht r with ⟨s,-⟩ | ⟨b,g,z,q,N,ah,Pl,s,-,hl,hm,M,rfl,hx⟩
 . exact⟨none,0,0,fun _=>kfg,by simpa using s,by omega,fun N p=>absurd p (nL _),fun N p=>absurd p (nL _)⟩
 . simp only[if_true]at M
   subst M;have G:∀a,a<q->∃d:Nx,w.cell? (b.add (a*5))=some (J6 d.op)/\w.cell? (b.add (a*5+1))=some (J6 d.v.k)/\w.cell? (b.add (a*5+2))=some (J6 d.v.n)/\w.cell? (b.add (a*5+3))=some (.string d.v.s)/\w.cell? (b.add (a*5+4))=some (.string d.nm)/\Fit d:=by
    intro a f;obtain⟨T,L,V⟩:=hx a f;rw[A]at L;obtain⟨_,X,o⟩:=World.cells?_some L;obtain⟨xs,k',p,aj,_,aa,d⟩:=DataW.trod_struct W V
    match xs,aa,T,X with
    | [y0,y1,y2],_,[v0,v1,v2,v3,v4],_ =>
     have I:=d 0 h rfl;have J:=d 1 i rfl;have K:=d 2 j rfl;simp[o0,o1,o2,S,c2,cv]at I J K;have B:=o 0 (by omega);have C:=o 1 (by omega);have D:=o 2 (by omega);have E:=o 3 (by omega);have F:=o 4 (by omega);rw[Deep.add_add]at B C D E F;obtain⟨ag,al,ai,ak,_,ac,u⟩:=DataW.trod_struct hv J
     match ag,ac with
     | [z0,z1,z2],_ =>
      have O:=u 0 k rfl;have Q:=u 1 l rfl;have R:=u 2 m rfl;simp[q0,q1,q2,U,d1,d2]at O Q R;obtain⟨op,rfl,-,-⟩:=qou i0 I;obtain⟨ad,rfl,-,-⟩:=qou j0 O;obtain⟨ae,rfl,n0,n1⟩:=qou j1 Q;obtain⟨af,rfl,x⟩:=qox j2 R;obtain⟨nm,rfl,Z⟩:=qox i2 K;exact⟨⟨op,⟨ad,ae,af⟩,nm⟩,by simpa using B,by simpa using C,by simpa using D,by simpa using E,by simpa using F,x,Z,n0,n1⟩
   obtain⟨c,d⟩:∃c:Nat->Nx,∀a,a<q->w.cell? (b.add (a*5))=some (J6 (c a).op)/\w.cell? (b.add (a*5+1))=some (J6 (c a).v.k)/\w.cell? (b.add (a*5+2))=some (J6 (c a).v.n)/\w.cell? (b.add (a*5+3))=some (.string (c a).v.s)/\w.cell? (b.add (a*5+4))=some (.string (c a).nm)/\Fit (c a):=by
    classical
    exact⟨fun a=>if r:a<q then (G a r).choose else kfg,fun a f=>by simp only[dif_pos f];exact(G a f).choose_spec⟩
   refine⟨some b,g,q,c,by simpa using s,by have:maxLen=9223372036854775807:=rfl;omega,fun a f=>?_,fun a f=>(d a (by omega)).2.2.2.2.2⟩;obtain⟨p,u,B,C,D,-⟩:=d a (by omega);obtain⟨f,o,E⟩:=b;have x:E=none:=by simpa [Addr.add] using World.cell?_spot (d 0 (by omega)).1
   subst x;rw[qdo]at p u B C D;refine⟨f,o,rfl,Y (.cell f (o+a*5)) ?_,p,u,B,C,D⟩;rw[A];exact Vg _ (MemPlace.mem_row.2 ⟨a*5,by omega,by simp⟩)
theorem q3a {enc:TypeId × Value->H}{sp:Nat->Bool}{fuel n:Nat}{t e:TypeId}{cs:Tl}{zs:List (List UInt8)}{p:List MemPlace}
 (ht:P.underlying t=some (.array n e)) (he:P.underlying e=some .string) (hce:P.cellsOf e=1) (hct:P.cellsOf t=n)
 (h:DataW.trod enc P w base sp held fuel t cs=some (.agg (zs.map fun z=>.lit (.string z)),p)):cs=zs.map fun z=>Value.string ⟨z.toArray⟩:=by
 cases fuel with
 | zero=>simp[DataW.trod]at h
 | succ fuel =>
  simp only[DataW.trod,ht,hce,hct,Nat.mul_one]at h;split at h
  . rename_i hl
    obtain⟨xs,hm,hx⟩:=Option.map_eq_some_iff.1 h;have hxs:xs.map (·.1)=zs.map fun z=>(DataW.lit (.string z):DataW H):=by
     have:=congrArg Prod.fst hx;simpa using this
    have hxl:xs.length=n:=(by simpa using Lib.mapM_length hm);have hzl:zs.length=n:=by
     have:=congrArg List.length hxs;simp at this;omega
    apply Oy;intro i;by_cases hi:i<n
    . obtain⟨b,hb,hf⟩:=Lib.mapM_at hm i i (by simp[hi])
      obtain⟨s,hc,rfl,_⟩:=DataW.trod_string he hf;have h1:cs[i]? = some (.string s):=by
       have:=congrArg (·[0]?) hc;simpa [List.getElem?_take,List.getElem?_drop] using this
      have h2:(xs.map (·.1))[i]? = some (DataW.lit (.string s.data.toList):DataW H):=(by simp[hb]);rw[hxs]at h2;simp only[Zj,Option.map_eq_some_iff,DataW.lit.injEq,Lit.string.injEq]at h2;obtain⟨z',hz',rfl⟩:=h2;simp[h1,hz']
    . rw[Vd (by omega),Vd (by simp;omega)]
  . cases h
end
theorem kib:prog.globalNamed "loop.example/s0011/impl.operatorWords" = some 5:=by kernel_rfl
theorem keX:(prog.globals[5]?).map (·.type)=some 354:=by kernel_rfl
theorem keY:prog.cellsOf 354=26:=by kernel_rfl
theorem kgn:(Rows.laid_loop_example_s0011_impl_operatorWords:DataW Unit)=.agg ((ke7.map (·.data.toList)).map fun a=>.lit (.string a)):=by rfl
theorem q9z {W:Tw}{rest:List (String × DataW Unit)}(d:laidMet prog (("loop.example/s0011/impl.operatorWords",Rows.laid_loop_example_s0011_impl_operatorWords) :: rest) W):kdW W:=by
 rw[kgn]at d;obtain⟨o,⟨m,q,c,l,n,p,h,i,j,g,_,_⟩,_⟩:=d;obtain rfl:=Z3 (kib.symm.trans h);obtain rfl:=Z3 (keX.symm.trans i);have f:=q3a underlying354 underlying9 ka6 keY g;have e:∀a,a<26->W.cell? ⟨5,a,none⟩=some (.string (ke7.getD a ⟨#[]⟩)):=fun a b=>by
  have:=World.var?_cell kib j a;rw[this];have b:c[a]? = c.toList[a]?:=by simp
  rw[b,f];have k:ke7.length=26:=rfl;simp only[List.map_map,Zj];rw[Yg (by omega)];simp[List.getD,List.getElem?_eq_getElem (show a<ke7.length by omega)]
 refine⟨?_,e⟩;apply V8;intro a;have k:=e 0 (by omega);have b:W.heap[(5:Nat)]? = none:=Ob a;simp[World.cell?,b]at k
def kgo (zs:List Tb):Obj->Obj:=fun
 | .cells _ t frozen=>.cells (zs.map Value.string).toArray t frozen
 | o=>o
theorem kia: "*"++ "errors.errorString" = "*errors.errorString":=by decide
theorem kgl (u:TypeId)(a:prog.typeName? 3 u=some "*errors.errorString"):u=360 :=
 typeName_ptr_named (nm:= "errors.errorString") (by rw[kia];kernel_rfl) (by kernel_rfl) (by decide) u (by rw[kia];exact a)
theorem gES:prog.globalNamed "strconv.ErrSyntax" = some 3:=by kernel_rfl
theorem gER:prog.globalNamed "strconv.ErrRange" = some 4:=by kernel_rfl
theorem kfE:(prog.globals[3]?).map (·.type)=some 297:=by kernel_rfl
theorem kfF:(prog.globals[4]?).map (·.type)=some 297:=by kernel_rfl
theorem kef:prog.cellsOf 362=1:=by kernel_rfl
theorem qoc {w:Tw}{a b c:String × DataW Unit}{rest:List (String × DataW Unit)}(d:laidMet prog (a :: b :: c :: ("strconv.ErrRange",Rows.laid_strconv_ErrRange) :: rest) w):kfc "strconv.ErrRange" w:=by
 obtain⟨f,g,e,-⟩:=laid_sentinel d.tail.tail.tail gER kfF underlying297 kgl underlying360 underlying362 rfl rfl underlying9 kef ka6;exact⟨_,_,e⟩
theorem qod {w:Tw}{a b c d:String × DataW Unit}{rest:List (String × DataW Unit)}(e:laidMet prog (a :: b :: c :: d :: ("strconv.ErrSyntax",Rows.laid_strconv_ErrSyntax) :: rest) w):kfc "strconv.ErrSyntax" w:=by
 obtain⟨g,h,f,-⟩:=laid_sentinel e.tail.tail.tail.tail gES kfE underlying297 kgl underlying360 underlying362 rfl rfl underlying9 kef ka6;exact⟨_,_,f⟩
def kgm (b:Nat):Obj->Obj:=fun
 | .cells _ t frozen=>.cells #[.iface 360 (.pointer (some ⟨b,0,none⟩))] t frozen
 | o=>o
end Go.Proofs.YtenckgnkjkijnaaGreatDoor
namespace Go.Proofs.YtenckgnkjkijnaaGreatDoor
open Go Go.RowKit Go.Proofs.Tryz
structure kcp (w:Tw):Prop where
 pow:Pow w
 es:kfc "strconv.ErrSyntax" w
 er:kfc "strconv.ErrRange" w
 mx:kf3 w
theorem kcp.mono {w w':Tw}(a:kcp w)(b:Bw w w'):kcp w':=⟨a.pow.mono b,a.es.mono b,a.er.mono b,a.mx.mono b⟩
theorem q9c (b o m c:Nat)(p:Vx)(w:Tw)(H:1<=m)(J:p.s.size<=1000)(j:kcp w)(A:Cel w b o p):Gv 281 #[.slice (some ⟨b,o,none⟩) m c] w (vv (if (rd p.s.data.toList).2 then kbL (rd p.s.data.toList).1 else kax 5)):=by
 obtain⟨G,F,c1,c2⟩:=A;have I:(0:Int)<m:=by omega
 obtain⟨e,f,a⟩:∃e f,rd p.s.data.toList=(e,f):=⟨_,_,rfl⟩;rw[a];dsimp only;obtain⟨i,d⟩:∃i,(if f=true then kbL e else kax 5)=i:=⟨_,rfl⟩;rw[d];obtain⟨n,t⟩:=oB d a;clear d a;obtain⟨q,d⟩:=Nq (w.alloc (.cells Jf 55));have a:Bw w q:=by rw[<- d];exact(Below.refl _ _).alloc (nR _) _
 have bR:=nK d;obtain⟨g,h,l⟩:=oC a bR (j.mono a);clear a bR j;have u:=h_ d;clear d;go_enter func281,ntmps281;go_wp2_with fail
 try rw[u.u]
 refine cQ (q1v p.s q (by omega) l.pow l.es l.er e f t) fun r a=>?_;replace h:=mB h a;replace g:=mT g a;cases f
 . have k:Hi (i=kax 5):=h_ (by rw[<- n.u];rfl)
   go_wp2_with fail;refine cQ (q57 5 r) fun E a=>?_;have d:=mB h a;have j:=mT g a;obtain⟨B,C,D⟩:=kag d;have x:=d.free 0;have y:=d.free 1;have z:=d.free 2;unfold vv kax;go_wp2;exact bQ (v:=.agg #[J6 4,J6 5,J8]) ⟨by rw[k.u];rfl,kap j _ _ _⟩
 . have k:Hi (i=kbL e):=h_ (by rw[<- n.u];rfl)
   go_wp2_with fail;refine cQ (q5e e r) fun E a=>?_;have d:=mB h a;have j:=mT g a;obtain⟨B,C,D⟩:=kag d;have x:=d.free 0;have y:=d.free 1;have z:=d.free 2;go_wp2;exact bQ (v:=.agg (J4 e)) ⟨by rw[k.u];rfl,kap j _ _ _⟩
theorem q4k (b o m c:Nat)(p:Vx)(w:Tw)(C:1<=m)(a:-9223372036854775808<=p.n/\p.n<=9223372036854775807)(h:kcp w)(r:Cel w b o p):Gv 282 #[.slice (some ⟨b,o,none⟩) m c] w (vv (kbU (kb1 p.k p.n p.s))):=by
 obtain⟨B,x,c1,c2⟩:=r;have D:(0:Int)<m:=by omega
 have g:=h_ a;clear a;obtain⟨j,a⟩:=Nq (kb1 p.k p.n p.s);rw[a];have q:=h_ a;clear a;obtain⟨i,d⟩:=Nq (w.alloc (.cells Jf 55));have a:Bw w i:=by rw[<- d];exact(Below.refl _ _).alloc (nR _) _
 have bR:=nK d;obtain⟨e,f,l⟩:=oC a bR (h.mono a);clear a bR h;have h:=h_ d;clear d;go_enter func282,ntmps282;go_wp2_with fail
 try rw[h.u]
 clear h;refine(q47 p.k p.n p.s i g.1 g.2 l.pow).mono ?_;rw[q.u];rintro y t ⟨rfl,a⟩;replace f:=mB f a;replace e:=mT e a;clear a;go_wp2_with fail;refine cQ (q4h j t) fun H a=>?_;have d:=mB f a;have h:=mT e a;clear a;obtain⟨E,F,G⟩:=kag d;have a:=d.free 0;have z:=d.free 1;have A:=d.free 2;go_wp2;exact bQ (v:=.agg #[J6 3,J6 0,.string j]) ⟨rfl,kap h _ _ _⟩
end Go.Proofs.YtenckgnkjkijnaaGreatDoor
namespace Go.Proofs.YtenckgnkjkijnaaGreatDoor
open Go Go.Proofs.Tryz
theorem kgt {M M':Nat->Bool}:∀a,(∀b,b<a->M b=true->M' b=true)->kbK M a<=kbK M' a:=by
 intro a
 induction a with
 | zero=>intro _;exact nR _
 | succ a e =>
  intro c;rw[qea,qea];have f:=e fun b d=>c b (by omega);have d:=c a (Zu _);by_cases b:M a=true
  . rw[Yr b,Yr (d b)];omega
  . rw[Yl b];omega
theorem kfk {M M':Nat->Bool}{x:Nat}(f:M x=false)(g:M' x=true):∀a,x<a->(∀b,b<a->M b=true->M' b=true)->kbK M a<kbK M' a:=by
 intro a
 induction a with
 | zero=>intro c;exact absurd c (nL _)
 | succ a h =>
  intro j c;rw[qea,qea];by_cases d:x=a
  . subst d
    have:=kgt x fun b e=>c b (by omega);rw[f,g,Yl (by decide),Yr rfl];omega
  . have i:=h (by omega) fun b e=>c b (by omega)
    have e:=c a (Zu _);by_cases b:M a=true
    . rw[Yr b,Yr (e b)];omega
    . rw[Yl b];omega
theorem qn6:∀(a:Nat) (D:List Nat),(∀b,b<a->b∈D)->a<=D.length:=by
 intro a
 induction a with
 | zero=>intro D _;exact nZ _
 | succ a e =>
  intro D c;have d:=e (D.erase a) fun b f=>(List.mem_erase_of_ne (by omega)).2 (c b (by omega));rw[List.length_erase_of_mem (c a (Zu _))]at d;have:=List.length_pos_of_mem (c a (Zu _));omega
theorem kgu (m:Fm):∀a,(kam m a).length=a∨nxt m (kam m a)=none:=by
 intro a
 induction a with
 | zero=>exact .inl rfl
 | succ a d =>
  cases b:nxt m (kam m a) with
  | none=>rw[qgb b];exact .inr b
  | some e =>
   rcases d with c | c
   . rw[qgc b,Yj,c];exact .inl rfl
   . rw[c]at b;cases b
open Classical in
theorem qkt {m:Fm}(k:∀a,a<m.F.length->¬ Rch m a a):(kam m m.F.length).length=m.F.length:=by
 rcases kgu m m.F.length with n | o
 . exact n
 refine Nat.le_antisymm (qks m _) (qn6 _ _ ?_);have p:=qkm o;have j:∀a,a<m.F.length->(∀b,b<m.F.length->kbM m b a=true->b∈kam m m.F.length)->a∈kam m m.F.length:=fun a c g=>by
  have h:=p a c;refine Classical.byContradiction fun i=>?_;rw[kdX,Yd i,Bool.not_false,Y9,Zy]at h;obtain⟨b,f,e⟩:=h;cases d:kbM m b a
  . rw[d]at e;simp at e
  . exact e (by rw[Ye (g b (Yu.1 f) d),Bool.or_true])
 suffices hs:∀g a,a<m.F.length->kbK (fun d=>decide (Rch m d a)) m.F.length<=g->a∈kam m m.F.length from fun a c=>hs _ a c (nR _)
 intro g
 induction g with
 | zero =>
  intro a c l;refine j a c fun b f e=>?_;have h:=kfk (M:=fun _=>false) (M':=fun d=>decide (Rch m d a)) (x:=b) rfl (Ye (.one c e)) m.F.length f (fun d _ i=>by cases i);omega
 | succ g q =>
  intro a c l;refine j a c fun b f e=>q b f ?_;have h:=kfk (M:=fun d=>decide (Rch m d b)) (M':=fun d=>decide (Rch m d a)) (x:=b) (Yd (k b f)) (Ye (.one c e)) m.F.length f (fun d _ i=>Ye (.step (Y6 i) c e));omega
end Go.Proofs.YtenckgnkjkijnaaGreatDoor
namespace Go.Proofs.YtenckgnkjkijnaaGreatDoor
open Go Go.RowKit Go.Proofs.Tryz
def keE (f:Nat->Vx)(m:Nat)(u:Vx)(r:Int):Prop :=
 (∃k:Nat,k<m/\r=k/\eqX u (f k)=true)∨(r = -1/\∀j,j<m->eqX u (f j)=false)
theorem qaw (a:To)(m c:Nat)(f:Nat->Vx)(u:Vx)(w:Tw)(M:m<=1048576)(F:kaF w a m f) :
 Calls prog 340 #[.slice a m c,.agg (Jc u.k u.n u.s)] w fun h d=>∃b,h=.returned (J6 b)/\keE f m u b/\Bw w d:=by
 obtain⟨p,y⟩:=Nq (w.alloc (.cells (Jc u.k u.n u.s) 55));have j:Bw w p:=by rw[<- y];exact(Below.refl _ _).alloc (nR _) _
 have x:Blk p w.heap.size 55 [J6 u.k,J6 u.n,.string u.s]:=by rw[<- y];exact Blk.new w 55 (Jc u.k u.n u.s)
 obtain⟨B,z,H,o⟩:=oD (F.mono j) x y j;go_enter func340,ntmps340;go_wp2;go_loopw [5,8] (fun _ e wr=>∃b:Nat,b<=m/\e=J6 b/\(∀d,d<b->eqX u (f d)=false)/\Bw p wr) (fun _ e _=>m - (intOf e).toNat)
 case atStart=>exact⟨0,nZ _,rfl,fun d q=>absurd q (nL _),Below.refl _ _⟩
 case round =>
  obtain⟨b,K,rfl,G,j⟩:=hrel;obtain⟨l,r⟩:=oB G j;have E:=B.mono j;have x:=z.mono j z.lt;have D:=h_ E;obtain⟨O,P,Q⟩:=kag x;by_cases A:b<m
  . have L:(b:Int)<m:=by omega
    obtain⟨I,N,rfl,-,J,c1,c2⟩:=D b A;have C:Hi (Bw w wr.drew):=h_ (o.trans (r.drew.mono o.size));have t:Hi (Bw p wr.drew):=h_ r.drew;by_cases e:u.k=(f b).k
    . by_cases g:u.n=(f b).n
      . by_cases i:u.s.toList=(f b).s.toList
        . have v:Hi (keE f m u b):=h_ (.inl ⟨b,A,rfl,by simp[eqX,e,g,i]⟩)
          replace e:=eq_true e;replace g:=eq_true g;replace i:=eq_true i;go_wp2_with fail;go_region;go_wp2;go_ret;exact⟨_,rfl,v,C⟩
        . have k:Hi (∀d,d<b+1->eqX u (f d)=false):=h_ fun d q=>by
           by_cases h:d=b
           . rw[h];simp[eqX,e,g,i]
           . exact l d (by omega)
          replace e:=eq_true e;replace g:=eq_true g;replace i:=eq_false i;go_wp2_with fail;go_region;go_wp2;go_roundw
          case rel=>exact⟨b+1,by omega,by go_num,k,t⟩
          case measure=>simp[intOf];omega
      . have k:Hi (∀d,d<b+1->eqX u (f d)=false):=h_ fun d q=>by
         by_cases h:d=b
         . rw[h];simp[eqX,e,g]
         . exact l d (by omega)
        replace e:=eq_true e;replace g:=eq_false g;go_wp2_with fail;go_region;go_wp2;go_roundw
        case rel=>exact⟨b+1,by omega,by go_num,k,t⟩
        case measure=>simp[intOf];omega
    . have k:Hi (∀d,d<b+1->eqX u (f d)=false):=h_ fun d q=>by
       by_cases h:d=b
       . rw[h];simp[eqX,e]
       . exact l d (by omega)
      replace e:=eq_false e;go_wp2_with fail;go_region;go_wp2;go_roundw
      case rel=>exact⟨b+1,by omega,by go_num,k,t⟩
      case measure=>simp[intOf];omega
  . obtain rfl:b=m:=by omega
    have v:Hi (keE f b u (-1)):=h_ (.inr ⟨rfl,l⟩);go_wp2;go_ret;exact⟨_,rfl,v,o.trans (r.mono o.size)⟩
theorem q3b (a:To)(m c:Nat)(f:Nat->Vx)(u:Vx)(w:Tw)(r:m<=1048576)(h:kaF w a m f) :
 Gv 329 #[.slice a m c,.agg (Jc u.k u.n u.s)] w (.bool ((List.range m).any fun d=>eqX u (f d))):=by
 obtain⟨y,b⟩:=Nq (((List.range m).any fun d=>eqX u (f d)));rw[b];have o:=h_ b;clear b;obtain⟨g,e⟩:=Nq (w.alloc (.cells (Jc u.k u.n u.s) 55));have b:Bw w g:=by rw[<- e];exact(Below.refl _ _).alloc (nR _) _
 obtain⟨i,l,j⟩:=oC (h.mono b) e b;clear h b e;go_enter func329,ntmps329;go_wp2_with fail
 try rw[l.u]
 refine(qaw a m c f u g r i).mono ?_;rintro z A ⟨x,rfl,t,b⟩;have h:=mT j b;have k:Hi (y=decide (0<=x)):=h_ (by
  rw[<- o.u];rcases t with ⟨v,q,rfl,e⟩ | ⟨rfl,e⟩
  . rw[Z8.2 ⟨v,Yu.2 q,e⟩]
    exact(Ye (by omega)).symm
  . rw[Vp.2 (fun d p=>by rw[e d (Yu.1 p)];decide)]
    rfl)
 go_wp2;go_ret;exact⟨by rw[k.u];rfl,h⟩
def kdY (f:Nat->Vx)(m:Nat)(d t:Vx):Vx:=if (List.range m).any (fun i=>eqX d (f i)) then d else if (List.range m).any (fun i=>decide ((f i).k=0)) then kak else t
theorem qcq (a:To)(m c:Nat)(f:Nat->Vx)(b t:Vx)(w:Tw)(G:m<=1048576)(F:kaF w a m f) :
 Gv 313 #[.slice a m c,.agg (Jc b.k b.n b.s),.agg (Jc t.k t.n t.s)] w (vv (kdY f m b t)):=by
 obtain⟨D,d⟩:=Nq (kdY f m b t);rw[d];have A:=h_ d;clear d;obtain⟨i,o⟩:=Nq (w.alloc (.cells (Jc b.k b.n b.s) 55));have q:Bw w i:=by rw[<- o];exact(Below.refl _ _).alloc (nR _) _
 have e:Blk i w.heap.size 55 [J6 b.k,J6 b.n,.string b.s]:=by rw[<- o];exact Blk.new w 55 (Jc b.k b.n b.s)
 have C:i.heap.size=w.heap.size+1:=by rw[<- o];simp
 obtain⟨j,p⟩:=Nq (i.alloc (.cells (Jc t.k t.n t.s) 55));have r:Bw i j:=by rw[<- p];exact(Below.refl _ _).alloc (nR _) _
 have k:Blk j (w.heap.size+1) 55 [J6 t.k,J6 t.n,.string t.s]:=by rw[<- p,<- C];exact Blk.new i 55 (Jc t.k t.n t.s)
 have H:j.heap.size=w.heap.size+1+1:=by rw[<- p];simp[C]
 obtain⟨h,x⟩:=Nq (j.alloc (.cells Jf 55));have y:Bw j h:=by rw[<- x];exact(Below.refl _ _).alloc (nR _) _
 have bR:Blk h (w.heap.size+1+1) 55 Jl:=by rw[<- x,<- H];exact Blk.new j 55 Jf
 have B:=(q.trans (r.mono q.size)).trans (y.mono (q.trans (r.mono q.size)).size);replace e:=(e.mono r e.lt).mono y (e.mono r e.lt).lt;replace k:=k.mono y k.lt;obtain⟨u,z,l,d,g⟩:=oG (F.mono B) e k bR B;have E:Hi (((w.alloc (.cells (Jc b.k b.n b.s) 55)).alloc (.cells (Jc t.k t.n t.s) 55)).alloc (.cells Jf 55)=h):=h_ (by rw[o,p,x]);clear F q r y B e k bR o p x C H;go_enter func313,ntmps313;go_wp2_with fail
 try rw[E.u]
 clear E;refine cQ (q3b a m c f b h G u) fun M e=>?_;replace u:=h_ (u.mono e);replace z:=mB z e;replace l:=mB l e;replace d:=mB d e;replace g:=mT g e;clear e;have p:∀(h:Tw) (k o q:Value),Bw w h->Bw w (((h.setCell ⟨w.heap.size+1+1,0,none⟩ k).setCell ⟨w.heap.size+1+1,1,none⟩ o).setCell ⟨w.heap.size+1+1,2,none⟩ q):=fun h k o q low=>by
  have k:w.heap.size<=w.heap.size+1+1:=by omega
  exact((low.setCell k _).setCell k _).setCell k _
 have o:=h_ p;clear p;cases C:(List.range m).any fun q=>eqX b (f q)
 . have r:=h_ C
   go_wp2_with fail;refine(q1a a m c f 0 M G u).mono ?_;rintro N Q ⟨O,rfl,K,e⟩;replace l:=mB l e;replace d:=mB d e;replace g:=mT g e;rcases K with ⟨L,J,rfl,p,-⟩ | ⟨rfl,p⟩
   . have k:Hi (D=kak):=h_ (by
      rw[<- A.u,kdY,r.u,Yl (by decide),Z8.2 ⟨L,Yu.2 J,Ye p⟩,Yr rfl])
     go_wp2_with fail;refine cQ (q21 _) fun I e=>?_;replace d:=mB d e;replace g:=mT g e;obtain⟨E,F,H⟩:=kag d;have x:=d.free 0;have y:=d.free 1;have B:=d.free 2;go_wp2;exact bQ (v:=.agg Jf) ⟨by rw[k.u];rfl,o _ _ _ _ g⟩
   . have k:Hi (D=t):=h_ (by
      rw[<- A.u,kdY,r.u,Yl (by decide),Vp.2 (fun q I=>by simpa using p q (Yu.1 I)),Yl (by decide)])
     obtain⟨q,I,P⟩:=kag l;obtain⟨E,F,H⟩:=kag d;have x:=d.free 0;have y:=d.free 1;have B:=d.free 2;go_wp2;exact bQ (v:=.agg (Jc t.k t.n t.s)) ⟨by rw[k.u];rfl,o _ _ _ _ g⟩
 . have k:Hi (D=b):=h_ (by rw[<- A.u,kdY,C,Yr rfl])
   obtain⟨p,d1,d2⟩:=kag z;obtain⟨E,F,H⟩:=kag d;have x:=d.free 0;have y:=d.free 1;have B:=d.free 2;go_wp2;exact bQ (v:=.agg (Jc b.k b.n b.s)) ⟨by rw[k.u];rfl,o _ _ _ _ g⟩
theorem q17 (a:To)(m c:Nat)(f:Nat->Vx)(w:Tw)(q:m<=1048576)(p:kaF w a m f) :
 Gv 271 #[.slice a m c] w (vv (kdY f m (kaj false) (kaj true))):=by
 obtain⟨j,l⟩:=Nq (kdY f m (kaj false) (kaj true));rw[l];have o:=h_ l;obtain⟨h,i⟩:=Nq (w.alloc (.cells Jf 55));have b:Bw w h:=by rw[<- i];exact(Below.refl _ _).alloc (nR _) _
 have bR:Blk h w.heap.size 55 Jl:=by rw[<- i];exact Blk.new w 55 Jf
 obtain⟨e,d,g⟩:=oC b bR (p.mono b);have u:=h_ i;go_enter func271,ntmps271;go_wp2_with fail;refine cQ (q37 false h) fun r b=>?_;replace d:=mB d b;replace e:=mT e b;replace g:=h_ (g.mono b);go_wp2_with fail;refine cQ (q37 true r) fun t b=>?_;replace d:=mB d b;replace e:=mT e b;replace g:=h_ (g.mono b);go_wp2_with fail;refine(qcq a m c f (kaj false) (kaj true) t q g).mono ?_;rw[o.u];rintro x E ⟨rfl,b⟩;replace d:=mB d b;replace e:=mT e b;obtain⟨B,C,D⟩:=kag d;have y:=d.free 0;have z:=d.free 1;have A:=d.free 2;unfold vv;go_wp2;exact bQ (v:=.agg (Jc j.k j.n j.s)) ⟨rfl,kap e _ _ _⟩
theorem q3f (a:To)(m c:Nat)(f:Nat->Vx)(w:Tw)(q:m<=1048576)(p:kaF w a m f) :
 Gv 272 #[.slice a m c] w (vv (kdY f m (kaj true) (kaj false))):=by
 obtain⟨j,l⟩:=Nq (kdY f m (kaj true) (kaj false));rw[l];have o:=h_ l;obtain⟨h,i⟩:=Nq (w.alloc (.cells Jf 55));have b:Bw w h:=by rw[<- i];exact(Below.refl _ _).alloc (nR _) _
 have bR:Blk h w.heap.size 55 Jl:=by rw[<- i];exact Blk.new w 55 Jf
 obtain⟨e,d,g⟩:=oC b bR (p.mono b);have u:=h_ i;go_enter func272,ntmps272;go_wp2_with fail;refine cQ (q37 true h) fun r b=>?_;replace d:=mB d b;replace e:=mT e b;replace g:=h_ (g.mono b);go_wp2_with fail;refine cQ (q37 false r) fun t b=>?_;replace d:=mB d b;replace e:=mT e b;replace g:=h_ (g.mono b);go_wp2_with fail;refine(qcq a m c f (kaj true) (kaj false) t q g).mono ?_;rw[o.u];rintro x E ⟨rfl,b⟩;replace d:=mB d b;replace e:=mT e b;obtain⟨B,C,D⟩:=kag d;have y:=d.free 0;have z:=d.free 1;have A:=d.free 2;unfold vv;go_wp2;exact bQ (v:=.agg (Jc j.k j.n j.s)) ⟨rfl,kap e _ _ _⟩
theorem kbW {u:Vx}(a:kah u.k u.n u.s=true):u=kak∨(∃b,u=kbL b)∨(∃c,u=kaj c)∨(∃c,u=kbU c)∨∃d,u=kax d:=by
 obtain⟨d,b,c⟩:=u;dsimp only at a;rcases keL d with rfl | rfl | rfl | rfl | rfl | ⟨e,g,h,i,j⟩
 . simp[kah]at a
   exact .inl (by rw[a.1,a.2];rfl)
 . simp[kah]at a
   exact .inr (.inl ⟨b,by rw[a];rfl⟩)
 . simp[kah]at a
   refine .inr (.inr (.inl ?_));rw[a.2];rcases a.1 with rfl | rfl
   . exact⟨false,rfl⟩
   . exact⟨true,rfl⟩
 . simp[kah]at a
   exact .inr (.inr (.inr (.inl ⟨c,by rw[a.1];rfl⟩)))
 . simp[kah]at a
   exact .inr (.inr (.inr (.inr ⟨b,by rw[a.2];rfl⟩)))
 . simp[kah,e,g,h,i,j]at a
theorem kfS {u:Vx}(b:kah u.k u.n u.s=true)(c:u.k=1):∃a,u=kbL a:=by
 rcases kbW b with rfl | ⟨a,rfl⟩ | ⟨a,rfl⟩ | ⟨a,rfl⟩ | ⟨a,rfl⟩ <;> first | exact⟨_,rfl⟩ | (simp[kak,kaj,kbU,kax]at c)
theorem kdF {u:Vx}(b:kah u.k u.n u.s=true)(c:u.k=2):∃a,u=kaj a:=by
 rcases kbW b with rfl | ⟨a,rfl⟩ | ⟨a,rfl⟩ | ⟨a,rfl⟩ | ⟨a,rfl⟩ <;> first | exact⟨_,rfl⟩ | (simp[kak,kbL,kbU,kax]at c)
theorem keC {u:Vx}(b:kah u.k u.n u.s=true)(c:u.k=3):∃a,u=kbU a:=by
 rcases kbW b with rfl | ⟨a,rfl⟩ | ⟨a,rfl⟩ | ⟨a,rfl⟩ | ⟨a,rfl⟩ <;> first | exact⟨_,rfl⟩ | (simp[kak,kbL,kaj,kax]at c)
theorem qn2 {f:Nat->Vx}{m:Nat}{k k':Int}(a:1<=m)(b:kay f m k=true)(c:k≠k'):kay f m k'=false:=qn3 (i:=0) a (by rw[qn1 b a];exact c)
section
variable {f:Nat->Vx} {m:Nat} {A:Bool} {R r1 r2 r3:Vx} {op:Int}
theorem kfx (b:kbq f m=none):∀a,a<m->¬ (f a).k=4:=by
 intro a d c;rw[kbq,Ov]at b;exact b (f a) (Y4.2 ⟨a,Yu.2 d,rfl⟩) (by simpa using c)
theorem kg7 (b:kd4 f m=false):∀a,a<m->¬ (f a).k=0:=by
 intro a d c;rw[kd4,Vp]at b;exact b a (Yu.2 d) (by simpa using c)
theorem ql6 (d:mE op=false)(c:mBk op=false)(b:(∀a,a<m->¬ (f a).k=4)->(∀a,a<m->¬ (f a).k=0)->(if A then R else kax 1)=if kay f m 1 then r1 else if kay f m 3 then r3 else if kay f m 2 then r2 else kax 1):kaC op m f A R=kbD f m r1 r3 r2:=by
 unfold kaC kbD;rw[d,c,Yl (by decide)];cases e:kbq f m with
 | some a=>rfl
 | none =>
  cases a:kd4 f m
  . exact b (kfx e) (kg7 a)
  . rfl
theorem qk2 (j:mE op=false)(i:mBk op=false)(e:kay f m 1=true->(if A then R else kax 1)=r1)(h:kay f m 3=true->(if A then R else kax 1)=r3)(g:kay f m 2=true->(if A then R else kax 1)=r2)
 (d:kay f m 1=false->kay f m 3=false->kay f m 2=false->A=false):kaC op m f A R=kbD f m r1 r3 r2:=by
 refine ql6 j i fun _ _=>?_;cases a:kay f m 1
 . cases c:kay f m 3
   . cases b:kay f m 2
     . rw[d a c b];rfl
     . exact g b
   . exact h c
 . exact e a
theorem qpg (c:1<=m)(i:mE op=false)(h:mBk op=false)(b:A=kay f m 1)(d:kay f m 1=true->R=r1)(g:r3=kax 1)(e:r2=kax 1):kaC op m f A R=kbD f m r1 r3 r2 :=
 qk2 i h (fun a=>by rw[b,a];exact d a) (fun a=>by rw[b,qn2 c a (by decide),g];rfl) (fun a=>by rw[b,qn2 c a (by decide),e];rfl) (fun a _ _=>by rw[b,a])
theorem qmh (c:1<=m)(i:mE op=false)(h:mBk op=false)(b:A=kay f m 3)(g:kay f m 3=true->R=r3)(d:r1=kax 1)(e:r2=kax 1):kaC op m f A R=kbD f m r1 r3 r2 :=
 qk2 i h (fun a=>by rw[b,qn2 c a (by decide),d];rfl) (fun a=>by rw[b,a];exact g a) (fun a=>by rw[b,qn2 c a (by decide),e];rfl) (fun _ a _=>by rw[b,a])
theorem qik (c:1<=m)(i:mE op=false)(h:mBk op=false)(b:A=kay f m 2)(e:kay f m 2=true->R=r2)(d:r1=kax 1)(g:r3=kax 1):kaC op m f A R=kbD f m r1 r3 r2 :=
 qk2 i h (fun a=>by rw[b,qn2 c a (by decide),d];rfl) (fun a=>by rw[b,qn2 c a (by decide),g];rfl) (fun a=>by rw[b,a];exact e a) (fun _ _ a=>by rw[b,a])
theorem qku (c:1<=m)(j:mE op=false)(i:mBk op=false)(b:A=(kay f m 1||kay f m 3))(e:kay f m 1=true->R=r1)(h:kay f m 3=true->R=r3)(g:r2=kax 1):kaC op m f A R=kbD f m r1 r3 r2 :=
 qk2 j i (fun a=>by rw[b,a];exact e a) (fun a=>by rw[b,a,Bool.or_true];exact h a) (fun a=>by rw[b,qn2 c a (by decide),qn2 (k':=3) c a (by decide),g];rfl) (fun a d _=>by rw[b,a,d];rfl)
theorem qi9 (j:mE op=false)(i:mBk op=false)(b:A=(kay f m 1||kay f m 2||kay f m 3))(e:kay f m 1=true->R=r1)(h:kay f m 3=true->R=r3)(g:kay f m 2=true->R=r2):kaC op m f A R=kbD f m r1 r3 r2 :=
 qk2 j i (fun a=>by rw[b,a];exact e a) (fun a=>by rw[b,a,Bool.or_true];exact h a) (fun a=>by rw[b,a,Bool.or_true,Bool.true_or];exact g a) (fun a c d=>by rw[b,a,c,d];rfl)
theorem qob {S:Vx}(d:mE op=false)(c:mBk op=true)(b:(∀a,a<m->¬ (f a).k=4)->(if A then R else kax 1)=S):kaC op m f A R=kaX f m S:=by
 unfold kaC kaX;rw[d,c,Yl (by decide)];cases a:kbq f m with
 | some e=>rfl
 | none=>exact b (kfx a)
theorem qry {S:Vx}(c:mE op=true)(b:mBk op=true)(a:(if A then R else kax 1)=S):kaC op m f A R=S:=by
 unfold kaC;rw[c,b,Yr rfl];exact a
end
theorem qhq {x y:Int}(h:-9223372036854775808<=x/\x<=9223372036854775807):kbL (x.tmod y)=kbn (x + -(y*x.tdiv y)):=by
 have c:x + -(y*x.tdiv y)=x.tmod y:=by have:=Int.tmod_add_mul_tdiv x y;omega
 rw[c];have b:(x.tmod y).natAbs<=x.natAbs:=by rw[Int.natAbs_tmod];exact Nat.mod_le _ _
 have g:0<=x->0<=x.tmod y:=fun b=>Int.tmod_nonneg y b;have e:¬ 0<=x->x.tmod y<=0:=fun b=>by
  have d:=Int.tmod_nonneg (a:=-x) y (by omega);rw[Int.neg_tmod]at d;omega
 unfold kbn kby;rw[Yr (Ye (by omega))]
theorem kdG (b a:Bool):eqX (kaj b) (kaj a)=(b==a):=by cases b <;> cases a <;> simp[eqX,kaj]
theorem kdH (b:Bool):eqX (kaj b) kak=false:=by simp[eqX,kaj,kak]
section
variable {f:Nat->Vx}
theorem qo9 (b:kcn f 2=true)(a:kay f 2 1=true):eqX (f 0) (f 1)=decide ((f 0).n=(f 1).n):=by
 obtain⟨e,c⟩:=kfS (qdq.1 b 0 (by decide)) (qn1 a (by decide));obtain⟨g,d⟩:=kfS (qdq.1 b 1 (by decide)) (qn1 a (by decide));rw[c,d];simp only[eqX,kbL,if_true];split <;> simp[*]
theorem qj3 (b:kcn f 2=true)(a:kay f 2 2=true):eqX (f 0) (f 1)=decide ((f 0).n=(f 1).n):=by
 obtain⟨e,c⟩:=kdF (qdq.1 b 0 (by decide)) (qn1 a (by decide));obtain⟨g,d⟩:=kdF (qdq.1 b 1 (by decide)) (qn1 a (by decide));rw[c,d];simp only[eqX,kaj,if_true];split <;> simp[*]
theorem qe1 {s t:Tb}:s.toList=t.toList ↔ s=t:=by
 rw[Y7,Y7];constructor
 . exact fun a=>ByteArray.ext (Array.toList_inj.1 a)
 . intro a;rw[a]
theorem qj4 (b:kcn f 2=true)(a:kay f 2 3=true):eqX (f 0) (f 1)=decide ((f 0).s=(f 1).s):=by
 obtain⟨e,c⟩:=keC (qdq.1 b 0 (by decide)) (qn1 a (by decide));obtain⟨g,d⟩:=keC (qdq.1 b 1 (by decide)) (qn1 a (by decide));rw[c,d];simp only[eqX,kbU,if_true];exact decide_eq_decide.2 qe1
theorem qiq (a:kay f 2 1=true):decide (kdt (f 0) (f 1)<0)=decide ((f 0).n<(f 1).n)/\decide (kdt (f 0) (f 1)<=0)=decide ((f 0).n<=(f 1).n):=by
 have b:¬ (f 0).k=3:=by rw[qn1 a (by decide)];decide
 rw[kdt,Yl b];unfold Lib.compareInt;constructor
 all_goals
  apply decide_eq_decide.2;split
  . omega
  . split <;> omega
theorem qe8 (a:kay f 2 3=true):decide (kdt (f 0) (f 1)<0)=tl (f 0).s.data.toList (f 1).s.data.toList/\decide (kdt (f 0) (f 1)<=0) = !tl (f 1).s.data.toList (f 0).s.data.toList:=by
 rw[kdt,Yr (qn1 a (by decide))];exact kfw _ _
end
def keD (p q r:Vx):Vx:=if p.k=2 then (if p.n=1 then q else r) else p
section
variable {f:Nat->Vx}
theorem st_2:kaC 2 1 f (kay f 1 1) (kbn (-(f 0).n))=apY 2 1 f:=qpg (by decide) rfl rfl rfl (fun _=>rfl) rfl rfl
theorem st_3:kaC 3 1 f (kay f 1 2) (kaj ((f 0).n==0))=apY 3 1 f:=qik (by decide) rfl rfl rfl (fun _=>by simp[R2,kc4];rfl) rfl rfl
theorem st_4:kaC 4 2 f (kay f 2 1) (kbn ((f 0).n*(f 1).n))=apY 4 2 f:=qpg (by decide) rfl rfl rfl (fun _=>rfl) rfl rfl
theorem st_5:kaC 5 2 f (kay f 2 1) (if (f 1).n=0 then kax 3 else kbn ((f 0).n.tdiv (f 1).n))=apY 5 2 f:=qpg (by decide) rfl rfl rfl (fun _=>rfl) rfl rfl
theorem st_6 (a:-9223372036854775808<=(f 0).n/\(f 0).n<=9223372036854775807):kaC 6 2 f (kay f 2 1) (if (f 1).n=0 then kax 3 else kbL ((f 0).n.tmod (f 1).n))=apY 6 2 f:=qpg (by decide) rfl rfl rfl (fun _=>by rw[qhq a];rfl) rfl rfl
theorem st_7:kaC 7 2 f (kay f 2 1) (kbn ((f 0).n+(f 1).n))=apY 7 2 f:=qpg (by decide) rfl rfl rfl (fun _=>rfl) rfl rfl
theorem st_8:kaC 8 2 f (kay f 2 1) (kbn ((f 0).n - (f 1).n))=apY 8 2 f:=qpg (by decide) rfl rfl rfl (fun _=>rfl) rfl rfl
theorem st_9:kaC 9 2 f (kay f 2 3) (if 1000<(f 0).s.size+(f 1).s.size then kax 4 else kbU ((f 0).s++(f 1).s))=apY 9 2 f:=qmh (by decide) rfl rfl rfl (fun _=>rfl) rfl rfl
theorem khO (b:kcn f 2=true):kaC 10 2 f (kay f 2 1||kay f 2 2||kay f 2 3) (kaj (eqX (f 0) (f 1)))=apY 10 2 f:=qi9 rfl rfl rfl (fun a=>by rw[qo9 b a];rfl) (fun a=>by rw[qj4 b a];rfl) (fun a=>by rw[qj3 b a];rfl)
theorem khP (b:kcn f 2=true):kaC 11 2 f (kay f 2 1||kay f 2 2||kay f 2 3) (kaj (!eqX (f 0) (f 1)))=apY 11 2 f:=qi9 rfl rfl rfl (fun a=>by rw[qo9 b a,<- decide_not];rfl) (fun a=>by rw[qj4 b a];rfl) (fun a=>by rw[qj3 b a];rfl)
theorem khQ:kaC 12 2 f (kay f 2 1||kay f 2 3) (kaj (decide (kdt (f 0) (f 1)<0)))=apY 12 2 f:=qku (by decide) rfl rfl rfl (fun a=>by rw[(qiq a).1];rfl) (fun a=>by rw[(qe8 a).1];rfl) rfl
theorem khR:kaC 13 2 f (kay f 2 1||kay f 2 3) (kaj (decide (kdt (f 0) (f 1)<=0)))=apY 13 2 f:=qku (by decide) rfl rfl rfl (fun a=>by rw[(qiq a).2];rfl) (fun a=>by rw[(qe8 a).2];rfl) rfl
theorem khS:kaC 17 2 f (kay f 2 1) (kbL (if (f 0).n<(f 1).n then (f 0).n else (f 1).n))=apY 17 2 f:=qpg (by decide) rfl rfl rfl (fun _=>rfl) rfl rfl
theorem khT:kaC 18 2 f (kay f 2 1) (kbL (if (f 0).n<(f 1).n then (f 1).n else (f 0).n))=apY 18 2 f:=qpg (by decide) rfl rfl rfl (fun _=>rfl) rfl rfl
theorem khU:kaC 20 2 f (kay f 2 3) (kaj (Lib.contains (f 0).s.data.toList (f 1).s.data.toList))=apY 20 2 f:=qmh (by decide) rfl rfl rfl (fun _=>by rw[q4y];rfl) rfl rfl
theorem khV:kaC 21 1 f (kay f 1 3) (kbL ((f 0).s.size:Int))=apY 21 1 f:=qmh (by decide) rfl rfl rfl (fun _=>rfl) rfl rfl
theorem khW:kaC 22 1 f (kay f 1 3) (if (rd (f 0).s.data.toList).2 then kbL (rd (f 0).s.data.toList).1 else kax 5)=apY 22 1 f:=qmh (by decide) rfl rfl rfl (fun _=>rfl) rfl rfl
theorem khX (c:kcn f 1=true):kaC 23 1 f (kay f 1 1||kay f 1 2||kay f 1 3) (kbU (kb1 (f 0).k (f 0).n (f 0).s))=apY 23 1 f:=qi9 rfl rfl rfl
 (fun a=>by
  obtain⟨d,b⟩:=kfS (qdq.1 c 0 (by decide)) (qn1 a (by decide));simp only[R1,b];rfl)
 (fun a=>by
  obtain⟨d,b⟩:=keC (qdq.1 c 0 (by decide)) (qn1 a (by decide));simp only[R3,b];rfl)
 (fun a=>by
  obtain⟨d,b⟩:=kdF (qdq.1 c 0 (by decide)) (qn1 a (by decide));simp only[R2,b];cases d <;> rfl)
theorem khY:kaC 24 1 f true (kaj ((f 0).k==0))=apY 24 1 f:=qob rfl rfl fun _=>rfl
theorem khZ:kaC 25 1 f true (kaj ((f 0).k==4))=apY 25 1 f:=qry rfl rfl rfl
theorem kh0:kaC 19 2 f true (if (f 0).k==0 then f 1 else f 0)=apY 19 2 f:=qry rfl rfl (by
 show(if (f 0).k==0 then f 1 else f 0)=kdp (f 0) (f 1);unfold kdp;simp)
theorem kh1 (c:kcn f 3=true):kaC 16 3 f ((f 0).k != 1&&(f 0).k != 3) (keD (f 0) (f 1) (f 2))=apY 16 3 f:=qry rfl rfl (by
 show _=ifX (f 0) (f 1) (f 2);rcases kbW (qdq.1 c 0 (by decide)) with a | ⟨d,a⟩ | ⟨b,a⟩ | ⟨e,a⟩ | ⟨d,a⟩
 all_goals rw[a]
 . rfl
 . rfl
 . cases b <;> rfl
 . rfl
 . rfl)
theorem khq (g:Nat->Bool):(List.range 2).any g=(g 0||g 1):=by simp[List.range_succ]
theorem kh2 (h:kcn f 2=true):kaC 14 2 f (kdg f 2) (kdY f 2 (kaj false) (kaj true))=apY 14 2 f:=qob rfl rfl fun a=>by
 show _=kd5 (f 0) (f 1);have e:=a 0 (by decide);have g:=a 1 (by decide);rw[kdY,khq,khq];show(if (true&&((f 0).k==2||(f 0).k==0))&&((f 1).k==2||(f 1).k==0) then _ else _)=_;rcases kbW (qdq.1 h 0 (by decide)) with a | ⟨i,a⟩ | ⟨c,a⟩ | ⟨l,a⟩ | ⟨i,a⟩
 all_goals rw[a]at e⊢
 all_goals rcases kbW (qdq.1 h 1 (by decide)) with b | ⟨j,b⟩ | ⟨d,b⟩ | ⟨n,b⟩ | ⟨j,b⟩
 all_goals rw[b]at g⊢
 all_goals try rw[kdG]
 all_goals try rw[kdG]
 all_goals try rw[kdH]
 all_goals try rw[kdH]
 all_goals first
  | rfl
  | (exfalso;exact e rfl)
  | (exfalso;exact g rfl)
  | (cases c <;> rfl)
  | (cases d <;> rfl)
  | (cases c <;> cases d <;> rfl)
theorem kh3 (h:kcn f 2=true):kaC 15 2 f (kdg f 2) (kdY f 2 (kaj true) (kaj false))=apY 15 2 f:=qob rfl rfl fun a=>by
 show _=orX (f 0) (f 1);have e:=a 0 (by decide);have g:=a 1 (by decide);rw[kdY,khq,khq];show(if (true&&((f 0).k==2||(f 0).k==0))&&((f 1).k==2||(f 1).k==0) then _ else _)=_;rcases kbW (qdq.1 h 0 (by decide)) with a | ⟨i,a⟩ | ⟨c,a⟩ | ⟨l,a⟩ | ⟨i,a⟩
 all_goals rw[a]at e⊢
 all_goals rcases kbW (qdq.1 h 1 (by decide)) with b | ⟨j,b⟩ | ⟨d,b⟩ | ⟨n,b⟩ | ⟨j,b⟩
 all_goals rw[b]at g⊢
 all_goals try rw[kdG]
 all_goals try rw[kdG]
 all_goals try rw[kdH]
 all_goals try rw[kdH]
 all_goals first
  | rfl
  | (exfalso;exact e rfl)
  | (exfalso;exact g rfl)
  | (cases c <;> rfl)
  | (cases d <;> rfl)
  | (cases c <;> cases d <;> rfl)
end
structure kg3 (w:Tw)(a:To)(m:Nat)(f:Nat->Vx):Prop where
 v:kaF w a m f
 s:∀i,i<m->(f i).s.size<=9223372036854775807
 r:∀i,i<m->-9223372036854775808<=(f i).n/\(f i).n<=9223372036854775807
 ok:kcn f m=true
 g:kcp w
theorem kg3.t {w:Tw}{a:To}{m:Nat}{f:Nat->Vx}(b:kg3 w a m f)(i:Nat)(hi:i<m)(d:(f i).k=3):(f i).s.size<=1000:=kcQ (qdq.1 b.ok i hi) d
theorem kg4 {W:Tw}{a:To}{m:Nat}{f:Nat->Vx}(e:kaF W a m f)(o:2<m):∃b d,a=some ⟨b,d,none⟩/\Cel W b d (f 0)/\Cel W b (d+3) (f 1)/\Cel W b (d+6) (f 2):=by
 obtain⟨b,d,rfl,i⟩:=e 0 (by omega);obtain⟨l,p,g,j⟩:=e 1 (by omega);obtain⟨n,q,h,k⟩:=e 2 (by omega);simp only[Vk,Addr.mk.injEq,and_true]at g h;obtain⟨rfl,rfl⟩:=g;obtain⟨rfl,rfl⟩:=h;exact⟨b,d,rfl,by simpa using i,by simpa using j,by simpa using k⟩
section
variable {a:To} {c:Nat} {f:Nat->Vx} {w:Tw}
theorem oE (n h i m:Nat){A:Bool}{R:Vx}(e:kg3 w a m f)(t:kaC n m f A R=apY n m f)(j:Ent h)(l:Ent i)
 (p:∀b,kaF b a m f->Gv h #[.slice a m c] b (.bool A))
 (q:(mE n=false->∀d,d<m->¬ (f d).k=4)->(mBk n=false->∀d,d<m->¬ (f d).k=0)->A=true->∀b,kaF b a m f->kcp b->Gv i #[.slice a m c] b (vv R))
 (y:m<=3:=by decide) (s:2<=n/\n<=25:=by exact⟨by decide,by decide⟩) (r:opT[n*2]? = some (.func (.func h) #[] #[])/\opT[n*2+1]? = some (.func (.func i) #[] #[]):=by exact⟨rfl,rfl⟩) :
 Gv 174 (Jn n a m c) w (vv (apY n m f)):=by
 rw[<- t];exact q92 n h i a m c f A R w (by omega) e.v s r j l (fun b d=>p b (e.v.mono d)) (fun u x o b d=>q u x o b (e.v.mono d) (e.g.mono d))
theorem d1 {k:FuncId}{P:Ending->Tw->Prop}{W:Tw}(h:kaF W a 1 f)(e:∀b d,Cel W b d (f 0)->Calls prog k #[.slice (some ⟨b,d,none⟩) 1 c] W P):Calls prog k #[.slice a 1 c] W P:=by
 obtain⟨b,d,rfl,g⟩:=kd6 h (by decide);exact e b d g
theorem d2 {k:FuncId}{P:Ending->Tw->Prop}{W:Tw}(i:kaF W a 2 f)(e:∀b d,Cel W b d (f 0)->Cel W b (d+3) (f 1)->Calls prog k #[.slice (some ⟨b,d,none⟩) 2 c] W P):Calls prog k #[.slice a 2 c] W P:=by
 obtain⟨b,d,rfl,g,h⟩:=kf7 i (by decide);exact e b d g h
end
theorem q91 (u:Int)(a:To)(m c:Nat)(f:Nat->Vx)(w:Tw)(C:2<=u/\u<=25)(B:(m:Int)=opn u)(g:kg3 w a m f) :
 Gv 174 (Jn u a m c) w (vv (apY u m f)):=by
 obtain⟨l,rfl⟩:∃l:Nat,u=l:=⟨u.toNat,by omega⟩;have o:∀(d b:Nat),l=d->opn d=b->m=b:=fun d b e b=>by subst e;omega
 by_cases e:l=2
 . obtain rfl:=o 2 1 e (by decide)
   subst e;exact oE 2 253 254 1 g st_2 (Go.Proofs.enters_of func253 (by kernel_rfl) rfl) (Go.Proofs.enters_of func254 (by kernel_rfl) rfl) (fun b d=>q73 a 1 c f b (by decide) d) fun _ _ _ b d n=>d1 d fun h j i=>q45 h j 1 c (f 0) b (by decide) (g.r 0 (by decide)) i
 by_cases e:l=3
 . obtain rfl:=o 3 1 e (by decide)
   subst e;exact oE 3 255 256 1 g st_3 (Go.Proofs.enters_of func255 (by kernel_rfl) rfl) (Go.Proofs.enters_of func256 (by kernel_rfl) rfl) (fun b d=>q4o a 1 c f b (by decide) d) fun _ _ _ b d n=>d1 d fun h j i=>q6u h j 1 c (f 0) b (by decide) i
 by_cases e:l=4
 . obtain rfl:=o 4 2 e (by decide)
   subst e;exact oE 4 253 257 2 g st_4 (Go.Proofs.enters_of func253 (by kernel_rfl) rfl) (Go.Proofs.enters_of func257 (by kernel_rfl) rfl) (fun b d=>q73 a 2 c f b (by decide) d) fun _ _ _ b d n=>d2 d fun h j i k=>q11 h j 2 c (f 0) (f 1) b (by decide) (g.r 0 (by decide)) (g.r 1 (by decide)) i k
 by_cases e:l=5
 . obtain rfl:=o 5 2 e (by decide)
   subst e;exact oE 5 253 258 2 g st_5 (Go.Proofs.enters_of func253 (by kernel_rfl) rfl) (Go.Proofs.enters_of func258 (by kernel_rfl) rfl) (fun b d=>q73 a 2 c f b (by decide) d) fun _ _ _ b d n=>d2 d fun h j i k=>q27 h j 2 c (f 0) (f 1) b (by decide) (g.r 0 (by decide)) (g.r 1 (by decide)) i k
 by_cases e:l=6
 . obtain rfl:=o 6 2 e (by decide)
   subst e;exact oE 6 253 259 2 g (st_6 (g.r 0 (by decide))) (Go.Proofs.enters_of func253 (by kernel_rfl) rfl) (Go.Proofs.enters_of func259 (by kernel_rfl) rfl) (fun b d=>q73 a 2 c f b (by decide) d) fun _ _ _ b d n=>d2 d fun h j i k=>q05 h j 2 c (f 0) (f 1) b (by decide) (g.r 0 (by decide)) (g.r 1 (by decide)) i k
 by_cases e:l=7
 . obtain rfl:=o 7 2 e (by decide)
   subst e;exact oE 7 253 260 2 g st_7 (Go.Proofs.enters_of func253 (by kernel_rfl) rfl) (Go.Proofs.enters_of func260 (by kernel_rfl) rfl) (fun b d=>q73 a 2 c f b (by decide) d) fun _ _ _ b d n=>d2 d fun h j i k=>q70 h j 2 c (f 0) (f 1) b (by decide) (g.r 0 (by decide)) (g.r 1 (by decide)) i k
 by_cases e:l=8
 . obtain rfl:=o 8 2 e (by decide)
   subst e;exact oE 8 253 261 2 g st_8 (Go.Proofs.enters_of func253 (by kernel_rfl) rfl) (Go.Proofs.enters_of func261 (by kernel_rfl) rfl) (fun b d=>q73 a 2 c f b (by decide) d) fun _ _ _ b d n=>d2 d fun h j i k=>q13 h j 2 c (f 0) (f 1) b (by decide) (g.r 0 (by decide)) (g.r 1 (by decide)) i k
 by_cases e:l=9
 . obtain rfl:=o 9 2 e (by decide)
   subst e;exact oE 9 262 263 2 g st_9 (Go.Proofs.enters_of func262 (by kernel_rfl) rfl) (Go.Proofs.enters_of func263 (by kernel_rfl) rfl) (fun b d=>q4q a 2 c f b (by decide) d) fun _ _ v b d n=>d2 d fun h j i k=>q3g h j 2 c (f 0) (f 1) b (by decide) ⟨(g.t 0 (by decide) (qn1 v (by decide))),(g.t 1 (by decide) (qn1 v (by decide)))⟩ i k
 by_cases e:l=10
 . obtain rfl:=o 10 2 e (by decide)
   subst e;exact oE 10 264 265 2 g (khO g.ok) (Go.Proofs.enters_of func264 (by kernel_rfl) rfl) (Go.Proofs.enters_of func265 (by kernel_rfl) rfl) (fun b d=>q4n a 2 c f b (by decide) d) fun _ _ _ b d n=>d2 d fun h j i k=>q4p h j 2 c (f 0) (f 1) b (by decide) i k
 by_cases e:l=11
 . obtain rfl:=o 11 2 e (by decide)
   subst e;exact oE 11 264 266 2 g (khP g.ok) (Go.Proofs.enters_of func264 (by kernel_rfl) rfl) (Go.Proofs.enters_of func266 (by kernel_rfl) rfl) (fun b d=>q4n a 2 c f b (by decide) d) fun _ _ _ b d n=>d2 d fun h j i k=>q0s h j 2 c (f 0) (f 1) b (by decide) i k
 by_cases e:l=12
 . obtain rfl:=o 12 2 e (by decide)
   subst e;exact oE 12 267 268 2 g khQ (Go.Proofs.enters_of func267 (by kernel_rfl) rfl) (Go.Proofs.enters_of func268 (by kernel_rfl) rfl) (fun b d=>q0c a 2 c f b (by decide) d) fun _ _ _ b d n=>d2 d fun h j i k=>qb5 h j 2 c (f 0) (f 1) b (by decide) i k
 by_cases e:l=13
 . obtain rfl:=o 13 2 e (by decide)
   subst e;exact oE 13 267 269 2 g khR (Go.Proofs.enters_of func267 (by kernel_rfl) rfl) (Go.Proofs.enters_of func269 (by kernel_rfl) rfl) (fun b d=>q0c a 2 c f b (by decide) d) fun _ _ _ b d n=>d2 d fun h j i k=>q0l h j 2 c (f 0) (f 1) b (by decide) i k
 by_cases e:l=14
 . obtain rfl:=o 14 2 e (by decide)
   subst e;exact oE 14 270 271 2 g (kh2 g.ok) (Go.Proofs.enters_of func270 (by kernel_rfl) rfl) (Go.Proofs.enters_of func271 (by kernel_rfl) rfl) (fun b d=>q01 a 2 c f b (by decide) d) fun _ _ _ b d n=>q17 a 2 c f b (by decide) d
 by_cases e:l=15
 . obtain rfl:=o 15 2 e (by decide)
   subst e;exact oE 15 270 272 2 g (kh3 g.ok) (Go.Proofs.enters_of func270 (by kernel_rfl) rfl) (Go.Proofs.enters_of func272 (by kernel_rfl) rfl) (fun b d=>q01 a 2 c f b (by decide) d) fun _ _ _ b d n=>q3f a 2 c f b (by decide) d
 by_cases e:l=16
 . obtain rfl:=o 16 3 e (by decide)
   subst e;exact oE 16 273 274 3 g (kh1 g.ok) (Go.Proofs.enters_of func273 (by kernel_rfl) rfl) (Go.Proofs.enters_of func274 (by kernel_rfl) rfl) (fun b d=>by
    obtain⟨h,j,rfl,i,-⟩:=kg4 d (by decide);exact(q04 h j 3 c (f 0) b (by decide) i).mono fun _ _ ⟨p,q⟩=>⟨p,by rw[q];exact bR _ _⟩) fun _ _ _ b d n=>by
    obtain⟨h,j,rfl,i,k,z⟩:=kg4 d (by decide);by_cases y:(f 0).k=2
    . obtain⟨A,x⟩:=kdF (qdq.1 g.ok 0 (by decide)) y
      cases A
      . rw[show keD (f 0) (f 1) (f 2)=f 2 by rw[x];rfl]
        exact q12 h j 3 c (f 0) (f 2) b (by decide) x i z
      . rw[show keD (f 0) (f 1) (f 2)=f 1 by rw[x];rfl]
        exact q1u h j 3 c (f 0) (f 1) b (by decide) x i k
    . rw[show keD (f 0) (f 1) (f 2)=f 0 by rw[keD,Yl y]]
      exact q1t h j 3 c (f 0) b (by decide) y i
 by_cases e:l=17
 . obtain rfl:=o 17 2 e (by decide)
   subst e;exact oE 17 253 275 2 g khS (Go.Proofs.enters_of func253 (by kernel_rfl) rfl) (Go.Proofs.enters_of func275 (by kernel_rfl) rfl) (fun b d=>q73 a 2 c f b (by decide) d) fun _ _ _ b d n=>d2 d fun h j i k=>q2z h j 2 c (f 0) (f 1) b (by decide) i k
 by_cases e:l=18
 . obtain rfl:=o 18 2 e (by decide)
   subst e;exact oE 18 253 276 2 g khT (Go.Proofs.enters_of func253 (by kernel_rfl) rfl) (Go.Proofs.enters_of func276 (by kernel_rfl) rfl) (fun b d=>q73 a 2 c f b (by decide) d) fun _ _ _ b d n=>d2 d fun h j i k=>q3w h j 2 c (f 0) (f 1) b (by decide) i k
 by_cases e:l=19
 . obtain rfl:=o 19 2 e (by decide)
   subst e;exact oE 19 277 278 2 g kh0 (Go.Proofs.enters_of func277 (by kernel_rfl) rfl) (Go.Proofs.enters_of func278 (by kernel_rfl) rfl) (fun b d=>(q16 a 2 c b).mono fun _ _ ⟨p,q⟩=>⟨p,by rw[q];exact bR _ _⟩) fun _ _ _ b d n=>d2 d fun h j i k=>q02 h j 2 c (f 0) (f 1) b (by decide) i k
 by_cases e:l=20
 . obtain rfl:=o 20 2 e (by decide)
   subst e;exact oE 20 262 279 2 g khU (Go.Proofs.enters_of func262 (by kernel_rfl) rfl) (Go.Proofs.enters_of func279 (by kernel_rfl) rfl) (fun b d=>q4q a 2 c f b (by decide) d) fun _ _ v b d n=>d2 d fun h j i k=>q59 h j 2 c (f 0) (f 1) b (by decide) (g.t 0 (by decide) (qn1 v (by decide))) n.mx i k
 by_cases e:l=21
 . obtain rfl:=o 21 1 e (by decide)
   subst e;exact oE 21 262 280 1 g khV (Go.Proofs.enters_of func262 (by kernel_rfl) rfl) (Go.Proofs.enters_of func280 (by kernel_rfl) rfl) (fun b d=>q4q a 1 c f b (by decide) d) fun _ _ _ b d n=>d1 d fun h j i=>q24 h j 1 c (f 0) b (by decide) (g.s 0 (by decide)) i
 by_cases e:l=22
 . obtain rfl:=o 22 1 e (by decide)
   subst e;exact oE 22 262 281 1 g khW (Go.Proofs.enters_of func262 (by kernel_rfl) rfl) (Go.Proofs.enters_of func281 (by kernel_rfl) rfl) (fun b d=>q4q a 1 c f b (by decide) d) fun _ _ v b d n=>d1 d fun h j i=>q9c h j 1 c (f 0) b (by decide) (g.t 0 (by decide) (qn1 v (by decide))) n i
 by_cases e:l=23
 . obtain rfl:=o 23 1 e (by decide)
   subst e;exact oE 23 264 282 1 g (khX g.ok) (Go.Proofs.enters_of func264 (by kernel_rfl) rfl) (Go.Proofs.enters_of func282 (by kernel_rfl) rfl) (fun b d=>q4n a 1 c f b (by decide) d) fun _ _ _ b d n=>d1 d fun h j i=>q4k h j 1 c (f 0) b (by decide) (g.r 0 (by decide)) n i
 by_cases e:l=24
 . obtain rfl:=o 24 1 e (by decide)
   subst e;exact oE 24 277 283 1 g khY (Go.Proofs.enters_of func277 (by kernel_rfl) rfl) (Go.Proofs.enters_of func283 (by kernel_rfl) rfl) (fun b d=>(q16 a 1 c b).mono fun _ _ ⟨p,q⟩=>⟨p,by rw[q];exact bR _ _⟩) fun _ _ _ b d n=>d1 d fun h j i=>q7w h j 1 c (f 0) b (by decide) i
 obtain rfl:l=25:=by omega
 obtain rfl:=o 25 1 rfl (by decide);exact oE 25 277 284 1 g khZ (Go.Proofs.enters_of func277 (by kernel_rfl) rfl) (Go.Proofs.enters_of func284 (by kernel_rfl) rfl) (fun b d=>(q16 a 1 c b).mono fun _ _ ⟨p,q⟩=>⟨p,by rw[q];exact bR _ _⟩) fun _ _ _ b d n=>d1 d fun h j i=>q7y h j 1 c (f 0) b (by decide) i
def kcj (f:Fl)(v:Vx):Bool:=kah v.k v.n v.s&&(decide (v.k=0)||decide (v.k=f.ty))
theorem qbm (f:Fl)(A:FA)(v:Vx)(w:Tw)(y:v.s.size<=9223372036854775807) :
 Gv 52 #[fV f A,.agg (Jc v.k v.n v.s)] w (.bool (kcj f v)):=by
 unfold fV;obtain⟨g,a⟩:=oB ((Blk.new w 92 (Ja f A.b A.bc A.i A.ic A.h A.hc A.v A.vc A.u A.uc)).alloc (.cells (Jc v.k v.n v.s) 55)) (Blk.new (w.alloc (.cells (Ja f A.b A.bc A.i A.ic A.h A.hc A.v A.vc A.u A.uc) 92)) 55 (Jc v.k v.n v.s));rw[Yp]at a;have c:=h_ (((bR w.heap.size w).alloc (nR _) (.cells (Ja f A.b A.bc A.i A.ic A.h A.hc A.v A.vc A.u A.uc) 92)).alloc (by simp) (.cells (Jc v.k v.n v.s) 55));obtain⟨q,x⟩:=Nq ((w.alloc (.cells (Ja f A.b A.bc A.i A.ic A.h A.hc A.v A.vc A.u A.uc) 92)).alloc (.cells (Jc v.k v.n v.s) 55));rw[x]at g a c;have p:=h_ (q30 v.k v.n v.s q y);have o:=a.cell 0;have B:=a.cell 1;have C:=a.cell 2;simp only[Yf,Yz]at o B C;go_enter func52,ntmps52;go_wp2_with fail;refine cQ p fun D m=>?_;replace g:=mB g m;replace a:=mB a m;replace c:=mT c m;have o:=a.cell 0;have z:=g.cell 1;simp only[Yf,Yz]at o z;cases l:kah v.k v.n v.s
 . have d:Hi (kcj f v=false):=h_ (by unfold kcj;rw[l];rfl)
   go_wp2_with fail;go_ret;rw[d.u];exact⟨rfl,c⟩
 by_cases e:v.k=0
 . have d:Hi (kcj f v=true):=h_ (by unfold kcj;rw[l,Ye e];rfl)
   have r:(v.k==0)=true:=by simp[e]
   go_wp2_with fail;go_ret;rw[d.u];exact⟨rfl,c⟩
 have r:(v.k==0)=false:=by simpa using e
 by_cases j:v.k=f.ty
 . have d:Hi (kcj f v=true):=h_ (by unfold kcj;rw[l,Yd e,Ye j];rfl)
   have t:(v.k==f.ty)=true:=by simp[j]
   go_wp2_with fail;go_ret;rw[d.u];exact⟨rfl,c⟩
 . have d:Hi (kcj f v=false):=h_ (by unfold kcj;rw[l,Yd e,Yd j];rfl)
   have t:(v.k==f.ty)=false:=by simpa using j
   go_wp2_with fail;go_ret;rw[d.u];exact⟨rfl,c⟩
