import Derived.Test.YtdlnflnfbcaiiaaGreatDoorRows
import Derived.WalkKit
import Derived.ProofKit
import Derived.BigQuiet
set_option linter.all false
namespace Go.Proofs.YtdlnflnfbcaiiaaGreatDoor
open Value renaming slice->Sl,string->St,bool->Bo
open Obj renaming cells->Cl
open Ending renaming returned->Rt
open Option renaming none->Nn,some->Sm
open Go Go.RowKit Go.Proofs.Tryz
abbrev Aq (b o:Nat):Addr:=.mk b o .none
abbrev zq (w:World):Nat:=w.1.size
abbrev zw (w:World)(o:Nat):Addr:=.mk w.1.size o .none
abbrev zQ (w:World)(k o:Nat):Addr:=.mk (w.1.size+k) o .none
def Fq {a p:Prop}(x:a)(h:a->p:=by intro;omega):p:=h x
variable {p:Prop}
def fP(h:p:=by omega):p:=h
def fQ(h:p:=by (first|simp only[Yi,Yj]|skip);rfl):p:=h
def fR(h:p:=by kernel_rfl):p:=h
def fS(h:p:=by decide):p:=h
def fT(h:p:=by simp):p:=h
def fU(h:p:=by go_num):p:=h
def fX(h:p:=by simp;omega):p:=h
def fY(h:p:=by rfl):p:=h
def fZ(h:p:=by simp[Value.oneCell']):p:=h
def f9(h:p:=by have:=C.u;omega):p:=h
def ga(h:p:=by unfold maxLen;omega):p:=h
def gb(h:p:=by have:=O.u;omega):p:=h
def gd(h:p:=by simp[execOp,go_sem]):p:=h
def ge(h:p:=by simp[results,results124,go_sem, *];try omega):p:=h
def gg(h:p:=by assumption):p:=h
def gh(h:p:=by have:=Z.u;omega):p:=h
def gi(h:p:=by have:=Z.size;simp;omega):p:=h
def gk(h:p:=by have h:=qcd W 101;rw[C.u]at h|-;exact h):p:=h
def gm(h:p:=by have:=l.size;omega):p:=h
def gn(h:p:=by simp <;> omega):p:=h
def go(h:p:=by simp[execOp,go_sem,<- hY]):p:=h
def gp(h:p:=by rw[<- Zp];omega):p:=h
def gq(h:p:=by simp[results,results54,go_sem,hQ.cell,v.cell];rfl):p:=h
def gr(h:p:=by simp[results,results8,go_sem,I7, *]):p:=h
def gs(h:p:=by simpa using D):p:=h
def gt(h:p:=by simpa using a):p:=h
def gu(h:p:=by have:=Z.size;omega):p:=h
def gv(h:p:=by simpa using h):p:=h
def gw(h:p:=by simp[results,results85,go_sem, *];try omega):p:=h
def gy(h:p:=by have:=V.u;rw[<- H.u]at this;exact oK this):p:=h
def gz(h:p:=by rw[<- g.u]):p:=h
def gA(h:p:=by simp[L1,Value.oneCell']):p:=h
def gB(h:p:=by simpa [Value.ownBlock] using e):p:=h
def gC(h:p:=by cases h):p:=h
def gD(h:p:=by simp[results,results163,go_sem,I7, *]):p:=h
def gE(h:p:=by simp[results,vv,results260,go_sem, *]):p:=h
def gF(h:p:=by simp[results,results5,go_sem,N,Q,U,V]):p:=h
def gG(h:p:=by rw[h];decide):p:=h
def gH(h:p:=by rw[<- t.u,YR X.u,p.u];rfl):p:=h
def gI(h:p:=by rw[m];rfl):p:=h
def gJ(h:p:=by simp[results,results216,go_sem, *]):p:=h
def gK(h:p:=by simp[m]):p:=h
def gL(h:p:=by simp[results,results50,go_sem,j,k]):p:=h
def gM(h:p:=by have:=l.size;simp;omega):p:=h
def gN(h:p:=by have:=b.size;omega):p:=h
def gO(h:p:=by rw[<- i,EK,Yz h,W];rfl):p:=h
def gP(h:p:=by show f.size+1<=_;omega):p:=h
def gQ(h:p:=by simp[XC,t]):p:=h
def gR(h:p:=by simp[Z1,R.u]):p:=h
def gS(h:p:=by simpa using c):p:=h
def gT(h:p:=by rw[<- x.u];simp[Q5,qH,T.u]):p:=h
def gU(h:p:=by rw[<- x.u];simp[YC]):p:=h
def gV(h:p:=by rw[HT.u];simpa [ui] using u):p:=h
def gW(h:p:=by have:=H.u;omega):p:=h
def gX(h:p:=by rw[Yy];rfl):p:=h
def gY(h:p:=by simp[D]):p:=h
def gZ(h:p:=by simp[e]):p:=h
def hh(h:p:=by show w.1.size<=X;omega):p:=h
def hE(h:p:=by simp[tb] <;> omega):p:=h
def hH(h:p:=by have:=a.size;omega):p:=h
def hP(h:p:=by simpa using d):p:=h
def hU(h:p:=by rw[K];rfl):p:=h
abbrev To:=Option Addr
abbrev Tl:=List Value
abbrev Ta:=Array Value
abbrev Tb:=ByteArray
abbrev Tw:=World
abbrev Bw (w v:Tw):Prop:=Below w.1.size w v
abbrev Gv (f:FuncId)(a:Ta)(w:Tw)(v:Value):Prop:=Calls prog f a w λe x=>e=Rt v/\Bw w x
abbrev Jc(x0:Int)(x1:Int)(x2:Tb):Ta:=#[.int .i64 x0,.int .i64 x1,St x2]
abbrev Jd:Ta:=#[.int .i64 0,.int .i64 0,St ⟨#[]⟩]
abbrev Je:Ta:=#[.int .i64 0,Sl Nn 0 0,Sl Nn 0 0,Sl Nn 0 0,.int .i64 0,.int .i64 0]
abbrev Jf(x0:Int)(x1:To)(x2:Nat)(x3:Nat)(x4:To)(x5:Nat)(x6:To)(x7:Nat)(x8:Int)(x9:Int):Ta:=#[.int .i64 x0,Sl x1 x2 x3,Sl x4 x2 x5,Sl x6 x2 x7,.int .i64 x8,.int .i64 x9]
abbrev Jh:Ta:=#[St ⟨#[]⟩,.int .i64 0,.int .i64 0,Sl Nn 0 0,Sl Nn 0 0,Sl Nn 0 0,Sl Nn 0 0,St ⟨#[]⟩,Sl Nn 0 0]
abbrev Ji:Ta:=#[Sl Nn 0 0,Sl Nn 0 0,Sl Nn 0 0,Sl Nn 0 0]
abbrev Jl:Tl:=[.int .i64 0,.int .i64 0,St ⟨#[]⟩]
abbrev Jn(x0:Int)(x1:To)(x2:Nat)(x3:Nat):Ta:=#[.int .i64 x0,Sl x1 x2 x3]
abbrev Jo(x0:To)(x1:Nat)(x2:Nat)(x3:To)(x4:Nat)(x5:Nat)(x6:To)(x7:Nat)(x8:Nat)(x9:To)(x10:Nat)(x11:Nat):Ta:=#[Sl x0 x1 x2,Sl x3 x4 x5,Sl x6 x7 x8,Sl x9 x10 x11]
abbrev Jp:Ta:=#[.int .i64 0,.int .i64 0,.int .i64 0,St ⟨#[]⟩,Bo false,.int .i64 0,St ⟨#[]⟩]
abbrev Jr(x0:To)(x1:Nat)(x2:Nat)(x3:To)(x4:Nat)(x5:Nat)(x6:To)(x7:Nat)(x8:Nat):Ta:=#[Sl x0 x1 x2,Sl x3 x4 x5,Sl x6 x7 x8]
abbrev Js(x0:Int)(x1:Int):Ta:=#[.int .i64 x0,.int .i64 x1]
abbrev Ju(x0:Int)(x1:To)(x2:Nat)(x3:Nat)(x4:To)(x5:Nat)(x6:To)(x7:Nat)(x8:Int)(x9:Int):Tl:=[.int .i64 x0,Sl x1 x2 x3,Sl x4 x2 x5,Sl x6 x2 x7,.int .i64 x8,.int .i64 x9]
abbrev Jv:Ta:=#[Sl Nn 0 0,Sl Nn 0 0,Sl Nn 0 0,Sl Nn 0 0,.map Nn,.int .i64 0,Sl Nn 0 0,Sl Nn 0 0,Sl Nn 0 0,.int .i64 0,.int .i64 0,Sl Nn 0 0]
abbrev Jw(x0:Int)(x1:Int)(x2:Int)(x3:Tb)(x4:Bool)(x5:Int):Ta:=#[.int .i64 x0,.int .i64 x1,.int .i64 x2,St x3,Bo x4,.int .i64 x5,St ⟨#[]⟩]
abbrev Jy(x0:Int)(x1:Int)(x2:Int)(x3:Tb)(x4:Tb):Ta:=#[.int .i64 x0,.int .i64 x1,.int .i64 x2,St x3,St x4]
abbrev Jz:Ta:=#[Sl Nn 0 0,Sl Nn 0 0,Sl Nn 0 0]
abbrev J0:Ta:=#[St ⟨#[]⟩,.int .i64 0,.int .i64 0]
abbrev J1(x0:Tb)(x1:Tb):Ta:=#[St ⟨#[114,111,108,101]⟩,St x0,St ⟨#[97,116]⟩,St x1]
abbrev J2:Tl:=[Sl Nn 0 0,Sl Nn 0 0,Sl Nn 0 0,Sl Nn 0 0]
abbrev J3:Ta:=#[.int .i64 0,.int .i64 0]
abbrev J4:Ta:=#[Bo false,Sl Nn 0 0]
abbrev J5(x0:Tb)(x1:Tb):Ta:=#[St ⟨#[102,105,101,108,100]⟩,St x0,St x1,St ⟨#[97,116]⟩,St ⟨#[97,117,116,111]⟩]
abbrev J6(x0:Tb)(x1:Int):Ta:=#[St x0,.int .i64 x1,.int .i64 (-1),Sl Nn 0 0,Sl Nn 0 0,Sl Nn 0 0,Sl Nn 0 0,St ⟨#[]⟩,Sl Nn 0 0]
abbrev J7:Ta:=#[Sl Nn 0 0,Sl Nn 0 0,Sl Nn 0 0,Sl Nn 0 0,.map Nn]
abbrev J8:Ta:=#[.int .i64 0,Sl Nn 0 0]
abbrev J9(x0:Tb)(x1:Tb):Ta:=#[St ⟨#[98,101,108,111,119]⟩,St x0,St x1]
abbrev Ya(x0:Int)(x1:Int)(x2:Tb):Tl:=[.int .i64 x0,.int .i64 x1,St x2]
abbrev Yb(x0:Int):Ta:=#[.int .i64 1,.int .i64 x0,St ⟨#[]⟩]
abbrev Yc(x0:Tb)(x1:Int)(x2:Int):Ta:=#[St x0,.int .i64 x1,.int .i64 x2]
abbrev Yd(x0:Int):Ta:=#[.int .u32 x0]
abbrev Ye(x:Int):Value:=.int .i64 x
abbrev Yf:Value:=Sl Nn 0 0
abbrev Yg:Value:=St ⟨#[]⟩
abbrev Yh(b o:Nat):Value:=.pointer (Sm (Aq b o))
def C8 (w:Tw)(a:To)(n:Nat)(f:Nat->Bool):Prop :=
 ∀k,k<n->∃b off,a=Sm (Aq b off)/\b<w.1.size/\w.cell? (Aq b (off+k))=Sm (Bo (f k))
def G5 (w:Tw)(a:To)(n:Nat)(f:Nat->Int):Prop :=
 ∀k,k<n->∃b off,a=Sm (Aq b off)/\b<w.1.size/\w.cell? (Aq b (off+k))=Sm (.int .i64 (f k))
def C8.mono {w w' a n f}(h:C8 w a n f)(c:Bw w w'):C8 w' a n f:=λk d=>by obtain⟨b,x,rfl,e,N⟩:=h k d;exact⟨b,x,rfl,Nat.lt_of_lt_of_le e c.size,(c.cell (p:=(Aq b (x+k))) e).trans N⟩
def G5.mono {w w' a n f}(h:G5 w a n f)(c:Bw w w'):G5 w' a n f:=λk d=>by obtain⟨b,x,rfl,e,N⟩:=h k d;exact⟨b,x,rfl,Nat.lt_of_lt_of_le e c.size,(c.cell (p:=(Aq b (x+k))) e).trans N⟩
def m0 (w:Tw)(g:Nat)(t:TypeId)(cs:Tl):Prop:=w.heap[g]? = Sm (Cl cs.toArray t (0,0))
def m0.lt {w g t cs}(h:m0 w g t cs):g<w.1.size:=(Array.getElem?_eq_some_iff.1 h).1
def m0.cell {w g t cs}(h:m0 w g t cs)(j):w.cell? (Aq g j)=cs[j]?:=by simp only[World.cell?,show w.heap[g]? = _ from h];simp
def m0.free {w g t cs}(h:m0 w g t cs)(j):w.frozen? (Aq g j)=false:=by simp only[World.frozen?,show w.heap[g]? = _ from h];simp
def m0.mono {w w' B g t cs}(h:m0 w g t cs)(c:Below B w w')(H:g<B):m0 w' g t cs:=(c.block g H).trans h
def m0.set {w g t cs}(h:m0 w g t cs)(j v):m0 (w.setCell (Aq g j) v) g t (cs.set j v):=by have:=heap_setCell_same w g j cs.toArray t v h;simpa [m0] using this
def m0.other {w g t cs}(h:m0 w g t cs){a}(v)(K:g≠a.block):m0 (w.setCell a v) g t cs:=(heap_setCell_other w a g v K).trans h
def m0.alloc {w g t cs}(h:m0 w g t cs)(o):m0 (w.alloc o) g t cs:=h.mono ((Below.refl w.1.size w).alloc (Nat.le_refl _) o) h.lt
def m0.grown {w w' g t cs row}(h:m0 w g t cs)(H:w.grownBy w' row)(Q:Sm g≠row):m0 w' g t cs:=(H.block g h.lt Q).trans h
def m0.new (w:Tw)(t cs):m0 (w.alloc (Cl cs t)) w.1.size t cs.toList:=by simpa [m0] using heap_alloc_new w (Cl cs t)
def m0.of_owns {w base e g n x}(h:w.ownsRow base e 1 (Sl (Sm (Aq g 0)) n n) n x):m0 w g e x:=by rcases h.2 with ⟨W,_⟩|⟨N,X,b,W,_,H,_,_,B,a⟩;{simp at W};simp only[Value.slice.injEq,Option.some.injEq,Addr.mk.injEq,and_true,true_and]at W;obtain⟨rfl,rfl⟩:=W;rw[List.take_of_length_le (by simp;omega)]at a;rw[<- a];simpa [m0] using H
def BC (w d D C b):Bw w ((((w.alloc d).alloc D).alloc C).alloc b):=((((Below.refl _ w).alloc (Nat.le_refl _) d).alloc (by simp) D).alloc (by simp;omega) C).alloc (by simp;omega) b
def m0.cell4 {w g t cs}(h:m0 w g t cs)(j d D C b):((((w.alloc d).alloc D).alloc C).alloc b).cell? (Aq g j)=cs[j]?:=(h.mono (BC w d D C b) h.lt).cell j
def m0.free4 {w g t cs}(h:m0 w g t cs)(j d D C b):((((w.alloc d).alloc D).alloc C).alloc b).frozen? (Aq g j)=false:=(h.mono (BC w d D C b) h.lt).free j
def L2 {a b}(h:a=b):Ending.returned (Bo a)=Rt (Bo b):=by rw[h]
def vM {k a b}(h:a=b):Ending.returned (.int k a)=Rt (.int k b):=by rw[h]
def Hi (p:Prop):Prop:=p
def Hi.u {p}(h:Hi p) :p:=h
def Hi.out {p}(h:Hi p) :p:=h
def Nq {H:Type}(x:H) :∃y,x=y:=⟨x,rfl⟩
def h_ {p}(h:p):Hi p:=h
def oB {b n}(J:b)(u:n):Hi b/\Hi n:=⟨h_ J,h_ u⟩
def oC {b n S}(J:b)(u:n)(x:S):Hi b/\Hi n/\Hi S:=⟨h_ J,h_ u,h_ x⟩
def oD {b n S s}(J:b)(u:n)(x:S)(C:s):Hi b/\Hi n/\Hi S/\Hi s:=⟨h_ J,h_ u,h_ x,h_ C⟩
def oG {b n S s a}(J:b)(u:n)(x:S)(C:s)(D:a):Hi b/\Hi n/\Hi S/\Hi s/\Hi a:=⟨h_ J,h_ u,h_ x,h_ C,h_ D⟩
def oF {b n S s a H}(J:b)(u:n)(x:S)(C:s)(D:a)(O:H):Hi b/\Hi n/\Hi S/\Hi s/\Hi a/\Hi H:=⟨h_ J,h_ u,h_ x,h_ C,h_ D,h_ O⟩
def bQ {P b R a w v}(h:R (Rt v) w)(Q:(results b a.tmps).run P w=.ok v w:=by simp[results,go_sem, *])(q:a.defers=[]:=by rfl):bodyPost P b R .ret a w:=bodyPost_ret Q q h
def nV (w t c):∃W,w.alloc (Cl c t)=W/\m0 W w.1.size t c.toList/\Below w.1.size w W:=⟨_,rfl,m0.new w t c,(Below.refl _ _).alloc (Nat.le_refl _) _⟩
def nw (w t c):∃W,w.alloc (Cl c t)=W/\Hi (m0 W w.1.size t c.toList)/\Hi (Below w.1.size w W):=⟨_,rfl,h_ (m0.new w t c),h_ ((Below.refl _ _).alloc (Nat.le_refl _) _)⟩
def cQ {P f a w v}{S:Tw->Prop}{Q}(h:Calls P f a w λe x=>e=Rt v/\S x)(g:∀x,S x->Q (Rt v) x):Calls P f a w Q:=h.mono (by rintro e x ⟨rfl,h⟩;exact g x h)
def rj {p q:Prop}(a:q)(k:Hi q->p:=by intro k;go_wp2;go_ret;exact k.u):p:=k (h_ a)
def cZ {P f a w v}{S:Tw->Prop}{Q:Ending->Tw->Prop}{G:Prop}(h:Calls P f a w λe x=>e=Rt v/\S x)(g:∀x,S x->Q (Rt v) x)(t:Hi (Calls P f a w λe x=>e=Rt v/\S x)->Hi (∀x,S x->Q (Rt v) x)->G:=by intro h g;go_wp2_with fail;exact cQ h.u g.u):G:=t (h_ h) (h_ g)
def nB {w W o}(h:w.alloc o=W):Below w.1.size w W:=by rw[<- h];exact(Below.refl _ _).alloc (Nat.le_refl _) _
def nK {w W:Tw}{t c}(h:w.alloc (Cl c t)=W):m0 W w.1.size t c.toList:=by rw[<- h];exact m0.new w t c
def nJ {w W:Tw}{t c n}(e:w.1.size=n)(h:w.alloc (Cl c t)=W):m0 W n t c.toList:=by rw[<- e];exact nK h
def rQ {G A:Prop}(h:A)(t:A->G:=by intro h;go_wp2;go_roundw;(case rel=>exact h);(case measure=>simp[intOf];omega)):G:=t h
def u_ {p}(h:Hi p):p:=h
def J_ (w:Tw)(m n):(w.drewN m).drewN n=w.drewN (m+n):=by simp
def lG (w n):Bw w (w.drewN n):=⟨rfl,rfl,rfl,Nat.le_refl _,λ_ _=>rfl⟩
theorem RE {x}(D:-9223372036854775808<=x)(h1:x<=9223372036854775807):wrap64 x=x:=by unfold wrap64;omega
def S5 (w t cs):∃k,w.alloc (Cl cs t)=k/\Hi (m0 k w.1.size t cs.toList)/\Hi (Bw w k):=⟨_,rfl,h_ (m0.new w t cs),h_ ((Below.refl w.1.size w).alloc (Nat.le_refl _) (Cl cs t))⟩
def zS (w t cs):∃k X,w.alloc (Cl cs t)=k/\w.1.size=X/\Bw w k/\m0 k X t cs.toList:=⟨_,_,rfl,rfl,(Below.refl w.1.size w).alloc (Nat.le_refl _) (Cl cs t),m0.new w t cs⟩
def sX {H:Type}(s:List H)(i x):s.toArray.setIfInBounds i x=(s.set i x).toArray:=List.setIfInBounds_toArray s i x
def sY {H:Type}{x:H}{s a}:(x :: s).set 0 a=a :: s:=List.set_cons_zero
def sZ {H:Type}{x:H}{s n a}:(x :: s).set (n+1) a=x :: s.set n a:=List.set_cons_succ
def mB {w w' g t cs}(h:Hi (m0 w g t cs))(c:Bw w w'):Hi (m0 w' g t cs):=h_ (h.u.mono c h.u.lt)
def mT {a w w'}(h:Hi (Bw a w))(c:Bw w w'):Hi (Bw a w'):=h_ (h.u.trans (c.mono h.u.size))
def nR (n:Nat):n<=n:=Nat.le_refl n
def nZ (n):0<=n:=Nat.zero_le n
def nL (n):¬ n<0:=Nat.not_lt_zero n
def bR (b w):Below b w w:=Below.refl b w
def Bq {w:World}{o:Obj}:Below w.1.size w (w.alloc o):=(bR _ _).alloc (nR _) _
abbrev Yi:=@List.set_cons_zero
abbrev Yj:=@List.set_cons_succ
abbrev Yk:=@beq_eq_false_iff_ne
abbrev Yl:=@decide_eq_false
abbrev Ym:=@List.getElem?_cons_zero
abbrev Yn:=@List.length_append
abbrev Yo:=@decide_eq_true
abbrev Yp:=@List.getElem?_eq_getElem
abbrev Yq:=@List.getElem_mem
abbrev Yr:=@List.getD_eq_getElem?_getD
abbrev Ys:=@if_neg
abbrev Yt:=@Array.getElem?_eq_some_iff
abbrev Yu:=@Nat.le_trans
abbrev Yv:=@List.getElem?_cons_succ
abbrev Yw:=@Nat.lt_of_lt_of_le
abbrev Yx:=@Bool.and_eq_true
abbrev Yy:=@ByteArray.size_append
abbrev Yz:=@if_pos
abbrev Y2:=@List.take_succ_eq_append_getElem
abbrev Y3:=@decide_eq_true_eq
abbrev Y4:=@World.size_alloc
abbrev Y5:=@List.length_cons
abbrev Y6:=@List.mem_range
abbrev Y7:=@List.mem_singleton
abbrev Y8:=@List.mem_iff_getElem
abbrev Y9:=@List.setIfInBounds_toArray
abbrev Za:=@List.length_take
abbrev Zb:=@List.mem_map
abbrev Zc:=@List.length_map
abbrev Zd:=@List.all_eq_true
abbrev Ze:=@List.length_nil
abbrev Zf:=@List.mem_append
abbrev Zg:=@Bool.true_and
abbrev Zh:=@List.length_reverse
abbrev Zi:=@List.range_succ
abbrev Zj:=@List.length_eq_zero_iff
abbrev Zk:=@Nat.zero_add
abbrev Zl:=@List.mem_cons_self
abbrev Zm:=@List.take_of_length_le
abbrev Zn:=@Nat.pow_le_pow_right
abbrev Zo:=@ByteArray.toList_eq
abbrev Zp:=@Int.natCast_mul
abbrev Zq:=@of_decide_eq_true
abbrev Zr:=@List.size_toArray
abbrev Zs:=@List.map_append
abbrev Zt:=@List.getElem?_map
abbrev Zu:=@List.append_nil
abbrev Zv:=@Bool.or_eq_true
abbrev Zw:=@List.map_congr_left
abbrev Zx:=@Nat.mul_le_mul_right
abbrev Zy:=@Nat.mod_eq_of_lt
abbrev Zz:=@List.take_length
abbrev Z2:=@Nat.add_zero
abbrev Z3:=@List.map_cons
abbrev Z4:=@Bool.eq_iff_iff
abbrev Z5:=@Nat.succ_mul
abbrev Z6:=@List.mem_cons_of_mem
abbrev Z7:=@Option.some.inj
abbrev Z8:=@List.getElem?_take_of_lt
abbrev Z9:=@Nat.add_mul_mod_self_right
abbrev Vb:=@List.flatMap_append
abbrev Vc:=@Nat.lt_succ_self
abbrev Vd:=@Nat.div_eq_of_lt
abbrev Ve:=@List.pairwise_iff_getElem
abbrev Vf:=@List.mem_cons
abbrev Vg:=@Nat.le_succ
abbrev Vh:=@List.getD_cons_zero
abbrev Vi:=@List.take_append_drop
abbrev Vj:=@List.cons_append
abbrev Vk:=@List.flatMap_cons
abbrev Vl:=@List.mem_of_mem_take
abbrev Vm:=@List.length_set
abbrev Vn:=@List.append_assoc
abbrev Vo:=@Nat.add_mul_div_right
abbrev Vp:=@List.getElem?_eq_none
abbrev Vq:=@Nat.div_le_self
abbrev Vr:=@Bool.false_ne_true
abbrev Vs:=@decide_eq_false_iff_not
abbrev Vt:=@Array.replicate_zero
abbrev Vu:=@Array.replicate_succ
abbrev Vv:=@Nat.testBit_two_pow
abbrev Vw:=@List.append_toArray
abbrev Vy:=@List.map_nil
abbrev Vz:=@Nat.mod_lt
abbrev V9:=@Nat.lt_of_le_of_lt
abbrev Oa:=@List.getElem_map
abbrev Ob:=@List.push_toArray
abbrev Oc:=@List.nil_append
abbrev Od:=@List.getElem_cons_zero
abbrev Oe:=@List.getElem?_append_right
abbrev Of:=@List.mem_reverse
abbrev Og:=@List.mem_flatMap
abbrev Oh:=@Nat.le_of_lt
abbrev Oi:=@List.length_singleton
abbrev Oj:=@List.length_filter_le
abbrev Ok:=@Nat.mul_le_mul
abbrev Ol:=@List.getElem?_append_left
abbrev Om:=@List.drop_eq_getElem_cons
abbrev On:=@List.mem_append_left
abbrev Oo:=@Option.some.injEq
abbrev Oq:=@List.take_add_one
abbrev Ot:=@Nat.le_of_eq
abbrev Ou:=@List.getElem?_range
abbrev Ov:=@List.getD_cons_succ
abbrev Ow:=@Nat.lt_of_not_le
abbrev Ox:=@Array.getElem?_eq_none
abbrev Oy:=@List.filter_append
abbrev Oz:=@Nat.add_mul
abbrev O0:=@Nat.add_comm
abbrev O4:=@List.sum_append
abbrev O5:=@List.nodup_cons
abbrev O8:=@Prod.mk.injEq
abbrev O9:=@List.all_eq_false
abbrev Ga:=@List.count_le_length
abbrev Gb:=@Nat.testBit_or
abbrev Gc:=@Bool.and_false
abbrev Gd:=@List.not_mem_nil
abbrev Ge:=@List.map_toArray
abbrev Gf:=@List.any_eq_true
abbrev Gg:=@Array.length_toList
abbrev Gh:=@Nat.mul_comm
abbrev Gi:=@Nat.add_assoc
abbrev Gj:=@List.sum_cons
abbrev Gk:=@Bool.false_or
abbrev Gl:=@Nat.min_eq_left
abbrev Gm:=@Int.cast_ofNat_Int
abbrev Gn:=@Bool.false_eq_true
abbrev Gp:=@List.length_range
abbrev Gq:=@List.ext_getElem?
abbrev Gr:=@List.any_eq_false
abbrev Gs:=@Nat.zero_mul
abbrev Gt:=@List.sum_nil
abbrev Gu:=@ByteArray.data_append
abbrev KO:=@List.mem_of_getElem?
abbrev Gw:=@Option.map_some
abbrev Gx:=@Int.natCast_pow
abbrev Gy:=@List.take_succ_cons
def kZ(h:p:=by simp[intOf];omega):p:=h
def kX(h:p:=by simp[execOp,go_sem, *]):p:=h
def kV(h:p:=by exact⟨rfl,rfl⟩):p:=h
def kW(h:p:=by simp[Instr.index,run_underlying underlying231,asIntOf,go_sem,r9]):p:=h
def k5(h:p:=by have I:Hi (b.ownsRow (w.1.size+1) 3 1 t (a++[y.natAbs % 10]).length (ui (a++[y.natAbs % 10]))):=(by rw[Hi];rw[i.u]at p;simpa [ui] using p);have E:=h_ D;clear p f D;go_wp2;go_roundw;{refine⟨y.tdiv 10,a++[y.natAbs % 10],congrArg _ X,?_,?_,?_,I,E⟩;{have:=c.u;have:=j.u;omega};{have:=c.u;have:=j.u;omega};rw[j.u,Vn,List.singleton_append,<- R.u];exact O};simp only[intOf];rw[X.u];have:=j.u;omega):p:=h
def k6(h:p:=by go_enter func123,ntmps123;exact iy):p:=h
def k7(h:p:=by go_wp2_with fail;refine MG v.u λi=>?_;have hC:=J.u;refine tq 0 1 2 i ?_;refine tq 3 4 5 i ?_;refine AT 6 9 v.u.drew (Ws p q _) λI y=>?_;have i:=y.B;refine L0 7 i ?_;refine NH 8 9 11 y (YS z x.u) ?_;intro A d a;obtain⟨g,h,j⟩:=T0 d;have P:=h_ a;clear hC d a i;go_wp2;exact ki):p:=h
def k8(h:p:=by obtain rfl:k=a+1:=fP;have i:=c.2;rw[wO f f9,wO g f9]at i;have W:p=0:=(by have h2:=Yw (sG f) (Zn (n:=10) fS C.1);have h3:=Yw (sG g) (Zn (n:=10) fS C.2);rw[Nat.pow_succ]at i;rcases (by omega:p=0\/p=1) with h|h;{exact h};subst h;omega);exact iD):p:=h
def k9(h:p:=by intro A d a;obtain⟨g,h,j⟩:=T0 d;have P:=h_ a;clear hC d a i;go_wp2;exact ki):p:=h
def Kq(h:p:=by have M:Hi (decide (S<=32/\Z<=256/\a<=64/\t<=200)=false):=h_ (Yl fP);exact js):p:=h
def Kj(h:p:=by simp[Addr.add];try exact λh=>h.symm):p:=h
def Kz(h:p:=by go_wp2;go_ret2;exact⟨M.symm,b.u⟩):p:=h
def Kx(h:p:=by go_wp2;go_ret;exact⟨rfl,l⟩):p:=h
def Kv(h:p:=by go_wp2;go_ret;exact⟨rfl,bR _ _⟩):p:=h
def Kw(h:p:=by have C:Hi (∀j (h:j<l.length),j<k+1->l[j]≠s):=h_ λj h b=>(by by_cases p:j=k;{subst p;exact J};exact O j h fP);rw[Yl J]at f;generalize l[k]=t at *;refine rQ ?_;exact⟨k+1,fP,fU,C,by first|rfl|trivial⟩):p:=h
def Kk(h:p:=by (repeat' split) <;> simp_all):p:=h
def KQ(h:p:=by first|exact⟨k+1,vv,fP,fU,by rw[<- j.u];exact O,by rw[<- j.u];exact z,r,H,M⟩|((repeat apply Exists.intro);exact⟨⟨k+1,vv,fP,fU,by rw[<- j.u];exact O,by rw[<- j.u];exact z,r,H,M⟩,rfl⟩)):p:=h
def KJ(h:p:=by simp[execOp,go_sem]):p:=h
def KZ(h:p:=by have d:=(show aR.ownsRow V.1.size 9 1 aV (fW m f).length (Q3 (fW m f)) by rw[<- HE.u,Yn];exact d);obtain⟨a1,c1,rfl,aB,hS⟩:=xN d;have an:=h_ hS;go_wp2;go_ret;exact j6):p:=h
def KX(h:p:=by rw[bp]at e6;subst e6;have be:=h_ aa;clear K ad ac aa C aq ah ax y0 y1 y2 y3 z0 z1 bp;go_wp2;go_roundw;exact⟨j+1,x6,n6,c6,fP,fP,fU,rfl,be,a5⟩;exact kK):p:=h
def KV(h:p:=by rw[RE fP fP];omega):p:=h
def KW(h:p:=by simp[execOp,go_sem,j]):p:=h
def KK(h:p:=by by_cases H:(f r).k=1;{have O:((f r).k==1)=Tt:=beq_iff_eq.2 H;exact i2};have O:=nq H;have ae:((f r).k==3)=Tt:=beq_iff_eq.2 fP;exact i2):p:=h
def K0(h:p:=by simp[execOp,go_sem,rO w H2.u fP]):p:=h
def K2(h:p:=by obtain⟨⟨N,w,A⟩,o,q,u⟩:=(v.mono c).val;have V:=h_ (v.mono c);clear c;go_wp2;exact bodyPost_ret ge rfl ⟨rfl,V.u.out _ _ _⟩):p:=h
def K3(h:p:=by rw[IntKind.wrap_i64];omega):p:=h
def K5(h:p:=by simp[execOp,go_sem,rO w Y.u fP]):p:=h
def K6(h:p:=by go_roundw;{first|exact⟨d+1,_,_,_,fP,fU,ax⟩|((repeat apply Exists.intro);exact⟨⟨d+1,_,_,_,fP,fU,ax⟩,rfl⟩)};exact kB):p:=h
def K7(h:p:=by show w.heap[g]? = _;rw[J]):p:=h
def K8(h:p:=by exact((l.trans (Z.mono f9)).setCell (nR _) _).setCell (nR _) _):p:=h
def K9(h:p:=by refine NH 7 8 10 a.u.drew (YS z x.u) ?_;intro A d e;obtain⟨h,j,k⟩:=T0 d;have P:=h_ e;clear hC d e i;go_wp2;exact ki):p:=h
def uq(h:p:=by unfold maxLen;omega):p:=h
def uj(h:p:=by dsimp only;omega):p:=h
def uz(h:p:=by go_wp2;go_ret;exact⟨L2 M.symm,b⟩):p:=h
def ux(h:p:=by exact(bR _ _).drew):p:=h
def uw(h:p:=by go_wp2_with fail;refine cQ (yN x 6 _ ae) λH e=>?_;have b:=mT b e;generalize wrap 6 x=f at *;exact jm):p:=h
def uk(h:p:=by simp only[Value.slice.injEq]at e;obtain⟨rfl,-,rfl⟩:=e;exact .inl ⟨by rw[show r=0 by omega],fP⟩):p:=h
def uQ(h:p:=by go_wp2;(go_quiet (fail));exact iz):p:=h
def uJ(h:p:=by simp[execOp,go_sem,rO w H3.u fP]):p:=h
def uZ(h:p:=by exact SQ (RI (RI V f9) f9) f9):p:=h
def uX(h:p:=by go_ret;exact⟨fT,rfl⟩):p:=h
def uV(h:p:=by exact⟨rfl,.inr ⟨a.1.size,0,#[],rfl,nR _,heap_alloc_new a (Cl #[] 48),nR _,nZ _,rfl,rfl⟩⟩):p:=h
def uW(h:p:=by first|exact⟨k+1,fP,fU,A,W⟩|((repeat apply Exists.intro);exact⟨⟨k+1,fP,fU,A,W⟩,rfl⟩)):p:=h
def uK(h:p:=by first|exact⟨k+1,fP,fU,V,K⟩|((repeat apply Exists.intro);exact⟨⟨k+1,fP,fU,V,K⟩,rfl⟩)):p:=h
def Uq(h:p:=by show f.size+1+C.size+1<=_;omega):p:=h
def Uj(h:p:=by rw[q];go_enter func220,ntmps220;go_wp2;(go_quiet (fail));go_wp2;(go_quiet (fail));exact iE):p:=h
def Uz(h:p:=by rw[CA,Yz rfl];rfl):p:=h
def Ux(h:p:=by go_enter func190,ntmps190;go_wp2_with fail;(try rw[H]);clear H;clear Y c1 c2 d2;exact iX):p:=h
def Uv(h:p:=by have M:Hi (t7 n=Ff):=h_ (by rw[T,Yl fP];rfl);clear T;go_enter func174,ntmps174;exact iY):p:=h
def Uw(h:p:=by go_wp2;go_ret;exact⟨L2 (by first|(subst Z;decide)|(simp[tb,m,r,Z] <;> omega)),rfl⟩):p:=h
def Uk(h:p:=by rw[show I9 Q E f=Ff by rw[a,Yl (show ¬ (-1<=f.lb/\f.lb<Q) by omega),Gc];rfl];exact jC):p:=h
def UQ(h:p:=by rw[e]at h;have W:=h.symm.trans V1;simp at W):p:=h
def UJ(h:p:=by obtain⟨⟨T,U,V⟩,H,M,N⟩:=d.val;go_wp2;all_goals exact bQ ⟨rfl,d.u.out _ _ _⟩):p:=h
def UZ(h:p:=by rw[e,N]at t;simp at t):p:=h
def UX(h:p:=by have M:Hi (q=Ff):=h_ (by rw[x,Yl fP];rfl);clear x;go_enter func224,ntmps224;exact jM):p:=h
def UV(h:p:=by exact m8 ac fP fP fP):p:=h
def UW(h:p:=by have L:(a*n+b) / n=a/\(a*n+b) % n=b:=(by exact jH);rw[L.1,L.2]at s;exact⟨e,j,s⟩):p:=h
def UK(h:p:=by (repeat refine F5 d ?_);refine T2 ?_;refine rQ ?_;exact⟨k+1,_,fP,fU,rfl,B,HD⟩):p:=h
def U2(h:p:=by exact((bR _ w).alloc (nR _) _).alloc fT _):p:=h
def U3(h:p:=by rw[decide_eq_decide];omega):p:=h
def U4(h:p:=by go_wp2;go_ret;exact⟨L2 M.symm,l.u⟩):p:=h
def U5(h:p:=by have r:=h n (Vc _);by_cases c:M n=Tt;{rw[Yz c,Yz (r c)];omega};rw[Ys c];omega):p:=h
def U6(h:p:=by rw[Yz W];unfold Oper.wp;rw[hrun,Oper.upon_skip,q];exact k.out _ _ G (λ_=>h)):p:=h
def U7(h:p:=by have a:(u.k==0)=Tt:=gK;have I:(u.n==0)=Tt:=(by simp[r]);clear m r Z;exact iZ):p:=h
def U8(h:p:=by go_wp2_with fail;exact iO):p:=h
def U9(h:p:=by rintro D X ⟨rfl,nq,e⟩;have d:Bw W X:=(by rw[e];exact lG _ nq);exact iS):p:=h
def Hq(h:p:=by have L:=j;rw[Zm (nR _),<- HT.u]at L;refine rQ ?_;exact⟨k+1,fP,fU,L.u,a⟩):p:=h
def Hj(h:p:=by have X:s.size<=1000:=(by simp[Z1]at t;exact(KN.1 t.2).1);go_wp2;exact iK):p:=h
def Hz(h:p:=by go_wp2;go_ret;exact⟨NC M.symm,l⟩):p:=h
def Hx(h:p:=by simp only[Zs,O4,Z3,Vy,Gj,Gt,Z2];have:=q λj s=>h j fP;have:=h n fP;omega):p:=h
def Hv(h:p:=by exact SU 52 #[(0,.tmp 6),(1,.tmp 11),(2,.tmp 16),(3,.tmp 18)] rfl _ fR):p:=h
def H6(h:p:=by go_ret;exact⟨L2 v.u.symm,rfl⟩):p:=h
def H7(h:p:=by go_ret;refine⟨I.1.size,?_,a,?_,P⟩;{rw[n.u];rfl};rw[n.u];exact M):p:=h
def H9(h:p:=by exact qdk fY (.tmp 10) rfl o.1.size 0 _ rfl (λ_ h=>h.2.2.2.2.2.1)):p:=h
def Dq(h:p:=by rw[Int.natAbs_tdiv];exact MD (V9 (Vq _ _) (Yw (YI _) (Zn fS Z)))):p:=h
def Dj(h:p:=by exact .inr ⟨g,N,b,m,Yu c H,a⟩):p:=h
def Dz(h:p:=by simp[execOp,go_sem,rO w H4.u fP]):p:=h
def Dx(h:p:=by simp[execOp,go_sem,rO w H5.u fP]):p:=h
def Dv(h:p:=by have L:=f;rw[<- V.u m]at L;refine rQ ?_;exact⟨q+1,fP,fU,L.u,W⟩):p:=h
def Dw(h:p:=by have:(2:Nat) ^ (64 - 1)=9223372036854775808:=rfl;unfold xG;omega):p:=h
def Dk(h:p:=by rw[<- s];exact U.other (λe=>by have:=H f e;have:=j.lt;omega) K _):p:=h
def DQ(h:p:=by exact b.congr (λi _=>by by_cases c:i=k <;> simp[c]) (λ_ _=>rfl)):p:=h
def DJ(h:p:=by have L:=h;rw[Zm (nR _)]at L;go_wp2;go_ret;exact⟨_,rfl,L.u,a⟩):p:=h
def DZ(h:p:=by rw[sK,H.u,UH,UH,<- NF f,<- NF g,M.u,t.u];exact qit c.2 rfl):p:=h
def DX(h:p:=by go_enter func190,ntmps190;go_wp2_with fail;(try rw[H]);exact iU):p:=h
def DV(h:p:=by exact⟨Nn,0,by rw[D],fP,λ_=>⟨Zj.1 D,rfl⟩,λ_ _ _ h=>gC⟩):p:=h
def DW(h:p:=by rw[g.u];exact⟨Z.ow.b,Z.ow.i,T.low ak.bl.size,Z.ow.v,Z.ow.u⟩):p:=h
def DK(h:p:=by obtain⟨⟨-,J,K,L⟩,-,N,Q,T⟩:=G;simp[execOp,go_sem,J,K,L]):p:=h
def D0(h:p:=by obtain⟨⟨-,J,K,L⟩,-,N,Q,T⟩:=G;simp[execOp,go_sem,N,Q,T]):p:=h
def D1(h:p:=by simp only[IntKind.wrap,IntKind.bits,IntKind.signed];simp;omega):p:=h
def D2(h:p:=by go_wp2;go_ret;exact⟨L2 (qc6 m λj a=>i j a fP).symm,rfl⟩):p:=h
def D3(h:p:=by have:=h p Zl;have:=H λy c=>h y (Z6 _ c);simp only[mx];omega):p:=h
def D4(h:p:=by have W:=W.symm;subst W;refine rQ ?_;exact⟨k+1,fP,fU,v,b⟩):p:=h
def D5(h:p:=by refine⟨a,?_⟩;refine I1 fQ fQ ?_;refine T2 ?_;exact j5):p:=h
def D6(h:p:=by refine T2 ?_;have P:=mT l i;go_wp2;go_ret;exact⟨rfl,P⟩):p:=h
def D7(h:p:=by go_enter func219,ntmps219;go_wp2;exact bQ ⟨rfl,bR _ _⟩):p:=h
def D8(h:p:=by refine⟨0,fP,λd q=>?_⟩;obtain rfl:d=0:=fP;exact Q 0 fP):p:=h
