import Derived.Test.YtdlnflnfbcaiiaaGreatDoorRows
import Derived.ProofKit
import Derived.BigQuiet
import Derived.Maps.AppendAt
import Derived.Lib.ItoaLen
import Derived.Test.YtdlnflnfbcaiiaaGreatDoorShelfQ
import Derived.Lib.AppendIntMem
import Derived.Deep.RegionHeld3
set_option linter.all false
set_option maxRecDepth 100000
set_option maxHeartbeats 0
namespace Go.Proofs.YtdlnflnfbcaiiaaGreatDoor
open Value renaming slice->Sl,string->St,bool->Bo
open Obj renaming cells->Cl
open Ending renaming returned->Rt
open Option renaming none->Nn,some->Sm
open Bool renaming true->Tt,false->Ff
section
open Go Go.RowKit Go.Proofs.Tryz
abbrev Aq (b o:Nat):Addr:=.mk b o .none
abbrev zq (w:World):Nat:=w.1.size
abbrev zw (w:World)(o:Nat):Addr:=.mk w.1.size o .none
abbrev zQ (w:World)(k o:Nat):Addr:=.mk (w.1.size+k) o .none
abbrev GQ (x:Int):Prop:=-9223372036854775808<=x/\x<=9223372036854775807
abbrev GJ (n:Nat):Prop:=n<=9223372036854775807
abbrev GZ:=Calls Tryz.prog
abbrev GX (b n c:Nat):Value:=Sl (Sm (.mk b 0 .none)) n c
abbrev GV (b o n c:Nat):Value:=Sl (Sm (.mk b o .none)) n c
def Fq {a p:Prop}(x:a)(h:a->p:=by intro;omega):p:=h x
variable {p:Prop}
def fK(h:p:=by omega):p:=h
def fL(h:p:=by kernel_rfl):p:=h
def fM(h:p:=by decide):p:=h
def fN(h:p:=by simp):p:=h
def fP(h:p:=by go_num):p:=h
def fQ(h:p:=by simp;omega):p:=h
def fR(h:p:=by simp[Value.oneCell']):p:=h
def fS(h:p:=by unfold maxLen;omega):p:=h
def fT(h:p:=by rfl):p:=h
def fU(h:p:=by have:=z.u;omega):p:=h
def fX(h:p:=by simp[results,results124,go_sem, *];try omega):p:=h
def fY(h:p:=by simp[execOp,go_sem]):p:=h
def fZ(h:p:=by have:=K.u;omega):p:=h
def f9(h:p:=by have:=y.u;omega):p:=h
def ga(h:p:=by have:=l.u;omega):p:=h
def gb(h:p:=by have:=Y.size;simp;omega):p:=h
def gd(h:p:=by have h:=qc4 W 101;rw[z.u]at h|-;exact h):p:=h
def ge(h:p:=by first|rfl|trivial):p:=h
def gg(h:p:=by simp <;> omega):p:=h
def gh(h:p:=by simpa using h):p:=h
def gi(h:p:=by simp[execOp,go_sem,<- hY]):p:=h
def gk(h:p:=by have:=Y.size;omega):p:=h
def gm(h:p:=by rw[<- Zr];omega):p:=h
def gn(h:p:=by simp[results,results54,go_sem,hQ.cell,v.cell];rfl):p:=h
def go(h:p:=by simp[results,results8,go_sem,F7, *]):p:=h
def gp(h:p:=by simpa using a):p:=h
def gq(h:p:=by simpa using G):p:=h
def gr(h:p:=by simp[results,results85,go_sem, *];try omega):p:=h
def gs(h:p:=by have:=d.u;rw[<- X.u]at this;exact PJ this):p:=h
def gt(h:p:=by rw[<- J.u]):p:=h
def gu(h:p:=by simp[N1,Value.oneCell']):p:=h
def gv(h:p:=by simpa [Value.ownBlock] using e):p:=h
def gw(h:p:=by simp[results,results163,go_sem,F7, *]):p:=h
def gy(h:p:=by simp[results,vv,results260,go_sem, *]):p:=h
def gz(h:p:=by simp[results,results5,go_sem,M,O,P,T]):p:=h
def gA(h:p:=by rw[S];decide):p:=h
def gB(h:p:=by rw[<- q.u,KR r.u,C.u];rfl):p:=h
def gC(h:p:=by show q≠w.1.size;omega):p:=h
def gD(h:p:=by cases h):p:=h
def gE(h:p:=by simp[results,results216,go_sem, *]):p:=h
def gF(h:p:=by simp[results,results50,go_sem,g,i]):p:=h
def gG(h:p:=by have:=G.u;omega):p:=h
def gH(h:p:=by rw[nM];exact T):p:=h
def gI(h:p:=by have:=P.size;simp;omega):p:=h
def gJ(h:p:=by have:=c.size;omega):p:=h
def gK(h:p:=by rw[<- t,xK,Yy h,V];rfl):p:=h
def gL(h:p:=by rw[m];rfl):p:=h
def gM(h:p:=by assumption):p:=h
def gN(h:p:=by simp[m]):p:=h
def gO(h:p:=by rw[<- g.u];simp[P5,OG,Z.u]):p:=h
def gP(h:p:=by rw[<- d.u];simp[GC]):p:=h
def gQ(h:p:=by first|omega|(simp;done)):p:=h
def gR(h:p:=by rw[Yx];rfl):p:=h
def gS(h:p:=by rw[X.u];simpa [ui] using T):p:=h
def gT(h:p:=by show w.1.size<=X;omega):p:=h
def gU(h:p:=by have:=P.size;omega):p:=h
def gV(h:p:=by have:=l.size;omega):p:=h
def gW(h:p:=by have:=a.size;omega):p:=h
def gX(h:p:=by simp[G]):p:=h
abbrev To:=Option Addr
abbrev Tl:=List Value
abbrev Ta:=Array Value
abbrev Tb:=ByteArray
abbrev Tw:=World
abbrev Bw (w v:Tw):Prop:=Below w.1.size w v
abbrev Gv (f:FuncId)(a:Ta)(w:Tw)(v:Value):Prop:=Calls prog f a w λe x=>e=Rt v/\Bw w x
abbrev Jc(x0:Int)(x1:Int)(x2:Tb):Ta:=#[.int .i64 x0,.int .i64 x1,St x2]
abbrev Jd:Ta:=#[.int .i64 0,.int .i64 0,St ⟨#[]⟩]
abbrev Je:Ta:=#[.int .i64 0,Sl Nn 0 0,Sl Nn 0 0,Sl Nn 0 0,.int .i64 0,.int .i64 0]
abbrev Jh(x0:Int)(x1:To)(x2:Nat)(x3:Nat)(x4:To)(x5:Nat)(x6:To)(x7:Nat)(x8:Int)(x9:Int):Ta:=#[.int .i64 x0,Sl x1 x2 x3,Sl x4 x2 x5,Sl x6 x2 x7,.int .i64 x8,.int .i64 x9]
abbrev Ji:Ta:=#[Sl Nn 0 0,Sl Nn 0 0,Sl Nn 0 0,Sl Nn 0 0]
abbrev Jl:Tl:=[.int .i64 0,.int .i64 0,St ⟨#[]⟩]
abbrev Jn(x0:Int)(x1:To)(x2:Nat)(x3:Nat):Ta:=#[.int .i64 x0,Sl x1 x2 x3]
abbrev Jo(x0:To)(x1:Nat)(x2:Nat)(x3:To)(x4:Nat)(x5:Nat)(x6:To)(x7:Nat)(x8:Nat)(x9:To)(x10:Nat)(x11:Nat):Ta:=#[Sl x0 x1 x2,Sl x3 x4 x5,Sl x6 x7 x8,Sl x9 x10 x11]
abbrev Jq(x0:To)(x1:Nat)(x2:Nat)(x3:To)(x4:Nat)(x5:Nat)(x6:To)(x7:Nat)(x8:Nat):Ta:=#[Sl x0 x1 x2,Sl x3 x4 x5,Sl x6 x7 x8]
abbrev Jr(x0:Int)(x1:Int):Ta:=#[.int .i64 x0,.int .i64 x1]
abbrev Ju(x0:Int)(x1:Int)(x2:Int)(x3:Tb)(x4:Tb):Ta:=#[.int .i64 x0,.int .i64 x1,.int .i64 x2,St x3,St x4]
abbrev Jv:Ta:=#[Sl Nn 0 0,Sl Nn 0 0,Sl Nn 0 0]
abbrev Jw:Ta:=#[St ⟨#[]⟩,.int .i64 0,.int .i64 0]
abbrev Jy(x0:Int)(x1:Int)(x2:Tb):Tl:=[.int .i64 x0,.int .i64 x1,St x2]
abbrev Jz(x0:Tb)(x1:Tb):Ta:=#[St ⟨#[114,111,108,101]⟩,St x0,St ⟨#[97,116]⟩,St x1]
abbrev J0:Tl:=[Sl Nn 0 0,Sl Nn 0 0,Sl Nn 0 0,Sl Nn 0 0]
abbrev J1:Ta:=#[.int .i64 0,.int .i64 0]
abbrev J2(x0:Int)(x1:To)(x2:Nat)(x3:Nat)(x4:To)(x5:Nat)(x6:To)(x7:Nat)(x8:Int)(x9:Int):Tl:=[.int .i64 x0,Sl x1 x2 x3,Sl x4 x2 x5,Sl x6 x2 x7,.int .i64 x8,.int .i64 x9]
abbrev J3:Ta:=#[Bo Ff,Sl Nn 0 0]
abbrev J4(x0:Tb)(x1:Tb):Ta:=#[St ⟨#[102,105,101,108,100]⟩,St x0,St x1,St ⟨#[97,116]⟩,St ⟨#[97,117,116,111]⟩]
abbrev J5(x0:Tb)(x1:Int):Ta:=#[St x0,.int .i64 x1,.int .i64 (-1),Sl Nn 0 0,Sl Nn 0 0,Sl Nn 0 0,Sl Nn 0 0,St ⟨#[]⟩,Sl Nn 0 0]
abbrev J6:Ta:=#[Sl Nn 0 0,Sl Nn 0 0,Sl Nn 0 0,Sl Nn 0 0,.map Nn]
abbrev J7:Ta:=#[Sl Nn 0 0,Sl Nn 0 0]
abbrev J8:Ta:=#[.int .i64 0,Sl Nn 0 0]
abbrev J9(x0:Tb)(x1:Tb):Ta:=#[St ⟨#[98,101,108,111,119]⟩,St x0,St x1]
abbrev Ya(x0:Int):Ta:=#[.int .i64 1,.int .i64 x0,St ⟨#[]⟩]
abbrev Yb(x0:Tb)(x1:Int)(x2:Int):Ta:=#[St x0,.int .i64 x1,.int .i64 x2]
abbrev Yc(x0:Int):Ta:=#[.int .u32 x0]
abbrev Yd(x:Int):Value:=.int .i64 x
abbrev Ye:Value:=Sl Nn 0 0
abbrev Yf:Value:=St ⟨#[]⟩
abbrev Yg(b o:Nat):Value:=.pointer (Sm (Aq b o))
def o9 (w:Tw)(a:To)(n:Nat)(f:Nat->Bool):Prop :=
 ∀k,k<n->∃b off,a=Sm (Aq b off)/\b<w.1.size/\w.cell? (Aq b (off+k))=Sm (Bo (f k))
def F5 (w:Tw)(a:To)(n:Nat)(f:Nat->Int):Prop :=
 ∀k,k<n->∃b off,a=Sm (Aq b off)/\b<w.1.size/\w.cell? (Aq b (off+k))=Sm (.int .i64 (f k))
def o9.mono {w w' a n f}(h:o9 w a n f)(c:Bw w w'):o9 w' a n f:=λk d=>by obtain⟨b,A,rfl,e,M⟩:=h k d;exact⟨b,A,rfl,Nat.lt_of_lt_of_le e c.size,(c.cell (p:=(Aq b (A+k))) e).trans M⟩
def F5.mono {w w' a n f}(h:F5 w a n f)(c:Bw w w'):F5 w' a n f:=λk d=>by obtain⟨b,A,rfl,e,M⟩:=h k d;exact⟨b,A,rfl,Nat.lt_of_lt_of_le e c.size,(c.cell (p:=(Aq b (A+k))) e).trans M⟩
def m0 (w:Tw)(g:Nat)(t:TypeId)(cs:Tl):Prop:=w.heap[g]? = Sm (Cl cs.toArray t (0,0))
def m0.lt {w g t cs}(h:m0 w g t cs):g<w.1.size:=(Array.getElem?_eq_some_iff.1 h).1
def m0.cell {w g t cs}(h:m0 w g t cs)(j):w.cell? (Aq g j)=cs[j]?:=by simp only[World.cell?,show w.heap[g]? = _ from h];simp
def m0.free {w g t cs}(h:m0 w g t cs)(j):w.frozen? (Aq g j)=Ff:=by simp only[World.frozen?,show w.heap[g]? = _ from h];simp
def m0.mono {w w' B g t cs}(h:m0 w g t cs)(c:Below B w w')(C:g<B):m0 w' g t cs:=(c.block g C).trans h
def m0.set {w g t cs}(h:m0 w g t cs)(j v):m0 (w.setCell (Aq g j) v) g t (cs.set j v):=by have:=heap_setCell_same w g j cs.toArray t v h;simpa [m0] using this
def m0.other {w g t cs}(h:m0 w g t cs){a}(v)(H:g≠a.block):m0 (w.setCell a v) g t cs:=(heap_setCell_other w a g v H).trans h
def m0.alloc {w g t cs}(h:m0 w g t cs)(o):m0 (w.alloc o) g t cs:=h.mono ((Below.refl w.1.size w).alloc (Nat.le_refl _) o) h.lt
def m0.grown {w w' g t cs row}(h:m0 w g t cs)(C:w.grownBy w' row)(O:Sm g≠row):m0 w' g t cs:=(C.block g h.lt O).trans h
def m0.new (w:Tw)(t cs):m0 (w.alloc (Cl cs t)) w.1.size t cs.toList:=by simpa [m0] using heap_alloc_new w (Cl cs t)
def m0.of_owns {w base e g n x}(h:w.ownsRow base e 1 (Sl (Sm (Aq g 0)) n n) n x):m0 w g e x:=by rcases h.2 with ⟨V,_⟩|⟨v,m,b,V,_,C,_,_,F,a⟩;{simp at V};simp only[Value.slice.injEq,Option.some.injEq,Addr.mk.injEq,and_true,true_and]at V;obtain⟨rfl,rfl⟩:=V;rw[List.take_of_length_le (by simp;omega)]at a;rw[<- a];simpa [m0] using C
def kC (w m N I X):Bw w ((((w.alloc m).alloc N).alloc I).alloc X):=((((Below.refl _ w).alloc (Nat.le_refl _) m).alloc (by simp) N).alloc (by simp;omega) I).alloc (by simp;omega) X
def m0.cell4 {w g t cs}(h:m0 w g t cs)(j m N I X):((((w.alloc m).alloc N).alloc I).alloc X).cell? (Aq g j)=cs[j]?:=(h.mono (kC w m N I X) h.lt).cell j
def m0.free4 {w g t cs}(h:m0 w g t cs)(j m N I X):((((w.alloc m).alloc N).alloc I).alloc X).frozen? (Aq g j)=Ff:=(h.mono (kC w m N I X) h.lt).free j
def M2 {a b}(h:a=b):Ending.returned (Bo a)=Rt (Bo b):=by rw[h]
def oM {k a b}(h:a=b):Ending.returned (.int k a)=Rt (.int k b):=by rw[h]
def Hi (p:Prop):Prop:=p
def Hi.u {p}(h:Hi p) :p:=h
def Hi.out {p}(h:Hi p) :p:=h
def Nq {K:Type}(x:K) :∃y,x=y:=⟨x,rfl⟩
def h_ {p}(h:p):Hi p:=h
def oB {S h}(T:S)(e:h):Hi S/\Hi h:=⟨h_ T,h_ e⟩
def oC {S h q}(T:S)(e:h)(j:q):Hi S/\Hi h/\Hi q:=⟨h_ T,h_ e,h_ j⟩
def oD {S h q X}(T:S)(e:h)(j:q)(F:X):Hi S/\Hi h/\Hi q/\Hi X:=⟨h_ T,h_ e,h_ j,h_ F⟩
def oG {S h q X b}(T:S)(e:h)(j:q)(F:X)(x:b):Hi S/\Hi h/\Hi q/\Hi X/\Hi b:=⟨h_ T,h_ e,h_ j,h_ F,h_ x⟩
def oF {S h q X b O}(T:S)(e:h)(j:q)(F:X)(x:b)(a:O):Hi S/\Hi h/\Hi q/\Hi X/\Hi b/\Hi O:=⟨h_ T,h_ e,h_ j,h_ F,h_ x,h_ a⟩
def bQ {P b R a w v}(h:R (Rt v) w)(O:(results b a.tmps).run P w=.ok v w:=by simp[results,go_sem, *])(o:a.defers=[]:=by rfl):bodyPost P b R .ret a w:=bodyPost_ret O o h
def nV (w t c):∃W,w.alloc (Cl c t)=W/\m0 W w.1.size t c.toList/\Below w.1.size w W:=⟨_,rfl,m0.new w t c,(Below.refl _ _).alloc (Nat.le_refl _) _⟩
def nw (w t c):∃W,w.alloc (Cl c t)=W/\Hi (m0 W w.1.size t c.toList)/\Hi (Below w.1.size w W):=⟨_,rfl,h_ (m0.new w t c),h_ ((Below.refl _ _).alloc (Nat.le_refl _) _)⟩
def cQ {P f a w v}{S:Tw->Prop}{Q}(h:Calls P f a w λe x=>e=Rt v/\S x)(g:∀x,S x->Q (Rt v) x):Calls P f a w Q:=h.mono (by rintro e x ⟨rfl,h⟩;exact g x h)
def rj {p q:Prop}(a:q)(k:Hi q->p:=by intro k;go_wp2;go_ret;exact k.u):p:=k (h_ a)
def cZ {P f a w v}{S:Tw->Prop}{Q:Ending->Tw->Prop}{G:Prop}(h:Calls P f a w λe x=>e=Rt v/\S x)(g:∀x,S x->Q (Rt v) x)(t:Hi (Calls P f a w λe x=>e=Rt v/\S x)->Hi (∀x,S x->Q (Rt v) x)->G:=by intro h g;go_wp2_with fail;exact cQ h.u g.u):G:=t (h_ h) (h_ g)
def nB {w W o}(h:w.alloc o=W):Below w.1.size w W:=by rw[<- h];exact(Below.refl _ _).alloc (Nat.le_refl _) _
def nK {w W:Tw}{t c}(h:w.alloc (Cl c t)=W):m0 W w.1.size t c.toList:=by rw[<- h];exact m0.new w t c
def nJ {w W:Tw}{t c n}(e:w.1.size=n)(h:w.alloc (Cl c t)=W):m0 W n t c.toList:=by rw[<- e];exact nK h
def rQ {G A:Prop}(h:A)(t:A->G:=by intro h;go_wp2;go_roundw;(case rel=>exact h);(case measure=>simp[intOf];omega)):G:=t h
def u_ {p}(h:Hi p):p:=h
def B_ (w:Tw)(m n):(w.drewN m).drewN n=w.drewN (m+n):=by simp
def KF (w n):Bw w (w.drewN n):=⟨rfl,rfl,rfl,Nat.le_refl _,λ_ _=>rfl⟩
theorem yE {x}(G:-9223372036854775808<=x)(h1:x<=9223372036854775807):wrap64 x=x:=by unfold wrap64;omega
def R6 (w t cs):∃k,w.alloc (Cl cs t)=k/\Hi (m0 k w.1.size t cs.toList)/\Hi (Bw w k):=⟨_,rfl,h_ (m0.new w t cs),h_ ((Below.refl w.1.size w).alloc (Nat.le_refl _) (Cl cs t))⟩
def kS (w t cs):∃k X,w.alloc (Cl cs t)=k/\w.1.size=X/\Bw w k/\m0 k X t cs.toList:=⟨_,_,rfl,rfl,(Below.refl w.1.size w).alloc (Nat.le_refl _) (Cl cs t),m0.new w t cs⟩
def sX {K:Type}(B:List K)(i x):B.toArray.setIfInBounds i x=(B.set i x).toArray:=List.setIfInBounds_toArray B i x
def sY {K:Type}{x:K}{B a}:(x :: B).set 0 a=a :: B:=List.set_cons_zero
def sZ {K:Type}{x:K}{B n a}:(x :: B).set (n+1) a=x :: B.set n a:=List.set_cons_succ
def mB {w w' g t cs}(h:Hi (m0 w g t cs))(c:Bw w w'):Hi (m0 w' g t cs):=h_ (h.u.mono c h.u.lt)
def mT {a w w'}(h:Hi (Bw a w))(c:Bw w w'):Hi (Bw a w'):=h_ (h.u.trans (c.mono h.u.size))
def nR (n:Nat):n<=n:=Nat.le_refl n
def nZ (n):0<=n:=Nat.zero_le n
def nL (n):¬ n<0:=Nat.not_lt_zero n
def bR (b w):Below b w w:=Below.refl b w
def Bq {w:World}{o:Obj}:Below w.1.size w (w.alloc o):=(bR _ _).alloc (nR _) _
abbrev Yh:=@beq_eq_false_iff_ne
abbrev Yi:=@List.getElem?_cons_zero
abbrev Yj:=@decide_eq_false
abbrev Yk:=@List.length_append
abbrev Yl:=@decide_eq_true
abbrev Ym:=@List.getElem?_eq_getElem
abbrev Yn:=@List.getElem_mem
abbrev Yo:=@List.getD_eq_getElem?_getD
abbrev Yp:=@Array.getElem?_eq_some_iff
abbrev Yq:=@List.getElem?_cons_succ
abbrev Yr:=@Bool.and_eq_true
abbrev Ys:=@if_neg
abbrev Yt:=@Nat.le_trans
abbrev Yu:=@List.take_succ_eq_append_getElem
abbrev Yv:=@Nat.lt_of_lt_of_le
abbrev Yw:=@List.set_cons_zero
abbrev Yx:=@ByteArray.size_append
abbrev Yy:=@if_pos
abbrev Yz:=@World.size_alloc
abbrev Y2:=@List.set_cons_succ
abbrev Y3:=@decide_eq_true_eq
abbrev Y4:=@List.length_cons
abbrev Y5:=@List.mem_range
abbrev Y6:=@List.setIfInBounds_toArray
abbrev Y7:=@List.mem_singleton
abbrev Y8:=@List.mem_iff_getElem
abbrev Y9:=@List.mem_map
abbrev Za:=@List.length_take
abbrev Zb:=@List.mem_append
abbrev Zc:=@List.all_eq_true
abbrev Zd:=@List.length_map
abbrev Ze:=@List.length_nil
abbrev Zf:=@List.take_of_length_le
abbrev Zg:=@Bool.true_and
abbrev Zh:=@List.length_reverse
abbrev Zi:=@List.range_succ
abbrev Zj:=@List.length_eq_zero_iff
abbrev Zk:=@List.mem_cons_self
abbrev Zl:=@Nat.zero_add
abbrev Zm:=@Bool.or_eq_true
abbrev Zn:=@Nat.pow_le_pow_right
abbrev Zo:=@of_decide_eq_true
abbrev Zp:=@ByteArray.toList_eq
abbrev Zq:=@List.size_toArray
abbrev Zr:=@Int.natCast_mul
abbrev Zs:=@List.map_append
abbrev Zt:=@List.getElem?_map
abbrev Zu:=@List.take_length
abbrev Zv:=@Nat.le_succ
abbrev Zw:=@Nat.mod_eq_of_lt
abbrev Zx:=@Nat.add_zero
abbrev Zy:=@List.map_cons
abbrev Zz:=@List.append_nil
abbrev Z2:=@Bool.eq_iff_iff
abbrev Z3:=@List.map_congr_left
abbrev Z4:=@Nat.mul_le_mul_right
abbrev Z5:=@List.mem_cons_of_mem
abbrev Z6:=@Nat.lt_succ_self
abbrev Z7:=@Option.some.inj
abbrev Z8:=@Nat.succ_mul
abbrev Z9:=@Nat.add_mul_mod_self_right
abbrev Va:=@Nat.div_eq_of_lt
abbrev Vb:=@List.pairwise_iff_getElem
abbrev Vc:=@List.mem_cons
abbrev Vd:=@List.mem_filter
abbrev Ve:=@List.getD_cons_zero
abbrev Vf:=@List.flatMap_append
abbrev Vg:=@List.take_append_drop
abbrev Vh:=@List.cons_append
abbrev Vi:=@List.flatMap_cons
abbrev Vj:=@List.mem_of_mem_take
abbrev Vk:=@List.length_set
abbrev Vl:=@Nat.add_mul_div_right
abbrev Vm:=@List.length_filter_le
abbrev Vn:=@List.getElem?_eq_none
abbrev Vo:=@List.getElem?_take_of_lt
abbrev Vp:=@Nat.div_le_self
abbrev Vq:=@decide_eq_false_iff_not
abbrev Vr:=@Nat.mod_lt
abbrev Vs:=@Array.replicate_zero
abbrev Vt:=@Array.replicate_succ
abbrev Vu:=@Option.some.injEq
abbrev Vv:=@List.append_assoc
abbrev Vw:=@List.append_toArray
abbrev Vy:=@List.map_nil
abbrev Vz:=@Nat.lt_of_le_of_lt
abbrev V9:=@List.getElem_map
abbrev Oa:=@List.any_eq_true
abbrev Ob:=@List.mem_append_left
abbrev Oc:=@List.push_toArray
abbrev Od:=@List.nil_append
abbrev Oe:=@Nat.testBit_two_pow
abbrev Of:=@List.getElem_cons_zero
abbrev Og:=@List.mem_reverse
abbrev Oh:=@List.mem_flatMap
abbrev Oi:=@Nat.le_of_lt
abbrev Oj:=@Bool.false_eq_true
abbrev Ok:=@List.drop_eq_getElem_cons
abbrev Ol:=@List.nodup_cons
abbrev Om:=@List.take_add_one
abbrev On:=@List.replicate_zero
abbrev Oo:=@List.replicate_succ
abbrev Oq:=@List.getElem?_range
abbrev Ot:=@List.getD_cons_succ
abbrev Ou:=@Nat.lt_of_not_le
abbrev Ov:=@Nat.mul_le_mul
abbrev Ow:=@Array.getElem?_eq_none
abbrev Ox:=@List.filter_append
abbrev Oy:=@Nat.add_mul
abbrev Oz:=@Nat.add_comm
abbrev O0:=@List.sum_append
abbrev O4:=@List.length_singleton
abbrev O5:=@Prod.mk.injEq
abbrev O8:=@Bool.false_or
abbrev O9:=@List.length_range
abbrev Ga:=@List.all_eq_false
abbrev Gb:=@Int.toNat_natCast
abbrev Gc:=@List.count_le_length
abbrev Gd:=@List.map_toArray
abbrev Ge:=@Array.length_toList
abbrev Gf:=@Nat.mul_comm
abbrev Gg:=@Nat.le_of_eq
abbrev Gh:=@Nat.add_assoc
abbrev Gi:=@List.sum_cons
abbrev Gj:=@Nat.min_eq_left
abbrev Gk:=@Int.cast_ofNat_Int
abbrev Gl:=@List.ext_getElem?
abbrev Gm:=@List.any_eq_false
abbrev Gn:=@Nat.testBit_or
abbrev Gp:=@Bool.and_false
abbrev Gq:=@Nat.zero_mul
abbrev Gr:=@List.sum_nil
abbrev Gs:=@Bool.true_or
abbrev Gt:=@ByteArray.data_append
abbrev Gu:=@List.mem_of_getElem?
abbrev vM:=@Option.map_some
abbrev Gw:=@Int.natCast_pow
abbrev Gx:=@Array.replicate
abbrev Gy:=@List.take_succ_cons
abbrev Gz:=@List.getElem_of_mem
def ui (l:List Nat):Tl:=l.map λu=>.int .i64 ((u:Nat):Int)
def QP {w base n e v us}(h:w.ownsRow base e 1 v n (ui us)):∃a R,v=Sl a n R/\F5 w a n (λk=>((us.getD k 0:Nat):Int)):=by have N:us.length=n:=(by have:=h.1;simpa [ui] using this);rcases h.2 with ⟨rfl,rfl⟩|⟨g,R,b,rfl,c,C,M,-,F,d⟩;{exact⟨Nn,0,rfl,λk a=>absurd a (nL _)⟩};refine⟨_,R,rfl,λk a=>⟨g,0,rfl,(Yp.1 C).1,?_⟩⟩;have:=h.cellAt k (by omega);rw[Zl,this];simp[ui,List.getD,List.getElem?_eq_getElem (show k<us.length by omega)]
def C3 {w:Tw}{base k n q e v x}(h:w.ownsRow base e k v n x)(B:v.ownBlock=Sm q):base<=q:=by rcases h.2 with ⟨rfl,-⟩|⟨g,R,a,rfl,c,-⟩;{simp[Value.ownBlock]at B};simp only[Value.ownBlock,Vu]at B;omega
def uD (w:Tw)(t):(w.alloc (Cl #[] t)).ownsRow w.1.size t 1 (Sl (Sm (Aq w.1.size 0)) 0 0) 0 [] :=
 ⟨rfl,.inr ⟨w.1.size,0,#[],rfl,nR _,heap_alloc_new w (Cl #[] t),nR _,nZ _,rfl,rfl⟩⟩
def v8:(prog.info? 3).map (λi=>(i.zero,i.size,i.bytes))=Sm (Sm (Yd 0),1,8):=by kernel_rfl
def ON (w:Tw)(t v):∀(j:Nat) (u:Value),[v][j]? = Sm u->(w.alloc (Cl #[v] t)).cell? (((Aq w.1.size 0):Addr).add j)=Sm u:=λj u h=>by match j,h with|0,h=>simp at h;subst h;exact(m0.new w t #[v]).cell 0
def qm4 (w:Tw)(t v):(w.alloc (Cl #[v] t)).ownsRow w.1.size t 1 (Sl (Sm (Aq w.1.size 0)) 1 1) 1 [v] :=
 ⟨rfl,.inr ⟨w.1.size,1,#[v],rfl,nR _,heap_alloc_new w (Cl #[v] t),nR _,by unfold maxLen;omega,rfl,rfl⟩⟩
section
variable {ops:Array Oper} {rest:List Oper} {o:Oper} {a:Act} {Q:Exit->Act->Tw->Prop} {W:Tw} {s x:Operand} {t e:TypeId} {z v:Value} {size bytes B n m g:Nat} {xs cs:Tl}
def YI (k:(prog.info? e).map (λi=>(i.zero,i.size,i.bytes))=Sm (Sm z,size,bytes))(q:o.guard=Nn)(V:o.op=.call { callee:=.builtin .append,args:=#[s,x],argTypes:=#[t,t] })(F:a.eval s=v)(f:W.ownsRow B e size v n xs)(C:a.eval x=Sl (Sm (Aq g 0)) m m)(M:m0 W g e cs)(d:B<=W.1.size) (h:∀b j,j.ownsRow B e size b (n+m) (xs++cs)->W.grownBy j v.ownBlock->Below B W j->(b.ownBlock=v.ownBlock\/b.ownBlock=Sm W.1.size)->wpList prog ops Q rest (a.put o.dst b) j) (w:(n+m)*bytes<=140737488355328:=by omega) (A:prog.underlying t=Sm (.slice e):=by kernel_rfl) (T:z.cells.size=size:=by rfl) (r:0<size:=by omega) (i:0<bytes:=by omega) (l:cs.length=m*size:=by rfl) (h1:∀u∈cs,u.oneCell'=Tt:=by simp[Value.oneCell']):wpList prog ops Q (o :: rest) a W:=by obtain⟨X,y,D,S,E⟩:=info_parts k;exact wpList_append_own_at _ q s x t V B e X z size bytes A y D S E T r v n xs F f (Aq g 0) m m cs C l (λc u p=>by rw[show((Aq g 0):Addr).add c=(Aq g c) by simp[Addr.add];try exact λh=>h.symm];exact(M.cell c).trans p) h1 (Yt (Yt (Nat.le_mul_of_pos_right _ i) w) (by unfold maxLen;omega)) w d λb j h1 p _ c=>h b j h1 p ((bR B W).grown p d λb e=>C3 f e) c
def M5 (c:(prog.info? e).map (λi=>(i.zero,i.size,i.bytes))=Sm (Sm z,size,bytes))(i:W.ownsRow B e size v n xs)(p:B<=W.1.size)
 (h:∀b j,j.ownsRow B e size b (n+1) (xs++cs)->(W.alloc (Cl cs.toArray e)).grownBy j v.ownBlock->Below B (W.alloc (Cl cs.toArray e)) j->(b.ownBlock=v.ownBlock\/b.ownBlock=Sm (W.alloc (Cl cs.toArray e)).1.size)->wpList prog ops Q rest (a.put o.dst b) j)
 (f:(n+1)*bytes<=140737488355328:=by omega)
 (V:o.op=.call { callee:=.builtin .append,args:=#[s,x],argTypes:=#[t,t] }:=by exact rfl) (w:o.guard=Nn:=by exact rfl) (k:prog.underlying t=Sm (.slice e):=by kernel_rfl) (F:a.eval s=v:=by rfl) (l:a.eval x=Sl (Sm (Aq W.1.size 0)) 1 1:=by rfl)
 (T:z.cells.size=size:=by rfl) (j:0<size:=by omega) (b:0<bytes:=by omega) (d:cs.length=size:=by rfl) (h1:∀u∈cs,u.oneCell'=Tt:=by simp[Value.oneCell']) :
 wpList prog ops Q (o :: rest) a (W.alloc (Cl cs.toArray e)) :=
 YI c w V F (i.alloc _) l (m0.new W e cs.toArray) (by simp;omega) h f k T j b (by rw[Nat.one_mul];exact d) h1
end
end
section
def T0:List Nat->Nat
 | []=>0
 | d :: r=>d+10*T0 r
def C4 (l:List Nat):Prop:=∀d,d∈l->d<10
def M0 (n:Nat):List Nat:=if _h:n=0 then [] else n % 10 :: M0 (n / 10)
 termination_by n
 decreasing_by omega
def OF:M0 0=[]:=by simp[M0]
def OQ {n}(h:n≠0):M0 n=n % 10 :: M0 (n / 10):=by grind[M0]
theorem tD (n):T0 (M0 n)=n:=by induction n using Nat.strongRecOn <;> grind[T0,M0]
theorem AE (n):C4 (M0 n):=by induction n using Nat.strongRecOn <;> grind[C4,M0]
def oK {n}:M0 n=[] ↔ n=0:=by grind[M0]
def C_ (l m):T0 (l++m)=T0 l+10 ^ l.length*T0 m:=by induction l <;> grind[T0]
theorem XJ (l d):T0 (l++[d])=T0 l+10 ^ l.length*d:=by simp[T0,C_]
def C4.tail {n l}(h:C4 (n :: l)):C4 l:=λe g=>h e (List.mem_cons_of_mem _ g)
def C4.head {n l}(h:C4 (n :: l)):n<10:=h n (List.mem_cons_self ..)
def C4.snoc {l n}(h:C4 l)(o:n<10):C4 (l++[n]):=λe g=>by rcases List.mem_append.1 g with g|g;{exact h e g};rw[List.mem_singleton.1 g];exact o
def C4.cons {l n}(h:C4 l)(o:n<10):C4 (n :: l):=λe g=>by rcases List.mem_cons.1 g with rfl|g;{exact o};exact h e g
def C4.take {l}(h:C4 l)(k):C4 (l.take k):=λe g=>h e (List.mem_of_mem_take g)
theorem QF {l}(h:C4 l):T0 l<10 ^ l.length:=by induction l with|nil=>simp[T0]|cons d r a=>have:=a h.tail;have:=h.head;rw[T0,List.length_cons,Nat.pow_succ];omega
theorem sF {l}(h:C4 l):∀i,l.getD i 0=T0 l / 10 ^ i % 10:=by induction l with|nil=>intro i;simp[T0]|cons d r a=>intro i;have o:=h.head;cases i with|zero=>simp[T0];omega|succ i=>have e:T0 (d :: r) / 10 ^ (i+1)=T0 r / 10 ^ i:=(by rw[T0,Nat.pow_succ,Nat.mul_comm (10 ^ i) 10,<- Nat.div_div_eq_div_mul];congr 1;omega);rw[e,<- a h.tail i];simp
def Ws {l}(a:C4 l)(e:l=[]\/l.getD (l.length - 1) 0≠0):M0 (T0 l)=l:=by induction l with|nil=>simp[T0,OF]|cons d r b=>have o:=a.head;have O:r=[]\/r.getD (r.length - 1) 0≠0:=(by cases r with|nil=>exact .inl rfl|cons c s=>exact .inr (by simpa using e));have y:=b a.tail O;have U:T0 (d :: r)≠0:=(by intro Y;have h:d=0/\T0 r=0:=(by rw[T0]at Y;omega);have:r=[]:=(by rw[<- y,h.2,OF]);subst this;simp[h.1]at e);rw[OQ U,T0,show(d+10*T0 r) % 10=d by omega,show(d+10*T0 r) / 10=T0 r by omega,y]
def qvo {l}(h:C4 l){k}(g:k<=l.length)(b:∀j,k<=j->j<l.length->l.getD j 0=0)(e:k=0\/l.getD (k - 1) 0≠0):l.take k=M0 (T0 l):=by have D:T0 l=T0 (l.take k):=(by (conv=>lhs;rw[<- List.take_append_drop k l]);rw[C_];have:∀m:List Nat,(∀j,j<m.length->m.getD j 0=0)->T0 m=0:=(by intro m;induction m with|nil=>intro _;rfl|cons d r c=>intro w;have G:=w 0 (by simp);have a:=c (λj s=>by have:=w (j+1) (by simpa using s);simpa using this);simp at G;rw[T0,G,a]);rw[this (l.drop k) (λj s=>by have f:k+j<l.length:=(by simp at s;omega);have:=b (k+j) (by omega) f;simpa [List.getD,List.getElem?_drop] using this)];simp);rw[D,Ws (h.take k)];rcases e with G|G;{left;subst G;simp};by_cases K:k=0;{left;subst K;simp};right;have:(l.take k).length=k:=(by simp;omega);rw[this];simpa [List.getD,List.getElem?_take,show k - 1<k by omega] using G
def rD {n k}(h:n<10 ^ k):(M0 n).length<=k:=by induction k generalizing n <;> grind[M0]
def FI (n):n<10 ^ (M0 n).length:=by grind[M0,QF,AE,tD]
def mW (n i):(M0 n).getD i 0=n / 10 ^ i % 10:=by rw[sF (AE n),tD]
def qpz {n}(h:n≠0):10 ^ ((M0 n).length - 1)<=n:=by induction n using Nat.strongRecOn with|_ n ih=>rw[OQ h,List.length_cons,Nat.add_sub_cancel];by_cases V:n / 10=0;{rw[V,OF];simp;omega};have:=ih (n / 10) (by omega) V;have a:(M0 (n / 10)).length≠0:=(by intro e;exact V (oK.1 (List.length_eq_zero_iff.1 e)));obtain⟨m,w⟩:∃m,(M0 (n / 10)).length=m+1:=⟨(M0 (n / 10)).length - 1,by omega⟩;rw[w]at this|-;simp only[Nat.add_sub_cancel]at this;rw[Nat.pow_succ];omega
def A_ {m n}(h:(M0 m).length<(M0 n).length):m<n:=by have a:=FI m;have P:n≠0:=(by intro e;subst e;simp[OF]at h);have p:=qpz P;have b:10 ^ (M0 m).length<=10 ^ ((M0 n).length - 1):=Nat.pow_le_pow_right (by decide) (by omega);omega
def PQ (n i):n / 10 ^ i=10*(n / 10 ^ (i+1))+n / 10 ^ i % 10:=by rw[Nat.pow_succ,<- Nat.div_div_eq_div_mul];omega
def CH (n i):n % 10 ^ (i+1)=n % 10 ^ i+10 ^ i*(n / 10 ^ i % 10):=by rw[Nat.pow_succ,Nat.mod_mul]
def Cc {m n p:Nat}(h:m / p<n / p):m<n:=by rcases Nat.lt_or_ge m n with V|V;{exact V};exact absurd (Nat.div_le_div_right (c:=p) V) (by omega)
def qik {L p c s A B x y}(h:L+c*p=A+B)(F:s=x+y+c):(L+p*(s % 10))+(s / 10)*(p*10)=(A+p*x)+(B+p*y):=by have e:p*(s % 10)+(s / 10)*(p*10)=p*s:=(by rw[Nat.mul_comm (s / 10),Nat.mul_assoc,<- Nat.mul_add,Nat.mod_add_div]);have u:p*s=p*x+p*y+c*p:=(by rw[F,Nat.mul_add,Nat.mul_add,Nat.mul_comm c p]);omega
def Cg {L p c A B x y}(h:A+c*p=L+B)(M:c<=1)(t:x<10)(hy:y<10):∃d b,b<=1/\d<10/\(x+10*b=y+c+d)/\(b=1 ↔ x<y+c)/\(A+p*x)+b*(p*10)=(L+p*d)+(B+p*y):=by by_cases Y:x<y+c;{refine⟨x+10 - y - c,1,by omega,by omega,by omega,by omega,?_⟩;have e:p*x+p*10=p*(x+10 - y - c)+p*y+p*c:=(by rw[<- Nat.mul_add,<- Nat.mul_add,<- Nat.mul_add];congr 1;omega);rw[Nat.mul_comm c p]at h;omega};refine⟨x - y - c,0,by omega,by omega,by omega,by omega,?_⟩;have e:p*x=p*(x - y - c)+p*y+p*c:=(by rw[<- Nat.mul_add,<- Nat.mul_add];congr 1;omega);rw[Nat.mul_comm c p]at h;omega
def ql7 {L p c s A x y}(h:L+c*p=A*y)(F:s=x*y+c):(L+p*(s % 10))+(s / 10)*(p*10)=(A+p*x)*y:=by have e:p*(s % 10)+(s / 10)*(p*10)=p*s:=(by rw[Nat.mul_comm (s / 10),Nat.mul_assoc,<- Nat.mul_add,Nat.mod_add_div]);have u:p*s=p*x*y+c*p:=(by rw[F,Nat.mul_add,Nat.mul_comm c p,Nat.mul_assoc]);rw[Nat.add_mul];omega
def qek {n m i r}(w:0<m)(O:r=n / 10 ^ (i+1) % m):(10*r+n / 10 ^ i % 10) / m<10/\(10*r+n / 10 ^ i % 10) / m=n / m / 10 ^ i % 10/\(10*r+n / 10 ^ i % 10) % m=n / 10 ^ i % m:=by have a:r<m:=(by rw[O];exact Nat.mod_lt _ w);have B:n / 10 ^ (i+1)=m*(n / 10 ^ (i+1) / m)+r:=(by rw[O];exact(Nat.div_add_mod _ _).symm);have o:n / 10 ^ i % 10<10:=Nat.mod_lt _ (by decide);have F:=PQ n i;generalize n / 10 ^ i % 10=d at *;generalize n / 10 ^ (i+1) / m=q at *;have Q:n / 10 ^ i=m*(10*q)+(10*r+d):=(by rw[F,B,Nat.mul_add,Nat.mul_left_comm];omega);have Y:(10*r+d) / m<10:=(by rw[Nat.div_lt_iff_lt_mul w];omega);refine⟨Y,?_,?_⟩;{rw[Nat.div_div_eq_div_mul,Nat.mul_comm m,<- Nat.div_div_eq_div_mul,Q,Nat.mul_add_div w];generalize (10*r+d) / m=x at *;omega};rw[Q,Nat.mul_add_mod]
def GT {n}(h:n≠0):Lib.decDigits n=(M0 n).reverse.map λd=>UInt8.ofNat (48+d):=by induction n using Nat.strongRecOn with|_ n ih=>rw[OQ h,Lib.decDigits];by_cases V:n<10;{rw[dif_pos V,show n / 10=0 by omega,OF,Nat.mod_eq_of_lt V];simp};rw[dif_neg V,ih (n / 10) (by omega) (by omega)];simp
end
section
open Go.Lib
def p6 (acc:Nat):List Nat->Nat
 | []=>acc
 | d :: r=>p6 (acc*10+d) r
def qr5 (l):∀I,I<=p6 I l:=by induction l <;> grind[p6]
def q7j (l m):∀I,p6 I (l++m)=p6 (p6 I l) m:=by induction l <;> grind[p6]
def NA (l:List Nat):List UInt8:=l.map λd=>UInt8.ofNat (48+d)
def qc8 (l):∀(I:Nat),(∀d,d∈l->d<10)->p6 I l<18446744073709551616->parseUintM 18446744073709551615 I (NA l)=.ok (p6 I l):=by induction l with|nil=>intro I _ _;rfl|cons d r a=>intro I o D;have G:d<10:=o d (List.mem_cons_self ..);have C:=qr5 r (I*10+d);rw[p6]at D|-;have e:(UInt8.ofNat (48+d)).toNat=48+d:=(by rw[UInt8.toNat_ofNat'];omega);show parseUintM _ I (UInt8.ofNat (48+d) :: NA r)=_;rw[parseUintM,e,if_pos (by omega),if_neg (by omega),if_neg (by omega),show 48+d - 48=d by omega];exact a _ (λe g=>o e (List.mem_cons_of_mem _ g)) D
def RD (n:Nat):List Nat:=if _h:n<10 then [n] else RD (n / 10)++[n % 10]
 termination_by n
 decreasing_by omega
def wR (n):p6 0 (RD n)=n/\(∀d,d∈RD n->d<10)/\decDigits n=NA (RD n)/\RD n≠[]:=by induction n using Nat.strongRecOn with|_ n ih=>by_cases h:n<10;{rw[RD,dif_pos h,decDigits,dif_pos h];refine⟨by simp[p6],λd o=>?_,rfl,by simp⟩;rw[List.mem_singleton.1 o];exact h};obtain⟨a,b,c,-⟩:=ih (n / 10) (by omega);rw[RD,dif_neg h,decDigits,dif_neg h];refine⟨?_,λd o=>?_,?_,by simp⟩;{rw[q7j,a];simp only[p6];omega};{rcases List.mem_append.1 o with o|o;{exact b d o};rw[List.mem_singleton.1 o];omega};rw[c];simp[NA]
def lY (n):decDigits n≠[]:=by simp[NA,wR]
def Ae (n):∃c r,decDigits n=c :: r/\48<=c.toNat/\c.toNat<=57:=by obtain⟨-,b,c,d⟩:=wR n;match e:RD n with|[]=>exact absurd e d|x :: r=>rw[c,e];have t:=b x (by rw[e];exact List.mem_cons_self ..);refine⟨UInt8.ofNat (48+x),NA r,rfl,?_⟩;have:(UInt8.ofNat (48+x)).toNat=48+x:=(by rw[UInt8.toNat_ofNat'];omega);omega
def Ad {n}(h:n<18446744073709551616):parseUintB 64 (decDigits n)=.ok n:=by obtain⟨a,b,c,-⟩:=wR n;have:=qc8 (RD n) 0 b (by rw[a];exact h);rw[parseUintB,if_neg (lY n),show 2 ^ 64 - 1=18446744073709551615 from rfl,c,this,a]
theorem qc9 {n}(G:-9223372036854775808<=n)(h1:n<=9223372036854775807):parseIntB 64 (itoa n)=.ok n:=by have f:2 ^ (64 - 1)=9223372036854775808:=rfl;unfold itoa;split;{have:=Ad (n:=n.natAbs) (by omega);simp only[parseIntB,f];rw[if_pos (Or.inr (by decide)),this];have e:(45:UInt8).toNat=45:=rfl;simp only[e,not_true_eq_false,false_and,if_false,true_and];rw[if_neg (by omega),if_pos trivial,show -(n.natAbs:Int)=n by omega]};have:=Ad (n:=n.toNat) (by omega);obtain⟨c,r,e,a,b⟩:=Ae n.toNat;rw[e]at this|-;simp only[parseIntB,f];rw[if_neg (by omega),this];have:¬ c.toNat=45:=(by omega);simp only[this,not_false_eq_true,false_and,if_false,true_and];rw[if_neg (by omega),show(n.toNat:Int)=n by omega]
def nF (n:Int):Prop:=-9223372036854775808<=n/\n<=9223372036854775807
def qG (l:List UInt8):Option Int:=match parseIntB 64 l with
 | .ok n=>if itoa n=l then Sm n else Nn
 | _=>Nn
def Xz {n}(h:nF n):qG (itoa n)=Sm n:=by grind[qG,nF,qc9]
def p_ {l}(h:∀n,nF n->itoa n≠l):qG l=Nn:=by unfold qG;split;{rename_i n hn;split;{rename_i e;have hb:=parseIntB_bounds hn;exact absurd e (h n (by have:(2:Nat) ^ (64 - 1)=9223372036854775808:=rfl;unfold nF;omega))};rfl};rfl
end
section
open Go Go.RowKit Go.Proofs.Tryz
def Q2 (w:Tw)(v:Value)(l:List Nat):Prop:=∃a cap,v=Sl a l.length cap/\l.length<=cap/\(a=Nn->cap=0)/\F5 w a l.length (λk=>((l.getD k 0:Nat):Int))
def Q2.mono {w w' v l}(h:Q2 w v l)(c:Bw w w'):Q2 w' v l:=by obtain⟨a,R,e,M,P,y⟩:=h;exact⟨a,R,e,M,P,y.mono c⟩
def PJ {w base e v us}(h:w.ownsRow base e 1 v us.length (ui us)):Q2 w v us:=by rcases h.2 with ⟨rfl,G⟩|⟨g,R,c,rfl,d,C,M,-,F,f⟩;{exact⟨Nn,0,by rw[G],by omega,λ_=>rfl,λk k=>absurd k (by omega)⟩};obtain⟨a,b,X,m⟩:=QP h;simp only[Value.slice.injEq]at X;obtain⟨rfl,-,rfl⟩:=X;exact⟨_,_,rfl,by omega,(λh=>by cases h),m⟩
def Fb {w:Tw}{base n b e v x}(h:w.ownsRow base e 1 v n x)(i:b<base)(j u):(w.setCell (Aq b j) u).ownsRow base e 1 v n x:=by rcases h.2 with V|⟨g,R,a,f,M,C,c,t,F,d⟩;{exact⟨h.1,.inl V⟩};exact⟨h.1,.inr ⟨g,R,a,f,M,(heap_setCell_other w (Aq b j) g u (by simp;omega)).trans C,c,t,F,d⟩⟩
def qo3 (y:Int):(y.tmod 10<0->-(y.tmod 10)=((y.natAbs % 10:Nat):Int))/\(¬ y.tmod 10<0->y.tmod 10=((y.natAbs % 10:Nat):Int)):=by grind
def qnz (y:Int):(y.tdiv 10).natAbs=y.natAbs / 10:=by grind
def oN (x w)(G:-9223372036854775808<=x)(h1:x<=9223372036854775807):Calls prog 115 #[Yd x] w λc j=>∃b,c=Rt (.agg #[Bo (decide (x<0)),b])/\Q2 j b (M0 x.natAbs)/\Bw w j:=by have i:=h_ (And.intro G h1);clear G h1;go_enter func115,ntmps115;go_wp2;have Z:Hi (((w.alloc (Cl J3 193)).alloc (Cl #[] 3)).ownsRow (w.alloc (Cl J3 193)).1.size 3 1 (Sl (Sm (Aq ((w.alloc (Cl J3 193)).1.size) 0)) 0 0) 0 []):=uD _ _;have l:Hi (Below (w.1.size+1) (w.alloc (Cl J3 193)) ((w.alloc (Cl J3 193)).alloc (Cl #[] 3))):=(bR _ _).alloc (by simp) _;have f:Hi (Bw w (w.alloc (Cl J3 193))):=(bR _ _).alloc (nR _) _;have g:=h_ (m0.new w 193 J3);have t:(w.alloc (Cl J3 193)).1.size=w.1.size+1:=(by simp);rw[t]at Z;generalize (w.alloc (Cl J3 193))=s at *;go_loopw [0,3] (λF b wr=>∃(y:Int) (a:List Nat),F=Yd y/\-9223372036854775808<=y/\y<=9223372036854775807/\a++M0 y.natAbs=M0 x.natAbs/\wr.ownsRow (w.1.size+1) 3 1 b a.length (ui a)/\Below (w.1.size+1) s wr) (λF _ _=>(intOf F).natAbs);exact⟨x,[],rfl,i.1,i.2,rfl,Z,l⟩;clear Z l;obtain⟨y,a,rfl,q,r,e,W,b⟩:=hrel;have N:a.length+(M0 y.natAbs).length<=19:=(by have X:=congrArg List.length e;have d:(M0 x.natAbs).length<=19:=rD (Fq i.u);simp at X;omega);have I:=h_ (And.intro q r);clear q r;obtain⟨G,d,l⟩:=oC e W b;clear e W b;by_cases r:y=0;{subst r;have e:=G.u;simp only[Int.natAbs_zero,OF,Zz]at e;subst e;have O:=g.mono l (Z6 _);have b:=h_ (f.trans (l.mono (by omega)));have P:=O.cell 0;have h:=O.cell 1;have k:=O.free 0;have X:=O.free 1;simp only[Yq,Yi]at P h;clear O G l g f;obtain⟨F,c3,rfl,-⟩:=QP d;go_wp2;refine bQ (v:=.agg #[Bo (decide (x<0)),Sl F (M0 x.natAbs).length c3]) ⟨_,rfl,?_,?_⟩;{exact PJ (Fb (Fb d (Z6 _) _ _) (Z6 _) _ _)};exact(b.setCell (by simp) _).setCell (by simp) _};obtain⟨k,m⟩:=qo3 y;have o:=qnz y;have C:=OQ (n:=y.natAbs) (by omega);have W:Hi (wrap64 (y.tdiv 10)=y.tdiv 10):=(by have:=I.u;rw[Hi];unfold wrap64;omega);by_cases q:y.tmod 10<0;{have b:wrap64 (-(y.tmod 10))=((y.natAbs % 10:Nat):Int):=(by have:=k q;unfold wrap64;omega);obtain⟨f,J,g⟩:=oC o C b;clear o C b k m;go_wp2_with (at_builtin;refine M5 v8 d (Fq l.size) ?_);intro p j b P _ _;have L:=(l.alloc (Fq l.size) (Cl #[Yd (wrap64 (-(y.tmod 10)))] 3)).grown P (by have:=l.size;simp;omega) (λz c=>C3 d c);have h:Hi (j.ownsRow (w.1.size+1) 3 1 p (a++[y.natAbs % 10]).length (ui (a++[y.natAbs % 10]))):=(by rw[Hi];rw[g.u]at b;simpa [ui] using b);have E:=h_ L;clear b P L;go_wp2;go_roundw;{refine⟨y.tdiv 10,a++[y.natAbs % 10],congrArg _ W,?_,?_,?_,h,E⟩;{have:=I.u;have:=f.u;omega};{have:=I.u;have:=f.u;omega};rw[f.u,Vv,List.singleton_append,<- J.u];exact G};simp only[intOf];rw[W.u];have:=f.u;omega};obtain⟨f,J,g⟩:=oC o C (m q);clear o C k m;go_wp2_with (at_builtin;refine M5 v8 d (Fq l.size) ?_);intro p j b P _ _;have L:=(l.alloc (Fq l.size) (Cl #[Yd (y.tmod 10)] 3)).grown P (by have:=l.size;simp;omega) (λz c=>C3 d c);have h:Hi (j.ownsRow (w.1.size+1) 3 1 p (a++[y.natAbs % 10]).length (ui (a++[y.natAbs % 10]))):=(by rw[Hi];rw[g.u]at b;simpa [ui] using b);have E:=h_ L;clear b P L;go_wp2;go_roundw;{refine⟨y.tdiv 10,a++[y.natAbs % 10],congrArg _ W,?_,?_,?_,h,E⟩;{have:=I.u;have:=f.u;omega};{have:=I.u;have:=f.u;omega};rw[f.u,Vv,List.singleton_append,<- J.u];exact G};simp only[intOf];rw[W.u];have:=f.u;omega
def q74:∀d:Fin 10,(⟨#[48,49,50,51,52,53,54,55,56,57]⟩:Tb).extract d.val (d.val+1)=⟨#[UInt8.ofNat (48+d.val)]⟩:=by decide +kernel
def qh5 (d:Nat)(o:d<10)(w):(Instr.slice 9 (St ⟨#[48,49,50,51,52,53,54,55,56,57]⟩) (Sm (Yd (d:Int))) (Sm (Yd ((d:Int)+1))) Nn).run prog w=.ok (St ⟨#[UInt8.ofNat (48+d)]⟩) w:=by rw[run_slice_string w 9 _ .i64 .i64 _ _ underlying9 (by omega) (by omega) (by show(d:Int)+1<=10;omega),show((d:Int)).toNat=d by omega,show((d:Int)+1).toNat=d+1 by omega,q74 ⟨d,o⟩]
def DN {a b:Tb}(h:a.data.toList=b.data.toList):a=b:=by obtain⟨⟨l⟩⟩:=a;obtain⟨⟨m⟩⟩:=b;simp at h;rw[h]
def qhz {l:List Nat}{k n}(a:k<l.length)(o:l.getD k 0=n):l.take (k+1)=l.take k++[n]:=by rw[Om,Ym a];simp[List.getD,List.getElem?_eq_getElem a]at o;simp[o]
def Do (d):48+UInt8.ofNat d=UInt8.ofNat (48+d):=by simp
def qfo:Lib.itoa 0=[48]:=by rw[Lib.itoa,Ys (by omega)];exact Lib.decDigits_one (i:=0) (by omega)
def Nb (l m:List UInt8):(⟨l.toArray⟩:Tb)++⟨m.toArray⟩=⟨(l++m).toArray⟩:=by apply DN;simp[ByteArray.data_append]
def nN (x w)(G:-9223372036854775808<=x)(h1:x<=9223372036854775807):Gv 74 #[Yd x] w (St ⟨(Lib.itoa x).toArray⟩):=by go_enter func74,ntmps74;go_wp2_with fail;refine(oN x _ G h1).mono ?_;rintro c Z ⟨v,rfl,D,f⟩;have q:(M0 x.natAbs).length<=19:=rD (by omega);obtain⟨a,R,rfl,M,-,m⟩:=D;have g:Bw w (Z.alloc (Cl #[Bo (decide (x<0)),Sl a (M0 x.natAbs).length R] 193)):=f.alloc f.size _;have h:=m0.new Z 193 #[Bo (decide (x<0)),Sl a (M0 x.natAbs).length R];have l:=m.mono ((bR Z.1.size Z).alloc (nR _) (Cl #[Bo (decide (x<0)),Sl a (M0 x.natAbs).length R] 193));obtain⟨O,n,U⟩:=oC g h l;by_cases t:x=0;{subst t;simp only[Int.natAbs_zero,OF]at *;go_wp2;go_ret;exact⟨by rw[qfo];rfl,O⟩};have r:(M0 x.natAbs).length≠0:=(by intro c;have:=oK.1 (Zj.1 c);omega);go_wp2;go_loopw [4,5] (λs i wr=>∃k:Nat,k<=(M0 x.natAbs).length/\i=Yd k/\s=St ⟨(NA ((M0 x.natAbs).take k).reverse).toArray⟩/\wr=Z.alloc (Cl #[Bo (decide (x<0)),Sl a (M0 x.natAbs).length R] 193)) (λ_ i _=>(M0 x.natAbs).length - (intOf i).toNat);exact⟨0,nZ _,rfl,by simp[NA],rfl⟩;obtain⟨k,p,rfl,rfl,rfl⟩:=hrel;by_cases Y:k<(M0 x.natAbs).length;{obtain⟨e,j,rfl,-,P⟩:=U k Y;obtain⟨d,o,A⟩:∃d,d<10/\(M0 x.natAbs).getD k 0=d:=⟨_,by rw[mW];exact Vr _ (by decide),rfl⟩;dsimp only at P;rw[A]at P;have F:=qh5 d o;have b:=h_ A;generalize N:NA ((M0 x.natAbs).take k).reverse=S at *;have E:=h_ N;have i:S.length<=19:=(by rw[<- N];simp[NA];omega);clear N;go_wp2;go_roundw;{refine⟨k+1,by omega,by go_num,?_,trivial⟩;rw[qhz Y b.u,List.reverse_append,<- E.u,Do];exact congrArg _ (Nb [_] _)};simp[intOf];omega};obtain rfl:k=(M0 x.natAbs).length:=(by omega);have j:Lib.itoa x=(if x<0 then [45] else [])++NA (M0 x.natAbs).reverse:=(by unfold Lib.itoa NA;split;{rw[GT (by omega)];rfl};rw[show x.toNat=x.natAbs by omega,GT (by omega)];rfl);have b:=h_ j;clear j;rw[Zu];generalize N:NA (M0 x.natAbs).reverse=S at *;have i:S.length<=19:=(by rw[<- N];simp[NA];omega);clear N;by_cases d:x<0;{go_wp2;go_ret;refine⟨?_,by have e:=O.u;rw[Yl d]at e;exact e⟩;rw[b.u,Yy d];exact congrArg (λz=>Ending.returned (St z)) (Nb [45] S)};go_wp2;go_ret;refine⟨?_,by have e:=O.u;rw[Yj (by omega)]at e;exact e⟩;rw[b.u,Ys (by omega)];rfl
def tb (b:Nat):Bool:=decide (32<=b/\b<=126/\b≠34)
def w_ {F}(b:Nat)(w)(B:F=145\/F=150:=by first|exact .inl rfl|exact .inr rfl):Calls prog F #[.int .u8 b] w λe j=>e=Rt (Bo (tb b))/\j=w:=by have M:¬ 32<=b\/(32<=b/\¬ b<=126)\/(32<=b/\b<=126/\b=34)\/(32<=b/\b<=126/\¬ b=34):=(by omega);rcases M with m|⟨m,p⟩|⟨m,p,a⟩|⟨m,p,a⟩;all_goals rcases B with rfl|rfl;(case' inl=>go_enter func145,ntmps145);(case' inr=>go_enter func150,ntmps150);all_goals go_wp2;go_ret;exact⟨M2 (by first|(subst b;decide)|(simp[tb, *] <;> omega)),rfl⟩
def S7 (s:Tb):Bool:=decide (s.size<=1000)&&s.data.toList.all λc=>tb c.toNat
def KL {s}:S7 s=Tt ↔ s.size<=1000/\∀j (a:j<s.size),tb s[j].toNat=Tt:=by simp only[S7,Yr,Y3,Zc];refine and_congr_right λ_=>⟨λh j a=>h _ (by simp[ByteArray.getElem_eq_getElem_data]),λh c M=>?_⟩;obtain⟨j,a,rfl⟩:=Y8.1 M;exact h j (by simpa using a)
def qbw {s}(h1:s.size<=1000)(h:∀j (a:j<s.size),tb s[j].toNat=Tt):S7 s=Tt:=KL.2 ⟨h1,h⟩
def qgd {s k}(a:k<s.size)(h:tb s[k].toNat=Ff):S7 s=Ff:=by cases e:S7 s with|false=>rfl|true=>have:=(KL.1 e).2 k a;rw[h]at this;cases this
def pX (s:Tb)(w:Tw)(i:Value)(wr:Tw):Prop:=∃k:Nat,k<=s.size/\i=.int .i64 k/\(∀j (hj:j<s.size),j<k->tb (s[j]).toNat=Tt)/\wr=w
def PV {F}(s w)(g:s.size<=9223372036854775807)(B:F=104\/F=111:=by first|exact .inl rfl|exact .inr rfl):Calls prog F #[St s] w λe b=>e=Rt (Bo (S7 s))/\b=w:=by by_cases m:s.size<=1000;{rcases B with rfl|rfl;(case' inl=>go_enter func104,ntmps104;go_wp2;go_loopw [3] (λi wr=>pX s w i wr) (λi _=>s.size - (intOf i).toNat));(case' inr=>go_enter func111,ntmps111;go_wp2;go_loopw [9] (λi wr=>pX s w i wr) (λi _=>s.size - (intOf i).toNat));(all_goals first|exact⟨0,nZ _,rfl,λj h V=>absurd V (nL _),rfl⟩|skip);all_goals obtain⟨k,c,rfl,f,rfl⟩:=hrel;have d:=h_ f;by_cases Y:k<s.size;{cases z:tb s[k].toNat;{go_wp2_with (refine(w_ _ _).mono ?_;rintro e b ⟨rfl,rfl⟩;rw[z]);go_ret;exact⟨M2 (qgd Y z).symm,rfl⟩};go_wp2_with (refine(w_ _ _).mono ?_;rintro e b ⟨rfl,rfl⟩;rw[z]);go_roundw;exact⟨k+1,by omega,by go_num,λj a c=>by by_cases e:j=k;{subst e;exact z};exact d j a (by omega),rfl⟩;simp[intOf];omega};go_wp2;go_ret;exact⟨M2 (qbw m λj a=>d j a (by omega)).symm,rfl⟩};rcases B with rfl|rfl;(case' inl=>go_enter func104,ntmps104);(case' inr=>go_enter func111,ntmps111);all_goals go_wp2;go_ret;exact⟨M2 (by simp[S7,m]),rfl⟩
def R0 {w b t v u V}(h:m0 w b t [v,u,V]) :
 w.cell? (Aq b 0)=Sm v/\w.cell? (Aq b 1)=Sm u/\w.cell? (Aq b 2)=Sm V:=⟨h.cell 0,h.cell 1,h.cell 2⟩
def WK (s:Tb):((s.size:Int)==0)=decide (s.size=0):=by grind
def LM (s:Tb):s.toList.isEmpty=decide (s.size=0):=by rw[Zp];obtain⟨⟨l⟩⟩:=s;cases l <;> simp[ByteArray.size]
def E2 (kind num:Int)(s:Tb):Bool :=
 if kind=0 then decide (num=0)&&decide (s.size=0)
 else if kind=1 then decide (s.size=0)
 else if kind=2 then decide (num=0\/num=1)&&decide (s.size=0)
 else if kind=3 then decide (num=0)&&S7 s
 else if kind=4 then decide (1<=num/\num<=5)&&decide (s.size=0)
 else Ff
def kz9 (k:Int):k=0\/k=1\/k=2\/k=3\/k=4\/(¬ k=0/\¬ k=1/\¬ k=2/\¬ k=3/\¬ k=4):=by omega
def oP (k n:Int):(k=0/\n=0)\/(k=0/\¬ n=0)\/k=1\/(k=2/\n=0)\/(k=2/\n=1)\/(k=2/\¬ n=0/\¬ n=1)\/(k=3/\n=0)\/(k=3/\¬ n=0)\/(k=4/\n<1)\/(k=4/\1<=n/\5<n)\/(k=4/\1<=n/\n<=5)\/(¬ k=0/\¬ k=1/\¬ k=2/\¬ k=3/\¬ k=4):=by omega
def xI {F}(H G s w)(b:s.size<=9223372036854775807)(B:F=73\/F=68:=by first|exact .inl rfl|exact .inr rfl):Gv F #[.agg (Jc H G s)] w (Bo (E2 H G s)):=by obtain⟨a,m⟩:=oB (WK s) (LM s);rcases oP H G with ⟨rfl,z⟩|⟨rfl,z⟩|rfl|⟨rfl,rfl⟩|⟨rfl,rfl⟩|⟨rfl,z,d⟩|⟨rfl,z⟩|⟨rfl,z⟩|⟨rfl,z⟩|⟨rfl,z,d⟩|⟨rfl,z,d⟩|⟨z,d,k,t,n⟩;all_goals rcases B with rfl|rfl;(case' inl=>go_enter func73,ntmps73);(case' inr=>go_enter func68,ntmps68);all_goals go_wp2_with (refine(PV s _ b).mono ?_;rintro e j ⟨rfl,rfl⟩);go_ret;exact⟨M2 (by simp[E2, *,a.u,m.u] <;> omega),(bR _ _).alloc (nR _) _⟩
end
section
open Go Go.Proofs.Tryz
def q9 (kind num:Int)(s:Tb):Tb :=
 if E2 kind num s then
  if kind=0 then ⟨#[98,108,97,110,107]⟩
  else if kind=1 then ⟨(Lib.itoa num).toArray⟩
  else if kind=2 then (if num=1 then ⟨#[116,114,117,101]⟩ else ⟨#[102,97,108,115,101]⟩)
  else if kind=3 then ⟨#[34]⟩++s++⟨#[34]⟩
  else ⟨#[33]⟩++⟨(Lib.itoa num).toArray⟩
 else ⟨#[63]⟩
theorem mG (a):(⟨a⟩:Tb).size=a.size:=rfl
def wQ (x)(G:-9223372036854775808<=x)(h1:x<=9223372036854775807):(⟨(Lib.itoa x).toArray⟩:Tb).size<=21:=Lib.itoa_length_le x G h1
def qrn (x):1<=(Lib.itoa x).length:=by unfold Lib.itoa;split;{simp};rw[Lib.decDigits_length];exact Lib.nDigits_pos _
def qcp (H G s)(h:E2 H G s=Tt)(a:0<=G)(h1:G<=9223372036854775807):1+s.size<=(q9 H G s).size/\(q9 H G s).size<=1050:=by have b:=wQ G (by omega) h1;have d:1<=(⟨(Lib.itoa G).toArray⟩:Tb).size:=qrn G;unfold q9;rw[Yy h];unfold E2 at h;by_cases E:H=0;{rw[Yy E]at h|-;simp only[Yr,Y3]at h;simp only[mG,Zq,Y4,Ze];omega};rw[Ys E]at h|-;by_cases i:H=1;{rw[Yy i]at h|-;simp only[Y3]at h;omega};rw[Ys i]at h|-;by_cases y:H=2;{rw[Yy y]at h|-;simp only[Yr,Y3]at h;split <;> simp only[mG,Zq,Y4,Ze] <;> omega};rw[Ys y]at h|-;by_cases c:H=3;{rw[Yy c]at h|-;simp only[Yr,Y3]at h;have:=(KL.1 h.2).1;simp only[Yx,mG,Zq,Y4,Ze];omega};rw[Ys c]at h|-;by_cases K:H=4;{rw[Yy K]at h;simp only[Yr,Y3]at h;simp only[Yx];have e:(⟨#[33]⟩:Tb).size=1:=rfl;omega};rw[Ys K]at h;cases h
end
section
open Go Go.RowKit Go.Proofs.Tryz
def kA {a b}(h:a=b):Ending.returned (St a)=Rt (St b):=by rw[h]
def yC (w:Tw):Prop:=Lib.TabIs prog w "internal/strconv.uint64pow10" .u64 Lib.pow10Tab
def yC.mono {w w'}(h:yC w)(c:Bw w w'):yC w':=Lib.tabBelow_of_tabIs h w' c
def tU (x w)(G:-9223372036854775808<=x)(h1:x<=9223372036854775807)(z:yC w):Gv 310 #[Yd x] w (St ⟨(Lib.itoa x).toArray⟩):=by have L:=h_ (And.intro G h1);go_enter func310,ntmps310;go_wp2_with fail;refine(Tryz.strconv_FormatInt_10 x L.1 L.2 _ z).mono ?_;rintro e Z ⟨rfl,k,V,rfl⟩;have c:=h_ (Lib.below_grow w.1.size w (nR _) k V);go_wp2;go_ret;exact⟨rfl,c⟩
def qqd:(⟨(Lib.formatBool Tt).toArray⟩:Tb)=⟨#[116,114,117,101]⟩:=by decide +kernel
def qjr:(⟨(Lib.formatBool Ff).toArray⟩:Tb)=⟨#[102,97,108,115,101]⟩:=by decide +kernel
def pG (kind num:Int)(s:Tb):Tb :=
 if kind=1 then ⟨(Lib.itoa num).toArray⟩ else if kind=2 then (if num=1 then ⟨#[116,114,117,101]⟩ else ⟨#[102,97,108,115,101]⟩) else s
def ST (H G s w)(b:-9223372036854775808<=G)(h1:G<=9223372036854775807)(z:yC w):Gv 300 #[.agg (Jc H G s)] w (St (pG H G s)):=by have L:=h_ (And.intro b h1);have O:Hi (Bw w (w.alloc (Cl (Jc H G s) 46))):=(bR _ _).alloc (nR _) _;by_cases i:H=1;{subst i;go_enter func300,ntmps300;go_wp2_with fail;refine cQ (tU G _ L.1 L.2 (z.mono O)) λa T=>?_;have O:=mT O T;go_wp2;go_ret;exact⟨kA (by simp[pG]),O⟩};by_cases y:H=2;{subst y;by_cases d:G=1;{subst d;go_enter func300,ntmps300;go_wp2_with fail;refine(Tryz.strconv_FormatBool Tt _).mono ?_;rintro e a ⟨rfl,rfl⟩;rw[qqd];go_wp2;go_ret;exact⟨kA (by simp[pG]),O⟩};have T:(G==1)=Ff:=(by simpa using d);go_enter func300,ntmps300;go_wp2_with fail;refine(Tryz.strconv_FormatBool Ff _).mono ?_;rintro e a ⟨rfl,rfl⟩;rw[qjr];go_wp2;go_ret;exact⟨kA (by simp[pG,d]),O⟩};go_enter func300,ntmps300;go_wp2;go_ret;exact⟨kA (by simp[pG,i,y]),O⟩
def C8 {B w w'}(h:Below B w.drew w'):Below B w w':=⟨h.os,h.tape,h.output,h.size,h.block⟩
section
variable {md:Region.Mode} {ops:Array Oper} {Q:Exit->Act->Tw->Prop} {S:Tw->Prop} {o:Oper} {a:Act}
def MI {a:Act}{o:Oper}{d v}(h:o.dst=Sm d):a.put o.dst v = { tmps:=a.tmps.setIfInBounds d v,defers:=a.defers }:=by rw[h];rfl
def PY {i fuel v listed w}(d)(hi:ops[i]? = Sm o)(e:o.dst=Sm d)(F:Region.noSelect ops=Tt)(f:Region.free md ops listed i=Tt)(O:(Region.ready md ops listed).contains i=Tt)
 (T:∀c (b:Act) (t:Ta) w,Q (.panic c) { tmps:=t,defers:=b.defers } w->Q (.panic c) b w) (W:Region.wanted o (yielded ops a.tmps)=Tt) (hy:∀w,S w->(execOp a.eval o).run prog w=.ok (.value v) w) (N:S w) (h:wpAnyH prog md ops Q S fuel (listed.setIfInBounds i Tt) { tmps:=a.tmps.setIfInBounds d v,defers:=a.defers } w):wpAnyH prog md ops Q S (fuel+1) listed a w :=
 wpAnyH_take hi F f O (λc a w h=>T c a _ w (by rw[MI e]at h;exact h)) (.inl ⟨W,hy⟩) N (by rw[MI e];exact h)
def QY {i fuel listed w}(d)(hi:ops[i]? = Sm o)(e:o.dst=Sm d)(F:Region.noSelect ops=Tt)(f:Region.free md ops listed i=Tt)(O:(Region.ready md ops listed).contains i=Tt)
 (T:∀c (b:Act) (t:Ta) w,Q (.panic c) { tmps:=t,defers:=b.defers } w->Q (.panic c) b w) (W:Region.wanted o (yielded ops a.tmps)=Ff) (N:S w) (h:wpAnyH prog md ops Q S fuel (listed.setIfInBounds i Tt) { tmps:=a.tmps.setIfInBounds d undef,defers:=a.defers } w):wpAnyH prog md ops Q S (fuel+1) listed a w :=
 wpAnyH_take hi F f O (λc a w h=>T c a _ w (by rw[MI e]at h;exact h)) (.inr ⟨W,rfl⟩) N (by rw[MI e];exact h)
def tj {fuel listed w}(i d v)(N:S w)(h:wpAnyH prog md ops Q S fuel (listed.setIfInBounds i Tt) { tmps:=a.tmps.setIfInBounds d v,defers:=a.defers } w)(hi:ops[i]? = Sm o:=by exact rfl)(e:o.dst=Sm d:=by exact rfl)(F:Region.noSelect ops=Tt:=by kernel_rfl)(f:Region.free md ops listed i=Tt:=by kernel_rfl)(O:(Region.ready md ops listed).contains i=Tt:=by kernel_rfl)
 (T:∀c (b:Act) (t:Ta) w,Q (.panic c) { tmps:=t,defers:=b.defers } w->Q (.panic c) b w:=by exact λ_ _ _ _ h=>h) (W:Region.wanted o (yielded ops a.tmps)=Tt:=by rfl) (hy:∀w,S w->(execOp a.eval o).run prog w=.ok (.value v) w:=by intro w N;simp[execOp,go_sem, *]):wpAnyH prog md ops Q S (fuel+1) listed a w :=
 PY d hi e F f O T W hy N h
def tn {fuel listed w}(i d)(N:S w)(h:wpAnyH prog md ops Q S fuel (listed.setIfInBounds i Tt) { tmps:=a.tmps.setIfInBounds d undef,defers:=a.defers } w)(hi:ops[i]? = Sm o:=by exact rfl)(e:o.dst=Sm d:=by exact rfl)(F:Region.noSelect ops=Tt:=by kernel_rfl)(f:Region.free md ops listed i=Tt:=by kernel_rfl)(O:(Region.ready md ops listed).contains i=Tt:=by kernel_rfl)
 (T:∀c (b:Act) (t:Ta) w,Q (.panic c) { tmps:=t,defers:=b.defers } w->Q (.panic c) b w:=by exact λ_ _ _ _ h=>h) (W:Region.wanted o (yielded ops a.tmps)=Ff:=by rfl):wpAnyH prog md ops Q S (fuel+1) listed a w :=
 QY d hi e F f O T W N h
def KE {i fuel listed w f args}{R:Value->Tw->Prop}(d)(hi:ops[i]? = Sm o)(g:o.dst=Sm d)(W:Region.wanted o (yielded ops a.tmps)=Tt)(O:Region.ready md ops listed=[i]) (hrun:(execOp a.eval o).run prog w=.ok (.enter f args) w) (M:Calls prog f args w λe w'=>∃v,e=Rt v/\R v w') (h:∀v w',R v w'->S w'/\wpAnyH prog md ops Q S fuel (listed.setIfInBounds i Tt) { tmps:=a.tmps.setIfInBounds d v,defers:=a.defers } w'):wpAnyH prog md ops Q S (fuel+1) listed a w:=by refine wpAnyH_ready O (by simp) (AllReadyH.cons hi (λK b=>?_) AllReadyH.nil);rw[Yy W];unfold Oper.wp;rw[hrun,Oper.upon_enter];refine M.mono ?_;rintro e w' ⟨v,rfl,c⟩;obtain⟨m,p⟩:=h v w' c;show K (a.put o.dst v) w';rw[MI g];exact b.out _ _ m (λ_=>p)
def Tj {fuel listed w f args v}{T:World->Prop}(i d)(M:Calls prog f args w λe x=>e=Rt v/\T x)(h:∀x,T x->S x/\wpAnyH prog md ops Q S fuel (listed.setIfInBounds i Tt) {tmps:=a.tmps.setIfInBounds d v,defers:=a.defers} x)(hi:ops[i]? =Sm o:=by exact rfl)(b:o.dst=Sm d:=by exact rfl)(W:Region.wanted o (yielded ops a.tmps)=Tt:=by rfl)(O:Region.ready md ops listed=[i]:=by kernel_rfl)(hrun:(execOp a.eval o).run prog w=.ok (.enter f args) w:=by simp[execOp,go_sem]):wpAnyH prog md ops Q S (fuel+1) listed a w:=KE (R:=λu x=>u=v/\T x) d hi b W O hrun (M.mono λe x ⟨g,t⟩=>⟨_,g,rfl,t⟩) λu x ⟨c,t⟩=>by subst c;exact h x t
def O2 {fuel listed w}(h:Q .normal a w)(b:Region.ready md ops listed=[]:=by kernel_rfl):wpAnyH prog md ops Q S fuel listed a w:=wpAnyH_done b h _
def y9 {i fuel listed w w' v}(hi:ops[i]? = Sm o)(W:Region.wanted o (yielded ops a.tmps)=Tt)(O:Region.ready md ops listed=[i]) (b:o.dst=Nn) (hrun:(execOp a.eval o).run prog w=.ok v w') (D:v=.skip) (N:S w') (h:wpAnyH prog md ops Q S fuel (listed.setIfInBounds i Tt) a w'):wpAnyH prog md ops Q S (fuel+1) listed a w:=by subst D;refine wpAnyH_ready O (by simp) (AllReadyH.cons hi (λc K=>?_) AllReadyH.nil);rw[Yy W];unfold Oper.wp;rw[hrun,Oper.upon_skip,b];exact K.out _ _ N (λ_=>h)
end
section
variable {md:Region.Mode} {ops:Array Oper} {Q:Exit->Act->Tw->Prop} {S:Tw->Prop} {o:Oper} {a:Act} {fuel:Nat} {listed:Array Bool} {i:Nat} {rs:List Nat} {w w':Tw}
def qF {f args}{R:Value->Tw->Prop}(d)(hi:ops[i]? = Sm o)(g:o.dst=Sm d)(W:Region.wanted o (yielded ops a.tmps)=Tt) (hrun:(execOp a.eval o).run prog w=.ok (.enter f args) w) (M:Calls prog f args w λe w'=>∃v,e=Rt v/\R v w') (h:∀v w',R v w'->S w'/\wpAnyH prog md ops Q S fuel (listed.setIfInBounds i Tt) { tmps:=a.tmps.setIfInBounds d v,defers:=a.defers } w') (F:AllReadyH prog md ops Q S fuel listed a w rs):AllReadyH prog md ops Q S fuel listed a w (i :: rs):=by refine AllReadyH.cons hi (λK b=>?_) F;rw[Yy W];unfold Oper.wp;rw[hrun,Oper.upon_enter];refine M.mono ?_;rintro e w' ⟨v,rfl,c⟩;obtain⟨m,p⟩:=h v w' c;show K (a.put o.dst v) w';rw[MI g];exact b.out _ _ m (λ_=>p)
def S8 {v}(d)(hi:ops[i]? = Sm o)(c:o.dst=Sm d)(W:Region.wanted o (yielded ops a.tmps)=Tt) (hrun:(execOp a.eval o).run prog w=.ok (.value v) w') (N:S w') (h:wpAnyH prog md ops Q S fuel (listed.setIfInBounds i Tt) { tmps:=a.tmps.setIfInBounds d v,defers:=a.defers } w') (F:AllReadyH prog md ops Q S fuel listed a w rs):AllReadyH prog md ops Q S fuel listed a w (i :: rs):=by refine AllReadyH.cons hi (λK b=>?_) F;rw[Yy W];unfold Oper.wp;rw[hrun];show K (a.put o.dst v) w';rw[MI c];exact b.out _ _ N (λ_=>h)
end
section
variable {md:Region.Mode} {ops:Array Oper} {Q:Exit->Act->Tw->Prop} {S:Tw->Prop} {o:Oper} {l l':Tl} {lb lb':List Bool}
def nP {i fuel v w}(d)(hi:ops[i]? = Sm o)(e:o.dst=Sm d)(F:Region.noSelect ops=Tt)(f:Region.free md ops lb.toArray i=Tt)(O:(Region.ready md ops lb.toArray).contains i=Tt)
 (T:∀c (b:Act) (t:Ta) w,Q (.panic c) { tmps:=t,defers:=b.defers } w->Q (.panic c) b w) (W:Region.wanted o (yielded ops l.toArray)=Tt) (hy:∀w,S w->(execOp (Act.eval { tmps:=l.toArray,defers:=[] }) o).run prog w=.ok (.value v) w) (N:S w) (b:l.set d v=l') (c:lb.set i Tt=lb') (h:wpAnyH prog md ops Q S fuel lb'.toArray { tmps:=l'.toArray,defers:=[] } w):wpAnyH prog md ops Q S (fuel+1) lb.toArray { tmps:=l.toArray,defers:=[] } w :=
 PY (a:={ tmps:=l.toArray,defers:=[] }) d hi e F f O T W hy N (by
  rw[Y6,Y6,b,c];exact h)
def US {i fuel w}(d)(hi:ops[i]? = Sm o)(e:o.dst=Sm d)(F:Region.noSelect ops=Tt)(f:Region.free md ops lb.toArray i=Tt)(O:(Region.ready md ops lb.toArray).contains i=Tt)
 (T:∀c (b:Act) (t:Ta) w,Q (.panic c) { tmps:=t,defers:=b.defers } w->Q (.panic c) b w) (W:Region.wanted o (yielded ops l.toArray)=Ff) (N:S w) (b:l.set d undef=l') (c:lb.set i Tt=lb') (h:wpAnyH prog md ops Q S fuel lb'.toArray { tmps:=l'.toArray,defers:=[] } w):wpAnyH prog md ops Q S (fuel+1) lb.toArray { tmps:=l.toArray,defers:=[] } w :=
 QY (a:={ tmps:=l.toArray,defers:=[] }) d hi e F f O T W N (by
  rw[Y6,Y6,b,c];exact h)
def E0 {fuel w}(i d v)(N:S w)(h:wpAnyH prog md ops Q S fuel lb'.toArray { tmps:=l'.toArray,defers:=[] } w)
 (hi:ops[i]? = Sm o:=by exact rfl) (hy:∀w,S w->(execOp (Act.eval { tmps:=l.toArray,defers:=[] }) o).run prog w=.ok (.value v) w:=by intro _ _;first|rfl|simp[execOp,go_sem, *]) (a:o.dst=Sm d:=by exact rfl) (F:Region.noSelect ops=Tt:=by kernel_rfl) (e:Region.free md ops lb.toArray i=Tt:=by kernel_rfl) (O:(Region.ready md ops lb.toArray).contains i=Tt:=by kernel_rfl)
 (T:∀c (b:Act) (t:Ta) w,Q (.panic c) { tmps:=t,defers:=b.defers } w->Q (.panic c) b w:=by exact λ_ _ _ _ h=>h) (W:Region.wanted o (yielded ops l.toArray)=Tt:=by rfl) (b:l.set d v=l':=by(first|simp only[Yw,Y2]|skip);rfl) (c:lb.set i Tt=lb':=by(first|simp only[Yw,Y2]|skip);rfl):wpAnyH prog md ops Q S (fuel+1) lb.toArray { tmps:=l.toArray,defers:=[] } w :=
 nP d hi a F e O T W hy N b c h
def D3 {fuel w}(i d)(N:S w)(h:wpAnyH prog md ops Q S fuel lb'.toArray { tmps:=l'.toArray,defers:=[] } w)
 (hi:ops[i]? = Sm o:=by exact rfl) (a:o.dst=Sm d:=by exact rfl) (F:Region.noSelect ops=Tt:=by kernel_rfl) (e:Region.free md ops lb.toArray i=Tt:=by kernel_rfl) (O:(Region.ready md ops lb.toArray).contains i=Tt:=by kernel_rfl)
 (T:∀c (b:Act) (t:Ta) w,Q (.panic c) { tmps:=t,defers:=b.defers } w->Q (.panic c) b w:=by exact λ_ _ _ _ h=>h) (W:Region.wanted o (yielded ops l.toArray)=Ff:=by rfl) (b:l.set d undef=l':=by(first|simp only[Yw,Y2]|skip);rfl) (c:lb.set i Tt=lb':=by(first|simp only[Yw,Y2]|skip);rfl):wpAnyH prog md ops Q S (fuel+1) lb.toArray { tmps:=l.toArray,defers:=[] } w :=
 US d hi a F e O T W N b c h
def I1 {n i fuel v w}(h:wpAnyH prog md ops Q S fuel lb'.toArray { tmps:=l'.toArray,defers:=[] } w)(e:l.set n v=l':=by(first|simp only[Yw,Y2]|skip);rfl)(c:lb.set i Tt=lb':=by(first|simp only[Yw,Y2]|skip);rfl):wpAnyH prog md ops Q S fuel (lb.toArray.setIfInBounds i Tt) { tmps:=l.toArray.setIfInBounds n v,defers:=[] } w:=by grind
def qZ {i fuel a w}(h:wpAnyH prog md ops Q S fuel lb'.toArray a w)(c:lb.set i Tt=lb':=by(first|simp only[Yw,Y2]|skip);rfl):wpAnyH prog md ops Q S fuel (lb.toArray.setIfInBounds i Tt) a w:=by grind
end
section
variable {md:Region.Mode} {ops:Array Oper} {Q:Exit->Act->Tw->Prop} {S:Tw->Prop} {o:Oper} {l l':Tl} {lb lb':List Bool} {d:Tmp} {v:Value}
def G0 {fuel w}(i)(N:S w)(h:wpAnyH prog md ops Q S fuel lb'.toArray { tmps:=l'.toArray,defers:=[] } w)
 (hi:ops[i]? = Sm o:=by exact rfl) (a:o.dst=Sm d:=by exact rfl) (F:Region.noSelect ops=Tt:=by kernel_rfl) (e:Region.free md ops lb.toArray i=Tt:=by kernel_rfl) (O:(Region.ready md ops lb.toArray).contains i=Tt:=by kernel_rfl)
 (T:∀c (b:Act) (t:Ta) w,Q (.panic c) { tmps:=t,defers:=b.defers } w->Q (.panic c) b w:=by exact λ_ _ _ _ h=>h) (W:Region.wanted o (yielded ops l.toArray)=Tt:=by rfl)
 (hy:∀w,S w->(execOp (Act.eval { tmps:=l.toArray,defers:=[] }) o).run prog w=.ok (.value v) w:=by intro w N;first|(simp[execOp,go_sem,N, *] <;> rfl)|rfl)
 (b:l.set d v=l':=by(first|simp only[Yw,Y2]|skip);rfl) (c:lb.set i Tt=lb':=by(first|simp only[Yw,Y2]|skip);rfl):wpAnyH prog md ops Q S (fuel+1) lb.toArray { tmps:=l.toArray,defers:=[] } w :=
 nP d hi a F e O T W hy N b c h
def tq {o2 o3:Oper}{l2 l3:Tl}{m2 m3:List Bool}{d2 d3:Tmp}{v2 v3:Value}{fuel:Nat}{w:Tw}(i j k:Nat)(b:S w)(a:wpAnyH prog md ops Q S fuel m3.toArray { tmps:=l3.toArray,defers:=[] } w)(s:Region.noSelect ops=Tt:=by kernel_rfl)(f:∀e (c:Act) (m:Ta) w,Q (.panic e) { tmps:=m,defers:=c.defers } w->Q (.panic e) c w:=by exact λ_ _ _ _ a=>a)(h0:ops[i]? = Sm o:=by exact rfl)(g0:o.dst=Sm d:=by exact rfl)(p0:Region.free md ops lb.toArray i=Tt:=by kernel_rfl)(q0:(Region.ready md ops lb.toArray).contains i=Tt:=by kernel_rfl)(r0:Region.wanted o (yielded ops l.toArray)=Tt:=by rfl)(y0:∀w,S w->(execOp (Act.eval { tmps:=l.toArray,defers:=[] }) o).run prog w=.ok (.value v) w:=by intro w b;first|(simp[execOp,go_sem,b, *] <;> rfl)|rfl)(t0:l.set d v=l':=by(first|simp only[Yw,Y2]|skip);rfl)(u0:lb.set i Tt=lb':=by(first|simp only[Yw,Y2]|skip);rfl)(h1:ops[j]? = Sm o2:=by exact rfl)(g1:o2.dst=Sm d2:=by exact rfl)(p1:Region.free md ops lb'.toArray j=Tt:=by kernel_rfl)(q1:(Region.ready md ops lb'.toArray).contains j=Tt:=by kernel_rfl)(r1:Region.wanted o2 (yielded ops l'.toArray)=Tt:=by rfl)(y1:∀w,S w->(execOp (Act.eval { tmps:=l'.toArray,defers:=[] }) o2).run prog w=.ok (.value v2) w:=by intro w b;first|(simp[execOp,go_sem,b, *] <;> rfl)|rfl)(t1:l'.set d2 v2=l2:=by(first|simp only[Yw,Y2]|skip);rfl)(u1:lb'.set j Tt=m2:=by(first|simp only[Yw,Y2]|skip);rfl)(h2:ops[k]? = Sm o3:=by exact rfl)(g2:o3.dst=Sm d3:=by exact rfl)(p2:Region.free md ops m2.toArray k=Tt:=by kernel_rfl)(q2:(Region.ready md ops m2.toArray).contains k=Tt:=by kernel_rfl)(r2:Region.wanted o3 (yielded ops l2.toArray)=Tt:=by rfl)(y2:∀w,S w->(execOp (Act.eval { tmps:=l2.toArray,defers:=[] }) o3).run prog w=.ok (.value v3) w:=by intro w b;first|(simp[execOp,go_sem,b, *] <;> rfl)|rfl)(t2:l2.set d3 v3=l3:=by(first|simp only[Yw,Y2]|skip);rfl)(u2:m2.set k Tt=m3:=by(first|simp only[Yw,Y2]|skip);rfl):wpAnyH prog md ops Q S (fuel+3) lb.toArray { tmps:=l.toArray,defers:=[] } w:=G0 i b (G0 j b (G0 k b a h2 g2 s p2 q2 f r2 y2 t2 u2) h1 g1 s p1 q1 f r1 y1 t1 u1) h0 g0 s p0 q0 f r0 y0 t0 u0
end
section
variable {md:Region.Mode} {ops:Array Oper} {Q:Exit->Act->Tw->Prop} {S:Tw->Prop} {o:Oper} {a:Act} {fuel:Nat} {listed:Array Bool} {w:Tw} {f:FuncId} {args:Ta}
def O7 {R:Value->Tw->Prop}(i d)(M:Calls prog f args w λe j=>∃v,e=Rt v/\R v j)(h:∀v j,R v j->S j/\wpAnyH prog md ops Q S fuel (listed.setIfInBounds i Tt) { tmps:=a.tmps.setIfInBounds d v,defers:=a.defers } j)
 (hi:ops[i]? = Sm o:=by exact rfl) (b:o.dst=Sm d:=by exact rfl) (W:Region.wanted o (yielded ops a.tmps)=Tt:=by rfl) (O:Region.ready md ops listed=[i]:=by kernel_rfl) (hrun:(execOp a.eval o).run prog w=.ok (.enter f args) w:=by simp[execOp,go_sem] <;> rfl):wpAnyH prog md ops Q S (fuel+1) listed a w :=
 KE d hi b W O hrun M h
def p9 {v}{P:Tw->Prop}(i d)(M:Calls prog f args w λe j=>e=Rt v/\P j)(h:∀j,P j->S j/\wpAnyH prog md ops Q S fuel (listed.setIfInBounds i Tt) { tmps:=a.tmps.setIfInBounds d v,defers:=a.defers } j)
 (hi:ops[i]? = Sm o:=by exact rfl) (b:o.dst=Sm d:=by exact rfl) (W:Region.wanted o (yielded ops a.tmps)=Tt:=by rfl) (O:Region.ready md ops listed=[i]:=by kernel_rfl) (hrun:(execOp a.eval o).run prog w=.ok (.enter f args) w:=by simp[execOp,go_sem] <;> rfl):wpAnyH prog md ops Q S (fuel+1) listed a w :=
 O7 (R:=λc j=>c=v/\P j) i d (M.mono λ_ _ ⟨e,p⟩=>⟨_,e,rfl,p⟩) (λ_ j ⟨e,p⟩=>e ▸ h j p) hi b W O hrun
end
structure Vx where
 k:Int
 n:Int
 s:Tb
def vv (u:Vx):Value:=.agg #[.int .i64 u.k,.int .i64 u.n,St u.s]
def E1 (c:Int):Vx:=⟨4,c,⟨#[]⟩⟩
def C5 (n:Int):Vx:=⟨1,n,⟨#[]⟩⟩
def Z1 (b:Bool):Vx:=⟨2,if b then 1 else 0,⟨#[]⟩⟩
def IB (s:Tb):Vx:=⟨3,0,s⟩
def D4:Vx:=⟨0,0,⟨#[]⟩⟩
def P2 (w:Tw)(b o:Nat)(u:Vx):Prop:=b<w.1.size/\w.cell? (Aq b o)=Sm (.int .i64 u.k)/\w.cell? (Aq b (o+1))=Sm (.int .i64 u.n)/\w.cell? (Aq b (o+2))=Sm (St u.s)
def P2.mono {w w' b o u}(h:P2 w b o u)(c:Bw w w'):P2 w' b o u :=
 ⟨Yv h.1 c.size,(c.cell h.1).trans h.2.1,(c.cell h.1).trans h.2.2.1,(c.cell h.1).trans h.2.2.2⟩
def Q3 (p q:Vx):Bool:=if p.k=q.k then if p.n=q.n then decide (p.s.toList=q.s.toList) else Ff else Ff
def I2 (w:Tw)(a:To)(m:Nat)(f:Nat->Vx):Prop:=∀k,k<m->∃b o,a=Sm (Aq b o)/\P2 w b (o+k*3) (f k)
def I2.mono {w w' a m f}(h:I2 w a m f)(c:Bw w w'):I2 w' a m f:=λd k=>by obtain⟨b,o,e,M⟩:=h d k;exact⟨b,o,e,M.mono c⟩
def ar (op:Int):Int:=if op=2\/op=3\/op=21\/op=22\/op=23\/op=24\/op=25 then 1 else if op=16 then 3 else if 4<=op/\op<=20 then 2 else 0
def Td (op:Int):(op=2\/op=3\/op=21\/op=22\/op=23\/op=24\/op=25\/op=16)\/((¬ op=2/\¬ op=3/\¬ op=21/\¬ op=22)/\(¬ op=23/\¬ op=24/\¬ op=25/\¬ op=16)/\(op<4\/(4<=op/\op<=20)\/(4<=op/\20<op))):=by omega
def XP (op w):Calls prog 155 #[Yd op] w λe j=>e=Rt (Yd (ar op))/\j=w:=by rcases Td op with (rfl|rfl|rfl|rfl|rfl|rfl|rfl|rfl)|⟨⟨d,k,t,n⟩,⟨a,L,H,G⟩,h⟩;(case inr=>have Y:¬ (op=2\/op=3\/op=21\/op=22\/op=23\/op=24\/op=25):=(by omega);have j:=G;replace d:(op==2)=Ff:=Yh.2 d;replace k:(op==3)=Ff:=Yh.2 k;replace t:(op==21)=Ff:=Yh.2 t;replace n:(op==22)=Ff:=Yh.2 n;replace a:(op==23)=Ff:=Yh.2 a;replace L:(op==24)=Ff:=Yh.2 L;replace H:(op==25)=Ff:=Yh.2 H;replace G:(op==16)=Ff:=Yh.2 G;rcases h with h|⟨h,V⟩|⟨h,V⟩;{have e:ar op=0:=(by rw[ar,Ys Y,Ys j,Ys (by omega)]);rw[e];go_enter func155,ntmps155;go_wp2;go_ret;exact⟨rfl,rfl⟩};{have e:ar op=2:=(by rw[ar,Ys Y,Ys j,Yy ⟨h,V⟩]);rw[e];go_enter func155,ntmps155;go_wp2;go_ret;exact⟨rfl,rfl⟩};have e:ar op=0:=(by rw[ar,Ys Y,Ys j,Ys (by omega)]);rw[e];go_enter func155,ntmps155;go_wp2;go_ret;exact⟨rfl,rfl⟩);all_goals (go_enter func155,ntmps155;go_wp2;go_ret;exact⟨rfl,rfl⟩)
end
section
open Go Go.Proofs.Tryz
structure Nx where
 op:Int
 v:Vx
 nm:Tb
abbrev Jf(x0:Nx):Ta:=#[Yd x0.op,Yd x0.v.k,Yd x0.v.n,St x0.v.s,St x0.nm]
structure Ph where
 t:Tb
 lv:Int
 d:Nat
def wF:Ph:=⟨⟨#[]⟩,7,1⟩
def P0 (n:Nx):Nat:=(ar n.op).toNat
def E5 (op:Int):Int:=if op=15 then 1 else if op=14 then 2 else if 10<=op/\op<=13 then 3 else if 7<=op/\op<=9 then 4 else if 4<=op/\op<=6 then 5 else if op=2\/op=3 then 6 else 7
def qH:List Tb:=[⟨#[]⟩,⟨#[]⟩,⟨#[45]⟩,⟨#[110,111,116]⟩,⟨#[42]⟩,⟨#[47]⟩,⟨#[37]⟩,⟨#[43]⟩,⟨#[45]⟩,⟨#[38]⟩,⟨#[61]⟩,⟨#[60,62]⟩,⟨#[60]⟩,⟨#[60,61]⟩,⟨#[97,110,100]⟩,⟨#[111,114]⟩,
 ⟨#[105,102]⟩,⟨#[109,105,110]⟩,⟨#[109,97,120]⟩,⟨#[111,114,101,108,115,101]⟩,⟨#[104,97,115]⟩,⟨#[108,101,110]⟩,⟨#[110,117,109]⟩,⟨#[115,116,114]⟩,⟨#[105,115,98,108,97,110,107]⟩,⟨#[105,115,101,114,114]⟩]
def F9 (op:Int):Tb:=qH.getD op.toNat ⟨#[]⟩
def wrap (l:Int)(p:Ph):Tb:=if p.lv<l then ⟨#[40]⟩++p.t++⟨#[41]⟩ else p.t
def jt:List Tb->Tb
 | []=>⟨#[]⟩
 | x :: r=>⟨#[44,32]⟩++x++jt r
def jn:List Tb->Tb
 | []=>⟨#[]⟩
 | x :: r=>x++jt r
def EF (op:Int):Int:=if E5 op=3 then 4 else E5 op
def vB (n:Nx)(a:List Ph):Tb :=
 if n.op=0 then q9 n.v.k n.v.n n.v.s
 else if n.op=1 then n.nm
 else if n.op=2 then ⟨#[45]⟩++wrap 6 (a.getD 0 wF)
 else if n.op=3 then ⟨#[110,111,116,32]⟩++wrap 6 (a.getD 0 wF)
 else if E5 n.op=7 then F9 n.op++⟨#[40]⟩++jn (a.map (·.t))++⟨#[41]⟩
 else wrap (EF n.op) (a.getD 0 wF)++⟨#[32]⟩++F9 n.op++⟨#[32]⟩++wrap (E5 n.op+1) (a.getD 1 wF)
def mx:List Ph->Nat
 | []=>0
 | p :: r=>max p.d (mx r)
def LJ (n:Nx)(a:List Ph):Ph:=⟨vB n a,E5 n.op,mx a+1⟩
def T1 (e:Nat->Nx):Nat->List Nat
 | 0=>[]
 | n+1=>(n+1) :: (T1 e n).drop (P0 (e n))
def D2 (e:Nat->Nx):Nat->List Ph
 | 0=>[]
 | n+1=>LJ (e n) ((D2 e n).take (P0 (e n))).reverse :: (D2 e n).drop (P0 (e n))
def top (e:Nat->Nx)(n:Nat):Ph:=(D2 e n).headD wF
def ZE (e n):(D2 e n).length=(T1 e n).length:=by induction n <;> grind[D2,T1]
def Ri (e n):D2 e n=(T1 e n).map (top e):=by induction n with|zero=>rfl|succ n l=>simp only[D2,T1,Zy,List.map_drop,<- l];rfl
def Ep (e n):∀(i a:Nat) (r:List Nat),(T1 e n).drop i=a :: r->T1 e a=a :: r/\1<=a/\a<=n:=by induction n with|zero=>intro i a r h;simp[T1]at h|succ n l=>intro i a r h;cases i with|zero=>simp only[T1,List.drop_zero,List.cons.injEq]at h;obtain⟨rfl,rfl⟩:=h;exact⟨rfl,by omega,by omega⟩|succ i=>simp only[T1,List.drop_succ_cons,List.drop_drop]at h;obtain⟨m,p,b⟩:=l _ a r h;exact⟨m,p,by omega⟩
def ZI (e:Nat->Nx)(n:Nat):Nat:=(T1 e n).tail.headD 0
def XL (e n i)(h:i<(T1 e n).length):T1 e ((T1 e n)[i])=(T1 e n).drop i/\1<=(T1 e n)[i]/\(T1 e n)[i]<=n:=by have:=Ep e n i _ _ (Ok h);rw[Ok h];exact this
def lB (e:Nat->Nx)(n:Nat):Prop:=∀k,k<n->P0 (e k)<=(T1 e k).length
def lB.le {e n m}(h:lB e n)(w:m<=n):lB e m:=λk a=>h k (by omega)
def RV (e n):top e (n+1)=LJ (e n) ((D2 e n).take (P0 (e n))).reverse:=rfl
def LR (e n):(T1 e n).length<=n:=by induction n <;> grind[T1]
def IE (n):P0 n<=3:=by grind[P0,ar]
def qdk (e)(p:Ph->Prop)(f:∀n a x,x∈a->p x->a.length=P0 n->p (LJ n a)){n m}(O:n<=m)(D:lB e m)(h:∃x,x∈D2 e n/\p x):∃x,x∈D2 e m/\p x:=by induction m with|zero=>obtain rfl:n=0:=(by omega);exact h|succ m l=>by_cases a:n=m+1;{subst a;exact h};obtain⟨x,t,w⟩:=l (by omega) (D.le (by omega));rw[<- Vg (P0 (e m)) (D2 e m)]at t;rcases Zb.1 t with t|t;{refine⟨_,Zk,f _ _ x (Og.2 t) w ?_⟩;rw[Zh,Za,ZE];have:=D m (by omega);omega};exact⟨x,Z5 _ t,w⟩
def Hs {a x}(h:x∈a):x.d<=mx a:=by induction a <;> grind[mx]
theorem BQ (a b):mx (a++b)=max (mx a) (mx b):=by induction a <;> grind[mx]
def Db (a):mx a.reverse=mx a:=by induction a <;> grind[mx,BQ]
def tot:List Ph->Nat
 | []=>0
 | p :: r=>p.t.size+tot r
theorem QU (a b):tot (a++b)=tot a+tot b:=by induction a <;> grind[tot]
def yU (a):tot a.reverse=tot a:=by induction a <;> grind[tot,QU]
def Fj {a x}(h:x∈a):x.t.size<=tot a:=by induction a <;> grind[tot]
def WG (b:Nat):Bool:=decide (97<=b/\b<=122)
def CM (b:Nat):Bool:=decide (48<=b/\b<=57)
def DB (b:Nat):Bool:=WG b||CM b||decide (b=95)
def yG:List (List UInt8):=[[108,97,98,101,108],[98,101,108,111,119],[114,111,108,101],[102,105,101,108,100],[105,110,116],[98,111,111,108],[116,101,120,116],[97,116],[97,117,116,111],[98,121],[105,115],[119,104,101,110],[118,97,108,105,100],[115,97,121,115],[109,117,115,116],[97,110,100],[111,114],[110,111,116],[116,114,117,101],[102,97,108,115,101],[98,108,97,110,107]]
def FH (s:Tb):Bool:=yG.any λx=>s.toList==x
def G7 (s:Tb):Bool:=decide (1<=s.size/\s.size<=16)&&WG (s.data.getD 0 0).toNat&&(s.data.toList.all λc=>DB c.toNat)&&!FH s
def m7 (n:Nx):Bool :=
 if n.op=0 then decide (n.nm.size=0)&&E2 n.v.k n.v.n n.v.s&&decide (n.v.k≠4)&&decide (0<=n.v.n)
 else if n.op=1 then decide (n.v.k=0/\n.v.n=0/\n.v.s.size=0)&&G7 n.nm
 else decide (2<=n.op/\n.op<=25)&&decide (n.v.k=0/\n.v.n=0/\n.v.s.size=0)&&decide (n.nm.size=0)
def zE (l p):p.t.size<=(wrap l p).size/\(wrap l p).size<=p.t.size+2:=by grind[wrap,mG]
def qii:∀k:Fin 26,2<=k.val->1<=(qH.getD k.val ⟨#[]⟩).size/\(qH.getD k.val ⟨#[]⟩).size<=7:=by decide +kernel
def WN {op}(G:2<=op)(h1:op<=25):1<=(F9 op).size/\(F9 op).size<=7:=qii ⟨op.toNat,by omega⟩ (by show 2<=op.toNat;omega)
def qrx (a):(jt (a.map (·.t))).size=tot a+2*a.length:=by induction a with|nil=>rfl|cons p r l=>simp only[Zy,jt,Yx,l,tot,Y4,mG,Zq,Ze];omega
def zR (a):tot a<=(jn (a.map (·.t))).size/\(jn (a.map (·.t))).size<=tot a+2*a.length:=by cases a with|nil=>exact⟨nR 0,nR 0⟩|cons p r=>simp only[Zy,jn,Yx,qrx,tot,Y4];omega
def uS {op}(G:2<=op)(h1:op<=25)(h:E5 op≠7)(p:op≠2)(a:op≠3):ar op=2:=by grind[E5,ar]
def PK {op}(h:op=2\/op=3):ar op=1:=by grind[ar]
def VH {K:Type}{a:List K}(h:a.length=1):∃x,a=[x]:=by match a,h with|[x],_=>exact⟨x,rfl⟩
def PS {K:Type}{a:List K}(h:a.length=2):∃x y,a=[x,y]:=by match a,h with|[x,y],_=>exact⟨x,y,rfl⟩
def Mf (n a)(P:m7 n=Tt)(H:a.length=P0 n)(h1:n.v.n<=9223372036854775807):tot a+1+n.v.s.size<=(vB n a).size/\(vB n a).size<=tot a+1100:=by unfold m7 at P;unfold vB;by_cases G:n.op=0;{rw[Yy G]at P|-;simp only[Yr,Y3]at P;have:a=[]:=(by have e:P0 n=0:=(by unfold P0;rw[G];rfl);rw[e]at H;exact Zj.1 H);subst this;have:=qcp n.v.k n.v.n n.v.s P.1.1.2 P.2 h1;simp only[tot];omega};rw[Ys G]at P|-;by_cases d:n.op=1;{rw[Yy d]at P|-;simp only[Yr,Y3,G7]at P;have:a=[]:=(by have e:P0 n=0:=(by unfold P0;rw[d];rfl);rw[e]at H;exact Zj.1 H);subst this;simp only[tot];omega};rw[Ys d]at P|-;simp only[Yr,Y3]at P;obtain⟨⟨⟨B,i⟩,⟨-,-,c⟩⟩,-⟩:=P;have W:=WN B i;by_cases p:n.op=2;{rw[Yy p];have e:P0 n=1:=(by unfold P0;rw[PK (.inl p)];rfl);obtain⟨x,rfl⟩:=VH (H.trans e);have:=zE 6 x;simp only[Ve,Yx,tot,mG,Zq,Y4,Ze];omega};rw[Ys p];by_cases b:n.op=3;{rw[Yy b];have e:P0 n=1:=(by unfold P0;rw[PK (.inr b)];rfl);obtain⟨x,rfl⟩:=VH (H.trans e);have:=zE 6 x;simp only[Ve,Yx,tot,mG,Zq,Y4,Ze];omega};rw[Ys b];by_cases z:E5 n.op=7;{rw[Yy z];have:=zR a;have b:=IE n;simp only[Yx,mG,Zq,Y4,Ze];omega};rw[Ys z];have e:P0 n=2:=(by unfold P0;rw[uS B i z p b];rfl);obtain⟨x,y,rfl⟩:=PS (H.trans e);have Z:=zE (EF n.op) x;have L:=zE (E5 n.op+1) y;simp only[Ve,Ot,Yx,tot,mG,Zq,Y4,Ze];omega
def lD (e:Nat->Nx):Nat->Nat
 | 0=>0
 | n+1=>lD e n+1+(e n).v.s.size
def lE (e:Nat->Nx)(n:Nat):Prop:=∀k,k<n->m7 (e k)=Tt
def lE.le {e n m}(h:lE e n)(w:m<=n):lE e m:=λk a=>h k (by omega)
theorem OW (e n)(D:lB e n)(P:lE e n)(c:∀k,k<n->(e k).v.n<=9223372036854775807):lD e n<=tot (D2 e n)/\tot (D2 e n)<=1100*n:=by induction n with|zero=>simp[lD,D2,tot]|succ n l=>have:=l (D.le (by omega)) (P.le (by omega)) (λk a=>c k (by omega));have a:((D2 e n).take (P0 (e n))).reverse.length=P0 (e n):=(by rw[Zh,Za,ZE];have:=D n (by omega);omega);have f:=Mf (e n) _ (P n (by omega)) a (c n (by omega));have F:tot (D2 e n)=tot ((D2 e n).take (P0 (e n))).reverse+tot ((D2 e n).drop (P0 (e n))):=(by rw[yU,<- QU,Vg]);simp only[D2,tot,LJ,lD];omega
def lF (e:Nat->Nx)(m:Nat):Prop:=1<=m/\m<=1000/\lE e m/\lB e m/\(T1 e m).length=1/\(top e m).d<=64/\(top e m).t.size<=4000
theorem IW {e m}(h:(T1 e m).length=1):D2 e m=[top e m]:=by rw[<- ZE]at h;obtain⟨x,t⟩:=VH h;rw[top,t];rfl
def lF.part {e m n}(h:lF e m)(i:∀k,k<m->(e k).v.n<=9223372036854775807)(h1:1<=n)(P:n<=m):(top e n).d<=64/\(top e n).t.size<=4000:=by obtain⟨-,-,H,F,b,q,z⟩:=h;have f:=IW b;obtain⟨n,rfl⟩:∃k,n=k+1:=⟨n - 1,by omega⟩;constructor;{refine Decidable.byContradiction λM=>?_;obtain⟨x,a,c⟩:=qdk e (λp=>64<p.d) (λn g x a f _=>by have:=Hs a;show 64<mx g+1;have f:64<x.d:=f;omega) P F ⟨_,Zk,by show 64<(top e (n+1)).d;omega⟩;rw[f]at a;obtain rfl:=Y7.1 a;have c:=c;omega};refine Decidable.byContradiction λM=>?_;have o:∀j,n+1<=j->j<=m->∃x,x∈D2 e j/\4000<x.t.size:=(by intro j;induction j with|zero=>intro h;omega|succ j l=>intro h1 p;by_cases s:n=j;{subst s;exact⟨_,Zk,by show 4000<(top e (n+1)).t.size;omega⟩};obtain⟨x,a,w⟩:=l (by omega) (by omega);rw[<- Vg (P0 (e j)) (D2 e j)]at a;rcases Zb.1 a with a|a;{refine⟨_,Zk,?_⟩;have b:((D2 e j).take (P0 (e j))).reverse.length=P0 (e j):=(by rw[Zh,Za,ZE];have:=F j (by omega);omega);have f:=(Mf (e j) _ (H j (by omega)) b (i j (by omega))).1;have:=Fj (Og.2 a);show 4000<(vB _ _).size;omega};exact⟨x,Z5 _ a,w⟩);obtain⟨x,a,c⟩:=o m P (nR _);rw[f]at a;obtain rfl:=Y7.1 a;omega
def lF.sum {e m}(h:lF e m)(c:∀k,k<m->(e k).v.n<=9223372036854775807):lD e m<=4000:=by grind[tot,lF,lD,OW,IW]
end
section
open Go Go.RowKit Go.Proofs.Tryz
def zW {op}(h:¬ (2<=op/\op<=15)):E5 op=7:=by grind[E5]
def H_ (op w):Calls prog 178 #[Yd op] w λe j=>e=Rt (Yd (E5 op))/\j=w:=by by_cases h:2<=op/\op<=15;{have h:op=2\/op=3\/op=4\/op=5\/op=6\/op=7\/op=8\/op=9\/op=10\/op=11\/op=12\/op=13\/op=14\/op=15:=(by omega);rcases h with rfl|rfl|rfl|rfl|rfl|rfl|rfl|rfl|rfl|rfl|rfl|rfl|rfl|rfl;all_goals go_enter func178,ntmps178;go_wp2;go_ret;exact⟨rfl,rfl⟩};rw[zW h];have t:(op==3)=Ff:=Yh.2 (by omega);have n:(op==4)=Ff:=Yh.2 (by omega);have k:(op==5)=Ff:=Yh.2 (by omega);have L:(op==6)=Ff:=Yh.2 (by omega);have H:(op==7)=Ff:=Yh.2 (by omega);have a:(op==8)=Ff:=Yh.2 (by omega);have C:(op==9)=Ff:=Yh.2 (by omega);have r:(op==10)=Ff:=Yh.2 (by omega);have o:(op==11)=Ff:=Yh.2 (by omega);have P:(op==12)=Ff:=Yh.2 (by omega);have p:(op==13)=Ff:=Yh.2 (by omega);have F:(op==14)=Ff:=Yh.2 (by omega);have G:(op==15)=Ff:=Yh.2 (by omega);rcases (show op<2\/15<op by omega) with V|V;all_goals go_enter func178,ntmps178;go_wp2;go_ret;exact⟨rfl,rfl⟩
def K_ (op w):Calls prog 345 #[Yd op] w λe j=>e=Rt (Yd (E5 op))/\j=w:=by by_cases h:2<=op/\op<=15;{have h:op=2\/op=3\/op=4\/op=5\/op=6\/op=7\/op=8\/op=9\/op=10\/op=11\/op=12\/op=13\/op=14\/op=15:=(by omega);rcases h with rfl|rfl|rfl|rfl|rfl|rfl|rfl|rfl|rfl|rfl|rfl|rfl|rfl|rfl;all_goals go_enter func345,ntmps345;go_wp2;go_ret;exact⟨rfl,rfl⟩};rw[zW h];rcases (show op<2\/15<op by omega) with V|V;all_goals go_enter func345,ntmps345;go_wp2;go_ret;exact⟨rfl,rfl⟩
def Fv (op w)(G:16<=op)(h1:op<=25):Calls prog 180 #[Yd op] w λe j=>e=Rt (St (F9 op))/\j=w:=by have h:op=16\/op=17\/op=18\/op=19\/op=20\/op=21\/op=22\/op=23\/op=24\/op=25:=(by omega);rcases h with rfl|rfl|rfl|rfl|rfl|rfl|rfl|rfl|rfl|rfl;all_goals go_enter func180,ntmps180;go_wp2;go_ret;exact⟨rfl,rfl⟩
def Sa (op w)(G:4<=op)(h1:op<=15):Calls prog 181 #[Yd op] w λe j=>e=Rt (St (F9 op))/\j=w:=by have h:op=4\/op=5\/op=6\/op=7\/op=8\/op=9\/op=10\/op=11\/op=12\/op=13\/op=14\/op=15:=(by omega);rcases h with rfl|rfl|rfl|rfl|rfl|rfl|rfl|rfl|rfl|rfl|rfl|rfl;all_goals go_enter func181,ntmps181;go_wp2;go_ret;exact⟨rfl,rfl⟩
def wN (w):Gv 49 #[] w (.agg Jd):=by go_enter func49,ntmps49;go_wp2;exact bQ ⟨rfl,(bR _ _).alloc (nR _) _⟩
def yN (b w):Gv 122 #[Bo b] w (.agg #[Yd 2,Yd (if b then 1 else 0),Yf]):=by cases b;{go_enter func122,ntmps122;go_wp2;exact bQ ⟨rfl,(bR _ _).alloc (nR _) _⟩};go_enter func122,ntmps122;go_wp2;exact bQ ⟨rfl,(bR _ _).alloc (nR _) _⟩
theorem EG (n w):Gv 46 #[Yd n] w (.agg (Ya n)):=by go_enter func46,ntmps46;go_wp2;exact bQ ⟨rfl,(bR _ _).alloc (nR _) _⟩
def zN (s w):Gv 48 #[St s] w (.agg #[Yd 3,Yd 0,St s]):=by go_enter func48,ntmps48;go_wp2;exact bQ ⟨rfl,(bR _ _).alloc (nR _) _⟩
def OJ (w):Gv 141 #[] w (.agg Jd):=by go_enter func141,ntmps141;go_wp2;exact bQ ⟨rfl,(bR _ _).alloc (nR _) _⟩
def tC (b w):Gv 101 #[Bo b] w (.agg #[Yd 2,Yd (if b then 1 else 0),Yf]):=by cases b;{go_enter func101,ntmps101;go_wp2;exact bQ ⟨rfl,(bR _ _).alloc (nR _) _⟩};go_enter func101,ntmps101;go_wp2;exact bQ ⟨rfl,(bR _ _).alloc (nR _) _⟩
theorem rN (n w):Gv 294 #[Yd n] w (.agg (Ya n)):=by go_enter func294,ntmps294;go_wp2;exact bQ ⟨rfl,(bR _ _).alloc (nR _) _⟩
def TT (s w):Gv 287 #[St s] w (.agg #[Yd 3,Yd 0,St s]):=by go_enter func287,ntmps287;go_wp2;exact bQ ⟨rfl,(bR _ _).alloc (nR _) _⟩
def KT (op w):Calls prog 169 #[Yd op] w λe j=>e=Rt (Bo (decide (2<=op/\op<=25)))/\j=w:=by by_cases p:2<=op;{by_cases d:op<=25;{rw[Yl ⟨p,d⟩];go_enter func169,ntmps169;go_wp2;go_ret;exact⟨by simp,rfl⟩};have e:decide (2<=op/\op<=25)=Ff:=Yj (λh=>d h.2);rw[e];go_enter func169,ntmps169;go_wp2;go_ret;exact⟨by simp,rfl⟩};have e:decide (2<=op/\op<=25)=Ff:=Yj (λh=>p h.1);rw[e];go_enter func169,ntmps169;go_wp2;go_ret;exact⟨by rfl,rfl⟩
def opn (op:Int):Int:=if op=2\/op=3\/op=21\/op=22\/op=23\/op=24\/op=25 then 1 else if op=16 then 3 else 2
def GS (op):ar op=if 2<=op/\op<=25 then opn op else 0:=by grind[ar,opn]
def Pv (op w):Calls prog 170 #[Yd op] w λe j=>e=Rt (Yd (opn op))/\j=w:=by rcases Td op with (rfl|rfl|rfl|rfl|rfl|rfl|rfl|rfl)|⟨⟨d,k,t,n⟩,⟨a,L,H,G⟩,-⟩;(case inr=>have e:opn op=2:=(by rw[opn,Ys (by omega),Ys G]);rw[e];go_enter func170,ntmps170;go_wp2;go_ret;exact⟨rfl,rfl⟩);all_goals (go_enter func170,ntmps170;go_wp2;go_ret;exact⟨rfl,rfl⟩)
def v_ (H G s w)(F:s.size<=9223372036854775807)(a:-9223372036854775808<=G)(h1:G<=9223372036854775807):Gv 39 #[.agg (Jc H G s)] w (St (q9 H G s)):=by obtain⟨L,Z⟩:=oB (And.intro a h1) (m0.new w 46 (Jc H G s));have O:Hi (Bw w (w.alloc (Cl (Jc H G s) 46))):=(bR _ _).alloc (nR _) _;go_enter func39,ntmps39;go_wp2_with fail;refine cQ (xI H G s _ F) λg A=>?_;replace Z:=mB Z A;replace O:=mT O A;obtain⟨B,C,l⟩:=R0 Z;cases D:E2 H G s;{go_wp2;go_ret;exact⟨kA (by simp[q9,D]),O⟩};rcases kz9 H with rfl|rfl|rfl|rfl|rfl|⟨b,i,y,c,K⟩;{go_wp2;go_ret;exact⟨kA (by simp[q9,D]),O⟩};{go_wp2_with fail;refine cQ (nN G _ L.1 L.2) λf T=>?_;replace O:=mT O T;go_wp2;go_ret;exact⟨kA (by simp[q9,D]),O⟩};{by_cases d:G=1;all_goals go_wp2;go_ret;exact⟨kA (by first|(subst d;simp[q9,D];done)|(simp[q9,D,d])),O⟩};{have e:s.size<=1000:=(by simp[E2]at D;exact(KL.1 D.2).1);go_wp2;go_ret;exact⟨kA (by simp[q9,D]),O⟩};{go_wp2_with fail;refine cQ (nN G _ L.1 L.2) λf T=>?_;replace O:=mT O T;clear T;have e:=wQ G L.1 L.2;obtain⟨S,N⟩:∃S:Tb,S=⟨(Lib.itoa G).toArray⟩:=⟨_,rfl⟩;rw[<- N]at e|-;have E:=h_ N;clear N;go_wp2;go_ret;exact⟨kA (by have:=E.u;simp[q9,D,this]),O⟩};simp[E2,b,i,y,c,K]at D
def e_ (H G s w)(F:s.size<=9223372036854775807)(b:-9223372036854775808<=G)(h1:G<=9223372036854775807)(z:yC w):Gv 286 #[.agg (Jc H G s)] w (St (q9 H G s)):=by obtain⟨L,Z⟩:=oB (And.intro b h1) (m0.new w 46 (Jc H G s));have O:Hi (Bw w (w.alloc (Cl (Jc H G s) 46))):=(bR _ _).alloc (nR _) _;go_enter func286,ntmps286;go_wp2_with fail;refine cQ (xI H G s _ F) λf A=>?_;replace Z:=mB Z A;replace O:=mT O A;obtain⟨B,C,l⟩:=R0 Z;have Y:=h_ (z.mono O);cases D:E2 H G s;{go_wp2;go_ret;exact⟨kA (by simp[q9,D]),O⟩};rcases kz9 H with rfl|rfl|rfl|rfl|rfl|⟨c,i,y,d,K⟩;{go_wp2;go_ret;exact⟨kA (by simp[q9,D]),O⟩};{go_wp2_with fail;refine cQ (ST 1 G s _ L.1 L.2 Y) λa T=>?_;replace O:=mT O T;go_wp2;go_ret;exact⟨kA (by simp[q9,pG,D]),O⟩};{go_wp2_with fail;refine cQ (ST 2 G s _ L.1 L.2 Y) λa T=>?_;replace O:=mT O T;clear T;go_wp2;go_ret;exact⟨kA (by simp[q9,pG,D]),O⟩};{have e:s.size<=1000:=(by simp[E2]at D;exact(KL.1 D.2).1);go_wp2;go_ret;exact⟨kA (by simp[q9,D]),O⟩};{go_wp2_with fail;refine cQ (tU G _ L.1 L.2 Y) λa T=>?_;replace O:=mT O T;clear T;have e:=wQ G L.1 L.2;obtain⟨S,N⟩:∃S:Tb,S=⟨(Lib.itoa G).toArray⟩:=⟨_,rfl⟩;rw[<- N]at e|-;have E:=h_ N;clear N;go_wp2;go_ret;exact⟨kA (by have:=E.u;simp[q9,D,this]),O⟩};simp[E2,c,i,y,d,K]at D
variable {p:Prop}
def kv(h:p:=by simp[intOf];omega):p:=h
def kw(h:p:=by simp[execOp,go_sem, *]):p:=h
def kQ(h:p:=by simp[Instr.index,run_underlying underlying231,asIntOf,go_sem,T8]):p:=h
def kJ(h:p:=by go_enter func157,ntmps157;exact ir):p:=h
def kZ(h:p:=by exact⟨rfl,rfl⟩):p:=h
def kX(h:p:=by go_enter func123,ntmps123;exact ir):p:=h
def kV(h:p:=by rw[IntKind.wrap_i64];omega):p:=h
def kW(h:p:=by go_wp2_with fail;refine wG v.u λh=>?_;have hC:=N.u;refine tq 0 1 2 h ?_;refine tq 3 4 5 h ?_;refine ZS 6 9 v.u.drew (Ts p q _) λD Y=>?_;have h:=Y.B;refine G0 7 h ?_;refine uH 8 9 11 Y (LS z e.u) ?_;intro H a d;obtain⟨E,l,y⟩:=R0 a;have M:=h_ d;clear hC a d h;go_wp2;exact jJ):p:=h
def kK(h:p:=by go_wp2;go_ret;exact⟨rfl,l⟩):p:=h
def k6(h:p:=by obtain rfl:k=a+1:=fK;have q:=f.2;rw[nO h fZ,nO i fZ]at q;have U:b=0:=(by have h2:=Yv (QF h) (Zn (n:=10) fM K.1);have h3:=Yv (QF i) (Zn (n:=10) fM K.2);rw[Nat.pow_succ]at q;rcases (by omega:b=0\/b=1) with p|p;{exact p};subst p;omega);exact i2):p:=h
def k7(h:p:=by have a:Hi (decide (d<=32/\k<=256/\t<=64/\n<=200)=Ff):=h_ (Yj fK);exact iC):p:=h
def k8(h:p:=by go_wp2;go_ret2;exact⟨c.symm,b.u⟩):p:=h
def k9(h:p:=by simp[Addr.add];try exact λh=>h.symm):p:=h
def Kq(h:p:=by simp[execOp,go_sem]):p:=h
def Kj(h:p:=by dsimp only;omega):p:=h
def Kz(h:p:=by have K:Hi (∀j (h:j<l.length),j<k+1->l[j]≠s):=h_ λj h b=>(by by_cases n:j=k;{subst n;exact B};exact G j h fK);rw[Yj B]at g;generalize l[k]=t at *;refine rQ ?_;exact⟨k+1,fK,fP,K,by first|rfl|trivial⟩):p:=h
def Kx(h:p:=by (repeat' split) <;> simp_all):p:=h
def Kv(h:p:=by have H:=(show aR.ownsRow V.1.size 9 1 aV (fW m f).length (I3 (fW m f)) by rw[<- HE.u,Yk];exact H);obtain⟨a1,c1,rfl,aB,hS⟩:=sN H;have an:=h_ hS;go_wp2;go_ret;exact jg):p:=h
def Kw(h:p:=by rw[bp]at e6;subst e6;have bd:=h_ aa;clear J ad ac aa K ap ag aw y0 y1 y2 y3 z0 z1 bp;go_wp2;go_roundw;exact⟨j+1,x6,n6,c6,fK,fK,fP,rfl,bd,a0⟩;exact j4):p:=h
def Kk(h:p:=by rw[yE fK fK];omega):p:=h
def KQ(h:p:=by simp[execOp,go_sem,z]):p:=h
def KJ(h:p:=by go_wp2;go_ret;exact⟨rfl,bR _ _⟩):p:=h
def KZ(h:p:=by by_cases I:(f r).k=1;{have O:((f r).k==1)=Tt:=beq_iff_eq.2 I;exact jr};have O:=nq I;have ae:((f r).k==3)=Tt:=beq_iff_eq.2 fK;exact jr):p:=h
def KX(h:p:=by simp[execOp,go_sem,YN w H1.u fK]):p:=h
def KV(h:p:=by simp[execOp,go_sem,YN w H2.u fK]):p:=h
def KW(h:p:=by go_roundw;{first|exact⟨d+1,_,_,_,fK,fP,av⟩|((repeat apply Exists.intro);exact⟨⟨d+1,_,_,_,fK,fP,av⟩,rfl⟩)};exact j5):p:=h
def K0(h:p:=by refine uH 7 8 10 a.u.drew (LS z f.u) ?_;intro H d e;obtain⟨E,l,y⟩:=R0 d;have M:=h_ e;clear hC d e h;go_wp2;exact jJ):p:=h
def K7(h:p:=by unfold maxLen;omega):p:=h
def K8(h:p:=by rw[Yr,Zc,Y3];refine⟨λx t=>?_,Vb.2 λi j y s c g=>p j s i c g.symm⟩;obtain⟨k,a,rfl⟩:=Y8.1 t;exact h1 k a):p:=h
def K9(h:p:=by go_wp2;go_ret;exact⟨M2 L.symm,b⟩):p:=h
def uq(h:p:=by go_wp2;exact bQ ⟨rfl,O⟩):p:=h
def uj(h:p:=by simpa [ui] using T):p:=h
def uz(h:p:=by first|exact .inl rfl|exact .inr rfl):p:=h
def ux(h:p:=by go_wp2_with fail;refine cQ (tN x 6 _ ae) λy f=>?_;have b:=mT b f;generalize wrap 6 x=e at *;exact iI):p:=h
def uw(h:p:=by simp only[Value.slice.injEq]at e;obtain⟨rfl,-,rfl⟩:=e;exact .inl ⟨by rw[show r=0 by omega],fK⟩):p:=h
def uk(h:p:=by show w.heap[g]? = _;rw[B]):p:=h
def uQ(h:p:=by go_wp2;(go_quiet (fail));exact gY):p:=h
def uJ(h:p:=by simp[execOp,go_sem,YN w H3.u fK]):p:=h
def uZ(h:p:=by first|exact⟨k+1,fK,fP,Z,f⟩|((repeat apply Exists.intro);exact⟨⟨k+1,fK,fP,Z,f⟩,rfl⟩)):p:=h
def uX(h:p:=by rw[o];go_enter func220,ntmps220;go_wp2;(go_quiet (fail));go_wp2;(go_quiet (fail));exact i5):p:=h
def uV(h:p:=by exact(bR _ _).drew):p:=h
def uW(h:p:=by rw[vA,Yy rfl];rfl):p:=h
def uK(h:p:=by have L:Hi (m7 n=Ff):=h_ (by rw[V,Yj fK];rfl);clear V;go_enter func174,ntmps174;exact ia):p:=h
def Uq(h:p:=by go_enter func190,ntmps190;go_wp2_with fail;(try rw[G]);clear G;clear g c1 c2 d2;exact jB):p:=h
def Uj(h:p:=by rw[show A9 O D f=Ff by rw[N,Yj (show ¬ (-1<=f.lb/\f.lb<O) by omega),Gp];rfl];exact iH):p:=h
def Uz(h:p:=by rw[e]at h;have I:=h.symm.trans V1;simp at I):p:=h
def Ux(h:p:=by obtain⟨⟨U,W,Y⟩,G,I,L⟩:=R.val;go_wp2;all_goals exact bQ ⟨rfl,R.u.out _ _ _⟩):p:=h
def Uv(h:p:=by have L:Hi (q=Ff):=h_ (by rw[N,Yj fK];rfl);clear N;go_enter func224,ntmps224;exact iD):p:=h
def Uw(h:p:=by rw[e,P]at x;simp at x):p:=h
def Uk(h:p:=by exact Q7 ac fK fK fK):p:=h
def UQ(h:p:=by (repeat refine N4 h ?_);refine O2 ?_;refine rQ ?_;exact⟨k+1,_,fK,fP,rfl,K,HD⟩):p:=h
def UJ(h:p:=by have r:(a*n+b) / n=a/\(a*n+b) % n=b:=(by exact je);rw[r.1,r.2]at s;exact⟨e,j,s⟩):p:=h
def UZ(h:p:=by exact((bR _ w).alloc (nR _) _).alloc fN _):p:=h
def UX(h:p:=by intro H a d;obtain⟨E,k,y⟩:=R0 a;have M:=h_ d;clear hC a d h;go_wp2;exact jJ):p:=h
def UV(h:p:=by rw[decide_eq_decide];omega):p:=h
def UW(h:p:=by simp only[Yi]at I;simp[execOp,go_sem,I]):p:=h
def UK(h:p:=by have p:=h n (Z6 _);by_cases c:M n=Tt;{rw[Yy c,Yy (p c)];omega};rw[Ys c];omega):p:=h
def U2(h:p:=by have d:(u.k==0)=Tt:=gN;have b:(u.n==0)=Tt:=(by simp[p]);clear m p a;exact ij):p:=h
def U3(h:p:=by go_wp2_with fail;exact ii):p:=h
def U4(h:p:=by rintro C W ⟨rfl,nq,h⟩;have e:Bw y W:=(by rw[h];exact KF _ nq);exact jq):p:=h
def U5(h:p:=by refine G0 16 h ?_;refine G0 17 h ?_;refine O2 ?_;have M:=mT g h;exact ki):p:=h
def U6(h:p:=by go_wp2;go_ret;exact⟨kA L.symm,l⟩):p:=h
def U7(h:p:=by refine rQ ?_;exact⟨k+1,fK,fP,Z,b⟩):p:=h
def U8(h:p:=by refine O2 ?_;go_wp2;go_ret;exact⟨_,rfl,J,l.u.trans (x.mono l.u.size)⟩):p:=h
def U9(h:p:=by simp only[Zs,O0,Zy,Vy,Gi,Gr,Zx];have:=l λj s=>h j fK;have:=h n fK;omega):p:=h
def Hq(h:p:=by go_enter func107,ntmps107;exact ir):p:=h
def Hj(h:p:=by obtain⟨I,q1,q2,q3,q4⟩:=C2 N.1;simp[execOp,go_sem,I,q1,q2,q3,q4]):p:=h
def Hz(h:p:=by go_ret;refine⟨D.1.size,?_,j,?_,M⟩;{rw[U.u];rfl};rw[U.u];exact L):p:=h
def Hx(h:p:=by simp[execOp,go_sem,YN w H4.u fK]):p:=h
def Hv(h:p:=by simp[execOp,go_sem,YN w H5.u fK]):p:=h
def H9(h:p:=by exact qdb fT (.tmp 10) rfl l.1.size 0 _ rfl (λ_ h=>h.2.2.2.2.2.1)):p:=h
def Dq(h:p:=by rw[Int.natAbs_tdiv];exact rD (Vz (Vp _ _) (Yv (FI _) (Zn fM l)))):p:=h
def Dj(h:p:=by rw[<- z];exact H.other (λe=>by have:=D Q e;have:=d.lt;omega) K _):p:=h
def Dz(h:p:=by exact c.congr (λi _=>by by_cases d:i=k <;> simp[d]) (λ_ _=>rfl)):p:=h
def Dx(h:p:=by exact⟨Nn,0,by rw[G],fK,λ_=>⟨Zj.1 G,rfl⟩,λ_ _ _ h=>gD⟩):p:=h
def Dv(h:p:=by rw[XJ,X.u,CH,CH,<- sF h,<- sF i,L.u,I.u];exact qik f.2 rfl):p:=h
def Dw(h:p:=by rw[l.u];exact⟨W.ow.b,W.ow.i,V.low ak.bl.size,W.ow.v,W.ow.u⟩):p:=h
def Dk(h:p:=by go_enter func190,ntmps190;go_wp2_with fail;(try rw[G]);exact jy):p:=h
def DQ(h:p:=by obtain⟨⟨-,K,M,O⟩,-,R,T,U⟩:=N;simp[execOp,go_sem,K,M,O]):p:=h
def DJ(h:p:=by obtain⟨⟨-,K,M,O⟩,-,R,T,U⟩:=N;simp[execOp,go_sem,R,T,U]):p:=h
def DZ(h:p:=by exact⟨t+1,by simpa using z,by simpa using X,by simp[f,u]⟩):p:=h
def DX(h:p:=by have:=h p Zk;have:=N λy b=>h y (Z5 _ b);simp only[mx];omega):p:=h
def DV(h:p:=by have W:=W.symm;subst W;refine rQ ?_;exact⟨k+1,fK,fP,v,c⟩):p:=h
def DW(h:p:=by go_enter func219,ntmps219;go_wp2;exact bQ ⟨rfl,bR _ _⟩):p:=h
def DK(h:p:=by refine⟨0,fK,λd o=>?_⟩;obtain rfl:d=0:=fK;exact O 0 fK):p:=h
def D0(h:p:=by first|exact⟨_,⟨_,rfl⟩,E,T⟩|exact⟨_,_,rfl,E,T⟩):p:=h
