import Derived.Test.YtmdjbldpclbkhaaGreatDoorRows
import Derived.WalkKit
import Derived.ProofKit
import Derived.BigQuiet
set_option linter.all false
namespace Go.Proofs.YtmdjbldpclbkhaaGreatDoor
open Value renaming slice->Sl,string->St,bool->Bo
open Obj renaming cells->Cl
open Ending renaming returned->Rt
open Go Go.RowKit Go.Proofs.Tryz
def fP {p:Prop}(h:p:=by omega):p:=h
def fQ {p:Prop}(h:p:=by (first | simp only[Yj,Yk] | skip);rfl):p:=h
def fR {p:Prop}(h:p:=by kernel_rfl):p:=h
def fS {p:Prop}(h:p:=by decide):p:=h
def fT {p:Prop}(h:p:=by simp):p:=h
def fU {p:Prop}(h:p:=by simp[Value.oneCell']):p:=h
def fX {p:Prop}(h:p:=by go_num):p:=h
def fY {p:Prop}(h:p:=by show _≠w.1.size+1;omega):p:=h
def fZ {p:Prop}(h:p:=by unfold maxLen;omega):p:=h
def f9 {p:Prop}(h:p:=by simp;omega):p:=h
def gb {p:Prop}(h:p:=by rfl):p:=h
def gd {p:Prop}(h:p:=by simp[execOp,go_sem]):p:=h
def gg {p:Prop}(h:p:=by simp[results,results99,go_sem, *];try omega):p:=h
def gh {p:Prop}(h:p:=by simp[results,results11,go_sem,I,J,K,M]):p:=h
def gi {p:Prop}(h:p:=by simp[results,results4,go_sem,M,N,O,P]):p:=h
def gm {p:Prop}(h:p:=by have:=c.size;simp;omega):p:=h
def gn {p:Prop}(h:p:=by assumption):p:=h
def go {p:Prop}(h:p:=by show _≠w.1.size+2;omega):p:=h
def gp {p:Prop}(h:p:=by simp[results,results69,go_sem,k0,k1,j0,j1,j2,j3,j4,j5,j6,j7,j8,j9,ae,ag]):p:=h
def gq {p:Prop}(h:p:=by simp[results,results75,go_sem,z,A,B,C,D]):p:=h
def gr {p:Prop}(h:p:=by simp <;> omega):p:=h
def gs {p:Prop}(h:p:=by simp[execOp,go_sem,<- hY]):p:=h
def gt {p:Prop}(h:p:=by simp[fCs,Value.oneCell']):p:=h
def gu {p:Prop}(h:p:=by rw[<- Zq];omega):p:=h
def gw {p:Prop}(h:p:=by simp[results,results6,go_sem,kaK, *]):p:=h
def gy {p:Prop}(h:p:=by have:=b.size;simp;omega):p:=h
def gz {p:Prop}(h:p:=by have:=f.size;simp;omega):p:=h
def gA {p:Prop}(h:p:=by simp[results,results54,go_sem,x0,x1,x2]):p:=h
def gC {p:Prop}(h:p:=by simpa using b):p:=h
def gD {p:Prop}(h:p:=by simpa using a):p:=h
def gE {p:Prop}(h:p:=by simp[results,results172,go_sem,kaK, *]):p:=h
def gF {p:Prop}(h:p:=by rw[Int.natAbs_neg];have:=P.u;omega):p:=h
def gG {p:Prop}(h:p:=by simp[results,results23,go_sem,t,x]):p:=h
def gH {p:Prop}(h:p:=by have:=r.size;simp;omega):p:=h
def gI {p:Prop}(h:p:=by have:=h.size;simp;omega):p:=h
def gJ {p:Prop}(h:p:=by have:=i.size;simp;omega):p:=h
def gK {p:Prop}(h:p:=by have:=ab.u;have:=y.size;omega):p:=h
def gL {p:Prop}(h:p:=by simp[kaj,c]):p:=h
def gM {p:Prop}(h:p:=by simpa using c):p:=h
def gN {p:Prop}(h:p:=by simp[kai,c.u]):p:=h
def gO {p:Prop}(h:p:=by simpa using d):p:=h
def gP {p:Prop}(h:p:=by rw[HT.u];simpa [ui] using B):p:=h
def gQ {p:Prop}(h:p:=by have:=p.u;omega):p:=h
def gR {p:Prop}(h:p:=by have:=c.u;omega):p:=h
def gS {p:Prop}(h:p:=by have:=d.u;omega):p:=h
def gT {p:Prop}(h:p:=by have:=f.u;omega):p:=h
def gU {p:Prop}(h:p:=by have:=m.u;omega):p:=h
def gV {p:Prop}(h:p:=by have:=t.u;omega):p:=h
def gW {p:Prop}(h:p:=by have:=s.u;omega):p:=h
def gX {p:Prop}(h:p:=by rw[Yt];rfl):p:=h
def gY {p:Prop}(h:p:=by rw[b];decide):p:=h
def gZ {p:Prop}(h:p:=by cases a):p:=h
def hH {p:Prop}(h:p:=by simp[tb] <;> omega):p:=h
def hM {p:Prop}(h:p:=by rw[<- D]):p:=h
def hP {p:Prop}(h:p:=by simpa using g):p:=h
def hU {p:Prop}(h:p:=by have:=HL.u;omega):p:=h
def hZ {p:Prop}(h:p:=by rw[Zb];omega):p:=h
def h6 {p:Prop}(h:p:=by rw[<- E]):p:=h
abbrev To:=Option Addr
abbrev Tl:=List Value
abbrev Ta:=Array Value
abbrev Tb:=ByteArray
abbrev Tw:=World
abbrev Bw (w v:Tw):Prop:=Below w.1.size w v
abbrev Gv (f:FuncId)(a:Ta)(w:Tw)(v:Value):Prop:=Calls prog f a w λe x=>e=Rt v/\Bw w x
abbrev Jc:Ta:=#[Sl none 0 0,Sl none 0 0,Sl none 0 0,Sl none 0 0,.map none,.int .i64 0,Sl none 0 0,Sl none 0 0,Sl none 0 0,.int .i64 0,.int .i64 0,Sl none 0 0]
abbrev Je:Ta:=#[.int .i64 0,Sl none 0 0,Sl none 0 0,Sl none 0 0,.int .i64 0,.int .i64 0]
abbrev Jf:Ta:=#[Sl none 0 0,Sl none 0 0,Sl none 0 0,Sl none 0 0]
abbrev Jh(x0:Int)(x1:Int)(x2:Int)(x3:Int)(x4:Tb):Ta:=#[.int .i64 x0,.int .i64 x1,.int .i64 x2,.int .i64 x3,St x4]
abbrev Ji(x0:Int)(x1:To)(x2:Nat)(x3:Nat)(x4:To)(x5:Nat)(x6:To)(x7:Nat)(x8:Int)(x9:Int):Ta:=#[.int .i64 x0,Sl x1 x2 x3,Sl x4 x2 x5,Sl x6 x2 x7,.int .i64 x8,.int .i64 x9]
abbrev Jj:Ta:=#[St ⟨#[]⟩,.int .i64 0,.int .i64 0,Sl none 0 0,Sl none 0 0,Sl none 0 0,Sl none 0 0,St ⟨#[]⟩,Sl none 0 0]
abbrev Jm(x0:Int)(x1:Int)(x2:Tb):Ta:=#[.int .i64 x0,.int .i64 x1,St x2]
abbrev Jn(x0:To)(x1:Nat)(x2:Nat)(x3:To)(x4:Nat)(x5:Nat)(x6:To)(x7:Nat)(x8:Nat)(x9:To)(x10:Nat)(x11:Nat):Ta:=#[Sl x0 x1 x2,Sl x3 x4 x5,Sl x6 x7 x8,Sl x9 x10 x11]
abbrev Jo(x0:To)(x1:Nat)(x2:Nat)(x3:To)(x4:Nat)(x5:Nat)(x6:To)(x7:Nat)(x8:Nat):Ta:=#[Sl x0 x1 x2,Sl x3 x4 x5,Sl x6 x7 x8]
abbrev Jp:Ta:=#[Sl none 0 0,Sl none 0 0,Sl none 0 0]
abbrev Jq:Ta:=#[.int .i64 0,.int .i64 0]
abbrev Jr:Ta:=#[.int .i64 0,.int .i64 0,St ⟨#[]⟩]
abbrev Js:Ta:=#[Bo false,Sl none 0 0]
abbrev Jt(x0:Int)(x1:To)(x2:Nat)(x3:Nat):Ta:=#[.int .i64 x0,Sl x1 x2 x3]
abbrev Jv(x0:Int)(x1:Int):Ta:=#[.int .i64 x0,.int .i64 x1]
abbrev Jy:Ta:=#[St ⟨#[]⟩,.int .i64 0,.int .i64 0]
abbrev Jz(x0:Int)(x1:Int)(x2:Int)(x3:Tb)(x4:Tb):Ta:=#[.int .i64 x0,.int .i64 x1,.int .i64 x2,St x3,St x4]
abbrev J0(x0:Tb)(x1:Tb):Ta:=#[St ⟨#[114,111,108,101]⟩,St x0,St ⟨#[97,116]⟩,St x1]
abbrev J1:Tl:=[Sl none 0 0,Sl none 0 0,Sl none 0 0,Sl none 0 0]
abbrev J2(x0:Int)(x1:To)(x2:Nat)(x3:Nat)(x4:To)(x5:Nat)(x6:To)(x7:Nat)(x8:Int)(x9:Int):Tl:=[.int .i64 x0,Sl x1 x2 x3,Sl x4 x2 x5,Sl x6 x2 x7,.int .i64 x8,.int .i64 x9]
abbrev J3(x0:Tb)(x1:Tb):Ta:=#[St ⟨#[102,105,101,108,100]⟩,St x0,St x1,St ⟨#[97,116]⟩,St ⟨#[97,117,116,111]⟩]
abbrev J4(x0:Int)(x1:Int)(x2:Int)(x3:Int)(x4:Tb):Tl:=[.int .i64 x0,.int .i64 x1,.int .i64 x2,.int .i64 x3,St x4]
abbrev J5(x0:Tb)(x1:Int):Ta:=#[St x0,.int .i64 x1,.int .i64 (-1),Sl none 0 0,Sl none 0 0,Sl none 0 0,Sl none 0 0,St ⟨#[]⟩,Sl none 0 0]
abbrev J6:Ta:=#[Sl none 0 0,Sl none 0 0,Sl none 0 0,Sl none 0 0,.map none]
abbrev J7(x0:Tb)(x1:Int)(x2:Int):Ta:=#[St x0,.int .i64 x1,.int .i64 x2]
abbrev J8:Ta:=#[.int .i64 0,Sl none 0 0]
abbrev J9(x0:Tb)(x1:Tb):Ta:=#[St ⟨#[98,101,108,111,119]⟩,St x0,St x1]
abbrev Ya:Ta:=#[.agg #[.int .i64 0,.int .i64 0,.int .i64 0,.int .i64 0,St ⟨#[]⟩],Bo false]
abbrev Yb(x0:Int):Ta:=#[.int .i64 1,.int .i64 x0,St ⟨#[]⟩]
abbrev Yc:Tl:=[.int .i64 0,.int .i64 0,.int .i64 0,.int .i64 0,St ⟨#[]⟩]
abbrev Yd(x0:Tb):Ta:=#[.int .i64 3,.int .i64 0,St x0]
abbrev Ye(x0:Int):Ta:=#[.int .u32 x0]
abbrev Yf(x:Int):Value:=.int .i64 x
abbrev Yg:Value:=Sl none 0 0
abbrev Yh:Value:=St ⟨#[]⟩
abbrev Yi(b o:Nat):Value:=.pointer (some ⟨b,o,none⟩)
def kbi (w:Tw)(a:To)(n:Nat)(f:Nat->Bool):Prop :=
 ∀k,k<n->∃b off,a=some ⟨b,off,none⟩/\b<w.1.size/\w.cell? ⟨b,off+k,none⟩=some (Bo (f k))
def kbJ (w:Tw)(a:To)(n:Nat)(f:Nat->Int):Prop :=
 ∀k,k<n->∃b off,a=some ⟨b,off,none⟩/\b<w.1.size/\w.cell? ⟨b,off+k,none⟩=some (.int .i64 (f k))
def kbi.mono {w w':Tw}{a:To}{n:Nat}{f:Nat->Bool}(h:kbi w a n f)(c:Bw w w'):kbi w' a n f:=λe j=>by obtain⟨b,g,rfl,d,i⟩:=h e j;exact⟨b,g,rfl,Nat.lt_of_lt_of_le d c.size,(c.cell (p:=⟨b,g+e,none⟩) d).trans i⟩
def kbJ.mono {w w':Tw}{a:To}{n:Nat}{f:Nat->Int}(h:kbJ w a n f)(c:Bw w w'):kbJ w' a n f:=λe j=>by obtain⟨b,g,rfl,d,i⟩:=h e j;exact⟨b,g,rfl,Nat.lt_of_lt_of_le d c.size,(c.cell (p:=⟨b,g+e,none⟩) d).trans i⟩
def Blk (w:Tw)(g:Nat)(t:TypeId)(cs:Tl):Prop:=w.heap[g]? = some (Cl cs.toArray t (0,0))
def Blk.lt {w:Tw}{g:Nat}{t:TypeId}{cs:Tl}(a:Blk w g t cs):g<w.1.size:=(Array.getElem?_eq_some_iff.1 a).1
def Blk.cell {w:Tw}{g:Nat}{t:TypeId}{cs:Tl}(a:Blk w g t cs)(j:Nat):w.cell? ⟨g,j,none⟩=cs[j]?:=by simp only[World.cell?,show w.heap[g]? = _ from a];simp
def Blk.free {w:Tw}{g:Nat}{t:TypeId}{cs:Tl}(a:Blk w g t cs)(j:Nat):w.frozen? ⟨g,j,none⟩=false:=by simp only[World.frozen?,show w.heap[g]? = _ from a];simp
def Blk.mono {w w':Tw}{B g:Nat}{t:TypeId}{cs:Tl}(a:Blk w g t cs)(b:Below B w w')(c:g<B):Blk w' g t cs:=(b.block g c).trans a
def Blk.set {w:Tw}{g:Nat}{t:TypeId}{cs:Tl}(a:Blk w g t cs)(j:Nat)(v:Value):Blk (w.setCell ⟨g,j,none⟩ v) g t (cs.set j v):=by have:=heap_setCell_same w g j cs.toArray t v a;simpa [Blk] using this
def Blk.other {w:Tw}{g:Nat}{t:TypeId}{cs:Tl}(b:Blk w g t cs){a:Addr}(v:Value)(c:g≠a.block):Blk (w.setCell a v) g t cs:=(heap_setCell_other w a g v c).trans b
def Blk.alloc {w:Tw}{g:Nat}{t:TypeId}{cs:Tl}(a:Blk w g t cs)(o:Obj):Blk (w.alloc o) g t cs:=a.mono ((Below.refl w.1.size w).alloc (Nat.le_refl _) o) a.lt
def Blk.grown {w w':Tw}{g:Nat}{t:TypeId}{cs:Tl}{row:Option Nat}(a:Blk w g t cs)(b:w.grownBy w' row)(c:some g≠row):Blk w' g t cs:=(b.block g a.lt c).trans a
def Blk.new (w:Tw)(t:TypeId)(cs:Ta):Blk (w.alloc (Cl cs t)) w.1.size t cs.toList:=by simpa [Blk] using heap_alloc_new w (Cl cs t)
def Blk.of_owns {w:Tw}{base e g n:Nat}{x:Tl}(c:w.ownsRow base e 1 (Sl (some ⟨g,0,none⟩) n n) n x):Blk w g e x:=by rcases c.2 with ⟨a,_⟩ | ⟨i,f,h,a,_,d,_,_,j,b⟩;{simp at a};simp only[Value.slice.injEq,Option.some.injEq,Addr.mk.injEq,and_true,true_and]at a;obtain⟨rfl,rfl⟩:=a;rw[List.take_of_length_le (by simp;omega)]at b;rw[<- b];simpa [Blk] using d
def ka4 (w:Tw)(a b c d:Obj):Bw w ((((w.alloc a).alloc b).alloc c).alloc d):=((((Below.refl _ w).alloc (Nat.le_refl _) a).alloc (by simp) b).alloc (by simp;omega) c).alloc (by simp;omega) d
def Blk.cell4 {w:Tw}{g:Nat}{t:TypeId}{cs:Tl}(a:Blk w g t cs)(j:Nat)(b c d e:Obj):((((w.alloc b).alloc c).alloc d).alloc e).cell? ⟨g,j,none⟩=cs[j]?:=(a.mono (ka4 w b c d e) a.lt).cell j
def Blk.free4 {w:Tw}{g:Nat}{t:TypeId}{cs:Tl}(a:Blk w g t cs)(j:Nat)(b c d e:Obj):((((w.alloc b).alloc c).alloc d).alloc e).frozen? ⟨g,j,none⟩=false:=(a.mono (ka4 w b c d e) a.lt).free j
def qkd {a b:Bool}(c:a=b):Ending.returned (Bo a)=Rt (Bo b):=by rw[c]
def qr6 {k:IntKind}{a b:Int}(c:a=b):Ending.returned (.int k a)=Rt (.int k b):=by rw[c]
def Hi (p:Prop):Prop:=p
def Hi.u {p:Prop}(a:Hi p) :p:=a
def Hi.out {p:Prop}(a:Hi p) :p:=a
def Nq {b:Type}(x:b) :∃a,x=a:=⟨x,rfl⟩
def h_ {p:Prop}(a:p):Hi p:=a
def oB {a b:Prop}(c:a)(d:b):Hi a/\Hi b:=⟨h_ c,h_ d⟩
def oC {a b c:Prop}(d:a)(e:b)(f:c):Hi a/\Hi b/\Hi c:=⟨h_ d,h_ e,h_ f⟩
def oD {a b c d:Prop}(e:a)(f:b)(g:c)(h:d):Hi a/\Hi b/\Hi c/\Hi d:=⟨h_ e,h_ f,h_ g,h_ h⟩
def oG {a b c d e:Prop}(f:a)(g:b)(h:c)(i:d)(j:e):Hi a/\Hi b/\Hi c/\Hi d/\Hi e:=⟨h_ f,h_ g,h_ h,h_ i,h_ j⟩
def oF {a b c d e f:Prop}(g:a)(h:b)(i:c)(j:d)(k:e)(l:f):Hi a/\Hi b/\Hi c/\Hi d/\Hi e/\Hi f:=⟨h_ g,h_ h,h_ i,h_ j,h_ k,h_ l⟩
def bQ {P:Program}{b:Func}{R:Ending->Tw->Prop}{a:Act}{w:Tw}{v:Value}(c:R (Rt v) w)(e:(results b a.tmps).run P w=.ok v w:=by simp[results,go_sem, *])(d:a.defers=[]:=by rfl):bodyPost P b R .ret a w:=bodyPost_ret e d c
def nV (w:Tw)(t:TypeId)(c:Ta):∃a,w.alloc (Cl c t)=a/\Blk a w.1.size t c.toList/\Below w.1.size w a:=⟨_,rfl,Blk.new w t c,(Below.refl _ _).alloc (Nat.le_refl _) _⟩
def nw (w:Tw)(t:TypeId)(c:Ta):∃a,w.alloc (Cl c t)=a/\Hi (Blk a w.1.size t c.toList)/\Hi (Below w.1.size w a):=⟨_,rfl,h_ (Blk.new w t c),h_ ((Below.refl _ _).alloc (Nat.le_refl _) _)⟩
def cQ {P:Program}{f:FuncId}{a:Ta}{w:Tw}{v:Value}{S:Tw->Prop}{d:Ending->Tw->Prop}(c:Calls P f a w λe b=>e=Rt v/\S b)(g:∀b,S b->d (Rt v) b):Calls P f a w d:=c.mono (by rintro e b ⟨rfl,c⟩;exact g b c)
def cZ {P:Program}{f:FuncId}{a:Ta}{w:Tw}{v:Value}{S:Tw->Prop}{e:Ending->Tw->Prop}{G:Prop}(d:Calls P f a w λc b=>c=Rt v/\S b)(g:∀b,S b->e (Rt v) b)(t:Hi (Calls P f a w λc b=>c=Rt v/\S b)->Hi (∀b,S b->e (Rt v) b)->G:=by intro d g;go_wp2_with fail;exact cQ d.u g.u):G:=t (h_ d) (h_ g)
def nB {w W:Tw}{o:Obj}(a:w.alloc o=W):Below w.1.size w W:=by rw[<- a];exact(Below.refl _ _).alloc (Nat.le_refl _) _
def nK {w W:Tw}{t:TypeId}{c:Ta}(a:w.alloc (Cl c t)=W):Blk W w.1.size t c.toList:=by rw[<- a];exact Blk.new w t c
def nJ {w W:Tw}{t:TypeId}{c:Ta}{n:Nat}(e:w.1.size=n)(a:w.alloc (Cl c t)=W):Blk W n t c.toList:=by rw[<- e];exact nK a
def rQ {G b:Prop}(a:b)(t:b->G:=by intro a;go_wp2;go_roundw;(case rel=>exact a);(case measure=>simp[intOf];omega)):G:=t a
def u_ {p:Prop}(a:Hi p):p:=a
def q64 (w:Tw)(m n:Nat):(w.drewN m).drewN n=w.drewN (m+n):=by simp
def q3u (w:Tw)(n:Nat):Bw w (w.drewN n):=⟨rfl,rfl,rfl,Nat.le_refl _,λ_ _=>rfl⟩
def q5k {x:Int}(a:-9223372036854775808<=x)(b:x<=9223372036854775807):wrap64 x=x:=by unfold wrap64;omega
def bxN (w:Tw)(t:TypeId)(cs:Ta):∃a,w.alloc (Cl cs t)=a/\Hi (Blk a w.1.size t cs.toList)/\Hi (Bw w a):=⟨_,rfl,h_ (Blk.new w t cs),h_ ((Below.refl w.1.size w).alloc (Nat.le_refl _) (Cl cs t))⟩
def bxM (w:Tw)(t:TypeId)(cs:Ta):∃a b,w.alloc (Cl cs t)=a/\w.1.size=b/\Bw w a/\Blk a b t cs.toList:=⟨_,_,rfl,rfl,(Below.refl w.1.size w).alloc (Nat.le_refl _) (Cl cs t),Blk.new w t cs⟩
def sX {b:Type}(a:List b)(i:Nat)(x:b):a.toArray.setIfInBounds i x=(a.set i x).toArray:=List.setIfInBounds_toArray a i x
def sY {b:Type}{x:b}{c:List b}{a:b}:(x :: c).set 0 a=a :: c:=List.set_cons_zero
def sZ {b:Type}{x:b}{c:List b}{n:Nat}{a:b}:(x :: c).set (n+1) a=x :: c.set n a:=List.set_cons_succ
def mB {w w':Tw}{g:Nat}{t:TypeId}{cs:Tl}(a:Hi (Blk w g t cs))(b:Bw w w'):Hi (Blk w' g t cs):=h_ (a.u.mono b a.u.lt)
def mT {a w w':Tw}(b:Hi (Bw a w))(c:Bw w w'):Hi (Bw a w'):=h_ (b.u.trans (c.mono b.u.size))
def nR (n:Nat):n<=n:=Nat.le_refl n
def nZ (n:Nat):0<=n:=Nat.zero_le n
def nL (n:Nat):¬ n<0:=Nat.not_lt_zero n
def bR (b:Nat)(w:Tw):Below b w w:=Below.refl b w
abbrev Yj:=@List.set_cons_zero
abbrev Yk:=@List.set_cons_succ
abbrev Yl:=@beq_eq_false_iff_ne
abbrev Ym:=@List.length_append
abbrev Yn:=@List.getElem?_eq_getElem
abbrev Yo:=@decide_eq_false
abbrev Yp:=@List.getElem?_cons_zero
abbrev Yq:=@List.getD_eq_getElem?_getD
abbrev Yr:=@List.getElem_mem
abbrev Ys:=@decide_eq_true
abbrev Yt:=@ByteArray.size_append
abbrev Yu:=@decide_eq_true_eq
abbrev Yv:=@World.size_alloc
abbrev Yw:=@Bool.and_eq_true
abbrev Yx:=@Nat.le_trans
abbrev Yy:=@List.length_cons
abbrev Yz:=@List.take_succ_eq_append_getElem
abbrev Y2:=@if_neg
abbrev Y3:=@List.getElem?_cons_succ
abbrev Y4:=@Array.getElem?_eq_some_iff
abbrev Y5:=@Nat.lt_of_lt_of_le
abbrev Y6:=@if_pos
abbrev Y7:=@List.mem_cons_self
abbrev Y8:=@ByteArray.toList_eq
abbrev Y9:=@List.mem_singleton
abbrev Za:=@List.length_nil
abbrev Zb:=@List.length_take
abbrev Zc:=@List.mem_cons_of_mem
abbrev Zd:=@List.mem_append
abbrev Ze:=@List.mem_map
abbrev Zf:=@List.mem_range
abbrev Zg:=@List.all_eq_true
abbrev Zh:=@List.size_toArray
abbrev Zi:=@Bool.true_and
abbrev Zj:=@List.mem_iff_getElem
abbrev Zk:=@List.length_map
abbrev Zl:=@List.map_append
abbrev Zm:=@Prod.mk.injEq
abbrev Zn:=@List.range_succ
abbrev Zo:=@List.length_reverse
abbrev Zp:=@List.take_length
abbrev Zq:=@Int.natCast_mul
abbrev Zr:=@List.getElem?_map
abbrev Zs:=@List.take_of_length_le
abbrev Zt:=@List.flatMap_append
abbrev Zu:=@Nat.zero_add
abbrev Zv:=@List.append_nil
abbrev Zw:=@List.mem_cons
abbrev Zx:=@of_decide_eq_true
abbrev Zy:=@List.setIfInBounds_toArray
abbrev Zz:=@List.map_cons
abbrev Z2:=@List.length_eq_zero_iff
abbrev Z3:=@List.flatMap_cons
abbrev Z4:=@Nat.add_zero
abbrev Z5:=@Nat.pow_le_pow_right
abbrev Z6:=@Nat.mul_le_mul_right
abbrev Z7:=@List.map_congr_left
abbrev Z8:=@Nat.succ_mul
abbrev Z9:=@Nat.mod_eq_of_lt
abbrev Vb:=@List.cons_append
abbrev Vc:=@List.append_assoc
abbrev Vd:=@List.getElem?_take_of_lt
abbrev Ve:=@Nat.add_mul_mod_self_right
abbrev Vf:=@Nat.le_succ
abbrev Vg:=@Bool.or_eq_true
abbrev Vh:=@Bool.eq_iff_iff
abbrev Vi:=@List.pairwise_iff_getElem
abbrev Vj:=@List.getElem?_eq_some_iff
abbrev Vk:=@List.drop_eq_getElem_cons
abbrev Vl:=@List.getD_cons_zero
abbrev Vm:=@Nat.div_eq_of_lt
abbrev Vn:=@decide_eq_false_iff_not
abbrev Vo:=@List.mem_of_mem_take
abbrev Vp:=@List.getElem?_append_left
abbrev Vq:=@List.map_nil
abbrev Vr:=@Int.toNat_natCast
abbrev Vs:=@Nat.add_mul_div_right
abbrev Vt:=@List.take_append_drop
abbrev Vu:=@List.getElem?_eq_none
abbrev Vv:=@ByteArray.data_append
abbrev Vw:=@Option.some.inj
abbrev Vy:=@Bool.false_ne_true
abbrev Oa:=@Nat.le_of_lt
abbrev Ob:=@Option.some.injEq
abbrev Oc:=@Nat.testBit_two_pow
abbrev Od:=@Nat.add_comm
abbrev Oe:=@List.nil_append
abbrev Of:=@List.mem_flatMap
abbrev Og:=@List.getElem_map
abbrev Oh:=@Array.replicate_zero
abbrev Oi:=@Array.replicate_succ
abbrev Oj:=@List.getLast?_cons_cons
abbrev Ok:=@List.replicate_zero
abbrev Ol:=@List.replicate_succ
abbrev Om:=@List.append_toArray
abbrev On:=@Array.length_toList
abbrev Oo:=@List.getElem_cons_zero
abbrev Oq:=@Nat.le_of_eq
abbrev Ot:=@List.count_eq_zero
abbrev Ou:=@List.length_singleton
abbrev Ov:=@List.length_replicate
abbrev Ow:=@List.mem_of_getElem?
abbrev Ox:=@List.mem_append_left
abbrev Oy:=@List.length_set
abbrev Oz:=@List.cons.injEq
abbrev O0:=@List.take_add_one
abbrev O4:=@List.push_toArray
abbrev O5:=@List.count_append
abbrev O8:=@List.getD_cons_succ
abbrev O9:=@Nat.lt_of_not_le
abbrev Ga:=@List.not_mem_nil
abbrev Gb:=@List.map_toArray
abbrev Gc:=@Nat.mul_le_mul
abbrev Gd:=@List.drop_zero
abbrev Ge:=@Bool.and_false
abbrev Gf:=@Array.getElem?_eq_none
abbrev Gg:=@List.filter_append
abbrev Gh:=@Nat.min_eq_left
abbrev Gi:=@Nat.div_le_self
abbrev Gj:=@List.sum_append
abbrev Gk:=@List.length_filter_le
abbrev Gl:=@Nat.mod_lt
abbrev Gm:=@List.isPrefixOf_iff_prefix
abbrev Gn:=@List.count_le_length
abbrev Gp:=@Nat.testBit_or
abbrev Gq:=@Bool.false_and
abbrev Gr:=@Nat.lt_succ_self
abbrev Gs:=@List.mem_reverse
abbrev Gt:=@List.length_drop
abbrev Gu:=@List.getElem?_range
abbrev Gv9:=@Int.toNat_of_nonneg
abbrev Gw:=@List.sum_cons
abbrev Gx:=@List.nodup_cons
abbrev Gy:=@Int.cast_ofNat_Int
abbrev Gz:=@ByteArray.size_extract
abbrev G0:=@List.length_range
abbrev G4:=@List.all_eq_false
abbrev G5:=@List.drop_drop
abbrev G6:=@Nat.zero_mul
abbrev G7:=@List.sum_nil
abbrev G8:=@List.eq_nil_of_length_eq_zero
abbrev G9:=@Nat.add_assoc
abbrev Ua:=@List.mem_filter
abbrev Ub:=@Int.natCast_pow
