import Derived.Test.YtcnjbclpncidnaaGreatDoorRows
import Derived.WalkKit
import Derived.ProofKit
import Derived.BigQuiet
import Derived.Maps.AppendAt
import Derived.Lib.ItoaLen
import Derived.Lib.ParseIntBTie
import Derived.Deep.RegionHeld3
set_option linter.all false
set_option maxRecDepth 100000
set_option maxHeartbeats 0
namespace Go.Proofs.YtcnjbclpncidnaaGreatDoor
open Value renaming slice->Sl,string->St,bool->Bo
open Obj renaming cells->Cl
open Ending renaming returned->Rt
open Option renaming none->Nn,some->Sm
open Bool renaming true->Tt,false->Ff
section
open Go Go.RowKit Go.Proofs.Tryz
abbrev Aq (b o:Nat):Addr:=.mk b o .none
abbrev zq (w:World):Nat:=w.1.size
abbrev zw (w:World)(o:Nat):Addr:=.mk w.1.size o .none
abbrev zQ (w:World)(k o:Nat):Addr:=.mk (w.1.size+k) o .none
abbrev GQ (x:Int):Prop:=-9223372036854775808<=x/\x<=9223372036854775807
abbrev GJ (n:Nat):Prop:=n<=9223372036854775807
abbrev GZ:=Calls Tryz.prog
abbrev GX (b n c:Nat):Value:=Sl (Sm (.mk b 0 .none)) n c
abbrev GV (b o n c:Nat):Value:=Sl (Sm (.mk b o .none)) n c
def Fq {a p:Prop}(x:a)(h:a->p:=by intro;omega):p:=h x
variable {P:Prop}
def dN(h:P:=by omega):P:=h
def dO(h:P:=by decide):P:=h
def dP(h:P:=by kernel_rfl):P:=h
def dQ(h:P:=by simp):P:=h
def dR(h:P:=by go_num):P:=h
def dS(h:P:=by simp;omega):P:=h
def dT(h:P:=by simp[Value.oneCell']):P:=h
def dU(h:P:=by simp[results,results42,go_sem,G,c1,c2,c3,c4,J,L,M,N,O,H]):P:=h
def dV(h:P:=by rfl):P:=h
def dW(h:P:=by simp[results,results43,go_sem,h,e,O,J]):P:=h
def dX(h:P:=by simp[execOp,go_sem]):P:=h
def dY(h:P:=by unfold maxLen;omega):P:=h
def dZ(h:P:=by have:=h.size;omega):P:=h
def ec(h:P:=by have:=M.u;omega):P:=h
def ed(h:P:=by simp[results,results11,go_sem,B,N,C,E,D,X]):P:=h
def ee(h:P:=by simp[results,results42,go_sem,c0,c1,c2,c3,c4,c5,c6,c7,c8,c9,ab]):P:=h
def ef(h:P:=by simp[results,results8,go_sem,r,N,G,E,I,X]):P:=h
def ep(h:P:=by unfold tC;dsimp only;rw[d.u,U.u];exact l):P:=h
def eq(h:P:=by rw[SA (show 1<T.length by have:=M.u;omega)];exact(HT.at (by have:=M.u;omega)).2):P:=h
def er(h:P:=by show w.1.size+1≠D;omega):P:=h
def et(h:P:=by show w.1.size≠D;omega):P:=h
def ew(h:P:=by show w.1.size<=D;omega):P:=h
def ey(h:P:=by simp[M]):P:=h
def ez(h:P:=by show w.1.size≠R;omega):P:=h
def eA(h:P:=by show w.1.size<=_;rw[ND,ND];omega):P:=h
def eB(h:P:=by simp[results,results44,go_sem,J,S]):P:=h
def eC(h:P:=by simp <;> omega):P:=h
def eD(h:P:=by simp[results,results43,go_sem,p0,p1,p2,p3]):P:=h
def eE(h:P:=by have:=h.size;simp;omega):P:=h
def eF(h:P:=by simp[execOp,go_sem,<- hY]):P:=h
def eG(h:P:=by simp[results,results111,go_sem,F8, *]):P:=h
def eH(h:P:=by simp[results,results115,go_sem,hQ.cell,t.cell];rfl):P:=h
def eI(h:P:=by rw[hb,h];rfl):P:=h
def eJ(h:P:=by cases h):P:=h
def eK(h:P:=by have:=T.u;omega):P:=h
def eM(h:P:=by rw[<- Z5];omega):P:=h
def eN(h:P:=by first|exact aa|(rw[Yn];exact aa)):P:=h
def eO(h:P:=by rw[CE (by omega) (by omega)];omega):P:=h
def eP(h:P:=by have:=p.u;rw[<- A.u]at this;exact uR this):P:=h
def eQ(h:P:=by simp[results,results13,go_sem,Y,N,D,E,I,H]):P:=h
def eR(h:P:=by simp[results,results12,go_sem,Y,O,R,T,W,Z]):P:=h
def eS(h:P:=by have:=au.u;omega):P:=h
def eT(h:P:=by assumption):P:=h
def eU(h:P:=by simp[results,results258,go_sem,F8, *]):P:=h
def eV(h:P:=by have:=J.u;omega):P:=h
def eW(h:P:=by decide +kernel):P:=h
def eX(h:P:=by simp[results,results249,go_sem, *]):P:=h
def eY(h:P:=by simp[V]):P:=h
def eZ(h:P:=by simpa using n):P:=h
def e7(h:P:=by rw[N];exact I):P:=h
def e8(h:P:=by rw[<- e];exact T.2.2.2.1):P:=h
def fd(h:P:=by have:=g.u;omega):P:=h
def fe(h:P:=by have:=A.u;omega):P:=h
def ff(h:P:=by rw[Zd];omega):P:=h
def fj(h:P:=by show T.size+1<=_;omega):P:=h
def fp(h:P:=by rw[<- e];exact T.2.2.1):P:=h
def fq(h:P:=by simp only[hlen];omega):P:=h
def fs(h:P:=by simp[y9,U]):P:=h
def ft(h:P:=by rw[R.u,E];rfl):P:=h
def fu(h:P:=by have:=W.u;omega):P:=h
def fv(h:P:=by have:=l.u;omega):P:=h
def fw(h:P:=by rw[Y8];rfl):P:=h
def fy(h:P:=by rw[W.u];simpa [ui] using o):P:=h
def fz(h:P:=by simp[execOp,go_sem,x3,xf]):P:=h
def fA(h:P:=by rw[<- e];exact T.2.2.2.2):P:=h
def fB(h:P:=by simp[I0]):P:=h
def fC(h:P:=by rw[Zv];simp;omega):P:=h
def fD(h:P:=by simpa using r):P:=h
def fE(h:P:=by simpa using h):P:=h
def fG(h:P:=by simp[d]):P:=h
def fH(h:P:=by rw[j];rfl):P:=h
abbrev To:=Option Addr
abbrev Tl:=List Value
abbrev Ta:=Array Value
abbrev Tb:=ByteArray
abbrev Tw:=World
abbrev Bw (w v:Tw):Prop:=Below w.1.size w v
abbrev Gv (f:FuncId)(a:Ta)(w:Tw)(v:Value):Prop:=Calls prog f a w λe x=>e=Rt v/\Bw w x
abbrev Ja:Ta:=#[.int .i64 0,St ⟨#[]⟩,St ⟨#[]⟩,Bo Ff,.int .i64 0,Sl Nn 0 0,Sl Nn 0 0,Sl Nn 0 0,Sl Nn 0 0,St ⟨#[]⟩,Sl Nn 0 0]
abbrev Jb:Ta:=#[Sl Nn 0 0,Sl Nn 0 0,Sl Nn 0 0,Sl Nn 0 0]
abbrev Jf(x0:Tb)(x1:Int):Ta:=#[.int .i64 4,St x0,St ⟨#[]⟩,Bo Ff,.int .i64 x1,Sl Nn 0 0,Sl Nn 0 0,Sl Nn 0 0,Sl Nn 0 0,St ⟨#[]⟩,Sl Nn 0 0]
abbrev Jh:Ta:=#[.int .i64 0,Sl Nn 0 0,Sl Nn 0 0,Sl Nn 0 0,.int .i64 0,.int .i64 0]
abbrev Jj(x0:Int)(x1:To)(x2:Nat)(x3:Nat)(x4:To)(x5:Nat)(x6:To)(x7:Nat)(x8:Int)(x9:Int):Ta:=#[.int .i64 x0,Sl x1 x2 x3,Sl x4 x2 x5,Sl x6 x2 x7,.int .i64 x8,.int .i64 x9]
abbrev Jk:Ta:=#[.int .i64 0,.int .i64 0]
abbrev Jl(x0:Int)(x1:Int):Ta:=#[.int .i64 x0,.int .i64 x1]
abbrev Jm(x0:Int)(x1:Tb)(x2:Value)(x3:Value)(x4:Int)(x5:Value)(x6:Value)(x7:Value)(x8:Tb)(x9:Value):Ta:=#[.int .i64 x0,St x1,x2,x3,St ⟨#[]⟩,.int .i64 x4,.int .i64 0,Sl Nn 0 0,x5,x6,x7,St x8,x9]
abbrev Jn:Ta:=#[Sl Nn 0 0,Sl Nn 0 0,Sl Nn 0 0,Sl Nn 0 0,.map Nn,.int .i64 0,Sl Nn 0 0,Sl Nn 0 0,Sl Nn 0 0,.int .i64 0,.int .i64 0,Sl Nn 0 0]
abbrev Jo(x0:Int)(x1:Tb)(x2:To)(x3:Nat)(x4:Nat)(x5:To)(x6:Nat)(x7:Nat)(x8:Int)(x9:To)(x10:Nat)(x11:Nat)(x12:To)(x13:Nat)(x14:Nat)(x15:To)(x16:Nat)(x17:Nat)(x18:Tb)(x19:To)(x20:Nat)(x21:Nat):Tl:=[.int .i64 x0,St x1,Sl x2 x3 x4,Sl x5 x6 x7,St ⟨#[]⟩,.int .i64 x8,.int .i64 0,Sl Nn 0 0,Sl x9 x10 x11,Sl x12 x13 x14,Sl x15 x16 x17,St x18,Sl x19 x20 x21]
abbrev Jp(x0:Tb):Ta:=#[.int .i64 2,St x0,Sl Nn 0 0,Sl Nn 0 0,St ⟨#[]⟩,.int .i64 0,.int .i64 0,Sl Nn 0 0,Sl Nn 0 0,Sl Nn 0 0,Sl Nn 0 0,St ⟨#[]⟩,Sl Nn 0 0]
abbrev Jq(x0:Int)(x1:Tb)(x2:Tb)(x3:Bool)(x4:Int)(x5:To)(x6:Nat)(x7:Nat)(x8:To)(x9:Nat)(x10:Nat)(x11:To)(x12:Nat)(x13:Nat)(x14:To)(x15:Nat)(x16:Nat)(x17:Tb)(x18:To)(x19:Nat)(x20:Nat):Ta:=#[.int .i64 x0,St x1,St x2,Bo x3,.int .i64 x4,Sl x5 x6 x7,Sl x8 x9 x10,Sl x11 x12 x13,Sl x14 x15 x16,St x17,Sl x18 x19 x20]
abbrev Jr(x0:Tb)(x1:Int)(x2:Int)(x3:To)(x4:Nat)(x5:Nat)(x6:To)(x7:Nat)(x8:Nat)(x9:To)(x10:Nat)(x11:Nat)(x12:To)(x13:Nat)(x14:Nat)(x15:Tb)(x16:To)(x17:Nat)(x18:Nat):Ta:=#[St x0,.int .i64 x1,.int .i64 x2,Sl x3 x4 x5,Sl x6 x7 x8,Sl x9 x10 x11,Sl x12 x13 x14,St x15,Sl x16 x17 x18]
abbrev Js(x0:Int)(x1:Tb)(x2:To)(x3:Nat)(x4:Nat)(x5:To)(x6:Nat)(x7:Nat)(x8:Int)(x9:To)(x10:Nat)(x11:Nat)(x12:To)(x13:Nat)(x14:Nat)(x15:To)(x16:Nat)(x17:Nat)(x18:Tb)(x19:To)(x20:Nat)(x21:Nat):Ta:=#[.int .i64 x0,St x1,Sl x2 x3 x4,Sl x5 x6 x7,St ⟨#[]⟩,.int .i64 x8,.int .i64 0,Sl Nn 0 0,Sl x9 x10 x11,Sl x12 x13 x14,Sl x15 x16 x17,St x18,Sl x19 x20 x21]
abbrev Jt:Ta:=#[St ⟨#[]⟩,.int .i64 0,.int .i64 0,Sl Nn 0 0,Sl Nn 0 0,Sl Nn 0 0,Sl Nn 0 0,St ⟨#[]⟩,Sl Nn 0 0]
abbrev Ju:Ta:=#[Sl Nn 0 0,Sl Nn 0 0,Sl Nn 0 0,Sl Nn 0 0,.int .i64 0,.int .i64 0,.int .i64 0,.int .i64 0,.int .i64 0,.map Nn,.map Nn,.map Nn,.map Nn]
abbrev Jv(x0:Int)(x1:Tb)(x2:Int):Ta:=#[.int .i64 x0,St x1,.int .i64 x2]
abbrev Jw(x0:Tb)(x1:Tb)(x2:Bool)(x3:Int)(x4:To)(x5:Nat)(x6:Nat)(x7:To)(x8:Nat)(x9:Nat)(x10:To)(x11:Nat)(x12:Nat)(x13:To)(x14:Nat)(x15:Nat)(x16:Tb)(x17:To)(x18:Nat)(x19:Nat):Ta:=#[.int .i64 4,St x0,St x1,Bo x2,.int .i64 x3,Sl x4 x5 x6,Sl x7 x8 x9,Sl x10 x11 x12,Sl x13 x14 x15,St x16,Sl x17 x18 x19]
abbrev Jy(x0:Tb)(x1:Tb):Ta:=#[.int .i64 2,St x0,St x1,Bo Ff,.int .i64 0,Sl Nn 0 0,Sl Nn 0 0,Sl Nn 0 0,Sl Nn 0 0,St ⟨#[]⟩,Sl Nn 0 0]
abbrev Jz(x0:Tb)(x1:Tb):Ta:=#[.int .i64 3,St x0,St x1,Bo Ff,.int .i64 0,Sl Nn 0 0,Sl Nn 0 0,Sl Nn 0 0,Sl Nn 0 0,St ⟨#[]⟩,Sl Nn 0 0]
abbrev J0(x0:Value)(x1:Value)(x2:Int)(x3:Value)(x4:Value)(x5:Value)(x6:Tb)(x7:Value):Ta:=#[.int .i64 1,St ⟨#[]⟩,x0,x1,St ⟨#[]⟩,.int .i64 x2,.int .i64 0,Sl Nn 0 0,x3,x4,x5,St x6,x7]
abbrev J1(x0:Int)(x1:Int)(x2:Tb):Ta:=#[.int .i64 x0,.int .i64 x1,St x2]
abbrev J3(x0:Int)(x1:To)(x2:Nat)(x3:Nat):Ta:=#[.int .i64 x0,Sl x1 x2 x3]
abbrev J4:Ta:=#[St ⟨#[]⟩,.int .i64 0,.int .i64 0]
abbrev J5(x0:Tb)(x1:Value)(x2:Value)(x3:Int)(x4:Value)(x5:Value)(x6:Value)(x7:Tb)(x8:Value):Ta:=#[.int .i64 0,St x0,x1,x2,St ⟨#[]⟩,.int .i64 x3,.int .i64 0,Sl Nn 0 0,x4,x5,x6,St x7,x8]
abbrev J6(x0:Tb)(x1:Value)(x2:Value)(x3:Int)(x4:Value)(x5:Value)(x6:Value)(x7:Tb)(x8:Value):Ta:=#[.int .i64 2,St x0,x1,x2,St ⟨#[]⟩,.int .i64 x3,.int .i64 0,Sl Nn 0 0,x4,x5,x6,St x7,x8]
abbrev J7(x0:Tb)(x1:Tb):Ta:=#[St ⟨#[114,111,108,101]⟩,St x0,St ⟨#[97,116]⟩,St x1]
abbrev J8(x0:Value)(x1:Value)(x2:Value)(x3:Value)(x4:Int)(x5:Int)(x6:Int)(x7:Int)(x8:Int)(x9:Value)(x10:Value)(x11:Value)(x12:Value):Tl:=[x0,x1,x2,x3,.int .i64 x4,.int .i64 x5,.int .i64 x6,.int .i64 x7,.int .i64 x8,x9,x10,x11,x12]
abbrev J9(x0:Int)(x1:To)(x2:Nat)(x3:Nat)(x4:To)(x5:Nat)(x6:To)(x7:Nat)(x8:Int)(x9:Int):Tl:=[.int .i64 x0,Sl x1 x2 x3,Sl x4 x2 x5,Sl x6 x2 x7,.int .i64 x8,.int .i64 x9]
abbrev Ya:Ta:=#[Bo Ff,Sl Nn 0 0]
abbrev Yb(x0:Tb)(x1:Tb):Ta:=#[St ⟨#[102,105,101,108,100]⟩,St x0,St x1,St ⟨#[97,116]⟩,St ⟨#[97,117,116,111]⟩]
abbrev Yc:Ta:=#[Sl Nn 0 0,Sl Nn 0 0,Sl Nn 0 0,Sl Nn 0 0,.map Nn]
abbrev Yd(x0:Tb)(x1:Value)(x2:Int):Tl:=[.int .i64 3,St x0,x1,Sl Nn 0 0,St ⟨#[]⟩,.int .i64 x2,.int .i64 0,Sl Nn 0 0,Sl Nn 0 0,Sl Nn 0 0,Sl Nn 0 0,St ⟨#[]⟩,Sl Nn 0 0]
abbrev Ye(x0:To)(x1:Nat)(x2:Nat)(x3:Int):Ta:=#[Sl x0 x1 x2,.int .i64 x3]
abbrev Yf(x0:Tb)(x1:Tb):Ta:=#[St ⟨#[98,101,108,111,119]⟩,St x0,St x1]
abbrev Yg(x0:Tb)(x1:Int)(x2:Int):Ta:=#[St x0,.int .i64 x1,.int .i64 x2]
abbrev Yh:Ta:=#[.int .i64 0,.int .i64 0,St ⟨#[]⟩]
abbrev Yi(x0:Int):Ta:=#[.int .u32 x0]
abbrev Yj(x:Int):Value:=.int .i64 x
abbrev Yk:Value:=Sl Nn 0 0
abbrev Yl:Value:=St ⟨#[]⟩
abbrev Ym(b o:Nat):Value:=.pointer (Sm (Aq b o))
def uC (w:Tw)(a:To)(n:Nat)(f:Nat->Bool):Prop :=
 ∀k,k<n->∃b off,a=Sm (Aq b off)/\b<w.1.size/\w.cell? (Aq b (off+k))=Sm (Bo (f k))
def L6 (w:Tw)(a:To)(n:Nat)(f:Nat->Int):Prop :=
 ∀k,k<n->∃b off,a=Sm (Aq b off)/\b<w.1.size/\w.cell? (Aq b (off+k))=Sm (.int .i64 (f k))
def uC.mono {w w' a n f}(h:uC w a n f)(c:Bw w w'):uC w' a n f:=λk e=>by obtain⟨b,d,rfl,P,v⟩:=h k e;exact⟨b,d,rfl,Nat.lt_of_lt_of_le P c.size,(c.cell (p:=(Aq b (d+k))) P).trans v⟩
def L6.mono {w w' a n f}(h:L6 w a n f)(c:Bw w w'):L6 w' a n f:=λk e=>by obtain⟨b,d,rfl,P,v⟩:=h k e;exact⟨b,d,rfl,Nat.lt_of_lt_of_le P c.size,(c.cell (p:=(Aq b (d+k))) P).trans v⟩
def j0 (w:Tw)(g:Nat)(t:TypeId)(cs:Tl):Prop:=w.heap[g]? = Sm (Cl cs.toArray t (0,0))
def j0.lt {w g t x}(h:j0 w g t x):g<w.1.size:=(Array.getElem?_eq_some_iff.1 h).1
def j0.cell {w g t x}(h:j0 w g t x)(j):w.cell? (Aq g j)=x[j]?:=by simp only[World.cell?,show w.heap[g]? = _ from h];simp
def j0.free {w g t x}(h:j0 w g t x)(j):w.frozen? (Aq g j)=Ff:=by simp only[World.frozen?,show w.heap[g]? = _ from h];simp
def j0.mono {w w' B g t x}(h:j0 w g t x)(c:Below B w w')(H:g<B):j0 w' g t x:=(c.block g H).trans h
def j0.set {w g t x}(h:j0 w g t x)(j v):j0 (w.setCell (Aq g j) v) g t (x.set j v):=by have:=heap_setCell_same w g j x.toArray t v h;simpa [j0] using this
def j0.other {w g t x}(h:j0 w g t x){a}(v)(b:g≠a.block):j0 (w.setCell a v) g t x:=(heap_setCell_other w a g v b).trans h
def j0.alloc {w g t x}(h:j0 w g t x)(o):j0 (w.alloc o) g t x:=h.mono ((Below.refl w.1.size w).alloc (Nat.le_refl _) o) h.lt
def j0.grown {w w' g t x row}(h:j0 w g t x)(H:w.grownBy w' row)(E:Sm g≠row):j0 w' g t x:=(H.block g h.lt E).trans h
def j0.new (w:Tw)(t o):j0 (w.alloc (Cl o t)) w.1.size t o.toList:=by simpa [j0] using heap_alloc_new w (Cl o t)
def j0.of_owns {w base e g n xs}(h:w.ownsRow base e 1 (Sl (Sm (Aq g 0)) n n) n xs):j0 w g e xs:=by rcases h.2 with ⟨Y,_⟩|⟨O,S,p,Y,_,H,_,_,J,R⟩;{simp at Y};simp only[Value.slice.injEq,Option.some.injEq,Addr.mk.injEq,and_true,true_and]at Y;obtain⟨rfl,rfl⟩:=Y;rw[List.take_of_length_le (by simp;omega)]at R;rw[<- R];simpa [j0] using H
def nD (w a k d l):Bw w ((((w.alloc a).alloc k).alloc d).alloc l):=((((Below.refl _ w).alloc (Nat.le_refl _) a).alloc (by simp) k).alloc (by simp;omega) d).alloc (by simp;omega) l
def j0.cell4 {w g t x}(h:j0 w g t x)(j a k d l):((((w.alloc a).alloc k).alloc d).alloc l).cell? (Aq g j)=x[j]?:=(h.mono (nD w a k d l) h.lt).cell j
def j0.free4 {w g t x}(h:j0 w g t x)(j a k d l):((((w.alloc a).alloc k).alloc d).alloc l).frozen? (Aq g j)=Ff:=(h.mono (nD w a k d l) h.lt).free j
def rL (n:Nat)(f g:Nat->Int):Bool:=decide (∀k,k<n->f k=g k)
def vY {n f g}(h:∀k,k<n->f k=g k):rL n f g=Tt:=by grind[rL]
def Ks {n f g}(k)(a:k<n)(h:¬ f k=g k):rL n f g=Ff:=by grind[rL]
def O1 {a b}(h:a=b):Ending.returned (Bo a)=Rt (Bo b):=by rw[h]
def xD {k a b}(h:a=b):Ending.returned (.int k a)=Rt (.int k b):=by rw[h]
def Hi (p:Prop):Prop:=p
def Hi.u {p}(h:Hi p) :p:=h
def Hi.out {p}(h:Hi p) :p:=h
def Nq {D:Type}(x:D) :∃y,x=y:=⟨x,rfl⟩
def h_ {p}(h:p):Hi p:=h
def oB {Y N}(e:Y)(k:N):Hi Y/\Hi N:=⟨h_ e,h_ k⟩
def oC {Y N G}(e:Y)(k:N)(r:G):Hi Y/\Hi N/\Hi G:=⟨h_ e,h_ k,h_ r⟩
def oD {Y N G E}(e:Y)(k:N)(r:G)(a:E):Hi Y/\Hi N/\Hi G/\Hi E:=⟨h_ e,h_ k,h_ r,h_ a⟩
def oG {Y N G E I}(e:Y)(k:N)(r:G)(a:E)(p:I):Hi Y/\Hi N/\Hi G/\Hi E/\Hi I:=⟨h_ e,h_ k,h_ r,h_ a,h_ p⟩
def oF {Y N G E I X}(e:Y)(k:N)(r:G)(a:E)(p:I)(b:X):Hi Y/\Hi N/\Hi G/\Hi E/\Hi I/\Hi X:=⟨h_ e,h_ k,h_ r,h_ a,h_ p,h_ b⟩
def bQ {P m R a w v}(h:R (Rt v) w)(E:(results m a.tmps).run P w=.ok v w:=by simp[results,go_sem, *])(e:a.defers=[]:=by rfl):bodyPost P m R .ret a w:=bodyPost_ret E e h
def nV (w t c):∃W,w.alloc (Cl c t)=W/\j0 W w.1.size t c.toList/\Below w.1.size w W:=⟨_,rfl,j0.new w t c,(Below.refl _ _).alloc (Nat.le_refl _) _⟩
def nw (w t c):∃W,w.alloc (Cl c t)=W/\Hi (j0 W w.1.size t c.toList)/\Hi (Below w.1.size w W):=⟨_,rfl,h_ (j0.new w t c),h_ ((Below.refl _ _).alloc (Nat.le_refl _) _)⟩
def cQ {P f a w v}{S:Tw->Prop}{Q}(h:Calls P f a w λe x=>e=Rt v/\S x)(g:∀x,S x->Q (Rt v) x):Calls P f a w Q:=h.mono (by rintro e x ⟨rfl,h⟩;exact g x h)
def rq {p q:Prop}(a:q)(k:Hi q->p:=by intro k;go_wp2;go_ret;exact k.u):p:=k (h_ a)
def cZ {P f a w v}{S:Tw->Prop}{Q:Ending->Tw->Prop}{G:Prop}(h:Calls P f a w λe x=>e=Rt v/\S x)(g:∀x,S x->Q (Rt v) x)(t:Hi (Calls P f a w λe x=>e=Rt v/\S x)->Hi (∀x,S x->Q (Rt v) x)->G:=by intro h g;go_wp2_with fail;exact cQ h.u g.u):G:=t (h_ h) (h_ g)
def nB {w W o}(h:w.alloc o=W):Below w.1.size w W:=by rw[<- h];exact(Below.refl _ _).alloc (Nat.le_refl _) _
def nK {w W:Tw}{t c}(h:w.alloc (Cl c t)=W):j0 W w.1.size t c.toList:=by rw[<- h];exact j0.new w t c
def nJ {w W:Tw}{t c n}(e:w.1.size=n)(h:w.alloc (Cl c t)=W):j0 W n t c.toList:=by rw[<- e];exact nK h
def rQ {G A:Prop}(h:A)(t:A->G:=by intro h;go_wp2;go_roundw;(case rel=>exact h);(case measure=>simp[intOf];omega)):G:=t h
def u_ {p}(h:Hi p):p:=h
def oX (w:Tw)(m n):(w.drewN m).drewN n=w.drewN (m+n):=by simp
def CL (w n):Bw w (w.drewN n):=⟨rfl,rfl,rfl,Nat.le_refl _,λ_ _=>rfl⟩
def CE {x}(I:-9223372036854775808<=x)(h1:x<=9223372036854775807):wrap64 x=x:=by unfold wrap64;omega
def S7 (w t o):∃E,w.alloc (Cl o t)=E/\Hi (j0 E w.1.size t o.toList)/\Hi (Bw w E):=⟨_,rfl,h_ (j0.new w t o),h_ ((Below.refl w.1.size w).alloc (Nat.le_refl _) (Cl o t))⟩
def sX {D:Type}(xs:List D)(i x):xs.toArray.setIfInBounds i x=(xs.set i x).toArray:=List.setIfInBounds_toArray xs i x
def sY {D:Type}{x:D}{xs a}:(x :: xs).set 0 a=a :: xs:=List.set_cons_zero
def sZ {D:Type}{x:D}{xs n a}:(x :: xs).set (n+1) a=x :: xs.set n a:=List.set_cons_succ
def mB {w w' g t x}(h:Hi (j0 w g t x))(c:Bw w w'):Hi (j0 w' g t x):=h_ (h.u.mono c h.u.lt)
def mT {a w w'}(h:Hi (Bw a w))(c:Bw w w'):Hi (Bw a w'):=h_ (h.u.trans (c.mono h.u.size))
def nR (n:Nat):n<=n:=Nat.le_refl n
def nZ (n):0<=n:=Nat.zero_le n
def nL (n):¬ n<0:=Nat.not_lt_zero n
def bR (b w):Below b w w:=Below.refl b w
def Bq {w:World}{o:Obj}:Below w.1.size w (w.alloc o):=(bR _ _).alloc (nR _) _
abbrev Yn:=@List.length_append
abbrev Yo:=@decide_eq_false
abbrev Yp:=@beq_eq_false_iff_ne
abbrev Yq:=@List.getElem?_cons_zero
abbrev Yr:=@decide_eq_true
abbrev Ys:=@if_neg
abbrev Yt:=@List.getElem_mem
abbrev Yu:=@List.getElem?_eq_getElem
abbrev Yv:=@List.length_cons
abbrev Yw:=@decide_eq_true_eq
abbrev Yx:=@List.take_succ_eq_append_getElem
abbrev Yy:=@Bool.and_eq_true
abbrev Y3:=@Array.getElem?_eq_some_iff
abbrev Y4:=@if_pos
abbrev Y7:=@World.size_alloc
abbrev Y8:=@ByteArray.size_append
abbrev Y9:=@Nat.le_trans
abbrev Za:=@Nat.lt_succ_self
abbrev Zb:=@List.getElem?_cons_succ
abbrev Zc:=@Nat.lt_of_lt_of_le
abbrev Zd:=@List.length_take
abbrev Ze:=@List.length_nil
abbrev Zf:=@List.getD_eq_getElem?_getD
abbrev Zg:=@List.mem_singleton
abbrev Zh:=@Decidable.byContradiction
abbrev Zi:=@List.mem_iff_getElem
abbrev Zj:=@of_decide_eq_true
abbrev Zk:=@List.mem_append
abbrev Zl:=@List.drop_of_length_le
abbrev Zm:=@List.all_eq_true
abbrev Zn:=@List.take_of_length_le
abbrev Zo:=@List.mem_map
abbrev Zp:=@List.set_cons_zero
abbrev Zq:=@List.mem_cons_self
abbrev Zr:=@List.length_map
abbrev Zs:=@List.mem_cons
abbrev Zt:=@List.drop_eq_getElem_cons
abbrev Zu:=@ByteArray.toList_eq
abbrev Zv:=@Bool.eq_iff_iff
abbrev Zw:=@List.set_cons_succ
abbrev Zx:=@Bool.true_and
abbrev Zy:=@List.mem_cons_of_mem
abbrev Zz:=@List.map_append
abbrev Z2:=@Nat.add_zero
abbrev Z3:=@List.append_nil
abbrev Z4:=@List.size_toArray
abbrev Z5:=@Int.natCast_mul
abbrev Z6:=@List.getElem?_append_left
abbrev Z7:=@List.take_length
abbrev Z8:=@List.getElem?_append_right
abbrev Z9:=@Nat.zero_add
abbrev Va:=@List.mem_range
abbrev Vb:=@Option.some.injEq
abbrev Vc:=@List.getElem?_map
abbrev Vd:=@List.nil_append
abbrev Ve:=@Int.cast_ofNat_Int
abbrev Vf:=@List.length_reverse
abbrev Vg:=@List.mem_of_mem_take
abbrev Vh:=@List.cons_append
abbrev Vi:=@Bool.or_eq_true
abbrev Vj:=@ByteArray.data_append
abbrev Vk:=@Nat.add_mul_mod_self_right
abbrev Vl:=@List.map_cons
abbrev Vm:=@Nat.sub_lt_sub_left
abbrev Vn:=@List.map_congr_left
abbrev Vo:=@List.flatMap_append
abbrev Vp:=@decide_eq_false_iff_not
abbrev Vq:=@List.length_eq_zero_iff
abbrev Vr:=@List.range_succ
abbrev Vs:=@Prod.mk.injEq
abbrev Vt:=@List.getD_cons_zero
abbrev Vu:=@List.take_append_drop
abbrev Vv:=@List.getElem?_eq_none
abbrev Vw:=@Nat.mod_eq_of_lt
abbrev Vy:=@Nat.div_eq_of_lt
abbrev Vz:=@List.getElem_take
abbrev V8:=@List.append_assoc
abbrev V9:=@Array.replicate_zero
abbrev Oa:=@Array.replicate_succ
abbrev Ob:=@Nat.succ_mul
abbrev Oc:=@List.getElem_cons_zero
abbrev Od:=@List.drop_zero
abbrev Oe:=@List.getElem?_eq_some_iff
abbrev Of:=@List.append_toArray
abbrev Og:=@Nat.add_mul_div_right
abbrev Oh:=@List.length_singleton
abbrev Oi:=@List.getElem?_take_of_lt
abbrev Oj:=@List.cons.injEq
abbrev Ol:=@List.mem_append_left
abbrev Om:=@List.not_mem_nil
abbrev On:=@List.length_drop
abbrev Oo:=@List.setIfInBounds_toArray
abbrev Oq:=@List.push_toArray
abbrev Ot:=@List.getElem_drop
abbrev Ou:=@Array.length_toList
abbrev Ov:=@List.pairwise_iff_getElem
abbrev Ow:=@Option.some.inj
abbrev Ox:=@Bool.not_eq_true
abbrev Oy:=@Nat.pow_le_pow_right
abbrev Oz:=@List.getElem?_set_ne
abbrev O0:=@Nat.zero_mul
abbrev O4:=@List.flatMap_cons
abbrev O5:=@Nat.le_succ
abbrev O8:=@Nat.testBit_two_pow
abbrev O9:=@Array.toList_append
abbrev Ga:=@List.map_nil
abbrev Gb:=@Bool.false_eq_true
abbrev Gc:=@Nat.mul_le_mul_right
abbrev Gd:=@List.mem_of_mem_drop
abbrev Ge:=@List.getD_cons_succ
abbrev Gf:=@Nat.lt_of_not_le
abbrev Gg:=@List.drop_append_of_le_length
abbrev Gh:=@Array.getElem?_eq_none
abbrev Gi:=@of_decide_eq_false
abbrev Gj:=@Nat.add_comm
abbrev Gk:=@List.sum_append
abbrev Gl:=@Int.natCast_add
abbrev Gm:=@List.all_eq_false
abbrev Gn:=@List.mem_of_getElem?
abbrev Gp:=@List.count_le_length
abbrev Gq:=@List.drop_drop
abbrev Gs:=@Bool.and_false
abbrev Gt:=@List.length_pos_iff
abbrev Gu:=@List.sum_cons
abbrev qJ:=@List.nodup_cons
abbrev Gw:=@Array.replicate
abbrev Gx:=@List.getElem?_set_self
abbrev Gy:=@List.drop_eq_nil_of_le
abbrev Gz:=@Nat.testBit_or
abbrev G0:=@List.sum_nil
abbrev G4:=@List.getElem_map
abbrev G5:=@List.take_append_of_le_length
abbrev G6:=@Int.natCast_pow
def ui (l:List Nat):Tl:=l.map λu=>.int .i64 ((u:Nat):Int)
def YN {w base n e v us}(h:w.ownsRow base e 1 v n (ui us)):∃a q,v=Sl a n q/\L6 w a n (λk=>((us.getD k 0:Nat):Int)):=by have u:us.length=n:=(by have:=h.1;simpa [ui] using this);rcases h.2 with ⟨rfl,rfl⟩|⟨g,q,p,rfl,c,H,b,-,J,R⟩;{exact⟨Nn,0,rfl,λk a=>absurd a (nL _)⟩};refine⟨_,q,rfl,λk a=>⟨g,0,rfl,(Y3.1 H).1,?_⟩⟩;have:=h.cellAt k (by omega);rw[Z9,this];simp[ui,List.getD,List.getElem?_eq_getElem (show k<us.length by omega)]
def QH {P f args}{w:Tw}{t n v}(h:Calls P f args (w.drewN (t+n)) λe k=>e=Rt v/\k=w.drewN (t+n)) :
 Calls P f args (w.drewN (t+n)) λe R=>e=Rt v/\∃m,R=w.drewN (t+m):=h.mono λ_ _ ⟨b,Q⟩=>⟨b,n,Q⟩
def C8 {w:Tw}{base k n i e v xs}(h:w.ownsRow base e k v n xs)(s:v.ownBlock=Sm i):base<=i:=by rcases h.2 with ⟨rfl,-⟩|⟨g,q,p,rfl,c,-⟩;{simp[Value.ownBlock]at s};simp only[Value.ownBlock,Vb]at s;omega
def LF (w:Tw)(t):(w.alloc (Cl #[] t)).ownsRow w.1.size t 1 (Sl (Sm (Aq w.1.size 0)) 0 0) 0 [] :=
 ⟨rfl,.inr ⟨w.1.size,0,#[],rfl,nR _,heap_alloc_new w (Cl #[] t),nR _,nZ _,rfl,rfl⟩⟩
def qB:(prog.info? 3).map (λi=>(i.zero,i.size,i.bytes))=Sm (Sm (Yj 0),1,8):=by kernel_rfl
def xK (w:Tw)(t v):∀(j:Nat) (u:Value),[v][j]? = Sm u->(w.alloc (Cl #[v] t)).cell? (((Aq w.1.size 0):Addr).add j)=Sm u:=λj u h=>by match j,h with|0,h=>simp at h;subst h;exact(j0.new w t #[v]).cell 0
def ZS (w:Tw)(t v):(w.alloc (Cl #[v] t)).ownsRow w.1.size t 1 (Sl (Sm (Aq w.1.size 0)) 1 1) 1 [v] :=
 ⟨rfl,.inr ⟨w.1.size,1,#[v],rfl,nR _,heap_alloc_new w (Cl #[v] t),nR _,by unfold maxLen;omega,rfl,rfl⟩⟩
section
variable {ops:Array Oper} {rest:List Oper} {o:Oper} {a:Act} {Q:Exit->Act->Tw->Prop} {W:Tw} {s x:Operand} {t e:TypeId} {z v:Value} {size bytes B n m g:Nat} {xs cs:Tl}
def pH (c:(prog.info? e).map (λi=>(i.zero,i.size,i.bytes))=Sm (Sm z,size,bytes))(H:o.guard=Nn)(Z:o.op=.call { callee:=.builtin .append,args:=#[s,x],argTypes:=#[t,t] })(l:a.eval s=v)(J:W.ownsRow B e size v n xs)(r:a.eval x=Sl (Sm (Aq g 0)) m m)(d:j0 W g e cs)(f:B<=W.1.size) (h:∀U k,k.ownsRow B e size U (n+m) (xs++cs)->W.grownBy k v.ownBlock->Below B W k->(U.ownBlock=v.ownBlock\/U.ownBlock=Sm W.1.size)->wpList prog ops Q rest (a.put o.dst U) k) (b:(n+m)*bytes<=140737488355328:=by omega) (p:prog.underlying t=Sm (.slice e):=by kernel_rfl) (E:z.cells.size=size:=by rfl) (T:0<size:=by omega) (A:0<bytes:=by omega) (M:cs.length=m*size:=by rfl) (h1:∀u∈cs,u.oneCell'=Tt:=by simp[Value.oneCell']):wpList prog ops Q (o :: rest) a W:=by obtain⟨F,X,q,w,C⟩:=info_parts c;exact wpList_append_own_at _ H s x t Z B e F z size bytes p X q w C E T v n xs l J (Aq g 0) m m cs r M (λj u y=>by rw[show((Aq g 0):Addr).add j=(Aq g j) by simp[Addr.add];try exact λh=>h.symm];exact(d.cell j).trans y) h1 (Y9 (Y9 (Nat.le_mul_of_pos_right _ A) b) (by unfold maxLen;omega)) b f λU k h1 i _ D=>h U k h1 i ((bR B W).grown i f λi e=>C8 J e) D
def yB (b:(prog.info? e).map (λi=>(i.zero,i.size,i.bytes))=Sm (Sm z,size,bytes))(J:W.ownsRow B e size v n xs)(i:B<=W.1.size)
 (h:∀U k,k.ownsRow B e size U (n+1) (xs++cs)->(W.alloc (Cl cs.toArray e)).grownBy k v.ownBlock->Below B (W.alloc (Cl cs.toArray e)) k->(U.ownBlock=v.ownBlock\/U.ownBlock=Sm (W.alloc (Cl cs.toArray e)).1.size)->wpList prog ops Q rest (a.put o.dst U) k)
 (c:(n+1)*bytes<=140737488355328:=by omega)
 (Z:o.op=.call { callee:=.builtin .append,args:=#[s,x],argTypes:=#[t,t] }:=by exact rfl) (H:o.guard=Nn:=by exact rfl) (f:prog.underlying t=Sm (.slice e):=by kernel_rfl) (d:a.eval s=v:=by rfl) (r:a.eval x=Sl (Sm (Aq W.1.size 0)) 1 1:=by rfl)
 (D:z.cells.size=size:=by rfl) (T:0<size:=by omega) (A:0<bytes:=by omega) (M:cs.length=size:=by rfl) (h1:∀u∈cs,u.oneCell'=Tt:=by simp[Value.oneCell']) :
 wpList prog ops Q (o :: rest) a (W.alloc (Cl cs.toArray e)) :=
 pH b H Z d (J.alloc _) r (j0.new W e cs.toArray) (by simp;omega) h c f D T A (by rw[Nat.one_mul];exact M) h1
end
end
section
def N2:List Nat->Nat
 | []=>0
 | d :: r=>d+10*N2 r
def P6 (l:List Nat):Prop:=∀d,d∈l->d<10
def Q0 (n:Nat):List Nat:=if _h:n=0 then [] else n % 10 :: Q0 (n / 10)
 termination_by n
 decreasing_by omega
def WG:Q0 0=[]:=by simp[Q0]
def PO {n}(h:n≠0):Q0 n=n % 10 :: Q0 (n / 10):=by grind[Q0]
theorem zO (n):N2 (Q0 n)=n:=by induction n using Nat.strongRecOn <;> grind[N2,Q0]
theorem OO (n):P6 (Q0 n):=by induction n using Nat.strongRecOn <;> grind[P6,Q0]
def jM {n}:Q0 n=[] ↔ n=0:=by grind[Q0]
def pX (l m):N2 (l++m)=N2 l+10 ^ l.length*N2 m:=by induction l <;> grind[N2]
theorem AO (l d):N2 (l++[d])=N2 l+10 ^ l.length*d:=by simp[N2,pX]
def P6.tail {d l}(h:P6 (d :: l)):P6 l:=λe b=>h e (List.mem_cons_of_mem _ b)
def P6.head {d l}(h:P6 (d :: l)):d<10:=h d (List.mem_cons_self ..)
def P6.snoc {l d}(h:P6 l)(a:d<10):P6 (l++[d]):=λe b=>by rcases List.mem_append.1 b with b|b;{exact h e b};rw[List.mem_singleton.1 b];exact a
def P6.cons {l d}(h:P6 l)(a:d<10):P6 (d :: l):=λe b=>by rcases List.mem_cons.1 b with rfl|b;{exact a};exact h e b
def P6.take {l}(h:P6 l)(k):P6 (l.take k):=λe b=>h e (List.mem_of_mem_take b)
theorem YH {l}(h:P6 l):N2 l<10 ^ l.length:=by induction l with|nil=>simp[N2]|cons d r b=>have:=b h.tail;have:=h.head;rw[N2,List.length_cons,Nat.pow_succ];omega
theorem sH {l}(h:P6 l):∀i,l.getD i 0=N2 l / 10 ^ i % 10:=by induction l with|nil=>intro i;simp[N2]|cons d r b=>intro i;have a:=h.head;cases i with|zero=>simp[N2];omega|succ i=>have e:N2 (d :: r) / 10 ^ (i+1)=N2 r / 10 ^ i:=(by rw[N2,Nat.pow_succ,Nat.mul_comm (10 ^ i) 10,<- Nat.div_div_eq_div_mul];congr 1;omega);rw[e,<- b h.tail i];simp
def Wj {l}(h:P6 l)(P:l=[]\/l.getD (l.length - 1) 0≠0):Q0 (N2 l)=l:=by induction l with|nil=>simp[N2,WG]|cons d r b=>have a:=h.head;have E:r=[]\/r.getD (r.length - 1) 0≠0:=(by cases r with|nil=>exact .inl rfl|cons e s=>exact .inr (by simpa using P));have X:=b h.tail E;have F:N2 (d :: r)≠0:=(by intro Y;have f:d=0/\N2 r=0:=(by rw[N2]at Y;omega);have:r=[]:=(by rw[<- X,f.2,WG]);subst this;simp[f.1]at P);rw[PO F,N2,show(d+10*N2 r) % 10=d by omega,show(d+10*N2 r) / 10=N2 r by omega,X]
def qtf {l}(h:P6 l){k}(n:k<=l.length)(c:∀j,k<=j->j<l.length->l.getD j 0=0)(P:k=0\/l.getD (k - 1) 0≠0):l.take k=Q0 (N2 l):=by have g:N2 l=N2 (l.take k):=(by (conv=>lhs;rw[<- List.take_append_drop k l]);rw[pX];have:∀m:List Nat,(∀j,j<m.length->m.getD j 0=0)->N2 m=0:=(by intro m;induction m with|nil=>intro _;rfl|cons d r b=>intro Q;have I:=Q 0 (by simp);have a:=b (λj y=>by have:=Q (j+1) (by simpa using y);simpa using this);simp at I;rw[N2,I,a]);rw[this (l.drop k) (λj y=>by have b:k+j<l.length:=(by simp at y;omega);have:=c (k+j) (by omega) b;simpa [List.getD,List.getElem?_drop] using this)];simp);rw[g,Wj (h.take k)];rcases P with I|I;{left;subst I;simp};by_cases W:k=0;{left;subst W;simp};right;have:(l.take k).length=k:=(by simp;omega);rw[this];simpa [List.getD,List.getElem?_take,show k - 1<k by omega] using I
def SI {n k}(h:n<10 ^ k):(Q0 n).length<=k:=by induction k generalizing n <;> grind[Q0]
def xP (n):n<10 ^ (Q0 n).length:=by grind[Q0,YH,OO,zO]
def yT (n i):(Q0 n).getD i 0=n / 10 ^ i % 10:=by rw[sH (OO n),zO]
def qor {n}(h:n≠0):10 ^ ((Q0 n).length - 1)<=n:=by induction n using Nat.strongRecOn with|_ n ih=>rw[PO h,List.length_cons,Nat.add_sub_cancel];by_cases Y:n / 10=0;{rw[Y,WG];simp;omega};have:=ih (n / 10) (by omega) Y;have P:(Q0 (n / 10)).length≠0:=(by intro e;exact Y (jM.1 (List.length_eq_zero_iff.1 e)));obtain⟨m,Q⟩:∃m,(Q0 (n / 10)).length=m+1:=⟨(Q0 (n / 10)).length - 1,by omega⟩;rw[Q]at this|-;simp only[Nat.add_sub_cancel]at this;rw[Nat.pow_succ];omega
def mX {m n}(h:(Q0 m).length<(Q0 n).length):m<n:=by have j:=xP m;have G:n≠0:=(by intro e;subst e;simp[WG]at h);have i:=qor G;have D:10 ^ (Q0 m).length<=10 ^ ((Q0 n).length - 1):=Nat.pow_le_pow_right (by decide) (by omega);omega
def MS (n i):n / 10 ^ i=10*(n / 10 ^ (i+1))+n / 10 ^ i % 10:=by rw[Nat.pow_succ,<- Nat.div_div_eq_div_mul];omega
def yK (n i):n % 10 ^ (i+1)=n % 10 ^ i+10 ^ i*(n / 10 ^ i % 10):=by rw[Nat.pow_succ,Nat.mod_mul]
def GY {m n p:Nat}(h:m / p<n / p):m<n:=by rcases Nat.lt_or_ge m n with Y|Y;{exact Y};exact absurd (Nat.div_le_div_right (c:=p) Y) (by omega)
def qhf {n p c s k B x y}(h:n+c*p=k+B)(J:s=x+y+c):(n+p*(s % 10))+(s / 10)*(p*10)=(k+p*x)+(B+p*y):=by have e:p*(s % 10)+(s / 10)*(p*10)=p*s:=(by rw[Nat.mul_comm (s / 10),Nat.mul_assoc,<- Nat.mul_add,Nat.mod_add_div]);have a:p*s=p*x+p*y+c*p:=(by rw[J,Nat.mul_add,Nat.mul_add,Nat.mul_comm c p]);omega
def b_ {n p c k B x y}(h:k+c*p=n+B)(v:c<=1)(r:x<10)(hy:y<10):∃d b,b<=1/\d<10/\(x+10*b=y+c+d)/\(b=1 ↔ x<y+c)/\(k+p*x)+b*(p*10)=(n+p*d)+(B+p*y):=by by_cases R:x<y+c;{refine⟨x+10 - y - c,1,by omega,by omega,by omega,by omega,?_⟩;have e:p*x+p*10=p*(x+10 - y - c)+p*y+p*c:=(by rw[<- Nat.mul_add,<- Nat.mul_add,<- Nat.mul_add];congr 1;omega);rw[Nat.mul_comm c p]at h;omega};refine⟨x - y - c,0,by omega,by omega,by omega,by omega,?_⟩;have e:p*x=p*(x - y - c)+p*y+p*c:=(by rw[<- Nat.mul_add,<- Nat.mul_add];congr 1;omega);rw[Nat.mul_comm c p]at h;omega
def mR {n}(h:n≠0):Lib.decDigits n=(Q0 n).reverse.map λd=>UInt8.ofNat (48+d):=by induction n using Nat.strongRecOn with|_ n ih=>rw[PO h,Lib.decDigits];by_cases Y:n<10;{rw[dif_pos Y,show n / 10=0 by omega,WG,Nat.mod_eq_of_lt Y];simp};rw[dif_neg Y,ih (n / 10) (by omega) (by omega)];simp
end
section
open Go.Lib
def t8 (acc:Nat):List Nat->Nat
 | []=>acc
 | d :: r=>t8 (acc*10+d) r
def qpg (l):∀V,V<=t8 V l:=by induction l <;> grind[t8]
def Ar (l m):∀V,t8 V (l++m)=t8 (t8 V l) m:=by induction l <;> grind[t8]
def AC (l:List Nat):List UInt8:=l.map λd=>UInt8.ofNat (48+d)
def Tv (l):∀(V:Nat),(∀d,d∈l->d<10)->t8 V l<18446744073709551616->parseUintM 18446744073709551615 V (AC l)=.ok (t8 V l):=by induction l with|nil=>intro V _ _;rfl|cons d r c=>intro V a g;have I:d<10:=a d (List.mem_cons_self ..);have H:=qpg r (V*10+d);rw[t8]at g|-;have e:(UInt8.ofNat (48+d)).toNat=48+d:=(by rw[UInt8.toNat_ofNat'];omega);show parseUintM _ V (UInt8.ofNat (48+d) :: AC r)=_;rw[parseUintM,e,if_pos (by omega),if_neg (by omega),if_neg (by omega),show 48+d - 48=d by omega];exact c _ (λe b=>a e (List.mem_cons_of_mem _ b)) g
def sE (n:Nat):List Nat:=if _h:n<10 then [n] else sE (n / 10)++[n % 10]
 termination_by n
 decreasing_by omega
def tP (n):t8 0 (sE n)=n/\(∀d,d∈sE n->d<10)/\decDigits n=AC (sE n)/\sE n≠[]:=by induction n using Nat.strongRecOn with|_ n ih=>by_cases h:n<10;{rw[sE,dif_pos h,decDigits,dif_pos h];refine⟨by simp[t8],λd e=>?_,rfl,by simp⟩;rw[List.mem_singleton.1 e];exact h};obtain⟨a,b,c,-⟩:=ih (n / 10) (by omega);rw[sE,dif_neg h,decDigits,dif_neg h];refine⟨?_,λd e=>?_,?_,by simp⟩;{rw[Ar,a];simp only[t8];omega};{rcases List.mem_append.1 e with e|e;{exact b d e};rw[List.mem_singleton.1 e];omega};rw[c];simp[AC]
def rU (n):decDigits n≠[]:=by simp[AC,tP]
def ZL (n):∃c r,decDigits n=c :: r/\48<=c.toNat/\c.toNat<=57:=by obtain⟨-,b,c,d⟩:=tP n;match e:sE n with|[]=>exact absurd e d|x :: r=>rw[c,e];have a:=b x (by rw[e];exact List.mem_cons_self ..);refine⟨UInt8.ofNat (48+x),AC r,rfl,?_⟩;have:(UInt8.ofNat (48+x)).toNat=48+x:=(by rw[UInt8.toNat_ofNat'];omega);omega
def SY {n}(h:n<18446744073709551616):parseUintB 64 (decDigits n)=.ok n:=by obtain⟨a,b,c,-⟩:=tP n;have:=Tv (sE n) 0 b (by rw[a];exact h);rw[parseUintB,if_neg (rU n),show 2 ^ 64 - 1=18446744073709551615 from rfl,c,this,a]
theorem Wv {n}(I:-9223372036854775808<=n)(h1:n<=9223372036854775807):parseIntB 64 (itoa n)=.ok n:=by have W:2 ^ (64 - 1)=9223372036854775808:=rfl;unfold itoa;split;{have:=SY (n:=n.natAbs) (by omega);simp only[parseIntB,W];rw[if_pos (Or.inr (by decide)),this];have e:(45:UInt8).toNat=45:=rfl;simp only[e,not_true_eq_false,false_and,if_false,true_and];rw[if_neg (by omega),if_pos trivial,show -(n.natAbs:Int)=n by omega]};have:=SY (n:=n.toNat) (by omega);obtain⟨c,r,e,A,B⟩:=ZL n.toNat;rw[e]at this|-;simp only[parseIntB,W];rw[if_neg (by omega),this];have:¬ c.toNat=45:=(by omega);simp only[this,not_false_eq_true,false_and,if_false,true_and];rw[if_neg (by omega),show(n.toNat:Int)=n by omega]
def nF (n:Int):Prop:=-9223372036854775808<=n/\n<=9223372036854775807
def AB (l:List UInt8):Option Int:=match parseIntB 64 l with
 | .ok n=>if itoa n=l then Sm n else Nn
 | _=>Nn
def SW {n}(h:nF n):AB (itoa n)=Sm n:=by grind[AB,nF,Wv]
def CR {l}(h:∀n,nF n->itoa n≠l):AB l=Nn:=by unfold AB;split;{rename_i n hn;split;{rename_i e;have hb:=parseIntB_bounds hn;exact absurd e (h n (by have:(2:Nat) ^ (64 - 1)=9223372036854775808:=rfl;unfold nF;omega))};rfl};rfl
end
section
open Go Go.RowKit Go.Proofs.Tryz
def tb (b:Nat):Bool:=decide (32<=b/\b<=126/\b≠34)
def TI {F}(b:Nat)(w)(s:F=136\/F=144:=by first|exact .inl rfl|exact .inr rfl):Calls prog F #[.int .u8 b] w λe k=>e=Rt (Bo (tb b))/\k=w:=by have v:¬ 32<=b\/(32<=b/\¬ b<=126)\/(32<=b/\b<=126/\b=34)\/(32<=b/\b<=126/\¬ b=34):=(by omega);rcases v with j|⟨j,i⟩|⟨j,i,D⟩|⟨j,i,D⟩;all_goals rcases s with rfl|rfl;(case' inl=>go_enter func136,ntmps136);(case' inr=>go_enter func144,ntmps144);all_goals go_wp2;go_ret;exact⟨O1 (by first|(subst b;decide)|(simp[tb, *] <;> omega)),rfl⟩
def BA (s:Tb):Bool:=decide (s.size<=1000)&&s.data.toList.all λc=>tb c.toNat
def qK {s}:BA s=Tt ↔ s.size<=1000/\∀j (y:j<s.size),tb s[j].toNat=Tt:=by simp only[BA,Yy,Yw,Zm];refine and_congr_right λ_=>⟨λh j y=>h _ (by simp[ByteArray.getElem_eq_getElem_data]),λh c v=>?_⟩;obtain⟨j,y,rfl⟩:=Zi.1 v;exact h j (by simpa using y)
def rY {s}(h1:s.size<=1000)(h:∀j (y:j<s.size),tb s[j].toNat=Tt):BA s=Tt:=qK.2 ⟨h1,h⟩
def qf4 {s k}(n:k<s.size)(h:tb s[k].toNat=Ff):BA s=Ff:=by cases e:BA s with|false=>rfl|true=>have:=(qK.1 e).2 k n;rw[h]at this;cases this
def RT (s:Tb)(w:Tw)(i:Value)(wr:Tw):Prop:=∃k:Nat,k<=s.size/\i=.int .i64 k/\(∀j (hj:j<s.size),j<k->tb (s[j]).toNat=Tt)/\wr=w
def qT {F}(s w)(J:s.size<=9223372036854775807)(c:F=66\/F=185:=by first|exact .inl rfl|exact .inr rfl):Calls prog F #[St s] w λe a=>e=Rt (Bo (BA s))/\a=w:=by by_cases b:s.size<=1000;{rcases c with rfl|rfl;(case' inl=>go_enter func66,ntmps66;go_wp2;go_loopw [3] (λi wr=>RT s w i wr) (λi _=>s.size - (intOf i).toNat));(case' inr=>go_enter func185,ntmps185;go_wp2;go_loopw [9] (λi wr=>RT s w i wr) (λi _=>s.size - (intOf i).toNat));(all_goals first|exact⟨0,nZ _,rfl,λj h Y=>absurd Y (nL _),rfl⟩|skip);all_goals obtain⟨k,n,rfl,d,rfl⟩:=hrel;have R:=h_ d;by_cases f:k<s.size;{cases M:tb s[k].toNat;{go_wp2_with (refine(TI _ _).mono ?_;rintro e a ⟨rfl,rfl⟩;rw[M]);go_ret;exact⟨O1 (qf4 f M).symm,rfl⟩};go_wp2_with (refine(TI _ _).mono ?_;rintro e a ⟨rfl,rfl⟩;rw[M]);go_roundw;exact⟨k+1,by omega,by go_num,λj y n=>by by_cases e:j=k;{subst e;exact M};exact R j y (by omega),rfl⟩;simp[intOf];omega};go_wp2;go_ret;exact⟨O1 (rY b λj y=>R j y (by omega)).symm,rfl⟩};rcases c with rfl|rfl;(case' inl=>go_enter func66,ntmps66);(case' inr=>go_enter func185,ntmps185);all_goals go_wp2;go_ret;exact⟨O1 (by simp[BA,b]),rfl⟩
def TB {w b t v u Z}(h:j0 w b t [v,u,Z]) :
 w.cell? (Aq b 0)=Sm v/\w.cell? (Aq b 1)=Sm u/\w.cell? (Aq b 2)=Sm Z:=⟨h.cell 0,h.cell 1,h.cell 2⟩
def PJ (s:Tb):((s.size:Int)==0)=decide (s.size=0):=by grind
def VK (s:Tb):s.toList.isEmpty=decide (s.size=0):=by rw[Zu];obtain⟨⟨l⟩⟩:=s;cases l <;> simp[ByteArray.size]
def yA (kind num:Int)(s:Tb):Bool :=
 if kind=0 then decide (num=0)&&decide (s.size=0)
 else if kind=1 then decide (s.size=0)
 else if kind=2 then decide (num=0\/num=1)&&decide (s.size=0)
 else if kind=3 then decide (num=0)&&BA s
 else if kind=4 then decide (1<=num/\num<=5)&&decide (s.size=0)
 else Ff
def kinds (k:Int):k=0\/k=1\/k=2\/k=3\/k=4\/(¬ k=0/\¬ k=1/\¬ k=2/\¬ k=3/\¬ k=4):=by omega
def Ie (k n:Int):(k=0/\n=0)\/(k=0/\¬ n=0)\/k=1\/(k=2/\n=0)\/(k=2/\n=1)\/(k=2/\¬ n=0/\¬ n=1)\/(k=3/\n=0)\/(k=3/\¬ n=0)\/(k=4/\n<1)\/(k=4/\1<=n/\5<n)\/(k=4/\1<=n/\n<=5)\/(¬ k=0/\¬ k=1/\¬ k=2/\¬ k=3/\¬ k=4):=by omega
def wO {F}(q E s w)(J:s.size<=9223372036854775807)(a:F=233\/F=208:=by first|exact .inl rfl|exact .inr rfl):Gv F #[.agg (J1 q E s)] w (Bo (yA q E s)):=by obtain⟨D,x⟩:=oB (PJ s) (VK s);rcases Ie q E with ⟨rfl,d⟩|⟨rfl,d⟩|rfl|⟨rfl,rfl⟩|⟨rfl,rfl⟩|⟨rfl,d,v⟩|⟨rfl,d⟩|⟨rfl,d⟩|⟨rfl,d⟩|⟨rfl,d,v⟩|⟨rfl,d,v⟩|⟨d,v,j,C,y⟩;all_goals rcases a with rfl|rfl;(case' inl=>go_enter func233,ntmps233);(case' inr=>go_enter func208,ntmps208);all_goals go_wp2_with (refine(qT s _ J).mono ?_;rintro e k ⟨rfl,rfl⟩);go_ret;exact⟨O1 (by simp[yA, *,D.u,x.u] <;> omega),(bR _ _).alloc (nR _) _⟩
end
section
open Go Go.Proofs.Tryz
def y9 (kind num:Int)(s:Tb):Tb :=
 if yA kind num s then
  if kind=0 then ⟨#[98,108,97,110,107]⟩
  else if kind=1 then ⟨(Lib.itoa num).toArray⟩
  else if kind=2 then (if num=1 then ⟨#[116,114,117,101]⟩ else ⟨#[102,97,108,115,101]⟩)
  else if kind=3 then ⟨#[34]⟩++s++⟨#[34]⟩
  else ⟨#[33]⟩++⟨(Lib.itoa num).toArray⟩
 else ⟨#[63]⟩
theorem YF (a):(⟨a⟩:Tb).size=a.size:=rfl
def tS (x)(I:-9223372036854775808<=x)(h1:x<=9223372036854775807):(⟨(Lib.itoa x).toArray⟩:Tb).size<=21:=Lib.itoa_length_le x I h1
def qpt (x):1<=(Lib.itoa x).length:=by unfold Lib.itoa;split;{simp};rw[Lib.decDigits_length];exact Lib.nDigits_pos _
def Mw (q E s)(h:yA q E s=Tt)(I:0<=E)(h1:E<=9223372036854775807):1+s.size<=(y9 q E s).size/\(y9 q E s).size<=1050:=by have X:=tS E (by omega) h1;have y:1<=(⟨(Lib.itoa E).toArray⟩:Tb).size:=qpt E;unfold y9;rw[Y4 h];unfold yA at h;by_cases J:q=0;{rw[Y4 J]at h|-;simp only[Yy,Yw]at h;simp only[YF,Z4,Yv,Ze];omega};rw[Ys J]at h|-;by_cases S:q=1;{rw[Y4 S]at h|-;simp only[Yw]at h;omega};rw[Ys S]at h|-;by_cases V:q=2;{rw[Y4 V]at h|-;simp only[Yy,Yw]at h;split <;> simp only[YF,Z4,Yv,Ze] <;> omega};rw[Ys V]at h|-;by_cases U:q=3;{rw[Y4 U]at h|-;simp only[Yy,Yw]at h;have:=(qK.1 h.2).1;simp only[Y8,YF,Z4,Yv,Ze];omega};rw[Ys U]at h|-;by_cases a:q=4;{rw[Y4 a]at h;simp only[Yy,Yw]at h;simp only[Y8];have e:(⟨#[33]⟩:Tb).size=1:=rfl;omega};rw[Ys a]at h;cases h
end
section
open Go Go.RowKit Go.Proofs.Tryz
section
variable {md:Region.Mode} {ops:Array Oper} {Q:Exit->Act->Tw->Prop} {S:Tw->Prop} {o:Oper} {a:Act}
def kI {a:Act}{o:Oper}{d v}(h:o.dst=Sm d):a.put o.dst v = { tmps:=a.tmps.setIfInBounds d v,defers:=a.defers }:=by rw[h];rfl
def sV {i fuel v listed w}(d)(hi:ops[i]? = Sm o)(e:o.dst=Sm d)(J:Region.noSelect ops=Tt)(N:Region.free md ops listed i=Tt)(E:(Region.ready md ops listed).contains i=Tt)
 (D:∀c (b:Act) (t:Ta) w,Q (.panic c) { tmps:=t,defers:=b.defers } w->Q (.panic c) b w) (f:Region.wanted o (yielded ops a.tmps)=Tt) (hy:∀w,S w->(execOp a.eval o).run prog w=.ok (.value v) w) (U:S w) (h:wpAnyH prog md ops Q S fuel (listed.setIfInBounds i Tt) { tmps:=a.tmps.setIfInBounds d v,defers:=a.defers } w):wpAnyH prog md ops Q S (fuel+1) listed a w :=
 wpAnyH_take hi J N E (λc a w h=>D c a _ w (by rw[kI e]at h;exact h)) (.inl ⟨f,hy⟩) U (by rw[kI e];exact h)
def TU {i fuel listed w}(d)(hi:ops[i]? = Sm o)(e:o.dst=Sm d)(J:Region.noSelect ops=Tt)(N:Region.free md ops listed i=Tt)(E:(Region.ready md ops listed).contains i=Tt)
 (D:∀c (b:Act) (t:Ta) w,Q (.panic c) { tmps:=t,defers:=b.defers } w->Q (.panic c) b w) (f:Region.wanted o (yielded ops a.tmps)=Ff) (U:S w) (h:wpAnyH prog md ops Q S fuel (listed.setIfInBounds i Tt) { tmps:=a.tmps.setIfInBounds d undef,defers:=a.defers } w):wpAnyH prog md ops Q S (fuel+1) listed a w :=
 wpAnyH_take hi J N E (λc a w h=>D c a _ w (by rw[kI e]at h;exact h)) (.inr ⟨f,rfl⟩) U (by rw[kI e];exact h)
def tj {fuel listed w}(i d v)(U:S w)(h:wpAnyH prog md ops Q S fuel (listed.setIfInBounds i Tt) { tmps:=a.tmps.setIfInBounds d v,defers:=a.defers } w)(hi:ops[i]? = Sm o:=by exact rfl)(e:o.dst=Sm d:=by exact rfl)(J:Region.noSelect ops=Tt:=by kernel_rfl)(N:Region.free md ops listed i=Tt:=by kernel_rfl)(E:(Region.ready md ops listed).contains i=Tt:=by kernel_rfl)
 (D:∀c (b:Act) (t:Ta) w,Q (.panic c) { tmps:=t,defers:=b.defers } w->Q (.panic c) b w:=by exact λ_ _ _ _ h=>h) (f:Region.wanted o (yielded ops a.tmps)=Tt:=by rfl) (hy:∀w,S w->(execOp a.eval o).run prog w=.ok (.value v) w:=by intro w U;simp[execOp,go_sem, *]):wpAnyH prog md ops Q S (fuel+1) listed a w :=
 sV d hi e J N E D f hy U h
def tn {fuel listed w}(i d)(U:S w)(h:wpAnyH prog md ops Q S fuel (listed.setIfInBounds i Tt) { tmps:=a.tmps.setIfInBounds d undef,defers:=a.defers } w)(hi:ops[i]? = Sm o:=by exact rfl)(e:o.dst=Sm d:=by exact rfl)(J:Region.noSelect ops=Tt:=by kernel_rfl)(N:Region.free md ops listed i=Tt:=by kernel_rfl)(E:(Region.ready md ops listed).contains i=Tt:=by kernel_rfl)
 (D:∀c (b:Act) (t:Ta) w,Q (.panic c) { tmps:=t,defers:=b.defers } w->Q (.panic c) b w:=by exact λ_ _ _ _ h=>h) (f:Region.wanted o (yielded ops a.tmps)=Ff:=by rfl):wpAnyH prog md ops Q S (fuel+1) listed a w :=
 TU d hi e J N E D f U h
def vF {i fuel listed w f args}{R:Value->Tw->Prop}(d)(hi:ops[i]? = Sm o)(g:o.dst=Sm d)(l:Region.wanted o (yielded ops a.tmps)=Tt)(E:Region.ready md ops listed=[i]) (k:(execOp a.eval o).run prog w=.ok (.enter f args) w) (c:Calls prog f args w λe w'=>∃v,e=Rt v/\R v w') (h:∀v w',R v w'->S w'/\wpAnyH prog md ops Q S fuel (listed.setIfInBounds i Tt) { tmps:=a.tmps.setIfInBounds d v,defers:=a.defers } w'):wpAnyH prog md ops Q S (fuel+1) listed a w:=by refine wpAnyH_ready E (by simp) (AllReadyH.cons hi (λK I=>?_) AllReadyH.nil);rw[Y4 l];unfold Oper.wp;rw[k,Oper.upon_enter];refine c.mono ?_;rintro e w' ⟨v,rfl,V⟩;obtain⟨j,b⟩:=h v w' V;show K (a.put o.dst v) w';rw[kI g];exact I.out _ _ j (λ_=>b)
def rF {fuel listed w f args v}{T:World->Prop}(i d)(b:Calls prog f args w λe x=>e=Rt v/\T x)(h:∀x,T x->S x/\wpAnyH prog md ops Q S fuel (listed.setIfInBounds i Tt) {tmps:=a.tmps.setIfInBounds d v,defers:=a.defers} x)(hi:ops[i]? =Sm o:=by exact rfl)(c:o.dst=Sm d:=by exact rfl)(j:Region.wanted o (yielded ops a.tmps)=Tt:=by rfl)(E:Region.ready md ops listed=[i]:=by kernel_rfl)(I:(execOp a.eval o).run prog w=.ok (.enter f args) w:=by simp[execOp,go_sem]):wpAnyH prog md ops Q S (fuel+1) listed a w:=vF (R:=λu x=>u=v/\T x) d hi c j E I (b.mono λe x ⟨g,r⟩=>⟨_,g,rfl,r⟩) λu x ⟨t,r⟩=>by subst t;exact h x r
def S3 {fuel listed w}(h:Q .normal a w)(e:Region.ready md ops listed=[]:=by kernel_rfl):wpAnyH prog md ops Q S fuel listed a w:=wpAnyH_done e h _
def j8 {i fuel listed w w' v}(hi:ops[i]? = Sm o)(f:Region.wanted o (yielded ops a.tmps)=Tt)(E:Region.ready md ops listed=[i]) (e:o.dst=Nn) (b:(execOp a.eval o).run prog w=.ok v w') (g:v=.skip) (U:S w') (h:wpAnyH prog md ops Q S fuel (listed.setIfInBounds i Tt) a w'):wpAnyH prog md ops Q S (fuel+1) listed a w:=by subst g;refine wpAnyH_ready E (by simp) (AllReadyH.cons hi (λK I=>?_) AllReadyH.nil);rw[Y4 f];unfold Oper.wp;rw[b,Oper.upon_skip,e];exact I.out _ _ U (λ_=>h)
end
section
variable {md:Region.Mode} {ops:Array Oper} {Q:Exit->Act->Tw->Prop} {S:Tw->Prop} {o:Oper} {a:Act} {fuel:Nat} {listed:Array Bool} {i:Nat} {rs:List Nat} {w w':Tw}
def sI {f args}{R:Value->Tw->Prop}(d)(hi:ops[i]? = Sm o)(g:o.dst=Sm d)(l:Region.wanted o (yielded ops a.tmps)=Tt) (k:(execOp a.eval o).run prog w=.ok (.enter f args) w) (c:Calls prog f args w λe w'=>∃v,e=Rt v/\R v w') (h:∀v w',R v w'->S w'/\wpAnyH prog md ops Q S fuel (listed.setIfInBounds i Tt) { tmps:=a.tmps.setIfInBounds d v,defers:=a.defers } w') (J:AllReadyH prog md ops Q S fuel listed a w rs):AllReadyH prog md ops Q S fuel listed a w (i :: rs):=by refine AllReadyH.cons hi (λK I=>?_) J;rw[Y4 l];unfold Oper.wp;rw[k,Oper.upon_enter];refine c.mono ?_;rintro e w' ⟨v,rfl,V⟩;obtain⟨j,b⟩:=h v w' V;show K (a.put o.dst v) w';rw[kI g];exact I.out _ _ j (λ_=>b)
def A9 {v}(d)(hi:ops[i]? = Sm o)(e:o.dst=Sm d)(f:Region.wanted o (yielded ops a.tmps)=Tt) (b:(execOp a.eval o).run prog w=.ok (.value v) w') (U:S w') (h:wpAnyH prog md ops Q S fuel (listed.setIfInBounds i Tt) { tmps:=a.tmps.setIfInBounds d v,defers:=a.defers } w') (J:AllReadyH prog md ops Q S fuel listed a w rs):AllReadyH prog md ops Q S fuel listed a w (i :: rs):=by refine AllReadyH.cons hi (λK I=>?_) J;rw[Y4 f];unfold Oper.wp;rw[b];show K (a.put o.dst v) w';rw[kI e];exact I.out _ _ U (λ_=>h)
end
structure Vx where
 k:Int
 n:Int
 s:Tb
def vv (u:Vx):Value:=.agg #[.int .i64 u.k,.int .i64 u.n,St u.s]
def jG:Vx:=⟨0,0,⟨#[]⟩⟩
def IM (w:Tw)(b o:Nat)(u:Vx):Prop:=b<w.1.size/\w.cell? (Aq b o)=Sm (.int .i64 u.k)/\w.cell? (Aq b (o+1))=Sm (.int .i64 u.n)/\w.cell? (Aq b (o+2))=Sm (St u.s)
def IM.mono {w w' b o u}(h:IM w b o u)(c:Bw w w'):IM w' b o u :=
 ⟨Zc h.1 c.size,(c.cell h.1).trans h.2.1,(c.cell h.1).trans h.2.2.1,(c.cell h.1).trans h.2.2.2⟩
def QK (p q:Vx):Bool:=if p.k=q.k then if p.n=q.n then decide (p.s.toList=q.s.toList) else Ff else Ff
def XQ (w:Tw)(a:To)(m:Nat)(f:Nat->Vx):Prop:=∀k,k<m->∃b o,a=Sm (Aq b o)/\IM w b (o+k*3) (f k)
def XQ.mono {w w' a m f}(h:XQ w a m f)(c:Bw w w'):XQ w' a m f:=λk n=>by obtain⟨b,o,e,v⟩:=h k n;exact⟨b,o,e,v.mono c⟩
def ar (op:Int):Int:=if op=2\/op=3\/op=21\/op=22\/op=23\/op=24\/op=25 then 1 else if op=16 then 3 else if 4<=op/\op<=20 then 2 else 0
def pZ (op:Int):(op=2\/op=3\/op=21\/op=22\/op=23\/op=24\/op=25\/op=16)\/((¬ op=2/\¬ op=3/\¬ op=21/\¬ op=22)/\(¬ op=23/\¬ op=24/\¬ op=25/\¬ op=16)/\(op<4\/(4<=op/\op<=20)\/(4<=op/\20<op))):=by omega
def IR (op w):Calls prog 230 #[Yj op] w λe k=>e=Rt (Yj (ar op))/\k=w:=by rcases pZ op with (rfl|rfl|rfl|rfl|rfl|rfl|rfl|rfl)|⟨⟨v,j,C,y⟩,⟨K,c,q,L⟩,h⟩;(case inr=>have Y:¬ (op=2\/op=3\/op=21\/op=22\/op=23\/op=24\/op=25):=(by omega);have a:=L;replace v:(op==2)=Ff:=Yp.2 v;replace j:(op==3)=Ff:=Yp.2 j;replace C:(op==21)=Ff:=Yp.2 C;replace y:(op==22)=Ff:=Yp.2 y;replace K:(op==23)=Ff:=Yp.2 K;replace c:(op==24)=Ff:=Yp.2 c;replace q:(op==25)=Ff:=Yp.2 q;replace L:(op==16)=Ff:=Yp.2 L;rcases h with h|⟨h,b⟩|⟨h,b⟩;{have e:ar op=0:=(by rw[ar,Ys Y,Ys a,Ys (by omega)]);rw[e];go_enter func230,ntmps230;go_wp2;go_ret;exact⟨rfl,rfl⟩};{have e:ar op=2:=(by rw[ar,Ys Y,Ys a,Y4 ⟨h,b⟩]);rw[e];go_enter func230,ntmps230;go_wp2;go_ret;exact⟨rfl,rfl⟩};have e:ar op=0:=(by rw[ar,Ys Y,Ys a,Ys (by omega)]);rw[e];go_enter func230,ntmps230;go_wp2;go_ret;exact⟨rfl,rfl⟩);all_goals (go_enter func230,ntmps230;go_wp2;go_ret;exact⟨rfl,rfl⟩)
end
section
open Go Go.Proofs.Tryz
structure Nx where
 op:Int
 v:Vx
 nm:Tb
abbrev Ji(x0:Nx):Ta:=#[Yj x0.op,Yj x0.v.k,Yj x0.v.n,St x0.v.s,St x0.nm]
structure Ph where
 t:Tb
 lv:Int
 d:Nat
def DF:Ph:=⟨⟨#[]⟩,7,1⟩
def N0 (n:Nx):Nat:=(ar n.op).toNat
def N4 (op:Int):Int:=if op=15 then 1 else if op=14 then 2 else if 10<=op/\op<=13 then 3 else if 7<=op/\op<=9 then 4 else if 4<=op/\op<=6 then 5 else if op=2\/op=3 then 6 else 7
def NG:List Tb:=[⟨#[]⟩,⟨#[]⟩,⟨#[45]⟩,⟨#[110,111,116]⟩,⟨#[42]⟩,⟨#[47]⟩,⟨#[37]⟩,⟨#[43]⟩,⟨#[45]⟩,⟨#[38]⟩,⟨#[61]⟩,⟨#[60,62]⟩,⟨#[60]⟩,⟨#[60,61]⟩,⟨#[97,110,100]⟩,⟨#[111,114]⟩,
 ⟨#[105,102]⟩,⟨#[109,105,110]⟩,⟨#[109,97,120]⟩,⟨#[111,114,101,108,115,101]⟩,⟨#[104,97,115]⟩,⟨#[108,101,110]⟩,⟨#[110,117,109]⟩,⟨#[115,116,114]⟩,⟨#[105,115,98,108,97,110,107]⟩,⟨#[105,115,101,114,114]⟩]
def t5 (op:Int):Tb:=NG.getD op.toNat ⟨#[]⟩
def wrap (l:Int)(p:Ph):Tb:=if p.lv<l then ⟨#[40]⟩++p.t++⟨#[41]⟩ else p.t
def jt:List Tb->Tb
 | []=>⟨#[]⟩
 | x :: r=>⟨#[44,32]⟩++x++jt r
def jn:List Tb->Tb
 | []=>⟨#[]⟩
 | x :: r=>x++jt r
def EF (op:Int):Int:=if N4 op=3 then 4 else N4 op
def IB (n:Nx)(a:List Ph):Tb :=
 if n.op=0 then y9 n.v.k n.v.n n.v.s
 else if n.op=1 then n.nm
 else if n.op=2 then ⟨#[45]⟩++wrap 6 (a.getD 0 DF)
 else if n.op=3 then ⟨#[110,111,116,32]⟩++wrap 6 (a.getD 0 DF)
 else if N4 n.op=7 then t5 n.op++⟨#[40]⟩++jn (a.map (·.t))++⟨#[41]⟩
 else wrap (EF n.op) (a.getD 0 DF)++⟨#[32]⟩++t5 n.op++⟨#[32]⟩++wrap (N4 n.op+1) (a.getD 1 DF)
def mx:List Ph->Nat
 | []=>0
 | p :: r=>max p.d (mx r)
def QI (n:Nx)(a:List Ph):Ph:=⟨IB n a,N4 n.op,mx a+1⟩
def D3 (e:Nat->Nx):Nat->List Nat
 | 0=>[]
 | n+1=>(n+1) :: (D3 e n).drop (N0 (e n))
def C3 (e:Nat->Nx):Nat->List Ph
 | 0=>[]
 | n+1=>QI (e n) ((C3 e n).take (N0 (e n))).reverse :: (C3 e n).drop (N0 (e n))
def top (e:Nat->Nx)(n:Nat):Ph:=(C3 e n).headD DF
def ZE (e n):(C3 e n).length=(D3 e n).length:=by induction n <;> grind[C3,D3]
def T_ (e n):C3 e n=(D3 e n).map (top e):=by induction n with|zero=>rfl|succ n b=>simp only[C3,D3,Vl,List.map_drop,<- b];rfl
def Ld (e n):∀(i a:Nat) (r:List Nat),(D3 e n).drop i=a :: r->D3 e a=a :: r/\1<=a/\a<=n:=by induction n with|zero=>intro i a r h;simp[D3]at h|succ n c=>intro i a r h;cases i with|zero=>simp only[D3,Od,Oj]at h;obtain⟨rfl,rfl⟩:=h;exact⟨rfl,by omega,by omega⟩|succ i=>simp only[D3,List.drop_succ_cons,Gq]at h;obtain⟨j,b,D⟩:=c _ a r h;exact⟨j,b,by omega⟩
def oI (e:Nat->Nx)(n:Nat):Nat:=(D3 e n).tail.headD 0
def pP (e n i)(h:i<(D3 e n).length):D3 e ((D3 e n)[i])=(D3 e n).drop i/\1<=(D3 e n)[i]/\(D3 e n)[i]<=n:=by have:=Ld e n i _ _ (Zt h);rw[Zt h];exact this
def vC (e:Nat->Nx)(n:Nat):Prop:=∀k,k<n->N0 (e k)<=(D3 e k).length
def vC.le {e n m}(h:vC e n)(Q:m<=n):vC e m:=λk a=>h k (by omega)
def uT (e n):top e (n+1)=QI (e n) ((C3 e n).take (N0 (e n))).reverse:=rfl
def NT (e n):(D3 e n).length<=n:=by induction n <;> grind[D3]
def kG (n):N0 n<=3:=by grind[N0,ar]
def By (e)(p:Ph->Prop)(W:∀n a x,x∈a->p x->a.length=N0 n->p (QI n a)){n m}(a:n<=m)(U:vC e m)(h:∃x,x∈C3 e n/\p x):∃x,x∈C3 e m/\p x:=by induction m with|zero=>obtain rfl:n=0:=(by omega);exact h|succ m b=>by_cases Q:n=m+1;{subst Q;exact h};obtain⟨x,r,y⟩:=b (by omega) (U.le (by omega));rw[<- Vu (N0 (e m)) (C3 e m)]at r;rcases Zk.1 r with r|r;{refine⟨_,Zq,W _ _ x (List.mem_reverse.2 r) y ?_⟩;rw[Vf,Zd,ZE];have:=U m (by omega);omega};exact⟨x,Zy _ r,y⟩
def Xi {a x}(h:x∈a):x.d<=mx a:=by induction a <;> grind[mx]
theorem DO (a b):mx (a++b)=max (mx a) (mx b):=by induction a <;> grind[mx]
def qY (a):mx a.reverse=mx a:=by induction a <;> grind[mx,DO]
def tot:List Ph->Nat
 | []=>0
 | p :: r=>p.t.size+tot r
theorem nS (a b):tot (a++b)=tot a+tot b:=by induction a <;> grind[tot]
def SR (a):tot a.reverse=tot a:=by induction a <;> grind[tot,nS]
def Ea {a x}(h:x∈a):x.t.size<=tot a:=by induction a <;> grind[tot]
def D9 (b:Nat):Bool:=decide (97<=b/\b<=122)
def P7 (b:Nat):Bool:=decide (48<=b/\b<=57)
def I8 (b:Nat):Bool:=D9 b||P7 b||decide (b=95)
def nG:List (List UInt8):=[[108,97,98,101,108],[98,101,108,111,119],[114,111,108,101],[102,105,101,108,100],[105,110,116],[98,111,111,108],[116,101,120,116],[97,116],[97,117,116,111],[98,121],[105,115],[119,104,101,110],[118,97,108,105,100],[115,97,121,115],[109,117,115,116],[97,110,100],[111,114],[110,111,116],[116,114,117,101],[102,97,108,115,101],[98,108,97,110,107]]
def kH (s:Tb):Bool:=nG.any λx=>s.toList==x
def E0 (s:Tb):Bool:=decide (1<=s.size/\s.size<=16)&&D9 (s.data.getD 0 0).toNat&&(s.data.toList.all λc=>I8 c.toNat)&&!kH s
def L8 (n:Nx):Bool :=
 if n.op=0 then decide (n.nm.size=0)&&yA n.v.k n.v.n n.v.s&&decide (n.v.k≠4)&&decide (0<=n.v.n)
 else if n.op=1 then decide (n.v.k=0/\n.v.n=0/\n.v.s.size=0)&&E0 n.nm
 else decide (2<=n.op/\n.op<=25)&&decide (n.v.k=0/\n.v.n=0/\n.v.s.size=0)&&decide (n.nm.size=0)
def DE (l p):p.t.size<=(wrap l p).size/\(wrap l p).size<=p.t.size+2:=by grind[wrap,YF]
def qhb:∀k:Fin 26,2<=k.val->1<=(NG.getD k.val ⟨#[]⟩).size/\(NG.getD k.val ⟨#[]⟩).size<=7:=by decide +kernel
def oM {op}(I:2<=op)(h1:op<=25):1<=(t5 op).size/\(t5 op).size<=7:=qhb ⟨op.toNat,by omega⟩ (by show 2<=op.toNat;omega)
def qq3 (a):(jt (a.map (·.t))).size=tot a+2*a.length:=by induction a with|nil=>rfl|cons p r b=>simp only[Vl,jt,Y8,b,tot,Yv,YF,Z4,Ze];omega
def vP (a):tot a<=(jn (a.map (·.t))).size/\(jn (a.map (·.t))).size<=tot a+2*a.length:=by cases a with|nil=>exact⟨nR 0,nR 0⟩|cons p r=>simp only[Vl,jn,Y8,qq3,tot,Yv];omega
def mQ {op}(I:2<=op)(h1:op<=25)(h:N4 op≠7)(i:op≠2)(D:op≠3):ar op=2:=by grind[N4,ar]
def CJ {op}(h:op=2\/op=3):ar op=1:=by grind[ar]
def EI {D:Type}{a:List D}(h:a.length=1):∃x,a=[x]:=by match a,h with|[x],_=>exact⟨x,rfl⟩
def pQ {D:Type}{a:List D}(h:a.length=2):∃x y,a=[x,y]:=by match a,h with|[x,y],_=>exact⟨x,y,rfl⟩
def RZ (n a)(G:L8 n=Tt)(w:a.length=N0 n)(h1:n.v.n<=9223372036854775807):tot a+1+n.v.s.size<=(IB n a).size/\(IB n a).size<=tot a+1100:=by unfold L8 at G;unfold IB;by_cases I:n.op=0;{rw[Y4 I]at G|-;simp only[Yy,Yw]at G;have:a=[]:=(by have e:N0 n=0:=(by unfold N0;rw[I];rfl);rw[e]at w;exact Vq.1 w);subst this;have:=Mw n.v.k n.v.n n.v.s G.1.1.2 G.2 h1;simp only[tot];omega};rw[Ys I]at G|-;by_cases N:n.op=1;{rw[Y4 N]at G|-;simp only[Yy,Yw,E0]at G;have:a=[]:=(by have e:N0 n=0:=(by unfold N0;rw[N];rfl);rw[e]at w;exact Vq.1 w);subst this;simp only[tot];omega};rw[Ys N]at G|-;simp only[Yy,Yw]at G;obtain⟨⟨⟨W,q⟩,⟨-,-,S⟩⟩,-⟩:=G;have f:=oM W q;by_cases i:n.op=2;{rw[Y4 i];have e:N0 n=1:=(by unfold N0;rw[CJ (.inl i)];rfl);obtain⟨x,rfl⟩:=EI (w.trans e);have:=DE 6 x;simp only[Vt,Y8,tot,YF,Z4,Yv,Ze];omega};rw[Ys i];by_cases D:n.op=3;{rw[Y4 D];have e:N0 n=1:=(by unfold N0;rw[CJ (.inr D)];rfl);obtain⟨x,rfl⟩:=EI (w.trans e);have:=DE 6 x;simp only[Vt,Y8,tot,YF,Z4,Yv,Ze];omega};rw[Ys D];by_cases T:N4 n.op=7;{rw[Y4 T];have:=vP a;have D:=kG n;simp only[Y8,YF,Z4,Yv,Ze];omega};rw[Ys T];have e:N0 n=2:=(by unfold N0;rw[mQ W q T i D];rfl);obtain⟨x,y,rfl⟩:=pQ (w.trans e);have j:=DE (EF n.op) x;have K:=DE (N4 n.op+1) y;simp only[Vt,Ge,Y8,tot,YF,Z4,Yv,Ze];omega
def DD (e:Nat->Nx):Nat->Nat
 | 0=>0
 | n+1=>DD e n+1+(e n).v.s.size
def tF (e:Nat->Nx)(n:Nat):Prop:=∀k,k<n->L8 (e k)=Tt
def tF.le {e n m}(h:tF e n)(Q:m<=n):tF e m:=λk a=>h k (by omega)
theorem OT (e n)(U:vC e n)(G:tF e n)(c:∀k,k<n->(e k).v.n<=9223372036854775807):DD e n<=tot (C3 e n)/\tot (C3 e n)<=1100*n:=by induction n with|zero=>simp[DD,C3,tot]|succ n b=>have:=b (U.le (by omega)) (G.le (by omega)) (λk a=>c k (by omega));have P:((C3 e n).take (N0 (e n))).reverse.length=N0 (e n):=(by rw[Vf,Zd,ZE];have:=U n (by omega);omega);have W:=RZ (e n) _ (G n (by omega)) P (c n (by omega));have J:tot (C3 e n)=tot ((C3 e n).take (N0 (e n))).reverse+tot ((C3 e n).drop (N0 (e n))):=(by rw[SR,<- nS,Vu]);simp only[C3,tot,QI,DD];omega
def QF (e:Nat->Nx)(m:Nat):Prop:=1<=m/\m<=1000/\tF e m/\vC e m/\(D3 e m).length=1/\(top e m).d<=64/\(top e m).t.size<=4000
theorem KT {e m}(h:(D3 e m).length=1):C3 e m=[top e m]:=by rw[<- ZE]at h;obtain⟨x,r⟩:=EI h;rw[top,r];rfl
def QF.part {e m n}(h:QF e m)(c:∀k,k<m->(e k).v.n<=9223372036854775807)(h1:1<=n)(G:n<=m):(top e n).d<=64/\(top e n).t.size<=4000:=by obtain⟨-,-,w,J,P,l,M⟩:=h;have W:=KT P;obtain⟨n,rfl⟩:∃k,n=k+1:=⟨n - 1,by omega⟩;constructor;{refine Zh λb=>?_;obtain⟨x,r,R⟩:=By e (λp=>64<p.d) (λn a x r W _=>by have:=Xi r;show 64<mx a+1;have W:64<x.d:=W;omega) G J ⟨_,Zq,by show 64<(top e (n+1)).d;omega⟩;rw[W]at r;obtain rfl:=Zg.1 r;have R:=R;omega};refine Zh λb=>?_;have g:∀j,n+1<=j->j<=m->∃x,x∈C3 e j/\4000<x.t.size:=(by intro j;induction j with|zero=>intro h;omega|succ j f=>intro h1 i;by_cases y:n=j;{subst y;exact⟨_,Zq,by show 4000<(top e (n+1)).t.size;omega⟩};obtain⟨x,r,a⟩:=f (by omega) (by omega);rw[<- Vu (N0 (e j)) (C3 e j)]at r;rcases Zk.1 r with r|r;{refine⟨_,Zq,?_⟩;have P:((C3 e j).take (N0 (e j))).reverse.length=N0 (e j):=(by rw[Vf,Zd,ZE];have:=J j (by omega);omega);have W:=(RZ (e j) _ (w j (by omega)) P (c j (by omega))).1;have:=Ea (List.mem_reverse.2 r);show 4000<(IB _ _).size;omega};exact⟨x,Zy _ r,a⟩);obtain⟨x,r,R⟩:=g m G (nR _);rw[W]at r;obtain rfl:=Zg.1 r;omega
def QF.sum {e m}(h:QF e m)(c:∀k,k<m->(e k).v.n<=9223372036854775807):DD e m<=4000:=by grind[tot,QF,DD,OT,KT]
end
section
open Go Go.RowKit Go.Proofs.Tryz
def Fr (w):Gv 253 #[] w (.agg Yh):=by go_enter func253,ntmps253;go_wp2;exact bQ ⟨rfl,(bR _ _).alloc (nR _) _⟩
def kY (b w):Gv 97 #[Bo b] w (.agg #[Yj 2,Yj (if b then 1 else 0),Yl]):=by cases b;{go_enter func97,ntmps97;go_wp2;exact bQ ⟨rfl,(bR _ _).alloc (nR _) _⟩};go_enter func97,ntmps97;go_wp2;exact bQ ⟨rfl,(bR _ _).alloc (nR _) _⟩
def qej (n w):Gv 130 #[Yj n] w (.agg #[Yj 1,Yj n,Yl]):=by go_enter func130,ntmps130;go_wp2;exact bQ ⟨rfl,(bR _ _).alloc (nR _) _⟩
def Mu (s w):Gv 252 #[St s] w (.agg #[Yj 3,Yj 0,St s]):=by go_enter func252,ntmps252;go_wp2;exact bQ ⟨rfl,(bR _ _).alloc (nR _) _⟩
def PN (w):Gv 198 #[] w (.agg Yh):=by go_enter func198,ntmps198;go_wp2;exact bQ ⟨rfl,(bR _ _).alloc (nR _) _⟩
def xW (b w):Gv 238 #[Bo b] w (.agg #[Yj 2,Yj (if b then 1 else 0),Yl]):=by cases b;{go_enter func238,ntmps238;go_wp2;exact bQ ⟨rfl,(bR _ _).alloc (nR _) _⟩};go_enter func238,ntmps238;go_wp2;exact bQ ⟨rfl,(bR _ _).alloc (nR _) _⟩
def Lo (n w):Gv 240 #[Yj n] w (.agg #[Yj 1,Yj n,Yl]):=by go_enter func240,ntmps240;go_wp2;exact bQ ⟨rfl,(bR _ _).alloc (nR _) _⟩
def IW (s w):Gv 155 #[St s] w (.agg #[Yj 3,Yj 0,St s]):=by go_enter func155,ntmps155;go_wp2;exact bQ ⟨rfl,(bR _ _).alloc (nR _) _⟩
def m9 {F}(b:Nat)(w)(s:F=98\/F=139:=by first|exact .inl rfl|exact .inr rfl):Calls prog F #[.int .u8 b] w λe k=>e=Rt (Bo (D9 b))/\k=w:=by rcases (by omega:¬ 97<=b\/(97<=b/\¬ b<=122)\/(97<=b/\b<=122)) with j|⟨j,i⟩|⟨j,i⟩;all_goals rcases s with rfl|rfl;(case' inl=>go_enter func98,ntmps98);(case' inr=>go_enter func139,ntmps139);all_goals go_wp2;go_ret;exact⟨O1 (by simp[D9, *] <;> omega),rfl⟩
def PA {F}(b:Nat)(w)(s:F=100\/F=140:=by first|exact .inl rfl|exact .inr rfl):Calls prog F #[.int .u8 b] w λe k=>e=Rt (Bo (P7 b))/\k=w:=by rcases (by omega:¬ 48<=b\/(48<=b/\¬ b<=57)\/(48<=b/\b<=57)) with j|⟨j,i⟩|⟨j,i⟩;all_goals rcases s with rfl|rfl;(case' inl=>go_enter func100,ntmps100);(case' inr=>go_enter func140,ntmps140);all_goals go_wp2;go_ret;exact⟨O1 (by simp[P7, *] <;> omega),rfl⟩
def YJ {F}(b:Nat)(w)(s:F=158\/F=142:=by first|exact .inl rfl|exact .inr rfl):Calls prog F #[.int .u8 b] w λe k=>e=Rt (Bo (I8 b))/\k=w:=by have d:((b:Int)==95)=decide (b=95):=(by grind);rw[show I8 b=(D9 b||P7 b||decide (b=95)) from rfl];cases j:D9 b <;> cases i:P7 b <;> cases D:decide (b=95);all_goals rw[D]at d;rcases s with rfl|rfl;(case' inl=>go_enter func158,ntmps158);(case' inr=>go_enter func142,ntmps142);all_goals go_wp2_with (first|(refine(m9 _ _).mono ?_;rintro e k ⟨rfl,rfl⟩;rw[j])|(refine(PA _ _).mono ?_;rintro e k ⟨rfl,rfl⟩;rw[i]));go_ret;exact⟨rfl,rfl⟩
theorem QR {s:Tb}{l}(h:(s.toList==l)=Tt):s=⟨l.toArray⟩:=by have h:s.toList=l:=(by simpa using h);rw[<- h,Zu]
def qg1 (s:Tb)(P:Prop)(hy:∀x,x∈nG->s=⟨x.toArray⟩->P)(G:(∀x,x∈nG->(s.toList==x)=Ff)->P):P:=by grind[nG,QR]
def qsd {x}(h:x∈nG):kH ⟨x.toArray⟩=Tt:=by simp_all[kH]
def Hg {s}(h:∀x,x∈nG->(s.toList==x)=Ff):kH s=Ff:=by grind[kH]
def DR {F}(s w)(a:F=135\/F=231:=by first|exact .inl rfl|exact .inr rfl):Calls prog F #[St s] w λe k=>e=Rt (Bo (kH s))/\k=w:=by have v:(∃x,x∈nG/\s=⟨x.toArray⟩)\/∀x,x∈nG->(s.toList==x)=Ff:=qg1 s _ (λx r J=>.inl ⟨x,r,J⟩) .inr;rcases v with ⟨x,r,rfl⟩|h;{rw[qsd r];unfold nG at r;simp only[Zs,Om,or_false]at r;rcases r with rfl|rfl|rfl|rfl|rfl|rfl|rfl|rfl|rfl|rfl|rfl|rfl|rfl|rfl|rfl|rfl|rfl|rfl|rfl|rfl|rfl;all_goals rcases a with rfl|rfl;(case' inl=>go_enter func135,ntmps135);(case' inr=>go_enter func231,ntmps231);all_goals go_wp2;go_ret;exact⟨rfl,rfl⟩};rw[Hg h];unfold nG at h;simp only[List.forall_mem_cons,Om,false_imp_iff,implies_true,and_true]at h;obtain⟨j,i,m,n,Q,o,T,O,p,J,c,D,k,l,b,g,d,e,y,f,z⟩:=h;rcases a with rfl|rfl;(case' inl=>go_enter func135,ntmps135);(case' inr=>go_enter func231,ntmps231);all_goals go_wp2;go_ret;exact⟨rfl,rfl⟩
def O6 (p:Nat->Bool)(s:Tb)(i:Nat):Nat:=((s.data.toList.drop i).takeWhile λc=>p c.toNat).length
def Ig (p:Nat->Bool)(l:List UInt8)(k)(n:k<=l.length)(h:∀j (y:j<l.length),j<k->p l[j].toNat=Tt)(b:∀y:k<l.length,p l[k].toNat=Ff):(l.takeWhile λc=>p c.toNat).length=k:=by induction l generalizing k with|nil=>simp at n;simp[n]|cons c r a=>cases k with|zero=>have:=b (by simp);simp at this;simp[this]|succ k=>have I:=h 0 (by simp) (by omega);simp only[Oc]at I;rw[List.takeWhile_cons_of_pos (by simpa using I),Yv,a k (by simpa using n) (λj y F=>h (j+1) (by simpa using y) (by omega)) (λy=>b (by simpa using y))]
def CM {p s i k}(n:i+k<=s.size)(h:∀j (y:i+j<s.size),j<k->p (s[i+j]).toNat=Tt)(b:∀y:i+k<s.size,p (s[i+k]).toNat=Ff):O6 p s i=k:=by have P:(s.data.toList.drop i).length=s.size - i:=(by simp);refine Ig p _ k (by omega) (λj y F=>?_) (λy=>?_);{rw[Ot];exact h j (by omega) F};rw[Ot];exact b (by omega)
def lI (p s i):O6 p s i<=s.size - i:=by have:=(List.takeWhile_sublist (λc:UInt8=>p c.toNat) (l:=s.data.toList.drop i)).length_le;unfold O6;simpa using this
def qlr (p s):O6 p s 0=s.size ↔ (s.data.toList.all λc=>p c.toNat)=Tt:=by have e:s.size=s.data.toList.length:=(by simp);unfold O6;rw[Od,e];generalize s.data.toList=l;induction l with|nil=>simp|cons c r b=>by_cases v:p c.toNat=Tt;{rw[List.takeWhile_cons_of_pos (by simpa using v),List.all_cons,v,Yv,Yv,Zx];exact⟨λh=>b.1 (by omega),λh=>by rw[b.2 h]⟩};rw[List.takeWhile_cons_of_neg (by simpa using v)];simp[v]
def SN (s:Tb)(i w)(J:s.size<=9223372036854775807)(hi:i<=s.size):Calls prog 99 #[St s,Yj i] w λe a=>e=Rt (Yj (O6 I8 s i))/\a=w:=by go_enter func99,ntmps99;go_wp2;go_loopw [5] (λn wr=>∃k:Nat,i+k<=s.size/\n=Yj k/\(∀j (y:i+j<s.size),j<k->I8 (s[i+j]).toNat=Tt)/\wr=w) (λn _=>s.size - (intOf n).toNat);exact⟨0,by omega,rfl,λj _ y=>absurd y (nL _),rfl⟩;obtain⟨k,n,rfl,W,rfl⟩:=hrel;have Y:=h_ W;have z:wrap64 ((i:Int)+(k:Int))=((i+k:Nat):Int):=(by rw[CE (by omega) (by omega)];omega);by_cases R:i+k<s.size;{have L:((i:Int)+k)<s.size:=(by omega);cases M:I8 (s[i+k]).toNat;{go_wp2_with (go_at_call 158;refine(YJ _ _).mono ?_;rintro e a ⟨rfl,rfl⟩;rw[M]);go_ret;exact⟨xD (by rw[CM (by omega) Y.u (λ_=>M)]),rfl⟩};go_wp2_with (go_at_call 158;refine(YJ _ _).mono ?_;rintro e a ⟨rfl,rfl⟩;rw[M]);go_roundw;exact⟨k+1,by omega,by go_num,λj y F=>by by_cases e:j=k;{subst e;exact M};exact Y j y (by omega),trivial⟩;simp[intOf];omega};have L:¬ ((i:Int)+k)<s.size:=(by omega);go_wp2;go_ret;exact⟨xD (by rw[CM (by omega) Y.u (λh=>absurd h R)]),rfl⟩
def AV {s:Tb}(h:0<s.size):s.data.getD 0 0=s[0]:=by rw[Array.getD_eq_getD_getElem?,Array.getElem?_eq_getElem (by simpa using h)];rfl
def vZ (s):E0 s=(decide (1<=s.size/\s.size<=16)&&D9 (s.data.getD 0 0).toNat&&(s.data.toList.all λc=>I8 c.toNat)&&!kH s):=rfl
def pR (s w)(J:s.size<=9223372036854775807):Calls prog 65 #[St s] w λe k=>e=Rt (Bo (E0 s))/\k=w:=by have H:=vZ s;have W:=qlr I8 s;have h:=lI I8 s 0;by_cases I:s.size=0;{rw[show E0 s=Ff by rw[H,Yo (by omega)];rfl];have b:((s.size:Int)==0)=Tt:=(by simp[I]);go_enter func65,ntmps65;go_wp2;go_ret;exact⟨rfl,rfl⟩};have b:((s.size:Int)==0)=Ff:=Yp.2 (by omega);by_cases g:16<s.size;{rw[show E0 s=Ff by rw[H,Yo (by omega)];rfl];go_enter func65,ntmps65;go_wp2;go_ret;exact⟨rfl,rfl⟩};have j:0<s.size:=(by omega);rw[Yr (by omega),AV j,Zx]at H;cases O:D9 (s[0]).toNat;{rw[show E0 s=Ff by rw[H,O];rfl];go_enter func65,ntmps65;go_wp2_with (go_at_call 98;refine(m9 _ _).mono ?_;rintro e k ⟨rfl,rfl⟩;rw[O]);go_ret;exact⟨rfl,rfl⟩};rw[O,Zx]at H;obtain⟨r,E⟩:=Nq (O6 I8 s 0);rw[E]at W h;by_cases a:r=s.size;{rw[W.1 a,Zx]at H;have c:((r:Int)==(s.size:Int))=Tt:=(by simp[a]);cases U:kH s;all_goals rw[U]at H;rw[H];go_enter func65,ntmps65;go_wp2_with (first|(go_at_call 98;refine(m9 _ _).mono ?_;rintro e k ⟨rfl,rfl⟩;rw[O])|(go_at_call 99;refine(SN s 0 _ J (nZ _)).mono ?_;rintro e k ⟨rfl,rfl⟩;rw[E])|(go_at_call 135;refine(DR _ _).mono ?_;rintro e k ⟨rfl,rfl⟩;rw[U]));go_ret;exact⟨rfl,rfl⟩};have m:(s.data.toList.all λc=>I8 c.toNat)=Ff:=(by cases e:(s.data.toList.all λc=>I8 c.toNat);{rfl};exact absurd (W.2 e) a);rw[m,Bool.false_and]at H;rw[H];go_enter func65,ntmps65;go_wp2_with (first|(go_at_call 98;refine(m9 _ _).mono ?_;rintro e k ⟨rfl,rfl⟩;rw[O])|(go_at_call 99;refine(SN s 0 _ J (nZ _)).mono ?_;rintro e k ⟨rfl,rfl⟩;rw[E]));go_ret;exact⟨rfl,rfl⟩
def RN (s w)(J:s.size<=9223372036854775807):Calls prog 183 #[St s] w λe a=>e=Rt (Bo (E0 s))/\a=w:=by have H:=vZ s;have b:=VK s;by_cases I:s.size=0;{rw[show E0 s=Ff by rw[H,Yo (by omega)];rfl];rw[Yr I]at b;go_enter func183,ntmps183;go_wp2;go_ret;exact⟨rfl,rfl⟩};rw[Yo I]at b;by_cases m:16<s.size;{rw[show E0 s=Ff by rw[H,Yo (by omega)];rfl];go_enter func183,ntmps183;go_wp2;go_ret;exact⟨rfl,rfl⟩};have g:0<s.size:=(by omega);rw[Yr (by omega),AV g,Zx]at H;cases O:D9 (s[0]).toNat;{rw[show E0 s=Ff by rw[H,O];rfl];go_enter func183,ntmps183;go_wp2_with (go_at_call 139;refine(m9 _ _).mono ?_;rintro e a ⟨rfl,rfl⟩;rw[O]);go_ret;exact⟨rfl,rfl⟩};rw[O,Zx]at H;cases U:kH s;(case true=>rw[U,show(!Tt)=Ff from rfl,Gs]at H;rw[H];go_enter func183,ntmps183;go_wp2_with (first|(go_at_call 139;refine(m9 _ _).mono ?_;rintro e a ⟨rfl,rfl⟩;rw[O])|(go_at_call 231;refine(DR _ _).mono ?_;rintro e a ⟨rfl,rfl⟩;rw[U]));go_ret;exact⟨rfl,rfl⟩);rw[U,show(!Ff)=Tt from rfl,Bool.and_true]at H;rw[H];have d:Hi ((∀j (y:j<s.size),I8 (s[j]).toNat=Tt)->(s.data.toList.all λc=>I8 c.toNat)=Tt):=(by refine h_ λh=>?_;rw[Zm];intro c v;obtain⟨j,y,rfl⟩:=Zi.1 v;exact h j (by simpa using y));have l:Hi (∀j (y:j<s.size),I8 (s[j]).toNat=Ff->(s.data.toList.all λc=>I8 c.toNat)=Ff):=(by refine h_ λj y h=>?_;rw[Gm];exact⟨s[j],by simp[ByteArray.getElem_eq_getElem_data],by simp[h]⟩);generalize (s.data.toList.all λc=>I8 c.toNat)=A at *;go_enter func183,ntmps183;go_wp2_with (first|(go_at_call 139;refine cQ (m9 _ _) λa f=>?_;have f:=f.symm;subst f;rw[O])|(go_at_call 231;refine cQ (DR _ _) λa f=>?_;have f:=f.symm;subst f;rw[U]));go_loopw [23] (λi wr=>∃k:Nat,k<=s.size/\i=Yj k/\(∀j (y:j<s.size),j<k->I8 (s[j]).toNat=Tt)/\wr=w) (λi _=>s.size - (intOf i).toNat);exact⟨0,nZ _,rfl,λj _ y=>absurd y (nL _),rfl⟩;obtain⟨k,n,rfl,W,rfl⟩:=hrel;have Y:=h_ W;by_cases R:k<s.size;{cases M:I8 (s[k]).toNat;{go_wp2_with (go_at_call 142;refine(YJ _ _).mono ?_;rintro e a ⟨rfl,rfl⟩;rw[M]);go_ret;exact⟨O1 (l k R M).symm,rfl⟩};go_wp2_with (go_at_call 142;refine(YJ _ _).mono ?_;rintro e a ⟨rfl,rfl⟩;rw[M]);go_roundw;exact⟨k+1,by omega,by go_num,λj y F=>by by_cases e:j=k;{subst e;exact M};exact Y j y (by omega),trivial⟩;simp[intOf];omega};go_wp2;go_ret;exact⟨O1 (d λj y=>Y j y (by omega)).symm,rfl⟩
def zL (op w):Calls prog 275 #[Yj op] w λe k=>e=Rt (Bo (decide (2<=op/\op<=25)))/\k=w:=by by_cases i:2<=op;{by_cases o:op<=25;{rw[Yr ⟨i,o⟩];go_enter func275,ntmps275;go_wp2;go_ret;exact⟨by simp,rfl⟩};have e:decide (2<=op/\op<=25)=Ff:=Yo (λh=>o h.2);rw[e];go_enter func275,ntmps275;go_wp2;go_ret;exact⟨by simp,rfl⟩};have e:decide (2<=op/\op<=25)=Ff:=Yo (λh=>i h.1);rw[e];go_enter func275,ntmps275;go_wp2;go_ret;exact⟨by rfl,rfl⟩
def UG (op:Int):Int:=if op=2\/op=3\/op=21\/op=22\/op=23\/op=24\/op=25 then 1 else if op=16 then 3 else 2
def sU (op):ar op=if 2<=op/\op<=25 then UG op else 0:=by grind[ar,UG]
def wW (op w):Calls prog 276 #[Yj op] w λe k=>e=Rt (Yj (UG op))/\k=w:=by rcases pZ op with (rfl|rfl|rfl|rfl|rfl|rfl|rfl|rfl)|⟨⟨v,j,C,y⟩,⟨K,a,q,L⟩,-⟩;(case inr=>have e:UG op=2:=(by rw[UG,Ys (by omega),Ys L]);rw[e];go_enter func276,ntmps276;go_wp2;go_ret;exact⟨rfl,rfl⟩);all_goals (go_enter func276,ntmps276;go_wp2;go_ret;exact⟨rfl,rfl⟩)
def nv (n:Nx):Value:=.agg #[.int .i64 n.op,.int .i64 n.v.k,.int .i64 n.v.n,St n.v.s,St n.nm]
def CH (w:Tw)(b o:Nat)(n:Nx):Prop:=b<w.1.size/\w.cell? (Aq b o)=Sm (.int .i64 n.op)/\w.cell? (Aq b (o+1))=Sm (.int .i64 n.v.k)/\w.cell? (Aq b (o+2))=Sm (.int .i64 n.v.n)/\w.cell? (Aq b (o+3))=Sm (St n.v.s)/\w.cell? (Aq b (o+4))=Sm (St n.nm)
def CH.mono {w w' b o n}(h:CH w b o n)(c:Bw w w'):CH w' b o n :=
 ⟨Zc h.1 c.size,(c.cell h.1).trans h.2.1,(c.cell h.1).trans h.2.2.1,(c.cell h.1).trans h.2.2.2.1,(c.cell h.1).trans h.2.2.2.2.1,(c.cell h.1).trans h.2.2.2.2.2⟩
def tB (w:Tw)(a:To)(m:Nat)(e:Nat->Nx):Prop:=∀k,k<m->∃b o,a=Sm (Aq b o)/\CH w b (o+k*5) (e k)
def tB.mono {w w' a m e}(h:tB w a m e)(c:Bw w w'):tB w' a m e:=λk n=>by obtain⟨b,o,e,v⟩:=h k n;exact⟨b,o,e,v.mono c⟩
def EA (n:Nx):Prop:=n.v.s.size<=9223372036854775807/\n.nm.size<=9223372036854775807/\-9223372036854775808<=n.v.n/\n.v.n<=9223372036854775807
def j4 {w b t v u Z l H}(h:j0 w b t [v,u,Z,l,H]) :
 w.cell? (Aq b 0)=Sm v/\w.cell? (Aq b 1)=Sm u/\w.cell? (Aq b 2)=Sm Z/\w.cell? (Aq b 3)=Sm l/\w.cell? (Aq b 4)=Sm H:=⟨h.cell 0,h.cell 1,h.cell 2,h.cell 3,h.cell 4⟩
def IS (n):((N0 n:Nat):Int)=ar n.op:=by grind[N0,ar]
def GN (op:Int):op=0\/op=1\/(¬ op=0/\¬ op=1):=by omega
def NN (n w):Gv 235 #[nv n] w (Yj (N0 n)):=by rw[IS];unfold nv;have h:=h_ ((bR w.1.size w).alloc (nR _) (Cl (Ji n) 132));go_enter func235,ntmps235;go_wp2_with fail;refine cQ (IR _ _) λk f=>?_;have f:=f.symm;subst f;go_wp2;go_ret;exact⟨rfl,h⟩
def mW (u w):Gv 234 #[vv u] w (Bo (decide (u.k=0/\u.n=0/\u.s.size=0))):=by unfold vv;have a:=h_ ((bR w.1.size w).alloc (nR _) (Cl (J1 u.k u.n u.s) 130));have Y:=PJ u.s;by_cases j:u.k=0;{by_cases i:u.n=0;{by_cases D:u.s.size=0;{rw[Yr D]at Y;rw[Yr ⟨j,i,D⟩];have N:(u.k==0)=Tt:=(by simp[j]);have P:(u.n==0)=Tt:=(by simp[i]);clear j i D;go_enter func234,ntmps234;go_wp2;go_ret;exact⟨rfl,a⟩};rw[Yo D]at Y;rw[Yo (λh=>D h.2.2)];have N:(u.k==0)=Tt:=(by simp[j]);have P:(u.n==0)=Tt:=(by simp[i]);clear j i D;go_enter func234,ntmps234;go_wp2;go_ret;exact⟨rfl,a⟩};rw[Yo (λh=>i h.2.1)];have N:(u.k==0)=Tt:=(by simp[j]);have P:(u.n==0)=Ff:=Yp.2 i;clear j i Y;go_enter func234,ntmps234;go_wp2;go_ret;exact⟨rfl,a⟩};rw[Yo (λh=>j h.1)];have N:(u.k==0)=Ff:=Yp.2 j;clear j Y;go_enter func234,ntmps234;go_wp2;go_ret;exact⟨rfl,a⟩
def qkc {k n s}(h:yA k n s=Tt)(h1:¬ k=1):0<=n:=by grind[yA]
def jU {n}(h:n.op=0):L8 n=(decide (n.nm.size=0)&&yA n.v.k n.v.n n.v.s&&decide (n.v.k≠4)&&decide (0<=n.v.n)):=by grind[L8]
def kU {n}(h:n.op=1):L8 n=(decide (n.v.k=0/\n.v.n=0/\n.v.s.size=0)&&E0 n.nm):=by grind[L8]
def MP {n}(I:¬ n.op=0)(h1:¬ n.op=1):L8 n=(decide (2<=n.op/\n.op<=25)&&decide (n.v.k=0/\n.v.n=0/\n.v.s.size=0)&&decide (n.nm.size=0)):=by grind[L8]
def Hm (n w)(N:EA n):Gv 186 #[nv n] w (Bo (L8 n)):=by obtain⟨J,Q,-,-⟩:=N;unfold nv;obtain⟨a,h⟩:=oB (j0.new w 132 #[Yj n.op,Yj n.v.k,Yj n.v.n,St n.v.s,St n.nm]) ((bR w.1.size w).alloc (nR _) (Cl #[Yj n.op,Yj n.v.k,Yj n.v.n,St n.v.s,St n.nm] 132));have Y:=PJ n.nm;rcases GN n.op with b|b|⟨b,m⟩;{have Z:=jU b;rw[b]at a h|-;clear b;by_cases I:n.nm.size=0;{have f:((n.nm.size:Int) != 0)=Ff:=(by simp[I]);rw[Yr I]at Y Z;rw[Zx]at Z;go_enter func186,ntmps186;go_wp2_with fail;refine cQ (wO _ _ _ _ J) λe c=>?_;have a:=mB a c;have h:=mT h c;clear c;obtain⟨o,A,i,x,l⟩:=j4 a;cases g:yA n.v.k n.v.n n.v.s;{rw[g]at Z;have F:Hi (L8 n=Ff):=h_ Z;clear Z;go_wp2;go_ret;exact⟨O1 F.symm,h⟩};rw[g,Zx]at Z;by_cases d:n.v.k=4;{have F:Hi (L8 n=Ff):=h_ (by rw[Z,Yo (λb=>b d)];rfl);clear Z;rw[d]at A a;clear d;go_wp2;go_ret;exact⟨O1 F.symm,h⟩};rw[Yr d,Zx]at Z;have B:=Yp.2 d;by_cases j:n.v.k=1;{rw[j]at A a B;have F:=h_ Z;clear Z;clear d j;go_wp2;go_ret;exact⟨O1 (by rw[F.u]),h⟩};have p:(n.v.k != 1)=Tt:=(by simp[j]);have F:Hi (L8 n=Tt):=h_ (by rw[Z,Yr (qkc g j)]);clear Z;clear d j;go_wp2;go_ret;exact⟨O1 F.symm,h⟩};have f:((n.nm.size:Int) != 0)=Tt:=(by simp[I]);rw[Yo I]at Y Z;have F:Hi (L8 n=Ff):=h_ Z;clear Z;clear I;go_enter func186,ntmps186;go_wp2;go_ret;exact⟨O1 F.symm,h⟩};{have Z:=kU b;rw[b]at a h|-;clear b;go_enter func186,ntmps186;go_wp2_with fail;refine cQ (mW n.v _) λe c=>?_;have a:=mB a c;have h:=mT h c;clear c;obtain⟨o,A,i,x,l⟩:=j4 a;cases d:decide (n.v.k=0/\n.v.n=0/\n.v.s.size=0);{rw[d]at Z;have F:=h_ Z;go_wp2;go_ret;exact⟨O1 F.symm,h⟩};rw[d,Zx]at Z;have F:=h_ Z;go_wp2_with fail;refine cQ (pR _ _ Q) λK f=>?_;have f:=f.symm;subst f;cases H:E0 n.nm;all_goals rw[H]at F;go_wp2;go_ret;exact⟨O1 F.symm,h⟩};have Z:=MP b m;by_cases P:n.op<2;{have F:Hi (L8 n=Ff):=h_ (by rw[Z,Yo (by omega)];rfl);clear Z;go_enter func186,ntmps186;go_wp2;go_ret;exact⟨O1 F.symm,h⟩};by_cases f:25<n.op;{have F:Hi (L8 n=Ff):=h_ (by rw[Z,Yo (by omega)];rfl);clear Z;go_enter func186,ntmps186;go_wp2;go_ret;exact⟨O1 F.symm,h⟩};rw[show decide (2<=n.op/\n.op<=25)=Tt by simp;omega,Zx]at Z;go_enter func186,ntmps186;go_wp2_with fail;refine cQ (mW n.v _) λe c=>?_;have a:=mB a c;have h:=mT h c;obtain⟨o,A,i,x,l⟩:=j4 a;cases d:decide (n.v.k=0/\n.v.n=0/\n.v.s.size=0);{rw[d]at Z;have F:=h_ Z;go_wp2;go_ret;exact⟨O1 F.symm,h⟩};rw[d,Zx]at Z;have F:=h_ Z;by_cases I:n.nm.size=0;{rw[Yr I]at Y F;go_wp2;go_ret;exact⟨O1 F.symm,h⟩};rw[Yo I]at Y F;go_wp2;go_ret;exact⟨O1 F.symm,h⟩
end
section
open List
structure Lx (T N:Type) where
 L:T->Bool
 R:T->Bool
 C:T->Bool
 b:T->Nat
 u:T->Nat
 k:T->Option N
 g:T->Bool
 f:T->Nat
 lv:Nat->Nat
 ar:Nat->Nat
 o:Nat->N
structure Lx.Ok {T N:Type}(X:Lx T N):Prop where
 LR:∀t,X.L t=Tt->X.R t=Ff/\X.C t=Ff/\X.b t=0/\X.u t=0/\X.k t=Nn
 RC:∀t,X.R t=Tt->X.C t=Ff/\X.b t=0/\X.u t=0/\X.k t=Nn
 Cb:∀t,X.C t=Tt->X.b t=0/\X.u t=0/\X.k t=Nn
 bk:∀t,X.b t≠0->X.k t=Nn
 uk:∀t,X.u t≠0->X.k t=Nn
 gk:∀t,X.g t=Tt->X.k t≠Nn
 fg:∀t,X.f t≠0->X.g t=Tt
 lv:∀t,X.b t≠0->1<=X.lv (X.b t)/\X.lv (X.b t)<=5
 ar:∀t,X.f t≠0->1<=X.ar (X.f t)
variable {T N:Type}
def Lx.eo (X:Lx T N)(t:T):Bool:=X.R t||(X.k t).isSome
inductive Gr (X:Lx T N):Nat->Nat->List T->List N->Prop
 | up {l ts e}:1<=l->l<=6->Gr X (l+1) 0 ts e->Gr X l 0 ts e
 | bin {l a t b ea eb}:1<=l->l<=5->l≠3->Gr X l 0 a ea->X.b t≠0->X.lv (X.b t)=l->Gr X (l+1) 0 b eb->Gr X l 0 (a++t :: b) (ea++eb++[X.o (X.b t)])
 | cmp {a t b ea eb}:Gr X 4 0 a ea->X.b t≠0->X.lv (X.b t)=3->Gr X 4 0 b eb->Gr X 3 0 (a++t :: b) (ea++eb++[X.o (X.b t)])
 | pre {t b eb}:X.u t≠0->Gr X 6 0 b eb->Gr X 6 0 (t :: b) (eb++[X.o (X.u t)])
 | one {t n}:X.k t=Sm n->Gr X 7 0 [t] [n]
 | par {l r a e}:X.L l=Tt->X.R r=Tt->Gr X 1 0 a e->Gr X 7 0 (l :: (a++[r])) e
 | call {t l r a e}:X.f t≠0->X.L l=Tt->X.R r=Tt->Gr X 8 (X.ar (X.f t)) a e->Gr X 7 0 (t :: l :: (a++[r])) (e++[X.o (X.f t)])
 | arg {a e}:Gr X 1 0 a e->Gr X 8 1 a e
 | args {n a c b ea eb}:Gr X 8 n a ea->X.C c=Tt->Gr X 1 0 b eb->Gr X 8 (n+1) (a++c :: b) (ea++eb)
def T0 (X:Lx T N):List T->Int
 | []=>0
 | t :: r=>(if X.L t=Tt then 1 else if X.R t=Tt then -1 else 0)+T0 X r
def KF (X:Lx T N)(a b):T0 X (a++b)=T0 X a+T0 X b:=by induction a with|nil=>simp[T0]|cons t a c=>simp only[List.cons_append,T0,c];omega
def XM {X:Lx T N}{t}(h1:X.L t=Ff)(i:X.R t=Ff)(r):T0 X (t :: r)=T0 X r:=by simp[T0,h1,i]
def Lx.Ok.nb {X:Lx T N}(h:X.Ok){t}(c:X.b t≠0):X.L t=Ff/\X.R t=Ff/\X.C t=Ff/\X.eo t=Ff:=by have j:X.L t=Ff:=(by cases q:X.L t with|false=>rfl|true=>exact absurd (h.LR t q).2.2.1 c);have i:X.R t=Ff:=(by cases q:X.R t with|false=>rfl|true=>exact absurd (h.RC t q).2.1 c);have D:X.C t=Ff:=(by cases q:X.C t with|false=>rfl|true=>exact absurd (h.Cb t q).1 c);exact⟨j,i,D,by unfold Lx.eo;rw[i,h.bk t c];rfl⟩
def Lx.Ok.nu {X:Lx T N}(h:X.Ok){t}(c:X.u t≠0):X.L t=Ff/\X.R t=Ff/\X.C t=Ff/\X.eo t=Ff:=by have j:X.L t=Ff:=(by cases q:X.L t with|false=>rfl|true=>exact absurd (h.LR t q).2.2.2.1 c);have i:X.R t=Ff:=(by cases q:X.R t with|false=>rfl|true=>exact absurd (h.RC t q).2.2.1 c);have D:X.C t=Ff:=(by cases q:X.C t with|false=>rfl|true=>exact absurd (h.Cb t q).2.1 c);exact⟨j,i,D,by unfold Lx.eo;rw[i,h.uk t c];rfl⟩
def Lx.Ok.nk {X:Lx T N}(h:X.Ok){t n}(c:X.k t=Sm n):X.L t=Ff/\X.R t=Ff/\X.C t=Ff/\X.b t=0/\X.u t=0:=by have j:X.L t=Ff:=(by cases q:X.L t with|false=>rfl|true=>have:=(h.LR t q).2.2.2.2;rw[c]at this;cases this);have i:X.R t=Ff:=(by cases q:X.R t with|false=>rfl|true=>have:=(h.RC t q).2.2.2;rw[c]at this;cases this);have D:X.C t=Ff:=(by cases q:X.C t with|false=>rfl|true=>have:=(h.Cb t q).2.2;rw[c]at this;cases this);refine⟨j,i,D,?_,?_⟩;{exact Classical.byContradiction λq=>by have:=h.bk t q;rw[c]at this;cases this};exact Classical.byContradiction λq=>by have:=h.uk t q;rw[c]at this;cases this
def Lx.Ok.nf {X:Lx T N}(h:X.Ok){t}(a:X.f t≠0):∃n,X.k t=Sm n:=by cases q:X.k t with|none=>exact absurd q (h.gk t (h.fg t a))|some n=>exact⟨n,rfl⟩
structure T9 (X:Lx T N)(l:Nat)(ts:List T):Prop where
 ne:ts≠[]
 d0:T0 X ts=0
 dn:∀i,i<=ts.length->0<=T0 X (ts.take i)
 eo:∀t,ts.getLast? = Sm t->X.eo t=Tt
 lo:∀i p t,ts[i]? = Sm p->ts[i+1]? = Sm t->T0 X (ts.take (i+2))=0->X.eo p=Tt->X.b t≠0->l<=X.lv (X.b t)
 nc:∀i t,ts[i]? = Sm t->T0 X (ts.take (i+1))=0->X.C t=Ff
def T9.up {X:Lx T N}{l l' ts}(h:T9 X l ts)(P:l'<=l):T9 X l' ts :=
 ⟨h.ne,h.d0,h.dn,h.eo,λa p t j i D d Q=>Nat.le_trans P (h.lo a p t j i D d Q),h.nc⟩
def OL {D:Type}{a b:List D}{i}(h:i<=a.length):(a++b).take i=a.take i:=by rw[List.take_append_of_le_length h]
def jK {D:Type}{a b:List D}{i}(h:a.length<=i):(a++b).take i=a++b.take (i - a.length):=by rw[List.take_append];rw[List.take_of_length_le h]
def T9.mid {X:Lx T N}(m:X.Ok){l n lb a b t}(w:T9 X n a)(c:T9 X lb b)(k:l<=n)(B:l<=lb)(h1:X.b t≠0)(q:X.lv (X.b t)=l):T9 X l (a++t :: b):=by obtain⟨u,O,J,o⟩:=m.nb h1;have z:∀r,T0 X (t :: r)=T0 X r:=XM u O;refine⟨by simp,by rw[KF,z,w.d0,c.d0];rfl,λi g=>?_,λx r=>?_,λi p x D d Q e f=>?_,λi x D d=>?_⟩;{by_cases h:i<=a.length;{rw[OL h];exact w.dn i h};rw[jK (by omega),KF,w.d0];obtain⟨j,y⟩:∃j,i - a.length=j+1:=⟨i - a.length - 1,by omega⟩;rw[y,List.take_succ_cons,z];have:=c.dn j (by simp at g;omega);omega};{rw[List.getLast?_append]at r;have C:(t :: b).getLast? = b.getLast?:=(by cases b with|nil=>exact absurd rfl c.ne|cons g b=>simp[List.getLast?_cons_cons]);rw[C]at r;cases s:b.getLast? with|none=>rw[List.getLast?_eq_none_iff]at s;exact absurd s c.ne|some g=>rw[s]at r;simp at r;subst r;exact c.eo _ s};{by_cases h:i+1<a.length;{rw[List.getElem?_append_left (by omega)]at D d;rw[OL (by omega)]at Q;exact Nat.le_trans k (w.lo i p x D d Q e f)};by_cases Y:i+1=a.length;{rw[List.getElem?_append_right (by omega),Y,Nat.sub_self]at d;simp at d;subst d;omega};rw[List.getElem?_append_right (by omega)]at D d;rw[jK (by omega),KF,w.d0]at Q;by_cases g:i=a.length;{subst g;rw[Nat.sub_self]at D;simp at D;subst D;rw[o]at e;cases e};obtain⟨j,y⟩:∃j,i=a.length+1+j:=⟨i - a.length - 1,by omega⟩;subst y;rw[show a.length+1+j - a.length=j+1 by omega,List.getElem?_cons_succ]at D;rw[show a.length+1+j+1 - a.length=j+1+1 by omega,List.getElem?_cons_succ]at d;rw[show a.length+1+j+2 - a.length=j+2+1 by omega,List.take_succ_cons,z]at Q;exact Nat.le_trans B (c.lo j p x D d (by omega) e f)};by_cases h:i<a.length;{rw[List.getElem?_append_left h]at D;rw[OL (by omega)]at d;exact w.nc i x D d};rw[List.getElem?_append_right (by omega)]at D;rw[jK (by omega),KF,w.d0]at d;obtain⟨j,y⟩:∃j,i - a.length=j:=⟨_,rfl⟩;rw[y]at D;rw[show i+1 - a.length=j+1 by omega,List.take_succ_cons,z]at d;cases j with|zero=>simp at D;subst D;exact J|succ j=>rw[List.getElem?_cons_succ]at D;exact c.nc j x D (by omega)
def T9.cons {X:Lx T N}{l b t}(h1:X.L t=Ff)(a:X.R t=Ff)(d:X.C t=Ff)(c:T9 X l b)(I:∀x,b.head? = Sm x->X.eo t=Tt->X.b x≠0->l<=X.lv (X.b x)):T9 X l (t :: b):=by have z:∀r,T0 X (t :: r)=T0 X r:=XM h1 a;refine⟨by simp,by rw[z,c.d0],λi e=>?_,λx r=>?_,λi p x u O J D H=>?_,λi x u O=>?_⟩;{cases i with|zero=>simp[T0]|succ i=>rw[List.take_succ_cons,z];exact c.dn i (by simpa using e)};{cases b with|nil=>exact absurd rfl c.ne|cons y b=>rw[List.getLast?_cons_cons]at r;exact c.eo x r};{rw[show i+2=(i+1)+1 from rfl,List.take_succ_cons,z]at J;rw[List.getElem?_cons_succ]at O;cases i with|zero=>simp at u;subst u;exact I x (by rw[List.head?_eq_getElem?];exact O) D H|succ i=>rw[List.getElem?_cons_succ]at u;exact c.lo i p x u O J D H};rw[List.take_succ_cons,z]at O;cases i with|zero=>simp at u;subst u;exact d|succ i=>rw[List.getElem?_cons_succ]at u;exact c.nc i x u O
def T9.wrap {X:Lx T N}(s:X.Ok){l r a}(h1:X.L l=Tt)(b:X.R r=Tt)(f:T0 X a=0)(e:∀i,i<=a.length->0<=T0 X (a.take i)):T9 X 7 (l :: (a++[r])):=by have E:X.L r=Ff:=(by cases q:X.L r with|false=>rfl|true=>rw[(s.LR r q).1]at b;cases b);have I7:∀c,T0 X (l :: c)=1+T0 X c:=λc=>(by simp[T0,h1]);have A:T0 X [r] = -1:=(by simp[T0,E,b]);have q:∀j,j<=a.length->T0 X ((a++[r]).take j)=T0 X (a.take j):=λj y=>(by rw[OL y]);refine⟨by simp,by rw[I7,KF,f,A];rfl,λi c=>?_,λx d=>?_,λi p x u O J D H=>?_,λi x u O=>?_⟩;{cases i with|zero=>simp[T0]|succ i=>rw[List.take_succ_cons,I7];by_cases h:i<=a.length;{rw[q i h];have:=e i h;omega};rw[List.take_of_length_le (by simp;omega),KF,f,A];omega};{rw[show l :: (a++[r])=(l :: a)++[r] from rfl,List.getLast?_append]at d;simp at d;subst d;unfold Lx.eo;rw[b];rfl};{rw[show i+2=(i+1)+1 from rfl,List.take_succ_cons,I7]at J;rw[List.getElem?_cons_succ]at O;by_cases h:i+1<=a.length;{rw[q _ h]at J;have:=e _ h;omega};have c:i=a.length:=(by have:=(List.getElem?_eq_some_iff.1 O).1;simp at this;omega);subst c;rw[List.getElem?_append_right (Nat.le_refl _),Nat.sub_self]at O;simp at O;subst O;exact absurd (s.RC r b).2.1 H};rw[List.take_succ_cons,I7]at O;cases i with|zero=>simp[T0]at O|succ i=>rw[List.getElem?_cons_succ]at u;by_cases h:i+1<=a.length;{rw[q _ h]at O;have:=e _ h;omega};have c:i=a.length:=(by have:=(List.getElem?_eq_some_iff.1 u).1;simp at this;omega);subst c;rw[List.getElem?_append_right (Nat.le_refl _),Nat.sub_self]at u;simp at u;subst u;exact(s.RC r b).1
def Lx.Ok.nC {X:Lx T N}(s:X.Ok){c}(h:X.C c=Tt):X.L c=Ff/\X.R c=Ff:=by constructor;{cases q:X.L c with|false=>rfl|true=>rw[(s.LR c q).2.1]at h;cases h};cases q:X.R c with|false=>rfl|true=>rw[(s.RC c q).1]at h;cases h
def Gr.ph {X:Lx T N}(s:X.Ok){l n ts e}(h:Gr X l n ts e):(l<=7->T9 X l ts)/\T0 X ts=0/\∀i,i<=ts.length->0<=T0 X (ts.take i):=by have d:∀{l ts},T9 X l ts->(l<=7->T9 X l ts)/\T0 X ts=0/\∀i,i<=ts.length->0<=T0 X (ts.take i):=λh=>⟨λ_=>h,h.d0,h.dn⟩;induction h with|up h1 h2 _ ih=>exact d ((ih.1 (by omega)).up (Nat.le_succ _))|bin h1 h2 h3 _ h4 h5 _ iha ihb=>exact d (T9.mid s (iha.1 (by omega)) (ihb.1 (by omega)) (Nat.le_refl _) (Nat.le_succ _) h4 h5)|cmp _ h4 h5 _ iha ihb=>exact d (T9.mid s (iha.1 (by omega)) (ihb.1 (by omega)) (by omega) (by omega) h4 h5)|pre h1 _ ih=>obtain⟨u,O,J,D⟩:=s.nu h1;exact d (T9.cons u O J (ih.1 (by omega)) (λx _ h=>by rw[D]at h;cases h))|@one t n h1=>(obtain⟨u,O,J,D,H⟩:=s.nk h1;refine d ⟨by simp,by simp[T0,u,O],λi f=>?_,λx r=>?_,λi p x k g=>?_,λi x k _=>?_⟩;{cases i with|zero=>simp[T0]|succ i=>simp[T0,u,O]};{simp at r;subst r;unfold Lx.eo;rw[h1];simp};{simp at g};cases i with|zero=>simp at k;subst k;exact J|succ i=>simp at k)|par h1 h2 _ ih=>exact d (T9.wrap s h1 h2 ih.2.1 ih.2.2)|call h0 h1 h2 _ ih=>obtain⟨n,G⟩:=s.nf h0;obtain⟨u,O,J,D,H⟩:=s.nk G;refine d (T9.cons u O J (T9.wrap s h1 h2 ih.2.1 ih.2.2) (λx r _ g=>?_));simp at r;subst r;exact absurd (s.LR _ h1).2.2.1 g|arg _ ih=>exact⟨λh=>absurd h (by omega),ih.2⟩|@args n a c b ea eb _ h1 _ iha ihb=>obtain⟨u,O⟩:=s.nC h1;have z:∀r,T0 X (c :: r)=T0 X r:=XM u O;refine⟨λh=>absurd h (by omega),by rw[KF,z,iha.2.1,ihb.2.1];rfl,λi f=>?_⟩;by_cases h:i<=a.length;{rw[OL h];exact iha.2.2 i h};rw[jK (by omega),KF,iha.2.1];obtain⟨j,y⟩:∃j,i - a.length=j+1:=⟨i - a.length - 1,by omega⟩;rw[y,List.take_succ_cons,z];have:=ihb.2.2 j (by simp at f;omega);omega
variable {P:Prop}
def kq(h:P:=by simp[intOf];omega):P:=h
def kj(h:P:=by obtain⟨Y,J,K,O⟩:=D0 j;obtain⟨Z,r1⟩:=QM c;simp[execOp,go_sem, *]):P:=h
def kv(h:P:=by simp[execOp,go_sem, *]):P:=h
def kw(h:P:=by exact⟨rfl,rfl⟩):P:=h
def kk(h:P:=by clear h b;by_cases b:pk l i=s;{rw[Yr b,Y4 b]at K;have h:=h_ b;clear b;go_enter func148,ntmps148;go_wp2_with fail;refine K.mono ?_;rintro e m ⟨rfl,E,f⟩;obtain⟨H,Y⟩:=oB E f;clear E f;go_wp2_with fail;refine(OD _ _).mono ?_;rintro e f ⟨rfl,rfl⟩;go_wp2_with fail;go_end0;exact .inl ⟨h,rfl,H,Y⟩};rw[Yo b,Ys b]at K;have h:=h_ b;clear b;go_enter func148,ntmps148;go_wp2_with fail;refine K.mono ?_;rintro e m ⟨rfl,E,-⟩;have H:=h_ E.bel;clear E;go_wp2_with fail;refine(tE _ _).mono ?_;rintro e f ⟨rfl,rfl⟩;exact⟨rfl,.inr ⟨h,rfl,H⟩⟩):P:=h
def kQ(h:P:=by simp[Instr.index,run_underlying underlying117,asIntOf,go_sem,G9]):P:=h
def kJ(h:P:=by have j:Hi (k.ownsRow (w.1.size+1) 3 1 U (l++[y.natAbs % 10]).length (ui (l++[y.natAbs % 10]))):=(by rw[Hi];rw[R.u]at O;simpa [ui] using O);have g:=h_ b;clear O c b;go_wp2;go_roundw;{refine⟨y.tdiv 10,l++[y.natAbs % 10],congrArg _ d,?_,?_,?_,j,g⟩;{have:=a.u;have:=F.u;omega};{have:=a.u;have:=F.u;omega};rw[F.u,V8,List.singleton_append,<- i.u];exact W};simp only[intOf];rw[d.u];have:=F.u;omega):P:=h
def kZ(h:P:=by first|exact⟨a,_,rfl,F,r,P⟩|((repeat apply Exists.intro);exact⟨⟨a,_,rfl,F,r,P⟩,rfl⟩)):P:=h
def kX(h:P:=by obtain rfl:k=a+1:=dN;have j:=F.2;rw[IT P fd,IT Q fd]at j;have X:e=0:=(by have h2:=Zc (YH P) (Oy (n:=10) dO g.1);have h3:=Zc (YH Q) (Oy (n:=10) dO g.2);rw[Nat.pow_succ]at j;rcases (by omega:e=0\/e=1) with i|i;{exact i};subst i;omega);exact fI):P:=h
def kV(h:P:=by go_wp2_with fail;refine(h _).mono ?_;rintro e d ⟨rfl,rfl⟩;go_wp2_with fail;(try go_step3);go_wp2_with fail;exact gy):P:=h
def kW(h:P:=by have a:Hi (decide (v<=32/\j<=256/\C<=64/\y<=200)=Ff):=h_ (Yo dN);exact gv):P:=h
def kK(h:P:=by go_wp2;go_ret2;exact⟨c.symm,h.u⟩):P:=h
def Kq(h:P:=by obtain rfl:k=e:=dN;have Q:¬ (k:Int)<(k:Int):=dN;have T:Hi ((B.all λx=>M0 x b)=Tt):=h_ (Dc λj y=>W j y eV);have d:Hi (QD wr w.1.size _ (T7 b B)):=h_ (by have h:=r.u;rw[Zn eV]at h;exact h);exact iH):P:=h
def Kj(h:P:=by simp[execOp,go_sem,q0]):P:=h
def Kz(h:P:=by first|exact⟨i+1,dN,dR,by rw[show K+(i+1)*1=q+1 by omega];go_num,λ_=>v,d⟩|((repeat apply Exists.intro);exact⟨⟨i+1,dN,dR,by rw[show K+(i+1)*1=q+1 by omega];go_num,λ_=>v,d⟩,rfl⟩)):P:=h
def Kx(h:P:=by first|exact⟨i+1,dN,dR,by rw[show K+(i+1)*2=q+2 by omega];go_num,λ_=>v,d⟩|((repeat apply Exists.intro);exact⟨⟨i+1,dN,dR,by rw[show K+(i+1)*2=q+2 by omega];go_num,λ_=>v,d⟩,rfl⟩)):P:=h
def Kv(h:P:=by go_ret;exact⟨rfl,h⟩):P:=h
def Kw(h:P:=by have O:=(show aS.ownsRow V.1.size 9 1 aW (fW m f).length (R4 (fW m f)) by rw[<- HE.u,Yn];exact O);obtain⟨a1,c1,rfl,aB,hS⟩:=EL O;have an:=h_ hS;go_wp2;go_ret;exact ik):P:=h
def Kk(h:P:=by exact absurd e dO):P:=h
def KQ(h:P:=by have O:=congrArg List.length r;have g:=congrArg List.length n;simp at O g;omega):P:=h
def KJ(h:P:=by first|exact⟨k+1,f,g,e,rfl,rfl,by rw[y.u,v],dR,p,h,.inl F⟩|((repeat apply Exists.intro);exact⟨⟨k+1,f,g,e,rfl,rfl,by rw[y.u,v],dR,p,h,.inl F⟩,rfl⟩)):P:=h
def KZ(h:P:=by go_wp2_with fail;(go_quiet (first|(go_at_call 192;refine QH (W _))|(go_at_call 195;refine QH (K _))));go_wp2;go_ret;exact⟨xD (by rw[a.u]),B _⟩):P:=h
def KX(h:P:=by go_wp2;go_roundw;{first|exact⟨S,l,rfl,F,p,h⟩|((repeat apply Exists.intro);exact⟨⟨S,l,rfl,F,p,h⟩,rfl⟩)};simp[intOf];exact Vm R y):P:=h
def KV(h:P:=by simp[execOp,go_sem]):P:=h
def KW(h:P:=by simp[execOp,go_sem,sM w H2.u dN]):P:=h
def KK(h:P:=by simp[execOp,go_sem,sM w Y.u dN]):P:=h
def K0(h:P:=by go_wp2_with fail;go_end0;exact⟨rfl,HF⟩):P:=h
def K2(h:P:=by show w.heap[g]? = _;rw[s]):P:=h
def K3(h:P:=by go_wp2;go_ret;exact⟨O1 e.symm,h.u⟩):P:=h
def K5(h:P:=by clear j;go_enter func106,ntmps106;go_wp2_with fail;refine(pR x _ J).mono ?_;rintro e k ⟨rfl,rfl⟩;rw[i];exact gb):P:=h
def K6(h:P:=by refine⟨m,?_⟩;refine t6 ?_;refine F0 9 26 (Bo Ff) m ?_;refine S3 ?_;refine rQ ?_;exact⟨k+1,dN,dR,Z⟩):P:=h
def K7(h:P:=by injection h with _ h;injection h with e1 h;obtain⟨rfl,rfl⟩:=e h (λx d=>H x fG);exact⟨by rw[e1],rfl⟩):P:=h
def K8(h:P:=by go_wp2;go_ret;exact⟨rfl,bR _ _⟩):P:=h
def K9(h:P:=by simp[execOp,go_sem,U]):P:=h
def uq(h:P:=by simp[IntKind.wrap,IntKind.bits,IntKind.signed];omega):P:=h
def uj(h:P:=by funext w;have b:prog.elem 23=9:=dP;obtain⟨d,X,j,A,i⟩:=info_parts WE;rw[b];simp[sizeOf,typeInfo,X,A]):P:=h
def uz(h:P:=by go_wp2_with fail;refine cQ (IL x 6 _ ad) λo b=>?_;have h:=mT h b;generalize wrap 6 x=f at *;exact gl):P:=h
def ux(h:P:=by first|rfl|trivial):P:=h
def uw(h:P:=by clear r;go_wp2_with fail;(go_quiet (first|(go_at_call 194;refine Calls.quiet_of_same (E _))));exact gH):P:=h
def uQ(h:P:=by go_wp2;(go_quiet (fail));exact gw):P:=h
def uJ(h:P:=by simp[execOp,go_sem,sM w H3.u dN]):P:=h
def uZ(h:P:=by first|exact⟨k+1,dN,dR,t,s,P⟩|((repeat apply Exists.intro);exact⟨⟨k+1,dN,dR,t,s,P⟩,rfl⟩)):P:=h
def uX(h:P:=by show j0 Wb R _ _;rw[Yn];exact aA):P:=h
def uV(h:P:=by simp[execOp,go_sem, *];rw[IntKind.wrap_i64];omega):P:=h
def uK(h:P:=by rw[CE dN dN];omega):P:=h
def Uq(h:P:=by first|exact⟨q,_,rfl,F,r,P⟩|((repeat apply Exists.intro);exact⟨⟨q,_,rfl,F,r,P⟩,rfl⟩)):P:=h
def Uj(h:P:=by first|exact⟨k+1,dN,dR,Z,p⟩|((repeat apply Exists.intro);exact⟨⟨k+1,dN,dR,Z,p⟩,rfl⟩)):P:=h
def Uz(h:P:=by refine⟨?_,?_,?_⟩ <;> decide):P:=h
def Ux(h:P:=by rw[List.map_const',List.length_range];exact c):P:=h
def Uv(h:P:=by rw[show lA G Q f=Ff by rw[a,Yo (show ¬ (-1<=f.lb/\f.lb<G) by omega),Gs];rfl];exact gE):P:=h
def Uw(h:P:=by simp[y9,yA,ByteArray.size]):P:=h
def Uk(h:P:=by rw[e]at h;have Y:=h.symm.trans L;simp at Y):P:=h
def UQ(h:P:=by have a:Hi (q=Ff):=h_ (by rw[c,Yo dN];rfl);clear c;go_enter func134,ntmps134;exact ig):P:=h
def UJ(h:P:=by first|rfl|decide|simp):P:=h
def UZ(h:P:=by constructor;{rintro⟨j,i⟩;rw[PE dN]at i;exact i};rintro rfl;exact⟨f,PE dN⟩):P:=h
def UX(h:P:=by (repeat refine D7 d ?_);refine S3 ?_;refine rQ ?_;exact⟨k+1,_,dN,dR,rfl,z,HD⟩):P:=h
def UV(h:P:=by have r:(a*n+b) / n=a/\(a*n+b) % n=b:=(by exact g9);rw[r.1,r.2]at y;exact⟨e,k,y⟩):P:=h
def UW(h:P:=by exact((bR _ w).alloc (nR _) _).alloc dQ _):P:=h
def UK(h:P:=by go_wp2;exact bQ ⟨rfl,y⟩):P:=h
def U2(h:P:=by injection w with w;exact iw):P:=h
def U3(h:P:=by simp only[Yn,Yv,Ze];omega):P:=h
def U4(h:P:=by simp[execOp,go_sem];omega):P:=h
def U5(h:P:=by have T:s.size<=1000:=(by simp[yA]at U;exact(qK.1 U.2).1);go_wp2;exact fJ):P:=h
def U6(h:P:=by go_wp2;go_ret;exact⟨EC g.symm,h⟩):P:=h
def U7(h:P:=by go_wp2;go_ret;exact⟨O1 F.symm,e⟩):P:=h
def U8(h:P:=by refine rQ ?_;exact⟨k+1,dN,dR,T,B⟩):P:=h
def U9(h:P:=by simp only[Zz,Gk,Vl,Ga,Gu,G0,Z2];have:=b λj y=>h j dN;have:=h n dN;omega):P:=h
def Hq(h:P:=by rw[Zv,Yw];refine⟨λh=>?_,λh=>by rw[h];simp⟩;have i:=QR h;rw[i,Zu]):P:=h
def Hj(h:P:=by go_enter func105,ntmps105;exact gb):P:=h
def Hz(h:P:=by have Z:k<(D2 m).length:=(by simpa [D2] using i);rw[Yx Z];simp[D2]):P:=h
def Hx(h:P:=by obtain rfl:k=l.length:=dN;exact gR):P:=h
def Hv(h:P:=by obtain⟨q0,q1,q2,q3,q4⟩:=j4 U;simp[execOp,go_sem,q0,q1,q2,q3,q4]):P:=h
def Hw(h:P:=by injection w with w;subst w;exact h):P:=h
def H6(h:P:=by exact GR 81 #[(0,.const (Yj 4)),(1,.tmp 134),(4,.tmp 138)] rfl _ dP):P:=h
def H7(h:P:=by exact .inr ⟨g,q,p,j,Y9 c H,r⟩):P:=h
def H9(h:P:=by simp[execOp,go_sem, *];unfold QK jG;(repeat' split) <;> simp_all):P:=h
def Dq(h:P:=by simp[execOp,go_sem,sM w H4.u dN]):P:=h
def Dj(h:P:=by simp[execOp,go_sem,sM w H5.u dN]):P:=h
def Dz(h:P:=by exact Rx dV (.tmp 10) rfl o.1.size 0 _ rfl (λ_ h=>h.2.2.2.2.2.1)):P:=h
def Dx(h:P:=by rw[AO,A.u,yK,yK,<- sH P,<- sH Q,t.u,z.u];exact qhf F.2 rfl):P:=h
def Dv(h:P:=by obtain⟨⟨-,M,I,O⟩,-,J,L,N⟩:=U;simp[execOp,go_sem,M,I,O]):P:=h
def Dw(h:P:=by obtain⟨⟨-,M,I,O⟩,-,J,L,N⟩:=U;simp[execOp,go_sem,J,L,N]):P:=h
def Dk(h:P:=by have:=h p Zq;have:=N λy b=>h y (Zy _ b);simp only[mx];omega):P:=h
def DQ(h:P:=by have f:=f.symm;subst f;refine rQ ?_;exact⟨k+1,dN,dR,C,b⟩):P:=h
def DJ(h:P:=by go_enter func102,ntmps102;go_wp2;exact bQ ⟨rfl,bR _ _⟩):P:=h
def DZ(h:P:=by refine⟨0,dN,λd f=>?_⟩;obtain rfl:d=0:=dN;exact E 0 dN):P:=h
def DX(h:P:=by simp only[Array.getElem_toList];exact UInt8.toNat_inj.1 v):P:=h
