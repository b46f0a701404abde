import Derived.Test.YtdlnflnfbcaiiaaGreatDoorW11
import Derived.Test.YtdlnflnfbcaiiaaGreatDoorW10
set_option linter.all false
set_option maxRecDepth 100000
set_option maxHeartbeats 0
namespace Go.Proofs.YtdlnflnfbcaiiaaGreatDoor
open Value renaming string->St
open Option renaming none->Nn,some->Sm
open Bool renaming true->Tt,false->Ff
open Go Go.RowKit Go.Proofs.Tryz
def nv (n:Nx):Value:=.agg #[.int .i64 n.op,.int .i64 n.v.k,.int .i64 n.v.n,St n.v.s,St n.nm]
def MP (w:Tw)(b o:Nat)(n:Nx):Prop:=b<w.1.size/\w.cell? (Aq b o)=Sm (.int .i64 n.op)/\w.cell? (Aq b (o+1))=Sm (.int .i64 n.v.k)/\w.cell? (Aq b (o+2))=Sm (.int .i64 n.v.n)/\w.cell? (Aq b (o+3))=Sm (St n.v.s)/\w.cell? (Aq b (o+4))=Sm (St n.nm)
def MP.mono {w w' b o n}(h:MP w b o n)(c:Bw w w'):MP w' b o n :=
 ⟨Yw h.1 c.size,(c.cell h.1).trans h.2.1,(c.cell h.1).trans h.2.2.1,(c.cell h.1).trans h.2.2.2.1,(c.cell h.1).trans h.2.2.2.2.1,(c.cell h.1).trans h.2.2.2.2.2⟩
def BB (w:Tw)(a:To)(m:Nat)(e:Nat->Nx):Prop:=∀k,k<m->∃b o,a=Sm (Aq b o)/\MP w b (o+k*5) (e k)
def BB.mono {w w' a m e}(h:BB w a m e)(c:Bw w w'):BB w' a m e:=λd k=>by obtain⟨b,o,e,N⟩:=h d k;exact⟨b,o,e,N.mono c⟩
def D9 (n:Nx):Prop:=n.v.s.size<=9223372036854775807/\n.nm.size<=9223372036854775807/\-9223372036854775808<=n.v.n/\n.v.n<=9223372036854775807
def M2 {w b t v u V Y y}(h:m0 w b t [v,u,V,Y,y]) :
 w.cell? (Aq b 0)=Sm v/\w.cell? (Aq b 1)=Sm u/\w.cell? (Aq b 2)=Sm V/\w.cell? (Aq b 3)=Sm Y/\w.cell? (Aq b 4)=Sm y:=⟨h.cell 0,h.cell 1,h.cell 2,h.cell 3,h.cell 4⟩
def ZQ (n):((M0 n:Nat):Int)=ar n.op:=by grind[M0,ar]
def NP (op:Int):op=0\/op=1\/(¬ op=0/\¬ op=1):=by omega
def SP (n w):Gv 185 #[nv n] w (Ye (M0 n)):=by rw[ZQ];unfold nv;have l:=h_ ((bR w.1.size w).alloc (nR _) (.cells #[Ye n.op,Ye n.v.k,Ye n.v.n,St n.v.s,St n.nm] 96));go_enter func185,ntmps185;go_wp2_with fail;refine cQ (wQ _ _) λj W=>?_;have W:=W.symm;subst W;exact Kx
def iZ {p:Prop}(h:p:=by go_enter func212,ntmps212;exact Kx):p:=h
def LZ (u w):Gv 212 #[vv u] w (.bool (decide (u.k=0/\u.n=0/\u.s.size=0))):=by unfold vv;have l:=h_ ((bR w.1.size w).alloc (nR _) (.cells (Jc u.k u.n u.s) 46));have M:=oL u.s;by_cases m:u.k=0;{by_cases r:u.n=0;{by_cases Z:u.s.size=0;{rw[Yo Z]at M;rw[Yo ⟨m,r,Z⟩];exact U7};rw[Yl Z]at M;rw[Yl (λh=>Z h.2.2)];exact U7};rw[Yl (λh=>r h.2.1)];have a:(u.k==0)=Tt:=gK;have I:(u.n==0)=Ff:=Yk.2 r;clear m r M;exact iZ};rw[Yl (λh=>m h.1)];have a:(u.k==0)=Ff:=Yk.2 m;clear m M;exact iZ
def qlr {k n s}(h:Z1 k n s=Tt)(h1:¬ k=1):0<=n:=by grind[Z1]
def OX {n}(h:n.op=0):t7 n=(decide (n.nm.size=0)&&Z1 n.v.k n.v.n n.v.s&&decide (n.v.k≠4)&&decide (0<=n.v.n)):=by grind[t7]
def PX {n}(h:n.op=1):t7 n=(decide (n.v.k=0/\n.v.n=0/\n.v.s.size=0)&&N7 n.nm):=by grind[t7]
def AS {n}(D:¬ n.op=0)(h1:¬ n.op=1):t7 n=(decide (2<=n.op/\n.op<=25)&&decide (n.v.k=0/\n.v.n=0/\n.v.s.size=0)&&decide (n.nm.size=0)):=by grind[t7]
def iY {p:Prop}(h:p:=by go_wp2;go_ret;exact⟨L2 M.symm,l⟩):p:=h
def Pv (n w)(j:D9 n):Gv 174 #[nv n] w (.bool (t7 n)):=by obtain⟨p,o,-,-⟩:=j;unfold nv;obtain⟨U,l⟩:=oB (m0.new w 96 #[Ye n.op,Ye n.v.k,Ye n.v.n,St n.v.s,St n.nm]) ((bR w.1.size w).alloc (nR _) (.cells #[Ye n.op,Ye n.v.k,Ye n.v.n,St n.v.s,St n.nm] 96));have a:=oL n.nm;rcases NP n.op with h|h|⟨h,i⟩;{have T:=OX h;rw[h]at U l|-;clear h;by_cases D:n.nm.size=0;{have Z:((n.nm.size:Int) != 0)=Ff:=gY;rw[Yo D]at a T;rw[Zg]at T;go_enter func174,ntmps174;go_wp2_with fail;refine cQ (YP _ _ _ _ p) λc F=>?_;have U:=mB U F;have l:=mT l F;clear F;obtain⟨z,b,d,e,f⟩:=M2 U;cases I:Z1 n.v.k n.v.n n.v.s;{rw[I]at T;have M:Hi (t7 n=Ff):=h_ T;clear T;exact iY};rw[I,Zg]at T;by_cases K:n.v.k=4;{have M:Hi (t7 n=Ff):=h_ (by rw[T,Yl (λh=>h K)];rfl);clear T;rw[K]at b U;clear K;exact iY};rw[Yo K,Zg]at T;have B:=Yk.2 K;by_cases m:n.v.k=1;{rw[m]at b U B;have M:=h_ T;clear T;clear K m;go_wp2;go_ret;exact⟨L2 (by rw[M.u]),l⟩};have g:(n.v.k != 1)=Tt:=gK;have M:Hi (t7 n=Tt):=h_ (by rw[T,Yo (qlr I m)]);clear T;clear K m;exact iY};have Z:((n.nm.size:Int) != 0)=Tt:=gY;rw[Yl D]at a T;have M:Hi (t7 n=Ff):=h_ T;clear T;clear D;go_enter func174,ntmps174;exact iY};{have T:=PX h;rw[h]at U l|-;clear h;go_enter func174,ntmps174;go_wp2_with fail;refine cQ (LZ n.v _) λc F=>?_;have U:=mB U F;have l:=mT l F;clear F;obtain⟨z,b,d,e,f⟩:=M2 U;cases g:decide (n.v.k=0/\n.v.n=0/\n.v.s.size=0);{rw[g]at T;have M:=h_ T;exact iY};rw[g,Zg]at T;have M:=h_ T;go_wp2_with fail;refine cQ (YZ _ _ o) λm W=>?_;have W:=W.symm;subst W;cases H:N7 n.nm;all_goals rw[H]at M;exact iY};have T:=AS h i;by_cases q:n.op<2;{exact Uv};by_cases m:25<n.op;{exact Uv};rw[show decide (2<=n.op/\n.op<=25)=Tt by simp;omega,Zg]at T;go_enter func174,ntmps174;go_wp2_with fail;refine cQ (LZ n.v _) λc F=>?_;have U:=mB U F;have l:=mT l F;obtain⟨z,b,d,e,f⟩:=M2 U;cases g:decide (n.v.k=0/\n.v.n=0/\n.v.s.size=0);{rw[g]at T;have M:=h_ T;exact iY};rw[g,Zg]at T;have M:=h_ T;by_cases D:n.nm.size=0;{rw[Yo D]at a M;exact iY};rw[Yl D]at a M;exact iY
