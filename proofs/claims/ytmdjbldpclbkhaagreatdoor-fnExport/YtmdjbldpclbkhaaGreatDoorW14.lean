import Derived.Test.YtmdjbldpclbkhaaGreatDoorW12
set_option linter.all false
set_option maxRecDepth 100000
set_option maxHeartbeats 0
namespace Go.Proofs.YtmdjbldpclbkhaaGreatDoor
open Value renaming slice->Sl,string->St,bool->Bo
open Obj renaming cells->Cl
open Ending renaming returned->Rt
section
open Go Go.RowKit Go.Proofs.Tryz
def vxB (e:Nat->Nx)(m:Nat):Bool:=decide (1<=m/\m<=1000)&&((List.range m).all λk=>kas (e k))&&stB e m&&decide ((top e m).d<=64)&&decide ((top e m).t.size<=4000)
theorem qsq (e:Nat->Nx)(m:Nat):vxB e m=true ↔ vEx e m:=by grind[vxB,vEx,kcv,qs3]
def kcj {e:Nat->Nx}{m:Nat}(a:¬ vEx e m):vxB e m=false:=by grind[vxB,vEx,qsq]
def qaj {n:Nx}(a:kas n=true):n.v.s.size<=1000:=by unfold kas at a;split at a;{simp only[Yw,Yu]at a;have:=a.1.1.2;unfold kai at this;(repeat' split at this) <;> (try simp only[Yw,Yu]at this) <;> first | omega | exact(qak.1 this.2).1 | cases this};split at a;{simp only[Yw,Yu]at a;omega};simp only[Yw,Yu]at a;omega
def iT {p:Prop}(h:p:=by go_wp2;go_ret;exact⟨qkd j.symm,f⟩):p:=h
def iW {p:Prop}(h:p:=by go_wp2;go_ret;exact⟨rfl,bR _ _⟩):p:=h
def q1c (a:To)(m c:Nat)(e:Nat->Nx)(w:Tw)(M:m<=9223372036854775807)(B:kdO w a m e)(F:∀b,b<m->Fit (e b)):Gv 131 #[Sl a m c] w (Bo (vxB e m)):=by by_cases K:m<1;{rw[kcj λg=>by have:=g.1;omega];go_enter func131,ntmps131;exact iW};by_cases L:1000<m;{rw[kcj λg=>by have:=g.2.1;omega];go_enter func131,ntmps131;exact iW};obtain⟨y,q⟩:=oB B F;obtain⟨n,v⟩:=Nq (vxB e m);rw[v];have l:=h_ v;go_enter func131,ntmps131;go_wp2;go_loopw [3] (λf wr=>∃b:Nat,b<=m/\f=Yf b/\kcv e b/\Bw w wr) (λf _=>m - (intOf f).toNat);exact⟨0,nZ _,rfl,λb t=>absurd t (nL _),bR _ _⟩;obtain⟨b,t,rfl,C,h⟩:=hrel;obtain⟨f,o,i⟩:=oC h C (y.mono h);by_cases s:b<m;{have E:(b:Int)<m:=fP;obtain⟨A,G,rfl,-,D,c1,c2,c3,c4⟩:=i b s;go_wp2_with fail;refine cQ (q25 (e b) _ (q b s)) λJ h=>?_;replace f:=mT f h;cases r:kas (e b);{have j:Hi (n=false):=h_ (by rw[<- l.u];exact kcj λg=>by have:=g.2.2.1 b s;rw[r]at this;cases this);exact iT};have x:Hi (kcv e (b+1)):=h_ λk p=>(by by_cases z:k=b;{subst z;exact r};exact o k fP);refine rQ ?_;exact⟨b+1,fP,fX,x,f⟩};obtain rfl:b=m:=fP;go_wp2_with fail;refine cQ (q6w a b c e _ fP i) λJ h=>?_;replace f:=mT f h;replace i:=h_ (i.mono h);cases x:stB e b;{have j:Hi (n=false):=h_ (by rw[<- l.u];exact kcj λg=>by have:=(qs3 e b).2 ⟨g.2.2.2.1,g.2.2.2.2.1⟩;rw[x]at this;cases this);exact iT};obtain⟨I,G⟩:=(qs3 e b).1 x;obtain⟨r,A⟩:=oB I G;go_wp2_with fail;refine cQ (q6q a b c e fP b b _ (nR _) i fP (nR _) r) λO h=>?_;replace f:=mT f h;replace i:=h_ (i.mono h);by_cases D:64<(top e b).d;{have E:(64:Int)<(top e b).d:=fP;have j:Hi (n=false):=h_ (by rw[<- l.u];exact kcj λg=>by have:=g.2.2.2.2.2.1;omega);exact iT};have E:¬ (64:Int)<(top e b).d:=fP;have z:=h_ D;go_wp2_with fail;refine cQ (q1a a b c e _ fP i (λk p=>qaj (o k p))) λP h=>?_;replace f:=mT f h;replace i:=h_ (i.mono h);by_cases N:4000<ka7 e b;{have H:(4000:Int)<(ka7 e b:Int):=fP;have j:Hi (n=false):=h_ (by rw[<- l.u];exact kcj λg=>by have:=g.sum (λk p=>(q k p).2.2.2);omega);exact iT};have H:¬ (4000:Int)<(ka7 e b:Int):=fP;go_wp2_with fail;refine cQ (q6u a b c e fP b b (nR _) fP (nR _) _ ⟨i,r,o,q⟩) λk h=>?_;replace f:=mT f h;have j:Hi (n=decide ((top e b).t.size<=4000)):=h_ (by rw[<- l.u,Vh,qsq,Yu];exact⟨λg=>g.2.2.2.2.2.2,λg=>⟨fP,fP,o,r,A,by have:=z.u;omega,g⟩⟩);generalize (top e b).t=g at *;go_wp2;go_ret;exact⟨qkd (by rw[j.u,Vh];simp;omega),f⟩
end
section
open Go Go.Proofs.Tryz
def kck (x:Tb)(l:List Tb):Bool:=l.any λy=>decide (y=x)
theorem qj3 (x:Tb)(l:List Tb):kck x l=true ↔ x∈l:=by simp[kck]
theorem qpt {x:Tb}{l:List Tb}(a:¬ x∈l):kck x l=false:=by grind[kck]
structure Rl where
 nm:Tb
 lb:Int
structure Fl where
 nm:Tb
 ty:Int
 lb:Int
 bys:List Int
 is:List Nx
 wh:List Nx
 va:List Nx
 sy:Tb
 mu:List Nx
abbrev Jw(x0:Fl)(x1:To)(x2:Nat)(x3:To)(x4:Nat)(x5:To)(x6:Nat)(x7:To)(x8:Nat)(x9:To)(x10:Nat):Ta:=#[Yf 0,Yf 0,Yh,Bo false,Bo false,Bo false,St x0.nm,Yf x0.ty,Yf x0.lb,Sl x1 x0.bys.length x2,Sl x3 x0.is.length x4,Sl x5 x0.wh.length x6,Sl x7 x0.va.length x8,St x0.sy,Sl x9 x0.mu.length x10,Yf 0,Yf 0,Yh]
abbrev Ju(x0:Fl)(x1:To)(x2:Nat)(x3:To)(x4:Nat)(x5:To)(x6:Nat)(x7:To)(x8:Nat)(x9:To)(x10:Nat):Tl:=[St x0.nm,Yf x0.ty,Yf x0.lb,Sl x1 x0.bys.length x2,Sl x3 x0.is.length x4,Sl x5 x0.wh.length x6,Sl x7 x0.va.length x8,St x0.sy,Sl x9 x0.mu.length x10]
abbrev Jl(x0:Fl)(x1:To)(x2:Nat)(x3:To)(x4:Nat)(x5:To)(x6:Nat)(x7:To)(x8:Nat)(x9:To)(x10:Nat):Ta:=#[Yf 0,Yf 0,Yh,Bo false,Bo false,Bo false,St x0.nm,Yf x0.ty,Yf x0.lb,Sl x1 x0.bys.length x2,Sl x3 x0.is.length x4,Sl x5 x0.wh.length x6,Sl x7 x0.va.length x8,St x0.sy,Sl x9 x0.mu.length x10]
abbrev Jb(x0:Fl)(x1:To)(x2:Nat)(x3:To)(x4:Nat)(x5:To)(x6:Nat)(x7:To)(x8:Nat)(x9:To)(x10:Nat):Ta:=#[St x0.nm,Yf x0.ty,Yf x0.lb,Sl x1 x0.bys.length x2,Sl x3 x0.is.length x4,Sl x5 x0.wh.length x6,Sl x7 x0.va.length x8,St x0.sy,Sl x9 x0.mu.length x10]
structure Fm where
 L:List Tb
 P:List (Int × Int)
 R:List Rl
 F:List Fl
abbrev Jd(x0:To)(x1:Fm)(x2:Nat)(x3:To)(x4:Nat)(x5:To)(x6:Nat)(x7:To)(x8:Nat):Tl:=[Sl x0 x1.L.length x2,Sl x3 x1.P.length x4,Sl x5 x1.R.length x6,Sl x7 x1.F.length x8]
abbrev Ja(x0:To)(x1:Fm)(x2:Nat)(x3:To)(x4:Nat)(x5:To)(x6:Nat)(x7:To)(x8:Nat):Ta:=#[Sl x0 x1.L.length x2,Sl x3 x1.P.length x4,Sl x5 x1.R.length x6,Sl x7 x1.F.length x8]
def khN:Rl:=⟨⟨#[]⟩,0⟩
def noNx:Nx:=⟨0,⟨0,0,⟨#[]⟩⟩,⟨#[]⟩⟩
def nf (l:List Nx)(k:Nat):Nx:=l.getD k noNx
def kcg (l:List Nx)(k:Nat)(a:k<l.length):nf l k=l[k]:=by grind[nf]
def vxL (l:List Nx):Bool:=vxB (nf l) l.length
def txL (l:List Nx):Tb:=(top (nf l) l.length).t
def kad (l:List Nx):Bool:=decide (l.length=0)||vxL l
def kat (names:List Tb)(l:List Nx):Bool:=l.all λn=>!decide (n.op=1)||kck n.nm names
def kae (l:List Tb):Bool:=l.all kaJ&&decide l.Nodup
def inR (n:Nat)(x:Int):Bool:=decide (0<=x/\x<n)
def kbt (nr:Nat)(l:List Int):Bool:=l.all (inR nr)&&decide l.Nodup
def kan (nl nr:Nat)(f:Fl):Bool :=
 decide (1<=f.ty/\f.ty<=3)&&decide (-1<=f.lb/\f.lb<nl)&&kbt nr f.bys&&decide (f.is.length=0∨f.bys.length=0)&&kaL f.sy&&decide (f.va.length≠0∨f.sy.size=0)&&kad f.is&&kad f.wh&&kad f.va&&kad f.mu
def kah (names:List Tb)(f:Fl):Bool:=kat names f.is&&kat names f.wh&&kat names f.va&&kat names f.mu
def kaa (f:Fm):List Tb:=f.F.map (·.nm)
def kag (f:Fm):List Tb:=f.R.map (·.nm)
def sb (s:Tb):List UInt8:=s.data.toList
def kbk (ls:List Tb)(i:Int):Tb:=ls.getD i.toNat ⟨#[]⟩
def kdX (rs:List Rl)(i:Int):Rl:=rs.getD i.toNat khN
def kdY (x:Tb):List UInt8:=[108,97,98,101,108,32]++sb x++[59,10]
def kdK (ls:List Tb)(p:Int × Int):List UInt8:=[98,101,108,111,119,32]++sb (kbk ls p.1)++[32]++sb (kbk ls p.2)++[59,10]
def kdZ (ls:List Tb)(r:Rl):List UInt8:=[114,111,108,101,32]++sb r.nm++[32,97,116,32]++sb (kbk ls r.lb)++[59,10]
def ka5 (word:List UInt8)(l:List Nx):List UInt8:=if l.length=0 then [] else [32]++word++[32]++sb (txL l)
def wIs:List UInt8:=[105,115]
def kdv:List UInt8:=[119,104,101,110]
def kcw:List UInt8:=[118,97,108,105,100]
def kd0:List UInt8:=[109,117,115,116]
def kbf (t:Int):List UInt8:=if t=1 then [105,110,116] else if t=2 then [98,111,111,108] else [116,101,120,116]
def tBy (rs:List Rl)(i:Int):List UInt8:=[32,98,121,32]++sb (kdX rs i).nm
def kdc (f:Fl):List UInt8:=if f.va.length=0 then [] else [32,115,97,121,115,32,34]++sb f.sy++[34]
def kcd (fm:Fm)(f:Fl):List UInt8:=[102,105,101,108,100,32]++sb f.nm++[32]++kbf f.ty++[32,97,116,32]++(if f.lb<0 then [97,117,116,111] else sb (kbk fm.L f.lb))
def kes (fm:Fm)(f:Fl):List UInt8:=kcd fm f++f.bys.flatMap (tBy fm.R)++ka5 wIs f.is++ka5 kdv f.wh++ka5 kcw f.va++kdc f++ka5 kd0 f.mu++[59,10]
def cT (f:Fm):List UInt8:=f.L.flatMap kdY++f.P.flatMap (kdK f.L)++f.R.flatMap (kdZ f.L)++f.F.flatMap (kes f)
def vfA (f:Fm):Bool :=
 decide (f.L.length<=32/\f.P.length<=256/\f.R.length<=64/\f.F.length<=200)&&kae f.L&&kae (kag f)&&kae (kaa f)
  && (f.P.all λp=>inR f.L.length p.1&&inR f.L.length p.2)&&(f.R.all λr=>inR f.L.length r.lb)
  && (f.F.all λd=>kan f.L.length f.R.length d&&kah (kaa f) d)
def vfB (f:Fm):Bool:=vfA f&&decide ((cT f).length<=30000)
theorem q96 {s:Tb}(a:kaJ s=true):s.size<=16:=by grind[kaJ]
theorem qlv {l:List Nx}(a:vxL l=true):(txL l).size<=4000:=((qsq _ _).1 a).2.2.2.2.2.2
theorem kak (s:Tb):(sb s).length=s.size:=by simp[sb]
def qa6 {a:List Tb}{i:Int}(b:kae a=true):(kbk a i).size<=16:=by unfold kbk;rw[Yq];cases c:a[i.toNat]? with|none=>exact nZ _|some d=>simp only[kae,Yw,Zg]at b;exact q96 (b.1 d (Ow c))
def q7s {l:List Nx}{word:List UInt8}(a:kad l=true)(b:word.length<=5):(ka5 word l).length<=4010:=by grind[ka5,kad,qlv,kak]
def q6b {d:Type}(l:List d)(g:d->List UInt8)(c:Nat)(b:∀a,a∈l->(g a).length<=c):(l.flatMap g).length<=c*l.length:=by induction l with|nil=>simp|cons a k f=>have i:=b a Y7;have j:=f λh e=>b h (Zc _ e);simp only[Z3,Ym,Yy,Nat.mul_add,Nat.mul_one];omega
end
section
open Go Go.RowKit Go.Proofs.Tryz
def kbL (w:Tw)(a:To)(l:List Tb):Prop:=∀k (h:k<l.length),∃b o,a=some ⟨b,o,none⟩/\b<w.1.size/\w.cell? ⟨b,o+k,none⟩=some (St l[k])
def kbL.mono {w w':Tw}{a:To}{l:List Tb}(f:kbL w a l)(b:Bw w w'):kbL w' a l:=λi h=>by obtain⟨d,j,e,c,g⟩:=f i h;exact⟨d,j,e,Y5 c b.size,(b.cell c).trans g⟩
def Prs (w:Tw)(a:To)(l:List (Int × Int)):Prop:=∀k (h:k<l.length),∃b o,a=some ⟨b,o,none⟩/\b<w.1.size/\w.cell? ⟨b,o+k*2,none⟩=some (.int .i64 l[k].1)/\w.cell? ⟨b,o+k*2+1,none⟩=some (.int .i64 l[k].2)
def iU {p:Prop}(h:p:=by obtain⟨d,k,e,c,g,h⟩:=f j i;exact⟨d,k,e,Y5 c b.size,(b.cell c).trans g,(b.cell c).trans h⟩):p:=h
def Prs.mono {w w':Tw}{a:To}{l:List (Int × Int)}(f:Prs w a l)(b:Bw w w'):Prs w' a l:=λj i=>by exact iU
def Rls (w:Tw)(a:To)(l:List Rl):Prop:=∀k (h:k<l.length),∃b o,a=some ⟨b,o,none⟩/\b<w.1.size/\w.cell? ⟨b,o+k*2,none⟩=some (St l[k].nm)/\w.cell? ⟨b,o+k*2+1,none⟩=some (.int .i64 l[k].lb)
def Rls.mono {w w':Tw}{a:To}{l:List Rl}(f:Rls w a l)(b:Bw w w'):Rls w' a l:=λj i=>by exact iU
def kc6 (w:Tw)(a:To)(l:List Int):Prop:=kbJ w a l.length (λk=>l.getD k 0)
def kc6.mono {w w':Tw}{a:To}{l:List Int}(b:kc6 w a l)(c:Bw w w'):kc6 w' a l:=kbJ.mono b c
def kcP (w:Tw)(a:To)(l:List Nx):Prop:=kdO w a l.length (nf l)
def kcP.mono {w w':Tw}{a:To}{l:List Nx}(b:kcP w a l)(c:Bw w w'):kcP w' a l:=kdO.mono b c
structure FA where
 b:To
 bc:Nat
 i:To
 ic:Nat
 h:To
 hc:Nat
 v:To
 vc:Nat
 u:To
 uc:Nat
structure FSl (w:Tw)(f:Fl)(A:FA):Prop where
 b:kc6 w A.b f.bys
 i:kcP w A.i f.is
 h:kcP w A.h f.wh
 v:kcP w A.v f.va
 u:kcP w A.u f.mu
def FSl.mono {w w':Tw}{f:Fl}{d:FA}(a:FSl w f d)(c:Bw w w'):FSl w' f d:=⟨a.b.mono c,a.i.mono c,a.h.mono c,a.v.mono c,a.u.mono c⟩
def fCs (f:Fl)(A:FA):Tl:=[St f.nm,.int .i64 f.ty,.int .i64 f.lb,Sl A.b f.bys.length A.bc,Sl A.i f.is.length A.ic,Sl A.h f.wh.length A.hc,Sl A.v f.va.length A.vc,St f.sy,Sl A.u f.mu.length A.uc]
def fV (f:Fl)(A:FA):Value:=.agg #[St f.nm,.int .i64 f.ty,.int .i64 f.lb,Sl A.b f.bys.length A.bc,Sl A.i f.is.length A.ic,Sl A.h f.wh.length A.hc,Sl A.v f.va.length A.vc,St f.sy,Sl A.u f.mu.length A.uc]
def kdw (w:Tw)(b o:Nat)(f:Fl)(A:FA):Prop:=b<w.1.size/\w.cell? ⟨b,o,none⟩=some (St f.nm)/\w.cell? ⟨b,o+1,none⟩=some (.int .i64 f.ty)/\w.cell? ⟨b,o+2,none⟩=some (.int .i64 f.lb)/\w.cell? ⟨b,o+3,none⟩=some (Sl A.b f.bys.length A.bc)/\w.cell? ⟨b,o+4,none⟩=some (Sl A.i f.is.length A.ic)/\w.cell? ⟨b,o+5,none⟩=some (Sl A.h f.wh.length A.hc)/\w.cell? ⟨b,o+6,none⟩=some (Sl A.v f.va.length A.vc)/\w.cell? ⟨b,o+7,none⟩=some (St f.sy)/\w.cell? ⟨b,o+8,none⟩=some (Sl A.u f.mu.length A.uc)
def kdw.mono {w w':Tw}{b o:Nat}{f:Fl}{d:FA}(a:kdw w b o f d)(c:Bw w w'):kdw w' b o f d :=
 ⟨Y5 a.1 c.size,(c.cell a.1).trans a.2.1,(c.cell a.1).trans a.2.2.1,(c.cell a.1).trans a.2.2.2.1,(c.cell a.1).trans a.2.2.2.2.1,(c.cell a.1).trans a.2.2.2.2.2.1,(c.cell a.1).trans a.2.2.2.2.2.2.1,(c.cell a.1).trans a.2.2.2.2.2.2.2.1,(c.cell a.1).trans a.2.2.2.2.2.2.2.2.1,(c.cell a.1).trans a.2.2.2.2.2.2.2.2.2⟩
def kbP {w:Tw}{b:Nat}{t:TypeId}{v u c d e f g h i:Value}(a:Blk w b t [v,u,c,d,e,f,g,h,i]) :
 w.cell? ⟨b,0,none⟩=some v/\w.cell? ⟨b,1,none⟩=some u/\w.cell? ⟨b,2,none⟩=some c/\w.cell? ⟨b,3,none⟩=some d/\w.cell? ⟨b,4,none⟩=some e/\w.cell? ⟨b,5,none⟩=some f/\w.cell? ⟨b,6,none⟩=some g/\w.cell? ⟨b,7,none⟩=some h/\w.cell? ⟨b,8,none⟩=some i:=⟨a.cell 0,a.cell 1,a.cell 2,a.cell 3,a.cell 4,a.cell 5,a.cell 6,a.cell 7,a.cell 8⟩
def kfh (w:Tw)(a:To)(l:List Fl)(A:Nat->FA):Prop:=∀k (h:k<l.length),∃b o,a=some ⟨b,o,none⟩/\kdw w b (o+k*9) l[k] (A k)/\FSl w l[k] (A k)
def kfh.mono {w w':Tw}{a:To}{l:List Fl}{b:Nat->FA}(f:kfh w a l b)(c:Bw w w'):kfh w' a l b:=λj h=>by obtain⟨d,k,e,g,i⟩:=f j h;exact⟨d,k,e,g.mono c,i.mono c⟩
structure MA where
 l:To
 lc:Nat
 p:To
 pc:Nat
 r:To
 rc:Nat
 f:To
 fc:Nat
 fa:Nat->FA
def mV (m:Fm)(A:MA):Value:=.agg #[Sl A.l m.L.length A.lc,Sl A.p m.P.length A.pc,Sl A.r m.R.length A.rc,Sl A.f m.F.length A.fc]
structure MSl (w:Tw)(m:Fm)(A:MA):Prop where
 l:kbL w A.l m.L
 p:Prs w A.p m.P
 r:Rls w A.r m.R
 f:kfh w A.f m.F A.fa
def MSl.mono {w w':Tw}{m:Fm}{c:MA}(a:MSl w m c)(b:Bw w w'):MSl w' m c:=⟨a.l.mono b,a.p.mono b,a.r.mono b,a.f.mono b⟩
def kac {w:Tw}{b:Nat}{t:TypeId}{v u c d:Value}(a:Blk w b t [v,u,c,d]) :
 w.cell? ⟨b,0,none⟩=some v/\w.cell? ⟨b,1,none⟩=some u/\w.cell? ⟨b,2,none⟩=some c/\w.cell? ⟨b,3,none⟩=some d:=⟨a.cell 0,a.cell 1,a.cell 2,a.cell 3⟩
structure keJ (f:Fl):Prop where
 nm:f.nm.size<=9223372036854775807
 sy:f.sy.size<=9223372036854775807
 bl:f.bys.length<=9223372036854775807
 il:f.is.length<=9223372036854775807
 hl:f.wh.length<=9223372036854775807
 vl:f.va.length<=9223372036854775807
 ul:f.mu.length<=9223372036854775807
 i:∀k,k<f.is.length->Fit (nf f.is k)
 h:∀k,k<f.wh.length->Fit (nf f.wh k)
 v:∀k,k<f.va.length->Fit (nf f.va k)
 u:∀k,k<f.mu.length->Fit (nf f.mu k)
structure kaY (m:Fm):Prop where
 ll:m.L.length<=9223372036854775807
 pl:m.P.length<=9223372036854775807
 rl:m.R.length<=9223372036854775807
 fl:m.F.length<=9223372036854775807
 l:∀x,x∈m.L->x.size<=9223372036854775807
 r:∀x,x∈m.R->x.nm.size<=9223372036854775807
 f:∀x,x∈m.F->keJ x
def eqS (a b:Tb):(a.toList==b.toList)=decide (a=b):=by rw[Vh,Yu];refine⟨λc=>?_,λc=>by rw[c];simp⟩;have d:=q80 c;rw[d,Y8]
def q9w (a:To)(c:Nat)(l:List Tb)(s:Tb)(w:Tw)(x:l.length<=9223372036854775807)(o:kbL w a l):Calls prog 132 #[Sl a l.length c,St s] w λd e=>∃b:Int,d=Rt (Yf b)/\(b<0 ↔ ¬ s∈l)/\e=w:=by have k:=h_ o;go_enter func132,ntmps132;go_wp2;go_loopw [5] (λf wr=>∃b:Nat,b<=l.length/\f=Yf b/\(∀d (e:d<l.length),d<b->l[d]≠s)/\wr=w) (λf _=>l.length - (intOf f).toNat);exact⟨0,nZ _,rfl,λd _ f=>absurd f (nL _),rfl⟩;obtain⟨b,v,rfl,p,rfl⟩:=hrel;have h:=h_ p;by_cases j:b<l.length;{have q:(b:Int)<l.length:=fP;obtain⟨t,y,rfl,-,u⟩:=k b j;have i:=eqS l[b] s;by_cases g:l[b]=s;{have m:Hi (((b:Int)<0) ↔ ¬ s∈l):=h_ ⟨λe=>fP,λe=>absurd (g ▸ Yr j) e⟩;rw[Ys g]at i;generalize l[b]=r at *;go_wp2;go_ret;exact⟨_,rfl,m,rfl⟩};have m:Hi (∀d (e:d<l.length),d<b+1->l[d]≠s):=h_ λd e f=>(by by_cases n:d=b;{subst n;exact g};exact h d e fP);rw[Yo g]at i;generalize l[b]=r at *;refine rQ ?_;exact⟨b+1,fP,fX,m,by first | rfl | trivial⟩};have q:¬ (b:Int)<l.length:=fP;go_wp2;go_ret;exact⟨_,rfl,⟨λ_ e=>by obtain⟨d,f,g⟩:=Zj.1 e;exact h d f fP g,λ_=>fP⟩,rfl⟩
def qil {a:List Tb}{l:List Nx}{k:Nat}(b:k<l.length)(c:l[k].op=1)(d:¬ l[k].nm∈a):kat a l=false:=by grind[kat,qpt]
def qdv {d:List Tb}{l:List Nx}(e:∀a (c:a<l.length),l[a].op=1->l[a].nm∈d):kat d l=true:=by unfold kat;rw[Zg];intro g f;obtain⟨a,c,rfl⟩:=Zj.1 f;by_cases b:l[a].op=1;{simp[b,(qj3 _ _).2 (e a c b)]};simp[b]
def q6s (a b:To)(c s:Nat)(l:List Nx)(f:List Tb)(w:Tw)(L:l.length<=9223372036854775807)(H:f.length<=9223372036854775807)(D:kcP w a l)(F:kbL w b f):Calls prog 91 #[Sl a l.length c,Sl b f.length s] w λy d=>y=Rt (Bo (kat f l))/\d=w:=by obtain⟨A,B⟩:=oB D F;obtain⟨x,u⟩:=Nq (kat f l);rw[u];have q:=h_ u;go_enter func91,ntmps91;go_wp2;go_loopw [5] (λg wr=>∃d:Nat,d<=l.length/\g=Yf d/\(∀e (h:e<l.length),e<d->l[e].op=1->l[e].nm∈f)/\wr=w) (λg _=>l.length - (intOf g).toNat);exact⟨0,nZ _,rfl,λe _ j=>absurd j (nL _),rfl⟩;obtain⟨d,K,rfl,E,rfl⟩:=hrel;have p:=h_ E;by_cases n:d<l.length;{have G:(d:Int)<l.length:=fP;obtain⟨J,M,rfl,-,t,c1,c2,c3,c4⟩:=A d n;rw[kcg l d n]at t c1 c2 c3 c4;have r:Hi ((l[d].op=1->l[d].nm∈f)->∀e (h:e<l.length),e<d+1->l[e].op=1->l[e].nm∈f):=h_ λi e h j=>(by by_cases g:e=d;{subst g;exact i};exact p e h fP);have C:Hi (l[d].op=1->¬ l[d].nm∈f->x=false):=h_ λi g=>(by rw[<- q.u];exact qil n i g);generalize l[d]=m at *;by_cases i:m.op=1;{rw[i]at t;go_wp2_with fail;refine(q9w b s f m.nm _ H B).mono ?_;rintro y N ⟨z,rfl,v,o⟩;replace o:=o.symm;subst o;by_cases k:m.nm∈f;{have I:¬ z<0:=λh=>(v.1 h) k;have g:=h_ (r λ_=>k);refine rQ ?_;exact⟨d+1,fP,fX,g,by first | rfl | trivial⟩};have I:z<0:=v.2 k;have g:=h_ (C i k);go_wp2;go_ret;exact⟨qkd g.symm,rfl⟩};have k:(m.op==1)=false:=Yl.2 i;have g:=h_ (r λh=>absurd h i);refine rQ ?_;exact⟨d+1,fP,fX,g,by first | rfl | trivial⟩};have G:¬ (d:Int)<l.length:=fP;have g:Hi (x=true):=h_ (by rw[<- q.u];exact qdv λe j=>p e j fP);go_wp2;go_ret;exact⟨qkd g.symm,rfl⟩
def q4s (a:To)(c:Nat)(l:List Nx)(w:Tw)(k:l.length<=9223372036854775807)(h:kcP w a l)(j:∀b,b<l.length->Fit (nf l b)):Gv 90 #[Sl a l.length c] w (Bo (kad l)):=by have d:kad l=(decide (l.length=0)||vxB (nf l) l.length):=rfl;have f:=h_ (q1c a l.length c (nf l) w k h j);by_cases b:l.length=0;{have g:((l.length:Int)==0)=true:=(by simp[b]);rw[show kad l=true by rw[d,Ys b];rfl];go_enter func90,ntmps90;exact iW};have g:((l.length:Int)==0)=false:=Yl.2 fP;rw[show kad l=vxB (nf l) l.length by rw[d,Yo b];rfl];generalize vxB (nf l) l.length=m at *;go_enter func90,ntmps90;go_wp2_with fail;refine cQ f λn i=>?_;have e:=h_ i;cases m;all_goals go_wp2;go_ret;exact⟨rfl,e⟩
def q7d {l:List Tb}{k:Nat}(a:k<l.length)(b:kaJ l[k]=false):kae l=false:=by grind[kae,kaJ]
def q3b {l:List Tb}{k j:Nat}(a:k<l.length)(c:j<k)(b:l[k]=l[j]):kae l=false:=by unfold kae;rw[Yo (λd=>?_),Ge];have:=Vi.1 d j k fP a c;exact this b.symm
def q7e {l:List Tb}(d:∀a (b:a<l.length),kaJ l[a]=true)(e:∀a (b:a<l.length) b (c:b<a),l[a]≠l[b]):kae l=true:=by unfold kae;rw[Yw,Zg,Yu];refine⟨λj h=>?_,Vi.2 λi b f c g f=>e b c i g f.symm⟩;obtain⟨a,b,rfl⟩:=Zj.1 h;exact d a b
def q22 (a:To)(c:Nat)(l:List Tb)(w:Tw)(hl:l.length<=9223372036854775807)(Y:∀y,y∈l->y.size<=9223372036854775807)(S:kbL w a l):Gv 46 #[Sl a l.length c] w (Bo (kae l)):=by obtain⟨z,N⟩:=oB S Y;obtain⟨x,G⟩:=Nq (kae l);rw[G];have q:=h_ G;go_enter func46,ntmps46;go_wp2;go_loopw [3,4] (λd _ wr=>∃e:Nat,e<=l.length/\d=Yf e/\(∀b (f:b<l.length),b<e->kaJ l[b]=true/\∀d (j:d<b),l[b]≠l[d])/\Bw w wr) (λd _ _=>l.length - (intOf d).toNat);exact⟨0,nZ _,rfl,λb _ g=>absurd g (nL _),bR _ _⟩;obtain⟨e,hk,rfl,T,E⟩:=hrel;obtain⟨o,n,P⟩:=oC T E (z.mono E);by_cases k:e<l.length;{have X:(e:Int)<l.length:=fP;obtain⟨aa,ac,rfl,-,r⟩:=P e k;have Z:=N _ (Yr k);have K:=h_ (q7d k);have O:Hi (∀b (g:b<e),l[e]=l[b]->kae l=false):=h_ λb g h=>q3b k g h;go_wp2_with fail;refine cQ (q24 _ _ Z) λw2 v=>?_;replace v:=v.symm;subst v;cases F:kaJ l[e];{have i:Hi (x=false):=h_ (by rw[<- q.u];exact K F);go_wp2;go_ret;exact⟨qkd i.symm,n⟩};have L:=h_ F;go_wp2;go_loopw [4] (λm p=>∃b:Nat,b<=e/\m=Yf b/\(∀d (j:d<e),d<b->l[e]≠l[d])/\Bw w p) (λm _=>e - (intOf m).toNat);exact⟨0,nZ _,rfl,λd _ g=>absurd g (nL _),n⟩;obtain⟨b,g,rfl,U,t⟩:=hrel;obtain⟨B,J,A,C⟩:=oD U t (t.drew) (z.mono t);by_cases V:b<e;{have W:(b:Int)<e:=fP;have ab:(b:Int)<l.length:=fP;obtain⟨b2,o2,Q,-,D⟩:=C b fP;cases Q;obtain⟨b3,o3,R,-,r⟩:=C e k;cases R;have h:=eqS l[e] l[b];have i:Hi (l[e]=l[b]->x=false):=h_ λf=>(by rw[<- q.u];exact O b V f);have p:Hi (l[e]≠l[b]->∀d (j:d<e),d<b+1->l[e]≠l[d]):=h_ λf d j m=>(by by_cases s:d=b;{subst s;exact f};exact B d j fP);obtain⟨y,H⟩:=Nq (l[e]);obtain⟨ad,I⟩:=Nq (l[b]);by_cases m:l[e]=l[b];{rw[Ys m]at h;have M:=h_ (i m);rw[H]at r h;rw[I]at D h;go_wp2_with fail;go_region;go_wp2;go_ret;exact⟨qkd M.symm,A⟩};rw[Yo m]at h;have M:=h_ (p m);rw[H]at r h;rw[I]at D h;go_wp2_with fail;go_region;refine rQ ?_;exact⟨b+1,fP,fX,M,A⟩};obtain rfl:b=e:=fP;have W:¬ (b:Int)<(b:Int):=fP;have p:Hi (∀d (f:d<l.length),d<b+1->kaJ l[d]=true/\∀h (m:h<d),l[d]≠l[h]):=h_ λd f j=>(by by_cases s:d=b;{subst s;exact⟨L,λh m=>B h m m⟩};exact o d f fP);refine rQ ?_;exact⟨b+1,fP,fX,p,J⟩};have X:¬ (e:Int)<l.length:=fP;have i:Hi (x=true):=h_ (by rw[<- q.u];exact q7e (λd f=>(o d f fP).1) (λd f b g=>(o d f fP).2 b g));go_wp2;go_ret;exact⟨qkd i.symm,n⟩
