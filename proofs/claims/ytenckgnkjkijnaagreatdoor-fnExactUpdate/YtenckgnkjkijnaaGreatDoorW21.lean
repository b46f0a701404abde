import Derived.Test.YtenckgnkjkijnaaGreatDoorW18
import Derived.Test.YtenckgnkjkijnaaGreatDoorW17
set_option linter.all false
set_option maxRecDepth 100000
set_option maxHeartbeats 0
namespace Go.Proofs.YtenckgnkjkijnaaGreatDoor
open Go Go.RowKit Go.Proofs.Tryz
variable {W:Tw}{n:Nat}{v:Value}{x:Tl}{s:Tb}
def Fst (p:Nat->Prop)(n:Nat)(z:Int):Prop:=(z = -1/\∀k,k<n->¬ p k)∨∃k:Nat,k<n/\z=k/\p k/\∀j,j<k->¬ p j
def Fst.one {p:Nat->Prop}{z a:Int}(b:Fst p n z)(c:Fst p n a):z=a:=by grind[Fst]
def Fst.iff {p b:Nat->Prop}{z:Int}(c:Fst p n z)(d:∀a,a<n->(p a ↔ b a)):Fst b n z:=by grind[Fst]
def Fst.bounds {p:Nat->Prop}{z:Int}(a:Fst p n z):-1<=z/\z<n:=by grind[Fst]
def Fst.ex (p:Nat->Prop):∀a,∃e,Fst p a e | 0=>⟨-1,.inl ⟨rfl,λ_ c=>absurd c (nL _)⟩⟩ | a+1=>by have⟨e,j⟩:=Fst.ex p a;rcases j with ⟨b,c⟩ | ⟨d,i,b,g,h⟩;{by_cases f:p a;{exact⟨a,.inr ⟨a,cr,rfl,f,c⟩⟩};exact⟨-1,.inl ⟨rfl,λd i=>by by_cases b:d=a;{subst b;exact f};exact c d cr⟩⟩};exact⟨e,.inr ⟨d,cr,b,g,h⟩⟩
def keZ (name:String)(w:Tw):Prop:=∃tp p,w.var? prog name=some #[.iface tp p]
theorem qnw {w w':Tw}{P:Program}{b:String}{cs:Ta}(a:w.var? P b=some cs)(f:Bw w w'):w'.var? P b=some cs:=by unfold World.var? at a⊢;cases d:P.globalNamed b with|none=>rw[d]at a;cases a|some c=>rw[d]at a;simp only[Option.bind_some]at a⊢;have g:c<w.1.size:=(by apply Od;intro e;rw[Og e]at a;cases a);rw[f.block c g];exact a
def keZ.mono {a:String}{w w':Tw}(b:keZ a w)(c:Bw w w'):keZ a w':=by grind[keZ,qnw]
def fH {p:Prop}(h:p:=by rintro l k ⟨j,rfl,-,-,d⟩;have c:=h_ d;clear d b;go_wp2;exact bQ ⟨rfl,c⟩):p:=h
def fI {p:Prop}(h:p:=by have a:=i.u;rw[rd,kbr,b]at a;simp only[Vw]at a;exact⟨a.1.symm,a.2.symm⟩):p:=h
def q1v (s:Tb)(w:Tw)(A:s.size<=1048576)(t:Pow w)(o:keZ "strconv.ErrSyntax" w)(p:keZ "strconv.ErrRange" w)(x:Int)(ok:Bool)(v:rd s.data.toList=(x,ok)):Gv 315 #[.string s] w (.tuple #[Yb x,.bool ok]):=by have⟨m,i⟩:=oB t v;cases b:Lib.parseIntB 64 s.data.toList with|ok n=>have z:=Lib.parseIntB_bounds b;have r:I64 n:=(by have:(2:Nat) ^ (64 - 1)=9223372036854775808:=rfl;unfold I64;omega);have l:=h_ r;go_enter func315,ntmps315;go_wp2_with fail;refine cQ (Tryz.strconv_ParseInt_10_at64_ok s cr n b w) λk y=>?_;have d:Bw w k:=(by rcases y with rfl | ⟨a,rfl⟩;{exact bR _ _};exact Lib.bytesWorld_below _ _ _);have c:=h_ d;go_wp2_with fail;refine cQ (q7m n _ l.1 l.2 (m.mono c)) λB q=>?_;replace c:=mT c q;by_cases f:Lib.itoa n=s.data.toList;{have e:x=n/\ok=true:=(by have a:=i.u;rw[rd,kbr,b]at a;simp only[Yy f,Vw]at a;exact⟨a.1.symm,a.2.symm⟩);obtain⟨rfl,rfl⟩:=e;have j:((⟨(Lib.itoa x).toArray⟩:Tb).toList==s.toList)=true:=(by rw[Zc,Zc,<- f];simp);obtain⟨g,h⟩:∃g:Tb,g=⟨(Lib.itoa x).toArray⟩:=⟨_,rfl⟩;rw[<- h]at j⊢;clear h f b;go_wp2;exact bQ ⟨rfl,c⟩};have e:x=0/\ok=false:=(by have a:=i.u;rw[rd,kbr,b]at a;simp only[Yu f,Vw]at a;exact⟨a.1.symm,a.2.symm⟩);obtain⟨rfl,rfl⟩:=e;have j:((⟨(Lib.itoa n).toArray⟩:Tb).toList==s.toList)=false:=(by rw[Zc,Zc,Yh];simpa using f);obtain⟨g,h⟩:∃g:Tb,g=⟨(Lib.itoa n).toArray⟩:=⟨_,rfl⟩;rw[<- h]at j⊢;clear h f b;go_wp2;exact bQ ⟨rfl,c⟩|«syntax»=>have⟨h,g,f⟩:=o;have e:x=0/\ok=false:=(by exact fI);obtain⟨rfl,rfl⟩:=e;go_enter func315,ntmps315;go_wp2_with fail;refine(Tryz.strconv_ParseInt_10_at64_syntax_var s cr b h g w f).mono ?_;exact fH|range=>have⟨h,g,f⟩:=p;have e:x=0/\ok=false:=(by exact fI);obtain⟨rfl,rfl⟩:=e;go_enter func315,ntmps315;go_wp2_with fail;refine(Tryz.strconv_ParseInt_10_at64_range_var s cr b h g w f).mono ?_;exact fH
def opS {F:FuncId}{args:Ta}{w:Tw}{R:Vx}(c:∀b a,Hi (R=b)->w.alloc (.cells Jf 55)=a->Hi (RW w a)->Gv F args w (.agg (Jc b.k b.n b.s))):Gv F args w (vv R):=by have⟨a,d,b⟩:=RW.start w;exact c R a (h_ rfl) d (h_ b)
def ab {w:Tw}{b o:Nat}{p c:Vx}(d:Cel w b o p)(e:Cel w b (o+3) c):∀a,Bw w a->(a.cell? ⟨b,o,none⟩=some (Yb p.k)/\a.cell? ⟨b,o+1,none⟩=some (Yb p.n)/\a.cell? ⟨b,o+2,none⟩=some (.string p.s))/\a.cell? ⟨b,o+3,none⟩=some (Yb c.k)/\a.cell? ⟨b,o+3+1,none⟩=some (Yb c.n)/\a.cell? ⟨b,o+3+2,none⟩=some (.string c.s) :=
 λ_ a=>⟨(d.mono a).2,(e.mono a).2⟩
def RW.drew {w:Tw}(a:RW w W):RW w W.drew:=a.mono (bR _ _).drew
def keR {id:Nat}{b:Array Oper}{Q:Exit->Act->Tw->Prop}{a:Act}{w:Tw}(d:RW w W)(c:Bw w W.drew->wpAnyH prog .any b Q (λe=>Bw w e) b.size (Gq b.size false) a W.drew)(e:prog.follows .mixedOrders=true:=by kernel_rfl):(Code.region id b true).wp prog Q a W :=
 wp_region_held_drew e d.B.drew c
def khR {f:Region.Mode}{b:Array Oper}{Q:Exit->Act->Tw->Prop}{l:Tl}{lb g:List Bool}{fuel:Nat}{w:Tw}{o:Oper}{F:FuncId}{args:Ta}(i:Nat)(d:Tmp)(m:RW w W)(p:Gv F args W v) (k:∀e,RW w e->wpAnyH prog f b Q (λc=>Bw w c) fuel g.toArray { tmps:=x.toArray,defers:=[] } e) (hi:b[i]? = some o:=by exact rfl) (q:o.dst=some d:=by exact rfl) (t:Region.wanted o (yielded b l.toArray)=true:=by rfl) (s:Region.ready f b lb.toArray=[i]:=by kernel_rfl) (hrun:(execOp (Act.eval { tmps:=l.toArray,defers:=[] }) o).run prog W=.ok (.enter F args) W:=by simp[execOp,go_sem]) (r:l.set d v=x:=by(first | simp only[Yf,Yg] | skip);rfl) (e:lb.set i true=g:=by(first | simp only[Yf,Yg] | skip);rfl):wpAnyH prog f b Q (λc=>Bw w c) (fuel+1) lb.toArray { tmps:=l.toArray,defers:=[] } W:=by refine kat (a:={ tmps:=l.toArray,defers:=[] }) (R:=λh j=>h=v/\Bw W j) d hi q t s hrun (p.mono λn c ⟨j,e⟩=>⟨_,j,rfl,e⟩) ?_;rintro h j ⟨rfl,n⟩;have c:=m.mono n;refine⟨c.B,?_⟩;have:=k j c;rw[<- r,<- e,<- Y3,<- Y3]at this;exact this
def keS {b:Bool}(z:Vx)(a:kaj b=z):Gvs 105 #[.bool b] z:=by subst a;exact q39 b
def kiL {n:Int}(z:Vx)(a:kbz n=z):Gvs 310 #[Yb n] z:=by grind[kbz,Gvs,q5j]
def kiM {n:Int}(z:Vx)(a:kay n=z):Gvs 211 #[Yb n] z:=by subst a;exact q5e n
def kiB (z:Vx)(a:kbT s=z):Gvs 303 #[.string s] z:=by subst a;exact q4n s
def kdr {m:Nat}(a:2<=m):(0:Int)<m/\(1:Int)<m/\0<m/\1<m:=by omega
def fJ {p:Prop}(h:p:=by all_goals exact bQ ⟨rfl,h⟩):p:=h
def q30 (b o m c:Nat)(p d:Vx)(w:Tw)(q:2<=m)(k:Cel w b o p)(l:Cel w b (o+3) d):Gv 275 #[.slice (some ⟨b,o,none⟩) m c] w (vv (kbz (if p.n<d.n then p.n else d.n))):=by refine opS λr s j v e=>?_;have⟨x,y,z,A⟩:=kdr q;have i:=h_ (ab k l);go_enter func275,ntmps275;go_wp2_with fail;refine keR e.u λa=>?_;have hC:=i.u;refine tkA 0 a ?_;refine tkA 1 a ?_;refine tkA 2 a ?_;refine tkA 3 a ?_;refine tkA 4 a ?_;refine tkA 5 a ?_;refine tkA 6 a ?_;refine tkA 7 a ?_;refine tkA 8 a ?_;refine keV 9 10 12 e.u.drew (kiL (n:=min p.n d.n) r (by rw[<- j.u];congr 1;split <;> omega)) ?_;intro t f g;have⟨B,C,D⟩:=kag f;have h:=h_ g;clear hC f g a;go_wp2;exact fJ
def q40 (b o m c:Nat)(p d:Vx)(w:Tw)(q:2<=m)(k:Cel w b o p)(l:Cel w b (o+3) d):Gv 276 #[.slice (some ⟨b,o,none⟩) m c] w (vv (kbz (if p.n<d.n then d.n else p.n))):=by refine opS λr s j v e=>?_;have⟨x,y,z,A⟩:=kdr q;have i:=h_ (ab k l);go_enter func276,ntmps276;go_wp2_with fail;refine keR e.u λa=>?_;have hC:=i.u;refine tkA 0 a ?_;refine tkA 1 a ?_;refine tkA 2 a ?_;refine tkA 3 a ?_;refine tkA 4 a ?_;refine tkA 5 a ?_;refine tkA 6 a ?_;refine tkA 7 a ?_;refine tkA 8 a ?_;refine keV 9 10 12 e.u.drew (kiL (n:=max p.n d.n) r (by rw[<- j.u];congr 1;split <;> omega)) ?_;intro t f g;have⟨B,C,D⟩:=kag f;have h:=h_ g;clear hC f g a;go_wp2;exact fJ
def q4v (b o m c:Nat)(p d:Vx)(w:Tw)(n:2<=m)(k:Cel w b o p)(l:Cel w b (o+3) d):Gv 265 #[.slice (some ⟨b,o,none⟩) m c] w (vv (kaj (eqX p d))):=by refine opS λq r j t e=>?_;have⟨x,y,z,A⟩:=kdr n;have i:=h_ (ab k l);go_enter func265,ntmps265;go_wp2_with fail;refine keR e.u λa=>?_;have hC:=i.u;refine tkA 0 a ?_;refine tkA 1 a ?_;refine tkA 2 a ?_;refine tkA 3 a ?_;refine tkA 4 a ?_;refine tkA 5 a ?_;refine tkA (v:=.bool (eqX p d)) 6 a ?_ (hy:=λw f=>by simp[execOp,go_sem];unfold eqX;(repeat' split) <;> simp_all);refine keV 7 8 10 e.u.drew (keS q j.u) ?_;intro s f g;have⟨B,C,D⟩:=kag f;have h:=h_ g;clear hC f g a;go_wp2;exact fJ
def q0s (b o m c:Nat)(p d:Vx)(w:Tw)(n:2<=m)(k:Cel w b o p)(l:Cel w b (o+3) d):Gv 266 #[.slice (some ⟨b,o,none⟩) m c] w (vv (kaj (!eqX p d))):=by refine opS λq r j t e=>?_;have⟨x,y,z,A⟩:=kdr n;have i:=h_ (ab k l);go_enter func266,ntmps266;go_wp2_with fail;refine keR e.u λa=>?_;have hC:=i.u;refine tkA 0 a ?_;refine tkA 1 a ?_;refine tkA 2 a ?_;refine tkA 3 a ?_;refine tkA 4 a ?_;refine tkA 5 a ?_;refine tkA (v:=.bool (!eqX p d)) 6 a ?_ (hy:=λw f=>by simp[execOp,go_sem];unfold eqX;(repeat' split) <;> simp_all);refine keV 7 8 10 e.u.drew (keS q j.u) ?_;intro s f g;have⟨B,C,D⟩:=kag f;have h:=h_ g;clear hC f g a;go_wp2;exact fJ
def kdI (p q:Vx):Int:=if p.k=3 then Lib.compareBytes p.s.data.toList q.s.data.toList else Lib.compareInt p.n q.n
def qgb (x:Int)(w:Tw):Calls prog 339 #[Yb x] w λa b=>a=.returned (.bool false)/\b=w:=by go_enter func339,ntmps339;go_wp2;go_ret;exact⟨cw,rfl⟩
def q7l (x y:Int)(w:Tw):Calls prog 328 (Jw x y) w λb a=>b=.returned (Yb (Lib.compareInt x y))/\a=w:=by go_enter func328,ntmps328;go_wp2_with (go_at_call 339;refine cQ (qgb _ _) λa b=>?_;rw[b]);all_goals (go_ret;refine⟨?_,rfl⟩;unfold Lib.compareInt;(repeat' split) <;> first | rfl | (exfalso;omega))
def q0f (p a:Vx)(w:Tw):Gv 312 #[.agg (Jc p.k p.n p.s),.agg (Jc a.k a.n a.s)] w (Yb (kdI p a)):=by have f:∀b c,Hi (Bw w ((w.alloc b).alloc c)):=λb c=>h_ (((bR _ w).alloc (nR _) b).alloc cw c);by_cases c:p.k=3;{have b:Hi (kdI p a=Lib.compareBytes p.s.data.toList a.s.data.toList):=h_ (by rw[kdI,Yy c]);have g:(p.k==3)=true:=beq_iff_eq.2 c;go_enter func312,ntmps312;go_wp2_with fail;refine cQ (Tryz.strings_Compare p.s a.s _) λh d=>?_;rw[d];have⟨i,e⟩:=Nq (Lib.compareBytes p.s.data.toList a.s.data.toList);rw[e]at b⊢;go_wp2;go_ret;exact⟨by rw[b.u];rfl,u_ (f _ _)⟩};have b:Hi (kdI p a=Lib.compareInt p.n a.n):=h_ (by rw[kdI,Yu c]);have g:(p.k==3)=false:=Yh.2 c;go_enter func312,ntmps312;go_wp2_with fail;refine cQ (q7l p.n a.n _) λh d=>?_;rw[d];have⟨i,e⟩:=Nq (Lib.compareInt p.n a.n);rw[e]at b⊢;go_wp2;go_ret;exact⟨by rw[b.u];rfl,u_ (f _ _)⟩
def qbm (b o m c:Nat)(p d:Vx)(w:Tw)(q:2<=m)(l:Cel w b o p)(n:Cel w b (o+3) d):Gv 268 #[.slice (some ⟨b,o,none⟩) m c] w (vv (kaj (decide (kdI p d<0)))):=by refine opS λr s k x e=>?_;have⟨y,z,A,C⟩:=kdr q;have j:=h_ (ab l n);go_enter func268,ntmps268;go_wp2_with fail;refine keR e.u λa=>?_;have hC:=j.u;refine tkA 0 a ?_;refine tkA 1 a ?_;refine tkA 2 a ?_;refine tkA 3 a ?_;refine tkA 4 a ?_;refine tkA 5 a ?_;refine khR 6 9 e.u.drew (q0f p d _) λt g=>?_;replace a:=g.B;refine tkA 7 a ?_;refine keV 8 9 11 g (keS r k.u) ?_;intro v f h;have⟨D,E,F⟩:=kag f;have i:=h_ h;clear hC f h a;go_wp2;all_goals exact bQ ⟨rfl,i⟩
def q0l (b o m c:Nat)(p d:Vx)(w:Tw)(q:2<=m)(l:Cel w b o p)(n:Cel w b (o+3) d):Gv 269 #[.slice (some ⟨b,o,none⟩) m c] w (vv (kaj (decide (kdI p d<=0)))):=by refine opS λr s k x e=>?_;have⟨y,z,A,C⟩:=kdr q;have j:=h_ (ab l n);go_enter func269,ntmps269;go_wp2_with fail;refine keR e.u λa=>?_;have hC:=j.u;refine tkA 0 a ?_;refine tkA 1 a ?_;refine tkA 2 a ?_;refine tkA 3 a ?_;refine tkA 4 a ?_;refine tkA 5 a ?_;refine khR 6 9 e.u.drew (q0f p d _) λt g=>?_;replace a:=g.B;refine tkA 7 a ?_;refine keV 8 9 11 g (keS r k.u) ?_;intro v f h;have⟨D,E,F⟩:=kag f;have i:=h_ h;clear hC f h a;go_wp2;all_goals exact bQ ⟨rfl,i⟩
def kgn (w:Tw):Prop:=∃z,2<w.1.size/\w.cell? ⟨2,0,none⟩=some (.int .i64 z)
def kgn.mono {w w':Tw}(c:kgn w)(b:Bw w w'):kgn w':=by have⟨e,a,d⟩:=c;exact⟨e,Yr a b.size,(b.cell (p:=⟨2,0,none⟩) a).trans d⟩
def q5g (b o m c:Nat)(p f:Vx)(w:Tw)(x:2<=m)(I:p.s.size<=1000)(t:kgn w)(q:Cel w b o p)(r:Cel w b (o+3) f):Gv 279 #[.slice (some ⟨b,o,none⟩) m c] w (vv (kaj (Lib.contains p.s.data.toList f.s.data.toList))):=by refine opS λz n l D e=>?_;have⟨E,F,G,H⟩:=kdr x;have j:=h_ (ab q r);obtain⟨y,-,v⟩:=t.mono e.u.drew.B;have k:=h_ v;go_enter func279,ntmps279;go_wp2_with fail;refine keR e.u λa=>?_;have hC:=j.u;refine tkA 0 a ?_;refine tkA 1 a ?_;refine tkA 2 a ?_;refine tkA 3 a ?_;refine tkA 4 a ?_;refine tkA 5 a ?_;refine tkA 6 a ?_;refine tkA 7 a ?_;refine khR 8 11 e.u.drew ((Tryz.strings_Contains p.s f.s y n.drew cr k).mono λh i ⟨g,d⟩=>⟨g,by rw[d];exact bR _ _⟩) λA h=>?_;replace a:=h.B;refine keV 9 10 12 h (keS z l.u) ?_;intro C g d;have⟨J,K,L⟩:=kag g;have i:=h_ d;clear hC g d a;go_wp2;all_goals exact bQ ⟨rfl,i⟩
def qrw (x:Int):(if decide (0<=x) then -(x.natAbs:Int) else (x.natAbs:Int)) = -x:=by grind
def q4a (b o m c:Nat)(p:Vx)(w:Tw)(x:1<=m)(s:-9223372036854775808<=p.n/\p.n<=9223372036854775807)(r:Cel w b o p):Gv 254 #[.slice (some ⟨b,o,none⟩) m c] w (vv (kbu (-p.n))):=by refine opS λE h l v g=>?_;have y:(0:Int)<m:=cr;have z:0<m:=cr;have k:=h_ λj (d:Bw w j)=>(r.mono d).2;have f:=h_ s;go_enter func254,ntmps254;go_wp2_with fail;refine keR g.u λa=>?_;have hC:=k.u;refine tkA 0 a ?_;refine tkA 1 a ?_;refine tkA 2 a ?_;refine tkA 3 a ?_;refine tkA 5 a ?_;refine tkA 6 a ?_;refine tkA 7 a ?_;refine tkA 8 a ?_;refine tkA 9 a ?_;refine khR 4 7 g.u.drew ((q45 p.n _ f).mono λq i ⟨e,d⟩=>⟨e,by rw[d];exact bR _ _⟩) λt i=>?_;replace a:=i.B;refine keV 10 11 13 i (F:=307) (args:=#[.int .u64 (p.n.natAbs:Int),.bool (decide (0<=p.n))]) (λh=>(q1x p.n.natAbs (decide (0<=p.n)) h (by have:=f.u;omega)).mono λq j ⟨e,d⟩=>⟨by rw[e,qrw,l.u];rfl,d⟩) ?_;intro q e d;have⟨A,C,D⟩:=kag e;have j:=h_ d;clear hC e d a;go_wp2;all_goals exact bQ ⟨rfl,j⟩
def q3k (b o m c:Nat)(p d:Vx)(w:Tw)(x:2<=m)(y:p.s.size<=1000/\d.s.size<=1000)(q:Cel w b o p)(r:Cel w b (o+3) d):Gv 263 #[.slice (some ⟨b,o,none⟩) m c] w (vv (if 1000<p.s.size+d.s.size then kay 4 else kbT (p.s++d.s))):=by refine opS λl z f B e=>?_;have⟨C,D,E,F⟩:=kdr x;have h:=h_ (ab q r);have⟨G,H⟩:=y;have I:IntKind.i64.wrap ((p.s.size:Int)+(d.s.size:Int))=(p.s.size:Int)+(d.s.size:Int):=(IntWalk.i64_left _).trans (q76 cr cr);by_cases k:1000<p.s.size+d.s.size;{have t:(1000:Int)<(p.s.size:Int)+(d.s.size:Int):=cr;have g:=f.u;rw[Yy k]at g;replace f:=h_ g;go_enter func263,ntmps263;go_wp2_with fail;refine keR e.u λa=>?_;have hC:=h.u;refine tkA 0 a ?_;refine tkA 1 a ?_;refine tkA 2 a ?_;refine tkA 3 a ?_;refine tkA 4 a ?_;refine tkA 5 a ?_;refine tkA 6 a ?_;refine tkA 7 a ?_;refine tkA 8 a ?_;refine tkA 9 a ?_;refine tkA 10 a ?_;refine tkA 11 a ?_;refine wdQ ?_;replace e:=h_ e.u.drew;go_wp2_with fail;refine(kiM l f.u _).mono ?_;exact exS e};have t:¬ (1000:Int)<(p.s.size:Int)+(d.s.size:Int):=cr;have g:=f.u;rw[Yu k]at g;replace f:=h_ g;go_enter func263,ntmps263;go_wp2_with fail;refine keR e.u λa=>?_;have hC:=h.u;refine tkA 0 a ?_;refine tkA 1 a ?_;refine tkA 2 a ?_;refine tkA 3 a ?_;refine tkA 4 a ?_;refine tkA 5 a ?_;refine tkA 6 a ?_;refine tkA 7 a ?_;refine tkA 8 a ?_;refine tkA 9 a ?_;refine tkA 10 a ?_;refine tkA 11 a ?_;refine wdQ ?_;replace e:=h_ e.u.drew;go_wp2_with fail;refine keR e.u λa=>?_;have hC:=h.u;refine tkA 0 a ?_;refine tkA 1 a ?_;refine tkA 2 a ?_;refine tkA 3 a ?_;refine tkA 4 a ?_;refine tkA 5 a ?_;refine tkA 6 a ?_;refine tkA 7 a ?_;refine tkA (v:=.string (p.s++d.s)) 8 a ?_ (hy:=λw i=>by simp[execOp,go_sem];omega);refine keV 9 10 25 e.u.drew (kiB l f.u) ?_;intro A i j;have⟨J,K,L⟩:=kag i;have n:=h_ j;clear hC i j a;go_wp2;all_goals exact bQ ⟨rfl,n⟩
def fE {p:Prop}(h:p:=by refine(ke5 p (by have i:=d.u;rw[kbm,F.u]at i;rw[<- l.u];simp at i;simp[R2,kde,i]) _).mono ?_;exact exS g):p:=h
def fG {p:Prop}(h:p:=by intro J z e;have⟨M,N,O⟩:=kag z;have E:=h_ e;clear hC z e d;go_wp2;exact bQ ⟨rfl,E⟩):p:=h
def q99 (o:Int)(a:To)(m c:Nat)(f:Nat->Vx)(w:Tw)(D:ar o=m)(A:m=1∨m=2)(q:(f 0).k=2)(d:kaH w a m f):Gv 183 (Jo o a m c) w (vv (R2 o m f)):=by have⟨Q,j,i⟩:=RW.start w;have⟨p,s⟩:=Nq (R2 o m f);rw[s];have⟨l,H,g,F⟩:=oD s (d.mono i.B) i q;obtain⟨C,t,rfl,-,v,c1,c2⟩:=kej H cr;have I:Hi (m=2->∀h,Bw w h->h.cell? ⟨C,t+1,none⟩=some (Yb (f 0).n)/\h.cell? ⟨C,t+3+1,none⟩=some (Yb (f 1).n)):=h_ λx h e=>(by have⟨G,J,r,z⟩:=(d.mono e) 0 cr;have⟨K,P,y,E⟩:=(d.mono e) 1 cr;cases r;cases y;exact⟨by simpa using z.2.2.1,by simpa using E.2.2.1⟩);clear d i q s;unfold vv;by_cases r:o=3;{subst r;have x:ar 3=1:=cx;obtain rfl:m=1:=cr;clear x D A;go_enter func183,ntmps183;go_wp2_with fail;(try rw[j]);clear j;refine cQ (q3s (f 0) _) λq e=>?_;replace g:=h_ (g.mono e);clear e v c1 c2;go_wp2_with fail;refine(kbv p (by rw[<- l.u,kdw,F.u];simp[R2,kde]) _).mono ?_;exact exS g};have U:=nq r;by_cases y:o=23;{subst y;have x:ar 23=1:=cx;obtain rfl:m=1:=cr;clear x D A r;have⟨z,i⟩:=Nq (kbm (f 0));have d:=h_ i;clear i;go_enter func183,ntmps183;go_wp2_with fail;(try rw[j]);clear j;refine cQ (q5v (f 0) _) λq e=>?_;replace g:=h_ (g.mono e);clear e v c1 c2;rw[d.u];cases z;{go_wp2_with fail;exact fE};go_wp2_with fail;exact fE};have T:=nq y;by_cases q:o=10∨o=11;{obtain rfl:m=2:=(by rcases q with rfl | rfl <;> (have x:ar 10=2:=by decide) <;> (have R:ar 11=2:=by decide) <;> omega);obtain⟨K,P,L,-,-,d1,-⟩:=H 1 cr;cases L;rw[show t+1*3=t+3 by omega]at d1;clear D A r y;have G:Hi (∀h,Bw w h->h.cell? ⟨C,t+1,none⟩=some (Yb (f 0).n)/\h.cell? ⟨C,t+3+1,none⟩=some (Yb (f 1).n)):=h_ (I rfl);rcases q with rfl | rfl;{go_enter func183,ntmps183;go_wp2_with fail;(try rw[j]);clear j v c1 c2 d1;refine wp_region_held_drew (S:=λh=>Bw w h) cu g.B.drew (λd=>?_);have hC:=G.u;refine tkA 0 d ?_;refine tkA 1 d ?_;refine tkA 2 d ?_;refine tkA 3 d ?_;refine tkA 4 d ?_;refine tkA 5 d ?_;refine tkA 6 d ?_;refine tkA 7 d ?_;refine tkA 8 d ?_;refine keV 9 10 31 (g.mono (bR _ _).drew) (kbv (b:=(f 0).n==(f 1).n) p (by rw[<- l.u];simp[R2,kdX,khJ])) ?_;exact fG};go_enter func183,ntmps183;go_wp2_with fail;(try rw[j]);clear j v c1 c2 d1;refine wp_region_held_drew (S:=λh=>Bw w h) cu g.B.drew (λd=>?_);have hC:=G.u;refine tkA 0 d ?_;refine tkA 1 d ?_;refine tkA 2 d ?_;refine tkA 3 d ?_;refine tkA 4 d ?_;refine tkA 5 d ?_;refine tkA 6 d ?_;refine tkA 7 d ?_;refine tkA 8 d ?_;refine keV 9 10 43 (g.mono (bR _ _).drew) (kbv (b:=(f 0).n != (f 1).n) p (by rw[<- l.u];simp[R2,kdX,bne,khJ])) ?_;exact fG};have d:=nq λi=>q (.inl i);have e:=nq λi=>q (.inr i);have s:kay 1=p:=(by rw[<- l.u];rcases A with rfl | rfl <;> simp[R2,kde,kdX,r,y,not_or.1 q]);replace l:=h_ s;clear s r y q D A;go_enter func183,ntmps183;go_wp2_with fail;(try rw[j]);clear j v c1 c2;refine(kdv p l _).mono ?_;exact exS g
def I6 (n:Int):Prop:=-9223372036854775808<=n/\n<=9223372036854775807
def GVx (u:Vx):Prop:=kae u.k u.n u.s=true/\I6 u.n
theorem kb6 (b:Bool):GVx (kaj b):=by cases b <;> exact⟨cx,cx,cx⟩
theorem kcm {n:Int}(a:1<=n/\n<=5):GVx (kay n):=⟨by simp[kae,kay,a];rfl,by show -9223372036854775808<=n;omega,by show n<=9223372036854775807;omega⟩
theorem qps:GVx kal:=⟨cx,cx,cx⟩
theorem kek {n:Int}(a:I6 n):GVx (kbz n):=⟨by simp[kae,kbz];rfl,a⟩
theorem kel (n:Int):GVx (kbu n):=by grind[kbu,kbN,I6,GVx,kek,kcm]
theorem kem (a:kax s=true):GVx (kbT s):=⟨by simp[kae,kbT,a],by show -9223372036854775808<=(0:Int);decide,by show(0:Int)<=9223372036854775807;decide⟩
def kfp {f:Nat->Vx}{m:Nat}{u:Vx}(b:∀a,a<m->GVx (f a))(a:kbn f m=some u):GVx u:=by grind[GVx,kbn]
def khT (l:List UInt8):I6 (rd l).1:=by unfold rd;cases h:kbr l with|none=>exact⟨cx,cx⟩|some n=>unfold kbr at h;split at h;{rename_i m hm;split at h;{simp only[Vc]at h;subst h;have hb:=Lib.parseIntB_bounds hm;have:(2:Nat) ^ (64 - 1)=9223372036854775808:=rfl;unfold I6;simp only;omega};cases h};cases h
def qku (n:Int){c:UInt8}(a:c∈Lib.itoa n):45<=c.toNat/\c.toNat<=57:=by by_cases b:n<0;{obtain⟨e,d,rfl⟩:=(qbq n).1 b;rw[d]at a;rcases Vh.1 a with rfl | a;{decide};have:=(qr6 n.natAbs).1 c a;omega};rw[((qbq n).2 b).1]at a;have:=(qr6 n.natAbs).1 c a;omega
theorem qgd {n:Int}(a:I6 n):kax ⟨(Lib.itoa n).toArray⟩=true:=by rw[kax,Yq,Y8];refine⟨Yk (by have:=Lib.itoa_length_le n a.1 a.2;show(Lib.itoa n).toArray.size<=1000;simp;omega),λb b=>?_⟩;have c:=qku n dw;exact Yk cr
theorem qj7 {t:Tb}(b:kax s=true)(c:kax t=true)(a:¬ 1000<s.size+t.size):kax (s++t)=true:=by simp_all[kax]
def qs3 {u:Vx}(a:kae u.k u.n u.s=true)(b:u.k=3):kax u.s=true:=by grind[kae]
def kgu (a:Int){x:Int}(b:I6 x):GVx (kfU a x):=by grind[kfU,I6,GVx,kel,kem,qgd,kcm]
def kgv (a:Int){x y:Int}(o:I6 x)(hy:I6 y):GVx (kcH a x y):=by unfold kcH;have n:∀b c:Int,I6 b->I6 c->I6 (if x<y then b else c):=λb c b b=>(by split <;> assumption);have m:∀b,GVx (if y=0 then kay 3 else kbu b):=λb=>(by split;exact kcm cx;exact kel b);by_cases b:a=4;{rw[Yy b];exact kel _};by_cases c:a=7;{rw[Yu b,Yy c];exact kel _};by_cases d:a=8;{rw[Yu b,Yu c,Yy d];exact kel _};by_cases e:a=5;{rw[Yu b,Yu c,Yu d,Yy e];exact m _};by_cases l:a=6;{rw[Yu b,Yu c,Yu d,Yu e,Yy l];exact m _};rw[Yu b,Yu c,Yu d,Yu e,Yu l];by_cases f:a=10;{rw[Yy f];exact kb6 _};rw[Yu f];by_cases g:a=11;{rw[Yy g];exact kb6 _};rw[Yu g];by_cases h:a=12;{rw[Yy h];exact kb6 _};rw[Yu h];by_cases i:a=13;{rw[Yy i];exact kb6 _};rw[Yu i];by_cases j:a=17;{rw[Yy j];exact kek (n _ _ o hy)};rw[Yu j];by_cases k:a=18;{rw[Yy k];exact kek (n _ _ hy o)};rw[Yu k];exact kcm cx
def qpw (c:Int){p:Vx}(a:GVx p)(b:p.k=3):GVx (kdf c p):=by
 unfold kdf
 repeat' split
 . have:=kcZ a.1 b
   exact kek ⟨cr,cr⟩
 . exact kek (khT _)
 . exact kcm cx
 . exact a
 . exact kcm cx
def qpx (a:Int){t:Tb}(b:kax s=true)(c:kax t=true):GVx (kcJ a s t):=by grind[kcJ,kax,GVx,kcm,kb6,kem,qj7]
def qpt (a:Int)(p:Vx):GVx (kde a p):=by
 unfold kde
 repeat' split
 all_goals first | exact kcm cx | exact kb6 _ | exact kem cx
def qpu (a x y:Int):GVx (kdX a x y):=by grind[kdX,GVx,kcm,kb6]
def kgw (p a:Vx):GVx (kei p a)/\GVx (orX p a):=by grind[kei,orX,GVx,kcm,kb6,qps]
def qpv {f:Nat->Vx}{m:Nat}{R:Vx}(b:∀a,a<m->GVx (f a))(c:GVx R):GVx (ka2 f m R):=by unfold ka2;cases a:kbn f m with|none=>exact c|some d=>exact kfp b a
def qj6 {b:Int}{m:Nat}{f:Nat->Vx}(q:ar b=m)(p:1<=m)(a:∀c,c<m->GVx (f c)):GVx (apY b m f):=by
 have r:=kgt b;unfold apY;by_cases j:b=25
 . rw[Yy j];exact kb6 _
 rw[Yu j];by_cases g:b=16
 . rw[Yy g]
   unfold ifX
   repeat' split
   all_goals first | exact kcm cx | exact a _ cr
 rw[Yu g];by_cases h:b=19
 . rw[Yy h]
   unfold kdB;split
   all_goals exact a _ cr
 rw[Yu h];by_cases i:b=24
 . rw[Yy i];exact qpv a (kb6 _)
 rw[Yu i];by_cases d:b=14
 . rw[Yy d];exact qpv a (kgw _ _).1
 rw[Yu d];by_cases e:b=15
 . rw[Yy e];exact qpv a (kgw _ _).2
 rw[Yu e];unfold kbA;cases o:kbn f m with
 | some c=>exact kfp a o
 | none =>
  dsimp only;by_cases k:keh f m=true
  . rw[Yy k];exact qps
  rw[Yu k];by_cases l:kaz f m 1=true
  . rw[Yy l]
    unfold R1;split
    . exact kgu _ (a 0 cr).2
    . exact kgv _ (a 0 cr).2 (a 1 cr).2
  rw[Yu l];by_cases c:kaz f m 3=true
  . rw[Yy c]
    unfold R3;split
    . exact qpw _ (a 0 cr) (qo6 c cr)
    . exact qpx _ (qs3 (a 0 cr).1 (qo6 c cr)) (qs3 (a 1 cr).1 (qo6 c cr))
  rw[Yu c];by_cases n:kaz f m 2=true
  . rw[Yy n]
    unfold R2;split
    . exact qpt _ _
    . exact qpu _ _ _
  rw[Yu n];exact kcm cx
def kdQ (f:Nat->Vx)(m:Nat)(kind r:Int):Prop :=
 (∃k:Nat,k<m/\r=k/\(f k).k=kind/\∀j,j<k->¬ (f j).k=kind)∨(r = -1/\∀j,j<m->¬ (f j).k=kind)
def qch (u:Vx)(b:Int)(X:Nat)(w:Tw)(d:X<w.1.size)(e:w.cell? ⟨X,0,none⟩=some (Yb b)):Gv 252 #[.agg (Jc u.k u.n u.s),Ye X 0] w (.bool (u.k==b)):=by have f:∀a,(w.alloc a).cell? ⟨X,0,none⟩=some (Yb b):=λa=>(Below.cell ((bR w.1.size w).alloc (nR _) a) (p:=⟨X,0,none⟩) d).trans e;have c:∀a,Hi (Bw w (w.alloc a)):=λa=>h_ ((bR _ _).alloc (nR _) _);go_enter func252,ntmps252;go_wp2;go_ret;exact⟨rfl,u_ (c _)⟩
def q3i (a:To)(m c X:Nat)(f:Nat->Vx)(d:Int)(w:Tw)(J:m<=1048576)(B:kaH w a m f)(z:X<w.1.size)(D:w.cell? ⟨X,0,none⟩=some (Yb d)):Calls prog 251 #[.slice a m c,.func (.func 252) #[] #[Ye X 0]] w λl e=>∃b,l=.returned (Yb b)/\kdQ f m d b/\Bw w e:=by have⟨u,j⟩:=oB B (And.intro z D);go_enter func251,ntmps251;go_wp2;go_loopw [5,8] (λ_ g wr=>∃b:Nat,b<=m/\g=Yb b/\(∀e,e<b->¬ (f e).k=d)/\Bw w wr) (λ_ g _=>m - (intOf g).toNat);exact⟨0,nZ _,rfl,λe s=>absurd s (nL _),bR _ _⟩;obtain⟨b,H,rfl,C,g⟩:=hrel;have⟨i,o⟩:=oB C g;have y:=u.mono g;have A:X<wr.1.size:=Yr j.1 g.size;have E:wr.cell? ⟨X,0,none⟩=some (Yb d):=(g.cell (p:=⟨X,0,none⟩) j.1).trans j.2;have⟨x,r⟩:=oB y (And.intro A E);by_cases t:b<m;{have I:(b:Int)<m:=cr;obtain⟨F,K,rfl,-,G,c1,c2⟩:=x b t;go_wp2_with fail;refine cQ (qch (f b) d X wr r.1 r.2) λL g=>?_;have q:=mT o g;by_cases h:(f b).k=d;{have n:((f b).k==d)=true:=beq_iff_eq.2 h;rw[n];have k:Hi (kdQ f m d b):=h_ (.inl ⟨b,t,rfl,h,i⟩);go_wp2;go_ret;exact⟨_,rfl,k,q⟩};have n:((f b).k==d)=false:=Yh.2 h;rw[n];have v:Hi (∀e,e<b+1->¬ (f e).k=d):=h_ λe s=>(by by_cases l:e=b;{rw[l];exact h};exact i e cr);go_wp2;go_roundw;exact⟨b+1,cr,cy,v,q⟩;simp[intOf];omega};obtain rfl:b=m:=cr;have k:Hi (kdQ f b d (-1)):=h_ (.inr ⟨rfl,i⟩);go_wp2;go_ret;exact⟨_,rfl,k,o⟩
def q1a (a:To)(m c:Nat)(f:Nat->Vx)(d:Int)(w:Tw)(r:m<=1048576)(q:kaH w a m f):Calls prog 208 (J9 a m c d) w λh b=>∃e,h=.returned (Yb e)/\kdQ f m d e/\Bw w b:=by have⟨o,i⟩:=Nq (w.alloc (.cells #[Yb d] 3));have b:=nB i;have p:=nK i;have⟨n,g,j⟩:=oC (q.mono b) p b;go_enter func208,ntmps208;go_wp2_with fail;refine(q3i a m c w.1.size f d o r n g.lt (g.cell 0)).mono ?_;rintro h t ⟨e,rfl,s,b⟩;have l:=h_ s;have k:=mT j b;go_wp2;go_ret;exact⟨e,rfl,l,k⟩
def opT:Tl:=[.nilFunc,.nilFunc,.nilFunc,.nilFunc,.func (.func 253) #[] #[],.func (.func 254) #[] #[],.func (.func 255) #[] #[],.func (.func 256) #[] #[],.func (.func 253) #[] #[],.func (.func 257) #[] #[],.func (.func 253) #[] #[],.func (.func 258) #[] #[],.func (.func 253) #[] #[],.func (.func 259) #[] #[],.func (.func 253) #[] #[],.func (.func 260) #[] #[],.func (.func 253) #[] #[],.func (.func 261) #[] #[],.func (.func 262) #[] #[],.func (.func 263) #[] #[],.func (.func 264) #[] #[],.func (.func 265) #[] #[],.func (.func 264) #[] #[],.func (.func 266) #[] #[],.func (.func 267) #[] #[],.func (.func 268) #[] #[],.func (.func 267) #[] #[],.func (.func 269) #[] #[],.func (.func 270) #[] #[],.func (.func 271) #[] #[],.func (.func 270) #[] #[],.func (.func 272) #[] #[],.func (.func 273) #[] #[],.func (.func 274) #[] #[],.func (.func 253) #[] #[],.func (.func 275) #[] #[],.func (.func 253) #[] #[],.func (.func 276) #[] #[],.func (.func 277) #[] #[],.func (.func 278) #[] #[],.func (.func 262) #[] #[],.func (.func 279) #[] #[],.func (.func 262) #[] #[],.func (.func 280) #[] #[],.func (.func 262) #[] #[],.func (.func 281) #[] #[],.func (.func 264) #[] #[],.func (.func 282) #[] #[],.func (.func 277) #[] #[],.func (.func 283) #[] #[],.func (.func 277) #[] #[],.func (.func 284) #[] #[]]
def kiK:Tl:=List.replicate 52 .nilFunc
def qlt:(prog.info? 290).map (·.size)=some opT.toArray.size:=by kernel_rfl
def qs5:opT.toArray.all (·.oneCell')=true:=by kernel_rfl
section
variable {ops:Array Oper} {rest:List Oper} {o:Oper} {a:Act} {w:Tw} {Q:Exit->Act->Tw->Prop}
def q15 (f:o.guard=none)(x y:Operand)(h:o.op=.store 290 x y)(b:Nat)(i:a.eval x=Ye b 0)(hy:a.eval y=.agg opT.toArray)(d:Blk w b 290 kiK)
 (e:∀c,Blk c b 290 opT->w.grownBy c (some b)->c.1.size=w.1.size->wpList prog ops Q rest (a.put o.dst undef) c):wpList prog ops Q (o :: rest) a w :=
 wpList_plain f λ_ c=>wp_store_row 290 x y h b opT.toArray i hy _ _ d qlt cH qs5
  (c _ _ (e _ (setRow_heap w b _ _ _ _ d) ⟨rfl,rfl,rfl,cw,λc _ g=>setRow_other w b c _ (λc=>g (by rw[c]))⟩ cw))
def q1z (d e:Nat)(i:o.guard=none)(x y:Operand)(l:o.op=.store 261 x y)(b:Nat)(g:Tl)(k:g.length=2)(m:a.eval x=Ye b 0)(hy:a.eval y=.agg #[.func (.func d) #[] #[],.func (.func e) #[] #[]])(f:Blk w b 261 g)
 (h:∀c,Blk c b 261 [.func (.func d) #[] #[],.func (.func e) #[] #[]]->w.grownBy c (some b)->c.1.size=w.1.size->wpList prog ops Q rest (a.put o.dst undef) c):wpList prog ops Q (o :: rest) a w :=
 wpList_plain i λ_ c=>wp_store_row 261 x y l b #[.func (.func d) #[] #[],.func (.func e) #[] #[]] m hy _ _ f cu (by simpa using k) cG
  (c _ _ (h _ (setRow_heap w b _ _ _ _ f) ⟨rfl,rfl,rfl,cw,λc _ j=>setRow_other w b c _ (λc=>j (by rw[c]))⟩ cw))
end
def q2x (n c d:Nat)(y:n<=25)(r:opT[n*2]? = some (.func (.func c) #[] #[])/\opT[n*2+1]? = some (.func (.func d) #[] #[]))(w:Tw):Gv 210 #[Yb n] w (.agg #[.func (.func c) #[] #[],.func (.func d) #[] #[]]):=by have g:=h_ r;have⟨f,q⟩:=Nq (w.1.size+1);go_enter func210,ntmps210;go_wp2_with (refine q15 rfl _ _ rfl f rfl rfl ?hb ?_);(case hb=>rw[<- q];have b:=Blk.new (w.alloc (.cells #[.nilFunc,.nilFunc] 261)) 290 kiK.toArray;rw[Yp]at b;exact b);intro e i k A;have s:Blk e w.1.size 261 [.nilFunc,.nilFunc]:=Blk.grown ((Blk.new w 261 #[.nilFunc,.nilFunc]).alloc _) k (λb=>by have:=Z7 b;omega);have u:Bw w e:=(((bR _ w).alloc (nR _) _).alloc cw _).grown k cz (λv b=>by have:=Z7 b;omega);have x:e.cell? ⟨f,n*2,none⟩=some (.func (.func c) #[] #[]):=(i.cell (n*2)).trans g.1;have c1:e.cell? ⟨f,n*2+1,none⟩=some (.func (.func d) #[] #[]):=(i.cell (n*2+1)).trans g.2;have z:(n:Int)<26:=cr;have⟨h,p⟩:=oB u s;go_wp2_with (refine q1z c d rfl _ _ rfl w.1.size [.nilFunc,.nilFunc] rfl rfl rfl p ?_);intro l j t B;have C:l.cell? ⟨w.1.size,0,none⟩=some (.func (.func c) #[] #[]):=j.cell 0;have D:l.cell? ⟨w.1.size,1,none⟩=some (.func (.func d) #[] #[]):=j.cell 1;have m:=h_ (h.grown t h.size (λv b=>by have:=Z7 b;omega));go_wp2;exact bQ ⟨rfl,m⟩
