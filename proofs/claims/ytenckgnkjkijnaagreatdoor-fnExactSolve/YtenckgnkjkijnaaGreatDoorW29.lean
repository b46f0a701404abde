import Derived.Test.YtenckgnkjkijnaaGreatDoorW24
set_option maxRecDepth 100000
set_option maxHeartbeats 64000000
namespace Go.Proofs.YtenckgnkjkijnaaGreatDoor
open Go Go.RowKit Go.Proofs.Tryz
def kfc (name:String)(w:Tw):Prop:=∃tp p,w.var? prog name=some #[.iface tp p]
theorem qmr {w w':Tw}{P:Program}{b:String}{cs:Ta}(a:w.var? P b=some cs)(f:Bw w w'):w'.var? P b=some cs:=by
 unfold World.var? at a⊢;cases d:P.globalNamed b with
 | none=>rw[d]at a;cases a
 | some c =>
  rw[d]at a;simp only[Option.bind_some]at a⊢;have g:c<w.heap.size:=by
   apply V8;intro e;rw[Ob e]at a;cases a
  rw[f.block c g];exact a
theorem kfc.mono {b:String}{w w':Tw}(a:kfc b w)(c:Bw w w'):kfc b w':=by
 obtain⟨e,d,a⟩:=a;exact⟨e,d,qmr a c⟩
theorem q1v (s:Tb)(w:Tw)(A:s.size<=1048576)(t:Pow w)(o:kfc "strconv.ErrSyntax" w)(p:kfc "strconv.ErrRange" w)(x:Int)(ok:Bool)(v:rd s.data.toList=(x,ok)) :
 Gv 315 #[.string s] w (.tuple #[J6 x,.bool ok]):=by
 obtain⟨m,i⟩:=oB t v;cases b:Lib.parseIntB 64 s.data.toList with
 | ok n =>
  have z:=Lib.parseIntB_bounds b;have r:I64 n:=by have:(2:Nat) ^ (64 - 1)=9223372036854775808:=rfl;unfold I64;omega
  have l:=h_ r;go_enter func315,ntmps315;go_wp2_with fail;refine cQ (Tryz.strconv_ParseInt_10_at64_ok s (by omega) n b w) fun k y=>?_;have d:Bw w k:=by
   rcases y with rfl | ⟨a,rfl⟩
   . exact bR _ _
   . exact Lib.bytesWorld_below _ _ _
  have c:=h_ d;go_wp2_with fail;refine cQ (q7c n _ l.1 l.2 (m.mono c)) fun B q=>?_;replace c:=mT c q;by_cases f:Lib.itoa n=s.data.toList
  . have e:x=n/\ok=true:=by
     have a:=i.u;rw[rd,kbk,b]at a;simp only[Yr f,Vu]at a;exact⟨a.1.symm,a.2.symm⟩
    obtain⟨rfl,rfl⟩:=e;have j:((⟨(Lib.itoa x).toArray⟩:Tb).toList==s.toList)=true:=(by rw[Y7,Y7,<- f];simp);obtain⟨g,h⟩:∃g:Tb,g=⟨(Lib.itoa x).toArray⟩:=⟨_,rfl⟩;rw[<- h]at j⊢;clear h f b;go_wp2;exact bQ ⟨rfl,c⟩
  . have e:x=0/\ok=false:=by
     have a:=i.u;rw[rd,kbk,b]at a;simp only[Yl f,Vu]at a;exact⟨a.1.symm,a.2.symm⟩
    obtain⟨rfl,rfl⟩:=e;have j:((⟨(Lib.itoa n).toArray⟩:Tb).toList==s.toList)=false:=(by rw[Y7,Y7,Yc];simpa using f);obtain⟨g,h⟩:∃g:Tb,g=⟨(Lib.itoa n).toArray⟩:=⟨_,rfl⟩;rw[<- h]at j⊢;clear h f b;go_wp2;exact bQ ⟨rfl,c⟩
 | «syntax» =>
  obtain⟨h,g,f⟩:=o;have e:x=0/\ok=false:=by
   have a:=i.u;rw[rd,kbk,b]at a;simp only[Vu]at a;exact⟨a.1.symm,a.2.symm⟩
  obtain⟨rfl,rfl⟩:=e;go_enter func315,ntmps315;go_wp2_with fail;refine(Tryz.strconv_ParseInt_10_at64_syntax_var s (by omega) b h g w f).mono ?_;rintro l k ⟨j,rfl,-,-,d⟩;have c:=h_ d;clear d b;go_wp2;exact bQ ⟨rfl,c⟩
 | range =>
  obtain⟨h,g,f⟩:=p;have e:x=0/\ok=false:=by
   have a:=i.u;rw[rd,kbk,b]at a;simp only[Vu]at a;exact⟨a.1.symm,a.2.symm⟩
  obtain⟨rfl,rfl⟩:=e;go_enter func315,ntmps315;go_wp2_with fail;refine(Tryz.strconv_ParseInt_10_at64_range_var s (by omega) b h g w f).mono ?_;rintro l k ⟨j,rfl,-,-,d⟩;have c:=h_ d;clear d b;go_wp2;exact bQ ⟨rfl,c⟩
theorem kdh {m:Nat}(a:2<=m):(0:Int)<m/\(1:Int)<m/\0<m/\1<m:=by omega
theorem q2z (b o m c:Nat)(p d:Vx)(w:Tw)(q:2<=m)(k:Cel w b o p)(l:Cel w b (o+3) d):Gv 275 #[.slice (some ⟨b,o,none⟩) m c] w (vv (kbL (if p.n<d.n then p.n else d.n))):=by
 refine opS fun r s j v e=>?_;obtain⟨x,y,z,A⟩:=kdh q;have i:=h_ (ab k l);go_enter func275,ntmps275;go_wp2_with fail;refine keF e.u fun a=>?_;have hC:=i.u;refine tkA 0 a ?_;refine tkA 1 a ?_;refine tkA 2 a ?_;refine tkA 3 a ?_;refine tkA 4 a ?_;refine tkA 5 a ?_;refine tkA 6 a ?_;refine tkA 7 a ?_;refine tkA 8 a ?_;refine keK 9 10 12 e.u.drew (kig (n:=min p.n d.n) r (by rw[<- j.u];congr 1;split <;> omega)) ?_;intro t f g;obtain⟨B,C,D⟩:=kag f;have h:=h_ g;clear hC f g a;go_wp2
 all_goals exact bQ ⟨rfl,h⟩
theorem q3w (b o m c:Nat)(p d:Vx)(w:Tw)(q:2<=m)(k:Cel w b o p)(l:Cel w b (o+3) d):Gv 276 #[.slice (some ⟨b,o,none⟩) m c] w (vv (kbL (if p.n<d.n then d.n else p.n))):=by
 refine opS fun r s j v e=>?_;obtain⟨x,y,z,A⟩:=kdh q;have i:=h_ (ab k l);go_enter func276,ntmps276;go_wp2_with fail;refine keF e.u fun a=>?_;have hC:=i.u;refine tkA 0 a ?_;refine tkA 1 a ?_;refine tkA 2 a ?_;refine tkA 3 a ?_;refine tkA 4 a ?_;refine tkA 5 a ?_;refine tkA 6 a ?_;refine tkA 7 a ?_;refine tkA 8 a ?_;refine keK 9 10 12 e.u.drew (kig (n:=max p.n d.n) r (by rw[<- j.u];congr 1;split <;> omega)) ?_;intro t f g;obtain⟨B,C,D⟩:=kag f;have h:=h_ g;clear hC f g a;go_wp2
 all_goals exact bQ ⟨rfl,h⟩
theorem q4p (b o m c:Nat)(p d:Vx)(w:Tw)(n:2<=m)(k:Cel w b o p)(l:Cel w b (o+3) d):Gv 265 #[.slice (some ⟨b,o,none⟩) m c] w (vv (kaj (eqX p d))):=by
 refine opS fun q r j t e=>?_;obtain⟨x,y,z,A⟩:=kdh n;have i:=h_ (ab k l);go_enter func265,ntmps265;go_wp2_with fail;refine keF e.u fun a=>?_;have hC:=i.u;refine tkA 0 a ?_;refine tkA 1 a ?_;refine tkA 2 a ?_;refine tkA 3 a ?_;refine tkA 4 a ?_;refine tkA 5 a ?_;refine tkA (v:=.bool (eqX p d)) 6 a ?_ (hy:=fun w f=>by simp[execOp,go_sem];unfold eqX;(repeat' split) <;> simp_all);refine keK 7 8 10 e.u.drew (keG q j.u) ?_;intro s f g;obtain⟨B,C,D⟩:=kag f;have h:=h_ g;clear hC f g a;go_wp2
 all_goals exact bQ ⟨rfl,h⟩
theorem q0s (b o m c:Nat)(p d:Vx)(w:Tw)(n:2<=m)(k:Cel w b o p)(l:Cel w b (o+3) d):Gv 266 #[.slice (some ⟨b,o,none⟩) m c] w (vv (kaj (!eqX p d))):=by
 refine opS fun q r j t e=>?_;obtain⟨x,y,z,A⟩:=kdh n;have i:=h_ (ab k l);go_enter func266,ntmps266;go_wp2_with fail;refine keF e.u fun a=>?_;have hC:=i.u;refine tkA 0 a ?_;refine tkA 1 a ?_;refine tkA 2 a ?_;refine tkA 3 a ?_;refine tkA 4 a ?_;refine tkA 5 a ?_;refine tkA (v:=.bool (!eqX p d)) 6 a ?_ (hy:=fun w f=>by simp[execOp,go_sem];unfold eqX;(repeat' split) <;> simp_all);refine keK 7 8 10 e.u.drew (keG q j.u) ?_;intro s f g;obtain⟨B,C,D⟩:=kag f;have h:=h_ g;clear hC f g a;go_wp2
 all_goals exact bQ ⟨rfl,h⟩
def kdt (p q:Vx):Int:=if p.k=3 then Lib.compareBytes p.s.data.toList q.s.data.toList else Lib.compareInt p.n q.n
theorem qfh (x:Int)(w:Tw):Calls prog 339 #[J6 x] w fun a b=>a=.returned (.bool false)/\b=w:=by
 go_enter func339,ntmps339;go_wp2;go_ret;exact⟨by simp,rfl⟩
theorem q7b (x y:Int)(w:Tw):Calls prog 328 (Jr x y) w fun b a=>b=.returned (J6 (Lib.compareInt x y))/\a=w:=by
 go_enter func328,ntmps328;go_wp2_with (go_at_call 339;refine cQ (qfh _ _) fun a b=>?_;rw[b])
 all_goals (go_ret;refine⟨?_,rfl⟩;unfold Lib.compareInt;(repeat' split) <;> first | rfl | (exfalso;omega))
theorem q0f (p a:Vx)(w:Tw):Gv 312 #[.agg (Jc p.k p.n p.s),.agg (Jc a.k a.n a.s)] w (J6 (kdt p a)):=by
 have f:∀b c,Hi (Bw w ((w.alloc b).alloc c)):=fun b c=>h_ (((bR _ w).alloc (nR _) b).alloc (by simp) c);by_cases c:p.k=3
 . have b:Hi (kdt p a=Lib.compareBytes p.s.data.toList a.s.data.toList):=h_ (by rw[kdt,Yr c])
   have g:(p.k==3)=true:=beq_iff_eq.2 c;go_enter func312,ntmps312;go_wp2_with fail;refine cQ (Tryz.strings_Compare p.s a.s _) fun h d=>?_;rw[d];obtain⟨i,e⟩:=Nq (Lib.compareBytes p.s.data.toList a.s.data.toList);rw[e]at b⊢;go_wp2;go_ret;exact⟨by rw[b.u];rfl,u_ (f _ _)⟩
 . have b:Hi (kdt p a=Lib.compareInt p.n a.n):=h_ (by rw[kdt,Yl c])
   have g:(p.k==3)=false:=Yc.2 c;go_enter func312,ntmps312;go_wp2_with fail;refine cQ (q7b p.n a.n _) fun h d=>?_;rw[d];obtain⟨i,e⟩:=Nq (Lib.compareInt p.n a.n);rw[e]at b⊢;go_wp2;go_ret;exact⟨by rw[b.u];rfl,u_ (f _ _)⟩
theorem qb5 (b o m c:Nat)(p d:Vx)(w:Tw)(q:2<=m)(l:Cel w b o p)(n:Cel w b (o+3) d):Gv 268 #[.slice (some ⟨b,o,none⟩) m c] w (vv (kaj (decide (kdt p d<0)))):=by
 refine opS fun r s k x e=>?_;obtain⟨y,z,A,C⟩:=kdh q;have j:=h_ (ab l n);go_enter func268,ntmps268;go_wp2_with fail;refine keF e.u fun a=>?_;have hC:=j.u;refine tkA 0 a ?_;refine tkA 1 a ?_;refine tkA 2 a ?_;refine tkA 3 a ?_;refine tkA 4 a ?_;refine tkA 5 a ?_;refine khr 6 9 e.u.drew (q0f p d _) fun t g=>?_;replace a:=g.B;refine tkA 7 a ?_;refine keK 8 9 11 g (keG r k.u) ?_;intro v f h;obtain⟨D,E,F⟩:=kag f;have i:=h_ h;clear hC f h a;go_wp2
 all_goals exact bQ ⟨rfl,i⟩
theorem q0l (b o m c:Nat)(p d:Vx)(w:Tw)(q:2<=m)(l:Cel w b o p)(n:Cel w b (o+3) d):Gv 269 #[.slice (some ⟨b,o,none⟩) m c] w (vv (kaj (decide (kdt p d<=0)))):=by
 refine opS fun r s k x e=>?_;obtain⟨y,z,A,C⟩:=kdh q;have j:=h_ (ab l n);go_enter func269,ntmps269;go_wp2_with fail;refine keF e.u fun a=>?_;have hC:=j.u;refine tkA 0 a ?_;refine tkA 1 a ?_;refine tkA 2 a ?_;refine tkA 3 a ?_;refine tkA 4 a ?_;refine tkA 5 a ?_;refine khr 6 9 e.u.drew (q0f p d _) fun t g=>?_;replace a:=g.B;refine tkA 7 a ?_;refine keK 8 9 11 g (keG r k.u) ?_;intro v f h;obtain⟨D,E,F⟩:=kag f;have i:=h_ h;clear hC f h a;go_wp2
 all_goals exact bQ ⟨rfl,i⟩
def kf3 (w:Tw):Prop:=∃z,2<w.heap.size/\w.cell? ⟨2,0,none⟩=some (.int .i64 z)
theorem kf3.mono {w w':Tw}(c:kf3 w)(b:Bw w w'):kf3 w':=by
 obtain⟨e,a,d⟩:=c;exact⟨e,Yn a b.size,(b.cell (p:=⟨2,0,none⟩) a).trans d⟩
theorem q59 (b o m c:Nat)(p f:Vx)(w:Tw)(x:2<=m)(I:p.s.size<=1000)(t:kf3 w)(q:Cel w b o p)(r:Cel w b (o+3) f):Gv 279 #[.slice (some ⟨b,o,none⟩) m c] w (vv (kaj (Lib.contains p.s.data.toList f.s.data.toList))):=by
 refine opS fun z n l D e=>?_;obtain⟨E,F,G,H⟩:=kdh x;have j:=h_ (ab q r);obtain⟨y,-,v⟩:=t.mono e.u.drew.B;have k:=h_ v;go_enter func279,ntmps279;go_wp2_with fail;refine keF e.u fun a=>?_;have hC:=j.u;refine tkA 0 a ?_;refine tkA 1 a ?_;refine tkA 2 a ?_;refine tkA 3 a ?_;refine tkA 4 a ?_;refine tkA 5 a ?_;refine tkA 6 a ?_;refine tkA 7 a ?_;refine khr 8 11 e.u.drew ((Tryz.strings_Contains p.s f.s y n.drew (by omega) k).mono fun h i ⟨g,d⟩=>⟨g,by rw[d];exact bR _ _⟩) fun A h=>?_;replace a:=h.B;refine keK 9 10 12 h (keG z l.u) ?_;intro C g d;obtain⟨J,K,L⟩:=kag g;have i:=h_ d;clear hC g d a;go_wp2
 all_goals exact bQ ⟨rfl,i⟩
theorem qql (x:Int):(if decide (0<=x) then -(x.natAbs:Int) else (x.natAbs:Int)) = -x:=by
 by_cases a:0<=x
 . rw[Yr (Ye a)];omega
 . rw[Yl (by simpa using a)];omega
theorem q45 (b o m c:Nat)(p:Vx)(w:Tw)(x:1<=m)(s:-9223372036854775808<=p.n/\p.n<=9223372036854775807)(r:Cel w b o p):Gv 254 #[.slice (some ⟨b,o,none⟩) m c] w (vv (kbn (-p.n))):=by
 refine opS fun E h l v g=>?_;have y:(0:Int)<m:=by omega
 have z:0<m:=by omega
 have k:=h_ fun j (d:Bw w j)=>(r.mono d).2;have f:=h_ s;go_enter func254,ntmps254;go_wp2_with fail;refine keF g.u fun a=>?_;have hC:=k.u;refine tkA 0 a ?_;refine tkA 1 a ?_;refine tkA 2 a ?_;refine tkA 3 a ?_;refine tkA 5 a ?_;refine tkA 6 a ?_;refine tkA 7 a ?_;refine tkA 8 a ?_;refine tkA 9 a ?_;refine khr 4 7 g.u.drew ((q40 p.n _ f).mono fun q i ⟨e,d⟩=>⟨e,by rw[d];exact bR _ _⟩) fun t i=>?_;replace a:=i.B;refine keK 10 11 13 i (F:=307) (args:=#[.int .u64 (p.n.natAbs:Int),.bool (decide (0<=p.n))]) (fun h=>(q1x p.n.natAbs (decide (0<=p.n)) h (by have:=f.u;omega)).mono fun q j ⟨e,d⟩=>⟨by rw[e,qql,l.u];rfl,d⟩) ?_;intro q e d;obtain⟨A,C,D⟩:=kag e;have j:=h_ d;clear hC e d a;go_wp2
 all_goals exact bQ ⟨rfl,j⟩
theorem q3g (b o m c:Nat)(p d:Vx)(w:Tw)(x:2<=m)(y:p.s.size<=1000/\d.s.size<=1000)(q:Cel w b o p)(r:Cel w b (o+3) d):Gv 263 #[.slice (some ⟨b,o,none⟩) m c] w (vv (if 1000<p.s.size+d.s.size then kax 4 else kbU (p.s++d.s))):=by
 refine opS fun l z f B e=>?_;obtain⟨C,D,E,F⟩:=kdh x;have h:=h_ (ab q r);obtain⟨G,H⟩:=y;have I:IntKind.i64.wrap ((p.s.size:Int)+(d.s.size:Int))=(p.s.size:Int)+(d.s.size:Int):=(IntWalk.i64_left _).trans (q6w (by omega) (by omega));by_cases k:1000<p.s.size+d.s.size
 . have t:(1000:Int)<(p.s.size:Int)+(d.s.size:Int):=by omega
   have g:=f.u;rw[Yr k]at g;replace f:=h_ g;go_enter func263,ntmps263;go_wp2_with fail;refine keF e.u fun a=>?_;have hC:=h.u;refine tkA 0 a ?_;refine tkA 1 a ?_;refine tkA 2 a ?_;refine tkA 3 a ?_;refine tkA 4 a ?_;refine tkA 5 a ?_;refine tkA 6 a ?_;refine tkA 7 a ?_;refine tkA 8 a ?_;refine tkA 9 a ?_;refine tkA 10 a ?_;refine tkA 11 a ?_;refine wdQ ?_;replace e:=h_ e.u.drew;go_wp2_with fail;refine(kih l f.u _).mono ?_;exact exS e
 . have t:¬ (1000:Int)<(p.s.size:Int)+(d.s.size:Int):=by omega
   have g:=f.u;rw[Yl k]at g;replace f:=h_ g;go_enter func263,ntmps263;go_wp2_with fail;refine keF e.u fun a=>?_;have hC:=h.u;refine tkA 0 a ?_;refine tkA 1 a ?_;refine tkA 2 a ?_;refine tkA 3 a ?_;refine tkA 4 a ?_;refine tkA 5 a ?_;refine tkA 6 a ?_;refine tkA 7 a ?_;refine tkA 8 a ?_;refine tkA 9 a ?_;refine tkA 10 a ?_;refine tkA 11 a ?_;refine wdQ ?_;replace e:=h_ e.u.drew;go_wp2_with fail;refine keF e.u fun a=>?_;have hC:=h.u;refine tkA 0 a ?_;refine tkA 1 a ?_;refine tkA 2 a ?_;refine tkA 3 a ?_;refine tkA 4 a ?_;refine tkA 5 a ?_;refine tkA 6 a ?_;refine tkA 7 a ?_;refine tkA (v:=.string (p.s++d.s)) 8 a ?_ (hy:=fun w i=>by simp[execOp,go_sem];omega);refine keK 9 10 25 e.u.drew (kh5 l f.u) ?_;intro A i j;obtain⟨J,K,L⟩:=kag i;have n:=h_ j;clear hC i j a;go_wp2
   all_goals exact bQ ⟨rfl,n⟩
theorem qle {x y:Int}(hy:y≠0):(if (decide (x<0) != decide (y<0)) then -((x.natAbs / y.natAbs:Nat):Int) else ((x.natAbs / y.natAbs:Nat):Int))=x.tdiv y:=by
 have d:∀a b:Nat,b≠0->(Int.tdiv (a:Int) b=((a / b:Nat):Int)):=fun a b _=>(Int.ofNat_tdiv a b).symm;obtain⟨a,h⟩:=Nq x.natAbs;obtain⟨b,i⟩:=Nq y.natAbs;have c:b≠0:=by omega
 rw[h,i];have j:a=0->a / b=0:=fun e=>by rw[e];exact Nat.zero_div _
 rcases Int.natAbs_eq x with f | f <;> rcases Int.natAbs_eq y with g | g <;> rw[h]at f <;> rw[i]at g <;> rw[f,g]
 . rw[d a b c,Yd (by omega),Yd (by omega)];rfl
 . rw[Int.tdiv_neg,d a b c,Yd (by omega),Ye (by omega)];rfl
 . rw[Int.neg_tdiv,d a b c]
   by_cases e:a=0
   . rw[j e];simp
   . rw[Ye (by omega),Yd (by omega)];rfl
 . rw[Int.tdiv_neg,Int.neg_tdiv,d a b c,Int.neg_neg]
   by_cases e:a=0
   . rw[j e];simp
   . rw[Ye (by omega),Ye (by omega)];rfl
theorem q05 (b o m c:Nat)(p a:Vx)(w:Tw)(M:2<=m)(d:-9223372036854775808<=p.n/\p.n<=9223372036854775807)(e:-9223372036854775808<=a.n/\a.n<=9223372036854775807)(A:Cel w b o p)(s:Cel w b (o+3) a):Gv 259 #[.slice (some ⟨b,o,none⟩) m c] w (vv (if a.n=0 then kax 3 else kbL (p.n.tmod a.n))):=by
 obtain⟨L,H,c1,c2⟩:=A;obtain⟨-,I,d1,d2⟩:=s;obtain⟨G,t⟩:=oB d e;clear d e;have N:(0:Int)<m:=by omega
 have O:(1:Int)<m:=by omega
 obtain⟨k,e⟩:=Nq (w.alloc (.cells Jf 55));have d:Bw w k:=by rw[<- e];exact(Below.refl _ _).alloc (nR _) _
 have bR:=nK e;obtain⟨h,i⟩:=oB d bR;clear d bR;have q:=h_ e;clear e;by_cases l:a.n=0
 . rw[Yr l]
   have B:(a.n==0)=true:=beq_iff_eq.2 l;clear l;go_enter func259,ntmps259;go_wp2_with fail;go_region;go_wp2_with fail
   try rw[q.u]
   clear q;obtain⟨j,f⟩:=Nq k.drew;have g:Bw k j:=by rw[<- f];exact(Below.refl _ _).drew
   rw[f];clear f;have h:=mT h g;have i:=mB i g;clear g;refine cQ (q57 3 j) fun F d=>?_;have e:=mB i d;have r:=mT h d;clear d;obtain⟨C,D,E⟩:=kag e;have x:=e.free 0;have y:=e.free 1;have z:=e.free 2;unfold vv kax;go_wp2;exact bQ (v:=.agg #[J6 4,J6 3,J8]) ⟨rfl,kap r _ _ _⟩
 . rw[Yl l]
   have B:(a.n==0)=false:=Yc.2 l;have P:wrap64 (p.n.tmod a.n)=p.n.tmod a.n:=by
    have s:(p.n.tmod a.n).natAbs=p.n.natAbs % a.n.natAbs:=Int.natAbs_tmod p.n a.n;have J:=t.u;have K:p.n.natAbs % a.n.natAbs<a.n.natAbs:=Om _ (by omega);exact q6w (by omega) (by omega)
   go_enter func259,ntmps259;go_wp2_with fail;go_region;go_wp2_with fail
   try rw[q.u]
   clear q;obtain⟨j,f⟩:=Nq k.drew;have g:Bw k j:=by rw[<- f];exact(Below.refl _ _).drew
   rw[f];clear f;have h:=mT h g;have i:=mB i g;clear g;refine cQ (q5e (p.n.tmod a.n) j) fun F d=>?_;have e:=mB i d;have r:=mT h d;clear d;obtain⟨C,D,E⟩:=kag e;have x:=e.free 0;have y:=e.free 1;have z:=e.free 2;go_wp2;exact bQ (v:=.agg (J4 (p.n.tmod a.n))) ⟨rfl,kap r _ _ _⟩
theorem kh4 {x:Nat}(a:x<18446744073709551616):IntKind.u64.wrap (x:Int)=(x:Int):=by
 simp only[IntKind.wrap,IntKind.bits,IntKind.signed];simp;omega
theorem qi4 {x y:Nat}(a:x / y<18446744073709551616):IntKind.u64.wrap ((x:Int) / (y:Int))=((x / y:Nat):Int):=by
 rw[<- Int.natCast_ediv];exact kh4 a
theorem q27 (b o m c:Nat)(p a:Vx)(w:Tw)(Q:2<=m)(d:-9223372036854775808<=p.n/\p.n<=9223372036854775807)(e:-9223372036854775808<=a.n/\a.n<=9223372036854775807)(F:Cel w b o p)(G:Cel w b (o+3) a):Gv 258 #[.slice (some ⟨b,o,none⟩) m c] w (vv (if a.n=0 then kax 3 else kbn (p.n.tdiv a.n))):=by
 obtain⟨P,N,c1,c2⟩:=F;obtain⟨-,O,d1,d2⟩:=G;obtain⟨y,A⟩:=oB d e;clear d e;have R:(0:Int)<m:=by omega
 have S:(1:Int)<m:=by omega
 obtain⟨q,e⟩:=Nq (w.alloc (.cells Jf 55));have d:Bw w q:=by rw[<- e];exact(Below.refl _ _).alloc (nR _) _
 have bR:=nK e;obtain⟨i,j⟩:=oB d bR;clear d bR;have r:=h_ e;clear e;by_cases l:a.n=0
 . rw[Yr l]
   have I:(a.n==0)=true:=beq_iff_eq.2 l;clear l;go_enter func258,ntmps258;go_wp2_with fail;go_region;go_wp2_with fail
   try rw[r.u]
   clear r;obtain⟨f,g⟩:=Nq q.drew;have h:Bw q f:=by rw[<- g];exact(Below.refl _ _).drew
   rw[g];clear g;have i:=mT i h;have j:=mB j h;clear h;refine cQ (q57 3 f) fun M d=>?_;have e:=mB j d;have t:=mT i d;clear d;obtain⟨J,K,L⟩:=kag e;have C:=e.free 0;have D:=e.free 1;have E:=e.free 2;unfold vv kax;go_wp2;exact bQ (v:=.agg #[J6 4,J6 3,J8]) ⟨rfl,kap t _ _ _⟩
 . rw[Yl l]
   have I:(a.n==0)=false:=Yc.2 l;have T:((a.n.natAbs:Int)==0)=false:=Yc.2 (by omega);have B:=h_ (qle (x:=p.n) l);have H:p.n.natAbs / a.n.natAbs<=p.n.natAbs:=Ou _ _;have z:p.n.natAbs / a.n.natAbs<18446744073709551616:=by have:=y.u;omega
   have u:=h_ z;clear H z;go_enter func258,ntmps258;go_wp2_with fail;go_region;go_wp2_with fail
   try rw[r.u]
   clear r;obtain⟨f,g⟩:=Nq q.drew;have h:Bw q f:=by rw[<- g];exact(Below.refl _ _).drew
   rw[g];clear g;have i:=mT i h;have j:=mB j h;clear h;refine cQ (q40 p.n f y) fun h g=>?_;rw[g];clear g h;go_wp2_with fail;refine cQ (q40 a.n f A) fun h g=>?_;rw[g];clear g h;go_wp2_with fail;rw[qi4 u.u];refine(q1x (p.n.natAbs / a.n.natAbs) (decide (p.n<0) != decide (a.n<0)) f u).mono ?_;rw[B.u];rintro r M ⟨rfl,d⟩;have e:=mB j d;have t:=mT i d;clear d;obtain⟨J,K,L⟩:=kag e;have C:=e.free 0;have D:=e.free 1;have E:=e.free 2;obtain⟨g,d⟩:=Nq (kbn (p.n.tdiv a.n));have h:=h_ d;rw[d];clear d;unfold vv;go_wp2;exact bQ (v:=.agg (Jc g.k g.n g.s)) ⟨by rw[h.u];rfl,kap t _ _ _⟩
theorem qqj (x y:Int):(if (decide (x<0) != decide (y<0)) then -((x.natAbs*y.natAbs:Nat):Int) else ((x.natAbs*y.natAbs:Nat):Int))=x*y:=by
 have c:((x*y).natAbs:Int)=((x.natAbs*y.natAbs:Nat):Int):=by rw[Int.natAbs_mul]
 rw[<- c];by_cases b:x<0
 . by_cases a:y<0
   . have:0<=x*y:=Int.le_of_lt (Int.mul_pos_of_neg_of_neg b a)
     simp[b,a];omega
   . have:x*y<=0:=Int.mul_nonpos_of_nonpos_of_nonneg (by omega) (by omega)
     simp[b,a];omega
 . by_cases a:y<0
   . have:x*y<=0:=Int.mul_nonpos_of_nonneg_of_nonpos (by omega) (by omega)
     simp[b,a];omega
   . have:0<=x*y:=Int.mul_nonneg (by omega) (by omega)
     simp[b,a];omega
theorem qqk {x y:Int}(a:18446744073709551616<=x.natAbs*y.natAbs):kbn (x*y)=kax 2:=by
 unfold kbn kby;rw[Yl];have b:(x*y).natAbs=x.natAbs*y.natAbs:=Int.natAbs_mul x y;simp only[Yk];omega
theorem q11 (b o m c:Nat)(p a:Vx)(w:Tw)(U:2<=m)(e:-9223372036854775808<=p.n/\p.n<=9223372036854775807)(f:-9223372036854775808<=a.n/\a.n<=9223372036854775807)(J:Cel w b o p)(y:Cel w b (o+3) a):Gv 257 #[.slice (some ⟨b,o,none⟩) m c] w (vv (kbn (p.n*a.n))):=by
 obtain⟨h,d⟩:=Nq (kbn (p.n*a.n));rw[d];have x:=h_ d;clear d;obtain⟨T,P,c1,c2⟩:=J;obtain⟨-,Q,d1,d2⟩:=y;have d:p.n.natAbs<18446744073709551616:=by omega
 have g:a.n.natAbs<18446744073709551616:=by omega
 obtain⟨C,E,D,F⟩:=oD e f d g;clear e f d g;have V:(0:Int)<m:=by omega
 have W:(1:Int)<m:=by omega
 obtain⟨q,e⟩:=Nq (w.alloc (.cells Jf 55));have d:Bw w q:=by rw[<- e];exact(Below.refl _ _).alloc (nR _) _
 have bR:=nK e;obtain⟨i,j⟩:=oB d bR;clear d bR;have f:=h_ e;clear e;go_enter func257,ntmps257;go_wp2_with fail;go_region;go_wp2_with fail
 try rw[f.u]
 clear f;obtain⟨f,e⟩:=Nq q.drew;have g:Bw q f:=by rw[<- e];exact(Below.refl _ _).drew
 rw[e];clear e;have i:=mT i g;have j:=mB j g;clear g;refine cQ (q40 p.n f C) fun g e=>?_;rw[e];clear e g;go_wp2_with fail;refine cQ (q40 a.n f E) fun g e=>?_;rw[e];clear e g;go_wp2_with fail;refine cQ (Tryz.bits_Mul64 p.n.natAbs a.n.natAbs D F f) fun g e=>?_;rw[e];clear e g;obtain⟨r,e⟩:=Nq (p.n.natAbs*a.n.natAbs / 18446744073709551616);obtain⟨g,l⟩:=Nq (p.n.natAbs*a.n.natAbs % 18446744073709551616);rw[e,l];obtain⟨t,u⟩:=oB e l;clear e l;by_cases A:r=0
 . have K:((r:Int)==0)=true:=beq_iff_eq.2 (by omega)
   have e:g<18446744073709551616:=by have:=u.u;omega
   have l:g=p.n.natAbs*a.n.natAbs:=by have y:=u.u;have S:=t.u;omega
   have B:Hi (kbn (if (decide (p.n<0) != decide (a.n<0)) then -(g:Int) else (g:Int))=h):=h_ (by rw[l,qqj];exact x);have z:=h_ e;clear A e l;go_wp2_with fail;refine(q1x g (decide (p.n<0) != decide (a.n<0)) f z).mono ?_;rw[B.u];rintro R O ⟨rfl,d⟩;have e:=mB j d;have l:=mT i d;clear d;obtain⟨L,M,N⟩:=kag e;have G:=e.free 0;have H:=e.free 1;have I:=e.free 2;unfold vv;go_wp2;exact bQ (v:=.agg (Jc h.k h.n h.s)) ⟨rfl,kap l _ _ _⟩
 . have K:((r:Int)==0)=false:=Yc.2 (by omega)
   have z:h=kax 2:=by rw[<- x.u];exact qqk (by have:=t.u;omega)
   have B:=h_ z;clear A z;go_wp2_with fail;refine cQ (q57 2 f) fun O d=>?_;have e:=mB j d;have l:=mT i d;clear d;obtain⟨L,M,N⟩:=kag e;have G:=e.free 0;have H:=e.free 1;have I:=e.free 2;unfold vv kax;go_wp2;exact bQ (v:=.agg #[J6 4,J6 2,J8]) ⟨by rw[B.u];rfl,kap l _ _ _⟩
theorem kfw:∀a b:List UInt8,(decide (Lib.compareBytes a b<0)=tl a b)/\(decide (Lib.compareBytes a b<=0) = !tl b a)
 | [],[]=>by decide
 | [],y :: ys=>by simp[Lib.compareBytes,tl]
 | x :: xs,[]=>by simp[Lib.compareBytes,tl]
 | x :: xs,y :: ys=>by
  obtain⟨f,g⟩:=kfw xs ys;have d:x<y ↔ x.toNat<y.toNat:=UInt8.lt_iff_toNat_lt;have e:y<x ↔ y.toNat<x.toNat:=UInt8.lt_iff_toNat_lt;unfold Lib.compareBytes tl;by_cases a:x=y
  . subst a
    have:¬ x<x:=(by rw[d];omega);simp only[this,if_false,ne_eq,not_true];exact⟨f,g⟩
  . have i:x.toNat≠y.toNat:=fun b=>a (UInt8.toNat_inj.1 b)
    by_cases b:x<y
    . have c:=d.1 b
      simp[b,a,Ne.symm a,c,show ¬ y.toNat<x.toNat by omega]
    . have c:y<x:=by rw[e];rw[d]at b;omega
      have h:=e.1 c;simp[b,c,a,Ne.symm a,h,show ¬ x.toNat<y.toNat by omega]
theorem qcg (a:Tb)(i j:Nat):(a.extract i j).data.toList=(a.data.toList.drop i).take (j - i):=by
 simp[ByteArray.data_extract,Array.toList_extract,List.extract_eq_take_drop]
theorem qqo (s t:Tb)(i:Nat):Lib.occAt s.data.toList t.data.toList i=true ↔ s.extract i (i+t.size)=t:=by
 unfold Lib.occAt;rw[List.isPrefixOf_iff_prefix,List.prefix_iff_eq_take];have c:t.data.toList.length=t.size:=rfl;have b:(s.extract i (i+t.size)).data.toList=(s.data.toList.drop i).take t.size:=by rw[qcg,Nat.add_sub_cancel_left]
 rw[c,<- b];constructor
 . intro a
   exact(ByteArray.ext (Array.toList_inj.1 a)).symm
 . intro a
   rw[a]
theorem q4y (s t:Tb):Lib.contains s.data.toList t.data.toList=kaR s t 0:=by
 unfold Lib.contains;have g:s.data.toList.length=s.size:=rfl;have i:t.data.toList.length=t.size:=rfl;rcases Lib.index_spec s.data.toList t.data.toList with ⟨b,d⟩ | ⟨a,b,d,h,-⟩
 . rw[b]
   have:kaR s t 0=false:=by
    unfold kaR;rw[Vp];intro a j;simp only[Yh,Yk];rintro⟨-,e,c⟩;have f:=d a (by rw[g];omega);rw[(qqo s t a).2 c]at f;cases f
   rw[this];rfl
 . have f:=Lib.index_room s.data.toList t.data.toList (by rw[b];omega)
   rw[b,g,i]at f;have e:a+t.size<=s.size:=by omega
   have c:=(qqo s t a).1 h;have:kaR s t 0=true:=by
    unfold kaR;rw[Z8];exact⟨a,Yu.2 (by omega),by simp only[Yh,Yk];exact⟨nZ _,e,c⟩⟩
   rw[this,b];exact Ye (by omega)
theorem qi7 {x y:Int}(b:-9223372036854775808<=x/\x<=9223372036854775807)(c:-9223372036854775808<=y/\y<=9223372036854775807) :
 (if (decide (x<=wrap64 (x+y))==decide (0<=y)) then kbL (wrap64 (x+y)) else kax 2)=kbn (x+y):=by
 unfold kbn kby;by_cases a:-9223372036854775808<=x+y/\x+y<=9223372036854775807
 . rw[q6w a.1 a.2,Yr (by rw[beq_iff_eq];exact decide_eq_decide.2 (by omega)),Yr (Ye a)]
 . rw[Yl (by rw[beq_iff_eq,decide_eq_decide];unfold wrap64;omega),Yl (by simpa using a)]
theorem qm7 {x y:Int}(b:-9223372036854775808<=x/\x<=9223372036854775807)(c:-9223372036854775808<=y/\y<=9223372036854775807) :
 (if (decide (wrap64 (x - y)<=x)==decide (0<=y)) then kbL (wrap64 (x - y)) else kax 2)=kbn (x - y):=by
 unfold kbn kby;by_cases a:-9223372036854775808<=x - y/\x - y<=9223372036854775807
 . rw[q6w a.1 a.2,Yr (by rw[beq_iff_eq];exact decide_eq_decide.2 (by omega)),Yr (Ye a)]
 . rw[Yl (by rw[beq_iff_eq,decide_eq_decide];unfold wrap64;omega),Yl (by simpa using a)]
theorem q70 (b o m c:Nat)(p a:Vx)(w:Tw)(I:2<=m)(d:-9223372036854775808<=p.n/\p.n<=9223372036854775807)(e:-9223372036854775808<=a.n/\a.n<=9223372036854775807)(z:Cel w b o p)(A:Cel w b (o+3) a):Gv 260 #[.slice (some ⟨b,o,none⟩) m c] w (vv (kbn (p.n+a.n))):=by
 obtain⟨H,B,c1,c2⟩:=z;obtain⟨-,C,d1,d2⟩:=A;obtain⟨u,x⟩:=oB d e;clear d e;have J:(0:Int)<m:=by omega
 have K:(1:Int)<m:=by omega
 obtain⟨h,e⟩:=Nq (w.alloc (.cells Jf 55));have d:Bw w h:=by rw[<- e];exact(Below.refl _ _).alloc (nR _) _
 have bR:=nK e;obtain⟨f,g⟩:=oB d bR;clear d bR;have i:=h_ e;clear e;go_enter func260,ntmps260;go_wp2_with fail;go_region;go_wp2_with fail
 try rw[i.u]
 clear i;obtain⟨j,l⟩:=Nq h.drew;have q:Bw h j:=by rw[<- l];exact(Below.refl _ _).drew
 rw[l];have f:=mT f q;have g:=mB g q;refine(q29 (wrap64 (p.n+a.n)) (decide (p.n<=wrap64 (p.n+a.n))==decide (0<=a.n)) j).mono ?_;rw[show(if (decide (p.n<=wrap64 (p.n+a.n))==decide (0<=a.n)) then kbL (wrap64 (p.n+a.n)) else kax 2)=kbn (p.n+a.n) from qi7 u.u x.u];rintro D O ⟨rfl,d⟩;have e:=mB g d;have t:=mT f d;obtain⟨L,M,N⟩:=kag e;have E:=e.free 0;have F:=e.free 1;have G:=e.free 2;obtain⟨i,r⟩:=Nq (kbn (p.n+a.n));have y:=h_ r;rw[r];unfold vv;go_wp2;exact bQ (v:=.agg (Jc i.k i.n i.s)) ⟨by rw[y.u];rfl,kap t _ _ _⟩
theorem q13 (b o m c:Nat)(p a:Vx)(w:Tw)(I:2<=m)(d:-9223372036854775808<=p.n/\p.n<=9223372036854775807)(e:-9223372036854775808<=a.n/\a.n<=9223372036854775807)(z:Cel w b o p)(A:Cel w b (o+3) a):Gv 261 #[.slice (some ⟨b,o,none⟩) m c] w (vv (kbn (p.n - a.n))):=by
 obtain⟨H,B,c1,c2⟩:=z;obtain⟨-,C,d1,d2⟩:=A;obtain⟨u,x⟩:=oB d e;clear d e;have J:(0:Int)<m:=by omega
 have K:(1:Int)<m:=by omega
 obtain⟨h,e⟩:=Nq (w.alloc (.cells Jf 55));have d:Bw w h:=by rw[<- e];exact(Below.refl _ _).alloc (nR _) _
 have bR:=nK e;obtain⟨f,g⟩:=oB d bR;clear d bR;have i:=h_ e;clear e;go_enter func261,ntmps261;go_wp2_with fail;go_region;go_wp2_with fail
 try rw[i.u]
 clear i;obtain⟨j,l⟩:=Nq h.drew;have q:Bw h j:=by rw[<- l];exact(Below.refl _ _).drew
 rw[l];have f:=mT f q;have g:=mB g q;refine(q29 (wrap64 (p.n - a.n)) (decide (wrap64 (p.n - a.n)<=p.n)==decide (0<=a.n)) j).mono ?_;rw[show(if (decide (wrap64 (p.n - a.n)<=p.n)==decide (0<=a.n)) then kbL (wrap64 (p.n - a.n)) else kax 2)=kbn (p.n - a.n) from qm7 u.u x.u];rintro D O ⟨rfl,d⟩;have e:=mB g d;have t:=mT f d;obtain⟨L,M,N⟩:=kag e;have E:=e.free 0;have F:=e.free 1;have G:=e.free 2;obtain⟨i,r⟩:=Nq (kbn (p.n - a.n));have y:=h_ r;rw[r];unfold vv;go_wp2;exact bQ (v:=.agg (Jc i.k i.n i.s)) ⟨by rw[y.u];rfl,kap t _ _ _⟩
def kdE (f:Nat->Vx)(m:Nat)(kind r:Int):Prop :=
 (∃k:Nat,k<m/\r=k/\(f k).k=kind/\∀j,j<k->¬ (f j).k=kind)∨(r = -1/\∀j,j<m->¬ (f j).k=kind)
theorem qc1 (u:Vx)(b:Int)(X:Nat)(w:Tw)(d:X<w.heap.size)(e:w.cell? ⟨X,0,none⟩=some (J6 b)) :
 Gv 252 #[.agg (Jc u.k u.n u.s),J9 X 0] w (.bool (u.k==b)):=by
 have f:∀a,(w.alloc a).cell? ⟨X,0,none⟩=some (J6 b):=fun a=>(Below.cell ((bR w.heap.size w).alloc (nR _) a) (p:=⟨X,0,none⟩) d).trans e;have c:∀a,Hi (Bw w (w.alloc a)):=fun a=>h_ ((bR _ _).alloc (nR _) _);go_enter func252,ntmps252;go_wp2;go_ret;exact⟨rfl,u_ (c _)⟩
theorem q3e (a:To)(m c X:Nat)(f:Nat->Vx)(d:Int)(w:Tw)(J:m<=1048576)(B:kaF w a m f)(z:X<w.heap.size)(D:w.cell? ⟨X,0,none⟩=some (J6 d)) :
 Calls prog 251 #[.slice a m c,.func (.func 252) #[] #[J9 X 0]] w fun l e=>∃b,l=.returned (J6 b)/\kdE f m d b/\Bw w e:=by
 obtain⟨u,j⟩:=oB B (And.intro z D);go_enter func251,ntmps251;go_wp2;go_loopw [5,8] (fun _ g wr=>∃b:Nat,b<=m/\g=J6 b/\(∀e,e<b->¬ (f e).k=d)/\Bw w wr) (fun _ g _=>m - (intOf g).toNat)
 case atStart=>exact⟨0,nZ _,rfl,fun e s=>absurd s (nL _),bR _ _⟩
 case round =>
  obtain⟨b,H,rfl,C,g⟩:=hrel;obtain⟨i,o⟩:=oB C g;have y:=u.mono g;have A:X<wr.heap.size:=Yn j.1 g.size;have E:wr.cell? ⟨X,0,none⟩=some (J6 d):=(g.cell (p:=⟨X,0,none⟩) j.1).trans j.2;obtain⟨x,r⟩:=oB y (And.intro A E);by_cases t:b<m
  . have I:(b:Int)<m:=by omega
    obtain⟨F,K,rfl,-,G,c1,c2⟩:=x b t;go_wp2_with fail;refine cQ (qc1 (f b) d X wr r.1 r.2) fun L g=>?_;have q:=mT o g;by_cases h:(f b).k=d
    . have n:((f b).k==d)=true:=beq_iff_eq.2 h
      rw[n];have k:Hi (kdE f m d b):=h_ (.inl ⟨b,t,rfl,h,i⟩);go_wp2;go_ret;exact⟨_,rfl,k,q⟩
    . have n:((f b).k==d)=false:=Yc.2 h
      rw[n];have v:Hi (∀e,e<b+1->¬ (f e).k=d):=h_ fun e s=>by
       by_cases l:e=b
       . rw[l];exact h
       . exact i e (by omega)
      go_wp2;go_roundw
      case rel=>exact⟨b+1,by omega,by go_num,v,q⟩
      case measure=>simp[intOf];omega
  . obtain rfl:b=m:=by omega
    have k:Hi (kdE f b d (-1)):=h_ (.inr ⟨rfl,i⟩);go_wp2;go_ret;exact⟨_,rfl,k,o⟩
theorem q1a (a:To)(m c:Nat)(f:Nat->Vx)(d:Int)(w:Tw)(r:m<=1048576)(q:kaF w a m f) :
 Calls prog 208 #[.slice a m c,J6 d] w fun h b=>∃e,h=.returned (J6 e)/\kdE f m d e/\Bw w b:=by
 obtain⟨o,i⟩:=Nq (w.alloc (.cells #[J6 d] 3));have b:=nB i;have p:=nK i;obtain⟨n,g,j⟩:=oC (q.mono b) p b;go_enter func208,ntmps208;go_wp2_with fail;refine(q3e a m c w.heap.size f d o r n g.lt (g.cell 0)).mono ?_;rintro h t ⟨e,rfl,s,b⟩;have l:=h_ s;have k:=mT j b;go_wp2;go_ret;exact⟨e,rfl,l,k⟩
theorem q34 (a:To)(m c:Nat)(f:Nat->Vx)(e:Int)(w:Tw)(B:m<=1048576)(r:kaF w a m f) :
 Gv 306 #[.slice a m c,J6 e] w (.bool (kay f m e)):=by
 have o:=h_ r;go_enter func306,ntmps306;go_wp2;go_loopw [9] (fun g wr=>∃b:Nat,b<=m/\g=J6 b/\(∀d,d<b->(f d).k=e)/\kaF wr a m f/\Bw w wr) (fun g _=>m - (intOf g).toNat)
 case atStart=>exact⟨0,nZ _,rfl,fun d l=>absurd l (nL _),o,bR _ _⟩
 case round =>
  obtain⟨b,z,rfl,s,v,t⟩:=hrel;obtain⟨i,k,h⟩:=oC s v t;by_cases n:b<m
  . have A:(b:Int)<m:=by omega
    obtain⟨x,C,rfl,-,y,c1,c2⟩:=k b n;have p:∀g,Hi (Bw wr (wr.alloc g)):=fun g=>h_ ((bR _ _).alloc (nR _) _);have j:∀g,Hi (Bw w (wr.alloc g)):=fun g=>h_ (h.alloc h.size g);by_cases g:(f b).k=e
    . have q:Hi (∀d,d<b+1->(f d).k=e):=h_ fun d l=>by
       by_cases l:d=b
       . rw[l];exact g
       . exact i d (by omega)
      have l:((f b).k==e)=true:=beq_iff_eq.2 g;go_wp2;go_roundw
      case rel=>exact⟨b+1,by omega,by go_num,q,k.mono (u_ (p _)),u_ (j _)⟩
      case measure=>simp[intOf];omega
    . have d:=h_ (qn3 n g)
      have l:((f b).k==e)=false:=Yc.2 g;go_wp2;go_ret;exact⟨by rw[d.u];rfl,u_ (j _)⟩
  . obtain rfl:b=m:=by omega
    have d:=h_ (qia i);go_wp2;go_ret;exact⟨by rw[d.u];rfl,h⟩
theorem q73 (a:To)(m c:Nat)(f:Nat->Vx)(w:Tw)(h:m<=1048576)(e:kaF w a m f) :
 Gv 253 #[.slice a m c] w (.bool (kay f m 1)):=by
 have b:=h_ e;go_enter func253,ntmps253;go_wp2_with fail;refine cQ (q34 a m c f 1 w h b) fun i g=>?_;have d:=h_ g;go_wp2;go_ret;exact⟨rfl,d⟩
theorem q4o (a:To)(m c:Nat)(f:Nat->Vx)(w:Tw)(h:m<=1048576)(e:kaF w a m f) :
 Gv 255 #[.slice a m c] w (.bool (kay f m 2)):=by
 have b:=h_ e;go_enter func255,ntmps255;go_wp2_with fail;refine cQ (q34 a m c f 2 w h b) fun i g=>?_;have d:=h_ g;go_wp2;go_ret;exact⟨rfl,d⟩
theorem q4q (a:To)(m c:Nat)(f:Nat->Vx)(w:Tw)(h:m<=1048576)(e:kaF w a m f) :
 Gv 262 #[.slice a m c] w (.bool (kay f m 3)):=by
 have b:=h_ e;go_enter func262,ntmps262;go_wp2_with fail;refine cQ (q34 a m c f 3 w h b) fun i g=>?_;have d:=h_ g;go_wp2;go_ret;exact⟨rfl,d⟩
theorem q4n (a:To)(m c:Nat)(f:Nat->Vx)(w:Tw)(e:m<=1048576)(p:kaF w a m f) :
 Gv 264 #[.slice a m c] w (.bool (kay f m 1||kay f m 2||kay f m 3)):=by
 have h:=h_ p;go_enter func264,ntmps264;go_wp2_with fail;refine cQ (q73 a m c f w e h) fun q b=>?_;obtain⟨k,i⟩:=oB b (h.mono b);cases d:kay f m 1 with
 | true =>
  go_wp2;go_ret;exact⟨by simp[d],k⟩
 | false =>
  go_wp2_with fail;refine cQ (q4o a m c f q e i) fun r b=>?_;have l:=mT k b;have j:=h_ (i.mono b);cases g:kay f m 2 with
  | true =>
   go_wp2;go_ret;exact⟨by simp[d,g],l⟩
  | false =>
   go_wp2_with fail;refine cQ (q4q a m c f r e j) fun t b=>?_;have n:=mT l b;have s:=h_ (j.mono b);cases o:kay f m 3 with
   | true =>
    go_wp2;go_ret;exact⟨by simp[d,g,o],n⟩
   | false =>
    go_wp2;go_ret;exact⟨by simp[d,g,o],n⟩
theorem q0c (a:To)(m c:Nat)(f:Nat->Vx)(w:Tw)(j:m<=1048576)(l:kaF w a m f) :
 Gv 267 #[.slice a m c] w (.bool (kay f m 1||kay f m 3)):=by
 have e:=h_ l;go_enter func267,ntmps267;go_wp2_with fail;refine cQ (q73 a m c f w j e) fun n b=>?_;obtain⟨h,g⟩:=oB b (e.mono b);cases d:kay f m 1 with
 | true =>
  go_wp2;go_ret;exact⟨by simp[d],h⟩
 | false =>
  go_wp2_with fail;refine cQ (q4q a m c f n j g) fun p b=>?_;have i:=mT h b;have o:=h_ (g.mono b);cases k:kay f m 3 with
  | true =>
   go_wp2;go_ret;exact⟨by simp[d,k],i⟩
  | false =>
   go_wp2;go_ret;exact⟨by simp[d,k],i⟩
def kdg (f:Nat->Vx):Nat->Bool
 | 0=>true
 | m+1=>kdg f m&&((f m).k==2||(f m).k==0)
theorem qdp {f:Nat->Vx}{m:Nat}:kdg f m=true ↔ ∀a,a<m->((f a).k=2∨(f a).k=0):=by
 induction m with
 | zero=>exact⟨fun _ a c=>absurd c (nL _),fun _=>rfl⟩
 | succ m g =>
  rw[kdg,Yh,g,Ze,beq_iff_eq,beq_iff_eq];constructor
  . rintro⟨b,e⟩ a c
    by_cases d:a=m
    . rw[d];exact e
    . exact b a (by omega)
  . exact fun b=>⟨fun a c=>b a (by omega),b m (by omega)⟩
theorem q01 (a:To)(m c:Nat)(f:Nat->Vx)(w:Tw)(D:m<=1048576)(s:kaF w a m f) :
 Gv 270 #[.slice a m c] w (.bool (kdg f m)):=by
 have r:=h_ s;go_enter func270,ntmps270;go_wp2;go_loopw [7] (fun e wr=>∃b:Nat,b<=m/\e=J6 b/\(∀d,d<b->((f d).k=2∨(f d).k=0))/\kaF wr a m f/\Bw w wr) (fun e _=>m - (intOf e).toNat)
 case atStart=>exact⟨0,nZ _,rfl,fun d g=>absurd g (nL _),r,bR _ _⟩
 case round =>
  obtain⟨b,B,rfl,t,y,v⟩:=hrel;obtain⟨l,j,h⟩:=oC t y v;by_cases p:b<m
  . have C:(b:Int)<m:=by omega
    obtain⟨z,E,rfl,-,A,c1,c2⟩:=j b p;have n:∀e,Hi (Bw wr (wr.alloc e)):=fun e=>h_ ((bR _ _).alloc (nR _) _);have i:∀e,Hi (Bw w (wr.alloc e)):=fun e=>h_ (h.alloc h.size e);by_cases e:(f b).k=2∨(f b).k=0
    . have o:Hi (∀d,d<b+1->((f d).k=2∨(f d).k=0)):=h_ fun d g=>by
       by_cases g:d=b
       . rw[g];exact e
       . exact l d (by omega)
      rcases e with e | e
      . have d:((f b).k==2)=true:=beq_iff_eq.2 e
        have q:((f b).k != 2)=false:=(by rw[bne,d];rfl);go_wp2;go_roundw
        case rel=>exact⟨b+1,by omega,by go_num,o,j.mono (u_ (n _)),u_ (i _)⟩
        case measure=>simp[intOf];omega
      . have d:((f b).k==2)=false:=by rw[e];rfl
        have q:((f b).k != 2)=true:=(by rw[bne,d];rfl);have k:((f b).k==0)=true:=beq_iff_eq.2 e;have x:((f b).k != 0)=false:=(by rw[bne,k];rfl);go_wp2;go_roundw
        case rel=>exact⟨b+1,by omega,by go_num,o,j.mono (u_ (n _)),u_ (i _)⟩
        case measure=>simp[intOf];omega
    . have o:Hi (kdg f m=false):=h_ (by
       cases g:kdg f m with
       | false=>rfl
       | true=>exact absurd (qdp.1 g b p) e)
      have d:((f b).k==2)=false:=Yc.2 (fun g=>e (.inl g));have q:((f b).k != 2)=true:=(by rw[bne,d];rfl);have k:((f b).k==0)=false:=Yc.2 (fun g=>e (.inr g));have x:((f b).k != 0)=true:=(by rw[bne,k];rfl);go_wp2;go_ret;exact⟨by rw[o.u];rfl,u_ (i _)⟩
  . obtain rfl:b=m:=by omega
    have d:=h_ (qdp.2 l);go_wp2;go_ret;exact⟨by rw[d.u];rfl,h⟩
def opT:Tl:=[.nilFunc,.nilFunc,.nilFunc,.nilFunc,.func (.func 253) #[] #[],.func (.func 254) #[] #[],.func (.func 255) #[] #[],.func (.func 256) #[] #[],.func (.func 253) #[] #[],.func (.func 257) #[] #[],.func (.func 253) #[] #[],.func (.func 258) #[] #[],.func (.func 253) #[] #[],.func (.func 259) #[] #[],.func (.func 253) #[] #[],.func (.func 260) #[] #[],.func (.func 253) #[] #[],.func (.func 261) #[] #[],.func (.func 262) #[] #[],.func (.func 263) #[] #[],.func (.func 264) #[] #[],.func (.func 265) #[] #[],.func (.func 264) #[] #[],.func (.func 266) #[] #[],.func (.func 267) #[] #[],.func (.func 268) #[] #[],.func (.func 267) #[] #[],.func (.func 269) #[] #[],.func (.func 270) #[] #[],.func (.func 271) #[] #[],.func (.func 270) #[] #[],.func (.func 272) #[] #[],.func (.func 273) #[] #[],.func (.func 274) #[] #[],.func (.func 253) #[] #[],.func (.func 275) #[] #[],.func (.func 253) #[] #[],.func (.func 276) #[] #[],.func (.func 277) #[] #[],.func (.func 278) #[] #[],.func (.func 262) #[] #[],.func (.func 279) #[] #[],.func (.func 262) #[] #[],.func (.func 280) #[] #[],.func (.func 262) #[] #[],.func (.func 281) #[] #[],.func (.func 264) #[] #[],.func (.func 282) #[] #[],.func (.func 277) #[] #[],.func (.func 283) #[] #[],.func (.func 277) #[] #[],.func (.func 284) #[] #[]]
def kif:Tl:=List.replicate 52 .nilFunc
theorem qkr:(prog.info? 290).map (·.size)=some opT.toArray.size:=by kernel_rfl
theorem qqt:opT.toArray.all (·.oneCell')=true:=by kernel_rfl
section
variable {ops:Array Oper} {rest:List Oper} {o:Oper} {a:Act} {w:Tw} {Q:Exit->Act->Tw->Prop}
theorem q15 (f:o.guard=none)(x y:Operand)(h:o.op=.store 290 x y)(b:Nat)(i:a.eval x=J9 b 0)(hy:a.eval y=.agg opT.toArray)(d:Blk w b 290 kif)
 (e:∀c,Blk c b 290 opT->w.grownBy c (some b)->c.heap.size=w.heap.size->wpList prog ops Q rest (a.put o.dst undef) c):wpList prog ops Q (o :: rest) a w :=
 wpList_plain f fun _ c=>wp_store_row 290 x y h b opT.toArray i hy _ _ d qkr (by rfl) qqt
  (c _ _ (e _ (setRow_heap w b _ _ _ _ d) ⟨rfl,rfl,rfl,by simp,fun c _ g=>setRow_other w b c _ (fun c=>g (by rw[c]))⟩ (by simp)))
theorem q1z (d e:Nat)(i:o.guard=none)(x y:Operand)(l:o.op=.store 261 x y)(b:Nat)(g:Tl)(k:g.length=2)(m:a.eval x=J9 b 0)(hy:a.eval y=.agg #[.func (.func d) #[] #[],.func (.func e) #[] #[]])(f:Blk w b 261 g)
 (h:∀c,Blk c b 261 [.func (.func d) #[] #[],.func (.func e) #[] #[]]->w.grownBy c (some b)->c.heap.size=w.heap.size->wpList prog ops Q rest (a.put o.dst undef) c):wpList prog ops Q (o :: rest) a w :=
 wpList_plain i fun _ c=>wp_store_row 261 x y l b #[.func (.func d) #[] #[],.func (.func e) #[] #[]] m hy _ _ f (by kernel_rfl) (by simpa using k) (by simp[Value.oneCell'])
  (c _ _ (h _ (setRow_heap w b _ _ _ _ f) ⟨rfl,rfl,rfl,by simp,fun c _ j=>setRow_other w b c _ (fun c=>j (by rw[c]))⟩ (by simp)))
end
theorem q2x (n c d:Nat)(y:n<=25)(r:opT[n*2]? = some (.func (.func c) #[] #[])/\opT[n*2+1]? = some (.func (.func d) #[] #[]))(w:Tw):Gv 210 #[J6 n] w (.agg #[.func (.func c) #[] #[],.func (.func d) #[] #[]]):=by
 have g:=h_ r;obtain⟨f,q⟩:=Nq (w.heap.size+1);go_enter func210,ntmps210;go_wp2_with (refine q15 rfl _ _ rfl f rfl rfl ?hb ?_)
 case hb =>
  rw[<- q];have b:=Blk.new (w.alloc (.cells #[.nilFunc,.nilFunc] 261)) 290 kif.toArray;rw[Yp]at b;exact b
 intro e i k A;have s:Blk e w.heap.size 261 [.nilFunc,.nilFunc]:=Blk.grown ((Blk.new w 261 #[.nilFunc,.nilFunc]).alloc _) k (fun b=>by have:=Z3 b;omega);have u:Bw w e:=(((bR _ w).alloc (nR _) _).alloc (by simp) _).grown k (by simp;omega) (fun v b=>by have:=Z3 b;omega);have x:e.cell? ⟨f,n*2,none⟩=some (.func (.func c) #[] #[]):=(i.cell (n*2)).trans g.1;have c1:e.cell? ⟨f,n*2+1,none⟩=some (.func (.func d) #[] #[]):=(i.cell (n*2+1)).trans g.2;have z:(n:Int)<26:=by omega
 obtain⟨h,p⟩:=oB u s;go_wp2_with (refine q1z c d rfl _ _ rfl w.heap.size [.nilFunc,.nilFunc] rfl rfl rfl p ?_);intro l j t B;have C:l.cell? ⟨w.heap.size,0,none⟩=some (.func (.func c) #[] #[]):=j.cell 0;have D:l.cell? ⟨w.heap.size,1,none⟩=some (.func (.func d) #[] #[]):=j.cell 1;have m:=h_ (h.grown t h.size (fun v b=>by have:=Z3 b;omega));go_wp2;exact bQ ⟨rfl,m⟩
theorem Blk.val {W:Tw}{b:Nat}(c:Blk W b 55 Jl):(W.cell? ⟨b,0,none⟩=some (J6 0)/\W.cell? ⟨b,1,none⟩=some (J6 0)/\W.cell? ⟨b,2,none⟩=some J8)/\(W.frozen? ⟨b,0,none⟩=false/\W.frozen? ⟨b,1,none⟩=false/\W.frozen? ⟨b,2,none⟩=false):=⟨kag c,c.free 0,c.free 1,c.free 2⟩
def kaC (op:Int)(m:Nat)(f:Nat->Vx)(A:Bool)(R:Vx):Vx :=
 match (if mE op then none else kbq f m) with
 | some u=>u
 | none=>if !mBk op&&kd4 f m then kak else if A then R else kax 1
theorem qm3 {c:Int}{m k:Nat}{f:Nat->Vx}{A:Bool}{R:Vx}(e:mE c=false)(g:k<m)(d:∀b,b<k->¬ (f b).k=4)(b:(f k).k=4):kaC c m f A R=f k:=by
 unfold kaC;rw[e,Yl (by decide),q7r g d b]
theorem qs7 {b:Int}{m:Nat}{f:Nat->Vx}{A:Bool}{R:Vx}(d:mE b=false->∀c,c<m->¬ (f c).k=4):kaC b m f A R=if !mBk b&&kd4 f m then kak else if A then R else kax 1:=by
 unfold kaC;cases c:mE b
 . rw[Yl (by decide),q7q (d c)]
 . rw[Yr rfl]
def Ent (k:FuncId):Prop:=∀(args:Ta) (w:Tw),(callFunc k args).run prog w=.ok (.enter k args) w
section
variable {ops:Array Oper} {rest:List Oper} {o:Oper} {a:Act} {w:Tw} {Q:Exit->Act->Tw->Prop}
end
theorem q92 (n h i:Nat)(a:To)(m c:Nat)(f:Nat->Vx)(A:Bool)(R:Vx)(w:Tw)(ai:m<=1048576)(hv:kaF w a m f)(ao:2<=n/\n<=25)
 (M:opT[n*2]? = some (.func (.func h) #[] #[])/\opT[n*2+1]? = some (.func (.func i) #[] #[])) (W:Ent h) (X:Ent i)
 (am:∀u,Bw w u->Gv h #[.slice a m c] u (.bool A))
 (an:(mE n=false->∀k,k<m->¬ (f k).k=4)->(mBk n=false->∀k,k<m->¬ (f k).k=0)->A=true->∀u,Bw w u->Gv i #[.slice a m c] u (vv R)) :
 Gv 174 (Jn n a m c) w (vv (kaC n m f A R)):=by
 obtain⟨D,hu⟩:=Nq (kaC n m f A R);rw[hu];have z:=h_ hu;obtain⟨u,hW⟩:=Nq (w.alloc (.cells Jf 55));have b:Bw w u:=by rw[<- hW];exact(Below.refl _ _).alloc (nR _) _
 have bR:=nK hW;obtain⟨d,e,HW,ag,g,af⟩:=oF b bR hW ao (hv.mono b) M;obtain⟨aa,ac,ad,ae⟩:=oD am an W X;go_enter func174,ntmps174;go_wp2_with fail;refine cQ (q1q n u) fun Z S=>?_;rw[S];cases M:mE n
 . have al:=h_ M
   go_wp2_with fail;refine(q1a a m c f 4 u ai g).mono ?_;rintro B Z ⟨ap,rfl,hr,b⟩;replace e:=mB e b;replace d:=mT d b;replace g:=h_ (g.mono b);rcases hr with ⟨y,Y,rfl,he,ah⟩ | ⟨rfl,ah⟩
   . have p:Hi (D=f y):=h_ (z.symm.trans (qm3 al Y ah he))
     have q:(y:Int)<m:=(by omega);obtain⟨j,o,rfl,-,l,c1,c2⟩:=g y Y;obtain⟨⟨H,I,J⟩,E,F,G⟩:=e.val
     skip
     go_wp2;exact bQ (v:=.agg (Jc (f y).k (f y).n (f y).s)) ⟨by rw[p.u];rfl,kap d _ _ _⟩
   . have t:Hi (mE n=false->∀k,k<m->¬ (f k).k=4):=h_ (fun _=>ah)
     go_wp2_with fail;refine cQ (q1p n Z) fun w3 S=>?_;rw[S];cases K:mBk n
     . have x:=h_ K
       go_wp2_with fail;refine(q1a a m c f 0 Z ai g).mono ?_;rintro B w3 ⟨ap,rfl,hr,b⟩;replace e:=mB e b;replace d:=mT d b;replace g:=h_ (g.mono b);rcases hr with ⟨y,Y,rfl,he,-⟩ | ⟨rfl,aj⟩
       . have p:Hi (D=kak):=h_ (by rw[<- z.u,qs7 t.u,x.u,qib Y he];rfl)
         go_wp2_with fail;refine cQ (q21 w3) fun j b=>?_;replace e:=mB e b;replace d:=mT d b;replace g:=h_ (g.mono b);obtain⟨⟨H,I,J⟩,E,F,G⟩:=e.val
         skip
         go_wp2;exact bQ (v:=.agg Jf) ⟨by rw[p.u];rfl,kap d _ _ _⟩
       . have L:Hi (mBk n=false->∀k,k<m->¬ (f k).k=0):=h_ (fun _=>aj)
         have C:=h_ (qn8 aj);go_wp2_with fail;refine cQ (q2x n h i ag.2 af w3) fun w5 b=>?_;replace e:=mB e b;replace d:=mT d b;replace g:=h_ (g.mono b);go_wp2_with (refine q1z h i rfl _ _ rfl w5.heap.size [.nilFunc,.nilFunc] rfl rfl rfl (Blk.new w5 261 #[.nilFunc,.nilFunc]) ?_);intro q N P ak;have O:Bw w5 (w5.alloc (.cells #[.nilFunc,.nilFunc] 261)):=(Below.refl _ _).alloc (nR _) _;have b:Bw w5 q:=O.grown P (by simp) (fun y B=>by have:=Z3 B;omega);have j:=h_ N;replace e:=mB e b;replace d:=mT d b;replace g:=h_ (g.mono b);obtain⟨T,U⟩:q.cell? ⟨w5.heap.size,0,none⟩=some (.func (.func h) #[] #[])/\q.cell? ⟨w5.heap.size,1,none⟩=some (.func (.func i) #[] #[]):=⟨j.cell 0,j.cell 1⟩;have W:∀(l:Ta) (w:Tw),(callFunc h l).run prog w=.ok (.enter h l) w:=ad.u;go_wp2_with fail;refine cQ (aa q d) fun r b=>?_;replace j:=mB j b;replace e:=mB e b;replace d:=mT d b;replace g:=h_ (g.mono b);obtain⟨T,U⟩:r.cell? ⟨w5.heap.size,0,none⟩=some (.func (.func h) #[] #[])/\r.cell? ⟨w5.heap.size,1,none⟩=some (.func (.func i) #[] #[]):=⟨j.cell 0,j.cell 1⟩;cases A
         . have p:Hi (D=kax 1):=h_ (by rw[<- z.u,qs7 t.u,x.u,C.u];rfl)
           go_wp2_with fail;refine cQ (q57 1 r) fun V b=>?_;replace e:=mB e b;replace d:=mT d b;replace g:=h_ (g.mono b);obtain⟨⟨H,I,J⟩,E,F,G⟩:=e.val;unfold vv kax;go_wp2;exact bQ (v:=.agg #[J6 4,J6 1,J8]) ⟨by rw[p.u];rfl,kap d _ _ _⟩
         . have p:Hi (D=R):=h_ (by rw[<- z.u,qs7 t.u,x.u,C.u];rfl)
           have X:∀(l:Ta) (w:Tw),(callFunc i l).run prog w=.ok (.enter i l) w:=ae.u;go_wp2_with fail;refine cQ (ac t L (by trivial) r d) fun V b=>?_;replace e:=mB e b;replace d:=mT d b;replace g:=h_ (g.mono b);obtain⟨⟨H,I,J⟩,E,F,G⟩:=e.val;unfold vv;go_wp2;exact bQ (v:=.agg (Jc R.k R.n R.s)) ⟨by rw[p.u];rfl,kap d _ _ _⟩
     . have x:=h_ K
       have L:Hi (mBk n=false->∀k,k<m->¬ (f k).k=0):=h_ (fun C=>by rw[K]at C;cases C);go_wp2_with fail;refine cQ (q2x n h i ag.2 af Z) fun w5 b=>?_;replace e:=mB e b;replace d:=mT d b;replace g:=h_ (g.mono b);go_wp2_with (refine q1z h i rfl _ _ rfl w5.heap.size [.nilFunc,.nilFunc] rfl rfl rfl (Blk.new w5 261 #[.nilFunc,.nilFunc]) ?_);intro q N P ak;have O:Bw w5 (w5.alloc (.cells #[.nilFunc,.nilFunc] 261)):=(Below.refl _ _).alloc (nR _) _;have b:Bw w5 q:=O.grown P (by simp) (fun y B=>by have:=Z3 B;omega);have j:=h_ N;replace e:=mB e b;replace d:=mT d b;replace g:=h_ (g.mono b);obtain⟨T,U⟩:q.cell? ⟨w5.heap.size,0,none⟩=some (.func (.func h) #[] #[])/\q.cell? ⟨w5.heap.size,1,none⟩=some (.func (.func i) #[] #[]):=⟨j.cell 0,j.cell 1⟩;have W:∀(l:Ta) (w:Tw),(callFunc h l).run prog w=.ok (.enter h l) w:=ad.u;go_wp2_with fail;refine cQ (aa q d) fun r b=>?_;replace j:=mB j b;replace e:=mB e b;replace d:=mT d b;replace g:=h_ (g.mono b);obtain⟨T,U⟩:r.cell? ⟨w5.heap.size,0,none⟩=some (.func (.func h) #[] #[])/\r.cell? ⟨w5.heap.size,1,none⟩=some (.func (.func i) #[] #[]):=⟨j.cell 0,j.cell 1⟩;cases A
       . have p:Hi (D=kax 1):=h_ (by rw[<- z.u,qs7 t.u,x.u];rfl)
         go_wp2_with fail;refine cQ (q57 1 r) fun V b=>?_;replace e:=mB e b;replace d:=mT d b;replace g:=h_ (g.mono b);obtain⟨⟨H,I,J⟩,E,F,G⟩:=e.val;unfold vv kax;go_wp2;exact bQ (v:=.agg #[J6 4,J6 1,J8]) ⟨by rw[p.u];rfl,kap d _ _ _⟩
       . have p:Hi (D=R):=h_ (by rw[<- z.u,qs7 t.u,x.u];rfl)
         have X:∀(l:Ta) (w:Tw),(callFunc i l).run prog w=.ok (.enter i l) w:=ae.u;go_wp2_with fail;refine cQ (ac t L (by trivial) r d) fun V b=>?_;replace e:=mB e b;replace d:=mT d b;replace g:=h_ (g.mono b);obtain⟨⟨H,I,J⟩,E,F,G⟩:=e.val;unfold vv;go_wp2;exact bQ (v:=.agg (Jc R.k R.n R.s)) ⟨by rw[p.u];rfl,kap d _ _ _⟩
 . have K:mBk n=true:=by unfold mBk;rw[M];rfl
   have t:Hi (mE n=false->∀k,k<m->¬ (f k).k=4):=h_ (fun C=>by rw[M]at C;cases C);have L:Hi (mBk n=false->∀k,k<m->¬ (f k).k=0):=h_ (fun C=>by rw[K]at C;cases C);have x:=h_ K;go_wp2_with fail;refine(q1p n u).mono ?_;rw[x.u];rintro B w3 ⟨rfl,S⟩;rw[S];go_wp2_with fail;refine cQ (q2x n h i ag.2 af u) fun w5 b=>?_;replace e:=mB e b;replace d:=mT d b;replace g:=h_ (g.mono b);go_wp2_with (refine q1z h i rfl _ _ rfl w5.heap.size [.nilFunc,.nilFunc] rfl rfl rfl (Blk.new w5 261 #[.nilFunc,.nilFunc]) ?_);intro q N P ak;have O:Bw w5 (w5.alloc (.cells #[.nilFunc,.nilFunc] 261)):=(Below.refl _ _).alloc (nR _) _;have b:Bw w5 q:=O.grown P (by simp) (fun y B=>by have:=Z3 B;omega);have j:=h_ N;replace e:=mB e b;replace d:=mT d b;replace g:=h_ (g.mono b);obtain⟨T,U⟩:q.cell? ⟨w5.heap.size,0,none⟩=some (.func (.func h) #[] #[])/\q.cell? ⟨w5.heap.size,1,none⟩=some (.func (.func i) #[] #[]):=⟨j.cell 0,j.cell 1⟩;have W:∀(l:Ta) (w:Tw),(callFunc h l).run prog w=.ok (.enter h l) w:=ad.u;go_wp2_with fail;refine cQ (aa q d) fun r b=>?_;replace j:=mB j b;replace e:=mB e b;replace d:=mT d b;replace g:=h_ (g.mono b);obtain⟨T,U⟩:r.cell? ⟨w5.heap.size,0,none⟩=some (.func (.func h) #[] #[])/\r.cell? ⟨w5.heap.size,1,none⟩=some (.func (.func i) #[] #[]):=⟨j.cell 0,j.cell 1⟩;cases A
   . have p:Hi (D=kax 1):=h_ (by rw[<- z.u,qs7 t.u,x.u];rfl)
     go_wp2_with fail;refine cQ (q57 1 r) fun V b=>?_;replace e:=mB e b;replace d:=mT d b;replace g:=h_ (g.mono b);obtain⟨⟨H,I,J⟩,E,F,G⟩:=e.val;unfold vv kax;go_wp2;exact bQ (v:=.agg #[J6 4,J6 1,J8]) ⟨by rw[p.u];rfl,kap d _ _ _⟩
   . have p:Hi (D=R):=h_ (by rw[<- z.u,qs7 t.u,x.u];rfl)
     have X:∀(l:Ta) (w:Tw),(callFunc i l).run prog w=.ok (.enter i l) w:=ae.u;go_wp2_with fail;refine cQ (ac t L (by trivial) r d) fun V b=>?_;replace e:=mB e b;replace d:=mT d b;replace g:=h_ (g.mono b);obtain⟨⟨H,I,J⟩,E,F,G⟩:=e.val;unfold vv;go_wp2;exact bQ (v:=.agg (Jc R.k R.n R.s)) ⟨by rw[p.u];rfl,kap d _ _ _⟩
theorem q6u (b o m c:Nat)(p:Vx)(w:Tw)(z:1<=m)(l:Cel w b o p):Gv 256 #[.slice (some ⟨b,o,none⟩) m c] w (vv (kaj (p.n==0))):=by
 obtain⟨y,r,c1,c2⟩:=l;have A:(0:Int)<m:=by omega
 obtain⟨e,d⟩:=Nq (w.alloc (.cells Jf 55));have a:Bw w e:=by rw[<- d];exact(Below.refl _ _).alloc (nR _) _
 have bR:=nK d;obtain⟨g,i⟩:=oB a bR;clear a bR;have j:=h_ d;clear d;go_enter func256,ntmps256;go_wp2_with fail
 try rw[j.u]
 refine cQ (q37 (p.n==0) e) fun E a=>?_;have d:=mB i a;have h:=mT g a;obtain⟨B,C,D⟩:=kag d;have s:=d.free 0;have t:=d.free 1;have x:=d.free 2;obtain⟨q,f⟩:=Nq ((if (p.n==0) then (1:Int) else 0));have k:=h_ f;rw[f];go_wp2;exact bQ (v:=.agg #[J6 2,J6 q,J8]) ⟨by rw[<- k.u];rfl,kap h _ _ _⟩
theorem q7w (b o m c:Nat)(p:Vx)(w:Tw)(z:1<=m)(n:Cel w b o p):Gv 283 #[.slice (some ⟨b,o,none⟩) m c] w (vv (kaj (p.k==0))):=by
 obtain⟨y,r,c1,c2⟩:=n;have A:(0:Int)<m:=by omega
 obtain⟨e,d⟩:=Nq (w.alloc (.cells Jf 55));have a:Bw w e:=by rw[<- d];exact(Below.refl _ _).alloc (nR _) _
 have bR:=nK d;obtain⟨g,i⟩:=oB a bR;clear a bR;have j:=h_ d;clear d;go_enter func283,ntmps283;go_wp2_with fail
 try rw[j.u]
 refine cQ (q37 (p.k==0) e) fun E a=>?_;have d:=mB i a;have h:=mT g a;obtain⟨B,C,D⟩:=kag d;have s:=d.free 0;have t:=d.free 1;have x:=d.free 2;obtain⟨q,f⟩:=Nq ((if (p.k==0) then (1:Int) else 0));have l:=h_ f;rw[f];go_wp2;exact bQ (v:=.agg #[J6 2,J6 q,J8]) ⟨by rw[<- l.u];rfl,kap h _ _ _⟩
theorem q7y (b o m c:Nat)(p:Vx)(w:Tw)(z:1<=m)(n:Cel w b o p):Gv 284 #[.slice (some ⟨b,o,none⟩) m c] w (vv (kaj (p.k==4))):=by
 obtain⟨y,r,c1,c2⟩:=n;have A:(0:Int)<m:=by omega
 obtain⟨e,d⟩:=Nq (w.alloc (.cells Jf 55));have a:Bw w e:=by rw[<- d];exact(Below.refl _ _).alloc (nR _) _
 have bR:=nK d;obtain⟨g,i⟩:=oB a bR;clear a bR;have j:=h_ d;clear d;go_enter func284,ntmps284;go_wp2_with fail
 try rw[j.u]
 refine cQ (q37 (p.k==4) e) fun E a=>?_;have d:=mB i a;have h:=mT g a;obtain⟨B,C,D⟩:=kag d;have s:=d.free 0;have t:=d.free 1;have x:=d.free 2;obtain⟨q,f⟩:=Nq ((if (p.k==4) then (1:Int) else 0));have l:=h_ f;rw[f];go_wp2;exact bQ (v:=.agg #[J6 2,J6 q,J8]) ⟨by rw[<- l.u];rfl,kap h _ _ _⟩
theorem q24 (b o m c:Nat)(p:Vx)(w:Tw)(r:1<=m)(g:p.s.size<=9223372036854775807)(j:Cel w b o p):Gv 280 #[.slice (some ⟨b,o,none⟩) m c] w (vv (kbL (p.s.size:Int))):=by
 obtain⟨q,l,c1,c2⟩:=j;have t:(0:Int)<m:=by omega
 obtain⟨f,d⟩:=Nq (w.alloc (.cells Jf 55));have a:Bw w f:=by rw[<- d];exact(Below.refl _ _).alloc (nR _) _
 have bR:=nK d;obtain⟨h,i⟩:=oB a bR;clear a bR;have e:=h_ d;clear d;have x:wrap64 (p.s.size:Int)=(p.s.size:Int):=q6w (by omega) (by omega);have k:=h_ g;clear g;go_enter func280,ntmps280;go_wp2_with fail
 try rw[e.u]
 clear e;refine cQ (q5e (p.s.size:Int) f) fun B a=>?_;have d:=mB i a;have e:=mT h a;clear a;obtain⟨y,z,A⟩:=kag d;have a:=d.free 0;have g:=d.free 1;have n:=d.free 2;go_wp2;exact bQ (v:=.agg (J4 (p.s.size:Int))) ⟨rfl,kap e _ _ _⟩
theorem q02 (b o m c:Nat)(p d:Vx)(w:Tw)(l:2<=m)(f:Cel w b o p)(g:Cel w b (o+3) d):Gv 278 #[.slice (some ⟨b,o,none⟩) m c] w (vv (if p.k==0 then d else p)):=by
 obtain⟨j,h,c1,c2⟩:=f;obtain⟨-,i,d1,d2⟩:=g;have n:(0:Int)<m:=by omega
 have q:(1:Int)<m:=by omega
 have a:Hi (∀e,Bw w (w.alloc e)):=h_ fun e=>(Below.refl _ _).alloc (nR _) _;cases e:p.k==0
 . go_enter func278,ntmps278
   go_wp2;exact bodyPost_ret (v:=vv p) (by simp[results,vv,results278,go_sem, *]) rfl ⟨by simp,by first | exact a _ | exact kap (a _) _ _ _⟩
 . go_enter func278,ntmps278
   go_wp2;exact bodyPost_ret (v:=vv d) (by simp[results,vv,results278,go_sem, *]) rfl ⟨by simp,by first | exact a _ | exact kap (a _) _ _ _⟩
theorem q1u (b o m c:Nat)(p e:Vx)(w:Tw)(C:2<=m)(x:p=kaj true)(r:Cel w b o p)(s:Cel w b (o+3) e):Gv 274 #[.slice (some ⟨b,o,none⟩) m c] w (vv e):=by
 subst x;obtain⟨t,q,c1,c2⟩:=r;obtain⟨-,h,d1,d2⟩:=s;simp only[kaj]at q c1 c2;have D:(0:Int)<m:=by omega
 have E:(1:Int)<m:=by omega
 obtain⟨g,d⟩:=Nq (w.alloc (.cells Jf 55));have a:Bw w g:=by rw[<- d];exact(Below.refl _ _).alloc (nR _) _
 have bR:=nK d;obtain⟨i,l⟩:=oB a bR;clear a bR;have n:=h_ d;clear d;have j:Hi (Cel w b (o+3) e):=h_ ⟨t,h,d1,d2⟩;go_enter func274,ntmps274;go_wp2_with fail
 try rw[n.u]
 refine cQ (q37 true g) fun I a=>?_;have d:=mB l a;have f:=mT i a;have k:=h_ (j.mono f);obtain⟨B,h,d1,d2⟩:=k.u;obtain⟨F,G,H⟩:=kag d;have y:=d.free 0;have z:=d.free 1;have A:=d.free 2;go_wp2;exact bodyPost_ret (v:=vv e) (by simp[results,vv,results274,go_sem, *]) rfl ⟨rfl,kap f _ _ _⟩
theorem q12 (b o m c:Nat)(p r:Vx)(w:Tw)(C:3<=m)(t:p=kaj false)(n:Cel w b o p)(q:Cel w b (o+6) r):Gv 274 #[.slice (some ⟨b,o,none⟩) m c] w (vv r):=by
 subst t;obtain⟨s,l,c1,c2⟩:=n;obtain⟨-,i,d1,d2⟩:=q;simp only[kaj]at l c1 c2;have D:(0:Int)<m:=by omega
 have E:(2:Int)<m:=by omega
 have j:Hi (Cel w b (o+6) r):=h_ ⟨s,i,d1,d2⟩;obtain⟨h,d⟩:=Nq (w.alloc (.cells Jf 55));have a:Bw w h:=by rw[<- d];exact(Below.refl _ _).alloc (nR _) _
 have bR:=nK d;obtain⟨e,f⟩:=oB a bR;clear a bR;have g:=h_ d;clear d;go_enter func274,ntmps274;go_wp2_with fail
 try rw[g.u]
 clear g;refine cQ (q37 true h) fun x a=>?_;have f:=mB f a;have e:=mT e a;go_wp2_with fail;refine cQ (q37 false x) fun I a=>?_;have d:=mB f a;have g:=mT e a;have k:=h_ (j.mono g);obtain⟨B,i,d1,d2⟩:=k.u;obtain⟨F,G,H⟩:=kag d;have y:=d.free 0;have z:=d.free 1;have A:=d.free 2;go_wp2;exact bodyPost_ret (v:=vv r) (by simp[results,vv,results274,go_sem, *]) rfl ⟨rfl,kap g _ _ _⟩
theorem q1t (b o m c:Nat)(p:Vx)(w:Tw)(B:1<=m)(r:p.k≠2)(n:Cel w b o p):Gv 274 #[.slice (some ⟨b,o,none⟩) m c] w (vv p):=by
 obtain⟨q,i,d1,d2⟩:=n;have z:(p.k==2)=false:=Yc.2 r;have C:(0:Int)<m:=by omega
 have j:Hi (Cel w b o p):=h_ ⟨q,i,d1,d2⟩;obtain⟨h,d⟩:=Nq (w.alloc (.cells Jf 55));have a:Bw w h:=by rw[<- d];exact(Below.refl _ _).alloc (nR _) _
 have bR:=nK d;obtain⟨e,f⟩:=oB a bR;clear a bR;have g:=h_ d;clear d;go_enter func274,ntmps274;go_wp2_with fail
 try rw[g.u]
 clear g;refine cQ (q37 true h) fun s a=>?_;have f:=mB f a;have e:=mT e a;go_wp2_with fail;refine cQ (q37 false s) fun G a=>?_;have d:=mB f a;have g:=mT e a;have l:=h_ (j.mono g);obtain⟨A,i,d1,d2⟩:=l.u;obtain⟨D,E,F⟩:=kag d;have t:=d.free 0;have x:=d.free 1;have y:=d.free 2;go_wp2;exact bodyPost_ret (v:=vv p) (by simp[results,vv,results274,go_sem, *]) rfl ⟨rfl,kap g _ _ _⟩
