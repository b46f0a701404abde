import Derived.Test.YtenckgnkjkijnaaGreatDoorW03
import Derived.Test.YtenckgnkjkijnaaGreatDoorShelfQ
import Derived.Lib.AppendIntMem
set_option maxRecDepth 100000
set_option maxHeartbeats 64000000
namespace Go.Proofs.YtenckgnkjkijnaaGreatDoor
open Go Go.RowKit Go.Proofs.Tryz
theorem qrt {a b:Tb}(c:a=b):Ending.returned (.string a)=.returned (.string b):=by rw[c]
def Pow (w:Tw):Prop:=Lib.TabIs prog w "internal/strconv.uint64pow10" .u64 Lib.pow10Tab
theorem Pow.mono {w w':Tw}(a:Pow w)(b:Bw w w'):Pow w':=Lib.tabBelow_of_tabIs a w' b
theorem q7c (x:Int)(w:Tw)(b:-9223372036854775808<=x)(c:x<=9223372036854775807)(e:Pow w) :
 Gv 326 #[J6 x] w (.string ⟨(Lib.itoa x).toArray⟩):=by
 have a:=h_ (And.intro b c);go_enter func326,ntmps326;go_wp2_with fail;refine(Tryz.strconv_FormatInt_10 x a.1 a.2 _ e).mono ?_;rintro h i ⟨rfl,f,g,rfl⟩;have d:=h_ (Lib.below_grow w.heap.size w (nR _) f g);go_wp2;go_ret;exact⟨rfl,d⟩
theorem qoh:(⟨(Lib.formatBool true).toArray⟩:Tb)=⟨#[116,114,117,101]⟩:=by decide +kernel
theorem qj6:(⟨(Lib.formatBool false).toArray⟩:Tb)=⟨#[102,97,108,115,101]⟩:=by decide +kernel
def kb1 (kind num:Int)(s:Tb):Tb :=
 if kind=1 then ⟨(Lib.itoa num).toArray⟩ else if kind=2 then (if num=1 then ⟨#[116,114,117,101]⟩ else ⟨#[102,97,108,115,101]⟩) else s
theorem q47 (c a:Int)(s:Tb)(w:Tw)(j:-9223372036854775808<=a)(k:a<=9223372036854775807)(l:Pow w) :
 Gv 316 #[.agg (Jc c a s)] w (.string (kb1 c a s)):=by
 have e:=h_ (And.intro j k);have b:Hi (Bw w (w.alloc (.cells (Jc c a s) 55))):=(bR _ _).alloc (nR _) _;by_cases f:c=1
 . subst f
   go_enter func316,ntmps316;go_wp2_with fail;refine cQ (q7c a _ e.1 e.2 (l.mono b)) fun h d=>?_;replace b:=mT b d;go_wp2;go_ret;exact⟨qrt (by simp[kb1]),b⟩
 . by_cases g:c=2
   . subst g
     by_cases d:a=1
     . subst d
       go_enter func316,ntmps316;go_wp2_with fail;refine(Tryz.strconv_FormatBool true _).mono ?_;rintro i h ⟨rfl,rfl⟩;rw[qoh];go_wp2;go_ret;exact⟨qrt (by simp[kb1]),b⟩
     . have m:(a==1)=false:=by simpa using d
       go_enter func316,ntmps316;go_wp2_with fail;refine(Tryz.strconv_FormatBool false _).mono ?_;rintro i h ⟨rfl,rfl⟩;rw[qj6];go_wp2;go_ret;exact⟨qrt (by simp[kb1,d]),b⟩
   . go_enter func316,ntmps316
     go_wp2;go_ret;exact⟨qrt (by simp[kb1,f,g]),b⟩
theorem qq5 {a:Int}(b:¬ (2<=a/\a<=15)):lvl a=7:=by
 unfold lvl;rw[Yl (by omega),Yl (by omega),Yl (by omega),Yl (by omega),Yl (by omega),Yl (by omega)]
theorem q89 (a:Int)(w:Tw):Calls prog 231 #[J6 a] w fun b c=>b=.returned (J6 (lvl a))/\c=w:=by
 by_cases b:2<=a/\a<=15
 . have b:a=2∨a=3∨a=4∨a=5∨a=6∨a=7∨a=8∨a=9∨a=10∨a=11∨a=12∨a=13∨a=14∨a=15:=by omega
   rcases b with rfl | rfl | rfl | rfl | rfl | rfl | rfl | rfl | rfl | rfl | rfl | rfl | rfl | rfl
   all_goals
    go_enter func231,ntmps231;go_wp2;go_ret;exact⟨rfl,rfl⟩
 . rw[qq5 b]
   have j:(a==2)=false:=Yc.2 (by omega);have k:(a==3)=false:=Yc.2 (by omega);have l:(a==4)=false:=Yc.2 (by omega);have m:(a==5)=false:=Yc.2 (by omega);have n:(a==6)=false:=Yc.2 (by omega);have o:(a==7)=false:=Yc.2 (by omega);have p:(a==8)=false:=Yc.2 (by omega);have q:(a==9)=false:=Yc.2 (by omega);have d:(a==10)=false:=Yc.2 (by omega);have e:(a==11)=false:=Yc.2 (by omega);have f:(a==12)=false:=Yc.2 (by omega);have g:(a==13)=false:=Yc.2 (by omega);have h:(a==14)=false:=Yc.2 (by omega);have i:(a==15)=false:=Yc.2 (by omega);rcases (show a<2∨15<a by omega) with c | c
   all_goals
    go_enter func231,ntmps231;go_wp2;go_ret;exact⟨rfl,rfl⟩
theorem q8o (a:Int)(w:Tw):Calls prog 361 #[J6 a] w fun b c=>b=.returned (J6 (lvl a))/\c=w:=by
 by_cases b:2<=a/\a<=15
 . have b:a=2∨a=3∨a=4∨a=5∨a=6∨a=7∨a=8∨a=9∨a=10∨a=11∨a=12∨a=13∨a=14∨a=15:=by omega
   rcases b with rfl | rfl | rfl | rfl | rfl | rfl | rfl | rfl | rfl | rfl | rfl | rfl | rfl | rfl
   all_goals
    go_enter func361,ntmps361;go_wp2;go_ret;exact⟨rfl,rfl⟩
 . rw[qq5 b]
   have j:(a==2)=false:=Yc.2 (by omega);have k:(a==3)=false:=Yc.2 (by omega);have l:(a==4)=false:=Yc.2 (by omega);have m:(a==5)=false:=Yc.2 (by omega);have n:(a==6)=false:=Yc.2 (by omega);have o:(a==7)=false:=Yc.2 (by omega);have p:(a==8)=false:=Yc.2 (by omega);have q:(a==9)=false:=Yc.2 (by omega);have d:(a==10)=false:=Yc.2 (by omega);have e:(a==11)=false:=Yc.2 (by omega);have f:(a==12)=false:=Yc.2 (by omega);have g:(a==13)=false:=Yc.2 (by omega);have h:(a==14)=false:=Yc.2 (by omega);have i:(a==15)=false:=Yc.2 (by omega);rcases (show a<2∨15<a by omega) with c | c
   all_goals
    go_enter func361,ntmps361;go_wp2;go_ret;exact⟨rfl,rfl⟩
theorem q2o (a:Int)(w:Tw)(d:16<=a)(e:a<=25):Calls prog 233 #[J6 a] w fun b c=>b=.returned (.string (wrd a))/\c=w:=by
 have b:a=16∨a=17∨a=18∨a=19∨a=20∨a=21∨a=22∨a=23∨a=24∨a=25:=by omega
 rcases b with rfl | rfl | rfl | rfl | rfl | rfl | rfl | rfl | rfl | rfl
 all_goals
  go_enter func233,ntmps233;go_wp2;go_ret;exact⟨rfl,rfl⟩
theorem qbk (a:Int)(w:Tw)(d:4<=a)(e:a<=15):Calls prog 234 #[J6 a] w fun b c=>b=.returned (.string (wrd a))/\c=w:=by
 have b:a=4∨a=5∨a=6∨a=7∨a=8∨a=9∨a=10∨a=11∨a=12∨a=13∨a=14∨a=15:=by omega
 rcases b with rfl | rfl | rfl | rfl | rfl | rfl | rfl | rfl | rfl | rfl | rfl | rfl
 all_goals
  go_enter func234,ntmps234;go_wp2;go_ret;exact⟨rfl,rfl⟩
theorem q84 (w:Tw):Gv 149 #[] w (.agg Jf):=by
 go_enter func149,ntmps149;go_wp2;exact bQ ⟨rfl,(bR _ _).alloc (nR _) _⟩
theorem qbd (b:Bool)(w:Tw):Gv 178 #[.bool b] w (.agg #[J6 2,J6 (if b then 1 else 0),J8]):=by
 cases b
 . go_enter func178,ntmps178
   go_wp2;exact bQ ⟨rfl,(bR _ _).alloc (nR _) _⟩
 . go_enter func178,ntmps178
   go_wp2;exact bQ ⟨rfl,(bR _ _).alloc (nR _) _⟩
theorem qft (n:Int)(w:Tw):Gv 221 #[J6 n] w (.agg (J4 n)):=by
 go_enter func221,ntmps221;go_wp2;exact bQ ⟨rfl,(bR _ _).alloc (nR _) _⟩
theorem qbf (s:Tb)(w:Tw):Gv 215 #[.string s] w (.agg #[J6 3,J6 0,.string s]):=by
 go_enter func215,ntmps215;go_wp2;exact bQ ⟨rfl,(bR _ _).alloc (nR _) _⟩
theorem q21 (w:Tw):Gv 145 #[] w (.agg Jf):=by
 go_enter func145,ntmps145;go_wp2;exact bQ ⟨rfl,(bR _ _).alloc (nR _) _⟩
theorem q37 (b:Bool)(w:Tw):Gv 105 #[.bool b] w (.agg #[J6 2,J6 (if b then 1 else 0),J8]):=by
 cases b
 . go_enter func105,ntmps105
   go_wp2;exact bQ ⟨rfl,(bR _ _).alloc (nR _) _⟩
 . go_enter func105,ntmps105
   go_wp2;exact bQ ⟨rfl,(bR _ _).alloc (nR _) _⟩
theorem q5e (n:Int)(w:Tw):Gv 310 #[J6 n] w (.agg (J4 n)):=by
 go_enter func310,ntmps310;go_wp2;exact bQ ⟨rfl,(bR _ _).alloc (nR _) _⟩
theorem q4h (s:Tb)(w:Tw):Gv 303 #[.string s] w (.agg #[J6 3,J6 0,.string s]):=by
 go_enter func303,ntmps303;go_wp2;exact bQ ⟨rfl,(bR _ _).alloc (nR _) _⟩
theorem q6n (d a:Int)(s:Tb)(w:Tw)(n:s.size<=9223372036854775807)(k:-9223372036854775808<=a)(l:a<=9223372036854775807) :
 Gv 230 #[.agg (Jc d a s)] w (.string (kbm d a s)):=by
 obtain⟨e,g⟩:=oB (And.intro k l) (Blk.new w 55 (Jc d a s));have b:Hi (Bw w (w.alloc (.cells (Jc d a s) 55))):=(bR _ _).alloc (nR _) _;go_enter func230,ntmps230;go_wp2_with fail;refine cQ (q30 d a s _ n) fun x i=>?_;replace g:=mB g i;replace b:=mT b i;obtain⟨y,z,A⟩:=kag g;cases c:kah d a s
 . go_wp2
   go_ret;exact⟨qrt (by simp[kbm,c]),b⟩
 . rcases keL d with rfl | rfl | rfl | rfl | rfl | ⟨o,p,q,r,t⟩
   . go_wp2
     go_ret;exact⟨qrt (by simp[kbm,c]),b⟩
   . go_wp2_with fail
     refine cQ (q3m a _ e.1 e.2) fun v f=>?_;replace b:=mT b f;go_wp2;go_ret;exact⟨qrt (by simp[kbm,c]),b⟩
   . by_cases h:a=1
     all_goals
      go_wp2;go_ret;exact⟨qrt (by first | (subst h;simp[kbm,c];done) | (simp[kbm,c,h])),b⟩
   . have h:s.size<=1000:=by simp[kah]at c;exact(qc3.1 c.2).1
     go_wp2;go_ret;exact⟨qrt (by simp[kbm,c]),b⟩
   . go_wp2_with fail
     refine cQ (q3m a _ e.1 e.2) fun v f=>?_;replace b:=mT b f;clear f;have m:=qfi a e.1 e.2;obtain⟨h,f⟩:∃h:Tb,h=⟨(Lib.itoa a).toArray⟩:=⟨_,rfl⟩;rw[<- f]at m⊢;have j:=h_ f;clear f;go_wp2;go_ret;exact⟨qrt (by have:=j.u;simp[kbm,c,this]),b⟩
   . simp[kah,o,p,q,r,t]at c
theorem q5b (f b:Int)(s:Tb)(w:Tw)(p:s.size<=9223372036854775807)(m:-9223372036854775808<=b)(n:b<=9223372036854775807)(q:Pow w) :
 Gv 302 #[.agg (Jc f b s)] w (.string (kbm f b s)):=by
 obtain⟨d,g⟩:=oB (And.intro m n) (Blk.new w 55 (Jc f b s));have a:Hi (Bw w (w.alloc (.cells (Jc f b s) 55))):=(bR _ _).alloc (nR _) _;go_enter func302,ntmps302;go_wp2_with fail;refine cQ (q2d f b s _ p) fun z j=>?_;replace g:=mB g j;replace a:=mT a j;obtain⟨A,B,C⟩:=kag g;have h:=h_ (q.mono a);cases c:kah f b s
 . go_wp2
   go_ret;exact⟨qrt (by simp[kbm,c]),a⟩
 . rcases keL f with rfl | rfl | rfl | rfl | rfl | ⟨r,t,v,x,y⟩
   . go_wp2
     go_ret;exact⟨qrt (by simp[kbm,c]),a⟩
   . go_wp2_with fail
     refine cQ (q47 1 b s _ d.1 d.2 h) fun k e=>?_;replace a:=mT a e;go_wp2;go_ret;exact⟨qrt (by simp[kbm,kb1,c]),a⟩
   . go_wp2_with fail
     refine cQ (q47 2 b s _ d.1 d.2 h) fun k e=>?_;replace a:=mT a e;clear e;go_wp2;go_ret;exact⟨qrt (by simp[kbm,kb1,c]),a⟩
   . have i:s.size<=1000:=by simp[kah]at c;exact(qc3.1 c.2).1
     go_wp2;go_ret;exact⟨qrt (by simp[kbm,c]),a⟩
   . go_wp2_with fail
     refine cQ (q7c b _ d.1 d.2 h) fun k e=>?_;replace a:=mT a e;clear e;have o:=qfi b d.1 d.2;obtain⟨i,e⟩:∃i:Tb,i=⟨(Lib.itoa b).toArray⟩:=⟨_,rfl⟩;rw[<- e]at o⊢;have l:=h_ e;clear e;go_wp2;go_ret;exact⟨qrt (by have:=l.u;simp[kbm,c,this]),a⟩
   . simp[kah,r,t,v,x,y]at c
