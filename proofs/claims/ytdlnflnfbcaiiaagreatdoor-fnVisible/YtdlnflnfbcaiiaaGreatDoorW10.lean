import Derived.Test.YtdlnflnfbcaiiaaGreatDoorW02
import Derived.Test.YtdlnflnfbcaiiaaGreatDoorW07
import Derived.Test.YtdlnflnfbcaiiaaGreatDoorShelfQ
import Derived.Lib.AppendIntMem
set_option linter.all false
set_option maxRecDepth 100000
set_option maxHeartbeats 0
namespace Go.Proofs.YtdlnflnfbcaiiaaGreatDoor
open Value renaming string->St
open Ending renaming returned->Rt
open Bool renaming false->Ff
open Go Go.RowKit Go.Proofs.Tryz
def NC {a b}(h:a=b):Ending.returned (St a)=Rt (St b):=by rw[h]
def RC (w:Tw):Prop:=Lib.TabIs prog w "internal/strconv.uint64pow10" .u64 Lib.pow10Tab
def RC.mono {w w'}(h:RC w)(c:Bw w w'):RC w':=Lib.tabBelow_of_tabIs h w' c
def EU (x w)(D:-9223372036854775808<=x)(h1:x<=9223372036854775807)(r:RC w):Gv 310 #[Ye x] w (St ⟨(Lib.itoa x).toArray⟩):=by have M:=h_ (And.intro D h1);go_enter func310,ntmps310;go_wp2_with fail;refine(Tryz.strconv_FormatInt_10 x M.1 M.2 _ r).mono ?_;rintro e a ⟨rfl,k,P,rfl⟩;have c:=h_ (Lib.below_grow w.1.size w (nR _) k P);go_wp2;go_ret;exact⟨rfl,c⟩
def qqk:(⟨(Lib.formatBool true).toArray⟩:Tb)=⟨#[116,114,117,101]⟩:=by decide +kernel
def qjz:(⟨(Lib.formatBool Ff).toArray⟩:Tb)=⟨#[102,97,108,115,101]⟩:=by decide +kernel
def FG (kind num:Int)(s:Tb):Tb :=
 if kind=1 then ⟨(Lib.itoa num).toArray⟩ else if kind=2 then (if num=1 then ⟨#[116,114,117,101]⟩ else ⟨#[102,97,108,115,101]⟩) else s
def uU (a F s w)(D:-9223372036854775808<=F)(h1:F<=9223372036854775807)(r:RC w):Gv 300 #[.agg (Jc a F s)] w (St (FG a F s)):=by have M:=h_ (And.intro D h1);have S:Hi (Bw w (w.alloc (.cells (Jc a F s) 46))):=Bq;by_cases f:a=1;{subst f;go_enter func300,ntmps300;go_wp2_with fail;refine cQ (EU F _ M.1 M.2 (r.mono S)) λH V=>?_;have S:=mT S V;go_wp2;go_ret;exact⟨NC (by simp[FG]),S⟩};by_cases v:a=2;{subst v;by_cases b:F=1;{subst b;go_enter func300,ntmps300;go_wp2_with fail;refine(Tryz.strconv_FormatBool true _).mono ?_;rintro e H ⟨rfl,rfl⟩;rw[qqk];go_wp2;go_ret;exact⟨NC (by simp[FG]),S⟩};have U:(F==1)=Ff:=(by simpa using b);go_enter func300,ntmps300;go_wp2_with fail;refine(Tryz.strconv_FormatBool Ff _).mono ?_;rintro e H ⟨rfl,rfl⟩;rw[qjz];go_wp2;go_ret;exact⟨NC (by simp[FG,b]),S⟩};go_enter func300,ntmps300;go_wp2;go_ret;exact⟨NC (by simp[FG,f,v]),S⟩
def QW {op}(h:¬ (2<=op/\op<=15)):E5 op=7:=by grind[E5]
variable {p:Prop}
def iJ(h:p:=by go_wp2;go_ret;exact kV):p:=h
def R_ (op w):Calls prog 178 #[Ye op] w λe j=>e=Rt (Ye (E5 op))/\j=w:=by by_cases h:2<=op/\op<=15;{have h:op=2\/op=3\/op=4\/op=5\/op=6\/op=7\/op=8\/op=9\/op=10\/op=11\/op=12\/op=13\/op=14\/op=15:=fP;rcases h with rfl|rfl|rfl|rfl|rfl|rfl|rfl|rfl|rfl|rfl|rfl|rfl|rfl|rfl;all_goals go_enter func178,ntmps178;exact iJ};rw[QW h];have a:(op==3)=Ff:=Yk.2 fP;have t:(op==4)=Ff:=Yk.2 fP;have b:(op==5)=Ff:=Yk.2 fP;have M:(op==6)=Ff:=Yk.2 fP;have y:(op==7)=Ff:=Yk.2 fP;have C:(op==8)=Ff:=Yk.2 fP;have o:(op==9)=Ff:=Yk.2 fP;have d:(op==10)=Ff:=Yk.2 fP;have e:(op==11)=Ff:=Yk.2 fP;have P:(op==12)=Ff:=Yk.2 fP;have X:(op==13)=Ff:=Yk.2 fP;have i:(op==14)=Ff:=Yk.2 fP;have j:(op==15)=Ff:=Yk.2 fP;rcases (show op<2\/15<op by omega) with W|W;all_goals go_enter func178,ntmps178;exact iJ
def U_ (op w):Calls prog 345 #[Ye op] w λe j=>e=Rt (Ye (E5 op))/\j=w:=by by_cases h:2<=op/\op<=15;{have h:op=2\/op=3\/op=4\/op=5\/op=6\/op=7\/op=8\/op=9\/op=10\/op=11\/op=12\/op=13\/op=14\/op=15:=fP;rcases h with rfl|rfl|rfl|rfl|rfl|rfl|rfl|rfl|rfl|rfl|rfl|rfl|rfl|rfl;all_goals go_enter func345,ntmps345;exact iJ};rw[QW h];rcases (show op<2\/15<op by omega) with W|W;all_goals go_enter func345,ntmps345;exact iJ
def Nv (op w)(D:16<=op)(h1:op<=25):Calls prog 180 #[Ye op] w λe j=>e=Rt (St (P9 op))/\j=w:=by have h:op=16\/op=17\/op=18\/op=19\/op=20\/op=21\/op=22\/op=23\/op=24\/op=25:=fP;rcases h with rfl|rfl|rfl|rfl|rfl|rfl|rfl|rfl|rfl|rfl;all_goals go_enter func180,ntmps180;exact iJ
def Db (op w)(D:4<=op)(h1:op<=15):Calls prog 181 #[Ye op] w λe j=>e=Rt (St (P9 op))/\j=w:=by have h:op=4\/op=5\/op=6\/op=7\/op=8\/op=9\/op=10\/op=11\/op=12\/op=13\/op=14\/op=15:=fP;rcases h with rfl|rfl|rfl|rfl|rfl|rfl|rfl|rfl|rfl|rfl|rfl|rfl;all_goals go_enter func181,ntmps181;exact iJ
def iI(h:p:=by go_wp2;exact bQ ⟨rfl,Bq⟩):p:=h
def BN (w):Gv 49 #[] w (.agg Jd):=by go_enter func49,ntmps49;exact iI
def DN (b w):Gv 122 #[.bool b] w (.agg #[Ye 2,Ye (if b then 1 else 0),Yg]):=by cases b;{go_enter func122,ntmps122;exact iI};go_enter func122,ntmps122;exact iI
theorem VG (n w):Gv 46 #[Ye n] w (.agg (Yb n)):=by go_enter func46,ntmps46;exact iI
def FN (s w):Gv 48 #[St s] w (.agg #[Ye 3,Ye 0,St s]):=by go_enter func48,ntmps48;exact iI
def mK (w):Gv 141 #[] w (.agg Jd):=by go_enter func141,ntmps141;exact iI
def LC (b w):Gv 101 #[.bool b] w (.agg #[Ye 2,Ye (if b then 1 else 0),Yg]):=by cases b;{go_enter func101,ntmps101;exact iI};go_enter func101,ntmps101;exact iI
theorem wN (n w):Gv 294 #[Ye n] w (.agg (Yb n)):=by go_enter func294,ntmps294;exact iI
def vU (s w):Gv 287 #[St s] w (.agg #[Ye 3,Ye 0,St s]):=by go_enter func287,ntmps287;exact iI
def mU (op w):Calls prog 169 #[Ye op] w λe j=>e=Rt (.bool (decide (2<=op/\op<=25)))/\j=w:=by by_cases r:2<=op;{by_cases a:op<=25;{rw[Yo ⟨r,a⟩];go_enter func169,ntmps169;go_wp2;exact uX};have e:decide (2<=op/\op<=25)=Ff:=Yl (λh=>a h.2);rw[e];go_enter func169,ntmps169;go_wp2;exact uX};have e:decide (2<=op/\op<=25)=Ff:=Yl (λh=>r h.1);rw[e];go_enter func169,ntmps169;go_wp2;go_ret;exact⟨fY,rfl⟩
def opn (op:Int):Int:=if op=2\/op=3\/op=21\/op=22\/op=23\/op=24\/op=25 then 1 else if op=16 then 3 else 2
def US (op):ar op=if 2<=op/\op<=25 then opn op else 0:=by grind[ar,opn]
def Wv (op w):Calls prog 170 #[Ye op] w λe j=>e=Rt (Ye (opn op))/\j=w:=by rcases Fe op with (rfl|rfl|rfl|rfl|rfl|rfl|rfl|rfl)|⟨⟨S,Z,a,t⟩,⟨W,M,y,C⟩,-⟩;(case inr=>have e:opn op=2:=(by rw[opn,Ys fP,Ys C]);rw[e];go_enter func170,ntmps170;exact iJ);all_goals ( go_enter func170,ntmps170;go_wp2;go_ret;exact⟨rfl,rfl⟩)
def iK(h:p:=by go_ret;exact⟨NC gQ,S⟩):p:=h
def iL(h:p:=by rw[<- G]at e|-;have A:=h_ G;clear G;go_wp2;go_ret;exact⟨NC (by have:=A.u;simp[XC,t,this]),S⟩):p:=h
def q6t (a F s w)(B:s.size<=9223372036854775807)(D:-9223372036854775808<=F)(h1:F<=9223372036854775807) :
 Gv 39 #[.agg (Jc a F s)] w (.string (XC a F s)):=by
 obtain⟨M,U⟩:=oB (And.intro D h1) (m0.new w 46 (Jc a F s));have S:Hi (Bw w (w.alloc (.cells (Jc a F s) 46))):=(bR _ _).alloc (nR _) _;go_enter func39,ntmps39;go_wp2_with fail;refine cQ (YP a F s _ B) λh c=>?_;replace U:=mB U c;replace S:=mT S c;obtain⟨z,i,j⟩:=T0 U;cases t:Z1 a F s
 . go_wp2
   exact iK
 . rcases XM a with rfl | rfl | rfl | rfl | rfl | ⟨f,d,v,T,g⟩
   . go_wp2
     exact iK
   . go_wp2_with fail
     refine cQ (sN F _ M.1 M.2) λH V=>?_;replace S:=mT S V;go_wp2;exact iK
   . by_cases b:F=1
     all_goals
      go_wp2;go_ret;exact⟨NC (by first | (subst b;simp[XC,t];done) | (simp[XC,t,b])),S⟩
   . have X:s.size<=1000:=by simp[Z1]at t;exact(KN.1 t.2).1
     go_wp2;exact iK
   . go_wp2_with fail
     refine cQ (sN F _ M.1 M.2) λH V=>?_;replace S:=mT S V;clear V;have e:=MQ F M.1 M.2;obtain⟨b,G⟩:∃b:Tb,b=⟨(Lib.itoa F).toArray⟩:=⟨_,rfl⟩;exact iL
   . simp[Z1,f,d,v,T,g]at t
def n_ (a F s w)(B:s.size<=9223372036854775807)(D:-9223372036854775808<=F)(h1:F<=9223372036854775807)(r:RC w) :
 Gv 286 #[.agg (Jc a F s)] w (.string (XC a F s)):=by
 obtain⟨M,U⟩:=oB (And.intro D h1) (m0.new w 46 (Jc a F s));have S:Hi (Bw w (w.alloc (.cells (Jc a F s) 46))):=(bR _ _).alloc (nR _) _;go_enter func286,ntmps286;go_wp2_with fail;refine cQ (WP a F s _ B) λi d=>?_;replace U:=mB U d;replace S:=mT S d;obtain⟨z,j,k⟩:=T0 U;have b:=h_ (r.mono S);cases t:Z1 a F s
 . go_wp2
   exact iK
 . rcases XM a with rfl | rfl | rfl | rfl | rfl | ⟨f,g,v,T,h⟩
   . go_wp2
     exact iK
   . go_wp2_with fail
     refine cQ (uU 1 F s _ M.1 M.2 b) λH V=>?_;replace S:=mT S V;go_wp2;go_ret;exact⟨NC (by simp[XC,FG,t]),S⟩
   . go_wp2_with fail
     refine cQ (uU 2 F s _ M.1 M.2 b) λH V=>?_;replace S:=mT S V;clear V;go_wp2;go_ret;exact⟨NC (by simp[XC,FG,t]),S⟩
   . have X:s.size<=1000:=by simp[Z1]at t;exact(KN.1 t.2).1
     go_wp2;exact iK
   . go_wp2_with fail
     refine cQ (EU F _ M.1 M.2 b) λH V=>?_;replace S:=mT S V;clear V;have e:=MQ F M.1 M.2;obtain⟨c,G⟩:∃c:Tb,c=⟨(Lib.itoa F).toArray⟩:=⟨_,rfl⟩;exact iL
   . simp[Z1,f,g,v,T,h]at t
