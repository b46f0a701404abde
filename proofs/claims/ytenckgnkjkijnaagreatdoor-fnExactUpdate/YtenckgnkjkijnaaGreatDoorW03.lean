import Derived.Test.YtenckgnkjkijnaaGreatDoorW00
import Derived.Lib.ItoaLen
set_option linter.all false
set_option maxRecDepth 100000
set_option maxHeartbeats 0
namespace Go.Proofs.YtenckgnkjkijnaaGreatDoor
section
open Go Go.RowKit Go.Proofs.Tryz
def tb (b:Nat):Bool:=decide (32<=b/\b<=126/\b≠34)
def dS {p:Prop}(h:p:=by go_wp2;go_ret;exact⟨qmq dG,rfl⟩):p:=h
def q2l (b:Nat)(w:Tw):Calls prog 147 #[.int .u8 b] w λa c=>a=.returned (.bool (tb b))/\c=w:=by by_cases c:32<=b;{by_cases d:b<=126;{by_cases a:b=34;all_goals go_enter func147,ntmps147;go_wp2;go_ret;exact⟨qmq (by first | (subst a;decide) | (simp[tb,c,d,a] <;> omega)),rfl⟩};go_enter func147,ntmps147;exact dS};go_enter func147,ntmps147;exact dS
def q2j (b:Nat)(w:Tw):Calls prog 152 #[.int .u8 b] w λa c=>a=.returned (.bool (tb b))/\c=w:=by by_cases c:32<=b;{by_cases d:b<=126;{by_cases a:b=34;all_goals go_enter func152,ntmps152;go_wp2;go_ret;exact⟨qmq (by first | (subst a;decide) | (simp[tb,c,d,a] <;> omega)),rfl⟩};go_enter func152,ntmps152;exact dS};go_enter func152,ntmps152;exact dS
def kax (s:Tb):Bool:=decide (s.size<=1000)&&s.data.toList.all λc=>tb c.toNat
def qcj {s:Tb}:kax s=true ↔ s.size<=1000/\∀a (c:a<s.size),tb s[a].toNat=true:=by simp only[kax,Yq,Yv,Y8];refine and_congr_right λ_=>⟨λb a c=>b _ (by simp[ByteArray.getElem_eq_getElem_data]),λb e d=>?_⟩;obtain⟨a,c,rfl⟩:=Y4.1 d;exact b a df
def qck {s:Tb}(c:s.size<=1000)(b:∀a (d:a<s.size),tb s[a].toNat=true):kax s=true:=qcj.2 ⟨c,b⟩
def qh1 {s:Tb}{k:Nat}(c:k<s.size)(b:tb s[k].toNat=false):kax s=false:=by cases a:kax s with|false=>rfl|true=>have:=(qcj.1 a).2 k c;rw[b]at this;cases this
def q2k (s:Tb)(w:Tw)(l:s.size<=9223372036854775807):Calls prog 109 #[.string s] w λc f=>c=.returned (.bool (kax s))/\f=w:=by by_cases h:s.size<=1000;{go_enter func109,ntmps109;go_wp2;go_loopw [3] (λe wr=>∃b:Nat,b<=s.size/\e=Yb b/\(∀a (d:a<s.size),a<b->tb (s[a]).toNat=true)/\wr=w) (λe _=>s.size - (intOf e).toNat);exact⟨0,nZ _,rfl,λa e e=>absurd e (nL _),rfl⟩;obtain⟨b,j,rfl,i,rfl⟩:=hrel;have g:=h_ i;by_cases k:b<s.size;{cases e:tb s[b].toNat;{go_wp2_with (go_at_call 147;refine(q2l _ _).mono ?_;rintro c f ⟨rfl,rfl⟩;rw[e]);go_ret;exact⟨qmq (qh1 k e).symm,rfl⟩};go_wp2_with (go_at_call 147;refine(q2l _ _).mono ?_;rintro c f ⟨rfl,rfl⟩;rw[e]);go_roundw;exact⟨b+1,cr,cy,λa d j=>by by_cases c:a=b;{subst c;exact e};exact g a d cr,trivial⟩;simp[intOf];omega};go_wp2;go_ret;exact⟨qmq (qck h λa d=>g a d cr).symm,rfl⟩};go_enter func109,ntmps109;go_wp2;go_ret;exact⟨qmq (by simp[kax,h]),rfl⟩
def qbp (s:Tb)(w:Tw)(l:s.size<=9223372036854775807):Calls prog 113 #[.string s] w λc f=>c=.returned (.bool (kax s))/\f=w:=by by_cases h:s.size<=1000;{go_enter func113,ntmps113;go_wp2;go_loopw [9] (λe wr=>∃b:Nat,b<=s.size/\e=Yb b/\(∀a (d:a<s.size),a<b->tb (s[a]).toNat=true)/\wr=w) (λe _=>s.size - (intOf e).toNat);exact⟨0,nZ _,rfl,λa e e=>absurd e (nL _),rfl⟩;obtain⟨b,j,rfl,i,rfl⟩:=hrel;have g:=h_ i;by_cases k:b<s.size;{cases e:tb s[b].toNat;{go_wp2_with (go_at_call 152;refine(q2j _ _).mono ?_;rintro c f ⟨rfl,rfl⟩;rw[e]);go_ret;exact⟨qmq (qh1 k e).symm,rfl⟩};go_wp2_with (go_at_call 152;refine(q2j _ _).mono ?_;rintro c f ⟨rfl,rfl⟩;rw[e]);go_roundw;exact⟨b+1,cr,cy,λa d j=>by by_cases c:a=b;{subst c;exact e};exact g a d cr,trivial⟩;simp[intOf];omega};go_wp2;go_ret;exact⟨qmq (qck h λa d=>g a d cr).symm,rfl⟩};go_enter func113,ntmps113;go_wp2;go_ret;exact⟨qmq (by simp[kax,h]),rfl⟩
def kag {w:Tw}{b:Nat}{t:TypeId}{v u c:Value}(a:Blk w b t [v,u,c]) :
 w.cell? ⟨b,0,none⟩=some v/\w.cell? ⟨b,1,none⟩=some u/\w.cell? ⟨b,2,none⟩=some c:=⟨a.cell 0,a.cell 1,a.cell 2⟩
def kdJ (s:Tb):((s.size:Int)==0)=decide (s.size=0):=by grind
def kdu (s:Tb):s.toList.isEmpty=decide (s.size=0):=by rw[Zc];have⟨⟨a⟩⟩:=s;cases a <;> simp[ByteArray.size]
def kae (kind num:Int)(s:Tb):Bool :=
 if kind=0 then decide (num=0)&&decide (s.size=0)
 else if kind=1 then decide (s.size=0)
 else if kind=2 then decide (num=0∨num=1)&&decide (s.size=0)
 else if kind=3 then decide (num=0)&&kax s
 else if kind=4 then decide (1<=num/\num<=5)&&decide (s.size=0)
 else false
def keW (k:Int):k=0∨k=1∨k=2∨k=3∨k=4∨(¬ k=0/\¬ k=1/\¬ k=2/\¬ k=3/\¬ k=4):=by omega
def khH (n:Int):n=0∨n=1∨(¬ n=0/\¬ n=1):=by omega
def khI (n:Int):n<1∨(1<=n/\5<n)∨(1<=n/\n<=5):=by omega
def dM {p:Prop}(h:p:=by go_wp2;go_ret;exact⟨qmq dv,(bR _ _).alloc (nR _) _⟩):p:=h
def dQ {p:Prop}(h:p:=by go_ret;exact⟨qmq (by simp[kae,b]),(bR _ _).alloc (nR _) _⟩):p:=h
def dT {p:Prop}(h:p:=by go_wp2;go_ret;exact⟨qmq (by simp[kae,show ¬ a<=5 by omega]),(bR _ _).alloc (nR _) _⟩):p:=h
def dU {p:Prop}(h:p:=by go_wp2;go_ret;exact⟨qmq (by simp[kae,show ¬ 1<=a by omega]),(bR _ _).alloc (nR _) _⟩):p:=h
def dX {p:Prop}(h:p:=by go_wp2;go_ret;exact⟨qmq (by simp[kae,g,h,i,j,k]),(bR _ _).alloc (nR _) _⟩):p:=h
def dY {p:Prop}(h:p:=by go_wp2;go_ret;exact⟨qmq (by simp[kae,d,b,c.u]),(bR _ _).alloc (nR _) _⟩):p:=h
def dZ {p:Prop}(h:p:=by go_wp2;go_ret;exact⟨qmq (by simp[kae,b,d]),(bR _ _).alloc (nR _) _⟩):p:=h
def q32 (e a:Int)(s:Tb)(w:Tw)(f:s.size<=9223372036854775807):Gv 76 #[.agg (Jc e a s)] w (.bool (kae e a s)):=by have b:=kdJ s;have c:=h_ b;clear b;rcases keW e with rfl | rfl | rfl | rfl | rfl | ⟨g,h,i,j,k⟩;{by_cases b:a=0;all_goals go_enter func76,ntmps76;go_wp2;go_ret;exact⟨qmq (by simp[kae,b,c.u]),(bR _ _).alloc (nR _) _⟩};{go_enter func76,ntmps76;exact dM};{rcases khH a with rfl | rfl | ⟨b,d⟩;{go_enter func76,ntmps76;exact dM};{go_enter func76,ntmps76;exact dM};go_enter func76,ntmps76;exact dZ};{by_cases b:a=0;{go_enter func76,ntmps76;go_wp2_with (go_at_call 109;refine(q2k s _ f).mono ?_;rintro l m ⟨rfl,rfl⟩);exact dQ};go_enter func76,ntmps76;go_wp2;exact dQ};{rcases khI a with d | ⟨d,b⟩ | ⟨d,b⟩;{go_enter func76,ntmps76;exact dU};{go_enter func76,ntmps76;exact dT};go_enter func76,ntmps76;exact dY};go_enter func76,ntmps76;exact dX
def q2d (e a:Int)(s:Tb)(w:Tw)(f:s.size<=9223372036854775807):Gv 81 #[.agg (Jc e a s)] w (.bool (kae e a s)):=by have b:=kdu s;have c:=h_ b;clear b;rcases keW e with rfl | rfl | rfl | rfl | rfl | ⟨g,h,i,j,k⟩;{by_cases b:a=0;all_goals go_enter func81,ntmps81;go_wp2;go_ret;exact⟨qmq (by simp only[kae];simp[b,c.u]),(bR _ _).alloc (nR _) _⟩};{go_enter func81,ntmps81;exact dM};{rcases khH a with rfl | rfl | ⟨b,d⟩;{go_enter func81,ntmps81;exact dM};{go_enter func81,ntmps81;exact dM};go_enter func81,ntmps81;exact dZ};{by_cases b:a=0;{go_enter func81,ntmps81;go_wp2_with (go_at_call 113;refine(qbp s _ f).mono ?_;rintro l m ⟨rfl,rfl⟩);exact dQ};go_enter func81,ntmps81;go_wp2;exact dQ};{rcases khI a with d | ⟨d,b⟩ | ⟨d,b⟩;{go_enter func81,ntmps81;exact dU};{go_enter func81,ntmps81;exact dT};go_enter func81,ntmps81;exact dY};go_enter func81,ntmps81;exact dX
end
section
open Go Go.Proofs.Tryz
def kbt (kind num:Int)(s:Tb):Tb :=
 if kae kind num s then
  if kind=0 then ⟨#[98,108,97,110,107]⟩
  else if kind=1 then ⟨(Lib.itoa num).toArray⟩
  else if kind=2 then (if num=1 then ⟨#[116,114,117,101]⟩ else ⟨#[102,97,108,115,101]⟩)
  else if kind=3 then ⟨#[34]⟩++s++⟨#[34]⟩
  else ⟨#[33]⟩++⟨(Lib.itoa num).toArray⟩
 else ⟨#[63]⟩
theorem bsz (a:Array UInt8):(⟨a⟩:Tb).size=a.size:=rfl
def qgc (x:Int)(a:-9223372036854775808<=x)(b:x<=9223372036854775807):(⟨(Lib.itoa x).toArray⟩:Tb).size<=21:=Lib.itoa_length_le x a b
def qqn (x:Int):1<=(Lib.itoa x).length:=by unfold Lib.itoa;split;{simp};rw[Lib.decDigits_length];exact Lib.nDigits_pos _
def qdd (b c:Int)(s:Tb)(a:kae b c s=true)(k:0<=c)(i:c<=9223372036854775807):1+s.size<=(kbt b c s).size/\(kbt b c s).size<=1050:=by have l:=qgc c cr i;have m:1<=(⟨(Lib.itoa c).toArray⟩:Tb).size:=qqn c;unfold kbt;rw[Yy a];unfold kae at a;by_cases d:b=0;{rw[Yy d]at a⊢;simp only[Yq,Yv]at a;simp only[bsz,Zj,Yz,Za];omega};rw[Yu d]at a⊢;by_cases e:b=1;{rw[Yy e]at a⊢;simp only[Yv]at a;omega};rw[Yu e]at a⊢;by_cases f:b=2;{rw[Yy f]at a⊢;simp only[Yq,Yv]at a;split <;> simp only[bsz,Zj,Yz,Za] <;> omega};rw[Yu f]at a⊢;by_cases g:b=3;{rw[Yy g]at a⊢;simp only[Yq,Yv]at a;have:=(qcj.1 a.2).1;simp only[Yt,bsz,Zj,Yz,Za];omega};rw[Yu g]at a⊢;by_cases h:b=4;{rw[Yy h]at a;simp only[Yq,Yv]at a;simp only[Yt];have j:(⟨#[33]⟩:Tb).size=1:=rfl;omega};rw[Yu h]at a;cases a
structure Nx where
 op:Int
 v:Vx
 nm:Tb
abbrev Je(x0:Nx):Ta:=#[Yb x0.op,Yb x0.v.k,Yb x0.v.n,.string x0.v.s,.string x0.nm]
structure Ph where
 t:Tb
 lv:Int
 d:Nat
def kez:Ph:=⟨⟨#[]⟩,7,1⟩
def arn (n:Nx):Nat:=(ar n.op).toNat
def lvl (op:Int):Int:=if op=15 then 1 else if op=14 then 2 else if 10<=op/\op<=13 then 3 else if 7<=op/\op<=9 then 4 else if 4<=op/\op<=6 then 5 else if op=2∨op=3 then 6 else 7
def kfh:List Tb:=[⟨#[]⟩,⟨#[]⟩,⟨#[45]⟩,⟨#[110,111,116]⟩,⟨#[42]⟩,⟨#[47]⟩,⟨#[37]⟩,⟨#[43]⟩,⟨#[45]⟩,⟨#[38]⟩,⟨#[61]⟩,⟨#[60,62]⟩,⟨#[60]⟩,⟨#[60,61]⟩,⟨#[97,110,100]⟩,⟨#[111,114]⟩,
 ⟨#[105,102]⟩,⟨#[109,105,110]⟩,⟨#[109,97,120]⟩,⟨#[111,114,101,108,115,101]⟩,⟨#[104,97,115]⟩,⟨#[108,101,110]⟩,⟨#[110,117,109]⟩,⟨#[115,116,114]⟩,⟨#[105,115,98,108,97,110,107]⟩,⟨#[105,115,101,114,114]⟩]
def wrd (op:Int):Tb:=kfh.getD op.toNat ⟨#[]⟩
def wrap (l:Int)(p:Ph):Tb:=if p.lv<l then ⟨#[40]⟩++p.t++⟨#[41]⟩ else p.t
def jt:List Tb->Tb
 | []=>⟨#[]⟩
 | x :: r=>⟨#[44,32]⟩++x++jt r
def jn:List Tb->Tb
 | []=>⟨#[]⟩
 | x :: r=>x++jt r
def lft (op:Int):Int:=if lvl op=3 then 4 else lvl op
def phT (n:Nx)(a:List Ph):Tb :=
 if n.op=0 then kbt n.v.k n.v.n n.v.s
 else if n.op=1 then n.nm
 else if n.op=2 then ⟨#[45]⟩++wrap 6 (a.getD 0 kez)
 else if n.op=3 then ⟨#[110,111,116,32]⟩++wrap 6 (a.getD 0 kez)
 else if lvl n.op=7 then wrd n.op++⟨#[40]⟩++jn (a.map (·.t))++⟨#[41]⟩
 else wrap (lft n.op) (a.getD 0 kez)++⟨#[32]⟩++wrd n.op++⟨#[32]⟩++wrap (lvl n.op+1) (a.getD 1 kez)
def mx:List Ph->Nat
 | []=>0
 | p :: r=>max p.d (mx r)
def phr (n:Nx)(a:List Ph):Ph:=⟨phT n a,lvl n.op,mx a+1⟩
def stk (e:Nat->Nx):Nat->List Nat
 | 0=>[]
 | n+1=>(n+1) :: (stk e n).drop (arn (e n))
def pst (e:Nat->Nx):Nat->List Ph
 | 0=>[]
 | n+1=>phr (e n) ((pst e n).take (arn (e n))).reverse :: (pst e n).drop (arn (e n))
def top (e:Nat->Nx)(n:Nat):Ph:=(pst e n).headD kez
def qsy (a:Nat->Nx)(n:Nat):(pst a n).length=(stk a n).length:=by induction n <;> grind[pst,stk]
def qsz (a:Nat->Nx)(n:Nat):pst a n=(stk a n).map (top a):=by induction n with|zero=>rfl|succ n b=>simp only[pst,stk,Va,List.map_drop,<- b];rfl
def kg1 (e:Nat->Nx)(n:Nat):∀(c a:Nat) (d:List Nat),(stk e n).drop c=a :: d->stk e a=a :: d/\1<=a/\a<=n:=by induction n with|zero=>intro c a d b;simp[stk]at b|succ n h=>intro c a d b;cases c with|zero=>simp only[stk,List.drop_zero,List.cons.injEq]at b;obtain⟨rfl,rfl⟩:=b;exact⟨rfl,cr,cr⟩|succ c=>simp only[stk,List.drop_succ_cons,List.drop_drop]at b;have⟨f,g,i⟩:=h _ a d b;exact⟨f,g,cr⟩
def beg (e:Nat->Nx)(n:Nat):Nat:=(stk e n).tail.headD 0
def qoe (a:Nat->Nx)(n i:Nat)(b:i<(stk a n).length):stk a ((stk a n)[i])=(stk a n).drop i/\1<=(stk a n)[i]/\(stk a n)[i]<=n:=by have:=kg1 a n i _ _ (Vz b);rw[Vz b];exact this
def kbP (e:Nat->Nx)(n:Nat):Prop:=∀k,k<n->arn (e k)<=(stk e k).length
def kbP.le {a:Nat->Nx}{n m:Nat}(b:kbP a n)(e:m<=n):kbP a m:=λc d=>b c cr
def qnp (a:Nat->Nx)(n:Nat):top a (n+1)=phr (a n) ((pst a n).take (arn (a n))).reverse:=rfl
def qtn (a:Nat->Nx)(n:Nat):(stk a n).length<=n:=by induction n <;> grind[stk]
def kbV (n:Nx):arn n<=3:=by grind[arn,ar]
def qeh (c:Nat->Nx)(p:Ph->Prop)(h:∀n b a,a∈b->p a->b.length=arn n->p (phr n b)){n m:Nat}(j:n<=m)(e:kbP c m)(d:∃a,a∈pst c n/\p a):∃a,a∈pst c m/\p a:=by induction m with|zero=>obtain rfl:n=0:=cr;exact d|succ m i=>by_cases g:n=m+1;{subst g;exact d};have⟨a,b,f⟩:=i cr (e.le cr);rw[<- Ve (arn (c m)) (pst c m)]at b;rcases Zm.1 b with b | b;{refine⟨_,Ze,h _ _ a (Ot.2 b) f ?_⟩;rw[Zl,Zf,qsy];have:=e m cr;omega};exact⟨a,Zu _ b,f⟩
def kh9 {a:List Ph}{x:Ph}(b:x∈a):x.d<=mx a:=by induction a <;> grind[mx]
theorem qgy (a b:List Ph):mx (a++b)=max (mx a) (mx b):=by induction a <;> grind[mx]
def qcf (a:List Ph):mx a.reverse=mx a:=by induction a <;> grind[mx,qgy]
def tot:List Ph->Nat
 | []=>0
 | p :: r=>p.t.size+tot r
theorem qdy (a b:List Ph):tot (a++b)=tot a+tot b:=by induction a <;> grind[tot]
def qa5 (a:List Ph):tot a.reverse=tot a:=by induction a <;> grind[tot,qdy]
def qtz {a:List Ph}{x:Ph}(b:x∈a):x.t.size<=tot a:=by induction a <;> grind[tot]
def kbo (b:Nat):Bool:=decide (97<=b/\b<=122)
def ka6 (b:Nat):Bool:=decide (48<=b/\b<=57)
def ka7 (b:Nat):Bool:=kbo b||ka6 b||decide (b=95)
def keX:List (List UInt8):=[[108,97,98,101,108],[98,101,108,111,119],[114,111,108,101],[102,105,101,108,100],[105,110,116],[98,111,111,108],[116,101,120,116],[97,116],[97,117,116,111],[98,121],[105,115],[119,104,101,110],[118,97,108,105,100],[115,97,121,115],[109,117,115,116],[97,110,100],[111,114],[110,111,116],[116,114,117,101],[102,97,108,115,101],[98,108,97,110,107]]
def rsv (s:Tb):Bool:=keX.any λx=>s.toList==x
def kaR (s:Tb):Bool:=decide (1<=s.size/\s.size<=16)&&kbo (s.data.getD 0 0).toNat&&(s.data.toList.all λc=>ka7 c.toNat)&&!rsv s
def kao (n:Nx):Bool :=
 if n.op=0 then decide (n.nm.size=0)&&kae n.v.k n.v.n n.v.s&&decide (n.v.k≠4)&&decide (0<=n.v.n)
 else if n.op=1 then decide (n.v.k=0/\n.v.n=0/\n.v.s.size=0)&&kaR n.nm
 else decide (2<=n.op/\n.op<=25)&&decide (n.v.k=0/\n.v.n=0/\n.v.s.size=0)&&decide (n.nm.size=0)
def qiz (l:Int)(p:Ph):p.t.size<=(wrap l p).size/\(wrap l p).size<=p.t.size+2:=by grind[wrap,bsz]
def qj0:∀a:Fin 26,2<=a.val->1<=(kfh.getD a.val ⟨#[]⟩).size/\(kfh.getD a.val ⟨#[]⟩).size<=7:=by decide +kernel
def qo2 {a:Int}(b:2<=a)(c:a<=25):1<=(wrd a).size/\(wrd a).size<=7:=qj0 ⟨a.toNat,cr⟩ (by show 2<=a.toNat;omega)
def qqy (a:List Ph):(jt (a.map (·.t))).size=tot a+2*a.length:=by induction a with|nil=>rfl|cons c d b=>simp only[Va,jt,Yt,b,tot,Yz,bsz,Zj,Za];omega
def qqv (a:List Ph):tot a<=(jn (a.map (·.t))).size/\(jn (a.map (·.t))).size<=tot a+2*a.length:=by cases a with|nil=>exact⟨nR 0,nR 0⟩|cons b c=>simp only[Va,jn,Yt,qqy,tot,Yz];omega
def keA {a:Int}(c:2<=a)(d:a<=25)(b:lvl a≠7)(e:a≠2)(f:a≠3):ar a=2:=by grind[lvl,ar]
def kcU {a:Int}(b:a=2∨a=3):ar a=1:=by grind[ar]
def kdj {d:Type}{a:List d}(c:a.length=1):∃b,a=[b]:=by match a,c with|[b],_=>exact⟨b,rfl⟩
def kf4 {e:Type}{a:List e}(d:a.length=2):∃b c,a=[b,c]:=by match a,d with|[b,c],_=>exact⟨b,c,rfl⟩
def dV {p:Prop}(h:p:=by obtain⟨f,rfl⟩:=kdj (d.trans c);have:=qiz 6 f;simp only[Z8,Yt,tot,bsz,Zj,Yz,Za];omega):p:=h
def qm7 (n:Nx)(a:List Ph)(b:kao n=true)(d:a.length=arn n)(o:n.v.n<=9223372036854775807):tot a+1+n.v.s.size<=(phT n a).size/\(phT n a).size<=tot a+1100:=by unfold kao at b;unfold phT;by_cases h:n.op=0;{rw[Yy h]at b⊢;simp only[Yq,Yv]at b;have:a=[]:=(by have c:arn n=0:=(by unfold arn;rw[h];rfl);rw[c]at d;exact Zg.1 d);subst this;have:=qdd n.v.k n.v.n n.v.s b.1.1.2 b.2 o;simp only[tot];omega};rw[Yu h]at b⊢;by_cases i:n.op=1;{rw[Yy i]at b⊢;simp only[Yq,Yv,kaR]at b;have:a=[]:=(by have c:arn n=0:=(by unfold arn;rw[i];rfl);rw[c]at d;exact Zg.1 d);subst this;simp only[tot];omega};rw[Yu i]at b⊢;simp only[Yq,Yv]at b;obtain⟨⟨⟨l,m⟩,⟨-,-,q⟩⟩,-⟩:=b;have r:=qo2 l m;by_cases g:n.op=2;{rw[Yy g];have c:arn n=1:=(by unfold arn;rw[kcU (.inl g)];rfl);exact dV};rw[Yu g];by_cases e:n.op=3;{rw[Yy e];have c:arn n=1:=(by unfold arn;rw[kcU (.inr e)];rfl);exact dV};rw[Yu e];by_cases j:lvl n.op=7;{rw[Yy j];have:=qqv a;have e:=kbV n;simp only[Yt,bsz,Zj,Yz,Za];omega};rw[Yu j];have c:arn n=2:=(by unfold arn;rw[keA l m j g e];rfl);obtain⟨f,p,rfl⟩:=kf4 (d.trans c);have t:=qiz (lft n.op) f;have u:=qiz (lvl n.op+1) p;simp only[Z8,Ob,Yt,tot,bsz,Zj,Yz,Za];omega
def kbk (e:Nat->Nx):Nat->Nat
 | 0=>0
 | n+1=>kbk e n+1+(e n).v.s.size
def kco (e:Nat->Nx)(n:Nat):Prop:=∀k,k<n->kao (e k)=true
def kco.le {a:Nat->Nx}{n m:Nat}(b:kco a n)(e:m<=n):kco a m:=λc d=>b c cr
theorem qu0 (a:Nat->Nx)(n:Nat)(e:kbP a n)(d:kco a n)(c:∀b,b<n->(a b).v.n<=9223372036854775807):kbk a n<=tot (pst a n)/\tot (pst a n)<=1100*n:=by induction n with|zero=>simp[kbk,pst,tot]|succ n f=>have:=f (e.le cr) (d.le cr) (λb g=>c b cr);have b:((pst a n).take (arn (a n))).reverse.length=arn (a n):=(by rw[Zl,Zf,qsy];have:=e n cr;omega);have g:=qm7 (a n) _ (d n cr) b (c n cr);have h:tot (pst a n)=tot ((pst a n).take (arn (a n))).reverse+tot ((pst a n).drop (arn (a n))):=(by rw[qa5,<- qdy,Ve]);simp only[pst,tot,phr,kbk];omega
def vEx (e:Nat->Nx)(m:Nat):Prop:=1<=m/\m<=1000/\kco e m/\kbP e m/\(stk e m).length=1/\(top e m).d<=64/\(top e m).t.size<=4000
theorem qt0 {a:Nat->Nx}{m:Nat}(b:(stk a m).length=1):pst a m=[top a m]:=by rw[<- qsy]at b;have⟨d,c⟩:=kdj b;rw[top,c];rfl
def vEx.part {b:Nat->Nx}{m n:Nat}(i:vEx b m)(p:∀a,a<m->(b a).v.n<=9223372036854775807)(l:1<=n)(j:n<=m):(top b n).d<=64/\(top b n).t.size<=4000:=by obtain⟨-,-,o,k,g,y,z⟩:=i;have f:=qt0 g;obtain⟨n,rfl⟩:∃a,n=a+1:=⟨n - 1,cr⟩;constructor;{refine Decidable.byContradiction λq=>?_;have⟨e,c,h⟩:=qeh b (λa=>64<a.d) (λn a e c f _=>by have:=kh9 c;show 64<mx a+1;have f:64<e.d:=f;omega) j k ⟨_,Ze,by show 64<(top b (n+1)).d;omega⟩;rw[f]at c;obtain rfl:=Z5.1 c;have h:64<(top b m).d:=h;omega};refine Decidable.byContradiction λq=>?_;have w:∀a,n+1<=a->a<=m->∃e,e∈pst b a/\4000<e.t.size:=(by intro a;induction a with|zero=>intro i;omega|succ a u=>intro l x;by_cases r:n=a;{subst r;exact⟨_,Ze,by show 4000<(top b (n+1)).t.size;omega⟩};have⟨e,c,s⟩:=u cr cr;rw[<- Ve (arn (b a)) (pst b a)]at c;rcases Zm.1 c with c | c;{refine⟨_,Ze,?_⟩;have g:((pst b a).take (arn (b a))).reverse.length=arn (b a):=(by rw[Zl,Zf,qsy];have:=k a cr;omega);have f:=(qm7 (b a) _ (o a cr) g (p a cr)).1;have:=qtz (Ot.2 c);show 4000<(phT _ _).size;omega};exact⟨e,Zu _ c,s⟩);have⟨e,c,h⟩:=w m j (nR _);rw[f]at c;obtain rfl:=Z5.1 c;omega
def vEx.sum {a:Nat->Nx}{m:Nat}(c:vEx a m)(d:∀b,b<m->(a b).v.n<=9223372036854775807):kbk a m<=4000:=by grind[tot,vEx,kbk,qu0,qt0]
end
section
open Go Go.RowKit Go.Proofs.Tryz
def dP {p:Prop}(h:p:=by go_wp2;go_ret;exact⟨qmq cz,rfl⟩):p:=h
def dR {p:Prop}(h:p:=by go_ret;exact⟨cH,rfl⟩):p:=h
def q8m (b:Nat)(w:Tw):Calls prog 186 #[.int .u8 b] w λa c=>a=.returned (.bool (kbo b))/\c=w:=by by_cases a:97<=b;{by_cases c:b<=122;{rw[show kbo b=true by simp[kbo];omega];go_enter func186,ntmps186;exact dP};rw[show kbo b=false by simp[kbo];omega];go_enter func186,ntmps186;exact dP};rw[show kbo b=false by simp[kbo];omega];go_enter func186,ntmps186;go_wp2;exact dR
def q1h (b:Nat)(w:Tw):Calls prog 293 #[.int .u8 b] w λa c=>a=.returned (.bool (ka6 b))/\c=w:=by by_cases a:48<=b;{by_cases c:b<=57;{rw[show ka6 b=true by simp[ka6];omega];go_enter func293,ntmps293;exact dP};rw[show ka6 b=false by simp[ka6];omega];go_enter func293,ntmps293;exact dP};rw[show ka6 b=false by simp[ka6];omega];go_enter func293,ntmps293;go_wp2;exact dR
def q5m (b:Nat)(w:Tw):Calls prog 318 #[.int .u8 b] w λa c=>a=.returned (.bool (kbo b))/\c=w:=by by_cases a:97<=b;{by_cases c:b<=122;{rw[show kbo b=true by simp[kbo];omega];go_enter func318,ntmps318;exact dP};rw[show kbo b=false by simp[kbo];omega];go_enter func318,ntmps318;exact dP};rw[show kbo b=false by simp[kbo];omega];go_enter func318,ntmps318;go_wp2;exact dR
def q88 (b:Nat)(w:Tw):Calls prog 333 #[.int .u8 b] w λa c=>a=.returned (.bool (ka6 b))/\c=w:=by by_cases a:48<=b;{by_cases c:b<=57;{rw[show ka6 b=true by simp[ka6];omega];go_enter func333,ntmps333;exact dP};rw[show ka6 b=false by simp[ka6];omega];go_enter func333,ntmps333;exact dP};rw[show ka6 b=false by simp[ka6];omega];go_enter func333,ntmps333;go_wp2;exact dR
def dO {p:Prop}(h:p:=by go_enter func225,ntmps225;go_wp2_with (first | (go_at_call 186;refine(q8m _ _).mono ?_;rintro a c ⟨rfl,rfl⟩;rw[d]) | (go_at_call 293;refine(q1h _ _).mono ?_;rintro a c ⟨rfl,rfl⟩;rw[e]));go_ret;exact⟨cw,rfl⟩):p:=h
def q2r (b:Nat)(w:Tw):Calls prog 225 #[.int .u8 b] w λa c=>a=.returned (.bool (ka7 b))/\c=w:=by have a:ka7 b=(kbo b||ka6 b||decide (b=95)):=rfl;cases d:kbo b;{cases e:ka6 b;{by_cases f:b=95;{subst f;rw[show ka7 95=true from rfl];exact dO};rw[show ka7 b=false by rw[a,d,e];simpa using f];have g:((b:Int)==95)=false:=Yh.2 cr;exact dO};rw[show ka7 b=true by rw[a,d,e];rfl];go_enter func225,ntmps225;go_wp2_with (first | (go_at_call 186;refine(q8m _ _).mono ?_;rintro a c ⟨rfl,rfl⟩;rw[d]) | (go_at_call 293;refine(q1h _ _).mono ?_;rintro a c ⟨rfl,rfl⟩;rw[e]));exact dR};rw[show ka7 b=true by rw[a,d];rfl];go_enter func225,ntmps225;go_wp2_with (go_at_call 186;refine(q8m _ _).mono ?_;rintro a c ⟨rfl,rfl⟩;rw[d]);exact dR
def dN {p:Prop}(h:p:=by go_enter func320,ntmps320;go_wp2_with (first | (go_at_call 318;refine(q5m _ _).mono ?_;rintro a c ⟨rfl,rfl⟩;rw[d]) | (go_at_call 333;refine(q88 _ _).mono ?_;rintro a c ⟨rfl,rfl⟩;rw[e]));go_ret;exact⟨cw,rfl⟩):p:=h
def q2g (b:Nat)(w:Tw):Calls prog 320 #[.int .u8 b] w λa c=>a=.returned (.bool (ka7 b))/\c=w:=by have a:ka7 b=(kbo b||ka6 b||decide (b=95)):=rfl;cases d:kbo b;{cases e:ka6 b;{by_cases f:b=95;{subst f;rw[show ka7 95=true from rfl];exact dN};rw[show ka7 b=false by rw[a,d,e];simpa using f];have g:((b:Int)==95)=false:=Yh.2 cr;exact dN};rw[show ka7 b=true by rw[a,d,e];rfl];go_enter func320,ntmps320;go_wp2_with (first | (go_at_call 318;refine(q5m _ _).mono ?_;rintro a c ⟨rfl,rfl⟩;rw[d]) | (go_at_call 333;refine(q88 _ _).mono ?_;rintro a c ⟨rfl,rfl⟩;rw[e]));exact dR};rw[show ka7 b=true by rw[a,d];rfl];go_enter func320,ntmps320;go_wp2_with (go_at_call 318;refine(q5m _ _).mono ?_;rintro a c ⟨rfl,rfl⟩;rw[d]);exact dR
theorem q9v {s:Tb}{l:List UInt8}(a:(s.toList==l)=true):s=⟨l.toArray⟩:=by have a:s.toList=l:=cV;rw[<- a,Zc]
def qhn (s:Tb)(P:Prop)(hy:∀a,a∈keX->s=⟨a.toArray⟩->P)(b:(∀a,a∈keX->(s.toList==a)=false)->P):P:=by grind[keX,q9v]
def qtc {x:List UInt8}(a:x∈keX):rsv ⟨x.toArray⟩=true:=by simp_all[rsv]
def kfI {s:Tb}(b:∀a,a∈keX->(s.toList==a)=false):rsv s=false:=by grind[rsv]
def dW {p:Prop}(h:p:=by go_wp2;go_ret;exact⟨rfl,rfl⟩):p:=h
def q2s (s:Tb)(w:Tw):Calls prog 188 #[.string s] w λa b=>a=.returned (.bool (rsv s))/\b=w:=by refine qhn s _ (λA b c=>?_) (λa=>?_);{subst c;rw[qtc b];unfold keX at b;simp only[Vh,Gf,or_false]at b;rcases b with rfl | rfl | rfl | rfl | rfl | rfl | rfl | rfl | rfl | rfl | rfl | rfl | rfl | rfl | rfl | rfl | rfl | rfl | rfl | rfl | rfl;all_goals go_enter func188,ntmps188;exact dW};rw[kfI a];unfold keX at a;simp only[List.forall_mem_cons,Gf,false_imp_iff,implies_true,and_true]at a;have⟨d,o,r,t,u,v,x,y,z,e,f,g,h,i,j,k,l,m,n,p,q⟩:=a;go_enter func188,ntmps188;exact dW
def q2i (s:Tb)(w:Tw):Calls prog 319 #[.string s] w λa b=>a=.returned (.bool (rsv s))/\b=w:=by refine qhn s _ (λA b c=>?_) (λa=>?_);{subst c;rw[qtc b];unfold keX at b;simp only[Vh,Gf,or_false]at b;rcases b with rfl | rfl | rfl | rfl | rfl | rfl | rfl | rfl | rfl | rfl | rfl | rfl | rfl | rfl | rfl | rfl | rfl | rfl | rfl | rfl | rfl;all_goals go_enter func319,ntmps319;exact dW};rw[kfI a];unfold keX at a;simp only[List.forall_mem_cons,Gf,false_imp_iff,implies_true,and_true]at a;have⟨d,o,r,t,u,v,x,y,z,e,f,g,h,i,j,k,l,m,n,p,q⟩:=a;go_enter func319,ntmps319;exact dW
def kf7 (p:Nat->Bool)(s:Tb)(i:Nat):Nat:=((s.data.toList.drop i).takeWhile λc=>p c.toNat).length
def khj (p:Nat->Bool)(l:List UInt8)(k:Nat)(c:k<=l.length)(e:∀b (a:b<l.length),b<k->p l[b].toNat=true)(g:∀a:k<l.length,p l[k].toNat=false):(l.takeWhile λd=>p d.toNat).length=k:=by induction l generalizing k with|nil=>simp at c;simp[c]|cons d j h=>cases k with|zero=>have:=g cw;simp at this;simp[this]|succ k=>have f:=e 0 cw cr;simp only[Vu]at f;rw[List.takeWhile_cons_of_pos (by simpa using f),Yz,h k df (λb a i=>e (b+1) cV cr) (λa=>g cV)]
def qtd {p:Nat->Bool}{s:Tb}{i k:Nat}(f:i+k<=s.size)(c:∀a (b:i+a<s.size),a<k->p (s[i+a]).toNat=true)(d:∀b:i+k<s.size,p (s[i+k]).toNat=false):kf7 p s i=k:=by have g:(s.data.toList.drop i).length=s.size - i:=cw;refine khj p _ k cr (λa b e=>?_) (λb=>?_);{rw[List.getElem_drop];exact c a cr e};rw[List.getElem_drop];exact d cr
def qte (p:Nat->Bool)(s:Tb)(i:Nat):kf7 p s i<=s.size - i:=by have:=(List.takeWhile_sublist (λa:UInt8=>p a.toNat) (l:=s.data.toList.drop i)).length_le;unfold kf7;simpa using this
def qmw (p:Nat->Bool)(s:Tb):kf7 p s 0=s.size ↔ (s.data.toList.all λb=>p b.toNat)=true:=by have e:s.size=s.data.toList.length:=cw;unfold kf7;rw[List.drop_zero,e];generalize s.data.toList=f;induction f with|nil=>simp|cons b g d=>by_cases a:p b.toNat=true;{rw[List.takeWhile_cons_of_pos cV,List.all_cons,a,Yz,Yz,Zb];exact⟨λc=>d.1 cr,λc=>by rw[d.2 c]⟩};rw[List.takeWhile_cons_of_neg cV];simp[a]
def q3v (s:Tb)(i:Nat)(w:Tw)(n:s.size<=9223372036854775807)(hi:i<=s.size):Calls prog 187 #[.string s,Yb i] w λc g=>c=.returned (Yb (kf7 ka7 s i))/\g=w:=by go_enter func187,ntmps187;go_wp2;go_loopw [5] (λe wr=>∃a:Nat,i+a<=s.size/\e=Yb a/\(∀b (d:i+b<s.size),b<a->ka7 (s[i+b]).toNat=true)/\wr=w) (λe _=>s.size - (intOf e).toNat);exact⟨0,cr,rfl,λb _ d=>absurd d (nL _),rfl⟩;obtain⟨a,m,rfl,h,rfl⟩:=hrel;have f:=h_ h;have o:wrap64 ((i:Int)+(a:Int))=((i+a:Nat):Int):=(by rw[q76 cr cr];omega);by_cases j:i+a<s.size;{have k:((i:Int)+a)<s.size:=cr;cases e:ka7 (s[i+a]).toNat;{go_wp2_with (go_at_call 225;refine(q2r _ _).mono ?_;rintro c g ⟨rfl,rfl⟩;rw[e]);go_ret;exact⟨qt9 (by rw[qtd cr f.u (λ_=>e)]),rfl⟩};go_wp2_with (go_at_call 225;refine(q2r _ _).mono ?_;rintro c g ⟨rfl,rfl⟩;rw[e]);go_roundw;exact⟨a+1,cr,cy,λb d l=>by by_cases c:b=a;{subst c;exact e};exact f b d cr,trivial⟩;simp[intOf];omega};have k:¬ ((i:Int)+a)<s.size:=cr;go_wp2;go_ret;exact⟨qt9 (by rw[qtd cr f.u (λb=>absurd b j)]),rfl⟩
