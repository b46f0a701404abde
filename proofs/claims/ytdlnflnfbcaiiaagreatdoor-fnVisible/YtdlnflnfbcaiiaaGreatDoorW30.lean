import Derived.Test.YtdlnflnfbcaiiaaGreatDoorW14
import Derived.Test.YtdlnflnfbcaiiaaGreatDoorW26
set_option linter.all false
set_option maxRecDepth 100000
set_option maxHeartbeats 0
namespace Go.Proofs.YtdlnflnfbcaiiaaGreatDoor
open Value renaming slice->Sl,string->St,bool->Bo
open Ending renaming returned->Rt
open Option renaming none->Nn,some->Sm
open Bool renaming true->Tt,false->Ff
section
open Go Go.RowKit Go.Proofs.Tryz
def IG (name:String)(w:Tw):Prop:=∃tp p,w.var? prog name=Sm #[.iface tp p]
theorem qok {w w' P W cs}(h:w.var? P W=Sm cs)(c:Bw w w'):w'.var? P W=Sm cs:=by unfold World.var? at h|-;cases H:P.globalNamed W with|none=>rw[H]at h;cases h|some g=>rw[H]at h;simp only[Option.bind_some]at h|-;have S:g<w.1.size:=(by apply Ow;intro D;rw[Ox D]at h;cases h);rw[c.block g S];exact h
def IG.mono {W w w'}(h:IG W w)(c:Bw w w'):IG W w':=by grind[IG,qok]
def jV {p:Prop}(h:p:=by rintro e d ⟨N,rfl,-,-,F⟩;have S:=h_ F;clear F J;go_wp2;exact bQ ⟨rfl,S⟩):p:=h
def jY {p:Prop}(h:p:=by have Z:=v.u;rw[rd,AG,J]at Z;simp only[O8]at Z;exact⟨Z.1.symm,Z.2.symm⟩):p:=h
def Av (s w)(B:s.size<=1048576)(h:RC w)(h1:IG "strconv.ErrSyntax" w)(r:IG "strconv.ErrRange" w)(x ok)(Q:rd s.data.toList=(x,ok)):Gv 299 #[St s] w (.tuple #[Ye x,Bo ok]):=by obtain⟨i,v⟩:=oB h Q;cases J:Lib.parseIntB 64 s.data.toList with|ok n=>have e:=Lib.parseIntB_bounds J;have P:xG n:=(by exact Dw);have C:=h_ P;go_enter func299,ntmps299;go_wp2_with fail;refine cQ (Tryz.strconv_ParseInt_10_at64_ok s fP n J w) λd q=>?_;have F:Bw w d:=(by rcases q with rfl|⟨t,rfl⟩;{exact bR _ _};exact Lib.bytesWorld_below _ _ _);have S:=h_ F;go_wp2_with fail;refine cQ (EU n _ C.1 C.2 (i.mono S)) λH V=>?_;have S:=mT S V;by_cases b:Lib.itoa n=s.data.toList;{have a:x=n/\ok=Tt:=(by have Z:=v.u;rw[rd,AG,J]at Z;simp only[Yz b,O8]at Z;exact⟨Z.1.symm,Z.2.symm⟩);obtain⟨rfl,rfl⟩:=a;have c:((⟨(Lib.itoa x).toArray⟩:Tb).toList==s.toList)=Tt:=(by rw[Zo,Zo,<- b];simp);obtain⟨T,I⟩:∃T:Tb,T=⟨(Lib.itoa x).toArray⟩:=⟨_,rfl⟩;rw[<- I]at c|-;clear I b J;go_wp2;exact bQ ⟨rfl,S⟩};have a:x=0/\ok=Ff:=(by have Z:=v.u;rw[rd,AG,J]at Z;simp only[Ys b,O8]at Z;exact⟨Z.1.symm,Z.2.symm⟩);obtain⟨rfl,rfl⟩:=a;have c:((⟨(Lib.itoa n).toArray⟩:Tb).toList==s.toList)=Ff:=(by rw[Zo,Zo,Yk];simpa using b);obtain⟨T,I⟩:∃T:Tb,T=⟨(Lib.itoa n).toArray⟩:=⟨_,rfl⟩;rw[<- I]at c|-;clear I b J;go_wp2;exact bQ ⟨rfl,S⟩|«syntax»=>obtain⟨g,p,I⟩:=h1;have a:x=0/\ok=Ff:=(by exact jY);obtain⟨rfl,rfl⟩:=a;go_enter func299,ntmps299;go_wp2_with fail;refine(Tryz.strconv_ParseInt_10_at64_syntax_var s fP J g p w I).mono ?_;exact jV|range=>obtain⟨g,p,I⟩:=r;have a:x=0/\ok=Ff:=(by exact jY);obtain⟨rfl,rfl⟩:=a;go_enter func299,ntmps299;go_wp2_with fail;refine(Tryz.strconv_ParseInt_10_at64_range_var s fP J g p w I).mono ?_;exact jV
def I6 (n:Int):Prop:=-9223372036854775808<=n/\n<=9223372036854775807
def O1 (u:Vx):Prop:=Z1 u.k u.n u.s=Tt/\I6 u.n
theorem EG (b):O1 (C2 b):=by cases b <;> exact⟨fS,fS,fS⟩
theorem BE {n}(h:1<=n/\n<=5):O1 (C1 n):=⟨by simp[Z1,C1,h];rfl,by show -9223372036854775808<=n;omega,by show n<=9223372036854775807;omega⟩
theorem tO:O1 N4:=⟨fS,fS,fS⟩
theorem TM {n}(h:I6 n):O1 (T4 n):=⟨by simp[Z1,T4];rfl,h⟩
theorem UM (n):O1 (Q4 n):=by grind[Q4,qC,I6,O1,TM,BE]
theorem LS {s}(h:T7 s=Tt):O1 (RB s):=⟨by simp[Z1,RB,h],by show -9223372036854775808<=(0:Int);decide,by show(0:Int)<=9223372036854775807;decide⟩
def FX {f m u}(h:∀i,i<m->O1 (f i))(e:CD f m=Sm u):O1 u:=by grind[O1,CD]
def Tr (l):I6 (rd l).1:=by unfold rd;cases h:AG l with|none=>exact⟨fS,fS⟩|some n=>unfold AG at h;split at h;{rename_i m hm;split at h;{simp only[Oo]at h;subst h;have hb:=Lib.parseIntB_bounds hm;have:(2:Nat) ^ (64 - 1)=9223372036854775808:=rfl;unfold I6;simp only;omega};cases h};cases h
def qks (n){c}(N:c∈Lib.itoa n):45<=c.toNat/\c.toNat<=57:=by by_cases P:n<0;{obtain⟨t,e,rfl⟩:=(MI n).1 P;rw[e]at N;rcases Vf.1 N with rfl|N;{decide};have:=(NR n.natAbs).1 c N;omega};rw[((MI n).2 P).1]at N;have:=(NR n.natAbs).1 c N;omega
theorem qft {n}(h:I6 n):T7 ⟨(Lib.itoa n).toArray⟩=Tt:=by rw[T7,Yx,Zd];refine⟨Yo (by have:=Lib.itoa_length_le n h.1 h.2;show(Lib.itoa n).toArray.size<=1000;simp;omega),λc N=>?_⟩;have m:=qks n (by simpa using N);exact Yo fP
theorem qiz {s t}(B:T7 s=Tt)(r:T7 t=Tt)(h:¬ 1000<s.size+t.size):T7 (s++t)=Tt:=by simp_all[T7]
def Li {u:Vx}(h:Z1 u.k u.n u.s=Tt)(a:u.k=3):T7 u.s=Tt:=by grind[Z1]
def Hl (op){x}(h:I6 x):O1 (XJ op x):=by grind[XJ,I6,O1,UM,LS,qft,BE]
def Il (op){x y}(u:I6 x)(hy:I6 y):O1 (YC op x y):=by unfold YC;have c:∀a b:Int,I6 a->I6 b->I6 (if x<y then a else b):=λa b K a=>(by split <;> assumption);have b:∀z,O1 (if y=0 then C1 3 else Q4 z):=λz=>(by split;exact BE fS;exact UM z);by_cases K:op=4;{rw[Yz K];exact UM _};by_cases G:op=7;{rw[Ys K,Yz G];exact UM _};by_cases a:op=8;{rw[Ys K,Ys G,Yz a];exact UM _};by_cases h:op=5;{rw[Ys K,Ys G,Ys a,Yz h];exact b _};by_cases g:op=6;{rw[Ys K,Ys G,Ys a,Ys h,Yz g];exact b _};rw[Ys K,Ys G,Ys a,Ys h,Ys g];by_cases U:op=10;{rw[Yz U];exact EG _};rw[Ys U];by_cases f:op=11;{rw[Yz f];exact EG _};rw[Ys f];by_cases I:op=12;{rw[Yz I];exact EG _};rw[Ys I];by_cases C:op=13;{rw[Yz C];exact EG _};rw[Ys C];by_cases q:op=17;{rw[Yz q];exact TM (c _ _ u hy)};rw[Ys q];by_cases r:op=18;{rw[Yz r];exact TM (c _ _ hy u)};rw[Ys r];exact BE fS
def qr1 (op){p}(h:O1 p)(a:p.k=3):O1 (BI op p):=by unfold BI;(repeat' split);{have:=TO h.1 a;exact TM ⟨fP,fP⟩};{exact TM (Tr _)};{exact BE fS};{exact h};exact BE fS
def qr2 (op){s t}(B:T7 s=Tt)(r:T7 t=Tt):O1 (uI op s t):=by grind[uI,T7,O1,BE,EG,LS,qiz]
def qqy (op p):O1 (QJ op p):=by unfold QJ;(repeat' split);all_goals first|exact BE fS|exact EG _|exact LS fS
def qqz (op x y):O1 (pL op x y):=by grind[pL,O1,BE,EG]
def VX (p q):O1 (VF p q)/\O1 (ZF p q):=by grind[VF,ZF,O1,BE,EG,tO]
def LW {f m R}(h:∀i,i<m->O1 (f i))(g:O1 R):O1 (qH f m R):=by unfold qH;cases e:CD f m with|none=>exact g|some u=>exact FX h e
def qix {op}{m:Nat}{f}(w:ar op=m)(h1:1<=m)(h:∀i,i<m->O1 (f i)):O1 (Q5 op m f):=by have u:=TX op;unfold Q5;by_cases c:op=25;{rw[Yz c];exact EG _};rw[Ys c];by_cases p:op=16;{rw[Yz p];unfold pH;(repeat' split);all_goals first|exact BE fS|exact h _ fP};rw[Ys p];by_cases Z:op=19;{rw[Yz Z];unfold NJ;split;all_goals exact h _ fP};rw[Ys Z];by_cases a:op=24;{rw[Yz a];exact LW h (EG _)};rw[Ys a];by_cases Y:op=14;{rw[Yz Y];exact LW h (VX _ _).1};rw[Ys Y];by_cases b:op=15;{rw[Yz b];exact LW h (VX _ _).2};rw[Ys b];unfold nE;cases g:CD f m with|some d=>exact FX h g|none=>dsimp only;by_cases d:UF f m=Tt;{rw[Yz d];exact tO};rw[Ys d];by_cases e:E1 f m 1=Tt;{rw[Yz e];unfold R1;split;{exact Hl _ (h 0 fP).2};exact Il _ (h 0 fP).2 (h 1 fP).2};rw[Ys e];by_cases T:E1 f m 3=Tt;{rw[Yz T];unfold R3;split;{exact qr1 _ (h 0 fP) (WB T fP)};exact qr2 _ (Li (h 0 fP).1 (WB T fP)) (Li (h 1 fP).1 (WB T fP))};rw[Ys T];by_cases v:E1 f m 2=Tt;{rw[Yz v];unfold R2;split;{exact qqy _ _};exact qqz _ _ _};rw[Ys v];exact BE fS
end
section
open Go Go.Proofs.Tryz
def DA:Vx:=⟨0,0,⟨#[]⟩⟩
section
variable (ap:Int->List Vx->Vx)
def FI (lk:Tb->Vx)(n:Nx)(a:List Vx):Vx:=if n.op=0 then n.v else if n.op=1 then lk n.nm else ap n.op a
def lB (lk:Tb->Vx)(e:Nat->Nx):Nat->List Vx
 | 0=>[]
 | n+1=>FI ap lk (e n) ((lB lk e n).take (M0 (e n))).reverse :: (lB lk e n).drop (M0 (e n))
def EA (lk:Tb->Vx)(e:Nat->Nx)(n:Nat):Vx:=(lB ap lk e n).headD DA
variable {ap}
def pX (lk e n):lB ap lk e n=(T1 e n).map (EA ap lk e):=by induction n <;> simp_all[lB,T1,EA]
def oX (lk e n):(lB ap lk e n).length=(T1 e n).length:=by simp[pX]
def Ae (lk e n):EA ap lk e (n+1)=FI ap lk (e n) (((T1 e n).take (M0 (e n))).reverse.map (EA ap lk e)):=by rw[List.map_reverse,List.map_take,<- pX];rfl
theorem qik {lk T e n}(h:∀k,k<n->(e k).op=1->lk (e k).nm=T (e k).nm):lB ap lk e n=lB ap T e n:=by induction n <;> grind[FI,lB]
variable (ap)
def M5 (lk:Tb->Vx)(l:List Nx):Vx:=EA ap lk (nf l) l.length
variable {ap}
theorem SY {l k}(h:k<l.length):nf l k=l[k]:=by grind[nf]
def Nc {lk T l}(h:∀x,x∈l->x.op=1->lk x.nm=T x.nm):M5 ap lk l=M5 ap T l:=by grind[M5,EA,qik,SY]
def PH (m:Fm)(x:Tb):Nat:=(P0 m).findIdx λy=>decide (y=x)
def E2 (m:Fm)(s:Nat->Bool × Vx)(x:Tb):Vx:=if PH m x<m.F.length then (if (s (PH m x)).1=Tt then (s (PH m x)).2 else DA) else DA
def Cd {m s R x}(h:∀j,j<m.F.length->(A0 m j).nm=x->s j=R j):E2 m s x=E2 m R x:=by grind[E2,PH,P0,A0]
variable (ap) (RK:Vx->Bool) (errT:Vx)
def LG (m:Fm)(inp:Nat->Vx)(s:Nat->Bool × Vx)(k:Nat):Bool × Vx :=
 (decide ((A0 m k).wh.length=0)||RK (M5 ap (E2 m s) (A0 m k).wh),
  if (A0 m k).is.length=0 then inp k else if (M5 ap (E2 m s) (A0 m k).is).k≠0/\(M5 ap (E2 m s) (A0 m k).is).k≠4/\(M5 ap (E2 m s) (A0 m k).is).k≠(A0 m k).ty then errT else M5 ap (E2 m s) (A0 m k).is)
variable {ap RK errT}
def Xb {m r s R k}(h:∀j,j<m.F.length->m6 m j k=Tt->s j=R j):LG ap RK errT m r s k=LG ap RK errT m r R k:=by have b:M5 ap (E2 m s) (A0 m k).wh=M5 ap (E2 m R) (A0 m k).wh:=Nc λx u T=>Cd λj a e=>h j a (by unfold m6 NA;rw[Zv];exact .inr (Gf.2 ⟨x,u,by simp[T,e]⟩));have c:M5 ap (E2 m s) (A0 m k).is=M5 ap (E2 m R) (A0 m k).is:=Nc λx u T=>Cd λj a e=>h j a (by unfold m6 NA;rw[Zv];exact .inl (Gf.2 ⟨x,u,by simp[T,e]⟩));unfold LG;rw[b,c]
end
section
variable {α:Type} (F:(Nat->α)->Nat->α)
def JD (s:Nat->α)(k:Nat):Nat->α:=λi=>if i=k then F s k else s i
def xC (D:List Nat)(s0:Nat->α):Nat->Nat->α
 | 0=>s0
 | r+1=>λk=>if k∈D then F (xC D s0 r) k else xC D s0 r k
variable {F}
def OV {D:List Nat}{s k}(h:k ∉ D):D.foldl (JD F) s k=s k:=by induction D generalizing s <;> simp_all[JD]
def Xi {D s0 k}(h:k ∉ D)(r):xC F D s0 r k=s0 k:=by induction r with|zero=>rfl|succ r q=>show(if k∈D then _ else _)=_;rw[Ys h,q]
def Bp {fed:Nat->Nat->Prop}(o:∀s R k,(∀j,fed j k->s j=R j)->F s k=F R k){D}(b:D.Nodup)(U:∀i (h:i<D.length) j,fed j D[i]->j∈D.take i\/j ∉ D)(s0){r}(Q:D.length<=r)(k):xC F D s0 r k=D.foldl (JD F) s0 k:=by have v:∀i,∀j,(j∈D.take i\/j ∉ D)->(D.take i).foldl (JD F) s0 j=D.foldl (JD F) s0 j:=(by intro i j s;have e:D.foldl (JD F) s0=(D.drop i).foldl (JD F) ((D.take i).foldl (JD F) s0):=(by rw[<- List.foldl_append,Vi]);rw[e];refine(OV ?_).symm;rcases s with s|s;{intro q;have:=b;rw[<- Vi i D,List.nodup_append]at this;exact this.2.2 j s j q rfl};exact λq=>s (List.mem_of_mem_drop q));have B:∀i (h:i<D.length),D.foldl (JD F) s0 D[i]=F (D.foldl (JD F) s0) D[i]:=(by intro i h;have m:=v (i+1) _ (.inl (List.mem_take_iff_getElem.2 ⟨i,fP,rfl⟩));rw[<- m,Y2 h,List.foldl_append];show(if D[i]=D[i] then _ else _)=_;rw[Yz rfl];exact o _ _ _ λj s=>v i j (U i h j s));have c:∀r i (h:i<D.length),i<r->xC F D s0 r D[i]=D.foldl (JD F) s0 D[i]:=(by intro r;induction r with|zero=>intro i h C;omega|succ r a=>intro i h C;show(if D[i]∈D then _ else _)=_;rw[Yz (Yq h),B i h];refine o _ _ _ λj s=>?_;rcases U i h j s with s|s;{obtain⟨q,P,e⟩:=List.mem_take_iff_getElem.1 s;have w:=Nat.lt_min.1 P;rw[<- e];exact a q w.2 fP};rw[Xi s,OV s]);by_cases a:k∈D;{obtain⟨i,C,rfl⟩:=Y8.1 a;exact c r i C fP};rw[Xi a,OV a]
end
end
section
open Go Go.RowKit Go.Proofs.Tryz
def O2 (op:Int)(l:List Vx):Vx:=Q5 op l.length λi=>l.getD i DA
theorem ZX:O1 DA:=⟨fS,fS,fS⟩
def pN {m s}(h:∀j,j<m.F.length->O1 (s j).2)(x):O1 (E2 m s x):=by grind[E2,O1,ZX]
def qls {n}(h:t7 n=Tt)(D:n.op=0)(U:I6 n.v.n):O1 n.v:=by grind[t7,I6,O1]
def TW {n}(h:t7 n=Tt)(D:¬ n.op=0)(h1:¬ n.op=1):2<=n.op/\n.op<=25:=by grind[t7]
def kY {op}(h:2<=op/\op<=25):1<=ar op:=by grind[ar]
def Se {H r:Type}(f:H->r)(l:List H)(i)(h:i<l.length)(d):(l.map f).getD i d=f l[i]:=by grind
def KM {lk e n}(t:DE e n)(B:xB e n)(U:∀k,k<n->I6 (e k).v.n)(F:∀x,O1 (lk x)):∀a,a<=n->O1 (EA O2 lk e a):=by intro a;induction a using Nat.strongRecOn with|_ a ih=>intro P;cases a with|zero=>exact ZX|succ a=>rw[Ae];have T:=t a fP;unfold FI;by_cases D:(e a).op=0;{rw[Yz D];exact qls T D (U a fP)};rw[Ys D];by_cases m:(e a).op=1;{rw[Yz m];exact F _};rw[Ys m];have b:((T1 e a).take (M0 (e a))).reverse.length=M0 (e a):=(by have:=B a fP;rw[Zh,Za];omega);have h:=kY (TW T D m);have K:(M0 (e a):Int)=ar (e a).op:=(by unfold M0;omega);refine qix (by rw[Zc,b,K]) (by rw[Zc,b];unfold M0;omega) λi C=>?_;rw[Zc]at C;rw[Se _ _ _ C];have w:=Yq C;rw[Of]at w;obtain⟨j,s,Z⟩:=Y8.1 (Vl w);have r:=(oM e a j s).2;rw[Z]at r;exact ih _ fP fP
def pK (n w):Gv 210 #[Ye n] w (vv (C1 n)):=by go_enter func210,ntmps210;go_wp2;exact bodyPost_ret (v:=.agg #[Ye 4,Ye n,Yg]) (by simp[results,results210,go_sem, *]) rfl ⟨rfl,Bq⟩
def mE (op:Int):Bool:=op==25||op==16||op==19
def YA (op:Int):Bool:=mE op||op==24||op==14||op==15
def NZ (op w):Calls prog 206 #[Ye op] w λe j=>e=Rt (Bo (mE op))/\j=w:=by have a:mE op=(op==25||op==16||op==19):=rfl;rw[a];cases m:op==25 <;> cases r:op==16 <;> cases Z:op==19;all_goals ( go_enter func206,ntmps206;go_wp2;go_ret;exact⟨fY,rfl⟩)
def MZ (op w):Calls prog 208 #[Ye op] w λe j=>e=Rt (Bo (YA op))/\j=w:=by have a:YA op=(mE op||op==24||op==14||op==15):=rfl;rw[a];cases D:mE op <;> cases m:op==24 <;> cases r:op==14 <;> cases Z:op==15;all_goals ( go_enter func208,ntmps208;go_wp2_with fail;refine cQ (NZ op w) λb W=>?_;rw[W,D];go_wp2;go_ret;exact⟨fY,rfl⟩)
def ST (a m c w):Calls prog 263 #[Sl a m c] w λe j=>e=Rt (Bo Tt)/\j=w:=by go_enter func263,ntmps263;go_wp2;go_ret;exact kV
def Ps (b o m c p w)(d:1<=m)(D:P2 w b o p):Calls prog 259 #[Sl (Sm (Aq b o)) m c] w λe j=>e=Rt (Bo (p.k != 1&&p.k != 3))/\j=w:=by obtain⟨-,Y,c1,c2⟩:=D;cases a:p.k != 1 <;> cases Z:p.k != 3;all_goals ( go_enter func259,ntmps259;go_wp2;go_ret;exact⟨by first|rfl|simp[a,Z],rfl⟩)
def VP (n b w):Gv 295 #[Ye n,Bo b] w (vv (if b then T4 n else C1 2)):=by obtain⟨W,H,r,c⟩:=nV w 46 Jd;obtain⟨l,a⟩:=oB c r;cases b;{rw[Ys fS];go_enter func295,ntmps295;go_wp2_with fail;refine cQ (pK 2 W) λe c=>?_;have u:=mB a c;have M:=mT l c;obtain⟨N,J,d⟩:=T0 u;have g:=u.free 0;have f:=u.free 1;have L:=u.free 2;unfold vv C1;go_wp2;exact bodyPost_ret (v:=.agg #[Ye 4,Ye 2,Yg]) (by simp[results,results295,go_sem, *]) rfl ⟨rfl,L9 M _ _ _⟩};rw[Yz rfl];go_enter func295,ntmps295;go_wp2_with fail;refine cQ (wN n W) λe c=>?_;have u:=mB a c;have M:=mT l c;obtain⟨N,J,d⟩:=T0 u;have g:=u.free 0;have f:=u.free 1;have L:=u.free 2;go_wp2;exact bodyPost_ret (v:=.agg (Yb n)) (by simp[results,results295,go_sem, *]) rfl ⟨rfl,L9 M _ _ _⟩
variable {p:Prop}
def jX(h:p:=by go_enter func292,ntmps292;go_wp2;go_ret;exact⟨by first|rw[Z]|simp,rfl⟩):p:=h
def jZ(h:p:=by have:=C.u;exact D1):p:=h
def uN (n w)(h:-9223372036854775808<=n/\n<=9223372036854775807):Calls prog 292 #[Ye n] w λe j=>e=Rt (.int .u64 (n.natAbs:Int))/\j=w:=by have C:=h_ h;by_cases D:n<0;{have Z:IntKind.u64.wrap (-(IntKind.u64.wrap n))=(n.natAbs:Int):=(by exact jZ);exact jX};have Z:IntKind.u64.wrap n=(n.natAbs:Int):=(by exact jZ);exact jX
def qmh {n:Nat}(_h:n<18446744073709551616):(if decide ((n:Int)<=9223372036854775807) then T4 (wrap64 (n:Int)) else C1 2)=Q4 (n:Int):=by grind[Q4,qC,T4,C1,RE]
def qlf {n:Nat}(h:n<18446744073709551616):(if decide ((n:Int)<=9223372036854775808) then T4 (wrap64 (-(wrap64 (n:Int)))) else C1 2)=Q4 (-(n:Int)):=by unfold Q4 qC;by_cases B:(n:Int)<=9223372036854775808;{have e:wrap64 (-(wrap64 (n:Int))) = -(n:Int):=(by by_cases f:(n:Int)=9223372036854775808;{rw[f];unfold wrap64;omega};rw[RE (x:=(n:Int)) fP fP,RE fP fP]);rw[Yz (Yo B),Yz (Yo ⟨fP,fP⟩),e]};rw[Ys (by simpa using B),Ys fX]
def jU(h:p:=by have j:=h_ b;rw[b];unfold vv;go_wp2;exact bodyPost_ret (v:=.agg (Jc a.k a.n a.s)) (by simp[results,results291,go_sem, *]) rfl ⟨by rw[j.u];rfl,L9 M _ _ _⟩):p:=h
def WT (W:Nat)(neg w)(i:W<18446744073709551616):Gv 291 #[.int .u64 (W:Int),Bo neg] w (vv (Q4 (if neg then -(W:Int) else W))):=by have C:=h_ i;obtain⟨e,H,r,c⟩:=nV w 46 Jd;obtain⟨l,d⟩:=oB c r;cases neg;{rw[Ys fS];go_enter func291,ntmps291;go_wp2_with fail;refine(VP (wrap64 (W:Int)) (decide ((W:Int)<=9223372036854775807)) e).mono ?_;rw[show(if decide ((W:Int)<=9223372036854775807) then T4 (wrap64 (W:Int)) else C1 2)=Q4 ((W:Int)) from qmh C.u];rintro f o ⟨rfl,c⟩;have u:=mB d c;have M:=mT l c;obtain⟨N,J,m⟩:=T0 u;have g:=u.free 0;have h:=u.free 1;have L:=u.free 2;obtain⟨a,b⟩:=Nq (Q4 ((W:Int)));exact jU};rw[Yz rfl];go_enter func291,ntmps291;go_wp2_with fail;refine(VP (wrap64 (-(wrap64 (W:Int)))) (decide ((W:Int)<=9223372036854775808)) e).mono ?_;rw[show(if decide ((W:Int)<=9223372036854775808) then T4 (wrap64 (-(wrap64 (W:Int)))) else C1 2)=Q4 (-(W:Int)) from qlf C.u];rintro f o ⟨rfl,c⟩;have u:=mB d c;have M:=mT l c;obtain⟨N,J,m⟩:=T0 u;have g:=u.free 0;have h:=u.free 1;have L:=u.free 2;obtain⟨a,b⟩:=Nq (Q4 (-(W:Int)));exact jU
def nP (f:Nat->Vx)(m:Nat)(kind r:Int):Prop :=
 (∃k:Nat,k<m/\r=k/\(f k).k=kind/\∀j,j<k->¬ (f j).k=kind)\/(r = -1/\∀j,j<m->¬ (f j).k=kind)
def qc3 (u:Vx)(F X w)(G:X<w.1.size)(N:w.cell? (Aq X 0)=Sm (Ye F)):Gv 238 #[.agg (Jc u.k u.n u.s),Yh X 0] w (Bo (u.k==F)):=by have l:∀o,Hi (Bw w (w.alloc o)):=λo=>h_ (Bq);go_enter func238,ntmps238;go_wp2;go_ret;exact⟨rfl,u_ (l _)⟩
def Rw (a m c X f F w)(x:m<=1048576)(K:N2 w a m f)(G:X<w.1.size)(N:w.cell? (Aq X 0)=Sm (Ye F)):Calls prog 237 #[Sl a m c,.func (.func 238) #[] #[Yh X 0]] w λg j=>∃r,g=Rt (Ye r)/\nP f m F r/\Bw w j:=by obtain⟨B,d⟩:=oB K (And.intro G N);go_enter func237,ntmps237;go_wp2;go_loopw [5,8] (λ_ i wr=>∃k:Nat,k<=m/\i=Ye k/\(∀j,j<k->¬ (f j).k=F)/\Bw w wr) (λ_ i _=>m - (intOf i).toNat);exact⟨0,nZ _,rfl,λj n=>absurd n (nL _),bR _ _⟩;obtain⟨k,v,rfl,r,b⟩:=hrel;obtain⟨e,l⟩:=oB r b;have q:=B.mono b;have Y:=Yw d.1 b.size;have Z:=(b.cell (p:=Aq X 0) d.1).trans d.2;obtain⟨o,i⟩:=oB q (And.intro Y Z);by_cases S:k<m;{have M:(k:Int)<m:=fP;obtain⟨t,y,rfl,-,u,c1,c2⟩:=o k S;go_wp2_with fail;refine cQ (qc3 (f k) F X wr i.1 i.2) λH b=>?_;have P:=mT l b;by_cases J:(f k).k=F;{have h:((f k).k==F)=Tt:=beq_iff_eq.2 J;rw[h];have s:Hi (nP f m F k):=h_ (.inl ⟨k,S,rfl,J,e⟩);go_wp2;go_ret;exact⟨_,rfl,s,P⟩};have h:((f k).k==F)=Ff:=Yk.2 J;rw[h];have A:Hi (∀j,j<k+1->¬ (f j).k=F):=h_ λj n=>(by by_cases g:j=k;{rw[g];exact J};exact e j fP);go_wp2;go_roundw;exact⟨k+1,fP,fU,A,P⟩;exact kZ};obtain rfl:k=m:=fP;have s:Hi (nP f k F (-1)):=h_ (.inr ⟨rfl,e⟩);go_wp2;go_ret;exact⟨_,rfl,s,l⟩
def TT (a m c f F w)(d:m<=1048576)(K:N2 w a m f):Calls prog 207 #[Sl a m c,Ye F] w λe j=>∃r,e=Rt (Ye r)/\nP f m F r/\Bw w j:=by obtain⟨W,H⟩:=Nq (w.alloc (.cells #[Ye F] 3));have b:=nB H;have L:=nK H;obtain⟨j,M,l⟩:=oC (K.mono b) L b;go_enter func207,ntmps207;go_wp2_with fail;refine(Rw a m c w.1.size f F W d j M.lt (M.cell 0)).mono ?_;rintro e g ⟨r,rfl,Q,b⟩;have v:=h_ Q;have h:=mT l b;go_wp2;go_ret;exact⟨r,rfl,v,h⟩
def PE {F args w R}(h:∀z W,Hi (R=z)->w.alloc (.cells Jd 46)=W->Hi (RW w W)->Gv F args w (.agg (Jc z.k z.n z.s))):Gv F args w (vv R):=by obtain⟨W,H,g⟩:=RW.start w;exact h R W (h_ rfl) H (h_ g)
def ab {w b o p q}(D:P2 w b o p)(h1:P2 w b (o+3) q):∀j,Bw w j->(j.cell? (Aq b o)=Sm (Ye p.k)/\j.cell? (Aq b (o+1))=Sm (Ye p.n)/\j.cell? (Aq b (o+2))=Sm (St p.s))/\j.cell? (Aq b (o+3))=Sm (Ye q.k)/\j.cell? (Aq b (o+3+1))=Sm (Ye q.n)/\j.cell? (Aq b (o+3+2))=Sm (St q.s) :=
 λ_ c=>⟨(D.mono c).2,(h1.mono c).2⟩
def RW.drew {w W}(h:RW w W):RW w W.drew:=h.mono (bR _ _).drew
def MG {id Y Q a w W}(g:RW w W)(h:Bw w W.drew->wpAnyH prog .any Y Q (λj=>Bw w j) Y.size (Array.replicate Y.size Ff) a W.drew)(b:prog.follows .mixedOrders=Tt:=by kernel_rfl):(Code.region id Y Tt).wp prog Q a W :=
 wp_region_held_drew b g.B.drew h
def AT {q Y Q}{l x:Tl}{lb H:List Bool}{fuel w W o F args v}(i d)(g:RW w W)(N:Gv F args W v) (h:∀y,RW w y->wpAnyH prog q Y Q (λj=>Bw w j) fuel H.toArray { tmps:=x.toArray,defers:=[] } y) (hi:Y[i]? = Sm o:=by exact rfl) (b:o.dst=Sm d:=by exact rfl) (m:Region.wanted o (yielded Y l.toArray)=Tt:=by rfl) (k:Region.ready q Y lb.toArray=[i]:=by kernel_rfl) (hrun:(execOp (Act.eval { tmps:=l.toArray,defers:=[] }) o).run prog W=.ok (.enter F args) W:=by exact KJ) (e:l.set d v=x:=by(first|simp only[Yi,Yj]|skip);rfl) (c:lb.set i Tt=H:=by(first|simp only[Yi,Yj]|skip);rfl):wpAnyH prog q Y Q (λj=>Bw w j) (fuel+1) lb.toArray { tmps:=l.toArray,defers:=[] } W:=by refine DG (a:={ tmps:=l.toArray,defers:=[] }) (R:=λu f=>u=v/\Bw W f) d hi b m k hrun (N.mono λn j ⟨f,c⟩=>⟨_,f,rfl,c⟩) ?_;rintro u I ⟨rfl,S⟩;have y:=g.mono S;refine⟨y.B,?_⟩;have:=h I y;rw[<- e,<- c,<- Y9,<- Y9]at this;exact this
def YS {b}(z)(h:C2 b=z):RD 101 #[Bo b] z:=by subst h;exact LC b
def oZ {n}(z)(h:T4 n=z):RD 294 #[Ye n] z:=by grind[T4,RD,wN]
def pZ {n}(z)(h:C1 n=z):RD 210 #[Ye n] z:=by subst h;exact pK n
def Rr {s}(z)(h:RB s=z):RD 287 #[St s] z:=by subst h;exact vU s
def qU (a m c f F w)(q:m<=1048576)(K:N2 w a m f):Gv 290 #[Sl a m c,Ye F] w (Bo (E1 f m F)):=by have B:=h_ K;go_enter func290,ntmps290;go_wp2;go_loopw [9] (λi wr=>∃k:Nat,k<=m/\i=Ye k/\(∀j,j<k->(f j).k=F)/\N2 wr a m f/\Bw w wr) (λi _=>m - (intOf i).toNat);exact⟨0,nZ _,rfl,λj s=>absurd s (nL _),B,bR _ _⟩;obtain⟨k,o,rfl,g,I,i⟩:=hrel;obtain⟨e,b,l⟩:=oC g I i;by_cases S:k<m;{have p:(k:Int)<m:=fP;obtain⟨n,r,rfl,-,Y,c1,c2⟩:=b k S;have M:∀x,Hi (Bw wr (wr.alloc x)):=λx=>h_ (Bq);have h:∀x,Hi (Bw w (wr.alloc x)):=λx=>h_ (l.alloc l.size x);by_cases J:(f k).k=F;{have A:Hi (∀j,j<k+1->(f j).k=F):=h_ λj s=>(by by_cases d:j=k;{rw[d];exact J};exact e j fP);have d:=beq_iff_eq.2 J;go_wp2;go_roundw;exact⟨k+1,fP,fU,A,b.mono (u_ (M _)),u_ (h _)⟩;exact kZ};have C:=h_ (yW S J);go_wp2;go_ret;exact⟨by rw[C.u];rfl,u_ (h _)⟩};obtain rfl:k=m:=fP;have y:=h_ (Be e);go_wp2;go_ret;exact⟨by rw[y.u];rfl,l⟩
def jW(h:p:=by have l:=h_ b;exact Kx):p:=h
def SG (a m c f w)(d:m<=1048576)(K:N2 w a m f):Gv 239 #[Sl a m c] w (Bo (E1 f m 1)):=by have B:=h_ K;go_enter func239,ntmps239;go_wp2_with fail;refine cQ (qU a m c f 1 w d B) λe b=>?_;exact jW
def m_ (a m c f w)(d:m<=1048576)(K:N2 w a m f):Gv 241 #[Sl a m c] w (Bo (E1 f m 2)):=by have B:=h_ K;go_enter func241,ntmps241;go_wp2_with fail;refine cQ (qU a m c f 2 w d B) λe b=>?_;exact jW
def JL (a m c f w)(d:m<=1048576)(K:N2 w a m f):Gv 248 #[Sl a m c] w (Bo (E1 f m 3)):=by have B:=h_ K;go_enter func248,ntmps248;go_wp2_with fail;refine cQ (qU a m c f 3 w d B) λe b=>?_;exact jW
def j4(h:p:=by go_wp2;go_ret;exact⟨by simp[d,v],h⟩):p:=h
def wU (a m c f w)(e:m<=1048576)(K:N2 w a m f):Gv 250 #[Sl a m c] w (Bo (E1 f m 1||E1 f m 2||E1 f m 3)):=by have B:=h_ K;go_enter func250,ntmps250;go_wp2_with fail;refine cQ (SG a m c f w e B) λg b=>?_;obtain⟨M,S⟩:=oB b (B.mono b);cases d:E1 f m 1 with|true=>go_wp2;go_ret;exact⟨by simp[d],M⟩|false=>go_wp2_with fail;refine cQ (m_ a m c f g e S) λH b=>?_;have h:=mT M b;have U:=h_ (S.mono b);cases v:E1 f m 2 with|true=>exact j4|false=>go_wp2_with fail;refine cQ (JL a m c f H e U) λX b=>?_;have E:=mT h b;cases T:E1 f m 3 with|true=>go_wp2;go_ret;exact⟨by simp[d,v,T],E⟩|false=>go_wp2;go_ret;exact⟨by simp[d,v,T],E⟩
def CZ (a m c f w)(e:m<=1048576)(K:N2 w a m f):Gv 253 #[Sl a m c] w (Bo (E1 f m 1||E1 f m 3)):=by have B:=h_ K;go_enter func253,ntmps253;go_wp2_with fail;refine cQ (SG a m c f w e B) λg b=>?_;obtain⟨M,S⟩:=oB b (B.mono b);cases d:E1 f m 1 with|true=>go_wp2;go_ret;exact⟨by simp[d],M⟩|false=>go_wp2_with fail;refine cQ (JL a m c f g e S) λH b=>?_;have h:=mT M b;cases v:E1 f m 3 with|true=>exact j4|false=>exact j4
def yI (f:Nat->Vx):Nat->Bool
 | 0=>Tt
 | m+1=>yI f m&&((f m).k==2||(f m).k==0)
def Cc {f m}:yI f m=Tt ↔ ∀j,j<m->((f j).k=2\/(f j).k=0):=by induction m <;> grind[yI]
def BZ (a m c f w)(v:m<=1048576)(K:N2 w a m f):Gv 256 #[Sl a m c] w (Bo (yI f m)):=by have B:=h_ K;go_enter func256,ntmps256;go_wp2;go_loopw [7] (λi wr=>∃k:Nat,k<=m/\i=Ye k/\(∀j,j<k->((f j).k=2\/(f j).k=0))/\N2 wr a m f/\Bw w wr) (λi _=>m - (intOf i).toNat);exact⟨0,nZ _,rfl,λj s=>absurd s (nL _),B,bR _ _⟩;obtain⟨k,r,rfl,i,I,n⟩:=hrel;obtain⟨d,b,l⟩:=oC i I n;by_cases S:k<m;{have t:(k:Int)<m:=fP;obtain⟨q,y,rfl,-,Y,c1,c2⟩:=b k S;have M:∀x,Hi (Bw wr (wr.alloc x)):=λx=>h_ (Bq);have h:∀x,Hi (Bw w (wr.alloc x)):=λx=>h_ (l.alloc l.size x);by_cases J:(f k).k=2\/(f k).k=0;{have A:Hi (∀j,j<k+1->((f j).k=2\/(f j).k=0)):=h_ λj s=>(by by_cases e:j=k;{rw[e];exact J};exact d j fP);rcases J with J|J;{have j:((f k).k==2)=Tt:=beq_iff_eq.2 J;have g:((f k).k != 2)=Ff:=(by rw[bne,j];rfl);go_wp2;go_roundw;exact⟨k+1,fP,fU,A,b.mono (u_ (M _)),u_ (h _)⟩;exact kZ};have j:((f k).k==2)=Ff:=(by rw[J];rfl);have g:((f k).k != 2)=Tt:=(by rw[bne,j];rfl);have o:=beq_iff_eq.2 J;have p:((f k).k != 0)=Ff:=(by rw[bne,o];rfl);go_wp2;go_roundw;exact⟨k+1,fP,fU,A,b.mono (u_ (M _)),u_ (h _)⟩;exact kZ};have C:Hi (yI f m=Ff):=h_ (by cases e:yI f m with|false=>rfl|true=>exact absurd (Cc.1 e k S) J);have j:=Yk.2 (λe=>J (.inl e));have g:((f k).k != 2)=Tt:=(by rw[bne,j];rfl);have o:=Yk.2 (λe=>J (.inr e));have p:((f k).k != 0)=Tt:=(by rw[bne,o];rfl);go_wp2;go_ret;exact⟨by rw[C.u];rfl,u_ (h _)⟩};obtain rfl:k=m:=fP;have y:=h_ (Cc.2 d);go_wp2;go_ret;exact⟨by rw[y.u];rfl,l⟩
