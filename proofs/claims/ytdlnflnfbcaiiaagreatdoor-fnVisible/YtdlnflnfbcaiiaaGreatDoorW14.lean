import Derived.Test.YtdlnflnfbcaiiaaGreatDoorW09
import Derived.Test.YtdlnflnfbcaiiaaGreatDoorW10
set_option linter.all false
set_option maxRecDepth 100000
set_option maxHeartbeats 0
namespace Go.Proofs.YtdlnflnfbcaiiaaGreatDoor
open Value renaming slice->Sl,string->St,bool->Bo
open Bool renaming true->Tt,false->Ff
open Go Go.RowKit Go.Proofs.Tryz
variable {w W:Tw}{n k i:Nat}{v u:Value}{a:To}{s:Tb}
def rd (l:List UInt8):Int × Bool:=match AG l with
 | some n=>(n,Tt)
 | none=>(0,Ff)
def Ba (neg F s w)(h1:0<s.size)(ac:s.size<=20)(N:decide (s[0].toNat=45)=neg)(a:F=if neg then 1 else 0)(x K)(Q:rd s.data.toList=(x,K))
 (L:∀n,xG n->Lib.itoa n=s.data.toList->lL (s.data.toList.drop F)/\EJ neg (s.data.toList.drop F)=n) :
 Gv 219 #[St s] w (.tuple #[Ye x,Bo K]):=by
 obtain⟨M,E⟩:=oB L Q;clear L Q;have b:Hi (Bw w (w.alloc (.cells #[] 3))):=Bq;have c:(∀n,xG n->Lib.itoa n≠s.data.toList)->x=0/\K=Ff:=λh=>by
  have r:=E.u;rw[rd,B_ h]at r;simp only[O8]at r;exact⟨r.1.symm,r.2.symm⟩
 have X:=h_ c;clear c;have e:s.data.toList.length=s.size:=by rw[Gg];rfl
 have D:=h_ e;clear e;have e0:((s.size:Int)==0)=Ff:=by rw[oL];simp only[Vs];omega
 have e1:decide ((20:Int)<s.size)=Ff:=by simp only[Vs];omega
 have L:((s[0].toNat:Int)==45)=neg:=by rw[<- N,Z4,beq_iff_eq,Y3];omega
 obtain⟨d,t⟩:=Nq neg;obtain⟨B,C⟩:=oB a t;rw[t]at L;clear N a t;go_enter func219,ntmps219;cases d
 all_goals (
  go_wp2;go_loopw [6,7] (λv i wr=>∃(k:Nat) (o:List Nat),F<=k/\k<=s.size/\i=Ye ((k:Int) - 1)/\o=low (s.data.toList.drop k)/\lL (s.data.toList.drop k)/\wr.ownsRow w.1.size 3 1 v o.length (ui o)/\Bw w wr) (λ_ i _=>(intOf i+1).toNat)
  case atStart =>
   have O:s.data.toList.drop s.size=[]:=by rw[<- D.u];simp
   exact⟨s.size,[],by have:=B.u;split at this <;> omega,nR _,rfl,by rw[O];rfl,(by rw[O];intro d N;cases N),OD w 3,b⟩
  case round =>
   clear b;obtain⟨k,o,ad,hk,rfl,T,P,e,c⟩:=hrel;obtain⟨V,l,h,g⟩:=oD e c T P;clear e c P;have ae:o.length<=20:=by rw[T];simp[low];omega
   clear T;have a:=B.u;rw[C.u]at a;simp only[Gn,if_false,if_true]at a;by_cases aa:k=F
   . obtain⟨z,b⟩:=Nq (EJ neg (s.data.toList.drop F))
     have i:=h_ b;clear b;subst aa;obtain rfl:=a;have WA:=g.u;have b:=h.u;have c:F3 wr u6 o:=oK V;have v:M4 o:=(by rw[b];exact qsb WA);clear V h g WA;go_wp2_with fail;refine(GN u6 o wr c v fP).mono ?_;rintro e j ⟨af,rfl,Q,rfl⟩;have f:z.natAbs=R0 o/\(neg=Tt->z<=0)/\(neg=Ff->0<=z):=(by rw[<- i.u,EJ,b];cases neg <;> simp);have m:=f.1;clear b c;rw[<- m]at Q;have y:(G0 z.natAbs).length<=500:=(by rw[m];exact Yu (MD (sG v)) fP);have R:(∀n,xG n->Lib.itoa n=s.data.toList->n=z):=λn P e=>by
      have r:=(M n P e).2;rw[i.u]at r;exact r.symm
     have G:=h_ R;clear R;have c:neg=Tt->decide (0<(G0 z.natAbs).length)=decide (z<0):=λe=>by
      rw[decide_eq_decide];have b:(G0 z.natAbs).length=0 ↔ z.natAbs=0:=(by rw[Zj,vK]);have:=f.2.1 e;omega
     have A:neg=Ff->decide (z<0)=Ff:=λe=>by have:=f.2.2 e;rw[Vs];omega
     obtain⟨q,p,rfl,-⟩:=id Q;have b:Q6 j (.agg #[Bo (decide (z<0)),Sl q (G0 z.natAbs).length p]) z:=⟨_,rfl,Q⟩;obtain⟨H,t⟩:=Nq ((G0 z.natAbs).length);rw[t]at b c|-;have J:=h_ (And.intro y t);clear y t Q m f i v;obtain⟨W,i⟩:=Nq (decide (z<0));rw[i]at b c A;have y:Bw j (j.alloc (.cells #[Bo W,Sl q H p] 193)):=Bq;obtain⟨m,O⟩:=oB (m0.new j 193 #[Bo W,Sl q H p]) (b.mono y);have S:=mT l y;clear b y
     try have f:=c C
     try have t:=A C
     try subst t
     clear c A i;go_wp2_with fail;refine cQ (Ua _ z _ O J.1) λv b=>?_;have m:=mB m b;have O:=h_ (O.mono b);have S:=mT S b;clear b;by_cases U:-9223372036854775808<=z/\z<=9223372036854775807
     . have c:=h_ U
       rw[show qC z=Tt from Yo U];clear U;obtain⟨⟨b,i⟩,-⟩:=R4 m;go_wp2_with fail;refine cQ (Q_ _ z _ O c.1 c.2) λy Y=>?_;have S:=mT S Y;clear Y b i m O;go_wp2_with fail;refine cQ (sN z _ c.1 c.2) λw5 b=>?_;have S:=mT S b;clear b;by_cases b:Lib.itoa z=s.data.toList
       . have i:x=z/\K=Tt:=by
          have r:=E.u;rw[<- b,rd,Xz c.u]at r;simp only[O8]at r;exact⟨r.1.symm,r.2.symm⟩
         obtain⟨rfl,rfl⟩:=i;have Z:((⟨(Lib.itoa x).toArray⟩:Tb).toList==s.toList)=Tt:=(by rw[Zo,Zo,<- b];simp);obtain⟨T,I⟩:∃T:Tb,T=⟨(Lib.itoa x).toArray⟩:=⟨_,rfl⟩;rw[<- I]at Z|-;clear I b;go_wp2;exact bQ ⟨rfl,S⟩
       . obtain⟨rfl,rfl⟩:=X λn P e=>b (by rw[<- G.u n P e];exact e)
         have Z:((⟨(Lib.itoa z).toArray⟩:Tb).toList==s.toList)=Ff:=(by rw[Zo,Zo,Yk];simpa using b);obtain⟨T,I⟩:∃T:Tb,T=⟨(Lib.itoa z).toArray⟩:=⟨_,rfl⟩;rw[<- I]at Z|-;clear I b;go_wp2;exact bQ ⟨rfl,S⟩
     . rw[show qC z=Ff from Yl U]
       obtain⟨rfl,rfl⟩:=X λn P e=>U (by rw[<- G.u n P e];exact P);clear U;go_wp2;exact bQ ⟨rfl,S⟩
   . obtain⟨k,rfl⟩:∃G,k=G+1:=⟨k - 1,fP⟩
     rw[show((k+1:Nat):Int) - 1=(k:Int) by omega];have S:k<s.size:=fP;have i:F<=k:=fP;have b:s.data.toList.drop k=s[k] :: s.data.toList.drop (k+1):=by
      rw[Om (Fq D.u)];rfl
     have J:=h_ b;clear b;have T:¬ (48<=s[k].toNat/\s[k].toNat<=57)->x=0/\K=Ff:=λr=>X λn P e=>r (by
      refine(M n P e).1 s[k] ?_;have f:s.data.toList.drop k=(s.data.toList.drop F).drop (k - F):=(by rw[List.drop_drop];congr 1;omega);have:s[k]∈s.data.toList.drop k:=(by rw[J.u];exact Zl ..);rw[f]at this;exact List.mem_of_mem_drop this)
     have U:=h_ T;clear T;by_cases q:s[k].toNat<48
     . obtain⟨rfl,rfl⟩:=U fP
       go_wp2;exact bQ ⟨rfl,l⟩
     by_cases f:57<s[k].toNat
     . obtain⟨rfl,rfl⟩:=U fP
       go_wp2;exact bQ ⟨rfl,l⟩
     go_wp2_with (at_builtin;refine R5 y9 V gm ?_);intro t j p c _ _;have b:=(l.alloc gm (.cells #[Ye ((s[k].toNat:Int) - 48)] 3)).grown c gM (λm e=>M3 V e);have I:Hi (j.ownsRow w.1.size 3 1 t (o.length+1) (ui (o++[AJ s[k]]))):=by
      rw[Hi];rw[show(s[k].toNat:Int) - 48=((AJ s[k]:Nat):Int) by unfold AJ;omega]at p;simpa [ui] using p
     have e:=h_ b;clear p c b;go_wp2;go_roundw
     case rel =>
      refine⟨k,o++[AJ s[k]],fP,fP,rfl,?_,?_,?_,e⟩
      . rw[J.u,low,List.reverse_cons,Zs,h.u];rfl
      . rw[J.u];intro d N
        rcases Vf.1 N with rfl|N
        . omega
        . exact g d N
      . have:=I.u;simpa using this
     case measure=>simp[intOf])
def Xf (h:s.size=0\/20<s.size):rd s.data.toList=(0,Ff):=by rw[rd,B_ λn P e=>?_];have:=qkr n P;rw[e,Gg]at this;have K:s.data.size=s.size:=rfl;omega
def Bx (s w)(B:s.size<=9223372036854775807)(x K)(Q:rd s.data.toList=(x,K)):Gv 219 #[St s] w (.tuple #[Ye x,Bo K]):=by by_cases D:s.size=0;{rw[Xf (.inl D)]at Q;simp only[O8]at Q;obtain⟨rfl,rfl⟩:=Q;have M:((s.size:Int)==0)=Tt:=(by rw[oL];simpa using D);exact D7};by_cases d:20<s.size;{rw[Xf (.inr d)]at Q;simp only[O8]at Q;obtain⟨rfl,rfl⟩:=Q;have M:((s.size:Int)==0)=Ff:=(by rw[oL];simpa using D);have Z:decide ((20:Int)<s.size)=Tt:=(by simp only[Y3];omega);exact D7};have m:0<s.size:=fP;have n:∃r,s.data.toList=s[0] :: r:=⟨s.data.toList.drop 1,Om (l:=s.data.toList) (i:=0) (by rw[Gg];exact m)⟩;obtain⟨r,n⟩:=n;by_cases N:s[0].toNat=45;{refine Ba Tt 1 s w m fP (Yo N) rfl x K Q λa P e=>?_;rw[n]at e|-;have V:s[0]=45:=UInt8.toNat_inj.1 N;rw[V]at e;exact qel e};refine Ba Ff 0 s w m fP (Yl N) rfl x K Q λa P e=>?_;rw[n]at e|-;exact qem N e
def qlb (x y:Int):x*y<0 ↔ ¬(x<0 ↔ y<0)/\¬ x*y=0:=by rcases Int.lt_trichotomy x 0 with u|u|u <;> rcases Int.lt_trichotomy y 0 with c|c|c;{have:=Int.mul_pos_of_neg_of_neg u c;omega};{subst c;simp};{have:=Int.mul_neg_of_neg_of_pos u c;omega};{subst u;simp};{subst u;simp};{subst u;simp};{have:=Int.mul_neg_of_pos_of_neg u c;omega};{subst c;simp};have:=Int.mul_pos u c;omega
def qia (x y:Int):x.tdiv y<0 ↔ ¬(x<0 ↔ y<0)/\¬ x.tdiv y=0:=by obtain⟨a,K⟩:=x.eq_nat_or_neg;obtain⟨b,c⟩:=y.eq_nat_or_neg;obtain⟨q,J⟩:=Nq (a / b);have D:a=0->q=0:=λh=>(by rw[<- J,h];simp);have m:b=0->q=0:=λh=>(by rw[<- J,h];simp);have r:(a:Int).tdiv b=q:=(by rw[<- J];rfl);rcases K with rfl|rfl <;> rcases c with rfl|rfl;{rw[r];omega};{rw[Int.tdiv_neg,r];omega};{rw[Int.neg_tdiv,r];omega};rw[Int.neg_tdiv,Int.tdiv_neg,r];omega
def IX {x y z:Int}(h:z<0 ↔ ¬(x<0 ↔ y<0)/\¬ z=0):decide (z<0)=(decide (x<0) != decide (y<0)&&decide (0<(G0 z.natAbs).length)):=by rw[Z4];simp only[Y3,Yx,bne_iff_ne,ne_eq,decide_eq_decide];rw[Nat.pos_iff_ne_zero,ne_eq,Zj,vK,Int.natAbs_eq_zero];exact h
def q_ (v u x y w)(I:Q6 w v x)(a:Q6 w u y)(f:(G0 x.natAbs).length<=200)(m:(G0 y.natAbs).length<=200):Calls prog 215 #[v,u] w λe j=>∃r,e=.returned r/\Q6 j r (x*y)/\Bw w j:=by obtain⟨L,rfl,I⟩:=I;obtain⟨K,rfl,a⟩:=a;obtain⟨o,D,rfl,-⟩:=id I;obtain⟨s,E,rfl,-⟩:=id a;have l:=IX (qlb x y);have O:=Int.natAbs_mul x y;obtain⟨j,g⟩:=Nq (x*y);rw[g]at l O|-;obtain⟨b,C⟩:=oB l O.symm;clear g l O;obtain⟨p,h⟩:=Nq (decide (x<0));obtain⟨q,J⟩:=Nq (decide (y<0));rw[h,J]at b|-;obtain⟨W,H,G⟩:=VE.start p q I a;have A:=h_ G;obtain⟨⟨z,d⟩,T,n⟩:=G.cells (bR _ _);clear I a h J G;go_enter func215,ntmps215;go_wp2_with fail;(try rw[H]);clear H;refine(Gz _ _ _ _ W A.V A.U (SE _) (SE _) f m).mono ?_;rintro e I ⟨r,rfl,Q,c⟩;rw[ND,ND,C.u]at Q;obtain⟨l,h,rfl,-⟩:=id Q;have G:=A.mono c;obtain⟨F,B⟩:=Nq (decide (j<0));obtain⟨g,k,⟨M,O⟩,t⟩:=G.fin B Q;obtain⟨i,a⟩:=oB t k;rw[B]at b;clear z d T n B Q c t k;obtain⟨⟨z,d⟩,T,n⟩:=G.cells (bR _ _);obtain⟨⟨N,J⟩,c,k⟩:=R4 G.R;clear G;have H:=b.u;cases p <;> cases q <;> simp only[bne_self_eq_false,Bool.false_and,Zg,show(Ff != Tt)=Tt from rfl,show(Tt != Ff)=Tt from rfl]at H <;> subst H;all_goals ( go_wp2;rw[a.u];exact bodyPost_ret (by simp[results,results215,go_sem, *]) rfl ⟨_,rfl,i.1,i.2.2⟩)
def r_ (v u x y w)(I:Q6 w v x)(a:Q6 w u y)(m:(G0 x.natAbs).length<=200)(o:(G0 y.natAbs).length<=200)(F:y≠0):Calls prog 217 #[v,u] w λe j=>∃r,e=.returned r/\Q6 j r (x.tdiv y)/\Bw w j:=by obtain⟨L,rfl,I⟩:=I;obtain⟨K,rfl,a⟩:=a;obtain⟨j,D,rfl,-⟩:=id I;obtain⟨s,E,rfl,-⟩:=id a;have l:=IX (qia x y);have O:=Int.natAbs_tdiv x y;obtain⟨z,g⟩:=Nq (x.tdiv y);rw[g]at l O|-;obtain⟨b,C⟩:=oB l O.symm;clear g l O;obtain⟨p,h⟩:=Nq (decide (x<0));obtain⟨q,J⟩:=Nq (decide (y<0));rw[h,J]at b|-;obtain⟨W,H,G⟩:=VE.start p q I a;have A:=h_ G;obtain⟨⟨d,f⟩,T,n⟩:=G.cells (bR _ _);clear I a h J G;go_enter func217,ntmps217;go_wp2_with fail;(try rw[H]);clear H;refine(Fz _ _ _ _ W A.V A.U (SE _) (SE _) m o (by rw[ND];omega)).mono ?_;rintro e M ⟨r,rfl,Q,c⟩;rw[ND,ND,show x.natAbs / y.natAbs=z.natAbs from C.u]at Q;obtain⟨l,h,rfl,-⟩:=id Q;have G:=A.mono c;obtain⟨I,B⟩:=Nq (decide (z<0));obtain⟨g,k,⟨O,P⟩,t⟩:=G.fin B Q;obtain⟨i,a⟩:=oB t k;rw[B]at b;clear d f T n B Q c t k;obtain⟨⟨d,f⟩,T,n⟩:=G.cells (bR _ _);obtain⟨⟨N,J⟩,c,k⟩:=R4 G.R;clear G;have H:=b.u;cases p <;> cases q <;> simp only[bne_self_eq_false,Bool.false_and,Zg,show(Ff != Tt)=Tt from rfl,show(Tt != Ff)=Tt from rfl]at H <;> subst H;all_goals ( go_wp2;rw[a.u];exact bodyPost_ret (by simp[results,results217,go_sem, *]) rfl ⟨_,rfl,i.1,i.2.2⟩)
def nN (z:Int):Value:=if qC z then .agg #[.int .i64 1,.int .i64 z,St ⟨#[]⟩] else .agg #[.int .i64 4,.int .i64 2,St ⟨#[]⟩]
def Ax (v z w)(I:Q6 w v z)(o:(G0 z.natAbs).length<=500):Gv 213 #[v] w (nN z):=by have j:=h_ I;obtain⟨O,rfl,y⟩:=I;obtain⟨a,c,rfl,-,-,-⟩:=y;obtain⟨s,g⟩:=Nq (decide (z<0));obtain⟨L,b⟩:=Nq ((G0 z.natAbs).length);rw[g,b]at j|-;rw[b]at o;have k:=h_ (And.intro g b);obtain⟨W,H⟩:=Nq ((w.alloc (.cells #[Bo s,Sl a L c] 193)).alloc (.cells Jd 46));have A:Bw w W:=(by rw[<- H];exact U2);have R:m0 W w.1.size 193 [Bo s,Sl a L c]:=(by rw[<- H];exact(m0.new w 193 #[Bo s,Sl a L c]).alloc _);have r:m0 W (w.1.size+1) 46 Jl:=(by rw[<- H];simpa using m0.new (w.alloc (.cells #[Bo s,Sl a L c] 193)) 46 Jd);obtain⟨B,e,S⟩:=oC R r A;obtain⟨⟨C,D⟩,-⟩:=R4 R;go_enter func213,ntmps213;go_wp2_with fail;refine(Ua _ z W (j.mono S) (Fq k.2)).mono ?_;rintro M i ⟨rfl,V⟩;have R:=B.mono V B.lt;have r:=e.mono V e.lt;have l:=h_ ((j.mono S).mono V);have h:=mT S V;obtain⟨G,d⟩:=oB R r;obtain⟨⟨C,D⟩,-⟩:=R4 R;have u:qC z=Tt->-9223372036854775808<=z/\z<=9223372036854775807:=λf=>Zq f;have m:=h_ u;cases U:qC z with|true=>go_wp2_with fail;refine cQ (Q_ _ z i l (m U).1 (m U).2) λX f=>?_;have K:=mB d f;have n:=mT h f;go_wp2_with fail;refine cQ (VG z X) λF Y=>?_;have r:=K.mono Y K.lt;have x:=mT n Y;obtain⟨N,J,E⟩:=T0 r;have p:=r.free 0;have q:=r.free 1;have t:=r.free 2;go_wp2;refine bQ (v:=.agg (Yb z)) ⟨by simp[nN,U],?_⟩;exact((x.setCell fT _).setCell fT _).setCell fT _|false=>go_wp2_with fail;refine cQ (AV 2 i) λF Y=>?_;have r:=d.mono Y d.lt;have x:=mT h Y;obtain⟨N,J,E⟩:=T0 r;have p:=r.free 0;have q:=r.free 1;have t:=r.free 2;go_wp2;refine bQ (v:=.agg #[Ye 4,Ye 2,Yg]) ⟨by simp[nN,U],?_⟩;exact((x.setCell fT _).setCell fT _).setCell fT _
def Q4 (z:Int):Vx:=if qC z then T4 z else C1 2
def El (z):nN z=vv (Q4 z):=by unfold nN Q4;split <;> rfl
def YC (op x y:Int):Vx :=
 if op=4 then Q4 (x*y) else if op=7 then Q4 (x+y) else if op=8 then Q4 (x + -y)
 else if op=5 then (if y=0 then C1 3 else Q4 (x.tdiv y))
 else if op=6 then (if y=0 then C1 3 else Q4 (x + -(y*x.tdiv y)))
 else if op=10 then C2 (decide (x=y)) else if op=11 then C2 (decide (x≠y))
 else if op=12 then C2 (decide (x<y)) else if op=13 then C2 (decide (x<=y))
 else if op=17 then T4 (if x<y then x else y) else if op=18 then T4 (if x<y then y else x) else C1 1
structure OI (w W:Tw)(b o X5 X6:Nat)(p q:Vx)(v5 v6:Value)(s5 u5 s6 u6:Value):Prop where
 R:m0 W w.1.size 46 Jl
 B5:m0 W X5 193 [s5,u5]
 B6:m0 W X6 193 [s6,u6]
 e5:v5=.agg #[s5,u5]
 e6:v6=.agg #[s6,u6]
 V5:Q6 W v5 p.n
 V6:Q6 W v6 q.n
 c0:P2 W b o p
 c1:P2 W b (o+3) q
 low:Bw w W
def OI.mono {W' b o p q a d c x}(h:OI w W b o n i p q v u a d c x)(k:Bw W W'):OI w W' b o n i p q v u a d c x :=
 ⟨h.R.mono k h.R.lt,h.B5.mono k h.B5.lt,h.B6.mono k h.B6.lt,h.e5,h.e6,h.V5.mono k,h.V6.mono k,h.c0.mono k,h.c1.mono k,h.low.trans (k.mono h.low.size)⟩
def E1 (f:Nat->Vx)(m:Nat)(kind:Int):Bool:=(List.range m).all λi=>decide ((f i).k=kind)
def Be {f m F}(h:∀i,i<m->(f i).k=F):E1 f m F=Tt:=by grind[E1]
def yW {f m F}(hi:i<m)(h:¬ (f i).k=F):E1 f m F=Ff:=by grind[E1]
def rU (a m c f F w)(l:m<=1048576)(K:N2 w a m f):Calls prog 188 #[Sl a m c,Ye F] w λe j=>e=.returned (Bo (E1 f m F))/\j=w:=by have B:=h_ K;go_enter func188,ntmps188;go_wp2;go_loopw [5] (λi wr=>∃k:Nat,k<=m/\i=Ye k/\(∀j,j<k->(f j).k=F)/\wr=w) (λi _=>m - (intOf i).toNat);exact⟨0,nZ _,rfl,λj s=>absurd s (nL _),rfl⟩;obtain⟨k,h,rfl,d,rfl⟩:=hrel;have b:=h_ d;by_cases S:k<m;{have M:(k:Int)<m:=fP;obtain⟨g,o,rfl,-,Y,-,-⟩:=B k S;by_cases J:(f k).k=F;{have A:Hi (∀j,j<k+1->(f j).k=F):=h_ λj s=>(by by_cases e:j=k;{rw[e];exact J};exact b j fP);go_wp2;go_roundw;exact⟨k+1,fP,fU,A,trivial⟩;exact kZ};have C:=h_ (yW S J);go_wp2;go_ret;exact⟨by rw[C.u];rfl,rfl⟩};obtain rfl:k=m:=fP;have y:=h_ (Be b);go_wp2;go_ret;exact⟨by rw[y.u];rfl,rfl⟩
def XJ (op x:Int):Vx:=if op=2 then Q4 (-x) else if op=23 then RB ⟨(Lib.itoa x).toArray⟩ else C1 1
def QJ (op:Int)(p:Vx):Vx :=
 if op=3 then C2 (decide (p.n=0)) else if op=23 then (if p.n=1 then RB ⟨#[116,114,117,101]⟩ else RB ⟨#[102,97,108,115,101]⟩) else C1 1
def pL (op x y:Int):Vx:=if op=10 then C2 (decide (x=y)) else if op=11 then C2 (!decide (x=y)) else C1 1
def uI (op:Int)(s t:Tb):Vx :=
 if op=9 then (if 1000<s.size+t.size then C1 4 else RB (s++t)) else if op=10 then C2 (decide (s=t)) else if op=11 then C2 (!decide (s=t))
 else if op=12 then C2 (tl s.data.toList t.data.toList) else if op=13 then C2 (!tl t.data.toList s.data.toList) else if op=20 then C2 (VC s t 0) else C1 1
def BI (op:Int)(p:Vx):Vx :=
 if op=21 then T4 p.s.size else if op=22 then (if (rd p.s.data.toList).2 then T4 (rd p.s.data.toList).1 else C1 5) else if op=23 then p else C1 1
def NJ (p q:Vx):Vx:=if p.k=0 then q else p
def pH (p q r:Vx):Vx:=if p.k=4\/p.k=0 then p else if p.k=2/\p.n=1 then q else if p.k=2/\p.n=0 then r else C1 1
def CD (f:Nat->Vx)(m:Nat):Option Vx:=((List.range m).map f).find? λu=>decide (u.k=4)
theorem M_ {f m}(a:k<m)(h:∀j,j<k->¬ (f j).k=4)(K:(f k).k=4):CD f m=some (f k):=by rw[CD,List.find?_eq_some_iff_getElem];refine⟨Yo K,k,gt,fT,λj s=>?_⟩;simpa using h j s
def L_ {f m}(h:∀j,j<m->¬ (f j).k=4):CD f m=none:=by simp_all[CD]
def UF (f:Nat->Vx)(m:Nat):Bool:=(List.range m).any λi=>decide ((f i).k=0)
def Ce {f m}(a:k<m)(h:(f k).k=0):UF f m=Tt:=by grind[UF]
def Jg {f m}(h:∀j,j<m->¬ (f j).k=0):UF f m=Ff:=by rw[UF,Gr];exact λi C=>by simpa using h i (Y6.1 C)
def nE (f:Nat->Vx)(m:Nat)(R1 R3 R2:Vx):Vx :=
 match CD f m with
 | some u=>u
 | none=>if UF f m then N4 else if E1 f m 1 then R1 else if E1 f m 3 then R3 else if E1 f m 2 then R2 else C1 1
section
variable {f:Nat->Vx} {m:Nat} {R1 R3 R2:Vx}
end
def qH (f:Nat->Vx)(m:Nat)(R:Vx):Vx :=
 match CD f m with
 | some u=>u
 | none=>R
def P4 (p:Vx):Bool:=decide (p.k=2)&&decide (p.n=1)
def ZC (p:Vx):Bool:=decide (p.k=2)&&decide (p.n=0)
def VF (p q:Vx):Vx:=if p.k=1\/p.k=3\/q.k=1\/q.k=3 then C1 1 else if ZC p||ZC q then C2 Ff else if P4 p&&P4 q then C2 Tt else N4
def ZF (p q:Vx):Vx:=if p.k=1\/p.k=3\/q.k=1\/q.k=3 then C1 1 else if P4 p||P4 q then C2 Tt else if ZC p&&ZC q then C2 Ff else N4
def R1 (op:Int)(m:Nat)(f:Nat->Vx):Vx:=if m=1 then XJ op (f 0).n else YC op (f 0).n (f 1).n
def R3 (op:Int)(m:Nat)(f:Nat->Vx):Vx:=if m=1 then BI op (f 0) else uI op (f 0).s (f 1).s
def R2 (op:Int)(m:Nat)(f:Nat->Vx):Vx:=if m=1 then QJ op (f 0) else pL op (f 0).n (f 1).n
def qjt (h:s.size=0):s=⟨#[]⟩:=ByteArray.ext (Array.eq_empty_of_size_eq_zero h)
def xT {u}(h:Z1 u.k u.n u.s=Tt)(k:u.k=1):u=T4 u.n:=by obtain⟨a,n,s⟩:=u;dsimp only at k h|-;subst k;have B:s.size=0:=(by simpa [Z1] using h);rw[qjt B];rfl
theorem TO {u:Vx}(h:Z1 u.k u.n u.s=Tt)(a:u.k=3):u.s.size<=1000:=by grind[T7,Z1]
theorem WB {f m F}(h:E1 f m F=Tt)(hi:i<m):(f i).k=F:=Zq (Zd.1 h i (Y6.2 hi))
def RM {m f}(I:N2 W a m f)(w:0<m):∃b o,a=some (Aq b o)/\P2 W b o (f 0):=by obtain⟨b,o,e,h⟩:=I 0 w;exact⟨b,o,e,gv⟩
def SX {m f}(I:N2 W a m f)(w:1<m):∃b o,a=some (Aq b o)/\P2 W b o (f 0)/\P2 W b (o+3) (f 1):=by obtain⟨b,o,e,h⟩:=I 0 fP;obtain⟨M,q,Q,c⟩:=I 1 w;rw[e]at Q;cases Q;exact⟨b,o,e,gv,gS⟩
def Q5 (op:Int)(m:Nat)(f:Nat->Vx):Vx :=
 if op=25 then C2 ((f 0).k==4) else if op=16 then pH (f 0) (f 1) (f 2) else if op=19 then NJ (f 0) (f 1)
 else if op=24 then qH f m (C2 ((f 0).k==0)) else if op=14 then qH f m (VF (f 0) (f 1)) else if op=15 then qH f m (ZF (f 0) (f 1))
 else nE f m (R1 op m f) (R3 op m f) (R2 op m f)
def ED (f:Nat->Vx)(m:Nat):Bool:=(List.range m).all λi=>Z1 (f i).k (f i).n (f i).s
def pG {f m}:ED f m=Tt ↔ ∀i,i<m->Z1 (f i).k (f i).n (f i).s=Tt:=by simp[ED]
def TX (op):ar op=0\/(ar op=1/\(op=2\/op=3\/op=21\/op=22\/op=23\/op=24\/op=25))\/(ar op=3/\op=16)\/(ar op=2/\4<=op/\op<=20/\op≠16):=by grind[ar]
def RD (F:FuncId)(args:Ta)(z:Vx):Prop:=∀w,Gv F args w (.agg #[.int .i64 z.k,.int .i64 z.n,St z.s])
def EC {b}(z)(h:C2 b=z):RD 122 #[Bo b] z:=by subst h;exact DN b
def AI {n}(z)(h:C1 n=z):RD 47 #[Ye n] z:=by grind[C1,RD,AV]
def gInt {n}(z)(h:T4 n=z):RD 46 #[Ye n] z:=by grind[T4,RD,VG]
def OS (z)(h:RB s=z):RD 48 #[St s] z:=by subst h;exact FN s
def BJ (z)(h:N4=z):RD 49 #[] z:=by subst h;exact BN
def JP (x y:Int):(x==y)=decide (x=y):=rfl
def nq {x y:Int}(h:¬ x=y):(x==y)=Ff:=Yk.2 h
def RH (u w):Gv 127 #[.agg (Jc u.k u.n u.s)] w (Bo (P4 u)):=by have l:∀o,Hi (Bw w (w.alloc o)):=λo=>h_ (Bq);obtain⟨z,g⟩:=Nq (P4 u);rw[g];have x:=h_ g;by_cases a:u.k=2;{have q:(u.k==2)=Tt:=beq_iff_eq.2 a;go_enter func127,ntmps127;go_wp2;go_ret;exact⟨by rw[<- x.u,P4,a];simp[JP],u_ (l _)⟩};have q:=nq a;go_enter func127,ntmps127;go_wp2;go_ret;exact⟨by rw[<- x.u,P4,Yl a];rfl,u_ (l _)⟩
def IL (u w):Gv 187 #[.agg (Jc u.k u.n u.s)] w (Bo (ZC u)):=by have l:∀o,Hi (Bw w (w.alloc o)):=λo=>h_ (Bq);obtain⟨z,g⟩:=Nq (ZC u);rw[g];have x:=h_ g;by_cases a:u.k=2;{have q:(u.k==2)=Tt:=beq_iff_eq.2 a;go_enter func187,ntmps187;go_wp2;go_ret;exact⟨by rw[<- x.u,ZC,a];simp[JP],u_ (l _)⟩};have q:=nq a;go_enter func187,ntmps187;go_wp2;go_ret;exact⟨by rw[<- x.u,ZC,Yl a];rfl,u_ (l _)⟩
def PI {B g}(h:Below B w W)(H:B<=g)(u):Below B w (W.setRow g u) :=
 ⟨h.os,h.tape,h.output,by simp[World.setRow];exact h.size,λb c=>(setRow_other W g b u fP).trans (h.block b c)⟩
def NH {q Y Q}{l g:Tl}{lb:List Bool}{fuel z o D x y F args}(i j d)(e:RW w W)(N:RD F args z) (h:∀A,m0 A w.1.size 46 (Ya z.k z.n z.s)->Bw w A->Q .normal { tmps:=g.toArray,defers:=[] } A) (hi:Y[i]? = some o:=by exact rfl) (f:o.dst=some d:=by exact rfl) (G:Region.wanted o (yielded Y l.toArray)=Tt:=by rfl) (A:Region.ready q Y lb.toArray=[i]:=by kernel_rfl) (hrun:(execOp (Act.eval { tmps:=l.toArray,defers:=[] }) o).run prog W=.ok (.enter F args) W:=by exact KJ) (u:l.set d (.agg (Jc z.k z.n z.s))=g:=by(first|simp only[Yi,Yj]|skip);rfl) (t:Y[j]? = some D:=by exact rfl) (r:D.op=.store 46 x y:=by exact rfl) (m:D.dst=none:=by exact rfl) (I:Act.eval { tmps:=g.toArray,defers:=[] } x=Yh w.1.size 0:=by rfl) (hy:Act.eval { tmps:=g.toArray,defers:=[] } y=.agg (Jc z.k z.n z.s):=by rfl) (H:Region.wanted D (yielded Y g.toArray)=Tt:=by rfl) (C:Region.ready q Y (lb.toArray.setIfInBounds i Tt)=[j]:=by kernel_rfl) (E:Region.ready q Y ((lb.toArray.setIfInBounds i Tt).setIfInBounds j Tt)=[]:=by kernel_rfl):wpAnyH prog q Y Q (λb=>Bw w b) (fuel+2) lb.toArray { tmps:=l.toArray,defers:=[] } W:=by refine DG (a:={ tmps:=l.toArray,defers:=[] }) (fuel:=fuel+1) (R:=λv c=>v=.agg (Jc z.k z.n z.s)/\Bw W c) d hi f G A hrun ((N W).mono λJ b ⟨p,c⟩=>⟨_,p,rfl,c⟩) ?_;rintro v p ⟨rfl,c⟩;have b:=e.mono c;refine⟨b.B,?_⟩;show wpAnyH _ _ _ _ _ _ _ { tmps:=l.toArray.setIfInBounds d (.agg (Jc z.k z.n z.s)),defers:=[] } _;rw[show l.toArray.setIfInBounds d (.agg (Jc z.k z.n z.s))=g.toArray by rw[Y9,u]];have L:=PI b.B (nR _) (Jc z.k z.n z.s);refine q9 (a:={ tmps:=g.toArray,defers:=[] }) t H C m (QH (a:={ tmps:=g.toArray,defers:=[] }) 46 x y r w.1.size (Jc z.k z.n z.s) I hy 46 _ b.R fR rfl fR) rfl L ?_;exact wpAnyH_done E (h _ (b.R.row (Ya z.k z.n z.s)) L) _
variable {p:Prop}
def iT(h:p:=by refine(OS z (by have h:=X.u;rw[P4,R.u]at h;rw[<- x.u];simp at h;simp[R2,QJ,h]) _).mono ?_;exact N5 v):p:=h
def iW(h:p:=by intro A o d;obtain⟨C,D,F⟩:=T0 o;have P:=h_ d;clear hC o d i;go_wp2;exact bQ ⟨rfl,P⟩):p:=h
def q8v (op a)(m c:Nat)(f w)(E:ar op=m)(p:m=1\/m=2)(i:(f 0).k=2)(I:N2 w a m f):Gv 191 (Jn op a m c) w (vv (R2 op m f)):=by obtain⟨K,H,h⟩:=RW.start w;obtain⟨z,g⟩:=Nq (R2 op m f);rw[g];obtain⟨x,r,v,R⟩:=oD g (I.mono h.B) h i;obtain⟨s,q,rfl,-,Y,c1,c2⟩:=RM r fP;have W:Hi (m=2->∀j,Bw w j->j.cell? (Aq s (q+1))=some (Ye (f 0).n)/\j.cell? (Aq s (q+3+1))=some (Ye (f 1).n)):=h_ λe j d=>(by obtain⟨o,N,M,D⟩:=(I.mono d) 0 fP;obtain⟨t,G,Z,l⟩:=(I.mono d) 1 fP;cases M;cases Z;exact⟨by simpa using D.2.2.1,by simpa using l.2.2.1⟩);clear I h i g;unfold vv;by_cases Z:op=3;{subst Z;have e:ar 3=1:=fS;obtain rfl:m=1:=fP;clear e E p;go_enter func191,ntmps191;go_wp2_with fail;(try rw[H]);clear H;refine cQ (IL (f 0) _) λI d=>?_;have v:=h_ (v.mono d);clear d Y c1 c2;go_wp2_with fail;refine(EC z (by rw[<- x.u,ZC,R.u];simp[R2,QJ]) _).mono ?_;exact N5 v};have L:=nq Z;by_cases l:op=23;{subst l;have e:ar 23=1:=fS;obtain rfl:m=1:=fP;clear e E p Z;obtain⟨i,J⟩:=Nq (P4 (f 0));have X:=h_ J;clear J;go_enter func191,ntmps191;go_wp2_with fail;(try rw[H]);clear H;refine cQ (RH (f 0) _) λI d=>?_;have v:=h_ (v.mono d);clear d Y c1 c2;rw[X.u];cases i;{go_wp2_with fail;exact iT};go_wp2_with fail;exact iT};have I:=nq l;by_cases U:op=10\/op=11;{obtain rfl:m=2:=(by rcases U with rfl|rfl <;> (have e:ar 10=2:=by decide) <;> (have Q:ar 11=2:=by decide) <;> omega);obtain⟨t,G,y,-,-,d1,-⟩:=r 1 fP;cases y;rw[show q+1*3=q+3 by omega]at d1;clear E p Z l;have J:=h_ (W rfl);rcases U with rfl|rfl;{go_enter func191,ntmps191;go_wp2_with fail;(try rw[H]);clear H Y c1 c2 d1;refine wp_region_held_drew (S:=λj=>Bw w j) fR v.B.drew (λi=>?_);have hC:=J.u;refine tq 0 1 2 i ?_;refine tq 3 4 5 i ?_;refine tq 6 7 8 i ?_;refine NH 9 10 31 (v.mono (bR _ _).drew) (EC (b:=(f 0).n==(f 1).n) z (by rw[<- x.u];simp[R2,pL,JP])) ?_;exact iW};go_enter func191,ntmps191;go_wp2_with fail;(try rw[H]);clear H Y c1 c2 d1;refine wp_region_held_drew (S:=λj=>Bw w j) fR v.B.drew (λi=>?_);have hC:=J.u;refine tq 0 1 2 i ?_;refine tq 3 4 5 i ?_;refine tq 6 7 8 i ?_;refine NH 9 10 43 (v.mono (bR _ _).drew) (EC (b:=(f 0).n != (f 1).n) z (by rw[<- x.u];simp[R2,pL,bne,JP])) ?_;exact iW};have d:=nq λh=>U (.inl h);have e:=nq λh=>U (.inr h);have g:C1 1=z:=(by rw[<- x.u];rcases p with rfl|rfl <;> simp[R2,QJ,pL,Z,l,not_or.1 U]);have x:=h_ g;clear g Z l U E p;go_enter func191,ntmps191;go_wp2_with fail;(try rw[H]);clear H Y c1 c2;refine(AI z x _).mono ?_;exact N5 v
def qut (s t:Tb):(s.toList==t.toList)=decide (s=t):=by by_cases h:s=t;{rw[h,Yo rfl];simp};rw[Yl h,Yk,Zo,Zo];exact λe=>h (ByteArray.ext (Array.toList_inj.1 e))
def iS(h:p:=by have b:=h_ (b.mono d);clear d e Y c1 c2 d2;go_wp2_with fail;refine(EC z (by rw[<- x.u];simp[R3,uI]) _).mono ?_;exact N5 b):p:=h
def iU(h:p:=by clear H;clear Y c1 c2 d2;refine(EC z (by rw[<- x.u];simp[R3,uI,qut]) _).mono ?_;exact N5 b):p:=h
def iX(h:p:=by refine(AI z x _).mono ?_;exact N5 b):p:=h
def q8w (op a)(m c:Nat)(f w)(E:ar op=m)(r:m=1\/m=2)(j:∀l,l<m->(f l).s.size<=1000)(I:N2 w a m f):Gv 190 (Jn op a m c) w (vv (R3 op m f)):=by obtain⟨W,H,e⟩:=RW.start w;obtain⟨z,g⟩:=Nq (R3 op m f);rw[g];obtain⟨x,t,b⟩:=oC g (I.mono e.B) e;have Z:=j 0 fP;obtain⟨M,J,rfl,-,Y,c1,c2⟩:=RM t fP;clear I e g;unfold vv;have h:∀k:Int,op=k->ar k=1->m=1:=λk d D=>(by rw[d]at E;omega);have o:∀k:Int,op=k->ar k=2->m=2:=λk d D=>(by rw[d]at E;omega);by_cases i:op=21;{obtain rfl:=h 21 i fS;subst i;clear E r h o j;have A:Hi (T4 (f 0).s.size=z):=h_ (by rw[<- x.u];simp[R3,BI]);go_enter func190,ntmps190;go_wp2_with fail;(try rw[H]);clear H;refine cQ (VG 0 _) λX d=>?_;have K:=h_ (b.mono d);clear d;obtain⟨w4,P⟩:=Nq (X.alloc (.cells #[Ye 1,Ye 0,Yg] 46));have G:=nB P;obtain⟨T,q⟩:=Nq X.1.size;have F:=nJ q P;have S:w.1.size<T:=(by rw[<- q];exact K.R.lt);obtain⟨C,U,y⟩:=oC F (K.mono G) (And.intro P q);clear G F Y c1 c2 P q;go_wp2;rw[y.u.1,y.u.2];clear y;go_loopw [7] (λl wr=>∃k:Nat,k<=(f 0).s.size/\l=Ye k/\m0 wr T 46 [Ye 1,Ye k,Yg]/\RW w wr) (λl _=>(f 0).s.size - (intOf l).toNat);exact⟨0,nZ _,rfl,C,U⟩;obtain⟨k,V,rfl,l,e⟩:=hrel;obtain⟨x0,x1,x2⟩:=T0 l;have G:=l.free 0;have O:=l.free 1;have Q:=l.free 2;clear C U;obtain⟨y,q⟩:=oB l e;clear l;by_cases U:k<(f 0).s.size;{have P:=h_ (y.set 1 (Ye ((k:Int)+1)));have q:Hi (RW w (wr.setCell (Aq T 1) (Ye ((k:Int)+1)))):=h_ ⟨e.R.other (a:=Aq T 1) (Ye ((k:Int)+1)) (by show w.1.size≠T;omega),e.B.setCell (p:=Aq T 1) (by show w.1.size<=T;omega) (Ye ((k:Int)+1))⟩;clear e;go_wp2;go_roundw;exact⟨k+1,fP,fU,by simpa using P.u,q⟩;exact kZ};obtain rfl:k=(f 0).s.size:=fP;obtain⟨⟨N,F,I⟩,l,C,L⟩:=e.val;have P:¬ T=w.1.size:=fP;have n7:¬ w.1.size=T:=fP;clear e;go_wp2;exact bQ (v:=.agg (Yb (f 0).s.size)) ⟨by rw[<- A.u];rfl,q.u.out _ _ _⟩};have y:=nq i;by_cases O:op=22;{obtain rfl:=h 22 O fS;subst O;clear E r h o j;obtain⟨e,K,k⟩:∃e K,rd (f 0).s.data.toList=(e,K):=⟨_,_,rfl⟩;have G:=h_ k;clear k i;go_enter func190,ntmps190;go_wp2_with fail;(try rw[H]);clear H;refine cQ (Bx (f 0).s _ fP e K G) λX d=>?_;have b:=h_ (b.mono d);clear d Y c1 c2;cases K;{go_wp2_with fail;refine(AI z (by rw[<- x.u];simp[R3,BI,G.u]) _).mono ?_;exact N5 b};go_wp2_with fail;refine(gInt z (by rw[<- x.u];simp[R3,BI,G.u]) _).mono ?_;exact N5 b};have G:=nq O;by_cases e:op=23;{obtain rfl:=h 23 e fS;subst e;clear E r h o j;have A:Hi (f 0=z):=h_ (by rw[<- x.u];simp[R3,BI]);obtain⟨⟨N,F,I⟩,l,C,L⟩:=b.val;clear i O;go_enter func190,ntmps190;go_wp2;(try rw[H]);exact bQ (v:=.agg (Jc (f 0).k (f 0).n (f 0).s)) ⟨by rw[A.u],b.u.out _ _ _⟩};have S:=nq e;rcases r with rfl|rfl;{have g:C1 1=z:=(by rw[<- x.u];simp[R3,BI,i,O,e]);have x:=h_ g;clear g i O e h o E j;go_enter func190,ntmps190;go_wp2_with fail;(try rw[H]);clear H;clear Y c1 c2;exact iX};have q:=j 1 fP;obtain⟨l,F,A,-,-,-,d2⟩:=t 1 fP;cases A;rw[show J+1*3+2=J+5 by omega]at d2;clear E j h o i O e t;by_cases k:op=9;{subst k;by_cases e:1000<(f 0).s.size+(f 1).s.size;{have P:(1000:Int)<(f 0).s.size+(f 1).s.size:=fP;have g:C1 4=z:=(by rw[<- x.u];simp[R3,uI,e]);have x:=h_ g;clear g e;exact Ux};have P:¬ (1000:Int)<(f 0).s.size+(f 1).s.size:=fP;have g:RB ((f 0).s++(f 1).s)=z:=(by rw[<- x.u];simp[R3,uI,e]);have x:=h_ g;clear g e;go_enter func190,ntmps190;go_wp2_with fail;(try rw[H]);clear H;clear Y c1 c2 d2;refine(OS z x _).mono ?_;exact N5 b};have E:=nq k;by_cases U:op=10;{subst U;exact DX};have j:=nq U;by_cases h:op=11;{subst h;exact DX};have o:=nq h;by_cases I:op=12;{subst I;go_enter func190,ntmps190;go_wp2_with fail;(try rw[H]);clear H;refine(XZ _ (f 0).s (f 1).s _ rfl fP fP).mono ?_;exact U9};have P:=nq I;by_cases C:op=13;{subst C;go_enter func190,ntmps190;go_wp2_with fail;(try rw[H]);clear H;refine(XZ _ (f 1).s (f 0).s _ rfl fP fP).mono ?_;exact U9};have t:=nq C;by_cases i:op=20;{subst i;go_enter func190,ntmps190;go_wp2_with fail;(try rw[H]);clear H;refine cQ (qg2 (f 0).s (f 1).s _ fP fP) λX e=>?_;have d:Bw W X:=(by rw[e];exact bR _ _);exact iS};have d:=nq i;have g:C1 1=z:=(by rw[<- x.u];simp[R3,uI,k,U,h,I,C,i]);have x:=h_ g;clear g k U h I C i;exact Ux
