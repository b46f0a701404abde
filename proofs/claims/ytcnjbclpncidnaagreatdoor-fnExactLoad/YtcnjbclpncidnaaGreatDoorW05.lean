import Derived.Test.YtcnjbclpncidnaaGreatDoorW02
import Derived.Test.YtcnjbclpncidnaaGreatDoorW01
set_option linter.all false
set_option maxRecDepth 100000
set_option maxHeartbeats 0
namespace Go.Proofs.YtcnjbclpncidnaaGreatDoor
open Value renaming slice->Sl,string->St
open Obj renaming cells->Cl
open Option renaming none->Nn,some->Sm
open Bool renaming true->Tt,false->Ff
section
open Go Go.RowKit Go.Proofs.Tryz
def nT {e i}:(D3 e i).headD 0=i:=by cases i with|zero=>rfl|succ i=>rfl
def qsw {e n}(h:1<=n):1<=(D3 e n).length:=by unfold D3;grind
def Xw {e i n t}(h1:1<=n)(b:n<=(D3 e (i+1)).length)(Z:N0 (e i)<=(D3 e i).length)(M:t=(D3 e (i+1)).drop n):n - 1+N0 (e i)<=(D3 e i).length/\t=(D3 e i).drop (n - 1+N0 (e i)):=by obtain⟨a,rfl⟩:∃a,n=a+1:=⟨n - 1,dN⟩;simp only[D3,Yv,On]at b;simp only[D3,List.drop_succ_cons,Gq]at M;refine⟨dN,?_⟩;rw[M,show a+1 - 1+N0 (e i)=N0 (e i)+a by omega]
def KR (a m c e r w)(Q:m<=1000)(g:tB w a m e)(h1:1<=r)(o:r<=m)(Z:vC e r):Gv 236 (Ye a m c r) w (Yj (oI e r)):=by obtain⟨Y,p⟩:=oB g Z;go_enter func236,ntmps236;go_wp2;go_loopw [5,6] (λT i wr=>∃(k J:Nat),T=Yj J/\i=Yj k/\k<=r/\J<=(D3 e k).length/\(D3 e r).tail=(D3 e k).drop J/\Bw w wr) (λ_ i _=>(intOf i).toNat);exact⟨r,1,rfl,rfl,nR _,qsw h1,dQ,bR _ _⟩;obtain⟨k,J,rfl,rfl,s,G,M,b⟩:=hrel;obtain⟨h,v,l,f⟩:=oD b M G (Y.mono b);have P:=NT e k;by_cases j:J=0;{subst j;have d:Hi (oI e r=k):=h_ (by unfold oI;rw[v.u,Od,nT]);by_cases W:k=0;{subst W;go_wp2;go_ret;exact⟨xD (by rw[d.u]),h⟩};have n:(0:Int)<k:=dN;go_wp2;go_ret;exact⟨xD (by rw[d.u]),h⟩};obtain⟨i,rfl⟩:∃i,k=i+1:=⟨k - 1,Fq l.u⟩;have O:=Xw dN l (p i dN) v;have d:=h_ O;have q:=kG (e i);have W:J<=1000:=fv;have z:wrap64 (((i+1:Nat):Int) - 1)=(i:Int):=eO;obtain⟨n,t,rfl,-,R,c1,c2,c3,c4⟩:=f i dN;go_wp2_with fail;refine cQ (NN (e i) _) λx b=>?_;have h:=mT h b;go_wp2;go_roundw;exact⟨i,J - 1+N0 (e i),dR,rfl,dN,d.1,d.2,h⟩;simp[intOf]
def OV (e n):∀x,x∈C3 e n->x.d<=n:=by induction n with|zero=>intro x r;cases r|succ n c=>intro x r;rcases Zs.1 r with rfl|r;{have:∀a:List Ph,(∀y,y∈a->y.d<=n)->mx a<=n:=(by intro a;induction a with|nil=>intro _;exact nZ _|cons p f N=>intro h;exact Dk);have:=this ((C3 e n).take (N0 (e n))).reverse λy b=>c y (Vg (List.mem_reverse.1 b));show mx _+1<=n+1;omega};have:=c x (Gd r);omega
def Da (e){n}(h:1<=n):top e n∈C3 e n:=by obtain⟨k,rfl⟩:∃k,n=k+1:=⟨n - 1,dN⟩;exact Zq
def Fj (e){n}(h:1<=n):(top e n).d<=n:=OV e n _ (Da e h)
def jS (e n i):mx ((C3 e n).take i)<=n:=by have:∀a:List Ph,(∀y,y∈a->y.d<=n)->mx a<=n:=(by intro a;induction a with|nil=>intro _;exact nZ _|cons p r N=>intro h;exact Dk);exact this _ λy b=>OV e n y (Vg b)
def qs1 (e)(n i:Nat)(h):(C3 e n)[i]'(by rw[ZE];exact h)=top e (D3 e n)[i]:=by simp[top,T_]
def Ep (e n i)(h:i<(D3 e n).length):mx ((C3 e n).take (i+1))=max (mx ((C3 e n).take i)) (top e (D3 e n)[i]).d:=by rw[Yx (by rw[ZE];exact h),DO,qs1 e n i h];simp[mx]
def g_ (e n i)(h:i<(D3 e n).length):oI e (D3 e n)[i]=((D3 e n).drop (i+1)).headD 0:=by simp[oI,pP]
def TX (l:List Nat)(i)(h:i<l.length):(l.drop i).headD 0=l[i]:=by simp_all
def Kr (a m c e)(s:m<=1000)(F):∀(r:Nat) (w:Tw),r<=F->tB w a m e->1<=r->r<=m->vC e r -> Gv 188 (Ye a m c r) w (Yj (top e r).d):=by induction F with|zero=>intro r w I _ x;omega|succ F d=>intro r w D b x C Z;obtain⟨n,rfl⟩:∃n,r=n+1:=⟨r - 1,dN⟩;obtain⟨Y,i,I⟩:=oC b Z d;have E:=Z n dN;have G:=kG (e n);have v:Hi ((top e (n+1)).d=mx ((C3 e n).take (N0 (e n)))+1):=h_ (by rw[uT];show mx _+1=_;rw[qY]);have O:wrap64 (((n+1:Nat):Int) - 1)=(n:Int):=(by exact uK);clear b Z d;go_enter func188,ntmps188;go_wp2;go_loopw [5,6,7,8] (λM P b _ wr=>∃k:Nat,k<=N0 (e n)/\M=Yj (mx ((C3 e n).take k))/\P=Yj (((D3 e n).drop k).headD 0)/\b=Yj k/\Bw w wr) (λ_ _ b _ _=>N0 (e n) - (intOf b).toNat);exact⟨0,nZ _,rfl,by rw[Od,nT],rfl,bR _ _⟩;obtain⟨k,J,rfl,rfl,rfl,b⟩:=hrel;obtain⟨h,p⟩:=oB b (Y.mono b);clear b;obtain⟨A,N,rfl,-,R,c1,c2,c3,c4⟩:=p n dN;go_wp2_with fail;refine cQ (NN (e n) _) λP b=>?_;have h:=mT h b;have p:=h_ (p.mono b);clear b R c1 c2 c3 c4;by_cases K:k<N0 (e n);{have L:(k:Int)<(N0 (e n):Int):=dN;have R:k<(D3 e n).length:=dN;rw[TX _ _ R];obtain⟨d,W⟩:=Nq ((D3 e n)[k]);have Q:=pP e n k R;have g:Hi (mx ((C3 e n).take (k+1))=max (mx ((C3 e n).take k)) (top e d).d):=h_ (by rw[Ep e n k R,W]);have l:Hi (oI e d=((D3 e n).drop (k+1)).headD 0):=h_ (by rw[<- W];exact g_ e n k R);rw[W]at Q|-;obtain⟨-,f,M⟩:=Q;have z:=Fj e f;have B:=jS e n k;clear W;go_wp2_with fail;refine cQ (I d _ dN p f dN (i.le dN)) λS b=>?_;have h:=mT h b;have p:=h_ (p.mono b);obtain⟨j,o⟩:=Nq ((top e d).d);obtain⟨q,t⟩:=Nq (mx ((C3 e n).take k));rw[o,t]at g;rw[o]at z|-;rw[t]at B|-;by_cases H:q<j;{have y:(q:Int)<j:=dN;go_wp2_with fail;refine cQ (KR _ m c e d _ s p f dN (i.le dN)) λU b=>?_;have h:=mT h b;go_wp2;go_roundw;{(repeat apply Exists.intro);exact⟨⟨k+1,dN,by rw[g.u,Nat.max_eq_right dN],by rw[l.u],dR,h⟩,rfl⟩};exact kq};have y:¬ (q:Int)<j:=dN;go_wp2_with fail;refine cQ (KR _ m c e d _ s p f dN (i.le dN)) λU b=>?_;have h:=mT h b;go_wp2;go_roundw;{(repeat apply Exists.intro);exact⟨⟨k+1,dN,by rw[g.u,Nat.max_eq_left dN],by rw[l.u],dR,h⟩,rfl⟩};exact kq};obtain rfl:k=N0 (e n):=dN;have B:=jS e n (N0 (e n));have L:¬ ((N0 (e n):Nat):Int)<(N0 (e n):Int):=dN;go_wp2;go_ret;exact⟨xD (by rw[v.u];omega),h⟩
def lH (e:Nat->Nx)(m:Nat):Bool:=((List.range m).all λk=>decide (N0 (e k)<=(D3 e k).length))&&decide ((D3 e m).length=1)
theorem MT (e m):lH e m=Tt ↔ vC e m/\(D3 e m).length=1:=by simp[lH,vC]
def Tf {e m k}(n:k<m)(h:(D3 e k).length<N0 (e k)):lH e m=Ff:=by grind[lH]
def qss {e m}(h:vC e m):lH e m=decide ((D3 e m).length=1):=by simp_all[vC,lH]
def Lr (a m c e w)(Q:m<=1000)(f:tB w a m e):Gv 187 #[Sl a m c] w (.bool (lH e m)):=by have Y:=h_ f;go_enter func187,ntmps187;go_wp2;go_loopw [3,4,5] (λb i _ wr=>∃k:Nat,k<=m/\b=Yj (D3 e k).length/\i=Yj k/\vC e k/\Bw w wr) (λ_ i _ _=>m - (intOf i).toNat);exact⟨0,nZ _,rfl,rfl,λk d=>absurd d (nL _),bR _ _⟩;obtain⟨k,d,rfl,rfl,U,b⟩:=hrel;obtain⟨h,A,p⟩:=oC b U (Y.mono b);have P:=NT e k;by_cases R:k<m;{have L:(k:Int)<m:=dN;obtain⟨s,v,rfl,-,t,c1,c2,c3,c4⟩:=p k R;go_wp2_with fail;refine cQ (NN (e k) _) λz b=>?_;have h:=mT h b;have g:=kG (e k);have K:Hi ((D3 e (k+1)).length=(D3 e k).length - N0 (e k)+1):=h_ (by simp[D3]);obtain⟨x,r⟩:=Nq (N0 (e k));obtain⟨y,n⟩:=Nq ((D3 e k).length);by_cases i:y<x;{have o:(y:Int)<x:=dN;have l:=h_ (Tf R (by rw[r,n];exact i));rw[r,n];go_wp2;go_ret;exact⟨O1 l.symm,h⟩};have o:¬ (y:Int)<x:=dN;have l:Hi (vC e (k+1)):=h_ λj q=>(by by_cases q:j=k;{subst q;rw[r,n];omega};exact A j dN);rw[r,n]at K|-;rw[r]at g;rw[n]at P;go_wp2;go_roundw;exact⟨k+1,dN,by rw[K.u];go_num,dR,l,h⟩;exact kq};obtain rfl:k=m:=dN;have l:=h_ (qss A);obtain⟨y,n⟩:=Nq ((D3 e k).length);rw[n]at l|-;go_wp2;go_ret;exact⟨O1 (by rw[l.u,Zv];simp;omega),h⟩
def qh2 {e m}(h:∀k,k<m->(e k).v.s.size<=1000):∀k,k<=m->DD e k<=1001*k:=by intro k;induction k with|zero=>intro _;exact nR _|succ k b=>intro n;have:=b dN;have:=h k dN;simp only[DD];omega
def Pl (a m c e w)(Q:m<=1000)(g:tB w a m e)(J:∀k,k<m->(e k).v.s.size<=1000):Gv 189 #[Sl a m c] w (Yj (DD e m)):=by obtain⟨Y,f,K⟩:=oC g (qh2 J) J;go_enter func189,ntmps189;go_wp2;go_loopw [3,4] (λn i wr=>∃k:Nat,k<=m/\n=Yj (DD e k)/\i=Yj k/\Bw w wr) (λ_ i _=>m - (intOf i).toNat);exact⟨0,nZ _,rfl,rfl,bR _ _⟩;obtain⟨k,n,rfl,rfl,b⟩:=hrel;obtain⟨h,p⟩:=oB b (Y.mono b);have M:=f k n;by_cases d:k<m;{have L:(k:Int)<m:=dN;obtain⟨j,q,rfl,-,l,c1,c2,c3,c4⟩:=p k d;have o:=K k d;have R:Hi (DD e (k+1)=DD e k+1+(e k).v.s.size):=h_ rfl;obtain⟨y,i⟩:=Nq (DD e k);rw[i]at R M|-;go_wp2;go_roundw;exact⟨k+1,dN,by rw[R.u];go_num,dR,h⟩;exact kq};obtain rfl:k=m:=dN;go_wp2;exact Kv
def P8 (e:Nat->Nx)(n:Nat):List Nat:=((D3 e n).take (N0 (e n))).reverse
def Rs {e n}(h:N0 (e n)<=(D3 e n).length):(P8 e n).length=N0 (e n):=by grind[P8]
def Ss {e n p}(h:p∈P8 e n):1<=p/\p<=n:=by unfold P8 at h;have h:=Vg (List.mem_reverse.1 h);obtain⟨i,X,rfl⟩:=Zi.1 h;exact(pP e n i X).2
def QX (e n):(P8 e n).map (top e)=((C3 e n).take (N0 (e n))).reverse:=by simp[P8,N0,T_]
def Qu (a m c e n w)(G:m<=1000)(b:tB w a m e)(X:n+1<=m)(Z:vC e (n+1)):GZ 191 (Ye a m c ((n+1:Nat):Int)) w λr d=>∃f R,r=.returned (Sl f (N0 (e n)) R)/\L6 d f (N0 (e n)) (λk=>(((P8 e n).getD k 0:Nat):Int))/\Bw w d:=by obtain⟨Y,v⟩:=oB b Z;have aa:=Z n dN;have ab:=kG (e n);have ae:wrap64 (((n+1:Nat):Int) - 1)=(n:Int):=(by exact uK);have l:Hi (Bw w (w.alloc (Cl #[] 3))):=h_ (Bq);clear b Z;go_enter func191,ntmps191;go_wp2;go_loopw [5,6,7,8,9] (λB P i _ _ wr=>∃(k:Nat) (f:To) (R:Nat),k<=N0 (e n)/\B=Sl f k R/\L6 wr f k (λj=>(((((D3 e n).take k).reverse).getD j 0:Nat):Int))/\P=Yj (((D3 e n).drop k).headD 0)/\i=Yj k/\Bw w wr) (λ_ _ i _ _ _=>N0 (e n) - (intOf i).toNat);exact⟨0,_,_,nZ _,rfl,λj y=>absurd y (nL _),by rw[Od,nT],rfl,l⟩;obtain⟨k,f,R,Z,rfl,U,rfl,rfl,b⟩:=hrel;obtain⟨h,I,g⟩:=oC b U (Y.mono b);clear b U l;obtain⟨O,af,rfl,-,o,A,d,x,i⟩:=g n dN;go_wp2_with fail;refine cQ (NN (e n) _) λJ b=>?_;have h:=mT h b;have g:=h_ (g.mono b);have I:=h_ (I.mono b);clear b o A d x i;by_cases ac:k<N0 (e n);{have L:(k:Int)<(N0 (e n):Int):=dN;have i:k<(D3 e n).length:=dN;rw[TX _ _ i];obtain⟨p,W⟩:=Nq ((D3 e n)[k]);have s:=pP e n k i;have t:Hi (oI e p=((D3 e n).drop (k+1)).headD 0):=h_ (by rw[<- W];exact g_ e n k i);have o:Hi (((D3 e n).take (k+1)).reverse=p :: ((D3 e n).take k).reverse):=h_ (by rw[Yx i,List.reverse_append,W];rfl);have E:(((D3 e n).take k).reverse).length=k:=(by rw[Vf,Zd];omega);obtain⟨l,P⟩:=Nq (((D3 e n).take k).reverse);rw[P]at o I E;rw[W]at s|-;obtain⟨-,H,ad⟩:=s;clear W P;obtain⟨z,rfl⟩:∃z,z=J:=⟨_,rfl⟩;have r:=h_ (ZS z 3 (Yj (p:Int)));have d:Hi (Bw z (z.alloc (Cl #[Yj (p:Int)] 3))):=h_ (Bq);go_wp2;go_loopw [8,9] (λnx j K=>∃q:Nat,q<=k/\j=Yj q/\K.ownsRow z.1.size 3 1 nx (q+1) (ui (p :: l.take q))/\Bw z K) (λ_ j _=>k - (intOf j).toNat);exact⟨0,nZ _,rfl,r,d⟩;clear r d;obtain⟨q,W,rfl,y,j⟩:=hrel;obtain⟨V,d,N⟩:=oC y j (I.mono j);by_cases S:q<k;{have Q:(q:Int)<k:=dN;obtain⟨P,o1,rfl,-,A⟩:=N q S;have F:Hi (l.take (q+1)=l.take q++[l.getD q 0]):=h_ (by rw[Yx dN,Zf,Yu dN];rfl);obtain⟨M,r⟩:=Nq (l.getD q 0);simp only[r]at A;rw[r]at F;go_wp2_with (at_builtin;refine yB qB V (Fq d.size) ?_);intro U K D C _ _;have x:=(d.alloc d.size (Cl #[Yj (M:Int)] 3)).grown C (by have:=d.size;simp;omega) (λB e=>C8 V e);have T:Hi (K.ownsRow z.1.size 3 1 U (q+1+1) (ui (p :: l.take (q+1)))):=h_ (by rw[F.u];simpa [ui] using D);have B:=h_ x;refine rQ ?_;exact⟨q+1,dN,dR,T,B⟩};obtain rfl:q=k:=dN;have C:=V.u;rw[Zn dN]at C;obtain⟨x,c1,rfl,D⟩:=YN C;rw[<- o.u]at D;obtain⟨Q,B,r⟩:=oC D (h.trans (d.mono h.size)) (g.mono d);go_wp2_with fail;refine cQ (KR _ m c e p _ G r H dN (v.le dN)) λA b=>?_;have B:=mT B b;have Q:=h_ (Q.mono b);go_wp2;go_roundw;{(repeat apply Exists.intro);exact⟨⟨q+1,_,_,dN,rfl,Q,by rw[t.u],dR,B⟩,rfl⟩};exact kq};obtain rfl:k=N0 (e n):=dN;have L:¬ ((N0 (e n):Nat):Int)<(N0 (e n):Int):=dN;go_wp2;go_ret;exact⟨_,_,rfl,I,h⟩
def qq4 (l x):jt (l++[x])=jt l++(⟨#[44,32]⟩++x):=by induction l with|nil=>show ⟨#[44,32]⟩++x++ByteArray.empty=ByteArray.empty++(⟨#[44,32]⟩++x);rw[ByteArray.append_empty,ByteArray.empty_append]|cons y r b=>simp only[Vh,jt,b,ByteArray.append_assoc]
def qq1 (l x)(h:l≠[]):jn (l++[x])=jn l++⟨#[44,32]⟩++x:=by cases l with|nil=>exact absurd rfl h|cons y r=>simp only[Vh,jn,qq4,ByteArray.append_assoc]
structure BE (a:To)(m:Nat)(e:Nat->Nx)(n:Nat)(w:Tw):Prop where
 nods:tB w a m e
 st:vC e n
 ok:tF e n
 fit:∀k,k<n->EA (e k)
def BE.mono {a m n e w w'}(h:BE a m e n w)(c:Bw w w'):BE a m e n w':=⟨h.nods.mono c,h.st,h.ok,h.fit⟩
def BE.le {a m n k e w}(h:BE a m e n w)(b:k<=n):BE a m e k w:=⟨h.nods,h.st.le b,h.ok.le b,λj y=>h.fit j dN⟩
def BE.tot {a:To}{m n:Nat}{e:Nat->Nx}{w:Tw}(h:BE a m e n w):tot (C3 e n)<=1100*n:=(OT e n h.st h.ok (λk b=>(h.fit k b).2.2.2)).2
def BE.top {a:To}{m n:Nat}{e:Nat->Nx}{w:Tw}(h:BE a m e n w)(G:1<=n):(top e n).t.size<=1100*n:=Y9 (Ea (Da e G)) h.tot
def lN (a:To)(m c:Nat)(e:Nat->Nx)(en:Nat):Prop:=∀w:Tw,BE a m e en w ->
 Gv 138 (Ye a m c en) w (St (top e en).t)
def SL (a m c e n l w)(Q:m<=1000)(G:n+1<=m)(W:lN a m c e (n+1))(b:BE a m e (n+1) w):Gv 193 #[Sl a m c,Yj ((n+1:Nat):Int),Yj l] w (St (wrap l (top e (n+1)))):=by have O:wrap64 (((n+1:Nat):Int) - 1)=(n:Int):=(by exact uK);have T:=b.top dN;have p:=h_ b;have C:Hi (wrap l (top e (n+1))=if N4 (e n).op<l then ⟨#[40]⟩++(top e (n+1)).t++⟨#[41]⟩ else (top e (n+1)).t):=h_ rfl;go_enter func193,ntmps193;go_wp2_with fail;refine cQ (W _ p) λj d=>?_;have h:=h_ d;have p:=h_ (p.mono d);obtain⟨g,o,rfl,-,i,A,k,x,r⟩:=p.nods n dN;generalize (top e (n+1)).t=t at *;go_wp2_with fail;refine cQ (JR _ _) λK f=>?_;have f:=f.symm;subst f;generalize N4 (e n).op=q at *;by_cases s:q<l;{go_wp2;go_ret;exact⟨EC (by rw[C.u,Y4 s]),h⟩};go_wp2;go_ret;exact⟨EC (by rw[C.u,Ys dN]),h⟩
def qrs (e n):(top e (n+1)).t=IB (e n) ((P8 e n).map (top e)):=by rw[uT,QX];rfl
def qnn {l:List Nat}{i}(h:i<l.length):l.getD i 0=l[i]:=by grind
def vT (a k):tot (a.take k)<=tot a:=by have:tot a=tot (a.take k)+tot (a.drop k):=(by rw[<- nS,Vu]);omega
def qmw (e n):tot ((P8 e n).map (top e))<=tot (C3 e n):=by rw[QX,SR];exact vT _ _
def RB (e:Nat->Nx)(n k:Nat):Tb:=t5 (e n).op++⟨#[40]⟩++jn ((((P8 e n).take k).map (top e)).map (·.t))
def tZ (e n):RB e n 0=t5 (e n).op++⟨#[40]⟩:=by unfold RB;rw[List.take_zero];show _++_++ByteArray.empty=_;rw[ByteArray.append_empty]
def qp6 (e n)(h:0<(P8 e n).length):RB e n 1=RB e n 0++(top e (P8 e n)[0]).t:=by rw[tZ];unfold RB;rw[Yx h,List.take_zero];show _++_++((top e (P8 e n)[0]).t++ByteArray.empty)=_;rw[ByteArray.append_empty]
def qix (e n k)(I:0<k)(h:k<(P8 e n).length):RB e n (k+1)=RB e n k++⟨#[44,32]⟩++(top e (P8 e n)[k]).t:=by unfold RB;rw[Yx h,Zz,Zz];show _++_++jn (_++[_])=_;rw[qq1 _ _ (by intro v;have:=congrArg List.length v;simp only[Zr,Zd,Ze]at this;omega)];simp only[ByteArray.append_assoc]
def qiw (e n k)(I:2<=(e n).op)(h1:(e n).op<=25):(RB e n k).size<=tot (C3 e n)+2*k+8:=by have f:=oM I h1;have y:=(vP (((P8 e n).take k).map (top e))).2;have M:=vT ((P8 e n).map (top e)) k;rw[<- List.map_take]at M;have w:=qmw e n;have P:(((P8 e n).take k).map (top e)).length<=k:=(by rw[Zr];exact List.length_take_le _ _);unfold RB;simp only[Y8,YF,Z4,Yv,Ze];omega
def Ee (op):1<=N4 op/\N4 op<=7:=by grind[N4]
def Fe {op}(h:N4 op=7)(I:2<=op):16<=op:=by grind[N4]
variable {P:Prop}
def fU(h:P:=by rw[au]at g ah|-;obtain⟨u3,av⟩:=Nq (T++(⟨#[32]⟩:Tb)++l++⟨#[32]⟩);rw[av]at g ak|-;refine F0 19 99 (St (u3++t2)) b ?_ (hy:=λw U=>by have:=run_string_add_sum (P:=prog) w u3 t2 dN;simp[execOp,go_sem,this]);refine Z1 20 b ?_;refine S3 ?_;exact U6):P:=h
def fX(h:P:=by have ay:=DE 6 (top e (I+1));have M:=(V.le (show I+1<=n+1 by omega)).top dN;go_wp2_with fail;refine cQ (SL _ m c e I 6 _ Q dN (Z (I+1) dN dN dN) (V.le dN)) λN d=>?_;have h:=mT h d;generalize wrap 6 (top e (I+1))=D at *;exact U6):P:=h
def fY(h:P:=by exact U6):P:=h
def wX (a m c e)(Q:m<=1000)(F):∀y:Nat,y<=F->1<=y->y<=m->lN a m c e y:=by induction F with|zero=>intro y I h1;omega|succ F ih=>intro y hF h1 h2 w i;obtain⟨n,rfl⟩:∃n,y=n+1:=⟨y - 1,dN⟩;have Z:=h_ ih;have aW:wrap64 (((n+1:Nat):Int) - 1)=(n:Int):=(by exact uK);have aR:(n:Int)<m:=dN;have aV:=i.top dN;have HT:=h_ (qrs e n);have ao:=i.ok n dN;have am:=i.fit n dN;have aA:=i.st n dN;have ab:=Rs aA;have HM:Hi (∀p,p∈P8 e n->1<=p/\p<=n):=h_ λp W=>Ss W;have HO:=h_ i;obtain⟨E,L,rfl,-,z0,z1,z2,z3,z4⟩:=i.nods n dN;obtain⟨W1,al⟩:=Nq (w.alloc (Cl #[Yj (e n).op,Yj (e n).v.k,Yj (e n).v.n,St (e n).v.s,St (e n).nm] 132));obtain⟨A,h⟩:=oB (j0.new w 132 #[Yj (e n).op,Yj (e n).v.k,Yj (e n).v.n,St (e n).v.s,St (e n).nm]) ((bR w.1.size w).alloc (nR _) (Cl #[Yj (e n).op,Yj (e n).v.k,Yj (e n).v.n,St (e n).v.s,St (e n).nm] 132));rw[al]at A h;have V:=h_ (HO.mono h);rcases GN (e n).op with i|i|⟨i,h'⟩;{have g:Hi ((top e (n+1)).t=y9 (e n).v.k (e n).v.n (e n).v.s):=h_ (by rw[HT.u,IB,Y4 i]);rw[i]at z0 al A;obtain⟨t,O,R,X,Y⟩:=j4 A;go_enter func138,ntmps138;go_wp2_with fail;refine cQ (Pp _ _ _ _ am.1 am.2.2.1 am.2.2.2) λw2 d=>?_;have h:=mT h d;exact fY};{have g:Hi ((top e (n+1)).t=(e n).nm):=h_ (by rw[HT.u,IB,Ys dN,Y4 i]);rw[i]at z0 al A;obtain⟨t,O,R,X,Y⟩:=j4 A;go_enter func138,ntmps138;exact fY};have x:2<=(e n).op/\(e n).op<=25:=(by rw[MP i h']at ao;simp only[Yy,Yw]at ao;exact ao.1.1);have n0:((e n).op==0)=Ff:=Yp.2 i;have n1:((e n).op==1)=Ff:=Yp.2 h';have aj:Hi ((top e (n+1)).t=(if (e n).op=2 then ⟨#[45]⟩++wrap 6 (((P8 e n).map (top e)).getD 0 DF) else if (e n).op=3 then ⟨#[110,111,116,32]⟩++wrap 6 (((P8 e n).map (top e)).getD 0 DF) else if N4 (e n).op=7 then t5 (e n).op++⟨#[40]⟩++jn (((P8 e n).map (top e)).map (·.t))++⟨#[41]⟩ else wrap (EF (e n).op) (((P8 e n).map (top e)).getD 0 DF)++⟨#[32]⟩++t5 (e n).op++⟨#[32]⟩++wrap (N4 (e n).op+1) (((P8 e n).map (top e)).getD 1 DF))):=h_ (by rw[HT.u,IB,Ys i,Ys h']);obtain⟨t,O,R,X,Y⟩:=j4 A;go_enter func138,ntmps138;go_wp2_with fail;refine(Qu _ m c e n _ Q V.nods h2 V.st).mono ?_;rintro aZ w2 ⟨a0,c0,rfl,hI,d⟩;have h:=mT h d;have V:=h_ (V.mono d);have A:=mB A d;have f:=h_ hI;obtain⟨t,O,R,X,Y⟩:=j4 A;go_wp2_with fail;refine cQ (JR _ _) λw3 o=>?_;have o:=o.symm;subst o;by_cases J:(e n).op=2;{have j:N0 (e n)=1:=(by unfold N0;rw[CJ (.inl J)];rfl);rw[j]at f ab|-;obtain⟨p,W⟩:=EI ab;have ad:=HM p (by rw[W];exact Zq);obtain⟨I,rfl⟩:∃k,p=k+1:=⟨p - 1,dN⟩;have g:Hi ((top e (n+1)).t=⟨#[45]⟩++wrap 6 (top e (I+1))):=h_ (by rw[aj.u,Y4 J,W];rfl);obtain⟨q,r,rfl,-,b⟩:=f 0 dN;simp only[W,Vt,Z2]at b;rw[J]at t|-;exact fX};by_cases aa:(e n).op=3;{have j:N0 (e n)=1:=(by unfold N0;rw[CJ (.inr aa)];rfl);rw[j]at f ab|-;obtain⟨p,W⟩:=EI ab;have ad:=HM p (by rw[W];exact Zq);obtain⟨I,rfl⟩:∃k,p=k+1:=⟨p - 1,dN⟩;have g:Hi ((top e (n+1)).t=⟨#[110,111,116,32]⟩++wrap 6 (top e (I+1))):=h_ (by rw[aj.u,Ys J,Y4 aa,W];rfl);obtain⟨q,r,rfl,-,b⟩:=f 0 dN;simp only[W,Vt,Z2]at b;rw[aa]at t|-;exact fX};have n2:((e n).op==2)=Ff:=Yp.2 J;have n3:((e n).op==3)=Ff:=Yp.2 aa;have ax:Hi ((top e (n+1)).t=(if N4 (e n).op=7 then t5 (e n).op++⟨#[40]⟩++jn (((P8 e n).map (top e)).map (·.t))++⟨#[41]⟩ else wrap (EF (e n).op) (((P8 e n).map (top e)).getD 0 DF)++⟨#[32]⟩++t5 (e n).op++⟨#[32]⟩++wrap (N4 (e n).op+1) (((P8 e n).map (top e)).getD 1 DF))):=h_ (by rw[aj.u,Ys J,Ys aa]);by_cases z:N4 (e n).op=7;{have U:=Fe z x.1;have g:Hi ((top e (n+1)).t=RB e n (N0 (e n))++⟨#[41]⟩):=h_ (by rw[ax.u,Y4 z,RB,Zn dN]);have G:=h_ (tZ e n);have T:Hi (∀k,k<=N0 (e n)->(RB e n k).size<=1200000):=h_ λk H=>(by have:=qiw e n k x.1 x.2;have:=(V.le (show n<=n+1 by omega)).tot;have:=kG (e n);omega);have ai:=oM x.1 x.2;have aO:=kG (e n);rw[z];go_wp2_with fail;refine cQ (tW _ _ U x.2) λN o=>?_;have o:=o.symm;subst o;obtain⟨l,aN⟩:=Nq (t5 (e n).op);rw[aN]at G ai|-;go_wp2;go_loopw [8,9] (λB j wr=>∃k:Nat,k<=N0 (e n)/\B=St (RB e n k)/\j=Yj k/\Bw w wr/\BE (Sm (Aq E L)) m e (n+1) wr/\L6 wr a0 (N0 (e n)) (λk=>(((P8 e n).getD k 0:Nat):Int))) (λ_ j _=>N0 (e n) - (intOf j).toNat);exact⟨0,nZ _,by rw[G.u],rfl,h,V,f⟩;obtain⟨k,H,rfl,rfl,d,hO,hG⟩:=hrel;obtain⟨h,V,f⟩:=oC d hO hG;have aD:=T k H;by_cases aF:k<N0 (e n);{have aG:(k:Int)<(N0 (e n):Int):=dN;obtain⟨q,r,rfl,-,b⟩:=f k aF;have C:k<(P8 e n).length:=dN;simp only[qnn C]at b;obtain⟨p,W⟩:=Nq ((P8 e n)[k]);have ad:=HM _ (Yt C);have K:Hi (RB e n (k+1)=(if k=0 then RB e n k else RB e n k++⟨#[44,32]⟩)++(top e p).t):=h_ (by by_cases j:k=0;{subst j;rw[Y4 rfl,qp6 e n dN,W]};rw[Ys j,qix e n k dN C,W]);rw[W]at b ad;have M:=(V.le (show p<=n+1 by omega)).top dN;obtain⟨B,hq⟩:=Nq (RB e n k);rw[hq]at K aD|-;by_cases j:k=0;{subst j;rw[Y4 rfl]at K;simp only[Z2]at b;rw[show((0:Nat):Int)=(0:Int) from rfl];have aQ:(0:Int)<(N0 (e n):Int):=dN;go_wp2_with fail;refine cQ (Z p dN dN dN _ (V.le dN)) λw5 d=>?_;have h:=mT h d;have V:=h_ (V.mono d);have f:=h_ (f.mono d);generalize (top e p).t=D at *;refine rQ ?_;exact⟨1,dN,by rw[K.u],rfl,h,V,f⟩};rw[Ys j]at K;have aP:(0:Int)<k:=dN;go_wp2_with fail;refine cQ (Z p dN dN dN _ (V.le dN)) λw5 d=>?_;have h:=mT h d;have V:=h_ (V.mono d);have f:=h_ (f.mono d);generalize (top e p).t=D at *;have aJ:(B++(⟨#[44,32]⟩:Tb)).size=B.size+2:=fw;obtain⟨q2,aK⟩:=Nq (B++(⟨#[44,32]⟩:Tb));rw[aK]at K aJ|-;refine rQ ?_;exact⟨k+1,dN,by rw[K.u],dR,h,V,f⟩};obtain rfl:k=N0 (e n):=dN;have aG:¬ ((N0 (e n):Nat):Int)<(N0 (e n):Int):=dN;generalize RB e n (N0 (e n))=B at *;exact fY};have e2:N0 (e n)=2:=(by unfold N0;rw[mQ x.1 x.2 z J aa];rfl);have ag:4<=(e n).op/\(e n).op<=15:=(by refine⟨dN,?_⟩;refine Zh λb=>z (FT dN));rw[e2]at f ab|-;obtain⟨p,B,W⟩:=pQ ab;have ad:=HM p (by rw[W];exact Zq);have aL:=HM B (by rw[W];exact Zy _ Zq);obtain⟨I,rfl⟩:∃k,p=k+1:=⟨p - 1,dN⟩;obtain⟨M,rfl⟩:∃k,B=k+1:=⟨B - 1,dN⟩;have g:Hi ((top e (n+1)).t=wrap (EF (e n).op) (top e (I+1))++⟨#[32]⟩++t5 (e n).op++⟨#[32]⟩++wrap (N4 (e n).op+1) (top e (M+1))):=h_ (by rw[ax.u,Ys z,W];rfl);have ae:Hi (EF (e n).op=if N4 (e n).op=3 then 4 else N4 (e n).op):=h_ rfl;have aB:=f 0 dN;have aC:=f 1 dN;obtain⟨q,r,rfl,-,j⟩:=aB;obtain⟨b2,o2,az,-,K⟩:=aC;cases az;simp only[W,Vt,Ge,Z2]at j K;have aU:=(V.le (show I+1<=n+1 by omega)).top dN;have ay:=(V.le (show M+1<=n+1 by omega)).top dN;have ap:=DE (EF (e n).op) (top e (I+1));have ah:=DE (N4 (e n).op+1) (top e (M+1));have ai:=oM x.1 x.2;have aH:1<=N4 (e n).op/\N4 (e n).op<=7:=Ee _;obtain⟨HP,HQ⟩:=oB (show lN (Sm (Aq E L)) m c e (I+1) from Z (I+1) dN dN dN) (show lN (Sm (Aq E L)) m c e (M+1) from Z (M+1) dN dN dN);have aS:I+1<=n:=ad.2;have aT:M+1<=n:=aL.2;obtain⟨lv,aI⟩:=Nq (N4 (e n).op);obtain⟨k,aE⟩:=Nq (EF (e n).op);have aX:wrap64 (lv+1)=lv+1:=CE dN dN;rw[aI]at g ae z ah aH|-;rw[aE]at g ae ap;have n7:(lv==7)=Ff:=Yp.2 z;have af:=h_ W;have HF:Hi (Bw w2 w2.drew):=h_ ((bR _ _).drew);by_cases h3:lv=3;{have an:k=4:=(by rw[ae.u,Y4 h3]);subst h3 an;simp only[show(3:Int)+1=4 from rfl]at g ah;go_wp2;refine wp_region_held_drew (S:=λN=>N.cell? (Aq q r)=Sm (Yj ((I+1:Nat):Int))/\N.cell? (Aq q (r+1))=Sm (Yj ((M+1:Nat):Int))/\N.cell? (zw w 0)=Sm (Yj (e n).op)) dP ⟨j,K,t⟩ (λb=>?_);refine tq 0 1 2 b ?_;refine tq 3 4 7 b ?_;refine tq 8 12 13 b ?_;refine tq 14 15 16 b ?_;refine F0 17 97 (Yj 4) b ?_ (hy:=λw U=>by simp[execOp,go_sem, *];rfl);refine jA (args:=#[GV E L m c,Yj ((I+1:Nat):Int),Yj 4]) 5 85 (SL _ m c e I 4 _ Q dN HP ((V.mono HF).le dN)) λC d=>?_;have d:=M7 d;have h:=mT h d;have V:=h_ (V.mono d);have A:=mB A d;have f:=h_ (f.mono d);obtain⟨t,O,R,X,Y⟩:=j4 A;obtain⟨b3,o3,H,-,j⟩:=f 0 dN;obtain⟨b4,o4,G,-,K⟩:=f 1 dN;cases H;cases G;simp only[af.u,Vt,Ge,Z2]at j K;have b:C.cell? (Aq q r)=Sm (Yj ((I+1:Nat):Int))/\C.cell? (Aq q (r+1))=Sm (Yj ((M+1:Nat):Int))/\C.cell? (zw w 0)=Sm (Yj (e n).op):=⟨j,K,t⟩;refine⟨b,?_⟩;refine t6 ?_;obtain⟨T,aq⟩:=Nq (wrap 4 (top e (I+1)));rw[aq]at g ap|-;have aM:T.size<=1200000:=dN;have hA:(T++(⟨#[32]⟩:Tb)).size=T.size+1:=fw;refine F0 6 86 (St (T++⟨#[32]⟩)) b ?_ (hy:=λw U=>by have:=run_string_add_sum (P:=prog) w T ⟨#[32]⟩ fj;simp[execOp,go_sem,this]);refine jA (args:=#[Yj (e n).op]) 9 89 (ZR _ _ ag.1 ag.2) λW5 o=>?_;have o:=o.symm;subst o;refine⟨b,?_⟩;refine t6 ?_;obtain⟨l,aw⟩:=Nq (t5 (e n).op);rw[aw]at g ai|-;have ac:(T++(⟨#[32]⟩:Tb)++l).size=T.size+1+l.size:=(by rw[Y8,hA]);refine F0 10 90 (St (T++⟨#[32]⟩++l)) b ?_ (hy:=λw U=>by have:=run_string_add_sum (P:=prog) w (T++⟨#[32]⟩) l dN;simp[execOp,go_sem,this]);have ak:(T++(⟨#[32]⟩:Tb)++l++⟨#[32]⟩).size=T.size+1+l.size+1:=(by rw[Y8,ac];rfl);refine F0 11 91 (St (T++⟨#[32]⟩++l++⟨#[32]⟩)) b ?_ (hy:=λw U=>by have:=run_string_add_sum (P:=prog) w (T++⟨#[32]⟩++l) ⟨#[32]⟩ (by rw[ac];show T.size+1+l.size+1<=_;omega);simp[execOp,go_sem,this]);refine jA (args:=#[GV E L m c,Yj ((M+1:Nat):Int),Yj 4]) 18 98 (SL _ m c e M 4 _ Q dN HQ (V.le dN)) λD d=>?_;have h:=mT h d;have A:=mB A d;have f:=h_ (f.mono d);obtain⟨t,O,R,X,Y⟩:=j4 A;obtain⟨b3,o3,H,-,j⟩:=f 0 dN;obtain⟨b4,o4,G,-,K⟩:=f 1 dN;cases H;cases G;simp only[af.u,Vt,Ge,Z2]at j K;have b:D.cell? (Aq q r)=Sm (Yj ((I+1:Nat):Int))/\D.cell? (Aq q (r+1))=Sm (Yj ((M+1:Nat):Int))/\D.cell? (zw w 0)=Sm (Yj (e n).op):=⟨j,K,t⟩;refine⟨b,?_⟩;refine t6 ?_;obtain⟨t2,au⟩:=Nq (wrap 4 (top e (M+1)));exact fU};have an:k=lv:=(by rw[ae.u,Ys h3]);subst an;have aY:(k==3)=Ff:=Yp.2 h3;go_wp2;refine wp_region_held_drew (S:=λN=>N.cell? (Aq q r)=Sm (Yj ((I+1:Nat):Int))/\N.cell? (Aq q (r+1))=Sm (Yj ((M+1:Nat):Int))/\N.cell? (zw w 0)=Sm (Yj (e n).op)) dP ⟨j,K,t⟩ (λb=>?_);refine tq 0 1 2 b ?_;refine tq 3 4 7 b ?_;refine tq 8 12 13 b ?_;refine tq 14 15 16 b ?_;refine F0 17 97 (Yj (k+1)) b ?_ (hy:=λw U=>by exact uV);refine jA (args:=#[GV E L m c,Yj ((I+1:Nat):Int),Yj k]) 5 85 (SL _ m c e I k _ Q dN HP ((V.mono HF).le dN)) λC d=>?_;have d:=M7 d;have h:=mT h d;have V:=h_ (V.mono d);have A:=mB A d;have f:=h_ (f.mono d);obtain⟨t,O,R,X,Y⟩:=j4 A;obtain⟨b3,o3,H,-,j⟩:=f 0 dN;obtain⟨b4,o4,G,-,K⟩:=f 1 dN;cases H;cases G;simp only[af.u,Vt,Ge,Z2]at j K;have b:C.cell? (Aq q r)=Sm (Yj ((I+1:Nat):Int))/\C.cell? (Aq q (r+1))=Sm (Yj ((M+1:Nat):Int))/\C.cell? (zw w 0)=Sm (Yj (e n).op):=⟨j,K,t⟩;refine⟨b,?_⟩;refine t6 ?_;obtain⟨T,aq⟩:=Nq (wrap k (top e (I+1)));rw[aq]at g ap|-;have aM:T.size<=1200000:=dN;have hA:(T++(⟨#[32]⟩:Tb)).size=T.size+1:=fw;refine F0 6 86 (St (T++⟨#[32]⟩)) b ?_ (hy:=λw U=>by have:=run_string_add_sum (P:=prog) w T ⟨#[32]⟩ fj;simp[execOp,go_sem,this]);refine jA (args:=#[Yj (e n).op]) 9 89 (ZR _ _ ag.1 ag.2) λW5 o=>?_;have o:=o.symm;subst o;refine⟨b,?_⟩;refine t6 ?_;obtain⟨l,aw⟩:=Nq (t5 (e n).op);rw[aw]at g ai|-;have ac:(T++(⟨#[32]⟩:Tb)++l).size=T.size+1+l.size:=(by rw[Y8,hA]);refine F0 10 90 (St (T++⟨#[32]⟩++l)) b ?_ (hy:=λw U=>by have:=run_string_add_sum (P:=prog) w (T++⟨#[32]⟩) l dN;simp[execOp,go_sem,this]);have ak:(T++(⟨#[32]⟩:Tb)++l++⟨#[32]⟩).size=T.size+1+l.size+1:=(by rw[Y8,ac];rfl);refine F0 11 91 (St (T++⟨#[32]⟩++l++⟨#[32]⟩)) b ?_ (hy:=λw U=>by have:=run_string_add_sum (P:=prog) w (T++⟨#[32]⟩++l) ⟨#[32]⟩ (by rw[ac];show T.size+1+l.size+1<=_;omega);simp[execOp,go_sem,this]);refine jA (args:=#[GV E L m c,Yj ((M+1:Nat):Int),Yj (k+1)]) 18 98 (SL _ m c e M (k+1) _ Q dN HQ (V.le dN)) λD d=>?_;have h:=mT h d;have A:=mB A d;have f:=h_ (f.mono d);obtain⟨t,O,R,X,Y⟩:=j4 A;obtain⟨b3,o3,H,-,j⟩:=f 0 dN;obtain⟨b4,o4,G,-,K⟩:=f 1 dN;cases H;cases G;simp only[af.u,Vt,Ge,Z2]at j K;have b:D.cell? (Aq q r)=Sm (Yj ((I+1:Nat):Int))/\D.cell? (Aq q (r+1))=Sm (Yj ((M+1:Nat):Int))/\D.cell? (zw w 0)=Sm (Yj (e n).op):=⟨j,K,t⟩;refine⟨b,?_⟩;refine t6 ?_;obtain⟨t2,au⟩:=Nq (wrap (k+1) (top e (M+1)));exact fU
def MB (e:Nat->Nx)(m:Nat):Bool:=decide (1<=m/\m<=1000)&&((List.range m).all λk=>L8 (e k))&&lH e m&&decide ((top e m).d<=64)&&decide ((top e m).t.size<=4000)
theorem JK (e m):MB e m=Tt ↔ QF e m:=by grind[MB,QF,tF,MT]
def uH {e m}(h:¬ QF e m):MB e m=Ff:=by grind[MB,QF,JK]
def Mv {n}(h:L8 n=Tt):n.v.s.size<=1000:=by unfold L8 at h;split at h;{simp only[Yy,Yw]at h;have:=h.1.1.2;unfold yA at this;(repeat' split at this) <;> (try simp only[Yy,Yw]at this) <;> first|omega|exact(qK.1 this.2).1|cases this};split at h;{simp only[Yy,Yw]at h;omega};simp only[Yy,Yw]at h;omega
def f8(h:P:=by go_wp2;go_ret;exact⟨O1 F.symm,h⟩):P:=h
def ga(h:P:=by go_enter func137,ntmps137;exact K8):P:=h
def Ql (a m c e w)(Q:m<=9223372036854775807)(o:tB w a m e)(N:∀k,k<m->EA (e k)):Gv 137 #[Sl a m c] w (.bool (MB e m)):=by by_cases x:m<1;{rw[uH λb=>by have:=b.1;omega];exact ga};by_cases z:1000<m;{rw[uH λb=>by have:=b.2.1;omega];exact ga};obtain⟨Y,HF⟩:=oB o N;obtain⟨r,E⟩:=Nq (MB e m);rw[E];have g:=h_ E;go_enter func137,ntmps137;go_wp2;go_loopw [3] (λi wr=>∃k:Nat,k<=m/\i=Yj k/\tF e k/\Bw w wr) (λi _=>m - (intOf i).toNat);exact⟨0,nZ _,rfl,λk n=>absurd n (nL _),bR _ _⟩;obtain⟨k,n,rfl,s,f⟩:=hrel;obtain⟨h,W,p⟩:=oC f s (Y.mono f);by_cases R:k<m;{have L:(k:Int)<m:=dN;obtain⟨i,A,rfl,-,t,c1,c2,c3,c4⟩:=p k R;go_wp2_with fail;refine cQ (Hm (e k) _ (HF k R)) λv f=>?_;have h:=mT h f;cases H:L8 (e k);{have F:Hi (r=Ff):=h_ (by rw[<- g.u];exact uH λb=>by have:=b.2.2.1 k R;rw[H]at this;cases this);exact f8};have l:Hi (tF e (k+1)):=h_ λj y=>(by by_cases q:j=k;{subst q;exact H};exact W j dN);refine rQ ?_;exact⟨k+1,dN,dR,l,h⟩};obtain rfl:k=m:=dN;go_wp2_with fail;refine cQ (Lr a k c e _ dN p) λv f=>?_;have h:=mT h f;have p:=h_ (p.mono f);cases J:lH e k;{have F:Hi (r=Ff):=h_ (by rw[<- g.u];exact uH λb=>by have:=(MT e k).2 ⟨b.2.2.2.1,b.2.2.2.2.1⟩;rw[J]at this;cases this);exact f8};obtain⟨O,t⟩:=(MT e k).1 J;obtain⟨K,l⟩:=oB O t;go_wp2_with fail;refine cQ (Kr a k c e dN k k _ (nR _) p dN (nR _) K) λB f=>?_;have h:=mT h f;have p:=h_ (p.mono f);by_cases q:64<(top e k).d;{have V:(64:Int)<(top e k).d:=dN;have F:Hi (r=Ff):=h_ (by rw[<- g.u];exact uH λb=>Fq b.2.2.2.2.2.1);exact f8};have i:=h_ q;go_wp2_with fail;refine cQ (Pl a k c e _ dN p (λj y=>Mv (W j y))) λU f=>?_;have h:=mT h f;have p:=h_ (p.mono f);by_cases A:4000<DD e k;{have I:(4000:Int)<(DD e k:Int):=dN;have F:Hi (r=Ff):=h_ (by rw[<- g.u];exact uH λb=>Fq (b.sum (λj y=>(HF j y).2.2.2)));exact f8};go_wp2_with fail;refine cQ (wX a k c e dN k k (nR _) dN (nR _) _ ⟨p,K,W,HF⟩) λj f=>?_;have h:=mT h f;have F:Hi (r=decide ((top e k).t.size<=4000)):=h_ (by rw[<- g.u,Zv,JK,Yw];exact⟨λb=>b.2.2.2.2.2.2,λb=>⟨dN,dN,W,K,l,Fq i.u,b⟩⟩);generalize (top e k).t=b at *;go_wp2;go_ret;exact⟨O1 (by rw[F.u,Zv];simp;omega),h⟩
end
section
open Go Go.Proofs.Tryz
def M0 (x:Tb)(l:List Tb):Bool:=l.any λy=>decide (y=x)
theorem nE (x l):M0 x l=Tt ↔ x∈l:=by simp[M0]
theorem H_ {x l}(h:¬ x∈l):M0 x l=Ff:=by grind[M0]
structure Rl where
 nm:Tb
 lb:Int
structure Fl where
 nm:Tb
 ty:Int
 lb:Int
 bys:List Int
 is:List Nx
 wh:List Nx
 va:List Nx
 sy:Tb
 mu:List Nx
abbrev Jd(x0:Fl)(x1:To)(x2:Nat)(x3:To)(x4:Nat)(x5:To)(x6:Nat)(x7:To)(x8:Nat)(x9:To)(x10:Nat):Ta:=#[St x0.nm,Yj x0.ty,Yj x0.lb,Sl x1 x0.bys.length x2,Sl x3 x0.is.length x4,Sl x5 x0.wh.length x6,Sl x7 x0.va.length x8,St x0.sy,Sl x9 x0.mu.length x10]
structure Fm where
 L:List Tb
 P:List (Int × Int)
 R:List Rl
 F:List Fl
abbrev Fm.n (m:Fm):Nat:=m.F.length
abbrev Fm.l (m:Fm):Nat:=m.L.length
abbrev Fm.r (m:Fm):Nat:=m.R.length
abbrev Fm.p (m:Fm):Nat:=m.P.length
abbrev J2(x0:To)(x1:Fm)(x2:Nat)(x3:To)(x4:Nat)(x5:To)(x6:Nat)(x7:To)(x8:Nat):Tl:=[Sl x0 x1.L.length x2,Sl x3 x1.P.length x4,Sl x5 x1.R.length x6,Sl x7 x1.F.length x8]
abbrev Je(x0:To)(x1:Fm)(x2:Nat)(x3:To)(x4:Nat)(x5:To)(x6:Nat)(x7:To)(x8:Nat):Ta:=#[Sl x0 x1.L.length x2,Sl x3 x1.P.length x4,Sl x5 x1.R.length x6,Sl x7 x1.F.length x8]
def noRl:Rl:=⟨⟨#[]⟩,0⟩
def noNx:Nx:=⟨0,⟨0,0,⟨#[]⟩⟩,⟨#[]⟩⟩
def nf (l:List Nx)(k:Nat):Nx:=l.getD k noNx
def FG (l k)(h:k<l.length):nf l k=l[k]:=by grind[nf]
def jF (l:List Nx):Bool:=MB (nf l) l.length
def lJ (l:List Nx):Tb:=(top (nf l) l.length).t
def E1 (l:List Nx):Bool:=decide (l.length=0)||jF l
def V5 (names:List Tb)(l:List Nx):Bool:=l.all λn=>!decide (n.op=1)||M0 n.nm names
def Q5 (l:List Tb):Bool:=l.all E0&&decide l.Nodup
def A1 (n:Nat)(x:Int):Bool:=decide (0<=x/\x<n)
def mA (nr:Nat)(l:List Int):Bool:=l.all (A1 nr)&&decide l.Nodup
def lA (nl nr:Nat)(f:Fl):Bool :=
 decide (1<=f.ty/\f.ty<=3)&&decide (-1<=f.lb/\f.lb<nl)&&mA nr f.bys&&decide (f.is.length=0\/f.bys.length=0)&&BA f.sy&&decide (f.va.length≠0\/f.sy.size=0)&&E1 f.is&&E1 f.wh&&E1 f.va&&E1 f.mu
def S6 (names:List Tb)(f:Fl):Bool:=V5 names f.is&&V5 names f.wh&&V5 names f.va&&V5 names f.mu
def I0 (f:Fm):List Tb:=f.F.map (·.nm)
def D2 (f:Fm):List Tb:=f.R.map (·.nm)
def sb (s:Tb):List UInt8:=s.data.toList
def kB (ls:List Tb)(i:Int):Tb:=ls.getD i.toNat ⟨#[]⟩
def MJ (rs:List Rl)(i:Int):Rl:=rs.getD i.toNat noRl
def xE (x:Tb):List UInt8:=[108,97,98,101,108,32]++sb x++[59,10]
def lE (ls:List Tb)(p:Int × Int):List UInt8:=[98,101,108,111,119,32]++sb (kB ls p.1)++[32]++sb (kB ls p.2)++[59,10]
def yE (ls:List Tb)(r:Rl):List UInt8:=[114,111,108,101,32]++sb r.nm++[32,97,116,32]++sb (kB ls r.lb)++[59,10]
def nA (word:List UInt8)(l:List Nx):List UInt8:=if l.length=0 then [] else [32]++word++[32]++sb (lJ l)
def oJ:List UInt8:=[105,115]
def FI:List UInt8:=[119,104,101,110]
def tI:List UInt8:=[118,97,108,105,100]
def NJ:List UInt8:=[109,117,115,116]
def SD (t:Int):List UInt8:=if t=1 then [105,110,116] else if t=2 then [98,111,111,108] else [116,101,120,116]
def yD (rs:List Rl)(i:Int):List UInt8:=[32,98,121,32]++sb (MJ rs i).nm
def wH (f:Fl):List UInt8:=if f.va.length=0 then [] else [32,115,97,121,115,32,34]++sb f.sy++[34]
def uE (fm:Fm)(f:Fl):List UInt8:=[102,105,101,108,100,32]++sb f.nm++[32]++SD f.ty++[32,97,116,32]++(if f.lb<0 then [97,117,116,111] else sb (kB fm.L f.lb))
def yF (fm:Fm)(f:Fl):List UInt8:=uE fm f++f.bys.flatMap (yD fm.R)++nA oJ f.is++nA FI f.wh++nA tI f.va++wH f++nA NJ f.mu++[59,10]
def cT (f:Fm):List UInt8:=f.L.flatMap xE++f.P.flatMap (lE f.L)++f.R.flatMap (yE f.L)++f.F.flatMap (yF f)
def vfA (f:Fm):Bool :=
 decide (f.L.length<=32/\f.P.length<=256/\f.R.length<=64/\f.F.length<=200)&&Q5 f.L&&Q5 (D2 f)&&Q5 (I0 f)
  && (f.P.all λp=>A1 f.L.length p.1&&A1 f.L.length p.2)&&(f.R.all λr=>A1 f.L.length r.lb)
  && (f.F.all λd=>lA f.L.length f.R.length d&&S6 (I0 f) d)
def D8 (f:Fm):Bool:=vfA f&&decide ((cT f).length<=30000)
theorem LD {s}(h:E0 s=Tt):s.size<=16:=by grind[E0]
theorem qn1 {l}(h:jF l=Tt):(lJ l).size<=4000:=((JK _ _).1 h).2.2.2.2.2.2
theorem sF (s):(sb s).length=s.size:=by simp[sb]
def PL {X i}(h:Q5 X=Tt):(kB X i).size<=16:=by unfold kB;rw[Zf];cases Q:X[i.toNat]? with|none=>exact nZ _|some x=>simp only[Q5,Yy,Zm]at h;exact LD (h.1 x (Gn Q))
def MH {l word}(h:E1 l=Tt)(f:word.length<=5):(nA word l).length<=4010:=by grind[nA,E1,qn1,sF]
def KL {D:Type}(l:List D)(g:D->List UInt8)(c)(h:∀x,x∈l->(g x).length<=c):(l.flatMap g).length<=c*l.length:=by induction l with|nil=>simp|cons x r b=>have j:=h x Zq;have i:=b λy n=>h y (Zy _ n);simp only[O4,Yn,Yv,Nat.mul_add,Nat.mul_one];omega
end
section
open Go Go.RowKit Go.Proofs.Tryz
def T5 (w:Tw)(a:To)(l:List Tb):Prop:=∀k (h:k<l.length),∃b o,a=Sm (Aq b o)/\b<w.1.size/\w.cell? (Aq b (o+k))=Sm (St l[k])
def T5.mono {w w' a l}(h:T5 w a l)(c:Bw w w'):T5 w' a l:=λk n=>by obtain⟨b,o,e,P,v⟩:=h k n;exact⟨b,o,e,Zc P c.size,(c.cell P).trans v⟩
def oH (w:Tw)(a:To)(l:List (Int × Int)):Prop:=∀k (h:k<l.length),∃b o,a=Sm (Aq b o)/\b<w.1.size/\w.cell? (Aq b (o+k*2))=Sm (.int .i64 l[k].1)/\w.cell? (Aq b (o+k*2+1))=Sm (.int .i64 l[k].2)
def f9 {p:Prop}(h:p:=by obtain⟨b,o,e,P,v,d⟩:=h k n;exact⟨b,o,e,Zc P c.size,(c.cell P).trans v,(c.cell P).trans d⟩):p:=h
def oH.mono {w w' a l}(h:oH w a l)(c:Bw w w'):oH w' a l:=λk n=>by exact f9
def zG (w:Tw)(a:To)(l:List Rl):Prop:=∀k (h:k<l.length),∃b o,a=Sm (Aq b o)/\b<w.1.size/\w.cell? (Aq b (o+k*2))=Sm (St l[k].nm)/\w.cell? (Aq b (o+k*2+1))=Sm (.int .i64 l[k].lb)
def zG.mono {w w' a l}(h:zG w a l)(c:Bw w w'):zG w' a l:=λk n=>by exact f9
def pG (w:Tw)(a:To)(l:List Int):Prop:=L6 w a l.length (λk=>l.getD k 0)
def pG.mono {w w' a l}(h:pG w a l)(c:Bw w w'):pG w' a l:=L6.mono h c
def CA (w:Tw)(a:To)(l:List Nx):Prop:=tB w a l.length (nf l)
def CA.mono {w w' a l}(h:CA w a l)(c:Bw w w'):CA w' a l:=tB.mono h c
structure FA where
 b:To
 bc:Nat
 i:To
 ic:Nat
 h:To
 hc:Nat
 v:To
 vc:Nat
 u:To
 uc:Nat
structure XC (w:Tw)(f:Fl)(A:FA):Prop where
 b:pG w A.b f.bys
 i:CA w A.i f.is
 h:CA w A.h f.wh
 v:CA w A.v f.va
 u:CA w A.u f.mu
def XC.mono {w w' f A}(h:XC w f A)(c:Bw w w'):XC w' f A:=⟨h.b.mono c,h.i.mono c,h.h.mono c,h.v.mono c,h.u.mono c⟩
def wJ (f:Fl)(A:FA):Tl:=[St f.nm,.int .i64 f.ty,.int .i64 f.lb,Sl A.b f.bys.length A.bc,Sl A.i f.is.length A.ic,Sl A.h f.wh.length A.hc,Sl A.v f.va.length A.vc,St f.sy,Sl A.u f.mu.length A.uc]
def fV (f:Fl)(A:FA):Value:=.agg #[St f.nm,.int .i64 f.ty,.int .i64 f.lb,Sl A.b f.bys.length A.bc,Sl A.i f.is.length A.ic,Sl A.h f.wh.length A.hc,Sl A.v f.va.length A.vc,St f.sy,Sl A.u f.mu.length A.uc]
def zF (w:Tw)(b o:Nat)(f:Fl)(A:FA):Prop:=b<w.1.size/\w.cell? (Aq b o)=Sm (St f.nm)/\w.cell? (Aq b (o+1))=Sm (.int .i64 f.ty)/\w.cell? (Aq b (o+2))=Sm (.int .i64 f.lb)/\w.cell? (Aq b (o+3))=Sm (Sl A.b f.bys.length A.bc)/\w.cell? (Aq b (o+4))=Sm (Sl A.i f.is.length A.ic)/\w.cell? (Aq b (o+5))=Sm (Sl A.h f.wh.length A.hc)/\w.cell? (Aq b (o+6))=Sm (Sl A.v f.va.length A.vc)/\w.cell? (Aq b (o+7))=Sm (St f.sy)/\w.cell? (Aq b (o+8))=Sm (Sl A.u f.mu.length A.uc)
def zF.mono {w w' b o f A}(h:zF w b o f A)(c:Bw w w'):zF w' b o f A :=
 ⟨Zc h.1 c.size,(c.cell h.1).trans h.2.1,(c.cell h.1).trans h.2.2.1,(c.cell h.1).trans h.2.2.2.1,(c.cell h.1).trans h.2.2.2.2.1,(c.cell h.1).trans h.2.2.2.2.2.1,(c.cell h.1).trans h.2.2.2.2.2.2.1,(c.cell h.1).trans h.2.2.2.2.2.2.2.1,(c.cell h.1).trans h.2.2.2.2.2.2.2.2.1,(c.cell h.1).trans h.2.2.2.2.2.2.2.2.2⟩
def X6 {w b t v u Z l H X o a C}(h:j0 w b t [v,u,Z,l,H,X,o,a,C]) :
 w.cell? (Aq b 0)=Sm v/\w.cell? (Aq b 1)=Sm u/\w.cell? (Aq b 2)=Sm Z/\w.cell? (Aq b 3)=Sm l/\w.cell? (Aq b 4)=Sm H/\w.cell? (Aq b 5)=Sm X/\w.cell? (Aq b 6)=Sm o/\w.cell? (Aq b 7)=Sm a/\w.cell? (Aq b 8)=Sm C:=⟨h.cell 0,h.cell 1,h.cell 2,h.cell 3,h.cell 4,h.cell 5,h.cell 6,h.cell 7,h.cell 8⟩
def zE (w:Tw)(a:To)(l:List Fl)(A:Nat->FA):Prop:=∀k (h:k<l.length),∃b o,a=Sm (Aq b o)/\zF w b (o+k*9) l[k] (A k)/\XC w l[k] (A k)
def zE.mono {w w' a l A}(h:zE w a l A)(c:Bw w w'):zE w' a l A:=λk n=>by obtain⟨b,o,e,v,J⟩:=h k n;exact⟨b,o,e,v.mono c,J.mono c⟩
structure MA where
 l:To
 lc:Nat
 p:To
 pc:Nat
 r:To
 rc:Nat
 f:To
 fc:Nat
 fa:Nat->FA
abbrev Jc(x0:MA)(x1:Fm):Ta:=#[Sl x0.l x1.L.length x0.lc,Sl x0.p x1.P.length x0.pc,Sl x0.r x1.R.length x0.rc,Sl x0.f x1.F.length x0.fc]
def mV (m:Fm)(A:MA):Value:=.agg #[Sl A.l m.L.length A.lc,Sl A.p m.P.length A.pc,Sl A.r m.R.length A.rc,Sl A.f m.F.length A.fc]
structure R0 (w:Tw)(m:Fm)(A:MA):Prop where
 l:T5 w A.l m.L
 p:oH w A.p m.P
 r:zG w A.r m.R
 f:zE w A.f m.F A.fa
def R0.mono {w w' m A}(h:R0 w m A)(c:Bw w w'):R0 w' m A:=⟨h.l.mono c,h.p.mono c,h.r.mono c,h.f.mono c⟩
def D0 {w b t v u Z l}(h:j0 w b t [v,u,Z,l]) :
 w.cell? (Aq b 0)=Sm v/\w.cell? (Aq b 1)=Sm u/\w.cell? (Aq b 2)=Sm Z/\w.cell? (Aq b 3)=Sm l:=⟨h.cell 0,h.cell 1,h.cell 2,h.cell 3⟩
structure OG (f:Fl):Prop where
 nm:f.nm.size<=9223372036854775807
 sy:f.sy.size<=9223372036854775807
 bl:f.bys.length<=9223372036854775807
 il:f.is.length<=9223372036854775807
 hl:f.wh.length<=9223372036854775807
 vl:f.va.length<=9223372036854775807
 ul:f.mu.length<=9223372036854775807
 i:∀k,k<f.is.length->EA (nf f.is k)
 h:∀k,k<f.wh.length->EA (nf f.wh k)
 v:∀k,k<f.va.length->EA (nf f.va k)
 u:∀k,k<f.mu.length->EA (nf f.mu k)
structure l6 (m:Fm):Prop where
 ll:m.L.length<=9223372036854775807
 pl:m.P.length<=9223372036854775807
 rl:m.R.length<=9223372036854775807
 fl:m.F.length<=9223372036854775807
 l:∀x,x∈m.L->x.size<=9223372036854775807
 r:∀x,x∈m.R->x.nm.size<=9223372036854775807
 f:∀x,x∈m.F->OG x
def nC (n:Nx):Tl:=[.int .i64 n.op,.int .i64 n.v.k,.int .i64 n.v.n,St n.v.s,St n.nm]
def rD (l:List Nx):Tl:=l.flatMap nC
def LZ (l r):rD (l++r)=rD l++rD r:=by simp[rD]
def qk7 {l k p}(n:k<l.length)(W:p<5):(rD l)[k*5+p]? = (nC l[k])[p]?:=by induction l generalizing k with|nil=>cases n|cons x r b=>cases k with|zero=>rw[show rD (x :: r)=nC x++rD r from rfl,O0,Z9,Z6 (by simp[nC];omega)];rfl|succ k=>rw[show rD (x :: r)=nC x++rD r from rfl,Z8 (by simp[nC];omega)];have:=b (k:=k) eZ;rw[show(k+1)*5+p - (nC x).length=k*5+p by simp[nC];omega];simpa using this
def P1 (w:Tw)(base:Nat)(v:Value)(l:List Nx):Prop:=w.ownsRow base 132 5 v l.length (rD l)
def P1.keep {w w' base v l}(h:P1 w base v l)(c:Bw w w'):P1 w' base v l :=
 World.ownsRow.kept (row:=Nn) h ⟨c.os,c.tape,c.output,c.size,λk n _=>c.block k n⟩ (Classical.em _)
def P1.low {w base base' v l}(h:P1 w base v l)(c:base'<=base):P1 w base' v l:=by refine⟨h.1,?_⟩;rcases h.2 with i|⟨g,q,p,j,H,r⟩;{exact .inl i};exact H7
def P1.none (w:Tw):P1 (w.alloc (Cl #[] 132)) w.1.size (GX w.1.size 0 0) [] :=
 ⟨rfl,.inr ⟨w.1.size,0,#[],rfl,nR _,heap_alloc_new w (Cl #[] 132),nR _,nZ _,rfl,rfl⟩⟩
def P1.nods {w base v l}(h:P1 w base v l):∃a c,v=Sl a l.length c/\CA w a l:=by rcases h.2 with ⟨e,I⟩|⟨g,q,b,e,H,s,d,Q,j,T⟩;{exact⟨.none,0,by rw[e,I],λk n=>dN⟩};have c:j0 w g 132 b.toList:=(by exact K2);refine⟨Sm (Aq g 0),q,e,λk n=>⟨g,0,rfl,?_⟩⟩;have a:∀p,p<5->w.cell? (Aq g (k*5+p))=(nC l[k])[p]?:=λp W=>(by rw[c.cell,<- qk7 n W,<- T,Oi dN]);rw[Z9,FG l k n];exact⟨c.lt,a 0 dN,a 1 dN,a 2 dN,a 3 dN,a 4 dN⟩
def CT:(prog.info? 132).map (λi=>(i.zero,i.size,i.bytes))=Sm (Sm (.agg #[Yj 0,Yj 0,Yj 0,Yl,Yl]),5,56):=by kernel_rfl
def GL {Y rest o a Q w}(H:o.guard=.none)(s x)
 (Z:o.op=.call { callee:=.builtin .append,args:=#[s,x],argTypes:=#[52,52] }) {base v l} (d:a.eval s=v) (J:P1 w base v l)
 {g n} (r:a.eval x=GX g 1 1) (c:j0 w g 132 (nC n)) (P:l.length+1<=2097152) (b:base<=w.1.size)
 (h:∀U k,P1 k base U (l++[n])->Below base w k->wpList prog Y Q rest (a.put o.dst U) k):wpList prog Y Q (o :: rest) a w :=
 pH CT H Z d J r c b (h1:=by simp[nC,Value.oneCell']) λU k j _ D _=>h U k (by simpa [P1,LZ,rD] using j) D
def fZ {p:Prop}(h:p:=by intro U s Z z;have d:=h_ Z;rw[<- f.u]at d;have P:=h_ (h.trans ((K.mono h.size).trans z));clear Z z e c1 c2 c3 c4;refine rQ ?_;exact⟨k+1,dN,dR,d,P⟩):p:=h
def Uu (a b X t r lb w)(x:r.length+lb.length<=1048576)(d:CA w a r)(c:CA w b lb):GZ 214 #[Sl a r.length X,Sl b lb.length t] w λe k=>∃v,e=.returned v/\P1 k w.1.size v (r++lb)/\Bw w k:=by obtain⟨l,e⟩:=oB ((bR w.1.size w).alloc (nR _) (Cl #[] 132)) (P1.none w);obtain⟨Y,g⟩:=oB d c;clear d c;obtain⟨E,z⟩:=Nq (w.alloc (Cl #[] 132));rw[z]at l e;go_enter func214,ntmps214;go_wp2_with fail;(try rw[z]);clear z;go_loopw [5,6] (λv i wr=>∃k:Nat,k<=r.length/\i=Yj k/\P1 wr w.1.size v (r.take k)/\Bw w wr) (λ_ i _=>r.length - (intOf i).toNat);exact⟨0,nZ _,rfl,e,l⟩;clear e l;obtain⟨k,m,rfl,Z,c⟩:=hrel;obtain⟨p,h,j,C⟩:=oD Z c (Y.mono c) (g.mono c);clear Z c;by_cases R:k<r.length;{have L:(k:Int)<r.length:=dN;have f:=h_ (Yx R);obtain⟨o,q,rfl,-,e,c1,c2,c3,c4⟩:=j k R;rw[FG r k R]at e c1 c2 c3 c4;generalize r[k]=n at *;obtain⟨l,K⟩:=oB (j0.new wr 132 (nC n).toArray) ((bR wr.1.size wr).alloc (nR _) (Cl (nC n).toArray 132));go_wp2_with (at_builtin;refine GL rfl _ _ rfl rfl (p.keep K) rfl l ff (Y9 h.size K.size) ?_);exact fZ};obtain rfl:k=r.length:=dN;have L:¬ (r.length:Int)<r.length:=dN;rw[Z7]at p;go_wp2;go_loopw [5,7] (λv i wr=>∃k:Nat,k<=lb.length/\i=Yj k/\P1 wr w.1.size v (r++lb.take k)/\Bw w wr) (λ_ i _=>lb.length - (intOf i).toNat);exact⟨0,nZ _,rfl,by rw[List.take_zero,Z3];exact p,h⟩;clear p h j C R L m;obtain⟨k,m,rfl,Z,c⟩:=hrel;obtain⟨p,h,C⟩:=oC Z c (g.mono c);clear Z c;by_cases R:k<lb.length;{have L:(k:Int)<lb.length:=dN;have f:Hi (r++lb.take (k+1)=r++(lb.take k++[lb[k]])):=h_ (by rw[Yx R]);obtain⟨o,q,rfl,-,e,c1,c2,c3,c4⟩:=C k R;rw[FG lb k R]at e c1 c2 c3 c4;generalize lb[k]=n at *;rename Tw=>wr;obtain⟨l,K⟩:=oB (j0.new wr 132 (nC n).toArray) ((bR wr.1.size wr).alloc (nR _) (Cl (nC n).toArray 132));go_wp2_with (at_builtin;refine GL rfl _ _ rfl rfl (p.keep K) rfl l (by rw[Yn,Zd];omega) (Y9 h.size K.size) ?_);exact fZ};obtain rfl:k=lb.length:=dN;rw[Z7]at p;go_wp2;go_ret;exact⟨_,rfl,p,h⟩
