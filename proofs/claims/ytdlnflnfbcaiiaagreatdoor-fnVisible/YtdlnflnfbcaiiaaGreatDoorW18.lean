import Derived.Test.YtdlnflnfbcaiiaaGreatDoorW15
import Derived.Test.YtdlnflnfbcaiiaaGreatDoorW05
set_option linter.all false
set_option maxRecDepth 100000
set_option maxHeartbeats 0
namespace Go.Proofs.YtdlnflnfbcaiiaaGreatDoor
open Value renaming slice->Sl,string->St,bool->Bo
open Option renaming none->Nn,some->Sm
open Bool renaming true->Tt,false->Ff
section
open Go Go.RowKit Go.Proofs.Tryz
def pW {e i}:(T1 e i).headD 0=i:=by cases i with|zero=>rfl|succ i=>rfl
def qv7 {e n}(h:1<=n):1<=(T1 e n).length:=by unfold T1;grind
def qd3 {e i n t}(h1:1<=n)(b:n<=(T1 e (i+1)).length)(T:M0 (e i)<=(T1 e i).length)(r:t=(T1 e (i+1)).drop n):n - 1+M0 (e i)<=(T1 e i).length/\t=(T1 e i).drop (n - 1+M0 (e i)):=by obtain⟨a,rfl⟩:∃a,n=a+1:=⟨n - 1,fP⟩;simp only[T1,Y5,List.length_drop]at b;simp only[T1,List.drop_succ_cons,List.drop_drop]at r;refine⟨fP,?_⟩;rw[r,show a+1 - 1+M0 (e i)=M0 (e i)+a by omega]
def FU (a m c e Z w)(t:m<=1000)(K:BB w a m e)(h1:1<=Z)(p:Z<=m)(T:xB e Z):Gv 186 #[Sl a m c,Ye Z] w (Ye (zJ e Z)):=by obtain⟨B,V⟩:=oB K T;go_enter func186,ntmps186;go_wp2;go_loopw [5,6] (λd i wr=>∃(k b:Nat),d=Ye b/\i=Ye k/\k<=Z/\b<=(T1 e k).length/\(T1 e Z).tail=(T1 e k).drop b/\Bw w wr) (λ_ i _=>(intOf i).toNat);exact⟨Z,1,rfl,rfl,nR _,qv7 h1,fT,bR _ _⟩;obtain⟨k,b,rfl,rfl,q,f,r,d⟩:=hrel;obtain⟨l,U,C,j⟩:=oD d r f (B.mono d);have s:=ZR e k;by_cases h:b=0;{subst h;have v:Hi (zJ e Z=k):=h_ (by unfold zJ;rw[U.u,List.drop_zero,pW]);by_cases P:k=0;{subst P;go_wp2;go_ret;exact⟨vM (by rw[v.u]),l⟩};have g:(0:Int)<k:=fP;go_wp2;go_ret;exact⟨vM (by rw[v.u]),l⟩};obtain⟨i,rfl⟩:∃i,k=i+1:=⟨k - 1,Fq C.u⟩;have g:=qd3 fP C (V i fP) U;have n:=h_ g;have E:=mF (e i);have F:b<=1000:=f9;have v:wrap64 (((i+1:Nat):Int) - 1)=(i:Int):=(by exact KV);obtain⟨o,x,rfl,-,Y,c1,c2,c3,c4⟩:=j i fP;go_wp2_with fail;refine cQ (SP (e i) _) λy d=>?_;have l:=mT l d;go_wp2;go_roundw;exact⟨i,b - 1+M0 (e i),fU,rfl,fP,n.1,n.2,l⟩;simp[intOf]
def tZ (e n):∀x,x∈I2 e n->x.d<=n:=by induction n with|zero=>intro x u;cases u|succ n q=>intro x u;rcases Vf.1 u with rfl|u;{have:∀a:List Ph,(∀y,y∈a->y.d<=n)->mx a<=n:=(by intro a;induction a with|nil=>intro _;exact nZ _|cons p r H=>intro h;exact D3);have:=this ((I2 e n).take (M0 (e n))).reverse λy c=>q y (Vl (Of.1 c));show mx _+1<=n+1;omega};have:=q x (List.mem_of_mem_drop u);omega
def Mj (e){n}(h:1<=n):top e n∈I2 e n:=by obtain⟨k,rfl⟩:∃k,n=k+1:=⟨n - 1,fP⟩;exact Zl
def Sr (e){n}(h:1<=n):(top e n).d<=n:=tZ e n _ (Mj e h)
def ZU (e n i):mx ((I2 e n).take i)<=n:=by have:∀a:List Ph,(∀y,y∈a->y.d<=n)->mx a<=n:=(by intro a;induction a with|nil=>intro _;exact nZ _|cons p r H=>intro h;exact D3);exact this _ λy c=>tZ e n y (Vl c)
def qu1 (e)(n i:Nat)(h):(I2 e n)[i]'(by rw[CF];exact h)=top e (T1 e n)[i]:=by simp[top,Ti]
def Sz (e n i)(h:i<(T1 e n).length):mx ((I2 e n).take (i+1))=max (mx ((I2 e n).take i)) (top e (T1 e n)[i]).d:=by rw[Y2 (by rw[CF];exact h),PQ,qu1 e n i h];simp[mx]
def Mg (e n i)(h:i<(T1 e n).length):zJ e (T1 e n)[i]=((T1 e n).drop (i+1)).headD 0:=by simp[zJ,oM]
def La (l:List Nat)(i)(h:i<l.length):(l.drop i).headD 0=l[i]:=by simp_all
def q86 (a m c e)(o:m<=1000)(F):∀(Z:Nat) (w:Tw),Z<=F->BB w a m e->1<=Z->Z<=m->xB e Z -> Gv 176 #[Sl a m c,Ye Z] w (Ye (top e Z).d):=by induction F with|zero=>intro Z w D _ v;omega|succ F q=>intro Z w C K v A T;obtain⟨n,rfl⟩:∃n,Z=n+1:=⟨Z - 1,fP⟩;obtain⟨B,f,t⟩:=oC K T q;have D:=T n fP;have E:=mF (e n);have r:Hi ((top e (n+1)).d=mx ((I2 e n).take (M0 (e n)))+1):=h_ (by rw[vW];show mx _+1=_;rw[Lb]);have L:wrap64 (((n+1:Nat):Int) - 1)=(n:Int):=(by exact KV);clear K T q;go_enter func176,ntmps176;go_wp2;go_loopw [5,6,7,8] (λS I i _ wr=>∃k:Nat,k<=M0 (e n)/\S=Ye (mx ((I2 e n).take k))/\I=Ye (((T1 e n).drop k).headD 0)/\i=Ye k/\Bw w wr) (λ_ _ i _ _=>M0 (e n) - (intOf i).toNat);exact⟨0,nZ _,rfl,by rw[List.drop_zero,pW],rfl,bR _ _⟩;obtain⟨k,H,rfl,rfl,rfl,b⟩:=hrel;obtain⟨l,j⟩:=oB b (B.mono b);clear b;obtain⟨z,K,rfl,-,Y,c1,c2,c3,c4⟩:=j n fP;go_wp2_with fail;refine cQ (SP (e n) _) λN b=>?_;have l:=mT l b;have j:=h_ (j.mono b);clear b Y c1 c2 c3 c4;by_cases S:k<M0 (e n);{have M:(k:Int)<(M0 (e n):Int):=fP;have s:k<(T1 e n).length:=fP;rw[La _ _ s];obtain⟨p,h⟩:=Nq ((T1 e n)[k]);have W:=oM e n k s;have d:Hi (mx ((I2 e n).take (k+1))=max (mx ((I2 e n).take k)) (top e p).d):=h_ (by rw[Sz e n k s,h]);have R:Hi (zJ e p=((T1 e n).drop (k+1)).headD 0):=h_ (by rw[<- h];exact Mg e n k s);rw[h]at W|-;obtain⟨-,V,I⟩:=W;have y:=Sr e V;have i:=ZU e n k;clear h;go_wp2_with fail;refine cQ (t p _ fP j V fP (f.le fP)) λO b=>?_;have l:=mT l b;have j:=h_ (j.mono b);obtain⟨g,h⟩:=Nq ((top e p).d);obtain⟨q,J⟩:=Nq (mx ((I2 e n).take k));rw[h,J]at d;rw[h]at y|-;rw[J]at i|-;by_cases G:q<g;{have x:(q:Int)<g:=fP;go_wp2_with fail;refine cQ (FU _ m c e p _ o j V fP (f.le fP)) λX b=>?_;have l:=mT l b;go_wp2;go_roundw;{(repeat apply Exists.intro);exact⟨⟨k+1,fP,by rw[d.u,Nat.max_eq_right fP],by rw[R.u],fU,l⟩,rfl⟩};exact kZ};have x:¬ (q:Int)<g:=fP;go_wp2_with fail;refine cQ (FU _ m c e p _ o j V fP (f.le fP)) λX b=>?_;have l:=mT l b;go_wp2;go_roundw;{(repeat apply Exists.intro);exact⟨⟨k+1,fP,by rw[d.u,Nat.max_eq_left fP],by rw[R.u],fU,l⟩,rfl⟩};exact kZ};obtain rfl:k=M0 (e n):=fP;have i:=ZU e n (M0 (e n));have M:¬ ((M0 (e n):Nat):Int)<(M0 (e n):Int):=fP;go_wp2;go_ret;exact⟨vM (by rw[r.u];omega),l⟩
def YH (e:Nat->Nx)(m:Nat):Bool:=((List.range m).all λk=>decide (M0 (e k)<=(T1 e k).length))&&decide ((T1 e m).length=1)
theorem ZW (e m):YH e m=Tt ↔ xB e m/\(T1 e m).length=1:=by simp[YH,xB]
def Cp {e m k}(a:k<m)(h:(T1 e k).length<M0 (e k)):YH e m=Ff:=by grind[YH]
def qv3 {e m}(h:xB e m):YH e m=decide ((T1 e m).length=1):=by simp_all[xB,YH]
def q8c (a m c e w)(r:m<=1000)(K:BB w a m e):Gv 175 #[Sl a m c] w (Bo (YH e m)):=by have B:=h_ K;go_enter func175,ntmps175;go_wp2;go_loopw [3,4,5] (λq i _ wr=>∃k:Nat,k<=m/\q=Ye (T1 e k).length/\i=Ye k/\xB e k/\Bw w wr) (λ_ i _ _=>m - (intOf i).toNat);exact⟨0,nZ _,rfl,rfl,λk g=>absurd g (nL _),bR _ _⟩;obtain⟨k,g,rfl,rfl,t,f⟩:=hrel;obtain⟨l,R,h⟩:=oC f t (B.mono f);have n:=ZR e k;by_cases S:k<m;{have M:(k:Int)<m:=fP;obtain⟨o,q,rfl,-,Y,c1,c2,c3,c4⟩:=h k S;go_wp2_with fail;refine cQ (SP (e k) _) λv f=>?_;have l:=mT l f;have E:=mF (e k);have A:Hi ((T1 e (k+1)).length=(T1 e k).length - M0 (e k)+1):=h_ (by simp[T1]);obtain⟨x,d⟩:=Nq (M0 (e k));obtain⟨y,b⟩:=Nq ((T1 e k).length);by_cases J:y<x;{have i:(y:Int)<x:=fP;have C:=h_ (Cp S (by rw[d,b];exact J));rw[d,b];go_wp2;go_ret;exact⟨L2 C.symm,l⟩};have i:¬ (y:Int)<x:=fP;have C:Hi (xB e (k+1)):=h_ λj s=>(by by_cases p:j=k;{subst p;rw[d,b];omega};exact R j fP);rw[d,b]at A|-;rw[d]at E;rw[b]at n;go_wp2;go_roundw;exact⟨k+1,fP,by rw[A.u];go_num,fU,C,l⟩;exact kZ};obtain rfl:k=m:=fP;have C:=h_ (qv3 R);obtain⟨y,b⟩:=Nq ((T1 e k).length);rw[b]at C|-;go_wp2;go_ret;exact⟨L2 (by rw[C.u,Z4];simp;omega),l⟩
def qif {e m}(h:∀k,k<m->(e k).v.s.size<=1000):∀k,k<=m->DD e k<=1001*k:=by intro k;induction k with|zero=>intro _;exact nR _|succ k q=>intro a;have:=q fP;have:=h k fP;simp only[DD];omega
def Pu (a m c e w)(o:m<=1000)(K:BB w a m e)(B:∀k,k<m->(e k).v.s.size<=1000):Gv 177 #[Sl a m c] w (Ye (DD e m)):=by obtain⟨d,U,A⟩:=oC K (qif B) B;go_enter func177,ntmps177;go_wp2;go_loopw [3,4] (λn i wr=>∃k:Nat,k<=m/\n=Ye (DD e k)/\i=Ye k/\Bw w wr) (λ_ i _=>m - (intOf i).toNat);exact⟨0,nZ _,rfl,rfl,bR _ _⟩;obtain⟨k,f,rfl,rfl,b⟩:=hrel;obtain⟨l,j⟩:=oB b (d.mono b);have r:=U k f;by_cases S:k<m;{have M:(k:Int)<m:=fP;obtain⟨h,p,rfl,-,Y,c1,c2,c3,c4⟩:=j k S;have n:=A k S;have i:Hi (DD e (k+1)=DD e k+1+(e k).v.s.size):=h_ rfl;obtain⟨y,g⟩:=Nq (DD e k);rw[g]at i r|-;go_wp2;go_roundw;exact⟨k+1,fP,by rw[i.u];go_num,fU,l⟩;exact kZ};obtain rfl:k=m:=fP;exact Kx
def o5 (e:Nat->Nx)(n:Nat):List Nat:=((T1 e n).take (M0 (e n))).reverse
def CN {e n}(h:M0 (e n)<=(T1 e n).length):(o5 e n).length=M0 (e n):=by grind[o5]
def PU {e n p}(h:p∈o5 e n):1<=p/\p<=n:=by unfold o5 at h;have h:=Vl (Of.1 h);obtain⟨i,C,rfl⟩:=Y8.1 h;exact(oM e n i C).2
def Ha (e n):(o5 e n).map (top e)=((I2 e n).take (M0 (e n))).reverse:=by simp[o5,M0,Ti]
def Ab (a m c e n w)(C:m<=1000)(b:BB w a m e)(S:n+1<=m)(T:xB e (n+1)):Calls prog 159 #[Sl a m c,Ye ((n+1:Nat):Int)] w λr j=>∃J Y,r=.returned (Sl J (M0 (e n)) Y)/\G5 j J (M0 (e n)) (λk=>(((o5 e n).getD k 0:Nat):Int))/\Bw w j:=by obtain⟨B,V⟩:=oB b T;have U:=T n fP;have Z:=mF (e n);have ad:wrap64 (((n+1:Nat):Int) - 1)=(n:Int):=(by exact KV);have K:Hi (Bw w (w.alloc (.cells #[] 3))):=h_ (Bq);clear b T;go_enter func159,ntmps159;go_wp2;go_loopw [5,6,7,8,9] (λj I i _ _ wr=>∃(k:Nat) (J:To) (Y:Nat),k<=M0 (e n)/\j=Sl J k Y/\G5 wr J k (λj=>(((((T1 e n).take k).reverse).getD j 0:Nat):Int))/\I=Ye (((T1 e n).drop k).headD 0)/\i=Ye k/\Bw w wr) (λ_ _ i _ _ _=>M0 (e n) - (intOf i).toNat);exact⟨0,_,_,nZ _,rfl,λj s=>absurd s (nL _),by rw[List.drop_zero,pW],rfl,K⟩;obtain⟨k,J,Y,hk,rfl,h,rfl,rfl,b⟩:=hrel;obtain⟨d,f,g⟩:=oC b h (B.mono b);clear b h K;obtain⟨I,ae,rfl,-,z,h,T,i,l⟩:=g n fP;go_wp2_with fail;refine cQ (SP (e n) _) λE b=>?_;have d:=mT d b;have g:=h_ (g.mono b);have f:=h_ (f.mono b);clear b z h T i l;by_cases aa:k<M0 (e n);{have A:(k:Int)<(M0 (e n):Int):=fP;have s:k<(T1 e n).length:=fP;rw[La _ _ s];obtain⟨p,h⟩:=Nq ((T1 e n)[k]);have W:=oM e n k s;have R:Hi (zJ e p=((T1 e n).drop (k+1)).headD 0):=h_ (by rw[<- h];exact Mg e n k s);have O:Hi (((T1 e n).take (k+1)).reverse=p :: ((T1 e n).take k).reverse):=h_ (by rw[Y2 s,List.reverse_append,h];rfl);have L:(((T1 e n).take k).reverse).length=k:=(by rw[Zh,Za];omega);obtain⟨l,i⟩:=Nq (((T1 e n).take k).reverse);rw[i]at O f L;rw[h]at W|-;obtain⟨-,D,ac⟩:=W;clear h i;obtain⟨Q,rfl⟩:∃Q,Q=E:=⟨_,rfl⟩;have h:=h_ (qm7 Q 3 (Ye (p:Int)));have M:Hi (Bw Q (Q.alloc (.cells #[Ye (p:Int)] 3))):=h_ (Bq);go_wp2;go_loopw [8,9] (λnx j H=>∃q:Nat,q<=k/\j=Ye q/\H.ownsRow Q.1.size 3 1 nx (q+1) (ui (p :: l.take q))/\Bw Q H) (λ_ j _=>k - (intOf j).toNat);exact⟨0,nZ _,rfl,h,M⟩;clear h M;obtain⟨q,hq,rfl,t,F⟩:=hrel;obtain⟨j,M,r⟩:=oC t F (f.mono F);by_cases z:q<k;{have K:(q:Int)<k:=fP;obtain⟨H,o1,rfl,-,N⟩:=r q z;have i:Hi (l.take (q+1)=l.take q++[l.getD q 0]):=h_ (by rw[Y2 fP,Yr,Yp fP];rfl);obtain⟨G,o⟩:=Nq (l.getD q 0);simp only[o]at N;rw[o]at i;go_wp2_with (at_builtin;refine R5 y9 j (Fq M.size) ?_);intro y X x v _ _;have T:=(M.alloc M.size (.cells #[Ye (G:Int)] 3)).grown v (by have:=M.size;simp;omega) (λh e=>M3 j e);have P:Hi (X.ownsRow Q.1.size 3 1 y (q+1+1) (ui (p :: l.take (q+1)))):=h_ (by rw[i.u];simpa [ui] using x);have h:=h_ T;refine rQ ?_;exact⟨q+1,fP,fU,P,h⟩};obtain rfl:q=k:=fP;have x:=j.u;rw[Zm fP]at x;obtain⟨v,c1,rfl,y⟩:=mQ x;rw[<- O.u]at y;obtain⟨i,h,o⟩:=oC y (d.trans (M.mono d.size)) (g.mono M);go_wp2_with fail;refine cQ (FU _ m c e p _ C o D fP (V.le fP)) λG b=>?_;have h:=mT h b;have i:=h_ (i.mono b);go_wp2;go_roundw;{(repeat apply Exists.intro);exact⟨⟨q+1,_,_,fP,rfl,i,by rw[R.u],fU,h⟩,rfl⟩};exact kZ};obtain rfl:k=M0 (e n):=fP;have A:¬ ((M0 (e n):Nat):Int)<(M0 (e n):Int):=fP;go_wp2;go_ret;exact⟨_,_,rfl,f,d⟩
def qs3 (l x):jt (l++[x])=jt l++(⟨#[44,32]⟩++x):=by induction l with|nil=>show ⟨#[44,32]⟩++x++ByteArray.empty=ByteArray.empty++(⟨#[44,32]⟩++x);rw[ByteArray.append_empty,ByteArray.empty_append]|cons y r q=>simp only[Vj,jt,q,ByteArray.append_assoc]
def qs0 (l x)(h:l≠[]):jn (l++[x])=jn l++⟨#[44,32]⟩++x:=by cases l with|nil=>exact absurd rfl h|cons y r=>simp only[Vj,jn,qs3,ByteArray.append_assoc]
structure JE (a:To)(m:Nat)(e:Nat->Nx)(n:Nat)(w:Tw):Prop where
 nods:BB w a m e
 st:xB e n
 ok:DE e n
 fit:∀k,k<n->D9 (e k)
def JE.mono {a m n e w w'}(h:JE a m e n w)(c:Bw w w'):JE a m e n w':=⟨h.nods.mono c,h.st,h.ok,h.fit⟩
def JE.le {a m n k e w}(h:JE a m e n w)(b:k<=n):JE a m e k w:=⟨h.nods,h.st.le b,h.ok.le b,λj s=>h.fit j fP⟩
def JE.tot {a:To}{m n:Nat}{e:Nat->Nx}{w:Tw}(h:JE a m e n w):tot (I2 e n)<=1100*n:=(lX e n h.st h.ok (λb k=>(h.fit b k).2.2.2)).2
def JE.top {a:To}{m n:Nat}{e:Nat->Nx}{w:Tw}(h:JE a m e n w)(P:1<=n):(top e n).t.size<=1100*n:=Yu (Nj (Mj e P)) h.tot
def rP (a:To)(m c:Nat)(e:Nat->Nx)(en:Nat):Prop:=∀w:Tw,JE a m e en w ->
 Gv 148 #[Sl a m c,Ye en] w (St (top e en).t)
def PN (a m c e n l w)(i:m<=1000)(P:n+1<=m)(f:rP a m c e (n+1))(h:JE a m e (n+1) w):Gv 179 #[Sl a m c,Ye ((n+1:Nat):Int),Ye l] w (St (wrap l (top e (n+1)))):=by have j:wrap64 (((n+1:Nat):Int) - 1)=(n:Int):=(by exact KV);have X:=h.top fP;have V:=h_ h;have S:Hi (wrap l (top e (n+1))=if E5 (e n).op<l then ⟨#[40]⟩++(top e (n+1)).t++⟨#[41]⟩ else (top e (n+1)).t):=h_ rfl;go_enter func179,ntmps179;go_wp2_with fail;refine cQ (f _ V) λk d=>?_;have b:=h_ d;have V:=h_ (V.mono d);obtain⟨g,o,rfl,-,z,p,T,r,s⟩:=V.nods n fP;generalize (top e (n+1)).t=t at *;go_wp2_with fail;refine cQ (R_ _ _) λH W=>?_;have W:=W.symm;subst W;generalize E5 (e n).op=q at *;by_cases J:q<l;{go_wp2;go_ret;exact⟨NC (by rw[S.u,Yz J]),b⟩};go_wp2;go_ret;exact⟨NC (by rw[S.u,Ys fP]),b⟩
def qtr (e n):(top e (n+1)).t=DB (e n) ((o5 e n).map (top e)):=by rw[vW,Ha];rfl
def Kg {l:List Nat}{i}(h:i<l.length):l.getD i 0=l[i]:=by grind
def wW (a k):tot (a.take k)<=tot a:=by have:tot a=tot (a.take k)+tot (a.drop k):=(by rw[<- qV,Vi]);omega
def qoe (e n):tot ((o5 e n).map (top e))<=tot (I2 e n):=by rw[Ha,LU];exact wW _ _
def MB (e:Nat->Nx)(n k:Nat):Tb:=P9 (e n).op++⟨#[40]⟩++jn ((((o5 e n).take k).map (top e)).map (·.t))
def Re (e n):MB e n 0=P9 (e n).op++⟨#[40]⟩:=by unfold MB;rw[List.take_zero];show _++_++ByteArray.empty=_;rw[ByteArray.append_empty]
def qqu (e n)(h:0<(o5 e n).length):MB e n 1=MB e n 0++(top e (o5 e n)[0]).t:=by rw[Re];unfold MB;rw[Y2 h,List.take_zero];show _++_++((top e (o5 e n)[0]).t++ByteArray.empty)=_;rw[ByteArray.append_empty]
def qk6 (e n k)(D:0<k)(h:k<(o5 e n).length):MB e n (k+1)=MB e n k++⟨#[44,32]⟩++(top e (o5 e n)[k]).t:=by unfold MB;rw[Y2 h,Zs,Zs];show _++_++jn (_++[_])=_;rw[qs0 _ _ (by intro N;have:=congrArg List.length N;simp only[Zc,Za,Ze]at this;omega)];simp only[ByteArray.append_assoc]
def qk5 (e n k)(D:2<=(e n).op)(h1:(e n).op<=25):(MB e n k).size<=tot (I2 e n)+2*k+8:=by have W:=pO D h1;have s:=(LR (((o5 e n).take k).map (top e))).2;have r:=wW ((o5 e n).map (top e)) k;rw[<- List.map_take]at r;have K:=qoe e n;have a:(((o5 e n).take k).map (top e)).length<=k:=(by rw[Zc];exact List.length_take_le _ _);unfold MB;simp only[Yy,nH,Zr,Y5,Ze];omega
def Dp (op):1<=E5 op/\E5 op<=7:=by grind[E5]
def Ep {op}(h:E5 op=7)(D:2<=op):16<=op:=by grind[E5]
variable {p:Prop}
def jb(h:p:=by rw[au]at M ah|-;obtain⟨u3,av⟩:=Nq (f++(⟨#[32]⟩:Tb)++C++⟨#[32]⟩);rw[av]at M ak|-;refine F0 19 99 (St (u3++t2)) i ?_ (hy:=λg t=>by have:=run_string_add_sum (P:=prog) g u3 t2 fP;simp[execOp,go_sem,this]);refine L0 20 i ?_;refine T2 ?_;exact Hz):p:=h
def jd(h:p:=by have ay:=BF 6 (top e (w+1));have G:=(d.le (show w+1<=n+1 by omega)).top fP;go_wp2_with fail;refine cQ (PN _ m c e w 6 _ J fP (HI (w+1) fP fP fP) (d.le fP)) λH b=>?_;have l:=mT l b;generalize wrap 6 (top e (w+1))=y at *;exact Hz):p:=h
def je(h:p:=by exact Hz):p:=h
def S_ (a m c e)(J:m<=1000)(F):∀Z:Nat,Z<=F->1<=Z->Z<=m->rP a m c e Z:=by induction F with|zero=>intro Z D h1;omega|succ F ih=>intro Z hF h1 h2 g o;obtain⟨n,rfl⟩:∃n,Z=n+1:=⟨Z - 1,fP⟩;have HI:=h_ ih;have aW:wrap64 (((n+1:Nat):Int) - 1)=(n:Int):=(by exact KV);have aR:(n:Int)<m:=fP;have aV:=o.top fP;have HT:=h_ (qtr e n);have ao:=o.ok n fP;have am:=o.fit n fP;have aA:=o.st n fP;have ac:=CN aA;have HM:Hi (∀p,p∈o5 e n->1<=p/\p<=n):=h_ λp j=>PU j;have HO:=h_ o;obtain⟨E,K,rfl,-,z0,z1,z2,z3,z4⟩:=o.nods n fP;obtain⟨W1,al⟩:=Nq (g.alloc (.cells #[Ye (e n).op,Ye (e n).v.k,Ye (e n).v.n,St (e n).v.s,St (e n).nm] 96));obtain⟨h,l⟩:=oB (m0.new g 96 #[Ye (e n).op,Ye (e n).v.k,Ye (e n).v.n,St (e n).v.s,St (e n).nm]) ((bR g.1.size g).alloc (nR _) (.cells #[Ye (e n).op,Ye (e n).v.k,Ye (e n).v.n,St (e n).v.s,St (e n).nm] 96));rw[al]at h l;have d:=h_ (HO.mono l);rcases NP (e n).op with o|o|⟨o,h'⟩;{have M:Hi ((top e (n+1)).t=XC (e n).v.k (e n).v.n (e n).v.s):=h_ (by rw[HT.u,DB,Yz o]);rw[o]at z0 al h;obtain⟨r,O,U,V,X⟩:=M2 h;go_enter func148,ntmps148;go_wp2_with fail;refine cQ (q6t _ _ _ _ am.1 am.2.2.1 am.2.2.2) λw2 b=>?_;have l:=mT l b;exact je};{have M:Hi ((top e (n+1)).t=(e n).nm):=h_ (by rw[HT.u,DB,Ys fP,Yz o]);rw[o]at z0 al h;obtain⟨r,O,U,V,X⟩:=M2 h;go_enter func148,ntmps148;exact je};have T:2<=(e n).op/\(e n).op<=25:=(by rw[AS o h']at ao;simp only[Yx,Y3]at ao;exact ao.1.1);have n0:((e n).op==0)=Ff:=Yk.2 o;have n1:((e n).op==1)=Ff:=Yk.2 h';have aj:Hi ((top e (n+1)).t=(if (e n).op=2 then ⟨#[45]⟩++wrap 6 (((o5 e n).map (top e)).getD 0 TF) else if (e n).op=3 then ⟨#[110,111,116,32]⟩++wrap 6 (((o5 e n).map (top e)).getD 0 TF) else if E5 (e n).op=7 then P9 (e n).op++⟨#[40]⟩++jn (((o5 e n).map (top e)).map (·.t))++⟨#[41]⟩ else wrap (XF (e n).op) (((o5 e n).map (top e)).getD 0 TF)++⟨#[32]⟩++P9 (e n).op++⟨#[32]⟩++wrap (E5 (e n).op+1) (((o5 e n).map (top e)).getD 1 TF))):=h_ (by rw[HT.u,DB,Ys o,Ys h']);obtain⟨r,O,U,V,X⟩:=M2 h;go_enter func148,ntmps148;go_wp2_with fail;refine(Ab _ m c e n _ J d.nods h2 d.st).mono ?_;rintro aZ w2 ⟨a0,c0,rfl,hI,b⟩;have l:=mT l b;have d:=h_ (d.mono b);have h:=mB h b;have R:=h_ hI;obtain⟨r,O,U,V,X⟩:=M2 h;go_wp2_with fail;refine cQ (R_ _ _) λw3 W=>?_;have W:=W.symm;subst W;by_cases I:(e n).op=2;{have f:M0 (e n)=1:=(by unfold M0;rw[WK (.inl I)];rfl);rw[f]at R ac|-;obtain⟨p,j⟩:=LJ ac;have ad:=HM p (by rw[j];exact Zl);obtain⟨w,rfl⟩:∃k,p=k+1:=⟨p - 1,fP⟩;have M:Hi ((top e (n+1)).t=⟨#[45]⟩++wrap 6 (top e (w+1))):=h_ (by rw[aj.u,Yz I,j];rfl);obtain⟨z,q,rfl,-,N⟩:=R 0 fP;simp only[j,Vh,Z2]at N;rw[I]at r|-;exact jd};by_cases aa:(e n).op=3;{have f:M0 (e n)=1:=(by unfold M0;rw[WK (.inr aa)];rfl);rw[f]at R ac|-;obtain⟨p,j⟩:=LJ ac;have ad:=HM p (by rw[j];exact Zl);obtain⟨w,rfl⟩:∃k,p=k+1:=⟨p - 1,fP⟩;have M:Hi ((top e (n+1)).t=⟨#[110,111,116,32]⟩++wrap 6 (top e (w+1))):=h_ (by rw[aj.u,Ys I,Yz aa,j];rfl);obtain⟨z,q,rfl,-,N⟩:=R 0 fP;simp only[j,Vh,Z2]at N;rw[aa]at r|-;exact jd};have n2:((e n).op==2)=Ff:=Yk.2 I;have n3:((e n).op==3)=Ff:=Yk.2 aa;have ax:Hi ((top e (n+1)).t=(if E5 (e n).op=7 then P9 (e n).op++⟨#[40]⟩++jn (((o5 e n).map (top e)).map (·.t))++⟨#[41]⟩ else wrap (XF (e n).op) (((o5 e n).map (top e)).getD 0 TF)++⟨#[32]⟩++P9 (e n).op++⟨#[32]⟩++wrap (E5 (e n).op+1) (((o5 e n).map (top e)).getD 1 TF))):=h_ (by rw[aj.u,Ys I,Ys aa]);by_cases x:E5 (e n).op=7;{have Q:=Ep x T.1;have M:Hi ((top e (n+1)).t=MB e n (M0 (e n))++⟨#[41]⟩):=h_ (by rw[ax.u,Yz x,MB,Zm fP]);have B:=h_ (Re e n);have L:Hi (∀k,k<=M0 (e n)->(MB e n k).size<=1200000):=h_ λk D=>(by have:=qk5 e n k T.1 T.2;have:=(d.le (show n<=n+1 by omega)).tot;have:=mF (e n);omega);have ai:=pO T.1 T.2;have aO:=mF (e n);rw[x];go_wp2_with fail;refine cQ (Nv _ _ Q T.2) λH W=>?_;have W:=W.symm;subst W;obtain⟨C,aN⟩:=Nq (P9 (e n).op);rw[aN]at B ai|-;go_wp2;go_loopw [8,9] (λf i wr=>∃k:Nat,k<=M0 (e n)/\f=St (MB e n k)/\i=Ye k/\Bw g wr/\JE (Sm (Aq E K)) m e (n+1) wr/\G5 wr a0 (M0 (e n)) (λk=>(((o5 e n).getD k 0:Nat):Int))) (λ_ i _=>M0 (e n) - (intOf i).toNat);exact⟨0,nZ _,by rw[B.u],rfl,l,d,R⟩;obtain⟨k,D,rfl,rfl,b,hO,Y⟩:=hrel;obtain⟨l,d,R⟩:=oC b hO Y;have aD:=L k D;by_cases aF:k<M0 (e n);{have aG:(k:Int)<(M0 (e n):Int):=fP;obtain⟨z,q,rfl,-,N⟩:=R k aF;have t:k<(o5 e n).length:=fP;simp only[Kg t]at N;obtain⟨p,j⟩:=Nq ((o5 e n)[k]);have ad:=HM _ (Yq t);have f:Hi (MB e n (k+1)=(if k=0 then MB e n k else MB e n k++⟨#[44,32]⟩)++(top e p).t):=h_ (by by_cases i:k=0;{subst i;rw[Yz rfl,qqu e n fP,j]};rw[Ys i,qk6 e n k fP t,j]);rw[j]at N ad;have G:=(d.le (show p<=n+1 by omega)).top fP;obtain⟨A,hq⟩:=Nq (MB e n k);rw[hq]at f aD|-;by_cases i:k=0;{subst i;rw[Yz rfl]at f;simp only[Z2]at N;rw[show((0:Nat):Int)=(0:Int) from rfl];have aQ:(0:Int)<(M0 (e n):Int):=fP;go_wp2_with fail;refine cQ (HI p fP fP fP _ (d.le fP)) λw5 b=>?_;have l:=mT l b;have d:=h_ (d.mono b);have R:=h_ (R.mono b);generalize (top e p).t=y at *;refine rQ ?_;exact⟨1,fP,by rw[f.u],rfl,l,d,R⟩};rw[Ys i]at f;have aP:(0:Int)<k:=fP;go_wp2_with fail;refine cQ (HI p fP fP fP _ (d.le fP)) λw5 b=>?_;have l:=mT l b;have d:=h_ (d.mono b);have R:=h_ (R.mono b);generalize (top e p).t=y at *;have aJ:(A++(⟨#[44,32]⟩:Tb)).size=A.size+2:=gX;obtain⟨q2,aK⟩:=Nq (A++(⟨#[44,32]⟩:Tb));rw[aK]at f aJ|-;refine rQ ?_;exact⟨k+1,fP,by rw[f.u],fU,l,d,R⟩};obtain rfl:k=M0 (e n):=fP;have aG:¬ ((M0 (e n):Nat):Int)<(M0 (e n):Int):=fP;generalize MB e n (M0 (e n))=A at *;exact je};have e2:M0 (e n)=2:=(by unfold M0;rw[JS T.1 T.2 x I aa];rfl);have ag:4<=(e n).op/\(e n).op<=15:=(by refine⟨fP,?_⟩;refine Decidable.byContradiction λN=>x (QW fP));rw[e2]at R ac|-;obtain⟨p,A,j⟩:=rT ac;have ad:=HM p (by rw[j];exact Zl);have aL:=HM A (by rw[j];exact Z6 _ Zl);obtain⟨w,rfl⟩:∃k,p=k+1:=⟨p - 1,fP⟩;obtain⟨y,rfl⟩:∃k,A=k+1:=⟨A - 1,fP⟩;have M:Hi ((top e (n+1)).t=wrap (XF (e n).op) (top e (w+1))++⟨#[32]⟩++P9 (e n).op++⟨#[32]⟩++wrap (E5 (e n).op+1) (top e (y+1))):=h_ (by rw[ax.u,Ys x,j];rfl);have ae:Hi (XF (e n).op=if E5 (e n).op=3 then 4 else E5 (e n).op):=h_ rfl;have aB:=R 0 fP;have aC:=R 1 fP;obtain⟨z,q,rfl,-,G⟩:=aB;obtain⟨b2,o2,az,-,k⟩:=aC;cases az;simp only[j,Vh,Ov,Z2]at G k;have aU:=(d.le (show w+1<=n+1 by omega)).top fP;have ay:=(d.le (show y+1<=n+1 by omega)).top fP;have ap:=BF (XF (e n).op) (top e (w+1));have ah:=BF (E5 (e n).op+1) (top e (y+1));have ai:=pO T.1 T.2;have aH:1<=E5 (e n).op/\E5 (e n).op<=7:=Dp _;obtain⟨HP,HQ⟩:=oB (show rP (Sm (Aq E K)) m c e (w+1) from HI (w+1) fP fP fP) (show rP (Sm (Aq E K)) m c e (y+1) from HI (y+1) fP fP fP);have aS:w+1<=n:=ad.2;have aT:y+1<=n:=aL.2;obtain⟨lv,aI⟩:=Nq (E5 (e n).op);obtain⟨H,aE⟩:=Nq (XF (e n).op);have aX:wrap64 (lv+1)=lv+1:=RE fP fP;rw[aI]at M ae x ah aH|-;rw[aE]at M ae ap;have n7:(lv==7)=Ff:=Yk.2 x;have af:=h_ j;have HF:Hi (Bw w2 w2.drew):=h_ ((bR _ _).drew);by_cases h3:lv=3;{have an:H=4:=(by rw[ae.u,Yz h3]);subst h3 an;simp only[show(3:Int)+1=4 from rfl]at M ah;go_wp2;refine wp_region_held_drew (S:=λL=>L.cell? (Aq z q)=Sm (Ye ((w+1:Nat):Int))/\L.cell? (Aq z (q+1))=Sm (Ye ((y+1:Nat):Int))/\L.cell? (zw g 0)=Sm (Ye (e n).op)) fR ⟨G,k,r⟩ (λi=>?_);refine tq 0 1 2 i ?_;refine tq 3 4 7 i ?_;refine tq 8 12 13 i ?_;refine tq 14 15 16 i ?_;refine F0 17 97 (Ye 4) i ?_ (hy:=λg t=>by simp[execOp,go_sem, *];rfl);refine m9 (args:=#[Sl (Sm (Aq E K)) m c,Ye ((w+1:Nat):Int),Ye 4]) 5 85 (PN _ m c e w 4 _ J fP HP ((d.mono HF).le fP)) λB b=>?_;have b:=R8 b;have l:=mT l b;have d:=h_ (d.mono b);have h:=mB h b;have R:=h_ (R.mono b);obtain⟨r,O,U,V,X⟩:=M2 h;obtain⟨b3,o3,Q,-,G⟩:=R 0 fP;obtain⟨b4,o4,Y,-,k⟩:=R 1 fP;cases Q;cases Y;simp only[af.u,Vh,Ov,Z2]at G k;have i:B.cell? (Aq z q)=Sm (Ye ((w+1:Nat):Int))/\B.cell? (Aq z (q+1))=Sm (Ye ((y+1:Nat):Int))/\B.cell? (zw g 0)=Sm (Ye (e n).op):=⟨G,k,r⟩;refine⟨i,?_⟩;refine I1 fQ fQ ?_;obtain⟨f,aq⟩:=Nq (wrap 4 (top e (w+1)));rw[aq]at M ap|-;have aM:f.size<=1200000:=fP;have hA:(f++(⟨#[32]⟩:Tb)).size=f.size+1:=gX;refine F0 6 86 (St (f++⟨#[32]⟩)) i ?_ (hy:=λg t=>by have:=run_string_add_sum (P:=prog) g f ⟨#[32]⟩ gP;simp[execOp,go_sem,this]);refine m9 (args:=#[Ye (e n).op]) 9 89 (Db _ _ ag.1 ag.2) λW5 W=>?_;have W:=W.symm;subst W;refine⟨i,?_⟩;refine I1 fQ fQ ?_;obtain⟨C,aw⟩:=Nq (P9 (e n).op);rw[aw]at M ai|-;have N:(f++(⟨#[32]⟩:Tb)++C).size=f.size+1+C.size:=(by rw[Yy,hA]);refine F0 10 90 (St (f++⟨#[32]⟩++C)) i ?_ (hy:=λg t=>by have:=run_string_add_sum (P:=prog) g (f++⟨#[32]⟩) C fP;simp[execOp,go_sem,this]);have ak:(f++(⟨#[32]⟩:Tb)++C++⟨#[32]⟩).size=f.size+1+C.size+1:=(by rw[Yy,N];rfl);refine F0 11 91 (St (f++⟨#[32]⟩++C++⟨#[32]⟩)) i ?_ (hy:=λg t=>by have:=run_string_add_sum (P:=prog) g (f++⟨#[32]⟩++C) ⟨#[32]⟩ (by rw[N];exact Uq);simp[execOp,go_sem,this]);refine m9 (args:=#[Sl (Sm (Aq E K)) m c,Ye ((y+1:Nat):Int),Ye 4]) 18 98 (PN _ m c e y 4 _ J fP HQ (d.le fP)) λD b=>?_;have l:=mT l b;have h:=mB h b;have R:=h_ (R.mono b);obtain⟨r,O,U,V,X⟩:=M2 h;obtain⟨b3,o3,Q,-,G⟩:=R 0 fP;obtain⟨b4,o4,Y,-,k⟩:=R 1 fP;cases Q;cases Y;simp only[af.u,Vh,Ov,Z2]at G k;have i:D.cell? (Aq z q)=Sm (Ye ((w+1:Nat):Int))/\D.cell? (Aq z (q+1))=Sm (Ye ((y+1:Nat):Int))/\D.cell? (zw g 0)=Sm (Ye (e n).op):=⟨G,k,r⟩;refine⟨i,?_⟩;refine I1 fQ fQ ?_;obtain⟨t2,au⟩:=Nq (wrap 4 (top e (y+1)));exact jb};have an:H=lv:=(by rw[ae.u,Ys h3]);subst an;have aY:(H==3)=Ff:=Yk.2 h3;go_wp2;refine wp_region_held_drew (S:=λL=>L.cell? (Aq z q)=Sm (Ye ((w+1:Nat):Int))/\L.cell? (Aq z (q+1))=Sm (Ye ((y+1:Nat):Int))/\L.cell? (zw g 0)=Sm (Ye (e n).op)) fR ⟨G,k,r⟩ (λi=>?_);refine tq 0 1 2 i ?_;refine tq 3 4 7 i ?_;refine tq 8 12 13 i ?_;refine tq 14 15 16 i ?_;refine F0 17 97 (Ye (H+1)) i ?_ (hy:=λg t=>by simp[execOp,go_sem, *];exact K3);refine m9 (args:=#[Sl (Sm (Aq E K)) m c,Ye ((w+1:Nat):Int),Ye H]) 5 85 (PN _ m c e w H _ J fP HP ((d.mono HF).le fP)) λB b=>?_;have b:=R8 b;have l:=mT l b;have d:=h_ (d.mono b);have h:=mB h b;have R:=h_ (R.mono b);obtain⟨r,O,U,V,X⟩:=M2 h;obtain⟨b3,o3,Q,-,G⟩:=R 0 fP;obtain⟨b4,o4,Y,-,k⟩:=R 1 fP;cases Q;cases Y;simp only[af.u,Vh,Ov,Z2]at G k;have i:B.cell? (Aq z q)=Sm (Ye ((w+1:Nat):Int))/\B.cell? (Aq z (q+1))=Sm (Ye ((y+1:Nat):Int))/\B.cell? (zw g 0)=Sm (Ye (e n).op):=⟨G,k,r⟩;refine⟨i,?_⟩;refine I1 fQ fQ ?_;obtain⟨f,aq⟩:=Nq (wrap H (top e (w+1)));rw[aq]at M ap|-;have aM:f.size<=1200000:=fP;have hA:(f++(⟨#[32]⟩:Tb)).size=f.size+1:=gX;refine F0 6 86 (St (f++⟨#[32]⟩)) i ?_ (hy:=λg t=>by have:=run_string_add_sum (P:=prog) g f ⟨#[32]⟩ gP;simp[execOp,go_sem,this]);refine m9 (args:=#[Ye (e n).op]) 9 89 (Db _ _ ag.1 ag.2) λW5 W=>?_;have W:=W.symm;subst W;refine⟨i,?_⟩;refine I1 fQ fQ ?_;obtain⟨C,aw⟩:=Nq (P9 (e n).op);rw[aw]at M ai|-;have N:(f++(⟨#[32]⟩:Tb)++C).size=f.size+1+C.size:=(by rw[Yy,hA]);refine F0 10 90 (St (f++⟨#[32]⟩++C)) i ?_ (hy:=λg t=>by have:=run_string_add_sum (P:=prog) g (f++⟨#[32]⟩) C fP;simp[execOp,go_sem,this]);have ak:(f++(⟨#[32]⟩:Tb)++C++⟨#[32]⟩).size=f.size+1+C.size+1:=(by rw[Yy,N];rfl);refine F0 11 91 (St (f++⟨#[32]⟩++C++⟨#[32]⟩)) i ?_ (hy:=λg t=>by have:=run_string_add_sum (P:=prog) g (f++⟨#[32]⟩++C) ⟨#[32]⟩ (by rw[N];exact Uq);simp[execOp,go_sem,this]);refine m9 (args:=#[Sl (Sm (Aq E K)) m c,Ye ((y+1:Nat):Int),Ye (H+1)]) 18 98 (PN _ m c e y (H+1) _ J fP HQ (d.le fP)) λD b=>?_;have l:=mT l b;have h:=mB h b;have R:=h_ (R.mono b);obtain⟨r,O,U,V,X⟩:=M2 h;obtain⟨b3,o3,Q,-,G⟩:=R 0 fP;obtain⟨b4,o4,Y,-,k⟩:=R 1 fP;cases Q;cases Y;simp only[af.u,Vh,Ov,Z2]at G k;have i:D.cell? (Aq z q)=Sm (Ye ((w+1:Nat):Int))/\D.cell? (Aq z (q+1))=Sm (Ye ((y+1:Nat):Int))/\D.cell? (zw g 0)=Sm (Ye (e n).op):=⟨G,k,r⟩;refine⟨i,?_⟩;refine I1 fQ fQ ?_;obtain⟨t2,au⟩:=Nq (wrap (H+1) (top e (y+1)));exact jb
def FB (e:Nat->Nx)(m:Nat):Bool:=decide (1<=m/\m<=1000)&&((List.range m).all λk=>t7 (e k))&&YH e m&&decide ((top e m).d<=64)&&decide ((top e m).t.size<=4000)
theorem WH (e m):FB e m=Tt ↔ FF e m:=by grind[FB,FF,DE,ZW]
def tI {e m}(h:¬ FF e m):FB e m=Ff:=by grind[FB,FF,WH]
def qc4 {n}(h:t7 n=Tt):n.v.s.size<=1000:=by unfold t7 at h;split at h;{simp only[Yx,Y3]at h;have:=h.1.1.2;unfold Z1 at this;(repeat' split at this) <;> (try simp only[Yx,Y3]at this) <;> first|omega|exact(KN.1 this.2).1|cases this};split at h;{simp only[Yx,Y3]at h;omega};simp only[Yx,Y3]at h;omega
def jf(h:p:=by go_wp2;go_ret;exact⟨L2 M.symm,l⟩):p:=h
def jh(h:p:=by go_enter func146,ntmps146;exact Kv):p:=h
def Ru (a m c e w)(D:m<=9223372036854775807)(K:BB w a m e)(U:∀k,k<m->D9 (e k)):Gv 146 #[Sl a m c] w (Bo (FB e m)):=by by_cases y:m<1;{rw[tI λh=>by have:=h.1;omega];exact jh};by_cases z:1000<m;{rw[tI λh=>by have:=h.2.1;omega];exact jh};obtain⟨n,g⟩:=oB K U;obtain⟨r,Q⟩:=Nq (FB e m);rw[Q];have v:=h_ Q;go_enter func146,ntmps146;go_wp2;go_loopw [3] (λi wr=>∃k:Nat,k<=m/\i=Ye k/\DE e k/\Bw w wr) (λi _=>m - (intOf i).toNat);exact⟨0,nZ _,rfl,λk i=>absurd i (nL _),bR _ _⟩;obtain⟨k,i,rfl,q,b⟩:=hrel;obtain⟨l,O,j⟩:=oC b q (n.mono b);by_cases S:k<m;{have t:(k:Int)<m:=fP;obtain⟨o,A,rfl,-,Y,c1,c2,c3,c4⟩:=j k S;go_wp2_with fail;refine cQ (Pv (e k) _ (g k S)) λx b=>?_;have l:=mT l b;cases H:t7 (e k);{have M:Hi (r=Ff):=h_ (by rw[<- v.u];exact tI λh=>by have:=h.2.2.1 k S;rw[H]at this;cases this);exact jf};have C:Hi (DE e (k+1)):=h_ λf s=>(by by_cases p:f=k;{subst p;exact H};exact O f fP);refine rQ ?_;exact⟨k+1,fP,fU,C,l⟩};obtain rfl:k=m:=fP;go_wp2_with fail;refine cQ (q8c a k c e _ fP j) λx b=>?_;have l:=mT l b;have j:=h_ (j.mono b);cases B:YH e k;{have M:Hi (r=Ff):=h_ (by rw[<- v.u];exact tI λh=>by have:=(ZW e k).2 ⟨h.2.2.2.1,h.2.2.2.2.1⟩;rw[B]at this;cases this);exact jf};obtain⟨t,G⟩:=(ZW e k).1 B;obtain⟨A,V⟩:=oB t G;go_wp2_with fail;refine cQ (q86 a k c e fP k k _ (nR _) j fP (nR _) A) λH b=>?_;have l:=mT l b;have j:=h_ (j.mono b);by_cases p:64<(top e k).d;{have T:(64:Int)<(top e k).d:=fP;have M:Hi (r=Ff):=h_ (by rw[<- v.u];exact tI λh=>Fq h.2.2.2.2.2.1);exact jf};have o:=h_ p;go_wp2_with fail;refine cQ (Pu a k c e _ fP j (λf s=>qc4 (O f s))) λX b=>?_;have l:=mT l b;have j:=h_ (j.mono b);by_cases C:4000<DD e k;{have E:(4000:Int)<(DD e k:Int):=fP;have M:Hi (r=Ff):=h_ (by rw[<- v.u];exact tI λh=>Fq (h.sum (λf s=>(g f s).2.2.2)));exact jf};go_wp2_with fail;refine cQ (S_ a k c e fP k k (nR _) fP (nR _) _ ⟨j,A,O,g⟩) λs b=>?_;have l:=mT l b;have M:Hi (r=decide ((top e k).t.size<=4000)):=h_ (by rw[<- v.u,Z4,WH,Y3];exact⟨λh=>h.2.2.2.2.2.2,λh=>⟨fP,fP,O,A,V,Fq o.u,h⟩⟩);generalize (top e k).t=f at *;go_wp2;go_ret;exact⟨L2 (by rw[M.u,Z4];simp;omega),l⟩
end
section
open Go Go.Proofs.Tryz
def TB (x:Tb)(l:List Tb):Bool:=l.any λy=>decide (y=x)
theorem nM (x l):TB x l=Tt ↔ x∈l:=by simp[TB]
theorem Di {x l}(h:¬ x∈l):TB x l=Ff:=by grind[TB]
structure Rl where
 nm:Tb
 lb:Int
structure Fl where
 nm:Tb
 ty:Int
 lb:Int
 bys:List Int
 is:List Nx
 wh:List Nx
 va:List Nx
 sy:Tb
 mu:List Nx
abbrev Jt(x0:Fl)(x1:To)(x2:Nat)(x3:To)(x4:Nat)(x5:To)(x6:Nat)(x7:To)(x8:Nat)(x9:To)(x10:Nat):Ta:=#[Ye 0,Ye 0,Yg,Bo Ff,Bo Ff,Bo Ff,St x0.nm,Ye x0.ty,Ye x0.lb,Sl x1 x0.bys.length x2,Sl x3 x0.is.length x4,Sl x5 x0.wh.length x6,Sl x7 x0.va.length x8,St x0.sy,Sl x9 x0.mu.length x10,Ye 0,Ye 0,Yg]
abbrev Jm(x0:Fl)(x1:To)(x2:Nat)(x3:To)(x4:Nat)(x5:To)(x6:Nat)(x7:To)(x8:Nat)(x9:To)(x10:Nat):Tl:=[St x0.nm,Ye x0.ty,Ye x0.lb,Sl x1 x0.bys.length x2,Sl x3 x0.is.length x4,Sl x5 x0.wh.length x6,Sl x7 x0.va.length x8,St x0.sy,Sl x9 x0.mu.length x10]
abbrev Jk(x0:Fl)(x1:To)(x2:Nat)(x3:To)(x4:Nat)(x5:To)(x6:Nat)(x7:To)(x8:Nat)(x9:To)(x10:Nat):Ta:=#[Ye 0,Ye 0,Yg,Bo Ff,Bo Ff,Bo Ff,St x0.nm,Ye x0.ty,Ye x0.lb,Sl x1 x0.bys.length x2,Sl x3 x0.is.length x4,Sl x5 x0.wh.length x6,Sl x7 x0.va.length x8,St x0.sy,Sl x9 x0.mu.length x10]
abbrev Ja(x0:Fl)(x1:To)(x2:Nat)(x3:To)(x4:Nat)(x5:To)(x6:Nat)(x7:To)(x8:Nat)(x9:To)(x10:Nat):Ta:=#[St x0.nm,Ye x0.ty,Ye x0.lb,Sl x1 x0.bys.length x2,Sl x3 x0.is.length x4,Sl x5 x0.wh.length x6,Sl x7 x0.va.length x8,St x0.sy,Sl x9 x0.mu.length x10]
structure Fm where
 L:List Tb
 P:List (Int × Int)
 R:List Rl
 F:List Fl
abbrev Fm.n (m:Fm):Nat:=m.F.length
abbrev Fm.l (m:Fm):Nat:=m.L.length
abbrev Fm.r (m:Fm):Nat:=m.R.length
abbrev Fm.p (m:Fm):Nat:=m.P.length
abbrev Jj(x0:To)(x1:Fm)(x2:Nat)(x3:To)(x4:Nat)(x5:To)(x6:Nat)(x7:To)(x8:Nat):Tl:=[Sl x0 x1.L.length x2,Sl x3 x1.P.length x4,Sl x5 x1.R.length x6,Sl x7 x1.F.length x8]
abbrev Jb(x0:To)(x1:Fm)(x2:Nat)(x3:To)(x4:Nat)(x5:To)(x6:Nat)(x7:To)(x8:Nat):Ta:=#[Sl x0 x1.L.length x2,Sl x3 x1.P.length x4,Sl x5 x1.R.length x6,Sl x7 x1.F.length x8]
def JT:Rl:=⟨⟨#[]⟩,0⟩
def noNx:Nx:=⟨0,⟨0,0,⟨#[]⟩⟩,⟨#[]⟩⟩
def nf (l:List Nx)(k:Nat):Nx:=l.getD k noNx
def rH (l k)(h:k<l.length):nf l k=l[k]:=by grind[nf]
def lH (l:List Nx):Bool:=FB (nf l) l.length
def FK (l:List Nx):Tb:=(top (nf l) l.length).t
def Q1 (l:List Nx):Bool:=decide (l.length=0)||lH l
def G4 (names:List Tb)(l:List Nx):Bool:=l.all λn=>!decide (n.op=1)||TB n.nm names
def m5 (l:List Tb):Bool:=l.all N7&&decide l.Nodup
def M1 (n:Nat)(x:Int):Bool:=decide (0<=x/\x<n)
def yB (nr:Nat)(l:List Int):Bool:=l.all (M1 nr)&&decide l.Nodup
def I9 (nl nr:Nat)(f:Fl):Bool :=
 decide (1<=f.ty/\f.ty<=3)&&decide (-1<=f.lb/\f.lb<nl)&&yB nr f.bys&&decide (f.is.length=0\/f.bys.length=0)&&T7 f.sy&&decide (f.va.length≠0\/f.sy.size=0)&&Q1 f.is&&Q1 f.wh&&Q1 f.va&&Q1 f.mu
def TA (names:List Tb)(f:Fl):Bool:=G4 names f.is&&G4 names f.wh&&G4 names f.va&&G4 names f.mu
def P0 (f:Fm):List Tb:=f.F.map (·.nm)
def S7 (f:Fm):List Tb:=f.R.map (·.nm)
def sb (s:Tb):List UInt8:=s.data.toList
def UA (ls:List Tb)(i:Int):Tb:=ls.getD i.toNat ⟨#[]⟩
def tL (rs:List Rl)(i:Int):Rl:=rs.getD i.toNat JT
def ME (x:Tb):List UInt8:=[108,97,98,101,108,32]++sb x++[59,10]
def uE (ls:List Tb)(p:Int × Int):List UInt8:=[98,101,108,111,119,32]++sb (UA ls p.1)++[32]++sb (UA ls p.2)++[59,10]
def NE (ls:List Tb)(r:Rl):List UInt8:=[114,111,108,101,32]++sb r.nm++[32,97,116,32]++sb (UA ls r.lb)++[59,10]
def M9 (word:List UInt8)(l:List Nx):List UInt8:=if l.length=0 then [] else [32]++word++[32]++sb (FK l)
def IK:List UInt8:=[105,115]
def FJ:List UInt8:=[119,104,101,110]
def CJ:List UInt8:=[118,97,108,105,100]
def mL:List UInt8:=[109,117,115,116]
def pE (t:Int):List UInt8:=if t=1 then [105,110,116] else if t=2 then [98,111,111,108] else [116,101,120,116]
def vD (rs:List Rl)(i:Int):List UInt8:=[32,98,121,32]++sb (tL rs i).nm
def xI (f:Fl):List UInt8:=if f.va.length=0 then [] else [32,115,97,121,115,32,34]++sb f.sy++[34]
def EE (fm:Fm)(f:Fl):List UInt8:=[102,105,101,108,100,32]++sb f.nm++[32]++pE f.ty++[32,97,116,32]++(if f.lb<0 then [97,117,116,111] else sb (UA fm.L f.lb))
def WF (fm:Fm)(f:Fl):List UInt8:=EE fm f++f.bys.flatMap (vD fm.R)++M9 IK f.is++M9 FJ f.wh++M9 CJ f.va++xI f++M9 mL f.mu++[59,10]
def cT (f:Fm):List UInt8:=f.L.flatMap ME++f.P.flatMap (uE f.L)++f.R.flatMap (NE f.L)++f.F.flatMap (WF f)
def wS (f:Fm):Bool :=
 decide (f.L.length<=32/\f.P.length<=256/\f.R.length<=64/\f.F.length<=200)&&m5 f.L&&m5 (S7 f)&&m5 (P0 f)
  && (f.P.all λp=>M1 f.L.length p.1&&M1 f.L.length p.2)&&(f.R.all λr=>M1 f.L.length r.lb)
  && (f.F.all λd=>I9 f.L.length f.R.length d&&TA (P0 f) d)
def G6 (f:Fm):Bool:=wS f&&decide ((cT f).length<=30000)
theorem Pa {s}(h:N7 s=Tt):s.size<=16:=by grind[N7]
theorem qoi {l}(h:lH l=Tt):(FK l).size<=4000:=((WH _ _).1 h).2.2.2.2.2.2
theorem OF (s):(sb s).length=s.size:=by simp[sb]
def IN {I i}(h:m5 I=Tt):(UA I i).size<=16:=by unfold UA;rw[Yr];cases g:I[i.toNat]? with|none=>exact nZ _|some x=>simp only[m5,Yx,Zd]at h;exact Pa (h.1 x (KO g))
def KI {l word}(h:Q1 l=Tt)(W:word.length<=5):(M9 word l).length<=4010:=by grind[M9,Q1,qoi,OF]
def AN {H:Type}(l:List H)(g:H->List UInt8)(c)(h:∀x,x∈l->(g x).length<=c):(l.flatMap g).length<=c*l.length:=by induction l with|nil=>simp|cons x b q=>have m:=h x Zl;have r:=q λy a=>h y (Z6 _ a);simp only[Vk,Yn,Y5,Nat.mul_add,Nat.mul_one];omega
end
section
open Go Go.RowKit Go.Proofs.Tryz
def P7 (w:Tw)(a:To)(l:List Tb):Prop:=∀k (h:k<l.length),∃b o,a=Sm (Aq b o)/\b<w.1.size/\w.cell? (Aq b (o+k))=Sm (St l[k])
def P7.mono {w w' a l}(h:P7 w a l)(c:Bw w w'):P7 w' a l:=λf k=>by obtain⟨b,o,d,e,N⟩:=h f k;exact⟨b,o,d,Yw e c.size,(c.cell e).trans N⟩
def nI (w:Tw)(a:To)(l:List (Int × Int)):Prop:=∀k (h:k<l.length),∃b o,a=Sm (Aq b o)/\b<w.1.size/\w.cell? (Aq b (o+k*2))=Sm (.int .i64 l[k].1)/\w.cell? (Aq b (o+k*2+1))=Sm (.int .i64 l[k].2)
def jg {p:Prop}(h:p:=by obtain⟨b,o,d,e,N,q⟩:=h f k;exact⟨b,o,d,Yw e c.size,(c.cell e).trans N,(c.cell e).trans q⟩):p:=h
def nI.mono {w w' a l}(h:nI w a l)(c:Bw w w'):nI w' a l:=λf k=>by exact jg
def xJ (w:Tw)(a:To)(l:List Rl):Prop:=∀k (h:k<l.length),∃b o,a=Sm (Aq b o)/\b<w.1.size/\w.cell? (Aq b (o+k*2))=Sm (St l[k].nm)/\w.cell? (Aq b (o+k*2+1))=Sm (.int .i64 l[k].lb)
def xJ.mono {w w' a l}(h:xJ w a l)(c:Bw w w'):xJ w' a l:=λf k=>by exact jg
def AB (w:Tw)(a:To)(l:List Int):Prop:=G5 w a l.length (λk=>l.getD k 0)
def AB.mono {w w' a l}(h:AB w a l)(c:Bw w w'):AB w' a l:=G5.mono h c
def Q7 (w:Tw)(a:To)(l:List Nx):Prop:=BB w a l.length (nf l)
def Q7.mono {w w' a l}(h:Q7 w a l)(c:Bw w w'):Q7 w' a l:=BB.mono h c
structure FA where
 b:To
 bc:Nat
 i:To
 ic:Nat
 h:To
 hc:Nat
 v:To
 vc:Nat
 u:To
 uc:Nat
structure GB (w:Tw)(f:Fl)(A:FA):Prop where
 b:AB w A.b f.bys
 i:Q7 w A.i f.is
 h:Q7 w A.h f.wh
 v:Q7 w A.v f.va
 u:Q7 w A.u f.mu
def GB.mono {w w' f A}(h:GB w f A)(c:Bw w w'):GB w' f A:=⟨h.b.mono c,h.i.mono c,h.h.mono c,h.v.mono c,h.u.mono c⟩
def L1 (f:Fl)(A:FA):Tl:=[St f.nm,.int .i64 f.ty,.int .i64 f.lb,Sl A.b f.bys.length A.bc,Sl A.i f.is.length A.ic,Sl A.h f.wh.length A.hc,Sl A.v f.va.length A.vc,St f.sy,Sl A.u f.mu.length A.uc]
def fV (f:Fl)(A:FA):Value:=.agg #[St f.nm,.int .i64 f.ty,.int .i64 f.lb,Sl A.b f.bys.length A.bc,Sl A.i f.is.length A.ic,Sl A.h f.wh.length A.hc,Sl A.v f.va.length A.vc,St f.sy,Sl A.u f.mu.length A.uc]
def JH (w:Tw)(b o:Nat)(f:Fl)(A:FA):Prop:=b<w.1.size/\w.cell? (Aq b o)=Sm (St f.nm)/\w.cell? (Aq b (o+1))=Sm (.int .i64 f.ty)/\w.cell? (Aq b (o+2))=Sm (.int .i64 f.lb)/\w.cell? (Aq b (o+3))=Sm (Sl A.b f.bys.length A.bc)/\w.cell? (Aq b (o+4))=Sm (Sl A.i f.is.length A.ic)/\w.cell? (Aq b (o+5))=Sm (Sl A.h f.wh.length A.hc)/\w.cell? (Aq b (o+6))=Sm (Sl A.v f.va.length A.vc)/\w.cell? (Aq b (o+7))=Sm (St f.sy)/\w.cell? (Aq b (o+8))=Sm (Sl A.u f.mu.length A.uc)
def JH.mono {w w' b o f A}(h:JH w b o f A)(c:Bw w w'):JH w' b o f A :=
 ⟨Yw h.1 c.size,(c.cell h.1).trans h.2.1,(c.cell h.1).trans h.2.2.1,(c.cell h.1).trans h.2.2.2.1,(c.cell h.1).trans h.2.2.2.2.1,(c.cell h.1).trans h.2.2.2.2.2.1,(c.cell h.1).trans h.2.2.2.2.2.2.1,(c.cell h.1).trans h.2.2.2.2.2.2.2.1,(c.cell h.1).trans h.2.2.2.2.2.2.2.2.1,(c.cell h.1).trans h.2.2.2.2.2.2.2.2.2⟩
def E6 {w b t v u V Y y T U r i}(h:m0 w b t [v,u,V,Y,y,T,U,r,i]) :
 w.cell? (Aq b 0)=Sm v/\w.cell? (Aq b 1)=Sm u/\w.cell? (Aq b 2)=Sm V/\w.cell? (Aq b 3)=Sm Y/\w.cell? (Aq b 4)=Sm y/\w.cell? (Aq b 5)=Sm T/\w.cell? (Aq b 6)=Sm U/\w.cell? (Aq b 7)=Sm r/\w.cell? (Aq b 8)=Sm i:=⟨h.cell 0,h.cell 1,h.cell 2,h.cell 3,h.cell 4,h.cell 5,h.cell 6,h.cell 7,h.cell 8⟩
def DI (w:Tw)(a:To)(l:List Fl)(A:Nat->FA):Prop:=∀k (h:k<l.length),∃b o,a=Sm (Aq b o)/\JH w b (o+k*9) l[k] (A k)/\GB w l[k] (A k)
def DI.mono {w w' a l A}(h:DI w a l A)(c:Bw w w'):DI w' a l A:=λd k=>by obtain⟨b,o,e,N,B⟩:=h d k;exact⟨b,o,e,N.mono c,B.mono c⟩
structure MA where
 l:To
 lc:Nat
 p:To
 pc:Nat
 r:To
 rc:Nat
 f:To
 fc:Nat
 fa:Nat->FA
abbrev Jq(x0:MA)(x1:Fm):Ta:=#[Sl x0.l x1.L.length x0.lc,Sl x0.p x1.P.length x0.pc,Sl x0.r x1.R.length x0.rc,Sl x0.f x1.F.length x0.fc]
def mV (m:Fm)(A:MA):Value:=.agg #[Sl A.l m.L.length A.lc,Sl A.p m.P.length A.pc,Sl A.r m.R.length A.rc,Sl A.f m.F.length A.fc]
structure I0 (w:Tw)(m:Fm)(A:MA):Prop where
 l:P7 w A.l m.L
 p:nI w A.p m.P
 r:xJ w A.r m.R
 f:DI w A.f m.F A.fa
def I0.mono {w w' m A}(h:I0 w m A)(c:Bw w w'):I0 w' m A:=⟨h.l.mono c,h.p.mono c,h.r.mono c,h.f.mono c⟩
def E0 {w b t v u V Y}(h:m0 w b t [v,u,V,Y]) :
 w.cell? (Aq b 0)=Sm v/\w.cell? (Aq b 1)=Sm u/\w.cell? (Aq b 2)=Sm V/\w.cell? (Aq b 3)=Sm Y:=⟨h.cell 0,h.cell 1,h.cell 2,h.cell 3⟩
structure QG (f:Fl):Prop where
 nm:f.nm.size<=9223372036854775807
 sy:f.sy.size<=9223372036854775807
 bl:f.bys.length<=9223372036854775807
 il:f.is.length<=9223372036854775807
 hl:f.wh.length<=9223372036854775807
 vl:f.va.length<=9223372036854775807
 ul:f.mu.length<=9223372036854775807
 i:∀k,k<f.is.length->D9 (nf f.is k)
 h:∀k,k<f.wh.length->D9 (nf f.wh k)
 v:∀k,k<f.va.length->D9 (nf f.va k)
 u:∀k,k<f.mu.length->D9 (nf f.mu k)
structure C3 (m:Fm):Prop where
 ll:m.L.length<=9223372036854775807
 pl:m.P.length<=9223372036854775807
 rl:m.R.length<=9223372036854775807
 fl:m.F.length<=9223372036854775807
 l:∀x,x∈m.L->x.size<=9223372036854775807
 r:∀x,x∈m.R->x.nm.size<=9223372036854775807
 f:∀x,x∈m.F->QG x
