import Derived.Test.YtdlnflnfbcaiiaaGreatDoorW00
import Derived.Maps.AppendAt
import Derived.Lib.ItoaLen
import Derived.Lib.ParseIntBTie
set_option linter.all false
set_option maxRecDepth 100000
set_option maxHeartbeats 0
namespace Go.Proofs.YtdlnflnfbcaiiaaGreatDoor
open Value renaming slice->Sl,string->St,bool->Bo
open Obj renaming cells->Cl
open Option renaming none->Nn,some->Sm
section
open Go Go.RowKit Go.Proofs.Tryz
def ui (l:List Nat):Tl:=l.map λu=>.int .i64 ((u:Nat):Int)
def mQ {w base n e v us}(h:w.ownsRow base e 1 v n (ui us)):∃a N,v=Sl a n N/\G5 w a n (λk=>((us.getD k 0:Nat):Int)):=by have L:us.length=n:=(by have:=h.1;simpa [ui] using this);rcases h.2 with ⟨rfl,rfl⟩|⟨g,N,b,rfl,c,H,d,-,B,f⟩;{exact⟨Nn,0,rfl,λk a=>absurd a (nL _)⟩};refine⟨_,N,rfl,λk a=>⟨g,0,rfl,(Yt.1 H).1,?_⟩⟩;have:=h.cellAt k fP;rw[Zk,this];simp[ui,List.getD,List.getElem?_eq_getElem (show k<us.length by omega)]
def M3 {w:Tw}{base k n q e v x}(h:w.ownsRow base e k v n x)(J:v.ownBlock=Sm q):base<=q:=by rcases h.2 with ⟨rfl,-⟩|⟨g,N,b,rfl,c,-⟩;{simp[Value.ownBlock]at J};simp only[Value.ownBlock,Oo]at J;omega
def OD (w:Tw)(t):(w.alloc (Cl #[] t)).ownsRow w.1.size t 1 (Sl (Sm (Aq w.1.size 0)) 0 0) 0 [] :=
 ⟨rfl,.inr ⟨w.1.size,0,#[],rfl,nR _,heap_alloc_new w (Cl #[] t),nR _,nZ _,rfl,rfl⟩⟩
def y9:(prog.info? 3).map (λi=>(i.zero,i.size,i.bytes))=Sm (Sm (Ye 0),1,8):=by kernel_rfl
def LV (w:Tw)(t v):∀(j:Nat) (u:Value),[v][j]? = Sm u->(w.alloc (Cl #[v] t)).cell? (((Aq w.1.size 0):Addr).add j)=Sm u:=λj u h=>by match j,h with|0,h=>simp at h;subst h;exact(m0.new w t #[v]).cell 0
def qm7 (w:Tw)(t v):(w.alloc (Cl #[v] t)).ownsRow w.1.size t 1 (Sl (Sm (Aq w.1.size 0)) 1 1) 1 [v] :=
 ⟨rfl,.inr ⟨w.1.size,1,#[v],rfl,nR _,heap_alloc_new w (Cl #[v] t),nR _,by unfold maxLen;omega,rfl,rfl⟩⟩
section
variable {ops:Array Oper} {rest:List Oper} {o:Oper} {a:Act} {Q:Exit->Act->Tw->Prop} {W:Tw} {s x:Operand} {t e:TypeId} {z v:Value} {size bytes B n m g:Nat} {xs cs:Tl}
def yJ (k:(prog.info? e).map (λi=>(i.zero,i.size,i.bytes))=some (some z,size,bytes))(E:o.guard=none)(T:o.op=.call { callee:=.builtin .append,args:=#[s,x],argTypes:=#[t,t] })(p:a.eval s=v)(f:W.ownsRow B e size v n xs)(y:a.eval x=.slice (some ⟨g,0,none⟩) m m)(N:m0 W g e cs)(d:B<=W.1.size)
 (h:∀b j,j.ownsRow B e size b (n+m) (xs++cs)->W.grownBy j v.ownBlock->Below B W j->(b.ownBlock=v.ownBlock∨b.ownBlock=some W.1.size)->wpList prog ops Q rest (a.put o.dst b) j)
 (w:(n+m)*bytes<=140737488355328:=by omega) (q:prog.underlying t=some (.slice e):=by kernel_rfl) (R:z.cells.size=size:=by rfl) (X:0<size:=by omega) (i:0<bytes:=by omega) (J:cs.length=m*size:=by rfl) (h1:∀u∈cs,u.oneCell'=true:=by simp[Value.oneCell']):wpList prog ops Q (o :: rest) a W:=by
 obtain⟨G,C,F,A,D⟩:=info_parts k;exact wpList_append_own_at _ E s x t T B e G z size bytes q C F A D R X v n xs p f ⟨g,0,none⟩ m m cs y J (λc u l=>by
  rw[show(⟨g,0,none⟩:Addr).add c=⟨g,c,none⟩ by simp[Addr.add];try exact λh=>h.symm];exact(N.cell c).trans l) h1 (Yu (Yu (Nat.le_mul_of_pos_right _ i) w) ga) w d λb j h1 r _ Z=>h b j h1 r ((bR B W).grown r d λb e=>M3 f e) Z
def R5 (w:(prog.info? e).map (λi=>(i.zero,i.size,i.bytes))=some (some z,size,bytes))(d:W.ownsRow B e size v n xs)(k:B<=W.1.size)
 (h:∀b j,j.ownsRow B e size b (n+1) (xs++cs)->(W.alloc (.cells cs.toArray e)).grownBy j v.ownBlock->Below B (W.alloc (.cells cs.toArray e)) j->(b.ownBlock=v.ownBlock∨b.ownBlock=some (W.alloc (.cells cs.toArray e)).1.size)->wpList prog ops Q rest (a.put o.dst b) j)
 (c:(n+1)*bytes<=140737488355328:=by omega)
 (T:o.op=.call { callee:=.builtin .append,args:=#[s,x],argTypes:=#[t,t] }:=by exact rfl) (E:o.guard=none:=by exact rfl) (r:prog.underlying t=some (.slice e):=by kernel_rfl) (f:a.eval s=v:=by rfl) (u:a.eval x=.slice (some ⟨W.1.size,0,none⟩) 1 1:=by rfl)
 (R:z.cells.size=size:=by rfl) (X:0<size:=by omega) (b:0<bytes:=by omega) (J:cs.length=size:=by rfl) (h1:∀i∈cs,i.oneCell'=true:=by simp[Value.oneCell']) :
 wpList prog ops Q (o :: rest) a (W.alloc (.cells cs.toArray e)) :=
 yJ w E T f (d.alloc _) u (m0.new W e cs.toArray) fX h c r R X b (by rw[Nat.one_mul];exact J) h1
end
end
section
def R0:List Nat->Nat
 | []=>0
 | d :: r=>d+10*R0 r
def M4 (l:List Nat):Prop:=∀d,d∈l->d<10
def G0 (n:Nat):List Nat:=if _h:n=0 then [] else n % 10 :: G0 (n / 10)
 termination_by n
 decreasing_by omega
def qG:G0 0=[]:=by simp[G0]
def lR {n}(h:n≠0):G0 n=n % 10 :: G0 (n / 10):=by grind[G0]
theorem ND (n):R0 (G0 n)=n:=by induction n using Nat.strongRecOn <;> grind[R0,G0]
theorem SE (n):M4 (G0 n):=by induction n using Nat.strongRecOn <;> grind[M4,G0]
def vK {n}:G0 n=[] ↔ n=0:=by grind[G0]
def K_ (l m):R0 (l++m)=R0 l+10 ^ l.length*R0 m:=by induction l <;> grind[R0]
theorem sK (l d):R0 (l++[d])=R0 l+10 ^ l.length*d:=by simp[R0,K_]
def M4.tail {n l}(h:M4 (n :: l)):M4 l:=λe f=>h e (List.mem_cons_of_mem _ f)
def M4.head {n l}(h:M4 (n :: l)):n<10:=h n (List.mem_cons_self ..)
def M4.snoc {l n}(h:M4 l)(q:n<10):M4 (l++[n]):=λe f=>by rcases List.mem_append.1 f with f|f;{exact h e f};rw[List.mem_singleton.1 f];exact q
def M4.cons {l n}(h:M4 l)(q:n<10):M4 (n :: l):=λe f=>by rcases List.mem_cons.1 f with rfl|f;{exact q};exact h e f
def M4.take {l}(h:M4 l)(k):M4 (l.take k):=λe f=>h e (List.mem_of_mem_take f)
theorem sG {l}(h:M4 l):R0 l<10 ^ l.length:=by induction l with|nil=>simp[R0]|cons d r q=>have:=q h.tail;have:=h.head;rw[R0,List.length_cons,Nat.pow_succ];omega
theorem NF {l}(h:M4 l):∀i,l.getD i 0=R0 l / 10 ^ i % 10:=by induction l with|nil=>intro i;simp[R0]|cons d r q=>intro i;have a:=h.head;cases i with|zero=>simp[R0];omega|succ i=>have e:R0 (d :: r) / 10 ^ (i+1)=R0 r / 10 ^ i:=(by rw[R0,Nat.pow_succ,Nat.mul_comm (10 ^ i) 10,<- Nat.div_div_eq_div_mul];congr 1;omega);rw[e,<- q h.tail i];simp
def At {l}(h:M4 l)(e:l=[]\/l.getD (l.length - 1) 0≠0):G0 (R0 l)=l:=by induction l with|nil=>simp[R0,qG]|cons d r q=>have c:=h.head;have Q:r=[]\/r.getD (r.length - 1) 0≠0:=(by cases r with|nil=>exact .inl rfl|cons a s=>exact .inr (by simpa using e));have C:=q h.tail Q;have a:R0 (d :: r)≠0:=(by intro M;have b:d=0/\R0 r=0:=(by rw[R0]at M;omega);have:r=[]:=(by rw[<- C,b.2,qG]);subst this;simp[b.1]at e);rw[lR a,R0,show(d+10*R0 r) % 10=d by omega,show(d+10*R0 r) / 10=R0 r by omega,C]
def qvl {l}(h:M4 l){k}(b:k<=l.length)(g:∀j,k<=j->j<l.length->l.getD j 0=0)(e:k=0\/l.getD (k - 1) 0≠0):l.take k=G0 (R0 l):=by have I:R0 l=R0 (l.take k):=(by (conv=>lhs;rw[<- List.take_append_drop k l]);rw[K_];have:∀m:List Nat,(∀j,j<m.length->m.getD j 0=0)->R0 m=0:=(by intro m;induction m with|nil=>intro _;rfl|cons d r q=>intro w;have D:=w 0 fT;have a:=q (λj s=>by have:=w (j+1) (by simpa using s);simpa using this);simp at D;rw[R0,D,a]);rw[this (l.drop k) (λj s=>by have d:k+j<l.length:=(by simp at s;omega);have:=g (k+j) fP d;simpa [List.getD,List.getElem?_drop] using this)];simp);rw[I,At (h.take k)];rcases e with D|D;{left;subst D;simp};by_cases P:k=0;{left;subst P;simp};right;have:(l.take k).length=k:=fX;rw[this];simpa [List.getD,List.getElem?_take,show k - 1<k by omega] using D
def MD {n k}(h:n<10 ^ k):(G0 n).length<=k:=by induction k generalizing n <;> grind[G0]
def YI (n):n<10 ^ (G0 n).length:=by grind[G0,sG,SE,ND]
def EW (n i):(G0 n).getD i 0=n / 10 ^ i % 10:=by rw[NF (SE n),ND]
def qq7 {n}(h:n≠0):10 ^ ((G0 n).length - 1)<=n:=by induction n using Nat.strongRecOn with|_ n ih=>rw[lR h,List.length_cons,Nat.add_sub_cancel];by_cases W:n / 10=0;{rw[W,qG];simp;omega};have:=ih (n / 10) fP W;have a:(G0 (n / 10)).length≠0:=(by intro e;exact W (vK.1 (List.length_eq_zero_iff.1 e)));obtain⟨m,w⟩:∃m,(G0 (n / 10)).length=m+1:=⟨(G0 (n / 10)).length - 1,fP⟩;rw[w]at this|-;simp only[Nat.add_sub_cancel]at this;rw[Nat.pow_succ];omega
def I_ {m n}(h:(G0 m).length<(G0 n).length):m<n:=by have a:=YI m;have P:n≠0:=(by intro e;subst e;simp[qG]at h);have r:=qq7 P;have Z:10 ^ (G0 m).length<=10 ^ ((G0 n).length - 1):=Nat.pow_le_pow_right fS fP;omega
def mR (n i):n / 10 ^ i=10*(n / 10 ^ (i+1))+n / 10 ^ i % 10:=by rw[Nat.pow_succ,<- Nat.div_div_eq_div_mul];omega
def UH (n i):n % 10 ^ (i+1)=n % 10 ^ i+10 ^ i*(n / 10 ^ i % 10):=by rw[Nat.pow_succ,Nat.mod_mul]
def Mc {m n p:Nat}(h:m / p<n / p):m<n:=by rcases Nat.lt_or_ge m n with W|W;{exact W};exact absurd (Nat.div_le_div_right (c:=p) W) fP
def hZ {p:Prop}(h:p:=by rw[Nat.mul_comm (s / 10),Nat.mul_assoc,<- Nat.mul_add,Nat.mod_add_div]):p:=h
def qit {L p c s A B x y}(h:L+c*p=A+B)(a:s=x+y+c):(L+p*(s % 10))+(s / 10)*(p*10)=(A+p*x)+(B+p*y):=by have e:p*(s % 10)+(s / 10)*(p*10)=p*s:=(by exact hZ);have K:p*s=p*x+p*y+c*p:=(by rw[a,Nat.mul_add,Nat.mul_add,Nat.mul_comm c p]);omega
def Hg {L p c A B x y}(h:A+c*p=L+B)(N:c<=1)(u:x<10)(hy:y<10):∃d b,b<=1/\d<10/\(x+10*b=y+c+d)/\(b=1 ↔ x<y+c)/\(A+p*x)+b*(p*10)=(L+p*d)+(B+p*y):=by by_cases S:x<y+c;{refine⟨x+10 - y - c,1,fP,fP,fP,fP,?_⟩;have e:p*x+p*10=p*(x+10 - y - c)+p*y+p*c:=(by rw[<- Nat.mul_add,<- Nat.mul_add,<- Nat.mul_add];congr 1;omega);rw[Nat.mul_comm c p]at h;omega};refine⟨x - y - c,0,fP,fP,fP,fP,?_⟩;have e:p*x=p*(x - y - c)+p*y+p*c:=(by rw[<- Nat.mul_add,<- Nat.mul_add];congr 1;omega);rw[Nat.mul_comm c p]at h;omega
def qlc {L p c s A x y}(h:L+c*p=A*y)(B:s=x*y+c):(L+p*(s % 10))+(s / 10)*(p*10)=(A+p*x)*y:=by have e:p*(s % 10)+(s / 10)*(p*10)=p*s:=(by exact hZ);have K:p*s=p*x*y+c*p:=(by rw[B,Nat.mul_add,Nat.mul_comm c p,Nat.mul_assoc]);rw[Nat.add_mul];omega
def qer {n m i r}(w:0<m)(Q:r=n / 10 ^ (i+1) % m):(10*r+n / 10 ^ i % 10) / m<10/\(10*r+n / 10 ^ i % 10) / m=n / m / 10 ^ i % 10/\(10*r+n / 10 ^ i % 10) % m=n / 10 ^ i % m:=by have a:r<m:=(by rw[Q];exact Nat.mod_lt _ w);have J:n / 10 ^ (i+1)=m*(n / 10 ^ (i+1) / m)+r:=(by rw[Q];exact(Nat.div_add_mod _ _).symm);have b:n / 10 ^ i % 10<10:=Nat.mod_lt _ fS;have B:=mR n i;generalize n / 10 ^ i % 10=d at *;generalize n / 10 ^ (i+1) / m=q at *;have O:n / 10 ^ i=m*(10*q)+(10*r+d):=(by rw[B,J,Nat.mul_add,Nat.mul_left_comm];omega);have S:(10*r+d) / m<10:=(by rw[Nat.div_lt_iff_lt_mul w];omega);refine⟨S,?_,?_⟩;{rw[Nat.div_div_eq_div_mul,Nat.mul_comm m,<- Nat.div_div_eq_div_mul,O,Nat.mul_add_div w];generalize (10*r+d) / m=x at *;omega};rw[O,Nat.mul_add_mod]
def kU {n}(h:n≠0):Lib.decDigits n=(G0 n).reverse.map λd=>UInt8.ofNat (48+d):=by induction n using Nat.strongRecOn with|_ n ih=>rw[lR h,Lib.decDigits];by_cases W:n<10;{rw[dif_pos W,show n / 10=0 by omega,qG,Nat.mod_eq_of_lt W];simp};rw[dif_neg W,ih (n / 10) fP fP];simp
end
section
open Go.Lib
def N6 (acc:Nat):List Nat->Nat
 | []=>acc
 | d :: r=>N6 (acc*10+d) r
def qrc (l):∀n,n<=N6 n l:=by induction l <;> grind[N6]
def q7s (l m):∀n,N6 n (l++m)=N6 (N6 n l) m:=by induction l <;> grind[N6]
def WA (l:List Nat):List UInt8:=l.map λd=>UInt8.ofNat (48+d)
def qch (l):∀(n:Nat),(∀d,d∈l->d<10)->N6 n l<18446744073709551616->parseUintM 18446744073709551615 n (WA l)=.ok (N6 n l):=by induction l with|nil=>intro n _ _;rfl|cons d r a=>intro n q I;have D:d<10:=q d (List.mem_cons_self ..);have H:=qrc r (n*10+d);rw[N6]at I|-;have e:(UInt8.ofNat (48+d)).toNat=48+d:=(by rw[UInt8.toNat_ofNat'];omega);show parseUintM _ n (UInt8.ofNat (48+d) :: WA r)=_;rw[parseUintM,e,if_pos fP,if_neg fP,if_neg fP,show 48+d - 48=d by omega];exact a _ (λe f=>q e (List.mem_cons_of_mem _ f)) I
def AE (n:Nat):List Nat:=if _h:n<10 then [n] else AE (n / 10)++[n % 10]
 termination_by n
 decreasing_by omega
def FR (n):N6 0 (AE n)=n/\(∀d,d∈AE n->d<10)/\decDigits n=WA (AE n)/\AE n≠[]:=by induction n using Nat.strongRecOn with|_ n ih=>by_cases h:n<10;{rw[AE,dif_pos h,decDigits,dif_pos h];refine⟨by simp[N6],λd q=>?_,rfl,fT⟩;rw[List.mem_singleton.1 q];exact h};obtain⟨a,b,c,-⟩:=ih (n / 10) fP;rw[AE,dif_neg h,decDigits,dif_neg h];refine⟨?_,λd q=>?_,?_,fT⟩;{rw[q7s,a];simp only[N6];omega};{rcases List.mem_append.1 q with q|q;{exact b d q};rw[List.mem_singleton.1 q];omega};rw[c];simp[WA]
def rY (n):decDigits n≠[]:=by simp[WA,FR]
def Ke (n):∃c r,decDigits n=c :: r/\48<=c.toNat/\c.toNat<=57:=by obtain⟨-,b,c,d⟩:=FR n;match e:AE n with|[]=>exact absurd e d|x :: r=>rw[c,e];have u:=b x (by rw[e];exact List.mem_cons_self ..);refine⟨UInt8.ofNat (48+x),WA r,rfl,?_⟩;have:(UInt8.ofNat (48+x)).toNat=48+x:=(by rw[UInt8.toNat_ofNat'];omega);omega
def Id {n}(h:n<18446744073709551616):parseUintB 64 (decDigits n)=.ok n:=by obtain⟨a,b,c,-⟩:=FR n;have:=qch (AE n) 0 b (by rw[a];exact h);rw[parseUintB,if_neg (rY n),show 2 ^ 64 - 1=18446744073709551615 from rfl,c,this,a]
theorem qci {n}(D:-9223372036854775808<=n)(h1:n<=9223372036854775807):parseIntB 64 (itoa n)=.ok n:=by have h:2 ^ (64 - 1)=9223372036854775808:=rfl;unfold itoa;split;{have:=Id (n:=n.natAbs) fP;simp only[parseIntB,h];rw[if_pos (Or.inr fS),this];have e:(45:UInt8).toNat=45:=rfl;simp only[e,not_true_eq_false,false_and,if_false,true_and];rw[if_neg fP,if_pos trivial,show -(n.natAbs:Int)=n by omega]};have:=Id (n:=n.toNat) fP;obtain⟨c,r,e,B,C⟩:=Ke n.toNat;rw[e]at this|-;simp only[parseIntB,h];rw[if_neg fP,this];have:¬ c.toNat=45:=fP;simp only[this,not_false_eq_true,false_and,if_false,true_and];rw[if_neg fP,show(n.toNat:Int)=n by omega]
def xG (n:Int):Prop:=-9223372036854775808<=n/\n<=9223372036854775807
def AG (l:List UInt8):Option Int:=match parseIntB 64 l with
 | .ok n=>if itoa n=l then Sm n else Nn
 | _=>Nn
def Xz {n}(h:xG n):AG (itoa n)=Sm n:=by grind[AG,xG,qci]
def B_ {l}(h:∀n,xG n->itoa n≠l):AG l=Nn:=by unfold AG;split;{rename_i n hn;split;{rename_i e;have hb:=parseIntB_bounds hn;exact absurd e (h n (by exact Dw))};rfl};rfl
end
section
open Go Go.RowKit Go.Proofs.Tryz
def F3 (w:Tw)(v:Value)(l:List Nat):Prop:=∃a cap,v=Sl a l.length cap/\l.length<=cap/\(a=Nn->cap=0)/\G5 w a l.length (λk=>((l.getD k 0:Nat):Int))
def F3.mono {w w' v l}(h:F3 w v l)(c:Bw w w'):F3 w' v l:=by obtain⟨a,N,e,b,P,C⟩:=h;exact⟨a,N,e,b,P,C.mono c⟩
def oK {w base e v us}(h:w.ownsRow base e 1 v us.length (ui us)):F3 w v us:=by rcases h.2 with ⟨rfl,D⟩|⟨g,N,c,rfl,d,H,f,-,B,i⟩;{exact⟨Nn,0,by rw[D],fP,λ_=>rfl,λk k=>absurd k fP⟩};obtain⟨b,X,Z,a⟩:=mQ h;simp only[Value.slice.injEq]at Z;obtain⟨rfl,-,rfl⟩:=Z;exact⟨_,_,rfl,fP,(λh=>by cases h),a⟩
def Pb {w:Tw}{base n b e v x}(h:w.ownsRow base e 1 v n x)(i:b<base)(j u):(w.setCell (Aq b j) u).ownsRow base e 1 v n x:=by rcases h.2 with W|⟨g,N,a,Q,S,H,c,f,B,d⟩;{exact⟨h.1,.inl W⟩};exact⟨h.1,.inr ⟨g,N,a,Q,S,(heap_setCell_other w (Aq b j) g u fX).trans H,c,f,B,d⟩⟩
def qob (y:Int):(y.tmod 10<0->-(y.tmod 10)=((y.natAbs % 10:Nat):Int))/\(¬ y.tmod 10<0->y.tmod 10=((y.natAbs % 10:Nat):Int)):=by grind
def qo8 (y:Int):(y.tdiv 10).natAbs=y.natAbs / 10:=by grind
def tN (x w)(D:-9223372036854775808<=x)(h1:x<=9223372036854775807):Calls prog 115 #[Ye x] w λd b=>∃c,d=.returned (.agg #[Bo (decide (x<0)),c])/\F3 b c (G0 x.natAbs)/\Bw w b:=by have M:=h_ (And.intro D h1);clear D h1;go_enter func115,ntmps115;go_wp2;have U:Hi (((w.alloc (Cl J4 193)).alloc (Cl #[] 3)).ownsRow (w.alloc (Cl J4 193)).1.size 3 1 (Sl (Sm (Aq ((w.alloc (Cl J4 193)).1.size) 0)) 0 0) 0 []):=OD _ _;have l:Hi (Below (w.1.size+1) (w.alloc (Cl J4 193)) ((w.alloc (Cl J4 193)).alloc (Cl #[] 3))):=(bR _ _).alloc fT _;have h:Hi (Bw w (w.alloc (Cl J4 193))):=Bq;have f:=h_ (m0.new w 193 J4);have B:(w.alloc (Cl J4 193)).1.size=w.1.size+1:=fT;rw[B]at U;generalize (w.alloc (Cl J4 193))=k at *;go_loopw [0,3] (λr c wr=>∃(y:Int) (a:List Nat),r=Ye y/\-9223372036854775808<=y/\y<=9223372036854775807/\a++G0 y.natAbs=G0 x.natAbs/\wr.ownsRow (w.1.size+1) 3 1 c a.length (ui a)/\Below (w.1.size+1) k wr) (λr _ _=>(intOf r).natAbs);exact⟨x,[],rfl,M.1,M.2,rfl,U,l⟩;clear U l;obtain⟨y,a,rfl,m,j,e,i,g⟩:=hrel;have L:a.length+(G0 y.natAbs).length<=19:=(by have Z:=congrArg List.length e;have K:(G0 x.natAbs).length<=19:=MD (Fq M.u);simp at Z;omega);have c:=h_ (And.intro m j);clear m j;obtain⟨O,V,l⟩:=oC e i g;clear e i g;by_cases m:y=0;{subst m;have e:=O.u;simp only[Int.natAbs_zero,qG,Zu]at e;subst e;have Q:=f.mono l (Vc _);have S:=h_ (h.trans (l.mono fP));have N:=Q.cell 0;have J:=Q.cell 1;have g:=Q.free 0;have i:=Q.free 1;simp only[Yv,Ym]at N J;clear Q O l f h;obtain⟨C,c3,rfl,-⟩:=mQ V;go_wp2;refine bQ (v:=.agg #[Bo (decide (x<0)),Sl C (G0 x.natAbs).length c3]) ⟨_,rfl,?_,?_⟩;{exact oK (Pb (Pb V (Vc _) _ _) (Vc _) _ _)};exact(S.setCell fT _).setCell fT _};obtain⟨F,J⟩:=qob y;have q:=qo8 y;have H:=lR (n:=y.natAbs) fP;have X:Hi (wrap64 (y.tdiv 10)=y.tdiv 10):=(by have:=c.u;rw[Hi];unfold wrap64;omega);by_cases g:y.tmod 10<0;{have W:wrap64 (-(y.tmod 10))=((y.natAbs % 10:Nat):Int):=(by have:=F g;unfold wrap64;omega);obtain⟨j,R,i⟩:=oC q H W;clear q H W F J;go_wp2_with (at_builtin;refine R5 y9 V gm ?_);intro t b p f _ _;have D:=(l.alloc gm (Cl #[Ye (wrap64 (-(y.tmod 10)))] 3)).grown f gM (λh d=>M3 V d);exact k5};obtain⟨j,R,i⟩:=oC q H (J g);clear q H F J;go_wp2_with (at_builtin;refine R5 y9 V gm ?_);intro t b p f _ _;have D:=(l.alloc gm (Cl #[Ye (y.tmod 10)] 3)).grown f gM (λh d=>M3 V d);exact k5
def q7d:∀d:Fin 10,(⟨#[48,49,50,51,52,53,54,55,56,57]⟩:Tb).extract d.val (d.val+1)=⟨#[UInt8.ofNat (48+d.val)]⟩:=by decide +kernel
def qhd (d:Nat)(q:d<10)(w):(Instr.slice 9 (St ⟨#[48,49,50,51,52,53,54,55,56,57]⟩) (Sm (Ye (d:Int))) (Sm (Ye ((d:Int)+1))) Nn).run prog w=.ok (St ⟨#[UInt8.ofNat (48+d)]⟩) w:=by rw[run_slice_string w 9 _ .i64 .i64 _ _ underlying9 fP fP (by show(d:Int)+1<=10;omega),show((d:Int)).toNat=d by omega,show((d:Int)+1).toNat=d+1 by omega,q7d ⟨d,q⟩]
def MN {a b:Tb}(h:a.data.toList=b.data.toList):a=b:=by obtain⟨⟨l⟩⟩:=a;obtain⟨⟨m⟩⟩:=b;simp at h;rw[h]
def qi9 {l:List Nat}{k n}(a:k<l.length)(q:l.getD k 0=n):l.take (k+1)=l.take k++[n]:=by rw[Oq,Yp a];simp[List.getD,List.getElem?_eq_getElem a]at q;simp[q]
def Eo (d):48+UInt8.ofNat d=UInt8.ofNat (48+d):=by simp
def qfu:Lib.itoa 0=[48]:=by rw[Lib.itoa,Ys fP];exact Lib.decDigits_one (i:=0) fP
def Bc (l m:List UInt8):(⟨l.toArray⟩:Tb)++⟨m.toArray⟩=⟨(l++m).toArray⟩:=by apply MN;simp[ByteArray.data_append]
def sN (x w)(D:-9223372036854775808<=x)(h1:x<=9223372036854775807):Gv 74 #[Ye x] w (St ⟨(Lib.itoa x).toArray⟩):=by go_enter func74,ntmps74;go_wp2_with fail;refine(tN x _ D h1).mono ?_;rintro e a ⟨y,rfl,p,F⟩;have L:(G0 x.natAbs).length<=19:=MD fP;obtain⟨b,N,rfl,v,-,m⟩:=p;have B:Bw w (a.alloc (Cl #[Bo (decide (x<0)),Sl b (G0 x.natAbs).length N] 193)):=F.alloc F.size _;have l:=m0.new a 193 #[Bo (decide (x<0)),Sl b (G0 x.natAbs).length N];have o:=m.mono ((bR a.1.size a).alloc (nR _) (Cl #[Bo (decide (x<0)),Sl b (G0 x.natAbs).length N] 193));obtain⟨c,t,n⟩:=oC B l o;by_cases r:x=0;{subst r;simp only[Int.natAbs_zero,qG]at *;go_wp2;go_ret;exact⟨by rw[qfu];rfl,c⟩};have P:(G0 x.natAbs).length≠0:=(by intro e;have:=vK.1 (Zj.1 e);omega);go_wp2;go_loopw [4,5] (λs i wr=>∃k:Nat,k<=(G0 x.natAbs).length/\i=Ye k/\s=St ⟨(WA ((G0 x.natAbs).take k).reverse).toArray⟩/\wr=a.alloc (Cl #[Bo (decide (x<0)),Sl b (G0 x.natAbs).length N] 193)) (λ_ i _=>(G0 x.natAbs).length - (intOf i).toNat);exact⟨0,nZ _,rfl,by simp[WA],rfl⟩;obtain⟨k,i,rfl,rfl,rfl⟩:=hrel;by_cases h:k<(G0 x.natAbs).length;{obtain⟨z,s,rfl,-,M⟩:=n k h;obtain⟨d,q,f⟩:∃d,d<10/\(G0 x.natAbs).getD k 0=d:=⟨_,by rw[EW];exact Vz _ fS,rfl⟩;dsimp only at M;rw[f]at M;have g:=qhd d q;have j:=h_ f;generalize G:WA ((G0 x.natAbs).take k).reverse=S at *;have A:=h_ G;have R:S.length<=19:=(by rw[<- G];simp[WA];omega);clear G;go_wp2;go_roundw;{refine⟨k+1,fP,fU,?_,trivial⟩;rw[qi9 h j.u,List.reverse_append,<- A.u,Eo];exact congrArg _ (Bc [_] _)};exact kZ};obtain rfl:k=(G0 x.natAbs).length:=fP;have g:Lib.itoa x=(if x<0 then [45] else [])++WA (G0 x.natAbs).reverse:=(by unfold Lib.itoa WA;split;{rw[kU fP];rfl};rw[show x.toNat=x.natAbs by omega,kU fP];rfl);have d:=h_ g;clear g;rw[Zz];generalize G:WA (G0 x.natAbs).reverse=S at *;have R:S.length<=19:=(by rw[<- G];simp[WA];omega);clear G;by_cases I:x<0;{go_wp2;go_ret;refine⟨?_,by have g:=c.u;rw[Yo I]at g;exact g⟩;rw[d.u,Yz I];exact congrArg (λz=>Ending.returned (St z)) (Bc [45] S)};go_wp2;go_ret;refine⟨?_,by have g:=c.u;rw[Yl fP]at g;exact g⟩;rw[d.u,Ys fP];rfl
