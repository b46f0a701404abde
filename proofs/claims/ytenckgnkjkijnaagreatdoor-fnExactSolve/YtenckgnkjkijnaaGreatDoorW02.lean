import Derived.Test.YtenckgnkjkijnaaGreatDoorW00
import Derived.Lib.ItoaLen
import Derived.Lib.ParseIntBTie
import Derived.Deep.RegionHeld3
set_option maxRecDepth 100000
set_option maxHeartbeats 64000000
namespace Go.Proofs.YtenckgnkjkijnaaGreatDoor
def kad:List Nat->Nat
 | []=>0
 | d :: r=>d+10*kad r
def Dig (l:List Nat):Prop:=∀d,d∈l->d<10
def kab (n:Nat):List Nat:=if _h:n=0 then [] else n % 10 :: kab (n / 10)
 termination_by n
 decreasing_by omega
theorem qel:kab 0=[]:=by rw[kab];simp
theorem qiy {n:Nat}(a:n≠0):kab n=n % 10 :: kab (n / 10):=by rw[kab,dif_neg a]
theorem qeo (n:Nat):kad (kab n)=n:=by
 induction n using Nat.strongRecOn with
 | _ n ih =>
  by_cases a:n=0
  . subst a;rw[qel];rfl
  . rw[qiy a,kad,ih (n / 10) (by omega)];omega
theorem qiv (n:Nat):Dig (kab n):=by
 induction n using Nat.strongRecOn with
 | _ n ih =>
  by_cases c:n=0
  . subst c;rw[qel];intro b a;cases a
  . rw[qiy c];intro b a
    rcases List.mem_cons.1 a with rfl | a
    . omega
    . exact ih (n / 10) (by omega) b a
theorem qix {n:Nat}:kab n=[] ↔ n=0:=by
 refine⟨fun a=>?_,fun a=>by rw[a,qel]⟩;rw[<- qeo n,a];rfl
theorem q7h (l m:List Nat):kad (l++m)=kad l+10 ^ l.length*kad m:=by
 induction l with
 | nil=>simp[kad]
 | cons c b a=>rw[List.cons_append,kad,kad,a,List.length_cons,Nat.pow_succ,Nat.mul_add,Nat.mul_comm (10 ^ b.length) 10,Nat.mul_assoc,Nat.add_assoc]
theorem qep (l:List Nat)(a:Nat):kad (l++[a])=kad l+10 ^ l.length*a:=by rw[q7h];simp[kad]
theorem Dig.tail {n:Nat}{l:List Nat}(b:Dig (n :: l)):Dig l:=fun a c=>b a (List.mem_cons_of_mem _ c)
theorem Dig.head {n:Nat}{l:List Nat}(a:Dig (n :: l)):n<10:=a n (List.mem_cons_self ..)
theorem Dig.snoc {l:List Nat}{n:Nat}(c:Dig l)(d:n<10):Dig (l++[n]):=fun b a=>by
 rcases List.mem_append.1 a with a | a
 . exact c b a
 . rw[List.mem_singleton.1 a];exact d
theorem Dig.cons {l:List Nat}{n:Nat}(c:Dig l)(d:n<10):Dig (n :: l):=fun b a=>by
 rcases List.mem_cons.1 a with rfl | a
 . exact d
 . exact c b a
theorem Dig.take {l:List Nat}(b:Dig l)(k:Nat):Dig (l.take k):=fun a c=>b a (List.mem_of_mem_take c)
theorem qo8 {l:List Nat}(a:Dig l):kad l<10 ^ l.length:=by
 induction l with
 | nil=>simp[kad]
 | cons c d b =>
  have:=b a.tail;have:=a.head;rw[kad,List.length_cons,Nat.pow_succ];omega
theorem ka9 {l:List Nat}(b:Dig l):∀a,l.getD a 0=kad l / 10 ^ a % 10:=by
 induction l with
 | nil=>intro a;simp[kad]
 | cons d c f =>
  intro a;have g:=b.head;cases a with
  | zero=>simp[kad];omega
  | succ a =>
   have e:kad (d :: c) / 10 ^ (a+1)=kad c / 10 ^ a:=by
    rw[kad,Nat.pow_succ,Nat.mul_comm (10 ^ a) 10,<- Nat.div_div_eq_div_mul]
    congr 1;omega
   rw[e,<- f b.tail a];simp
theorem q0h {l:List Nat}(d:Dig l)(f:l=[]∨l.getD (l.length - 1) 0≠0):kab (kad l)=l:=by
 induction l with
 | nil=>simp[kad,qel]
 | cons b a j =>
  have k:=d.head;have i:a=[]∨a.getD (a.length - 1) 0≠0:=by
   cases a with
   | nil=>exact .inl rfl
   | cons c e=>exact .inr (by simpa using f)
  have e:=j d.tail i;have h:kad (b :: a)≠0:=by
   intro g;have c:b=0/\kad a=0:=by rw[kad]at g;omega
   have:a=[]:=by rw[<- e,c.2,qel]
   subst this;simp[c.1]at f
  rw[qiy h,kad,show(b+10*kad a) % 10=b by omega,show(b+10*kad a) / 10=kad a by omega,e]
theorem qsl {l:List Nat}(f:Dig l){k:Nat}(o:k<=l.length)(j:∀a,k<=a->a<l.length->l.getD a 0=0)(h:k=0∨l.getD (k - 1) 0≠0):l.take k=kab (kad l):=by
 have i:kad l=kad (l.take k):=by
  conv=>lhs;rw[<- List.take_append_drop k l]
  rw[q7h];have:∀c:List Nat,(∀a,a<c.length->c.getD a 0=0)->kad c=0:=by
   intro c
   induction c with
   | nil=>intro _;rfl
   | cons n p m =>
    intro e;have b:=e 0 (by simp);have g:=m (fun a d=>by have:=e (a+1) (by simpa using d);simpa using this);simp at b;rw[kad,b,g]
  rw[this (l.drop k) (fun a d=>by
   have c:k+a<l.length:=by simp at d;omega
   have:=j (k+a) (by omega) c;simpa [List.getD,List.getElem?_drop] using this)]
  simp
 rw[i,q0h (f.take k)];rcases h with b | b
 . left;subst b;simp
 . by_cases a:k=0
   . left;subst a;simp
   . right
     have:(l.take k).length=k:=(by simp;omega);rw[this];simpa [List.getD,List.getElem?_take,show k - 1<k by omega] using b
theorem q26 {n k:Nat}(a:n<10 ^ k):(kab n).length<=k:=by
 induction k generalizing n with
 | zero=>have:n=0:=(by simpa using a);subst this;simp[qel]
 | succ k c =>
  by_cases b:n=0
  . subst b;simp[qel]
  . rw[qiy b,List.length_cons]
    have:=c (n:=n / 10) (by rw[Nat.pow_succ]at a;omega);omega
theorem qq3 (n:Nat):n<10 ^ (kab n).length:=by
 have:=qo8 (qiv n);rwa [qeo]at this
theorem qo4 (n i:Nat):(kab n).getD i 0=n / 10 ^ i % 10:=by rw[ka9 (qiv n),qeo]
theorem qo5 {n:Nat}(c:n≠0):10 ^ ((kab n).length - 1)<=n:=by
 induction n using Nat.strongRecOn with
 | _ n ih =>
  rw[qiy c,List.length_cons,Nat.add_sub_cancel];by_cases a:n / 10=0
  . rw[a,qel];simp;omega
  . have:=ih (n / 10) (by omega) a
    have e:(kab (n / 10)).length≠0:=by
     intro b;exact a (qix.1 (List.length_eq_zero_iff.1 b))
    obtain⟨b,d⟩:∃b,(kab (n / 10)).length=b+1:=⟨(kab (n / 10)).length - 1,by omega⟩;rw[d]at this⊢;simp only[Nat.add_sub_cancel]at this;rw[Nat.pow_succ];omega
theorem q7f {m n:Nat}(b:(kab m).length<(kab n).length):m<n:=by
 have d:=qq3 m;have c:n≠0:=by intro a;subst a;simp[qel]at b
 have e:=qo5 c;have f:10 ^ (kab m).length<=10 ^ ((kab n).length - 1):=Nat.pow_le_pow_right (by decide) (by omega);omega
theorem qiz (n i:Nat):n / 10 ^ i=10*(n / 10 ^ (i+1))+n / 10 ^ i % 10:=by
 rw[Nat.pow_succ,<- Nat.div_div_eq_div_mul];omega
theorem qkc (n i:Nat):n % 10 ^ (i+1)=n % 10 ^ i+10 ^ i*(n / 10 ^ i % 10):=by
 rw[Nat.pow_succ,Nat.mod_mul]
theorem qem {m n p:Nat}(b:m / p<n / p):m<n:=by
 rcases Nat.lt_or_ge m n with a | a
 . exact a
 . exact absurd (Nat.div_le_div_right (c:=p) a) (by omega)
theorem qi8 {L p c s A B x y:Nat}(e:L+c*p=A+B)(a:s=x+y+c):(L+p*(s % 10))+(s / 10)*(p*10)=(A+p*x)+(B+p*y):=by
 have b:p*(s % 10)+(s / 10)*(p*10)=p*s:=by
  rw[Nat.mul_comm (s / 10),Nat.mul_assoc,<- Nat.mul_add,Nat.mod_add_div]
 have d:p*s=p*x+p*y+c*p:=by rw[a,Nat.mul_add,Nat.mul_add,Nat.mul_comm c p]
 omega
theorem qm8 {L p c A B x y:Nat}(d:A+c*p=L+B)(e:c<=1)(f:x<10)(hy:y<10) :
 ∃b a,a<=1/\b<10/\(x+10*a=y+c+b)/\(a=1 ↔ x<y+c)/\(A+p*x)+a*(p*10)=(L+p*b)+(B+p*y):=by
 by_cases b:x<y+c
 . refine⟨x+10 - y - c,1,by omega,by omega,by omega,by omega,?_⟩
   have a:p*x+p*10=p*(x+10 - y - c)+p*y+p*c:=by rw[<- Nat.mul_add,<- Nat.mul_add,<- Nat.mul_add];congr 1;omega
   rw[Nat.mul_comm c p]at d;omega
 . refine⟨x - y - c,0,by omega,by omega,by omega,by omega,?_⟩
   have a:p*x=p*(x - y - c)+p*y+p*c:=by rw[<- Nat.mul_add,<- Nat.mul_add];congr 1;omega
   rw[Nat.mul_comm c p]at d;omega
theorem qkf {L p c s A x y:Nat}(e:L+c*p=A*y)(a:s=x*y+c):(L+p*(s % 10))+(s / 10)*(p*10)=(A+p*x)*y:=by
 have b:p*(s % 10)+(s / 10)*(p*10)=p*s:=by
  rw[Nat.mul_comm (s / 10),Nat.mul_assoc,<- Nat.mul_add,Nat.mod_add_div]
 have d:p*s=p*x*y+c*p:=by rw[a,Nat.mul_add,Nat.mul_comm c p,Nat.mul_assoc]
 rw[Nat.add_mul];omega
theorem qen {n m i r:Nat}(b:0<m)(d:r=n / 10 ^ (i+1) % m) :
 (10*r+n / 10 ^ i % 10) / m<10/\(10*r+n / 10 ^ i % 10) / m=n / m / 10 ^ i % 10/\(10*r+n / 10 ^ i % 10) % m=n / 10 ^ i % m:=by
 have j:r<m:=by rw[d];exact Nat.mod_lt _ b
 have f:n / 10 ^ (i+1)=m*(n / 10 ^ (i+1) / m)+r:=by rw[d];exact(Nat.div_add_mod _ _).symm
 have k:n / 10 ^ i % 10<10:=Nat.mod_lt _ (by decide);have g:=qiz n i;generalize n / 10 ^ i % 10=a at *;generalize n / 10 ^ (i+1) / m=h at *;have c:n / 10 ^ i=m*(10*h)+(10*r+a):=by
  rw[g,f,Nat.mul_add,Nat.mul_left_comm];omega
 have e:(10*r+a) / m<10:=by rw[Nat.div_lt_iff_lt_mul b];omega
 refine⟨e,?_,?_⟩
 . rw[Nat.div_div_eq_div_mul,Nat.mul_comm m,<- Nat.div_div_eq_div_mul,c,Nat.mul_add_div b]
   generalize (10*r+a) / m=l at *;omega
 . rw[c,Nat.mul_add_mod]
theorem q25 {n:Nat}(b:n≠0):Lib.decDigits n=(kab n).reverse.map fun a=>UInt8.ofNat (48+a):=by
 induction n using Nat.strongRecOn with
 | _ n ih =>
  rw[qiy b,Lib.decDigits];by_cases a:n<10
  . rw[dif_pos a,show n / 10=0 by omega,qel,Nat.mod_eq_of_lt a];simp
  . rw[dif_neg a,ih (n / 10) (by omega) (by omega)];simp
end Go.Proofs.YtenckgnkjkijnaaGreatDoor
namespace Go.Proofs.YtenckgnkjkijnaaGreatDoor
open Go.Lib
def kbv (acc:Nat):List Nat->Nat
 | []=>acc
 | d :: r=>kbv (acc*10+d) r
theorem qp8 (l:List Nat):∀a,a<=kbv a l:=by
 induction l with
 | nil=>intro a;exact Nat.le_refl _
 | cons b d c=>intro a;have:=c (a*10+b);rw[kbv];omega
theorem q7v (l m:List Nat):∀a,kbv a (l++m)=kbv (kbv a l) m:=by
 induction l with
 | nil=>intro a;rfl
 | cons c d b=>intro a;exact b _
def kcu (l:List Nat):List UInt8:=l.map fun d=>UInt8.ofNat (48+d)
theorem qcc (l:List Nat):∀(b:Nat),(∀a,a∈l->a<10)->kbv b l<18446744073709551616->parseUintM 18446744073709551615 b (kcu l)=.ok (kbv b l):=by
 induction l with
 | nil=>intro b _ _;rfl
 | cons a f h =>
  intro b d e;have i:a<10:=d a (List.mem_cons_self ..);have j:=qp8 f (b*10+a);rw[kbv]at e⊢;have c:(UInt8.ofNat (48+a)).toNat=48+a:=by rw[UInt8.toNat_ofNat'];omega
  show parseUintM _ b (UInt8.ofNat (48+a) :: kcu f)=_;rw[parseUintM,c,if_pos (by omega),if_neg (by omega),if_neg (by omega),show 48+a - 48=a by omega];exact h _ (fun c g=>d c (List.mem_cons_of_mem _ g)) e
def kbH (n:Nat):List Nat:=if _h:n<10 then [n] else kbH (n / 10)++[n % 10]
 termination_by n
 decreasing_by omega
theorem qp5 (n:Nat):kbv 0 (kbH n)=n/\(∀b,b∈kbH n->b<10)/\decDigits n=kcu (kbH n)/\kbH n≠[]:=by
 induction n using Nat.strongRecOn with
 | _ n ih =>
  by_cases c:n<10
  . rw[kbH,dif_pos c,decDigits,dif_pos c]
    refine⟨by simp[kbv],fun b a=>?_,rfl,by simp⟩;rw[List.mem_singleton.1 a];exact c
  . obtain⟨d,e,f,-⟩:=ih (n / 10) (by omega)
    rw[kbH,dif_neg c,decDigits,dif_neg c];refine⟨?_,fun b a=>?_,?_,by simp⟩
    . rw[q7v,d];simp only[kbv];omega
    . rcases List.mem_append.1 a with a | a
      . exact e b a
      . rw[List.mem_singleton.1 a];omega
    . rw[f];simp[kcu]
theorem kfu (n:Nat):decDigits n≠[]:=by
 obtain⟨-,-,a,b⟩:=qp5 n;rw[a];simpa [kcu] using b
theorem qiu (n:Nat):∃a b,decDigits n=a :: b/\48<=a.toNat/\a.toNat<=57:=by
 obtain⟨-,c,a,d⟩:=qp5 n
 match e:kbH n with
 | []=>exact absurd e d
 | x :: b =>
  rw[a,e];have f:=c x (by rw[e];exact List.mem_cons_self ..);refine⟨UInt8.ofNat (48+x),kcu b,rfl,?_⟩;have:(UInt8.ofNat (48+x)).toNat=48+x:=by rw[UInt8.toNat_ofNat'];omega
  omega
theorem qgk {n:Nat}(d:n<18446744073709551616):parseUintB 64 (decDigits n)=.ok n:=by
 obtain⟨a,b,c,-⟩:=qp5 n;have:=qcc (kbH n) 0 b (by rw[a];exact d);rw[parseUintB,if_neg (kfu n),show 2 ^ 64 - 1=18446744073709551615 from rfl,c,this,a]
theorem qcd {n:Int}(d:-9223372036854775808<=n)(e:n<=9223372036854775807):parseIntB 64 (itoa n)=.ok n:=by
 have b:2 ^ (64 - 1)=9223372036854775808:=rfl;unfold itoa;split
 . have:=qgk (n:=n.natAbs) (by omega)
   simp only[parseIntB,b];rw[if_pos (Or.inr (by decide)),this];have a:(45:UInt8).toNat=45:=rfl;simp only[a,not_true_eq_false,false_and,if_false,true_and];rw[if_neg (by omega),if_pos trivial,show -(n.natAbs:Int)=n by omega]
 . have:=qgk (n:=n.toNat) (by omega)
   obtain⟨c,h,a,f,g⟩:=qiu n.toNat;rw[a]at this⊢;simp only[parseIntB,b];rw[if_neg (by omega),this];have:¬ c.toNat=45:=by omega
   simp only[this,not_false_eq_true,false_and,if_false,true_and];rw[if_neg (by omega),show(n.toNat:Int)=n by omega]
def I64 (n:Int):Prop:=-9223372036854775808<=n/\n<=9223372036854775807
def kbk (l:List UInt8):Option Int:=match parseIntB 64 l with
 | .ok n=>if itoa n=l then some n else none
 | _=>none
theorem q6g {n:Int}(a:I64 n):kbk (itoa n)=some n:=by
 rw[kbk,qcd a.1 a.2];simp
theorem q6h {l:List UInt8}(h:∀n,I64 n->itoa n≠l):kbk l=none:=by
 unfold kbk;split
 . rename_i n hn
   split
   . rename_i e
     have hb:=parseIntB_bounds hn;exact absurd e (h n (by have:(2:Nat) ^ (64 - 1)=9223372036854775808:=rfl;unfold I64;omega))
   . rfl
 . rfl
end Go.Proofs.YtenckgnkjkijnaaGreatDoor
namespace Go.Proofs.YtenckgnkjkijnaaGreatDoor
open Go Go.RowKit Go.Proofs.Tryz
def ui (l:List Nat):Tl:=l.map fun u=>.int .i64 ((u:Nat):Int)
theorem q5f {w:Tw}{base n:Nat}{t:TypeId}{v:Value}{us:List Nat}(c:w.ownsRow base t 1 v n (ui us)) :
 ∃a b,v=.slice a n b/\kbx w a n (fun a=>((us.getD a 0:Nat):Int)):=by
 have j:us.length=n:=by have:=c.1;simpa [ui] using this
 rcases c.2 with ⟨rfl,rfl⟩ | ⟨e,b,g,rfl,h,f,i,-,k,l⟩
 . exact⟨none,0,rfl,fun a d=>absurd d (nL _)⟩
 . refine⟨_,b,rfl,fun a d=>⟨e,0,rfl,(Yq.1 f).1,?_⟩⟩
   have:=c.cellAt a (by omega);rw[Y3,this];simp[ui,List.getD,List.getElem?_eq_getElem (show a<us.length by omega)]
theorem qc8 {w:Tw}{base k n i:Nat}{t:TypeId}{v:Value}{xs:Tl}(b:w.ownsRow base t k v n xs)(a:v.ownBlock=some i):base<=i:=by
 rcases b.2 with ⟨rfl,-⟩ | ⟨e,c,d,rfl,f,-⟩
 . simp[Value.ownBlock]at a
 . simp only[Value.ownBlock,Vk]at a;omega
theorem qgj (w:Tw)(t:TypeId):(w.alloc (.cells #[] t)).ownsRow w.heap.size t 1 (.slice (some ⟨w.heap.size,0,none⟩) 0 0) 0 [] :=
 ⟨rfl,.inr ⟨w.heap.size,0,#[],rfl,nR _,heap_alloc_new w (.cells #[] t),nR _,nZ _,rfl,rfl⟩⟩
theorem kbf:(prog.info? 3).map (fun a=>(a.zero,a.size,a.bytes))=some (some (J6 0),1,8):=by kernel_rfl
theorem qim (w:Tw)(t:TypeId)(v:Value):∀(b:Nat) (a:Value),[v][b]? = some a->(w.alloc (.cells #[v] t)).cell? ((⟨w.heap.size,0,none⟩:Addr).add b)=some a:=fun b a a=>by
 match b,a with
 | 0,a=>simp at a;subst a;exact(Blk.new w t #[v]).cell 0
theorem qkz (w:Tw)(t:TypeId)(v:Value):(w.alloc (.cells #[v] t)).ownsRow w.heap.size t 1 (.slice (some ⟨w.heap.size,0,none⟩) 1 1) 1 [v] :=
 ⟨rfl,.inr ⟨w.heap.size,1,#[v],rfl,nR _,heap_alloc_new w (.cells #[v] t),nR _,by unfold maxLen;omega,rfl,rfl⟩⟩
def kaJ (w:Tw)(v:Value)(l:List Nat):Prop:=∃a cap,v=.slice a l.length cap/\l.length<=cap/\(a=none->cap=0)/\kbx w a l.length (fun k=>((l.getD k 0:Nat):Int))
theorem kaJ.mono {w w':Tw}{v:Value}{l:List Nat}(d:kaJ w v l)(e:Bw w w'):kaJ w' v l:=by
 obtain⟨a,b,c,f,h,g⟩:=d;exact⟨a,b,c,f,h,g.mono e⟩
theorem q50 {w:Tw}{base:Nat}{t:TypeId}{v:Value}{us:List Nat}(a:w.ownsRow base t 1 v us.length (ui us)):kaJ w v us:=by
 rcases a.2 with ⟨rfl,c⟩ | ⟨i,f,h,rfl,j,l,k,-,m,n⟩
 . exact⟨none,0,by rw[c],by omega,fun _=>rfl,fun b b=>absurd b (by omega)⟩
 . obtain⟨e,g,b,d⟩:=q5f a
   simp only[Value.slice.injEq]at b;obtain⟨rfl,-,rfl⟩:=b;exact⟨_,_,rfl,by omega,(fun a=>by cases a),d⟩
theorem qca {w:Tw}{base n b:Nat}{t:TypeId}{v:Value}{xs:Tl}(a:w.ownsRow base t 1 v n xs)(p:b<base)(j:Nat)(u:Value):(w.setCell ⟨b,j,none⟩ u).ownsRow base t 1 v n xs:=by
 rcases a.2 with g | ⟨c,d,e,f,h,k,i,o,l,m⟩
 . exact⟨a.1,.inl g⟩
 . exact⟨a.1,.inr ⟨c,d,e,f,h,(heap_setCell_other w ⟨b,j,none⟩ c u (by simp;omega)).trans k,i,o,l,m⟩⟩
theorem qmj (y:Int):(y.tmod 10<0->-(y.tmod 10)=((y.natAbs % 10:Nat):Int))/\(¬ y.tmod 10<0->y.tmod 10=((y.natAbs % 10:Nat):Int)):=by
 have b:∀a:Nat,(a:Int).tmod 10=((a % 10:Nat):Int):=fun a=>(Int.ofNat_tmod a 10).symm;rcases Int.lt_or_le y 0 with c | c
 . obtain⟨a,rfl⟩:∃a:Nat,y = -(a:Int):=⟨y.natAbs,by omega⟩
   rw[Int.neg_tmod,b,V9];simp only[Int.natAbs_natCast];omega
 . obtain⟨a,rfl⟩:∃a:Nat,y=(a:Int):=⟨y.toNat,by omega⟩
   rw[b];simp only[Int.natAbs_natCast];exact⟨fun c=>by omega,fun _=>trivial⟩
theorem qmg (y:Int):(y.tdiv 10).natAbs=y.natAbs / 10:=by rw[Int.natAbs_tdiv];rfl
theorem q3n (x:Int)(w:Tw)(a:-9223372036854775808<=x)(b:x<=9223372036854775807) :
 Calls prog 212 #[J6 x] w fun j h=>∃d,j=.returned (.agg #[.bool (decide (x<0)),d])/\kaJ h d (kab x.natAbs)/\Bw w h:=by
 have D:=h_ (And.intro a b);clear a b;go_enter func212,ntmps212;go_wp2;have e:Hi (((w.alloc (.cells Jk 264)).alloc (.cells #[] 3)).ownsRow (w.alloc (.cells Jk 264)).heap.size 3 1 (.slice (some ⟨(w.alloc (.cells Jk 264)).heap.size,0,none⟩) 0 0) 0 []):=qgj _ _;have b:Hi (Below (w.heap.size+1) (w.alloc (.cells Jk 264)) ((w.alloc (.cells Jk 264)).alloc (.cells #[] 3))):=(bR _ _).alloc (by simp) _;have k:Hi (Bw w (w.alloc (.cells Jk 264))):=(bR _ _).alloc (nR _) _;have l:=h_ (Blk.new w 264 Jk);have K:(w.alloc (.cells Jk 264)).heap.size=w.heap.size+1:=by simp
 rw[K]at e;generalize (w.alloc (.cells Jk 264))=J at *;go_loopw [0,3] (fun f d wr=>∃(a:Int) (c:List Nat),f=J6 a/\-9223372036854775808<=a/\a<=9223372036854775807/\c++kab a.natAbs=kab x.natAbs/\wr.ownsRow (w.heap.size+1) 3 1 d c.length (ui c)/\Below (w.heap.size+1) J wr) (fun f _ _=>(intOf f).natAbs)
 case atStart=>exact⟨x,[],rfl,D.1,D.2,rfl,e,b⟩
 case round =>
  clear e b;obtain⟨a,c,rfl,f,m,g,e,d⟩:=hrel;have N:c.length+(kab a.natAbs).length<=19:=by
   have i:=congrArg List.length g;have o:(kab x.natAbs).length<=19:=q26 (by have:=D.u;omega);simp at i;omega
  have i:=h_ (And.intro f m);clear f m;obtain⟨r,f,b⟩:=oC g e d;clear g e d;by_cases L:a=0
  . subst L
    have g:=r.u;simp only[Int.natAbs_zero,qel,List.append_nil]at g;subst g;have d:=l.mono b (Zu _);have e:=h_ (k.trans (b.mono (by omega)));have m:=d.cell 0;have o:=d.cell 1;have p:=d.free 0;have q:=d.free 1;simp only[Yz,Yf]at m o;clear d r b l k;obtain⟨d,c3,rfl,-⟩:=q5f f;go_wp2;refine bQ (v:=.agg (Jt (decide (x<0)) d (kab x.natAbs).length c3)) ⟨_,rfl,?_,?_⟩
    . exact q50 (qca (qca f (Zu _) _ _) (Zu _) _ _)
    . exact(e.setCell (by simp) _).setCell (by simp) _
  . obtain⟨F,G⟩:=qmj a
    have t:=qmg a;have y:=qiy (n:=a.natAbs) (by omega);have s:Hi (wrap64 (a.tdiv 10)=a.tdiv 10):=(by have:=i.u;rw[Hi];unfold wrap64;omega);by_cases I:a.tmod 10<0
    . have e:wrap64 (-(a.tmod 10))=((a.natAbs % 10:Nat):Int):=by have:=F I;unfold wrap64;omega
      obtain⟨d,B,A⟩:=oC t y e;clear t y e F G;obtain⟨E,m,o,p,q⟩:=info_parts kbf;go_wp2_with (at_builtin;refine wpList_append_own _ rfl _ _ 89 rfl (w.heap.size+1) 3 E _ 1 8 underlying89 m o p q rfl (by omega) u3 _ _ rfl (f.alloc _) ⟨wr.heap.size,0,none⟩ 1 1 [J6 (wrap64 (-(a.tmod 10)))] rfl rfl (qim wr 3 _) (by simp[Value.oneCell']) (by unfold maxLen;omega) (by omega) (by have:=b.size;simp;omega) ?_);intro H h e l _;have k:=(b.alloc (by have:=b.size;omega) (.cells #[J6 (wrap64 (-(a.tmod 10)))] 3)).grown l (by have:=b.size;simp;omega) (fun M j=>qc8 f j);have C:Hi (h.ownsRow (w.heap.size+1) 3 1 H (c++[a.natAbs % 10]).length (ui (c++[a.natAbs % 10]))):=by
       rw[Hi];rw[A.u]at e;simpa [ui] using e
      have z:=h_ k;clear e l k m o p q;go_wp2_with fail;go_roundw
      case rel =>
       refine⟨a.tdiv 10,c++[a.natAbs % 10],congrArg _ s,?_,?_,?_,C,z⟩
       . have:=i.u;have:=d.u;omega
       . have:=i.u;have:=d.u;omega
       . rw[d.u,Vy,List.singleton_append,<- B.u];exact r
      case measure=>simp only[intOf];rw[s.u];have:=d.u;omega
    . obtain⟨d,B,A⟩:=oC t y (G I);clear t y F G
      obtain⟨E,m,o,p,q⟩:=info_parts kbf;go_wp2_with (at_builtin;refine wpList_append_own _ rfl _ _ 89 rfl (w.heap.size+1) 3 E _ 1 8 underlying89 m o p q rfl (by omega) u3 _ _ rfl (f.alloc _) ⟨wr.heap.size,0,none⟩ 1 1 [J6 (a.tmod 10)] rfl rfl (qim wr 3 _) (by simp[Value.oneCell']) (by unfold maxLen;omega) (by omega) (by have:=b.size;simp;omega) ?_);intro H h e l _;have k:=(b.alloc (by have:=b.size;omega) (.cells #[J6 (a.tmod 10)] 3)).grown l (by have:=b.size;simp;omega) (fun M j=>qc8 f j);have C:Hi (h.ownsRow (w.heap.size+1) 3 1 H (c++[a.natAbs % 10]).length (ui (c++[a.natAbs % 10]))):=by
       rw[Hi];rw[A.u]at e;simpa [ui] using e
      have z:=h_ k;clear e l k m o p q;go_wp2_with fail;go_roundw
      case rel =>
       refine⟨a.tdiv 10,c++[a.natAbs % 10],congrArg _ s,?_,?_,?_,C,z⟩
       . have:=i.u;have:=d.u;omega
       . have:=i.u;have:=d.u;omega
       . rw[d.u,Vy,List.singleton_append,<- B.u];exact r
      case measure=>simp only[intOf];rw[s.u];have:=d.u;omega
theorem q7e:∀a:Fin 10,(⟨#[48,49,50,51,52,53,54,55,56,57]⟩:Tb).extract a.val (a.val+1)=⟨#[UInt8.ofNat (48+a.val)]⟩:=by decide +kernel
theorem qgt (a:Nat)(b:a<10)(w:Tw):(Instr.slice 9 (.string ⟨#[48,49,50,51,52,53,54,55,56,57]⟩) (some (J6 (a:Int))) (some (J6 ((a:Int)+1))) none).run prog w=.ok (.string ⟨#[UInt8.ofNat (48+a)]⟩) w:=by
 rw[run_slice_string w 9 _ .i64 .i64 _ _ underlying9 (by omega) (by omega) (by show(a:Int)+1<=10;omega),show((a:Int)).toNat=a by omega,show((a:Int)+1).toNat=a+1 by omega,q7e ⟨a,b⟩]
theorem qd0 {a b:Tb}(c:a.data.toList=b.data.toList):a=b:=by
 obtain⟨⟨d⟩⟩:=a;obtain⟨⟨e⟩⟩:=b;simp at c;rw[c]
theorem qho {l:List Nat}{k n:Nat}(b:k<l.length)(a:l.getD k 0=n):l.take (k+1)=l.take k++[n]:=by
 rw[List.take_add_one,Yg b];simp[List.getD,List.getElem?_eq_getElem b]at a;simp[a]
theorem kgv (a:Nat):48+UInt8.ofNat a=UInt8.ofNat (48+a):=by simp[UInt8.ofNat_add]
theorem qfk:Lib.itoa 0=[48]:=by rw[Lib.itoa,Yl (by omega)];exact Lib.decDigits_one (i:=0) (by omega)
theorem qcz (l m:List UInt8):(⟨l.toArray⟩:Tb)++⟨m.toArray⟩=⟨(l++m).toArray⟩:=by
 apply qd0;simp[ByteArray.data_append]
theorem q3m (x:Int)(w:Tw)(j:-9223372036854775808<=x)(k:x<=9223372036854775807) :
 Gv 216 #[J6 x] w (.string ⟨(Lib.itoa x).toArray⟩):=by
 go_enter func216,ntmps216;go_wp2_with fail;refine(q3n x _ j k).mono ?_;rintro i c ⟨M,rfl,B,m⟩;have I:(kab x.natAbs).length<=19:=q26 (by omega);have E:=h_ (And.intro j k);obtain⟨e,f,rfl,G,-,v⟩:=B;have s:Bw w (c.alloc (.cells (Jt (decide (x<0)) e (kab x.natAbs).length f) 264)):=m.alloc m.size _;have t:=Blk.new c 264 (Jt (decide (x<0)) e (kab x.natAbs).length f);have y:=v.mono ((bR c.heap.size c).alloc (nR _) (.cells (Jt (decide (x<0)) e (kab x.natAbs).length f) 264));obtain⟨h,D,q⟩:=oC s t y;by_cases C:x=0
 . subst C
   simp only[Int.natAbs_zero,qel]at *;go_wp2;go_ret;exact⟨by rw[qfk];rfl,h⟩
 . have J:(kab x.natAbs).length≠0:=by intro i;have:=qix.1 (Za.1 i);omega
   go_wp2;go_loopw [4,5] (fun d b wr=>∃a:Nat,a<=(kab x.natAbs).length/\b=J6 a/\d=.string ⟨(kcu ((kab x.natAbs).take a).reverse).toArray⟩/\wr=c.alloc (.cells (Jt (decide (x<0)) e (kab x.natAbs).length f) 264)) (fun _ b _=>(kab x.natAbs).length - (intOf b).toNat)
   case atStart=>exact⟨0,nZ _,rfl,by simp[kcu],rfl⟩
   case round =>
    obtain⟨a,H,rfl,rfl,rfl⟩:=hrel;by_cases o:a<(kab x.natAbs).length
    . obtain⟨F,L,rfl,-,n⟩:=q a o
      obtain⟨g,A,l⟩:∃g,g<10/\(kab x.natAbs).getD a 0=g:=⟨_,by rw[qo4];exact Om _ (by decide),rfl⟩;dsimp only at n;rw[l]at n;have K:=qgt g A;have p:=h_ l;generalize b:kcu ((kab x.natAbs).take a).reverse=d at *;have r:=h_ b;have z:d.length<=19:=(by rw[<- b];simp[kcu];omega);clear b;go_wp2;go_roundw
      case rel =>
       refine⟨a+1,by omega,by go_num,?_,trivial⟩;rw[qho o p.u,List.reverse_append,<- r.u,kgv];exact congrArg _ (qcz [_] _)
      case measure=>simp[intOf];omega
    . obtain rfl:a=(kab x.natAbs).length:=by omega
      have l:Lib.itoa x=(if x<0 then [45] else [])++kcu (kab x.natAbs).reverse:=by
       unfold Lib.itoa kcu;split
       . rw[q25 (by omega)];rfl
       . rw[show x.toNat=x.natAbs by omega,q25 (by omega)];rfl
      have g:=h_ l;clear l;rw[Vt];generalize b:kcu (kab x.natAbs).reverse=d at *;have z:d.length<=19:=(by rw[<- b];simp[kcu];omega);clear b;by_cases l:x<0
      . go_wp2
        go_ret;refine⟨?_,by have b:=h.u;rw[Ye l]at b;exact b⟩;rw[g.u,Yr l];exact congrArg (fun n=>Ending.returned (.string n)) (qcz [45] d)
      . go_wp2
        go_ret;refine⟨?_,by have b:=h.u;rw[Yd (by omega)]at b;exact b⟩;rw[g.u,Yl (by omega)];rfl
structure Vx where
 k:Int
 n:Int
 s:Tb
def vv (u:Vx):Value:=.agg #[.int .i64 u.k,.int .i64 u.n,.string u.s]
def kax (c:Int):Vx:=⟨4,c,⟨#[]⟩⟩
def kbL (n:Int):Vx:=⟨1,n,⟨#[]⟩⟩
def kaj (b:Bool):Vx:=⟨2,if b then 1 else 0,⟨#[]⟩⟩
def kbU (s:Tb):Vx:=⟨3,0,s⟩
def kak:Vx:=⟨0,0,⟨#[]⟩⟩
def Cel (w:Tw)(b o:Nat)(u:Vx):Prop:=b<w.heap.size/\w.cell? ⟨b,o,none⟩=some (.int .i64 u.k)/\w.cell? ⟨b,o+1,none⟩=some (.int .i64 u.n)/\w.cell? ⟨b,o+2,none⟩=some (.string u.s)
theorem Cel.mono {w w':Tw}{b o:Nat}{u:Vx}(a:Cel w b o u)(c:Bw w w'):Cel w' b o u :=
 ⟨Yn a.1 c.size,(c.cell a.1).trans a.2.1,(c.cell a.1).trans a.2.2.1,(c.cell a.1).trans a.2.2.2⟩
def eqX (p q:Vx):Bool:=if p.k=q.k then if p.n=q.n then decide (p.s.toList=q.s.toList) else false else false
def kaF (w:Tw)(a:To)(m:Nat)(f:Nat->Vx):Prop:=∀k,k<m->∃b o,a=some ⟨b,o,none⟩/\Cel w b (o+k*3) (f k)
theorem kaF.mono {w w':Tw}{a:To}{m:Nat}{f:Nat->Vx}(d:kaF w a m f)(e:Bw w w'):kaF w' a m f:=fun i h=>by
 obtain⟨b,j,c,g⟩:=d i h;exact⟨b,j,c,g.mono e⟩
def ar (op:Int):Int:=if op=2∨op=3∨op=21∨op=22∨op=23∨op=24∨op=25 then 1 else if op=16 then 3 else if 4<=op/\op<=20 then 2 else 0
theorem qif (a:Int):(a=2∨a=3∨a=21∨a=22∨a=23∨a=24∨a=25∨a=16)∨((¬ a=2/\¬ a=3/\¬ a=21/\¬ a=22)/\(¬ a=23/\¬ a=24/\¬ a=25/\¬ a=16)/\(a<4∨(4<=a/\a<=20)∨(4<=a/\20<a))):=by omega
theorem q83 (a:Int)(w:Tw):Calls prog 177 #[J6 a] w fun b c=>b=.returned (J6 (ar a))/\c=w:=by
 rcases qif a with (rfl | rfl | rfl | rfl | rfl | rfl | rfl | rfl) | ⟨⟨h,i,j,k⟩,⟨l,m,n,f⟩,c⟩
 case inr =>
  have d:¬ (a=2∨a=3∨a=21∨a=22∨a=23∨a=24∨a=25):=by omega
  have e:=f;replace h:(a==2)=false:=Yc.2 h;replace i:(a==3)=false:=Yc.2 i;replace j:(a==21)=false:=Yc.2 j;replace k:(a==22)=false:=Yc.2 k;replace l:(a==23)=false:=Yc.2 l;replace m:(a==24)=false:=Yc.2 m;replace n:(a==25)=false:=Yc.2 n;replace f:(a==16)=false:=Yc.2 f;rcases c with c | ⟨c,g⟩ | ⟨c,g⟩
  . have b:ar a=0:=by rw[ar,Yl d,Yl e,Yl (by omega)]
    rw[b];go_enter func177,ntmps177;go_wp2;go_ret;exact⟨rfl,rfl⟩
  . have b:ar a=2:=by rw[ar,Yl d,Yl e,Yr ⟨c,g⟩]
    rw[b];go_enter func177,ntmps177;go_wp2;go_ret;exact⟨rfl,rfl⟩
  . have b:ar a=0:=by rw[ar,Yl d,Yl e,Yl (by omega)]
    rw[b];go_enter func177,ntmps177;go_wp2;go_ret;exact⟨rfl,rfl⟩
 all_goals (
  go_enter func177,ntmps177;go_wp2;go_ret;exact⟨rfl,rfl⟩)
theorem q36 {B:Nat}{w w':Tw}(a:Below B w.drew w'):Below B w w':=⟨a.os,a.tape,a.output,a.size,a.block⟩
theorem q2h (a:Int)(w:Tw):Calls prog 171 #[J6 a] w fun b c=>b=.returned (.bool (decide (2<=a/\a<=25)))/\c=w:=by
 by_cases d:2<=a
 . by_cases e:a<=25
   . rw[Ye ⟨d,e⟩]
     go_enter func171,ntmps171;go_wp2;go_ret;exact⟨by simp,rfl⟩
   . have b:decide (2<=a/\a<=25)=false:=Yd (fun c=>e c.2)
     rw[b];go_enter func171,ntmps171;go_wp2;go_ret;exact⟨by simp,rfl⟩
 . have b:decide (2<=a/\a<=25)=false:=Yd (fun c=>d c.1)
   rw[b];go_enter func171,ntmps171;go_wp2;go_ret;exact⟨by rfl,rfl⟩
def opn (op:Int):Int:=if op=2∨op=3∨op=21∨op=22∨op=23∨op=24∨op=25 then 1 else if op=16 then 3 else 2
theorem keA (a:Int):ar a=if 2<=a/\a<=25 then opn a else 0:=by
 unfold ar opn;by_cases b:a=2∨a=3∨a=21∨a=22∨a=23∨a=24∨a=25
 . rw[Yr b,Yr b,Yr (by omega)]
 . rw[Yl b,Yl b]
   by_cases c:a=16
   . rw[Yr c,Yr c,Yr (by omega)]
   . rw[Yl c,Yl c]
     by_cases d:4<=a/\a<=20
     . rw[Yr d,Yr (by omega)]
     . rw[Yl d,Yl (by omega)]
theorem q2w (a:Int)(w:Tw):Calls prog 172 #[J6 a] w fun b c=>b=.returned (J6 (opn a))/\c=w:=by
 rcases qif a with (rfl | rfl | rfl | rfl | rfl | rfl | rfl | rfl) | ⟨⟨d,e,f,g⟩,⟨h,i,j,c⟩,-⟩
 case inr =>
  have b:opn a=2:=by rw[opn,Yl (by omega),Yl c]
  rw[b];go_enter func172,ntmps172;go_wp2;go_ret;exact⟨rfl,rfl⟩
 all_goals (
  go_enter func172,ntmps172;go_wp2;go_ret;exact⟨rfl,rfl⟩)
section
variable {md:Region.Mode} {ops:Array Oper} {Q:Exit->Act->Tw->Prop} {S:Tw->Prop} {o:Oper} {a:Act}
theorem qrk {a:Act}{o:Oper}{b:Tmp}{v:Value}(c:o.dst=some b):a.put o.dst v = { tmps:=a.tmps.setIfInBounds b v,defers:=a.defers }:=by rw[c];rfl
theorem kgJ {i fuel:Nat}{v:Value}{listed:Array Bool}{w:Tw}(d:Tmp)(hi:ops[i]? = some o)(e:o.dst=some d)(k:Region.noSelect ops=true)(h:Region.free md ops listed i=true)(j:(Region.ready md ops listed).contains i=true)
 (f:∀b (c:Act) (g:Ta) w,Q (.panic b) { tmps:=g,defers:=c.defers } w->Q (.panic b) c w) (l:Region.wanted o (yielded ops a.tmps)=true) (hy:∀w,S w->(execOp a.eval o).run prog w=.ok (.value v) w) (g:S w) (c:wpAnyH prog md ops Q S fuel (listed.setIfInBounds i true) { tmps:=a.tmps.setIfInBounds d v,defers:=a.defers } w):wpAnyH prog md ops Q S (fuel+1) listed a w :=
 wpAnyH_take hi k h j (fun b a w c=>f b a _ w (by rw[qrk e]at c;exact c)) (.inl ⟨l,hy⟩) g (by rw[qrk e];exact c)
theorem kgK {i fuel:Nat}{listed:Array Bool}{w:Tw}(d:Tmp)(hi:ops[i]? = some o)(e:o.dst=some d)(k:Region.noSelect ops=true)(h:Region.free md ops listed i=true)(j:(Region.ready md ops listed).contains i=true)
 (f:∀b (c:Act) (g:Ta) w,Q (.panic b) { tmps:=g,defers:=c.defers } w->Q (.panic b) c w) (l:Region.wanted o (yielded ops a.tmps)=false) (g:S w) (c:wpAnyH prog md ops Q S fuel (listed.setIfInBounds i true) { tmps:=a.tmps.setIfInBounds d undef,defers:=a.defers } w):wpAnyH prog md ops Q S (fuel+1) listed a w :=
 wpAnyH_take hi k h j (fun b a w c=>f b a _ w (by rw[qrk e]at c;exact c)) (.inr ⟨l,rfl⟩) g (by rw[qrk e];exact c)
theorem tj {fuel:Nat}{listed:Array Bool}{w:Tw}(i:Nat)(b:Tmp)(v:Value)(f:S w)(c:wpAnyH prog md ops Q S fuel (listed.setIfInBounds i true) { tmps:=a.tmps.setIfInBounds b v,defers:=a.defers } w)(hi:ops[i]? = some o:=by exact rfl)(h:o.dst=some b:=by exact rfl)(l:Region.noSelect ops=true:=by kernel_rfl)(j:Region.free md ops listed i=true:=by kernel_rfl)(k:(Region.ready md ops listed).contains i=true:=by kernel_rfl)
 (g:∀e (d:Act) (m:Ta) w,Q (.panic e) { tmps:=m,defers:=d.defers } w->Q (.panic e) d w:=by exact fun _ _ _ _ c=>c) (d:Region.wanted o (yielded ops a.tmps)=true:=by rfl) (hy:∀w,S w->(execOp a.eval o).run prog w=.ok (.value v) w:=by intro w f;simp[execOp,go_sem, *]):wpAnyH prog md ops Q S (fuel+1) listed a w :=
 kgJ b hi h l j k g d hy f c
theorem tn {fuel:Nat}{listed:Array Bool}{w:Tw}(i:Nat)(b:Tmp)(g:S w)(c:wpAnyH prog md ops Q S fuel (listed.setIfInBounds i true) { tmps:=a.tmps.setIfInBounds b undef,defers:=a.defers } w)(hi:ops[i]? = some o:=by exact rfl)(h:o.dst=some b:=by exact rfl)(l:Region.noSelect ops=true:=by kernel_rfl)(j:Region.free md ops listed i=true:=by kernel_rfl)(k:(Region.ready md ops listed).contains i=true:=by kernel_rfl)
 (f:∀e (d:Act) (m:Ta) w,Q (.panic e) { tmps:=m,defers:=d.defers } w->Q (.panic e) d w:=by exact fun _ _ _ _ c=>c) (d:Region.wanted o (yielded ops a.tmps)=false:=by rfl):wpAnyH prog md ops Q S (fuel+1) listed a w :=
 kgK b hi h l j k f d g c
theorem kaL {i fuel:Nat}{listed:Array Bool}{w:Tw}{f:FuncId}{args:Ta}{R:Value->Tw->Prop}(c:Tmp)(hi:ops[i]? = some o)(n:o.dst=some c)(q:Region.wanted o (yielded ops a.tmps)=true)(p:Region.ready md ops listed=[i])
 (hrun:(execOp a.eval o).run prog w=.ok (.enter f args) w) (m:Calls prog f args w fun d w'=>∃b,d=.returned b/\R b w')
 (g:∀b w',R b w'->S w'/\wpAnyH prog md ops Q S fuel (listed.setIfInBounds i true) { tmps:=a.tmps.setIfInBounds c b,defers:=a.defers } w'):wpAnyH prog md ops Q S (fuel+1) listed a w:=by
 refine wpAnyH_ready p (by simp) (AllReadyH.cons hi (fun e k=>?_) AllReadyH.nil);rw[Yr q];unfold Oper.wp;rw[hrun,Oper.upon_enter];refine m.mono ?_;rintro d w' ⟨b,rfl,l⟩;obtain⟨h,j⟩:=g b w' l;show e (a.put o.dst b) w';rw[qrk n];exact k.out _ _ h (fun _=>j)
theorem cyY {fuel:Nat}{listed:Array Bool}{w:World}{f:FuncId}{args:Array Value}{v:Value}{c:World->Prop}(i:Nat)(d:Tmp)(k:Calls prog f args w fun g b=>g=.returned v/\c b)(j:∀b,c b->S b/\wpAnyH prog md ops Q S fuel (listed.setIfInBounds i true) {tmps:=a.tmps.setIfInBounds d v,defers:=a.defers} b)(hi:ops[i]? =some o:=by exact rfl)(l:o.dst=some d:=by exact rfl)(p:Region.wanted o (yielded ops a.tmps)=true:=by rfl)(n:Region.ready md ops listed=[i]:=by kernel_rfl)(hrun:(execOp a.eval o).run prog w=.ok (.enter f args) w:=by simp[execOp,go_sem]):wpAnyH prog md ops Q S (fuel+1) listed a w:=kaL (R:=fun h b=>h=v/\c b) d hi l p n hrun (k.mono fun g b ⟨m,e⟩=>⟨_,m,rfl,e⟩) fun h b ⟨g,e⟩=>by subst g;exact j b e
theorem wdQ {fuel:Nat}{listed:Array Bool}{w:World}(b:Q .normal a w)(c:Region.ready md ops listed=[]:=by kernel_rfl):wpAnyH prog md ops Q S fuel listed a w:=wpAnyH_done c b _
theorem ka0 {i fuel:Nat}{listed:Array Bool}{w w':Tw}{v:Next}(hi:ops[i]? = some o)(h:Region.wanted o (yielded ops a.tmps)=true)(f:Region.ready md ops listed=[i])
 (e:o.dst=none) (hrun:(execOp a.eval o).run prog w=.ok v w') (g:v=.skip) (d:S w') (b:wpAnyH prog md ops Q S fuel (listed.setIfInBounds i true) a w'):wpAnyH prog md ops Q S (fuel+1) listed a w:=by
 subst g;refine wpAnyH_ready f (by simp) (AllReadyH.cons hi (fun j c=>?_) AllReadyH.nil);rw[Yr h];unfold Oper.wp;rw[hrun,Oper.upon_skip,e];exact c.out _ _ d (fun _=>b)
end
section
variable {md:Region.Mode} {ops:Array Oper} {Q:Exit->Act->Tw->Prop} {S:Tw->Prop} {o:Oper} {a:Act} {fuel:Nat} {listed:Array Bool} {i:Nat} {rs:List Nat} {w w':Tw}
theorem ka7 {f:FuncId}{args:Ta}{R:Value->Tw->Prop}(c:Tmp)(hi:ops[i]? = some o)(n:o.dst=some c)(q:Region.wanted o (yielded ops a.tmps)=true)
 (hrun:(execOp a.eval o).run prog w=.ok (.enter f args) w) (m:Calls prog f args w fun d w'=>∃b,d=.returned b/\R b w')
 (g:∀b w',R b w'->S w'/\wpAnyH prog md ops Q S fuel (listed.setIfInBounds i true) { tmps:=a.tmps.setIfInBounds c b,defers:=a.defers } w') (p:AllReadyH prog md ops Q S fuel listed a w rs):AllReadyH prog md ops Q S fuel listed a w (i :: rs):=by
 refine AllReadyH.cons hi (fun e k=>?_) p;rw[Yr q];unfold Oper.wp;rw[hrun,Oper.upon_enter];refine m.mono ?_;rintro d w' ⟨b,rfl,l⟩;obtain⟨h,j⟩:=g b w' l;show e (a.put o.dst b) w';rw[qrk n];exact k.out _ _ h (fun _=>j)
theorem kaD {v:Value}(b:Tmp)(hi:ops[i]? = some o)(g:o.dst=some b)(j:Region.wanted o (yielded ops a.tmps)=true)
 (hrun:(execOp a.eval o).run prog w=.ok (.value v) w') (f:S w') (d:wpAnyH prog md ops Q S fuel (listed.setIfInBounds i true) { tmps:=a.tmps.setIfInBounds b v,defers:=a.defers } w') (h:AllReadyH prog md ops Q S fuel listed a w rs):AllReadyH prog md ops Q S fuel listed a w (i :: rs):=by
 refine AllReadyH.cons hi (fun c e=>?_) h;rw[Yr j];unfold Oper.wp;rw[hrun];show c (a.put o.dst v) w';rw[qrk g];exact e.out _ _ f (fun _=>d)
end
section
variable {md:Region.Mode} {ops:Array Oper} {Q:Exit->Act->Tw->Prop} {S:Tw->Prop} {o:Oper} {l l':Tl} {lb lb':List Bool}
theorem khi {i fuel:Nat}{v:Value}{w:Tw}(b:Tmp)(hi:ops[i]? = some o)(g:o.dst=some b)(m:Region.noSelect ops=true)(h:Region.free md ops lb.toArray i=true)(k:(Region.ready md ops lb.toArray).contains i=true)
 (e:∀d (c:Act) (f:Ta) w,Q (.panic d) { tmps:=f,defers:=c.defers } w->Q (.panic d) c w) (n:Region.wanted o (yielded ops l.toArray)=true) (hy:∀w,S w->(execOp (Act.eval { tmps:=l.toArray,defers:=[] }) o).run prog w=.ok (.value v) w) (d:S w) (j:l.set b v=l') (f:lb.set i true=lb') (c:wpAnyH prog md ops Q S fuel lb'.toArray { tmps:=l'.toArray,defers:=[] } w):wpAnyH prog md ops Q S (fuel+1) lb.toArray { tmps:=l.toArray,defers:=[] } w :=
 kgJ (a:={ tmps:=l.toArray,defers:=[] }) b hi g m h k e n hy d (by
  rw[Yw,Yw,j,f];exact c)
theorem kh8 {i fuel:Nat}{w:Tw}(b:Tmp)(hi:ops[i]? = some o)(g:o.dst=some b)(m:Region.noSelect ops=true)(h:Region.free md ops lb.toArray i=true)(k:(Region.ready md ops lb.toArray).contains i=true)
 (e:∀d (c:Act) (f:Ta) w,Q (.panic d) { tmps:=f,defers:=c.defers } w->Q (.panic d) c w) (n:Region.wanted o (yielded ops l.toArray)=false) (d:S w) (j:l.set b undef=l') (f:lb.set i true=lb') (c:wpAnyH prog md ops Q S fuel lb'.toArray { tmps:=l'.toArray,defers:=[] } w):wpAnyH prog md ops Q S (fuel+1) lb.toArray { tmps:=l.toArray,defers:=[] } w :=
 kgK (a:={ tmps:=l.toArray,defers:=[] }) b hi g m h k e n d (by
  rw[Yw,Yw,j,f];exact c)
theorem tkL {fuel:Nat}{w:Tw}(i:Nat)(a:Tmp)(v:Value)(f:S w)(b:wpAnyH prog md ops Q S fuel lb'.toArray { tmps:=l'.toArray,defers:=[] } w)
 (hi:ops[i]? = some o:=by exact rfl) (hy:∀w,S w->(execOp (Act.eval { tmps:=l.toArray,defers:=[] }) o).run prog w=.ok (.value v) w:=by intro _ _;first | rfl | simp[execOp,go_sem, *]) (g:o.dst=some a:=by exact rfl) (k:Region.noSelect ops=true:=by kernel_rfl) (h:Region.free md ops lb.toArray i=true:=by kernel_rfl) (j:(Region.ready md ops lb.toArray).contains i=true:=by kernel_rfl)
 (e:∀d (c:Act) (m:Ta) w,Q (.panic d) { tmps:=m,defers:=c.defers } w->Q (.panic d) c w:=by exact fun _ _ _ _ b=>b) (m:Region.wanted o (yielded ops l.toArray)=true:=by rfl) (d:l.set a v=l':=by(first | simp only[Ya,Yb] | skip);rfl) (c:lb.set i true=lb':=by(first | simp only[Ya,Yb] | skip);rfl):wpAnyH prog md ops Q S (fuel+1) lb.toArray { tmps:=l.toArray,defers:=[] } w :=
 khi a hi g k h j e m hy f d c b
theorem skL {fuel:Nat}{w:Tw}(i:Nat)(a:Tmp)(f:S w)(b:wpAnyH prog md ops Q S fuel lb'.toArray { tmps:=l'.toArray,defers:=[] } w)
 (hi:ops[i]? = some o:=by exact rfl) (g:o.dst=some a:=by exact rfl) (k:Region.noSelect ops=true:=by kernel_rfl) (h:Region.free md ops lb.toArray i=true:=by kernel_rfl) (j:(Region.ready md ops lb.toArray).contains i=true:=by kernel_rfl)
 (e:∀d (c:Act) (m:Ta) w,Q (.panic d) { tmps:=m,defers:=c.defers } w->Q (.panic d) c w:=by exact fun _ _ _ _ b=>b) (m:Region.wanted o (yielded ops l.toArray)=false:=by rfl) (d:l.set a undef=l':=by(first | simp only[Ya,Yb] | skip);rfl) (c:lb.set i true=lb':=by(first | simp only[Ya,Yb] | skip);rfl):wpAnyH prog md ops Q S (fuel+1) lb.toArray { tmps:=l.toArray,defers:=[] } w :=
 kh8 a hi g k h j e m f d c b
theorem kaS {n i fuel:Nat}{v:Value}{w:Tw}(c:l.set n v=l')(b:lb.set i true=lb')(a:wpAnyH prog md ops Q S fuel lb'.toArray { tmps:=l'.toArray,defers:=[] } w):wpAnyH prog md ops Q S fuel (lb.toArray.setIfInBounds i true) { tmps:=l.toArray.setIfInBounds n v,defers:=[] } w:=by
 rw[Yw,Yw,c,b];exact a
end
section
variable {md:Region.Mode} {ops:Array Oper} {Q:Exit->Act->Tw->Prop} {S:Tw->Prop} {o:Oper} {l l':Tl} {lb lb':List Bool} {d:Tmp} {v:Value}
theorem tkA {fuel:Nat}{w:Tw}(i:Nat)(b:S w)(a:wpAnyH prog md ops Q S fuel lb'.toArray { tmps:=l'.toArray,defers:=[] } w)
 (hi:ops[i]? = some o:=by exact rfl) (g:o.dst=some d:=by exact rfl) (k:Region.noSelect ops=true:=by kernel_rfl) (h:Region.free md ops lb.toArray i=true:=by kernel_rfl) (j:(Region.ready md ops lb.toArray).contains i=true:=by kernel_rfl)
 (f:∀e (c:Act) (m:Ta) w,Q (.panic e) { tmps:=m,defers:=c.defers } w->Q (.panic e) c w:=by exact fun _ _ _ _ a=>a) (m:Region.wanted o (yielded ops l.toArray)=true:=by rfl)
 (hy:∀w,S w->(execOp (Act.eval { tmps:=l.toArray,defers:=[] }) o).run prog w=.ok (.value v) w:=by intro w b;first | (simp[execOp,go_sem,b, *] <;> rfl) | rfl)
 (e:l.set d v=l':=by(first | simp only[Ya,Yb] | skip);rfl) (c:lb.set i true=lb':=by(first | simp only[Ya,Yb] | skip);rfl):wpAnyH prog md ops Q S (fuel+1) lb.toArray { tmps:=l.toArray,defers:=[] } w :=
 khi d hi g k h j f m hy b e c a
end
