import Derived.Test.YtmdjbldpclbkhaaGreatDoorW02
import Derived.Lib.ItoaLen
import Derived.Lib.ParseIntBTie
set_option linter.all false
set_option maxRecDepth 100000
set_option maxHeartbeats 0
namespace Go.Proofs.YtmdjbldpclbkhaaGreatDoor
open Value renaming slice->Sl,string->St,bool->Bo
open Obj renaming cells->Cl
open Ending renaming returned->Rt
section
def kaf:List Nat->Nat
 | []=>0
 | d :: r=>d+10*kaf r
def Dig (l:List Nat):Prop:=∀d,d∈l->d<10
def kab (n:Nat):List Nat:=if _h:n=0 then [] else n % 10 :: kab (n / 10)
 termination_by n
 decreasing_by omega
def qcr:kab 0=[]:=by simp[kab]
def qh8 {n:Nat}(a:n≠0):kab n=n % 10 :: kab (n / 10):=by grind[kab]
theorem qcv (n:Nat):kaf (kab n)=n:=by induction n using Nat.strongRecOn <;> grind[kaf,kab]
theorem qh5 (n:Nat):Dig (kab n):=by induction n using Nat.strongRecOn <;> grind[Dig,kab]
def qh7 {n:Nat}:kab n=[] ↔ n=0:=by grind[kab]
def q65 (l m:List Nat):kaf (l++m)=kaf l+10 ^ l.length*kaf m:=by induction l <;> grind[kaf]
theorem qcw (l:List Nat)(a:Nat):kaf (l++[a])=kaf l+10 ^ l.length*a:=by simp[kaf,q65]
def Dig.tail {n:Nat}{l:List Nat}(b:Dig (n :: l)):Dig l:=λa c=>b a (List.mem_cons_of_mem _ c)
def Dig.head {n:Nat}{l:List Nat}(a:Dig (n :: l)):n<10:=a n (List.mem_cons_self ..)
def Dig.snoc {l:List Nat}{n:Nat}(c:Dig l)(d:n<10):Dig (l++[n]):=λb a=>by rcases List.mem_append.1 a with a | a;{exact c b a};rw[List.mem_singleton.1 a];exact d
def Dig.take {l:List Nat}(b:Dig l)(k:Nat):Dig (l.take k):=λa c=>b a (List.mem_of_mem_take c)
theorem qnl {l:List Nat}(a:Dig l):kaf l<10 ^ l.length:=by induction l with|nil=>simp[kaf]|cons c d b=>have:=b a.tail;have:=a.head;rw[kaf,List.length_cons,Nat.pow_succ];omega
theorem kbT {l:List Nat}(b:Dig l):∀a,l.getD a 0=kaf l / 10 ^ a % 10:=by induction l with|nil=>intro a;simp[kaf]|cons d c f=>intro a;have g:=b.head;cases a with|zero=>simp[kaf];omega|succ a=>have e:kaf (d :: c) / 10 ^ (a+1)=kaf c / 10 ^ a:=(by rw[kaf,Nat.pow_succ,Nat.mul_comm (10 ^ a) 10,<- Nat.div_div_eq_div_mul];congr 1;omega);rw[e,<- f b.tail a];simp
def q0b {l:List Nat}(d:Dig l)(f:l=[]∨l.getD (l.length - 1) 0≠0):kab (kaf l)=l:=by induction l with|nil=>simp[kaf,qcr]|cons b a j=>have k:=d.head;have i:a=[]∨a.getD (a.length - 1) 0≠0:=(by cases a with|nil=>exact .inl rfl|cons c e=>exact .inr (by simpa using f));have e:=j d.tail i;have h:kaf (b :: a)≠0:=(by intro g;have c:b=0/\kaf a=0:=(by rw[kaf]at g;omega);have:a=[]:=(by rw[<- e,c.2,qcr]);subst this;simp[c.1]at f);rw[qh8 h,kaf,show(b+10*kaf a) % 10=b by omega,show(b+10*kaf a) / 10=kaf a by omega,e]
def qsi {l:List Nat}(f:Dig l){k:Nat}(o:k<=l.length)(j:∀a,k<=a->a<l.length->l.getD a 0=0)(h:k=0∨l.getD (k - 1) 0≠0):l.take k=kab (kaf l):=by have i:kaf l=kaf (l.take k):=(by (conv=>lhs;rw[<- List.take_append_drop k l]);rw[q65];have:∀c:List Nat,(∀a,a<c.length->c.getD a 0=0)->kaf c=0:=(by intro c;induction c with|nil=>intro _;rfl|cons n p m=>intro e;have b:=e 0 fT;have g:=m (λa d=>by have:=e (a+1) gO;simpa using this);simp at b;rw[kaf,b,g]);rw[this (l.drop k) (λa d=>by have c:k+a<l.length:=(by simp at d;omega);have:=j (k+a) fP c;simpa [List.getD,List.getElem?_drop] using this)];simp);rw[i,q0b (f.take k)];rcases h with b | b;{left;subst b;simp};by_cases a:k=0;{left;subst a;simp};right;have:(l.take k).length=k:=f9;rw[this];simpa [List.getD,List.getElem?_take,show k - 1<k by omega] using b
def q1p {n k:Nat}(a:n<10 ^ k):(kab n).length<=k:=by induction k generalizing n <;> grind[kab]
def qpp (n:Nat):n<10 ^ (kab n).length:=by grind[kab,qnl,qh5,qcv]
def qnc (n i:Nat):(kab n).getD i 0=n / 10 ^ i % 10:=by rw[kbT (qh5 n),qcv]
def qnd {n:Nat}(c:n≠0):10 ^ ((kab n).length - 1)<=n:=by induction n using Nat.strongRecOn with|_ n ih=>rw[qh8 c,List.length_cons,Nat.add_sub_cancel];by_cases a:n / 10=0;{rw[a,qcr];simp;omega};have:=ih (n / 10) fP a;have e:(kab (n / 10)).length≠0:=(by intro b;exact a (qh7.1 (List.length_eq_zero_iff.1 b)));obtain⟨b,d⟩:∃b,(kab (n / 10)).length=b+1:=⟨(kab (n / 10)).length - 1,fP⟩;rw[d]at this⊢;simp only[Nat.add_sub_cancel]at this;rw[Nat.pow_succ];omega
def q61 {m n:Nat}(b:(kab m).length<(kab n).length):m<n:=by have d:=qpp m;have c:n≠0:=(by intro a;subst a;simp[qcr]at b);have e:=qnd c;have f:10 ^ (kab m).length<=10 ^ ((kab n).length - 1):=Nat.pow_le_pow_right fS fP;omega
def qh9 (n i:Nat):n / 10 ^ i=10*(n / 10 ^ (i+1))+n / 10 ^ i % 10:=by rw[Nat.pow_succ,<- Nat.div_div_eq_div_mul];omega
def qj7 (n i:Nat):n % 10 ^ (i+1)=n % 10 ^ i+10 ^ i*(n / 10 ^ i % 10):=by rw[Nat.pow_succ,Nat.mod_mul]
def qcs {m n p:Nat}(b:m / p<n / p):m<n:=by rcases Nat.lt_or_ge m n with a | a;{exact a};exact absurd (Nat.div_le_div_right (c:=p) a) fP
def qgh {L p c s n B x y:Nat}(e:L+c*p=n+B)(a:s=x+y+c):(L+p*(s % 10))+(s / 10)*(p*10)=(n+p*x)+(B+p*y):=by have b:p*(s % 10)+(s / 10)*(p*10)=p*s:=(by rw[Nat.mul_comm (s / 10),Nat.mul_assoc,<- Nat.mul_add,Nat.mod_add_div]);have d:p*s=p*x+p*y+c*p:=(by rw[a,Nat.mul_add,Nat.mul_add,Nat.mul_comm c p]);omega
def qlf {L p c n B x y:Nat}(d:n+c*p=L+B)(e:c<=1)(f:x<10)(hy:y<10):∃b a,a<=1/\b<10/\(x+10*a=y+c+b)/\(a=1 ↔ x<y+c)/\(n+p*x)+a*(p*10)=(L+p*b)+(B+p*y):=by by_cases b:x<y+c;{refine⟨x+10 - y - c,1,fP,fP,fP,fP,?_⟩;have a:p*x+p*10=p*(x+10 - y - c)+p*y+p*c:=(by rw[<- Nat.mul_add,<- Nat.mul_add,<- Nat.mul_add];congr 1;omega);rw[Nat.mul_comm c p]at d;omega};refine⟨x - y - c,0,fP,fP,fP,fP,?_⟩;have a:p*x=p*(x - y - c)+p*y+p*c:=(by rw[<- Nat.mul_add,<- Nat.mul_add];congr 1;omega);rw[Nat.mul_comm c p]at d;omega
def q1o {n:Nat}(b:n≠0):Lib.decDigits n=(kab n).reverse.map λa=>UInt8.ofNat (48+a):=by induction n using Nat.strongRecOn with|_ n ih=>rw[qh8 b,Lib.decDigits];by_cases a:n<10;{rw[dif_pos a,show n / 10=0 by omega,qcr,Nat.mod_eq_of_lt a];simp};rw[dif_neg a,ih (n / 10) fP fP];simp
end
section
open Go.Lib
def kbM (acc:Nat):List Nat->Nat
 | []=>acc
 | d :: r=>kbM (acc*10+d) r
def qoc (l:List Nat):∀a,a<=kbM a l:=by induction l <;> grind[kbM]
def q6e (l m:List Nat):∀a,kbM a (l++m)=kbM (kbM a l) m:=by induction l <;> grind[kbM]
def kcG (l:List Nat):List UInt8:=l.map λd=>UInt8.ofNat (48+d)
def qav (l:List Nat):∀(b:Nat),(∀a,a∈l->a<10)->kbM b l<18446744073709551616->parseUintM 18446744073709551615 b (kcG l)=.ok (kbM b l):=by induction l with|nil=>intro b _ _;rfl|cons a f h=>intro b d e;have i:a<10:=d a (List.mem_cons_self ..);have j:=qoc f (b*10+a);rw[kbM]at e⊢;have c:(UInt8.ofNat (48+a)).toNat=48+a:=(by rw[UInt8.toNat_ofNat'];omega);show parseUintM _ b (UInt8.ofNat (48+a) :: kcG f)=_;rw[parseUintM,c,if_pos fP,if_neg fP,if_neg fP,show 48+a - 48=a by omega];exact h _ (λc g=>d c (List.mem_cons_of_mem _ g)) e
def kbw (n:Nat):List Nat:=if _h:n<10 then [n] else kbw (n / 10)++[n % 10]
 termination_by n
 decreasing_by omega
def qoa (n:Nat):kbM 0 (kbw n)=n/\(∀b,b∈kbw n->b<10)/\decDigits n=kcG (kbw n)/\kbw n≠[]:=by induction n using Nat.strongRecOn with|_ n ih=>by_cases c:n<10;{rw[kbw,dif_pos c,decDigits,dif_pos c];refine⟨by simp[kbM],λb a=>?_,rfl,fT⟩;rw[List.mem_singleton.1 a];exact c};obtain⟨d,e,f,-⟩:=ih (n / 10) fP;rw[kbw,dif_neg c,decDigits,dif_neg c];refine⟨?_,λb a=>?_,?_,fT⟩;{rw[q6e,d];simp only[kbM];omega};{rcases List.mem_append.1 a with a | a;{exact e b a};rw[List.mem_singleton.1 a];omega};rw[f];simp[kcG]
def kfn (n:Nat):decDigits n≠[]:=by simp[kcG,qoa]
def qh4 (n:Nat):∃a b,decDigits n=a :: b/\48<=a.toNat/\a.toNat<=57:=by obtain⟨-,c,a,d⟩:=qoa n;match e:kbw n with|[]=>exact absurd e d|x :: b=>rw[a,e];have f:=c x (by rw[e];exact List.mem_cons_self ..);refine⟨UInt8.ofNat (48+x),kcG b,rfl,?_⟩;have:(UInt8.ofNat (48+x)).toNat=48+x:=(by rw[UInt8.toNat_ofNat'];omega);omega
def qev {n:Nat}(d:n<18446744073709551616):parseUintB 64 (decDigits n)=.ok n:=by obtain⟨a,b,c,-⟩:=qoa n;have:=qav (kbw n) 0 b (by rw[a];exact d);rw[parseUintB,if_neg (kfn n),show 2 ^ 64 - 1=18446744073709551615 from rfl,c,this,a]
theorem qaw {n:Int}(d:-9223372036854775808<=n)(e:n<=9223372036854775807):parseIntB 64 (itoa n)=.ok n:=by have b:2 ^ (64 - 1)=9223372036854775808:=rfl;unfold itoa;split;{have:=qev (n:=n.natAbs) fP;simp only[parseIntB,b];rw[if_pos (Or.inr fS),this];have a:(45:UInt8).toNat=45:=rfl;simp only[a,not_true_eq_false,false_and,if_false,true_and];rw[if_neg fP,if_pos trivial,show -(n.natAbs:Int)=n by omega]};have:=qev (n:=n.toNat) fP;obtain⟨c,h,a,f,g⟩:=qh4 n.toNat;rw[a]at this⊢;simp only[parseIntB,b];rw[if_neg fP,this];have:¬ c.toNat=45:=fP;simp only[this,not_false_eq_true,false_and,if_false,true_and];rw[if_neg fP,show(n.toNat:Int)=n by omega]
def I64 (n:Int):Prop:=-9223372036854775808<=n/\n<=9223372036854775807
def kaR (l:List UInt8):Option Int:=match parseIntB 64 l with
 | .ok n=>if itoa n=l then some n else none
 | _=>none
def q54 {n:Int}(a:I64 n):kaR (itoa n)=some n:=by grind[kaR,I64,qaw]
def q55 {l:List UInt8}(h:∀n,I64 n->itoa n≠l):kaR l=none:=by unfold kaR;split;{rename_i n hn;split;{rename_i e;have hb:=parseIntB_bounds hn;exact absurd e (h n (by have:(2:Nat) ^ (64 - 1)=9223372036854775808:=rfl;unfold I64;omega))};rfl};rfl
end
section
open Go Go.RowKit Go.Proofs.Tryz
def ui (l:List Nat):Tl:=l.map λu=>.int .i64 ((u:Nat):Int)
def q48 {w:Tw}{base n:Nat}{e:TypeId}{v:Value}{us:List Nat}(c:w.ownsRow base e 1 v n (ui us)):∃a b,v=Sl a n b/\kbJ w a n (λa=>((us.getD a 0:Nat):Int)):=by have k:us.length=n:=(by have:=c.1;simpa [ui] using this);rcases c.2 with ⟨rfl,rfl⟩ | ⟨f,b,h,rfl,i,g,j,-,l,m⟩;{exact⟨none,0,rfl,λa d=>absurd d (nL _)⟩};refine⟨_,b,rfl,λa d=>⟨f,0,rfl,(Y4.1 g).1,?_⟩⟩;have:=c.cellAt a fP;rw[Zu,this];simp[ui,List.getD,List.getElem?_eq_getElem (show a<us.length by omega)]
def qao {w:Tw}{base size n q:Nat}{e:TypeId}{v:Value}{x:Tl}(b:w.ownsRow base e size v n x)(a:v.ownBlock=some q):base<=q:=by rcases b.2 with ⟨rfl,-⟩ | ⟨f,c,d,rfl,g,-⟩;{simp[Value.ownBlock]at a};simp only[Value.ownBlock,Ob]at a;omega
def qet (w:Tw)(t:TypeId):(w.alloc (Cl #[] t)).ownsRow w.1.size t 1 (Sl (some ⟨w.1.size,0,none⟩) 0 0) 0 [] :=
 ⟨rfl,.inr ⟨w.1.size,0,#[],rfl,nR _,heap_alloc_new w (Cl #[] t),nR _,nZ _,rfl,rfl⟩⟩
def kbH:(prog.info? 3).map (λa=>(a.zero,a.size,a.bytes))=some (some (Yf 0),1,8):=by kernel_rfl
def qgv (w:Tw)(t:TypeId)(v:Value):∀(b:Nat) (a:Value),[v][b]? = some a->(w.alloc (Cl #[v] t)).cell? ((⟨w.1.size,0,none⟩:Addr).add b)=some a:=λb a a=>by match b,a with|0,a=>simp at a;subst a;exact(Blk.new w t #[v]).cell 0
def qjt (w:Tw)(t:TypeId)(v:Value):(w.alloc (Cl #[v] t)).ownsRow w.1.size t 1 (Sl (some ⟨w.1.size,0,none⟩) 1 1) 1 [v] :=
 ⟨rfl,.inr ⟨w.1.size,1,#[v],rfl,nR _,heap_alloc_new w (Cl #[v] t),nR _,by unfold maxLen;omega,rfl,rfl⟩⟩
def kbn (w:Tw)(v:Value)(l:List Nat):Prop:=∃a cap,v=Sl a l.length cap/\l.length<=cap/\(a=none->cap=0)/\kbJ w a l.length (λk=>((l.getD k 0:Nat):Int))
def kbn.mono {w w':Tw}{v:Value}{l:List Nat}(d:kbn w v l)(e:Bw w w'):kbn w' v l:=by obtain⟨a,b,c,f,h,g⟩:=d;exact⟨a,b,c,f,h,g.mono e⟩
def q3y {w:Tw}{base:Nat}{e:TypeId}{v:Value}{us:List Nat}(a:w.ownsRow base e 1 v us.length (ui us)):kbn w v us:=by rcases a.2 with ⟨rfl,c⟩ | ⟨j,g,i,rfl,k,m,l,-,n,o⟩;{exact⟨none,0,by rw[c],fP,λ_=>rfl,λb b=>absurd b fP⟩};obtain⟨f,h,b,d⟩:=q48 a;simp only[Value.slice.injEq]at b;obtain⟨rfl,-,rfl⟩:=b;exact⟨_,_,rfl,fP,(λa=>by cases a),d⟩
def qas {w:Tw}{base n b:Nat}{e:TypeId}{v:Value}{x:Tl}(a:w.ownsRow base e 1 v n x)(r:b<base)(j:Nat)(d:Value):(w.setCell ⟨b,j,none⟩ d).ownsRow base e 1 v n x:=by rcases a.2 with i | ⟨c,f,g,h,k,m,l,q,o,p⟩;{exact⟨a.1,.inl i⟩};exact⟨a.1,.inr ⟨c,f,g,h,k,(heap_setCell_other w ⟨b,j,none⟩ c d f9).trans m,l,q,o,p⟩⟩
def qlo (y:Int):(y.tmod 10<0->-(y.tmod 10)=((y.natAbs % 10:Nat):Int))/\(¬ y.tmod 10<0->y.tmod 10=((y.natAbs % 10:Nat):Int)):=by grind
def qlm (y:Int):(y.tdiv 10).natAbs=y.natAbs / 10:=by grind
def q2x (x:Int)(w:Tw)(a:-9223372036854775808<=x)(b:x<=9223372036854775807):Calls prog 125 #[Yf x] w λj h=>∃d,j=Rt (.agg #[Bo (decide (x<0)),d])/\kbn h d (kab x.natAbs)/\Bw w h:=by have D:=h_ (And.intro a b);clear a b;go_enter func125,ntmps125;go_wp2;have e:Hi (((w.alloc (Cl Js 200)).alloc (Cl #[] 3)).ownsRow (w.alloc (Cl Js 200)).1.size 3 1 (Sl (some ⟨(w.alloc (Cl Js 200)).1.size,0,none⟩) 0 0) 0 []):=qet _ _;have b:Hi (Below (w.1.size+1) (w.alloc (Cl Js 200)) ((w.alloc (Cl Js 200)).alloc (Cl #[] 3))):=(bR _ _).alloc fT _;have k:Hi (Bw w (w.alloc (Cl Js 200))):=(bR _ _).alloc (nR _) _;have l:=h_ (Blk.new w 200 Js);have K:(w.alloc (Cl Js 200)).1.size=w.1.size+1:=fT;rw[K]at e;generalize (w.alloc (Cl Js 200))=J at *;go_loopw [0,3] (λf d wr=>∃(a:Int) (c:List Nat),f=Yf a/\-9223372036854775808<=a/\a<=9223372036854775807/\c++kab a.natAbs=kab x.natAbs/\wr.ownsRow (w.1.size+1) 3 1 d c.length (ui c)/\Below (w.1.size+1) J wr) (λf _ _=>(intOf f).natAbs);exact⟨x,[],rfl,D.1,D.2,rfl,e,b⟩;clear e b;obtain⟨a,c,rfl,f,m,g,e,d⟩:=hrel;have N:c.length+(kab a.natAbs).length<=19:=(by have i:=congrArg List.length g;have o:(kab x.natAbs).length<=19:=q1p (by have:=D.u;omega);simp at i;omega);have i:=h_ (And.intro f m);clear f m;obtain⟨r,f,b⟩:=oC g e d;clear g e d;by_cases L:a=0;{subst L;have g:=r.u;simp only[Int.natAbs_zero,qcr,Zv]at g;subst g;have d:=l.mono b (Gr _);have e:=h_ (k.trans (b.mono fP));have m:=d.cell 0;have o:=d.cell 1;have p:=d.free 0;have q:=d.free 1;simp only[Y3,Yp]at m o;clear d r b l k;obtain⟨d,c3,rfl,-⟩:=q48 f;go_wp2;refine bQ (v:=.agg #[Bo (decide (x<0)),Sl d (kab x.natAbs).length c3]) ⟨_,rfl,?_,?_⟩;{exact q3y (qas (qas f (Gr _) _ _) (Gr _) _ _)};exact(e.setCell fT _).setCell fT _};obtain⟨F,G⟩:=qlo a;have t:=qlm a;have y:=qh8 (n:=a.natAbs) fP;have s:Hi (wrap64 (a.tdiv 10)=a.tdiv 10):=(by have:=i.u;rw[Hi];unfold wrap64;omega);by_cases I:a.tmod 10<0;{have e:wrap64 (-(a.tmod 10))=((a.natAbs % 10:Nat):Int):=(by have:=F I;unfold wrap64;omega);obtain⟨d,B,A⟩:=oC t y e;clear t y e F G;obtain⟨E,m,o,p,q⟩:=info_parts kbH;go_wp2_with (at_builtin;refine wpList_append_own _ rfl _ _ 34 rfl (w.1.size+1) 3 E _ 1 8 underlying34 m o p q rfl fP u3 _ _ rfl (f.alloc _) ⟨wr.1.size,0,none⟩ 1 1 [Yf (wrap64 (-(a.tmod 10)))] rfl rfl (qgv wr 3 _) fU fZ fP gy ?_);intro H h e l _;have k:=(b.alloc (by have:=b.size;omega) (Cl #[Yf (wrap64 (-(a.tmod 10)))] 3)).grown l gy (λM j=>qao f j);have C:Hi (h.ownsRow (w.1.size+1) 3 1 H (c++[a.natAbs % 10]).length (ui (c++[a.natAbs % 10]))):=(by rw[Hi];rw[A.u]at e;simpa [ui] using e);have z:=h_ k;clear e l k m o p q;go_wp2;go_roundw;{refine⟨a.tdiv 10,c++[a.natAbs % 10],congrArg _ s,?_,?_,?_,C,z⟩;{have:=i.u;have:=d.u;omega};{have:=i.u;have:=d.u;omega};rw[d.u,Vc,List.singleton_append,<- B.u];exact r};simp only[intOf];rw[s.u];have:=d.u;omega};obtain⟨d,B,A⟩:=oC t y (G I);clear t y F G;obtain⟨E,m,o,p,q⟩:=info_parts kbH;go_wp2_with (at_builtin;refine wpList_append_own _ rfl _ _ 34 rfl (w.1.size+1) 3 E _ 1 8 underlying34 m o p q rfl fP u3 _ _ rfl (f.alloc _) ⟨wr.1.size,0,none⟩ 1 1 [Yf (a.tmod 10)] rfl rfl (qgv wr 3 _) fU fZ fP gy ?_);intro H h e l _;have k:=(b.alloc (by have:=b.size;omega) (Cl #[Yf (a.tmod 10)] 3)).grown l gy (λM j=>qao f j);have C:Hi (h.ownsRow (w.1.size+1) 3 1 H (c++[a.natAbs % 10]).length (ui (c++[a.natAbs % 10]))):=(by rw[Hi];rw[A.u]at e;simpa [ui] using e);have z:=h_ k;clear e l k m o p q;go_wp2;go_roundw;{refine⟨a.tdiv 10,c++[a.natAbs % 10],congrArg _ s,?_,?_,?_,C,z⟩;{have:=i.u;have:=d.u;omega};{have:=i.u;have:=d.u;omega};rw[d.u,Vc,List.singleton_append,<- B.u];exact r};simp only[intOf];rw[s.u];have:=d.u;omega
def q60:∀a:Fin 10,(⟨#[48,49,50,51,52,53,54,55,56,57]⟩:Tb).extract a.val (a.val+1)=⟨#[UInt8.ofNat (48+a.val)]⟩:=by decide +kernel
def qf7 (a:Nat)(b:a<10)(w:Tw):(Instr.slice 9 (St ⟨#[48,49,50,51,52,53,54,55,56,57]⟩) (some (Yf (a:Int))) (some (Yf ((a:Int)+1))) none).run prog w=.ok (St ⟨#[UInt8.ofNat (48+a)]⟩) w:=by rw[run_slice_string w 9 _ .i64 .i64 _ _ underlying9 fP fP (by show(a:Int)+1<=10;omega),show((a:Int)).toNat=a by omega,show((a:Int)+1).toNat=a+1 by omega,q60 ⟨a,b⟩]
def qbf {a b:Tb}(c:a.data.toList=b.data.toList):a=b:=by obtain⟨⟨d⟩⟩:=a;obtain⟨⟨e⟩⟩:=b;simp at c;rw[c]
def qfz {l:List Nat}{k n:Nat}(b:k<l.length)(a:l.getD k 0=n):l.take (k+1)=l.take k++[n]:=by rw[O0,Yn b];simp[List.getD,List.getElem?_eq_getElem b]at a;simp[a]
def kgk (a:Nat):48+UInt8.ofNat a=UInt8.ofNat (48+a):=by simp
def qds:Lib.itoa 0=[48]:=by rw[Lib.itoa,Y2 fP];exact Lib.decDigits_one (i:=0) fP
def qbe (l m:List UInt8):(⟨l.toArray⟩:Tb)++⟨m.toArray⟩=⟨(l++m).toArray⟩:=by apply qbf;simp[ByteArray.data_append]
def q2w (x:Int)(w:Tw)(j:-9223372036854775808<=x)(k:x<=9223372036854775807):Gv 84 #[Yf x] w (St ⟨(Lib.itoa x).toArray⟩):=by go_enter func84,ntmps84;go_wp2_with fail;refine(q2x x _ j k).mono ?_;rintro i c ⟨M,rfl,B,m⟩;have I:(kab x.natAbs).length<=19:=q1p fP;have E:=h_ (And.intro j k);obtain⟨e,f,rfl,G,-,v⟩:=B;have s:Bw w (c.alloc (Cl #[Bo (decide (x<0)),Sl e (kab x.natAbs).length f] 200)):=m.alloc m.size _;have t:=Blk.new c 200 #[Bo (decide (x<0)),Sl e (kab x.natAbs).length f];have y:=v.mono ((bR c.1.size c).alloc (nR _) (Cl #[Bo (decide (x<0)),Sl e (kab x.natAbs).length f] 200));obtain⟨h,D,q⟩:=oC s t y;by_cases C:x=0;{subst C;simp only[Int.natAbs_zero,qcr]at *;go_wp2;go_ret;exact⟨by rw[qds];rfl,h⟩};have J:(kab x.natAbs).length≠0:=(by intro i;have:=qh7.1 (Z2.1 i);omega);go_wp2;go_loopw [4,5] (λd b wr=>∃a:Nat,a<=(kab x.natAbs).length/\b=Yf a/\d=St ⟨(kcG ((kab x.natAbs).take a).reverse).toArray⟩/\wr=c.alloc (Cl #[Bo (decide (x<0)),Sl e (kab x.natAbs).length f] 200)) (λ_ b _=>(kab x.natAbs).length - (intOf b).toNat);exact⟨0,nZ _,rfl,by simp[kcG],rfl⟩;obtain⟨a,H,rfl,rfl,rfl⟩:=hrel;by_cases o:a<(kab x.natAbs).length;{obtain⟨F,L,rfl,-,n⟩:=q a o;obtain⟨g,A,l⟩:∃g,g<10/\(kab x.natAbs).getD a 0=g:=⟨_,by rw[qnc];exact Gl _ fS,rfl⟩;dsimp only at n;rw[l]at n;have K:=qf7 g A;have p:=h_ l;generalize b:kcG ((kab x.natAbs).take a).reverse=d at *;have r:=h_ b;have z:d.length<=19:=(by rw[<- b];simp[kcG];omega);clear b;go_wp2;go_roundw;{refine⟨a+1,fP,fX,?_,trivial⟩;rw[qfz o p.u,List.reverse_append,<- r.u,kgk];exact congrArg _ (qbe [_] _)};simp[intOf];omega};obtain rfl:a=(kab x.natAbs).length:=fP;have l:Lib.itoa x=(if x<0 then [45] else [])++kcG (kab x.natAbs).reverse:=(by unfold Lib.itoa kcG;split;{rw[q1o fP];rfl};rw[show x.toNat=x.natAbs by omega,q1o fP];rfl);have g:=h_ l;clear l;rw[Zp];generalize b:kcG (kab x.natAbs).reverse=d at *;have z:d.length<=19:=(by rw[<- b];simp[kcG];omega);clear b;by_cases l:x<0;{go_wp2;go_ret;refine⟨?_,by have b:=h.u;rw[Ys l]at b;exact b⟩;rw[g.u,Y6 l];exact congrArg (λn=>Ending.returned (St n)) (qbe [45] d)};go_wp2;go_ret;refine⟨?_,by have b:=h.u;rw[Yo fP]at b;exact b⟩;rw[g.u,Y2 fP];rfl
def q1x (op:Int)(w:Tw):Calls prog 289 #[Yf op] w λa b=>a=Rt (Bo (decide (2<=op/\op<=25)))/\b=w:=by by_cases c:2<=op;{by_cases d:op<=25;{rw[Ys ⟨c,d⟩];go_enter func289,ntmps289;go_wp2;go_ret;exact⟨fT,rfl⟩};have a:decide (2<=op/\op<=25)=false:=Yo (λb=>d b.2);rw[a];go_enter func289,ntmps289;go_wp2;go_ret;exact⟨fT,rfl⟩};have a:decide (2<=op/\op<=25)=false:=Yo (λb=>c b.1);rw[a];go_enter func289,ntmps289;go_wp2;go_ret;exact⟨gb,rfl⟩
def opn (op:Int):Int:=if op=2∨op=3∨op=21∨op=22∨op=23∨op=24∨op=25 then 1 else if op=16 then 3 else 2
def kfo (op:Int):ar op=if 2<=op/\op<=25 then opn op else 0:=by grind[ar,opn]
def q2a (op:Int)(w:Tw):Calls prog 290 #[Yf op] w λa b=>a=Rt (Yf (opn op))/\b=w:=by rcases qgo op with (rfl | rfl | rfl | rfl | rfl | rfl | rfl | rfl) | ⟨⟨c,d,e,f⟩,⟨g,h,i,b⟩,-⟩;(case inr=>have a:opn op=2:=(by rw[opn,Y2 fP,Y2 b]);rw[a];go_enter func290,ntmps290;go_wp2;go_ret;exact⟨rfl,rfl⟩);all_goals ( go_enter func290,ntmps290;go_wp2;go_ret;exact⟨rfl,rfl⟩)
