import Derived.Test.YtgojgjlninakjaaGreatDoorW00
import Derived.Lib.ItoaNum
import Derived.Lib.ItoaLen
import Derived.Lib.ParseIntBTie
import Derived.Deep.RegionHeld3
set_option maxRecDepth 100000
set_option maxHeartbeats 64000000
namespace Go.Proofs.YtgojgjlninakjaaGreatDoor
def dval:List Nat->Nat
 | []=>0
 | d :: r=>d+10*dval r
def Dig (l:List Nat):Prop:=∀d,d∈l->d<10
def digs (n:Nat):List Nat:=if _h:n=0 then [] else n % 10 :: digs (n / 10)
 termination_by n
 decreasing_by omega
theorem qc5:digs 0=[]:=by rw[digs];simp
theorem qfx {n:Nat}(h:n≠0):digs n=n % 10 :: digs (n / 10):=by rw[digs,dif_neg h]
theorem qc7 (n:Nat):dval (digs n)=n:=by
 induction n using Nat.strongRecOn with
 | _ n ih =>
  by_cases h:n=0
  . subst h;rw[qc5];rfl
  . rw[qfx h,dval,ih (n / 10) (by omega)];omega
theorem qfu (n:Nat):Dig (digs n):=by
 induction n using Nat.strongRecOn with
 | _ n ih =>
  by_cases h:n=0
  . subst h;rw[qc5];intro d hd;cases hd
  . rw[qfx h];intro d hd
    rcases List.mem_cons.1 hd with rfl | hd
    . omega
    . exact ih (n / 10) (by omega) d hd
theorem qfw {n:Nat}:digs n=[] ↔ n=0:=by
 refine⟨fun h=>?_,fun h=>by rw[h,qc5]⟩
 rw[<- qc7 n,h];rfl
theorem q5n (l m:List Nat):dval (l++m)=dval l+10 ^ l.length*dval m:=by
 induction l with
 | nil=>simp[dval]
 | cons d r ih=>rw[List.cons_append,dval,dval,ih,List.length_cons,Nat.pow_succ,Nat.mul_add,Nat.mul_comm (10 ^ r.length) 10,Nat.mul_assoc,Nat.add_assoc]
theorem qc8 (l:List Nat)(d:Nat):dval (l++[d])=dval l+10 ^ l.length*d:=by rw[q5n];simp[dval]
theorem Dig.tail {d:Nat}{l:List Nat}(h:Dig (d :: l)):Dig l:=fun e he=>h e (List.mem_cons_of_mem _ he)
theorem Dig.head {d:Nat}{l:List Nat}(h:Dig (d :: l)):d<10:=h d (List.mem_cons_self ..)
theorem Dig.snoc {l:List Nat}{d:Nat}(h:Dig l)(hd:d<10):Dig (l++[d]):=fun e he=>by
 rcases List.mem_append.1 he with he | he
 . exact h e he
 . rw[List.mem_singleton.1 he];exact hd
theorem Dig.take {l:List Nat}(h:Dig l)(k:Nat):Dig (l.take k):=fun e he=>h e (List.mem_of_mem_take he)
theorem qkp {l:List Nat}(h:Dig l):dval l<10 ^ l.length:=by
 induction l with
 | nil=>simp[dval]
 | cons d r ih =>
  have:=ih h.tail;have:=h.head;rw[dval,List.length_cons,Nat.pow_succ];omega
theorem dig_at {l:List Nat}(h:Dig l):∀i,l.getD i 0=dval l / 10 ^ i % 10:=by
 induction l with
 | nil=>intro i;simp[dval]
 | cons d r ih =>
  intro i;have hd:=h.head;cases i with
  | zero=>simp[dval];omega
  | succ i =>
   have e:dval (d :: r) / 10 ^ (i+1)=dval r / 10 ^ i:=by
    rw[dval,Nat.pow_succ,Nat.mul_comm (10 ^ i) 10,<- Nat.div_div_eq_div_mul]
    congr 1;omega
   rw[e,<- ih h.tail i];simp
theorem q0b {l:List Nat}(h:Dig l)(hl:l=[]∨l.getD (l.length - 1) 0≠0):digs (dval l)=l:=by
 induction l with
 | nil=>simp[dval,qc5]
 | cons d r ih =>
  have hd:=h.head;have hr:r=[]∨r.getD (r.length - 1) 0≠0:=by
   cases r with
   | nil=>exact .inl rfl
   | cons e s=>exact .inr (by simpa using hl)
  have hi:=ih h.tail hr;have hne:dval (d :: r)≠0:=by
   intro e0;have e0':d=0/\dval r=0:=by rw[dval]at e0;omega
   have:r=[]:=by rw[<- hi,e0'.2,qc5]
   subst this;simp[e0'.1]at hl
  rw[qfx hne,dval,show(d+10*dval r) % 10=d by omega,show(d+10*dval r) / 10=dval r by omega,hi]
theorem qo9 {l:List Nat}(h:Dig l){k:Nat}(hk:k<=l.length)(hz:∀j,k<=j->j<l.length->l.getD j 0=0)(hl:k=0∨l.getD (k - 1) 0≠0):l.take k=digs (dval l):=by
 have hv:dval l=dval (l.take k):=by
  conv=>lhs;rw[<- List.take_append_drop k l]
  rw[q5n];have:∀m:List Nat,(∀j,j<m.length->m.getD j 0=0)->dval m=0:=by
   intro m
   induction m with
   | nil=>intro _;rfl
   | cons d r ih =>
    intro hm;have h0:=hm 0 (by simp);have h1:=ih (fun j hj=>by have:=hm (j+1) (by simpa using hj);simpa using this);simp at h0;rw[dval,h0,h1]
  rw[this (l.drop k) (fun j hj=>by
   have hj':k+j<l.length:=by simp at hj;omega
   have:=hz (k+j) (by omega) hj';simpa [List.getD,List.getElem?_drop] using this)]
  simp
 rw[hv,q0b (h.take k)]
 rcases hl with h0 | h0
 . left;subst h0;simp
 . by_cases hk0:k=0
   . left;subst hk0;simp
   . right
     have:(l.take k).length=k:=(by simp;omega);rw[this];simpa [List.getD,List.getElem?_take,show k - 1<k by omega] using h0
theorem q1i {n k:Nat}(h:n<10 ^ k):(digs n).length<=k:=by
 induction k generalizing n with
 | zero=>have:n=0:=(by simpa using h);subst this;simp[qc5]
 | succ k ih =>
  by_cases h0:n=0
  . subst h0;simp[qc5]
  . rw[qfx h0,List.length_cons]
    have:=ih (n:=n / 10) (by rw[Nat.pow_succ]at h;omega);omega
theorem qm9 (n:Nat):n<10 ^ (digs n).length:=by
 have:=qkp (qfu n);rwa [qc7]at this
theorem qkm (n i:Nat):(digs n).getD i 0=n / 10 ^ i % 10:=by rw[dig_at (qfu n),qc7]
theorem qkn {n:Nat}(h:n≠0):10 ^ ((digs n).length - 1)<=n:=by
 induction n using Nat.strongRecOn with
 | _ n ih =>
  rw[qfx h,List.length_cons,Nat.add_sub_cancel];by_cases h':n / 10=0
  . rw[h',qc5];simp;omega
  . have:=ih (n / 10) (by omega) h'
    have hl:(digs (n / 10)).length≠0:=by
     intro e;exact h' (qfw.1 (List.length_eq_zero_iff.1 e))
    obtain⟨m,hm⟩:∃m,(digs (n / 10)).length=m+1:=⟨(digs (n / 10)).length - 1,by omega⟩;rw[hm]at this⊢;simp only[Nat.add_sub_cancel]at this;rw[Nat.pow_succ];omega
theorem q5l {m n:Nat}(h:(digs m).length<(digs n).length):m<n:=by
 have h1:=qm9 m
 have hn:n≠0:=by intro e;subst e;simp[qc5]at h
 have h2:=qkn hn
 have h3:10 ^ (digs m).length<=10 ^ ((digs n).length - 1):=Nat.pow_le_pow_right (by decide) (by omega)
 omega
theorem qfy (n i:Nat):n / 10 ^ i=10*(n / 10 ^ (i+1))+n / 10 ^ i % 10:=by
 rw[Nat.pow_succ,<- Nat.div_div_eq_div_mul];omega
theorem qha (n i:Nat):n % 10 ^ (i+1)=n % 10 ^ i+10 ^ i*(n / 10 ^ i % 10):=by
 rw[Nat.pow_succ,Nat.mod_mul]
theorem qc6 {m n p:Nat}(h:m / p<n / p):m<n:=by
 rcases Nat.lt_or_ge m n with h' | h'
 . exact h'
 . exact absurd (Nat.div_le_div_right (c:=p) h') (by omega)
theorem qfd {L p c s A B x y:Nat}(h:L+c*p=A+B)(hs:s=x+y+c):(L+p*(s % 10))+(s / 10)*(p*10)=(A+p*x)+(B+p*y):=by
 have e:p*(s % 10)+(s / 10)*(p*10)=p*s:=by
  rw[Nat.mul_comm (s / 10),Nat.mul_assoc,<- Nat.mul_add,Nat.mod_add_div]
 have e2:p*s=p*x+p*y+c*p:=by rw[hs,Nat.mul_add,Nat.mul_add,Nat.mul_comm c p]
 omega
theorem qiy {L p c A B x y:Nat}(h:A+c*p=L+B)(hc:c<=1)(hx:x<10)(hy:y<10) :
 ∃d b,b<=1/\d<10/\(x+10*b=y+c+d)/\(b=1 ↔ x<y+c)/\(A+p*x)+b*(p*10)=(L+p*d)+(B+p*y):=by
 by_cases hlt:x<y+c
 . refine⟨x+10 - y - c,1,by omega,by omega,by omega,by omega,?_⟩
   have e:p*x+p*10=p*(x+10 - y - c)+p*y+p*c:=by rw[<- Nat.mul_add,<- Nat.mul_add,<- Nat.mul_add];congr 1;omega
   rw[Nat.mul_comm c p]at h;omega
 . refine⟨x - y - c,0,by omega,by omega,by omega,by omega,?_⟩
   have e:p*x=p*(x - y - c)+p*y+p*c:=by rw[<- Nat.mul_add,<- Nat.mul_add];congr 1;omega
   rw[Nat.mul_comm c p]at h;omega
theorem q1h {n:Nat}(h:n≠0):Lib.decDigits n=(digs n).reverse.map fun d=>UInt8.ofNat (48+d):=by
 induction n using Nat.strongRecOn with
 | _ n ih =>
  rw[qfx h,Lib.decDigits];by_cases h':n<10
  . rw[dif_pos h',show n / 10=0 by omega,qc5,Nat.mod_eq_of_lt h'];simp
  . rw[dif_neg h',ih (n / 10) (by omega) (by omega)];simp
end Go.Proofs.YtgojgjlninakjaaGreatDoor
namespace Go.Proofs.YtgojgjlninakjaaGreatDoor
open Go.Lib
def hval (acc:Nat):List Nat->Nat
 | []=>acc
 | d :: r=>hval (acc*10+d) r
theorem qld (l:List Nat):∀acc,acc<=hval acc l:=by
 induction l with
 | nil=>intro acc;exact Nat.le_refl _
 | cons d r ih=>intro acc;have:=ih (acc*10+d);rw[hval];omega
theorem q5y (l m:List Nat):∀acc,hval acc (l++m)=hval (hval acc l) m:=by
 induction l with
 | nil=>intro acc;rfl
 | cons d r ih=>intro acc;exact ih _
def hdig (l:List Nat):List UInt8:=l.map fun d=>UInt8.ofNat (48+d)
theorem qa4 (l:List Nat):∀(acc:Nat),(∀d,d∈l->d<10)->hval acc l<18446744073709551616->parseUintM 18446744073709551615 acc (hdig l)=.ok (hval acc l):=by
 induction l with
 | nil=>intro acc _ _;rfl
 | cons d r ih =>
  intro acc hd hv;have h0:d<10:=hd d (List.mem_cons_self ..);have hg:=qld r (acc*10+d);rw[hval]at hv⊢;have e:(UInt8.ofNat (48+d)).toNat=48+d:=by rw[UInt8.toNat_ofNat'];omega
  show parseUintM _ acc (UInt8.ofNat (48+d) :: hdig r)=_;rw[parseUintM,e,if_pos (by omega),if_neg (by omega),if_neg (by omega),show 48+d - 48=d by omega];exact ih _ (fun e he=>hd e (List.mem_cons_of_mem _ he)) hv
def hiDigs (n:Nat):List Nat:=if _h:n<10 then [n] else hiDigs (n / 10)++[n % 10]
 termination_by n
 decreasing_by omega
theorem qlb (n:Nat):hval 0 (hiDigs n)=n/\(∀d,d∈hiDigs n->d<10)/\decDigits n=hdig (hiDigs n)/\hiDigs n≠[]:=by
 induction n using Nat.strongRecOn with
 | _ n ih =>
  by_cases h:n<10
  . rw[hiDigs,dif_pos h,decDigits,dif_pos h]
    refine⟨by simp[hval],fun d hd=>?_,rfl,by simp⟩;rw[List.mem_singleton.1 hd];exact h
  . obtain⟨a,b,c,-⟩:=ih (n / 10) (by omega)
    rw[hiDigs,dif_neg h,decDigits,dif_neg h];refine⟨?_,fun d hd=>?_,?_,by simp⟩
    . rw[q5y,a];simp only[hval];omega
    . rcases List.mem_append.1 hd with hd | hd
      . exact b d hd
      . rw[List.mem_singleton.1 hd];omega
    . rw[c];simp[hdig]
theorem dec_ne (n:Nat):decDigits n≠[]:=by
 obtain⟨-,-,c,d⟩:=qlb n
 rw[c];simpa [hdig] using d
theorem qft (n:Nat):∃c r,decDigits n=c :: r/\48<=c.toNat/\c.toNat<=57:=by
 obtain⟨-,b,c,d⟩:=qlb n
 match e:hiDigs n with
 | []=>exact absurd e d
 | x :: r =>
  rw[c,e];have hx:=b x (by rw[e];exact List.mem_cons_self ..);refine⟨UInt8.ofNat (48+x),hdig r,rfl,?_⟩;have:(UInt8.ofNat (48+x)).toNat=48+x:=by rw[UInt8.toNat_ofNat'];omega
  omega
theorem qdy {n:Nat}(h:n<18446744073709551616):parseUintB 64 (decDigits n)=.ok n:=by
 obtain⟨a,b,c,-⟩:=qlb n
 have:=qa4 (hiDigs n) 0 b (by rw[a];exact h)
 rw[parseUintB,if_neg (dec_ne n),show 2 ^ 64 - 1=18446744073709551615 from rfl,c,this,a]
theorem qa5 {n:Int}(h0:-9223372036854775808<=n)(h1:n<=9223372036854775807):parseIntB 64 (itoa n)=.ok n:=by
 have hp:2 ^ (64 - 1)=9223372036854775808:=rfl
 unfold itoa
 split
 . have:=qdy (n:=n.natAbs) (by omega)
   simp only[parseIntB,hp];rw[if_pos (Or.inr (by decide)),this];have e:(45:UInt8).toNat=45:=rfl;simp only[e,not_true_eq_false,false_and,if_false,true_and];rw[if_neg (by omega),if_pos trivial,show -(n.natAbs:Int)=n by omega]
 . have:=qdy (n:=n.toNat) (by omega)
   obtain⟨c,r,e,h48,h57⟩:=qft n.toNat;rw[e]at this⊢;simp only[parseIntB,hp];rw[if_neg (by omega),this];have:¬ c.toNat=45:=by omega
   simp only[this,not_false_eq_true,false_and,if_false,true_and];rw[if_neg (by omega),show(n.toNat:Int)=n by omega]
def I64 (n:Int):Prop:=-9223372036854775808<=n/\n<=9223372036854775807
def readDec (l:List UInt8):Option Int:=match parseIntB 64 l with
 | .ok n=>if itoa n=l then some n else none
 | _=>none
theorem q4o {n:Int}(h:I64 n):readDec (itoa n)=some n:=by
 rw[readDec,qa5 h.1 h.2];simp
theorem q4p {l:List UInt8}(h:∀n,I64 n->itoa n≠l):readDec l=none:=by
 unfold readDec
 split
 . rename_i n hn
   split
   . rename_i e
     have hb:=parseIntB_bounds hn;exact absurd e (h n (by have:(2:Nat) ^ (64 - 1)=9223372036854775808:=rfl;unfold I64;omega))
   . rfl
 . rfl
end Go.Proofs.YtgojgjlninakjaaGreatDoor
namespace Go.Proofs.YtgojgjlninakjaaGreatDoor
open Go Go.RowKit
def ui (l:List Nat):List Value:=l.map fun u=>.int .i64 ((u:Nat):Int)
theorem q3x {w:World}{base:Nat}{e:TypeId}{v:Value}{n:Nat}{us:List Nat}(h:w.ownsRow base e 1 v n (ui us)) :
 ∃a cap,v=.slice a n cap/\Ints w a n (fun k=>((us.getD k 0:Nat):Int)):=by
 have hlen:us.length=n:=by have:=h.1;simpa [ui] using this
 rcases h.2 with ⟨rfl,rfl⟩ | ⟨g,cap,cur,rfl,hb,hg,hc,-,hs,htake⟩
 . exact⟨none,0,rfl,fun k hk=>absurd hk (nL _)⟩
 . refine⟨_,cap,rfl,fun k hk=>⟨g,0,rfl,(Yr.1 hg).1,?_⟩⟩
   have:=h.cellAt k (by omega);rw[Y7,this];simp[ui,List.getD,List.getElem?_eq_getElem (show k<us.length by omega)]
theorem qa0 {w:World}{base:Nat}{e:TypeId}{size:Nat}{v:Value}{n:Nat}{xs:List Value}(h:w.ownsRow base e size v n xs){q:Nat}(hq:v.ownBlock=some q):base<=q:=by
 rcases h.2 with ⟨rfl,-⟩ | ⟨g,cap,cur,rfl,hb,-⟩
 . simp[Value.ownBlock]at hq
 . simp only[Value.ownBlock,Z9]at hq;omega
theorem qdx (w:World)(t:TypeId):(w.alloc (.cells #[] t)).ownsRow w.heap.size t 1 (.slice (some ⟨w.heap.size,0,none⟩) 0 0) 0 [] :=
 ⟨rfl,.inr ⟨w.heap.size,0,#[],rfl,nR _,heap_alloc_new w (.cells #[] t),nR _,nZ _,rfl,rfl⟩⟩
theorem infoI:(Tryz.prog.info? 3).map (fun i=>(i.zero,i.size,i.bytes))=some (some (J6 0),1,8):=by kernel_rfl
theorem qfl (w:World)(t:TypeId)(v:Value):∀(j:Nat) (u:Value),[v][j]? = some u->(w.alloc (.cells #[v] t)).cell? ((⟨w.heap.size,0,none⟩:Addr).add j)=some u:=fun j u h=>by
 match j,h with
 | 0,h=>simp at h;subst h;exact(Blk.new w t #[v]).cell 0
theorem qhq (w:World)(t:TypeId)(v:Value):(w.alloc (.cells #[v] t)).ownsRow w.heap.size t 1 (.slice (some ⟨w.heap.size,0,none⟩) 1 1) 1 [v] :=
 ⟨rfl,.inr ⟨w.heap.size,1,#[v],rfl,nR _,heap_alloc_new w (.cells #[v] t),nR _,by unfold maxLen;omega,rfl,rfl⟩⟩
def DigS (w:World)(v:Value)(l:List Nat):Prop:=∃a cap,v=.slice a l.length cap/\l.length<=cap/\(a=none->cap=0)/\Ints w a l.length (fun k=>((l.getD k 0:Nat):Int))
theorem DigS.mono {w w':World}{v:Value}{l:List Nat}(h:DigS w v l)(hb:Below w.heap.size w w'):DigS w' v l:=by
 obtain⟨a,cap,e,hc,hn,hi⟩:=h
 exact⟨a,cap,e,hc,hn,hi.mono hb⟩
theorem q3j {w:World}{base:Nat}{e:TypeId}{v:Value}{us:List Nat}(h:w.ownsRow base e 1 v us.length (ui us)):DigS w v us:=by
 rcases h.2 with ⟨rfl,h0⟩ | ⟨g,cap,cur,rfl,hb,hg,hc,-,hs,htake⟩
 . exact⟨none,0,by rw[h0],by omega,fun _=>rfl,fun k hk=>absurd hk (by omega)⟩
 . obtain⟨a,cap',e1,hI⟩:=q3x h
   simp only[Value.slice.injEq]at e1;obtain⟨rfl,-,rfl⟩:=e1;exact⟨_,_,rfl,by omega,(fun h=>by cases h),hI⟩
theorem qa2 {w:World}{base:Nat}{e:TypeId}{v:Value}{n:Nat}{xs:List Value}(h:w.ownsRow base e 1 v n xs){b:Nat}(hb:b<base)(j:Nat)(u:Value):(w.setCell ⟨b,j,none⟩ u).ownsRow base e 1 v n xs:=by
 rcases h.2 with h' | ⟨g,cap,cur,e',hb',hg,hc,hx,hs,htake⟩
 . exact⟨h.1,.inl h'⟩
 . exact⟨h.1,.inr ⟨g,cap,cur,e',hb',(heap_setCell_other w ⟨b,j,none⟩ g u (by simp;omega)).trans hg,hc,hx,hs,htake⟩⟩
theorem qj7 (y:Int):(y.tmod 10<0->-(y.tmod 10)=((y.natAbs % 10:Nat):Int))/\(¬ y.tmod 10<0->y.tmod 10=((y.natAbs % 10:Nat):Int)):=by
 have e:∀n:Nat,(n:Int).tmod 10=((n % 10:Nat):Int):=fun n=>(Int.ofNat_tmod n 10).symm
 rcases Int.lt_or_le y 0 with h | h
 . obtain⟨n,rfl⟩:∃n:Nat,y = -(n:Int):=⟨y.natAbs,by omega⟩
   rw[Int.neg_tmod,e,Int.natAbs_neg];simp only[Int.natAbs_natCast];omega
 . obtain⟨n,rfl⟩:∃n:Nat,y=(n:Int):=⟨y.toNat,by omega⟩
   rw[e];simp only[Int.natAbs_natCast];exact⟨fun h=>by omega,fun _=>trivial⟩
theorem qj5 (y:Int):(y.tdiv 10).natAbs=y.natAbs / 10:=by rw[Int.natAbs_tdiv];rfl
theorem q2k (x:Int)(w:World)(h0:-9223372036854775808<=x)(h1:x<=9223372036854775807) :
 Calls Tryz.prog 68 #[J6 x] w fun e w'=>∃v,e=.returned (.agg #[.bool (decide (x<0)),v])/\DigS w' v (digs x.natAbs)/\Below w.heap.size w w':=by
 have HX:=h_ (And.intro h0 h1);clear h0 h1
 go_enter Tryz.func68,Tryz.ntmps68
 go_wp2
 have H0:Hi (((w.alloc (.cells Jl 135)).alloc (.cells #[] 3)).ownsRow (w.alloc (.cells Jl 135)).heap.size 3 1 (.slice (some ⟨(w.alloc (.cells Jl 135)).heap.size,0,none⟩) 0 0) 0 []):=qdx _ _
 have HB:Hi (Below (w.heap.size+1) (w.alloc (.cells Jl 135)) ((w.alloc (.cells Jl 135)).alloc (.cells #[] 3))):=(bR _ _).alloc (by simp) _
 have H1:Hi (Below w.heap.size w (w.alloc (.cells Jl 135))):=(bR _ _).alloc (nR _) _
 have HR:=h_ (Blk.new w 135 Jl)
 have hs:(w.alloc (.cells Jl 135)).heap.size=w.heap.size+1:=by simp
 rw[hs]at H0
 generalize (w.alloc (.cells Jl 135))=W at *
 go_loopw [0,3] (fun xv v wr=>∃(y:Int) (l:List Nat),xv=J6 y/\-9223372036854775808<=y/\y<=9223372036854775807/\l++digs y.natAbs=digs x.natAbs/\wr.ownsRow (w.heap.size+1) 3 1 v l.length (ui l)/\Below (w.heap.size+1) W wr) (fun xv _ _=>(intOf xv).natAbs)
 case atStart=>exact⟨x,[],rfl,HX.u.1,HX.u.2,rfl,H0.u,HB.u⟩
 case round =>
  clear H0 HB;obtain⟨y,l,rfl,y0,y1,hl,hown,hb⟩:=hrel;have hlen:l.length+(digs y.natAbs).length<=19:=by
   have e1:=congrArg List.length hl;have e2:(digs x.natAbs).length<=19:=q1i (by have:=HX.u;omega);simp at e1;omega
  have HY:=h_ (And.intro y0 y1);clear y0 y1;have HL:=h_ hl;have HO:=h_ hown;have HB:=h_ hb;clear hl hown hb;by_cases hy:y=0
  . subst hy
    have hl:=HL.u;simp only[Int.natAbs_zero,qc5,Ou]at hl;subst hl;have hr:=HR.u.mono HB.u (Om _);have HW:=h_ (H1.u.trans (HB.u.mono (by omega)));have r0:=hr.cell 0;have r1:=hr.cell 1;have f0:=hr.free 0;have f1:=hr.free 1;simp only[Y6,Yg]at r0 r1;clear hr HL HB HR H1;obtain⟨a3,c3,rfl,-⟩:=q3x HO.u;go_wp2;refine bodyPost_ret (v:=.agg #[.bool (decide (x<0)),.slice a3 (digs x.natAbs).length c3]) (by simp[results,Tryz.results68,go_sem, *]) rfl ⟨_,rfl,?_,?_⟩
    . exact q3j (qa2 (qa2 HO.u (Om _) _ _) (Om _) _ _)
    . exact(HW.u.setCell (by simp) _).setCell (by simp) _
  . obtain⟨m1,m2⟩:=qj7 y
    have hd:=qj5 y;have hg:=qfx (n:=y.natAbs) (by omega);have HQ:Hi (wrap64 (y.tdiv 10)=y.tdiv 10):=(by have:=HY.u;rw[Hi];unfold wrap64;omega);by_cases hm:y.tmod 10<0
    . have hw:wrap64 (-(y.tmod 10))=((y.natAbs % 10:Nat):Int):=by have:=m1 hm;unfold wrap64;omega
      have HD:=h_ hd;have HG:=h_ hg;have HE:=h_ hw;clear hd hg hw m1 m2;obtain⟨i0,hi,hz0,hz1,hz2⟩:=info_parts infoI;go_wp2_with (at_builtin;refine wpList_append_own _ rfl _ _ 77 rfl (w.heap.size+1) 3 i0 _ 1 8 Tryz.underlying77 hi hz0 hz1 hz2 rfl (by omega) u3 _ _ rfl (HO.u.alloc _) ⟨wr.heap.size,0,none⟩ 1 1 [J6 (wrap64 (-(y.tmod 10)))] rfl rfl (qfl wr 3 _) (by simp[Value.oneCell']) (by unfold maxLen;omega) (by omega) (by have:=HB.u.size;simp;omega) ?_);intro v' w' hown' hgrow' _;have hB':=(HB.u.alloc (by have:=HB.u.size;omega) (.cells #[J6 (wrap64 (-(y.tmod 10)))] 3)).grown hgrow' (by have:=HB.u.size;simp;omega) (fun q' e=>qa0 HO.u e);have HO3:Hi (w'.ownsRow (w.heap.size+1) 3 1 v' (l++[y.natAbs % 10]).length (ui (l++[y.natAbs % 10]))):=by
       rw[Hi];rw[HE.u]at hown';simpa [ui] using hown'
      have HB3:=h_ hB';clear hown' hgrow' hB' hi hz0 hz1 hz2;go_wp2_with fail;go_roundw
      case rel =>
       refine⟨y.tdiv 10,l++[y.natAbs % 10],congrArg _ HQ.u,?_,?_,?_,HO3.u,HB3.u⟩
       . have:=HY.u;have:=HD.u;omega
       . have:=HY.u;have:=HD.u;omega
       . rw[HD.u,Vi,List.singleton_append,<- HG.u];exact HL.u
      case measure=>simp only[intOf];rw[HQ.u];have:=HD.u;omega
    . have HD:=h_ hd;have HG:=h_ hg;have HE:=h_ (m2 hm);clear hd hg m1 m2
      obtain⟨i0,hi,hz0,hz1,hz2⟩:=info_parts infoI;go_wp2_with (at_builtin;refine wpList_append_own _ rfl _ _ 77 rfl (w.heap.size+1) 3 i0 _ 1 8 Tryz.underlying77 hi hz0 hz1 hz2 rfl (by omega) u3 _ _ rfl (HO.u.alloc _) ⟨wr.heap.size,0,none⟩ 1 1 [J6 (y.tmod 10)] rfl rfl (qfl wr 3 _) (by simp[Value.oneCell']) (by unfold maxLen;omega) (by omega) (by have:=HB.u.size;simp;omega) ?_);intro v' w' hown' hgrow' _;have hB':=(HB.u.alloc (by have:=HB.u.size;omega) (.cells #[J6 (y.tmod 10)] 3)).grown hgrow' (by have:=HB.u.size;simp;omega) (fun q' e=>qa0 HO.u e);have HO3:Hi (w'.ownsRow (w.heap.size+1) 3 1 v' (l++[y.natAbs % 10]).length (ui (l++[y.natAbs % 10]))):=by
       rw[Hi];rw[HE.u]at hown';simpa [ui] using hown'
      have HB3:=h_ hB';clear hown' hgrow' hB' hi hz0 hz1 hz2;go_wp2_with fail;go_roundw
      case rel =>
       refine⟨y.tdiv 10,l++[y.natAbs % 10],congrArg _ HQ.u,?_,?_,?_,HO3.u,HB3.u⟩
       . have:=HY.u;have:=HD.u;omega
       . have:=HY.u;have:=HD.u;omega
       . rw[HD.u,Vi,List.singleton_append,<- HG.u];exact HL.u
      case measure=>simp only[intOf];rw[HQ.u];have:=HD.u;omega
theorem q5k:∀d:Fin 10,(⟨#[48,49,50,51,52,53,54,55,56,57]⟩:ByteArray).extract d.val (d.val+1)=⟨#[UInt8.ofNat (48+d.val)]⟩:=by decide +kernel
theorem qe8 (d:Nat)(hd:d<10)(w:World):(Instr.slice 9 (.string ⟨#[48,49,50,51,52,53,54,55,56,57]⟩) (some (J6 (d:Int))) (some (J6 ((d:Int)+1))) none).run Tryz.prog w=.ok (.string ⟨#[UInt8.ofNat (48+d)]⟩) w:=by
 rw[run_slice_string w 9 _ .i64 .i64 _ _ Tryz.underlying9 (by omega) (by omega) (by show(d:Int)+1<=10;omega),show((d:Int)).toNat=d by omega,show((d:Int)+1).toNat=d+1 by omega,q5k ⟨d,hd⟩]
theorem qao {a b:ByteArray}(h:a.data.toList=b.data.toList):a=b:=by
 obtain⟨⟨l⟩⟩:=a;obtain⟨⟨m⟩⟩:=b
 simp at h;rw[h]
theorem qex {l:List Nat}{k d:Nat}(hk:k<l.length)(hd:l.getD k 0=d):l.take (k+1)=l.take k++[d]:=by
 rw[List.take_add_one,Yc hk]
 simp[List.getD,List.getElem?_eq_getElem hk]at hd
 simp[hd]
theorem u8_add (d:Nat):48+UInt8.ofNat d=UInt8.ofNat (48+d):=by simp[UInt8.ofNat_add]
theorem qd1:Lib.itoa 0=[48]:=by rw[Lib.itoa,Yn (by omega)];exact Lib.decDigits_one (i:=0) (by omega)
theorem qan (l m:List UInt8):(⟨l.toArray⟩:ByteArray)++⟨m.toArray⟩=⟨(l++m).toArray⟩:=by
 apply qao;simp[ByteArray.data_append]
theorem q2j (x:Int)(w:World)(h0:-9223372036854775808<=x)(h1:x<=9223372036854775807) :
 Calls Tryz.prog 40 #[J6 x] w fun e w'=>e=.returned (.string ⟨(Lib.itoa x).toArray⟩)/\Below w.heap.size w w':=by
 go_enter Tryz.func40,Tryz.ntmps40
 go_wp2_with fail
 refine(q2k x _ h0 h1).mono ?_
 rintro e w1 ⟨v,rfl,hv,hb1⟩
 have hlen:(digs x.natAbs).length<=19:=q1i (by omega)
 have HX:=h_ (And.intro h0 h1);clear h0 h1
 obtain⟨a,cap,rfl,hc,-,hI⟩:=hv
 have bW:Below w.heap.size w (w1.alloc (.cells #[.bool (decide (x<0)),.slice a (digs x.natAbs).length cap] 135)):=hb1.alloc hb1.size _
 have hB:=Blk.new w1 135 #[.bool (decide (x<0)),.slice a (digs x.natAbs).length cap]
 have hI2:=hI.mono ((bR w1.heap.size w1).alloc (nR _) (.cells #[.bool (decide (x<0)),.slice a (digs x.natAbs).length cap] 135))
 have HW:=h_ bW;have HB:=h_ hB;have HI:=h_ hI2;clear bW hB hI2 hI hb1
 by_cases hx:x=0
 . subst hx
   simp only[Int.natAbs_zero,qc5]at *;go_wp2;go_ret;exact⟨by rw[qd1];rfl,HW.u⟩
 . have hn:(digs x.natAbs).length≠0:=by intro e;have:=qfw.1 (Zt.1 e);omega
   go_wp2;go_loopw [4,5] (fun s i wr=>∃k:Nat,k<=(digs x.natAbs).length/\i=J6 k/\s=.string ⟨(hdig ((digs x.natAbs).take k).reverse).toArray⟩/\wr=w1.alloc (.cells #[.bool (decide (x<0)),.slice a (digs x.natAbs).length cap] 135)) (fun _ i _=>(digs x.natAbs).length - (intOf i).toNat)
   case atStart=>exact⟨0,nZ _,rfl,by simp[hdig],rfl⟩
   case round =>
    obtain⟨k,hk,rfl,rfl,rfl⟩:=hrel;by_cases hlt:k<(digs x.natAbs).length
    . obtain⟨b1,o1,rfl,-,hc1⟩:=HI.u k hlt
      obtain⟨d,hd,hD⟩:∃d,d<10/\(digs x.natAbs).getD k 0=d:=⟨_,by rw[qkm];exact Nat.mod_lt _ (by decide),rfl⟩;dsimp only at hc1;rw[hD]at hc1;have hs:=qe8 d hd;have HD:=h_ hD;clear hD;generalize hS:hdig ((digs x.natAbs).take k).reverse=S at *;have HS:=h_ hS;have hSl:S.length<=19:=(by rw[<- hS];simp[hdig];omega);clear hS;go_wp2;go_roundw
      case rel =>
       refine⟨k+1,by omega,by go_num,?_,trivial⟩;rw[qex hlt HD.u,List.reverse_append,<- HS.u,u8_add];exact congrArg _ (qan [_] _)
      case measure=>simp[intOf];omega
    . obtain rfl:k=(digs x.natAbs).length:=by omega
      have hz:Lib.itoa x=(if x<0 then [45] else [])++hdig (digs x.natAbs).reverse:=by
       unfold Lib.itoa hdig;split
       . rw[q1h (by omega)];rfl
       . rw[show x.toNat=x.natAbs by omega,q1h (by omega)];rfl
      have HZ:=h_ hz;clear hz;rw[Z4];generalize hS:hdig (digs x.natAbs).reverse=S at *;have hSl:S.length<=19:=(by rw[<- hS];simp[hdig];omega);clear hS;by_cases hneg:x<0
      . go_wp2
        go_ret;refine⟨?_,by have hh:=HW.u;rw[Yj hneg]at hh;exact hh⟩;rw[HZ.u,Yv hneg];exact congrArg (fun z=>Ending.returned (.string z)) (qan [45] S)
      . go_wp2
        go_ret;refine⟨?_,by have hh:=HW.u;rw[Yb (by omega)]at hh;exact hh⟩;rw[HZ.u,Yn (by omega)];rfl
structure Vx where
 k:Int
 n:Int
 s:ByteArray
def vv (u:Vx):Value:=.agg #[.int .i64 u.k,.int .i64 u.n,.string u.s]
def blankX:Vx:=⟨0,0,⟨#[]⟩⟩
def eqX (p q:Vx):Bool:=if p.k=q.k then if p.n=q.n then decide (p.s.toList=q.s.toList) else false else false
def ar (op:Int):Int:=if op=2∨op=3∨op=21∨op=22∨op=23∨op=24∨op=25 then 1 else if op=16 then 3 else if 4<=op/\op<=20 then 2 else 0
theorem qff (op:Int):(op=2∨op=3∨op=21∨op=22∨op=23∨op=24∨op=25∨op=16)∨((¬ op=2/\¬ op=3/\¬ op=21/\¬ op=22)/\(¬ op=23/\¬ op=24/\¬ op=25/\¬ op=16)/\(op<4∨(4<=op/\op<=20)∨(4<=op/\20<op))):=by omega
theorem q64 (op:Int)(w:World):Calls Tryz.prog 268 #[J6 op] w fun e w'=>e=.returned (J6 (ar op))/\w'=w:=by
 rcases qff op with (rfl | rfl | rfl | rfl | rfl | rfl | rfl | rfl) | ⟨⟨n1,n2,n3,n4⟩,⟨n5,n6,n7,n8⟩,h⟩
 case inr =>
  have e0:¬ (op=2∨op=3∨op=21∨op=22∨op=23∨op=24∨op=25):=by omega
  have m8:=n8;replace n1:(op==2)=false:=Ya.2 n1;replace n2:(op==3)=false:=Ya.2 n2;replace n3:(op==21)=false:=Ya.2 n3;replace n4:(op==22)=false:=Ya.2 n4;replace n5:(op==23)=false:=Ya.2 n5;replace n6:(op==24)=false:=Ya.2 n6;replace n7:(op==25)=false:=Ya.2 n7;replace n8:(op==16)=false:=Ya.2 n8;rcases h with h | ⟨h,h'⟩ | ⟨h,h'⟩
  . have e:ar op=0:=by rw[ar,Yn e0,Yn m8,Yn (by omega)]
    rw[e];clear e e0 m8;go_enter Tryz.func268,Tryz.ntmps268;go_wp2;go_ret;exact⟨rfl,rfl⟩
  . have e:ar op=2:=by rw[ar,Yn e0,Yn m8,Yv ⟨h,h'⟩]
    rw[e];clear e e0 m8;go_enter Tryz.func268,Tryz.ntmps268;go_wp2;go_ret;exact⟨rfl,rfl⟩
  . have e:ar op=0:=by rw[ar,Yn e0,Yn m8,Yn (by omega)]
    rw[e];clear e e0 m8;go_enter Tryz.func268,Tryz.ntmps268;go_wp2;go_ret;exact⟨rfl,rfl⟩
 all_goals (
  go_enter Tryz.func268,Tryz.ntmps268;go_wp2;go_ret;exact⟨rfl,rfl⟩)
theorem q29 {B:Nat}{w w':World}(h:Below B w.drew w'):Below B w w':=⟨h.os,h.tape,h.output,h.size,h.block⟩
section
variable {md:Region.Mode} {ops:Array Oper} {Q:Exit->Act->World->Prop} {S:World->Prop} {o:Oper} {a:Act}
theorem qnc {a:Act}{o:Oper}{d:Tmp}{v:Value}(h:o.dst=some d):a.put o.dst v = { tmps:=a.tmps.setIfInBounds d v,defers:=a.defers }:=by rw[h];rfl
theorem takeY {i:Nat}{v:Value}{fuel:Nat}{listed:Array Bool}{w:World}(d:Tmp)(hi:ops[i]? = some o)(hd:o.dst=some d)(hs:Region.noSelect ops=true)(hf:Region.free md ops listed i=true)(hr:(Region.ready md ops listed).contains i=true)
 (hQ:∀c (b:Act) (t:Array Value) w,Q (.panic c) { tmps:=t,defers:=b.defers } w->Q (.panic c) b w) (hw:Region.wanted o (yielded ops a.tmps)=true) (hy:∀w,S w->(execOp a.eval o).run Tryz.prog w=.ok (.value v) w) (hS:S w) (h:wpAnyH Tryz.prog md ops Q S fuel (listed.setIfInBounds i true) { tmps:=a.tmps.setIfInBounds d v,defers:=a.defers } w):wpAnyH Tryz.prog md ops Q S (fuel+1) listed a w :=
 wpAnyH_take hi hs hf hr (fun c a w h=>hQ c a _ w (by rw[qnc hd]at h;exact h)) (.inl ⟨hw,hy⟩) hS (by rw[qnc hd];exact h)
theorem takeN {i:Nat}{fuel:Nat}{listed:Array Bool}{w:World}(d:Tmp)(hi:ops[i]? = some o)(hd:o.dst=some d)(hs:Region.noSelect ops=true)(hf:Region.free md ops listed i=true)(hr:(Region.ready md ops listed).contains i=true)
 (hQ:∀c (b:Act) (t:Array Value) w,Q (.panic c) { tmps:=t,defers:=b.defers } w->Q (.panic c) b w) (hw:Region.wanted o (yielded ops a.tmps)=false) (hS:S w) (h:wpAnyH Tryz.prog md ops Q S fuel (listed.setIfInBounds i true) { tmps:=a.tmps.setIfInBounds d undef,defers:=a.defers } w):wpAnyH Tryz.prog md ops Q S (fuel+1) listed a w :=
 wpAnyH_take hi hs hf hr (fun c a w h=>hQ c a _ w (by rw[qnc hd]at h;exact h)) (.inr ⟨hw,rfl⟩) hS (by rw[qnc hd];exact h)
theorem tj {fuel:Nat}{listed:Array Bool}{w:World}(i:Nat)(d:Tmp)(v:Value)(hS:S w)(h:wpAnyH Tryz.prog md ops Q S fuel (listed.setIfInBounds i true) { tmps:=a.tmps.setIfInBounds d v,defers:=a.defers } w)(hi:ops[i]? = some o:=by exact rfl)(hd:o.dst=some d:=by exact rfl)(hs:Region.noSelect ops=true:=by kernel_rfl)(hf:Region.free md ops listed i=true:=by kernel_rfl)(hr:(Region.ready md ops listed).contains i=true:=by kernel_rfl)
 (hQ:∀c (b:Act) (t:Array Value) w,Q (.panic c) { tmps:=t,defers:=b.defers } w->Q (.panic c) b w:=by exact fun _ _ _ _ h=>h) (hw:Region.wanted o (yielded ops a.tmps)=true:=by rfl) (hy:∀w,S w->(execOp a.eval o).run Tryz.prog w=.ok (.value v) w:=by intro w hS;simp[execOp,go_sem, *]):wpAnyH Tryz.prog md ops Q S (fuel+1) listed a w :=
 takeY d hi hd hs hf hr hQ hw hy hS h
theorem tn {fuel:Nat}{listed:Array Bool}{w:World}(i:Nat)(d:Tmp)(hS:S w)(h:wpAnyH Tryz.prog md ops Q S fuel (listed.setIfInBounds i true) { tmps:=a.tmps.setIfInBounds d undef,defers:=a.defers } w)(hi:ops[i]? = some o:=by exact rfl)(hd:o.dst=some d:=by exact rfl)(hs:Region.noSelect ops=true:=by kernel_rfl)(hf:Region.free md ops listed i=true:=by kernel_rfl)(hr:(Region.ready md ops listed).contains i=true:=by kernel_rfl)
 (hQ:∀c (b:Act) (t:Array Value) w,Q (.panic c) { tmps:=t,defers:=b.defers } w->Q (.panic c) b w:=by exact fun _ _ _ _ h=>h) (hw:Region.wanted o (yielded ops a.tmps)=false:=by rfl):wpAnyH Tryz.prog md ops Q S (fuel+1) listed a w :=
 takeN d hi hd hs hf hr hQ hw hS h
theorem callY {i:Nat}{fuel:Nat}{listed:Array Bool}{w:World}{f:FuncId}{args:Array Value}{R:Value->World->Prop}(d:Tmp)(hi:ops[i]? = some o)(hd:o.dst=some d)(hw:Region.wanted o (yielded ops a.tmps)=true)(hr:Region.ready md ops listed=[i])
 (hrun:(execOp a.eval o).run Tryz.prog w=.ok (.enter f args) w) (hc:Calls Tryz.prog f args w fun e w'=>∃v,e=.returned v/\R v w')
 (h:∀v w',R v w'->S w'/\wpAnyH Tryz.prog md ops Q S fuel (listed.setIfInBounds i true) { tmps:=a.tmps.setIfInBounds d v,defers:=a.defers } w'):wpAnyH Tryz.prog md ops Q S (fuel+1) listed a w:=by
 refine wpAnyH_ready hr (by simp) (AllReadyH.cons hi (fun K hK=>?_) AllReadyH.nil)
 rw[Yv hw]
 unfold Oper.wp
 rw[hrun,Oper.upon_enter]
 refine hc.mono ?_
 rintro e w' ⟨v,rfl,hR⟩
 obtain⟨h1,h2⟩:=h v w' hR
 show K (a.put o.dst v) w'
 rw[qnc hd]
 exact hK.out _ _ h1 (fun _=>h2)
theorem storeY {i:Nat}{fuel:Nat}{listed:Array Bool}{w w':World}{v:Next}(hi:ops[i]? = some o)(hw:Region.wanted o (yielded ops a.tmps)=true)(hr:Region.ready md ops listed=[i])
 (hd:o.dst=none) (hrun:(execOp a.eval o).run Tryz.prog w=.ok v w') (hv:v=.skip) (hS:S w') (h:wpAnyH Tryz.prog md ops Q S fuel (listed.setIfInBounds i true) a w'):wpAnyH Tryz.prog md ops Q S (fuel+1) listed a w:=by
 subst hv
 refine wpAnyH_ready hr (by simp) (AllReadyH.cons hi (fun K hK=>?_) AllReadyH.nil)
 rw[Yv hw]
 unfold Oper.wp
 rw[hrun,Oper.upon_skip,hd]
 exact hK.out _ _ hS (fun _=>h)
end
section
variable {md:Region.Mode} {ops:Array Oper} {Q:Exit->Act->World->Prop} {S:World->Prop} {o:Oper} {a:Act} {fuel:Nat} {listed:Array Bool} {i:Nat} {rs:List Nat} {w w':World}
theorem consCall {f:FuncId}{args:Array Value}{R:Value->World->Prop}(d:Tmp)(hi:ops[i]? = some o)(hd:o.dst=some d)(hw:Region.wanted o (yielded ops a.tmps)=true)
 (hrun:(execOp a.eval o).run Tryz.prog w=.ok (.enter f args) w) (hc:Calls Tryz.prog f args w fun e w'=>∃v,e=.returned v/\R v w')
 (h:∀v w',R v w'->S w'/\wpAnyH Tryz.prog md ops Q S fuel (listed.setIfInBounds i true) { tmps:=a.tmps.setIfInBounds d v,defers:=a.defers } w') (hs:AllReadyH Tryz.prog md ops Q S fuel listed a w rs):AllReadyH Tryz.prog md ops Q S fuel listed a w (i :: rs):=by
 refine AllReadyH.cons hi (fun K hK=>?_) hs
 rw[Yv hw]
 unfold Oper.wp
 rw[hrun,Oper.upon_enter]
 refine hc.mono ?_
 rintro e w' ⟨v,rfl,hR⟩
 obtain⟨h1,h2⟩:=h v w' hR
 show K (a.put o.dst v) w'
 rw[qnc hd]
 exact hK.out _ _ h1 (fun _=>h2)
theorem consRun {v:Value}(d:Tmp)(hi:ops[i]? = some o)(hd:o.dst=some d)(hw:Region.wanted o (yielded ops a.tmps)=true)
 (hrun:(execOp a.eval o).run Tryz.prog w=.ok (.value v) w') (hS:S w') (h:wpAnyH Tryz.prog md ops Q S fuel (listed.setIfInBounds i true) { tmps:=a.tmps.setIfInBounds d v,defers:=a.defers } w') (hs:AllReadyH Tryz.prog md ops Q S fuel listed a w rs):AllReadyH Tryz.prog md ops Q S fuel listed a w (i :: rs):=by
 refine AllReadyH.cons hi (fun K hK=>?_) hs
 rw[Yv hw]
 unfold Oper.wp
 rw[hrun]
 show K (a.put o.dst v) w'
 rw[qnc hd]
 exact hK.out _ _ hS (fun _=>h)
end
theorem q1q (op:Int)(w:World):Calls Tryz.prog 292 #[J6 op] w fun e w'=>e=.returned (.bool (decide (2<=op/\op<=25)))/\w'=w:=by
 by_cases h2:2<=op
 . by_cases h25:op<=25
   . rw[Yj ⟨h2,h25⟩]
     go_enter Tryz.func292,Tryz.ntmps292;go_wp2;go_ret;exact⟨by simp,rfl⟩
   . have e:decide (2<=op/\op<=25)=false:=Yb (fun h=>h25 h.2)
     rw[e];clear e;go_enter Tryz.func292,Tryz.ntmps292;go_wp2;go_ret;exact⟨by simp,rfl⟩
 . have e:decide (2<=op/\op<=25)=false:=Yb (fun h=>h2 h.1)
   rw[e];clear e;go_enter Tryz.func292,Tryz.ntmps292;go_wp2;go_ret;exact⟨by rfl,rfl⟩
def opn (op:Int):Int:=if op=2∨op=3∨op=21∨op=22∨op=23∨op=24∨op=25 then 1 else if op=16 then 3 else 2
theorem ar_opn (op:Int):ar op=if 2<=op/\op<=25 then opn op else 0:=by
 unfold ar opn
 by_cases h1:op=2∨op=3∨op=21∨op=22∨op=23∨op=24∨op=25
 . rw[Yv h1,Yv h1,Yv (by omega)]
 . rw[Yn h1,Yn h1]
   by_cases h2:op=16
   . rw[Yv h2,Yv h2,Yv (by omega)]
   . rw[Yn h2,Yn h2]
     by_cases h3:4<=op/\op<=20
     . rw[Yv h3,Yv (by omega)]
     . rw[Yn h3,Yn (by omega)]
theorem q23 (op:Int)(w:World):Calls Tryz.prog 293 #[J6 op] w fun e w'=>e=.returned (J6 (opn op))/\w'=w:=by
 rcases qff op with (rfl | rfl | rfl | rfl | rfl | rfl | rfl | rfl) | ⟨⟨n1,n2,n3,n4⟩,⟨n5,n6,n7,n8⟩,-⟩
 case inr =>
  have e:opn op=2:=by rw[opn,Yn (by omega),Yn n8]
  rw[e];clear e;go_enter Tryz.func293,Tryz.ntmps293;go_wp2;go_ret;exact⟨rfl,rfl⟩
 all_goals (
  go_enter Tryz.func293,Tryz.ntmps293;go_wp2;go_ret;exact⟨rfl,rfl⟩)
end Go.Proofs.YtgojgjlninakjaaGreatDoor
