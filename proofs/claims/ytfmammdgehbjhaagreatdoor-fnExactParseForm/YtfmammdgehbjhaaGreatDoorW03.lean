import Derived.Test.YtfmammdgehbjhaaGreatDoorW02
import Derived.Lib.ItoaNum
import Derived.Lib.ParseIntBTie
import Derived.Test.YtfmammdgehbjhaaGreatDoorShelf
import Derived.Lib.AppendIntMem
set_option maxRecDepth 100000
set_option maxHeartbeats 64000000
namespace Go.Proofs.YtfmammdgehbjhaaGreatDoor
def dval:List Nat->Nat
 | []=>0
 | d :: r=>d+10*dval r
def Dig (l:List Nat):Prop:=∀d,d∈l->d<10
def digs (n:Nat):List Nat:=if _h:n=0 then [] else n % 10 :: digs (n / 10)
 termination_by n
 decreasing_by omega
theorem q8u:digs 0=[]:=by rw[digs];simp
theorem qbx {n:Nat}(h:n≠0):digs n=n % 10 :: digs (n / 10):=by rw[digs,dif_neg h]
theorem q8z (n:Nat):dval (digs n)=n:=by
 induction n using Nat.strongRecOn with
 | _ n ih =>
  by_cases h:n=0
  . subst h;rw[q8u];rfl
  . rw[qbx h,dval,ih (n / 10) (by omega)];omega
theorem qbu (n:Nat):Dig (digs n):=by
 induction n using Nat.strongRecOn with
 | _ n ih =>
  by_cases h:n=0
  . subst h;rw[q8u];intro d hd;cases hd
  . rw[qbx h];intro d hd
    rcases List.mem_cons.1 hd with rfl | hd
    . omega
    . exact ih (n / 10) (by omega) d hd
theorem qbw {n:Nat}:digs n=[] ↔ n=0:=by
 refine⟨fun h=>?_,fun h=>by rw[h,q8u]⟩
 rw[<- q8z n,h];rfl
theorem q4d (l m:List Nat):dval (l++m)=dval l+10 ^ l.length*dval m:=by
 induction l with
 | nil=>simp[dval]
 | cons d r ih=>rw[List.cons_append,dval,dval,ih,List.length_cons,Nat.pow_succ,Nat.mul_add,Nat.mul_comm (10 ^ r.length) 10,Nat.mul_assoc,Nat.add_assoc]
theorem q90 (l:List Nat)(d:Nat):dval (l++[d])=dval l+10 ^ l.length*d:=by rw[q4d];simp[dval]
theorem Dig.tail {d:Nat}{l:List Nat}(h:Dig (d :: l)):Dig l:=fun e he=>h e (List.mem_cons_of_mem _ he)
theorem Dig.head {d:Nat}{l:List Nat}(h:Dig (d :: l)):d<10:=h d (List.mem_cons_self ..)
theorem Dig.snoc {l:List Nat}{d:Nat}(h:Dig l)(hd:d<10):Dig (l++[d]):=fun e he=>by
 rcases List.mem_append.1 he with he | he
 . exact h e he
 . rw[List.mem_singleton.1 he];exact hd
theorem Dig.take {l:List Nat}(h:Dig l)(k:Nat):Dig (l.take k):=fun e he=>h e (List.mem_of_mem_take he)
theorem qg6 {l:List Nat}(h:Dig l):dval l<10 ^ l.length:=by
 induction l with
 | nil=>simp[dval]
 | cons d r ih =>
  have:=ih h.tail;have:=h.head;rw[dval,List.length_cons,Nat.pow_succ];omega
theorem dig_at {l:List Nat}(h:Dig l):∀i,l.getD i 0=dval l / 10 ^ i % 10:=by
 induction l with
 | nil=>intro i;simp[dval]
 | cons d r ih =>
  intro i;have hd:=h.head;cases i with
  | zero=>simp[dval];omega
  | succ i =>
   have e:dval (d :: r) / 10 ^ (i+1)=dval r / 10 ^ i:=by
    rw[dval,Nat.pow_succ,Nat.mul_comm (10 ^ i) 10,<- Nat.div_div_eq_div_mul]
    congr 1;omega
   rw[e,<- ih h.tail i];simp
theorem q09 {l:List Nat}(h:Dig l)(hl:l=[]∨l.getD (l.length - 1) 0≠0):digs (dval l)=l:=by
 induction l with
 | nil=>simp[dval,q8u]
 | cons d r ih =>
  have hd:=h.head;have hr:r=[]∨r.getD (r.length - 1) 0≠0:=by
   cases r with
   | nil=>exact .inl rfl
   | cons e s=>exact .inr (by simpa using hl)
  have hi:=ih h.tail hr;have hne:dval (d :: r)≠0:=by
   intro e0;have e0':d=0/\dval r=0:=by rw[dval]at e0;omega
   have:r=[]:=by rw[<- hi,e0'.2,q8u]
   subst this;simp[e0'.1]at hl
  rw[qbx hne,dval,show(d+10*dval r) % 10=d by omega,show(d+10*dval r) / 10=dval r by omega,hi]
theorem qjj {l:List Nat}(h:Dig l){k:Nat}(hk:k<=l.length)(hz:∀j,k<=j->j<l.length->l.getD j 0=0)(hl:k=0∨l.getD (k - 1) 0≠0):l.take k=digs (dval l):=by
 have hv:dval l=dval (l.take k):=by
  conv=>lhs;rw[<- List.take_append_drop k l]
  rw[q4d];have:∀m:List Nat,(∀j,j<m.length->m.getD j 0=0)->dval m=0:=by
   intro m
   induction m with
   | nil=>intro _;rfl
   | cons d r ih =>
    intro hm;have h0:=hm 0 (by simp);have h1:=ih (fun j hj=>by have:=hm (j+1) (by simpa using hj);simpa using this);simp at h0;rw[dval,h0,h1]
  rw[this (l.drop k) (fun j hj=>by
   have hj':k+j<l.length:=by simp at hj;omega
   have:=hz (k+j) (by omega) hj';simpa [List.getD,List.getElem?_drop] using this)]
  simp
 rw[hv,q09 (h.take k)]
 rcases hl with h0 | h0
 . left;subst h0;simp
 . by_cases hk0:k=0
   . left;subst hk0;simp
   . right
     have:(l.take k).length=k:=(by simp;omega);rw[this];simpa [List.getD,List.getElem?_take,show k - 1<k by omega] using h0
theorem q1b {n k:Nat}(h:n<10 ^ k):(digs n).length<=k:=by
 induction k generalizing n with
 | zero=>have:n=0:=(by simpa using h);subst this;simp[q8u]
 | succ k ih =>
  by_cases h0:n=0
  . subst h0;simp[q8u]
  . rw[qbx h0,List.length_cons]
    have:=ih (n:=n / 10) (by rw[Nat.pow_succ]at h;omega);omega
theorem qha (n:Nat):n<10 ^ (digs n).length:=by
 have:=qg6 (qbu n);rwa [q8z]at this
theorem qg3 (n i:Nat):(digs n).getD i 0=n / 10 ^ i % 10:=by rw[dig_at (qbu n),q8z]
theorem qg4 {n:Nat}(h:n≠0):10 ^ ((digs n).length - 1)<=n:=by
 induction n using Nat.strongRecOn with
 | _ n ih =>
  rw[qbx h,List.length_cons,Nat.add_sub_cancel];by_cases h':n / 10=0
  . rw[h',q8u];simp;omega
  . have:=ih (n / 10) (by omega) h'
    have hl:(digs (n / 10)).length≠0:=by
     intro e;exact h' (qbw.1 (List.length_eq_zero_iff.1 e))
    obtain⟨m,hm⟩:∃m,(digs (n / 10)).length=m+1:=⟨(digs (n / 10)).length - 1,by omega⟩;rw[hm]at this⊢;simp only[Nat.add_sub_cancel]at this;rw[Nat.pow_succ];omega
theorem q4b {m n:Nat}(h:(digs m).length<(digs n).length):m<n:=by
 have h1:=qha m
 have hn:n≠0:=by intro e;subst e;simp[q8u]at h
 have h2:=qg4 hn
 have h3:10 ^ (digs m).length<=10 ^ ((digs n).length - 1):=Nat.pow_le_pow_right (by decide) (by omega)
 omega
theorem qby (n i:Nat):n / 10 ^ i=10*(n / 10 ^ (i+1))+n / 10 ^ i % 10:=by
 rw[Nat.pow_succ,<- Nat.div_div_eq_div_mul];omega
theorem qcw (n i:Nat):n % 10 ^ (i+1)=n % 10 ^ i+10 ^ i*(n / 10 ^ i % 10):=by
 rw[Nat.pow_succ,Nat.mod_mul]
theorem q8v {m n p:Nat}(h:m / p<n / p):m<n:=by
 rcases Nat.lt_or_ge m n with h' | h'
 . exact h'
 . exact absurd (Nat.div_le_div_right (c:=p) h') (by omega)
theorem qb3 {L p c s A B x y:Nat}(h:L+c*p=A+B)(hs:s=x+y+c):(L+p*(s % 10))+(s / 10)*(p*10)=(A+p*x)+(B+p*y):=by
 have e:p*(s % 10)+(s / 10)*(p*10)=p*s:=by
  rw[Nat.mul_comm (s / 10),Nat.mul_assoc,<- Nat.mul_add,Nat.mod_add_div]
 have e2:p*s=p*x+p*y+c*p:=by rw[hs,Nat.mul_add,Nat.mul_add,Nat.mul_comm c p]
 omega
theorem qee {L p c A B x y:Nat}(h:A+c*p=L+B)(hc:c<=1)(hx:x<10)(hy:y<10) :
 ∃d b,b<=1/\d<10/\(x+10*b=y+c+d)/\(b=1 ↔ x<y+c)/\(A+p*x)+b*(p*10)=(L+p*d)+(B+p*y):=by
 by_cases hlt:x<y+c
 . refine⟨x+10 - y - c,1,by omega,by omega,by omega,by omega,?_⟩
   have e:p*x+p*10=p*(x+10 - y - c)+p*y+p*c:=by rw[<- Nat.mul_add,<- Nat.mul_add,<- Nat.mul_add];congr 1;omega
   rw[Nat.mul_comm c p]at h;omega
 . refine⟨x - y - c,0,by omega,by omega,by omega,by omega,?_⟩
   have e:p*x=p*(x - y - c)+p*y+p*c:=by rw[<- Nat.mul_add,<- Nat.mul_add];congr 1;omega
   rw[Nat.mul_comm c p]at h;omega
theorem q1a {n:Nat}(h:n≠0):Lib.decDigits n=(digs n).reverse.map fun d=>UInt8.ofNat (48+d):=by
 induction n using Nat.strongRecOn with
 | _ n ih =>
  rw[qbx h,Lib.decDigits];by_cases h':n<10
  . rw[dif_pos h',show n / 10=0 by omega,q8u,Nat.mod_eq_of_lt h'];simp
  . rw[dif_neg h',ih (n / 10) (by omega) (by omega)];simp
end Go.Proofs.YtfmammdgehbjhaaGreatDoor
namespace Go.Proofs.YtfmammdgehbjhaaGreatDoor
open Go.Lib
def hval (acc:Nat):List Nat->Nat
 | []=>acc
 | d :: r=>hval (acc*10+d) r
theorem qgj (l:List Nat):∀acc,acc<=hval acc l:=by
 induction l with
 | nil=>intro acc;exact Nat.le_refl _
 | cons d r ih=>intro acc;have:=ih (acc*10+d);rw[hval];omega
theorem q4q (l m:List Nat):∀acc,hval acc (l++m)=hval (hval acc l) m:=by
 induction l with
 | nil=>intro acc;rfl
 | cons d r ih=>intro acc;exact ih _
def hdig (l:List Nat):List UInt8:=l.map fun d=>UInt8.ofNat (48+d)
theorem q7q (l:List Nat):∀(acc:Nat),(∀d,d∈l->d<10)->hval acc l<18446744073709551616->parseUintM 18446744073709551615 acc (hdig l)=.ok (hval acc l):=by
 induction l with
 | nil=>intro acc _ _;rfl
 | cons d r ih =>
  intro acc hd hv;have h0:d<10:=hd d (List.mem_cons_self ..);have hg:=qgj r (acc*10+d);rw[hval]at hv⊢;have e:(UInt8.ofNat (48+d)).toNat=48+d:=by rw[UInt8.toNat_ofNat'];omega
  show parseUintM _ acc (UInt8.ofNat (48+d) :: hdig r)=_;rw[parseUintM,e,if_pos (by omega),if_neg (by omega),if_neg (by omega),show 48+d - 48=d by omega];exact ih _ (fun e he=>hd e (List.mem_cons_of_mem _ he)) hv
def hiDigs (n:Nat):List Nat:=if _h:n<10 then [n] else hiDigs (n / 10)++[n % 10]
 termination_by n
 decreasing_by omega
theorem qgg (n:Nat):hval 0 (hiDigs n)=n/\(∀d,d∈hiDigs n->d<10)/\decDigits n=hdig (hiDigs n)/\hiDigs n≠[]:=by
 induction n using Nat.strongRecOn with
 | _ n ih =>
  by_cases h:n<10
  . rw[hiDigs,dif_pos h,decDigits,dif_pos h]
    refine⟨by simp[hval],fun d hd=>?_,rfl,by simp⟩;rw[List.mem_singleton.1 hd];exact h
  . obtain⟨a,b,c,-⟩:=ih (n / 10) (by omega)
    rw[hiDigs,dif_neg h,decDigits,dif_neg h];refine⟨?_,fun d hd=>?_,?_,by simp⟩
    . rw[q4q,a];simp only[hval];omega
    . rcases List.mem_append.1 hd with hd | hd
      . exact b d hd
      . rw[List.mem_singleton.1 hd];omega
    . rw[c];simp[hdig]
theorem dec_ne (n:Nat):decDigits n≠[]:=by
 obtain⟨-,-,c,d⟩:=qgg n
 rw[c];simpa [hdig] using d
theorem qbs (n:Nat):∃c r,decDigits n=c :: r/\48<=c.toNat/\c.toNat<=57:=by
 obtain⟨-,b,c,d⟩:=qgg n
 match e:hiDigs n with
 | []=>exact absurd e d
 | x :: r =>
  rw[c,e];have hx:=b x (by rw[e];exact List.mem_cons_self ..);refine⟨UInt8.ofNat (48+x),hdig r,rfl,?_⟩;have:(UInt8.ofNat (48+x)).toNat=48+x:=by rw[UInt8.toNat_ofNat'];omega
  omega
theorem qa0 {n:Nat}(h:n<18446744073709551616):parseUintB 64 (decDigits n)=.ok n:=by
 obtain⟨a,b,c,-⟩:=qgg n
 have:=q7q (hiDigs n) 0 b (by rw[a];exact h)
 rw[parseUintB,if_neg (dec_ne n),show 2 ^ 64 - 1=18446744073709551615 from rfl,c,this,a]
theorem q7r {n:Int}(h0:-9223372036854775808<=n)(h1:n<=9223372036854775807):parseIntB 64 (itoa n)=.ok n:=by
 have hp:2 ^ (64 - 1)=9223372036854775808:=rfl
 unfold itoa
 split
 . have:=qa0 (n:=n.natAbs) (by omega)
   simp only[parseIntB,hp];rw[if_pos (Or.inr (by decide)),this];have e:(45:UInt8).toNat=45:=rfl;simp only[e,not_true_eq_false,false_and,if_false,true_and];rw[if_neg (by omega),if_pos trivial,show -(n.natAbs:Int)=n by omega]
 . have:=qa0 (n:=n.toNat) (by omega)
   obtain⟨c,r,e,h48,h57⟩:=qbs n.toNat;rw[e]at this⊢;simp only[parseIntB,hp];rw[if_neg (by omega),this];have:¬ c.toNat=45:=by omega
   simp only[this,not_false_eq_true,false_and,if_false,true_and];rw[if_neg (by omega),show(n.toNat:Int)=n by omega]
def I64 (n:Int):Prop:=-9223372036854775808<=n/\n<=9223372036854775807
def readDec (l:List UInt8):Option Int:=match parseIntB 64 l with
 | .ok n=>if itoa n=l then some n else none
 | _=>none
theorem q3p {n:Int}(h:I64 n):readDec (itoa n)=some n:=by
 rw[readDec,q7r h.1 h.2];simp
theorem q3q {l:List UInt8}(h:∀n,I64 n->itoa n≠l):readDec l=none:=by
 unfold readDec
 split
 . rename_i n hn
   split
   . rename_i e
     have hb:=parseIntB_bounds hn;exact absurd e (h n (by have:(2:Nat) ^ (64 - 1)=9223372036854775808:=rfl;unfold I64;omega))
   . rfl
 . rfl
end Go.Proofs.YtfmammdgehbjhaaGreatDoor
namespace Go.Proofs.YtfmammdgehbjhaaGreatDoor
open Go Go.RowKit
def DigS (w:World)(v:Value)(l:List Nat):Prop:=∃a cap,v=.slice a l.length cap/\l.length<=cap/\(a=none->cap=0)/\Ints w a l.length (fun k=>((l.getD k 0:Nat):Int))
theorem DigS.mono {w w':World}{v:Value}{l:List Nat}(h:DigS w v l)(hb:Below w.heap.size w w'):DigS w' v l:=by
 obtain⟨a,cap,e,hc,hn,hi⟩:=h
 exact⟨a,cap,e,hc,hn,hi.mono hb⟩
theorem q2q {w:World}{base:Nat}{e:TypeId}{v:Value}{us:List Nat}(h:w.ownsRow base e 1 v us.length (ui us)):DigS w v us:=by
 rcases h.2 with ⟨rfl,h0⟩ | ⟨g,cap,cur,rfl,hb,hg,hc,-,hs,htake⟩
 . exact⟨none,0,by rw[h0],by omega,fun _=>rfl,fun k hk=>absurd hk (by omega)⟩
 . obtain⟨a,cap',e1,hI⟩:=q33 h
   simp only[Value.slice.injEq]at e1;obtain⟨rfl,-,rfl⟩:=e1;exact⟨_,_,rfl,by omega,(fun h=>by cases h),hI⟩
theorem q7m {w:World}{base:Nat}{e:TypeId}{v:Value}{n:Nat}{xs:List Value}(h:w.ownsRow base e 1 v n xs){b:Nat}(hb:b<base)(j:Nat)(u:Value):(w.setCell ⟨b,j,none⟩ u).ownsRow base e 1 v n xs:=by
 rcases h.2 with h' | ⟨g,cap,cur,e',hb',hg,hc,hx,hs,htake⟩
 . exact⟨h.1,.inl h'⟩
 . exact⟨h.1,.inr ⟨g,cap,cur,e',hb',(heap_setCell_other w ⟨b,j,none⟩ g u (by simp;omega)).trans hg,hc,hx,hs,htake⟩⟩
theorem qer (y:Int):(y.tmod 10<0->-(y.tmod 10)=((y.natAbs % 10:Nat):Int))/\(¬ y.tmod 10<0->y.tmod 10=((y.natAbs % 10:Nat):Int)):=by
 have e:∀n:Nat,(n:Int).tmod 10=((n % 10:Nat):Int):=fun n=>(Int.ofNat_tmod n 10).symm
 rcases Int.lt_or_le y 0 with h | h
 . obtain⟨n,rfl⟩:∃n:Nat,y = -(n:Int):=⟨y.natAbs,by omega⟩
   rw[Int.neg_tmod,e,Int.natAbs_neg];simp only[Int.natAbs_natCast];omega
 . obtain⟨n,rfl⟩:∃n:Nat,y=(n:Int):=⟨y.toNat,by omega⟩
   rw[e];simp only[Int.natAbs_natCast];exact⟨fun h=>by omega,fun _=>trivial⟩
theorem qem (y:Int):(y.tdiv 10).natAbs=y.natAbs / 10:=by rw[Int.natAbs_tdiv];rfl
theorem q2c (x:Int)(w:World)(h0:-9223372036854775808<=x)(h1:x<=9223372036854775807) :
 Calls Tryz.prog 113 #[Ya x] w fun e w'=>∃v,e=.returned (.agg #[.bool (decide (x<0)),v])/\DigS w' v (digs x.natAbs)/\Below w.heap.size w w':=by
 have HX:=h_ (And.intro h0 h1);clear h0 h1
 go_enter Tryz.func113,Tryz.ntmps113
 go_wp2
 have H0:Hi (((w.alloc (.cells Jo 124)).alloc (.cells #[] 3)).ownsRow (w.alloc (.cells Jo 124)).heap.size 3 1 (.slice (some ⟨(w.alloc (.cells Jo 124)).heap.size,0,none⟩) 0 0) 0 []):=q9y _ _
 have HB:Hi (Below (w.heap.size+1) (w.alloc (.cells Jo 124)) ((w.alloc (.cells Jo 124)).alloc (.cells #[] 3))):=(bR _ _).alloc (by simp) _
 have H1:Hi (Below w.heap.size w (w.alloc (.cells Jo 124))):=(bR _ _).alloc (nR _) _
 have HR:=h_ (Blk.new w 124 Jo)
 have hs:(w.alloc (.cells Jo 124)).heap.size=w.heap.size+1:=by simp
 rw[hs]at H0
 generalize (w.alloc (.cells Jo 124))=W at *
 go_loopw [0,3] (fun xv v wr=>∃(y:Int) (l:List Nat),xv=Ya y/\-9223372036854775808<=y/\y<=9223372036854775807/\l++digs y.natAbs=digs x.natAbs/\wr.ownsRow (w.heap.size+1) 3 1 v l.length (ui l)/\Below (w.heap.size+1) W wr) (fun xv _ _=>(intOf xv).natAbs)
 case atStart=>exact⟨x,[],rfl,HX.u.1,HX.u.2,rfl,H0.u,HB.u⟩
 case round =>
  clear H0 HB;obtain⟨y,l,rfl,y0,y1,hl,hown,hb⟩:=hrel;have hlen:l.length+(digs y.natAbs).length<=19:=by
   have e1:=congrArg List.length hl;have e2:(digs x.natAbs).length<=19:=q1b (by have:=HX.u;omega);simp at e1;omega
  have HY:=h_ (And.intro y0 y1);clear y0 y1;have HL:=h_ hl;have HO:=h_ hown;have HB:=h_ hb;clear hl hown hb;by_cases hy:y=0
  . subst hy
    have hl:=HL.u;simp only[Int.natAbs_zero,q8u,Zi]at hl;subst hl;have hr:=HR.u.mono HB.u (Yr _);have HW:=h_ (H1.u.trans (HB.u.mono (by omega)));have r0:=hr.cell 0;have r1:=hr.cell 1;have f0:=hr.free 0;have f1:=hr.free 1;simp only[Zb,Yp]at r0 r1;clear hr HL HB HR H1;obtain⟨a3,c3,rfl,-⟩:=q33 HO.u;go_wp2;refine bodyPost_ret (v:=.agg #[.bool (decide (x<0)),.slice a3 (digs x.natAbs).length c3]) (by simp[results,Tryz.results113,go_sem, *]) rfl ⟨_,rfl,?_,?_⟩
    . exact q2q (q7m (q7m HO.u (Yr _) _ _) (Yr _) _ _)
    . exact(HW.u.setCell (by simp) _).setCell (by simp) _
  . obtain⟨m1,m2⟩:=qer y
    have hd:=qem y;have hg:=qbx (n:=y.natAbs) (by omega);have HQ:Hi (wrap64 (y.tdiv 10)=y.tdiv 10):=(by have:=HY.u;rw[Hi];unfold wrap64;omega);by_cases hm:y.tmod 10<0
    . have hw:wrap64 (-(y.tmod 10))=((y.natAbs % 10:Nat):Int):=by have:=m1 hm;unfold wrap64;omega
      have HD:=h_ hd;have HG:=h_ hg;have HE:=h_ hw;clear hd hg hw m1 m2;obtain⟨i0,hi,hz0,hz1,hz2⟩:=info_parts infoI;go_wp2_with (at_builtin;refine wpList_append_own _ rfl _ _ 50 rfl (w.heap.size+1) 3 i0 _ 1 8 Tryz.underlying50 hi hz0 hz1 hz2 rfl (by omega) u3 _ _ rfl (HO.u.alloc _) ⟨wr.heap.size,0,none⟩ 1 1 [Ya (wrap64 (-(y.tmod 10)))] rfl rfl (qbm wr 3 _) (by simp[Value.oneCell']) (by unfold maxLen;omega) (by omega) (by have:=HB.u.size;simp;omega) ?_);intro v' w' hown' hgrow' _;have hB':=(HB.u.alloc (by have:=HB.u.size;omega) (.cells #[Ya (wrap64 (-(y.tmod 10)))] 3)).grown hgrow' (by have:=HB.u.size;simp;omega) (fun q' e=>q7l HO.u e);have HO3:Hi (w'.ownsRow (w.heap.size+1) 3 1 v' (l++[y.natAbs % 10]).length (ui (l++[y.natAbs % 10]))):=by
       rw[Hi];rw[HE.u]at hown';simpa [ui] using hown'
      have HB3:=h_ hB';clear hown' hgrow' hB' hi hz0 hz1 hz2;go_wp2_with fail;go_roundw
      case rel =>
       refine⟨y.tdiv 10,l++[y.natAbs % 10],congrArg _ HQ.u,?_,?_,?_,HO3.u,HB3.u⟩
       . have:=HY.u;have:=HD.u;omega
       . have:=HY.u;have:=HD.u;omega
       . rw[HD.u,Z8,List.singleton_append,<- HG.u];exact HL.u
      case measure=>simp only[intOf];rw[HQ.u];have:=HD.u;omega
    . have HD:=h_ hd;have HG:=h_ hg;have HE:=h_ (m2 hm);clear hd hg m1 m2
      obtain⟨i0,hi,hz0,hz1,hz2⟩:=info_parts infoI;go_wp2_with (at_builtin;refine wpList_append_own _ rfl _ _ 50 rfl (w.heap.size+1) 3 i0 _ 1 8 Tryz.underlying50 hi hz0 hz1 hz2 rfl (by omega) u3 _ _ rfl (HO.u.alloc _) ⟨wr.heap.size,0,none⟩ 1 1 [Ya (y.tmod 10)] rfl rfl (qbm wr 3 _) (by simp[Value.oneCell']) (by unfold maxLen;omega) (by omega) (by have:=HB.u.size;simp;omega) ?_);intro v' w' hown' hgrow' _;have hB':=(HB.u.alloc (by have:=HB.u.size;omega) (.cells #[Ya (y.tmod 10)] 3)).grown hgrow' (by have:=HB.u.size;simp;omega) (fun q' e=>q7l HO.u e);have HO3:Hi (w'.ownsRow (w.heap.size+1) 3 1 v' (l++[y.natAbs % 10]).length (ui (l++[y.natAbs % 10]))):=by
       rw[Hi];rw[HE.u]at hown';simpa [ui] using hown'
      have HB3:=h_ hB';clear hown' hgrow' hB' hi hz0 hz1 hz2;go_wp2_with fail;go_roundw
      case rel =>
       refine⟨y.tdiv 10,l++[y.natAbs % 10],congrArg _ HQ.u,?_,?_,?_,HO3.u,HB3.u⟩
       . have:=HY.u;have:=HD.u;omega
       . have:=HY.u;have:=HD.u;omega
       . rw[HD.u,Z8,List.singleton_append,<- HG.u];exact HL.u
      case measure=>simp only[intOf];rw[HQ.u];have:=HD.u;omega
theorem q4a:∀d:Fin 10,(⟨#[48,49,50,51,52,53,54,55,56,57]⟩:ByteArray).extract d.val (d.val+1)=⟨#[UInt8.ofNat (48+d.val)]⟩:=by decide +kernel
theorem qah (d:Nat)(hd:d<10)(w:World):(Instr.slice 9 (.string ⟨#[48,49,50,51,52,53,54,55,56,57]⟩) (some (Ya (d:Int))) (some (Ya ((d:Int)+1))) none).run Tryz.prog w=.ok (.string ⟨#[UInt8.ofNat (48+d)]⟩) w:=by
 rw[run_slice_string w 9 _ .i64 .i64 _ _ Tryz.underlying9 (by omega) (by omega) (by show(d:Int)+1<=10;omega),show((d:Int)).toNat=d by omega,show((d:Int)+1).toNat=d+1 by omega,q4a ⟨d,hd⟩]
theorem q88 {a b:ByteArray}(h:a.data.toList=b.data.toList):a=b:=by
 obtain⟨⟨l⟩⟩:=a;obtain⟨⟨m⟩⟩:=b
 simp at h;rw[h]
theorem qaw {l:List Nat}{k d:Nat}(hk:k<l.length)(hd:l.getD k 0=d):l.take (k+1)=l.take k++[d]:=by
 rw[List.take_add_one,Yk hk]
 simp[List.getD,List.getElem?_eq_getElem hk]at hd
 simp[hd]
theorem u8_add (d:Nat):48+UInt8.ofNat d=UInt8.ofNat (48+d):=by simp[UInt8.ofNat_add]
theorem q9c:Lib.itoa 0=[48]:=by rw[Lib.itoa,Yi (by omega)];exact Lib.decDigits_one (i:=0) (by omega)
theorem q87 (l m:List UInt8):(⟨l.toArray⟩:ByteArray)++⟨m.toArray⟩=⟨(l++m).toArray⟩:=by
 apply q88;simp[ByteArray.data_append]
theorem q2b (x:Int)(w:World)(h0:-9223372036854775808<=x)(h1:x<=9223372036854775807) :
 Calls Tryz.prog 87 #[Ya x] w fun e w'=>e=.returned (.string ⟨(Lib.itoa x).toArray⟩)/\Below w.heap.size w w':=by
 go_enter Tryz.func87,Tryz.ntmps87
 go_wp2_with fail
 refine(q2c x _ h0 h1).mono ?_
 rintro e w1 ⟨v,rfl,hv,hb1⟩
 have hlen:(digs x.natAbs).length<=19:=q1b (by omega)
 have HX:=h_ (And.intro h0 h1);clear h0 h1
 obtain⟨a,cap,rfl,hc,-,hI⟩:=hv
 have bW:Below w.heap.size w (w1.alloc (.cells #[.bool (decide (x<0)),.slice a (digs x.natAbs).length cap] 124)):=hb1.alloc hb1.size _
 have hB:=Blk.new w1 124 #[.bool (decide (x<0)),.slice a (digs x.natAbs).length cap]
 have hI2:=hI.mono ((bR w1.heap.size w1).alloc (nR _) (.cells #[.bool (decide (x<0)),.slice a (digs x.natAbs).length cap] 124))
 have HW:=h_ bW;have HB:=h_ hB;have HI:=h_ hI2;clear bW hB hI2 hI hb1
 by_cases hx:x=0
 . subst hx
   simp only[Int.natAbs_zero,q8u]at *;go_wp2;go_ret;exact⟨by rw[q9c];rfl,HW.u⟩
 . have hn:(digs x.natAbs).length≠0:=by intro e;have:=qbw.1 (Z2.1 e);omega
   go_wp2;go_loopw [4,5] (fun s i wr=>∃k:Nat,k<=(digs x.natAbs).length/\i=Ya k/\s=.string ⟨(hdig ((digs x.natAbs).take k).reverse).toArray⟩/\wr=w1.alloc (.cells #[.bool (decide (x<0)),.slice a (digs x.natAbs).length cap] 124)) (fun _ i _=>(digs x.natAbs).length - (intOf i).toNat)
   case atStart=>exact⟨0,nZ _,rfl,by simp[hdig],rfl⟩
   case round =>
    obtain⟨k,hk,rfl,rfl,rfl⟩:=hrel;by_cases hlt:k<(digs x.natAbs).length
    . obtain⟨b1,o1,rfl,-,hc1⟩:=HI.u k hlt
      obtain⟨d,hd,hD⟩:∃d,d<10/\(digs x.natAbs).getD k 0=d:=⟨_,by rw[qg3];exact Nat.mod_lt _ (by decide),rfl⟩;dsimp only at hc1;rw[hD]at hc1;have hs:=qah d hd;have HD:=h_ hD;clear hD;generalize hS:hdig ((digs x.natAbs).take k).reverse=S at *;have HS:=h_ hS;have hSl:S.length<=19:=(by rw[<- hS];simp[hdig];omega);clear hS;go_wp2;go_roundw
      case rel =>
       refine⟨k+1,by omega,by go_num,?_,trivial⟩;rw[qaw hlt HD.u,List.reverse_append,<- HS.u,u8_add];exact congrArg _ (q87 [_] _)
      case measure=>simp[intOf];omega
    . obtain rfl:k=(digs x.natAbs).length:=by omega
      have hz:Lib.itoa x=(if x<0 then [45] else [])++hdig (digs x.natAbs).reverse:=by
       unfold Lib.itoa hdig;split
       . rw[q1a (by omega)];rfl
       . rw[show x.toNat=x.natAbs by omega,q1a (by omega)];rfl
      have HZ:=h_ hz;clear hz;rw[Zl];generalize hS:hdig (digs x.natAbs).reverse=S at *;have hSl:S.length<=19:=(by rw[<- hS];simp[hdig];omega);clear hS;by_cases hneg:x<0
      . go_wp2
        go_ret;refine⟨?_,by have hh:=HW.u;rw[Yh hneg]at hh;exact hh⟩;rw[HZ.u,Yn hneg];exact congrArg (fun z=>Ending.returned (.string z)) (q87 [45] S)
      . go_wp2
        go_ret;refine⟨?_,by have hh:=HW.u;rw[Yg (by omega)]at hh;exact hh⟩;rw[HZ.u,Yi (by omega)];rfl
theorem qik {a b:ByteArray}(h:a=b):Ending.returned (.string a)=.returned (.string b):=by rw[h]
def Pow (w:World):Prop:=Lib.TabIs Tryz.prog w "internal/strconv.uint64pow10" .u64 Lib.pow10Tab
theorem Pow.mono {w w':World}(h:Pow w)(hb:Below w.heap.size w w'):Pow w':=Lib.tabBelow_of_tabIs h w' hb
theorem q49 (x:Int)(w:World)(h0:-9223372036854775808<=x)(h1:x<=9223372036854775807)(ht:Pow w) :
 Calls Tryz.prog 145 #[Ya x] w fun e w'=>e=.returned (.string ⟨(Lib.itoa x).toArray⟩)/\Below w.heap.size w w':=by
 have HX:=h_ (And.intro h0 h1);clear h0 h1
 go_enter Tryz.func145,Tryz.ntmps145
 go_wp2_with fail
 refine(Tryz.strconv_FormatInt_10 x HX.u.1 HX.u.2 _ ht).mono ?_
 rintro e w1 ⟨rfl,k,os,rfl⟩
 have hb:=h_ (Lib.below_grow w.heap.size w (nR _) k os)
 go_wp2
 go_ret
 exact⟨rfl,hb.u⟩
theorem qga:(⟨(Lib.formatBool true).toArray⟩:ByteArray)=⟨#[116,114,117,101]⟩:=by decide +kernel
theorem qc7:(⟨(Lib.formatBool false).toArray⟩:ByteArray)=⟨#[102,97,108,115,101]⟩:=by decide +kernel
def plainB (kind num:Int)(s:ByteArray):ByteArray :=
 if kind=1 then ⟨(Lib.itoa num).toArray⟩ else if kind=2 then (if num=1 then ⟨#[116,114,117,101]⟩ else ⟨#[102,97,108,115,101]⟩) else s
theorem q2i (kind num:Int)(s:ByteArray)(w:World)(h0:-9223372036854775808<=num)(h1:num<=9223372036854775807)(ht:Pow w) :
 Calls Tryz.prog 146 #[.agg (Ju kind num s)] w fun e w'=>e=.returned (.string (plainB kind num s))/\Below w.heap.size w w':=by
 have HX:=h_ (And.intro h0 h1);clear h0 h1
 have HW:Hi (Below w.heap.size w (w.alloc (.cells (Ju kind num s) 131))):=(bR _ _).alloc (nR _) _
 by_cases k1:kind=1
 . subst k1
   go_enter Tryz.func146,Tryz.ntmps146;go_wp2_with fail;refine(q49 num _ HX.u.1 HX.u.2 (ht.mono HW.u)).mono ?_;rintro e w2 ⟨rfl,hb2⟩;replace HW:=mT HW hb2;clear hb2;go_wp2;go_ret;exact⟨qik (by simp[plainB]),HW.u⟩
 . by_cases k2:kind=2
   . subst k2
     by_cases n1:num=1
     . subst n1
       go_enter Tryz.func146,Tryz.ntmps146;go_wp2_with fail;refine(Tryz.strconv_FormatBool true _).mono ?_;rintro e w2 ⟨rfl,rfl⟩;rw[qga];go_wp2;go_ret;exact⟨qik (by simp[plainB]),HW.u⟩
     . have hf:(num==1)=false:=by simpa using n1
       go_enter Tryz.func146,Tryz.ntmps146;go_wp2_with fail;refine(Tryz.strconv_FormatBool false _).mono ?_;rintro e w2 ⟨rfl,rfl⟩;rw[qc7];go_wp2;go_ret;exact⟨qik (by simp[plainB,n1]),HW.u⟩
   . go_enter Tryz.func146,Tryz.ntmps146
     go_wp2;go_ret;exact⟨qik (by simp[plainB,k1,k2]),HW.u⟩
theorem q3v (kind num:Int)(s:ByteArray)(w:World)(hs:s.size<=9223372036854775807)(h0:-9223372036854775808<=num)(h1:num<=9223372036854775807) :
 Calls Tryz.prog 125 #[.agg (Ju kind num s)] w fun e w'=>e=.returned (.string (showB kind num s))/\Below w.heap.size w w':=by
 have HX:=h_ (And.intro h0 h1);clear h0 h1
 have H0:=h_ (Blk.new w 131 (Ju kind num s))
 have HW:Hi (Below w.heap.size w (w.alloc (.cells (Ju kind num s) 131))):=(bR _ _).alloc (nR _) _
 go_enter Tryz.func125,Tryz.ntmps125
 go_wp2_with fail
 refine(q22 kind num s _ hs).mono ?_
 rintro e w1 ⟨rfl,hb1⟩
 replace H0:=mB H0 hb1;replace HW:=mT HW hb1;clear hb1
 obtain⟨z0,z1,z2⟩:=three H0.u
 cases hok:okVal kind num s
 . go_wp2
   go_ret;exact⟨qik (by simp[showB,hok]),HW.u⟩
 . rcases kinds kind with rfl | rfl | rfl | rfl | rfl | ⟨k0,k1,k2,k3,k4⟩
   . go_wp2
     go_ret;exact⟨qik (by simp[showB,hok]),HW.u⟩
   . go_wp2_with fail
     refine(q2b num _ HX.u.1 HX.u.2).mono ?_;rintro e w2 ⟨rfl,hb2⟩;replace HW:=mT HW hb2;clear hb2;go_wp2;go_ret;exact⟨qik (by simp[showB,hok]),HW.u⟩
   . by_cases n1:num=1
     all_goals
      go_wp2;go_ret;exact⟨qik (by first | (subst n1;simp[showB,hok];done) | (simp[showB,hok,n1])),HW.u⟩
   . have hsz:s.size<=1000:=by simp[okVal]at hok;exact(q7j.1 hok.2).1
     go_wp2;go_ret;exact⟨qik (by simp[showB,hok]),HW.u⟩
   . go_wp2_with fail
     refine(q2b num _ HX.u.1 HX.u.2).mono ?_;rintro e w2 ⟨rfl,hb2⟩;replace HW:=mT HW hb2;clear hb2;have hl:=q9b num HX.u.1 HX.u.2;obtain⟨S,hS⟩:∃S:ByteArray,S=⟨(Lib.itoa num).toArray⟩:=⟨_,rfl⟩;rw[<- hS]at hl⊢;have HS:=h_ hS;clear hS;go_wp2;go_ret;exact⟨qik (by have:=HS.u;simp[showB,hok,this]),HW.u⟩
   . simp[okVal,k0,k1,k2,k3,k4]at hok
theorem q31 (kind num:Int)(s:ByteArray)(w:World)(hs:s.size<=9223372036854775807)(h0:-9223372036854775808<=num)(h1:num<=9223372036854775807)(ht:Pow w) :
 Calls Tryz.prog 109 #[.agg (Ju kind num s)] w fun e w'=>e=.returned (.string (showB kind num s))/\Below w.heap.size w w':=by
 have HX:=h_ (And.intro h0 h1);clear h0 h1
 have H0:=h_ (Blk.new w 131 (Ju kind num s))
 have HW:Hi (Below w.heap.size w (w.alloc (.cells (Ju kind num s) 131))):=(bR _ _).alloc (nR _) _
 go_enter Tryz.func109,Tryz.ntmps109
 go_wp2_with fail
 refine(q1g kind num s _ hs).mono ?_
 rintro e w1 ⟨rfl,hb1⟩
 replace H0:=mB H0 hb1;replace HW:=mT HW hb1;clear hb1
 obtain⟨z0,z1,z2⟩:=three H0.u
 have HT:=h_ (ht.mono HW.u)
 cases hok:okVal kind num s
 . go_wp2
   go_ret;exact⟨qik (by simp[showB,hok]),HW.u⟩
 . rcases kinds kind with rfl | rfl | rfl | rfl | rfl | ⟨k0,k1,k2,k3,k4⟩
   . go_wp2
     go_ret;exact⟨qik (by simp[showB,hok]),HW.u⟩
   . go_wp2_with fail
     refine(q2i 1 num s _ HX.u.1 HX.u.2 HT.u).mono ?_;rintro e w2 ⟨rfl,hb2⟩;replace HW:=mT HW hb2;clear hb2;go_wp2;go_ret;exact⟨qik (by simp[showB,plainB,hok]),HW.u⟩
   . go_wp2_with fail
     refine(q2i 2 num s _ HX.u.1 HX.u.2 HT.u).mono ?_;rintro e w2 ⟨rfl,hb2⟩;replace HW:=mT HW hb2;clear hb2;go_wp2;go_ret;exact⟨qik (by simp[showB,plainB,hok]),HW.u⟩
   . have hsz:s.size<=1000:=by simp[okVal]at hok;exact(q7j.1 hok.2).1
     go_wp2;go_ret;exact⟨qik (by simp[showB,hok]),HW.u⟩
   . go_wp2_with fail
     refine(q49 num _ HX.u.1 HX.u.2 HT.u).mono ?_;rintro e w2 ⟨rfl,hb2⟩;replace HW:=mT HW hb2;clear hb2;have hl:=q9b num HX.u.1 HX.u.2;obtain⟨S,hS⟩:∃S:ByteArray,S=⟨(Lib.itoa num).toArray⟩:=⟨_,rfl⟩;rw[<- hS]at hl⊢;have HS:=h_ hS;clear hS;go_wp2;go_ret;exact⟨qik (by have:=HS.u;simp[showB,hok,this]),HW.u⟩
   . simp[okVal,k0,k1,k2,k3,k4]at hok
end Go.Proofs.YtfmammdgehbjhaaGreatDoor
