import Derived.Test.YtgojgjlninakjaaGreatDoorW40
import Derived.Lib.SplitLaws
set_option maxRecDepth 100000
set_option maxHeartbeats 64000000
namespace Go.Proofs.YtgojgjlninakjaaGreatDoor
open Go
theorem cutC {c:UInt8}{a a' b b':List UInt8}(ha:c ∉ a)(ha':c ∉ a')(h:a++c :: b=a'++c :: b'):a=a'/\b=b':=by
 induction a generalizing a' with
 | nil =>
  cases a' with
  | nil=>exact⟨rfl,by simpa using h⟩
  | cons x r =>
   simp only[Vn,Zm,Of]at h;exact absurd (by rw[h.1];exact Yq) ha'
 | cons y a ih =>
  cases a' with
  | nil =>
   simp only[Vn,Zm,Of]at h;exact absurd (by rw[<- h.1];exact Yq) ha
  | cons x r =>
   simp only[Zm,Of]at h;obtain⟨rfl,h⟩:=h;obtain⟨e,e'⟩:=ih (fun h=>ha (Yy _ h)) (fun h=>ha' (Yy _ h)) h;exact⟨by rw[e],e'⟩
theorem qgt (i:Nat){c:UInt8}(hc:c.toNat<48):c ∉ Lib.itoa (i:Int):=fun h=>by
 have e:Lib.itoa (i:Int)=Lib.decDigits (i:Int).natAbs:=((q94 (i:Int)).2 (by omega)).1
 rw[e]at h
 have:=(qm4 (i:Int).natAbs).1 c h
 omega
theorem qlj (n:Int){c:UInt8}(hc:c∈Lib.itoa n):45<=c.toNat:=by
 by_cases hn:n<0
 . obtain⟨t,e,rfl⟩:=(q94 n).1 hn
   rw[e]at hc;rcases Zp.1 hc with rfl | hc
   . decide
   . have:=(qm4 n.natAbs).1 c hc;omega
 . rw[((q94 n).2 hn).1]at hc
   have:=(qm4 n.natAbs).1 c hc;omega
theorem qhd {s:ByteArray}(h:goodN s=true){c:UInt8}(hc:c.toNat<48):c ∉ sb s:=fun hm=>by
 unfold goodN at h
 simp only[Yf,Yu]at h
 have h2:=h.1.2 c hm
 unfold nameB small digitB at h2
 simp only[Zj,Yh]at h2
 omega
theorem mem_ba {a b:ByteArray}{c:UInt8}:c∈sb (a++b) ↔ c∈sb a∨c∈sb b:=by unfold sb;rw[Zz,Array.toList_append,Ze]
theorem qed {k n:Int}{s:ByteArray}(h:okVal k n s=true):(10:UInt8) ∉ sb (showB k n s):=by
 intro hm
 unfold showB at hm
 rw[Yv h]at hm
 unfold okVal at h
 by_cases k0:k=0
 . rw[Yv k0]at hm;revert hm;decide
 rw[Yn k0]at h hm
 by_cases k1:k=1
 . rw[Yv k1]at hm
   have:=qlj n (c:=10) hm
   revert this;decide
 rw[Yn k1]at h hm
 by_cases k2:k=2
 . rw[Yv k2]at hm;split at hm <;> (revert hm;decide)
 rw[Yn k2]at h hm
 by_cases k3:k=3
 . rw[Yv k3]at h hm
   simp only[Yf]at h;rw[mem_ba,mem_ba]at hm;rcases hm with (hm | hm) | hm
   . revert hm;decide
   . have h2:=h.2
     unfold okText at h2;simp only[Yf,Yu]at h2;have:=h2.2 _ hm
     revert this;decide
   . revert hm;decide
 rw[Yn k3]at hm
 rw[mem_ba]at hm
 rcases hm with hm | hm
 . revert hm;decide
 . have:=qlj n (c:=10) hm
   revert this;decide
theorem ba_nil {s:ByteArray}(h:s.size=0):s=⟨#[]⟩:=by
 have:s.data.size=0:=h
 cases s with | mk d=>simp only[Array.size_eq_zero_iff]at this;rw[this]
theorem ba_eq {a b:ByteArray}(h:a.data.toList=b.data.toList):a=b:=ByteArray.ext (Array.ext' h)
theorem qmk (s:ByteArray):mid (⟨#[34]⟩++s++⟨#[34]⟩)=s:=by
 have hl:(⟨#[34]⟩++s++⟨#[34]⟩:ByteArray).data.toList=34 :: (s.data.toList++[34]):=by simp[ByteArray.data_append]
 have hz:(⟨#[34]⟩++s++⟨#[34]⟩:ByteArray).size=s.data.toList.length+2:=by
  simp only[Yi,bsz,Y8,Yl,Yt];rw[V8];show 0+1+s.size+(0+1)=s.size+2;omega
 unfold mid
 generalize (⟨#[34]⟩++s++⟨#[34]⟩:ByteArray)=x at hl hz⊢
 refine ba_eq ?_
 have he:∀i j,(x.extract i j).data.toList=(x.data.toList.take j).drop i:=fun i j=>by
  rw[ByteArray.data_extract,Array.toList_extract];simp[List.extract,List.drop_take]
 rw[he,hl,hz,show s.data.toList.length+2 - 1=s.data.toList.length+1 by omega,List.take_succ_cons,List.drop_succ_cons,Oa,List.take_left]
theorem qnp {k n:Int}{s:ByteArray}(h:okVal k n s=true)(hk:k≠4)(hn:-9223372036854775808<=n/\n<=9223372036854775807):rv (showB k n s)=(k,n,s,true):=by
 have e0:showB k n s=showB k n s:=rfl
 unfold showB at e0⊢
 rw[Yv h]
 unfold okVal at h
 by_cases k0:k=0
 . rw[Yv k0]at h⊢
   simp only[Yf,Yh]at h;rw[k0,h.1,ba_nil h.2];rfl
 rw[Yn k0]at h⊢
 by_cases k1:k=1
 . rw[Yv k1]at h⊢
   have hs:=ba_nil (Zb h);have hne:∀d u,d.toNat > 57->(⟨(Lib.itoa n).toArray⟩:ByteArray)≠⟨(d :: u:List UInt8).toArray⟩:=by
    intro d u hd' q;have hq:Lib.itoa n=d :: u:=(by simpa using congrArg (fun x:ByteArray=>x.data.toList) q);by_cases hn0:n<0
    . obtain⟨t,e,-⟩:=(q94 n).1 hn0
      rw[e]at hq;have:=(List.cons.inj hq).1;rw[<- this]at hd'
      revert hd';decide
    . have:=(qm4 n.natAbs).1 d (by rw[<- ((q94 n).2 hn0).1,hq];exact Yq)
      omega
   unfold rv;rw[Yn (hne 98 [108,97,110,107] (by decide)),Yn (hne 116 [114,117,101] (by decide)),Yn (hne 102 [97,108,115,101] (by decide))];rw[show(⟨(Lib.itoa n).toArray⟩:ByteArray).data.toList=Lib.itoa n from rfl,q4o ⟨hn.1,hn.2⟩,k1,hs]
 rw[Yn k1]at h⊢
 by_cases k2:k=2
 . rw[Yv k2]at h⊢
   simp only[Yf,Yh]at h;rw[k2,ba_nil h.2];rcases h.1 with rfl | rfl
   . rfl
   . rfl
 rw[Yn k2]at h⊢
 by_cases k3:k=3
 . rw[Yv k3]at h⊢
   simp only[Yf,Yh]at h;have hl:(⟨#[34]⟩++s++⟨#[34]⟩:ByteArray).data.toList=34 :: (s.data.toList++[34]):=by simp[ByteArray.data_append]
   have hne:∀d u,d≠34->(⟨#[34]⟩++s++⟨#[34]⟩:ByteArray)≠⟨(d :: u:List UInt8).toArray⟩:=by
    intro d u hd' q;have hq:=congrArg (fun x:ByteArray=>x.data.toList) q;simp only[hl]at hq;have hq:(34:UInt8) :: (s.data.toList++[34])=d :: u:=hq;exact hd' (List.cons.inj hq).1.symm
   have hd:readDec (⟨#[34]⟩++s++⟨#[34]⟩:ByteArray).data.toList=none:=q4p fun x hx e=>by
    rw[hl]at e;by_cases hn0:x<0
    . obtain⟨t,e2,-⟩:=(q94 x).1 hn0
      have e2:Lib.itoa x=45 :: t:=e2;have e:Lib.itoa x=_:=e;rw[e2]at e;exact absurd (List.cons.inj e).1 (by decide)
    . have e:Lib.itoa x=_:=e
      have:=(qm4 x.natAbs).1 34 (by rw[<- ((q94 x).2 hn0).1];show(34:UInt8)∈Lib.itoa x;rw[e];exact Yq)
      revert this;decide
   unfold rv;rw[Yn (hne 98 [108,97,110,107] (by decide)),Yn (hne 116 [114,117,101] (by decide)),Yn (hne 102 [97,108,115,101] (by decide)),hd];rw[qmk];rw[Yv ⟨by simp only[Yi,bsz,Y8,Yl,Yt];omega,h.2,rfl⟩,k3,h.1]
 rw[Yn k3,Yn hk]at h
 cases h
def EntV (m:Fm)(x:Ex):Prop:=entB m x=true/\-9223372036854775808<=x.v.n/\x.v.n<=9223372036854775807
def lnF (m:Fm):Nat->List Ex->List UInt8
 | _,[]=>[]
 | i,x :: l=>lnB m x i++lnF m (i+1) l
theorem lnL_F (m:Fm)(l:List Ex):lnL m l=lnF m 1 l:=by
 have h:∀n,(l.zipIdx n).flatMap (fun p=>lnB m p.1 (p.2+1))=lnF m (n+1) l:=by
  induction l with
  | nil=>intro n;rfl
  | cons x l ih=>intro n;rw[List.zipIdx_cons,Zu,ih];rfl
 exact h 0
theorem lnB_eq (m:Fm)(x:Ex)(i:Nat)(a:List UInt8):lnB m x i++a=Lib.itoa (i:Int)++32 :: (sb (rnm m x.r.toNat)++32 :: (sb (fAt m x.f.toNat).nm++32 :: (sb (showB x.v.k x.v.n x.v.s)++10 :: a))):=by
 unfold lnB
 simp
theorem qif {m:Fm}(hv:VfA m){r:Nat}(h:r<m.R.length):goodN (rnm m r)=true/\rnm m r=(rNames m)[r]'(by simpa [rNames] using h):=by
 have h1:rnm m r=(rNames m)[r]'(by simpa [rNames] using h):=by
  unfold rnm rNames;rw[Yo,Yc h];simp
 have h2:=hv.r
 unfold namesOk at h2
 rw[Yf,Yu]at h2
 exact⟨by rw[h1];exact h2.1 _ (Ye _),h1⟩
theorem qgb {m:Fm}(hv:VfA m){r:Nat}(h:r<m.F.length):goodN (fAt m r).nm=true/\(fAt m r).nm=(fNames m)[r]'(by simpa [fNames] using h):=by
 have h1:(fAt m r).nm=(fNames m)[r]'(by simpa [fNames] using h):=by
  rw[qku h];unfold fNames;simp
 have h2:=hv.f
 unfold namesOk at h2
 rw[Yf,Yu]at h2
 exact⟨by rw[h1];exact h2.1 _ (Ye _),h1⟩
theorem qhh {l:List ByteArray}(hn:l.Nodup){i j:Nat}(hi:i<l.length)(hj:j<l.length)(h:l[i]=l[j]):i=j:=by
 rcases Nat.lt_trichotomy i j with q | q | q
 . exact absurd h (Zv.1 hn i j hi hj q)
 . exact q
 . exact absurd h.symm (Zv.1 hn j i hj hi q)
theorem qg0 {m:Fm}(hv:VfA m){x:Ex}(h:entB m x=true):x.v.k≠4:=by
 unfold entB fitB at h
 simp only[Yf,Zj,Yh]at h
 obtain⟨-,⟨h0,h1⟩,-,-,hk⟩:=h
 have hf:(x.f.toNat)<m.F.length:=by omega
 have hty:=((q5t _ _ _).1 (hv.fi (fAt m x.f.toNat) (by rw[qku hf];exact Ye hf)))
 rcases hk with hk | hk
 . omega
 . have:=hty.t2;omega
theorem qkr {m:Fm}(hv:VfA m){x y:Ex}(hx:EntV m x)(hy:EntV m y){i:Nat}{a b:List UInt8}(h:lnB m x i++a=lnB m y i++b):x=y/\a=b:=by
 rw[lnB_eq,lnB_eq]at h
 obtain⟨⟨x0,x1⟩,⟨x2,x3⟩,xo⟩:=qca hx.1
 obtain⟨⟨y0,y1⟩,⟨y2,y3⟩,yo⟩:=qca hy.1
 have xr:=qif hv (r:=x.r.toNat) (by omega)
 have yr:=qif hv (r:=y.r.toNat) (by omega)
 have xf:=qgb hv (r:=x.f.toNat) (by omega)
 have yf:=qgb hv (r:=y.f.toNat) (by omega)
 have h:=(cutC (qgt i (by decide)) (qgt i (by decide)) h).2
 obtain⟨e1,h⟩:=cutC (qhd xr.1 (by decide)) (qhd yr.1 (by decide)) h
 obtain⟨e2,h⟩:=cutC (qhd xf.1 (by decide)) (qhd yf.1 (by decide)) h
 obtain⟨e3,h⟩:=cutC (qed xo) (qed yo) h
 refine⟨?_,h⟩
 have hr:=hv.r
 have hf:=hv.f
 unfold namesOk at hr hf
 rw[Yf,Yh]at hr hf
 have q1:=sb_inj e1
 rw[xr.2,yr.2]at q1
 have q1:=qhh hr.2 _ _ q1
 have q2:=sb_inj e2
 rw[xf.2,yf.2]at q2
 have q2:=qhh hf.2 _ _ q2
 have q3:=congrArg rv (sb_inj e3)
 rw[qnp xo (qg0 hv hx.1) hx.2,qnp yo (qg0 hv hy.1) hy.2]at q3
 clear xr yr xf yf
 obtain⟨ra,fa,⟨ka,na,sa⟩⟩:=x
 obtain⟨rb,fb,⟨kb,nb,sb'⟩⟩:=y
 simp only[Y4]at q3
 obtain⟨rfl,rfl,rfl,-⟩:=q3
 obtain rfl:ra=rb:=by simp only at q1 x0 y0;omega
 obtain rfl:fa=fb:=by simp only at q2 x2 y2;omega
 rfl
theorem qm0 {m:Fm}(hv:VfA m){l l':List Ex}(h:∀x,x∈l->EntV m x)(h':∀x,x∈l'->EntV m x){i:Nat}(e:lnF m i l=lnF m i l'):l=l':=by
 induction l generalizing l' i with
 | nil =>
  cases l' with
  | nil=>rfl
  | cons y l' =>
   have e:[]=lnB m y i++lnF m (i+1) l':=e;rw[lnB_eq]at e;have:=congrArg List.length e;simp at this
 | cons x l ih =>
  cases l' with
  | nil =>
   have e:lnB m x i++lnF m (i+1) l=[]:=e;rw[lnB_eq]at e;have:=congrArg List.length e;simp at this
  | cons y l' =>
   have e:lnB m x i++lnF m (i+1) l=lnB m y i++lnF m (i+1) l':=e;obtain⟨rfl,e2⟩:=qkr hv (h x Yq) (h' y Yq) e;rw[ih (fun x hx=>h x (Yy _ hx)) (fun x hx=>h' x (Yy _ hx)) e2]
def DecA (m:Fm)(s:ByteArray)(l:List Ex)(ok:Bool):Prop:=(ok=true/\l.length<=4000/\(∀x,x∈l->EntV m x)/\lnL m l=sb s)∨(ok=false/\l=[]/\∀l',l'.length<=4000->(∀x,x∈l'->EntV m x)->lnL m l'≠sb s)
theorem DecA.uniq {m:Fm}(hv:VfA m){s:ByteArray}{l l':List Ex}{ok ok':Bool}(h:DecA m s l ok)(h':DecA m s l' ok'):l=l'/\ok=ok':=by
 rcases h with ⟨rfl,h1,h2,h3⟩ | ⟨rfl,rfl,h1⟩
 . rcases h' with ⟨rfl,g1,g2,g3⟩ | ⟨rfl,rfl,g1⟩
   . refine⟨qm0 hv h2 g2 (i:=1) ?_,rfl⟩
     rw[<- lnL_F,<- lnL_F,h3,g3]
   . exact absurd h3 (g1 l h1 h2)
 . rcases h' with ⟨rfl,g1,g2,g3⟩ | ⟨rfl,rfl,g1⟩
   . exact absurd g3 (h1 l' g1 g2)
   . exact⟨rfl,rfl⟩
def cutL:List UInt8->List (List UInt8)
 | []=>[]
 | c :: r=>if c=10 then [] :: cutL r else match cutL r with
  | []=>[[c]]
  | p :: ps=>(c :: p) :: ps
theorem qfq {b r:List UInt8}(h:(10:UInt8) ∉ b):cutL (b++10 :: r)=b :: cutL r:=by
 induction b with
 | nil=>show(if (10:UInt8)=10 then _ else _)=_;rw[Yv rfl]
 | cons c b ih =>
  have hc:c≠10:=fun e=>h (by rw[e];exact Yq);show(if c=10 then _ else _)=_;rw[Yn hc];show(match cutL (b++10 :: r) with | []=>[[c]] | p :: ps=>(c :: p) :: ps)=_;rw[ih fun hb=>h (Yy _ hb)]
theorem qkk {b:List UInt8}(h:(10:UInt8) ∉ b)(h0:b≠[]):cutL b=[b]:=by
 induction b with
 | nil=>exact absurd rfl h0
 | cons c b ih =>
  have hc:c≠10:=fun e=>h (by rw[e];exact Yq);show(if c=10 then _ else _)=_;rw[Yn hc];show(match cutL b with | []=>[[c]] | p :: ps=>(c :: p) :: ps)=_;by_cases hb:b=[]
  . subst hb;rfl
  . rw[ih (fun hm=>h (Yy _ hm)) hb]
theorem qfr {t:List UInt8}(h:t=[]∨t.getLast? = some 10):(cutL t).flatMap (·++[10])=t:=by
 induction t with
 | nil=>rfl
 | cons c t ih =>
  rcases h with h | h
  . cases h
  have ht:t=[]∨t.getLast? = some 10:=by
   cases t with
   | nil=>exact .inl rfl
   | cons d t=>exact .inr (by simpa [List.getLast?_cons_cons] using h)
  show(if c=10 then [] :: cutL t else match cutL t with | []=>[[c]] | p :: ps=>(c :: p) :: ps).flatMap (·++[10])=_;by_cases hc:c=10
  . rw[Yv hc,Zu,ih ht,hc];rfl
  . rw[Yn hc]
    have h2:=ih ht;cases hq:cutL t with
    | nil =>
     rw[hq]at h2;have h2:[]=t:=h2;rw[<- h2]at h;simp at h;exact absurd h hc
    | cons q qs =>
     rw[hq]at h2;show(c :: q++[10])++_=_;rw[<- h2];rfl
def bdB (m:Fm)(x:Ex)(i:Nat):List UInt8:=Lib.itoa (i:Int)++32 :: (sb (rnm m x.r.toNat)++32 :: (sb (fAt m x.f.toNat).nm++32 :: sb (showB x.v.k x.v.n x.v.s)))
theorem lnB_bd (m:Fm)(x:Ex)(i:Nat):lnB m x i=bdB m x i++[10]:=by unfold lnB bdB;simp
theorem qjw {m:Fm}(hv:VfA m){x:Ex}(hx:EntV m x)(i:Nat):(10:UInt8) ∉ bdB m x i:=by
 obtain⟨⟨x0,x1⟩,⟨x2,x3⟩,xo⟩:=qca hx.1
 have xr:=qif hv (r:=x.r.toNat) (by omega)
 have xf:=qgb hv (r:=x.f.toNat) (by omega)
 unfold bdB
 simp only[Ze,Zp,not_or]
 exact⟨qgt i (by decide),by decide,qhd xr.1 (by decide),by decide,qhd xf.1 (by decide),by decide,qed xo⟩
def bds (m:Fm):Nat->List Ex->List (List UInt8)
 | _,[]=>[]
 | i,x :: l=>bdB m x i :: bds m (i+1) l
theorem qfi (m:Fm)(i:Nat)(l:List Ex):(bds m i l).flatMap (·++[10])=lnF m i l:=by
 induction l generalizing i with
 | nil=>rfl
 | cons x l ih =>
  show(bdB m x i :: bds m (i+1) l).flatMap (·++[10])=lnB m x i++lnF m (i+1) l;rw[Zu,ih,lnB_bd]
theorem qjy (m:Fm)(i:Nat)(l:List Ex):(bds m i l).length=l.length:=by
 induction l generalizing i with
 | nil=>rfl
 | cons x l ih=>show(bds m (i+1) l).length+1=l.length+1;rw[ih]
theorem qjx (m:Fm)(i:Nat)(l:List Ex)(k:Nat):(bds m i l)[k]? = l[k]?.map fun x=>bdB m x (i+k):=by
 induction l generalizing i k with
 | nil=>simp[bds]
 | cons x l ih =>
  cases k with
  | zero=>rfl
  | succ k =>
   show(bds m (i+1) l)[k]? = l[k]?.map _;rw[ih,show i+1+k=i+(k+1) by omega]
theorem qfj (m:Fm)(i:Nat)(l:List Ex)(x:Ex):bds m i (l++[x])=bds m i l++[bdB m x (i+l.length)]:=by
 induction l generalizing i with
 | nil=>rfl
 | cons y l ih =>
  show bdB m y i :: bds m (i+1) (l++[x])=_;rw[ih,Yl,show i+1+l.length=i+(l.length+1) by omega];rfl
theorem qkj {m:Fm}(hv:VfA m){l:List Ex}(h:∀x,x∈l->EntV m x)(i:Nat):cutL (lnF m i l)=bds m i l:=by
 induction l generalizing i with
 | nil=>rfl
 | cons x l ih =>
  show cutL (lnB m x i++lnF m (i+1) l)=_;rw[lnB_bd,Vi];show cutL (bdB m x i++10 :: lnF m (i+1) l)=_;rw[qfq (qjw hv (h x Yq) i),ih fun x hx=>h x (Yy _ hx)];rfl
theorem qh1 (m:Fm)(i:Nat)(l:List Ex):lnF m i l=[]∨(lnF m i l).getLast? = some 10:=by
 induction l generalizing i with
 | nil=>exact .inl rfl
 | cons x l ih =>
  refine .inr ?_;show(lnB m x i++lnF m (i+1) l).getLast? = some 10;rcases ih (i+1) with e | e
  . rw[e,lnB_bd,Ou,List.getLast?_append];rfl
  . rw[List.getLast?_append,e];rfl
theorem qkl {m:Fm}{s:ByteArray}{l:List Ex}(hl:l.length<=4000)(h:∀x,x∈l->EntV m x)(hc:cutL (sb s)=bds m 1 l)(he:sb s=[]∨(sb s).getLast? = some 10):DecA m s l true :=
 .inl ⟨rfl,hl,h,by rw[lnL_F,<- qfi,<- hc,qfr he]⟩
theorem q8b {m:Fm}{s:ByteArray}(he:¬ (sb s=[]∨(sb s).getLast? = some 10)):DecA m s [] false :=
 .inr ⟨rfl,rfl,fun l' _ _ e=>he (by rw[<- e,lnL_F];exact qh1 m 1 l')⟩
theorem q8c {m:Fm}(hv:VfA m){s:ByteArray}(h:4000<(cutL (sb s)).length):DecA m s [] false :=
 .inr ⟨rfl,rfl,fun l' h1 h2 e=>by rw[<- e,lnL_F,qkj hv h2,qjy]at h;omega⟩
theorem qc4 {m:Fm}(hv:VfA m){s:ByteArray}{k:Nat}{p:List UInt8}(hk:(cutL (sb s))[k]? = some p)(hn:∀x,EntV m x->bdB m x (1+k)≠p):DecA m s [] false :=
 .inr ⟨rfl,rfl,fun l' h1 h2 e=>by
  rw[<- e,lnL_F,qkj hv h2,qjx]at hk;obtain⟨x,hx,e2⟩:=Option.map_eq_some_iff.1 hk;exact hn x (h2 x (Vy hx)) e2⟩
theorem qcn {c:UInt8}{l:List UInt8}(h:c∈l):∃a b,l=a++c :: b/\c ∉ a:=by
 induction l with
 | nil=>cases h
 | cons x l ih =>
  by_cases e:x=c
  . exact⟨[],l,by rw[e];rfl,by simp⟩
  . obtain⟨a,b,e1,e2⟩:=ih ((Zp.1 h).resolve_left fun q=>e q.symm)
    exact⟨x :: a,b,by rw[e1];rfl,fun q=>(Zp.1 q).elim (fun q=>e q.symm) e2⟩
theorem qgl {c:UInt8}{l:List UInt8}(h:c ∉ l):Lib.index l [c] = -1:=by
 induction l with
 | nil=>simp[Lib.index]
 | cons x l ih =>
  have hx:x≠c:=fun e=>h (by rw[e];exact Yq);have:=ih fun q=>h (Yy _ q);simp[Lib.index,this,Ne.symm hx]
theorem qgk {c:UInt8}{a b:List UInt8}(h:c ∉ a):Lib.index (a++c :: b) [c]=(a.length:Int):=by
 induction a with
 | nil=>simp[Lib.index]
 | cons x a ih =>
  have hx:x≠c:=fun e=>h (by rw[e];exact Yq);have h2:=ih fun q=>h (Yy _ q);have h3:¬ ((a.length:Int) = -1):=by omega
  simp[Lib.index,h2,Ne.symm hx,h3]
theorem qir {c:UInt8}{l:List UInt8}(h:c ∉ l)(k:Nat):Lib.splitK [c] 0 k l=[l]:=by
 cases k with
 | zero=>rfl
 | succ k=>unfold Lib.splitK;rw[qgl h];rfl
theorem qiq {c:UInt8}{a b:List UInt8}(h:c ∉ a)(k:Nat):Lib.splitK [c] 0 (k+1) (a++c :: b)=a :: Lib.splitK [c] 0 k b:=by
 rw[Lib.splitK,qgk h]
 have h3:¬ (((a.length:Int)==-1)=true):=by simp
 rw[Yn h3]
 have e1:(a++c :: b).take ((a.length:Int).toNat+0)=a:=by rw[Vk];simp
 have e2:(a++c :: b).drop ((a.length:Int).toNat + [c].length)=b:=by rw[Vk,<- Oz,List.drop_left];rfl
 rw[e1,e2]
theorem qek (s:List UInt8):(s=[]∨s.getLast? = some 10->Lib.splitK [10] 0 (s.count 10) s=cutL s++[[]])/\(¬ (s=[]∨s.getLast? = some 10)->Lib.splitK [10] 0 (s.count 10) s=cutL s):=by
 obtain⟨n,hn⟩:=Nq s.length
 induction n using Nat.strongRecOn generalizing s with
 | _ n ih =>
  by_cases h:(10:UInt8)∈s
  . obtain⟨a,b,rfl,ha⟩:=qcn h
    have hc:(a++10 :: b).count (10:UInt8)=b.count 10+1:=(by rw[V6,O9,Vw.2 ha];omega);have hl:(a++10 :: b=[]∨(a++10 :: b).getLast? = some 10) ↔ (b=[]∨b.getLast? = some 10):=by
     rw[List.getLast?_append];cases b with
     | nil=>simp
     | cons d b=>simp[List.getLast?_cons_cons]
    obtain⟨i1,i2⟩:=ih b.length (by rw[<- hn];simp;omega) b rfl;rw[hc,qiq ha,qfq ha,hl];exact⟨fun q=>by rw[i1 q];rfl,fun q=>by rw[i2 q]⟩
  . rw[Vw.2 h]
    refine⟨fun q=>?_,fun q=>?_⟩
    . rcases q with rfl | q
      . rfl
      . exact absurd (List.mem_of_getLast? q) h
    . rw[qkk h fun e=>q (.inl e)]
      rfl
theorem qaj (p:List UInt8)(k:Nat)(hk:min 4 (p.length+1) - 1=k):(∃a b c d,p=a++32 :: (b++32 :: (c++32 :: d))/\(32:UInt8) ∉ a/\(32:UInt8) ∉ b/\(32:UInt8) ∉ c/\Lib.splitK [32] 0 k p=[a,b,c,d])∨((Lib.splitK [32] 0 k p).length<4/\∀a b c d,p≠a++32 :: (b++32 :: (c++32 :: d))):=by
 by_cases h1:(32:UInt8)∈p
 . obtain⟨a,q,rfl,ha⟩:=qcn h1
   by_cases h2:(32:UInt8)∈q
   . obtain⟨b,r,rfl,hb⟩:=qcn h2
     by_cases h3:(32:UInt8)∈r
     . obtain⟨c,d,rfl,hc⟩:=qcn h3
       obtain rfl:k=3:=(by simp at hk;omega);exact .inl ⟨a,b,c,d,rfl,ha,hb,hc,by rw[qiq ha,qiq hb,qiq hc];rfl⟩
     . refine .inr ⟨?_,fun a' b' c' d' e=>?_⟩
       . have hk2:k=2∨k=3:=by simp at hk;omega
         rcases hk2 with rfl | rfl
         . rw[qiq ha,qiq hb,qir h3];simp
         . rw[qiq ha,qiq hb,qir h3];simp
       . have:=congrArg (List.count 32) e
         simp only[V6,O9,Vw.2 ha,Vw.2 hb,Vw.2 h3]at this;omega
   . refine .inr ⟨?_,fun a' b' c' d' e=>?_⟩
     . have hk2:k=1∨k=2∨k=3:=by simp at hk;omega
       rcases hk2 with rfl | rfl | rfl
       all_goals (rw[qiq ha,qir h2];simp)
     . have:=congrArg (List.count 32) e
       simp only[V6,O9,Vw.2 ha,Vw.2 h2]at this;omega
 . refine .inr ⟨by rw[qir h1];simp,fun a' b' c' d' e=>h1 (by rw[e];simp)⟩
theorem qfh {m:Fm}(hv:VfA m){x:Ex}(hx:EntV m x){i:Nat}{a b c d:List UInt8}(ha:(32:UInt8) ∉ a)(hb:(32:UInt8) ∉ b)(hc:(32:UInt8) ∉ c):bdB m x i=a++32 :: (b++32 :: (c++32 :: d)) ↔ Lib.itoa (i:Int)=a/\sb (rnm m x.r.toNat)=b/\sb (fAt m x.f.toNat).nm=c/\sb (showB x.v.k x.v.n x.v.s)=d:=by
 obtain⟨⟨x0,x1⟩,⟨x2,x3⟩,xo⟩:=qca hx.1
 have xr:=qif hv (r:=x.r.toNat) (by omega)
 have xf:=qgb hv (r:=x.f.toNat) (by omega)
 constructor
 . intro h
   unfold bdB at h;obtain⟨e0,h⟩:=cutC (qgt i (by decide)) ha h;obtain⟨e1,h⟩:=cutC (qhd xr.1 (by decide)) hb h;obtain⟨e2,h⟩:=cutC (qhd xf.1 (by decide)) hc h;exact⟨e0,e1,e2,h⟩
 . rintro⟨rfl,rfl,rfl,rfl⟩
   rfl
end Go.Proofs.YtgojgjlninakjaaGreatDoor
namespace Go.Proofs.YtgojgjlninakjaaGreatDoor
open Go Go.RowKit
def zE:Ex:=⟨0,0,⟨0,0,⟨#[]⟩⟩⟩
def UnA (m:Fm)(p:List UInt8)(i:Nat)(y:Ex)(ok:Bool):Prop:=(ok=true/\EntV m y/\bdB m y i=p)∨(ok=false/\y=zE/\∀x,EntV m x->bdB m x i≠p)
theorem qno {t s:ByteArray}{k n:Int}(h:rv t=(k,n,s,true)):showB k n s=t/\(-9223372036854775808<=n/\n<=9223372036854775807)/\s.size<=t.size:=by
 have hb:=qdf t
 rw[rv_lv]at h
 by_cases e:showB (lv t).1 (lv t).2.1 (lv t).2.2=t
 . rw[Yv e]at h
   simp only[Y4,and_true]at h;obtain⟨rfl,rfl,rfl⟩:=h;exact⟨e,hb⟩
 . rw[Yn e]at h
   simp at h
def hdB (m:Fm)(r k i:Nat):List UInt8:=Lib.itoa (i:Int)++([32]++(sb (rnm m r)++([32]++(sb (fAt m k).nm++[32]))))
theorem bd_hd (m:Fm)(x:Ex)(i:Nat):bdB m x i=hdB m x.r.toNat x.f.toNat i++sb (showB x.v.k x.v.n x.v.s):=by unfold bdB hdB;simp
theorem qoc {m:Fm}{p:List UInt8}{r k i:Nat}(h:¬ hdB m r k i <+: p):∀x,EntV m x->x.r.toNat=r->x.f.toNat=k->bdB m x i≠p:=fun x _ e1 e2 e=>h (by
 rw[<- e,bd_hd,e1,e2]
 exact List.prefix_append _ _)
theorem qje {m:Fm}(hv:VfA m){p:List UInt8}{r k i:Nat}{t s:ByteArray}{kd n:Int}{ok:Bool}(hp:p=hdB m r k i++sb t)(hr:rv t=(kd,n,s,ok))(h:ok=true->entB m ⟨r,k,⟨kd,n,s⟩⟩=false):∀x,EntV m x->x.r.toNat=r->x.f.toNat=k->bdB m x i≠p:=fun x hx e1 e2 e=>by
 obtain⟨⟨x0,x1⟩,⟨x2,x3⟩,xo⟩:=qca hx.1
 rw[bd_hd,e1,e2,hp]at e
 have e3:=sb_inj (List.append_cancel_left e)
 rw[<- e3,qnp xo (qg0 hv hx.1) hx.2]at hr
 simp only[Y4]at hr
 obtain⟨q1,q2,q3,q4⟩:=hr
 have h2:=h q4.symm
 rw[show(⟨(r:Int),(k:Int),⟨kd,n,s⟩⟩:Ex)=x by
  obtain⟨xr,xf,⟨a,b,c⟩⟩:=x;dsimp only at *;subst q1 q2 q3;rw[<- e1,<- e2,Gc x0,Gc x2],hx.1]at h2
 cases h2
theorem qjf {m:Fm}{p:List UInt8}{r k i:Nat}{t s:ByteArray}{kd n:Int}(hp:p=hdB m r k i++sb t)(hr:rv t=(kd,n,s,true))(h:entB m ⟨r,k,⟨kd,n,s⟩⟩=true):UnA m p i ⟨r,k,⟨kd,n,s⟩⟩ true:=by
 obtain⟨h1,h2,-⟩:=qno hr
 refine .inl ⟨rfl,⟨h,h2.1,h2.2⟩,?_⟩
 rw[bd_hd,hp]
 dsimp only
 rw[h1,Vk,Vk]
theorem qf3 {m:Fm}{p:List UInt8}{i:Nat}(h:∀x,EntV m x->x.r.toNat<m.R.length->bdB m x i≠p):UnA m p i zE false :=
 .inr ⟨rfl,rfl,fun x hx=>h x hx (by have:=(qca hx.1).1;omega)⟩
theorem ew_few {m:Fm}{p:List UInt8}{i:Nat}(h:∀a b c d,p≠a++32 :: (b++32 :: (c++32 :: d))):UnA m p i zE false:=.inr ⟨rfl,rfl,fun _ _ e=>h _ _ _ _ e.symm⟩
theorem ew_no {m:Fm}(hv:VfA m){p:List UInt8}{i:Nat}{a b c d:List UInt8}(hp:p=a++32 :: (b++32 :: (c++32 :: d)))(ha:(32:UInt8) ∉ a)(hb:(32:UInt8) ∉ b)(hc:(32:UInt8) ∉ c)(h:∀x,EntV m x->Lib.itoa (i:Int)=a->sb (rnm m x.r.toNat)=b->sb (fAt m x.f.toNat).nm=c->sb (showB x.v.k x.v.n x.v.s)=d->False):UnA m p i zE false :=
 .inr ⟨rfl,rfl,fun x hx e=>by
  rw[hp,qfh hv hx ha hb hc]at e;exact h x hx e.1 e.2.1 e.2.2.1 e.2.2.2⟩
theorem ew_yes {m:Fm}{p:List UInt8}{r k i:Nat}{t s:ByteArray}{kd n:Int}(hp:p=Lib.itoa (i:Int)++32 :: (sb (rnm m r)++32 :: (sb (fAt m k).nm++32 :: sb t)))(hr:rv t=(kd,n,s,true))(h:entB m ⟨r,k,⟨kd,n,s⟩⟩=true):UnA m p i ⟨r,k,⟨kd,n,s⟩⟩ true :=
 qjf (by rw[hp];unfold hdB;simp) hr h
def PrL (m:Fm)(s:ByteArray)(k:Nat)(l:List Ex):Prop:=l.length=k/\(∀x,x∈l->EntV m x)/\bds m 1 l=(cutL (sb s)).take k
theorem PrL.nil (m:Fm)(s:ByteArray):PrL m s 0 []:=⟨rfl,fun _ h=>(by cases h),rfl⟩
theorem PrL.snoc {m:Fm}{s:ByteArray}{k:Nat}{l:List Ex}{y:Ex}{p:List UInt8}(h:PrL m s k l)(hp:(cutL (sb s))[k]? = some p)(hy:UnA m p (k+1) y true):PrL m s (k+1) (l++[y]):=by
 rcases hy with ⟨-,h1,h2⟩ | ⟨h1,-⟩
 . refine⟨by rw[Yd,h.1];rfl,fun x hx=>(Ze.1 hx).elim (h.2.1 x) (fun q=>by rw[Zi.1 q];exact h1),?_⟩
   rw[qfj,h.2.2,h.1,Vv 1 k,h2];obtain⟨hk,e⟩:=Z7.1 hp;rw[Ym hk,e]
 . cases h1
theorem PrL.no {m:Fm}(hv:VfA m){s:ByteArray}{k:Nat}{y:Ex}{p:List UInt8}(hp:(cutL (sb s))[k]? = some p)(hy:UnA m p (k+1) y false):y=zE/\DecA m s [] false:=by
 rcases hy with ⟨h1,-⟩ | ⟨-,h1,h2⟩
 . cases h1
 . exact⟨h1,qc4 hv hp fun x hx=>by rw[Vv];exact h2 x hx⟩
theorem PrL.yes {m:Fm}{s:ByteArray}{k:Nat}{l:List Ex}(h:PrL m s k l)(hk:(cutL (sb s)).length=k)(h4:k<=4000)(he:sb s=[]∨(sb s).getLast? = some 10):DecA m s l true :=
 qkl (by rw[h.1];exact h4) h.2.1 (by rw[h.2.2,<- hk,Z4]) he
theorem PrL.same {m:Fm}{s:ByteArray}{k:Nat}{l:List Ex}(h:PrL m s k l)(hk:(cutL (sb s)).length=k)(h4:k<=4000):(lnL m l=sb s->DecA m s l true)/\(lnL m l≠sb s->DecA m s [] false) :=
 ⟨fun e=>.inl ⟨rfl,by rw[h.1];exact h4,h.2.1,e⟩,fun e=>q8b fun he=>e (by
  rcases h.yes hk h4 he with ⟨-,-,-,q⟩ | ⟨q,-⟩
  . exact q
  . cases q)⟩
def UnO (m:Fm)(p:List UInt8)(i:Nat)(w:World)(x:Ending)(w':World):Prop:=∃y ok,x=.returned (.tuple #[ev y,.bool ok])/\UnA m p i y ok/\Below w.heap.size w w'
theorem UnO.of {m:Fm}{p:List UInt8}{i:Nat}{w:World}{x:Ending}{w':World}(y:Ex)(ok:Bool)(e:x=.returned (.tuple #[ev y,.bool ok]))(hu:UnA m p i y ok)(hb:Below w.heap.size w w'):UnO m p i w x w':=⟨y,ok,e,hu,hb⟩
def DcO (m:Fm)(s:ByteArray)(w:World)(x:Ending)(w':World):Prop:=∃u l ok,x=.returned (.tuple #[u,.bool ok])/\DecA m s l ok/\OwnE w' w.heap.size u l/\Below w.heap.size w w'
theorem DcO.of {m:Fm}{s:ByteArray}{w:World}{x:Ending}{w':World}{u:Value}(l:List Ex)(ok:Bool)(e:x=.returned (.tuple #[u,.bool ok]))(hd:DecA m s l ok)(ho:OwnE w' w.heap.size u l)(hb:Below w.heap.size w w'):DcO m s w x w':=⟨u,l,ok,e,hd,ho,hb⟩
theorem str_t (t:ByteArray):(t.toList==t.toList)=true:=by simp
theorem str_f {p t:ByteArray}(h:p≠t):(p.toList==t.toList)=false:=by
 rw[Ya,Yp,Yp]
 exact fun e=>h (ByteArray.ext (Array.toList_inj.1 e))
theorem sb_ext (s:ByteArray)(i j:Nat):sb (s.extract i j)=((sb s).take j).drop i:=by
 unfold sb
 rw[ByteArray.data_extract,Array.toList_extract]
 simp[List.extract,List.drop_take]
theorem run_ex (s:ByteArray){i j:Nat}(h1:i<=j)(h2:j<=s.size)(w:World):(Instr.slice 9 (.string s) (some (J6 (i:Nat))) (some (J6 (j:Nat))) none).run Tryz.prog w=.ok (.string (s.extract i j)) w:=by
 rw[run_slice_string w 9 s .i64 .i64 _ _ Tryz.underlying9 (by omega) (by omega) (by omega),show((i:Int)).toNat=i by omega,show((j:Int)).toNat=j by omega]
theorem qij (s:ByteArray){i:Nat}(h1:i<=s.size)(w:World):(Instr.slice 9 (.string s) (some (J6 (i:Nat))) none none).run Tryz.prog w=.ok (.string (s.extract i s.size)) w:=by
 rw[run_slice_string_from_if w 9 s .i64 _ Tryz.underlying9,Yv (by omega),show((i:Int)).toNat=i by omega]
theorem run_to (s:ByteArray){j:Nat}(h1:j<=s.size)(w:World):(Instr.slice 9 (.string s) none (some (J6 (j:Nat))) none).run Tryz.prog w=.ok (.string (s.extract 0 j)) w:=by
 rw[run_slice_string_to_if w 9 s .i64 _ Tryz.underlying9,Yv (by omega),show((j:Int)).toNat=j by omega]
structure CutI (s:ByteArray)(k fr:Nat)(l:List ByteArray):Prop where
 h1:fr<=k
 h2:k<=s.size
 h3:l.length<=fr
 h4:l.map sb++cutL ((sb s).drop fr)=cutL (sb s)
 h5:(10:UInt8) ∉ ((sb s).drop fr).take (k - fr)
theorem CutI.start (s:ByteArray):CutI s 0 0 []:=⟨nR _,nZ _,nR _,rfl,by simp⟩
theorem sb_at {s:ByteArray}{k:Nat}(h:k<s.size):(sb s)[k]'(by rw[sb_len];exact h)=s[k]:=by
 unfold sb
 rw[Array.getElem_toList]
 rfl
theorem CutI.pass {s:ByteArray}{k fr:Nat}{l:List ByteArray}(h:CutI s k fr l)(hk:k<s.size)(h10:s[k].toNat≠10):CutI s (k+1) fr l:=by
 have h1:=h.h1
 refine⟨by omega,by omega,h.h3,h.h4,fun hm=>?_⟩
 have hl:k - fr<((sb s).drop fr).length:=by rw[List.length_drop,sb_len];omega
 rw[show k+1 - fr=k - fr+1 by omega,Ym hl,Ze]at hm
 rcases hm with hm | hm
 . exact h.h5 hm
 . have e:=Zi.1 hm
   rw[List.getElem_drop]at e;have e2:(sb s)[fr+(k - fr)]'(by rw[sb_len];omega)=s[k]:=by
    rw[<- sb_at hk]
    congr 1
    omega
   rw[e2]at e;exact h10 (by rw[<- e];rfl)
theorem CutI.cut {s:ByteArray}{k fr:Nat}{l:List ByteArray}(h:CutI s k fr l)(hk:k<s.size)(h10:s[k].toNat=10):CutI s (k+1) (k+1) (l++[s.extract fr k]):=by
 have h1:=h.h1;have h3:=h.h3
 refine⟨nR _,by omega,by simp;omega,?_,by simp⟩
 have hb:sb (s.extract fr k)=((sb s).drop fr).take (k - fr):=by rw[sb_ext,List.drop_take]
 have e:(sb s).drop fr=sb (s.extract fr k)++10 :: (sb s).drop (k+1):=by
  rw[hb];have hc:s[k]=10:=UInt8.toNat_inj.1 h10;have hd:(sb s).drop k=10 :: (sb s).drop (k+1):=by rw[Zw (by rw[sb_len];exact hk),sb_at hk,hc]
  rw[<- hd,show(sb s).drop k=((sb s).drop fr).drop (k - fr) by rw[Oz];congr 1;omega,Vo]
 have h4:=h.h4
 rw[e,qfq (by rw[hb];exact h.h5)]at h4
 rw[Zc,Vi]
 exact h4
theorem CutI.end1 {s:ByteArray}{fr:Nat}{l:List ByteArray}(h:CutI s s.size fr l)(hf:fr<s.size):(l++[s.extract fr s.size]).map sb=cutL (sb s):=by
 have hl:((sb s).drop fr).length=s.size - fr:=by rw[List.length_drop,sb_len]
 have h5:=h.h5
 rw[<- hl,Z4]at h5
 rw[Zc,<- h.h4,qkk h5 (fun e=>by rw[e]at hl;simp at hl;omega)]
 show _++[sb _]=_
 rw[sb_ext,<- sb_len,Z4]
theorem CutI.end0 {s:ByteArray}{fr:Nat}{l:List ByteArray}(h:CutI s s.size fr l)(hf:¬ fr<s.size):l.map sb=cutL (sb s):=by
 rw[<- h.h4,List.drop_eq_nil_of_le (by rw[sb_len];omega)]
 show _=_++[]
 rw[Ou]
theorem qd9 (s:ByteArray)(w:World)(hs:s.size<=1048576) :
 Calls Tryz.prog 18 #[.string s] w fun x w'=>∃v l,x=.returned v/\OwnS w' w.heap.size v l/\l.map sb=cutL (sb s)/\Below w.heap.size w w':=by
 have HO0:=h_ (qdx w 9)
 have HB0:=h_ ((bR w.heap.size w).alloc (nR _) (.cells #[] 9))
 go_enter Tryz.func18,Tryz.ntmps18
 go_wp2_with fail
 go_loopw [3,4,5] (fun v f i wr=>∃(k fr:Nat) (l:List ByteArray),f=J6 fr/\i=J6 k/\CutI s k fr l/\OwnS wr w.heap.size v l/\Below w.heap.size w wr) (fun _ _ i _=>s.size - (intOf i).toNat)
 case atStart=>exact⟨0,0,[],rfl,rfl,CutI.start s,HO0.u,HB0.u⟩
 case round =>
  clear HO0 HB0;obtain⟨k,fr,l,rfl,rfl,hi,ho,hb⟩:=hrel;have HI:=h_ hi;have HO:=h_ ho;have HB:=h_ hb;have hfk:=hi.h1;have hks:=hi.h2;have hlf:=hi.h3;clear hi ho hb;by_cases hlt:k<s.size
  . have hlt':=i_lt hlt
    obtain⟨k1,hk1⟩:=Nq (k+1);have hk1':=i_one hk1;have hkk:k<k1:=(by omega);obtain⟨c,hc⟩:=Nq ((s[k]).toNat);have HP:=h_ (fun h=>HI.u.pass hlt h);have HC:=h_ (fun h=>HI.u.cut hlt h);rw[hc,hk1]at HP HC;by_cases h10:c=10
    . have h10':((c:Int)==10)=true:=by simp[h10]
      have HX:=h_ (HC.u h10);have hsub:=run_ex s hfk hks;obtain⟨t,ht⟩:=Nq (s.extract fr k);rw[ht]at hsub HX;clear h10 hk1 HP HC ht;have HN:Hi (Blk _ _ 9 [.string t]):=h_ (Blk.new wr 9 #[.string t]);have HS:=h_ ((bR wr.heap.size wr).alloc (nR _) (.cells #[.string t] 9));go_wp2_with (at_builtin;refine q7v (t:=t) rfl _ _ rfl rfl (HO.u.keep HS.u) rfl HN.u (by omega) (Zf HB.u.size HS.u.size) ?_);intro v' W9 ho hb9;have HO9:=h_ ho;have HB9:=h_ (HB.u.trans ((HS.u.mono HB.u.size).trans hb9));clear ho hb9;go_wp2_with fail;go_roundw
      case rel=>first | exact⟨k1,k1,_,rfl,rfl,HX.u,HO9.u,HB9.u⟩ | ((repeat apply Exists.intro);exact⟨⟨k1,k1,_,rfl,rfl,HX.u,HO9.u,HB9.u⟩,rfl⟩)
      case measure=>simp[intOf];exact Nat.sub_lt_sub_left hlt hkk
    . have h10':((c:Int)==10)=false:=Ya.2 (by omega)
      have HX:=h_ (HP.u h10);clear h10 hk1 HP HC;go_wp2_with fail;go_roundw
      case rel=>first | exact⟨k1,fr,l,rfl,rfl,HX.u,HO.u,HB.u⟩ | ((repeat apply Exists.intro);exact⟨⟨k1,fr,l,rfl,rfl,HX.u,HO.u,HB.u⟩,rfl⟩)
      case measure=>simp[intOf];exact Nat.sub_lt_sub_left hlt hkk
  . have hlt':=i_nlt hlt
    obtain rfl:k=s.size:=(by omega);by_cases hf:fr<s.size
    . have hf':=i_lt hf
      have HX:=h_ (HI.u.end1 hf);have hsub:=qij s hfk;obtain⟨t,ht⟩:=Nq (s.extract fr s.size);rw[ht]at hsub HX;clear ht HI;have HN:Hi (Blk _ _ 9 [.string t]):=h_ (Blk.new wr 9 #[.string t]);have HS:=h_ ((bR wr.heap.size wr).alloc (nR _) (.cells #[.string t] 9));go_wp2_with (at_builtin;refine q7v (t:=t) rfl _ _ rfl rfl (HO.u.keep HS.u) rfl HN.u (by omega) (Zf HB.u.size HS.u.size) ?_);intro v' W9 ho hb9;have HO9:=h_ ho;have HB9:=h_ (HB.u.trans ((HS.u.mono HB.u.size).trans hb9));clear ho hb9;go_wp2_with fail;go_ret
      first | exact⟨_,_,rfl,HO9.u,HX.u,HB9.u⟩ | exact⟨_,rfl,_,HO9.u,HX.u,HB9.u⟩
    . have hf':=i_nlt hf
      have HX:=h_ (HI.u.end0 hf);go_wp2_with fail;go_ret
      first | exact⟨_,_,rfl,HO.u,HX.u,HB.u⟩ | exact⟨_,rfl,_,HO.u,HX.u,HB.u⟩
def bgB (s t:ByteArray):Bool:=(sb t).isPrefixOf (sb s)
theorem bg_yes {s t:ByteArray}(h:bgB s t=true):sb s=sb t++sb (s.extract t.size s.size)/\t.size<=s.size:=by
 obtain⟨r,hr⟩:=Oi.1 h
 have hl:=congrArg List.length hr
 rw[Yd,sb_len,sb_len]at hl
 refine⟨?_,by omega⟩
 rw[sb_ext,<- sb_len s,Z4,<- hr,<- sb_len t,List.drop_left]
theorem bg_no {s t:ByteArray}(h:bgB s t=false):¬ sb t <+: sb s:=fun q=>by
 rw[show bgB s t=true from Oi.2 q]at h
 cases h
theorem bg_of {s t:ByteArray}:bgB s t=true ↔ s.extract 0 t.size=t:=by
 constructor
 . intro h
   obtain⟨r,hr⟩:=Oi.1 h;refine sb_inj ?_;rw[sb_ext,Oa,<- hr,<- sb_len t,List.take_left]
 . intro h
   have e:=congrArg sb h;rw[sb_ext,Oa]at e;exact Oi.2 (by rw[<- e];exact List.take_prefix _ _)
theorem q4a (s t:ByteArray)(w:World):Calls Tryz.prog 41 #[.string s,.string t] w fun x w'=>x=.returned (.bool (bgB s t))/\w'=w:=by
 by_cases h1:t.size<=s.size
 . have h1':(t.size:Int)<=s.size:=by omega
   have hsub:=run_to s h1;by_cases h2:s.extract 0 t.size=t
   . have HX:Hi (bgB s t=true):=h_ (bg_of.2 h2)
     rw[h2]at hsub;have h2':=str_t t;clear h2;go_enter Tryz.func41,Tryz.ntmps41;go_wp2_with fail;go_ret;rw[HX.u];exact⟨rfl,rfl⟩
   . have HX:Hi (bgB s t=false):=h_ (by
      cases hq:bgB s t
      . rfl
      . exact absurd (bg_of.1 hq) h2)
     obtain⟨p,hp⟩:=Nq (s.extract 0 t.size);rw[hp]at hsub h2;have h2':=str_f h2;clear hp h2;go_enter Tryz.func41,Tryz.ntmps41;go_wp2_with fail;go_ret;rw[HX.u];exact⟨rfl,rfl⟩
 . have h1':¬ (t.size:Int)<=s.size:=by omega
   have HX:Hi (bgB s t=false):=h_ (by
    cases hq:bgB s t
    . rfl
    . exact absurd (bg_yes hq).2 h1)
   clear h1;go_enter Tryz.func41,Tryz.ntmps41;go_wp2_with fail;go_ret;rw[HX.u];exact⟨rfl,rfl⟩
end Go.Proofs.YtgojgjlninakjaaGreatDoor
