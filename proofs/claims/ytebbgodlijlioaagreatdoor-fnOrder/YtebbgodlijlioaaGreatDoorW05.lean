import Derived.Test.YtebbgodlijlioaaGreatDoorW03
import Derived.Deep.WholeRow
import Derived.Laws.ResultCell
set_option maxRecDepth 100000
set_option maxHeartbeats 64000000
namespace Go.Proofs.YtebbgodlijlioaaGreatDoor
open Go Go.RowKit
theorem qd2 {α:Type}{f g:Nat->α}{k:Nat}(h:∀j,j<k->f j=g j)(h':f k=g k):∀j,j<k+1->f j=g j:=fun j hj=>by
 by_cases e:j=k
 . rw[e];exact h'
 . exact h j (by omega)
def bs (n:Nat)(f:Nat->Bool):List Value:=(List.range n).map fun k=>.bool (f k)
def is (n:Nat)(f:Nat->Int):List Value:=(List.range n).map fun k=>.int .i64 (f k)
theorem q8c {n:Nat}{xs:List Value}{g:Nat->Value}(hl:xs.length=n)(h:∀j,j<n->xs[j]? = some (g j)):xs=(List.range n).map g:=by
 apply List.ext_getElem?
 intro j
 by_cases hj:j<n
 . rw[h j hj];simp[hj]
 . rw[Vs (by omega),Vs (by simp;omega)]
theorem Blk.bools {w:World}{g n:Nat}{t:TypeId}{f:Nat->Bool}(h:Blk w g t (bs n f)):Bools w (some ⟨g,0,none⟩) n f:=fun k hk =>
 ⟨g,0,rfl,h.lt,by rw[Zj,h.cell];simp[bs,hk]⟩
theorem Blk.ints {w:World}{g n:Nat}{t:TypeId}{f:Nat->Int}(h:Blk w g t (is n f)):Ints w (some ⟨g,0,none⟩) n f:=fun k hk =>
 ⟨g,0,rfl,h.lt,by rw[Zj,h.cell];simp[is,hk]⟩
theorem qb0:(Tryz.prog.info? 4).map (fun i=>(i.zero,i.size,i.bytes))=some (some (.bool false),1,1):=by kernel_rfl
theorem qe8:(Tryz.prog.info? 3).map (fun i=>(i.zero,i.size,i.bytes))=some (some (J9 0),1,8):=by kernel_rfl
def us (g:Nat->Nat):List Value:=(List.range 32).map fun k=>.int .u32 (g k:Int)
theorem qd3 (g:Nat->Nat):(us g).length=32:=by simp[us]
theorem us_get (g:Nat->Nat){k:Nat}(h:k<32):(us g)[k]? = some (.int .u32 (g k:Int)):=by simp[us,h]
theorem us_set (g:Nat->Nat){k:Nat}(v:Nat)(h:k<32):(us g).set k (.int .u32 (v:Int))=us (fun j=>if j=k then v else g j):=by
 apply List.ext_getElem?
 intro j
 by_cases hj:j<32
 . rw[us_get _ hj]
   by_cases e:j=k
   . subst e;rw[List.getElem?_set_self (by rw[qd3];exact h)];simp
   . rw[List.getElem?_set_ne (fun h=>e h.symm),us_get _ hj];simp[e]
 . rw[Vs (by simp[qd3];omega),Vs (by rw[qd3];omega)]
theorem us_one (g:Nat->Nat):(us g).toArray.all (·.oneCell')=true:=by
 rw[Array.all_eq_true_iff_forall_mem]
 intro v hv
 simp only[us,List.mem_toArray,Zc]at hv
 obtain⟨k,-,rfl⟩:=hv
 rfl
theorem qcj:(Tryz.prog.info? 126).map (·.size)=some 32:=by kernel_rfl
theorem qln (g:Nat->Nat):(Tryz.prog.info? 126).map (·.size)=some (us g).toArray.size:=by rw[qcj];simp[us]
section
variable {ops:Array Oper} {rest:List Oper} {o:Oper} {a:Act} {w:World} {Q:Exit->Act->World->Prop}
theorem q0p (hgd:o.guard=none)(x:Operand)(ho:o.op=.load 126 x)(b:Nat)(g:Nat->Nat)(hx:a.eval x=Yc b 0)(hb:Blk w b 126 (us g))
 (h:wpList Tryz.prog ops Q rest (a.put o.dst (.agg (us g).toArray)) w):wpList Tryz.prog ops Q (o :: rest) a w :=
 wpList_load_row hgd 126 x ho b hx 126 (us g).toArray (0,0) _ hb Tryz.underlying126 rfl (qln g) h
theorem q0i (hgd:o.guard=none)(x y:Operand)(ho:o.op=.store 126 x y)(b:Nat)(g g':Nat->Nat)(hx:a.eval x=Yc b 0)(hy:a.eval y=.agg (us g').toArray)(hb:Blk w b 126 (us g))
 (h:∀w',Blk w' b 126 (us g')->w.grownBy w' (some b)->w'.heap.size=w.heap.size->wpList Tryz.prog ops Q rest (a.put o.dst undef) w'):wpList Tryz.prog ops Q (o :: rest) a w :=
 wpList_plain hgd fun _ hK=>wp_store_row 126 x y ho b (us g').toArray hx hy _ _ hb (qln g') (by simp[us]) (us_one g')
  (hK _ _ (h _ (setRow_heap w b _ _ _ _ hb) ⟨rfl,rfl,rfl,by simp,fun k _ hk=>setRow_other w b k _ (fun e=>hk (by rw[e]))⟩ (by simp)))
end
theorem idx_lt {n x y:Nat}(hx:x<n)(hy:y<n):x*n+y<n*n:=by
 have:(x+1)*n<=n*n:=Zs _ hx
 rw[Zw]at this;omega
theorem sq_le {n:Nat}(hn:n<=32):n*n<=1024:=Ox hn hn
theorem qb6 (a:Option Addr)(m c n x y:Nat)(f:Nat->Bool)(w:World)(hm:n*n<=m)(hx:x<n)(hy:y<n)(hn:n<=32)(ha:Bools w a m f) :
 Calls Tryz.prog 31 #[.slice a m c,J9 n,J9 x,J9 y] w fun e w'=>e=.returned (.bool (f (x*n+y)))/\w'=w:=by
 have h1:=idx_lt hx hy
 have h2:=sq_le hn
 obtain⟨b,o,rfl,-,hc⟩:=ha (x*n+y) (by omega)
 have h3:0<=(x:Int)*n:=by rw[<- Zi];omega
 have h4:(x:Int)*n+y<m:=by rw[<- Zi];omega
 have h5:(x:Int)*n<=1024:=by rw[<- Zi];omega
 clear ha h1 h2 hm
 go_enter Tryz.func31,Tryz.ntmps31
 go_wp2
 go_ret
 exact⟨rfl,rfl⟩
def isJoinP (f:Nat->Bool)(n a b c:Nat):Prop:=f (a*n+c)=true/\f (b*n+c)=true/\∀d,d<n->f (a*n+d)=true->f (b*n+d)=true->f (c*n+d)=true
def isJoin (f:Nat->Bool)(n a b c:Nat):Bool:=f (a*n+c)&&f (b*n+c)&&(List.range n).all fun d=>!f (a*n+d)||!f (b*n+d)||f (c*n+d)
theorem q7j {f:Nat->Bool}{n a b c:Nat}:isJoin f n a b c=true ↔ isJoinP f n a b c:=by
 simp only[isJoin,isJoinP,Yn,Y2,Y3,Zu,Bool.not_eq_true',and_assoc]
 refine and_congr_right fun _=>and_congr_right fun _=>forall_congr' fun d=>imp_congr_right fun _=>?_
 cases f (a*n+d) <;> cases f (b*n+d) <;> cases f (c*n+d) <;> simp
theorem q54 {f:Nat->Bool}{n a b c:Nat}(h:isJoinP f n a b c):isJoin f n a b c=true:=q7j.2 h
theorem q3i {f:Nat->Bool}{n a b c:Nat}(h:¬ isJoinP f n a b c):isJoin f n a b c=false:=by
 cases e:isJoin f n a b c
 . rfl
 . exact absurd (q7j.1 e) h
theorem q3l (t:Option Addr)(m cap n a b c:Nat)(f:Nat->Bool)(w:World)(hm:n*n<=m)(hn:n<=32)(ha:a<n)(hb:b<n)(hc:c<n)(ht:Bools w t m f) :
 Calls Tryz.prog 56 #[.slice t m cap,J9 n,J9 a,J9 b,J9 c] w fun e w'=>e=.returned (.bool (isJoin f n a b c))/\w'=w:=by
 have HM:=h_ hm;clear hm
 cases h1:f (a*n+c)
 . have HR:Hi (isJoin f n a b c=false):=q3i fun h=>Ve (h1.symm.trans h.1)
   go_enter Tryz.func56,Tryz.ntmps56;go_wp2_with (go_at_call 31;refine(qb6 _ _ _ _ _ _ f _ HM.u (by assumption) (by assumption) hn ht).mono ?_;rintro e w' ⟨rfl,rfl⟩);go_ret;exact⟨qg2 HR.u.symm,rfl⟩
 cases h2:f (b*n+c)
 . have HR:Hi (isJoin f n a b c=false):=q3i fun h=>Ve (h2.symm.trans h.2.1)
   go_enter Tryz.func56,Tryz.ntmps56;go_wp2_with (go_at_call 31;refine(qb6 _ _ _ _ _ _ f _ HM.u (by assumption) (by assumption) hn ht).mono ?_;rintro e w' ⟨rfl,rfl⟩);go_ret;exact⟨qg2 HR.u.symm,rfl⟩
 go_enter Tryz.func56,Tryz.ntmps56
 go_wp2_with (go_at_call 31;refine(qb6 _ _ _ _ _ _ f _ HM.u (by assumption) (by assumption) hn ht).mono ?_;rintro e w' ⟨rfl,rfl⟩)
 go_loop [11] (fun i=>∃k:Nat,k<=n/\i=J9 k/\∀d,d<k->f (a*n+d)=true->f (b*n+d)=true->f (c*n+d)=true) (fun i=>n - (intOf i).toNat)
 case atStart=>exact⟨0,nZ _,rfl,fun d h=>absurd h (nL _)⟩
 case round =>
  obtain⟨k,hk,rfl,hall⟩:=hrel;have HA:=h_ hall;clear hall;by_cases hlt:k<n
  . by_cases hbad:f (a*n+k)=true/\f (b*n+k)=true/\f (c*n+k)=false
    . obtain⟨h3,h4,h5⟩:=hbad
      have HR:Hi (isJoin f n a b c=false):=q3i fun h=>Ve (h5.symm.trans (h.2.2 k hlt h3 h4));go_wp2_with (go_at_call 31;refine(qb6 _ _ _ _ _ _ f _ HM.u (by assumption) (by assumption) hn ht).mono ?_;rintro e w' ⟨rfl,rfl⟩);go_ret;exact⟨qg2 HR.u.symm,rfl⟩
    . have HG:Hi (f (a*n+k)=true->f (b*n+k)=true->f (c*n+k)=true):=fun h3 h4=>by
       cases h5:f (c*n+k)
       . exact absurd ⟨h3,h4,h5⟩ hbad
       . rfl
      have HS:Hi (∀d,d<k+1->f (a*n+d)=true->f (b*n+d)=true->f (c*n+d)=true):=fun d hd=>by
       by_cases e:d=k
       . rw[e];exact HG.u
       . exact HA.u d (by omega)
      have hcs:f (a*n+k)=false∨(f (a*n+k)=true/\f (b*n+k)=false)∨(f (a*n+k)=true/\f (b*n+k)=true/\f (c*n+k)=true):=by
       cases h3:f (a*n+k)
       . exact .inl rfl
       . cases h4:f (b*n+k)
         . exact .inr (.inl ⟨rfl,rfl⟩)
         . exact .inr (.inr ⟨rfl,rfl,HG.u h3 h4⟩)
      clear hbad;rcases hcs with h3 | ⟨h3,h4⟩ | ⟨h3,h4,h5⟩
      all_goals
       go_wp2_with (go_at_call 31;refine(qb6 _ _ _ _ _ _ f _ HM.u (by assumption) (by assumption) hn ht).mono ?_;rintro e w' ⟨rfl,rfl⟩)
       go_round
       case rel=>exact⟨k+1,by omega,by go_num,HS.u⟩
       case measure=>simp[intOf];omega
  . have HR:Hi (isJoin f n a b c=true):=q54 ⟨h1,h2,fun d hd=>HA.u d (by omega)⟩
    go_wp2;go_ret;exact⟨qg2 HR.u.symm,rfl⟩
def isMeetP (f:Nat->Bool)(n a b c:Nat):Prop:=f (c*n+a)=true/\f (c*n+b)=true/\∀d,d<n->f (d*n+a)=true->f (d*n+b)=true->f (d*n+c)=true
def isMeet (f:Nat->Bool)(n a b c:Nat):Bool:=f (c*n+a)&&f (c*n+b)&&(List.range n).all fun d=>!f (d*n+a)||!f (d*n+b)||f (d*n+c)
theorem q7m {f:Nat->Bool}{n a b c:Nat}:isMeet f n a b c=true ↔ isMeetP f n a b c:=by
 simp only[isMeet,isMeetP,Yn,Y2,Y3,Zu,Bool.not_eq_true',and_assoc]
 refine and_congr_right fun _=>and_congr_right fun _=>forall_congr' fun d=>imp_congr_right fun _=>?_
 cases f (d*n+a) <;> cases f (d*n+b) <;> cases f (d*n+c) <;> simp
theorem q56 {f:Nat->Bool}{n a b c:Nat}(h:isMeetP f n a b c):isMeet f n a b c=true:=q7m.2 h
theorem q3k {f:Nat->Bool}{n a b c:Nat}(h:¬ isMeetP f n a b c):isMeet f n a b c=false:=by
 cases e:isMeet f n a b c
 . rfl
 . exact absurd (q7m.1 e) h
theorem q3m (t:Option Addr)(m cap n a b c:Nat)(f:Nat->Bool)(w:World)(hm:n*n<=m)(hn:n<=32)(ha:a<n)(hb:b<n)(hc:c<n)(ht:Bools w t m f) :
 Calls Tryz.prog 57 #[.slice t m cap,J9 n,J9 a,J9 b,J9 c] w fun e w'=>e=.returned (.bool (isMeet f n a b c))/\w'=w:=by
 have HM:=h_ hm;clear hm
 cases h1:f (c*n+a)
 . have HR:Hi (isMeet f n a b c=false):=q3k fun h=>Ve (h1.symm.trans h.1)
   go_enter Tryz.func57,Tryz.ntmps57;go_wp2_with (go_at_call 31;refine(qb6 _ _ _ _ _ _ f _ HM.u (by assumption) (by assumption) hn ht).mono ?_;rintro e w' ⟨rfl,rfl⟩);go_ret;exact⟨qg2 HR.u.symm,rfl⟩
 cases h2:f (c*n+b)
 . have HR:Hi (isMeet f n a b c=false):=q3k fun h=>Ve (h2.symm.trans h.2.1)
   go_enter Tryz.func57,Tryz.ntmps57;go_wp2_with (go_at_call 31;refine(qb6 _ _ _ _ _ _ f _ HM.u (by assumption) (by assumption) hn ht).mono ?_;rintro e w' ⟨rfl,rfl⟩);go_ret;exact⟨qg2 HR.u.symm,rfl⟩
 go_enter Tryz.func57,Tryz.ntmps57
 go_wp2_with (go_at_call 31;refine(qb6 _ _ _ _ _ _ f _ HM.u (by assumption) (by assumption) hn ht).mono ?_;rintro e w' ⟨rfl,rfl⟩)
 go_loop [11] (fun i=>∃k:Nat,k<=n/\i=J9 k/\∀d,d<k->f (d*n+a)=true->f (d*n+b)=true->f (d*n+c)=true) (fun i=>n - (intOf i).toNat)
 case atStart=>exact⟨0,nZ _,rfl,fun d h=>absurd h (nL _)⟩
 case round =>
  obtain⟨k,hk,rfl,hall⟩:=hrel;have HA:=h_ hall;clear hall;by_cases hlt:k<n
  . by_cases hbad:f (k*n+a)=true/\f (k*n+b)=true/\f (k*n+c)=false
    . obtain⟨h3,h4,h5⟩:=hbad
      have HR:Hi (isMeet f n a b c=false):=q3k fun h=>Ve (h5.symm.trans (h.2.2 k hlt h3 h4));go_wp2_with (go_at_call 31;refine(qb6 _ _ _ _ _ _ f _ HM.u (by assumption) (by assumption) hn ht).mono ?_;rintro e w' ⟨rfl,rfl⟩);go_ret;exact⟨qg2 HR.u.symm,rfl⟩
    . have HG:Hi (f (k*n+a)=true->f (k*n+b)=true->f (k*n+c)=true):=fun h3 h4=>by
       cases h5:f (k*n+c)
       . exact absurd ⟨h3,h4,h5⟩ hbad
       . rfl
      have HS:Hi (∀d,d<k+1->f (d*n+a)=true->f (d*n+b)=true->f (d*n+c)=true):=fun d hd=>by
       by_cases e:d=k
       . rw[e];exact HG.u
       . exact HA.u d (by omega)
      have hcs:f (k*n+a)=false∨(f (k*n+a)=true/\f (k*n+b)=false)∨(f (k*n+a)=true/\f (k*n+b)=true/\f (k*n+c)=true):=by
       cases h3:f (k*n+a)
       . exact .inl rfl
       . cases h4:f (k*n+b)
         . exact .inr (.inl ⟨rfl,rfl⟩)
         . exact .inr (.inr ⟨rfl,rfl,HG.u h3 h4⟩)
      clear hbad;rcases hcs with h3 | ⟨h3,h4⟩ | ⟨h3,h4,h5⟩
      all_goals
       go_wp2_with (go_at_call 31;refine(qb6 _ _ _ _ _ _ f _ HM.u (by assumption) (by assumption) hn ht).mono ?_;rintro e w' ⟨rfl,rfl⟩)
       go_round
       case rel=>exact⟨k+1,by omega,by go_num,HS.u⟩
       case measure=>simp[intOf];omega
  . have HR:Hi (isMeet f n a b c=true):=q56 ⟨h1,h2,fun d hd=>HA.u d (by omega)⟩
    go_wp2;go_ret;exact⟨qg2 HR.u.symm,rfl⟩
theorem blk1 (w:World)(o2 o3:Obj)(c:Array Value)(t:TypeId):Blk (((w.alloc (.cells c t)).alloc o2).alloc o3) w.heap.size t c.toList:=((Blk.new w t c).alloc o2).alloc o3
theorem blk3 (w:World)(o1 o2:Obj)(c:Array Value)(g:Nat->Nat)(h:c.toList=us g):Blk (((w.alloc o1).alloc o2).alloc (.cells c 126)) (w.heap.size+1+1) 126 (us g):=by
 rw[<- h];simpa using Blk.new ((w.alloc o1).alloc o2) 126 c
theorem blk2 (w:World)(o1 o3:Obj)(c:Array Value)(g:Nat->Nat)(h:c.toList=us g):Blk (((w.alloc o1).alloc (.cells c 126)).alloc o3) (w.heap.size+1) 126 (us g):=by
 rw[<- h];simpa using (Blk.new (w.alloc o1) 126 c).alloc o3
theorem below3 (w:World)(o1 o2 o3:Obj):Below w.heap.size w (((w.alloc o1).alloc o2).alloc o3):=(((bR _ w).alloc (nR _) o1).alloc (by simp) o2).alloc (by simp;omega) o3
def IsRel (g:Nat->Nat)(R:Nat->Nat->Bool):Prop:=∀a,a<32->g a<4294967296/\∀b,(g a).testBit b=R a b
theorem qkw (b i:Nat):(2 ^ b).testBit i=decide (b=i):=by rw[Va]
theorem IsRel.add {g:Nat->Nat}{R:Nat->Nat->Bool}(h:IsRel g R){x y:Nat}(hx:x<32)(hy:y<32) :
 IsRel (fun j=>if j=x then g x ||| 2 ^ y else g j) (fun a b=>R a b||(decide (a=x)&&decide (b=y))):=fun a ha=>by
 by_cases e:a=x
 . subst e
   simp only[if_true];refine⟨or_lt (h a ha).1 (two_lt hy),fun b=>?_⟩;rw[Ow,(h a ha).2 b,qkw];cases R a b <;> simp[eq_comm]
 . simp only[Yt e]
   refine⟨(h a ha).1,fun b=>?_⟩;rw[(h a ha).2 b];simp[e]
theorem IsRel.congr {g:Nat->Nat}{R R':Nat->Nat->Bool}(h:IsRel g R)(hR:∀a b,a<32->R a b=R' a b):IsRel g R':=fun a ha=>⟨(h a ha).1,fun b=>((h a ha).2 b).trans (hR a b ha)⟩
def part (f:Nat->Bool)(n i:Nat):Nat->Nat->Bool:=fun a b=>decide (b<n)&&decide (a*n+b<i)&&f (a*n+b)
end Go.Proofs.YtebbgodlijlioaaGreatDoor
namespace Go.Proofs.YtebbgodlijlioaaGreatDoor
open Go Go.RowKit Go.Shelf
attribute [local go_sem] Oper.semAt_some
def Reach (g:Nat->Nat)(a b:Nat):Prop:=∀C:Nat->Prop,C a->(∀x y,C x->x<32->(g x).testBit y=true->C y)->C b
theorem Reach.refl (g:Nat->Nat)(a:Nat):Reach g a a:=fun _ h _=>h
theorem Reach.step {g:Nat->Nat}{a x y:Nat}(h:Reach g a x)(hx:x<32)(hy:(g x).testBit y=true):Reach g a y:=fun C h0 hs=>hs x y (h C h0 hs) hx hy
structure Walk (g:Nat->Nat)(a todo done:Nat)(pre:List Nat):Prop where
 t32:todo<4294967296
 d32:done<4294967296
 came:∀i,i∈pre ↔ done.testBit i=true
 apart:∀i,todo.testBit i=true->done.testBit i=false
 reach:∀i,(todo.testBit i=true∨done.testBit i=true)->Reach g a i
 start:todo.testBit a=true∨done.testBit a=true
 shut:∀x y,done.testBit x=true->(g x).testBit y=true->todo.testBit y=true∨done.testBit y=true
theorem Walk.init (g:Nat->Nat)(a:Nat)(ha:a<32):Walk g a (2 ^ a) 0 [] where
 t32:=two_lt ha
 d32:=by decide
 came:=fun i=>by simp
 apart:=fun i _=>by simp
 reach:=fun i h=>by
  rw[Va]at h;simp at h;subst h;exact Reach.refl _ _
 start:=.inl (by simp)
 shut:=fun x y h=>by simp at h
theorem Walk.next {g:Nat->Nat}{a todo done x:Nat}{pre:List Nat}(h:Walk g a todo done pre)(hg:∀a,a<32->g a<4294967296)(hx:x<32)(hb:todo.testBit x=true) :
 Walk g a (minusN (todo ||| g x) (done ||| 2 ^ x)) (done ||| 2 ^ x) (pre++[x]):=by
 have o1:=or_lt h.t32 (hg x hx)
 have o2:=or_lt h.d32 (two_lt hx)
 have tb:∀i,(minusN (todo ||| g x) (done ||| 2 ^ x)).testBit i=((todo.testBit i||(g x).testBit i)&&!(done.testBit i||decide (x=i))):=fun i=>by
  rw[q8f o1 o2,Ow,Ow,Va]
 have db:∀i,(done ||| 2 ^ x).testBit i=(done.testBit i||decide (x=i)):=fun i=>by rw[Ow,Va]
 refine⟨qbh o1,o2,fun i=>?_,fun i hi=>?_,fun i hi=>?_,?_,fun y z hy hz=>?_⟩
 . rw[Zb,Yw,h.came i,db,Zu,decide_eq_true_iff]
   exact or_congr_right ⟨Eq.symm,Eq.symm⟩
 . rw[tb]at hi;rw[db];simp at hi⊢;exact hi.2
 . rw[tb,db]at hi
   cases hd:(done.testBit i||decide (x=i))
   . rw[hd]at hi;simp at hi
     rcases hi with hi | hi
     . exact h.reach i (.inl hi)
     . exact(h.reach x (.inl hb)).step hx hi
   . simp at hd
     rcases hd with hd | hd
     . exact h.reach i (.inr hd)
     . subst hd;exact h.reach x (.inl hb)
 . rw[tb,db]
   cases hd:(done.testBit a||decide (x=a))
   . simp at hd
     rcases h.start with hs | hs
     . simp[hs]
     . rw[hs]at hd;simp at hd
   . exact .inr rfl
 . rw[tb,db]
   rw[db]at hy;cases hd:(done.testBit z||decide (x=z))
   . simp at hd hy
     rcases hy with hy | hy
     . rcases h.shut y z hy hz with h1 | h1
       . simp[h1]
       . rw[h1]at hd;simp at hd
     . subst hy;simp[hz]
   . exact .inr rfl
theorem Walk.finish {g:Nat->Nat}{a done:Nat}{pre:List Nat}(h:Walk g a 0 done pre):∀i,i∈pre ↔ Reach g a i:=fun i=>by
 rw[h.came i]
 constructor
 . exact fun hi=>h.reach i (.inr hi)
 . intro hr
   refine hr (fun i=>done.testBit i=true) ?_ ?_
   . rcases h.start with hs | hs
     . simp at hs
     . exact hs
   . intro x y hx _ hy
     rcases h.shut x y hx hy with h1 | h1
     . simp at h1
     . exact h1
theorem qkg {d x:Nat}(h:d.testBit x=false):d<d ||| 2 ^ x:=by
 apply Nat.lt_of_le_of_ne Nat.left_le_or
 intro e
 have:(d ||| 2 ^ x).testBit x=true:=by rw[Ow,Va];simp
 rw[<- e,h]at this;cases this
theorem qgk {W':World}{O:Nat}{c:Value}(h:Blk W' O 124 [c])(v:Value)(o1 o2 o3 o4:Obj) :
 Blk (((((W'.alloc o1).alloc o2).alloc o3).alloc o4).setCell ⟨O,0,none⟩ v).drew O 124 [v]/\KeepX (fun j=>j=O) W' (((((W'.alloc o1).alloc o2).alloc o3).alloc o4).setCell ⟨O,0,none⟩ v).drew /\
  (∀B,B<=O->O<W'.heap.size->Below B W' (((((W'.alloc o1).alloc o2).alloc o3).alloc o4).setCell ⟨O,0,none⟩ v).drew):=by
 have hb:=below4 W' o1 o2 o3 o4
 exact⟨(h.mono hb h.lt).set 0 v,((KeepX.of_below hb).trans (KeepX.set (X:=fun j=>j=O) (a:=⟨O,0,none⟩) v rfl)).trans ⟨nR _,fun _ _ _ _ _ h=>h⟩,fun B hB hO=>((hb.mono (by omega)).setCell (p:=⟨O,0,none⟩) hB v).drew⟩
theorem below6 (w:World)(o1 o2 o3 o4 o5 o6:Obj):Below w.heap.size w ((((((w.alloc o1).alloc o2).alloc o3).alloc o4).alloc o5).alloc o6):=((below4 w o1 o2 o3 o4).alloc (by simp;omega) o5).alloc (by simp;omega) o6
theorem qch {W':World}{O:Nat}{c:Value}(h:Blk W' O 124 [c])(v:Value)(o1 o2 o3 o4 o5 o6:Obj) :
 Blk (((((((W'.alloc o1).alloc o2).alloc o3).alloc o4).alloc o5).alloc o6).setCell ⟨O,0,none⟩ v).drew O 124 [v]/\KeepX (fun j=>j=O) W' (((((((W'.alloc o1).alloc o2).alloc o3).alloc o4).alloc o5).alloc o6).setCell ⟨O,0,none⟩ v).drew /\
  (∀B,B<=O->O<W'.heap.size->Below B W' (((((((W'.alloc o1).alloc o2).alloc o3).alloc o4).alloc o5).alloc o6).setCell ⟨O,0,none⟩ v).drew):=by
 have hb:=below6 W' o1 o2 o3 o4 o5 o6
 exact⟨(h.mono hb h.lt).set 0 v,((KeepX.of_below hb).trans (KeepX.set (X:=fun j=>j=O) (a:=⟨O,0,none⟩) v rfl)).trans ⟨nR _,fun _ _ _ _ _ h=>h⟩,fun B hB hO=>((hb.mono (by omega)).setCell (p:=⟨O,0,none⟩) hB v).drew⟩
theorem q4i (Ba Bs a:Nat)(g:Nat->Nat)(w0:World)(X:Nat->Prop)(ha:a<32)(hg:∀a,a<32->g a<4294967296)(hA:Blk w0 Ba 3 [J9 (a:Int)])(hB:Blk w0 Bs 126 (us g))(ht:Tab w0)(hXB:¬ X Bs)(hX0:¬ X 1) :
 Gives Tryz.prog 155 #[Yc Ba 0,Yc Bs 0] (fun x=>x<32) (fun xs=>∀i,i∈xs ↔ Reach g a i) (fun _=>True) X w0:=by
 intro n l J Jx W hb hJ hJx hX hY h0
 have hT:=ht.mono hb
 have bA:=hA.mono hb hA.lt
 have bS:=hB.mono hb hB.lt
 have c0:=bA.cell 0
 simp only[Yh]at c0
 have hW0:=hT.pos
 have HY:=h_ hY;clear hY
 refine callsIn_of_wp Tryz.func155 rfl trivial ?_ rfl
 simp only[Tryz.ntmps155,Zh,Ys,Y4,Nat.reduceAdd,Nat.reduceSub,Z9,Z8,Vg,Vb,Vj,Zn]
 gi_wp2_with fail
 refine callW ((qke _ _ ha).mono ?_)
 rintro e w1 ⟨rfl,rfl⟩
 gi_wp2_with fail
 have bT:=(Blk.new (W.alloc (.cells (#[.int .u32 ((2 ^ a:Nat):Int)]) 124)) 124 (#[.int .u32 ((2 ^ a:Nat):Int)])).alloc (.cells #[.int .u32 0] 124)
 have bD:=Blk.new ((W.alloc (.cells (#[.int .u32 ((2 ^ a:Nat):Int)]) 124)).alloc (.cells (#[.int .u32 ((2 ^ a:Nat):Int)]) 124)) 124 #[.int .u32 0]
 have bw:=below3 W (.cells (#[.int .u32 ((2 ^ a:Nat):Int)]) 124) (.cells (#[.int .u32 ((2 ^ a:Nat):Int)]) 124) (.cells #[.int .u32 0] 124)
 simp only[Yx,O9,Ou]at bT bD bw
 clear c0
 gi_loopw [6] (fun _ wr=>∃(todo done:Nat) (pre:List Nat),Blk wr (W.heap.size+1) 124 [.int .u32 (todo:Int)]/\Blk wr (W.heap.size+1+1) 124 [.int .u32 (done:Int)]/\Blk wr Bs 126 (us g)/\Tab wr/\J pre wr/\Walk g a todo done pre) (fun _ wr=>4294967296 - natAt wr (Yc (W.heap.size+1+1) 0))
 case atStart=>exact⟨2 ^ a,0,[],by simpa using bT,bD,bS.mono bw bS.lt,hT.mono bw,hJ _ _ _ h0 bw,Walk.init g a ha⟩
 case round =>
  have lS:=bS.lt;clear bT bD bw h0 hT bS bA;obtain⟨todo,done,pre,hT1,hD1,hS1,hTab,hj,hw⟩:=hrel;have c1:=hT1.cell 0;simp only[Yh]at c1;have t32:=hw.t32;have sD:=hD1.lt;have sT:=hT1.lt;have K1:=fun o=>(hT1.alloc o).cell 0;simp only[Yh]at K1;have hsz:W.heap.size<=wr.heap.size:=by omega
  have HT1:=h_ hT1;have HD1:=h_ hD1;have HS1:=h_ hS1;have HTAB:=h_ hTab;have HJ:=h_ hj;have HW:=h_ hw;clear hT1 hD1 hS1 hTab hj hw;by_cases hz:todo=0
  . subst hz
    have hzb:((0:Nat)==0)=true:=rfl;gi_wp2_with fail;refine callW ((qaf _ _).mono ?_);rintro e w1 ⟨rfl,rfl⟩;gi_wp2_with fail
    go_end0
    exact⟨⟨_,rfl⟩,.inl ⟨pre,HW.u.finish,hJ _ _ _ HJ.u (((bR wr.heap.size _).alloc (nR _) _).mono hsz)⟩⟩
  . have hzb:(todo==0)=false:=by simpa using hz
    have hcb:=qi9 t32 hz;have hl3:=q8e todo (wr.alloc (.cells #[.int .u32 (todo:Int)] 124)) t32 hz (HTAB.u.mono ((bR _ _).alloc (nR _) _));obtain⟨x,hx⟩:=Nq (Lib.ctz 32 todo);rw[hx]at hcb hl3;have HL3:=h_ hl3;have x32:=hcb.1;have HXB:=h_ hcb.2;clear hz hx hcb hl3;have hB2:Below wr.heap.size wr ((wr.alloc (.cells #[.int .u32 (todo:Int)] 124)).alloc (.cells #[.int .u32 (todo:Int)] 124)):=((bR _ _).alloc (nR _) _).alloc (by simp) _;have hyy:=HY.u (n - 1) pre x _ (hJ _ _ _ HJ.u (hB2.mono hsz)) x32;have HB2:=h_ hB2;clear hB2;obtain⟨fn,tmps,assign,body,hy,hRd⟩:=hyy;have HRD:=h_ hRd;clear hRd;gi_wp2_with fail;refine callW ((qaf _ _).mono ?_);rintro e w1 ⟨rfl,rfl⟩;gi_wp2_with fail;refine callW (HL3.u.mono ?_);rintro e w1 ⟨rfl,rfl⟩;gi_wp2_with fail;refine⟨noDepth,HRD.u.mono ?_⟩;rintro e W3 (⟨rfl,hj3,hk3⟩ | ⟨rfl,hjx3⟩)
    . have bT:=hk3.blk (HT1.u.mono HB2.u HT1.u.lt) (fun h=>by have:=hX _ h;omega)
      have bD:=hk3.blk (HD1.u.mono HB2.u HD1.u.lt) (fun h=>by have:=hX _ h;omega);have bS:=hk3.blk (HS1.u.mono HB2.u HS1.u.lt) hXB;have hT3:=(HTAB.u.mono HB2.u).keep hk3 hX0;clear hk3 c1 K1 hy HRD HL3 HB2;have d32:=HW.u.d32;have c2:=bD.cell 0;simp only[Yh]at c2;have f2:=bD.free 0;have l2:=bD.lt;have K4:=bD.cell4 0;have F4:=bD.free4 0;simp only[Yh]at K4;have hmix:Tryz.prog.follows .mixedOrders=true:=(by kernel_rfl);have x2:=two_lt x32;have BT:=h_ bT;have BD:=h_ bD;have BS:=h_ bS;have HT3:=h_ hT3;have HJ3:=h_ hj3;clear bT bD bS hT3 hj3;gi_wp2_with fail
      gi_region_with_o (first | (refine callW ((qke _ _ x32).mono ?_);rintro e w' ⟨rfl,rfl⟩) | (refine callW ((qd0 _ _ _ d32 x2).mono ?_);rintro e w' ⟨rfl,rfl⟩))
      all_goals
       gi_wp2_with fail;have hst:=qgk BD.u (.int .u32 ((done ||| 2 ^ x:Nat):Int)) (.cells (#[.int .u32 ((2 ^ x:Nat):Int)]) 124) (.cells #[.int .u32 (done:Int)] 124) (.cells (#[.int .u32 ((2 ^ x:Nat):Int)]) 124) (.cells (#[.int .u32 ((done ||| 2 ^ x:Nat):Int)]) 124);simp only[O9,Ou]at hst;obtain⟨s1,s2,s3⟩:=hst;replace s3:=s3 W.heap.size (by omega) l2;obtain⟨W4,hW4⟩:=Nq ((((((W3.alloc (.cells #[.int .u32 (2 ^ x)] 124)).alloc (.cells #[.int .u32 (done:Int)] 124)).alloc (.cells #[.int .u32 (2 ^ x)] 124)).alloc (.cells (#[.int .u32 ((done ||| 2 ^ x:Nat):Int)]) 124)).setCell ⟨W.heap.size+1+1,0,none⟩ (.int .u32 ((done ||| 2 ^ x:Nat):Int))).drew);rw[hW4]at s1 s2 s3⊢;clear hW4 K4 F4 c2 f2;have bT:=s2.blk BT.u (by omega);have bS:=s2.blk BS.u (by omega);have hT4:=HT3.u.keep s2 (by omega);have hJ4:=hJ _ _ _ HJ3.u s3;have gx:=hg x x32;have cT:=bT.cell 0;have cD:=s1.cell 0;have cS:=bS.cell x;simp only[Yh]at cT cD;rw[us_get g x32]at cS;have K3D:=fun o1 o2 o3=>(s1.mono (below3 W4 o1 o2 o3) s1.lt).cell 0;have K6T:=fun o1 o2 o3 o4 o5 o6=>(bT.mono (below6 W4 o1 o2 o3 o4 o5 o6) bT.lt).cell 0;have F6T:=fun o1 o2 o3 o4 o5 o6=>(bT.mono (below6 W4 o1 o2 o3 o4 o5 o6) bT.lt).free 0;simp only[Yh]at K3D K6T;have o1:=or_lt t32 gx;have o2:=or_lt d32 x2;have lT:=bT.lt;have x0i:(0:Int)<=x:=(by omega);have x1i:(x:Int)<32:=(by omega);have B1:=h_ s1;have B2:=h_ bT;have B3:=h_ bS;have B4:=h_ hT4;have B5:=h_ hJ4;clear s1 s2 s3 bT bS hT4 hJ4 BT BD BS HT3 HJ3
       gi_region_with_o (first | (refine callW ((qd0 _ _ _ t32 gx).mono ?_);rintro e w' ⟨rfl,rfl⟩) | (refine callW ((qbi _ _ _ o1 o2).mono ?_);rintro e w' ⟨rfl,rfl⟩))
       all_goals
        gi_wp2_with fail;have hst:=qch B2.u (.int .u32 ((minusN (todo ||| g x) (done ||| 2 ^ x):Nat):Int)) (.cells #[.int .u32 (todo:Int)] 124) (.cells #[.int .u32 (g x:Int)] 124) (.cells (#[.int .u32 ((todo ||| g x:Nat):Int)]) 124) (.cells (#[.int .u32 ((todo ||| g x:Nat):Int)]) 124) (.cells (#[.int .u32 ((done ||| 2 ^ x:Nat):Int)]) 124) (.cells (#[.int .u32 ((minusN (todo ||| g x) (done ||| 2 ^ x):Nat):Int)]) 124);obtain⟨s1,s2,s3⟩:=hst;have bD:=s2.blk B1.u (by omega);refine⟨⟨_,_,pre++[x],s1,bD,s2.blk B3.u (by omega),B4.u.keep s2 (by omega),hJ _ _ _ B5.u (s3 W.heap.size (by omega) lT),HW.u.next hg x32 HXB.u⟩,?_⟩;have h1:=bD.cell 0;have h2:=HD1.u.cell 0;simp only[Yh]at h1 h2;rw[qf3 h1,qf3 h2];have:=qkg (HW.u.apart x HXB.u);omega
    . gi_wp2_with fail
      exact bodyPost_ret (results_none rfl _ _ _) rfl ⟨⟨_,rfl⟩,.inr ⟨pre++[x],trivial,hjx3⟩⟩
theorem q9i (g:Nat->Nat)(a:Nat)(w:World) :
 Calls Tryz.prog 124 #[.agg (us g).toArray,J9 (a:Int)] w fun e w'=>e=.returned (.func (.func 155) #[] #[Yc (w.heap.size+1) 0,Yc w.heap.size 0])/\w'=(w.alloc (.cells (us g).toArray 126)).alloc (.cells #[J9 (a:Int)] 3):=by
 go_enter Tryz.func124,Tryz.ntmps124
 go_wp2
 go_ret
 exact⟨rfl,rfl⟩
section
variable {n:Nat} {ops:Array Oper} {rest:List Oper} {o:Oper} {a:Act} {w:World} {Q:Exit->Act->World->Prop}
theorem q05 (hgd:o.guard=none)(x:Operand)(ho:o.op=.load 126 x)(b:Nat)(g:Nat->Nat)(hx:a.eval x=Yc b 0)(hb:Blk w b 126 (us g))
 (h:wpListIn Fence.wide n Tryz.prog ops Q rest (a.put o.dst (.agg (us g).toArray)) w):wpListIn Fence.wide n Tryz.prog ops Q (o :: rest) a w :=
 wpListIn_plain hgd fun _ hK=>⟨fun _ _=>trivial,by
  simp only[Fence.wide,Oper.semAt,execOp,ho,hx,Instr.loadAt,Instr.sureAddr,Sem.run_bind,Sem.run_pure,Result.andThen_ok,run_loadVar_row w b 126 126 (us g).toArray (0,0) _ hb Tryz.underlying126 rfl (qln g)];exact hK _ _ h⟩
theorem q02 (hgd:o.guard=none)(x y:Operand)(ho:o.op=.store 126 x y)(b:Nat)(g g':Nat->Nat)(hx:a.eval x=Yc b 0)(hy:a.eval y=.agg (us g').toArray)(hb:Blk w b 126 (us g))
 (h:∀w',Blk w' b 126 (us g')->w.grownBy w' (some b)->w'.heap.size=w.heap.size->wpListIn Fence.wide n Tryz.prog ops Q rest (a.put o.dst undef) w'):wpListIn Fence.wide n Tryz.prog ops Q (o :: rest) a w :=
 wpListIn_plain hgd fun _ hK=>⟨fun _ _=>trivial,by
  simp only[Fence.wide,Oper.semAt,execOp,ho,hx,hy,Instr.storeAt,Instr.sureAddr,Sem.run_bind,Sem.run_pure,Result.andThen_ok,run_storeVar_row w b 126 126 _ (us g').toArray hb (qln g') (by simp[us]) (us_one g')];exact hK _ _ (h _ (setRow_heap w b _ _ _ _ hb) ⟨rfl,rfl,rfl,by simp,fun k _ hk=>setRow_other w b k _ (fun e=>hk (by rw[e]))⟩ (by simp))⟩
end
def marks (Ds:List Nat):List Deferred:=Ds.map fun D=>{ target:=.collected D,args:=#[] }
def Shut (B:Nat)(W:World)(Ds:List Nat):Prop:=Ds.Nodup/\∀D∈Ds,B<=D/\W.heap[D]? = some (.deferred (some []))
theorem Shut.nil (B:Nat)(W:World):Shut B W []:=⟨List.nodup_nil,fun _ h=>by cases h⟩
theorem Shut.keep {B:Nat}{W W':World}{Ds:List Nat}(h:Shut B W Ds)(k:KeepsOthers W W'):Shut B W' Ds:=⟨h.1,fun D hD=>⟨(h.2 D hD).1,k.same D _ (h.2 D hD).2 rfl⟩⟩
theorem Shut.below {B N:Nat}{W W':World}{Ds:List Nat}(h:Shut B W Ds)(hb:Below N W W')(hN:∀D∈Ds,D<N):Shut B W' Ds:=⟨h.1,fun D hD=>⟨(h.2 D hD).1,(hb.block D (hN D hD)).trans (h.2 D hD).2⟩⟩
theorem Shut.lt {B:Nat}{W:World}{Ds:List Nat}(h:Shut B W Ds):∀D∈Ds,D<W.heap.size:=fun D hD=>(Yr.1 (h.2 D hD).2).1
theorem Shut.cons {B D:Nat}{W:World}{Ds:List Nat}(h:Shut B W Ds)(hD:B<=D)(hd:W.heap[D]? = some (.deferred (some [])))(hn:D ∉ Ds):Shut B W (D :: Ds) :=
 ⟨Oa.2 ⟨hn,h.1⟩,fun E hE=>by
  rcases Zy.1 hE with rfl | hE
  . exact⟨hD,hd⟩
  . exact h.2 E hE⟩
theorem q41 {P:Program}{fn:Func}{tmps:Array Value}{R:Ending->World->Prop}{n B:Nat}:∀(Ds:List Nat) (W:World),Shut B W Ds ->
 (∀W',KeepX (fun _=>False) W W'->Below B W W'->∃v,(results fn tmps).run P W'=.ok v W'/\R (.returned v) W')->LeavesInM Fence.wide n P fn tmps R (marks Ds) .returning W
 | [],W,_,h=>h W (KeepX.refl _ _) (bR _ _)
 | D :: Ds,W,hs,h=>by
  have hd:=hs.2 D (Zd ..);refine⟨by simp,.inl ⟨D,_,rfl,run_takeDeferred hd.2,q41 Ds _ ⟨(Oa.1 hs.1).2,fun E hE=>?_⟩ fun W' hk hb=>h W' ((KeepX.put hd.2 rfl).trans hk) ((q9o _ D _ hd.1).trans hb)⟩⟩;have hE':=hs.2 E (Zl _ hE);exact⟨hE'.1,(World.putObj_heap_other (k:=E) (r:=D) (fun e=>(Oa.1 hs.1).1 (by rw[<- e];exact hE))).trans hE'.2⟩
theorem qfw {W':World}{O x:Nat}{g'':Nat->Nat}(h:Blk W' O 126 (us g''))(hx:x<32)(u:Nat)(o1 o2 o3 o4:Obj) :
 KeepsOthers W' (((((W'.alloc o1).alloc o2).alloc o3).alloc o4).setCell ⟨O,x,none⟩ (.int .u32 (u:Int))).drew/\KeepX (fun j=>j=O) W' (((((W'.alloc o1).alloc o2).alloc o3).alloc o4).setCell ⟨O,x,none⟩ (.int .u32 (u:Int))).drew /\
  Blk (((((W'.alloc o1).alloc o2).alloc o3).alloc o4).setCell ⟨O,x,none⟩ (.int .u32 (u:Int))).drew O 126 (us fun j=>if j=x then u else g'' j) /\
  (∀B,B<=O->O<W'.heap.size->Below B W' (((((W'.alloc o1).alloc o2).alloc o3).alloc o4).setCell ⟨O,x,none⟩ (.int .u32 (u:Int))).drew):=by
 have hb:=below4 W' o1 o2 o3 o4
 refine⟨(keepsO hb).trans ((KeepsOthers.setCell _ _ _).trans (KeepsOthers.drew _)),((KeepX.of_below hb).trans (KeepX.set (X:=fun j=>j=O) (a:=⟨O,x,none⟩) (.int .u32 (u:Int)) rfl)).trans ⟨nR _,fun _ _ _ _ _ h=>h⟩,?_,fun B hB hO=>((hb.mono (by omega)).setCell (p:=⟨O,x,none⟩) hB _).drew⟩
 rw[<- us_set g'' u hx]
 exact(h.mono hb h.lt).set x _
end Go.Proofs.YtebbgodlijlioaaGreatDoor
