import Derived.Test.YtfmammdgehbjhaaGreatDoorRows
import Derived.WalkKit
import Derived.ProofKit
import Derived.BigQuiet
import Derived.Deep.QuietTactic
import Derived.Lib.ItoaLen
set_option maxRecDepth 100000
set_option maxHeartbeats 64000000
namespace Go.Proofs.YtfmammdgehbjhaaGreatDoor
open Go Go.RowKit
abbrev Ja:Array Value:=#[.int .i64 0,.string ⟨#[]⟩,.string ⟨#[]⟩,.bool false,.int .i64 0,.slice none 0 0,.slice none 0 0,.slice none 0 0,.slice none 0 0,.string ⟨#[]⟩,.slice none 0 0]
abbrev Jc:Array Value:=#[.slice none 0 0,.slice none 0 0,.slice none 0 0,.slice none 0 0]
abbrev Je(x0:ByteArray)(x1:Int):Array Value:=#[.int .i64 4,.string x0,.string ⟨#[]⟩,.bool false,.int .i64 x1,.slice none 0 0,.slice none 0 0,.slice none 0 0,.slice none 0 0,.string ⟨#[]⟩,.slice none 0 0]
abbrev Jf:Array Value:=#[.int .i64 0,.string ⟨#[]⟩,.slice none 0 0,.slice none 0 0,.string ⟨#[]⟩,.int .i64 0,.int .i64 0,.slice none 0 0,.slice none 0 0,.slice none 0 0,.slice none 0 0,.string ⟨#[]⟩,.slice none 0 0]
abbrev Ji(x0:Value)(x1:Value)(x2:Int)(x3:Value)(x4:Value)(x5:Value)(x6:ByteArray)(x7:Value):Array Value:=#[.int .i64 1,.string ⟨#[]⟩,x0,x1,.string ⟨#[]⟩,.int .i64 x2,.int .i64 0,.slice none 0 0,x3,x4,x5,.string x6,x7]
abbrev Jj(x0:ByteArray)(x1:Value)(x2:Value)(x3:Int)(x4:Value)(x5:Value)(x6:Value)(x7:ByteArray)(x8:Value):Array Value:=#[.int .i64 0,.string x0,x1,x2,.string ⟨#[]⟩,.int .i64 x3,.int .i64 0,.slice none 0 0,x4,x5,x6,.string x7,x8]
abbrev Jk(x0:ByteArray)(x1:Value)(x2:Value)(x3:Int)(x4:Value)(x5:Value)(x6:Value)(x7:ByteArray)(x8:Value):Array Value:=#[.int .i64 2,.string x0,x1,x2,.string ⟨#[]⟩,.int .i64 x3,.int .i64 0,.slice none 0 0,x4,x5,x6,.string x7,x8]
abbrev Jl(x0:ByteArray)(x1:ByteArray)(x2:Bool)(x3:Int)(x4:Option Addr)(x5:Nat)(x6:Nat)(x7:Option Addr)(x8:Nat)(x9:Nat)(x10:Option Addr)(x11:Nat)(x12:Nat)(x13:Option Addr)(x14:Nat)(x15:Nat)(x16:ByteArray)(x17:Option Addr)(x18:Nat)(x19:Nat):Array Value:=#[.int .i64 4,.string x0,.string x1,.bool x2,.int .i64 x3,.slice x4 x5 x6,.slice x7 x8 x9,.slice x10 x11 x12,.slice x13 x14 x15,.string x16,.slice x17 x18 x19]
abbrev Jm(x0:ByteArray)(x1:Value)(x2:Value)(x3:Int)(x4:Value)(x5:Value)(x6:Value)(x7:ByteArray)(x8:Value):Array Value:=#[.int .i64 3,.string x0,x1,x2,.string ⟨#[]⟩,.int .i64 x3,.int .i64 0,.slice none 0 0,x4,x5,x6,.string x7,x8]
abbrev Jn(x0:Int)(x1:ByteArray)(x2:Option Addr)(x3:Nat)(x4:Nat)(x5:Option Addr)(x6:Nat)(x7:Nat)(x8:Int)(x9:Option Addr)(x10:Nat)(x11:Nat)(x12:Option Addr)(x13:Nat)(x14:Nat)(x15:Option Addr)(x16:Nat)(x17:Nat)(x18:ByteArray)(x19:Option Addr)(x20:Nat)(x21:Nat):List Value:=[.int .i64 x0,.string x1,.slice x2 x3 x4,.slice x5 x6 x7,.string ⟨#[]⟩,.int .i64 x8,.int .i64 0,.slice none 0 0,.slice x9 x10 x11,.slice x12 x13 x14,.slice x15 x16 x17,.string x18,.slice x19 x20 x21]
abbrev Jo:Array Value:=#[.bool false,.slice none 0 0]
abbrev Jp(x0:ByteArray)(x1:Int)(x2:Int)(x3:Option Addr)(x4:Nat)(x5:Nat)(x6:Option Addr)(x7:Nat)(x8:Nat)(x9:Option Addr)(x10:Nat)(x11:Nat)(x12:Option Addr)(x13:Nat)(x14:Nat)(x15:ByteArray)(x16:Option Addr)(x17:Nat)(x18:Nat):Array Value:=#[.string x0,.int .i64 x1,.int .i64 x2,.slice x3 x4 x5,.slice x6 x7 x8,.slice x9 x10 x11,.slice x12 x13 x14,.string x15,.slice x16 x17 x18]
abbrev Jq:Array Value:=#[.string ⟨#[]⟩,.int .i64 0,.int .i64 0,.slice none 0 0,.slice none 0 0,.slice none 0 0,.slice none 0 0,.string ⟨#[]⟩,.slice none 0 0]
abbrev Jr(x0:ByteArray):Array Value:=#[.int .i64 2,.string x0,.slice none 0 0,.slice none 0 0,.string ⟨#[]⟩,.int .i64 0,.int .i64 0,.slice none 0 0,.slice none 0 0,.slice none 0 0,.slice none 0 0,.string ⟨#[]⟩,.slice none 0 0]
abbrev Js(x0:Int)(x1:ByteArray)(x2:Option Addr)(x3:Nat)(x4:Nat)(x5:Option Addr)(x6:Nat)(x7:Nat)(x8:Int)(x9:Option Addr)(x10:Nat)(x11:Nat)(x12:Option Addr)(x13:Nat)(x14:Nat)(x15:Option Addr)(x16:Nat)(x17:Nat)(x18:ByteArray)(x19:Option Addr)(x20:Nat)(x21:Nat):Array Value:=#[.int .i64 x0,.string x1,.slice x2 x3 x4,.slice x5 x6 x7,.string ⟨#[]⟩,.int .i64 x8,.int .i64 0,.slice none 0 0,.slice x9 x10 x11,.slice x12 x13 x14,.slice x15 x16 x17,.string x18,.slice x19 x20 x21]
abbrev Jt:Array Value:=#[.slice none 0 0,.slice none 0 0,.slice none 0 0,.slice none 0 0,.int .i64 0,.int .i64 0,.int .i64 0,.int .i64 0,.int .i64 0,.map none,.map none,.map none,.map none]
abbrev Ju(x0:Int)(x1:Int)(x2:ByteArray):Array Value:=#[.int .i64 x0,.int .i64 x1,.string x2]
abbrev Jv(x0:Int)(x1:ByteArray)(x2:Int):Array Value:=#[.int .i64 x0,.string x1,.int .i64 x2]
abbrev Jw(x0:Int)(x1:Int):Array Value:=#[.int .i64 x0,.int .i64 x1]
abbrev Jx(x0:ByteArray)(x1:ByteArray):Array Value:=#[.int .i64 2,.string x0,.string x1,.bool false,.int .i64 0,.slice none 0 0,.slice none 0 0,.slice none 0 0,.slice none 0 0,.string ⟨#[]⟩,.slice none 0 0]
abbrev Jy(x0:ByteArray)(x1:ByteArray):Array Value:=#[.int .i64 3,.string x0,.string x1,.bool false,.int .i64 0,.slice none 0 0,.slice none 0 0,.slice none 0 0,.slice none 0 0,.string ⟨#[]⟩,.slice none 0 0]
abbrev Jz:Array Value:=#[.string ⟨#[]⟩,.int .i64 0,.int .i64 0]
abbrev J0(x0:ByteArray)(x1:Int)(x2:Int):Array Value:=#[.string x0,.int .i64 x1,.int .i64 x2]
abbrev J1(x0:ByteArray)(x1:ByteArray):Array Value:=#[.string ⟨#[114,111,108,101]⟩,.string x0,.string ⟨#[97,116]⟩,.string x1]
abbrev J2(x0:Value)(x1:Value)(x2:Value)(x3:Value)(x4:Int)(x5:Int)(x6:Int)(x7:Int)(x8:Int)(x9:Value)(x10:Value)(x11:Value)(x12:Value):List Value:=[x0,x1,x2,x3,.int .i64 x4,.int .i64 x5,.int .i64 x6,.int .i64 x7,.int .i64 x8,x9,x10,x11,x12]
abbrev J3(x0:ByteArray)(x1:ByteArray):Array Value:=#[.string ⟨#[102,105,101,108,100]⟩,.string x0,.string x1,.string ⟨#[97,116]⟩,.string ⟨#[97,117,116,111]⟩]
abbrev J4:Array Value:=#[.int .i64 0,.int .i64 0]
abbrev J5(x0:ByteArray)(x1:Value)(x2:Int):List Value:=[.int .i64 3,.string x0,x1,.slice none 0 0,.string ⟨#[]⟩,.int .i64 x2,.int .i64 0,.slice none 0 0,.slice none 0 0,.slice none 0 0,.slice none 0 0,.string ⟨#[]⟩,.slice none 0 0]
abbrev J6(x0:ByteArray)(x1:ByteArray):Array Value:=#[.string ⟨#[98,101,108,111,119]⟩,.string x0,.string x1]
abbrev J7(x0:Option Addr)(x1:Nat)(x2:Nat)(x3:Int):Array Value:=#[.slice x0 x1 x2,.int .i64 x3]
abbrev J9:Array Value:=#[.int .i64 0,.int .i64 0,.string ⟨#[]⟩]
abbrev Ya(x:Int):Value:=.int .i64 x
abbrev Yb:Value:=.slice none 0 0
abbrev Yc:Value:=.string ⟨#[]⟩
abbrev Yd(b o:Nat):Value:=.pointer (some ⟨b,o,none⟩)
def Ints (w:World)(a:Option Addr)(n:Nat)(f:Nat->Int):Prop :=
 ∀k,k<n->∃b off,a=some ⟨b,off,none⟩/\b<w.heap.size/\w.cell? ⟨b,off+k,none⟩=some (.int .i64 (f k))
theorem Ints.mono {w w':World}{a:Option Addr}{n:Nat}{f:Nat->Int}(h:Ints w a n f)(hb:Below w.heap.size w w'):Ints w' a n f:=fun k hk=>by
 obtain⟨b,off,rfl,hl,hc⟩:=h k hk
 exact⟨b,off,rfl,Nat.lt_of_lt_of_le hl hb.size,(hb.cell (p:=⟨b,off+k,none⟩) hl).trans hc⟩
def Blk (w:World)(g:Nat)(t:TypeId)(cs:List Value):Prop:=w.heap[g]? = some (.cells cs.toArray t (0,0))
theorem Blk.lt {w:World}{g:Nat}{t:TypeId}{cs:List Value}(h:Blk w g t cs):g<w.heap.size:=(Array.getElem?_eq_some_iff.1 h).1
theorem Blk.cell {w:World}{g:Nat}{t:TypeId}{cs:List Value}(h:Blk w g t cs)(j:Nat):w.cell? ⟨g,j,none⟩=cs[j]?:=by
 simp only[World.cell?,show w.heap[g]? = _ from h];simp
theorem Blk.free {w:World}{g:Nat}{t:TypeId}{cs:List Value}(h:Blk w g t cs)(j:Nat):w.frozen? ⟨g,j,none⟩=false:=by
 simp only[World.frozen?,show w.heap[g]? = _ from h];simp
theorem Blk.mono {w w':World}{B g:Nat}{t:TypeId}{cs:List Value}(h:Blk w g t cs)(hb:Below B w w')(hg:g<B):Blk w' g t cs:=(hb.block g hg).trans h
theorem Blk.set {w:World}{g:Nat}{t:TypeId}{cs:List Value}(h:Blk w g t cs)(j:Nat)(v:Value):Blk (w.setCell ⟨g,j,none⟩ v) g t (cs.set j v):=by
 have:=heap_setCell_same w g j cs.toArray t v h
 simpa [Blk] using this
theorem Blk.other {w:World}{g:Nat}{t:TypeId}{cs:List Value}(h:Blk w g t cs){a:Addr}(v:Value)(ha:g≠a.block):Blk (w.setCell a v) g t cs:=(heap_setCell_other w a g v ha).trans h
theorem Blk.alloc {w:World}{g:Nat}{t:TypeId}{cs:List Value}(h:Blk w g t cs)(o:Obj):Blk (w.alloc o) g t cs:=h.mono ((Below.refl w.heap.size w).alloc (Nat.le_refl _) o) h.lt
theorem Blk.grown {w w':World}{g:Nat}{t:TypeId}{cs:List Value}{row:Option Nat}(h:Blk w g t cs)(hg:w.grownBy w' row)(hr:some g≠row):Blk w' g t cs:=(hg.block g h.lt hr).trans h
theorem Blk.new (w:World)(t:TypeId)(cs:Array Value):Blk (w.alloc (.cells cs t)) w.heap.size t cs.toList:=by
 simpa [Blk] using heap_alloc_new w (.cells cs t)
def sameB (n:Nat)(f g:Nat->Bool):Bool:=decide (∀k,k<n->f k=g k)
def sameI (n:Nat)(f g:Nat->Int):Bool:=decide (∀k,k<n->f k=g k)
theorem q5m {n:Nat}{f g:Nat->Bool}(k:Nat)(hk:k<n)(h:¬ f k=g k):sameB n f g=false:=by
 simp only[sameB,decide_eq_false_iff_not];intro H;exact h (H k hk)
theorem q7x {n:Nat}{f g:Nat->Int}(h:∀k,k<n->f k=g k):sameI n f g=true:=by simpa [sameI] using h
theorem q5n {n:Nat}{f g:Nat->Int}(k:Nat)(hk:k<n)(h:¬ f k=g k):sameI n f g=false:=by
 simp only[sameI,decide_eq_false_iff_not];intro H;exact h (H k hk)
theorem qdx {a b:Bool}(h:a=b):Ending.returned (.bool a)=.returned (.bool b):=by rw[h]
theorem qij {k:IntKind}{a b:Int}(h:a=b):Ending.returned (.int k a)=.returned (.int k b):=by rw[h]
def Hi (p:Prop):Prop:=p
theorem Hi.u {p:Prop}(h:Hi p) :p:=h
theorem Hi.out {p:Prop}(h:Hi p) :p:=h
theorem Nq {α:Type}(x:α) :∃y,x=y:=⟨x,rfl⟩
theorem h_ {p:Prop}(h:p):Hi p:=h
theorem u_ {p:Prop}(h:Hi p):p:=h
theorem q4c (w:World)(m n:Nat):(w.drewN m).drewN n=w.drewN (m+n):=by simp[World.drewN,Nat.add_assoc]
theorem q2o (w:World)(n:Nat):Below w.heap.size w (w.drewN n):=⟨rfl,rfl,rfl,Nat.le_refl _,fun _ _=>rfl⟩
theorem q40 {x:Int}(h0:-9223372036854775808<=x)(h1:x<=9223372036854775807):wrap64 x=x:=by
 unfold wrap64
 omega
theorem sX {α:Type}(xs:List α)(i:Nat)(x:α):xs.toArray.setIfInBounds i x=(xs.set i x).toArray:=List.setIfInBounds_toArray xs i x
theorem sY {α:Type}{x:α}{xs:List α}{a:α}:(x :: xs).set 0 a=a :: xs:=List.set_cons_zero
theorem sZ {α:Type}{x:α}{xs:List α}{n:Nat}{a:α}:(x :: xs).set (n+1) a=x :: xs.set n a:=List.set_cons_succ
theorem mB {w w':World}{g:Nat}{t:TypeId}{cs:List Value}(h:Hi (Blk w g t cs))(hb:Below w.heap.size w w'):Hi (Blk w' g t cs):=h_ (h.u.mono hb h.u.lt)
theorem mT {a w w':World}(h:Hi (Below a.heap.size a w))(hb:Below w.heap.size w w'):Hi (Below a.heap.size a w'):=h_ (h.u.trans (hb.mono h.u.size))
theorem nR (n:Nat):n<=n:=Nat.le_refl n
theorem nZ (n:Nat):0<=n:=Nat.zero_le n
theorem nL (n:Nat):¬ n<0:=Nat.not_lt_zero n
theorem bR (b:Nat)(w:World):Below b w w:=Below.refl b w
abbrev Ye:=@beq_eq_false_iff_ne
abbrev Yf:=@List.length_append
abbrev Yg:=@decide_eq_false
abbrev Yh:=@decide_eq_true
abbrev Yi:=@if_neg
abbrev Yj:=@decide_eq_true_eq
abbrev Yk:=@List.getElem?_eq_getElem
abbrev Yl:=@List.length_cons
abbrev Ym:=@ByteArray.size_append
abbrev Yn:=@if_pos
abbrev Yo:=@Bool.and_eq_true
abbrev Yp:=@List.getElem?_cons_zero
abbrev Yq:=@List.take_succ_eq_append_getElem
abbrev Yr:=@Nat.lt_succ_self
abbrev Ys:=@List.getElem_mem
abbrev Yt:=@Nat.le_trans
abbrev Yu:=@List.length_take
abbrev Yv:=@Decidable.byContradiction
abbrev Yw:=@List.length_nil
abbrev Yx:=@List.drop_of_length_le
abbrev Yy:=@World.size_alloc
abbrev Y0:=@List.getD_eq_getElem?_getD
abbrev Y3:=@Nat.lt_of_lt_of_le
abbrev Y4:=@ByteArray.toList_eq
abbrev Y7:=@List.mem_singleton
abbrev Y8:=@List.drop_eq_getElem_cons
abbrev Y9:=@List.mem_cons
abbrev Za:=@List.take_of_length_le
abbrev Zb:=@List.getElem?_cons_succ
abbrev Zc:=@Array.getElem?_eq_some_iff
abbrev Zd:=@List.mem_cons_self
abbrev Ze:=@of_decide_eq_true
abbrev Zf:=@List.length_map
abbrev Zg:=@List.mem_append
abbrev Zh:=@List.all_eq_true
abbrev Zi:=@List.append_nil
abbrev Zj:=@Bool.eq_iff_iff
abbrev Zk:=@List.getElem?_append_left
abbrev Zl:=@List.take_length
abbrev Zm:=@List.length_reverse
abbrev Zn:=@List.getElem?_append_right
abbrev Zo:=@List.mem_iff_getElem
abbrev Zp:=@List.mem_cons_of_mem
abbrev Zq:=@Nat.add_zero
abbrev Zr:=@Option.some.injEq
abbrev Zs:=@Bool.true_and
abbrev Zt:=@List.map_append
abbrev Zu:=@ByteArray.data_append
abbrev Zv:=@Prod.mk.injEq
abbrev Zw:=@List.mem_of_mem_take
abbrev Zx:=@Nat.sub_lt_sub_left
abbrev Zy:=@decide_eq_false_iff_not
abbrev Zz:=@List.size_toArray
abbrev Z0:=@List.getD_cons_zero
abbrev Z1:=@List.not_mem_nil
abbrev Z2:=@List.length_eq_zero_iff
abbrev Z3:=@Nat.zero_add
abbrev Z4:=@List.mem_map
abbrev Z5:=@List.drop_zero
abbrev Z6:=@List.getElem?_eq_some_iff
abbrev Z7:=@Array.length_toList
abbrev Z8:=@List.append_assoc
abbrev Z9:=@List.take_append_drop
abbrev Va:=@List.length_singleton
abbrev Vb:=@Option.some.inj
abbrev Vc:=@List.length_drop
abbrev Vd:=@List.getElem_cons_zero
abbrev Ve:=@List.getElem_take
abbrev Vf:=@List.getElem_drop
abbrev Vg:=@List.flatMap_append
abbrev Vh:=@Int.cast_ofNat_Int
abbrev Vi:=@List.getElem?_take_of_lt
abbrev Vj:=@List.cons_append
abbrev Vk:=@Bool.not_eq_true
abbrev Vl:=@List.mem_of_mem_drop
abbrev Vm:=@Nat.zero_mul
abbrev Vn:=@List.flatMap_cons
abbrev Vo:=@List.nil_append
abbrev Vp:=@List.cons.injEq
abbrev Vq:=@Array.toList_append
abbrev Vr:=@List.map_cons
abbrev Vs:=@List.getElem?_map
abbrev Vt:=@List.getD_cons_succ
abbrev Vu:=@List.drop_append_of_le_length
abbrev Vv:=@List.drop_drop
abbrev Vw:=@Bool.false_eq_true
abbrev Vy:=@List.reverse_cons
abbrev Vz:=@Nat.pow_le_pow_right
abbrev V0:=@List.length_pos_iff
abbrev V8:=@Nat.le_of_lt
abbrev V9:=@Int.natCast_add
abbrev Oa:=@Bool.or_eq_true
abbrev Ob:=@List.drop_eq_nil_of_le
abbrev Oc:=@Array.getElem?_eq_none
abbrev Od:=@List.getElem?_eq_none
abbrev Oe:=@List.take_append_of_le_length
abbrev Of:=@List.mem_append_left
def tb (b:Nat):Bool:=decide (32<=b/\b<=126/\b≠34)
theorem q1o (b:Nat)(w:World) :
 Calls Tryz.prog 88 #[.int .u8 b] w fun e w'=>e=.returned (.bool (tb b))/\w'=w:=by
 by_cases h1:32<=b
 . by_cases h2:b<=126
   . by_cases h3:b=34
     all_goals
      go_enter Tryz.func88,Tryz.ntmps88;go_wp2;go_ret;exact⟨qdx (by first | (subst h3;decide) | (simp[tb,h1,h2,h3] <;> omega)),rfl⟩
   . go_enter Tryz.func88,Tryz.ntmps88
     go_wp2;go_ret;exact⟨qdx (by simp[tb] <;> omega),rfl⟩
 . go_enter Tryz.func88,Tryz.ntmps88
   go_wp2;go_ret;exact⟨qdx (by simp[tb] <;> omega),rfl⟩
theorem q1m (b:Nat)(w:World) :
 Calls Tryz.prog 99 #[.int .u8 b] w fun e w'=>e=.returned (.bool (tb b))/\w'=w:=by
 by_cases h1:32<=b
 . by_cases h2:b<=126
   . by_cases h3:b=34
     all_goals
      go_enter Tryz.func99,Tryz.ntmps99;go_wp2;go_ret;exact⟨qdx (by first | (subst h3;decide) | (simp[tb,h1,h2,h3] <;> omega)),rfl⟩
   . go_enter Tryz.func99,Tryz.ntmps99
     go_wp2;go_ret;exact⟨qdx (by simp[tb] <;> omega),rfl⟩
 . go_enter Tryz.func99,Tryz.ntmps99
   go_wp2;go_ret;exact⟨qdx (by simp[tb] <;> omega),rfl⟩
def okText (s:ByteArray):Bool:=decide (s.size<=1000)&&s.data.toList.all fun c=>tb c.toNat
theorem q7j {s:ByteArray}:okText s=true ↔ s.size<=1000/\∀j (hj:j<s.size),tb s[j].toNat=true:=by
 simp only[okText,Yo,Yj,Zh]
 refine and_congr_right fun _=>⟨fun h j hj=>h _ (by simp[ByteArray.getElem_eq_getElem_data]),fun h c hc=>?_⟩
 obtain⟨j,hj,rfl⟩:=Zo.1 hc
 exact h j (by simpa using hj)
theorem q7k {s:ByteArray}(h1:s.size<=1000)(h:∀j (hj:j<s.size),tb s[j].toNat=true):okText s=true:=q7j.2 ⟨h1,h⟩
theorem q9t {s:ByteArray}{k:Nat}(hk:k<s.size)(h:tb s[k].toNat=false):okText s=false:=by
 cases e:okText s with
 | false=>rfl
 | true=>have:=(q7j.1 e).2 k hk;rw[h]at this;cases this
theorem q1n (s:ByteArray)(w:World)(hs:s.size<=9223372036854775807) :
 Calls Tryz.prog 181 #[.string s] w fun e w'=>e=.returned (.bool (okText s))/\w'=w:=by
 by_cases h1:s.size<=1000
 . go_enter Tryz.func181,Tryz.ntmps181
   go_wp2;go_loopw [3] (fun i wr=>∃k:Nat,k<=s.size/\i=Ya k/\(∀j (hj:j<s.size),j<k->tb (s[j]).toNat=true)/\wr=w) (fun i _=>s.size - (intOf i).toNat)
   case atStart=>exact⟨0,nZ _,rfl,fun j h h'=>absurd h' (nL _),rfl⟩
   case round =>
    obtain⟨k,hk,rfl,heq,rfl⟩:=hrel;have HE:=h_ heq;clear heq;by_cases hlt:k<s.size
    . cases ht:tb s[k].toNat
      . go_wp2_with (go_at_call 88;refine(q1o _ _).mono ?_;rintro e w' ⟨rfl,rfl⟩;rw[ht])
        go_ret;exact⟨qdx (q9t hlt ht).symm,rfl⟩
      . go_wp2_with (go_at_call 88;refine(q1o _ _).mono ?_;rintro e w' ⟨rfl,rfl⟩;rw[ht])
        go_roundw
        case rel=>exact⟨k+1,by omega,by go_num,fun j hj hk=>by
         by_cases e:j=k
         . subst e;exact ht
         . exact HE.u j hj (by omega),trivial⟩
        case measure=>simp[intOf];omega
    . go_wp2
      go_ret;exact⟨qdx (q7k h1 fun j hj=>HE.u j hj (by omega)).symm,rfl⟩
 . go_enter Tryz.func181,Tryz.ntmps181
   go_wp2;go_ret;exact⟨qdx (by simp[okText,h1]),rfl⟩
theorem q6s (s:ByteArray)(w:World)(hs:s.size<=9223372036854775807) :
 Calls Tryz.prog 173 #[.string s] w fun e w'=>e=.returned (.bool (okText s))/\w'=w:=by
 by_cases h1:s.size<=1000
 . go_enter Tryz.func173,Tryz.ntmps173
   go_wp2;go_loopw [9] (fun i wr=>∃k:Nat,k<=s.size/\i=Ya k/\(∀j (hj:j<s.size),j<k->tb (s[j]).toNat=true)/\wr=w) (fun i _=>s.size - (intOf i).toNat)
   case atStart=>exact⟨0,nZ _,rfl,fun j h h'=>absurd h' (nL _),rfl⟩
   case round =>
    obtain⟨k,hk,rfl,heq,rfl⟩:=hrel;have HE:=h_ heq;clear heq;by_cases hlt:k<s.size
    . cases ht:tb s[k].toNat
      . go_wp2_with (go_at_call 99;refine(q1m _ _).mono ?_;rintro e w' ⟨rfl,rfl⟩;rw[ht])
        go_ret;exact⟨qdx (q9t hlt ht).symm,rfl⟩
      . go_wp2_with (go_at_call 99;refine(q1m _ _).mono ?_;rintro e w' ⟨rfl,rfl⟩;rw[ht])
        go_roundw
        case rel=>exact⟨k+1,by omega,by go_num,fun j hj hk=>by
         by_cases e:j=k
         . subst e;exact ht
         . exact HE.u j hj (by omega),trivial⟩
        case measure=>simp[intOf];omega
    . go_wp2
      go_ret;exact⟨qdx (q7k h1 fun j hj=>HE.u j hj (by omega)).symm,rfl⟩
 . go_enter Tryz.func173,Tryz.ntmps173
   go_wp2;go_ret;exact⟨qdx (by simp[okText,h1]),rfl⟩
theorem three {w:World}{b:Nat}{t:TypeId}{v0 v1 v2:Value}(h:Blk w b t [v0,v1,v2]) :
 w.cell? ⟨b,0,none⟩=some v0/\w.cell? ⟨b,1,none⟩=some v1/\w.cell? ⟨b,2,none⟩=some v2:=⟨h.cell 0,h.cell 1,h.cell 2⟩
theorem size0 (s:ByteArray):((s.size:Int)==0)=decide (s.size=0):=by rw[Zj];simp
theorem empty0 (s:ByteArray):s.toList.isEmpty=decide (s.size=0):=by
 rw[Y4]
 obtain⟨⟨l⟩⟩:=s
 cases l <;> simp[ByteArray.size]
def okVal (kind num:Int)(s:ByteArray):Bool :=
 if kind=0 then decide (num=0)&&decide (s.size=0)
 else if kind=1 then decide (s.size=0)
 else if kind=2 then decide (num=0∨num=1)&&decide (s.size=0)
 else if kind=3 then decide (num=0)&&okText s
 else if kind=4 then decide (1<=num/\num<=5)&&decide (s.size=0)
 else false
theorem kinds (k:Int):k=0∨k=1∨k=2∨k=3∨k=4∨(¬ k=0/\¬ k=1/\¬ k=2/\¬ k=3/\¬ k=4):=by omega
theorem nums2 (n:Int):n=0∨n=1∨(¬ n=0/\¬ n=1):=by omega
theorem nums5 (n:Int):n<1∨(1<=n/\5<n)∨(1<=n/\n<=5):=by omega
theorem q22 (kind num:Int)(s:ByteArray)(w:World)(hs:s.size<=9223372036854775807) :
 Calls Tryz.prog 158 #[.agg (Ju kind num s)] w fun e w'=>e=.returned (.bool (okVal kind num s))/\Below w.heap.size w w':=by
 have e0:=size0 s
 have E0:=h_ e0;clear e0
 rcases kinds kind with rfl | rfl | rfl | rfl | rfl | ⟨k0,k1,k2,k3,k4⟩
 . by_cases n0:num=0
   all_goals
    go_enter Tryz.func158,Tryz.ntmps158;go_wp2;go_ret;exact⟨qdx (by simp[okVal,n0,E0.u]),(bR _ _).alloc (nR _) _⟩
 . go_enter Tryz.func158,Tryz.ntmps158
   go_wp2;go_ret;exact⟨qdx (by simp[okVal,E0.u]),(bR _ _).alloc (nR _) _⟩
 . rcases nums2 num with rfl | rfl | ⟨n0,n1⟩
   . go_enter Tryz.func158,Tryz.ntmps158
     go_wp2;go_ret;exact⟨qdx (by simp[okVal,E0.u]),(bR _ _).alloc (nR _) _⟩
   . go_enter Tryz.func158,Tryz.ntmps158
     go_wp2;go_ret;exact⟨qdx (by simp[okVal,E0.u]),(bR _ _).alloc (nR _) _⟩
   . go_enter Tryz.func158,Tryz.ntmps158
     go_wp2;go_ret;exact⟨qdx (by simp[okVal,n0,n1]),(bR _ _).alloc (nR _) _⟩
 . by_cases n0:num=0
   . go_enter Tryz.func158,Tryz.ntmps158
     go_wp2_with (go_at_call 181;refine(q1n s _ hs).mono ?_;rintro e w' ⟨rfl,rfl⟩);go_ret;exact⟨qdx (by simp[okVal,n0]),(bR _ _).alloc (nR _) _⟩
   . go_enter Tryz.func158,Tryz.ntmps158
     go_wp2;go_ret;exact⟨qdx (by simp[okVal,n0]),(bR _ _).alloc (nR _) _⟩
 . rcases nums5 num with n1 | ⟨n1,n2⟩ | ⟨n1,n2⟩
   . go_enter Tryz.func158,Tryz.ntmps158
     go_wp2;go_ret;exact⟨qdx (by simp[okVal,show ¬ 1<=num by omega]),(bR _ _).alloc (nR _) _⟩
   . go_enter Tryz.func158,Tryz.ntmps158
     go_wp2;go_ret;exact⟨qdx (by simp[okVal,show ¬ num<=5 by omega]),(bR _ _).alloc (nR _) _⟩
   . go_enter Tryz.func158,Tryz.ntmps158
     go_wp2;go_ret;exact⟨qdx (by simp[okVal,n1,n2,E0.u]),(bR _ _).alloc (nR _) _⟩
 . go_enter Tryz.func158,Tryz.ntmps158
   go_wp2;go_ret;exact⟨qdx (by simp[okVal,k0,k1,k2,k3,k4]),(bR _ _).alloc (nR _) _⟩
theorem q1g (kind num:Int)(s:ByteArray)(w:World)(hs:s.size<=9223372036854775807) :
 Calls Tryz.prog 144 #[.agg (Ju kind num s)] w fun e w'=>e=.returned (.bool (okVal kind num s))/\Below w.heap.size w w':=by
 have e0:=empty0 s
 have E0:=h_ e0;clear e0
 rcases kinds kind with rfl | rfl | rfl | rfl | rfl | ⟨k0,k1,k2,k3,k4⟩
 . by_cases n0:num=0
   all_goals
    go_enter Tryz.func144,Tryz.ntmps144;go_wp2;go_ret;exact⟨qdx (by simp only[okVal];simp[n0,E0.u]),(bR _ _).alloc (nR _) _⟩
 . go_enter Tryz.func144,Tryz.ntmps144
   go_wp2;go_ret;exact⟨qdx (by simp[okVal,E0.u]),(bR _ _).alloc (nR _) _⟩
 . rcases nums2 num with rfl | rfl | ⟨n0,n1⟩
   . go_enter Tryz.func144,Tryz.ntmps144
     go_wp2;go_ret;exact⟨qdx (by simp[okVal,E0.u]),(bR _ _).alloc (nR _) _⟩
   . go_enter Tryz.func144,Tryz.ntmps144
     go_wp2;go_ret;exact⟨qdx (by simp[okVal,E0.u]),(bR _ _).alloc (nR _) _⟩
   . go_enter Tryz.func144,Tryz.ntmps144
     go_wp2;go_ret;exact⟨qdx (by simp[okVal,n0,n1]),(bR _ _).alloc (nR _) _⟩
 . by_cases n0:num=0
   . go_enter Tryz.func144,Tryz.ntmps144
     go_wp2_with (go_at_call 173;refine(q6s s _ hs).mono ?_;rintro e w' ⟨rfl,rfl⟩);go_ret;exact⟨qdx (by simp[okVal,n0]),(bR _ _).alloc (nR _) _⟩
   . go_enter Tryz.func144,Tryz.ntmps144
     go_wp2;go_ret;exact⟨qdx (by simp[okVal,n0]),(bR _ _).alloc (nR _) _⟩
 . rcases nums5 num with n1 | ⟨n1,n2⟩ | ⟨n1,n2⟩
   . go_enter Tryz.func144,Tryz.ntmps144
     go_wp2;go_ret;exact⟨qdx (by simp[okVal,show ¬ 1<=num by omega]),(bR _ _).alloc (nR _) _⟩
   . go_enter Tryz.func144,Tryz.ntmps144
     go_wp2;go_ret;exact⟨qdx (by simp[okVal,show ¬ num<=5 by omega]),(bR _ _).alloc (nR _) _⟩
   . go_enter Tryz.func144,Tryz.ntmps144
     go_wp2;go_ret;exact⟨qdx (by simp[okVal,n1,n2,E0.u]),(bR _ _).alloc (nR _) _⟩
 . go_enter Tryz.func144,Tryz.ntmps144
   go_wp2;go_ret;exact⟨qdx (by simp[okVal,k0,k1,k2,k3,k4]),(bR _ _).alloc (nR _) _⟩
end Go.Proofs.YtfmammdgehbjhaaGreatDoor
namespace Go.Proofs.YtfmammdgehbjhaaGreatDoor
open Go
def showB (kind num:Int)(s:ByteArray):ByteArray :=
 if okVal kind num s then
  if kind=0 then ⟨#[98,108,97,110,107]⟩
  else if kind=1 then ⟨(Lib.itoa num).toArray⟩
  else if kind=2 then (if num=1 then ⟨#[116,114,117,101]⟩ else ⟨#[102,97,108,115,101]⟩)
  else if kind=3 then ⟨#[34]⟩++s++⟨#[34]⟩
  else ⟨#[33]⟩++⟨(Lib.itoa num).toArray⟩
 else ⟨#[63]⟩
theorem bsz (a:Array UInt8):(⟨a⟩:ByteArray).size=a.size:=rfl
theorem q9b (x:Int)(h0:-9223372036854775808<=x)(h1:x<=9223372036854775807):(⟨(Lib.itoa x).toArray⟩:ByteArray).size<=21:=Lib.itoa_length_le x h0 h1
theorem qgu (x:Int):1<=(Lib.itoa x).length:=by
 unfold Lib.itoa
 split
 . simp
 . rw[Lib.decDigits_length];exact Lib.nDigits_pos _
theorem q80 (kind num:Int)(s:ByteArray)(h:okVal kind num s=true)(h0:0<=num)(h1:num<=9223372036854775807):1+s.size<=(showB kind num s).size/\(showB kind num s).size<=1050:=by
 have hi:=q9b num (by omega) h1
 have hj:1<=(⟨(Lib.itoa num).toArray⟩:ByteArray).size:=qgu num
 unfold showB
 rw[Yn h]
 unfold okVal at h
 by_cases k0:kind=0
 . rw[Yn k0]at h⊢;simp only[Yo,Yj]at h;simp only[bsz,Zz,Yl,Yw];omega
 rw[Yi k0]at h⊢
 by_cases k1:kind=1
 . rw[Yn k1]at h⊢;simp only[Yj]at h;omega
 rw[Yi k1]at h⊢
 by_cases k2:kind=2
 . rw[Yn k2]at h⊢;simp only[Yo,Yj]at h;split <;> simp only[bsz,Zz,Yl,Yw] <;> omega
 rw[Yi k2]at h⊢
 by_cases k3:kind=3
 . rw[Yn k3]at h⊢;simp only[Yo,Yj]at h
   have:=(q7j.1 h.2).1;simp only[Ym,bsz,Zz,Yl,Yw];omega
 rw[Yi k3]at h⊢
 by_cases k4:kind=4
 . rw[Yn k4]at h;simp only[Yo,Yj]at h
   simp only[Ym];have e:(⟨#[33]⟩:ByteArray).size=1:=rfl;omega
 . rw[Yi k4]at h;cases h
end Go.Proofs.YtfmammdgehbjhaaGreatDoor
namespace Go.Proofs.YtfmammdgehbjhaaGreatDoor
open Go Go.RowKit
structure Vx where
 k:Int
 n:Int
 s:ByteArray
def vv (u:Vx):Value:=.agg #[.int .i64 u.k,.int .i64 u.n,.string u.s]
def blankX:Vx:=⟨0,0,⟨#[]⟩⟩
def eqX (p q:Vx):Bool:=if p.k=q.k then if p.n=q.n then decide (p.s.toList=q.s.toList) else false else false
def ar (op:Int):Int:=if op=2∨op=3∨op=21∨op=22∨op=23∨op=24∨op=25 then 1 else if op=16 then 3 else if 4<=op/\op<=20 then 2 else 0
theorem qb9 (op:Int):(op=2∨op=3∨op=21∨op=22∨op=23∨op=24∨op=25∨op=16)∨((¬ op=2/\¬ op=3/\¬ op=21/\¬ op=22)/\(¬ op=23/\¬ op=24/\¬ op=25/\¬ op=16)/\(op<4∨(4<=op/\op<=20)∨(4<=op/\20<op))):=by omega
theorem q4s (op:Int)(w:World):Calls Tryz.prog 180 #[Ya op] w fun e w'=>e=.returned (Ya (ar op))/\w'=w:=by
 rcases qb9 op with (rfl | rfl | rfl | rfl | rfl | rfl | rfl | rfl) | ⟨⟨n1,n2,n3,n4⟩,⟨n5,n6,n7,n8⟩,h⟩
 case inr =>
  have e0:¬ (op=2∨op=3∨op=21∨op=22∨op=23∨op=24∨op=25):=by omega
  have m8:=n8;replace n1:(op==2)=false:=Ye.2 n1;replace n2:(op==3)=false:=Ye.2 n2;replace n3:(op==21)=false:=Ye.2 n3;replace n4:(op==22)=false:=Ye.2 n4;replace n5:(op==23)=false:=Ye.2 n5;replace n6:(op==24)=false:=Ye.2 n6;replace n7:(op==25)=false:=Ye.2 n7;replace n8:(op==16)=false:=Ye.2 n8;rcases h with h | ⟨h,h'⟩ | ⟨h,h'⟩
  . have e:ar op=0:=by rw[ar,Yi e0,Yi m8,Yi (by omega)]
    rw[e];clear e e0 m8;go_enter Tryz.func180,Tryz.ntmps180;go_wp2;go_ret;exact⟨rfl,rfl⟩
  . have e:ar op=2:=by rw[ar,Yi e0,Yi m8,Yn ⟨h,h'⟩]
    rw[e];clear e e0 m8;go_enter Tryz.func180,Tryz.ntmps180;go_wp2;go_ret;exact⟨rfl,rfl⟩
  . have e:ar op=0:=by rw[ar,Yi e0,Yi m8,Yi (by omega)]
    rw[e];clear e e0 m8;go_enter Tryz.func180,Tryz.ntmps180;go_wp2;go_ret;exact⟨rfl,rfl⟩
 all_goals (
  go_enter Tryz.func180,Tryz.ntmps180;go_wp2;go_ret;exact⟨rfl,rfl⟩)
end Go.Proofs.YtfmammdgehbjhaaGreatDoor
