import Derived.Test.YtgojgjlninakjaaGreatDoorRows
import Derived.WalkKit
import Derived.ProofKit
import Derived.BigQuiet
import Derived.Deep.QuietTactic
namespace Go.Proofs.YtgojgjlninakjaaGreatDoor
open Go Go.RowKit
abbrev Jc:Array Value:=#[.slice none 0 0,.slice none 0 0,.slice none 0 0,.slice none 0 0,.map none,.int .i64 0,.slice none 0 0,.slice none 0 0,.slice none 0 0,.int .i64 0,.int .i64 0,.slice none 0 0]
abbrev Je:Array Value:=#[.int .i64 0,.int .i64 0,.int .i64 0,.int .i64 0,.string ⟨#[]⟩]
abbrev Jf:Array Value:=#[.int .i64 0,.slice none 0 0,.slice none 0 0,.slice none 0 0,.int .i64 0,.int .i64 0]
abbrev Jh(x0:Int)(x1:Int)(x2:Int)(x3:Int)(x4:ByteArray):Array Value:=#[.int .i64 x0,.int .i64 x1,.int .i64 x2,.int .i64 x3,.string x4]
abbrev Ji(x0:Int)(x1:Option Addr)(x2:Nat)(x3:Nat)(x4:Option Addr)(x5:Nat)(x6:Option Addr)(x7:Nat)(x8:Int)(x9:Int):Array Value:=#[.int .i64 x0,.slice x1 x2 x3,.slice x4 x2 x5,.slice x6 x2 x7,.int .i64 x8,.int .i64 x9]
abbrev Jk(x0:Int)(x1:Int)(x2:ByteArray):Array Value:=#[.int .i64 x0,.int .i64 x1,.string x2]
abbrev Jl:Array Value:=#[.bool false,.slice none 0 0]
abbrev Jm:Array Value:=#[.int .i64 0,.int .i64 0]
abbrev Jn:Array Value:=#[.string ⟨#[]⟩,.int .i64 0,.int .i64 0,.slice none 0 0,.slice none 0 0,.slice none 0 0,.slice none 0 0,.string ⟨#[]⟩,.slice none 0 0]
abbrev Jp(x0:Int)(x1:Option Addr)(x2:Nat)(x3:Nat):Array Value:=#[.int .i64 x0,.slice x1 x2 x3]
abbrev Jq:Array Value:=#[.slice none 0 0,.slice none 0 0,.slice none 0 0,.slice none 0 0]
abbrev Js(x0:Int)(x1:Int):Array Value:=#[.int .i64 x0,.int .i64 x1]
abbrev Jt:Array Value:=#[.string ⟨#[]⟩,.int .i64 0,.int .i64 0]
abbrev Ju:Array Value:=#[.int .i64 0,.int .i64 0,.string ⟨#[]⟩]
abbrev Jw(x0:ByteArray)(x1:ByteArray):Array Value:=#[.string ⟨#[114,111,108,101]⟩,.string x0,.string ⟨#[97,116]⟩,.string x1]
abbrev Jy(x0:ByteArray)(x1:Int)(x2:Int):Array Value:=#[.string x0,.int .i64 x1,.int .i64 x2]
abbrev Jz(x0:ByteArray)(x1:ByteArray):Array Value:=#[.string ⟨#[102,105,101,108,100]⟩,.string x0,.string x1,.string ⟨#[97,116]⟩,.string ⟨#[97,117,116,111]⟩]
abbrev J0:Array Value:=#[.slice none 0 0,.slice none 0 0,.slice none 0 0,.slice none 0 0,.map none]
abbrev J1(x0:ByteArray)(x1:ByteArray):Array Value:=#[.string ⟨#[98,101,108,111,119]⟩,.string x0,.string x1]
abbrev J3:Array Value:=#[.agg #[.int .i64 0,.int .i64 0,.int .i64 0,.int .i64 0,.string ⟨#[]⟩],.bool false]
abbrev J4:List Value:=[.int .i64 0,.int .i64 0,.int .i64 0,.int .i64 0,.string ⟨#[]⟩]
abbrev J5(x0:Int):Array Value:=#[.int .u32 x0]
abbrev J6(x:Int):Value:=.int .i64 x
abbrev J7:Value:=.slice none 0 0
abbrev J8:Value:=.string ⟨#[]⟩
abbrev J9(b o:Nat):Value:=.pointer (some ⟨b,o,none⟩)
def Bools (w:World)(a:Option Addr)(n:Nat)(f:Nat->Bool):Prop :=
 ∀k,k<n->∃b off,a=some ⟨b,off,none⟩/\b<w.heap.size/\w.cell? ⟨b,off+k,none⟩=some (.bool (f k))
def Ints (w:World)(a:Option Addr)(n:Nat)(f:Nat->Int):Prop :=
 ∀k,k<n->∃b off,a=some ⟨b,off,none⟩/\b<w.heap.size/\w.cell? ⟨b,off+k,none⟩=some (.int .i64 (f k))
theorem Bools.mono {w w':World}{a:Option Addr}{n:Nat}{f:Nat->Bool}(h:Bools w a n f)(hb:Below w.heap.size w w'):Bools w' a n f:=fun k hk=>by
 obtain⟨b,off,rfl,hl,hc⟩:=h k hk
 exact⟨b,off,rfl,Nat.lt_of_lt_of_le hl hb.size,(hb.cell (p:=⟨b,off+k,none⟩) hl).trans hc⟩
theorem Ints.mono {w w':World}{a:Option Addr}{n:Nat}{f:Nat->Int}(h:Ints w a n f)(hb:Below w.heap.size w w'):Ints w' a n f:=fun k hk=>by
 obtain⟨b,off,rfl,hl,hc⟩:=h k hk
 exact⟨b,off,rfl,Nat.lt_of_lt_of_le hl hb.size,(hb.cell (p:=⟨b,off+k,none⟩) hl).trans hc⟩
def Blk (w:World)(g:Nat)(t:TypeId)(cs:List Value):Prop:=w.heap[g]? = some (.cells cs.toArray t (0,0))
theorem Blk.lt {w:World}{g:Nat}{t:TypeId}{cs:List Value}(h:Blk w g t cs):g<w.heap.size:=(Array.getElem?_eq_some_iff.1 h).1
theorem Blk.cell {w:World}{g:Nat}{t:TypeId}{cs:List Value}(h:Blk w g t cs)(j:Nat):w.cell? ⟨g,j,none⟩=cs[j]?:=by
 simp only[World.cell?,show w.heap[g]? = _ from h];simp
theorem Blk.free {w:World}{g:Nat}{t:TypeId}{cs:List Value}(h:Blk w g t cs)(j:Nat):w.frozen? ⟨g,j,none⟩=false:=by
 simp only[World.frozen?,show w.heap[g]? = _ from h];simp
theorem Blk.mono {w w':World}{B g:Nat}{t:TypeId}{cs:List Value}(h:Blk w g t cs)(hb:Below B w w')(hg:g<B):Blk w' g t cs:=(hb.block g hg).trans h
theorem Blk.set {w:World}{g:Nat}{t:TypeId}{cs:List Value}(h:Blk w g t cs)(j:Nat)(v:Value):Blk (w.setCell ⟨g,j,none⟩ v) g t (cs.set j v):=by
 have:=heap_setCell_same w g j cs.toArray t v h
 simpa [Blk] using this
theorem Blk.other {w:World}{g:Nat}{t:TypeId}{cs:List Value}(h:Blk w g t cs){a:Addr}(v:Value)(ha:g≠a.block):Blk (w.setCell a v) g t cs:=(heap_setCell_other w a g v ha).trans h
theorem Blk.alloc {w:World}{g:Nat}{t:TypeId}{cs:List Value}(h:Blk w g t cs)(o:Obj):Blk (w.alloc o) g t cs:=h.mono ((Below.refl w.heap.size w).alloc (Nat.le_refl _) o) h.lt
theorem Blk.grown {w w':World}{g:Nat}{t:TypeId}{cs:List Value}{row:Option Nat}(h:Blk w g t cs)(hg:w.grownBy w' row)(hr:some g≠row):Blk w' g t cs:=(hg.block g h.lt hr).trans h
theorem Blk.new (w:World)(t:TypeId)(cs:Array Value):Blk (w.alloc (.cells cs t)) w.heap.size t cs.toList:=by
 simpa [Blk] using heap_alloc_new w (.cells cs t)
theorem Blk.of_owns {w:World}{base e g n:Nat}{xs:List Value}(h:w.ownsRow base e 1 (.slice (some ⟨g,0,none⟩) n n) n xs):Blk w g e xs:=by
 rcases h.2 with ⟨h',_⟩ | ⟨g',cap',cur,h',_,hg,_,_,hs,htake⟩
 . simp at h'
 . simp only[Value.slice.injEq,Option.some.injEq,Addr.mk.injEq,and_true,true_and]at h'
   obtain⟨rfl,rfl⟩:=h';rw[List.take_of_length_le (by simp;omega)]at htake;rw[<- htake];simpa [Blk] using hg
theorem below4 (w:World)(o1 o2 o3 o4:Obj):Below w.heap.size w ((((w.alloc o1).alloc o2).alloc o3).alloc o4):=((((Below.refl _ w).alloc (Nat.le_refl _) o1).alloc (by simp) o2).alloc (by simp;omega) o3).alloc (by simp;omega) o4
theorem Blk.cell4 {w:World}{g:Nat}{t:TypeId}{cs:List Value}(h:Blk w g t cs)(j:Nat)(o1 o2 o3 o4:Obj):((((w.alloc o1).alloc o2).alloc o3).alloc o4).cell? ⟨g,j,none⟩=cs[j]?:=(h.mono (below4 w o1 o2 o3 o4) h.lt).cell j
theorem Blk.free4 {w:World}{g:Nat}{t:TypeId}{cs:List Value}(h:Blk w g t cs)(j:Nat)(o1 o2 o3 o4:Obj):((((w.alloc o1).alloc o2).alloc o3).alloc o4).frozen? ⟨g,j,none⟩=false:=(h.mono (below4 w o1 o2 o3 o4) h.lt).free j
def sameB (n:Nat)(f g:Nat->Bool):Bool:=decide (∀k,k<n->f k=g k)
def sameI (n:Nat)(f g:Nat->Int):Bool:=decide (∀k,k<n->f k=g k)
theorem q7c {n:Nat}{f g:Nat->Bool}(k:Nat)(hk:k<n)(h:¬ f k=g k):sameB n f g=false:=by
 simp only[sameB,decide_eq_false_iff_not];intro H;exact h (H k hk)
theorem qab {n:Nat}{f g:Nat->Int}(h:∀k,k<n->f k=g k):sameI n f g=true:=by simpa [sameI] using h
theorem q7d {n:Nat}{f g:Nat->Int}(k:Nat)(hk:k<n)(h:¬ f k=g k):sameI n f g=false:=by
 simp only[sameI,decide_eq_false_iff_not];intro H;exact h (H k hk)
theorem qia {a b:Bool}(h:a=b):Ending.returned (.bool a)=.returned (.bool b):=by rw[h]
theorem qng {k:IntKind}{a b:Int}(h:a=b):Ending.returned (.int k a)=.returned (.int k b):=by rw[h]
def Hi (p:Prop):Prop:=p
theorem Hi.u {p:Prop}(h:Hi p) :p:=h
theorem Hi.out {p:Prop}(h:Hi p) :p:=h
theorem Nq {α:Type}(x:α) :∃y,x=y:=⟨x,rfl⟩
theorem h_ {p:Prop}(h:p):Hi p:=h
theorem u_ {p:Prop}(h:Hi p):p:=h
theorem q5m (w:World)(m n:Nat):(w.drewN m).drewN n=w.drewN (m+n):=by simp[World.drewN,Nat.add_assoc]
theorem q3d (w:World)(n:Nat):Below w.heap.size w (w.drewN n):=⟨rfl,rfl,rfl,Nat.le_refl _,fun _ _=>rfl⟩
theorem q55 {x:Int}(h0:-9223372036854775808<=x)(h1:x<=9223372036854775807):wrap64 x=x:=by
 unfold wrap64
 omega
theorem sX {α:Type}(xs:List α)(i:Nat)(x:α):xs.toArray.setIfInBounds i x=(xs.set i x).toArray:=List.setIfInBounds_toArray xs i x
theorem sY {α:Type}{x:α}{xs:List α}{a:α}:(x :: xs).set 0 a=a :: xs:=List.set_cons_zero
theorem sZ {α:Type}{x:α}{xs:List α}{n:Nat}{a:α}:(x :: xs).set (n+1) a=x :: xs.set n a:=List.set_cons_succ
theorem mB {w w':World}{g:Nat}{t:TypeId}{cs:List Value}(h:Hi (Blk w g t cs))(hb:Below w.heap.size w w'):Hi (Blk w' g t cs):=h_ (h.u.mono hb h.u.lt)
theorem mT {a w w':World}(h:Hi (Below a.heap.size a w))(hb:Below w.heap.size w w'):Hi (Below a.heap.size a w'):=h_ (h.u.trans (hb.mono h.u.size))
theorem nR (n:Nat):n<=n:=Nat.le_refl n
theorem nZ (n:Nat):0<=n:=Nat.zero_le n
theorem nL (n:Nat):¬ n<0:=Nat.not_lt_zero n
theorem bR (b:Nat)(w:World):Below b w w:=Below.refl b w
abbrev Ya:=@beq_eq_false_iff_ne
abbrev Yb:=@decide_eq_false
abbrev Yc:=@List.getElem?_eq_getElem
abbrev Yd:=@List.length_append
abbrev Ye:=@List.getElem_mem
abbrev Yf:=@Bool.and_eq_true
abbrev Yg:=@List.getElem?_cons_zero
abbrev Yh:=@decide_eq_true_eq
abbrev Yi:=@ByteArray.size_append
abbrev Yj:=@decide_eq_true
abbrev Yk:=@World.size_alloc
abbrev Yl:=@List.length_cons
abbrev Ym:=@List.take_succ_eq_append_getElem
abbrev Yn:=@if_neg
abbrev Yo:=@List.getD_eq_getElem?_getD
abbrev Yp:=@ByteArray.toList_eq
abbrev Yq:=@List.mem_cons_self
abbrev Yr:=@Array.getElem?_eq_some_iff
abbrev Ys:=@Nat.lt_of_lt_of_le
abbrev Yt:=@List.length_nil
abbrev Yu:=@List.all_eq_true
abbrev Yv:=@if_pos
abbrev Yw:=@List.mem_iff_getElem
abbrev Yx:=@List.set_cons_zero
abbrev Yy:=@List.mem_cons_of_mem
abbrev Yz:=@List.take_of_length_le
abbrev Y2:=@List.set_cons_succ
abbrev Y3:=@List.mem_map
abbrev Y4:=@Prod.mk.injEq
abbrev Y5:=@Bool.true_and
abbrev Y6:=@List.getElem?_cons_succ
abbrev Y7:=@Nat.zero_add
abbrev Y8:=@List.size_toArray
abbrev Y9:=@List.mem_range
abbrev Za:=@List.length_take
abbrev Zb:=@of_decide_eq_true
abbrev Zc:=@List.map_append
abbrev Zd:=@Int.natCast_mul
abbrev Ze:=@List.mem_append
abbrev Zf:=@Nat.le_trans
abbrev Zg:=@List.getElem?_map
abbrev Zh:=@List.range_succ
abbrev Zi:=@List.mem_singleton
abbrev Zj:=@Bool.or_eq_true
abbrev Zk:=@Bool.eq_iff_iff
abbrev Zl:=@List.length_reverse
abbrev Zm:=@List.cons_append
abbrev Zn:=@Nat.add_zero
abbrev Zo:=@List.map_congr_left
abbrev Zp:=@List.mem_cons
abbrev Zq:=@Int.cast_ofNat_Int
abbrev Zr:=@Nat.add_mul_mod_self_right
abbrev Zs:=@decide_eq_false_iff_not
abbrev Zt:=@List.length_eq_zero_iff
abbrev Zu:=@List.flatMap_cons
abbrev Zv:=@List.pairwise_iff_getElem
abbrev Zw:=@List.drop_eq_getElem_cons
abbrev Zx:=@Nat.succ_mul
abbrev Zy:=@List.getD_cons_zero
abbrev Zz:=@ByteArray.data_append
abbrev Z2:=@Nat.mod_eq_of_lt
abbrev Z3:=@Nat.div_eq_of_lt
abbrev Z4:=@List.take_length
abbrev Z5:=@List.map_cons
abbrev Z6:=@List.length_map
abbrev Z7:=@List.getElem?_eq_some_iff
abbrev Z8:=@Nat.testBit_two_pow
abbrev Z9:=@Option.some.injEq
abbrev Va:=@Nat.add_mul_div_right
abbrev Vb:=@List.getElem?_eq_none
abbrev Vc:=@Bool.false_ne_true
abbrev Vd:=@Nat.mul_le_mul_right
abbrev Ve:=@List.mem_of_mem_take
abbrev Vf:=@List.mem_append_left
abbrev Vg:=@Nat.le_succ
abbrev Vh:=@List.getElem?_set
abbrev Vi:=@List.append_assoc
abbrev Vj:=@List.all_eq_false
abbrev Vk:=@Int.toNat_natCast
abbrev Vl:=@List.flatMap_append
abbrev Vm:=@List.getElem?_append_left
abbrev Vn:=@List.nil_append
abbrev Vo:=@List.take_append_drop
abbrev Vp:=@Nat.pow_le_pow_right
abbrev Vq:=@Array.replicate_zero
abbrev Vr:=@Array.replicate_succ
abbrev Vs:=@List.getLast?_cons_cons
abbrev Vt:=@List.append_toArray
abbrev Vu:=@List.getElem_cons_zero
abbrev Vv:=@Nat.add_comm
abbrev Vw:=@List.count_eq_zero
abbrev Vy:=@List.mem_of_getElem?
abbrev V5:=@List.push_toArray
abbrev V6:=@List.count_append
abbrev V7:=@List.getD_cons_succ
abbrev V8:=@Array.length_toList
abbrev V9:=@Nat.lt_of_not_le
abbrev Oa:=@List.drop_zero
abbrev Ob:=@Array.getElem?_eq_none
abbrev Oc:=@List.map_nil
abbrev Od:=@Option.some.inj
abbrev Oe:=@List.sum_append
abbrev Of:=@List.cons.injEq
abbrev Og:=@Int.natCast_add
abbrev Oh:=@List.sum_cons
abbrev Oi:=@List.isPrefixOf_iff_prefix
abbrev Oj:=@List.count_le_length
abbrev Ok:=@Bool.and_false
abbrev Ol:=@Decidable.byContradiction
abbrev Om:=@Nat.lt_succ_self
abbrev On:=@List.getElem?_take_of_lt
abbrev Oo:=@Nat.reduceSub
abbrev Oq:=@Nat.reduceAdd
abbrev Ot:=@List.nodup_cons
abbrev Ou:=@List.append_nil
abbrev Ov:=@List.getElem?_set_self
abbrev Ow:=@List.reverse_cons
abbrev Ox:=@List.length_range
abbrev Oy:=@Nat.testBit_or
abbrev Oz:=@List.drop_drop
abbrev O0:=@List.sum_nil
abbrev O4:=@List.not_mem_nil
abbrev O5:=@List.eq_nil_of_length_eq_zero
abbrev O8:=@List.getElem?_set_ne
abbrev O9:=@List.count_cons_self
abbrev Ga:=@ByteArray.empty.push
abbrev Gb:=@Int.natCast_pow
abbrev Gc:=@Int.toNat_of_nonneg
end Go.Proofs.YtgojgjlninakjaaGreatDoor
