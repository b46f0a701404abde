import Derived.Test.YtebbgodlijlioaaGreatDoorRows
import Derived.WalkKit
import Derived.ProofKit
import Derived.BigQuiet
import Derived.Deep.QuietTactic
namespace Go.Proofs.YtebbgodlijlioaaGreatDoor
open Go Go.RowKit
abbrev Jc:Array Value:=#[.slice none 0 0,.slice none 0 0,.slice none 0 0,.slice none 0 0]
abbrev Je:Array Value:=#[.string ⟨#[]⟩,.int .i64 0,.int .i64 0,.slice none 0 0,.slice none 0 0,.slice none 0 0,.slice none 0 0,.string ⟨#[]⟩,.slice none 0 0]
abbrev Jf(x0:ByteArray):Array Value:=#[.string x0,.int .i64 1,.int .i64 0,.slice none 0 0,.slice none 0 0,.slice none 0 0,.slice none 0 0,.string ⟨#[]⟩,.slice none 0 0]
abbrev Jh(x0:Option Addr)(x1:Nat)(x2:Nat)(x3:Option Addr)(x4:Nat)(x5:Nat)(x6:Option Addr)(x7:Nat)(x8:Nat)(x9:Option Addr)(x10:Nat)(x11:Nat):Array Value:=#[.slice x0 x1 x2,.slice x3 x4 x5,.slice x6 x7 x8,.slice x9 x10 x11]
abbrev Ji(x0:Option Addr):Array Value:=#[.slice x0 1 1,.slice none 0 0,.slice none 0 0,.slice none 0 0]
abbrev Jk(x0:Option Addr)(x1:Nat)(x2:Nat)(x3:Option Addr)(x4:Nat)(x5:Nat)(x6:Option Addr)(x7:Nat)(x8:Nat):Array Value:=#[.slice x0 x1 x2,.slice x3 x4 x5,.slice x6 x7 x8]
abbrev Jl:Array Value:=#[.slice none 0 0,.slice none 0 0,.slice none 0 0]
abbrev Jm(x0:Int)(x1:Option Addr)(x2:Nat)(x3:Nat):Array Value:=#[.int .i64 x0,.slice x1 x2 x3]
abbrev Jo(x0:Int)(x1:Option Addr)(x2:Nat)(x3:Nat)(x4:Option Addr)(x5:Nat)(x6:Option Addr)(x7:Nat)(x8:Int)(x9:Int):Array Value:=#[.int .i64 x0,.slice x1 x2 x3,.slice x4 x2 x5,.slice x6 x2 x7,.int .i64 x8,.int .i64 x9]
abbrev Jp(x0:Int)(x1:Int):Array Value:=#[.int .i64 x0,.int .i64 x1]
abbrev Jq(x0:Int)(x1:Int)(x2:Int)(x3:ByteArray)(x4:ByteArray):Array Value:=#[.int .i64 x0,.int .i64 x1,.int .i64 x2,.string x3,.string x4]
abbrev Jr:Array Value:=#[.string ⟨#[]⟩,.int .i64 0,.int .i64 0]
abbrev Js(x0:Option Addr)(x1:ByteArray):Array Value:=#[.string ⟨#[122]⟩,.int .i64 3,.int .i64 0,.slice none 0 0,.slice none 0 0,.slice none 0 0,.slice x0 1 1,.string x1,.slice none 0 0]
abbrev Jt(x0:Int):Array Value:=#[.string ⟨#[97,98,99,100,101,102,103,104]⟩,.int .i64 x0]
abbrev Ju:Array Value:=#[.slice none 0 0,.slice none 0 0,.slice none 0 0,.slice none 0 0,.map none]
abbrev Jv(x0:ByteArray)(x1:Option Addr)(x2:ByteArray):Array Value:=#[.string x0,.int .i64 3,.int .i64 0,.slice none 0 0,.slice none 0 0,.slice none 0 0,.slice x1 1 1,.string x2,.slice none 0 0]
abbrev Jw:Array Value:=#[.string ⟨#[122]⟩,.int .i64 3,.int .i64 0,.slice none 0 0,.slice none 0 0,.slice none 0 0,.slice none 0 0,.string ⟨#[]⟩,.slice none 0 0]
abbrev Jy(x0:ByteArray)(x1:ByteArray):Array Value:=#[.string ⟨#[114,111,108,101]⟩,.string x0,.string ⟨#[97,116]⟩,.string x1]
abbrev Jz(x0:ByteArray)(x1:Int)(x2:Int):Array Value:=#[.string x0,.int .i64 x1,.int .i64 x2]
abbrev J0(x0:ByteArray)(x1:ByteArray):Array Value:=#[.string ⟨#[102,105,101,108,100]⟩,.string x0,.string x1,.string ⟨#[97,116]⟩,.string ⟨#[97,117,116,111]⟩]
abbrev J1(x0:ByteArray)(x1:Int):Array Value:=#[.string x0,.int .i64 x1,.int .i64 (-1),.slice none 0 0,.slice none 0 0,.slice none 0 0,.slice none 0 0,.string ⟨#[]⟩,.slice none 0 0]
abbrev J2(x0:ByteArray):Array Value:=#[.string x0,.int .i64 3,.int .i64 0,.slice none 0 0,.slice none 0 0,.slice none 0 0,.slice none 0 0,.string ⟨#[]⟩,.slice none 0 0]
abbrev J3:List Value:=[.slice none 0 0,.slice none 0 0,.slice none 0 0,.slice none 0 0]
abbrev J4:Array Value:=#[.int .i64 0,.slice none 0 0]
abbrev J5(x0:Int)(x1:Int)(x2:ByteArray):Array Value:=#[.int .i64 x0,.int .i64 x1,.string x2]
abbrev J6(x0:ByteArray)(x1:ByteArray):Array Value:=#[.string ⟨#[98,101,108,111,119]⟩,.string x0,.string x1]
abbrev J7:Array Value:=#[.int .i64 0,.int .i64 2,.int .i64 1,.string ⟨#[]⟩,.string ⟨#[]⟩]
abbrev J8(x0:Int):Array Value:=#[.int .u32 x0]
abbrev J9(x:Int):Value:=.int .i64 x
abbrev Ya:Value:=.slice none 0 0
abbrev Yb:Value:=.string ⟨#[]⟩
abbrev Yc(b o:Nat):Value:=.pointer (some ⟨b,o,none⟩)
def Bools (w:World)(a:Option Addr)(n:Nat)(f:Nat->Bool):Prop :=
 ∀k,k<n->∃b off,a=some ⟨b,off,none⟩/\b<w.heap.size/\w.cell? ⟨b,off+k,none⟩=some (.bool (f k))
def Ints (w:World)(a:Option Addr)(n:Nat)(f:Nat->Int):Prop :=
 ∀k,k<n->∃b off,a=some ⟨b,off,none⟩/\b<w.heap.size/\w.cell? ⟨b,off+k,none⟩=some (.int .i64 (f k))
theorem Bools.mono {w w':World}{a:Option Addr}{n:Nat}{f:Nat->Bool}(h:Bools w a n f)(hb:Below w.heap.size w w'):Bools w' a n f:=fun k hk=>by
 obtain⟨b,off,rfl,hl,hc⟩:=h k hk
 exact⟨b,off,rfl,Nat.lt_of_lt_of_le hl hb.size,(hb.cell (p:=⟨b,off+k,none⟩) hl).trans hc⟩
theorem Ints.mono {w w':World}{a:Option Addr}{n:Nat}{f:Nat->Int}(h:Ints w a n f)(hb:Below w.heap.size w w'):Ints w' a n f:=fun k hk=>by
 obtain⟨b,off,rfl,hl,hc⟩:=h k hk
 exact⟨b,off,rfl,Nat.lt_of_lt_of_le hl hb.size,(hb.cell (p:=⟨b,off+k,none⟩) hl).trans hc⟩
def Blk (w:World)(g:Nat)(t:TypeId)(cs:List Value):Prop:=w.heap[g]? = some (.cells cs.toArray t (0,0))
theorem Blk.lt {w:World}{g:Nat}{t:TypeId}{cs:List Value}(h:Blk w g t cs):g<w.heap.size:=(Array.getElem?_eq_some_iff.1 h).1
theorem Blk.cell {w:World}{g:Nat}{t:TypeId}{cs:List Value}(h:Blk w g t cs)(j:Nat):w.cell? ⟨g,j,none⟩=cs[j]?:=by
 simp only[World.cell?,show w.heap[g]? = _ from h];simp
theorem Blk.free {w:World}{g:Nat}{t:TypeId}{cs:List Value}(h:Blk w g t cs)(j:Nat):w.frozen? ⟨g,j,none⟩=false:=by
 simp only[World.frozen?,show w.heap[g]? = _ from h];simp
theorem Blk.mono {w w':World}{B g:Nat}{t:TypeId}{cs:List Value}(h:Blk w g t cs)(hb:Below B w w')(hg:g<B):Blk w' g t cs:=(hb.block g hg).trans h
theorem Blk.set {w:World}{g:Nat}{t:TypeId}{cs:List Value}(h:Blk w g t cs)(j:Nat)(v:Value):Blk (w.setCell ⟨g,j,none⟩ v) g t (cs.set j v):=by
 have:=heap_setCell_same w g j cs.toArray t v h
 simpa [Blk] using this
theorem Blk.other {w:World}{g:Nat}{t:TypeId}{cs:List Value}(h:Blk w g t cs){a:Addr}(v:Value)(ha:g≠a.block):Blk (w.setCell a v) g t cs:=(heap_setCell_other w a g v ha).trans h
theorem Blk.alloc {w:World}{g:Nat}{t:TypeId}{cs:List Value}(h:Blk w g t cs)(o:Obj):Blk (w.alloc o) g t cs:=h.mono ((Below.refl w.heap.size w).alloc (Nat.le_refl _) o) h.lt
theorem Blk.grown {w w':World}{g:Nat}{t:TypeId}{cs:List Value}{row:Option Nat}(h:Blk w g t cs)(hg:w.grownBy w' row)(hr:some g≠row):Blk w' g t cs:=(hg.block g h.lt hr).trans h
theorem Blk.new (w:World)(t:TypeId)(cs:Array Value):Blk (w.alloc (.cells cs t)) w.heap.size t cs.toList:=by
 simpa [Blk] using heap_alloc_new w (.cells cs t)
theorem Blk.of_owns {w:World}{base e g n:Nat}{xs:List Value}(h:w.ownsRow base e 1 (.slice (some ⟨g,0,none⟩) n n) n xs):Blk w g e xs:=by
 rcases h.2 with ⟨h',_⟩ | ⟨g',cap',cur,h',_,hg,_,_,hs,htake⟩
 . simp at h'
 . simp only[Value.slice.injEq,Option.some.injEq,Addr.mk.injEq,and_true,true_and]at h'
   obtain⟨rfl,rfl⟩:=h';rw[List.take_of_length_le (by simp;omega)]at htake;rw[<- htake];simpa [Blk] using hg
theorem below4 (w:World)(o1 o2 o3 o4:Obj):Below w.heap.size w ((((w.alloc o1).alloc o2).alloc o3).alloc o4):=((((Below.refl _ w).alloc (Nat.le_refl _) o1).alloc (by simp) o2).alloc (by simp;omega) o3).alloc (by simp;omega) o4
theorem Blk.cell4 {w:World}{g:Nat}{t:TypeId}{cs:List Value}(h:Blk w g t cs)(j:Nat)(o1 o2 o3 o4:Obj):((((w.alloc o1).alloc o2).alloc o3).alloc o4).cell? ⟨g,j,none⟩=cs[j]?:=(h.mono (below4 w o1 o2 o3 o4) h.lt).cell j
theorem Blk.free4 {w:World}{g:Nat}{t:TypeId}{cs:List Value}(h:Blk w g t cs)(j:Nat)(o1 o2 o3 o4:Obj):((((w.alloc o1).alloc o2).alloc o3).alloc o4).frozen? ⟨g,j,none⟩=false:=(h.mono (below4 w o1 o2 o3 o4) h.lt).free j
theorem qg2 {a b:Bool}(h:a=b):Ending.returned (.bool a)=.returned (.bool b):=by rw[h]
theorem ql9 {k:IntKind}{a b:Int}(h:a=b):Ending.returned (.int k a)=.returned (.int k b):=by rw[h]
def Hi (p:Prop):Prop:=p
theorem Hi.u {p:Prop}(h:Hi p) :p:=h
theorem Hi.out {p:Prop}(h:Hi p) :p:=h
theorem Nq {α:Type}(x:α) :∃y,x=y:=⟨x,rfl⟩
theorem h_ {p:Prop}(h:p):Hi p:=h
theorem u_ {p:Prop}(h:Hi p):p:=h
theorem q33 (w:World)(n:Nat):Below w.heap.size w (w.drewN n):=⟨rfl,rfl,rfl,Nat.le_refl _,fun _ _=>rfl⟩
theorem q4h {x:Int}(h0:-9223372036854775808<=x)(h1:x<=9223372036854775807):wrap64 x=x:=by
 unfold wrap64
 omega
theorem sX {α:Type}(xs:List α)(i:Nat)(x:α):xs.toArray.setIfInBounds i x=(xs.set i x).toArray:=List.setIfInBounds_toArray xs i x
theorem sY {α:Type}{x:α}{xs:List α}{a:α}:(x :: xs).set 0 a=a :: xs:=List.set_cons_zero
theorem sZ {α:Type}{x:α}{xs:List α}{n:Nat}{a:α}:(x :: xs).set (n+1) a=x :: xs.set n a:=List.set_cons_succ
theorem mB {w w':World}{g:Nat}{t:TypeId}{cs:List Value}(h:Hi (Blk w g t cs))(hb:Below w.heap.size w w'):Hi (Blk w' g t cs):=h_ (h.u.mono hb h.u.lt)
theorem mT {a w w':World}(h:Hi (Below a.heap.size a w))(hb:Below w.heap.size w w'):Hi (Below a.heap.size a w'):=h_ (h.u.trans (hb.mono h.u.size))
theorem nR (n:Nat):n<=n:=Nat.le_refl n
theorem nZ (n:Nat):0<=n:=Nat.zero_le n
theorem nL (n:Nat):¬ n<0:=Nat.not_lt_zero n
theorem bR (b:Nat)(w:World):Below b w w:=Below.refl b w
abbrev Yd:=@List.set_cons_zero
abbrev Ye:=@List.set_cons_succ
abbrev Yf:=@beq_eq_false_iff_ne
abbrev Yg:=@List.length_append
abbrev Yh:=@List.getElem?_cons_zero
abbrev Yi:=@List.getElem?_eq_getElem
abbrev Yj:=@decide_eq_false
abbrev Yk:=@List.getElem_mem
abbrev Yl:=@List.getD_eq_getElem?_getD
abbrev Ym:=@decide_eq_true
abbrev Yn:=@Bool.and_eq_true
abbrev Yo:=@ByteArray.size_append
abbrev Yp:=@decide_eq_true_eq
abbrev Yq:=@List.take_succ_eq_append_getElem
abbrev Yr:=@Array.getElem?_eq_some_iff
abbrev Ys:=@List.length_cons
abbrev Yt:=@if_neg
abbrev Yu:=@List.getElem?_cons_succ
abbrev Yv:=@Nat.le_trans
abbrev Yw:=@List.mem_singleton
abbrev Yx:=@World.size_alloc
abbrev Yy:=@List.mem_iff_getElem
abbrev Yz:=@if_pos
abbrev Y2:=@List.all_eq_true
abbrev Y3:=@List.mem_range
abbrev Y4:=@List.length_nil
abbrev Y5:=@Nat.lt_of_lt_of_le
abbrev Y6:=@List.length_take
abbrev Y7:=@List.length_map
abbrev Y8:=@List.length_reverse
abbrev Y9:=@List.take_of_length_le
abbrev Za:=@List.range_succ
abbrev Zb:=@List.mem_append
abbrev Zc:=@List.mem_map
abbrev Zd:=@List.mem_cons_self
abbrev Ze:=@Bool.true_and
abbrev Zf:=@List.map_append
abbrev Zg:=@of_decide_eq_true
abbrev Zh:=@List.size_toArray
abbrev Zi:=@Int.natCast_mul
abbrev Zj:=@Nat.zero_add
abbrev Zk:=@List.getElem?_map
abbrev Zl:=@List.mem_cons_of_mem
abbrev Zm:=@List.take_length
abbrev Zn:=@List.cons_append
abbrev Zo:=@List.map_cons
abbrev Zp:=@List.flatMap_append
abbrev Zq:=@List.pairwise_iff_getElem
abbrev Zr:=@Nat.add_zero
abbrev Zs:=@Nat.mul_le_mul_right
abbrev Zt:=@Option.some.inj
abbrev Zu:=@Bool.or_eq_true
abbrev Zv:=@Bool.eq_iff_iff
abbrev Zw:=@Nat.succ_mul
abbrev Zx:=@Nat.add_mul_mod_self_right
abbrev Zy:=@List.mem_cons
abbrev Zz:=@List.append_nil
abbrev Z2:=@List.map_congr_left
abbrev Z3:=@List.getD_cons_zero
abbrev Z4:=@Nat.mod_eq_of_lt
abbrev Z5:=@List.flatMap_cons
abbrev Z6:=@List.append_assoc
abbrev Z7:=@List.length_eq_zero_iff
abbrev Z8:=@Array.replicate_zero
abbrev Z9:=@Array.replicate_succ
abbrev Va:=@Nat.testBit_two_pow
abbrev Vb:=@List.append_toArray
abbrev Vc:=@Nat.add_mul_div_right
abbrev Vd:=@List.length_set
abbrev Ve:=@Bool.false_ne_true
abbrev Vf:=@Nat.pow_le_pow_right
abbrev Vg:=@List.push_toArray
abbrev Vh:=@List.all_eq_false
abbrev Vi:=@List.map_nil
abbrev Vj:=@List.nil_append
abbrev Vk:=@List.take_append_drop
abbrev Vl:=@Nat.le_succ
abbrev Vm:=@Nat.div_eq_of_lt
abbrev Vn:=@List.mem_flatMap
abbrev Vo:=@List.mem_of_mem_take
abbrev Vp:=@List.setIfInBounds_toArray
abbrev Vq:=@List.getElem_map
abbrev Vr:=@List.length_filter_le
abbrev Vs:=@List.getElem?_eq_none
abbrev Vt:=@ByteArray.data_append
abbrev Vu:=@List.getElem?_append_left
abbrev Vv:=@List.take_add_one
abbrev Vw:=@List.getElem?_take_of_lt
abbrev Vy:=@List.getD_cons_succ
abbrev Vz:=@List.getElem_cons_zero
abbrev V9:=@List.sum_append
abbrev Oa:=@List.nodup_cons
abbrev Ob:=@List.length_singleton
abbrev Oc:=@List.sum_cons
abbrev Od:=@List.length_range
abbrev Oe:=@List.count_le_length
abbrev Of:=@List.drop_eq_getElem_cons
abbrev Og:=@Decidable.byContradiction
abbrev Oh:=@Nat.lt_succ_self
abbrev Oi:=@List.not_mem_nil
abbrev Oj:=@List.mem_reverse
abbrev Ok:=@List.map_toArray
abbrev Ol:=@List.any_eq_true
abbrev Om:=@List.getElem?_range
abbrev On:=@Nat.mod_lt
abbrev Oo:=@Nat.add_comm
abbrev Oq:=@Nat.div_le_self
abbrev Or:=@List.mem_filter
abbrev Ot:=@List.filter_append
abbrev Ou:=@Int.cast_ofNat_Int
abbrev Ov:=@Int.toNat_natCast
abbrev Ow:=@Nat.testBit_or
abbrev Ox:=@Nat.mul_le_mul
abbrev Oy:=@Bool.and_false
abbrev Oz:=@Nat.le_of_lt
abbrev O0:=@List.sum_nil
abbrev O4:=@Nat.lt_of_not_le
abbrev O5:=@List.length_drop
abbrev O8:=@Nat.min_eq_left
abbrev O9:=@Int.natCast_pow
abbrev Ga:=@ByteArray.toList_eq
end Go.Proofs.YtebbgodlijlioaaGreatDoor
