import Derived.Test.YtebbgodlijlioaaGreatDoorRows
import Derived.WalkKit
import Derived.ProofKit
import Derived.BigQuiet
import Derived.Deep.QuietTactic
namespace Go.Proofs.YtebbgodlijlioaaGreatDoor
open Go Go.RowKit
abbrev Jc:Array Value:=#[.slice none 0 0,.slice none 0 0,.slice none 0 0,.slice none 0 0]
abbrev Jd:Array Value:=#[.int .i64 0,.slice none 0 0,.slice none 0 0,.slice none 0 0,.int .i64 0,.int .i64 0]
abbrev Je:Array Value:=#[.string ⟨#[]⟩,.int .i64 0,.int .i64 0,.slice none 0 0,.slice none 0 0,.slice none 0 0,.slice none 0 0,.string ⟨#[]⟩,.slice none 0 0]
abbrev Jh(x0:Option Addr)(x1:Nat)(x2:Nat)(x3:Option Addr)(x4:Nat)(x5:Nat)(x6:Option Addr)(x7:Nat)(x8:Nat)(x9:Option Addr)(x10:Nat)(x11:Nat):Array Value:=#[.slice x0 x1 x2,.slice x3 x4 x5,.slice x6 x7 x8,.slice x9 x10 x11]
abbrev Ji(x0:Option Addr):Array Value:=#[.slice x0 1 1,.slice none 0 0,.slice none 0 0,.slice none 0 0]
abbrev Jj(x0:Int)(x1:Option Addr)(x2:Nat)(x3:Nat)(x4:Option Addr)(x5:Nat)(x6:Option Addr)(x7:Nat)(x8:Int)(x9:Int):Array Value:=#[.int .i64 x0,.slice x1 x2 x3,.slice x4 x2 x5,.slice x6 x2 x7,.int .i64 x8,.int .i64 x9]
abbrev Jk(x0:Option Addr)(x1:Nat)(x2:Nat)(x3:Option Addr)(x4:Nat)(x5:Nat)(x6:Option Addr)(x7:Nat)(x8:Nat):Array Value:=#[.slice x0 x1 x2,.slice x3 x4 x5,.slice x6 x7 x8]
abbrev Jm:Array Value:=#[.slice none 0 0,.slice none 0 0,.slice none 0 0]
abbrev Jn(x0:Int)(x1:Option Addr)(x2:Nat)(x3:Nat):Array Value:=#[.int .i64 x0,.slice x1 x2 x3]
abbrev Jp(x0:Int)(x1:Int):Array Value:=#[.int .i64 x0,.int .i64 x1]
abbrev Jq(x0:Int)(x1:Int)(x2:Int)(x3:ByteArray)(x4:ByteArray):Array Value:=#[.int .i64 x0,.int .i64 x1,.int .i64 x2,.string x3,.string x4]
abbrev Jr:Array Value:=#[.string ⟨#[]⟩,.int .i64 0,.int .i64 0]
abbrev Js(x0:Option Addr)(x1:ByteArray):Array Value:=#[.string ⟨#[122]⟩,.int .i64 3,.int .i64 0,.slice none 0 0,.slice none 0 0,.slice none 0 0,.slice x0 1 1,.string x1,.slice none 0 0]
abbrev Jt(x0:Int):Array Value:=#[.string ⟨#[97,98,99,100,101,102,103,104]⟩,.int .i64 x0]
abbrev Ju(x0:ByteArray)(x1:Option Addr)(x2:ByteArray):Array Value:=#[.string x0,.int .i64 3,.int .i64 0,.slice none 0 0,.slice none 0 0,.slice none 0 0,.slice x1 1 1,.string x2,.slice none 0 0]
abbrev Jv:Array Value:=#[.string ⟨#[122]⟩,.int .i64 3,.int .i64 0,.slice none 0 0,.slice none 0 0,.slice none 0 0,.slice none 0 0,.string ⟨#[]⟩,.slice none 0 0]
abbrev Jw(x0:ByteArray)(x1:ByteArray):Array Value:=#[.string ⟨#[114,111,108,101]⟩,.string x0,.string ⟨#[97,116]⟩,.string x1]
abbrev Jy(x0:ByteArray)(x1:Int)(x2:Int):Array Value:=#[.string x0,.int .i64 x1,.int .i64 x2]
abbrev Jz(x0:ByteArray)(x1:ByteArray):Array Value:=#[.string ⟨#[102,105,101,108,100]⟩,.string x0,.string x1,.string ⟨#[97,116]⟩,.string ⟨#[97,117,116,111]⟩]
abbrev J0(x0:ByteArray)(x1:Int):Array Value:=#[.string x0,.int .i64 x1,.int .i64 (-1),.slice none 0 0,.slice none 0 0,.slice none 0 0,.slice none 0 0,.string ⟨#[]⟩,.slice none 0 0]
abbrev J1:Array Value:=#[.slice none 0 0,.slice none 0 0,.slice none 0 0,.slice none 0 0,.map none]
abbrev J2(x0:ByteArray):Array Value:=#[.string x0,.int .i64 3,.int .i64 0,.slice none 0 0,.slice none 0 0,.slice none 0 0,.slice none 0 0,.string ⟨#[]⟩,.slice none 0 0]
abbrev J3:List Value:=[.slice none 0 0,.slice none 0 0,.slice none 0 0,.slice none 0 0]
abbrev J4:Array Value:=#[.int .i64 0,.slice none 0 0]
abbrev J5(x0:Int)(x1:Int)(x2:ByteArray):Array Value:=#[.int .i64 x0,.int .i64 x1,.string x2]
abbrev J6(x0:ByteArray)(x1:ByteArray):Array Value:=#[.string ⟨#[98,101,108,111,119]⟩,.string x0,.string x1]
abbrev J7:Array Value:=#[.int .i64 0,.int .i64 2,.int .i64 1,.string ⟨#[]⟩,.string ⟨#[]⟩]
abbrev J8(x0:Int):Array Value:=#[.int .u32 x0]
abbrev J9(x:Int):Value:=.int .i64 x
abbrev Ya:Value:=.slice none 0 0
abbrev Yb:Value:=.string ⟨#[]⟩
abbrev Yc(b o:Nat):Value:=.pointer (some ⟨b,o,none⟩)
def Bools (w:World)(a:Option Addr)(n:Nat)(f:Nat->Bool):Prop :=
 ∀k,k<n->∃b off,a=some ⟨b,off,none⟩/\b<w.heap.size/\w.cell? ⟨b,off+k,none⟩=some (.bool (f k))
def Ints (w:World)(a:Option Addr)(n:Nat)(f:Nat->Int):Prop :=
 ∀k,k<n->∃b off,a=some ⟨b,off,none⟩/\b<w.heap.size/\w.cell? ⟨b,off+k,none⟩=some (.int .i64 (f k))
theorem Bools.mono {w w':World}{a:Option Addr}{n:Nat}{f:Nat->Bool}(h:Bools w a n f)(hb:Below w.heap.size w w'):Bools w' a n f:=fun k hk=>by
 obtain⟨b,off,rfl,hl,hc⟩:=h k hk
 exact⟨b,off,rfl,Nat.lt_of_lt_of_le hl hb.size,(hb.cell (p:=⟨b,off+k,none⟩) hl).trans hc⟩
theorem Ints.mono {w w':World}{a:Option Addr}{n:Nat}{f:Nat->Int}(h:Ints w a n f)(hb:Below w.heap.size w w'):Ints w' a n f:=fun k hk=>by
 obtain⟨b,off,rfl,hl,hc⟩:=h k hk
 exact⟨b,off,rfl,Nat.lt_of_lt_of_le hl hb.size,(hb.cell (p:=⟨b,off+k,none⟩) hl).trans hc⟩
def Blk (w:World)(g:Nat)(t:TypeId)(cs:List Value):Prop:=w.heap[g]? = some (.cells cs.toArray t (0,0))
theorem Blk.lt {w:World}{g:Nat}{t:TypeId}{cs:List Value}(h:Blk w g t cs):g<w.heap.size:=(Array.getElem?_eq_some_iff.1 h).1
theorem Blk.cell {w:World}{g:Nat}{t:TypeId}{cs:List Value}(h:Blk w g t cs)(j:Nat):w.cell? ⟨g,j,none⟩=cs[j]?:=by
 simp only[World.cell?,show w.heap[g]? = _ from h];simp
theorem Blk.free {w:World}{g:Nat}{t:TypeId}{cs:List Value}(h:Blk w g t cs)(j:Nat):w.frozen? ⟨g,j,none⟩=false:=by
 simp only[World.frozen?,show w.heap[g]? = _ from h];simp
theorem Blk.mono {w w':World}{B g:Nat}{t:TypeId}{cs:List Value}(h:Blk w g t cs)(hb:Below B w w')(hg:g<B):Blk w' g t cs:=(hb.block g hg).trans h
theorem Blk.set {w:World}{g:Nat}{t:TypeId}{cs:List Value}(h:Blk w g t cs)(j:Nat)(v:Value):Blk (w.setCell ⟨g,j,none⟩ v) g t (cs.set j v):=by
 have:=heap_setCell_same w g j cs.toArray t v h
 simpa [Blk] using this
theorem Blk.other {w:World}{g:Nat}{t:TypeId}{cs:List Value}(h:Blk w g t cs){a:Addr}(v:Value)(ha:g≠a.block):Blk (w.setCell a v) g t cs:=(heap_setCell_other w a g v ha).trans h
theorem Blk.alloc {w:World}{g:Nat}{t:TypeId}{cs:List Value}(h:Blk w g t cs)(o:Obj):Blk (w.alloc o) g t cs:=h.mono ((Below.refl w.heap.size w).alloc (Nat.le_refl _) o) h.lt
theorem Blk.grown {w w':World}{g:Nat}{t:TypeId}{cs:List Value}{row:Option Nat}(h:Blk w g t cs)(hg:w.grownBy w' row)(hr:some g≠row):Blk w' g t cs:=(hg.block g h.lt hr).trans h
theorem Blk.new (w:World)(t:TypeId)(cs:Array Value):Blk (w.alloc (.cells cs t)) w.heap.size t cs.toList:=by
 simpa [Blk] using heap_alloc_new w (.cells cs t)
theorem Blk.of_owns {w:World}{base e g n:Nat}{xs:List Value}(h:w.ownsRow base e 1 (.slice (some ⟨g,0,none⟩) n n) n xs):Blk w g e xs:=by
 rcases h.2 with ⟨h',_⟩ | ⟨g',cap',cur,h',_,hg,_,_,hs,htake⟩
 . simp at h'
 . simp only[Value.slice.injEq,Option.some.injEq,Addr.mk.injEq,and_true,true_and]at h'
   obtain⟨rfl,rfl⟩:=h';rw[List.take_of_length_le (by simp;omega)]at htake;rw[<- htake];simpa [Blk] using hg
theorem below4 (w:World)(o1 o2 o3 o4:Obj):Below w.heap.size w ((((w.alloc o1).alloc o2).alloc o3).alloc o4):=((((Below.refl _ w).alloc (Nat.le_refl _) o1).alloc (by simp) o2).alloc (by simp;omega) o3).alloc (by simp;omega) o4
theorem Blk.cell4 {w:World}{g:Nat}{t:TypeId}{cs:List Value}(h:Blk w g t cs)(j:Nat)(o1 o2 o3 o4:Obj):((((w.alloc o1).alloc o2).alloc o3).alloc o4).cell? ⟨g,j,none⟩=cs[j]?:=(h.mono (below4 w o1 o2 o3 o4) h.lt).cell j
theorem Blk.free4 {w:World}{g:Nat}{t:TypeId}{cs:List Value}(h:Blk w g t cs)(j:Nat)(o1 o2 o3 o4:Obj):((((w.alloc o1).alloc o2).alloc o3).alloc o4).frozen? ⟨g,j,none⟩=false:=(h.mono (below4 w o1 o2 o3 o4) h.lt).free j
theorem qe9 {a b:Bool}(h:a=b):Ending.returned (.bool a)=.returned (.bool b):=by rw[h]
theorem qj3 {k:IntKind}{a b:Int}(h:a=b):Ending.returned (.int k a)=.returned (.int k b):=by rw[h]
def Hi (p:Prop):Prop:=p
theorem Hi.u {p:Prop}(h:Hi p) :p:=h
theorem Hi.out {p:Prop}(h:Hi p) :p:=h
theorem Nq {α:Type}(x:α) :∃y,x=y:=⟨x,rfl⟩
theorem h_ {p:Prop}(h:p):Hi p:=h
theorem u_ {p:Prop}(h:Hi p):p:=h
theorem q35 (w:World)(n:Nat):Below w.heap.size w (w.drewN n):=⟨rfl,rfl,rfl,Nat.le_refl _,fun _ _=>rfl⟩
theorem q4f {x:Int}(h0:-9223372036854775808<=x)(h1:x<=9223372036854775807):wrap64 x=x:=by
 unfold wrap64
 omega
theorem sX {α:Type}(xs:List α)(i:Nat)(x:α):xs.toArray.setIfInBounds i x=(xs.set i x).toArray:=List.setIfInBounds_toArray xs i x
theorem sY {α:Type}{x:α}{xs:List α}{a:α}:(x :: xs).set 0 a=a :: xs:=List.set_cons_zero
theorem sZ {α:Type}{x:α}{xs:List α}{n:Nat}{a:α}:(x :: xs).set (n+1) a=x :: xs.set n a:=List.set_cons_succ
theorem mB {w w':World}{g:Nat}{t:TypeId}{cs:List Value}(h:Hi (Blk w g t cs))(hb:Below w.heap.size w w'):Hi (Blk w' g t cs):=h_ (h.u.mono hb h.u.lt)
theorem mT {a w w':World}(h:Hi (Below a.heap.size a w))(hb:Below w.heap.size w w'):Hi (Below a.heap.size a w'):=h_ (h.u.trans (hb.mono h.u.size))
theorem nR (n:Nat):n<=n:=Nat.le_refl n
theorem nZ (n:Nat):0<=n:=Nat.zero_le n
theorem nL (n:Nat):¬ n<0:=Nat.not_lt_zero n
theorem bR (b:Nat)(w:World):Below b w w:=Below.refl b w
abbrev Yd:=@List.set_cons_zero
abbrev Ye:=@List.set_cons_succ
abbrev Yf:=@beq_eq_false_iff_ne
abbrev Yg:=@List.length_append
abbrev Yh:=@List.getElem?_cons_zero
abbrev Yi:=@decide_eq_false
abbrev Yj:=@List.getElem?_eq_getElem
abbrev Yk:=@List.getElem_mem
abbrev Yl:=@List.getD_eq_getElem?_getD
abbrev Ym:=@decide_eq_true
abbrev Yn:=@ByteArray.size_append
abbrev Yo:=@List.getElem?_cons_succ
abbrev Yp:=@Bool.and_eq_true
abbrev Yq:=@decide_eq_true_eq
abbrev Yr:=@List.take_succ_eq_append_getElem
abbrev Ys:=@Nat.le_trans
abbrev Yt:=@Array.getElem?_eq_some_iff
abbrev Yu:=@if_neg
abbrev Yv:=@World.size_alloc
abbrev Yw:=@List.length_cons
abbrev Yx:=@List.mem_singleton
abbrev Yy:=@if_pos
abbrev Yz:=@List.length_map
abbrev Y2:=@List.mem_iff_getElem
abbrev Y3:=@List.length_take
abbrev Y4:=@List.all_eq_true
abbrev Y5:=@List.length_nil
abbrev Y6:=@List.length_reverse
abbrev Y7:=@Nat.lt_of_lt_of_le
abbrev Y8:=@List.mem_map
abbrev Y9:=@List.mem_append
abbrev Za:=@Int.natCast_mul
abbrev Zb:=@List.mem_range
abbrev Zc:=@Bool.true_and
abbrev Zd:=@List.mem_cons_self
abbrev Ze:=@of_decide_eq_true
abbrev Zf:=@List.map_append
abbrev Zg:=@List.range_succ
abbrev Zh:=@List.take_of_length_le
abbrev Zi:=@Nat.zero_add
abbrev Zj:=@List.size_toArray
abbrev Zk:=@List.getElem?_map
abbrev Zl:=@Nat.mul_le_mul_right
abbrev Zm:=@List.take_length
abbrev Zn:=@Bool.eq_iff_iff
abbrev Zo:=@List.flatMap_cons
abbrev Zp:=@Nat.add_mul_mod_self_right
abbrev Zq:=@List.flatMap_append
abbrev Zr:=@List.append_nil
abbrev Zs:=@Bool.or_eq_true
abbrev Zt:=@Nat.succ_mul
abbrev Zu:=@List.mem_cons_of_mem
abbrev Zv:=@List.getD_cons_zero
abbrev Zw:=@Nat.mod_eq_of_lt
abbrev Zx:=@List.map_cons
abbrev Zy:=@List.setIfInBounds_toArray
abbrev Zz:=@List.length_set
abbrev Z2:=@List.mem_cons
abbrev Z3:=@List.cons_append
abbrev Z4:=@Nat.testBit_two_pow
abbrev Z5:=@Nat.add_mul_div_right
abbrev Z6:=@Option.some.inj
abbrev Z7:=@Bool.false_ne_true
abbrev Z8:=@List.length_eq_zero_iff
abbrev Z9:=@Nat.pow_le_pow_right
abbrev Va:=@Nat.add_zero
abbrev Vb:=@List.append_assoc
abbrev Vc:=@List.all_eq_false
abbrev Vd:=@List.map_congr_left
abbrev Ve:=@List.pairwise_iff_getElem
abbrev Vf:=@List.take_append_drop
abbrev Vg:=@Nat.div_eq_of_lt
abbrev Vh:=@List.getElem_map
abbrev Vi:=@List.mem_of_mem_take
abbrev Vj:=@Nat.le_succ
abbrev Vk:=@List.mem_flatMap
abbrev Vl:=@List.getElem?_eq_none
abbrev Vm:=@ByteArray.data_append
abbrev Vn:=@Nat.mul_le_mul
abbrev Vo:=@List.getElem?_take_of_lt
abbrev Vp:=@List.getD_cons_succ
abbrev Vq:=@Nat.mod_lt
abbrev Vr:=@List.getElem_cons_zero
abbrev Vs:=@List.map_nil
abbrev Vt:=@List.length_singleton
abbrev Vu:=@List.take_add_one
abbrev Vv:=@Array.replicate_zero
abbrev Vw:=@Array.replicate_succ
abbrev Vy:=@List.drop_eq_getElem_cons
abbrev Vz:=@Decidable.byContradiction
abbrev V9:=@List.not_mem_nil
abbrev Oa:=@List.mem_reverse
abbrev Ob:=@List.map_toArray
abbrev Oc:=@List.getElem?_range
abbrev Od:=@List.append_toArray
abbrev Oe:=@Nat.add_comm
abbrev Of:=@Nat.div_le_self
abbrev Og:=@List.nil_append
abbrev Oh:=@Int.cast_ofNat_Int
abbrev Oi:=@decide_eq_false_iff_not
abbrev Oj:=@List.push_toArray
abbrev Ok:=@Nat.testBit_or
abbrev Ol:=@Bool.and_false
abbrev Om:=@Nat.lt_succ_self
abbrev On:=@Nat.lt_of_not_le
abbrev Oo:=@Nat.min_eq_left
abbrev Oq:=@List.nodup_cons
abbrev Or:=@List.mem_filter
abbrev Ot:=@Int.natCast_pow
abbrev Ou:=@ByteArray.toList_eq
end Go.Proofs.YtebbgodlijlioaaGreatDoor
