import Derived.Test.YtenckgnkjkijnaaGreatDoorRows
import Derived.WalkKit
import Derived.ProofKit
import Derived.BigQuiet
namespace Go.Proofs.YtenckgnkjkijnaaGreatDoor
open Go Go.RowKit Go.Proofs.Tryz
abbrev To:=Option Addr
abbrev Tl:=List Value
abbrev Ta:=Array Value
abbrev Tb:=ByteArray
abbrev Tw:=World
abbrev Bw (w v:Tw):Prop:=Below w.heap.size w v
abbrev Gv (f:FuncId)(a:Ta)(w:Tw)(v:Value):Prop:=Calls prog f a w fun e x=>e=.returned v/\Bw w x
abbrev Jc(x0:Int)(x1:Int)(x2:Tb):Ta:=#[.int .i64 x0,.int .i64 x1,.string x2]
abbrev Jd:Ta:=#[.slice none 0 0,.slice none 0 0,.slice none 0 0,.slice none 0 0,.map none,.int .i64 0,.slice none 0 0,.slice none 0 0,.slice none 0 0,.int .i64 0,.int .i64 0,.slice none 0 0]
abbrev Jf:Ta:=#[.int .i64 0,.int .i64 0,.string ⟨#[]⟩]
abbrev Ji(x0:Int)(x1:To)(x2:Nat)(x3:Nat)(x4:To)(x5:Nat)(x6:To)(x7:Nat)(x8:Int)(x9:Int):Ta:=#[.int .i64 x0,.slice x1 x2 x3,.slice x4 x2 x5,.slice x6 x2 x7,.int .i64 x8,.int .i64 x9]
abbrev Jk:Ta:=#[.bool false,.slice none 0 0]
abbrev Jl:Tl:=[.int .i64 0,.int .i64 0,.string ⟨#[]⟩]
abbrev Jm:Ta:=#[.int .i64 0,.int .i64 0]
abbrev Jn(x0:Int)(x1:To)(x2:Nat)(x3:Nat):Ta:=#[.int .i64 x0,.slice x1 x2 x3]
abbrev Jo:Ta:=#[.string ⟨#[]⟩,.int .i64 0,.int .i64 0,.slice none 0 0,.slice none 0 0,.slice none 0 0,.slice none 0 0,.string ⟨#[]⟩,.slice none 0 0]
abbrev Jq:Ta:=#[.slice none 0 0,.slice none 0 0,.slice none 0 0,.slice none 0 0]
abbrev Jr(x0:Int)(x1:Int):Ta:=#[.int .i64 x0,.int .i64 x1]
abbrev Jt(x0:Bool)(x1:To)(x2:Nat)(x3:Nat):Ta:=#[.bool x0,.slice x1 x2 x3]
abbrev Ju:Ta:=#[.string ⟨#[]⟩,.int .i64 0,.int .i64 0]
abbrev Jw(x0:Tb)(x1:Tb):Ta:=#[.string ⟨#[114,111,108,101]⟩,.string x0,.string ⟨#[97,116]⟩,.string x1]
abbrev Jy(x0:Int)(x1:Int)(x2:Tb)(x3:Bool)(x4:Bool)(x5:Bool):Ta:=#[.int .i64 x0,.int .i64 x1,.string x2,.bool x3,.bool x4,.bool x5]
abbrev Jz(x0:Tb)(x1:Tb):Ta:=#[.string ⟨#[102,105,101,108,100]⟩,.string x0,.string x1,.string ⟨#[97,116]⟩,.string ⟨#[97,117,116,111]⟩]
abbrev J0:Ta:=#[.slice none 0 0,.slice none 0 0,.slice none 0 0,.slice none 0 0,.map none]
abbrev J1(x0:Tb)(x1:Int)(x2:Int):Ta:=#[.string x0,.int .i64 x1,.int .i64 x2]
abbrev J2(x0:Int)(x1:Int)(x2:Int)(x3:Tb)(x4:Tb):Ta:=#[.int .i64 x0,.int .i64 x1,.int .i64 x2,.string x3,.string x4]
abbrev J3(x0:Tb)(x1:Tb):Ta:=#[.string ⟨#[98,101,108,111,119]⟩,.string x0,.string x1]
abbrev J4(x0:Int):Ta:=#[.int .i64 1,.int .i64 x0,.string ⟨#[]⟩]
abbrev J5(x0:Int):Ta:=#[.int .u32 x0]
abbrev J6(x:Int):Value:=.int .i64 x
abbrev J7:Value:=.slice none 0 0
abbrev J8:Value:=.string ⟨#[]⟩
abbrev J9(b o:Nat):Value:=.pointer (some ⟨b,o,none⟩)
def ka1 (w:Tw)(a:To)(n:Nat)(f:Nat->Bool):Prop :=
 ∀k,k<n->∃b off,a=some ⟨b,off,none⟩/\b<w.heap.size/\w.cell? ⟨b,off+k,none⟩=some (.bool (f k))
def kbx (w:Tw)(a:To)(n:Nat)(f:Nat->Int):Prop :=
 ∀k,k<n->∃b off,a=some ⟨b,off,none⟩/\b<w.heap.size/\w.cell? ⟨b,off+k,none⟩=some (.int .i64 (f k))
theorem ka1.mono {w w':Tw}{a:To}{n:Nat}{f:Nat->Bool}(h:ka1 w a n f)(c:Bw w w'):ka1 w' a n f:=fun e j=>by
 obtain⟨b,g,rfl,d,i⟩:=h e j;exact⟨b,g,rfl,Nat.lt_of_lt_of_le d c.size,(c.cell (p:=⟨b,g+e,none⟩) d).trans i⟩
theorem kbx.mono {w w':Tw}{a:To}{n:Nat}{f:Nat->Int}(h:kbx w a n f)(c:Bw w w'):kbx w' a n f:=fun e j=>by
 obtain⟨b,g,rfl,d,i⟩:=h e j;exact⟨b,g,rfl,Nat.lt_of_lt_of_le d c.size,(c.cell (p:=⟨b,g+e,none⟩) d).trans i⟩
def Blk (w:Tw)(g:Nat)(t:TypeId)(cs:Tl):Prop:=w.heap[g]? = some (.cells cs.toArray t (0,0))
theorem Blk.lt {w:Tw}{g:Nat}{t:TypeId}{cs:Tl}(a:Blk w g t cs):g<w.heap.size:=(Array.getElem?_eq_some_iff.1 a).1
theorem Blk.cell {w:Tw}{g:Nat}{t:TypeId}{cs:Tl}(a:Blk w g t cs)(j:Nat):w.cell? ⟨g,j,none⟩=cs[j]?:=by
 simp only[World.cell?,show w.heap[g]? = _ from a];simp
theorem Blk.free {w:Tw}{g:Nat}{t:TypeId}{cs:Tl}(a:Blk w g t cs)(j:Nat):w.frozen? ⟨g,j,none⟩=false:=by
 simp only[World.frozen?,show w.heap[g]? = _ from a];simp
theorem Blk.mono {w w':Tw}{B g:Nat}{t:TypeId}{cs:Tl}(a:Blk w g t cs)(b:Below B w w')(c:g<B):Blk w' g t cs:=(b.block g c).trans a
theorem Blk.set {w:Tw}{g:Nat}{t:TypeId}{cs:Tl}(a:Blk w g t cs)(j:Nat)(v:Value):Blk (w.setCell ⟨g,j,none⟩ v) g t (cs.set j v):=by
 have:=heap_setCell_same w g j cs.toArray t v a;simpa [Blk] using this
theorem Blk.other {w:Tw}{g:Nat}{t:TypeId}{cs:Tl}(b:Blk w g t cs){a:Addr}(v:Value)(c:g≠a.block):Blk (w.setCell a v) g t cs:=(heap_setCell_other w a g v c).trans b
theorem Blk.alloc {w:Tw}{g:Nat}{t:TypeId}{cs:Tl}(a:Blk w g t cs)(o:Obj):Blk (w.alloc o) g t cs:=a.mono ((Below.refl w.heap.size w).alloc (Nat.le_refl _) o) a.lt
theorem Blk.grown {w w':Tw}{g:Nat}{t:TypeId}{cs:Tl}{row:Option Nat}(a:Blk w g t cs)(b:w.grownBy w' row)(c:some g≠row):Blk w' g t cs:=(b.block g a.lt c).trans a
theorem Blk.new (w:Tw)(t:TypeId)(cs:Ta):Blk (w.alloc (.cells cs t)) w.heap.size t cs.toList:=by
 simpa [Blk] using heap_alloc_new w (.cells cs t)
theorem Blk.of_owns {w:Tw}{base k g n:Nat}{xs:Tl}(c:w.ownsRow base k 1 (.slice (some ⟨g,0,none⟩) n n) n xs):Blk w g k xs:=by
 rcases c.2 with ⟨a,_⟩ | ⟨h,e,f,a,_,d,_,_,i,b⟩
 . simp at a
 . simp only[Value.slice.injEq,Option.some.injEq,Addr.mk.injEq,and_true,true_and]at a
   obtain⟨rfl,rfl⟩:=a;rw[List.take_of_length_le (by simp;omega)]at b;rw[<- b];simpa [Blk] using d
theorem kbd (w:Tw)(a b c d:Obj):Bw w ((((w.alloc a).alloc b).alloc c).alloc d):=((((Below.refl _ w).alloc (Nat.le_refl _) a).alloc (by simp) b).alloc (by simp;omega) c).alloc (by simp;omega) d
theorem Blk.cell4 {w:Tw}{g:Nat}{t:TypeId}{cs:Tl}(a:Blk w g t cs)(j:Nat)(b c d e:Obj):((((w.alloc b).alloc c).alloc d).alloc e).cell? ⟨g,j,none⟩=cs[j]?:=(a.mono (kbd w b c d e) a.lt).cell j
theorem Blk.free4 {w:Tw}{g:Nat}{t:TypeId}{cs:Tl}(a:Blk w g t cs)(j:Nat)(b c d e:Obj):((((w.alloc b).alloc c).alloc d).alloc e).frozen? ⟨g,j,none⟩=false:=(a.mono (kbd w b c d e) a.lt).free j
def kgc (n:Nat)(f g:Nat->Bool):Bool:=decide (∀k,k<n->f k=g k)
def keb (n:Nat)(f g:Nat->Int):Bool:=decide (∀k,k<n->f k=g k)
theorem q9g {n:Nat}{f g:Nat->Bool}(k:Nat)(c:k<n)(b:¬ f k=g k):kgc n f g=false:=by
 simp only[kgc,decide_eq_false_iff_not];intro a;exact b (a k c)
theorem qcp {n:Nat}{f g:Nat->Int}(b:∀a,a<n->f a=g a):keb n f g=true:=by simpa [keb] using b
theorem q9h {n:Nat}{f g:Nat->Int}(k:Nat)(c:k<n)(b:¬ f k=g k):keb n f g=false:=by
 simp only[keb,decide_eq_false_iff_not];intro a;exact b (a k c)
theorem qln {a b:Bool}(c:a=b):Ending.returned (.bool a)=.returned (.bool b):=by rw[c]
theorem qrs {k:IntKind}{a b:Int}(c:a=b):Ending.returned (.int k a)=.returned (.int k b):=by rw[c]
def Hi (p:Prop):Prop:=p
theorem Hi.u {p:Prop}(a:Hi p) :p:=a
theorem Hi.out {p:Prop}(a:Hi p) :p:=a
theorem Nq {b:Type}(x:b) :∃a,x=a:=⟨x,rfl⟩
theorem h_ {p:Prop}(a:p):Hi p:=a
theorem oB {a b:Prop}(c:a)(d:b):Hi a/\Hi b:=⟨h_ c,h_ d⟩
theorem oC {a b c:Prop}(d:a)(e:b)(f:c):Hi a/\Hi b/\Hi c:=⟨h_ d,h_ e,h_ f⟩
theorem oD {a b c d:Prop}(e:a)(f:b)(g:c)(h:d):Hi a/\Hi b/\Hi c/\Hi d:=⟨h_ e,h_ f,h_ g,h_ h⟩
theorem oG {a b c d e:Prop}(f:a)(g:b)(h:c)(i:d)(j:e):Hi a/\Hi b/\Hi c/\Hi d/\Hi e:=⟨h_ f,h_ g,h_ h,h_ i,h_ j⟩
theorem oF {a b c d e f:Prop}(g:a)(h:b)(i:c)(j:d)(k:e)(l:f):Hi a/\Hi b/\Hi c/\Hi d/\Hi e/\Hi f:=⟨h_ g,h_ h,h_ i,h_ j,h_ k,h_ l⟩
theorem bQ {P:Program}{b:Func}{R:Ending->Tw->Prop}{a:Act}{w:Tw}{v:Value}(c:R (.returned v) w)(e:(results b a.tmps).run P w=.ok v w:=by simp[results,go_sem, *])(d:a.defers=[]:=by rfl):bodyPost P b R .ret a w:=bodyPost_ret e d c
theorem nV (w:Tw)(t:TypeId)(c:Ta):∃a,w.alloc (.cells c t)=a/\Blk a w.heap.size t c.toList/\Below w.heap.size w a:=⟨_,rfl,Blk.new w t c,(Below.refl _ _).alloc (Nat.le_refl _) _⟩
theorem nw (w:Tw)(t:TypeId)(c:Ta):∃a,w.alloc (.cells c t)=a/\Hi (Blk a w.heap.size t c.toList)/\Hi (Below w.heap.size w a):=⟨_,rfl,h_ (Blk.new w t c),h_ ((Below.refl _ _).alloc (Nat.le_refl _) _)⟩
theorem cQ {P:Program}{f:FuncId}{a:Ta}{w:Tw}{v:Value}{S:Tw->Prop}{Q:Ending->Tw->Prop}(c:Calls P f a w fun d b=>d=.returned v/\S b)(g:∀b,S b->Q (.returned v) b):Calls P f a w Q:=c.mono (by rintro d b ⟨rfl,c⟩;exact g b c)
theorem cZ {P:Program}{f:FuncId}{a:Ta}{w:Tw}{v:Value}{S:Tw->Prop}{Q:Ending->Tw->Prop}{G:Prop}(d:Calls P f a w fun c b=>c=.returned v/\S b)(g:∀b,S b->Q (.returned v) b)(t:Hi (Calls P f a w fun c b=>c=.returned v/\S b)->Hi (∀b,S b->Q (.returned v) b)->G:=by intro d g;go_wp2_with fail;exact cQ d.u g.u):G:=t (h_ d) (h_ g)
theorem nB {w W:Tw}{o:Obj}(a:w.alloc o=W):Below w.heap.size w W:=by rw[<- a];exact(Below.refl _ _).alloc (Nat.le_refl _) _
theorem nK {w W:Tw}{t:TypeId}{c:Ta}(a:w.alloc (.cells c t)=W):Blk W w.heap.size t c.toList:=by rw[<- a];exact Blk.new w t c
theorem nJ {w W:Tw}{t:TypeId}{c:Ta}{n:Nat}(a:w.heap.size=n)(b:w.alloc (.cells c t)=W):Blk W n t c.toList:=by rw[<- a];exact nK b
theorem rQ {G A:Prop}(a:A)(t:A->G:=by intro a;go_wp2_with fail;go_roundw;(case rel=>exact a);(case measure=>simp[intOf];omega)):G:=t a
theorem u_ {p:Prop}(a:Hi p):p:=a
theorem q7g (w:Tw)(m n:Nat):(w.drewN m).drewN n=w.drewN (m+n):=by simp[World.drewN,Nat.add_assoc]
theorem q4s (w:Tw)(n:Nat):Bw w (w.drewN n):=⟨rfl,rfl,rfl,Nat.le_refl _,fun _ _=>rfl⟩
theorem q6w {x:Int}(a:-9223372036854775808<=x)(b:x<=9223372036854775807):wrap64 x=x:=by
 unfold wrap64;omega
theorem sX {a:Type}(xs:List a)(i:Nat)(x:a):xs.toArray.setIfInBounds i x=(xs.set i x).toArray:=List.setIfInBounds_toArray xs i x
theorem sY {b:Type}{x:b}{xs:List b}{a:b}:(x :: xs).set 0 a=a :: xs:=List.set_cons_zero
theorem sZ {b:Type}{x:b}{xs:List b}{n:Nat}{a:b}:(x :: xs).set (n+1) a=x :: xs.set n a:=List.set_cons_succ
theorem mB {w w':Tw}{g:Nat}{t:TypeId}{cs:Tl}(a:Hi (Blk w g t cs))(b:Bw w w'):Hi (Blk w' g t cs):=h_ (a.u.mono b a.u.lt)
theorem mT {a w w':Tw}(b:Hi (Bw a w))(c:Bw w w'):Hi (Bw a w'):=h_ (b.u.trans (c.mono b.u.size))
theorem nR (n:Nat):n<=n:=Nat.le_refl n
theorem nZ (n:Nat):0<=n:=Nat.zero_le n
theorem nL (n:Nat):¬ n<0:=Nat.not_lt_zero n
theorem bR (b:Nat)(w:Tw):Below b w w:=Below.refl b w
abbrev Ya:=@List.set_cons_zero
abbrev Yb:=@List.set_cons_succ
abbrev Yc:=@beq_eq_false_iff_ne
abbrev Yd:=@decide_eq_false
abbrev Ye:=@decide_eq_true
abbrev Yf:=@List.getElem?_cons_zero
abbrev Yg:=@List.getElem?_eq_getElem
abbrev Yh:=@Bool.and_eq_true
abbrev Yi:=@List.getElem_mem
abbrev Yj:=@List.length_append
abbrev Yk:=@decide_eq_true_eq
abbrev Yl:=@if_neg
abbrev Ym:=@ByteArray.size_append
abbrev Yn:=@Nat.lt_of_lt_of_le
abbrev Yo:=@List.getD_eq_getElem?_getD
abbrev Yp:=@World.size_alloc
abbrev Yq:=@Array.getElem?_eq_some_iff
abbrev Yr:=@if_pos
abbrev Ys:=@List.take_succ_eq_append_getElem
abbrev Yt:=@List.length_cons
abbrev Yu:=@List.mem_range
abbrev Yv:=@List.all_eq_true
abbrev Yw:=@List.setIfInBounds_toArray
abbrev Yx:=@List.mem_iff_getElem
abbrev Yy:=@List.take_of_length_le
abbrev Yz:=@List.getElem?_cons_succ
abbrev Y2:=@List.length_nil
abbrev Y3:=@Nat.zero_add
abbrev Y4:=@List.mem_map
abbrev Y5:=@Nat.le_trans
abbrev Y6:=@of_decide_eq_true
abbrev Y7:=@ByteArray.toList_eq
abbrev Y8:=@List.mem_cons_self
abbrev Y9:=@Bool.true_and
abbrev Za:=@List.length_eq_zero_iff
abbrev Zb:=@List.length_take
abbrev Zc:=@List.range_succ
abbrev Zd:=@Int.natCast_mul
abbrev Ze:=@Bool.or_eq_true
abbrev Zf:=@List.length_reverse
abbrev Zg:=@List.size_toArray
abbrev Zh:=@Bool.eq_iff_iff
abbrev Zi:=@List.mem_cons_of_mem
abbrev Zj:=@List.getElem?_map
abbrev Zk:=@List.mem_append
abbrev Zl:=@List.map_append
abbrev Zm:=@List.map_congr_left
abbrev Zn:=@Nat.pow_le_pow_right
abbrev Zo:=@Nat.add_zero
abbrev Zp:=@List.length_map
abbrev Zq:=@Int.cast_ofNat_Int
abbrev Zr:=@decide_eq_false_iff_not
abbrev Zs:=@Nat.mod_eq_of_lt
abbrev Zt:=@Nat.add_mul_mod_self_right
abbrev Zu:=@Nat.lt_succ_self
abbrev Zv:=@Nat.div_eq_of_lt
abbrev Zw:=@List.cons_append
abbrev Zx:=@List.getElem?_set
abbrev Zy:=@List.all_eq_false
abbrev Zz:=@List.mem_singleton
abbrev Z2:=@Nat.succ_mul
abbrev Z3:=@Option.some.inj
abbrev Z4:=@List.getD_cons_zero
abbrev Z5:=@List.map_cons
abbrev Z6:=@List.mem_of_mem_take
abbrev Z7:=@List.mem_cons
abbrev Z8:=@List.any_eq_true
abbrev Z9:=@Nat.testBit_two_pow
abbrev Va:=@List.flatMap_cons
abbrev Vb:=@Nat.add_mul_div_right
abbrev Vc:=@List.take_append_drop
abbrev Vd:=@List.getElem?_eq_none
abbrev Ve:=@Bool.false_ne_true
abbrev Vf:=@Nat.mul_le_mul_right
abbrev Vg:=@List.mem_append_left
abbrev Vh:=@Array.replicate_zero
abbrev Vi:=@Array.replicate_succ
abbrev Vj:=@List.getElem?_append_right
abbrev Vk:=@Option.some.injEq
abbrev Vl:=@List.append_toArray
abbrev Vm:=@List.pairwise_iff_getElem
abbrev Vn:=@List.drop_eq_getElem_cons
abbrev Vo:=@List.push_toArray
abbrev Vp:=@List.any_eq_false
abbrev Vq:=@Nat.le_succ
abbrev Vr:=@List.nil_append
abbrev Vs:=@List.getElem_cons_zero
abbrev Vt:=@List.take_length
abbrev Vu:=@Prod.mk.injEq
abbrev Vv:=@ByteArray.data_append
abbrev Vw:=@Int.natCast_add
abbrev Vy:=@List.append_assoc
abbrev Vz:=@List.getD_cons_succ
abbrev V7:=@List.flatMap_append
abbrev V8:=@Nat.lt_of_not_le
abbrev V9:=@Int.natAbs_neg
abbrev Oa:=@Bool.and_false
abbrev Ob:=@Array.getElem?_eq_none
abbrev Oc:=@Nat.lt_of_le_of_lt
abbrev Od:=@Nat.add_mul
abbrev Oe:=@Nat.add_comm
abbrev Of:=@List.sum_append
abbrev Og:=@List.nodup_cons
abbrev Oh:=@List.sum_cons
abbrev Oi:=@List.reverse_cons
abbrev Oj:=@List.count_le_length
abbrev Ok:=@Decidable.byContradiction
abbrev Ol:=@List.mem_reverse
abbrev Om:=@Nat.mod_lt
abbrev On:=@Nat.mul_comm
abbrev Oo:=@Nat.le_of_eq
abbrev Oq:=@List.map_nil
abbrev Ot:=@Bool.false_or
abbrev Ou:=@Nat.div_le_self
abbrev Ov:=@List.find?_eq_none
abbrev Ow:=@List.getElem?_set_self
abbrev Ox:=@List.length_range
abbrev Oy:=@List.ext_getElem?
abbrev Oz:=@Nat.testBit_or
abbrev O0:=@List.sum_nil
abbrev O4:=@List.not_mem_nil
abbrev O5:=@List.mem_of_mem_drop
abbrev O8:=@List.mem_of_getElem?
abbrev O9:=@List.getElem?_set_ne
abbrev Ga:=@ByteArray.empty.push
abbrev Gb:=@Nat.add_assoc
abbrev Gc:=@Nat.mod_one
abbrev Gd:=@Option.map_some
abbrev Ge:=@Int.natCast_pow
abbrev Gf:=@List.take_succ_cons
abbrev Gg:=@List.getElem?_range
abbrev Gh:=@Array.length_toList
