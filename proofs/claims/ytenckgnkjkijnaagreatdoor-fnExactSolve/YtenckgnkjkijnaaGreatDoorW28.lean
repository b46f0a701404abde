import Derived.Test.YtenckgnkjkijnaaGreatDoorW21
import Derived.Test.YtenckgnkjkijnaaGreatDoorW24
import Derived.Deep.DeepHandedRow
import Derived.Deep.Grids
import Derived.Lib.SmallJoins
import Derived.Test.YtenckgnkjkijnaaGreatDoorCards
import Derived.Test.YtenckgnkjkijnaaGreatDoorTie
import Derived.Stop.LaidErr
set_option maxRecDepth 100000
set_option maxHeartbeats 64000000
namespace Go.Proofs.YtenckgnkjkijnaaGreatDoor
open Go Go.RowKit Go.ChangeShapes Go.WideShapes Go.ChangeAt Go.Proofs.Tryz
section
variable {H:Type} {enc:TypeId × Value->H} {P:Program} {w:World} {base:Nat} {spare:Nat->Bool} {held:Bool}
theorem qou {t:TypeId}{n:Nat}{v:Value}{y:DataW H × List MemPlace}(f:P.underlying t=some (.int .i64))(b:DataW.trod enc P w base spare held n t [v]=some y):∃a,v=.int .i64 a/\-9223372036854775808<=a/\a<=9223372036854775807:=by
 obtain⟨a,c,d⟩:=DataW.trod_int f b;have e:=d.2;simp[Lit.wf,IntKind.min,IntKind.max,IntKind.signed,IntKind.bits]at e;exact⟨a,by simpa using c,by omega,by omega⟩
theorem qox {t:TypeId}{n:Nat}{v:Value}{y:DataW H × List MemPlace}(e:P.underlying t=some .string)(b:DataW.trod enc P w base spare held n t [v]=some y):∃a:ByteArray,v=.string a/\a.size<=9223372036854775807:=by
 obtain⟨a,c,_,d⟩:=DataW.trod_string e b;exact⟨a,by simpa using c,d⟩
end
theorem kg2:ownKnob prog.godebug=none:=by kernel_rfl
theorem kcX:laidOutB prog=true:=by kernel_rfl
theorem kdD:prog.cellsOf 50=3:=by kernel_rfl
theorem ka6:prog.cellsOf 9=1:=by kernel_rfl
theorem gPow:prog.globalNamed "internal/strconv.uint64pow10" = some 6:=by kernel_rfl
theorem ke0:(prog.globals[6]?).map (·.type)=some 357:=by kernel_rfl
theorem ke1:prog.cellsOf 357=20:=by kernel_rfl
theorem ke2:prog.cellsOf 306=1:=by kernel_rfl
theorem kgs:(Rows.laid_internal_strconv_uint64pow10:DataW Unit)=Lib.tabData .u64 Lib.pow10Tab:=by rfl
theorem kfh {w:Tw}{rest:List (String × DataW Unit)}(b:laidMet prog (("math/bits.deBruijn32tab",Rows.laid_math_bits_deBruijn32tab) :: ("math/bits.deBruijn64tab",Rows.laid_math_bits_deBruijn64tab) :: ("internal/strconv.uint64pow10",Rows.laid_internal_strconv_uint64pow10) :: rest) w):Pow w:=by
 have a:=b.tail.tail;rw[kgs]at a;exact Lib.tabIs_of_head gPow ke0 underlying357 underlying306 ke2 ke1 a
def kfJ (k:IntKind)(zs:List Int):Obj->Obj:=fun
 | .cells _ t frozen=>.cells (zs.map (fun z=>Value.int k z)).toArray t frozen
 | o=>o
end Go.Proofs.YtenckgnkjkijnaaGreatDoor
namespace Go.Proofs.YtenckgnkjkijnaaGreatDoor
open Go Go.RowKit Go.Proofs.Tryz
structure Cx where
 v:Vx
 rel:Bool
 ok:Bool
 must:Bool
def cv (n:Cx):Value:=.agg #[.int .i64 n.v.k,.int .i64 n.v.n,.string n.v.s,.bool n.rel,.bool n.ok,.bool n.must]
def kfi (w:Tw)(b o:Nat)(n:Cx):Prop:=b<w.heap.size/\w.cell? ⟨b,o,none⟩=some (.int .i64 n.v.k)/\w.cell? ⟨b,o+1,none⟩=some (.int .i64 n.v.n)/\w.cell? ⟨b,o+2,none⟩=some (.string n.v.s)/\w.cell? ⟨b,o+3,none⟩=some (.bool n.rel)/\w.cell? ⟨b,o+4,none⟩=some (.bool n.ok)/\w.cell? ⟨b,o+5,none⟩=some (.bool n.must)
theorem kfi.mono {w w':Tw}{b o:Nat}{n:Cx}(a:kfi w b o n)(c:Bw w w'):kfi w' b o n :=
 ⟨Yn a.1 c.size,(c.cell a.1).trans a.2.1,(c.cell a.1).trans a.2.2.1,(c.cell a.1).trans a.2.2.2.1,(c.cell a.1).trans a.2.2.2.2.1,(c.cell a.1).trans a.2.2.2.2.2.1,(c.cell a.1).trans a.2.2.2.2.2.2⟩
def kct (w:Tw)(a:To)(m:Nat)(e:Nat->Cx):Prop:=∀k,k<m->∃b o,a=some ⟨b,o,none⟩/\kfi w b (o+k*6) (e k)
theorem kct.mono {w w':Tw}{a:To}{m:Nat}{b:Nat->Cx}(d:kct w a m b)(e:Bw w w'):kct w' a m b:=fun h g=>by
 obtain⟨c,i,b,f⟩:=d h g;exact⟨c,i,b,f.mono e⟩
theorem qfd:(prog.info? 75).map (fun a=>(a.zero,a.size,a.bytes))=some (some (.agg #[J6 0,J6 0,J8,.bool false,.bool false,.bool false]),6,40):=by kernel_rfl
theorem q7i (n:Cx)(w:Tw) :
 Gv 39 #[cv n,cv n] w (.bool true):=by
 unfold cv;obtain⟨c,a,b⟩:=oC ((Blk.new w 75 (Jy n.v.k n.v.n n.v.s n.rel n.ok n.must)).alloc (.cells (Jy n.v.k n.v.n n.v.s n.rel n.ok n.must) 75)) (Blk.new (w.alloc (.cells (Jy n.v.k n.v.n n.v.s n.rel n.ok n.must) 75)) 75 (Jy n.v.k n.v.n n.v.s n.rel n.ok n.must)) (((bR w.heap.size w).alloc (nR _) (.cells (Jy n.v.k n.v.n n.v.s n.rel n.ok n.must) 75)).alloc (by simp) (.cells (Jy n.v.k n.v.n n.v.s n.rel n.ok n.must) 75));simp only[Yp]at a;go_enter func39,ntmps39;go_wp2_with fail;refine cQ (q56 n.v.k n.v.n n.v.s _) fun l d=>?_;replace c:=mB c d;replace a:=mB a d;replace b:=mT b d;obtain⟨m,o,p,q,r,t⟩:=(kcH c).1;obtain⟨e,f,g,h,i,j⟩:=(kcH a).1;go_wp2_with fail;go_ret;exact⟨rfl,b⟩
theorem q51 (a b:To)(g:Nat->Cx)(n J K:Nat)(w:Tw)(O:n<=1048576)(L:kct w a n g)(k:kct w b n g) :
 Gv 11 #[.slice a n J,.slice b n K] w (.bool true):=by
 obtain⟨G,H⟩:=oB L k;go_enter func11,ntmps11;go_wp2_with fail;go_loopw [5] (fun c wr=>∃d:Nat,d<=n/\c=J6 d/\Bw w wr) (fun c _=>n - (intOf c).toNat)
 case atStart=>exact⟨0,nZ _,rfl,bR _ _⟩
 case round =>
  obtain⟨d,N,rfl,h⟩:=hrel;have x:=h_ h;by_cases C:d<n
  . obtain⟨A,D,rfl,u⟩:=(G.mono h) d C
    obtain⟨B,E,rfl,v⟩:=(H.mono h) d C;obtain⟨c,M⟩:=Nq (g d);rw[M]at u v;obtain⟨y,z⟩:=oB u v;have P:(0:Int)<=d:=(by omega);have Q:(d:Int)<n:=(by omega);go_wp2_with fail;refine wp_region_held_drew (S:=fun e=>kfi e A (D+d*6) c/\kfi e B (E+d*6) c) (by kernel_rfl) ⟨y,z⟩ (fun e=>?_);refine tkA 0 e ?_;refine tkA 1 e ?_;refine tkA 2 e ?_;refine tkL 3 20 (.agg (Jy c.v.k c.v.n c.v.s c.rel c.ok c.must)) e ?_ (hy:=fun w j=>by obtain⟨⟨-,l,m,o,p,q,r⟩,-⟩:=j;simp[execOp,go_sem,l,m,o,p,q,r]);refine tkA 4 e ?_;refine tkA 5 e ?_;refine tkA 6 e ?_;refine tkL 7 24 (.agg (Jy c.v.k c.v.n c.v.s c.rel c.ok c.must)) e ?_ (hy:=fun w j=>by obtain⟨-,⟨-,l,m,o,p,q,r⟩⟩:=j;simp[execOp,go_sem,l,m,o,p,q,r]);refine kaL (i:=8) (f:=39) (args:=#[cv c,cv c]) (R:=fun F j=>F=.bool true/\Bw wr j) 25 rfl rfl (by rfl) (by kernel_rfl) ?hrun1 ((q7i c _).mono fun g t ⟨j,k⟩=>⟨_,j,rfl,q36 k⟩) ?_
    case hrun1=>simp[execOp,go_sem,cv]
    rintro F t ⟨rfl,j⟩;have I:=mT x j;replace e:kfi t A (D+d*6) c/\kfi t B (E+d*6) c:=⟨y.mono j,z.mono j⟩;refine⟨e,?_⟩;refine kaS (by(first | simp only[Ya,Yb] | skip);rfl) (by(first | simp only[Ya,Yb] | skip);rfl) ?_;refine tkL 9 26 (.bool false) e ?_;refine wdQ ?_;refine rQ ?_;exact⟨d+1,by omega,by go_num,I⟩
  . obtain rfl:n=d:=by omega
    go_wp2_with fail;go_ret;exact⟨rfl,x⟩
def I6 (n:Int):Prop:=-9223372036854775808<=n/\n<=9223372036854775807
def GVx (u:Vx):Prop:=kah u.k u.n u.s=true/\I6 u.n
theorem kbZ (b:Bool):GVx (kaj b):=by cases b <;> exact⟨by decide,by decide,by decide⟩
theorem kcd {n:Int}(a:1<=n/\n<=5):GVx (kax n):=⟨by simp[kah,kax,a];rfl,by show -9223372036854775808<=n;omega,by show n<=9223372036854775807;omega⟩
theorem qoo:GVx kak:=⟨by decide,by decide,by decide⟩
theorem kd7 {n:Int}(a:I6 n):GVx (kbL n):=⟨by simp[kah,kbL];rfl,a⟩
theorem kd8 (n:Int):GVx (kbn n):=by
 unfold kbn;by_cases a:kby n=true
 . rw[Yr a];exact kd7 (by simpa [kby,I6] using a)
 . rw[Yl a];exact kcd (by decide)
theorem kd9 {s:Tb}(a:kaw s=true):GVx (kbU s):=⟨by simp[kah,kbU,a],by show -9223372036854775808<=(0:Int);decide,by show(0:Int)<=9223372036854775807;decide⟩
theorem kfd {f:Nat->Vx}{m:Nat}{u:Vx}(c:∀a,a<m->GVx (f a))(b:kbq f m=some u):GVx u:=by
 obtain⟨a,d,rfl⟩:=Y4.1 (List.mem_of_find?_eq_some b);exact c a (Yu.1 d)
theorem kht (l:List UInt8):I6 (rd l).1:=by
 unfold rd;cases h:kbk l with
 | none=>exact⟨by decide,by decide⟩
 | some n =>
  unfold kbk at h;split at h
  . rename_i m hm
    split at h
    . simp only[Vk]at h
      subst h;have hb:=Lib.parseIntB_bounds hm;have:(2:Nat) ^ (64 - 1)=9223372036854775808:=rfl;unfold I6;simp only;omega
    . cases h
  . cases h
theorem qjw (n:Int){c:UInt8}(a:c∈Lib.itoa n):45<=c.toNat/\c.toNat<=57:=by
 by_cases b:n<0
 . obtain⟨e,d,rfl⟩:=(qb9 n).1 b
   rw[d]at a;rcases Z7.1 a with rfl | a
   . decide
   . have:=(qpy n.natAbs).1 c a;omega
 . rw[((qb9 n).2 b).1]at a
   have:=(qpy n.natAbs).1 c a;omega
theorem qfj {n:Int}(a:I6 n):kaw ⟨(Lib.itoa n).toArray⟩=true:=by
 rw[kaw,Yh,Yv];refine⟨Ye (by have:=Lib.itoa_length_le n a.1 a.2;show(Lib.itoa n).toArray.size<=1000;simp;omega),fun b b=>?_⟩;have c:=qjw n (by simpa using b);exact Ye (by omega)
theorem qie {s t:Tb}(c:kaw s=true)(d:kaw t=true)(e:¬ 1000<s.size+t.size):kaw (s++t)=true:=by
 rw[kaw,Yh,Yv]at *;refine⟨Ye (by rw[Ym];omega),fun a b=>?_⟩;rw[Vv,Array.toList_append,Zk]at b;exact b.elim (c.2 a) (d.2 a)
theorem qqr {u:Vx}(a:kah u.k u.n u.s=true)(b:u.k=3):kaw u.s=true:=by
 rw[b]at a;simp[kah]at a;exact a.2
theorem kf9 (b:Int){x:Int}(a:I6 x):GVx (kfB b x):=by
 unfold kfB
 repeat' split
 . exact kd8 _
 . exact kd9 (qfj a)
 . exact kcd (by decide)
theorem kga (a:Int){x y:Int}(o:I6 x)(hy:I6 y):GVx (kcv a x y):=by
 unfold kcv;have n:∀b c:Int,I6 b->I6 c->I6 (if x<y then b else c):=fun b c b b=>by split <;> assumption
 have m:∀b,GVx (if y=0 then kax 3 else kbn b):=fun b=>by split;exact kcd (by decide);exact kd8 b
 by_cases b:a=4
 . rw[Yr b];exact kd8 _
 by_cases c:a=7
 . rw[Yl b,Yr c];exact kd8 _
 by_cases d:a=8
 . rw[Yl b,Yl c,Yr d];exact kd8 _
 by_cases e:a=5
 . rw[Yl b,Yl c,Yl d,Yr e];exact m _
 by_cases l:a=6
 . rw[Yl b,Yl c,Yl d,Yl e,Yr l];exact m _
 rw[Yl b,Yl c,Yl d,Yl e,Yl l];by_cases f:a=10
 . rw[Yr f];exact kbZ _
 rw[Yl f];by_cases g:a=11
 . rw[Yr g];exact kbZ _
 rw[Yl g];by_cases h:a=12
 . rw[Yr h];exact kbZ _
 rw[Yl h];by_cases i:a=13
 . rw[Yr i];exact kbZ _
 rw[Yl i];by_cases j:a=17
 . rw[Yr j];exact kd7 (n _ _ o hy)
 rw[Yl j];by_cases k:a=18
 . rw[Yr k];exact kd7 (n _ _ hy o)
 rw[Yl k];exact kcd (by decide)
theorem qos (c:Int){p:Vx}(a:GVx p)(b:p.k=3):GVx (kc5 c p):=by
 unfold kc5
 repeat' split
 . have:=kcQ a.1 b
   exact kd7 ⟨by omega,by omega⟩
 . exact kd7 (kht _)
 . exact kcd (by decide)
 . exact a
 . exact kcd (by decide)
theorem qot (c:Int){s t:Tb}(a:kaw s=true)(b:kaw t=true):GVx (kcx c s t):=by
 unfold kcx
 repeat' split
 all_goals first | exact kcd (by decide) | exact kbZ _ | (exact kd9 (qie a b (by assumption)))
theorem qop (a:Int)(p:Vx):GVx (kc4 a p):=by
 unfold kc4
 repeat' split
 all_goals first | exact kcd (by decide) | exact kbZ _ | exact kd9 (by decide)
theorem qoq (a x y:Int):GVx (kdK a x y):=by
 unfold kdK
 repeat' split
 all_goals first | exact kcd (by decide) | exact kbZ _
theorem kgb (p a:Vx):GVx (kd5 p a)/\GVx (orX p a):=by
 unfold kd5 orX;constructor <;> repeat' split
 all_goals first | exact kcd (by decide) | exact kbZ _ | exact qoo
theorem qor {f:Nat->Vx}{m:Nat}{R:Vx}(b:∀a,a<m->GVx (f a))(c:GVx R):GVx (kaX f m R):=by
 unfold kaX;cases a:kbq f m with
 | none=>exact c
 | some d=>exact kfd b a
theorem qid {b:Int}{m:Nat}{f:Nat->Vx}(q:ar b=m)(p:1<=m)(a:∀c,c<m->GVx (f c)):GVx (apY b m f):=by
 have r:=kf8 b;unfold apY;by_cases j:b=25
 . rw[Yr j];exact kbZ _
 rw[Yl j];by_cases g:b=16
 . rw[Yr g]
   unfold ifX
   repeat' split
   all_goals first | exact kcd (by decide) | exact a _ (by omega)
 rw[Yl g];by_cases h:b=19
 . rw[Yr h]
   unfold kdp;split
   all_goals exact a _ (by omega)
 rw[Yl h];by_cases i:b=24
 . rw[Yr i];exact qor a (kbZ _)
 rw[Yl i];by_cases d:b=14
 . rw[Yr d];exact qor a (kgb _ _).1
 rw[Yl d];by_cases e:b=15
 . rw[Yr e];exact qor a (kgb _ _).2
 rw[Yl e];unfold kbD;cases o:kbq f m with
 | some c=>exact kfd a o
 | none =>
  dsimp only;by_cases k:kd4 f m=true
  . rw[Yr k];exact qoo
  rw[Yl k];by_cases l:kay f m 1=true
  . rw[Yr l]
    unfold R1;split
    . exact kf9 _ (a 0 (by omega)).2
    . exact kga _ (a 0 (by omega)).2 (a 1 (by omega)).2
  rw[Yl l];by_cases c:kay f m 3=true
  . rw[Yr c]
    unfold R3;split
    . exact qos _ (a 0 (by omega)) (qn1 c (by omega))
    . exact qot _ (qqr (a 0 (by omega)).1 (qn1 c (by omega))) (qqr (a 1 (by omega)).1 (qn1 c (by omega)))
  rw[Yl c];by_cases n:kay f m 2=true
  . rw[Yr n]
    unfold R2;split
    . exact qop _ _
    . exact qoq _ _ _
  rw[Yl n];exact kcd (by decide)
end Go.Proofs.YtenckgnkjkijnaaGreatDoor
namespace Go.Proofs.YtenckgnkjkijnaaGreatDoor
open Go Go.Proofs.Tryz
def kdw:Vx:=⟨0,0,⟨#[]⟩⟩
section
variable (ap:Int->List Vx->Vx)
def keS (lk:Tb->Vx)(n:Nx)(a:List Vx):Vx:=if n.op=0 then n.v else if n.op=1 then lk n.nm else ap n.op a
def vst (lk:Tb->Vx)(e:Nat->Nx):Nat->List Vx
 | 0=>[]
 | n+1=>keS ap lk (e n) ((vst lk e n).take (arn (e n))).reverse :: (vst lk e n).drop (arn (e n))
def kcJ (lk:Tb->Vx)(e:Nat->Nx)(n:Nat):Vx:=(vst ap lk e n).headD kdw
variable {ap}
theorem qst (lk:Tb->Vx)(a:Nat->Nx)(n:Nat):vst ap lk a n=(stk a n).map (kcJ ap lk a):=by
 induction n with
 | zero=>rfl
 | succ n b =>
  simp only[vst,stk,Z5,List.map_drop,<- b];rfl
theorem qss (lk:Tb->Vx)(a:Nat->Nx)(n:Nat):(vst ap lk a n).length=(stk a n).length:=by rw[qst,Zp]
theorem qi0 (lk:Tb->Vx)(a:Nat->Nx)(n:Nat):kcJ ap lk a (n+1)=keS ap lk (a n) (((stk a n).take (arn (a n))).reverse.map (kcJ ap lk a)):=by
 rw[List.map_reverse,List.map_take,<- qst];rfl
theorem qhz {lk d:Tb->Vx}{a:Nat->Nx}{n:Nat}(e:∀b,b<n->(a b).op=1->lk (a b).nm=d (a b).nm):vst ap lk a n=vst ap d a n:=by
 induction n with
 | zero=>rfl
 | succ n h =>
  have f:=h fun b c=>e b (by omega);have g:∀b,keS ap lk (a n) b=keS ap d (a n) b:=fun b=>by
   unfold keS;by_cases c:(a n).op=0
   . rw[Yr c,Yr c]
   . rw[Yl c,Yl c]
     by_cases b:(a n).op=1
     . rw[Yr b,Yr b];exact e n (by omega) b
     . rw[Yl b,Yl b]
  simp only[vst,f,g]
variable (ap)
def evL (lk:Tb->Vx)(l:List Nx):Vx:=kcJ ap lk (nf l) l.length
variable {ap}
theorem khd {l:List Nx}{k:Nat}(a:k<l.length):nf l k=l[k]:=by unfold nf;rw[Yo,Yg a];rfl
theorem qer {lk c:Tb->Vx}{l:List Nx}(d:∀a,a∈l->a.op=1->lk a.nm=c a.nm):evL ap lk l=evL ap c l:=by
 unfold evL kcJ;rw[qhz fun a b a=>?_];rw[khd b]at a⊢;exact d _ (Yi b) a
def plF (m:Fm)(x:Tb):Nat:=(kaa m).findIdx fun y=>decide (y=x)
def lkF (m:Fm)(s:Nat->Bool × Vx)(x:Tb):Vx:=if plF m x<m.F.length then (if (s (plF m x)).1=true then (s (plF m x)).2 else kdw) else kdw
theorem qg1 {m:Fm}{s c:Nat->Bool × Vx}{x:Tb}(d:∀a,a<m.F.length->(fAt m a).nm=x->s a=c a):lkF m s x=lkF m c x:=by
 unfold lkF;by_cases a:plF m x<m.F.length
 . have b:(kaa m).length=m.F.length:=by simp[kaa]
   have g:(fAt m (plF m x)).nm=x:=by
    have e:=List.findIdx_getElem (xs:=kaa m) (p:=fun f=>decide (f=x)) (w:=by rw[b];exact a);rw[qoe a];have f:(kaa m)[plF m x]'(by rw[b];exact a)=x:=Y6 e;simpa [kaa] using f
   rw[Yr a,Yr a,d _ a g]
 . rw[Yl a,Yl a]
variable (ap) (isT:Vx->Bool) (errT:Vx)
def keT (m:Fm)(inp:Nat->Vx)(s:Nat->Bool × Vx)(k:Nat):Bool × Vx :=
 (decide ((fAt m k).wh.length=0)||isT (evL ap (lkF m s) (fAt m k).wh),
  if (fAt m k).is.length=0 then inp k else if (evL ap (lkF m s) (fAt m k).is).k≠0/\(evL ap (lkF m s) (fAt m k).is).k≠4/\(evL ap (lkF m s) (fAt m k).is).k≠(fAt m k).ty then errT else evL ap (lkF m s) (fAt m k).is)
variable {ap isT errT}
theorem qcn {m:Fm}{i:Nat->Vx}{s b:Nat->Bool × Vx}{k:Nat}(h:∀a,a<m.F.length->kbM m a k=true->s a=b a):keT ap isT errT m i s k=keT ap isT errT m i b k:=by
 have j:evL ap (lkF m s) (fAt m k).wh=evL ap (lkF m b) (fAt m k).wh:=qer fun g f e=>qg1 fun a d c=>h a d (by
  unfold kbM kcG;rw[Ze];exact .inr (Z8.2 ⟨g,f,by simp[e,c]⟩))
 have l:evL ap (lkF m s) (fAt m k).is=evL ap (lkF m b) (fAt m k).is:=qer fun g f e=>qg1 fun a d c=>h a d (by
  unfold kbM kcG;rw[Ze];exact .inl (Z8.2 ⟨g,f,by simp[e,c]⟩))
 unfold keT;rw[j,l]
end
section
variable {α:Type} (F:(Nat->α)->Nat->α)
def kdi (s:Nat->α)(k:Nat):Nat->α:=fun i=>if i=k then F s k else s i
def rdS (D:List Nat)(s0:Nat->α):Nat->Nat->α
 | 0=>s0
 | r+1=>fun k=>if k∈D then F (rdS D s0 r) k else rdS D s0 r k
variable {F}
theorem qje {D:List Nat}{s:Nat->α}{k:Nat}(a:k ∉ D):D.foldl (kdi F) s k=s k:=by
 induction D generalizing s with
 | nil=>rfl
 | cons d D c =>
  rw[List.foldl_cons,c fun b=>a (Zi _ b)];unfold kdi;rw[Yl fun b=>a (by rw[b];exact Y8)]
theorem qrr {D:List Nat}{s0:Nat->α}{k:Nat}(a:k ∉ D)(r:Nat):rdS F D s0 r k=s0 k:=by
 induction r with
 | zero=>rfl
 | succ r b=>show(if k∈D then _ else _)=_;rw[Yl a,b]
theorem khe {fed:Nat->Nat->Prop}(g:∀a c k,(∀b,fed b k->a b=c b)->F a k=F c k){D:List Nat}(n:D.Nodup)(h:∀a (d:a<D.length) b,fed b D[a]->b∈D.take a∨b ∉ D)(s0:Nat->α){r:Nat}(s:D.length<=r)(k:Nat):rdS F D s0 r k=D.foldl (kdi F) s0 k:=by
 have i:∀a,∀b,(b∈D.take a∨b ∉ D)->(D.take a).foldl (kdi F) s0 b=D.foldl (kdi F) s0 b:=by
  intro a b c;have e:D.foldl (kdi F) s0=(D.drop a).foldl (kdi F) ((D.take a).foldl (kdi F) s0):=by rw[<- List.foldl_append,Vc]
  rw[e];refine(qje ?_).symm;rcases c with c | c
  . intro f
    have:=n;rw[<- Vc a D,List.nodup_append]at this;exact this.2.2 b c b f rfl
  . exact fun f=>c (O5 f)
 have j:∀a (d:a<D.length),D.foldl (kdi F) s0 D[a]=F (D.foldl (kdi F) s0) D[a]:=by
  intro a d;have f:(D.take (a+1)).foldl (kdi F) s0 D[a]=D.foldl (kdi F) s0 D[a]:=i (a+1) _ (.inl (List.mem_take_iff_getElem.2 ⟨a,by omega,rfl⟩));rw[<- f,Ys d,List.foldl_append];show(if D[a]=D[a] then _ else _)=_;rw[Yr rfl];exact g _ _ _ fun b c=>i a b (h a d b c)
 have o:∀r a (d:a<D.length),a<r->rdS F D s0 r D[a]=D.foldl (kdi F) s0 D[a]:=by
  intro r
  induction r with
  | zero=>intro a d f;omega
  | succ r q =>
   intro a d f;show(if D[a]∈D then _ else _)=_;rw[Yr (Yi d),j a d];refine g _ _ _ fun b c=>?_;rcases h a d b c with c | c
   . obtain⟨p,l,e⟩:=List.mem_take_iff_getElem.1 c
     have m:=Nat.lt_min.1 l;rw[<- e];exact q p m.2 (by omega)
   . rw[qrr c,qje c]
 by_cases b:k∈D
 . obtain⟨a,f,rfl⟩:=Yx.1 b
   exact o r a f (by omega)
 . rw[qrr b,qje b]
end
end Go.Proofs.YtenckgnkjkijnaaGreatDoor
namespace Go.Proofs.YtenckgnkjkijnaaGreatDoor
open Go Go.RowKit Go.Proofs.Tryz
def apL (op:Int)(l:List Vx):Vx:=apY op l.length fun i=>l.getD i kdw
theorem kek:GVx kdw:=⟨by decide,by decide,by decide⟩
theorem kgH {m:Fm}{s:Nat->Bool × Vx}(b:∀a,a<m.F.length->GVx (s a).2)(x:Tb):GVx (lkF m s x):=by
 unfold lkF;split
 . split
   . exact b _ (by assumption)
   . exact kek
 . exact kek
theorem qkq {n:Nx}(a:kao n=true)(b:n.op=0)(c:I6 n.v.n):GVx n.v:=by
 simp only[kao,b,if_true,Yh]at a;exact⟨a.1.1.2,c⟩
theorem qqp {n:Nx}(a:kao n=true)(b:¬ n.op=0)(c:¬ n.op=1):2<=n.op/\n.op<=25:=by
 simp only[kao,b,c,if_false,Yh,Yk]at a;exact a.1.1
theorem kfm {a:Int}(b:2<=a/\a<=25):1<=ar a:=by unfold ar;repeat' split;all_goals omega
theorem qjf {a b:Type}(f:a->b)(l:List a)(i:Nat)(d:i<l.length)(c:b):(l.map f).getD i c=f l[i]:=by rw[Yo,Zj,Yg d];rfl
theorem kda {lk:Tb->Vx}{b:Nat->Nx}{n:Nat}(o:kcf b n)(p:kbN b n)(k:∀a,a<n->I6 (b a).v.n)(m:∀a,GVx (lk a)):∀a,a<=n->GVx (kcJ apL lk b a):=by
 intro a
 induction a using Nat.strongRecOn with
 | _ a ih =>
  intro r;cases a with
  | zero=>exact kek
  | succ a =>
   rw[qi0];have h:=o a (by omega);unfold keS;by_cases c:(b a).op=0
   . rw[Yr c];exact qkq h c (k a (by omega))
   rw[Yl c];by_cases d:(b a).op=1
   . rw[Yr d];exact m _
   rw[Yl d];have f:((stk b a).take (arn (b a))).reverse.length=arn (b a):=by
    have:=p a (by omega);rw[Zf,Zb];omega
   have s:=kfm (qqp h c d);have j:(arn (b a):Int)=ar (b a).op:=by unfold arn;omega
   refine qid (by rw[Zp,f,j]) (by rw[Zp,f];unfold arn;omega) fun e e=>?_;rw[Zp]at e;rw[qjf _ _ _ e];have g:=Yi e;rw[Ol]at g;obtain⟨q,l,e⟩:=Yx.1 (Z6 g);have i:=(qn9 b a q l).2;rw[e]at i;exact ih _ (by omega) (by omega)
def mtF:Nat->Nat->Tb->Tb
 | 0,_,t=>t
 | f+1,q,t=>if q=0 then t else mtF f (q / 10) (Ga (UInt8.ofNat (48+(q:Int) % 10).toNat)++t)
def mkT (k:Nat):Tb:=⟨#[109]⟩++mtF k k ⟨#[]⟩
theorem qkd (f:Nat)(t:Tb):mtF f 0 t=t:=by cases f <;> rfl
theorem q8r (k:Nat)(w:Tw)(o:0<k)(q:k<=4611686018427387904):Gv 49 #[J6 k] w (.string (mkT k)):=by
 have l:¬ (k:Int)<=0:=by omega
 have r:(k:Int)<=4611686018427387904:=by omega
 go_enter func49,ntmps49;go_wp2_with fail;go_loopw [0,3] (fun d c wr=>∃(a:Nat) (b:Tb),d=J6 a/\c=.string b/\b.size+a<=4611686018427387904/\(∃c,a<=c/\mtF k k ⟨#[]⟩=mtF c a b)/\Bw w wr) (fun d _ _=>(intOf d).toNat)
 case atStart=>exact⟨k,_,rfl,rfl,by show 0+k<=_;omega,⟨k,nR _,rfl⟩,bR _ _⟩
 case round =>
  obtain⟨a,b,rfl,rfl,s,⟨c,p,i⟩,m⟩:=hrel;have d:=h_ m;have v:b.size<=4611686018427387904:=by omega
  have x:(b.size:Int)<=4611686018427387904:=by omega
  by_cases h:a=0
  . subst h
    have e:Hi (mkT k=⟨#[109]⟩++b):=h_ (by unfold mkT;rw[i,qkd]);go_wp2_with fail;go_ret;rw[e.u];exact⟨rfl,d⟩
  . have l:(0:Int)<a:=by omega
    have t:(a:Int)<=4611686018427387904:=(by omega);obtain⟨j,g⟩:=Nq (Ga (UInt8.ofNat (48+(a:Int) % 10).toNat));have y:j.size=1:=(by rw[<- g];rfl);have e:Hi (∃c,a / 10<=c/\mtF k k ⟨#[]⟩=mtF c (a / 10) (j++b)):=h_ (by
     obtain⟨f,rfl⟩:∃f,c=f+1:=⟨c - 1,by omega⟩;refine⟨f,by omega,?_⟩;rw[i,<- g];show(if a=0 then b else _)=_;rw[Yl h])
    have n:=qis wr (48+(a:Int) % 10);rw[g]at n;have f:=h_ (d.alloc d.size (.cells #[.int .u8 (48+(a:Int) % 10)] 5));go_wp2_with fail;go_roundw
    case rel=>exact⟨a / 10,_,by go_num,rfl,by rw[Ym];omega,e,f⟩
    case measure=>simp[intOf];omega
theorem Bk.cell_eq {w:Tw}{g n j:Nat}{t:TypeId}(a:Bk w g t n)(b:j<n)(v:Value):(w.setCell ⟨g,j,none⟩ v).cell? ⟨g,j,none⟩=some v:=a.elim fun c a=>by
 rw[(a.1.set j v).cell j,Ow (by rw[a.2];exact b)]
def Pre (w:Tw)(g:Nat)(xs:Tl):Prop:=∀p,p<xs.length->w.cell? ⟨g,p,none⟩=xs[p]?
theorem Pre.mono {w w':Tw}{g B:Nat}{xs:Tl}(b:Pre w g xs)(c:Below B w w')(d:g<B):Pre w' g xs:=fun a e=>(c.cell (p:=⟨g,a,none⟩) d).trans (b a e)
theorem Pre.set {w:Tw}{g n j:Nat}{t:TypeId}{xs:Tl}(e:Pre w g xs)(b:Bk w g t n)(f:xs.length=j)(h:j<n)(v:Value):Pre (w.setCell ⟨g,j,none⟩ v) g (xs++[v]):=fun c a=>by
 rw[Yj,List.length_singleton]at a;by_cases a:c=j
 . subst a
   rw[b.cell_eq h,Vj (by omega),f,Nat.sub_self];rfl
 . rw[b.cell_ne (fun d=>a d.symm),e c (by omega),List.getElem?_append_left (by omega)]
theorem q43 (g n c k lo hi:Nat)(w:Tw)(G:k+n*3<=4611686018427387904)(v:Bk w g 55 (n*3))(h:lo<=g)(f:g<hi) :
 Calls prog 15 #[.slice (some ⟨g,0,none⟩) n c,J6 k] w fun a b=>a=.returned (J6 ((k+n*3:Nat):Int))/\MkL lo hi w b:=by
 have r:=h_ v;go_enter func15,ntmps15;go_wp2_with fail;go_loopw [1,5] (fun b d wr=>∃a:Nat,a<=n/\d=J6 a/\b=J6 ((k+a*3:Nat):Int)/\MkL lo hi w wr) (fun _ d _=>n - (intOf d).toNat)
 case atStart=>exact⟨0,nZ _,rfl,by simp,MkL.refl _ _ _⟩
 case round =>
  obtain⟨a,F,rfl,rfl,q⟩:=hrel;obtain⟨l,d⟩:=oB q (q.bk _ _ _ r);by_cases H:a<n
  . have x:(a:Int)<n:=by omega
    obtain⟨b,i⟩:=Nq (k+a*3);have I:(b:Int)+3<4611686018427387904+1:=(by omega);rw[i];obtain⟨J,A⟩:=d.cell (show a*3<n*3 by omega);obtain⟨K,c1⟩:=d.cell (show a*3+1<n*3 by omega);have C:=d.free (a*3);have D:=d.free (a*3+1);obtain⟨m,e⟩:=oB ((l.trans (MkL.set (a*3) (J6 (b:Int)) h f)).trans (MkL.set (a*3+1) (J6 ((b:Int)+1)) h f)) ((d.set (a*3) (J6 (b:Int))).set (a*3+1) (J6 ((b:Int)+1)));go_wp2_with fail;obtain⟨t,u⟩:=Nq ((wr.setCell ⟨g,a*3,none⟩ (J6 (b:Int))).setCell ⟨g,a*3+1,none⟩ (J6 ((b:Int)+1)));rw[u]at m e⊢;have o:=h_ (q69 (b+1+1) t (by omega));simp only[Vw,Zq]at o;refine o.mono ?_;rintro B z ⟨y,rfl,p⟩;have j:=h_ (e.mono p e.lt);obtain⟨L,c2⟩:=j.cell (show a*3+2<n*3 by omega);have E:=j.free (a*3+2);have s:=h_ ((m.trans (MkL.below p)).trans (MkL.set (a*3+2) (.string y) h f));go_wp2_with fail;go_roundw
    case rel=>exact⟨a+1,by omega,by go_num,by rw[show k+(a+1)*3=b+3 by omega];go_num,s⟩
    case measure=>simp[intOf];omega
  . obtain rfl:a=n:=by omega
    have x:¬ (a:Int)<(a:Int):=(by omega);obtain⟨b,i⟩:=Nq (k+a*3);rw[i];go_wp2_with fail;go_ret;exact⟨rfl,l⟩
def mkX (q:Nat):Tl:=[.int .i64 (q:Int),.int .i64 ((q:Int)+1),.string (mkT (q+1+1)),.bool (((q:Int)+1+1+1) % 3==0),.bool (((q:Int)+1+1+1+1) % 3==0),.bool (((q:Int)+1+1+1+1+1) % 3==0)]
def mkS:Nat->Tl
 | 0=>[]
 | i+1=>mkS i++mkX (1+i*6)
theorem qqf (n:Nat):(mkS n).length=n*6:=by
 induction n with
 | zero=>rfl
 | succ n a=>show(mkS n++mkX _).length=_;rw[Yj,a];show _+6=_;omega
theorem qqe {n i p:Nat}(hi:i<n)(c:p<6):(mkS n)[i*6+p]? = (mkX (1+i*6))[p]?:=by
 induction n with
 | zero=>omega
 | succ n b =>
  show(mkS n++mkX (1+n*6))[i*6+p]? = _;by_cases a:i=n
  . subst a
    rw[Vj (by rw[qqf];omega),qqf]
    congr 1;omega
  . rw[List.getElem?_append_left (by rw[qqf];omega)]
    exact b (by omega)
theorem q41 (a:To)(g n N c lo hi:Nat)(w:Tw)(hn:n<=1000000)(hN:n*6<=N)(i:lo<=g)(h:g<hi)(T:0<n->a=some ⟨g,0,none⟩/\Bk w g 75 N) :
 Calls prog 16 #[.slice a n c,J6 1] w fun d b=>d=.returned (J6 ((1+n*6:Nat):Int))/\(0<n->Pre b g (mkS n))/\MkL lo hi w b:=by
 have u:=h_ T;go_enter func16,ntmps16;go_wp2_with fail;go_loopw [1,5] (fun d e wr=>∃b:Nat,b<=n/\e=J6 b/\d=J6 ((1+b*6:Nat):Int)/\(0<n->Pre wr g (mkS b))/\MkL lo hi w wr) (fun _ e _=>n - (intOf e).toNat)
 case atStart=>exact⟨0,nZ _,rfl,by simp,fun _ e t=>absurd t (nL _),MkL.refl _ _ _⟩
 case round =>
  obtain⟨b,aa,rfl,rfl,t,C⟩:=hrel;obtain⟨v,y⟩:=oB C t;by_cases ac:b<n
  . have S:(b:Int)<n:=by omega
    have f:=h_ (C.bk _ _ _ (u (by omega)).2);obtain rfl:=(u (by omega)).1;have L:=y (by omega);obtain⟨d,p⟩:=Nq (1+b*6);have ad:(d:Int)+6<4611686018427387904:=(by omega);have ae:0<d:=(by omega);have k:=qqf b;have F:Hi (mkS (b+1)=mkS b++mkX d):=h_ (by show mkS b++mkX (1+b*6)=_;rw[p]);rw[p];obtain⟨af,U⟩:=f.cell (show b*6<N by omega);obtain⟨u1,c1⟩:=f.cell (show b*6+1<N by omega);have W:=f.free (b*6);have X:=f.free (b*6+1);have x:=h_ ((v.trans (MkL.set (b*6) (J6 (d:Int)) i h)).trans (MkL.set (b*6+1) (J6 ((d:Int)+1)) i h));have l:=h_ ((f.set (b*6) (J6 (d:Int))).set (b*6+1) (J6 ((d:Int)+1)));have z:=h_ ((L.set f (j:=b*6) k (by omega) (J6 (d:Int))).set (f.set (b*6) (J6 (d:Int))) (j:=b*6+1) (by simp[k]) (by omega) (J6 ((d:Int)+1)));go_wp2_with fail;obtain⟨H,O⟩:=Nq ((wr.setCell ⟨g,b*6,none⟩ (J6 (d:Int))).setCell ⟨g,b*6+1,none⟩ (J6 ((d:Int)+1)));rw[O]at x l z⊢;have A:=h_ (q8r (d+1+1) H (by omega) (by omega));simp only[Vw,Zq]at A;refine cQ A fun I s=>?_;obtain⟨q,D⟩:=Nq (mkT (d+1+1));rw[D];have e:=h_ (l.mono s l.lt);have M:=z.mono s l.lt;obtain⟨u2,c2⟩:=e.cell (show b*6+2<N by omega);obtain⟨u3,c3⟩:=e.cell (show b*6+3<N by omega);obtain⟨u4,c4⟩:=e.cell (show b*6+4<N by omega);obtain⟨u5,V⟩:=e.cell (show b*6+5<N by omega);have Y:=e.free (b*6+2);have Z:=e.free (b*6+3);have f4:=e.free (b*6+4);have f5:=e.free (b*6+5);obtain⟨m,P⟩:=Nq ((((d:Int)+1+1+1) % 3==0));obtain⟨o,Q⟩:=Nq ((((d:Int)+1+1+1+1) % 3==0));obtain⟨r,R⟩:=Nq ((((d:Int)+1+1+1+1+1) % 3==0));have E:=h_ (((((x.trans (MkL.below s)).trans (MkL.set (b*6+2) (.string q) i h)).trans (MkL.set (b*6+3) (.bool m) i h)).trans (MkL.set (b*6+4) (.bool o) i h)).trans (MkL.set (b*6+5) (.bool r) i h));have G:Hi (Pre ((((I.setCell ⟨g,b*6+2,none⟩ (.string q)).setCell ⟨g,b*6+3,none⟩ (.bool m)).setCell ⟨g,b*6+4,none⟩ (.bool o)).setCell ⟨g,b*6+5,none⟩ (.bool r)) g (mkS (b+1))):=h_ (by
     rw[F.u];unfold mkX;rw[D,P,Q,R];have d2:=e.set (b*6+2) (.string q);have B:=d2.set (b*6+3) (.bool m);have J:=B.set (b*6+4) (.bool o);have K:=(((M.set e (j:=b*6+2) (by simp[k]) (by omega) (.string q)).set d2 (j:=b*6+3) (by simp[k]) (by omega) (.bool m)).set B (j:=b*6+4) (by simp[k]) (by omega) (.bool o)).set J (j:=b*6+5) (by simp[k]) (by omega) (.bool r);simpa using K)
    go_wp2_with fail;go_roundw
    case rel=>exact⟨b+1,by omega,by go_num,by rw[show 1+(b+1)*6=d+6 by omega];go_num,fun _=>G,E⟩
    case measure=>simp[intOf];omega
  . obtain rfl:b=n:=by omega
    have S:¬ (b:Int)<(b:Int):=(by omega);obtain⟨d,p⟩:=Nq (1+b*6);rw[p];go_wp2_with fail;go_ret;exact⟨rfl,y,v⟩
theorem q3c (a:To)(g n c:Nat)(w:Tw)(E:n<=1000000)(x:0<n->a=some ⟨g,0,none⟩/\g<w.heap.size/\Pre w g (mkS n)) :
 Gv 17 #[.slice a n c,J6 1] w (J6 ((1+n*6:Nat):Int)):=by
 have s:=h_ x;go_enter func17,ntmps17;go_wp2_with fail;go_loopw [1,5] (fun d e wr=>∃(b:Nat),b<=n/\e=J6 b/\d=J6 ((1+b*6:Nat):Int)/\Bw w wr) (fun _ e _=>n - (intOf e).toNat)
 case atStart=>exact⟨0,nZ _,rfl,rfl,bR _ _⟩
 case round =>
  obtain⟨b,D,rfl,rfl,j⟩:=hrel;have m:=h_ j;by_cases u:b<n
  . have v:(b:Int)<n:=by omega
    have C:(0:Int)<=b:=(by omega);obtain⟨rfl,t,y⟩:=s (by omega);obtain⟨d,k⟩:=Nq (1+b*6);have F:(d:Int)+6<4611686018427387904:=(by omega);have h:Hi (∀f,Bw w f->∀e,e<6->f.cell? ⟨g,b*6+e,none⟩=(mkX d)[e]?):=h_ fun f f e i=>by
     rw[<- k,<- qqe u i];exact(y.mono f t) (b*6+e) (by rw[qqf];omega)
    have A:wr.cell? ⟨g,b*6,none⟩=some (J6 (d:Int)):=h wr j 0 (by omega);have c1:wr.cell? ⟨g,b*6+1,none⟩=some (J6 ((d:Int)+1)):=h wr j 1 (by omega);have c2:wr.cell? ⟨g,b*6+2,none⟩=some (.string (mkT (d+1+1))):=h wr j 2 (by omega);rw[k];have o:=h_ (q8r (d+1+1) wr.drew (by omega) (by omega));simp only[Vw,Zq]at o;obtain⟨l,q⟩:=Nq (mkT (d+1+1));rw[q]at o c2;have G:(l.toList==l.toList)=true:=(by simp);go_wp2_with fail;refine wp_region_held_drew (S:=fun z=>z.cell? ⟨g,b*6+2,none⟩=some (Value.string l)) (by kernel_rfl) c2 (fun e=>?_);refine tkA 0 e ?_;refine tkA 1 e ?_;refine tkA 2 e ?_;refine tkA 3 e ?_;refine tkA 4 e ?_;refine tkA 5 e ?_;refine tkA 6 e ?_;refine cyY 7 39 o fun f p=>?_;have p:=q36 p;have i:=m.trans (p.mono m.size);have c2:f.cell? ⟨g,b*6+2,none⟩=some (.string l):=(by rw[<- q];exact h f i 2 (by omega));refine⟨c2,?_⟩;replace e:=c2;refine kaS (by(first | simp only[Ya,Yb] | skip);rfl) (by(first | simp only[Ya,Yb] | skip);rfl) ?_;refine tkL 8 40 (.bool false) e ?_ (hy:=fun w r=>by simp[execOp,go_sem]);refine wdQ ?_;have c3:f.cell? ⟨g,b*6+3,none⟩=some (.bool (((d:Int)+1+1+1) % 3==0)):=h f i 3 (by omega);have c4:f.cell? ⟨g,b*6+4,none⟩=some (.bool (((d:Int)+1+1+1+1) % 3==0)):=h f i 4 (by omega);have B:f.cell? ⟨g,b*6+5,none⟩=some (.bool (((d:Int)+1+1+1+1+1) % 3==0)):=h f i 5 (by omega);have r:=h_ i;go_wp2_with fail;go_roundw
    case rel=>exact⟨b+1,by omega,by go_num,by rw[show 1+(b+1)*6=d+6 by omega];go_num,r⟩
    case measure=>simp[intOf];omega
  . obtain rfl:b=n:=by omega
    have v:¬ (b:Int)<(b:Int):=(by omega);obtain⟨d,k⟩:=Nq (1+b*6);rw[k];go_wp2_with fail;go_ret;exact⟨rfl,m⟩
theorem qpe:(prog.info? 55).map (fun a=>(a.zero,a.size,a.bytes))=some (some (.agg Jf),3,32):=by kernel_rfl
theorem Blk.of_ownV {w:Tw}{base k g n:Nat}{xs:Tl}(b:w.ownsRow base k 3 (.slice (some ⟨g,0,none⟩) n n) n xs):Blk w g k xs/\xs.length=n*3:=by
 refine⟨?_,b.1⟩;rcases b.2 with ⟨a,_⟩ | ⟨h,e,f,a,_,d,_,_,i,c⟩
 . simp at a
 . simp only[Value.slice.injEq,Vk,Addr.mk.injEq,and_true,true_and]at a
   obtain⟨rfl,rfl⟩:=a;rw[Yy (by simp;omega)]at c;rw[<- c];simpa [Blk] using d
theorem q9q (a:To)(m c:Nat)(f:Nat->Vx)(d:Int)(w:Tw)(G:0<=d)(H:d<=1048576)(K:m<=9223372036854775807)(B:∀e,e<m->(f e).s.size<=9223372036854775807)(x:kaF w a m f) :
 Calls prog 6 #[.slice a m c,J6 d] w fun g h=>∃b:Int,g=.returned (J6 b)/\(0<=b->b<=1048576/\m<=1048576)/\(b<0->b = -1)/\Below w.heap.size w h:=by
 obtain⟨t,u⟩:=oB x B;have C:wrap64 (d - (m:Int))=d - (m:Int):=q6w (by omega) (by omega);by_cases g:(m:Int)<=d
 . have l:¬ d - (m:Int)<0:=by omega
   obtain⟨q,z⟩:=Nq (d - (m:Int));have k:Hi (0<=q/\q<=1048576):=h_ (by omega);rw[z]at l C;go_enter func6,ntmps6;go_wp2_with fail;go_loopw [1,5] (fun h e wr=>∃(b:Nat) (left:Int),b<=m/\h=J6 left/\e=J6 b/\0<=left/\left<=1048576/\Below w.heap.size w wr) (fun _ e _=>m - (intOf e).toNat)
   case atStart=>exact⟨0,_,nZ _,rfl,rfl,k.1,k.2,bR _ _⟩
   case round =>
    obtain⟨b,left,I,rfl,rfl,D,r,h⟩:=hrel;obtain⟨e,v⟩:=oB h (t.mono h);by_cases o:b<m
    . have J:(b:Int)<m:=by omega
      obtain⟨E,L,rfl,-,F,c1,c2⟩:=v b o;go_wp2_with fail;refine cQ (q9r (f b).k (f b).n (f b).s left wr (u b o) D r) fun M h=>?_;replace e:=mT e h;by_cases p:left<(f b).s.size
      . rw[Yr p]
        go_wp2_with fail;go_ret;exact⟨_,rfl,fun g=>absurd g (by decide),fun _=>rfl,e⟩
      . rw[Yl p]
        have A:¬ left - (f b).s.size<0:=(by omega);obtain⟨i,y⟩:=Nq (left - (f b).s.size);rw[y]at A⊢;have j:Hi (0<=i/\i<=1048576):=h_ (by omega);refine rQ ?_;exact⟨b+1,i,by omega,rfl,by go_num,j.1,j.2,e⟩
    . obtain rfl:b=m:=by omega
      go_wp2_with fail;go_ret;exact⟨_,rfl,fun _=>⟨r,by omega⟩,fun g=>by omega,e⟩
 . have l:d - (m:Int)<0:=by omega
   go_enter func6,ntmps6;go_wp2_with fail;go_ret;exact⟨_,rfl,fun g=>absurd g (by decide),fun _=>rfl,bR _ _⟩
theorem q9t (a:To)(f:Nat->Vx)(n c:Nat)(w:Tw)(H:kaF w a n f)(hn:n<=1048576) :
 Calls prog 9 #[.slice a n c] w fun d b=>d=.returned (.slice (some ⟨w.heap.size,0,none⟩) n n)/\kaF b (some ⟨w.heap.size,0,none⟩) n f/\Bk b w.heap.size 55 (n*3)/\Below w.heap.size w b:=by
 obtain⟨y,L,O,P,Q⟩:=info_parts qpe;obtain⟨k,i⟩:=Nq w.heap.size;have J:y.bytes*n<=281474976710656:=by rw[Q];omega
 have A:=h_ H;go_enter func9,ntmps9;go_wp2_with (at_make;refine wpList_make_full _ rfl _ _ 39 rfl w.heap.size 55 y _ 3 underlying39 L O P .i64 .i64 _ _ n rfl rfl rfl rfl J (by unfold maxLen;omega) (nR _) ?_;intro R x K);have I:Below k w R:=by rw[<- i];exact(bR _ _).grown K (nR _) (fun b g=>by cases g)
 rw[i]at x;obtain⟨l,m⟩:=Blk.of_ownV x;obtain⟨e,h,B⟩:=oC l m I;go_wp2_with fail;go_loopw [4] (fun o wr=>∃(b:Nat) (j:Tl),b<=n/\o=J6 b/\Blk wr k 55 j/\j.length=n*3/\(∀d,d<b->j[d*3]? = some (J6 (f d).k)/\j[d*3+1]? = some (J6 (f d).n)/\j[d*3+2]? = some (.string (f d).s))/\Below k w wr) (fun o _=>n - (intOf o).toNat)
 case atStart=>exact⟨0,_,nZ _,rfl,e,h,fun d g=>absurd g (nL _),B⟩
 case round =>
  obtain⟨b,j,Z,rfl,l,m,N,r⟩:=hrel;obtain⟨e,h,q,p,D⟩:=oG l m N r (A.mono (r.mono (by omega)));by_cases M:b<n
  . have ac:(b:Int)<n:=by omega
    obtain⟨S,o1,rfl,aa,W,X,Y⟩:=D b M;go_wp2_with fail;refine cQ (q9u (f b).k (f b).n (f b).s _) fun w3 t=>?_;have g:=e.mono t e.lt;have z:=p.trans (t.mono (by have:=e.lt;omega));have F:=g.cell (b*3);have c1:=g.cell (b*3+1);have c2:=g.cell (b*3+2);have T:=g.free (b*3);have U:=g.free (b*3+1);have V:=g.free (b*3+2);rw[Yg (by have:=h.u;omega)]at F c1 c2;obtain⟨E,C⟩:=oB g z;go_wp2_with fail;go_roundw
    case rel =>
     refine⟨b+1,_,by omega,by go_num,((E.set (b*3) (J6 (f b).k)).set (b*3+1) (J6 (f b).n)).set (b*3+2) (.string (f b).s),by simpa using h.u,fun d v=>?_,((C.setCell (nR _) _).setCell (nR _) _).setCell (nR _) _⟩;have ad:=h.u;by_cases G:d=b
     . subst G
       simp[List.getElem?_set];omega
     . have:=q d (by omega)
       simp only[Zx]
       (repeat rw[Yl (by omega)])
       exact this
    case measure=>simp[intOf];omega
  . obtain rfl:n=b:=by omega
    go_wp2_with fail;go_ret;refine⟨by rw[i];rfl,?_,?_,?_⟩
    . intro d v
      have:=q d v;exact⟨k,0,by rw[i],e.lt,by rw[Y3,e.u.cell];exact this.1,by rw[Y3,e.u.cell];exact this.2.1,by rw[Y3,e.u.cell];exact this.2.2⟩
    . rw[i];exact⟨_,e,h⟩
    . rw[i];exact p
theorem q7m (a b:To)(f:Nat->Vx)(n A B:Nat)(w:Tw)(G:n<=1048576)(C:kaF w a n f)(D:kaF w b n f) :
 Calls prog 13 #[.slice a n A,.slice b n B] w fun c g=>c=.returned (.bool true)/\Below w.heap.size w g:=by
 obtain⟨t,v⟩:=oB C D;go_enter func13,ntmps13;go_wp2_with fail;go_loopw [5] (fun d wr=>∃c:Nat,c<=n/\d=J6 c/\Below w.heap.size w wr) (fun d _=>n - (intOf d).toNat)
 case atStart=>exact⟨0,nZ _,rfl,bR _ _⟩
 case round =>
  obtain⟨c,F,rfl,m⟩:=hrel;have q:=h_ m;by_cases r:c<n
  . obtain⟨k,o,rfl,i⟩:=(t.mono m) c r
    obtain⟨l,p,rfl,j⟩:=(v.mono m) c r;obtain⟨e,E⟩:=Nq (f c);rw[E]at i j;have x:=h_ i;have y:=h_ j;have H:(0:Int)<=c:=(by omega);have I:(c:Int)<n:=(by omega);have z:=And.intro i.2 j.2;go_wp2_with fail;refine wp_region_held_drew (S:=fun g=>(g.cell? ⟨k,o+c*3,none⟩=some (J6 e.k)/\g.cell? ⟨k,o+c*3+1,none⟩=some (J6 e.n)/\g.cell? ⟨k,o+c*3+2,none⟩=some (.string e.s))/\g.cell? ⟨l,p+c*3,none⟩=some (J6 e.k)/\g.cell? ⟨l,p+c*3+1,none⟩=some (J6 e.n)/\g.cell? ⟨l,p+c*3+2,none⟩=some (.string e.s)) (by kernel_rfl) z (fun d=>?_);refine tkA 0 d ?_;refine tkA 1 d ?_;refine tkA 2 d ?_;refine tkA 3 d ?_;refine tkA 4 d ?_;refine tkA 5 d ?_;refine tkA 6 d ?_;refine tkA 7 d ?_;refine cyY 8 25 (q56 e.k e.n e.s _) fun J h=>?_;have h:=q36 h;have u:=mT q h;replace d:=And.intro (x.u.mono h).2 (y.u.mono h).2;refine⟨d,?_⟩;refine kaS (by(first | simp only[Ya,Yb] | skip);rfl) (by(first | simp only[Ya,Yb] | skip);rfl) ?_;refine tkA 9 d ?_;refine wdQ ?_;refine rQ ?_;exact⟨c+1,by omega,by go_num,u⟩
  . obtain rfl:n=c:=by omega
    go_wp2_with fail;go_ret;exact⟨rfl,q⟩
