import Derived.Test.YtmdjbldpclbkhaaGreatDoorW00
import Derived.Laws.DeepBits32
import Derived.Lib.TrailingZeros
import Derived.Deep.RegionHeld3
import Derived.Deep.WholeRow
import Derived.RangeFuncNested
import Derived.RangeFuncBound
import Derived.Shelf.RegionOpen
import Derived.OwnWalkIn
import Derived.LoopNIn
import Derived.LoopIn
set_option linter.all false
set_option maxRecDepth 100000
set_option maxHeartbeats 0
namespace Go.Proofs.YtmdjbldpclbkhaaGreatDoor
open Value renaming slice->Sl,string->St,bool->Bo
open Obj renaming cells->Cl
open Ending renaming returned->Rt
section
open Go Go.RowKit Go.Proofs.Tryz
def qg7 {e:Type}{f g:Nat->e}{k:Nat}(c:∀a,a<k->f a=g a)(d:f k=g k):∀a,a<k+1->f a=g a:=λa b=>by by_cases b:a=k;{rw[b];exact d};exact c a fP
def kaw (s t:Nat):Nat:=s &&& (4294967295 - t)
def kal (s t:Nat):Nat:=kaw s (kaw s t)
def kdp {s t:Nat}(a:s<4294967296)(b:t<4294967296):s ||| t<4294967296:=Nat.or_lt_two_pow (n:=32) a b
theorem qea {s t:Nat}(a:s<4294967296):kaw s t<4294967296:=Nat.lt_of_le_of_lt Nat.and_le_left a
def q8p {s t:Nat}(a:s<4294967296):kal s t<4294967296:=qea a
theorem kbC {a:Nat}(b:a<32):2 ^ a<4294967296:=Nat.pow_lt_pow_right fS b
def kf5 {s i:Nat}(c:s<4294967296)(a:s.testBit i=true):i<32:=by apply O9;intro b;have:s.testBit i=false:=Nat.testBit_lt_two_pow (Y5 c (by have:2 ^ 32<=2 ^ i:=Z5 fP b;simpa using this));exact Vy (this.symm.trans a)
theorem qaf {s t:Nat}(b:s<4294967296)(c:t<4294967296)(i:Nat):(kaw s t).testBit i=(s.testBit i&&!t.testBit i):=by unfold kaw;rw[Nat.testBit_and,show 4294967295 - t=2 ^ 32 - (t+1) by omega,Nat.testBit_two_pow_sub_succ fP];cases a:s.testBit i;{simp};simp[kf5 b a]
def q5x {s t:Nat}(a:s<4294967296)(b:t<4294967296)(i:Nat):(kal s t).testBit i=(s.testBit i&&t.testBit i):=by grind[kal,qaf,qea]
def q2g (n:Int)(a:0<=n)(b:n<4294967296):IntKind.u32.wrap n=n:=by simp[IntKind.wrap,IntKind.bits,IntKind.signed];omega
def kf6 (s t:Nat)(a:s<4294967296)(b:t<4294967296):bits .or .u32 (s:Int) (t:Int)=((s ||| t:Nat):Int):=by show IntKind.u32.wrap ((BitVec.ofInt 32 (s:Int) ||| BitVec.ofInt 32 (t:Int)).toNat:Int)=_;rw[BitVec.toNat_or,ofInt_u32 s a,ofInt_u32 t b];exact q2g _ fP (by have:=kdp a b;omega)
def qbl (s t:Nat)(a:s<4294967296)(b:t<4294967296):bits .andNot .u32 (s:Int) (t:Int)=((kaw s t:Nat):Int):=by show IntKind.u32.wrap ((BitVec.ofInt 32 (s:Int) &&& ~~~BitVec.ofInt 32 (t:Int)).toNat:Int)=_;rw[BitVec.toNat_and,BitVec.toNat_not,ofInt_u32 s a,ofInt_u32 t b,show 2 ^ 32 - 1 - t=4294967295 - t by omega];exact q2g _ fP (by have:=qea (t:=t) a;unfold kaw at this;omega)
def qsk (s t:Nat)(a:s<4294967296)(b:t<4294967296):bits .and .u32 (s:Int) (t:Int)=((s &&& t:Nat):Int):=by show IntKind.u32.wrap ((BitVec.ofInt 32 (s:Int) &&& BitVec.ofInt 32 (t:Int)).toNat:Int)=_;rw[BitVec.toNat_and,ofInt_u32 s a,ofInt_u32 t b];exact q2g _ fP (by have:s &&& t<=s:=Nat.and_le_left;omega)
def qg6 (s t:Nat)(w:Tw)(b:s<4294967296)(c:t<4294967296):Calls prog 123 #[.agg #[.int .u32 s],.agg #[.int .u32 t]] w λa d=>a=Rt (.agg (#[.int .u32 ((s ||| t:Nat):Int)]))/\d=((w.alloc (Cl #[.int .u32 (s:Int)] 152)).alloc (Cl #[.int .u32 (t:Int)] 152)).alloc (Cl (#[.int .u32 ((s ||| t:Nat):Int)]) 152):=by have a:=kf6 s t b c;go_enter func123,ntmps123;go_wp2;refine bQ ⟨rfl,rfl⟩
def qeb (s t:Nat)(w:Tw)(b:s<4294967296)(c:t<4294967296):Calls prog 241 #[.agg #[.int .u32 s],.agg #[.int .u32 t]] w λa d=>a=Rt (.agg (#[.int .u32 ((kaw s t:Nat):Int)]))/\d=((w.alloc (Cl #[.int .u32 (s:Int)] 152)).alloc (Cl #[.int .u32 (t:Int)] 152)).alloc (Cl (#[.int .u32 ((kaw s t:Nat):Int)]) 152):=by have a:=qbl s t b c;go_enter func241,ntmps241;go_wp2;refine bQ ⟨rfl,rfl⟩
def qqu {a:Nat}(b:a<32):(2:Int) ^ a % 4294967296=((2 ^ a:Nat):Int):=by rw[show(2:Int) ^ a=((2 ^ a:Nat):Int) by simp,show(4294967296:Int)=((4294967296:Nat):Int) from rfl,<- Int.natCast_emod,Z9 (kbC b)]
def qq6 (a:Nat)(w:Tw)(c:a<32):Calls prog 124 #[Yf a] w λb d=>b=Rt (.agg (#[.int .u32 ((2 ^ a:Nat):Int)]))/\d=w.alloc (Cl (#[.int .u32 ((2 ^ a:Nat):Int)]) 152):=by have b:=qqu c;go_enter func124,ntmps124;go_wp2;refine bQ ⟨rfl,fT⟩
def qo6 (s a:Nat)(w:Tw)(d:s<4294967296)(e:a<32):Calls prog 83 #[.agg #[.int .u32 s],Yf a] w λb c=>b=Rt (Bo (s.testBit a))/\c=w.alloc (Cl #[.int .u32 (s:Int)] 152):=by have b:(bits .and .u32 ((s:Int) / 2 ^ a) 1==1)=s.testBit a:=(by rw[show(s:Int) / 2 ^ a=((s / 2 ^ a:Nat):Int) by simp,show(1:Int)=((1:Nat):Int) from rfl,qsk _ 1 (Nat.lt_of_le_of_lt (Gi _ _) d) fS];rw[Nat.and_one_is_mod,Nat.testBit_eq_decide_div_mod_eq];generalize s / 2 ^ a=c;rw[Vh];simp;omega);have c:=h_ b;clear b;go_enter func83,ntmps83;go_wp2;go_ret;exact⟨qkd c,rfl⟩
def qid:(prog.info? 150).map (λa=>(a.zero,a.size,a.bytes))=some (some (.int .u32 0),1,4):=by kernel_rfl
def qcb:prog.cellsOf 150=1:=by kernel_rfl
def ke9 (c:Nat)(a b:Int)(w:Tw):(Op.equalIn (c+2) 152 (.agg #[.int .u32 a]) (.agg #[.int .u32 b])).run prog w=.ok (a==b) w:=by obtain⟨f,d,-⟩:=info_parts qid;rw[run_equalIn_array w (c+1) _ _ underlying152 d,qcb];simp[Op.eqItems,part,show List.range 1=[0] from rfl,run_equalIn_int w c 150 .u32 .u32 a b underlying150];cases e:a==b <;> simp_all
def it {p:Prop}(h:p:=by go_wp2;go_ret;exact⟨rfl,rfl⟩):p:=h
def qcx (s:Nat)(w:Tw):Calls prog 242 #[.agg #[.int .u32 s]] w λa b=>a=Rt (Bo (s==0))/\b=w.alloc (Cl #[.int .u32 (s:Int)] 152):=by have c:=λ(a b:Int) w=>ke9 9998 a b w;have a:((s:Int)==0)=(s==0):=(by rw[Vh];simp);go_enter func242,ntmps242;exact it
def q8q (s t:Nat)(w:Tw)(b:s<4294967296)(d:t<4294967296):Gv 240 #[.agg #[.int .u32 s],.agg #[.int .u32 t]] w (.agg (#[.int .u32 ((kal s t:Nat):Int)])):=by go_enter func240,ntmps240;go_wp2_with fail;go_region_held3 (λa=>a.cell? ⟨w.1.size,0,none⟩=some (.int .u32 (s:Int))/\a.cell? ⟨w.1.size+1,0,none⟩=some (.int .u32 (t:Int))) (simp[go_sem,World.cell?_alloc_past]) (first | (go_at_call 241;refine(qeb _ _ _ (by first | assumption | exact qea b) (by first | assumption | exact qea b)).mono ?_;rintro c a ⟨rfl,rfl⟩));go_wp2;refine bodyPost_ret (v:=.agg (#[.int .u32 ((kal s t:Nat):Int)])) (by simp[results,results240,go_sem,kal]) rfl ⟨rfl,?_⟩;refine Below.drew ?_;(iterate 9 refine Below.alloc ?_ gr _);exact bR _ _
def qma:∀a,a<33->((2:Int) ^ a - 1) % 4294967296=((2 ^ a - 1:Nat):Int):=by decide +kernel
def qm8 (n:Nat)(w:Tw)(b:n<=32):Gv 212 #[Yf n] w (.agg (#[.int .u32 ((2 ^ n - 1:Nat):Int)])):=by have a:=h_ (qma n fP);go_enter func212,ntmps212;go_wp2;refine bodyPost_ret (v:=.agg (#[.int .u32 ((2 ^ n - 1:Nat):Int)])) (by simp[results,results212,go_sem];rw[a.u]) rfl ⟨rfl,?_⟩;exact(bR _ w).alloc (nR _) _
def Tab (w:Tw):Prop:=∀j,j<32->w.cell? ⟨5,j,none⟩=some (.int .u8 ((Lib.deBruijn32tab.getD j 0:Nat):Int))
def Tab.pos {w:Tw}(a:Tab w):5<w.1.size:=by apply O9;intro b;have:=a 0 fS;simp only[World.cell?]at this;rw[Gf gC]at this;cases this
def Tab.mono {w w':Tw}(a:Tab w)(c:Bw w w'):Tab w':=λb d=>(c.cell (p:=⟨5,b,none⟩) a.pos).trans (a b d)
def qq4 (s:Nat)(a:s<4294967296)(b:s≠0):bits .and .u32 (s:Int) (-(s:Int) % 4294967296)=((2 ^ Lib.ctz 32 s:Nat):Int):=by rw[show -(s:Int) % 4294967296=((2 ^ 32 - s:Nat):Int) by omega,qsk s _ a fP,(Lib.lowest_bit 32 s b a).1]
def kf7 (s:Nat)(w:Tw)(f:s<4294967296)(b:s≠0)(j:Tab w):Calls prog 252 #[.int .u32 s] w λa c=>a=Rt (Yf (Lib.ctz 32 s))/\c=w:=by have d:=(Lib.lowest_bit 32 s b f).2;obtain⟨g,l⟩:=Lib.deBruijn32_at _ d;have h:=qq4 s f b;have a:=j _ g;rw[l]at a;obtain⟨p,i⟩:=Nq (Lib.ctz 32 s);obtain⟨m,e⟩:=Nq (2 ^ Lib.ctz 32 s);obtain⟨k,c⟩:=Nq (2 ^ Lib.ctz 32 s*125613361 % 4294967296 / 134217728);have n:(m:Int)*125613361 % 4294967296 / 134217728=(k:Int):=(by rw[<- c,e];omega);rw[c]at a g;rw[e]at h;rw[i]at a d⊢;have o:((s:Int)==0)=false:=(by simp;omega);go_enter func252,ntmps252;exact it
def qae (s:Nat)(w:Tw)(g:s<4294967296)(e:s≠0)(h:Tab w):Calls prog 244 #[.agg #[.int .u32 s]] w λb c=>b=Rt (Yf (Lib.ctz 32 s))/\c=w.alloc (Cl #[.int .u32 (s:Int)] 152):=by have f:∀a,Tab (w.alloc a):=λa=>h.mono ((bR _ w).alloc (nR _) a);obtain⟨d,a⟩:=oB f e;go_enter func244,ntmps244;go_wp2_with (go_at_call 252;refine(kf7 _ _ g a (d _)).mono ?_;rintro b c ⟨rfl,rfl⟩);go_ret;exact⟨rfl,rfl⟩
def us (g:Nat->Nat):Tl:=(List.range 32).map λk=>.int .u32 (g k:Int)
def qg8 (g:Nat->Nat):(us g).length=32:=by simp[us]
def kaV (g:Nat->Nat){k:Nat}(b:k<32):(us g)[k]? = some (.int .u32 (g k:Int)):=by grind[us]
def kd7 (g:Nat->Nat){k:Nat}(v:Nat)(d:k<32):(us g).set k (.int .u32 (v:Int))=us (λb=>if b=k then v else g b):=by apply List.ext_getElem?;intro b;by_cases e:b<32;{rw[kaV _ e];by_cases c:b=k;{subst c;rw[List.getElem?_set_self (by rw[qg8];exact d)];simp};rw[List.getElem?_set_ne (λd=>c d.symm),kaV _ e];simp[c]};rw[Vu (by simp[qg8];omega),Vu (by rw[qg8];omega)]
def ke8 (g:Nat->Nat):(us g).toArray.all (·.oneCell')=true:=by rw[Array.all_eq_true_iff_forall_mem];intro d b;simp only[us,List.mem_toArray,Ze]at b;obtain⟨c,-,rfl⟩:=b;rfl
def qfg:(prog.info? 234).map (·.size)=some 32:=by kernel_rfl
def qrp (g:Nat->Nat):(prog.info? 234).map (·.size)=some (us g).toArray.size:=by simp[us,qfg]
section
variable {ops:Array Oper} {rest:List Oper} {o:Oper} {a:Act} {w:Tw} {Q:Exit->Act->Tw->Prop}
def q0w (e:o.guard=none)(x:Operand)(f:o.op=.load 234 x)(b:Nat)(g:Nat->Nat)(h:a.eval x=Yi b 0)(d:Blk w b 234 (us g))
 (c:wpList prog ops Q rest (a.put o.dst (.agg (us g).toArray)) w):wpList prog ops Q (o :: rest) a w :=
 wpList_load_row e 234 x f b h 234 (us g).toArray (0,0) _ d underlying234 rfl (qrp g) c
def q0m (f:o.guard=none)(x y:Operand)(i:o.op=.store 234 x y)(b:Nat)(g g':Nat->Nat)(j:a.eval x=Yi b 0)(hy:a.eval y=.agg (us g').toArray)(d:Blk w b 234 (us g))
 (e:∀c,Blk c b 234 (us g')->w.grownBy c (some b)->c.1.size=w.1.size->wpList prog ops Q rest (a.put o.dst undef) c):wpList prog ops Q (o :: rest) a w :=
 wpList_plain f λ_ c=>wp_store_row 234 x y i b (us g').toArray j hy _ _ d (qrp g') (by simp[us]) (ke8 g')
  (c _ _ (e _ (setRow_heap w b _ _ _ _ d) ⟨rfl,rfl,rfl,fT,λc _ h=>setRow_other w b c _ (λc=>h (by rw[c]))⟩ fT))
end
def bs (n:Nat)(f:Nat->Bool):Tl:=(List.range n).map λk=>Bo (f k)
def is (n:Nat)(f:Nat->Int):Tl:=(List.range n).map λk=>.int .i64 (f k)
def qab {n:Nat}{x:Tl}{g:Nat->Value}(d:x.length=n)(c:∀a,a<n->x[a]? = some (g a)):x=(List.range n).map g:=by apply List.ext_getElem?;intro a;by_cases b:a<n;{rw[c a b];simp[b]};rw[Vu fP,Vu f9]
def Blk.bools {w:Tw}{g n:Nat}{t:TypeId}{f:Nat->Bool}(a:Blk w g t (bs n f)):kbi w (some ⟨g,0,none⟩) n f:=λb b =>
 ⟨g,0,rfl,a.lt,by rw[Zu,a.cell];simp[bs,b]⟩
def Blk.ints {w:Tw}{g n:Nat}{t:TypeId}{f:Nat->Int}(a:Blk w g t (is n f)):kbJ w (some ⟨g,0,none⟩) n f:=λb b =>
 ⟨g,0,rfl,a.lt,by rw[Zu,a.cell];simp[is,b]⟩
def qdo:(prog.info? 4).map (λa=>(a.zero,a.size,a.bytes))=some (some (Bo false),1,1):=by kernel_rfl
def qi9:(prog.info? 3).map (λa=>(a.zero,a.size,a.bytes))=some (some (Yf 0),1,8):=by kernel_rfl
def kbD {n x y:Nat}(a:x<n)(hy:y<n):x*n+y<n*n:=by have:(x+1)*n<=n*n:=Z6 _ a;rw[Z8]at this;omega
def kc3 {n:Nat}(a:n<=32):n*n<=1024:=Gc a a
def qdw (a:To)(m c n x y:Nat)(f:Nat->Bool)(w:Tw)(p:n*n<=m)(g:x<n)(hy:y<n)(e:n<=32)(d:kbi w a m f):Calls prog 27 #[Sl a m c,Yf n,Yf x,Yf y] w λb h=>b=Rt (Bo (f (x*n+y)))/\h=w:=by have h:=kbD g hy;have i:=kc3 e;obtain⟨b,q,rfl,-,o⟩:=d (x*n+y) fP;have j:0<=(x:Int)*n:=(by rw[<- Zq];omega);have k:(x:Int)*n+y<m:=(by rw[<- Zq];omega);have l:(x:Int)*n<=1024:=(by rw[<- Zq];omega);go_enter func27,ntmps27;exact it
def kaN (f:Nat->Bool)(n a b c:Nat):Prop:=f (a*n+c)=true/\f (b*n+c)=true/\∀d,d<n->f (a*n+d)=true->f (b*n+d)=true->f (c*n+d)=true
def kaZ (f:Nat->Bool)(n a b c:Nat):Bool:=f (a*n+c)&&f (b*n+c)&&(List.range n).all λd=>!f (a*n+d)||!f (b*n+d)||f (c*n+d)
def q9d {f:Nat->Bool}{n a b c:Nat}:kaZ f n a b c=true ↔ kaN f n a b c:=by grind[kaZ,kaN]
def q6i {f:Nat->Bool}{n a b c:Nat}(d:kaN f n a b c):kaZ f n a b c=true:=q9d.2 d
def q49 {f:Nat->Bool}{n a b c:Nat}(d:¬ kaN f n a b c):kaZ f n a b c=false:=by grind[kaZ,kaN]
def ir {p:Prop}(h:p:=by go_wp2_with (go_at_call 27;refine(qdw _ _ _ _ _ _ f _ o gn gn p q).mono ?_;rintro g l ⟨rfl,rfl⟩);go_ret;exact⟨qkd i.symm,rfl⟩):p:=h
def q4d (t:To)(m z n a b c:Nat)(f:Nat->Bool)(w:Tw)(E:n*n<=m)(p:n<=32)(F:a<n)(G:b<n)(H:c<n)(q:kbi w t m f):Calls prog 66 #[Sl t m z,Yf n,Yf a,Yf b,Yf c] w λg l=>g=Rt (Bo (kaZ f n a b c))/\l=w:=by have o:=h_ E;cases u:f (a*n+c);{have i:Hi (kaZ f n a b c=false):=q49 λj=>Vy (u.symm.trans j.1);go_enter func66,ntmps66;exact ir};cases v:f (b*n+c);{have i:Hi (kaZ f n a b c=false):=q49 λj=>Vy (v.symm.trans j.2.1);go_enter func66,ntmps66;exact ir};go_enter func66,ntmps66;go_wp2_with (go_at_call 27;refine(qdw _ _ _ _ _ _ f _ o gn gn p q).mono ?_;rintro g l ⟨rfl,rfl⟩);go_loop [11] (λh=>∃d:Nat,d<=n/\h=Yf d/\∀e,e<d->f (a*n+e)=true->f (b*n+e)=true->f (c*n+e)=true) (λh=>n - (intOf h).toNat);exact⟨0,nZ _,rfl,λe j=>absurd j (nL _)⟩;obtain⟨d,I,rfl,A⟩:=hrel;have s:=h_ A;by_cases D:d<n;{by_cases x:f (a*n+d)=true/\f (b*n+d)=true/\f (c*n+d)=false;{obtain⟨h,k,r⟩:=x;have i:Hi (kaZ f n a b c=false):=q49 λj=>Vy (r.symm.trans (j.2.2 d D h k));exact ir};have j:Hi (f (a*n+d)=true->f (b*n+d)=true->f (c*n+d)=true):=λh k=>(by cases r:f (c*n+d);{exact absurd ⟨h,k,r⟩ x};rfl);have y:Hi (∀e,e<d+1->f (a*n+e)=true->f (b*n+e)=true->f (c*n+e)=true):=λe C=>(by by_cases g:e=d;{rw[g];exact j};exact s e fP);have B:f (a*n+d)=false∨(f (a*n+d)=true/\f (b*n+d)=false)∨(f (a*n+d)=true/\f (b*n+d)=true/\f (c*n+d)=true):=(by cases h:f (a*n+d);{exact .inl rfl};cases k:f (b*n+d);{exact .inr (.inl ⟨rfl,rfl⟩)};exact .inr (.inr ⟨rfl,rfl,j h k⟩));rcases B with h | ⟨h,k⟩ | ⟨h,k,r⟩;all_goals go_wp2_with (go_at_call 27;refine(qdw _ _ _ _ _ _ f _ o gn gn p q).mono ?_;rintro g l ⟨rfl,rfl⟩);go_round;exact⟨d+1,fP,fX,y⟩;simp[intOf];omega};have i:Hi (kaZ f n a b c=true):=q6i ⟨u,v,λe C=>s e fP⟩;go_wp2;go_ret;exact⟨qkd i.symm,rfl⟩
def kaO (f:Nat->Bool)(n a b c:Nat):Prop:=f (c*n+a)=true/\f (c*n+b)=true/\∀d,d<n->f (d*n+a)=true->f (d*n+b)=true->f (d*n+c)=true
def ka0 (f:Nat->Bool)(n a b c:Nat):Bool:=f (c*n+a)&&f (c*n+b)&&(List.range n).all λd=>!f (d*n+a)||!f (d*n+b)||f (d*n+c)
def q9g {f:Nat->Bool}{n a b c:Nat}:ka0 f n a b c=true ↔ kaO f n a b c:=by grind[ka0,kaO]
def q6k {f:Nat->Bool}{n a b c:Nat}(d:kaO f n a b c):ka0 f n a b c=true:=q9g.2 d
def q4b {f:Nat->Bool}{n a b c:Nat}(d:¬ kaO f n a b c):ka0 f n a b c=false:=by grind[ka0,kaO]
def q4e (t:To)(m z n a b c:Nat)(f:Nat->Bool)(w:Tw)(E:n*n<=m)(p:n<=32)(F:a<n)(G:b<n)(H:c<n)(q:kbi w t m f):Calls prog 67 #[Sl t m z,Yf n,Yf a,Yf b,Yf c] w λg l=>g=Rt (Bo (ka0 f n a b c))/\l=w:=by have o:=h_ E;cases u:f (c*n+a);{have i:Hi (ka0 f n a b c=false):=q4b λj=>Vy (u.symm.trans j.1);go_enter func67,ntmps67;exact ir};cases v:f (c*n+b);{have i:Hi (ka0 f n a b c=false):=q4b λj=>Vy (v.symm.trans j.2.1);go_enter func67,ntmps67;exact ir};go_enter func67,ntmps67;go_wp2_with (go_at_call 27;refine(qdw _ _ _ _ _ _ f _ o gn gn p q).mono ?_;rintro g l ⟨rfl,rfl⟩);go_loop [11] (λh=>∃d:Nat,d<=n/\h=Yf d/\∀e,e<d->f (e*n+a)=true->f (e*n+b)=true->f (e*n+c)=true) (λh=>n - (intOf h).toNat);exact⟨0,nZ _,rfl,λe j=>absurd j (nL _)⟩;obtain⟨d,I,rfl,A⟩:=hrel;have s:=h_ A;by_cases D:d<n;{by_cases x:f (d*n+a)=true/\f (d*n+b)=true/\f (d*n+c)=false;{obtain⟨h,k,r⟩:=x;have i:Hi (ka0 f n a b c=false):=q4b λj=>Vy (r.symm.trans (j.2.2 d D h k));exact ir};have j:Hi (f (d*n+a)=true->f (d*n+b)=true->f (d*n+c)=true):=λh k=>(by cases r:f (d*n+c);{exact absurd ⟨h,k,r⟩ x};rfl);have y:Hi (∀e,e<d+1->f (e*n+a)=true->f (e*n+b)=true->f (e*n+c)=true):=λe C=>(by by_cases g:e=d;{rw[g];exact j};exact s e fP);have B:f (d*n+a)=false∨(f (d*n+a)=true/\f (d*n+b)=false)∨(f (d*n+a)=true/\f (d*n+b)=true/\f (d*n+c)=true):=(by cases h:f (d*n+a);{exact .inl rfl};cases k:f (d*n+b);{exact .inr (.inl ⟨rfl,rfl⟩)};exact .inr (.inr ⟨rfl,rfl,j h k⟩));rcases B with h | ⟨h,k⟩ | ⟨h,k,r⟩;all_goals go_wp2_with (go_at_call 27;refine(qdw _ _ _ _ _ _ f _ o gn gn p q).mono ?_;rintro g l ⟨rfl,rfl⟩);go_round;exact⟨d+1,fP,fX,y⟩;simp[intOf];omega};have i:Hi (ka0 f n a b c=true):=q6k ⟨u,v,λe C=>s e fP⟩;go_wp2;go_ret;exact⟨qkd i.symm,rfl⟩
def kh2 (w:Tw)(a b:Obj)(c:Ta)(t:TypeId):Blk (((w.alloc (Cl c t)).alloc a).alloc b) w.1.size t c.toList:=((Blk.new w t c).alloc a).alloc b
def kh3 (w:Tw)(a b:Obj)(c:Ta)(g:Nat->Nat)(d:c.toList=us g):Blk (((w.alloc a).alloc b).alloc (Cl c 234)) (w.1.size+1+1) 234 (us g):=by rw[<- d];simpa using Blk.new ((w.alloc a).alloc b) 234 c
def kh4 (w:Tw)(a b:Obj)(c:Ta)(g:Nat->Nat)(d:c.toList=us g):Blk (((w.alloc a).alloc (Cl c 234)).alloc b) (w.1.size+1) 234 (us g):=by rw[<- d];simpa using (Blk.new (w.alloc a) 234 c).alloc b
def kcO (w:Tw)(a b c:Obj):Bw w (((w.alloc a).alloc b).alloc c):=(((bR _ w).alloc (nR _) a).alloc fT b).alloc f9 c
def kar (g:Nat->Nat)(R:Nat->Nat->Bool):Prop:=∀a,a<32->g a<4294967296/\∀b,(g a).testBit b=R a b
def qqt (b i:Nat):(2 ^ b).testBit i=decide (b=i):=by grind
def kar.add {g:Nat->Nat}{R:Nat->Nat->Bool}(c:kar g R){x y:Nat}(f:x<32)(hy:y<32):kar (λa=>if a=x then g x ||| 2 ^ y else g a) (λa b=>R a b||(decide (a=x)&&decide (b=y))):=λa d=>by by_cases e:a=x;{subst e;simp only[if_true];refine⟨kdp (c a d).1 (kbC hy),λb=>?_⟩;rw[Gp,(c a d).2 b,qqt];cases R a b <;> simp[eq_comm]};simp only[Y2 e];refine⟨(c a d).1,λb=>?_⟩;rw[(c a d).2 b];simp[e]
def kar.congr {g:Nat->Nat}{R d:Nat->Nat->Bool}(e:kar g R)(f:∀a b,a<32->R a b=d a b):kar g d:=λa c=>⟨(e a c).1,λb=>((e a c).2 b).trans (f a b c)⟩
def part (f:Nat->Bool)(n i:Nat):Nat->Nat->Bool:=λa b=>decide (b<n)&&decide (a*n+b<i)&&f (a*n+b)
end
section
open Go Go.RowKit Go.Shelf Go.Proofs.Tryz
def Loc {β:Type}(B:Nat)(J:β->Tw->Prop):Prop:=∀s W W',J s W->Below B W W'->J s W'
structure kaM (X:Nat->Prop)(W W':Tw):Prop where
 size:W.1.size<=W'.1.size
 same:∀k cs t fr,¬ X k->W.heap[k]? = some (Cl cs t fr)->W'.heap[k]? = some (Cl cs t fr)
def kaM.refl (X:Nat->Prop)(a:Tw):kaM X a a:=⟨nR _,λ_ _ _ _ _ b=>b⟩
def kaM.trans {X:Nat->Prop}{w B C:Tw}(c:kaM X w B)(k:kaM X B C):kaM X w C:=⟨Yx c.size k.size,λe a f b d g=>k.same e a f b d (c.same e a f b d g)⟩
def kaM.put {X:Nat->Prop}{w:Tw}{l:Nat}{o f:Obj}(c:w.heap[l]? = some o)(d:o.isCells=false):kaM X w (w.putObj l f) :=
 ⟨fT,λe a a a _ a=>by
  by_cases b:e=l
  . subst b;rw[c]at a;cases a;simp[Obj.isCells]at d
  . exact(World.putObj_heap_other b).trans a⟩
def kaM.of_below {X:Nat->Prop}{w W:Tw}(a:Below w.1.size w W):kaM X w W :=
 ⟨a.size,λc _ _ _ _ b=>(a.block c (Y4.1 b).1).trans b⟩
def kaM.set {X:Nat->Prop}{w:Tw}{a:Addr}(v:Value)(e:X a.block):kaM X w (w.setCell a v) :=
 ⟨fT,λb _ _ _ d c=>(heap_setCell_other w a b v (λb=>d (b ▸ e))).trans c⟩
def kaM.blk {X:Nat->Prop}{w W:Tw}{g:Nat}{t:TypeId}{cs:Tl}(a:kaM X w W)(b:Blk w g t cs)(c:¬ X g):Blk W g t cs:=a.same g _ t _ c b
def keD {w W:Tw}(a:Below w.1.size w W):KeepsOthers w W:=⟨a.size,λc _ b _=>(a.block c (Y4.1 b).1).trans b⟩
def Blk.put {w:Tw}{g l:Nat}{t:TypeId}{cs:Tl}(a:Blk w g t cs){o:Obj}(d:Obj)(b:w.heap[l]? = some o)(c:o.isCells=false):Blk (w.putObj l d) g t cs:=(kaM.put (X:=λ_=>False) b c).same g _ t _ (λa=>a) a
def kfR (P:Program)(gf:Nat)(lb:Ta)(T:Nat->Prop)(S Sp:List Nat->Prop)(X:Nat->Prop)(w0:Tw):Prop :=
 ∀(n l:Nat) (J Jx:List Nat->Tw->Prop) (W:Tw),Below w0.1.size w0 W->Loc W.1.size J->Loc W.1.size Jx->(∀k,X k->k<W.1.size) ->
  (∀(m:Nat) (pre:List Nat) (x:Nat) (W1:Tw),J pre W1->T x->YieldAt Fence.wide m P l #[Yf (x:Int)] W1 λe W' =>
   (e=Rt (Bo true)/\J (pre++[x]) W'/\kaM X W1 W')∨(e=Rt (Bo false)/\Jx (pre++[x]) W')) ->
  J [] W ->
  CallsIn Fence.wide n P gf (#[.func (.yield l) #[] #[]]++lb) W λe W'=>(∃v,e=Rt v)/\((∃xs,S xs/\J xs W')∨(∃pre,Sp pre/\Jx pre W'))
def kcx {n:Nat}:Fence.wide.depth.isSome=true->1<=n:=λa=>by simp[Fence.wide]at a
def kbl {P:Program}{f:FuncId}{args:Ta}{w:Tw}{R:Ending->Tw->Prop}{n:Nat}(a:Calls P f args w R):Fence.wide.fn f/\(Fence.wide.depth.isSome=true->1<=n)/\CallsIn Fence.wide (n - 1) P f args w R :=
 ⟨trivial,kcx,callsIn_wide.2 a⟩
def kdg {P:Program}{f:FuncId}{args:Ta}{w:Tw}{R:Ending->Tw->Prop}{n l:Nat}(a:Calls P f args w R):(Fence.wide.inRound l).fn f/\((Fence.wide.inRound l).depth.isSome=true->1<=n)/\CallsIn (Fence.wide.inRound l) (n - 1) P f args w R :=
 ⟨trivial,kcx,CallsIn.inRound l (callsIn_wide.2 a)⟩
def kfS (X:Nat->Prop)(I Ix:List Nat->Tw->Prop)(xs:List Nat)(W:Tw):Exit->Act->Tw->Prop
 | .normal,_,W'=>KeepsOthers W W'/\kaM X W W'/\I xs W'
 | .ret,_,W'=>KeepsOthers W W'/\Ix xs W'
 | _,_,_=>False
def qc0 {B:Nat}(a:Tw)(l:Nat)(o:Obj)(b:B<=l):Below B a (a.putObj l o) :=
 ⟨rfl,rfl,rfl,fT,λ_ c=>World.putObj_heap_other fP⟩
def qez {P:Program}{g:Operand}{A:Array Tmp}{assign body:Code}{B:Exit->Act->Tw->Prop}{a:Act}{w:Tw}{n gf:Nat}{lb:Ta}
 (hg:a.eval g=.func (.func gf) #[] lb) (Z:∀args w,(callFunc gf args).run P w=.ok (.enter gf args) w)
 {H:Nat->Prop} {S G:List Nat->Prop} {X:Nat->Prop} {W:Tw} (ah:kfR P gf lb H S G X W) (O:Below W.1.size W w) (hX:∀q,X q->q<w.1.size) (ag:A.size=1)
 (s t:List Nat->Tw->Prop) (C:Loc w.1.size s) (M:Loc w.1.size t) (h0:s [] w) (I:Nat->Act)
 (aa:∀(x f k:Nat) (b:Tw) (d:Act->Tw->Prop),d (I k) b ->
  assign.wpIn (Fence.wide.inRound f) x P (Exit.then d (λ_ _ _=>False)) { tmps:=(A.zip #[Yf (k:Int)]).foldl (λV (j,Y)=>V.setIfInBounds j Y) a.tmps,defers:=[] } b)
 (ab:∀(x f:Nat) (h:List Nat) (k:Nat) (b:Tw),s h b->H k->body.wpIn (Fence.wide.inRound f) x P (kfS X s t (h++[k]) b) (I k) b)
 (ad:∀(d:Nat) (e:List Nat) (b:Tw),w.1.size<=d->S e->s e b->b.heap[d]? = some (.deferred (some []))->B .normal { a with defers:={ target:=.collected d,args:=#[] } :: a.defers } b)
 (ai:∀(d:Nat) (h:List Nat) (b:Tw),w.1.size<=d->G h->t h b->b.heap[d]? = some (.deferred (some []))->B .ret { a with defers:={ target:=.collected d,args:=#[] } :: a.defers } b) :
 (Code.rangeFunc g A assign body).wpIn Fence.wide n P B a w:=by
 refine wpIn_rangeFunc λfn _=>?_;obtain⟨d,p⟩:=Nq w.1.size;obtain⟨mk,i⟩:∃mk:LoopState->Option Code->Loop,mk=λl j=>{ state:=l,pending:=j,fn,tmps:=a.tmps,params:=A,assign,body,defers:=d }:=⟨_,rfl⟩;obtain⟨l,y⟩:=Nq ((w.alloc (.deferred (some []))).alloc (.loop (mk .ready none)));have U:l.1.size=d+1+1:=by rw[<- y];simp[p]
 have J:Below d w l:=by rw[<- y,<- p];exact((bR _ w).alloc (nR _) _).alloc fT _
 have ae:l.heap[d+1]? = some (.loop (mk .ready none)):=by
  have:=World.alloc_heap_new (w.alloc (.deferred (some []))) (.loop (mk .ready none));rw[Yv,p,y]at this;exact this
 have ac:l.heap[d]? = some (.deferred (some [])):=by
  have:=World.alloc_heap_new w (.deferred (some []));rw[<- y,<- p];exact(Below.heap_alloc _ _ _ fT).trans this
 have L:=run_enterLoop_outer (P:=P) (w:=w) fn a.tmps A assign body;rw[p]at L;refine⟨d+1,[{ target:=.collected d,args:=#[] }],l,{ target:=.fn (.func gf) lb,args:=#[.func (.yield (d+1)) #[] #[]] },l,gf,#[.func (.yield (d+1)) #[] #[]]++lb,l,?_,?_,?_,?_,λm=>by simp[Fence.wide]at m,?_⟩
 . rw[<- y,i];exact L
 . simp only[resolve,hg];simp[go_sem]
 . intro _ _;trivial
 . simp[invoke,go_sem,Z]
 have D:∀e b f j,d<=f->s e b->s e (b.putObj f j):=λe b f j m r=>C e b _ r (by rw[p];exact qc0 b f j m);have N:∀e b f j,d<=f->t e b->t e (b.putObj f j):=λe b f j m r=>M e b _ r (by rw[p];exact qc0 b f j m);refine(ah (n - 1) (d+1) (λh b=>s h b/\b.heap[d+1]? = some (.loop (mk .ready none))/\b.heap[d]? = some (.deferred (some [])))
  (λh b=>t h b/\b.heap[d+1]? = some (.loop (mk .done (some .ret)))/\b.heap[d]? = some (.deferred (some []))) l (O.trans ((p ▸ J:Below w.1.size w l).mono O.size)) ?_ ?_ (λq f=>by have:=hX q f;omega) ?_ ⟨C _ _ _ h0 (p ▸ J),ae,ac⟩).mono ?_
 . rintro e b u ⟨m,f,q⟩ j
   rw[U]at j;exact⟨C e b u m (j.mono fP),(j.block _ fP).trans f,(j.block _ fP).trans q⟩
 . rintro e b u ⟨m,f,q⟩ j
   rw[U]at j;exact⟨M e b u m (j.mono fP),(j.block _ fP).trans f,(j.block _ fP).trans q⟩
 . -- one round
   rintro x h k b ⟨r,f,q⟩ hT;have af:d+1<b.1.size:=(Y4.1 f).1;have T:=run_yield (P:=P) (args:=#[Yf (k:Int)]) f (by rw[i];simp[ag]);rw[i]at T;refine⟨fn,_,assign,body,T,roundIn_of_wpIn trivial (aa x _ k b _ ⟨_,run_beginRound f (by rw[i]),?_⟩)⟩;refine wpIn_mono (ab x _ h k _ (D _ _ _ _ fP r) hT) ?_;have R:=World.putObj_heap_same (w:=b) (o:=.loop { mk .ready none with state:=.busy }) af;have Q:(b.putObj (d+1) (.loop { mk .ready none with state:=.busy })).heap[d]? = some (.deferred (some [])):=(World.putObj_heap_other fP).trans q;have aj:kaM X b (b.putObj (d+1) (.loop { mk .ready none with state:=.busy })):=kaM.put f rfl;intro K a3 W3 v;cases K with
   | normal =>
    obtain⟨z,kx,F⟩:=v;have u:=z.same _ _ R rfl;have E:=z.same _ _ Q rfl;have j:=run_endRound (P:=P) none u;rw[i]at j;refine⟨_,_,j,.inl ⟨rfl,⟨D _ _ _ _ fP F,?_,(World.putObj_heap_other fP).trans E⟩,(aj.trans kx).trans (kaM.put u rfl)⟩⟩;rw[i];exact World.putObj_heap_same (Y4.1 u).1
   | ret =>
    obtain⟨z,F⟩:=v;have u:=z.same _ _ R rfl;have E:=z.same _ _ Q rfl;have j:=run_endRound (P:=P) (some .ret) u;rw[i]at j;refine⟨_,_,j,.inr ⟨rfl,N _ _ _ _ fP F,?_,(World.putObj_heap_other fP).trans E⟩⟩;rw[i];exact World.putObj_heap_same (Y4.1 u).1
   | exit id=>exact v.elim
   | goto V=>exact v.elim
   | panic c=>exact v.elim
   | outgrown=>exact v.elim
 . -- behind the iterator
   rintro K v ⟨⟨Y,rfl⟩,(⟨e,k,r,f,q⟩ | ⟨h,u,r,f,q⟩)⟩
   . have j:=run_endLoop (P:=P) f (by rw[i];simp)
     rw[i]at j;exact⟨none,_,j,ad d e _ fP k (D _ _ _ _ fP r) ((World.putObj_heap_other fP).trans q)⟩
   . have j:=run_endLoop (P:=P) f (by rw[i];simp)
     rw[i]at j;exact⟨some .ret,_,j,wpIn_ret (ai d h _ fP u (N _ _ _ _ fP r) ((World.putObj_heap_other fP).trans q))⟩
attribute [local go_sem] Oper.semAt_some
def Tab.keep {X:Nat->Prop}{w W:Tw}(c:Tab w)(e:kaM X w W)(d:¬ X 5):Tab W:=λf b=>by have a:=c f b;unfold World.cell? at a⊢;simp only at a⊢;cases b:w.heap[5]? with|none=>rw[b]at a;cases a|some f=>cases f with|cells cs t fr=>rw[e.same 5 cs t fr d b];rw[b]at a;exact a|_=>rw[b]at a;cases a
def ke1 (w:Tw):Value->Nat
 | .pointer (some a)=>match w.cell? a with | some (.int _ v)=>v.toNat | _=>0
 | _=>0
def qja {w:Tw}{b v:Nat}{k:IntKind}(a:w.cell? ⟨b,0,none⟩=some (.int k (v:Int))):ke1 w (Yi b 0)=v:=by grind[ke1]
def qn8 {s:Nat}(d:s<4294967296)(a:s≠0):Lib.ctz 32 s<32/\s.testBit (Lib.ctz 32 s)=true:=by obtain⟨b,c⟩:=Lib.lowest_bit 32 s a d;refine⟨c,?_⟩;have:(s &&& (2 ^ 32 - s)).testBit (Lib.ctz 32 s)=true:=(by rw[b];simp);rw[Nat.testBit_and,Yw]at this;exact this.1
def q7a {s x:Nat}(d:s<4294967296)(e:x<32)(c:s.testBit x=true):kaw s (2 ^ x)<s:=by apply Nat.lt_of_le_of_ne Nat.and_le_left;intro b;have a:=qaf d (kbC e) x;rw[show kaw s (2 ^ x)=s from b,c]at a;simp at a
def q7b {s x:Nat}(a:s<4294967296)(b:x<32)(i:Nat):(kaw s (2 ^ x)).testBit i=true ↔ s.testBit i=true/\i≠x:=by grind[kaw,qaf,kbC]
def Tab.at0 {w w':Tw}(c:Tab w)(e:w'.heap[5]? = w.heap[5]?):Tab w':=λb d=>(World.cell?_of_block (a:=⟨5,b,none⟩) e).trans (c b d)
def q75 (N:Nat)(a:Tw)(R:Nat)(b c d e:Obj)(v:Value)(t:TypeId)(g:N<=R)(f:N<=a.1.size):Blk ((((((a.alloc b).alloc c).alloc d).alloc e).setCell ⟨R,0,none⟩ v).alloc (Cl #[v] t)).drew (a.1.size+1+1+1+1) t [v]/\Below N a ((((((a.alloc b).alloc c).alloc d).alloc e).setCell ⟨R,0,none⟩ v).alloc (Cl #[v] t)).drew:=by constructor;{have:=Blk.new (((((a.alloc b).alloc c).alloc d).alloc e).setCell ⟨R,0,none⟩ v) t #[v];simp only[World.size_setCell,Yv]at this;exact this};exact((((ka4 a b c d e).mono f).setCell (p:=⟨R,0,none⟩) g v).alloc f9 _).drew
def q4v (Bs s:Nat)(z:Tw)(X:Nat->Prop)(hs:s<4294967296)(F:Blk z Bs 152 [.int .u32 (s:Int)])(ht:Tab z)(aa:¬ X 5):kfR prog 262 #[Yi Bs 0] (λb=>b<32/\s.testBit b=true) (λc=>∀a,a∈c ↔ s.testBit a=true) (λd=>∀a∈d,s.testBit a=true) X z:=by intro aj aq P Jx f H n an hX hY S;have U:=F.mono H F.lt;have o:=ht.mono H;have R:=U.cell 0;simp only[Yp]at R;have Z:=o.pos;have O:=h_ hY;refine callsIn_of_wp func262 rfl trivial ?_ rfl;simp only[ntmps262,Zh,Yy,Za,Nat.reduceAdd,Nat.reduceSub,Oi,Oh,O4,Om,Oe,Vb];gi_wp2;have v:Bw f (f.alloc (Cl #[.int .u32 (s:Int)] 152)):=(bR _ _).alloc (nR _) _;have af:=Blk.new f 152 #[.int .u32 (s:Int)];gi_loopw [3] (λc wr=>∃(g rest:Nat) (d:List Nat),c=Yi g 0/\f.1.size<=g/\Blk wr g 152 [.int .u32 (rest:Int)]/\Tab wr/\P d wr/\f.1.size<=wr.1.size/\rest<4294967296/\(∀a,s.testBit a=true ↔ a∈d∨rest.testBit a=true)) (λc wr=>ke1 wr c);exact⟨f.1.size,s,[],rfl,nR _,af,o.mono v,n _ _ _ S v,v.size,hs,λa=>fT⟩;obtain⟨g,rest,d,rfl,V,c,o,hj,I,h,ab⟩:=hrel;have c1:=c.cell 0;simp only[Yp]at c1;obtain⟨A,C,B,l⟩:=oD c o hj ab;have ae:=c.lt;by_cases p:rest=0;{subst p;have ai:((0:Nat)==0)=true:=rfl;gi_wp2_with fail;refine kbl ((qcx _ _).mono ?_);rintro e J ⟨rfl,rfl⟩;gi_wp2_with fail;go_end0;refine⟨⟨_,rfl⟩,.inl ⟨d,λa=>?_,n _ _ _ B (((bR wr.1.size _).alloc (nR _) _).mono I)⟩⟩;rw[l.u a];simp};have ai:(rest==0)=false:=(by simpa using p);have w:=qn8 h p;have y:=qae rest (wr.alloc (Cl #[.int .u32 (rest:Int)] 152)) h p (C.mono ((bR _ _).alloc (nR _) _));obtain⟨b,hx⟩:=Nq (Lib.ctz 32 rest);rw[hx]at w y;have L:=h_ y;have k:=w.1;have m:=h_ w.2;have G:Bw wr ((wr.alloc (Cl #[.int .u32 (rest:Int)] 152)).alloc (Cl #[.int .u32 (rest:Int)] 152)):=((bR _ _).alloc (nR _) _).alloc fT _;have ah:=O (aj - 1) d b _ (n _ _ _ B (G.mono I)) ⟨k,(l b).2 (.inr m)⟩;have q:=h_ G;obtain⟨fn,au,al,am,hy,W⟩:=ah;have M:=h_ W;gi_wp2_with fail;refine kbl ((qcx _ _).mono ?_);rintro e J ⟨rfl,rfl⟩;gi_wp2_with fail;refine kbl (L.mono ?_);rintro e J ⟨rfl,rfl⟩;gi_wp2_with fail;refine⟨kcx,M.mono ?_⟩;rintro e r (⟨rfl,ac,x⟩ | ⟨rfl,ad⟩);{have c:=x.blk (A.mono q ae) (λj=>by have:=hX g j;omega);have Y:=(C.mono q).keep x aa;have ap:wr.1.size<=r.1.size:=Yx q.size x.size;have c2:=c.cell 0;simp only[Yp]at c2;have f2:=c.free 0;have y:=c.lt;have Q:=c.cell4 0;have F4:=c.free4 0;simp only[Yp]at Q;obtain⟨ak,N,K⟩:=oC c Y ac;have ao:prog.follows .mixedOrders=true:=fR;have ag:=qea (t:=2 ^ b) h;have T:=kbC k;gi_wp2_with fail;gi_region_with_o (first | (refine kbl ((qq6 _ _ k).mono ?_);rintro e w' ⟨rfl,rfl⟩) | (refine kbl ((qeb _ _ _ h T).mono ?_);rintro e w' ⟨rfl,rfl⟩));all_goals gi_wp2_with fail;have i:=q75 f.1.size r g (Cl (#[.int .u32 ((2 ^ b:Nat):Int)]) 152) (Cl #[.int .u32 (rest:Int)] 152) (Cl (#[.int .u32 ((2 ^ b:Nat):Int)]) 152) (Cl (#[.int .u32 ((kaw rest (2 ^ b):Nat):Int)]) 152) (.int .u32 ((kaw rest (2 ^ b):Nat):Int)) 152 V fP;simp only[Ub,Gy]at i;refine⟨⟨r.1.size+1+1+1+1,kaw rest (2 ^ b),d++[b],rfl,fP,i.1,N.at0 (i.2.block 5 Z),n _ _ _ K i.2,by have:=i.2.size;omega,ag,λa=>?_⟩,?_⟩;{rw[l.u a,q7b h k,Zd,Y9];have D:=m.u;by_cases e:a=b;{subst e;simp[D]};simp[e]};have D:=i.1.cell 0;have E:=A.cell 0;simp only[Yp]at D E;rw[qja D,qja E];exact q7a h k m};gi_wp2_with fail;refine bodyPost_ret (results_none rfl _ _ _) rfl ⟨⟨_,rfl⟩,.inr ⟨d++[b],λa i=>?_,ad⟩⟩;rw[l.u a];rcases Zd.1 i with j | j;{exact .inl j};rw[Y9.1 j];exact .inr m
def qa7 (s:Nat)(w:Tw):Calls prog 239 #[.agg #[.int .u32 (s:Int)]] w λa b=>a=Rt (.func (.func 262) #[] #[Yi w.1.size 0])/\b=w.alloc (Cl #[.int .u32 (s:Int)] 152):=by go_enter func239,ntmps239;exact it
section
variable {n:Nat} {ops:Array Oper} {rest:List Oper} {o:Oper} {a:Act} {w:Tw} {Q:Exit->Act->Tw->Prop}
def q06 (f:o.guard=none)(x:Operand)(h:o.op=.load 234 x)(b:Nat)(g:Nat->Nat)(i:a.eval x=Yi b 0)(e:Blk w b 234 (us g))
 (c:wpListIn Fence.wide n prog ops Q rest (a.put o.dst (.agg (us g).toArray)) w):wpListIn Fence.wide n prog ops Q (o :: rest) a w :=
 wpListIn_plain f λ_ d=>⟨λ_ _=>trivial,by
  simp only[Fence.wide,Oper.semAt,execOp,h,i,Instr.loadAt,Instr.sureAddr,Sem.run_bind,Sem.run_pure,Result.andThen_ok,run_loadVar_row w b 234 234 (us g).toArray (0,0) _ e underlying234 rfl (qrp g)];exact d _ _ c⟩
def q02 (f:o.guard=none)(x y:Operand)(i:o.op=.store 234 x y)(b:Nat)(g g':Nat->Nat)(j:a.eval x=Yi b 0)(hy:a.eval y=.agg (us g').toArray)(d:Blk w b 234 (us g))
 (e:∀c,Blk c b 234 (us g')->w.grownBy c (some b)->c.1.size=w.1.size->wpListIn Fence.wide n prog ops Q rest (a.put o.dst undef) c):wpListIn Fence.wide n prog ops Q (o :: rest) a w :=
 wpListIn_plain f λ_ c=>⟨λ_ _=>trivial,by
  simp only[Fence.wide,Oper.semAt,execOp,i,j,hy,Instr.storeAt,Instr.sureAddr,Sem.run_bind,Sem.run_pure,Result.andThen_ok,run_storeVar_row w b 234 234 _ (us g').toArray d (qrp g') (by simp[us]) (ke8 g')];exact c _ _ (e _ (setRow_heap w b _ _ _ _ d) ⟨rfl,rfl,rfl,fT,λc _ h=>setRow_other w b c _ (λc=>h (by rw[c]))⟩ fT)⟩
end
def kfA (Ds:List Nat):List Deferred:=Ds.map λD=>{ target:=.collected D,args:=#[] }
def kcz (B:Nat)(W:Tw)(Ds:List Nat):Prop:=Ds.Nodup/\∀D∈Ds,B<=D/\W.heap[D]? = some (.deferred (some []))
def kcz.nil (B:Nat)(b:Tw):kcz B b []:=⟨List.nodup_nil,λ_ c=>by cases c⟩
def kcz.keep {B:Nat}{W U:Tw}{l:List Nat}(c:kcz B W l)(k:KeepsOthers W U):kcz B U l:=⟨c.1,λb d=>⟨(c.2 b d).1,k.same b _ (c.2 b d).2 rfl⟩⟩
def kcz.below {B N:Nat}{W U:Tw}{l:List Nat}(c:kcz B W l)(f:Below N W U)(e:∀b∈l,b<N):kcz B U l:=⟨c.1,λb d=>⟨(c.2 b d).1,(f.block b (e b d)).trans (c.2 b d).2⟩⟩
def kcz.lt {B:Nat}{W:Tw}{l:List Nat}(c:kcz B W l):∀b∈l,b<W.1.size:=λb d=>(Y4.1 (c.2 b d).2).1
def kcz.cons {B D:Nat}{W:Tw}{l:List Nat}(c:kcz B W l)(e:B<=D)(f:W.heap[D]? = some (.deferred (some [])))(g:D ∉ l):kcz B W (D :: l) :=
 ⟨Gx.2 ⟨g,c.1⟩,λd b=>by
  rcases Zw.1 b with rfl | b
  . exact⟨e,f⟩
  . exact c.2 d b⟩
def q4x {P:Program}{e:Func}{g:Ta}{R:Ending->Tw->Prop}{n B:Nat}:∀(d:List Nat) (b:Tw),kcz B b d -> (∀c,kaM (λ_=>False) b c->Below B b c->∃f,(results e g).run P c=.ok f c/\R (Rt f) c)->LeavesInM Fence.wide n P e g R (kfA d) .returning b | [],b,_,h=>h b (kaM.refl _ _) (bR _ _) | D :: d,b,hs,h=>by have b:=hs.2 D (Y7 ..);refine⟨fT,.inl ⟨D,_,rfl,run_takeDeferred b.2,q4x d _ ⟨(Gx.1 hs.1).2,λd f=>?_⟩ λc j i=>h c ((kaM.put b.2 rfl).trans j) ((qc0 _ D _ b.1).trans i)⟩⟩;have c:=hs.2 d (Zc _ f);exact⟨c.1,(World.putObj_heap_other (k:=d) (r:=D) (λi=>(Gx.1 hs.1).1 (by rw[<- i];exact f))).trans c.2⟩
def qk4 {W:Tw}{k x:Nat}{f:Nat->Nat}(i:Blk W k 234 (us f))(m:x<32)(b:Nat)(d e g h:Obj):KeepsOthers W (((((W.alloc d).alloc e).alloc g).alloc h).setCell ⟨k,x,none⟩ (.int .u32 (b:Int))).drew/\kaM (λc=>c=k) W (((((W.alloc d).alloc e).alloc g).alloc h).setCell ⟨k,x,none⟩ (.int .u32 (b:Int))).drew /\ Blk (((((W.alloc d).alloc e).alloc g).alloc h).setCell ⟨k,x,none⟩ (.int .u32 (b:Int))).drew k 234 (us λc=>if c=x then b else f c) /\ (∀l,l<=k->k<W.1.size->Below l W (((((W.alloc d).alloc e).alloc g).alloc h).setCell ⟨k,x,none⟩ (.int .u32 (b:Int))).drew):=by have j:=ka4 W d e g h;refine⟨(keD j).trans ((KeepsOthers.setCell _ _ _).trans (KeepsOthers.drew _)),((kaM.of_below j).trans (kaM.set (X:=λc=>c=k) (a:=⟨k,x,none⟩) (.int .u32 (b:Int)) rfl)).trans ⟨nR _,λ_ _ _ _ _ i=>i⟩,?_,λl c l=>((j.mono fP).setCell (p:=⟨k,x,none⟩) c _).drew⟩;rw[<- kd7 f b m];exact(i.mono j i.lt).set x _
