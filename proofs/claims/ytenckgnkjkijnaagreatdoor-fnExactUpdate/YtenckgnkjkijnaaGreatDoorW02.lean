import Derived.Test.YtenckgnkjkijnaaGreatDoorW00
import Derived.Lib.ItoaLen
import Derived.Lib.ParseIntBTie
set_option linter.all false
set_option maxRecDepth 100000
set_option maxHeartbeats 0
namespace Go.Proofs.YtenckgnkjkijnaaGreatDoor
section
open Go.Lib
def kbq (acc:Nat):List Nat->Nat
 | []=>acc
 | d :: r=>kbq (acc*10+d) r
def qqc (l:List Nat):∀a,a<=kbq a l:=by induction l <;> grind[kbq]
def q86 (l m:List Nat):∀a,kbq a (l++m)=kbq (kbq a l) m:=by induction l <;> grind[kbq]
def kcE (l:List Nat):List UInt8:=l.map λd=>UInt8.ofNat (48+d)
def qcu (l:List Nat):∀(b:Nat),(∀a,a∈l->a<10)->kbq b l<18446744073709551616->parseUintM 18446744073709551615 b (kcE l)=.ok (kbq b l):=by induction l with|nil=>intro b _ _;rfl|cons a f h=>intro b d e;have i:a<10:=d a (List.mem_cons_self ..);have j:=qqc f (b*10+a);rw[kbq]at e⊢;have c:(UInt8.ofNat (48+a)).toNat=48+a:=(by rw[UInt8.toNat_ofNat'];omega);show parseUintM _ b (UInt8.ofNat (48+a) :: kcE f)=_;rw[parseUintM,c,if_pos cr,if_neg cr,if_neg cr,show 48+a - 48=a by omega];exact h _ (λc g=>d c (List.mem_cons_of_mem _ g)) e
def kbR (n:Nat):List Nat:=if _h:n<10 then [n] else kbR (n / 10)++[n % 10]
 termination_by n
 decreasing_by omega
def qq9 (n:Nat):kbq 0 (kbR n)=n/\(∀b,b∈kbR n->b<10)/\decDigits n=kcE (kbR n)/\kbR n≠[]:=by induction n using Nat.strongRecOn with|_ n ih=>by_cases c:n<10;{rw[kbR,dif_pos c,decDigits,dif_pos c];refine⟨by simp[kbq],λb a=>?_,rfl,cw⟩;rw[List.mem_singleton.1 a];exact c};obtain⟨d,e,f,-⟩:=ih (n / 10) cr;rw[kbR,dif_neg c,decDigits,dif_neg c];refine⟨?_,λb a=>?_,?_,cw⟩;{rw[q86,d];simp only[kbq];omega};{rcases List.mem_append.1 a with a | a;{exact e b a};rw[List.mem_singleton.1 a];omega};rw[f];simp[kcE]
def kfK (n:Nat):decDigits n≠[]:=by simp[kcE,qq9]
def qjn (n:Nat):∃a b,decDigits n=a :: b/\48<=a.toNat/\a.toNat<=57:=by obtain⟨-,c,a,d⟩:=qq9 n;match e:kbR n with|[]=>exact absurd e d|x :: b=>rw[a,e];have f:=c x (by rw[e];exact List.mem_cons_self ..);refine⟨UInt8.ofNat (48+x),kcE b,rfl,?_⟩;have:(UInt8.ofNat (48+x)).toNat=48+x:=(by rw[UInt8.toNat_ofNat'];omega);omega
def qhf {n:Nat}(d:n<18446744073709551616):parseUintB 64 (decDigits n)=.ok n:=by obtain⟨a,b,c,-⟩:=qq9 n;have:=qcu (kbR n) 0 b (by rw[a];exact d);rw[parseUintB,if_neg (kfK n),show 2 ^ 64 - 1=18446744073709551615 from rfl,c,this,a]
theorem qcv {n:Int}(d:-9223372036854775808<=n)(e:n<=9223372036854775807):parseIntB 64 (itoa n)=.ok n:=by have b:2 ^ (64 - 1)=9223372036854775808:=rfl;unfold itoa;split;{have:=qhf (n:=n.natAbs) cr;simp only[parseIntB,b];rw[if_pos (Or.inr cx),this];have a:(45:UInt8).toNat=45:=rfl;simp only[a,not_true_eq_false,false_and,if_false,true_and];rw[if_neg cr,if_pos trivial,show -(n.natAbs:Int)=n by omega]};have:=qhf (n:=n.toNat) cr;have⟨c,h,a,f,g⟩:=qjn n.toNat;rw[a]at this⊢;simp only[parseIntB,b];rw[if_neg cr,this];have:¬ c.toNat=45:=cr;simp only[this,not_false_eq_true,false_and,if_false,true_and];rw[if_neg cr,show(n.toNat:Int)=n by omega]
def I64 (n:Int):Prop:=-9223372036854775808<=n/\n<=9223372036854775807
def kbr (l:List UInt8):Option Int:=match parseIntB 64 l with
 | .ok n=>if itoa n=l then some n else none
 | _=>none
def q6n {n:Int}(a:I64 n):kbr (itoa n)=some n:=by grind[kbr,I64,qcv]
def q6o {l:List UInt8}(h:∀n,I64 n->itoa n≠l):kbr l=none:=by unfold kbr;split;{rename_i n hn;split;{rename_i e;have hb:=parseIntB_bounds hn;exact absurd e (h n (by have:(2:Nat) ^ (64 - 1)=9223372036854775808:=rfl;unfold I64;omega))};rfl};rfl
end
section
open Go Go.RowKit Go.Proofs.Tryz
def ui (l:List Nat):Tl:=l.map λu=>.int .i64 ((u:Nat):Int)
def q5k {w:Tw}{base n:Nat}{t:TypeId}{v:Value}{us:List Nat}(c:w.ownsRow base t 1 v n (ui us)):∃a b,v=.slice a n b/\kbG w a n (λa=>((us.getD a 0:Nat):Int)):=by have j:us.length=n:=(by have:=c.1;simpa [ui] using this);rcases c.2 with ⟨rfl,rfl⟩ | ⟨e,b,g,rfl,h,f,i,-,k,l⟩;{exact⟨none,0,rfl,λa d=>absurd d (nL _)⟩};refine⟨_,b,rfl,λa d=>⟨e,0,rfl,(Yo.1 f).1,?_⟩⟩;have:=c.cellAt a cr;rw[Y5,this];simp[ui,List.getD,List.getElem?_eq_getElem (show a<us.length by omega)]
def qcp {w:Tw}{base k n i:Nat}{t:TypeId}{v:Value}{x:Tl}(b:w.ownsRow base t k v n x)(a:v.ownBlock=some i):base<=i:=by rcases b.2 with ⟨rfl,-⟩ | ⟨e,c,d,rfl,f,-⟩;{simp[Value.ownBlock]at a};simp only[Value.ownBlock,Vc]at a;omega
def qhe (w:Tw)(t:TypeId):(w.alloc (.cells #[] t)).ownsRow w.1.size t 1 (.slice (some ⟨w.1.size,0,none⟩) 0 0) 0 [] :=
 ⟨rfl,.inr ⟨w.1.size,0,#[],rfl,nR _,heap_alloc_new w (.cells #[] t),nR _,nZ _,rfl,rfl⟩⟩
def kbh:(prog.info? 3).map (λa=>(a.zero,a.size,a.bytes))=some (some (Yb 0),1,8):=by kernel_rfl
def qjf (w:Tw)(t:TypeId)(v:Value):∀(b:Nat) (a:Value),[v][b]? = some a->(w.alloc (.cells #[v] t)).cell? ((⟨w.1.size,0,none⟩:Addr).add b)=some a:=λb a a=>by match b,a with|0,a=>simp at a;subst a;exact(Blk.new w t #[v]).cell 0
def qm2 (w:Tw)(t:TypeId)(v:Value):(w.alloc (.cells #[v] t)).ownsRow w.1.size t 1 (.slice (some ⟨w.1.size,0,none⟩) 1 1) 1 [v] :=
 ⟨rfl,.inr ⟨w.1.size,1,#[v],rfl,nR _,heap_alloc_new w (.cells #[v] t),nR _,by unfold maxLen;omega,rfl,rfl⟩⟩
def kaO (w:Tw)(v:Value)(l:List Nat):Prop:=∃a cap,v=.slice a l.length cap/\l.length<=cap/\(a=none->cap=0)/\kbG w a l.length (λk=>((l.getD k 0:Nat):Int))
def kaO.mono {w w':Tw}{v:Value}{l:List Nat}(d:kaO w v l)(e:Bw w w'):kaO w' v l:=by have⟨a,b,c,f,h,g⟩:=d;exact⟨a,b,c,f,h,g.mono e⟩
def q57 {w:Tw}{base:Nat}{t:TypeId}{v:Value}{us:List Nat}(a:w.ownsRow base t 1 v us.length (ui us)):kaO w v us:=by rcases a.2 with ⟨rfl,c⟩ | ⟨i,f,h,rfl,j,l,k,-,m,n⟩;{exact⟨none,0,by rw[c],cr,λ_=>rfl,λb b=>absurd b cr⟩};have⟨e,g,b,d⟩:=q5k a;simp only[Value.slice.injEq]at b;obtain⟨rfl,-,rfl⟩:=b;exact⟨_,_,rfl,cr,(λa=>by cases a),d⟩
def qcs {w:Tw}{base n b:Nat}{t:TypeId}{v:Value}{x:Tl}(a:w.ownsRow base t 1 v n x)(p:b<base)(j:Nat)(u:Value):(w.setCell ⟨b,j,none⟩ u).ownsRow base t 1 v n x:=by rcases a.2 with g | ⟨c,d,e,f,h,k,i,o,l,m⟩;{exact⟨a.1,.inl g⟩};exact⟨a.1,.inr ⟨c,d,e,f,h,(heap_setCell_other w ⟨b,j,none⟩ c u cz).trans k,i,o,l,m⟩⟩
def qnn (y:Int):(y.tmod 10<0->-(y.tmod 10)=((y.natAbs % 10:Nat):Int))/\(¬ y.tmod 10<0->y.tmod 10=((y.natAbs % 10:Nat):Int)):=by grind
def qnk (y:Int):(y.tdiv 10).natAbs=y.natAbs / 10:=by grind
def q3r (x:Int)(w:Tw)(a:-9223372036854775808<=x)(b:x<=9223372036854775807):Calls prog 212 #[Yb x] w λj h=>∃d,j=.returned (.agg #[.bool (decide (x<0)),d])/\kaO h d (kab x.natAbs)/\Bw w h:=by have D:=h_ (And.intro a b);clear a b;go_enter func212,ntmps212;go_wp2;have e:Hi (((w.alloc (.cells Jk 264)).alloc (.cells #[] 3)).ownsRow (w.alloc (.cells Jk 264)).1.size 3 1 (.slice (some ⟨(w.alloc (.cells Jk 264)).1.size,0,none⟩) 0 0) 0 []):=qhe _ _;have b:Hi (Below (w.1.size+1) (w.alloc (.cells Jk 264)) ((w.alloc (.cells Jk 264)).alloc (.cells #[] 3))):=(bR _ _).alloc cw _;have k:Hi (Bw w (w.alloc (.cells Jk 264))):=(bR _ _).alloc (nR _) _;have l:=h_ (Blk.new w 264 Jk);have K:(w.alloc (.cells Jk 264)).1.size=w.1.size+1:=cw;rw[K]at e;generalize (w.alloc (.cells Jk 264))=J at *;go_loopw [0,3] (λf d wr=>∃(a:Int) (c:List Nat),f=Yb a/\-9223372036854775808<=a/\a<=9223372036854775807/\c++kab a.natAbs=kab x.natAbs/\wr.ownsRow (w.1.size+1) 3 1 d c.length (ui c)/\Below (w.1.size+1) J wr) (λf _ _=>(intOf f).natAbs);exact⟨x,[],rfl,D.1,D.2,rfl,e,b⟩;clear e b;obtain⟨a,c,rfl,f,m,g,e,d⟩:=hrel;have N:c.length+(kab a.natAbs).length<=19:=(by have i:=congrArg List.length g;have o:(kab x.natAbs).length<=19:=q26 (by have:=D.u;omega);simp at i;omega);have i:=h_ (And.intro f m);clear f m;have⟨r,f,b⟩:=oC g e d;clear g e d;by_cases L:a=0;{subst L;have g:=r.u;simp only[Int.natAbs_zero,qfc,Gn]at g;subst g;have d:=l.mono b (Z2 _);have e:=h_ (k.trans (b.mono cr));have m:=d.cell 0;have o:=d.cell 1;have p:=d.free 0;have q:=d.free 1;simp only[Yw,Yi]at m o;clear d r b l k;obtain⟨d,c3,rfl,-⟩:=q5k f;go_wp2;refine bQ (v:=.agg (Jv (decide (x<0)) d (kab x.natAbs).length c3)) ⟨_,rfl,?_,?_⟩;{exact q57 (qcs (qcs f (Z2 _) _ _) (Z2 _) _ _)};exact(e.setCell cw _).setCell cw _};have⟨F,G⟩:=qnn a;have t:=qnk a;have y:=qjr (n:=a.natAbs) cr;have s:Hi (wrap64 (a.tdiv 10)=a.tdiv 10):=(by have:=i.u;rw[Hi];unfold wrap64;omega);by_cases I:a.tmod 10<0;{have e:wrap64 (-(a.tmod 10))=((a.natAbs % 10:Nat):Int):=(by have:=F I;unfold wrap64;omega);have⟨d,B,A⟩:=oC t y e;clear t y e F G;have⟨E,m,o,p,q⟩:=info_parts kbh;go_wp2_with (at_builtin;refine wpList_append_own _ rfl _ _ 89 rfl (w.1.size+1) 3 E _ 1 8 underlying89 m o p q rfl cr u3 _ _ rfl (f.alloc _) ⟨wr.1.size,0,none⟩ 1 1 [Yb (wrap64 (-(a.tmod 10)))] rfl rfl (qjf wr 3 _) cG cE cr dq ?_);intro H h e l _;have k:=(b.alloc (by have:=b.size;omega) (.cells #[Yb (wrap64 (-(a.tmod 10)))] 3)).grown l dq (λM j=>qcp f j);have C:Hi (h.ownsRow (w.1.size+1) 3 1 H (c++[a.natAbs % 10]).length (ui (c++[a.natAbs % 10]))):=(by rw[Hi];rw[A.u]at e;simpa [ui] using e);have z:=h_ k;clear e l k m o p q;go_wp2;go_roundw;{refine⟨a.tdiv 10,c++[a.natAbs % 10],congrArg _ s,?_,?_,?_,C,z⟩;{have:=i.u;have:=d.u;omega};{have:=i.u;have:=d.u;omega};rw[d.u,V8,List.singleton_append,<- B.u];exact r};simp only[intOf];rw[s.u];have:=d.u;omega};have⟨d,B,A⟩:=oC t y (G I);clear t y F G;have⟨E,m,o,p,q⟩:=info_parts kbh;go_wp2_with (at_builtin;refine wpList_append_own _ rfl _ _ 89 rfl (w.1.size+1) 3 E _ 1 8 underlying89 m o p q rfl cr u3 _ _ rfl (f.alloc _) ⟨wr.1.size,0,none⟩ 1 1 [Yb (a.tmod 10)] rfl rfl (qjf wr 3 _) cG cE cr dq ?_);intro H h e l _;have k:=(b.alloc (by have:=b.size;omega) (.cells #[Yb (a.tmod 10)] 3)).grown l dq (λM j=>qcp f j);have C:Hi (h.ownsRow (w.1.size+1) 3 1 H (c++[a.natAbs % 10]).length (ui (c++[a.natAbs % 10]))):=(by rw[Hi];rw[A.u]at e;simpa [ui] using e);have z:=h_ k;clear e l k m o p q;go_wp2;go_roundw;{refine⟨a.tdiv 10,c++[a.natAbs % 10],congrArg _ s,?_,?_,?_,C,z⟩;{have:=i.u;have:=d.u;omega};{have:=i.u;have:=d.u;omega};rw[d.u,V8,List.singleton_append,<- B.u];exact r};simp only[intOf];rw[s.u];have:=d.u;omega
