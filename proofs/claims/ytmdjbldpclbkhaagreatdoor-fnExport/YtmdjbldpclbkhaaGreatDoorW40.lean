import Derived.Test.YtmdjbldpclbkhaaGreatDoorW37
set_option linter.all false
namespace Go.Proofs.YtmdjbldpclbkhaaGreatDoor
open Value renaming slice->Sl,string->St,bool->Bo
open Obj renaming cells->Cl
open Ending renaming returned->Rt
open Go Go.RowKit Go.Proofs.Tryz
variable {n k i j q:Nat}{t:TypeId}{v:Value}{x y:Tl}{a:To}
def kdw.rng {w:Tw}{b o:Nat}{g:Fl}{c:FA}(d:kdw w b o g c):w.rangeAt b o (fCs g c):=λq a a=>by obtain⟨-,e,f,h,i,j,k,l,n,p⟩:=d;match q,a with|0,a=>cases a;exact e|1,a=>cases a;exact f|2,a=>cases a;exact h|3,a=>cases a;exact i|4,a=>cases a;exact j|5,a=>cases a;exact k|6,a=>cases a;exact l|7,a=>cases a;exact n|8,a=>cases a;exact p|_+9,a=>cases a
def Blk.rng {w:Tw}{g:Nat}{cs:Tl}(a:Blk w g t cs):w.rangeAt g 0 cs:=λc b b=>by rw[Zu];exact(a.cell c).trans b
def qps (a:j<n):n - (intOf (Yf ((j:Int)+1))).toNat<n - (intOf (Yf (j:Int))).toNat:=by simp[intOf];omega
section
variable {R:Nat} {m:Fm} {P:List (Fl × FA)} {v1 v2 v3 v4:Value} {w W W':Tw}
def Blk.grow {base e size:Nat}{cs:Tl}(a:Blk W q t cs)(f:W.ownsRow base e size v n x)(c:e≠t)(d:W.grownBy W' v.ownBlock):Blk W' q t cs:=(d.block _ a.lt (λb=>qjo f a c b.symm)).trans a
def MMk.setP (a:MMk R m P v1 v2 v3 v4 w W){l:List (Int × Int)}{v':Value}(c:OwP W w.1.size v' l):MMk R { m with P:=l } P v1 v' v3 v4 w (W.setCell ⟨R,1,none⟩ v'):=by have b:=a.hR;have d:OwM W w.1.size v1 v' v3 v4 { m with P:=l } P:=⟨a.ow.l,c,a.ow.r,a.ow.f,a.ow.e⟩;exact⟨a.bx.set 1 _,d.formSet a.bx 1 _,a.bl.setCell (show w.1.size<=R by omega) _,a.r0.other _ (show w.1.size≠R by omega),b⟩
def MMk.setF (a:MMk R m P v1 v2 v3 v4 w W){b:List (Fl × FA)}{v':Value}(d:OwF W w.1.size v' b):MMk R { m with F:=b.map (·.1) } b v1 v2 v3 v' w (W.setCell ⟨R,3,none⟩ v'):=by have c:=a.hR;have e:OwM W w.1.size v1 v2 v3 v' { m with F:=b.map (·.1) } b:=⟨a.ow.l,a.ow.p,a.ow.r,d,rfl⟩;exact⟨a.bx.set 3 _,e.formSet a.bx 3 _,a.bl.setCell (show w.1.size<=R by omega) _,a.r0.other _ (show w.1.size≠R by omega),c⟩
def MMk.rowF (a:MMk R m P v1 v2 v3 v4 w W){b:List (Fl × FA)}{v':Value}(e:OwF W w.1.size v' b):MMk R { m with F:=b.map (·.1) } b v1 v2 v3 v' w (W.setRow R #[v1,v2,v3,v']):=by have c:=a.hR;have g:OwM W w.1.size v1 v2 v3 v' { m with F:=b.map (·.1) } b:=⟨a.ow.l,a.ow.p,a.ow.r,e,rfl⟩;exact⟨a.bx.row [v1,v2,v3,v'],g.one a.bx fS fS fS fS fS fS (λf d=>setRow_other W R f #[v1,v2,v3,v'] d),below_setRow a.bl (show w.1.size<=R by omega) _,a.r0.row_other (show w.1.size≠R by omega) _,c⟩
section
variable {K:Int->List Tb} {B:Nat} {z1 z2 z3:Value}
def Kpt.blk (d:Kpt z1 z2 z3 W W')(b:kbo K W B z1 z2 z3){cs:Tl}(a:Blk W q t cs)(c:9≠t):Blk W' q t cs :=
 (d.block q a.lt (qjo b.r1 a c) (qjo b.r2 a c) (qjo b.r3 a c)).trans a
def qgi {base e size base':Nat}{v':Value}(c:W.ownsRow base e size v n x)(d:W.ownsRow base' k i v' j y)(g:e≠k)(b:v.ownBlock=some q):v'.ownBlock≠some q:=λf=>by rcases qeu c d g with a | a;{rw[a]at b;cases b};exact a (b.trans f.symm)
def Kpt.own (f:Kpt z1 z2 z3 W W')(d:kbo K W B z1 z2 z3){base e size:Nat}(a:W.ownsRow base e size v n x)(c:e≠9):W'.ownsRow base e size v n x :=
 qqh a λg b=>f.block g (qqg a b) (qgi a d.r1 c b) (qgi a d.r2 c b) (qgi a d.r3 c b)
def Kpt.low (h:Kpt z1 z2 z3 W W')(b:kbo K W B z1 z2 z3){base e size:Nat}(f:W.ownsRow base e size v n x)(i:∀a,v.ownBlock=some a->a<B):W'.ownsRow base e size v n x := qqh f λa d=>by have k:=i a d;have c:∀{g:Value} {j:List Tb},kct W B g j->g.ownBlock≠some a:=λj g=>(by have:=qao j g;omega);exact h.block a (qqg f d) (c b.r1) (c b.r2) (c b.r3)
def Kpt.below (a:Kpt z1 z2 z3 W W')(b:kbo K W B z1 z2 z3)(g:B<=W.1.size):Below B W W' :=
 ⟨a.os,a.tape,a.output,a.size,λd c=>by
  have c:∀{e:Value} {f:List Tb},kct W B e f->e.ownBlock≠some d:=λf e=>by have:=qao f e;omega
  exact a.block d fP (c b.r1) (c b.r2) (c b.r3)⟩
def FOw.kpt (a:Kpt z1 z2 z3 W W')(c:kbo K W B z1 z2 z3){base:Nat}{g:Fl}{e:FA}(d:FOw W base g e):FOw W' base g e :=
 ⟨a.own c d.b fS,a.own c d.i fS,a.own c d.h fS,a.own c d.v fS,a.own c d.u fS⟩
def MMk.kpt (a:MMk R m P v1 v2 v3 v4 w W)(b:Kpt z1 z2 z3 W W')(c:kbo K W B z1 z2 z3)(g:B<=W.1.size)(i:w.1.size<=B)(h:∀d,v1.ownBlock=some d->d<B):MMk R m P v1 v2 v3 v4 w W' :=
 ⟨b.blk c a.bx fS,⟨b.low c a.ow.l h,b.own c a.ow.p fS,b.own c a.ow.r fS,⟨b.own c a.ow.f.row fS,λj d=>FOw.kpt b c (a.ow.f.sub j d)⟩,a.ow.e⟩,a.bl.trans ((b.below c g).mono i),b.blk c a.r0 fS,a.hR⟩
def kbo.grow (a:kbo K W B z1 z2 z3){base e size:Nat}(d:W.ownsRow base e size v n x)(b:9≠e)(c:W.grownBy W' v.ownBlock):kbo K W' B z1 z2 z3 :=
 ⟨a.r1.kept c (qeu a.r1 d b),a.r2.kept c (qeu a.r2 d b),a.r3.kept c (qeu a.r3 d b),a.a12,a.a13,a.a23⟩
def kbo.one (a:kbo K W B z1 z2 z3){g:Nat}{cs:Tl}(b:Blk W g t cs)(d:9≠t)(c:∀e,e≠g->W'.heap[e]? = W.heap[e]?):kbo K W' B z1 z2 z3 :=
 ⟨qqk a.r1 b d c,qqk a.r2 b d c,qqk a.r3 b d c,a.a12,a.a13,a.a23⟩
def kbo.nil (d:∀a,K a=[]):kbo K W B Yg Yg Yg:=by have b:∀a,kct W B Yg (K a):=λa=>(by rw[d a];exact World.ownsRow_nil _ _ _ _);exact⟨b 1,b 2,b 3,λc a=>gZ,λc a=>gZ,λc a=>gZ⟩
def kbo.slices (a:kbo K W B z1 z2 z3):∃h e b i f c j g d,z1=Sl h e b/\z2=Sl i f c/\z3=Sl j g d:=by obtain⟨h,b,e,-,-⟩:=a.r1.strs;obtain⟨i,c,f,-,-⟩:=a.r2.strs;obtain⟨j,d,g,-,-⟩:=a.r3.strs;exact⟨_,_,_,_,_,_,_,_,_,e,f,g⟩
def kbo.pick (a:kbo K W B z1 z2 z3):kbF K W (.agg #[z1,z2,z3]):=by obtain⟨h,e,rfl,-,b⟩:=a.r1.strs;obtain⟨i,f,rfl,-,c⟩:=a.r2.strs;obtain⟨j,g,rfl,-,d⟩:=a.r3.strs;exact⟨_,_,_,_,_,_,_,_,_,rfl,⟨rfl,b⟩,⟨rfl,c⟩,rfl,d⟩
def kbo.low (b:kbo K W B z1 z2 z3):(∀a,z1.ownBlock=some a->a<W.1.size)/\(∀a,z2.ownBlock=some a->a<W.1.size)/\∀a,z3.ownBlock=some a->a<W.1.size:=⟨λ_ a=>qqg b.r1 a,λ_ a=>qqg b.r2 a,λ_ a=>qqg b.r3 a⟩
def q9u (t:Int)(f:t=1∨t=2∨t=3)(x:Tb)(c:∀a,(K a).length<=100000)(a:kbo K W B z1 z2 z3)(b:B<=W.1.size):Calls prog 54 #[.agg #[z1,z2,z3],Yf t,St x] W λe d=>∃u1 u2 u3,e=Rt (.agg #[u1,u2,u3])/\kbo (kca K t x) d B u1 u2 u3/\Kpt z1 z2 z3 W d:=by rcases f with rfl | rfl | rfl;{exact qim K x W B z1 z2 z3 (c 1) a b};{exact qin K x W B z1 z2 z3 (c 2) a b};exact qio K x W B z1 z2 z3 (c 3) a b
end
def q1n {w:Tw}{g:Nat}{a:Addr}(b:Ta)(c:a.block≠g):(w.setRow g b).cell? a=w.cell? a:=by unfold World.cell?;rw[setRow_other _ _ _ _ c]
def kgH {w:Tw}{base c:Nat}{l:List Int}(b:OwI w base (Sl a n c) l)(d:n=l.length):kc6 w a l:=by subst d;exact qoq b
structure En4 (tys:List Int)(KA KB:Int->List Tb)(B B4:Nat)(vt u1 u2 u3 z1 z2 z3:Value)(W:Tw):Prop where
 ty:OwI W B vt tys
 ab:Blk W (B+1) 109 [u1,u2,u3]
 ak:kbo KA W B u1 u2 u3
 bb:Blk W B4 109 [z1,z2,z3]
 bk:kbo KB W B4 z1 z2 z3
 lo:B+1<B4
 l1:∀q,u1.ownBlock=some q->q<B4
 l2:∀q,u2.ownBlock=some q->q<B4
 l3:∀q,u3.ownBlock=some q->q<B4
section
variable {tys:List Int} {KA KB KB':Int->List Tb} {B B4:Nat} {vt u1 u2 u3 z1 z2 z3 y1 y2 y3:Value}
def En4.mono (a:En4 tys KA KB B B4 vt u1 u2 u3 z1 z2 z3 W)(b:Bw W W'):En4 tys KA KB B B4 vt u1 u2 u3 z1 z2 z3 W' :=
 ⟨qeo a.ty b,a.ab.mono b a.ab.lt,a.ak.keep b,a.bb.mono b a.bb.lt,a.bk.keep b,a.lo,a.l1,a.l2,a.l3⟩
def En4.grow (a:En4 tys KA KB B B4 vt u1 u2 u3 z1 z2 z3 W){base size:Nat}(c:W.ownsRow base 73 size v n x)(b:W.grownBy W' v.ownBlock):En4 tys KA KB B B4 vt u1 u2 u3 z1 z2 z3 W' :=
 ⟨a.ty.kept b (qeu a.ty c fS),a.ab.grow c fS b,a.ak.grow c fS b,a.bb.grow c fS b,a.bk.grow c fS b,a.lo,a.l1,a.l2,a.l3⟩
def En4.one (a:En4 tys KA KB B B4 vt u1 u2 u3 z1 z2 z3 W){cs:Tl}(c:Blk W R 28 cs)(b:∀d,d≠R->W'.heap[d]? = W.heap[d]?)(d:B+1≠R)(e:B4≠R):En4 tys KA KB B B4 vt u1 u2 u3 z1 z2 z3 W' :=
 ⟨qqk a.ty c fS b,(b _ d).trans a.ab,a.ak.one c fS b,(b _ e).trans a.bb,a.bk.one c fS b,a.lo,a.l1,a.l2,a.l3⟩
def En4.kpt (a:En4 tys KA KB B B4 vt u1 u2 u3 z1 z2 z3 W)(b:Kpt z1 z2 z3 W W')(hy:kbo KB' W' B4 y1 y2 y3):En4 tys KA KB' B B4 vt u1 u2 u3 y1 y2 y3 (W'.setRow B4 #[y1,y2,y3]):=by have c:=b.blk a.bk a.bb fS;have f:=a.lo;have e:∀d,d≠B4->(W'.setRow B4 #[y1,y2,y3]).heap[d]? = W'.heap[d]?:=λd d=>setRow_other _ _ _ _ d;have d:kbo KA W' B u1 u2 u3:=⟨b.low a.bk a.ak.r1 a.l1,b.low a.bk a.ak.r2 a.l2,b.low a.bk a.ak.r3 a.l3,a.ak.a12,a.ak.a13,a.ak.a23⟩;exact⟨qqk (b.own a.bk a.ty fS) c fS e,(e _ fP).trans (b.blk a.bk a.ab fS),d.one c fS e,c.row [y1,y2,y3],hy.one c fS e,f,a.l1,a.l2,a.l3⟩
def En4.at (d:En4 tys KA KB B B4 vt u1 u2 u3 z1 z2 z3 W){x:To}{c:Nat}(f:vt=Sl x tys.length c)(e:k<tys.length):∃a b,x=some ⟨a,b,none⟩/\a<W.1.size/\W.cell? ⟨a,b+k,none⟩=some (Yf (tys.getD k 0)):=by have:=d.ty;rw[f]at this;exact qoq this k e
def MMk.four (d:MMk R m P v1 v2 v3 v4 w W)(c:Kpt z1 z2 z3 W W')(a:kbo KB W B4 z1 z2 z3)(g:B4<=W.1.size)(l:w.1.size<B4)(j:∀b,v1.ownBlock=some b->b<B4)(f:Blk W B4 109 [u1,u2,u3])(cs:Ta)(h:B4≠R):MMk R m P v1 v2 v3 v4 w (W'.setRow B4 cs):=by have b:=d.kpt c a g fP j;have e:=c.blk a f fS;have i:=d.hR;exact⟨b.bx.row_other (Ne.symm h) _,b.ow.one e fS fS fS fS fS fS (λk a=>setRow_other W' B4 k cs a),below_setRow b.bl fP _,b.r0.row_other fP _,i⟩
end
def qke {c:Type}(l:List c)(d:j<l.length):l.reverse.take (l.length - j)=l.reverse.take (l.length - (j+1))++[l[j]]:=by have a:l.length - j=(l.length - (j+1))+1:=fP;rw[a,O0];congr 1;have b:l.length - (j+1)<l.reverse.length:=(by rw[Zo];omega);rw[Yn b,List.getElem_reverse];simp only[Option.toList_some,Oz,and_true];congr 1;omega
def kc6.other {l:List Int}(f:kc6 W a l){cs:Tl}(g:Blk W R 28 cs)(h:∀(c:Nat) (b:Int),cs[c]?≠some (Value.int .i64 b))(i:∀b,b≠R->W'.heap[b]? = W.heap[b]?)(o:W.1.size<=W'.1.size):kc6 W' a l:=λb j=>by obtain⟨c,k,e,n,d⟩:=f b j;have j:c≠R:=λb=>(by subst b;rw[g.cell]at d;exact h _ _ d);refine⟨c,k,e,fP,?_⟩;rw[<- d];unfold World.cell?;rw[i c j]
def qo4 (c d e f:To)(g h i j c1 c2 c3 c4:Nat):∀(b:Nat) (a:Int),[Value.slice c g c1,Sl d h c2,Sl e i c3,Sl f j c4][b]?≠some (Yf a):=λb a a=>by match b,a with|0,a=>cases a|1,a=>cases a|2,a=>cases a|3,a=>cases a|_+4,a=>cases a
end
