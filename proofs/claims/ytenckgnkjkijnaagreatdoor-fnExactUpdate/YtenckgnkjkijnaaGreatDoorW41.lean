import Derived.Test.YtenckgnkjkijnaaGreatDoorW38
import Derived.Test.YtenckgnkjkijnaaGreatDoorW36
import Derived.Shelf.Lay
set_option linter.all false
namespace Go.Proofs.YtenckgnkjkijnaaGreatDoor
open Go Go.RowKit Go.Proofs.Tryz
structure khm (w:Tw)(a:To)(m:Nat)(f:Nat->Vx):Prop where
 v:kaH w a m f
 s:∀i,i<m->(f i).s.size<=9223372036854775807
 r:∀i,i<m->-9223372036854775808<=(f i).n/\(f i).n<=9223372036854775807
 ok:kb9 f m=true
 g:kcx w
def khm.t {w:Tw}{a:To}{m:Nat}{f:Nat->Vx}(b:khm w a m f)(i:Nat)(hi:i<m)(d:(f i).k=3):(f i).s.size<=1000:=kcZ (qed.1 b.ok i hi) d
def khn {W:Tw}{a:To}{m:Nat}{f:Nat->Vx}(e:kaH W a m f)(o:2<m):∃b d,a=some ⟨b,d,none⟩/\Cel W b d (f 0)/\Cel W b (d+3) (f 1)/\Cel W b (d+6) (f 2):=by obtain⟨b,d,rfl,i⟩:=e 0 cr;obtain⟨l,p,g,j⟩:=e 1 cr;obtain⟨n,q,h,k⟩:=e 2 cr;simp only[Vc,Addr.mk.injEq,and_true]at g h;obtain⟨rfl,rfl⟩:=g;obtain⟨rfl,rfl⟩:=h;exact⟨b,d,rfl,dI,dx,by simpa using k⟩
section
variable {a:To} {c:Nat} {f:Nat->Vx} {w:Tw}
def oE (n h i m:Nat){A:Bool}{R:Vx}(e:khm w a m f)(t:kaD n m f A R=apY n m f)(j:Ent h)(l:Ent i) (p:∀b,kaH b a m f->Gv h #[.slice a m c] b (.bool A)) (q:(mE n=false->∀d,d<m->¬ (f d).k=4)->(mBk n=false->∀d,d<m->¬ (f d).k=0)->A=true->∀b,kaH b a m f->kcx b->Gv i #[.slice a m c] b (vv R)) (y:m<=3:=by decide) (s:2<=n/\n<=25:=by exact⟨by decide,cx⟩) (r:opT[n*2]? = some (.func (.func h) #[] #[])/\opT[n*2+1]? = some (.func (.func i) #[] #[]):=by exact⟨rfl,rfl⟩):Gv 174 (Jo n a m c) w (vv (apY n m f)):=by rw[<- t];exact q9c n h i a m c f A R w cr e.v s r j l (λb d=>p b (e.v.mono d)) (λu x o b d=>q u x o b (e.v.mono d) (e.g.mono d))
def d1 {k:FuncId}{P:Ending->Tw->Prop}{W:Tw}(h:kaH W a 1 f)(e:∀b d,Cel W b d (f 0)->Calls prog k #[.slice (some ⟨b,d,none⟩) 1 c] W P):Calls prog k #[.slice a 1 c] W P:=by obtain⟨b,d,rfl,g⟩:=kej h cx;exact e b d g
def d2 {k:FuncId}{P:Ending->Tw->Prop}{W:Tw}(i:kaH W a 2 f)(e:∀b d,Cel W b d (f 0)->Cel W b (d+3) (f 1)->Calls prog k #[.slice (some ⟨b,d,none⟩) 2 c] W P):Calls prog k #[.slice a 2 c] W P:=by obtain⟨b,d,rfl,g,h⟩:=kgs i cx;exact e b d g h
end
def q9b (u:Int)(a:To)(m c:Nat)(f:Nat->Vx)(w:Tw)(C:2<=u/\u<=25)(B:(m:Int)=opn u)(g:khm w a m f) :
 Gv 174 (Jo u a m c) w (vv (apY u m f)):=by
 obtain⟨l,rfl⟩:∃l:Nat,u=l:=⟨u.toNat,cr⟩;have o:∀(d b:Nat),l=d->opn d=b->m=b:=λd b e b=>by subst e;omega
 by_cases e:l=2
 . obtain rfl:=o 2 1 e cx
   subst e;exact oE 2 253 254 1 g st_2 (Go.Proofs.enters_of func253 cu rfl) (Go.Proofs.enters_of func254 cu rfl) (λb d=>q7d a 1 c f b cx d) λ_ _ _ b d n=>d1 d λh j i=>q4a h j 1 c (f 0) b cx (g.r 0 cx) i
 by_cases e:l=3
 . obtain rfl:=o 3 1 e cx
   subst e;exact oE 3 255 256 1 g st_3 (Go.Proofs.enters_of func255 cu rfl) (Go.Proofs.enters_of func256 cu rfl) (λb d=>q4u a 1 c f b cx d) λ_ _ _ b d n=>d1 d λh j i=>q73 h j 1 c (f 0) b cx i
 by_cases e:l=4
 . obtain rfl:=o 4 2 e cx
   subst e;exact oE 4 253 257 2 g st_4 (Go.Proofs.enters_of func253 cu rfl) (Go.Proofs.enters_of func257 cu rfl) (λb d=>q7d a 2 c f b cx d) λ_ _ _ b d n=>d2 d λh j i k=>q11 h j 2 c (f 0) (f 1) b cx (g.r 0 cx) (g.r 1 cx) i k
 by_cases e:l=5
 . obtain rfl:=o 5 2 e cx
   subst e;exact oE 5 253 258 2 g st_5 (Go.Proofs.enters_of func253 cu rfl) (Go.Proofs.enters_of func258 cu rfl) (λb d=>q7d a 2 c f b cx d) λ_ _ _ b d n=>d2 d λh j i k=>q27 h j 2 c (f 0) (f 1) b cx (g.r 0 cx) (g.r 1 cx) i k
 by_cases e:l=6
 . obtain rfl:=o 6 2 e cx
   subst e;exact oE 6 253 259 2 g (st_6 (g.r 0 cx)) (Go.Proofs.enters_of func253 cu rfl) (Go.Proofs.enters_of func259 cu rfl) (λb d=>q7d a 2 c f b cx d) λ_ _ _ b d n=>d2 d λh j i k=>q05 h j 2 c (f 0) (f 1) b cx (g.r 0 cx) (g.r 1 cx) i k
 by_cases e:l=7
 . obtain rfl:=o 7 2 e cx
   subst e;exact oE 7 253 260 2 g st_7 (Go.Proofs.enters_of func253 cu rfl) (Go.Proofs.enters_of func260 cu rfl) (λb d=>q7d a 2 c f b cx d) λ_ _ _ b d n=>d2 d λh j i k=>q7a h j 2 c (f 0) (f 1) b cx (g.r 0 cx) (g.r 1 cx) i k
 by_cases e:l=8
 . obtain rfl:=o 8 2 e cx
   subst e;exact oE 8 253 261 2 g st_8 (Go.Proofs.enters_of func253 cu rfl) (Go.Proofs.enters_of func261 cu rfl) (λb d=>q7d a 2 c f b cx d) λ_ _ _ b d n=>d2 d λh j i k=>q13 h j 2 c (f 0) (f 1) b cx (g.r 0 cx) (g.r 1 cx) i k
 by_cases e:l=9
 . obtain rfl:=o 9 2 e cx
   subst e;exact oE 9 262 263 2 g st_9 (Go.Proofs.enters_of func262 cu rfl) (Go.Proofs.enters_of func263 cu rfl) (λb d=>q4w a 2 c f b cx d) λ_ _ v b d n=>d2 d λh j i k=>q3k h j 2 c (f 0) (f 1) b cx ⟨(g.t 0 cx (qo6 v cx)),(g.t 1 cx (qo6 v cx))⟩ i k
 by_cases e:l=10
 . obtain rfl:=o 10 2 e cx
   subst e;exact oE 10 264 265 2 g (kik g.ok) (Go.Proofs.enters_of func264 cu rfl) (Go.Proofs.enters_of func265 cu rfl) (λb d=>q4t a 2 c f b cx d) λ_ _ _ b d n=>d2 d λh j i k=>q4v h j 2 c (f 0) (f 1) b cx i k
 by_cases e:l=11
 . obtain rfl:=o 11 2 e cx
   subst e;exact oE 11 264 266 2 g (kil g.ok) (Go.Proofs.enters_of func264 cu rfl) (Go.Proofs.enters_of func266 cu rfl) (λb d=>q4t a 2 c f b cx d) λ_ _ _ b d n=>d2 d λh j i k=>q0s h j 2 c (f 0) (f 1) b cx i k
 by_cases e:l=12
 . obtain rfl:=o 12 2 e cx
   subst e;exact oE 12 267 268 2 g kim (Go.Proofs.enters_of func267 cu rfl) (Go.Proofs.enters_of func268 cu rfl) (λb d=>q0c a 2 c f b cx d) λ_ _ _ b d n=>d2 d λh j i k=>qbm h j 2 c (f 0) (f 1) b cx i k
 by_cases e:l=13
 . obtain rfl:=o 13 2 e cx
   subst e;exact oE 13 267 269 2 g kin (Go.Proofs.enters_of func267 cu rfl) (Go.Proofs.enters_of func269 cu rfl) (λb d=>q0c a 2 c f b cx d) λ_ _ _ b d n=>d2 d λh j i k=>q0l h j 2 c (f 0) (f 1) b cx i k
 by_cases e:l=14
 . obtain rfl:=o 14 2 e cx
   subst e;exact oE 14 270 271 2 g (kiy g.ok) (Go.Proofs.enters_of func270 cu rfl) (Go.Proofs.enters_of func271 cu rfl) (λb d=>q01 a 2 c f b cx d) λ_ _ _ b d n=>q17 a 2 c f b cx d
 by_cases e:l=15
 . obtain rfl:=o 15 2 e cx
   subst e;exact oE 15 270 272 2 g (kiz g.ok) (Go.Proofs.enters_of func270 cu rfl) (Go.Proofs.enters_of func272 cu rfl) (λb d=>q01 a 2 c f b cx d) λ_ _ _ b d n=>q3j a 2 c f b cx d
 by_cases e:l=16
 . obtain rfl:=o 16 3 e cx
   subst e;exact oE 16 273 274 3 g (kix g.ok) (Go.Proofs.enters_of func273 cu rfl) (Go.Proofs.enters_of func274 cu rfl) (λb d=>by
    obtain⟨h,j,rfl,i,-⟩:=khn d cx;exact(q04 h j 3 c (f 0) b cx i).mono λ_ _ ⟨p,q⟩=>⟨p,by rw[q];exact bR _ _⟩) λ_ _ _ b d n=>by
    obtain⟨h,j,rfl,i,k,z⟩:=khn d cx;by_cases y:(f 0).k=2
    . obtain⟨A,x⟩:=keO (qed.1 g.ok 0 cx) y
      cases A
      . rw[show keP (f 0) (f 1) (f 2)=f 2 by rw[x];rfl]
        exact q12 h j 3 c (f 0) (f 2) b cx x i z
      . rw[show keP (f 0) (f 1) (f 2)=f 1 by rw[x];rfl]
        exact q1u h j 3 c (f 0) (f 1) b cx x i k
    . rw[show keP (f 0) (f 1) (f 2)=f 0 by rw[keP,Yu y]]
      exact q1t h j 3 c (f 0) b cx y i
 by_cases e:l=17
 . obtain rfl:=o 17 2 e cx
   subst e;exact oE 17 253 275 2 g kio (Go.Proofs.enters_of func253 cu rfl) (Go.Proofs.enters_of func275 cu rfl) (λb d=>q7d a 2 c f b cx d) λ_ _ _ b d n=>d2 d λh j i k=>q30 h j 2 c (f 0) (f 1) b cx i k
 by_cases e:l=18
 . obtain rfl:=o 18 2 e cx
   subst e;exact oE 18 253 276 2 g kip (Go.Proofs.enters_of func253 cu rfl) (Go.Proofs.enters_of func276 cu rfl) (λb d=>q7d a 2 c f b cx d) λ_ _ _ b d n=>d2 d λh j i k=>q40 h j 2 c (f 0) (f 1) b cx i k
 by_cases e:l=19
 . obtain rfl:=o 19 2 e cx
   subst e;exact oE 19 277 278 2 g kiw (Go.Proofs.enters_of func277 cu rfl) (Go.Proofs.enters_of func278 cu rfl) (λb d=>(q16 a 2 c b).mono λ_ _ ⟨p,q⟩=>⟨p,by rw[q];exact bR _ _⟩) λ_ _ _ b d n=>d2 d λh j i k=>q02 h j 2 c (f 0) (f 1) b cx i k
 by_cases e:l=20
 . obtain rfl:=o 20 2 e cx
   subst e;exact oE 20 262 279 2 g kiq (Go.Proofs.enters_of func262 cu rfl) (Go.Proofs.enters_of func279 cu rfl) (λb d=>q4w a 2 c f b cx d) λ_ _ v b d n=>d2 d λh j i k=>q5g h j 2 c (f 0) (f 1) b cx (g.t 0 cx (qo6 v cx)) n.mx i k
 by_cases e:l=21
 . obtain rfl:=o 21 1 e cx
   subst e;exact oE 21 262 280 1 g kir (Go.Proofs.enters_of func262 cu rfl) (Go.Proofs.enters_of func280 cu rfl) (λb d=>q4w a 1 c f b cx d) λ_ _ _ b d n=>d1 d λh j i=>q24 h j 1 c (f 0) b cx (g.s 0 cx) i
 by_cases e:l=22
 . obtain rfl:=o 22 1 e cx
   subst e;exact oE 22 262 281 1 g kis (Go.Proofs.enters_of func262 cu rfl) (Go.Proofs.enters_of func281 cu rfl) (λb d=>q4w a 1 c f b cx d) λ_ _ v b d n=>d1 d λh j i=>q9m h j 1 c (f 0) b cx (g.t 0 cx (qo6 v cx)) n i
 by_cases e:l=23
 . obtain rfl:=o 23 1 e cx
   subst e;exact oE 23 264 282 1 g (kit g.ok) (Go.Proofs.enters_of func264 cu rfl) (Go.Proofs.enters_of func282 cu rfl) (λb d=>q4t a 1 c f b cx d) λ_ _ _ b d n=>d1 d λh j i=>q4q h j 1 c (f 0) b cx (g.r 0 cx) n i
 by_cases e:l=24
 . obtain rfl:=o 24 1 e cx
   subst e;exact oE 24 277 283 1 g kiu (Go.Proofs.enters_of func277 cu rfl) (Go.Proofs.enters_of func283 cu rfl) (λb d=>(q16 a 1 c b).mono λ_ _ ⟨p,q⟩=>⟨p,by rw[q];exact bR _ _⟩) λ_ _ _ b d n=>d1 d λh j i=>q87 h j 1 c (f 0) b cx i
 obtain rfl:l=25:=cr
 obtain rfl:=o 25 1 rfl cx;exact oE 25 277 284 1 g kiv (Go.Proofs.enters_of func277 cu rfl) (Go.Proofs.enters_of func284 cu rfl) (λb d=>(q16 a 1 c b).mono λ_ _ ⟨p,q⟩=>⟨p,by rw[q];exact bR _ _⟩) λ_ _ _ b d n=>d1 d λh j i=>q89 h j 1 c (f 0) b cx i
section
variable {md:Region.Mode} {ops:Array Oper} {Q:Exit->Act->Tw->Prop} {l l':Tl} {lb lb':List Bool} {fuel B:Nat} {W0 W:Tw} {o o6 o7:Oper} {F:FuncId} {args:Ta}
def appT {S:Tw->Prop}{p q r:Oper}{e t:TypeId}{m:TypeInfo}{zv u:Value}{k j n:Nat}{y cs:Tl}(i:Nat)(d1 d2 v:Tmp)(s x:Operand) (z:∀c,Below B W c->(∀b,b<W.1.size->some b≠u.ownBlock->c.heap[b]? = W.heap[b]?)->S c) (D:B<=W.1.size) (E:W.ownsRow B e k u n y) (ht:prog.underlying t=some (.slice e)) (U:prog.info? e=some m) (hz:m.zero=some zv) (ai:m.size=k) (L:m.bytes=j) (an:zv.cells.size=k) (aj:0<k) (N:cs.length=k) (I:∀d∈cs,d.oneCell'=true) (J:n+1<=maxLen) (M:(n+1)*j<=140737488355328) (w:∀g f c,c.ownsRow B e k (.slice (some ⟨g,0,none⟩) (n+1) f) (n+1) (y++cs)->Below B W c->(∀b,b<W.1.size->some b≠u.ownBlock->c.heap[b]? = W.heap[b]?)->Q .normal { tmps:=(((l.set d1 (.slice (some ⟨W.1.size,0,none⟩) 1 1)).set d2 (.slice (some ⟨g,0,none⟩) (n+1) f)).set v (.slice (some ⟨g,0,none⟩) (n+1) f)).toArray,defers:=[] } c) (V:ops[i]? = some p:=by exact rfl) (O:p.dst=some d1:=by exact rfl) (ak:Region.wanted p (yielded ops l.toArray)=true:=by rfl) (ac:Region.ready md ops lb.toArray=[i]:=by kernel_rfl) (hrun:(execOp (Act.eval { tmps:=l.toArray,defers:=[] }) p).run prog W=.ok (.value (.slice (some ⟨W.1.size,0,none⟩) 1 1)) (W.alloc (.cells cs.toArray e)):=by simp[execOp,go_sem]) (X:ops[i+1]? = some q:=by exact rfl) (P:q.dst=some d2:=by exact rfl) (T:q.guard=none:=by exact rfl) (ad:Region.ready md ops (lb.toArray.setIfInBounds i true)=[i+1]:=by kernel_rfl) (aa:q.op=.call { callee:=.builtin .append,args:=#[s,x],argTypes:=#[t,t] }:=by exact rfl) (ah:Act.eval { tmps:=l.toArray.setIfInBounds d1 (.slice (some ⟨W.1.size,0,none⟩) 1 1),defers:=[] } s=u:=by rfl) (am:Act.eval { tmps:=l.toArray.setIfInBounds d1 (.slice (some ⟨W.1.size,0,none⟩) 1 1),defers:=[] } x=.slice (some ⟨W.1.size,0,none⟩) 1 1:=by rfl) (Y:ops[i+2]? = some r:=by exact rfl) (R:r.dst=some v:=by exact rfl) (al:∀d,Region.wanted r (yielded ops ((l.toArray.setIfInBounds d1 (.slice (some ⟨W.1.size,0,none⟩) 1 1)).setIfInBounds d2 d))=true:=by intro _;rfl) (ae:Region.ready md ops ((lb.toArray.setIfInBounds i true).setIfInBounds (i+1) true)=[i+2]:=by kernel_rfl) (ag:∀d h,(execOp (Act.eval { tmps:=(l.toArray.setIfInBounds d1 (.slice (some ⟨W.1.size,0,none⟩) 1 1)).setIfInBounds d2 d,defers:=[] }) r).run prog h=.ok (.value d) h:=by intro _ _;rfl) (af:Region.ready md ops (((lb.toArray.setIfInBounds i true).setIfInBounds (i+1) true).setIfInBounds (i+2) true)=[]:=by kernel_rfl):wpAnyH prog md ops Q S (fuel+3) lb.toArray { tmps:=l.toArray,defers:=[] } W:=by have h:=(bR W.1.size W).alloc (nR _) (.cells cs.toArray e);have K:=Blk.new W e cs.toArray;have G:=h.mono D;refine wpAnyH_ready ac cw (kaF (a:={ tmps:=l.toArray,defers:=[] }) d1 V O ak hrun (z _ G λb C _=>h.block b C) ?_ AllReadyH.nil);refine khS (a:={ tmps:=l.toArray.setIfInBounds d1 (.slice (some ⟨W.1.size,0,none⟩) 1 1),defers:=[] }) (fuel:=fuel+1) d2 X P T ad s x t aa B e m zv k j ht U hz ai L an aj u n y ah (E.alloc _) ⟨W.1.size,0,none⟩ 1 1 cs am (by rw[N,Nat.one_mul]) (λA d d=>by rw[show(⟨W.1.size,0,none⟩:Addr).add A=⟨W.1.size,A,none⟩ by simp[Addr.add];try exact λw=>w.symm,K.cell A];simpa using d) I cr J M (Y6 D h.size) _ rfl ?_;intro g f c ho H _ _;have d:=G.grown H (Y6 D h.size) (λb e=>qcp E e);have A:∀b,b<W.1.size->some b≠u.ownBlock->c.heap[b]? = W.heap[b]?:=λb C Z=>(H.block b dr Z).trans (h.block b C);refine⟨z _ d A,?_⟩;refine wpAnyH_ready ae cw (kaF (a:={ tmps:=(l.toArray.setIfInBounds d1 (.slice (some ⟨W.1.size,0,none⟩) 1 1)).setIfInBounds d2 (.slice (some ⟨g,0,none⟩) (n+1) f),defers:=[] }) v Y R (al _) (ag _ _) (z _ d A) ?_ AllReadyH.nil);refine wpAnyH_done af ?_ _;have:=w g f c ho d A;rw[<- Y3,<- Y3,<- Y3]at this;exact this
def calV {z:Vx}{x y:Operand}(i:Nat)(c b:Tmp)(g:Below B W0 W)(j:B<=W.1.size)(I:c≠b)(u:∀d,Bw W d->Gv F args d (vv z)) (D:∀f e,Blk e f 55 (J3 z.k z.n z.s)->W.1.size<=f->Bw W e->Q .normal { tmps:=((l.set c (vv z)).set b (Ye f 0)).toArray,defers:=[] } e) (hi:ops[i]? = some o:=by exact rfl) (v:o.dst=some c:=by exact rfl) (T:Region.wanted o (yielded ops l.toArray)=true:=by rfl) (J:Region.ready md ops lb.toArray=[i,i+1]:=by kernel_rfl) (hrun:∀d,(execOp (Act.eval { tmps:=l.toArray,defers:=[] }) o).run prog d=.ok (.enter F args) d:=by intro _;simp[execOp,go_sem]) (A:ops[i+1]? = some o6:=by exact rfl) (w:o6.dst=some b:=by exact rfl) (V:∀e,Region.wanted o6 (yielded ops (l.set c e).toArray)=true:=by intro _;rfl) (X:Region.wanted o6 (yielded ops l.toArray)=true:=by rfl) (U:∀e,Region.wanted o (yielded ops (l.set b e).toArray)=true:=by intro _;rfl) (L:Region.ready md ops (lb.toArray.setIfInBounds i true)=[i+1]:=by kernel_rfl) (K:Region.ready md ops (lb.toArray.setIfInBounds (i+1) true)=[i]:=by kernel_rfl) (P:∀e d,(execOp (Act.eval { tmps:=(l.set c e).toArray,defers:=[] }) o6).run prog d=.ok (.value (Ye d.1.size 0)) (d.alloc (.cells Jf 55)):=by intro _ _;simp[execOp,go_sem]) (S:∀d,(execOp (Act.eval { tmps:=l.toArray,defers:=[] }) o6).run prog d=.ok (.value (Ye d.1.size 0)) (d.alloc (.cells Jf 55)):=by intro _;simp[execOp,go_sem]) (O:∀e d,(execOp (Act.eval { tmps:=(l.set b e).toArray,defers:=[] }) o).run prog d=.ok (.enter F args) d:=by intro _ _;simp[execOp,go_sem]) (H:ops[i+2]? = some o7:=by exact rfl) (E:o7.op=.store 55 x y:=by exact rfl) (G:o7.dst=none:=by exact rfl) (Z:∀d e,Act.eval { tmps:=((l.set c d).set b e).toArray,defers:=[] } x=e:=by intro _ _;rfl) (hy:∀d e,Act.eval { tmps:=((l.set c d).set b e).toArray,defers:=[] } y=d:=by intro _ _;rfl) (Y:∀d e,Region.wanted o7 (yielded ops ((l.set c d).set b e).toArray)=true:=by intro _ _;rfl) (M:Region.ready md ops ((lb.toArray.setIfInBounds i true).setIfInBounds (i+1) true)=[i+2]:=by kernel_rfl) (N:Region.ready md ops (((lb.toArray.setIfInBounds i true).setIfInBounds (i+1) true).setIfInBounds (i+2) true)=[]:=by kernel_rfl):wpAnyH prog md ops Q (λm=>Below B W0 m) (fuel+3) lb.toArray { tmps:=l.toArray,defers:=[] } W:=by have t:∀f e,Blk e f 55 Jl->W.1.size<=f->Bw W e->wpAnyH prog md ops Q (λm=>Below B W0 m) (fuel+1) ((lb.toArray.setIfInBounds i true).setIfInBounds (i+1) true) { tmps:=((l.set c (vv z)).set b (Ye f 0)).toArray,defers:=[] } e:=λf e p q h=>(by have e:=qjb h q (Jc z.k z.n z.s);refine kaV (a:={ tmps:=((l.set c (vv z)).set b (Ye f 0)).toArray,defers:=[] }) H (Y _ _) M G (q2a (a:={ tmps:=((l.set c (vv z)).set b (Ye f 0)).toArray,defers:=[] }) 55 x y E f (Jc z.k z.n z.s) (Z _ _) (hy _ _) 55 _ p cu rfl cu) rfl (g.trans (e.mono j)) ?_;exact wpAnyH_done N (D f _ (p.row (J3 z.k z.n z.s)) q e) _);have p:=(bR W.1.size W).alloc (nR _) (.cells Jf 55);refine wpAnyH_ready J cw (kbe (a:={ tmps:=l.toArray,defers:=[] }) (R:=λd r=>d=vv z/\Bw W r) c hi v T (hrun W) ((u W (bR _ _)).mono λC m ⟨q,g⟩=>⟨_,q,rfl,g⟩) ?_ (kaF (a:={ tmps:=l.toArray,defers:=[] }) b A w X (S W) (g.trans (p.mono j)) ?_ AllReadyH.nil));{rintro d f ⟨rfl,e⟩;have h:=e.alloc e.size (.cells Jf 55);refine⟨g.trans (e.mono j),?_⟩;show wpAnyH _ _ _ _ _ _ _ { tmps:=l.toArray.setIfInBounds c (vv z),defers:=[] } _;rw[show l.toArray.setIfInBounds c (vv z)=(l.set c (vv z)).toArray from Y3 ..];refine wpAnyH_ready L cw (kaF (a:={ tmps:=(l.set c (vv z)).toArray,defers:=[] }) b A w (V _) (P _ f) (g.trans (h.mono j)) ?_ AllReadyH.nil);have:=t f.1.size _ (Blk.new f 55 Jf) e.size h;rw[<- Y3]at this;exact this};show wpAnyH _ _ _ _ _ _ _ { tmps:=l.toArray.setIfInBounds b (Ye W.1.size 0),defers:=[] } _;rw[show l.toArray.setIfInBounds b (Ye W.1.size 0)=(l.set b (Ye W.1.size 0)).toArray from Y3 ..];refine kat (a:={ tmps:=(l.set b (Ye W.1.size 0)).toArray,defers:=[] }) (fuel:=fuel+1) (R:=λd r=>d=vv z/\Below (W.alloc (.cells Jf 55)).1.size (W.alloc (.cells Jf 55)) r) c hi v (U _) K (O _ _) ((u _ p).mono λC m ⟨q,g⟩=>⟨_,q,rfl,g⟩) ?_;rintro d f ⟨rfl,e⟩;have m:=Blk.new W 55 Jf;have h:=p.trans (e.mono p.size);refine⟨g.trans (h.mono j),?_⟩;have:=t W.1.size f (m.mono e m.lt) (nR _) h;rw[List.set_comm _ _ I,<- Y3,Array.setIfInBounds_comm _ _ cr]at this;exact this
end
