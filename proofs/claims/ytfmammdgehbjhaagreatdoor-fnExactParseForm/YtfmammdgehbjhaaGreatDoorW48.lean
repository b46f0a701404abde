import Derived.Test.YtfmammdgehbjhaaGreatDoorW46
import Derived.Test.YtfmammdgehbjhaaGreatDoorW47
set_option maxRecDepth 100000
set_option maxHeartbeats 64000000
namespace Go.Proofs.YtfmammdgehbjhaaGreatDoor
open Go Go.RowKit
def bq (a:Option Addr):Nat:=(a.map (·.block)).getD 0
structure Tc (B:Nat->Prop)(W W':World):Prop where
 os:W'.os=W.os
 tape:W'.tape=W.tape
 output:W'.output=W.output
 size:W.heap.size<=W'.heap.size
 block:∀b,b<W.heap.size->¬ B b->W'.heap[b]? = W.heap[b]?
 bk:∀g t n,Bk W g t n->Bk W' g t n
theorem Tc.refl (B:Nat->Prop)(W:World):Tc B W W:=⟨rfl,rfl,rfl,nR _,fun _ _ _=>rfl,fun _ _ _ h=>h⟩
theorem Tc.trans {B:Nat->Prop}{W1 W2 W3:World}(h:Tc B W1 W2)(k:Tc B W2 W3):Tc B W1 W3:=⟨k.os.trans h.os,k.tape.trans h.tape,k.output.trans h.output,Yt h.size k.size,fun b hb hn=>(k.block b (by have:=h.size;omega) hn).trans (h.block b hb hn),fun g t n hb=>k.bk g t n (h.bk g t n hb)⟩
theorem Tc.mono {B B':Nat->Prop}{W W':World}(h:Tc B W W')(hb:∀b,B b->B' b):Tc B' W W':=⟨h.os,h.tape,h.output,h.size,fun b hl hn=>h.block b hl (fun c=>hn (hb b c)),h.bk⟩
theorem Tc.below {B:Nat->Prop}{W W':World}(h:Below W.heap.size W W'):Tc B W W':=⟨h.os,h.tape,h.output,h.size,fun b hb _=>h.block b hb,fun _ _ _ hb=>hb.mono h hb.lt⟩
theorem Tc.of {lo hi:Nat}{W W':World}(h:MkL lo hi W W'):Tc (fun b=>lo<=b/\b<hi) W W':=⟨h.out.os,h.out.tape,h.out.output,h.out.size,fun b hb hn=>h.out.block b hb hn,h.bk⟩
theorem Tc.one {q:Nat}{W W':World}(h:MkL q (q+1) W W'):Tc (· = q) W W':=(Tc.of h).mono fun b hb=>by omega
theorem Tc.set {W:World}{g:Nat}(p:Nat)(v:Value):Tc (· = g) W (W.setCell ⟨g,p,none⟩ v):=Tc.one (MkL.set p v (nR _) (Yr _))
theorem Tc.keepB {B:Nat->Prop}{W W':World}(h:Tc B W W'){N:Nat}(hN:N<=W.heap.size)(hb:∀b,B b->N<=b):Below N W W':=⟨h.os,h.tape,h.output,h.size,fun b hl=>h.block b (by omega) (fun c=>by have:=hb b c;omega)⟩
theorem Pre.keep {w w':World}{g:Nat}{xs:List Value}(h:Pre w g xs)(hk:w'.heap[g]? = w.heap[g]?):Pre w' g xs:=fun p hp=>(World.cell?_of_block (a:=⟨g,p,none⟩) hk).trans (h p hp)
theorem Bk.ty {w:World}{g:Nat}{t t':TypeId}{n n':Nat}(h:Bk w g t n)(h':Bk w g t' n'):t=t':=by
 obtain⟨cs,h1,-⟩:=h
 obtain⟨cs',h2,-⟩:=h'
 have h1:w.heap[g]? = some (.cells cs.toArray t (0,0)):=h1
 have h2:w.heap[g]? = some (.cells cs'.toArray t' (0,0)):=h2
 rw[h1]at h2
 simp only[Zr,Obj.cells.injEq]at h2
 exact h2.2.1
def LL (w:World)(t:TypeId)(s n lo hi:Nat)(a:Option Addr):Prop:=∃N,n*s<=N/\(0<n->a=some ⟨bq a,0,none⟩/\lo<=bq a/\bq a<hi/\Bk w (bq a) t N)
theorem LL.tc {B:Nat->Prop}{w w':World}{t:TypeId}{s n lo hi:Nat}{a:Option Addr}(h:LL w t s n lo hi a)(k:Tc B w w'):LL w' t s n lo hi a:=by
 obtain⟨N,h1,h2⟩:=h
 exact⟨N,h1,fun h0=>⟨(h2 h0).1,(h2 h0).2.1,(h2 h0).2.2.1,k.bk _ _ _ (h2 h0).2.2.2⟩⟩
theorem LL.lt {w:World}{t:TypeId}{s n lo hi:Nat}{a:Option Addr}(h:LL w t s n lo hi a)(h0:0<n):lo<=bq a/\bq a<hi/\bq a<w.heap.size:=by
 obtain⟨N,-,h2⟩:=h
 exact⟨(h2 h0).2.1,(h2 h0).2.2.1,(h2 h0).2.2.2.lt⟩
theorem LL.of {w:World}{base e size n c:Nat}{a:Option Addr}{xs:List Value}(h:w.ownsRow base e size (.slice a n c) n xs){lo hi:Nat}(ha:∀q,(Value.slice a n c).ownBlock=some q->lo<=q/\q<hi):LL w e size n lo hi a:=by
 rcases h.2 with ⟨h2,h0⟩ | ⟨g,cap,cur,h1,hg,hq,h4,h5,h6,h7⟩
 . exact⟨n*size,nR _,fun h=>by omega⟩
 . cases h1
   refine⟨cur.toList.length,?_,fun _=>⟨rfl,(ha g rfl).1,(ha g rfl).2,cur.toList,?_,rfl⟩⟩
   . have:=congrArg List.length h7
     rw[Yu]at this;have h1:=h.1;omega
   . show w.heap[g]? = _
     rw[hq]
theorem q9p (a:Option Addr)(K n c lo hi:Nat)(w:World)(hK:0<K)(hK2:K<=1152921504606846976)(hn:n<=2000000)(h:LL w 3 1 n lo hi a) :
 Calls Tryz.prog 79 (J7 a n c (K:Nat)) w fun r w'=>r=.returned (Ya ((K+n*1:Nat):Int))/\(0<n->Pre w' (bq a) (miL K n))/\Tc (fun b=>0<n/\b=bq a) w w':=by
 obtain⟨N,hN,ho⟩:=h
 by_cases h0:0<n
 . obtain⟨e,-,-,hb⟩:=ho h0
   refine(q5b a K (bq a) n N c (bq a) (bq a+1) w hK hK2 hn hN (nR _) (Yr _) (fun _=>⟨e,hb⟩)).mono ?_;rintro r w' ⟨hr,hp,hm⟩;exact⟨hr,hp,(Tc.one hm).mono fun b hb=>⟨h0,hb⟩⟩
 . refine(q5b a K w.heap.size n N c w.heap.size (w.heap.size+1) w hK hK2 hn hN (nR _) (Yr _) (fun h=>absurd h h0)).mono ?_
   rintro r w' ⟨hr,-,hm⟩;exact⟨hr,fun h=>absurd h h0,⟨hm.out.os,hm.out.tape,hm.out.output,hm.out.size,fun b hb _=>hm.out.block b hb (by omega),hm.bk⟩⟩
theorem q7b (a:Option Addr)(K n c lo hi:Nat)(w:World)(hK:0<K)(hK2:K<=1152921504606846976)(hn:n<=2000000)(h:LL w 133 5 n lo hi a) :
 Calls Tryz.prog 80 (J7 a n c (K:Nat)) w fun r w'=>r=.returned (Ya ((K+n*5:Nat):Int))/\(0<n->Pre w' (bq a) (mnL K n))/\Tc (fun b=>0<n/\b=bq a) w w':=by
 obtain⟨N,hN,ho⟩:=h
 by_cases h0:0<n
 . obtain⟨e,-,-,hb⟩:=ho h0
   refine(q3f a K (bq a) n N c (bq a) (bq a+1) w hK hK2 hn hN (nR _) (Yr _) (fun _=>⟨e,hb⟩)).mono ?_;rintro r w' ⟨hr,hp,hm⟩;exact⟨hr,hp,(Tc.one hm).mono fun b hb=>⟨h0,hb⟩⟩
 . refine(q3f a K w.heap.size n N c w.heap.size (w.heap.size+1) w hK hK2 hn hN (nR _) (Yr _) (fun h=>absurd h h0)).mono ?_
   rintro r w' ⟨hr,-,hm⟩;exact⟨hr,fun h=>absurd h h0,⟨hm.out.os,hm.out.tape,hm.out.output,hm.out.size,fun b hb _=>hm.out.block b hb (by omega),hm.bk⟩⟩
structure FL (w:World)(lo hi m1 m2 m3 m4:Nat)(f:Fl)(A:FA):Prop where
 i:LL w 133 5 f.is.length lo m1 A.i
 h:LL w 133 5 f.wh.length m1 m2 A.h
 v:LL w 133 5 f.va.length m2 m3 A.v
 u:LL w 133 5 f.mu.length m3 m4 A.u
 b:LL w 3 1 f.bys.length m4 hi A.b
 o:lo<=m1/\m1<=m2/\m2<=m3/\m3<=m4/\m4<=hi
theorem FL.tc {B:Nat->Prop}{w w':World}{lo hi m1 m2 m3 m4:Nat}{f:Fl}{A:FA}(h:FL w lo hi m1 m2 m3 m4 f A)(k:Tc B w w'):FL w' lo hi m1 m2 m3 m4 f A:=⟨h.i.tc k,h.h.tc k,h.v.tc k,h.u.tc k,h.b.tc k,h.o⟩
def kF (f:Fl):Nat:=3+f.bys.length*1+f.is.length*5+f.wh.length*5+f.va.length*5+1+f.mu.length*5
def kNo (K:Nat)(l:List Fl):Nat->Nat
 | 0=>K
 | j+1=>kNo K l j+kF (l.getD j noFl)
structure FM (s:Nat)(W:World)(g j K:Nat)(f:Fl)(A:FA):Prop where
 c:1<=s->W.cell? ⟨g,j*9,none⟩=some (.string (mkT K))/\W.cell? ⟨g,j*9+1,none⟩=some (Ya ((K:Int)+1))/\W.cell? ⟨g,j*9+2,none⟩=some (Ya ((K:Int)+1+1))
 b:2<=s->0<f.bys.length->Pre W (bq A.b) (miL (K+3) f.bys.length)
 i:3<=s->0<f.is.length->Pre W (bq A.i) (mnL (K+3+f.bys.length*1) f.is.length)
 h:4<=s->0<f.wh.length->Pre W (bq A.h) (mnL (K+3+f.bys.length*1+f.is.length*5) f.wh.length)
 v:5<=s->0<f.va.length->Pre W (bq A.v) (mnL (K+3+f.bys.length*1+f.is.length*5+f.wh.length*5) f.va.length)
 t:6<=s->W.cell? ⟨g,j*9+7,none⟩=some (.string (mkT (K+3+f.bys.length*1+f.is.length*5+f.wh.length*5+f.va.length*5)))
 u:7<=s->0<f.mu.length->Pre W (bq A.u) (mnL (K+3+f.bys.length*1+f.is.length*5+f.wh.length*5+f.va.length*5+1) f.mu.length)
theorem FM.zero (W:World)(g j K:Nat)(f:Fl)(A:FA):FM 0 W g j K f A:=⟨fun h=>by omega,fun h=>by omega,fun h=>by omega,fun h=>by omega,fun h=>by omega,fun h=>by omega,fun h=>by omega⟩
theorem FM.tc {B:Nat->Prop}{s:Nat}{W W':World}{g j K:Nat}{f:Fl}{A:FA}(h:FM s W g j K f A)(k:Tc B W W'){lo hi m1 m2 m3 m4:Nat}(hf:FL W lo hi m1 m2 m3 m4 f A)(hg:g<W.heap.size)(ng:¬ B g)
 (nb:2<=s->0<f.bys.length->¬ B (bq A.b)) (ni:3<=s->0<f.is.length->¬ B (bq A.i)) (nh:4<=s->0<f.wh.length->¬ B (bq A.h)) (nv:5<=s->0<f.va.length->¬ B (bq A.v)) (nu:7<=s->0<f.mu.length->¬ B (bq A.u)):FM s W' g j K f A:=by
 have hgk:=k.block g hg ng
 exact⟨fun h1=>⟨(World.cell?_of_block (a:=⟨g,j*9,none⟩) hgk).trans (h.c h1).1,(World.cell?_of_block (a:=⟨g,j*9+1,none⟩) hgk).trans (h.c h1).2.1,(World.cell?_of_block (a:=⟨g,j*9+2,none⟩) hgk).trans (h.c h1).2.2⟩,
  fun h1 h2=>(h.b h1 h2).keep (k.block _ (hf.b.lt h2).2.2 (nb h1 h2)),fun h1 h2=>(h.i h1 h2).keep (k.block _ (hf.i.lt h2).2.2 (ni h1 h2)),fun h1 h2=>(h.h h1 h2).keep (k.block _ (hf.h.lt h2).2.2 (nh h1 h2)),fun h1 h2=>(h.v h1 h2).keep (k.block _ (hf.v.lt h2).2.2 (nv h1 h2)),
  fun h1=>(World.cell?_of_block (a:=⟨g,j*9+7,none⟩) hgk).trans (h.t h1),fun h1 h2=>(h.u h1 h2).keep (k.block _ (hf.u.lt h2).2.2 (nu h1 h2))⟩
theorem FM.cell {s:Nat}{W:World}{g j K:Nat}{f:Fl}{A:FA}(h:FM s W g j K f A){t:TypeId}{n:Nat}(hb:Bk W g t n){lo hi m1 m2 m3 m4:Nat}(hf:FL W lo hi m1 m2 m3 m4 f A)(ht:t≠133/\t≠3){p:Nat}(v:Value)(n0:1<=s->p≠j*9/\p≠j*9+1/\p≠j*9+2)(n7:6<=s->p≠j*9+7):FM s (W.setCell ⟨g,p,none⟩ v) g j K f A:=by
 have k:=Tc.set (W:=W) (g:=g) p v
 have hne:∀{t':TypeId} {s' n' lo' hi':Nat} {a:Option Addr},LL W t' s' n' lo' hi' a->t≠t'->0<n'->bq a≠g:=fun hl hn h0 e=>by
  obtain⟨N,-,h2⟩:=hl;have:=(h2 h0).2.2.2;rw[e]at this;exact hn (hb.ty this)
 exact⟨fun h1=>⟨(hb.cell_ne (n0 h1).1 v).trans (h.c h1).1,(hb.cell_ne (n0 h1).2.1 v).trans (h.c h1).2.1,(hb.cell_ne (n0 h1).2.2 v).trans (h.c h1).2.2⟩,
  fun h1 h2=>(h.b h1 h2).keep (k.block _ (hf.b.lt h2).2.2 (hne hf.b ht.2 h2)),fun h1 h2=>(h.i h1 h2).keep (k.block _ (hf.i.lt h2).2.2 (hne hf.i ht.1 h2)),fun h1 h2=>(h.h h1 h2).keep (k.block _ (hf.h.lt h2).2.2 (hne hf.h ht.1 h2)),fun h1 h2=>(h.v h1 h2).keep (k.block _ (hf.v.lt h2).2.2 (hne hf.v ht.1 h2)),
  fun h1=>(hb.cell_ne (n7 h1) v).trans (h.t h1),fun h1 h2=>(h.u h1 h2).keep (k.block _ (hf.u.lt h2).2.2 (hne hf.u ht.1 h2))⟩
structure MX where
 lo:Nat
 hi:Nat
 g:Nat
 N:Nat
 K:Nat
 l:List Fl
 AF:Nat->FA
 E:Nat->Nat
 M1:Nat->Nat
 M2:Nat->Nat
 M3:Nat->Nat
 M4:Nat->Nat
 w:World
def MX.B (X:MX)(b:Nat):Prop:=X.lo<=b/\b<X.hi/\∃t n,(t=52∨t=3∨t=133)/\Bk X.w b t n
def MX.FLj (X:MX)(W:World)(j:Nat)(h:j<X.l.length):Prop:=FL W (X.E j) (X.E (j+1)) (X.M1 j) (X.M2 j) (X.M3 j) (X.M4 j) X.l[j] (X.AF j)
structure MC (X:MX):Prop where
 g1:X.lo<=X.g
 g2:X.g<X.hi
 bk:Bk X.w X.g 52 X.N
 n:X.l.length*9<=X.N
 sc:SC X.w X.g X.l X.AF
 fl:∀j (h:j<X.l.length),X.FLj X.w j h
 e0:X.lo<=X.E 0
 e1:X.E X.l.length<=X.hi
theorem MC.up {X:MX}(h:MC X){i j:Nat}(hij:i<=j)(hj:j<=X.l.length):X.E i<=X.E j:=by
 induction j with
 | zero=>obtain rfl:i=0:=(by omega);exact nR _
 | succ j ih =>
  by_cases e:i=j+1
  . subst e;exact nR _
  . have h1:=ih (by omega) (by omega)
    have h2:=(h.fl j (by omega)).o;omega
structure MI (X:MX)(i s:Nat)(W:World):Prop where
 tc:Tc X.B X.w W
 sc:SC W X.g X.l X.AF
 old:∀j (h:j<X.l.length),j<i->FM 7 W X.g j (kNo X.K X.l j) X.l[j] (X.AF j)
 now:∀(h:i<X.l.length),FM s W X.g i (kNo X.K X.l i) X.l[i] (X.AF i)
theorem MI.bk {X:MX}{i s:Nat}{W:World}(h:MI X i s W)(hc:MC X):Bk W X.g 52 X.N:=h.tc.bk _ _ _ hc.bk
theorem MI.fl {X:MX}{i s:Nat}{W:World}(h:MI X i s W)(hc:MC X){j:Nat}(hj:j<X.l.length):FL W (X.E j) (X.E (j+1)) (X.M1 j) (X.M2 j) (X.M3 j) (X.M4 j) X.l[j] (X.AF j):=FL.tc (hc.fl j hj) h.tc
theorem MI.start {X:MX}(hc:MC X):MI X 0 0 X.w:=⟨Tc.refl _ _,hc.sc,fun _ _ h=>absurd h (nL _),fun _=>FM.zero _ _ _ _ _ _⟩
theorem MI.touch {X:MX}{i s s':Nat}{W W':World}{B:Nat->Prop}(h:MI X i s W)(hc:MC X)(k:Tc B W W')(hB:∀b,B b->X.B b)(ng:¬ B X.g)(hi:i<=X.l.length)(hE:∀b,B b->X.E i<=b)(hn:∀(h:i<X.l.length),FM s' W' X.g i (kNo X.K X.l i) X.l[i] (X.AF i)):MI X i s' W':=by
 have hg:=(h.bk hc).lt
 refine⟨h.tc.trans (k.mono hB),h.sc.keep (k.block _ hg ng),fun j hj hji=>?_,hn⟩
 have hf:=h.fl hc hj
 have he:=hc.up (i:=j+1) (j:=i) (by omega) hi
 have ho:=hf.o
 refine(h.old j hj hji).tc k hf hg ng ?_ ?_ ?_ ?_ ?_
 . intro _ h0 hb;have h1:=hE _ hb;have h2:=hf.b.lt h0;omega
 . intro _ h0 hb;have h1:=hE _ hb;have h2:=hf.i.lt h0;omega
 . intro _ h0 hb;have h1:=hE _ hb;have h2:=hf.h.lt h0;omega
 . intro _ h0 hb;have h1:=hE _ hb;have h2:=hf.v.lt h0;omega
 . intro _ h0 hb;have h1:=hE _ hb;have h2:=hf.u.lt h0;omega
theorem MI.below {X:MX}{i s:Nat}{W W':World}(h:MI X i s W)(hc:MC X)(hi:i<=X.l.length)(hb:Below W.heap.size W W'):MI X i s W' :=
 h.touch hc (Tc.below (B:=fun _=>False) hb) (fun _ h=>h.elim) (fun h=>h) hi (fun _ h=>h.elim) fun hlt=>(h.now hlt).tc (Tc.below (B:=fun _=>False) hb) (h.fl hc hlt) (h.bk hc).lt (fun h=>h) (fun _ _ h=>h) (fun _ _ h=>h) (fun _ _ h=>h) (fun _ _ h=>h) (fun _ _ h=>h)
theorem MI.set {X:MX}{i s s':Nat}{W:World}(h:MI X i s W)(hc:MC X)(hi:i<X.l.length){p:Nat}(v:Value)(h1:i*9<=p)(hp:∀j,p≠j*9+3/\p≠j*9+4/\p≠j*9+5/\p≠j*9+6/\p≠j*9+8)(hn:FM s' (W.setCell ⟨X.g,p,none⟩ v) X.g i (kNo X.K X.l i) X.l[i] (X.AF i)):MI X i s' (W.setCell ⟨X.g,p,none⟩ v):=by
 have hb:=h.bk hc
 refine⟨h.tc.trans ((Tc.set p v).mono fun b e=>by subst e;exact⟨hc.g1,hc.g2,_,_,.inl rfl,hc.bk⟩),h.sc.set hb hp v,fun j hj hji=>?_,fun _=>hn⟩
 exact(h.old j hj hji).cell hb (h.fl hc hj) (by decide) v (fun _=>by omega) (fun _=>by omega)
theorem MI.set3 {X:MX}{i:Nat}{W:World}(h:MI X i 0 W)(hc:MC X)(hi:i<X.l.length):MI X i 1 (((W.setCell ⟨X.g,i*9,none⟩ (.string (mkT (kNo X.K X.l i)))).setCell ⟨X.g,i*9+1,none⟩ (Ya ((kNo X.K X.l i:Nat)+1))).setCell ⟨X.g,i*9+2,none⟩ (Ya ((kNo X.K X.l i:Nat)+1+1))):=by
 have hN:=hc.n
 have a1:=h.set hc hi (s':=0) (p:=i*9) (.string (mkT (kNo X.K X.l i))) (by omega) (fun j=>by omega) (FM.zero _ _ _ _ _ _)
 have a2:=a1.set hc hi (s':=0) (p:=i*9+1) (Ya ((kNo X.K X.l i:Nat)+1)) (by omega) (fun j=>by omega) (FM.zero _ _ _ _ _ _)
 refine a2.set hc hi (s':=1) (p:=i*9+2) (Ya ((kNo X.K X.l i:Nat)+1+1)) (by omega) (fun j=>by omega) ⟨fun _=>⟨?_,?_,?_⟩,fun h=>by omega,fun h=>by omega,fun h=>by omega,fun h=>by omega,fun h=>by omega,fun h=>by omega⟩
 . rw[(a2.bk hc).cell_ne (by omega),(a1.bk hc).cell_ne (by omega)]
   exact(h.bk hc).cell_eq (by omega) _
 . rw[(a2.bk hc).cell_ne (by omega)]
   exact(a1.bk hc).cell_eq (by omega) _
 . exact(a2.bk hc).cell_eq (by omega) _
theorem MI.set7 {X:MX}{i:Nat}{W:World}(h:MI X i 5 W)(hc:MC X)(hi:i<X.l.length):MI X i 6 (W.setCell ⟨X.g,i*9+7,none⟩ (.string (mkT (kNo X.K X.l i+3+X.l[i].bys.length*1+X.l[i].is.length*5+X.l[i].wh.length*5+X.l[i].va.length*5)))):=by
 have hN:=hc.n
 have F:=(h.now hi).cell (h.bk hc) (h.fl hc hi) (by decide) (p:=i*9+7) (.string (mkT (kNo X.K X.l i+3+X.l[i].bys.length*1+X.l[i].is.length*5+X.l[i].wh.length*5+X.l[i].va.length*5))) (fun _=>by omega) (fun h=>by omega)
 refine h.set hc hi (s':=6) (p:=i*9+7) _ (by omega) (fun j=>by omega) ⟨fun _=>F.c (by omega),fun _=>F.b (by omega),fun _=>F.i (by omega),fun _=>F.h (by omega),fun _=>F.v (by omega),fun _=>?_,fun h=>by omega⟩
 exact(h.bk hc).cell_eq (by omega) _
theorem MI.step_b {X:MX}{i:Nat}{W W':World}(h:MI X i 1 W)(hc:MC X)(hi:i<X.l.length)(hp:0<X.l[i].bys.length->Pre W' (bq (X.AF i).b) (miL (kNo X.K X.l i+3) X.l[i].bys.length))(k:Tc (fun b=>0<X.l[i].bys.length/\b=bq (X.AF i).b) W W'):MI X i 2 W':=by
 have hf:=h.fl hc hi
 have hw:=hc.fl i hi
 unfold MX.FLj at hw
 have he0:=hc.up (i:=0) (j:=i) (by omega) (by omega)
 have he1:=hc.up (i:=i+1) (j:=X.l.length) (by omega) (by omega)
 have h0:=hc.e0
 have h1:=hc.e1
 have ho:=hf.o
 have hg:=(h.bk hc).lt
 have ng:¬ (0<X.l[i].bys.length/\X.g=bq (X.AF i).b):=fun hb=>by
  obtain⟨N',-,h2⟩:=hf.b;have h3:=(h2 hb.1).2.2.2;rw[<- hb.2]at h3;exact absurd ((h.bk hc).ty h3) (by decide)
 have F:=(h.now hi).tc k hf hg ng (fun h=>absurd h (by omega)) (fun _ h0 hb=>by have h2:=hf.i.lt h0;have h3:=hf.b.lt hb.1;omega) (fun _ h0 hb=>by have h2:=hf.h.lt h0;have h3:=hf.b.lt hb.1;omega) (fun _ h0 hb=>by have h2:=hf.v.lt h0;have h3:=hf.b.lt hb.1;omega) (fun _ h0 hb=>by have h2:=hf.u.lt h0;have h3:=hf.b.lt hb.1;omega)
 refine h.touch hc k (fun b hb=>?_) ng (by omega) (fun b hb=>?_) (fun _=>⟨fun _=>F.c (by omega),fun _=>hp,fun h=>by omega,fun h=>by omega,fun h=>by omega,fun h=>by omega,fun h=>by omega⟩)
 . obtain⟨N',-,h2⟩:=hw.b
   have h3:=h2 hb.1;rw[hb.2];exact⟨by omega,by omega,_,_,.inr (.inl rfl),h3.2.2.2⟩
 . have h3:=hf.b.lt hb.1
   rw[hb.2];omega
theorem MI.step_i {X:MX}{i:Nat}{W W':World}(h:MI X i 2 W)(hc:MC X)(hi:i<X.l.length)(hp:0<X.l[i].is.length->Pre W' (bq (X.AF i).i) (mnL (kNo X.K X.l i+3+X.l[i].bys.length*1) X.l[i].is.length))(k:Tc (fun b=>0<X.l[i].is.length/\b=bq (X.AF i).i) W W'):MI X i 3 W':=by
 have hf:=h.fl hc hi
 have hw:=hc.fl i hi
 unfold MX.FLj at hw
 have he0:=hc.up (i:=0) (j:=i) (by omega) (by omega)
 have he1:=hc.up (i:=i+1) (j:=X.l.length) (by omega) (by omega)
 have h0:=hc.e0
 have h1:=hc.e1
 have ho:=hf.o
 have hg:=(h.bk hc).lt
 have ng:¬ (0<X.l[i].is.length/\X.g=bq (X.AF i).i):=fun hb=>by
  obtain⟨N',-,h2⟩:=hf.i;have h3:=(h2 hb.1).2.2.2;rw[<- hb.2]at h3;exact absurd ((h.bk hc).ty h3) (by decide)
 have F:=(h.now hi).tc k hf hg ng (fun _ h0 hb=>by have h2:=hf.b.lt h0;have h3:=hf.i.lt hb.1;omega) (fun h=>absurd h (by omega)) (fun _ h0 hb=>by have h2:=hf.h.lt h0;have h3:=hf.i.lt hb.1;omega) (fun _ h0 hb=>by have h2:=hf.v.lt h0;have h3:=hf.i.lt hb.1;omega) (fun _ h0 hb=>by have h2:=hf.u.lt h0;have h3:=hf.i.lt hb.1;omega)
 refine h.touch hc k (fun b hb=>?_) ng (by omega) (fun b hb=>?_) (fun _=>⟨fun _=>F.c (by omega),fun _=>F.b (by omega),fun _=>hp,fun h=>by omega,fun h=>by omega,fun h=>by omega,fun h=>by omega⟩)
 . obtain⟨N',-,h2⟩:=hw.i
   have h3:=h2 hb.1;rw[hb.2];exact⟨by omega,by omega,_,_,.inr (.inr rfl),h3.2.2.2⟩
 . have h3:=hf.i.lt hb.1
   rw[hb.2];omega
theorem MI.step_h {X:MX}{i:Nat}{W W':World}(h:MI X i 3 W)(hc:MC X)(hi:i<X.l.length)(hp:0<X.l[i].wh.length->Pre W' (bq (X.AF i).h) (mnL (kNo X.K X.l i+3+X.l[i].bys.length*1+X.l[i].is.length*5) X.l[i].wh.length))(k:Tc (fun b=>0<X.l[i].wh.length/\b=bq (X.AF i).h) W W'):MI X i 4 W':=by
 have hf:=h.fl hc hi
 have hw:=hc.fl i hi
 unfold MX.FLj at hw
 have he0:=hc.up (i:=0) (j:=i) (by omega) (by omega)
 have he1:=hc.up (i:=i+1) (j:=X.l.length) (by omega) (by omega)
 have h0:=hc.e0
 have h1:=hc.e1
 have ho:=hf.o
 have hg:=(h.bk hc).lt
 have ng:¬ (0<X.l[i].wh.length/\X.g=bq (X.AF i).h):=fun hb=>by
  obtain⟨N',-,h2⟩:=hf.h;have h3:=(h2 hb.1).2.2.2;rw[<- hb.2]at h3;exact absurd ((h.bk hc).ty h3) (by decide)
 have F:=(h.now hi).tc k hf hg ng (fun _ h0 hb=>by have h2:=hf.b.lt h0;have h3:=hf.h.lt hb.1;omega) (fun _ h0 hb=>by have h2:=hf.i.lt h0;have h3:=hf.h.lt hb.1;omega) (fun h=>absurd h (by omega)) (fun _ h0 hb=>by have h2:=hf.v.lt h0;have h3:=hf.h.lt hb.1;omega) (fun _ h0 hb=>by have h2:=hf.u.lt h0;have h3:=hf.h.lt hb.1;omega)
 refine h.touch hc k (fun b hb=>?_) ng (by omega) (fun b hb=>?_) (fun _=>⟨fun _=>F.c (by omega),fun _=>F.b (by omega),fun _=>F.i (by omega),fun _=>hp,fun h=>by omega,fun h=>by omega,fun h=>by omega⟩)
 . obtain⟨N',-,h2⟩:=hw.h
   have h3:=h2 hb.1;rw[hb.2];exact⟨by omega,by omega,_,_,.inr (.inr rfl),h3.2.2.2⟩
 . have h3:=hf.h.lt hb.1
   rw[hb.2];omega
theorem MI.step_v {X:MX}{i:Nat}{W W':World}(h:MI X i 4 W)(hc:MC X)(hi:i<X.l.length)(hp:0<X.l[i].va.length->Pre W' (bq (X.AF i).v) (mnL (kNo X.K X.l i+3+X.l[i].bys.length*1+X.l[i].is.length*5+X.l[i].wh.length*5) X.l[i].va.length))(k:Tc (fun b=>0<X.l[i].va.length/\b=bq (X.AF i).v) W W'):MI X i 5 W':=by
 have hf:=h.fl hc hi
 have hw:=hc.fl i hi
 unfold MX.FLj at hw
 have he0:=hc.up (i:=0) (j:=i) (by omega) (by omega)
 have he1:=hc.up (i:=i+1) (j:=X.l.length) (by omega) (by omega)
 have h0:=hc.e0
 have h1:=hc.e1
 have ho:=hf.o
 have hg:=(h.bk hc).lt
 have ng:¬ (0<X.l[i].va.length/\X.g=bq (X.AF i).v):=fun hb=>by
  obtain⟨N',-,h2⟩:=hf.v;have h3:=(h2 hb.1).2.2.2;rw[<- hb.2]at h3;exact absurd ((h.bk hc).ty h3) (by decide)
 have F:=(h.now hi).tc k hf hg ng (fun _ h0 hb=>by have h2:=hf.b.lt h0;have h3:=hf.v.lt hb.1;omega) (fun _ h0 hb=>by have h2:=hf.i.lt h0;have h3:=hf.v.lt hb.1;omega) (fun _ h0 hb=>by have h2:=hf.h.lt h0;have h3:=hf.v.lt hb.1;omega) (fun h=>absurd h (by omega)) (fun _ h0 hb=>by have h2:=hf.u.lt h0;have h3:=hf.v.lt hb.1;omega)
 refine h.touch hc k (fun b hb=>?_) ng (by omega) (fun b hb=>?_) (fun _=>⟨fun _=>F.c (by omega),fun _=>F.b (by omega),fun _=>F.i (by omega),fun _=>F.h (by omega),fun _=>hp,fun h=>by omega,fun h=>by omega⟩)
 . obtain⟨N',-,h2⟩:=hw.v
   have h3:=h2 hb.1;rw[hb.2];exact⟨by omega,by omega,_,_,.inr (.inr rfl),h3.2.2.2⟩
 . have h3:=hf.v.lt hb.1
   rw[hb.2];omega
theorem MI.step_u {X:MX}{i:Nat}{W W':World}(h:MI X i 6 W)(hc:MC X)(hi:i<X.l.length)(hp:0<X.l[i].mu.length->Pre W' (bq (X.AF i).u) (mnL (kNo X.K X.l i+3+X.l[i].bys.length*1+X.l[i].is.length*5+X.l[i].wh.length*5+X.l[i].va.length*5+1) X.l[i].mu.length))(k:Tc (fun b=>0<X.l[i].mu.length/\b=bq (X.AF i).u) W W'):MI X i 7 W':=by
 have hf:=h.fl hc hi
 have hw:=hc.fl i hi
 unfold MX.FLj at hw
 have he0:=hc.up (i:=0) (j:=i) (by omega) (by omega)
 have he1:=hc.up (i:=i+1) (j:=X.l.length) (by omega) (by omega)
 have h0:=hc.e0
 have h1:=hc.e1
 have ho:=hf.o
 have hg:=(h.bk hc).lt
 have ng:¬ (0<X.l[i].mu.length/\X.g=bq (X.AF i).u):=fun hb=>by
  obtain⟨N',-,h2⟩:=hf.u;have h3:=(h2 hb.1).2.2.2;rw[<- hb.2]at h3;exact absurd ((h.bk hc).ty h3) (by decide)
 have F:=(h.now hi).tc k hf hg ng (fun _ h0 hb=>by have h2:=hf.b.lt h0;have h3:=hf.u.lt hb.1;omega) (fun _ h0 hb=>by have h2:=hf.i.lt h0;have h3:=hf.u.lt hb.1;omega) (fun _ h0 hb=>by have h2:=hf.h.lt h0;have h3:=hf.u.lt hb.1;omega) (fun _ h0 hb=>by have h2:=hf.v.lt h0;have h3:=hf.u.lt hb.1;omega) (fun h=>absurd h (by omega))
 refine h.touch hc k (fun b hb=>?_) ng (by omega) (fun b hb=>?_) (fun _=>⟨fun _=>F.c (by omega),fun _=>F.b (by omega),fun _=>F.i (by omega),fun _=>F.h (by omega),fun _=>F.v (by omega),fun _=>F.t (by omega),fun _=>hp⟩)
 . obtain⟨N',-,h2⟩:=hw.u
   have h3:=h2 hb.1;rw[hb.2];exact⟨by omega,by omega,_,_,.inr (.inr rfl),h3.2.2.2⟩
 . have h3:=hf.u.lt hb.1
   rw[hb.2];omega
theorem qcp {K:Nat}{l:List Fl}{i:Nat}(h:i<l.length):kNo K l (i+1)=kNo K l i+kF l[i]:=by
 show kNo K l i+kF (l.getD i noFl)=_
 rw[Y0,Yk h]
 rfl
theorem kF_le {f:Fl}(h:SmF f):kF f<=30000000:=by
 have:=h.b;have:=h.i;have:=h.h;have:=h.v;have:=h.u
 unfold kF
 omega
theorem kNo_le {K:Nat}{l:List Fl}(hs:∀x,x∈l->SmF x){i:Nat}(hi:i<=l.length):K<=kNo K l i/\kNo K l i<=K+i*30000000:=by
 induction i with
 | zero=>exact⟨nR _,by show K<=_;omega⟩
 | succ i ih =>
  obtain⟨h1,h2⟩:=ih (by omega);rw[qcp (by omega)];have:=kF_le (hs _ (Ys (show i<l.length by omega)));omega
theorem MI.next {X:MX}{i:Nat}{W:World}(h:MI X i 7 W):MI X (i+1) 0 W:=⟨h.tc,h.sc,fun j hj hji=>by
 by_cases e:j=i
 . subst e;exact h.now hj
 . exact h.old j hj (by omega),fun _=>FM.zero _ _ _ _ _ _⟩
structure Rnd (X:MX)(i q n1 n2 n3 n4 n5 c1 c2 c3 c4 c5:Nat)(a1 a2 a3 a4 a5:Option Addr):Prop where
 e:kNo X.K X.l (i+1)=q+3+n1*1+n2*5+n3*5+n4*5+1+n5*5
 n:i*9+7<X.N
 s1:∀W,MI X i 0 W->MI X i 1 (((W.setCell ⟨X.g,i*9,none⟩ (.string (mkT (q)))).setCell ⟨X.g,i*9+1,none⟩ (Ya ((q:Nat)+1))).setCell ⟨X.g,i*9+2,none⟩ (Ya ((q:Nat)+1+1)))
 s2:∀W W',MI X i 1 W->(0<n1->Pre W' (bq a1) (miL (q+3) n1))->Tc (fun b=>0<n1/\b=bq a1) W W'->MI X i 2 W'
 s3:∀W W',MI X i 2 W->(0<n2->Pre W' (bq a2) (mnL (q+3+n1*1) n2))->Tc (fun b=>0<n2/\b=bq a2) W W'->MI X i 3 W'
 s4:∀W W',MI X i 3 W->(0<n3->Pre W' (bq a3) (mnL (q+3+n1*1+n2*5) n3))->Tc (fun b=>0<n3/\b=bq a3) W W'->MI X i 4 W'
 s5:∀W W',MI X i 4 W->(0<n4->Pre W' (bq a4) (mnL (q+3+n1*1+n2*5+n3*5) n4))->Tc (fun b=>0<n4/\b=bq a4) W W'->MI X i 5 W'
 s6:∀W,MI X i 5 W->MI X i 6 (W.setCell ⟨X.g,i*9+7,none⟩ (.string (mkT (q+3+n1*1+n2*5+n3*5+n4*5))))
 s7:∀W W',MI X i 6 W->(0<n5->Pre W' (bq a5) (mnL (q+3+n1*1+n2*5+n3*5+n4*5+1) n5))->Tc (fun b=>0<n5/\b=bq a5) W W'->MI X i 7 W'
 ll:∀s W,MI X i s W->LL W 3 1 n1 (X.M4 i) (X.E (i+1)) a1/\LL W 133 5 n2 (X.E i) (X.M1 i) a2/\LL W 133 5 n3 (X.M1 i) (X.M2 i) a3/\LL W 133 5 n4 (X.M2 i) (X.M3 i) a4/\LL W 133 5 n5 (X.M3 i) (X.M4 i) a5
 sc:∀s W,MI X i s W->W.cell? ⟨X.g,i*9+3,none⟩=some (.slice a1 n1 c1)/\W.cell? ⟨X.g,i*9+4,none⟩=some (.slice a2 n2 c2)/\W.cell? ⟨X.g,i*9+5,none⟩=some (.slice a3 n3 c3)/\W.cell? ⟨X.g,i*9+6,none⟩=some (.slice a4 n4 c4)/\W.cell? ⟨X.g,i*9+8,none⟩=some (.slice a5 n5 c5)
 bl:∀s W W',MI X i s W->Below W.heap.size W W'->MI X i s W'
 bk:∀s W,MI X i s W->Bk W X.g 52 X.N
 m:n1<=1048576/\n2<=1048576/\n3<=1048576/\n4<=1048576/\n5<=1048576
theorem MC.rnd {X:MX}(hc:MC X){i:Nat}(hl:i<X.l.length)(hsm:SmF X.l[i]):∃q n1 n2 n3 n4 n5 c1 c2 c3 c4 c5 a1 a2 a3 a4 a5,kNo X.K X.l i=q/\Rnd X i q n1 n2 n3 n4 n5 c1 c2 c3 c4 c5 a1 a2 a3 a4 a5 :=
 ⟨kNo X.K X.l i,X.l[i].bys.length,X.l[i].is.length,X.l[i].wh.length,X.l[i].va.length,X.l[i].mu.length,(X.AF i).bc,(X.AF i).ic,(X.AF i).hc,(X.AF i).vc,(X.AF i).uc,(X.AF i).b,(X.AF i).i,(X.AF i).h,(X.AF i).v,(X.AF i).u,rfl,{
  e:=(by rw[qcp hl];unfold kF;omega)
  n:=(by have:=hc.n;omega)
  s1:=fun W h=>h.set3 hc hl
  s2:=fun W W' h hp k=>h.step_b hc hl hp k
  s3:=fun W W' h hp k=>h.step_i hc hl hp k
  s4:=fun W W' h hp k=>h.step_h hc hl hp k
  s5:=fun W W' h hp k=>h.step_v hc hl hp k
  s6:=fun W h=>h.set7 hc hl
  s7:=fun W W' h hp k=>h.step_u hc hl hp k
  ll:=fun s W h=>⟨(h.fl hc hl).b,(h.fl hc hl).i,(h.fl hc hl).h,(h.fl hc hl).v,(h.fl hc hl).u⟩
  sc:=fun s W h=>h.sc i hl
  bl:=fun s W W' h hb=>h.below hc (by omega) hb
  bk:=fun s W h=>h.bk hc
  m:=⟨hsm.b,hsm.i,hsm.h,hsm.v,hsm.u⟩ }⟩
theorem q2h (X:MX)(a:Option Addr)(c:Nat)(hK:0<X.K)(hK2:X.K<=1000000000)(hn:X.l.length<=1048576)(hs:∀x,x∈X.l->SmF x)(ho:0<X.l.length->a=some ⟨X.g,0,none⟩/\MC X) :
 Calls Tryz.prog 32 (J7 a X.l.length c (X.K:Nat)) X.w fun r w'=>r=.returned (Ya ((kNo X.K X.l X.l.length:Nat):Int))/\(0<X.l.length->MI X X.l.length 0 w')/\Tc X.B X.w w':=by
 have HO:=h_ ho;have HS:=h_ hs
 obtain⟨n,hnl⟩:=Nq X.l.length
 have HKb:Hi (∀i,i<=n->X.K<=kNo X.K X.l i/\kNo X.K X.l i<=X.K+i*30000000):=h_ fun i hi=>kNo_le hs (by omega)
 have HNL:=h_ hnl
 have H0:Hi (kNo X.K X.l 0=X.K):=h_ rfl
 rw[hnl]at hn
 rw[hnl]
 clear ho hs hnl
 go_enter Tryz.func32,Tryz.ntmps32
 go_wp2_with fail
 go_loopw [1,5] (fun q v wr=>∃i:Nat,i<=n/\v=Ya i/\q=Ya ((kNo X.K X.l i:Nat):Int)/\(0<n->MI X i 0 wr)/\Tc X.B X.w wr) (fun _ v _=>n - (intOf v).toNat)
 case atStart=>exact⟨0,nZ _,rfl,by rw[H0.u],fun h=>MI.start (HO.u (by rw[HNL.u];exact h)).2,Tc.refl _ _⟩
 case round =>
  obtain⟨i,hil,rfl,rfl,hm,htc⟩:=hrel;have HTC:=h_ htc;clear htc;by_cases hlt:i<n
  . have hlt':(i:Int)<n:=by omega
    obtain⟨rfl,hc⟩:=HO.u (by rw[HNL.u];omega);have hl:i<X.l.length:=(by rw[HNL.u];exact hlt);have HM:=h_ (hm (by omega));clear hm;obtain⟨hk1,hk2⟩:=HKb.u i (by omega);obtain⟨q,n1,n2,n3,n4,n5,c1,c2,c3,c4,c5,a1,a2,a3,a4,a5,hq,R⟩:=hc.rnd hl (HS.u _ (Ys hl));rw[hq]at hk1 hk2;rw[hq];obtain⟨m1,m2,m3,m4,m5⟩:=R.m;have HE:=h_ R.e;have HN:=h_ R.n;have HS1:=h_ R.s1;have HS2:=h_ R.s2;have HS3:=h_ R.s3;have HS4:=h_ R.s4;have HS5:=h_ R.s5;have HS6:=h_ R.s6;have HS7:=h_ R.s7;have HLL:=h_ R.ll;have HSC:=h_ R.sc;have HBl:=h_ R.bl;have HBk:=h_ R.bk;clear hq hc R;have hq0:0<q:=(by omega);have hq1:q+30000000<=1152921504606846976:=(by omega);have hq':(q:Int)+30000000<=1152921504606846976:=(by omega);clear hk1 hk2;obtain⟨p1,hp1⟩:∃p,q+3+n1*1=p:=⟨_,rfl⟩;rw[hp1]at HE HS3 HS4 HS5 HS6 HS7;obtain⟨p2,hp2⟩:∃p,p1+n2*5=p:=⟨_,rfl⟩;rw[hp2]at HE HS4 HS5 HS6 HS7;obtain⟨p3,hp3⟩:∃p,p2+n3*5=p:=⟨_,rfl⟩;rw[hp3]at HE HS5 HS6 HS7;obtain⟨p4,hp4⟩:∃p,p3+n4*5=p:=⟨_,rfl⟩;rw[hp4]at HE HS6 HS7;obtain⟨p5,hp5⟩:∃p,p4+1+n5*5=p:=⟨_,rfl⟩;rw[hp5]at HE;have b1:0<p1/\p1<=1152921504606846976:=(by omega);have b2:0<p2/\p2<=1152921504606846976:=(by omega);have b3:0<p3/\p3<=1152921504606846976:=(by omega);have b4:0<p4/\p4+1<=1152921504606846976:=(by omega);have hp4':(p4:Int)+1<=1152921504606846976:=(by omega);have HP1:=h_ hp1;have HP2:=h_ hp2;have HP3:=h_ hp3;have HP4:=h_ hp4;have HP5:=h_ hp5;clear hp1 hp2 hp3 hp4 hp5;have HT0:=h_ (q5c q wr hq0 (by omega));go_wp2_with fail;refine HT0.u.mono ?_;rintro e W1 ⟨rfl,hb1⟩;have HM1:=h_ (HBl.u _ _ _ HM.u hb1);have HB1:=h_ (HBk.u _ _ HM1.u);clear hb1 HM HT0;obtain⟨u0,c0'⟩:=HB1.u.cell (show i*9<X.N by have:=HN.u;omega);obtain⟨u1,c1'⟩:=HB1.u.cell (show i*9+1<X.N by have:=HN.u;omega);obtain⟨u2,c2'⟩:=HB1.u.cell (show i*9+2<X.N by have:=HN.u;omega);have f0:=HB1.u.free (i*9);have f1:=HB1.u.free (i*9+1);have f2:=HB1.u.free (i*9+2);have HM2:=h_ (HS1.u _ HM1.u);obtain⟨st,hst⟩:=Nq (mkT q);rw[hst]at HM2⊢;obtain⟨W2,hW2⟩:=Nq (((W1.setCell ⟨X.g,i*9,none⟩ (.string st)).setCell ⟨X.g,i*9+1,none⟩ (Ya ((q:Int)+1))).setCell ⟨X.g,i*9+2,none⟩ (Ya ((q:Int)+1+1)));rw[hW2]at HM2;obtain⟨d3,d4,d5,d6,d8⟩:=HSC.u _ _ HM2.u;have HT:=h_ (q9p a1 (q+3) n1 c1 _ _ W2 (by omega) (by omega) (by omega) (HLL.u _ _ HM2.u).1);rw[HP1.u,show((q+3:Nat):Int)=(q:Int)+1+1+1 by omega]at HT;clear d4 d5 d6 d8;go_wp2_with fail
    try rw[hW2]
    refine HT.u.mono ?_;rintro e W3 ⟨rfl,hp,hm3⟩;have HM3:=h_ (HS2.u _ _ HM2.u hp hm3);clear hm3 hp HT hW2 hst d3 c0' c1' c2' f0 f1 f2 HM2 HM1 HB1;obtain⟨d3,d4,d5,d6,d8⟩:=HSC.u _ _ HM3.u;have HT:=h_ (q7b a2 p1 n2 c2 _ _ W3 b1.1 b1.2 (by omega) (HLL.u _ _ HM3.u).2.1);rw[HP2.u]at HT;go_wp2_with fail;refine HT.u.mono ?_;rintro e W4 ⟨rfl,hp,hm3⟩;have HM4:=h_ (HS3.u _ _ HM3.u hp hm3);clear hm3 hp HT d3 d4 d5 d6 d8 HM3;obtain⟨d3,d4,d5,d6,d8⟩:=HSC.u _ _ HM4.u;have HT:=h_ (q7b a3 p2 n3 c3 _ _ W4 b2.1 b2.2 (by omega) (HLL.u _ _ HM4.u).2.2.1);rw[HP3.u]at HT;go_wp2_with fail;refine HT.u.mono ?_;rintro e W5 ⟨rfl,hp,hm3⟩;have HM5:=h_ (HS4.u _ _ HM4.u hp hm3);clear hm3 hp HT d3 d4 d5 d6 d8 HM4;obtain⟨d3,d4,d5,d6,d8⟩:=HSC.u _ _ HM5.u;have HT:=h_ (q7b a4 p3 n4 c4 _ _ W5 b3.1 b3.2 (by omega) (HLL.u _ _ HM5.u).2.2.2.1);rw[HP4.u]at HT;go_wp2_with fail;refine HT.u.mono ?_;rintro e W6 ⟨rfl,hp,hm3⟩;have HM6:=h_ (HS5.u _ _ HM5.u hp hm3);clear hm3 hp HT d3 d4 d5 d6 d8 HM5;have HT0:=h_ (q5c p4 W6 b4.1 (by omega));go_wp2_with fail;refine HT0.u.mono ?_;rintro e W7 ⟨rfl,hb7⟩;have HM7:=h_ (HBl.u _ _ _ HM6.u hb7);have HB7:=h_ (HBk.u _ _ HM7.u);clear hb7 HM6 HT0;obtain⟨u7,c7'⟩:=HB7.u.cell HN.u;have f7:=HB7.u.free (i*9+7);have HM8:=h_ (HS6.u _ HM7.u);obtain⟨st,hst⟩:=Nq (mkT p4);rw[hst]at HM8⊢;obtain⟨W8,hW8⟩:=Nq (W7.setCell ⟨X.g,i*9+7,none⟩ (.string st));rw[hW8]at HM8;obtain⟨d3,d4,d5,d6,d8⟩:=HSC.u _ _ HM8.u;have HT:=h_ (q7b a5 (p4+1) n5 c5 _ _ W8 (by omega) b4.2 (by omega) (HLL.u _ _ HM8.u).2.2.2.2);rw[HP5.u,show((p4+1:Nat):Int)=(p4:Int)+1 by omega]at HT;clear d3 d4 d5 d6;go_wp2_with fail
    try rw[hW8]
    refine HT.u.mono ?_;rintro e W9 ⟨rfl,hp,hm3⟩;have HM9:=h_ (HS7.u _ _ HM8.u hp hm3);clear hm3 hp HT hW8 hst d8 c7' f7 HM8 HM7 HB7;go_wp2_with fail;go_roundw
    case rel=>first | exact⟨i+1,by omega,by go_num,by rw[HE.u],fun _=>HM9.u.next,HM9.u.tc⟩ | ((repeat apply Exists.intro);exact⟨⟨i+1,by omega,by go_num,by rw[HE.u],fun _=>HM9.u.next,HM9.u.tc⟩,rfl⟩)
    case measure=>simp[intOf];omega
  . obtain rfl:i=n:=by omega
    have hlt':¬ (i:Int)<(i:Int):=(by omega);have HM:=h_ hm;obtain⟨q,hq⟩:=Nq (kNo X.K X.l i);rw[hq];clear hm;go_wp2_with fail;go_ret;exact⟨rfl,HM.u,HTC.u⟩
end Go.Proofs.YtfmammdgehbjhaaGreatDoor
