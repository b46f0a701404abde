import Derived.Test.YtmdjbldpclbkhaaGreatDoorW22
set_option linter.all false
namespace Go.Proofs.YtmdjbldpclbkhaaGreatDoor
open Value renaming slice->Sl,string->St,bool->Bo
open Obj renaming cells->Cl
open Ending renaming returned->Rt
section
open Go Go.Proofs.Tryz
def ka3 (m:Fm)(k j:Nat):List Nat:=(List.range k).flatMap λi=>List.replicate ((kbp m i).count j) i
def qd7 (m:Fm)(j:Nat):ka3 m 0 j=[]:=rfl
theorem qd6 (m:Fm)(k j:Nat):ka3 m (k+1) j=ka3 m k j++List.replicate ((kbp m k).count j) k:=by unfold ka3;rw[Zn,Zt];simp
def qnx (m:Fm)(k j:Nat):∀a,a∈ka3 m k j->a<k:=by grind[ka3]
theorem q92 (m:Fm)(j i:Nat):∀a,(ka3 m a j).count i=if i<a then (kbp m i).count j else 0:=by intro a;induction a with|zero=>rfl|succ a e=>rw[qd6,O5,e,List.count_replicate];by_cases b:i<a;{have c:(a==i)=false:=Yl.2 fP;rw[Y6 b,Y6 (show i<a+1 by omega),c];simp};by_cases d:i=a;{subst d;rw[Y2 b,Y6 (show i<i+1 by omega)];simp};have c:(a==i)=false:=Yl.2 fP;rw[Y2 b,Y2 (show ¬ i<a+1 by omega),c];simp
def qlg (l:List Nat)(b:∀a,a∈l->a=0):l.sum=0:=by induction l <;> simp_all
def qft (n:Nat)(l:List Nat)(e:∀b,b∈l->b<n):((List.range n).map λa=>l.count a).sum=l.length:=by induction l with|nil=>refine qlg _ λi d=>?_;obtain⟨a,-,rfl⟩:=Ze.1 d;rfl|cons b l f=>have m:=e b Y7;have g:=f λi d=>e i (Zc _ d);have c:((List.range n).map λa=>(b :: l).count a).sum=((List.range n).map λa=>l.count a).sum+((List.range n).map λa=>if a=b then 1 else 0).sum:=(by clear f g e m;induction n with|zero=>rfl|succ n h=>rw[Zn];simp only[Zl,Gj,Zz,Vq,Gw,G7,Z4];rw[h,List.count_cons];have:(if (b==n)=true then 1 else 0)=if n=b then 1 else 0:=(by by_cases c:n=b;{subst c;simp};rw[Y2 c,Y2 f9]);rw[this];omega);have j:((List.range n).map λa=>if a=b then 1 else 0).sum=1:=(by clear c f g e;induction n with|zero=>omega|succ n h=>rw[Zn];simp only[Zl,Gj,Zz,Vq,Gw,G7,Z4];by_cases c:n=b;{subst c;rw[Y6 rfl];have:((List.range n).map λa=>if a=n then 1 else 0).sum=0:=(by refine qlg _ λi d=>?_;obtain⟨a,k,rfl⟩:=Ze.1 d;rw[Y2 (by have:=Zf.1 k;omega)]);omega};rw[Y2 c,h fP]);rw[c,j,g,Yy]
inductive Rch (m:Fm)(k:Nat):Nat->Prop
 | one {i:Nat}:i<m.F.length->kbZ m k i=true->Rch m k i
 | step {j i:Nat}:Rch m k j->i<m.F.length->kbZ m j i=true->Rch m k i
def Rch.lt {m:Fm}{k i:Nat}(a:Rch m k i):i<m.F.length:=by cases a <;> assumption
def q3e {m:Fm}{k:Nat}{M:Nat->Bool}(d:∀b,(b=k∨M b=true)->∀a,a<m.F.length->kbZ m b a=true->M a=true):∀a,Rch m k a->M a=true:=by intro a e;induction e with|one c b=>exact d k (.inl rfl) _ c b|step _ c b f=>exact d _ (.inr f) _ c b
end
section
open Go Go.RowKit Go.Proofs.Tryz
def up {α:Type}(f:Nat->α)(j:Nat)(v:α):Nat->α:=λi=>if i=j then v else f i
theorem ka1 {a:Type}(f:Nat->a)(j:Nat)(v:a):up f j v j=v:=Y6 rfl
theorem kaS {a:Type}(f:Nat->a){i j:Nat}(v:a)(b:i≠j):up f j v i=f i:=Y2 b
def kdJ {b:Type}(g:b->Value)(f:Nat->b)(n j:Nat)(v:b):((List.range n).map λa=>g (f a)).set j (g v)=(List.range n).map λa=>g (up f j v a):=by refine List.ext_getElem fT λe d h=>?_;simp only[Oy,Zk,G0]at d;rw[List.getElem_set];simp only[Og,List.getElem_range];by_cases a:j=e;{subst a;rw[Y6 rfl,ka1]};rw[Y2 a,kaS f v (λc=>a c.symm)]
def zs (n:Nat)(f:Nat->Int):Tl:=(List.range n).map λk=>.int .i64 (f k)
def kep {n i:Nat}(f:Nat->Int)(a:i<n):(zs n f)[i]? = some (Yf (f i)):=by grind[zs]
theorem keq {n j:Nat}(f:Nat->Int)(v:Int):(zs n f).set j (Yf v)=zs n (up f j v):=kdJ (λa=>Yf a) f n j v
theorem qm6 {n:Nat}{f g:Nat->Int}(b:∀a,a<n->f a=g a):zs n f=zs n g:=Z7 λa c=>by rw[b a (Zf.1 c)]
def qap {X:Nat->Prop}{w w':Tw}{base n size:Nat}{e:TypeId}{v:Value}{x:Tl}(c:w.ownsRow base e size v n x)(k:kaM X w w')(l:∀a,X a->a<base):w'.ownsRow base e size v n x:=by refine⟨c.1,?_⟩;rcases c.2 with g | ⟨a,d,b,f,i,j,m⟩;{exact .inl g};exact .inr ⟨a,d,b,f,i,k.same a b e _ (λh=>by have:=l a h;omega) j,m⟩
def qer {w w':Tw}{base n size:Nat}{e:TypeId}{v:Value}{x:Tl}(b:w.ownsRow base e size v n x)(a:Bw w w'):w'.ownsRow base e size v n x :=
 b.kept (row:=none) ⟨a.os,a.tape,a.output,a.size,λd c _=>a.block d c⟩ (Classical.em _)
structure Fam (w:Tw)(base n:Nat)(V:Nat->Value)(L:Nat->List Nat):Prop where
 own:∀j,j<n->w.ownsRow base 3 1 (V j) (L j).length (ui (L j))
 apart:∀i j,i<n->j<n->i≠j->(V i).ownBlock=none∨(V i).ownBlock≠(V j).ownBlock
def Fam.mono {w w':Tw}{base n:Nat}{a:Nat->Value}{L:Nat->List Nat}(b:Fam w base n a L)(c:Bw w w'):Fam w' base n a L:=⟨λe d=>qer (b.own e d) c,b.apart⟩
def Fam.keep {X:Nat->Prop}{w w':Tw}{base n:Nat}{a:Nat->Value}{L:Nat->List Nat}(b:Fam w base n a L)(d:kaM X w w')(e:∀c,X c->c<base):Fam w' base n a L:=⟨λf c=>qap (b.own f c) d e,b.apart⟩
def Fam.none (w:Tw)(base n:Nat):Fam w base n (λ_=>Sl none 0 0) (λ_=>[]):=⟨λ_ _=>World.ownsRow_nil _ _ _ _,λ_ _ _ _ _=>.inl rfl⟩
def Fam.sub {w:Tw}{base n k:Nat}{b:Nat->Value}{L:Nat->List Nat}(c:Fam w base n b L)(g:k<=n):Fam w base k b L:=⟨λa d=>c.own a fP,λe a f d=>c.apart e a fP fP⟩
def Fam.congr {w:Tw}{base n:Nat}{e f:Nat->Value}{L d:Nat->List Nat}(g:Fam w base n e L)(c:∀a,a<n->f a=e a)(j:∀a,a<n->d a=L a):Fam w base n f d :=
 ⟨λa b=>by rw[c a b,j a b];exact g.own a b,λi a h b k=>by rw[c i h,c a b];exact g.apart i a h b k⟩
def ker {w:Tw}{base n size k:Nat}{e:TypeId}{v:Value}{x:Tl}(a:w.ownsRow base e size v n x)(b:k ≥ w.1.size):v.ownBlock≠some k:=λe=>by have:=(a.lt k e).2;omega
def Fam.snoc {w w':Tw}{base n:Nat}{e:Nat->Value}{L:Nat->List Nat}{v:Value}{l:List Nat}(f:Fam w base n e L)(j:Bw w w')(t:base<=w.1.size)(g:w'.ownsRow w.1.size 3 1 v l.length (ui l)):Fam w' base (n+1) (up e n v) (up L n l):=by have s:w'.ownsRow base 3 1 v l.length (ui l):=(by refine⟨g.1,?_⟩;rcases g.2 with i | ⟨d,a,b,c,j,h⟩;{exact .inl i};exact .inr ⟨d,a,b,c,fP,h⟩);refine⟨λd r=>?_,λa d k r m=>?_⟩;{by_cases b:d=n;{subst b;rw[ka1,ka1];exact s};rw[kaS _ _ b,kaS _ _ b];exact qer (f.own d fP) j};have o:∀a,a<n->(e a).ownBlock=Option.none∨(e a).ownBlock≠v.ownBlock:=λa k=>(by cases p:(e a).ownBlock with|none=>exact .inl rfl|some h=>refine .inr λq=>?_;have c:=((f.own a k).lt h p).2;have i:=(g.lt h q.symm).1;omega);by_cases i:a=n;{subst i;rw[ka1,kaS _ _ (λb=>m b.symm)];rcases o d fP with c | c;{rw[c];cases v.ownBlock with|none=>exact .inl rfl|some h=>exact .inr fT};exact .inr λb=>c b.symm};rw[kaS _ _ i];by_cases b:d=n;{subst b;rw[ka1];exact o a fP};rw[kaS _ _ b];exact f.apart a d fP fP m
def Fam.add {w w':Tw}{base n j x:Nat}{g:Nat->Value}{L:Nat->List Nat}{v:Value}(d:Fam w base n g L)(p:j<n)(q:w'.ownsRow base 3 1 v (L j++[x]).length (ui (L j++[x])))(o:w.grownBy w' (g j).ownBlock)(m:v.ownBlock=(g j).ownBlock∨v.ownBlock=some w.1.size):Fam w' base n (up g j v) (up L j (L j++[x])):=by refine⟨λb e=>?_,λb f e h i=>?_⟩;{by_cases a:b=j;{subst a;rw[ka1,ka1];exact q};rw[kaS _ _ a,kaS _ _ a];exact(d.own b e).kept o (d.apart b j e p a)};by_cases a:b=j;{subst a;rw[ka1,kaS _ _ (λa=>i a.symm)];rcases m with c | c;{rw[c];exact d.apart b f e h i};exact .inr λk=>ker (d.own f h) (nR _) (k.symm.trans c)};rw[kaS _ _ a];by_cases l:f=j;{subst l;rw[ka1];rcases m with c | c;{rw[c];exact d.apart b f e h i};exact .inr λk=>ker (d.own b e) (nR _) (k.trans c)};rw[kaS _ _ l];exact d.apart b f e h i
def ka2 (w:Tw)(F n:Nat)(V:Nat->Value):Prop:=Blk w F 34 ((List.range n).map V)
def ka2.at {w:Tw}{F n j:Nat}{a:Nat->Value}(b:ka2 w F n a)(c:j<n):w.cell? ⟨F,j,none⟩=some (a j):=by have:=Blk.cell b j;rw[this];simp[c]
def ka2.congr {w:Tw}{F n:Nat}{b c:Nat->Value}(d:ka2 w F n b)(e:∀a,a<n->c a=b a):ka2 w F n c:=by unfold ka2;rw[Z7 λa f=>e a (Zf.1 f)];exact d
def qlb {w w':Tw}{base F n N j x:Nat}{b:Nat->Value}{L:Nat->List Nat}{v:Value}(i:ka2 w F n b)(m:F<base)(c:Fam w base N b L)(f:j<N)(l:w'.ownsRow base 3 1 v (L j++[x]).length (ui (L j++[x])))(e:w.grownBy w' (b j).ownBlock)(k:v.ownBlock=(b j).ownBlock∨v.ownBlock=some w.1.size):ka2 (w'.setCell ⟨F,j,none⟩ v) F n (up b j v)/\Fam (w'.setCell ⟨F,j,none⟩ v) base N (up b j v) (up L j (L j++[x])):=by constructor;{have h:Blk w' F 34 ((List.range n).map b):=Blk.grown i e (λd=>by have:=((c.own j f).lt F d.symm).1;omega);have d:=h.set j v;rw[show((List.range n).map b).set j v=(List.range n).map λg=>up b j v g from kdJ (λx=>x) b n j v]at d;exact d};exact(c.add f l e k).keep (X:=λd=>d=F) (kaM.set (a:=⟨F,j,none⟩) v rfl) (λg d=>by omega)
def q8f {W w w':Tw}{base F j n:Nat}{v u:Value}{x:Tl}(c:Below F W w)(g:F<base)(b:F<w.1.size)(e:w.ownsRow base 3 1 u n x)(d:w.grownBy w' u.ownBlock):Below F W (w'.setCell ⟨F,j,none⟩ v) :=
 (c.grown d (Oa b) (λf a=>by have:=(e.lt f a).1;omega)).setCell (p:=⟨F,j,none⟩) (nR _) v
def kc5 (m:Fm)(k i j:Nat):List Nat:=ka3 m k j++List.replicate (((kbp m k).take i).count j) k
def qd5 (m:Fm)(k:Nat):kc5 m k 0=ka3 m k:=by grind[kc5]
def qd3 (m:Fm)(k:Nat):kc5 m k (kbp m k).length=ka3 m (k+1):=by grind[kc5,kbp,ka3,qd6]
def jy {p:Prop}(h:p:=by rw[kaS _ _ a,List.count_singleton,Y2 (by simpa using λb=>a b.symm),Z4]):p:=h
def qd4 {m:Fm}{k i:Nat}(b:i<(kbp m k).length):kc5 m k (i+1)=up (kc5 m k i) (kbp m k)[i] (kc5 m k i (kbp m k)[i]++[k]):=by funext j;unfold kc5;rw[Yz b,O5];by_cases a:j=(kbp m k)[i];{subst a;rw[ka1,List.count_singleton_self,Vc,List.replicate_succ']};exact jy
def qkm {l:List Nx}(a:kad l=true):l.length<=1000:=by unfold kad at a;rw[Vg]at a;rcases a with a | a;{have:=Zx a;omega};unfold vxL at a;exact((qsq _ _).1 a).2.1
def qho {m:Fm}(e:VfA m){k:Nat}(c:k<m.F.length):(kbp m k).length<=2000:=by have d:=(q68 _ _ _).1 (e.fi _ (Yr c));have f:=qkm d.i;have g:=qkm d.h;have b:∀a,(rdL (kaa m) a).length<=a.length:=λa=>(by unfold rdL;rw[Zk];exact Gk _ _);have a:=b m.F[k].is;have h:=b m.F[k].wh;unfold kbp;rw[qnr c,Ym];omega
def qhq {m:Fm}(c:VfA m)(j:Nat):∀b,b<=m.F.length->(ka3 m b j).length<=b*2000:=by intro b;induction b with|zero=>intro _;simp[qd7]|succ b d=>intro h;have e:=qho c (show b<m.F.length by omega);have f:=Gn (a:=j) (l:=kbp m b);have g:=d fP;rw[qd6,Ym,Ov];omega
def qhp {m:Fm}(b:VfA m){k:Nat}(c:k<m.F.length)(i j:Nat):(kc5 m k i j).length<=402000:=by have d:=qhq b j k fP;have e:=Gn (a:=j) (l:=(kbp m k).take i);have f:=qho b c;have g:=b.nf;have h:((kbp m k).take i).length<=(kbp m k).length:=List.length_take_le' _ _;unfold kc5;rw[Ym,Ov];omega
def kdu (L:Nat->List Nat)(j i:Nat):Nat:=((List.range j).map λp=>(L p).count i).sum
def qcj (L:Nat->List Nat)(i:Nat):kdu L 0 i=0:=rfl
theorem qch (L:Nat->List Nat)(j i:Nat):kdu L (j+1) i=kdu L j i+(L j).count i:=by unfold kdu;rw[Zn];simp
def kcr (L:Nat->List Nat)(j p i:Nat):Nat:=kdu L j i+((L j).take p).count i
def qcm (L:Nat->List Nat)(j:Nat):kcr L j 0=kdu L j:=by grind[kcr]
def qck (L:Nat->List Nat)(j:Nat):kcr L j (L j).length=kdu L (j+1):=by grind[kcr,kdu,qch]
theorem qcl {L:Nat->List Nat}{j p:Nat}(b:p<(L j).length)(i:Nat):kcr L j (p+1) i=up (kcr L j p) (L j)[p] (kcr L j p (L j)[p]+1) i:=by unfold kcr;rw[Yz b,O5];by_cases a:i=(L j)[p];{subst a;rw[ka1,List.count_singleton_self];omega};exact jy
def qci {m:Fm}(a:VfA m){i:Nat}(hi:i<m.F.length):((kdu (ka3 m m.F.length) m.F.length i:Nat):Int)=kaU m [] i:=by rw[qbp];unfold kdu;rw[Z7 (λb _=>by rw[q92,Y6 hi]),qft _ _ (qnw a hi)]
def qn4 {L:Nat->List Nat}{B:Nat}(c:∀b,(L b).length<=B)(i:Nat):∀b,kdu L b i<=b*B:=by intro b;induction b with|zero=>simp[qcj]|succ b d=>have:=Gn (a:=i) (l:=L b);have:=c b;rw[qch,Z8];omega
def kbc (m:Fm)(D:List Nat)(x p k:Nat):Int:=kaU m D k - (if k=x then 1 else 0) - ((ka3 m m.F.length x).take p).count k
def qbo (m:Fm)(D:List Nat)(x k:Nat):up (kaU m D) x (kaU m D x - 1) k=kbc m D x 0 k:=by grind[kbc,up]
def qbn {m:Fm}{D:List Nat}{x p:Nat}(b:p<(ka3 m m.F.length x).length)(k:Nat):up (kbc m D x p) (ka3 m m.F.length x)[p] (kbc m D x p (ka3 m m.F.length x)[p] - 1) k=kbc m D x (p+1) k:=by unfold kbc;rw[Yz b,O5];by_cases a:k=(ka3 m m.F.length x)[p];{subst a;rw[ka1,List.count_singleton_self];omega};have c:((ka3 m m.F.length x)[p]==k)=false:=Yl.2 λb=>a b.symm;rw[kaS _ _ a,List.count_singleton,c];simp
def qbm {m:Fm}{D:List Nat}{x k:Nat}(b:x ∉ D)(a:k<m.F.length):kbc m D x (ka3 m m.F.length x).length k=kaU m (D++[x]) k:=by grind[kbc,ka3,kaU,qgc,q92]
def Le (f:Nat->Bool)(n a b:Nat):Prop:=a<n/\b<n/\f (a*n+b)=true
theorem qjx {f:Nat->Bool}{n a b:Nat}:part f n (n*n) a b=true ↔ Le f n a b:=by unfold part Le;simp only[Yw,decide_eq_true_iff];constructor;{rintro⟨⟨e,g⟩,h⟩;refine⟨?_,e,h⟩;apply O9;intro i;have:=Z6 n i;omega};rintro⟨e,g,h⟩;exact⟨⟨g,kbD e g⟩,h⟩
section
variable {n:Nat} {f:Nat->Bool} {u c d:Nat->Nat}
def kcl (g:kar u (part f n (n*n))){a:Nat}(e:a<32)(b:Nat):(u a).testBit b=true ↔ Le f n a b:=by grind[kar,part,Le,qjx]
def kc0 (g:kar d (λb a=>decide (a<n)&&part f n (n*n) a b)){a:Nat}(e:a<32)(b:Nat):(d a).testBit b=true ↔ Le f n b a:=by grind[kar,part,Le,qjx]
def qf9 (q:n<=32)(i:kar u (part f n (n*n)))(m:kaT c (λa b=>a<n/\kaI u a b))(j:kfM u c=true):(∀a,a<n->Le f n a a)/\∀a b e,Le f n a b->Le f n b e->Le f n a e:=by rw[qf8]at j;have k:∀a b,a<n->kaI u a b->Le f n a b:=λa b h g=>(by rw[<- kcl i fP,j a fP,(m a fP).2 b];exact⟨h,g⟩);refine⟨λa h=>k a a h (kaI.refl _ _),λa b e g l=>?_⟩;have h:=g.1;have p:=g.2.1;have o:kaI u a b:=(kaI.refl u a).step fP ((kcl i fP b).2 g);exact k a e g.1 (o.step fP ((kcl i fP e).2 l))
def qsj (o:n<=32)(m:kar u (part f n (n*n)))(k:kar d (λb a=>decide (a<n)&&part f n (n*n) a b))(l:∀a,a<n->Le f n a a){a:Nat}(j:a<n):kal (u a) (d a)=2 ^ a ↔ ∀b,Le f n a b->Le f n b a->a=b:=by have i:∀b,(kal (u a) (d a)).testBit b=true ↔ Le f n a b/\Le f n b a:=λb=>(by rw[q5x (m a fP).1 (k a fP).1,Yw,kcl m fP,kc0 k fP]);constructor;{intro e b g h;have:=(i b).2 ⟨g,h⟩;rw[e,Oc,decide_eq_true_iff]at this;exact this};intro e;apply Nat.eq_of_testBit_eq;intro b;rw[Vh,i,Oc,decide_eq_true_iff];exact⟨λ⟨g,h⟩=>e b g h,λg=>by subst g;exact⟨l a j,l a j⟩⟩
def qag {s t:Nat}(e:s<4294967296)(g:t<4294967296):kaw s t=0 ↔ ∀a,s.testBit a=true->t.testBit a=true:=by constructor;{intro b a h;have:=qaf e g a;rw[b,h]at this;simpa using this.symm};intro b;apply Nat.eq_of_testBit_eq;intro a;rw[qaf e g a];cases h:s.testBit a;{simp};simp[b a h]
def qii (x:n<=32)(h:kar u (part f n (n*n))){a b e:Nat}(r:a<n)(s:b<n)(p:e<32):((kal (u a) (u b)).testBit e=true/\kaw (kal (u a) (u b)) (u e)=0) ↔ (e<n/\kaN f n a b e):=by have q:=(h a fP).1;have v:=(h b fP).1;rw[qag (q8p q) (h e p).1,q5x q v,Yw,kcl h fP,kcl h fP];have t:∀g,(kal (u a) (u b)).testBit g=true ↔ Le f n a g/\Le f n b g:=λg=>(by rw[q5x q v,Yw,kcl h fP,kcl h fP]);unfold kaN;constructor;{rintro⟨⟨j,l⟩,m⟩;refine⟨j.2.1,j.2.2,l.2.2,λg k i o=>?_⟩;exact((kcl h p g).1 (m g ((t g).2 ⟨⟨r,k,i⟩,⟨s,k,o⟩⟩))).2.2};rintro⟨k,j,l,m⟩;refine⟨⟨⟨r,k,j⟩,⟨s,k,l⟩⟩,λg w=>?_⟩;obtain⟨i,o⟩:=(t g).1 w;exact(kcl h p g).2 ⟨k,i.2.1,m g i.2.1 i.2.2 o.2.2⟩
def qj1 (x:n<=32)(h:kar d (λb a=>decide (a<n)&&part f n (n*n) a b)){a b e:Nat}(r:a<n)(s:b<n)(p:e<32):((kal (d a) (d b)).testBit e=true/\kaw (kal (d a) (d b)) (d e)=0) ↔ (e<n/\kaO f n a b e):=by have q:=(h a fP).1;have v:=(h b fP).1;rw[qag (q8p q) (h e p).1,q5x q v,Yw,kc0 h fP,kc0 h fP];have t:∀g,(kal (d a) (d b)).testBit g=true ↔ Le f n g a/\Le f n g b:=λg=>(by rw[q5x q v,Yw,kc0 h fP,kc0 h fP]);unfold kaO;constructor;{rintro⟨⟨j,l⟩,m⟩;refine⟨j.1,j.2.2,l.2.2,λg k i o=>?_⟩;exact((kc0 h p g).1 (m g ((t g).2 ⟨⟨k,r,i⟩,⟨k,s,o⟩⟩))).2.2};rintro⟨k,j,l,m⟩;refine⟨⟨⟨k,r,j⟩,⟨k,s,l⟩⟩,λg w=>?_⟩;obtain⟨i,o⟩:=(t g).1 w;exact(kc0 h p g).2 ⟨i.1,k,m g i.1 i.2.2 o.2.2⟩
def q8x (m:n<=32)(o:kar u (part f n (n*n))){a b:Nat}(k:a<n)(l:b<n){v:Int}(g:kbq u a b v):(∃e:Nat,e<n/\v=e/\kaN f n a b e)∨(v = -1/\∀e,e<n->¬ kaN f n a b e):=by rcases g with ⟨e,j,rfl,p,q⟩ | ⟨rfl,g⟩;{obtain⟨h,i⟩:=(qii m o k l j).1 ⟨p,q⟩;exact .inl ⟨e,h,rfl,i⟩};refine .inr ⟨rfl,λe j r=>?_⟩;obtain⟨h,i⟩:=(qii m o k l fP).2 ⟨j,r⟩;exact g e h i
def q8y (o:n<=32)(m:kar d (λb a=>decide (a<n)&&part f n (n*n) a b)){a b:Nat}(k:a<n)(l:b<n){v:Int}(g:kbq d a b v):(∃e:Nat,e<n/\v=e/\kaO f n a b e)∨(v = -1/\∀e,e<n->¬ kaO f n a b e):=by rcases g with ⟨e,j,rfl,p,q⟩ | ⟨rfl,g⟩;{obtain⟨h,i⟩:=(qj1 o m k l j).1 ⟨p,q⟩;exact .inl ⟨e,h,rfl,i⟩};refine .inr ⟨rfl,λe j r=>?_⟩;obtain⟨h,i⟩:=(qj1 o m k l fP).2 ⟨j,r⟩;exact g e h i
def qm9 (n x:Nat):(2 ^ n - 1).testBit x=true ↔ x<n:=by simp
def khi (k:n<=32)(g:kar u (part f n (n*n))){v:Int}(h:kcY u (2 ^ n - 1) v):(∃a:Nat,a<n/\v=a/\∀b,b<n->Le f n a b)∨(v = -1/\∀a,a<n->¬ ∀b,b<n->Le f n a b):=by rcases h with ⟨a,e,rfl,l,j⟩ | ⟨rfl,h⟩;{rw[qag (kdf k) (g a e).1]at j;exact .inl ⟨a,(qm9 n a).1 l,rfl,λb i=>(kcl g e b).1 (j b ((qm9 n b).2 i))⟩};refine .inr ⟨rfl,λa e m=>h a ((qm9 n a).2 e) ?_⟩;rw[qag (kdf k) (g a fP).1];exact λb i=>(kcl g fP b).2 (m b ((qm9 n b).1 i))
def khj (k:n<=32)(e:kar d (λb a=>decide (a<n)&&part f n (n*n) a b)){v:Int}(h:kcY d (2 ^ n - 1) v):(∃a:Nat,a<n/\v=a/\∀b,b<n->Le f n b a)∨(v = -1/\∀a,a<n->¬ ∀b,b<n->Le f n b a):=by rcases h with ⟨a,g,rfl,l,j⟩ | ⟨rfl,h⟩;{rw[qag (kdf k) (e a g).1]at j;exact .inl ⟨a,(qm9 n a).1 l,rfl,λb i=>(kc0 e g b).1 (j b ((qm9 n b).2 i))⟩};refine .inr ⟨rfl,λa g m=>h a ((qm9 n a).2 g) ?_⟩;rw[qag (kdf k) (e a fP).1];exact λb i=>(kc0 e fP b).2 (m b ((qm9 n b).1 i))
def qo7 {n:Nat}{f:Nat->Bool}(s:1<=n)(o:∀b e a,Le f n b e->Le f n e a->Le f n b a)(m:∀b,b<n->∀e,e<n->∃a,a<n/\kaO f n b e a):∃a,a<n/\∀b,b<n->Le f n a b:=by have r:∀e,e<=n->∃a,a<n/\∀b,b<e->Le f n a b:=λe=>(by induction e with|zero=>exact λ_=>⟨0,fP,λb g=>absurd g (nL _)⟩|succ e q=>intro t;obtain⟨a,h,p⟩:=q fP;obtain⟨i,g,k,l,-⟩:=m a h e fP;refine⟨i,g,λb v=>?_⟩;by_cases j:b=e;{subst j;exact⟨g,fP,l⟩};exact o i a b ⟨g,h,k⟩ (p b fP));exact r n (nR _)
def qo9 {n:Nat}{f:Nat->Bool}(s:1<=n)(o:∀b e a,Le f n b e->Le f n e a->Le f n b a)(m:∀b,b<n->∀e,e<n->∃a,a<n/\kaN f n b e a):∃a,a<n/\∀b,b<n->Le f n b a:=by have r:∀e,e<=n->∃a,a<n/\∀b,b<e->Le f n b a:=λe=>(by induction e with|zero=>exact λ_=>⟨0,fP,λb g=>absurd g (nL _)⟩|succ e q=>intro t;obtain⟨a,h,p⟩:=q fP;obtain⟨i,g,k,l,-⟩:=m a h e fP;refine⟨i,g,λb v=>?_⟩;by_cases j:b=e;{subst j;exact⟨fP,g,l⟩};exact o b a i (p b fP) ⟨h,g,k⟩);exact r n (nR _)
def qik {n a b e q:Nat}{f:Nat->Bool}(k:∀a b,Le f n a b->Le f n b a->a=b)(i:e<n)(j:q<n)(g:kaN f n a b e)(h:kaN f n a b q):e=q :=
 k e q ⟨i,j,g.2.2 q j h.1 h.2.1⟩ ⟨j,i,h.2.2 e i g.1 g.2.1⟩
def qj2 {n a b e q:Nat}{f:Nat->Bool}(k:∀a b,Le f n a b->Le f n b a->a=b)(i:e<n)(j:q<n)(g:kaO f n a b e)(h:kaO f n a b q):e=q :=
 k e q ⟨i,j,h.2.2 e i g.1 g.2.1⟩ ⟨j,i,g.2.2 q j h.1 h.2.1⟩
def qdn {n i:Nat}(a:i<n*n):i / n<n/\i % n<n/\i / n*n+i % n=i:=by have b:0<n:=(by apply Nat.pos_of_ne_zero;intro e;subst e;simp at a);exact⟨(Nat.div_lt_iff_lt_mul b).2 a,Gl _ b,by rw[Nat.mul_comm];exact Nat.div_add_mod i n⟩
end
end
section
open Go Go.Proofs.Tryz
structure kbY (N:Nat)(le:Nat->Nat->Prop)(jn:Nat->Nat->Nat)(bot:Nat):Prop where
 refl:∀a,a<N->le a a
 trans:∀a b c,a<N->b<N->c<N->le a b->le b c->le a c
 anti:∀a b,a<N->b<N->le a b->le b a->a=b
 bl:bot<N
 bot:∀a,a<N->le bot a
 jl:∀a b,a<N->b<N->jn a b<N
 j1:∀a b,a<N->b<N->le a (jn a b)
 j2:∀a b,a<N->b<N->le b (jn a b)
 j3:∀a b c,a<N->b<N->c<N->le a c->le b c->le (jn a b) c
section
variable {N:Nat} {le:Nat->Nat->Prop} {jn:Nat->Nat->Nat} {bot:Nat}
def kbY.fold_lt (L:kbY N le jn bot):∀(c:List Nat) (a:Nat),a<N->(∀b,b∈c->b<N)->c.foldl jn a<N:=by intro c;induction c with|nil=>intro a d _;exact d|cons b c g=>intro a d e;exact g (jn a b) (L.jl a b d (e b Y7)) λh f=>e h (Zc _ f)
def kbY.fold_ge (L:kbY N le jn bot):∀(c:List Nat) (a:Nat),a<N->(∀b,b∈c->b<N)->le a (c.foldl jn a)/\∀b,b∈c->le b (c.foldl jn a):=by intro c;induction c with|nil=>intro a e _;exact⟨L.refl a e,λb f=>by cases f⟩|cons b c n=>intro a e i;have f:=i b Y7;have h:=L.jl a b e f;have j:∀d,d∈c->d<N:=λd g=>i d (Zc _ g);obtain⟨l,m⟩:=n (jn a b) h j;have k:=L.fold_lt c (jn a b) h j;refine⟨L.trans _ _ _ e h k (L.j1 a b e f) l,λd g=>?_⟩;rcases Zw.1 g with rfl | g;{exact L.trans _ _ _ f h k (L.j2 a d e f) l};exact m d g
def kbY.fold_le (L:kbY N le jn bot):∀(d:List Nat) (a b:Nat),a<N->b<N->(∀c,c∈d->c<N/\le c b)->le a b->le (d.foldl jn a) b:=by intro d;induction d with|nil=>intro a b _ _ _ e;exact e|cons c d k=>intro a b g h e i;have f:=e c Y7;exact k (jn a c) b (L.jl a c g f.1) h (λl j=>e l (Zc _ j)) (L.j3 a c b g f.1 h i f.2)
structure Sol (m:Fm)(N:Nat)(le:Nat->Nat->Prop)(f:Nat->Nat):Prop where
 lt:∀k,k<m.F.length->f k<N
 decl:∀k,k<m.F.length->0<=(fAt m k).lb->(f k:Int)=(fAt m k).lb
 up:∀k,k<m.F.length->(fAt m k).lb<0->∀j,j<m.F.length->kc2 m j k=true->le (f j) (f k)
def Low (m:Fm)(N:Nat)(le:Nat->Nat->Prop)(f:Nat->Nat):Prop:=∀g,Sol m N le g->∀k,k<m.F.length->le (f k) (g k)
def qe4 (L:kbY N le jn bot){m:Fm}{f g:Nat->Nat}(c:Sol m N le f)(d:Sol m N le g)(e:Low m N le f)(h:Low m N le g):∀a,a<m.F.length->f a=g a :=
 λa b=>L.anti _ _ (c.lt a b) (d.lt a b) (e g d a b) (h f c a b)
def kaP (m:Fm)(bot k:Nat):Nat:=if (fAt m k).lb<0 then bot else (fAt m k).lb.toNat
def qfs (L:kbY N le jn bot){m:Fm}:Low m N le (kaP m bot):=by intro g hg k hk;unfold kaP;split;{exact L.bot _ (hg.lt k hk)};rename_i h;have:=hg.decl k hk fP;rw[show(fAt m k).lb.toNat=g k by omega];exact L.refl _ (hg.lt k hk)
def qkf (L:kbY N le jn bot){m:Fm}{f:Nat->Nat}(p:Low m N le f)(j:∀k,k<m.F.length->f k<N){k:Nat}(h:k<m.F.length)(l:(fAt m k).lb<0)(a:Nat)(n:a<N)(o:∀b,Sol m N le b->le a (b k))(i:List Nat)(r:∀g,g∈i->∃c,c<m.F.length/\kc2 m c k=true/\g=f c):∀b,Sol m N le b->le (i.foldl jn a) (b k):=by intro b d;refine L.fold_le i a (b k) n (d.lt k h) (λg s=>?_) (o b d);obtain⟨c,e,q,rfl⟩:=r g s;exact⟨j c e,L.trans _ _ _ (j c e) (d.lt c e) (d.lt k h) (p b d c e) (d.up k h l c e q)⟩
end
def qk6 {m:Fm}{k x:Nat}{D:List Nat}(f:k<m.F.length)(j:nxt m D=some x):Rch m k x ↔ ∃a,a∈D/\a<m.F.length/\kbZ m a x=true/\(a=k∨Rch m k a):=by obtain⟨g,d,-⟩:=qjj j;have e:∀a,a<m.F.length->kbZ m a x=true->a∈D:=(by intro a c b;unfold keL at d;rw[Yw,Zg]at d;have:=d.2 a (Zf.2 c);rw[b]at this;simpa using this);constructor;{intro h;cases h with|one i b=>exact⟨k,e k f b,f,b,.inl rfl⟩|step c i b=>exact⟨_,e _ c.lt b,c.lt,b,.inr c⟩};rintro⟨a,-,-,b,rfl | c⟩;{exact .one g b};exact .step c g b
def kbA (M:Nat->Bool)(n:Nat):Nat:=((List.range n).filter M).length
theorem qcg (M:Nat->Bool)(n:Nat):kbA M (n+1)=kbA M n+if M n=true then 1 else 0:=by unfold kbA;rw[Zn,Gg,Ym];cases a:M n <;> simp[a]
theorem qn1 (M:Nat->Bool)(n:Nat):kbA M n<=n:=by grind[kbA]
def qgz {M:Nat->Bool}{n:Nat}(b:n<=kbA M n):∀a,a<n->M a=true:=by induction n <;> grind[kbA,qn1,qcg]
theorem q8o {M M':Nat->Bool}{n:Nat}(b:∀a,a<n->M a=M' a):kbA M n=kbA M' n:=by unfold kbA;rw[List.filter_congr λa c=>b a (Zf.1 c)]
def qn3 {M:Nat->Bool}{n i:Nat}(hi:i<n)(a:M i=false):kbA (up M i true) n=kbA M n+1:=by induction n <;> grind[up,kbA,qcg,ka1,q8o,kaS]
def Snd (m:Fm)(k:Nat)(M:Nat->Bool):Prop:=∀i,M i=true->Rch m k i
def Snd.up {m:Fm}{k i:Nat}{M:Nat->Bool}(d:Snd m k M)(e:Rch m k i):Snd m k (up M i true):=λc b=>by by_cases a:c=i;{subst a;exact e};rw[kaS _ _ a]at b;exact d c b
def Cls (m:Fm)(k:Nat)(M:Nat->Bool)(j:Nat):Prop:=(j=k∨M j=true)->∀i,i<m.F.length->kbZ m j i=true->M i=true
def qk5 {m:Fm}{k:Nat}{M:Nat->Bool}(b:Snd m k M)(c:m.F.length<=kbA M m.F.length):∀a,a<m.F.length->(M a=true ↔ Rch m k a):=λa d=>⟨b a,λ_=>qgz c a d⟩
def qb0 {m:Fm}{k:Nat}{M:Nat->Bool}(g:k<m.F.length)(d:Snd m k M)(f:∀b,b<m.F.length->Cls m k M b):∀a,a<m.F.length->(M a=true ↔ Rch m k a):=λa _ =>
 ⟨d a,q3e (λb e=>f b (by
  rcases e with c | c
  . rw[c];exact g
  . exact(d b c).lt) e) a⟩
def qk7 {m:Fm}{k j i:Nat}(c:j=k∨Rch m k j)(hi:i<m.F.length)(b:kbZ m j i=true):Rch m k i:=by rcases c with a | a;{subst a;exact .one hi b};exact .step a hi b
def ms (n:Nat)(M:Nat->Bool):Tl:=(List.range n).map λk=>Bo (M k)
def kdz {n i:Nat}(M:Nat->Bool)(a:i<n):(ms n M)[i]? = some (Bo (M i)):=by grind[ms]
def kft {n j:Nat}(M:Nat->Bool)(v:Bool):(ms n M).set j (Bo v)=ms n (up M j v):=kdJ (λa=>Bo a) M n j v
def qcf {M M':Nat->Bool}:∀{n:Nat},(∀a,a<n->M a=true->M' a=true)->kbA M n<=kbA M' n:=by intro n;induction n with|zero=>intro _;exact nR _|succ n d=>intro b;rw[qcg,qcg];have:=d λa c=>b a fP;have c:=b n fP;cases a:M n;{simp;split <;> omega};rw[c a];simp;exact this
def qn2 {M M':Nat->Bool}{j:Nat}:∀{n:Nat},(∀a,a<n->M a=true->M' a=true)->j<n->M j=false->M' j=true->kbA M n<kbA M' n:=by intro n;induction n with|zero=>intro _ b;omega|succ n g=>intro b h c d;rw[qcg,qcg];by_cases e:j=n;{subst e;have:=qcf (M:=M) (M':=M') (n:=j) λa f=>b a fP;rw[c,d];simp;omega};have:=g (λa f=>b a fP) fP c d;have f:=b n fP;cases a:M n;{simp;split <;> omega};rw[f a];simp;exact this
section
variable {N:Nat} {F:Nat->Nat->Bool} {jn:Nat->Nat->Nat} {bot:Nat}
def rkL (F:Nat->Nat->Bool)(N a:Nat):Nat:=kbA (λb=>F b a) N
def khc (F:Nat->Nat->Bool)(N a:Nat):rkL F N a<=N:=qn1 _ _
def qkg (L:kbY N (λa b=>F a b=true) jn bot){a b:Nat}(d:a<N)(e:b<N)(c:F a b=true):rkL F N a<=rkL F N b:=qcf λh f g=>L.trans h a b f d e g c
def khd (L:kbY N (λa b=>F a b=true) jn bot){a b:Nat}(e:a<N)(c:b<N)(d:F a b=true)(g:a≠b):rkL F N a<rkL F N b:=by refine qn2 (j:=b) (λi f h=>L.trans i a b f e c h d) c ?_ (L.refl b c);cases f:F b a;{rfl};exact absurd (L.anti a b e c d f) g
def kcF (F:Nat->Nat->Bool)(N n:Nat)(f:Nat->Nat):Nat:=((List.range n).map λk=>rkL F N (f k)).sum
def kfj (F:Nat->Nat->Bool)(N n:Nat)(f:Nat->Nat):kcF F N n f<=n*N:=by unfold kcF;induction n with|zero=>simp|succ n a=>rw[Zn];simp only[Zl,Gj,Zz,Vq,Gw,G7,Z4];have:=khc F N (f n);rw[Z8];omega
end
def qs7 {n:Nat}{f g:Nat->Nat}(b:∀a,a<n->f a<=g a):((List.range n).map f).sum<=((List.range n).map g).sum:=by induction n with|zero=>exact nR _|succ n c=>rw[Zn];simp only[Zl,Gj,Zz,Vq,Gw,G7,Z4];have:=c λa d=>b a fP;have:=b n fP;omega
def qs8 {n x:Nat}{f g:Nat->Nat}(b:∀a,a<n->f a<=g a)(i:x<n)(h:f x<g x):((List.range n).map f).sum<((List.range n).map g).sum:=by induction n with|zero=>omega|succ n e=>rw[Zn];simp only[Zl,Gj,Zz,Vq,Gw,G7,Z4];by_cases c:x=n;{subst c;have:=qs7 (n:=x) λa d=>b a fP;omega};have:=e (λa d=>b a fP) fP;have:=b n fP;omega
section
variable {N:Nat} {F:Nat->Nat->Bool} {jn:Nat->Nat->Nat} {bot:Nat}
def qk2 (L:kbY N (λa b=>F a b=true) jn bot){n:Nat}{f g:Nat->Nat}(d:∀a,a<n->f a<N)(e:∀a,a<n->g a<N)(c:∀a,a<n->F (f a) (g a)=true):kcF F N n f<=kcF F N n g:=qs7 λa b=>qkg L (d a b) (e a b) (c a b)
def kfk (L:kbY N (λa b=>F a b=true) jn bot){n x:Nat}{f g:Nat->Nat}(e:∀a,a<n->f a<N)(h:∀a,a<n->g a<N)(d:∀a,a<n->F (f a) (g a)=true)(b:x<n)(i:f x≠g x):kcF F N n f<kcF F N n g :=
 qs8 (λa c=>qkg L (e a c) (h a c) (d a c)) b (khd L (e x b) (h x b) (d x b) i)
end
def rdA (m:Fm)(k:Nat):List Nat:=[(fAt m k).is,(fAt m k).wh,(fAt m k).va,(fAt m k).mu].flatMap (rdL (kaa m))
def qpu {m:Fm}(a:VfA m){j k:Nat}(d:j<m.F.length)(e:k<m.F.length):j∈rdA m k ↔ kc2 m j k=true:=by have b:j<(kaa m).length:=(by rw[q91];exact d);have c:=a.knw e;unfold rdA kc2 kbZ kfp;simp only[Z3,List.flatMap_nil,Zv,Zd,Vg];rw[qpv a.nod c.1 b,qpv a.nod c.2.1 b,qpv a.nod c.2.2.1 b,qpv a.nod c.2.2.2 b,q90 d];exact⟨λa=>a.elim (λa=>.inl (.inl a)) λa=>a.elim (λa=>.inl (.inr a)) λa=>a.elim (λa=>.inr (.inl a)) λa=>.inr (.inr a),λa=>a.elim (λa=>a.elim .inl λa=>.inr (.inl a)) λa=>a.elim (λa=>.inr (.inr (.inl a))) λa=>.inr (.inr (.inr a))⟩
def kde {m:Fm}(d:VfA m){k:Nat}(e:k<m.F.length):∀b,b∈rdA m k->b<m.F.length:=by intro b a;have c:=d.knw e;unfold rdA at a;simp only[Z3,List.flatMap_nil,Zv,Zd]at a;rw[<- q91 m];rcases a with a | a | a | a;{exact kcS c.1 b a};{exact kcS c.2.1 b a};{exact kcS c.2.2.1 b a};exact kcS c.2.2.2 b a
structure LbA (m:Fm):Prop where
 nf:m.F.length<=200
 dc:∀k,k<m.F.length->-1<=(fAt m k).lb/\(fAt m k).lb<m.L.length
def VfA.lba {m:Fm}(a:VfA m):LbA m:=⟨a.nf,λb b=>by
 have:=(q68 _ _ _).1 (a.fi _ (Yr b));rw[qnr b];exact⟨this.l1,this.l2⟩⟩
theorem kcX {m:Fm}(a:LbA m){k:Nat}(b:k<m.F.length):-1<=(fAt m k).lb/\(fAt m k).lb<m.L.length:=a.dc k b
structure Way (m:Fm)(N:Nat)(le:Nat->Nat->Prop)(f:Nat->Nat):Prop where
 low:Low m N le f
 lt:∀k,k<m.F.length->f k<N
 decl:∀k,k<m.F.length->0<=(fAt m k).lb->(f k:Int)=(fAt m k).lb
section
variable {N:Nat} {le:Nat->Nat->Prop} {jn:Nat->Nat->Nat} {bot:Nat}
def qge (L:kbY N le jn bot){m:Fm}(b:LbA m)(e:m.L.length=N):Way m N le (kaP m bot):=by refine⟨qfs L,λc a=>?_,λc a d=>?_⟩;{unfold kaP;have:=kcX b a;split;{exact L.bl};omega};unfold kaP;rw[Y2 fP];omega
def Way.rise (L:kbY N le jn bot){m:Fm}{f:Nat->Nat}(d:Way m N le f){k:Nat}(q:k<m.F.length)(o:(fAt m k).lb<0)(a:Nat)(i:a<N)(p:∀e,Sol m N le e->le a (e k))(h:List Nat)(l:∀c,c∈h->∃b,b<m.F.length/\kc2 m b k=true/\c=f b):Way m N le (up f k (h.foldl jn a)):=by have r:h.foldl jn a<N:=L.fold_lt h a i λc g=>(by obtain⟨b,j,-,rfl⟩:=l c g;exact d.lt b j);refine⟨λe j c g=>?_,λc g=>?_,λc g n=>?_⟩;{by_cases b:c=k;{subst b;rw[ka1];exact qkf L d.low d.lt q o a i p h l e j};rw[kaS _ _ b];exact d.low e j c g};{by_cases b:c=k;{subst b;rw[ka1];exact r};rw[kaS _ _ b];exact d.lt c g};by_cases b:c=k;{subst b;omega};rw[kaS _ _ b];exact d.decl c g n
def Way.sol {m:Fm}{f:Nat->Nat}(c:Way m N le f)(d:∀a,a<m.F.length->(fAt m a).lb<0->∀b,b<m.F.length->kc2 m b a=true->le (f b) (f a)):Sol m N le f:=⟨c.lt,c.decl,d⟩
end
section
variable {N:Nat} {le:Nat->Nat->Prop} {jn:Nat->Nat->Nat} {bot:Nat}
def rdO (m:Fm)(k q:Nat):List Nat:=(List.range q).filter λj=>kc2 m j k
def qk8 (m:Fm)(k q:Nat):rdO m k (q+1)=rdO m k q++if kc2 m q k=true then [q] else []:=by unfold rdO;rw[Zn,Gg];congr 1;cases a:kc2 m q k <;> simp[a]
def qpw {m:Fm}{k q j:Nat}:j∈rdO m k q ↔ j<q/\kc2 m j k=true:=by simp[rdO]
def jac (m:Fm)(jn:Nat->Nat->Nat)(f:Nat->Nat)(k:Nat):Nat:=if (fAt m k).lb<0 then ((rdO m k m.F.length).map f).foldl jn (f k) else f k
def kdM {m:Fm}{f:Nat->Nat}(b:∀k,k<m.F.length->f k<N)(k q:Nat)(c:q<=m.F.length):∀a,a∈(rdO m k q).map f->a<N:=by grind[rdO]
def Way.jac (L:kbY N le jn bot){m:Fm}{f:Nat->Nat}(h:Way m N le f):Way m N le (jac m jn f):=by refine⟨λg hg k hk=>?_,λk hk=>?_,λk hk h0=>?_⟩;{unfold Proofs.YtmdjbldpclbkhaaGreatDoor.jac;split;{rename_i ha;refine qkf L h.low h.lt hk ha (f k) (h.lt k hk) (λg hg=>h.low g hg k hk) _ (λx hx=>?_) g hg;obtain⟨j,hj,rfl⟩:=Ze.1 hx;exact⟨j,(qpw.1 hj).1,(qpw.1 hj).2,rfl⟩};exact h.low g hg k hk};{unfold Proofs.YtmdjbldpclbkhaaGreatDoor.jac;split;{exact L.fold_lt _ _ (h.lt k hk) (kdM h.lt k _ (nR _))};exact h.lt k hk};unfold Proofs.YtmdjbldpclbkhaaGreatDoor.jac;rw[Y2 fP];exact h.decl k hk h0
def kha (L:kbY N le jn bot){m:Fm}{f:Nat->Nat}(b:Way m N le f):∀a,a<m.F.length->le (f a) (jac m jn f a):=λa c=>by unfold jac;split;{exact(L.fold_ge _ _ (b.lt a c) (kdM b.lt a _ (nR _))).1};exact L.refl _ (b.lt a c)
def qow (L:kbY N le jn bot){m:Fm}{f:Nat->Nat}(b:Way m N le f)(e:∀a,a<m.F.length->jac m jn f a=f a):Sol m N le f:=b.sol λa c d i g h=>by have:=e a c;unfold jac at this;rw[Y6 d]at this;rw[<- this];exact(L.fold_ge _ _ (b.lt a c) (kdM b.lt a _ (nR _))).2 _ (Ze.2 ⟨i,qpw.2 ⟨g,h⟩,rfl⟩)
def rdV (m:Fm)(jn:Nat->Nat->Nat)(bot:Nat)(f:Nat->Nat)(k:Nat):Nat:=((rdA m k).map f).foldl jn bot
def kb4 (L:kbY N le jn bot){m:Fm}(g:VfA m){f:Nat->Nat}(c:∀k,k<m.F.length->f k<N){k:Nat}(e:k<m.F.length):(∀a,a∈(rdA m k).map f->a<N)/\rdV m jn bot f k<N:=by have b:∀a,a∈(rdA m k).map f->a<N:=λa b=>(by obtain⟨a,d,rfl⟩:=Ze.1 b;exact c a (kde g e a d));exact⟨b,L.fold_lt _ _ L.bl b⟩
def Asc (m:Fm)(le:Nat->Nat->Prop)(jn:Nat->Nat->Nat)(bot:Nat)(f:Nat->Nat):Prop:=∀k,k<m.F.length->(fAt m k).lb<0->le (f k) (rdV m jn bot f k)
def qk9 (L:kbY N le jn bot){m:Fm}(j:VfA m){f g:Nat->Nat}(d:∀k,k<m.F.length->f k<N)(e:∀k,k<m.F.length->g k<N)(l:∀k,k<m.F.length->le (f k) (g k)){k:Nat}(i:k<m.F.length):le (rdV m jn bot f k) (rdV m jn bot g k):=by have b:=kb4 L j e i;refine L.fold_le _ _ _ L.bl b.2 (λo n=>?_) (L.bot _ b.2);obtain⟨a,h,rfl⟩:=Ze.1 n;have c:=kde j i a h;refine⟨d a c,L.trans _ _ _ (d a c) (e a c) b.2 (l a c) ?_⟩;exact(L.fold_ge _ _ L.bl b.1).2 _ (Ze.2 ⟨a,h,rfl⟩)
def qbw (L:kbY N le jn bot){m:Fm}(a:VfA m)(b:m.L.length=N):Asc m le jn bot (kaP m bot):=λe d c=>by rw[show kaP m bot e=bot by unfold kaP;rw[Y6 c]];exact L.bot _ (kb4 L a (qge L a.lba b).lt d).2
def qo5 (L:kbY N le jn bot){m:Fm}(c:VfA m){f:Nat->Nat}(e:Way m N le f)(i:Asc m le jn bot f){k:Nat}(d:k<m.F.length)(j:(fAt m k).lb<0):Way m N le (up f k (rdV m jn bot f k))/\Asc m le jn bot (up f k (rdV m jn bot f k))/\∀a,a<m.F.length->le (f a) (up f k (rdV m jn bot f k) a):=by have r:=(kb4 L c e.lt d).2;have h:Way m N le (up f k (rdV m jn bot f k)):=e.rise L d j bot L.bl (λb b=>L.bot _ (b.lt k d)) _ λb l=>(by obtain⟨g,b,rfl⟩:=Ze.1 l;exact⟨g,kde c d g b,(qpu c (kde c d g b) d).1 b,rfl⟩);have l:∀a,a<m.F.length->le (f a) (up f k (rdV m jn bot f k) a):=λa b=>(by by_cases g:a=k;{subst g;rw[ka1];exact i a b j};rw[kaS _ _ g];exact L.refl _ (e.lt a b));refine⟨h,λa b o=>?_,l⟩;have n:=qk9 L c e.lt h.lt l b;have q:=(kb4 L c h.lt b).2;have p:=(kb4 L c e.lt b).2;by_cases g:a=k;{subst g;rw[ka1];exact n};rw[kaS _ _ g];exact L.trans _ _ _ (e.lt a b) p q (i a b o) n
def khb (L:kbY N le jn bot){m:Fm}(c:VfA m){f:Nat->Nat}(d:Way m N le f)(g:∀a,a<m.F.length->(fAt m a).lb<0->rdV m jn bot f a=f a):Sol m N le f:=d.sol λa b e j h i=>by rw[<- g a b e];exact(L.fold_ge _ _ L.bl (kb4 L c d.lt b).1).2 _ (Ze.2 ⟨j,(qpu c h b).2 i,rfl⟩)
end
