import Derived.Test.YtenckgnkjkijnaaGreatDoorW44
import Derived.Test.YtenckgnkjkijnaaGreatDoorW40
set_option linter.all false
set_option maxRecDepth 100000
set_option maxHeartbeats 0
namespace Go.Proofs.YtenckgnkjkijnaaGreatDoor
section
open Go Go.RowKit Go.Proofs.Tryz
def kf3 (w:Tw)(n:Nat)(g:Nat->Cx)(r:Ending)(w':Tw):Prop:=∃a c,r=.returned (.slice a n c)/\w'.ownsRow w.1.size 75 6 (.slice a n c) n (cx6 g n)/\Bw w w'
def qdi (P:ShP)(c:Nat->Cx)(A:Nat->Vx)(w:Tw)(ae:P.m.F.length<=200)(i:ShI P c A w) :
 Calls prog 38 #[Ye P.Sh 0] w λa b=>kf3 w P.m.F.length c a b:=by
 obtain⟨B,r,j⟩:=i.slice;have HX:=h_ i;have af:w.cell? ⟨P.Sh,12,none⟩=some (.slice B P.m.F.length r):=by rw[<- j];exact i.blk.cell 12
 have H:=h_ j;obtain⟨e,t⟩:=Nq w.1.size;have k:Hi (∀a,Below e w a->ShI P c A a/\e<=a.1.size):=h_ λa g=>by rw[<- t]at g⊢;exact⟨i.mono g,g.size⟩
 have G:Hi (∀b d a,a.ownsRow e 75 6 (.slice b P.m.F.length d) P.m.F.length (cx6 c P.m.F.length)->Below e w a->kf3 w P.m.F.length c (.returned (.slice b P.m.F.length d)) a):=h_ λb d a a f=>by rw[<- t]at a f;exact⟨b,d,rfl,a,f⟩
 go_enter func38,ntmps38;go_wp2_with fail;go_loopw [3,5,11] (λC _ b wr=>∃(a:Nat) (l:To) (n:Nat),a<=P.m.F.length/\b=Yb a/\C=.slice l a n/\wr.ownsRow e 75 6 (.slice l a n) a (cx6 c a)/\Below e w wr) (λ_ _ b _=>P.m.F.length - (intOf b).toNat)
 case atStart=>exact⟨0,none,0,nZ _,rfl,rfl,World.ownsRow_nil _ _ _ _,bR _ _⟩
 case round =>
 obtain⟨a,l,n,hk,rfl,rfl,R,M⟩:=hrel;obtain⟨p,h⟩:=oB R M;by_cases y:a<P.m.F.length
 case pos =>
  have Q:(a:Int)<P.m.F.length:=cr
  have ad:(0:Int)<=a:=cr
  obtain⟨Z,J,j,T,-⟩:=(k _ h).1.at y;obtain⟨rfl,rfl⟩:B=some ⟨Z,0,none⟩/\r=J:=by have:=H.symm.trans j;simpa using this
  unfold ifV at T;have hm:=qqb (ka8 (fAt P.m a)) (P.Bs a);go_wp2_with fail;refine cQ (qqa _ _) λb x=>?_;have v:=h.trans (x.mono (k _ h).2);have K:=qm0 p x;obtain⟨L,U⟩:=k _ v;have f:=(L.bx a y).2;obtain⟨d,z⟩:=Nq (c a);rw[z]at f;have I:=h_ z;have q0:b.cell? ⟨P.Bs a,0,none⟩=some (Yb d.v.k):=by rw[f.cell];rfl
  have q1:b.cell? ⟨P.Bs a,1,none⟩=some (Yb d.v.n):=by rw[f.cell];rfl
  have q2:b.cell? ⟨P.Bs a,2,none⟩=some (.string d.v.s):=by rw[f.cell];rfl
  have q3:b.cell? ⟨P.Bs a,3,none⟩=some (.bool d.rel):=by rw[f.cell];rfl
  have q4:b.cell? ⟨P.Bs a,4,none⟩=some (.bool d.ok):=by rw[f.cell];rfl
  have q5:b.cell? ⟨P.Bs a,5,none⟩=some (.bool d.must):=by rw[f.cell];rfl
  obtain⟨E,q,D⟩:=oC (Blk.new b 75 (cxC d).toArray) K v;obtain⟨Y,O,V,W,X⟩:=info_parts qg7;go_wp2_with (at_builtin;refine wpList_append_own _ rfl _ _ 31 rfl e 75 Y _ 6 40 underlying31 O V W X rfl cr _ _ _ rfl (q.alloc _) ⟨b.1.size,0,none⟩ 1 1 (cxC d) rfl rfl (λo C C=>by rw[show(⟨b.1.size,0,none⟩:Addr).add o=⟨b.1.size,o,none⟩ by simp[Addr.add];try exact λg=>g.symm];exact(E.cell o).trans (by simpa [cxC] using C)) dH cE cr cz ?_);intro v' w3 S N _;have g:w3.ownsRow e 75 6 v' (a+1) (cx6 c (a+1)):=by rw[qjm,I.u];exact S
  obtain⟨aa,ac,rfl⟩:=kcg g;obtain⟨C,o⟩:=oB g ((D.alloc U (.cells (cxC d).toArray 75)).grown N cz (λq' c=>qcp q c));refine rQ ?_;exact⟨a+1,_,_,cr,cy,rfl,C,o⟩
 case neg =>
  obtain rfl:P.m.F.length=a:=cr
  have Q:¬ ((P.m.F.length:Nat):Int)<((P.m.F.length:Nat):Int):=cr
  have b:=h_ (G _ _ _ p h);go_wp2_with fail;go_ret;exact b
section
variable {P:ShP} {e:Nat->Cx} {iv:Nat->Vx} {W W':Tw}
def qcc {k:Nat}{o:Obj}(a:W.heap[k]? = some o):k<W.1.size:=(Yo.1 a).1
def ShI.out {lo hi:Nat}(a:ShI P e iv W)(d:Out lo hi W W')(j:P.WD.1.size<=lo)(h:∀b,b<P.m.F.length->P.Bs b<lo)(p:P.Sh<lo)(k:∀c,P.u.ownBlock=some c->c<lo)(o:P.pl<lo):ShI P e iv W' :=
 ⟨a.base.trans (d.below j a.base.size),a.snd,a.msl,a.lo,λb f=>⟨(a.bx b f).1,d.blk (a.bx b f).2 (by have:=h b f;omega)⟩,a.up,d.blk a.blk cr,qsm a.row λc e=>d.block c (by
  rcases a.row.2 with ⟨b,-⟩ | ⟨g,l,n,b,-,i,-⟩
  . rw[b]at e;cases e
  . rw[b]at e
    have f:g=c:=(by simpa [Value.ownBlock] using e);rw[<- f];exact qcc i) (by have:=k c e;omega),(d.block _ (qcc a.plm) cr).trans a.plm,a.plc,a.pll⟩
end
end
section
open Go Go.Proofs.Tryz
def kdD (m:Fm)(iv:Nat->Vx)(e:Nat->Cx)(k:Nat):Nat->Cx:=upC e k ⟨(Frv m iv (cS e) k).2,(Frv m iv (cS e) k).1,(e k).ok,(e k).must⟩
def qou (m:Fm)(b:Nat->Vx)(a:Nat->Cx)(k:Nat):cS (kdD m b a k)=kdd (Frv m b) (cS a) k:=by unfold kdD upC kdd cS;grind
def qov (m:Fm)(b:Nat->Vx)(l:List Nat)(a:Nat->Cx):cS (l.foldl (kdD m b) a)=l.foldl (kdd (Frv m b)) (cS a):=by induction l generalizing a with|nil=>rfl|cons d l c=>rw[List.foldl_cons,List.foldl_cons,c,qou]
def qpr (m:Fm)(b:Nat->Vx)(l:List Nat)(a:Nat->Cx)(j:Nat):((l.foldl (kdD m b) a) j).ok=(a j).ok/\((l.foldl (kdD m b) a) j).must=(a j).must:=by induction l generalizing a <;> simp_all[kdD,upC] <;> grind
def qk8 (m:Fm)(b:Nat->Vx)(l:List Nat)(a:Nat->Cx):l.foldl (kdD m b) a=ceR a (l.foldl (kdd (Frv m b)) (cS a)):=by funext j;have c:=qpr m b l a j;unfold ceR;rw[<- qov,<- c.1,<- c.2];rfl
def kfy (m:Fm):∀b a (c:a<(kak m b).length),nxt m ((kak m b).take a)=some (kak m b)[a]:=by intro b;induction b with|zero=>intro a c;exact absurd c (nL _)|succ b g=>intro a c;cases e:nxt m (kak m b) with|none=>have d:=qh4 e;simp only[d]at c⊢;exact g a c|some h=>have d:=qh5 e;simp only[d]at c⊢;by_cases f:a<(kak m b).length;{rw[List.take_append_of_le_length cr,List.getElem_append_left f];exact g a f};obtain rfl:a=(kak m b).length:=(by rw[Yn]at c;simp at c;omega);rw[List.take_left'];{simpa using e};rfl
def qsb {m:Fm}{n i j:Nat}(c:i<(kak m n).length)(e:j<m.F.length)(d:kbL m j (kak m n)[i]=true):j∈(kak m n).take i:=by have a:=(qlq (kfy m n i c)).2.1;rw[kdP,Yq,Y8]at a;have b:=a.2 j (Y7.2 e);rw[d]at b;simpa using b
theorem qsa {m:Fm}(b:(kak m m.F.length).length=m.F.length){k:Nat}(g:k<m.F.length):k∈kak m m.F.length:=by refine Classical.byContradiction λf=>?_;have e:(k :: kak m m.F.length).Nodup:=V7.2 ⟨f,qcn m _⟩;have:=kdl m.F.length ((k :: kak m m.F.length).map λa:Nat=>(a:Int)) (List.pairwise_map.2 (List.Pairwise.imp (λ{c d} (b:c≠d) c=>b (Int.ofNat.inj c)) e)) (λa c=>by obtain⟨d,a,rfl⟩:=Y9.1 c;rcases Vh.1 a with rfl | a;{omega};have:=qs9 m _ d a;omega);rw[Zw,Yz]at this;omega
def qt6 {a:Type}{F:(Nat->a)->Nat->a}{D D':List Nat}(c:∀b,b∈D ↔ b∈D')(s0:Nat->a)(r:Nat):rdS F D s0 r=rdS F D' s0 r:=by induction r <;> simp_all[rdS]
end
section
open Go Go.RowKit Go.Proofs.Tryz
def tkB (m:Fm)(kz:Int)(v:Vx):Bool:=decide (0<=kz/\kz<m.F.length)&&(decide ((fAt m kz.toNat).is.length=0)&&kbZ (fAt m kz.toNat) v)
def gF {p:Prop}(h:p:=by go_enter func114,ntmps114;go_wp2_with fail;go_ret;exact⟨qmq b,bR _ _⟩):p:=h
def q85 (P:ShP)(h:Nat->Cx)(i:Nat->Vx)(a:Int)(w:Tw)(b:ShI P h i w):Gv 114 #[Ye P.Sh 0,Yb a] w (.bool (decide (0<=a/\a<P.m.F.length))):=by obtain⟨j,g,e⟩:=b.slice;have k:w.cell? ⟨P.Sh,12,none⟩=some (.slice j P.m.F.length g):=(by rw[<- e];exact b.blk.cell 12);obtain⟨f,c⟩:=Nq (decide (0<=a/\a<P.m.F.length));rw[c];have d:=h_ c;clear b e c;by_cases c:0<=a;{have b:Hi (decide (a<(P.m.F.length:Int))=f):=h_ (by rw[<- d.u];simp[c]);exact gF};have b:Hi (false=f):=h_ (by rw[<- d.u];simp[c]);exact gF
def qbi (c:Cx)(f:Fl)(A:FA)(b:Nat)(t:TypeId)(l:Tl)(w:Tw)(g:Blk w b t (hC c f A++l)):Gv 99 #[Ye b 0] w (.bool (decide (f.is.length=0))):=by have j:w.cell? ⟨b,10,none⟩=some (.slice A.i f.is.length A.ic):=(by rw[g.cell];rfl);obtain⟨d,a⟩:∃d,decide (f.is.length=0)=d:=⟨_,rfl⟩;have e:Hi (((f.is.length:Int)==0)=d):=h_ (by rw[<- a];by_cases h:f.is.length=0 <;> simp[h]);rw[a];clear a g;generalize f.is.length=a at *;go_enter func99,ntmps99;go_wp2_with fail;go_ret;exact⟨qmq (by first | exact e | (rw[<- e.u];simp)),bR _ _⟩
def gE {p:Prop}(h:p:=by go_wp2_with fail;go_ret;exact⟨qmq t,j⟩):p:=h
def qii (P:ShP)(x:Nat->Cx)(J:Nat->Vx)(e:Int)(v:Vx)(w:Tw)(I:v.s.size<=9223372036854775807)(C:ShI P x J w):Gv 82 #[Ye P.Sh 0,Yb e,.agg (Jc v.k v.n v.s)] w (.bool (tkB P.m e v)):=by have o:=Blk.new w 55 (Jc v.k v.n v.s);have l:=(bR w.1.size w).alloc (nR _) (.cells (Jc v.k v.n v.s) 55);obtain⟨d,g⟩:=Nq (w.alloc (.cells (Jc v.k v.n v.s) 55));rw[g]at o l;have h:=C.mono l;have z:=h_ l;obtain⟨q,c⟩:=Nq (tkB P.m e v);rw[c];have r:=h_ (q85 P x J e d.drew (h.mono (bR _ _).drew));by_cases i:0<=e/\e<P.m.F.length;(case neg=>rw[Yj i]at r;have t:Hi (false=q):=h_ (by rw[<- c,tkB,Yj i];rfl);clear c i C h o l;go_enter func82,ntmps82;go_wp2_with fail;(try rw[g]);refine kcG (B:=d.1.size) (W0:=d) (bR _ _) λa=>?_;refine rep 27 ?_;(repeat refine tkN a ?_);refine kcN 2 9 a a.size r λM y a=>?_;(repeat first | refine tkN a ?_ | refine skN a ?_);refine wdQ ?_;have j:=mT z a;clear y a g;exact gE);rw[Yk i]at r;rw[tkB,Yk i]at c;obtain⟨b,rfl⟩:∃b:Nat,e=b:=⟨e.toNat,cr⟩;have D:b<P.m.F.length:=cr;have Q:(b:Int)<P.m.F.length:=cr;have R:(0:Int)<=b:=cr;simp only[Ga,Zb]at c;obtain⟨K,N,E,-,-⟩:=h.at D;have L:Hi (∀f,Bw d f->(f.cell? ⟨P.Sh,12,none⟩=some (.slice (some ⟨K,0,none⟩) P.m.F.length N)/\f.cell? ⟨K,b,none⟩=some (ifV (ka8 (fAt P.m b)) (P.Bs b)))/\f.cell? ⟨w.1.size,0,none⟩=some (Yb v.k)/\f.cell? ⟨w.1.size,1,none⟩=some (Yb v.n)/\f.cell? ⟨w.1.size,2,none⟩=some (.string v.s)):=h_ λf f=>(by have k:=h.mono f;obtain⟨O,H,p,G,-⟩:=k.at D;rw[E]at p;cases p;exact⟨⟨by rw[<- E];exact k.blk.cell 12,G⟩,kag (o.mono f o.lt)⟩);have p:=(h.bx b D).2;have H:=h_ λk (f:Bw d k)=>qbi (x b) (fAt P.m b) (P.A.fa b) (P.Bs b) _ _ k (p.mono f p.lt);have G:=h_ λk (f:Bw d k)=>qpp (x b) (fAt P.m b) (P.A.fa b) (P.Bs b) _ _ v k I (p.mono f p.lt);obtain⟨O,f⟩:∃q,decide ((fAt P.m b).is.length=0)=q:=⟨_,rfl⟩;obtain⟨S,k⟩:∃q,kbZ (fAt P.m b) v=q:=⟨_,rfl⟩;rw[f]at H c;rw[k]at G c;have t:=h_ c;clear c i C h o l f k E p I;go_enter func82,ntmps82;go_wp2_with fail;(try rw[g]);refine kcG (B:=d.1.size) (W0:=d) (bR _ _) λa=>?_;have hC:=L.u;refine rep 27 ?_;(repeat refine tkN a ?_);refine kcN 2 9 a a.size r λM y a=>?_;(repeat refine tkN a ?_);refine kcN 11 18 a a.size (qqa (some ⟨P.Bs b,0,none⟩) _) (hrun:=by simp[execOp,go_sem,ifV,qqb]) λh c a=>?_;refine kcN 12 19 a a.size (H h a) λo f a=>?_;cases O;(case false=>(repeat first | refine tkN a ?_ | refine skN a ?_);refine wdQ ?_;have j:=mT z a;clear y c f a g hC;exact gE);(repeat refine tkN a ?_);refine tkA 23 a ?_;refine kcN 22 29 a a.size (qqa (some ⟨P.Bs b,0,none⟩) _) (hrun:=by simp[execOp,go_sem,ifV,qqb]) λi k a=>?_;refine kcN 24 31 a a.size (G i a) λp l a=>?_;refine tkA 25 a ?_;refine tkA 26 a ?_;refine wdQ ?_;have j:=mT z a;clear y c f k l a g hC;exact gE
