import Derived.Test.YtenckgnkjkijnaaGreatDoorW28
import Derived.Test.YtenckgnkjkijnaaGreatDoorW30
import Derived.Deep.CutBlock
set_option maxRecDepth 100000
set_option maxHeartbeats 64000000
namespace Go.Proofs.YtenckgnkjkijnaaGreatDoor
open Go Go.RowKit Go.Proofs.Tryz
variable {w U:Tw}{n k i j:Nat}{m:Fm}{t e:TypeId}{v u:Value}{x:Tl}{a:To}
structure RX (b:Nat)(w W:Tw):Prop where
 R:Blk W b 55 Jl
 B:Bw w W
 le:w.heap.size<=b
theorem RX.mono {b:Nat}{W:Tw}(a:RX b w W)(k:Bw W U):RX b w U:=⟨a.R.mono k a.R.lt,a.B.trans (k.mono a.B.size),a.le⟩
theorem RX.val {b:Nat}{W:Tw}(a:RX b w W):(W.cell? ⟨b,0,none⟩=some (J6 0)/\W.cell? ⟨b,1,none⟩=some (J6 0)/\W.cell? ⟨b,2,none⟩=some J8)/\W.frozen? ⟨b,0,none⟩=false/\W.frozen? ⟨b,1,none⟩=false/\W.frozen? ⟨b,2,none⟩=false :=
 ⟨kag a.R,a.R.free 0,a.R.free 1,a.R.free 2⟩
theorem RX.out {b:Nat}{W:Tw}(a:RX b w W)(x y z:Value):Bw w (((W.setCell ⟨b,0,none⟩ x).setCell ⟨b,1,none⟩ y).setCell ⟨b,2,none⟩ z) :=
 ((a.B.setCell a.le _).setCell a.le _).setCell a.le _
theorem qpa:(prog.info? 55).map (fun a=>(a.zero,a.size,a.bytes))=some (some (.agg Jf),3,32):=by kernel_rfl
def vx3 (l:List Vx):Tl:=l.flatMap fun u=>[.int .i64 u.k,.int .i64 u.n,.string u.s]
theorem qsv (l:List Vx):(vx3 l).length=l.length*3:=by
 induction l with
 | nil=>rfl
 | cons b l a=>simp only[vx3,Va,Yj]at *;rw[a];simp;omega
theorem qsu (l:List Vx)(k:Nat)(c:k<l.length):(vx3 l)[k*3]? = some (J6 l[k].k)/\(vx3 l)[k*3+1]? = some (J6 l[k].n)/\(vx3 l)[k*3+2]? = some (.string l[k].s):=by
 induction l generalizing k with
 | nil=>exact absurd c (nL _)
 | cons a l d =>
  cases k with
  | zero=>exact⟨rfl,rfl,rfl⟩
  | succ k =>
   have b:=d k (by simpa using c);simp only[vx3,Va]at b⊢;refine⟨?_,?_,?_⟩
   . rw[Vj (by simp;omega),show(k+1)*3 - [Value.int .i64 a.k,J6 a.n,.string a.s].length=k*3 by simp;omega];exact b.1
   . rw[Vj (by simp;omega),show(k+1)*3+1 - [Value.int .i64 a.k,J6 a.n,.string a.s].length=k*3+1 by simp;omega];exact b.2.1
   . rw[Vj (by simp;omega),show(k+1)*3+2 - [Value.int .i64 a.k,J6 a.n,.string a.s].length=k*3+2 by simp;omega];exact b.2.2
theorem qr1 {base c:Nat}{xs:Tl}(e:w.ownsRow base 55 3 (.slice a n c) n xs)(hi:i<n):∃b,a=some ⟨b,0,none⟩/\base<=b/\b<w.heap.size:=by
 rcases e.2 with ⟨d,k⟩ | ⟨b,h,j,d,f,g,l⟩
 . omega
 . cases d
   exact⟨b,rfl,f,(Yq.1 g).1⟩
theorem kcz {base:Nat}{xs:Tl}(c:w.ownsRow base t k v n xs):∃a b,v=.slice a n b:=by
 rcases c.2 with ⟨d,a⟩ | ⟨g,e,f,b,-⟩
 . exact⟨none,0,by rw[d,a]⟩
 . exact⟨_,_,b⟩
theorem qsq {B g:Nat}{l:List Vx}(d:w.ownsRow B 55 3 (.slice (some ⟨g,0,none⟩) n k) n (vx3 l))(m:l.length=n):kaF w (some ⟨g,0,none⟩) n fun a=>l.getD a kdw:=fun c b=>by
 subst m;obtain⟨o,f,-,j⟩:=qr1 d b;cases f;have a:=fun e (h:e<l.length*3)=>World.ownsRow.cellAt d e h;obtain⟨e,h,i⟩:=qsu l c b;dsimp only;rw[show l.getD c kdw=l[c] by rw[Yo,Yg b];rfl];exact⟨g,0,rfl,j,by rw[Y3,a _ (by omega)];exact e,by rw[Y3,a _ (by omega)];exact h,by rw[Y3,a _ (by omega)];exact i⟩
def plI (l:List Tb)(x:Tb):Int:=if l.findIdx (fun y=>decide (y=x))<l.length then ((l.findIdx (fun y=>decide (y=x)):Nat):Int) else -1
theorem qfu (a:To)(c:Nat)(l:List Tb)(s:Tb)(w:Tw)(A:l.length<=9223372036854775807)(q:kbY w a l) :
 Gv 148 #[.slice a l.length c,.string s] w (J6 (plI l s)):=by
 have o:=h_ q;obtain⟨n,e⟩:=Nq (plI l s);rw[e];have k:=h_ e;go_enter func148,ntmps148;go_wp2_with fail;go_loopw [5] (fun g wr=>∃b:Nat,b<=l.length/\g=J6 b/\(∀d (f:d<l.length),d<b->l[d]≠s)/\wr=w) (fun g _=>l.length - (intOf g).toNat)
 case atStart=>exact⟨0,nZ _,rfl,fun d _ g=>absurd g (nL _),rfl⟩
 case round =>
  obtain⟨b,z,rfl,r,rfl⟩:=hrel;have h:=h_ r;by_cases j:b<l.length
  . have t:(b:Int)<l.length:=by omega
    obtain⟨x,B,rfl,-,y⟩:=o b j;have m:=eqS l[b] s;by_cases e:l[b]=s
    . have i:Hi (n=(b:Int)):=h_ (by
       have p:l.findIdx (fun v=>decide (v=s))=b:=by
        rw[List.findIdx_eq j];exact⟨by simpa using e,fun d g=>by simpa using h.u d (by omega) g⟩
       rw[<- k.u,plI,p,Yr j])
      rw[Ye e]at m;generalize l[b]=v at *;go_wp2_with fail;go_ret;exact⟨by rw[i.u];rfl,bR _ _⟩
    . have p:Hi (∀d (f:d<l.length),d<b+1->l[d]≠s):=h_ fun d f g=>by
       by_cases g:d=b
       . subst g;exact e
       . exact h d f (by omega)
      rw[Yd e]at m;generalize l[b]=v at *;refine rQ ?_;exact⟨b+1,by omega,by go_num,p,by first | rfl | trivial⟩
  . have t:¬ (b:Int)<l.length:=by omega
    have i:Hi (n = -1):=h_ (by
     rw[<- k.u,plI,Yl];intro f;have:=List.findIdx_getElem (w:=f);exact h _ f (by omega) (Y6 this))
    go_wp2_with fail;go_ret;exact⟨by rw[i.u];rfl,bR _ _⟩
structure EvW (m:Fm)(A:MA)(a:To)(len:Nat)(e:Nat->Nx)(ac:To)(ce:Nat->Cx)(W:Tw):Prop where
 ms:MSl W m A
 nd:kch W a len e
 cl:kct W ac m.F.length ce
theorem EvW.mono {A:MA}{d:To}{f:Nat->Nx}{e:Nat->Cx}{W:Tw}(b:EvW m A a n f d e w)(c:Bw w W):EvW m A a n f d e W:=⟨b.ms.mono c,b.nd.mono c,b.cl.mono c⟩
def cS (ce:Nat->Cx)(j:Nat):Bool × Vx:=((ce j).rel,(ce j).v)
theorem qbl (m:Fm)(A:MA)(a ac:To)(y c cc:Nat)(b:Nat->Nx)(n:Nat->Cx)(hl:y<=1000)(aL:m.F.length<=200)(ao:kcf b y)(ag:kbN b y)(aJ:∀e,e<y->I6 (b e).v.n)(hg:∀g,g<m.F.length->GVx (n g).v)(F:Nat) :
 ∀d,d+1<=F->d+1<=y->∀k,EvW m A a y b ac n k->Gv 110 #[mV m A,.slice ac m.F.length cc,.slice a y c,J6 ((d+1:Nat):Int)] k (vv (kcJ apL (lkF m (cS n)) b (d+1))):=by
 have HG:=h_ (kda (lk:=lkF m (cS n)) ao ag aJ (fun j=>kgH (fun g h=>hg g h) j));have aB:=h_ fun g (z:MSl g m A)=>q0y m A g aL z.f;obtain⟨V,W,X,Y,Q,S,T,U,aD⟩:=A;unfold mV at *
 induction F with
 | zero=>intro d x;omega
 | succ F g =>
  intro d hF hn k z;have HI:=h_ g;clear g;obtain⟨aa,j⟩:=Nq (kcJ apL (lkF m (cS n)) b (d+1));rw[j];rw[qi0]at j;unfold keS at j;unfold vv;have q:=h_ j;clear j;have a2:wrap64 (((d+1:Nat):Int) - 1)=(d:Int):=by rw[q6w (by omega) (by omega)];omega
  have aX:(d:Int)<y:=by omega
  have aW:(0:Int)<=d:=by omega
  have r:=h_ z;obtain⟨aE,aP,rfl,-⟩:=z.nd d (by omega);obtain⟨W1,J⟩:=Nq (k.alloc (.cells (Jb V m W X Y Q S T U) 37));obtain⟨W2,K⟩:=Nq (W1.alloc (.cells Jf 55));obtain⟨O,Z⟩:=Nq (W2.alloc (.cells (J2 (b d).op (b d).v.k (b d).v.n (b d).v.s (b d).nm) 190));have aN:W1.heap.size=k.heap.size+1:=by rw[<- J];simp
  have aO:W2.heap.size=k.heap.size+2:=by rw[<- K];simp;omega
  have g:=nB J;have h:=nB K;have t:=nB Z;have u:=nK J;have w:=nJ aN K;have C:=nJ aO Z;have o:=h.trans (t.mono h.size);obtain⟨b',o',e',-,z0,z1,z2,z3,z4⟩:=((z.mono g).mono h).nd d (by omega);cases e';obtain⟨D,E⟩:=oB (u.mono o u.lt) C;have p:Hi (RX (k.heap.size+1) k O):=h_ ⟨w.mono t w.lt,g.trans (o.mono g.size),by omega⟩;replace r:=h_ (r.mono p.B);have aQ:=h_ (And.intro J (And.intro K Z));obtain⟨y0,y1,y2,y3,y4⟩:=kaG C;obtain⟨x0,x1,x2,x3⟩:=kaf D;clear g h t u w C o z;by_cases x:(b d).op=0
  . have j:=q.u
    rw[Yr x]at j;replace q:=h_ j;have g:((b d).op==0)=true:=beq_iff_eq.2 x;obtain⟨⟨r0,r1,r2⟩,f0,f1,f2⟩:=p.val;clear j x;go_enter func110,ntmps110;go_wp2;exact bQ (v:=.agg (Jc (b d).v.k (b d).v.n (b d).v.s)) ⟨by rw[<- q.u],p.u.out _ _ _⟩
  have n0:=nq x;by_cases I:(b d).op=1
  . have j:=q.u
    rw[Yl x,Yr I]at j;unfold lkF at j;replace q:=h_ j;have aU:((b d).op==1)=true:=beq_iff_eq.2 I;have ae:(kaa m).length=m.F.length:=(by simp[kaa]);clear j x I;go_enter func110,ntmps110;go_wp2_with fail;clear J K Z z0 z1 z2 z3 z4;have HC:Hi (∀g,Bw O g->(g.cell? ⟨k.heap.size,0,none⟩=some (.slice V m.L.length W)/\g.cell? ⟨k.heap.size,1,none⟩=some (.slice X m.P.length Y)/\g.cell? ⟨k.heap.size,2,none⟩=some (.slice Q m.R.length S)/\g.cell? ⟨k.heap.size,3,none⟩=some (.slice T m.F.length U))/\g.cell? ⟨k.heap.size+2,4,none⟩=some (.string (b d).nm)):=h_ fun g h=>⟨kaf (D.mono h D.lt),(E.mono h E.lt).cell 4⟩;clear x0 x1 x2 x3 y0 y1 y2 y3 y4;refine kd3 (B:=O.heap.size) (W0:=O) (bR _ _) fun o=>?_;have hC:=HC.u;refine tkA 0 o ?_;refine tkA 2 o ?_;refine tkA 3 o ?_;refine kh9 (R:=fun ad W'=>∃G H,ad=.slice G m.F.length H/\kbY W' G (kaa m)) 1 28 o o.size ((aB O.drew (r.ms.mono (bR _ _).drew)).mono fun b g ⟨G,H,t,u,h⟩=>⟨_,t,⟨G,H,rfl,u⟩,h⟩) ?_;rintro ad t ⟨G,H,rfl,C⟩ M w;simp only[Ya,Yb];refine keJ 4 31 w w.size (by have:=qfu G H (kaa m) (b d).nm t (by omega) C;rw[ae]at this;exact this) fun W5 N u=>?_;replace o:=u;refine tkA 5 o ?_;refine wdQ ?_;replace p:=h_ (p.mono u);replace r:=h_ (r.mono u);clear hC o w M N u C HC;by_cases C:plF m (b d).nm<m.F.length
    . have j:=q.u
      rw[Yr C]at j;replace q:=h_ j;rw[show plI (kaa m) (b d).nm=((plF m (b d).nm:Nat):Int) by rw[plI,ae];exact Yr C];obtain⟨u,w⟩:=Nq (plF m (b d).nm);rw[w]at q C⊢;obtain⟨cb,co,rfl,-,H,c1,c2,c3,-,-⟩:=r.cl u C;have aY:(u:Int)<m.F.length:=(by omega);have aZ:¬ (u:Int)<0:=(by omega);have a1:(0:Int)<=u:=(by omega);unfold cS at q;clear j w;cases M:(n u).rel
      . have N:Hi (kak=aa):=h_ (by rw[<- q.u,Yl (by simp[M])];rfl)
        rw[M]at c3;clear M;go_wp2_with fail;clear H c1 c2 c3;refine cQ (kcw aa N _) fun W' h=>?_;obtain⟨⟨r0,r1,r2⟩,f0,f1,f2⟩:=(p.mono h).val;have w:=h_ (p.mono h);clear h;go_wp2;exact bQ ⟨rfl,w.u.out _ _ _⟩
      . have N:Hi ((n u).v=aa):=h_ (by rw[<- q.u,Yr M])
        rw[M]at c3;obtain⟨⟨r0,r1,r2⟩,f0,f1,f2⟩:=p.val;clear M;go_wp2;exact bQ (v:=.agg (Jc (n u).v.k (n u).v.n (n u).v.s)) ⟨by rw[<- N.u],p.u.out _ _ _⟩
    . have j:=q.u
      rw[Yl C]at j;have N:Hi (kak=aa):=h_ j;rw[show plI (kaa m) (b d).nm = -1 by rw[plI,ae];exact Yl C];clear j C;go_wp2_with fail;refine cQ (kcw aa N _) fun W' h=>?_;obtain⟨⟨r0,r1,r2⟩,f0,f1,f2⟩:=(p.mono h).val;have w:=h_ (p.mono h);clear h;go_wp2;exact bQ ⟨rfl,w.u.out _ _ _⟩
  have n1:=nq I;have aq:=qqp (ao d (by omega)) x I;have j:=q.u;rw[Yl x,Yl I]at j;have M:=ag d (by omega);have aI:=kfm aq;have ak:ar (b d).op=(arn (b d):Int):=by unfold arn;omega
  have N:((kal b d).map (kcJ apL (lkF m (cS n)) b)).length=arn (b d):=by rw[Zp,qa2 M]
  rw[show((stk b d).take (arn (b d))).reverse=kal b d from rfl,apL,N]at j;replace q:=h_ j;have ai:Hi (∀u,u<arn (b d)->GVx (((kal b d).map (kcJ apL (lkF m (cS n)) b)).getD u kdw)):=h_ fun u C=>by
   rw[qjf _ _ _ (by rw[qa2 M];exact C)];have:=qa4 (Yi (l:=kal b d) (by rw[qa2 M];exact C));exact HG _ (by omega)
  have HM:Hi (∀e (z:e<(kal b d).length),1<=(kal b d)[e]/\(kal b d)[e]<=d):=h_ fun e z=>qa4 (Yi z);have aH:=kbQ (b d);have aG:1<=arn (b d):=by omega
  have ay:=h_ (qa2 M);have aj:=h_ N;have az:=h_ ak;clear j x I M aI ak N aq;go_enter func110,ntmps110;go_wp2_with fail;clear J K Z z0 z1 z2 z3 z4;refine(qbi _ y c b d _ hl r.nd hn (ag.le hn)).mono ?_;rintro a3 t ⟨G,H,rfl,hI,h⟩;replace p:=h_ (p.mono h);replace r:=h_ (r.mono h);replace D:=mB D h;replace E:=mB E h;have N:=h_ hI;obtain⟨j,I⟩:=Nq t.heap.size;obtain⟨W5,K⟩:=Nq (t.alloc (.cells #[] 55));have M:Hi (Below j t W5):=h_ (by rw[<- K,<- I];exact(bR _ _).alloc (nR _) _);have Z:Hi (W5.ownsRow j 55 3 (.slice (some ⟨j,0,none⟩) 0 0) 0 (vx3 [])):=h_ (by
   rw[<- K,<- I];exact⟨rfl,.inr ⟨t.heap.size,0,#[],rfl,nR _,heap_alloc_new t (.cells #[] 55),nR _,nZ _,rfl,rfl⟩⟩)
  have J:Hi (∀g,Below j t g->RX (k.heap.size+1) k g/\EvW m ⟨V,W,X,Y,Q,S,T,U,aD⟩ (some ⟨aE,aP,none⟩) y b ac n g/\Blk g k.heap.size 37 (Jh V m W X Y Q S T U)/\Blk g (k.heap.size+2) 190 [J6 (b d).op,J6 (b d).v.k,J6 (b d).v.n,.string (b d).v.s,.string (b d).nm]/\kbx g G (arn (b d)) (fun e=>(((kal b d).getD e 0:Nat):Int))):=h_ fun g x=>by
   rw[<- I]at x;exact⟨p.mono x,r.mono x,D.mono x D.lt,E.mono x E.lt,N.mono x⟩
  have ah:Hi (∀g,Below j t g->j<=g.heap.size):=h_ fun g x=>by have:=x.size;omega
  clear x0 x1 x2 x3 y0 y1 y2 y3 y4;obtain⟨y0,y1,y2,y3,y4⟩:=kaG E;have x:=h_ (And.intro K I);clear hI h I K;go_wp2_with fail;rw[x.u.1,x.u.2];clear x y0 y1 y2 y3 y4 p r D E N;go_loopw [12,13] (fun ad u wr=>∃e:Nat,e<=arn (b d)/\u=J6 e/\wr.ownsRow j 55 3 ad e (vx3 (((kal b d).map (kcJ apL (lkF m (cS n)) b)).take e))/\Below j t wr) (fun _ u _=>arn (b d) - (intOf u).toNat)
  case atStart=>exact⟨0,nZ _,rfl,by simpa using Z.u,M⟩
  case round =>
  clear Z M;obtain⟨e,hk,rfl,x,h⟩:=hrel;obtain⟨a8,c8,rfl⟩:=kcz x;obtain⟨w,D⟩:=oB x h;clear x h;by_cases E:e<arn (b d)
  case pos =>
   have aK:(e:Int)<arn (b d):=by omega
   have aV:(0:Int)<=e:=by omega
   have M:e<(kal b d).length:=by rw[ay.u];exact E
   have aM:=HM e M;obtain⟨r,K⟩:∃r,(kal b d)[e]=r+1:=⟨(kal b d)[e] - 1,by omega⟩;obtain⟨eb,eo,rfl,-,-⟩:=(J _ D).2.2.2.2 e E;have HC:Hi (∀g,Below j t g->(g.cell? ⟨k.heap.size,0,none⟩=some (.slice V m.L.length W)/\g.cell? ⟨k.heap.size,1,none⟩=some (.slice X m.P.length Y)/\g.cell? ⟨k.heap.size,2,none⟩=some (.slice Q m.R.length S)/\g.cell? ⟨k.heap.size,3,none⟩=some (.slice T m.F.length U))/\g.cell? ⟨eb,eo+e,none⟩=some (J6 ((r+1:Nat):Int))):=h_ fun g h=>by
    obtain⟨-,-,I,-,N⟩:=J g h;obtain⟨Z,aT,g,-,c2⟩:=N e E;cases g;dsimp only at c2;rw[qna M,K]at c2;exact⟨kaf I,c2⟩
   have HT:Hi (vx3 (((kal b d).map (kcJ apL (lkF m (cS n)) b)).take (e+1))=vx3 (((kal b d).map (kcJ apL (lkF m (cS n)) b)).take e)++[J6 (kcJ apL (lkF m (cS n)) b (r+1)).k,J6 (kcJ apL (lkF m (cS n)) b (r+1)).n,.string (kcJ apL (lkF m (cS n)) b (r+1)).s]):=h_ (by
    rw[Ys (by rw[Zp];exact M),List.getElem_map,K];simp[vx3])
   have g:=h_ (HI r (by omega) (by omega) wr.drew (J _ D.drew).2.1);have au:=ah _ D;obtain⟨i0,C,av,aw,ax⟩:=info_parts qpa;obtain⟨Z,N⟩:=Nq (kcJ apL (lkF m (cS n)) b (r+1));rw[N]at HT g;unfold vv at g;clear N K aM;go_wp2_with fail;refine kd3 D fun o=>?_;have hC:=HC.u;refine tkA 0 o ?_;refine tkA 1 o ?_;refine tkA 2 o ?_;refine tkA 3 o ?_;refine tkA 4 o ?_;refine tkA 5 o ?_;refine tkA 6 o ?_;refine tkA 7 o ?_;refine keJ 8 66 o au g fun W6 am K=>?_;refine appS (cs:=[J6 Z.k,J6 Z.n,.string Z.s]) 9 67 68 12 (.tmp 58) (.tmp 67) K (ah _ K) (qkx (qkx w (bR _ _).drew) am) underlying39 C av aw ax rfl (by omega) rfl (by simp[Value.oneCell']) (by unfold maxLen;omega) (by omega) ?_;intro aF aS W9 N an;simp only[Ya,Yb];rw[<- HT.u]at N;obtain⟨aC,aA⟩:=oB N an;clear hC o am K N an C av aw ax au;refine rQ ?_;exact⟨e+1,by omega,by go_num,aC,aA⟩
  case neg =>
   obtain rfl:arn (b d)=e:=by omega
   have aK:¬ ((arn (b d):Nat):Int)<((arn (b d):Nat):Int):=by omega
   obtain⟨aF,r,-,-⟩:=qr1 w (i:=0) (by omega);cases r;have x:=w.u;rw[Yy (by rw[aj.u];exact nR _)]at x;have o:=h_ (qsq x aj);obtain⟨I,-,-,g,-⟩:=J _ D;have p:=h_ I;obtain⟨y0,y1,y2,y3,y4⟩:=kaG g;clear x I g hk E w D;go_wp2_with fail;refine(q6l (b d).op _ (arn (b d)) c8 _ wr az aG aH o (fun u C=>(ai u C).1) (fun u C=>(ai u C).2)).mono ?_;rw[q.u];unfold vv;rintro b W' ⟨rfl,h⟩;obtain⟨⟨r0,r1,r2⟩,f0,f1,f2⟩:=(p.mono h).val;have w:=h_ (p.mono h);clear h;go_wp2;exact bQ ⟨rfl,w.u.out _ _ _⟩
theorem khn {e:Region.Mode}{c:Array Oper}{Q:Exit->Act->Tw->Prop}{S:Tw->Prop}{l:Tl}{lb:List Bool}{fuel:Nat}{W:Tw}{z:Vx}{o:Oper}{x y:Operand}{C:Value}(j b:Nat)(f:Blk W b 55 [v,u,C])(q:w.heap.size<=b)(h:Bw w W)(i:S (W.setRow b (Jc z.k z.n z.s)))
 (g:∀d,Blk d b 55 [J6 z.k,J6 z.n,.string z.s]->Bw w d->Q .normal { tmps:=l.toArray,defers:=[] } d)
 (p:c[j]? = some o:=by exact rfl) (d:o.op=.store 55 x y:=by exact rfl) (m:o.dst=none:=by exact rfl) (B:Act.eval { tmps:=l.toArray,defers:=[] } x=J9 b 0:=by rfl) (hy:Act.eval { tmps:=l.toArray,defers:=[] } y=.agg (Jc z.k z.n z.s):=by rfl)
 (A:Region.wanted o (yielded c l.toArray)=true:=by rfl) (r:Region.ready e c lb.toArray=[j]:=by kernel_rfl) (t:Region.ready e c (lb.toArray.setIfInBounds j true)=[]:=by kernel_rfl) :
 wpAnyH prog e c Q S (fuel+1) lb.toArray { tmps:=l.toArray,defers:=[] } W :=
 ka0 (a:={ tmps:=l.toArray,defers:=[] }) p A r m (q2a (a:={ tmps:=l.toArray,defers:=[] }) 55 x y d b (Jc z.k z.n z.s) B hy 55 _ f (by kernel_rfl) rfl (by kernel_rfl)) rfl i (wpAnyH_done t (g _ (f.row [J6 z.k,J6 z.n,.string z.s]) (qii h q _)) _)
structure EvF (m:Fm)(A:MA)(ac:To)(ce:Nat->Cx)(W:Tw):Prop where
 ms:MSl W m A
 cl:kct W ac m.F.length ce
theorem EvF.mono {A:MA}{b:Nat->Cx}{W:Tw}(c:EvF m A a b w)(d:Bw w W):EvF m A a b W:=⟨c.ms.mono d,c.cl.mono d⟩
theorem qbn (m:Fm)(A:MA)(f a:To)(c h:Nat)(d:Nat->Cx)(l:List Nx)(q:m.F.length<=200)(n:kac l=true)(j:∀b,b<l.length->Fit (nf l b))(i:0<l.length)(p:∀e,e<m.F.length->GVx (d e).v)(w:Tw)(e:EvF m A f d w)(o:kb0 w a l) :
 Gv 110 #[mV m A,.slice f m.F.length h,.slice a l.length c,J6 l.length] w (vv (evL apL (lkF m (cS d)) l)):=by
 rw[kac,Ze]at n;have g:=(qsw _ _).1 (n.resolve_left (by simp;intro e;rw[e]at i;exact absurd i (by decide)));have:=qbl m A a f l.length c h (nf l) d g.2.1 q g.2.2.1 g.2.2.2.1 (fun b k=>⟨(j b k).2.2.1,(j b k).2.2.2⟩) p l.length (l.length - 1) (by omega) (by omega) w ⟨e.ms,o,e.cl⟩;rw[show l.length - 1+1=l.length by omega]at this;exact this
theorem q60 (m:Fm)(A:MA)(ac ai:To)(cc ci:Nat)(p:Nat->Cx)(P:Nat->Vx)(k:Nat)(w:Tw)(M:k<m.F.length)(az:m.F.length<=200)(g:∀a,a∈m.F->FOk m.L.length m.R.length a)(f:kbe m)(hg:∀a,a<m.F.length->GVx (p a).v)(q:EvF m A ac p w)(hi:kaF w ai m.F.length P) :
 Gv 80 #[mV m A,.slice ai m.F.length ci,.slice ac m.F.length cc,J6 k] w (.tuple #[.bool (keT apL kbg (kax 1) m P (cS p) k).1,vv (keT apL kbg (kax 1) m P (cS p) k).2]):=by
 have ak:=h_ fun (a:List Nx) (c:To) (d:Nat) (o:kac a=true) (l:∀k,k<a.length->Fit (nf a k)) (e:0<a.length) b (h:EvF m A ac p b) (j:kb0 b c a)=>qbn m A ac c d cc p a az o l e hg b h j
 obtain⟨d,h⟩:=Nq (m.F[k]);have I:d∈m.F:=h ▸ Yi M;obtain⟨HO,HF⟩:=oB (g d I) (f.f d I);obtain⟨N,a⟩:∃b,(keT apL kbg (kax 1) m P (cS p) k).1=b:=⟨_,rfl⟩;obtain⟨c,e⟩:=Nq ((keT apL kbg (kax 1) m P (cS p) k).2);rw[a,e];simp only[keT,qoe M,h]at a e;obtain⟨aj,t⟩:=oB a e;clear a e g f;obtain⟨s,HV⟩:=oB q hi;obtain⟨al,aw,ap,ax,aR,aq,af,av,au⟩:=A;obtain⟨g,D⟩:=Nq (au k);unfold mV at *;obtain⟨W1,ae⟩:=Nq (w.alloc (.cells (Jb al m aw ap ax aR aq af av) 37));obtain⟨W2,ag⟩:=Nq (W1.alloc (.cells Jf 55));obtain⟨W3,am⟩:=Nq (W2.alloc (.cells (Ja d g.b g.bc g.i g.ic g.h g.hc g.v g.vc g.u g.uc) 92));have aA:W1.heap.size=w.heap.size+1:=by rw[<- ae];simp
 have aB:W2.heap.size=w.heap.size+2:=by rw[<- ag];simp;omega
 have l:=nB ae;have f:=nB ag;have H:=nB am;have j:=nK ae;have J:=nJ aA ag;have O:=nJ aB am;have G:=f.trans (H.mono f.size);obtain⟨fb,fo,e3,K,-⟩:=((q.mono l).mono f).ms.f k M;dsimp only at e3 K;subst e3;rw[h,D]at K;obtain⟨-,z0,z1,z2,z3,z4,z5,z6,z7,z8⟩:=K;obtain⟨r,u,x,y⟩:=kaf (j.mono f j.lt);obtain⟨ad,E⟩:=oB (j.mono G j.lt) O;have o:Hi (RX (w.heap.size+1) w W3):=h_ ⟨J.mono H J.lt,l.trans (G.mono l.size),by omega⟩;replace s:=h_ (s.mono o.B);have aa:Hi (∀a,Bw W3 a->FSl a d g):=h_ fun a b=>by
  obtain⟨_,_,e3,-,C⟩:=(s.mono b).ms.f k M;dsimp only at C;rw[h,D]at C;exact C
 obtain⟨Q,C,T,U,V,W,X,Y,Z⟩:=kaU O;have aD:(k:Int)<m.F.length:=by omega
 have aE:(0:Int)<=k:=by omega
 clear l f H j J O G q hi D h I;go_enter func80,ntmps80;go_upto_if 21 with fail
 try rw[ae]
 go_cut [11] from 21 to 30 (fun f h=>f=.bool N/\Bw W3 h)
 case first =>
  by_cases f:d.wh.length=0
  . have h:Hi (N=true):=h_ (by rw[<- aj.u,Ye f];rfl)
    have l:¬ (0:Int)<d.wh.length:=(by omega);clear f;go_wp2_with fail;go_meet;exact⟨by rw[h.u],bR _ _⟩
  . have h:Hi (N=kbg (evL apL (lkF m (cS p)) d.wh)):=h_ (by rw[<- aj.u,Yd f];rfl)
    have l:(0:Int)<d.wh.length:=(by omega);have D:=h_ (ak d.wh g.h g.hc HO.h HF.h (by omega) W3 s (aa _ (bR _ _)).h);unfold vv at D;clear f r u x y;obtain⟨r,u,x,y⟩:=kaf ad;go_wp2_with fail;refine cQ D fun G b=>?_;have f:=h_ b;clear b r u x y Q C T U V W X Y Z;go_wp2_with fail;refine cQ (q5q (evL apL (lkF m (cS p)) d.wh) G) fun W5 b=>?_;have j:=mT f b;clear b;go_wp2_with fail;go_meet;exact⟨by rw[h.u],j⟩
 case rest =>
  obtain⟨rfl,b⟩:=hcut;replace o:=h_ (o.mono b);replace s:=h_ (s.mono b);replace E:=mB E b;replace ad:=mB ad b;replace aa:Hi (∀a,Bw wc a->FSl a d g):=h_ fun a f=>aa a (b.trans (f.mono b.size));clear b r u x y Q C T U V W X Y Z;obtain⟨Q,C,T,U,V,W,X,Y,Z⟩:=kaU E;obtain⟨r,u,x,y⟩:=kaf ad;by_cases h:d.is.length=0
  . have e:=t.u
    rw[Yr h]at e;have ay:((d.is.length:Int)==0)=true:=(by simp[h]);obtain⟨a,q,rfl,-⟩:=HV k M;have I:Hi (∀j,Bw w j->j.cell? ⟨a,q+k*3,none⟩=some (J6 c.k)/\j.cell? ⟨a,q+k*3+1,none⟩=some (J6 c.n)/\j.cell? ⟨a,q+k*3+2,none⟩=some (.string c.s)):=h_ fun j b=>by
     obtain⟨_,_,f,-,K⟩:=HV.mono b k M;cases f;rw[e]at K;exact K
    clear e h;go_wp2_with fail;clear Q C T U V W X Y Z r u x y;refine kd3 o.B fun l=>?_;have hC:=I.u;refine tkA 0 l ?_;refine tkA 1 l ?_;refine tkA 2 l ?_;refine tkA 3 l ?_;refine tkA 4 l ?_;refine tkA 5 l ?_;have f:=o.mono (bR _ _).drew;refine khn (w:=w) (z:=c) 6 (w.heap.size+1) f.R f.le f.B (qii f.B f.le _) ?_;intro W9 H J;obtain⟨q0,q1,q2⟩:=kag H;have O:=h_ J;clear hC l f H J;go_wp2;exact bQ (v:=.tuple #[.bool N,.agg (Jc c.k c.n c.s)]) ⟨rfl,O⟩
  . have e:=t.u
    rw[Yl h]at e;have ay:((d.is.length:Int)==0)=false:=nq (by omega);have D:=h_ (ak d.is g.i g.ic HO.i HF.i (by omega) wc s (aa _ (bR _ _)).i);obtain⟨a,q⟩:=Nq (evL apL (lkF m (cS p)) d.is);rw[q]at D e;unfold vv at D;replace t:=h_ e;clear q e h;go_wp2_with fail;refine cQ D fun G b=>?_;obtain⟨W5,an⟩:=Nq (G.alloc (.cells (Jc a.k a.n a.s) 55));obtain⟨h,hX⟩:=Nq G.heap.size;have ao:Bw G W5:=(by rw[<- an];exact(bR _ _).alloc (nR _) _);have I:Blk W5 h 55 [J6 a.k,J6 a.n,.string a.s]:=(by rw[<- hX,<- an];exact Blk.new G 55 (Jc a.k a.n a.s));have ah:=b.trans (ao.mono b.size);have aC:w.heap.size+1<h:=(by rw[<- hX];have:=o.R.lt;have:=b.size;omega);replace o:=h_ (o.mono ah);replace E:=mB E ah;have q:=h_ I;clear b ao ah r u x y Q C T U V W X Y Z;obtain⟨q0,q1,q2⟩:=kag I;have V:=I.free 0;have W:=I.free 1;have X:=I.free 2;have C:=E.cell 1;simp only[Yf,Yz]at C;clear I;by_cases u:a.k≠0/\a.k≠4/\a.k≠d.ty
    . have e:=t.u
      rw[Yr u]at e;have r:(a.k != 0)=true:=(by simp[u.1]);have c1:(a.k != 4)=true:=(by simp[u.2.1]);have c2:(a.k != d.ty)=true:=(by simp[u.2.2]);replace t:=h_ e;go_wp2_with fail;refine cQ (kdk c t _) fun U b=>?_;have x:=q.mono b q.lt;have y:=o.mono b;obtain⟨q0,q1,q2⟩:=kag x;have V:=x.free 0;have W:=x.free 1;have X:=x.free 2;obtain⟨T,I⟩:=Nq (((U.setCell ⟨h,0,none⟩ (J6 c.k)).setCell ⟨h,1,none⟩ (J6 c.n)).setCell ⟨h,2,none⟩ (.string c.s));have Q:w.heap.size+1≠h:=(by omega);have q:Hi (Blk T h 55 [J6 c.k,J6 c.n,.string c.s]):=h_ (by rw[<- I];exact((x.set 0 _).set 1 _).set 2 _);have o:Hi (RX (w.heap.size+1) w T):=h_ ⟨by rw[<- I];exact((y.R.other _ Q).other _ Q).other _ Q,by rw[<- I];exact((y.B.setCell (by show w.heap.size<=h;omega) _).setCell (by show w.heap.size<=h;omega) _).setCell (by show w.heap.size<=h;omega) _,y.le⟩;go_wp2_with fail;refine wp_region_held_drew (S:=fun j=>(j.cell? ⟨h,0,none⟩=some (J6 c.k)/\j.cell? ⟨h,1,none⟩=some (J6 c.n)/\j.cell? ⟨h,2,none⟩=some (.string c.s))/\Bw w j) (by kernel_rfl) ⟨kag q,o.B.drew⟩ (fun l=>?_);refine tkA 0 l ?_;refine tkA 1 l ?_;refine tkA 2 l ?_;have f:=o.mono (bR _ _).drew;refine khn (w:=w) (z:=c) 3 (w.heap.size+1) f.R f.le f.B ⟨kag ((q.mono (bR _ _).drew q.lt).row_other (by omega) _),qii f.B f.le _⟩ ?_;intro W9 H J;obtain⟨q0,q1,q2⟩:=kag H;have O:=h_ J;go_wp2;exact bQ (v:=.tuple #[.bool N,.agg (Jc c.k c.n c.s)]) ⟨rfl,O⟩
    . have e:=t.u
      rw[Yl u]at e;subst e;have x:((a.k != 0)=false)∨((a.k != 0)=true/\(a.k != 4)=false)∨((a.k != 0)=true/\(a.k != 4)=true/\(a.k != d.ty)=false):=by
       by_cases r:a.k=0
       . exact .inl (by simp[r])
       by_cases c1:a.k=4
       . exact .inr (.inl ⟨by simp[r],by simp[c1]⟩)
       exact .inr (.inr ⟨by simp[r],by simp[c1],by simp;exact Classical.byContradiction fun c2=>u ⟨r,c1,c2⟩⟩)
      rcases x with r | ⟨r,c1⟩ | ⟨r,c1,c2⟩
      all_goals
       go_wp2_with fail;refine wp_region_held_drew (S:=fun j=>(j.cell? ⟨h,0,none⟩=some (J6 a.k)/\j.cell? ⟨h,1,none⟩=some (J6 a.n)/\j.cell? ⟨h,2,none⟩=some (.string a.s))/\Bw w j) (by kernel_rfl) ⟨kag q,o.B.drew⟩ (fun l=>?_);refine tkA 0 l ?_;refine tkA 1 l ?_;refine tkA 2 l ?_;have f:=o.mono (bR _ _).drew;refine khn (w:=w) (z:=a) 3 (w.heap.size+1) f.R f.le f.B ⟨kag ((q.mono (bR _ _).drew q.lt).row_other (by omega) _),qii f.B f.le _⟩ ?_;intro W9 H J;obtain⟨q0,q1,q2⟩:=kag H;have O:=h_ J;go_wp2;exact bQ (v:=.tuple #[.bool N,.agg (Jc a.k a.n a.s)]) ⟨rfl,O⟩
def okB (m:Fm)(ce:Nat->Cx)(f:Fl):Bool:=decide (f.va.length=0)||(kbg (evL apL (lkF m (cS ce)) f.va)||decide ((evL apL (lkF m (cS ce)) f.va).k=0))
def muB (m:Fm)(ce:Nat->Cx)(f:Fl):Bool:=!decide (f.mu.length=0)&&kbg (evL apL (lkF m (cS ce)) f.mu)
theorem q5z (m:Fm)(A:MA)(u:To)(X:Nat)(e:Nat->Cx)(k:Nat)(w:Tw)(z:k<m.F.length)(ak:m.F.length<=200)(h:∀a,a∈m.F->FOk m.L.length m.R.length a)(g:kbe m)(hg:∀a,a<m.F.length->GVx (e a).v)(p:EvF m A u e w) :
 Gv 79 #[mV m A,.slice u m.F.length X,J6 k] w (.tuple #[.bool (okB m e (fAt m k)),.bool (muB m e (fAt m k))]):=by
 have V:=h_ fun (a:List Nx) (c:To) (d:Nat) (q:kac a=true) (o:∀k,k<a.length->Fit (nf a k)) (f:0<a.length) b (j:EvF m A u e b) (l:kb0 b c a)=>qbn m A u c d X e a ak q o f hg b j l
 obtain⟨a,d⟩:=Nq (m.F[k]);have y:a∈m.F:=d ▸ Yi z;obtain⟨U,Q⟩:=oB (h a y) (g.f a y);rw[qoe z,d];obtain⟨o,c⟩:∃f,okB m e a=f:=⟨_,rfl⟩;obtain⟨P,b⟩:∃f,muB m e a=f:=⟨_,rfl⟩;rw[c,b];unfold okB at c;unfold muB at b;obtain⟨H,T⟩:=oB c b;clear c b h g;have j:=h_ p;obtain⟨al,ai,ap,aj,aR,ae,af,ah,ag⟩:=A;obtain⟨c,q⟩:=Nq (ag k);unfold mV at *;obtain⟨W,x⟩:=Nq (w.alloc (.cells (Jb al m ai ap aj aR ae af ah) 37));obtain⟨I,Y⟩:=Nq (W.alloc (.cells (Ja a c.b c.bc c.i c.ic c.h c.hc c.v c.vc c.u c.uc) 92));have am:W.heap.size=w.heap.size+1:=by rw[<- x];simp
 have g:=nB x;have t:=nB Y;have l:=nK x;have M:=nJ am Y;obtain⟨fb,fo,J,N,-⟩:=(p.mono g).ms.f k z;dsimp only at J N;subst J;rw[d,q]at N;obtain⟨-,z0,z1,z2,z3,z4,z5,z6,z7,z8⟩:=N;obtain⟨B,C,D,E⟩:=kaf l;obtain⟨s,G⟩:=oB (l.mono t l.lt) M;have f:=h_ (g.trans (t.mono g.size));replace j:=h_ (j.mono f);have r:Hi (∀h,Bw I h->FSl h a c):=h_ fun h b=>by
  obtain⟨_,_,J,-,K⟩:=(j.mono b).ms.f k z;dsimp only at K;rw[d,q]at K;exact K
 obtain⟨y0,y1,y2,y3,y4,y5,y6,y7,y8⟩:=kaU M;have an:(k:Int)<m.F.length:=by omega
 have ao:(0:Int)<=k:=by omega
 clear g t l M p q d y;go_enter func79,ntmps79;go_upto_if 20 with fail
 try rw[x]
 go_cut [9] from 20 to 35 (fun d g=>d=.bool o/\Bw I g)
 case first =>
  by_cases l:a.va.length=0
  . have g:Hi (o=true):=h_ (by rw[<- H.u,Ye l];rfl)
    have O:¬ (0:Int)<a.va.length:=(by omega);clear l;go_wp2_with fail;go_meet;exact⟨by rw[g.u],bR _ _⟩
  . have O:(0:Int)<a.va.length:=by omega
    have p:=h_ (V a.va c.v c.vc U.v Q.v (by omega) I j (r _ (bR _ _)).v);obtain⟨d,q⟩:=Nq (evL apL (lkF m (cS e)) a.va);rw[q]at p H;unfold vv at p;have g:Hi ((kbg d||decide (d.k=0))=o):=h_ (by rw[<- H.u,Yd l];rfl);clear l q B C D E;obtain⟨B,C,D,E⟩:=kaf s;go_wp2_with fail;refine cQ p fun q b=>?_;obtain⟨t,y⟩:=Nq (q.alloc (.cells (Jc d.k d.n d.s) 55));obtain⟨ad,M⟩:=Nq q.heap.size;have Z:Bw q t:=(by rw[<- y];exact(bR _ _).alloc (nR _) _);have K:Blk t ad 55 [J6 d.k,J6 d.n,.string d.s]:=(by rw[<- M,<- y];exact Blk.new q 55 (Jc d.k d.n d.s));obtain⟨aa,S⟩:=oB (b.trans (Z.mono b.size)) K;obtain⟨q0,q1,q2⟩:=kag K;clear b Z K B C D E y0 y1 y2 y3 y4 y5 y6 y7 y8;go_wp2_with fail
    try rw[M]
    try rw[y]
    clear y M;refine cQ (q5q d t) fun Z b=>?_;have K:=mT aa b;have q0:=(S.mono b S.lt).cell 0;simp only[Yf]at q0;cases M:kbg d
    . have y:Hi (o=(d.k==0)):=h_ (by rw[<- g.u,M];rfl)
      go_wp2_with fail;go_meet;exact⟨by rw[y.u],K⟩
    . have y:Hi (o=true):=h_ (by rw[<- g.u,M];rfl)
      go_wp2_with fail;go_meet;exact⟨by rw[y.u],K⟩
 case rest =>
  obtain⟨rfl,b⟩:=hcut;replace f:=mT f b;replace j:=h_ (j.mono b);replace G:=mB G b;replace s:=mB s b;replace r:Hi (∀h,Bw wc h->FSl h a c):=h_ fun h d=>r h (b.trans (d.mono b.size));obtain⟨y0,y1,y2,y3,y4,y5,y6,y7,y8⟩:=kaU G;obtain⟨B,C,D,E⟩:=kaf s;by_cases l:a.mu.length=0
  . have g:Hi (P=false):=h_ (by rw[<- T.u,Ye l];rfl)
    have O:¬ (0:Int)<a.mu.length:=(by omega);go_wp2;exact bQ (v:=.tuple #[.bool o,.bool false]) ⟨by rw[g.u],f⟩
  . have g:Hi (P=kbg (evL apL (lkF m (cS e)) a.mu)):=h_ (by rw[<- T.u,Yd l];rfl)
    have O:(0:Int)<a.mu.length:=(by omega);have p:=h_ (V a.mu c.u c.uc U.u.u Q.u.u (by omega) wc j (r _ (bR _ _)).u);unfold vv at p;go_wp2_with fail;refine cQ p fun q b=>?_;replace f:=mT f b;go_wp2_with fail;refine cQ (q5q (evL apL (lkF m (cS e)) a.mu) q) fun t b=>?_;replace f:=mT f b;rw[<- g.u];go_wp2;exact bQ (v:=.tuple #[.bool o,.bool P]) ⟨rfl,f⟩
def cxC (x:Cx):Tl:=[.int .i64 x.v.k,.int .i64 x.v.n,.string x.v.s,.bool x.rel,.bool x.ok,.bool x.must]
def cx6 (g:Nat->Cx)(n:Nat):Tl:=(List.range n).flatMap fun j=>cxC (g j)
theorem qit (g:Nat->Cx)(n:Nat):cx6 g (n+1)=cx6 g n++cxC (g n):=by simp[cx6,List.range_succ]
theorem qo3 (g:Nat->Cx)(n:Nat):(cx6 g n).length=n*6:=by
 induction n with
 | zero=>rfl
 | succ n a=>rw[qit,Yj,a];simp[cxC];omega
theorem qo2 (g:Nat->Cx)(n k i:Nat)(c:k<n)(hi:i<6):(cx6 g n)[k*6+i]? = (cxC (g k))[i]?:=by
 induction n with
 | zero=>omega
 | succ n b =>
  rw[qit];by_cases a:k=n
  . subst a
    rw[Vj (by rw[qo3];omega),qo3]
    congr 1;omega
  . rw[List.getElem?_append_left (by rw[qo3];omega)]
    exact b (by omega)
theorem qns {B:Nat}{g:Nat->Cx}(d:w.ownsRow B 75 6 (.slice a n k) n (cx6 g n)):kct w a n g:=fun f j=>by
 rcases d.2 with ⟨e,p⟩ | ⟨l,m,o,e,-,h,-⟩
 . omega
 . cases e
   have b:=fun c (i:c<6)=>(World.ownsRow.cellAt d (f*6+c) (by omega)).trans (qo2 g n f c j i);refine⟨l,0,rfl,(Yq.1 h).1,?_,?_,?_,?_,?_,?_⟩ <;> rw[Y3]
   . exact b 0 (by omega)
   . exact b 1 (by omega)
   . exact b 2 (by omega)
   . exact b 3 (by omega)
   . exact b 4 (by omega)
   . exact b 5 (by omega)
theorem qr3 {B b:Nat}{xs:Tl}(d:w.ownsRow B t k v n xs)(i:v.ownBlock≠some b)(j:Nat)(u:Value):(w.setCell ⟨b,j,none⟩ u).ownsRow B t k v n xs:=by
 refine⟨d.1,?_⟩;rcases d.2 with g | ⟨c,e,f,a,h,m,l,q,o,p⟩
 . exact .inl g
 . refine .inr ⟨c,e,f,a,h,(heap_setCell_other w ⟨b,j,none⟩ c u ?_).trans m,l,q,o,p⟩
   rintro rfl;exact i (by rw[a];rfl)
theorem qr2 {B b:Nat}{xs:Tl}(d:w.ownsRow B t k v n xs)(i:w.heap.size<=b):v.ownBlock≠some b:=by
 rcases d.2 with ⟨a,-⟩ | ⟨c,f,g,a,-,e,-⟩
 . rw[a];intro t;cases t
 . have:=(Yq.1 e).1
   rw[a];intro t;have h:c=b:=by simpa [Value.ownBlock] using t
   omega
def ceR (ce:Nat->Cx)(s:Nat->Bool × Vx)(j:Nat):Cx:=⟨(s j).2,(s j).1,(ce j).ok,(ce j).must⟩
def mkD (n:Nat)(M:Nat->Bool):List Nat:=(List.range n).filter M
theorem qqd {M:Nat->Bool}(a:k<n):k∈mkD n M ↔ M k=true:=by simp[mkD,a]
abbrev Frv (m:Fm)(inp:Nat->Vx):=keT apL kbg (kax 1) m inp
theorem kfn {n:Nat->Vx}{s:Nat->Bool × Vx}(g:k<m.F.length)(q:∀b,b∈m.F->FOk m.L.length m.R.length b)(o:kbe m)(hi:GVx (n k))(r:∀a,a<m.F.length->GVx (s a).2):GVx (Frv m n s k).2:=by
 have h:fAt m k∈m.F:=by rw[qoe g];exact Yi g
 have j:=(q _ h).i;have d:=(o.f _ h).i;simp only[Frv,keT];by_cases c:(fAt m k).is.length=0
 . rw[Yr c];exact hi
 . rw[Yl c]
   rw[kac,Ze]at j;have l:=(qsw _ _).1 (j.resolve_left (by simpa using c));have p:GVx (evL apL (lkF m s) (fAt m k).is):=kda l.2.2.1 l.2.2.2.1 (fun a e=>⟨(d a e).2.2.1,(d a e).2.2.2⟩) (fun b=>kgH r b) _ (nR _);split
   . exact kcd (by decide)
   . exact p
theorem kid {b:Nat->Vx}{D:List Nat}{s0:Nat->Bool × Vx}(g:∀a,a∈m.F->FOk m.L.length m.R.length a)(f:kbe m)(hi:∀a,a<m.F.length->GVx (b a))(e:∀a,a<m.F.length->GVx (s0 a).2)(r:Nat):∀a,a<m.F.length->GVx (rdS (Frv m b) D s0 r a).2:=by
 induction r with
 | zero=>exact e
 | succ r d =>
  intro a c;show GVx (if a∈D then Frv m b (rdS (Frv m b) D s0 r) a else rdS (Frv m b) D s0 r a).2;split
  . exact kfn c g f (hi a c) d
  . exact d a c
def kfL (w:Tw)(n:Nat)(g:Nat->Cx)(r:Ending)(w':Tw):Prop:=∃a c,r=.returned (.slice a n c)/\kct w' a n g/\Bw w w'
theorem qqz {w':Tw}{c:Nat}{g:Nat->Cx}(b:kct w' a n g)(d:Bw w w'):kfL w n g (.returned (.slice a n c)) w':=⟨a,c,rfl,b,d⟩
theorem q61 (m:Fm)(A:MA)(z ac Y:To)(ci cc cm:Nat)(c:Nat->Cx)(e:Nat->Vx)(M:Nat->Bool)(w:Tw)(aQ:m.F.length<=200)(l:∀h,h∈m.F->FOk m.L.length m.R.length h)(k:kbe m)(x:∀f,f<m.F.length->GVx (e f))(u:∀f,f<m.F.length->GVx (c f).v)(y:MSl w m A)(hi:kaF w z m.F.length e)(r:kct w ac m.F.length c)(t:ka1 w Y m.F.length M) :
 Calls prog 56 #[mV m A,.slice z m.F.length ci,.slice ac m.F.length cc,.slice Y m.F.length cm] w fun g a=>kfL w m.F.length (ceR c (rdS (Frv m e) (mkD m.F.length M) (cS c) (m.F.length+1))) g a:=by
 have aC:=h_ (kid (D:=mkD m.F.length M) (s0:=cS c) l k x u);have aB:=h_ fun (d:Nat->Cx) (n:To) (B a:Nat) b (U:a<m.F.length) (o:∀f,f<m.F.length->GVx (d f).v) (i:EvF m A n d b) (j:kaF b z m.F.length e)=>q60 m A n z B ci d e a b U aQ l k o i j;obtain⟨O,P,Q,S,I,J,K,N,aq⟩:=A;unfold mV at *;obtain⟨W0,q,j,i⟩:=nV w 37 (Jb O m P Q S I J K N);have aF:Hi (∀b,Bw W0 b->MSl b m ⟨O,P,Q,S,I,J,K,N,aq⟩/\kaF b z m.F.length e/\ka1 b Y m.F.length M/\Blk b w.heap.size 37 (Jh O m P Q S I J K N)/\Bw w b):=h_ fun b d=>⟨(y.mono i).mono d,(hi.mono i).mono d,(t.mono i).mono d,j.mono d j.lt,i.trans (d.mono i.size)⟩;have o:=h_ (r.mono i);have V:=(kaf j).2.2.2;clear i j y hi r t l k x u;go_enter func56,ntmps56;go_wp2_with fail
 try rw[q]
 clear q V;go_loopw [2,9,10,11,12,13,14] (fun cv i _ _ _ _ _ wr=>∃(g:Nat) (n:To) (B:Nat),g<=m.F.length+1/\cv=.slice n m.F.length B/\i=J6 g/\kct wr n m.F.length (ceR c (rdS (Frv m e) (mkD m.F.length M) (cS c) g))/\Bw W0 wr) (fun _ i _ _ _ _ _ _=>m.F.length+1 - (intOf i).toNat)
 case atStart=>exact⟨0,ac,cc,nZ _,rfl,rfl,o,bR _ _⟩
 case round =>
 clear o;obtain⟨g,n,B,hr,rfl,rfl,j,d⟩:=hrel;obtain⟨i,rfl⟩:∃i,i=wr:=⟨_,rfl⟩;obtain⟨q,r,o,k,u⟩:=aF i d;have V:=(kaf k).2.2.2;by_cases T:g<=m.F.length
 case neg =>
  obtain rfl:g=m.F.length+1:=by omega
  have ay:¬ ((m.F.length+1:Nat):Int)<=(m.F.length:Int):=by omega
  obtain⟨W,G⟩:=oB j u;clear j d q r o k u T;go_wp2;exact bQ (v:=.slice n m.F.length B) (qqz W G)
 case pos =>
 have ay:(g:Int)<=(m.F.length:Int):=by omega
 obtain⟨l,x⟩:=Nq (rdS (Frv m e) (mkD m.F.length M) (cS c) g);obtain⟨y,H⟩:=Nq (rdS (Frv m e) (mkD m.F.length M) (cS c) (g+1));rw[x]at j;have an:Hi (∀a,a<m.F.length->y a=if M a=true then Frv m e l a else l a):=h_ fun a U=>by
  rw[<- H,<- x];show(if a∈mkD m.F.length M then _ else _)=_;by_cases C:M a=true
  . rw[Yr C,Yr ((qqd U).2 C)]
  . rw[Yl C,Yl fun E=>C ((qqd U).1 E)]
 have aD:Hi (∀f,f<m.F.length->GVx (ceR c l f).v):=h_ fun f hj=>by have:=aC g f hj;rw[x]at this;exact this
 have aI:=h_ H;obtain⟨Bk,f⟩:∃E,i.heap.size=E:=⟨_,rfl⟩;obtain⟨W5,E⟩:=Nq (i.alloc (.cells #[] 75));have X:Hi (Below Bk i W5):=h_ (by rw[<- E,<- f];exact(bR _ _).alloc (nR _) _);have Z:Hi (W5.ownsRow Bk 75 6 (.slice (some ⟨Bk,0,none⟩) 0 0) 0 (cx6 (ceR c y) 0)):=h_ (by
  rw[<- E,<- f];exact⟨rfl,.inr ⟨i.heap.size,0,#[],rfl,nR _,heap_alloc_new i (.cells #[] 75),nR _,nZ _,rfl,rfl⟩⟩)
 have ad:Hi (∀b,Below Bk i b->MSl b m ⟨O,P,Q,S,I,J,K,N,aq⟩/\kaF b z m.F.length e/\ka1 b Y m.F.length M/\Blk b w.heap.size 37 (Jh O m P Q S I J K N)/\kct b n m.F.length (ceR c l)/\Bw W0 b/\Bk<=b.heap.size):=h_ fun b b=>by
  rw[<- f]at b;exact⟨q.mono b,r.mono b,o.mono b,k.mono b k.lt,j.mono b,d.trans (b.mono d.size),by rw[<- f];exact b.size⟩
 obtain⟨b,ak⟩:=oB (And.intro E f) T;clear j d q r o k u x H E f T;go_wp2_with fail;rw[b.u.1,b.u.2];clear b V ay;go_loopw [10,11,12,13,14] (fun az b _ _ _ f=>∃(a:Nat) (H:To) (T:Nat),a<=m.F.length/\b=J6 a/\az=.slice H a T/\f.ownsRow Bk 75 6 (.slice H a T) a (cx6 (ceR c y) a)/\Below Bk i f) (fun _ b _ _ _ _=>m.F.length - (intOf b).toNat)
 case atStart=>exact⟨0,_,_,nZ _,rfl,rfl,Z,X⟩
 case round =>
 clear Z X;obtain⟨a,H,T,U,rfl,rfl,b,d⟩:=hrel;obtain⟨q,r,o,k,j,u,aU⟩:=ad wr d;have V:=(kaf k).2.2.2;by_cases x:a<m.F.length
 case neg =>
  obtain rfl:a=m.F.length:=by omega
  obtain⟨W,G⟩:=oB (qns b) u;clear b d q r o k u j x;go_wp2_with fail;go_roundw
  case rel=>exact⟨g+1,H,T,by have:=ak.u;omega,rfl,by go_num,by rw[aI.u];exact W,G⟩
  case measure=>simp[intOf];have:=ak.u;omega
 case pos =>
 have a4:(a:Int)<m.F.length:=by omega
 have a3:(0:Int)<=a:=by omega
 obtain⟨cb,co,rfl,-,c0,c1,c2,c3,c4,c5⟩:=j a x;obtain⟨mb,mo,rfl,-,d0⟩:=o a x;obtain⟨h,hx⟩:=Nq (ceR c l a);obtain⟨E,hy⟩:=Nq (ceR c y a);rw[hx]at c0 c1 c2 c3 c4 c5;obtain⟨Wc,ax⟩:=Nq (wr.alloc (.cells (Jy h.v.k h.v.n h.v.s h.rel h.ok h.must) 75));obtain⟨f,hX⟩:=Nq wr.heap.size;have Z:=nB ax;have av:=nJ hX ax;obtain⟨W,G,aa,X⟩:=oD av (qkx b Z) (d.trans (Z.mono aU)) (qr2 b (Oo hX));have aJ:Hi (Bk<=f):=h_ (by omega);obtain⟨HY,HX⟩:=oB hy hx;have au:=(Z.cell (p:=⟨mb,mo+a,none⟩) (by obtain⟨_,_,ae,hl,-⟩:=o a x;cases ae;exact hl)).trans d0;clear b d q r o k j u Z av hx hy d0;go_upto_if 37 with fail
 go_cut [13,14] from 37 to 49 (fun _ _ b=>Blk b f 75 (cxC E)/\b.ownsRow Bk 75 6 (.slice H a T) a (cx6 (ceR c y) a)/\Below Bk i b)
 case first =>
  cases t:M a
  . have b:Hi (E=h):=h_ (by rw[<- HY.u,<- HX.u];simp only[ceR,an.u a x,t];rfl)
    rw[t]at au;go_wp2_with fail;go_meet;exact⟨by rw[b.u];exact W,G,aa⟩
  . rw[t]at au
    obtain⟨q,r,-,k,j,-,aV⟩:=ad _ aa;have o:=h_ (aB (ceR c l) (some ⟨cb,co,none⟩) B a Wc x aD ⟨q,j⟩ r);rw[show cS (ceR c l)=l from rfl]at o;obtain⟨rb,aj⟩:∃b,(Frv m e l a).1=b:=⟨_,rfl⟩;obtain⟨b,hu⟩:=Nq ((Frv m e l a).2);simp only[Frv]at aj hu;rw[aj,hu]at o;unfold vv at o;have aW:Hi (E=⟨b,rb,h.ok,h.must⟩):=h_ (by rw[<- HY.u,<- HX.u,<- aj,<- hu];simp only[ceR,an.u a x,t,if_true,Frv]);obtain⟨x0,x1,x2,V⟩:=kaf k;go_wp2_with fail;refine cQ o fun u ag=>?_;obtain⟨W7,aw⟩:=Nq (u.alloc (.cells (Jc b.k b.n b.s) 55));obtain⟨ao,aN⟩:=Nq u.heap.size;have aO:Bw u W7:=(by rw[<- aw];exact(bR _ _).alloc (nR _) _);have aL:Blk W7 ao 55 [J6 b.k,J6 b.n,.string b.s]:=(by rw[<- aN,<- aw];exact Blk.new u 55 (Jc b.k b.n b.s));have ah:=ag.trans (aO.mono ag.size);have d:=W.mono ah W.lt;have aM:=qkx G ah;have aK:=aa.trans (ah.mono aV);have a2:ao≠f:=(by have:=W.lt;have:=ag.size;omega);have Z:=aJ.u;obtain⟨p0,p1,p2⟩:=kag aL;have q0:=d.cell 0;have q1:=d.cell 1;have q2:=d.cell 2;have q3:=d.cell 3;have g0:=d.free 0;have g1:=d.free 1;have g2:=d.free 2;have g3:=d.free 3;simp only[Yf,Yz]at q0 q1 q2 q3;obtain⟨aE,aH,aA⟩:=oC ((((d.set 3 (.bool rb)).set 0 (J6 b.k)).set 1 (J6 b.n)).set 2 (.string b.s)) (qr3 (qr3 (qr3 (qr3 aM X 3 (.bool rb)) X 0 (J6 b.k)) X 1 (J6 b.n)) X 2 (.string b.s)) ((((aK.setCell (p:=⟨f,3,none⟩) Z (.bool rb)).setCell (p:=⟨f,0,none⟩) Z (J6 b.k)).setCell (p:=⟨f,1,none⟩) Z (J6 b.n)).setCell (p:=⟨f,2,none⟩) Z (.string b.s));go_wp2_with fail;go_meet;exact⟨by rw[aW.u];simpa [cxC] using aE.u,aH,aA⟩
 case rest =>
  obtain⟨b,hO,o⟩:=hcut;obtain⟨i0,hi,aX,aY,aZ⟩:=info_parts qfd;have aT:=(ad _ o).2.2.2.2.2.2;have hN:=Blk.new wc 75 (cxC E).toArray;have q0:=b.cell 0;have q1:=b.cell 1;have q2:=b.cell 2;have q3:=b.cell 3;have q4:=b.cell 4;have q5:=b.cell 5;simp only[cxC,Yf,Yz]at q0 q1 q2 q3 q4 q5;obtain⟨G,u,Z⟩:=oC hO o hN;go_wp2_with (at_builtin;refine wpList_append_own _ rfl _ _ 31 rfl Bk 75 i0 _ 6 40 underlying31 hi aX aY aZ rfl (by omega) _ _ _ rfl (G.alloc _) ⟨wc.heap.size,0,none⟩ 1 1 (cxC E) rfl rfl (fun d az hj=>by rw[show(⟨wc.heap.size,0,none⟩:Addr).add d=⟨wc.heap.size,d,none⟩ by simp[Addr.add];try exact fun C=>C.symm];exact(Z.cell d).trans (by simpa [cxC] using hj)) (by simp[cxC,Value.oneCell']) (by unfold maxLen;omega) (by omega) (by simp;omega) ?_);intro v' w3 aS aP _;have d:w3.ownsRow Bk 75 6 v' (a+1) (cx6 (ceR c y) (a+1)):=by rw[qit,HY.u];exact aS
  obtain⟨a0,a1,rfl⟩:=kcz d;obtain⟨aG,C⟩:=oB d ((u.alloc aT (.cells (cxC E).toArray 75)).grown aP (by simp;omega) (fun q' ae=>qc8 G ae));refine rQ ?_;exact⟨a+1,_,_,by omega,by go_num,rfl,aG,C⟩
def ceJ (m:Fm)(ce:Nat->Cx)(M:Nat->Bool)(j:Nat):Cx:=if M j=true then ⟨(ce j).v,(ce j).rel,okB m ce (fAt m j),muB m ce (fAt m j)⟩ else ce j
theorem q8i (m:Fm)(A:MA)(j N:To)(cc cm:Nat)(b:Nat->Cx)(M:Nat->Bool)(w:Tw)(aA:m.F.length<=200)(z:∀c,c∈m.F->FOk m.L.length m.R.length c)(u:kbe m)(x:∀a,a<m.F.length->GVx (b a).v)(y:MSl w m A)(t:kct w j m.F.length b)(e:ka1 w N m.F.length M) :
 Calls prog 55 #[mV m A,.slice j m.F.length cc,.slice N m.F.length cm] w fun a d=>kfL w m.F.length (ceJ m b M) a d:=by
 have ak:=h_ fun (a:Nat) d (hk:a<m.F.length) (f:EvF m A j b d)=>q5z m A j cc b a d hk aA z u x f;obtain⟨J,K,O,P,E,G,H,I,av⟩:=A;unfold mV at *;obtain⟨f,r,l,h⟩:=nV w 37 (Jb J m K O P E G H I);obtain⟨Bk,g⟩:∃i,f.heap.size=i:=⟨_,rfl⟩;obtain⟨q,k⟩:=Nq f;obtain⟨Z,i⟩:=Nq (f.alloc (.cells #[] 75));have n:Hi (Below Bk q Z):=h_ (by rw[<- k,<- i,<- g];exact(bR _ _).alloc (nR _) _);have o:Hi (Z.ownsRow Bk 75 6 (.slice (some ⟨Bk,0,none⟩) 0 0) 0 (cx6 (ceJ m b M) 0)):=h_ (by
  rw[<- i,<- g];exact⟨rfl,.inr ⟨f.heap.size,0,#[],rfl,nR _,heap_alloc_new f (.cells #[] 75),nR _,nZ _,rfl,rfl⟩⟩)
 have C:Hi (∀d,Below Bk q d->MSl d m ⟨J,K,O,P,E,G,H,I,av⟩/\True/\ka1 d N m.F.length M/\Blk d w.heap.size 37 (Jh J m K O P E G H I)/\kct d j m.F.length b/\Bw w d/\Bk<=d.heap.size):=h_ fun d d=>by
  rw[<- g,<- k]at d;exact⟨(y.mono h).mono d,trivial,(e.mono h).mono d,l.mono d l.lt,(t.mono h).mono d,h.trans (d.mono h.size),by rw[<- g];exact d.size⟩
 have d:=h_ (And.intro r (And.intro i g));clear h l y t e z u x r i g k;go_enter func55,ntmps55;go_wp2_with fail;rw[d.u.1,d.u.2.1];have g:=d.2.2;have h:f.heap.size=w.heap.size+1:=by rw[<- d.u.1];simp
 rw[show w.heap.size+1=Bk by omega];clear d g h;go_loopw [7,8,9,10,11] (fun ai d _ _ _ g=>∃(a:Nat) (i:To) (k:Nat),a<=m.F.length/\d=J6 a/\ai=.slice i a k/\g.ownsRow Bk 75 6 (.slice i a k) a (cx6 (ceJ m b M) a)/\Below Bk q g) (fun _ d _ _ _ _=>m.F.length - (intOf d).toNat)
 case atStart=>exact⟨0,_,_,nZ _,rfl,rfl,o,n⟩
 case round =>
 clear o n;obtain⟨a,i,k,hk,rfl,rfl,d,t⟩:=hrel;obtain⟨y,-,x,n,l,U,aD⟩:=C wr t;have x3:=(kaf n).2.2.2;by_cases o:a<m.F.length
 case neg =>
  obtain rfl:a=m.F.length:=by omega
  have az:¬ (m.F.length:Int)<(m.F.length:Int):=by omega
  obtain⟨h,g⟩:=oB (qns d) U;clear d t y x n U l o;go_wp2;exact bQ (v:=.slice i m.F.length k) (qqz h g)
 case pos =>
 have az:(a:Int)<m.F.length:=by omega
 have aL:(0:Int)<=a:=by omega
 obtain⟨cb,co,rfl,-,c0,c1,c2,c3,c4,c5⟩:=l a o;obtain⟨mb,mo,rfl,-,W⟩:=x a o;obtain⟨c,V⟩:=Nq (b a);obtain⟨g,hy⟩:=Nq (ceJ m b M a);rw[V]at c0 c1 c2 c3 c4 c5;obtain⟨Wc,S⟩:=Nq (wr.alloc (.cells (Jy c.v.k c.v.n c.v.s c.rel c.ok c.must) 75));obtain⟨r,T⟩:=Nq wr.heap.size;have u:=nB S;have ad:=nJ T S;obtain⟨B,h,z,X⟩:=oD ad (qkx d u) (t.trans (u.mono aD)) (qr2 d (Oo T));have au:Hi (Bk<=r):=h_ (by omega);obtain⟨D,Y⟩:=oB hy V;have aa:=(u.cell (p:=⟨mb,mo+a,none⟩) (by obtain⟨_,_,Q,hl,-⟩:=x a o;cases Q;exact hl)).trans W;clear d t y x n l U u ad V hy W;go_upto_if 27 with fail
 try rw[T]
 try rw[S]
 go_cut [10,11] from 27 to 38 (fun _ _ d=>Blk d r 75 (cxC g)/\d.ownsRow Bk 75 6 (.slice i a k) a (cx6 (ceJ m b M) a)/\Below Bk q d)
 case first =>
  cases e:M a
  . have d:Hi (g=c):=h_ (by rw[<- D.u,<- Y.u];simp[ceJ,e])
    rw[e]at aa;go_wp2_with fail;go_meet;exact⟨by rw[d.u];exact B,h,z⟩
  . rw[e]at aa
    obtain⟨y,-,-,n,l,-,aE⟩:=C _ z;have W:=h_ (ak a Wc o ⟨y,l⟩);obtain⟨t,ag⟩:∃d,okB m b (fAt m a)=d:=⟨_,rfl⟩;obtain⟨u,ah⟩:∃d,muB m b (fAt m a)=d:=⟨_,rfl⟩;rw[ag,ah]at W;have aF:Hi (g=⟨c.v,c.rel,t,u⟩):=h_ (by rw[<- D.u,<- Y.u,<- ag,<- ah];simp[ceJ,e]);obtain⟨x0,x1,x2,x3⟩:=kaf n;go_wp2_with fail;refine cQ W fun W7 x=>?_;have d:=B.mono x B.lt;have ax:=qkx h x;have aw:=z.trans (x.mono aE);have ae:=au.u;have U:=d.cell 4;have V:=d.cell 5;have g4:=d.free 4;have g5:=d.free 5;simp only[Yf,Yz]at U V;obtain⟨an,aq,aj⟩:=oC ((d.set 4 (.bool t)).set 5 (.bool u)) (qr3 (qr3 ax X 4 (.bool t)) X 5 (.bool u)) ((aw.setCell (p:=⟨r,4,none⟩) ae (.bool t)).setCell (p:=⟨r,5,none⟩) ae (.bool u));go_wp2_with fail;go_meet;exact⟨by rw[aF.u];simpa [cxC] using an.u,aq,aj⟩
 case rest =>
  obtain⟨d,hO,u⟩:=hcut;obtain⟨i0,hi,aG,aH,aI⟩:=info_parts qfd;have aC:=(C _ u).2.2.2.2.2.2;have hN:=Blk.new wc 75 (cxC g).toArray;have q0:=d.cell 0;have q1:=d.cell 1;have q2:=d.cell 2;have q3:=d.cell 3;have U:=d.cell 4;have V:=d.cell 5;simp only[cxC,Yf,Yz]at q0 q1 q2 q3 U V;obtain⟨h,x,HN⟩:=oC hO u hN;go_wp2_with (at_builtin;refine wpList_append_own _ rfl _ _ 31 rfl Bk 75 i0 _ 6 40 underlying31 hi aG aH aI rfl (by omega) _ _ _ rfl (h.alloc _) ⟨wc.heap.size,0,none⟩ 1 1 (cxC g) rfl rfl (fun t ai hj=>by rw[show(⟨wc.heap.size,0,none⟩:Addr).add t=⟨wc.heap.size,t,none⟩ by simp[Addr.add];try exact fun W=>W.symm];exact(HN.cell t).trans (by simpa [cxC] using hj)) (by simp[cxC,Value.oneCell']) (by unfold maxLen;omega) (by omega) (by simp;omega) ?_);intro v' w3 aB ay _;have t:w3.ownsRow Bk 75 6 v' (a+1) (cx6 (ceJ m b M) (a+1)):=by rw[qit,D.u];exact aB
  obtain⟨aJ,aK,rfl⟩:=kcz t;obtain⟨ao,W⟩:=oB t ((x.alloc aC (.cells (cxC g).toArray 75)).grown ay (by simp;omega) (fun q' Q=>qc8 h Q));refine rQ ?_;exact⟨a+1,_,_,by omega,by go_num,rfl,ao,W⟩
section
variable {md:Region.Mode} {ops:Array Oper} {Q:Exit->Act->Tw->Prop} {l l':Tl} {lb lb':List Bool} {fuel B:Nat} {W0 W:Tw} {o o6 o7:Oper} {F:FuncId} {args:Ta}
theorem appT {S:Tw->Prop}{p q r:Oper}{m:TypeInfo}{zv:Value}{xs cs:Tl}(i:Nat)(d1 d2 v:Tmp)(s x:Operand)
 (y:∀c,Below B W c->(∀b,b<W.heap.size->some b≠u.ownBlock->c.heap[b]? = W.heap[b]?)->S c) (C:B<=W.heap.size) (D:W.ownsRow B e k u n xs) (ht:prog.underlying t=some (.slice e)) (T:prog.info? e=some m) (hz:m.zero=some zv) (ai:m.size=k) (K:m.bytes=j) (an:zv.cells.size=k) (aj:0<k)
 (M:cs.length=k) (H:∀d∈cs,d.oneCell'=true) (I:n+1<=maxLen) (L:(n+1)*j<=140737488355328)
 (w:∀g f c,c.ownsRow B e k (.slice (some ⟨g,0,none⟩) (n+1) f) (n+1) (xs++cs)->Below B W c->(∀b,b<W.heap.size->some b≠u.ownBlock->c.heap[b]? = W.heap[b]?)->Q .normal { tmps:=(((l.set d1 (.slice (some ⟨W.heap.size,0,none⟩) 1 1)).set d2 (.slice (some ⟨g,0,none⟩) (n+1) f)).set v (.slice (some ⟨g,0,none⟩) (n+1) f)).toArray,defers:=[] } c)
 (U:ops[i]? = some p:=by exact rfl) (N:p.dst=some d1:=by exact rfl) (ak:Region.wanted p (yielded ops l.toArray)=true:=by rfl) (ac:Region.ready md ops lb.toArray=[i]:=by kernel_rfl)
 (hrun:(execOp (Act.eval { tmps:=l.toArray,defers:=[] }) p).run prog W=.ok (.value (.slice (some ⟨W.heap.size,0,none⟩) 1 1)) (W.alloc (.cells cs.toArray e)):=by simp[execOp,go_sem])
 (V:ops[i+1]? = some q:=by exact rfl) (O:q.dst=some d2:=by exact rfl) (R:q.guard=none:=by exact rfl) (ad:Region.ready md ops (lb.toArray.setIfInBounds i true)=[i+1]:=by kernel_rfl) (aa:q.op=.call { callee:=.builtin .append,args:=#[s,x],argTypes:=#[t,t] }:=by exact rfl)
 (ah:Act.eval { tmps:=l.toArray.setIfInBounds d1 (.slice (some ⟨W.heap.size,0,none⟩) 1 1),defers:=[] } s=u:=by rfl) (am:Act.eval { tmps:=l.toArray.setIfInBounds d1 (.slice (some ⟨W.heap.size,0,none⟩) 1 1),defers:=[] } x=.slice (some ⟨W.heap.size,0,none⟩) 1 1:=by rfl)
 (X:ops[i+2]? = some r:=by exact rfl) (P:r.dst=some v:=by exact rfl) (al:∀d,Region.wanted r (yielded ops ((l.toArray.setIfInBounds d1 (.slice (some ⟨W.heap.size,0,none⟩) 1 1)).setIfInBounds d2 d))=true:=by intro _;rfl) (ae:Region.ready md ops ((lb.toArray.setIfInBounds i true).setIfInBounds (i+1) true)=[i+2]:=by kernel_rfl)
 (ag:∀d h,(execOp (Act.eval { tmps:=(l.toArray.setIfInBounds d1 (.slice (some ⟨W.heap.size,0,none⟩) 1 1)).setIfInBounds d2 d,defers:=[] }) r).run prog h=.ok (.value d) h:=by intro _ _;rfl)
 (af:Region.ready md ops (((lb.toArray.setIfInBounds i true).setIfInBounds (i+1) true).setIfInBounds (i+2) true)=[]:=by kernel_rfl) :
 wpAnyH prog md ops Q S (fuel+3) lb.toArray { tmps:=l.toArray,defers:=[] } W:=by
 have h:=(bR W.heap.size W).alloc (nR _) (.cells cs.toArray e);have J:=Blk.new W e cs.toArray;have E:=h.mono C;refine wpAnyH_ready ac (by simp) (kaD (a:={ tmps:=l.toArray,defers:=[] }) d1 U N ak hrun (y _ E fun b A _=>h.block b A) ?_ AllReadyH.nil);refine khs (a:={ tmps:=l.toArray.setIfInBounds d1 (.slice (some ⟨W.heap.size,0,none⟩) 1 1),defers:=[] }) (fuel:=fuel+1) d2 V O R ad s x t aa B e m zv k j ht T hz ai K an aj u n xs ah (D.alloc _) ⟨W.heap.size,0,none⟩ 1 1 cs am (by rw[M,Nat.one_mul]) (fun z d d=>by
  rw[show(⟨W.heap.size,0,none⟩:Addr).add z=⟨W.heap.size,z,none⟩ by simp[Addr.add];try exact fun w=>w.symm,J.cell z];simpa using d) H (by omega) I L (Y5 C h.size) _ rfl ?_
 intro g f c Z G _ _;have d:=E.grown G (Y5 C h.size) (fun b e=>qc8 D e);have z:∀b,b<W.heap.size->some b≠u.ownBlock->c.heap[b]? = W.heap[b]?:=fun b A Y=>(G.block b (by have:=h.size;omega) Y).trans (h.block b A);refine⟨y _ d z,?_⟩;refine wpAnyH_ready ae (by simp) (kaD (a:={ tmps:=(l.toArray.setIfInBounds d1 (.slice (some ⟨W.heap.size,0,none⟩) 1 1)).setIfInBounds d2 (.slice (some ⟨g,0,none⟩) (n+1) f),defers:=[] }) v X P (al _) (ag _ _) (y _ d z) ?_ AllReadyH.nil);refine wpAnyH_done af ?_ _;have:=w g f c Z d z;rw[<- Yw,<- Yw,<- Yw]at this;exact this
theorem calV {z:Vx}{x y:Operand}(i:Nat)(c b:Tmp)(g:Below B W0 W)(j:B<=W.heap.size)(I:c≠b)(u:∀d,Bw W d->Gv F args d (vv z))
 (D:∀f e,Blk e f 55 [J6 z.k,J6 z.n,.string z.s]->W.heap.size<=f->Bw W e->Q .normal { tmps:=((l.set c (vv z)).set b (J9 f 0)).toArray,defers:=[] } e)
 (hi:ops[i]? = some o:=by exact rfl) (v:o.dst=some c:=by exact rfl) (T:Region.wanted o (yielded ops l.toArray)=true:=by rfl) (J:Region.ready md ops lb.toArray=[i,i+1]:=by kernel_rfl)
 (hrun:∀d,(execOp (Act.eval { tmps:=l.toArray,defers:=[] }) o).run prog d=.ok (.enter F args) d:=by intro _;simp[execOp,go_sem])
 (A:ops[i+1]? = some o6:=by exact rfl) (w:o6.dst=some b:=by exact rfl) (V:∀e,Region.wanted o6 (yielded ops (l.set c e).toArray)=true:=by intro _;rfl) (X:Region.wanted o6 (yielded ops l.toArray)=true:=by rfl) (U:∀e,Region.wanted o (yielded ops (l.set b e).toArray)=true:=by intro _;rfl)
 (L:Region.ready md ops (lb.toArray.setIfInBounds i true)=[i+1]:=by kernel_rfl) (K:Region.ready md ops (lb.toArray.setIfInBounds (i+1) true)=[i]:=by kernel_rfl)
 (P:∀e d,(execOp (Act.eval { tmps:=(l.set c e).toArray,defers:=[] }) o6).run prog d=.ok (.value (J9 d.heap.size 0)) (d.alloc (.cells Jf 55)):=by intro _ _;simp[execOp,go_sem])
 (S:∀d,(execOp (Act.eval { tmps:=l.toArray,defers:=[] }) o6).run prog d=.ok (.value (J9 d.heap.size 0)) (d.alloc (.cells Jf 55)):=by intro _;simp[execOp,go_sem])
 (O:∀e d,(execOp (Act.eval { tmps:=(l.set b e).toArray,defers:=[] }) o).run prog d=.ok (.enter F args) d:=by intro _ _;simp[execOp,go_sem])
 (H:ops[i+2]? = some o7:=by exact rfl) (E:o7.op=.store 55 x y:=by exact rfl) (G:o7.dst=none:=by exact rfl) (Z:∀d e,Act.eval { tmps:=((l.set c d).set b e).toArray,defers:=[] } x=e:=by intro _ _;rfl) (hy:∀d e,Act.eval { tmps:=((l.set c d).set b e).toArray,defers:=[] } y=d:=by intro _ _;rfl)
 (Y:∀d e,Region.wanted o7 (yielded ops ((l.set c d).set b e).toArray)=true:=by intro _ _;rfl) (M:Region.ready md ops ((lb.toArray.setIfInBounds i true).setIfInBounds (i+1) true)=[i+2]:=by kernel_rfl) (N:Region.ready md ops (((lb.toArray.setIfInBounds i true).setIfInBounds (i+1) true).setIfInBounds (i+2) true)=[]:=by kernel_rfl) :
 wpAnyH prog md ops Q (fun m=>Below B W0 m) (fuel+3) lb.toArray { tmps:=l.toArray,defers:=[] } W:=by
 have t:∀f e,Blk e f 55 Jl->W.heap.size<=f->Bw W e->wpAnyH prog md ops Q (fun m=>Below B W0 m) (fuel+1) ((lb.toArray.setIfInBounds i true).setIfInBounds (i+1) true) { tmps:=((l.set c (vv z)).set b (J9 f 0)).toArray,defers:=[] } e:=fun f e p q h=>by
  have e:=qii h q (Jc z.k z.n z.s);refine ka0 (a:={ tmps:=((l.set c (vv z)).set b (J9 f 0)).toArray,defers:=[] }) H (Y _ _) M G (q2a (a:={ tmps:=((l.set c (vv z)).set b (J9 f 0)).toArray,defers:=[] }) 55 x y E f (Jc z.k z.n z.s) (Z _ _) (hy _ _) 55 _ p (by kernel_rfl) rfl (by kernel_rfl)) rfl (g.trans (e.mono j)) ?_;exact wpAnyH_done N (D f _ (p.row [J6 z.k,J6 z.n,.string z.s]) q e) _
 have p:=(bR W.heap.size W).alloc (nR _) (.cells Jf 55);refine wpAnyH_ready J (by simp) (ka7 (a:={ tmps:=l.toArray,defers:=[] }) (R:=fun d r=>d=vv z/\Bw W r) c hi v T (hrun W) ((u W (bR _ _)).mono fun C m ⟨q,g⟩=>⟨_,q,rfl,g⟩) ?_ (kaD (a:={ tmps:=l.toArray,defers:=[] }) b A w X (S W) (g.trans (p.mono j)) ?_ AllReadyH.nil))
 . rintro d f ⟨rfl,e⟩
   have h:=e.alloc e.size (.cells Jf 55);refine⟨g.trans (e.mono j),?_⟩;show wpAnyH _ _ _ _ _ _ _ { tmps:=l.toArray.setIfInBounds c (vv z),defers:=[] } _;rw[show l.toArray.setIfInBounds c (vv z)=(l.set c (vv z)).toArray from Yw ..];refine wpAnyH_ready L (by simp) (kaD (a:={ tmps:=(l.set c (vv z)).toArray,defers:=[] }) b A w (V _) (P _ f) (g.trans (h.mono j)) ?_ AllReadyH.nil);have:=t f.heap.size _ (Blk.new f 55 Jf) e.size h;rw[<- Yw]at this;exact this
 . show wpAnyH _ _ _ _ _ _ _ { tmps:=l.toArray.setIfInBounds b (J9 W.heap.size 0),defers:=[] } _
   rw[show l.toArray.setIfInBounds b (J9 W.heap.size 0)=(l.set b (J9 W.heap.size 0)).toArray from Yw ..];refine kaL (a:={ tmps:=(l.set b (J9 W.heap.size 0)).toArray,defers:=[] }) (fuel:=fuel+1) (R:=fun d r=>d=vv z/\Below (W.alloc (.cells Jf 55)).heap.size (W.alloc (.cells Jf 55)) r) c hi v (U _) K (O _ _) ((u _ p).mono fun C m ⟨q,g⟩=>⟨_,q,rfl,g⟩) ?_;rintro d f ⟨rfl,e⟩;have m:=Blk.new W 55 Jf;have h:=p.trans (e.mono p.size);refine⟨g.trans (h.mono j),?_⟩;have:=t W.heap.size f (m.mono e m.lt) (nR _) h;rw[List.set_comm _ _ I,<- Yw,Array.setIfInBounds_comm _ _ (by omega)]at this;exact this
end
def zeC:Cx:=⟨kak,false,false,false⟩
theorem qpb:(prog.info? 4).map (fun a=>(a.zero,a.size,a.bytes))=some (some (.bool false),1,1):=by kernel_rfl
theorem qr4 {B s:Nat}{xs:Tl}(l:w.ownsRow B t s v n xs)(m:w.ownsRow k e j u i x)(o:t≠e):v.ownBlock=none∨v.ownBlock≠u.ownBlock:=by
 rcases l.2 with ⟨a,-⟩ | ⟨g,q,y,a,-,d,-⟩
 . exact .inl (by rw[a];rfl)
 . refine .inr fun b=>?_
   rcases m.2 with ⟨c,-⟩ | ⟨h,r,z,c,-,p,-⟩
   . rw[a,c]at b;cases b
   . rw[a,c]at b
     have f:g=h:=(by simpa [Value.ownBlock] using b);rw[f,p]at d;cases d;exact o rfl
def tr1 (n:Nat):Tl:=List.replicate n (.bool true)
theorem qij {B:Nat}(b:w.ownsRow B 4 1 (.slice a n k) n (tr1 n)):ka1 w a n fun _=>true:=fun f e=>by
 rcases b.2 with ⟨c,j⟩ | ⟨g,h,i,c,-,d,-⟩
 . omega
 . cases c
   exact⟨g,0,rfl,(Yq.1 d).1,by rw[Y3,World.ownsRow.cellAt b f (by omega)];simp[tr1,e]⟩
def kdR (m:Fm)(inp:Nat->Vx):Nat->Cx:=ceJ m (ceR (fun _=>zeC) (rdS (Frv m inp) (mkD m.F.length fun _=>true) (cS fun _=>zeC) (m.F.length+1))) fun _=>true
theorem q8j (m:Fm)(A:MA)(s:To)(ci:Nat)(d:Nat->Vx)(w:Tw)(ah:m.F.length<=200)(j:∀a,a∈m.F->FOk m.L.length m.R.length a)(h:kbe m)(o:∀b,b<m.F.length->GVx (d b))(i:MSl w m A)(hi:kaF w s m.F.length d) :
 Calls prog 30 #[mV m A,.slice s m.F.length ci] w fun a e=>kfL w m.F.length (kdR m d) a e:=by
 have p:∀b,b<m.F.length->GVx ((fun _=>zeC) b).v:=fun _ _=>qoo;have U:=h_ fun (c f:To) (g l:Nat) a (i:MSl a m A) (hi:kaF a s m.F.length d) (k:kct a c m.F.length fun _=>zeC) (n:ka1 a f m.F.length fun _=>true)=>q61 m A s c f ci g l _ d _ a ah j h o p i hi k n
 have T:=h_ fun (c f:To) (g l:Nat) a (i:MSl a m A) (k:kct a c m.F.length (ceR (fun _=>zeC) (rdS (Frv m d) (mkD m.F.length fun _=>true) (cS fun _=>zeC) (m.F.length+1)))) (n:ka1 a f m.F.length fun _=>true)=>q8i m A c f g l _ _ a ah j h (fun b g=>kid j h o p _ b g) i k n
 obtain⟨S,b⟩:∃c,ceR (fun _=>zeC) (rdS (Frv m d) (mkD m.F.length fun _=>true) (cS fun _=>zeC) (m.F.length+1))=c:=⟨_,rfl⟩;rw[b]at T;simp only[b]at U;have ax:Hi (ceJ m S (fun _=>true)=kdR m d):=h_ (by rw[<- b];rfl);clear b j h o p;obtain⟨t,u,x,y,o,p,q,r,Z⟩:=A;unfold mV at *;obtain⟨b,z⟩:=Nq (w.alloc (.cells (Jb t m u x y o p q r) 37));obtain⟨l,C⟩:=Nq (b.alloc (.cells #[] 75));obtain⟨K,G⟩:=Nq (l.alloc (.cells #[] 4));have I:b.heap.size=w.heap.size+1:=by rw[<- z];simp
 have W:l.heap.size=w.heap.size+2:=by rw[<- C];simp;omega
 have D:=nB z;have H:=nB C;have N:=nB G;have O:=nK z;have E:Hi (K.ownsRow b.heap.size 75 6 (.slice (some ⟨b.heap.size,0,none⟩) 0 0) 0 (cx6 (fun _=>zeC) 0)):=h_ (qkx (w:=l) (by
  rw[<- C];exact⟨rfl,.inr ⟨b.heap.size,0,#[],rfl,nR _,heap_alloc_new b (.cells #[] 75),nR _,nZ _,rfl,rfl⟩⟩) N)
 have j:Hi (K.ownsRow b.heap.size 4 1 (.slice (some ⟨l.heap.size,0,none⟩) 0 0) 0 (tr1 0)):=h_ (by
  rw[<- G];exact⟨rfl,.inr ⟨l.heap.size,0,#[],rfl,H.size,heap_alloc_new l (.cells #[] 4),nR _,nZ _,rfl,rfl⟩⟩)
 have J:Hi (Below b.heap.size b K):=h_ (H.trans (N.mono H.size));have Q:Hi (∀a,Below b.heap.size b a->MSl a m ⟨t,u,x,y,o,p,q,r,Z⟩/\kaF a s m.F.length d/\Blk a w.heap.size 37 (Jh t m u x y o p q r)/\Below w.heap.size w a):=h_ fun a f=>⟨(i.mono D).mono f,(hi.mono D).mono f,O.mono f O.lt,D.trans (f.mono D.size)⟩;rw[I]at E j;rw[W]at j;obtain⟨c,n⟩:=Nq (w.heap.size+1);obtain⟨B2,M⟩:=Nq (w.heap.size+2);rw[n]at E j;rw[M]at j;rw[I,n]at J;have V:Hi (∀a,Below c b a->(MSl a m ⟨t,u,x,y,o,p,q,r,Z⟩/\kaF a s m.F.length d/\Blk a w.heap.size 37 (Jh t m u x y o p q r)/\Below w.heap.size w a)/\c<=a.heap.size):=h_ fun a h=>by
  have f:Below b.heap.size b a:=by rw[I,n];exact h
  exact⟨Q a f,by have:=f.size;omega⟩
 have a:=h_ (And.intro z (And.intro C (And.intro G (And.intro n M))));clear D H N O i hi z C G Q n M I W;go_enter func30,ntmps30;go_wp2_with fail;obtain⟨i,n,z,C,G⟩:=a.u;have D:c+1=B2:=by omega
 rw[i,n,z,C,D];clear a i n z C G D;go_loopw [5,6,7] (fun i I C D=>∃(a:Nat) (G n:To) (H z:Nat),a<=m.F.length/\C=J6 a/\i=.slice G a H/\I=.slice n a z/\D.ownsRow c 75 6 (.slice G a H) a (cx6 (fun _=>zeC) a)/\D.ownsRow c 4 1 (.slice n a z) a (tr1 a)/\Below c b D) (fun _ _ C _=>m.F.length - (intOf C).toNat)
 case atStart=>exact⟨0,_,_,_,_,nZ _,rfl,rfl,rfl,E,j,J⟩
 case round =>
 clear E j J;obtain⟨a,G,n,H,z,hk,rfl,rfl,rfl,O,Q,h⟩:=hrel;obtain⟨⟨N,aj,E,ae⟩,aI⟩:=V wr h;obtain⟨x0,x1,x2,x3⟩:=kaf E;by_cases aO:a<m.F.length
 case pos =>
  have aF:(a:Int)<m.F.length:=by omega
  obtain⟨i0,hi,aK,aL,aM⟩:=info_parts qfd;obtain⟨j0,g,aC,aD,aE⟩:=info_parts qpb;obtain⟨HN,I,X,HB⟩:=oD (Blk.new wr 75 #[J6 0,J6 0,J8,.bool false,.bool false,.bool false]) O Q h;clear O Q h N aj E ae;go_wp2_with (at_builtin;refine wpList_append_own _ rfl _ _ 31 rfl c 75 i0 _ 6 40 underlying31 hi aK aL aM rfl (by omega) _ _ _ rfl (I.alloc _) ⟨wr.heap.size,0,none⟩ 1 1 (cxC zeC) rfl rfl (fun j i g=>by rw[show(⟨wr.heap.size,0,none⟩:Addr).add j=⟨wr.heap.size,j,none⟩ by simp[Addr.add];try exact fun M=>M.symm];exact(HN.cell j).trans (by simpa [cxC,zeC,kak] using g)) (by simp[cxC,Value.oneCell']) (by unfold maxLen;omega) (by omega) (by simp;omega) ?_);intro v' C aG ag _;have ad:C.ownsRow c 75 6 v' (a+1) (cx6 (fun _=>zeC) (a+1)):=by rw[qit];exact aG
  have aA:C.ownsRow c 4 1 (.slice n a z) a (tr1 a):=(X.alloc _).kept ag (qr4 X I (by decide));have aa:=(HB.alloc aI (.cells #[J6 0,J6 0,J8,.bool false,.bool false,.bool false] 75)).grown ag (by simp;omega) (fun Y D=>qc8 I D);obtain⟨a7,c7,rfl⟩:=kcz ad;have aJ:=(V _ aa).2;obtain⟨W,J,ak,av⟩:=oD ad aA aa (Blk.new C 4 #[.bool true]);go_wp2_with (at_builtin;refine wpList_append_own _ rfl _ _ 94 rfl c 4 j0 _ 1 1 underlying94 g aC aD aE rfl (by omega) _ _ _ rfl (J.alloc _) ⟨C.heap.size,0,none⟩ 1 1 [.bool true] rfl rfl (fun j i g=>by rw[show(⟨C.heap.size,0,none⟩:Addr).add j=⟨C.heap.size,j,none⟩ by simp[Addr.add];try exact fun M=>M.symm];exact(av.cell j).trans (by simpa using g)) (by simp[Value.oneCell']) (by unfold maxLen;omega) (by omega) (by simp;omega) ?_);intro v4 w4 aH M _;have j:w4.ownsRow c 4 1 v4 (a+1) (tr1 (a+1)):=by rw[tr1,List.replicate_succ'];exact aH
  have az:w4.ownsRow c 75 6 (.slice a7 (a+1) c7) (a+1) (cx6 (fun _=>zeC) (a+1)):=(W.alloc _).kept M (qr4 W J (by decide));have an:=h_ ((ak.alloc aJ (.cells #[.bool true] 4)).grown M (by simp;omega) (fun Y D=>qc8 J D));obtain⟨Y,c6,rfl⟩:=kcz j;obtain⟨aw,ay⟩:=oB az j;refine rQ ?_;exact⟨a+1,_,_,_,_,by omega,by go_num,rfl,rfl,aw,ay,an⟩
 case neg =>
  obtain rfl:a=m.F.length:=by omega
  have aF:¬ (m.F.length:Int)<(m.F.length:Int):=by omega
  obtain⟨ao,M⟩:=oB (qns O) (qij Q);have X:Hi (∀e,Below wr.heap.size wr e->e.cell? ⟨w.heap.size,0,none⟩=some (.slice t m.L.length u)/\e.cell? ⟨w.heap.size,1,none⟩=some (.slice x m.P.length y)/\e.cell? ⟨w.heap.size,2,none⟩=some (.slice o m.R.length p)/\e.cell? ⟨w.heap.size,3,none⟩=some (.slice q m.F.length r)):=h_ fun e f=>kaf (E.mono f E.lt);obtain⟨aq,au,W⟩:=oC (U G n H z wr.drew (N.mono (bR _ _).drew) (aj.mono (bR _ _).drew) (ao.mono (bR _ _).drew) (M.mono (bR _ _).drew)) N ae;go_wp2_with fail;refine kd3 (B:=wr.heap.size) (W0:=wr) (bR _ _) fun f=>?_;have hC:=X.u;refine tkA 0 f ?_;refine tkA 1 f ?_;refine tkA 2 f ?_;refine tkA 3 f ?_;refine tkA 4 f ?_;refine tkA 6 f ?_;refine kh9 (R:=fun i I=>∃g j,i=.slice g m.F.length j/\kct I g m.F.length S) 5 29 f f.size (aq.mono fun D e ⟨g,j,J,k,h⟩=>⟨_,J,⟨g,j,rfl,k⟩,h⟩) ?_;rintro i W4 ⟨a5,c5,rfl,aB⟩ aN C;simp only[Ya,Yb];refine kh9 (R:=fun i I=>∃g j,i=.slice g m.F.length j/\kct I g m.F.length (kdR m d)) 7 31 C C.size ((T a5 n c5 z W4 (au.mono C) aB (M.mono C)).mono fun D e ⟨g,j,J,k,h⟩=>⟨_,J,⟨g,j,rfl,by rw[<- ax.u];exact k⟩,h⟩) ?_;rintro i D ⟨Y,c6,rfl,k⟩ I e;simp only[Ya,Yb];replace f:=e;refine tkA 8 f ?_;refine wdQ ?_;have j:=h_ k;have g:=mT W e;go_wp2;exact bQ (v:=.slice Y m.F.length c6) (qqz j g)
