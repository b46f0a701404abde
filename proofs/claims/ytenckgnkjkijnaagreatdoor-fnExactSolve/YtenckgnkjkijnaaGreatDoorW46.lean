import Derived.Test.YtenckgnkjkijnaaGreatDoorW45
set_option maxRecDepth 100000
set_option maxHeartbeats 64000000
namespace Go.Proofs.YtenckgnkjkijnaaGreatDoor
open Go Go.RowKit Go.Shelf Go.Proofs.Tryz
attribute [local go_sem] Oper.semAt_some
theorem qkn {m:Fm}{D:List Nat}{x:Nat}(c:nxt m D=some x):kbM m x x=false:=by
 have a:=(qko c).2.1;rw[kdX,Yh,Yv]at a;have b:=a.2 x (Yu.2 (qko c).1);cases d:kbM m x x
 . rfl
 . rw[d]at b
   simp at a b;exact absurd b a.1
section
variable {P:ShP} {e:Nat->Cx} {iv:Nat->Vx}
theorem kcy.clc (a:kcy P e)(hi:∀b,b<P.m.F.length->GVx (iv b)){k:Nat}(c:k<P.m.F.length):kcy P (kcR P.m iv e k) :=
 a.up (kfn c (fun f d=>(q7o _ _ _).1 (a.v.fi f d)) a.fit (hi k c) fun b d=>a.g b d)
theorem kcy.jud (a:kcy P e)(k:Nat):kcy P (kcL P.m e k):=⟨a.v,a.fit,fun b d=>by
 unfold kcL;by_cases c:b<k
 . rw[Yr c];exact a.g b d
 . rw[Yl c];exact a.g b d⟩
structure kgG (P:ShP)(lo:Nat):Prop where
 d:P.WD.heap.size<=lo
 b:∀j,j<P.m.F.length->P.Bs j<lo
 s:P.Sh<lo
 r:∀q,P.u.ownBlock=some q->q<lo
theorem ShI.low {w:Tw}(a:ShI P e iv w):kgG P w.heap.size:=⟨a.base.size,a.pos,a.blk.lt,fun b e=>(a.row.lt b e).2⟩
theorem kgG.mono {lo n:Nat}(a:kgG P lo)(c:lo<=n):kgG P n:=⟨Y5 a.d c,fun g f=>Yn (a.b g f) c,Yn a.s c,fun f e=>Yn (a.r f e) c⟩
theorem Tch.blk {w W:Tw}(c:Tch P w W){g lo:Nat}(f:kgG P lo)(i:lo<=g){t:TypeId}{cs:Tl}(a:Blk w g t cs):Blk W g t cs:=(c.block g a.lt fun h d e=>by have:=f.b h d;omega).trans a
end
theorem qlz (n:Nat)(P:ShP)(e:Nat->Cx)(iv:Nat->Vx)(w:Tw)(C:P.m.L.length=P.n)(g:kcy P e)(D:∀J,J<P.m.F.length->GVx (iv J))(c:ShI P e iv w)(X:kcp P.WD) :
 CallsIn Fence.wide n prog 37 #[J9 P.Sh 0] w fun x a=>x=.returned (.tuple #[])/\ShI P (kcL P.m ((kam P.m P.m.F.length).foldl (kcR P.m iv) e) P.m.F.length) iv a:=by
 have an:=g.v.nf;obtain⟨y,B,T,aa⟩:=oD (fun r a=>qgd P.m P.A r a) (fun (l:Tw) (r b:Nat) h i k j=>q94 P.m P.A r b l h g.v g.fit i k j) (fun h b a (g:kcy P h) (I:b<P.m.F.length) i (c:ShI P h iv a)=>q38 P h iv b a g I i c X) (fun h b a (g:kcy P h) (I:b<P.m.F.length) (c:ShI P h iv a)=>qfn P h iv b a g I c X);obtain⟨r,bt,top,a1,a2,a3,c1,c2,c3,a5,c5,k,G,-,-⟩:=c.snd;have E:=c.msl;unfold wV at y;obtain⟨ua,cp,H⟩:=c.slice;have o:=Blk.new w 68 #[J9 P.Sh 0];have l:=(bR w.heap.size w).alloc (nR _) (.cells #[J9 P.Sh 0] 68);obtain⟨j,t⟩:=Nq (w.alloc (.cells #[J9 P.Sh 0] 68));rw[t]at o l;have h:=c.mono l;have N:j.cell? ⟨P.Sh,0,none⟩=some (.slice P.A.l P.m.L.length P.A.lc):=by rw[h.blk.cell,k,C];rfl
 have S:j.cell? ⟨P.Sh,1,none⟩=some (.slice P.A.p P.m.P.length P.A.pc):=by rw[h.blk.cell,k];rfl
 have Y:j.cell? ⟨P.Sh,2,none⟩=some (.slice P.A.r P.m.R.length P.A.rc):=by rw[h.blk.cell,k];rfl
 have Z:j.cell? ⟨P.Sh,3,none⟩=some (.slice P.A.f P.m.F.length P.A.fc):=by rw[h.blk.cell,k];rfl
 have y4:j.cell? ⟨P.Sh,4,none⟩=some (.map (some r)):=by rw[h.blk.cell,k];rfl
 have K:=o.cell 0;simp only[Yf]at K;obtain⟨q,i,HU,ae,af,z⟩:=oF o h H E G c.low;obtain⟨V,ad⟩:=oB g D;have O:=h_ l;clear c o l h k H E G g D C;refine callsIn_of_wp_marks func37 rfl trivial ?_ rfl;simp only[ntmps37,Zg,Yt,Y2,Nat.reduceAdd,Nat.reduceSub,Vi,Vh,Vo,Vl,Vr,Zw];gi_wp2_with fail
 try rw[t]
 refine kbl ((y r j).mono ?_);rintro e1 Q ⟨rfl,g,h⟩;replace q:=mB q h;replace i:=h_ (i.mono h);have ah:w.heap.size<j.heap.size:=by rw[<- t];simp
 have ag:j.heap.size<Q.heap.size:=g.lt;obtain⟨M,W⟩:=Nq j.heap.size;rw[W]at g ah ag;have U:=h_ (B Q r M (BsX P) g (ae.mono i.base) (af.mono i.base))
 try rw[W]
 clear t g h B y N S Y Z y4 K O;gi_wp2_with fail;refine qcl (gf:=100) (lb:=#[J9 M 0]) rfl (enters_of func100 (by kernel_rfl) rfl)
  U (bR _ _) (fun J ⟨E,D,g⟩=>by have:=z.b E D;omega) rfl
  (fun _ K a=>ShI P (K.foldl (kcR P.m iv) e) iv a/\kcy P (K.foldl (kcR P.m iv) e)/\Blk a w.heap.size 68 [J9 P.Sh 0])
  ?hI ?h0
  (fun x=>{ tmps:=#[J9 P.Sh 0,J9 w.heap.size 0,J6 (x:Int),undef,J9 P.Sh 0,J9 P.Sh 0,J9 P.Sh 0,J9 P.Sh 0,.agg #[.slice P.A.l P.m.L.length P.A.lc,.slice P.A.p P.m.P.length P.A.pc,.slice P.A.r P.m.R.length P.A.rc,.slice P.A.f P.m.F.length P.A.fc,.map (some r)],.func (.func 100) #[] #[J9 M 0],J6 (x:Int),undef,undef,undef,undef,undef,undef,undef,undef,undef,undef,undef,undef,undef,undef,undef],defers:=[] })
  ?assign ?body ?done
 case hI =>
  rintro D K a t ⟨g,h,k⟩ l;have o:=z.mono (show w.heap.size<=Q.heap.size by omega);exact⟨g.out l o.d o.b o.s o.r,h,l.blk k (by omega)⟩
 case h0 =>
  intro a l;exact⟨i.mono l,V,q.mono l q.lt⟩
 case assign =>
  intro m' ai x a t l
  gi_wp2
  first | exact l | simpa using l
 case body =>
  rintro m' ai D K x a am ⟨g,h,k⟩ ⟨-,-,y⟩;have Y:=(qko y).1;have t:=k.cell 0;simp only[Yf]at t;obtain⟨S,G,N,H⟩:=oD (T _ x a h Y (qkn y) g) g h k;clear g h k y;gi_wp2_with fail;refine kcZ (S.mono ?_);rintro aj W2 ⟨rfl,C,B⟩;obtain⟨Z,y⟩:=oB C B;clear C B S t;gi_wp2_with fail;refine⟨y.keepO G,y.keepB D,?_⟩;dsimp only;rw[List.foldl_append];exact⟨Z,N.clc ad Y,y.blk z (nR _) H⟩
 case done =>
  rintro x D xs a hD al Y ⟨g,h,k⟩ l;rw[Y]at g h;obtain⟨Z,K⟩:=Nq ((kam P.m P.m.F.length).foldl (kcR P.m iv) e);rw[K]at g h;have ac:=h_ K;have t:=k.cell 0;simp only[Yf]at t;have ak:a.cell? ⟨P.Sh,12,none⟩=some (.slice ua P.m.F.length cp):=by rw[<- HU.u];exact g.blk.cell 12
  obtain⟨G,N,H,S⟩:=oD g h k l;clear g h k l Y K i q V T U;gi_wp2_with fail;clear ak t;gi_loopw [3,19] (fun _ E wr=>∃b:Nat,b<=P.m.F.length/\E=J6 b/\ShI P (kcL P.m Z b) iv wr/\Blk wr w.heap.size 68 [J9 P.Sh 0]/\wr.heap[x]? = some (.deferred (some []))) (fun _ E _=>P.m.F.length - (intOf E).toNat)
  case atStart=>exact⟨0,nZ _,rfl,G.congr (fun J _=>by unfold kcL;rw[Yl (nL _)]) fun _ _=>rfl,H,S⟩
  case round =>
   clear G H S;obtain⟨b,I,rfl,c,g,l⟩:=hrel;obtain⟨i,O,q⟩:=oC c g l;by_cases G:b<P.m.F.length
   . have H:(b:Int)<P.m.F.length:=by omega
     have t:=g.cell 0;simp only[Yf]at t;have h:=h_ (aa _ b wr (N.jud b) G c);rw[qfm]at h;clear c g l;gi_wp2_with fail;refine kbl (h.mono ?_);rintro aj W2 ⟨rfl,C,B⟩;obtain⟨k,y⟩:=oB C B;clear C B h t;gi_wp2_with fail;exact⟨⟨b+1,by omega,by go_num,k,y.blk z (nR _) O,(y.keepO i).same _ _ q rfl⟩,by simp[intOf];omega⟩
   . obtain rfl:b=P.m.F.length:=by omega
     have H:¬ (P.m.F.length:Int)<(P.m.F.length:Int):=(by omega);clear c g l;gi_wp2_with fail;refine⟨by simp,.inl ⟨_,_,rfl,run_takeDeferred q,?_⟩⟩;have o:=z.mono (show w.heap.size<=x by omega);exact⟨.tuple #[],by simp[results,Tryz.f37,go_sem],rfl,by rw[ac.u];exact i.u.out (Out.put (lo:=x) (hi:=x+1) wr _ (nR _) (Zu _)) o.d o.b o.s o.r⟩
theorem qh0 (P:ShP)(e:Nat->Cx)(iv:Nat->Vx)(w:Tw)(b:P.m.L.length=P.n)(c:kcy P e)(f:∀a,a<P.m.F.length->GVx (iv a))(d:ShI P e iv w)(a:kcp P.WD) :
 Calls prog 37 #[J9 P.Sh 0] w fun h g=>h=.returned (.tuple #[])/\ShI P (kcL P.m ((kam P.m P.m.F.length).foldl (kcR P.m iv) e) P.m.F.length) iv g :=
 (callsIn_wide (n:=9)).1 (qlz 9 P e iv w b c f d a)
end Go.Proofs.YtenckgnkjkijnaaGreatDoor
namespace Go.Proofs.YtenckgnkjkijnaaGreatDoor
open Go Go.RowKit Go.Proofs.Tryz
theorem qky {w:Tw}{base k n i:Nat}{t:TypeId}{v:Value}{xs:Tl}(a:w.ownsRow base t i v n xs)(h:k<=base):w.ownsRow k t i v n xs:=by
 refine⟨a.1,?_⟩;rcases a.2 with g | ⟨d,b,c,e,f,j⟩
 . exact .inl g
 . exact .inr ⟨d,b,c,e,Y5 h f,j⟩
theorem qih {a b:Nat}{w W U:Tw}(c:Below a w U)(d:Below b W U)(h:a<=b)(g:w.heap.size<=W.heap.size):Below a w W :=
 ⟨d.os.symm.trans c.os,d.tape.symm.trans c.tape,d.output.symm.trans c.output,g,fun e f=>(d.block e (by omega)).symm.trans (c.block e f)⟩
theorem q5c (m:Fm)(A:MA)(v:Value)(g:Nat->Cx)(w:Tw)(h:∀a,MSl a m A->kbT a->TyW a->Tab a->Gv 35 #[mV m A] a (.tuple #[.pointer none,.bool false]))(j:MSl w m A)(k:kbT w)(hy:TyW w)(l:Tab w) :
 Calls prog 10 #[mV m A,v] w fun c b=>ke6 w 0 g c b:=by
 have c:=h_ h;obtain⟨q,r,s,t,ar,u,o,p,C⟩:=A;unfold mV at c⊢;dsimp only at c⊢;obtain⟨n,i,f,b⟩:=nw w 37 (Jb q m r s t ar u o p);have d:=h_ (c n (j.mono b) (k.mono b) (hy.mono b) (l.mono b));have e:Hi (∀a,Bw w a->ke6 w 0 g (.returned J7) a):=h_ fun a a=>⟨none,0,rfl,World.ownsRow_nil _ _ _ _,a⟩;obtain⟨x,y,z,B⟩:=kaf f;clear j k hy l h c;go_enter func10,ntmps10;go_wp2_with fail
 try rw[i]
 refine cQ d fun h a=>?_;have c:=h_ (e h (b.trans (a.mono b.size)));clear a i x y z B e d b f;go_wp2_with fail;go_ret;exact c
theorem q5d (m:Fm)(A:MA)(n:Nat)(F:Nat->Bool)(f:Nat->Nat)(L c:Nat)(a:To)(e:Nat->Vx)(w:Tw)(v:VfA m)(H:kbe m)(x:m.L.length=n)(G:(kam m m.F.length).length=m.F.length)(T:∀b,b<L->(e b).s.size<=9223372036854775807)(K:∀b,b<L->I6 (e b).n)(y:∀b,MSl b m A->kbT b->TyW b->Tab b->Calls prog 35 #[mV m A] b fun k d=>∃J l t C O M,k=.returned (.tuple #[J9 t 0,.bool true])/\b.heap.size<=l.heap.size/\keR m A n F f J l t C (fun _=>zCx) m.F.length O M d/\Bw b d)(z:MSl w m A)(E:kaF w a L e)(Y:kbT w)(hy:TyW w)(Z:Tab w)(q:kcp w) :
 Calls prog 10 #[mV m A,.slice a L c] w fun k d=>ke6 w (keN m true L e) (kdR m e) k d:=by
 have p:=h_ y;have I:Hi (kbp m L e=true->∀i,i<m.F.length->GVx (e i)):=h_ fun g i r=>by
  obtain⟨rfl,d⟩:=qjs g;have:=d i r;rw[kel,Yh,kcj,Yh]at this;exact⟨this.1.1,K i r⟩
 have S:=h_ fun d (h:d.m=m) b (g:ShI d (fun _=>zeC) (fun _=>kak) b) (j:kaF d.WD a L e)=>q31 d _ _ a L c e b (by rw[h];exact v.nf) T j g
 have R:=h_ fun d (h:d.m=m) (j:d.n=n) b (D:∀i,i<m.F.length->GVx (e i)) (g:ShI d (fun _=>zeC) e b) (q:kcp d.WD)=>qh0 d _ e b (by rw[h,j];exact x) ⟨by rw[h];exact v,by rw[h];exact H,fun _ _=>qoo⟩ (by rw[h];exact D) g q
 have Q:=h_ fun d (h:d.m=m) o b (g:ShI d o e b)=>qcy d o e b (by rw[h];exact v.nf) g
 have W:=h_ fun i (r:i<m.F.length)=>qs3 m e G i r;obtain⟨N,j⟩:=Nq (kbp m L e);obtain⟨B,u⟩:=Nq (keN m true L e);have aj:Hi (N=false->B=0):=h_ fun g=>by rw[<- u,keN,j,g];rfl
 have ak:Hi (N=true->B=m.F.length):=h_ fun g=>by rw[<- u,keN,j,g];rfl
 rw[j]at I;rw[u];have HQ:=h_ j;clear j u;obtain⟨al,ac,ap,ad,ar,ae,af,aa,am⟩:=A;unfold mV at p⊢;dsimp only at p⊢;obtain⟨W0,ah,V,j⟩:=nw w 37 (Jb al m ac ap ad ar ae af aa);have P:=h_ (p W0 (z.mono j) (Y.mono j) (hy.mono j) (Z.mono j));obtain⟨X,U⟩:=oB (E.mono j) (q.mono j);obtain⟨y0,y1,y2,y3⟩:=kaf V;clear z Y hy Z y p E T K v H x G q;go_enter func10,ntmps10;go_wp2_with fail
 try rw[ah]
 refine P.mono ?_;rintro k Z ⟨J,l,t,C,O,M,rfl,z,K,q⟩;have v:=qih q K.base z z;have an:=Y5 j.size z;have H:Hi (∀b,Bw l b->Bw w b):=h_ fun b g=>(j.trans (v.mono j.size)).trans (g.mono an);obtain⟨Y,T⟩:=oB (X.mono v) (U.mono v);obtain⟨d,h⟩:=Nq ((⟨m,⟨al,ac,ap,ad,ar,ae,af,aa,am⟩,n,F,f,J,l,t,C,O,M⟩:ShP));have ai:ShI d (fun _=>zeC) (fun _=>kak) Z:=by rw[<- h];exact K.toI
 have p:d.m=m:=by rw[<- h]
 have ag:d.n=n:=by rw[<- h]
 have x:d.WD=l:=by rw[<- h]
 have y:d.Sh=t:=by rw[<- h]
 have u:=h_ (S d p Z ai (by rw[x];exact Y));rw[p,y]at u;have G:=h_ fun b D g=>R d p ag b D g (by rw[x];exact T);rw[p,y]at G;have E:=h_ fun o b g=>Q d p o b g;rw[p,y]at E;have D:Hi (∀o iv b,ShI d o iv b->Bw l b):=h_ fun o iv b g=>by have:=g.base;rw[x]at this;exact this
 clear h ai p ag x y S R Q q ah y0 y1 y2 y3 K v z P X U Y T j V;rw[HQ.u]at u;go_wp2_with fail;refine u.mono ?_;rintro k x ⟨rfl,o,p⟩;obtain⟨b,h⟩:=oB o p;clear o p u;cases N
 case false =>
  obtain⟨u,o⟩:=b.u;obtain rfl:B=0:=aj rfl;have p:Hi (ke6 w 0 (kdR m e) (.returned J7) x):=h_ ⟨none,0,rfl,World.ownsRow_nil _ _ _ _,H _ (D _ _ _ o)⟩;clear o b h;go_wp2_with fail;go_ret;exact p
 obtain rfl:B=m.F.length:=ak rfl;have p:=h_ (G x (I rfl) (h rfl));clear b h G I;go_wp2_with fail;refine cQ p fun y o=>?_;have u:=h_ (E _ y o);have z:=D _ _ _ o;have v:Hi (∀k b,ke6 y m.F.length (kcL m ((kam m m.F.length).foldl (kcR m e) fun _=>zeC) m.F.length) k b->ke6 w m.F.length (kdR m e) k b):=h_ fun k b g=>by
  obtain⟨a,c,rfl,h,q⟩:=g;have g:=H _ z;refine⟨a,c,rfl,?_,g.trans (q.mono g.size)⟩;have G:cx6 (kcL m ((kam m m.F.length).foldl (kcR m e) fun _=>zeC) m.F.length) m.F.length=cx6 (kdR m e) m.F.length:=by
   unfold cx6;rw[List.flatMap_def,List.flatMap_def]
   congr 1
   exact Zm fun i r=>by rw[W.u i (Yu.1 r)]
  rw[<- G];exact qky h g.size
 clear o z p E W H D;go_wp2_with fail;refine u.mono ?_;intro k b g;obtain⟨o,c4,rfl,h,q⟩:=v k b g;obtain⟨i,j⟩:=oB h q;clear g h q v u;go_wp2_with fail;go_ret;exact⟨o,c4,rfl,i,j⟩
structure kfP (m:Fm)(A:MA)(X:Nat)(cs:Tl)(a:To)(L:Nat)(e:Nat->Vx)(a0:To)(l:Nat)(g:Nat->Cx)(W:Tw):Prop where
 k:Blk W X 27 cs
 s:MSl W m A
 c:kaF W a L e
 t:kbT W
 y:TyW W
 b:Tab W
 p:kct W a0 l g
 g:kcp W
theorem kfP.mono {m:Fm}{A:MA}{X L l:Nat}{cs:Tl}{a f:To}{h:Nat->Vx}{g:Nat->Cx}{w W:Tw}(d:kfP m A X cs a L h f l g w)(e:Below w.heap.size w W):kfP m A X cs a L h f l g W:=⟨d.k.mono e d.k.lt,d.s.mono e,d.c.mono e,d.t.mono e,d.y.mono e,d.b.mono e,d.p.mono e,d.g.mono e⟩
theorem q4v {w:Tw}{B n:Nat}{v:Value}{g:Nat->Cx}(c:w.ownsRow B 75 6 v n (cx6 g n)):∃a d,v=.slice a n d/\kct w a n g/\(0<n->∃b e,a=some ⟨b,0,none⟩/\B<=b/\n*6<=e/\Bk w b 75 e):=by
 obtain⟨a,d,rfl⟩:=kcz c;refine⟨a,d,rfl,qns c,fun p=>?_⟩;rcases c.2 with ⟨-,l⟩ | ⟨b,k,e,f,h,i,m,o,q,j⟩
 . omega
 . simp only[Value.slice.injEq,true_and]at f
   exact⟨b,e.size,f.1,h,by have:=c.1;rw[<- j,Zb]at this;simp at this;omega,⟨e.toList,by simpa [Blk] using i,by simp⟩⟩
theorem q8m (m:Fm)(A:MA)(L c:Nat)(a:To)(g:Nat->Vx)(l:Nat)(G:Nat->Cx)(w:Tw)(bt:l<=1000000)(c6:∀d e h j,MSl d m e->kaF d h L g->Calls prog 7 #[mV m e,.slice h L j] d fun k O=>kfL d l G k O)(cJ:∀d e h j,kev m e->MSl d m e->kaF d h L g->kbT d->TyW d->Tab d->kcp d->Calls prog 10 #[mV m e,.slice h L j] d fun k O=>ke6 d l G k O)(hf:kbe m)(hL:L<=9223372036854775807)(cE:∀h,h<L->(g h).s.size<=9223372036854775807)(ha:MSl w m A)(hc:kaF w a L g)(ht:kbT w)(hy:TyW w)(c8:Tab w)(cH:kcp w) :
 Calls prog 3 #[mV m A,.slice a L c] w fun k O=>k=.returned (.bool true)/\Below w.heap.size w O:=by
 obtain⟨p,q,r,t,ar,v,n,o,Q⟩:=A;have aw:=h_ fun d (z:MSl d m ⟨p,q,r,t,ar,v,n,o,Q⟩)=>qhf m ⟨p,q,r,t,ar,v,n,o,Q⟩ 1048576 d hf (by omega) (by omega) z;obtain⟨bV,aa,ak,aS,au,aN⟩:=oF (fun (h:Int) d (h0:0<=h) (P:h<=1048576) (z:kaF d a L g)=>q9q a L c g h d h0 P hL cE z) (fun d (D:Sm m) (z:MSl d m ⟨p,q,r,t,ar,v,n,o,Q⟩)=>qhr m ⟨p,q,r,t,ar,v,n,o,Q⟩ d D z) (fun d (D:L<=1048576) (z:kaF d a L g)=>q9t a g L c d z D) c6 cJ (fun d A1 A2 (D:Sm m) (P:MSl d m A1) (C:MSl d m A2)=>qal m A1 A2 d D P C);have bU:=h_ fun d (h j:To) (c1 c2:Nat) (D:L<=1048576) (P:kaF d h L g) (C:kaF d j L g)=>q7m h j g L c1 c2 d D P C
 have av:=h_ fun (d:Tw) (h j:To) (c1 c2:Nat) (P:kct d h l G) (C:kct d j l G)=>q51 h j G l c1 c2 d (by omega) P C;have aP:=h_ fun (U h:Nat) (B d:Tw) (e:MA) (D:Sm m) x j aj (z:MSl d m e)=>q8p m e U h B d D x j aj z;unfold mV at aw aa aS au aN aP⊢;dsimp only at aw aa⊢;obtain⟨W0,db,HK,j⟩:=nw w 27 (Jb p m q r t ar v n o);have e:Hi (kfP m ⟨p,q,r,t,ar,v,n,o,Q⟩ w.heap.size (Jh p m q r t ar v n o) a L g none 0 G W0):=h_ ⟨HK,ha.mono j,hc.mono j,ht.mono j,hy.mono j,c8.mono j,qio,cH.mono j⟩;obtain⟨y0,y1,y2,y3⟩:=kaf e.k;go_enter func3,ntmps3;go_wp2_with fail;refine(aw W0 e.s).mono ?_;rintro k W1 ⟨ad,rfl,hq,d⟩;replace e:=h_ (e.mono d);replace j:=mT j d;by_cases dj:ad<0
 . clear hq
   go_wp2_with fail;go_ret;exact⟨rfl,j⟩
 obtain⟨D,cM⟩:=hq (by omega);obtain⟨HN,bH⟩:=oB D (bV ad W1 (by omega) cM e.c);go_wp2_with fail;refine bH.mono ?_;rintro k W2 ⟨q2,rfl,hq,cN,d⟩;replace e:=h_ (e.mono d);replace j:=mT j d;by_cases cO:q2<0
 . obtain rfl:=cN cO
   go_wp2_with fail;go_ret;exact⟨rfl,j⟩
 have ai:L<=1048576:=(hq (by omega)).2;obtain⟨y0,y1,y2,y3⟩:=kaf e.k;go_wp2_with fail;refine(aa W2 HN e.s).mono ?_;rintro k W3 ⟨A1,rfl,cV,-,-,d⟩;replace e:=h_ (e.mono d);replace j:=mT j d;have ci:=h_ cV;go_wp2_with fail;refine(ak W3 ai e.c).mono ?_;rintro k W4 ⟨rfl,T,-,d⟩;replace e:=h_ (e.mono d);replace j:=mT j d;have bI:=h_ (aS W4 A1 (some ⟨W3.heap.size,0,none⟩) L (ci.mono d) T);go_wp2_with fail;refine bI.mono ?_;rintro k W ⟨a0,c0,rfl,cP,d⟩;replace e:=h_ (e.mono d);replace j:=mT j d;have ag:Hi (kfP m ⟨p,q,r,t,ar,v,n,o,Q⟩ w.heap.size (Jh p m q r t ar v n o) a L g a0 l G W):=h_ ⟨e.k,e.s,e.c,e.t,e.y,e.b,cP,e.g⟩;obtain⟨U,aq⟩:=Nq W.heap.size;have da:w.heap.size<=U:=by have:=j.size;omega
 obtain⟨y0,y1,y2,y3⟩:=kaf ag.k;go_wp2_with fail;refine(aa W HN ag.s).mono ?_;rintro k X ⟨A2,rfl,cW,cC,bu,d⟩;obtain⟨B,hX⟩:=Nq X.heap.size;have dg:U<=B:=by have:=d.size;omega
 rw[aq]at bu;have cf:=h_ bu;obtain⟨H,I,J,K,M,N,E,F,aD⟩:=A2;dsimp only;have HX:=h_ (Blk.new X 37 (Jb H m I J K M N E F));have ao:=(bR X.heap.size X).alloc (nR _) (.cells (Jb H m I J K M N E F) 37);obtain⟨W7,bo⟩:=Nq (X.alloc (.cells (Jb H m I J K M N E F) 37));rw[bo]at ao HX;have c5:W7.heap.size=B+1:=by rw[<- bo,<- hX];simp
 rw[hX]at HX;obtain⟨cn,bT⟩:=oB (cW.mono ao) cC;have aV:Hi (Below W.heap.size W W7):=h_ (d.trans (ao.mono d.size));have b5:Hi (Below B X W7):=h_ (by rw[<- hX];exact ao);have a4:=h_ (ag.mono aV);go_wp2_with fail;refine(ak W7 ai a4.c).mono ?_;rintro k W8 ⟨rfl,T,aj,d⟩;rw[c5]at T aj⊢;obtain⟨aR,aG⟩:=oB T aj;obtain⟨h,cI⟩:=Nq W8.heap.size;have dc:B+1<h:=by have:=aj.lt;omega
 have a8:=h_ (cn.mono d);have bg:=mB HX d;have cd:=mT aV d;obtain⟨b6,ae⟩:=oB (b5.trans (d.mono (by omega))) (a4.mono d);obtain⟨x0,x1,x2,x3⟩:=kaf bg;have aM:=h_ (au W8 ⟨H,I,J,K,M,N,E,F,aD⟩ (some ⟨B+1,0,none⟩) L bT a8 aR ae.t ae.y ae.b ae.g);dsimp only at aM;go_wp2_with fail;refine aM.mono ?_;rintro k W9 ⟨a9,c9,rfl,ho,d⟩;rw[cI]at ho;have x:=h_ ho;have cU:=qns ho;have cq:=h_ (a8.mono d);have cu:=mB bg d;obtain⟨bS,aL⟩:=oB (aR.mono d) (aG.mono d aG.lt);have ce:=mT cd d;have b7:=h_ (b6.trans (d.mono (by omega)));have a5:=h_ (ae.mono d);have dB:h<=W9.heap.size:=by have:=d.size;omega
 have bZ:=h_ (av W9 a9 a0 c9 c0 cU a5.p);go_wp2_with fail;refine cQ bZ fun V d=>?_;replace x:=h_ (qgh x d);have cj:=h_ (cq.mono d);have bc:=mB cu d;obtain⟨bM,aH⟩:=oB (bS.mono d) (aL.mono d aL.lt);have b8:=mT ce d;have b0:=h_ (b7.trans (d.mono (by omega)));have ax:=h_ (a5.mono d);have dk:h<=V.heap.size:=by have:=d.size;omega
 go_wp2_with fail;refine wp_region_held_drew (S:=fun O=>Blk O w.heap.size 27 (Jh p m q r t ar v n o)/\Blk O B 37 (Jh H m I J K M N E F)) (by kernel_rfl) ⟨ax.k,bc⟩ (fun Y=>?_);refine tj 0 40 (.agg (Jb H m I J K M N E F)) Y ?_ (hy:=fun w O=>by obtain⟨-,C⟩:=O;obtain⟨q0,q1,q2,q3⟩:=kaf C;simp[execOp,go_sem,q0,q1,q2,q3]);refine tj 1 41 (.agg (Jb p m q r t ar v n o)) Y ?_ (hy:=fun w O=>by obtain⟨C,-⟩:=O;obtain⟨q0,q1,q2,q3⟩:=kaf C;simp[execOp,go_sem,q0,q1,q2,q3]);simp only[sX,sY,sZ];have bW:Hi (Below V.heap.size V V.drew):=h_ (bR _ _).drew;refine kaL (i:=2) (f:=8) (args:=#[.agg (Jb p m q r t ar v n o)]) (R:=fun bw O=>∃Z,bw=mV m Z/\MSl O m Z/\Below V.heap.size V O) 42 rfl rfl (by rfl) (by kernel_rfl) ?hrun1 ((aa V.drew HN (ax.s.mono bW)).mono fun g w6 ⟨Z,O,z,_,_,d⟩=>⟨_,O,Z,rfl,z,q36 d⟩) ?_
 case hrun1=>simp[execOp,go_sem]
 rintro bw am ⟨Z,rfl,cX,d⟩;replace x:=h_ (qgh x d);have a6:=h_ (cj.mono d);have bd:=mB bc d;obtain⟨bO,aI⟩:=oB (bM.mono d) (aH.mono d aH.lt);have b9:=mT b8 d;have b1:=h_ (b0.trans (d.mono (by omega)));have aY:=h_ (ax.mono d);have dm:h<=am.heap.size:=by have:=d.size;omega
 replace Y:Blk am w.heap.size 27 (Jh p m q r t ar v n o)/\Blk am B 37 (Jh H m I J K M N E F):=⟨aY.k,bd⟩;have co:=h_ cX;refine⟨Y,?_⟩;unfold mV;obtain⟨dl,cz,dp,cA,dr,cB,df,cy,cx⟩:=Z;dsimp only;simp only[sX,sY,sZ];have aO:=h_ (aN am ⟨H,I,J,K,M,N,E,F,aD⟩ ⟨dl,cz,dp,cA,dr,cB,df,cy,cx⟩ HN a6 co);dsimp only at aO;refine cyY 3 43 aO fun ah d=>?_;replace x:=h_ (qgh x d);have ck:=h_ (a6.mono d);have be:=mB bd d;obtain⟨bP,aJ⟩:=oB (bO.mono d) (aI.mono d aI.lt);have ca:=mT b9 d;have b2:=h_ (b1.trans (d.mono (by omega)));have aZ:=h_ (aY.mono d);have dn:h<=ah.heap.size:=by have:=d.size;omega
 replace Y:Blk ah w.heap.size 27 (Jh p m q r t ar v n o)/\Blk ah B 37 (Jh H m I J K M N E F):=⟨aZ.k,be⟩;refine⟨Y,?_⟩;simp only[sX,sY,sZ];refine tj 4 44 (.bool false) Y ?_;simp only[sX,sY,sZ];refine wdQ ?_;go_wp2_with fail;refine(ak ah ai aZ.c).mono ?_;rintro k bh ⟨rfl,T,-,d⟩;have bK:=h_ (bU bh (some ⟨B+1,0,none⟩) (some ⟨ah.heap.size,0,none⟩) L L ai (bP.mono d) T);replace x:=h_ (qgh x d);have cl:=h_ (ck.mono d);have cs:=mB be d;have aK:=h_ (aJ.mono d aJ.lt);have cb:=mT ca d;have b3:=h_ (b2.trans (d.mono (by omega)));have dq:h<=bh.heap.size:=by have:=d.size;omega
 go_wp2_with fail;refine cQ bK fun bi d=>?_;replace x:=h_ (qgh x d);have cm:=h_ (cl.mono d);have ct:=mB cs d;have bF:=h_ (aK.mono d aK.lt);have cc:=mT cb d;have b4:=h_ (b3.trans (d.mono (by omega)));have ds:h<=bi.heap.size:=by have:=d.size;omega
 obtain⟨x0,x1,x2,x3⟩:=kaf ct;have aQ:=h_ (aP U B X bi ⟨H,I,J,K,M,N,E,F,aD⟩ HN hX cf (fun O z z d=>d.mono b4 (by have:=d.lt;omega)) cm);dsimp only at aQ;go_wp2_with fail;refine aQ.mono ?_;rintro k az ⟨k',rfl,dd,z⟩;have ba:=h_ (z.out.owns x (fun ad g=>by have:=(x.lt ad g).1;omega));have bx:Hi (Below U W az):=h_ (by
  have h9:=cc.u;rw[Bw,aq]at h9;exact h9.trans (z.out.below (nR _) (by omega)))
 have bG:=h_ (z.bk _ _ _ bF);have dt:h<=az.heap.size:=by have:=z.out.size;omega
 have aW:=h_ (q43 (B+1) L L k' U h az (by omega) bG (by omega) (by omega));obtain⟨k2,cK⟩:=Nq (k'+L*3);rw[cK]at aW;have de:¬ (k2:Int)<0:=by omega
 go_wp2_with fail;refine cQ aW fun an z=>?_;have bb:=h_ (z.out.owns ba (fun ad g=>by have:=(ba.lt ad g).1;omega));have aE:Hi (Below U W an):=h_ (bx.trans (z.out.below (nR _) (by omega)));have du:h<=an.heap.size:=by have:=z.out.size;omega
 have cg:Hi (kfP m ⟨p,q,r,t,ar,v,n,o,Q⟩ w.heap.size (Jh p m q r t ar v n o) a L g a0 l G an):=h_ (ag.mono (by rw[aq];exact aE));have bX:=h_ (av an a9 a0 c9 c0 (by
  exact qns bb) cg.p)
 go_wp2_with fail;refine cQ bX fun aA d=>?_;obtain⟨cr,bz⟩:=oB (qgh bb d) (aE.trans (d.mono (by omega)));have dv:h<=aA.heap.size:=by have:=d.size;omega
 obtain⟨O,ac,cG,cF,bq⟩:∃O ac,h<=O/\l*6<=ac/\(0<l->a9=some ⟨O,0,none⟩/\Bk aA O 75 ac):=by
  obtain⟨a,c,g,-,hp⟩:=q4v cr;cases g;by_cases h0:0<l
  . obtain⟨O,ac,P,C,h3,h4⟩:=hp h0
    exact⟨O,ac,C,h3,fun _=>⟨P,h4⟩⟩
  . exact⟨h,l*6,nR _,nR _,fun P=>absurd P h0⟩
 have aX:=h_ (q41 a9 O l ac c9 h (O+1) aA bt cF cG (by omega) bq);obtain⟨bv,hp⟩:=Nq (1+l*6);rw[hp]at aX;have di:(bv:Int)<=6000001:=by omega
 have aT:=h_ bq;go_wp2_with fail;refine aX.mono ?_;rintro k bj ⟨rfl,cL,z⟩;have bA:=h_ (bz.trans (z.out.below (by omega) (by omega)));have dw:h<=bj.heap.size:=by have:=z.out.size;omega
 have aU:=h_ (q3c a9 O l c9 bj bt fun P=>⟨(aT P).1,Yn (aT P).2.lt z.out.size,cL P⟩);rw[hp]at aU;go_wp2_with fail;refine cQ aU fun aB d=>?_;have aF:=h_ (bA.trans (d.mono (by omega)));have ay:Hi (kfP m ⟨p,q,r,t,ar,v,n,o,Q⟩ w.heap.size (Jh p m q r t ar v n o) a L g a0 l G aB):=h_ (ag.mono (by rw[aq];exact aF));have dx:h<=aB.heap.size:=by have:=d.size;omega
 have dh:¬ (bv:Int)<0:=by omega
 obtain⟨y0,y1,y2,y3⟩:=kaf ay.k;go_wp2_with fail;refine(aa aB HN ay.s).mono ?_;rintro k aC ⟨A4,rfl,cY,cD,-,d⟩;obtain⟨a3,bB⟩:=oB (ay.mono d) (aF.trans (d.mono (by omega)));have dy:h<=aC.heap.size:=by have:=d.size;omega
 obtain⟨cp,bJ⟩:=oB cY cD;go_wp2_with fail;refine(ak aC ai a3.c).mono ?_;rintro k bm ⟨rfl,T,-,d⟩;obtain⟨P,bC⟩:=oB (a3.mono d) (bB.trans (d.mono (by omega)));have dz:h<=bm.heap.size:=by have:=d.size;omega
 have bL:=h_ (au bm A4 (some ⟨aC.heap.size,0,none⟩) L bJ (cp.mono d) T P.t P.y P.b P.g);go_wp2_with fail;refine bL.mono ?_;rintro k bn ⟨a7,c7,rfl,ho,d⟩;have cR:=qns ho;obtain⟨ch,bD⟩:=oB (P.mono d) (bC.trans (d.mono (by omega)));have bY:=h_ (av bn a7 a0 c7 c0 cR ch.p);have dA:h<=bn.heap.size:=by have:=d.size;omega
 go_wp2_with fail;refine cQ bY fun cw d=>?_;have bE:Hi (Below w.heap.size w cw):=h_ (j.trans ((bD.trans (d.mono (by omega))).mono da));go_wp2_with fail;go_ret;exact⟨rfl,bE⟩
theorem qnt {m:Fm}{n:Nat}{F:Nat->Bool}{a:Int}(b:kc7 m n F 0 a):(kam m m.F.length).length=m.F.length:=by
 rcases b with ⟨e,-,-,b,-⟩ | ⟨b,-⟩
 . exact absurd b (by decide)
 . rcases b with ⟨-,b⟩ | ⟨d,-,c,-⟩
   . exact qkt b
   . omega
theorem kgW (m:Fm)(L:Nat)(a:Nat->Vx):keN m false L a=0:=rfl
theorem qs2 (m:Fm)(b:Bool)(L:Nat)(a:Nat->Vx):keN m b L a<=m.F.length:=by
 unfold keN;split
 . exact nR _
 . exact nZ _
theorem q64 (m:Fm)(A:MA)(L c:Nat)(a:To)(e:Nat->Vx)(w:Tw)(j:kbe m)(Q:L<=9223372036854775807)(J:∀b,b<L->(e b).s.size<=9223372036854775807)(Z:∀b,b<L->I6 (e b).n)(ha:MSl w m A)(hc:kaF w a L e)(ht:kbT w)(hy:TyW w)(af:Tab w)(ae:kcp w) :
 Calls prog 3 #[mV m A,.slice a L c] w fun G g=>G=.returned (.bool true)/\Below w.heap.size w g:=by
 have S:∀(h b:Int),h≠0->(∀d b,MSl d m b->Calls prog 62 #[mV m b] d fun o g=>∃c a,o=.returned (dgV c a)/\c=h/\Below d.heap.size d g)->(∀d b,kev m b->MSl d m b->kbT d->TyW d->Tab d->Calls prog 66 #[mV m b] d fun o g=>∃F c a,o=.returned (.tuple #[sfV F,dgV c a])/\c≠0/\Below d.heap.size d g)->Calls prog 3 #[mV m A,.slice a L c] w fun G g=>G=.returned (.bool true)/\Below w.heap.size w g:=fun h _ k I D =>
  q8m m A L c a e 0 (kdR m e) w (by omega) (fun d b q v f p=>by
   have:=q4f m b L v q e false d j Q J Z (fun i=>by cases i) (fun l n=>(qbo m b l (fun c _=>c=h) (fun B E=>I B b E) n).mono fun G g ⟨c,_,e,i,h⟩=>⟨by rw[e,i,Yd k],h⟩) f p
   rwa [kgW]at this) (fun d b q v r f _ s t u _=>q5c m b (.slice q L v) _ d (fun l n t1 t2 t3=>qcr m b l (fun B E u1 u2 u3=>D B b r E u1 u2 u3) n t1 t2 t3) f s t u) j Q J ha hc ht hy af ae
 cases x:vfB m
 . exact S 20 20 (by decide) (fun d b f=>(q9j m b d (fun l n=>q0n m b l j n) x f).mono fun o g ⟨e,h⟩=>⟨20,0,e,rfl,h⟩) (fun d b r f s t u=>(qh3 m b d x j r f s t u).mono fun o g ⟨e,h⟩=>⟨sf0,20,0,e,by decide,h⟩)
 have y:VfA m:=Classical.byContradiction fun k=>by rw[qhy k]at x;cases x
 rcases khB m.L.length m.P.length (pr1 m) (pr2 m) (by have:=y.np;omega) with ⟨H,ad,I,D⟩ | ⟨T,p,K,M,N,top,-,⟨k,O,U,z⟩,I,D⟩
 . exact S (10+H) 0 (by omega) (fun d b f=>(q9k m b d H (fun l n=>q0n m b l j n) x ad I j f).mono fun o g ⟨e,h⟩=>⟨10+H,0,e,rfl,h⟩) (fun d b r f s t u=>(qh4 m b d H x ad D j r f s t u).mono fun o g ⟨e,h⟩=>⟨sf0,10+H,0,e,by omega,h⟩)
 have hN:m.L.length=k:=by have:=z.hN;omega
 have ac:∀d b,MSl d m b->Calls prog 62 #[mV m b] d fun o g=>∃c a,o=.returned (dgV c a)/\kc7 m k p c a/\Below d.heap.size d g:=fun d b f=>q9i m b d N top T k O U p K M (fun l n=>q0n m b l j n) x y I z j f;by_cases X:∃c a,kc7 m k p c a
 . obtain⟨W,a0,R⟩:=X
   have aa:∀{v q},kc7 m k p v q->v=W:=fun i=>(i.one (qpv z) R).1;by_cases Y:W=0
   . subst Y
     obtain⟨C,s1,s2⟩:∃C,Sol m k (fun a V=>p (a*k+V)=true) C/\Low m k (fun a V=>p (a*k+V)=true) C:=by
      rcases R with ⟨V,-,-,i,-⟩ | ⟨-,C,V,s1,s2,-⟩
      . exact absurd i (by decide)
      . exact⟨C,s1,s2⟩
     have ah:=fun d b q v (f:MSl d m b) (V:kaF d q L e)=>q4f m b L v q e true d j Q J Z (fun _=>y) (fun l n=>(qbo m b l (kc7 m k p) (fun B E=>ac B b E) n).mono fun G g ⟨c,_,e,i,h⟩=>⟨by rw[e,aa i,Ye rfl],h⟩) f V;have ag:=fun d b q v (r:kev m b) (f:MSl d m b) (V:kaF d q L e) s t u k4=>q5d m b k p C L v q e d y j hN (qnt R) J Z (fun l n t1 t2 t3=>qcs m b k p C l y.nf (fun B E u1 u2 u3=>(qh2 m b B N top T k O U p K M x y D z j r E u1 u2 u3).mono fun G g ⟨F,c,a,e,l,v,h⟩=>by
      obtain⟨rfl,rfl⟩:=l.one (qpv z) R;obtain rfl:=qip l;obtain⟨E,l,q,B⟩:=v rfl;exact⟨F,e,B.congr (qfy (qpv z) l s1 q s2),h⟩) n t1 t2 t3) f V s t u k4
     exact q8m m A L c a e _ (kdR m e) w (Y5 (qs2 m true L e) (by have:=y.nf;omega)) ah ag j Q J ha hc ht hy af ae
   . exact S W 0 Y (fun d b f=>(ac d b f).mono fun o g ⟨c,a,e,i,h⟩=>⟨c,a,e,aa i,h⟩) (fun d b r f s t u=>(qh2 m b d N top T k O U p K M x y D z j r f s t u).mono fun o g ⟨F,c,a,e,i,_,h⟩=>⟨F,c,a,e,by rw[aa i];exact Y,h⟩)
 . exact S 1 0 (by decide) (fun d b f=>(ac d b f).mono fun o g ⟨c,a,e,i,h⟩=>absurd ⟨c,a,i⟩ X) (fun d b r f s t u=>(qh2 m b d N top T k O U p K M x y D z j r f s t u).mono fun o g ⟨F,c,a,e,i,_,h⟩=>absurd ⟨c,a,i⟩ X)
end Go.Proofs.YtenckgnkjkijnaaGreatDoor
namespace Go.Proofs.YtenckgnkjkijnaaGreatDoor
open Go Go.RowKit Go.ChangeShapes Go.WideShapes Go.ChangeAt Go.Proofs.Tryz
abbrev Xp:=Rows.fnExactSolveSpec
abbrev Xq:=Rows.fnExactSolveRow
theorem kdP (H:Type)(enc:TypeId × Value->H)(b:Tw)(base:Nat)(args:Ta)(l Q:List (DataW H))(K:List MemPlace)
 (kbv:∀(c:Nat) d a,f3.params[c]? = some d->args[c]? = some a->Value.okWide prog b .any base d a)
 (r:DataW.Whole enc prog f3.params.toList Xp.vars false b args.toList l Q K) (ht:kbT b) (hy:TyW b) (an:Tab b) (hg:kcp b) :
 Calls prog 3 args b fun m d=>∃a,m=.returned a/\Xp.post enc prog f3 false true false false b args a d:=by
 have s:=r;obtain⟨g,ax,a,q,rfl,au,av⟩:=r;have p:DataW.TrodAll enc prog b 0 (fun _=>true) true f3.params.toList args.toList l g:=a;rw[params3]at p kbv;obtain⟨z,A,P,n,g,h,rfl,rfl,rfl,o,x⟩:=trodAll_two p;obtain⟨g0,ay,ao,f0,d1,p1,g1,az,aq,f1,d2,p2,rfl,-,-,-,-,-,-,-,-,-⟩:=trodVars_two q;have R:=o;have S:=x;clear a;have u:∀a∈g++h,a.block<b.heap.size:=fun a c=>by simpa using s.lt a (Vg _ c)
 have f:∀a∈g,a.block<b.heap.size:=fun a c=>u a (Vg _ c);have w:∀a∈h,a.block<b.heap.size:=fun a c=>u a (List.mem_append_right _ c);have U:∀(d:Tw),Bw b d->DataW.Trod enc prog d 0 (fun i=>decide (i<b.heap.size)) true 28 A n h :=
  fun d e=>Below.trod kcX (by kernel_rfl) (Y6 (by kernel_rfl)) S e w
 have T:∀(d:Tw),Bw b d->DataW.Trod enc prog d 0 (fun i=>decide (i<b.heap.size)) true 27 z P g :=
  fun d e=>Below.trod kcX (by kernel_rfl) (Y6 (by kernel_rfl)) R e f
 obtain⟨u0,u1,u2,u3,y0,y1,y2,y3,aw,rfl,rfl,rfl,t0,t1,t2,t3⟩:=Go.Joins.open_agg4 underlying27 (by kernel_rfl) keg (kbv 0 27 z rfl rfl) o;obtain⟨E,ll,F,rfl,ac,ad,ae⟩:=qjl underlying22 underlying9 ka6 t0 (fun a c=>f a (by simp[c]));obtain⟨G,lp,I,rfl,ag,ah⟩:=qov underlying23 underlying115 kdN rfl rfl underlying3 underlying3 ka8 ka8 t1 (fun a c=>f a (by simp[c]));obtain⟨ar,lr,J,rfl,ai,aj,ak⟩:=qow underlying24 underlying104 kdO rfl rfl underlying9 underlying3 ka6 ka8 t2 (fun a c=>f a (by simp[c]));obtain⟨C,lf,B,D,rfl,Y,Z,aa⟩:=qjh t3 (fun a c=>f a (by simp[c]));obtain⟨j,i,k,rfl⟩:=okWide_slice underlying28 (kbv 1 28 A rfl rfl);obtain⟨nc,am⟩:=x;obtain⟨M,L,N,O,V,W,X,t⟩:=qoy (v:=.slice j i k) (y:=(n,h)) am w;obtain⟨rfl,rfl,rfl⟩:j=M/\i=L/\k=N:=by simpa using V
 refine(q64 ⟨ll,lp,lr,lf⟩ ⟨E,F,G,I,ar,J,C,D,B⟩ i k j O b ⟨ac,ag,ai,Y,ae,ak,aa⟩ W (fun c a=>(t c a).1) (fun c a=>(t c a).2) ⟨ad,ah,aj,Z⟩ X ht hy an hg).mono fun m d ⟨c,e⟩=>?_;subst c;exact⟨_,rfl,⟨_,_,_,[],_,_,s,trodAll_mk1 (shut_bool underlying4 _),trodAll_mk2 (T _ e) (U _ e),Below.trodVars kcX e (by kernel_rfl) q,e.frame _,fun a=>by cases a⟩⟩
theorem kei (e:Os){H:Type}(enc:TypeId × Value->H)(f:Tw)(a:f = { World.holding prog e kic with heap:=(((((((World.holding prog e kic).heap.modify 1 (kfJ .u8 (Lib.deBruijn32tab.map (fun b=>((b:Nat):Int))))).modify 7 (kfJ .u8 (Lib.deBruijn64tab.map (fun b=>((b:Nat):Int))))).modify 6 (kfJ .u64 Lib.pow10Tab)).modify 4 (kgm (World.holding prog default ⟨#[],#[],[]⟩).heap.size)).modify 3 (kgm ((World.holding prog default ⟨#[],#[],[]⟩).heap.size+1))).modify 5 (kgo ke7)).modify 0 (kgo tyT) }) :
 ∃(c:Tw) (d:Tape) (b:Input),c.os=e/\(c.forCall d b).Shaped Tryz.checked.prog/\b.vars=[]/\Input.okWide Tryz.checked.prog (c.forCall d b) .any c.heap.size 3 b /\
  (OpenSpec.ofChange Xp).preRow enc Tryz.checked.prog f3 Xq.domain false Xq.laid (c.forCall d b).memory b.args/\({ modest:=false }:Assume).holds Tryz.checked.prog (lone (Frame.enter Tryz.checked.prog 3 b.args .normal) [] (c.forCall d b)):=by
 exact witness_row_at (enc:=enc) (C:=Tryz.checked) false f #[.agg Jq,J7] (by subst a;rfl) (by subst a;kernel_rfl) (by subst a;kernel_rfl) (by subst a;kernel_rfl)
  (OpenSpec.preRow_of_cond (x:=([.agg [.nil,.nil,.nil,.nil],.nil],[Rows.laid_loop_example_s0011_impl_operatorWords,Rows.laid_loop_example_s0011_impl_typeWords],MemPlace.row ⟨5,0,none⟩ 26++MemPlace.row ⟨0,0,none⟩ 4)) 8 (by subst a;kernel_rfl) (by subst a;kernel_rfl) (fun b b=>by cases b) (by subst a;kernel_rfl) (laidMet_of_run' 8 (by subst a;kernel_rfl) (by subst a;kernel_rfl)))
theorem keZ (b:Os)(k:b.Started)(H:Type)(enc:TypeId × Value->H)(F:Stop.Interp) :
 ReturnsInHanded {} Tryz.checked b 3 .any ((OpenSpec.ofChange Xp).preRow enc prog f3 Xq.domain false Xq.laid) (((OpenSpec.ofChange Xp).at F).post enc prog f3 false true false false):=by
 refine returnsInHanded_of_row (C:=Tryz.checked) (s:=OpenSpec.ofChange Xp) kg2 k (by kernel_rfl) func3 (kei b enc _ rfl) ?_;intro c e d g h f kbv i _ _ _ a j _;exact kdP H enc c e d g h f kbv i ⟨q9z a.tail.tail.tail.tail.tail,kfh a⟩ (qdd a.tail.tail.tail.tail.tail.tail) (qme a) ⟨kfh a,qod a,qoc a,qq6 j⟩
theorem cloP:(Xq.inPlace==prog.inPlace 3)=true:=by kernel_rfl
theorem cloU:(Xq.unfollowed==prog.unfollowed 3)=true:=by kernel_rfl
theorem cloR:(Xq.recurses==prog.recurses 3)=true:=by kernel_rfl
theorem cloN:(Xq.named==prog.varsNamed 3)=true:=by kernel_rfl
theorem khy:joinedFacts prog 3 f3 (OpenSpec.ofChange Xp).bare Xq=true:=by
 unfold joinedFacts;rw[cloP,cloU,cloR,cloN];kernel_rfl
theorem kgp:Rows.FnExactSolveSaid :=
 OpenClaim.holds_of_cond 3 f3 rfl rfl rfl rfl rfl rfl rfl ⟨rfl,rfl,rfl,rfl,rfl⟩ rfl rfl rfl rfl rfl (by kernel_rfl) func3 khy
  (Y6 (by kernel_rfl)) (by unfold Func.isWrapper;first | (rw[Yr (by decide +kernel)];kernel_rfl) | (rw[Yl (by decide +kernel)];exact⟨rfl,rfl⟩))
  (fun d e b c _ a=>by rw[OpenClaim.pre_eq_preRow];exact keZ d e b c a)
theorem kfI (f:FuncId)(a:Func)(g:Tryz.pinned.checked.prog.funcNamed "loop.example/s0011/laws.FnExactSolve" = some f)(h:Tryz.pinned.checked.prog.funcs[f]? = some a) :
 Rows.fnExactSolveCard.stood.looks=Tryz.pinned.checked.prog.looks []/\∀(e:Nat) b,a.params[e]? = some b->Tryz.pinned.checked.prog.wantsStandIn b=false:=by
 obtain rfl:f=3:=Z3 ((show prog.funcNamed "loop.example/s0011/laws.FnExactSolve" = some 3 by kernel_rfl).symm.trans g) |>.symm
 obtain rfl:a=f3:=(Z3 (func3.symm.trans h)).symm;refine⟨by kernel_rfl,fun e b d=>?_⟩;rw[params3]at d;have c:=Array.mem_of_getElem? d;simp only[List.mem_toArray,Z7,O4,or_false]at c;rcases c with rfl | rfl
 . exact(show prog.wantsStandIn 27=false by kernel_rfl)
 . exact(show prog.wantsStandIn 28=false by kernel_rfl)
theorem wfSo:Xq.wfByText (.ofChange Xp)=true:=by kernel_rfl
theorem kgq:Tryz.pinned.checked.prog.mainIs=some ⟨Rows.fnExactSolveCard.stood.harness.1,Rows.fnExactSolveCard.stood.harness.2.toList⟩:=by kernel_rfl
theorem kgr:false=Xq.goesBy Tryz.pinned.checked.prog:=by kernel_rfl
theorem cardSo:Rows.FnExactSolveCardSaid :=
 Claim7.holds_tied_plain_at .later [] _ _ _ _ kgp (fun _ a=>by cases a) wfSo (fun _ a=>by cases a) fnExactSolve_row_tie rfl ⟨rfl,rfl⟩ kgq rfl kfI kgr
