import Derived.Test.YtenckgnkjkijnaaGreatDoorW45
import Derived.Test.YtenckgnkjkijnaaGreatDoorW46
import Derived.Test.YtenckgnkjkijnaaGreatDoorW43
set_option linter.all false
set_option maxRecDepth 100000
set_option maxHeartbeats 0
namespace Go.Proofs.YtenckgnkjkijnaaGreatDoor
section
open Go Go.Proofs.Tryz
structure UpdA (m:Fm)(inp:Nat->Vx)(ce:Nat->Cx)(k:Nat)(v:Vx)(M J:Nat->Bool)(g:Nat->Cx):Prop where
 r:∀i,i<m.F.length->(M i=true ↔ i=k∨Rch m k i)
 j:∀i,i<m.F.length->(J i=true ↔ M i=true∨∃j,j<m.F.length/\M j=true/\kdp m j i=true)
 e:∀i,i<m.F.length->g i=ceJ m (ceR ce (rdS (Frv m (upV inp k v)) (mkD m.F.length M) (cS ce) (m.F.length+1))) J i
def kdW (m:Fm)(inp:Nat->Vx)(ce:Nat->Cx)(k:Nat)(v:Vx)(g:Nat->Cx):Prop:=∃M J,UpdA m inp ce k v M J g
section
variable {m:Fm} {inp:Nat->Vx} {ce:Nat->Cx} {k:Nat} {v:Vx}
def kdW.eq {g f:Nat->Cx}(a:kdW m inp ce k v g)(b:kdW m inp ce k v f)(i:Nat)(hi:i<m.F.length):g i=f i:=by obtain⟨d,h,a⟩:=a;obtain⟨e,j,b⟩:=b;have c:∀i,i<m.F.length->d i=e i:=λi hi=>(by rw[Zn,a.r i hi,b.r i hi]);have l:mkD m.F.length d=mkD m.F.length e:=List.filter_congr λo n=>c o (Y7.1 n);have n:h i=j i:=(by rw[Zn,a.j i hi,b.j i hi,c i hi];refine or_congr_right (exists_congr λp=>and_congr_right λo=>?_);rw[c p o]);rw[a.e i hi,b.e i hi,l];unfold ceJ;rw[n]
def qfr {L:List Nat}{p:Nat->Bool}(i:Nat)(b:i<(L.filter p).length):∃a,∃d:a<L.length,L[a]=(L.filter p)[i]/\(L.take a).filter p=(L.filter p).take i:=by induction L generalizing i with|nil=>exact absurd b (nL _)|cons h L g=>cases c:p h;{simp only[List.filter_cons,c,Oz,if_false]at b⊢;obtain⟨a,d,e,f⟩:=g i b;exact⟨a+1,dn,dp,by simp[c,f]⟩};simp only[List.filter_cons,c,if_true]at b⊢;cases i with|zero=>exact⟨0,cw,rfl,rfl⟩|succ i=>obtain⟨a,d,e,f⟩:=g i dw;exact⟨a+1,dn,dp,by simp[c,f]⟩
def qrh (a:(kak m m.F.length).length=m.F.length)(M:Nat->Bool)(i:Nat):i∈kaQ M k (kak m m.F.length) ↔ i<m.F.length/\(i=k∨M i=true):=by grind[kaQ,kak,qs9,qsa]
def qu6 {M c:Nat->Bool}(f:(kak m m.F.length).length=m.F.length)(l:∀a,a<m.F.length->(M a=true ↔ a=k∨c a=true))(s0:Nat->Bool × Vx):rdS (Frv m inp) (mkD m.F.length M) s0 (m.F.length+1)=(kaQ c k (kak m m.F.length)).foldl (kdd (Frv m inp)) s0:=by rw[qt6 (D':=kaQ c k (kak m m.F.length)) (λa=>by rw[qrh f];simp only[mkD,Vo,Y7];exact and_congr_right λe=>l a e)];refine funext λa=>khA (F:=Frv m inp) (fed:=λb k=>b<m.F.length/\kbL m b k=true) (λd d k h=>qd7 λb g d=>h b ⟨g,d⟩) ((qcn m m.F.length).filter _) (λa n b d=>?_) s0 (Nat.le_succ_of_le (Y6 (Vp _ _) (by rw[f];exact nR _))) a;obtain⟨p,o,h,i⟩:=qfr a n;have j:=qsb o d.1 (by rw[h];exact d.2);by_cases g:(decide (b=k)||c b)=true;{exact .inl (by rw[<- i];exact Vo.2 ⟨j,g⟩)};exact .inr λe=>g (Vo.1 e).2
def kdW.prog {M J:Nat->Bool}(e:(kak m m.F.length).length=m.F.length)(h:∀a,a<m.F.length->a≠k->(M a=true ↔ Rch m k a))(g:∀a,a<m.F.length->(J a=true ↔ a∈kaQ M k (kak m m.F.length)∨∃f,f∈kaQ M k (kak m m.F.length)/\kdp m f a=true)):kdW m inp ce k v (ceJ m ((kaQ M k (kak m m.F.length)).foldl (kdD m (upV inp k v)) ce) J):=by have c:∀a,(decide (a=k)||M a)=true ↔ a=k∨M a=true:=λa=>(by rw[Zk,decide_eq_true_iff]);refine⟨λa=>decide (a=k)||M a,J,λa b=>?_,λa b=>?_,λa b=>?_⟩;{rw[c];by_cases d:a=k;{simp[d]};rw[h a b d]};{rw[g a b,qrh e,c];refine or_congr ⟨λd=>d.2,λd=>⟨b,d⟩⟩ (exists_congr λf=>?_);rw[qrh e,c,and_assoc]};rw[qk8,qu6 e λa _=>c a]
theorem khF (m:Fm)(a:Nat->Cx)(J:Nat->Bool):cS (ceJ m a J)=cS a:=by grind[cS,ceJ]
def khG (m:Fm)(a:Nat->Cx){J J':Nat->Bool}{k:Nat}(c:∀b,J' b=true ↔ b=k∨J b=true):upC (ceJ m a J) k ⟨(ceJ m a J k).v,(ceJ m a J k).rel,okB m (ceJ m a J) (fAt m k),muB m (ceJ m a J) (fAt m k)⟩=ceJ m a J':=by grind[ceJ,upC,okB,muB,c2,fAt,khF]
end
def kfS (m:Fm)(k:Nat):List Nat:=rdL (kaa m) (fAt m k).va++rdL (kaa m) (fAt m k).mu
def qlc {m:Fm}(a:VfA m){j k:Nat}(b:j<m.F.length)(f:k<m.F.length):j∈kfS m k ↔ kdp m j k=true:=by have c:j<(kaa m).length:=(by simpa [kaa] using b);have g:(kaa m)[j]=(fAt m j).nm:=(by rw[qpi b];simp[kaa]);obtain⟨-,-,d,e⟩:=a.knw f;unfold kfS kdp;rw[Zm,qrj a.nod d c,qrj a.nod e c,g,Zk]
end
section
open Go Go.RowKit Go.Proofs.Tryz
def q74 (m:Fm)(A:MA)(b k:Nat)(w:Tw)(V:k<m.F.length)(T:MSl w m A):Calls prog 155 #[wV m A b,Yb k] w λc o=>∃a,c=.returned (.slice (some ⟨a,0,none⟩) 2 2)/\Blk o a 90 [.slice (A.fa k).v m.F[k].va.length (A.fa k).vc,.slice (A.fa k).u m.F[k].mu.length (A.fa k).uc]/\Bw w o:=by obtain⟨I,J,K,M,ar,N,G,r,H⟩:=A;unfold wV;dsimp only;obtain⟨q,ac,e,d⟩:=nw w 121 #[.slice I m.L.length J,.slice K m.P.length M,.slice ar m.R.length N,.slice G m.F.length r,.map (some b)];have E:=h_ (T.mono d);obtain⟨pb,n,B,⟨U,-,-,-,-,-,-,t,-,x⟩,-⟩:=E.f k V;dsimp only at B t x;subst B;have ad:(k:Int)<m.F.length:=cr;obtain⟨-,-,-,D,-⟩:=kaG e;have ae:=D;generalize m.F[k]=a at *;generalize H k=O at *;obtain⟨ab,X,ai,aa,Y,Z,j,l,g,h⟩:=O;dsimp only at t x⊢;go_enter func155,ntmps155;go_wp2_with fail;refine wp_region_held_drew (S:=λo=>o.cell? ⟨w.1.size,3,none⟩=some (.slice (some ⟨pb,n,none⟩) m.F.length r)/\o.cell? ⟨pb,n+k*9+6,none⟩=some (.slice j a.va.length l)/\o.cell? ⟨pb,n+k*9+8,none⟩=some (.slice g a.mu.length h)) cu ⟨D,t,x⟩ (λc=>?_);refine rep 16 ?_;(repeat refine tkN c ?_);have y:Hi (Bw q q.drew):=h_ (bR _ _).drew;replace e:=h_ (e.mono y e.lt);replace d:=h_ (d.trans (y.mono d.size));have s:pb<q.drew.1.size:=U;obtain⟨f,Q⟩:=Nq q.drew;rw[Q]at e d c s⊢;obtain⟨p,z⟩:=oB ((bR f.1.size f).alloc (nR _) (.cells #[.slice j a.va.length l,.slice g a.mu.length h] 90)) (Blk.new f 90 #[.slice j a.va.length l,.slice g a.mu.length h]);obtain⟨V2,C⟩:=Nq (f.alloc (.cells #[.slice j a.va.length l,.slice g a.mu.length h] 90));have W:f.alloc (.cells #[.slice j a.va.length l,.slice g a.mu.length h] 90)=V2:=C;rw[C]at p z;replace c:V2.cell? ⟨w.1.size,3,none⟩=some (.slice (some ⟨pb,n,none⟩) m.F.length r)/\V2.cell? ⟨pb,n+k*9+6,none⟩=some (.slice j a.va.length l)/\V2.cell? ⟨pb,n+k*9+8,none⟩=some (.slice g a.mu.length h):=⟨(p.cell e.lt).trans c.1,(p.cell s).trans c.2.1,(p.cell s).trans c.2.2⟩;refine kiQ (i:=14) (v:=.slice (some ⟨f.1.size,0,none⟩) 2 2) (w':=V2) 19 rfl rfl cH cu (by simp[execOp,go_sem,W]) c ?_;refine kaT ct ct ?_;refine tkA 15 c ?_;refine wdQ ?_;go_wp2_with fail;go_ret;exact⟨_,rfl,z,d.trans (p.mono d.size)⟩
def q4f (m:Fm)(A:MA)(b g k G:Nat)(M:Nat->Bool)(w:Tw)(d:VfA m)(n:kbg m)(a:k<m.F.length)(l:MSl w m A)(p:kbl w b (kaa m))(o:Blk w g 90 [.slice (A.fa k).v m.F[k].va.length (A.fa k).vc,.slice (A.fa k).u m.F[k].mu.length (A.fa k).uc])(j:Blk w G 4 (ms m.F.length M)):Gv 154 #[wV m A b,.slice (some ⟨g,0,none⟩) 2 2,.slice (some ⟨G,0,none⟩) m.F.length m.F.length] w (.bool ((kfS m k).any M)):=by have h:=(q7y _ _ _).1 (d.fi _ (Yl a));have e:=n.f _ (Yl a);have c:=d.knw a;obtain⟨pb,s,-,-,i⟩:=l.f k a;unfold kfS;rw[qpi a]at c⊢;have q:=qmv h.v;have r:=qmv h.u;exact qd6 m A b g G _ _ _ _ _ _ M w d ⟨cr,i.v,e.v,c.2.2.1⟩ ⟨cr,i.u,e.u,c.2.2.2⟩ p o j
def PlR (B:Nat)(w:Tw)(a:To)(l:List Nat):Prop:=∀i,(h:i<l.length)->∃q,a=some ⟨q,0,none⟩/\B<=q/\q<w.1.size/\w.cell? ⟨q,i,none⟩=some (.int .i64 ((l[i]:Nat):Int))
def kfH {B c:Nat}{w:Tw}{a:To}{l:List Nat}(b:w.ownsRow B 3 1 (.slice a l.length c) l.length (ui l)):PlR B w a l:=λh g=>by rcases b.2 with ⟨d,m⟩ | ⟨i,j,k,d,e,f,-⟩;{omega};cases d;exact⟨i,rfl,e,(Yo.1 f).1,by rw[World.ownsRow.cellAt b h cr];simp[ui,g]⟩
def PlR.keep {B:Nat}{w w':Tw}{a:To}{l:List Nat}(f:PlR B w a l)(j:w.1.size<=w'.1.size)(i:∀b,B<=b->b<w.1.size->w'.heap[b]? = w.heap[b]?):PlR B w' a l:=λk h=>by obtain⟨b,e,c,d,g⟩:=f k h;exact⟨b,e,c,Yr d j,by rw[<- g];simp only[World.cell?,i b c d]⟩
def PlR.low {B n:Nat}{w:Tw}{a:To}{l:List Nat}(c:PlR B w a l)(f:n<=B):PlR n w a l:=λh g=>by obtain⟨i,b,d,e⟩:=c h g;exact⟨i,b,Y6 f d,e⟩
structure khi (m:Fm)(k:Nat)(l jl:List Nat):Prop where
 d:∃M:Nat->Bool,(∀i,i<m.F.length->i≠k->(M i=true ↔ Rch m k i))/\l=kaQ M k (kak m m.F.length)
 j:∀i,i<m.F.length->(i∈jl ↔ i∈l∨∃j,j∈l/\kdp m j i=true)
 lt:∀i,i∈jl->i<m.F.length
def kiJ (w:Tw)(m:Fm)(k:Nat)(r:Ending)(w':Tw):Prop:=∃a1 c1 l a2 c2 jl,r=.returned (.agg #[.slice a1 l.length c1,.slice a2 jl.length c2])/\PlR w.1.size w' a1 l/\PlR w.1.size w' a2 jl/\khi m k l jl/\l.length<=200/\jl.length<=200/\Bw w w'
def qfd (m:Fm)(A:MA)(b k:Nat)(w:Tw)(l:VfA m)(h:kbg m)(i:k<m.F.length)(g:(kak m m.F.length).length=m.F.length)(f:MSl w m A)(j:kbl w b (kaa m)) :
 Calls prog 153 #[wV m A b,Yb k] w λd e=>∃a c,d=.returned a/\e.ownsRow w.1.size 3 1 a c.length (ui c)/\(∃d:Nat->Bool,(∀a,a<m.F.length->a≠k->(d a=true ↔ Rch m k a))/\c=kaQ d k (kak m m.F.length))/\Bw w e :=
 (callsIn_wide (n:=9)).1 (qjt 9 m A b k w l h i g f j)
def jgL (m:Fm)(l:List Nat)(n:Nat):List Nat:=(List.range n).filter λi=>decide (i∈l)||(kfS m i).any λj=>decide (j∈l)
def qky (m:Fm)(l:List Nat)(n:Nat):jgL m l (n+1)=jgL m l n++if (decide (n∈l)||(kfS m n).any λa=>decide (a∈l))=true then [n] else []:=by unfold jgL;rw[Zh,Oi,List.filter_cons,List.filter_nil]
def qqt (m:Fm)(l:List Nat)(n:Nat):(jgL m l n).length<=n:=by have:=Vp (λa=>decide (a∈l)||(kfS m a).any λa=>decide (a∈l)) (List.range n);rw[O5]at this;exact this
def khi.mk' {m:Fm}{k:Nat}{l:List Nat}(f:VfA m)(e:∀d,d∈l->d<m.F.length)(g:∃a:Nat->Bool,(∀b,b<m.F.length->b≠k->(a b=true ↔ Rch m k b))/\l=kaQ a k (kak m m.F.length)):khi m k l (jgL m l m.F.length):=by refine⟨g,λb c=>?_,λb c=>Y7.1 (Vo.1 c).1⟩;unfold jgL;simp only[Vo,Y7,c,true_and,Zk,decide_eq_true_iff,Oe];refine or_congr_right (exists_congr λd=>⟨λa=>⟨a.2,(qlc f (e d a.2) c).1 a.1⟩,λa=>⟨(qlc f (e d a.1) c).2 a.2,a.1⟩⟩)
def qkl:(prog.info? 3).map (λa=>(a.zero,a.size,a.bytes))=some (some (Yb 0),1,8):=by kernel_rfl
def q6b (P:ShP)(h:Nat->Cx)(iv:Nat->Vx)(k:Nat)(w:Tw)(y:P.m.L.length=P.n)(b:kcC P h)(hk:k<P.m.F.length)(z:(kak P.m P.m.F.length).length=P.m.F.length)(l:ShI P h iv w) :
 Calls prog 116 #[Ye P.Sh 0,Yb k] w λc q=>kiJ w P.m k c q:=by
 have aR:=b.v.nf;have HV:=h_ b.v;obtain⟨N,bt,top,t,a2,a3,c1,c2,c3,a5,c5,r,D,-,-⟩:=l.snd;obtain⟨x,am,al,E⟩:=oD (λd (c:MSl d P.m P.A) (Q:kbl d N (kaa P.m))=>qfd P.m P.A N k d b.v b.fit hk z c Q) (λe d (C:e<P.m.F.length) (c:MSl d P.m P.A)=>q74 P.m P.A N e d C c) (λe H g s d (C:e<P.m.F.length) (c:MSl d P.m P.A) (Q:kbl d N (kaa P.m)) hg o=>q4f P.m P.A N H e g s d b.v b.fit C c Q hg o) (λc (g:∀j,j∈c->j<P.m.F.length) n=>khi.mk' (k:=k) b.v g n);unfold wV at x am al;obtain⟨ua,cp,G⟩:=l.slice;have Y:Hi (∀d,Bw w d->MSl d P.m P.A/\kbl d N (kaa P.m)/\(d.cell? ⟨P.Sh,0,none⟩=some (.slice P.A.l P.m.L.length P.A.lc)/\d.cell? ⟨P.Sh,1,none⟩=some (.slice P.A.p P.m.P.length P.A.pc)/\d.cell? ⟨P.Sh,2,none⟩=some (.slice P.A.r P.m.R.length P.A.rc)/\d.cell? ⟨P.Sh,3,none⟩=some (.slice P.A.f P.m.F.length P.A.fc)/\d.cell? ⟨P.Sh,4,none⟩=some (.map (some N)))/\d.cell? ⟨P.Sh,12,none⟩=some (.slice ua P.m.F.length cp)):=h_ λd i=>by
  have g:=l.mono i;refine⟨l.msl.mono g.base,D.mono g.base,⟨?_,?_,?_,?_,?_⟩,?_⟩
  . rw[g.blk.cell,r,y];rfl
  . rw[g.blk.cell,r];rfl
  . rw[g.blk.cell,r];rfl
  . rw[g.blk.cell,r];rfl
  . rw[g.blk.cell,r];rfl
  . rw[<- G];exact g.blk.cell 12
 have aP:P.Sh<w.1.size:=l.blk.lt;clear r G y z b l D;have b:=h_ (Blk.new w 156 J6);have g:=(bR w.1.size w).alloc (nR _) (.cells J6 156);obtain⟨Z,r⟩:=Nq (w.alloc (.cells J6 156));rw[r]at b g;obtain⟨O,T,⟨G,J,K,S,U⟩,-⟩:=Y Z g;obtain⟨z,y⟩:=oB (x Z O T) g;clear O T g x;go_enter func116,ntmps116;go_wp2_with fail
 try rw[r]
 refine z.mono ?_;rintro e D ⟨af,c,rfl,I,n,l⟩;obtain⟨t,c1,rfl⟩:=kcg I;have aL:c.length<=200:=by
  obtain⟨s,-,rfl⟩:=n;have O:=Vp (λe=>decide (e=k)||s e) (kak P.m P.m.F.length);have T:=qlu P.m P.m.F.length;unfold kaQ;omega
 have x:∀j,j∈c->j<P.m.F.length:=by
  obtain⟨s,-,rfl⟩:=n;exact λj hj=>qs9 P.m _ j (Vo.1 hj).1
 obtain⟨aF,av⟩:=oB x (E c x n);have aG:=h_ (kfH I);have aD:=mT y l;have aE:=mB b l;have aS:w.1.size<Z.1.size:=b.lt;have aQ:Z.1.size<=D.1.size:=l.size;obtain⟨g,hD⟩:=Nq D.1.size;clear n x I l r z y b G J K S U E;have b:=Blk.new D 156 #[.slice t c.length c1,Yc];have j:=(bR D.1.size D).alloc (nR _) (.cells #[.slice t c.length c1,Yc] 156);obtain⟨W2,l⟩:=Nq (D.alloc (.cells #[.slice t c.length c1,Yc] 156));rw[l]at b j;rw[hD]at b j;have J:Hi (∀d,Below g D d->Bw w d/\g<=d.1.size):=h_ λd i=>⟨aD.trans (i.mono cr),by have:=i.size;omega⟩;have E:=(Y W2 (J W2 j).1).2.2.2;rw[<- l]at E;have ax:=h_ l;obtain⟨n,X⟩:=oB b j;have aO:g<W2.1.size:=b.lt;obtain⟨i0,hi,ac,ad,ae⟩:=info_parts qqf;have z:i0.bytes*P.m.F.length<=281474976710656:=by rw[ae];omega
 clear b j l;go_wp2_with (at_make;refine wpList_make_full _ rfl (.tmp 22) (.tmp 22) 94 rfl g 4 i0 _ 1 underlying94 hi ac ad .i64 .i64 _ _ P.m.F.length rfl rfl rfl rfl z cE (by first | omega | (simp;omega) | (simp;done)) ?_);intro w3 K b;rw[ax.u]at b
 try rw[ax.u]
 have y:Below g W2 w3:=(bR _ _).grown b cr (λk h=>by cases h);have j:=qrs K;obtain⟨r,az⟩:=Nq (g+1);rw[az]at j
 try rw[az]
 have s:=h_ (X.trans y);have l:=n.grown b (λh=>by cases h);have S:=l.cell 0;simp only[Yi]at S;obtain⟨x,G⟩:=oB j l;clear K b y j l z hi ac ad ae E X n;have aw:=h_ λ(d:Tw) (i:Below g D d)=>aG.keep (by rw[hD];exact(J d i).2) λl _ hq=>i.block l cr;go_wp2_with fail;clear S;go_loopw [8,27] (λ_ n y=>∃b:Nat,b<=c.length/\n=Yb b/\Blk y r 4 (ms P.m.F.length λz=>decide (z∈c.take b))/\Blk y g 156 [.slice t c.length c1,Yc]/\Below g D y) (λ_ n _=>c.length - (intOf n).toNat)
 case atStart=>exact⟨0,nZ _,rfl,by simpa using x.u,G,s⟩
 case round =>
 clear x G s;obtain⟨b,ht,rfl,o,x,j⟩:=hrel;obtain⟨s,K,S⟩:=oC o x j;by_cases U:b<c.length
 case pos =>
  have aj:(b:Int)<c.length:=cr
  have aN:(0:Int)<=b:=cr
  obtain⟨l,rfl,-,-,hc⟩:=aw wr j b U;have C:=aF _ (Yl U);obtain⟨e,V⟩:=Nq (c[b]);rw[V]at hc C;have aT:(e:Int)<P.m.F.length:=cr
  have aU:(0:Int)<=e:=cr
  have W:=(o.cell e).trans (kb1 _ C);have g1:=o.free e;have G:=o.set e (.bool true);rw[kcY]at G;have an:Hi (Blk (wr.setCell ⟨r,e,none⟩ (.bool true)) r 4 (ms P.m.F.length λz=>decide (z∈c.take (b+1)))):=h_ (by
   rw[<- qle (M:=up (λz=>decide (z∈c.take b)) e true) λn _=>?_]
   . exact G
   . rw[Ys U,V]
     by_cases h:n=e
     . rw[h,kaX];simp
     . rw[kaI _ _ h];simp[h])
  obtain⟨ap,X⟩:=oB (x.other (a:=⟨r,e,none⟩) (.bool true) (by show g≠r;omega)) (j.setCell (p:=⟨r,e,none⟩) (by show g<=r;omega) (.bool true));clear o x j G V;go_wp2_with fail;go_roundw
  case rel=>first | exact⟨b+1,cr,cy,an,ap,X⟩ | ((repeat apply Exists.intro);exact⟨⟨b+1,cr,cy,an,ap,X⟩,rfl⟩)
  case measure=>simp[intOf];omega
 case neg =>
 obtain rfl:b=c.length:=cr
 have aj:¬ (c.length:Int)<(c.length:Int):=cr
 rw[Y2 (nR _)]at s;have E:=(Y wr (J wr j).1).2.2.2;clear o x j;go_wp2_with fail;clear E;go_loopw [9,40] (λ_ n y=>∃(b:Nat) (E:To) (G:Nat),b<=P.m.F.length/\n=Yb b/\Blk y g 156 [.slice t c.length c1,.slice E (jgL P.m c b).length G]/\y.ownsRow g 3 1 (.slice E (jgL P.m c b).length G) (jgL P.m c b).length (ui (jgL P.m c b))/\Blk y r 4 (ms P.m.F.length λz=>decide (z∈c))/\Below g D y) (λ_ n _=>P.m.F.length - (intOf n).toNat)
 case atStart=>exact⟨0,none,0,nZ _,rfl,K,World.ownsRow_nil _ _ _ _,s,S⟩
 case round =>
 clear s K S;obtain⟨b,E,G,ht,rfl,x,I,o,j⟩:=hrel;have aJ:=qqt P.m c b;have n:=h_ (qky P.m c b);obtain⟨y,aa⟩:=Nq (jgL P.m c b);rw[aa]at x I aJ n;have aK:y.length<=200:=cr
 obtain⟨O,T,hy,-⟩:=Y wr (J wr j).1;have ai:=(J wr j).2;obtain⟨K,HO,s,S⟩:=oD x I o j;by_cases U:b<P.m.F.length
 case pos =>
  have aj:(b:Int)<P.m.F.length:=cr
  have aN:(0:Int)<=b:=cr
  have W:=(o.cell b).trans (kb1 _ U);have V:Hi (∀q,Bw wr q->(q.cell? ⟨P.Sh,0,none⟩=some (.slice P.A.l P.m.L.length P.A.lc)/\q.cell? ⟨P.Sh,1,none⟩=some (.slice P.A.p P.m.P.length P.A.pc)/\q.cell? ⟨P.Sh,2,none⟩=some (.slice P.A.r P.m.R.length P.A.rc)/\q.cell? ⟨P.Sh,3,none⟩=some (.slice P.A.f P.m.F.length P.A.fc)/\q.cell? ⟨P.Sh,4,none⟩=some (.map (some N)))/\q.cell? ⟨r,b,none⟩=some (.bool (decide (b∈c)))):=h_ λq i=>⟨(Y q (J q (S.trans (i.mono ai))).1).2.2.1,(i.cell (p:=⟨r,b,none⟩) s.lt).trans W⟩;have ah:=h_ (am b wr.drew U (O.mono (bR _ _).drew));have ag:=h_ λH d (i:Bw wr d) hg=>al b H r (λz=>decide (z∈c)) d U (O.mono i) (T.mono i) hg (s.mono i s.lt);clear aa x I o j O T hy W;cases Q:decide (b∈c)
  case' true =>
   rw[Q]at V n;rw[Gd,Yy rfl]at n;clear Q ah ag;go_wp2_with fail;refine kcG (B:=wr.1.size) (W0:=wr) (bR _ _) λd=>?_;have hC:=V.u;refine rep 20 ?_
   repeat first | refine tkN d ?_ | refine skN d ?_
   refine wdQ ?_;clear hC V;obtain⟨W,hV⟩:=Nq wr.drew;rw[hV]at d⊢;have C:=h_ d;clear d hV
  case' false =>
   rw[Q]at V n;rw[Vy]at n;clear Q;generalize (kfS P.m b).any (λz=>decide (z∈c))=l at *;go_wp2_with fail;refine kcG (B:=wr.1.size) (W0:=wr) (bR _ _) λd=>?_;have hC:=V.u;refine rep 20 ?_
   repeat refine tkN d ?_
   refine tkA 17 d ?_;refine kdV (R:=λaf z=>∃H,af=.slice (some ⟨H,0,none⟩) 2 2/\Blk z H 90 [.slice (P.A.fa b).v P.m.F[b].va.length (P.A.fa b).vc,.slice (P.A.fa b).u P.m.F[b].mu.length (P.A.fa b).uc]) 16 59 d d.size (ah.mono λh q ⟨H,Q,z,j⟩=>⟨_,Q,⟨H,rfl,z⟩,j⟩) ?_;rintro af W4 ⟨H,rfl,Q⟩ aH q;simp only[Yf,Yg];refine kcN 18 61 q q.size (ag H W4 q Q) λW aI z=>?_;replace d:=z;refine tkA 19 d ?_;refine wdQ ?_;have C:=h_ z;clear hC V d z aI Q aH q ah ag;cases l
   case false =>
    obtain⟨z,d,q,Q⟩:=oD (K.mono C K.lt) (qm0 HO C) (s.mono C s.lt) (S.trans (C.mono ai));rw[Yu cw,Gn]at n;go_wp2_with fail;go_roundw
    case rel=>first | exact⟨b+1,E,G,cr,cy,by rw[n.u];exact z,by rw[n.u];exact d,q,Q⟩ | ((repeat apply Exists.intro);exact⟨⟨b+1,E,G,cr,cy,by rw[n.u];exact z,by rw[n.u];exact d,q,Q⟩,rfl⟩)
    case measure=>simp[intOf];omega
   rw[Yy rfl]at n
  all_goals
   have V:=K.mono C K.lt;have H:=S.trans (C.mono ai);have aM:=(J W H).2;have q1:=V.cell 1;simp only[Yi,Yw]at q1;obtain⟨i0,hi,ac,ad,ae⟩:=info_parts qkl;obtain⟨z,d,q,Q,HN⟩:=oG V (qm0 HO C) (s.mono C s.lt) H (Blk.new W 3 #[Yb b]);clear V H K HO s S C;go_wp2_with (at_builtin;refine wpList_append_own _ rfl _ _ 89 rfl g 3 i0 _ 1 8 underlying89 hi ac ad ae rfl cr _ _ _ rfl (d.alloc _) ⟨W.1.size,0,none⟩ 1 1 [Yb b] rfl rfl (λs af hj=>by rw[show(⟨W.1.size,0,none⟩:Addr).add s=⟨W.1.size,s,none⟩ by simp[Addr.add];try exact λi=>i.symm];exact(HN.cell s).trans (by simpa using hj)) cG cE cr cz ?_);intro v' w3 aC V _;have S:w3.ownsRow g 3 1 v' (jgL P.m c (b+1)).length (ui (jgL P.m c (b+1))):=by rw[n.u];simpa [ui] using aC
   have H:=(z.alloc (.cells #[Yb b] 3)).grown V (λh=>qsn d z cx h.symm rfl);have aB:=(q.alloc (.cells #[Yb b] 3)).grown V (λh=>qsn d q cx h.symm rfl);have aA:=(Q.alloc aM (.cells #[Yb b] 3)).grown V cz (λs h=>qcp d h);obtain⟨s,C,ay⟩:=kcg S;have W:(jgL P.m c (b+1)).length=y.length+1:=by rw[n.u];simp
   rw[W]at ay;subst ay;have q3:=H.cell 1;simp only[Yi,Yw]at q3;have q4:=H.free 1;obtain⟨aq,au,ao,ak,K⟩:=oG (H.set 1 (.slice s (y.length+1) C)) (qsk S (λh=>qsn S H cx h rfl) 1 (.slice s (y.length+1) C)) (aB.other (a:=⟨g,1,none⟩) (.slice s (y.length+1) C) (by show r≠g;omega)) (aA.setCell (p:=⟨g,1,none⟩) (nR _) (.slice s (y.length+1) C)) W;clear S H aB aA aC V q1 W z d q Q HN;go_wp2_with fail;go_roundw
   case rel=>first | exact⟨b+1,s,C,cr,cy,by rw[K.u];exact aq,by have:=au.u;rw[K.u]at this⊢;exact this,ao,ak⟩ | ((repeat apply Exists.intro);exact⟨⟨b+1,s,C,cr,cy,by rw[K.u];exact aq,by have:=au.u;rw[K.u]at this⊢;exact this,ao,ak⟩,rfl⟩)
   case measure=>simp[intOf];omega
 case neg =>
  obtain rfl:b=P.m.F.length:=cr
  have aj:¬ (P.m.F.length:Int)<(P.m.F.length:Int):=cr
  have d:=aE.mono j cr;have H:=d.cell 0;have K:=d.cell 1;have Q:=d.free 0;have S:=d.free 1;have C:=x.cell 0;have d1:=x.cell 1;simp only[Yi,Yw]at H K C d1;have q:∀l,w.1.size+1<=l->((wr.setCell ⟨w.1.size,0,none⟩ (.slice t c.length c1)).setCell ⟨w.1.size,1,none⟩ (.slice E y.length G)).heap[l]? = wr.heap[l]?:=λl hq=>(heap_setCell_other _ _ _ _ (by show l≠w.1.size;omega)).trans (heap_setCell_other _ _ _ _ (by show l≠w.1.size;omega));have s:=(J wr j).1;rw[aa]at av;have z:Hi (kiJ w P.m k (.returned (.agg #[.slice t c.length c1,.slice E y.length G])) ((wr.setCell ⟨w.1.size,0,none⟩ (.slice t c.length c1)).setCell ⟨w.1.size,1,none⟩ (.slice E y.length G))):=h_ ⟨t,c1,c,E,G,y,rfl,((aw wr j).keep cw λl i _=>q l cr).low cr,((kfH I).keep cw λl i _=>q l cr).low cr,av,aL,aK,(s.setCell (p:=⟨w.1.size,0,none⟩) (nR _) _).setCell (p:=⟨w.1.size,1,none⟩) (nR _) _⟩;clear q s x I o j d O T hy aa;go_wp2;exact bodyPost_ret (v:=.agg #[.slice t c.length c1,.slice E y.length G]) cM rfl z
def ShI.plan {P:ShP}{c:Nat->Cx}{i:Nat->Vx}{W:Tw}(a:ShI P c i W)(o:Obj)(j:o.isCells=false):ShI { P with po:=o } c i { W with heap:=W.heap.setIfInBounds P.pl o }:=by have f:∀b,b≠P.pl->(W.heap.setIfInBounds P.pl o)[b]? = W.heap[b]?:=λb d=>(by rw[Array.getElem?_setIfInBounds_ne (Ne.symm d)]);have h:∀{d g e},Blk W d g e->Blk { W with heap:=W.heap.setIfInBounds P.pl o } d g e:=λ{d g e} e=>(f d (Ne.symm (kdT e a.plm a.plc))).trans e;refine⟨⟨a.base.os,a.base.tape,a.base.output,by simpa using a.base.size,λd (e:d<P.WD.1.size)=>(f d (by have:=a.pll;omega)).trans (a.base.block d e)⟩,a.snd,a.msl,a.lo,λe d=>⟨(a.bx e d).1,h (a.bx e d).2⟩,a.up,h a.blk,qsm a.row λb c=>f b λb=>?_,?_,j,a.pll⟩;{subst b;exact qsj a.row a.plm a.plc c};have:=(Yo.1 a.plm).1;show(W.heap.setIfInBounds P.pl o)[P.pl]? = some o;rw[Array.getElem?_setIfInBounds_self_of_lt this]
def qag {w W:Tw}{pl:Nat}{o:Obj}(a:Bw w W):Below w.1.size { w with heap:=w.heap.setIfInBounds pl o } { W with heap:=W.heap.setIfInBounds pl o }:=by refine⟨a.os,a.tape,a.output,by simpa using a.size,λc d=>?_⟩;show(W.heap.setIfInBounds pl o)[c]? = (w.heap.setIfInBounds pl o)[c]?;rw[Array.getElem?_setIfInBounds,Array.getElem?_setIfInBounds,a.block c d];have:=a.size;by_cases b:pl=c;{rw[Yy b,Yy b,Yy cr,Yy cr]};rw[Yu b,Yu b]
def kiN (P:ShP)(e:Nat->Cx)(iv:Nat->Vx)(w:Tw)(k:Nat)(r:Ending)(w':Tw):Prop:=∃a1 c1 l a2 c2 jl o,r=.returned (.agg #[.slice a1 l.length c1,.slice a2 jl.length c2])/\PlR w.1.size w' a1 l/\PlR w.1.size w' a2 jl/\khi P.m k l jl/\l.length<=200/\jl.length<=200/\ShI { P with po:=o } e iv w'/\w.1.size<=w'.1.size
def qd2 (P:ShP)(t:Nat->Cx)(z:Nat->Vx)(k:Nat)(w:Tw)(ah:P.po=.map #[] 0)(hN:P.m.L.length=P.n)(q:kcC P t)(hk:k<P.m.F.length)(r:(kak P.m P.m.F.length).length=P.m.F.length)(c:ShI P t z w) :
 Calls prog 83 #[Ye P.Sh 0,Yb k] w λb A=>kiN P t z w k b A:=by
 have j:=h_ λb (h:ShI P t z b)=>q6b P t z k b hN q hk r h;have e:=(Blk.new w 156 J6).alloc (.cells J6 156);have d:=Blk.new (w.alloc (.cells J6 156)) 156 J6;have b:=((bR w.1.size w).alloc (nR _) (.cells J6 156)).alloc cw (.cells J6 156);have l:=(bR w.1.size w).alloc (nR _) (.cells J6 156);rw[Yp]at d;have g:=c.mono l;have aw:(w.alloc (.cells J6 156)).cell? ⟨P.Sh,13,none⟩=some (.map (some P.pl)):=g.blk.cell 13;have ao:=qr5 (w:=w.alloc (.cells J6 156)) (pl:=P.pl) (k:Int) (by rw[<- ah];exact g.plm);obtain⟨W0,f⟩:=Nq ((w.alloc (.cells J6 156)).alloc (.cells J6 156));rw[f]at e d b;have O:=h_ (j W0 (c.mono b));obtain⟨W,C,D,ae,aa⟩:=oG (c.mono b) e d f b;have H:=h_ c;clear c g l e d b f q r j;go_enter func83,ntmps83;go_wp2_with fail
 try rw[ae.u]
 refine O.mono ?_;rintro ay I ⟨c,c1,f,d,c2,e,rfl,J,K,R,am,an,x⟩;have au:W0.1.size=w.1.size+2:=by rw[<- ae.u];simp
 have av:=x.size;have g:=D.mono x D.lt;have T:=g.cell 0;have U:=g.cell 1;have X:=g.free 0;have Z:=g.free 1;simp only[Yi,Yw]at T U;have j:=(g.set 0 (.slice c f.length c1)).set 1 (.slice d e.length c2);simp only[Yf,Yg]at j;have Q:=aa.trans (x.mono aa.size);have y:=(Q.setCell (p:=⟨w.1.size+1,0,none⟩) (Vg _) (.slice c f.length c1)).setCell (p:=⟨w.1.size+1,1,none⟩) (Vg _) (.slice d e.length c2);have G:=((C.mono x C.lt).other (a:=⟨w.1.size+1,0,none⟩) (.slice c f.length c1) (Nat.ne_of_lt (Z2 _))).other (a:=⟨w.1.size+1,1,none⟩) (.slice d e.length c2) (Nat.ne_of_lt (Z2 _));have s:∀b,w.1.size+2<=b->((I.setCell ⟨w.1.size+1,0,none⟩ (.slice c f.length c1)).setCell ⟨w.1.size+1,1,none⟩ (.slice d e.length c2)).heap[b]? = I.heap[b]?:=λb Y=>(heap_setCell_other _ _ _ _ (by show b≠w.1.size+1;omega)).trans (heap_setCell_other _ _ _ _ (by show b≠w.1.size+1;omega));rw[au]at J K;have q:=J.keep cw λb h _=>s b h;have r:=K.keep cw λb h _=>s b h;obtain⟨l,M⟩:=Nq ((I.setCell ⟨w.1.size+1,0,none⟩ (.slice c f.length c1)).setCell ⟨w.1.size+1,1,none⟩ (.slice d e.length c2));rw[M]at j y G q r;have N:=H.mono y;have V:l.cell? ⟨P.Sh,13,none⟩=some (.map (some P.pl)):=N.blk.cell 13;have E:=j.cell 0;have d1:=j.cell 1;simp only[Yi,Yw]at E d1;obtain⟨B,ad,ac,ai,aj,ak⟩:=oF N j G y q r;obtain⟨HP,al⟩:=oB R M;clear J K R x g j Q y G s q r N aw ao O W C D av M;go_wp2_with fail
 try rw[al.u]
 clear T U X Z;refine wp_region_held_drew (S:=λA=>A.cell? ⟨P.Sh,13,none⟩=some (.map (some P.pl))/\A.cell? ⟨w.1.size+1,0,none⟩=some (.slice c f.length c1)/\A.cell? ⟨w.1.size+1,1,none⟩=some (.slice d e.length c2)) cu ⟨V,E,d1⟩ (λZ=>?_);refine rep 7 ?_
 repeat refine tkN Z ?_
 clear V E d1;have y:=(bR l.1.size l).drew;have W:l.drew.heap[P.pl]? = some (.map #[] 0):=by rw[<- ah];exact(B.mono y).plm
 have X:l.drew.heap[P.pl]? = some P.po:=(B.mono y).plm;have O:=ad.mono y ad.lt;have N:=ac.mono y ac.lt;have J:=ai.drew;have T:=(B.mono y).blk;have q:=aj.keep (w':=l.drew) (nR _) λb _ _=>rfl;have r:=ak.keep (w':=l.drew) (nR _) λb _ _=>rfl;obtain⟨g,hV⟩:=Nq l.drew;rw[hV]at Z W X O N J T q r⊢;have aq:=B.plc;obtain⟨j,V⟩:=Nq (Obj.map #[⟨Yb k,.agg #[.slice c f.length c1,.slice d e.length c2],0⟩] 1);have ap:j.isCells=false:=by rw[<- V];rfl
 have G:=khu (w:=g) (pl:=P.pl) (k:Int) (.agg #[.slice c f.length c1,.slice d e.length c2]) W;rw[V]at G;have E:∀b,b≠P.pl->(g.heap.setIfInBounds P.pl j)[b]? = g.heap[b]?:=λb Y=>by rw[Array.getElem?_setIfInBounds_ne (Ne.symm Y)]
 have D:∀{x K C},Blk g x K C->Blk { g with heap:=g.heap.setIfInBounds P.pl j } x K C:=λ{x K C} C=>(E x (Ne.symm (kdT C X aq))).trans C;have C:=D O;have x:=D N;have U:=D T;have ax:P.pl<w.1.size:=(Yo.1 H.plm).1;have ag:=H.plan j ap;have K:=qag (pl:=P.pl) (o:=j) J;have Q:=q.keep (w':={ g with heap:=g.heap.setIfInBounds P.pl j }) cw λb h _=>E b cr;have R:=r.keep (w':={ g with heap:=g.heap.setIfInBounds P.pl j }) cw λb h _=>E b cr;obtain⟨V2,af⟩:=Nq (({ g with heap:=g.heap.setIfInBounds P.pl j }:Tw));rw[af]at G C x U K Q R;have e0:=C.cell 0;have e1:=C.cell 1;simp only[Yi,Yw]at e0 e1;have r0:=x.cell 0;have r1:=x.cell 1;have g0:=x.free 0;have g1:=x.free 1;simp only[Yi,Yw]at r0 r1;have hz:V2.cell? ⟨P.Sh,13,none⟩=some (.map (some P.pl)):=U.cell 13;refine kaV (i:=6) (w':=V2) rfl cH cu rfl ?hrunS rfl ⟨hz,e0,e1⟩ ?_
 case hrunS=>simp[execOp,go_sem,G]
 refine wdQ ?_;have s:∀b,w.1.size+2<=b->((V2.setCell ⟨w.1.size,0,none⟩ (.slice c f.length c1)).setCell ⟨w.1.size,1,none⟩ (.slice d e.length c2)).heap[b]? = V2.heap[b]?:=λb Y=>(heap_setCell_other _ _ _ _ (by show b≠w.1.size;omega)).trans (heap_setCell_other _ _ _ _ (by show b≠w.1.size;omega));have M:=(K.setCell (p:=⟨w.1.size,0,none⟩) (nR _) (.slice c f.length c1)).setCell (p:=⟨w.1.size,1,none⟩) (nR _) (.slice d e.length c2);have Y:Hi (kiN P t z w k (.returned (.agg #[.slice c f.length c1,.slice d e.length c2])) ((V2.setCell ⟨w.1.size,0,none⟩ (.slice c f.length c1)).setCell ⟨w.1.size,1,none⟩ (.slice d e.length c2))):=h_ ⟨c,c1,f,d,c2,e,j,rfl,(Q.keep cw λb h _=>s b h).low cr,(R.keep cw λb h _=>s b h).low cr,HP,am,an,ag.mono (by simpa[Bw] using M),by have:=M.size;simpa using this⟩;clear s M K ag Q R q r C x U D E G af hV Z W X O N J T V hz;go_wp2;exact bodyPost_ret (v:=.agg #[.slice c f.length c1,.slice d e.length c2]) cM rfl Y
def ke4 (m:Fm)(sd:Bool)(L:Nat)(inp:Nat->Vx)(Lc:Nat)(ce:Nat->Cx)(kz:Int)(v:Vx):Bool :=
 (sd&&kbx m L inp&&kaK m Lc ce)&&(decide (0<=kz/\kz<m.F.length)&&(decide ((fAt m kz.toNat).is.length=0)&&kbZ (fAt m kz.toNat) v))
def kfn (m:Fm)(b:Bool)(inp:Nat->Vx)(ce:Nat->Cx)(k:Nat)(v:Vx)(n:Nat)(g:Nat->Cx):Prop:=(b=false->n=0)/\(b=true->n=m.F.length/\kdW m inp ce k v g)
def kfT (w:Tw)(m:Fm)(b:Bool)(inp:Nat->Vx)(ce:Nat->Cx)(k:Nat)(v:Vx)(r:Ending)(w':Tw):Prop:=∃n g,kfn m b inp ce k v n g/\kgl w n g r w'
section
variable {w w':Tw} {m:Fm} {b:Bool} {inp:Nat->Vx} {ce:Nat->Cx} {k:Nat} {v:Vx} {a:To} {c:Nat}
def qsd (e:b=false)(d:Bw w w'):kfT w m b inp ce k v (.returned (.slice a 0 c)) w':=⟨0,λ_=>zeC,⟨λ_=>rfl,λd=>by rw[e]at d;cases d⟩,a,c,rfl,qjh,d⟩
def qse {g:Nat->Cx}(f:b=true)(h:kdW m inp ce k v g)(e:kbc w' a m.F.length g)(d:Bw w w'):kfT w m b inp ce k v (.returned (.slice a m.F.length c)) w':=⟨_,g,⟨λd=>(by rw[f]at d;cases d),λ_=>⟨rfl,h⟩⟩,a,c,rfl,e,d⟩
def qnv {B n i:Nat}{l:List Vx}(d:w.ownsRow B 55 3 (.slice a n i) n (vx3 l))(h:l.length=n){f:Nat->Vx}(g:∀e,(d:e<l.length)->l[e]=f e):kaH w a n f:=λk e=>by obtain⟨j,rfl,-,-⟩:=qsh d e;have:=qu8 d h k e;dsimp only at this;rwa [show l.getD k kdA=f k by rw[Yx,Ym cr,<- g k cr];rfl]at this
def qjc {B n i:Nat}{J:Nat->Bool}(d:w.ownsRow B 4 1 (.slice a n i) n (ms n J)):ka3 w a n J:=λk g=>by rcases d.2 with ⟨e,o⟩ | ⟨h,j,l,e,-,f,-⟩;{omega};cases e;exact⟨h,0,rfl,(Yo.1 f).1,by rw[Y5,World.ownsRow.cellAt d k cr];exact kb1 J g⟩
def qek {n G:Nat}{M:Nat->Bool}(d:Blk w G 4 (ms n M)):ka3 w (some ⟨G,0,none⟩) n M:=λk e=>⟨G,0,rfl,d.lt,by rw[Y5,d.cell];exact kb1 M e⟩
def qqi:(prog.info? 55).map (λd=>(d.zero,d.size,d.bytes))=some (some (.agg Jf),3,32):=by kernel_rfl
def qrt (n:Nat)(M:Nat->Bool):ms (n+1) M=ms n M++[.bool (M n)]:=by simp[ms,List.range_succ]
end
def kfo (inp:Nat->Vx)(k:Nat)(v:Vx)(n:Nat):List Vx:=(List.range n).map (upV inp k v)
def qhq (inp:Nat->Vx)(k:Nat)(v:Vx)(n:Nat):vx3 (kfo inp k v (n+1))=vx3 (kfo inp k v n)++[Yb (upV inp k v n).k,Yb (upV inp k v n).n,.string (upV inp k v n).s]:=by simp[kfo,vx3,List.range_succ]
def jdA (m:Fm)(M:Nat->Bool)(i n:Nat):Bool:=M i||(List.range n).any λj=>M j&&kdp m j i
def qkw (m:Fm)(M:Nat->Bool)(i n:Nat):jdA m M i (n+1)=(jdA m M i n||(M n&&kdp m n i)):=by unfold jdA;rw[Zh,List.any_append,Bool.or_assoc];simp
def qkx (m:Fm)(M:Nat->Bool)(i:Nat):jdA m M i 0=M i:=by simp[jdA]
def qqq (m:Fm)(M:Nat->Bool)(i n:Nat):jdA m M i n=true ↔ M i=true∨∃d,d<n/\M d=true/\kdp m d i=true:=by simp[jdA]
def gG {p:Prop}(h:p:=by refine wdQ ?_;have K:=h_ (S C _ g);obtain⟨U,o⟩:=Nq W3.drew;rw[o]at K⊢;clear o g;go_wp2;exact bodyPost_ret (v:=.slice (some ⟨U.1.size,0,none⟩) 0 0) cM rfl K):p:=h
def q31 (m:Fm)(A:MA)(L ci G cc:Nat)(ai ac:To)(inp:Nat->Vx)(ce:Nat->Cx)(X:Int)(v:Vx)(sd:Bool)(w:Tw)(j:kbg m)(hL:L<=9223372036854775807)(ag:∀k,k<L->(inp k).s.size<=9223372036854775807)(H:∀k,k<L->I6 (inp k).n)(bM:G<=9223372036854775807)(I:∀k,k<G->(ce k).v.s.size<=9223372036854775807)(ay:∀k,k<G->I6 (ce k).v.n)(J:v.s.size<=9223372036854775807)(N:I6 v.n)(M:sd=true->VfA m)
 (D:∀e,MSl e m A->Gv 28 #[mV m A] e (.bool sd)) (s:MSl w m A) (hi:kaH w ai L inp) (y:kbc w ac G ce) :
 Calls prog 20 #[mV m A,.slice ai L ci,.slice ac G cc,Yb X,.agg (Jc v.k v.n v.s)] w λd w'=>kfT w m (ke4 m sd L inp G ce X v) inp ce X.toNat v d w':=by
 obtain⟨HS,U,K,a2,bn,bL⟩:=oF D (λe (g:MSl e m A) (l:kaH e ai L inp)=>q63 m A L ci ai inp e j hL ag g l) (λe (l:kbc e ac G ce)=>q8t m A G cc ac ce e j bM I l) (λ(n:Fl) (z:FA) e=>qc2 n z v e J) (λ(k:Nat) e (d:m.F.length<=200) (Q:k<m.F.length) (g:MSl e m A)=>q8r m A k e Q d j g) (λ(d i:Nat) e (x:d<m.F.length) (hi:i<m.F.length) (g:MSl e m A)=>q3y m A d i e x hi j g);have T:Hi (kbx m L inp=true->∀d,d<m.F.length->GVx (inp d)):=h_ λh d x=>by
  obtain⟨rfl,Q⟩:=qkq h;have:=Q d x;rw[key,Yq,kbZ,Yq]at this;exact⟨this.1.1,H d x⟩
 have S:Hi (kaK m G ce=true->∀d,d<m.F.length->GVx (ce d).v):=h_ λh d x=>by
  obtain⟨rfl,Q⟩:=qev h;exact⟨Q d x,ay d x⟩
 have bd:Hi (∀n,kbZ n v=true->GVx v):=h_ λn h=>by
  rw[kbZ,Yq]at h;exact⟨h.1,N⟩
 obtain⟨bo,be,aB⟩:=oC (λ(q u:To) (t C:Nat) (aj:Nat->Bool) (r:Nat->Vx) e (o:VfA m) (g:∀d,d<m.F.length->GVx (r d)) (l:∀d,d<m.F.length->GVx (ce d).v) (s:MSl e m A) (E:kaH e q m.F.length r) (y:kbc e ac m.F.length ce) (hM:ka3 e u m.F.length aj)=>q66 m A q ac u t cc C ce r aj e o.nf (λq W=>(q7y _ _ _).1 (o.fi q W)) j g l s E y hM) (λ(a5 u:To) (c5 C:Nat) (aj t:Nat->Bool) (r:Nat->Vx) e (o:VfA m) (g:∀d,d<m.F.length->GVx (r d)) (l:∀d,d<m.F.length->GVx (ce d).v) (s:MSl e m A) (y:kbc e a5 m.F.length (ceR ce (rdS (Frv m r) (mkD m.F.length aj) (cS ce) (m.F.length+1)))) (hM:ka3 e u m.F.length t)=>q8u m A a5 u c5 C _ t e o.nf (λq W=>(q7y _ _ _).1 (o.fi q W)) j (λd x=>kiI (λq W=>(q7y _ _ _).1 (o.fi q W)) j g l _ d x) s y hM) M;obtain⟨q1,an⟩:∃az,kbx m L inp=az:=⟨_,rfl⟩;obtain⟨q2,ao⟩:∃az,kaK m G ce=az:=⟨_,rfl⟩;rw[an]at U T;rw[ao]at K S;obtain⟨b,r⟩:=Nq (ke4 m sd L inp G ce X v);have bg:Hi (q1=true->L=m.F.length):=h_ λh=>(qkq (an.trans h)).1;have bf:Hi (q2=true->G=m.F.length):=h_ λh=>(qev (ao.trans h)).1;rw[ke4,an,ao]at r;rw[show ke4 m sd L inp G ce X v=b by rw[<- r,ke4,an,ao]];have E:=h_ r;have b3:=j.fl;clear r an ao D M j ag H I ay J N;obtain⟨al,ad,ap,ae,aR,aa,af,O,aM⟩:=A;unfold mV at *;obtain⟨W0,g⟩:=Nq ((w.alloc (.cells (Jb al m ad ap ae aR aa af O) 37)).alloc (.cells (Jc v.k v.n v.s) 55));have j:Bw w W0:=by rw[<- g];exact((bR _ _).alloc (nR _) _).alloc cw _
 have l:Blk W0 w.1.size 37 (Jj al m ad ap ae aR aa af O):=by rw[<- g];exact(Blk.new w 37 (Jb al m ad ap ae aR aa af O)).alloc _
 have u:Blk W0 (w.1.size+1) 55 (J3 v.k v.n v.s):=by rw[<- g];simpa using Blk.new (w.alloc (.cells (Jb al m ad ap ae aR aa af O) 37)) 55 (Jc v.k v.n v.s)
 have M:Hi (∀e,Bw W0 e->(MSl e m ⟨al,ad,ap,ae,aR,aa,af,O,aM⟩/\kaH e ai L inp/\kbc e ac G ce)/\(Blk e w.1.size 37 (Jj al m ad ap ae aR aa af O)/\Blk e (w.1.size+1) 55 (J3 v.k v.n v.s))/\Bw w e):=h_ λe V=>⟨⟨(s.mono j).mono V,(hi.mono j).mono V,(y.mono j).mono V⟩,⟨l.mono V l.lt,u.mono V u.lt⟩,j.trans (V.mono j.size)⟩;obtain⟨Y,Z,x2,x3⟩:=kah l;clear j l u s hi y;go_enter func20,ntmps20;go_wp2_with fail
 try rw[g]
 refine cQ (HS W0 (M W0 (bR _ _)).1.1) λW1 I=>?_;obtain⟨⟨l,J,D⟩,⟨j,-⟩,u⟩:=M W1 I;obtain⟨s,N⟩:=oB I u;cases sd
 case false =>
  have ah:=h_ (N.alloc N.size (.cells #[] 75));have C:Hi (b=false):=h_ E.symm;clear g l J D j u I Y Z x2 x3;go_wp2;exact bodyPost_ret (v:=.slice (some ⟨W1.1.size,0,none⟩) 0 0) cM rfl (qsd C ah)
 obtain⟨Y,Z,x2,x3⟩:=kah j;obtain⟨aL,H⟩:=oB l J;clear g l J D j u I;go_wp2_with fail;refine cQ (U W1 aL H) λW2 aE=>?_;have g:=s.trans (aE.mono s.size);obtain⟨⟨l,J,D⟩,⟨j,-⟩,u⟩:=M W2 g;replace s:=h_ g;replace N:=h_ u;cases q1
 case false =>
  have ah:=h_ (N.alloc N.size (.cells #[] 75));have C:Hi (b=false):=h_ E.symm;clear l J D j u g aE Y Z x2 x3;go_wp2;exact bodyPost_ret (v:=.slice (some ⟨W2.1.size,0,none⟩) 0 0) cM rfl (qsd C ah)
 obtain⟨Y,Z,x2,x3⟩:=kah j;replace H:=h_ D;clear l J D j u g aE;go_wp2_with fail;refine cQ (K W2 H) λW3 I=>?_;have g:=s.trans (I.mono s.size);obtain⟨⟨l,J,D⟩,⟨j,-⟩,u⟩:=M W3 g;replace s:=h_ g;replace N:=h_ u;cases q2
 case false =>
  have ah:=h_ (N.alloc N.size (.cells #[] 75));have C:Hi (b=false):=h_ E.symm;clear l J D j u g I Y Z x2 x3;go_wp2;exact bodyPost_ret (v:=.slice (some ⟨W3.1.size,0,none⟩) 0 0) cM rfl (qsd C ah)
 obtain⟨Y,Z,x2,x3⟩:=kah j;replace aL:=h_ l;have o:=aB cL;have bV:=o.nf;replace aB:=h_ o;obtain rfl:=bg cL;obtain rfl:=bf cL;have bI:=h_ (T cL);have bl:=h_ (S cL);clear l J D j u g I o bg bf T S HS U K H;have bC:Hi (∀w',Bw W0 w'->w'.cell? ⟨w.1.size,3,none⟩=some (.slice af m.F.length O)):=h_ λw' h=>(kah (M w' h).2.1.1).2.2.2;have S:Hi (b=false->∀T,Bw W0 T->kfT w m b inp ce X.toNat v (.returned (.slice (some ⟨T.1.size,0,none⟩) 0 0)) (T.alloc (.cells #[] 75))):=h_ λh T g=>qsd h ((M T g).2.2.alloc (M T g).2.2.size _);by_cases aJ:X<0
 case pos =>
  have C:Hi (b=false):=h_ (by rw[<- E.u,Yj (λh=>by omega)];rfl);have d0:=Yk aJ;go_wp2_with fail;refine kcG s λg=>?_;refine rep 27 ?_
  repeat first | refine tkN g ?_ | refine skN g ?_
  exact gG
 by_cases b1:(m.F.length:Int)<=X
 case pos =>
  have C:Hi (b=false):=h_ (by rw[<- E.u,Yj (λh=>by omega)];rfl);have d0:=Yj aJ;have d1:=Yk b1;go_wp2_with fail;refine kcG s λg=>?_;refine rep 27 ?_
  repeat first | refine tkN g ?_ | refine skN g ?_
  exact gG
 obtain⟨k,rfl⟩:∃k:Nat,X=k:=⟨X.toNat,cr⟩;have Q:k<m.F.length:=cr
 have bT:(k:Int)<m.F.length:=cr
 have bU:(0:Int)<=k:=cr
 simp only[Ga]at E S⊢;obtain⟨n,aS⟩:=Nq (m.F[k]);obtain⟨z,hG⟩:=Nq (aM k);obtain⟨H,I,e3,-⟩:=aL.f k Q;dsimp only at e3;subst e3;have aA:Hi ((decide (n.is.length=0)&&kbZ n v)=b):=h_ (by
  have e3:fAt m k=n:=by rw[qpi Q,aS]
  rw[<- E.u];simp only[e3];rw[Yk (show(0:Int)<=(k:Int)/\(k:Int)<m.F.length from ⟨bU,bT⟩)];rfl)
 have HC:Hi (∀w',Bw W0 w'->(w'.cell? ⟨w.1.size,3,none⟩=some (.slice (some ⟨H,I,none⟩) m.F.length O)/\w'.cell? ⟨H,I+k*9,none⟩=some (.string n.nm)/\w'.cell? ⟨H,I+k*9+1,none⟩=some (Yb n.ty)/\w'.cell? ⟨H,I+k*9+2,none⟩=some (Yb n.lb)/\w'.cell? ⟨H,I+k*9+3,none⟩=some (.slice z.b n.bys.length z.bc)/\w'.cell? ⟨H,I+k*9+4,none⟩=some (.slice z.i n.is.length z.ic)/\w'.cell? ⟨H,I+k*9+5,none⟩=some (.slice z.h n.wh.length z.hc)/\w'.cell? ⟨H,I+k*9+6,none⟩=some (.slice z.v n.va.length z.vc)/\w'.cell? ⟨H,I+k*9+7,none⟩=some (.string n.sy)/\w'.cell? ⟨H,I+k*9+8,none⟩=some (.slice z.u n.mu.length z.uc))/\w'.cell? ⟨w.1.size+1,0,none⟩=some (Yb v.k)/\w'.cell? ⟨w.1.size+1,1,none⟩=some (Yb v.n)/\w'.cell? ⟨w.1.size+1,2,none⟩=some (.string v.s)):=h_ λw' V=>by
  obtain⟨⟨p1,-,-⟩,⟨p3,p4⟩,-⟩:=M w' V;obtain⟨_,_,e1,y,-⟩:=p1.f k Q;dsimp only at e1 y;cases e1;rw[aS,hG]at y;exact⟨⟨(kah p3).2.2.2,y.2⟩,kag p4⟩
 have ak:=h_ (a2 n z W3.drew);have d0:decide ((k:Int)<0)=false:=Yj cr;have d1:decide (m.F.length<=k)=false:=Yj cr;unfold fV at ak;clear aS hG a2 E bC;by_cases E:n.is.length=0
 case neg =>
  have bv:decide (0<n.is.length)=true:=Yk cr;have C:Hi (b=false):=h_ (by rw[<- aA.u,Yj E];rfl);go_wp2_with fail;refine kcG s λg=>?_;have hC:=HC.u;refine rep 27 ?_
  repeat first | refine tkN g ?_ | refine skN g ?_
  refine wdQ ?_;have K:=h_ (S C _ g);obtain⟨U,o⟩:=Nq W3.drew;rw[o]at K⊢;clear o g hC;go_wp2;exact bodyPost_ret (v:=.slice (some ⟨U.1.size,0,none⟩) 0 0) cM rfl K
 have bv:decide (0<n.is.length)=false:=Yj cr;obtain⟨fi,o⟩:∃b,kbZ n v=b:=⟨_,rfl⟩;rw[o,Yk E,Zb]at aA;rw[o]at ak;have C:=h_ o;clear o E;go_wp2_with fail;refine kcG s λg=>?_;have hC:=HC.u;refine rep 27 ?_
 repeat first | refine tkN g ?_ | refine skN g ?_
 refine kcN 24 62 g g.size ak λW4 aQ U=>?_;replace g:=U
 repeat refine tkN g ?_
 refine wdQ ?_;have av:=h_ U;clear g aQ hC HC ak bv s;cases fi
 case false =>
  have K:=h_ (S aA.symm _ U);clear U;go_wp2;exact bodyPost_ret (v:=.slice (some ⟨W4.1.size,0,none⟩) 0 0) cM rfl K
 have bJ:=h_ (bd n C);clear U S bd C;obtain⟨E,s⟩:=Nq W4.1.size;have au:Hi (∀e,Below E W4 e->((MSl e m ⟨al,ad,ap,ae,aR,aa,some ⟨H,I,none⟩,O,aM⟩/\kaH e ai m.F.length inp/\kbc e ac m.F.length ce)/\(Blk e w.1.size 37 (Jj al m ad ap ae aR aa (some ⟨H,I,none⟩) O)/\Blk e (w.1.size+1) 55 (J3 v.k v.n v.s))/\Bw w e)/\E<=e.1.size):=h_ λe h=>by
  rw[<- s]at h;exact⟨M e (av.trans (h.mono av.size)),by rw[<- s];exact h.size⟩
 obtain⟨W5,S⟩:=Nq (W4.alloc (.cells #[] 55));have aW:W5.1.size=E+1:=by rw[<- S,<- s];simp
 have o:Below E W4 W5:=by rw[<- S,<- s];exact(bR _ _).alloc (nR _) _
 have C:W5.ownsRow E 55 3 (.slice (some ⟨E,0,none⟩) 0 0) 0 (vx3 (kfo inp k v 0)):=by
  rw[<- S,<- s];exact⟨rfl,.inr ⟨W4.1.size,0,#[],rfl,nR _,heap_alloc_new W4 (.cells #[] 55),nR _,nZ _,rfl,rfl⟩⟩
 obtain⟨⟨⟨l,-,-⟩,⟨j,-⟩,-⟩,-⟩:=au W5 o;obtain⟨Y,Z,x2,x3⟩:=kah j;have bm:=h_ (bn k W5 bV Q l);obtain⟨bi,aY⟩:=oB C o;clear M av l j C o bn;go_wp2_with fail
 try rw[S]
 try rw[s]
 refine bm.mono ?_;rintro o W6 ⟨G9,aj,rfl,br,aC,hM,ax⟩;rw[aW]at br ax;have g0:=(aC.cell k).trans (kb1 aj Q);have g1:=aC.free k;have M:=aC.set k (.bool true);rw[kcY]at M;have aF:Below (E+1) W5 (W6.setCell ⟨G9,k,none⟩ (.bool true)):=ax.setCell (p:=⟨G9,k,none⟩) br _;have aN:∀i,i<m.F.length->(up aj k true i=true ↔ i=k∨Rch m k i):=λi hi=>by
  by_cases o:i=k
  . rw[o,kaX];simp
  . rw[kaI _ _ o,hM i hi];simp[o]
 obtain⟨C,bt⟩:∃M',up aj k true=M':=⟨_,rfl⟩;rw[bt]at M aN;obtain⟨W7,aP⟩:=Nq (W6.setCell ⟨G9,k,none⟩ (.bool true));rw[aP]at M aF;obtain⟨bj,ba,aZ,bF⟩:=oD (qm0 bi (by rw[Bw,aW];exact aF)) M (aY.trans (aF.mono (Vg _))) aN;clear M aF aN bt aC hM ax S s bi aY bm aW Y Z x2 x3;go_wp2_with fail
 try rw[aP]
 clear aP g0 g1;go_loopw [12,14] (λs i S=>∃(d:Nat) (a8:To) (c8:Nat),d<=m.F.length/\i=Yb d/\s=.slice a8 d c8/\S.ownsRow E 55 3 (.slice a8 d c8) d (vx3 (kfo inp k v d))/\Blk S G9 4 (ms m.F.length C)/\Below E W4 S) (λ_ i _=>m.F.length - (intOf i).toNat)
 case atStart=>exact⟨0,_,_,nZ _,rfl,rfl,bj,ba,aZ⟩
 case round =>
 clear bj ba aZ;obtain⟨d,a8,c8,x,rfl,rfl,ho,s,r⟩:=hrel;obtain⟨⟨⟨l,J,D⟩,⟨j,aV⟩,u⟩,ag⟩:=au wr r;by_cases aH:d<m.F.length
 case pos =>
  have aU:(d:Int)<m.F.length:=cr
  have bP:(0:Int)<=d:=cr
  obtain⟨i0,hi,aJ,bZ,b0⟩:=info_parts qqi;obtain⟨q,W⟩:=Nq (upV inp k v d);obtain⟨HN,HO,HG,HB,HX⟩:=oG (Blk.new wr 55 (Jc q.k q.n q.s)) ho s r W;by_cases o:d=k
  case' pos =>
   have e':((d:Int)==(k:Int))=true:=by simp[o]
   obtain⟨M,c1,c2⟩:=kag aV;have e2:v=q:=by rw[<- W,upV,Yy o]
   rw[e2]at M c1 c2
  case' neg =>
   have e':((d:Int)==(k:Int))=false:=by simp;omega
   obtain⟨ib,io,rfl,-,M,c1,c2⟩:=J d aH;have e2:inp d=q:=by rw[<- W,upV,Yu o]
   rw[e2]at M c1 c2
  all_goals
   clear e2 o W ho s r l D j u J aV;go_wp2_with (at_builtin;refine wpList_append_own _ rfl _ _ 39 rfl E 55 i0 _ 3 32 underlying39 hi aJ bZ b0 rfl cr _ _ _ rfl (HO.alloc _) ⟨wr.1.size,0,none⟩ 1 1 (J3 q.k q.n q.s) rfl rfl (λaq v x=>by rw[show(⟨wr.1.size,0,none⟩:Addr).add aq=⟨wr.1.size,aq,none⟩ by simp[Addr.add];try exact λh=>h.symm];exact(HN.cell aq).trans (by simpa using x)) cG cE cr cz ?_);intro v' w3 bw aT _;have W:w3.ownsRow E 55 3 v' (d+1) (vx3 (kfo inp k v (d+1))):=by rw[qhq,HX.u];exact bw
   obtain⟨bD,bB⟩:=oB ((HG.alloc (.cells (Jc q.k q.n q.s) 55)).grown aT (λo=>qsn HO HG cx o.symm rfl)) ((HB.alloc ag (.cells (Jc q.k q.n q.s) 55)).grown aT cz (λq' o=>qcp HO o));obtain⟨a7,c7,rfl⟩:=kcg W;have bG:=h_ W;clear W bw aT M c1 c2 e' HN HO HG HB HX;refine rQ ?_;exact⟨d+1,_,_,cr,cy,rfl,bG,bD,bB⟩
 case neg =>
 obtain rfl:d=m.F.length:=cr
 have aU:¬ (m.F.length:Int)<(m.F.length:Int):=cr
 obtain⟨Wz,rfl⟩:∃Wz,Wz=wr:=⟨_,rfl⟩;obtain⟨M,q⟩:=Nq Wz.1.size;have b2:G9<M:=by rw[<- q];exact s.lt
 have bO:E<=M:=by rw[<- q];exact ag
 obtain⟨W8,W⟩:=Nq (Wz.alloc (.cells #[] 4));obtain⟨t,hJ⟩:∃t:Nat->Bool,(λi=>jdA m C i m.F.length)=t:=⟨_,rfl⟩;have aG:=nB W;have aI:M<=W8.1.size:=by rw[<- W,<- q];simp
 have bp:Hi (W8.ownsRow M 4 1 (.slice (some ⟨M,0,none⟩) 0 0) 0 (ms 0 t)):=h_ (by
  rw[<- W,<- q];exact⟨rfl,.inr ⟨Wz.1.size,0,#[],rfl,nR _,heap_alloc_new Wz (.cells #[] 4),nR _,nZ _,rfl,rfl⟩⟩)
 obtain⟨bk,bb,a0,HJ⟩:=oD (qm0 ho aG) (s.mono aG s.lt) (r.trans (aG.mono ag)) hJ;clear ho s r l J D j aV u ag aG hJ;go_wp2_with fail
 try rw[W]
 try rw[q]
 clear W q;go_loopw [15,16,17,18] (λaX i _ _ S=>∃(d:Nat) (a9:To) (c9:Nat),d<=m.F.length/\i=Yb d/\aX=.slice a9 d c9/\S.ownsRow M 4 1 (.slice a9 d c9) d (ms d t)/\S.ownsRow E 55 3 (.slice a8 m.F.length c8) m.F.length (vx3 (kfo inp k v m.F.length))/\Blk S G9 4 (ms m.F.length C)/\Below E W4 S/\M<=S.1.size) (λ_ i _ _ _=>m.F.length - (intOf i).toNat)
 case atStart=>exact⟨0,_,_,nZ _,rfl,rfl,bp,bk,bb,a0,aI⟩
 case round =>
 clear bp bk bb a0 aI;obtain⟨d,a9,c9,x,rfl,rfl,hu,ho,s,r,aI⟩:=hrel;obtain⟨W,rfl⟩:∃W,W=wr:=⟨_,rfl⟩;by_cases aH:d<m.F.length
 case pos =>
  have aU:(d:Int)<m.F.length:=cr
  have bP:(0:Int)<=d:=cr
  have g0:=(s.cell d).trans (kb1 C aH);obtain⟨HU,HO,HG,HB⟩:=oD hu ho s r;clear hu ho s r;go_wp2_with fail;clear g0;go_loopw [17,18] (λaz i S=>∃q:Nat,q<=m.F.length/\i=Yb q/\az=.bool (jdA m C d q)/\Bw W S) (λ_ i _=>m.F.length - (intOf i).toNat)
  case atStart=>exact⟨0,nZ _,rfl,by rw[qkx],bR _ _⟩
  case round =>
  obtain⟨q,ht,rfl,rfl,S⟩:=hrel;have aK:=h_ S;have aw:=HB.trans (S.mono (au _ HB).2);obtain⟨⟨⟨l,-,-⟩,⟨j,-⟩,-⟩,ag⟩:=au wr aw;have s:=HG.mono S HG.lt;by_cases bz:q<m.F.length
  case pos =>
   have bY:(q:Int)<m.F.length:=cr
   have b4:(0:Int)<=q:=cr
   have g0:=(s.cell q).trans (kb1 C bz);have J:=h_ (qkw m C d q);cases aD:C q
   . rw[aD]at g0 J
     rw[Bool.false_and,Bool.or_false]at J;clear S aw l j s aD;refine rQ ?_;exact⟨q+1,cr,cy,by rw[J.u],aK⟩
   . rw[aD]at g0 J
     rw[Zb]at J;obtain⟨Y,Z,x2,x3⟩:=kah j;have bq:=h_ (bL q d wr bz aH l);clear S aw l j s aD;go_wp2_with fail;refine cQ bq λW9 bu=>?_;have a1:=mT aK bu;clear bu bq Y Z x2 x3 g0;cases Y:kdp m q d
     . rw[Y,Bool.or_false]at J
       refine rQ ?_;exact⟨q+1,cr,cy,by rw[J.u],a1⟩
     . rw[Y,Bool.or_true]at J
       refine rQ ?_;exact⟨q+1,cr,cy,by rw[J.u],a1⟩
  case neg =>
   obtain rfl:q=m.F.length:=cr
   have bY:¬ (m.F.length:Int)<(m.F.length:Int):=cr
   obtain⟨j0,bS,bW,an,ao⟩:=info_parts qqf;have Z:jdA m C d m.F.length=t d:=by rw[<- HJ.u]
   rw[Z];have aE:M<=wr.1.size:=Y6 aI S.size;obtain⟨bh,J,Y,a3,ah⟩:=oG (Blk.new wr 4 #[.bool (t d)]) (qm0 HU S) (qm0 HO S) s aw;clear S aw l j s Z aK HU HO HG HB;go_wp2_with (at_builtin;refine wpList_append_own _ rfl _ _ 94 rfl M 4 j0 _ 1 1 underlying94 bS bW an ao rfl cr _ _ _ rfl (J.alloc _) ⟨wr.1.size,0,none⟩ 1 1 [.bool (t d)] rfl rfl (λaq v x=>by rw[show(⟨wr.1.size,0,none⟩:Addr).add aq=⟨wr.1.size,aq,none⟩ by simp[Addr.add];try exact λh=>h.symm];exact(bh.cell aq).trans (by simpa using x)) cG cE cr cz ?_);intro v4 w4 bx S _;have aO:w4.ownsRow M 4 1 v4 (d+1) (ms (d+1) t):=by rw[qrt];exact bx
   obtain⟨bH,bE,av⟩:=oC ((Y.alloc _).kept S (qsl Y J cx)) ((a3.alloc (.cells #[.bool (t d)] 4)).grown S (λo=>by have:=qcp J o.symm;omega)) ((ah.alloc ag (.cells #[.bool (t d)] 4)).grown S cz (λq' o=>Y6 bO (qcp J o)));have bX:M<=w4.1.size:=Y6 cz S.size;obtain⟨a6,Z,rfl⟩:=kcg aO;have bK:=h_ aO;clear aO bx S bh J Y a3 ah;refine rQ ?_;exact⟨d+1,_,_,cr,cy,rfl,bK,bH,bE,av,bX⟩
 case neg =>
  obtain rfl:d=m.F.length:=cr
  have aU:¬ (m.F.length:Int)<(m.F.length:Int):=cr
  obtain⟨⟨⟨l,-,D⟩,⟨j,-⟩,u⟩,-⟩:=au W r;have bA:=qnv ho (by simp[kfo]) (f:=upV inp k v) λi hi=>by simp[kfo]
  have Y:=qek s;have S:=qjc hu;have q:∀d,d<m.F.length->GVx (upV inp k v d):=λd x=>by
   unfold upV;by_cases o:d=k
   . rw[Yy o];exact bJ
   . rw[Yu o];exact bI d x
  have J:Hi (kdW m inp ce k v (ceJ m (ceR ce (rdS (Frv m (upV inp k v)) (mkD m.F.length C) (cS ce) (m.F.length+1))) t)):=h_ ⟨C,t,bF,λi hi=>by rw[<- HJ.u];exact qqq m C i _,λ_ _=>rfl⟩;have HC:Hi (∀w',Bw W w'->w'.cell? ⟨w.1.size,0,none⟩=some (.slice al m.L.length ad)/\w'.cell? ⟨w.1.size,1,none⟩=some (.slice ap m.P.length ae)/\w'.cell? ⟨w.1.size,2,none⟩=some (.slice aR m.R.length aa)/\w'.cell? ⟨w.1.size,3,none⟩=some (.slice (some ⟨H,I,none⟩) m.F.length O)):=h_ λw' V=>kah (j.mono V j.lt);have ak:=h_ (bo a8 (some ⟨G9,0,none⟩) c8 m.F.length C (upV inp k v) W.drew aB q bl (l.mono (bR _ _).drew) (bA.mono (bR _ _).drew) (D.mono (bR _ _).drew) (Y.mono (bR _ _).drew));have i:=h_ λ(a5:To) (c5:Nat) e (h:Bw W e) y=>be a5 a9 c5 c9 C t (upV inp k v) e aB q bl (l.mono h) y (S.mono h);obtain⟨h,e⟩:∃z,ceR ce (rdS (Frv m (upV inp k v)) (mkD m.F.length C) (cS ce) (m.F.length+1))=z:=⟨_,rfl⟩;rw[e]at ak i J;obtain⟨N,V⟩:=oB u aA.symm;clear e l D j u bA Y S q hu ho s r bo be au;go_wp2_with fail;refine kcG (B:=W.1.size) (W0:=W) (bR _ _) λg=>?_;have hC:=HC.u;refine tkA 0 g ?_;refine tkA 1 g ?_;refine tkA 2 g ?_;refine tkA 3 g ?_;refine tkA 4 g ?_;refine tkA 6 g ?_;refine kdV (R:=λv T=>∃a c,v=.slice a m.F.length c/\kbc T a m.F.length h) 5 126 g g.size (ak.mono λo w' ⟨a,c,e,y,r⟩=>⟨_,e,⟨a,c,rfl,y⟩,r⟩) ?_;rintro aX W7 ⟨a5,c5,rfl,j⟩ aQ U;simp only[Yf,Yg];refine kdV (R:=λv T=>∃a c,v=.slice a m.F.length c/\kbc T a m.F.length (ceJ m h t)) 7 128 U U.size ((i a5 c5 W7 U j).mono λo w' ⟨a,c,e,y,r⟩=>⟨_,e,⟨a,c,rfl,y⟩,r⟩) ?_;rintro aX W8 ⟨a6,Z,rfl,ay⟩ ax e;simp only[Yf,Yg];replace g:=e;refine tkA 8 g ?_;refine wdQ ?_;have K:=h_ (qse (c:=Z) V J ay (N.trans (e.mono N.size)));clear hC g U e j ay aQ ax;go_wp2;exact bodyPost_ret (v:=.slice a6 m.F.length Z) cM rfl K
