import Derived.Test.YtenckgnkjkijnaaGreatDoorW45
import Derived.Test.YtenckgnkjkijnaaGreatDoorW46
import Derived.Test.YtenckgnkjkijnaaGreatDoorW43
set_option linter.all false
set_option maxRecDepth 100000
set_option maxHeartbeats 0
namespace Go.Proofs.YtenckgnkjkijnaaGreatDoor
section
open Go Go.RowKit Go.Shelf Go.Proofs.Tryz
attribute [local go_sem] Oper.semAt_some
def qlp {m:Fm}{D:List Nat}{x:Nat}(a:nxt m D=some x):kbL m x x=false:=by grind[kdP,kbL,nxt]
section
variable {P:ShP} {e:Nat->Cx} {iv:Nat->Vx}
def kcC.clc (a:kcC P e)(hi:∀b,b<P.m.F.length->GVx (iv b)){k:Nat}(c:k<P.m.F.length):kcC P (kdD P.m iv e k) :=
 a.up (kfB c (λf d=>(q7y _ _ _).1 (a.v.fi f d)) a.fit (hi k c) λb d=>a.g b d)
structure kgZ (P:ShP)(lo:Nat):Prop where
 d:P.WD.1.size<=lo
 b:∀j,j<P.m.F.length->P.Bs j<lo
 s:P.Sh<lo
 r:∀q,P.u.ownBlock=some q->q<lo
 p:P.pl<lo
def ShI.low {W:Tw}(a:ShI P e iv W):kgZ P W.1.size:=⟨a.base.size,a.pos,a.blk.lt,λb e=>(a.row.lt b e).2,qcc a.plm⟩
def kgZ.mono {lo n:Nat}(a:kgZ P lo)(c:lo<=n):kgZ P n:=⟨Y6 a.d c,λg f=>Yr (a.b g f) c,Yr a.s c,λf e=>Yr (a.r f e) c,Yr a.p c⟩
def Tch.blk {W W':Tw}(c:Tch P W W'){g lo:Nat}(f:kgZ P lo)(i:lo<=g){t:TypeId}{cs:Tl}(a:Blk W g t cs):Blk W' g t cs:=(c.block g a.lt λh d e=>by have:=f.b h d;omega).trans a
end
end
section
open Go Go.RowKit Go.Proofs.Tryz
def qm1 {w:Tw}{base k n i:Nat}{t:TypeId}{v:Value}{x:Tl}(a:w.ownsRow base t i v n x)(h:k<=base):w.ownsRow k t i v n x:=by refine⟨a.1,?_⟩;rcases a.2 with g | ⟨d,b,c,e,f,j⟩;{exact .inl g};exact .inr ⟨d,b,c,e,Y6 h f,j⟩
def qja {a b:Nat}{w U W:Tw}(c:Below a w W)(d:Below b U W)(h:a<=b)(g:w.1.size<=U.1.size):Below a w U :=
 ⟨d.os.symm.trans c.os,d.tape.symm.trans c.tape,d.output.symm.trans c.output,g,λe f=>(d.block e cr).symm.trans (c.block e f)⟩
structure kii (m:Fm)(A:MA)(X:Nat)(cs:Tl)(a:To)(L:Nat)(e:Nat->Vx)(a0:To)(l:Nat)(g:Nat->Cx)(W:Tw):Prop where
 k:Blk W X 27 cs
 s:MSl W m A
 c:kaH W a L e
 t:kbW W
 y:TyW W
 b:Tab W
 p:kbc W a0 l g
 g:kcx W
def kii.mono {m:Fm}{A:MA}{X L l:Nat}{cs:Tl}{a f:To}{h:Nat->Vx}{g:Nat->Cx}{W W':Tw}(d:kii m A X cs a L h f l g W)(e:Below W.1.size W W'):kii m A X cs a L h f l g W':=⟨d.k.mono e d.k.lt,d.s.mono e,d.c.mono e,d.t.mono e,d.y.mono e,d.b.mono e,d.p.mono e,d.g.mono e⟩
def q51 {w:Tw}{B n:Nat}{v:Value}{g:Nat->Cx}(c:w.ownsRow B 75 6 v n (cx6 g n)):∃a d,v=.slice a n d/\kbc w a n g/\(0<n->∃b e,a=some ⟨b,0,none⟩/\B<=b/\n*6<=e/\Bk w b 75 e):=by obtain⟨a,d,rfl⟩:=kcg c;refine⟨a,d,rfl,qow c,λp=>?_⟩;rcases c.2 with ⟨-,l⟩ | ⟨b,k,e,f,h,i,m,o,q,j⟩;{omega};simp only[Value.slice.injEq,true_and]at f;exact⟨b,e.size,f.1,h,by have:=c.1;rw[<- j,Zf]at this;simp at this;omega,⟨e.toList,by simpa [Blk] using i,cw⟩⟩
def qox {m:Fm}{n:Nat}{F:Nat->Bool}{a:Int}(b:kda m n F 0 a):(kak m m.F.length).length=m.F.length:=by rcases b with ⟨e,-,-,b,-⟩ | ⟨b,-⟩;{exact absurd b cx};rcases b with ⟨-,b⟩ | ⟨d,-,c,-⟩;{exact qlv b};omega
def st6 (W:Tw)(B:Nat)(c:Cx):Tw:=(((((W.setCell ⟨B,0,none⟩ (.int .i64 c.v.k)).setCell ⟨B,1,none⟩ (.int .i64 c.v.n)).setCell ⟨B,2,none⟩ (.string c.v.s)).setCell ⟨B,3,none⟩ (.bool c.rel)).setCell ⟨B,4,none⟩ (.bool c.ok)).setCell ⟨B,5,none⟩ (.bool c.must)
def qn5 {W:Tw}{B n:Nat}(c:Cx)(a:n≠B):(st6 W B c).heap[n]? = W.heap[n]?:=by unfold st6;rw[heap_setCell_other _ _ _ _ a,heap_setCell_other _ _ _ _ a,heap_setCell_other _ _ _ _ a,heap_setCell_other _ _ _ _ a,heap_setCell_other _ _ _ _ a,heap_setCell_other _ _ _ _ a]
def ShI.st6 {P:ShP}{f:Nat->Cx}{e:Nat->Vx}{W:Tw}(b:ShI P f e W){k:Nat}(g:k<P.m.F.length)(c:Cx):ShI P (λd=>if d=k then c else f d) e (st6 W (P.Bs k) c):=by have a:=b.bx k g;have h:=(((((a.2.set 0 (Yb c.v.k)).set 1 (Yb c.v.n)).set 2 (.string c.v.s)).set 3 (.bool c.rel)).set 4 (.bool c.ok)).set 5 (.bool c.must);refine(b.turn g c (e k) (W':=Go.Proofs.YtenckgnkjkijnaaGreatDoor.st6 W (P.Bs k) c) ?_ (λi i=>qn5 c i) h).congr (λ_ _=>rfl) λd _=>?_;{exact(((((b.base.setCell (p:=⟨P.Bs k,0,none⟩) a.1 _).setCell (p:=⟨P.Bs k,1,none⟩) a.1 _).setCell (p:=⟨P.Bs k,2,none⟩) a.1 _).setCell (p:=⟨P.Bs k,3,none⟩) a.1 _).setCell (p:=⟨P.Bs k,4,none⟩) a.1 _).setCell (p:=⟨P.Bs k,5,none⟩) a.1 _};by_cases b:d=k <;> simp[b]
def khE (p:To)(w:Tw):Calls prog 397 #[.pointer p] w λb a=>b=.returned (.pointer p)/\a=w:=by go_enter func397,ntmps397;go_wp2_with fail;go_ret;exact⟨rfl,rfl⟩
def q4m (P:ShP)(t g:Nat->Cx)(x:Nat->Vx)(a:To)(L c:Nat)(w:Tw)(al:P.m.F.length<=200)(l:∀b,b<L->(g b).v.s.size<=9223372036854775807)(o:kbc P.WD a L g)(e:ShI P t x w) :
 Calls prog 58 #[Ye P.Sh 0,.slice a L c] w λd k=>d=.returned (.bool (kaK P.m L g))/\(∃d,ShI P d x k)/\(kaK P.m L g=true->ShI P g x k):=by
 obtain⟨ua,A,h⟩:=e.slice;obtain⟨p,HV,HS⟩:=oC e o l;have s:w.cell? ⟨P.Sh,12,none⟩=some (.slice ua P.m.F.length A):=by rw[<- h];exact e.blk.cell 12
 have HU:=h_ h;clear e o l h;by_cases d:L=P.m.F.length
 case neg =>
  have q:((L:Int) != (P.m.F.length:Int))=true:=by simp;omega
  have j:Hi (kaK P.m L g=false):=h_ (qew d);rw[j.u];clear j;go_enter func58,ntmps58;go_wp2_with fail;go_ret;exact⟨rfl,⟨_,p⟩,by first | trivial | (intro j;cases j)⟩
 case pos =>
 have W:=h_ d;have q:((L:Int) != (P.m.F.length:Int))=false:=by simp[d]
 have ai:L<=200:=cr
 have X:Hi (∀b,b<L->kae (g b).v.k (g b).v.n (g b).v.s=false->kaK P.m L g=false):=h_ λb hk j=>qao hk j;have Y:Hi ((∀b,b<L->kae (g b).v.k (g b).v.n (g b).v.s=true)->kaK P.m L g=true):=h_ λj=>by rw[d]at j⊢;exact qan j
 obtain⟨aa,r⟩:=Nq (kaK P.m L g);rw[r]at X Y⊢;clear d r;go_enter func58,ntmps58;go_wp2_with fail;clear s q;go_loopw [17] (λq wr=>∃b:Nat,b<=L/\q=Yb b/\(∀d,d<b->kae (g d).v.k (g d).v.n (g d).v.s=true)/\ShI P (λd=>if d<b then g d else t d) x wr) (λq _=>L - (intOf q).toNat)
 case atStart=>exact⟨0,nZ _,rfl,λd j=>absurd j (nL _),p.congr (λd _=>by simp) λ_ _=>rfl⟩
 case round =>
 clear p;obtain⟨b,hk,rfl,p,e⟩:=hrel;obtain⟨V,G⟩:=oB p e;clear p e;by_cases T:b<L
 case pos =>
  have af:(b:Int)<L:=cr
  have B:b<P.m.F.length:=by have:=W.u;omega
  have ak:(b:Int)<P.m.F.length:=cr
  have aj:(0:Int)<=b:=cr
  obtain⟨ah,am,rfl,Z⟩:=HV.mono G.base b T;have s:=HS b T;obtain⟨e,l⟩:=Nq (g b);rw[l]at Z s;obtain⟨-,I,c1,c2,c3,c4,J⟩:=Z;have E:=h_ l;have p:=Blk.new wr 75 (Jn e.v.k e.v.n e.v.s e.rel e.ok e.must);have r:=(bR wr.1.size wr).alloc (nR _) (.cells (Jn e.v.k e.v.n e.v.s e.rel e.ok e.must) 75);obtain⟨W6,q⟩:=Nq (wr.alloc (.cells (Jn e.v.k e.v.n e.v.s e.rel e.ok e.must) 75));rw[q]at p r;obtain⟨C,D⟩:=oB (G.mono r) p;obtain⟨K,M,N,O,Q,U⟩:=(kcr p).1;have y:=h_ (q2d e.v.k e.v.n e.v.s W6 s);clear r l s p;go_wp2_with fail
  try rw[q]
  refine cQ y λz v=>?_;have p:=h_ (C.mono v);have H:=mB D v;clear v q I c1 c2 c3 c4 J K M N O Q U y C D;cases q:kae e.v.k e.v.n e.v.s
  . obtain rfl:aa=false:=X b T (by rw[E.u];exact q)
    clear q;go_wp2_with fail;go_ret
    first | exact⟨rfl,⟨_,p⟩⟩ | exact⟨rfl,⟨_,p⟩,λj=>by cases j⟩
  . have U:Hi (∀d,d<b+1->kae (g d).v.k (g d).v.n (g d).v.s=true):=h_ λd hj=>by
     by_cases l:d=b
     . rw[l,E.u];exact q
     . exact V d cr
    clear q;obtain⟨C,cq,h,s,ag⟩:=p.at B;obtain⟨rfl,rfl⟩:ua=some ⟨C,0,none⟩/\A=cq:=(by have:=HU.symm.trans h;simpa using this);have ad:Hi (∀d,d<P.m.F.length->(λd=>if d=b then e else if d<b then g d else t d) d=(λd=>if d<b+1 then g d else t d) d):=h_ λd _=>by
     by_cases l:d=b
     . subst l;simp[E.u]
     . simp only[Yu l]
       by_cases q:d<b
       . rw[Yy q,Yy cr]
       . rw[Yu q,Yu cr]
    have D:=h_ (p.bx b B);have r:wr.1.size≠P.Bs b:=Ne.symm (kc7 D.2 H (by cases ka8 (fAt P.m b) <;> decide));have ae:P.Sh≠P.Bs b:=Ne.symm (kc7 D.2 p.blk (kcl _).2);have q:z.cell? ⟨P.Sh,12,none⟩=some (.slice (some ⟨C,0,none⟩) P.m.F.length A):=(by rw[<- h];exact p.blk.cell 12);have y:=h_ (p.mono (bR z.1.size z).drew);clear h;go_wp2_with fail;refine wp_region_held_drew (S:=λk=>k.cell? ⟨P.Sh,12,none⟩=some (.slice (some ⟨C,0,none⟩) P.m.F.length A)/\k.cell? ⟨C,b,none⟩=some (ifV (ka8 (fAt P.m b)) (P.Bs b))/\k.cell? ⟨wr.1.size,0,none⟩=some (Yb e.v.k)/\k.cell? ⟨wr.1.size,1,none⟩=some (Yb e.v.n)/\k.cell? ⟨wr.1.size,2,none⟩=some (.string e.v.s)/\k.cell? ⟨wr.1.size,3,none⟩=some (.bool e.rel)/\k.cell? ⟨wr.1.size,4,none⟩=some (.bool e.ok)/\k.cell? ⟨wr.1.size,5,none⟩=some (.bool e.must)) cu ⟨q,s,(kcr H).1⟩ (λh=>?_);refine tkA 0 h ?_;refine tkA 1 h ?_;refine tkA 2 h ?_;refine tkA 3 h ?_;refine tkA 4 h ?_;refine tkA 5 h ?_;refine tkA 6 h ?_;refine tkA 8 h ?_;obtain⟨l,o⟩:=Nq z.drew;rw[o]at y h⊢;clear o q s;refine kat (i:=7) (f:=397) (args:=#[.pointer (some ⟨P.Bs b,0,none⟩)]) (R:=λac o=>ac=.pointer (some ⟨P.Bs b,0,none⟩)/\o=l) 33 rfl rfl cH cu ?hrun1 ((khE _ _).mono λg q ⟨o,v⟩=>⟨_,o,rfl,v⟩) ?_
    case hrun1=>simp[execOp,go_sem,ifV,qqb]
    rintro ac W8 ⟨rfl,o⟩;rw[o];clear o;refine⟨h,?_⟩;refine kaT ct ct ?_;refine tkA 9 h ?_;refine tkA 10 h ?_;have q:=h_ ((y.st6 B e).congr ad λ_ _=>rfl);have o:∀s:Addr,s.block≠P.Bs b->(Go.Proofs.YtenckgnkjkijnaaGreatDoor.st6 l (P.Bs b) e).cell? s=l.cell? s:=λs j=>by simp only[World.cell?,qn5 e j]
    refine kaV (i:=11) (w':=Go.Proofs.YtenckgnkjkijnaaGreatDoor.st6 l (P.Bs b) e) rfl cH cu rfl ?hrunS rfl ?hS8 ?_
    case hS8 =>
     obtain⟨K,M,N,O,Q,j,s,g8⟩:=h;exact⟨(o _ ae).trans K,(o _ ag).trans M,(o _ r).trans N,(o _ r).trans O,(o _ r).trans Q,(o _ r).trans j,(o _ r).trans s,(o _ r).trans g8⟩
    case hrunS =>
     have j:=(y.bx b B).2;generalize (if b<b then g b else t b)=s at j;have g0:=j.free 0;have K:=j.free 1;have M:=j.free 2;have N:=j.free 3;have O:=j.free 4;have Q:=j.free 5;have I:l.cell? ⟨P.Bs b,0,none⟩=some (Yb s.v.k):=(j.cell 0).trans rfl;have c1:l.cell? ⟨P.Bs b,1,none⟩=some (Yb s.v.n):=(j.cell 1).trans rfl;have c2:l.cell? ⟨P.Bs b,2,none⟩=some (.string s.v.s):=(j.cell 2).trans rfl;have c3:l.cell? ⟨P.Bs b,3,none⟩=some (.bool s.rel):=(j.cell 3).trans rfl;have c4:l.cell? ⟨P.Bs b,4,none⟩=some (.bool s.ok):=(j.cell 4).trans rfl;have J:l.cell? ⟨P.Bs b,5,none⟩=some (.bool s.must):=(j.cell 5).trans rfl;unfold Go.Proofs.YtenckgnkjkijnaaGreatDoor.st6;simp[execOp,go_sem,g0,K,M,N,O,Q,I,c1,c2,c3,c4,J]
    refine wdQ ?_;clear h o y p H D;go_wp2_with fail;go_roundw
    case rel=>first | exact⟨b+1,cr,cy,U,q⟩ | ((repeat apply Exists.intro);exact⟨⟨b+1,cr,cy,U,q⟩,rfl⟩)
    case measure=>simp[intOf];omega
 case neg =>
  obtain rfl:L=b:=cr
  have af:¬ ((L:Nat):Int)<((L:Nat):Int):=cr
  obtain rfl:aa=true:=Y V;have q:Hi (ShI P g x wr):=h_ (G.congr (λd hj=>by rw[Yy (by rw[W.u];exact hj)]) λ_ _=>rfl);go_wp2_with fail;go_ret;exact⟨rfl,⟨_,q⟩,by first | exact q | exact λ_=>q⟩
