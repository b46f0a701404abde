import Derived.Test.YtdlnflnfbcaiiaaGreatDoorW24
import Derived.Test.YtdlnflnfbcaiiaaGreatDoorW09
import Derived.Test.YtdlnflnfbcaiiaaGreatDoorW26
import Derived.Great.BuildSlice
set_option linter.all false
set_option maxRecDepth 100000
set_option maxHeartbeats 0
namespace Go.Proofs.YtdlnflnfbcaiiaaGreatDoor
open Value renaming slice->Sl,string->St
open Obj renaming cells->Cl
open Option renaming none->Nn,some->Sm
open Go Go.RowKit Go.Proofs.Tryz
variable {w W:Tw}{n k i j p q:Nat}{v u:Value}{x:Tl}{s:Tb}
def mI (u v:Value):Prop:=∀q,u.ownBlock=Sm q->v.ownBlock≠Sm q
def mI.symm (h:mI u v):mI v u:=λq m r=>h q r m
structure R6 (K:Int->List Tb)(w:Tw)(base:Nat)(v1 v2 v3:Value):Prop where
 r1:XA w base v1 (K 1)
 r2:XA w base v2 (K 2)
 r3:XA w base v3 (K 3)
 a12:mI v1 v2
 a13:mI v1 v3
 a23:mI v2 v3
structure wD (v1 v2 v3:Value)(w w':Tw):Prop where
 os:w'.os=w.os
 tape:w'.tape=w.tape
 output:w'.output=w.output
 size:w.1.size<=w'.1.size
 block:∀q,q<w.1.size->v1.ownBlock≠Sm q->v2.ownBlock≠Sm q->v3.ownBlock≠Sm q->w'.heap[q]? = w.heap[q]?
def DH (K:Int->List Tb)(kind:Int)(x:Tb):Int->List Tb:=λi=>if i=kind then K i++[x] else K i
def R6.keep {K w' base Y}(h:R6 K w base v u Y)(c:Bw w w'):R6 K w' base v u Y:=⟨h.r1.keep c,h.r2.keep c,h.r3.keep c,h.a12,h.a13,h.a23⟩
def mJ {w':Tw}{base e}(h:w.ownsRow base e k v n x)(a:∀q,v.ownBlock=Sm q->w'.heap[q]? = w.heap[q]?):w'.ownsRow base e k v n x:=by refine⟨h.1,?_⟩;rcases h.2 with r|⟨g,N,b,m,c,H,d⟩;{exact .inl r};exact .inr ⟨g,N,b,m,c,(a g gI).trans H,d⟩
def TE {base e}(h:w.ownsRow base e k v n x)(J:v.ownBlock=Sm q):q<w.1.size:=by rcases h.2 with ⟨e,-⟩|⟨g,N,b,e,-,H,-⟩;{rw[e]at J;cases J};rw[e]at J;have:g=q:=(by simpa [Value.ownBlock] using J);subst this;exact(Yt.1 H).1
def qdp {Y rest o a Q}(E:o.guard=.none)(s x)
 (T:o.op=.call { callee:=.builtin .append,args:=#[s,x],argTypes:=#[23,23] }) {base v l} (B:a.eval s=v) (e:XA w base v l)
 {g n} (u:a.eval x=Sl (Sm (Aq g 0)) 1 1) (N:m0 w g 9 [St n]) (b:l.length+1<=2097152) (z:base<=w.1.size)
 (h:∀t j,XA j base t (l++[n])->w.grownBy j v.ownBlock->(t.ownBlock=v.ownBlock\/t.ownBlock=Sm w.1.size)->wpList prog Y Q rest (a.put o.dst t) j):wpList prog Y Q (o :: rest) a w :=
 yJ TH E T B e u N z λt j m r _ Z=>h t j (by simpa [XA,Q3] using m) r Z
structure zP (w:Tw)(base:Nat)(v u:Value)(L:List Tb)(w':Tw):Prop where
 own:XA w' base u L
 at_:∀q,u.ownBlock=Sm q->q<w.1.size/\v.ownBlock=Sm q\/w.1.size<=q
 os:w'.os=w.os
 tape:w'.tape=w.tape
 output:w'.output=w.output
 size:w.1.size<=w'.1.size
 block:∀q,q<w.1.size->v.ownBlock≠Sm q->w'.heap[q]? = w.heap[q]?
def qg4 (k)(u:k=0\/k=1\/k=2)(L x w base)(s:Nat->To)(n c:Nat->Nat)(E:L.length<=100000)(h:XA w base (Sl (s k) (n k) (c k)) L)(r:base<=w.1.size):Calls prog 80 #[.agg (Jr (s 0) (n 0) (c 0) (s 1) (n 1) (c 1) (s 2) (n 2) (c 2)),Ye (k+1:Nat),St x] w λe j=>∃us O P,e=.returned (.agg ([Sl (s 0) (n 0) (c 0),Sl (s 1) (n 1) (c 1),Sl (s 2) (n 2) (c 2)].set k (Sl us O P)).toArray)/\zP w base (Sl (s k) (n k) (c k)) (Sl us O P) (L++[x]) j:=by have m:=((bR w.1.size w).alloc (nR _) (Cl (Jr (s 0) (n 0) (c 0) (s 1) (n 1) (c 1) (s 2) (n 2) (c 2)) 153)).alloc fT (Cl Jz 153);have b:=(m0.new w 153 (Jr (s 0) (n 0) (c 0) (s 1) (n 1) (c 1) (s 2) (n 2) (c 2))).alloc (Cl Jz 153);have g:=m0.new (w.alloc (Cl (Jr (s 0) (n 0) (c 0) (s 1) (n 1) (c 1) (s 2) (n 2) (c 2)) 153)) 153 Jz;rw[Y4]at g;obtain⟨d,f⟩:=Nq ((w.alloc (Cl (Jr (s 0) (n 0) (c 0) (s 1) (n 1) (c 1) (s 2) (n 2) (c 2)) 153)).alloc (Cl Jz 153));have i:d.1.size=w.1.size+1+1:=(by rw[<- f];simp);rw[f]at m b g;have C:=h_ (m0.new d 9 #[St x]);have G:=(bR d.1.size d).alloc (nR _) (Cl #[St x] 9);have y:=m.trans (G.mono m.size);obtain⟨R,l⟩:=oB (h.keep y) (Yu r y.size);have o:Hi (∀us O P I,XA I base (Sl us O P) (L++[x])->(d.alloc (Cl #[St x] 9)).grownBy I (Value.ownBlock (Sl (s k) (n k) (c k)))->(Value.ownBlock (Sl us O P)=Value.ownBlock (Sl (s k) (n k) (c k))\/Value.ownBlock (Sl us O P)=Sm (d.alloc (Cl #[St x] 9)).1.size)->((∃z,I.cell? (zw w k)=Sm z)/\I.frozen? (zw w k)=false)/\m0 (I.setCell (zw w k) (Sl us O P)) w.1.size 153 ([Sl (s 0) (n 0) (c 0),Sl (s 1) (n 1) (c 1),Sl (s 2) (n 2) (c 2)].set k (Sl us O P))/\m0 (I.setCell (zw w k) (Sl us O P)) (w.1.size+1) 153 [Yf,Yf,Yf]/\m0 ((I.setCell (zw w k) (Sl us O P)).setRow (w.1.size+1) ([Sl (s 0) (n 0) (c 0),Sl (s 1) (n 1) (c 1),Sl (s 2) (n 2) (c 2)].set k (Sl us O P)).toArray) (w.1.size+1) 153 ([Sl (s 0) (n 0) (c 0),Sl (s 1) (n 1) (c 1),Sl (s 2) (n 2) (c 2)].set k (Sl us O P))/\zP w base (Sl (s k) (n k) (c k)) (Sl us O P) (L++[x]) ((I.setCell (zw w k) (Sl us O P)).setRow (w.1.size+1) ([Sl (s 0) (n 0) (c 0),Sl (s 1) (n 1) (c 1),Sl (s 2) (n 2) (c 2)].set k (Sl us O P)).toArray)):=h_ λus O P I V A B=>(by have M:∀q,w.1.size<=q->Sm q≠Value.ownBlock (Sl (s k) (n k) (c k)):=λq J e=>(Fq (TE h e.symm));have Z:(d.alloc (Cl #[St x] 9)).1.size=w.1.size+3:=(by simp[i]);rw[Z]at B;have X:=A.size;rw[Z]at X;have t:∀q,Value.ownBlock (Sl us O P)=Sm q->q<w.1.size/\Value.ownBlock (Sl (s k) (n k) (c k))=Sm q\/q=w.1.size+3:=λq e=>(by rcases B with W|W;{rw[W]at e;exact .inl ⟨TE h e,e⟩};rw[W]at e;have:=Z7 e;exact .inr fP);have v:∀q,q≠w.1.size->q≠w.1.size+1->((I.setCell (zw w k) (Sl us O P)).setRow (w.1.size+1) ([Sl (s 0) (n 0) (c 0),Sl (s 1) (n 1) (c 1),Sl (s 2) (n 2) (c 2)].set k (Sl us O P)).toArray).heap[q]? = I.heap[q]?:=λq D j=>(setRow_other _ _ _ _ j).trans (heap_setCell_other _ _ _ _ D);have j:m0 I w.1.size 153 _:=(A.block _ fP (M _ (nR _))).trans (b.mono G b.lt);have p:=m0.other ((A.block _ fP (M _ (Vg _))).trans (g.mono G g.lt)) (a:=Aq w.1.size k) (Sl us O P) (show w.1.size+1≠w.1.size by omega);refine⟨⟨by rcases u with rfl|rfl|rfl <;> exact⟨_,j.cell _⟩,j.free k⟩,j.set k _,p,p.row _,mJ V λq e=>v q (Fq (t q e)) (Fq (t q e)),λq e=>(t q e).imp id fP,A.os.trans y.os,A.tape.trans y.tape,A.output.trans y.output,by simp[World.setRow];omega,λq J e=>(v q fP fP).trans ((A.block q fP λQ=>e Q.symm).trans (y.block q J))⟩);rw[i]at C;obtain⟨e,j,D⟩:=T0 b;clear m b g G y h r;rcases u with rfl|rfl|rfl;all_goals ( go_enter func80,ntmps80;go_wp2_with (at_builtin;(try rw[f]);refine qdp (n:=x) rfl _ _ rfl rfl R rfl C fP l ?_);intro p I V A B;obtain⟨us,P,rfl,-,-⟩:=id V.strs;generalize (L++[x]).length=O at *;obtain⟨⟨⟨z,Y⟩,m⟩,b,g,G,U⟩:=o us O P I V A (by rw[Y4,i];exact B);simp only[Yi,Yj]at b G U|-;have h:=h_ U;have v:=h_ g;have M:=h_ G;clear o R l C V A B f i e j D U g G;obtain⟨e,j,D⟩:=T0 b;clear b;go_wp2_with (refine wpList_store_row rfl 153 (.tmp 6) (.tmp 29) rfl (w.1.size+1) _ rfl rfl 153 Jz v fR rfl fZ ?_);clear e j D Y m;obtain⟨B,b,e⟩:=T0 M;exact bodyPost_ret (by simp[results,results80,go_sem, *]) rfl ⟨_,_,_,rfl,h⟩)
def zP.keep {w' base y L M}(h:zP w base v u L w')(T:XA w base y M)(a:mI v y):XA w' base y M/\mI u y :=
 ⟨mJ T λq e=>h.block q (TE T e) λQ=>a q Q e,λq Z K=>by
  rcases h.at_ q Z with ⟨-,e⟩|J
  . exact a q e K
  . have:=TE T K;omega⟩
def Xa {K B n}(t)(r:t=1\/t=2\/t=3)(x)(b:∀i,(K i).length<=100000)(h:R6 K W B v u n)(c:B<=W.1.size):Calls prog 80 #[.agg #[v,u,n],Ye t,St x] W λe j=>∃J o g,e=.returned (.agg #[J,o,g])/\R6 (DH K t x) j B J o g/\wD v u n W j:=by obtain⟨g,f,rfl,-,-⟩:=id h.r1.strs;obtain⟨X,d,rfl,-,-⟩:=id h.r2.strs;obtain⟨k,T,rfl,-,-⟩:=id h.r3.strs;have N:=λi C L=>qg4 i C L x W B (fun|0=>g|1=>X|_=>k) (fun|0=>(K 1).length|1=>(K 2).length|_=>(K 3).length) (fun|0=>f|1=>d|_=>T);rcases r with rfl|rfl|rfl;{refine(N 0 (.inl rfl) (K 1) (b 1) h.r1 c).mono ?_;rintro e j ⟨us,O,P,rfl,a⟩;exact⟨_,_,_,rfl,⟨by simpa [DH] using a.own,(a.keep h.r2 h.a12).1,(a.keep h.r3 h.a13).1,(a.keep h.r2 h.a12).2,(a.keep h.r3 h.a13).2,h.a23⟩,a.os,a.tape,a.output,a.size,λq J m _ _=>a.block q J m⟩};{refine(N 1 (.inr (.inl rfl)) (K 2) (b 2) h.r2 c).mono ?_;rintro e j ⟨us,O,P,rfl,a⟩;exact⟨_,_,_,rfl,⟨(a.keep h.r1 h.a12.symm).1,by simpa [DH] using a.own,(a.keep h.r3 h.a23).1,(a.keep h.r1 h.a12.symm).2.symm,h.a13,(a.keep h.r3 h.a23).2⟩,a.os,a.tape,a.output,a.size,λq J _ m _=>a.block q J m⟩};refine(N 2 (.inr (.inr rfl)) (K 3) (b 3) h.r3 c).mono ?_;rintro e j ⟨us,O,P,rfl,a⟩;exact⟨_,_,_,rfl,⟨(a.keep h.r1 h.a13.symm).1,(a.keep h.r2 h.a23.symm).1,by simpa [DH] using a.own,h.a12,(a.keep h.r1 h.a13.symm).2.symm,(a.keep h.r2 h.a23.symm).2.symm⟩,a.os,a.tape,a.output,a.size,λq J _ _ m=>a.block q J m⟩
def q9w {Y rest o a Q}(E:o.guard=.none)(s x)
 (T:o.op=.call { callee:=.builtin .append,args:=#[s,x],argTypes:=#[54,54] }) {base v l} (B:a.eval s=v) (e:A5 w base v l)
 {g n m} (u:a.eval x=Sl (Sm (Aq g 0)) 2 2) (N:m0 w g 96 (nC n++nC m)) (c:l.length+2<=2097152) (z:base<=w.1.size)
 (h:∀t j,A5 j base t (l++[n,m])->Below base w j->wpList prog Y Q rest (a.put o.dst t) j):wpList prog Y Q (o :: rest) a w :=
 yJ Wh E T B e u N z (h1:=by simp[nC,Value.oneCell']) λt j b _ Z _=>h t j (by simpa [A5,Hf,nA] using b) Z
def v7 (p:Nat->Prop)(n:Nat)(z:Int):Prop:=(z = -1/\∀k,k<n->¬ p k)\/∃k:Nat,k<n/\z=k/\p k/\∀j,j<k->¬ p j
def v7.one {p z H}(h:v7 p n z)(W:v7 p n H):z=H:=by grind[v7]
def v7.iff {p q z}(h:v7 p n z)(e:∀k,k<n->(p k ↔ q k)):v7 q n z:=by grind[v7]
def v7.bounds {p z}(h:v7 p n z):-1<=z/\z<n:=by grind[v7]
def v7.ex (p:Nat->Prop):∀n,∃z,v7 p n z|0=>⟨-1,.inl ⟨rfl,λ_ h=>absurd h (nL _)⟩⟩|n+1=>by obtain⟨z,g⟩:=v7.ex p n;rcases g with ⟨e,h⟩|⟨k,a,e,m,r⟩;{by_cases P:p n;{exact⟨n,.inr ⟨n,fP,rfl,P,h⟩⟩};exact⟨-1,.inl ⟨rfl,λk a=>by by_cases e:k=n;{subst e;exact P};exact h k fP⟩⟩};exact⟨z,.inr ⟨k,fP,e,m,r⟩⟩
def KT (w:Tw)(b o:Nat)(v0 v1:Value):Prop:=b<w.1.size/\w.cell? (Aq b o)=Sm v0/\w.cell? (Aq b (o+1))=Sm v1
def KT.mono {w' b o}(h:KT w b o v u)(c:Below w.1.size w w'):KT w' b o v u:=⟨Yw h.1 c.size,(c.cell h.1).trans h.2.1,(c.cell h.1).trans h.2.2⟩
def SN {w' G e}(h:BB w (Sm (Aq G 0)) n e)(b:w'.heap[G]? = w.heap[G]?)(g:w'.1.size=w.1.size):BB w' (Sm (Aq G 0)) n e:=λk O=>by obtain⟨f,o,Z,D,m,r,c,K,d⟩:=h k O;cases Z;exact⟨G,0,rfl,by rw[g];exact D,(World.cell?_of_block (a:=(Aq G (0+k*5))) b).trans m,(World.cell?_of_block (a:=(Aq G (0+k*5+1))) b).trans r,(World.cell?_of_block (a:=(Aq G (0+k*5+2))) b).trans c,(World.cell?_of_block (a:=(Aq G (0+k*5+3))) b).trans K,(World.cell?_of_block (a:=(Aq G (0+k*5+4))) b).trans d⟩
def Ad {w' G e}(h:G5 w (Sm (Aq G 0)) n e)(b:w'.heap[G]? = w.heap[G]?)(g:w'.1.size=w.1.size):G5 w' (Sm (Aq G 0)) n e:=λk O=>by obtain⟨c,o,Z,D,m⟩:=h k O;cases Z;exact⟨G,0,rfl,by rw[g];exact D,(World.cell?_of_block (a:=(Aq G (0+k))) b).trans m⟩
def BB.other {G R e}(h:BB w (Sm (Aq G 0)) n e)(g:G≠R)(j v):BB (w.setCell (Aq R j) v) (Sm (Aq G 0)) n e:=SN h (heap_setCell_other w (Aq R j) G v g) fT
def G5.other {G R e}(h:G5 w (Sm (Aq G 0)) n e)(g:G≠R)(j v):G5 (w.setCell (Aq R j) v) (Sm (Aq G 0)) n e:=Ad h (heap_setCell_other w (Aq R j) G v g) fT
def FarA (N:Nat)(A:FA):Prop:=∃g1 g2 g3 g4 g5:Nat,A.b=Sm (Aq g1 0)/\A.i=Sm (Aq g2 0)/\A.h=Sm (Aq g3 0)/\A.v=Sm (Aq g4 0)/\A.u=Sm (Aq g5 0)/\N<=g1/\N<=g2/\N<=g3/\N<=g4/\N<=g5
def GB.keep {w' f A N}(e:GB w f A)(i:FarA N A)(k:∀G,N<=G->w'.heap[G]? = w.heap[G]?)(g:w'.1.size=w.1.size):GB w' f A:=by obtain⟨q,s,x,t,u,a,b,c,p,d,n,j,l,o,C⟩:=i;obtain⟨m,r,Z,K,h⟩:=e;unfold AB at m;unfold Q7 at r Z K h;rw[a]at m;rw[b]at r;rw[c]at Z;rw[p]at K;rw[d]at h;refine⟨?_,?_,?_,?_,?_⟩;{unfold AB;rw[a];exact Ad m (k _ n) g};{unfold Q7;rw[b];exact SN r (k _ j) g};{unfold Q7;rw[c];exact SN Z (k _ l) g};{unfold Q7;rw[p];exact SN K (k _ o) g};unfold Q7;rw[d];exact SN h (k _ C) g
def xS (N:Nat)(w:Tw)(f:Fl)(A:FA):Prop:=∃g1 g2 g3 g4 g5:Nat,A.b=Sm (Aq g1 0)/\A.i=Sm (Aq g2 0)/\A.h=Sm (Aq g3 0)/\A.v=Sm (Aq g4 0)/\A.u=Sm (Aq g5 0)/\(N<=g1/\N<=g2/\N<=g3/\N<=g4/\N<=g5)/\Bk w g1 3 f.bys.length/\Bk w g2 96 (f.is.length*5)/\Bk w g3 96 (f.wh.length*5)/\Bk w g4 96 (f.va.length*5)/\Bk w g5 96 (f.mu.length*5)
def xS.keep {N w' f A}(m:xS N w f A)(k:∀G,N<=G->G<w.1.size->w'.heap[G]? = w.heap[G]?):xS N w' f A:=by obtain⟨g,h,x,i,l,b,c,d,p,e,⟨n,j,Z,a,C⟩,z,q,K,P,U⟩:=m;exact⟨g,h,x,i,l,b,c,d,p,e,⟨n,j,Z,a,C⟩,z.keep (k _ n z.lt),q.keep (k _ j q.lt),K.keep (k _ Z K.lt),P.keep (k _ a P.lt),U.keep (k _ C U.lt)⟩
def Qn (s0 c U a C D O f e w t W M b c3 c4 x X G):Instr.fill (λi=>Sm (i*9,9)) ((Array.range (1*9)).map ((Value.agg Jh).cells[· % (Value.agg Jh).cells.size]!)) [(0,.agg #[St s0,Ye U,Ye a,Sl C w c3,Sl D t c4,Sl O W x,Sl f M X,St c,Sl e b G])]=Sm #[St s0,Ye U,Ye a,Sl C w c3,Sl D t c4,Sl O W x,Sl f M X,St c,Sl e b G]:=by kernel_rfl
def zW {Y rest o a Q}(H:o.guard=Nn)(x)(T:o.op=.buildSlice 26 1 #[(0,x)]){s0 U b C D O f e c3 c4 X G} (u:a.eval x=.agg #[St s0,Ye U,Ye b,Sl C n c3,Sl D k c4,Sl O i q,Sl f j X,St s,Sl e p G]) (c:wpList prog Y Q rest (a.put o.dst (Sl (Sm (Aq w.1.size 0)) 1 1)) (w.alloc (Cl #[St s0,Ye U,Ye b,Sl C n c3,Sl D k c4,Sl O i q,Sl f j X,St s,Sl e p G] 56))):wpList prog Y Q (o :: rest) a w:=by obtain⟨g,d,F,h,l⟩:=info_parts Th;refine wpList_buildSlice H _ 56 1 _ T _ g _ underlying26 d F gG gG ?_ c;rw[h];simp only[Ge,Z3,Vy,u];exact Qn s0 s U b C D O f e n k i j p c3 c4 q X G
