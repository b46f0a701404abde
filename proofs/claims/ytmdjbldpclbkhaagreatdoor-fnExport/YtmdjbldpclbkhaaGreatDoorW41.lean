import Derived.Test.YtmdjbldpclbkhaaGreatDoorW40
import Derived.Test.YtmdjbldpclbkhaaGreatDoorW39
set_option linter.all false
namespace Go.Proofs.YtmdjbldpclbkhaaGreatDoor
open Value renaming slice->Sl,string->St,bool->Bo
open Obj renaming cells->Cl
open Ending renaming returned->Rt
open Go Go.RowKit Go.Proofs.Tryz
def q98 (w:Tw)(r:Option Nat):w.grownBy w r:=⟨rfl,rfl,rfl,nR _,λ_ _ _=>rfl⟩
def q88 {I:Array Oper}{rest:List Oper}{o:Oper}{a:Act}{p:Exit->Act->Tw->Prop}{w:Tw}(B:o.guard=.none)(s x:Operand)(t e:TypeId)(b:TypeInfo)(z:Value)(size f:Nat) (C:o.op=.call { callee:=.builtin .append,args:=#[s,x],argTypes:=#[t,t] }) (E:prog.underlying t=some (.slice e)) (hi:prog.info? e=some b) (S:b.zero=some z) (T:b.size=size) (U:b.bytes=f) (V:z.cells.size=size) (R:0<size) {base k n i:Nat} {v u:Value} {y d:Tl} (D:a.eval s=v) (g:w.ownsRow base e size v n y) (G:a.eval x=u) (hy:w.ownsRow k e size u i d) (l:∀m,m∈d->m.oneCell'=true) (O:n+i<=1000000) (N:f<=1000) (A:base<=w.1.size) (q:∀h c,c.ownsRow base e size h (n+i) (y++d)->w.grownBy c v.ownBlock->Below base w c->wpList prog I p rest (a.put o.dst h) c):wpList prog I p (o :: rest) a w:=by have H:=hy.1;rcases hy.2 with ⟨rfl,rfl⟩ | ⟨j,J,K,rfl,Z,Q,W,X,Y,L⟩;{have r:d=[]:=Z2.1 (by rw[H,G6]);subst r;refine wpList_append_own_none B s x t C base e b size E hi v n y D g G ?_;exact q v w hP (q98 _ _) (bR _ _)};have M:Blk w j e K.toList:=(by show w.heap[j]? = _;rw[Q]);have P:(n+i)*f<=140737488355328:=Yx (Gc O N) fS;refine wpList_append_own w B s x t C base e b z size f E hi S T U V R v n y D g ⟨j,0,none⟩ i J d G H (λaa m F=>?_) l fZ P A (λh c l r _=>q h c l r ((bR base w).grown r A (λc e=>qao g e)));rw[Addr.add_mid,Zu,M.cell,<- F,<- L,Vd];have:=(Vj.1 F).1;omega
def ovr:Tl->Nat->Tl->Tl
 | xs,_,[]=>xs
 | xs,o,c :: r=>ovr (xs.set o c) (o+1) r
def qqc:∀(b:Tl) (a:Tl)(o:Nat),(ovr a o b).length=a.length
 | [],_,_=>rfl
 | c :: r,a,o=>by rw[ovr,qqc r];simp
def qel:∀(d:Tl) (a zs b:Tl),zs.length=d.length->ovr (a++(zs++b)) a.length d=a++(d++b) | [],a,zs,b,h=>by rw[Z2.1 h];rfl | c :: r,a,zs,b,h=>by cases zs with|nil=>cases h|cons d zs=>rw[ovr,Vb,List.set_append_right _ _ (nR _),Nat.sub_self,Yj];have:=qel r (a++[c]) zs b (by simpa using h);rw[Ym]at this;simpa using this
def qnv {P:List (Fl × FA)}{k:Nat}(a:k<P.length)(x:Fl × FA):ovr (fdV P) (k*9) (fCs x.1 x.2)=fdV (P.set k x):=by have d:P=P.take k++P[k] :: P.drop (k+1):=(by rw[<- Vk a,Vt]);have e:(fdV (P.take k)).length=k*9:=(by unfold fdV;rw[qht (s:=9) (λ_=>rfl),Zb,Gh fP]);have b:fdV P=fdV (P.take k)++(fCs P[k].1 P[k].2++fdV (P.drop (k+1))):=(by (conv=>lhs;rw[d]);unfold fdV;rw[Zt,Z3]);have c:fdV (P.set k x)=fdV (P.take k)++(fCs x.1 x.2++fdV (P.drop (k+1))):=(by rw[List.set_eq_take_append_cons_drop,Y6 a];unfold fdV;rw[Zt,Z3]);rw[b,c,<- e];exact qel _ _ _ _ rfl
def q3k (b:Nat)(t:TypeId):∀(f:Tl) (a:Nat) (e:Tw) (d:Tl),Blk e b t d->Blk (e.setCells b a f) b t (ovr d a f)
 | [],_,_,_,h=>h
 | c :: r,a,e,d,h=>by rw[World.setCells,ovr];exact q3k b t r (a+1) _ _ (h.set a c)
def q2d (b:Nat):∀(f:Tl) (d:Nat) (e:Tw) (a:Nat),a≠b->(e.setCells b d f).heap[a]? = e.heap[a]?
 | [],_,_,_,_=>rfl
 | c :: r,d,e,a,h=>by rw[World.setCells,q2d b r (d+1) _ a h];exact heap_setCell_other _ _ _ _ h
def q2c {B b:Nat}{a:Tw}(f:B<=b):∀(g:Tl) (d:Nat) (e:Tw),Below B a e->Below B a (e.setCells b d g)
 | [],_,_,h=>h
 | c :: r,d,e,h=>by rw[World.setCells];exact q2c f r (d+1) _ (h.setCell f c)
def qjl:∀(b:Tl) (a:Tl)(o n:Nat),(ovr a o b).take n=ovr (a.take n) o b
 | [],_,_,_=>rfl
 | c :: r,a,o,n=>by rw[ovr,ovr,qjl r,List.take_set]
def qjp {w:Tw}{base g c k:Nat}{P:List (Fl × FA)}(f:w.ownsRow base 73 9 (Sl (some ⟨g,0,none⟩) P.length c) P.length (fdV P))(m:k<P.length)(x:Fl × FA):w.there g (k*9) 9/\(w.setCells g (k*9) (fCs x.1 x.2)).ownsRow base 73 9 (Sl (some ⟨g,0,none⟩) P.length c) (P.set k x).length (fdV (P.set k x)):=by rcases f.2 with ⟨b,r⟩ | ⟨q,p,a,b,l,n,h,i,e,j⟩;{cases b};cases b;have d:Blk w g 73 a.toList:=(by show w.heap[g]? = _;rw[n]);refine⟨λo t=>⟨?_,d.free _⟩,by rw[Oy];unfold fdV;rw[qht (s:=9) (λ_=>rfl),Oy],.inr ⟨g,c,(ovr a.toList (k*9) (fCs x.1 x.2)).toArray,by rw[Oy],l,q3k g _ _ _ _ _ d,by rw[Oy];exact h,i,by simp[qqc,e],?_⟩⟩;{have:k*9+o<a.toList.length:=(by rw[On,e];omega);rw[d.cell,Yn this];rfl};rw[Oy,<- qnv m x,<- j,<- qjl]
def rdN (x:Tb):Nx:=⟨1,⟨0,0,⟨#[]⟩⟩,x⟩
def keW:Tb:=⟨#[109,117,115,116]⟩
def kcc:Tb:=⟨#[110,111,32,114,117,108,101]⟩
def kcq:Tb:=⟨#[110,111,119,104,101,114,101]⟩
def kdb:Tb:=⟨#[99,108,101,114,107]⟩
section
variable (what k nl:Nat) (nx:Tb)
def sp1 (g:Fl):Fl:=if what=0 then { g with nm:=nx } else g
def sp2 (g:Fl):Fl:=if what=1 then { g with nm:=keW } else g
def sp3 (g:Fl):Fl:=if what=2 then { g with lb:=(nl:Int) } else g
def sp4 (g:Fl):Fl:=if what=3 then { g with ty:=4 - (((k % 2:Nat):Int)*4) } else g
def sp5 (g:Fl):Fl:=if what=4 then { g with bys:=[0,0]++g.bys } else g
def sp6 (g:Fl):Fl:=if what=5 then { g with sy:=kcc,va:=[] } else g
def sp7 (g:Fl):Fl:=if what=6 then { g with mu:=[⟨3,⟨0,0,⟨#[]⟩⟩,⟨#[]⟩⟩] } else g
def sp8 (g:Fl):Fl:=if what=7 then { g with wh:=[rdN kcq] } else g
def sp9 (g:Fl):Fl:=if what=8∨what=9 then { g with bys:=[],is:=[rdN nx] } else g
def khM (g:Fl):Fl:=if what=10 then { g with wh:=[rdN nx] } else g
def kf0 (g:Fl):Fl:=if what=11∨what=12 then { g with lb:=0 } else if what=13∨what=14 then { g with lb:=0,mu:=[rdN nx] } else if what=15 then { g with lb:=0,mu:=[rdN nx],bys:=[],is:=[⟨0,⟨1,1,⟨#[]⟩⟩,⟨#[]⟩⟩] } else g
def spG (g:Fl):Fl:=kf0 what nx (khM what nx (sp9 what nx (sp8 what (sp7 what (sp6 what (sp5 what (sp4 what k (sp3 what nl (sp2 what (sp1 what nx g))))))))))
def spB (l:List (Int × Int)):List (Int × Int):=if what=16/\0<l.length then l.drop 1 else if what=17 then ((nl:Int) - 1,0) :: l else if what=19 then (0,(nl:Int)) :: l else l
def spR (l:List Rl):List Rl:=if what=18 then ⟨kdb,0⟩ :: l else l
end
structure SMk (v1 v2 v3 v4 vo:Value)(P:List (Fl × FA))(base F X rd:Nat)(nx:Tb)(g:Fl)(A:FA)(w W:Tw):Prop where
 fb:Blk W F 28 [v1,v2,v3,v4]
 r0:Blk W (F+1) 28 J1
 out:W.ownsRow F 73 9 vo P.length (fdV P)
 bx:Blk W X 73 (fCs g A)
 ow:FOw W base g A
 rr:kbv W base (Sl (some ⟨rd,0,none⟩) 1 1) [rdN nx]
 bl:Below F w W
 ne:vo.ownBlock≠some X
 hX:F+1<X
section
variable {v1 v2 v3 v4 vo:Value} {P:List (Fl × FA)} {base F X rd:Nat} {nx:Tb} {g g':Fl} {A A':FA} {w W W':Tw}
def SMk.mono (a:SMk v1 v2 v3 v4 vo P base F X rd nx g A w W)(b:Bw W W'):SMk v1 v2 v3 v4 vo P base F X rd nx g A w W' :=
 ⟨a.fb.mono b a.fb.lt,a.r0.mono b a.r0.lt,qeo a.out b,a.bx.mono b a.bx.lt,a.ow.mono b,a.rr.keep b,a.bl.trans (b.mono (Oa a.fb.lt)),a.ne,a.hX⟩
def SMk.put (a:SMk v1 v2 v3 v4 vo P base F X rd nx g A w W)(j:Nat)(v:Value)(e:(fCs g A).set j v=fCs g' A')(f:FOw W base g' A'):SMk v1 v2 v3 v4 vo P base F X rd nx g' A' w (W.setCell ⟨X,j,none⟩ v):=by have d:=a.hX;exact⟨a.fb.other _ (show F≠X by omega),a.r0.other _ (show F+1≠X by omega),qqh a.out λh b=>heap_setCell_other _ _ _ _ (λc=>a.ne (by rw[b,show h=X from c])),by rw[<- e];exact a.bx.set j v,f.one a.bx fS fS (λk b=>heap_setCell_other _ _ _ _ b),qqk a.rr a.bx fS (λk b=>heap_setCell_other _ _ _ _ b),a.bl.setCell (show F<=X by omega) _,a.ne,d⟩
end
structure TMk (v1 v2 v3 v4:Value)(m:Fm)(P:List (Fl × FA))(base F:Nat)(w W:Tw):Prop where
 fb:Blk W F 28 [v1,v2,v3,v4]
 r0:Blk W (F+1) 28 J1
 om:OwM W base v1 v2 v3 v4 m P
 bl:Below F w W
section
variable {v1 v2 v3 v4 v':Value} {P:List (Fl × FA)} {m:Fm} {base F:Nat} {w W W':Tw}
def TMk.mono (a:TMk v1 v2 v3 v4 m P base F w W)(b:Bw W W'):TMk v1 v2 v3 v4 m P base F w W':=⟨a.fb.mono b a.fb.lt,a.r0.mono b a.r0.lt,a.om.mono b,a.bl.trans (b.mono (Oa a.fb.lt))⟩
def TMk.setP (a:TMk v1 v2 v3 v4 m P base F w W){l:List (Int × Int)}(b:OwP W base v' l):TMk v1 v' v3 v4 { m with P:=l } P base F w (W.setCell ⟨F,1,none⟩ v'):=by have c:OwM W base v1 v' v3 v4 { m with P:=l } P:=⟨a.om.l,b,a.om.r,a.om.f,a.om.e⟩;exact⟨a.fb.set 1 _,a.r0.other _ (show F+1≠F by omega),c.formSet a.fb 1 _,a.bl.setCell (nR _) _⟩
def TMk.setR (a:TMk v1 v2 v3 v4 m P base F w W){l:List Rl}(b:OwL W base v' l):TMk v1 v2 v' v4 { m with R:=l } P base F w (W.setCell ⟨F,2,none⟩ v'):=by have c:OwM W base v1 v2 v' v4 { m with R:=l } P:=⟨a.om.l,a.om.p,b,a.om.f,a.om.e⟩;exact⟨a.fb.set 2 _,a.r0.other _ (show F+1≠F by omega),c.formSet a.fb 2 _,a.bl.setCell (nR _) _⟩
def TMk.fin (a:TMk v1 v2 v3 v4 m P base F w W):OwM (W.setRow (F+1) #[v1,v2,v3,v4]) base v1 v2 v3 v4 m P/\Below F w (W.setRow (F+1) #[v1,v2,v3,v4])/\Blk (W.setRow (F+1) #[v1,v2,v3,v4]) (F+1) 28 [v1,v2,v3,v4] :=
 ⟨a.om.one a.r0 fS fS fS fS fS fS (λk b=>setRow_other W (F+1) k #[v1,v2,v3,v4] b),below_setRow a.bl fP _,a.r0.row [v1,v2,v3,v4]⟩
end
def SMk.done {v1 v2 v3 v4:Value}{P:List (Fl × FA)}{base F X rd n j k:Nat}{nx:Tb}{g:Fl}{A:FA}{w W:Tw}{m:Fm}(a:SMk v1 v2 v3 v4 (Sl (some ⟨n,0,none⟩) P.length j) P base F X rd nx g A w W)(C:base<=F)(B:w.1.size=F)(E:k<P.length)(t:OwM w base v1 v2 v3 v4 m P):TMk v1 v2 v3 (Sl (some ⟨n,0,none⟩) P.length j) { m with F:=m.F.set k g } (P.set k (g,A)) base F w ((W.setCells n (k*9) (fCs g A)).setCell ⟨F,3,none⟩ (Sl (some ⟨n,0,none⟩) P.length j)):=by have D:F<=n:=qao a.out rfl;have p:Below F w (W.setCells n (k*9) (fCs g A)):=q2c D _ _ _ a.bl;have q:∀{o:Nat} {c:TypeId} {d:Tl},Blk W o c d->73≠c->Blk (W.setCells n (k*9) (fCs g A)) o c d:=λe h=>(q2d n _ _ _ _ (λb=>qjo a.out e h (by rw[<- b];rfl))).trans e;have h:=t.mono (show Bw w (W.setCells n (k*9) (fCs g A)) by rw[Bw,B];exact p);have G:∀{c:TypeId},(∀d,¬ Blk W n c d)∨True:=.inr trivial;have z:FOw (W.setCells n (k*9) (fCs g A)) base g A:=(by have c:∀{d b v s:Nat} {x:Value} {y:Tl},W.ownsRow d b v x s y->b≠73->(W.setCells n (k*9) (fCs g A)).ownsRow d b v x s y:=λd s=>qqh d λo e=>q2d n _ _ _ _ (λb=>qgi d a.out s e (by rw[b];rfl));exact⟨c a.ow.b fS,c a.ow.i fS,c a.ow.h fS,c a.ow.v fS,c a.ow.u fS⟩);have d:=(qjp a.out E (g,A)).2;have c:OwM (W.setCells n (k*9) (fCs g A)) base v1 v2 v3 (Sl (some ⟨n,0,none⟩) P.length j) { m with F:=m.F.set k g } (P.set k (g,A)):=(by refine⟨h.l,h.p,h.r,⟨qjr d C,λe b=>?_⟩,?_⟩;{rcases List.mem_or_eq_of_mem_set b with b | rfl;{exact h.f.sub e b};exact z};show m.F.set k g=_;rw[List.map_set,<- t.e]);have b:=q a.fb fS;exact⟨b.set 3 _,(q a.r0 fS).other _ (show F+1≠F by omega),c.formSet b 3 _,p.setCell (nR _) _⟩
