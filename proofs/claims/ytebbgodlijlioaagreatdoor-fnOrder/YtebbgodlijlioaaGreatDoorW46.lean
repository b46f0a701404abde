import Derived.Test.YtebbgodlijlioaaGreatDoorW45
import Derived.Test.YtebbgodlijlioaaGreatDoorW44
namespace Go.Proofs.YtebbgodlijlioaaGreatDoor
open Go Go.RowKit
theorem q7g (w:World)(r:Option Nat):w.grownBy w r:=⟨rfl,rfl,rfl,nR _,fun _ _ _=>rfl⟩
theorem q6l {ops:Array Oper}{rest:List Oper}{o:Oper}{a:Act}{Q:Exit->Act->World->Prop}{w:World}(hgd:o.guard=.none)(s x:Operand)(t e:TypeId)(i0:TypeInfo)(z:Value)(size bytes:Nat)
 (ho:o.op=.call { callee:=.builtin .append,args:=#[s,x],argTypes:=#[t,t] }) (ht:Tryz.prog.underlying t=some (.slice e)) (hi:Tryz.prog.info? e=some i0) (hz0:i0.zero=some z) (hz1:i0.size=size) (hz2:i0.bytes=bytes) (hzs:z.cells.size=size) (hsz:0<size)
 {base base2 n n2:Nat} {v v2:Value} {xs ys:List Value} (hs:a.eval s=v) (hown:w.ownsRow base e size v n xs) (hx:a.eval x=v2) (hy:w.ownsRow base2 e size v2 n2 ys) (h1:∀u,u∈ys->u.oneCell'=true)
 (hl:n+n2<=1000000) (hby:bytes<=1000) (hbase:base<=w.heap.size)
 (h:∀v' w',w'.ownsRow base e size v' (n+n2) (xs++ys)->w.grownBy w' v.ownBlock->Below base w w'->wpList Tryz.prog ops Q rest (a.put o.dst v') w'):wpList Tryz.prog ops Q (o :: rest) a w:=by
 have hyl:=hy.1
 rcases hy.2 with ⟨rfl,rfl⟩ | ⟨g,cap,cur,rfl,hg,hq,h4,h5,h6,h7⟩
 . have hnil:ys=[]:=Z7.1 (by rw[hyl,Nat.zero_mul])
   subst hnil;refine wpList_append_own_none hgd s x t ho base e i0 size ht hi v n xs hs hown hx ?_;exact h v w (by simpa using hown) (q7g _ _) (bR _ _)
 . have hb:Blk w g e cur.toList:=by
    show w.heap[g]? = _;rw[hq]
   have hm:(n+n2)*bytes<=140737488355328:=Yv (Ox hl hby) (by decide);refine wpList_append_own w hgd s x t ho base e i0 z size bytes ht hi hz0 hz1 hz2 hzs hsz v n xs hs hown ⟨g,0,none⟩ n2 cap ys hx hyl (fun j u hu=>?_) h1 (by unfold maxLen;omega) hm hbase (fun v' w' h1 h2 _=>h v' w' h1 h2 ((bR base w).grown h2 hbase (fun q e=>q8q hown e)));rw[Addr.add_mid,Zj,hb.cell,<- hu,<- h7,Vw];have:=(List.getElem?_eq_some_iff.1 hu).1;omega
def ovr:List Value->Nat->List Value->List Value
 | xs,_,[]=>xs
 | xs,o,c :: r=>ovr (xs.set o c) (o+1) r
theorem qkk:∀(cs:List Value) (xs:List Value) (o:Nat),(ovr xs o cs).length=xs.length
 | [],_,_=>rfl
 | c :: r,xs,o=>by rw[ovr,qkk r];simp
theorem qbs:∀(cs:List Value) (xs zs ys:List Value),zs.length=cs.length->ovr (xs++(zs++ys)) xs.length cs=xs++(cs++ys)
 | [],xs,zs,ys,h=>by rw[Z7.1 h];rfl
 | c :: r,xs,zs,ys,h=>by
  cases zs with
  | nil=>cases h
  | cons z zs =>
   rw[ovr,Zn,List.set_append_right _ _ (nR _),Nat.sub_self,Yd];have:=qbs r (xs++[c]) zs ys (by simpa using h);rw[Yg]at this;simpa using this
theorem qik {P:List (Fl × FA)}{k:Nat}(hk:k<P.length)(x:Fl × FA):ovr (fdV P) (k*9) (fCs x.1 x.2)=fdV (P.set k x):=by
 have hP:P=P.take k++P[k] :: P.drop (k+1):=by rw[<- Of hk,Vk]
 have hl:(fdV (P.take k)).length=k*9:=by unfold fdV;rw[qe0 (s:=9) (fun _=>rfl),Y6,O8 (by omega)]
 have e1:fdV P=fdV (P.take k)++(fCs P[k].1 P[k].2++fdV (P.drop (k+1))):=by
  conv=>lhs;rw[hP]
  unfold fdV;rw[Zp,Z5]
 have e2:fdV (P.set k x)=fdV (P.take k)++(fCs x.1 x.2++fdV (P.drop (k+1))):=by
  rw[List.set_eq_take_append_cons_drop,Yz hk];unfold fdV;rw[Zp,Z5]
 rw[e1,e2,<- hl]
 exact qbs _ _ _ _ rfl
theorem q2u (b:Nat)(t:TypeId):∀(cs:List Value) (o:Nat) (w:World) (cur:List Value),Blk w b t cur->Blk (w.setCells b o cs) b t (ovr cur o cs)
 | [],_,_,_,h=>h
 | c :: r,o,w,cur,h=>by rw[World.setCells,ovr];exact q2u b t r (o+1) _ _ (h.set o c)
theorem q20 (b:Nat):∀(cs:List Value) (o:Nat) (w:World) (k:Nat),k≠b->(w.setCells b o cs).heap[k]? = w.heap[k]?
 | [],_,_,_,_=>rfl
 | c :: r,o,w,k,h=>by rw[World.setCells,q20 b r (o+1) _ k h];exact heap_setCell_other _ _ _ _ h
theorem q1z {B b:Nat}{a:World}(hB:B<=b):∀(cs:List Value) (o:Nat) (w:World),Below B a w->Below B a (w.setCells b o cs)
 | [],_,_,h=>h
 | c :: r,o,w,h=>by rw[World.setCells];exact q1z hB r (o+1) _ (h.setCell hB c)
theorem qfg:∀(cs:List Value) (xs:List Value) (o n:Nat),(ovr xs o cs).take n=ovr (xs.take n) o cs
 | [],_,_,_=>rfl
 | c :: r,xs,o,n=>by rw[ovr,ovr,qfg r,List.take_set]
theorem qfk {w:World}{base g c:Nat}{P:List (Fl × FA)}(h:w.ownsRow base 42 9 (.slice (some ⟨g,0,none⟩) P.length c) P.length (fdV P)){k:Nat}(hk:k<P.length)(x:Fl × FA) :
 w.there g (k*9) 9/\(w.setCells g (k*9) (fCs x.1 x.2)).ownsRow base 42 9 (.slice (some ⟨g,0,none⟩) P.length c) (P.set k x).length (fdV (P.set k x)):=by
 rcases h.2 with ⟨e,h'⟩ | ⟨g',cap,cur,e,hg,hq,h4,h5,h6,h7⟩
 . cases e
 . cases e
   have hb:Blk w g 42 cur.toList:=by
    show w.heap[g]? = _;rw[hq]
   refine⟨fun j hj=>⟨?_,hb.free _⟩,by rw[Vd];unfold fdV;rw[qe0 (s:=9) (fun _=>rfl),Vd],.inr ⟨g,c,(ovr cur.toList (k*9) (fCs x.1 x.2)).toArray,by rw[Vd],hg,q2u g _ _ _ _ _ hb,by rw[Vd];exact h4,h5,by simp[qkk,h6],?_⟩⟩
   . have:k*9+j<cur.toList.length:=by rw[Array.length_toList,h6];omega
     rw[hb.cell,Yi this];rfl
   . rw[Vd,<- qik hk x,<- h7,<- qfg]
def rdN (x:ByteArray):Nx:=⟨1,⟨0,0,⟨#[]⟩⟩,x⟩
def mustS:ByteArray:=⟨#[109,117,115,116]⟩
def noRuleS:ByteArray:=⟨#[110,111,32,114,117,108,101]⟩
def nowhereS:ByteArray:=⟨#[110,111,119,104,101,114,101]⟩
def clerkS:ByteArray:=⟨#[99,108,101,114,107]⟩
section
variable (what k nl:Nat) (nx:ByteArray)
def sp1 (g:Fl):Fl:=if what=0 then { g with nm:=nx } else g
def sp2 (g:Fl):Fl:=if what=1 then { g with nm:=mustS } else g
def sp3 (g:Fl):Fl:=if what=2 then { g with lb:=(nl:Int) } else g
def sp4 (g:Fl):Fl:=if what=3 then { g with ty:=4 - (((k % 2:Nat):Int)*4) } else g
def sp5 (g:Fl):Fl:=if what=4 then { g with bys:=[0,0]++g.bys } else g
def sp6 (g:Fl):Fl:=if what=5 then { g with sy:=noRuleS,va:=[] } else g
def sp7 (g:Fl):Fl:=if what=6 then { g with mu:=[⟨3,⟨0,0,⟨#[]⟩⟩,⟨#[]⟩⟩] } else g
def sp8 (g:Fl):Fl:=if what=7 then { g with wh:=[rdN nowhereS] } else g
def sp9 (g:Fl):Fl:=if what=8∨what=9 then { g with bys:=[],is:=[rdN nx] } else g
def sp10 (g:Fl):Fl:=if what=10 then { g with wh:=[rdN nx] } else g
def sp11 (g:Fl):Fl:=if what=11∨what=12 then { g with lb:=0 } else if what=13∨what=14 then { g with lb:=0,mu:=[rdN nx] } else if what=15 then { g with lb:=0,mu:=[rdN nx],bys:=[],is:=[⟨0,⟨1,1,⟨#[]⟩⟩,⟨#[]⟩⟩] } else g
def spG (g:Fl):Fl:=sp11 what nx (sp10 what nx (sp9 what nx (sp8 what (sp7 what (sp6 what (sp5 what (sp4 what k (sp3 what nl (sp2 what (sp1 what nx g))))))))))
def spB (l:List (Int × Int)):List (Int × Int):=if what=16/\0<l.length then l.drop 1 else if what=17 then ((nl:Int) - 1,0) :: l else if what=19 then (0,(nl:Int)) :: l else l
def spR (l:List Rl):List Rl:=if what=18 then ⟨clerkS,0⟩ :: l else l
end
structure SMk (v1 v2 v3 v4 vo:Value)(P:List (Fl × FA))(base F X rd:Nat)(nx:ByteArray)(g:Fl)(A:FA)(w W:World):Prop where
 fb:Blk W F 28 [v1,v2,v3,v4]
 r0:Blk W (F+1) 28 J3
 out:W.ownsRow F 42 9 vo P.length (fdV P)
 bx:Blk W X 42 (fCs g A)
 ow:FOw W base g A
 rr:OwnN W base (.slice (some ⟨rd,0,none⟩) 1 1) [rdN nx]
 bl:Below F w W
 ne:vo.ownBlock≠some X
 hX:F+1<X
section
variable {v1 v2 v3 v4 vo:Value} {P:List (Fl × FA)} {base F X rd:Nat} {nx:ByteArray} {g g':Fl} {A A':FA} {w W W':World}
theorem SMk.mono (h:SMk v1 v2 v3 v4 vo P base F X rd nx g A w W)(hb:Below W.heap.size W W'):SMk v1 v2 v3 v4 vo P base F X rd nx g A w W' :=
 ⟨h.fb.mono hb h.fb.lt,h.r0.mono hb h.r0.lt,qbw h.out hb,h.bx.mono hb h.bx.lt,h.ow.mono hb,h.rr.keep hb,h.bl.trans (hb.mono (Oz h.fb.lt)),h.ne,h.hX⟩
theorem SMk.put (h:SMk v1 v2 v3 v4 vo P base F X rd nx g A w W)(j:Nat)(v:Value)(hc:(fCs g A).set j v=fCs g' A')(ho:FOw W base g' A'):SMk v1 v2 v3 v4 vo P base F X rd nx g' A' w (W.setCell ⟨X,j,none⟩ v):=by
 have hX:=h.hX
 exact⟨h.fb.other _ (show F≠X by omega),h.r0.other _ (show F+1≠X by omega),qkm h.out fun q e=>heap_setCell_other _ _ _ _ (fun e'=>h.ne (by rw[e,show q=X from e'])),by rw[<- hc];exact h.bx.set j v,ho.one h.bx (by decide) (by decide) (fun k hk=>heap_setCell_other _ _ _ _ hk),qko h.rr h.bx (by decide) (fun k hk=>heap_setCell_other _ _ _ _ hk),h.bl.setCell (show F<=X by omega) _,h.ne,hX⟩
end
structure TMk (v1 v2 v3 v4:Value)(m:Fm)(P:List (Fl × FA))(base F:Nat)(w W:World):Prop where
 fb:Blk W F 28 [v1,v2,v3,v4]
 r0:Blk W (F+1) 28 J3
 om:OwM W base v1 v2 v3 v4 m P
 bl:Below F w W
section
variable {v1 v2 v3 v4 v':Value} {P:List (Fl × FA)} {m:Fm} {base F:Nat} {w W W':World}
theorem TMk.mono (h:TMk v1 v2 v3 v4 m P base F w W)(hb:Below W.heap.size W W'):TMk v1 v2 v3 v4 m P base F w W':=⟨h.fb.mono hb h.fb.lt,h.r0.mono hb h.r0.lt,h.om.mono hb,h.bl.trans (hb.mono (Oz h.fb.lt))⟩
theorem TMk.setP (h:TMk v1 v2 v3 v4 m P base F w W){l:List (Int × Int)}(hp:OwP W base v' l):TMk v1 v' v3 v4 { m with P:=l } P base F w (W.setCell ⟨F,1,none⟩ v'):=by
 have ow:OwM W base v1 v' v3 v4 { m with P:=l } P:=⟨h.om.l,hp,h.om.r,h.om.f,h.om.e⟩
 exact⟨h.fb.set 1 _,h.r0.other _ (show F+1≠F by omega),ow.formSet h.fb 1 _,h.bl.setCell (nR _) _⟩
theorem TMk.setR (h:TMk v1 v2 v3 v4 m P base F w W){l:List Rl}(hp:OwL W base v' l):TMk v1 v2 v' v4 { m with R:=l } P base F w (W.setCell ⟨F,2,none⟩ v'):=by
 have ow:OwM W base v1 v2 v' v4 { m with R:=l } P:=⟨h.om.l,h.om.p,hp,h.om.f,h.om.e⟩
 exact⟨h.fb.set 2 _,h.r0.other _ (show F+1≠F by omega),ow.formSet h.fb 2 _,h.bl.setCell (nR _) _⟩
theorem TMk.fin (h:TMk v1 v2 v3 v4 m P base F w W):OwM (W.setRow (F+1) #[v1,v2,v3,v4]) base v1 v2 v3 v4 m P/\Below F w (W.setRow (F+1) #[v1,v2,v3,v4])/\Blk (W.setRow (F+1) #[v1,v2,v3,v4]) (F+1) 28 [v1,v2,v3,v4] :=
 ⟨h.om.one h.r0 (by decide) (by decide) (by decide) (by decide) (by decide) (by decide) (fun k hk=>setRow_other W (F+1) k #[v1,v2,v3,v4] hk),below_setRow h.bl (by omega) _,h.r0.row [v1,v2,v3,v4]⟩
end
theorem SMk.done {v1 v2 v3 v4:Value}{P:List (Fl × FA)}{base F X rd go co k:Nat}{nx:ByteArray}{g:Fl}{A:FA}{w W:World}{m:Fm}(h:SMk v1 v2 v3 v4 (.slice (some ⟨go,0,none⟩) P.length co) P base F X rd nx g A w W)(hb:base<=F)(hF:w.heap.size=F)(hk:k<P.length)(om:OwM w base v1 v2 v3 v4 m P) :
 TMk v1 v2 v3 (.slice (some ⟨go,0,none⟩) P.length co) { m with F:=m.F.set k g } (P.set k (g,A)) base F w ((W.setCells go (k*9) (fCs g A)).setCell ⟨F,3,none⟩ (.slice (some ⟨go,0,none⟩) P.length co)):=by
 have hgo:F<=go:=q8q h.out rfl
 have bl1:Below F w (W.setCells go (k*9) (fCs g A)):=q1z hgo _ _ _ h.bl
 have hoF:∀{q:Nat} {t:TypeId} {cs:List Value},Blk W q t cs->42≠t->Blk (W.setCells go (k*9) (fCs g A)) q t cs:=fun hq ht=>(q20 go _ _ _ _ (fun e=>qfj h.out hq ht (by rw[<- e];rfl))).trans hq
 have om1:=om.mono (show Below w.heap.size w (W.setCells go (k*9) (fCs g A)) by rw[hF];exact bl1)
 have hgf:∀{t:TypeId},(∀cs,¬ Blk W go t cs)∨True:=.inr trivial
 have gow:FOw (W.setCells go (k*9) (fCs g A)) base g A:=by
  have key:∀{b e size n:Nat} {v:Value} {xs:List Value},W.ownsRow b e size v n xs->e≠42->(W.setCells go (k*9) (fCs g A)).ownsRow b e size v n xs:=fun hr he=>qkm hr fun q hq=>q20 go _ _ _ _ (fun e=>qda hr h.out he hq (by rw[e];rfl));exact⟨key h.ow.b (by decide),key h.ow.i (by decide),key h.ow.h (by decide),key h.ow.v (by decide),key h.ow.u (by decide)⟩
 have orow:=(qfk h.out hk (g,A)).2
 have om2:OwM (W.setCells go (k*9) (fCs g A)) base v1 v2 v3 (.slice (some ⟨go,0,none⟩) P.length co) { m with F:=m.F.set k g } (P.set k (g,A)):=by
  refine⟨om1.l,om1.p,om1.r,⟨qfm orow hb,fun p hp=>?_⟩,?_⟩
  . rcases List.mem_or_eq_of_mem_set hp with hp | rfl
    . exact om1.f.sub p hp
    . exact gow
  . show m.F.set k g=_
    rw[List.map_set,<- om.e]
 have fb1:=hoF h.fb (by decide)
 exact⟨fb1.set 3 _,(hoF h.r0 (by decide)).other _ (show F+1≠F by omega),om2.formSet fb1 3 _,bl1.setCell (nR _) _⟩
end Go.Proofs.YtebbgodlijlioaaGreatDoor
