import Derived.Test.YtebbgodlijlioaaGreatDoorW44
import Derived.Test.YtebbgodlijlioaaGreatDoorW43
namespace Go.Proofs.YtebbgodlijlioaaGreatDoor
open Go Go.RowKit
def rdN (x:ByteArray):Nx:=⟨1,⟨0,0,⟨#[]⟩⟩,x⟩
def mustS:ByteArray:=⟨#[109,117,115,116]⟩
def noRuleS:ByteArray:=⟨#[110,111,32,114,117,108,101]⟩
def nowhereS:ByteArray:=⟨#[110,111,119,104,101,114,101]⟩
def clerkS:ByteArray:=⟨#[99,108,101,114,107]⟩
section
variable (what k nl:Nat) (nx:ByteArray)
def sp1 (g:Fl):Fl:=if what=0 then { g with nm:=nx } else g
def sp2 (g:Fl):Fl:=if what=1 then { g with nm:=mustS } else g
def sp3 (g:Fl):Fl:=if what=2 then { g with lb:=(nl:Int) } else g
def sp4 (g:Fl):Fl:=if what=3 then { g with ty:=4 - (((k % 2:Nat):Int)*4) } else g
def sp5 (g:Fl):Fl:=if what=4 then { g with bys:=[0,0]++g.bys } else g
def sp6 (g:Fl):Fl:=if what=5 then { g with sy:=noRuleS,va:=[] } else g
def sp7 (g:Fl):Fl:=if what=6 then { g with mu:=[⟨3,⟨0,0,⟨#[]⟩⟩,⟨#[]⟩⟩] } else g
def sp8 (g:Fl):Fl:=if what=7 then { g with wh:=[rdN nowhereS] } else g
def sp9 (g:Fl):Fl:=if what=8∨what=9 then { g with bys:=[],is:=[rdN nx] } else g
def sp10 (g:Fl):Fl:=if what=10 then { g with wh:=[rdN nx] } else g
def sp11 (g:Fl):Fl:=if what=11∨what=12 then { g with lb:=0 } else if what=13∨what=14 then { g with lb:=0,mu:=[rdN nx] } else if what=15 then { g with lb:=0,mu:=[rdN nx],bys:=[],is:=[⟨0,⟨1,1,⟨#[]⟩⟩,⟨#[]⟩⟩] } else g
def spG (g:Fl):Fl:=sp11 what nx (sp10 what nx (sp9 what nx (sp8 what (sp7 what (sp6 what (sp5 what (sp4 what k (sp3 what nl (sp2 what (sp1 what nx g))))))))))
def spB (l:List (Int × Int)):List (Int × Int):=if what=16/\0<l.length then l.drop 1 else if what=17 then ((nl:Int) - 1,0) :: l else if what=19 then (0,(nl:Int)) :: l else l
def spR (l:List Rl):List Rl:=if what=18 then ⟨clerkS,0⟩ :: l else l
end
structure SMk (v1 v2 v3 v4 vo:Value)(P:List (Fl × FA))(base F X rd:Nat)(nx:ByteArray)(g:Fl)(A:FA)(w W:World):Prop where
 fb:Blk W F 28 [v1,v2,v3,v4]
 r0:Blk W (F+1) 28 J3
 out:W.ownsRow F 42 9 vo P.length (fdV P)
 bx:Blk W X 42 (fCs g A)
 ow:FOw W base g A
 rr:OwnN W base (.slice (some ⟨rd,0,none⟩) 1 1) [rdN nx]
 bl:Below F w W
 ne:vo.ownBlock≠some X
 hX:F+1<X
section
variable {v1 v2 v3 v4 vo:Value} {P:List (Fl × FA)} {base F X rd:Nat} {nx:ByteArray} {g g':Fl} {A A':FA} {w W W':World}
theorem SMk.mono (h:SMk v1 v2 v3 v4 vo P base F X rd nx g A w W)(hb:Below W.heap.size W W'):SMk v1 v2 v3 v4 vo P base F X rd nx g A w W' :=
 ⟨h.fb.mono hb h.fb.lt,h.r0.mono hb h.r0.lt,qap h.out hb,h.bx.mono hb h.bx.lt,h.ow.mono hb,h.rr.keep hb,h.bl.trans (hb.mono (Nat.le_of_lt h.fb.lt)),h.ne,h.hX⟩
theorem SMk.put (h:SMk v1 v2 v3 v4 vo P base F X rd nx g A w W)(j:Nat)(v:Value)(hc:(fCs g A).set j v=fCs g' A')(ho:FOw W base g' A'):SMk v1 v2 v3 v4 vo P base F X rd nx g' A' w (W.setCell ⟨X,j,none⟩ v):=by
 have hX:=h.hX
 exact⟨h.fb.other _ (show F≠X by omega),h.r0.other _ (show F+1≠X by omega),qih h.out fun q e=>heap_setCell_other _ _ _ _ (fun e'=>h.ne (by rw[e,show q=X from e'])),by rw[<- hc];exact h.bx.set j v,ho.one h.bx (by decide) (by decide) (fun k hk=>heap_setCell_other _ _ _ _ hk),qij h.rr h.bx (by decide) (fun k hk=>heap_setCell_other _ _ _ _ hk),h.bl.setCell (show F<=X by omega) _,h.ne,hX⟩
end
structure TMk (v1 v2 v3 v4:Value)(m:Fm)(P:List (Fl × FA))(base F:Nat)(w W:World):Prop where
 fb:Blk W F 28 [v1,v2,v3,v4]
 r0:Blk W (F+1) 28 J3
 om:OwM W base v1 v2 v3 v4 m P
 bl:Below F w W
section
variable {v1 v2 v3 v4 v':Value} {P:List (Fl × FA)} {m:Fm} {base F:Nat} {w W W':World}
theorem TMk.mono (h:TMk v1 v2 v3 v4 m P base F w W)(hb:Below W.heap.size W W'):TMk v1 v2 v3 v4 m P base F w W':=⟨h.fb.mono hb h.fb.lt,h.r0.mono hb h.r0.lt,h.om.mono hb,h.bl.trans (hb.mono (Nat.le_of_lt h.fb.lt))⟩
theorem TMk.setP (h:TMk v1 v2 v3 v4 m P base F w W){l:List (Int × Int)}(hp:OwP W base v' l):TMk v1 v' v3 v4 { m with P:=l } P base F w (W.setCell ⟨F,1,none⟩ v'):=by
 have ow:OwM W base v1 v' v3 v4 { m with P:=l } P:=⟨h.om.l,hp,h.om.r,h.om.f,h.om.e⟩
 exact⟨h.fb.set 1 _,h.r0.other _ (show F+1≠F by omega),ow.formSet h.fb 1 _,h.bl.setCell (nR _) _⟩
theorem TMk.setR (h:TMk v1 v2 v3 v4 m P base F w W){l:List Rl}(hp:OwL W base v' l):TMk v1 v2 v' v4 { m with R:=l } P base F w (W.setCell ⟨F,2,none⟩ v'):=by
 have ow:OwM W base v1 v2 v' v4 { m with R:=l } P:=⟨h.om.l,h.om.p,hp,h.om.f,h.om.e⟩
 exact⟨h.fb.set 2 _,h.r0.other _ (show F+1≠F by omega),ow.formSet h.fb 2 _,h.bl.setCell (nR _) _⟩
theorem TMk.fin (h:TMk v1 v2 v3 v4 m P base F w W):OwM (W.setRow (F+1) #[v1,v2,v3,v4]) base v1 v2 v3 v4 m P/\Below F w (W.setRow (F+1) #[v1,v2,v3,v4])/\Blk (W.setRow (F+1) #[v1,v2,v3,v4]) (F+1) 28 [v1,v2,v3,v4] :=
 ⟨h.om.one h.r0 (by decide) (by decide) (by decide) (by decide) (by decide) (by decide) (fun k hk=>setRow_other W (F+1) k #[v1,v2,v3,v4] hk),below_setRow h.bl (by omega) _,h.r0.row [v1,v2,v3,v4]⟩
end
theorem SMk.done {v1 v2 v3 v4:Value}{P:List (Fl × FA)}{base F X rd go co k:Nat}{nx:ByteArray}{g:Fl}{A:FA}{w W:World}{m:Fm}(h:SMk v1 v2 v3 v4 (.slice (some ⟨go,0,none⟩) P.length co) P base F X rd nx g A w W)(hb:base<=F)(hF:w.heap.size=F)(hk:k<P.length)(om:OwM w base v1 v2 v3 v4 m P) :
 TMk v1 v2 v3 (.slice (some ⟨go,0,none⟩) P.length co) { m with F:=m.F.set k g } (P.set k (g,A)) base F w ((W.setCells go (k*9) (fCs g A)).setCell ⟨F,3,none⟩ (.slice (some ⟨go,0,none⟩) P.length co)):=by
 have hgo:F<=go:=q87 h.out rfl
 have bl1:Below F w (W.setCells go (k*9) (fCs g A)):=q22 hgo _ _ _ h.bl
 have hoF:∀{q:Nat} {t:TypeId} {cs:List Value},Blk W q t cs->42≠t->Blk (W.setCells go (k*9) (fCs g A)) q t cs:=fun hq ht=>(q23 go _ _ _ _ (fun e=>qdq h.out hq ht (by rw[<- e];rfl))).trans hq
 have om1:=om.mono (show Below w.heap.size w (W.setCells go (k*9) (fCs g A)) by rw[hF];exact bl1)
 have hgf:∀{t:TypeId},(∀cs,¬ Blk W go t cs)∨True:=.inr trivial
 have gow:FOw (W.setCells go (k*9) (fCs g A)) base g A:=by
  have key:∀{b e size n:Nat} {v:Value} {xs:List Value},W.ownsRow b e size v n xs->e≠42->(W.setCells go (k*9) (fCs g A)).ownsRow b e size v n xs:=fun hr he=>qih hr fun q hq=>q23 go _ _ _ _ (fun e=>qbz hr h.out he hq (by rw[e];rfl));exact⟨key h.ow.b (by decide),key h.ow.i (by decide),key h.ow.h (by decide),key h.ow.v (by decide),key h.ow.u (by decide)⟩
 have orow:=(qdr h.out hk (g,A)).2
 have om2:OwM (W.setCells go (k*9) (fCs g A)) base v1 v2 v3 (.slice (some ⟨go,0,none⟩) P.length co) { m with F:=m.F.set k g } (P.set k (g,A)):=by
  refine⟨om1.l,om1.p,om1.r,⟨qdt orow hb,fun p hp=>?_⟩,?_⟩
  . rcases List.mem_or_eq_of_mem_set hp with hp | rfl
    . exact om1.f.sub p hp
    . exact gow
  . show m.F.set k g=_
    rw[List.map_set,<- om.e]
 have fb1:=hoF h.fb (by decide)
 exact⟨fb1.set 3 _,(hoF h.r0 (by decide)).other _ (show F+1≠F by omega),om2.formSet fb1 3 _,bl1.setCell (nR _) _⟩
end Go.Proofs.YtebbgodlijlioaaGreatDoor
