import Derived.Test.YtebbgodlijlioaaGreatDoorW43
namespace Go.Proofs.YtebbgodlijlioaaGreatDoor
open Go Go.RowKit
theorem FCel.rng {w:World}{b o:Nat}{g:Fl}{A:FA}(h:FCel w b o g A):w.rangeAt b o (fCs g A):=fun j v hj=>by
 obtain⟨-,h0,h1,h2,h3,h4,h5,h6,h7,h8⟩:=h
 match j,hj with
 | 0,hj=>cases hj;exact h0
 | 1,hj=>cases hj;exact h1
 | 2,hj=>cases hj;exact h2
 | 3,hj=>cases hj;exact h3
 | 4,hj=>cases hj;exact h4
 | 5,hj=>cases hj;exact h5
 | 6,hj=>cases hj;exact h6
 | 7,hj=>cases hj;exact h7
 | 8,hj=>cases hj;exact h8
 | _+9,hj=>cases hj
theorem Blk.rng {w:World}{g:Nat}{t:TypeId}{cs:List Value}(h:Blk w g t cs):w.rangeAt g 0 cs:=fun j v hj=>by rw[Zj];exact(h.cell j).trans hj
theorem qk3 {n j:Nat}(h:j<n):n - (intOf (J9 ((j:Int)+1))).toNat<n - (intOf (J9 (j:Int))).toNat:=by
 simp[intOf]
 omega
section
variable {R:Nat} {m:Fm} {P:List (Fl × FA)} {v1 v2 v3 v4:Value} {w W W':World}
theorem Blk.grow {q:Nat}{t:TypeId}{cs:List Value}{base e size n:Nat}{v:Value}{xs:List Value}(h:Blk W q t cs)(hr:W.ownsRow base e size v n xs)(he:e≠t)(hg:W.grownBy W' v.ownBlock):Blk W' q t cs:=(hg.block _ h.lt (fun e'=>qfj hr h he e'.symm)).trans h
theorem MMk.setP (h:MMk R m P v1 v2 v3 v4 w W){l:List (Int × Int)}{v':Value}(hp:OwP W w.heap.size v' l):MMk R { m with P:=l } P v1 v' v3 v4 w (W.setCell ⟨R,1,none⟩ v'):=by
 have hR:=h.hR
 have ow:OwM W w.heap.size v1 v' v3 v4 { m with P:=l } P:=⟨h.ow.l,hp,h.ow.r,h.ow.f,h.ow.e⟩
 exact⟨h.bx.set 1 _,ow.formSet h.bx 1 _,h.bl.setCell (show w.heap.size<=R by omega) _,h.r0.other _ (show w.heap.size≠R by omega),hR⟩
theorem MMk.setF (h:MMk R m P v1 v2 v3 v4 w W){P':List (Fl × FA)}{v':Value}(hp:OwF W w.heap.size v' P'):MMk R { m with F:=P'.map (·.1) } P' v1 v2 v3 v' w (W.setCell ⟨R,3,none⟩ v'):=by
 have hR:=h.hR
 have ow:OwM W w.heap.size v1 v2 v3 v' { m with F:=P'.map (·.1) } P':=⟨h.ow.l,h.ow.p,h.ow.r,hp,rfl⟩
 exact⟨h.bx.set 3 _,ow.formSet h.bx 3 _,h.bl.setCell (show w.heap.size<=R by omega) _,h.r0.other _ (show w.heap.size≠R by omega),hR⟩
theorem MMk.rowF (h:MMk R m P v1 v2 v3 v4 w W){P':List (Fl × FA)}{v':Value}(hp:OwF W w.heap.size v' P'):MMk R { m with F:=P'.map (·.1) } P' v1 v2 v3 v' w (W.setRow R #[v1,v2,v3,v']):=by
 have hR:=h.hR
 have ow:OwM W w.heap.size v1 v2 v3 v' { m with F:=P'.map (·.1) } P':=⟨h.ow.l,h.ow.p,h.ow.r,hp,rfl⟩
 exact⟨h.bx.row [v1,v2,v3,v'],ow.one h.bx (by decide) (by decide) (by decide) (by decide) (by decide) (by decide) (fun k hk=>setRow_other W R k #[v1,v2,v3,v'] hk),below_setRow h.bl (show w.heap.size<=R by omega) _,h.r0.row_other (show w.heap.size≠R by omega) _,hR⟩
section
variable {K:Int->List ByteArray} {B:Nat} {z1 z2 z3:Value}
theorem Kpt.blk (h:Kpt z1 z2 z3 W W')(hk:OwnK K W B z1 z2 z3){q:Nat}{t:TypeId}{cs:List Value}(hb:Blk W q t cs)(ht:9≠t):Blk W' q t cs :=
 (h.block q hb.lt (qfj hk.r1 hb ht) (qfj hk.r2 hb ht) (qfj hk.r3 hb ht)).trans hb
theorem qda {base e size n base' e' size' n':Nat}{v v':Value}{xs xs':List Value}(h:W.ownsRow base e size v n xs)(h':W.ownsRow base' e' size' v' n' xs')(he:e≠e'){q:Nat}(hq:v.ownBlock=some q):v'.ownBlock≠some q:=fun hc=>by
 rcases qc2 h h' he with h1 | h1
 . rw[h1]at hq;cases hq
 . exact h1 (hq.trans hc.symm)
theorem Kpt.own (h:Kpt z1 z2 z3 W W')(hk:OwnK K W B z1 z2 z3){base e size n:Nat}{v:Value}{xs:List Value}(hr:W.ownsRow base e size v n xs)(he:e≠9):W'.ownsRow base e size v n xs :=
 qkm hr fun q hq=>h.block q (qkl hr hq) (qda hr hk.r1 he hq) (qda hr hk.r2 he hq) (qda hr hk.r3 he hq)
theorem Kpt.low (h:Kpt z1 z2 z3 W W')(hk:OwnK K W B z1 z2 z3){base e size n:Nat}{v:Value}{xs:List Value}(hr:W.ownsRow base e size v n xs)(hl:∀q,v.ownBlock=some q->q<B):W'.ownsRow base e size v n xs :=
 qkm hr fun q hq=>by
  have hq2:=hl q hq;have no:∀{z:Value} {l:List ByteArray},OwnS W B z l->z.ownBlock≠some q:=fun hz hc=>by have:=q8q hz hc;omega
  exact h.block q (qkl hr hq) (no hk.r1) (no hk.r2) (no hk.r3)
theorem Kpt.below (h:Kpt z1 z2 z3 W W')(hk:OwnK K W B z1 z2 z3)(hB:B<=W.heap.size):Below B W W' :=
 ⟨h.os,h.tape,h.output,h.size,fun q hq=>by
  have no:∀{z:Value} {l:List ByteArray},OwnS W B z l->z.ownBlock≠some q:=fun hz hc=>by have:=q8q hz hc;omega
  exact h.block q (by omega) (no hk.r1) (no hk.r2) (no hk.r3)⟩
theorem FOw.kpt (h:Kpt z1 z2 z3 W W')(hk:OwnK K W B z1 z2 z3){base:Nat}{g:Fl}{A:FA}(hr:FOw W base g A):FOw W' base g A :=
 ⟨h.own hk hr.b (by decide),h.own hk hr.i (by decide),h.own hk hr.h (by decide),h.own hk hr.v (by decide),h.own hk hr.u (by decide)⟩
theorem MMk.kpt (hm:MMk R m P v1 v2 v3 v4 w W)(h:Kpt z1 z2 z3 W W')(hk:OwnK K W B z1 z2 z3)(hB:B<=W.heap.size)(hw:w.heap.size<=B)(hl:∀q,v1.ownBlock=some q->q<B):MMk R m P v1 v2 v3 v4 w W' :=
 ⟨h.blk hk hm.bx (by decide),⟨h.low hk hm.ow.l hl,h.own hk hm.ow.p (by decide),h.own hk hm.ow.r (by decide),⟨h.own hk hm.ow.f.row (by decide),fun p hp=>FOw.kpt h hk (hm.ow.f.sub p hp)⟩,hm.ow.e⟩,hm.bl.trans ((h.below hk hB).mono hw),h.blk hk hm.r0 (by decide),hm.hR⟩
theorem OwnK.grow (hk:OwnK K W B z1 z2 z3){base e size n:Nat}{v:Value}{xs:List Value}(hr:W.ownsRow base e size v n xs)(he:9≠e)(hg:W.grownBy W' v.ownBlock):OwnK K W' B z1 z2 z3 :=
 ⟨hk.r1.kept hg (qc2 hk.r1 hr he),hk.r2.kept hg (qc2 hk.r2 hr he),hk.r3.kept hg (qc2 hk.r3 hr he),hk.a12,hk.a13,hk.a23⟩
theorem OwnK.one (hk:OwnK K W B z1 z2 z3){g:Nat}{t:TypeId}{cs:List Value}(hb:Blk W g t cs)(ht:9≠t)(he:∀k,k≠g->W'.heap[k]? = W.heap[k]?):OwnK K W' B z1 z2 z3 :=
 ⟨qko hk.r1 hb ht he,qko hk.r2 hb ht he,qko hk.r3 hb ht he,hk.a12,hk.a13,hk.a23⟩
theorem OwnK.nil (hK:∀i,K i=[]):OwnK K W B Ya Ya Ya:=by
 have z:∀i,OwnS W B Ya (K i):=fun i=>by rw[hK i];exact World.ownsRow_nil _ _ _ _
 exact⟨z 1,z 2,z 3,fun q h=>(by cases h),fun q h=>(by cases h),fun q h=>(by cases h)⟩
theorem OwnK.slices (hk:OwnK K W B z1 z2 z3):∃x1 n1 k1 x2 n2 k2 x3 n3 k3,z1=.slice x1 n1 k1/\z2=.slice x2 n2 k2/\z3=.slice x3 n3 k3:=by
 obtain⟨s1,k1,e1,-,-⟩:=hk.r1.strs;obtain⟨s2,k2,e2,-,-⟩:=hk.r2.strs;obtain⟨s3,k3,e3,-,-⟩:=hk.r3.strs
 exact⟨_,_,_,_,_,_,_,_,_,e1,e2,e3⟩
theorem OwnK.pick (hk:OwnK K W B z1 z2 z3):PickV K W (.agg #[z1,z2,z3]):=by
 obtain⟨s1,k1,rfl,-,h1⟩:=hk.r1.strs;obtain⟨s2,k2,rfl,-,h2⟩:=hk.r2.strs;obtain⟨s3,k3,rfl,-,h3⟩:=hk.r3.strs
 exact⟨_,_,_,_,_,_,_,_,_,rfl,⟨rfl,h1⟩,⟨rfl,h2⟩,rfl,h3⟩
theorem OwnK.low (hk:OwnK K W B z1 z2 z3):(∀q,z1.ownBlock=some q->q<W.heap.size)/\(∀q,z2.ownBlock=some q->q<W.heap.size)/\∀q,z3.ownBlock=some q->q<W.heap.size:=⟨fun _ h=>qkl hk.r1 h,fun _ h=>qkl hk.r2 h,fun _ h=>qkl hk.r3 h⟩
theorem q7x (t:Int)(ht:t=1∨t=2∨t=3)(x:ByteArray)(hl:∀i,(K i).length<=100000)(h:OwnK K W B z1 z2 z3)(hb:B<=W.heap.size) :
 Calls Tryz.prog 71 #[.agg #[z1,z2,z3],J9 t,.string x] W fun e w'=>∃u1 u2 u3,e=.returned (.agg #[u1,u2,u3])/\OwnK (addK K t x) w' B u1 u2 u3/\Kpt z1 z2 z3 W w':=by
 rcases ht with rfl | rfl | rfl
 . exact qei K x W B z1 z2 z3 (hl 1) h hb
 . exact qej K x W B z1 z2 z3 (hl 2) h hb
 . exact qek K x W B z1 z2 z3 (hl 3) h hb
end
theorem q18 {w:World}{g:Nat}{a:Addr}(cells:Array Value)(h:a.block≠g):(w.setRow g cells).cell? a=w.cell? a:=by
 unfold World.cell?
 rw[setRow_other _ _ _ _ h]
theorem intL_n {w:World}{base c n:Nat}{a:Option Addr}{l:List Int}(h:OwI w base (.slice a n c) l)(hn:n=l.length):IntL w a l:=by
 subst hn
 exact qj6 h
structure En4 (tys:List Int)(KA KB:Int->List ByteArray)(B B4:Nat)(vt u1 u2 u3 z1 z2 z3:Value)(W:World):Prop where
 ty:OwI W B vt tys
 ab:Blk W (B+1) 110 [u1,u2,u3]
 ak:OwnK KA W B u1 u2 u3
 bb:Blk W B4 110 [z1,z2,z3]
 bk:OwnK KB W B4 z1 z2 z3
 lo:B+1<B4
 l1:∀q,u1.ownBlock=some q->q<B4
 l2:∀q,u2.ownBlock=some q->q<B4
 l3:∀q,u3.ownBlock=some q->q<B4
section
variable {tys:List Int} {KA KB KB':Int->List ByteArray} {B B4:Nat} {vt u1 u2 u3 z1 z2 z3 y1 y2 y3:Value}
theorem En4.mono (h:En4 tys KA KB B B4 vt u1 u2 u3 z1 z2 z3 W)(hb:Below W.heap.size W W'):En4 tys KA KB B B4 vt u1 u2 u3 z1 z2 z3 W' :=
 ⟨qbw h.ty hb,h.ab.mono hb h.ab.lt,h.ak.keep hb,h.bb.mono hb h.bb.lt,h.bk.keep hb,h.lo,h.l1,h.l2,h.l3⟩
theorem En4.grow (h:En4 tys KA KB B B4 vt u1 u2 u3 z1 z2 z3 W){base size n:Nat}{v:Value}{xs:List Value}(hr:W.ownsRow base 42 size v n xs)(hg:W.grownBy W' v.ownBlock):En4 tys KA KB B B4 vt u1 u2 u3 z1 z2 z3 W' :=
 ⟨h.ty.kept hg (qc2 h.ty hr (by decide)),h.ab.grow hr (by decide) hg,h.ak.grow hr (by decide) hg,h.bb.grow hr (by decide) hg,h.bk.grow hr (by decide) hg,h.lo,h.l1,h.l2,h.l3⟩
theorem En4.one (h:En4 tys KA KB B B4 vt u1 u2 u3 z1 z2 z3 W){cs:List Value}(hb:Blk W R 28 cs)(he:∀k,k≠R->W'.heap[k]? = W.heap[k]?)(n1:B+1≠R)(n2:B4≠R):En4 tys KA KB B B4 vt u1 u2 u3 z1 z2 z3 W' :=
 ⟨qko h.ty hb (by decide) he,(he _ n1).trans h.ab,h.ak.one hb (by decide) he,(he _ n2).trans h.bb,h.bk.one hb (by decide) he,h.lo,h.l1,h.l2,h.l3⟩
theorem En4.kpt (h:En4 tys KA KB B B4 vt u1 u2 u3 z1 z2 z3 W)(hk:Kpt z1 z2 z3 W W')(hy:OwnK KB' W' B4 y1 y2 y3):En4 tys KA KB' B B4 vt u1 u2 u3 y1 y2 y3 (W'.setRow B4 #[y1,y2,y3]):=by
 have b4:=hk.blk h.bk h.bb (by decide)
 have lo:=h.lo
 have ks:∀j,j≠B4->(W'.setRow B4 #[y1,y2,y3]).heap[j]? = W'.heap[j]?:=fun j hj=>setRow_other _ _ _ _ hj
 have ak:OwnK KA W' B u1 u2 u3:=⟨hk.low h.bk h.ak.r1 h.l1,hk.low h.bk h.ak.r2 h.l2,hk.low h.bk h.ak.r3 h.l3,h.ak.a12,h.ak.a13,h.ak.a23⟩
 exact⟨qko (hk.own h.bk h.ty (by decide)) b4 (by decide) ks,(ks _ (by omega)).trans (hk.blk h.bk h.ab (by decide)),ak.one b4 (by decide) ks,b4.row [y1,y2,y3],hy.one b4 (by decide) ks,lo,h.l1,h.l2,h.l3⟩
theorem En4.at (h:En4 tys KA KB B B4 vt u1 u2 u3 z1 z2 z3 W){x:Option Addr}{c:Nat}(hv:vt=.slice x tys.length c){k:Nat}(hk:k<tys.length):∃b o,x=some ⟨b,o,none⟩/\b<W.heap.size/\W.cell? ⟨b,o+k,none⟩=some (J9 (tys.getD k 0)):=by
 have:=h.ty
 rw[hv]at this
 exact qj6 this k hk
theorem MMk.four (hm:MMk R m P v1 v2 v3 v4 w W)(h:Kpt z1 z2 z3 W W')(hk:OwnK KB W B4 z1 z2 z3)(hB:B4<=W.heap.size)(hw:w.heap.size<B4)(hl:∀q,v1.ownBlock=some q->q<B4)(h4:Blk W B4 110 [u1,u2,u3])(cs:Array Value)(hR:B4≠R):MMk R m P v1 v2 v3 v4 w (W'.setRow B4 cs):=by
 have m1:=hm.kpt h hk hB (by omega) hl
 have b4:=h.blk hk h4 (by decide)
 have hR2:=hm.hR
 exact⟨m1.bx.row_other (Ne.symm hR) _,m1.ow.one b4 (by decide) (by decide) (by decide) (by decide) (by decide) (by decide) (fun k hk=>setRow_other W' B4 k cs hk),below_setRow m1.bl (by omega) _,m1.r0.row_other (by omega) _,hR2⟩
end
theorem qg3 {α:Type}(l:List α){j:Nat}(hj:j<l.length):l.reverse.take (l.length - j)=l.reverse.take (l.length - (j+1))++[l[j]]:=by
 have h:l.length - j=(l.length - (j+1))+1:=by omega
 rw[h,Vv]
 congr 1
 have h2:l.length - (j+1)<l.reverse.length:=by rw[Y8];omega
 rw[Yi h2,List.getElem_reverse]
 simp only[Option.toList_some,List.cons.injEq,and_true]
 congr 1
 omega
theorem IntL.other {a:Option Addr}{l:List Int}(h:IntL W a l){cs:List Value}(hb:Blk W R 28 cs)(hc:∀(j:Nat) (i:Int),cs[j]?≠some (Value.int .i64 i))(hk:∀k,k≠R->W'.heap[k]? = W.heap[k]?)(hs:W.heap.size<=W'.heap.size):IntL W' a l:=fun k hk'=>by
 obtain⟨b,o,e,h1,h2⟩:=h k hk'
 have hne:b≠R:=fun e'=>by
  subst e';rw[hb.cell]at h2;exact hc _ _ h2
 refine⟨b,o,e,by omega,?_⟩
 rw[<- h2]
 unfold World.cell?
 rw[hk b hne]
theorem qis (a1 a2 a3 a4:Option Addr)(n1 n2 n3 n4 c1 c2 c3 c4:Nat):∀(j:Nat) (i:Int),[Value.slice a1 n1 c1,.slice a2 n2 c2,.slice a3 n3 c3,.slice a4 n4 c4][j]?≠some (J9 i):=fun j i h=>by
 match j,h with
 | 0,h=>cases h
 | 1,h=>cases h
 | 2,h=>cases h
 | 3,h=>cases h
 | _+4,h=>cases h
end
end Go.Proofs.YtebbgodlijlioaaGreatDoor
