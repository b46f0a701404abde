import Derived.Test.YtebbgodlijlioaaGreatDoorW42
namespace Go.Proofs.YtebbgodlijlioaaGreatDoor
open Go Go.RowKit
theorem FCel.rng {w:World}{b o:Nat}{g:Fl}{A:FA}(h:FCel w b o g A):w.rangeAt b o (fCs g A):=fun j v hj=>by
 obtain⟨-,h0,h1,h2,h3,h4,h5,h6,h7,h8⟩:=h
 match j,hj with
 | 0,hj=>cases hj;exact h0
 | 1,hj=>cases hj;exact h1
 | 2,hj=>cases hj;exact h2
 | 3,hj=>cases hj;exact h3
 | 4,hj=>cases hj;exact h4
 | 5,hj=>cases hj;exact h5
 | 6,hj=>cases hj;exact h6
 | 7,hj=>cases hj;exact h7
 | 8,hj=>cases hj;exact h8
 | _+9,hj=>cases hj
theorem Blk.rng {w:World}{g:Nat}{t:TypeId}{cs:List Value}(h:Blk w g t cs):w.rangeAt g 0 cs:=fun j v hj=>by rw[Zi];exact(h.cell j).trans hj
theorem qi2 {n j:Nat}(h:j<n):n - (intOf (J9 ((j:Int)+1))).toNat<n - (intOf (J9 (j:Int))).toNat:=by
 simp[intOf]
 omega
section
variable {R:Nat} {m:Fm} {P:List (Fl × FA)} {v1 v2 v3 v4:Value} {w W W':World}
theorem Blk.grow {q:Nat}{t:TypeId}{cs:List Value}{base e size n:Nat}{v:Value}{xs:List Value}(h:Blk W q t cs)(hr:W.ownsRow base e size v n xs)(he:e≠t)(hg:W.grownBy W' v.ownBlock):Blk W' q t cs:=(hg.block _ h.lt (fun e'=>qdq hr h he e'.symm)).trans h
theorem MMk.setP (h:MMk R m P v1 v2 v3 v4 w W){l:List (Int × Int)}{v':Value}(hp:OwP W w.heap.size v' l):MMk R { m with P:=l } P v1 v' v3 v4 w (W.setCell ⟨R,1,none⟩ v'):=by
 have hR:=h.hR
 have ow:OwM W w.heap.size v1 v' v3 v4 { m with P:=l } P:=⟨h.ow.l,hp,h.ow.r,h.ow.f,h.ow.e⟩
 exact⟨h.bx.set 1 _,ow.formSet h.bx 1 _,h.bl.setCell (show w.heap.size<=R by omega) _,h.r0.other _ (show w.heap.size≠R by omega),hR⟩
theorem MMk.setF (h:MMk R m P v1 v2 v3 v4 w W){P':List (Fl × FA)}{v':Value}(hp:OwF W w.heap.size v' P'):MMk R { m with F:=P'.map (·.1) } P' v1 v2 v3 v' w (W.setCell ⟨R,3,none⟩ v'):=by
 have hR:=h.hR
 have ow:OwM W w.heap.size v1 v2 v3 v' { m with F:=P'.map (·.1) } P':=⟨h.ow.l,h.ow.p,h.ow.r,hp,rfl⟩
 exact⟨h.bx.set 3 _,ow.formSet h.bx 3 _,h.bl.setCell (show w.heap.size<=R by omega) _,h.r0.other _ (show w.heap.size≠R by omega),hR⟩
theorem MMk.rowF (h:MMk R m P v1 v2 v3 v4 w W){P':List (Fl × FA)}{v':Value}(hp:OwF W w.heap.size v' P'):MMk R { m with F:=P'.map (·.1) } P' v1 v2 v3 v' w (W.setRow R #[v1,v2,v3,v']):=by
 have hR:=h.hR
 have ow:OwM W w.heap.size v1 v2 v3 v' { m with F:=P'.map (·.1) } P':=⟨h.ow.l,h.ow.p,h.ow.r,hp,rfl⟩
 exact⟨h.bx.row [v1,v2,v3,v'],ow.one h.bx (by decide) (by decide) (by decide) (by decide) (by decide) (by decide) (fun k hk=>setRow_other W R k #[v1,v2,v3,v'] hk),below_setRow h.bl (show w.heap.size<=R by omega) _,h.r0.row_other (show w.heap.size≠R by omega) _,hR⟩
section
variable {K:Int->List ByteArray} {B:Nat} {z1 z2 z3:Value}
theorem Kpt.blk (h:Kpt z1 z2 z3 W W')(hk:OwnK K W B z1 z2 z3){q:Nat}{t:TypeId}{cs:List Value}(hb:Blk W q t cs)(ht:9≠t):Blk W' q t cs :=
 (h.block q hb.lt (qdq hk.r1 hb ht) (qdq hk.r2 hb ht) (qdq hk.r3 hb ht)).trans hb
theorem qbz {base e size n base' e' size' n':Nat}{v v':Value}{xs xs':List Value}(h:W.ownsRow base e size v n xs)(h':W.ownsRow base' e' size' v' n' xs')(he:e≠e'){q:Nat}(hq:v.ownBlock=some q):v'.ownBlock≠some q:=fun hc=>by
 rcases qaw h h' he with h1 | h1
 . rw[h1]at hq;cases hq
 . exact h1 (hq.trans hc.symm)
theorem Kpt.own (h:Kpt z1 z2 z3 W W')(hk:OwnK K W B z1 z2 z3){base e size n:Nat}{v:Value}{xs:List Value}(hr:W.ownsRow base e size v n xs)(he:e≠9):W'.ownsRow base e size v n xs :=
 qih hr fun q hq=>h.block q (qig hr hq) (qbz hr hk.r1 he hq) (qbz hr hk.r2 he hq) (qbz hr hk.r3 he hq)
theorem Kpt.low (h:Kpt z1 z2 z3 W W')(hk:OwnK K W B z1 z2 z3){base e size n:Nat}{v:Value}{xs:List Value}(hr:W.ownsRow base e size v n xs)(hl:∀q,v.ownBlock=some q->q<B):W'.ownsRow base e size v n xs :=
 qih hr fun q hq=>by
  have hq2:=hl q hq;have no:∀{z:Value} {l:List ByteArray},OwnS W B z l->z.ownBlock≠some q:=fun hz hc=>by have:=q87 hz hc;omega
  exact h.block q (qig hr hq) (no hk.r1) (no hk.r2) (no hk.r3)
theorem Kpt.below (h:Kpt z1 z2 z3 W W')(hk:OwnK K W B z1 z2 z3)(hB:B<=W.heap.size):Below B W W' :=
 ⟨h.os,h.tape,h.output,h.size,fun q hq=>by
  have no:∀{z:Value} {l:List ByteArray},OwnS W B z l->z.ownBlock≠some q:=fun hz hc=>by have:=q87 hz hc;omega
  exact h.block q (by omega) (no hk.r1) (no hk.r2) (no hk.r3)⟩
theorem FOw.kpt (h:Kpt z1 z2 z3 W W')(hk:OwnK K W B z1 z2 z3){base:Nat}{g:Fl}{A:FA}(hr:FOw W base g A):FOw W' base g A :=
 ⟨h.own hk hr.b (by decide),h.own hk hr.i (by decide),h.own hk hr.h (by decide),h.own hk hr.v (by decide),h.own hk hr.u (by decide)⟩
theorem MMk.kpt (hm:MMk R m P v1 v2 v3 v4 w W)(h:Kpt z1 z2 z3 W W')(hk:OwnK K W B z1 z2 z3)(hB:B<=W.heap.size)(hw:w.heap.size<=B)(hl:∀q,v1.ownBlock=some q->q<B):MMk R m P v1 v2 v3 v4 w W' :=
 ⟨h.blk hk hm.bx (by decide),⟨h.low hk hm.ow.l hl,h.own hk hm.ow.p (by decide),h.own hk hm.ow.r (by decide),⟨h.own hk hm.ow.f.row (by decide),fun p hp=>FOw.kpt h hk (hm.ow.f.sub p hp)⟩,hm.ow.e⟩,hm.bl.trans ((h.below hk hB).mono hw),h.blk hk hm.r0 (by decide),hm.hR⟩
theorem OwnK.grow (hk:OwnK K W B z1 z2 z3){base e size n:Nat}{v:Value}{xs:List Value}(hr:W.ownsRow base e size v n xs)(he:9≠e)(hg:W.grownBy W' v.ownBlock):OwnK K W' B z1 z2 z3 :=
 ⟨hk.r1.kept hg (qaw hk.r1 hr he),hk.r2.kept hg (qaw hk.r2 hr he),hk.r3.kept hg (qaw hk.r3 hr he),hk.a12,hk.a13,hk.a23⟩
theorem OwnK.one (hk:OwnK K W B z1 z2 z3){g:Nat}{t:TypeId}{cs:List Value}(hb:Blk W g t cs)(ht:9≠t)(he:∀k,k≠g->W'.heap[k]? = W.heap[k]?):OwnK K W' B z1 z2 z3 :=
 ⟨qij hk.r1 hb ht he,qij hk.r2 hb ht he,qij hk.r3 hb ht he,hk.a12,hk.a13,hk.a23⟩
theorem OwnK.nil (hK:∀i,K i=[]):OwnK K W B Ya Ya Ya:=by
 have z:∀i,OwnS W B Ya (K i):=fun i=>by rw[hK i];exact World.ownsRow_nil _ _ _ _
 exact⟨z 1,z 2,z 3,fun q h=>(by cases h),fun q h=>(by cases h),fun q h=>(by cases h)⟩
theorem OwnK.slices (hk:OwnK K W B z1 z2 z3):∃x1 n1 k1 x2 n2 k2 x3 n3 k3,z1=.slice x1 n1 k1/\z2=.slice x2 n2 k2/\z3=.slice x3 n3 k3:=by
 obtain⟨s1,k1,e1,-,-⟩:=hk.r1.strs;obtain⟨s2,k2,e2,-,-⟩:=hk.r2.strs;obtain⟨s3,k3,e3,-,-⟩:=hk.r3.strs
 exact⟨_,_,_,_,_,_,_,_,_,e1,e2,e3⟩
theorem OwnK.pick (hk:OwnK K W B z1 z2 z3):PickV K W (.agg #[z1,z2,z3]):=by
 obtain⟨s1,k1,rfl,-,h1⟩:=hk.r1.strs;obtain⟨s2,k2,rfl,-,h2⟩:=hk.r2.strs;obtain⟨s3,k3,rfl,-,h3⟩:=hk.r3.strs
 exact⟨_,_,_,_,_,_,_,_,_,rfl,⟨rfl,h1⟩,⟨rfl,h2⟩,rfl,h3⟩
theorem OwnK.low (hk:OwnK K W B z1 z2 z3):(∀q,z1.ownBlock=some q->q<W.heap.size)/\(∀q,z2.ownBlock=some q->q<W.heap.size)/\∀q,z3.ownBlock=some q->q<W.heap.size:=⟨fun _ h=>qig hk.r1 h,fun _ h=>qig hk.r2 h,fun _ h=>qig hk.r3 h⟩
theorem q7h (t:Int)(ht:t=1∨t=2∨t=3)(x:ByteArray)(hl:∀i,(K i).length<=100000)(h:OwnK K W B z1 z2 z3)(hb:B<=W.heap.size) :
 Calls Tryz.prog 71 #[.agg #[z1,z2,z3],J9 t,.string x] W fun e w'=>∃u1 u2 u3,e=.returned (.agg #[u1,u2,u3])/\OwnK (addK K t x) w' B u1 u2 u3/\Kpt z1 z2 z3 W w':=by
 rcases ht with rfl | rfl | rfl
 . exact qd0 K x W B z1 z2 z3 (hl 1) h hb
 . exact qd1 K x W B z1 z2 z3 (hl 2) h hb
 . exact qd2 K x W B z1 z2 z3 (hl 3) h hb
end
theorem q1c {w:World}{g:Nat}{a:Addr}(cells:Array Value)(h:a.block≠g):(w.setRow g cells).cell? a=w.cell? a:=by
 unfold World.cell?
 rw[setRow_other _ _ _ _ h]
theorem intL_n {w:World}{base c n:Nat}{a:Option Addr}{l:List Int}(h:OwI w base (.slice a n c) l)(hn:n=l.length):IntL w a l:=by
 subst hn
 exact qh5 h
structure En4 (tys:List Int)(KA KB:Int->List ByteArray)(B B4:Nat)(vt u1 u2 u3 z1 z2 z3:Value)(W:World):Prop where
 ty:OwI W B vt tys
 ab:Blk W (B+1) 110 [u1,u2,u3]
 ak:OwnK KA W B u1 u2 u3
 bb:Blk W B4 110 [z1,z2,z3]
 bk:OwnK KB W B4 z1 z2 z3
 lo:B+1<B4
 l1:∀q,u1.ownBlock=some q->q<B4
 l2:∀q,u2.ownBlock=some q->q<B4
 l3:∀q,u3.ownBlock=some q->q<B4
section
variable {tys:List Int} {KA KB KB':Int->List ByteArray} {B B4:Nat} {vt u1 u2 u3 z1 z2 z3 y1 y2 y3:Value}
theorem En4.mono (h:En4 tys KA KB B B4 vt u1 u2 u3 z1 z2 z3 W)(hb:Below W.heap.size W W'):En4 tys KA KB B B4 vt u1 u2 u3 z1 z2 z3 W' :=
 ⟨qap h.ty hb,h.ab.mono hb h.ab.lt,h.ak.keep hb,h.bb.mono hb h.bb.lt,h.bk.keep hb,h.lo,h.l1,h.l2,h.l3⟩
theorem En4.grow (h:En4 tys KA KB B B4 vt u1 u2 u3 z1 z2 z3 W){base size n:Nat}{v:Value}{xs:List Value}(hr:W.ownsRow base 42 size v n xs)(hg:W.grownBy W' v.ownBlock):En4 tys KA KB B B4 vt u1 u2 u3 z1 z2 z3 W' :=
 ⟨h.ty.kept hg (qaw h.ty hr (by decide)),h.ab.grow hr (by decide) hg,h.ak.grow hr (by decide) hg,h.bb.grow hr (by decide) hg,h.bk.grow hr (by decide) hg,h.lo,h.l1,h.l2,h.l3⟩
theorem En4.one (h:En4 tys KA KB B B4 vt u1 u2 u3 z1 z2 z3 W){cs:List Value}(hb:Blk W R 28 cs)(he:∀k,k≠R->W'.heap[k]? = W.heap[k]?)(n1:B+1≠R)(n2:B4≠R):En4 tys KA KB B B4 vt u1 u2 u3 z1 z2 z3 W' :=
 ⟨qij h.ty hb (by decide) he,(he _ n1).trans h.ab,h.ak.one hb (by decide) he,(he _ n2).trans h.bb,h.bk.one hb (by decide) he,h.lo,h.l1,h.l2,h.l3⟩
theorem En4.kpt (h:En4 tys KA KB B B4 vt u1 u2 u3 z1 z2 z3 W)(hk:Kpt z1 z2 z3 W W')(hy:OwnK KB' W' B4 y1 y2 y3):En4 tys KA KB' B B4 vt u1 u2 u3 y1 y2 y3 (W'.setRow B4 #[y1,y2,y3]):=by
 have b4:=hk.blk h.bk h.bb (by decide)
 have lo:=h.lo
 have ks:∀j,j≠B4->(W'.setRow B4 #[y1,y2,y3]).heap[j]? = W'.heap[j]?:=fun j hj=>setRow_other _ _ _ _ hj
 have ak:OwnK KA W' B u1 u2 u3:=⟨hk.low h.bk h.ak.r1 h.l1,hk.low h.bk h.ak.r2 h.l2,hk.low h.bk h.ak.r3 h.l3,h.ak.a12,h.ak.a13,h.ak.a23⟩
 exact⟨qij (hk.own h.bk h.ty (by decide)) b4 (by decide) ks,(ks _ (by omega)).trans (hk.blk h.bk h.ab (by decide)),ak.one b4 (by decide) ks,b4.row [y1,y2,y3],hy.one b4 (by decide) ks,lo,h.l1,h.l2,h.l3⟩
theorem En4.at (h:En4 tys KA KB B B4 vt u1 u2 u3 z1 z2 z3 W){x:Option Addr}{c:Nat}(hv:vt=.slice x tys.length c){k:Nat}(hk:k<tys.length):∃b o,x=some ⟨b,o,none⟩/\b<W.heap.size/\W.cell? ⟨b,o+k,none⟩=some (J9 (tys.getD k 0)):=by
 have:=h.ty
 rw[hv]at this
 exact qh5 this k hk
theorem MMk.four (hm:MMk R m P v1 v2 v3 v4 w W)(h:Kpt z1 z2 z3 W W')(hk:OwnK KB W B4 z1 z2 z3)(hB:B4<=W.heap.size)(hw:w.heap.size<B4)(hl:∀q,v1.ownBlock=some q->q<B4)(h4:Blk W B4 110 [u1,u2,u3])(cs:Array Value)(hR:B4≠R):MMk R m P v1 v2 v3 v4 w (W'.setRow B4 cs):=by
 have m1:=hm.kpt h hk hB (by omega) hl
 have b4:=h.blk hk h4 (by decide)
 have hR2:=hm.hR
 exact⟨m1.bx.row_other (Ne.symm hR) _,m1.ow.one b4 (by decide) (by decide) (by decide) (by decide) (by decide) (by decide) (fun k hk=>setRow_other W' B4 k cs hk),below_setRow m1.bl (by omega) _,m1.r0.row_other (by omega) _,hR2⟩
end
theorem qea {α:Type}(l:List α){j:Nat}(hj:j<l.length):l.reverse.take (l.length - j)=l.reverse.take (l.length - (j+1))++[l[j]]:=by
 have h:l.length - j=(l.length - (j+1))+1:=by omega
 rw[h,Vu]
 congr 1
 have h2:l.length - (j+1)<l.reverse.length:=by rw[Y6];omega
 rw[Yj h2,List.getElem_reverse]
 simp only[Option.toList_some,List.cons.injEq,and_true]
 congr 1
 omega
theorem IntL.other {a:Option Addr}{l:List Int}(h:IntL W a l){cs:List Value}(hb:Blk W R 28 cs)(hc:∀(j:Nat) (i:Int),cs[j]?≠some (Value.int .i64 i))(hk:∀k,k≠R->W'.heap[k]? = W.heap[k]?)(hs:W.heap.size<=W'.heap.size):IntL W' a l:=fun k hk'=>by
 obtain⟨b,o,e,h1,h2⟩:=h k hk'
 have hne:b≠R:=fun e'=>by
  subst e';rw[hb.cell]at h2;exact hc _ _ h2
 refine⟨b,o,e,by omega,?_⟩
 rw[<- h2]
 unfold World.cell?
 rw[hk b hne]
theorem qgn (a1 a2 a3 a4:Option Addr)(n1 n2 n3 n4 c1 c2 c3 c4:Nat):∀(j:Nat) (i:Int),[Value.slice a1 n1 c1,.slice a2 n2 c2,.slice a3 n3 c3,.slice a4 n4 c4][j]?≠some (J9 i):=fun j i h=>by
 match j,h with
 | 0,h=>cases h
 | 1,h=>cases h
 | 2,h=>cases h
 | 3,h=>cases h
 | _+4,h=>cases h
end
theorem q71 (w:World)(r:Option Nat):w.grownBy w r:=⟨rfl,rfl,rfl,nR _,fun _ _ _=>rfl⟩
theorem q6a {ops:Array Oper}{rest:List Oper}{o:Oper}{a:Act}{Q:Exit->Act->World->Prop}{w:World}(hgd:o.guard=.none)(s x:Operand)(t e:TypeId)(i0:TypeInfo)(z:Value)(size bytes:Nat)
 (ho:o.op=.call { callee:=.builtin .append,args:=#[s,x],argTypes:=#[t,t] }) (ht:Tryz.prog.underlying t=some (.slice e)) (hi:Tryz.prog.info? e=some i0) (hz0:i0.zero=some z) (hz1:i0.size=size) (hz2:i0.bytes=bytes) (hzs:z.cells.size=size) (hsz:0<size)
 {base base2 n n2:Nat} {v v2:Value} {xs ys:List Value} (hs:a.eval s=v) (hown:w.ownsRow base e size v n xs) (hx:a.eval x=v2) (hy:w.ownsRow base2 e size v2 n2 ys) (h1:∀u,u∈ys->u.oneCell'=true)
 (hl:n+n2<=1000000) (hby:bytes<=1000) (hbase:base<=w.heap.size)
 (h:∀v' w',w'.ownsRow base e size v' (n+n2) (xs++ys)->w.grownBy w' v.ownBlock->Below base w w'->wpList Tryz.prog ops Q rest (a.put o.dst v') w'):wpList Tryz.prog ops Q (o :: rest) a w:=by
 have hyl:=hy.1
 rcases hy.2 with ⟨rfl,rfl⟩ | ⟨g,cap,cur,rfl,hg,hq,h4,h5,h6,h7⟩
 . have hnil:ys=[]:=Z8.1 (by rw[hyl,Nat.zero_mul])
   subst hnil;refine wpList_append_own_none hgd s x t ho base e i0 size ht hi v n xs hs hown hx ?_;exact h v w (by simpa using hown) (q71 _ _) (bR _ _)
 . have hb:Blk w g e cur.toList:=by
    show w.heap[g]? = _;rw[hq]
   have hm:(n+n2)*bytes<=140737488355328:=Ys (Vn hl hby) (by decide);refine wpList_append_own w hgd s x t ho base e i0 z size bytes ht hi hz0 hz1 hz2 hzs hsz v n xs hs hown ⟨g,0,none⟩ n2 cap ys hx hyl (fun j u hu=>?_) h1 (by unfold maxLen;omega) hm hbase (fun v' w' h1 h2 _=>h v' w' h1 h2 ((bR base w).grown h2 hbase (fun q e=>q87 hown e)));rw[Addr.add_mid,Zi,hb.cell,<- hu,<- h7,Vo];have:=(List.getElem?_eq_some_iff.1 hu).1;omega
def ovr:List Value->Nat->List Value->List Value
 | xs,_,[]=>xs
 | xs,o,c :: r=>ovr (xs.set o c) (o+1) r
theorem qif:∀(cs:List Value) (xs:List Value) (o:Nat),(ovr xs o cs).length=xs.length
 | [],_,_=>rfl
 | c :: r,xs,o=>by rw[ovr,qif r];simp
theorem qam:∀(cs:List Value) (xs zs ys:List Value),zs.length=cs.length->ovr (xs++(zs++ys)) xs.length cs=xs++(cs++ys)
 | [],xs,zs,ys,h=>by rw[Z8.1 h];rfl
 | c :: r,xs,zs,ys,h=>by
  cases zs with
  | nil=>cases h
  | cons z zs =>
   rw[ovr,Z3,List.set_append_right _ _ (nR _),Nat.sub_self,Yd];have:=qam r (xs++[c]) zs ys (by simpa using h);rw[Yg]at this;simpa using this
theorem qgi {P:List (Fl × FA)}{k:Nat}(hk:k<P.length)(x:Fl × FA):ovr (fdV P) (k*9) (fCs x.1 x.2)=fdV (P.set k x):=by
 have hP:P=P.take k++P[k] :: P.drop (k+1):=by rw[<- Vy hk,Vf]
 have hl:(fdV (P.take k)).length=k*9:=by unfold fdV;rw[qcj (s:=9) (fun _=>rfl),Y3,Oo (by omega)]
 have e1:fdV P=fdV (P.take k)++(fCs P[k].1 P[k].2++fdV (P.drop (k+1))):=by
  conv=>lhs;rw[hP]
  unfold fdV;rw[Zq,Zo]
 have e2:fdV (P.set k x)=fdV (P.take k)++(fCs x.1 x.2++fdV (P.drop (k+1))):=by
  rw[List.set_eq_take_append_cons_drop,Yy hk];unfold fdV;rw[Zq,Zo]
 rw[e1,e2,<- hl]
 exact qam _ _ _ _ rfl
theorem q2y (b:Nat)(t:TypeId):∀(cs:List Value) (o:Nat) (w:World) (cur:List Value),Blk w b t cur->Blk (w.setCells b o cs) b t (ovr cur o cs)
 | [],_,_,_,h=>h
 | c :: r,o,w,cur,h=>by rw[World.setCells,ovr];exact q2y b t r (o+1) _ _ (h.set o c)
theorem q23 (b:Nat):∀(cs:List Value) (o:Nat) (w:World) (k:Nat),k≠b->(w.setCells b o cs).heap[k]? = w.heap[k]?
 | [],_,_,_,_=>rfl
 | c :: r,o,w,k,h=>by rw[World.setCells,q23 b r (o+1) _ k h];exact heap_setCell_other _ _ _ _ h
theorem q22 {B b:Nat}{a:World}(hB:B<=b):∀(cs:List Value) (o:Nat) (w:World),Below B a w->Below B a (w.setCells b o cs)
 | [],_,_,h=>h
 | c :: r,o,w,h=>by rw[World.setCells];exact q22 hB r (o+1) _ (h.setCell hB c)
theorem qdo:∀(cs:List Value) (xs:List Value) (o n:Nat),(ovr xs o cs).take n=ovr (xs.take n) o cs
 | [],_,_,_=>rfl
 | c :: r,xs,o,n=>by rw[ovr,ovr,qdo r,List.take_set]
theorem qdr {w:World}{base g c:Nat}{P:List (Fl × FA)}(h:w.ownsRow base 42 9 (.slice (some ⟨g,0,none⟩) P.length c) P.length (fdV P)){k:Nat}(hk:k<P.length)(x:Fl × FA) :
 w.there g (k*9) 9/\(w.setCells g (k*9) (fCs x.1 x.2)).ownsRow base 42 9 (.slice (some ⟨g,0,none⟩) P.length c) (P.set k x).length (fdV (P.set k x)):=by
 rcases h.2 with ⟨e,h'⟩ | ⟨g',cap,cur,e,hg,hq,h4,h5,h6,h7⟩
 . cases e
 . cases e
   have hb:Blk w g 42 cur.toList:=by
    show w.heap[g]? = _;rw[hq]
   refine⟨fun j hj=>⟨?_,hb.free _⟩,by rw[Zz];unfold fdV;rw[qcj (s:=9) (fun _=>rfl),Zz],.inr ⟨g,c,(ovr cur.toList (k*9) (fCs x.1 x.2)).toArray,by rw[Zz],hg,q2y g _ _ _ _ _ hb,by rw[Zz];exact h4,h5,by simp[qif,h6],?_⟩⟩
   . have:k*9+j<cur.toList.length:=by rw[Array.length_toList,h6];omega
     rw[hb.cell,Yj this];rfl
   . rw[Zz,<- qgi hk x,<- h7,<- qdo]
end Go.Proofs.YtebbgodlijlioaaGreatDoor
