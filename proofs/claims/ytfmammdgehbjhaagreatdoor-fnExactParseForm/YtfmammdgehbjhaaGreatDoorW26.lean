import Derived.Test.YtfmammdgehbjhaaGreatDoorW25
namespace Go.Proofs.YtfmammdgehbjhaaGreatDoor
open Go Go.RowKit
theorem rw_k (w:World)(g:Nat)(cells:Array Value):∀k,k≠g->(w.setRow g cells).heap[k]? = w.heap[k]?:=fun k hk=>setRow_other w g k cells hk
theorem cel_k (w:World)(g o:Nat)(x:Value):∀k,k≠g->(w.setCell ⟨g,o,none⟩ x).heap[k]? = w.heap[k]?:=fun k hk=>heap_setCell_other w ⟨g,o,none⟩ k x hk
def zero13:List Value:=[.int .i64 0,.string ⟨#[]⟩,.slice none 0 0,.slice none 0 0,.string ⟨#[]⟩,.int .i64 0,.int .i64 0,.slice none 0 0,.slice none 0 0,.slice none 0 0,.slice none 0 0,.string ⟨#[]⟩,.slice none 0 0]
structure FsJ (w0:World)(a:Option Addr)(c:Nat)(l:List ByteArray)(B G2 G3:Nat)(W:World)(i:Nat)(row al:List Value)(vl:Value)(lb:List ByteArray)(vr:Value)(r:List ByteArray)(vi:Value)(ei:List Nx)(vh:Value)(eh:List Nx)(vv:Value)(ev:List Nx)(vm:Value)(em:List Nx):Prop where
 rd:∃v ns,Rdr w0 a c l W i 0 v ns
 b2:Blk W G2 96 zero13
 b3:Blk W G3 96 row
 g1:w0.heap.size<B
 g2:B<=G2
 g3:G2<G3
 ol:OwnS W B vl lb
 orr:OwnS W B vr r
 oi:OwnN W B vi ei
 oh:OwnN W B vh eh
 ov:OwnN W B vv ev
 om:OwnN W B vm em
 asc:Asc B al W.heap.size
section
variable {w0:World} {a:Option Addr} {c:Nat} {l:List ByteArray} {B G2 G3:Nat} {W W':World} {i i':Nat} {row al:List Value} {vl vr vi vh vv vm:Value} {lb r:List ByteArray} {ei eh ev em:List Nx}
theorem Kp.ownS {R:Nat}{w w':World}(h:Kp R w w'){base:Nat}{v:Value}{l:List ByteArray}(ho:OwnS w base v l)(hb:R<base):OwnS w' base v l:=h.owns ho hb
theorem FsJ.kp (h:FsJ w0 a c l B G2 G3 W i row al vl lb vr r vi ei vh eh vv ev vm em)(hk:Kp w0.heap.size W W'){v:Value}{ns:List Nx}(hr:Rdr w0 a c l W' i' 0 v ns):FsJ w0 a c l B G2 G3 W' i' row al vl lb vr r vi ei vh eh vv ev vm em :=
 have g1:=h.g1;have g2:=h.g2;have g3:=h.g3
 ⟨⟨v,ns,hr⟩,hk.blk h.b2 (by omega),hk.blk h.b3 (by omega),g1,g2,g3,hk.ownS h.ol g1,hk.ownS h.orr g1,hk.ownN h.oi g1,hk.ownN h.oh g1,hk.ownN h.ov g1,hk.ownN h.om g1,h.asc.up hk.size⟩
theorem Rdr.oth {d:Nat}{v:Value}{ns:List Nx}(h:Rdr w0 a c l W i d v ns){G:Nat}{cs:List Value}(hG:Blk W G 96 cs)(hg:w0.heap.size<G)(j:Nat)(x:Value):Rdr w0 a c l (W.setCell ⟨G,j,none⟩ x) i d v ns :=
 ⟨h.blk.other (a:=⟨G,j,none⟩) x (by show w0.heap.size≠G;omega),qi3 h.own hG (by decide) (cel_k W G j x),h.bel.setCell (p:=⟨G,j,none⟩) (by show w0.heap.size<=G;omega) x⟩
theorem FsJ.set (h:FsJ w0 a c l B G2 G3 W i row al vl lb vr r vi ei vh eh vv ev vm em)(j:Nat)(x:Value):FsJ w0 a c l B G2 G3 (W.setCell ⟨G3,j,none⟩ x) i (row.set j x) al vl lb vr r vi ei vh eh vv ev vm em :=
 have g1:=h.g1;have g2:=h.g2;have g3:=h.g3
 have k:=cel_k W G3 j x
 ⟨h.rd.elim fun v h'=>h'.elim fun ns h'=>⟨v,ns,h'.oth h.b3 (by omega) j x⟩,h.b2.other (a:=⟨G3,j,none⟩) x (by show G2≠G3;omega),h.b3.set j x,g1,g2,g3,qi3 h.ol h.b3 (by decide) k,qi3 h.orr h.b3 (by decide) k,qi3 h.oi h.b3 (by decide) k,qi3 h.oh h.b3 (by decide) k,qi3 h.ov h.b3 (by decide) k,qi3 h.om h.b3 (by decide) k,by simpa using h.asc⟩
theorem FsJ.mono (h:FsJ w0 a c l B G2 G3 W i row al vl lb vr r vi ei vh eh vv ev vm em)(hb:Below W.heap.size W W'):FsJ w0 a c l B G2 G3 W' i row al vl lb vr r vi ei vh eh vv ev vm em :=
 h.rd.elim fun _ h'=>h'.elim fun _ h'=>h.kp (Kp.of_below _ hb) (h'.mono hb)
end
section
variable {w0:World} {a:Option Addr} {c:Nat} {l:List ByteArray} {B G2 G3:Nat} {W W':World} {i i':Nat} {row al:List Value} {vl vr vi vh vv vm:Value} {lb r:List ByteArray} {ei eh ev em:List Nx}
theorem FsJ.rI (h:FsJ w0 a c l B G2 G3 W i row al vl lb vr r vi ei vh eh vv ev vm em)(hk:Kp w0.heap.size W W'){v:Value}{ns:List Nx}(hr:Rdr w0 a c l W' i' 0 v ns){x:Value}{e:List Nx}(ho:OwnN W' W.heap.size x e):FsJ w0 a c l B G2 G3 W' i' row (al++[x]) vl lb vr r x e vh eh vv ev vm em :=
 have k:=h.kp hk hr
 ⟨k.rd,k.b2,k.b3,k.g1,k.g2,k.g3,k.ol,k.orr,ho.low h.asc.le,k.oh,k.ov,k.om,h.asc.app (Asc.one ho hk.size)⟩
theorem FsJ.rH (h:FsJ w0 a c l B G2 G3 W i row al vl lb vr r vi ei vh eh vv ev vm em)(hk:Kp w0.heap.size W W'){v:Value}{ns:List Nx}(hr:Rdr w0 a c l W' i' 0 v ns){x:Value}{e:List Nx}(ho:OwnN W' W.heap.size x e):FsJ w0 a c l B G2 G3 W' i' row (al++[x]) vl lb vr r vi ei x e vv ev vm em :=
 have k:=h.kp hk hr
 ⟨k.rd,k.b2,k.b3,k.g1,k.g2,k.g3,k.ol,k.orr,k.oi,ho.low h.asc.le,k.ov,k.om,h.asc.app (Asc.one ho hk.size)⟩
theorem FsJ.rV (h:FsJ w0 a c l B G2 G3 W i row al vl lb vr r vi ei vh eh vv ev vm em)(hk:Kp w0.heap.size W W'){v:Value}{ns:List Nx}(hr:Rdr w0 a c l W' i' 0 v ns){x:Value}{e:List Nx}(ho:OwnN W' W.heap.size x e):FsJ w0 a c l B G2 G3 W' i' row (al++[x]) vl lb vr r vi ei vh eh x e vm em :=
 have k:=h.kp hk hr
 ⟨k.rd,k.b2,k.b3,k.g1,k.g2,k.g3,k.ol,k.orr,k.oi,k.oh,ho.low h.asc.le,k.om,h.asc.app (Asc.one ho hk.size)⟩
theorem FsJ.rM (h:FsJ w0 a c l B G2 G3 W i row al vl lb vr r vi ei vh eh vv ev vm em)(hk:Kp w0.heap.size W W'){v:Value}{ns:List Nx}(hr:Rdr w0 a c l W' i' 0 v ns){x:Value}{e:List Nx}(ho:OwnN W' W.heap.size x e):FsJ w0 a c l B G2 G3 W' i' row (al++[x]) vl lb vr r vi ei vh eh vv ev x e :=
 have k:=h.kp hk hr
 ⟨k.rd,k.b2,k.b3,k.g1,k.g2,k.g3,k.ol,k.orr,k.oi,k.oh,k.ov,ho.low h.asc.le,h.asc.app (Asc.one ho hk.size)⟩
theorem FsJ.lab (h:FsJ w0 a c l B G2 G3 W i row al vl lb vr r vi ei vh eh vv ev vm em)(x:ByteArray):FsJ w0 a c l B G2 G3 (W.alloc (.cells #[.string x] 9)) i row al (.slice (some ⟨W.heap.size,0,none⟩) 1 1) [x] vr r vi ei vh eh vv ev vm em :=
 have k:=h.mono ((bR W.heap.size W).alloc (nR _) (.cells #[.string x] 9))
 ⟨k.rd,k.b2,k.b3,k.g1,k.g2,k.g3,OwnS.low (qdj W 9 (.string x)) h.asc.le,k.orr,k.oi,k.oh,k.ov,k.om,k.asc⟩
theorem FsJ.grow (h:FsJ w0 a c l B G2 G3 W i row al vl lb vr r Yb [] Yb [] Yb [] Yb [])(hg:W.grownBy W' vr.ownBlock)(hne:vl.ownBlock=none∨vl.ownBlock≠vr.ownBlock){vr':Value}{r':List ByteArray}(ho:OwnS W' B vr' r'):FsJ w0 a c l B G2 G3 W' i row al vl lb vr' r' Yb [] Yb [] Yb [] Yb [] :=
 have hb:∀q,vr.ownBlock=some q->B<=q:=fun q e=>(qi2 h.orr e).1
 have g1:=h.g1
 ⟨h.rd.elim fun v h'=>h'.elim fun ns h'=>⟨v,ns,⟨h'.blk.grown hg (fun e=>by have:=hb _ e.symm;omega),h'.own.kept hg (q9z h'.own h.orr (by decide)),h'.bel.grown hg h'.bel.size (fun q e=>by have:=hb q e;omega)⟩⟩,h.b2.grown hg (fun e=>qdg h.orr h.b2 (by decide) e.symm),h.b3.grown hg (fun e=>qdg h.orr h.b3 (by decide) e.symm),h.g1,h.g2,h.g3,h.ol.kept hg hne,ho,⟨rfl,.inl ⟨rfl,rfl⟩⟩,⟨rfl,.inl ⟨rfl,rfl⟩⟩,⟨rfl,.inl ⟨rfl,rfl⟩⟩,⟨rfl,.inl ⟨rfl,rfl⟩⟩,h.asc.up hg.size⟩
theorem Kp.grown {R:Nat}{w:World}{o:Option Nat}(h:Kp R w W)(hg:W.grownBy W' o)(ho:∀q,o=some q->w.heap.size<=q):Kp R w W':=⟨Yt h.size hg.size,fun k hk hR=>(hg.block k (Y3 hk h.size) (fun e=>by have:=ho k e.symm;omega)).trans (h.same k hk hR)⟩
end
theorem OwnS.snoc {w:World}{base:Nat}{v:Value}{l:List ByteArray}{x:ByteArray}(h:w.ownsRow base 9 1 v (l.length+1) (stV l++[.string x])):OwnS w base v (l++[x]):=by
 unfold OwnS stV at *
 rw[Yf,Zt]
 exact h
def rdI (w:World)(R:Nat):Nat:=(intOf ((w.cell? ⟨R,1,none⟩).getD undef)).toNat
theorem Rdr.rdI {w0:World}{a:Option Addr}{c:Nat}{l:List ByteArray}{w:World}{i d:Nat}{v:Value}{ns:List Nx}(h:Rdr w0 a c l w i d v ns):rdI w w0.heap.size=i:=by
 unfold Go.Proofs.YtfmammdgehbjhaaGreatDoor.rdI
 rw[show w.cell? ⟨w0.heap.size,1,none⟩=some (Ya (i:Nat)) from h.blk.cell 1]
 simp[intOf]
theorem PrtS.f {l:List ByteArray}{x:Sx}(h:PrtS l x)(h0:pk l 0=kField):goodN (pk l 1)=true/\tyO (pk l 2)≠0/\pk l 3=kAt/\(pk l 4=kAuto∨goodN (pk l 4)=true):=by
 rcases h.parts with ⟨e,-⟩ | ⟨e,-⟩ | ⟨e,-⟩ | ⟨-,h1,h2,h3,h4,-⟩
 . rw[h0]at e;exact absurd e (by decide)
 . rw[h0]at e;exact absurd e (by decide)
 . rw[h0]at e;exact absurd e (by decide)
 . exact⟨h1,h2,h3,h4⟩
theorem StrT.ne {x s:ByteArray}(h:StrT x s):x≠⟨#[]⟩:=fun e=>by
 subst e
 have:=h.1
 revert this
 decide
theorem qbk (r:List ByteArray)(b:ByteArray)(R:List ByteArray):byT (r++[b])++R=byT r++kBy :: b :: R:=by
 unfold byT
 rw[Vg,Z8]
 rfl
structure Cl (l:List ByteArray)(r:List ByteArray)(i:Nat):Prop where
 h0:pk l 0=kField
 hd:l.drop 5=byT r++l.drop i
 hn:pk l i≠kBy
theorem Cl.of {l r:List ByteArray}{i:Nat}(h:Cl l r i){x:Sx}(hp:PrtS l x):∃u,ClR (l.drop i) u [kSemi]/\(r=[]∨u.is=[]):=by
 obtain⟨u,h1,h2,-⟩:=hp.fld h.h0 h.hd fun b R' e=>by
  have hlt:i<l.length:=Yv fun hc=>by rw[Yx (by omega)]at e;cases e
  rw[qia hlt]at e;injection e with e _
  exact absurd e h.hn
 exact⟨u,h1,h2⟩
section
variable {l r:List ByteArray} {i i1 i2 i3 i4:Nat} {ei eh ev:List Nx}
theorem Cl.no1 (h:Cl l r i)(h1:RuR kIs (l.drop i) none):∀x,¬ PrtS l x:=fun x hp=>by
 obtain⟨u,g,-⟩:=h.of hp
 obtain⟨L1,a1,-⟩:=g.is
 exact h1.no a1
theorem Cl.no1b (h:Cl l r i)(h1:RuR kIs (l.drop i) (some (ei,l.drop i1)))(hr:r≠[])(he:ei≠[]):∀x,¬ PrtS l x:=fun x hp=>by
 obtain⟨u,g,gr⟩:=h.of hp
 obtain⟨L1,a1,-⟩:=g.is
 obtain⟨rfl,-⟩:=h1.inj a1
 rcases gr with h | h
 . exact hr h
 . exact he h
theorem Cl.no2 (h:Cl l r i)(h1:RuR kIs (l.drop i) (some (ei,l.drop i1)))(h2:RuR kWhen (l.drop i1) none):∀x,¬ PrtS l x:=fun x hp=>by
 obtain⟨u,g,-⟩:=h.of hp
 obtain⟨L1,a1,L2,a2,-⟩:=g.is
 obtain⟨-,rfl⟩:=h1.inj a1
 exact h2.no a2
theorem Cl.no3 (h:Cl l r i)(h1:RuR kIs (l.drop i) (some (ei,l.drop i1)))(h2:RuR kWhen (l.drop i1) (some (eh,l.drop i2)))(h3:RuR kValid (l.drop i2) none):∀x,¬ PrtS l x:=fun x hp=>by
 obtain⟨u,g,-⟩:=h.of hp
 obtain⟨L1,a1,L2,a2,L3,a3,-⟩:=g.is
 obtain⟨-,rfl⟩:=h1.inj a1
 obtain⟨-,rfl⟩:=h2.inj a2
 exact h3.no a3
theorem Cl.third (h:Cl l r i)(h1:RuR kIs (l.drop i) (some (ei,l.drop i1)))(h2:RuR kWhen (l.drop i1) (some (eh,l.drop i2)))(h3:RuR kValid (l.drop i2) (some (ev,l.drop i3))){x:Sx}(hp:PrtS l x) :
 (ev=[]/\∃e,RuR kMust (l.drop i3) (some (e,[kSemi])))∨(ev≠[]/\∃s t L4 e,l.drop i3=kSays :: s :: L4/\StrT s t/\RuR kMust L4 (some (e,[kSemi]))):=by
 obtain⟨u,g,-⟩:=h.of hp
 obtain⟨L1,a1,L2,a2,L3,a3,a4⟩:=g.is
 obtain⟨-,rfl⟩:=h1.inj a1
 obtain⟨-,rfl⟩:=h2.inj a2
 obtain⟨rfl,rfl⟩:=h3.inj a3
 rcases a4 with ⟨b1,-,b3⟩ | ⟨b1,s,L4,b2,b3,b4⟩
 . exact .inl ⟨b1,_,b3⟩
 . exact .inr ⟨b1,s,_,L4,_,b2,b3,b4⟩
theorem q8y {s:ByteArray}{L4:List ByteArray}(h:l.drop i3=kSays :: s :: L4):pk l i3=kSays/\pk l (i3+1)=s/\L4=l.drop (i3+2):=by
 have h1:i3<l.length:=Yv fun hc=>by rw[Yx (by omega)]at h;cases h
 rw[qia h1]at h
 injection h with e1 h
 have h2:i3+1<l.length:=Yv fun hc=>by rw[Yx (by omega)]at h;cases h
 rw[qia h2]at h
 injection h with e2 h
 exact⟨e1,e2,h.symm⟩
theorem Cl.no4 (h:Cl l r i)(h1:RuR kIs (l.drop i) (some (ei,l.drop i1)))(h2:RuR kWhen (l.drop i1) (some (eh,l.drop i2)))(h3:RuR kValid (l.drop i2) (some (ev,l.drop i3)))(he:ev≠[])(hq:pk l i3≠kSays∨∀s,¬ StrT (pk l (i3+1)) s):∀x,¬ PrtS l x:=fun x hp=>by
 rcases h.third h1 h2 h3 hp with ⟨e,-⟩ | ⟨-,s,t,L4,e,g1,g2,g3⟩
 . exact he e
 . obtain⟨b1,b2,b3⟩:=q8y g1
   rcases hq with hq | hq
   . exact hq b1
   . exact hq t (by rw[b2];exact g2)
theorem Cl.no5 (h:Cl l r i)(h1:RuR kIs (l.drop i) (some (ei,l.drop i1)))(h2:RuR kWhen (l.drop i1) (some (eh,l.drop i2)))(h3:RuR kValid (l.drop i2) (some (ev,l.drop i3)))(hj:(ev=[]/\i4=i3)∨(ev≠[]/\i4=i3+2))(h4:RuR kMust (l.drop i4) none):∀x,¬ PrtS l x:=fun x hp=>by
 rcases h.third h1 h2 h3 hp with ⟨e,em,g⟩ | ⟨e,s,t,L4,em,g1,g2,g3⟩
 . rcases hj with ⟨-,rfl⟩ | ⟨hj,-⟩
   . exact h4.no g
   . exact hj e
 . rcases hj with ⟨hj,-⟩ | ⟨-,rfl⟩
   . exact e hj
   . obtain⟨b1,b2,rfl⟩:=q8y g1
     exact h4.no g3
end
theorem q9n {l r:List ByteArray}{n:ByteArray}{t:Nat}{u:Ru}:lbS ⟨4,n,if pk l 4=kAuto then ⟨#[]⟩ else pk l 4,decide (pk l 4=kAuto),t,r,u⟩=(if pk l 4=kAuto then [] else [pk l 4]):=by
 unfold lbS
 by_cases h:pk l 4=kAuto
 . simp[h]
 . simp[h]
def FldO (w0:World)(a:Option Addr)(c:Nat)(l:List ByteArray)(w:World)(e:Ending)(w':World):Prop:=(∃r u i j v,(goodN (pk l 1)=true/\tyO (pk l 2)≠0/\pk l 3=kAt/\(pk l 4=kAuto∨goodN (pk l 4)=true))/\(∀b,b∈r->goodN b=true)/\Cl l r i/\ClR (l.drop i) u (l.drop j)/\(r=[]∨u.is=[])/\j<=l.length/\e=.returned v/\(∃v' ns',Rdr w0 a c l w' j 0 v' ns')/\PsV w' w.heap.size v ⟨4,pk l 1,if pk l 4=kAuto then ⟨#[]⟩ else pk l 4,decide (pk l 4=kAuto),tyO (pk l 2),r,u⟩/\Kp w0.heap.size w w')∨((∀x,¬ PrtS l x)/\e=flt 3/\Below w0.heap.size w0 w')
end Go.Proofs.YtfmammdgehbjhaaGreatDoor
