import Derived.Test.YtebbgodlijlioaaGreatDoorW15
import Derived.Test.YtebbgodlijlioaaGreatDoorW17
import Derived.Maps.AppendAt
import Derived.Maps.OwnSet
set_option maxRecDepth 100000
set_option maxHeartbeats 64000000
namespace Go.Proofs.YtebbgodlijlioaaGreatDoor
open Go Go.RowKit
def OwnS (w:World)(base:Nat)(v:Value)(l:List ByteArray):Prop:=w.ownsRow base 9 1 v l.length (stV l)
theorem OwnS.keep {w w':World}{base:Nat}{v:Value}{l:List ByteArray}(h:OwnS w base v l)(hb:Below w.heap.size w w'):OwnS w' base v l :=
 World.ownsRow.kept (row:=none) h ⟨hb.os,hb.tape,hb.output,hb.size,fun k hk _=>hb.block k hk⟩ (Classical.em _)
theorem OwnS.strs {w:World}{base:Nat}{v:Value}{l:List ByteArray}(h:OwnS w base v l):∃a c,v=.slice a l.length c/\l.length<=c/\Strs w a l:=by
 rcases h.2 with ⟨e,h0⟩ | ⟨g,cap,cur,e,hg,hq,h4,h5,h6,h7⟩
 . exact⟨.none,0,by rw[e,h0],by omega,fun k hk=>by omega⟩
 . have hb:Blk w g 9 cur.toList:=by
    show w.heap[g]? = _;rw[hq]
   refine⟨some ⟨g,0,.none⟩,cap,e,h4,fun k hk=>⟨g,0,rfl,hb.lt,?_⟩⟩;have h8:(cur.toList.take (l.length*1))[k]? = some (.string l[k]):=by rw[h7];simp[stV,hk]
   rw[Vw (by omega)]at h8;rw[Zj,hb.cell];exact h8
theorem qfm {w:World}{base base' e size n:Nat}{v:Value}{xs:List Value}(h:w.ownsRow base e size v n xs)(hb:base'<=base):w.ownsRow base' e size v n xs:=by
 refine⟨h.1,?_⟩
 rcases h.2 with h2 | ⟨g,cap,cur,h1,hg,r⟩
 . exact .inl h2
 . exact .inr ⟨g,cap,cur,h1,Yv hb hg,r⟩
theorem qbw {w w':World}{base e size n:Nat}{v:Value}{xs:List Value}(h:w.ownsRow base e size v n xs)(hb:Below w.heap.size w w'):w'.ownsRow base e size v n xs :=
 World.ownsRow.kept (row:=none) h ⟨hb.os,hb.tape,hb.output,hb.size,fun k hk _=>hb.block k hk⟩ (Classical.em _)
theorem qc2 {w:World}{base e size n base' e' size' n':Nat}{v v':Value}{xs xs':List Value}(h:w.ownsRow base e size v n xs)(h':w.ownsRow base' e' size' v' n' xs')(he:e≠e'):v.ownBlock=none∨v.ownBlock≠v'.ownBlock:=by
 rcases h.2 with ⟨h2,-⟩ | ⟨g,cap,cur,h1,-,hq,-⟩
 . exact .inl (by rw[h2];rfl)
 . refine .inr fun hc=>?_
   rcases h'.2 with ⟨h3,-⟩ | ⟨g',cap',cur',h4,-,hq',-⟩
   . rw[h1,h3]at hc;cases hc
   . rw[h1,h4]at hc
     have hc:some g=some g':=hc;cases hc;rw[hq]at hq';simp only[Option.some.injEq,Obj.cells.injEq]at hq';exact he hq'.2.1
theorem qfj {w:World}{base e size n:Nat}{v:Value}{xs:List Value}(h:w.ownsRow base e size v n xs){g:Nat}{t:TypeId}{cs:List Value}(hb:Blk w g t cs)(he:e≠t):v.ownBlock≠some g:=fun hc=>by
 rcases h.2 with ⟨h2,-⟩ | ⟨g',cap,cur,h1,-,hq,-⟩
 . rw[h2]at hc;cases hc
 . rw[h1]at hc
   have hc:some g'=some g:=hc;cases hc;have hb:w.heap[g]? = some (.cells cs.toArray t):=hb;rw[hq]at hb;simp only[Option.some.injEq,Obj.cells.injEq]at hb;exact he hb.2.1
theorem q8v {w:World}{base e size n:Nat}{v:Value}{xs:List Value}(h:w.ownsRow base e size v n xs):∃a c,v=.slice a n c/\n<=c/\(0<n->∃g,a=some ⟨g,0,none⟩/\g<w.heap.size/\base<=g/\∀p,p<n*size->w.cell? ⟨g,p,none⟩=xs[p]?):=by
 rcases h.2 with ⟨h2,h0⟩ | ⟨g,cap,cur,h1,hg,hq,h4,h5,h6,h7⟩
 . exact⟨none,0,by rw[h2,h0],by omega,fun h=>by omega⟩
 . refine⟨some ⟨g,0,none⟩,cap,h1,h4,fun _=>⟨g,rfl,(Yr.1 hq).1,hg,fun p hp=>?_⟩⟩
   have hb:Blk w g e cur.toList:=by
    show w.heap[g]? = _;rw[hq]
   rw[hb.cell,<- h7,Vw hp]
theorem qdz {α:Type}{f:α->List Value}{s:Nat}(hf:∀x,(f x).length=s){l:List α}{k p:Nat}(hk:k<l.length)(hp:p<s):(l.flatMap f)[k*s+p]? = (f l[k])[p]?:=by
 induction l generalizing k with
 | nil=>cases hk
 | cons x r ih =>
  rw[Z5];cases k with
  | zero=>rw[Nat.zero_mul,Zj,Vu (by rw[hf];exact hp)];rfl
  | succ k =>
   rw[List.getElem?_append_right (by rw[hf,Zw];omega),hf];have:=ih (k:=k) (by simpa using hk);rw[show(k+1)*s+p - s=k*s+p by rw[Zw];omega];simpa using this
theorem qe0 {α:Type}{f:α->List Value}{s:Nat}(hf:∀x,(f x).length=s)(l:List α):(l.flatMap f).length=l.length*s:=by
 induction l with
 | nil=>simp
 | cons x r ih=>rw[Z5,Yg,hf,ih,Ys,Zw];omega
def iV (l:List Int):List Value:=l.flatMap fun x=>[.int .i64 x]
def pV (l:List (Int × Int)):List Value:=l.flatMap fun x=>[.int .i64 x.1,.int .i64 x.2]
def rV' (l:List Rl):List Value:=l.flatMap fun x=>[.string x.nm,.int .i64 x.lb]
def fdV (l:List (Fl × FA)):List Value:=l.flatMap fun x=>fCs x.1 x.2
def OwI (w:World)(base:Nat)(v:Value)(l:List Int):Prop:=w.ownsRow base 3 1 v l.length (iV l)
def OwP (w:World)(base:Nat)(v:Value)(l:List (Int × Int)):Prop:=w.ownsRow base 64 2 v l.length (pV l)
def OwL (w:World)(base:Nat)(v:Value)(l:List Rl):Prop:=w.ownsRow base 66 2 v l.length (rV' l)
structure FOw (w:World)(base:Nat)(f:Fl)(A:FA):Prop where
 b:OwI w base (.slice A.b f.bys.length A.bc) f.bys
 i:OwnN w base (.slice A.i f.is.length A.ic) f.is
 h:OwnN w base (.slice A.h f.wh.length A.hc) f.wh
 v:OwnN w base (.slice A.v f.va.length A.vc) f.va
 u:OwnN w base (.slice A.u f.mu.length A.uc) f.mu
structure OwF (w:World)(base:Nat)(v:Value)(l:List (Fl × FA)):Prop where
 row:w.ownsRow base 42 9 v l.length (fdV l)
 sub:∀p,p∈l->FOw w base p.1 p.2
theorem FOw.mono {w w':World}{base:Nat}{f:Fl}{A:FA}(h:FOw w base f A)(hb:Below w.heap.size w w'):FOw w' base f A:=⟨qbw h.b hb,h.i.keep hb,h.h.keep hb,h.v.keep hb,h.u.keep hb⟩
theorem FOw.low {w:World}{base base':Nat}{f:Fl}{A:FA}(h:FOw w base f A)(hb:base'<=base):FOw w base' f A:=⟨qfm h.b hb,h.i.low hb,h.h.low hb,h.v.low hb,h.u.low hb⟩
theorem OwF.mono {w w':World}{base:Nat}{v:Value}{l:List (Fl × FA)}(h:OwF w base v l)(hb:Below w.heap.size w w'):OwF w' base v l:=⟨qbw h.row hb,fun p hp=>(h.sub p hp).mono hb⟩
theorem FOw.grown {w w':World}{base:Nat}{f:Fl}{A:FA}{base' e size n:Nat}{x:Value}{xs:List Value}(h:FOw w base f A)(hx:w.ownsRow base' e size x n xs)(h1:3≠e)(h2:96≠e)(hg:w.grownBy w' x.ownBlock):FOw w' base f A :=
 ⟨h.b.kept hg (qc2 h.b hx h1),h.i.kept hg (qc2 h.i hx h2),h.h.kept hg (qc2 h.h hx h2),h.v.kept hg (qc2 h.v hx h2),h.u.kept hg (qc2 h.u hx h2)⟩
theorem qj6 {w:World}{base c:Nat}{a:Option Addr}{l:List Int}(h:OwI w base (.slice a l.length c) l):IntL w a l:=fun k hk=>by
 obtain⟨a',c',e,-,hq⟩:=q8v h
 cases e
 obtain⟨g,rfl,h1,-,h2⟩:=hq (by omega)
 have:=h2 (k*1+0) (by omega)
 unfold iV at this
 rw[qdz (f:=fun x:Int=>[J9 x]) (s:=1) (p:=0) (fun _=>rfl) hk (by omega)]at this
 refine⟨g,0,rfl,h1,?_⟩
 rw[show 0+k=k*1+0 by omega,this]
 simp[List.getD_eq_getElem?_getD,hk]
theorem qkc {w:World}{base c:Nat}{a:Option Addr}{l:List Nx}(h:OwnN w base (.slice a l.length c) l):NodL w a l:=by
 obtain⟨a',c',e,hn⟩:=h.nods
 cases e
 exact hn
theorem prs_of {w:World}{base c:Nat}{a:Option Addr}{l:List (Int × Int)}(h:OwP w base (.slice a l.length c) l):Prs w a l:=fun k hk=>by
 obtain⟨a',c',e,-,hq⟩:=q8v h
 cases e
 obtain⟨g,rfl,h1,-,h2⟩:=hq (by omega)
 have y0:=h2 (k*2+0) (by omega);have y1:=h2 (k*2+1) (by omega)
 unfold pV at y0 y1
 rw[qdz (f:=fun x:Int × Int=>[J9 x.1,J9 x.2]) (fun _=>rfl) hk (by omega)]at y0 y1
 exact⟨g,0,rfl,h1,by rw[Zj];exact y0,by rw[Zj];exact y1⟩
theorem rls_of {w:World}{base c:Nat}{a:Option Addr}{l:List Rl}(h:OwL w base (.slice a l.length c) l):Rls w a l:=fun k hk=>by
 obtain⟨a',c',e,-,hq⟩:=q8v h
 cases e
 obtain⟨g,rfl,h1,-,h2⟩:=hq (by omega)
 have y0:=h2 (k*2+0) (by omega);have y1:=h2 (k*2+1) (by omega)
 unfold rV' at y0 y1
 rw[qdz (f:=fun x:Rl=>[.string x.nm,J9 x.lb]) (fun _=>rfl) hk (by omega)]at y0 y1
 exact⟨g,0,rfl,h1,by rw[Zj];exact y0,by rw[Zj];exact y1⟩
def noFA:FA:=⟨none,0,none,0,none,0,none,0,none,0⟩
def noFl:Fl:=⟨⟨#[]⟩,0,0,[],[],[],[],⟨#[]⟩,[]⟩
def faOf (l:List (Fl × FA))(k:Nat):FA:=(l.getD k (noFl,noFA)).2
theorem qdt {l:List (Fl × FA)}{k:Nat}(h:k<l.length):faOf l k=l[k].2:=by unfold faOf;rw[Yl,Yi h];rfl
theorem qip {w:World}{base c:Nat}{a:Option Addr}{l:List (Fl × FA)}(h:OwF w base (.slice a l.length c) l):Flds w a (l.map (·.1)) (faOf l):=fun k hk=>by
 rw[Y7]at hk
 obtain⟨a',c',e,-,hq⟩:=q8v h.row
 cases e
 obtain⟨g,rfl,h1,-,h2⟩:=hq (by omega)
 have y:∀p,p<9->w.cell? ⟨g,k*9+p,none⟩=(fCs l[k].1 l[k].2)[p]?:=fun p hp=>by
  rw[h2 (k*9+p) (by omega)];exact qdz (f:=fun x:Fl × FA=>fCs x.1 x.2) (fun _=>rfl) hk hp
 have hs:=h.sub l[k] (Yk hk)
 rw[Vq,qdt hk]
 refine⟨g,0,rfl,?_,qj6 hs.b,qkc hs.i,qkc hs.h,qkc hs.v,qkc hs.u⟩
 rw[Zj]
 exact⟨h1,y 0 (by omega),y 1 (by omega),y 2 (by omega),y 3 (by omega),y 4 (by omega),y 5 (by omega),y 6 (by omega),y 7 (by omega),y 8 (by omega)⟩
structure OwM (w:World)(base:Nat)(v1 v2 v3 v4:Value)(m:Fm)(P:List (Fl × FA)):Prop where
 l:OwnS w base v1 m.L
 p:OwP w base v2 m.P
 r:OwL w base v3 m.R
 f:OwF w base v4 P
 e:m.F=P.map (·.1)
theorem OwM.mono {w w':World}{base:Nat}{v1 v2 v3 v4:Value}{m:Fm}{P:List (Fl × FA)}(h:OwM w base v1 v2 v3 v4 m P)(hb:Below w.heap.size w w'):OwM w' base v1 v2 v3 v4 m P:=⟨h.l.keep hb,qbw h.p hb,qbw h.r hb,h.f.mono hb,h.e⟩
theorem OwM.sl {w:World}{base:Nat}{v1 v2 v3 v4:Value}{m:Fm}{P:List (Fl × FA)}(h:OwM w base v1 v2 v3 v4 m P):∃A:MA,.agg #[v1,v2,v3,v4]=mV m A/\MSl w m A/\v1=.slice A.l m.L.length A.lc/\v2=.slice A.p m.P.length A.pc/\v3=.slice A.r m.R.length A.rc/\v4=.slice A.f m.F.length A.fc/\A.fa=faOf P:=by
 obtain⟨a1,c1,rfl,-,hs⟩:=h.l.strs
 obtain⟨a2,c2,rfl,-⟩:=q8v h.p
 obtain⟨a3,c3,rfl,-⟩:=q8v h.r
 obtain⟨a4,c4,rfl,-⟩:=q8v h.f.row
 have hl:P.length=m.F.length:=by rw[h.e,Y7]
 refine⟨⟨a1,c1,a2,c2,a3,c3,a4,c4,faOf P⟩,?_,⟨hs,prs_of h.p,rls_of h.r,?_⟩,rfl,rfl,rfl,?_,rfl⟩
 . unfold mV
   simp only[hl]
 . have:=qip h.f
   rwa [<- h.e]at this
 . simp only[hl]
theorem OwM.nil (w:World)(base:Nat):OwM w base Ya Ya Ya Ya ⟨[],[],[],[]⟩ [] :=
 ⟨⟨rfl,.inl ⟨rfl,rfl⟩⟩,⟨rfl,.inl ⟨rfl,rfl⟩⟩,⟨rfl,.inl ⟨rfl,rfl⟩⟩,⟨⟨rfl,.inl ⟨rfl,rfl⟩⟩,fun p hp=>(by cases hp)⟩,rfl⟩
theorem qj1:(Tryz.prog.info? 3).map (fun i=>(i.zero,i.size,i.bytes))=some (some (J9 0),1,8):=by kernel_rfl
theorem qj4:(Tryz.prog.info? 64).map (fun i=>(i.zero,i.size,i.bytes))=some (some (.agg #[J9 0,J9 0]),2,16):=by kernel_rfl
theorem qj5:(Tryz.prog.info? 66).map (fun i=>(i.zero,i.size,i.bytes))=some (some (.agg #[Yb,J9 0]),2,24):=by kernel_rfl
theorem qj0:(Tryz.prog.info? 42).map (fun i=>(i.zero,i.size,i.bytes))=some (some (.agg Je),9,168):=by kernel_rfl
theorem qdc {ops:Array Oper}{rest:List Oper}{o:Oper}{a:Act}{Q:Exit->Act->World->Prop}{w:World}(hgd:o.guard=.none)(s x:Operand)
 (ho:o.op=.call { callee:=.builtin .append,args:=#[s,x],argTypes:=#[30,30] }) {base:Nat} {v:Value} {l:List Int} (hs:a.eval s=v) (hown:OwI w base v l)
 {g:Nat} {n:Int} (hx:a.eval x=.slice (some ⟨g,0,.none⟩) 1 1) (hc:Blk w g 3 [J9 n]) (hl:l.length+1<=2097152) (hbase:base<=w.heap.size)
 (h:∀v' w',w'.ownsRow base 3 1 v' (l++[n]).length (iV (l++[n]))->w.grownBy w' v.ownBlock->Below base w w'->wpList Tryz.prog ops Q rest (a.put o.dst v') w'):wpList Tryz.prog ops Q (o :: rest) a w:=by
 obtain⟨i0,hi,hz0,hz1,hz2⟩:=info_parts qj1
 refine wpList_append_own w hgd s x 30 ho base 3 i0 _ 1 8 Tryz.underlying30 hi hz0 hz1 hz2 rfl (by omega) _ _ _ hs hown ⟨g,0,.none⟩ 1 1 [J9 n] hx rfl (fun j v hj=>by rw[show(⟨g,0,.none⟩:Addr).add j=⟨g,j,.none⟩ by simp[Addr.add];try exact fun h=>h.symm];exact(hc.cell j).trans hj) (by simp[Value.oneCell']) (by unfold maxLen;omega) (by omega) hbase ?_
 intro v' W9 ho hgr _
 refine h v' W9 ?_ hgr ((bR base w).grown hgr hbase (fun q e=>q8q hown e))
 rw[Yg,show iV (l++[n])=iV l++[J9 n] by simp[iV]]
 exact ho
theorem qdd {ops:Array Oper}{rest:List Oper}{o:Oper}{a:Act}{Q:Exit->Act->World->Prop}{w:World}(hgd:o.guard=.none)(s x:Operand)
 (ho:o.op=.call { callee:=.builtin .append,args:=#[s,x],argTypes:=#[24,24] }) {base:Nat} {v:Value} {l:List (Int × Int)} (hs:a.eval s=v) (hown:OwP w base v l)
 {g:Nat} {n:(Int × Int)} (hx:a.eval x=.slice (some ⟨g,0,.none⟩) 1 1) (hc:Blk w g 64 [J9 n.1,J9 n.2]) (hl:l.length+1<=2097152) (hbase:base<=w.heap.size)
 (h:∀v' w',w'.ownsRow base 64 2 v' (l++[n]).length (pV (l++[n]))->w.grownBy w' v.ownBlock->Below base w w'->wpList Tryz.prog ops Q rest (a.put o.dst v') w'):wpList Tryz.prog ops Q (o :: rest) a w:=by
 obtain⟨i0,hi,hz0,hz1,hz2⟩:=info_parts qj4
 refine wpList_append_own w hgd s x 24 ho base 64 i0 _ 2 16 Tryz.underlying24 hi hz0 hz1 hz2 rfl (by omega) _ _ _ hs hown ⟨g,0,.none⟩ 1 1 [J9 n.1,J9 n.2] hx rfl (fun j v hj=>by rw[show(⟨g,0,.none⟩:Addr).add j=⟨g,j,.none⟩ by simp[Addr.add];try exact fun h=>h.symm];exact(hc.cell j).trans hj) (by simp[Value.oneCell']) (by unfold maxLen;omega) (by omega) hbase ?_
 intro v' W9 ho hgr _
 refine h v' W9 ?_ hgr ((bR base w).grown hgr hbase (fun q e=>q8q hown e))
 rw[Yg,show pV (l++[n])=pV l++[J9 n.1,J9 n.2] by simp[pV]]
 exact ho
theorem qdb {ops:Array Oper}{rest:List Oper}{o:Oper}{a:Act}{Q:Exit->Act->World->Prop}{w:World}(hgd:o.guard=.none)(s x:Operand)
 (ho:o.op=.call { callee:=.builtin .append,args:=#[s,x],argTypes:=#[26,26] }) {base:Nat} {v:Value} {l:List (Fl × FA)} (hs:a.eval s=v) (hown:w.ownsRow base 42 9 v l.length (fdV l))
 {g:Nat} {n:(Fl × FA)} (hx:a.eval x=.slice (some ⟨g,0,.none⟩) 1 1) (hc:Blk w g 42 (fCs n.1 n.2)) (hl:l.length+1<=2097152) (hbase:base<=w.heap.size)
 (h:∀v' w',w'.ownsRow base 42 9 v' (l++[n]).length (fdV (l++[n]))->w.grownBy w' v.ownBlock->Below base w w'->wpList Tryz.prog ops Q rest (a.put o.dst v') w'):wpList Tryz.prog ops Q (o :: rest) a w:=by
 obtain⟨i0,hi,hz0,hz1,hz2⟩:=info_parts qj0
 refine wpList_append_own w hgd s x 26 ho base 42 i0 _ 9 168 Tryz.underlying26 hi hz0 hz1 hz2 rfl (by omega) _ _ _ hs hown ⟨g,0,.none⟩ 1 1 (fCs n.1 n.2) hx rfl (fun j v hj=>by rw[show(⟨g,0,.none⟩:Addr).add j=⟨g,j,.none⟩ by simp[Addr.add];try exact fun h=>h.symm];exact(hc.cell j).trans hj) (by simp[fCs,Value.oneCell']) (by unfold maxLen;omega) (by omega) hbase ?_
 intro v' W9 ho hgr _
 refine h v' W9 ?_ hgr ((bR base w).grown hgr hbase (fun q e=>q8q hown e))
 rw[Yg,show fdV (l++[n])=fdV l++(fCs n.1 n.2) by simp[fdV]]
 exact ho
theorem qko {w w':World}{base e size n:Nat}{v:Value}{xs:List Value}(h:w.ownsRow base e size v n xs){g:Nat}{t:TypeId}{cs:List Value}(hb:Blk w g t cs)(he:e≠t)(hk:∀k,k≠g->w'.heap[k]? = w.heap[k]?):w'.ownsRow base e size v n xs:=by
 have hne:=qfj h hb he
 refine⟨h.1,?_⟩
 rcases h.2 with h2 | ⟨g',cap,cur,h1,hg,hq,r⟩
 . exact .inl h2
 . exact .inr ⟨g',cap,cur,h1,hg,(hk g' (fun e'=>hne (by rw[h1];exact congrArg some e'))).trans hq,r⟩
theorem OwM.one {w w':World}{base:Nat}{v1 v2 v3 v4:Value}{m:Fm}{P:List (Fl × FA)}(h:OwM w base v1 v2 v3 v4 m P){g:Nat}{t:TypeId}{cs:List Value}(hb:Blk w g t cs)(h1:9≠t)(h2:64≠t)(h3:66≠t)(h4:42≠t)(h5:3≠t)(h6:96≠t)(hk:∀k,k≠g->w'.heap[k]? = w.heap[k]?):OwM w' base v1 v2 v3 v4 m P :=
 ⟨qko h.l hb h1 hk,qko h.p hb h2 hk,qko h.r hb h3 hk,⟨qko h.f.row hb h4 hk,fun p hp=>⟨qko (h.f.sub p hp).b hb h5 hk,qko (h.f.sub p hp).i hb h6 hk,qko (h.f.sub p hp).h hb h6 hk,qko (h.f.sub p hp).v hb h6 hk,qko (h.f.sub p hp).u hb h6 hk⟩⟩,h.e⟩
theorem OwM.low {w:World}{base base':Nat}{v1 v2 v3 v4:Value}{m:Fm}{P:List (Fl × FA)}(h:OwM w base v1 v2 v3 v4 m P)(hb:base'<=base):OwM w base' v1 v2 v3 v4 m P:=⟨qfm h.l hb,qfm h.p hb,qfm h.r hb,⟨qfm h.f.row hb,fun p hp=>(h.f.sub p hp).low hb⟩,h.e⟩
theorem OwM.addL {w w':World}{base:Nat}{v1 v2 v3 v4 v1':Value}{m:Fm}{P:List (Fl × FA)}{x:ByteArray}(h:OwM w base v1 v2 v3 v4 m P)(hn:w'.ownsRow base 9 1 v1' (m.L++[x]).length (stV (m.L++[x])))(hg:w.grownBy w' v1.ownBlock):OwM w' base v1' v2 v3 v4 { m with L:=m.L++[x] } P :=
 ⟨hn,h.p.kept hg (qc2 h.p h.l (by decide)),h.r.kept hg (qc2 h.r h.l (by decide)),⟨h.f.row.kept hg (qc2 h.f.row h.l (by decide)),fun p hp=>(h.f.sub p hp).grown h.l (by decide) (by decide) hg⟩,h.e⟩
theorem OwM.addP {w w':World}{base:Nat}{v1 v2 v3 v4 v2':Value}{m:Fm}{P:List (Fl × FA)}{x:Int × Int}(h:OwM w base v1 v2 v3 v4 m P)(hn:w'.ownsRow base 64 2 v2' (m.P++[x]).length (pV (m.P++[x])))(hg:w.grownBy w' v2.ownBlock):OwM w' base v1 v2' v3 v4 { m with P:=m.P++[x] } P :=
 ⟨h.l.kept hg (qc2 h.l h.p (by decide)),hn,h.r.kept hg (qc2 h.r h.p (by decide)),⟨h.f.row.kept hg (qc2 h.f.row h.p (by decide)),fun p hp=>(h.f.sub p hp).grown h.p (by decide) (by decide) hg⟩,h.e⟩
theorem OwM.addR {w w':World}{base:Nat}{v1 v2 v3 v4 v3':Value}{m:Fm}{P:List (Fl × FA)}{x:Rl}(h:OwM w base v1 v2 v3 v4 m P)(hn:w'.ownsRow base 66 2 v3' (m.R++[x]).length (rV' (m.R++[x])))(hg:w.grownBy w' v3.ownBlock):OwM w' base v1 v2 v3' v4 { m with R:=m.R++[x] } P :=
 ⟨h.l.kept hg (qc2 h.l h.r (by decide)),h.p.kept hg (qc2 h.p h.r (by decide)),hn,⟨h.f.row.kept hg (qc2 h.f.row h.r (by decide)),fun p hp=>(h.f.sub p hp).grown h.r (by decide) (by decide) hg⟩,h.e⟩
theorem OwM.addF {w w':World}{base:Nat}{v1 v2 v3 v4 v4':Value}{m:Fm}{P:List (Fl × FA)}{x:Fl × FA}(h:OwM w base v1 v2 v3 v4 m P)(hn:w'.ownsRow base 42 9 v4' (P++[x]).length (fdV (P++[x])))(hg:w.grownBy w' v4.ownBlock)(hx:FOw w base x.1 x.2):OwM w' base v1 v2 v3 v4' { m with F:=m.F++[x.1] } (P++[x]) :=
 ⟨h.l.kept hg (qc2 h.l h.f.row (by decide)),h.p.kept hg (qc2 h.p h.f.row (by decide)),h.r.kept hg (qc2 h.r h.f.row (by decide)),⟨hn,fun p hp=>(Zb.1 hp).elim (fun hp=>(h.f.sub p hp).grown h.f.row (by decide) (by decide) hg) (fun hp=>by rw[Yw.1 hp];exact hx.grown h.f.row (by decide) (by decide) hg)⟩,by simp[h.e]⟩
def Apt (u v:Value):Prop:=∀q,u.ownBlock=some q->v.ownBlock≠some q
theorem Apt.symm {u v:Value}(h:Apt u v):Apt v u:=fun q h1 h2=>h q h2 h1
structure OwnK (K:Int->List ByteArray)(w:World)(base:Nat)(v1 v2 v3:Value):Prop where
 r1:OwnS w base v1 (K 1)
 r2:OwnS w base v2 (K 2)
 r3:OwnS w base v3 (K 3)
 a12:Apt v1 v2
 a13:Apt v1 v3
 a23:Apt v2 v3
structure Kpt (v1 v2 v3:Value)(w w':World):Prop where
 os:w'.os=w.os
 tape:w'.tape=w.tape
 output:w'.output=w.output
 size:w.heap.size<=w'.heap.size
 block:∀q,q<w.heap.size->v1.ownBlock≠some q->v2.ownBlock≠some q->v3.ownBlock≠some q->w'.heap[q]? = w.heap[q]?
def addK (K:Int->List ByteArray)(kind:Int)(x:ByteArray):Int->List ByteArray:=fun i=>if i=kind then K i++[x] else K i
theorem OwnK.keep {K:Int->List ByteArray}{w w':World}{base:Nat}{v1 v2 v3:Value}(h:OwnK K w base v1 v2 v3)(hb:Below w.heap.size w w'):OwnK K w' base v1 v2 v3:=⟨h.r1.keep hb,h.r2.keep hb,h.r3.keep hb,h.a12,h.a13,h.a23⟩
theorem qkm {w w':World}{base e size n:Nat}{v:Value}{xs:List Value}(h:w.ownsRow base e size v n xs)(hk:∀q,v.ownBlock=some q->w'.heap[q]? = w.heap[q]?):w'.ownsRow base e size v n xs:=by
 refine⟨h.1,?_⟩
 rcases h.2 with h2 | ⟨g,cap,cur,h1,hb,hg,r⟩
 . exact .inl h2
 . exact .inr ⟨g,cap,cur,h1,hb,(hk g (by rw[h1];rfl)).trans hg,r⟩
theorem qkl {w:World}{base e size n:Nat}{v:Value}{xs:List Value}(h:w.ownsRow base e size v n xs){q:Nat}(hq:v.ownBlock=some q):q<w.heap.size:=by
 rcases h.2 with ⟨e,-⟩ | ⟨g,cap,cur,e,-,hg,-⟩
 . rw[e]at hq;cases hq
 . rw[e]at hq
   have:g=q:=by simpa [Value.ownBlock] using hq
   subst this;exact(Yr.1 hg).1
theorem q9k {ops:Array Oper}{rest:List Oper}{o:Oper}{a:Act}{Q:Exit->Act->World->Prop}{w:World}(hgd:o.guard=.none)(s x:Operand)
 (ho:o.op=.call { callee:=.builtin .append,args:=#[s,x],argTypes:=#[23,23] }) {base:Nat} {v:Value} {l:List ByteArray} (hs:a.eval s=v) (hown:OwnS w base v l)
 {g:Nat} {n:ByteArray} (hx:a.eval x=.slice (some ⟨g,0,.none⟩) 1 1) (hc:Blk w g 9 [.string n]) (hl:l.length+1<=2097152) (hbase:base<=w.heap.size)
 (h:∀v' w',OwnS w' base v' (l++[n])->w.grownBy w' v.ownBlock->(v'.ownBlock=v.ownBlock∨v'.ownBlock=some w.heap.size)->wpList Tryz.prog ops Q rest (a.put o.dst v') w'):wpList Tryz.prog ops Q (o :: rest) a w:=by
 obtain⟨i0,hi,hz0,hz1,hz2⟩:=info_parts qeb
 refine wpList_append_own_at w hgd s x 23 ho base 9 i0 _ 1 16 Tryz.underlying23 hi hz0 hz1 hz2 rfl (by omega) _ _ _ hs hown ⟨g,0,.none⟩ 1 1 [.string n] hx rfl (fun j v hj=>by rw[show(⟨g,0,.none⟩:Addr).add j=⟨g,j,.none⟩ by simp[Addr.add];try exact fun h=>h.symm];exact(hc.cell j).trans hj) (by simp[Value.oneCell']) (by unfold maxLen;omega) (by omega) hbase ?_
 intro v' W9 ho hgr _ hat
 refine h v' W9 ?_ hgr hat
 unfold OwnS
 rw[Yg,show stV (l++[n])=stV l++[.string n] by simp[stV]]
 exact ho
theorem qei (K:Int->List ByteArray)(x:ByteArray)(w:World)(base:Nat)(v1 v2 v3:Value)(hl:(K 1).length<=100000)(h:OwnK K w base v1 v2 v3)(hb:base<=w.heap.size) :
 Calls Tryz.prog 71 #[.agg #[v1,v2,v3],J9 1,.string x] w fun e w'=>∃u1 u2 u3,e=.returned (.agg #[u1,u2,u3])/\OwnK (addK K 1 x) w' base u1 u2 u3/\Kpt v1 v2 v3 w w':=by
 obtain⟨s1,k1,e1,-,-⟩:=h.r1.strs;obtain⟨s2,k2,e2,-,-⟩:=h.r2.strs;obtain⟨s3,k3,e3,-,-⟩:=h.r3.strs
 have HL:=h_ hl;have HBs:=h_ hb
 generalize (K 1).length=n1 at e1
 generalize (K 2).length=n2 at e2
 generalize (K 3).length=n3 at e3
 subst e1 e2 e3
 have HO:=h_ h
 have HA:=h_ (((bR w.heap.size w).alloc (nR _) (.cells (Jk s1 n1 k1 s2 n2 k2 s3 n3 k3) 110)).alloc (by simp) (.cells Jl 110))
 have HP:=h_ ((Blk.new w 110 (Jk s1 n1 k1 s2 n2 k2 s3 n3 k3)).alloc (.cells Jl 110))
 have HR:=h_ (Blk.new (w.alloc (.cells (Jk s1 n1 k1 s2 n2 k2 s3 n3 k3) 110)) 110 Jl)
 rw[Yx]at HR
 obtain⟨W0,hW0⟩:=Nq ((w.alloc (.cells (Jk s1 n1 k1 s2 n2 k2 s3 n3 k3) 110)).alloc (.cells Jl 110))
 have hs0:W0.heap.size=w.heap.size+1+1:=by rw[<- hW0];simp
 rw[hW0]at HA HP HR
 have HN:Hi (Blk _ _ 9 [.string x]):=h_ (Blk.new W0 9 #[.string x])
 rw[hs0]at HN
 have HS:=h_ ((bR W0.heap.size W0).alloc (nR _) (.cells #[.string x] 9))
 have HB1:=h_ (HA.u.trans (HS.u.mono HA.u.size))
 have HP1:=h_ (HP.u.mono HS.u HP.u.lt);have HR1:=h_ (HR.u.mono HS.u HR.u.lt)
 have HK:=h_ (h.keep HB1.u)
 obtain⟨y0,y1,y2⟩:=three HP.u
 clear h hl hb
 go_enter Tryz.func71,Tryz.ntmps71
 go_wp2_with (at_builtin;(try rw[hW0]);refine q9k (n:=x) rfl _ _ rfl rfl HK.u.r1 rfl HN.u (by have:=HL.u;omega) (by have:=HBs.u;have:=HB1.u.size;omega) ?_)
 intro u W2 hou hgr hat
 have hne:∀q,w.heap.size<=q->some q≠Value.ownBlock (.slice s1 n1 k1):=fun q hq e=>by have:=qkl HO.u.r1 e.symm;omega
 have HP2:Hi (Blk W2 w.heap.size 110 [.slice s1 n1 k1,.slice s2 n2 k2,.slice s3 n3 k3]):=h_ ((hgr.block _ HP1.u.lt (hne _ (nR _))).trans HP1.u)
 have HR2:Hi (Blk W2 (w.heap.size+1) 110 [Ya,Ya,Ya]):=h_ ((hgr.block _ HR1.u.lt (hne _ (Vl _))).trans HR1.u)
 obtain⟨us,uk,eu,-,-⟩:=hou.strs
 generalize (K 1++[x]).length=un at eu
 subst eu
 have HOu:=h_ hou;have HG:=h_ hgr;have HAt:=h_ hat
 have p0:=HP2.u.cell 0;have pf:=HP2.u.free 0
 have HP3:=h_ (HP2.u.set 0 (.slice us un uk));have HR3:=h_ (HR2.u.other (a:=⟨w.heap.size,0,none⟩) (.slice us un uk) (show w.heap.size+1≠w.heap.size by omega))
 simp only[Yd]at HP3
 simp only[Yh]at p0
 have HR4:=h_ (HR3.u.row [.slice us un uk,.slice s2 n2 k2,.slice s3 n3 k3])
 clear hou hgr hat hW0 y0 y1 y2
 obtain⟨y0,y1,y2⟩:=three HP3.u
 go_wp2_with (refine wpList_store_row rfl 110 (.tmp 6) (.tmp 29) rfl (w.heap.size+1) (Jk us un uk s2 n2 k2 s3 n3 k3) rfl rfl 110 Jl HR3.u (by kernel_rfl) rfl (by simp[Value.oneCell']) ?_)
 clear y0 y1 y2 p0 pf
 obtain⟨x0,x1,x2⟩:=three HR4.u
 have hW1s:w.heap.size+3=(W0.alloc (.cells #[.string x] 9)).heap.size:=by simp[hs0]
 have hou:=HOu.u;have hgr:=HG.u;have hat:=HAt.u
 have hsz:w.heap.size+3<=W2.heap.size:=by rw[hW1s];exact hgr.size
 have hkq:∀q,q<w.heap.size->some q≠Value.ownBlock (.slice s1 n1 k1)->(((W2.setCell ⟨w.heap.size,0,none⟩ (.slice us un uk)).setRow (w.heap.size+1) (Jk us un uk s2 n2 k2 s3 n3 k3))).heap[q]? = w.heap[q]?:=fun q hq hn=>by
  rw[setRow_other _ _ _ _ (by omega)];rw[show(W2.setCell ⟨w.heap.size,0,none⟩ (.slice us un uk)).heap[q]? = W2.heap[q]? from heap_setCell_other _ _ _ _ (show q≠w.heap.size by omega)];rw[hgr.block q (by omega) hn];exact HB1.u.block q hq
 have hk1:addK K 1 x 1=K 1++[x]:=by unfold addK;simp
 have hk2:addK K 1 x 2=K 2:=by unfold addK;simp
 have hk3:addK K 1 x 3=K 3:=by unfold addK;simp
 have hub:∀q,Value.ownBlock (.slice us un uk)=some q->q<w.heap.size/\Value.ownBlock (.slice s1 n1 k1)=some q∨q=w.heap.size+3:=fun q e=>by
  rcases hat with h | h
  . rw[h]at e
    exact .inl ⟨qkl HO.u.r1 e,e⟩
  . rw[h]at e
    have e3:=Zt e;exact .inr (by omega)
 have hko:∀q,Value.ownBlock (.slice us un uk)=some q->((W2.setCell ⟨w.heap.size,0,none⟩ (.slice us un uk)).setRow (w.heap.size+1) (Jk us un uk s2 n2 k2 s3 n3 k3)).heap[q]? = W2.heap[q]?:=fun q e=>by
  have hq:q≠w.heap.size/\q≠w.heap.size+1:=by rcases hub q e with h | h <;> omega
  rw[setRow_other _ _ _ _ hq.2];exact heap_setCell_other _ _ _ _ hq.1
 have hap:∀{v:Value} {l:List ByteArray},OwnS w base v l->Apt (.slice s1 n1 k1) v->Apt (.slice us un uk) v:=fun ho ha q e e2=>by
  rcases hub q e with h | h
  . exact ha q h.2 e2
  . have:=qkl ho e2
    omega
 exact bodyPost_ret (v:=.agg (Jk us un uk s2 n2 k2 s3 n3 k3)) (by simp[results,Tryz.results71,go_sem,x0,x1,x2]) rfl ⟨_,_,_,rfl,⟨by rw[hk1];exact qkm hou hko,by rw[hk2];exact qkm HO.u.r2 fun q e=>hkq q (qkl HO.u.r2 e) (fun e2=>(HO.u.a12) q e2.symm e),by rw[hk3];exact qkm HO.u.r3 fun q e=>hkq q (qkl HO.u.r3 e) (fun e2=>(HO.u.a13) q e2.symm e),hap HO.u.r2 (HO.u.a12),hap HO.u.r3 (HO.u.a13),HO.u.a23⟩,⟨hgr.os.trans HB1.u.os,hgr.tape.trans HB1.u.tape,hgr.output.trans HB1.u.output,by simp[World.setRow];omega,fun q hq g1 g2 g3=>hkq q hq (fun e=>g1 e.symm)⟩⟩
theorem qej (K:Int->List ByteArray)(x:ByteArray)(w:World)(base:Nat)(v1 v2 v3:Value)(hl:(K 2).length<=100000)(h:OwnK K w base v1 v2 v3)(hb:base<=w.heap.size) :
 Calls Tryz.prog 71 #[.agg #[v1,v2,v3],J9 2,.string x] w fun e w'=>∃u1 u2 u3,e=.returned (.agg #[u1,u2,u3])/\OwnK (addK K 2 x) w' base u1 u2 u3/\Kpt v1 v2 v3 w w':=by
 obtain⟨s1,k1,e1,-,-⟩:=h.r1.strs;obtain⟨s2,k2,e2,-,-⟩:=h.r2.strs;obtain⟨s3,k3,e3,-,-⟩:=h.r3.strs
 have HL:=h_ hl;have HBs:=h_ hb
 generalize (K 1).length=n1 at e1
 generalize (K 2).length=n2 at e2
 generalize (K 3).length=n3 at e3
 subst e1 e2 e3
 have HO:=h_ h
 have HA:=h_ (((bR w.heap.size w).alloc (nR _) (.cells (Jk s1 n1 k1 s2 n2 k2 s3 n3 k3) 110)).alloc (by simp) (.cells Jl 110))
 have HP:=h_ ((Blk.new w 110 (Jk s1 n1 k1 s2 n2 k2 s3 n3 k3)).alloc (.cells Jl 110))
 have HR:=h_ (Blk.new (w.alloc (.cells (Jk s1 n1 k1 s2 n2 k2 s3 n3 k3) 110)) 110 Jl)
 rw[Yx]at HR
 obtain⟨W0,hW0⟩:=Nq ((w.alloc (.cells (Jk s1 n1 k1 s2 n2 k2 s3 n3 k3) 110)).alloc (.cells Jl 110))
 have hs0:W0.heap.size=w.heap.size+1+1:=by rw[<- hW0];simp
 rw[hW0]at HA HP HR
 have HN:Hi (Blk _ _ 9 [.string x]):=h_ (Blk.new W0 9 #[.string x])
 rw[hs0]at HN
 have HS:=h_ ((bR W0.heap.size W0).alloc (nR _) (.cells #[.string x] 9))
 have HB1:=h_ (HA.u.trans (HS.u.mono HA.u.size))
 have HP1:=h_ (HP.u.mono HS.u HP.u.lt);have HR1:=h_ (HR.u.mono HS.u HR.u.lt)
 have HK:=h_ (h.keep HB1.u)
 obtain⟨y0,y1,y2⟩:=three HP.u
 clear h hl hb
 go_enter Tryz.func71,Tryz.ntmps71
 go_wp2_with (at_builtin;(try rw[hW0]);refine q9k (n:=x) rfl _ _ rfl rfl HK.u.r2 rfl HN.u (by have:=HL.u;omega) (by have:=HBs.u;have:=HB1.u.size;omega) ?_)
 intro u W2 hou hgr hat
 have hne:∀q,w.heap.size<=q->some q≠Value.ownBlock (.slice s2 n2 k2):=fun q hq e=>by have:=qkl HO.u.r2 e.symm;omega
 have HP2:Hi (Blk W2 w.heap.size 110 [.slice s1 n1 k1,.slice s2 n2 k2,.slice s3 n3 k3]):=h_ ((hgr.block _ HP1.u.lt (hne _ (nR _))).trans HP1.u)
 have HR2:Hi (Blk W2 (w.heap.size+1) 110 [Ya,Ya,Ya]):=h_ ((hgr.block _ HR1.u.lt (hne _ (Vl _))).trans HR1.u)
 obtain⟨us,uk,eu,-,-⟩:=hou.strs
 generalize (K 2++[x]).length=un at eu
 subst eu
 have HOu:=h_ hou;have HG:=h_ hgr;have HAt:=h_ hat
 have p0:=HP2.u.cell 1;have pf:=HP2.u.free 1
 have HP3:=h_ (HP2.u.set 1 (.slice us un uk));have HR3:=h_ (HR2.u.other (a:=⟨w.heap.size,1,none⟩) (.slice us un uk) (show w.heap.size+1≠w.heap.size by omega))
 simp only[Yd,Ye]at HP3
 simp only[Yh,Yu]at p0
 have HR4:=h_ (HR3.u.row [.slice s1 n1 k1,.slice us un uk,.slice s3 n3 k3])
 clear hou hgr hat hW0 y0 y1 y2
 obtain⟨y0,y1,y2⟩:=three HP3.u
 go_wp2_with (refine wpList_store_row rfl 110 (.tmp 6) (.tmp 29) rfl (w.heap.size+1) (Jk s1 n1 k1 us un uk s3 n3 k3) rfl rfl 110 Jl HR3.u (by kernel_rfl) rfl (by simp[Value.oneCell']) ?_)
 clear y0 y1 y2 p0 pf
 obtain⟨x0,x1,x2⟩:=three HR4.u
 have hW1s:w.heap.size+3=(W0.alloc (.cells #[.string x] 9)).heap.size:=by simp[hs0]
 have hou:=HOu.u;have hgr:=HG.u;have hat:=HAt.u
 have hsz:w.heap.size+3<=W2.heap.size:=by rw[hW1s];exact hgr.size
 have hkq:∀q,q<w.heap.size->some q≠Value.ownBlock (.slice s2 n2 k2)->(((W2.setCell ⟨w.heap.size,1,none⟩ (.slice us un uk)).setRow (w.heap.size+1) (Jk s1 n1 k1 us un uk s3 n3 k3))).heap[q]? = w.heap[q]?:=fun q hq hn=>by
  rw[setRow_other _ _ _ _ (by omega)];rw[show(W2.setCell ⟨w.heap.size,1,none⟩ (.slice us un uk)).heap[q]? = W2.heap[q]? from heap_setCell_other _ _ _ _ (show q≠w.heap.size by omega)];rw[hgr.block q (by omega) hn];exact HB1.u.block q hq
 have hk1:addK K 2 x 1=K 1:=by unfold addK;simp
 have hk2:addK K 2 x 2=K 2++[x]:=by unfold addK;simp
 have hk3:addK K 2 x 3=K 3:=by unfold addK;simp
 have hub:∀q,Value.ownBlock (.slice us un uk)=some q->q<w.heap.size/\Value.ownBlock (.slice s2 n2 k2)=some q∨q=w.heap.size+3:=fun q e=>by
  rcases hat with h | h
  . rw[h]at e
    exact .inl ⟨qkl HO.u.r2 e,e⟩
  . rw[h]at e
    have e3:=Zt e;exact .inr (by omega)
 have hko:∀q,Value.ownBlock (.slice us un uk)=some q->((W2.setCell ⟨w.heap.size,1,none⟩ (.slice us un uk)).setRow (w.heap.size+1) (Jk s1 n1 k1 us un uk s3 n3 k3)).heap[q]? = W2.heap[q]?:=fun q e=>by
  have hq:q≠w.heap.size/\q≠w.heap.size+1:=by rcases hub q e with h | h <;> omega
  rw[setRow_other _ _ _ _ hq.2];exact heap_setCell_other _ _ _ _ hq.1
 have hap:∀{v:Value} {l:List ByteArray},OwnS w base v l->Apt (.slice s2 n2 k2) v->Apt (.slice us un uk) v:=fun ho ha q e e2=>by
  rcases hub q e with h | h
  . exact ha q h.2 e2
  . have:=qkl ho e2
    omega
 exact bodyPost_ret (v:=.agg (Jk s1 n1 k1 us un uk s3 n3 k3)) (by simp[results,Tryz.results71,go_sem,x0,x1,x2]) rfl ⟨_,_,_,rfl,⟨by rw[hk1];exact qkm HO.u.r1 fun q e=>hkq q (qkl HO.u.r1 e) (fun e2=>(HO.u.a12.symm) q e2.symm e),by rw[hk2];exact qkm hou hko,by rw[hk3];exact qkm HO.u.r3 fun q e=>hkq q (qkl HO.u.r3 e) (fun e2=>(HO.u.a23) q e2.symm e),(hap HO.u.r1 (HO.u.a12.symm)).symm,HO.u.a13,hap HO.u.r3 (HO.u.a23)⟩,⟨hgr.os.trans HB1.u.os,hgr.tape.trans HB1.u.tape,hgr.output.trans HB1.u.output,by simp[World.setRow];omega,fun q hq g1 g2 g3=>hkq q hq (fun e=>g2 e.symm)⟩⟩
theorem qek (K:Int->List ByteArray)(x:ByteArray)(w:World)(base:Nat)(v1 v2 v3:Value)(hl:(K 3).length<=100000)(h:OwnK K w base v1 v2 v3)(hb:base<=w.heap.size) :
 Calls Tryz.prog 71 #[.agg #[v1,v2,v3],J9 3,.string x] w fun e w'=>∃u1 u2 u3,e=.returned (.agg #[u1,u2,u3])/\OwnK (addK K 3 x) w' base u1 u2 u3/\Kpt v1 v2 v3 w w':=by
 obtain⟨s1,k1,e1,-,-⟩:=h.r1.strs;obtain⟨s2,k2,e2,-,-⟩:=h.r2.strs;obtain⟨s3,k3,e3,-,-⟩:=h.r3.strs
 have HL:=h_ hl;have HBs:=h_ hb
 generalize (K 1).length=n1 at e1
 generalize (K 2).length=n2 at e2
 generalize (K 3).length=n3 at e3
 subst e1 e2 e3
 have HO:=h_ h
 have HA:=h_ (((bR w.heap.size w).alloc (nR _) (.cells (Jk s1 n1 k1 s2 n2 k2 s3 n3 k3) 110)).alloc (by simp) (.cells Jl 110))
 have HP:=h_ ((Blk.new w 110 (Jk s1 n1 k1 s2 n2 k2 s3 n3 k3)).alloc (.cells Jl 110))
 have HR:=h_ (Blk.new (w.alloc (.cells (Jk s1 n1 k1 s2 n2 k2 s3 n3 k3) 110)) 110 Jl)
 rw[Yx]at HR
 obtain⟨W0,hW0⟩:=Nq ((w.alloc (.cells (Jk s1 n1 k1 s2 n2 k2 s3 n3 k3) 110)).alloc (.cells Jl 110))
 have hs0:W0.heap.size=w.heap.size+1+1:=by rw[<- hW0];simp
 rw[hW0]at HA HP HR
 have HN:Hi (Blk _ _ 9 [.string x]):=h_ (Blk.new W0 9 #[.string x])
 rw[hs0]at HN
 have HS:=h_ ((bR W0.heap.size W0).alloc (nR _) (.cells #[.string x] 9))
 have HB1:=h_ (HA.u.trans (HS.u.mono HA.u.size))
 have HP1:=h_ (HP.u.mono HS.u HP.u.lt);have HR1:=h_ (HR.u.mono HS.u HR.u.lt)
 have HK:=h_ (h.keep HB1.u)
 obtain⟨y0,y1,y2⟩:=three HP.u
 clear h hl hb
 go_enter Tryz.func71,Tryz.ntmps71
 go_wp2_with (at_builtin;(try rw[hW0]);refine q9k (n:=x) rfl _ _ rfl rfl HK.u.r3 rfl HN.u (by have:=HL.u;omega) (by have:=HBs.u;have:=HB1.u.size;omega) ?_)
 intro u W2 hou hgr hat
 have hne:∀q,w.heap.size<=q->some q≠Value.ownBlock (.slice s3 n3 k3):=fun q hq e=>by have:=qkl HO.u.r3 e.symm;omega
 have HP2:Hi (Blk W2 w.heap.size 110 [.slice s1 n1 k1,.slice s2 n2 k2,.slice s3 n3 k3]):=h_ ((hgr.block _ HP1.u.lt (hne _ (nR _))).trans HP1.u)
 have HR2:Hi (Blk W2 (w.heap.size+1) 110 [Ya,Ya,Ya]):=h_ ((hgr.block _ HR1.u.lt (hne _ (Vl _))).trans HR1.u)
 obtain⟨us,uk,eu,-,-⟩:=hou.strs
 generalize (K 3++[x]).length=un at eu
 subst eu
 have HOu:=h_ hou;have HG:=h_ hgr;have HAt:=h_ hat
 have p0:=HP2.u.cell 2;have pf:=HP2.u.free 2
 have HP3:=h_ (HP2.u.set 2 (.slice us un uk));have HR3:=h_ (HR2.u.other (a:=⟨w.heap.size,2,none⟩) (.slice us un uk) (show w.heap.size+1≠w.heap.size by omega))
 simp only[Yd,Ye]at HP3
 simp only[Yh,Yu]at p0
 have HR4:=h_ (HR3.u.row [.slice s1 n1 k1,.slice s2 n2 k2,.slice us un uk])
 clear hou hgr hat hW0 y0 y1 y2
 obtain⟨y0,y1,y2⟩:=three HP3.u
 go_wp2_with (refine wpList_store_row rfl 110 (.tmp 6) (.tmp 29) rfl (w.heap.size+1) (Jk s1 n1 k1 s2 n2 k2 us un uk) rfl rfl 110 Jl HR3.u (by kernel_rfl) rfl (by simp[Value.oneCell']) ?_)
 clear y0 y1 y2 p0 pf
 obtain⟨x0,x1,x2⟩:=three HR4.u
 have hW1s:w.heap.size+3=(W0.alloc (.cells #[.string x] 9)).heap.size:=by simp[hs0]
 have hou:=HOu.u;have hgr:=HG.u;have hat:=HAt.u
 have hsz:w.heap.size+3<=W2.heap.size:=by rw[hW1s];exact hgr.size
 have hkq:∀q,q<w.heap.size->some q≠Value.ownBlock (.slice s3 n3 k3)->(((W2.setCell ⟨w.heap.size,2,none⟩ (.slice us un uk)).setRow (w.heap.size+1) (Jk s1 n1 k1 s2 n2 k2 us un uk))).heap[q]? = w.heap[q]?:=fun q hq hn=>by
  rw[setRow_other _ _ _ _ (by omega)];rw[show(W2.setCell ⟨w.heap.size,2,none⟩ (.slice us un uk)).heap[q]? = W2.heap[q]? from heap_setCell_other _ _ _ _ (show q≠w.heap.size by omega)];rw[hgr.block q (by omega) hn];exact HB1.u.block q hq
 have hk1:addK K 3 x 1=K 1:=by unfold addK;simp
 have hk2:addK K 3 x 2=K 2:=by unfold addK;simp
 have hk3:addK K 3 x 3=K 3++[x]:=by unfold addK;simp
 have hub:∀q,Value.ownBlock (.slice us un uk)=some q->q<w.heap.size/\Value.ownBlock (.slice s3 n3 k3)=some q∨q=w.heap.size+3:=fun q e=>by
  rcases hat with h | h
  . rw[h]at e
    exact .inl ⟨qkl HO.u.r3 e,e⟩
  . rw[h]at e
    have e3:=Zt e;exact .inr (by omega)
 have hko:∀q,Value.ownBlock (.slice us un uk)=some q->((W2.setCell ⟨w.heap.size,2,none⟩ (.slice us un uk)).setRow (w.heap.size+1) (Jk s1 n1 k1 s2 n2 k2 us un uk)).heap[q]? = W2.heap[q]?:=fun q e=>by
  have hq:q≠w.heap.size/\q≠w.heap.size+1:=by rcases hub q e with h | h <;> omega
  rw[setRow_other _ _ _ _ hq.2];exact heap_setCell_other _ _ _ _ hq.1
 have hap:∀{v:Value} {l:List ByteArray},OwnS w base v l->Apt (.slice s3 n3 k3) v->Apt (.slice us un uk) v:=fun ho ha q e e2=>by
  rcases hub q e with h | h
  . exact ha q h.2 e2
  . have:=qkl ho e2
    omega
 exact bodyPost_ret (v:=.agg (Jk s1 n1 k1 s2 n2 k2 us un uk)) (by simp[results,Tryz.results71,go_sem,x0,x1,x2]) rfl ⟨_,_,_,rfl,⟨by rw[hk1];exact qkm HO.u.r1 fun q e=>hkq q (qkl HO.u.r1 e) (fun e2=>(HO.u.a13.symm) q e2.symm e),by rw[hk2];exact qkm HO.u.r2 fun q e=>hkq q (qkl HO.u.r2 e) (fun e2=>(HO.u.a23.symm) q e2.symm e),by rw[hk3];exact qkm hou hko,HO.u.a12,(hap HO.u.r1 (HO.u.a13.symm)).symm,(hap HO.u.r2 (HO.u.a23.symm)).symm⟩,⟨hgr.os.trans HB1.u.os,hgr.tape.trans HB1.u.tape,hgr.output.trans HB1.u.output,by simp[World.setRow];omega,fun q hq g1 g2 g3=>hkq q hq (fun e=>g3 e.symm)⟩⟩
theorem q6m {ops:Array Oper}{rest:List Oper}{o:Oper}{a:Act}{Q:Exit->Act->World->Prop}{w:World}(hgd:o.guard=.none)(s x:Operand)
 (ho:o.op=.call { callee:=.builtin .append,args:=#[s,x],argTypes:=#[40,40] }) {base:Nat} {v:Value} {l:List Nx} (hs:a.eval s=v) (hown:OwnN w base v l)
 {g:Nat} {n m:Nx} (hx:a.eval x=.slice (some ⟨g,0,.none⟩) 2 2) (hc:Blk w g 96 (nC n++nC m)) (hl:l.length+2<=2097152) (hbase:base<=w.heap.size)
 (h:∀v' w',OwnN w' base v' (l++[n,m])->Below base w w'->wpList Tryz.prog ops Q rest (a.put o.dst v') w'):wpList Tryz.prog ops Q (o :: rest) a w:=by
 obtain⟨i0,hi,hz0,hz1,hz2⟩:=info_parts qj2
 refine wpList_append_own w hgd s x 40 ho base 96 i0 _ 5 56 Tryz.underlying40 hi hz0 hz1 hz2 rfl (by omega) _ _ _ hs hown ⟨g,0,.none⟩ 2 2 (nC n++nC m) hx rfl (fun j v hj=>by rw[show(⟨g,0,.none⟩:Addr).add j=⟨g,j,.none⟩ by simp[Addr.add];try exact fun h=>h.symm];exact(hc.cell j).trans hj) (by simp[nC,Value.oneCell']) (by unfold maxLen;omega) (by omega) hbase ?_
 intro v' W9 ho hgr _
 refine h v' W9 ?_ ((bR base w).grown hgr hbase (fun q e=>q8q hown e))
 unfold OwnN
 rw[qf5,Yg]
 simpa [nodV] using ho
end Go.Proofs.YtebbgodlijlioaaGreatDoor
namespace Go.Proofs.YtebbgodlijlioaaGreatDoor
open Go
def kl (x:ByteArray):Lit:=.string (sb x)
theorem kl_inj {x y:ByteArray}(h:kl x=kl y):x=y:=by
 unfold kl sb at h
 simp only[Lit.string.injEq]at h
 obtain⟨⟨a⟩⟩:=x
 obtain⟨⟨b⟩⟩:=y
 simp at h
 rw[h]
def mpR:List ByteArray->DataW Unit
 | []=>.map []
 | x :: r=>(mpR r).put (kl x) (.lit (.int .i64 (r.length:Int)))
def mp (l:List ByteArray):DataW Unit:=mpR l.reverse
theorem qk9 (l:List ByteArray)(x:ByteArray):mp (l++[x])=(mp l).put (kl x) (.lit (.int .i64 (l.length:Int))):=by
 unfold mp
 rw[List.reverse_append]
 simp[mpR]
theorem qgy (r:List ByteArray):Maps.Tidy (mpR r):=by
 induction r with
 | nil=>exact Maps.tidy_empty
 | cons x r ih=>exact ih.put (show WideAt.IsKeyLit (kl x) from trivial) _
theorem qiv (r:List ByteArray)(x:ByteArray):Maps.has (mpR r) (kl x)=memB x r:=by
 induction r with
 | nil=>rfl
 | cons y r ih =>
  by_cases h:x=y
  . subst h
    rw[show mpR (x :: r)=(mpR r).put (kl x) (.lit (.int .i64 (r.length:Int))) from rfl,Maps.has_put_same (qgy r).isMap (show WideAt.IsKeyLit (kl x) from trivial)];exact((qez _ _).2 Zd).symm
  . rw[show mpR (y :: r)=(mpR r).put (kl y) (.lit (.int .i64 (r.length:Int))) from rfl,Maps.has_put_other (fun hc=>h (kl_inj hc)),ih]
    unfold memB;rw[List.any_cons,Yj (fun e=>h e.symm),Bool.false_or]
theorem qgl (r:List ByteArray):Maps.size (mpR r)<=r.length/\(Maps.size (mpR r)=r.length ↔ r.Nodup):=by
 induction r with
 | nil=>exact⟨nR _,by simp[mpR,Maps.size]⟩
 | cons x r ih =>
  rw[show mpR (x :: r)=(mpR r).put (kl x) (.lit (.int .i64 (r.length:Int))) from rfl,Maps.size_put (qgy r),qiv];rw[Oa,Ys];by_cases h:x∈r
  . rw[Yz ((qez _ _).2 h)]
    exact⟨by omega,⟨fun hc=>by omega,fun hc=>absurd h hc.1⟩⟩
  . rw[Yt (by rw[qk4 h];simp)]
    exact⟨by omega,⟨fun hc=>⟨h,ih.2.1 (by omega)⟩,fun hc=>by rw[ih.2.2 hc.2]⟩⟩
theorem has_mp (l:List ByteArray)(x:ByteArray):Maps.has (mp l) (kl x)=memB x l:=by
 unfold mp
 rw[qiv,Zv,qez,qez]
 simp
theorem qlm (l:List ByteArray):Maps.size (mp l)<=l.length/\(Maps.size (mp l)=l.length ↔ l.Nodup):=by
 unfold mp
 have h:=qgl l.reverse
 rw[Y8]at h
 exact⟨h.1,h.2.trans ⟨fun x=>by simpa using (List.Perm.nodup_iff (List.reverse_perm l)).1 x,fun x=>(List.Perm.nodup_iff (List.reverse_perm l)).2 x⟩⟩
end Go.Proofs.YtebbgodlijlioaaGreatDoor
namespace Go.Proofs.YtebbgodlijlioaaGreatDoor
open Go Go.RowKit
def PMap (w:World)(b:Nat)(l:List ByteArray):Prop:=w.ownsMap Tryz.prog 9 (plainElem (H:=Unit) Tryz.prog 3) b l.length (mp l)
theorem PMap.mono {w w':World}{b:Nat}{l:List ByteArray}(h:PMap w b l)(hb:Below w.heap.size w w'):PMap w' b l:=by
 have hlt:=World.ownsMap.lt h
 obtain⟨es,clock,h1,F,hs,hD⟩:=h
 exact⟨es,clock,(hb.block b hlt).trans h1,F,hs,hD⟩
theorem wf_nat {k:Nat}(h:k<=9223372036854775807):(Lit.int .i64 (k:Int)).wf=true:=by
 unfold Lit.wf
 rw[Yn,Yp,Yp]
 have h1:IntKind.i64.min = -9223372036854775808:=by decide
 have h2:IntKind.i64.max=9223372036854775807:=by decide
 omega
theorem q0t (m:Fm)(A:MA)(w:World)(hf:FitM m) :
 Calls Tryz.prog 109 #[mV m A] w fun r w'=>r=.returned (.bool (decide (m.L.length<=32/\m.P.length<=256/\m.R.length<=64/\m.F.length<=200)))/\Below w.heap.size w w':=by
 obtain⟨al,alc,ap,apc,ar,arc,af,afc,afa⟩:=A
 unfold mV
 dsimp only
 have HK:=h_ (Blk.new w 28 (#[.slice al m.L.length alc,.slice ap m.P.length apc,.slice ar m.R.length arc,.slice af m.F.length afc]))
 have HB:=h_ ((bR w.heap.size w).alloc (nR _) (.cells (#[.slice al m.L.length alc,.slice ap m.P.length apc,.slice ar m.R.length arc,.slice af m.F.length afc]) 28))
 obtain⟨W0,hW0⟩:=Nq (w.alloc (.cells (#[.slice al m.L.length alc,.slice ap m.P.length apc,.slice ar m.R.length arc,.slice af m.F.length afc]) 28))
 rw[hW0]at HK HB
 obtain⟨y0,y1,y2,y3⟩:=quad HK.u
 have h1:=hf.ll;have h2:=hf.pl;have h3:=hf.rl;have h4:=hf.fl
 generalize m.L.length=n1 at *
 generalize m.P.length=n2 at *
 generalize m.R.length=n3 at *
 generalize m.F.length=n4 at *
 clear hf
 by_cases g1:(n1:Int)<=32
 . by_cases g2:(n2:Int)<=256
   . by_cases g3:(n3:Int)<=64
     . by_cases g4:(n4:Int)<=200
       . have HX:Hi (decide (n1<=32/\n2<=256/\n3<=64/\n4<=200)=true):=h_ (Ym (by omega))
         generalize decide (n1<=32/\n2<=256/\n3<=64/\n4<=200)=q at *;go_enter Tryz.func109,Tryz.ntmps109;go_wp2_with fail;go_ret;exact⟨qg2 HX.u.symm,HB.u⟩
       . have HX:Hi (decide (n1<=32/\n2<=256/\n3<=64/\n4<=200)=false):=h_ (Yj (by omega))
         generalize decide (n1<=32/\n2<=256/\n3<=64/\n4<=200)=q at *;go_enter Tryz.func109,Tryz.ntmps109;go_wp2_with fail;go_ret;exact⟨qg2 HX.u.symm,HB.u⟩
     . have HX:Hi (decide (n1<=32/\n2<=256/\n3<=64/\n4<=200)=false):=h_ (Yj (by omega))
       generalize decide (n1<=32/\n2<=256/\n3<=64/\n4<=200)=q at *;go_enter Tryz.func109,Tryz.ntmps109;go_wp2_with fail;go_ret;exact⟨qg2 HX.u.symm,HB.u⟩
   . have HX:Hi (decide (n1<=32/\n2<=256/\n3<=64/\n4<=200)=false):=h_ (Yj (by omega))
     generalize decide (n1<=32/\n2<=256/\n3<=64/\n4<=200)=q at *;go_enter Tryz.func109,Tryz.ntmps109;go_wp2_with fail;go_ret;exact⟨qg2 HX.u.symm,HB.u⟩
 . have HX:Hi (decide (n1<=32/\n2<=256/\n3<=64/\n4<=200)=false):=h_ (Yj (by omega))
   generalize decide (n1<=32/\n2<=256/\n3<=64/\n4<=200)=q at *;go_enter Tryz.func109,Tryz.ntmps109;go_wp2_with fail;go_ret;exact⟨qg2 HX.u.symm,HB.u⟩
theorem q46 (a:Option Addr)(c:Nat)(l:List ByteArray)(w:World)(hl:l.length<=1000000)(hs:∀x,x∈l->x.size<=9223372036854775807)(ha:Strs w a l) :
 Calls Tryz.prog 45 #[.slice a l.length c] w fun r w'=>r=.returned (.map (some w.heap.size))/\PMap w' w.heap.size l/\Below w.heap.size w w':=by
 have HA:=h_ ha;have HS:=h_ hs
 have HM:Hi ((w.alloc (.map #[] 0)).ownsMap Tryz.prog 9 (plainElem (H:=Unit) Tryz.prog 3) w.heap.size 0 (mp (l.take 0))):=h_ (World.ownsMap_made _ _ _ _)
 clear ha hs
 obtain⟨n,hn⟩:=Nq l.length
 rw[hn]at hl⊢
 have HN:=h_ hn
 clear hn
 have hmm:=@run_makeMap Tryz.prog
 go_enter Tryz.func45,Tryz.ntmps45
 go_wp2_with fail
 clear hmm
 go_loopw [9] (fun i wr=>∃k:Nat,k<=n/\i=J9 k/\wr.ownsMap Tryz.prog 9 (plainElem (H:=Unit) Tryz.prog 3) w.heap.size k (mp (l.take k))/\Below w.heap.size w wr) (fun i _=>n - (intOf i).toNat)
 case atStart=>exact⟨0,nZ _,rfl,HM.u,(bR _ _).alloc (nR _) _⟩
 case round =>
  clear HM;obtain⟨k,hk,rfl,hown,hb⟩:=hrel;have HO:=h_ hown;have HB:=h_ hb;have HAr:=h_ (HA.u.mono hb);clear hown hb;by_cases hlt:k<n
  . have hlt':(k:Int)<n:=by omega
    have hkl:k<l.length:=(by have:=HN.u;omega);obtain⟨b,o,rfl,-,z0⟩:=HAr.u k hkl;have HT:Hi (mp (l.take (k+1))=(mp (l.take k)).put (kl l[k]) (.lit (.int .i64 (k:Int)))):=h_ (by
     rw[Yq hkl,qk9,Y6,O8 (by omega)])
    have hkey:keyOf Tryz.prog 9 (.string l[k])=some (kl l[k]):=WideMaps.keyOf_string_mk Tryz.underlying9 (HS.u _ (Yk hkl));have HKy:=h_ hkey;clear hkey;generalize l[k]=x at *;go_wp2_with (at_mapUpdate;refine wpList_mapUpdate_own _ rfl _ _ _ 54 rfl 9 3 (Maps.string_keyed Tryz.underlying9) Tryz.underlying54 _ w.heap.size k _ rfl HO.u (by unfold maxLen;omega) _ _ _ rfl rfl HKy.u _ [] (plainElem_int Tryz.underlying3 (wf_nat (by omega))) ?_);intro w1 hown1 hgrow1;have HO1:Hi (w1.ownsMap Tryz.prog 9 (plainElem (H:=Unit) Tryz.prog 3) w.heap.size (k+1) (mp (l.take (k+1)))):=h_ (by rw[HT.u];exact hown1);have HB1:Hi (Below w.heap.size w w1):=h_ (HB.u.grown hgrow1 HB.u.size (fun j hj=>by cases hj;exact nR _));clear hown1 hgrow1;go_wp2_with fail;go_roundw
    case rel=>first | exact⟨k+1,by omega,by go_num,HO1.u,HB1.u⟩ | ((repeat apply Exists.intro);exact⟨⟨k+1,by omega,by go_num,HO1.u,HB1.u⟩,rfl⟩)
    case measure=>simp[intOf];omega
  . obtain rfl:k=n:=by omega
    have hlt':¬ (k:Int)<(k:Int):=(by omega);have HO2:Hi (PMap wr w.heap.size l):=h_ (by
     have h:=HO.u;have hn:=HN.u;rw[Y9 (by omega)]at h;unfold PMap;rw[hn];exact h)
    go_wp2_with fail;go_ret;exact⟨rfl,HO2.u,HB.u⟩
theorem q01 (a:Option Addr)(c:Nat)(l:List ByteArray)(w:World)(hl:l.length<=1000000)(hs:∀x,x∈l->x.size<=9223372036854775807)(ha:Strs w a l) :
 Calls Tryz.prog 167 #[.slice a l.length c] w fun r w'=>r=.returned (.bool (decide l.Nodup))/\Below w.heap.size w w':=by
 have HC:=h_ (q46 a c l w hl hs ha)
 have HS:=h_ (qlm l)
 clear ha hs
 obtain⟨n,hn⟩:=Nq l.length
 rw[hn]at hl HC HS⊢
 have HN:=h_ hn
 clear hn
 go_enter Tryz.func167,Tryz.ntmps167
 go_wp2_with fail
 refine HC.u.mono ?_
 rintro r W1 ⟨rfl,hm,hb⟩
 have HM:=h_ hm;have HB:=h_ hb
 clear hm hb
 obtain⟨q,hq⟩:=Nq (Maps.size (mp l))
 have hq1:=HS.u.1
 rw[hq]at hq1
 have HQ:Hi (decide l.Nodup=((q:Int)==(n:Int))):=h_ (by
  have h:=HS.u.2;rw[hq]at h;by_cases e:q=n
  . rw[Ym (h.1 e),e];simp
  . rw[Yj (fun c=>e (h.2 c))]
    exact(Yf.2 (by omega)).symm)
 go_wp2_with (at_len;refine wpList_len_own _ rfl _ 54 rfl 9 3 Tryz.underlying54 _ w.heap.size l.length (mp l) rfl HM.u ?_;rw[hq];clear hq)
 go_ret
 exact⟨qg2 HQ.u.symm,HB.u⟩
theorem q0j (a:Option Addr)(c:Nat)(l:List ByteArray)(w:World)(hl:l.length<=1000000)(hs:∀x,x∈l->x.size<=9223372036854775807)(ha:Strs w a l) :
 Calls Tryz.prog 141 #[.slice a l.length c] w fun r w'=>r=.returned (.bool (namesOk l))/\Below w.heap.size w w':=by
 have HA:=h_ ha;have HS:=h_ hs
 have HE:Hi (namesOk l=(l.all goodN&&decide l.Nodup)):=h_ rfl
 clear ha hs
 obtain⟨n,hn⟩:=Nq l.length
 generalize namesOk l=q at *
 have HL:Hi (l.length<=1000000):=h_ hl
 rw[hn]at hl⊢
 have HN:=h_ hn
 clear hn
 go_enter Tryz.func141,Tryz.ntmps141
 go_wp2_with fail
 go_loopw [7] (fun i wr=>∃k:Nat,k<=n/\i=J9 k/\(∀j (h:j<l.length),j<k->goodN l[j]=true)/\Below w.heap.size w wr) (fun i _=>n - (intOf i).toNat)
 case atStart=>exact⟨0,nZ _,rfl,fun j _ hj=>absurd hj (nL _),bR _ _⟩
 case round =>
  obtain⟨k,hk,rfl,hall,hb⟩:=hrel;have HLl:=h_ hall;have HB0:=h_ hb;replace HA:=h_ (HA.u.mono hb);clear hall hb;by_cases hlt:k<n
  . have hlt':(k:Int)<n:=by omega
    have hkl:k<l.length:=(by have:=HN.u;omega);obtain⟨b,o,rfl,-,z0⟩:=HA.u k hkl;have HC:=h_ (q1h l[k] wr (HS.u _ (Yk hkl)));have HF:Hi (goodN l[k]=false->q=false):=h_ fun h=>by
     rw[HE.u,show l.all goodN=false from Vh.2 ⟨l[k],Yk hkl,by simp[h]⟩];rfl
    have HG:Hi (goodN l[k]=true->∀j (h:j<l.length),j<k+1->goodN l[j]=true):=h_ fun h j hj hjk=>by
     by_cases ej:j=k
     . subst ej;exact h
     . exact HLl.u j hj (by omega)
    generalize l[k]=x at *;generalize goodN x=g at *;cases g
    . have HX:=h_ (HF.u rfl)
      go_wp2_with fail;refine HC.u.mono ?_;rintro r w1 ⟨rfl,hw⟩;replace hw:=hw.symm;subst hw;go_wp2_with fail;go_ret;exact⟨qg2 HX.u.symm,HB0.u⟩
    . have HX:=h_ (HG.u rfl)
      go_wp2_with fail;refine HC.u.mono ?_;rintro r w1 ⟨rfl,hw⟩;replace hw:=hw.symm;subst hw;go_wp2_with fail;go_roundw
      case rel=>first | exact⟨k+1,by omega,by go_num,HX.u,HB0.u⟩ | ((repeat apply Exists.intro);exact⟨⟨k+1,by omega,by go_num,HX.u,HB0.u⟩,rfl⟩)
      case measure=>simp[intOf];omega
  . obtain rfl:k=n:=by omega
    have hlt':¬ (k:Int)<(k:Int):=(by omega);have HX:Hi (q=decide l.Nodup):=h_ (by
     rw[HE.u,show l.all goodN=true from Y2.2 fun x hx=>by
      obtain⟨j,hj,rfl⟩:=Yy.1 hx;exact HLl.u j hj (by have:=HN.u;omega)]
     rfl)
    have HC:Hi (Calls Tryz.prog 167 #[.slice a k c] wr fun r w'=>r=.returned (.bool (decide l.Nodup))/\Below wr.heap.size wr w'):=h_ (by
     have h:=q01 a c l wr HL.u HS.u HA.u;rw[HN.u]at h;exact h)
    generalize decide l.Nodup=d at *;go_wp2_with fail;refine HC.u.mono ?_;rintro r w1 ⟨rfl,hb⟩;have HB:=mT HB0 hb;clear hb;go_wp2_with fail;go_ret;exact⟨qg2 HX.u.symm,HB.u⟩
theorem duo {w:World}{b:Nat}{t:TypeId}{v0 v1:Value}(h:Blk w b t [v0,v1]):w.cell? ⟨b,0,none⟩=some v0/\w.cell? ⟨b,1,none⟩=some v1:=⟨h.cell 0,h.cell 1⟩
theorem q2q (m:Fm)(A:MA)(w:World)(hl:m.R.length<=64)(ha:Rls w A.r m.R) :
 Calls Tryz.prog 142 #[mV m A] w fun r w'=>∃a0 c0,r=.returned (.slice a0 m.R.length c0)/\Strs w' a0 (rNames m)/\Below w.heap.size w w':=by
 obtain⟨al,alc,ap,apc,ar,arc,af,afc,afa⟩:=A
 unfold mV
 dsimp only at ha⊢
 have HK:=h_ (Blk.new w 28 (#[.slice al m.L.length alc,.slice ap m.P.length apc,.slice ar m.R.length arc,.slice af m.F.length afc]))
 have HB:=h_ ((bR w.heap.size w).alloc (nR _) (.cells (#[.slice al m.L.length alc,.slice ap m.P.length apc,.slice ar m.R.length arc,.slice af m.F.length afc]) 28))
 obtain⟨W0,hW0⟩:=Nq (w.alloc (.cells (#[.slice al m.L.length alc,.slice ap m.P.length apc,.slice ar m.R.length arc,.slice af m.F.length afc]) 28))
 have hsz:W0.heap.size=w.heap.size+1:=by rw[<- hW0];simp
 rw[hW0]at HK HB
 have HO:Hi (W0.ownsRow (w.heap.size+1) 9 1 Ya 0 []):=h_ (World.ownsRow_nil _ _ _ _)
 have HA:=h_ ha
 obtain⟨n,hn⟩:=Nq m.R.length
 rw[hn]at HK hl hW0⊢
 have HN:=h_ hn
 obtain⟨y0,y1,y2,y3⟩:=quad HK.u
 clear ha hn
 go_enter Tryz.func142,Tryz.ntmps142
 go_wp2_with fail
 try rw[hW0]
 clear hW0 y0 y1 y2 y3
 go_loopw [3,9] (fun v i wr=>∃k:Nat,k<=n/\i=J9 k/\wr.ownsRow (w.heap.size+1) 9 1 v k (stV ((rNames m).take k))/\Below (w.heap.size+1) W0 wr) (fun _ i _=>n - (intOf i).toNat)
 case atStart=>exact⟨0,nZ _,rfl,HO.u,bR _ _⟩
 case round =>
  clear HO;obtain⟨k,hk,rfl,hO,hb⟩:=hrel;have hbw:=HB.u.trans (hb.mono (by omega));have hws:=hb.size;have HAr:=h_ (HA.u.mono hbw);have HBr:=h_ hb;have HBw:=h_ hbw;have HO:=h_ hO;clear hb hbw hO;by_cases hlt:k<n
  . have hlt':(k:Int)<n:=by omega
    have hkl:k<m.R.length:=(by have:=HN.u;omega);obtain⟨b,o,rfl,-,z0,z1⟩:=HAr.u k hkl;have HT:Hi ((rNames m).take (k+1)=(rNames m).take k++[m.R[k].nm]):=h_ (by
     have hk2:k<(rNames m).length:=(by simpa [rNames] using hkl);rw[Yq hk2];simp[rNames])
    generalize m.R[k]=u at *;have HKf:=h_ (Blk.new wr 66 #[.string u.nm,J9 u.lb]);have HBf:=h_ (HBr.u.alloc (by omega) (.cells #[.string u.nm,J9 u.lb] 66));have HO1:=h_ (HO.u.alloc (.cells #[.string u.nm,J9 u.lb] 66));obtain⟨Wd,hWd⟩:=Nq (wr.alloc (.cells #[.string u.nm,J9 u.lb] 66));have hdz:wr.heap.size+1<=Wd.heap.size:=(by rw[<- hWd];simp);rw[hWd]at HKf HBf HO1;obtain⟨x0,x1⟩:=duo HKf.u;obtain⟨i0,hi,hz0,hz1,hz2⟩:=info_parts qeb;go_wp2_with (at_builtin;refine wpList_append_own _ rfl _ _ 23 rfl (w.heap.size+1) 9 i0 _ 1 16 Tryz.underlying23 hi hz0 hz1 hz2 rfl (by omega) _ _ _ rfl (HO1.u.alloc _) ⟨Wd.heap.size,0,none⟩ 1 1 [.string u.nm] rfl rfl (qdh Wd 9 _) (by simp[Value.oneCell']) (by unfold maxLen;omega) (by omega) (by simp;omega) ?_);intro v' w3 ho' hgr' _;have hB2:=(HBf.u.alloc (by omega) (.cells #[.string u.nm] 9)).grown hgr' (by simp;omega) (fun q' e=>q8q HO1.u e);have HO2:Hi (w3.ownsRow (w.heap.size+1) 9 1 v' (k+1) (stV ((rNames m).take (k+1)))):=h_ (by rw[HT.u,qgn];exact ho');have HB2:=h_ hB2;clear ho' hgr' hB2 hi hz0 hz1 hz2;go_wp2_with fail;go_roundw
    case rel=>first | exact⟨k+1,by omega,by go_num,HO2.u,HB2.u⟩ | ((repeat apply Exists.intro);exact⟨⟨k+1,by omega,by go_num,HO2.u,HB2.u⟩,rfl⟩)
    case measure=>simp[intOf];omega
  . obtain rfl:k=n:=by omega
    have hlt':¬ (k:Int)<(k:Int):=(by omega);have hO:=HO.u;rw[Y9 (by simp[rNames];have:=HN.u;omega)]at hO;obtain⟨a1,c1,rfl,-,hS⟩:=q4e hO;have HS:=h_ hS;clear hO hS HO;go_wp2_with fail;go_ret
    first | exact⟨_,⟨_,rfl⟩,HS.u,HBw.u⟩ | exact⟨_,_,rfl,HS.u,HBw.u⟩
theorem q1c (m:Fm)(A:MA)(w:World)(hl:m.F.length<=200)(ha:Flds w A.f m.F A.fa) :
 Calls Tryz.prog 46 #[mV m A] w fun r w'=>∃a0 c0,r=.returned (.slice a0 m.F.length c0)/\Strs w' a0 (fNames m)/\Below w.heap.size w w':=by
 obtain⟨al,alc,ap,apc,ar,arc,af,afc,afa⟩:=A
 unfold mV
 dsimp only at ha⊢
 have HK:=h_ (Blk.new w 28 (#[.slice al m.L.length alc,.slice ap m.P.length apc,.slice ar m.R.length arc,.slice af m.F.length afc]))
 have HB:=h_ ((bR w.heap.size w).alloc (nR _) (.cells (#[.slice al m.L.length alc,.slice ap m.P.length apc,.slice ar m.R.length arc,.slice af m.F.length afc]) 28))
 obtain⟨W0,hW0⟩:=Nq (w.alloc (.cells (#[.slice al m.L.length alc,.slice ap m.P.length apc,.slice ar m.R.length arc,.slice af m.F.length afc]) 28))
 have hsz:W0.heap.size=w.heap.size+1:=by rw[<- hW0];simp
 rw[hW0]at HK HB
 have HO:Hi (W0.ownsRow (w.heap.size+1) 9 1 Ya 0 []):=h_ (World.ownsRow_nil _ _ _ _)
 have HA:=h_ ha
 obtain⟨n,hn⟩:=Nq m.F.length
 rw[hn]at HK hl hW0⊢
 have HN:=h_ hn
 obtain⟨y0,y1,y2,y3⟩:=quad HK.u
 clear ha hn
 go_enter Tryz.func46,Tryz.ntmps46
 go_wp2_with fail
 try rw[hW0]
 clear hW0 y0 y1 y2 y3
 go_loopw [3,9] (fun v i wr=>∃k:Nat,k<=n/\i=J9 k/\wr.ownsRow (w.heap.size+1) 9 1 v k (stV ((fNames m).take k))/\Below (w.heap.size+1) W0 wr) (fun _ i _=>n - (intOf i).toNat)
 case atStart=>exact⟨0,nZ _,rfl,HO.u,bR _ _⟩
 case round =>
  clear HO;obtain⟨k,hk,rfl,hO,hb⟩:=hrel;have hbw:=HB.u.trans (hb.mono (by omega));have hws:=hb.size;have HAr:=h_ (HA.u.mono hbw);have HBr:=h_ hb;have HBw:=h_ hbw;have HO:=h_ hO;clear hb hbw hO;by_cases hlt:k<n
  . have hlt':(k:Int)<n:=by omega
    have hkl:k<m.F.length:=(by have:=HN.u;omega);obtain⟨b,o,rfl,⟨-,z0,z1,z2,z3,z4,z5,z6,z7,z8⟩,-⟩:=HAr.u k hkl;have HT:Hi ((fNames m).take (k+1)=(fNames m).take k++[m.F[k].nm]):=h_ (by
     have hk2:k<(fNames m).length:=(by simpa [fNames] using hkl);rw[Yq hk2];simp[fNames])
    generalize m.F[k]=u at *;generalize afa k=fa at *;obtain⟨ub,ubc,ui',uic,uh,uhc,uv,uvc,uu,uuc⟩:=fa;dsimp only at z3 z4 z5 z6 z8;have HKf:=h_ (Blk.new wr 42 (Ja u ub ubc ui' uic uh uhc uv uvc uu uuc));have HBf:=h_ (HBr.u.alloc (by omega) (.cells (Ja u ub ubc ui' uic uh uhc uv uvc uu uuc) 42));have HO1:=h_ (HO.u.alloc (.cells (Ja u ub ubc ui' uic uh uhc uv uvc uu uuc) 42));obtain⟨Wd,hWd⟩:=Nq (wr.alloc (.cells (Ja u ub ubc ui' uic uh uhc uv uvc uu uuc) 42));have hdz:wr.heap.size+1<=Wd.heap.size:=(by rw[<- hWd];simp);rw[hWd]at HKf HBf HO1;obtain⟨x0,x1,x2,x3,x4,x5,x6,x7,x8⟩:=nine HKf.u;obtain⟨i0,hi,hz0,hz1,hz2⟩:=info_parts qeb;go_wp2_with (at_builtin;refine wpList_append_own _ rfl _ _ 23 rfl (w.heap.size+1) 9 i0 _ 1 16 Tryz.underlying23 hi hz0 hz1 hz2 rfl (by omega) _ _ _ rfl (HO1.u.alloc _) ⟨Wd.heap.size,0,none⟩ 1 1 [.string u.nm] rfl rfl (qdh Wd 9 _) (by simp[Value.oneCell']) (by unfold maxLen;omega) (by omega) (by simp;omega) ?_);intro v' w3 ho' hgr' _;have hB2:=(HBf.u.alloc (by omega) (.cells #[.string u.nm] 9)).grown hgr' (by simp;omega) (fun q' e=>q8q HO1.u e);have HO2:Hi (w3.ownsRow (w.heap.size+1) 9 1 v' (k+1) (stV ((fNames m).take (k+1)))):=h_ (by rw[HT.u,qgn];exact ho');have HB2:=h_ hB2;clear ho' hgr' hB2 hi hz0 hz1 hz2;go_wp2_with fail;go_roundw
    case rel=>first | exact⟨k+1,by omega,by go_num,HO2.u,HB2.u⟩ | ((repeat apply Exists.intro);exact⟨⟨k+1,by omega,by go_num,HO2.u,HB2.u⟩,rfl⟩)
    case measure=>simp[intOf];omega
  . obtain rfl:k=n:=by omega
    have hlt':¬ (k:Int)<(k:Int):=(by omega);have hO:=HO.u;rw[Y9 (by simp[fNames];have:=HN.u;omega)]at hO;obtain⟨a1,c1,rfl,-,hS⟩:=q4e hO;have HS:=h_ hS;clear hO hS HO;go_wp2_with fail;go_ret
    first | exact⟨_,⟨_,rfl⟩,HS.u,HBw.u⟩ | exact⟨_,_,rfl,HS.u,HBw.u⟩
structure Counts (m:Fm):Prop where
 l:m.L.length<=32
 p:m.P.length<=256
 r:m.R.length<=64
 f:m.F.length<=200
theorem q7k (x:Int)(n:Nat)(w:World):Calls Tryz.prog 115 (Jp x n) w fun e w'=>e=.returned (.bool (inR n x))/\w'=w:=by
 by_cases h:0<=x/\x<n
 . rw[show inR n x=true from Ym h]
   exact q55 x n w h.1 h.2
 . rw[show inR n x=false from Yj h]
   exact q7l x n w (by omega)
theorem q0k (m:Fm)(A:MA)(w:World)(hf:FitM m)(hc:Counts m)(ha:MSl w m A) :
 Calls Tryz.prog 110 #[mV m A] w fun r w'=>r=.returned (.bool (namesOk m.L&&namesOk (rNames m)&&namesOk (fNames m)))/\Below w.heap.size w w':=by
 obtain⟨al,alc,ap,apc,ar,arc,af,afc,afa⟩:=A
 unfold mV
 dsimp only
 have HK:=h_ (Blk.new w 28 (Jb al m alc ap apc ar arc af afc))
 have HB:=h_ ((bR w.heap.size w).alloc (nR _) (.cells (Jb al m alc ap apc ar arc af afc) 28))
 obtain⟨W0,hW0⟩:=Nq (w.alloc (.cells (Jb al m alc ap apc ar arc af afc) 28))
 rw[hW0]at HK HB
 have HS:=h_ (ha.mono HB.u);have HF:=h_ hf;have HC:=h_ hc
 obtain⟨q,hq⟩:=Nq ((namesOk m.L&&namesOk (rNames m)&&namesOk (fNames m)))
 rw[hq]
 have HQ:=h_ hq
 clear ha hf hc hq
 obtain⟨y0,y1,y2,y3⟩:=quad HK.u
 go_enter Tryz.func110,Tryz.ntmps110
 go_wp2_with fail
 try rw[hW0]
 refine(q0j al alc m.L W0 (by have:=HC.u.l;omega) HF.u.l HS.u.l).mono ?_
 rintro r W2 ⟨rfl,hb1⟩
 replace HK:=mB HK hb1;replace HS:=h_ (HS.u.mono hb1);replace HB:=mT HB hb1
 clear hW0 y0 y1 y2 y3 hb1
 obtain⟨y0,y1,y2,y3⟩:=quad HK.u
 cases hn1:namesOk m.L
 . have HX:Hi (q=false):=h_ (by rw[<- HQ.u,hn1];rfl)
   go_wp2_with fail;go_ret;exact⟨qg2 HX.u.symm,HB.u⟩
 have HQ1:Hi ((namesOk (rNames m)&&namesOk (fNames m))=q):=h_ (by rw[<- HQ.u,hn1,Ze])
 clear hn1 HQ
 go_wp2_with fail
 refine(q2q m ⟨al,alc,ap,apc,ar,arc,af,afc,afa⟩ W2 HC.u.r HS.u.r).mono ?_
 rintro r W3 ⟨an2,cn2,rfl,hnames,hb1⟩
 have HNr:=h_ hnames
 replace HK:=mB HK hb1;replace HS:=h_ (HS.u.mono hb1);replace HB:=mT HB hb1
 clear y0 y1 y2 y3 hb1 hnames
 obtain⟨y0,y1,y2,y3⟩:=quad HK.u
 have HE1:Hi (m.R.length=(rNames m).length):=h_ (by simp[rNames]);have HE2:Hi (m.F.length=(fNames m).length):=h_ (by simp[fNames])
 go_wp2_with fail
 have hcr:=q0j an2 cn2 (rNames m) W3 (by rw[<- HE1.u];have:=HC.u.r;omega) (fun x hx=>by obtain⟨y,hy,rfl⟩:=Zc.1 hx;exact HF.u.r y hy) HNr.u
 rw[<- HE1.u]at hcr
 refine hcr.mono ?_
 rintro r W4 ⟨rfl,hb1⟩
 replace HK:=mB HK hb1;replace HS:=h_ (HS.u.mono hb1);replace HB:=mT HB hb1
 clear y0 y1 y2 y3 hb1 hcr HNr
 obtain⟨y0,y1,y2,y3⟩:=quad HK.u
 cases hn1:namesOk (rNames m)
 . have HX:Hi (q=false):=h_ (by rw[<- HQ1.u,hn1];rfl)
   go_wp2_with fail;go_ret;exact⟨qg2 HX.u.symm,HB.u⟩
 have HQ2:Hi (namesOk (fNames m)=q):=h_ (by rw[<- HQ1.u,hn1,Ze])
 clear hn1 HQ1
 go_wp2_with fail
 refine(q1c m ⟨al,alc,ap,apc,ar,arc,af,afc,afa⟩ W4 HC.u.f HS.u.f).mono ?_
 rintro r W5 ⟨an,cn,rfl,hnames,hb1⟩
 have HN:=h_ hnames
 replace HB:=mT HB hb1
 clear y0 y1 y2 y3 hb1 hnames
 go_wp2_with fail
 have hcr:=q0j an cn (fNames m) W5 (by rw[<- HE2.u];have:=HC.u.f;omega) (fun x hx=>by obtain⟨y,hy,rfl⟩:=Zc.1 hx;exact(HF.u.f y hy).nm) HN.u
 rw[<- HE2.u,HQ2.u]at hcr
 refine hcr.mono ?_
 rintro r W6 ⟨rfl,hb1⟩
 replace HB:=mT HB hb1
 clear hb1 hcr HN
 cases q
 all_goals
  go_wp2_with fail;go_ret;exact⟨rfl,HB.u⟩
theorem q0h (m:Fm)(A:MA)(w:World)(hc:Counts m)(ha:MSl w m A) :
 Calls Tryz.prog 111 #[mV m A] w fun r w'=>r=.returned (.bool ((m.P.all fun p=>inR m.L.length p.1&&inR m.L.length p.2)&&m.R.all fun r=>inR m.L.length r.lb))/\Below w.heap.size w w':=by
 obtain⟨al,alc,ap,apc,ar,arc,af,afc,afa⟩:=A
 unfold mV
 dsimp only
 have HK:=h_ (Blk.new w 28 (Jb al m alc ap apc ar arc af afc))
 have HB:=h_ ((bR w.heap.size w).alloc (nR _) (.cells (Jb al m alc ap apc ar arc af afc) 28))
 obtain⟨W0,hW0⟩:=Nq (w.alloc (.cells (Jb al m alc ap apc ar arc af afc) 28))
 rw[hW0]at HK HB
 have HS:=h_ (ha.mono HB.u)
 have hl:=hc.l;have hp:=hc.p;have hr:=hc.r
 obtain⟨q,hq⟩:=Nq (((m.P.all fun p=>inR m.L.length p.1&&inR m.L.length p.2)&&m.R.all fun r=>inR m.L.length r.lb))
 rw[hq]
 have HQ:=h_ hq
 clear ha hc hq
 obtain⟨y0,y1,y2,y3⟩:=quad HK.u
 go_enter Tryz.func111,Tryz.ntmps111
 go_wp2_with fail
 try rw[hW0]
 clear hW0 y0 y1 y2 y3
 go_loopw [14] (fun i wr=>∃k:Nat,k<=m.P.length/\i=J9 k/\(∀j (h:j<m.P.length),j<k->inR m.L.length m.P[j].1=true/\inR m.L.length m.P[j].2=true)/\Below W0.heap.size W0 wr) (fun i _=>m.P.length - (intOf i).toNat)
 case atStart=>exact⟨0,nZ _,rfl,fun j _ hj=>absurd hj (nL _),bR _ _⟩
 case round =>
  obtain⟨k,hk,rfl,hall,hb⟩:=hrel;have HL:=h_ hall;have HB1:=h_ hb;have HSr:=h_ (HS.u.mono hb);clear hall hb;by_cases hlt:k<m.P.length
  . have hlt':(k:Int)<m.P.length:=by omega
    obtain⟨pb,po,rfl,-,z0,z1⟩:=HSr.u.p k hlt;have HM1:Hi (inR m.L.length m.P[k].1=false∨inR m.L.length m.P[k].2=false->q=false):=h_ fun h=>by
     rw[<- HQ.u,show(m.P.all fun p=>inR m.L.length p.1&&inR m.L.length p.2)=false from Vh.2 ⟨m.P[k],Yk hlt,by rcases h with h | h <;> simp[h]⟩];rfl
    have HL2:Hi (inR m.L.length m.P[k].1=true->inR m.L.length m.P[k].2=true->∀j (h:j<m.P.length),j<k+1->inR m.L.length m.P[j].1=true/\inR m.L.length m.P[j].2=true):=h_ fun g1 g2 j h hj=>by
     by_cases ej:j=k
     . subst ej;exact⟨g1,g2⟩
     . exact HL.u j h (by omega)
    have HBf:=h_ (HB1.u.alloc HB1.u.size (.cells (Jp m.P[k].1 m.P[k].2) 64));have HKf:=h_ (Blk.new wr 64 (Jp m.P[k].1 m.P[k].2));generalize m.P[k]=u at *;obtain⟨x1,x2⟩:=u;dsimp only at *;obtain⟨Wd,hWd⟩:=Nq (wr.alloc (.cells (Jp x1 x2) 64));rw[hWd]at HKf HBf;obtain⟨v0,v1⟩:=duo HKf.u;have HC1:=h_ (q7k x1 m.L.length Wd);have HC2:=h_ (q7k x2 m.L.length Wd);generalize inR m.L.length x1=g1 at *;generalize inR m.L.length x2=g2 at *;cases g1
    . have HX:=h_ (HM1.u (.inl rfl))
      go_wp2_with fail
      try rw[hWd]
      refine HC1.u.mono ?_;rintro e w1 ⟨rfl,hw⟩;replace hw:=hw.symm;subst hw;clear hWd;go_wp2_with fail;go_ret;exact⟨qg2 HX.u.symm,HB.u.trans (HBf.u.mono HB.u.size)⟩
    cases g2
    . have HX:=h_ (HM1.u (.inr rfl))
      go_wp2_with fail
      try rw[hWd]
      refine HC1.u.mono ?_;rintro e w1 ⟨rfl,hw⟩;replace hw:=hw.symm;subst hw;clear hWd;go_wp2_with fail;refine HC2.u.mono ?_;rintro e w1 ⟨rfl,hw⟩;replace hw:=hw.symm;subst hw;go_wp2_with fail;go_ret;exact⟨qg2 HX.u.symm,HB.u.trans (HBf.u.mono HB.u.size)⟩
    have HL3:=h_ (HL2.u rfl rfl);go_wp2_with fail
    try rw[hWd]
    refine HC1.u.mono ?_;rintro e w1 ⟨rfl,hw⟩;replace hw:=hw.symm;subst hw;clear hWd;go_wp2_with fail;refine HC2.u.mono ?_;rintro e w1 ⟨rfl,hw⟩;replace hw:=hw.symm;subst hw;go_wp2_with fail;go_roundw
    case rel=>first | exact⟨k+1,by omega,by go_num,HL3.u,HBf.u⟩ | ((repeat apply Exists.intro);exact⟨⟨k+1,by omega,by go_num,HL3.u,HBf.u⟩,rfl⟩)
    case measure=>simp[intOf];omega
  obtain rfl:k=m.P.length:=by omega
  have hlt':¬ (m.P.length:Int)<(m.P.length:Int):=by omega
  have HQ2:Hi ((m.R.all fun r=>inR m.L.length r.lb)=q):=h_ (by
   rw[<- HQ.u,show(m.P.all fun p=>inR m.L.length p.1&&inR m.L.length p.2)=true from Y2.2 fun x hx=>by
    obtain⟨j,hj,rfl⟩:=Yy.1 hx;have:=HL.u j hj hj;rw[this.1,this.2];rfl,Ze])
  replace HK:=h_ (HK.u.mono HB1.u HK.u.lt);replace HS:=HSr;replace HB:=h_ (HB.u.trans (HB1.u.mono HB.u.size));obtain⟨y0,y1,y2,y3⟩:=quad HK.u;clear HL HB1 HQ HSr hlt;go_wp2_with fail;clear y0 y1 y2 y3 hlt';obtain⟨W6,hW6⟩:=Nq wr;rw[hW6]at HB HS HK⊢;clear hW6;go_loopw [34] (fun i wr=>∃k:Nat,k<=m.R.length/\i=J9 k/\(∀j (h:j<m.R.length),j<k->inR m.L.length m.R[j].lb=true)/\Below W6.heap.size W6 wr) (fun i _=>m.R.length - (intOf i).toNat)
  case atStart=>exact⟨0,nZ _,rfl,fun j _ hj=>absurd hj (nL _),bR _ _⟩
  case round =>
   obtain⟨k,hk,rfl,hall,hb⟩:=hrel;have HL:=h_ hall;have HB1:=h_ hb;have HSr:=h_ (HS.u.mono hb);clear hall hb;by_cases hlt:k<m.R.length
   . have hlt':(k:Int)<m.R.length:=by omega
     obtain⟨pb,po,rfl,-,z0,z1⟩:=HSr.u.r k hlt;have HM1:Hi (inR m.L.length m.R[k].lb=false->q=false):=h_ fun h=>by
      rw[<- HQ2.u];exact Vh.2 ⟨m.R[k],Yk hlt,by simp[h]⟩
     have HL2:Hi (inR m.L.length m.R[k].lb=true->∀j (h:j<m.R.length),j<k+1->inR m.L.length m.R[j].lb=true):=h_ fun g1 j h hj=>by
      by_cases ej:j=k
      . subst ej;exact g1
      . exact HL.u j h (by omega)
     have HBf:=h_ (HB1.u.alloc HB1.u.size (.cells #[.string m.R[k].nm,J9 m.R[k].lb] 66));have HKf:=h_ (Blk.new wr 66 #[.string m.R[k].nm,J9 m.R[k].lb]);generalize m.R[k]=u at *;obtain⟨x1,x2⟩:=u;dsimp only at *;obtain⟨Wd,hWd⟩:=Nq (wr.alloc (.cells #[.string x1,J9 x2] 66));rw[hWd]at HKf HBf;obtain⟨v0,v1⟩:=duo HKf.u;have HC1:=h_ (q7k x2 m.L.length Wd);generalize inR m.L.length x2=g1 at *;cases g1
     . have HX:=h_ (HM1.u rfl)
       go_wp2_with fail
       try rw[hWd]
       refine HC1.u.mono ?_;rintro e w1 ⟨rfl,hw⟩;replace hw:=hw.symm;subst hw;clear hWd;go_wp2_with fail;go_ret;exact⟨qg2 HX.u.symm,HB.u.trans (HBf.u.mono HB.u.size)⟩
     have HL3:=h_ (HL2.u rfl);go_wp2_with fail
     try rw[hWd]
     refine HC1.u.mono ?_;rintro e w1 ⟨rfl,hw⟩;replace hw:=hw.symm;subst hw;clear hWd;go_wp2_with fail;go_roundw
     case rel=>first | exact⟨k+1,by omega,by go_num,HL3.u,HBf.u⟩ | ((repeat apply Exists.intro);exact⟨⟨k+1,by omega,by go_num,HL3.u,HBf.u⟩,rfl⟩)
     case measure=>simp[intOf];omega
   obtain rfl:k=m.R.length:=by omega
   have hlt':¬ (m.R.length:Int)<(m.R.length:Int):=by omega
   have HX:Hi (q=true):=h_ (by
    rw[<- HQ2.u];exact Y2.2 fun x hx=>by
     obtain⟨j,hj,rfl⟩:=Yy.1 hx;exact HL.u j hj hj)
   go_wp2_with fail;go_ret;exact⟨qg2 HX.u.symm,HB.u.trans (HB1.u.mono HB.u.size)⟩
end Go.Proofs.YtebbgodlijlioaaGreatDoor
