import Derived.Test.YtfmammdgehbjhaaGreatDoorW22
import Derived.Test.YtfmammdgehbjhaaGreatDoorW20
set_option maxRecDepth 100000
set_option maxHeartbeats 64000000
namespace Go.Proofs.YtfmammdgehbjhaaGreatDoor
open Go Go.RowKit
theorem qdi {w:World}{base base' e size n:Nat}{v:Value}{xs:List Value}(h:w.ownsRow base e size v n xs)(hb:base'<=base):w.ownsRow base' e size v n xs:=by
 refine⟨h.1,?_⟩
 rcases h.2 with h2 | ⟨g,cap,cur,h1,hg,r⟩
 . exact .inl h2
 . exact .inr ⟨g,cap,cur,h1,Yt hb hg,r⟩
theorem q7n {w:World}{base base' e size n:Nat}{v:Value}{xs:List Value}(h:w.ownsRow base e size v n xs)(hb:∀q,v.ownBlock=some q->base'<=q):w.ownsRow base' e size v n xs:=by
 refine⟨h.1,?_⟩
 rcases h.2 with h2 | ⟨g,cap,cur,h1,hg,r⟩
 . exact .inl h2
 . exact .inr ⟨g,cap,cur,h1,hb g (by rw[h1];rfl),r⟩
theorem q9x {w w':World}{base e size n:Nat}{v:Value}{xs:List Value}(h:w.ownsRow base e size v n xs)(hb:Below w.heap.size w w'):w'.ownsRow base e size v n xs :=
 World.ownsRow.kept (row:=none) h ⟨hb.os,hb.tape,hb.output,hb.size,fun k hk _=>hb.block k hk⟩ (Classical.em _)
theorem q9z {w:World}{base e size n base' e' size' n':Nat}{v v':Value}{xs xs':List Value}(h:w.ownsRow base e size v n xs)(h':w.ownsRow base' e' size' v' n' xs')(he:e≠e'):v.ownBlock=none∨v.ownBlock≠v'.ownBlock:=by
 rcases h.2 with ⟨h2,-⟩ | ⟨g,cap,cur,h1,-,hq,-⟩
 . exact .inl (by rw[h2];rfl)
 . refine .inr fun hc=>?_
   rcases h'.2 with ⟨h3,-⟩ | ⟨g',cap',cur',h4,-,hq',-⟩
   . rw[h1,h3]at hc;cases hc
   . rw[h1,h4]at hc
     have hc:some g=some g':=hc;cases hc;rw[hq]at hq';simp only[Zr,Obj.cells.injEq]at hq';exact he hq'.2.1
theorem qdg {w:World}{base e size n:Nat}{v:Value}{xs:List Value}(h:w.ownsRow base e size v n xs){g:Nat}{t:TypeId}{cs:List Value}(hb:Blk w g t cs)(he:e≠t):v.ownBlock≠some g:=fun hc=>by
 rcases h.2 with ⟨h2,-⟩ | ⟨g',cap,cur,h1,-,hq,-⟩
 . rw[h2]at hc;cases hc
 . rw[h1]at hc
   have hc:some g'=some g:=hc;cases hc;have hb:w.heap[g]? = some (.cells cs.toArray t):=hb;rw[hq]at hb;simp only[Zr,Obj.cells.injEq]at hb;exact he hb.2.1
theorem qi2 {w:World}{base e size n:Nat}{v:Value}{xs:List Value}(h:w.ownsRow base e size v n xs){q:Nat}(hq:v.ownBlock=some q):base<=q/\q<w.heap.size:=by
 rcases h.2 with ⟨h2,-⟩ | ⟨g',cap,cur,h1,hg,hh,-⟩
 . rw[h2]at hq;cases hq
 . rw[h1]at hq
   have hc:some g'=some q:=hq;cases hc;exact⟨hg,(Zc.1 hh).1⟩
theorem q7o {w:World}{base e size n:Nat}{v:Value}{xs:List Value}(h:w.ownsRow base e size v n xs):∃a c,v=.slice a n c/\n<=c/\(0<n->∃g,a=some ⟨g,0,none⟩/\g<w.heap.size/\base<=g/\∀p,p<n*size->w.cell? ⟨g,p,none⟩=xs[p]?):=by
 rcases h.2 with ⟨h2,h0⟩ | ⟨g,cap,cur,h1,hg,hq,h4,h5,h6,h7⟩
 . exact⟨none,0,by rw[h2,h0],by omega,fun h=>by omega⟩
 . refine⟨some ⟨g,0,none⟩,cap,h1,h4,fun _=>⟨g,rfl,(Zc.1 hq).1,hg,fun p hp=>?_⟩⟩
   have hb:Blk w g e cur.toList:=by
    show w.heap[g]? = _;rw[hq]
   rw[hb.cell,<- h7,Vi hp]
theorem qcb {α:Type}{f:α->List Value}{s:Nat}(hf:∀x,(f x).length=s){l:List α}{k p:Nat}(hk:k<l.length)(hp:p<s):(l.flatMap f)[k*s+p]? = (f l[k])[p]?:=by
 induction l generalizing k with
 | nil=>cases hk
 | cons x r ih =>
  rw[Vn];cases k with
  | zero=>rw[Vm,Z3,Zk (by rw[hf];exact hp)];rfl
  | succ k =>
   rw[Zn (by rw[hf,Nat.succ_mul];omega),hf];have:=ih (k:=k) (by simpa using hk);rw[show(k+1)*s+p - s=k*s+p by rw[Nat.succ_mul];omega];simpa using this
def iV (l:List Int):List Value:=l.flatMap fun x=>[.int .i64 x]
def pV (l:List (Int × Int)):List Value:=l.flatMap fun x=>[.int .i64 x.1,.int .i64 x.2]
def rV' (l:List Rl):List Value:=l.flatMap fun x=>[.string x.nm,.int .i64 x.lb]
def fdV (l:List (Fl × FA)):List Value:=l.flatMap fun x=>fCs x.1 x.2
def OwI (w:World)(base:Nat)(v:Value)(l:List Int):Prop:=w.ownsRow base 3 1 v l.length (iV l)
def OwP (w:World)(base:Nat)(v:Value)(l:List (Int × Int)):Prop:=w.ownsRow base 84 2 v l.length (pV l)
def OwL (w:World)(base:Nat)(v:Value)(l:List Rl):Prop:=w.ownsRow base 86 2 v l.length (rV' l)
structure FOw (w:World)(base:Nat)(f:Fl)(A:FA):Prop where
 b:OwI w base (.slice A.b f.bys.length A.bc) f.bys
 i:OwnN w base (.slice A.i f.is.length A.ic) f.is
 h:OwnN w base (.slice A.h f.wh.length A.hc) f.wh
 v:OwnN w base (.slice A.v f.va.length A.vc) f.va
 u:OwnN w base (.slice A.u f.mu.length A.uc) f.mu
structure OwF (w:World)(base:Nat)(v:Value)(l:List (Fl × FA)):Prop where
 row:w.ownsRow base 52 9 v l.length (fdV l)
 sub:∀p,p∈l->FOw w base p.1 p.2
theorem FOw.mono {w w':World}{base:Nat}{f:Fl}{A:FA}(h:FOw w base f A)(hb:Below w.heap.size w w'):FOw w' base f A:=⟨q9x h.b hb,h.i.keep hb,h.h.keep hb,h.v.keep hb,h.u.keep hb⟩
theorem FOw.low {w:World}{base base':Nat}{f:Fl}{A:FA}(h:FOw w base f A)(hb:base'<=base):FOw w base' f A:=⟨qdi h.b hb,h.i.low hb,h.h.low hb,h.v.low hb,h.u.low hb⟩
theorem OwF.mono {w w':World}{base:Nat}{v:Value}{l:List (Fl × FA)}(h:OwF w base v l)(hb:Below w.heap.size w w'):OwF w' base v l:=⟨q9x h.row hb,fun p hp=>(h.sub p hp).mono hb⟩
theorem FOw.grown {w w':World}{base:Nat}{f:Fl}{A:FA}{base' e size n:Nat}{x:Value}{xs:List Value}(h:FOw w base f A)(hx:w.ownsRow base' e size x n xs)(h1:3≠e)(h2:133≠e)(hg:w.grownBy w' x.ownBlock):FOw w' base f A :=
 ⟨h.b.kept hg (q9z h.b hx h1),h.i.kept hg (q9z h.i hx h2),h.h.kept hg (q9z h.h hx h2),h.v.kept hg (q9z h.v hx h2),h.u.kept hg (q9z h.u hx h2)⟩
theorem qgt {w:World}{base c:Nat}{a:Option Addr}{l:List Int}(h:OwI w base (.slice a l.length c) l):IntL w a l:=fun k hk=>by
 obtain⟨a',c',e,-,hq⟩:=q7o h
 cases e
 obtain⟨g,rfl,h1,-,h2⟩:=hq (by omega)
 have:=h2 (k*1+0) (by omega)
 unfold iV at this
 rw[qcb (f:=fun x:Int=>[Ya x]) (s:=1) (p:=0) (fun _=>rfl) hk (by omega)]at this
 refine⟨g,0,rfl,h1,?_⟩
 rw[show 0+k=k*1+0 by omega,this]
 simp[List.getD_eq_getElem?_getD,hk]
theorem qhx {w:World}{base c:Nat}{a:Option Addr}{l:List Nx}(h:OwnN w base (.slice a l.length c) l):NodL w a l:=by
 obtain⟨a',c',e,hn⟩:=h.nods
 cases e
 exact hn
theorem prs_of {w:World}{base c:Nat}{a:Option Addr}{l:List (Int × Int)}(h:OwP w base (.slice a l.length c) l):Prs w a l:=fun k hk=>by
 obtain⟨a',c',e,-,hq⟩:=q7o h
 cases e
 obtain⟨g,rfl,h1,-,h2⟩:=hq (by omega)
 have y0:=h2 (k*2+0) (by omega);have y1:=h2 (k*2+1) (by omega)
 unfold pV at y0 y1
 rw[qcb (f:=fun x:Int × Int=>[Ya x.1,Ya x.2]) (fun _=>rfl) hk (by omega)]at y0 y1
 exact⟨g,0,rfl,h1,by rw[Z3];exact y0,by rw[Z3];exact y1⟩
theorem rls_of {w:World}{base c:Nat}{a:Option Addr}{l:List Rl}(h:OwL w base (.slice a l.length c) l):Rls w a l:=fun k hk=>by
 obtain⟨a',c',e,-,hq⟩:=q7o h
 cases e
 obtain⟨g,rfl,h1,-,h2⟩:=hq (by omega)
 have y0:=h2 (k*2+0) (by omega);have y1:=h2 (k*2+1) (by omega)
 unfold rV' at y0 y1
 rw[qcb (f:=fun x:Rl=>[.string x.nm,Ya x.lb]) (fun _=>rfl) hk (by omega)]at y0 y1
 exact⟨g,0,rfl,h1,by rw[Z3];exact y0,by rw[Z3];exact y1⟩
def noFA:FA:=⟨none,0,none,0,none,0,none,0,none,0⟩
def noFl:Fl:=⟨⟨#[]⟩,0,0,[],[],[],[],⟨#[]⟩,[]⟩
def faOf (l:List (Fl × FA))(k:Nat):FA:=(l.getD k (noFl,noFA)).2
theorem qc6 {l:List (Fl × FA)}{k:Nat}(h:k<l.length):faOf l k=l[k].2:=by unfold faOf;rw[Y0,Yk h];rfl
theorem qgb {w:World}{base c:Nat}{a:Option Addr}{l:List (Fl × FA)}(h:OwF w base (.slice a l.length c) l):Flds w a (l.map (·.1)) (faOf l):=fun k hk=>by
 rw[Zf]at hk
 obtain⟨a',c',e,-,hq⟩:=q7o h.row
 cases e
 obtain⟨g,rfl,h1,-,h2⟩:=hq (by omega)
 have y:∀p,p<9->w.cell? ⟨g,k*9+p,none⟩=(fCs l[k].1 l[k].2)[p]?:=fun p hp=>by
  rw[h2 (k*9+p) (by omega)];exact qcb (f:=fun x:Fl × FA=>fCs x.1 x.2) (fun _=>rfl) hk hp
 have hs:=h.sub l[k] (Ys hk)
 rw[List.getElem_map,qc6 hk]
 refine⟨g,0,rfl,?_,qgt hs.b,qhx hs.i,qhx hs.h,qhx hs.v,qhx hs.u⟩
 rw[Z3]
 exact⟨h1,y 0 (by omega),y 1 (by omega),y 2 (by omega),y 3 (by omega),y 4 (by omega),y 5 (by omega),y 6 (by omega),y 7 (by omega),y 8 (by omega)⟩
structure OwM (w:World)(base:Nat)(v1 v2 v3 v4:Value)(m:Fm)(P:List (Fl × FA)):Prop where
 l:OwnS w base v1 m.L
 p:OwP w base v2 m.P
 r:OwL w base v3 m.R
 f:OwF w base v4 P
 e:m.F=P.map (·.1)
theorem OwM.mono {w w':World}{base:Nat}{v1 v2 v3 v4:Value}{m:Fm}{P:List (Fl × FA)}(h:OwM w base v1 v2 v3 v4 m P)(hb:Below w.heap.size w w'):OwM w' base v1 v2 v3 v4 m P:=⟨h.l.keep hb,q9x h.p hb,q9x h.r hb,h.f.mono hb,h.e⟩
theorem OwM.sl {w:World}{base:Nat}{v1 v2 v3 v4:Value}{m:Fm}{P:List (Fl × FA)}(h:OwM w base v1 v2 v3 v4 m P):∃A:MA,.agg #[v1,v2,v3,v4]=mV m A/\MSl w m A/\v1=.slice A.l m.L.length A.lc/\v2=.slice A.p m.P.length A.pc/\v3=.slice A.r m.R.length A.rc/\v4=.slice A.f m.F.length A.fc/\A.fa=faOf P:=by
 obtain⟨a1,c1,rfl,-,hs⟩:=h.l.strs
 obtain⟨a2,c2,rfl,-⟩:=q7o h.p
 obtain⟨a3,c3,rfl,-⟩:=q7o h.r
 obtain⟨a4,c4,rfl,-⟩:=q7o h.f.row
 have hl:P.length=m.F.length:=by rw[h.e,Zf]
 refine⟨⟨a1,c1,a2,c2,a3,c3,a4,c4,faOf P⟩,?_,⟨hs,prs_of h.p,rls_of h.r,?_⟩,rfl,rfl,rfl,?_,rfl⟩
 . unfold mV
   simp only[hl]
 . have:=qgb h.f
   rwa [<- h.e]at this
 . simp only[hl]
theorem OwM.nil (w:World)(base:Nat):OwM w base Yb Yb Yb Yb ⟨[],[],[],[]⟩ [] :=
 ⟨⟨rfl,.inl ⟨rfl,rfl⟩⟩,⟨rfl,.inl ⟨rfl,rfl⟩⟩,⟨rfl,.inl ⟨rfl,rfl⟩⟩,⟨⟨rfl,.inl ⟨rfl,rfl⟩⟩,fun p hp=>(by cases hp)⟩,rfl⟩
theorem qgm:(Tryz.prog.info? 3).map (fun i=>(i.zero,i.size,i.bytes))=some (some (Ya 0),1,8):=by kernel_rfl
theorem qgp:(Tryz.prog.info? 84).map (fun i=>(i.zero,i.size,i.bytes))=some (some (.agg J4),2,16):=by kernel_rfl
theorem qgq:(Tryz.prog.info? 86).map (fun i=>(i.zero,i.size,i.bytes))=some (some (.agg #[Yc,Ya 0]),2,24):=by kernel_rfl
theorem qgl:(Tryz.prog.info? 52).map (fun i=>(i.zero,i.size,i.bytes))=some (some (.agg Jq),9,168):=by kernel_rfl
theorem qb5 {ops:Array Oper}{rest:List Oper}{o:Oper}{a:Act}{Q:Exit->Act->World->Prop}{w:World}(hgd:o.guard=.none)(s x:Operand)
 (ho:o.op=.call { callee:=.builtin .append,args:=#[s,x],argTypes:=#[50,50] }) {base:Nat} {v:Value} {l:List Int} (hs:a.eval s=v) (hown:OwI w base v l)
 {g:Nat} {n:Int} (hx:a.eval x=.slice (some ⟨g,0,.none⟩) 1 1) (hc:Blk w g 3 [Ya n]) (hl:l.length+1<=2097152) (hbase:base<=w.heap.size)
 (h:∀v' w',w'.ownsRow base 3 1 v' (l++[n]).length (iV (l++[n]))->w.grownBy w' v.ownBlock->Below base w w'->wpList Tryz.prog ops Q rest (a.put o.dst v') w'):wpList Tryz.prog ops Q (o :: rest) a w:=by
 obtain⟨i0,hi,hz0,hz1,hz2⟩:=info_parts qgm
 refine wpList_append_own w hgd s x 50 ho base 3 i0 _ 1 8 Tryz.underlying50 hi hz0 hz1 hz2 rfl (by omega) _ _ _ hs hown ⟨g,0,.none⟩ 1 1 [Ya n] hx rfl (fun j v hj=>by rw[show(⟨g,0,.none⟩:Addr).add j=⟨g,j,.none⟩ by simp[Addr.add];try exact fun h=>h.symm];exact(hc.cell j).trans hj) (by simp[Value.oneCell']) (by unfold maxLen;omega) (by omega) hbase ?_
 intro v' W9 ho hgr _
 refine h v' W9 ?_ hgr ((bR base w).grown hgr hbase (fun q e=>q7l hown e))
 rw[Yf,show iV (l++[n])=iV l++[Ya n] by simp[iV]]
 exact ho
theorem qb6 {ops:Array Oper}{rest:List Oper}{o:Oper}{a:Act}{Q:Exit->Act->World->Prop}{w:World}(hgd:o.guard=.none)(s x:Operand)
 (ho:o.op=.call { callee:=.builtin .append,args:=#[s,x],argTypes:=#[23,23] }) {base:Nat} {v:Value} {l:List (Int × Int)} (hs:a.eval s=v) (hown:OwP w base v l)
 {g:Nat} {n:(Int × Int)} (hx:a.eval x=.slice (some ⟨g,0,.none⟩) 1 1) (hc:Blk w g 84 [Ya n.1,Ya n.2]) (hl:l.length+1<=2097152) (hbase:base<=w.heap.size)
 (h:∀v' w',w'.ownsRow base 84 2 v' (l++[n]).length (pV (l++[n]))->w.grownBy w' v.ownBlock->Below base w w'->wpList Tryz.prog ops Q rest (a.put o.dst v') w'):wpList Tryz.prog ops Q (o :: rest) a w:=by
 obtain⟨i0,hi,hz0,hz1,hz2⟩:=info_parts qgp
 refine wpList_append_own w hgd s x 23 ho base 84 i0 _ 2 16 Tryz.underlying23 hi hz0 hz1 hz2 rfl (by omega) _ _ _ hs hown ⟨g,0,.none⟩ 1 1 [Ya n.1,Ya n.2] hx rfl (fun j v hj=>by rw[show(⟨g,0,.none⟩:Addr).add j=⟨g,j,.none⟩ by simp[Addr.add];try exact fun h=>h.symm];exact(hc.cell j).trans hj) (by simp[Value.oneCell']) (by unfold maxLen;omega) (by omega) hbase ?_
 intro v' W9 ho hgr _
 refine h v' W9 ?_ hgr ((bR base w).grown hgr hbase (fun q e=>q7l hown e))
 rw[Yf,show pV (l++[n])=pV l++[Ya n.1,Ya n.2] by simp[pV]]
 exact ho
theorem qb7 {ops:Array Oper}{rest:List Oper}{o:Oper}{a:Act}{Q:Exit->Act->World->Prop}{w:World}(hgd:o.guard=.none)(s x:Operand)
 (ho:o.op=.call { callee:=.builtin .append,args:=#[s,x],argTypes:=#[24,24] }) {base:Nat} {v:Value} {l:List Rl} (hs:a.eval s=v) (hown:OwL w base v l)
 {g:Nat} {n:Rl} (hx:a.eval x=.slice (some ⟨g,0,.none⟩) 1 1) (hc:Blk w g 86 [.string n.nm,Ya n.lb]) (hl:l.length+1<=2097152) (hbase:base<=w.heap.size)
 (h:∀v' w',w'.ownsRow base 86 2 v' (l++[n]).length (rV' (l++[n]))->w.grownBy w' v.ownBlock->Below base w w'->wpList Tryz.prog ops Q rest (a.put o.dst v') w'):wpList Tryz.prog ops Q (o :: rest) a w:=by
 obtain⟨i0,hi,hz0,hz1,hz2⟩:=info_parts qgq
 refine wpList_append_own w hgd s x 24 ho base 86 i0 _ 2 24 Tryz.underlying24 hi hz0 hz1 hz2 rfl (by omega) _ _ _ hs hown ⟨g,0,.none⟩ 1 1 [.string n.nm,Ya n.lb] hx rfl (fun j v hj=>by rw[show(⟨g,0,.none⟩:Addr).add j=⟨g,j,.none⟩ by simp[Addr.add];try exact fun h=>h.symm];exact(hc.cell j).trans hj) (by simp[Value.oneCell']) (by unfold maxLen;omega) (by omega) hbase ?_
 intro v' W9 ho hgr _
 refine h v' W9 ?_ hgr ((bR base w).grown hgr hbase (fun q e=>q7l hown e))
 rw[Yf,show rV' (l++[n])=rV' l++[.string n.nm,Ya n.lb] by simp[rV']]
 exact ho
theorem qb4 {ops:Array Oper}{rest:List Oper}{o:Oper}{a:Act}{Q:Exit->Act->World->Prop}{w:World}(hgd:o.guard=.none)(s x:Operand)
 (ho:o.op=.call { callee:=.builtin .append,args:=#[s,x],argTypes:=#[25,25] }) {base:Nat} {v:Value} {l:List (Fl × FA)} (hs:a.eval s=v) (hown:w.ownsRow base 52 9 v l.length (fdV l))
 {g:Nat} {n:(Fl × FA)} (hx:a.eval x=.slice (some ⟨g,0,.none⟩) 1 1) (hc:Blk w g 52 (fCs n.1 n.2)) (hl:l.length+1<=2097152) (hbase:base<=w.heap.size)
 (h:∀v' w',w'.ownsRow base 52 9 v' (l++[n]).length (fdV (l++[n]))->w.grownBy w' v.ownBlock->Below base w w'->wpList Tryz.prog ops Q rest (a.put o.dst v') w'):wpList Tryz.prog ops Q (o :: rest) a w:=by
 obtain⟨i0,hi,hz0,hz1,hz2⟩:=info_parts qgl
 refine wpList_append_own w hgd s x 25 ho base 52 i0 _ 9 168 Tryz.underlying25 hi hz0 hz1 hz2 rfl (by omega) _ _ _ hs hown ⟨g,0,.none⟩ 1 1 (fCs n.1 n.2) hx rfl (fun j v hj=>by rw[show(⟨g,0,.none⟩:Addr).add j=⟨g,j,.none⟩ by simp[Addr.add];try exact fun h=>h.symm];exact(hc.cell j).trans hj) (by simp[fCs,Value.oneCell']) (by unfold maxLen;omega) (by omega) hbase ?_
 intro v' W9 ho hgr _
 refine h v' W9 ?_ hgr ((bR base w).grown hgr hbase (fun q e=>q7l hown e))
 rw[Yf,show fdV (l++[n])=fdV l++(fCs n.1 n.2) by simp[fdV]]
 exact ho
theorem qb8 {ops:Array Oper}{rest:List Oper}{o:Oper}{a:Act}{Q:Exit->Act->World->Prop}{w:World}(hgd:o.guard=.none)(s x:Operand)
 (ho:o.op=.call { callee:=.builtin .append,args:=#[s,x],argTypes:=#[22,22] }) {base:Nat} {v:Value} {l:List ByteArray} (hs:a.eval s=v) (hown:OwnS w base v l)
 {g:Nat} {n:ByteArray} (hx:a.eval x=.slice (some ⟨g,0,.none⟩) 1 1) (hc:Blk w g 9 [.string n]) (hl:l.length+1<=2097152) (hbase:base<=w.heap.size)
 (h:∀v' w',w'.ownsRow base 9 1 v' (l++[n]).length (stV (l++[n]))->w.grownBy w' v.ownBlock->Below base w w'->wpList Tryz.prog ops Q rest (a.put o.dst v') w'):wpList Tryz.prog ops Q (o :: rest) a w:=by
 obtain⟨i0,hi,hz0,hz1,hz2⟩:=info_parts qcl
 refine wpList_append_own w hgd s x 22 ho base 9 i0 _ 1 16 Tryz.underlying22 hi hz0 hz1 hz2 rfl (by omega) _ _ _ hs hown ⟨g,0,.none⟩ 1 1 [.string n] hx rfl (fun j v hj=>by rw[show(⟨g,0,.none⟩:Addr).add j=⟨g,j,.none⟩ by simp[Addr.add];try exact fun h=>h.symm];exact(hc.cell j).trans hj) (by simp[Value.oneCell']) (by unfold maxLen;omega) (by omega) hbase ?_
 intro v' W9 ho hgr _
 refine h v' W9 ?_ hgr ((bR base w).grown hgr hbase (fun q e=>q7l hown e))
 rw[Yf,show stV (l++[n])=stV l++[.string n] by simp[stV]]
 exact ho
theorem qi3 {w w':World}{base e size n:Nat}{v:Value}{xs:List Value}(h:w.ownsRow base e size v n xs){g:Nat}{t:TypeId}{cs:List Value}(hb:Blk w g t cs)(he:e≠t)(hk:∀k,k≠g->w'.heap[k]? = w.heap[k]?):w'.ownsRow base e size v n xs:=by
 have hne:=qdg h hb he
 refine⟨h.1,?_⟩
 rcases h.2 with h2 | ⟨g',cap,cur,h1,hg,hq,r⟩
 . exact .inl h2
 . exact .inr ⟨g',cap,cur,h1,hg,(hk g' (fun e'=>hne (by rw[h1];exact congrArg some e'))).trans hq,r⟩
theorem OwM.one {w w':World}{base:Nat}{v1 v2 v3 v4:Value}{m:Fm}{P:List (Fl × FA)}(h:OwM w base v1 v2 v3 v4 m P){g:Nat}{t:TypeId}{cs:List Value}(hb:Blk w g t cs)(h1:9≠t)(h2:84≠t)(h3:86≠t)(h4:52≠t)(h5:3≠t)(h6:133≠t)(hk:∀k,k≠g->w'.heap[k]? = w.heap[k]?):OwM w' base v1 v2 v3 v4 m P :=
 ⟨qi3 h.l hb h1 hk,qi3 h.p hb h2 hk,qi3 h.r hb h3 hk,⟨qi3 h.f.row hb h4 hk,fun p hp=>⟨qi3 (h.f.sub p hp).b hb h5 hk,qi3 (h.f.sub p hp).i hb h6 hk,qi3 (h.f.sub p hp).h hb h6 hk,qi3 (h.f.sub p hp).v hb h6 hk,qi3 (h.f.sub p hp).u hb h6 hk⟩⟩,h.e⟩
theorem OwM.low {w:World}{base base':Nat}{v1 v2 v3 v4:Value}{m:Fm}{P:List (Fl × FA)}(h:OwM w base v1 v2 v3 v4 m P)(hb:base'<=base):OwM w base' v1 v2 v3 v4 m P:=⟨qdi h.l hb,qdi h.p hb,qdi h.r hb,⟨qdi h.f.row hb,fun p hp=>(h.f.sub p hp).low hb⟩,h.e⟩
theorem OwM.addL {w w':World}{base:Nat}{v1 v2 v3 v4 v1':Value}{m:Fm}{P:List (Fl × FA)}{x:ByteArray}(h:OwM w base v1 v2 v3 v4 m P)(hn:w'.ownsRow base 9 1 v1' (m.L++[x]).length (stV (m.L++[x])))(hg:w.grownBy w' v1.ownBlock):OwM w' base v1' v2 v3 v4 { m with L:=m.L++[x] } P :=
 ⟨hn,h.p.kept hg (q9z h.p h.l (by decide)),h.r.kept hg (q9z h.r h.l (by decide)),⟨h.f.row.kept hg (q9z h.f.row h.l (by decide)),fun p hp=>(h.f.sub p hp).grown h.l (by decide) (by decide) hg⟩,h.e⟩
theorem OwM.addP {w w':World}{base:Nat}{v1 v2 v3 v4 v2':Value}{m:Fm}{P:List (Fl × FA)}{x:Int × Int}(h:OwM w base v1 v2 v3 v4 m P)(hn:w'.ownsRow base 84 2 v2' (m.P++[x]).length (pV (m.P++[x])))(hg:w.grownBy w' v2.ownBlock):OwM w' base v1 v2' v3 v4 { m with P:=m.P++[x] } P :=
 ⟨h.l.kept hg (q9z h.l h.p (by decide)),hn,h.r.kept hg (q9z h.r h.p (by decide)),⟨h.f.row.kept hg (q9z h.f.row h.p (by decide)),fun p hp=>(h.f.sub p hp).grown h.p (by decide) (by decide) hg⟩,h.e⟩
theorem OwM.addR {w w':World}{base:Nat}{v1 v2 v3 v4 v3':Value}{m:Fm}{P:List (Fl × FA)}{x:Rl}(h:OwM w base v1 v2 v3 v4 m P)(hn:w'.ownsRow base 86 2 v3' (m.R++[x]).length (rV' (m.R++[x])))(hg:w.grownBy w' v3.ownBlock):OwM w' base v1 v2 v3' v4 { m with R:=m.R++[x] } P :=
 ⟨h.l.kept hg (q9z h.l h.r (by decide)),h.p.kept hg (q9z h.p h.r (by decide)),hn,⟨h.f.row.kept hg (q9z h.f.row h.r (by decide)),fun p hp=>(h.f.sub p hp).grown h.r (by decide) (by decide) hg⟩,h.e⟩
theorem OwM.addF {w w':World}{base:Nat}{v1 v2 v3 v4 v4':Value}{m:Fm}{P:List (Fl × FA)}{x:Fl × FA}(h:OwM w base v1 v2 v3 v4 m P)(hn:w'.ownsRow base 52 9 v4' (P++[x]).length (fdV (P++[x])))(hg:w.grownBy w' v4.ownBlock)(hx:FOw w base x.1 x.2):OwM w' base v1 v2 v3 v4' { m with F:=m.F++[x.1] } (P++[x]) :=
 ⟨h.l.kept hg (q9z h.l h.f.row (by decide)),h.p.kept hg (q9z h.p h.f.row (by decide)),h.r.kept hg (q9z h.r h.f.row (by decide)),⟨hn,fun p hp=>(Zg.1 hp).elim (fun hp=>(h.f.sub p hp).grown h.f.row (by decide) (by decide) hg) (fun hp=>by rw[Y7.1 hp];exact hx.grown h.f.row (by decide) (by decide) hg)⟩,by simp[h.e]⟩
structure Kp (R:Nat)(w w':World):Prop where
 size:w.heap.size<=w'.heap.size
 same:∀k,k<w.heap.size->k≠R->w'.heap[k]? = w.heap[k]?
theorem Kp.of_below {w w':World}(R:Nat)(h:Below w.heap.size w w'):Kp R w w':=⟨h.size,fun k hk _=>h.block k hk⟩
theorem Kp.set (R:Nat)(w:World)(o:Nat)(x:Value):Kp R w (w.setCell ⟨R,o,none⟩ x):=⟨by simp,fun k _ hk=>heap_setCell_other w ⟨R,o,none⟩ k x (fun e=>hk e)⟩
theorem Kp.trans {R:Nat}{w w1 w2:World}(h:Kp R w w1)(k:Kp R w1 w2):Kp R w w2:=⟨Yt h.size k.size,fun b hb hR=>(k.same b (Y3 hb h.size) hR).trans (h.same b hb hR)⟩
theorem Kp.of_addK {R:Nat}{w w':World}{v v':Value}(h:AddK R w w' v v')(hv:v.ownBlock=none):Kp R w w':=⟨h.size,fun k hk hR=>h.same k hk hR (by rw[hv];simp)⟩
theorem Kp.blk {R:Nat}{w w':World}(h:Kp R w w'){g:Nat}{t:TypeId}{cs:List Value}(hb:Blk w g t cs)(hR:g≠R):Blk w' g t cs:=(h.same g hb.lt hR).trans hb
theorem Kp.owns {R:Nat}{w w':World}(h:Kp R w w'){base e size n:Nat}{v:Value}{xs:List Value}(ho:w.ownsRow base e size v n xs)(hb:R<base):w'.ownsRow base e size v n xs:=by
 refine⟨ho.1,?_⟩
 rcases ho.2 with h2 | ⟨g,cap,cur,h1,hg,hq,r⟩
 . exact .inl h2
 . exact .inr ⟨g,cap,cur,h1,hg,(h.same g (Zc.1 hq).1 (by omega)).trans hq,r⟩
theorem Kp.ownN {R:Nat}{w w':World}(h:Kp R w w'){base:Nat}{v:Value}{l:List Nx}(ho:OwnN w base v l)(hb:R<base):OwnN w' base v l:=h.owns ho hb
theorem qjc {w0:World}{a:Option Addr}{c:Nat}{l:List ByteArray}{w:World}{i d:Nat}{v:Value}{ns:List Nx}(hi:i<=2000000)(hc:RC w0 a l)(h:Rdr w0 a c l w i d v ns) :
 Calls Tryz.prog 101 #[Yd w0.heap.size 0] w fun e w'=>e=.returned (.string (pk l i))/\Rdr w0 a c l w' (i+1) d v ns/\Kp w0.heap.size w w':=by
 have HP:=h_ (qdm hc h);have H:=h_ h
 obtain⟨j,hj⟩:=Nq (i+1)
 have hj':(i:Int)+1=(j:Int):=by omega
 have hjb:j<=2000001:=by omega
 rw[hj]
 clear h hc hj
 generalize pk l i=t at *
 go_enter Tryz.func101,Tryz.ntmps101
 go_wp2_with fail
 refine HP.u.mono ?_
 rintro e W1 ⟨rfl,hb⟩
 replace H:=h_ (H.u.mono hb)
 have HA:=h_ (Kp.of_below w0.heap.size hb)
 clear hb HP
 obtain⟨y0,y1,y2,y3⟩:=quart H.u.blk
 have f1:=H.u.blk.free 1
 go_wp2_with fail
 go_ret
 exact⟨rfl,H.u.set1 j,HA.u.trans (Kp.set _ _ _ _)⟩
theorem qiv {w0:World}{a:Option Addr}{c:Nat}{l:List ByteArray}{w:World}{i d:Nat}{v:Value}{ns:List Nx}(s:ByteArray)(hi:i<=2000000)(hc:RC w0 a l)(h:Rdr w0 a c l w i d v ns) :
 Calls Tryz.prog 136 #[Yd w0.heap.size 0,.string s] w fun e w'=>e=.returned (.bool (decide (pk l i=s)))/\Rdr w0 a c l w' (if pk l i=s then i+1 else i) d v ns/\Kp w0.heap.size w w':=by
 have HP:=h_ (qdm hc h);have H:=h_ h
 obtain⟨j,hj⟩:=Nq (i+1)
 have hj':(i:Int)+1=(j:Int):=by omega
 have hjb:j<=2000001:=by omega
 rw[hj]
 clear h hc hj
 generalize pk l i=t at *
 have he:=eqT t s
 by_cases hq:t=s
 . rw[Yh hq]at he
   rw[Yh hq,Yn hq];have hne:(t.toList != s.toList)=false:=by rw[bne,he];rfl
   clear hq;go_enter Tryz.func136,Tryz.ntmps136;go_wp2_with fail;refine HP.u.mono ?_;rintro e W1 ⟨rfl,hb⟩;replace H:=h_ (H.u.mono hb);have HA:=h_ (Kp.of_below w0.heap.size hb);clear hb HP;obtain⟨y0,y1,y2,y3⟩:=quart H.u.blk;have f1:=H.u.blk.free 1;go_wp2_with fail;go_ret;exact⟨rfl,H.u.set1 j,HA.u.trans (Kp.set _ _ _ _)⟩
 . rw[Yg hq]at he
   rw[Yg hq,Yi hq];have hne:(t.toList != s.toList)=true:=by rw[bne,he];rfl
   clear hq;go_enter Tryz.func136,Tryz.ntmps136;go_wp2_with fail;refine HP.u.mono ?_;rintro e W1 ⟨rfl,hb⟩;replace H:=h_ (H.u.mono hb);have HA:=h_ (Kp.of_below w0.heap.size hb);clear hb HP;go_wp2_with fail;go_ret;exact⟨rfl,H.u,HA.u⟩
theorem qhw {w0:World}{a:Option Addr}{c:Nat}{l:List ByteArray}{w:World}{i d:Nat}{v:Value}{ns:List Nx}(s:ByteArray)(hi:i<=2000000)(hc:RC w0 a l)(h:Rdr w0 a c l w i d v ns) :
 Calls Tryz.prog 103 #[Yd w0.heap.size 0,.string s] w fun e w'=>(pk l i=s/\e=.returned (.tuple #[])/\Rdr w0 a c l w' (i+1) d v ns/\Kp w0.heap.size w w')∨(pk l i≠s/\e=flt 3/\Below w0.heap.size w0 w'):=by
 have HS:=h_ (qiv s hi hc h)
 clear h hc
 by_cases hq:pk l i=s
 . rw[Yh hq,Yn hq]at HS
   have HQ:=h_ hq;clear hq;go_enter Tryz.func103,Tryz.ntmps103;go_wp2_with fail;refine HS.u.mono ?_;rintro e W1 ⟨rfl,hr,ha⟩;have H:=h_ hr;have HA:=h_ ha;clear hr ha;go_wp2_with fail;refine(qfe _ _).mono ?_;rintro e w2 ⟨rfl,rfl⟩;go_wp2_with fail
   go_end0
   exact .inl ⟨HQ.u,rfl,H.u,HA.u⟩
 . rw[Yg hq,Yi hq]at HS
   have HQ:=h_ hq;clear hq;go_enter Tryz.func103,Tryz.ntmps103;go_wp2_with fail;refine HS.u.mono ?_;rintro e W1 ⟨rfl,hr,-⟩;have H:=h_ hr.bel;clear hr;go_wp2_with fail;refine(ask_no _ _).mono ?_;rintro e w2 ⟨rfl,rfl⟩;exact⟨rfl,.inr ⟨HQ.u,rfl,H.u⟩⟩
theorem q26 {w0:World}{a:Option Addr}{c:Nat}{l:List ByteArray}{w:World}{i:Nat}{v:Value}{ns:List Nx}(hc:RC w0 a l)(hcl:l.length<=c)(hi:i<=l.length)(h:Rdr w0 a c l w i 0 v ns) :
 Calls Tryz.prog 167 #[Yd w0.heap.size 0] w fun e w'=>(Evx tkX 64 (.op 1) 0 (l.drop i) none/\e=flt 3/\Below w0.heap.size w0 w')∨∃en i' v',Evx tkX 64 (.op 1) 0 (l.drop i) (some (en,l.drop i'))/\e=.returned v'/\i<=i'/\i'<=l.length/\i+en.length<=i'/\OwnN w' w.heap.size v' en/\Rdr w0 a c l w' i' 0 v' en/\Kp w0.heap.size w w':=by
 have H:=h_ h
 have HO:=h_ (q9u hc hcl (9*l.length+7) i 0 1 _ _ [] (by omega) (by omega) (by omega) (by omega) (by omega) (by simp) h.set3)
 rw[show((1:Nat):Int)=1 from rfl]at HO
 obtain⟨y0,y1,y2,y3⟩:=quart h.blk
 have f3:=h.blk.free 3
 clear hc h
 go_enter Tryz.func167,Tryz.ntmps167
 go_wp2_with fail
 refine HO.u.mono ?_
 rintro e W1 (⟨hev,rfl,hb⟩ | ⟨en,i',v',hev,rfl,k1,k2,k3,hr,hak⟩)
 . exact⟨rfl,.inl ⟨hev,rfl,hb⟩⟩
 . have HE:=h_ hev;have H1:=h_ hr
   have HK:=h_ ((Kp.set w0.heap.size w 3 Yb).trans (Kp.of_addK hak rfl));have HOw:Hi (OwnN W1 w.heap.size v' en):=h_ (q7n (by have:=hr.own;rwa [Vo]at this) (fun q hq=>(hak.own q hq).elim (fun h=>by cases h) (fun h=>by simpa using h)));rw[Vo]at H1;clear hev hr hak y0 y1 y2 y3 f3;obtain⟨y0,y1,y2,y3⟩:=quart H1.u.blk;go_wp2_with fail;go_ret;exact .inr ⟨en,i',v',HE.u,rfl,k1,k2,k3,HOw.u,H1.u,HK.u⟩
theorem qcz {w0:World}{a:Option Addr}{c:Nat}{l:List ByteArray}{w:World}{i d:Nat}{v:Value}{ns:List Nx}(hi:i<=2000000)(hc:RC w0 a l)(h:Rdr w0 a c l w i d v ns) :
 Calls Tryz.prog 102 #[Yd w0.heap.size 0] w fun e w'=>(goodN (pk l i)=true/\e=.returned (.string (pk l i))/\Rdr w0 a c l w' (i+1) d v ns/\Kp w0.heap.size w w')∨(goodN (pk l i)=false/\e=flt 3/\Below w0.heap.size w0 w'):=by
 have HT:=h_ (qjc hi hc h)
 have hz:=hc.pz i
 generalize pk l i=t at *
 clear hc h
 have HG:=h_ (fun w=>q1i t w (by omega))
 cases hg:goodN t
 all_goals
  rw[hg]at HG;clear hg;go_enter Tryz.func102,Tryz.ntmps102;go_wp2_with fail;refine HT.u.mono ?_;rintro e W1 ⟨rfl,hr,hk⟩;have H:=h_ hr;have HK:=h_ hk;clear hr hk;go_wp2_with fail;refine(HG.u _).mono ?_;rintro e w2 ⟨rfl,rfl⟩;go_wp2_with fail
 . refine(ask_no _ _).mono ?_
   rintro e w3 ⟨rfl,rfl⟩;exact⟨rfl,.inr ⟨by first | rfl | trivial,rfl,H.u.bel⟩⟩
 . refine(qfe _ _).mono ?_
   rintro e w3 ⟨rfl,rfl⟩;go_wp2_with fail;go_ret;exact .inl ⟨by first | rfl | trivial,rfl,H.u,HK.u⟩
theorem qen {w0:World}{a:Option Addr}{c:Nat}{l:List ByteArray}{w:World}{i d:Nat}{v:Value}{ns:List Nx}(hi:i<=2000000)(hc:RC w0 a l)(h:Rdr w0 a c l w i d v ns) :
 Calls Tryz.prog 139 #[Yd w0.heap.size 0] w fun e w'=>(∃s,StrT (pk l i) s/\e=.returned (.string s)/\Rdr w0 a c l w' (i+1) d v ns/\Kp w0.heap.size w w')∨((∀s,¬ StrT (pk l i) s)/\e=flt 3/\Below w0.heap.size w0 w'):=by
 have HT:=h_ (qjc hi hc h)
 have hz:=hc.pz i
 have HCc:=h_ hc
 generalize pk l i=t at *
 clear hc h
 obtain⟨kd,nm,tx,ok,hrv⟩:∃kd nm tx ok,rv t=(kd,nm,tx,ok):=⟨_,_,_,_,rfl⟩
 have HRv:=h_ hrv
 have HS:Hi (∀s,StrT t s ↔ ok=true/\kd=3/\s=tx):=h_ fun s=>by unfold StrT;rw[hrv]
 clear hrv
 go_enter Tryz.func139,Tryz.ntmps139
 go_wp2_with fail
 refine HT.u.mono ?_
 rintro e W1 ⟨rfl,hr,hk⟩
 have H:=h_ hr;have HK:=h_ hk
 have hb2:=hr.bel
 have HRd:=h_ (q30 t W1 hz (HCc.u.pw.mono hb2) (HCc.u.e1.mono hb2) (HCc.u.e2.mono hb2) kd nm tx ok HRv.u)
 clear hr hk hb2 HT
 go_wp2_with fail
 refine HRd.u.mono ?_
 rintro e W4 ⟨rfl,hb⟩
 replace H:=h_ (H.u.mono hb);replace HK:=h_ (HK.u.trans (Kp.of_below _ hb))
 clear hb HRd
 have HBx:=h_ ((bR W4.heap.size W4).alloc (nR _) (.cells (Ju kd nm tx) 131))
 have HKx:=h_ (Blk.new W4 131 (Ju kd nm tx))
 obtain⟨W5,hW5⟩:=Nq (W4.alloc (.cells (Ju kd nm tx) 131))
 rw[hW5]at HBx HKx
 replace H:=h_ (H.u.mono HBx.u);replace HK:=h_ (HK.u.trans (Kp.of_below _ HBx.u))
 have x0:=HKx.u.cell 0;have x1:=HKx.u.cell 1;have x2:=HKx.u.cell 2
 simp only[Yp,Zb]at x0 x1 x2
 cases ok
 case false =>
  go_wp2_with fail
  try rw[hW5]
  refine(ask_no _ _).mono ?_;rintro e w6 ⟨rfl,rfl⟩;exact⟨rfl,.inr ⟨fun s hs=>(by have:=((HS.u s).1 hs).1;cases this),rfl,H.u.bel⟩⟩
 by_cases hk:kd=3
 . have hk':(kd==3)=true:=by simp[hk]
   have HS3:Hi (StrT t tx):=h_ ((HS.u tx).2 ⟨rfl,hk,rfl⟩);clear hk;go_wp2_with fail
   try rw[hW5]
   refine(qfe _ _).mono ?_;rintro e w6 ⟨rfl,rfl⟩;go_wp2_with fail;go_ret;exact .inl ⟨tx,HS3.u,rfl,H.u,HK.u⟩
 . have hk':(kd==3)=false:=by simp[hk]
   have HS3:Hi (∀s,¬ StrT t s):=h_ fun s hs=>hk ((HS.u s).1 hs).2.1;clear hk;go_wp2_with fail
   try rw[hW5]
   refine(ask_no _ _).mono ?_;rintro e w6 ⟨rfl,rfl⟩;exact⟨rfl,.inr ⟨HS3.u,rfl,H.u.bel⟩⟩
theorem qdy {w0:World}{a:Option Addr}{c:Nat}{l:List ByteArray}{w:World}{i:Nat}{v:Value}{ns:List Nx}(s:ByteArray)(hs:s≠⟨#[]⟩)(hi:i<=l.length)(hc:RC w0 a l)(hcl:l.length<=c)(h:Rdr w0 a c l w i 0 v ns) :
 Calls Tryz.prog 138 #[Yd w0.heap.size 0,.string s] w fun e w'=>(RuR s (l.drop i) none/\e=flt 3/\Below w0.heap.size w0 w')∨∃en i' vr v' ns',RuR s (l.drop i) (some (en,l.drop i'))/\e=.returned vr/\i<=i'/\i'<=l.length/\en.length<=1048576/\OwnN w' w.heap.size vr en/\Rdr w0 a c l w' i' 0 v' ns'/\Kp w0.heap.size w w':=by
 have hl:=hc.len
 have HSk:=h_ (qiv s (by omega) hc h)
 have HCc:=h_ hc
 clear hc h
 by_cases hq:pk l i=s
 . rw[Yh hq,Yn hq]at HSk
   have hlt:i<l.length:=pk_in (by rw[hq];exact hs);have HD:Hi (l.drop i=s :: l.drop (i+1)):=h_ (by rw[qia hlt,hq]);clear hq;go_enter Tryz.func138,Tryz.ntmps138;go_wp2_with fail;refine HSk.u.mono ?_;rintro e W1 ⟨rfl,hr,hk⟩;have HE:=h_ (q26 HCc.u hcl (by omega) hr);have HK:=h_ hk;clear hr hk HSk;go_wp2_with fail;refine HE.u.mono ?_;rintro e W2 (⟨hev,rfl,hb⟩ | ⟨en,i',v',hev,rfl,k1,k2,k3,how,hr,hk⟩)
   . exact⟨rfl,.inl ⟨.inr ⟨_,HD.u,hev⟩,rfl,hb⟩⟩
   . have HR:Hi (RuR s (l.drop i) (some (en,l.drop i'))):=h_ (.inr ⟨_,HD.u,hev⟩)
     have H2:=h_ hr;have HOw:=h_ (OwnN.low how HK.u.size);replace HK:=h_ (HK.u.trans hk);obtain⟨an,cn,rfl,-⟩:=hr.own.nods;clear hev hr hk HE how;go_wp2_with fail;go_ret;exact .inr ⟨en,i',_,_,_,HR.u,rfl,by omega,k2,by omega,HOw.u,H2.u,HK.u⟩
 . rw[Yg hq,Yi hq]at HSk
   have HR:Hi (RuR s (l.drop i) (some ([],l.drop i))):=h_ (.inl ⟨fun L' e=>hq (by
    by_cases hlt:i<l.length
    . rw[qia hlt]at e;injection e
    . rw[Yx (by omega)]at e;cases e),rfl⟩)
   clear hq;go_enter Tryz.func138,Tryz.ntmps138;go_wp2_with fail;refine HSk.u.mono ?_;rintro e W1 ⟨rfl,hr,hk⟩;have H1:=h_ hr;have HK:=h_ hk;clear hr hk HSk;go_wp2_with fail;go_ret;exact .inr ⟨[],i,_,_,_,HR.u,rfl,by omega,hi,by simp,⟨rfl,.inl ⟨rfl,rfl⟩⟩,H1.u,HK.u⟩
end Go.Proofs.YtfmammdgehbjhaaGreatDoor
