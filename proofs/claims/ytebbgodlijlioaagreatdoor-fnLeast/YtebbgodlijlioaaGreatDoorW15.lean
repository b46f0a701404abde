import Derived.Test.YtebbgodlijlioaaGreatDoorW14
import Derived.Test.YtebbgodlijlioaaGreatDoorW07
import Derived.Test.YtebbgodlijlioaaGreatDoorW11
import Derived.Maps.OwnSet
set_option maxRecDepth 100000
set_option maxHeartbeats 64000000
namespace Go.Proofs.YtebbgodlijlioaaGreatDoor
open Go Go.RowKit
def nC (n:Nx):List Value:=[.int .i64 n.op,.int .i64 n.v.k,.int .i64 n.v.n,.string n.v.s,.string n.nm]
def nodV (l:List Nx):List Value:=l.flatMap nC
theorem qdl (l:List Nx):(nodV l).length=l.length*5:=by
 induction l with
 | nil=>rfl
 | cons p r ih=>simp only[nodV,Zo,Yg,nC,Yw,Y5]at *;omega
theorem qdj (l r:List Nx):nodV (l++r)=nodV l++nodV r:=by simp[nodV]
theorem qdk {l:List Nx}{k p:Nat}(hk:k<l.length)(hp:p<5):(nodV l)[k*5+p]? = (nC l[k])[p]?:=by
 induction l generalizing k with
 | nil=>cases hk
 | cons x r ih =>
  cases k with
  | zero =>
   rw[show nodV (x :: r)=nC x++nodV r from rfl,Nat.zero_mul,Zi,List.getElem?_append_left (by simp[nC];omega)];rfl
  | succ k =>
   rw[show nodV (x :: r)=nC x++nodV r from rfl,List.getElem?_append_right (by simp[nC];omega)];have:=ih (k:=k) (by simpa using hk);rw[show(k+1)*5+p - (nC x).length=k*5+p by simp[nC];omega];simpa using this
def OwnN (w:World)(base:Nat)(v:Value)(l:List Nx):Prop:=w.ownsRow base 96 5 v l.length (nodV l)
theorem OwnN.keep {w w':World}{base:Nat}{v:Value}{l:List Nx}(h:OwnN w base v l)(hb:Below w.heap.size w w'):OwnN w' base v l :=
 World.ownsRow.kept (row:=none) h ⟨hb.os,hb.tape,hb.output,hb.size,fun k hk _=>hb.block k hk⟩ (Classical.em _)
theorem OwnN.low {w:World}{base base':Nat}{v:Value}{l:List Nx}(h:OwnN w base v l)(hb:base'<=base):OwnN w base' v l:=by
 refine⟨h.1,?_⟩
 rcases h.2 with h2 | ⟨g,cap,cur,h1,hg,r⟩
 . exact .inl h2
 . exact .inr ⟨g,cap,cur,h1,Ys hb hg,r⟩
theorem OwnN.none (w:World):OwnN (w.alloc (.cells #[] 96)) w.heap.size (.slice (some ⟨w.heap.size,0,.none⟩) 0 0) [] :=
 ⟨rfl,.inr ⟨w.heap.size,0,#[],rfl,nR _,heap_alloc_new w (.cells #[] 96),nR _,nZ _,rfl,rfl⟩⟩
theorem OwnN.nods {w:World}{base:Nat}{v:Value}{l:List Nx}(h:OwnN w base v l):∃a c,v=.slice a l.length c/\NodL w a l:=by
 rcases h.2 with ⟨e,h0⟩ | ⟨g,cap,cur,e,hg,hq,h4,h5,h6,h7⟩
 . exact⟨.none,0,by rw[e,h0],fun k hk=>by omega⟩
 . have hb:Blk w g 96 cur.toList:=by
    show w.heap[g]? = _;rw[hq]
   refine⟨some ⟨g,0,.none⟩,cap,e,fun k hk=>⟨g,0,rfl,?_⟩⟩;have hc:∀p,p<5->w.cell? ⟨g,k*5+p,.none⟩=(nC l[k])[p]?:=fun p hp=>by
    rw[hb.cell,<- qdk hk hp,<- h7,Vo (by omega)]
   rw[Zi,nf_get l k hk];exact⟨hb.lt,hc 0 (by omega),hc 1 (by omega),hc 2 (by omega),hc 3 (by omega),hc 4 (by omega)⟩
theorem qh1:(Tryz.prog.info? 96).map (fun i=>(i.zero,i.size,i.bytes))=some (some (.agg #[J9 0,J9 0,J9 0,Yb,Yb]),5,56):=by kernel_rfl
theorem q4h {ops:Array Oper}{rest:List Oper}{o:Oper}{a:Act}{Q:Exit->Act->World->Prop}{w:World}(hgd:o.guard=.none)(s x:Operand)
 (ho:o.op=.call { callee:=.builtin .append,args:=#[s,x],argTypes:=#[40,40] }) {base:Nat} {v:Value} {l:List Nx} (hs:a.eval s=v) (hown:OwnN w base v l)
 {g:Nat} {n:Nx} (hx:a.eval x=.slice (some ⟨g,0,.none⟩) 1 1) (hc:Blk w g 96 (nC n)) (hl:l.length+1<=2097152) (hbase:base<=w.heap.size)
 (h:∀v' w',OwnN w' base v' (l++[n])->Below base w w'->wpList Tryz.prog ops Q rest (a.put o.dst v') w'):wpList Tryz.prog ops Q (o :: rest) a w:=by
 obtain⟨i0,hi,hz0,hz1,hz2⟩:=info_parts qh1
 refine wpList_append_own w hgd s x 40 ho base 96 i0 _ 5 56 Tryz.underlying40 hi hz0 hz1 hz2 rfl (by omega) _ _ _ hs hown ⟨g,0,.none⟩ 1 1 (nC n) hx rfl (fun j v hj=>by rw[show(⟨g,0,.none⟩:Addr).add j=⟨g,j,.none⟩ by simp[Addr.add];try exact fun h=>h.symm];exact(hc.cell j).trans hj) (by simp[nC,Value.oneCell']) (by unfold maxLen;omega) (by omega) hbase ?_
 intro v' W9 ho hgr _
 refine h v' W9 ?_ ((bR base w).grown hgr hbase (fun q e=>q87 hown e))
 unfold OwnN
 rw[qdj,Yg]
 simpa [nodV] using ho
theorem q7l (a b:Option Addr)(ca cb:Nat)(la lb:List Nx)(w:World)(hl:la.length+lb.length<=1048576)(ha:NodL w a la)(hb:NodL w b lb) :
 Calls Tryz.prog 139 #[.slice a la.length ca,.slice b lb.length cb] w fun r w'=>∃v,r=.returned v/\OwnN w' w.heap.size v (la++lb)/\Below w.heap.size w w':=by
 have HB0:=h_ ((bR w.heap.size w).alloc (nR _) (.cells #[] 96))
 have HO0:=h_ (OwnN.none w)
 have HA:=h_ ha;have HC:=h_ hb
 clear ha hb
 obtain⟨W0,hW0⟩:=Nq (w.alloc (.cells #[] 96))
 rw[hW0]at HB0 HO0
 go_enter Tryz.func139,Tryz.ntmps139
 go_wp2_with fail
 try rw[hW0]
 clear hW0
 go_loopw [5,6] (fun v i wr=>∃k:Nat,k<=la.length/\i=J9 k/\OwnN wr w.heap.size v (la.take k)/\Below w.heap.size w wr) (fun _ i _=>la.length - (intOf i).toNat)
 case atStart=>exact⟨0,nZ _,rfl,HO0.u,HB0.u⟩
 case round =>
  clear HO0 HB0;obtain⟨k,hk,rfl,ho,hb⟩:=hrel;have HO:=h_ ho;have HB:=h_ hb;have HV:=h_ (HA.u.mono hb);have HW:=h_ (HC.u.mono hb);clear ho hb;by_cases hlt:k<la.length
  . have hlt':(k:Int)<la.length:=by omega
    have HT:Hi (la.take (k+1)=la.take k++[la[k]]):=h_ (Yr hlt);obtain⟨bb,oo,rfl,-,c0,c1,c2,c3,c4⟩:=HV.u k hlt;rw[nf_get la k hlt]at c0 c1 c2 c3 c4;generalize la[k]=n at *;have HN:Hi (Blk _ _ 96 (nC n)):=h_ (Blk.new wr 96 (nC n).toArray);have HS:=h_ ((bR wr.heap.size wr).alloc (nR _) (.cells (nC n).toArray 96));go_wp2_with (at_builtin;refine q4h rfl _ _ rfl rfl (HO.u.keep HS.u) rfl HN.u (by rw[Y3];omega) (Ys HB.u.size HS.u.size) ?_);intro v' W9 ho hb9;have HO9:=h_ ho;rw[<- HT.u]at HO9;have HB9:=h_ (HB.u.trans ((HS.u.mono HB.u.size).trans hb9));clear ho hb9 c0 c1 c2 c3 c4;go_wp2_with fail;go_roundw
    case rel=>exact⟨k+1,by omega,by go_num,HO9.u,HB9.u⟩
    case measure=>simp[intOf];omega
  . obtain rfl:k=la.length:=by omega
    have hlt':¬ (la.length:Int)<la.length:=(by omega);rw[Zm]at HO;go_wp2_with fail;go_loopw [5,7] (fun v i wr=>∃k:Nat,k<=lb.length/\i=J9 k/\OwnN wr w.heap.size v (la++lb.take k)/\Below w.heap.size w wr) (fun _ i _=>lb.length - (intOf i).toNat)
    case atStart=>exact⟨0,nZ _,rfl,by rw[List.take_zero,Zr];exact HO.u,HB.u⟩
    case round =>
     clear HO HB HV HW hlt hlt' hk;obtain⟨k,hk,rfl,ho,hb⟩:=hrel;have HO:=h_ ho;have HB:=h_ hb;have HW:=h_ (HC.u.mono hb);clear ho hb;by_cases hlt:k<lb.length
     . have hlt':(k:Int)<lb.length:=by omega
       have HT:Hi (la++lb.take (k+1)=la++(lb.take k++[lb[k]])):=h_ (by rw[Yr hlt]);obtain⟨bb,oo,rfl,-,c0,c1,c2,c3,c4⟩:=HW.u k hlt;rw[nf_get lb k hlt]at c0 c1 c2 c3 c4;generalize lb[k]=n at *
       rename World=>wr
       have HN:Hi (Blk _ _ 96 (nC n)):=h_ (Blk.new wr 96 (nC n).toArray);have HS:=h_ ((bR wr.heap.size wr).alloc (nR _) (.cells (nC n).toArray 96));go_wp2_with (at_builtin;refine q4h rfl _ _ rfl rfl (HO.u.keep HS.u) rfl HN.u (by rw[Yg,Y3];omega) (Ys HB.u.size HS.u.size) ?_);intro v' W9 ho hb9;have HO9:=h_ ho;rw[<- HT.u]at HO9;have HB9:=h_ (HB.u.trans ((HS.u.mono HB.u.size).trans hb9));clear ho hb9 c0 c1 c2 c3 c4;go_wp2_with fail;go_roundw
       case rel=>exact⟨k+1,by omega,by go_num,HO9.u,HB9.u⟩
       case measure=>simp[intOf];omega
     . obtain rfl:k=lb.length:=by omega
       have hlt':¬ (lb.length:Int)<lb.length:=(by omega);rw[Zm]at HO;go_wp2_with fail;go_ret;exact⟨_,rfl,HO.u,HB.u⟩
theorem OwnN.lone (w:World)(n:Nx):OwnN (w.alloc (.cells (Jf n) 96)) w.heap.size (.slice (some ⟨w.heap.size,0,.none⟩) 1 1) [n] :=
 ⟨rfl,.inr ⟨w.heap.size,1,_,rfl,nR _,heap_alloc_new w (.cells (Jf n) 96),nR _,by unfold maxLen;omega,rfl,rfl⟩⟩
theorem qdm {l:List Nx}{k p:Nat}(hk:k<l.length)(hp:p<5){n:Nx}{x:Value}(hn:nC n=(nC l[k]).set p x):nodV (l.set k n)=(nodV l).set (k*5+p) x:=by
 induction l generalizing k with
 | nil=>cases hk
 | cons y r ih =>
  cases k with
  | zero =>
   rw[Yd,show nodV (n :: r)=nC n++nodV r from rfl,show nodV (y :: r)=nC y++nodV r from rfl,List.set_append_left _ _ (by simp[nC];omega),hn];simp
  | succ k =>
   have:=ih (k:=k) (by simpa using hk) (by simpa using hn);rw[Ye,show nodV (y :: r.set k n)=nC y++nodV (r.set k n) from rfl,show nodV (y :: r)=nC y++nodV r from rfl,this,List.set_append_right _ _ (by simp[nC];omega)];rw[show(k+1)*5+p - (nC y).length=k*5+p by simp[nC];omega]
theorem OwnN.put {w:World}{base:Nat}{v:Value}{l:List Nx}(h:OwnN w base v l)(h0:0<l.length):∃g c,v=.slice (some ⟨g,0,.none⟩) l.length c/\base<=g/\g<w.heap.size/\(∀j,j<l.length*5->(∃u,w.cell? ⟨g,j,.none⟩=some u)/\w.frozen? ⟨g,j,.none⟩=false) /\
 (∀k,k<l.length->w.cell? ⟨g,k*5,.none⟩=some (J9 (nf l k).op)/\w.cell? ⟨g,k*5+4,.none⟩=some (.string (nf l k).nm)) /\
 ∀(k p:Nat) (hk:k<l.length) (_:p<5) (n:Nx) (x:Value),nC n=(nC l[k]).set p x->OwnN (w.setCell ⟨g,k*5+p,.none⟩ x) base v (l.set k n):=by
 rcases h.2 with ⟨e,h'⟩ | ⟨g,cap,cur,e,hg,hq,h4,h5,h6,h7⟩
 . omega
 . have hb:Blk w g 96 cur.toList:=by
    show w.heap[g]? = _;rw[hq]
   have hc:∀k p,(hk:k<l.length)->p<5->w.cell? ⟨g,k*5+p,.none⟩=(nC l[k])[p]?:=fun k p hk hp=>by
    rw[hb.cell,<- qdk hk hp,<- h7,Vo (by omega)]
   refine⟨g,cap,e,hg,hb.lt,fun j hj=>⟨?_,hb.free j⟩,fun k hk=>?_,fun k p hk hp n x hn=>?_⟩
   . have:j<cur.toList.length:=by rw[Array.length_toList,h6];omega
     exact⟨cur.toList[j],by rw[hb.cell,Yj this]⟩
   . rw[nf_get l k hk]
     exact⟨hc k 0 hk (by omega),hc k 4 hk (by omega)⟩
   . have hs:=hb.set (k*5+p) x
     refine⟨by rw[qdl],.inr ⟨g,cap,(cur.toList.set (k*5+p) x).toArray,by rw[Zz];exact e,hg,hs,by rw[Zz];exact h4,h5,by simp[h6],?_⟩⟩;rw[qdm hk hp hn,<- h7,Zz,List.take_set]
variable (K:Int->List ByteArray)
def nms (kind:Int):List ByteArray:=if kind=1 then K 1 else if kind=2 then K 2 else K 3
def PkOk:Prop:=∀kind,(nms K kind).length<=1000/\∀x,x∈nms K kind->x.size<=64
def PickV (w:World)(v:Value):Prop:=∃x1 n1 k1 x2 n2 k2 x3 n3 k3,v=.agg #[.slice x1 n1 k1,.slice x2 n2 k2,.slice x3 n3 k3]/\(n1=(K 1).length/\Strs w x1 (K 1))/\(n2=(K 2).length/\Strs w x2 (K 2))/\n3=(K 3).length/\Strs w x3 (K 3)
theorem PickV.mono {K:Int->List ByteArray}{w w':World}{v:Value}(h:PickV K w v)(hb:Below w.heap.size w w'):PickV K w' v:=by
 obtain⟨x1,n1,k1,x2,n2,k2,x3,n3,k3,e,h1,h2,h3⟩:=h
 exact⟨x1,n1,k1,x2,n2,k2,x3,n3,k3,e,⟨h1.1,h1.2.mono hb⟩,⟨h2.1,h2.2.mono hb⟩,h3.1,h3.2.mono hb⟩
def FitS (n:Nx):Prop:=n.v.s.size<=1000/\n.nm.size<=64/\(0<=n.op/\n.op<=25)/\-9223372036854775808<=n.v.n/\n.v.n<=9223372036854775807
theorem FitS.cst (k n:Int){s:ByteArray}(hs:s.size<=1000)(h1:-9223372036854775808<=n)(h2:n<=9223372036854775807):FitS ⟨0,⟨k,n,s⟩,⟨#[]⟩⟩:=⟨hs,nZ _,⟨Int.le_refl 0,(by omega:(0:Int)<=25)⟩,h1,h2⟩
theorem FitS.fld {x:ByteArray}(h:x.size<=64):FitS ⟨1,⟨0,0,⟨#[]⟩⟩,x⟩:=⟨nZ _,h,⟨(by omega:(0:Int)<=1),(by omega:(1:Int)<=25)⟩,(by omega:(-9223372036854775808:Int)<=0),(by omega:(0:Int)<=9223372036854775807)⟩
theorem FitS.opn {op:Int}(h1:0<=op)(h2:op<=25):FitS ⟨op,⟨0,0,⟨#[]⟩⟩,⟨#[]⟩⟩:=⟨nZ _,nZ _,⟨h1,h2⟩,(by omega:(-9223372036854775808:Int)<=0),(by omega:(0:Int)<=9223372036854775807)⟩
theorem q3u (a b c:Option Addr)(n1 n2 n3 k1 k2 k3:Nat)(kind:Int)(w:World) :
 Calls Tryz.prog 162 #[.agg (Jk a n1 k1 b n2 k2 c n3 k3),J9 kind] w fun e w'=>e=.returned (if kind=1 then .slice a n1 k1 else if kind=2 then .slice b n2 k2 else .slice c n3 k3)/\Below w.heap.size w w':=by
 have hB:∀o,Below w.heap.size w (w.alloc o):=fun o=>(bR _ w).alloc (nR _) o
 have HB:=h_ hB;clear hB
 by_cases h1:kind=1
 . subst h1
   go_enter Tryz.func162,Tryz.ntmps162;go_wp2;go_ret;exact⟨rfl,HB.u _⟩
 . by_cases h2:kind=2
   . subst h2
     go_enter Tryz.func162,Tryz.ntmps162;go_wp2;go_ret;exact⟨rfl,HB.u _⟩
   . rw[Yu h1,Yu h2]
     go_enter Tryz.func162,Tryz.ntmps162;go_wp2;go_ret;exact⟨rfl,HB.u _⟩
theorem qip {K:Int->List ByteArray}{w:World}{a b c:Option Addr}{n1 n2 n3:Nat}(k1 k2 k3:Nat)(e1:n1=(K 1).length)(h1:Strs w a (K 1))(e2:n2=(K 2).length)(h2:Strs w b (K 2))(e3:n3=(K 3).length)(h3:Strs w c (K 3))(kind:Int):∃x y,(if kind=1 then Value.slice a n1 k1 else if kind=2 then .slice b n2 k2 else .slice c n3 k3)=.slice x (nms K kind).length y/\Strs w x (nms K kind):=by
 subst e1 e2 e3
 unfold nms
 split
 . exact⟨a,k1,rfl,h1⟩
 . split
   . exact⟨b,k2,rfl,h2⟩
   . exact⟨c,k3,rfl,h3⟩
def DrawOut (w:World)(l:List Nx)(q:Nat)(e:Ending)(w':World):Prop:=∃v,e=.returned (.tuple #[v,.int .i64 q])/\OwnN w' w.heap.size v l/\Below w.heap.size w w'
theorem qce {w w':World}{n:Nx}{q:Nat}{z:Int}(hb:Below w.heap.size w w')(hz:z=q):DrawOut w [n] q (.returned (.tuple #[.slice (some ⟨w'.heap.size,0,none⟩) 1 1,J9 z])) (w'.alloc (.cells (Jf n) 96)) :=
 ⟨_,by rw[hz],(OwnN.lone w' n).low hb.size,hb.alloc hb.size _⟩
def LeafX (len:Nat)(f:Nat->Nat)(p:Nat)(kind:Int)(n:Nx)(q:Nat):Prop :=
 (tkD len f p 8<6/\q=p+2/\∃(B:Nat) (h:B<(nms K kind).length),tkD len f (p+1) (nms K kind).length=B/\n=⟨1,⟨0,0,⟨#[]⟩⟩,(nms K kind)[B]⟩) ∨
 (tkD len f p 8=7/\q=p+1/\n=⟨0,⟨0,0,⟨#[]⟩⟩,⟨#[]⟩⟩) ∨
 ((tkD len f p 8=6∨(tkD len f p 8<6/\(nms K kind).length=0))/\q=p+2/\∃B:Nat,tkD len f (p+1) 256=B/\B<256 /\
  ((kind=1/\∃x:Int,(-9223372036854775808<=x/\x<=9223372036854775807)/\(∀w:World,Calls Tryz.prog 164 #[J9 ((B:Int) % 14)] w fun e w'=>e=.returned (J9 x)/\w'=w)/\∃z:Int,((x<0/\z=B)∨(¬ x<0/\z=x))/\n=⟨0,⟨1,z,⟨#[]⟩⟩,⟨#[]⟩⟩) ∨
   (kind=2/\∃(t:Bool) (z:Int),(((B:Int) % 3 != 0)=t)/\(if t=true then 1 else 0)=z/\(0<=z/\z<=1)/\n=⟨0,⟨2,z,⟨#[]⟩⟩,⟨#[]⟩⟩) ∨
   (kind=3/\∃s:ByteArray,s.size<=64/\(∀w:World,Calls Tryz.prog 105 #[J9 ((B:Int) % 12)] w fun e w'=>e=.returned (.string s)/\w'=w)/\n=⟨0,⟨3,0,s⟩,⟨#[]⟩⟩)))
theorem qhl (hK:PkOk K)(len:Nat)(f:Nat->Nat)(hlen:len<=1048576)(p:Nat)(hp:p<=1000000)(kind:Int)(hk:kind=1∨kind=2∨kind=3):∃n q,LeafX K len f p kind n q/\FitS n/\p<=q/\q<=p+2:=by
 have hA8:tkD len f p 8<8:=tk_lt hlen (by omega) (by omega) (by omega)
 by_cases h6:tkD len f p 8<6/\0<(nms K kind).length
 . have hL:=(hK kind).1
   have hB:tkD len f (p+1) (nms K kind).length<(nms K kind).length:=tk_lt hlen (by omega) (by omega) (by omega);exact⟨_,p+2,.inl ⟨h6.1,rfl,_,hB,rfl,rfl⟩,FitS.fld ((hK kind).2 _ (Yk _)),by omega,by omega⟩
 by_cases h7:tkD len f p 8=7
 . exact⟨_,p+1,.inr (.inl ⟨h7,rfl,rfl⟩),FitS.cst _ _ (nZ _) (by omega) (by omega),by omega,by omega⟩
 have hB:tkD len f (p+1) 256<256:=tk_lt hlen (by omega) (by omega) (by omega)
 have hz6:tkD len f p 8=6∨(tkD len f p 8<6/\(nms K kind).length=0):=by
  by_cases e:tkD len f p 8<6
  . exact .inr ⟨e,by omega⟩
  . exact .inl (by omega)
 rcases hk with rfl | rfl | rfl
 . obtain⟨x,hx,hc⟩:=q3p ((tkD len f (p+1) 256:Nat) % 14)
   by_cases hx0:x<0
   . exact⟨_,p+2,.inr (.inr ⟨hz6,rfl,_,rfl,hB,.inl ⟨rfl,x,hx,hc,_,.inl ⟨hx0,rfl⟩,rfl⟩⟩),FitS.cst _ _ (nZ _) (by omega) (by omega),by omega,by omega⟩
   . exact⟨_,p+2,.inr (.inr ⟨hz6,rfl,_,rfl,hB,.inl ⟨rfl,x,hx,hc,_,.inr ⟨hx0,rfl⟩,rfl⟩⟩),FitS.cst _ _ (nZ _) (by omega) (by omega),by omega,by omega⟩
 . obtain⟨t,ht⟩:=Nq ((((tkD len f (p+1) 256:Nat):Int) % 3 != 0))
   obtain⟨z,hz⟩:∃z:Int,(if t=true then 1 else 0)=z:=⟨_,rfl⟩;have hz2:0<=z/\z<=1:=by rw[<- hz];split <;> omega
   exact⟨_,p+2,.inr (.inr ⟨hz6,rfl,_,rfl,hB,.inr (.inl ⟨rfl,t,z,ht,hz,hz2,rfl⟩)⟩),FitS.cst _ _ (nZ _) (by omega) (by omega),by omega,by omega⟩
 . obtain⟨s,hs,hc⟩:=q7g ((tkD len f (p+1) 256:Nat) % 12)
   exact⟨_,p+2,.inr (.inr ⟨hz6,rfl,_,rfl,hB,.inr (.inr ⟨rfl,s,hs,hc,rfl⟩)⟩),FitS.cst _ _ (by omega) (by omega) (by omega),by omega,by omega⟩
theorem q7m (hK:PkOk K)(len:Nat)(f:Nat->Nat)(hlen:len<=1048576)(p:Nat)(hp:p<=1000000)(kind:Int)(n:Nx)(q:Nat)(hX:LeafX K len f p kind n q)(w:World)(a:Option Addr)(c:Nat)(v:Value)(hby:Byts w a len f)(hpk:PickV K w v) :
 Calls Tryz.prog 137 #[.slice a len c,J9 p,v,J9 kind] w (DrawOut w [n] q):=by
 obtain⟨A,hA⟩:=Nq (tkD len f p 8)
 unfold LeafX at hX
 rw[hA]at hX
 have HX:=h_ hX;have HA:=h_ hA
 obtain⟨x1,n1,k1,x2,n2,k2,x3,n3,k3,rfl,⟨e1,s1⟩,⟨e2,s2⟩,e3,s3⟩:=hpk
 have HBl:=h_ (Blk.new w 110 (Jk x1 n1 k1 x2 n2 k2 x3 n3 k3))
 have hb0:=(bR w.heap.size w).alloc (nR _) (.cells (Jk x1 n1 k1 x2 n2 k2 x3 n3 k3) 110)
 obtain⟨y,ky,hy,sy⟩:=qip k1 k2 k3 e1 s1 e2 s2 e3 s3 kind
 obtain⟨W0,hW0⟩:=Nq (w.alloc (.cells (Jk x1 n1 k1 x2 n2 k2 x3 n3 k3) 110))
 rw[hW0]at HBl hb0
 have HBy:=h_ (hby.mono hb0);have HSy:=h_ (sy.mono hb0);have HB0:=h_ hb0;have HY:=h_ hy
 clear hby s1 s2 s3 sy hb0 hA hy hX e1 e2 e3
 go_enter Tryz.func137,Tryz.ntmps137
 go_wp2_with fail
 try rw[hW0]
 clear hW0
 refine(qju (p:=p) (n:=8) hlen (by omega) (by omega) (by omega) c HBy.u rfl rfl).mono ?_
 rintro e w' ⟨rfl,hw'⟩
 subst hw'
 rw[HA.u]
 obtain⟨r0,r1,r2⟩:=three HBl.u
 go_wp2_with fail
 refine(q3u _ _ _ _ _ _ _ _ _ _ _).mono ?_
 rintro e w1 ⟨rfl,hb1⟩
 rw[HY.u]
 replace HBy:=h_ (HBy.u.mono hb1);replace HSy:=h_ (HSy.u.mono hb1);replace HB0:=mT HB0 hb1
 obtain⟨L,hL⟩:=Nq ((nms K kind).length)
 have hL1:L<=1000:=by rw[<- hL];exact(hK kind).1
 rw[hL]
 have HL:=h_ hL
 have HP:Hi ((p:Int)+1=((p+1:Nat):Int)):=h_ (by omega)
 clear hb1 r0 r1 r2 HY HBl hL
 rcases HX.u with ⟨h6,rfl,B,hBL,hB,rfl⟩ | ⟨h7,rfl,rfl⟩ | ⟨h6,rfl,B,hB,hB2,hX⟩
 . have h6':(A:Int)<6:=by omega
   obtain⟨b,o,rfl,-,hc⟩:=HSy.u B hBL;generalize (nms K kind)[B]=x at *;have hBL':(B:Int)<L:=by have:=HL.u;omega
   have hL0:(0:Int)<L:=by omega
   have HC:=h_ hc;have HBB:=h_ hB;clear HX HSy hc hB;go_wp2_with fail;refine(qju (p:=p+1) (n:=L) hlen (by omega) (by omega) (by omega) c HBy.u HP.u rfl).mono ?_;rintro e w' ⟨rfl,hw'⟩;subst hw';rw[<- HL.u,HBB.u];have hc:=HC.u;go_wp2_with fail
   go_ret2
   exact qce (n:=⟨1,⟨0,0,⟨#[]⟩⟩,x⟩) HB0.u (by omega)
 . subst h7
   clear HX HSy;go_wp2_with fail;refine(q51 _).mono ?_;rintro e w2 ⟨rfl,hb2⟩;replace HB0:=mT HB0 hb2;clear hb2;go_wp2_with fail;refine(q52 _ _ _ _).mono ?_;rintro e w3 ⟨rfl,hb3⟩;replace HB0:=mT HB0 hb3;clear hb3;go_wp2_with fail
   go_ret2
   exact qce (n:=⟨0,⟨0,0,⟨#[]⟩⟩,⟨#[]⟩⟩) HB0.u (by omega)
 . rw[HL.u]at h6
   rcases h6 with h6 | ⟨h6,h60⟩
   case' inl=>subst h6
   case' inr =>
    have h6':(A:Int)<6:=(by omega);have hL0:¬ (0:Int)<L:=(by omega);have h7':((A:Int)==7)=false:=Yf.2 (by omega);clear h60
   all_goals
    have HBB:=h_ hB;clear HX HSy hB;rcases hX with ⟨rfl,x,hx,hc,z,hz,rfl⟩ | ⟨rfl,t,z,ht,hz,-,rfl⟩ | ⟨rfl,s,hs,hc,rfl⟩
    . have HC:=h_ hc
      clear hc;go_wp2_with fail;refine(qju (p:=p+1) (n:=256) hlen (by omega) (by omega) (by omega) c HBy.u HP.u rfl).mono ?_;rintro e w' ⟨rfl,hw'⟩;subst hw';rw[HBB.u];go_wp2_with fail;refine(HC.u _).mono ?_;rintro e w' ⟨rfl,hw'⟩;subst hw';rcases hz with ⟨hx0,rfl⟩ | ⟨hx0,rfl⟩
      . go_wp2_with fail
        refine(qa6 _ _).mono ?_;rintro e w2 ⟨rfl,hb2⟩;replace HB0:=mT HB0 hb2;clear hb2;go_wp2_with fail;refine(q52 _ _ _ _).mono ?_;rintro e w3 ⟨rfl,hb3⟩;replace HB0:=mT HB0 hb3;clear hb3;go_wp2_with fail
        go_ret2
        exact qce (n:=⟨0,⟨1,(B:Int),⟨#[]⟩⟩,⟨#[]⟩⟩) HB0.u (by omega)
      . go_wp2_with fail
        refine(qa6 _ _).mono ?_;rintro e w2 ⟨rfl,hb2⟩;replace HB0:=mT HB0 hb2;clear hb2;go_wp2_with fail;refine(q52 _ _ _ _).mono ?_;rintro e w3 ⟨rfl,hb3⟩;replace HB0:=mT HB0 hb3;clear hb3;go_wp2_with fail
        go_ret2
        exact qce (n:=⟨0,⟨1,_,⟨#[]⟩⟩,⟨#[]⟩⟩) HB0.u (by omega)
    . have HT:=h_ ht;have HZ:=h_ hz
      clear ht hz;go_wp2_with fail;refine(qju (p:=p+1) (n:=256) hlen (by omega) (by omega) (by omega) c HBy.u HP.u rfl).mono ?_;rintro e w' ⟨rfl,hw'⟩;subst hw';rw[HBB.u];go_wp2_with fail;refine(q7e _ _).mono ?_;rintro e w2 ⟨rfl,hb2⟩;rw[HT.u,HZ.u];replace HB0:=mT HB0 hb2;clear hb2;go_wp2_with fail;refine(q52 _ _ _ _).mono ?_;rintro e w3 ⟨rfl,hb3⟩;replace HB0:=mT HB0 hb3;clear hb3;go_wp2_with fail
      go_ret2
      exact qce (n:=⟨0,⟨2,z,⟨#[]⟩⟩,⟨#[]⟩⟩) HB0.u (by omega)
    . have HC:=h_ hc
      clear hc;go_wp2_with fail;refine(qju (p:=p+1) (n:=256) hlen (by omega) (by omega) (by omega) c HBy.u HP.u rfl).mono ?_;rintro e w' ⟨rfl,hw'⟩;subst hw';rw[HBB.u];go_wp2_with fail;refine(HC.u _).mono ?_;rintro e w' ⟨rfl,hw'⟩;subst hw';go_wp2_with fail;refine(q7f _ _).mono ?_;rintro e w2 ⟨rfl,hb2⟩;replace HB0:=mT HB0 hb2;clear hb2;go_wp2_with fail;refine(q52 _ _ _ _).mono ?_;rintro e w3 ⟨rfl,hb3⟩;replace HB0:=mT HB0 hb3;clear hb3;go_wp2_with fail
      go_ret2
      exact qce (n:=⟨0,⟨3,0,s⟩,⟨#[]⟩⟩) HB0.u (by omega)
def OwnS (w:World)(base:Nat)(v:Value)(l:List ByteArray):Prop:=w.ownsRow base 9 1 v l.length (stV l)
theorem OwnS.keep {w w':World}{base:Nat}{v:Value}{l:List ByteArray}(h:OwnS w base v l)(hb:Below w.heap.size w w'):OwnS w' base v l :=
 World.ownsRow.kept (row:=none) h ⟨hb.os,hb.tape,hb.output,hb.size,fun k hk _=>hb.block k hk⟩ (Classical.em _)
theorem OwnS.strs {w:World}{base:Nat}{v:Value}{l:List ByteArray}(h:OwnS w base v l):∃a c,v=.slice a l.length c/\l.length<=c/\Strs w a l:=by
 rcases h.2 with ⟨e,h0⟩ | ⟨g,cap,cur,e,hg,hq,h4,h5,h6,h7⟩
 . exact⟨.none,0,by rw[e,h0],by omega,fun k hk=>by omega⟩
 . have hb:Blk w g 9 cur.toList:=by
    show w.heap[g]? = _;rw[hq]
   refine⟨some ⟨g,0,.none⟩,cap,e,h4,fun k hk=>⟨g,0,rfl,hb.lt,?_⟩⟩;have h8:(cur.toList.take (l.length*1))[k]? = some (.string l[k]):=by rw[h7];simp[stV,hk]
   rw[Vo (by omega)]at h8;rw[Zi,hb.cell];exact h8
theorem qdt {w:World}{base base' e size n:Nat}{v:Value}{xs:List Value}(h:w.ownsRow base e size v n xs)(hb:base'<=base):w.ownsRow base' e size v n xs:=by
 refine⟨h.1,?_⟩
 rcases h.2 with h2 | ⟨g,cap,cur,h1,hg,r⟩
 . exact .inl h2
 . exact .inr ⟨g,cap,cur,h1,Ys hb hg,r⟩
theorem qap {w w':World}{base e size n:Nat}{v:Value}{xs:List Value}(h:w.ownsRow base e size v n xs)(hb:Below w.heap.size w w'):w'.ownsRow base e size v n xs :=
 World.ownsRow.kept (row:=none) h ⟨hb.os,hb.tape,hb.output,hb.size,fun k hk _=>hb.block k hk⟩ (Classical.em _)
theorem qaw {w:World}{base e size n base' e' size' n':Nat}{v v':Value}{xs xs':List Value}(h:w.ownsRow base e size v n xs)(h':w.ownsRow base' e' size' v' n' xs')(he:e≠e'):v.ownBlock=none∨v.ownBlock≠v'.ownBlock:=by
 rcases h.2 with ⟨h2,-⟩ | ⟨g,cap,cur,h1,-,hq,-⟩
 . exact .inl (by rw[h2];rfl)
 . refine .inr fun hc=>?_
   rcases h'.2 with ⟨h3,-⟩ | ⟨g',cap',cur',h4,-,hq',-⟩
   . rw[h1,h3]at hc;cases hc
   . rw[h1,h4]at hc
     have hc:some g=some g':=hc;cases hc;rw[hq]at hq';simp only[Option.some.injEq,Obj.cells.injEq]at hq';exact he hq'.2.1
theorem qdq {w:World}{base e size n:Nat}{v:Value}{xs:List Value}(h:w.ownsRow base e size v n xs){g:Nat}{t:TypeId}{cs:List Value}(hb:Blk w g t cs)(he:e≠t):v.ownBlock≠some g:=fun hc=>by
 rcases h.2 with ⟨h2,-⟩ | ⟨g',cap,cur,h1,-,hq,-⟩
 . rw[h2]at hc;cases hc
 . rw[h1]at hc
   have hc:some g'=some g:=hc;cases hc;have hb:w.heap[g]? = some (.cells cs.toArray t):=hb;rw[hq]at hb;simp only[Option.some.injEq,Obj.cells.injEq]at hb;exact he hb.2.1
theorem q8b {w:World}{base e size n:Nat}{v:Value}{xs:List Value}(h:w.ownsRow base e size v n xs):∃a c,v=.slice a n c/\n<=c/\(0<n->∃g,a=some ⟨g,0,none⟩/\g<w.heap.size/\base<=g/\∀p,p<n*size->w.cell? ⟨g,p,none⟩=xs[p]?):=by
 rcases h.2 with ⟨h2,h0⟩ | ⟨g,cap,cur,h1,hg,hq,h4,h5,h6,h7⟩
 . exact⟨none,0,by rw[h2,h0],by omega,fun h=>by omega⟩
 . refine⟨some ⟨g,0,none⟩,cap,h1,h4,fun _=>⟨g,rfl,(Yt.1 hq).1,hg,fun p hp=>?_⟩⟩
   have hb:Blk w g e cur.toList:=by
    show w.heap[g]? = _;rw[hq]
   rw[hb.cell,<- h7,Vo hp]
theorem qci {α:Type}{f:α->List Value}{s:Nat}(hf:∀x,(f x).length=s){l:List α}{k p:Nat}(hk:k<l.length)(hp:p<s):(l.flatMap f)[k*s+p]? = (f l[k])[p]?:=by
 induction l generalizing k with
 | nil=>cases hk
 | cons x r ih =>
  rw[Zo];cases k with
  | zero=>rw[Nat.zero_mul,Zi,List.getElem?_append_left (by rw[hf];exact hp)];rfl
  | succ k =>
   rw[List.getElem?_append_right (by rw[hf,Zt];omega),hf];have:=ih (k:=k) (by simpa using hk);rw[show(k+1)*s+p - s=k*s+p by rw[Zt];omega];simpa using this
theorem qcj {α:Type}{f:α->List Value}{s:Nat}(hf:∀x,(f x).length=s)(l:List α):(l.flatMap f).length=l.length*s:=by
 induction l with
 | nil=>simp
 | cons x r ih=>rw[Zo,Yg,hf,ih,Yw,Zt];omega
def iV (l:List Int):List Value:=l.flatMap fun x=>[.int .i64 x]
def pV (l:List (Int × Int)):List Value:=l.flatMap fun x=>[.int .i64 x.1,.int .i64 x.2]
def rV' (l:List Rl):List Value:=l.flatMap fun x=>[.string x.nm,.int .i64 x.lb]
def fdV (l:List (Fl × FA)):List Value:=l.flatMap fun x=>fCs x.1 x.2
def OwI (w:World)(base:Nat)(v:Value)(l:List Int):Prop:=w.ownsRow base 3 1 v l.length (iV l)
def OwP (w:World)(base:Nat)(v:Value)(l:List (Int × Int)):Prop:=w.ownsRow base 64 2 v l.length (pV l)
def OwL (w:World)(base:Nat)(v:Value)(l:List Rl):Prop:=w.ownsRow base 66 2 v l.length (rV' l)
structure FOw (w:World)(base:Nat)(f:Fl)(A:FA):Prop where
 b:OwI w base (.slice A.b f.bys.length A.bc) f.bys
 i:OwnN w base (.slice A.i f.is.length A.ic) f.is
 h:OwnN w base (.slice A.h f.wh.length A.hc) f.wh
 v:OwnN w base (.slice A.v f.va.length A.vc) f.va
 u:OwnN w base (.slice A.u f.mu.length A.uc) f.mu
structure OwF (w:World)(base:Nat)(v:Value)(l:List (Fl × FA)):Prop where
 row:w.ownsRow base 42 9 v l.length (fdV l)
 sub:∀p,p∈l->FOw w base p.1 p.2
theorem FOw.mono {w w':World}{base:Nat}{f:Fl}{A:FA}(h:FOw w base f A)(hb:Below w.heap.size w w'):FOw w' base f A:=⟨qap h.b hb,h.i.keep hb,h.h.keep hb,h.v.keep hb,h.u.keep hb⟩
theorem FOw.low {w:World}{base base':Nat}{f:Fl}{A:FA}(h:FOw w base f A)(hb:base'<=base):FOw w base' f A:=⟨qdt h.b hb,h.i.low hb,h.h.low hb,h.v.low hb,h.u.low hb⟩
theorem OwF.mono {w w':World}{base:Nat}{v:Value}{l:List (Fl × FA)}(h:OwF w base v l)(hb:Below w.heap.size w w'):OwF w' base v l:=⟨qap h.row hb,fun p hp=>(h.sub p hp).mono hb⟩
theorem FOw.grown {w w':World}{base:Nat}{f:Fl}{A:FA}{base' e size n:Nat}{x:Value}{xs:List Value}(h:FOw w base f A)(hx:w.ownsRow base' e size x n xs)(h1:3≠e)(h2:96≠e)(hg:w.grownBy w' x.ownBlock):FOw w' base f A :=
 ⟨h.b.kept hg (qaw h.b hx h1),h.i.kept hg (qaw h.i hx h2),h.h.kept hg (qaw h.h hx h2),h.v.kept hg (qaw h.v hx h2),h.u.kept hg (qaw h.u hx h2)⟩
theorem qh5 {w:World}{base c:Nat}{a:Option Addr}{l:List Int}(h:OwI w base (.slice a l.length c) l):IntL w a l:=fun k hk=>by
 obtain⟨a',c',e,-,hq⟩:=q8b h
 cases e
 obtain⟨g,rfl,h1,-,h2⟩:=hq (by omega)
 have:=h2 (k*1+0) (by omega)
 unfold iV at this
 rw[qci (f:=fun x:Int=>[J9 x]) (s:=1) (p:=0) (fun _=>rfl) hk (by omega)]at this
 refine⟨g,0,rfl,h1,?_⟩
 rw[show 0+k=k*1+0 by omega,this]
 simp[List.getD_eq_getElem?_getD,hk]
theorem qib {w:World}{base c:Nat}{a:Option Addr}{l:List Nx}(h:OwnN w base (.slice a l.length c) l):NodL w a l:=by
 obtain⟨a',c',e,hn⟩:=h.nods
 cases e
 exact hn
theorem prs_of {w:World}{base c:Nat}{a:Option Addr}{l:List (Int × Int)}(h:OwP w base (.slice a l.length c) l):Prs w a l:=fun k hk=>by
 obtain⟨a',c',e,-,hq⟩:=q8b h
 cases e
 obtain⟨g,rfl,h1,-,h2⟩:=hq (by omega)
 have y0:=h2 (k*2+0) (by omega);have y1:=h2 (k*2+1) (by omega)
 unfold pV at y0 y1
 rw[qci (f:=fun x:Int × Int=>[J9 x.1,J9 x.2]) (fun _=>rfl) hk (by omega)]at y0 y1
 exact⟨g,0,rfl,h1,by rw[Zi];exact y0,by rw[Zi];exact y1⟩
theorem rls_of {w:World}{base c:Nat}{a:Option Addr}{l:List Rl}(h:OwL w base (.slice a l.length c) l):Rls w a l:=fun k hk=>by
 obtain⟨a',c',e,-,hq⟩:=q8b h
 cases e
 obtain⟨g,rfl,h1,-,h2⟩:=hq (by omega)
 have y0:=h2 (k*2+0) (by omega);have y1:=h2 (k*2+1) (by omega)
 unfold rV' at y0 y1
 rw[qci (f:=fun x:Rl=>[.string x.nm,J9 x.lb]) (fun _=>rfl) hk (by omega)]at y0 y1
 exact⟨g,0,rfl,h1,by rw[Zi];exact y0,by rw[Zi];exact y1⟩
def noFA:FA:=⟨none,0,none,0,none,0,none,0,none,0⟩
def noFl:Fl:=⟨⟨#[]⟩,0,0,[],[],[],[],⟨#[]⟩,[]⟩
def faOf (l:List (Fl × FA))(k:Nat):FA:=(l.getD k (noFl,noFA)).2
theorem qcg {l:List (Fl × FA)}{k:Nat}(h:k<l.length):faOf l k=l[k].2:=by unfold faOf;rw[Yl,Yj h];rfl
theorem qgk {w:World}{base c:Nat}{a:Option Addr}{l:List (Fl × FA)}(h:OwF w base (.slice a l.length c) l):Flds w a (l.map (·.1)) (faOf l):=fun k hk=>by
 rw[Yz]at hk
 obtain⟨a',c',e,-,hq⟩:=q8b h.row
 cases e
 obtain⟨g,rfl,h1,-,h2⟩:=hq (by omega)
 have y:∀p,p<9->w.cell? ⟨g,k*9+p,none⟩=(fCs l[k].1 l[k].2)[p]?:=fun p hp=>by
  rw[h2 (k*9+p) (by omega)];exact qci (f:=fun x:Fl × FA=>fCs x.1 x.2) (fun _=>rfl) hk hp
 have hs:=h.sub l[k] (Yk hk)
 rw[Vh,qcg hk]
 refine⟨g,0,rfl,?_,qh5 hs.b,qib hs.i,qib hs.h,qib hs.v,qib hs.u⟩
 rw[Zi]
 exact⟨h1,y 0 (by omega),y 1 (by omega),y 2 (by omega),y 3 (by omega),y 4 (by omega),y 5 (by omega),y 6 (by omega),y 7 (by omega),y 8 (by omega)⟩
structure OwM (w:World)(base:Nat)(v1 v2 v3 v4:Value)(m:Fm)(P:List (Fl × FA)):Prop where
 l:OwnS w base v1 m.L
 p:OwP w base v2 m.P
 r:OwL w base v3 m.R
 f:OwF w base v4 P
 e:m.F=P.map (·.1)
theorem OwM.mono {w w':World}{base:Nat}{v1 v2 v3 v4:Value}{m:Fm}{P:List (Fl × FA)}(h:OwM w base v1 v2 v3 v4 m P)(hb:Below w.heap.size w w'):OwM w' base v1 v2 v3 v4 m P:=⟨h.l.keep hb,qap h.p hb,qap h.r hb,h.f.mono hb,h.e⟩
theorem OwM.sl {w:World}{base:Nat}{v1 v2 v3 v4:Value}{m:Fm}{P:List (Fl × FA)}(h:OwM w base v1 v2 v3 v4 m P):∃A:MA,.agg #[v1,v2,v3,v4]=mV m A/\MSl w m A/\v1=.slice A.l m.L.length A.lc/\v2=.slice A.p m.P.length A.pc/\v3=.slice A.r m.R.length A.rc/\v4=.slice A.f m.F.length A.fc/\A.fa=faOf P:=by
 obtain⟨a1,c1,rfl,-,hs⟩:=h.l.strs
 obtain⟨a2,c2,rfl,-⟩:=q8b h.p
 obtain⟨a3,c3,rfl,-⟩:=q8b h.r
 obtain⟨a4,c4,rfl,-⟩:=q8b h.f.row
 have hl:P.length=m.F.length:=by rw[h.e,Yz]
 refine⟨⟨a1,c1,a2,c2,a3,c3,a4,c4,faOf P⟩,?_,⟨hs,prs_of h.p,rls_of h.r,?_⟩,rfl,rfl,rfl,?_,rfl⟩
 . unfold mV
   simp only[hl]
 . have:=qgk h.f
   rwa [<- h.e]at this
 . simp only[hl]
theorem OwM.nil (w:World)(base:Nat):OwM w base Ya Ya Ya Ya ⟨[],[],[],[]⟩ [] :=
 ⟨⟨rfl,.inl ⟨rfl,rfl⟩⟩,⟨rfl,.inl ⟨rfl,rfl⟩⟩,⟨rfl,.inl ⟨rfl,rfl⟩⟩,⟨⟨rfl,.inl ⟨rfl,rfl⟩⟩,fun p hp=>(by cases hp)⟩,rfl⟩
theorem qh0:(Tryz.prog.info? 3).map (fun i=>(i.zero,i.size,i.bytes))=some (some (J9 0),1,8):=by kernel_rfl
theorem qh3:(Tryz.prog.info? 64).map (fun i=>(i.zero,i.size,i.bytes))=some (some (.agg #[J9 0,J9 0]),2,16):=by kernel_rfl
theorem qh4:(Tryz.prog.info? 66).map (fun i=>(i.zero,i.size,i.bytes))=some (some (.agg #[Yb,J9 0]),2,24):=by kernel_rfl
theorem qgz:(Tryz.prog.info? 42).map (fun i=>(i.zero,i.size,i.bytes))=some (some (.agg Je),9,168):=by kernel_rfl
theorem qc1 {ops:Array Oper}{rest:List Oper}{o:Oper}{a:Act}{Q:Exit->Act->World->Prop}{w:World}(hgd:o.guard=.none)(s x:Operand)
 (ho:o.op=.call { callee:=.builtin .append,args:=#[s,x],argTypes:=#[30,30] }) {base:Nat} {v:Value} {l:List Int} (hs:a.eval s=v) (hown:OwI w base v l)
 {g:Nat} {n:Int} (hx:a.eval x=.slice (some ⟨g,0,.none⟩) 1 1) (hc:Blk w g 3 [J9 n]) (hl:l.length+1<=2097152) (hbase:base<=w.heap.size)
 (h:∀v' w',w'.ownsRow base 3 1 v' (l++[n]).length (iV (l++[n]))->w.grownBy w' v.ownBlock->Below base w w'->wpList Tryz.prog ops Q rest (a.put o.dst v') w'):wpList Tryz.prog ops Q (o :: rest) a w:=by
 obtain⟨i0,hi,hz0,hz1,hz2⟩:=info_parts qh0
 refine wpList_append_own w hgd s x 30 ho base 3 i0 _ 1 8 Tryz.underlying30 hi hz0 hz1 hz2 rfl (by omega) _ _ _ hs hown ⟨g,0,.none⟩ 1 1 [J9 n] hx rfl (fun j v hj=>by rw[show(⟨g,0,.none⟩:Addr).add j=⟨g,j,.none⟩ by simp[Addr.add];try exact fun h=>h.symm];exact(hc.cell j).trans hj) (by simp[Value.oneCell']) (by unfold maxLen;omega) (by omega) hbase ?_
 intro v' W9 ho hgr _
 refine h v' W9 ?_ hgr ((bR base w).grown hgr hbase (fun q e=>q87 hown e))
 rw[Yg,show iV (l++[n])=iV l++[J9 n] by simp[iV]]
 exact ho
theorem qc2 {ops:Array Oper}{rest:List Oper}{o:Oper}{a:Act}{Q:Exit->Act->World->Prop}{w:World}(hgd:o.guard=.none)(s x:Operand)
 (ho:o.op=.call { callee:=.builtin .append,args:=#[s,x],argTypes:=#[24,24] }) {base:Nat} {v:Value} {l:List (Int × Int)} (hs:a.eval s=v) (hown:OwP w base v l)
 {g:Nat} {n:(Int × Int)} (hx:a.eval x=.slice (some ⟨g,0,.none⟩) 1 1) (hc:Blk w g 64 [J9 n.1,J9 n.2]) (hl:l.length+1<=2097152) (hbase:base<=w.heap.size)
 (h:∀v' w',w'.ownsRow base 64 2 v' (l++[n]).length (pV (l++[n]))->w.grownBy w' v.ownBlock->Below base w w'->wpList Tryz.prog ops Q rest (a.put o.dst v') w'):wpList Tryz.prog ops Q (o :: rest) a w:=by
 obtain⟨i0,hi,hz0,hz1,hz2⟩:=info_parts qh3
 refine wpList_append_own w hgd s x 24 ho base 64 i0 _ 2 16 Tryz.underlying24 hi hz0 hz1 hz2 rfl (by omega) _ _ _ hs hown ⟨g,0,.none⟩ 1 1 [J9 n.1,J9 n.2] hx rfl (fun j v hj=>by rw[show(⟨g,0,.none⟩:Addr).add j=⟨g,j,.none⟩ by simp[Addr.add];try exact fun h=>h.symm];exact(hc.cell j).trans hj) (by simp[Value.oneCell']) (by unfold maxLen;omega) (by omega) hbase ?_
 intro v' W9 ho hgr _
 refine h v' W9 ?_ hgr ((bR base w).grown hgr hbase (fun q e=>q87 hown e))
 rw[Yg,show pV (l++[n])=pV l++[J9 n.1,J9 n.2] by simp[pV]]
 exact ho
theorem qc0 {ops:Array Oper}{rest:List Oper}{o:Oper}{a:Act}{Q:Exit->Act->World->Prop}{w:World}(hgd:o.guard=.none)(s x:Operand)
 (ho:o.op=.call { callee:=.builtin .append,args:=#[s,x],argTypes:=#[26,26] }) {base:Nat} {v:Value} {l:List (Fl × FA)} (hs:a.eval s=v) (hown:w.ownsRow base 42 9 v l.length (fdV l))
 {g:Nat} {n:(Fl × FA)} (hx:a.eval x=.slice (some ⟨g,0,.none⟩) 1 1) (hc:Blk w g 42 (fCs n.1 n.2)) (hl:l.length+1<=2097152) (hbase:base<=w.heap.size)
 (h:∀v' w',w'.ownsRow base 42 9 v' (l++[n]).length (fdV (l++[n]))->w.grownBy w' v.ownBlock->Below base w w'->wpList Tryz.prog ops Q rest (a.put o.dst v') w'):wpList Tryz.prog ops Q (o :: rest) a w:=by
 obtain⟨i0,hi,hz0,hz1,hz2⟩:=info_parts qgz
 refine wpList_append_own w hgd s x 26 ho base 42 i0 _ 9 168 Tryz.underlying26 hi hz0 hz1 hz2 rfl (by omega) _ _ _ hs hown ⟨g,0,.none⟩ 1 1 (fCs n.1 n.2) hx rfl (fun j v hj=>by rw[show(⟨g,0,.none⟩:Addr).add j=⟨g,j,.none⟩ by simp[Addr.add];try exact fun h=>h.symm];exact(hc.cell j).trans hj) (by simp[fCs,Value.oneCell']) (by unfold maxLen;omega) (by omega) hbase ?_
 intro v' W9 ho hgr _
 refine h v' W9 ?_ hgr ((bR base w).grown hgr hbase (fun q e=>q87 hown e))
 rw[Yg,show fdV (l++[n])=fdV l++(fCs n.1 n.2) by simp[fdV]]
 exact ho
theorem qij {w w':World}{base e size n:Nat}{v:Value}{xs:List Value}(h:w.ownsRow base e size v n xs){g:Nat}{t:TypeId}{cs:List Value}(hb:Blk w g t cs)(he:e≠t)(hk:∀k,k≠g->w'.heap[k]? = w.heap[k]?):w'.ownsRow base e size v n xs:=by
 have hne:=qdq h hb he
 refine⟨h.1,?_⟩
 rcases h.2 with h2 | ⟨g',cap,cur,h1,hg,hq,r⟩
 . exact .inl h2
 . exact .inr ⟨g',cap,cur,h1,hg,(hk g' (fun e'=>hne (by rw[h1];exact congrArg some e'))).trans hq,r⟩
theorem OwM.one {w w':World}{base:Nat}{v1 v2 v3 v4:Value}{m:Fm}{P:List (Fl × FA)}(h:OwM w base v1 v2 v3 v4 m P){g:Nat}{t:TypeId}{cs:List Value}(hb:Blk w g t cs)(h1:9≠t)(h2:64≠t)(h3:66≠t)(h4:42≠t)(h5:3≠t)(h6:96≠t)(hk:∀k,k≠g->w'.heap[k]? = w.heap[k]?):OwM w' base v1 v2 v3 v4 m P :=
 ⟨qij h.l hb h1 hk,qij h.p hb h2 hk,qij h.r hb h3 hk,⟨qij h.f.row hb h4 hk,fun p hp=>⟨qij (h.f.sub p hp).b hb h5 hk,qij (h.f.sub p hp).i hb h6 hk,qij (h.f.sub p hp).h hb h6 hk,qij (h.f.sub p hp).v hb h6 hk,qij (h.f.sub p hp).u hb h6 hk⟩⟩,h.e⟩
theorem OwM.low {w:World}{base base':Nat}{v1 v2 v3 v4:Value}{m:Fm}{P:List (Fl × FA)}(h:OwM w base v1 v2 v3 v4 m P)(hb:base'<=base):OwM w base' v1 v2 v3 v4 m P:=⟨qdt h.l hb,qdt h.p hb,qdt h.r hb,⟨qdt h.f.row hb,fun p hp=>(h.f.sub p hp).low hb⟩,h.e⟩
theorem OwM.addL {w w':World}{base:Nat}{v1 v2 v3 v4 v1':Value}{m:Fm}{P:List (Fl × FA)}{x:ByteArray}(h:OwM w base v1 v2 v3 v4 m P)(hn:w'.ownsRow base 9 1 v1' (m.L++[x]).length (stV (m.L++[x])))(hg:w.grownBy w' v1.ownBlock):OwM w' base v1' v2 v3 v4 { m with L:=m.L++[x] } P :=
 ⟨hn,h.p.kept hg (qaw h.p h.l (by decide)),h.r.kept hg (qaw h.r h.l (by decide)),⟨h.f.row.kept hg (qaw h.f.row h.l (by decide)),fun p hp=>(h.f.sub p hp).grown h.l (by decide) (by decide) hg⟩,h.e⟩
theorem OwM.addP {w w':World}{base:Nat}{v1 v2 v3 v4 v2':Value}{m:Fm}{P:List (Fl × FA)}{x:Int × Int}(h:OwM w base v1 v2 v3 v4 m P)(hn:w'.ownsRow base 64 2 v2' (m.P++[x]).length (pV (m.P++[x])))(hg:w.grownBy w' v2.ownBlock):OwM w' base v1 v2' v3 v4 { m with P:=m.P++[x] } P :=
 ⟨h.l.kept hg (qaw h.l h.p (by decide)),hn,h.r.kept hg (qaw h.r h.p (by decide)),⟨h.f.row.kept hg (qaw h.f.row h.p (by decide)),fun p hp=>(h.f.sub p hp).grown h.p (by decide) (by decide) hg⟩,h.e⟩
theorem OwM.addR {w w':World}{base:Nat}{v1 v2 v3 v4 v3':Value}{m:Fm}{P:List (Fl × FA)}{x:Rl}(h:OwM w base v1 v2 v3 v4 m P)(hn:w'.ownsRow base 66 2 v3' (m.R++[x]).length (rV' (m.R++[x])))(hg:w.grownBy w' v3.ownBlock):OwM w' base v1 v2 v3' v4 { m with R:=m.R++[x] } P :=
 ⟨h.l.kept hg (qaw h.l h.r (by decide)),h.p.kept hg (qaw h.p h.r (by decide)),hn,⟨h.f.row.kept hg (qaw h.f.row h.r (by decide)),fun p hp=>(h.f.sub p hp).grown h.r (by decide) (by decide) hg⟩,h.e⟩
theorem OwM.addF {w w':World}{base:Nat}{v1 v2 v3 v4 v4':Value}{m:Fm}{P:List (Fl × FA)}{x:Fl × FA}(h:OwM w base v1 v2 v3 v4 m P)(hn:w'.ownsRow base 42 9 v4' (P++[x]).length (fdV (P++[x])))(hg:w.grownBy w' v4.ownBlock)(hx:FOw w base x.1 x.2):OwM w' base v1 v2 v3 v4' { m with F:=m.F++[x.1] } (P++[x]) :=
 ⟨h.l.kept hg (qaw h.l h.f.row (by decide)),h.p.kept hg (qaw h.p h.f.row (by decide)),h.r.kept hg (qaw h.r h.f.row (by decide)),⟨hn,fun p hp=>(Y9.1 hp).elim (fun hp=>(h.f.sub p hp).grown h.f.row (by decide) (by decide) hg) (fun hp=>by rw[Yx.1 hp];exact hx.grown h.f.row (by decide) (by decide) hg)⟩,by simp[h.e]⟩
theorem q6b {ops:Array Oper}{rest:List Oper}{o:Oper}{a:Act}{Q:Exit->Act->World->Prop}{w:World}(hgd:o.guard=.none)(s x:Operand)
 (ho:o.op=.call { callee:=.builtin .append,args:=#[s,x],argTypes:=#[40,40] }) {base:Nat} {v:Value} {l:List Nx} (hs:a.eval s=v) (hown:OwnN w base v l)
 {g:Nat} {n m:Nx} (hx:a.eval x=.slice (some ⟨g,0,.none⟩) 2 2) (hc:Blk w g 96 (nC n++nC m)) (hl:l.length+2<=2097152) (hbase:base<=w.heap.size)
 (h:∀v' w',OwnN w' base v' (l++[n,m])->Below base w w'->wpList Tryz.prog ops Q rest (a.put o.dst v') w'):wpList Tryz.prog ops Q (o :: rest) a w:=by
 obtain⟨i0,hi,hz0,hz1,hz2⟩:=info_parts qh1
 refine wpList_append_own w hgd s x 40 ho base 96 i0 _ 5 56 Tryz.underlying40 hi hz0 hz1 hz2 rfl (by omega) _ _ _ hs hown ⟨g,0,.none⟩ 2 2 (nC n++nC m) hx rfl (fun j v hj=>by rw[show(⟨g,0,.none⟩:Addr).add j=⟨g,j,.none⟩ by simp[Addr.add];try exact fun h=>h.symm];exact(hc.cell j).trans hj) (by simp[nC,Value.oneCell']) (by unfold maxLen;omega) (by omega) hbase ?_
 intro v' W9 ho hgr _
 refine h v' W9 ?_ ((bR base w).grown hgr hbase (fun q e=>q87 hown e))
 unfold OwnN
 rw[qdj,Yg]
 simpa [nodV] using ho
end Go.Proofs.YtebbgodlijlioaaGreatDoor
namespace Go.Proofs.YtebbgodlijlioaaGreatDoor
open Go
def kl (x:ByteArray):Lit:=.string (sb x)
theorem kl_inj {x y:ByteArray}(h:kl x=kl y):x=y:=by
 unfold kl sb at h
 simp only[Lit.string.injEq]at h
 obtain⟨⟨a⟩⟩:=x
 obtain⟨⟨b⟩⟩:=y
 simp at h
 rw[h]
def mpR:List ByteArray->DataW Unit
 | []=>.map []
 | x :: r=>(mpR r).put (kl x) (.lit (.int .i64 (r.length:Int)))
def mp (l:List ByteArray):DataW Unit:=mpR l.reverse
theorem qi9 (l:List ByteArray)(x:ByteArray):mp (l++[x])=(mp l).put (kl x) (.lit (.int .i64 (l.length:Int))):=by
 unfold mp
 rw[List.reverse_append]
 simp[mpR]
theorem qf6 (r:List ByteArray):Maps.Tidy (mpR r):=by
 induction r with
 | nil=>exact Maps.tidy_empty
 | cons x r ih=>exact ih.put (show WideAt.IsKeyLit (kl x) from trivial) _
theorem qgr (r:List ByteArray)(x:ByteArray):Maps.has (mpR r) (kl x)=memB x r:=by
 induction r with
 | nil=>rfl
 | cons y r ih =>
  by_cases h:x=y
  . subst h
    rw[show mpR (x :: r)=(mpR r).put (kl x) (.lit (.int .i64 (r.length:Int))) from rfl,Maps.has_put_same (qf6 r).isMap (show WideAt.IsKeyLit (kl x) from trivial)];exact((qdg _ _).2 Zd).symm
  . rw[show mpR (y :: r)=(mpR r).put (kl y) (.lit (.int .i64 (r.length:Int))) from rfl,Maps.has_put_other (fun hc=>h (kl_inj hc)),ih]
    unfold memB;rw[List.any_cons,Yi (fun e=>h e.symm),Bool.false_or]
theorem qet (r:List ByteArray):Maps.size (mpR r)<=r.length/\(Maps.size (mpR r)=r.length ↔ r.Nodup):=by
 induction r with
 | nil=>exact⟨nR _,by simp[mpR,Maps.size]⟩
 | cons x r ih =>
  rw[show mpR (x :: r)=(mpR r).put (kl x) (.lit (.int .i64 (r.length:Int))) from rfl,Maps.size_put (qf6 r),qgr];rw[Oq,Yw];by_cases h:x∈r
  . rw[Yy ((qdg _ _).2 h)]
    exact⟨by omega,⟨fun hc=>by omega,fun hc=>absurd h hc.1⟩⟩
  . rw[Yu (by rw[qi3 h];simp)]
    exact⟨by omega,⟨fun hc=>⟨h,ih.2.1 (by omega)⟩,fun hc=>by rw[ih.2.2 hc.2]⟩⟩
theorem has_mp (l:List ByteArray)(x:ByteArray):Maps.has (mp l) (kl x)=memB x l:=by
 unfold mp
 rw[qgr,Zn,qdg,qdg]
 simp
theorem qjg (l:List ByteArray):Maps.size (mp l)<=l.length/\(Maps.size (mp l)=l.length ↔ l.Nodup):=by
 unfold mp
 have h:=qet l.reverse
 rw[Y6]at h
 exact⟨h.1,h.2.trans ⟨fun x=>by simpa using (List.Perm.nodup_iff (List.reverse_perm l)).1 x,fun x=>(List.Perm.nodup_iff (List.reverse_perm l)).2 x⟩⟩
end Go.Proofs.YtebbgodlijlioaaGreatDoor
namespace Go.Proofs.YtebbgodlijlioaaGreatDoor
open Go Go.RowKit
def PMap (w:World)(b:Nat)(l:List ByteArray):Prop:=w.ownsMap Tryz.prog 9 (plainElem (H:=Unit) Tryz.prog 3) b l.length (mp l)
theorem PMap.mono {w w':World}{b:Nat}{l:List ByteArray}(h:PMap w b l)(hb:Below w.heap.size w w'):PMap w' b l:=by
 have hlt:=World.ownsMap.lt h
 obtain⟨es,clock,h1,F,hs,hD⟩:=h
 exact⟨es,clock,(hb.block b hlt).trans h1,F,hs,hD⟩
theorem wf_nat {k:Nat}(h:k<=9223372036854775807):(Lit.int .i64 (k:Int)).wf=true:=by
 unfold Lit.wf
 rw[Yp,Yq,Yq]
 have h1:IntKind.i64.min = -9223372036854775808:=by decide
 have h2:IntKind.i64.max=9223372036854775807:=by decide
 omega
theorem q0v (m:Fm)(A:MA)(w:World)(hf:FitM m) :
 Calls Tryz.prog 109 #[mV m A] w fun r w'=>r=.returned (.bool (decide (m.L.length<=32/\m.P.length<=256/\m.R.length<=64/\m.F.length<=200)))/\Below w.heap.size w w':=by
 obtain⟨al,alc,ap,apc,ar,arc,af,afc,afa⟩:=A
 unfold mV
 dsimp only
 have HK:=h_ (Blk.new w 28 (#[.slice al m.L.length alc,.slice ap m.P.length apc,.slice ar m.R.length arc,.slice af m.F.length afc]))
 have HB:=h_ ((bR w.heap.size w).alloc (nR _) (.cells (#[.slice al m.L.length alc,.slice ap m.P.length apc,.slice ar m.R.length arc,.slice af m.F.length afc]) 28))
 obtain⟨W0,hW0⟩:=Nq (w.alloc (.cells (#[.slice al m.L.length alc,.slice ap m.P.length apc,.slice ar m.R.length arc,.slice af m.F.length afc]) 28))
 rw[hW0]at HK HB
 obtain⟨y0,y1,y2,y3⟩:=quad HK.u
 have h1:=hf.ll;have h2:=hf.pl;have h3:=hf.rl;have h4:=hf.fl
 generalize m.L.length=n1 at *
 generalize m.P.length=n2 at *
 generalize m.R.length=n3 at *
 generalize m.F.length=n4 at *
 clear hf
 by_cases g1:(n1:Int)<=32
 . by_cases g2:(n2:Int)<=256
   . by_cases g3:(n3:Int)<=64
     . by_cases g4:(n4:Int)<=200
       . have HX:Hi (decide (n1<=32/\n2<=256/\n3<=64/\n4<=200)=true):=h_ (Ym (by omega))
         generalize decide (n1<=32/\n2<=256/\n3<=64/\n4<=200)=q at *;go_enter Tryz.func109,Tryz.ntmps109;go_wp2_with fail;go_ret;exact⟨qe9 HX.u.symm,HB.u⟩
       . have HX:Hi (decide (n1<=32/\n2<=256/\n3<=64/\n4<=200)=false):=h_ (Yi (by omega))
         generalize decide (n1<=32/\n2<=256/\n3<=64/\n4<=200)=q at *;go_enter Tryz.func109,Tryz.ntmps109;go_wp2_with fail;go_ret;exact⟨qe9 HX.u.symm,HB.u⟩
     . have HX:Hi (decide (n1<=32/\n2<=256/\n3<=64/\n4<=200)=false):=h_ (Yi (by omega))
       generalize decide (n1<=32/\n2<=256/\n3<=64/\n4<=200)=q at *;go_enter Tryz.func109,Tryz.ntmps109;go_wp2_with fail;go_ret;exact⟨qe9 HX.u.symm,HB.u⟩
   . have HX:Hi (decide (n1<=32/\n2<=256/\n3<=64/\n4<=200)=false):=h_ (Yi (by omega))
     generalize decide (n1<=32/\n2<=256/\n3<=64/\n4<=200)=q at *;go_enter Tryz.func109,Tryz.ntmps109;go_wp2_with fail;go_ret;exact⟨qe9 HX.u.symm,HB.u⟩
 . have HX:Hi (decide (n1<=32/\n2<=256/\n3<=64/\n4<=200)=false):=h_ (Yi (by omega))
   generalize decide (n1<=32/\n2<=256/\n3<=64/\n4<=200)=q at *;go_enter Tryz.func109,Tryz.ntmps109;go_wp2_with fail;go_ret;exact⟨qe9 HX.u.symm,HB.u⟩
theorem q45 (a:Option Addr)(c:Nat)(l:List ByteArray)(w:World)(hl:l.length<=1000000)(hs:∀x,x∈l->x.size<=9223372036854775807)(ha:Strs w a l) :
 Calls Tryz.prog 45 #[.slice a l.length c] w fun r w'=>r=.returned (.map (some w.heap.size))/\PMap w' w.heap.size l/\Below w.heap.size w w':=by
 have HA:=h_ ha;have HS:=h_ hs
 have HM:Hi ((w.alloc (.map #[] 0)).ownsMap Tryz.prog 9 (plainElem (H:=Unit) Tryz.prog 3) w.heap.size 0 (mp (l.take 0))):=h_ (World.ownsMap_made _ _ _ _)
 clear ha hs
 obtain⟨n,hn⟩:=Nq l.length
 rw[hn]at hl⊢
 have HN:=h_ hn
 clear hn
 have hmm:=@run_makeMap Tryz.prog
 go_enter Tryz.func45,Tryz.ntmps45
 go_wp2_with fail
 clear hmm
 go_loopw [9] (fun i wr=>∃k:Nat,k<=n/\i=J9 k/\wr.ownsMap Tryz.prog 9 (plainElem (H:=Unit) Tryz.prog 3) w.heap.size k (mp (l.take k))/\Below w.heap.size w wr) (fun i _=>n - (intOf i).toNat)
 case atStart=>exact⟨0,nZ _,rfl,HM.u,(bR _ _).alloc (nR _) _⟩
 case round =>
  clear HM;obtain⟨k,hk,rfl,hown,hb⟩:=hrel;have HO:=h_ hown;have HB:=h_ hb;have HAr:=h_ (HA.u.mono hb);clear hown hb;by_cases hlt:k<n
  . have hlt':(k:Int)<n:=by omega
    have hkl:k<l.length:=(by have:=HN.u;omega);obtain⟨b,o,rfl,-,z0⟩:=HAr.u k hkl;have HT:Hi (mp (l.take (k+1))=(mp (l.take k)).put (kl l[k]) (.lit (.int .i64 (k:Int)))):=h_ (by
     rw[Yr hkl,qi9,Y3,Oo (by omega)])
    have hkey:keyOf Tryz.prog 9 (.string l[k])=some (kl l[k]):=WideMaps.keyOf_string_mk Tryz.underlying9 (HS.u _ (Yk hkl));have HKy:=h_ hkey;clear hkey;generalize l[k]=x at *;go_wp2_with (at_mapUpdate;refine wpList_mapUpdate_own _ rfl _ _ _ 54 rfl 9 3 (Maps.string_keyed Tryz.underlying9) Tryz.underlying54 _ w.heap.size k _ rfl HO.u (by unfold maxLen;omega) _ _ _ rfl rfl HKy.u _ [] (plainElem_int Tryz.underlying3 (wf_nat (by omega))) ?_);intro w1 hown1 hgrow1;have HO1:Hi (w1.ownsMap Tryz.prog 9 (plainElem (H:=Unit) Tryz.prog 3) w.heap.size (k+1) (mp (l.take (k+1)))):=h_ (by rw[HT.u];exact hown1);have HB1:Hi (Below w.heap.size w w1):=h_ (HB.u.grown hgrow1 HB.u.size (fun j hj=>by cases hj;exact nR _));clear hown1 hgrow1;go_wp2_with fail;go_roundw
    case rel=>first | exact⟨k+1,by omega,by go_num,HO1.u,HB1.u⟩ | ((repeat apply Exists.intro);exact⟨⟨k+1,by omega,by go_num,HO1.u,HB1.u⟩,rfl⟩)
    case measure=>simp[intOf];omega
  . obtain rfl:k=n:=by omega
    have hlt':¬ (k:Int)<(k:Int):=(by omega);have HO2:Hi (PMap wr w.heap.size l):=h_ (by
     have h:=HO.u;have hn:=HN.u;rw[Zh (by omega)]at h;unfold PMap;rw[hn];exact h)
    go_wp2_with fail;go_ret;exact⟨rfl,HO2.u,HB.u⟩
theorem q01 (a:Option Addr)(c:Nat)(l:List ByteArray)(w:World)(hl:l.length<=1000000)(hs:∀x,x∈l->x.size<=9223372036854775807)(ha:Strs w a l) :
 Calls Tryz.prog 167 #[.slice a l.length c] w fun r w'=>r=.returned (.bool (decide l.Nodup))/\Below w.heap.size w w':=by
 have HC:=h_ (q45 a c l w hl hs ha)
 have HS:=h_ (qjg l)
 clear ha hs
 obtain⟨n,hn⟩:=Nq l.length
 rw[hn]at hl HC HS⊢
 have HN:=h_ hn
 clear hn
 go_enter Tryz.func167,Tryz.ntmps167
 go_wp2_with fail
 refine HC.u.mono ?_
 rintro r W1 ⟨rfl,hm,hb⟩
 have HM:=h_ hm;have HB:=h_ hb
 clear hm hb
 obtain⟨q,hq⟩:=Nq (Maps.size (mp l))
 have hq1:=HS.u.1
 rw[hq]at hq1
 have HQ:Hi (decide l.Nodup=((q:Int)==(n:Int))):=h_ (by
  have h:=HS.u.2;rw[hq]at h;by_cases e:q=n
  . rw[Ym (h.1 e),e];simp
  . rw[Yi (fun c=>e (h.2 c))]
    exact(Yf.2 (by omega)).symm)
 go_wp2_with (at_len;refine wpList_len_own _ rfl _ 54 rfl 9 3 Tryz.underlying54 _ w.heap.size l.length (mp l) rfl HM.u ?_;rw[hq];clear hq)
 go_ret
 exact⟨qe9 HQ.u.symm,HB.u⟩
theorem q0j (a:Option Addr)(c:Nat)(l:List ByteArray)(w:World)(hl:l.length<=1000000)(hs:∀x,x∈l->x.size<=9223372036854775807)(ha:Strs w a l) :
 Calls Tryz.prog 141 #[.slice a l.length c] w fun r w'=>r=.returned (.bool (namesOk l))/\Below w.heap.size w w':=by
 have HA:=h_ ha;have HS:=h_ hs
 have HE:Hi (namesOk l=(l.all goodN&&decide l.Nodup)):=h_ rfl
 clear ha hs
 obtain⟨n,hn⟩:=Nq l.length
 generalize namesOk l=q at *
 have HL:Hi (l.length<=1000000):=h_ hl
 rw[hn]at hl⊢
 have HN:=h_ hn
 clear hn
 go_enter Tryz.func141,Tryz.ntmps141
 go_wp2_with fail
 go_loopw [7] (fun i wr=>∃k:Nat,k<=n/\i=J9 k/\(∀j (h:j<l.length),j<k->goodN l[j]=true)/\Below w.heap.size w wr) (fun i _=>n - (intOf i).toNat)
 case atStart=>exact⟨0,nZ _,rfl,fun j _ hj=>absurd hj (nL _),bR _ _⟩
 case round =>
  obtain⟨k,hk,rfl,hall,hb⟩:=hrel;have HLl:=h_ hall;have HB0:=h_ hb;replace HA:=h_ (HA.u.mono hb);clear hall hb;by_cases hlt:k<n
  . have hlt':(k:Int)<n:=by omega
    have hkl:k<l.length:=(by have:=HN.u;omega);obtain⟨b,o,rfl,-,z0⟩:=HA.u k hkl;have HC:=h_ (q1l l[k] wr (HS.u _ (Yk hkl)));have HF:Hi (goodN l[k]=false->q=false):=h_ fun h=>by
     rw[HE.u,show l.all goodN=false from Vc.2 ⟨l[k],Yk hkl,by simp[h]⟩];rfl
    have HG:Hi (goodN l[k]=true->∀j (h:j<l.length),j<k+1->goodN l[j]=true):=h_ fun h j hj hjk=>by
     by_cases ej:j=k
     . subst ej;exact h
     . exact HLl.u j hj (by omega)
    generalize l[k]=x at *;generalize goodN x=g at *;cases g
    . have HX:=h_ (HF.u rfl)
      go_wp2_with fail;refine HC.u.mono ?_;rintro r w1 ⟨rfl,hw⟩;replace hw:=hw.symm;subst hw;go_wp2_with fail;go_ret;exact⟨qe9 HX.u.symm,HB0.u⟩
    . have HX:=h_ (HG.u rfl)
      go_wp2_with fail;refine HC.u.mono ?_;rintro r w1 ⟨rfl,hw⟩;replace hw:=hw.symm;subst hw;go_wp2_with fail;go_roundw
      case rel=>first | exact⟨k+1,by omega,by go_num,HX.u,HB0.u⟩ | ((repeat apply Exists.intro);exact⟨⟨k+1,by omega,by go_num,HX.u,HB0.u⟩,rfl⟩)
      case measure=>simp[intOf];omega
  . obtain rfl:k=n:=by omega
    have hlt':¬ (k:Int)<(k:Int):=(by omega);have HX:Hi (q=decide l.Nodup):=h_ (by
     rw[HE.u,show l.all goodN=true from Y4.2 fun x hx=>by
      obtain⟨j,hj,rfl⟩:=Y2.1 hx;exact HLl.u j hj (by have:=HN.u;omega)]
     rfl)
    have HC:Hi (Calls Tryz.prog 167 #[.slice a k c] wr fun r w'=>r=.returned (.bool (decide l.Nodup))/\Below wr.heap.size wr w'):=h_ (by
     have h:=q01 a c l wr HL.u HS.u HA.u;rw[HN.u]at h;exact h)
    generalize decide l.Nodup=d at *;go_wp2_with fail;refine HC.u.mono ?_;rintro r w1 ⟨rfl,hb⟩;have HB:=mT HB0 hb;clear hb;go_wp2_with fail;go_ret;exact⟨qe9 HX.u.symm,HB.u⟩
end Go.Proofs.YtebbgodlijlioaaGreatDoor
