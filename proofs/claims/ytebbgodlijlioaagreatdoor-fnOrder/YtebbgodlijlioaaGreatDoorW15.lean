import Derived.Test.YtebbgodlijlioaaGreatDoorW13
import Derived.Test.YtebbgodlijlioaaGreatDoorW09
import Derived.Deep.DeepCutAuto
set_option maxRecDepth 100000
set_option maxHeartbeats 64000000
namespace Go.Proofs.YtebbgodlijlioaaGreatDoor
open Go Go.RowKit
def nC (n:Nx):List Value:=[.int .i64 n.op,.int .i64 n.v.k,.int .i64 n.v.n,.string n.v.s,.string n.nm]
def nodV (l:List Nx):List Value:=l.flatMap nC
theorem qf7 (l:List Nx):(nodV l).length=l.length*5:=by
 induction l with
 | nil=>rfl
 | cons p r ih=>simp only[nodV,Z5,Yg,nC,Ys,Y4]at *;omega
theorem qf5 (l r:List Nx):nodV (l++r)=nodV l++nodV r:=by simp[nodV]
theorem qf6 {l:List Nx}{k p:Nat}(hk:k<l.length)(hp:p<5):(nodV l)[k*5+p]? = (nC l[k])[p]?:=by
 induction l generalizing k with
 | nil=>cases hk
 | cons x r ih =>
  cases k with
  | zero =>
   rw[show nodV (x :: r)=nC x++nodV r from rfl,Nat.zero_mul,Zj,Vu (by simp[nC];omega)];rfl
  | succ k =>
   rw[show nodV (x :: r)=nC x++nodV r from rfl,List.getElem?_append_right (by simp[nC];omega)];have:=ih (k:=k) (by simpa using hk);rw[show(k+1)*5+p - (nC x).length=k*5+p by simp[nC];omega];simpa using this
def OwnN (w:World)(base:Nat)(v:Value)(l:List Nx):Prop:=w.ownsRow base 96 5 v l.length (nodV l)
theorem OwnN.keep {w w':World}{base:Nat}{v:Value}{l:List Nx}(h:OwnN w base v l)(hb:Below w.heap.size w w'):OwnN w' base v l :=
 World.ownsRow.kept (row:=none) h ⟨hb.os,hb.tape,hb.output,hb.size,fun k hk _=>hb.block k hk⟩ (Classical.em _)
theorem OwnN.low {w:World}{base base':Nat}{v:Value}{l:List Nx}(h:OwnN w base v l)(hb:base'<=base):OwnN w base' v l:=by
 refine⟨h.1,?_⟩
 rcases h.2 with h2 | ⟨g,cap,cur,h1,hg,r⟩
 . exact .inl h2
 . exact .inr ⟨g,cap,cur,h1,Yv hb hg,r⟩
theorem OwnN.none (w:World):OwnN (w.alloc (.cells #[] 96)) w.heap.size (.slice (some ⟨w.heap.size,0,.none⟩) 0 0) [] :=
 ⟨rfl,.inr ⟨w.heap.size,0,#[],rfl,nR _,heap_alloc_new w (.cells #[] 96),nR _,nZ _,rfl,rfl⟩⟩
theorem OwnN.nods {w:World}{base:Nat}{v:Value}{l:List Nx}(h:OwnN w base v l):∃a c,v=.slice a l.length c/\NodL w a l:=by
 rcases h.2 with ⟨e,h0⟩ | ⟨g,cap,cur,e,hg,hq,h4,h5,h6,h7⟩
 . exact⟨.none,0,by rw[e,h0],fun k hk=>by omega⟩
 . have hb:Blk w g 96 cur.toList:=by
    show w.heap[g]? = _;rw[hq]
   refine⟨some ⟨g,0,.none⟩,cap,e,fun k hk=>⟨g,0,rfl,?_⟩⟩;have hc:∀p,p<5->w.cell? ⟨g,k*5+p,.none⟩=(nC l[k])[p]?:=fun p hp=>by
    rw[hb.cell,<- qf6 hk hp,<- h7,Vw (by omega)]
   rw[Zj,nf_get l k hk];exact⟨hb.lt,hc 0 (by omega),hc 1 (by omega),hc 2 (by omega),hc 3 (by omega),hc 4 (by omega)⟩
theorem qj2:(Tryz.prog.info? 96).map (fun i=>(i.zero,i.size,i.bytes))=some (some (.agg #[J9 0,J9 0,J9 0,Yb,Yb]),5,56):=by kernel_rfl
theorem q4k {ops:Array Oper}{rest:List Oper}{o:Oper}{a:Act}{Q:Exit->Act->World->Prop}{w:World}(hgd:o.guard=.none)(s x:Operand)
 (ho:o.op=.call { callee:=.builtin .append,args:=#[s,x],argTypes:=#[40,40] }) {base:Nat} {v:Value} {l:List Nx} (hs:a.eval s=v) (hown:OwnN w base v l)
 {g:Nat} {n:Nx} (hx:a.eval x=.slice (some ⟨g,0,.none⟩) 1 1) (hc:Blk w g 96 (nC n)) (hl:l.length+1<=2097152) (hbase:base<=w.heap.size)
 (h:∀v' w',OwnN w' base v' (l++[n])->Below base w w'->wpList Tryz.prog ops Q rest (a.put o.dst v') w'):wpList Tryz.prog ops Q (o :: rest) a w:=by
 obtain⟨i0,hi,hz0,hz1,hz2⟩:=info_parts qj2
 refine wpList_append_own w hgd s x 40 ho base 96 i0 _ 5 56 Tryz.underlying40 hi hz0 hz1 hz2 rfl (by omega) _ _ _ hs hown ⟨g,0,.none⟩ 1 1 (nC n) hx rfl (fun j v hj=>by rw[show(⟨g,0,.none⟩:Addr).add j=⟨g,j,.none⟩ by simp[Addr.add];try exact fun h=>h.symm];exact(hc.cell j).trans hj) (by simp[nC,Value.oneCell']) (by unfold maxLen;omega) (by omega) hbase ?_
 intro v' W9 ho hgr _
 refine h v' W9 ?_ ((bR base w).grown hgr hbase (fun q e=>q8q hown e))
 unfold OwnN
 rw[qf5,Yg]
 simpa [nodV] using ho
theorem q81 (a b:Option Addr)(ca cb:Nat)(la lb:List Nx)(w:World)(hl:la.length+lb.length<=1048576)(ha:NodL w a la)(hb:NodL w b lb) :
 Calls Tryz.prog 139 #[.slice a la.length ca,.slice b lb.length cb] w fun r w'=>∃v,r=.returned v/\OwnN w' w.heap.size v (la++lb)/\Below w.heap.size w w':=by
 have HB0:=h_ ((bR w.heap.size w).alloc (nR _) (.cells #[] 96))
 have HO0:=h_ (OwnN.none w)
 have HA:=h_ ha;have HC:=h_ hb
 clear ha hb
 obtain⟨W0,hW0⟩:=Nq (w.alloc (.cells #[] 96))
 rw[hW0]at HB0 HO0
 go_enter Tryz.func139,Tryz.ntmps139
 go_wp2_with fail
 try rw[hW0]
 clear hW0
 go_loopw [5,6] (fun v i wr=>∃k:Nat,k<=la.length/\i=J9 k/\OwnN wr w.heap.size v (la.take k)/\Below w.heap.size w wr) (fun _ i _=>la.length - (intOf i).toNat)
 case atStart=>exact⟨0,nZ _,rfl,HO0.u,HB0.u⟩
 case round =>
  clear HO0 HB0;obtain⟨k,hk,rfl,ho,hb⟩:=hrel;have HO:=h_ ho;have HB:=h_ hb;have HV:=h_ (HA.u.mono hb);have HW:=h_ (HC.u.mono hb);clear ho hb;by_cases hlt:k<la.length
  . have hlt':(k:Int)<la.length:=by omega
    have HT:Hi (la.take (k+1)=la.take k++[la[k]]):=h_ (Yq hlt);obtain⟨bb,oo,rfl,-,c0,c1,c2,c3,c4⟩:=HV.u k hlt;rw[nf_get la k hlt]at c0 c1 c2 c3 c4;generalize la[k]=n at *;have HN:Hi (Blk _ _ 96 (nC n)):=h_ (Blk.new wr 96 (nC n).toArray);have HS:=h_ ((bR wr.heap.size wr).alloc (nR _) (.cells (nC n).toArray 96));go_wp2_with (at_builtin;refine q4k rfl _ _ rfl rfl (HO.u.keep HS.u) rfl HN.u (by rw[Y6];omega) (Yv HB.u.size HS.u.size) ?_);intro v' W9 ho hb9;have HO9:=h_ ho;rw[<- HT.u]at HO9;have HB9:=h_ (HB.u.trans ((HS.u.mono HB.u.size).trans hb9));clear ho hb9 c0 c1 c2 c3 c4;go_wp2_with fail;go_roundw
    case rel=>exact⟨k+1,by omega,by go_num,HO9.u,HB9.u⟩
    case measure=>simp[intOf];omega
  . obtain rfl:k=la.length:=by omega
    have hlt':¬ (la.length:Int)<la.length:=(by omega);rw[Zm]at HO;go_wp2_with fail;go_loopw [5,7] (fun v i wr=>∃k:Nat,k<=lb.length/\i=J9 k/\OwnN wr w.heap.size v (la++lb.take k)/\Below w.heap.size w wr) (fun _ i _=>lb.length - (intOf i).toNat)
    case atStart=>exact⟨0,nZ _,rfl,by rw[List.take_zero,Zz];exact HO.u,HB.u⟩
    case round =>
     clear HO HB HV HW hlt hlt' hk;obtain⟨k,hk,rfl,ho,hb⟩:=hrel;have HO:=h_ ho;have HB:=h_ hb;have HW:=h_ (HC.u.mono hb);clear ho hb;by_cases hlt:k<lb.length
     . have hlt':(k:Int)<lb.length:=by omega
       have HT:Hi (la++lb.take (k+1)=la++(lb.take k++[lb[k]])):=h_ (by rw[Yq hlt]);obtain⟨bb,oo,rfl,-,c0,c1,c2,c3,c4⟩:=HW.u k hlt;rw[nf_get lb k hlt]at c0 c1 c2 c3 c4;generalize lb[k]=n at *
       rename World=>wr
       have HN:Hi (Blk _ _ 96 (nC n)):=h_ (Blk.new wr 96 (nC n).toArray);have HS:=h_ ((bR wr.heap.size wr).alloc (nR _) (.cells (nC n).toArray 96));go_wp2_with (at_builtin;refine q4k rfl _ _ rfl rfl (HO.u.keep HS.u) rfl HN.u (by rw[Yg,Y6];omega) (Yv HB.u.size HS.u.size) ?_);intro v' W9 ho hb9;have HO9:=h_ ho;rw[<- HT.u]at HO9;have HB9:=h_ (HB.u.trans ((HS.u.mono HB.u.size).trans hb9));clear ho hb9 c0 c1 c2 c3 c4;go_wp2_with fail;go_roundw
       case rel=>exact⟨k+1,by omega,by go_num,HO9.u,HB9.u⟩
       case measure=>simp[intOf];omega
     . obtain rfl:k=lb.length:=by omega
       have hlt':¬ (lb.length:Int)<lb.length:=(by omega);rw[Zm]at HO;go_wp2_with fail;go_ret;exact⟨_,rfl,HO.u,HB.u⟩
theorem OwnN.lone (w:World)(n:Nx):OwnN (w.alloc (.cells (Jd n) 96)) w.heap.size (.slice (some ⟨w.heap.size,0,.none⟩) 1 1) [n] :=
 ⟨rfl,.inr ⟨w.heap.size,1,_,rfl,nR _,heap_alloc_new w (.cells (Jd n) 96),nR _,by unfold maxLen;omega,rfl,rfl⟩⟩
theorem qf8 {l:List Nx}{k p:Nat}(hk:k<l.length)(hp:p<5){n:Nx}{x:Value}(hn:nC n=(nC l[k]).set p x):nodV (l.set k n)=(nodV l).set (k*5+p) x:=by
 induction l generalizing k with
 | nil=>cases hk
 | cons y r ih =>
  cases k with
  | zero =>
   rw[Yd,show nodV (n :: r)=nC n++nodV r from rfl,show nodV (y :: r)=nC y++nodV r from rfl,List.set_append_left _ _ (by simp[nC];omega),hn];simp
  | succ k =>
   have:=ih (k:=k) (by simpa using hk) (by simpa using hn);rw[Ye,show nodV (y :: r.set k n)=nC y++nodV (r.set k n) from rfl,show nodV (y :: r)=nC y++nodV r from rfl,this,List.set_append_right _ _ (by simp[nC];omega)];rw[show(k+1)*5+p - (nC y).length=k*5+p by simp[nC];omega]
theorem OwnN.put {w:World}{base:Nat}{v:Value}{l:List Nx}(h:OwnN w base v l)(h0:0<l.length):∃g c,v=.slice (some ⟨g,0,.none⟩) l.length c/\base<=g/\g<w.heap.size/\(∀j,j<l.length*5->(∃u,w.cell? ⟨g,j,.none⟩=some u)/\w.frozen? ⟨g,j,.none⟩=false) /\
 (∀k,k<l.length->w.cell? ⟨g,k*5,.none⟩=some (J9 (nf l k).op)/\w.cell? ⟨g,k*5+4,.none⟩=some (.string (nf l k).nm)) /\
 ∀(k p:Nat) (hk:k<l.length) (_:p<5) (n:Nx) (x:Value),nC n=(nC l[k]).set p x->OwnN (w.setCell ⟨g,k*5+p,.none⟩ x) base v (l.set k n):=by
 rcases h.2 with ⟨e,h'⟩ | ⟨g,cap,cur,e,hg,hq,h4,h5,h6,h7⟩
 . omega
 . have hb:Blk w g 96 cur.toList:=by
    show w.heap[g]? = _;rw[hq]
   have hc:∀k p,(hk:k<l.length)->p<5->w.cell? ⟨g,k*5+p,.none⟩=(nC l[k])[p]?:=fun k p hk hp=>by
    rw[hb.cell,<- qf6 hk hp,<- h7,Vw (by omega)]
   refine⟨g,cap,e,hg,hb.lt,fun j hj=>⟨?_,hb.free j⟩,fun k hk=>?_,fun k p hk hp n x hn=>?_⟩
   . have:j<cur.toList.length:=by rw[Array.length_toList,h6];omega
     exact⟨cur.toList[j],by rw[hb.cell,Yi this]⟩
   . rw[nf_get l k hk]
     exact⟨hc k 0 hk (by omega),hc k 4 hk (by omega)⟩
   . have hs:=hb.set (k*5+p) x
     refine⟨by rw[qf7],.inr ⟨g,cap,(cur.toList.set (k*5+p) x).toArray,by rw[Vd];exact e,hg,hs,by rw[Vd];exact h4,h5,by simp[h6],?_⟩⟩;rw[qf8 hk hp hn,<- h7,Vd,List.take_set]
variable (K:Int->List ByteArray)
def nms (kind:Int):List ByteArray:=if kind=1 then K 1 else if kind=2 then K 2 else K 3
def PkOk:Prop:=∀kind,(nms K kind).length<=1000/\∀x,x∈nms K kind->x.size<=64
def PickV (w:World)(v:Value):Prop:=∃x1 n1 k1 x2 n2 k2 x3 n3 k3,v=.agg #[.slice x1 n1 k1,.slice x2 n2 k2,.slice x3 n3 k3]/\(n1=(K 1).length/\Strs w x1 (K 1))/\(n2=(K 2).length/\Strs w x2 (K 2))/\n3=(K 3).length/\Strs w x3 (K 3)
theorem PickV.mono {K:Int->List ByteArray}{w w':World}{v:Value}(h:PickV K w v)(hb:Below w.heap.size w w'):PickV K w' v:=by
 obtain⟨x1,n1,k1,x2,n2,k2,x3,n3,k3,e,h1,h2,h3⟩:=h
 exact⟨x1,n1,k1,x2,n2,k2,x3,n3,k3,e,⟨h1.1,h1.2.mono hb⟩,⟨h2.1,h2.2.mono hb⟩,h3.1,h3.2.mono hb⟩
def FitS (n:Nx):Prop:=n.v.s.size<=1000/\n.nm.size<=64/\(0<=n.op/\n.op<=25)/\-9223372036854775808<=n.v.n/\n.v.n<=9223372036854775807
theorem FitS.cst (k n:Int){s:ByteArray}(hs:s.size<=1000)(h1:-9223372036854775808<=n)(h2:n<=9223372036854775807):FitS ⟨0,⟨k,n,s⟩,⟨#[]⟩⟩:=⟨hs,nZ _,⟨Int.le_refl 0,(by omega:(0:Int)<=25)⟩,h1,h2⟩
theorem FitS.fld {x:ByteArray}(h:x.size<=64):FitS ⟨1,⟨0,0,⟨#[]⟩⟩,x⟩:=⟨nZ _,h,⟨(by omega:(0:Int)<=1),(by omega:(1:Int)<=25)⟩,(by omega:(-9223372036854775808:Int)<=0),(by omega:(0:Int)<=9223372036854775807)⟩
theorem FitS.opn {op:Int}(h1:0<=op)(h2:op<=25):FitS ⟨op,⟨0,0,⟨#[]⟩⟩,⟨#[]⟩⟩:=⟨nZ _,nZ _,⟨h1,h2⟩,(by omega:(-9223372036854775808:Int)<=0),(by omega:(0:Int)<=9223372036854775807)⟩
theorem q3v (a b c:Option Addr)(n1 n2 n3 k1 k2 k3:Nat)(kind:Int)(w:World) :
 Calls Tryz.prog 162 #[.agg (Jk a n1 k1 b n2 k2 c n3 k3),J9 kind] w fun e w'=>e=.returned (if kind=1 then .slice a n1 k1 else if kind=2 then .slice b n2 k2 else .slice c n3 k3)/\Below w.heap.size w w':=by
 have hB:∀o,Below w.heap.size w (w.alloc o):=fun o=>(bR _ w).alloc (nR _) o
 have HB:=h_ hB;clear hB
 by_cases h1:kind=1
 . subst h1
   go_enter Tryz.func162,Tryz.ntmps162;go_wp2;go_ret;exact⟨rfl,HB.u _⟩
 . by_cases h2:kind=2
   . subst h2
     go_enter Tryz.func162,Tryz.ntmps162;go_wp2;go_ret;exact⟨rfl,HB.u _⟩
   . rw[Yt h1,Yt h2]
     go_enter Tryz.func162,Tryz.ntmps162;go_wp2;go_ret;exact⟨rfl,HB.u _⟩
theorem qku {K:Int->List ByteArray}{w:World}{a b c:Option Addr}{n1 n2 n3:Nat}(k1 k2 k3:Nat)(e1:n1=(K 1).length)(h1:Strs w a (K 1))(e2:n2=(K 2).length)(h2:Strs w b (K 2))(e3:n3=(K 3).length)(h3:Strs w c (K 3))(kind:Int):∃x y,(if kind=1 then Value.slice a n1 k1 else if kind=2 then .slice b n2 k2 else .slice c n3 k3)=.slice x (nms K kind).length y/\Strs w x (nms K kind):=by
 subst e1 e2 e3
 unfold nms
 split
 . exact⟨a,k1,rfl,h1⟩
 . split
   . exact⟨b,k2,rfl,h2⟩
   . exact⟨c,k3,rfl,h3⟩
def DrawOut (w:World)(l:List Nx)(q:Nat)(e:Ending)(w':World):Prop:=∃v,e=.returned (.tuple #[v,.int .i64 q])/\OwnN w' w.heap.size v l/\Below w.heap.size w w'
theorem qdr {w w':World}{n:Nx}{q:Nat}{z:Int}(hb:Below w.heap.size w w')(hz:z=q):DrawOut w [n] q (.returned (.tuple #[.slice (some ⟨w'.heap.size,0,none⟩) 1 1,J9 z])) (w'.alloc (.cells (Jd n) 96)) :=
 ⟨_,by rw[hz],(OwnN.lone w' n).low hb.size,hb.alloc hb.size _⟩
def LeafX (len:Nat)(f:Nat->Nat)(p:Nat)(kind:Int)(n:Nx)(q:Nat):Prop :=
 (tkD len f p 8<6/\q=p+2/\∃(B:Nat) (h:B<(nms K kind).length),tkD len f (p+1) (nms K kind).length=B/\n=⟨1,⟨0,0,⟨#[]⟩⟩,(nms K kind)[B]⟩) ∨
 (tkD len f p 8=7/\q=p+1/\n=⟨0,⟨0,0,⟨#[]⟩⟩,⟨#[]⟩⟩) ∨
 ((tkD len f p 8=6∨(tkD len f p 8<6/\(nms K kind).length=0))/\q=p+2/\∃B:Nat,tkD len f (p+1) 256=B/\B<256 /\
  ((kind=1/\∃x:Int,(-9223372036854775808<=x/\x<=9223372036854775807)/\(∀w:World,Calls Tryz.prog 164 #[J9 ((B:Int) % 14)] w fun e w'=>e=.returned (J9 x)/\w'=w)/\∃z:Int,((x<0/\z=B)∨(¬ x<0/\z=x))/\n=⟨0,⟨1,z,⟨#[]⟩⟩,⟨#[]⟩⟩) ∨
   (kind=2/\∃(t:Bool) (z:Int),(((B:Int) % 3 != 0)=t)/\(if t=true then 1 else 0)=z/\(0<=z/\z<=1)/\n=⟨0,⟨2,z,⟨#[]⟩⟩,⟨#[]⟩⟩) ∨
   (kind=3/\∃s:ByteArray,s.size<=64/\(∀w:World,Calls Tryz.prog 105 #[J9 ((B:Int) % 12)] w fun e w'=>e=.returned (.string s)/\w'=w)/\n=⟨0,⟨3,0,s⟩,⟨#[]⟩⟩)))
theorem qjm (hK:PkOk K)(len:Nat)(f:Nat->Nat)(hlen:len<=1048576)(p:Nat)(hp:p<=1000000)(kind:Int)(hk:kind=1∨kind=2∨kind=3):∃n q,LeafX K len f p kind n q/\FitS n/\p<=q/\q<=p+2:=by
 have hA8:tkD len f p 8<8:=tk_lt hlen (by omega) (by omega) (by omega)
 by_cases h6:tkD len f p 8<6/\0<(nms K kind).length
 . have hL:=(hK kind).1
   have hB:tkD len f (p+1) (nms K kind).length<(nms K kind).length:=tk_lt hlen (by omega) (by omega) (by omega);exact⟨_,p+2,.inl ⟨h6.1,rfl,_,hB,rfl,rfl⟩,FitS.fld ((hK kind).2 _ (Yk _)),by omega,by omega⟩
 by_cases h7:tkD len f p 8=7
 . exact⟨_,p+1,.inr (.inl ⟨h7,rfl,rfl⟩),FitS.cst _ _ (nZ _) (by omega) (by omega),by omega,by omega⟩
 have hB:tkD len f (p+1) 256<256:=tk_lt hlen (by omega) (by omega) (by omega)
 have hz6:tkD len f p 8=6∨(tkD len f p 8<6/\(nms K kind).length=0):=by
  by_cases e:tkD len f p 8<6
  . exact .inr ⟨e,by omega⟩
  . exact .inl (by omega)
 rcases hk with rfl | rfl | rfl
 . obtain⟨x,hx,hc⟩:=q3q ((tkD len f (p+1) 256:Nat) % 14)
   by_cases hx0:x<0
   . exact⟨_,p+2,.inr (.inr ⟨hz6,rfl,_,rfl,hB,.inl ⟨rfl,x,hx,hc,_,.inl ⟨hx0,rfl⟩,rfl⟩⟩),FitS.cst _ _ (nZ _) (by omega) (by omega),by omega,by omega⟩
   . exact⟨_,p+2,.inr (.inr ⟨hz6,rfl,_,rfl,hB,.inl ⟨rfl,x,hx,hc,_,.inr ⟨hx0,rfl⟩,rfl⟩⟩),FitS.cst _ _ (nZ _) (by omega) (by omega),by omega,by omega⟩
 . obtain⟨t,ht⟩:=Nq ((((tkD len f (p+1) 256:Nat):Int) % 3 != 0))
   obtain⟨z,hz⟩:∃z:Int,(if t=true then 1 else 0)=z:=⟨_,rfl⟩;have hz2:0<=z/\z<=1:=by rw[<- hz];split <;> omega
   exact⟨_,p+2,.inr (.inr ⟨hz6,rfl,_,rfl,hB,.inr (.inl ⟨rfl,t,z,ht,hz,hz2,rfl⟩)⟩),FitS.cst _ _ (nZ _) (by omega) (by omega),by omega,by omega⟩
 . obtain⟨s,hs,hc⟩:=q7w ((tkD len f (p+1) 256:Nat) % 12)
   exact⟨_,p+2,.inr (.inr ⟨hz6,rfl,_,rfl,hB,.inr (.inr ⟨rfl,s,hs,hc,rfl⟩)⟩),FitS.cst _ _ (by omega) (by omega) (by omega),by omega,by omega⟩
theorem q82 (hK:PkOk K)(len:Nat)(f:Nat->Nat)(hlen:len<=1048576)(p:Nat)(hp:p<=1000000)(kind:Int)(n:Nx)(q:Nat)(hX:LeafX K len f p kind n q)(w:World)(a:Option Addr)(c:Nat)(v:Value)(hby:Byts w a len f)(hpk:PickV K w v) :
 Calls Tryz.prog 137 #[.slice a len c,J9 p,v,J9 kind] w (DrawOut w [n] q):=by
 obtain⟨A,hA⟩:=Nq (tkD len f p 8)
 unfold LeafX at hX
 rw[hA]at hX
 have HX:=h_ hX;have HA:=h_ hA
 obtain⟨x1,n1,k1,x2,n2,k2,x3,n3,k3,rfl,⟨e1,s1⟩,⟨e2,s2⟩,e3,s3⟩:=hpk
 have HBl:=h_ (Blk.new w 110 (Jk x1 n1 k1 x2 n2 k2 x3 n3 k3))
 have hb0:=(bR w.heap.size w).alloc (nR _) (.cells (Jk x1 n1 k1 x2 n2 k2 x3 n3 k3) 110)
 obtain⟨y,ky,hy,sy⟩:=qku k1 k2 k3 e1 s1 e2 s2 e3 s3 kind
 obtain⟨W0,hW0⟩:=Nq (w.alloc (.cells (Jk x1 n1 k1 x2 n2 k2 x3 n3 k3) 110))
 rw[hW0]at HBl hb0
 have HBy:=h_ (hby.mono hb0);have HSy:=h_ (sy.mono hb0);have HB0:=h_ hb0;have HY:=h_ hy
 clear hby s1 s2 s3 sy hb0 hA hy hX e1 e2 e3
 go_enter Tryz.func137,Tryz.ntmps137
 go_wp2_with fail
 try rw[hW0]
 clear hW0
 refine(qm0 (p:=p) (n:=8) hlen (by omega) (by omega) (by omega) c HBy.u rfl rfl).mono ?_
 rintro e w' ⟨rfl,hw'⟩
 subst hw'
 rw[HA.u]
 obtain⟨r0,r1,r2⟩:=three HBl.u
 go_wp2_with fail
 refine(q3v _ _ _ _ _ _ _ _ _ _ _).mono ?_
 rintro e w1 ⟨rfl,hb1⟩
 rw[HY.u]
 replace HBy:=h_ (HBy.u.mono hb1);replace HSy:=h_ (HSy.u.mono hb1);replace HB0:=mT HB0 hb1
 obtain⟨L,hL⟩:=Nq ((nms K kind).length)
 have hL1:L<=1000:=by rw[<- hL];exact(hK kind).1
 rw[hL]
 have HL:=h_ hL
 have HP:Hi ((p:Int)+1=((p+1:Nat):Int)):=h_ (by omega)
 clear hb1 r0 r1 r2 HY HBl hL
 rcases HX.u with ⟨h6,rfl,B,hBL,hB,rfl⟩ | ⟨h7,rfl,rfl⟩ | ⟨h6,rfl,B,hB,hB2,hX⟩
 . have h6':(A:Int)<6:=by omega
   obtain⟨b,o,rfl,-,hc⟩:=HSy.u B hBL;generalize (nms K kind)[B]=x at *;have hBL':(B:Int)<L:=by have:=HL.u;omega
   have hL0:(0:Int)<L:=by omega
   have HC:=h_ hc;have HBB:=h_ hB;clear HX HSy hc hB;go_wp2_with fail;refine(qm0 (p:=p+1) (n:=L) hlen (by omega) (by omega) (by omega) c HBy.u HP.u rfl).mono ?_;rintro e w' ⟨rfl,hw'⟩;subst hw';rw[<- HL.u,HBB.u];have hc:=HC.u;go_wp2_with fail
   go_ret2
   exact qdr (n:=⟨1,⟨0,0,⟨#[]⟩⟩,x⟩) HB0.u (by omega)
 . subst h7
   clear HX HSy;go_wp2_with fail;refine(q58 _).mono ?_;rintro e w2 ⟨rfl,hb2⟩;replace HB0:=mT HB0 hb2;clear hb2;go_wp2_with fail;refine(q59 _ _ _ _).mono ?_;rintro e w3 ⟨rfl,hb3⟩;replace HB0:=mT HB0 hb3;clear hb3;go_wp2_with fail
   go_ret2
   exact qdr (n:=⟨0,⟨0,0,⟨#[]⟩⟩,⟨#[]⟩⟩) HB0.u (by omega)
 . rw[HL.u]at h6
   rcases h6 with h6 | ⟨h6,h60⟩
   case' inl=>subst h6
   case' inr =>
    have h6':(A:Int)<6:=(by omega);have hL0:¬ (0:Int)<L:=(by omega);have h7':((A:Int)==7)=false:=Yf.2 (by omega);clear h60
   all_goals
    have HBB:=h_ hB;clear HX HSy hB;rcases hX with ⟨rfl,x,hx,hc,z,hz,rfl⟩ | ⟨rfl,t,z,ht,hz,-,rfl⟩ | ⟨rfl,s,hs,hc,rfl⟩
    . have HC:=h_ hc
      clear hc;go_wp2_with fail;refine(qm0 (p:=p+1) (n:=256) hlen (by omega) (by omega) (by omega) c HBy.u HP.u rfl).mono ?_;rintro e w' ⟨rfl,hw'⟩;subst hw';rw[HBB.u];go_wp2_with fail;refine(HC.u _).mono ?_;rintro e w' ⟨rfl,hw'⟩;subst hw';rcases hz with ⟨hx0,rfl⟩ | ⟨hx0,rfl⟩
      . go_wp2_with fail
        refine(qb7 _ _).mono ?_;rintro e w2 ⟨rfl,hb2⟩;replace HB0:=mT HB0 hb2;clear hb2;go_wp2_with fail;refine(q59 _ _ _ _).mono ?_;rintro e w3 ⟨rfl,hb3⟩;replace HB0:=mT HB0 hb3;clear hb3;go_wp2_with fail
        go_ret2
        exact qdr (n:=⟨0,⟨1,(B:Int),⟨#[]⟩⟩,⟨#[]⟩⟩) HB0.u (by omega)
      . go_wp2_with fail
        refine(qb7 _ _).mono ?_;rintro e w2 ⟨rfl,hb2⟩;replace HB0:=mT HB0 hb2;clear hb2;go_wp2_with fail;refine(q59 _ _ _ _).mono ?_;rintro e w3 ⟨rfl,hb3⟩;replace HB0:=mT HB0 hb3;clear hb3;go_wp2_with fail
        go_ret2
        exact qdr (n:=⟨0,⟨1,_,⟨#[]⟩⟩,⟨#[]⟩⟩) HB0.u (by omega)
    . have HT:=h_ ht;have HZ:=h_ hz
      clear ht hz;go_wp2_with fail;refine(qm0 (p:=p+1) (n:=256) hlen (by omega) (by omega) (by omega) c HBy.u HP.u rfl).mono ?_;rintro e w' ⟨rfl,hw'⟩;subst hw';rw[HBB.u];go_wp2_with fail;refine(q7u _ _).mono ?_;rintro e w2 ⟨rfl,hb2⟩;rw[HT.u,HZ.u];replace HB0:=mT HB0 hb2;clear hb2;go_wp2_with fail;refine(q59 _ _ _ _).mono ?_;rintro e w3 ⟨rfl,hb3⟩;replace HB0:=mT HB0 hb3;clear hb3;go_wp2_with fail
      go_ret2
      exact qdr (n:=⟨0,⟨2,z,⟨#[]⟩⟩,⟨#[]⟩⟩) HB0.u (by omega)
    . have HC:=h_ hc
      clear hc;go_wp2_with fail;refine(qm0 (p:=p+1) (n:=256) hlen (by omega) (by omega) (by omega) c HBy.u HP.u rfl).mono ?_;rintro e w' ⟨rfl,hw'⟩;subst hw';rw[HBB.u];go_wp2_with fail;refine(HC.u _).mono ?_;rintro e w' ⟨rfl,hw'⟩;subst hw';go_wp2_with fail;refine(q7v _ _).mono ?_;rintro e w2 ⟨rfl,hb2⟩;replace HB0:=mT HB0 hb2;clear hb2;go_wp2_with fail;refine(q59 _ _ _ _).mono ?_;rintro e w3 ⟨rfl,hb3⟩;replace HB0:=mT HB0 hb3;clear hb3;go_wp2_with fail
      go_ret2
      exact qdr (n:=⟨0,⟨3,0,s⟩,⟨#[]⟩⟩) HB0.u (by omega)
variable (K:Int->List ByteArray)
def GOp (kind:Int)(a b:Nat)(op arg:Int):Prop :=
 (a=14/\op=16/\arg=kind)∨(a=13/\op=19/\arg=kind) ∨
 (kind=1/\a<8/\op=4+(b:Int) % 5/\arg=1)∨(kind=1/\(8<=a/\a<10)/\op=2/\arg=1)∨(kind=1/\(10<=a/\a<12)/\op=17+(b:Int) % 2/\arg=1)∨(kind=1/\a=12/\op=21+(b:Int) % 2/\arg=3) ∨
 (kind=2/\(a<8/\b<48)/\op=10+(b:Int) % 4/\arg=1)∨(kind=2/\(a<8/\48<=b)/\op=10+(b:Int) % 4/\arg=3)∨(kind=2/\(8<=a/\a<10)/\op=14+(b:Int) % 2/\arg=2) ∨
 (kind=2/\a=10/\op=3/\arg=2)∨(kind=2/\a=11/\op=20/\arg=3)∨(kind=2/\a=12/\op=24+(b:Int) % 2/\arg=(b:Int) % 3+1) ∨
 (kind=3/\a<9/\op=9/\arg=3)∨(kind=3/\(9<=a/\a<13)/\op=23/\arg=(b:Int) % 3+1)
theorem gop_ex {kind:Int}{a b:Nat}(hk:kind=1∨kind=2∨kind=3)(ha:a<15):∃op arg,GOp kind a b op arg:=by
 by_cases h14:a=14
 . exact⟨_,_,.inl ⟨h14,rfl,rfl⟩⟩
 by_cases h13:a=13
 . exact⟨_,_,.inr (.inl ⟨h13,rfl,rfl⟩)⟩
 rcases hk with rfl | rfl | rfl
 . by_cases h8:a<8
   . exact⟨_,_,.inr (.inr (.inl ⟨rfl,h8,rfl,rfl⟩))⟩
   by_cases h10:a<10
   . exact⟨_,_,.inr (.inr (.inr (.inl ⟨rfl,by omega,rfl,rfl⟩)))⟩
   by_cases h12:a<12
   . exact⟨_,_,.inr (.inr (.inr (.inr (.inl ⟨rfl,by omega,rfl,rfl⟩))))⟩
   . exact⟨_,_,.inr (.inr (.inr (.inr (.inr (.inl ⟨rfl,by omega,rfl,rfl⟩)))))⟩
 . by_cases h8:a<8
   . by_cases hb:b<48
     . exact⟨_,_,.inr (.inr (.inr (.inr (.inr (.inr (.inl ⟨rfl,by omega,rfl,rfl⟩))))))⟩
     . exact⟨_,_,.inr (.inr (.inr (.inr (.inr (.inr (.inr (.inl ⟨rfl,by omega,rfl,rfl⟩)))))))⟩
   by_cases h10:a<10
   . exact⟨_,_,.inr (.inr (.inr (.inr (.inr (.inr (.inr (.inr (.inl ⟨rfl,by omega,rfl,rfl⟩))))))))⟩
   by_cases h11:a=10
   . exact⟨_,_,.inr (.inr (.inr (.inr (.inr (.inr (.inr (.inr (.inr (.inl ⟨rfl,h11,rfl,rfl⟩)))))))))⟩
   by_cases h12:a=11
   . exact⟨_,_,.inr (.inr (.inr (.inr (.inr (.inr (.inr (.inr (.inr (.inr (.inl ⟨rfl,h12,rfl,rfl⟩))))))))))⟩
   . exact⟨_,_,.inr (.inr (.inr (.inr (.inr (.inr (.inr (.inr (.inr (.inr (.inr (.inl ⟨rfl,by omega,rfl,rfl⟩)))))))))))⟩
 . by_cases h9:a<9
   . exact⟨_,_,.inr (.inr (.inr (.inr (.inr (.inr (.inr (.inr (.inr (.inr (.inr (.inr (.inl ⟨rfl,by omega,rfl,rfl⟩))))))))))))⟩
   . exact⟨_,_,.inr (.inr (.inr (.inr (.inr (.inr (.inr (.inr (.inr (.inr (.inr (.inr (.inr ⟨rfl,by omega,rfl,rfl⟩))))))))))))⟩
theorem GOp.fit {kind:Int}{a b:Nat}{op arg:Int}(hk:kind=1∨kind=2∨kind=3)(h:GOp kind a b op arg):(2<=op/\op<=25)/\(arg=1∨arg=2∨arg=3):=by
 unfold GOp at h
 omega
theorem ar_m (op:Int):∃m:Nat,ar op=m/\m<=3:=by
 unfold ar
 split
 . exact⟨1,rfl,by omega⟩
 . split
   . exact⟨3,rfl,by omega⟩
   . split
     . exact⟨2,rfl,by omega⟩
     . exact⟨0,rfl,by omega⟩
def kdG (op arg:Int)(i:Nat):Int:=if op=16/\i=0 then 2 else arg
theorem kdG_ok {op arg:Int}(i:Nat)(h:arg=1∨arg=2∨arg=3):kdG op arg i=1∨kdG op arg i=2∨kdG op arg i=3:=by
 unfold kdG
 split
 . omega
 . exact h
def GenC (len:Nat)(f:Nat->Nat)(d p:Nat)(kind:Int)(l:List Nx)(q:Nat):Prop:=∀(w:World) (a:Option Addr) (c:Nat) (v:Value),Byts w a len f->PickV K w v ->
 Calls Tryz.prog 104 #[.slice a len c,J9 p,v,J9 kind,J9 d] w (DrawOut w l q)
def GenE (len:Nat)(f:Nat->Nat)(d p:Nat)(kind:Int)(l:List Nx)(q:Nat):Prop:=(∀n,n∈l->FitS n)/\1<=l.length/\l.length<=4 ^ d/\p<=q/\q<=p+3*4 ^ d/\GenC K len f d p kind l q
structure SteG (len:Nat)(f:Nat->Nat)(d p:Nat)(kd:Nat->Int)(m:Nat)(st:Nat->List Nx × Nat):Prop where
 zero:st 0=([],p)
 step:∀i,i<m->∃l,(st (i+1)).1=(st i).1++l/\GenC K len f d (st i).2 (kd i) l (st (i+1)).2
 fit:∀i,i<=m->(∀n,n∈(st i).1->FitS n)/\(st i).1.length<=i*4 ^ d/\p<=(st i).2/\(st i).2<=p+i*(3*4 ^ d)
theorem stp_ex {len:Nat}{f:Nat->Nat}{d p:Nat}{kd:Nat->Int}(hk:∀i,kd i=1∨kd i=2∨kd i=3)(M:Nat)(hp:p+M*(3*4 ^ d)<=900000)(ih:∀p kind,p+3*4 ^ d<=900000->(kind=1∨kind=2∨kind=3)->∃l q,GenE K len f d p kind l q):∀m,m<=M->∃st,SteG K len f d p kd m st
 | 0,_=>⟨fun _=>([],p),rfl,fun i hi=>absurd hi (nL _),fun i hi=>⟨fun n hn=>(by cases hn),nZ _,nR _,Nat.le_add_right _ _⟩⟩
 | m+1,hm=>by
  obtain⟨st,h0,hs,hf⟩:=stp_ex hk M hp ih m (by omega);obtain⟨f1,f2,f3,f4⟩:=hf m (nR _);have e1:(m+1)*(3*4 ^ d)<=M*(3*4 ^ d):=Zs _ hm;have e2:(m+1)*(3*4 ^ d)=m*(3*4 ^ d)+3*4 ^ d:=Zw _ _;have e3:(m+1)*4 ^ d=m*4 ^ d+4 ^ d:=Zw _ _;obtain⟨l,q,g1,g2,g3,g4,g5,g6⟩:=ih (st m).2 (kd m) (by omega) (hk m);refine⟨fun i=>if i<=m then st i else ((st m).1++l,q),by simp only[nZ,if_true];exact h0,fun i hi=>?_,fun i hi=>?_⟩
  . by_cases e:i<m
    . simp only[Yz (show i+1<=m by omega),Yz (show i<=m by omega)]
      exact hs i e
    . obtain rfl:i=m:=by omega
      simp only[Yt (show ¬ i+1<=i by omega),Yz (nR i)];exact⟨l,rfl,g6⟩
  . by_cases e:i<=m
    . simp only[Yz e]
      exact hf i e
    . obtain rfl:i=m+1:=by omega
      simp only[Yt e];exact⟨fun n hn=>(Zb.1 hn).elim (f1 n) (g1 n),by rw[Yg];omega,by omega,by omega⟩
variable (K:Int->List ByteArray)
theorem qb8 (len:Nat)(f:Nat->Nat)(hlen:len<=1048576)(d p:Nat)(hd:d<=100)(hp:p<=1000000)(kind:Int)(hk:kind=1∨kind=2∨kind=3)(A B:Nat)(hA:tkD len f p 16=A)(hA4:4<=A)(hA15:A<15)(hB:tkD len f (p+1) 64=B)(op arg:Int)(hG:GOp kind A B op arg)
 (m:Nat) (hm:ar op=m) (hm3:m<=3) (st:Nat->List Nx × Nat) (hS:SteG K len f d (p+2) (kdG op arg) m st) (hlong:∀i,i<=m->(st i).1.length<=4096/\(st i).2<=1000000):GenC K len f (d+1) p kind ((st m).1++[⟨op,⟨0,0,⟨#[]⟩⟩,⟨#[]⟩⟩]) (st m).2:=by
 intro w a c v hby hpk
 have hpk0:=hpk
 obtain⟨x1,n1,k1,x2,n2,k2,x3,n3,k3,rfl,-⟩:=hpk
 obtain⟨v,hv⟩:=Nq (Value.agg (Jk x1 n1 k1 x2 n2 k2 x3 n3 k3))
 have HBl:=h_ (Blk.new w 110 (Jk x1 n1 k1 x2 n2 k2 x3 n3 k3))
 have hb0:=(bR w.heap.size w).alloc (nR _) (.cells (Jk x1 n1 k1 x2 n2 k2 x3 n3 k3) 110)
 obtain⟨W0,hW0⟩:=Nq (w.alloc (.cells (Jk x1 n1 k1 x2 n2 k2 x3 n3 k3) 110))
 rw[hW0]at HBl hb0
 have HBy:=h_ (hby.mono hb0);have HPk:=h_ (hpk0.mono hb0);have HB0:=h_ hb0
 have HA:=h_ hA;have HBB:=h_ hB;have HG:=h_ hG;have HS:=h_ hS;have HL:=h_ hlong
 have hB64:B<64:=by rw[<- hB];exact tk_lt hlen (by omega) (by omega) (by omega)
 have d1:¬ (((d+1:Nat):Int)<=0):=by omega
 have d2:¬ (d:Int)+1<=0:=by omega
 have a4:¬ (A:Int)<4:=by omega
 have a15:((A:Int)==15)=false:=Yf.2 (by omega)
 have HP:Hi ((p:Int)+1=((p+1:Nat):Int)):=h_ (by omega)
 clear hby hpk0 hb0 hA hB hG hS hv hlong
 go_enter Tryz.func104,Tryz.ntmps104
 go_wp2_with fail
 try rw[hW0]
 clear hW0
 refine(qm0 (p:=p) (n:=16) hlen (by omega) (by omega) (by omega) c HBy.u rfl rfl).mono ?_
 rintro e w' ⟨rfl,hw'⟩
 subst hw'
 rw[HA.u]
 go_wp2_with fail
 refine(qm0 (p:=p+1) (n:=64) hlen (by omega) (by omega) (by omega) c HBy.u HP.u rfl).mono ?_
 rintro e w' ⟨rfl,hw'⟩
 subst hw'
 rw[HBB.u]
 go_upto_if 65 with fail
 go_cut [14,15] from 20 (fun s14 s15 wx=>s14=J9 arg/\s15=J9 op/\wx=w')
 case first =>
  have hG:=HG.u;unfold GOp at hG;rcases hG with ⟨rfl,rfl,rfl⟩ | ⟨rfl,rfl,rfl⟩ | ⟨rfl,h1,rfl,rfl⟩ | ⟨rfl,h1,rfl,rfl⟩ | ⟨rfl,h1,rfl,rfl⟩ | ⟨rfl,rfl,rfl,rfl⟩ | ⟨rfl,h1,rfl,rfl⟩ | ⟨rfl,h1,rfl,rfl⟩ | ⟨rfl,h1,rfl,rfl⟩ | ⟨rfl,rfl,rfl,rfl⟩ | ⟨rfl,rfl,rfl,rfl⟩ | ⟨rfl,rfl,rfl,rfl⟩ | ⟨rfl,h1,rfl,rfl⟩ | ⟨rfl,h1,rfl,rfl⟩
  all_goals
   first | have t14:((A:Int)==14)=false:=Yf.2 (by omega) | skip
   first | have t13:((A:Int)==13)=false:=Yf.2 (by omega) | skip
   first | have t11:((A:Int)==11)=false:=Yf.2 (by omega) | skip
   first | have t10:((A:Int)==10)=false:=Yf.2 (by omega) | skip
   first | have y8:(A:Int)<8:=by omega | have y8:¬ (A:Int)<8:=by omega | skip
   first | have y9:(A:Int)<9:=by omega | have y9:¬ (A:Int)<9:=by omega | skip
   first | have y10:(A:Int)<10:=by omega | have y10:¬ (A:Int)<10:=by omega | skip
   first | have y12:(A:Int)<12:=by omega | have y12:¬ (A:Int)<12:=by omega | skip
   first | have y48:(48:Int)<=B:=by omega | have y48:¬ (48:Int)<=B:=by omega | skip
   go_wp2_with fail;go_meet;exact⟨rfl,rfl,rfl⟩
 case rest =>
  obtain⟨rfl,rfl,hwc⟩:=hcut;subst hwc;have HB1:=h_ ((bR wc.heap.size wc).alloc (nR _) (.cells #[] 96));have HO1:=h_ (OwnN.none wc);replace HBy:=h_ (HBy.u.mono HB1.u);replace HPk:=h_ (HPk.u.mono HB1.u);replace HBl:=h_ (HBl.u.mono HB1.u HBl.u.lt);have HB2:=h_ (HB0.u.trans (HB1.u.mono HB0.u.size));replace HO1:=h_ (HO1.u.low HB0.u.size);obtain⟨W1,hW1⟩:=Nq (wc.alloc (.cells #[] 96));rw[hW1]at HBy HPk HBl HB1 HB2 HO1;clear a4 a15;go_wp2_with fail
  try rw[hW1]
  clear hW1;have HZ:=h_ HS.u.zero;go_loopw [1,16,17] (fun v1 v16 v17 wr=>∃i:Nat,i<=m/\v1=J9 (st i).2/\v17=J9 i/\OwnN wr w.heap.size v16 (st i).1/\Below W1.heap.size W1 wr/\Below w.heap.size w wr) (fun _ _ v17 _=>m - (intOf v17).toNat)
  case atStart=>exact⟨0,nZ _,by rw[HZ.u];go_num,rfl,by rw[HZ.u];exact HO1.u,bR _ _,HB2.u⟩
  case round =>
   obtain⟨i,hi,rfl,rfl,ho,hb,hbw⟩:=hrel;have HO:=h_ ho;have HB:=h_ hb;have HBw:=h_ hbw;have HByr:=h_ (HBy.u.mono hb);have HPkr:=h_ (HPk.u.mono hb);have HBlr:=h_ (HBl.u.mono hb HBl.u.lt);clear ho hb hbw HO1;obtain⟨lm,qm,hsi⟩:∃lm qm,st i=(lm,qm):=⟨_,_,rfl⟩;have HLi:=h_ (HL.u i hi);rw[hsi]at HO HLi⊢;obtain⟨am,cm,rfl,hnm⟩:=HO.u.nods;have HN:=h_ hnm;clear hnm;obtain⟨r0,r1,r2⟩:=three HBlr.u;go_wp2_with fail;refine(q57 _ _).mono ?_;rintro e w' ⟨rfl,hw'⟩;subst hw';rw[hm];by_cases hlt:i<m
   . have hlt':(i:Int)<m:=by omega
     obtain⟨l,hl1,hcall⟩:=HS.u.step i hlt;obtain⟨ln,qn,hsn⟩:∃ln qn,st (i+1)=(ln,qn):=⟨_,_,rfl⟩;have HLn:=h_ (HL.u (i+1) hlt);rw[hsi,hsn]at hl1 hcall;rw[hsn]at HLn;obtain⟨kd,hkd⟩:=Nq (kdG op arg i);rw[hkd]at hcall;have HC:=h_ (hcall w' a c _ HByr.u HPkr.u);have HKd:=h_ hkd;have HSn:=h_ hsn;obtain rfl:ln=lm++l:=hl1;have HLl:Hi (lm.length+l.length<=4096):=h_ (by have:=HLn.u.1;rw[Yg]at this;exact this);clear hcall hkd hsn;have hway:(op=16/\i=0/\kd=2)∨(op=16/\¬ i=0/\kd=arg)∨(¬ op=16/\kd=arg):=by
      rw[<- HKd.u];unfold kdG;split <;> omega
     rcases hway with ⟨h1,h2,rfl⟩ | ⟨h1,h2,rfl⟩ | ⟨h1,rfl⟩
     case' inl =>
      have e16:(op==16)=true:=(by simp[h1]);have ei:((i:Int)==0)=true:=by simp[h2]
     case' inr.inl =>
      have e16:(op==16)=true:=(by simp[h1]);have ei:((i:Int)==0)=false:=Yf.2 (by omega)
     case' inr.inr =>
      have e16:(op==16)=false:=Yf.2 h1
     all_goals
      clear h1;go_wp2_with fail;refine HC.u.mono ?_;rintro e w4 ⟨v4,rfl,ho4,hb4⟩;obtain⟨a4,c4,rfl,n4⟩:=ho4.nods;have HJ:=h_ (q81 am a4 cm c4 lm l w4 (by have:=HLl.u;omega) (HN.u.mono hb4) n4);have HB4:=h_ hb4;clear ho4 hb4 n4 HC;go_wp2_with fail;refine HJ.u.mono ?_;rintro e w5 ⟨v5,rfl,ho5,hb5⟩;have HO5:=h_ (ho5.low (Yv HBw.u.size HB4.u.size));have HB5:=mT HB4 hb5;clear ho5 hb5 HJ;go_wp2_with fail;go_roundw
      case rel=>exact⟨i+1,by omega,by rw[HSn.u],by go_num,by rw[HSn.u];exact HO5.u,HB.u.trans (HB5.u.mono HB.u.size),HBw.u.trans (HB5.u.mono HBw.u.size)⟩
      case measure=>simp[intOf];omega
   . obtain rfl:i=m:=by omega
     have hlt':¬ (i:Int)<i:=(by omega);have HSi:=h_ hsi;go_wp2_with fail;refine(q3u _ _).mono ?_;rintro e w2 ⟨rfl,hb2⟩;have HN2:Hi (Blk _ _ 96 (nC ⟨op,⟨0,0,⟨#[]⟩⟩,⟨#[]⟩⟩)):=h_ (Blk.new w2 96 (nC ⟨op,⟨0,0,⟨#[]⟩⟩,⟨#[]⟩⟩).toArray);have HS2:=h_ ((bR w2.heap.size w2).alloc (nR _) (.cells (nC ⟨op,⟨0,0,⟨#[]⟩⟩,⟨#[]⟩⟩).toArray 96));have HO2:=h_ ((HO.u.keep hb2).keep HS2.u);have HB2':=h_ (HBw.u.trans ((hb2.trans (HS2.u.mono hb2.size)).mono HBw.u.size));clear hb2;go_wp2_with (at_builtin;refine q4k rfl _ _ rfl rfl HO2.u rfl HN2.u (by have:=HLi.u.1;omega) HB2'.u.size ?_);intro v9 W9 ho9 hb9;have HO9:=h_ ho9;have HB9:=h_ (HB2'.u.trans hb9);clear ho9 hb9;go_wp2_with fail
     go_ret2
     exact⟨v9,by rw[HSi.u];rfl,by rw[HSi.u];exact HO9.u,HB9.u⟩
variable (K:Int->List ByteArray)
theorem q80 (hK:PkOk K)(len:Nat)(f:Nat->Nat)(hlen:len<=1048576)(d p:Nat)(hp:p<=900000)(kind:Int)(n:Nx)(q:Nat)(hX:LeafX K len f (p+1) kind n q)(hd:d=0∨tkD len f p 16<4):GenC K len f d p kind [n] q:=by
 intro w a c v hby hpk
 have hpk0:=hpk
 obtain⟨x1,n1,k1,x2,n2,k2,x3,n3,k3,rfl,-⟩:=hpk
 have HBl:=h_ (Blk.new w 110 (Jk x1 n1 k1 x2 n2 k2 x3 n3 k3))
 have hb0:=(bR w.heap.size w).alloc (nR _) (.cells (Jk x1 n1 k1 x2 n2 k2 x3 n3 k3) 110)
 obtain⟨W0,hW0⟩:=Nq (w.alloc (.cells (Jk x1 n1 k1 x2 n2 k2 x3 n3 k3) 110))
 rw[hW0]at HBl hb0
 obtain⟨A,hA⟩:=Nq (tkD len f p 16)
 rw[hA]at hd
 have HL:=h_ (q82 K hK len f hlen (p+1) (by omega) kind n q hX W0 a c _ (hby.mono hb0) (hpk0.mono hb0))
 rw[show((p+1:Nat):Int)=(p:Int)+1 from by omega]at HL
 have HBy:=h_ (hby.mono hb0);have HB0:=h_ hb0;have HA:=h_ hA
 clear hby hpk0 hb0 hA hX
 have hway:(d:Int)<=0∨(¬ (d:Int)<=0/\(A:Int)<4):=by omega
 clear hd
 go_enter Tryz.func104,Tryz.ntmps104
 go_wp2_with fail
 try rw[hW0]
 clear hW0
 refine(qm0 (p:=p) (n:=16) hlen (by omega) (by omega) (by omega) c HBy.u rfl rfl).mono ?_
 rintro e w' ⟨rfl,hw'⟩
 subst hw'
 rw[HA.u]
 obtain⟨r0,r1,r2⟩:=three HBl.u
 rcases hway with hw1 | ⟨hw1,hw2⟩
 all_goals
  go_wp2_with fail;refine HL.u.mono ?_;rintro e w4 ⟨v4,rfl,ho4,hb4⟩;have HO:=h_ (ho4.low HB0.u.size);have HB:=mT HB0 hb4;clear ho4 hb4;go_wp2_with fail
  go_ret2
  exact⟨v4,rfl,HO.u,HB.u⟩
theorem q5b (len:Nat)(f:Nat->Nat)(hlen:len<=1048576)(d p:Nat)(hd:d<=100)(hp:p<=900000)(kind:Int)(l:List Nx)(q:Nat)(hA:tkD len f p 16=15)(B:Nat)(hB:tkD len f (p+1) 3=B)(hC:GenC K len f d (p+2) (B+1) l q):GenC K len f (d+1) p kind l q:=by
 intro w a c v hby hpk
 have hpk0:=hpk
 obtain⟨x1,n1,k1,x2,n2,k2,x3,n3,k3,rfl,-⟩:=hpk
 have HBl:=h_ (Blk.new w 110 (Jk x1 n1 k1 x2 n2 k2 x3 n3 k3))
 have hb0:=(bR w.heap.size w).alloc (nR _) (.cells (Jk x1 n1 k1 x2 n2 k2 x3 n3 k3) 110)
 obtain⟨W0,hW0⟩:=Nq (w.alloc (.cells (Jk x1 n1 k1 x2 n2 k2 x3 n3 k3) 110))
 rw[hW0]at HBl hb0
 have HC:=h_ (hC W0 a c _ (hby.mono hb0) (hpk0.mono hb0))
 rw[show((p+2:Nat):Int)=(p:Int)+1+1 from by omega]at HC
 have hB3:B<3:=by rw[<- hB];exact tk_lt hlen (by omega) (by omega) (by omega)
 have HBy:=h_ (hby.mono hb0);have HB0:=h_ hb0;have HA:=h_ hA;have HBB:=h_ hB
 have HP:Hi ((p:Int)+1=((p+1:Nat):Int)):=h_ (by omega)
 clear hby hpk0 hb0 hA hC hB
 have d1:¬ (((d+1:Nat):Int)<=0):=by omega
 have d2:¬ (d:Int)+1<=0:=by omega
 go_enter Tryz.func104,Tryz.ntmps104
 go_wp2_with fail
 try rw[hW0]
 clear hW0
 refine(qm0 (p:=p) (n:=16) hlen (by omega) (by omega) (by omega) c HBy.u rfl rfl).mono ?_
 rintro e w' ⟨rfl,hw'⟩
 subst hw'
 rw[HA.u]
 go_wp2_with fail
 refine(qm0 (p:=p+1) (n:=3) hlen (by omega) (by omega) (by omega) c HBy.u HP.u rfl).mono ?_
 rintro e w' ⟨rfl,hw'⟩
 subst hw'
 rw[HBB.u]
 obtain⟨r0,r1,r2⟩:=three HBl.u
 go_wp2_with fail
 refine HC.u.mono ?_
 rintro e w4 ⟨v4,rfl,ho4,hb4⟩
 have HO:=h_ (ho4.low HB0.u.size);have HB:=mT HB0 hb4
 clear ho4 hb4
 go_wp2_with fail
 go_ret2
 exact⟨v4,rfl,HO.u,HB.u⟩
theorem gen_ex (hK:PkOk K)(len:Nat)(f:Nat->Nat)(hlen:len<=1048576):∀d,d<=5->∀p kind,p+3*4 ^ d<=900000->(kind=1∨kind=2∨kind=3)->∃l q,GenE K len f d p kind l q
 | 0,_,p,kind,hp,hk=>by
  obtain⟨n,q,hX,h1,h2,h3⟩:=qjm K hK len f hlen (p+1) (by omega) kind hk;exact⟨[n],q,fun x hx=>by obtain rfl:=Yw.1 hx;exact h1,nR _,nR _,by omega,by omega,q80 K hK len f hlen 0 p (by omega) kind n q hX (.inl rfl)⟩
 | d+1,hd,p,kind,hp,hk=>by
  have e4:(4:Nat) ^ (d+1)=4*4 ^ d:=by rw[Nat.pow_succ,Nat.mul_comm]
  have e1:1<=(4:Nat) ^ d:=Nat.pow_pos (by omega);have e5:(4:Nat) ^ d<=4 ^ 4:=Vf (by omega) (by omega);obtain⟨A,hA⟩:=Nq (tkD len f p 16);have hA16:A<16:=by rw[<- hA];exact tk_lt hlen (by omega) (by omega) (by omega)
  by_cases h4:A<4
  . obtain⟨n,q,hX,h1,h2,h3⟩:=qjm K hK len f hlen (p+1) (by omega) kind hk
    exact⟨[n],q,fun x hx=>(by obtain rfl:=Yw.1 hx;exact h1),nR _,by simp only[Ob];omega,by omega,by omega,q80 K hK len f hlen (d+1) p (by omega) kind n q hX (.inr (by omega))⟩
  by_cases h15:A=15
  . obtain⟨B,hB⟩:=Nq (tkD len f (p+1) 3)
    have hB3:B<3:=(by rw[<- hB];exact tk_lt hlen (by omega) (by omega) (by omega));obtain⟨l,q,g1,g2,g3,g4,g5,g6⟩:=gen_ex hK len f hlen d (by omega) (p+2) (B+1) (by omega) (by omega);exact⟨l,q,g1,g2,by omega,by omega,by omega,q5b K len f hlen d p (by omega) (by omega) kind l q (by omega) B hB g6⟩
  obtain⟨B,hB⟩:=Nq (tkD len f (p+1) 64);obtain⟨op,arg,hG⟩:=gop_ex (b:=B) hk (show A<15 by omega);obtain⟨⟨o1,o2⟩,harg⟩:=hG.fit hk;obtain⟨m,hm,hm3⟩:=ar_m op;obtain⟨st,hS⟩:=stp_ex K (fun i=>kdG_ok (op:=op) i harg) 3 (by omega) (fun p kind h1 h2=>gen_ex hK len f hlen d (by omega) p kind h1 h2) m hm3 (p:=p+2);obtain⟨f1,f2,f3,f4⟩:=hS.fit m (nR _);have m1:m*4 ^ d<=3*4 ^ d:=Zs _ hm3;have m2:m*(3*4 ^ d)<=3*(3*4 ^ d):=Zs _ hm3;refine⟨_,_,?_,?_,?_,?_,?_,qb8 K len f hlen d p (by omega) (by omega) kind hk A B hA (by omega) (by omega) hB op arg hG m hm hm3 st hS fun i hi=>?_⟩
  . intro n hn
    rcases Zb.1 hn with h | h
    . exact f1 n h
    . obtain rfl:=Yw.1 h;exact FitS.opn (by omega) o2
  . simp
  . rw[Yg,Ob];omega
  . omega
  . omega
  . obtain⟨-,i2,-,i4⟩:=hS.fit i hi
    have n1:i*4 ^ d<=3*4 ^ d:=Zs _ (by omega);have n2:i*(3*4 ^ d)<=3*(3*4 ^ d):=Zs _ (by omega);omega
end Go.Proofs.YtebbgodlijlioaaGreatDoor
