import Derived.Test.YtebbgodlijlioaaGreatDoorW14
import Derived.Test.YtebbgodlijlioaaGreatDoorW13
set_option maxRecDepth 100000
set_option maxHeartbeats 64000000
namespace Go.Proofs.YtebbgodlijlioaaGreatDoor
open Go Go.RowKit
theorem q42 (l:List Ph)(k:Nat)(h:k<l.length):mx (l.take (k+1))=max (mx (l.take k)) l[k].d:=by
 rw[Yq h,qbj];simp[mx]
theorem q45 (n:Nx)(a:Option Addr)(c:Nat)(l:List Ph)(w:World)(hok:okNode n=true)(hf:Fit n)(hl:l.length=arn n)(ha:Phs w a l)(hs:tot l<=2000000)(hd:mx l<=1000)(hw:Wrds w)(hp:Pow w) :
 Calls Tryz.prog 198 #[nv n,.slice a (arn n) c] w fun r w'=>r=.returned (pv (phr n l))/\Below w.heap.size w w':=by
 unfold nv
 have HK:=h_ ((Blk.new w 96 #[J9 n.op,J9 n.v.k,J9 n.v.n,.string n.v.s,.string n.nm]).alloc (.cells #[Yb,J9 0,J9 0] 208))
 have HR:=h_ (Blk.new (w.alloc (.cells #[J9 n.op,J9 n.v.k,J9 n.v.n,.string n.v.s,.string n.nm] 96)) 208 #[Yb,J9 0,J9 0])
 have HB:=h_ (((bR w.heap.size w).alloc (nR _) (.cells #[J9 n.op,J9 n.v.k,J9 n.v.n,.string n.v.s,.string n.nm] 96)).alloc (by simp) (.cells #[Yb,J9 0,J9 0] 208))
 rw[Yx]at HR
 obtain⟨W0,hW0⟩:=Nq ((w.alloc (.cells #[J9 n.op,J9 n.v.k,J9 n.v.n,.string n.v.s,.string n.nm] 96)).alloc (.cells #[Yb,J9 0,J9 0] 208))
 rw[hW0]at HK HB HR
 have HA:=h_ (ha.mono HB.u);have HP:=h_ (hp.mono HB.u);have HW:=h_ (hw.mono HB.u)
 have HL:=h_ hl;have HS:=h_ hs;have HD:=h_ hd;have HF:=h_ hf;have HO:=h_ hok
 have har:=arn_le n
 obtain⟨m,hm⟩:=Nq (arn n)
 rw[hm]at har HL⊢
 have HM:=h_ hm
 have HX:Hi (∀k,k<=m->mx (l.take k)<=1000):=h_ fun k _=>by
  have:mx l=max (mx (l.take k)) (mx (l.drop k)):=by rw[<- qbj,Vk]
  have:=HD.u;omega
 clear ha hw hp hl hs hd hf hok hm
 go_enter Tryz.func198,Tryz.ntmps198
 go_wp2_with fail
 try rw[hW0]
 clear hW0
 go_loopw [5,7,10] (fun dp _ i wr=>∃k:Nat,k<=m/\dp=J9 (mx (l.take k))/\i=J9 k/\Below W0.heap.size W0 wr) (fun _ _ i _=>m - (intOf i).toNat)
 case atStart=>exact⟨0,nZ _,rfl,rfl,bR _ _⟩
 case round =>
  obtain⟨k,hk,rfl,rfl,hb⟩:=hrel;have HBr:=h_ hb;have HAr:=h_ (HA.u.mono hb);have hmk:=HX.u k hk;clear hb;by_cases hlt:k<m
  . have hlt':(k:Int)<m:=by omega
    have hkl:k<l.length:=(by have:=HL.u;omega);obtain⟨b,o,rfl,-,c0,c1,c2⟩:=HAr.u k hkl;have HN:Hi (mx (l.take (k+1))=max (mx (l.take k)) l[k].d):=h_ (q42 l k hkl);have hmk1:=HX.u (k+1) (by omega);obtain⟨p,hp⟩:=Nq (l[k]);rw[hp]at HN c0 c1 c2;rw[HN.u]at hmk1;clear hp;have HB2:=h_ (HBr.u.alloc HBr.u.size (.cells #[.string p.t,J9 p.lv,J9 p.d] 208));obtain⟨q,hq⟩:=Nq (mx (l.take k));rw[hq]at HN hmk hmk1⊢;clear hq;obtain⟨d,hdd⟩:=Nq p.d;rw[hdd]at HN hmk1 c2 HB2;clear hdd;go_wp2_with fail;go_roundw
    case rel=>first | exact⟨k+1,by omega,by rw[HN.u];exact congrArg (Value.int .i64) (by omega),by go_num,HB2.u⟩ | ((repeat apply Exists.intro);exact⟨⟨k+1,by omega,by rw[HN.u];exact congrArg (Value.int .i64) (by omega),by go_num,HB2.u⟩,rfl⟩)
    case measure=>simp[intOf];omega
  . obtain rfl:k=m:=by omega
    have hlt':¬ (k:Int)<(k:Int):=(by omega);rw[Y9 (by have:=HL.u;omega)]at hmk⊢;have HKr:=h_ (HK.u.mono HBr.u HK.u.lt);have HRr:=h_ (HR.u.mono HBr.u HR.u.lt);have HPr:=h_ (HP.u.mono HBr.u);have HWr:=h_ (HW.u.mono HBr.u);have HB2:=h_ (HB.u.trans (HBr.u.mono HB.u.size));clear HK HR HP HW HB HBr HA HX;obtain⟨y0,y1,y2,y3,y4⟩:=five HKr.u;obtain⟨q,hq⟩:=Nq (mx l);rw[hq]at hmk⊢;have HQ:=h_ hq;clear hq;go_wp2_with fail;refine wp_region_held_drew (S:=fun w'=>w'.cell? ⟨w.heap.size,0,none⟩=some (J9 n.op)/\w'.cell? ⟨w.heap.size,1,none⟩=some (J9 n.v.k)/\w'.cell? ⟨w.heap.size,2,none⟩=some (J9 n.v.n)/\w'.cell? ⟨w.heap.size,3,none⟩=some (.string n.v.s)/\w'.cell? ⟨w.heap.size,4,none⟩=some (.string n.nm)) (by kernel_rfl) ⟨y0,y1,y2,y3,y4⟩ (fun zz=>?_);clear y0 y1 y2 y3 y4;refine tj 0 19 (.agg #[J9 n.op,J9 n.v.k,J9 n.v.n,.string n.v.s,.string n.nm]) zz ?_;refine tj 1 20 (.slice a k c) zz ?_;refine tj 3 22 (Yc w.heap.size 0) zz ?_;refine tj 4 23 (J9 n.op) zz ?_;simp only[sX,sY,sZ];refine tj 6 25 (J9 (q:Int)) zz ?_;refine tj 7 26 (J9 ((q:Int)+1)) zz ?_ (hy:=fun w hS=>by simp[execOp,go_sem, *];rw[IntKind.wrap_i64];omega);simp only[sX,sY,sZ];have HD2:Hi (Below wr.heap.size wr wr.drew):=h_ ((bR _ _).drew);have hpt:=q1x n a c l wr.drew HO.u HF.u (HL.u.trans HM.u.symm) (HAr.u.mono HD2.u) HS.u (HWr.u.mono HD2.u) (HPr.u.mono HD2.u);rw[HM.u]at hpt;refine callY (i:=2) (f:=206) (args:=#[.agg #[J9 n.op,J9 n.v.k,J9 n.v.n,.string n.v.s,.string n.nm],.slice a k c]) (R:=fun r wz=>r=.string (phT n l)/\Below wr.heap.size wr wz) 21 rfl rfl (by rfl) (by kernel_rfl) ?hrun1 (hpt.mono fun e w6 ⟨he,hb⟩=>⟨_,he,rfl,q25 hb⟩) ?_
    case hrun1=>simp[execOp,go_sem]
    clear hpt;rintro r3 W4 ⟨rfl,hb⟩;replace HKr:=mB HKr hb;replace HRr:=mB HRr hb;replace HB2:=mT HB2 hb;clear hb zz HD2;obtain⟨y0,y1,y2,y3,y4⟩:=five HKr.u;have zz:W4.cell? ⟨w.heap.size,0,none⟩=some (J9 n.op)/\W4.cell? ⟨w.heap.size,1,none⟩=some (J9 n.v.k)/\W4.cell? ⟨w.heap.size,2,none⟩=some (J9 n.v.n)/\W4.cell? ⟨w.heap.size,3,none⟩=some (.string n.v.s)/\W4.cell? ⟨w.heap.size,4,none⟩=some (.string n.nm):=⟨y0,y1,y2,y3,y4⟩;clear y0 y1 y2 y3 y4;refine⟨zz,?_⟩;simp only[sX,sY,sZ];refine callY (i:=5) (f:=207) (args:=#[J9 n.op]) (R:=fun r wz=>r=J9 (lvl n.op)/\wz=W4) 24 rfl rfl (by rfl) (by kernel_rfl) ?hrun2 ((q5o _ _).mono fun e w6 ⟨he,hb⟩=>⟨_,he,rfl,hb⟩) ?_
    case hrun2=>simp[execOp,go_sem]
    rintro r3 W5 ⟨rfl,hw⟩;replace hw:=hw.symm;subst hw;refine⟨zz,?_⟩;simp only[sX,sY,sZ];obtain⟨t,ht⟩:=Nq (phT n l);obtain⟨lv,hlv⟩:=Nq (lvl n.op);have HE:Hi (phr n l=⟨t,lv,q+1⟩):=h_ (by rw[<- ht,<- hlv,<- HQ.u];rfl);rw[ht,hlv];clear ht hlv;refine tj 8 27 (.agg #[.string t,J9 lv,J9 ((q:Int)+1)]) zz ?_;simp only[sX,sY,sZ];obtain⟨r0,r1,r2⟩:=three HRr.u;have f0:=HRr.u.free 0;have f1:=HRr.u.free 1;have f2:=HRr.u.free 2;have far:∀(w':World) (j i:Nat) (u:Value),(w'.setCell ⟨w.heap.size+1,j,none⟩ u).cell? ⟨w.heap.size,i,none⟩=w'.cell? ⟨w.heap.size,i,none⟩:=fun w' j i u=>World.cell?_of_block (w:=w') (heap_setCell_other w' ⟨w.heap.size+1,j,none⟩ w.heap.size u (by simp));refine storeY (i:=9) (w':=((W4.setCell ⟨w.heap.size+1,0,none⟩ (.string t)).setCell ⟨w.heap.size+1,1,none⟩ (J9 lv)).setCell ⟨w.heap.size+1,2,none⟩ (J9 ((q:Int)+1))) rfl (by rfl) (by kernel_rfl) rfl ?hrunS rfl ⟨by rw[far,far,far];exact zz.1,by rw[far,far,far];exact zz.2.1,by rw[far,far,far];exact zz.2.2.1,by rw[far,far,far];exact zz.2.2.2.1,by rw[far,far,far];exact zz.2.2.2.2⟩ ?_
    case hrunS=>simp[execOp,go_sem,r0,r1,r2,f0,f1,f2]
    refine wpAnyH_done (by kernel_rfl) ?_ _;have bR9:=(((HRr.u.set 0 (.string t)).set 1 (J9 lv)).set 2 (J9 ((q:Int)+1)));have HB9:=h_ (((HB2.u.setCell (show w.heap.size<=(⟨w.heap.size+1,0,none⟩:Addr).block by simp) (.string t)).setCell (show w.heap.size<=(⟨w.heap.size+1,1,none⟩:Addr).block by simp) (J9 lv)).setCell (show w.heap.size<=(⟨w.heap.size+1,2,none⟩:Addr).block by simp) (J9 ((q:Int)+1)));obtain⟨W9,hW9⟩:=Nq (((W4.setCell ⟨w.heap.size+1,0,none⟩ (.string t)).setCell ⟨w.heap.size+1,1,none⟩ (J9 lv)).setCell ⟨w.heap.size+1,2,none⟩ (J9 ((q:Int)+1)));rw[hW9]at bR9 HB9⊢;obtain⟨k0,k1,k2⟩:=three bR9;clear hW9 bR9 r0 r1 r2 f0 f1 f2 far zz;go_wp2;exact bodyPost_ret (v:=.agg #[.string t,J9 lv,J9 ((q:Int)+1)]) (by simp[results,Tryz.results198,go_sem, *]) rfl ⟨by rw[HE.u];rfl,HB9.u⟩
def phV (l:List Ph):List Value:=l.flatMap fun p=>[.string p.t,.int .i64 p.lv,.int .i64 p.d]
theorem qkt (l:List Ph):(phV l).length=l.length*3:=by
 induction l with
 | nil=>rfl
 | cons p r ih=>simp only[phV,Z5,Yg,Ys,Y4]at *;omega
theorem q8y (l r:List Ph):phV (l++r)=phV l++phV r:=by simp[phV]
theorem qks (l:List Ph)(k:Nat)(h:k<l.length):(phV l)[k*3]? = some (.string l[k].t)/\(phV l)[k*3+1]? = some (J9 l[k].lv)/\(phV l)[k*3+2]? = some (J9 l[k].d):=by
 induction l generalizing k with
 | nil=>cases h
 | cons p r ih =>
  cases k with
  | zero=>exact⟨rfl,rfl,rfl⟩
  | succ k =>
   have:=ih k (by simpa using h);rw[show(k+1)*3=k*3+1+1+1 by omega];simpa [phV] using this
theorem qfs (l:List Ph)(k:Nat):(phV l).take (k*3)=phV (l.take k):=by
 induction l generalizing k with
 | nil=>simp[phV]
 | cons p r ih =>
  cases k with
  | zero=>simp[phV]
  | succ k =>
   rw[show(k+1)*3=k*3+1+1+1 by omega];have:=ih k;simp only[phV,Z5,List.take_succ_cons]at *;simp[this]
theorem qj3:(Tryz.prog.info? 208).map (fun i=>(i.zero,i.size,i.bytes))=some (some (.agg Jr),3,32):=by kernel_rfl
def StkV (w:World)(B:Nat)(v:Value)(l:List Ph):Prop:=w.ownsRow B 208 3 v l.length (phV l)
theorem StkV.shape {w:World}{B:Nat}{v:Value}{l:List Ph}(h:StkV w B v l):∃a cap,v=.slice a l.length cap/\l.length<=cap/\(a=none->l=[]/\cap=0)/\(∀g o f,a=some ⟨g,o,f⟩->o=0/\f=none/\B<=g/\g<w.heap.size):=by
 rcases h.2 with ⟨rfl,h0⟩ | ⟨g,cap,cur,rfl,hb,hg,hc,-,hs,htake⟩
 . exact⟨none,0,by rw[h0],by omega,fun _=>⟨Z7.1 h0,rfl⟩,fun _ _ _ h=>by cases h⟩
 . exact⟨_,cap,rfl,hc,fun h=>(by cases h),fun g' o f h=>by cases h;exact⟨rfl,rfl,hb,(Yr.1 hg).1⟩⟩
theorem StkV.cell {w:World}{B:Nat}{g cap:Nat}{l:List Ph}(h:StkV w B (.slice (some ⟨g,0,none⟩) l.length cap) l)(j:Nat)(hj:j<l.length*3):w.cell? ⟨g,j,none⟩=(phV l)[j]?:=World.ownsRow.cellAt (show w.ownsRow B 208 3 _ _ _ from h) j hj
theorem StkV.from {w:World}{B:Nat}{a:Option Addr}{cap:Nat}{l:List Ph}(h:StkV w B (.slice a l.length cap) l)(r:Nat)(hr:r<=l.length) :
 Phs w (if cap=r then a else a.map (·.add (r*3))) (l.drop r):=by
 intro k hk
 rw[O5]at hk
 obtain⟨a',cap',e,hc,hn,hs⟩:=h.shape
 simp only[Value.slice.injEq,true_and]at e
 obtain⟨rfl,rfl⟩:=e
 cases a with
 | none=>obtain⟨rfl,-⟩:=hn rfl;simp at hk
 | some ad =>
  obtain⟨g,o,f⟩:=ad;obtain⟨rfl,rfl,-,hlt⟩:=hs g o f rfl;rw[Yt (by omega)];refine⟨g,r*3,by simp[Addr.add];omega,?_⟩;have hg:=qks l (r+k) (by omega);rw[List.getElem_drop];exact⟨hlt,by rw[<- Nat.add_mul,h.cell _ (by omega)];exact hg.1,by rw[<- Nat.add_mul,h.cell _ (by omega)];exact hg.2.1,by rw[<- Nat.add_mul,h.cell _ (by omega)];exact hg.2.2⟩
theorem StkV.upto {w:World}{B:Nat}{a:Option Addr}{cap:Nat}{l:List Ph}(h:StkV w B (.slice a l.length cap) l)(r:Nat)(hr:r<=l.length):StkV w B (.slice a r cap) (l.take r):=by
 have hl:(l.take r).length=r:=by rw[Y6];omega
 unfold StkV
 rw[hl]
 refine⟨by rw[qkt,hl],?_⟩
 rcases h.2 with ⟨e,h0⟩ | ⟨g,cap',cur,e,hb,hg,hc,hx,hs,htake⟩
 . simp only[Value.slice.injEq]at e
   obtain⟨rfl,-,rfl⟩:=e;exact .inl ⟨by rw[show r=0 by omega],by omega⟩
 . simp only[Value.slice.injEq,true_and]at e
   obtain⟨rfl,rfl⟩:=e;refine .inr ⟨g,cap,cur,rfl,hb,hg,by omega,hx,hs,?_⟩;rw[<- qfs,<- htake,List.take_take,O8 (by omega)]
theorem StkV.mono {w w':World}{B:Nat}{v:Value}{l:List Ph}(h:StkV w B v l)(hb:Below w.heap.size w w'):StkV w' B v l:=by
 refine⟨h.1,?_⟩
 rcases h.2 with h' | ⟨g,cap,cur,e,hB,hg,hc,hx,hs,htake⟩
 . exact .inl h'
 . exact .inr ⟨g,cap,cur,e,hB,(hb.block g (Yr.1 hg).1).trans hg,hc,hx,hs,htake⟩
theorem StkV.other {w:World}{B:Nat}{v:Value}{l:List Ph}(h:StkV w B v l){b:Nat}(hb:v.ownBlock≠some b)(j:Nat)(u:Value):StkV (w.setCell ⟨b,j,none⟩ u) B v l:=by
 refine⟨h.1,?_⟩
 rcases h.2 with h' | ⟨g,cap,cur,e,hB,hg,hc,hx,hs,htake⟩
 . exact .inl h'
 . refine .inr ⟨g,cap,cur,e,hB,(heap_setCell_other w ⟨b,j,none⟩ g u ?_).trans hg,hc,hx,hs,htake⟩
   rintro rfl;exact hb (by rw[e];rfl)
theorem q0f {α:Type}(l:List α)(k:Nat)(h:k<=l.length):l.reverse.drop (l.length - k)=(l.take k).reverse:=by
 rw[List.drop_reverse];congr 1;congr 1;omega
theorem q0g {α:Type}(l:List α)(k:Nat)(h:k<=l.length):l.reverse.take (l.length - k)=(l.drop k).reverse:=by
 rw[List.take_reverse];congr 1;congr 1;omega
theorem q4f (e:Nat->Nx)(k A:Nat):tot ((pst e k).take A).reverse<=tot (pst e k):=by rw[q6e];exact qh2 _ _
theorem q5s (e:Nat->Nx)(k A:Nat):mx ((pst e k).take A).reverse<=k:=by rw[q8h];exact q8i e k A
theorem qdj (w:World)(p:Ph):∀(j:Nat) (u:Value),(phV [p])[j]? = some u->(w.alloc (.cells #[.string p.t,J9 p.lv,J9 p.d] 208)).cell? ((⟨w.heap.size,0,none⟩:Addr).add j)=some u:=fun j u h=>by
 have hb:=Blk.new w 208 #[.string p.t,J9 p.lv,J9 p.d]
 match j,h with
 | 0,h=>simp[phV]at h;subst h;exact hb.cell 0
 | 1,h=>simp[phV]at h;subst h;exact hb.cell 1
 | 2,h=>simp[phV]at h;subst h;exact hb.cell 2
theorem q2t {P:Program}{a:Act}{o:Oper}{w w':World}{s x:Operand}{t:TypeId}{v u v':Value}(ho:o.op=.call { callee:=.builtin .append,args:=#[s,x],argTypes:=#[t,t] })(hs:a.eval s=v)(hx:a.eval x=u)(hr:(Builtin.append_ #[t,t] o.type #[v,u]).run P w=.ok v' w'):(execOp a.eval o).run P w=.ok (.value v') w':=by
 unfold execOp
 simp only[ho,resolve,invoke,builtin,Sem.run_bind,Sem.run_pure,Result.andThen_ok,Ok,Zo,Vi,hs,hx,hr]
theorem q65 (a:Option Addr)(m c:Nat)(e:Nat->Nx)(w:World)(hm:m<=9223372036854775807)(ha:Nods w a m e)(hf:∀k,k<m->Fit (e k))(hw:Wrds w)(hp:Pow w) :
 Calls Tryz.prog 191 #[.slice a m c] w fun r w'=>r=.returned (.tuple #[.string (if vxB e m then (top e m).t else ⟨#[]⟩),.bool (vxB e m)])/\Below w.heap.size w w':=by
 by_cases h2:1000<m
 . rw[vxB_no fun h=>by have:=h.2.1;omega]
   go_enter Tryz.func191,Tryz.ntmps191;go_wp2_with fail
   go_ret2
   exact⟨rfl,bR _ _⟩
 have HA:=h_ ha;have HF:=h_ hf;have HW:=h_ hw;have HP:=h_ hp
 obtain⟨r,hr⟩:=Nq (vxB e m)
 obtain⟨t,ht⟩:=Nq ((if vxB e m then (top e m).t else ⟨#[]⟩))
 rw[ht,hr]
 have HR:=h_ hr
 have HN:Hi (¬ vEx e m->r=false/\t=⟨#[]⟩):=h_ fun h=>by rw[<- hr,<- ht,vxB_no h];exact⟨rfl,rfl⟩
 have HY:Hi (vEx e m->r=true/\t=(top e m).t):=h_ fun h=>by rw[<- hr,<- ht,(qmb e m).2 h];exact⟨rfl,rfl⟩
 clear ha hf hr ht hw hp
 go_enter Tryz.func191,Tryz.ntmps191
 go_wp2_with fail
 obtain⟨B,hB⟩:=Nq w.heap.size
 go_loopw [4,6,7,8,14] (fun v _ _ _ i wr=>∃k:Nat,k<=m/\i=J9 k/\StkV wr B v (pst e k).reverse/\okAll e k/\stkOk e k/\(∀j,1<=j->j<=k->(top e j).d<=64/\(top e j).t.size<=4000)/\Below B w wr) (fun _ _ _ _ i _=>m - (intOf i).toNat)
 case atStart=>exact⟨0,nZ _,rfl,⟨rfl,.inl ⟨rfl,rfl⟩⟩,fun k hk=>absurd hk (nL _),fun k hk=>absurd hk (nL _),fun j h1 h0=>by omega,by rw[<- hB];exact bR _ _⟩
 case round =>
  obtain⟨k,hk,rfl,hst,hok,hso,hlim,hb⟩:=hrel;have HST:=h_ hst;have HOK:=h_ hok;have HSO:=h_ hso;have HLM:=h_ hlim;have HB:=h_ hb;have HV:=h_ (HA.u.mono (hb.mono (by omega)));have HWr:=h_ (HW.u.mono (hb.mono (by omega)));have HPr:=h_ (HP.u.mono (hb.mono (by omega)));have hBw:=hb.size;clear hst hok hso hlim hb;have hlr:(pst e k).reverse.length=(stk e k).length:=by rw[Y8,ql1]
  obtain⟨sa,cap,rfl,hcap,hnone,hsome⟩:=HST.u.shape;rw[hlr]at hcap;rw[hlr];have HSH:Hi (StkV wr B (.slice sa (stk e k).length cap) (pst e k).reverse):=h_ (by have:=HST.u;rw[hlr]at this;exact this);have HSM:=h_ hsome;clear HST hnone hsome hlr;have hsl:=qls e k;obtain⟨L,hL⟩:=Nq ((stk e k).length);rw[hL]at HSH hcap hsl⊢;have HL:=h_ hL;clear hL;by_cases hlt:k<m
  . have hlt':(k:Int)<m:=by omega
    obtain⟨b,o,rfl,-,c0,c1,c2,c3,c4⟩:=HV.u k hlt;have HK:=h_ (Blk.new wr 96 #[J9 (e k).op,J9 (e k).v.k,J9 (e k).v.n,.string (e k).v.s,.string (e k).nm]);have HBn:=h_ ((bR wr.heap.size wr).alloc (nR _) (.cells #[J9 (e k).op,J9 (e k).v.k,J9 (e k).v.n,.string (e k).v.s,.string (e k).nm] 96));obtain⟨Wn,hWn⟩:=Nq (wr.alloc (.cells #[J9 (e k).op,J9 (e k).v.k,J9 (e k).v.n,.string (e k).v.s,.string (e k).nm] 96));rw[hWn]at HK HBn;obtain⟨y0,y1,y2,y3,y4⟩:=five HK.u;go_wp2_with fail
    try rw[hWn]
    refine(q7n (e k) _ (HF.u k hlt)).mono ?_;rintro x w1 ⟨rfl,hb⟩;replace HK:=mB HK hb;replace HBn:=mT HBn hb;clear hb c0 c1 c2 c3 c4 y0 y1 y2 y3 y4 hWn;obtain⟨y0,y1,y2,y3,y4⟩:=five HK.u;cases hg:okNode (e k)
    . have HX:=h_ (HN.u fun h=>by have:=h.2.2.1 k hlt;rw[hg]at this;cases this)
      go_wp2_with fail
      go_ret2
      exact⟨by rw[HX.u.1,HX.u.2];rfl,by rw[hB];exact HB.u.trans (HBn.u.mono (by omega))⟩
    have HOK2:Hi (okAll e (k+1)):=h_ fun j hj=>by
     by_cases ej:j=k
     . subst ej;exact hg
     . exact HOK.u j (by omega)
    have HG:=h_ hg;clear hg;go_wp2_with fail;refine(q0d (e k) _).mono ?_;rintro x w2 ⟨rfl,hb⟩;replace HK:=mB HK hb;replace HBn:=mT HBn hb;clear hb y0 y1 y2 y3 y4;obtain⟨y0,y1,y2,y3,y4⟩:=five HK.u;have har:=arn_le (e k);obtain⟨A,hA⟩:=Nq (arn (e k));by_cases hgt:L<A
    . have hgt':(L:Int)<A:=by omega
      have HX:=h_ (HN.u fun h=>by have:=h.2.2.2.1 k hlt;rw[HL.u,hA]at this;omega);rw[hA];clear hA;go_wp2_with fail
      go_ret2
      exact⟨by rw[HX.u.1,HX.u.2];rfl,by rw[hB];exact HB.u.trans (HBn.u.mono (by omega))⟩
    have hgt':¬ (L:Int)<A:=(by omega);have HSO2:Hi (stkOk e (k+1)):=h_ fun j hj=>by
     by_cases ej:j=k
     . subst ej;rw[HL.u,hA];omega
     . exact HSO.u j (by omega)
    rw[hA]at har⊢;have HAe:=h_ hA;clear hA;go_wp2_with fail;refine(show Calls Tryz.prog 197 #[nv (e k)] w2 fun r w'=>r=.returned (J9 (A:Int))/\Below w2.heap.size w2 w' from by rw[<- HAe.u];exact q0d (e k) _).mono ?_;rintro x w3 ⟨rfl,hb⟩;replace HK:=mB HK hb;replace HBn:=mT HBn hb;clear hb y0 y1 y2 y3 y4;obtain⟨y0,y1,y2,y3,y4⟩:=five HK.u;have hwL:wrap64 ((L:Int) - (A:Int))=((L - A:Nat):Int):=(by rw[q4h (by omega) (by omega)];omega);obtain⟨R,hR⟩:=Nq (L - A);rw[hR]at hwL;have hLA:(L:Int) - (A:Int)=(R:Int):=(by omega);have HLR:Hi (L - R=A):=h_ (by omega);have hR1:R<=L:=(by omega);have HAr:Hi (((pst e k).take A).reverse=(pst e k).reverse.drop R):=h_ (by
     have h1:(pst e k).length=L:=(by rw[ql1];exact HL.u);rw[<- q0f (pst e k) A (by omega),h1,hR])
    have HRr:Hi (((pst e k).drop A).reverse=(pst e k).reverse.take R):=h_ (by
     have h1:(pst e k).length=L:=(by rw[ql1];exact HL.u);rw[<- q0g (pst e k) A (by omega),h1,hR])
    have HTP:Hi (top e (k+1)=phr (e k) ((pst e k).take A).reverse):=h_ (by rw[qh0,HAe.u]);have HPS:Hi ((pst e (k+1)).reverse=(pst e k).reverse.take R++[top e (k+1)]):=h_ (by
     rw[show pst e (k+1)=top e (k+1) :: (pst e k).drop (arn (e k)) from rfl,List.reverse_cons,HAe.u,HRr.u])
    have HTT:Hi (tot ((pst e k).take A).reverse<=2000000/\mx ((pst e k).take A).reverse<=1000):=h_ (by
     have h1:=q4f e k A;have h2:=(qm4 e k HSO.u HOK.u (fun j hj=>(HF.u j (by omega)).2.2.2)).2;have h3:=q5s e k A;omega)
    have HLA:Hi (((pst e k).take A).reverse.length=arn (e k)):=h_ (by rw[Y8,Y6,ql1,HL.u,HAe.u];omega);have HSW:=h_ (HSH.u.mono HBn.u);have HWw:=h_ (HWr.u.mono HBn.u);have HPw:=h_ (HPr.u.mono HBn.u);have HBw:=h_ (HB.u.trans (HBn.u.mono (show B<=wr.heap.size by omega)));obtain⟨ao,hao⟩:∃ao,(if cap=R then sa else sa.map (·.add (R*3)))=ao:=⟨_,rfl⟩;have HPh:Hi (Phs w3 ao ((pst e k).take A).reverse):=h_ (by
     have h1:(pst e k).reverse.length=L:=(by rw[Y8,ql1];exact HL.u);have h2:=HSW.u;rw[<- h1]at h2;have h3:=h2.from R (by omega);rw[hao]at h3;rw[HAr.u];exact h3)
    have hNs:=HBn.u.size;have hNw:wr.heap.size<w3.heap.size:=HK.u.lt;have HNX:Hi (∀X,wr.heap.size<=X->(Value.slice sa L cap).ownBlock≠some X):=h_ fun X hX h=>by
     cases sa with
     | none=>cases h
     | some ad=>obtain⟨g,o',f⟩:=ad;have h:g=X:=(by simpa [Value.ownBlock] using h);have:=(HSM.u g o' f rfl).2.2.2;omega
    have hBN:B<=wr.heap.size:=(by omega);obtain⟨N,hN⟩:=Nq wr.heap.size;rw[hN]at hBN HK HNX hNw y0 y1 y2 y3 y4⊢;clear hN hR HAr HRr HSH HBn HB HWr HPr HV HSM HA hNs hBw;go_wp2_with fail;refine wp_region_held_drew (S:=fun w'=>w'.cell? ⟨N,0,none⟩=some (J9 (e k).op)/\w'.cell? ⟨N,1,none⟩=some (J9 (e k).v.k)/\w'.cell? ⟨N,2,none⟩=some (J9 (e k).v.n)/\w'.cell? ⟨N,3,none⟩=some (.string (e k).v.s)/\w'.cell? ⟨N,4,none⟩=some (.string (e k).nm)) (by kernel_rfl) ⟨y0,y1,y2,y3,y4⟩ (fun zz=>?_);clear y0 y1 y2 y3 y4;refine tj 0 33 (.agg #[J9 (e k).op,J9 (e k).v.k,J9 (e k).v.n,.string (e k).v.s,.string (e k).nm]) zz ?_;refine tj 1 34 (.slice sa L cap) zz ?_;refine tj 2 35 (J9 (R:Int)) zz ?_;refine tj 3 36 (.slice ao A (cap - R)) zz ?_ (hy:=fun w hS=>by have hLR:=HLR.u;simp[execOp,go_sem, *]);simp only[sX,sY,sZ];have hcall:∀W:World,Phs W ao ((pst e k).take A).reverse->Wrds W->Pow W->Calls Tryz.prog 198 #[.agg #[J9 (e k).op,J9 (e k).v.k,J9 (e k).v.n,.string (e k).v.s,.string (e k).nm],.slice ao A (cap - R)] W fun r w'=>r=.returned (pv (top e (k+1)))/\Below W.heap.size W w':=fun W h1 h2 h3=>by
     rw[HTP.u,<- HAe.u];rw[<- HAe.u]at h1;have hh:=q45 (e k) ao (cap - R) ((pst e k).take (arn (e k))).reverse W HG.u (HF.u k hlt) (by rw[HAe.u];exact HLA.u.trans HAe.u) h1 (by rw[HAe.u];exact HTT.u.1) (by rw[HAe.u];exact HTT.u.2) h2 h3;exact hh
    have HC:=h_ hcall;clear hcall HTP HLA HTT;obtain⟨p,hp⟩:=Nq (top e (k+1));rw[hp]at HC HPS;have HTE:=h_ hp;clear hp;have HD0:Hi (Below w3.heap.size w3 w3.drew):=h_ ((bR _ _).drew);refine wpAnyH_ready (rs:=[4,5]) (by kernel_rfl) (by simp) (consCall (f:=198) (args:=#[.agg #[J9 (e k).op,J9 (e k).v.k,J9 (e k).v.n,.string (e k).v.s,.string (e k).nm],.slice ao A (cap - R)]) (R:=fun r wz=>r=pv p/\Below w3.heap.size w3 wz) 37 rfl rfl (by rfl) ?hrun1 ((HC.u _ (HPh.u.mono HD0.u) (HWw.u.mono HD0.u) (HPw.u.mono HD0.u)).mono fun e w6 ⟨he,hb⟩=>⟨_,he,rfl,q25 hb⟩) ?pB (consRun (v:=Yc w3.heap.size 0) (w':=w3.drew.alloc (.cells #[Yb,J9 0,J9 0] 208)) 8 rfl rfl (by rfl) ?hrun2 ?hS2 ?pA AllReadyH.nil))
    case hrun1=>simp[execOp,go_sem]
    case hrun2=>simp[execOp,go_sem]
    case hS2 =>
     obtain⟨z0,z1,z2,z3,z4⟩:=five ((HK.u.mono HD0.u HK.u.lt).alloc (.cells #[Yb,J9 0,J9 0] 208));exact⟨z0,z1,z2,z3,z4⟩
    case' pB =>
     rintro r3 W4 ⟨rfl,hb⟩;have hK4:=HK.u.mono hb HK.u.lt;have hS4:=HSW.u.mono hb;have hB4:=HBw.u.trans (hb.mono (by have:=HBw.u.size;omega));have hN4:w3.heap.size<=W4.heap.size:=hb.size;clear hb zz;obtain⟨z0,z1,z2,z3,z4⟩:=five hK4;refine⟨⟨z0,z1,z2,z3,z4⟩,?_⟩;clear z0 z1 z2 z3 z4;simp only[sX,sY,sZ];have hK5:=hK4.alloc (.cells #[Yb,J9 0,J9 0] 208);have hX5:=Blk.new W4 208 #[Yb,J9 0,J9 0];have hS5:=hS4.mono ((bR W4.heap.size W4).alloc (nR _) (.cells #[Yb,J9 0,J9 0] 208));have hB5:=hB4.alloc (by have:=hB4.size;omega) (.cells #[Yb,J9 0,J9 0] 208);obtain⟨z0,z1,z2,z3,z4⟩:=five hK5;refine wpAnyH_ready (rs:=[5]) (by kernel_rfl) (by simp) (consRun (v:=Yc W4.heap.size 0) (w':=W4.alloc (.cells #[Yb,J9 0,J9 0] 208)) 8 rfl rfl (by rfl) ?hrun3 ⟨z0,z1,z2,z3,z4⟩ ?pB2 AllReadyH.nil)
     case hrun3=>simp[execOp,go_sem]
     simp only[sX,sY,sZ];clear z0 z1 z2 z3 z4 hK4 hS4 hB4;obtain⟨X,hX⟩:=Nq W4.heap.size;obtain⟨W6,hW6⟩:=Nq (W4.alloc (.cells #[Yb,J9 0,J9 0] 208));rw[hW6]at hK5 hX5 hS5 hB5⊢;rw[hX]at hX5 hN4⊢;clear hW6 hX;have hNX:N<X:=by omega
    case' pA =>
     simp only[sX,sY,sZ];have hbA:Below w3.heap.size w3 (w3.drew.alloc (.cells #[Yb,J9 0,J9 0] 208)):=q25 ((bR w3.heap.size w3.drew).alloc (nR _) _);have hX4:=Blk.new w3.drew 208 #[Yb,J9 0,J9 0];obtain⟨W5,hW5⟩:=Nq (w3.drew.alloc (.cells #[Yb,J9 0,J9 0] 208));rw[hW5]at hbA hX4⊢;replace hX4:Blk W5 w3.heap.size 208 [Yb,J9 0,J9 0]:=hX4;clear hW5 zz;refine wpAnyH_ready (rs:=[4]) (by kernel_rfl) (by simp) (consCall (f:=198) (args:=#[.agg #[J9 (e k).op,J9 (e k).v.k,J9 (e k).v.n,.string (e k).v.s,.string (e k).nm],.slice ao A (cap - R)]) (R:=fun r wz=>r=pv p/\Below W5.heap.size W5 wz) 37 rfl rfl (by rfl) ?hrun4 ((HC.u _ (HPh.u.mono hbA) (HWw.u.mono hbA) (HPw.u.mono hbA)).mono fun e w6 ⟨he,hb⟩=>⟨_,he,rfl,hb⟩) ?pA2 AllReadyH.nil)
     case hrun4=>simp[execOp,go_sem]
     rintro r3 W6 ⟨rfl,hb⟩;have hK5:=(HK.u.mono hbA HK.u.lt).mono hb (HK.u.mono hbA HK.u.lt).lt;have hX5:=hX4.mono hb hX4.lt;have hS5:=(HSW.u.mono hbA).mono hb;have hBA:=HBw.u.trans (hbA.mono (by have:=HBw.u.size;omega));have hB5:=hBA.trans (hb.mono (by have:=hBA.size;omega));obtain⟨z0,z1,z2,z3,z4⟩:=five hK5;refine⟨⟨z0,z1,z2,z3,z4⟩,?_⟩;simp only[sX,sY,sZ];clear z0 z1 z2 z3 z4 hb hbA hX4 hBA;have hN4:w3.heap.size<=w3.heap.size:=nR _;obtain⟨X,hX⟩:=Nq w3.heap.size;rw[hX]at hX5 hN4 hNw⊢;clear hX;have hNX:N<X:=by omega
    all_goals
     clear HPh HWw HPw HC HD0 HK HSW HBw;obtain⟨z0,z1,z2,z3,z4⟩:=five hK5;obtain⟨r0,r1,r2⟩:=three hX5;have f0:=hX5.free 0;have f1:=hX5.free 1;have f2:=hX5.free 2;have far:∀(w':World) (j i:Nat) (u:Value),(w'.setCell ⟨X,j,none⟩ u).cell? ⟨N,i,none⟩=w'.cell? ⟨N,i,none⟩:=fun w' j i u=>World.cell?_of_block (w:=w') (heap_setCell_other w' ⟨X,j,none⟩ N u (by simp;omega));unfold pv;refine storeY (i:=6) (w':=(((W6.setCell ⟨X,0,none⟩ (.string p.t)).setCell ⟨X,1,none⟩ (J9 p.lv)).setCell ⟨X,2,none⟩ (J9 p.d))) rfl (by rfl) (by kernel_rfl) rfl (by simp[execOp,go_sem,r0,r1,r2,f0,f1,f2]) rfl ⟨by rw[far,far,far];exact z0,by rw[far,far,far];exact z1,by rw[far,far,far];exact z2,by rw[far,far,far];exact z3,by rw[far,far,far];exact z4⟩ ?_;refine wpAnyH_done (by kernel_rfl) ?_ _;have hXne:=HNX.u X (by omega);have hX9:=(((hX5.set 0 (.string p.t)).set 1 (J9 p.lv)).set 2 (J9 p.d));have hS9:=((hS5.other hXne 0 (.string p.t)).other hXne 1 (J9 p.lv)).other hXne 2 (J9 p.d);have hB9:=(((hB5.setCell (p:=⟨X,0,none⟩) (show B<=X by omega) (.string p.t)).setCell (p:=⟨X,1,none⟩) (show B<=X by omega) (J9 p.lv)).setCell (p:=⟨X,2,none⟩) (show B<=X by omega) (J9 p.d));obtain⟨W9,hW9⟩:=Nq ((((W6.setCell ⟨X,0,none⟩ (.string p.t)).setCell ⟨X,1,none⟩ (J9 p.lv)).setCell ⟨X,2,none⟩ (J9 p.d)));rw[hW9]at hX9 hS9 hB9⊢;clear hW9 z0 z1 z2 z3 z4 r0 r1 r2 f0 f1 f2 far hK5 hX5 hS5 hB5;have HX9:=h_ hX9;have HS9:=h_ hS9;have HB9:=h_ hB9;obtain⟨r0,r1,r2⟩:=three hX9;clear hX9 hS9 hB9;by_cases hbad:64<p.d∨4000<p.t.size
     . have HX:=h_ (HN.u fun h=>by have:=h.part (fun j hj=>(HF.u j hj).2.2.2) (show 1<=k+1 by omega) (show k+1<=m by omega);rw[HTE.u]at this;omega)
       by_cases hd:64<p.d
       . have hd':(64:Int)<p.d:=by omega
         clear hbad hd;go_wp2_with fail
         go_ret2
         exact⟨by rw[HX.u.1,HX.u.2];rfl,by first | exact HB9.u | (rw[hB];exact HB9.u)⟩
       . have hd':¬ (64:Int)<p.d:=by omega
         have ht':(4000:Int)<p.t.size:=(by omega);clear hbad hd;go_wp2_with fail
         go_ret2
         exact⟨by rw[HX.u.1,HX.u.2];rfl,by first | exact HB9.u | (rw[hB];exact HB9.u)⟩
     have hd':¬ (64:Int)<p.d:=(by omega);have ht':¬ (4000:Int)<p.t.size:=(by omega);have HLM2:Hi (∀j,1<=j->j<=k+1->(top e j).d<=64/\(top e j).t.size<=4000):=h_ fun j h1 h2=>by
      by_cases ej:j=k+1
      . subst ej;rw[HTE.u];omega
      . exact HLM.u j h1 (by omega)
     clear hbad;go_wp2_with fail;refine wp_region_held_drew (S:=fun W'=>W'.cell? ⟨X,0,none⟩=some (.string p.t)/\W'.cell? ⟨X,1,none⟩=some (J9 p.lv)/\W'.cell? ⟨X,2,none⟩=some (J9 p.d)) (by kernel_rfl) ⟨r0,r1,r2⟩ (fun zz=>?_);clear r0 r1 r2;refine tj 0 47 (.slice sa L cap) zz ?_;refine tj 1 48 (J9 (R:Int)) zz ?_;refine tj 2 49 (.slice sa R cap) zz ?_ (hy:=fun w hS=>by have hc2:(R:Int)<=cap:=(by omega);simp[execOp,go_sem, *]);refine tj 3 50 (.agg #[.string p.t,J9 p.lv,J9 p.d]) zz ?_;simp only[sX,sY,sZ];have hD:Below W9.heap.size W9 (W9.drew.alloc (.cells #[.string p.t,J9 p.lv,J9 p.d] 208)):=q25 ((bR W9.heap.size W9.drew).alloc (nR _) _);have hXX:=HX9.u.mono hD HX9.u.lt;obtain⟨r0,r1,r2⟩:=three hXX;refine wpAnyH_ready (rs:=[4]) (by kernel_rfl) (by simp) (consRun (v:=.slice (some ⟨W9.heap.size,0,none⟩) 1 1) (w':=W9.drew.alloc (.cells #[.string p.t,J9 p.lv,J9 p.d] 208)) 51 rfl rfl (by rfl) (by simp[execOp,go_sem]) ⟨r0,r1,r2⟩ ?_ AllReadyH.nil);simp only[sX,sY,sZ];have hlr:(pst e k).reverse.length=L:=(by rw[Y8,ql1];exact HL.u);have hup:(W9.drew.alloc (.cells #[.string p.t,J9 p.lv,J9 p.d] 208)).ownsRow B 208 3 (.slice sa R cap) R (phV ((pst e k).reverse.take R)):=by
      have h1:=HS9.u;rw[<- hlr]at h1;have h2:=(h1.upto R (by omega)).mono hD;unfold StkV at h2;rw[show((pst e k).reverse.take R).length=R by rw[Y6];omega]at h2;exact h2
     have hnews:=qdj W9.drew p;obtain⟨i0,hi,hz0,hz1,hz2⟩:=info_parts qj3;obtain⟨v',w',hr,ho',hgr',-⟩:=run_append_own (P:=Tryz.prog) (W9.drew.alloc (.cells #[.string p.t,J9 p.lv,J9 p.d] 208)) B 206 206 208 i0 _ 3 32 Tryz.underlying206 hi hz0 hz1 hz2 rfl (by omega) (.slice sa R cap) R _ hup ⟨W9.heap.size,0,none⟩ 1 1 (phV [p]) rfl hnews (by simp[phV,Value.oneCell']) (by unfold maxLen;omega) (by omega) (by have:=HB9.u.size;simp;omega);have hX3:=hXX.grown hgr' (fun h=>hXne (by rw[show(Value.slice sa L cap).ownBlock=(Value.slice sa R cap).ownBlock by cases sa <;> rfl];exact h.symm));have HB3:Hi (Below B w w'):=h_ ((HB9.u.trans (hD.mono (by have:=HB9.u.size;omega))).grown hgr' (by have:=HB9.u.size;simp;omega) (fun q' hq=>q8q hup hq));have HS3:Hi (StkV w' B v' (pst e (k+1)).reverse):=h_ (by
      unfold StkV;rw[HPS.u,q8y,Yg,show((pst e k).reverse.take R).length=R by rw[Y6];omega];exact ho')
     obtain⟨q0,q1,q2⟩:=three hX3;refine wpAnyH_ready (rs:=[5]) (by kernel_rfl) (by simp) (consRun (v:=v') (w':=w') 52 rfl rfl (by rfl) (q2t rfl rfl rfl hr) ⟨q0,q1,q2⟩ ?_ AllReadyH.nil);simp only[sX,sY,sZ];replace zz:w'.cell? ⟨X,0,none⟩=some (.string p.t)/\w'.cell? ⟨X,1,none⟩=some (J9 p.lv)/\w'.cell? ⟨X,2,none⟩=some (J9 p.d):=⟨q0,q1,q2⟩;clear hr ho' hgr' hnews hup hX3 hXX hD hi hz0 hz1 hz2 r0 r1 r2 q0 q1 q2 hlr hao;refine tj 6 4 v' zz ?_;simp only[sX,sY,sZ];refine wpAnyH_done (by kernel_rfl) ?_ _;clear zz;go_wp2_with fail;go_roundw
     case rel=>first | exact⟨k+1,by omega,by go_num,HS3.u,HOK2.u,HSO2.u,HLM2.u,HB3.u⟩ | ((repeat apply Exists.intro);exact⟨⟨k+1,by omega,by go_num,HS3.u,HOK2.u,HSO2.u,HLM2.u,HB3.u⟩,rfl⟩)
     case measure=>simp[intOf];omega
  . obtain rfl:k=m:=by omega
    have hlt':¬ (k:Int)<(k:Int):=(by omega);by_cases h1:L=1
    . subst h1
      have hone:=HL.u;have hk1:1<=k:=(by omega);have hlm:=HLM.u k hk1 (nR _);have HX:=h_ (HY.u ⟨hk1,by omega,HOK.u,HSO.u,hone,hlm.1,hlm.2⟩);have hrev:(pst e k).reverse=[top e k]:=(by rw[ql3 hone];rfl);have hS:=HSH.u;rw[hrev]at hS;obtain⟨a',cap',e1,-,hn',hs'⟩:=hS.shape;simp only[Ys,Y4,Value.slice.injEq,true_and]at e1;obtain⟨rfl,rfl⟩:=e1;cases sa with
      | none=>exact absurd (hn' rfl).1 (by simp)
      | some ad =>
       obtain⟨g,o',f⟩:=ad;obtain⟨rfl,rfl,-,-⟩:=hs' g o' f rfl;have z0:=StkV.cell (l:=[top e k]) hS 0 (by simp);simp only[phV,Z5,List.flatMap_nil,Zz,Yh]at z0;clear hS hs' hn' hone hrev;go_wp2_with fail
       go_ret2
       exact⟨by rw[HX.u.1,HX.u.2];rfl,by first | exact HB.u | (rw[hB];exact HB.u)⟩
    . have HX:=h_ (HN.u fun h=>h1 (by rw[<- HL.u];exact h.2.2.2.2.1))
      have h1':((L:Int) != 1)=true:=(by simp;omega);go_wp2_with fail
      go_ret2
      exact⟨by rw[HX.u.1,HX.u.2];rfl,by first | exact HB.u | (rw[hB];exact HB.u)⟩
end Go.Proofs.YtebbgodlijlioaaGreatDoor
