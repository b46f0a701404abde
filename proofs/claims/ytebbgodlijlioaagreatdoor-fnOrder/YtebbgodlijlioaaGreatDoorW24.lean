import Derived.Test.YtebbgodlijlioaaGreatDoorW20
set_option maxRecDepth 100000
set_option maxHeartbeats 64000000
namespace Go.Proofs.YtebbgodlijlioaaGreatDoor
open Go Go.RowKit
def rowL (i b:Nat):List (Int × Int):=(([1,2,4]:List Nat).filter fun c=>decide (c<b)&&decide (i / c % 2=0)).map fun (c:Nat)=>((i:Int),(i:Int)+c)
theorem qlf (i b:Nat)(hb:b=1∨b=2∨b=4):rowL i (b*2)=rowL i b++(if i / b % 2=0 then [((i:Int),(i:Int)+b)] else []):=by
 by_cases h1:i / 1 % 2=0 <;> by_cases h2:i / 2 % 2=0 <;> by_cases h4:i / 4 % 2=0 <;> rcases hb with rfl | rfl | rfl <;> simp only[rowL,List.filter,h1,h2,h4] <;> simp
theorem qle (i:Nat):rowL i 1=[]:=by simp[rowL]
theorem qld (i b:Nat):(rowL i b).length<=3:=by
 rw[rowL,Y7];exact Vr _ _
def cubeL (k:Nat):List (Int × Int):=(List.range k).flatMap fun i=>rowL i 8
theorem qaa (k:Nat):cubeL (k+1)=cubeL k++rowL k 8:=by simp[cubeL,List.range_succ]
theorem qdk:∀k,(cubeL k).length<=k*3
 | 0=>nR _
 | k+1=>by rw[qaa,Yg];have:=qdk k;have:=qld k 8;omega
theorem q3n (n:Int)(w:World) :
 Calls Tryz.prog 101 #[J9 2,J9 n] w fun e w'=>OrdOut w 8 (cubeL 8) e w':=by
 obtain⟨W,hW⟩:=Nq (w.alloc (.cells J4 39))
 have hWs:W.heap.size=w.heap.size+1:=by rw[<- hW];simp
 have bR:Blk W w.heap.size 39 [J9 0,Ya]:=by rw[<- hW];exact Blk.new w 39 J4
 have hb:Below w.heap.size w W:=by rw[<- hW];exact(Below.refl _ _).alloc (nR _) _
 have HR:=h_ bR;have HB:=h_ hb;have HWS:=h_ hWs
 clear bR hb
 go_enter Tryz.func101,Tryz.ntmps101
 go_wp2
 try rw[hW]
 go_loopw [5,8] (fun v i wr=>∃k:Nat,k<=8/\i=J9 k/\wr.ownsRow W.heap.size 64 2 v (cubeL k).length (pp (cubeL k))/\Below W.heap.size W wr) (fun _ i _=>8 - (intOf i).toNat)
 case atStart=>exact⟨0,nZ _,rfl,(by have h:=q8t W 64;rw[HWS.u]at h⊢;exact h),(Below.refl _ _).alloc (nR _) _⟩
 case round =>
  obtain⟨k,hk,rfl,hO,hB⟩:=hrel;have HO:=h_ hO;have HBr:=h_ hB;clear hO hB hW hWs;by_cases hlt:k<8
  . have hlt':(k:Int)<8:=by omega
    go_wp2;go_loopw [5,9] (fun v b wr=>∃c:Nat,(c=1∨c=2∨c=4∨c=8)/\b=J9 c/\wr.ownsRow W.heap.size 64 2 v (cubeL k++rowL k c).length (pp (cubeL k++rowL k c))/\Below W.heap.size W wr) (fun _ b _=>8 - (intOf b).toNat)
    case atStart=>exact⟨1,.inl rfl,rfl,by rw[qle,Zz];exact HO.u,HBr.u⟩
    case round =>
     clear HO HBr;obtain⟨c,hc,rfl,hO,hB⟩:=hrel;have HO:=h_ hO;have HBr:=h_ hB;clear hO hB;by_cases hc8:c<8
     . have hc8':(c:Int)<8:=by omega
       have hc3:c=1∨c=2∨c=4:=(by omega);have hc0:¬ (c:Int)=0:=(by omega);have hl:=qdk k;have hl2:=qld k c;have hlen:(cubeL k++rowL k c).length<=27:=(by rw[Yg];omega);obtain⟨L,hL⟩:=Nq (cubeL k++rowL k c);have HT:Hi (cubeL k++rowL k (c*2)=L++(if k / c % 2=0 then [((k:Int),(k:Int)+c)] else [])):=h_ (by rw[qlf k c hc3,<- Z6,hL]);rw[hL]at HO hlen;clear hL hl hl2;have hw:wrap64 ((k:Int) / c)=((k / c:Nat):Int):=by
        have key:∀(x:Fin 8) (y:Fin 5),wrap64 ((x.val:Int) / (y.val:Int))=((x.val / y.val:Nat):Int):=(by decide +kernel);exact key ⟨k,hlt⟩ ⟨c,by omega⟩
       have ht:(wrap64 ((k:Int) / c)).tmod 2=((k / c % 2:Nat):Int):=(by rw[hw];rfl);clear hw;by_cases hd:k / c % 2=0
       . have hd':((wrap64 ((k:Int) / c)).tmod 2==0)=true:=by rw[ht,hd];rfl
         clear ht;rw[Yz hd]at HT;obtain⟨i0,hi,hz0,hz1,hz2⟩:=info_parts qb1;go_wp2_with (at_builtin;refine wpList_append_own_at _ rfl _ _ 24 rfl W.heap.size 64 i0 _ 2 16 Tryz.underlying24 hi hz0 hz1 hz2 rfl (by omega) _ _ _ rfl (HO.u.alloc _) ⟨wr.heap.size,0,none⟩ 1 1 [J9 k,J9 ((k:Int)+c)] rfl rfl (qdi wr 64 _ _) (by simp[Value.oneCell']) (by unfold maxLen;omega) (by omega) (by have:=HBr.u.size;simp;omega) ?_);intro v' w3 ho' hgr' _ _;have hB3:=(HBr.u.alloc HBr.u.size (.cells (Jp k ((k:Int)+c)) 64)).grown hgr' (by have:=HBr.u.size;simp;omega) (fun q' e=>q8q HO.u e);have HO3:Hi (w3.ownsRow W.heap.size 64 2 v' (cubeL k++rowL k (c*2)).length (pp (cubeL k++rowL k (c*2)))):=h_ (by rw[HT.u,qkz,Yg];exact ho');have HB3:=h_ hB3;clear hgr' hB3 ho' HO HBr hi hz0 hz1 hz2 HT;go_wp2;go_roundw
         case rel=>exact⟨c*2,by omega,by go_num,HO3.u,HB3.u⟩
         case measure=>simp[intOf];omega
       . have hd':((wrap64 ((k:Int) / c)).tmod 2==0)=false:=by rw[ht,Yf];omega
         clear ht;rw[Yt hd,Zz]at HT;go_wp2;go_roundw
         case rel=>exact⟨c*2,by omega,by go_num,by rw[HT.u];exact HO.u,HBr.u⟩
         case measure=>simp[intOf];omega
     . obtain rfl:c=8:=by omega
       have HO3:Hi (wr.ownsRow W.heap.size 64 2 u5 (cubeL (k+1)).length (pp (cubeL (k+1)))):=h_ (by rw[qaa];exact HO.u);go_wp2;go_roundw
       case rel=>exact⟨k+1,by omega,by go_num,HO3.u,HBr.u⟩
       case measure=>simp[intOf];omega
  . obtain rfl:k=8:=by omega
    obtain⟨a,cap,rfl,-⟩:=q2o HO.u;have bR:=HR.u.mono HBr.u (by have:=HWS.u;omega);obtain⟨r0,r1⟩:wr.cell? ⟨w.heap.size,0,none⟩=some (J9 0)/\wr.cell? ⟨w.heap.size,1,none⟩=some Ya:=⟨bR.cell 0,bR.cell 1⟩;have f0:=bR.free 0;have f1:=bR.free 1;clear bR;go_wp2;refine bodyPost_ret (v:=.agg #[J9 8,.slice a (cubeL 8).length cap]) (by simp[results,Tryz.results101,go_sem, *]) rfl ⟨_,rfl,?_,?_⟩
    . exact qby (qfo (qfo HO.u (by have:=HWS.u;omega)) (by have:=HWS.u;omega)) (by have:=HWS.u;omega)
    . exact((HB.u.trans (HBr.u.mono (by have:=HWS.u;omega))).setCell (nR _) _).setCell (nR _) _
def cellX (w y x:Nat):List (Int × Int):=if x+1<w then [((y:Int)*w+x,(y:Int)*w+x+1)] else []
def cellY (w y x:Nat):List (Int × Int):=if y+1<3 then [((y:Int)*w+x,((y:Int)+1)*w+x)] else []
theorem q9t (w y x:Nat):(cellX w y x).length<=1:=by unfold cellX;split <;> simp
theorem q9u (w y x:Nat):(cellY w y x).length<=1:=by unfold cellY;split <;> simp
def rowG (w y x:Nat):List (Int × Int):=(List.range x).flatMap fun x=>cellX w y x++cellY w y x
theorem qca (w y x:Nat):rowG w y (x+1)=rowG w y x++cellX w y x++cellY w y x:=by simp[rowG,List.range_succ]
theorem qg7 (w y:Nat):∀x,(rowG w y x).length<=x*2
 | 0=>nR _
 | x+1=>by rw[qca,Yg,Yg];have:=qg7 w y x;have:=q9t w y x;have:=q9u w y x;omega
def gridL (w y:Nat):List (Int × Int):=(List.range y).flatMap fun y=>rowG w y w
theorem qaw (w y:Nat):gridL w (y+1)=gridL w y++rowG w y w:=by simp[gridL,List.range_succ]
theorem qe6 (w:Nat)(hw:w<=4):∀y,(gridL w y).length<=y*8
 | 0=>nR _
 | y+1=>by rw[qaw,Yg];have:=qe6 w hw y;have:=qg7 w y w;omega
theorem q3o (n:Nat)(w:World)(hn:n<=1024)(D:Nat)(hD:n % 3+2=D) :
 Calls Tryz.prog 101 #[J9 3,J9 n] w fun e w'=>OrdOut w (3*(D:Int)) (gridL D 3) e w':=by
 have hD4:2<=D/\D<=4:=by omega
 have hD':(n:Int) % 3+2=D:=by omega
 have hD2:(n:Int).tmod 3+2=D:=by rw[<- hD];rfl
 clear hD
 obtain⟨W,hW⟩:=Nq (w.alloc (.cells J4 39))
 have hWs:W.heap.size=w.heap.size+1:=by rw[<- hW];simp
 have bR:Blk W w.heap.size 39 [J9 0,Ya]:=by rw[<- hW];exact Blk.new w 39 J4
 have hb:Below w.heap.size w W:=by rw[<- hW];exact(Below.refl _ _).alloc (nR _) _
 have HR:=h_ bR;have HB:=h_ hb;have HWS:=h_ hWs
 clear bR hb
 go_enter Tryz.func101,Tryz.ntmps101
 go_wp2
 try rw[hW]
 go_loopw [5,11] (fun v i wr=>∃k:Nat,k<=3/\i=J9 k/\wr.ownsRow W.heap.size 64 2 v (gridL D k).length (pp (gridL D k))/\Below W.heap.size W wr) (fun _ i _=>3 - (intOf i).toNat)
 case atStart=>exact⟨0,nZ _,rfl,(by have h:=q8t W 64;rw[HWS.u]at h⊢;exact h),(Below.refl _ _).alloc (nR _) _⟩
 case round =>
  obtain⟨k,hk,rfl,hO,hB⟩:=hrel;have HO:=h_ hO;have HBr:=h_ hB;clear hO hB hW hWs;by_cases hlt:k<3
  . have hlt':(k:Int)<3:=by omega
    go_wp2;go_loopw [5,12] (fun v b wr=>∃c:Nat,c<=D/\b=J9 c/\wr.ownsRow W.heap.size 64 2 v (gridL D k++rowG D k c).length (pp (gridL D k++rowG D k c))/\Below W.heap.size W wr) (fun _ b _=>D - (intOf b).toNat)
    case atStart=>exact⟨0,nZ _,rfl,by rw[show rowG D k 0=[] from rfl,Zz];exact HO.u,HBr.u⟩
    case round =>
     clear HO HBr;obtain⟨c,hc,rfl,hO,hB⟩:=hrel;have HO:=h_ hO;have HBr:=h_ hB;clear hO hB;by_cases hcD:c<D
     . have hcD':(c:Int)<D:=by omega
       have hl:=qe6 D hD4.2 k;have hl2:=qg7 D k c;have hlen:(gridL D k++rowG D k c).length<=32:=(by rw[Yg];omega);obtain⟨L,hL⟩:=Nq (gridL D k++rowG D k c);have HT:Hi (gridL D k++rowG D k (c+1)=L++cellX D k c++cellY D k c):=h_ (by rw[qca,<- Z6,<- Z6,hL]);rw[hL]at HO hlen;clear hL hl hl2;have p1:(0:Int)<=(k:Int)*D/\(k:Int)*D<=8:=by
        have:k*D<=2*4:=Ox (by omega) hD4.2;have h2:(k:Int)*D=((k*D:Nat):Int):=(by simp);rw[h2];omega
       have p2:(0:Int)<=((k:Int)+1)*D/\((k:Int)+1)*D<=12:=(by rw[Int.add_mul,Int.one_mul];omega);have step:∀(v:Value) (wr:World),Hi (wr.ownsRow W.heap.size 64 2 v (gridL D k++rowG D k (c+1)).length (pp (gridL D k++rowG D k (c+1))))->Hi (Below W.heap.size W wr)->∃c':Nat,c'<=D/\(Value.int .i64 ((c:Int)+1))=J9 c'/\wr.ownsRow W.heap.size 64 2 v (gridL D k++rowG D k c').length (pp (gridL D k++rowG D k c'))/\Below W.heap.size W wr:=fun v wr a b=>⟨c+1,by omega,by simp,a.u,b.u⟩;obtain⟨i0,hi,hz0,hz1,hz2⟩:=info_parts qb1;by_cases hx:c+1<D <;> by_cases hy:k+1<3
       . have hx':((c:Int)+1<D):=by omega
         have hy':((k:Int)+1<3):=(by omega);simp only[cellX,cellY,Yz hx,Yz hy]at HT;go_wp2_with (at_builtin;refine wpList_append_own_at _ rfl _ _ 24 rfl W.heap.size 64 i0 _ 2 16 Tryz.underlying24 hi hz0 hz1 hz2 rfl (by omega) _ _ _ rfl (HO.u.alloc _) ⟨wr.heap.size,0,none⟩ 1 1 [J9 ((k:Int)*D+c),J9 ((k:Int)*D+c+1)] rfl rfl (qdi wr 64 _ _) (by simp[Value.oneCell']) (by unfold maxLen;omega) (by omega) (by have:=HBr.u.size;simp;omega) ?_);intro v3 w3 ho' hgr' _ _;have hB3:=(HBr.u.alloc HBr.u.size (.cells (Jp ((k:Int)*D+c) ((k:Int)*D+c+1)) 64)).grown hgr' (by have:=HBr.u.size;simp;omega) (fun q' e=>q8q HO.u e);have HO3:Hi (w3.ownsRow W.heap.size 64 2 v3 (L.length+1) (pp (L++[((k:Int)*D+c,(k:Int)*D+c+1)]))):=h_ (by rw[qkz];exact ho');have HB3:=h_ hB3;clear hgr' hB3 ho' HO HBr;go_wp2_with (at_builtin;refine wpList_append_own_at _ rfl _ _ 24 rfl W.heap.size 64 i0 _ 2 16 Tryz.underlying24 hi hz0 hz1 hz2 rfl (by omega) _ _ _ rfl (HO3.u.alloc _) ⟨w3.heap.size,0,none⟩ 1 1 [J9 ((k:Int)*D+c),J9 (((k:Int)+1)*D+c)] rfl rfl (qdi w3 64 _ _) (by simp[Value.oneCell']) (by unfold maxLen;omega) (by omega) (by have:=HB3.u.size;simp;omega) ?_);intro v4 w4 ho' hgr' _ _;have hB4:=(HB3.u.alloc HB3.u.size (.cells (Jp ((k:Int)*D+c) (((k:Int)+1)*D+c)) 64)).grown hgr' (by have:=HB3.u.size;simp;omega) (fun q' e=>q8q HO3.u e);have HO4:Hi (w4.ownsRow W.heap.size 64 2 v4 (L.length+1+1) (pp (L++[((k:Int)*D+c,(k:Int)*D+c+1)]++[((k:Int)*D+c,((k:Int)+1)*D+c)]))):=h_ (by rw[qkz];exact ho');have HB4:=h_ hB4;clear hgr' hB4 ho' HO3 HB3;go_wp2;go_roundw
         case rel=>exact step _ _ (by rw[HT.u];simpa only[Yg,Ob] using HO4) HB4
         case measure=>simp[intOf];omega
       . have hx':((c:Int)+1<D):=by omega
         have hy':¬ ((k:Int)+1<3):=(by omega);simp only[cellX,cellY,Yz hx,Yt hy,Zz]at HT;go_wp2_with (at_builtin;refine wpList_append_own_at _ rfl _ _ 24 rfl W.heap.size 64 i0 _ 2 16 Tryz.underlying24 hi hz0 hz1 hz2 rfl (by omega) _ _ _ rfl (HO.u.alloc _) ⟨wr.heap.size,0,none⟩ 1 1 [J9 ((k:Int)*D+c),J9 ((k:Int)*D+c+1)] rfl rfl (qdi wr 64 _ _) (by simp[Value.oneCell']) (by unfold maxLen;omega) (by omega) (by have:=HBr.u.size;simp;omega) ?_);intro v3 w3 ho' hgr' _ _;have hB3:=(HBr.u.alloc HBr.u.size (.cells (Jp ((k:Int)*D+c) ((k:Int)*D+c+1)) 64)).grown hgr' (by have:=HBr.u.size;simp;omega) (fun q' e=>q8q HO.u e);have HO3:Hi (w3.ownsRow W.heap.size 64 2 v3 (L.length+1) (pp (L++[((k:Int)*D+c,(k:Int)*D+c+1)]))):=h_ (by rw[qkz];exact ho');have HB3:=h_ hB3;clear hgr' hB3 ho' HO HBr;go_wp2;go_roundw
         case rel=>exact step _ _ (by rw[HT.u];simpa only[Yg,Ob] using HO3) HB3
         case measure=>simp[intOf];omega
       . have hx':¬ ((c:Int)+1<D):=by omega
         have hy':((k:Int)+1<3):=(by omega);simp only[cellX,cellY,Yt hx,Yz hy,Zz]at HT;go_wp2_with (at_builtin;refine wpList_append_own_at _ rfl _ _ 24 rfl W.heap.size 64 i0 _ 2 16 Tryz.underlying24 hi hz0 hz1 hz2 rfl (by omega) _ _ _ rfl (HO.u.alloc _) ⟨wr.heap.size,0,none⟩ 1 1 [J9 ((k:Int)*D+c),J9 (((k:Int)+1)*D+c)] rfl rfl (qdi wr 64 _ _) (by simp[Value.oneCell']) (by unfold maxLen;omega) (by omega) (by have:=HBr.u.size;simp;omega) ?_);intro v4 w4 ho' hgr' _ _;have hB4:=(HBr.u.alloc HBr.u.size (.cells (Jp ((k:Int)*D+c) (((k:Int)+1)*D+c)) 64)).grown hgr' (by have:=HBr.u.size;simp;omega) (fun q' e=>q8q HO.u e);have HO4:Hi (w4.ownsRow W.heap.size 64 2 v4 (L.length+1) (pp (L++[((k:Int)*D+c,((k:Int)+1)*D+c)]))):=h_ (by rw[qkz];exact ho');have HB4:=h_ hB4;clear hgr' hB4 ho' HO HBr;go_wp2;go_roundw
         case rel=>exact step _ _ (by rw[HT.u];simpa only[Yg,Ob] using HO4) HB4
         case measure=>simp[intOf];omega
       . have hx':¬ ((c:Int)+1<D):=by omega
         have hy':¬ ((k:Int)+1<3):=(by omega);simp only[cellX,cellY,Yt hx,Yt hy,Zz]at HT;go_wp2;go_roundw
         case rel=>exact step _ _ (by rw[HT.u];exact HO) HBr
         case measure=>simp[intOf];omega
     . obtain rfl:c=D:=by omega
       have HO3:Hi (wr.ownsRow W.heap.size 64 2 u5 (gridL c (k+1)).length (pp (gridL c (k+1)))):=h_ (by rw[qaw];exact HO.u);go_wp2;go_roundw
       case rel=>exact⟨k+1,by omega,by go_num,HO3.u,HBr.u⟩
       case measure=>simp[intOf];omega
  . obtain rfl:k=3:=by omega
    obtain⟨a,cap,rfl,-⟩:=q2o HO.u;have bR:=HR.u.mono HBr.u (by have:=HWS.u;omega);obtain⟨r0,r1⟩:wr.cell? ⟨w.heap.size,0,none⟩=some (J9 0)/\wr.cell? ⟨w.heap.size,1,none⟩=some Ya:=⟨bR.cell 0,bR.cell 1⟩;have f0:=bR.free 0;have f1:=bR.free 1;clear bR;go_wp2;refine bodyPost_ret (v:=.agg (Jm (3*(D:Int)) a (gridL D 3).length cap)) (by simp[results,Tryz.results101,go_sem, *]) rfl ⟨_,rfl,?_,?_⟩
    . exact qby (qfo (qfo HO.u (by have:=HWS.u;omega)) (by have:=HWS.u;omega)) (by have:=HWS.u;omega)
    . exact((HB.u.trans (HBr.u.mono (by have:=HWS.u;omega))).setCell (nR _) _).setCell (nR _) _
def turnL (N by':Int)(l:List (Int × Int)):List (Int × Int):=l.map fun u=>((u.1+by') % N,(u.2+by') % N)
theorem qh4 (N b:Int)(l:List (Int × Int)):(turnL N b l).length=l.length:=by simp[turnL]
theorem qcx (N b:Int)(l:List (Int × Int))(k:Nat)(hk:k<l.length):turnL N b (l.take (k+1))=turnL N b (l.take k)++[(((l.getD k (0,0)).1+b) % N,((l.getD k (0,0)).2+b) % N)]:=by
 have h:l.take (k+1)=l.take k++[l[k]]:=by rw[Vv,Yi hk];rfl
 rw[h,Yl,Yi hk]
 show List.map _ (_++[_])=_
 rw[Zf]
 rfl
def Small (l:List (Int × Int)):Prop:=∀k,k<l.length->(0<=(l.getD k (0,0)).1/\(l.getD k (0,0)).1<=1000)/\0<=(l.getD k (0,0)).2/\(l.getD k (0,0)).2<=1000
def FourC (w:World)(R bb o:Nat)(N:Nat)(v:Value)(x y:Nat):Prop:=w.cell? ⟨R,0,none⟩=some (.int .i64 N)/\w.cell? ⟨R,1,none⟩=some v/\w.cell? ⟨bb,o,none⟩=some (.int .i64 x)/\w.cell? ⟨bb,o+1,none⟩=some (.int .i64 y)
theorem FourC.below {w w':World}{R bb o N x y:Nat}{v:Value}(h:FourC w R bb o N v x y){B:Nat}(hb:Below B w w')(h1:R<B)(h2:bb<B):FourC w' R bb o N v x y :=
 ⟨(hb.cell h1).trans h.1,(hb.cell h1).trans h.2.1,(hb.cell h2).trans h.2.2.1,(hb.cell h2).trans h.2.2.2⟩
theorem q7t (N b:Nat)(l:List (Int × Int))(a:Option Addr)(c:Nat)(w:World)(hN:1<=N)(hN2:N<=1000)(hb:b<=1000)(hl:l.length<=4096)(hs:Small l)
 (hP:Pairs w a l.length (fun k=>(l.getD k (0,0)).1) (fun k=>(l.getD k (0,0)).2)) :
 Calls Tryz.prog 102 #[.agg (Jm N a l.length c),J9 b] w fun e w'=>OrdOut w N (turnL N b l) e w':=by
 obtain⟨W,hW⟩:=Nq ((w.alloc (.cells (Jm N a l.length c) 39)).alloc (.cells J4 39))
 have hWs:W.heap.size=w.heap.size+2:=by rw[<- hW];simp
 have bO:Blk W w.heap.size 39 [J9 N,.slice a l.length c]:=by rw[<- hW];exact(Blk.new w 39 (Jm N a l.length c)).alloc _
 have bR:Blk W (w.heap.size+1) 39 [J9 0,Ya]:=by rw[<- hW];simpa using Blk.new (w.alloc (.cells (Jm N a l.length c) 39)) 39 J4
 have hbw:Below w.heap.size w W:=by rw[<- hW];exact((Below.refl _ _).alloc (nR _) _).alloc (by simp) _
 have HO:=h_ bO;have HR:=h_ bR;have HB:=h_ hbw;have HWS:=h_ hWs
 have HPW:=h_ (hP.mono hbw);have HS:=h_ hs
 clear bO bR hbw hP hs
 obtain⟨m,hm⟩:=Nq l.length
 rw[hm]at hl HO HPW⊢
 have HM:=h_ hm
 rw[hm]at hW
 clear hm
 go_enter Tryz.func102,Tryz.ntmps102
 go_wp2
 try rw[hW]
 go_loopw [5,6] (fun v i wr=>∃k:Nat,k<=m/\i=J9 k/\wr.ownsRow W.heap.size 64 2 v k (pp (turnL N b (l.take k)))/\Below W.heap.size W wr) (fun _ i _=>m - (intOf i).toNat)
 case atStart=>exact⟨0,nZ _,rfl,(by have h:=q8t W 64;rw[HWS.u]at h⊢;exact h),(Below.refl _ _).alloc (nR _) _⟩
 case round =>
  obtain⟨k,hk,rfl,hO,hB⟩:=hrel;have HOr:=h_ hO;have HBr:=h_ hB;have bR:=HR.u.mono hB HR.u.lt;clear hO hB hW hWs;by_cases hlt:k<m
  . have hlt':(k:Int)<m:=by omega
    obtain⟨bb,off,rfl,hbl,c0,c1⟩:=HPW.u k hlt;have hsm:=HS.u k (by rw[HM.u];exact hlt);have HT:=h_ (qcx N b l k (by rw[HM.u];exact hlt));obtain⟨x,hx⟩:∃x:Nat,(l.getD k (0,0)).1=x:=⟨(l.getD k (0,0)).1.toNat,by omega⟩;obtain⟨y,hy⟩:∃y:Nat,(l.getD k (0,0)).2=y:=⟨(l.getD k (0,0)).2.toNat,by omega⟩;rw[hx,hy]at hsm HT;simp only[hx]at c0;simp only[hy]at c1;clear hx hy;clear bR;have hN0:¬ (N:Int)=0:=(by omega);have hN1:¬ N=0:=(by omega);obtain⟨X,hX⟩:=Nq ((x+b) % N);obtain⟨Y,hY⟩:=Nq ((y+b) % N);have hX1:X<N:=(by rw[<- hX];exact On _ hN);have hY1:Y<N:=(by rw[<- hY];exact On _ hN);have hX2:((x:Int)+b).tmod N=X:=(by rw[<- hX];rfl);have hY2:((y:Int)+b).tmod N=Y:=(by rw[<- hY];rfl);have hX3:((x:Int)+b) % N=X:=(by rw[<- hX];rfl);have hY3:((y:Int)+b) % N=Y:=(by rw[<- hY];rfl);have hX4:IntKind.i64.wrap (X:Int)=X:=qix _ (by omega);have hY4:IntKind.i64.wrap (Y:Int)=Y:=qix _ (by omega);have hX5:IntKind.i64.wrap ((x:Int)+b)=x+b:=qix (x+b) (by omega);have hY5:IntKind.i64.wrap ((y:Int)+b)=y+b:=qix (y+b) (by omega);rw[hX3,hY3]at HT;clear hX hY;obtain⟨i0,hi,hz0,hz1,hz2⟩:=info_parts qb1;have F0:Hi (FourC W w.heap.size bb (off+k*2) N (.slice (some ⟨bb,off,none⟩) m c) x y):=h_ ⟨HO.u.cell 0,HO.u.cell 1,c0,c1⟩;have hwW:w.heap.size<W.heap.size:=HO.u.lt;have FB:∀w',Below W.heap.size W w'->FourC w' w.heap.size bb (off+k*2) N (.slice (some ⟨bb,off,none⟩) m c) x y:=fun w' hb=>F0.u.below hb hwW hbl;obtain⟨o0,o1,c0',c1'⟩:=FB wr HBr.u;have HBd:Hi (Below W.heap.size W wr.drew):=h_ (HBr.u.trans ((q33 wr 1).mono HBr.u.size));have S0:=h_ (FB _ HBd.u);have HBa:∀o,Hi (Below W.heap.size W (wr.drew.alloc o)):=fun o=>h_ (HBd.u.alloc HBd.u.size o);have S1:=fun o=>h_ (FB _ (u_ (HBa o)));replace FB:=h_ FB;have HBB:=h_ hbl;clear c0 c1 c0' c1' F0 hbl hwW;go_wp2_with fail;clear o0 o1;go_region_held3 (fun w'=>w'.cell? ⟨w.heap.size,0,none⟩=some (J9 N)/\w'.cell? ⟨w.heap.size,1,none⟩=some (.slice (some ⟨bb,off,none⟩) m c)/\w'.cell? ⟨bb,off+k*2,none⟩=some (J9 x)/\w'.cell? ⟨bb,off+k*2+1,none⟩=some (J9 y)) (first | exact S0.u | exact u_ (S1 _) | exact S2.u) ((refine step_append_lies _ rfl (.tmp 15) (.tmp 39) 24 rfl W.heap.size 64 i0 _ 2 16 Tryz.underlying24 hi hz0 hz1 hz2 rfl (by omega) u5 k _ rfl ((show wr.drew.ownsRow _ _ _ _ _ _ from HOr.u).alloc _) ⟨wr.heap.size,0,none⟩ 1 1 [J9 X,J9 Y] rfl rfl (qdi wr.drew 64 _ _) (by simp[Value.oneCell']) (by omega) (by unfold maxLen;omega) (by omega) (by have:=HBr.u.size;simp;omega) _ rfl ?_;intro g cap w3 ho' hgr' _ _;have HB3:=h_ ((u_ (HBa _)).grown hgr' (by have:=HBr.u.size;simp;omega) (fun q' e=>q8q HOr.u e));have S2:=h_ (FB.u _ HB3.u)));have HO3:Hi (w3.ownsRow W.heap.size 64 2 (.slice (some ⟨g,0,none⟩) (k+1) cap) (k+1) (pp (turnL N b (l.take (k+1))))):=h_ (by rw[HT.u,qkz];exact ho');clear hgr' ho' S0 S1 S2 FB HBa HBd HOr HBr HBB;go_wp2;go_roundw
    case rel=>exact⟨k+1,by omega,by go_num,HO3.u,HB3.u⟩
    case measure=>simp[intOf];omega
  . have hlt':¬ (k:Int)<m:=by omega
    obtain rfl:k=m:=(by omega);have bO:=HO.u.mono HBr.u HO.u.lt;obtain⟨o0,o1⟩:wr.cell? ⟨w.heap.size,0,none⟩=some (J9 N)/\wr.cell? ⟨w.heap.size,1,none⟩=some (.slice a k c):=⟨bO.cell 0,bO.cell 1⟩;obtain⟨r0,r1⟩:wr.cell? ⟨w.heap.size+1,0,none⟩=some (J9 0)/\wr.cell? ⟨w.heap.size+1,1,none⟩=some Ya:=⟨bR.cell 0,bR.cell 1⟩;have f0:=bR.free 0;have f1:=bR.free 1;have hT:(turnL N b (l.take k))=turnL N b l:=(by rw[<- HM.u,Zm]);rw[hT]at HOr;obtain⟨g,cap,rfl,-⟩:=q2o HOr.u;clear bR bO hT;go_wp2;refine bodyPost_ret (v:=.agg (Jm N g k cap)) (by simp[results,Tryz.results102,go_sem, *]) rfl ⟨_,rfl,?_,?_⟩
    . rw[qh4,HM.u]
      exact qby (qfo (qfo HOr.u (by have:=HWS.u;omega)) (by have:=HWS.u;omega)) (by have:=HWS.u;omega)
    . exact((HB.u.trans (HBr.u.mono (by have:=HWS.u;omega))).setCell (by simp) _).setCell (by simp) _
theorem qgm {l:List (Int × Int)}(h:∀u∈l,(0<=u.1/\u.1<=1000)/\0<=u.2/\u.2<=1000):Small l:=fun k hk=>by
 rw[Yl,Yi hk]
 exact h _ (Yk hk)
theorem Small.mem {l:List (Int × Int)}(h:Small l):∀u∈l,(0<=u.1/\u.1<=1000)/\0<=u.2/\u.2<=1000:=fun u hu=>by
 obtain⟨k,hk,rfl⟩:=Yy.1 hu
 have:=h k hk
 rwa [Yl,Yi hk]at this
theorem Small.append {l m:List (Int × Int)}(h:Small l)(h':Small m):Small (l++m):=qgm fun u hu=>by
 rcases Zb.1 hu with x | x
 . exact h.mem u x
 . exact h'.mem u x
theorem qci (s n:Nat)(hs:s<4)(hn:n<=64)(h1:1<=n):∃(N:Nat) (l:List (Int × Int)),1<=N/\N<=100/\l.length<=200/\Small l/\∀w,Calls Tryz.prog 101 (Jp s n) w fun e w'=>OrdOut w N l e w':=by
 obtain rfl | rfl | rfl | rfl:s=0∨s=1∨s=2∨s=3:=by omega
 . refine⟨n,chainL (n - 1),h1,by omega,by rw[q9z];omega,qgm fun u hu=>?_,fun w=>q2e n w (by omega) h1⟩
   obtain⟨i,hi,rfl⟩:=Zc.1 hu;have:=Y3.1 hi;simp only;omega
 . refine⟨n+2,starL n n,by omega,by omega,by rw[qgo];omega,qgm fun u hu=>?_,fun w=>(q3p n w (by omega)).mono fun e w' h=>by simpa using h⟩
   obtain⟨i,hi,hu⟩:=Vn.1 hu;have:=Y3.1 hi;simp only[Zy,Oi,or_false]at hu;rcases hu with rfl | rfl <;> simp only <;> omega
 . refine⟨8,cubeL 8,by omega,by omega,Yv (qdk 8) (by omega),qgm fun u hu=>?_,fun w=>q3n n w⟩
   obtain⟨i,hi,hu⟩:=Vn.1 hu;have:=Y3.1 hi;obtain⟨c,hc,rfl⟩:=Zc.1 hu;have:=(Or.1 hc).1;simp only[Zy,Oi,or_false]at this;simp only;omega
 . refine⟨3*(n % 3+2),gridL (n % 3+2) 3,by omega,by omega,Yv (qe6 _ (by omega) 3) (by omega),qgm fun u hu=>?_,fun w=>(q3o n w (by omega) _ rfl).mono fun e w' h=>by simpa using h⟩
   obtain⟨y,hy,hu⟩:=Vn.1 hu;have hy:=Y3.1 hy;obtain⟨x,hx,hu⟩:=Vn.1 hu;have hx:=Y3.1 hx;generalize hD:n % 3+2=D at hu hx;have h4:D<=4:=by omega
   have p1:y*D<=2*4:=Ox (by omega) h4;have p2:(y:Int)*D=((y*D:Nat):Int):=by simp
   have p3:((y:Int)+1)*D=((y*D:Nat):Int)+D:=by rw[Int.add_mul,Int.one_mul,p2]
   rcases Zb.1 hu with hu | hu
   . unfold cellX at hu
     split at hu
     . obtain rfl:=Yw.1 hu
       simp only[p2];omega
     . cases hu
   . unfold cellY at hu
     split at hu
     . obtain rfl:=Yw.1 hu
       simp only[p2,p3];omega
     . cases hu
def OrdOut2 (w:World)(N:Int)(l:List (Int × Int))(q:Nat)(e:Ending)(w':World):Prop :=
 ∃v,e=.returned (.tuple #[.agg #[J9 N,v],J9 q])/\w'.ownsRow w.heap.size 64 2 v l.length (pp l)/\Below w.heap.size w w'
theorem qac (len:Nat)(f:Nat->Nat)(p:Nat)(hlen:len<=1048576)(hp:p<=1000)(h4:tkD len f p 5≠4):∃(N:Nat) (l:List (Int × Int)),1<=N/\N<=100/\l.length<=200/\∀(w:World) (a:Option Addr) (c:Nat),Byts w a len f ->
 Calls Tryz.prog 68 #[.slice a len c,J9 p] w fun e w'=>OrdOut2 w N l (p+3) e w':=by
 have t1:tkD len f p 5<5:=tk_lt hlen (by omega) (by omega) (by omega)
 have t2:tkD len f (p+1) 6<6:=tk_lt hlen (by omega) (by omega) (by omega)
 have t3:tkD len f (p+2) 8<8:=tk_lt hlen (by omega) (by omega) (by omega)
 obtain⟨s,es⟩:=Nq (tkD len f p 5)
 obtain⟨n,en⟩:=Nq (tkD len f (p+1) 6)
 obtain⟨b,eb⟩:=Nq (tkD len f (p+2) 8)
 rw[es]at t1 h4;rw[en]at t2;rw[eb]at t3
 have ES:=h_ es;have EN:=h_ en;have EB:=h_ eb
 clear es en eb
 obtain⟨N,l,hN1,hN2,hl,hS,cS⟩:=qci s (n+1) (by omega) (by omega) (by omega)
 refine⟨N,turnL N b l,hN1,hN2,by rw[qh4];exact hl,fun w a c hB=>?_⟩
 have hs4:¬ (s:Int)=4:=by omega
 obtain⟨W,hW⟩:=Nq (w.alloc (.cells J4 39))
 have hWs:W.heap.size=w.heap.size+1:=by rw[<- hW];simp
 have bR:Blk W w.heap.size 39 [J9 0,Ya]:=by rw[<- hW];exact Blk.new w 39 J4
 have hb:Below w.heap.size w W:=by rw[<- hW];exact(Below.refl _ _).alloc (nR _) _
 have HY:=h_ (hB.mono hb)
 have HR:=h_ bR;have HB:=h_ hb;have HWS:=h_ hWs;have HSm:=h_ hS;have HL:=h_ hl;have CS:=h_ cS
 clear bR hb hB hS hl hWs cS
 go_enter Tryz.func68,Tryz.ntmps68
 go_wp2_with fail
 try rw[hW]
 clear hW
 refine(qm0 (f:=f) (p:=p) (n:=5) hlen (by omega) (by omega) (by omega) c HY.u rfl rfl).mono ?_
 rw[ES.u]
 rintro e w2 ⟨rfl,hw⟩
 rw[hw]
 clear hw w2
 go_wp2_with fail
 refine(qm0 (f:=f) (p:=p+1) (n:=6) hlen (by omega) (by omega) (by omega) c HY.u (by omega) rfl).mono ?_
 rw[EN.u]
 rintro e w2 ⟨rfl,hw⟩
 rw[hw]
 clear hw w2
 go_wp2_with fail
 refine(qm0 (f:=f) (p:=p+2) (n:=8) hlen (by omega) (by omega) (by omega) c HY.u (by omega) rfl).mono ?_
 rw[EB.u]
 rintro e w2 ⟨rfl,hw⟩
 rw[hw]
 clear hw w2
 go_wp2_with fail
 refine(CS.u W).mono ?_
 rintro e w2 ⟨v,rfl,hO,hb2⟩
 obtain⟨g,cap,rfl,hP⟩:=q2o hO
 have hR2:=HR.u.mono hb2 HR.u.lt
 have hB2:=HB.u.trans (hb2.mono (by have:=HWS.u;omega))
 clear hO hb2
 have HR2:=h_ hR2;have HB2:=h_ hB2;have HP:=h_ hP
 clear hR2 hB2 hP
 go_wp2_with fail
 refine(q7t N b l g cap w2 hN1 (by omega) (by omega) (by have:=HL.u;omega) HSm.u HP.u).mono ?_
 rintro e w3 ⟨v,rfl,hO,hb3⟩
 have hR3:=HR2.u.mono hb3 HR2.u.lt
 have hB3:=HB2.u.trans (hb3.mono HB2.u.size)
 obtain⟨r0,r1⟩:w3.cell? ⟨w.heap.size,0,none⟩=some (J9 0)/\w3.cell? ⟨w.heap.size,1,none⟩=some Ya:=⟨hR3.cell 0,hR3.cell 1⟩
 have f0:=hR3.free 0;have f1:=hR3.free 1
 have hlt2:=HR2.u.lt
 have HO3:=h_ hO;have HB3:=h_ hB3
 obtain⟨g3,cap3,rfl,-⟩:=q2o hO
 clear hR3 hB3 hO hb3
 go_wp2
 refine bodyPost_ret (v:=.tuple #[.agg (Jm N g3 (turnL N b l).length cap3),J9 ((p:Int)+3)]) (by simp[results,Tryz.results68,go_sem, *];omega) rfl ⟨_,rfl,?_,?_⟩
 . exact qby (qfo (qfo HO3.u hlt2) hlt2) HB2.u.size
 . exact(HB3.u.setCell (by simp) _).setCell (by simp) _
theorem q60 {w:World}{base e size n R j:Nat}{v x:Value}{xs:List Value}(h:w.ownsRow base e size v n xs)(hR:v.ownBlock≠some R):(w.setCell ⟨R,j,none⟩ x).ownsRow base e size v n xs:=by
 refine⟨h.1,?_⟩
 rcases h.2 with h' | ⟨g,cap,cur,h1,h2,h3,h4⟩
 . exact .inl h'
 . exact .inr ⟨g,cap,cur,h1,h2,(heap_setCell_other w ⟨R,j,none⟩ g x (by rintro rfl;exact hR (by rw[h1];rfl))).trans h3,h4⟩
theorem qkn {w:World}{base e size n:Nat}{v:Value}{xs:List Value}(h:w.ownsRow base e size v n xs):v.ownBlock≠some w.heap.size:=by
 rcases h.2 with ⟨rfl,-⟩ | ⟨g,cap,cur,rfl,-,h3,-⟩
 . simp[Value.ownBlock]
 . intro e
   obtain rfl:g=w.heap.size:=by simpa [Value.ownBlock] using e
   have:=(Yr.1 h3).1;omega
def upL (len:Nat)(f:Nat->Nat)(p n k:Nat):List (Int × Int):=(List.range k).flatMap fun i=>if tkD len f (p+2*i) n<=tkD len f (p+2*i+1) n then [((tkD len f (p+2*i) n:Int),(tkD len f (p+2*i+1) n:Int))] else []
theorem qm8 (len:Nat)(f:Nat->Nat)(p n k:Nat):upL len f p n (k+1)=upL len f p n k++(if tkD len f (p+2*k) n<=tkD len f (p+2*k+1) n then [((tkD len f (p+2*k) n:Int),(tkD len f (p+2*k+1) n:Int))] else []):=by simp[upL,List.range_succ]
theorem up_len (len:Nat)(f:Nat->Nat)(p n:Nat):∀k,(upL len f p n k).length<=k
 | 0=>nR _
 | k+1=>by rw[qm8,Yg];have:=up_len len f p n k;split <;> simp <;> omega
theorem qdq (len:Nat)(f:Nat->Nat)(p:Nat)(hlen:len<=1048576)(hp:p<=1000)(h4:tkD len f p 5=4):∃(N:Nat) (l:List (Int × Int)),1<=N/\N<=100/\l.length<=200/\∀(w:World) (a:Option Addr) (c:Nat),Byts w a len f ->
 Calls Tryz.prog 68 #[.slice a len c,J9 p] w fun e w'=>OrdOut2 w N l (p+11) e w':=by
 have t2:tkD len f (p+1) 6<6:=tk_lt hlen (by omega) (by omega) (by omega)
 have t3:tkD len f (p+2) 8<8:=tk_lt hlen (by omega) (by omega) (by omega)
 obtain⟨n,en⟩:=Nq (tkD len f (p+1) 6)
 obtain⟨b,eb⟩:=Nq (tkD len f (p+2) 8)
 rw[en]at t2;rw[eb]at t3
 have ES:=h_ h4;have EN:=h_ en;have EB:=h_ eb
 clear en eb h4
 have hS:Small (chainL (n+1)++upL len f (p+3) (n+2) 4):=by
  refine Small.append (qgm fun u hu=>?_) (qgm fun u hu=>?_)
  . obtain⟨i,hi,rfl⟩:=Zc.1 hu
    have:=Y3.1 hi;simp only;omega
  . obtain⟨i,hi,hu⟩:=Vn.1 hu
    have hi:=Y3.1 hi;have h1:tkD len f (p+3+2*i) (n+2)<n+2:=tk_lt hlen (by omega) (by omega) (by omega);have h2:tkD len f (p+3+2*i+1) (n+2)<n+2:=tk_lt hlen (by omega) (by omega) (by omega);split at hu
    . obtain rfl:=Yw.1 hu
      simp only;omega
    . cases hu
 have hl:(chainL (n+1)++upL len f (p+3) (n+2) 4).length<=200:=by
  rw[Yg,q9z];have:=up_len len f (p+3) (n+2) 4;omega
 obtain⟨L,hL⟩:=Nq (chainL (n+1)++upL len f (p+3) (n+2) 4)
 rw[hL]at hl hS
 have HLL:=h_ hL
 clear hL
 refine⟨n+2,turnL ((n+2:Nat):Int) b L,by omega,by omega,by rw[qh4];exact hl,fun w a c hB=>?_⟩
 obtain⟨W,hW⟩:=Nq (w.alloc (.cells J4 39))
 have hWs:W.heap.size=w.heap.size+1:=by rw[<- hW];simp
 have bR:Blk W w.heap.size 39 [J9 0,Ya]:=by rw[<- hW];exact Blk.new w 39 J4
 have hb:Below w.heap.size w W:=by rw[<- hW];exact(Below.refl _ _).alloc (nR _) _
 have HY:=h_ (hB.mono hb)
 have HR:=h_ bR;have HB:=h_ hb;have HWS:=h_ hWs;have HSm:=h_ hS;have HL:=h_ hl
 clear bR hb hB hS hl hWs
 go_enter Tryz.func68,Tryz.ntmps68
 go_wp2_with fail
 try rw[hW]
 clear hW
 refine(qm0 (f:=f) (p:=p) (n:=5) hlen (by omega) (by omega) (by omega) c HY.u rfl rfl).mono ?_
 rw[ES.u]
 rintro e w2 ⟨rfl,hw⟩
 rw[hw]
 clear hw w2
 go_wp2_with fail
 refine(qm0 (f:=f) (p:=p+1) (n:=6) hlen (by omega) (by omega) (by omega) c HY.u (by omega) rfl).mono ?_
 rw[EN.u]
 rintro e w2 ⟨rfl,hw⟩
 rw[hw]
 clear hw w2
 go_wp2_with fail
 refine(qm0 (f:=f) (p:=p+2) (n:=8) hlen (by omega) (by omega) (by omega) c HY.u (by omega) rfl).mono ?_
 rw[EB.u]
 rintro e w2 ⟨rfl,hw⟩
 rw[hw]
 clear hw w2
 go_wp2_with fail
 refine(q2e (n+2) W (by omega) (by omega)).mono ?_
 rintro e w2 ⟨v,rfl,hO,hb2⟩
 rw[show n+2 - 1=n+1 from rfl]at hO
 have HV:=h_ (qkn hO);have HO2:=h_ hO;have HB2:=h_ hb2
 obtain⟨g0,cap0,rfl,-⟩:=q2o hO
 have hW2:=hb2.size
 clear hO hb2
 obtain⟨B9,hB9⟩:=Nq w2.heap.size
 have bO:Blk (w2.alloc (.cells (Jm ((n:Int)+2) g0 (chainL (n+1)).length cap0) 39)) B9 39 [J9 ((n:Int)+2),.slice g0 (chainL (n+1)).length cap0]:=by rw[<- hB9];exact Blk.new w2 39 (Jm ((n:Int)+2) g0 (chainL (n+1)).length cap0)
 have h0:(w2.alloc (.cells (Jm ((n:Int)+2) g0 (chainL (n+1)).length cap0) 39)).ownsRow W.heap.size 64 2 (.slice g0 (chainL (n+1)).length cap0) (chainL (n+1)).length (pp (chainL (n+1))):=HO2.u.alloc _
 have hb0:Below W.heap.size W (w2.alloc (.cells (Jm ((n:Int)+2) g0 (chainL (n+1)).length cap0) 39)):=HB2.u.alloc hW2 _
 have HO0:=h_ bO;have HS0:=h_ h0;have HB0:=h_ hb0
 clear bO h0 hb0
 rw[hB9]at HV hW2
 go_wp2_with fail
 try rw[hB9]
 clear hB9
 go_loopw [1,10,11,12] (fun P _ _ i wr=>∃(k:Nat) (v:Value),k<=4/\i=J9 k/\P=J9 ((p+3+2*k:Nat):Int)/\Blk wr B9 39 [J9 ((n:Int)+2),v]/\wr.ownsRow W.heap.size 64 2 v (chainL (n+1)++upL len f (p+3) (n+2) k).length (pp (chainL (n+1)++upL len f (p+3) (n+2) k))/\v.ownBlock≠some B9/\Below W.heap.size W wr) (fun _ _ _ i _=>4 - (intOf i).toNat)
 case atStart=>exact⟨0,_,by omega,rfl,by simp;omega,HO0.u,by rw[show upL len f (p+3) (n+2) 0=[] from rfl,Zz];exact HS0.u,HV.u,HB0.u⟩
 case round =>
  obtain⟨k,v,hk,rfl,rfl,hO,hS,hv,hB⟩:=hrel;clear HO0 HS0 HB0 HV HO2 HB2;have HO:=h_ hO;have HS:=h_ hS;have HV:=h_ hv;have HBr:=h_ hB;have HYr:=h_ (HY.u.mono hB);obtain⟨o0,o1⟩:wr.cell? ⟨B9,0,none⟩=some (J9 ((n:Int)+2))/\wr.cell? ⟨B9,1,none⟩=some v:=⟨hO.cell 0,hO.cell 1⟩;have f0:=hO.free 0;have f1:=hO.free 1;clear hO hS hv hB;by_cases hlt:k<4
  . have hlt':(k:Int)<4:=by omega
    have u1:tkD len f (p+3+2*k) (n+2)<n+2:=tk_lt hlen (by omega) (by omega) (by omega);have u2:tkD len f (p+3+2*k+1) (n+2)<n+2:=tk_lt hlen (by omega) (by omega) (by omega);have HU:=h_ (qm8 len f (p+3) (n+2) k);go_wp2_with fail;refine(qm0 (f:=f) (p:=p+3+2*k) (n:=n+2) hlen (by omega) (by omega) (by omega) c HYr.u rfl (by omega)).mono ?_;obtain⟨x,ex⟩:=Nq (tkD len f (p+3+2*k) (n+2));rw[ex]at u1 HU⊢;clear ex;rintro e w3 ⟨rfl,hw⟩;rw[hw];clear hw w3;go_wp2_with fail;refine(qm0 (f:=f) (p:=p+3+2*k+1) (n:=n+2) hlen (by omega) (by omega) (by omega) c HYr.u (by omega) (by omega)).mono ?_;obtain⟨y,ey⟩:=Nq (tkD len f (p+3+2*k+1) (n+2));rw[ey]at u2 HU⊢;clear ey;rintro e w3 ⟨rfl,hw⟩;rw[hw];clear hw w3;have hlen2:(chainL (n+1)++upL len f (p+3) (n+2) k).length<=100:=by
     rw[Yg,q9z];have:=up_len len f (p+3) (n+2) k;omega
    obtain⟨L',hL⟩:=Nq (chainL (n+1)++upL len f (p+3) (n+2) k);have HT:Hi (chainL (n+1)++upL len f (p+3) (n+2) (k+1)=L'++(if x<=y then [((x:Int),(y:Int))] else [])):=h_ (by rw[HU.u,<- Z6,hL]);rw[hL]at HS hlen2;clear hL HU;have b9:=HO.u.lt;by_cases hxy:x<=y
    . have hxy':(x:Int)<=y:=by omega
      rw[Yz hxy]at HT;obtain⟨i0,hi,hz0,hz1,hz2⟩:=info_parts qb1;go_wp2_with (at_builtin;refine wpList_append_own_at _ rfl _ _ 24 rfl W.heap.size 64 i0 _ 2 16 Tryz.underlying24 hi hz0 hz1 hz2 rfl (by omega) _ _ _ rfl (HS.u.alloc _) ⟨wr.heap.size,0,none⟩ 1 1 [J9 x,J9 y] rfl rfl (qdi wr 64 _ _) (by simp[Value.oneCell']) (by unfold maxLen;omega) (by omega) (by have:=HBr.u.size;simp;omega) ?_);intro v' w3 ho' hgr' _ hat;have hB3:=(HBr.u.alloc HBr.u.size (.cells (Jp x y) 64)).grown hgr' (by have:=HBr.u.size;simp;omega) (fun q' e=>q8q HS.u e);have hO3:=(HO.u.alloc (.cells (Jp x y) 64)).grown hgr' (fun e=>HV.u e.symm);have hv3:v'.ownBlock≠some B9:=by
       rcases hat with e | e
       . rw[e];exact HV.u
       . rw[e];simp;omega
      have hex:∃ga ca,v'=.slice ga (L'.length+1) ca:=by
       obtain⟨ga,ca,e,-⟩:=q2o (l:=L'++[((x:Int),(y:Int))]) (by rw[qkz];exact ho');exact⟨ga,ca,e⟩
      obtain⟨ga,ca,rfl⟩:=hex;obtain⟨o2,o3⟩:w3.cell? ⟨B9,0,none⟩=some (J9 ((n:Int)+2))/\w3.cell? ⟨B9,1,none⟩=some v:=⟨hO3.cell 0,hO3.cell 1⟩;have f2:=hO3.free 0;have f3:=hO3.free 1;have HO3:=h_ (hO3.set 1 (.slice ga (L'.length+1) ca));have HS3:Hi ((w3.setCell ⟨B9,1,none⟩ (.slice ga (L'.length+1) ca)).ownsRow W.heap.size 64 2 (.slice ga (L'.length+1) ca) (chainL (n+1)++upL len f (p+3) (n+2) (k+1)).length (pp (chainL (n+1)++upL len f (p+3) (n+2) (k+1)))):=h_ (by rw[HT.u,qkz,Yg];exact q60 ho' hv3);have HB3:=h_ (hB3.setCell (p:=⟨B9,1,none⟩) hW2 (.slice ga (L'.length+1) ca));have HV3:=h_ hv3;clear hgr' hB3 ho' hO3 hv3 hat o0 o1 f0 f1 HO HS HV HBr HYr hi hz0 hz1 hz2 HT;go_wp2;go_roundw
      case rel=>exact⟨k+1,_,by omega,by go_num,by simp;omega,HO3.u,HS3.u,HV3.u,HB3.u⟩
      case measure=>simp[intOf];omega
    . have hxy':¬ (x:Int)<=y:=by omega
      rw[Yt hxy,Zz]at HT;go_wp2;go_roundw
      case rel=>exact⟨k+1,v,by omega,by go_num,by simp;omega,HO.u,by rw[HT.u];exact HS.u,HV.u,HBr.u⟩
      case measure=>simp[intOf];omega
  . obtain rfl:k=4:=by omega
    rw[HLL.u]at HS;obtain⟨g,cap,rfl,hP⟩:=q2o HS.u;have HP:=h_ hP;have HR2:=h_ (HR.u.mono HBr.u HR.u.lt);have HB2:=h_ (HB.u.trans (HBr.u.mono (by have:=HWS.u;omega)));clear hP;go_wp2_with fail;refine(q7t (n+2) b L g cap wr (by omega) (by omega) (by omega) (by have:=HL.u;omega) HSm.u HP.u).mono ?_;rintro e w3 ⟨v,rfl,hO,hb3⟩;have hR3:=HR2.u.mono hb3 HR2.u.lt;have hB3:=HB2.u.trans (hb3.mono HB2.u.size);obtain⟨r0,r1⟩:w3.cell? ⟨w.heap.size,0,none⟩=some (J9 0)/\w3.cell? ⟨w.heap.size,1,none⟩=some Ya:=⟨hR3.cell 0,hR3.cell 1⟩;have f2:=hR3.free 0;have f3:=hR3.free 1;have hlt2:=HR2.u.lt;have HO3:=h_ hO;have HB3:=h_ hB3;obtain⟨g3,cap3,rfl,-⟩:=q2o hO;clear hR3 hB3 hO hb3 o0 o1 f0 f1;go_wp2;refine bodyPost_ret (v:=.tuple #[.agg (Jm ((n:Int)+2) g3 (turnL ((n+2:Nat):Int) b L).length cap3),J9 ((p:Int)+11)]) (by simp[results,Tryz.results68,go_sem, *];omega) rfl ⟨_,rfl,?_,?_⟩
    . exact qby (qfo (qfo HO3.u hlt2) hlt2) HB2.u.size
    . exact(HB3.u.setCell (by simp) _).setCell (by simp) _
theorem qid (len:Nat)(f:Nat->Nat)(p:Nat)(hlen:len<=1048576)(hp:p<=1000):∃(N:Nat) (l:List (Int × Int)) (q:Nat),1<=N/\N<=100/\l.length<=200/\q<=p+11/\∀(w:World) (a:Option Addr) (c:Nat),Byts w a len f ->
 Calls Tryz.prog 68 #[.slice a len c,J9 p] w fun e w'=>OrdOut2 w N l q e w':=by
 by_cases h4:tkD len f p 5=4
 . obtain⟨N,l,h1,h2,h3,h⟩:=qdq len f p hlen hp h4
   exact⟨N,l,p+11,h1,h2,h3,by omega,h⟩
 . obtain⟨N,l,h1,h2,h3,h⟩:=qac len f p hlen hp h4
   exact⟨N,l,p+3,h1,h2,h3,by omega,h⟩
end Go.Proofs.YtebbgodlijlioaaGreatDoor
