import Derived.Test.YtebbgodlijlioaaGreatDoorW23
import Derived.Test.YtebbgodlijlioaaGreatDoorW19
import Derived.Great.BuildSlice
set_option maxRecDepth 100000
set_option maxHeartbeats 64000000
namespace Go.Proofs.YtebbgodlijlioaaGreatDoor
open Go Go.RowKit
def rowL (i b:Nat):List (Int × Int):=(([1,2,4]:List Nat).filter fun c=>decide (c<b)&&decide (i / c % 2=0)).map fun (c:Nat)=>((i:Int),(i:Int)+c)
theorem qj9 (i b:Nat)(hb:b=1∨b=2∨b=4):rowL i (b*2)=rowL i b++(if i / b % 2=0 then [((i:Int),(i:Int)+b)] else []):=by
 by_cases h1:i / 1 % 2=0 <;> by_cases h2:i / 2 % 2=0 <;> by_cases h4:i / 4 % 2=0 <;> rcases hb with rfl | rfl | rfl <;> simp only[rowL,List.filter,h1,h2,h4] <;> simp
theorem qj8 (i:Nat):rowL i 1=[]:=by simp[rowL]
theorem qj7 (i b:Nat):(rowL i b).length<=3:=by
 rw[rowL,Yz];exact List.length_filter_le _ _
def cubeL (k:Nat):List (Int × Int):=(List.range k).flatMap fun i=>rowL i 8
theorem q9g (k:Nat):cubeL (k+1)=cubeL k++rowL k 8:=by simp[cubeL,List.range_succ]
theorem qc9:∀k,(cubeL k).length<=k*3
 | 0=>nR _
 | k+1=>by rw[q9g,Yg];have:=qc9 k;have:=qj7 k 8;omega
theorem q3m (n:Int)(w:World) :
 Calls Tryz.prog 101 #[J9 2,J9 n] w fun e w'=>OrdOut w 8 (cubeL 8) e w':=by
 obtain⟨W,hW⟩:=Nq (w.alloc (.cells J4 39))
 have hWs:W.heap.size=w.heap.size+1:=by rw[<- hW];simp
 have bR:Blk W w.heap.size 39 [J9 0,Ya]:=by rw[<- hW];exact Blk.new w 39 J4
 have hb:Below w.heap.size w W:=by rw[<- hW];exact(Below.refl _ _).alloc (nR _) _
 have HR:=h_ bR;have HB:=h_ hb;have HWS:=h_ hWs
 clear bR hb
 go_enter Tryz.func101,Tryz.ntmps101
 go_wp2
 try rw[hW]
 go_loopw [5,8] (fun v i wr=>∃k:Nat,k<=8/\i=J9 k/\wr.ownsRow W.heap.size 64 2 v (cubeL k).length (pp (cubeL k))/\Below W.heap.size W wr) (fun _ i _=>8 - (intOf i).toNat)
 case atStart=>exact⟨0,nZ _,rfl,(by have h:=q89 W 64;rw[HWS.u]at h⊢;exact h),(Below.refl _ _).alloc (nR _) _⟩
 case round =>
  obtain⟨k,hk,rfl,hO,hB⟩:=hrel;have HO:=h_ hO;have HBr:=h_ hB;clear hO hB hW hWs;by_cases hlt:k<8
  . have hlt':(k:Int)<8:=by omega
    go_wp2;go_loopw [5,9] (fun v b wr=>∃c:Nat,(c=1∨c=2∨c=4∨c=8)/\b=J9 c/\wr.ownsRow W.heap.size 64 2 v (cubeL k++rowL k c).length (pp (cubeL k++rowL k c))/\Below W.heap.size W wr) (fun _ b _=>8 - (intOf b).toNat)
    case atStart=>exact⟨1,.inl rfl,rfl,by rw[qj8,Zr];exact HO.u,HBr.u⟩
    case round =>
     clear HO HBr;obtain⟨c,hc,rfl,hO,hB⟩:=hrel;have HO:=h_ hO;have HBr:=h_ hB;clear hO hB;by_cases hc8:c<8
     . have hc8':(c:Int)<8:=by omega
       have hc3:c=1∨c=2∨c=4:=(by omega);have hc0:¬ (c:Int)=0:=(by omega);have hl:=qc9 k;have hl2:=qj7 k c;have hlen:(cubeL k++rowL k c).length<=27:=(by rw[Yg];omega);obtain⟨L,hL⟩:=Nq (cubeL k++rowL k c);have HT:Hi (cubeL k++rowL k (c*2)=L++(if k / c % 2=0 then [((k:Int),(k:Int)+c)] else [])):=h_ (by rw[qj9 k c hc3,<- Vb,hL]);rw[hL]at HO hlen;clear hL hl hl2;have hw:wrap64 ((k:Int) / c)=((k / c:Nat):Int):=by
        have key:∀(x:Fin 8) (y:Fin 5),wrap64 ((x.val:Int) / (y.val:Int))=((x.val / y.val:Nat):Int):=(by decide +kernel);exact key ⟨k,hlt⟩ ⟨c,by omega⟩
       have ht:(wrap64 ((k:Int) / c)).tmod 2=((k / c % 2:Nat):Int):=(by rw[hw];rfl);clear hw;by_cases hd:k / c % 2=0
       . have hd':((wrap64 ((k:Int) / c)).tmod 2==0)=true:=by rw[ht,hd];rfl
         clear ht;rw[Yy hd]at HT;obtain⟨i0,hi,hz0,hz1,hz2⟩:=info_parts q9z;go_wp2_with (at_builtin;refine wpList_append_own_at _ rfl _ _ 24 rfl W.heap.size 64 i0 _ 2 16 Tryz.underlying24 hi hz0 hz1 hz2 rfl (by omega) _ _ _ rfl (HO.u.alloc _) ⟨wr.heap.size,0,none⟩ 1 1 [J9 k,J9 ((k:Int)+c)] rfl rfl (qc7 wr 64 _ _) (by simp[Value.oneCell']) (by unfold maxLen;omega) (by omega) (by have:=HBr.u.size;simp;omega) ?_);intro v' w3 ho' hgr' _ _;have hB3:=(HBr.u.alloc HBr.u.size (.cells (Jp k ((k:Int)+c)) 64)).grown hgr' (by have:=HBr.u.size;simp;omega) (fun q' e=>q87 HO.u e);have HO3:Hi (w3.ownsRow W.heap.size 64 2 v' (cubeL k++rowL k (c*2)).length (pp (cubeL k++rowL k (c*2)))):=h_ (by rw[HT.u,qiu,Yg];exact ho');have HB3:=h_ hB3;clear hgr' hB3 ho' HO HBr hi hz0 hz1 hz2 HT;go_wp2;go_roundw
         case rel=>exact⟨c*2,by omega,by go_num,HO3.u,HB3.u⟩
         case measure=>simp[intOf];omega
       . have hd':((wrap64 ((k:Int) / c)).tmod 2==0)=false:=by rw[ht,Yf];omega
         clear ht;rw[Yu hd,Zr]at HT;go_wp2;go_roundw
         case rel=>exact⟨c*2,by omega,by go_num,by rw[HT.u];exact HO.u,HBr.u⟩
         case measure=>simp[intOf];omega
     . obtain rfl:c=8:=by omega
       have HO3:Hi (wr.ownsRow W.heap.size 64 2 u5 (cubeL (k+1)).length (pp (cubeL (k+1)))):=h_ (by rw[q9g];exact HO.u);go_wp2;go_roundw
       case rel=>exact⟨k+1,by omega,by go_num,HO3.u,HBr.u⟩
       case measure=>simp[intOf];omega
  . obtain rfl:k=8:=by omega
    obtain⟨a,cap,rfl,-⟩:=q2s HO.u;have bR:=HR.u.mono HBr.u (by have:=HWS.u;omega);obtain⟨r0,r1⟩:wr.cell? ⟨w.heap.size,0,none⟩=some (J9 0)/\wr.cell? ⟨w.heap.size,1,none⟩=some Ya:=⟨bR.cell 0,bR.cell 1⟩;have f0:=bR.free 0;have f1:=bR.free 1;clear bR;go_wp2;refine bodyPost_ret (v:=.agg #[J9 8,.slice a (cubeL 8).length cap]) (by simp[results,Tryz.results101,go_sem, *]) rfl ⟨_,rfl,?_,?_⟩
    . exact qar (qdv (qdv HO.u (by have:=HWS.u;omega)) (by have:=HWS.u;omega)) (by have:=HWS.u;omega)
    . exact((HB.u.trans (HBr.u.mono (by have:=HWS.u;omega))).setCell (nR _) _).setCell (nR _) _
def turnL (N by':Int)(l:List (Int × Int)):List (Int × Int):=l.map fun u=>((u.1+by') % N,(u.2+by') % N)
theorem qfc (N b:Int)(l:List (Int × Int)):(turnL N b l).length=l.length:=by simp[turnL]
theorem qbo (N b:Int)(l:List (Int × Int))(k:Nat)(hk:k<l.length):turnL N b (l.take (k+1))=turnL N b (l.take k)++[(((l.getD k (0,0)).1+b) % N,((l.getD k (0,0)).2+b) % N)]:=by
 have h:l.take (k+1)=l.take k++[l[k]]:=by rw[Vu,Yj hk];rfl
 rw[h,Yl,Yj hk]
 show List.map _ (_++[_])=_
 rw[Zf]
 rfl
def Small (l:List (Int × Int)):Prop:=∀k,k<l.length->(0<=(l.getD k (0,0)).1/\(l.getD k (0,0)).1<=1000)/\0<=(l.getD k (0,0)).2/\(l.getD k (0,0)).2<=1000
def FourC (w:World)(R bb o:Nat)(N:Nat)(v:Value)(x y:Nat):Prop:=w.cell? ⟨R,0,none⟩=some (.int .i64 N)/\w.cell? ⟨R,1,none⟩=some v/\w.cell? ⟨bb,o,none⟩=some (.int .i64 x)/\w.cell? ⟨bb,o+1,none⟩=some (.int .i64 y)
theorem FourC.below {w w':World}{R bb o N x y:Nat}{v:Value}(h:FourC w R bb o N v x y){B:Nat}(hb:Below B w w')(h1:R<B)(h2:bb<B):FourC w' R bb o N v x y :=
 ⟨(hb.cell h1).trans h.1,(hb.cell h1).trans h.2.1,(hb.cell h2).trans h.2.2.1,(hb.cell h2).trans h.2.2.2⟩
theorem q7d (N b:Nat)(l:List (Int × Int))(a:Option Addr)(c:Nat)(w:World)(hN:1<=N)(hN2:N<=1000)(hb:b<=1000)(hl:l.length<=4096)(hs:Small l)
 (hP:Pairs w a l.length (fun k=>(l.getD k (0,0)).1) (fun k=>(l.getD k (0,0)).2)) :
 Calls Tryz.prog 102 #[.agg (Jn N a l.length c),J9 b] w fun e w'=>OrdOut w N (turnL N b l) e w':=by
 obtain⟨W,hW⟩:=Nq ((w.alloc (.cells (Jn N a l.length c) 39)).alloc (.cells J4 39))
 have hWs:W.heap.size=w.heap.size+2:=by rw[<- hW];simp
 have bO:Blk W w.heap.size 39 [J9 N,.slice a l.length c]:=by rw[<- hW];exact(Blk.new w 39 (Jn N a l.length c)).alloc _
 have bR:Blk W (w.heap.size+1) 39 [J9 0,Ya]:=by rw[<- hW];simpa using Blk.new (w.alloc (.cells (Jn N a l.length c) 39)) 39 J4
 have hbw:Below w.heap.size w W:=by rw[<- hW];exact((Below.refl _ _).alloc (nR _) _).alloc (by simp) _
 have HO:=h_ bO;have HR:=h_ bR;have HB:=h_ hbw;have HWS:=h_ hWs
 have HPW:=h_ (hP.mono hbw);have HS:=h_ hs
 clear bO bR hbw hP hs
 obtain⟨m,hm⟩:=Nq l.length
 rw[hm]at hl HO HPW⊢
 have HM:=h_ hm
 rw[hm]at hW
 clear hm
 go_enter Tryz.func102,Tryz.ntmps102
 go_wp2
 try rw[hW]
 go_loopw [5,6] (fun v i wr=>∃k:Nat,k<=m/\i=J9 k/\wr.ownsRow W.heap.size 64 2 v k (pp (turnL N b (l.take k)))/\Below W.heap.size W wr) (fun _ i _=>m - (intOf i).toNat)
 case atStart=>exact⟨0,nZ _,rfl,(by have h:=q89 W 64;rw[HWS.u]at h⊢;exact h),(Below.refl _ _).alloc (nR _) _⟩
 case round =>
  obtain⟨k,hk,rfl,hO,hB⟩:=hrel;have HOr:=h_ hO;have HBr:=h_ hB;have bR:=HR.u.mono hB HR.u.lt;clear hO hB hW hWs;by_cases hlt:k<m
  . have hlt':(k:Int)<m:=by omega
    obtain⟨bb,off,rfl,hbl,c0,c1⟩:=HPW.u k hlt;have hsm:=HS.u k (by rw[HM.u];exact hlt);have HT:=h_ (qbo N b l k (by rw[HM.u];exact hlt));obtain⟨x,hx⟩:∃x:Nat,(l.getD k (0,0)).1=x:=⟨(l.getD k (0,0)).1.toNat,by omega⟩;obtain⟨y,hy⟩:∃y:Nat,(l.getD k (0,0)).2=y:=⟨(l.getD k (0,0)).2.toNat,by omega⟩;rw[hx,hy]at hsm HT;simp only[hx]at c0;simp only[hy]at c1;clear hx hy;clear bR;have hN0:¬ (N:Int)=0:=(by omega);have hN1:¬ N=0:=(by omega);obtain⟨X,hX⟩:=Nq ((x+b) % N);obtain⟨Y,hY⟩:=Nq ((y+b) % N);have hX1:X<N:=(by rw[<- hX];exact Vq _ hN);have hY1:Y<N:=(by rw[<- hY];exact Vq _ hN);have hX2:((x:Int)+b).tmod N=X:=(by rw[<- hX];rfl);have hY2:((y:Int)+b).tmod N=Y:=(by rw[<- hY];rfl);have hX3:((x:Int)+b) % N=X:=(by rw[<- hX];rfl);have hY3:((y:Int)+b) % N=Y:=(by rw[<- hY];rfl);have hX4:IntKind.i64.wrap (X:Int)=X:=qgt _ (by omega);have hY4:IntKind.i64.wrap (Y:Int)=Y:=qgt _ (by omega);have hX5:IntKind.i64.wrap ((x:Int)+b)=x+b:=qgt (x+b) (by omega);have hY5:IntKind.i64.wrap ((y:Int)+b)=y+b:=qgt (y+b) (by omega);rw[hX3,hY3]at HT;clear hX hY;obtain⟨i0,hi,hz0,hz1,hz2⟩:=info_parts q9z;have F0:Hi (FourC W w.heap.size bb (off+k*2) N (.slice (some ⟨bb,off,none⟩) m c) x y):=h_ ⟨HO.u.cell 0,HO.u.cell 1,c0,c1⟩;have hwW:w.heap.size<W.heap.size:=HO.u.lt;have FB:∀w',Below W.heap.size W w'->FourC w' w.heap.size bb (off+k*2) N (.slice (some ⟨bb,off,none⟩) m c) x y:=fun w' hb=>F0.u.below hb hwW hbl;obtain⟨o0,o1,c0',c1'⟩:=FB wr HBr.u;have HBd:Hi (Below W.heap.size W wr.drew):=h_ (HBr.u.trans ((q35 wr 1).mono HBr.u.size));have S0:=h_ (FB _ HBd.u);have HBa:∀o,Hi (Below W.heap.size W (wr.drew.alloc o)):=fun o=>h_ (HBd.u.alloc HBd.u.size o);have S1:=fun o=>h_ (FB _ (u_ (HBa o)));replace FB:=h_ FB;have HBB:=h_ hbl;clear c0 c1 c0' c1' F0 hbl hwW;go_wp2_with fail;clear o0 o1;go_region_held3 (fun w'=>w'.cell? ⟨w.heap.size,0,none⟩=some (J9 N)/\w'.cell? ⟨w.heap.size,1,none⟩=some (.slice (some ⟨bb,off,none⟩) m c)/\w'.cell? ⟨bb,off+k*2,none⟩=some (J9 x)/\w'.cell? ⟨bb,off+k*2+1,none⟩=some (J9 y)) (first | exact S0.u | exact u_ (S1 _) | exact S2.u) ((refine step_append_lies _ rfl (.tmp 15) (.tmp 39) 24 rfl W.heap.size 64 i0 _ 2 16 Tryz.underlying24 hi hz0 hz1 hz2 rfl (by omega) u5 k _ rfl ((show wr.drew.ownsRow _ _ _ _ _ _ from HOr.u).alloc _) ⟨wr.heap.size,0,none⟩ 1 1 [J9 X,J9 Y] rfl rfl (qc7 wr.drew 64 _ _) (by simp[Value.oneCell']) (by omega) (by unfold maxLen;omega) (by omega) (by have:=HBr.u.size;simp;omega) _ rfl ?_;intro g cap w3 ho' hgr' _ _;have HB3:=h_ ((u_ (HBa _)).grown hgr' (by have:=HBr.u.size;simp;omega) (fun q' e=>q87 HOr.u e));have S2:=h_ (FB.u _ HB3.u)));have HO3:Hi (w3.ownsRow W.heap.size 64 2 (.slice (some ⟨g,0,none⟩) (k+1) cap) (k+1) (pp (turnL N b (l.take (k+1))))):=h_ (by rw[HT.u,qiu];exact ho');clear hgr' ho' S0 S1 S2 FB HBa HBd HOr HBr HBB;go_wp2;go_roundw
    case rel=>exact⟨k+1,by omega,by go_num,HO3.u,HB3.u⟩
    case measure=>simp[intOf];omega
  . have hlt':¬ (k:Int)<m:=by omega
    obtain rfl:k=m:=(by omega);have bO:=HO.u.mono HBr.u HO.u.lt;obtain⟨o0,o1⟩:wr.cell? ⟨w.heap.size,0,none⟩=some (J9 N)/\wr.cell? ⟨w.heap.size,1,none⟩=some (.slice a k c):=⟨bO.cell 0,bO.cell 1⟩;obtain⟨r0,r1⟩:wr.cell? ⟨w.heap.size+1,0,none⟩=some (J9 0)/\wr.cell? ⟨w.heap.size+1,1,none⟩=some Ya:=⟨bR.cell 0,bR.cell 1⟩;have f0:=bR.free 0;have f1:=bR.free 1;have hT:(turnL N b (l.take k))=turnL N b l:=(by rw[<- HM.u,Zm]);rw[hT]at HOr;obtain⟨g,cap,rfl,-⟩:=q2s HOr.u;clear bR bO hT;go_wp2;refine bodyPost_ret (v:=.agg (Jn N g k cap)) (by simp[results,Tryz.results102,go_sem, *]) rfl ⟨_,rfl,?_,?_⟩
    . rw[qfc,HM.u]
      exact qar (qdv (qdv HOr.u (by have:=HWS.u;omega)) (by have:=HWS.u;omega)) (by have:=HWS.u;omega)
    . exact((HB.u.trans (HBr.u.mono (by have:=HWS.u;omega))).setCell (by simp) _).setCell (by simp) _
theorem qeu {l:List (Int × Int)}(h:∀u∈l,(0<=u.1/\u.1<=1000)/\0<=u.2/\u.2<=1000):Small l:=fun k hk=>by
 rw[Yl,Yj hk]
 exact h _ (Yk hk)
theorem Small.mem {l:List (Int × Int)}(h:Small l):∀u∈l,(0<=u.1/\u.1<=1000)/\0<=u.2/\u.2<=1000:=fun u hu=>by
 obtain⟨k,hk,rfl⟩:=Y2.1 hu
 have:=h k hk
 rwa [Yl,Yj hk]at this
theorem Small.append {l m:List (Int × Int)}(h:Small l)(h':Small m):Small (l++m):=qeu fun u hu=>by
 rcases Y9.1 hu with x | x
 . exact h.mem u x
 . exact h'.mem u x
theorem qba (s n:Nat)(hs:s<4)(hn:n<=64)(h1:1<=n):∃(N:Nat) (l:List (Int × Int)),1<=N/\N<=100/\l.length<=200/\Small l/\∀w,Calls Tryz.prog 101 (Jp s n) w fun e w'=>OrdOut w N l e w':=by
 obtain rfl | rfl | rfl | rfl:s=0∨s=1∨s=2∨s=3:=by omega
 . refine⟨n,chainL (n - 1),h1,by omega,by rw[q9b];omega,qeu fun u hu=>?_,fun w=>q2g n w (by omega) h1⟩
   obtain⟨i,hi,rfl⟩:=Y8.1 hu;have:=Zb.1 hi;simp only;omega
 . refine⟨n+2,starL n n,by omega,by omega,by rw[qew];omega,qeu fun u hu=>?_,fun w=>(q3o n w (by omega)).mono fun e w' h=>by simpa using h⟩
   obtain⟨i,hi,hu⟩:=Vk.1 hu;have:=Zb.1 hi;simp only[Z2,V9,or_false]at hu;rcases hu with rfl | rfl <;> simp only <;> omega
 . refine⟨8,cubeL 8,by omega,by omega,Ys (qc9 8) (by omega),qeu fun u hu=>?_,fun w=>q3m n w⟩
   obtain⟨i,hi,hu⟩:=Vk.1 hu;have:=Zb.1 hi;obtain⟨c,hc,rfl⟩:=Y8.1 hu;have:=(Or.1 hc).1;simp only[Z2,V9,or_false]at this;simp only;omega
 . refine⟨3*(n % 3+2),gridL (n % 3+2) 3,by omega,by omega,Ys (qcp _ (by omega) 3) (by omega),qeu fun u hu=>?_,fun w=>(q3n n w (by omega) _ rfl).mono fun e w' h=>by simpa using h⟩
   obtain⟨y,hy,hu⟩:=Vk.1 hu;have hy:=Zb.1 hy;obtain⟨x,hx,hu⟩:=Vk.1 hu;have hx:=Zb.1 hx;generalize hD:n % 3+2=D at hu hx;have h4:D<=4:=by omega
   have p1:y*D<=2*4:=Vn (by omega) h4;have p2:(y:Int)*D=((y*D:Nat):Int):=by simp
   have p3:((y:Int)+1)*D=((y*D:Nat):Int)+D:=by rw[Int.add_mul,Int.one_mul,p2]
   rcases Y9.1 hu with hu | hu
   . unfold cellX at hu
     split at hu
     . obtain rfl:=Yx.1 hu
       simp only[p2];omega
     . cases hu
   . unfold cellY at hu
     split at hu
     . obtain rfl:=Yx.1 hu
       simp only[p2,p3];omega
     . cases hu
def OrdOut2 (w:World)(N:Int)(l:List (Int × Int))(q:Nat)(e:Ending)(w':World):Prop :=
 ∃v,e=.returned (.tuple #[.agg #[J9 N,v],J9 q])/\w'.ownsRow w.heap.size 64 2 v l.length (pp l)/\Below w.heap.size w w'
theorem q9i (len:Nat)(f:Nat->Nat)(p:Nat)(hlen:len<=1048576)(hp:p<=1000)(h4:tkD len f p 5≠4):∃(N:Nat) (l:List (Int × Int)),1<=N/\N<=100/\l.length<=200/\∀(w:World) (a:Option Addr) (c:Nat),Byts w a len f ->
 Calls Tryz.prog 68 #[.slice a len c,J9 p] w fun e w'=>OrdOut2 w N l (p+3) e w':=by
 have t1:tkD len f p 5<5:=tk_lt hlen (by omega) (by omega) (by omega)
 have t2:tkD len f (p+1) 6<6:=tk_lt hlen (by omega) (by omega) (by omega)
 have t3:tkD len f (p+2) 8<8:=tk_lt hlen (by omega) (by omega) (by omega)
 obtain⟨s,es⟩:=Nq (tkD len f p 5)
 obtain⟨n,en⟩:=Nq (tkD len f (p+1) 6)
 obtain⟨b,eb⟩:=Nq (tkD len f (p+2) 8)
 rw[es]at t1 h4;rw[en]at t2;rw[eb]at t3
 have ES:=h_ es;have EN:=h_ en;have EB:=h_ eb
 clear es en eb
 obtain⟨N,l,hN1,hN2,hl,hS,cS⟩:=qba s (n+1) (by omega) (by omega) (by omega)
 refine⟨N,turnL N b l,hN1,hN2,by rw[qfc];exact hl,fun w a c hB=>?_⟩
 have hs4:¬ (s:Int)=4:=by omega
 obtain⟨W,hW⟩:=Nq (w.alloc (.cells J4 39))
 have hWs:W.heap.size=w.heap.size+1:=by rw[<- hW];simp
 have bR:Blk W w.heap.size 39 [J9 0,Ya]:=by rw[<- hW];exact Blk.new w 39 J4
 have hb:Below w.heap.size w W:=by rw[<- hW];exact(Below.refl _ _).alloc (nR _) _
 have HY:=h_ (hB.mono hb)
 have HR:=h_ bR;have HB:=h_ hb;have HWS:=h_ hWs;have HSm:=h_ hS;have HL:=h_ hl;have CS:=h_ cS
 clear bR hb hB hS hl hWs cS
 go_enter Tryz.func68,Tryz.ntmps68
 go_wp2_with fail
 try rw[hW]
 clear hW
 refine(qju (f:=f) (p:=p) (n:=5) hlen (by omega) (by omega) (by omega) c HY.u rfl rfl).mono ?_
 rw[ES.u]
 rintro e w2 ⟨rfl,hw⟩
 rw[hw]
 clear hw w2
 go_wp2_with fail
 refine(qju (f:=f) (p:=p+1) (n:=6) hlen (by omega) (by omega) (by omega) c HY.u (by omega) rfl).mono ?_
 rw[EN.u]
 rintro e w2 ⟨rfl,hw⟩
 rw[hw]
 clear hw w2
 go_wp2_with fail
 refine(qju (f:=f) (p:=p+2) (n:=8) hlen (by omega) (by omega) (by omega) c HY.u (by omega) rfl).mono ?_
 rw[EB.u]
 rintro e w2 ⟨rfl,hw⟩
 rw[hw]
 clear hw w2
 go_wp2_with fail
 refine(CS.u W).mono ?_
 rintro e w2 ⟨v,rfl,hO,hb2⟩
 obtain⟨g,cap,rfl,hP⟩:=q2s hO
 have hR2:=HR.u.mono hb2 HR.u.lt
 have hB2:=HB.u.trans (hb2.mono (by have:=HWS.u;omega))
 clear hO hb2
 have HR2:=h_ hR2;have HB2:=h_ hB2;have HP:=h_ hP
 clear hR2 hB2 hP
 go_wp2_with fail
 refine(q7d N b l g cap w2 hN1 (by omega) (by omega) (by have:=HL.u;omega) HSm.u HP.u).mono ?_
 rintro e w3 ⟨v,rfl,hO,hb3⟩
 have hR3:=HR2.u.mono hb3 HR2.u.lt
 have hB3:=HB2.u.trans (hb3.mono HB2.u.size)
 obtain⟨r0,r1⟩:w3.cell? ⟨w.heap.size,0,none⟩=some (J9 0)/\w3.cell? ⟨w.heap.size,1,none⟩=some Ya:=⟨hR3.cell 0,hR3.cell 1⟩
 have f0:=hR3.free 0;have f1:=hR3.free 1
 have hlt2:=HR2.u.lt
 have HO3:=h_ hO;have HB3:=h_ hB3
 obtain⟨g3,cap3,rfl,-⟩:=q2s hO
 clear hR3 hB3 hO hb3
 go_wp2
 refine bodyPost_ret (v:=.tuple #[.agg (Jn N g3 (turnL N b l).length cap3),J9 ((p:Int)+3)]) (by simp[results,Tryz.results68,go_sem, *];omega) rfl ⟨_,rfl,?_,?_⟩
 . exact qar (qdv (qdv HO3.u hlt2) hlt2) HB2.u.size
 . exact(HB3.u.setCell (by simp) _).setCell (by simp) _
theorem q5p {w:World}{base e size n R j:Nat}{v x:Value}{xs:List Value}(h:w.ownsRow base e size v n xs)(hR:v.ownBlock≠some R):(w.setCell ⟨R,j,none⟩ x).ownsRow base e size v n xs:=by
 refine⟨h.1,?_⟩
 rcases h.2 with h' | ⟨g,cap,cur,h1,h2,h3,h4⟩
 . exact .inl h'
 . exact .inr ⟨g,cap,cur,h1,h2,(heap_setCell_other w ⟨R,j,none⟩ g x (by rintro rfl;exact hR (by rw[h1];rfl))).trans h3,h4⟩
theorem qii {w:World}{base e size n:Nat}{v:Value}{xs:List Value}(h:w.ownsRow base e size v n xs):v.ownBlock≠some w.heap.size:=by
 rcases h.2 with ⟨rfl,-⟩ | ⟨g,cap,cur,rfl,-,h3,-⟩
 . simp[Value.ownBlock]
 . intro e
   obtain rfl:g=w.heap.size:=by simpa [Value.ownBlock] using e
   have:=(Yt.1 h3).1;omega
def upL (len:Nat)(f:Nat->Nat)(p n k:Nat):List (Int × Int):=(List.range k).flatMap fun i=>if tkD len f (p+2*i) n<=tkD len f (p+2*i+1) n then [((tkD len f (p+2*i) n:Int),(tkD len f (p+2*i+1) n:Int))] else []
theorem qk2 (len:Nat)(f:Nat->Nat)(p n k:Nat):upL len f p n (k+1)=upL len f p n k++(if tkD len f (p+2*k) n<=tkD len f (p+2*k+1) n then [((tkD len f (p+2*k) n:Int),(tkD len f (p+2*k+1) n:Int))] else []):=by simp[upL,List.range_succ]
theorem up_len (len:Nat)(f:Nat->Nat)(p n:Nat):∀k,(upL len f p n k).length<=k
 | 0=>nR _
 | k+1=>by rw[qk2,Yg];have:=up_len len f p n k;split <;> simp <;> omega
theorem qcd (len:Nat)(f:Nat->Nat)(p:Nat)(hlen:len<=1048576)(hp:p<=1000)(h4:tkD len f p 5=4):∃(N:Nat) (l:List (Int × Int)),1<=N/\N<=100/\l.length<=200/\∀(w:World) (a:Option Addr) (c:Nat),Byts w a len f ->
 Calls Tryz.prog 68 #[.slice a len c,J9 p] w fun e w'=>OrdOut2 w N l (p+11) e w':=by
 have t2:tkD len f (p+1) 6<6:=tk_lt hlen (by omega) (by omega) (by omega)
 have t3:tkD len f (p+2) 8<8:=tk_lt hlen (by omega) (by omega) (by omega)
 obtain⟨n,en⟩:=Nq (tkD len f (p+1) 6)
 obtain⟨b,eb⟩:=Nq (tkD len f (p+2) 8)
 rw[en]at t2;rw[eb]at t3
 have ES:=h_ h4;have EN:=h_ en;have EB:=h_ eb
 clear en eb h4
 have hS:Small (chainL (n+1)++upL len f (p+3) (n+2) 4):=by
  refine Small.append (qeu fun u hu=>?_) (qeu fun u hu=>?_)
  . obtain⟨i,hi,rfl⟩:=Y8.1 hu
    have:=Zb.1 hi;simp only;omega
  . obtain⟨i,hi,hu⟩:=Vk.1 hu
    have hi:=Zb.1 hi;have h1:tkD len f (p+3+2*i) (n+2)<n+2:=tk_lt hlen (by omega) (by omega) (by omega);have h2:tkD len f (p+3+2*i+1) (n+2)<n+2:=tk_lt hlen (by omega) (by omega) (by omega);split at hu
    . obtain rfl:=Yx.1 hu
      simp only;omega
    . cases hu
 have hl:(chainL (n+1)++upL len f (p+3) (n+2) 4).length<=200:=by
  rw[Yg,q9b];have:=up_len len f (p+3) (n+2) 4;omega
 obtain⟨L,hL⟩:=Nq (chainL (n+1)++upL len f (p+3) (n+2) 4)
 rw[hL]at hl hS
 have HLL:=h_ hL
 clear hL
 refine⟨n+2,turnL ((n+2:Nat):Int) b L,by omega,by omega,by rw[qfc];exact hl,fun w a c hB=>?_⟩
 obtain⟨W,hW⟩:=Nq (w.alloc (.cells J4 39))
 have hWs:W.heap.size=w.heap.size+1:=by rw[<- hW];simp
 have bR:Blk W w.heap.size 39 [J9 0,Ya]:=by rw[<- hW];exact Blk.new w 39 J4
 have hb:Below w.heap.size w W:=by rw[<- hW];exact(Below.refl _ _).alloc (nR _) _
 have HY:=h_ (hB.mono hb)
 have HR:=h_ bR;have HB:=h_ hb;have HWS:=h_ hWs;have HSm:=h_ hS;have HL:=h_ hl
 clear bR hb hB hS hl hWs
 go_enter Tryz.func68,Tryz.ntmps68
 go_wp2_with fail
 try rw[hW]
 clear hW
 refine(qju (f:=f) (p:=p) (n:=5) hlen (by omega) (by omega) (by omega) c HY.u rfl rfl).mono ?_
 rw[ES.u]
 rintro e w2 ⟨rfl,hw⟩
 rw[hw]
 clear hw w2
 go_wp2_with fail
 refine(qju (f:=f) (p:=p+1) (n:=6) hlen (by omega) (by omega) (by omega) c HY.u (by omega) rfl).mono ?_
 rw[EN.u]
 rintro e w2 ⟨rfl,hw⟩
 rw[hw]
 clear hw w2
 go_wp2_with fail
 refine(qju (f:=f) (p:=p+2) (n:=8) hlen (by omega) (by omega) (by omega) c HY.u (by omega) rfl).mono ?_
 rw[EB.u]
 rintro e w2 ⟨rfl,hw⟩
 rw[hw]
 clear hw w2
 go_wp2_with fail
 refine(q2g (n+2) W (by omega) (by omega)).mono ?_
 rintro e w2 ⟨v,rfl,hO,hb2⟩
 rw[show n+2 - 1=n+1 from rfl]at hO
 have HV:=h_ (qii hO);have HO2:=h_ hO;have HB2:=h_ hb2
 obtain⟨g0,cap0,rfl,-⟩:=q2s hO
 have hW2:=hb2.size
 clear hO hb2
 obtain⟨B9,hB9⟩:=Nq w2.heap.size
 have bO:Blk (w2.alloc (.cells (Jn ((n:Int)+2) g0 (chainL (n+1)).length cap0) 39)) B9 39 [J9 ((n:Int)+2),.slice g0 (chainL (n+1)).length cap0]:=by rw[<- hB9];exact Blk.new w2 39 (Jn ((n:Int)+2) g0 (chainL (n+1)).length cap0)
 have h0:(w2.alloc (.cells (Jn ((n:Int)+2) g0 (chainL (n+1)).length cap0) 39)).ownsRow W.heap.size 64 2 (.slice g0 (chainL (n+1)).length cap0) (chainL (n+1)).length (pp (chainL (n+1))):=HO2.u.alloc _
 have hb0:Below W.heap.size W (w2.alloc (.cells (Jn ((n:Int)+2) g0 (chainL (n+1)).length cap0) 39)):=HB2.u.alloc hW2 _
 have HO0:=h_ bO;have HS0:=h_ h0;have HB0:=h_ hb0
 clear bO h0 hb0
 rw[hB9]at HV hW2
 go_wp2_with fail
 try rw[hB9]
 clear hB9
 go_loopw [1,10,11,12] (fun P _ _ i wr=>∃(k:Nat) (v:Value),k<=4/\i=J9 k/\P=J9 ((p+3+2*k:Nat):Int)/\Blk wr B9 39 [J9 ((n:Int)+2),v]/\wr.ownsRow W.heap.size 64 2 v (chainL (n+1)++upL len f (p+3) (n+2) k).length (pp (chainL (n+1)++upL len f (p+3) (n+2) k))/\v.ownBlock≠some B9/\Below W.heap.size W wr) (fun _ _ _ i _=>4 - (intOf i).toNat)
 case atStart=>exact⟨0,_,by omega,rfl,by simp;omega,HO0.u,by rw[show upL len f (p+3) (n+2) 0=[] from rfl,Zr];exact HS0.u,HV.u,HB0.u⟩
 case round =>
  obtain⟨k,v,hk,rfl,rfl,hO,hS,hv,hB⟩:=hrel;clear HO0 HS0 HB0 HV HO2 HB2;have HO:=h_ hO;have HS:=h_ hS;have HV:=h_ hv;have HBr:=h_ hB;have HYr:=h_ (HY.u.mono hB);obtain⟨o0,o1⟩:wr.cell? ⟨B9,0,none⟩=some (J9 ((n:Int)+2))/\wr.cell? ⟨B9,1,none⟩=some v:=⟨hO.cell 0,hO.cell 1⟩;have f0:=hO.free 0;have f1:=hO.free 1;clear hO hS hv hB;by_cases hlt:k<4
  . have hlt':(k:Int)<4:=by omega
    have u1:tkD len f (p+3+2*k) (n+2)<n+2:=tk_lt hlen (by omega) (by omega) (by omega);have u2:tkD len f (p+3+2*k+1) (n+2)<n+2:=tk_lt hlen (by omega) (by omega) (by omega);have HU:=h_ (qk2 len f (p+3) (n+2) k);go_wp2_with fail;refine(qju (f:=f) (p:=p+3+2*k) (n:=n+2) hlen (by omega) (by omega) (by omega) c HYr.u rfl (by omega)).mono ?_;obtain⟨x,ex⟩:=Nq (tkD len f (p+3+2*k) (n+2));rw[ex]at u1 HU⊢;clear ex;rintro e w3 ⟨rfl,hw⟩;rw[hw];clear hw w3;go_wp2_with fail;refine(qju (f:=f) (p:=p+3+2*k+1) (n:=n+2) hlen (by omega) (by omega) (by omega) c HYr.u (by omega) (by omega)).mono ?_;obtain⟨y,ey⟩:=Nq (tkD len f (p+3+2*k+1) (n+2));rw[ey]at u2 HU⊢;clear ey;rintro e w3 ⟨rfl,hw⟩;rw[hw];clear hw w3;have hlen2:(chainL (n+1)++upL len f (p+3) (n+2) k).length<=100:=by
     rw[Yg,q9b];have:=up_len len f (p+3) (n+2) k;omega
    obtain⟨L',hL⟩:=Nq (chainL (n+1)++upL len f (p+3) (n+2) k);have HT:Hi (chainL (n+1)++upL len f (p+3) (n+2) (k+1)=L'++(if x<=y then [((x:Int),(y:Int))] else [])):=h_ (by rw[HU.u,<- Vb,hL]);rw[hL]at HS hlen2;clear hL HU;have b9:=HO.u.lt;by_cases hxy:x<=y
    . have hxy':(x:Int)<=y:=by omega
      rw[Yy hxy]at HT;obtain⟨i0,hi,hz0,hz1,hz2⟩:=info_parts q9z;go_wp2_with (at_builtin;refine wpList_append_own_at _ rfl _ _ 24 rfl W.heap.size 64 i0 _ 2 16 Tryz.underlying24 hi hz0 hz1 hz2 rfl (by omega) _ _ _ rfl (HS.u.alloc _) ⟨wr.heap.size,0,none⟩ 1 1 [J9 x,J9 y] rfl rfl (qc7 wr 64 _ _) (by simp[Value.oneCell']) (by unfold maxLen;omega) (by omega) (by have:=HBr.u.size;simp;omega) ?_);intro v' w3 ho' hgr' _ hat;have hB3:=(HBr.u.alloc HBr.u.size (.cells (Jp x y) 64)).grown hgr' (by have:=HBr.u.size;simp;omega) (fun q' e=>q87 HS.u e);have hO3:=(HO.u.alloc (.cells (Jp x y) 64)).grown hgr' (fun e=>HV.u e.symm);have hv3:v'.ownBlock≠some B9:=by
       rcases hat with e | e
       . rw[e];exact HV.u
       . rw[e];simp;omega
      have hex:∃ga ca,v'=.slice ga (L'.length+1) ca:=by
       obtain⟨ga,ca,e,-⟩:=q2s (l:=L'++[((x:Int),(y:Int))]) (by rw[qiu];exact ho');exact⟨ga,ca,e⟩
      obtain⟨ga,ca,rfl⟩:=hex;obtain⟨o2,o3⟩:w3.cell? ⟨B9,0,none⟩=some (J9 ((n:Int)+2))/\w3.cell? ⟨B9,1,none⟩=some v:=⟨hO3.cell 0,hO3.cell 1⟩;have f2:=hO3.free 0;have f3:=hO3.free 1;have HO3:=h_ (hO3.set 1 (.slice ga (L'.length+1) ca));have HS3:Hi ((w3.setCell ⟨B9,1,none⟩ (.slice ga (L'.length+1) ca)).ownsRow W.heap.size 64 2 (.slice ga (L'.length+1) ca) (chainL (n+1)++upL len f (p+3) (n+2) (k+1)).length (pp (chainL (n+1)++upL len f (p+3) (n+2) (k+1)))):=h_ (by rw[HT.u,qiu,Yg];exact q5p ho' hv3);have HB3:=h_ (hB3.setCell (p:=⟨B9,1,none⟩) hW2 (.slice ga (L'.length+1) ca));have HV3:=h_ hv3;clear hgr' hB3 ho' hO3 hv3 hat o0 o1 f0 f1 HO HS HV HBr HYr hi hz0 hz1 hz2 HT;go_wp2;go_roundw
      case rel=>exact⟨k+1,_,by omega,by go_num,by simp;omega,HO3.u,HS3.u,HV3.u,HB3.u⟩
      case measure=>simp[intOf];omega
    . have hxy':¬ (x:Int)<=y:=by omega
      rw[Yu hxy,Zr]at HT;go_wp2;go_roundw
      case rel=>exact⟨k+1,v,by omega,by go_num,by simp;omega,HO.u,by rw[HT.u];exact HS.u,HV.u,HBr.u⟩
      case measure=>simp[intOf];omega
  . obtain rfl:k=4:=by omega
    rw[HLL.u]at HS;obtain⟨g,cap,rfl,hP⟩:=q2s HS.u;have HP:=h_ hP;have HR2:=h_ (HR.u.mono HBr.u HR.u.lt);have HB2:=h_ (HB.u.trans (HBr.u.mono (by have:=HWS.u;omega)));clear hP;go_wp2_with fail;refine(q7d (n+2) b L g cap wr (by omega) (by omega) (by omega) (by have:=HL.u;omega) HSm.u HP.u).mono ?_;rintro e w3 ⟨v,rfl,hO,hb3⟩;have hR3:=HR2.u.mono hb3 HR2.u.lt;have hB3:=HB2.u.trans (hb3.mono HB2.u.size);obtain⟨r0,r1⟩:w3.cell? ⟨w.heap.size,0,none⟩=some (J9 0)/\w3.cell? ⟨w.heap.size,1,none⟩=some Ya:=⟨hR3.cell 0,hR3.cell 1⟩;have f2:=hR3.free 0;have f3:=hR3.free 1;have hlt2:=HR2.u.lt;have HO3:=h_ hO;have HB3:=h_ hB3;obtain⟨g3,cap3,rfl,-⟩:=q2s hO;clear hR3 hB3 hO hb3 o0 o1 f0 f1;go_wp2;refine bodyPost_ret (v:=.tuple #[.agg (Jn ((n:Int)+2) g3 (turnL ((n+2:Nat):Int) b L).length cap3),J9 ((p:Int)+11)]) (by simp[results,Tryz.results68,go_sem, *];omega) rfl ⟨_,rfl,?_,?_⟩
    . exact qar (qdv (qdv HO3.u hlt2) hlt2) HB2.u.size
    . exact(HB3.u.setCell (by simp) _).setCell (by simp) _
theorem qgc (len:Nat)(f:Nat->Nat)(p:Nat)(hlen:len<=1048576)(hp:p<=1000):∃(N:Nat) (l:List (Int × Int)) (q:Nat),1<=N/\N<=100/\l.length<=200/\q<=p+11/\∀(w:World) (a:Option Addr) (c:Nat),Byts w a len f ->
 Calls Tryz.prog 68 #[.slice a len c,J9 p] w fun e w'=>OrdOut2 w N l q e w':=by
 by_cases h4:tkD len f p 5=4
 . obtain⟨N,l,h1,h2,h3,h⟩:=qcd len f p hlen hp h4
   exact⟨N,l,p+11,h1,h2,h3,by omega,h⟩
 . obtain⟨N,l,h1,h2,h3,h⟩:=q9i len f p hlen hp h4
   exact⟨N,l,p+3,h1,h2,h3,by omega,h⟩
def Fst (p:Nat->Prop)(n:Nat)(z:Int):Prop:=(z = -1/\∀k,k<n->¬ p k)∨∃k:Nat,k<n/\z=k/\p k/\∀j,j<k->¬ p j
theorem Fst.one {p:Nat->Prop}{n:Nat}{z z':Int}(h:Fst p n z)(h':Fst p n z'):z=z':=by
 rcases h with ⟨e,h⟩ | ⟨k,hk,e,h1,h2⟩ <;> rcases h' with ⟨e',h'⟩ | ⟨k',hk',e',h1',h2'⟩
 . rw[e,e']
 . exact absurd h1' (h k' hk')
 . exact absurd h1 (h' k hk)
 . have:k=k':=by
    rcases Nat.lt_trichotomy k k' with x | x | x
    . exact absurd h1 (h2' k x)
    . exact x
    . exact absurd h1' (h2 k' x)
   rw[e,e',this]
theorem Fst.iff {p q:Nat->Prop}{n:Nat}{z:Int}(h:Fst p n z)(hpq:∀k,k<n->(p k ↔ q k)):Fst q n z:=by
 rcases h with ⟨e,h⟩ | ⟨k,hk,e,h1,h2⟩
 . exact .inl ⟨e,fun k hk hq=>h k hk ((hpq k hk).2 hq)⟩
 . exact .inr ⟨k,hk,e,(hpq k hk).1 h1,fun j hj hq=>h2 j hj ((hpq j (by omega)).2 hq)⟩
theorem Fst.bounds {p:Nat->Prop}{n:Nat}{z:Int}(h:Fst p n z):-1<=z/\z<n:=by
 rcases h with ⟨e,h⟩ | ⟨k,hk,e,h1,h2⟩ <;> omega
theorem Fst.ex (p:Nat->Prop):∀n,∃z,Fst p n z
 | 0=>⟨-1,.inl ⟨rfl,fun _ h=>absurd h (nL _)⟩⟩
 | n+1=>by
  obtain⟨z,hz⟩:=Fst.ex p n;rcases hz with ⟨e,h⟩ | ⟨k,hk,e,h1,h2⟩
  . by_cases hn:p n
    . exact⟨n,.inr ⟨n,by omega,rfl,hn,h⟩⟩
    . exact⟨-1,.inl ⟨rfl,fun k hk=>by
       by_cases e:k=n
       . subst e;exact hn
       . exact h k (by omega)⟩⟩
  . exact⟨z,.inr ⟨k,by omega,e,h1,h2⟩⟩
theorem fill_F (s0 s7:ByteArray)(i1 i2:Int)(a3 a4 a5 a6 a8:Option Addr)(n3 n4 n5 n6 n8 c3 c4 c5 c6 c8:Nat):Instr.fill (fun i=>some (i*9,9)) ((Array.range (1*9)).map ((Value.agg Je).cells[· % (Value.agg Je).cells.size]!)) [(0,.agg #[.string s0,J9 i1,J9 i2,.slice a3 n3 c3,.slice a4 n4 c4,.slice a5 n5 c5,.slice a6 n6 c6,.string s7,.slice a8 n8 c8])]=some #[.string s0,J9 i1,J9 i2,.slice a3 n3 c3,.slice a4 n4 c4,.slice a5 n5 c5,.slice a6 n6 c6,.string s7,.slice a8 n8 c8]:=by kernel_rfl
theorem qfr {ops:Array Oper}{rest:List Oper}{o:Oper}{a:Act}{w:World}{Q:Exit->Act->World->Prop}(hg:o.guard=none)(x:Operand)(ho:o.op=.buildSlice 26 1 #[(0,x)]){s0 s7:ByteArray}{i1 i2:Int}{a3 a4 a5 a6 a8:Option Addr}{n3 n4 n5 n6 n8 c3 c4 c5 c6 c8:Nat}
 (hx:a.eval x=.agg #[.string s0,J9 i1,J9 i2,.slice a3 n3 c3,.slice a4 n4 c4,.slice a5 n5 c5,.slice a6 n6 c6,.string s7,.slice a8 n8 c8])
 (h:wpList Tryz.prog ops Q rest (a.put o.dst (.slice (some ⟨w.heap.size,0,none⟩) 1 1)) (w.alloc (.cells #[.string s0,J9 i1,J9 i2,.slice a3 n3 c3,.slice a4 n4 c4,.slice a5 n5 c5,.slice a6 n6 c6,.string s7,.slice a8 n8 c8] 42))):wpList Tryz.prog ops Q (o :: rest) a w:=by
 obtain⟨i0,hi,hz0,hz1,hz2⟩:=info_parts qgz
 refine wpList_buildSlice hg _ 42 1 _ ho _ i0 _ Tryz.underlying26 hi hz0 (by rw[hz1];decide) (by rw[hz1];decide) ?_ h
 rw[hz1]
 simp only[Ob,Zx,Vs,hx]
 exact fill_F s0 s7 i1 i2 a3 a4 a5 a6 a8 n3 n4 n5 n6 n8 c3 c4 c5 c6 c8
theorem q6u {o:Oper}{a:Act}{w:World}(t:TypeId)(parts:Array (Nat × Operand))(ho:o.op=.build t parts)(cells:Array Value)(hc:Tryz.prog.built t (parts.map fun (i,x)=>(i,a.eval x)).toList=some cells):(execOp a.eval o).run Tryz.prog w=.ok (.value (.agg cells)) w:=by
 unfold execOp
 simp only[ho,Sem.run_bind,run_build w t _ cells hc,Result.andThen_ok]
 rfl
theorem q1g {o:Oper}{a:Act}{w:World}(ty:TypeId)(x y:Operand)(ho:o.op=.store ty x y)(g:Nat)(cells:Array Value)(hx:a.eval x=Yc g 0)(hy:a.eval y=.agg cells)(t:TypeId)(old:Array Value)(hg:w.heap[g]? = some (.cells old t (0,0)))(hi:(Tryz.prog.info? ty).map (·.size)=some cells.size)(hold:old.size=cells.size)(h1:cells.all (·.oneCell')=true):(execOp a.eval o).run Tryz.prog w=.ok .skip (w.setRow g cells):=by
 unfold execOp
 simp only[ho,hx,hy,Instr.storeAt,Instr.sureAddr,Sem.run_bind,Sem.run_pure,Result.andThen_ok,run_storeVar_row w g t ty old cells hg hi hold h1]
section
variable {md:Region.Mode} {ops:Array Oper} {Q:Exit->Act->World->Prop} {S:World->Prop} {o:Oper} {l l':List Value} {lb lb':List Bool}
theorem takeL {i:Nat}{v:Value}{fuel:Nat}{w:World}(d:Tmp)(hi:ops[i]? = some o)(hd:o.dst=some d)(hs:Region.noSelect ops=true)(hf:Region.free md ops lb.toArray i=true)(hr:(Region.ready md ops lb.toArray).contains i=true)
 (hQ:∀c (b:Act) (t:Array Value) w,Q (.panic c) { tmps:=t,defers:=b.defers } w->Q (.panic c) b w) (hw:Region.wanted o (yielded ops l.toArray)=true) (hy:∀w,S w->(execOp (Act.eval { tmps:=l.toArray,defers:=[] }) o).run Tryz.prog w=.ok (.value v) w) (hS:S w) (hl:l.set d v=l') (hb:lb.set i true=lb') (h:wpAnyH Tryz.prog md ops Q S fuel lb'.toArray { tmps:=l'.toArray,defers:=[] } w):wpAnyH Tryz.prog md ops Q S (fuel+1) lb.toArray { tmps:=l.toArray,defers:=[] } w :=
 takeY (a:={ tmps:=l.toArray,defers:=[] }) d hi hd hs hf hr hQ hw hy hS (by
  rw[Zy,Zy,hl,hb];exact h)
theorem skipL {i fuel:Nat}{w:World}(d:Tmp)(hi:ops[i]? = some o)(hd:o.dst=some d)(hs:Region.noSelect ops=true)(hf:Region.free md ops lb.toArray i=true)(hr:(Region.ready md ops lb.toArray).contains i=true)
 (hQ:∀c (b:Act) (t:Array Value) w,Q (.panic c) { tmps:=t,defers:=b.defers } w->Q (.panic c) b w) (hw:Region.wanted o (yielded ops l.toArray)=false) (hS:S w) (hl:l.set d undef=l') (hb:lb.set i true=lb') (h:wpAnyH Tryz.prog md ops Q S fuel lb'.toArray { tmps:=l'.toArray,defers:=[] } w):wpAnyH Tryz.prog md ops Q S (fuel+1) lb.toArray { tmps:=l.toArray,defers:=[] } w :=
 takeN (a:={ tmps:=l.toArray,defers:=[] }) d hi hd hs hf hr hQ hw hS (by
  rw[Zy,Zy,hl,hb];exact h)
theorem tkL {fuel:Nat}{w:World}(i:Nat)(d:Tmp)(v:Value)(hS:S w)(h:wpAnyH Tryz.prog md ops Q S fuel lb'.toArray { tmps:=l'.toArray,defers:=[] } w)
 (hi:ops[i]? = some o:=by exact rfl) (hy:∀w,S w->(execOp (Act.eval { tmps:=l.toArray,defers:=[] }) o).run Tryz.prog w=.ok (.value v) w:=by intro _ _;first | rfl | simp[execOp,go_sem, *]) (hd:o.dst=some d:=by exact rfl) (hs:Region.noSelect ops=true:=by kernel_rfl) (hf:Region.free md ops lb.toArray i=true:=by kernel_rfl) (hr:(Region.ready md ops lb.toArray).contains i=true:=by kernel_rfl)
 (hQ:∀c (b:Act) (t:Array Value) w,Q (.panic c) { tmps:=t,defers:=b.defers } w->Q (.panic c) b w:=by exact fun _ _ _ _ h=>h) (hw:Region.wanted o (yielded ops l.toArray)=true:=by rfl) (hl:l.set d v=l':=by(first | simp only[Yd,Ye] | skip);rfl) (hb:lb.set i true=lb':=by(first | simp only[Yd,Ye] | skip);rfl):wpAnyH Tryz.prog md ops Q S (fuel+1) lb.toArray { tmps:=l.toArray,defers:=[] } w :=
 takeL d hi hd hs hf hr hQ hw hy hS hl hb h
theorem skL {fuel:Nat}{w:World}(i:Nat)(d:Tmp)(hS:S w)(h:wpAnyH Tryz.prog md ops Q S fuel lb'.toArray { tmps:=l'.toArray,defers:=[] } w)
 (hi:ops[i]? = some o:=by exact rfl) (hd:o.dst=some d:=by exact rfl) (hs:Region.noSelect ops=true:=by kernel_rfl) (hf:Region.free md ops lb.toArray i=true:=by kernel_rfl) (hr:(Region.ready md ops lb.toArray).contains i=true:=by kernel_rfl)
 (hQ:∀c (b:Act) (t:Array Value) w,Q (.panic c) { tmps:=t,defers:=b.defers } w->Q (.panic c) b w:=by exact fun _ _ _ _ h=>h) (hw:Region.wanted o (yielded ops l.toArray)=false:=by rfl) (hl:l.set d undef=l':=by(first | simp only[Yd,Ye] | skip);rfl) (hb:lb.set i true=lb':=by(first | simp only[Yd,Ye] | skip);rfl):wpAnyH Tryz.prog md ops Q S (fuel+1) lb.toArray { tmps:=l.toArray,defers:=[] } w :=
 skipL d hi hd hs hf hr hQ hw hS hl hb h
theorem outL {d i:Nat}{v:Value}{fuel:Nat}{w:World}(hl:l.set d v=l')(hb:lb.set i true=lb')(h:wpAnyH Tryz.prog md ops Q S fuel lb'.toArray { tmps:=l'.toArray,defers:=[] } w):wpAnyH Tryz.prog md ops Q S fuel (lb.toArray.setIfInBounds i true) { tmps:=l.toArray.setIfInBounds d v,defers:=[] } w:=by
 rw[Zy,Zy,hl,hb]
 exact h
theorem outB {i:Nat}{a:Act}{fuel:Nat}{w:World}(hb:lb.set i true=lb')(h:wpAnyH Tryz.prog md ops Q S fuel lb'.toArray a w):wpAnyH Tryz.prog md ops Q S fuel (lb.toArray.setIfInBounds i true) a w:=by
 rw[Zy,hb]
 exact h
end
end Go.Proofs.YtebbgodlijlioaaGreatDoor
