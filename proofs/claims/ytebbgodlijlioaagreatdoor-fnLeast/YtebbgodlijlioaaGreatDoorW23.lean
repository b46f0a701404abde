import Derived.Test.YtebbgodlijlioaaGreatDoorW18
import Derived.Maps.AppendAt
set_option maxRecDepth 100000
set_option maxHeartbeats 64000000
namespace Go.Proofs.YtebbgodlijlioaaGreatDoor
open Go Go.RowKit
def pp (l:List (Int × Int)):List Value:=l.flatMap fun u=>[.int .i64 u.1,.int .i64 u.2]
theorem qit (u:Int × Int)(l:List (Int × Int)):pp (u :: l)=J9 u.1 :: J9 u.2 :: pp l:=by simp[pp]
theorem pp_len:∀l:List (Int × Int),(pp l).length=l.length*2
 | []=>rfl
 | u :: l=>by rw[qit];simp[pp_len l];omega
theorem qiu (l:List (Int × Int))(u:Int × Int):pp (l++[u])=pp l++[J9 u.1,J9 u.2]:=by simp[pp]
theorem pp_at:∀(l:List (Int × Int)) (k:Nat),k<l.length->(pp l)[k*2]? = some (J9 (l.getD k (0,0)).1)/\(pp l)[k*2+1]? = some (J9 (l.getD k (0,0)).2)
 | [],k,h=>absurd h (nL _)
 | u :: l,0,_=>by simp[qit]
 | u :: l,k+1,h=>by
  have:=pp_at l k (by simpa using h);rw[qit,show(k+1)*2=k*2+1+1 by omega];simpa using this
theorem q2s {w:World}{base:Nat}{e:TypeId}{v:Value}{n:Nat}{l:List (Int × Int)}(h:w.ownsRow base e 2 v n (pp l)) :
 ∃a cap,v=.slice a n cap/\Pairs w a n (fun k=>(l.getD k (0,0)).1) (fun k=>(l.getD k (0,0)).2):=by
 have hlen:l.length=n:=by have:=h.1;rw[pp_len]at this;omega
 rcases h.2 with ⟨rfl,rfl⟩ | ⟨g,cap,cur,rfl,hb,hg,hc,-,hs,htake⟩
 . exact⟨none,0,rfl,fun k hk=>absurd hk (nL _)⟩
 . refine⟨_,cap,rfl,fun k hk=>⟨g,0,rfl,(Yt.1 hg).1,?_,?_⟩⟩
   . have:=h.cellAt (k*2) (by omega)
     rw[Zi,this];exact(pp_at l k (by omega)).1
   . have:=h.cellAt (k*2+1) (by omega)
     rw[Zi,this];exact(pp_at l k (by omega)).2
theorem q89 (w:World)(t:TypeId):(w.alloc (.cells #[] t)).ownsRow w.heap.size t 2 (.slice (some ⟨w.heap.size,0,none⟩) 0 0) 0 (pp []) :=
 ⟨rfl,.inr ⟨w.heap.size,0,#[],rfl,nR _,heap_alloc_new w (.cells #[] t),nR _,nZ _,rfl,rfl⟩⟩
structure Chg (G:Nat)(w w':World):Prop where
 os:w'.os=w.os
 tape:w'.tape=w.tape
 output:w'.output=w.output
 size:w'.heap.size=w.heap.size
 block:∀b,b≠G->w'.heap[b]? = w.heap[b]?
theorem Chg.refl (G:Nat)(w:World):Chg G w w:=⟨rfl,rfl,rfl,rfl,fun _ _=>rfl⟩
theorem Chg.trans {G:Nat}{w w' w'':World}(h:Chg G w w')(h':Chg G w' w''):Chg G w w'':=⟨h'.os.trans h.os,h'.tape.trans h.tape,h'.output.trans h.output,h'.size.trans h.size,fun b hb=>(h'.block b hb).trans (h.block b hb)⟩
theorem Chg.set {G:Nat}{w w':World}(h:Chg G w w')(j:Nat)(v:Value):Chg G w (w'.setCell ⟨G,j,none⟩ v) :=
 have hb:Below w'.heap.size w' w':=bR _ _
 have h2:Below G w' (w'.setCell ⟨G,j,none⟩ v):=(bR G w').setCell (nR _) v
 ⟨h2.os.trans h.os,h2.tape.trans h.tape,h2.output.trans h.output,by simp[h.size],fun b hbG=>(heap_setCell_other w' ⟨G,j,none⟩ b v hbG).trans (h.block b hbG)⟩
theorem Chg.below {G B:Nat}{w w':World}(h:Chg G w w')(hB:B<=G):Below B w w':=⟨h.os,h.tape,h.output,by rw[h.size];exact nR _,fun b hb=>h.block b (by omega)⟩
theorem Chg.blk {G b:Nat}{w w':World}{t:TypeId}{cs:List Value}(h:Chg G w w')(k:Blk w b t cs)(hb:b≠G):Blk w' b t cs:=(h.block b hb).trans k
theorem q9z:(Tryz.prog.info? 64).map (fun i=>(i.zero,i.size,i.bytes))=some (some (.agg #[J9 0,J9 0]),2,16):=by kernel_rfl
theorem qc7 (w:World)(t:TypeId)(v u:Value):∀(j:Nat) (x:Value),[v,u][j]? = some x->(w.alloc (.cells #[v,u] t)).cell? ((⟨w.heap.size,0,none⟩:Addr).add j)=some x:=fun j x h=>by
 match j,h with
 | 0,h=>simp at h;subst h;exact(Blk.new w t #[v,u]).cell 0
 | 1,h=>simp at h;subst h;exact(Blk.new w t #[v,u]).cell 1
theorem qdv {w:World}{base e size n R j:Nat}{v x:Value}{xs:List Value}(h:w.ownsRow base e size v n xs)(hR:R<base):(w.setCell ⟨R,j,none⟩ x).ownsRow base e size v n xs:=by
 refine⟨h.1,?_⟩
 rcases h.2 with h' | ⟨g,cap,cur,h1,h2,h3,h4⟩
 . exact .inl h'
 . exact .inr ⟨g,cap,cur,h1,h2,(heap_setCell_other w ⟨R,j,none⟩ g x (by show g≠R;omega)).trans h3,h4⟩
theorem qar {w:World}{base base' e size n:Nat}{v:Value}{xs:List Value}(h:w.ownsRow base e size v n xs)(hb:base'<=base):w.ownsRow base' e size v n xs:=by
 refine⟨h.1,?_⟩
 rcases h.2 with h' | ⟨g,cap,cur,h1,h2,h3⟩
 . exact .inl h'
 . exact .inr ⟨g,cap,cur,h1,by omega,h3⟩
def OrdOut (w:World)(N:Int)(l:List (Int × Int))(e:Ending)(w':World):Prop :=
 ∃v,e=.returned (.agg #[J9 N,v])/\w'.ownsRow w.heap.size 64 2 v l.length (pp l)/\Below w.heap.size w w'
def chainL (k:Nat):List (Int × Int):=(List.range k).map fun (i:Nat)=>((i:Int),(i:Int)+1)
theorem q6k (k:Nat):chainL (k+1)=chainL k++[((k:Int),(k:Int)+1)]:=by simp[chainL,List.range_succ]
theorem q9b (k:Nat):(chainL k).length=k:=by simp[chainL]
theorem q2g (n:Nat)(w:World)(hn:n<=1024)(h1:1<=n) :
 Calls Tryz.prog 101 #[J9 0,J9 n] w fun e w'=>OrdOut w n (chainL (n - 1)) e w':=by
 obtain⟨W,hW⟩:=Nq (w.alloc (.cells J4 39))
 have hWs:W.heap.size=w.heap.size+1:=by rw[<- hW];simp
 have bR:Blk W w.heap.size 39 [J9 0,Ya]:=by rw[<- hW];exact Blk.new w 39 J4
 have hb:Below w.heap.size w W:=by rw[<- hW];exact(Below.refl _ _).alloc (nR _) _
 have HR:=h_ bR;have HB:=h_ hb;have HWS:=h_ hWs
 clear bR hb
 go_enter Tryz.func101,Tryz.ntmps101
 go_wp2
 try rw[hW]
 go_loopw [5,6] (fun v i wr=>∃k:Nat,k<=n - 1/\i=J9 k/\wr.ownsRow W.heap.size 64 2 v k (pp (chainL k))/\Below W.heap.size W wr) (fun _ i _=>n - (intOf i).toNat)
 case atStart=>exact⟨0,nZ _,rfl,(by have h:=q89 W 64;rw[HWS.u]at h⊢;exact h),(Below.refl _ _).alloc (nR _) _⟩
 case round =>
  obtain⟨k,hk,rfl,hO,hB⟩:=hrel;have HO:=h_ hO;have HBr:=h_ hB;clear hO hB hW hWs;by_cases hlt:k+1<n
  . have hlt':(k:Int)+1<n:=by omega
    obtain⟨i0,hi,hz0,hz1,hz2⟩:=info_parts q9z;go_wp2_with (at_builtin;refine wpList_append_own_at _ rfl _ _ 24 rfl W.heap.size 64 i0 _ 2 16 Tryz.underlying24 hi hz0 hz1 hz2 rfl (by omega) _ _ _ rfl (HO.u.alloc _) ⟨wr.heap.size,0,none⟩ 1 1 [J9 k,J9 (k+1)] rfl rfl (qc7 wr 64 _ _) (by simp[Value.oneCell']) (by unfold maxLen;omega) (by omega) (by have:=HBr.u.size;simp;omega) ?_);intro v' w3 ho' hgr' _ _;have hB3:=(HBr.u.alloc HBr.u.size (.cells (Jp k ((k:Int)+1)) 64)).grown hgr' (by have:=HBr.u.size;simp;omega) (fun q' e=>q87 HO.u e);have HO3:Hi (w3.ownsRow W.heap.size 64 2 v' (k+1) (pp (chainL (k+1)))):=h_ (by rw[q6k,qiu];exact ho');have HB3:=h_ hB3;clear hgr' hB3 ho' HO HBr hi hz0 hz1 hz2;go_wp2;go_roundw
    case rel=>exact⟨k+1,by omega,by go_num,HO3.u,HB3.u⟩
    case measure=>simp[intOf];omega
  . have hlt':¬ (k:Int)+1<n:=by omega
    obtain rfl:k=n - 1:=(by omega);obtain⟨a,cap,rfl,-⟩:=q2s HO.u;have bR:=HR.u.mono HBr.u (by have:=HWS.u;omega);obtain⟨r0,r1⟩:wr.cell? ⟨w.heap.size,0,none⟩=some (J9 0)/\wr.cell? ⟨w.heap.size,1,none⟩=some Ya:=⟨bR.cell 0,bR.cell 1⟩;have f0:=bR.free 0;have f1:=bR.free 1;clear bR;go_wp2;refine bodyPost_ret (v:=.agg (Jn n a (n - 1) cap)) (by simp[results,Tryz.results101,go_sem, *]) rfl ⟨_,rfl,?_,?_⟩
    . rw[q9b]
      exact qar (qdv (qdv HO.u (by have:=HWS.u;omega)) (by have:=HWS.u;omega)) (by have:=HWS.u;omega)
    . exact((HB.u.trans (HBr.u.mono (by have:=HWS.u;omega))).setCell (nR _) _).setCell (nR _) _
def starL (n k:Nat):List (Int × Int):=(List.range k).flatMap fun (i:Nat)=>[((0:Int),(i:Int)+1),((i:Int)+1,(n:Int)+1)]
theorem qbf (n k:Nat):starL n (k+1)=starL n k++[((0:Int),(k:Int)+1)]++[((k:Int)+1,(n:Int)+1)]:=by simp[starL,List.range_succ]
theorem qew (n:Nat):∀k,(starL n k).length=k*2
 | 0=>rfl
 | k+1=>by rw[qbf];simp[qew n k];omega
theorem q3o (n:Nat)(w:World)(hn:n<=1024) :
 Calls Tryz.prog 101 #[J9 1,J9 n] w fun e w'=>OrdOut w ((n:Int)+2) (starL n n) e w':=by
 obtain⟨W,hW⟩:=Nq (w.alloc (.cells J4 39))
 have hWs:W.heap.size=w.heap.size+1:=by rw[<- hW];simp
 have bR:Blk W w.heap.size 39 [J9 0,Ya]:=by rw[<- hW];exact Blk.new w 39 J4
 have hb:Below w.heap.size w W:=by rw[<- hW];exact(Below.refl _ _).alloc (nR _) _
 have HR:=h_ bR;have HB:=h_ hb;have HWS:=h_ hWs
 clear bR hb
 go_enter Tryz.func101,Tryz.ntmps101
 go_wp2
 try rw[hW]
 go_loopw [5,7] (fun v i wr=>∃k:Nat,k<=n/\i=J9 ((k:Int)+1)/\wr.ownsRow W.heap.size 64 2 v (k*2) (pp (starL n k))/\Below W.heap.size W wr) (fun _ i _=>n+1 - (intOf i).toNat)
 case atStart=>exact⟨0,nZ _,rfl,(by have h:=q89 W 64;rw[HWS.u]at h⊢;exact h),(Below.refl _ _).alloc (nR _) _⟩
 case round =>
  obtain⟨k,hk,rfl,hO,hB⟩:=hrel;have HO:=h_ hO;have HBr:=h_ hB;clear hO hB hW hWs;by_cases hlt:k<n
  . have hlt':(k:Int)+1<=n:=by omega
    obtain⟨i0,hi,hz0,hz1,hz2⟩:=info_parts q9z;go_wp2_with (at_builtin;refine wpList_append_own_at _ rfl _ _ 24 rfl W.heap.size 64 i0 _ 2 16 Tryz.underlying24 hi hz0 hz1 hz2 rfl (by omega) _ _ _ rfl (HO.u.alloc _) ⟨wr.heap.size,0,none⟩ 1 1 [J9 0,J9 ((k:Int)+1)] rfl rfl (qc7 wr 64 _ _) (by simp[Value.oneCell']) (by unfold maxLen;omega) (by omega) (by have:=HBr.u.size;simp;omega) ?_);intro v' w3 ho' hgr' _ _;have hB3:=(HBr.u.alloc HBr.u.size (.cells #[J9 0,J9 ((k:Int)+1)] 64)).grown hgr' (by have:=HBr.u.size;simp;omega) (fun q' e=>q87 HO.u e);have HO3:Hi (w3.ownsRow W.heap.size 64 2 v' (k*2+1) (pp (starL n k++[((0:Int),(k:Int)+1)]))):=h_ (by rw[qiu];exact ho');have HB3:=h_ hB3;clear hgr' hB3 ho' HO HBr;go_wp2_with (at_builtin;refine wpList_append_own_at _ rfl _ _ 24 rfl W.heap.size 64 i0 _ 2 16 Tryz.underlying24 hi hz0 hz1 hz2 rfl (by omega) _ _ _ rfl (HO3.u.alloc _) ⟨w3.heap.size,0,none⟩ 1 1 [J9 ((k:Int)+1),J9 ((n:Int)+1)] rfl rfl (qc7 w3 64 _ _) (by simp[Value.oneCell']) (by unfold maxLen;omega) (by omega) (by have:=HB3.u.size;simp;omega) ?_);intro v4 w4 ho' hgr' _ _;have hB4:=(HB3.u.alloc HB3.u.size (.cells (Jp ((k:Int)+1) ((n:Int)+1)) 64)).grown hgr' (by have:=HB3.u.size;simp;omega) (fun q' e=>q87 HO3.u e);have HO4:Hi (w4.ownsRow W.heap.size 64 2 v4 ((k+1)*2) (pp (starL n (k+1)))):=h_ (by rw[qbf,qiu,show(k+1)*2=k*2+1+1 by omega];exact ho');have HB4:=h_ hB4;clear hgr' hB4 ho' HO3 HB3 hi hz0 hz1 hz2;go_wp2;go_roundw
    case rel=>exact⟨k+1,by omega,by go_num,HO4.u,HB4.u⟩
    case measure=>simp[intOf];omega
  . have hlt':¬ (k:Int)+1<=n:=by omega
    obtain rfl:k=n:=(by omega);obtain⟨a,cap,rfl,-⟩:=q2s HO.u;have bR:=HR.u.mono HBr.u (by have:=HWS.u;omega);obtain⟨r0,r1⟩:wr.cell? ⟨w.heap.size,0,none⟩=some (J9 0)/\wr.cell? ⟨w.heap.size,1,none⟩=some Ya:=⟨bR.cell 0,bR.cell 1⟩;have f0:=bR.free 0;have f1:=bR.free 1;clear bR;go_wp2;refine bodyPost_ret (v:=.agg (Jn ((k:Int)+2) a (k*2) cap)) (by simp[results,Tryz.results101,go_sem, *]) rfl ⟨_,rfl,?_,?_⟩
    . rw[qew]
      exact qar (qdv (qdv HO.u (by have:=HWS.u;omega)) (by have:=HWS.u;omega)) (by have:=HWS.u;omega)
    . exact((HB.u.trans (HBr.u.mono (by have:=HWS.u;omega))).setCell (nR _) _).setCell (nR _) _
def cellX (w y x:Nat):List (Int × Int):=if x+1<w then [((y:Int)*w+x,(y:Int)*w+x+1)] else []
def cellY (w y x:Nat):List (Int × Int):=if y+1<3 then [((y:Int)*w+x,((y:Int)+1)*w+x)] else []
theorem q95 (w y x:Nat):(cellX w y x).length<=1:=by unfold cellX;split <;> simp
theorem q96 (w y x:Nat):(cellY w y x).length<=1:=by unfold cellY;split <;> simp
def rowG (w y x:Nat):List (Int × Int):=(List.range x).flatMap fun x=>cellX w y x++cellY w y x
theorem qb4 (w y x:Nat):rowG w y (x+1)=rowG w y x++cellX w y x++cellY w y x:=by simp[rowG,List.range_succ]
theorem qee (w y:Nat):∀x,(rowG w y x).length<=x*2
 | 0=>nR _
 | x+1=>by rw[qb4,Yg,Yg];have:=qee w y x;have:=q95 w y x;have:=q96 w y x;omega
def gridL (w y:Nat):List (Int × Int):=(List.range y).flatMap fun y=>rowG w y w
theorem q9v (w y:Nat):gridL w (y+1)=gridL w y++rowG w y w:=by simp[gridL,List.range_succ]
theorem qcp (w:Nat)(hw:w<=4):∀y,(gridL w y).length<=y*8
 | 0=>nR _
 | y+1=>by rw[q9v,Yg];have:=qcp w hw y;have:=qee w y w;omega
theorem q3n (n:Nat)(w:World)(hn:n<=1024)(D:Nat)(hD:n % 3+2=D) :
 Calls Tryz.prog 101 #[J9 3,J9 n] w fun e w'=>OrdOut w (3*(D:Int)) (gridL D 3) e w':=by
 have hD4:2<=D/\D<=4:=by omega
 have hD':(n:Int) % 3+2=D:=by omega
 have hD2:(n:Int).tmod 3+2=D:=by rw[<- hD];rfl
 clear hD
 obtain⟨W,hW⟩:=Nq (w.alloc (.cells J4 39))
 have hWs:W.heap.size=w.heap.size+1:=by rw[<- hW];simp
 have bR:Blk W w.heap.size 39 [J9 0,Ya]:=by rw[<- hW];exact Blk.new w 39 J4
 have hb:Below w.heap.size w W:=by rw[<- hW];exact(Below.refl _ _).alloc (nR _) _
 have HR:=h_ bR;have HB:=h_ hb;have HWS:=h_ hWs
 clear bR hb
 go_enter Tryz.func101,Tryz.ntmps101
 go_wp2
 try rw[hW]
 go_loopw [5,11] (fun v i wr=>∃k:Nat,k<=3/\i=J9 k/\wr.ownsRow W.heap.size 64 2 v (gridL D k).length (pp (gridL D k))/\Below W.heap.size W wr) (fun _ i _=>3 - (intOf i).toNat)
 case atStart=>exact⟨0,nZ _,rfl,(by have h:=q89 W 64;rw[HWS.u]at h⊢;exact h),(Below.refl _ _).alloc (nR _) _⟩
 case round =>
  obtain⟨k,hk,rfl,hO,hB⟩:=hrel;have HO:=h_ hO;have HBr:=h_ hB;clear hO hB hW hWs;by_cases hlt:k<3
  . have hlt':(k:Int)<3:=by omega
    go_wp2;go_loopw [5,12] (fun v b wr=>∃c:Nat,c<=D/\b=J9 c/\wr.ownsRow W.heap.size 64 2 v (gridL D k++rowG D k c).length (pp (gridL D k++rowG D k c))/\Below W.heap.size W wr) (fun _ b _=>D - (intOf b).toNat)
    case atStart=>exact⟨0,nZ _,rfl,by rw[show rowG D k 0=[] from rfl,Zr];exact HO.u,HBr.u⟩
    case round =>
     clear HO HBr;obtain⟨c,hc,rfl,hO,hB⟩:=hrel;have HO:=h_ hO;have HBr:=h_ hB;clear hO hB;by_cases hcD:c<D
     . have hcD':(c:Int)<D:=by omega
       have hl:=qcp D hD4.2 k;have hl2:=qee D k c;have hlen:(gridL D k++rowG D k c).length<=32:=(by rw[Yg];omega);obtain⟨L,hL⟩:=Nq (gridL D k++rowG D k c);have HT:Hi (gridL D k++rowG D k (c+1)=L++cellX D k c++cellY D k c):=h_ (by rw[qb4,<- Vb,<- Vb,hL]);rw[hL]at HO hlen;clear hL hl hl2;have p1:(0:Int)<=(k:Int)*D/\(k:Int)*D<=8:=by
        have:k*D<=2*4:=Vn (by omega) hD4.2;have h2:(k:Int)*D=((k*D:Nat):Int):=(by simp);rw[h2];omega
       have p2:(0:Int)<=((k:Int)+1)*D/\((k:Int)+1)*D<=12:=(by rw[Int.add_mul,Int.one_mul];omega);have step:∀(v:Value) (wr:World),Hi (wr.ownsRow W.heap.size 64 2 v (gridL D k++rowG D k (c+1)).length (pp (gridL D k++rowG D k (c+1))))->Hi (Below W.heap.size W wr)->∃c':Nat,c'<=D/\(Value.int .i64 ((c:Int)+1))=J9 c'/\wr.ownsRow W.heap.size 64 2 v (gridL D k++rowG D k c').length (pp (gridL D k++rowG D k c'))/\Below W.heap.size W wr:=fun v wr a b=>⟨c+1,by omega,by simp,a.u,b.u⟩;obtain⟨i0,hi,hz0,hz1,hz2⟩:=info_parts q9z;by_cases hx:c+1<D <;> by_cases hy:k+1<3
       . have hx':((c:Int)+1<D):=by omega
         have hy':((k:Int)+1<3):=(by omega);simp only[cellX,cellY,Yy hx,Yy hy]at HT;go_wp2_with (at_builtin;refine wpList_append_own_at _ rfl _ _ 24 rfl W.heap.size 64 i0 _ 2 16 Tryz.underlying24 hi hz0 hz1 hz2 rfl (by omega) _ _ _ rfl (HO.u.alloc _) ⟨wr.heap.size,0,none⟩ 1 1 [J9 ((k:Int)*D+c),J9 ((k:Int)*D+c+1)] rfl rfl (qc7 wr 64 _ _) (by simp[Value.oneCell']) (by unfold maxLen;omega) (by omega) (by have:=HBr.u.size;simp;omega) ?_);intro v3 w3 ho' hgr' _ _;have hB3:=(HBr.u.alloc HBr.u.size (.cells (Jp ((k:Int)*D+c) ((k:Int)*D+c+1)) 64)).grown hgr' (by have:=HBr.u.size;simp;omega) (fun q' e=>q87 HO.u e);have HO3:Hi (w3.ownsRow W.heap.size 64 2 v3 (L.length+1) (pp (L++[((k:Int)*D+c,(k:Int)*D+c+1)]))):=h_ (by rw[qiu];exact ho');have HB3:=h_ hB3;clear hgr' hB3 ho' HO HBr;go_wp2_with (at_builtin;refine wpList_append_own_at _ rfl _ _ 24 rfl W.heap.size 64 i0 _ 2 16 Tryz.underlying24 hi hz0 hz1 hz2 rfl (by omega) _ _ _ rfl (HO3.u.alloc _) ⟨w3.heap.size,0,none⟩ 1 1 [J9 ((k:Int)*D+c),J9 (((k:Int)+1)*D+c)] rfl rfl (qc7 w3 64 _ _) (by simp[Value.oneCell']) (by unfold maxLen;omega) (by omega) (by have:=HB3.u.size;simp;omega) ?_);intro v4 w4 ho' hgr' _ _;have hB4:=(HB3.u.alloc HB3.u.size (.cells (Jp ((k:Int)*D+c) (((k:Int)+1)*D+c)) 64)).grown hgr' (by have:=HB3.u.size;simp;omega) (fun q' e=>q87 HO3.u e);have HO4:Hi (w4.ownsRow W.heap.size 64 2 v4 (L.length+1+1) (pp (L++[((k:Int)*D+c,(k:Int)*D+c+1)]++[((k:Int)*D+c,((k:Int)+1)*D+c)]))):=h_ (by rw[qiu];exact ho');have HB4:=h_ hB4;clear hgr' hB4 ho' HO3 HB3;go_wp2;go_roundw
         case rel=>exact step _ _ (by rw[HT.u];simpa only[Yg,Vt] using HO4) HB4
         case measure=>simp[intOf];omega
       . have hx':((c:Int)+1<D):=by omega
         have hy':¬ ((k:Int)+1<3):=(by omega);simp only[cellX,cellY,Yy hx,Yu hy,Zr]at HT;go_wp2_with (at_builtin;refine wpList_append_own_at _ rfl _ _ 24 rfl W.heap.size 64 i0 _ 2 16 Tryz.underlying24 hi hz0 hz1 hz2 rfl (by omega) _ _ _ rfl (HO.u.alloc _) ⟨wr.heap.size,0,none⟩ 1 1 [J9 ((k:Int)*D+c),J9 ((k:Int)*D+c+1)] rfl rfl (qc7 wr 64 _ _) (by simp[Value.oneCell']) (by unfold maxLen;omega) (by omega) (by have:=HBr.u.size;simp;omega) ?_);intro v3 w3 ho' hgr' _ _;have hB3:=(HBr.u.alloc HBr.u.size (.cells (Jp ((k:Int)*D+c) ((k:Int)*D+c+1)) 64)).grown hgr' (by have:=HBr.u.size;simp;omega) (fun q' e=>q87 HO.u e);have HO3:Hi (w3.ownsRow W.heap.size 64 2 v3 (L.length+1) (pp (L++[((k:Int)*D+c,(k:Int)*D+c+1)]))):=h_ (by rw[qiu];exact ho');have HB3:=h_ hB3;clear hgr' hB3 ho' HO HBr;go_wp2;go_roundw
         case rel=>exact step _ _ (by rw[HT.u];simpa only[Yg,Vt] using HO3) HB3
         case measure=>simp[intOf];omega
       . have hx':¬ ((c:Int)+1<D):=by omega
         have hy':((k:Int)+1<3):=(by omega);simp only[cellX,cellY,Yu hx,Yy hy,Zr]at HT;go_wp2_with (at_builtin;refine wpList_append_own_at _ rfl _ _ 24 rfl W.heap.size 64 i0 _ 2 16 Tryz.underlying24 hi hz0 hz1 hz2 rfl (by omega) _ _ _ rfl (HO.u.alloc _) ⟨wr.heap.size,0,none⟩ 1 1 [J9 ((k:Int)*D+c),J9 (((k:Int)+1)*D+c)] rfl rfl (qc7 wr 64 _ _) (by simp[Value.oneCell']) (by unfold maxLen;omega) (by omega) (by have:=HBr.u.size;simp;omega) ?_);intro v4 w4 ho' hgr' _ _;have hB4:=(HBr.u.alloc HBr.u.size (.cells (Jp ((k:Int)*D+c) (((k:Int)+1)*D+c)) 64)).grown hgr' (by have:=HBr.u.size;simp;omega) (fun q' e=>q87 HO.u e);have HO4:Hi (w4.ownsRow W.heap.size 64 2 v4 (L.length+1) (pp (L++[((k:Int)*D+c,((k:Int)+1)*D+c)]))):=h_ (by rw[qiu];exact ho');have HB4:=h_ hB4;clear hgr' hB4 ho' HO HBr;go_wp2;go_roundw
         case rel=>exact step _ _ (by rw[HT.u];simpa only[Yg,Vt] using HO4) HB4
         case measure=>simp[intOf];omega
       . have hx':¬ ((c:Int)+1<D):=by omega
         have hy':¬ ((k:Int)+1<3):=(by omega);simp only[cellX,cellY,Yu hx,Yu hy,Zr]at HT;go_wp2;go_roundw
         case rel=>exact step _ _ (by rw[HT.u];exact HO) HBr
         case measure=>simp[intOf];omega
     . obtain rfl:c=D:=by omega
       have HO3:Hi (wr.ownsRow W.heap.size 64 2 u5 (gridL c (k+1)).length (pp (gridL c (k+1)))):=h_ (by rw[q9v];exact HO.u);go_wp2;go_roundw
       case rel=>exact⟨k+1,by omega,by go_num,HO3.u,HBr.u⟩
       case measure=>simp[intOf];omega
  . obtain rfl:k=3:=by omega
    obtain⟨a,cap,rfl,-⟩:=q2s HO.u;have bR:=HR.u.mono HBr.u (by have:=HWS.u;omega);obtain⟨r0,r1⟩:wr.cell? ⟨w.heap.size,0,none⟩=some (J9 0)/\wr.cell? ⟨w.heap.size,1,none⟩=some Ya:=⟨bR.cell 0,bR.cell 1⟩;have f0:=bR.free 0;have f1:=bR.free 1;clear bR;go_wp2;refine bodyPost_ret (v:=.agg (Jn (3*(D:Int)) a (gridL D 3).length cap)) (by simp[results,Tryz.results101,go_sem, *]) rfl ⟨_,rfl,?_,?_⟩
    . exact qar (qdv (qdv HO.u (by have:=HWS.u;omega)) (by have:=HWS.u;omega)) (by have:=HWS.u;omega)
    . exact((HB.u.trans (HBr.u.mono (by have:=HWS.u;omega))).setCell (nR _) _).setCell (nR _) _
end Go.Proofs.YtebbgodlijlioaaGreatDoor
namespace Go.Proofs.YtebbgodlijlioaaGreatDoor
open Go Go.RowKit Go.Shelf
attribute [local go_sem] Oper.semAt_some
def IsReach (g':Nat->Nat)(P:Nat->Nat->Prop):Prop:=∀a,a<32->g' a<4294967296/\∀b,((g' a).testBit b=true ↔ P a b)
theorem IsReach.congr {g':Nat->Nat}{P Q:Nat->Nat->Prop}(h:IsReach g' P)(hPQ:∀a b,P a b ↔ Q a b):IsReach g' Q:=fun a ha=>⟨(h a ha).1,fun b=>((h a ha).2 b).trans (hPQ a b)⟩
theorem q9c {g'':Nat->Nat}{P:Nat->Nat->Prop}{k x:Nat}{pre:List Nat}(h:IsReach g'' (fun a b=>P a b∨(a=k/\b∈pre)))(hk:k<32)(hx:x<32) :
 IsReach (fun j=>if j=k then g'' k ||| 2 ^ x else g'' j) (fun a b=>P a b∨(a=k/\b∈pre++[x])):=fun a ha=>by
 by_cases e:a=k
 . subst e
   simp only[if_true];refine⟨or_lt (h a ha).1 (two_lt hx),fun b=>?_⟩;rw[Ok,Zs,(h a ha).2 b,Z4,decide_eq_true_iff,Y9,Yx];constructor
   . rintro ((h1 | h1) | h1)
     . exact .inl h1
     . exact .inr ⟨by simp,.inl h1.2⟩
     . exact .inr ⟨by simp,.inr h1.symm⟩
   . rintro (h1 | ⟨-,h1 | h1⟩)
     . exact .inl (.inl h1)
     . exact .inl (.inr ⟨by simp,h1⟩)
     . exact .inr h1.symm
 . simp only[Yu e]
   refine⟨(h a ha).1,fun b=>?_⟩;rw[(h a ha).2 b];simp[e]
theorem q6l {g'' g:Nat->Nat}{k:Nat}{xs:List Nat}(h:IsReach g'' (fun a b=>(a<k/\Reach g a b)∨(a=k/\b∈xs)))(hx:∀i,i∈xs ↔ Reach g k i):IsReach g'' (fun a b=>a<k+1/\Reach g a b) :=
 h.congr fun a b=>by
  constructor
  . rintro (⟨h1,h2⟩ | ⟨rfl,h2⟩)
    . exact⟨by omega,h2⟩
    . exact⟨by omega,(hx b).1 h2⟩
  . rintro⟨h1,h2⟩
    by_cases e:a=k
    . subst e;exact .inr ⟨rfl,(hx b).2 h2⟩
    . exact .inl ⟨by omega,h2⟩
theorem q9d (m:Nat)(g:Nat->Nat)(n:Nat)(w:World)(hn:n<=32)(hg:∀a,a<32->g a<4294967296)(ht:Tab w) :
 CallsIn Fence.wide m Tryz.prog 83 #[.agg (us g).toArray,J9 n] w fun e w'=>∃g',e=.returned (.agg (us g').toArray)/\IsReach g' (fun a b=>a<n/\Reach g a b)/\Below w.heap.size w w':=by
 refine callsIn_of_wp_marks Tryz.func83 rfl trivial ?_ rfl
 simp only[Tryz.ntmps83,Zj,Yw,Y5,Nat.reduceAdd,Nat.reduceSub,Vw,Vv,Oj,Od,Og,Z3]
 gi_wp2_with (refine q02 rfl _ _ rfl (w.heap.size+1+1) (fun _=>0) (fun _=>0) rfl rfl (blk3 _ _ _ _ _ rfl) ?_;intro w1 hb1 hg1 hs1;have hA:=(blk1 _ _ _ _ _).grown hg1 (by simp;omega);have hR:=(blk2 _ _ _ _ (fun _=>0) rfl).grown hg1 (by simp);have hB:=(below3 _ _ _ _).trans ((bR w.heap.size _).grown hg1 (by simp;omega) (fun k e=>by cases e;omega));replace hA:=h_ hA;replace hR:=h_ hR;replace hB:=h_ hB;replace hb1:=h_ hb1;clear hg1 hs1)
 refine wpIn_loop (fun a W=>∃(k:Nat) (g':Nat->Nat) (Ds:List Nat) (u6 u7 u8 u11 u12 u13 u14 u15 u16 u17 u18 u19 u20 u21 u22 u23 u24 u25 u26:Value),a = { tmps:=#[.agg (us g).toArray,J9 (n:Int),Yc w.heap.size 0,undef,Yc (w.heap.size+1) 0,Yc (w.heap.size+1+1) 0,u6,u7,u8,J9 (n:Int),J9 (k:Int),u11,u12,u13,u14,u15,u16,u17,u18,u19,u20,u21,u22,u23,u24,u25,u26],defers:=marks Ds }/\k<=n/\IsReach g' (fun a b=>a<k/\Reach g a b)/\Blk W (w.heap.size+1+1) 126 (us g')/\Blk W w.heap.size 126 (us g)/\Blk W (w.heap.size+1) 126 (us fun _=>0)/\Tab W/\Below w.heap.size w W/\Shut w.heap.size W Ds) (fun a _=>n - (intOf (a.tmps.getD 10 undef)).toNat) ?_ ?_
 . refine⟨0,fun _=>0,[],_,_,_,_,_,_,_,_,_,_,_,_,_,_,_,_,_,_,_,rfl,nZ _,fun a _=>⟨by simp,fun b=>by simp⟩,hb1.u,hA.u,hR.u,ht.mono hB.u,hB.u,Shut.nil _ _⟩
 . clear hb1 hA hR hB
   rintro a W ⟨k,g',Ds,u6,u7,u8,u11,u12,u13,u14,u15,u16,u17,u18,u19,u20,u21,u22,u23,u24,u25,u26,rfl,hk,hrel,hO,hS,hRes,hT,hB,hSh⟩;by_cases hlt:k<n
   . have dk:decide ((k:Int)<n)=true:=by simp;omega
     have k32:k<32:=(by omega);have sS:=hS.lt;have HREL:=h_ hrel;have HO:=h_ hO;have HS:=h_ hS;have HRES:=h_ hRes;have HT:=h_ hT;have HB:=h_ hB;have HSH:=h_ hSh;clear hrel hO hS hRes hT hB hSh;gi_wp2_with (refine q05 rfl _ rfl w.heap.size g rfl (HS.u.alloc _) ?_);refine callW ((q8t _ _ _).mono ?_);rintro e w2 ⟨rfl,rfl⟩;gi_wp2_with fail;have bA:=((Blk.new W 3 #[J9 (k:Int)]).alloc (.cells (us g).toArray 126)).alloc (.cells #[J9 (k:Int)] 3);have bG:=(Blk.new (W.alloc (.cells #[J9 (k:Int)] 3)) 126 (us g).toArray).alloc (.cells #[J9 (k:Int)] 3);have bK:=Blk.new ((W.alloc (.cells #[J9 (k:Int)] 3)).alloc (.cells (us g).toArray 126)) 3 #[J9 (k:Int)];have bW:=below3 W (.cells #[J9 (k:Int)] 3) (.cells (us g).toArray 126) (.cells #[J9 (k:Int)] 3);have z5:(((W.alloc (.cells #[J9 (k:Int)] 3)).alloc (.cells (us g).toArray 126)).alloc (.cells #[J9 (k:Int)] 3)).heap.size=W.heap.size+1+1+1:=(by simp);simp only[Yv]at bG bK;obtain⟨W5,hW5⟩:=Nq (((W.alloc (.cells #[J9 (k:Int)] 3)).alloc (.cells (us g).toArray 126)).alloc (.cells #[J9 (k:Int)] 3));rw[hW5]at bA bG bK bW z5⊢;clear hW5;have lO:=HO.u.lt;have ltD:=HSH.u.lt;have w0:=HT.u.pos;have nX:¬ (1=w.heap.size+1+1):=(by have:=ht.pos;omega);refine qb1 (gf:=155) (lb:=#[Yc (W.heap.size+1+1) 0,Yc (W.heap.size+1) 0]) rfl (enters_of Tryz.func155 (by kernel_rfl) rfl)
      (q4g (W.heap.size+1+1) (W.heap.size+1) k g W5 (fun j=>j=w.heap.size+1+1) k32 hg bK bG (HT.u.mono bW) (by omega) nX) (bR _ _) (fun j hj=>by omega) rfl
      (fun pre W'=>∃g'',IsReach g'' (fun a b=>(a<k/\Reach g a b)∨(a=k/\b∈pre))/\Blk W' (w.heap.size+1+1) 126 (us g'')/\Blk W' w.heap.size 126 (us g)/\Blk W' (w.heap.size+1) 126 (us fun _=>0)/\Blk W' W.heap.size 3 [J9 (k:Int)]/\Tab W'/\Below w.heap.size w W'/\Shut w.heap.size W' Ds)
      (fun _ _=>False) ?hI (fun _ _ _ h _=>h)
      ⟨g',HREL.u.congr fun a b=>by simp,HO.u.mono bW lO,HS.u.mono bW sS,HRES.u.mono bW HRES.u.lt,bA,HT.u.mono bW,HB.u.trans (bW.mono HB.u.size),HSH.u.below bW ltD⟩
      (fun x=>{ tmps:=#[.agg (us g).toArray,J9 (n:Int),Yc w.heap.size 0,undef,Yc (w.heap.size+1) 0,Yc (w.heap.size+1+1) 0,Yc W.heap.size 0,J9 (x:Int),u8,J9 (n:Int),J9 (k:Int),.bool true,J9 (k:Int),.agg (us g).toArray,J9 (k:Int),.func (.func 155) #[] #[Yc (W.heap.size+1+1) 0,Yc (W.heap.size+1) 0],J9 (x:Int),u17,u18,u19,u20,u21,u22,u23,u24,u25,u26],defers:=[] })
      ?assign ?body ?done (fun _ _ _ _ _ h _=>h.elim)
     case hI =>
      rintro pre W1 W2 ⟨g'',h1,h2,h3,h4,h5,h6,h7,h8⟩ hb;rw[z5]at hb;exact⟨g'',h1,h2.mono hb (by omega),h3.mono hb (by omega),h4.mono hb (by omega),h5.mono hb (by omega),h6.at0 (hb.block 1 (by omega)),h7.trans (hb.mono (by omega)),h8.below hb (fun D hD=>by have:=ltD D hD;omega)⟩
     case assign =>
      intro m l x W' K hK
      gi_wp2
      exact hK
     case body =>
      rintro m l pre x W' ⟨g'',h1,h2,h3,h4,h5,h6,h7,h8⟩ x32;have hmix:Tryz.prog.follows .mixedOrders=true:=(by kernel_rfl);have cO:=h2.cell k;rw[us_get g'' k32]at cO;have fO:=h2.free k;have sO:=h2.lt;have cA:=h5.cell 0;simp only[Yh]at cA;have gx:=(h1 k k32).1;have k2:=two_lt x32;have K4:=fun o1 o2 o3 o4=>(h2.cell4 k o1 o2 o3 o4).trans (us_get g'' k32);have F4:=h2.free4 k;have K1':∀o,(W'.alloc o).cell? ⟨w.heap.size+1+1,k,none⟩=some (.int .u32 (g'' k:Int)):=fun o=>((h2.alloc o).cell k).trans (us_get g'' k32);have K1A:∀o,(W'.alloc o).cell? ⟨W.heap.size,0,none⟩=some (J9 (k:Int)):=fun o=>(h5.alloc o).cell 0;have K4A:=h5.cell4 0;simp only[Yh]at K4A;have x0i:(0:Int)<=k:=(by omega);have x1i:(k:Int)<32:=(by omega);have H1:=h_ h1;have H2:=h_ h2;have H3:=h_ h3;have H4:=h_ h4;have H5:=h_ h5;have H6:=h_ h6;have H7:=h_ h7;have H8:=h_ h8;clear h1 h2 h3 h4 h5 h6 h7 h8;gi_wp2_with fail
      gi_region_with_o (first | (refine callR ((qic _ _ x32).mono ?_);rintro e w' ⟨rfl,rfl⟩) | (refine callR ((qbr _ _ _ gx k2).mono ?_);rintro e w' ⟨rfl,rfl⟩))
      all_goals
       gi_wp2_with fail;have hst:=qe4 H2.u k32 (g'' k ||| 2 ^ x) (.cells (#[.int .u32 ((2 ^ x:Nat):Int)]) 124) (.cells #[.int .u32 (g'' k:Int)] 124) (.cells (#[.int .u32 ((2 ^ x:Nat):Int)]) 124) (.cells (#[.int .u32 ((g'' k ||| 2 ^ x:Nat):Int)]) 124);simp only[Ot,Oh]at hst;obtain⟨s1,s2,s3,s4⟩:=hst;exact⟨s1,s2,_,q9c H1.u k32 x32,s3,s2.blk H3.u (by omega),s2.blk H4.u (by omega),s2.blk H5.u (by omega),H6.u.keep s2 nX,H7.u.trans (s4 _ (by omega) sO),H8.u.keep s1⟩
     case done =>
      rintro D xs W' hD hS' ⟨g'',h1,h2,h3,h4,h5,h6,h7,h8⟩ hK;have HX:Hi (IsReach g'' (fun a b=>a<k+1/\Reach g a b)):=q6l h1 hS';have HSH':Hi (Shut w.heap.size W' (D :: Ds)):=h8.cons (by have:=HB.u.size;omega) hK (fun hm=>by have:=ltD D hm;omega);have H2:=h_ h2;have H3:=h_ h3;have H4:=h_ h4;have H6:=h_ h6;have H7:=h_ h7;clear h1 h2 h3 h4 h5 h6 h7 h8 hK hS';gi_wp2_with fail;refine⟨⟨k+1,g'',D :: Ds,⟨by omega,rfl⟩,by omega,HX.u,H2.u,H3.u,H4.u,H6.u,H7.u,HSH'.u⟩,?_⟩;simp[intOf];omega
   . obtain rfl:k=n:=by omega
     have dk:decide ((k:Int)<k)=false:=(by simp);have HREL:=h_ hrel;have HO:=h_ hO;have HRES:=h_ hRes;have HB:=h_ hB;have HSH:=h_ hSh;have sR:=hRes.lt;clear hrel hO hS hRes hT hB hSh;gi_wp2_with (first | (refine q05 rfl _ rfl (w.heap.size+1+1) g' rfl HO.u ?_) | (refine q02 rfl _ _ rfl (w.heap.size+1) (fun _=>0) g' rfl rfl HRES.u ?_;intro w2 hb2 hg2 hs2;replace hb2:=h_ hb2;replace hg2:=h_ hg2));refine q40 (B:=w.heap.size) Ds w2 (HSH.u.keep ⟨by omega,fun j o hj ho=>?_⟩) fun W' hk' hb'=>?_
     . refine(hg2.u.block j (Yt.1 hj).1 (fun e=>?_)).trans hj
       cases e;rw[show W.heap[w.heap.size+1]? = _ from HRES.u]at hj;cases hj;simp[Obj.isCells]at ho
     . refine⟨.agg (us g').toArray,results_cell_row rfl _ _ (w.heap.size+1) 126 (us g').toArray (0,0) _ rfl (hk'.blk hb2.u (fun h=>h)) Tryz.underlying126 rfl (qjh g'),g',rfl,HREL.u,?_⟩
       exact(HB.u.trans ((bR w.heap.size _).grown hg2.u HB.u.size (fun j e=>by cases e;omega))).trans hb'
theorem q6m (g:Nat->Nat)(n:Nat)(w:World)(hn:n<=32)(hg:∀a,a<32->g a<4294967296)(ht:Tab w) :
 Calls Tryz.prog 83 #[.agg (us g).toArray,J9 n] w fun e w'=>∃g',e=.returned (.agg (us g').toArray)/\IsReach g' (fun a b=>a<n/\Reach g a b)/\Below w.heap.size w w' :=
 (callsIn_wide (n:=9)).1 (q9d 9 g n w hn hg ht)
end Go.Proofs.YtebbgodlijlioaaGreatDoor
namespace Go.Proofs.YtebbgodlijlioaaGreatDoor
open Go Go.RowKit
def pb (f g:Nat->Nat)(k a b:Nat):Bool:=(List.range k).any fun i=>decide (f i=a)&&decide (g i=b)
theorem qil (f g:Nat->Nat)(k a b:Nat):pb f g (k+1) a b=(pb f g k a b||(decide (a=f k)&&decide (b=g k))):=by
 simp only[pb,Zg,List.any_append,List.any_cons,List.any_nil,Bool.or_false]
 congr 2 <;> rw[decide_eq_decide] <;> exact eq_comm
theorem pb_iff {f g:Nat->Nat}{k a b:Nat}:pb f g k a b=true ↔ ∃i,i<k/\f i=a/\g i=b:=by simp[pb]
theorem qak (a:Nat)(w:World)(hs:a<32):Calls Tryz.prog 123 #[J9 a] w fun e w'=>∃v,e=.returned v/\(v=.agg (#[.int .u32 ((2 ^ a:Nat):Int)])/\Below w.heap.size w w') :=
 (qic a w hs).mono fun e w' ⟨he,hw⟩=>⟨_,he,rfl,by rw[hw];exact(bR _ _).alloc (nR _) _⟩
theorem q65 (s t:Nat)(w:World)(hs:s<4294967296)(ht:t<4294967296):Calls Tryz.prog 122 #[.agg #[.int .u32 s],.agg #[.int .u32 t]] w fun e w'=>∃v,e=.returned v/\(v=.agg (#[.int .u32 ((s ||| t:Nat):Int)])/\Below w.heap.size w w') :=
 (qbr s t w hs ht).mono fun e w' ⟨he,hw⟩=>⟨_,he,rfl,by rw[hw];exact(((bR _ w).alloc (nR _) _).alloc (by simp) _).alloc (by simp;omega) _⟩
def TwoP (w':World)(P:Nat)(lo hi:Int):Prop:=w'.cell? ⟨P,0,none⟩=some (.int .i64 lo)/\w'.cell? ⟨P,1,none⟩=some (.int .i64 hi)
theorem q09 (n:Nat)(a:Option Addr)(m c:Nat)(f g:Nat->Nat)(w:World)(h32:n<=32)(hm:m<=256)(ha:Pairs w a m (fun k=>(f k:Int)) (fun k=>(g k:Int)))(hf:∀k,k<m->f k<n)(hg:∀k,k<m->g k<n) :
 Calls Tryz.prog 82 #[.agg (Jn n a m c)] w fun e w'=>∃u,e=.returned (.agg (us u).toArray)/\IsRel u (pb f g m)/\Below w.heap.size w w':=by
 go_enter Tryz.func82,Tryz.ntmps82
 go_wp2_with (refine q0i rfl _ _ rfl (w.heap.size+1+1) (fun _=>0) (fun _=>0) rfl rfl (blk3 _ _ _ _ _ rfl) ?_;intro w1 hb1 hg1 hs1;have hA:=(blk1 _ _ _ _ _).grown hg1 (by simp;omega);have hR:=(blk2 _ _ _ _ (fun _=>0) rfl).grown hg1 (by simp);have hB:=(below3 _ _ _ _).trans ((bR w.heap.size _).grown hg1 (by simp;omega) (fun k e=>by cases e;omega));have x1:=hA.cell 1;simp only[Yo,Yh]at x1;replace hA:=h_ hA;replace hR:=h_ hR;replace hB:=h_ hB;replace hb1:=h_ hb1;clear hg1 hs1)
 clear x1 hA
 go_loopw [10] (fun i wr=>∃(k:Nat) (u:Nat->Nat),k<=m/\i=J9 k/\IsRel u (pb f g k)/\Blk wr (w.heap.size+1+1) 126 (us u)/\Blk wr (w.heap.size+1) 126 (us fun _=>0)/\Below w.heap.size w wr) (fun i _=>m - (intOf i).toNat)
 case atStart=>exact⟨0,fun _=>0,nZ _,rfl,fun a _=>⟨by simp,fun b=>by simp[pb]⟩,hb1.u,hR.u,hB.u⟩
 case round =>
  clear hb1 hR hB;obtain⟨k,u,hk,rfl,hrel,hO,hR,hB⟩:=hrel;have HREL:=h_ hrel;have HO:=h_ hO;have HR:=h_ hR;have HB:=h_ hB;by_cases hlt:k<m
  . obtain⟨b1,o1,rfl,hl1,hc1,hc2⟩:=(ha.mono hB) k hlt
    dsimp only at hc1 hc2;have flt:=hf k hlt;have glt:=hg k hlt;obtain⟨x,hx⟩:=Nq (f k);obtain⟨y,hy⟩:=Nq (g k);rw[hx]at hc1 flt;rw[hy]at hc2 glt;have x32:x<32:=(by omega);have y32:y<32:=(by omega);have hgx:=(hrel x x32).1;have HS:Hi (IsRel (fun j=>if j=x then u x ||| 2 ^ y else u j) (pb f g (k+1))):=(hrel.add x32 y32).congr fun a b _=>by rw[qil,hx,hy]
    have y2:=two_lt y32;have hb3:Below wr.heap.size wr (wr.alloc (.cells (Jp x y) 64)):=(bR _ _).alloc (nR _) _;have P3:=Blk.new wr 64 (Jp x y);have O3:=hO.mono hb3 hO.lt;have R3:=hR.mono hb3 hR.lt;have B3:=hB.trans (hb3.mono hB.size);have hPU:wr.heap.size≠w.heap.size+1+1:=(by have:=hO.lt;omega);have S0:TwoP (wr.alloc (.cells (Jp x y) 64)) wr.heap.size x y:=⟨P3.cell 0,P3.cell 1⟩;have HS0:=h_ S0;have HO3:=h_ O3;have HR3:=h_ R3;have HB3:=h_ B3;have HP3:=h_ P3;have x0i:(0:Int)<=x:=(by omega);have x1i:(x:Int)<32:=(by omega);clear hrel hO hR hB hx hy flt glt hb3 P3 O3 R3 B3 S0 HREL HO HR HB ha;go_wp2_with fail;generalize wr.alloc (.cells (Jp x y) 64)=W at *;generalize wr.heap.size=P at *;refine wp_region_held_drew (S:=fun w'=>TwoP w' P x y) (by kernel_rfl) HS0.u (fun zz=>?_);refine tj 0 14 (Yc P 0) zz ?_ (hy:=fun w hS=>by obtain⟨q0,q1⟩:=hS;simp[execOp,go_sem, *]);refine tj 1 15 (J9 x) zz ?_ (hy:=fun w hS=>by obtain⟨q0,q1⟩:=hS;simp[execOp,go_sem, *]);refine tj 2 16 (Yc P 0) zz ?_ (hy:=fun w hS=>by obtain⟨q0,q1⟩:=hS;simp[execOp,go_sem, *]);refine tj 3 17 (J9 x) zz ?_ (hy:=fun w hS=>by obtain⟨q0,q1⟩:=hS;simp[execOp,go_sem, *]);simp only[sX,sY,sZ];refine tj 4 18 (Yc (w.heap.size+1+1) x) zz ?_ (hy:=fun w hS=>by obtain⟨q0,q1⟩:=hS;simp[execOp,go_sem, *]);refine tj 6 20 (Yc P 1) zz ?_ (hy:=fun w hS=>by obtain⟨q0,q1⟩:=hS;simp[execOp,go_sem, *]);refine tj 7 21 (J9 y) zz ?_ (hy:=fun w hS=>by obtain⟨q0,q1⟩:=hS;simp[execOp,go_sem, *]);simp only[sX,sY,sZ];have cW:W.cell? ⟨w.heap.size+1+1,x,none⟩=some (.int .u32 (u x:Int)):=(by rw[HO3.u.cell x,us_get u x32]);refine wpAnyH_ready (rs:=[5,8]) (by kernel_rfl) (by simp) (consRun (v:=.agg #[.int .u32 (u x:Int)]) (w':=W.drew) 19 rfl rfl (by rfl) ?hrun0 zz ?pA (consCall (f:=123) (args:=#[J9 y]) (R:=fun v wz=>v=.agg (#[.int .u32 ((2 ^ y:Nat):Int)])/\Below W.heap.size W wz) 22 rfl rfl (by rfl) ?hrun1 ((qak y _ y32).mono fun e w6 ⟨v,he,hv,hb⟩=>⟨v,he,hv,q28 hb⟩) ?pB AllReadyH.nil))
    case hrun0=>simp[execOp,go_sem,cW]
    case hrun1=>simp[execOp,go_sem]
    case pA =>
     simp only[sX,sY,sZ];refine callY (i:=8) (f:=123) (args:=#[J9 y]) (R:=fun v wz=>v=.agg (#[.int .u32 ((2 ^ y:Nat):Int)])/\Below W.heap.size W wz) 22 rfl rfl (by rfl) (by kernel_rfl) ?hrun1 ((qak y _ y32).mono fun e w6 ⟨v,he,hv,hb⟩=>⟨v,he,hv,q28 hb⟩) ?_
     case hrun1=>simp[execOp,go_sem]
     rintro v w6 ⟨rfl,hb6⟩;have P6:=HP3.u.mono hb6 HP3.u.lt;have O6:=HO3.u.mono hb6 HO3.u.lt;have R6:=HR3.u.mono hb6 HR3.u.lt;have B6:=HB3.u.trans (hb6.mono HB3.u.size);refine⟨⟨P6.cell 0,P6.cell 1⟩,?_⟩;simp only[sX,sY,sZ];refine callY (i:=9) (f:=122) (args:=#[.agg #[.int .u32 (u x:Int)],.agg (#[.int .u32 ((2 ^ y:Nat):Int)])]) (R:=fun v wz=>v=.agg (#[.int .u32 ((u x ||| 2 ^ y:Nat):Int)])/\Below w6.heap.size w6 wz) 23 rfl rfl (by rfl) (by kernel_rfl) ?hrun2 (q65 (u x) (2 ^ y) w6 hgx y2) ?_
     case hrun2=>simp[execOp,go_sem]
     rintro v w7 ⟨rfl,hb7⟩;have P7:=P6.mono hb7 P6.lt;have O7:=O6.mono hb7 O6.lt;have R7:=R6.mono hb7 R6.lt;have B7:=B6.trans (hb7.mono B6.size);have c7:w7.cell? ⟨w.heap.size+1+1,x,none⟩=some (.int .u32 (u x:Int)):=(by rw[O7.cell x,us_get u x32]);have f7:=O7.free x;refine⟨⟨P7.cell 0,P7.cell 1⟩,?_⟩;simp only[sX,sY,sZ];replace zz:TwoP w7 P x y:=⟨P7.cell 0,P7.cell 1⟩;refine tj 10 24 (Yc (w.heap.size+1+1) x) zz ?_ (hy:=fun w hS=>by obtain⟨q0,q1⟩:=hS;simp[execOp,go_sem, *]);simp only[sX,sY,sZ];obtain⟨vv,hvv⟩:=Nq ((u x ||| 2 ^ y));rw[hvv]at HS⊢;refine storeY (i:=11) (w':=w7.setCell ⟨w.heap.size+1+1,x,none⟩ (.int .u32 (vv:Int))) rfl (by rfl) (by kernel_rfl) rfl ?hrun3 rfl ⟨(P7.other _ hPU).cell 0,(P7.other _ hPU).cell 1⟩ ?_
     case hrun3=>simp[execOp,go_sem,c7,f7]
     refine wpAnyH_done (by kernel_rfl) ?_ _;have HO8:=h_ (O7.set x (.int .u32 (vv:Int)));have HR8:=h_ (R7.other (a:=⟨w.heap.size+1+1,x,none⟩) (.int .u32 (vv:Int)) (by simp));have HB8:=h_ (B7.setCell (p:=⟨w.heap.size+1+1,x,none⟩) (by simp;omega) (.int .u32 (vv:Int)));clear P7 O7 R7 B7 c7 f7 zz;generalize w7.setCell ⟨w.heap.size+1+1,x,none⟩ (.int .u32 (vv:Int))=w8 at *;go_wp2;go_roundw
     case rel=>exact⟨k+1,_,by omega,by go_num,HS.u,by rw[<- us_set u _ x32];exact HO8.u,HR8.u,HB8.u⟩
     case measure=>simp[intOf];omega
    case pB =>
     rintro v w6 ⟨rfl,hb6⟩;have P6:=HP3.u.mono hb6 HP3.u.lt;have O6:=HO3.u.mono hb6 HO3.u.lt;have R6:=HR3.u.mono hb6 HR3.u.lt;have B6:=HB3.u.trans (hb6.mono HB3.u.size);have c6:w6.cell? ⟨w.heap.size+1+1,x,none⟩=some (.int .u32 (u x:Int)):=(by rw[O6.cell x,us_get u x32]);refine⟨⟨P6.cell 0,P6.cell 1⟩,?_⟩;simp only[sX,sY,sZ];refine wpAnyH_ready (rs:=[5]) (by kernel_rfl) (by simp) (consRun (v:=.agg #[.int .u32 (u x:Int)]) (w':=w6) 19 rfl rfl (by rfl) ?hrun0 ⟨P6.cell 0,P6.cell 1⟩ ?pC AllReadyH.nil)
     case hrun0=>simp[execOp,go_sem,c6]
     simp only[sX,sY,sZ];refine callY (i:=9) (f:=122) (args:=#[.agg #[.int .u32 (u x:Int)],.agg (#[.int .u32 ((2 ^ y:Nat):Int)])]) (R:=fun v wz=>v=.agg (#[.int .u32 ((u x ||| 2 ^ y:Nat):Int)])/\Below w6.heap.size w6 wz) 23 rfl rfl (by rfl) (by kernel_rfl) ?hrun2 (q65 (u x) (2 ^ y) w6 hgx y2) ?_
     case hrun2=>simp[execOp,go_sem]
     rintro v w7 ⟨rfl,hb7⟩;have P7:=P6.mono hb7 P6.lt;have O7:=O6.mono hb7 O6.lt;have R7:=R6.mono hb7 R6.lt;have B7:=B6.trans (hb7.mono B6.size);have c7:w7.cell? ⟨w.heap.size+1+1,x,none⟩=some (.int .u32 (u x:Int)):=(by rw[O7.cell x,us_get u x32]);have f7:=O7.free x;refine⟨⟨P7.cell 0,P7.cell 1⟩,?_⟩;simp only[sX,sY,sZ];replace zz:TwoP w7 P x y:=⟨P7.cell 0,P7.cell 1⟩;refine tj 10 24 (Yc (w.heap.size+1+1) x) zz ?_ (hy:=fun w hS=>by obtain⟨q0,q1⟩:=hS;simp[execOp,go_sem, *]);simp only[sX,sY,sZ];obtain⟨vv,hvv⟩:=Nq ((u x ||| 2 ^ y));rw[hvv]at HS⊢;refine storeY (i:=11) (w':=w7.setCell ⟨w.heap.size+1+1,x,none⟩ (.int .u32 (vv:Int))) rfl (by rfl) (by kernel_rfl) rfl ?hrun3 rfl ⟨(P7.other _ hPU).cell 0,(P7.other _ hPU).cell 1⟩ ?_
     case hrun3=>simp[execOp,go_sem,c7,f7]
     refine wpAnyH_done (by kernel_rfl) ?_ _;have HO8:=h_ (O7.set x (.int .u32 (vv:Int)));have HR8:=h_ (R7.other (a:=⟨w.heap.size+1+1,x,none⟩) (.int .u32 (vv:Int)) (by simp));have HB8:=h_ (B7.setCell (p:=⟨w.heap.size+1+1,x,none⟩) (by simp;omega) (.int .u32 (vv:Int)));clear P7 O7 R7 B7 c7 f7 zz;generalize w7.setCell ⟨w.heap.size+1+1,x,none⟩ (.int .u32 (vv:Int))=w8 at *;go_wp2;go_roundw
     case rel=>exact⟨k+1,_,by omega,by go_num,HS.u,by rw[<- us_set u _ x32];exact HO8.u,HR8.u,HB8.u⟩
     case measure=>simp[intOf];omega
  . obtain rfl:k=m:=by omega
    have HREL':=h_ hrel;clear hO hR hB hrel;go_wp2_with (first | (refine q0q rfl _ rfl (w.heap.size+1+1) u rfl HO.u ?_) | (refine q0i rfl _ _ rfl (w.heap.size+1) (fun _=>0) u rfl rfl HR.u ?_;intro w2 hb2 hg2 hs2;replace hb2:=h_ hb2;replace hg2:=h_ hg2));refine bodyPost_ret (results_cell_row rfl _ _ (w.heap.size+1) 126 (us u).toArray (0,0) _ rfl hb2.u Tryz.underlying126 rfl (qjh u)) rfl ⟨u,rfl,HREL'.u,?_⟩;exact HB.u.trans ((bR w.heap.size _).grown hg2.u HB.u.size (fun k e=>by cases e;omega))
end Go.Proofs.YtebbgodlijlioaaGreatDoor
