import Derived.Test.YtebbgodlijlioaaGreatDoorW15
import Derived.Test.YtebbgodlijlioaaGreatDoorW17
import Derived.Test.YtebbgodlijlioaaGreatDoorW12
import Derived.Laws.BytesString
set_option maxRecDepth 100000
set_option maxHeartbeats 64000000
namespace Go.Proofs.YtebbgodlijlioaaGreatDoor
open Go Go.RowKit
theorem duo {w:World}{b:Nat}{t:TypeId}{v0 v1:Value}(h:Blk w b t [v0,v1]):w.cell? ⟨b,0,none⟩=some v0/\w.cell? ⟨b,1,none⟩=some v1:=⟨h.cell 0,h.cell 1⟩
theorem q2u (m:Fm)(A:MA)(w:World)(hl:m.R.length<=64)(ha:Rls w A.r m.R) :
 Calls Tryz.prog 142 #[mV m A] w fun r w'=>∃a0 c0,r=.returned (.slice a0 m.R.length c0)/\Strs w' a0 (rNames m)/\Below w.heap.size w w':=by
 obtain⟨al,alc,ap,apc,ar,arc,af,afc,afa⟩:=A
 unfold mV
 dsimp only at ha⊢
 have HK:=h_ (Blk.new w 28 (#[.slice al m.L.length alc,.slice ap m.P.length apc,.slice ar m.R.length arc,.slice af m.F.length afc]))
 have HB:=h_ ((bR w.heap.size w).alloc (nR _) (.cells (#[.slice al m.L.length alc,.slice ap m.P.length apc,.slice ar m.R.length arc,.slice af m.F.length afc]) 28))
 obtain⟨W0,hW0⟩:=Nq (w.alloc (.cells (#[.slice al m.L.length alc,.slice ap m.P.length apc,.slice ar m.R.length arc,.slice af m.F.length afc]) 28))
 have hsz:W0.heap.size=w.heap.size+1:=by rw[<- hW0];simp
 rw[hW0]at HK HB
 have HO:Hi (W0.ownsRow (w.heap.size+1) 9 1 Ya 0 []):=h_ (World.ownsRow_nil _ _ _ _)
 have HA:=h_ ha
 obtain⟨n,hn⟩:=Nq m.R.length
 rw[hn]at HK hl hW0⊢
 have HN:=h_ hn
 obtain⟨y0,y1,y2,y3⟩:=quad HK.u
 clear ha hn
 go_enter Tryz.func142,Tryz.ntmps142
 go_wp2_with fail
 try rw[hW0]
 clear hW0 y0 y1 y2 y3
 go_loopw [3,9] (fun v i wr=>∃k:Nat,k<=n/\i=J9 k/\wr.ownsRow (w.heap.size+1) 9 1 v k (stV ((rNames m).take k))/\Below (w.heap.size+1) W0 wr) (fun _ i _=>n - (intOf i).toNat)
 case atStart=>exact⟨0,nZ _,rfl,HO.u,bR _ _⟩
 case round =>
  clear HO;obtain⟨k,hk,rfl,hO,hb⟩:=hrel;have hbw:=HB.u.trans (hb.mono (by omega));have hws:=hb.size;have HAr:=h_ (HA.u.mono hbw);have HBr:=h_ hb;have HBw:=h_ hbw;have HO:=h_ hO;clear hb hbw hO;by_cases hlt:k<n
  . have hlt':(k:Int)<n:=by omega
    have hkl:k<m.R.length:=(by have:=HN.u;omega);obtain⟨b,o,rfl,-,z0,z1⟩:=HAr.u k hkl;have HT:Hi ((rNames m).take (k+1)=(rNames m).take k++[m.R[k].nm]):=h_ (by
     have hk2:k<(rNames m).length:=(by simpa [rNames] using hkl);rw[Yr hk2];simp[rNames])
    generalize m.R[k]=u at *;have HKf:=h_ (Blk.new wr 66 #[.string u.nm,J9 u.lb]);have HBf:=h_ (HBr.u.alloc (by omega) (.cells #[.string u.nm,J9 u.lb] 66));have HO1:=h_ (HO.u.alloc (.cells #[.string u.nm,J9 u.lb] 66));obtain⟨Wd,hWd⟩:=Nq (wr.alloc (.cells #[.string u.nm,J9 u.lb] 66));have hdz:wr.heap.size+1<=Wd.heap.size:=(by rw[<- hWd];simp);rw[hWd]at HKf HBf HO1;obtain⟨x0,x1⟩:=duo HKf.u;obtain⟨i0,hi,hz0,hz1,hz2⟩:=info_parts qct;go_wp2_with (at_builtin;refine wpList_append_own _ rfl _ _ 23 rfl (w.heap.size+1) 9 i0 _ 1 16 Tryz.underlying23 hi hz0 hz1 hz2 rfl (by omega) _ _ _ rfl (HO1.u.alloc _) ⟨Wd.heap.size,0,none⟩ 1 1 [.string u.nm] rfl rfl (qc6 Wd 9 _) (by simp[Value.oneCell']) (by unfold maxLen;omega) (by omega) (by simp;omega) ?_);intro v' w3 ho' hgr' _;have hB2:=(HBf.u.alloc (by omega) (.cells #[.string u.nm] 9)).grown hgr' (by simp;omega) (fun q' e=>q87 HO1.u e);have HO2:Hi (w3.ownsRow (w.heap.size+1) 9 1 v' (k+1) (stV ((rNames m).take (k+1)))):=h_ (by rw[HT.u,qev];exact ho');have HB2:=h_ hB2;clear ho' hgr' hB2 hi hz0 hz1 hz2;go_wp2_with fail;go_roundw
    case rel=>first | exact⟨k+1,by omega,by go_num,HO2.u,HB2.u⟩ | ((repeat apply Exists.intro);exact⟨⟨k+1,by omega,by go_num,HO2.u,HB2.u⟩,rfl⟩)
    case measure=>simp[intOf];omega
  . obtain rfl:k=n:=by omega
    have hlt':¬ (k:Int)<(k:Int):=(by omega);have hO:=HO.u;rw[Zh (by simp[rNames];have:=HN.u;omega)]at hO;obtain⟨a1,c1,rfl,-,hS⟩:=q4c hO;have HS:=h_ hS;clear hO hS HO;go_wp2_with fail;go_ret
    first | exact⟨_,⟨_,rfl⟩,HS.u,HBw.u⟩ | exact⟨_,_,rfl,HS.u,HBw.u⟩
theorem q1h (m:Fm)(A:MA)(w:World)(hl:m.F.length<=200)(ha:Flds w A.f m.F A.fa) :
 Calls Tryz.prog 46 #[mV m A] w fun r w'=>∃a0 c0,r=.returned (.slice a0 m.F.length c0)/\Strs w' a0 (fNames m)/\Below w.heap.size w w':=by
 obtain⟨al,alc,ap,apc,ar,arc,af,afc,afa⟩:=A
 unfold mV
 dsimp only at ha⊢
 have HK:=h_ (Blk.new w 28 (#[.slice al m.L.length alc,.slice ap m.P.length apc,.slice ar m.R.length arc,.slice af m.F.length afc]))
 have HB:=h_ ((bR w.heap.size w).alloc (nR _) (.cells (#[.slice al m.L.length alc,.slice ap m.P.length apc,.slice ar m.R.length arc,.slice af m.F.length afc]) 28))
 obtain⟨W0,hW0⟩:=Nq (w.alloc (.cells (#[.slice al m.L.length alc,.slice ap m.P.length apc,.slice ar m.R.length arc,.slice af m.F.length afc]) 28))
 have hsz:W0.heap.size=w.heap.size+1:=by rw[<- hW0];simp
 rw[hW0]at HK HB
 have HO:Hi (W0.ownsRow (w.heap.size+1) 9 1 Ya 0 []):=h_ (World.ownsRow_nil _ _ _ _)
 have HA:=h_ ha
 obtain⟨n,hn⟩:=Nq m.F.length
 rw[hn]at HK hl hW0⊢
 have HN:=h_ hn
 obtain⟨y0,y1,y2,y3⟩:=quad HK.u
 clear ha hn
 go_enter Tryz.func46,Tryz.ntmps46
 go_wp2_with fail
 try rw[hW0]
 clear hW0 y0 y1 y2 y3
 go_loopw [3,9] (fun v i wr=>∃k:Nat,k<=n/\i=J9 k/\wr.ownsRow (w.heap.size+1) 9 1 v k (stV ((fNames m).take k))/\Below (w.heap.size+1) W0 wr) (fun _ i _=>n - (intOf i).toNat)
 case atStart=>exact⟨0,nZ _,rfl,HO.u,bR _ _⟩
 case round =>
  clear HO;obtain⟨k,hk,rfl,hO,hb⟩:=hrel;have hbw:=HB.u.trans (hb.mono (by omega));have hws:=hb.size;have HAr:=h_ (HA.u.mono hbw);have HBr:=h_ hb;have HBw:=h_ hbw;have HO:=h_ hO;clear hb hbw hO;by_cases hlt:k<n
  . have hlt':(k:Int)<n:=by omega
    have hkl:k<m.F.length:=(by have:=HN.u;omega);obtain⟨b,o,rfl,⟨-,z0,z1,z2,z3,z4,z5,z6,z7,z8⟩,-⟩:=HAr.u k hkl;have HT:Hi ((fNames m).take (k+1)=(fNames m).take k++[m.F[k].nm]):=h_ (by
     have hk2:k<(fNames m).length:=(by simpa [fNames] using hkl);rw[Yr hk2];simp[fNames])
    generalize m.F[k]=u at *;generalize afa k=fa at *;obtain⟨ub,ubc,ui',uic,uh,uhc,uv,uvc,uu,uuc⟩:=fa;dsimp only at z3 z4 z5 z6 z8;have HKf:=h_ (Blk.new wr 42 (Ja u ub ubc ui' uic uh uhc uv uvc uu uuc));have HBf:=h_ (HBr.u.alloc (by omega) (.cells (Ja u ub ubc ui' uic uh uhc uv uvc uu uuc) 42));have HO1:=h_ (HO.u.alloc (.cells (Ja u ub ubc ui' uic uh uhc uv uvc uu uuc) 42));obtain⟨Wd,hWd⟩:=Nq (wr.alloc (.cells (Ja u ub ubc ui' uic uh uhc uv uvc uu uuc) 42));have hdz:wr.heap.size+1<=Wd.heap.size:=(by rw[<- hWd];simp);rw[hWd]at HKf HBf HO1;obtain⟨x0,x1,x2,x3,x4,x5,x6,x7,x8⟩:=nine HKf.u;obtain⟨i0,hi,hz0,hz1,hz2⟩:=info_parts qct;go_wp2_with (at_builtin;refine wpList_append_own _ rfl _ _ 23 rfl (w.heap.size+1) 9 i0 _ 1 16 Tryz.underlying23 hi hz0 hz1 hz2 rfl (by omega) _ _ _ rfl (HO1.u.alloc _) ⟨Wd.heap.size,0,none⟩ 1 1 [.string u.nm] rfl rfl (qc6 Wd 9 _) (by simp[Value.oneCell']) (by unfold maxLen;omega) (by omega) (by simp;omega) ?_);intro v' w3 ho' hgr' _;have hB2:=(HBf.u.alloc (by omega) (.cells #[.string u.nm] 9)).grown hgr' (by simp;omega) (fun q' e=>q87 HO1.u e);have HO2:Hi (w3.ownsRow (w.heap.size+1) 9 1 v' (k+1) (stV ((fNames m).take (k+1)))):=h_ (by rw[HT.u,qev];exact ho');have HB2:=h_ hB2;clear ho' hgr' hB2 hi hz0 hz1 hz2;go_wp2_with fail;go_roundw
    case rel=>first | exact⟨k+1,by omega,by go_num,HO2.u,HB2.u⟩ | ((repeat apply Exists.intro);exact⟨⟨k+1,by omega,by go_num,HO2.u,HB2.u⟩,rfl⟩)
    case measure=>simp[intOf];omega
  . obtain rfl:k=n:=by omega
    have hlt':¬ (k:Int)<(k:Int):=(by omega);have hO:=HO.u;rw[Zh (by simp[fNames];have:=HN.u;omega)]at hO;obtain⟨a1,c1,rfl,-,hS⟩:=q4c hO;have HS:=h_ hS;clear hO hS HO;go_wp2_with fail;go_ret
    first | exact⟨_,⟨_,rfl⟩,HS.u,HBw.u⟩ | exact⟨_,_,rfl,HS.u,HBw.u⟩
def upd (T:Nat->Nat->Bool)(lo hi:Nat):Nat->Nat->Bool:=fun a b=>T a b||(decide (b=hi)&&T a lo)
def updTo (T:Nat->Nat->Bool)(lo hi k:Nat):Nat->Nat->Bool:=fun a b=>T a b||(decide (a<k)&&(decide (b=hi)&&T a lo))
def pass (T:Nat->Nat->Bool)(f g:Nat->Nat):Nat->Nat->Nat->Bool
 | 0=>T
 | j+1=>upd (pass T f g j) (f j) (g j)
def rounds (T:Nat->Nat->Bool)(f g:Nat->Nat)(m:Nat):Nat->Nat->Nat->Bool
 | 0=>T
 | r+1=>pass (rounds T f g m r) f g m
def diag:Nat->Nat->Bool:=fun a b=>decide (a=b)
theorem qbk {n:Nat}{T T':Nat->Nat->Bool}(h:∀a b,a<n->b<n->T a b=T' a b):bs (n*n) (tabB n T)=bs (n*n) (tabB n T'):=by
 unfold bs
 refine Vd fun i hi=>?_
 have hi':i<n*n:=Zb.1 hi
 have hn:0<n:=Nat.pos_of_ne_zero fun e=>by subst e;simp at hi'
 unfold tabB
 rw[h _ _ (by rw[Nat.div_lt_iff_lt_mul hn];exact hi') (Vq _ hn)]
theorem qjt {n a b:Nat}(T:Nat->Nat->Bool)(hb:b<n):(bs (n*n) (tabB n T)).set (a*n+b) (.bool true)=bs (n*n) (tabB n fun x y=>T x y||(decide (x=a)&&decide (y=b))):=by
 refine q7x (by simp[q91]) fun j hj=>?_
 rw[List.getElem?_set]
 by_cases e:a*n+b=j
 . subst e
   rw[Yy rfl,Yy (by rw[q91];exact hj),qjs _ hb];simp
 . rw[Yu e]
   have hne:(decide (j / n=a)&&decide (j % n=b))=false:=by
    rw[Bool.and_eq_false_iff,Oi,Oi];by_cases h1:j / n=a
    . right;intro h2
      apply e;have:=Nat.div_add_mod j n;rw[h1,h2,Nat.mul_comm]at this;exact this
    . exact .inl h1
   simp only[bs,tabB,hne,Bool.or_false];simp[hj]
theorem q2f (n:Nat)(a:Option Addr)(m c:Nat)(f g:Nat->Nat)(w:World)(h1:1<=n)(h32:n<=32)(hm:m<=256)(ha:Pairs w a m (fun k=>(f k:Int)) (fun k=>(g k:Int)))(hf:∀k,k<m->f k<n)(hg:∀k,k<m->g k<n) :
 Calls Tryz.prog 30 #[.agg (Jn n a m c)] w fun e w'=>∃G,e=.returned (.slice (some ⟨G,0,none⟩) (n*n) (n*n))/\Blk w' G 4 (bs (n*n) (tabB n (rounds diag f g m n)))/\w.heap.size<=G/\Below w.heap.size w w':=by
 obtain⟨i0,hi,hz0,hz1,hz2⟩:=info_parts q9y
 have q1:(n:Int)*n<=1024:=by rw[<- Za];have:=sq_le h32;omega
 have q0:0<=(n:Int)*n:=by rw[<- Za];omega
 have q2:=sq_le h32
 have hbn:i0.bytes*(n*n)<=281474976710656:=by rw[hz2];omega
 have hC:((n:Int)*n)=((n*n:Nat):Int):=by simp
 have HC:=h_ hC;clear hC
 have hB0:Below w.heap.size w (w.alloc (.cells (Jn n a m c) 39)):=(bR _ _).alloc (nR _) _
 have B0:=Blk.new w 39 (Jn n a m c)
 have PA:=ha.mono hB0
 have hs:(w.alloc (.cells (Jn n a m c) 39)).heap.size=w.heap.size+1:=by simp
 go_enter Tryz.func30,Tryz.ntmps30
 go_wp2_with (at_make;refine wpList_make_full _ rfl (.tmp 15) (.tmp 15) 33 rfl (w.heap.size+1) 4 i0 (.bool false) 1 Tryz.underlying33 hi hz0 hz1 .i64 .i64 _ _ (n*n) rfl rfl HC.u HC.u hbn (by unfold maxLen;omega) (by simp) ?_;intro w1 hown hgrow)
 rw[hs]at hown
 try rw[hs]
 have hb1:Below (w.heap.size+1) (w.alloc (.cells (Jn n a m c) 39)) w1:=(bR _ _).grown hgrow (by simp) (fun k e=>by cases e)
 have hG:=Blk.of_owns hown
 have hG0:Blk w1 (w.heap.size+1) 4 (bs (n*n) (tabB n fun x y=>decide (x=y)&&decide (x<0))):=by
  have e:List.replicate (n*n) (Value.bool false)=bs (n*n) (tabB n fun x y=>decide (x=y)&&decide (x<0)):=by
   refine q7x (by simp) fun j hj=>?_;simp[tabB,hj]
  have hG':Blk w1 (w.heap.size+1) 4 (madeCells #[.bool false] (n*n)).toList:=by simpa [Value.cells] using hG
  rw[toList_madeCells_one]at hG';rw[<- e];exact hG'
 have HG:=h_ hG0;have HB:=h_ hb1;have HB0:=h_ hB0;have H0:=h_ B0;have HP:=h_ PA
 clear hown hgrow hG hG0 hb1 hbn hi hz0 hz1 hz2 hB0 B0 PA ha
 generalize hWW:w.alloc (.cells (Jn n a m c) 39)=W at *
 clear hWW
 have hnn:n*n<=1024:=q2
 have hsW:W.heap.size<=w.heap.size+1:=by rw[hs];exact nR _
 go_loopw [5] (fun i wr=>∃k:Nat,k<=n/\i=J9 k/\Blk wr (w.heap.size+1) 4 (bs (n*n) (tabB n fun x y=>decide (x=y)&&decide (x<k)))/\Below (w.heap.size+1) W wr) (fun i _=>n - (intOf i).toNat)
 case atStart=>exact⟨0,nZ _,rfl,HG.u,HB.u⟩
 case round =>
  clear HG HB;obtain⟨k,hk,rfl,hG,hB⟩:=hrel;have HG:=h_ hG;have HB:=h_ hB;by_cases hlt:k<n
  . have i0:=idx_lt (n:=n) (x:=k) (y:=k) (by omega) (by omega)
    have i1:0<=(k:Int)*n:=(by rw[<- Za];omega);have i2:(k:Int)*n+k<((n*n:Nat):Int):=(by rw[<- Za];omega);have i3:(k:Int)*n<=1024:=(by rw[<- Za];omega);have hcell:=hG.cell (k*n+k);have hfree:=hG.free (k*n+k);have e0:(bs (n*n) (tabB n fun x y=>decide (x=y)&&decide (x<k)))[k*n+k]? = some (.bool false):=by
     simp only[bs,Zk,Oc i0,Option.map_some,qjs _ hlt];simp
    rw[e0]at hcell;clear hG hB e0;go_wp2;go_roundw
    case rel =>
     refine⟨k+1,by omega,by go_num,?_,HB.u.setCell (nR _) _⟩;have h2:=HG.u.set (k*n+k) (.bool true);rw[qjt _ hlt]at h2;have e:bs (n*n) (tabB n fun x y=>(decide (x=y)&&decide (x<k))||(decide (x=k)&&decide (y=k)))=bs (n*n) (tabB n fun x y=>decide (x=y)&&decide (x<k+1)):=qbk fun x y hx hy=>by
      rw[Zn];simp only[Zs,Yp,Yq];omega
     rw[e]at h2;exact h2
    case measure=>simp[intOf];omega
  . obtain rfl:k=n:=by omega
    clear hG hB hlt hk;have HG1:Hi (Blk wr (w.heap.size+1) 4 (bs (k*k) (tabB k (rounds diag f g m 0)))):=by
     have h2:=HG.u;have e:bs (k*k) (tabB k fun x y=>decide (x=y)&&decide (x<k))=bs (k*k) (tabB k (rounds diag f g m 0)):=qbk fun x y hx hy=>by
      simp only[rounds,diag];rw[Zn];simp only[Yp,Yq];omega
     rw[e]at h2;exact h2
    clear HG;go_wp2_with fail;go_loopw [6] (fun i wr'=>∃r:Nat,r<=k/\i=J9 r/\Blk wr' (w.heap.size+1) 4 (bs (k*k) (tabB k (rounds diag f g m r)))/\Below (w.heap.size+1) W wr') (fun i _=>k - (intOf i).toNat)
    case atStart=>exact⟨0,nZ _,rfl,HG1.u,HB.u⟩
    case round =>
     clear HG1 HB;obtain⟨r,hr,rfl,hG,hB⟩:=hrel;have HG:=h_ hG;have HB:=h_ hB;clear hG hB;by_cases hlr:r<k
     . go_wp2_with fail
       have HG1:Hi (Blk wr (w.heap.size+1) 4 (bs (k*k) (tabB k (pass (rounds diag f g m r) f g 0)))):=HG.u;clear HG;go_loopw [7] (fun i wr'=>∃j:Nat,j<=m/\i=J9 j/\Blk wr' (w.heap.size+1) 4 (bs (k*k) (tabB k (pass (rounds diag f g m r) f g j)))/\Below (w.heap.size+1) W wr') (fun i _=>m - (intOf i).toNat)
       case atStart=>exact⟨0,nZ _,rfl,HG1.u,HB.u⟩
       case round =>
        clear HG1 HB;obtain⟨j,hj,rfl,hG,hB⟩:=hrel;have HG:=h_ hG;have HB:=h_ hB;clear hG hB;obtain⟨T,hT⟩:=Nq (pass (rounds diag f g m r) f g j);rw[hT]at HG;have HT:=h_ hT;clear hT;by_cases hlj:j<m
        . have P2:=HP.u.mono (HB.u.mono hsW)
          obtain⟨b,off,rfl,hl,hc1,hc2⟩:=P2 j hlj;dsimp only at hc1 hc2;have flo:=hf j hlj;have ghi:=hg j hlj;obtain⟨lo,hlo⟩:=Nq (f j);obtain⟨hi,hhi⟩:=Nq (g j);rw[hlo]at hc1 flo;rw[hhi]at hc2 ghi;have HLH:=h_ (And.intro hlo hhi);clear hlo hhi;have o2:=(H0.u.mono HB.u (Om _)).cell 1;simp only[Yo,Yh]at o2;clear P2;go_wp2_with fail;have HG1:Hi (Blk wr (w.heap.size+1) 4 (bs (k*k) (tabB k (updTo T lo hi 0)))):=by
           have h2:=HG.u;rw[qbk (T':=updTo T lo hi 0) fun x y _ _=>by simp[updTo]]at h2;exact h2
          clear HG hc1 hc2 o2;go_loopw [10] (fun i wr'=>∃q:Nat,q<=k/\i=J9 q/\Blk wr' (w.heap.size+1) 4 (bs (k*k) (tabB k (updTo T lo hi q)))/\Below (w.heap.size+1) W wr') (fun i _=>k - (intOf i).toNat)
          case atStart=>exact⟨0,nZ _,rfl,HG1.u,HB.u⟩
          case round =>
           clear HG1 HB;obtain⟨q,hq,rfl,hG,hB⟩:=hrel;have HG:=h_ hG;have HB:=h_ hB;clear hB;by_cases hlq:q<k
           . have l0:=idx_lt (n:=k) (x:=q) (y:=lo) (by omega) (by omega)
             have l1:0<=(q:Int)*k:=(by rw[<- Za];omega);have l2:(q:Int)*k+lo<((k*k:Nat):Int):=(by rw[<- Za];omega);have l3:(q:Int)*k<=1024:=(by rw[<- Za];omega);have p0:=idx_lt (n:=k) (x:=q) (y:=hi) (by omega) (by omega);have p1:0<=(q:Int)*k:=(by rw[<- Za];omega);have p2:(q:Int)*k+hi<((k*k:Nat):Int):=(by rw[<- Za];omega);have p3:(q:Int)*k<=1024:=(by rw[<- Za];omega);have cl:=hG.cell (q*k+lo);have ch:=hG.cell (q*k+hi);have fh:=hG.free (q*k+hi);have el:(bs (k*k) (tabB k (updTo T lo hi q)))[q*k+lo]? = some (.bool (updTo T lo hi q q lo)):=by
              simp only[bs,Zk,Oc l0,Option.map_some,qjs _ flo]
             have eh:(bs (k*k) (tabB k (updTo T lo hi q)))[q*k+hi]? = some (.bool (updTo T lo hi q q hi)):=by
              simp only[bs,Zk,Oc p0,Option.map_some,qjs _ ghi]
             have e3:updTo T lo hi q q lo=T q lo:=(by simp[updTo]);rw[el,e3]at cl;rw[eh]at ch;obtain⟨vh,hvh⟩:=Nq (updTo T lo hi q q hi);rw[hvh]at ch;clear hG el eh e3 hvh;cases hT:T q lo
             . rw[hT]at cl
               go_wp2;go_roundw
               case rel =>
                refine⟨q+1,by omega,by go_num,?_,HB.u⟩;have h2:=HG.u;rw[qbk (T':=updTo T lo hi (q+1)) fun x y _ _=>by
                 simp only[updTo];by_cases e:x=q
                 . subst e;simp[hT]
                 . congr 2;rw[decide_eq_decide];omega]at h2
                exact h2
               case measure=>simp[intOf];omega
             . rw[hT]at cl
               go_wp2;go_roundw
               case rel =>
                refine⟨q+1,by omega,by go_num,?_,HB.u.setCell (nR _) _⟩;have h2:=HG.u.set (q*k+hi) (.bool true);rw[qjt _ ghi]at h2;rw[qbk (T':=updTo T lo hi (q+1)) fun x y _ _=>by
                 simp only[updTo];by_cases e:x=q
                 . subst e;simp[hT]
                 . rw[show decide (x=q)=false from Yi e,Bool.false_and,Bool.or_false];congr 2;rw[decide_eq_decide];omega]at h2
                exact h2
               case measure=>simp[intOf];omega
           . obtain rfl:q=k:=by omega
             clear hG;go_wp2_with fail;go_roundw
             case rel =>
              refine⟨j+1,by omega,by go_num,?_,HB.u⟩;have h2:=HG.u;rw[qbk (T':=pass (rounds diag f g m r) f g (j+1)) fun x y hx _=>by
               rw[pass,HT.u,HLH.u.1,HLH.u.2];simp[updTo,upd,hx]]at h2
              exact h2
             case measure=>simp[intOf];omega
        . obtain rfl:j=m:=by omega
          have o2:=(H0.u.mono HB.u (Om _)).cell 1;simp only[Yo,Yh]at o2;go_wp2_with fail;go_roundw
          case rel =>
           refine⟨r+1,by omega,by go_num,?_,HB.u⟩;rw[rounds,HT.u];exact HG.u
          case measure=>simp[intOf];omega
     . obtain rfl:r=k:=by omega
       have hZ:=HB0.u.trans (HB.u.mono (Vj _));have HZ:=h_ hZ;clear hZ;go_wp2;go_ret;exact⟨_,rfl,HG.u,Vj _,HZ.u⟩
def firstN (p:Nat->Bool)(n:Nat):Int:=match (List.range n).find? p with
 | some c=>c
 | none=>-1
theorem q9o {p:Nat->Bool}{n k:Nat}(hk:k<n)(h:∀c,c<k->p c=false)(hp:p k=true):firstN p n=k:=by
 have:(List.range n).find? p=some k:=by
  rw[List.find?_range_eq_some];exact⟨hp,by simpa using hk,fun j hj=>by simp[h j hj]⟩
 rw[firstN,this]
theorem q6y {p:Nat->Bool}{n:Nat}(h:∀c,c<n->p c=false):firstN p n = -1:=by
 have:(List.range n).find? p=none:=by
  rw[List.find?_eq_none];intro x hx;simp[h x (List.mem_range.1 hx)]
 rw[firstN,this]
theorem q4s (p:Nat->Bool)(n:Nat):(∃c:Nat,c<n/\firstN p n=c/\p c=true)∨(firstN p n = -1/\∀c,c<n->p c=false):=by
 cases e:(List.range n).find? p with
 | some c =>
  left;have h1:=List.find?_some e;have h2:=List.mem_of_find?_eq_some e;exact⟨c,Zb.1 h2,by rw[firstN,e],h1⟩
 | none =>
  right;refine⟨by rw[firstN,e],fun c hc=>?_⟩;have:=(List.find?_eq_none.1 e) c (Zb.2 hc);simpa using this
theorem snocP {p:Nat->Bool}{k:Nat}(h:∀c,c<k->p c=false)(hk:p k=false):∀c,c<k+1->p c=false:=fun c hc=>by
 by_cases e:c=k
 . rw[e];exact hk
 . exact h c (by omega)
theorem q79 (t:Option Addr)(m cap n a b:Nat)(f:Nat->Bool)(w:World)(hm:n*n<=m)(hn:n<=32)(ha:a<n)(hb:b<n)(ht:Bools w t m f)(r:Int)(hr:firstN (isJoin f n a b) n=r) :
 Calls Tryz.prog 32 #[.slice t m cap,J9 n,J9 a,J9 b] w fun e w'=>e=.returned (J9 r)/\w'=w:=by
 have HM:=h_ hm;have HR:=h_ hr;clear hm hr
 go_enter Tryz.func32,Tryz.ntmps32
 go_wp2
 go_loop [9] (fun i=>∃k:Nat,k<=n/\i=J9 k/\∀c,c<k->isJoin f n a b c=false) (fun i=>n - (intOf i).toNat)
 case atStart=>exact⟨0,nZ _,rfl,fun c h=>absurd h (nL _)⟩
 case round =>
  obtain⟨k,hk,rfl,hall⟩:=hrel;have HA:=h_ hall;clear hall;by_cases hlt:k<n
  . cases hj:isJoin f n a b k
    . go_wp2_with (go_at_call 56;refine(q3k _ _ _ _ _ _ _ f _ HM.u hn ha hb hlt ht).mono ?_;rintro e w' ⟨rfl,rfl⟩;rw[hj])
      go_round
      case rel=>exact⟨k+1,by omega,by go_num,snocP HA.u hj⟩
      case measure=>simp[intOf];omega
    . have hv:=q9o hlt HA.u hj
      rw[HR.u]at hv;subst hv;go_wp2_with (go_at_call 56;refine(q3k _ _ _ _ _ _ _ f _ HM.u hn ha hb hlt ht).mono ?_;rintro e w' ⟨rfl,rfl⟩;rw[hj]);go_ret;exact⟨rfl,rfl⟩
  . have hv:=q6y (p:=isJoin f n a b) (n:=n) fun c hc=>HA.u c (by omega)
    rw[HR.u]at hv;subst hv;go_wp2;go_ret;exact⟨rfl,rfl⟩
theorem q7a (t:Option Addr)(m cap n a b:Nat)(f:Nat->Bool)(w:World)(hm:n*n<=m)(hn:n<=32)(ha:a<n)(hb:b<n)(ht:Bools w t m f)(r:Int)(hr:firstN (isMeet f n a b) n=r) :
 Calls Tryz.prog 33 #[.slice t m cap,J9 n,J9 a,J9 b] w fun e w'=>e=.returned (J9 r)/\w'=w:=by
 have HM:=h_ hm;have HR:=h_ hr;clear hm hr
 go_enter Tryz.func33,Tryz.ntmps33
 go_wp2
 go_loop [9] (fun i=>∃k:Nat,k<=n/\i=J9 k/\∀c,c<k->isMeet f n a b c=false) (fun i=>n - (intOf i).toNat)
 case atStart=>exact⟨0,nZ _,rfl,fun c h=>absurd h (nL _)⟩
 case round =>
  obtain⟨k,hk,rfl,hall⟩:=hrel;have HA:=h_ hall;clear hall;by_cases hlt:k<n
  . cases hj:isMeet f n a b k
    . go_wp2_with (go_at_call 57;refine(q3l _ _ _ _ _ _ _ f _ HM.u hn ha hb hlt ht).mono ?_;rintro e w' ⟨rfl,rfl⟩;rw[hj])
      go_round
      case rel=>exact⟨k+1,by omega,by go_num,snocP HA.u hj⟩
      case measure=>simp[intOf];omega
    . have hv:=q9o hlt HA.u hj
      rw[HR.u]at hv;subst hv;go_wp2_with (go_at_call 57;refine(q3l _ _ _ _ _ _ _ f _ HM.u hn ha hb hlt ht).mono ?_;rintro e w' ⟨rfl,rfl⟩;rw[hj]);go_ret;exact⟨rfl,rfl⟩
  . have hv:=q6y (p:=isMeet f n a b) (n:=n) fun c hc=>HA.u c (by omega)
    rw[HR.u]at hv;subst hv;go_wp2;go_ret;exact⟨rfl,rfl⟩
theorem q32 (N:Int)(a:Option Addr)(m c:Nat)(w:World)(hm:m<=9223372036854775807)(hno:¬ (1<=N/\N<=32/\m<=256)) :
 Calls Tryz.prog 80 #[.agg (Jn N a m c)] w fun e w'=>e=.returned (.bool false)/\Below w.heap.size w w':=by
 have hcase:N<1∨(1<=N/\32<N)∨(1<=N/\N<=32/\256<m):=by omega
 rcases hcase with h | ⟨h,h'⟩ | ⟨h,h',h''⟩
 all_goals
  go_enter Tryz.func80,Tryz.ntmps80;go_wp2;go_ret;exact⟨rfl,(bR _ _).alloc (nR _) _⟩
theorem qdw (w:World)(t:TypeId)(x y:Int):(w.alloc (.cells (Jp x y) t)).cell? ⟨w.heap.size,0,none⟩=some (J9 x)/\(w.alloc (.cells (Jp x y) t)).cell? ⟨w.heap.size,1,none⟩=some (J9 y):=by
 have B:=Blk.new w t (Jp x y)
 exact⟨B.cell 0,B.cell 1⟩
theorem q31 (N:Int)(a:Option Addr)(m c:Nat)(f g:Nat->Int)(w:World)(h1:1<=N)(h32:N<=32)(hm:m<=256)(ha:Pairs w a m f g)(V:Bool)(hV:V=true ↔ ∀k,k<m->0<=f k/\f k<N/\0<=g k/\g k<N) :
 Calls Tryz.prog 80 #[.agg (Jn N a m c)] w fun e w'=>e=.returned (.bool V)/\Below w.heap.size w w':=by
 have HV:=h_ hV;clear hV
 go_enter Tryz.func80,Tryz.ntmps80
 go_wp2
 have hb:Below w.heap.size w (w.alloc (.cells (Jn N a m c) 39)):=(bR _ _).alloc (nR _) _
 have HB:=h_ hb;clear hb
 have B0:=Blk.new w 39 (Jn N a m c)
 have PA:=ha.mono HB.u
 generalize (w.alloc (.cells (Jn N a m c) 39))=W at *
 go_loopw [22] (fun i wr=>∃k:Nat,k<=m/\i=J9 k/\(∀j,j<k->0<=f j/\f j<N/\0<=g j/\g j<N)/\Below W.heap.size W wr) (fun i _=>m - (intOf i).toNat)
 case atStart=>exact⟨0,nZ _,rfl,fun j h=>absurd h (nL _),bR _ _⟩
 case round =>
  obtain⟨k,hk,rfl,heq,hB⟩:=hrel;have HE:=h_ heq;clear heq;have P2:=PA.mono hB;have c0:=(B0.mono hB B0.lt).cell 0;simp only[Yh]at c0;have hs:w.heap.size<wr.heap.size:=Y7 B0.lt hB.size;have HC:=h_ hB;clear hB;by_cases hlt:k<m
  . obtain⟨b,off,rfl,hl,hc,hd⟩:=P2 k hlt
    have hF:¬ (0<=f k/\f k<N/\0<=g k/\g k<N)->V=false:=fun hn=>qfv HV.u fun hall=>hn (hall k hlt);have HF:=h_ hF;clear hF;have HZ:=h_ (HB.u.trans ((HC.u.trans (((bR _ _).alloc (nR _) (.cells (Jp (f k) (g k)) 64)).mono HC.u.size)).mono HB.u.size));have HY:=h_ (HC.u.trans (((bR _ _).alloc (nR _) (.cells (Jp (f k) (g k)) 64)).mono HC.u.size));obtain⟨p0,p1⟩:=qdw wr 64 (f k) (g k);have q0:=((B0.mono HY.u B0.lt).cell 0);simp only[Yh]at q0;by_cases x1:f k<0∨N<=f k
    . go_wp2_with fail
      refine(q75 (f k) N _ x1).mono ?_;rintro e w' ⟨rfl,rfl⟩;go_wp2;go_ret;exact⟨qe9 (HF.u (by omega)).symm,HZ.u⟩
    have y0:0<=f k:=(by omega);have y1:f k<N:=(by omega);by_cases x2:g k<0∨N<=g k
    . go_wp2_with fail
      refine(q4y (f k) N _ y0 y1).mono ?_;rintro e w' ⟨rfl,rfl⟩;go_wp2_with fail;refine(q75 (g k) N _ x2).mono ?_;rintro e w' ⟨rfl,rfl⟩;go_wp2;go_ret;exact⟨qe9 (HF.u (by omega)).symm,HZ.u⟩
    have z0:0<=g k:=(by omega);have z1:g k<N:=(by omega);go_wp2_with fail;refine(q4y (f k) N _ y0 y1).mono ?_;rintro e w' ⟨rfl,rfl⟩;go_wp2_with fail;refine(q4y (g k) N _ z0 z1).mono ?_;rintro e w' ⟨rfl,rfl⟩;go_wp2;go_roundw
    case rel=>exact⟨k+1,by omega,by go_num,fun j hj=>by
     by_cases e:j=k
     . subst e;omega
     . exact HE.u j (by omega),HY.u⟩
    case measure=>simp[intOf];omega
  . go_wp2
    go_ret;exact⟨qe9 (HV.u.2 fun j hj=>HE.u j (by omega)).symm,HB.u.trans (HC.u.mono HB.u.size)⟩
structure Counts (m:Fm):Prop where
 l:m.L.length<=32
 p:m.P.length<=256
 r:m.R.length<=64
 f:m.F.length<=200
theorem q74 (x:Int)(n:Nat)(w:World):Calls Tryz.prog 115 (Jp x n) w fun e w'=>e=.returned (.bool (inR n x))/\w'=w:=by
 by_cases h:0<=x/\x<n
 . rw[show inR n x=true from Ym h]
   exact q4y x n w h.1 h.2
 . rw[show inR n x=false from Yi h]
   exact q75 x n w (by omega)
theorem q0k (m:Fm)(A:MA)(w:World)(hf:FitM m)(hc:Counts m)(ha:MSl w m A) :
 Calls Tryz.prog 110 #[mV m A] w fun r w'=>r=.returned (.bool (namesOk m.L&&namesOk (rNames m)&&namesOk (fNames m)))/\Below w.heap.size w w':=by
 obtain⟨al,alc,ap,apc,ar,arc,af,afc,afa⟩:=A
 unfold mV
 dsimp only
 have HK:=h_ (Blk.new w 28 (Jb al m alc ap apc ar arc af afc))
 have HB:=h_ ((bR w.heap.size w).alloc (nR _) (.cells (Jb al m alc ap apc ar arc af afc) 28))
 obtain⟨W0,hW0⟩:=Nq (w.alloc (.cells (Jb al m alc ap apc ar arc af afc) 28))
 rw[hW0]at HK HB
 have HS:=h_ (ha.mono HB.u);have HF:=h_ hf;have HC:=h_ hc
 obtain⟨q,hq⟩:=Nq ((namesOk m.L&&namesOk (rNames m)&&namesOk (fNames m)))
 rw[hq]
 have HQ:=h_ hq
 clear ha hf hc hq
 obtain⟨y0,y1,y2,y3⟩:=quad HK.u
 go_enter Tryz.func110,Tryz.ntmps110
 go_wp2_with fail
 try rw[hW0]
 refine(q0j al alc m.L W0 (by have:=HC.u.l;omega) HF.u.l HS.u.l).mono ?_
 rintro r W2 ⟨rfl,hb1⟩
 replace HK:=mB HK hb1;replace HS:=h_ (HS.u.mono hb1);replace HB:=mT HB hb1
 clear hW0 y0 y1 y2 y3 hb1
 obtain⟨y0,y1,y2,y3⟩:=quad HK.u
 cases hn1:namesOk m.L
 . have HX:Hi (q=false):=h_ (by rw[<- HQ.u,hn1];rfl)
   go_wp2_with fail;go_ret;exact⟨qe9 HX.u.symm,HB.u⟩
 have HQ1:Hi ((namesOk (rNames m)&&namesOk (fNames m))=q):=h_ (by rw[<- HQ.u,hn1,Zc])
 clear hn1 HQ
 go_wp2_with fail
 refine(q2u m ⟨al,alc,ap,apc,ar,arc,af,afc,afa⟩ W2 HC.u.r HS.u.r).mono ?_
 rintro r W3 ⟨an2,cn2,rfl,hnames,hb1⟩
 have HNr:=h_ hnames
 replace HK:=mB HK hb1;replace HS:=h_ (HS.u.mono hb1);replace HB:=mT HB hb1
 clear y0 y1 y2 y3 hb1 hnames
 obtain⟨y0,y1,y2,y3⟩:=quad HK.u
 have HE1:Hi (m.R.length=(rNames m).length):=h_ (by simp[rNames]);have HE2:Hi (m.F.length=(fNames m).length):=h_ (by simp[fNames])
 go_wp2_with fail
 have hcr:=q0j an2 cn2 (rNames m) W3 (by rw[<- HE1.u];have:=HC.u.r;omega) (fun x hx=>by obtain⟨y,hy,rfl⟩:=Y8.1 hx;exact HF.u.r y hy) HNr.u
 rw[<- HE1.u]at hcr
 refine hcr.mono ?_
 rintro r W4 ⟨rfl,hb1⟩
 replace HK:=mB HK hb1;replace HS:=h_ (HS.u.mono hb1);replace HB:=mT HB hb1
 clear y0 y1 y2 y3 hb1 hcr HNr
 obtain⟨y0,y1,y2,y3⟩:=quad HK.u
 cases hn1:namesOk (rNames m)
 . have HX:Hi (q=false):=h_ (by rw[<- HQ1.u,hn1];rfl)
   go_wp2_with fail;go_ret;exact⟨qe9 HX.u.symm,HB.u⟩
 have HQ2:Hi (namesOk (fNames m)=q):=h_ (by rw[<- HQ1.u,hn1,Zc])
 clear hn1 HQ1
 go_wp2_with fail
 refine(q1h m ⟨al,alc,ap,apc,ar,arc,af,afc,afa⟩ W4 HC.u.f HS.u.f).mono ?_
 rintro r W5 ⟨an,cn,rfl,hnames,hb1⟩
 have HN:=h_ hnames
 replace HB:=mT HB hb1
 clear y0 y1 y2 y3 hb1 hnames
 go_wp2_with fail
 have hcr:=q0j an cn (fNames m) W5 (by rw[<- HE2.u];have:=HC.u.f;omega) (fun x hx=>by obtain⟨y,hy,rfl⟩:=Y8.1 hx;exact(HF.u.f y hy).nm) HN.u
 rw[<- HE2.u,HQ2.u]at hcr
 refine hcr.mono ?_
 rintro r W6 ⟨rfl,hb1⟩
 replace HB:=mT HB hb1
 clear hb1 hcr HN
 cases q
 all_goals
  go_wp2_with fail;go_ret;exact⟨rfl,HB.u⟩
theorem q0h (m:Fm)(A:MA)(w:World)(hc:Counts m)(ha:MSl w m A) :
 Calls Tryz.prog 111 #[mV m A] w fun r w'=>r=.returned (.bool ((m.P.all fun p=>inR m.L.length p.1&&inR m.L.length p.2)&&m.R.all fun r=>inR m.L.length r.lb))/\Below w.heap.size w w':=by
 obtain⟨al,alc,ap,apc,ar,arc,af,afc,afa⟩:=A
 unfold mV
 dsimp only
 have HK:=h_ (Blk.new w 28 (Jb al m alc ap apc ar arc af afc))
 have HB:=h_ ((bR w.heap.size w).alloc (nR _) (.cells (Jb al m alc ap apc ar arc af afc) 28))
 obtain⟨W0,hW0⟩:=Nq (w.alloc (.cells (Jb al m alc ap apc ar arc af afc) 28))
 rw[hW0]at HK HB
 have HS:=h_ (ha.mono HB.u)
 have hl:=hc.l;have hp:=hc.p;have hr:=hc.r
 obtain⟨q,hq⟩:=Nq (((m.P.all fun p=>inR m.L.length p.1&&inR m.L.length p.2)&&m.R.all fun r=>inR m.L.length r.lb))
 rw[hq]
 have HQ:=h_ hq
 clear ha hc hq
 obtain⟨y0,y1,y2,y3⟩:=quad HK.u
 go_enter Tryz.func111,Tryz.ntmps111
 go_wp2_with fail
 try rw[hW0]
 clear hW0 y0 y1 y2 y3
 go_loopw [14] (fun i wr=>∃k:Nat,k<=m.P.length/\i=J9 k/\(∀j (h:j<m.P.length),j<k->inR m.L.length m.P[j].1=true/\inR m.L.length m.P[j].2=true)/\Below W0.heap.size W0 wr) (fun i _=>m.P.length - (intOf i).toNat)
 case atStart=>exact⟨0,nZ _,rfl,fun j _ hj=>absurd hj (nL _),bR _ _⟩
 case round =>
  obtain⟨k,hk,rfl,hall,hb⟩:=hrel;have HL:=h_ hall;have HB1:=h_ hb;have HSr:=h_ (HS.u.mono hb);clear hall hb;by_cases hlt:k<m.P.length
  . have hlt':(k:Int)<m.P.length:=by omega
    obtain⟨pb,po,rfl,-,z0,z1⟩:=HSr.u.p k hlt;have HM1:Hi (inR m.L.length m.P[k].1=false∨inR m.L.length m.P[k].2=false->q=false):=h_ fun h=>by
     rw[<- HQ.u,show(m.P.all fun p=>inR m.L.length p.1&&inR m.L.length p.2)=false from Vc.2 ⟨m.P[k],Yk hlt,by rcases h with h | h <;> simp[h]⟩];rfl
    have HL2:Hi (inR m.L.length m.P[k].1=true->inR m.L.length m.P[k].2=true->∀j (h:j<m.P.length),j<k+1->inR m.L.length m.P[j].1=true/\inR m.L.length m.P[j].2=true):=h_ fun g1 g2 j h hj=>by
     by_cases ej:j=k
     . subst ej;exact⟨g1,g2⟩
     . exact HL.u j h (by omega)
    have HBf:=h_ (HB1.u.alloc HB1.u.size (.cells (Jp m.P[k].1 m.P[k].2) 64));have HKf:=h_ (Blk.new wr 64 (Jp m.P[k].1 m.P[k].2));generalize m.P[k]=u at *;obtain⟨x1,x2⟩:=u;dsimp only at *;obtain⟨Wd,hWd⟩:=Nq (wr.alloc (.cells (Jp x1 x2) 64));rw[hWd]at HKf HBf;obtain⟨v0,v1⟩:=duo HKf.u;have HC1:=h_ (q74 x1 m.L.length Wd);have HC2:=h_ (q74 x2 m.L.length Wd);generalize inR m.L.length x1=g1 at *;generalize inR m.L.length x2=g2 at *;cases g1
    . have HX:=h_ (HM1.u (.inl rfl))
      go_wp2_with fail
      try rw[hWd]
      refine HC1.u.mono ?_;rintro e w1 ⟨rfl,hw⟩;replace hw:=hw.symm;subst hw;clear hWd;go_wp2_with fail;go_ret;exact⟨qe9 HX.u.symm,HB.u.trans (HBf.u.mono HB.u.size)⟩
    cases g2
    . have HX:=h_ (HM1.u (.inr rfl))
      go_wp2_with fail
      try rw[hWd]
      refine HC1.u.mono ?_;rintro e w1 ⟨rfl,hw⟩;replace hw:=hw.symm;subst hw;clear hWd;go_wp2_with fail;refine HC2.u.mono ?_;rintro e w1 ⟨rfl,hw⟩;replace hw:=hw.symm;subst hw;go_wp2_with fail;go_ret;exact⟨qe9 HX.u.symm,HB.u.trans (HBf.u.mono HB.u.size)⟩
    have HL3:=h_ (HL2.u rfl rfl);go_wp2_with fail
    try rw[hWd]
    refine HC1.u.mono ?_;rintro e w1 ⟨rfl,hw⟩;replace hw:=hw.symm;subst hw;clear hWd;go_wp2_with fail;refine HC2.u.mono ?_;rintro e w1 ⟨rfl,hw⟩;replace hw:=hw.symm;subst hw;go_wp2_with fail;go_roundw
    case rel=>first | exact⟨k+1,by omega,by go_num,HL3.u,HBf.u⟩ | ((repeat apply Exists.intro);exact⟨⟨k+1,by omega,by go_num,HL3.u,HBf.u⟩,rfl⟩)
    case measure=>simp[intOf];omega
  obtain rfl:k=m.P.length:=by omega
  have hlt':¬ (m.P.length:Int)<(m.P.length:Int):=by omega
  have HQ2:Hi ((m.R.all fun r=>inR m.L.length r.lb)=q):=h_ (by
   rw[<- HQ.u,show(m.P.all fun p=>inR m.L.length p.1&&inR m.L.length p.2)=true from Y4.2 fun x hx=>by
    obtain⟨j,hj,rfl⟩:=Y2.1 hx;have:=HL.u j hj hj;rw[this.1,this.2];rfl,Zc])
  replace HK:=h_ (HK.u.mono HB1.u HK.u.lt);replace HS:=HSr;replace HB:=h_ (HB.u.trans (HB1.u.mono HB.u.size));obtain⟨y0,y1,y2,y3⟩:=quad HK.u;clear HL HB1 HQ HSr hlt;go_wp2_with fail;clear y0 y1 y2 y3 hlt';obtain⟨W6,hW6⟩:=Nq wr;rw[hW6]at HB HS HK⊢;clear hW6;go_loopw [34] (fun i wr=>∃k:Nat,k<=m.R.length/\i=J9 k/\(∀j (h:j<m.R.length),j<k->inR m.L.length m.R[j].lb=true)/\Below W6.heap.size W6 wr) (fun i _=>m.R.length - (intOf i).toNat)
  case atStart=>exact⟨0,nZ _,rfl,fun j _ hj=>absurd hj (nL _),bR _ _⟩
  case round =>
   obtain⟨k,hk,rfl,hall,hb⟩:=hrel;have HL:=h_ hall;have HB1:=h_ hb;have HSr:=h_ (HS.u.mono hb);clear hall hb;by_cases hlt:k<m.R.length
   . have hlt':(k:Int)<m.R.length:=by omega
     obtain⟨pb,po,rfl,-,z0,z1⟩:=HSr.u.r k hlt;have HM1:Hi (inR m.L.length m.R[k].lb=false->q=false):=h_ fun h=>by
      rw[<- HQ2.u];exact Vc.2 ⟨m.R[k],Yk hlt,by simp[h]⟩
     have HL2:Hi (inR m.L.length m.R[k].lb=true->∀j (h:j<m.R.length),j<k+1->inR m.L.length m.R[j].lb=true):=h_ fun g1 j h hj=>by
      by_cases ej:j=k
      . subst ej;exact g1
      . exact HL.u j h (by omega)
     have HBf:=h_ (HB1.u.alloc HB1.u.size (.cells #[.string m.R[k].nm,J9 m.R[k].lb] 66));have HKf:=h_ (Blk.new wr 66 #[.string m.R[k].nm,J9 m.R[k].lb]);generalize m.R[k]=u at *;obtain⟨x1,x2⟩:=u;dsimp only at *;obtain⟨Wd,hWd⟩:=Nq (wr.alloc (.cells #[.string x1,J9 x2] 66));rw[hWd]at HKf HBf;obtain⟨v0,v1⟩:=duo HKf.u;have HC1:=h_ (q74 x2 m.L.length Wd);generalize inR m.L.length x2=g1 at *;cases g1
     . have HX:=h_ (HM1.u rfl)
       go_wp2_with fail
       try rw[hWd]
       refine HC1.u.mono ?_;rintro e w1 ⟨rfl,hw⟩;replace hw:=hw.symm;subst hw;clear hWd;go_wp2_with fail;go_ret;exact⟨qe9 HX.u.symm,HB.u.trans (HBf.u.mono HB.u.size)⟩
     have HL3:=h_ (HL2.u rfl);go_wp2_with fail
     try rw[hWd]
     refine HC1.u.mono ?_;rintro e w1 ⟨rfl,hw⟩;replace hw:=hw.symm;subst hw;clear hWd;go_wp2_with fail;go_roundw
     case rel=>first | exact⟨k+1,by omega,by go_num,HL3.u,HBf.u⟩ | ((repeat apply Exists.intro);exact⟨⟨k+1,by omega,by go_num,HL3.u,HBf.u⟩,rfl⟩)
     case measure=>simp[intOf];omega
   obtain rfl:k=m.R.length:=by omega
   have hlt':¬ (m.R.length:Int)<(m.R.length:Int):=by omega
   have HX:Hi (q=true):=h_ (by
    rw[<- HQ2.u];exact Y4.2 fun x hx=>by
     obtain⟨j,hj,rfl⟩:=Y2.1 hx;exact HL.u j hj hj)
   go_wp2_with fail;go_ret;exact⟨qe9 HX.u.symm,HB.u.trans (HB1.u.mono HB.u.size)⟩
structure MkL (lo hi:Nat)(W W':World):Prop where
 out:Out lo hi W W'
 bk:∀g t n,Bk W g t n->Bk W' g t n
theorem MkL.refl (lo hi:Nat)(W:World):MkL lo hi W W:=⟨Out.refl _ _ _,fun _ _ _ h=>h⟩
theorem MkL.trans {lo hi:Nat}{A B C:World}(h:MkL lo hi A B)(k:MkL lo hi B C):MkL lo hi A C:=⟨h.out.trans k.out,fun g t n hb=>k.bk g t n (h.bk g t n hb)⟩
theorem MkL.below {lo hi:Nat}{W W':World}(h:Below W.heap.size W W'):MkL lo hi W W':=⟨⟨h.os,h.tape,h.output,h.size,fun b hb _=>h.block b hb⟩,fun _ _ _ hb=>hb.mono h hb.lt⟩
theorem MkL.set {lo hi:Nat}{W:World}{g:Nat}(j:Nat)(v:Value)(h1:lo<=g)(h2:g<hi):MkL lo hi W (W.setCell ⟨g,j,none⟩ v) :=
 ⟨Out.set (a:=⟨g,j,none⟩) v h1 h2,fun g' t' n' hb=>by
  by_cases e:g'=g
  . subst e;exact hb.set j v
  . exact hb.other e j v⟩
theorem Bk.cell_ne {w:World}{g:Nat}{t:TypeId}{n:Nat}(h:Bk w g t n){p q:Nat}(hpq:p≠q)(v:Value):(w.setCell ⟨g,p,none⟩ v).cell? ⟨g,q,none⟩=w.cell? ⟨g,q,none⟩:=by
 obtain⟨cs,h1,-⟩:=h
 rw[(h1.set p v).cell q,h1.cell q,List.getElem?_set_ne hpq]
end Go.Proofs.YtebbgodlijlioaaGreatDoor
