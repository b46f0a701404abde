import Derived.Test.YtgojgjlninakjaaGreatDoorW03
import Derived.Test.YtgojgjlninakjaaGreatDoorW01
import Derived.Deep.MidRow
set_option maxRecDepth 100000
set_option maxHeartbeats 64000000
namespace Go.Proofs.YtgojgjlninakjaaGreatDoor
open Go Go.RowKit
theorem q62 (a n:Int)(w:World)(h0:0<=a)(h1:a<n) :
 Calls Tryz.prog 180 (Js a n) w fun e w'=>e=.returned (.bool true)/\w'=w:=by
 go_enter Tryz.func180,Tryz.ntmps180
 go_wp2
 go_ret
 exact⟨qia (by simp <;> omega),rfl⟩
theorem q90 (a n:Int)(w:World)(h:a<0∨n<=a) :
 Calls Tryz.prog 180 (Js a n) w fun e w'=>e=.returned (.bool false)/\w'=w:=by
 by_cases h0:0<=a
 . have h1:n<=a:=by omega
   clear h;go_enter Tryz.func180,Tryz.ntmps180;go_wp2;go_ret;exact⟨qia (by simp <;> omega),rfl⟩
 . clear h
   go_enter Tryz.func180,Tryz.ntmps180;go_wp2;go_ret;exact⟨qia (by simp <;> omega),rfl⟩
theorem qk0 {V:Bool}{p:Prop}(hV:V=true ↔ p)(h:¬ p):V=false:=by
 cases V with
 | false=>rfl
 | true=>exact absurd (hV.1 rfl) h
def Pairs (w:World)(a:Option Addr)(n:Nat)(f g:Nat->Int):Prop :=
 ∀k,k<n->∃b off,a=some ⟨b,off,none⟩/\b<w.heap.size/\w.cell? ⟨b,off+k*2,none⟩=some (J6 (f k))/\w.cell? ⟨b,off+k*2+1,none⟩=some (J6 (g k))
theorem Pairs.mono {w w':World}{a:Option Addr}{n:Nat}{f g:Nat->Int}(h:Pairs w a n f g)(hb:Below w.heap.size w w'):Pairs w' a n f g:=fun k hk=>by
 obtain⟨b,off,rfl,hl,hc,hd⟩:=h k hk
 exact⟨b,off,rfl,Ys hl hb.size,(hb.cell (p:=⟨b,off+k*2,none⟩) hl).trans hc,(hb.cell (p:=⟨b,off+k*2+1,none⟩) hl).trans hd⟩
theorem q12 (N:Int)(a:Option Addr)(m c:Nat)(w:World)(hm:m<=9223372036854775807)(hno:¬ (1<=N/\N<=32/\m<=256)) :
 Calls Tryz.prog 101 #[.agg (Jp N a m c)] w fun e w'=>e=.returned (.bool false)/\Below w.heap.size w w':=by
 have hcase:N<1∨(1<=N/\32<N)∨(1<=N/\N<=32/\256<m):=by omega
 rcases hcase with h | ⟨h,h'⟩ | ⟨h,h',h''⟩
 all_goals
  go_enter Tryz.func101,Tryz.ntmps101;go_wp2;go_ret;exact⟨rfl,(bR _ _).alloc (nR _) _⟩
theorem q11 (N:Int)(a:Option Addr)(m c:Nat)(f g:Nat->Int)(w:World)(h1:1<=N)(h32:N<=32)(hm:m<=256)(ha:Pairs w a m f g)(V:Bool)(hV:V=true ↔ ∀k,k<m->0<=f k/\f k<N/\0<=g k/\g k<N) :
 Calls Tryz.prog 101 #[.agg (Jp N a m c)] w fun e w'=>e=.returned (.bool V)/\Below w.heap.size w w':=by
 have HV:=h_ hV;clear hV
 go_enter Tryz.func101,Tryz.ntmps101
 go_wp2
 have hb:Below w.heap.size w (w.alloc (.cells (Jp N a m c) 131)):=(bR _ _).alloc (nR _) _
 have HB:=h_ hb;clear hb
 have B0:=Blk.new w 131 (Jp N a m c)
 have c0:=B0.cell 0;have c1:=B0.cell 1
 simp only[Y6,Yg]at c0 c1
 have hs:w.heap.size<(w.alloc (.cells (Jp N a m c) 131)).heap.size:=by simp
 have PA:=ha.mono HB.u
 generalize (w.alloc (.cells (Jp N a m c) 131))=W at *
 clear B0
 go_loopw [3] (fun i wr=>∃k:Nat,k<=m/\i=J6 k/\(∀j,j<k->0<=f j/\f j<N/\0<=g j/\g j<N)/\∃n,wr=W.drewN n) (fun i _=>m - (intOf i).toNat)
 case atStart=>exact⟨0,nZ _,rfl,fun j h=>absurd h (nL _),0,rfl⟩
 case round =>
  obtain⟨k,hk,rfl,heq,n,rfl⟩:=hrel;have HE:=h_ heq;clear heq;have HD:=h_ (q3d W n);by_cases hlt:k<m
  . obtain⟨b,off,rfl,hl,hc,hd⟩:=PA k hlt
    have hF:¬ (0<=f k/\f k<N/\0<=g k/\g k<N)->V=false:=fun hn=>qk0 HV.u fun hall=>hn (hall k hlt);have HF:=h_ hF;clear hF;by_cases x1:f k<0
    . go_wp2
      go_quiet (fail)
      go_wp2;go_ret;exact⟨qia (HF.u (by omega)).symm,HB.u.trans ⟨rfl,rfl,rfl,nR _,fun _ _=>rfl⟩⟩
    by_cases x2:N<=f k
    . go_wp2
      go_quiet (fail)
      go_wp2;go_ret;exact⟨qia (HF.u (by omega)).symm,HB.u.trans ⟨rfl,rfl,rfl,nR _,fun _ _=>rfl⟩⟩
    by_cases x3:g k<0
    . go_wp2
      go_quiet (fail)
      go_wp2
      go_quiet (fail)
      go_wp2;go_ret;exact⟨qia (HF.u (by omega)).symm,HB.u.trans ⟨rfl,rfl,rfl,nR _,fun _ _=>rfl⟩⟩
    by_cases x4:N<=g k
    . go_wp2
      go_quiet (fail)
      go_wp2
      go_quiet (fail)
      go_wp2;go_ret;exact⟨qia (HF.u (by omega)).symm,HB.u.trans ⟨rfl,rfl,rfl,nR _,fun _ _=>rfl⟩⟩
    go_wp2
    go_quiet (fail)
    go_wp2
    go_quiet (fail)
    go_wp2;go_roundw
    case rel=>exact⟨k+1,by omega,by go_num,fun j hj=>by
     by_cases e:j=k
     . subst e;omega
     . exact HE.u j (by omega),_,rfl⟩
    case measure=>simp[intOf];omega
  . go_wp2
    go_ret;exact⟨qia (HV.u.2 fun j hj=>HE.u j (by omega)).symm,HB.u.trans ⟨rfl,rfl,rfl,nR _,fun _ _=>rfl⟩⟩
theorem qk1 (m:Nat)(F:Nat->Bool):bs (m+1) F=bs m F++[.bool (F m)]:=by simp[bs,List.range_succ]
theorem qli (m:Nat)(F:Nat->Int):is (m+1) F=is m F++[J6 (F m)]:=by simp[is,List.range_succ]
theorem qbj (m:Nat)(F:Nat->Bool):(bs m F).length=m:=by simp[bs]
def tabB (n:Nat)(R:Nat->Nat->Bool)(i:Nat):Bool:=R (i / n) (i % n)
theorem qo4 {n:Nat}(R:Nat->Nat->Bool){a b:Nat}(hb:b<n):tabB n R (a*n+b)=R a b:=by
 unfold tabB
 rw[Vv,Va _ _ (by omega),Z3 hb,Zr,Z2 hb,Y7]
theorem qew (n:Nat)(g:Nat->Nat)(R:Nat->Nat->Bool)(w:World)(h1:1<=n)(hn:n<=32)(hg:IsRel g R) :
 Calls Tryz.prog 185 #[.agg (us g).toArray,J6 n] w fun e w'=>∃G,e=.returned (.slice (some ⟨G,0,none⟩) (n*n) (n*n))/\Blk w' G 4 (bs (n*n) (tabB n R))/\w.heap.size<=G/\Below w.heap.size w w':=by
 obtain⟨i0,hi,hz0,hz1,hz2⟩:=info_parts qcw
 have q1:(n:Int)*n<=1024:=by rw[<- Zd];have:=sq_le hn;omega
 have q0:0<=(n:Int)*n:=by rw[<- Zd];omega
 have q2:=sq_le hn
 have hbn:i0.bytes*(n*n)<=281474976710656:=by rw[hz2];omega
 have hC:((n:Int)*n)=((n*n:Nat):Int):=by simp
 have HC:=h_ hC;clear hC
 go_enter Tryz.func185,Tryz.ntmps185
 go_wp2_with (at_make;refine wpList_make_own _ rfl _ (.tmp 10) 103 rfl w.heap.size 4 i0 (.bool false) 1 Tryz.underlying103 hi hz0 hz1 .i64 .i64 _ (n*n) rfl rfl HC.u hbn (by unfold maxLen;omega) (by simp) ?_;intro w1 hown hgrow)
 have hb1:Below w.heap.size w w1:=((bR _ w).alloc (nR _) _).trans ((bR w.heap.size _).grown hgrow (by simp) (fun k e=>by cases e))
 have hB:=(Blk.new w 218 (us g).toArray).grown hgrow (by simp)
 have HO:=h_ hown;have HB1:=h_ hb1;have HB:=h_ hB
 clear hown hb1 hB hgrow hbn
 go_loopw [5,13] (fun v i wr=>∃k:Nat,k<=n/\i=J6 k/\v=.slice (some ⟨w.heap.size+1,0,none⟩) (k*n) (n*n)/\wr.ownsRow w.heap.size 4 1 (.slice (some ⟨w.heap.size+1,0,none⟩) (k*n) (n*n)) (k*n) (bs (k*n) (tabB n R))/\Blk wr w.heap.size 218 (us g)/\Below w.heap.size w wr) (fun _ i _=>n - (intOf i).toNat)
 case atStart=>exact⟨0,nZ _,rfl,by simp,by simpa [bs] using HO.u,HB.u,HB1.u⟩
 case round =>
  clear HO HB HB1;obtain⟨k,hk,rfl,rfl,hown,hB,hW⟩:=hrel;have HO:=h_ hown;have HB:=h_ hB;have HW:=h_ hW;clear hown hB hW;by_cases hlt:k<n
  . go_wp2_with fail
    go_loopw [5,17] (fun v i wr=>∃j:Nat,j<=n/\i=J6 j/\v=.slice (some ⟨w.heap.size+1,0,none⟩) (k*n+j) (n*n)/\wr.ownsRow w.heap.size 4 1 (.slice (some ⟨w.heap.size+1,0,none⟩) (k*n+j) (n*n)) (k*n+j) (bs (k*n+j) (tabB n R))/\Blk wr w.heap.size 218 (us g)/\Below w.heap.size w wr) (fun _ i _=>n - (intOf i).toNat)
    case atStart=>exact⟨0,nZ _,rfl,by simp,by simpa using HO.u,HB.u,HW.u⟩
    case round =>
     clear HO HB HW;obtain⟨j,hj,rfl,rfl,hown,hB,hW⟩:=hrel;by_cases hlj:j<n
     . have k32:k<32:=by omega
       have j32:j<32:=(by omega);have c0:=hB.cell k;rw[us_get _ k32]at c0;have l0:=hB.lt;have gk:=(hg k k32).1;have hlen:=idx_lt hlt hlj;have k0i:(0:Int)<=k:=(by omega);have k1i:(k:Int)<32:=(by omega);have HO:=h_ hown;have HB:=h_ hB;have HW:=h_ hW;clear hown hB hW;have hF:(g k).testBit j=tabB n R (k*n+j):=(by rw[(hg k k32).2 j,qo4 R hlj]);go_wp2_with (first | (go_at_call 227;refine(ql7 _ _ _ gk j32).mono ?_;rintro e w' ⟨rfl,rfl⟩) | (at_builtin;refine wpList_append_fits _ rfl _ _ 103 rfl w.heap.size 4 i0 1 Tryz.underlying103 hi hz1 (w.heap.size+1) (k*n+j) (n*n) _ rfl ((HO.u.alloc _).alloc _) ⟨wr.heap.size+1,0,none⟩ 1 1 [.bool (tabB n R (k*n+j))] rfl rfl ?c1 (by simp[Value.oneCell']) hlen ?_))
       case c1 =>
        intro q u hq
        match q,hq with
        | 0,hq=>simp at hq;subst hq;simp[Addr.add]
       . intro w2 hown2 hgrow2
         rw[<- qk1]at hown2;have bw2:Below wr.heap.size wr ((wr.alloc (.cells #[.int .u32 (g k:Int)] 216)).alloc (.cells #[.bool (tabB n R (k*n+j))] 4)):=((bR _ _).alloc (nR _) _).alloc (by simp) _;have hB2:=(HB.u.mono bw2 l0).grown hgrow2 (by simp);have hW2:=(HW.u.trans (bw2.mono HW.u.size)).grown hgrow2 (by have:=HW.u.size;simp;omega) (fun q e=>by cases e;omega);have HO2:=h_ hown2;have HB2:=h_ hB2;have HW2:=h_ hW2;clear hown2 hgrow2 bw2 hB2 hW2;go_wp2;go_roundw
         case rel=>exact⟨j+1,by omega,by go_num,rfl,HO2.u,HB2.u,HW2.u⟩
         case measure=>simp[intOf];omega
     . obtain rfl:j=n:=by omega
       have HO:=h_ hown;have HB:=h_ hB;have HW:=h_ hW;clear hown hB hW;go_wp2_with fail;go_roundw
       case rel=>exact⟨k+1,by omega,by go_num,by rw[Zx],by rw[Zx];exact HO.u,HB.u,HW.u⟩
       case measure=>simp[intOf];omega
  . obtain rfl:k=n:=by omega
    go_wp2;go_ret;exact⟨_,rfl,Blk.of_owns HO.u,by omega,HW.u⟩
def upd (T:Nat->Nat->Bool)(lo hi:Nat):Nat->Nat->Bool:=fun a b=>T a b||(decide (b=hi)&&T a lo)
def updTo (T:Nat->Nat->Bool)(lo hi k:Nat):Nat->Nat->Bool:=fun a b=>T a b||(decide (a<k)&&(decide (b=hi)&&T a lo))
def pass (T:Nat->Nat->Bool)(f g:Nat->Nat):Nat->Nat->Nat->Bool
 | 0=>T
 | j+1=>upd (pass T f g j) (f j) (g j)
def rounds (T:Nat->Nat->Bool)(f g:Nat->Nat)(m:Nat):Nat->Nat->Nat->Bool
 | 0=>T
 | r+1=>pass (rounds T f g m r) f g m
def diag:Nat->Nat->Bool:=fun a b=>decide (a=b)
theorem qev {n:Nat}{T T':Nat->Nat->Bool}(h:∀a b,a<n->b<n->T a b=T' a b):bs (n*n) (tabB n T)=bs (n*n) (tabB n T'):=by
 unfold bs
 refine Zo fun i hi=>?_
 have hi':i<n*n:=Y9.1 hi
 have hn:0<n:=Nat.pos_of_ne_zero fun e=>by subst e;simp at hi'
 unfold tabB
 rw[h _ _ (by rw[Nat.div_lt_iff_lt_mul hn];exact hi') (Nat.mod_lt _ hn)]
theorem qo5 {n a b:Nat}(T:Nat->Nat->Bool)(hb:b<n):(bs (n*n) (tabB n T)).set (a*n+b) (.bool true)=bs (n*n) (tabB n fun x y=>T x y||(decide (x=a)&&decide (y=b))):=by
 refine q9o (by simp[qbj]) fun j hj=>?_
 rw[Vh]
 by_cases e:a*n+b=j
 . subst e
   rw[Yv rfl,Yv (by rw[qbj];exact hj),qo4 _ hb];simp
 . rw[Yn e]
   have hne:(decide (j / n=a)&&decide (j % n=b))=false:=by
    rw[Bool.and_eq_false_iff,Zs,Zs];by_cases h1:j / n=a
    . right;intro h2
      apply e;have:=Nat.div_add_mod j n;rw[h1,h2,Nat.mul_comm]at this;exact this
    . exact .inl h1
   simp only[bs,tabB,hne,Bool.or_false];simp[hj]
theorem q2h (n:Nat)(a:Option Addr)(m c:Nat)(f g:Nat->Nat)(w:World)(h1:1<=n)(h32:n<=32)(hm:m<=256)(ha:Pairs w a m (fun k=>(f k:Int)) (fun k=>(g k:Int)))(hf:∀k,k<m->f k<n)(hg:∀k,k<m->g k<n) :
 Calls Tryz.prog 102 #[.agg (Jp n a m c)] w fun e w'=>∃G,e=.returned (.slice (some ⟨G,0,none⟩) (n*n) (n*n))/\Blk w' G 4 (bs (n*n) (tabB n (rounds diag f g m n)))/\w.heap.size<=G/\Below w.heap.size w w':=by
 obtain⟨i0,hi,hz0,hz1,hz2⟩:=info_parts qcw
 have q1:(n:Int)*n<=1024:=by rw[<- Zd];have:=sq_le h32;omega
 have q0:0<=(n:Int)*n:=by rw[<- Zd];omega
 have q2:=sq_le h32
 have hbn:i0.bytes*(n*n)<=281474976710656:=by rw[hz2];omega
 have hC:((n:Int)*n)=((n*n:Nat):Int):=by simp
 have HC:=h_ hC;clear hC
 have hB0:Below w.heap.size w (w.alloc (.cells (Jp n a m c) 131)):=(bR _ _).alloc (nR _) _
 have B0:=Blk.new w 131 (Jp n a m c)
 have PA:=ha.mono hB0
 have hs:(w.alloc (.cells (Jp n a m c) 131)).heap.size=w.heap.size+1:=by simp
 go_enter Tryz.func102,Tryz.ntmps102
 go_wp2_with (at_make;refine wpList_make_full _ rfl (.tmp 15) (.tmp 15) 103 rfl (w.heap.size+1) 4 i0 (.bool false) 1 Tryz.underlying103 hi hz0 hz1 .i64 .i64 _ _ (n*n) rfl rfl HC.u HC.u hbn (by unfold maxLen;omega) (by simp) ?_;intro w1 hown hgrow)
 rw[hs]at hown
 try rw[hs]
 have hb1:Below (w.heap.size+1) (w.alloc (.cells (Jp n a m c) 131)) w1:=(bR _ _).grown hgrow (by simp) (fun k e=>by cases e)
 have hG:=Blk.of_owns hown
 have hG0:Blk w1 (w.heap.size+1) 4 (bs (n*n) (tabB n fun x y=>decide (x=y)&&decide (x<0))):=by
  have e:List.replicate (n*n) (Value.bool false)=bs (n*n) (tabB n fun x y=>decide (x=y)&&decide (x<0)):=by
   refine q9o (by simp) fun j hj=>?_;simp[tabB,hj]
  have hG':Blk w1 (w.heap.size+1) 4 (madeCells #[.bool false] (n*n)).toList:=by simpa [Value.cells] using hG
  rw[toList_madeCells_one]at hG';rw[<- e];exact hG'
 have HG:=h_ hG0;have HB:=h_ hb1;have HB0:=h_ hB0;have H0:=h_ B0;have HP:=h_ PA
 clear hown hgrow hG hG0 hb1 hbn hi hz0 hz1 hz2 hB0 B0 PA ha
 generalize hWW:w.alloc (.cells (Jp n a m c) 131)=W at *
 clear hWW
 have hnn:n*n<=1024:=q2
 have hsW:W.heap.size<=w.heap.size+1:=by rw[hs];exact nR _
 go_loopw [5] (fun i wr=>∃k:Nat,k<=n/\i=J6 k/\Blk wr (w.heap.size+1) 4 (bs (n*n) (tabB n fun x y=>decide (x=y)&&decide (x<k)))/\Below (w.heap.size+1) W wr) (fun i _=>n - (intOf i).toNat)
 case atStart=>exact⟨0,nZ _,rfl,HG.u,HB.u⟩
 case round =>
  clear HG HB;obtain⟨k,hk,rfl,hG,hB⟩:=hrel;have HG:=h_ hG;have HB:=h_ hB;by_cases hlt:k<n
  . have i0:=idx_lt (n:=n) (x:=k) (y:=k) (by omega) (by omega)
    have i1:0<=(k:Int)*n:=(by rw[<- Zd];omega);have i2:(k:Int)*n+k<((n*n:Nat):Int):=(by rw[<- Zd];omega);have i3:(k:Int)*n<=1024:=(by rw[<- Zd];omega);have hcell:=hG.cell (k*n+k);have hfree:=hG.free (k*n+k);have e0:(bs (n*n) (tabB n fun x y=>decide (x=y)&&decide (x<k)))[k*n+k]? = some (.bool false):=by
     simp only[bs,Zg,List.getElem?_range i0,Option.map_some,qo4 _ hlt];simp
    rw[e0]at hcell;clear hG hB e0;go_wp2;go_roundw
    case rel =>
     refine⟨k+1,by omega,by go_num,?_,HB.u.setCell (nR _) _⟩;have h2:=HG.u.set (k*n+k) (.bool true);rw[qo5 _ hlt]at h2;have e:bs (n*n) (tabB n fun x y=>(decide (x=y)&&decide (x<k))||(decide (x=k)&&decide (y=k)))=bs (n*n) (tabB n fun x y=>decide (x=y)&&decide (x<k+1)):=qev fun x y hx hy=>by
      rw[Zk];simp only[Zj,Yf,Yh];omega
     rw[e]at h2;exact h2
    case measure=>simp[intOf];omega
  . obtain rfl:k=n:=by omega
    clear hG hB hlt hk;have HG1:Hi (Blk wr (w.heap.size+1) 4 (bs (k*k) (tabB k (rounds diag f g m 0)))):=by
     have h2:=HG.u;have e:bs (k*k) (tabB k fun x y=>decide (x=y)&&decide (x<k))=bs (k*k) (tabB k (rounds diag f g m 0)):=qev fun x y hx hy=>by
      simp only[rounds,diag];rw[Zk];simp only[Yf,Yh];omega
     rw[e]at h2;exact h2
    clear HG;go_wp2_with fail;go_loopw [6] (fun i wr'=>∃r:Nat,r<=k/\i=J6 r/\Blk wr' (w.heap.size+1) 4 (bs (k*k) (tabB k (rounds diag f g m r)))/\Below (w.heap.size+1) W wr') (fun i _=>k - (intOf i).toNat)
    case atStart=>exact⟨0,nZ _,rfl,HG1.u,HB.u⟩
    case round =>
     clear HG1 HB;obtain⟨r,hr,rfl,hG,hB⟩:=hrel;have HG:=h_ hG;have HB:=h_ hB;clear hG hB;by_cases hlr:r<k
     . go_wp2_with fail
       have HG1:Hi (Blk wr (w.heap.size+1) 4 (bs (k*k) (tabB k (pass (rounds diag f g m r) f g 0)))):=HG.u;clear HG;go_loopw [7] (fun i wr'=>∃j:Nat,j<=m/\i=J6 j/\Blk wr' (w.heap.size+1) 4 (bs (k*k) (tabB k (pass (rounds diag f g m r) f g j)))/\Below (w.heap.size+1) W wr') (fun i _=>m - (intOf i).toNat)
       case atStart=>exact⟨0,nZ _,rfl,HG1.u,HB.u⟩
       case round =>
        clear HG1 HB;obtain⟨j,hj,rfl,hG,hB⟩:=hrel;have HG:=h_ hG;have HB:=h_ hB;clear hG hB;obtain⟨T,hT⟩:=Nq (pass (rounds diag f g m r) f g j);rw[hT]at HG;have HT:=h_ hT;clear hT;by_cases hlj:j<m
        . have P2:=HP.u.mono (HB.u.mono hsW)
          obtain⟨b,off,rfl,hl,hc1,hc2⟩:=P2 j hlj;dsimp only at hc1 hc2;have flo:=hf j hlj;have ghi:=hg j hlj;obtain⟨lo,hlo⟩:=Nq (f j);obtain⟨hi,hhi⟩:=Nq (g j);rw[hlo]at hc1 flo;rw[hhi]at hc2 ghi;have HLH:=h_ (And.intro hlo hhi);clear hlo hhi;have o2:=(H0.u.mono HB.u (Om _)).cell 1;simp only[Y6,Yg]at o2;clear P2;go_wp2_with fail;have HG1:Hi (Blk wr (w.heap.size+1) 4 (bs (k*k) (tabB k (updTo T lo hi 0)))):=by
           have h2:=HG.u;rw[qev (T':=updTo T lo hi 0) fun x y _ _=>by simp[updTo]]at h2;exact h2
          clear HG hc1 hc2 o2;go_loopw [10] (fun i wr'=>∃q:Nat,q<=k/\i=J6 q/\Blk wr' (w.heap.size+1) 4 (bs (k*k) (tabB k (updTo T lo hi q)))/\Below (w.heap.size+1) W wr') (fun i _=>k - (intOf i).toNat)
          case atStart=>exact⟨0,nZ _,rfl,HG1.u,HB.u⟩
          case round =>
           clear HG1 HB;obtain⟨q,hq,rfl,hG,hB⟩:=hrel;have HG:=h_ hG;have HB:=h_ hB;clear hB;by_cases hlq:q<k
           . have l0:=idx_lt (n:=k) (x:=q) (y:=lo) (by omega) (by omega)
             have l1:0<=(q:Int)*k:=(by rw[<- Zd];omega);have l2:(q:Int)*k+lo<((k*k:Nat):Int):=(by rw[<- Zd];omega);have l3:(q:Int)*k<=1024:=(by rw[<- Zd];omega);have p0:=idx_lt (n:=k) (x:=q) (y:=hi) (by omega) (by omega);have p1:0<=(q:Int)*k:=(by rw[<- Zd];omega);have p2:(q:Int)*k+hi<((k*k:Nat):Int):=(by rw[<- Zd];omega);have p3:(q:Int)*k<=1024:=(by rw[<- Zd];omega);have cl:=hG.cell (q*k+lo);have ch:=hG.cell (q*k+hi);have fh:=hG.free (q*k+hi);have el:(bs (k*k) (tabB k (updTo T lo hi q)))[q*k+lo]? = some (.bool (updTo T lo hi q q lo)):=by
              simp only[bs,Zg,List.getElem?_range l0,Option.map_some,qo4 _ flo]
             have eh:(bs (k*k) (tabB k (updTo T lo hi q)))[q*k+hi]? = some (.bool (updTo T lo hi q q hi)):=by
              simp only[bs,Zg,List.getElem?_range p0,Option.map_some,qo4 _ ghi]
             have e3:updTo T lo hi q q lo=T q lo:=(by simp[updTo]);rw[el,e3]at cl;rw[eh]at ch;obtain⟨vh,hvh⟩:=Nq (updTo T lo hi q q hi);rw[hvh]at ch;clear hG el eh e3 hvh;cases hT:T q lo
             . rw[hT]at cl
               go_wp2;go_roundw
               case rel =>
                refine⟨q+1,by omega,by go_num,?_,HB.u⟩;have h2:=HG.u;rw[qev (T':=updTo T lo hi (q+1)) fun x y _ _=>by
                 simp only[updTo];by_cases e:x=q
                 . subst e;simp[hT]
                 . congr 2;rw[decide_eq_decide];omega]at h2
                exact h2
               case measure=>simp[intOf];omega
             . rw[hT]at cl
               go_wp2;go_roundw
               case rel =>
                refine⟨q+1,by omega,by go_num,?_,HB.u.setCell (nR _) _⟩;have h2:=HG.u.set (q*k+hi) (.bool true);rw[qo5 _ ghi]at h2;rw[qev (T':=updTo T lo hi (q+1)) fun x y _ _=>by
                 simp only[updTo];by_cases e:x=q
                 . subst e;simp[hT]
                 . rw[show decide (x=q)=false from Yb e,Bool.false_and,Bool.or_false];congr 2;rw[decide_eq_decide];omega]at h2
                exact h2
               case measure=>simp[intOf];omega
           . obtain rfl:q=k:=by omega
             clear hG;go_wp2_with fail;go_roundw
             case rel =>
              refine⟨j+1,by omega,by go_num,?_,HB.u⟩;have h2:=HG.u;rw[qev (T':=pass (rounds diag f g m r) f g (j+1)) fun x y hx _=>by
               rw[pass,HT.u,HLH.u.1,HLH.u.2];simp[updTo,upd,hx]]at h2
              exact h2
             case measure=>simp[intOf];omega
        . obtain rfl:j=m:=by omega
          have o2:=(H0.u.mono HB.u (Om _)).cell 1;simp only[Y6,Yg]at o2;go_wp2_with fail;go_roundw
          case rel =>
           refine⟨r+1,by omega,by go_num,?_,HB.u⟩;rw[rounds,HT.u];exact HG.u
          case measure=>simp[intOf];omega
     . obtain rfl:r=k:=by omega
       have hZ:=HB0.u.trans (HB.u.mono (Vg _));have HZ:=h_ hZ;clear hZ;go_wp2;go_ret;exact⟨_,rfl,HG.u,Vg _,HZ.u⟩
end Go.Proofs.YtgojgjlninakjaaGreatDoor
namespace Go.Proofs.YtgojgjlninakjaaGreatDoor
section
variable {f g:Nat->Nat} {m n:Nat}
theorem qjg {T:Nat->Nat->Bool}{lo hi a b:Nat}(h:T a b=true):upd T lo hi a b=true:=by simp[upd,h]
theorem qdz {T:Nat->Nat->Bool}{a b i:Nat}:∀{j},i<=j->pass T f g i a b=true->pass T f g j a b=true:=by
 intro j
 induction j with
 | zero=>intro hi h;obtain rfl:i=0:=(by omega);exact h
 | succ j ih =>
  intro hi h;by_cases e:i=j+1
  . subst e;exact h
  . exact qjg (ih (by omega) h)
theorem q74 {T:Nat->Nat->Bool}{a k j:Nat}(hk:k<j)(h:T a (f k)=true):pass T f g j a (g k)=true:=by
 refine qdz (i:=k+1) (by omega) ?_
 have h1:pass T f g k a (f k)=true:=qdz (i:=0) (by omega) h
 rw[pass];simp[upd,h1]
def ClosedRow (f g:Nat->Nat)(m:Nat)(T:Nat->Nat->Bool)(a:Nat):Prop:=∀k,k<m->T a (f k)=true->T a (g k)=true
theorem q73 {T:Nat->Nat->Bool}{a:Nat}(h:ClosedRow f g m T a):∀j,j<=m->∀b,pass T f g j a b=T a b:=by
 intro j
 induction j with
 | zero=>intro _ b;rfl
 | succ j ih =>
  intro hj b;rw[pass,upd,ih (by omega),ih (by omega)];by_cases e:b=g j
  . subst e
    cases h1:T a (f j)
    . simp
    . rw[h j (by omega) h1];rfl
  . rw[show decide (b=g j)=false from Yb e];simp
def cnt (n:Nat)(T:Nat->Nat->Bool)(a:Nat):Nat:=((List.range n).filter (T a)).length
theorem qck {p q:Nat->Bool}(l:List Nat)(h:∀x,p x=true->q x=true):(l.filter p).length<=(l.filter q).length:=by
 induction l with
 | nil=>simp
 | cons x r ih =>
  simp only[List.filter_cons];cases hp:p x
  . cases hq:q x
    . simpa using ih
    . simp;omega
  . rw[h x hp];simpa using ih
theorem qcl {p q:Nat->Bool}(l:List Nat)(h:∀x,p x=true->q x=true){y:Nat}(hy:y∈l)(h1:p y=false)(h2:q y=true):(l.filter p).length<(l.filter q).length:=by
 induction l with
 | nil=>cases hy
 | cons x r ih =>
  simp only[List.filter_cons];rcases Zp.1 hy with rfl | hy
  . rw[h1,h2]
    have:=qck r h;simp;omega
  . have:=ih hy
    cases hp:p x
    . cases hq:q x
      . simpa using this
      . simp;omega
    . rw[h x hp];simpa using this
theorem q79 {T:Nat->Nat->Bool}{a b:Nat}:∀r,T a b=true->rounds T f g m r a b=true
 | 0,h=>h
 | r+1,h=>qdz (i:=0) (by omega) (q79 r h)
theorem q4s (hg:∀k,k<m->g k<n){a:Nat}(ha:a<n):∀r,ClosedRow f g m (rounds diag f g m r) a∨r+1<=cnt n (rounds diag f g m r) a
 | 0=>by
  right;have:(List.filter (fun _=>false) (List.range n)).length<cnt n (rounds diag f g m 0) a:=qcl (y:=a) _ (fun x h=>by cases h) (by simpa using ha) rfl (by simp[rounds,diag]);omega
 | r+1=>by
  rcases q4s hg ha r with h | h
  . left
    intro k hk h1;rw[rounds,q73 h m (nR _)]at h1⊢;exact h k hk h1
  . by_cases hc:ClosedRow f g m (rounds diag f g m r) a
    . left
      intro k hk h1;rw[rounds,q73 hc m (nR _)]at h1⊢;exact hc k hk h1
    . right
      have:∃k,k<m/\rounds diag f g m r a (f k)=true/\¬ rounds diag f g m r a (g k)=true:=by
       apply Classical.byContradiction;intro hn;exact hc fun k hk h1=>Classical.byContradiction fun h2=>hn ⟨k,hk,h1,h2⟩
      obtain⟨k,hk,h1,h2⟩:=this;have:cnt n (rounds diag f g m r) a<cnt n (rounds diag f g m (r+1)) a :=
       qcl (y:=g k) _ (fun x hx=>qdz (i:=0) (by omega) hx) (by simpa using hg k hk) (by simpa using h2) (q74 hk h1)
      omega
theorem q32 (hg:∀k,k<m->g k<n){a:Nat}(ha:a<n):ClosedRow f g m (rounds diag f g m n) a:=by
 rcases q4s (f:=f) (m:=m) hg ha n with h | h
 . exact h
 . have:cnt n (rounds diag f g m n) a<=n:=by
    have:=List.length_filter_le (rounds diag f g m n a) (List.range n);simpa [cnt] using this
   omega
def PairBits (u:Nat->Nat)(f g:Nat->Nat)(m:Nat):Prop:=∀x,x<32->∀y,(u x).testBit y=true ↔ ∃k,k<m/\f k=x/\g k=y
theorem qa6 {u:Nat->Nat}(hu:PairBits u f g m)(hf:∀k,k<m->f k<32){T:Nat->Nat->Bool}{a:Nat}(h:∀b,T a b=true->Reach u a b):∀j,j<=m->∀b,pass T f g j a b=true->Reach u a b
 | 0,_,b,hb=>h b hb
 | j+1,hj,b,hb=>by
  rw[pass,upd]at hb;simp only[Zj,Yf,Yh]at hb;rcases hb with hb | ⟨rfl,hb⟩
  . exact qa6 hu hf h j (by omega) b hb
  . exact(qa6 hu hf h j (by omega) _ hb).step (hf j (by omega)) ((hu _ (hf j (by omega)) _).2 ⟨j,by omega,rfl,rfl⟩)
theorem q4t {u:Nat->Nat}(hu:PairBits u f g m)(hf:∀k,k<m->f k<32){a:Nat}:∀r b,rounds diag f g m r a b=true->Reach u a b
 | 0,b,h=>by
  simp only[rounds,diag,Yh]at h;subst h;exact Reach.refl _ _
 | r+1,b,h=>qa6 hu hf (fun b hb=>q4t hu hf r b hb) m (nR _) b h
theorem q5g {u:Nat->Nat}(hn:n<=32)(hu:PairBits u f g m)(hf:∀k,k<m->f k<n)(hg:∀k,k<m->g k<n){a b:Nat}(ha:a<n):rounds diag f g m n a b=true ↔ Reach u a b:=by
 refine⟨q4t hu (fun k hk=>by have:=hf k hk;omega) n b,fun h=>?_⟩
 refine(h (fun x=>x<n/\rounds diag f g m n a x=true) ⟨ha,q79 n (by simp[diag])⟩ ?_).2
 rintro x y ⟨hx,hT⟩ hx32 hy
 obtain⟨k,hk,rfl,rfl⟩:=(hu x hx32 y).1 hy
 exact⟨hg k hk,q32 hg ha k hk hT⟩
end
end Go.Proofs.YtgojgjlninakjaaGreatDoor
namespace Go.Proofs.YtgojgjlninakjaaGreatDoor
open Go Go.RowKit
def firstN (p:Nat->Bool)(n:Nat):Int:=match (List.range n).find? p with
 | some c=>c
 | none=>-1
theorem qcm {p:Nat->Bool}{n k:Nat}(hk:k<n)(h:∀c,c<k->p c=false)(hp:p k=true):firstN p n=k:=by
 have:(List.range n).find? p=some k:=by
  rw[List.find?_range_eq_some];exact⟨hp,by simpa using hk,fun j hj=>by simp[h j hj]⟩
 rw[firstN,this]
theorem q8n {p:Nat->Bool}{n:Nat}(h:∀c,c<n->p c=false):firstN p n = -1:=by
 have:(List.range n).find? p=none:=by
  rw[List.find?_eq_none];intro x hx;simp[h x (List.mem_range.1 hx)]
 rw[firstN,this]
theorem q5v (p:Nat->Bool)(n:Nat):(∃c:Nat,c<n/\firstN p n=c/\p c=true)∨(firstN p n = -1/\∀c,c<n->p c=false):=by
 cases e:(List.range n).find? p with
 | some c =>
  left;have h1:=List.find?_some e;have h2:=List.mem_of_find?_eq_some e;exact⟨c,Y9.1 h2,by rw[firstN,e],h1⟩
 | none =>
  right;refine⟨by rw[firstN,e],fun c hc=>?_⟩;have:=(List.find?_eq_none.1 e) c (Y9.2 hc);simpa using this
theorem snocP {p:Nat->Bool}{k:Nat}(h:∀c,c<k->p c=false)(hk:p k=false):∀c,c<k+1->p c=false:=fun c hc=>by
 by_cases e:c=k
 . rw[e];exact hk
 . exact h c (by omega)
theorem q95 (t:Option Addr)(m cap n a b:Nat)(f:Nat->Bool)(w:World)(hm:n*n<=m)(hn:n<=32)(ha:a<n)(hb:b<n)(ht:Bools w t m f)(r:Int)(hr:firstN (isJoin f n a b) n=r) :
 Calls Tryz.prog 104 #[.slice t m cap,J6 n,J6 a,J6 b] w fun e w'=>e=.returned (J6 r)/\w'=w:=by
 have HM:=h_ hm;have HR:=h_ hr;clear hm hr
 go_enter Tryz.func104,Tryz.ntmps104
 go_wp2
 go_loop [9] (fun i=>∃k:Nat,k<=n/\i=J6 k/\∀c,c<k->isJoin f n a b c=false) (fun i=>n - (intOf i).toNat)
 case atStart=>exact⟨0,nZ _,rfl,fun c h=>absurd h (nL _)⟩
 case round =>
  obtain⟨k,hk,rfl,hall⟩:=hrel;have HA:=h_ hall;clear hall;by_cases hlt:k<n
  . cases hj:isJoin f n a b k
    . go_wp2_with (go_at_call 136;refine(q42 _ _ _ _ _ _ _ f _ HM.u hn ha hb hlt ht).mono ?_;rintro e w' ⟨rfl,rfl⟩;rw[hj])
      go_round
      case rel=>exact⟨k+1,by omega,by go_num,snocP HA.u hj⟩
      case measure=>simp[intOf];omega
    . have hv:=qcm hlt HA.u hj
      rw[HR.u]at hv;subst hv;go_wp2_with (go_at_call 136;refine(q42 _ _ _ _ _ _ _ f _ HM.u hn ha hb hlt ht).mono ?_;rintro e w' ⟨rfl,rfl⟩;rw[hj]);go_ret;exact⟨rfl,rfl⟩
  . have hv:=q8n (p:=isJoin f n a b) (n:=n) fun c hc=>HA.u c (by omega)
    rw[HR.u]at hv;subst hv;go_wp2;go_ret;exact⟨rfl,rfl⟩
theorem q96 (t:Option Addr)(m cap n a b:Nat)(f:Nat->Bool)(w:World)(hm:n*n<=m)(hn:n<=32)(ha:a<n)(hb:b<n)(ht:Bools w t m f)(r:Int)(hr:firstN (isMeet f n a b) n=r) :
 Calls Tryz.prog 105 #[.slice t m cap,J6 n,J6 a,J6 b] w fun e w'=>e=.returned (J6 r)/\w'=w:=by
 have HM:=h_ hm;have HR:=h_ hr;clear hm hr
 go_enter Tryz.func105,Tryz.ntmps105
 go_wp2
 go_loop [9] (fun i=>∃k:Nat,k<=n/\i=J6 k/\∀c,c<k->isMeet f n a b c=false) (fun i=>n - (intOf i).toNat)
 case atStart=>exact⟨0,nZ _,rfl,fun c h=>absurd h (nL _)⟩
 case round =>
  obtain⟨k,hk,rfl,hall⟩:=hrel;have HA:=h_ hall;clear hall;by_cases hlt:k<n
  . cases hj:isMeet f n a b k
    . go_wp2_with (go_at_call 137;refine(q43 _ _ _ _ _ _ _ f _ HM.u hn ha hb hlt ht).mono ?_;rintro e w' ⟨rfl,rfl⟩;rw[hj])
      go_round
      case rel=>exact⟨k+1,by omega,by go_num,snocP HA.u hj⟩
      case measure=>simp[intOf];omega
    . have hv:=qcm hlt HA.u hj
      rw[HR.u]at hv;subst hv;go_wp2_with (go_at_call 137;refine(q43 _ _ _ _ _ _ _ f _ HM.u hn ha hb hlt ht).mono ?_;rintro e w' ⟨rfl,rfl⟩;rw[hj]);go_ret;exact⟨rfl,rfl⟩
  . have hv:=q8n (p:=isMeet f n a b) (n:=n) fun c hc=>HA.u c (by omega)
    rw[HR.u]at hv;subst hv;go_wp2;go_ret;exact⟨rfl,rfl⟩
end Go.Proofs.YtgojgjlninakjaaGreatDoor
namespace Go.Proofs.YtgojgjlninakjaaGreatDoor
open Go Go.RowKit Go.Shelf
attribute [local go_sem] Oper.semAt_some
def Least (g:Nat->Nat)(s:Nat)(v:Int):Prop:=(∃c:Nat,c<32/\v=(c:Int)/\s.testBit c=true/\minusN s (g c)=0)∨(v = -1/\∀c:Nat,s.testBit c=true->¬ minusN s (g c)=0)
theorem q9m (n:Nat)(g:Nat->Nat)(s:Nat)(w:World)(hg:∀a,a<32->g a<4294967296)(hs:s<4294967296)(ht:Tab w) :
 CallsIn Fence.wide n Tryz.prog 186 #[.agg (us g).toArray,.agg #[.int .u32 (s:Int)]] w fun e w'=>∃v,e=.returned (J6 v)/\Least g s v/\Below w.heap.size w w':=by
 refine callsIn_of_wp_marks Tryz.func186 rfl trivial ?_ rfl
 simp only[Tryz.ntmps186,Y8,Yl,Yt,Nat.reduceAdd,Nat.reduceSub,Vr,Vq,V5,Vt,Vn,Zm]
 gi_wp2_with fail
 refine callW ((q9j _ _).mono ?_)
 rintro e w1 ⟨rfl,rfl⟩
 gi_wp2_with fail
 have B0:=((Blk.new w 218 (us g).toArray).alloc (.cells #[.int .u32 (s:Int)] 216)).alloc (.cells #[J6 0] 3) |>.alloc (.cells #[.int .u32 (s:Int)] 216)
 have B1:=((Blk.new (w.alloc (.cells (us g).toArray 218)) 216 #[.int .u32 (s:Int)]).alloc (.cells #[J6 0] 3)).alloc (.cells #[.int .u32 (s:Int)] 216)
 have B2:=(Blk.new ((w.alloc (.cells (us g).toArray 218)).alloc (.cells #[.int .u32 (s:Int)] 216)) 3 #[J6 0]).alloc (.cells #[.int .u32 (s:Int)] 216)
 have B3:=Blk.new (((w.alloc (.cells (us g).toArray 218)).alloc (.cells #[.int .u32 (s:Int)] 216)).alloc (.cells #[J6 0] 3)) 216 #[.int .u32 (s:Int)]
 have BW:=below4 w (.cells (us g).toArray 218) (.cells #[.int .u32 (s:Int)] 216) (.cells #[J6 0] 3) (.cells #[.int .u32 (s:Int)] 216)
 simp only[Yk]at B1 B2 B3
 have T4:=ht.mono BW
 have z4:((((w.alloc (.cells (us g).toArray 218)).alloc (.cells #[.int .u32 (s:Int)] 216)).alloc (.cells #[J6 0] 3)).alloc (.cells #[.int .u32 (s:Int)] 216)).heap.size=w.heap.size+1+1+1+1:=by simp
 obtain⟨W4,hW4⟩:=Nq ((((w.alloc (.cells (us g).toArray 218)).alloc (.cells #[.int .u32 (s:Int)] 216)).alloc (.cells #[J6 0] 3)).alloc (.cells #[.int .u32 (s:Int)] 216))
 rw[hW4]at B0 B1 B2 B3 BW T4 z4⊢
 clear hW4
 refine qe2 (gf:=258) (lb:=#[J9 (w.heap.size+1+1+1) 0]) rfl (enters_of Tryz.func258 (by kernel_rfl) rfl)
  (q4b (w.heap.size+1+1+1) s W4 (fun _=>False) hs B3 T4 (fun h=>h)) (bR _ _) (fun _ h=>h.elim) rfl
  (fun pre W=>(∀c∈pre,¬ minusN s (g c)=0)/\Blk W w.heap.size 218 (us g)/\Blk W (w.heap.size+1) 216 [.int .u32 (s:Int)]/\Blk W (w.heap.size+1+1) 3 [J6 0]/\Below w.heap.size w W)
  (fun pre W=>∃c,c∈pre/\c<32/\minusN s (g c)=0/\Blk W (w.heap.size+1+1) 3 [J6 (c:Int)]/\Below w.heap.size w W)
  ?hI ?hIx ⟨fun _ h=>(by cases h),B0,B1,B2,BW⟩
  (fun x=>{ tmps:=#[.agg (us g).toArray,.agg #[.int .u32 (s:Int)],J9 w.heap.size 0,J9 (w.heap.size+1) 0,J9 (w.heap.size+1+1) 0,J6 (x:Int),.agg #[.int .u32 (s:Int)],.func (.func 258) #[] #[J9 (w.heap.size+1+1+1) 0],J6 (x:Int),undef,undef,undef,undef,undef,undef,undef],defers:=[] })
  ?assign ?body ?done ?stop
 case hI =>
  rintro pre W W' ⟨h1,h2,h3,h4,h5⟩ hb;rw[z4]at hb;exact⟨h1,h2.mono hb (by omega),h3.mono hb (by omega),h4.mono hb (by omega),h5.trans (hb.mono (by omega))⟩
 case hIx =>
  rintro pre W W' ⟨c,h1,h2,h3,h4,h5⟩ hb;rw[z4]at hb;exact⟨c,h1,h2,h3,h4.mono hb (by omega),h5.trans (hb.mono (by omega))⟩
 case assign =>
  intro m l x W K hK
  gi_wp2
  exact hK
 case body =>
  rintro m l pre x W ⟨h1,h2,h3,h4,h5⟩ ⟨hx32,hxs⟩;have hmix:Tryz.prog.follows .mixedOrders=true:=by kernel_rfl
  have cg:=h2.cell x;rw[us_get g hx32]at cg;have cs:=h3.cell 0;simp only[Yg]at cs;have cr:=h4.cell 0;have fr:=h4.free 0;simp only[Yg]at cr;have hgx:=hg x hx32;have x0i:(0:Int)<=x:=by omega
  have x1i:(x:Int)<32:=by omega
  have hlW:=h4.lt;have H1:=h_ h1;have H2:=h_ h2;have H3:=h_ h3;have H4:=h_ h4;have H5:=h_ h5;clear h1 h2 h3 h4 h5;have HXS:=h_ hxs;clear hxs;have hm:=qdg (t:=g x) hs;cases hz:(minusN s (g x)==0)
  . have HM:Hi (¬ minusN s (g x)=0):=by simpa [Hi] using hz
    gi_wp2_with fail
    gi_region_with_o (first | (refine callR ((qdh _ _ _ hs hgx).mono ?_);rintro e w' ⟨rfl,rfl⟩) | (refine callR ((qc9 _ _).mono ?_);rintro e w' ⟨rfl,rfl⟩))
    all_goals
     gi_wp2
     refine⟨keepsO (below4 _ _ _ _ _).drew,KeepX.of_below (below4 _ _ _ _ _).drew,fun c hc=>?_,H2.u.mono (below4 _ _ _ _ _).drew H2.u.lt,H3.u.mono (below4 _ _ _ _ _).drew H3.u.lt,H4.u.mono (below4 _ _ _ _ _).drew H4.u.lt,H5.u.trans ((below4 W _ _ _ _).drew.mono H5.u.size)⟩;rcases Ze.1 hc with h | h
     . exact H1.u c h
     . rw[Zi.1 h];exact HM.u
  . have HM:Hi (minusN s (g x)=0):=by simpa [Hi] using hz
    have K4:=H4.u.cell4 0;have F4:=H4.u.free4 0;simp only[Yg]at K4;gi_wp2_with fail
    gi_region_with_o (first | (refine callR ((qdh _ _ _ hs hgx).mono ?_);rintro e w' ⟨rfl,rfl⟩) | (refine callR ((qc9 _ _).mono ?_);rintro e w' ⟨rfl,rfl⟩))
    all_goals
     gi_wp2
     refine⟨(keepsO (below4 _ _ _ _ _)).trans ((KeepsOthers.setCell _ _ _).trans (KeepsOthers.drew _)),x,by simp,hx32,HM.u,?_,?_⟩
     . exact(H4.u.mono (below4 _ _ _ _ _) H4.u.lt).set 0 (J6 (x:Int))
     . exact((H5.u.trans ((below4 W _ _ _ _).mono H5.u.size)).setCell (p:=⟨w.heap.size+1+1,0,none⟩) (by simp;omega) _).drew
 case done =>
  rintro D xs W hD hS ⟨h1,h2,h3,h4,h5⟩ hK;have cr:=h4.cell 0;have fr:=h4.free 0;simp only[Yg]at cr;have H1:=h_ h1;have H4:=h_ h4;have H5:=h_ h5;have HK:=h_ hK;clear h1 h2 h3 h4 h5 hK;have HS:=h_ hS;clear hS
  gi_wp2
  have hK':=(KeepsOthers.setCell W ⟨w.heap.size+1+1,0,none⟩ (J6 (-1))).same D _ HK.u rfl;have hB':=(H4.u.set 0 (J6 (-1))).put (.deferred none) hK' rfl;refine⟨by simp,.inl ⟨_,_,rfl,run_takeDeferred hK',?_⟩⟩;have hc5:=hB'.cell 0;simp only[Yx,Yg]at hc5;refine⟨J6 (-1),?_,-1,rfl,.inr ⟨rfl,fun c hc=>H1.u c ((HS.u c).2 hc)⟩,?_⟩
  . simp[results,Tryz.f186,go_sem,hc5]
  . exact(H5.u.setCell (p:=⟨w.heap.size+1+1,0,none⟩) (by simp;omega) _).trans (qbh _ D _ (by omega))
 case stop =>
  rintro D pre W hD hSp ⟨c,h1,h2,h3,h4,h5⟩ hK;have HK:=h_ hK;have H4:=h_ h4;have H5:=h_ h5;have H3:=h_ h3;have HSp:=h_ hSp;clear h4 h5 h3 hK hSp
  gi_wp2
  refine⟨by simp,.inl ⟨_,_,rfl,run_takeDeferred HK.u,?_⟩⟩;have hc5:=(H4.u.put (.deferred none) HK.u rfl).cell 0;simp only[Yg]at hc5;refine⟨J6 (c:Int),?_,c,rfl,.inl ⟨c,h2,rfl,HSp.u c h1,H3.u⟩,?_⟩
  . simp[results,Tryz.f186,go_sem,hc5]
  . exact H5.u.trans (qbh _ D _ (by omega))
theorem q6n (g:Nat->Nat)(s:Nat)(w:World)(hg:∀a,a<32->g a<4294967296)(hs:s<4294967296)(ht:Tab w) :
 Calls Tryz.prog 186 #[.agg (us g).toArray,.agg #[.int .u32 (s:Int)]] w fun e w'=>∃v,e=.returned (J6 v)/\Least g s v/\Below w.heap.size w w' :=
 (callsIn_wide (n:=9)).1 (q9m 9 g s w hg hs ht)
end Go.Proofs.YtgojgjlninakjaaGreatDoor
namespace Go.Proofs.YtgojgjlninakjaaGreatDoor
open Go Go.RowKit
theorem qik {w:World}{b:Nat}{g:Nat->Nat}(hb:Blk w b 218 (us g)):(Instr.loadAt 218 (J9 b 0)).run Tryz.prog w=.ok (.agg (us g).toArray) w:=by
 simp only[Instr.loadAt,Instr.sureAddr,Sem.run_bind,Sem.run_pure,Result.andThen_ok,run_loadVar_row w b 218 218 (us g).toArray (0,0) _ hb Tryz.underlying218 rfl (qnr g)]
theorem Blk.range {w:World}{b:Nat}{t:TypeId}{cs:List Value}(h:Blk w b t cs):w.rangeAt b 0 cs:=fun j v hv=>by rw[Y7,h.cell,hv]
theorem len_us (g:Nat->Nat):(Tryz.prog.info? 218).map (·.size)=some (us g).length:=by rw[qef,qf6]
def Held (w':World)(B k j:Nat)(g:Nat->Nat):Prop:=Blk w' B 218 (us g)/\Tab w'/\w'.cell? ⟨B,k,none⟩=some (.int .u32 (g k:Int))/\w'.cell? ⟨B,j,none⟩=some (.int .u32 (g j:Int))/\w'.rangeAt B 0 (us g)
theorem Held.mono {w w':World}{B k j:Nat}{g:Nat->Nat}(h:Held w B k j g)(hb:Below w.heap.size w w'):Held w' B k j g :=
 have h0:=h.1.mono hb h.1.lt
 ⟨h0,h.2.1.mono hb,(hb.cell (p:=⟨B,k,none⟩) h.1.lt).trans h.2.2.1,(hb.cell (p:=⟨B,j,none⟩) h.1.lt).trans h.2.2.2.1,h0.range⟩
theorem _root_.Go.World.ownsRow.mono3 {w w':World}{base e g n cap:Nat}{xs:List Value}(h:w.ownsRow base e 1 (.slice (some ⟨g,0,none⟩) n cap) n xs)(hb:Below w.heap.size w w'):w'.ownsRow base e 1 (.slice (some ⟨g,0,none⟩) n cap) n xs :=
 h.kept (row:=none) ⟨hb.os,hb.tape,hb.output,hb.size,fun k hk _=>hb.block k hk⟩ (.inr (by simp[Value.ownBlock]))
def Entry (g:Nat->Nat)(a b:Nat)(v:Int):Prop:=Least g (commonN (g a) (g b)) v
theorem q83 (n:Nat)(g:Nat->Nat)(w:World)(h1:1<=n)(hn:n<=32)(hg:∀a,a<32->g a<4294967296)(ht:Tab w) :
 Calls Tryz.prog 183 #[.agg (us g).toArray,J6 n] w fun e w'=>Below w.heap.size w w' /\
  ((∃G F,e=.returned (.tuple #[.slice (some ⟨G,0,none⟩) (n*n) (n*n),.bool true])/\Blk w' G 3 (is (n*n) F)/\w.heap.size<=G/\∀a,a<n->∀b,b<n->0<=F (a*n+b)/\Entry g a b (F (a*n+b))) ∨
   (e=.returned (.tuple #[J7,.bool false])/\∃a b,a<n/\b<n/\Entry g a b (-1))):=by
 obtain⟨i0,hi,hz0,hz1,hz2⟩:=info_parts qgn
 have q1:(n:Int)*n<=1024:=by rw[<- Zd];have:=sq_le hn;omega
 have q0:0<=(n:Int)*n:=by rw[<- Zd];omega
 have q2:=sq_le hn
 have hbn:i0.bytes*(n*n)<=281474976710656:=by rw[hz2];omega
 have hC:((n:Int)*n)=((n*n:Nat):Int):=by simp
 have HC:=h_ hC;clear hC
 go_enter Tryz.func183,Tryz.ntmps183
 go_wp2_with (at_make;refine wpList_make_own _ rfl _ (.tmp 12) 77 rfl w.heap.size 3 i0 (J6 0) 1 Tryz.underlying77 hi hz0 hz1 .i64 .i64 _ (n*n) rfl rfl HC.u hbn (by unfold maxLen;omega) (by simp) ?_;intro w1 hown hgrow)
 have hb1:Below w.heap.size w w1:=((bR _ w).alloc (nR _) _).trans ((bR w.heap.size _).grown hgrow (by simp) (fun k e=>by cases e))
 have hB:=(Blk.new w 218 (us g).toArray).grown hgrow (by simp)
 have HO:=h_ hown;have HB1:=h_ hb1;have HB:=h_ hB
 clear hown hb1 hB hgrow hbn
 go_loopw [6,15] (fun v i wr=>∃(k:Nat) (F:Nat->Int),k<=n/\i=J6 k/\v=.slice (some ⟨w.heap.size+1,0,none⟩) (k*n) (n*n)/\wr.ownsRow w.heap.size 3 1 (.slice (some ⟨w.heap.size+1,0,none⟩) (k*n) (n*n)) (k*n) (is (k*n) F)/\Blk wr w.heap.size 218 (us g)/\Below w.heap.size w wr/\(∀a,a<k->∀b,b<n->0<=F (a*n+b)/\Entry g a b (F (a*n+b)))) (fun _ i _=>n - (intOf i).toNat)
 case atStart=>exact⟨0,fun _=>0,nZ _,rfl,by simp,by simpa [is] using HO.u,HB.u,HB1.u,fun a h=>absurd h (nL _)⟩
 case round =>
  clear HO HB HB1;obtain⟨k,F,hk,rfl,rfl,hown,hB,hW,hF⟩:=hrel;have HO:=h_ hown;have HB:=h_ hB;have HW:=h_ hW;have HF:=h_ hF;clear hown hB hW hF;by_cases hlt:k<n
  . go_wp2_with fail
    go_loopw [6,19] (fun v i wr=>∃(j:Nat) (F:Nat->Int),j<=n/\i=J6 j/\v=.slice (some ⟨w.heap.size+1,0,none⟩) (k*n+j) (n*n)/\wr.ownsRow w.heap.size 3 1 (.slice (some ⟨w.heap.size+1,0,none⟩) (k*n+j) (n*n)) (k*n+j) (is (k*n+j) F)/\Blk wr w.heap.size 218 (us g)/\Below w.heap.size w wr/\(∀a,a<k->∀b,b<n->0<=F (a*n+b)/\Entry g a b (F (a*n+b)))/\(∀b,b<j->0<=F (k*n+b)/\Entry g k b (F (k*n+b)))) (fun _ i _=>n - (intOf i).toNat)
    case atStart=>exact⟨0,F,nZ _,rfl,by simp,by simpa using HO.u,HB.u,HW.u,HF.u,fun b h=>absurd h (nL _)⟩
    case round =>
     clear HO HB HW HF;obtain⟨j,F,hj,rfl,rfl,hown,hB,hW,hF,hG⟩:=hrel;have HO:=h_ hown;have HB:=h_ hB;have HW:=h_ hW;have HF:=h_ hF;have HG:=h_ hG;by_cases hlj:j<n
     . have k32:k<32:=by omega
       have j32:j<32:=(by omega);have ck:=hB.cell k;have cj:=hB.cell j;rw[us_get _ k32]at ck;rw[us_get _ j32]at cj;have gk:=hg k k32;have gj:=hg j j32;have gc:=q89 (t:=g j) gk;have l0:=hB.lt;have hT:=ht.mono hW;have S0:Hi (Held wr w.heap.size k j g):=⟨hB,hT,ck,cj,hB.range⟩;have hu56:=Tryz.underlying218;have hl56:=len_us g;have k0i:(0:Int)<=k:=(by omega);have k1i:(k:Int)<32:=(by omega);have j0i:(0:Int)<=j:=(by omega);have j1i:(j:Int)<32:=(by omega);clear hown hB hW hF hG hT ck cj;go_wp2_with fail;go_region_held3 (fun w'=>Blk w' w.heap.size 218 (us g)/\Tab w'/\w'.cell? ⟨w.heap.size,k,none⟩=some (.int .u32 (g k:Int))/\w'.cell? ⟨w.heap.size,j,none⟩=some (.int .u32 (g j:Int))/\w'.rangeAt w.heap.size 0 (us g)) (first | exact S0.u | exact S2.u | exact S3.u) (first | (go_at_call 226;refine(q8a _ _ _ gk gj).mono ?_;rintro e w2 ⟨rfl,hb2⟩;have S2:Hi (Held w2 w.heap.size k j g):=S0.u.mono (q29 hb2);replace hb2:=h_ (q29 hb2)) | (go_at_call 186;refine(q6n g _ _ hg gc S2.u.2.1).mono ?_;rintro e w3 ⟨v,rfl,hv,hb3⟩;have S3:Hi (Held w3 w.heap.size k j g):=S2.u.mono hb3;replace hb3:=h_ (hb2.u.trans (hb3.mono hb2.u.size));replace hv:=h_ hv));have HV:Hi (Entry g k j v):=hv;have HW3:Hi (Below wr.heap.size wr w3):=hb3;have own3:=HO.u.mono3 HW3.u;have hB3:=S3.u.1;have hv0:v = -1∨0<=v:=by
        rcases HV.u with ⟨c,-,rfl,-⟩ | ⟨rfl,-⟩
        . exact .inr (by omega)
        . exact .inl rfl
       have hlen:=idx_lt hlt hlj;have hWW:=HW.u.trans (HW3.u.mono HW.u.size);have HO3:=h_ own3;have HB3:=h_ hB3;have HWW:=h_ hWW;clear own3 hB3 hWW hv hb3 hb2 S0 S2 S3 hu56 hl56;rcases hv0 with rfl | hv0
       . have HX:Hi (∃a b,a<n/\b<n/\Entry g a b (-1)):=⟨k,j,hlt,hlj,HV.u⟩
         go_wp2
         go_ret2
         exact⟨HWW.u,.inr ⟨rfl,HX.u⟩⟩
       . go_wp2_with (at_builtin;refine wpList_append_fits _ rfl _ _ 77 rfl w.heap.size 3 i0 1 Tryz.underlying77 hi hz1 (w.heap.size+1) (k*n+j) (n*n) _ rfl (HO3.u.alloc _) ⟨w3.heap.size,0,none⟩ 1 1 [J6 v] rfl rfl ?c1 (by simp[Value.oneCell']) hlen ?_)
         case c1 =>
          intro q u hq
          match q,hq with
          | 0,hq=>simp at hq;subst hq;simp[Addr.add]
         . intro w4 hown4 hgrow4
           have hB4:=(HB3.u.alloc (.cells #[J6 v] 3)).grown hgrow4 (by simp);have hW4:=(HWW.u.alloc HWW.u.size (.cells #[J6 v] 3)).grown hgrow4 (by have:=HWW.u.size;simp;omega) (fun q e=>by cases e;omega);have HO4:=h_ hown4;have HB4:=h_ hB4;have HW4:=h_ hW4;clear hown4 hgrow4 hB4 hW4;go_wp2;go_roundw
           case rel =>
            refine⟨j+1,fun i=>if i=k*n+j then v else F i,by omega,by go_num,rfl,?_,HB4.u,HW4.u,fun a ha b hb=>?_,fun b hb=>?_⟩
            . have e:is (k*n+(j+1)) (fun i=>if i=k*n+j then v else F i)=is (k*n+j) F++[J6 v]:=by
               rw[<- Nat.add_assoc,qli];simp only[if_true]
               congr 1
               unfold is;refine Zo fun q hq=>?_;simp only[Yn (show ¬ q=k*n+j by have:=Y9.1 hq;omega)]
              rw[e];exact HO4.u
            . have:¬ a*n+b=k*n+j:=by
               have h2:(a+1)*n<=k*n:=Vd _ ha;rw[Zx]at h2;omega
              simp only[Yn this];exact HF.u a ha b hb
            . by_cases e:b=j
              . subst e;simp only[if_true];exact⟨hv0,HV.u⟩
              . simp only[Yn (show ¬ k*n+b=k*n+j by omega)]
                exact HG.u b (by omega)
           case measure=>simp[intOf];omega
     . obtain rfl:j=n:=by omega
       clear hown hB hW hF hG;go_wp2_with fail;go_roundw
       case rel =>
        refine⟨k+1,F,by omega,by go_num,by rw[Zx],by rw[Zx];exact HO.u,HB.u,HW.u,fun a ha=>?_⟩;by_cases e:a=k
        . subst e;exact HG.u
        . exact HF.u a (by omega)
       case measure=>simp[intOf];omega
  . obtain rfl:k=n:=by omega
    go_wp2
    go_ret2
    exact⟨HW.u,.inl ⟨_,F,rfl,Blk.of_owns HO.u,by omega,HF.u⟩⟩
section
variable {md:Region.Mode} {ops:Array Oper} {Q:Exit->Act->World->Prop} {S:World->Prop} {o:Oper} {a:Act}
theorem q7u (hw:Region.wanted o (yielded ops a.tmps)=true)(x:Operand)(ho:o.op=.load 218 x)(b:Nat)(g:Nat->Nat)(hx:a.eval x=J9 b 0)(hS:∀w,S w->Blk w b 218 (us g)):YieldsIf Tryz.prog ops S o (.agg (us g).toArray) a :=
 .inl ⟨hw,fun w h=>by simp only[execOp,ho,hx,Sem.run_bind,Sem.run_pure,qik (hS w h),Result.andThen_ok]⟩
theorem q7t (hw:Region.wanted o (yielded ops a.tmps)=true)(x:Operand)(v:Value)(ho:o.op=.move x)(hx:a.eval x=v):YieldsIf Tryz.prog ops S o v a :=
 .inl ⟨hw,fun w _=>by rw[BigFrame.run_move x ho,hx]⟩
theorem qb9 (hw:Region.wanted o (yielded ops a.tmps)=true)(x:Operand)(ho:o.op=.load 216 x)(b off:Nat)(v:Value)(hx:a.eval x=J9 b off)(hS:∀w,S w->w.cell? ⟨b,off,none⟩=some v):YieldsIf Tryz.prog ops S o (.agg #[v]) a :=
 .inl ⟨hw,fun w h=>by have h':=hS w h;simp only[execOp,ho,hx];simp[go_sem,h']⟩
theorem qi0 {a:Act}{o:Oper}{d:Tmp}{v:Value}(h:o.dst=some d):a.put o.dst v = { tmps:=a.tmps.setIfInBounds d v,defers:=a.defers }:=by rw[h];rfl
theorem take {i:Nat}{v:Value}{fuel:Nat}{listed:Array Bool}{w:World}(d:Tmp)(hi:ops[i]? = some o)(hd:o.dst=some d)(hs:Region.noSelect ops=true)(hf:Region.free md ops listed i=true)(hr:(Region.ready md ops listed).contains i=true)
 (hQ:∀c (b:Act) (t:Array Value) w,Q (.panic c) { tmps:=t,defers:=b.defers } w->Q (.panic c) b w) (hy:YieldsIf Tryz.prog ops S o v a) (hS:S w) (h:wpAnyH Tryz.prog md ops Q S fuel (listed.setIfInBounds i true) { tmps:=a.tmps.setIfInBounds d v,defers:=a.defers } w):wpAnyH Tryz.prog md ops Q S (fuel+1) listed a w :=
 wpAnyH_take hi hs hf hr (fun c a w h=>hQ c a _ w (by rw[qi0 hd]at h;exact h)) hy hS (by rw[qi0 hd];exact h)
theorem callH {i:Nat}{fuel:Nat}{listed:Array Bool}{w:World}{f:FuncId}{args:Array Value}{R:Value->World->Prop}(d:Tmp)(hi:ops[i]? = some o)(hd:o.dst=some d)(hw:Region.wanted o (yielded ops a.tmps)=true)(hr:Region.ready md ops listed=[i])
 (hrun:(execOp a.eval o).run Tryz.prog w=.ok (.enter f args) w) (hc:Calls Tryz.prog f args w fun e w'=>∃v,e=.returned v/\R v w')
 (h:∀v w',R v w'->S w'/\wpAnyH Tryz.prog md ops Q S fuel (listed.setIfInBounds i true) { tmps:=a.tmps.setIfInBounds d v,defers:=a.defers } w'):wpAnyH Tryz.prog md ops Q S (fuel+1) listed a w:=by
 refine wpAnyH_ready hr (by simp) (AllReadyH.cons hi (fun K hK=>?_) AllReadyH.nil)
 rw[Yv hw]
 unfold Oper.wp
 rw[hrun,Oper.upon_enter]
 refine hc.mono ?_
 rintro e w' ⟨v,rfl,hR⟩
 obtain⟨h1,h2⟩:=h v w' hR
 show K (a.put o.dst v) w'
 rw[qi0 hd]
 exact hK.out _ _ h1 (fun _=>h2)
theorem runH {i:Nat}{fuel:Nat}{listed:Array Bool}{w w':World}{v:Next}(hi:ops[i]? = some o)(hw:Region.wanted o (yielded ops a.tmps)=true)(hr:Region.ready md ops listed=[i])
 (hd:o.dst=none) (hrun:(execOp a.eval o).run Tryz.prog w=.ok v w') (hv:v=.skip) (hS:S w') (h:wpAnyH Tryz.prog md ops Q S fuel (listed.setIfInBounds i true) a w'):wpAnyH Tryz.prog md ops Q S (fuel+1) listed a w:=by
 subst hv
 refine wpAnyH_ready hr (by simp) (AllReadyH.cons hi (fun K hK=>?_) AllReadyH.nil)
 rw[Yv hw]
 unfold Oper.wp
 rw[hrun,Oper.upon_skip,hd]
 exact hK.out _ _ hS (fun _=>h)
end
def rowP (f:Nat->Bool)(n bt tp a:Nat):Prop :=
 f (a*n+a)=true/\f (bt*n+a)=true/\f (a*n+tp)=true /\
  ∀b,b<n->¬ (a≠b/\f (a*n+b)=true/\f (b*n+a)=true)/\∀c,c<n->f (a*n+b)=true->f (b*n+c)=true->f (a*n+c)=true
def entP (f:Nat->Bool)(g h:Nat->Int)(n a b:Nat):Prop :=
 ∃j m:Nat,g (a*n+b)=j/\h (a*n+b)=m/\j<n/\m<n/\isJoinP f n a b j/\isMeetP f n a b m
structure ValidP (N:Int)(n1 n2 n3:Nat)(f:Nat->Bool)(g h:Nat->Int)(bot top:Int)(n bt tp:Nat):Prop where
 hN:N=n
 h1:1<=n
 h32:n<=32
 l1:n1=n*n
 l2:n2=n*n
 l3:n3=n*n
 hb:bot=bt
 ht:top=tp
 bb:bt<n
 tt:tp<n
 rows:∀a,a<n->rowP f n bt tp a
 ents:∀a,a<n->∀b,b<n->entP f g h n a b
def Valid (N:Int)(n1 n2 n3:Nat)(f:Nat->Bool)(g h:Nat->Int)(bot top:Int):Prop:=∃n bt tp,ValidP N n1 n2 n3 f g h bot top n bt tp
theorem q82 {V:Bool}{p:Prop}(hV:V=true ↔ p)(h:¬ p):V=false:=by
 cases V
 . rfl
 . exact absurd (hV.1 rfl) h
theorem q7q (n:Nat)(g d:Nat->Nat)(w:World)(hn:n<=32)(hg:∀a,a<32->g a<4294967296)(hd:∀a,a<32->d a<4294967296)(V:Bool)(hV:V=true ↔ ∃a,a<n/\¬ commonN (g a) (d a)=2 ^ a) :
 Calls Tryz.prog 182 #[J6 n,.agg (us g).toArray,.agg (us d).toArray] w fun e w'=>e=.returned (.bool V)/\Below w.heap.size w w':=by
 have HV:=h_ hV;clear hV
 have B0:=(Blk.new w 218 (us g).toArray).alloc (.cells (us d).toArray 218)
 have B1:=Blk.new (w.alloc (.cells (us g).toArray 218)) 218 (us d).toArray
 have BW:Below w.heap.size w ((w.alloc (.cells (us g).toArray 218)).alloc (.cells (us d).toArray 218)):=((bR _ _).alloc (nR _) _).alloc (by simp) _
 simp only[Yk]at B1
 have H0:=h_ B0;have H1:=h_ B1;have HW:=h_ BW;clear B0 B1 BW
 go_enter Tryz.func182,Tryz.ntmps182
 go_wp2_with fail
 go_loopw [9] (fun i wr=>∃k:Nat,k<=n/\i=J6 k/\(∀a,a<k->commonN (g a) (d a)=2 ^ a)/\Blk wr w.heap.size 218 (us g)/\Blk wr (w.heap.size+1) 218 (us d)/\Below w.heap.size w wr) (fun i _=>n - (intOf i).toNat)
 case atStart=>exact⟨0,nZ _,rfl,fun a h=>absurd h (nL _),H0.u,H1.u,HW.u⟩
 case round =>
  clear H0 H1 HW;obtain⟨k,hk,rfl,hall,b0,b1,bw⟩:=hrel;have HA:=h_ hall;clear hall;by_cases hlt:k<n
  . have k32:k<32:=by omega
    have c0:=b0.cell k;have c1:=b1.cell k;rw[us_get _ k32]at c0 c1;have l1:=b1.lt;have g1:=hg k k32;have d1:=hd k k32;have k0i:(0:Int)<=k:=(by omega);have k1i:(k:Int)<32:=(by omega);have he:=fun (a b:Int) w=>eq_set 9998 a b w;have H0:=h_ b0;have H1:=h_ b1;have HW:=h_ bw;clear b0 b1 bw;cases hz:((commonN (g k) (d k):Nat)==(2 ^ k:Nat))
    . have hz':(((commonN (g k) (d k):Nat):Int)==2 ^ k)=false:=by
       rw[show(2:Int) ^ k=((2 ^ k:Nat):Int) by simp];simp at hz⊢;exact_mod_cast hz
      have HT:Hi (V=true):=HV.u.2 ⟨k,hlt,by simpa using hz⟩;go_wp2_with fail
      go_region_with (first | (go_at_call 226;refine(q8a _ _ _ g1 d1).mono ?_;rintro e w' ⟨rfl,hb⟩;replace hb:Hi (Below wr.heap.size wr w'):=⟨hb.os,hb.tape,hb.output,hb.size,hb.block⟩) | (go_at_call 188;refine(qmq _ _ k32).mono ?_;rintro e w' ⟨rfl,rfl⟩))
      all_goals
       have hq:=‹Hi (Below wr.heap.size wr _)›;go_wp2;go_ret;exact⟨qia HT.u.symm,(HW.u.trans (hq.u.mono HW.u.size)).alloc (by have:=hq.u.size;have:=HW.u.size;omega) _⟩
    . have hz':(((commonN (g k) (d k):Nat):Int)==2 ^ k)=true:=by
       rw[show(2:Int) ^ k=((2 ^ k:Nat):Int) by simp];simp at hz⊢;exact_mod_cast hz
      have HS:Hi (∀a,a<k+1->commonN (g a) (d a)=2 ^ a):=qf5 (f:=fun a=>commonN (g a) (d a)) (g:=fun a=>2 ^ a) HA.u (by simpa using hz);go_wp2_with fail
      go_region_with (first | (go_at_call 226;refine(q8a _ _ _ g1 d1).mono ?_;rintro e w' ⟨rfl,hb⟩;replace hb:Hi (Below wr.heap.size wr w'):=⟨hb.os,hb.tape,hb.output,hb.size,hb.block⟩) | (go_at_call 188;refine(qmq _ _ k32).mono ?_;rintro e w' ⟨rfl,rfl⟩))
      all_goals
       have hq:=‹Hi (Below wr.heap.size wr _)›;go_wp2;go_roundw
       case rel=>exact⟨k+1,by omega,by go_num,HS.u,(H0.u.mono hq.u H0.u.lt).alloc _,(H1.u.mono hq.u H1.u.lt).alloc _,(HW.u.trans (hq.u.mono HW.u.size)).alloc (by have:=hq.u.size;have:=HW.u.size;omega) _⟩
       case measure=>simp[intOf];omega
  . have HF:Hi (V=false):=q82 HV.u fun⟨a,ha,hne⟩=>hne (HA.u a (by omega))
    clear b0 b1;have HW:=h_ bw;clear bw;go_wp2;go_ret;exact⟨qia HF.u.symm,HW.u⟩
end Go.Proofs.YtgojgjlninakjaaGreatDoor
