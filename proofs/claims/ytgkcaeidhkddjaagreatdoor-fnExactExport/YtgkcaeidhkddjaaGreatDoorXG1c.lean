import Derived.Test.YtgkcaeidhkddjaaGreatDoorXG1b
import Derived.Test.YtgkcaeidhkddjaaGreatDoorXGRa
set_option maxRecDepth 100000
set_option maxHeartbeats 20000000
namespace Go.Proofs.YtgkcaeidhkddjaaGreatDoor
open Go Go.RowKit
def upd (T:Nat->Nat->Bool) (lo hi:Nat):Nat->Nat->Bool:=fun a b=>T a b || (decide (b=hi)&&T a lo)
def updTo (T:Nat->Nat->Bool) (lo hi k:Nat):Nat->Nat->Bool:=fun a b=>T a b || (decide (a<k)&&(decide (b=hi)&&T a lo))
def pass (T:Nat->Nat->Bool) (f g:Nat->Nat):Nat->Nat->Nat->Bool
 | 0=>T
 | j+1=>upd (pass T f g j) (f j) (g j)
def rounds (T:Nat->Nat->Bool) (f g:Nat->Nat) (m:Nat):Nat->Nat->Nat->Bool
 | 0=>T
 | r+1=>pass (rounds T f g m r) f g m
def diag:Nat->Nat->Bool:=fun a b=>decide (a=b)
theorem qd8 {n:Nat} {T T':Nat->Nat->Bool} (h:∀ a b,a<n->b<n->T a b=T' a b):bs (n*n) (tabB n T)=bs (n*n) (tabB n T'):=by
 unfold bs
 refine List.map_congr_left fun i hi=>?_
 have hi':i<n*n:=List.mem_range.1 hi
 have hn:0<n:=Nat.pos_of_ne_zero fun e=>by subst e;simp at hi'
 unfold tabB
 rw [h _ _ (by rw [Nat.div_lt_iff_lt_mul hn];exact hi') (Nat.mod_lt _ hn)]
theorem qkt {n a b:Nat} (T:Nat->Nat->Bool) (hb:b<n):(bs (n*n) (tabB n T)).set (a*n+b) (.bool true)=bs (n*n) (tabB n fun x y=>T x y || (decide (x=a)&&decide (y=b))):=by
 refine q8m (by simp [qaa]) fun j hj=>?_
 rw [List.getElem?_set]
 by_cases e:a*n+b=j
 . subst e
   rw [if_pos rfl,if_pos (by rw [qaa];exact hj),qks _ hb]
   simp
 . rw [if_neg e]
   have hne:(decide (j / n=a)&&decide (j % n=b))=false:=by
    rw [Bool.and_eq_false_iff,decide_eq_false_iff_not,decide_eq_false_iff_not]
    by_cases h1:j / n=a
    . right;intro h2
      apply e
      have:=Nat.div_add_mod j n
      rw [h1,h2,Nat.mul_comm] at this
      exact this
    . exact .inl h1
   simp only [bs,tabB,hne,Bool.or_false]
   simp [hj]
theorem q2f (n:Nat) (a:Option Addr) (m c:Nat) (f g:Nat->Nat) (w:World) (h1:1<=n) (h32:n<=32) (hm:m<=256) (ha:Pairs w a m (fun k=>(f k:Int)) (fun k=>(g k:Int))) (hf:∀ k,k<m->f k<n) (hg:∀ k,k<m->g k<n) :
 Calls Tryz.prog 44 #[.agg #[.int .i64 n,.slice a m c]] w fun e w'=>∃ G,e=.returned (.slice (some ⟨G,0,none⟩) (n*n) (n*n))/\Blk w' G 4 (bs (n*n) (tabB n (rounds diag f g m n)))/\w.heap.size<=G/\Below w.heap.size w w':=by
 obtain ⟨i0,hi,hz0,hz1,hz2⟩:=info_parts qbg
 have q1:(n:Int)*n<=1024:=by rw [<- Int.natCast_mul];have:=sq_le h32;omega
 have q0:0<=(n:Int)*n:=by rw [<- Int.natCast_mul];omega
 have q2:=sq_le h32
 have hbn:i0.bytes*(n*n)<=281474976710656:=by rw [hz2];omega
 have hC:((n:Int)*n)=((n*n:Nat):Int):=by simp
 have HC:=h_ hC;clear hC
 have hB0:Below w.heap.size w (w.alloc (.cells #[.int .i64 n,.slice a m c] 100)):=(bR _ _).alloc (nR _) _
 have B0:=Blk.new w 100 #[.int .i64 n,.slice a m c]
 have PA:=ha.mono hB0
 have hs:(w.alloc (.cells #[.int .i64 n,.slice a m c] 100)).heap.size=w.heap.size+1:=by simp
 go_enter Tryz.func44,Tryz.ntmps44
 go_wp2_with (at_make;refine wpList_make_full _ rfl (.tmp 15) (.tmp 15) 59 rfl (w.heap.size+1) 4 i0 (.bool false) 1 Tryz.underlying59 hi hz0 hz1 .i64 .i64 _ _ (n*n) rfl rfl (u_ HC) (u_ HC) hbn (by unfold maxLen;omega) (by simp) ?_;intro w1 hown hgrow)
 rw [hs] at hown
 try rw [hs]
 have hb1:Below (w.heap.size+1) (w.alloc (.cells #[.int .i64 n,.slice a m c] 100)) w1:=(bR _ _).grown hgrow (by simp) (fun k e=>by cases e)
 have hG:=Blk.of_owns hown
 have hG0:Blk w1 (w.heap.size+1) 4 (bs (n*n) (tabB n fun x y=>decide (x=y)&&decide (x<0))):=by
  have e:List.replicate (n*n) (Value.bool false)=bs (n*n) (tabB n fun x y=>decide (x=y)&&decide (x<0)):=by
   refine q8m (by simp) fun j hj=>?_
   simp [tabB,hj]
  have hG':Blk w1 (w.heap.size+1) 4 (madeCells #[.bool false] (n*n)).toList:=by simpa [Value.cells] using hG
  rw [toList_madeCells_one] at hG'
  rw [<- e];exact hG'
 have HG:=h_ hG0;have HB:=h_ hb1;have HB0:=h_ hB0;have H0:=h_ B0;have HP:=h_ PA
 clear hown hgrow hG hG0 hb1 hbn hi hz0 hz1 hz2 hB0 B0 PA ha
 generalize hWW:w.alloc (.cells #[.int .i64 n,.slice a m c] 100)=W at *
 clear hWW
 have hnn:n*n<=1024:=q2
 have hsW:W.heap.size<=w.heap.size+1:=by rw [hs];exact nR _
 go_loopw [5] (fun i wr=>∃ k:Nat,k<=n/\i=.int .i64 k/\Blk wr (w.heap.size+1) 4 (bs (n*n) (tabB n fun x y=>decide (x=y)&&decide (x<k)))/\Below (w.heap.size+1) W wr) (fun i _=>n - (intOf i).toNat)
 case atStart=>exact ⟨0,nZ _,rfl,u_ HG,u_ HB⟩
 case round =>
  clear HG HB
  obtain ⟨k,hk,rfl,hG,hB⟩:=hrel
  have HG:=h_ hG;have HB:=h_ hB
  by_cases hlt:k<n
  . have i0:=idx_lt (n:=n) (x:=k) (y:=k) (by omega) (by omega)
    have i1:0<=(k:Int)*n:=by rw [<- Int.natCast_mul];omega
    have i2:(k:Int)*n+k<((n*n:Nat):Int):=by rw [<- Int.natCast_mul];omega
    have i3:(k:Int)*n<=1024:=by rw [<- Int.natCast_mul];omega
    have hcell:=hG.cell (k*n+k);have hfree:=hG.free (k*n+k)
    have e0:(bs (n*n) (tabB n fun x y=>decide (x=y)&&decide (x<k)))[k*n+k]? = some (.bool false):=by
     simp only [bs,List.getElem?_map,List.getElem?_range i0,Option.map_some,qks _ hlt];simp
    rw [e0] at hcell
    clear hG hB e0
    go_wp2
    go_roundw
    case rel =>
     refine ⟨k+1,by omega,by go_num,?_,(u_ HB).setCell (nR _) _⟩
     have h2:=(u_ HG).set (k*n+k) (.bool true)
     rw [qkt _ hlt] at h2
     have e:bs (n*n) (tabB n fun x y=>(decide (x=y)&&decide (x<k)) || (decide (x=k)&&decide (y=k)))=bs (n*n) (tabB n fun x y=>decide (x=y)&&decide (x<k+1)):=qd8 fun x y hx hy=>by
      rw [Bool.eq_iff_iff];simp only [Bool.or_eq_true,Bool.and_eq_true,decide_eq_true_eq];omega
     rw [e] at h2
     exact h2
    case measure=>simp [intOf];omega
  . obtain rfl:k=n:=by omega
    clear hG hB hlt hk
    have HG1:Hid (Blk wr (w.heap.size+1) 4 (bs (k*k) (tabB k (rounds diag f g m 0)))):=by
     have h2:=u_ HG
     have e:bs (k*k) (tabB k fun x y=>decide (x=y)&&decide (x<k))=bs (k*k) (tabB k (rounds diag f g m 0)):=qd8 fun x y hx hy=>by
      simp only [rounds,diag];rw [Bool.eq_iff_iff];simp only [Bool.and_eq_true,decide_eq_true_eq];omega
     rw [e] at h2;exact h2
    clear HG
    go_wp2_with fail
    go_loopw [6] (fun i wr'=>∃ r:Nat,r<=k/\i=.int .i64 r/\Blk wr' (w.heap.size+1) 4 (bs (k*k) (tabB k (rounds diag f g m r)))/\Below (w.heap.size+1) W wr') (fun i _=>k - (intOf i).toNat)
    case atStart=>exact ⟨0,nZ _,rfl,u_ HG1,u_ HB⟩
    case round =>
     clear HG1 HB
     obtain ⟨r,hr,rfl,hG,hB⟩:=hrel
     have HG:=h_ hG;have HB:=h_ hB
     clear hG hB
     by_cases hlr:r<k
     . go_wp2_with fail
       have HG1:Hid (Blk wr (w.heap.size+1) 4 (bs (k*k) (tabB k (pass (rounds diag f g m r) f g 0)))):=u_ HG
       clear HG
       go_loopw [7] (fun i wr'=>∃ j:Nat,j<=m/\i=.int .i64 j/\Blk wr' (w.heap.size+1) 4 (bs (k*k) (tabB k (pass (rounds diag f g m r) f g j)))/\Below (w.heap.size+1) W wr') (fun i _=>m - (intOf i).toNat)
       case atStart=>exact ⟨0,nZ _,rfl,u_ HG1,u_ HB⟩
       case round =>
        clear HG1 HB
        obtain ⟨j,hj,rfl,hG,hB⟩:=hrel
        have HG:=h_ hG;have HB:=h_ hB
        clear hG hB
        obtain ⟨T,hT⟩:∃ T,pass (rounds diag f g m r) f g j=T:=⟨_,rfl⟩
        rw [hT] at HG
        have HT:=h_ hT;clear hT
        by_cases hlj:j<m
        . have P2:=(u_ HP).mono ((u_ HB).mono hsW)
          obtain ⟨b,off,rfl,hl,hc1,hc2⟩:=P2 j hlj
          dsimp only at hc1 hc2
          have flo:=hf j hlj;have ghi:=hg j hlj
          obtain ⟨lo,hlo⟩:∃ lo,f j=lo:=⟨_,rfl⟩
          obtain ⟨hi,hhi⟩:∃ hi,g j=hi:=⟨_,rfl⟩
          rw [hlo] at hc1 flo;rw [hhi] at hc2 ghi
          have HLH:=h_ (And.intro hlo hhi);clear hlo hhi
          have o2:=((u_ H0).mono (u_ HB) (Nat.lt_succ_self _)).cell 1
          simp only [List.getElem?_cons_succ,List.getElem?_cons_zero] at o2
          clear P2
          go_wp2_with fail
          have HG1:Hid (Blk wr (w.heap.size+1) 4 (bs (k*k) (tabB k (updTo T lo hi 0)))):=by
           have h2:=u_ HG
           rw [qd8 (T':=updTo T lo hi 0) fun x y _ _=>by simp [updTo]] at h2
           exact h2
          clear HG hc1 hc2 o2
          go_loopw [10] (fun i wr'=>∃ q:Nat,q<=k/\i=.int .i64 q/\Blk wr' (w.heap.size+1) 4 (bs (k*k) (tabB k (updTo T lo hi q)))/\Below (w.heap.size+1) W wr') (fun i _=>k - (intOf i).toNat)
          case atStart=>exact ⟨0,nZ _,rfl,u_ HG1,u_ HB⟩
          case round =>
           clear HG1 HB
           obtain ⟨q,hq,rfl,hG,hB⟩:=hrel
           have HG:=h_ hG;have HB:=h_ hB
           clear hB
           by_cases hlq:q<k
           . have l0:=idx_lt (n:=k) (x:=q) (y:=lo) (by omega) (by omega)
             have l1:0<=(q:Int)*k:=by rw [<- Int.natCast_mul];omega
             have l2:(q:Int)*k+lo<((k*k:Nat):Int):=by rw [<- Int.natCast_mul];omega
             have l3:(q:Int)*k<=1024:=by rw [<- Int.natCast_mul];omega
             have p0:=idx_lt (n:=k) (x:=q) (y:=hi) (by omega) (by omega)
             have p1:0<=(q:Int)*k:=by rw [<- Int.natCast_mul];omega
             have p2:(q:Int)*k+hi<((k*k:Nat):Int):=by rw [<- Int.natCast_mul];omega
             have p3:(q:Int)*k<=1024:=by rw [<- Int.natCast_mul];omega
             have cl:=hG.cell (q*k+lo);have ch:=hG.cell (q*k+hi);have fh:=hG.free (q*k+hi)
             have el:(bs (k*k) (tabB k (updTo T lo hi q)))[q*k+lo]? = some (.bool (updTo T lo hi q q lo)):=by
              simp only [bs,List.getElem?_map,List.getElem?_range l0,Option.map_some,qks _ flo]
             have eh:(bs (k*k) (tabB k (updTo T lo hi q)))[q*k+hi]? = some (.bool (updTo T lo hi q q hi)):=by
              simp only [bs,List.getElem?_map,List.getElem?_range p0,Option.map_some,qks _ ghi]
             have e3:updTo T lo hi q q lo=T q lo:=by simp [updTo]
             rw [el,e3] at cl
             rw [eh] at ch
             obtain ⟨vh,hvh⟩:∃ vh,updTo T lo hi q q hi=vh:=⟨_,rfl⟩
             rw [hvh] at ch
             clear hG el eh e3 hvh
             cases hT:T q lo
             . rw [hT] at cl
               go_wp2
               go_roundw
               case rel =>
                refine ⟨q+1,by omega,by go_num,?_,u_ HB⟩
                have h2:=u_ HG
                rw [qd8 (T':=updTo T lo hi (q+1)) fun x y _ _=>by
                 simp only [updTo]
                 by_cases e:x=q
                 . subst e;simp [hT]
                 . congr 2;rw [decide_eq_decide];omega] at h2
                exact h2
               case measure=>simp [intOf];omega
             . rw [hT] at cl
               go_wp2
               go_roundw
               case rel =>
                refine ⟨q+1,by omega,by go_num,?_,(u_ HB).setCell (nR _) _⟩
                have h2:=(u_ HG).set (q*k+hi) (.bool true)
                rw [qkt _ ghi] at h2
                rw [qd8 (T':=updTo T lo hi (q+1)) fun x y _ _=>by
                 simp only [updTo]
                 by_cases e:x=q
                 . subst e;simp [hT]
                 . rw [show decide (x=q)=false from decide_eq_false e,Bool.false_and,Bool.or_false];congr 2;rw [decide_eq_decide];omega] at h2
                exact h2
               case measure=>simp [intOf];omega
           . obtain rfl:q=k:=by omega
             clear hG
             go_wp2_with fail
             go_roundw
             case rel =>
              refine ⟨j+1,by omega,by go_num,?_,u_ HB⟩
              have h2:=u_ HG
              rw [qd8 (T':=pass (rounds diag f g m r) f g (j+1)) fun x y hx _=>by
               rw [pass,u_ HT,(u_ HLH).1,(u_ HLH).2];simp [updTo,upd,hx]] at h2
              exact h2
             case measure=>simp [intOf];omega
        . obtain rfl:j=m:=by omega
          have o2:=((u_ H0).mono (u_ HB) (Nat.lt_succ_self _)).cell 1
          simp only [List.getElem?_cons_succ,List.getElem?_cons_zero] at o2
          go_wp2_with fail
          go_roundw
          case rel =>
           refine ⟨r+1,by omega,by go_num,?_,u_ HB⟩
           rw [rounds,u_ HT];exact u_ HG
          case measure=>simp [intOf];omega
     . obtain rfl:r=k:=by omega
       have hZ:=(u_ HB0).trans ((u_ HB).mono (Nat.le_succ _))
       have HZ:=h_ hZ;clear hZ
       go_wp2
       go_ret
       exact ⟨_,rfl,u_ HG,Nat.le_succ _,u_ HZ⟩
end Go.Proofs.YtgkcaeidhkddjaaGreatDoor
namespace Go.Proofs.YtgkcaeidhkddjaaGreatDoor
open Go Go.RowKit Go.Shelf
attribute [local go_sem] Oper.semAt_some
theorem Tab.keep {X:Nat->Prop} {W W':World} (h:Tab W) (hk:KeepX X W W') (hX:¬ X 3):Tab W':=fun j hj=>by
 have h0:=h j hj
 unfold World.cell? at h0 ⊢
 simp only at h0 ⊢
 cases e:W.heap[3]? with
 | none=>rw [e] at h0;cases h0
 | some o =>
  cases o with
  | cells cs t fr=>rw [hk.same 3 cs t fr hX e];rw [e] at h0;exact h0
  | _=>rw [e] at h0;cases h0
def natAt (w:World):Value->Nat
 | .pointer (some a)=>match w.cell? a with | some (.int _ v)=>v.toNat | _=>0
 | _=>0
theorem qf6 {w:World} {b:Nat} {v:Nat} {k:IntKind} (h:w.cell? ⟨b,0,none⟩=some (.int k (v:Int))):natAt w (.pointer (some ⟨b,0,none⟩))=v:=by
 simp [natAt,h]
theorem qhz {s:Nat} (hs:s<4294967296) (h0:s ≠ 0):Lib.ctz 32 s<32/\s.testBit (Lib.ctz 32 s)=true:=by
 obtain ⟨h1,h2⟩:=Lib.lowest_bit 32 s h0 hs
 refine ⟨h2,?_⟩
 have:(s &&& (2 ^ 32 - s)).testBit (Lib.ctz 32 s)=true:=by rw [h1];simp
 rw [Nat.testBit_and,Bool.and_eq_true] at this
 exact this.1
theorem q5x {s x:Nat} (hs:s<4294967296) (hx:x<32) (h:s.testBit x=true):minusN s (2 ^ x)<s:=by
 apply Nat.lt_of_le_of_ne Nat.and_le_left
 intro e
 have h2:=q8p hs (two_lt hx) x
 rw [show minusN s (2 ^ x)=s from e,h] at h2
 simp at h2
theorem q5y {s x:Nat} (hs:s<4294967296) (hx:x<32) (i:Nat):(minusN s (2 ^ x)).testBit i=true ↔ s.testBit i=true/\i ≠ x:=by
 rw [q8p hs (two_lt hx),Nat.testBit_two_pow,Bool.and_eq_true,Bool.not_eq_true',decide_eq_false_iff_not]
 exact and_congr_right fun _=>⟨fun h e=>h e.symm,fun h e=>h e.symm⟩
theorem Tab.at0 {w w':World} (h:Tab w) (e:w'.heap[3]? = w.heap[3]?):Tab w':=fun j hj=>(World.cell?_of_block (a:=⟨3,j,none⟩) e).trans (h j hj)
theorem q5t (N:Nat) (W3:World) (R:Nat) (o1 o2 o3 o4:Obj) (v:Value) (t:TypeId) (hR:N<=R) (hN:N<=W3.heap.size) :
 Blk ((((((W3.alloc o1).alloc o2).alloc o3).alloc o4).setCell ⟨R,0,none⟩ v).alloc (.cells #[v] t)).drew (W3.heap.size+1+1+1+1) t [v]/\Below N W3 ((((((W3.alloc o1).alloc o2).alloc o3).alloc o4).setCell ⟨R,0,none⟩ v).alloc (.cells #[v] t)).drew:=by
 constructor
 . have:=Blk.new (((((W3.alloc o1).alloc o2).alloc o3).alloc o4).setCell ⟨R,0,none⟩ v) t #[v]
   simp only [World.size_setCell,World.size_alloc] at this
   exact this
 . exact ((((below4 W3 o1 o2 o3 o4).mono hN).setCell (p:=⟨R,0,none⟩) hR v).alloc (by simp;omega) _).drew
theorem q40 (Bs s:Nat) (w0:World) (X:Nat->Prop) (hs:s<4294967296) (hB:Blk w0 Bs 137 [.int .u32 (s:Int)]) (ht:Tab w0) (hX0:¬ X 3) :
 Gives Tryz.prog 222 #[.pointer (some ⟨Bs,0,none⟩)] (fun x=>x<32/\s.testBit x=true) (fun xs=>∀ i,i ∈ xs ↔ s.testBit i=true) (fun pre=>∀ i ∈ pre,s.testBit i=true) X w0:=by
 intro n l J Jx W hb hJ hJx hX hY h0
 have hBs:=hB.mono hb hB.lt
 have hT:=ht.mono hb
 have c0:=hBs.cell 0
 simp only [List.getElem?_cons_zero] at c0
 have hW0:=hT.pos
 have HY:=h_ hY;clear hY
 refine callsIn_of_wp Tryz.func222 rfl trivial ?_ rfl
 simp only [Tryz.ntmps222,List.size_toArray,List.length_cons,List.length_nil,Nat.reduceAdd,Nat.reduceSub,Array.replicate_succ,Array.replicate_zero,List.push_toArray,List.append_toArray,List.nil_append,List.cons_append]
 gi_wp2
 clear c0
 have hbn:Below W.heap.size W (W.alloc (.cells #[.int .u32 (s:Int)] 137)):=(bR _ _).alloc (nR _) _
 have hnew:=Blk.new W 137 #[.int .u32 (s:Int)]
 gi_loopw [3] (fun p wr=>∃ (R rest:Nat) (pre:List Nat),p=.pointer (some ⟨R,0,none⟩)/\W.heap.size<=R/\Blk wr R 137 [.int .u32 (rest:Int)]/\Tab wr/\J pre wr/\W.heap.size<=wr.heap.size/\rest<4294967296/\(∀ i,s.testBit i=true ↔ i ∈ pre ∨ rest.testBit i=true)) (fun p wr=>natAt wr p)
 case atStart=>exact ⟨W.heap.size,s,[],rfl,nR _,hnew,hT.mono hbn,hJ _ _ _ h0 hbn,hbn.size,hs,fun i=>by simp⟩
 case round =>
  clear hnew hbn h0 hT hBs
  obtain ⟨R,rest,pre,rfl,hR,hbR,hT,hj,hsz,hr,hbits⟩:=hrel
  have c1:=hbR.cell 0
  simp only [List.getElem?_cons_zero] at c1
  have HBR:=h_ hbR;have HT:=h_ hT;have HJ:=h_ hj;have HBITS:=h_ hbits
  have hlR:=hbR.lt
  clear hbR hT hj hbits
  by_cases hz:rest=0
  . subst hz
    have hzb:((0:Nat) == 0)=true:=rfl
    gi_wp2_with fail
    refine callW ((qav _ _).mono ?_)
    rintro e w1 ⟨rfl,rfl⟩
    gi_wp2_with fail
    go_end0
    refine ⟨⟨_,rfl⟩,.inl ⟨pre,fun i=>?_,hJ _ _ _ (u_ HJ) (((bR wr.heap.size _).alloc (nR _) _).mono hsz)⟩⟩
    rw [u_ HBITS i];simp
  . have hzb:(rest == 0)=false:=by simpa using hz
    have hcb:=qhz hr hz
    have hl3:=q8o rest (wr.alloc (.cells #[.int .u32 (rest:Int)] 137)) hr hz ((u_ HT).mono ((bR _ _).alloc (nR _) _))
    obtain ⟨x,hx⟩:∃ x,Lib.ctz 32 rest=x:=⟨_,rfl⟩
    rw [hx] at hcb hl3
    have HL3:=h_ hl3
    have hx32:=hcb.1
    have HXB:=h_ hcb.2
    clear hz hx hcb hl3
    have hB2:Below wr.heap.size wr ((wr.alloc (.cells #[.int .u32 (rest:Int)] 137)).alloc (.cells #[.int .u32 (rest:Int)] 137)):=((bR _ _).alloc (nR _) _).alloc (by simp) _
    have hyy:=u_ HY (n - 1) pre x _ (hJ _ _ _ (u_ HJ) (hB2.mono hsz)) ⟨hx32,((u_ HBITS) x).2 (.inr (u_ HXB))⟩
    have HB2:=h_ hB2;clear hB2
    obtain ⟨fn,tmps,assign,body,hy,hRd⟩:=hyy
    have HRD:=h_ hRd;clear hRd
    gi_wp2_with fail
    refine callW ((qav _ _).mono ?_)
    rintro e w1 ⟨rfl,rfl⟩
    gi_wp2_with fail
    refine callW ((u_ HL3).mono ?_)
    rintro e w1 ⟨rfl,rfl⟩
    gi_wp2_with fail
    refine ⟨noDepth,(u_ HRD).mono ?_⟩
    rintro e W3 (⟨rfl,hj3,hk3⟩ | ⟨rfl,hjx3⟩)
    . have hbR:=hk3.blk ((u_ HBR).mono (u_ HB2) hlR) (fun h=>by have:=hX R h;omega)
      have hT3:=((u_ HT).mono (u_ HB2)).keep hk3 hX0
      have hs3:wr.heap.size<=W3.heap.size:=Nat.le_trans (u_ HB2).size hk3.size
      clear hk3 c1 hy HRD HL3
      have c2:=hbR.cell 0
      simp only [List.getElem?_cons_zero] at c2
      have f2:=hbR.free 0
      have hl3:=hbR.lt
      have K4:=hbR.cell4 0;have F4:=hbR.free4 0
      simp only [List.getElem?_cons_zero] at K4
      have HBR3:=h_ hbR;have HT3:=h_ hT3;have HJ3:=h_ hj3;clear hbR hT3 hj3
      have hmix:Tryz.prog.follows .mixedOrders=true:=by kernel_rfl
      have hr2:=qby (t:=2 ^ x) hr
      have h2x:=two_lt hx32
      gi_wp2_with fail
      gi_region_with_o (first | (refine callW ((qjl _ _ hx32).mono ?_);rintro e w' ⟨rfl,rfl⟩) | (refine callW ((qbz _ _ _ hr h2x).mono ?_);rintro e w' ⟨rfl,rfl⟩))
      all_goals
       gi_wp2_with fail
       have hst:=q5t W.heap.size W3 R (.cells #[.int .u32 ((2 ^ x:Nat):Int)] 137) (.cells #[.int .u32 (rest:Int)] 137) (.cells #[.int .u32 ((2 ^ x:Nat):Int)] 137) (.cells #[.int .u32 ((minusN rest (2 ^ x):Nat):Int)] 137) (.int .u32 ((minusN rest (2 ^ x):Nat):Int)) 137 hR (by omega)
       simp only [Int.natCast_pow,Int.cast_ofNat_Int] at hst
       refine ⟨⟨W3.heap.size+1+1+1+1,minusN rest (2 ^ x),pre++[x],rfl,by omega,hst.1,(u_ HT3).at0 (hst.2.block 3 hW0),hJ _ _ _ (u_ HJ3) hst.2,by have:=hst.2.size;omega,hr2,fun i=>?_⟩,?_⟩
       . rw [u_ HBITS i,q5y hr hx32,List.mem_append,List.mem_singleton]
         have hxb:=u_ HXB
         by_cases e:i=x
         . subst e;simp [hxb]
         . simp [e]
       . have h1:=hst.1.cell 0
         have h2:=(u_ HBR).cell 0
         simp only [List.getElem?_cons_zero] at h1 h2
         rw [qf6 h1,qf6 h2]
         exact q5x hr hx32 (u_ HXB)
    . gi_wp2_with fail
      refine bodyPost_ret (results_none rfl _ _ _) rfl ⟨⟨_,rfl⟩,.inr ⟨pre++[x],fun i hi=>?_,hjx3⟩⟩
      rw [u_ HBITS i]
      rcases List.mem_append.1 hi with h | h
      . exact .inl h
      . rw [List.mem_singleton.1 h];exact .inr (u_ HXB)
theorem q8i (s:Nat) (w:World) :
 Calls Tryz.prog 204 #[.agg #[.int .u32 (s:Int)]] w fun e w'=>e=.returned (.func (.func 222) #[] #[.pointer (some ⟨w.heap.size,0,none⟩)])/\w'=w.alloc (.cells #[.int .u32 (s:Int)] 137):=by
 go_enter Tryz.func204,Tryz.ntmps204
 go_wp2
 go_ret
 exact ⟨rfl,rfl⟩
attribute [local go_sem] Oper.semAt_some
def Reach (g:Nat->Nat) (a b:Nat):Prop:=∀ C:Nat->Prop,C a->(∀ x y,C x->x<32->(g x).testBit y=true->C y)->C b
theorem Reach.refl (g:Nat->Nat) (a:Nat):Reach g a a:=fun _ h _=>h
theorem Reach.step {g:Nat->Nat} {a x y:Nat} (h:Reach g a x) (hx:x<32) (hy:(g x).testBit y=true):Reach g a y:=fun C h0 hs=>hs x y (h C h0 hs) hx hy
structure Walk (g:Nat->Nat) (a todo done:Nat) (pre:List Nat):Prop where
 t32:todo<4294967296
 d32:done<4294967296
 came:∀ i,i ∈ pre ↔ done.testBit i=true
 apart:∀ i,todo.testBit i=true->done.testBit i=false
 reach:∀ i,(todo.testBit i=true ∨ done.testBit i=true)->Reach g a i
 start:todo.testBit a=true ∨ done.testBit a=true
 shut:∀ x y,done.testBit x=true->(g x).testBit y=true->todo.testBit y=true ∨ done.testBit y=true
theorem Walk.init (g:Nat->Nat) (a:Nat) (ha:a<32):Walk g a (2 ^ a) 0 [] where
 t32:=two_lt ha
 d32:=by decide
 came:=fun i=>by simp
 apart:=fun i _=>by simp
 reach:=fun i h=>by
  rw [Nat.testBit_two_pow] at h
  simp at h;subst h;exact Reach.refl _ _
 start:=.inl (by simp)
 shut:=fun x y h=>by simp at h
theorem Walk.next {g:Nat->Nat} {a todo done x:Nat} {pre:List Nat} (h:Walk g a todo done pre) (hg:∀ a,a<32->g a<4294967296) (hx:x<32) (hb:todo.testBit x=true) :
 Walk g a (minusN (todo ||| g x) (done ||| 2 ^ x)) (done ||| 2 ^ x) (pre++[x]):=by
 have o1:=or_lt h.t32 (hg x hx)
 have o2:=or_lt h.d32 (two_lt hx)
 have tb:∀ i,(minusN (todo ||| g x) (done ||| 2 ^ x)).testBit i=((todo.testBit i || (g x).testBit i)&&!(done.testBit i || decide (x=i))):=fun i=>by
  rw [q8p o1 o2,Nat.testBit_or,Nat.testBit_or,Nat.testBit_two_pow]
 have db:∀ i,(done ||| 2 ^ x).testBit i=(done.testBit i || decide (x=i)):=fun i=>by rw [Nat.testBit_or,Nat.testBit_two_pow]
 refine ⟨qby o1,o2,fun i=>?_,fun i hi=>?_,fun i hi=>?_,?_,fun y z hy hz=>?_⟩
 . rw [List.mem_append,List.mem_singleton,h.came i,db,Bool.or_eq_true,decide_eq_true_iff]
   exact or_congr_right ⟨Eq.symm,Eq.symm⟩
 . rw [tb] at hi;rw [db];simp at hi ⊢;exact hi.2
 . rw [tb,db] at hi
   cases hd:(done.testBit i || decide (x=i))
   . rw [hd] at hi;simp at hi
     rcases hi with hi | hi
     . exact h.reach i (.inl hi)
     . exact (h.reach x (.inl hb)).step hx hi
   . simp at hd
     rcases hd with hd | hd
     . exact h.reach i (.inr hd)
     . subst hd;exact h.reach x (.inl hb)
 . rw [tb,db]
   cases hd:(done.testBit a || decide (x=a))
   . simp at hd
     rcases h.start with hs | hs
     . simp [hs]
     . rw [hs] at hd;simp at hd
   . exact .inr rfl
 . rw [tb,db]
   rw [db] at hy
   cases hd:(done.testBit z || decide (x=z))
   . simp at hd hy
     rcases hy with hy | hy
     . rcases h.shut y z hy hz with h1 | h1
       . simp [h1]
       . rw [h1] at hd;simp at hd
     . subst hy;simp [hz]
   . exact .inr rfl
theorem Walk.finish {g:Nat->Nat} {a done:Nat} {pre:List Nat} (h:Walk g a 0 done pre):∀ i,i ∈ pre ↔ Reach g a i:=fun i=>by
 rw [h.came i]
 constructor
 . exact fun hi=>h.reach i (.inr hi)
 . intro hr
   refine hr (fun i=>done.testBit i=true) ?_ ?_
   . rcases h.start with hs | hs
     . simp at hs
     . exact hs
   . intro x y hx _ hy
     rcases h.shut x y hx hy with h1 | h1
     . simp at h1
     . exact h1
theorem qjm {d x:Nat} (h:d.testBit x=false):d<d ||| 2 ^ x:=by
 apply Nat.lt_of_le_of_ne Nat.left_le_or
 intro e
 have:(d ||| 2 ^ x).testBit x=true:=by rw [Nat.testBit_or,Nat.testBit_two_pow];simp
 rw [<- e,h] at this;cases this
theorem qgb {W':World} {O:Nat} {c:Value} (h:Blk W' O 137 [c]) (v:Value) (o1 o2 o3 o4:Obj) :
 Blk (((((W'.alloc o1).alloc o2).alloc o3).alloc o4).setCell ⟨O,0,none⟩ v).drew O 137 [v]/\KeepX (fun j=>j=O) W' (((((W'.alloc o1).alloc o2).alloc o3).alloc o4).setCell ⟨O,0,none⟩ v).drew /\
  (∀ B,B<=O->O<W'.heap.size->Below B W' (((((W'.alloc o1).alloc o2).alloc o3).alloc o4).setCell ⟨O,0,none⟩ v).drew):=by
 have hb:=below4 W' o1 o2 o3 o4
 exact ⟨(h.mono hb h.lt).set 0 v,((KeepX.of_below hb).trans (KeepX.set (X:=fun j=>j=O) (a:=⟨O,0,none⟩) v rfl)).trans ⟨nR _,fun _ _ _ _ _ h=>h⟩,fun B hB hO=>((hb.mono (by omega)).setCell (p:=⟨O,0,none⟩) hB v).drew⟩
theorem below6 (w:World) (o1 o2 o3 o4 o5 o6:Obj):Below w.heap.size w ((((((w.alloc o1).alloc o2).alloc o3).alloc o4).alloc o5).alloc o6):=((below4 w o1 o2 o3 o4).alloc (by simp;omega) o5).alloc (by simp;omega) o6
theorem qcs {W':World} {O:Nat} {c:Value} (h:Blk W' O 137 [c]) (v:Value) (o1 o2 o3 o4 o5 o6:Obj) :
 Blk (((((((W'.alloc o1).alloc o2).alloc o3).alloc o4).alloc o5).alloc o6).setCell ⟨O,0,none⟩ v).drew O 137 [v]/\KeepX (fun j=>j=O) W' (((((((W'.alloc o1).alloc o2).alloc o3).alloc o4).alloc o5).alloc o6).setCell ⟨O,0,none⟩ v).drew /\
  (∀ B,B<=O->O<W'.heap.size->Below B W' (((((((W'.alloc o1).alloc o2).alloc o3).alloc o4).alloc o5).alloc o6).setCell ⟨O,0,none⟩ v).drew):=by
 have hb:=below6 W' o1 o2 o3 o4 o5 o6
 exact ⟨(h.mono hb h.lt).set 0 v,((KeepX.of_below hb).trans (KeepX.set (X:=fun j=>j=O) (a:=⟨O,0,none⟩) v rfl)).trans ⟨nR _,fun _ _ _ _ _ h=>h⟩,fun B hB hO=>((hb.mono (by omega)).setCell (p:=⟨O,0,none⟩) hB v).drew⟩
theorem q4p (Ba Bs a:Nat) (g:Nat->Nat) (w0:World) (X:Nat->Prop) (ha:a<32) (hg:∀ a,a<32->g a<4294967296) (hA:Blk w0 Ba 3 [.int .i64 (a:Int)]) (hB:Blk w0 Bs 221 (us g)) (ht:Tab w0) (hXB:¬ X Bs) (hX0:¬ X 3) :
 Gives Tryz.prog 208 #[.pointer (some ⟨Ba,0,none⟩),.pointer (some ⟨Bs,0,none⟩)] (fun x=>x<32) (fun xs=>∀ i,i ∈ xs ↔ Reach g a i) (fun _=>True) X w0:=by
 intro n l J Jx W hb hJ hJx hX hY h0
 have hT:=ht.mono hb
 have bA:=hA.mono hb hA.lt
 have bS:=hB.mono hb hB.lt
 have c0:=bA.cell 0
 simp only [List.getElem?_cons_zero] at c0
 have hW0:=hT.pos
 have HY:=h_ hY;clear hY
 refine callsIn_of_wp Tryz.func208 rfl trivial ?_ rfl
 simp only [Tryz.ntmps208,List.size_toArray,List.length_cons,List.length_nil,Nat.reduceAdd,Nat.reduceSub,Array.replicate_succ,Array.replicate_zero,List.push_toArray,List.append_toArray,List.nil_append,List.cons_append]
 gi_wp2_with fail
 refine callW ((qjl _ _ ha).mono ?_)
 rintro e w1 ⟨rfl,rfl⟩
 gi_wp2_with fail
 have bT:=(Blk.new (W.alloc (.cells #[.int .u32 ((2 ^ a:Nat):Int)] 137)) 137 #[.int .u32 ((2 ^ a:Nat):Int)]).alloc (.cells #[.int .u32 0] 137)
 have bD:=Blk.new ((W.alloc (.cells #[.int .u32 ((2 ^ a:Nat):Int)] 137)).alloc (.cells #[.int .u32 ((2 ^ a:Nat):Int)] 137)) 137 #[.int .u32 0]
 have bw:=below3 W (.cells #[.int .u32 ((2 ^ a:Nat):Int)] 137) (.cells #[.int .u32 ((2 ^ a:Nat):Int)] 137) (.cells #[.int .u32 0] 137)
 simp only [World.size_alloc,Int.natCast_pow,Int.cast_ofNat_Int] at bT bD bw
 clear c0
 gi_loopw [6] (fun _ wr=>∃ (todo done:Nat) (pre:List Nat),Blk wr (W.heap.size+1) 137 [.int .u32 (todo:Int)]/\Blk wr (W.heap.size+1+1) 137 [.int .u32 (done:Int)]/\Blk wr Bs 221 (us g)/\Tab wr/\J pre wr/\Walk g a todo done pre) (fun _ wr=>4294967296 - natAt wr (.pointer (some ⟨W.heap.size+1+1,0,none⟩)))
 case atStart=>exact ⟨2 ^ a,0,[],by simpa using bT,bD,bS.mono bw bS.lt,hT.mono bw,hJ _ _ _ h0 bw,Walk.init g a ha⟩
 case round =>
  have lS:=bS.lt
  clear bT bD bw h0 hT bS bA
  obtain ⟨todo,done,pre,hT1,hD1,hS1,hTab,hj,hw⟩:=hrel
  have c1:=hT1.cell 0
  simp only [List.getElem?_cons_zero] at c1
  have t32:=hw.t32
  have sD:=hD1.lt
  have sT:=hT1.lt
  have K1:=fun o=>(hT1.alloc o).cell 0
  simp only [List.getElem?_cons_zero] at K1
  have hsz:W.heap.size<=wr.heap.size:=by omega
  have HT1:=h_ hT1;have HD1:=h_ hD1;have HS1:=h_ hS1;have HTAB:=h_ hTab;have HJ:=h_ hj;have HW:=h_ hw
  clear hT1 hD1 hS1 hTab hj hw
  by_cases hz:todo=0
  . subst hz
    have hzb:((0:Nat) == 0)=true:=rfl
    gi_wp2_with fail
    refine callW ((qav _ _).mono ?_)
    rintro e w1 ⟨rfl,rfl⟩
    gi_wp2_with fail
    go_end0
    exact ⟨⟨_,rfl⟩,.inl ⟨pre,(u_ HW).finish,hJ _ _ _ (u_ HJ) (((bR wr.heap.size _).alloc (nR _) _).mono hsz)⟩⟩
  . have hzb:(todo == 0)=false:=by simpa using hz
    have hcb:=qhz t32 hz
    have hl3:=q8o todo (wr.alloc (.cells #[.int .u32 (todo:Int)] 137)) t32 hz ((u_ HTAB).mono ((bR _ _).alloc (nR _) _))
    obtain ⟨x,hx⟩:∃ x,Lib.ctz 32 todo=x:=⟨_,rfl⟩
    rw [hx] at hcb hl3
    have HL3:=h_ hl3
    have x32:=hcb.1
    have HXB:=h_ hcb.2
    clear hz hx hcb hl3
    have hB2:Below wr.heap.size wr ((wr.alloc (.cells #[.int .u32 (todo:Int)] 137)).alloc (.cells #[.int .u32 (todo:Int)] 137)):=((bR _ _).alloc (nR _) _).alloc (by simp) _
    have hyy:=u_ HY (n - 1) pre x _ (hJ _ _ _ (u_ HJ) (hB2.mono hsz)) x32
    have HB2:=h_ hB2;clear hB2
    obtain ⟨fn,tmps,assign,body,hy,hRd⟩:=hyy
    have HRD:=h_ hRd;clear hRd
    gi_wp2_with fail
    refine callW ((qav _ _).mono ?_)
    rintro e w1 ⟨rfl,rfl⟩
    gi_wp2_with fail
    refine callW ((u_ HL3).mono ?_)
    rintro e w1 ⟨rfl,rfl⟩
    gi_wp2_with fail
    refine ⟨noDepth,(u_ HRD).mono ?_⟩
    rintro e W3 (⟨rfl,hj3,hk3⟩ | ⟨rfl,hjx3⟩)
    . have bT:=hk3.blk ((u_ HT1).mono (u_ HB2) (u_ HT1).lt) (fun h=>by have:=hX _ h;omega)
      have bD:=hk3.blk ((u_ HD1).mono (u_ HB2) (u_ HD1).lt) (fun h=>by have:=hX _ h;omega)
      have bS:=hk3.blk ((u_ HS1).mono (u_ HB2) (u_ HS1).lt) hXB
      have hT3:=((u_ HTAB).mono (u_ HB2)).keep hk3 hX0
      clear hk3 c1 K1 hy HRD HL3 HB2
      have d32:=(u_ HW).d32
      have c2:=bD.cell 0
      simp only [List.getElem?_cons_zero] at c2
      have f2:=bD.free 0
      have l2:=bD.lt
      have K4:=bD.cell4 0;have F4:=bD.free4 0
      simp only [List.getElem?_cons_zero] at K4
      have hmix:Tryz.prog.follows .mixedOrders=true:=by kernel_rfl
      have x2:=two_lt x32
      have BT:=h_ bT;have BD:=h_ bD;have BS:=h_ bS;have HT3:=h_ hT3;have HJ3:=h_ hj3
      clear bT bD bS hT3 hj3
      gi_wp2_with fail
      gi_region_with_o (first | (refine callW ((qjl _ _ x32).mono ?_);rintro e w' ⟨rfl,rfl⟩) | (refine callW ((qdg _ _ _ d32 x2).mono ?_);rintro e w' ⟨rfl,rfl⟩))
      all_goals
       gi_wp2_with fail
       have hst:=qgb (u_ BD) (.int .u32 ((done ||| 2 ^ x:Nat):Int)) (.cells #[.int .u32 ((2 ^ x:Nat):Int)] 137) (.cells #[.int .u32 (done:Int)] 137) (.cells #[.int .u32 ((2 ^ x:Nat):Int)] 137) (.cells #[.int .u32 ((done ||| 2 ^ x:Nat):Int)] 137)
       simp only [Int.natCast_pow,Int.cast_ofNat_Int] at hst
       obtain ⟨s1,s2,s3⟩:=hst
       replace s3:=s3 W.heap.size (by omega) l2
       obtain ⟨W4,hW4⟩:∃ W4,(((((W3.alloc (.cells #[.int .u32 (2 ^ x)] 137)).alloc (.cells #[.int .u32 (done:Int)] 137)).alloc (.cells #[.int .u32 (2 ^ x)] 137)).alloc (.cells #[.int .u32 ((done ||| 2 ^ x:Nat):Int)] 137)).setCell ⟨W.heap.size+1+1,0,none⟩ (.int .u32 ((done ||| 2 ^ x:Nat):Int))).drew=W4:=⟨_,rfl⟩
       rw [hW4] at s1 s2 s3 ⊢
       clear hW4 K4 F4 c2 f2
       have bT:=s2.blk (u_ BT) (by omega)
       have bS:=s2.blk (u_ BS) (by omega)
       have hT4:=(u_ HT3).keep s2 (by omega)
       have hJ4:=hJ _ _ _ (u_ HJ3) s3
       have gx:=hg x x32
       have cT:=bT.cell 0
       have cD:=s1.cell 0
       have cS:=bS.cell x
       simp only [List.getElem?_cons_zero] at cT cD
       rw [us_get g x32] at cS
       have K3D:=fun o1 o2 o3=>(s1.mono (below3 W4 o1 o2 o3) s1.lt).cell 0
       have K6T:=fun o1 o2 o3 o4 o5 o6=>(bT.mono (below6 W4 o1 o2 o3 o4 o5 o6) bT.lt).cell 0
       have F6T:=fun o1 o2 o3 o4 o5 o6=>(bT.mono (below6 W4 o1 o2 o3 o4 o5 o6) bT.lt).free 0
       simp only [List.getElem?_cons_zero] at K3D K6T
       have o1:=or_lt t32 gx
       have o2:=or_lt d32 x2
       have lT:=bT.lt
       have x0i:(0:Int)<=x:=by omega
       have x1i:(x:Int)<32:=by omega
       have B1:=h_ s1;have B2:=h_ bT;have B3:=h_ bS;have B4:=h_ hT4;have B5:=h_ hJ4
       clear s1 s2 s3 bT bS hT4 hJ4 BT BD BS HT3 HJ3
       gi_region_with_o (first | (refine callW ((qdg _ _ _ t32 gx).mono ?_);rintro e w' ⟨rfl,rfl⟩) | (refine callW ((qbz _ _ _ o1 o2).mono ?_);rintro e w' ⟨rfl,rfl⟩))
       all_goals
        gi_wp2_with fail
        have hst:=qcs (u_ B2) (.int .u32 ((minusN (todo ||| g x) (done ||| 2 ^ x):Nat):Int)) (.cells #[.int .u32 (todo:Int)] 137) (.cells #[.int .u32 (g x:Int)] 137) (.cells #[.int .u32 ((todo ||| g x:Nat):Int)] 137) (.cells #[.int .u32 ((todo ||| g x:Nat):Int)] 137) (.cells #[.int .u32 ((done ||| 2 ^ x:Nat):Int)] 137) (.cells #[.int .u32 ((minusN (todo ||| g x) (done ||| 2 ^ x):Nat):Int)] 137)
        obtain ⟨s1,s2,s3⟩:=hst
        have bD:=s2.blk (u_ B1) (by omega)
        refine ⟨⟨_,_,pre++[x],s1,bD,s2.blk (u_ B3) (by omega),(u_ B4).keep s2 (by omega),hJ _ _ _ (u_ B5) (s3 W.heap.size (by omega) lT),(u_ HW).next hg x32 (u_ HXB)⟩,?_⟩
        have h1:=bD.cell 0
        have h2:=(u_ HD1).cell 0
        simp only [List.getElem?_cons_zero] at h1 h2
        rw [qf6 h1,qf6 h2]
        have:=qjm ((u_ HW).apart x (u_ HXB))
        omega
    . gi_wp2_with fail
      exact bodyPost_ret (results_none rfl _ _ _) rfl ⟨⟨_,rfl⟩,.inr ⟨pre++[x],trivial,hjx3⟩⟩
theorem qa2 (g:Nat->Nat) (a:Nat) (w:World) :
 Calls Tryz.prog 176 #[.agg (us g).toArray,.int .i64 (a:Int)] w fun e w'=>e=.returned (.func (.func 208) #[] #[.pointer (some ⟨w.heap.size+1,0,none⟩),.pointer (some ⟨w.heap.size,0,none⟩)])/\w'=(w.alloc (.cells (us g).toArray 221)).alloc (.cells #[.int .i64 (a:Int)] 3):=by
 go_enter Tryz.func176,Tryz.ntmps176
 go_wp2
 go_ret
 exact ⟨rfl,rfl⟩
end Go.Proofs.YtgkcaeidhkddjaaGreatDoor
namespace Go.Proofs.YtgkcaeidhkddjaaGreatDoor
section
variable {f g:Nat->Nat} {m n:Nat}
theorem qgy {T:Nat->Nat->Bool} {lo hi a b:Nat} (h:T a b=true):upd T lo hi a b=true:=by simp [upd,h]
theorem qcg {T:Nat->Nat->Bool} {a b i:Nat}:∀ {j},i<=j->pass T f g i a b=true->pass T f g j a b=true:=by
 intro j
 induction j with
 | zero=>intro hi h;obtain rfl:i=0:=(by omega);exact h
 | succ j ih =>
  intro hi h
  by_cases e:i=j+1
  . subst e;exact h
  . exact qgy (ih (by omega) h)
theorem q68 {T:Nat->Nat->Bool} {a k j:Nat} (hk:k<j) (h:T a (f k)=true):pass T f g j a (g k)=true:=by
 refine qcg (i:=k+1) (by omega) ?_
 have h1:pass T f g k a (f k)=true:=qcg (i:=0) (by omega) h
 rw [pass];simp [upd,h1]
def ClosedRow (f g:Nat->Nat) (m:Nat) (T:Nat->Nat->Bool) (a:Nat):Prop:=∀ k,k<m->T a (f k)=true->T a (g k)=true
theorem q67 {T:Nat->Nat->Bool} {a:Nat} (h:ClosedRow f g m T a):∀ j,j<=m->∀ b,pass T f g j a b=T a b:=by
 intro j
 induction j with
 | zero=>intro _ b;rfl
 | succ j ih =>
  intro hj b
  rw [pass,upd,ih (by omega),ih (by omega)]
  by_cases e:b=g j
  . subst e
    cases h1:T a (f j)
    . simp
    . rw [h j (by omega) h1];rfl
  . rw [show decide (b=g j)=false from decide_eq_false e];simp
def cnt (n:Nat) (T:Nat->Nat->Bool) (a:Nat):Nat:=((List.range n).filter (T a)).length
theorem qb5 {p q:Nat->Bool} (l:List Nat) (h:∀ x,p x=true->q x=true):(l.filter p).length<=(l.filter q).length:=by
 induction l with
 | nil=>simp
 | cons x r ih =>
  simp only [List.filter_cons]
  cases hp:p x
  . cases hq:q x
    . simpa using ih
    . simp;omega
  . rw [h x hp];simpa using ih
theorem qb6 {p q:Nat->Bool} (l:List Nat) (h:∀ x,p x=true->q x=true) {y:Nat} (hy:y ∈ l) (h1:p y=false) (h2:q y=true):(l.filter p).length<(l.filter q).length:=by
 induction l with
 | nil=>cases hy
 | cons x r ih =>
  simp only [List.filter_cons]
  rcases List.mem_cons.1 hy with rfl | hy
  . rw [h1,h2]
    have:=qb5 r h
    simp;omega
  . have:=ih hy
    cases hp:p x
    . cases hq:q x
      . simpa using this
      . simp;omega
    . rw [h x hp];simpa using this
theorem q6c {T:Nat->Nat->Bool} {a b:Nat}:∀ r,T a b=true->rounds T f g m r a b=true
 | 0,h=>h
 | r+1,h=>qcg (i:=0) (by omega) (q6c r h)
theorem q49 (hg:∀ k,k<m->g k<n) {a:Nat} (ha:a<n):∀ r,ClosedRow f g m (rounds diag f g m r) a ∨ r+1<=cnt n (rounds diag f g m r) a
 | 0=>by
  right
  have:(List.filter (fun _=>false) (List.range n)).length<cnt n (rounds diag f g m 0) a:=qb6 (y:=a) _ (fun x h=>by cases h) (by simpa using ha) rfl (by simp [rounds,diag])
  omega
 | r+1=>by
  rcases q49 hg ha r with h | h
  . left
    intro k hk h1
    rw [rounds,q67 h m (nR _)] at h1 ⊢
    exact h k hk h1
  . by_cases hc:ClosedRow f g m (rounds diag f g m r) a
    . left
      intro k hk h1
      rw [rounds,q67 hc m (nR _)] at h1 ⊢
      exact hc k hk h1
    . right
      have:∃ k,k<m/\rounds diag f g m r a (f k)=true/\¬ rounds diag f g m r a (g k)=true:=by
       apply Classical.byContradiction
       intro hn
       exact hc fun k hk h1=>Classical.byContradiction fun h2=>hn ⟨k,hk,h1,h2⟩
      obtain ⟨k,hk,h1,h2⟩:=this
      have:cnt n (rounds diag f g m r) a<cnt n (rounds diag f g m (r+1)) a :=
       qb6 (y:=g k) _ (fun x hx=>qcg (i:=0) (by omega) hx) (by simpa using hg k hk) (by simpa using h2) (q68 hk h1)
      omega
theorem q2u (hg:∀ k,k<m->g k<n) {a:Nat} (ha:a<n):ClosedRow f g m (rounds diag f g m n) a:=by
 rcases q49 (f:=f) (m:=m) hg ha n with h | h
 . exact h
 . have:cnt n (rounds diag f g m n) a<=n:=by
    have:=List.length_filter_le (rounds diag f g m n a) (List.range n)
    simpa [cnt] using this
   omega
def PairBits (u:Nat->Nat) (f g:Nat->Nat) (m:Nat):Prop:=∀ x,x<32->∀ y,(u x).testBit y=true ↔ ∃ k,k<m/\f k=x/\g k=y
theorem q92 {u:Nat->Nat} (hu:PairBits u f g m) (hf:∀ k,k<m->f k<32) {T:Nat->Nat->Bool} {a:Nat} (h:∀ b,T a b=true->Reach u a b):∀ j,j<=m->∀ b,pass T f g j a b=true->Reach u a b
 | 0,_,b,hb=>h b hb
 | j+1,hj,b,hb=>by
  rw [pass,upd] at hb
  simp only [Bool.or_eq_true,Bool.and_eq_true,decide_eq_true_eq] at hb
  rcases hb with hb | ⟨rfl,hb⟩
  . exact q92 hu hf h j (by omega) b hb
  . exact (q92 hu hf h j (by omega) _ hb).step (hf j (by omega)) ((hu _ (hf j (by omega)) _).2 ⟨j,by omega,rfl,rfl⟩)
theorem q4a {u:Nat->Nat} (hu:PairBits u f g m) (hf:∀ k,k<m->f k<32) {a:Nat}:∀ r b,rounds diag f g m r a b=true->Reach u a b
 | 0,b,h=>by
  simp only [rounds,diag,decide_eq_true_eq] at h
  subst h;exact Reach.refl _ _
 | r+1,b,h=>q92 hu hf (fun b hb=>q4a hu hf r b hb) m (nR _) b h
theorem q4v {u:Nat->Nat} (hn:n<=32) (hu:PairBits u f g m) (hf:∀ k,k<m->f k<n) (hg:∀ k,k<m->g k<n) {a b:Nat} (ha:a<n):rounds diag f g m n a b=true ↔ Reach u a b:=by
 refine ⟨q4a hu (fun k hk=>by have:=hf k hk;omega) n b,fun h=>?_⟩
 refine (h (fun x=>x<n/\rounds diag f g m n a x=true) ⟨ha,q6c n (by simp [diag])⟩ ?_).2
 rintro x y ⟨hx,hT⟩ hx32 hy
 obtain ⟨k,hk,rfl,rfl⟩:=(hu x hx32 y).1 hy
 exact ⟨hg k hk,q2u hg ha k hk hT⟩
end
end Go.Proofs.YtgkcaeidhkddjaaGreatDoor
