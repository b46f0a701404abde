import Derived.Test.YtgkcaeidhkddjaaGreatDoorXG1a
import Derived.Test.YtgkcaeidhkddjaaGreatDoorXGD
set_option maxRecDepth 100000
set_option maxHeartbeats 20000000
namespace Go.Proofs.YtgkcaeidhkddjaaGreatDoor
open Go Go.RowKit
theorem qhh {V:Bool} {p:Prop} (hV:V=true ↔ p) (h:¬ p):V=false:=by
 cases V with
 | false=>rfl
 | true=>exact absurd (hV.1 rfl) h
def Pairs (w:World) (a:Option Addr) (n:Nat) (f g:Nat->Int):Prop :=
 ∀ k,k<n->∃ b off,a=some ⟨b,off,none⟩/\b<w.heap.size/\w.cell? ⟨b,off+k*2,none⟩=some (.int .i64 (f k))/\w.cell? ⟨b,off+k*2+1,none⟩=some (.int .i64 (g k))
theorem Pairs.mono {w w':World} {a:Option Addr} {n:Nat} {f g:Nat->Int} (h:Pairs w a n f g) (hb:Below w.heap.size w w'):Pairs w' a n f g:=fun k hk=>by
 obtain ⟨b,off,rfl,hl,hc,hd⟩:=h k hk
 exact ⟨b,off,rfl,Nat.lt_of_lt_of_le hl hb.size,(hb.cell (p:=⟨b,off+k*2,none⟩) hl).trans hc,(hb.cell (p:=⟨b,off+k*2+1,none⟩) hl).trans hd⟩
theorem q10 (N:Int) (a:Option Addr) (m c:Nat) (w:World) (hm:m<=9223372036854775807) (hno:¬ (1<=N/\N<=32/\m<=256)) :
 Calls Tryz.prog 102 #[.agg #[.int .i64 N,.slice a m c]] w fun e w'=>e=.returned (.bool false)/\Below w.heap.size w w':=by
 have hcase:N<1 ∨ (1<=N/\32<N) ∨ (1<=N/\N<=32/\256<m):=by omega
 rcases hcase with h | ⟨h,h'⟩ | ⟨h,h',h''⟩
 all_goals
  go_enter Tryz.func102,Tryz.ntmps102
  go_wp2
  go_ret
  exact ⟨rfl,(bR _ _).alloc (nR _) _⟩
theorem q0z (N:Int) (a:Option Addr) (m c:Nat) (f g:Nat->Int) (w:World) (h1:1<=N) (h32:N<=32) (hm:m<=256) (ha:Pairs w a m f g) (V:Bool) (hV:V=true ↔ ∀ k,k<m->0<=f k/\f k<N/\0<=g k/\g k<N) :
 Calls Tryz.prog 102 #[.agg #[.int .i64 N,.slice a m c]] w fun e w'=>e=.returned (.bool V)/\Below w.heap.size w w':=by
 have HV:=h_ hV;clear hV
 go_enter Tryz.func102,Tryz.ntmps102
 go_wp2
 have hb:Below w.heap.size w (w.alloc (.cells #[.int .i64 N,.slice a m c] 100)):=(bR _ _).alloc (nR _) _
 have HB:=h_ hb;clear hb
 have B0:=Blk.new w 100 #[.int .i64 N,.slice a m c]
 have c0:=B0.cell 0;have c1:=B0.cell 1
 simp only [List.getElem?_cons_succ,List.getElem?_cons_zero] at c0 c1
 have hs:w.heap.size<(w.alloc (.cells #[.int .i64 N,.slice a m c] 100)).heap.size:=by simp
 have PA:=ha.mono (u_ HB)
 generalize (w.alloc (.cells #[.int .i64 N,.slice a m c] 100))=W at *
 clear B0
 go_loopw [3] (fun i wr=>∃ k:Nat,k<=m/\i=.int .i64 k/\(∀ j,j<k->0<=f j/\f j<N/\0<=g j/\g j<N)/\∃ n,wr=W.drewN n) (fun i _=>m - (intOf i).toNat)
 case atStart=>exact ⟨0,nZ _,rfl,fun j h=>absurd h (nL _),0,rfl⟩
 case round =>
  obtain ⟨k,hk,rfl,heq,n,rfl⟩:=hrel
  have HE:=h_ heq
  clear heq
  have HD:=h_ (q38 W n)
  by_cases hlt:k<m
  . obtain ⟨b,off,rfl,hl,hc,hd⟩:=PA k hlt
    have hF:¬ (0<=f k/\f k<N/\0<=g k/\g k<N)->V=false:=fun hn=>qhh (u_ HV) fun hall=>hn (hall k hlt)
    have HF:=h_ hF;clear hF
    by_cases x1:f k<0
    . go_wp2
      go_quiet (fail)
      go_wp2
      go_ret
      exact ⟨qfz ((u_ HF) (by omega)).symm,(u_ HB).trans ⟨rfl,rfl,rfl,nR _,fun _ _=>rfl⟩⟩
    by_cases x2:N<=f k
    . go_wp2
      go_quiet (fail)
      go_wp2
      go_ret
      exact ⟨qfz ((u_ HF) (by omega)).symm,(u_ HB).trans ⟨rfl,rfl,rfl,nR _,fun _ _=>rfl⟩⟩
    by_cases x3:g k<0
    . go_wp2
      go_quiet (fail)
      go_wp2
      go_quiet (fail)
      go_wp2
      go_ret
      exact ⟨qfz ((u_ HF) (by omega)).symm,(u_ HB).trans ⟨rfl,rfl,rfl,nR _,fun _ _=>rfl⟩⟩
    by_cases x4:N<=g k
    . go_wp2
      go_quiet (fail)
      go_wp2
      go_quiet (fail)
      go_wp2
      go_ret
      exact ⟨qfz ((u_ HF) (by omega)).symm,(u_ HB).trans ⟨rfl,rfl,rfl,nR _,fun _ _=>rfl⟩⟩
    go_wp2
    go_quiet (fail)
    go_wp2
    go_quiet (fail)
    go_wp2
    go_roundw
    case rel=>exact ⟨k+1,by omega,by go_num,fun j hj=>by
     by_cases e:j=k
     . subst e;omega
     . exact u_ HE j (by omega),_,rfl⟩
    case measure=>simp [intOf];omega
  . go_wp2
    go_ret
    exact ⟨qfz ((u_ HV).2 fun j hj=>(u_ HE) j (by omega)).symm,(u_ HB).trans ⟨rfl,rfl,rfl,nR _,fun _ _=>rfl⟩⟩
def pb (f g:Nat->Nat) (k a b:Nat):Bool:=(List.range k).any fun i=>decide (f i=a)&&decide (g i=b)
theorem qjt (f g:Nat->Nat) (k a b:Nat):pb f g (k+1) a b=(pb f g k a b || (decide (a=f k)&&decide (b=g k))):=by
 simp only [pb,List.range_succ,List.any_append,List.any_cons,List.any_nil,Bool.or_false]
 congr 2 <;> rw [decide_eq_decide] <;> exact eq_comm
theorem pb_iff {f g:Nat->Nat} {k a b:Nat}:pb f g k a b=true ↔ ∃ i,i<k/\f i=a/\g i=b:=by simp [pb]
theorem qc4 (a:Nat) (w:World) (hs:a<32):Calls Tryz.prog 92 #[.int .i64 a] w fun e w'=>∃ v,e=.returned v/\(v=.agg #[.int .u32 ((2 ^ a:Nat):Int)]/\Below w.heap.size w w') :=
 (qjl a w hs).mono fun e w' ⟨he,hw⟩=>⟨_,he,rfl,by rw [hw];exact (bR _ _).alloc (nR _) _⟩
theorem q6z (s t:Nat) (w:World) (hs:s<4294967296) (ht:t<4294967296):Calls Tryz.prog 91 #[.agg #[.int .u32 s],.agg #[.int .u32 t]] w fun e w'=>∃ v,e=.returned v/\(v=.agg #[.int .u32 ((s ||| t:Nat):Int)]/\Below w.heap.size w w') :=
 (qdg s t w hs ht).mono fun e w' ⟨he,hw⟩=>⟨_,he,rfl,by rw [hw];exact (((bR _ w).alloc (nR _) _).alloc (by simp) _).alloc (by simp;omega) _⟩
def TwoP (w':World) (P:Nat) (lo hi:Int):Prop:=w'.cell? ⟨P,0,none⟩=some (.int .i64 lo)/\w'.cell? ⟨P,1,none⟩=some (.int .i64 hi)
theorem q0a (n:Nat) (a:Option Addr) (m c:Nat) (f g:Nat->Nat) (w:World) (h32:n<=32) (hm:m<=256) (ha:Pairs w a m (fun k=>(f k:Int)) (fun k=>(g k:Int))) (hf:∀ k,k<m->f k<n) (hg:∀ k,k<m->g k<n) :
 Calls Tryz.prog 139 #[.agg #[.int .i64 n,.slice a m c]] w fun e w'=>∃ u,e=.returned (.agg (us u).toArray)/\IsRel u (pb f g m)/\Below w.heap.size w w':=by
 go_enter Tryz.func139,Tryz.ntmps139
 go_wp2_with (refine q0j rfl _ _ rfl (w.heap.size+1+1) (fun _=>0) (fun _=>0) rfl rfl (blk3 _ _ _ _ _ rfl) ?_;intro w1 hb1 hg1 hs1;have hA:=(blk1 _ _ _ _ _).grown hg1 (by simp;omega);have hR:=(blk2 _ _ _ _ (fun _=>0) rfl).grown hg1 (by simp);have hB:=(below3 _ _ _ _).trans ((bR w.heap.size _).grown hg1 (by simp;omega) (fun k e=>by cases e;omega));have x1:=hA.cell 1;simp only [List.getElem?_cons_succ,List.getElem?_cons_zero] at x1;replace hA:=h_ hA;replace hR:=h_ hR;replace hB:=h_ hB;replace hb1:=h_ hb1;clear hg1 hs1)
 clear x1 hA
 go_loopw [10] (fun i wr=>∃ (k:Nat) (u:Nat->Nat),k<=m/\i=.int .i64 k/\IsRel u (pb f g k)/\Blk wr (w.heap.size+1+1) 221 (us u)/\Blk wr (w.heap.size+1) 221 (us fun _=>0)/\Below w.heap.size w wr) (fun i _=>m - (intOf i).toNat)
 case atStart=>exact ⟨0,fun _=>0,nZ _,rfl,fun a _=>⟨by simp,fun b=>by simp [pb]⟩,u_ hb1,u_ hR,u_ hB⟩
 case round =>
  clear hb1 hR hB
  obtain ⟨k,u,hk,rfl,hrel,hO,hR,hB⟩:=hrel
  have HREL:=h_ hrel;have HO:=h_ hO;have HR:=h_ hR;have HB:=h_ hB
  by_cases hlt:k<m
  . obtain ⟨b1,o1,rfl,hl1,hc1,hc2⟩:=(ha.mono hB) k hlt
    dsimp only at hc1 hc2
    have flt:=hf k hlt;have glt:=hg k hlt
    obtain ⟨x,hx⟩:∃ x,f k=x:=⟨_,rfl⟩
    obtain ⟨y,hy⟩:∃ y,g k=y:=⟨_,rfl⟩
    rw [hx] at hc1 flt;rw [hy] at hc2 glt
    have x32:x<32:=by omega
    have y32:y<32:=by omega
    have hgx:=(hrel x x32).1
    have HS:Hid (IsRel (fun j=>if j=x then u x ||| 2 ^ y else u j) (pb f g (k+1))):=(hrel.add x32 y32).congr fun a b _=>by rw [qjt,hx,hy]
    have y2:=two_lt y32
    have hb3:Below wr.heap.size wr (wr.alloc (.cells #[.int .i64 x,.int .i64 y] 104)):=(bR _ _).alloc (nR _) _
    have P3:=Blk.new wr 104 #[.int .i64 x,.int .i64 y]
    have O3:=hO.mono hb3 hO.lt;have R3:=hR.mono hb3 hR.lt;have B3:=hB.trans (hb3.mono hB.size)
    have hPU:wr.heap.size ≠ w.heap.size+1+1:=by have:=hO.lt;omega
    have S0:TwoP (wr.alloc (.cells #[.int .i64 x,.int .i64 y] 104)) wr.heap.size x y:=⟨P3.cell 0,P3.cell 1⟩
    have HS0:=h_ S0;have HO3:=h_ O3;have HR3:=h_ R3;have HB3:=h_ B3;have HP3:=h_ P3
    have x0i:(0:Int)<=x:=by omega
    have x1i:(x:Int)<32:=by omega
    clear hrel hO hR hB hx hy flt glt hb3 P3 O3 R3 B3 S0 HREL HO HR HB ha
    go_wp2_with fail
    generalize wr.alloc (.cells #[.int .i64 x,.int .i64 y] 104)=W at *
    generalize wr.heap.size=P at *
    refine wp_region_held_drew (S:=fun w'=>TwoP w' P x y) (by kernel_rfl) (u_ HS0) (fun zz=>?_)
    refine tk 0 14 (.pointer (some ⟨P,0,none⟩)) zz ?_ (hy:=fun w hS=>by obtain ⟨q0,q1⟩:=hS;simp [execOp,go_sem, *])
    refine tk 1 15 (.int .i64 x) zz ?_ (hy:=fun w hS=>by obtain ⟨q0,q1⟩:=hS;simp [execOp,go_sem, *])
    refine tk 2 16 (.pointer (some ⟨P,0,none⟩)) zz ?_ (hy:=fun w hS=>by obtain ⟨q0,q1⟩:=hS;simp [execOp,go_sem, *])
    refine tk 3 17 (.int .i64 x) zz ?_ (hy:=fun w hS=>by obtain ⟨q0,q1⟩:=hS;simp [execOp,go_sem, *])
    simp only [sX,sY,sZ]
    refine tk 4 18 (.pointer (some ⟨w.heap.size+1+1,x,none⟩)) zz ?_ (hy:=fun w hS=>by obtain ⟨q0,q1⟩:=hS;simp [execOp,go_sem, *])
    refine tk 6 20 (.pointer (some ⟨P,1,none⟩)) zz ?_ (hy:=fun w hS=>by obtain ⟨q0,q1⟩:=hS;simp [execOp,go_sem, *])
    refine tk 7 21 (.int .i64 y) zz ?_ (hy:=fun w hS=>by obtain ⟨q0,q1⟩:=hS;simp [execOp,go_sem, *])
    simp only [sX,sY,sZ]
    have cW:W.cell? ⟨w.heap.size+1+1,x,none⟩=some (.int .u32 (u x:Int)):=by rw [(u_ HO3).cell x,us_get u x32]
    refine wpAnyH_ready (rs:=[5,8]) (by kernel_rfl) (by simp) (consRun (v:=.agg #[.int .u32 (u x:Int)]) (w':=W.drew) 19 rfl rfl (by rfl) ?hrun0 zz ?pA (consCall (f:=92) (args:=#[.int .i64 y]) (R:=fun v wz=>v=.agg #[.int .u32 ((2 ^ y:Nat):Int)]/\Below W.heap.size W wz) 22 rfl rfl (by rfl) ?hrun1 ((qc4 y _ y32).mono fun e w6 ⟨v,he,hv,hb⟩=>⟨v,he,hv,q26 hb⟩) ?pB AllReadyH.nil))
    case hrun0=>simp [execOp,go_sem,cW]
    case hrun1=>simp [execOp,go_sem]
    case pA =>
     simp only [sX,sY,sZ]
     refine callY (i:=8) (f:=92) (args:=#[.int .i64 y]) (R:=fun v wz=>v=.agg #[.int .u32 ((2 ^ y:Nat):Int)]/\Below W.heap.size W wz) 22 rfl rfl (by rfl) (by kernel_rfl) ?hrun1 ((qc4 y _ y32).mono fun e w6 ⟨v,he,hv,hb⟩=>⟨v,he,hv,q26 hb⟩) ?_
     case hrun1=>simp [execOp,go_sem]
     rintro v w6 ⟨rfl,hb6⟩
     have P6:=(u_ HP3).mono hb6 (u_ HP3).lt;have O6:=(u_ HO3).mono hb6 (u_ HO3).lt;have R6:=(u_ HR3).mono hb6 (u_ HR3).lt;have B6:=(u_ HB3).trans (hb6.mono (u_ HB3).size)
     refine ⟨⟨P6.cell 0,P6.cell 1⟩,?_⟩
     simp only [sX,sY,sZ]
     refine callY (i:=9) (f:=91) (args:=#[.agg #[.int .u32 (u x:Int)],.agg #[.int .u32 ((2 ^ y:Nat):Int)]]) (R:=fun v wz=>v=.agg #[.int .u32 ((u x ||| 2 ^ y:Nat):Int)]/\Below w6.heap.size w6 wz) 23 rfl rfl (by rfl) (by kernel_rfl) ?hrun2 (q6z (u x) (2 ^ y) w6 hgx y2) ?_
     case hrun2=>simp [execOp,go_sem]
     rintro v w7 ⟨rfl,hb7⟩
     have P7:=P6.mono hb7 P6.lt;have O7:=O6.mono hb7 O6.lt;have R7:=R6.mono hb7 R6.lt;have B7:=B6.trans (hb7.mono B6.size)
     have c7:w7.cell? ⟨w.heap.size+1+1,x,none⟩=some (.int .u32 (u x:Int)):=by rw [O7.cell x,us_get u x32]
     have f7:=O7.free x
     refine ⟨⟨P7.cell 0,P7.cell 1⟩,?_⟩
     simp only [sX,sY,sZ]
     replace zz:TwoP w7 P x y:=⟨P7.cell 0,P7.cell 1⟩
     refine tk 10 24 (.pointer (some ⟨w.heap.size+1+1,x,none⟩)) zz ?_ (hy:=fun w hS=>by obtain ⟨q0,q1⟩:=hS;simp [execOp,go_sem, *])
     simp only [sX,sY,sZ]
     obtain ⟨vv,hvv⟩:∃ vv,(u x ||| 2 ^ y)=vv:=⟨_,rfl⟩
     rw [hvv] at HS ⊢
     refine storeY (i:=11) (w':=w7.setCell ⟨w.heap.size+1+1,x,none⟩ (.int .u32 (vv:Int))) rfl (by rfl) (by kernel_rfl) rfl ?hrun3 rfl ⟨(P7.other _ hPU).cell 0,(P7.other _ hPU).cell 1⟩ ?_
     case hrun3=>simp [execOp,go_sem,c7,f7]
     refine wpAnyH_done (by kernel_rfl) ?_ _
     have HO8:=h_ (O7.set x (.int .u32 (vv:Int)));have HR8:=h_ (R7.other (a:=⟨w.heap.size+1+1,x,none⟩) (.int .u32 (vv:Int)) (by simp));have HB8:=h_ (B7.setCell (p:=⟨w.heap.size+1+1,x,none⟩) (by simp;omega) (.int .u32 (vv:Int)))
     clear P7 O7 R7 B7 c7 f7 zz
     generalize w7.setCell ⟨w.heap.size+1+1,x,none⟩ (.int .u32 (vv:Int))=w8 at *
     go_wp2
     go_roundw
     case rel=>exact ⟨k+1,_,by omega,by go_num,u_ HS,by rw [<- us_set u _ x32];exact u_ HO8,u_ HR8,u_ HB8⟩
     case measure=>simp [intOf];omega
    case pB =>
     rintro v w6 ⟨rfl,hb6⟩
     have P6:=(u_ HP3).mono hb6 (u_ HP3).lt;have O6:=(u_ HO3).mono hb6 (u_ HO3).lt;have R6:=(u_ HR3).mono hb6 (u_ HR3).lt;have B6:=(u_ HB3).trans (hb6.mono (u_ HB3).size)
     have c6:w6.cell? ⟨w.heap.size+1+1,x,none⟩=some (.int .u32 (u x:Int)):=by rw [O6.cell x,us_get u x32]
     refine ⟨⟨P6.cell 0,P6.cell 1⟩,?_⟩
     simp only [sX,sY,sZ]
     refine wpAnyH_ready (rs:=[5]) (by kernel_rfl) (by simp) (consRun (v:=.agg #[.int .u32 (u x:Int)]) (w':=w6) 19 rfl rfl (by rfl) ?hrun0 ⟨P6.cell 0,P6.cell 1⟩ ?pC AllReadyH.nil)
     case hrun0=>simp [execOp,go_sem,c6]
     simp only [sX,sY,sZ]
     refine callY (i:=9) (f:=91) (args:=#[.agg #[.int .u32 (u x:Int)],.agg #[.int .u32 ((2 ^ y:Nat):Int)]]) (R:=fun v wz=>v=.agg #[.int .u32 ((u x ||| 2 ^ y:Nat):Int)]/\Below w6.heap.size w6 wz) 23 rfl rfl (by rfl) (by kernel_rfl) ?hrun2 (q6z (u x) (2 ^ y) w6 hgx y2) ?_
     case hrun2=>simp [execOp,go_sem]
     rintro v w7 ⟨rfl,hb7⟩
     have P7:=P6.mono hb7 P6.lt;have O7:=O6.mono hb7 O6.lt;have R7:=R6.mono hb7 R6.lt;have B7:=B6.trans (hb7.mono B6.size)
     have c7:w7.cell? ⟨w.heap.size+1+1,x,none⟩=some (.int .u32 (u x:Int)):=by rw [O7.cell x,us_get u x32]
     have f7:=O7.free x
     refine ⟨⟨P7.cell 0,P7.cell 1⟩,?_⟩
     simp only [sX,sY,sZ]
     replace zz:TwoP w7 P x y:=⟨P7.cell 0,P7.cell 1⟩
     refine tk 10 24 (.pointer (some ⟨w.heap.size+1+1,x,none⟩)) zz ?_ (hy:=fun w hS=>by obtain ⟨q0,q1⟩:=hS;simp [execOp,go_sem, *])
     simp only [sX,sY,sZ]
     obtain ⟨vv,hvv⟩:∃ vv,(u x ||| 2 ^ y)=vv:=⟨_,rfl⟩
     rw [hvv] at HS ⊢
     refine storeY (i:=11) (w':=w7.setCell ⟨w.heap.size+1+1,x,none⟩ (.int .u32 (vv:Int))) rfl (by rfl) (by kernel_rfl) rfl ?hrun3 rfl ⟨(P7.other _ hPU).cell 0,(P7.other _ hPU).cell 1⟩ ?_
     case hrun3=>simp [execOp,go_sem,c7,f7]
     refine wpAnyH_done (by kernel_rfl) ?_ _
     have HO8:=h_ (O7.set x (.int .u32 (vv:Int)));have HR8:=h_ (R7.other (a:=⟨w.heap.size+1+1,x,none⟩) (.int .u32 (vv:Int)) (by simp));have HB8:=h_ (B7.setCell (p:=⟨w.heap.size+1+1,x,none⟩) (by simp;omega) (.int .u32 (vv:Int)))
     clear P7 O7 R7 B7 c7 f7 zz
     generalize w7.setCell ⟨w.heap.size+1+1,x,none⟩ (.int .u32 (vv:Int))=w8 at *
     go_wp2
     go_roundw
     case rel=>exact ⟨k+1,_,by omega,by go_num,u_ HS,by rw [<- us_set u _ x32];exact u_ HO8,u_ HR8,u_ HB8⟩
     case measure=>simp [intOf];omega
  . obtain rfl:k=m:=by omega
    have HREL':=h_ hrel
    clear hO hR hB hrel
    go_wp2_with (first | (refine q0s rfl _ rfl (w.heap.size+1+1) u rfl (u_ HO) ?_) | (refine q0j rfl _ _ rfl (w.heap.size+1) (fun _=>0) u rfl rfl (u_ HR) ?_;intro w2 hb2 hg2 hs2;replace hb2:=h_ hb2;replace hg2:=h_ hg2))
    refine bodyPost_ret (results_cell_row rfl _ _ (w.heap.size+1) 221 (us u).toArray (0,0) _ rfl (u_ hb2) Tryz.underlying221 rfl (qkh u)) rfl ⟨u,rfl,u_ HREL',?_⟩
    exact (u_ HB).trans ((bR w.heap.size _).grown (u_ hg2) (u_ HB).size (fun k e=>by cases e;omega))
theorem q32 (N:Int) (a:Option Addr) (m c:Nat) (w:World) (hm:m<=9223372036854775807) (hno:¬ (1<=N/\N<=32/\m<=256)) :
 Calls Tryz.prog 137 #[.agg #[.int .i64 N,.slice a m c]] w fun e w'=>e=.returned (.bool false)/\Below w.heap.size w w':=by
 have hcase:N<1 ∨ (1<=N/\32<N) ∨ (1<=N/\N<=32/\256<m):=by omega
 rcases hcase with h | ⟨h,h'⟩ | ⟨h,h',h''⟩
 all_goals
  go_enter Tryz.func137,Tryz.ntmps137
  go_wp2
  go_ret
  exact ⟨rfl,(bR _ _).alloc (nR _) _⟩
theorem qfh (w:World) (t:TypeId) (x y:Int):(w.alloc (.cells #[.int .i64 x,.int .i64 y] t)).cell? ⟨w.heap.size,0,none⟩=some (.int .i64 x)/\(w.alloc (.cells #[.int .i64 x,.int .i64 y] t)).cell? ⟨w.heap.size,1,none⟩=some (.int .i64 y):=by
 have B:=Blk.new w t #[.int .i64 x,.int .i64 y]
 exact ⟨B.cell 0,B.cell 1⟩
theorem q31 (N:Int) (a:Option Addr) (m c:Nat) (f g:Nat->Int) (w:World) (h1:1<=N) (h32:N<=32) (hm:m<=256) (ha:Pairs w a m f g) (V:Bool) (hV:V=true ↔ ∀ k,k<m->0<=f k/\f k<N/\0<=g k/\g k<N) :
 Calls Tryz.prog 137 #[.agg #[.int .i64 N,.slice a m c]] w fun e w'=>e=.returned (.bool V)/\Below w.heap.size w w':=by
 have HV:=h_ hV;clear hV
 go_enter Tryz.func137,Tryz.ntmps137
 go_wp2
 have hb:Below w.heap.size w (w.alloc (.cells #[.int .i64 N,.slice a m c] 100)):=(bR _ _).alloc (nR _) _
 have HB:=h_ hb;clear hb
 have B0:=Blk.new w 100 #[.int .i64 N,.slice a m c]
 have PA:=ha.mono (u_ HB)
 generalize (w.alloc (.cells #[.int .i64 N,.slice a m c] 100))=W at *
 go_loopw [22] (fun i wr=>∃ k:Nat,k<=m/\i=.int .i64 k/\(∀ j,j<k->0<=f j/\f j<N/\0<=g j/\g j<N)/\Below W.heap.size W wr) (fun i _=>m - (intOf i).toNat)
 case atStart=>exact ⟨0,nZ _,rfl,fun j h=>absurd h (nL _),bR _ _⟩
 case round =>
  obtain ⟨k,hk,rfl,heq,hB⟩:=hrel
  have HE:=h_ heq
  clear heq
  have P2:=PA.mono hB
  have c0:=(B0.mono hB B0.lt).cell 0
  simp only [List.getElem?_cons_zero] at c0
  have hs:w.heap.size<wr.heap.size:=Nat.lt_of_lt_of_le B0.lt hB.size
  have HC:=h_ hB;clear hB
  by_cases hlt:k<m
  . obtain ⟨b,off,rfl,hl,hc,hd⟩:=P2 k hlt
    have hF:¬ (0<=f k/\f k<N/\0<=g k/\g k<N)->V=false:=fun hn=>qhh (u_ HV) fun hall=>hn (hall k hlt)
    have HF:=h_ hF;clear hF
    have HZ:=h_ ((u_ HB).trans (((u_ HC).trans (((bR _ _).alloc (nR _) (.cells #[.int .i64 (f k),.int .i64 (g k)] 104)).mono (u_ HC).size)).mono (u_ HB).size))
    have HY:=h_ ((u_ HC).trans (((bR _ _).alloc (nR _) (.cells #[.int .i64 (f k),.int .i64 (g k)] 104)).mono (u_ HC).size))
    obtain ⟨p0,p1⟩:=qfh wr 104 (f k) (g k)
    have q0:=((B0.mono (u_ HY) B0.lt).cell 0)
    simp only [List.getElem?_cons_zero] at q0
    by_cases x1:f k<0 ∨ N<=f k
    . go_wp2_with fail
      refine (q84 (f k) N _ x1).mono ?_
      rintro e w' ⟨rfl,rfl⟩
      go_wp2
      go_ret
      exact ⟨qfz ((u_ HF) (by omega)).symm,u_ HZ⟩
    have y0:0<=f k:=by omega
    have y1:f k<N:=by omega
    by_cases x2:g k<0 ∨ N<=g k
    . go_wp2_with fail
      refine (q5d (f k) N _ y0 y1).mono ?_
      rintro e w' ⟨rfl,rfl⟩
      go_wp2_with fail
      refine (q84 (g k) N _ x2).mono ?_
      rintro e w' ⟨rfl,rfl⟩
      go_wp2
      go_ret
      exact ⟨qfz ((u_ HF) (by omega)).symm,u_ HZ⟩
    have z0:0<=g k:=by omega
    have z1:g k<N:=by omega
    go_wp2_with fail
    refine (q5d (f k) N _ y0 y1).mono ?_
    rintro e w' ⟨rfl,rfl⟩
    go_wp2_with fail
    refine (q5d (g k) N _ z0 z1).mono ?_
    rintro e w' ⟨rfl,rfl⟩
    go_wp2
    go_roundw
    case rel=>exact ⟨k+1,by omega,by go_num,fun j hj=>by
     by_cases e:j=k
     . subst e;omega
     . exact u_ HE j (by omega),u_ HY⟩
    case measure=>simp [intOf];omega
  . go_wp2
    go_ret
    exact ⟨qfz ((u_ HV).2 fun j hj=>(u_ HE) j (by omega)).symm,(u_ HB).trans ((u_ HC).mono (u_ HB).size)⟩
theorem qhi (m:Nat) (F:Nat->Bool):bs (m+1) F=bs m F++[.bool (F m)]:=by simp [bs,List.range_succ]
theorem qin (m:Nat) (F:Nat->Int):is (m+1) F=is m F++[.int .i64 (F m)]:=by simp [is,List.range_succ]
theorem qaa (m:Nat) (F:Nat->Bool):(bs m F).length=m:=by simp [bs]
def tabB (n:Nat) (R:Nat->Nat->Bool) (i:Nat):Bool:=R (i / n) (i % n)
theorem qks {n:Nat} (R:Nat->Nat->Bool) {a b:Nat} (hb:b<n):tabB n R (a*n+b)=R a b:=by
 unfold tabB
 rw [Nat.add_comm,Nat.add_mul_div_right _ _ (by omega),Nat.div_eq_of_lt hb,Nat.add_mul_mod_self_right,Nat.mod_eq_of_lt hb,Nat.zero_add]
theorem qd9 (n:Nat) (g:Nat->Nat) (R:Nat->Nat->Bool) (w:World) (h1:1<=n) (hn:n<=32) (hg:IsRel g R) :
 Calls Tryz.prog 174 #[.agg (us g).toArray,.int .i64 n] w fun e w'=>∃ G,e=.returned (.slice (some ⟨G,0,none⟩) (n*n) (n*n))/\Blk w' G 4 (bs (n*n) (tabB n R))/\w.heap.size<=G/\Below w.heap.size w w':=by
 obtain ⟨i0,hi,hz0,hz1,hz2⟩:=info_parts qbg
 have q1:(n:Int)*n<=1024:=by rw [<- Int.natCast_mul];have:=sq_le hn;omega
 have q0:0<=(n:Int)*n:=by rw [<- Int.natCast_mul];omega
 have q2:=sq_le hn
 have hbn:i0.bytes*(n*n)<=281474976710656:=by rw [hz2];omega
 have hC:((n:Int)*n)=((n*n:Nat):Int):=by simp
 have HC:=h_ hC;clear hC
 go_enter Tryz.func174,Tryz.ntmps174
 go_wp2_with (at_make;refine wpList_make_own _ rfl _ (.tmp 10) 59 rfl w.heap.size 4 i0 (.bool false) 1 Tryz.underlying59 hi hz0 hz1 .i64 .i64 _ (n*n) rfl rfl (u_ HC) hbn (by unfold maxLen;omega) (by simp) ?_;intro w1 hown hgrow)
 have hb1:Below w.heap.size w w1:=((bR _ w).alloc (nR _) _).trans ((bR w.heap.size _).grown hgrow (by simp) (fun k e=>by cases e))
 have hB:=(Blk.new w 221 (us g).toArray).grown hgrow (by simp)
 have HO:=h_ hown;have HB1:=h_ hb1;have HB:=h_ hB
 clear hown hb1 hB hgrow hbn
 go_loopw [5,13] (fun v i wr=>∃ k:Nat,k<=n/\i=.int .i64 k/\v=.slice (some ⟨w.heap.size+1,0,none⟩) (k*n) (n*n)/\wr.ownsRow w.heap.size 4 1 (.slice (some ⟨w.heap.size+1,0,none⟩) (k*n) (n*n)) (k*n) (bs (k*n) (tabB n R))/\Blk wr w.heap.size 221 (us g)/\Below w.heap.size w wr) (fun _ i _=>n - (intOf i).toNat)
 case atStart=>exact ⟨0,nZ _,rfl,by simp,by simpa [bs] using u_ HO,u_ HB,u_ HB1⟩
 case round =>
  clear HO HB HB1
  obtain ⟨k,hk,rfl,rfl,hown,hB,hW⟩:=hrel
  have HO:=h_ hown;have HB:=h_ hB;have HW:=h_ hW;clear hown hB hW
  by_cases hlt:k<n
  . go_wp2_with fail
    go_loopw [5,17] (fun v i wr=>∃ j:Nat,j<=n/\i=.int .i64 j/\v=.slice (some ⟨w.heap.size+1,0,none⟩) (k*n+j) (n*n)/\wr.ownsRow w.heap.size 4 1 (.slice (some ⟨w.heap.size+1,0,none⟩) (k*n+j) (n*n)) (k*n+j) (bs (k*n+j) (tabB n R))/\Blk wr w.heap.size 221 (us g)/\Below w.heap.size w wr) (fun _ i _=>n - (intOf i).toNat)
    case atStart=>exact ⟨0,nZ _,rfl,by simp,by simpa using u_ HO,u_ HB,u_ HW⟩
    case round =>
     clear HO HB HW
     obtain ⟨j,hj,rfl,rfl,hown,hB,hW⟩:=hrel
     by_cases hlj:j<n
     . have k32:k<32:=by omega
       have j32:j<32:=by omega
       have c0:=hB.cell k
       rw [us_get _ k32] at c0
       have l0:=hB.lt
       have gk:=(hg k k32).1
       have hlen:=idx_lt hlt hlj
       have k0i:(0:Int)<=k:=by omega
       have k1i:(k:Int)<32:=by omega
       have HO:=h_ hown;have HB:=h_ hB;have HW:=h_ hW;clear hown hB hW
       have hF:(g k).testBit j=tabB n R (k*n+j):=by rw [(hg k k32).2 j,qks R hlj]
       go_wp2_with (first | (go_at_call 59;refine (qif _ _ _ gk j32).mono ?_;rintro e w' ⟨rfl,rfl⟩) | (at_builtin;refine wpList_append_fits _ rfl _ _ 59 rfl w.heap.size 4 i0 1 Tryz.underlying59 hi hz1 (w.heap.size+1) (k*n+j) (n*n) _ rfl (((u_ HO).alloc _).alloc _) ⟨wr.heap.size+1,0,none⟩ 1 1 [.bool (tabB n R (k*n+j))] rfl rfl ?c1 (by simp [Value.oneCell']) hlen ?_))
       case c1 =>
        intro q u hq
        match q,hq with
        | 0,hq=>simp at hq;subst hq;simp [Addr.add]
       . intro w2 hown2 hgrow2
         rw [<- qhi] at hown2
         have bw2:Below wr.heap.size wr ((wr.alloc (.cells #[.int .u32 (g k:Int)] 137)).alloc (.cells #[.bool (tabB n R (k*n+j))] 4)):=((bR _ _).alloc (nR _) _).alloc (by simp) _
         have hB2:=((u_ HB).mono bw2 l0).grown hgrow2 (by simp)
         have hW2:=((u_ HW).trans (bw2.mono (u_ HW).size)).grown hgrow2 (by have:=(u_ HW).size;simp;omega) (fun q e=>by cases e;omega)
         have HO2:=h_ hown2;have HB2:=h_ hB2;have HW2:=h_ hW2;clear hown2 hgrow2 bw2 hB2 hW2
         go_wp2
         go_roundw
         case rel=>exact ⟨j+1,by omega,by go_num,rfl,u_ HO2,u_ HB2,u_ HW2⟩
         case measure=>simp [intOf];omega
     . obtain rfl:j=n:=by omega
       have HO:=h_ hown;have HB:=h_ hB;have HW:=h_ hW;clear hown hB hW
       go_wp2_with fail
       go_roundw
       case rel=>exact ⟨k+1,by omega,by go_num,by rw [Nat.succ_mul],by rw [Nat.succ_mul];exact u_ HO,u_ HB,u_ HW⟩
       case measure=>simp [intOf];omega
  . obtain rfl:k=n:=by omega
    go_wp2
    go_ret
    exact ⟨_,rfl,Blk.of_owns (u_ HO),by omega,u_ HW⟩
end Go.Proofs.YtgkcaeidhkddjaaGreatDoor
