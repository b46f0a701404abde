import Derived.Test.YtebbgodlijlioaaGreatDoorW08
import Derived.Test.YtebbgodlijlioaaGreatDoorW14
import Derived.Maps.AppendAt
set_option maxRecDepth 100000
set_option maxHeartbeats 64000000
namespace Go.Proofs.YtebbgodlijlioaaGreatDoor
open Go Go.RowKit
def zeroL:Value:=.agg #[.int .i64 0,.slice none 0 0,.slice none 0 0,.slice none 0 0,.int .i64 0,.int .i64 0]
def LatOut (n:Nat)(g d:Nat->Nat)(R:Nat->Nat->Bool)(B:Nat)(e:Ending)(w':World):Prop :=
 ((∃a,a<n/\¬ commonN (g a) (d a)=2 ^ a)/\e=.returned (.tuple #[zeroL,J9 2])) ∨
 ((∀a,a<n->commonN (g a) (d a)=2 ^ a)/\(∃a b,a<n/\b<n/\Entry g a b (-1))/\e=.returned (.tuple #[zeroL,J9 3])) ∨
 ((∀a,a<n->commonN (g a) (d a)=2 ^ a)/\(∃a b,a<n/\b<n/\Entry d a b (-1))/\(∃F:Nat->Int,∀a,a<n->∀b,b<n->0<=F (a*n+b)/\Entry g a b (F (a*n+b)))/\e=.returned (.tuple #[zeroL,J9 4])) ∨
 ((∀a,a<n->commonN (g a) (d a)=2 ^ a)/\∃G1 G2 G3 F1 F2 bot top,e=.returned (.tuple #[.agg #[J9 n,.slice (some ⟨G1,0,none⟩) (n*n) (n*n),.slice (some ⟨G2,0,none⟩) (n*n) (n*n),.slice (some ⟨G3,0,none⟩) (n*n) (n*n),J9 bot,J9 top],J9 0]) /\
  Blk w' G1 4 (bs (n*n) (tabB n R))/\Blk w' G2 3 (is (n*n) F1)/\Blk w' G3 3 (is (n*n) F2)/\B<=G1/\B<=G2/\B<=G3/\G1≠G2/\G1≠G3/\G2≠G3 /\
  (∀a,a<n->∀b,b<n->0<=F1 (a*n+b)/\Entry g a b (F1 (a*n+b)))/\(∀a,a<n->∀b,b<n->0<=F2 (a*n+b)/\Entry d a b (F2 (a*n+b)))/\Least g (2 ^ n - 1) bot/\Least d (2 ^ n - 1) top)
theorem qhc (c:Array Value)(h:c.toList=us fun _=>0)(w:World):Blk (w.alloc (.cells c 126)) w.heap.size 126 (us fun _=>0):=h ▸ Blk.new w 126 c
theorem six {w:World}{b:Nat}{t:TypeId}{v0 v1 v2 v3 v4 v5:Value}(h:Blk w b t [v0,v1,v2,v3,v4,v5]) :
 (w.cell? ⟨b,0,none⟩=some v0/\w.cell? ⟨b,1,none⟩=some v1/\w.cell? ⟨b,2,none⟩=some v2/\w.cell? ⟨b,3,none⟩=some v3/\w.cell? ⟨b,4,none⟩=some v4/\w.cell? ⟨b,5,none⟩=some v5) /\
 (w.frozen? ⟨b,0,none⟩=false/\w.frozen? ⟨b,1,none⟩=false/\w.frozen? ⟨b,2,none⟩=false/\w.frozen? ⟨b,3,none⟩=false/\w.frozen? ⟨b,4,none⟩=false/\w.frozen? ⟨b,5,none⟩=false) :=
 ⟨⟨h.cell 0,h.cell 1,h.cell 2,h.cell 3,h.cell 4,h.cell 5⟩,h.free 0,h.free 1,h.free 2,h.free 3,h.free 4,h.free 5⟩
theorem all_lt {n:Nat}(hn:n<=32):2 ^ n - 1<4294967296:=by
 have:2 ^ n<=2 ^ 32:=Vf (by omega) hn
 omega
def Hold (w':World)(B D A:Nat)(g d:Nat->Nat)(s:Nat):Prop:=Blk w' B 126 (us g)/\Blk w' D 126 (us d)/\Tab w'/\w'.rangeAt B 0 (us g)/\w'.rangeAt D 0 (us d)/\w'.cell? ⟨A,0,none⟩=some (.int .u32 (s:Int))/\A<w'.heap.size
theorem Hold.mono {w w':World}{B D A s:Nat}{g d:Nat->Nat}(h:Hold w B D A g d s)(hb:Below w.heap.size w w'):Hold w' B D A g d s :=
 have h0:=h.1.mono hb h.1.lt
 have h1:=h.2.1.mono hb h.2.1.lt
 ⟨h0,h1,h.2.2.1.mono hb,h0.range,h1.range,(hb.cell (p:=⟨A,0,none⟩) h.2.2.2.2.2.2).trans h.2.2.2.2.2.1,Y5 h.2.2.2.2.2.2 hb.size⟩
theorem Hold.set {w:World}{B D A s O j:Nat}{g d:Nat->Nat}{v:Value}(h:Hold w B D A g d s)(hB:B≠O)(hD:D≠O)(hA:A≠O)(h0:1≠O):Hold (w.setCell ⟨O,j,none⟩ v) B D A g d s :=
 have e0:=h.1.other (a:=⟨O,j,none⟩) v hB
 have e1:=h.2.1.other (a:=⟨O,j,none⟩) v hD
 ⟨e0,e1,h.2.2.1.at0 (heap_setCell_other _ _ _ _ h0),e0.range,e1.range,(World.cell?_of_block (heap_setCell_other _ _ _ _ hA)).trans h.2.2.2.2.2.1,by simpa using h.2.2.2.2.2.2⟩
theorem q2m (n:Nat)(g:Nat->Nat)(R:Nat->Nat->Bool)(w:World)(h1:1<=n)(hn:n<=32)(hg:IsRel g R)(ht:Tab w) :
 Calls Tryz.prog 81 #[J9 n,.agg (us g).toArray] w fun e w'=>Below w.heap.size w w'/\∃d,IsRel d (fun b a=>decide (a<n)&&R a b)/\LatOut n g d R w.heap.size e w':=by
 have hgL:∀a,a<32->g a<4294967296:=fun a ha=>(hg a ha).1
 have B0:=(Blk.new w 126 (us g).toArray).alloc (.cells #[J9 0,Ya,Ya,Ya,J9 0,J9 0] 35)
 have B1:=Blk.new (w.alloc (.cells (us g).toArray 126)) 35 #[J9 0,Ya,Ya,Ya,J9 0,J9 0]
 have BW:Below w.heap.size w ((w.alloc (.cells (us g).toArray 126)).alloc (.cells #[J9 0,Ya,Ya,Ya,J9 0,J9 0] 35)):=((bR _ _).alloc (nR _) _).alloc (by simp) _
 have BT:=ht.mono BW
 simp only[Yx]at B1
 have H0:=h_ B0;have H1:=h_ B1;have HW:=h_ BW;have HT:=h_ BT;clear B0 B1 BW BT
 go_enter Tryz.func81,Tryz.ntmps81
 go_wp2_with (refine q0p rfl _ rfl w.heap.size g rfl H0.u ?_)
 refine(q98 g R n _ hn hg HT.u).mono ?_
 rintro e w1 ⟨d,rfl,hd,hb1⟩
 have hdL:∀a,a<32->d a<4294967296:=fun a ha=>(hd a ha).1
 replace H0:=mB H0 hb1;replace H1:=mB H1 hb1;replace HW:=mT HW hb1;replace HT:=h_ (HT.u.mono hb1)
 clear hb1
 go_wp2_with (first | (refine q0i rfl _ _ rfl w1.heap.size (fun _=>0) d rfl rfl (qhc _ rfl _) ?_;intro w2 hD hgr hsz;have hbb:Below w1.heap.size w1 w2:=((bR _ w1).alloc (nR _) _).grown hgr (by simp) (fun k e=>by cases e;exact nR _);have X0:=mB H0 hbb;have X1:=mB H1 hbb;have XW:=mT HW hbb;have XT:=h_ (HT.u.mono hbb);have XD:=h_ hD;clear hD hgr hsz hbb) | (refine q0p rfl _ rfl w.heap.size g rfl X0.u ?_) | (refine q0p rfl _ rfl w1.heap.size d rfl XD.u ?_))
 by_cases htw:∃a,a<n/\¬ commonN (g a) (d a)=2 ^ a
 . refine(q6f n g d _ hn hgL hdL true ⟨fun _=>htw,fun _=>rfl⟩).mono ?_
   rintro e w3 ⟨rfl,hb3⟩;have HTW:=h_ htw;clear htw;have Y0:=mB X0 hb3;have Y1:=mB X1 hb3;have YW:=h_ (XW.u.trans (hb3.mono XW.u.size));have YT:=h_ (XT.u.mono hb3);have YD:=mB XD hb3;clear hb3 X0 X1 XW XT XD;obtain⟨⟨r0,r1,r2,r3,r4,r5⟩,q0,q1,q2,q3,q4,q5⟩:=six Y1.u;go_wp2;refine bodyPost_ret (v:=.tuple #[zeroL,J9 2]) (by simp[results,Tryz.results81,go_sem,zeroL, *]) rfl ⟨?_,d,hd,.inl ⟨HTW.u,rfl⟩⟩
   iterate 6 refine Below.setCell ?_ (by simp <;> omega) _
   exact YW.u
 refine(q6f n g d _ hn hgL hdL false ⟨(fun h=>by cases h),fun h=>absurd h htw⟩).mono ?_
 rintro e w3 ⟨rfl,hb3⟩
 have HTW:Hi (∀a,a<n->commonN (g a) (d a)=2 ^ a):=fun a ha=>Classical.byContradiction fun h=>htw ⟨a,ha,h⟩
 clear htw
 have Y0:=mB X0 hb3;have Y1:=mB X1 hb3;have YW:=h_ (XW.u.trans (hb3.mono XW.u.size));have YT:=h_ (XT.u.mono hb3);have YD:=mB XD hb3
 clear hb3 X0 X1 XW XT XD
 go_wp2_with (refine q0p rfl _ rfl w.heap.size g rfl Y0.u ?_)
 refine(q6u n g _ h1 hn hgL YT.u).mono ?_
 rintro e w4 ⟨hb4,(⟨G2,F1,rfl,hG2,hG2b,hF1⟩ | ⟨rfl,hx⟩)⟩
 rotate_left
 . have HX:=h_ hx;clear hx
   have Z0:=mB Y0 hb4;have Z1:=mB Y1 hb4;have ZW:=h_ (YW.u.trans (hb4.mono YW.u.size));have ZT:=h_ (YT.u.mono hb4);have ZD:=mB YD hb4;clear hb4 Y0 Y1 YW YT YD;obtain⟨⟨r0,r1,r2,r3,r4,r5⟩,q0,q1,q2,q3,q4,q5⟩:=six Z1.u;go_wp2;refine bodyPost_ret (v:=.tuple #[zeroL,J9 3]) (by simp[results,Tryz.results81,go_sem,zeroL, *]) rfl ⟨?_,d,hd,.inr (.inl ⟨HTW.u,HX.u,rfl⟩)⟩
   iterate 6 refine Below.setCell ?_ (by simp <;> omega) _
   exact ZW.u
 have Z0:=mB Y0 hb4;have Z1:=mB Y1 hb4;have ZW:=h_ (YW.u.trans (hb4.mono YW.u.size));have ZT:=h_ (YT.u.mono hb4);have ZD:=mB YD hb4
 have g2:=Yv YW.u.size hG2b
 clear hb4 Y0 Y1 YW YT YD hG2b
 have HG2:=h_ hG2;have HF1:=h_ hF1;clear hG2 hF1
 go_wp2_with (refine q0p rfl _ rfl w1.heap.size d rfl ZD.u ?_)
 refine(q6u n d _ h1 hn hdL ZT.u).mono ?_
 rintro e w5 ⟨hb5,(⟨G3,F2,rfl,hG3,hG3b,hF2⟩ | ⟨rfl,hx⟩)⟩
 rotate_left
 . have HX:=h_ hx;clear hx
   have U0:=mB Z0 hb5;have U1:=mB Z1 hb5;have UW:=h_ (ZW.u.trans (hb5.mono ZW.u.size));have UT:=h_ (ZT.u.mono hb5);have UD:=mB ZD hb5;clear hb5 Z0 Z1 ZW ZT ZD;obtain⟨⟨r0,r1,r2,r3,r4,r5⟩,q0,q1,q2,q3,q4,q5⟩:=six U1.u;go_wp2;refine bodyPost_ret (v:=.tuple #[zeroL,J9 4]) (by simp[results,Tryz.results81,go_sem,zeroL, *]) rfl ⟨?_,d,hd,.inr (.inr (.inl ⟨HTW.u,HX.u,⟨F1,HF1.u⟩,rfl⟩))⟩
   iterate 6 refine Below.setCell ?_ (by simp <;> omega) _
   exact UW.u
 have U0:=mB Z0 hb5;have U1:=mB Z1 hb5;have UW:=h_ (ZW.u.trans (hb5.mono ZW.u.size));have UT:=h_ (ZT.u.mono hb5);have UD:=mB ZD hb5
 have g3:=Yv ZW.u.size hG3b
 have g23:G2<G3:=Y5 HG2.u.lt hG3b
 replace HG2:=mB HG2 hb5
 clear hb5 Z0 Z1 ZW ZT ZD hG3b
 have HG3:=h_ hG3;have HF2:=h_ hF2;clear hG3 hF2
 go_wp2_with (go_at_call 119;refine(qhf n _ hn).mono ?_;rintro e w6 ⟨rfl,hb6⟩;have V0:=mB U0 hb6;have V1:=mB U1 hb6;have VW:=h_ (UW.u.trans (hb6.mono UW.u.size));have VT:=h_ (UT.u.mono hb6);have VD:=mB UD hb6;have VG2:=mB HG2 hb6;have VG3:=mB HG3 hb6;clear hb6)
 have bA:=Blk.new w6 124 (#[.int .u32 ((2 ^ n - 1:Nat):Int)])
 have bW:Below w6.heap.size w6 (w6.alloc (.cells (#[.int .u32 ((2 ^ n - 1:Nat):Int)]) 124)):=(bR _ _).alloc (nR _) _
 have S0:Hi (Hold (w6.alloc (.cells (#[.int .u32 ((2 ^ n - 1:Nat):Int)]) 124)) w.heap.size w1.heap.size w6.heap.size g d (2 ^ n - 1)) :=
  have h0:=V0.u.mono bW V0.u.lt;have h1:=VD.u.mono bW VD.u.lt
  ⟨h0,h1,VT.u.mono bW,h0.range,h1.range,bA.cell 0,bA.lt⟩
 have hall:=all_lt hn
 obtain⟨m,hm⟩:=Nq (2 ^ n - 1)
 rw[hm]at hall S0⊢
 rw[hm]at bW
 have HM:=h_ hm
 clear hm bA
 obtain⟨W7,hW7⟩:=Nq (w6.alloc (.cells #[.int .u32 (m:Int)] 124))
 rw[hW7]at S0 bW⊢
 clear hW7
 have Z1:=mB V1 bW;have ZW:=h_ (VW.u.trans (bW.mono VW.u.size))
 have ZG2:=mB VG2 bW;have ZG3:=mB VG3 bW
 have n1:¬ w.heap.size=w.heap.size+1:=by omega
 have n2:w1.heap.size≠w.heap.size+1:=fun e=>by have h:=VD.u;rw[e]at h;have h':=h.symm.trans V1.u;simp at h'
 have n3:w6.heap.size≠w.heap.size+1:=by have:=V1.u.lt;omega
 have n4:¬ 1=w.heap.size+1:=by first | omega | (have:=HT.u.pos;omega) | (have:=ht.pos;omega)
 have n5:G2≠w.heap.size+1:=fun e=>by have h:=VG2.u;rw[e]at h;have h':=h.symm.trans V1.u;simp at h'
 have n6:G3≠w.heap.size+1:=fun e=>by have h:=VG3.u;rw[e]at h;have h':=h.symm.trans V1.u;simp at h'
 have s7:w.heap.size<=W7.heap.size:=ZW.u.size
 have l2:=ZG2.u.lt;have l3:=ZG3.u.lt;have l1:=Z1.u.lt
 clear H0 H1 HW HT U0 U1 UW UT UD HG2 HG3 V0 V1 VW VT VD VG2 VG3 bW
 refine wp_region_held_drew (S:=fun w'=>Hold w' w.heap.size w1.heap.size w6.heap.size g d m) (by kernel_rfl) S0.u (fun zz=>?_)
 refine take (i:=0) (v:=J9 n) 39 rfl rfl (by kernel_rfl) (by kernel_rfl) (by kernel_rfl) (fun _ _ _ _ h=>h) (by exact q6j (by rfl) (.tmp 0) _ rfl rfl) zz ?_
 simp only[sX,sY,sZ]
 refine take (i:=2) (v:=J9 n) 41 rfl rfl (by kernel_rfl) (by kernel_rfl) (by kernel_rfl) (fun _ _ _ _ h=>h) (by exact q6j (by rfl) (.tmp 0) _ rfl rfl) zz ?_
 simp only[sX,sY,sZ]
 refine take (i:=4) (v:=.slice (some ⟨G2,0,none⟩) (n*n) (n*n)) 43 rfl rfl (by kernel_rfl) (by kernel_rfl) (by kernel_rfl) (fun _ _ _ _ h=>h) (by exact q6j (by rfl) (.tmp 7) _ rfl rfl) zz ?_
 simp only[sX,sY,sZ]
 refine take (i:=5) (v:=.slice (some ⟨G3,0,none⟩) (n*n) (n*n)) 44 rfl rfl (by kernel_rfl) (by kernel_rfl) (by kernel_rfl) (fun _ _ _ _ h=>h) (by exact q6j (by rfl) (.tmp 9) _ rfl rfl) zz ?_
 simp only[sX,sY,sZ]
 refine take (i:=1) (v:=.agg (us g).toArray) 40 rfl rfl (by kernel_rfl) (by kernel_rfl) (by kernel_rfl) (fun _ _ _ _ h=>h) (by exact q6k (by rfl) (.tmp 3) rfl w.heap.size g rfl (fun _ h=>h.1)) zz ?_
 simp only[sX,sY,sZ]
 refine take (i:=6) (v:=.agg (us g).toArray) 45 rfl rfl (by kernel_rfl) (by kernel_rfl) (by kernel_rfl) (fun _ _ _ _ h=>h) (by exact q6k (by rfl) (.tmp 3) rfl w.heap.size g rfl (fun _ h=>h.1)) zz ?_
 simp only[sX,sY,sZ]
 refine take (i:=9) (v:=.agg (us d).toArray) 48 rfl rfl (by kernel_rfl) (by kernel_rfl) (by kernel_rfl) (fun _ _ _ _ h=>h) (by exact q6k (by rfl) (.tmp 6) rfl w1.heap.size d rfl (fun _ h=>h.2.1)) zz ?_
 simp only[sX,sY,sZ]
 refine take (i:=7) (v:=.agg #[.int .u32 (m:Int)]) 46 rfl rfl (by kernel_rfl) (by kernel_rfl) (by kernel_rfl) (fun _ _ _ _ h=>h) (by exact q9h (by rfl) (.tmp 10) rfl w6.heap.size 0 _ rfl (fun _ h=>h.2.2.2.2.2.1)) zz ?_
 simp only[sX,sY,sZ]
 refine take (i:=10) (v:=.agg #[.int .u32 (m:Int)]) 49 rfl rfl (by kernel_rfl) (by kernel_rfl) (by kernel_rfl) (fun _ _ _ _ h=>h) (by exact q9h (by rfl) (.tmp 10) rfl w6.heap.size 0 _ rfl (fun _ h=>h.2.2.2.2.2.1)) zz ?_
 simp only[sX,sY,sZ]
 refine callH (i:=3) (f:=120) (args:=#[.agg (us g).toArray,J9 n]) (R:=fun v w8=>∃G1,v=.slice (some ⟨G1,0,none⟩) (n*n) (n*n)/\Blk w8 G1 4 (bs (n*n) (tabB n R))/\W7.heap.size<=G1/\Below W7.heap.size W7 w8) 42 rfl rfl (by rfl) (by kernel_rfl) ?hrun1 ((qcu n g R _ h1 hn hg).mono fun e w8 ⟨G1,he,hG1,hG1b,hb8⟩=>⟨_,he,G1,rfl,hG1,hG1b,q25 hb8⟩) ?_
 case hrun1=>simp[execOp,go_sem]
 rintro v w8 ⟨G1,rfl,hG1,hG1b,hb8⟩
 have S1:Hold w8 w.heap.size w1.heap.size w6.heap.size g d m:=S0.u.mono hb8
 refine⟨S1,?_⟩
 simp only[sX,sY,sZ]
 refine callH (i:=8) (f:=121) (args:=#[.agg (us g).toArray,.agg #[.int .u32 (m:Int)]]) (R:=fun v w'=>∃r,v=J9 r/\Least g m r/\Below w8.heap.size w8 w') 47 rfl rfl (by rfl) (by kernel_rfl) ?hrun2 ((q5n g m _ hgL hall S1.2.2.1).mono fun e w' ⟨r,he,hr,hb⟩=>⟨_,he,r,rfl,hr,hb⟩) ?_
 case hrun2=>simp[execOp,go_sem]
 rintro v w9 ⟨bot,rfl,hbot,hb9⟩
 have S2:=S1.mono hb9
 refine⟨S2,?_⟩
 simp only[sX,sY,sZ]
 refine callH (i:=11) (f:=121) (args:=#[.agg (us d).toArray,.agg #[.int .u32 (m:Int)]]) (R:=fun v w'=>∃r,v=J9 r/\Least d m r/\Below w9.heap.size w9 w') 50 rfl rfl (by rfl) (by kernel_rfl) ?hrun3 ((q5n d m _ hdL hall S2.2.2.1).mono fun e w' ⟨r,he,hr,hb⟩=>⟨_,he,r,rfl,hr,hb⟩) ?_
 case hrun3=>simp[execOp,go_sem]
 rintro v w10 ⟨top,rfl,htop,hb10⟩
 have S3:=S2.mono hb10
 refine⟨S3,?_⟩
 simp only[sX,sY,sZ]
 have hb79:Below W7.heap.size W7 w10:=(hb8.trans (hb9.mono hb8.size)).trans (hb10.mono (Yv hb8.size hb9.size))
 have X1:=Z1.u.mono hb79 l1
 obtain⟨⟨r0,r1,r2,r3,r4,r5⟩,q0,q1,q2,q3,q4,q5⟩:=six X1
 refine take (i:=12) (v:=.agg #[J9 n,.slice (some ⟨G1,0,none⟩) (n*n) (n*n),.slice (some ⟨G2,0,none⟩) (n*n) (n*n),.slice (some ⟨G3,0,none⟩) (n*n) (n*n),J9 bot,J9 top]) 51 rfl rfl (by kernel_rfl) (by kernel_rfl) (by kernel_rfl) (fun _ _ _ _ h=>h) (.inl ⟨by rfl,fun w' _=>?build⟩) S3 ?_
 case build=>simp[execOp,go_sem]
 simp only[sX,sY,sZ]
 refine runH (i:=13) rfl (by rfl) (by kernel_rfl) rfl (v:=.skip) (w':=(((((w10.setCell ⟨w.heap.size+1,0,none⟩ (J9 n)).setCell ⟨w.heap.size+1,1,none⟩ (.slice (some ⟨G1,0,none⟩) (n*n) (n*n))).setCell ⟨w.heap.size+1,2,none⟩ (.slice (some ⟨G2,0,none⟩) (n*n) (n*n))).setCell ⟨w.heap.size+1,3,none⟩ (.slice (some ⟨G3,0,none⟩) (n*n) (n*n))).setCell ⟨w.heap.size+1,4,none⟩ (J9 bot)).setCell ⟨w.heap.size+1,5,none⟩ (J9 top)) ?hrun4 rfl ((((((S3.set n1 n2 n3 n4).set n1 n2 n3 n4).set n1 n2 n3 n4).set n1 n2 n3 n4).set n1 n2 n3 n4).set n1 n2 n3 n4) ?_
 case hrun4=>simp[execOp,go_sem, *]
 have S4:=(((((S3.set (j:=0) (v:=J9 (n:Int)) n1 n2 n3 n4).set (j:=1) (v:=.slice (some ⟨G1,0,none⟩) (n*n) (n*n)) n1 n2 n3 n4).set (j:=2) (v:=.slice (some ⟨G2,0,none⟩) (n*n) (n*n)) n1 n2 n3 n4).set (j:=3) (v:=.slice (some ⟨G3,0,none⟩) (n*n) (n*n)) n1 n2 n3 n4).set (j:=4) (v:=J9 bot) n1 n2 n3 n4).set (j:=5) (v:=J9 top) n1 n2 n3 n4
 refine take (i:=14) (v:=J9 0) 5 rfl rfl (by kernel_rfl) (by kernel_rfl) (by kernel_rfl) (fun _ _ _ _ h=>h) (.inl ⟨by rfl,fun w' _=>?asg⟩) S4 ?_
 case asg=>simp[execOp,go_sem]
 simp only[sX,sY,sZ]
 refine wpAnyH_done (by kernel_rfl) ?_ _
 have XG2:=h_ (ZG2.u.mono hb79 l2);have XG3:=h_ (ZG3.u.mono hb79 l3)
 have XG1:=h_ ((hG1.mono hb9 hG1.lt).mono hb10 (hG1.mono hb9 hG1.lt).lt)
 have XW:=h_ (ZW.u.trans (hb79.mono s7))
 have HBOT:=h_ hbot;have HTOP:=h_ htop
 have n7:G1≠w.heap.size+1:=by omega
 have n8:G1≠G2:=by omega
 have n9:G1≠G3:=by omega
 clear S1 S2 S3 S4 X1 hb8 hb9 hb10 hb79 hG1 hbot htop zz
 go_wp2
 refine bodyPost_ret (v:=.tuple #[.agg #[J9 n,.slice (some ⟨G1,0,none⟩) (n*n) (n*n),.slice (some ⟨G2,0,none⟩) (n*n) (n*n),.slice (some ⟨G3,0,none⟩) (n*n) (n*n),J9 bot,J9 top],J9 0]) (by simp[results,Tryz.results81,go_sem, *]) rfl ⟨?_,d,hd,.inr (.inr (.inr ⟨HTW.u,G1,G2,G3,F1,F2,bot,top,rfl,?_,?_,?_,by omega,g2,g3,n8,n9,by omega,HF1.u,HF2.u,by rw[HM.u];exact HBOT.u,by rw[HM.u];exact HTOP.u⟩))⟩
 . iterate 6 refine Below.setCell ?_ (by simp <;> omega) _
   exact XW.u
 . iterate 6 refine Blk.other ?_ _ (by simp <;> omega)
   exact XG1.u
 . iterate 6 refine Blk.other ?_ _ (by simp <;> omega)
   exact XG2.u
 . iterate 6 refine Blk.other ?_ _ (by simp <;> omega)
   exact XG3.u
def JF (F:Nat->Bool)(n i:Nat):Int:=firstN (isJoin F n (i / n) (i % n)) n
def MF (F:Nat->Bool)(n i:Nat):Int:=firstN (isMeet F n (i / n) (i % n)) n
def TwoW (F:Nat->Bool)(n:Nat):Prop:=∃a b,a<n/\b<n/\a≠b/\F (a*n+b)=true/\F (b*n+a)=true
def lastN (p:Nat->Bool):Nat->Int
 | 0=>0
 | k+1=>if p k then (k:Int) else lastN p k
def belowAll (F:Nat->Bool)(n m c:Nat):Bool:=(List.range m).all fun d=>F (c*n+d)
def aboveAll (F:Nat->Bool)(n m c:Nat):Bool:=(List.range m).all fun d=>F (d*n+c)
theorem q24 (F:Nat->Bool)(n m c:Nat):belowAll F n (m+1) c=(belowAll F n m c&&F (c*n+m)):=by simp[belowAll,List.range_succ]
theorem q23 (F:Nat->Bool)(n m c:Nat):aboveAll F n (m+1) c=(aboveAll F n m c&&F (m*n+c)):=by simp[aboveAll,List.range_succ]
def SpecOut (n:Nat)(F:Nat->Bool)(e:Ending)(w':World):Prop :=
 (TwoW F n/\e=.returned (.tuple #[zeroL,J9 2])) ∨
 (¬ TwoW F n/\(∃i,i<n*n/\JF F n i<0)/\e=.returned (.tuple #[zeroL,J9 3])) ∨
 (¬ TwoW F n/\(∀i,i<n*n->0<=JF F n i)/\(∃i,i<n*n/\MF F n i<0)/\e=.returned (.tuple #[zeroL,J9 4])) ∨
 (¬ TwoW F n/\(∀i,i<n*n->0<=JF F n i)/\(∀i,i<n*n->0<=MF F n i)/\∃a1 a2 a3 c1 c2 c3,e=.returned (.tuple #[.agg (Jo n a1 (n*n) c1 a2 c2 a3 c3 (lastN (belowAll F n n) n) (lastN (aboveAll F n n) n)),J9 0]) /\
  Bools w' a1 (n*n) F/\Ints w' a2 (n*n) (JF F n)/\Ints w' a3 (n*n) (MF F n))
theorem six' {w:World}{b:Nat}{t:TypeId}{v0 v1 v2 v3 v4 v5:Value}(h:Blk w b t [v0,v1,v2,v3,v4,v5]) :
 (w.cell? ⟨b,0,none⟩=some v0/\w.cell? ⟨b,1,none⟩=some v1/\w.cell? ⟨b,2,none⟩=some v2/\w.cell? ⟨b,3,none⟩=some v3/\w.cell? ⟨b,4,none⟩=some v4/\w.cell? ⟨b,5,none⟩=some v5)/\(w.frozen? ⟨b,0,none⟩=false/\w.frozen? ⟨b,1,none⟩=false/\w.frozen? ⟨b,2,none⟩=false/\w.frozen? ⟨b,3,none⟩=false/\w.frozen? ⟨b,4,none⟩=false/\w.frozen? ⟨b,5,none⟩=false) :=
 ⟨⟨h.cell 0,h.cell 1,h.cell 2,h.cell 3,h.cell 4,h.cell 5⟩,⟨h.free 0,h.free 1,h.free 2,h.free 3,h.free 4,h.free 5⟩⟩
theorem q6s {B:Nat}{w w':World}(h:Below B w w'){R:Nat}(hR:B<=R)(v0 v1 v2 v3 v4 v5:Value):Below B w ((((((w'.setCell ⟨R,0,none⟩ v0).setCell ⟨R,1,none⟩ v1).setCell ⟨R,2,none⟩ v2).setCell ⟨R,3,none⟩ v3).setCell ⟨R,4,none⟩ v4).setCell ⟨R,5,none⟩ v5) :=
 (((((h.setCell (p:=⟨R,0,none⟩) hR v0).setCell (p:=⟨R,1,none⟩) hR v1).setCell (p:=⟨R,2,none⟩) hR v2).setCell (p:=⟨R,3,none⟩) hR v3).setCell (p:=⟨R,4,none⟩) hR v4).setCell (p:=⟨R,5,none⟩) hR v5
theorem q2v (N:Int)(a:Option Addr)(m c:Nat)(w:World)(hc:∀w',Below w.heap.size w w'->Calls Tryz.prog 29 #[.agg (Jm N a m c)] w' fun e w''=>e=.returned (.bool false)/\Below w'.heap.size w' w'') :
 Calls Tryz.prog 8 #[.agg (Jm N a m c)] w fun e w'=>e=.returned (.tuple #[zeroL,J9 1])/\Below w.heap.size w w':=by
 have HR:=h_ (by simpa using Blk.new (w.alloc (.cells (Jm N a m c) 39)) 35 #[J9 0,Ya,Ya,Ya,J9 0,J9 0]:Blk ((w.alloc (.cells (Jm N a m c) 39)).alloc (.cells #[J9 0,Ya,Ya,Ya,J9 0,J9 0] 35)) (w.heap.size+1) 35 [J9 0,Ya,Ya,Ya,J9 0,J9 0])
 have H0:=h_ ((Blk.new w 39 (Jm N a m c)).alloc (.cells #[J9 0,Ya,Ya,Ya,J9 0,J9 0] 35))
 have HW:Hi (Below w.heap.size w ((w.alloc (.cells (Jm N a m c) 39)).alloc (.cells #[J9 0,Ya,Ya,Ya,J9 0,J9 0] 35))):=((bR _ w).alloc (nR _) _).alloc (by simp) _
 go_enter Tryz.func8,Tryz.ntmps8
 go_wp2_with fail
 refine(hc _ HW.u).mono ?_
 rintro e w1 ⟨rfl,hb⟩
 replace HR:=mB HR hb;replace H0:=mB H0 hb;replace HW:=mT HW hb
 clear hb
 obtain⟨⟨r0,r1,r2,r3,r4,r5⟩,⟨f0,f1,f2,f3,f4,f5⟩⟩:=six' HR.u
 have HZ:=h_ (q6s HW.u (Vl _) (J9 0) Ya Ya Ya (J9 0) (J9 0))
 go_wp2
 refine bodyPost_ret (v:=.tuple #[zeroL,J9 1]) (by simp[results,Tryz.results8,go_sem,zeroL, *]) rfl ⟨?_,HZ.u⟩
 rfl
theorem qbv {w:World}{base base':Nat}{e:TypeId}{size:Nat}{v:Value}{n:Nat}{xs:List Value}(h:w.ownsRow base e size v n xs)(hb:base'<=base):w.ownsRow base' e size v n xs:=by
 rcases h.2 with h' | ⟨g,cap,cur,e',hb',h3⟩
 . exact⟨h.1,.inl h'⟩
 . exact⟨h.1,.inr ⟨g,cap,cur,e',Yv hb hb',h3⟩⟩
theorem q9w (w:World)(t:TypeId)(v:Value):∀(j:Nat) (u:Value),[v][j]? = some u->(w.alloc (.cells #[v] t)).cell? ((⟨w.heap.size,0,none⟩:Addr).add j)=some u:=fun j u h=>by
 match j,h with
 | 0,h=>simp at h;subst h;exact(Blk.new w t #[v]).cell 0
theorem qj7 {w:World}{base:Nat}{e:TypeId}{v:Value}{n:Nat}{G:Nat->Int}(h:w.ownsRow base e 1 v n (is n G)):∃a cap,v=.slice a n cap/\Ints w a n G:=by
 rcases h.2 with ⟨rfl,rfl⟩ | ⟨g,cap,cur,rfl,hb,hg,hc,-,hs,htake⟩
 . exact⟨none,0,rfl,fun k hk=>absurd hk (nL _)⟩
 . refine⟨_,cap,rfl,fun k hk=>⟨g,0,rfl,(Yr.1 hg).1,?_⟩⟩
   have:=h.cellAt k (by omega);rw[Zj,this];simp[is,hk]
theorem two' {w:World}{b:Nat}{t:TypeId}{v0 v1:Value}(h:Blk w b t [v0,v1]) :
 (w.cell? ⟨b,0,none⟩=some v0/\w.cell? ⟨b,1,none⟩=some v1)/\(w.frozen? ⟨b,0,none⟩=false/\w.frozen? ⟨b,1,none⟩=false):=⟨⟨h.cell 0,h.cell 1⟩,⟨h.free 0,h.free 1⟩⟩
theorem q4c (n:Nat)(a:Option Addr)(m c:Nat)(f g:Nat->Nat)(w:World)(h1:1<=n)(h32:n<=32)(hm:m<=256)(ha:Pairs w a m (fun k=>(f k:Int)) (fun k=>(g k:Int)))(hf:∀k,k<m->f k<n)(hg:∀k,k<m->g k<n)(F:Nat->Bool)(hF:tabB n (rounds diag f g m n)=F) :
 Calls Tryz.prog 8 #[.agg (Jm n a m c)] w fun e w'=>SpecOut n F e w'/\Below w.heap.size w w':=by
 have HR:=h_ (by simpa using Blk.new (w.alloc (.cells (Jm n a m c) 39)) 35 #[J9 0,Ya,Ya,Ya,J9 0,J9 0]:Blk ((w.alloc (.cells (Jm n a m c) 39)).alloc (.cells #[J9 0,Ya,Ya,Ya,J9 0,J9 0] 35)) (w.heap.size+1) 35 [J9 0,Ya,Ya,Ya,J9 0,J9 0])
 have H0:=h_ ((Blk.new w 39 (Jm n a m c)).alloc (.cells #[J9 0,Ya,Ya,Ya,J9 0,J9 0] 35))
 have HW:Hi (Below w.heap.size w ((w.alloc (.cells (Jm n a m c) 39)).alloc (.cells #[J9 0,Ya,Ya,Ya,J9 0,J9 0] 35))):=((bR _ w).alloc (nR _) _).alloc (by simp) _
 go_enter Tryz.func8,Tryz.ntmps8
 go_wp2_with fail
 refine(q0u n a m c _ _ _ (by omega) (by omega) hm (ha.mono HW.u) true ⟨fun _ k hk=>by have:=hf k hk;have:=hg k hk;omega,fun _=>rfl⟩).mono ?_
 rintro e w1 ⟨rfl,hb⟩
 replace HR:=mB HR hb;replace H0:=mB H0 hb;replace HW:=mT HW hb
 clear hb
 obtain⟨⟨o0,o1⟩,-⟩:=two' H0.u
 go_wp2_with fail
 refine(q2d n a m c f g _ h1 h32 hm (ha.mono HW.u) hf hg).mono ?_
 rintro e w2 ⟨G,rfl,hG,hGw,hb⟩
 have hR1:=HR.u.lt
 replace HR:=mB HR hb;replace H0:=mB H0 hb;replace HW:=mT HW hb
 clear hb o0 o1
 rw[hF]at hG
 have HG:=h_ hG
 have hGR:G≠w.heap.size+1:=by omega
 have hRs:w.heap.size+1<w2.heap.size:=HR.u.lt
 clear hG ha hf hg hF hGw hR1
 have hsq:=sq_le h32
 go_wp2_with fail
 go_loop [6] (fun i=>∃k:Nat,k<=n/\i=J9 k/\∀x,x<k->∀y,y<n->¬ (x≠y/\F (x*n+y)=true/\F (y*n+x)=true)) (fun i=>n - (intOf i).toNat)
 case atStart=>exact⟨0,nZ _,rfl,fun x h=>absurd h (nL _)⟩
 case round =>
  obtain⟨k,hk,rfl,hall⟩:=hrel;have HA:=h_ hall;clear hall;by_cases hlt:k<n
  . go_wp2_with fail
    go_loop [7] (fun i=>∃j:Nat,j<=n/\i=J9 j/\∀y,y<j->¬ (k≠y/\F (k*n+y)=true/\F (y*n+k)=true)) (fun i=>n - (intOf i).toNat)
    case atStart=>exact⟨0,nZ _,rfl,fun x h=>absurd h (nL _)⟩
    case round =>
     obtain⟨j,hj,rfl,hall⟩:=hrel;have HB:=h_ hall;clear hall;by_cases hlj:j<n
     . have hcs:(((k:Int) != j)=true/\F (k*n+j)=true/\F (j*n+k)=true)∨(((k:Int) != j)=false∨(((k:Int) != j)=true/\F (k*n+j)=false)∨(((k:Int) != j)=true/\F (k*n+j)=true/\F (j*n+k)=false)):=by
        cases ((k:Int) != j) <;> cases F (k*n+j) <;> cases F (j*n+k) <;> simp
       rcases hcs with ⟨e1,e2,e3⟩ | hcs
       . have HT:Hi (TwoW F n):=⟨k,j,hlt,hlj,fun e=>by subst e;simp at e1,e2,e3⟩
         obtain⟨⟨r0,r1,r2,r3,r4,r5⟩,⟨f0,f1,f2,f3,f4,f5⟩⟩:=six' HR.u;have HZ:=h_ (q6s HW.u (Vl _) (J9 0) Ya Ya Ya (J9 0) (J9 0));go_wp2_with (go_at_call 31;refine(qb6 _ _ _ _ _ _ F _ (nR _) (by omega) (by omega) h32 HG.u.bools).mono ?_;rintro e w' ⟨rfl,rfl⟩);exact bodyPost_ret (v:=.tuple #[zeroL,J9 2]) (by simp[results,Tryz.results8,go_sem,zeroL, *]) rfl ⟨.inl ⟨HT.u,rfl⟩,HZ.u⟩
       . have HN:Hi (¬ (k≠j/\F (k*n+j)=true/\F (j*n+k)=true)):=fun⟨e1,e2,e3⟩=>by
          rcases hcs with h | ⟨_,h⟩ | ⟨_,_,h⟩
          . simp at h;omega
          . exact Ve (h.symm.trans e2)
          . exact Ve (h.symm.trans e3)
         rcases hcs with e1 | ⟨e1,e2⟩ | ⟨e1,e2,e3⟩
         all_goals
          go_wp2_with (go_at_call 31;refine(qb6 _ _ _ _ _ _ F _ (nR _) (by omega) (by omega) h32 HG.u.bools).mono ?_;rintro e w' ⟨rfl,rfl⟩)
          go_round
          case rel=>exact⟨j+1,by omega,by go_num,fun y hy=>by
           by_cases e:y=j
           . rw[e];exact HN.u
           . exact HB.u y (by omega)⟩
          case measure=>simp[intOf];omega
     . go_wp2_with fail
       go_round
       case rel=>exact⟨k+1,by omega,by go_num,fun x hx y hy=>by
        by_cases e:x=k
        . rw[e];exact HB.u y (by omega)
        . exact HA.u x (by omega) y hy⟩
       case measure=>simp[intOf];omega
  . obtain rfl:n=k:=by omega
    have hN2:¬ TwoW F n:=fun⟨x,y,hx,hy,h⟩=>HA.u x (by omega) y hy h;have HN2:=h_ hN2;clear hN2 HA hlt hk;go_wp2_with fail;have hb2:Below w2.heap.size w2 ((w2.alloc (.cells #[] 3)).alloc (.cells #[] 3)):=((bR _ w2).alloc (nR _) _).alloc (by simp) _;have O1:((w2.alloc (.cells #[] 3)).alloc (.cells #[] 3)).ownsRow w2.heap.size 3 1 (.slice (some ⟨w2.heap.size,0,none⟩) 0 0) 0 (is 0 (JF F n)):=(qc1 w2 3).alloc _;have O2:((w2.alloc (.cells #[] 3)).alloc (.cells #[] 3)).ownsRow w2.heap.size 3 1 (.slice (some ⟨w2.heap.size+1,0,none⟩) 0 0) 0 (is 0 (MF F n)):=by
     have:=qc1 (w2.alloc (.cells #[] 3)) 3;simp only[Yx]at this;exact qbv this (Vl _)
    have P1:=h_ O1;have P2:=h_ O2;have PB:=h_ hb2;clear O1 O2 hb2;have zm:∀G:Nat->Int,(false=true ↔ ∃i,i<0*n/\G i<0):=fun G=>⟨(fun h=>by cases h),(fun⟨i,hi,_⟩=>by simp at hi)⟩;go_loopw [8,9,10,11,12] (fun vj vm nj nm i wr=>∃(k:Nat) (bj bm:Bool),k<=n/\i=J9 k/\nj=.bool bj/\nm=.bool bm/\(bj=true ↔ ∃i,i<k*n/\JF F n i<0)/\(bm=true ↔ ∃i,i<k*n/\MF F n i<0)/\wr.ownsRow w2.heap.size 3 1 vj (k*n) (is (k*n) (JF F n))/\wr.ownsRow w2.heap.size 3 1 vm (k*n) (is (k*n) (MF F n))/\vj.ownBlock≠vm.ownBlock/\Below w2.heap.size w2 wr) (fun _ _ _ _ i _=>n - (intOf i).toNat)
    case atStart=>exact⟨0,false,false,nZ _,rfl,rfl,rfl,zm _,zm _,by simpa using P1.u,by simpa using P2.u,by simp[Value.ownBlock],PB.u⟩
    case round =>
     clear P1 P2 PB zm;obtain⟨k,bj,bm,hk,rfl,rfl,rfl,hbj,hbm,hoj,hom,hne,hB⟩:=hrel;have HBJ:=h_ hbj;have HBM:=h_ hbm;have HOJ:=h_ hoj;have HOM:=h_ hom;have HNE:=h_ hne;have HB:=h_ hB;clear hbj hbm hoj hom hne;by_cases hlt:k<n
     . clear hB
       go_wp2_with fail;go_loopw [8,9,10,11,13] (fun vj vm nj nm i wr=>∃(j:Nat) (bj bm:Bool),j<=n/\i=J9 j/\nj=.bool bj/\nm=.bool bm/\(bj=true ↔ ∃i,i<k*n+j/\JF F n i<0)/\(bm=true ↔ ∃i,i<k*n+j/\MF F n i<0)/\wr.ownsRow w2.heap.size 3 1 vj (k*n+j) (is (k*n+j) (JF F n))/\wr.ownsRow w2.heap.size 3 1 vm (k*n+j) (is (k*n+j) (MF F n))/\vj.ownBlock≠vm.ownBlock/\Below w2.heap.size w2 wr) (fun _ _ _ _ i _=>n - (intOf i).toNat)
       case atStart=>exact⟨0,bj,bm,nZ _,rfl,rfl,rfl,HBJ.u,HBM.u,HOJ.u,HOM.u,HNE.u,HB.u⟩
       case round =>
        clear HBJ HBM HOJ HOM HNE HB;obtain⟨j,bj,bm,hj,rfl,rfl,rfl,hbj,hbm,hoj,hom,hne,hB⟩:=hrel;have HBJ:=h_ hbj;have HBM:=h_ hbm;have HOJ:=h_ hoj;have HOM:=h_ hom;have HNE:=h_ hne;have HB:=h_ hB;clear hbj hbm hoj hom hne;by_cases hlj:j<n
        . have hG2:=(HG.u.mono hB HG.u.lt).bools
          have HG2:=h_ hG2;have hix:=idx_lt hlt hlj;have hjd:(k*n+j) / n=k/\(k*n+j) % n=j:=by
           rw[Oo,Vc _ _ (by omega),Vm hlj,Zx,Z4 hlj];simp
          obtain⟨vJ,hvJ⟩:∃v,JF F n (k*n+j)=v:=⟨_,rfl⟩;obtain⟨vM,hvM⟩:∃v,MF F n (k*n+j)=v:=⟨_,rfl⟩;have hfJ:firstN (isJoin F n k j) n=vJ:=(by rw[<- hvJ,JF,hjd.1,hjd.2]);have hfM:firstN (isMeet F n k j) n=vM:=(by rw[<- hvM,MF,hjd.1,hjd.2]);have HVJ:=h_ hvJ;have HVM:=h_ hvM;clear hG2 hB hjd hvJ hvM;go_wp2_with fail;refine(q7p _ _ _ n k j F _ (nR _) h32 hlt hlj HG2.u vJ hfJ).mono ?_;rintro e w' ⟨rfl,rfl⟩;go_wp2_with fail;refine(q7q _ _ _ n k j F _ (nR _) h32 hlt hlj HG2.u vM hfM).mono ?_;rintro e w' ⟨rfl,rfl⟩;clear hfJ hfM;have stepJ:∀b:Bool,(b=(decide (vJ<0)||bj))->(b=true ↔ ∃i,i<k*n+(j+1)/\JF F n i<0):=fun b hb=>by
           rw[hb,Zu,Yp,HBJ.u];refine⟨fun h=>?_,fun⟨i,hi,h⟩=>?_⟩
           . rcases h with h | ⟨i,hi,h⟩
             . exact⟨k*n+j,by omega,by rw[HVJ.u];exact h⟩
             . exact⟨i,by omega,h⟩
           . by_cases e:i=k*n+j
             . left;rw[e,HVJ.u]at h;exact h
             . exact .inr ⟨i,by omega,h⟩
          have stepM:∀b:Bool,(b=(decide (vM<0)||bm))->(b=true ↔ ∃i,i<k*n+(j+1)/\MF F n i<0):=fun b hb=>by
           rw[hb,Zu,Yp,HBM.u];refine⟨fun h=>?_,fun⟨i,hi,h⟩=>?_⟩
           . rcases h with h | ⟨i,hi,h⟩
             . exact⟨k*n+j,by omega,by rw[HVM.u];exact h⟩
             . exact⟨i,by omega,h⟩
           . by_cases e:i=k*n+j
             . left;rw[e,HVM.u]at h;exact h
             . exact .inr ⟨i,by omega,h⟩
          have SJ:=h_ stepJ;have SM:=h_ stepM;clear stepJ stepM;by_cases c1:vJ<0 <;> by_cases c2:vM<0
          all_goals
           obtain⟨i0,hi,hz0,hz1,hz2⟩:=info_parts qe8;go_wp2_with (at_builtin;refine wpList_append_own_at _ rfl _ _ 30 rfl w2.heap.size 3 i0 _ 1 8 Tryz.underlying30 hi hz0 hz1 hz2 rfl (by omega) u8 _ _ rfl (HOJ.u.alloc _) ⟨w'.heap.size,0,none⟩ 1 1 [J9 vJ] rfl rfl (q9w w' 3 _) (by simp[Value.oneCell']) (by unfold maxLen;omega) (by omega) (by have:=HB.u.size;simp;omega) ?_);intro vj' w3 hoj' hgr' _ hob';have hlM:=HOM.u.lt;have hlJ:=HOJ.u.lt;have hB3:=(HB.u.alloc HB.u.size (.cells #[J9 vJ] 3)).grown hgr' (by have:=HB.u.size;simp;omega) (fun q' e=>q8q HOJ.u e);have hom3:=(HOM.u.alloc (.cells #[J9 vJ] 3)).kept hgr' (.inr fun e=>HNE.u e.symm);have hne3:vj'.ownBlock≠u9.ownBlock:=by
            rcases hob' with e | e
            . rw[e];exact HNE.u
            . rw[e];intro e2
              have h9:=(hlM _ e2.symm).2
              first | omega | (simp only[Yx]at h9;omega)
           have hoj3:w3.ownsRow w2.heap.size 3 1 vj' (k*n+(j+1)) (is (k*n+(j+1)) (JF F n)):=by
            rw[<- Nat.add_assoc,qj8,HVJ.u];exact hoj'
           have HOJ3:=h_ hoj3;have HOM3:=h_ hom3;have HNE3:=h_ hne3;have HB3:=h_ hB3;clear hoj' hgr' hob' hlM hlJ hB3 hom3 hne3 hoj3 HOJ HOM HNE HB HG2;go_wp2_with (at_builtin;refine wpList_append_own_at _ rfl _ _ 30 rfl w2.heap.size 3 i0 _ 1 8 Tryz.underlying30 hi hz0 hz1 hz2 rfl (by omega) u9 _ _ rfl (HOM3.u.alloc _) ⟨w3.heap.size,0,none⟩ 1 1 [J9 vM] rfl rfl (q9w w3 3 _) (by simp[Value.oneCell']) (by unfold maxLen;omega) (by omega) (by have:=HB3.u.size;simp;omega) ?_);intro vm' w4 hom' hgr' _ hob';have hlJ:=HOJ3.u.lt;have hB4:=(HB3.u.alloc HB3.u.size (.cells #[J9 vM] 3)).grown hgr' (by have:=HB3.u.size;simp;omega) (fun q' e=>q8q HOM3.u e);have hoj4:=(HOJ3.u.alloc (.cells #[J9 vM] 3)).kept hgr' (.inr HNE3.u);have hne4:vj'.ownBlock≠vm'.ownBlock:=by
            rcases hob' with e | e
            . rw[e];exact HNE3.u
            . rw[e];intro e2
              have h9:=(hlJ _ e2).2
              first | omega | (simp only[Yx]at h9;omega)
           have hom4:w4.ownsRow w2.heap.size 3 1 vm' (k*n+(j+1)) (is (k*n+(j+1)) (MF F n)):=by
            rw[<- Nat.add_assoc,qj8,HVM.u];exact hom'
           have HOJ4:=h_ hoj4;have HOM4:=h_ hom4;have HNE4:=h_ hne4;have HB4:=h_ hB4;clear hom' hgr' hob' hlJ hB4 hoj4 hne4 hom4 HOJ3 HOM3 HNE3 HB3 hi hz0 hz1 hz2;go_wp2_with fail;go_roundw
           case rel=>exact⟨j+1,_,_,by omega,by go_num,rfl,rfl,SJ.u _ (by first | (rw[Ym (by omega)];rfl) | (rw[Yj (by omega)];rfl)),SM.u _ (by first | (rw[Ym (by omega)];rfl) | (rw[Yj (by omega)];rfl)),HOJ4.u,HOM4.u,HNE4.u,HB4.u⟩
           case measure=>simp[intOf];omega
        . obtain rfl:n=j:=by omega
          clear hB;go_wp2_with fail;go_roundw
          case rel=>exact⟨k+1,bj,bm,by omega,by go_num,rfl,rfl,by rw[Zw];exact HBJ.u,by rw[Zw];exact HBM.u,by rw[Zw];exact HOJ.u,by rw[Zw];exact HOM.u,HNE.u,HB.u⟩
          case measure=>simp[intOf];omega
     . obtain rfl:n=k:=by omega
       clear hlt hk;replace HR:=mB HR hB;replace HG:=mB HG hB;have hs2:w.heap.size+1<w2.heap.size:=hRs;replace HW:=mT HW hB;have HG3:=h_ HG.u.bools;clear hB HB;cases bj
       . have HJ:Hi (∀i,i<n*n->0<=JF F n i):=fun i hi=>by
          apply Classical.byContradiction;intro h;have:=HBJ.u.2 ⟨i,hi,by omega⟩;cases this
         cases bm
         . have HM:Hi (∀i,i<n*n->0<=MF F n i):=fun i hi=>by
            apply Classical.byContradiction;intro h;have:=HBM.u.2 ⟨i,hi,by omega⟩;cases this
           clear HBJ HBM;obtain⟨a8,c8,rfl,-⟩:=qj7 HOJ.u;obtain⟨a9,c9,rfl,-⟩:=qj7 HOM.u;go_wp2_with fail
           go_loop [16,17,18] (fun bv tv i=>∃k:Nat,k<=n/\i=J9 k/\bv=J9 (lastN (belowAll F n n) k)/\tv=J9 (lastN (aboveAll F n n) k)) (fun _ _ i=>n - (intOf i).toNat)
           case atStart=>exact⟨0,nZ _,rfl,rfl,rfl⟩
           case round =>
            obtain⟨k,hk,rfl,rfl,rfl⟩:=hrel;by_cases hlt:k<n
            . go_wp2_with fail
              go_loop [19,20,21] (fun bv tv i=>∃j:Nat,j<=n/\i=J9 j/\bv=.bool (belowAll F n j k)/\tv=.bool (aboveAll F n j k)) (fun _ _ i=>n - (intOf i).toNat)
              case atStart=>exact⟨0,nZ _,rfl,rfl,rfl⟩
              case round =>
               obtain⟨j,hj,rfl,rfl,rfl⟩:=hrel;by_cases hlj:j<n
               . cases e1:F (k*n+j) <;> cases e2:F (j*n+k)
                 all_goals
                  have HS1:=h_ (q24 F n j k);have HS2:=h_ (q23 F n j k);go_wp2_with fail;refine(qb6 _ _ _ n k j F _ (nR _) hlt hlj h32 HG3.u).mono ?_;rintro e w' ⟨rfl,rfl⟩;rw[e1];go_wp2_with fail;refine(qb6 _ _ _ n j k F _ (nR _) hlj hlt h32 HG3.u).mono ?_;rintro e w' ⟨rfl,rfl⟩;rw[e2];go_wp2_with fail
                  go_round
                  case rel=>exact⟨j+1,by omega,by go_num,by rw[HS1.u,e1];simp,by rw[HS2.u,e2];simp⟩
                  case measure=>simp[intOf];omega
               . obtain rfl:n=j:=by omega
                 have HL1:Hi (lastN (belowAll F n n) (k+1)=if belowAll F n n k then (k:Int) else lastN (belowAll F n n) k):=rfl;have HL2:Hi (lastN (aboveAll F n n) (k+1)=if aboveAll F n n k then (k:Int) else lastN (aboveAll F n n) k):=rfl;cases e1:belowAll F n n k <;> cases e2:aboveAll F n n k
                 all_goals
                  go_wp2_with fail
                  go_round
                  case rel=>exact⟨k+1,by omega,by go_num,by rw[HL1.u,e1];rfl,by rw[HL2.u,e2];rfl⟩
                  case measure=>simp[intOf];omega
            . obtain rfl:n=k:=by omega
              obtain⟨bt,hbt⟩:=Nq (lastN (belowAll F n n) n);obtain⟨tp,htp⟩:=Nq (lastN (aboveAll F n n) n);rw[hbt,htp];have HBT:=h_ (And.intro hbt htp);clear hbt htp;obtain⟨⟨r0,r1,r2,r3,r4,r5⟩,⟨f0,f1,f2,f3,f4,f5⟩⟩:=six' HR.u;have hRb:w.heap.size+1<w2.heap.size:=hs2;have hj6:=ownsRow_setCell_below (ownsRow_setCell_below (ownsRow_setCell_below (ownsRow_setCell_below (ownsRow_setCell_below (ownsRow_setCell_below HOJ.u (a:=⟨w.heap.size+1,0,none⟩) hRb (J9 n)) (a:=⟨w.heap.size+1,1,none⟩) hRb (.slice (some ⟨G,0,none⟩) (n*n) (n*n))) (a:=⟨w.heap.size+1,2,none⟩) hRb (.slice a8 (n*n) c8)) (a:=⟨w.heap.size+1,3,none⟩) hRb (.slice a9 (n*n) c9)) (a:=⟨w.heap.size+1,4,none⟩) hRb (J9 bt)) (a:=⟨w.heap.size+1,5,none⟩) hRb (J9 tp);have hm6:=ownsRow_setCell_below (ownsRow_setCell_below (ownsRow_setCell_below (ownsRow_setCell_below (ownsRow_setCell_below (ownsRow_setCell_below HOM.u (a:=⟨w.heap.size+1,0,none⟩) hRb (J9 n)) (a:=⟨w.heap.size+1,1,none⟩) hRb (.slice (some ⟨G,0,none⟩) (n*n) (n*n))) (a:=⟨w.heap.size+1,2,none⟩) hRb (.slice a8 (n*n) c8)) (a:=⟨w.heap.size+1,3,none⟩) hRb (.slice a9 (n*n) c9)) (a:=⟨w.heap.size+1,4,none⟩) hRb (J9 bt)) (a:=⟨w.heap.size+1,5,none⟩) hRb (J9 tp);have hg6:=((((((HG.u.other (a:=⟨w.heap.size+1,0,none⟩) (J9 n) hGR).other (a:=⟨w.heap.size+1,1,none⟩) (.slice (some ⟨G,0,none⟩) (n*n) (n*n)) hGR).other (a:=⟨w.heap.size+1,2,none⟩) (.slice a8 (n*n) c8) hGR).other (a:=⟨w.heap.size+1,3,none⟩) (.slice a9 (n*n) c9) hGR).other (a:=⟨w.heap.size+1,4,none⟩) (J9 bt) hGR).other (a:=⟨w.heap.size+1,5,none⟩) (J9 tp) hGR);have HZ:=h_ (q6s HW.u (Vl _) (J9 n) (.slice (some ⟨G,0,none⟩) (n*n) (n*n)) (.slice a8 (n*n) c8) (.slice a9 (n*n) c9) (J9 bt) (J9 tp));have HJ6:=h_ hj6;have HM6:=h_ hm6;have HG6:=h_ hg6;clear hj6 hm6 hg6 HOJ HOM HG HG3 HW;go_wp2;refine bodyPost_ret (v:=.tuple #[.agg #[J9 n,.slice (some ⟨G,0,none⟩) (n*n) (n*n),.slice a8 (n*n) c8,.slice a9 (n*n) c9,J9 bt,J9 tp],J9 0]) (by simp[results,Tryz.results8,go_sem, *]) rfl ⟨.inr (.inr (.inr ⟨HN2.u,HJ.u,HM.u,some ⟨G,0,none⟩,a8,a9,n*n,c8,c9,by rw[HBT.u.1,HBT.u.2],HG6.u.bools,?_,?_⟩)),HZ.u⟩
              . obtain⟨x1,x2,e,h⟩:=qj7 HJ6.u
                cases e;exact h
              . obtain⟨x1,x2,e,h⟩:=qj7 HM6.u
                cases e;exact h
         . have HM:Hi (∃i,i<n*n/\MF F n i<0):=HBM.u.1 rfl
           obtain⟨⟨r0,r1,r2,r3,r4,r5⟩,⟨f0,f1,f2,f3,f4,f5⟩⟩:=six' HR.u;have HZ:=h_ (q6s HW.u (Vl _) (J9 0) Ya Ya Ya (J9 0) (J9 0));go_wp2;refine bodyPost_ret (v:=.tuple #[zeroL,J9 4]) (by simp[results,Tryz.results8,go_sem,zeroL, *]) rfl ⟨?_,HZ.u⟩;exact .inr (.inr (.inl ⟨HN2.u,HJ.u,HM.u,rfl⟩))
       . have HJ:Hi (∃i,i<n*n/\JF F n i<0):=HBJ.u.1 rfl
         obtain⟨⟨r0,r1,r2,r3,r4,r5⟩,⟨f0,f1,f2,f3,f4,f5⟩⟩:=six' HR.u;have HZ:=h_ (q6s HW.u (Vl _) (J9 0) Ya Ya Ya (J9 0) (J9 0));go_wp2;refine bodyPost_ret (v:=.tuple #[zeroL,J9 3]) (by simp[results,Tryz.results8,go_sem,zeroL, *]) rfl ⟨?_,HZ.u⟩;exact .inr (.inl ⟨HN2.u,HJ.u,rfl⟩)
end Go.Proofs.YtebbgodlijlioaaGreatDoor
