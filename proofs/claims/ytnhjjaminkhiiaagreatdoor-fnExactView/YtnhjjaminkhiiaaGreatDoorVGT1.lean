import Derived.Test.YtnhjjaminkhiiaaGreatDoorVGW
set_option maxRecDepth 100000
set_option maxHeartbeats 20000000
namespace Go.Proofs.YtnhjjaminkhiiaaGreatDoor
open Go Go.RowKit
structure Cx where
 v:Vx
 rel:Bool
 ok:Bool
 must:Bool
def cv (n:Cx):Value:=.agg #[.int .i64 n.v.k,.int .i64 n.v.n,.string n.v.s,.bool n.rel,.bool n.ok,.bool n.must]
def CCel (w:World) (b o:Nat) (n:Cx):Prop:=b<w.heap.size/\w.cell? ⟨b,o,none⟩=some (.int .i64 n.v.k)/\w.cell? ⟨b,o+1,none⟩=some (.int .i64 n.v.n)/\w.cell? ⟨b,o+2,none⟩=some (.string n.v.s)/\w.cell? ⟨b,o+3,none⟩=some (.bool n.rel)/\w.cell? ⟨b,o+4,none⟩=some (.bool n.ok)/\w.cell? ⟨b,o+5,none⟩=some (.bool n.must)
theorem CCel.mono {w w':World} {b o:Nat} {n:Cx} (h:CCel w b o n) (hb:Below w.heap.size w w'):CCel w' b o n :=
 ⟨Nat.lt_of_lt_of_le h.1 hb.size,(hb.cell h.1).trans h.2.1,(hb.cell h.1).trans h.2.2.1,(hb.cell h.1).trans h.2.2.2.1,(hb.cell h.1).trans h.2.2.2.2.1,(hb.cell h.1).trans h.2.2.2.2.2.1,(hb.cell h.1).trans h.2.2.2.2.2.2⟩
def Cels (w:World) (a:Option Addr) (m:Nat) (e:Nat->Cx):Prop:=∀ k,k<m->∃ b o,a=some ⟨b,o,none⟩/\CCel w b (o+k*6) (e k)
theorem Cels.mono {w w':World} {a:Option Addr} {m:Nat} {e:Nat->Cx} (h:Cels w a m e) (hb:Below w.heap.size w w'):Cels w' a m e:=fun k hk=>by
 obtain ⟨b,o,e,hc⟩:=h k hk
 exact ⟨b,o,e,hc.mono hb⟩
def FitC (n:Cx):Prop:=n.v.s.size<=9223372036854775807/\-9223372036854775808<=n.v.n/\n.v.n<=9223372036854775807
theorem qbx:(Tryz.prog.info? 70).map (fun i=>(i.zero,i.size,i.bytes))=some (some (.agg #[.int .i64 0,.int .i64 0,.string ⟨#[]⟩,.bool false,.bool false,.bool false]),6,40):=by kernel_rfl
theorem Blk.of_owns6 {w:World} {base e g n:Nat} {xs:List Value} (h:w.ownsRow base e 6 (.slice (some ⟨g,0,none⟩) n n) n xs):Blk w g e xs/\xs.length=n*6:=by
 refine ⟨?_,h.1⟩
 rcases h.2 with ⟨h',_⟩ | ⟨g',cap',cur,h',_,hg,_,_,hs,htake⟩
 . simp at h'
 . simp only [Value.slice.injEq,Option.some.injEq,Addr.mk.injEq,and_true,true_and] at h'
   obtain ⟨rfl,rfl⟩:=h'
   rw [List.take_of_length_le (by simp;omega)] at htake
   rw [<- htake];simpa [Blk] using hg
theorem q9t (n:Cx) (left:Int) (w:World) (hf:FitC n) (l0:0<=left) (l1:left<=1048576) :
 Calls Tryz.prog 24 #[cv n,.int .i64 left] w fun r w'=>∃ q:Int,r=.returned (.int .i64 q)/\(0<=q->q<=1048576/\n.v.s.size<=1048576)/\(q<0->q = -1)/\Below w.heap.size w w':=by
 obtain ⟨hs,-,-⟩:=hf
 unfold cv
 have HB:=h_ ((bR w.heap.size w).alloc (nR _) (.cells #[.int .i64 n.v.k,.int .i64 n.v.n,.string n.v.s,.bool n.rel,.bool n.ok,.bool n.must] 58))
 go_enter Tryz.func24,Tryz.ntmps24
 go_wp2_with fail
 refine (q70 n.v.k n.v.n n.v.s left _ hs l0 l1).mono ?_
 rintro e w2 ⟨rfl,hb⟩
 replace HB:=mT HB hb
 clear hb
 by_cases hq:left<n.v.s.size
 . rw [if_pos hq]
   go_wp2_with fail
   go_ret
   exact ⟨_,rfl,fun h=>absurd h (by decide),fun _=>rfl,u_ HB⟩
 . rw [if_neg hq]
   have hq':¬ left - n.v.s.size<0:=by omega
   go_wp2_with fail
   go_ret
   exact ⟨_,rfl,fun _=>by omega,fun h=>by omega,u_ HB⟩
theorem q6w (a:Option Addr) (m c:Nat) (e:Nat->Cx) (l0:Int) (w:World) (h0:0<=l0) (h1:l0<=1048576) (hm:m<=9223372036854775807) (hf:∀ k,k<m->FitC (e k)) (ha:Cels w a m e) :
 Calls Tryz.prog 6 #[.slice a m c,.int .i64 l0] w fun r w'=>∃ q:Int,r=.returned (.int .i64 q)/\(0<=q->q<=1048576/\m<=1048576/\∀ k,k<m->(e k).v.s.size<=1048576)/\(q<0->q = -1)/\Below w.heap.size w w':=by
 have HA:=h_ ha;have HF:=h_ hf
 clear ha hf
 have hw1:wrap64 (l0 - (m:Int))=l0 - (m:Int):=q4n (by omega) (by omega)
 by_cases h:(m:Int)<=l0
 . have h':¬ l0 - (m:Int)<0:=by omega
   obtain ⟨lq,hlq⟩:∃ lq:Int,l0 - (m:Int)=lq:=⟨_,rfl⟩
   have HLQ:Hid (0<=lq/\lq<=1048576):=h_ (by omega)
   rw [hlq] at h' hw1
   go_enter Tryz.func6,Tryz.ntmps6
   go_wp2_with fail
   try rw [hlq]
   clear hlq hw1 h'
   go_loopw [1,5] (fun l i wr=>∃ (k:Nat) (left:Int),k<=m/\l=.int .i64 left/\i=.int .i64 k/\0<=left/\left<=1048576/\(∀ j,j<k->(e j).v.s.size<=1048576)/\Below w.heap.size w wr) (fun _ i _=>m - (intOf i).toNat)
   case atStart=>exact ⟨0,_,nZ _,rfl,rfl,(u_ HLQ).1,(u_ HLQ).2,fun j hj=>absurd hj (nL _),bR _ _⟩
   case round =>
    clear HLQ
    obtain ⟨k,left,hk,rfl,rfl,q0,q1,hall,hb⟩:=hrel
    have HALL:=h_ hall;have HB:=h_ hb
    have HV:=h_ ((u_ HA).mono hb)
    clear hall hb
    by_cases hlt:k<m
    . have hlt':(k:Int)<m:=by omega
      obtain ⟨b,o,rfl,-,c0,c1,c2,c3,c4,c5⟩:=u_ HV k hlt
      go_wp2_with fail
      refine (q9t (e k) left _ (u_ HF k hlt) q0 q1).mono ?_
      rintro r w2 ⟨q,rfl,hq,hq',hb⟩
      replace HB:=mT HB hb
      clear hb c0 c1 c2 c3 c4 c5
      by_cases hn:q<0
      . obtain rfl:=hq' hn
        clear hq hq' hn
        go_wp2_with fail
        go_ret
        exact ⟨_,rfl,fun h=>absurd h (by decide),fun _=>rfl,u_ HB⟩
      . have HQ:=h_ (hq (by omega))
        have HN:Hid (∀ j,j<k+1->(e j).v.s.size<=1048576):=h_ fun j hj=>by
         by_cases ej:j=k
         . rw [ej];exact (u_ HQ).2
         . exact u_ HALL j (by omega)
        clear hq hq'
        go_wp2_with fail
        go_roundw
        case rel=>exact ⟨k+1,q,by omega,rfl,by go_num,by omega,(u_ HQ).1,u_ HN,u_ HB⟩
        case measure=>simp [intOf];omega
    . obtain rfl:k=m:=by omega
      go_wp2_with fail
      go_ret
      exact ⟨_,rfl,fun _=>⟨q1,by omega,u_ HALL⟩,fun h=>by omega,u_ HB⟩
 . have h':l0 - (m:Int)<0:=by omega
   go_enter Tryz.func6,Tryz.ntmps6
   go_wp2_with fail
   go_ret
   exact ⟨_,rfl,fun h=>absurd h (by decide),fun _=>rfl,bR _ _⟩
theorem q9x (n:Cx) (w:World) :
 Calls Tryz.prog 33 #[cv n] w fun r w'=>r=.returned (cv n)/\Below w.heap.size w w':=by
 unfold cv
 have HK:=h_ (((Blk.new w 58 #[.int .i64 n.v.k,.int .i64 n.v.n,.string n.v.s,.bool n.rel,.bool n.ok,.bool n.must]).alloc (.cells #[.int .i64 0,.int .i64 0,.string ⟨#[]⟩,.bool false,.bool false,.bool false] 70)).alloc (.cells #[.int .i64 0,.int .i64 0,.string ⟨#[]⟩,.bool false,.bool false,.bool false] 70))
 have HR:=h_ ((Blk.new (w.alloc (.cells #[.int .i64 n.v.k,.int .i64 n.v.n,.string n.v.s,.bool n.rel,.bool n.ok,.bool n.must] 58)) 70 #[.int .i64 0,.int .i64 0,.string ⟨#[]⟩,.bool false,.bool false,.bool false]).alloc (.cells #[.int .i64 0,.int .i64 0,.string ⟨#[]⟩,.bool false,.bool false,.bool false] 70))
 have HO:=h_ (Blk.new ((w.alloc (.cells #[.int .i64 n.v.k,.int .i64 n.v.n,.string n.v.s,.bool n.rel,.bool n.ok,.bool n.must] 58)).alloc (.cells #[.int .i64 0,.int .i64 0,.string ⟨#[]⟩,.bool false,.bool false,.bool false] 70)) 70 #[.int .i64 0,.int .i64 0,.string ⟨#[]⟩,.bool false,.bool false,.bool false])
 have HB:=h_ ((((bR w.heap.size w).alloc (nR _) (.cells #[.int .i64 n.v.k,.int .i64 n.v.n,.string n.v.s,.bool n.rel,.bool n.ok,.bool n.must] 58)).alloc (by simp) (.cells #[.int .i64 0,.int .i64 0,.string ⟨#[]⟩,.bool false,.bool false,.bool false] 70)).alloc (by simp;omega) (.cells #[.int .i64 0,.int .i64 0,.string ⟨#[]⟩,.bool false,.bool false,.bool false] 70))
 simp only [World.size_alloc] at HR HO
 go_enter Tryz.func33,Tryz.ntmps33
 go_wp2_with fail
 refine (q72 n.v.k n.v.n n.v.s _).mono ?_
 rintro x w2 ⟨rfl,hb⟩
 replace HK:=mB HK hb;replace HR:=mB HR hb;replace HO:=mB HO hb;replace HB:=mT HB hb
 clear hb
 obtain ⟨y0,y1,y2,y3,y4,y5⟩:=(six' (u_ HK)).1
 obtain ⟨⟨r0,r1,r2,r3,r4,r5⟩,⟨f0,f1,f2,f3,f4,f5⟩⟩:=six' (u_ HR)
 obtain ⟨⟨o0,o1,o2,o3,o4,o5⟩,⟨g0,g1,g2,g3,g4,g5⟩⟩:=six' (u_ HO)
 go_wp2_with fail
 refine bodyPost_ret (v:=.agg #[.int .i64 n.v.k,.int .i64 n.v.n,.string n.v.s,.bool n.rel,.bool n.ok,.bool n.must]) (by simp [results,Tryz.results33,go_sem, *]) rfl ⟨rfl,?_⟩
 repeat refine Below.setCell ?_ (by simp;try omega) _
 exact u_ HB
theorem q9w (a:Option Addr) (e:Nat->Cx) (n c:Nat) (w:World) (ha:Cels w a n e) (hn:n<=1048576) :
 Calls Tryz.prog 9 #[.slice a n c] w fun r w'=>r=.returned (.slice (some ⟨w.heap.size,0,none⟩) n n)/\Cels w' (some ⟨w.heap.size,0,none⟩) n e/\Bk w' w.heap.size 70 (n*6)/\Below w.heap.size w w':=by
 obtain ⟨i0,hi,hz0,hz1,hz2⟩:=info_parts qbx
 obtain ⟨B,hB⟩:∃ B,w.heap.size=B:=⟨_,rfl⟩
 have hbn:i0.bytes*n<=281474976710656:=by rw [hz2];omega
 have HA:=h_ ha
 clear ha
 go_enter Tryz.func9,Tryz.ntmps9
 go_wp2_with (at_make;refine wpList_make_full _ rfl _ _ 39 rfl w.heap.size 70 i0 _ 6 Tryz.underlying39 hi hz0 hz1 .i64 .i64 _ _ n rfl rfl rfl rfl hbn (by unfold maxLen;omega) (nR _) ?_;intro w1 hown hgrow)
 have hb1:Below B w w1:=by rw [<- hB];exact (bR _ _).grown hgrow (nR _) (fun k h=>by cases h)
 rw [hB] at hown
 obtain ⟨hX,hXl⟩:=Blk.of_owns6 hown
 have HX:=h_ hX;have HXL:=h_ hXl;have HB1:=h_ hb1
 clear hgrow hbn hi hz0 hz1 hz2 hown hX hXl hb1
 go_wp2_with fail
 try rw [hB]
 go_loopw [4] (fun i wr=>∃ (k:Nat) (xs:List Value),k<=n/\i=.int .i64 k/\Blk wr B 70 xs/\xs.length=n*6/\(∀ j,j<k->xs[j*6]? = some (.int .i64 (e j).v.k)/\xs[j*6+1]? = some (.int .i64 (e j).v.n)/\xs[j*6+2]? = some (.string (e j).v.s)/\xs[j*6+3]? = some (.bool (e j).rel)/\xs[j*6+4]? = some (.bool (e j).ok)/\xs[j*6+5]? = some (.bool (e j).must))/\Below B w wr) (fun i _=>n - (intOf i).toNat)
 case atStart=>exact ⟨0,_,nZ _,rfl,u_ HX,u_ HXL,fun j h=>absurd h (nL _),u_ HB1⟩
 case round =>
  clear HX HXL HB1
  obtain ⟨k,xs,hk,rfl,hX,hXl,hx,hb⟩:=hrel
  have HX:=h_ hX;have HXL:=h_ hXl;have HXX:=h_ hx;have HB:=h_ hb
  have HV:=h_ ((u_ HA).mono (hb.mono (by omega)))
  clear hX hXl hx hb
  by_cases hlt:k<n
  . have hlt':(k:Int)<n:=by omega
    obtain ⟨b1,o1,rfl,hl1,hc1,hc2,hc3,hc4,hc5,hc6⟩:=u_ HV k hlt
    go_wp2_with fail
    refine (q9x (e k) _).mono ?_
    rintro x w3 ⟨rfl,hb3⟩
    have X3:=(u_ HX).mono hb3 (u_ HX).lt
    have B3:=(u_ HB).trans (hb3.mono (by have:=(u_ HX).lt;omega))
    have c0:=X3.cell (k*6);have c1:=X3.cell (k*6+1);have c2:=X3.cell (k*6+2);have c3:=X3.cell (k*6+3);have c4:=X3.cell (k*6+4);have c5:=X3.cell (k*6+5)
    have f0:=X3.free (k*6);have f1:=X3.free (k*6+1);have f2:=X3.free (k*6+2);have f3:=X3.free (k*6+3);have f4:=X3.free (k*6+4);have f5:=X3.free (k*6+5)
    rw [List.getElem?_eq_getElem (by have:=u_ HXL;omega)] at c0 c1 c2 c3 c4 c5
    have HX3:=h_ X3;have HB3:=h_ B3
    clear X3 B3 hb3 hc1 hc2 hc3 hc4 hc5 hc6
    unfold cv
    go_wp2_with fail
    go_roundw
    case rel =>
     refine ⟨k+1,_,by omega,by go_num,((((((u_ HX3).set (k*6) (.int .i64 (e k).v.k)).set (k*6+1) (.int .i64 (e k).v.n)).set (k*6+2) (.string (e k).v.s)).set (k*6+3) (.bool (e k).rel)).set (k*6+4) (.bool (e k).ok)).set (k*6+5) (.bool (e k).must),by simpa using u_ HXL,fun j hj=>?_,((((((u_ HB3).setCell (nR _) _).setCell (nR _) _).setCell (nR _) _).setCell (nR _) _).setCell (nR _) _).setCell (nR _) _⟩
     have hxl:=u_ HXL
     by_cases ej:j=k
     . subst ej
       simp [List.getElem?_set];omega
     . have:=u_ HXX j (by omega)
       simp only [List.getElem?_set]
       (repeat rw [if_neg (by omega)])
       exact this
    case measure=>simp [intOf];omega
  . obtain rfl:n=k:=by omega
    go_wp2_with fail
    go_ret
    refine ⟨by rw [hB];rfl,?_,?_,?_⟩
    . intro j hj
      have:=u_ HXX j hj
      exact ⟨B,0,by rw [hB],(u_ HX).lt,by rw [Nat.zero_add,(u_ HX).cell];exact this.1,by rw [Nat.zero_add,(u_ HX).cell];exact this.2.1,by rw [Nat.zero_add,(u_ HX).cell];exact this.2.2.1,by rw [Nat.zero_add,(u_ HX).cell];exact this.2.2.2.1,by rw [Nat.zero_add,(u_ HX).cell];exact this.2.2.2.2.1,by rw [Nat.zero_add,(u_ HX).cell];exact this.2.2.2.2.2⟩
    . rw [hB];exact ⟨_,u_ HX,u_ HXL⟩
    . rw [hB];exact u_ HB
theorem q4z (n:Cx) (w:World) :
 Calls Tryz.prog 44 #[cv n,cv n] w fun r w'=>r=.returned (.bool true)/\Below w.heap.size w w':=by
 unfold cv
 have HK:=h_ ((Blk.new w 70 #[.int .i64 n.v.k,.int .i64 n.v.n,.string n.v.s,.bool n.rel,.bool n.ok,.bool n.must]).alloc (.cells #[.int .i64 n.v.k,.int .i64 n.v.n,.string n.v.s,.bool n.rel,.bool n.ok,.bool n.must] 70))
 have HR:=h_ (Blk.new (w.alloc (.cells #[.int .i64 n.v.k,.int .i64 n.v.n,.string n.v.s,.bool n.rel,.bool n.ok,.bool n.must] 70)) 70 #[.int .i64 n.v.k,.int .i64 n.v.n,.string n.v.s,.bool n.rel,.bool n.ok,.bool n.must])
 have HB:=h_ (((bR w.heap.size w).alloc (nR _) (.cells #[.int .i64 n.v.k,.int .i64 n.v.n,.string n.v.s,.bool n.rel,.bool n.ok,.bool n.must] 70)).alloc (by simp) (.cells #[.int .i64 n.v.k,.int .i64 n.v.n,.string n.v.s,.bool n.rel,.bool n.ok,.bool n.must] 70))
 simp only [World.size_alloc] at HR
 go_enter Tryz.func44,Tryz.ntmps44
 go_wp2_with fail
 refine (q3i n.v.k n.v.n n.v.s _).mono ?_
 rintro x w2 ⟨rfl,hb⟩
 replace HK:=mB HK hb;replace HR:=mB HR hb;replace HB:=mT HB hb
 clear hb
 obtain ⟨y0,y1,y2,y3,y4,y5⟩:=(six' (u_ HK)).1
 obtain ⟨r0,r1,r2,r3,r4,r5⟩:=(six' (u_ HR)).1
 go_wp2_with fail
 go_ret
 exact ⟨rfl,u_ HB⟩
theorem q3d (a b:Option Addr) (e:Nat->Cx) (n ca cb:Nat) (w:World) (hn:n<=1048576) (ha:Cels w a n e) (hb:Cels w b n e) :
 Calls Tryz.prog 13 #[.slice a n ca,.slice b n cb] w fun r w'=>r=.returned (.bool true)/\Below w.heap.size w w':=by
 have HA:=h_ ha;have HB0:=h_ hb
 clear ha hb
 go_enter Tryz.func13,Tryz.ntmps13
 go_wp2_with fail
 go_loopw [5] (fun i wr=>∃ k:Nat,k<=n/\i=.int .i64 k/\Below w.heap.size w wr) (fun i _=>n - (intOf i).toNat)
 case atStart=>exact ⟨0,nZ _,rfl,bR _ _⟩
 case round =>
  obtain ⟨k,hk,rfl,hB⟩:=hrel
  have HB:=h_ hB
  by_cases hlt:k<n
  . obtain ⟨b1,o1,rfl,C1⟩:=((u_ HA).mono hB) k hlt
    obtain ⟨b2,o2,rfl,C2⟩:=((u_ HB0).mono hB) k hlt
    obtain ⟨u,hu⟩:∃ u,e k=u:=⟨_,rfl⟩
    rw [hu] at C1 C2
    have HC1:=h_ C1;have HC2:=h_ C2
    have k0:(0:Int)<=k:=by omega
    have k1:(k:Int)<n:=by omega
    clear hB hu C1 C2
    go_wp2_with fail
    refine wp_region_held_drew (S:=fun w'=>CCel w' b1 (o1+k*6) u/\CCel w' b2 (o2+k*6) u) (by kernel_rfl) ⟨u_ HC1,u_ HC2⟩ (fun zz=>?_)
    refine tk 0 17 (.slice (some ⟨b1,o1,none⟩) n ca) zz ?_
    refine tk 1 18 (.int .i64 k) zz ?_
    refine tk 2 19 (.pointer (some ⟨b1,o1+k*6,none⟩)) zz ?_
    refine tk 3 20 (.agg #[.int .i64 u.v.k,.int .i64 u.v.n,.string u.v.s,.bool u.rel,.bool u.ok,.bool u.must]) zz ?_ (hy:=fun w hS=>by obtain ⟨⟨-,q0,q1,q2,q3,q4,q5⟩,-⟩:=hS;simp [execOp,go_sem,q0,q1,q2,q3,q4,q5])
    simp only [sX,sY,sZ]
    refine tk 4 21 (.slice (some ⟨b2,o2,none⟩) n cb) zz ?_
    refine tk 5 22 (.int .i64 k) zz ?_
    refine tk 6 23 (.pointer (some ⟨b2,o2+k*6,none⟩)) zz ?_
    refine tk 7 24 (.agg #[.int .i64 u.v.k,.int .i64 u.v.n,.string u.v.s,.bool u.rel,.bool u.ok,.bool u.must]) zz ?_ (hy:=fun w hS=>by obtain ⟨-,⟨-,q0,q1,q2,q3,q4,q5⟩⟩:=hS;simp [execOp,go_sem,q0,q1,q2,q3,q4,q5])
    simp only [sX,sY,sZ]
    refine callY (i:=8) (f:=44) (args:=#[cv u,cv u]) (R:=fun v wz=>v=.bool true/\Below wr.heap.size wr wz) 25 rfl rfl (by rfl) (by kernel_rfl) ?hrun1 ((q4z u _).mono fun e w6 ⟨he,hb⟩=>⟨_,he,rfl,q29 hb⟩) ?_
    case hrun1=>simp [execOp,go_sem,cv]
    rintro v w6 ⟨rfl,hb6⟩
    have HB6:=mT HB hb6
    replace zz:CCel w6 b1 (o1+k*6) u/\CCel w6 b2 (o2+k*6) u:=⟨(u_ HC1).mono hb6,(u_ HC2).mono hb6⟩
    clear hb6
    refine ⟨zz,?_⟩
    simp only [sX,sY,sZ]
    refine tk 9 26 (.bool false) zz ?_
    simp only [sX,sY,sZ]
    refine wpAnyH_done (by kernel_rfl) ?_ _
    clear zz
    go_wp2_with fail
    go_roundw
    case rel=>exact ⟨k+1,by omega,by go_num,u_ HB6⟩
    case measure=>simp [intOf];omega
  . obtain rfl:n=k:=by omega
    clear hB
    go_wp2_with fail
    go_ret
    exact ⟨rfl,u_ HB⟩
def rlb (m:Fm) (r:Nat):Nat:=(m.R.getD r noRl).lb.toNat
def seesB (m:Fm) (n:Nat) (F:Nat->Bool) (f:Nat->Nat) (r k:Nat):Bool:=F (f k*n+rlb m r)
def celsOk (m:Fm) (L:Nat) (e:Nat->Cx):Bool:=decide (L=m.F.length)&&(List.range L).all fun k=>okVal (e k).v.k (e k).v.n (e k).v.s
theorem qgt {m:Fm} {n:Nat} {F:Nat->Bool} {f g:Nat->Nat} (h:∀ k,k<m.F.length->f k=g k) {r k:Nat} (hk:k<m.F.length):seesB m n F f r k=seesB m n F g r k:=by unfold seesB;rw [h k hk]
theorem qaz {m:Fm} {L:Nat} {e:Nat->Cx} (h:L ≠ m.F.length):celsOk m L e=false:=by unfold celsOk;rw [decide_eq_false h];rfl
theorem q7l {m:Fm} {L:Nat} {e:Nat->Cx} {k:Nat} (hk:k<L) (h:okVal (e k).v.k (e k).v.n (e k).v.s=false):celsOk m L e=false:=by
 unfold celsOk
 rw [Bool.and_eq_false_iff]
 refine .inr ?_
 rw [List.all_eq_false]
 exact ⟨k,List.mem_range.2 hk,by rw [h];decide⟩
theorem q7k {m:Fm} {e:Nat->Cx} (h:∀ k,k<m.F.length->okVal (e k).v.k (e k).v.n (e k).v.s=true):celsOk m m.F.length e=true:=by
 unfold celsOk
 rw [decide_eq_true rfl,Bool.true_and,List.all_eq_true]
 exact fun k hk=>h k (List.mem_range.1 hk)
theorem qay {m:Fm} {L:Nat} {e:Nat->Cx} (h:celsOk m L e=true):L=m.F.length/\∀ k,k<L->okVal (e k).v.k (e k).v.n (e k).v.s=true:=by
 unfold celsOk at h
 rw [Bool.and_eq_true,decide_eq_true_eq,List.all_eq_true] at h
 exact ⟨h.1,fun k hk=>h.2 k (List.mem_range.2 hk)⟩
theorem q5u (m:Fm) (A:MA) (L c:Nat) (a:Option Addr) (e:Nat->Cx) (w:World) (hf:FitM m) (hL:L<=9223372036854775807) (hsz:∀ k,k<L->(e k).v.s.size<=9223372036854775807) (hc:Cels w a L e) :
 Calls Tryz.prog 26 #[mV m A,.slice a L c] w fun r w'=>r=.returned (.bool (celsOk m L e))/\Below w.heap.size w w':=by
 obtain ⟨al,alc,ap,apc,ar,arc,af,afc,afa⟩:=A
 unfold mV
 dsimp only
 have hfl:=hf.fl
 have HC:=h_ hc;have HSz:=h_ hsz
 have HK:=h_ (Blk.new w 37 #[.slice al m.L.length alc,.slice ap m.P.length apc,.slice ar m.R.length arc,.slice af m.F.length afc])
 have HB:=h_ ((bR w.heap.size w).alloc (nR _) (.cells #[.slice al m.L.length alc,.slice ap m.P.length apc,.slice ar m.R.length arc,.slice af m.F.length afc] 37))
 obtain ⟨W0,hW0⟩:∃ W0,w.alloc (.cells #[.slice al m.L.length alc,.slice ap m.P.length apc,.slice ar m.R.length arc,.slice af m.F.length afc] 37)=W0:=⟨_,rfl⟩
 rw [hW0] at HK HB
 obtain ⟨y0,y1,y2,y3⟩:=quad (u_ HK)
 clear hc hsz hf
 by_cases hn:L=m.F.length
 . have HN:=h_ hn
   have hne:((L:Int) != (m.F.length:Int))=false:=by simp [hn]
   clear hn
   go_enter Tryz.func26,Tryz.ntmps26
   go_wp2_with fail
   try rw [hW0]
   clear hW0 y0 y1 y2 y3 hne
   go_loopw [5] (fun i wr=>∃ k:Nat,k<=L/\i=.int .i64 k/\(∀ j,j<k->okVal (e j).v.k (e j).v.n (e j).v.s=true)/\Below w.heap.size w wr) (fun i _=>L - (intOf i).toNat)
   case atStart=>exact ⟨0,nZ _,rfl,fun j h=>absurd h (nL _),u_ HB⟩
   case round =>
    obtain ⟨k,hk,rfl,hall,hb⟩:=hrel
    have HAll:=h_ hall;have HBr:=h_ hb
    have HCr:=h_ ((u_ HC).mono hb)
    clear hall hb
    by_cases hlt:k<L
    . have hlt':(k:Int)<L:=by omega
      obtain ⟨b,o,rfl,-,c0,c1,c2,-⟩:=u_ HCr k hlt
      go_wp2_with fail
      refine (q24 _ _ _ _ (u_ HSz k hlt)).mono ?_
      rintro r w2 ⟨rfl,hb⟩
      replace HBr:=mT HBr hb
      clear hb c0 c1 c2
      cases hq:okVal (e k).v.k (e k).v.n (e k).v.s
      . have HR:Hid (celsOk m L e=false):=h_ (q7l hlt hq)
        clear hq
        go_wp2_with fail
        go_ret
        rw [u_ HR]
        exact ⟨rfl,u_ HBr⟩
      . have HA2:Hid (∀ j,j<k+1->okVal (e j).v.k (e j).v.n (e j).v.s=true):=h_ fun j hj=>by
         by_cases ej:j=k
         . rw [ej];exact hq
         . exact u_ HAll j (by omega)
        clear hq
        go_wp2_with fail
        go_roundw
        case rel=>exact ⟨k+1,by omega,by go_num,u_ HA2,u_ HBr⟩
        case measure=>simp [intOf];omega
    . obtain rfl:k=L:=by omega
      have HR:Hid (celsOk m k e=true):=h_ (by have:=u_ HN;subst this;exact q7k (u_ HAll))
      have hlt':¬ (k:Int)<(k:Int):=by omega
      go_wp2_with fail
      go_ret
      rw [u_ HR]
      exact ⟨rfl,u_ HBr⟩
 . have HR:Hid (celsOk m L e=false):=h_ (qaz hn)
   have hne:((L:Int) != (m.F.length:Int))=true:=by
    have:(L:Int) ≠ (m.F.length:Int):=by omega
    simpa using this
   clear hn
   go_enter Tryz.func26,Tryz.ntmps26
   go_wp2_with fail
   try rw [hW0]
   go_ret
   rw [u_ HR]
   exact ⟨rfl,u_ HB⟩
theorem q8o (m:Fm) (A:MA) (w:World) (P0:Int->Int->Prop) (hC:∀ W,MSl W m A->Calls Tryz.prog 56 #[mV m A] W fun r w'=>∃ c a,r=.returned (dgV c a)/\P0 c a/\Below W.heap.size W w') (ha:MSl w m A) :
 Calls Tryz.prog 25 #[mV m A] w fun r w'=>∃ c a,r=.returned (.bool (decide (c=0)))/\P0 c a/\Below w.heap.size w w':=by
 have HC0:=h_ hC
 obtain ⟨al,alc,ap,apc,ar,arc,af,afc,afa⟩:=A
 unfold mV dgV at HC0
 unfold mV
 dsimp only at HC0 ⊢
 have HK:=h_ (Blk.new w 37 #[.slice al m.L.length alc,.slice ap m.P.length apc,.slice ar m.R.length arc,.slice af m.F.length afc])
 have HB:=h_ ((bR w.heap.size w).alloc (nR _) (.cells #[.slice al m.L.length alc,.slice ap m.P.length apc,.slice ar m.R.length arc,.slice af m.F.length afc] 37))
 obtain ⟨W0,hW0⟩:∃ W0,w.alloc (.cells #[.slice al m.L.length alc,.slice ap m.P.length apc,.slice ar m.R.length arc,.slice af m.F.length afc] 37)=W0:=⟨_,rfl⟩
 rw [hW0] at HK HB
 have HC:=h_ (u_ HC0 W0 (ha.mono (u_ HB)))
 obtain ⟨y0,y1,y2,y3⟩:=quad (u_ HK)
 clear ha hC HC0
 have hfd:∀ (W:World) (c a:Int),(Instr.field 105 (.agg #[.int .i64 c,.int .i64 a]) 0).run Tryz.prog W=.ok (.int .i64 c) W:=fun W c a=>by kernel_rfl
 go_enter Tryz.func25,Tryz.ntmps25
 go_wp2_with fail
 try rw [hW0]
 refine (u_ HC).mono ?_
 rintro r W1 ⟨c,a,rfl,hp,hb⟩
 have HP:=h_ hp
 replace HB:=mT HB hb
 clear hb hW0 y0 y1 y2 y3 hp
 by_cases h0:c=0
 . subst h0
   go_wp2_with fail
   go_ret
   first | exact ⟨_,_,rfl,u_ HP,u_ HB⟩ | exact ⟨_,⟨_,rfl⟩,u_ HP,u_ HB⟩
 . have hne:(c == 0)=false:=by simpa using h0
   have HD:Hid (decide (c=0)=false):=h_ (decide_eq_false h0)
   go_wp2_with fail
   go_ret
   exact ⟨c,a,by rw [u_ HD];rfl,u_ HP,u_ HB⟩
def bV (g:Nat->Bool) (k:Nat):List Value:=(List.range k).map fun j=>.bool (g j)
theorem qhx (g:Nat->Bool) (k:Nat):bV g (k+1)=bV g k++[.bool (g k)]:=by simp [bV,List.range_succ]
theorem q2a {w:World} {base:Nat} {v:Value} {n:Nat} {g:Nat->Bool} (h:w.ownsRow base 4 1 v n (bV g n)):∃ a c,v=.slice a n c/\Bools w a n g:=by
 rcases h.2 with ⟨e,h0⟩ | ⟨q,cap,cur,rfl,-,hq,-,-,hs,ht⟩
 . obtain rfl:n=0:=by omega
   exact ⟨none,0,e,fun k hk=>absurd hk (nL _)⟩
 . refine ⟨_,_,rfl,fun k hk=>⟨q,0,rfl,(Array.getElem?_eq_some_iff.1 hq).1,?_⟩⟩
   have e2:(bV g n)[k]? = some (.bool (g k)):=by simp [bV,hk]
   rw [<- ht] at e2
   simp only [World.cell?,hq,Nat.zero_add]
   rw [List.getElem?_take_of_lt (by omega)] at e2
   simpa using e2
theorem qgk {m:Fm} (hv:VfA m) {r:Nat} (hr:r<m.R.length):m.R[r].lb=((rlb m r:Nat):Int)/\rlb m r<m.L.length:=by
 have h:=hv.ro m.R[r] (List.getElem_mem hr)
 unfold inR at h
 rw [decide_eq_true_eq] at h
 have e:m.R.getD r noRl=m.R[r]:=by rw [List.getD_eq_getElem?_getD,List.getElem?_eq_getElem hr];rfl
 unfold rlb
 rw [e]
 omega
theorem q89:(Tryz.prog.info? 4).map (fun i=>(i.zero,i.size,i.bytes))=some (some (.bool false),1,1):=by kernel_rfl
theorem qfe (m:Fm) (A:MA) (r:Nat) (w:World) (bot top:Int) (s n bt tp:Nat) (F:Nat->Bool) (J M:Nat->Int) (hV:∀ W,MSl W m A->Calls Tryz.prog 83 #[mV m A] W fun r w'=>r=.returned (.bool (vfB m))/\Below W.heap.size W w') (hq:vfB m=true) (hv:VfA m) (hz:SpecF m.L.length m.P.length (pr1 m) (pr2 m) s F J M bot top) (hcl:SpecC m.L.length m.P.length (pr1 m) (pr2 m) s F) (hL:ValidP m.L.length s s s F J M bot top n bt tp) (hf:FitM m) (hr:r<m.R.length) (ha:MSl w m A) :
 Calls Tryz.prog 28 #[mV m A,.int .i64 r] w fun e w'=>∃ f a0 c0,e=.returned (.slice a0 m.F.length c0)/\Sol m n (fun a b=>F (a*n+b)=true) f/\Low m n (fun a b=>F (a*n+b)=true) f/\Bools w' a0 m.F.length (seesB m n F f r)/\Below w.heap.size w w':=by
 have hN:m.L.length=n:=by have:=hL.hN;omega
 have HCi:=h_ fun W (hs:MSl W m A)=>q6s m A W bot top s n bt tp F J M hV hq hv hz hL hf hs
 have HCo:=h_ fun W=>q5r m A W hf
 have HPm:=h_ fun W (hs:MSl W m A)=>qkf hs
 have HCl:=h_ hcl
 have hn:=hL.h32
 have e1:=hL.l1
 subst e1
 have hnf:=hv.nf
 obtain ⟨hlb,hlb2⟩:=qgk hv hr
 rw [hN] at hlb2
 obtain ⟨al,alc,ap,apc,ar,arc,af,afc,afa⟩:=A
 unfold mV at HCi HCo ⊢
 dsimp only at HCi HCo HPm ⊢
 rw [hN] at HCi HCo HCl
 try rw [hN]
 have HK:=h_ (Blk.new w 37 #[.slice al n alc,.slice ap m.P.length apc,.slice ar m.R.length arc,.slice af m.F.length afc])
 have HB:=h_ ((bR w.heap.size w).alloc (nR _) (.cells #[.slice al n alc,.slice ap m.P.length apc,.slice ar m.R.length arc,.slice af m.F.length afc] 37))
 obtain ⟨W0,hW0⟩:∃ W0,w.alloc (.cells #[.slice al n alc,.slice ap m.P.length apc,.slice ar m.R.length arc,.slice af m.F.length afc] 37)=W0:=⟨_,rfl⟩
 rw [hW0] at HK HB
 have HS:=h_ (ha.mono (u_ HB))
 clear ha hf hz hL hv hN hV hq hcl
 have hr':(r:Int)<m.R.length:=by omega
 have HRl:=h_ hlb
 obtain ⟨lb,hlbe⟩:∃ lb,rlb m r=lb:=⟨_,rfl⟩
 rw [hlbe] at HRl hlb2
 have HSe:Hid (∀ f k,seesB m n F f r k=F (f k*n+lb)):=h_ (fun f k=>by unfold seesB;rw [hlbe])
 obtain ⟨y0,y1,y2,y3⟩:=quad (u_ HK)
 clear hlb hlbe
 have HC1:=h_ (u_ HCi W0 (u_ HS))
 go_enter Tryz.func28,Tryz.ntmps28
 go_wp2_with fail
 try rw [hW0]
 refine (u_ HC1).mono ?_
 rintro e W1 ⟨f,a5,c5,rfl,s1,s2,hp,hb⟩
 have S1:=h_ s1;have S2:=h_ s2;have HP:=h_ hp
 replace HK:=mB HK hb;replace HS:=h_ ((u_ HS).mono hb);replace HB:=mT HB hb
 clear hb hW0 y0 y1 y2 y3 s1 s2 hp HC1 HCi
 obtain ⟨y0,y1,y2,y3⟩:=quad (u_ HK)
 go_wp2_with fail
 refine (u_ HCo W1).mono ?_
 rintro e W2 ⟨rfl,hb⟩
 replace HK:=mB HK hb;replace HS:=h_ ((u_ HS).mono hb);replace HB:=mT HB hb;replace HP:=h_ ((u_ HP).mono hb)
 have HC2:=h_ (u_ HCl W2 ap apc (u_ HPm W2 (u_ HS)))
 clear hb y0 y1 y2 y3
 go_wp2_with fail
 refine (u_ HC2).mono ?_
 rintro e W3 ⟨G,rfl,hg,-,hb⟩
 have HG:=h_ (Blk.bools hg)
 replace HK:=mB HK hb;replace HS:=h_ ((u_ HS).mono hb);replace HB:=mT HB hb;replace HP:=h_ ((u_ HP).mono hb)
 clear hb hg HC2 HCl HCo HPm
 have hw3:w.heap.size<W3.heap.size:=(u_ HK).lt
 have HB4:=h_ ((bR W3.heap.size W3).alloc (nR _) (.cells #[] 4))
 have HO:=h_ (qcv W3 4)
 have hK4:=(u_ HK).alloc (.cells #[] 4)
 obtain ⟨W4,hW4⟩:∃ W4,W3.alloc (.cells #[] 4)=W4:=⟨_,rfl⟩
 obtain ⟨D,hD⟩:∃ D,W3.heap.size=D:=⟨_,rfl⟩
 rw [hW4] at HB4 HO hK4
 rw [hD] at HO HB4 hw3
 have HD:=h_ hD
 have hD4:D<=W4.heap.size:=by rw [<- hD];exact (show W3.heap.size<=W4.heap.size from hD ▸ (u_ HB4).size)
 obtain ⟨y0,y1,y2,y3⟩:=quad hK4
 clear hK4
 go_wp2_with fail
 try rw [hD]
 try rw [hW4]
 clear hW4 hD y0 y1 y2 y3
 have HBw:=h_ ((u_ HB).trans ((u_ HB4).mono (by omega)))
 go_loopw [7,8] (fun v i wr=>∃ k:Nat,k<=m.F.length/\i=.int .i64 k/\wr.ownsRow D 4 1 v k (bV (seesB m n F f r) k)/\Below D W4 wr) (fun _ i _=>m.F.length - (intOf i).toNat)
 case atStart=>exact ⟨0,nZ _,rfl,u_ HO,bR _ _⟩
 case round =>
  clear HO
  obtain ⟨k,hk,rfl,hO,hb⟩:=hrel
  have HO:=h_ hO;have HBr:=h_ hb
  have hws:D<=wr.heap.size:=by have:=hb.size;omega
  have HZ:Hid (∀ W',Below D W4 W'->Below W3.heap.size W3 W'):=h_ fun W' h=>by rw [u_ HD];exact (u_ HB4).trans h
  have HKr:=h_ ((u_ HK).mono (u_ HZ wr hb) (u_ HK).lt)
  obtain ⟨y0,y1,y2,y3⟩:=quad (u_ HKr)
  clear hb hO
  by_cases hlt:k<m.F.length
  . have hlt':(k:Int)<m.F.length:=by omega
    obtain ⟨b1,o1,e1,hb1,z1⟩:=(u_ HP).at k (by rw [qjs];exact hlt)
    rw [qjr] at z1
    obtain ⟨b2,o2,e2,hb2,-,z2⟩:=(u_ HS).r r hr
    dsimp only at e2
    rw [u_ HRl] at z2
    obtain ⟨fk,hfk⟩:∃ fk,f k=fk:=⟨_,rfl⟩
    rw [hfk] at z1
    obtain ⟨hidx,hw1,hw2,hidx',hidx2⟩:=qbu (show fk<n by rw [<- hfk];exact (u_ S1).lt k hlt) hlb2 hn
    obtain ⟨b3,o3,e3,hb3,z3⟩:=u_ HG _ hidx
    cases e3
    obtain ⟨vb,hvb⟩:∃ vb,F (fk*n+lb)=vb:=⟨_,rfl⟩
    have HT:Hid (bV (seesB m n F f r) (k+1)=bV (seesB m n F f r) k++[.bool vb]):=h_ (by rw [qhx,u_ HSe,hfk,hvb])
    rw [hvb] at z3
    have HC1:Hid (∀ W',Below D W4 W'->W'.cell? ⟨b1,o1+k,none⟩=some (.int .i64 fk)):=h_ fun W' h=>(((u_ HZ W' h).cell (p:=⟨b1,o1+k,none⟩) hb1).trans z1)
    have HC2:Hid (∀ W',Below D W4 W'->W'.cell? ⟨b2,o2+r*2+1,none⟩=some (.int .i64 lb)):=h_ fun W' h=>(((u_ HZ W' h).cell (p:=⟨b2,o2+r*2+1,none⟩) hb2).trans z2)
    have HC3:Hid (∀ W',Below D W4 W'->W'.cell? ⟨G,0+(fk*n+lb),none⟩=some (.bool vb)):=h_ fun W' h=>(((u_ HZ W' h).cell (p:=⟨G,0+(fk*n+lb),none⟩) hb3).trans z3)
    have HC4:Hid (∀ W',Below D W4 W'->Blk W' w.heap.size 37 [.slice al n alc,.slice ap m.P.length apc,.slice ar m.R.length arc,.slice af m.F.length afc]):=h_ fun W' h=>(u_ HK).mono (u_ HZ W' h) (u_ HK).lt
    clear z1 z2 z3 hfk hvb hb1 hb2 hb3
    generalize fk*n+lb=q1 at *
    generalize fk*n=q2 at *
    rw [Nat.zero_add] at HC3
    go_wp2_with fail
    clear y0 y1 y2 y3
    subst e1
    subst e2
    obtain ⟨i0,hi,hz0,hz1,hz2⟩:=info_parts q89
    refine wp_region_held_drew (S:=fun w'=>Below D W4 w') (by kernel_rfl) (u_ HBr).drew (fun zz=>?_)
    refine tk 0 22 u7 zz ?_
    refine tk 1 23 (.slice (some ⟨G,0,none⟩) (n*n) (n*n)) zz ?_
    refine tk 2 24 (.slice (some ⟨b1,o1,none⟩) m.F.length c5) zz ?_
    refine tk 3 25 (.int .i64 k) zz ?_
    simp only [sX,sY,sZ]
    refine tk 4 26 (.pointer (some ⟨b1,o1+k,none⟩)) zz ?_
    refine tk 5 27 (.int .i64 fk) zz ?_ (hy:=fun w hS=>by have q0:=u_ HC1 _ hS;simp [execOp,go_sem,q0])
    refine tk 6 28 (.pointer (some ⟨w.heap.size,0,none⟩)) zz ?_
    refine tk 7 29 (.slice al n alc) zz ?_ (hy:=fun w hS=>by obtain ⟨q0,q1,q2,q3⟩:=quad (u_ HC4 _ hS);simp [execOp,go_sem,q0])
    simp only [sX,sY,sZ]
    refine tk 8 30 (.int .i64 n) zz ?_
    refine tk 9 31 (.int .i64 q2) zz ?_ (hy:=fun w hS=>by simp [execOp,go_sem];exact (IntWalk.i64_left _).trans hw1)
    refine tk 10 32 (.pointer (some ⟨w.heap.size,2,none⟩)) zz ?_
    refine tk 11 33 (.slice (some ⟨b2,o2,none⟩) m.R.length arc) zz ?_ (hy:=fun w hS=>by obtain ⟨q0,q1,q2,q3⟩:=quad (u_ HC4 _ hS);simp [execOp,go_sem,q2])
    simp only [sX,sY,sZ]
    refine tk 12 34 (.int .i64 r) zz ?_
    refine tk 13 35 (.pointer (some ⟨b2,o2+r*2,none⟩)) zz ?_
    refine tk 14 36 (.pointer (some ⟨b2,o2+r*2+1,none⟩)) zz ?_
    refine tk 15 37 (.int .i64 lb) zz ?_ (hy:=fun w hS=>by have q0:=u_ HC2 _ hS;simp [execOp,go_sem,q0])
    simp only [sX,sY,sZ]
    refine tk 16 38 (.int .i64 q1) zz ?_ (hy:=fun w hS=>by simp [execOp,go_sem];exact (IntWalk.i64_left _).trans hw2)
    refine tk 17 39 (.pointer (some ⟨G,q1,none⟩)) zz ?_
    refine tk 18 40 (.bool vb) zz ?_ (hy:=fun w hS=>by have q0:=u_ HC3 _ hS;simp [execOp,go_sem,q0])
    simp only [sX,sY,sZ]
    have hB1:Below D W4 (wr.drew.alloc (.cells #[.bool vb] 4)):=(u_ HBr).drew.alloc hws _
    refine runY (i:=19) (v:=.slice (some ⟨wr.drew.heap.size,0,none⟩) 1 1) (w':=wr.drew.alloc (.cells #[.bool vb] 4)) 41 rfl rfl (by rfl) (by kernel_rfl) (by simp [execOp,go_sem]) hB1 ?_
    simp only [sX,sY,sZ]
    have hO1:=(qct (u_ HO) (bR wr.heap.size wr).drew).alloc (.cells #[.bool vb] 4)
    refine appY (i:=20) 42 rfl rfl rfl (by kernel_rfl) (.tmp 22) (.tmp 41) 62 rfl D 4 i0 _ 1 1 Tryz.underlying62 hi hz0 hz1 hz2 rfl (by omega) u7 k (bV (seesB m n F f r) k) rfl hO1 ⟨wr.drew.heap.size,0,none⟩ 1 1 [.bool vb] rfl rfl (qec wr.drew 4 _) (by simp [Value.oneCell']) (by omega) (by unfold maxLen;omega) (by omega) (Nat.le_trans hD4 hB1.size) (wr.drew.alloc (.cells #[.bool vb] 4)).heap.size rfl ?_
    intro g cap w3 ho hgr _ _
    have hB2:=hB1.grown hgr (Nat.le_trans hD4 hB1.size) (fun q e=>q97 (u_ HO) e)
    have HO2:Hid (w3.ownsRow D 4 1 (.slice (some ⟨g,0,none⟩) (k+1) cap) (k+1) (bV (seesB m n F f r) (k+1))):=h_ (by rw [u_ HT];exact ho)
    have HB2:=h_ hB2
    replace zz:Below D W4 w3:=hB2
    clear ho hgr hB1 hO1 hB2 hi hz0 hz1 hz2
    refine ⟨zz,?_⟩
    simp only [sX,sY,sZ]
    refine tk 21 7 (.slice (some ⟨g,0,none⟩) (k+1) cap) zz ?_
    simp only [sX,sY,sZ]
    refine wpAnyH_done (by kernel_rfl) ?_ _
    clear zz
    go_wp2_with fail
    go_roundw
    case rel=>first | exact ⟨k+1,by omega,by go_num,u_ HO2,u_ HB2⟩ | ((repeat apply Exists.intro);exact ⟨⟨k+1,by omega,by go_num,u_ HO2,u_ HB2⟩,rfl⟩)
    case measure=>simp [intOf];omega
  . obtain rfl:k=m.F.length:=by omega
    have hlt':¬ (m.F.length:Int)<(m.F.length:Int):=by omega
    obtain ⟨a1,c1,rfl,hS⟩:=q2a (u_ HO)
    have HS9:=h_ hS
    have HB9:=h_ ((u_ HBw).trans ((u_ HBr).mono (by omega)))
    clear hS HO
    go_wp2_with fail
    go_ret
    first | exact ⟨f,_,_,rfl,u_ S1,u_ S2,u_ HS9,u_ HB9⟩ | exact ⟨f,_,⟨_,rfl⟩,u_ S1,u_ S2,u_ HS9,u_ HB9⟩ | exact ⟨_,⟨_,rfl⟩,f,u_ S1,u_ S2,u_ HS9,u_ HB9⟩
theorem q4s {w:World} {a:Option Addr} {n:Nat} {f g:Nat->Bool} (h:Bools w a n f) (he:∀ k,k<n->f k=g k):Bools w a n g:=fun k hk=>by
 obtain ⟨b,o,e,hl,hc⟩:=h k hk
 exact ⟨b,o,e,hl,by rw [<- he k hk];exact hc⟩
end Go.Proofs.YtnhjjaminkhiiaaGreatDoor
