import Derived.Test.YtgkcaeidhkddjaaGreatDoorXGW
set_option maxRecDepth 100000
set_option maxHeartbeats 20000000
namespace Go.Proofs.YtgkcaeidhkddjaaGreatDoor
open Go Go.RowKit
structure Cx where
 v:Vx
 rel:Bool
 ok:Bool
 must:Bool
def cv (n:Cx):Value:=.agg #[.int .i64 n.v.k,.int .i64 n.v.n,.string n.v.s,.bool n.rel,.bool n.ok,.bool n.must]
def rlb (m:Fm) (r:Nat):Nat:=(m.R.getD r noRl).lb.toNat
def seesB (m:Fm) (n:Nat) (F:Nat->Bool) (f:Nat->Nat) (r k:Nat):Bool:=F (f k*n+rlb m r)
theorem qg9 {m:Fm} {n:Nat} {F:Nat->Bool} {f g:Nat->Nat} (h:∀ k,k<m.F.length->f k=g k) {r k:Nat} (hk:k<m.F.length):seesB m n F f r k=seesB m n F g r k:=by unfold seesB;rw [h k hk]
structure Ex where
 r:Int
 f:Int
 v:Vx
def ev (n:Ex):Value:=.agg #[.int .i64 n.r,.int .i64 n.f,.int .i64 n.v.k,.int .i64 n.v.n,.string n.v.s]
def EEnt (w:World) (b o:Nat) (n:Ex):Prop:=b<w.heap.size/\w.cell? ⟨b,o,none⟩=some (.int .i64 n.r)/\w.cell? ⟨b,o+1,none⟩=some (.int .i64 n.f)/\w.cell? ⟨b,o+2,none⟩=some (.int .i64 n.v.k)/\w.cell? ⟨b,o+3,none⟩=some (.int .i64 n.v.n)/\w.cell? ⟨b,o+4,none⟩=some (.string n.v.s)
theorem EEnt.mono {w w':World} {b o:Nat} {n:Ex} (h:EEnt w b o n) (hb:Below w.heap.size w w'):EEnt w' b o n :=
 ⟨Nat.lt_of_lt_of_le h.1 hb.size,(hb.cell h.1).trans h.2.1,(hb.cell h.1).trans h.2.2.1,(hb.cell h.1).trans h.2.2.2.1,(hb.cell h.1).trans h.2.2.2.2.1,(hb.cell h.1).trans h.2.2.2.2.2⟩
def Ents (w:World) (a:Option Addr) (m:Nat) (e:Nat->Ex):Prop:=∀ k,k<m->∃ b o,a=some ⟨b,o,none⟩/\EEnt w b (o+k*5) (e k)
theorem Ents.mono {w w':World} {a:Option Addr} {m:Nat} {e:Nat->Ex} (h:Ents w a m e) (hb:Below w.heap.size w w'):Ents w' a m e:=fun k hk=>by
 obtain ⟨b,o,e,hc⟩:=h k hk
 exact ⟨b,o,e,hc.mono hb⟩
def FitE (n:Ex):Prop:=n.v.s.size<=9223372036854775807/\-9223372036854775808<=n.v.n/\n.v.n<=9223372036854775807
theorem qek:(Tryz.prog.info? 56).map (fun i=>(i.zero,i.size,i.bytes))=some (some (.agg #[.int .i64 0,.int .i64 0,.int .i64 0,.int .i64 0,.string ⟨#[]⟩]),5,48):=by kernel_rfl
theorem q6n (n:Ex) (left:Int) (w:World) (hf:FitE n) (l0:0<=left) (l1:left<=1048576) :
 Calls Tryz.prog 16 #[ev n,.int .i64 left] w fun r w'=>∃ q:Int,r=.returned (.int .i64 q)/\(0<=q->q<=1048576/\n.v.s.size<=1048576)/\(q<0->q = -1)/\Below w.heap.size w w':=by
 obtain ⟨hs,-,-⟩:=hf
 unfold ev
 have HB:=h_ ((bR w.heap.size w).alloc (nR _) (.cells #[.int .i64 n.r,.int .i64 n.f,.int .i64 n.v.k,.int .i64 n.v.n,.string n.v.s] 51))
 go_enter Tryz.func16,Tryz.ntmps16
 go_wp2_with fail
 refine (q6r n.v.k n.v.n n.v.s left _ hs l0 l1).mono ?_
 rintro e w2 ⟨rfl,hb⟩
 replace HB:=mT HB hb
 clear hb
 by_cases hq:left<n.v.s.size
 . rw [if_pos hq]
   go_wp2_with fail
   go_ret
   exact ⟨_,rfl,fun h=>absurd h (by decide),fun _=>rfl,u_ HB⟩
 . rw [if_neg hq]
   have hq':¬ left - n.v.s.size<0:=by omega
   go_wp2_with fail
   go_ret
   exact ⟨_,rfl,fun _=>by omega,fun h=>by omega,u_ HB⟩
theorem q4f (a:Option Addr) (m c:Nat) (e:Nat->Ex) (l0:Int) (w:World) (h0:0<=l0) (h1:l0<=1048576) (hm:m<=9223372036854775807) (hf:∀ k,k<m->FitE (e k)) (ha:Ents w a m e) :
 Calls Tryz.prog 5 #[.slice a m c,.int .i64 l0] w fun r w'=>∃ q:Int,r=.returned (.int .i64 q)/\(0<=q->q<=1048576/\m<=1048576/\∀ k,k<m->(e k).v.s.size<=1048576)/\(q<0->q = -1)/\Below w.heap.size w w':=by
 have HA:=h_ ha;have HF:=h_ hf
 clear ha hf
 have hw1:wrap64 (l0 - (m:Int))=l0 - (m:Int):=q4o (by omega) (by omega)
 by_cases h:(m:Int)<=l0
 . have h':¬ l0 - (m:Int)<0:=by omega
   obtain ⟨lq,hlq⟩:∃ lq:Int,l0 - (m:Int)=lq:=⟨_,rfl⟩
   have HLQ:Hid (0<=lq/\lq<=1048576):=h_ (by omega)
   rw [hlq] at h' hw1
   go_enter Tryz.func5,Tryz.ntmps5
   go_wp2_with fail
   try rw [hlq]
   clear hlq hw1 h'
   go_loopw [1,5] (fun l i wr=>∃ (k:Nat) (left:Int),k<=m/\l=.int .i64 left/\i=.int .i64 k/\0<=left/\left<=1048576/\(∀ j,j<k->(e j).v.s.size<=1048576)/\Below w.heap.size w wr) (fun _ i _=>m - (intOf i).toNat)
   case atStart=>exact ⟨0,_,nZ _,rfl,rfl,(u_ HLQ).1,(u_ HLQ).2,fun j hj=>absurd hj (nL _),bR _ _⟩
   case round =>
    clear HLQ
    obtain ⟨k,left,hk,rfl,rfl,q0,q1,hall,hb⟩:=hrel
    have HALL:=h_ hall;have HB:=h_ hb
    have HV:=h_ ((u_ HA).mono hb)
    clear hall hb
    by_cases hlt:k<m
    . have hlt':(k:Int)<m:=by omega
      obtain ⟨b,o,rfl,-,c0,c1,c2,c3,c4⟩:=u_ HV k hlt
      go_wp2_with fail
      refine (q6n (e k) left _ (u_ HF k hlt) q0 q1).mono ?_
      rintro r w2 ⟨q,rfl,hq,hq',hb⟩
      replace HB:=mT HB hb
      clear hb c0 c1 c2 c3 c4
      by_cases hn:q<0
      . obtain rfl:=hq' hn
        clear hq hq' hn
        go_wp2_with fail
        go_ret
        exact ⟨_,rfl,fun h=>absurd h (by decide),fun _=>rfl,u_ HB⟩
      . have HQ:=h_ (hq (by omega))
        have HN:Hid (∀ j,j<k+1->(e j).v.s.size<=1048576):=h_ fun j hj=>by
         by_cases ej:j=k
         . rw [ej];exact (u_ HQ).2
         . exact u_ HALL j (by omega)
        clear hq hq'
        go_wp2_with fail
        go_roundw
        case rel=>exact ⟨k+1,q,by omega,rfl,by go_num,by omega,(u_ HQ).1,u_ HN,u_ HB⟩
        case measure=>simp [intOf];omega
    . obtain rfl:k=m:=by omega
      go_wp2_with fail
      go_ret
      exact ⟨_,rfl,fun _=>⟨q1,by omega,u_ HALL⟩,fun h=>by omega,u_ HB⟩
 . have h':l0 - (m:Int)<0:=by omega
   go_enter Tryz.func5,Tryz.ntmps5
   go_wp2_with fail
   go_ret
   exact ⟨_,rfl,fun h=>absurd h (by decide),fun _=>rfl,bR _ _⟩
theorem q6t (n:Ex) (w:World) :
 Calls Tryz.prog 26 #[ev n] w fun r w'=>r=.returned (ev n)/\Below w.heap.size w w':=by
 unfold ev
 have HK:=h_ (((Blk.new w 51 #[.int .i64 n.r,.int .i64 n.f,.int .i64 n.v.k,.int .i64 n.v.n,.string n.v.s]).alloc (.cells #[.int .i64 0,.int .i64 0,.int .i64 0,.int .i64 0,.string ⟨#[]⟩] 56)).alloc (.cells #[.int .i64 n.r,.int .i64 n.f,.int .i64 0,.int .i64 0,.string ⟨#[]⟩] 56))
 have HR:=h_ ((Blk.new (w.alloc (.cells #[.int .i64 n.r,.int .i64 n.f,.int .i64 n.v.k,.int .i64 n.v.n,.string n.v.s] 51)) 56 #[.int .i64 0,.int .i64 0,.int .i64 0,.int .i64 0,.string ⟨#[]⟩]).alloc (.cells #[.int .i64 n.r,.int .i64 n.f,.int .i64 0,.int .i64 0,.string ⟨#[]⟩] 56))
 have HO:=h_ (Blk.new ((w.alloc (.cells #[.int .i64 n.r,.int .i64 n.f,.int .i64 n.v.k,.int .i64 n.v.n,.string n.v.s] 51)).alloc (.cells #[.int .i64 0,.int .i64 0,.int .i64 0,.int .i64 0,.string ⟨#[]⟩] 56)) 56 #[.int .i64 n.r,.int .i64 n.f,.int .i64 0,.int .i64 0,.string ⟨#[]⟩])
 have HB:=h_ ((((bR w.heap.size w).alloc (nR _) (.cells #[.int .i64 n.r,.int .i64 n.f,.int .i64 n.v.k,.int .i64 n.v.n,.string n.v.s] 51)).alloc (by simp) (.cells #[.int .i64 0,.int .i64 0,.int .i64 0,.int .i64 0,.string ⟨#[]⟩] 56)).alloc (by simp;omega) (.cells #[.int .i64 n.r,.int .i64 n.f,.int .i64 0,.int .i64 0,.string ⟨#[]⟩] 56))
 simp only [World.size_alloc] at HR HO
 go_enter Tryz.func26,Tryz.ntmps26
 go_wp2_with fail
 refine (q6v n.v.k n.v.n n.v.s _).mono ?_
 rintro x w2 ⟨rfl,hb⟩
 replace HK:=mB HK hb;replace HR:=mB HR hb;replace HO:=mB HO hb;replace HB:=mT HB hb
 clear hb
 obtain ⟨y0,y1,y2,y3,y4⟩:=five (u_ HK)
 obtain ⟨r0,r1,r2,r3,r4⟩:=five (u_ HR)
 obtain ⟨o0,o1,o2,o3,o4⟩:=five (u_ HO)
 have f0:=(u_ HR).free 0;have f1:=(u_ HR).free 1;have f2:=(u_ HR).free 2;have f3:=(u_ HR).free 3;have f4:=(u_ HR).free 4
 have g1:=(u_ HO).free 1;have g2:=(u_ HO).free 2;have g3:=(u_ HO).free 3;have g4:=(u_ HO).free 4
 go_wp2_with fail
 refine bodyPost_ret (v:=.agg #[.int .i64 n.r,.int .i64 n.f,.int .i64 n.v.k,.int .i64 n.v.n,.string n.v.s]) (by simp [results,Tryz.results26,go_sem, *]) rfl ⟨rfl,?_⟩
 repeat refine Below.setCell ?_ (by simp;try omega) _
 exact u_ HB
theorem q6s (a:Option Addr) (e:Nat->Ex) (n c:Nat) (w:World) (ha:Ents w a n e) (hn:n<=1048576) :
 Calls Tryz.prog 8 #[.slice a n c] w fun r w'=>r=.returned (.slice (some ⟨w.heap.size,0,none⟩) n n)/\Ents w' (some ⟨w.heap.size,0,none⟩) n e/\Bk w' w.heap.size 56 (n*5)/\Below w.heap.size w w':=by
 obtain ⟨i0,hi,hz0,hz1,hz2⟩:=info_parts qek
 obtain ⟨B,hB⟩:∃ B,w.heap.size=B:=⟨_,rfl⟩
 have hbn:i0.bytes*n<=281474976710656:=by rw [hz2];omega
 have HA:=h_ ha
 clear ha
 go_enter Tryz.func8,Tryz.ntmps8
 go_wp2_with (at_make;refine wpList_make_full _ rfl _ _ 38 rfl w.heap.size 56 i0 _ 5 Tryz.underlying38 hi hz0 hz1 .i64 .i64 _ _ n rfl rfl rfl rfl hbn (by unfold maxLen;omega) (nR _) ?_;intro w1 hown hgrow)
 have hb1:Below B w w1:=by rw [<- hB];exact (bR _ _).grown hgrow (nR _) (fun k h=>by cases h)
 rw [hB] at hown
 obtain ⟨hX,hXl⟩:=Blk.of_owns5 hown
 have HX:=h_ hX;have HXL:=h_ hXl;have HB1:=h_ hb1
 clear hgrow hbn hi hz0 hz1 hz2 hown hX hXl hb1
 go_wp2_with fail
 try rw [hB]
 go_loopw [4] (fun i wr=>∃ (k:Nat) (xs:List Value),k<=n/\i=.int .i64 k/\Blk wr B 56 xs/\xs.length=n*5/\(∀ j,j<k->xs[j*5]? = some (.int .i64 (e j).r)/\xs[j*5+1]? = some (.int .i64 (e j).f)/\xs[j*5+2]? = some (.int .i64 (e j).v.k)/\xs[j*5+3]? = some (.int .i64 (e j).v.n)/\xs[j*5+4]? = some (.string (e j).v.s))/\Below B w wr) (fun i _=>n - (intOf i).toNat)
 case atStart=>exact ⟨0,_,nZ _,rfl,u_ HX,u_ HXL,fun j h=>absurd h (nL _),u_ HB1⟩
 case round =>
  clear HX HXL HB1
  obtain ⟨k,xs,hk,rfl,hX,hXl,hx,hb⟩:=hrel
  have HX:=h_ hX;have HXL:=h_ hXl;have HXX:=h_ hx;have HB:=h_ hb
  have HV:=h_ ((u_ HA).mono (hb.mono (by omega)))
  clear hX hXl hx hb
  by_cases hlt:k<n
  . have hlt':(k:Int)<n:=by omega
    obtain ⟨b1,o1,rfl,hl1,hc1,hc2,hc3,hc4,hc5⟩:=u_ HV k hlt
    go_wp2_with fail
    refine (q6t (e k) _).mono ?_
    rintro x w3 ⟨rfl,hb3⟩
    have X3:=(u_ HX).mono hb3 (u_ HX).lt
    have B3:=(u_ HB).trans (hb3.mono (by have:=(u_ HX).lt;omega))
    have c0:=X3.cell (k*5);have c1:=X3.cell (k*5+1);have c2:=X3.cell (k*5+2);have c3:=X3.cell (k*5+3);have c4:=X3.cell (k*5+4)
    have f0:=X3.free (k*5);have f1:=X3.free (k*5+1);have f2:=X3.free (k*5+2);have f3:=X3.free (k*5+3);have f4:=X3.free (k*5+4)
    rw [List.getElem?_eq_getElem (by have:=u_ HXL;omega)] at c0 c1 c2 c3 c4
    have HX3:=h_ X3;have HB3:=h_ B3
    clear X3 B3 hb3 hc1 hc2 hc3 hc4 hc5
    unfold ev
    go_wp2_with fail
    go_roundw
    case rel =>
     refine ⟨k+1,_,by omega,by go_num,(((((u_ HX3).set (k*5) (.int .i64 (e k).r)).set (k*5+1) (.int .i64 (e k).f)).set (k*5+2) (.int .i64 (e k).v.k)).set (k*5+3) (.int .i64 (e k).v.n)).set (k*5+4) (.string (e k).v.s),by simpa using u_ HXL,fun j hj=>?_,(((((u_ HB3).setCell (nR _) _).setCell (nR _) _).setCell (nR _) _).setCell (nR _) _).setCell (nR _) _⟩
     have hxl:=u_ HXL
     by_cases ej:j=k
     . subst ej
       simp [List.getElem?_set];omega
     . have:=u_ HXX j (by omega)
       simp only [List.getElem?_set]
       (repeat rw [if_neg (by omega)])
       exact this
    case measure=>simp [intOf];omega
  . obtain rfl:n=k:=by omega
    go_wp2_with fail
    go_ret
    refine ⟨by rw [hB];rfl,?_,?_,?_⟩
    . intro j hj
      have:=u_ HXX j hj
      exact ⟨B,0,by rw [hB],(u_ HX).lt,by rw [Nat.zero_add,(u_ HX).cell];exact this.1,by rw [Nat.zero_add,(u_ HX).cell];exact this.2.1,by rw [Nat.zero_add,(u_ HX).cell];exact this.2.2.1,by rw [Nat.zero_add,(u_ HX).cell];exact this.2.2.2.1,by rw [Nat.zero_add,(u_ HX).cell];exact this.2.2.2.2⟩
    . rw [hB];exact ⟨_,u_ HX,u_ HXL⟩
    . rw [hB];exact u_ HB
theorem q4j (a:Option Addr) (e:Nat->Ex) (n c:Nat) (w:World) (ha:Ents w a n e) (hn:n<=1048576) :
 Calls Tryz.prog 8 #[.slice a n c] w fun r w'=>r=.returned (.slice (some ⟨w.heap.size,0,none⟩) n n)/\Ents w' (some ⟨w.heap.size,0,none⟩) n e/\Below w.heap.size w w' :=
 (q6s a e n c w ha hn).mono fun _ _ ⟨h1,h2,_,h4⟩=>⟨h1,h2,h4⟩
theorem q3g (n:Ex) (w:World) :
 Calls Tryz.prog 36 #[ev n,ev n] w fun r w'=>r=.returned (.bool true)/\Below w.heap.size w w':=by
 unfold ev
 have HK:=h_ ((Blk.new w 56 #[.int .i64 n.r,.int .i64 n.f,.int .i64 n.v.k,.int .i64 n.v.n,.string n.v.s]).alloc (.cells #[.int .i64 n.r,.int .i64 n.f,.int .i64 n.v.k,.int .i64 n.v.n,.string n.v.s] 56))
 have HR:=h_ (Blk.new (w.alloc (.cells #[.int .i64 n.r,.int .i64 n.f,.int .i64 n.v.k,.int .i64 n.v.n,.string n.v.s] 56)) 56 #[.int .i64 n.r,.int .i64 n.f,.int .i64 n.v.k,.int .i64 n.v.n,.string n.v.s])
 have HB:=h_ (((bR w.heap.size w).alloc (nR _) (.cells #[.int .i64 n.r,.int .i64 n.f,.int .i64 n.v.k,.int .i64 n.v.n,.string n.v.s] 56)).alloc (by simp) (.cells #[.int .i64 n.r,.int .i64 n.f,.int .i64 n.v.k,.int .i64 n.v.n,.string n.v.s] 56))
 simp only [World.size_alloc] at HR
 go_enter Tryz.func36,Tryz.ntmps36
 go_wp2_with fail
 refine (q3l n.v.k n.v.n n.v.s _).mono ?_
 rintro x w2 ⟨rfl,hb⟩
 replace HK:=mB HK hb;replace HR:=mB HR hb;replace HB:=mT HB hb
 clear hb
 obtain ⟨y0,y1,y2,y3,y4⟩:=five (u_ HK)
 obtain ⟨r0,r1,r2,r3,r4⟩:=five (u_ HR)
 go_wp2_with fail
 go_ret
 exact ⟨rfl,u_ HB⟩
theorem q2a (a b:Option Addr) (e:Nat->Ex) (n ca cb:Nat) (w:World) (hn:n<=1048576) (ha:Ents w a n e) (hb:Ents w b n e) :
 Calls Tryz.prog 11 #[.slice a n ca,.slice b n cb] w fun r w'=>r=.returned (.bool true)/\Below w.heap.size w w':=by
 have HA:=h_ ha;have HB0:=h_ hb
 clear ha hb
 go_enter Tryz.func11,Tryz.ntmps11
 go_wp2_with fail
 go_loopw [5] (fun i wr=>∃ k:Nat,k<=n/\i=.int .i64 k/\Below w.heap.size w wr) (fun i _=>n - (intOf i).toNat)
 case atStart=>exact ⟨0,nZ _,rfl,bR _ _⟩
 case round =>
  obtain ⟨k,hk,rfl,hB⟩:=hrel
  have HB:=h_ hB
  by_cases hlt:k<n
  . obtain ⟨b1,o1,rfl,C1⟩:=((u_ HA).mono hB) k hlt
    obtain ⟨b2,o2,rfl,C2⟩:=((u_ HB0).mono hB) k hlt
    obtain ⟨u,hu⟩:∃ u,e k=u:=⟨_,rfl⟩
    rw [hu] at C1 C2
    have HC1:=h_ C1;have HC2:=h_ C2
    have k0:(0:Int)<=k:=by omega
    have k1:(k:Int)<n:=by omega
    clear hB hu C1 C2
    go_wp2_with fail
    refine wp_region_held_drew (S:=fun w'=>EEnt w' b1 (o1+k*5) u/\EEnt w' b2 (o2+k*5) u) (by kernel_rfl) ⟨u_ HC1,u_ HC2⟩ (fun zz=>?_)
    refine tk 0 17 (.slice (some ⟨b1,o1,none⟩) n ca) zz ?_
    refine tk 1 18 (.int .i64 k) zz ?_
    refine tk 2 19 (.pointer (some ⟨b1,o1+k*5,none⟩)) zz ?_
    refine tk 3 20 (.agg #[.int .i64 u.r,.int .i64 u.f,.int .i64 u.v.k,.int .i64 u.v.n,.string u.v.s]) zz ?_ (hy:=fun w hS=>by obtain ⟨⟨-,q0,q1,q2,q3,q4⟩,-⟩:=hS;simp [execOp,go_sem,q0,q1,q2,q3,q4])
    simp only [sX,sY,sZ]
    refine tk 4 21 (.slice (some ⟨b2,o2,none⟩) n cb) zz ?_
    refine tk 5 22 (.int .i64 k) zz ?_
    refine tk 6 23 (.pointer (some ⟨b2,o2+k*5,none⟩)) zz ?_
    refine tk 7 24 (.agg #[.int .i64 u.r,.int .i64 u.f,.int .i64 u.v.k,.int .i64 u.v.n,.string u.v.s]) zz ?_ (hy:=fun w hS=>by obtain ⟨-,⟨-,q0,q1,q2,q3,q4⟩⟩:=hS;simp [execOp,go_sem,q0,q1,q2,q3,q4])
    simp only [sX,sY,sZ]
    refine callY (i:=8) (f:=36) (args:=#[ev u,ev u]) (R:=fun v wz=>v=.bool true/\Below wr.heap.size wr wz) 25 rfl rfl (by rfl) (by kernel_rfl) ?hrun1 ((q3g u _).mono fun e w6 ⟨he,hb⟩=>⟨_,he,rfl,q26 hb⟩) ?_
    case hrun1=>simp [execOp,go_sem,ev]
    rintro v w6 ⟨rfl,hb6⟩
    have HB6:=mT HB hb6
    replace zz:EEnt w6 b1 (o1+k*5) u/\EEnt w6 b2 (o2+k*5) u:=⟨(u_ HC1).mono hb6,(u_ HC2).mono hb6⟩
    clear hb6
    refine ⟨zz,?_⟩
    simp only [sX,sY,sZ]
    refine tk 9 26 (.bool false) zz ?_
    simp only [sX,sY,sZ]
    refine wpAnyH_done (by kernel_rfl) ?_ _
    clear zz
    go_wp2_with fail
    go_roundw
    case rel=>exact ⟨k+1,by omega,by go_num,u_ HB6⟩
    case measure=>simp [intOf];omega
  . obtain rfl:n=k:=by omega
    clear hB
    go_wp2_with fail
    go_ret
    exact ⟨rfl,u_ HB⟩
def fitB (f:Fl) (v:Vx):Bool:=okVal v.k v.n v.s&&(decide (v.k=0) || decide (v.k=f.ty))
def entB (m:Fm) (x:Ex):Bool:=decide (0<=x.r/\x.r<m.R.length)&&(decide (0<=x.f/\x.f<m.F.length)&&(decide ((fAt m x.f.toNat).is.length=0)&&fitB (fAt m x.f.toNat) x.v))
def logOk (m:Fm) (L:Nat) (e:Nat->Ex):Bool:=(List.range L).all fun k=>entB m (e k)
theorem qez {m:Fm} {L:Nat} {e:Nat->Ex} (h:logOk m L e=true) {k:Nat} (hk:k<L):entB m (e k)=true:=List.all_eq_true.1 h k (List.mem_range.2 hk)
theorem qbv {m:Fm} {L:Nat} {e:Nat->Ex} (h:∀ k,k<L->entB m (e k)=true):logOk m L e=true:=List.all_eq_true.2 fun k hk=>h k (List.mem_range.1 hk)
theorem qbw {m:Fm} {L:Nat} {e:Nat->Ex} {k:Nat} (hk:k<L) (h:entB m (e k)=false):logOk m L e=false:=by
 cases hq:logOk m L e
 . rfl
 . rw [qez hq hk] at h;cases h
theorem qaw {m:Fm} {x:Ex} (h:entB m x=true):(0<=x.r/\x.r<m.R.length)/\(0<=x.f/\x.f<m.F.length)/\okVal x.v.k x.v.n x.v.s=true:=by
 unfold entB fitB at h
 simp only [Bool.and_eq_true,decide_eq_true_eq] at h
 exact ⟨h.1,h.2.1,h.2.2.2.1⟩
def rnm (m:Fm) (r:Nat):ByteArray:=(m.R.getD r noRl).nm
def lnB (m:Fm) (x:Ex) (i:Nat):List UInt8:=Lib.itoa i++([32]++(sb (rnm m x.r.toNat)++([32]++(sb (fAt m x.f.toNat).nm++([32]++(sb (showB x.v.k x.v.n x.v.s)++[10]))))))
def lnL (m:Fm) (l:List Ex):List UInt8:=l.zipIdx.flatMap fun p=>lnB m p.1 (p.2+1)
theorem qey (m:Fm) (l:List Ex) (x:Ex):lnL m (l++[x])=lnL m l++lnB m x (l.length+1):=by
 unfold lnL
 rw [List.zipIdx_append,List.flatMap_append]
 simp
def snL (e:Nat->Ex) (g:Nat->Bool) (k:Nat):List Ex:=((List.range k).map e).filter fun x=>g x.f.toNat
theorem qge (e:Nat->Ex) (g:Nat->Bool) (k:Nat):snL e g (k+1)=snL e g k++if g (e k).f.toNat=true then [e k] else []:=by
 unfold snL
 rw [List.range_succ,List.map_append,List.filter_append]
 cases h:g (e k).f.toNat <;> simp [h]
theorem qki (e:Nat->Ex) (g:Nat->Bool) (k:Nat):(snL e g k).length<=k:=by
 unfold snL
 exact Nat.le_trans (List.length_filter_le _ _) (by simp)
theorem qkj {e:Nat->Ex} {g:Nat->Bool} {k:Nat} {x:Ex} (h:x ∈ snL e g k):∃ j,j<k/\e j=x:=by
 unfold snL at h
 obtain ⟨h,-⟩:=List.mem_filter.1 h
 obtain ⟨j,hj,e⟩:=List.mem_map.1 h
 exact ⟨j,List.mem_range.1 hj,e⟩
def exA (m:Fm) (n:Nat) (F:Nat->Bool) (f:Nat->Nat) (L:Nat) (e:Nat->Ex) (r:Int):List UInt8:=if (0<=r/\r<m.R.length)/\L<=4000/\logOk m L e=true then lnL m (snL e (seesB m n F f r.toNat) L) else []
theorem qgc (kind num:Int) (s:ByteArray) (h:okVal kind num s=true) (h0:-9223372036854775808<=num) (h1:num<=9223372036854775807):(showB kind num s).size<=1050:=by
 have hi:=qbj num h0 h1
 unfold showB
 rw [if_pos h]
 unfold okVal at h
 by_cases k0:kind=0
 . rw [if_pos k0];simp only [bsz,List.size_toArray,List.length_cons,List.length_nil];omega
 rw [if_neg k0] at h ⊢
 by_cases k1:kind=1
 . rw [if_pos k1];omega
 rw [if_neg k1] at h ⊢
 by_cases k2:kind=2
 . rw [if_pos k2];split <;> simp only [bsz,List.size_toArray,List.length_cons,List.length_nil] <;> omega
 rw [if_neg k2] at h ⊢
 by_cases k3:kind=3
 . rw [if_pos k3] at h ⊢;simp only [Bool.and_eq_true,decide_eq_true_eq] at h
   have:=(q8u.1 h.2).1
   simp only [ByteArray.size_append,bsz,List.size_toArray,List.length_cons,List.length_nil];omega
 rw [if_neg k3] at h ⊢
 simp only [ByteArray.size_append]
 have e:(⟨#[33]⟩:ByteArray).size=1:=rfl
 omega
theorem q8g (m:Fm) (A:MA) (w:World) (P0:Int->Int->Prop) (hC:∀ W,MSl W m A->Calls Tryz.prog 40 #[mV m A] W fun r w'=>∃ c a,r=.returned (dgV c a)/\P0 c a/\Below W.heap.size W w') (ha:MSl w m A) :
 Calls Tryz.prog 17 #[mV m A] w fun r w'=>∃ c a,r=.returned (.bool (decide (c=0)))/\P0 c a/\Below w.heap.size w w':=by
 have HC0:=h_ hC
 obtain ⟨al,alc,ap,apc,ar,arc,af,afc,afa⟩:=A
 unfold mV dgV at HC0
 unfold mV
 dsimp only at HC0 ⊢
 have HK:=h_ (Blk.new w 36 #[.slice al m.L.length alc,.slice ap m.P.length apc,.slice ar m.R.length arc,.slice af m.F.length afc])
 have HB:=h_ ((bR w.heap.size w).alloc (nR _) (.cells #[.slice al m.L.length alc,.slice ap m.P.length apc,.slice ar m.R.length arc,.slice af m.F.length afc] 36))
 obtain ⟨W0,hW0⟩:∃ W0,w.alloc (.cells #[.slice al m.L.length alc,.slice ap m.P.length apc,.slice ar m.R.length arc,.slice af m.F.length afc] 36)=W0:=⟨_,rfl⟩
 rw [hW0] at HK HB
 have HC:=h_ (u_ HC0 W0 (ha.mono (u_ HB)))
 obtain ⟨y0,y1,y2,y3⟩:=quad (u_ HK)
 clear ha hC HC0
 have hfd:∀ (W:World) (c a:Int),(Instr.field 90 (.agg #[.int .i64 c,.int .i64 a]) 0).run Tryz.prog W=.ok (.int .i64 c) W:=fun W c a=>by kernel_rfl
 go_enter Tryz.func17,Tryz.ntmps17
 go_wp2_with fail
 try rw [hW0]
 refine (u_ HC).mono ?_
 rintro r W1 ⟨c,a,rfl,hp,hb⟩
 have HP:=h_ hp
 replace HB:=mT HB hb
 clear hb hW0 y0 y1 y2 y3 hp
 by_cases h0:c=0
 . subst h0
   go_wp2_with fail
   go_ret
   first | exact ⟨_,_,rfl,u_ HP,u_ HB⟩ | exact ⟨_,⟨_,rfl⟩,u_ HP,u_ HB⟩
 . have hne:(c == 0)=false:=by simpa using h0
   have HD:Hid (decide (c=0)=false):=h_ (decide_eq_false h0)
   go_wp2_with fail
   go_ret
   exact ⟨c,a,by rw [u_ HD];rfl,u_ HP,u_ HB⟩
def bV (g:Nat->Bool) (k:Nat):List Value:=(List.range k).map fun j=>.bool (g j)
theorem qhe (g:Nat->Bool) (k:Nat):bV g (k+1)=bV g k++[.bool (g k)]:=by simp [bV,List.range_succ]
theorem q27 {w:World} {base:Nat} {v:Value} {n:Nat} {g:Nat->Bool} (h:w.ownsRow base 4 1 v n (bV g n)):∃ a c,v=.slice a n c/\Bools w a n g:=by
 rcases h.2 with ⟨e,h0⟩ | ⟨q,cap,cur,rfl,-,hq,-,-,hs,ht⟩
 . obtain rfl:n=0:=by omega
   exact ⟨none,0,e,fun k hk=>absurd hk (nL _)⟩
 . refine ⟨_,_,rfl,fun k hk=>⟨q,0,rfl,(Array.getElem?_eq_some_iff.1 hq).1,?_⟩⟩
   have e2:(bV g n)[k]? = some (.bool (g k)):=by simp [bV,hk]
   rw [<- ht] at e2
   simp only [World.cell?,hq,Nat.zero_add]
   rw [List.getElem?_take_of_lt (by omega)] at e2
   simpa using e2
theorem qg2 {m:Fm} (hv:VfA m) {r:Nat} (hr:r<m.R.length):m.R[r].lb=((rlb m r:Nat):Int)/\rlb m r<m.L.length:=by
 have h:=hv.ro m.R[r] (List.getElem_mem hr)
 unfold inR at h
 rw [decide_eq_true_eq] at h
 have e:m.R.getD r noRl=m.R[r]:=by rw [List.getD_eq_getElem?_getD,List.getElem?_eq_getElem hr];rfl
 unfold rlb
 rw [e]
 omega
theorem q7y:(Tryz.prog.info? 4).map (fun i=>(i.zero,i.size,i.bytes))=some (some (.bool false),1,1):=by kernel_rfl
theorem qev (m:Fm) (A:MA) (r:Nat) (w:World) (bot top:Int) (s n bt tp:Nat) (F:Nat->Bool) (J M:Nat->Int) (hV:∀ W,MSl W m A->Calls Tryz.prog 66 #[mV m A] W fun r w'=>r=.returned (.bool (vfB m))/\Below W.heap.size W w') (hq:vfB m=true) (hv:VfA m) (hz:SpecF m.L.length m.P.length (pr1 m) (pr2 m) s F J M bot top) (hcl:SpecC m.L.length m.P.length (pr1 m) (pr2 m) s F) (hL:ValidP m.L.length s s s F J M bot top n bt tp) (hf:FitM m) (hr:r<m.R.length) (ha:MSl w m A) :
 Calls Tryz.prog 21 #[mV m A,.int .i64 r] w fun e w'=>∃ f a0 c0,e=.returned (.slice a0 m.F.length c0)/\Sol m n (fun a b=>F (a*n+b)=true) f/\Low m n (fun a b=>F (a*n+b)=true) f/\Bools w' a0 m.F.length (seesB m n F f r)/\Below w.heap.size w w':=by
 have hN:m.L.length=n:=by have:=hL.hN;omega
 have HCi:=h_ fun W (hs:MSl W m A)=>q6k m A W bot top s n bt tp F J M hV hq hv hz hL hf hs
 have HCo:=h_ fun W=>q5o m A W hf
 have HPm:=h_ fun W (hs:MSl W m A)=>qjs hs
 have HCl:=h_ hcl
 have hn:=hL.h32
 have e1:=hL.l1
 subst e1
 have hnf:=hv.nf
 obtain ⟨hlb,hlb2⟩:=qg2 hv hr
 rw [hN] at hlb2
 obtain ⟨al,alc,ap,apc,ar,arc,af,afc,afa⟩:=A
 unfold mV at HCi HCo ⊢
 dsimp only at HCi HCo HPm ⊢
 rw [hN] at HCi HCo HCl
 try rw [hN]
 have HK:=h_ (Blk.new w 36 #[.slice al n alc,.slice ap m.P.length apc,.slice ar m.R.length arc,.slice af m.F.length afc])
 have HB:=h_ ((bR w.heap.size w).alloc (nR _) (.cells #[.slice al n alc,.slice ap m.P.length apc,.slice ar m.R.length arc,.slice af m.F.length afc] 36))
 obtain ⟨W0,hW0⟩:∃ W0,w.alloc (.cells #[.slice al n alc,.slice ap m.P.length apc,.slice ar m.R.length arc,.slice af m.F.length afc] 36)=W0:=⟨_,rfl⟩
 rw [hW0] at HK HB
 have HS:=h_ (ha.mono (u_ HB))
 clear ha hf hz hL hv hN hV hq hcl
 have hr':(r:Int)<m.R.length:=by omega
 have HRl:=h_ hlb
 obtain ⟨lb,hlbe⟩:∃ lb,rlb m r=lb:=⟨_,rfl⟩
 rw [hlbe] at HRl hlb2
 have HSe:Hid (∀ f k,seesB m n F f r k=F (f k*n+lb)):=h_ (fun f k=>by unfold seesB;rw [hlbe])
 obtain ⟨y0,y1,y2,y3⟩:=quad (u_ HK)
 clear hlb hlbe
 have HC1:=h_ (u_ HCi W0 (u_ HS))
 go_enter Tryz.func21,Tryz.ntmps21
 go_wp2_with fail
 try rw [hW0]
 refine (u_ HC1).mono ?_
 rintro e W1 ⟨f,a5,c5,rfl,s1,s2,hp,hb⟩
 have S1:=h_ s1;have S2:=h_ s2;have HP:=h_ hp
 replace HK:=mB HK hb;replace HS:=h_ ((u_ HS).mono hb);replace HB:=mT HB hb
 clear hb hW0 y0 y1 y2 y3 s1 s2 hp HC1 HCi
 obtain ⟨y0,y1,y2,y3⟩:=quad (u_ HK)
 go_wp2_with fail
 refine (u_ HCo W1).mono ?_
 rintro e W2 ⟨rfl,hb⟩
 replace HK:=mB HK hb;replace HS:=h_ ((u_ HS).mono hb);replace HB:=mT HB hb;replace HP:=h_ ((u_ HP).mono hb)
 have HC2:=h_ (u_ HCl W2 ap apc (u_ HPm W2 (u_ HS)))
 clear hb y0 y1 y2 y3
 go_wp2_with fail
 refine (u_ HC2).mono ?_
 rintro e W3 ⟨G,rfl,hg,-,hb⟩
 have HG:=h_ (Blk.bools hg)
 replace HK:=mB HK hb;replace HS:=h_ ((u_ HS).mono hb);replace HB:=mT HB hb;replace HP:=h_ ((u_ HP).mono hb)
 clear hb hg HC2 HCl HCo HPm
 have hw3:w.heap.size<W3.heap.size:=(u_ HK).lt
 have HB4:=h_ ((bR W3.heap.size W3).alloc (nR _) (.cells #[] 4))
 have HO:=h_ (qcf W3 4)
 have hK4:=(u_ HK).alloc (.cells #[] 4)
 obtain ⟨W4,hW4⟩:∃ W4,W3.alloc (.cells #[] 4)=W4:=⟨_,rfl⟩
 obtain ⟨D,hD⟩:∃ D,W3.heap.size=D:=⟨_,rfl⟩
 rw [hW4] at HB4 HO hK4
 rw [hD] at HO HB4 hw3
 have HD:=h_ hD
 have hD4:D<=W4.heap.size:=by rw [<- hD];exact (show W3.heap.size<=W4.heap.size from hD ▸ (u_ HB4).size)
 obtain ⟨y0,y1,y2,y3⟩:=quad hK4
 clear hK4
 go_wp2_with fail
 try rw [hD]
 try rw [hW4]
 clear hW4 hD y0 y1 y2 y3
 have HBw:=h_ ((u_ HB).trans ((u_ HB4).mono (by omega)))
 go_loopw [7,8] (fun v i wr=>∃ k:Nat,k<=m.F.length/\i=.int .i64 k/\wr.ownsRow D 4 1 v k (bV (seesB m n F f r) k)/\Below D W4 wr) (fun _ i _=>m.F.length - (intOf i).toNat)
 case atStart=>exact ⟨0,nZ _,rfl,u_ HO,bR _ _⟩
 case round =>
  clear HO
  obtain ⟨k,hk,rfl,hO,hb⟩:=hrel
  have HO:=h_ hO;have HBr:=h_ hb
  have hws:D<=wr.heap.size:=by have:=hb.size;omega
  have HZ:Hid (∀ W',Below D W4 W'->Below W3.heap.size W3 W'):=h_ fun W' h=>by rw [u_ HD];exact (u_ HB4).trans h
  have HKr:=h_ ((u_ HK).mono (u_ HZ wr hb) (u_ HK).lt)
  obtain ⟨y0,y1,y2,y3⟩:=quad (u_ HKr)
  clear hb hO
  by_cases hlt:k<m.F.length
  . have hlt':(k:Int)<m.F.length:=by omega
    obtain ⟨b1,o1,e1,hb1,z1⟩:=(u_ HP).at k (by rw [qj7];exact hlt)
    rw [qj6] at z1
    obtain ⟨b2,o2,e2,hb2,-,z2⟩:=(u_ HS).r r hr
    dsimp only at e2
    rw [u_ HRl] at z2
    obtain ⟨fk,hfk⟩:∃ fk,f k=fk:=⟨_,rfl⟩
    rw [hfk] at z1
    obtain ⟨hidx,hw1,hw2,hidx',hidx2⟩:=qbe (show fk<n by rw [<- hfk];exact (u_ S1).lt k hlt) hlb2 hn
    obtain ⟨b3,o3,e3,hb3,z3⟩:=u_ HG _ hidx
    cases e3
    obtain ⟨vb,hvb⟩:∃ vb,F (fk*n+lb)=vb:=⟨_,rfl⟩
    have HT:Hid (bV (seesB m n F f r) (k+1)=bV (seesB m n F f r) k++[.bool vb]):=h_ (by rw [qhe,u_ HSe,hfk,hvb])
    rw [hvb] at z3
    have HC1:Hid (∀ W',Below D W4 W'->W'.cell? ⟨b1,o1+k,none⟩=some (.int .i64 fk)):=h_ fun W' h=>(((u_ HZ W' h).cell (p:=⟨b1,o1+k,none⟩) hb1).trans z1)
    have HC2:Hid (∀ W',Below D W4 W'->W'.cell? ⟨b2,o2+r*2+1,none⟩=some (.int .i64 lb)):=h_ fun W' h=>(((u_ HZ W' h).cell (p:=⟨b2,o2+r*2+1,none⟩) hb2).trans z2)
    have HC3:Hid (∀ W',Below D W4 W'->W'.cell? ⟨G,0+(fk*n+lb),none⟩=some (.bool vb)):=h_ fun W' h=>(((u_ HZ W' h).cell (p:=⟨G,0+(fk*n+lb),none⟩) hb3).trans z3)
    have HC4:Hid (∀ W',Below D W4 W'->Blk W' w.heap.size 36 [.slice al n alc,.slice ap m.P.length apc,.slice ar m.R.length arc,.slice af m.F.length afc]):=h_ fun W' h=>(u_ HK).mono (u_ HZ W' h) (u_ HK).lt
    clear z1 z2 z3 hfk hvb hb1 hb2 hb3
    generalize fk*n+lb=q1 at *
    generalize fk*n=q2 at *
    rw [Nat.zero_add] at HC3
    go_wp2_with fail
    clear y0 y1 y2 y3
    subst e1
    subst e2
    obtain ⟨i0,hi,hz0,hz1,hz2⟩:=info_parts q7y
    refine wp_region_held_drew (S:=fun w'=>Below D W4 w') (by kernel_rfl) (u_ HBr).drew (fun zz=>?_)
    refine tk 0 22 u7 zz ?_
    refine tk 1 23 (.slice (some ⟨G,0,none⟩) (n*n) (n*n)) zz ?_
    refine tk 2 24 (.slice (some ⟨b1,o1,none⟩) m.F.length c5) zz ?_
    refine tk 3 25 (.int .i64 k) zz ?_
    simp only [sX,sY,sZ]
    refine tk 4 26 (.pointer (some ⟨b1,o1+k,none⟩)) zz ?_
    refine tk 5 27 (.int .i64 fk) zz ?_ (hy:=fun w hS=>by have q0:=u_ HC1 _ hS;simp [execOp,go_sem,q0])
    refine tk 6 28 (.pointer (some ⟨w.heap.size,0,none⟩)) zz ?_
    refine tk 7 29 (.slice al n alc) zz ?_ (hy:=fun w hS=>by obtain ⟨q0,q1,q2,q3⟩:=quad (u_ HC4 _ hS);simp [execOp,go_sem,q0])
    simp only [sX,sY,sZ]
    refine tk 8 30 (.int .i64 n) zz ?_
    refine tk 9 31 (.int .i64 q2) zz ?_ (hy:=fun w hS=>by simp [execOp,go_sem];exact (IntWalk.i64_left _).trans hw1)
    refine tk 10 32 (.pointer (some ⟨w.heap.size,2,none⟩)) zz ?_
    refine tk 11 33 (.slice (some ⟨b2,o2,none⟩) m.R.length arc) zz ?_ (hy:=fun w hS=>by obtain ⟨q0,q1,q2,q3⟩:=quad (u_ HC4 _ hS);simp [execOp,go_sem,q2])
    simp only [sX,sY,sZ]
    refine tk 12 34 (.int .i64 r) zz ?_
    refine tk 13 35 (.pointer (some ⟨b2,o2+r*2,none⟩)) zz ?_
    refine tk 14 36 (.pointer (some ⟨b2,o2+r*2+1,none⟩)) zz ?_
    refine tk 15 37 (.int .i64 lb) zz ?_ (hy:=fun w hS=>by have q0:=u_ HC2 _ hS;simp [execOp,go_sem,q0])
    simp only [sX,sY,sZ]
    refine tk 16 38 (.int .i64 q1) zz ?_ (hy:=fun w hS=>by simp [execOp,go_sem];exact (IntWalk.i64_left _).trans hw2)
    refine tk 17 39 (.pointer (some ⟨G,q1,none⟩)) zz ?_
    refine tk 18 40 (.bool vb) zz ?_ (hy:=fun w hS=>by have q0:=u_ HC3 _ hS;simp [execOp,go_sem,q0])
    simp only [sX,sY,sZ]
    have hB1:Below D W4 (wr.drew.alloc (.cells #[.bool vb] 4)):=(u_ HBr).drew.alloc hws _
    refine runY (i:=19) (v:=.slice (some ⟨wr.drew.heap.size,0,none⟩) 1 1) (w':=wr.drew.alloc (.cells #[.bool vb] 4)) 41 rfl rfl (by rfl) (by kernel_rfl) (by simp [execOp,go_sem]) hB1 ?_
    simp only [sX,sY,sZ]
    have hO1:=(qcd (u_ HO) (bR wr.heap.size wr).drew).alloc (.cells #[.bool vb] 4)
    refine appY (i:=20) 42 rfl rfl rfl (by kernel_rfl) (.tmp 22) (.tmp 41) 59 rfl D 4 i0 _ 1 1 Tryz.underlying59 hi hz0 hz1 hz2 rfl (by omega) u7 k (bV (seesB m n F f r) k) rfl hO1 ⟨wr.drew.heap.size,0,none⟩ 1 1 [.bool vb] rfl rfl (qdt wr.drew 4 _) (by simp [Value.oneCell']) (by omega) (by unfold maxLen;omega) (by omega) (Nat.le_trans hD4 hB1.size) (wr.drew.alloc (.cells #[.bool vb] 4)).heap.size rfl ?_
    intro g cap w3 ho hgr _ _
    have hB2:=hB1.grown hgr (Nat.le_trans hD4 hB1.size) (fun q e=>q8y (u_ HO) e)
    have HO2:Hid (w3.ownsRow D 4 1 (.slice (some ⟨g,0,none⟩) (k+1) cap) (k+1) (bV (seesB m n F f r) (k+1))):=h_ (by rw [u_ HT];exact ho)
    have HB2:=h_ hB2
    replace zz:Below D W4 w3:=hB2
    clear ho hgr hB1 hO1 hB2 hi hz0 hz1 hz2
    refine ⟨zz,?_⟩
    simp only [sX,sY,sZ]
    refine tk 21 7 (.slice (some ⟨g,0,none⟩) (k+1) cap) zz ?_
    simp only [sX,sY,sZ]
    refine wpAnyH_done (by kernel_rfl) ?_ _
    clear zz
    go_wp2_with fail
    go_roundw
    case rel=>first | exact ⟨k+1,by omega,by go_num,u_ HO2,u_ HB2⟩ | ((repeat apply Exists.intro);exact ⟨⟨k+1,by omega,by go_num,u_ HO2,u_ HB2⟩,rfl⟩)
    case measure=>simp [intOf];omega
  . obtain rfl:k=m.F.length:=by omega
    have hlt':¬ (m.F.length:Int)<(m.F.length:Int):=by omega
    obtain ⟨a1,c1,rfl,hS⟩:=q27 (u_ HO)
    have HS9:=h_ hS
    have HB9:=h_ ((u_ HBw).trans ((u_ HBr).mono (by omega)))
    clear hS HO
    go_wp2_with fail
    go_ret
    first | exact ⟨f,_,_,rfl,u_ S1,u_ S2,u_ HS9,u_ HB9⟩ | exact ⟨f,_,⟨_,rfl⟩,u_ S1,u_ S2,u_ HS9,u_ HB9⟩ | exact ⟨_,⟨_,rfl⟩,f,u_ S1,u_ S2,u_ HS9,u_ HB9⟩
theorem q8d (f:Fl) (A:FA) (v:Vx) (w:World) (hs:v.s.size<=9223372036854775807) :
 Calls Tryz.prog 41 #[fV f A,.agg #[.int .i64 v.k,.int .i64 v.n,.string v.s]] w fun x w'=>x=.returned (.bool (fitB f v))/\Below w.heap.size w w':=by
 unfold fV
 have HK:=h_ ((Blk.new w 94 #[.string f.nm,.int .i64 f.ty,.int .i64 f.lb,.slice A.b f.bys.length A.bc,.slice A.i f.is.length A.ic,.slice A.h f.wh.length A.hc,.slice A.v f.va.length A.vc,.string f.sy,.slice A.u f.mu.length A.uc]).alloc (.cells #[.int .i64 v.k,.int .i64 v.n,.string v.s] 54))
 have HV:=h_ (Blk.new (w.alloc (.cells #[.string f.nm,.int .i64 f.ty,.int .i64 f.lb,.slice A.b f.bys.length A.bc,.slice A.i f.is.length A.ic,.slice A.h f.wh.length A.hc,.slice A.v f.va.length A.vc,.string f.sy,.slice A.u f.mu.length A.uc] 94)) 54 #[.int .i64 v.k,.int .i64 v.n,.string v.s])
 rw [World.size_alloc] at HV
 have HB:=h_ (((bR w.heap.size w).alloc (nR _) (.cells #[.string f.nm,.int .i64 f.ty,.int .i64 f.lb,.slice A.b f.bys.length A.bc,.slice A.i f.is.length A.ic,.slice A.h f.wh.length A.hc,.slice A.v f.va.length A.vc,.string f.sy,.slice A.u f.mu.length A.uc] 94)).alloc (by simp) (.cells #[.int .i64 v.k,.int .i64 v.n,.string v.s] 54))
 obtain ⟨W0,hW0⟩:∃ W0,(w.alloc (.cells #[.string f.nm,.int .i64 f.ty,.int .i64 f.lb,.slice A.b f.bys.length A.bc,.slice A.i f.is.length A.ic,.slice A.h f.wh.length A.hc,.slice A.v f.va.length A.vc,.string f.sy,.slice A.u f.mu.length A.uc] 94)).alloc (.cells #[.int .i64 v.k,.int .i64 v.n,.string v.s] 54)=W0:=⟨_,rfl⟩
 rw [hW0] at HK HV HB
 have HC:=h_ (q22 v.k v.n v.s W0 hs)
 have v0:=(u_ HV).cell 0;have v1:=(u_ HV).cell 1;have v2:=(u_ HV).cell 2
 simp only [List.getElem?_cons_zero,List.getElem?_cons_succ] at v0 v1 v2
 go_enter Tryz.func41,Tryz.ntmps41
 go_wp2_with fail
 try rw [hW0]
 refine (u_ HC).mono ?_
 rintro x W1 ⟨rfl,hb⟩
 replace HK:=mB HK hb;replace HV:=mB HV hb;replace HB:=mT HB hb
 clear hb hW0 v0 v1 v2 HC
 have v0:=(u_ HV).cell 0;have t1:=(u_ HK).cell 1
 simp only [List.getElem?_cons_zero,List.getElem?_cons_succ] at v0 t1
 cases hq:okVal v.k v.n v.s
 . have HR:Hid (fitB f v=false):=h_ (by unfold fitB;rw [hq];rfl)
   go_wp2_with fail
   go_ret
   rw [u_ HR]
   exact ⟨rfl,u_ HB⟩
 by_cases h0:v.k=0
 . have HR:Hid (fitB f v=true):=h_ (by unfold fitB;rw [hq,decide_eq_true h0];rfl)
   have h0':(v.k == 0)=true:=by simp [h0]
   clear h0
   go_wp2_with fail
   go_ret
   rw [u_ HR]
   exact ⟨rfl,u_ HB⟩
 have h0':(v.k == 0)=false:=by simpa using h0
 by_cases h1:v.k=f.ty
 . have HR:Hid (fitB f v=true):=h_ (by unfold fitB;rw [hq,decide_eq_false h0,decide_eq_true h1];rfl)
   have h1':(v.k == f.ty)=true:=by simp [h1]
   clear h1 h0
   go_wp2_with fail
   go_ret
   rw [u_ HR]
   exact ⟨rfl,u_ HB⟩
 . have HR:Hid (fitB f v=false):=h_ (by unfold fitB;rw [hq,decide_eq_false h0,decide_eq_false h1];rfl)
   have h1':(v.k == f.ty)=false:=by simpa using h1
   clear h1 h0
   go_wp2_with fail
   go_ret
   rw [u_ HR]
   exact ⟨rfl,u_ HB⟩
theorem q5r (m:Fm) (A:MA) (x:Ex) (w:World) (hs:x.v.s.size<=9223372036854775807) (ha:MSl w m A) :
 Calls Tryz.prog 18 #[mV m A,ev x] w fun r w'=>r=.returned (.bool (entB m x))/\Below w.heap.size w w':=by
 obtain ⟨al,alc,ap,apc,ar,arc,af,afc,afa⟩:=A
 obtain ⟨r,f,v⟩:=x
 unfold mV ev
 dsimp only at hs ⊢
 have HK:=h_ ((Blk.new w 36 #[.slice al m.L.length alc,.slice ap m.P.length apc,.slice ar m.R.length arc,.slice af m.F.length afc]).alloc (.cells #[.int .i64 r,.int .i64 f,.int .i64 v.k,.int .i64 v.n,.string v.s] 56))
 have HE:=h_ (Blk.new (w.alloc (.cells #[.slice al m.L.length alc,.slice ap m.P.length apc,.slice ar m.R.length arc,.slice af m.F.length afc] 36)) 56 #[.int .i64 r,.int .i64 f,.int .i64 v.k,.int .i64 v.n,.string v.s])
 rw [World.size_alloc] at HE
 have HB:=h_ (((bR w.heap.size w).alloc (nR _) (.cells #[.slice al m.L.length alc,.slice ap m.P.length apc,.slice ar m.R.length arc,.slice af m.F.length afc] 36)).alloc (by simp) (.cells #[.int .i64 r,.int .i64 f,.int .i64 v.k,.int .i64 v.n,.string v.s] 56))
 obtain ⟨W0,hW0⟩:∃ W0,(w.alloc (.cells #[.slice al m.L.length alc,.slice ap m.P.length apc,.slice ar m.R.length arc,.slice af m.F.length afc] 36)).alloc (.cells #[.int .i64 r,.int .i64 f,.int .i64 v.k,.int .i64 v.n,.string v.s] 56)=W0:=⟨_,rfl⟩
 rw [hW0] at HK HE HB
 have HS:=h_ (ha.mono (u_ HB))
 obtain ⟨y0,y1,y2,y3⟩:=quad (u_ HK)
 obtain ⟨x0,x1,x2,x3,x4⟩:=five (u_ HE)
 have HN:Hid ((¬ (0<=r/\r<m.R.length) ∨ ¬ (0<=f/\f<m.F.length))->entB m ⟨r,f,v⟩=false):=h_ fun h=>by
  unfold entB
  rcases h with h | h
  . rw [decide_eq_false h];rfl
  . rw [decide_eq_false h,Bool.false_and,Bool.and_false]
 clear ha
 by_cases hr0:r<0
 . rw [u_ HN (.inl (by omega))]
   go_enter Tryz.func18,Tryz.ntmps18
   go_wp2_with fail
   try rw [hW0]
   go_ret
   exact ⟨rfl,u_ HB⟩
 by_cases hr1:(m.R.length:Int)<=r
 . rw [u_ HN (.inl (by omega))]
   go_enter Tryz.func18,Tryz.ntmps18
   go_wp2_with fail
   try rw [hW0]
   go_ret
   exact ⟨rfl,u_ HB⟩
 by_cases hf0:f<0
 . rw [u_ HN (.inr (by omega))]
   go_enter Tryz.func18,Tryz.ntmps18
   go_wp2_with fail
   try rw [hW0]
   go_ret
   exact ⟨rfl,u_ HB⟩
 by_cases hf1:(m.F.length:Int)<=f
 . rw [u_ HN (.inr (by omega))]
   go_enter Tryz.func18,Tryz.ntmps18
   go_wp2_with fail
   try rw [hW0]
   go_ret
   exact ⟨rfl,u_ HB⟩
 obtain ⟨k,rfl⟩:∃ k:Nat,f=k:=⟨f.toNat,by omega⟩
 have hk:k<m.F.length:=by omega
 have hk':(k:Int)<m.F.length:=by omega
 have HR:Hid (entB m ⟨r,k,v⟩=(decide ((fAt m k).is.length=0)&&fitB (fAt m k) v)):=h_ (by
  unfold entB
  rw [decide_eq_true (show 0<=r/\r<m.R.length by omega),decide_eq_true (show (0:Int)<=k/\(k:Int)<m.F.length by omega)]
  rfl)
 obtain ⟨fb,fo,ef,hfc,-⟩:=(u_ HS).f k hk
 dsimp only at ef hfc
 rw [<- qi1 hk] at hfc
 generalize hfx:fAt m k=fx at *
 generalize afa k=Y at hfc
 subst ef
 have HFc:=h_ hfc
 have HCf:=h_ (q8d fx Y v W0.drew hs)
 unfold fV at HCf
 clear hfc HN hfx
 go_enter Tryz.func18,Tryz.ntmps18
 go_wp2_with fail
 try rw [hW0]
 clear hW0 y0 y1 y2 y3 x0 x1 x2 x3 x4
 refine wp_region_held_drew (S:=fun w'=>Blk w' w.heap.size 36 [.slice al m.L.length alc,.slice ap m.P.length apc,.slice ar m.R.length arc,.slice (some ⟨fb,fo,none⟩) m.F.length afc]/\Blk w' (w.heap.size+1) 56 [.int .i64 r,.int .i64 k,.int .i64 v.k,.int .i64 v.n,.string v.s]/\FCel w' fb (fo+k*9) fx Y) (by kernel_rfl) ⟨u_ HK,u_ HE,u_ HFc⟩ (fun zz=>?_)
 refine tk 0 29 (.pointer (some ⟨w.heap.size,3,none⟩)) zz ?_
 refine tk 1 30 (.slice (some ⟨fb,fo,none⟩) m.F.length afc) zz ?_ (hy:=fun w hS=>by have q0:=(quad hS.1).2.2.2;simp [execOp,go_sem,q0])
 refine tk 2 31 (.pointer (some ⟨w.heap.size+1,1,none⟩)) zz ?_
 refine tk 3 32 (.int .i64 k) zz ?_ (hy:=fun w hS=>by have q0:=(five hS.2.1).2.1;simp [execOp,go_sem,q0])
 simp only [sX,sY,sZ]
 refine tk 4 33 (.pointer (some ⟨fb,fo+k*9,none⟩)) zz ?_
 refine tk 5 34 (.pointer (some ⟨fb,fo+k*9+4,none⟩)) zz ?_
 refine tk 6 35 (.slice Y.i fx.is.length Y.ic) zz ?_ (hy:=fun w hS=>by have q0:=hS.2.2.2.2.2.2.2.1;simp [execOp,go_sem,q0])
 refine tk 7 36 (.int .i64 fx.is.length) zz ?_
 simp only [sX,sY,sZ]
 by_cases hi:fx.is.length=0
 . have hi':((fx.is.length:Int) == 0)=true:=by simp [hi]
   rw [decide_eq_true hi] at HR
   refine tk 8 37 (.bool true) zz ?_ (hy:=fun w hS=>by simp [execOp,go_sem,hi'])
   refine tk 9 38 (.bool true) zz ?_
   refine tk 10 39 (.pointer (some ⟨w.heap.size,3,none⟩)) zz ?_
   refine tk 11 40 (.slice (some ⟨fb,fo,none⟩) m.F.length afc) zz ?_ (hy:=fun w hS=>by have q0:=(quad hS.1).2.2.2;simp [execOp,go_sem,q0])
   simp only [sX,sY,sZ]
   refine tk 12 41 (.pointer (some ⟨w.heap.size+1,1,none⟩)) zz ?_
   refine tk 13 42 (.int .i64 k) zz ?_ (hy:=fun w hS=>by have q0:=(five hS.2.1).2.1;simp [execOp,go_sem,q0])
   refine tk 14 43 (.pointer (some ⟨fb,fo+k*9,none⟩)) zz ?_
   refine tk 15 44 (.agg #[.string fx.nm,.int .i64 fx.ty,.int .i64 fx.lb,.slice Y.b fx.bys.length Y.bc,.slice Y.i fx.is.length Y.ic,.slice Y.h fx.wh.length Y.hc,.slice Y.v fx.va.length Y.vc,.string fx.sy,.slice Y.u fx.mu.length Y.uc]) zz ?_ (hy:=fun w hS=>by obtain ⟨-,q0,q1,q2,q3,q4,q5,q6,q7,q8⟩:=hS.2.2;simp [execOp,go_sem,q0,q1,q2,q3,q4,q5,q6,q7,q8])
   simp only [sX,sY,sZ]
   refine tk 16 45 (.pointer (some ⟨w.heap.size+1,2,none⟩)) zz ?_
   refine tk 17 46 (.agg #[.int .i64 v.k,.int .i64 v.n,.string v.s]) zz ?_ (hy:=fun w hS=>by obtain ⟨-,-,q0,q1,q2⟩:=five hS.2.1;simp [execOp,go_sem,q0,q1,q2])
   simp only [sX,sY,sZ]
   refine callY (i:=18) (f:=41) (args:=#[.agg #[.string fx.nm,.int .i64 fx.ty,.int .i64 fx.lb,.slice Y.b fx.bys.length Y.bc,.slice Y.i fx.is.length Y.ic,.slice Y.h fx.wh.length Y.hc,.slice Y.v fx.va.length Y.vc,.string fx.sy,.slice Y.u fx.mu.length Y.uc],.agg #[.int .i64 v.k,.int .i64 v.n,.string v.s]]) (R:=fun u wz=>u=.bool (fitB fx v)/\Below W0.heap.size W0 wz) 47 rfl rfl (by rfl) (by kernel_rfl) (by simp [execOp,go_sem]) ((u_ HCf).mono fun e w6 ⟨he,hb⟩=>⟨_,he,rfl,q26 hb⟩) ?_
   rintro u W1 ⟨rfl,hb⟩
   replace zz:Blk W1 w.heap.size 36 [.slice al m.L.length alc,.slice ap m.P.length apc,.slice ar m.R.length arc,.slice (some ⟨fb,fo,none⟩) m.F.length afc]/\Blk W1 (w.heap.size+1) 56 [.int .i64 r,.int .i64 k,.int .i64 v.k,.int .i64 v.n,.string v.s]/\FCel W1 fb (fo+k*9) fx Y:=⟨(u_ HK).mono hb (u_ HK).lt,(u_ HE).mono hb (u_ HE).lt,(u_ HFc).mono hb⟩
   replace HB:=mT HB hb
   clear hb
   refine ⟨zz,?_⟩
   simp only [sX,sY,sZ]
   refine tk 19 48 (.bool (fitB fx v)) zz ?_
   refine tk 20 4 (.bool (fitB fx v)) zz ?_
   simp only [sX,sY,sZ]
   refine wpAnyH_done (by kernel_rfl) ?_ _
   clear zz
   go_wp2_with fail
   go_ret
   rw [u_ HR]
   exact ⟨rfl,u_ HB⟩
 . have hi':((fx.is.length:Int) == 0)=false:=by
    have:(fx.is.length:Int) ≠ 0:=by omega
    simpa using this
   rw [decide_eq_false hi] at HR
   refine tk 8 37 (.bool false) zz ?_ (hy:=fun w hS=>by simp [execOp,go_sem,hi'])
   refine tk 9 38 (.bool false) zz ?_
   refine tn 10 39 zz ?_
   refine tn 11 40 zz ?_
   simp only [sX,sY,sZ]
   refine tn 12 41 zz ?_
   refine tn 13 42 zz ?_
   refine tn 14 43 zz ?_
   refine tn 15 44 zz ?_
   simp only [sX,sY,sZ]
   refine tn 16 45 zz ?_
   refine tn 17 46 zz ?_
   refine tn 18 47 zz ?_
   refine tk 19 48 (.bool false) zz ?_
   simp only [sX,sY,sZ]
   refine tk 20 4 (.bool false) zz ?_
   simp only [sX,sY,sZ]
   refine wpAnyH_done (by kernel_rfl) ?_ _
   clear zz
   go_wp2_with fail
   go_ret
   rw [u_ HR]
   exact ⟨rfl,(u_ HB).drew⟩
theorem qkb {m:Fm} {r:Nat} (h:r<m.R.length):rnm m r=m.R[r].nm:=by unfold rnm;rw [List.getD_eq_getElem?_getD,List.getElem?_eq_getElem h];rfl
theorem qg4 {m:Fm} (hv:VfA m) {r:Nat} (h:r<m.R.length):(rnm m r).size<=16:=by
 rw [qkb h]
 exact q45 hv.r (List.mem_map.2 ⟨_,List.getElem_mem h,rfl⟩)
theorem qeb {m:Fm} (hv:VfA m) {k:Nat} (h:k<m.F.length):(fAt m k).nm.size<=16:=by
 rw [qi1 h]
 exact q45 hv.f (List.mem_map.2 ⟨_,List.getElem_mem h,rfl⟩)
theorem qj3 {m:Fm} (hv:VfA m) {x:Ex} (hx:entB m x=true) (hn:FitE x) {i:Nat} (hi:i<=4000):(lnB m x i).length<=1200:=by
 obtain ⟨h1,h2,h3⟩:=qaw hx
 have a:=qbj (i:Int) (by omega) (by omega)
 have b:=qg4 hv (r:=x.r.toNat) (by omega)
 have c:=qeb hv (k:=x.f.toNat) (by omega)
 have d:=qgc _ _ _ h3 hn.2.1 hn.2.2
 have e:(⟨(Lib.itoa i).toArray⟩:ByteArray).size=(Lib.itoa i).length:=by simp [bsz]
 unfold lnB
 simp only [List.length_append,sb_len,List.length_cons,List.length_nil]
 omega
theorem qj5 {m:Fm} (hv:VfA m):∀ (l:List Ex) (k:Nat),l.length+k<=4000->(∀ x,x ∈ l->entB m x=true/\FitE x)->((l.zipIdx k).flatMap fun p=>lnB m p.1 (p.2+1)).length<=1200*l.length
 | [],_,_,_=>nR _
 | x :: l,k,hl,hx=>by
  rw [List.length_cons] at hl
  rw [List.zipIdx_cons,List.flatMap_cons,List.length_append,List.length_cons]
  have h1:=qj5 hv l (k+1) (by omega) (fun y hy=>hx y (List.mem_cons_of_mem _ hy))
  have h2:=qj3 hv (hx x List.mem_cons_self).1 (hx x List.mem_cons_self).2 (i:=k+1) (by omega)
  dsimp only
  omega
theorem qj4 {m:Fm} (hv:VfA m) {l:List Ex} (hl:l.length<=4000) (hx:∀ x,x ∈ l->entB m x=true/\FitE x):(lnL m l).length<=1200*l.length:=qj5 hv l 0 (by omega) hx
theorem sb_mk (l:List UInt8):sb (⟨l.toArray⟩:ByteArray)=l:=by simp [sb]
theorem sb_inj {a b:ByteArray} (h:sb a=sb b):a=b:=q9f h
theorem q8e (m:Fm) (A:MA) (x:Ex) (i:Nat) (w:World) (hv:VfA m) (hx:entB m x=true) (hn:FitE x) (hi:i<=4000) (ha:MSl w m A) :
 Calls Tryz.prog 42 #[mV m A,ev x,.int .i64 i] w fun y w'=>y=.returned (.string ⟨(lnB m x i).toArray⟩)/\Below w.heap.size w w':=by
 obtain ⟨hr,hf,hok⟩:=qaw hx
 obtain ⟨al,alc,ap,apc,ar,arc,af,afc,afa⟩:=A
 obtain ⟨rz,fz,v⟩:=x
 dsimp only at hr hf hok
 obtain ⟨r,rfl⟩:∃ r:Nat,rz=r:=⟨rz.toNat,by omega⟩
 obtain ⟨k,rfl⟩:∃ k:Nat,fz=k:=⟨fz.toNat,by omega⟩
 have hrn:r<m.R.length:=by omega
 have hk:k<m.F.length:=by omega
 have hr':(r:Int)<m.R.length:=by omega
 have hk':(k:Int)<m.F.length:=by omega
 have hi':(i:Int)<=4000:=by omega
 obtain ⟨rb,ro,er,hrb,zr,-⟩:=ha.r r hrn
 obtain ⟨fb,fo,ef,hfc,-⟩:=ha.f k hk
 dsimp only at er ef
 have zf:=hfc.2.1;have hfb:=hfc.1
 have hz1:=qg4 hv hrn;have hz2:=qeb hv hk
 have hL:lnB m ⟨r,k,v⟩ i=Lib.itoa i++([32]++(sb (rnm m r)++([32]++(sb (fAt m k).nm++([32]++(sb (showB v.k v.n v.s)++[10])))))):=rfl
 rw [<- qkb hrn] at zr
 rw [<- qi1 hk] at zf
 generalize rnm m r=rs at *
 generalize (fAt m k).nm=fs at *
 have hds:=qbj (i:Int) (by omega) (by omega)
 have HD:=h_ fun W=>q2g (i:Int) W (by omega) (by omega)
 obtain ⟨d,hd⟩:∃ d:ByteArray,⟨(Lib.itoa i).toArray⟩=d:=⟨_,rfl⟩
 rw [hd] at hds HD
 have hss:=qgc v.k v.n v.s hok hn.2.1 hn.2.2
 have HSh:=h_ fun W=>q4d v.k v.n v.s W hn.1 hn.2.1 hn.2.2
 generalize showB v.k v.n v.s=sh at *
 obtain ⟨T1,e1,z1⟩:=@sum_to d ⟨#[32]⟩
 obtain ⟨T2,e2,z2⟩:=@sum_to T1 rs
 obtain ⟨T3,e3,z3⟩:=@sum_to T2 ⟨#[32]⟩
 obtain ⟨T4,e4,z4⟩:=@sum_to T3 fs
 have o1:(⟨#[32]⟩:ByteArray).size=1:=rfl
 have HFin:Hid (T4++⟨#[32]⟩++sh++⟨#[10]⟩=⟨(lnB m ⟨r,k,v⟩ i).toArray⟩):=h_ (sb_inj (by
  rw [sb_mk (lnB m ⟨r,k,v⟩ i),hL,qcr,qcr,qcr,<- e4,qcr,<- e3,qcr,<- e2,qcr,<- e1,qcr,<- hd,sb_mk (Lib.itoa i)]
  simp [sb]))
 have h4:T4.size<=100:=by omega
 have a5:(T4++⟨#[32]⟩:ByteArray).size=T4.size+1:=by rw [ByteArray.size_append];rfl
 have a6:(T4++⟨#[32]⟩++sh:ByteArray).size=T4.size+1+sh.size:=by rw [ByteArray.size_append,a5]
 subst er
 subst ef
 clear hL hx hn hok hv hd hr hf hfc
 unfold mV ev
 dsimp only
 have HK:=h_ ((Blk.new w 36 #[.slice al m.L.length alc,.slice ap m.P.length apc,.slice (some ⟨rb,ro,none⟩) m.R.length arc,.slice (some ⟨fb,fo,none⟩) m.F.length afc]).alloc (.cells #[.int .i64 r,.int .i64 k,.int .i64 v.k,.int .i64 v.n,.string v.s] 56))
 have HE:=h_ (Blk.new (w.alloc (.cells #[.slice al m.L.length alc,.slice ap m.P.length apc,.slice (some ⟨rb,ro,none⟩) m.R.length arc,.slice (some ⟨fb,fo,none⟩) m.F.length afc] 36)) 56 #[.int .i64 r,.int .i64 k,.int .i64 v.k,.int .i64 v.n,.string v.s])
 rw [World.size_alloc] at HE
 have HB:=h_ (((bR w.heap.size w).alloc (nR _) (.cells #[.slice al m.L.length alc,.slice ap m.P.length apc,.slice (some ⟨rb,ro,none⟩) m.R.length arc,.slice (some ⟨fb,fo,none⟩) m.F.length afc] 36)).alloc (by simp) (.cells #[.int .i64 r,.int .i64 k,.int .i64 v.k,.int .i64 v.n,.string v.s] 56))
 obtain ⟨W0,hW0⟩:∃ W0,(w.alloc (.cells #[.slice al m.L.length alc,.slice ap m.P.length apc,.slice (some ⟨rb,ro,none⟩) m.R.length arc,.slice (some ⟨fb,fo,none⟩) m.F.length afc] 36)).alloc (.cells #[.int .i64 r,.int .i64 k,.int .i64 v.k,.int .i64 v.n,.string v.s] 56)=W0:=⟨_,rfl⟩
 rw [hW0] at HK HE HB
 have HZr:Hid (∀ W,Below w.heap.size w W->W.cell? ⟨rb,ro+r*2,none⟩=some (.string rs)):=h_ fun W h=>(h.cell (p:=⟨rb,ro+r*2,none⟩) hrb).trans zr
 have HZf:Hid (∀ W,Below w.heap.size w W->W.cell? ⟨fb,fo+k*9,none⟩=some (.string fs)):=h_ fun W h=>(h.cell (p:=⟨fb,fo+k*9,none⟩) hfb).trans zf
 clear zr zf ha
 go_enter Tryz.func42,Tryz.ntmps42
 go_wp2_with fail
 try rw [hW0]
 clear hW0
 refine wp_region_held_drew (S:=fun w'=>Blk w' w.heap.size 36 [.slice al m.L.length alc,.slice ap m.P.length apc,.slice (some ⟨rb,ro,none⟩) m.R.length arc,.slice (some ⟨fb,fo,none⟩) m.F.length afc]/\Blk w' (w.heap.size+1) 56 [.int .i64 r,.int .i64 k,.int .i64 v.k,.int .i64 v.n,.string v.s]/\w'.cell? ⟨rb,ro+r*2,none⟩=some (.string rs)/\w'.cell? ⟨fb,fo+k*9,none⟩=some (.string fs)) (by kernel_rfl) ⟨u_ HK,u_ HE,u_ HZr _ (u_ HB).drew,u_ HZf _ (u_ HB).drew⟩ (fun zz=>?_)
 refine tk 0 8 (.int .i64 i) zz ?_
 refine tk 3 11 (.pointer (some ⟨w.heap.size,2,none⟩)) zz ?_
 refine tk 4 12 (.slice (some ⟨rb,ro,none⟩) m.R.length arc) zz ?_ (hy:=fun w hS=>by have q0:=(quad hS.1).2.2.1;simp [execOp,go_sem,q0])
 refine tk 5 13 (.pointer (some ⟨w.heap.size+1,0,none⟩)) zz ?_
 simp only [sX,sY,sZ]
 refine tk 6 14 (.int .i64 r) zz ?_ (hy:=fun w hS=>by have q0:=(five hS.2.1).1;simp [execOp,go_sem,q0])
 refine tk 7 15 (.pointer (some ⟨rb,ro+r*2,none⟩)) zz ?_
 refine tk 8 16 (.pointer (some ⟨rb,ro+r*2,none⟩)) zz ?_
 refine tk 9 17 (.string rs) zz ?_ (hy:=fun w hS=>by have q0:=hS.2.2.1;simp [execOp,go_sem,q0])
 simp only [sX,sY,sZ]
 refine tk 12 20 (.pointer (some ⟨w.heap.size,3,none⟩)) zz ?_
 refine tk 13 21 (.slice (some ⟨fb,fo,none⟩) m.F.length afc) zz ?_ (hy:=fun w hS=>by have q0:=(quad hS.1).2.2.2;simp [execOp,go_sem,q0])
 refine tk 14 22 (.pointer (some ⟨w.heap.size+1,1,none⟩)) zz ?_
 refine tk 15 23 (.int .i64 k) zz ?_ (hy:=fun w hS=>by have q0:=(five hS.2.1).2.1;simp [execOp,go_sem,q0])
 simp only [sX,sY,sZ]
 refine tk 16 24 (.pointer (some ⟨fb,fo+k*9,none⟩)) zz ?_
 refine tk 17 25 (.pointer (some ⟨fb,fo+k*9,none⟩)) zz ?_
 refine tk 18 26 (.string fs) zz ?_ (hy:=fun w hS=>by have q0:=hS.2.2.2;simp [execOp,go_sem,q0])
 simp only [sX,sY,sZ]
 refine callY (i:=1) (f:=71) (args:=#[.int .i64 i]) (R:=fun u wz=>u=.string d/\Below W0.heap.size W0 wz) 9 rfl rfl (by rfl) (by kernel_rfl) (by simp [execOp,go_sem]) ((u_ HD W0.drew).mono fun e w6 ⟨he,hb⟩=>⟨_,he,rfl,q26 hb⟩) ?_
 rintro u W1 ⟨rfl,hb⟩
 replace HK:=mB HK hb;replace HE:=mB HE hb;replace HB:=mT HB hb
 replace zz:Blk W1 w.heap.size 36 [.slice al m.L.length alc,.slice ap m.P.length apc,.slice (some ⟨rb,ro,none⟩) m.R.length arc,.slice (some ⟨fb,fo,none⟩) m.F.length afc]/\Blk W1 (w.heap.size+1) 56 [.int .i64 r,.int .i64 k,.int .i64 v.k,.int .i64 v.n,.string v.s]/\W1.cell? ⟨rb,ro+r*2,none⟩=some (.string rs)/\W1.cell? ⟨fb,fo+k*9,none⟩=some (.string fs):=⟨u_ HK,u_ HE,u_ HZr _ (u_ HB),u_ HZf _ (u_ HB)⟩
 clear hb
 refine ⟨zz,?_⟩
 simp only [sX,sY,sZ]
 refine tk 2 10 (.string T1) zz ?_ (hy:=fun w hS=>by have h:=run_string_add_sum (P:=Tryz.prog) w d ⟨#[32]⟩ (by omega);rw [e1] at h;simp [execOp,go_sem,h])
 refine tk 10 18 (.string T2) zz ?_ (hy:=fun w hS=>by have h:=run_string_add_sum (P:=Tryz.prog) w T1 rs (by omega);rw [e2] at h;simp [execOp,go_sem,h])
 refine tk 11 19 (.string T3) zz ?_ (hy:=fun w hS=>by have h:=run_string_add_sum (P:=Tryz.prog) w T2 ⟨#[32]⟩ (by omega);rw [e3] at h;simp [execOp,go_sem,h])
 refine tk 19 27 (.string T4) zz ?_ (hy:=fun w hS=>by have h:=run_string_add_sum (P:=Tryz.prog) w T3 fs (by omega);rw [e4] at h;simp [execOp,go_sem,h])
 simp only [sX,sY,sZ]
 refine tk 20 7 (.string T4) zz ?_
 simp only [sX,sY,sZ]
 refine wpAnyH_done (by kernel_rfl) ?_ _
 clear zz e1 e2 e3 e4 z1 z2 z3 z4 HZr HZf
 obtain ⟨x0,x1,x2,x3,x4⟩:=five (u_ HE)
 go_wp2_with fail
 refine (u_ HSh W1).mono ?_
 rintro y W2 ⟨rfl,hb⟩
 have HB2:=mT HB hb
 clear hb x0 x1 x2 x3 x4
 go_wp2_with fail
 go_ret
 rw [<- u_ HFin]
 exact ⟨rfl,u_ HB2⟩
def eC (x:Ex):List Value:=[.int .i64 x.r,.int .i64 x.f,.int .i64 x.v.k,.int .i64 x.v.n,.string x.v.s]
def entsV (l:List Ex):List Value:=l.flatMap eC
abbrev OwnE (w:World) (base:Nat) (v:Value) (l:List Ex):Prop:=w.ownsRow base 56 5 v l.length (entsV l)
theorem q8z (w:World) (t:TypeId):(w.alloc (.cells #[] t)).ownsRow w.heap.size t 5 (.slice (some ⟨w.heap.size,0,none⟩) 0 0) 0 [] :=
 ⟨rfl,.inr ⟨w.heap.size,0,#[],rfl,nR _,heap_alloc_new w (.cells #[] t),nR _,nZ _,rfl,rfl⟩⟩
theorem qax {l:List Ex} {i p:Nat} (hi:i<l.length) (hp:p<5):(entsV l)[i*5+p]? = (eC l[i])[p]?:=by
 induction l generalizing i with
 | nil=>exact absurd hi (nL _)
 | cons x l ih =>
  show (eC x++entsV l)[i*5+p]? = _
  have hc:(eC x).length=5:=rfl
  cases i with
  | zero=>rw [List.getElem?_append_left (by rw [hc];omega)];simp
  | succ i =>
   rw [List.getElem?_append_right (by rw [hc];omega),hc,show (i+1)*5+p - 5=i*5+p by omega,ih (by simpa using hi)]
   rfl
theorem q3f {w:World} {base:Nat} {v:Value} {l:List Ex} (e:Nat->Ex) (he:∀ k (h:k<l.length),e k=l[k]) (h:OwnE w base v l):∃ a c,v=.slice a l.length c/\Ents w a l.length e:=by
 rcases h.2 with ⟨e0,h0⟩ | ⟨g,cap,cur,e0,hg,hq,h4,h5,h6,h7⟩
 . exact ⟨none,0,by rw [e0,h0],fun k hk=>by omega⟩
 . have hb:Blk w g 56 cur.toList:=by
    show w.heap[g]? = _
    rw [hq]
   refine ⟨some ⟨g,0,none⟩,cap,e0,fun k hk=>⟨g,0,rfl,?_⟩⟩
   have hc:∀ p,p<5->w.cell? ⟨g,k*5+p,none⟩=(eC l[k])[p]?:=fun p hp=>by
    rw [hb.cell,<- qax hk hp,<- h7,List.getElem?_take_of_lt (by omega)]
   rw [Nat.zero_add,he k hk]
   exact ⟨hb.lt,hc 0 (by omega),hc 1 (by omega),hc 2 (by omega),hc 3 (by omega),hc 4 (by omega)⟩
theorem q8f (a a0:Option Addr) (L c c0 nf:Nat) (e:Nat->Ex) (g:Nat->Bool) (w:World) (hL:L<=4000) (hx:∀ k,k<L->0<=(e k).f/\(e k).f<nf) (ha:Ents w a L e) (hg:Bools w a0 nf g) :
 Calls Tryz.prog 20 #[.slice a L c,.slice a0 nf c0] w fun x w'=>∃ v,x=.returned v/\OwnE w' w.heap.size v (snL e g L)/\Below w.heap.size w w':=by
 have HE:=h_ ha;have HG:=h_ hg;have HX:=h_ hx
 have HO0:=h_ (q8z w 56)
 have HB0:=h_ ((bR w.heap.size w).alloc (nR _) (.cells #[] 56))
 clear ha hg hx
 go_enter Tryz.func20,Tryz.ntmps20
 go_wp2_with fail
 go_loopw [5,6] (fun v i wr=>∃ k:Nat,k<=L/\i=.int .i64 k/\OwnE wr w.heap.size v (snL e g k)/\Below w.heap.size w wr) (fun _ i _=>L - (intOf i).toNat)
 case atStart=>exact ⟨0,nZ _,rfl,u_ HO0,u_ HB0⟩
 case round =>
  obtain ⟨k,hk,rfl,hO,hb⟩:=hrel
  have HO:=h_ hO;have HB:=h_ hb
  have hTl:=qki e g k
  by_cases hlt:k<L
  . have hlt':(k:Int)<L:=by omega
    obtain ⟨b,o,ea,hc⟩:=((u_ HE).mono hb) k hlt
    subst ea
    obtain ⟨h0,h1⟩:=u_ HX k hlt
    have HSu:=h_ (qge e g k)
    obtain ⟨x,hxe⟩:∃ x,e k=x:=⟨_,rfl⟩
    rw [hxe] at hc h0 h1 HSu
    obtain ⟨r,f,v⟩:=x
    obtain ⟨j,rfl⟩:∃ j:Nat,f=j:=⟨f.toNat,by dsimp only at h0;omega⟩
    dsimp only at h0 h1
    have hj':(j:Int)<nf:=h1
    obtain ⟨b2,o2,e2,-,z2⟩:=((u_ HG).mono hb) j (by omega)
    subst e2
    obtain ⟨-,q0,q1,q2,q3,q4⟩:=hc
    dsimp only at q0 q1 q2 q3 q4
    rw [Int.toNat_natCast] at HSu
    clear hO hb hxe
    cases hq:g j
    . rw [hq] at z2 HSu
      rw [if_neg (by decide),List.append_nil] at HSu
      rw [<- u_ HSu] at HO
      go_wp2_with fail
      go_roundw
      case rel=>first | exact ⟨k+1,by omega,by go_num,u_ HO,u_ HB⟩ | ((repeat apply Exists.intro);exact ⟨⟨k+1,by omega,by go_num,u_ HO,u_ HB⟩,rfl⟩)
      case measure=>simp [intOf];omega
    . rw [hq] at z2 HSu
      rw [if_pos rfl] at HSu
      obtain ⟨i0,hi,hz0,hz1,hz2⟩:=info_parts qek
      have hN:=Blk.new wr 56 #[.int .i64 r,.int .i64 j,.int .i64 v.k,.int .i64 v.n,.string v.s]
      have hba:=(bR wr.heap.size wr).alloc (nR _) (.cells #[.int .i64 r,.int .i64 j,.int .i64 v.k,.int .i64 v.n,.string v.s] 56)
      have hws:=(u_ HB).size
      go_wp2_with (at_builtin;refine wpList_append_own _ rfl _ _ 38 rfl w.heap.size 56 i0 _ 5 48 Tryz.underlying38 hi hz0 hz1 hz2 rfl (by omega) _ _ _ rfl ((u_ HO).alloc _) ⟨wr.heap.size,0,none⟩ 1 1 (eC ⟨r,j,v⟩) rfl rfl (fun n v hj=>by rw [show (⟨wr.heap.size,0,none⟩:Addr).add n=⟨wr.heap.size,n,none⟩ by simp [Addr.add];try exact fun h=>h.symm];exact (hN.cell n).trans (by simpa [eC] using hj)) (by simp [eC,Value.oneCell']) (by unfold maxLen;omega) (by omega) (by simp;omega) ?_)
      intro v' W9 ho hgr _
      have HB9:=h_ (((u_ HB).trans (hba.mono hws)).grown hgr (Nat.le_trans hws hba.size) (fun q e=>q8y (u_ HO) e))
      have HO9:Hid (OwnE W9 w.heap.size v' (snL e g (k+1))):=h_ (by
       rw [u_ HSu]
       unfold OwnE entsV
       rw [List.flatMap_append,List.length_append]
       simpa [entsV] using ho)
      clear ho hgr hba hN hi hz0 hz1 hz2
      go_wp2_with fail
      go_roundw
      case rel=>first | exact ⟨k+1,by omega,by go_num,u_ HO9,u_ HB9⟩ | ((repeat apply Exists.intro);exact ⟨⟨k+1,by omega,by go_num,u_ HO9,u_ HB9⟩,rfl⟩)
      case measure=>simp [intOf];omega
  . obtain rfl:k=L:=by omega
    have hlt':¬ (k:Int)<(k:Int):=by omega
    clear hO hb
    go_wp2_with fail
    go_ret
    exact ⟨_,rfl,u_ HO,u_ HB⟩
theorem q5s (m:Fm) (A:MA) (l:List Ex) (e:Nat->Ex) (a:Option Addr) (c:Nat) (w:World) (hv:VfA m) (hl:l.length<=4000) (he:∀ k (h:k<l.length),e k=l[k]) (hx:∀ x,x ∈ l->entB m x=true/\FitE x) (ha:MSl w m A) (hc:Ents w a l.length e) :
 Calls Tryz.prog 19 #[mV m A,.slice a l.length c] w fun y w'=>y=.returned (.string ⟨(lnL m l).toArray⟩)/\Below w.heap.size w w':=by
 have HCl:=h_ fun x (i:Nat) W (h1:entB m x=true) (h2:FitE x) (hi:i<=4000) (h:MSl W m A)=>q8e m A x i W hv h1 h2 hi h
 have HLn:Hid (∀ k,k<=l.length->(lnL m (l.take k)).length<=4800000):=h_ fun k hk=>by
  have h:=qj4 hv (l:=l.take k) (by rw [List.length_take];omega) (fun x hx'=>hx x (List.mem_of_mem_take hx'))
  rw [List.length_take] at h
  omega
 obtain ⟨al,alc,ap,apc,ar,arc,af,afc,afa⟩:=A
 unfold mV at HCl ⊢
 unfold ev at HCl
 dsimp only at HCl ⊢
 have HK:=h_ (Blk.new w 36 #[.slice al m.L.length alc,.slice ap m.P.length apc,.slice ar m.R.length arc,.slice af m.F.length afc])
 have HB:=h_ ((bR w.heap.size w).alloc (nR _) (.cells #[.slice al m.L.length alc,.slice ap m.P.length apc,.slice ar m.R.length arc,.slice af m.F.length afc] 36))
 obtain ⟨W0,hW0⟩:∃ W0,w.alloc (.cells #[.slice al m.L.length alc,.slice ap m.P.length apc,.slice ar m.R.length arc,.slice af m.F.length afc] 36)=W0:=⟨_,rfl⟩
 rw [hW0] at HK HB
 have HS:=h_ (ha.mono (u_ HB));have HE:=h_ (hc.mono (u_ HB));have HEe:=h_ he;have HX:=h_ hx
 clear ha hc he hx
 go_enter Tryz.func19,Tryz.ntmps19
 go_wp2_with fail
 try rw [hW0]
 clear hW0
 go_loopw [5,6] (fun s i wr=>∃ (k:Nat) (T:ByteArray),k<=l.length/\i=.int .i64 k/\s=.string T/\sb T=lnL m (l.take k)/\Below W0.heap.size W0 wr) (fun _ i _=>l.length - (intOf i).toNat)
 case atStart=>exact ⟨0,⟨#[]⟩,nZ _,rfl,rfl,rfl,bR _ _⟩
 case round =>
  obtain ⟨k,T,hk,rfl,rfl,hT,hb⟩:=hrel
  have hTs:T.size<=4800000:=by rw [<- sb_len,hT];exact u_ HLn k hk
  have HT:=h_ hT;have HB0:=h_ hb
  have HKr:=mB HK hb;have HSr:=h_ ((u_ HS).mono hb)
  by_cases hlt:k<l.length
  . have hlt':(k:Int)<l.length:=by omega
    obtain ⟨b,o,ea,hce⟩:=((u_ HE).mono hb) k hlt
    subst ea
    have hxm:=u_ HX l[k] (List.getElem_mem hlt)
    rw [u_ HEe k hlt] at hce
    have HT2:Hid (lnL m (l.take (k+1))=lnL m (l.take k)++lnB m l[k] (k+1)):=h_ (by
     rw [List.take_succ_eq_append_getElem hlt,qey,List.length_take,Nat.min_eq_left (by omega)])
    obtain ⟨x,hxe⟩:∃ x,l[k]=x:=⟨_,rfl⟩
    rw [hxe] at hce hxm HT2
    have HC:=h_ (u_ HCl x (k+1) wr.drew hxm.1 hxm.2 (by omega) ((u_ HSr).mono (bR _ _).drew))
    have HN2:=h_ (u_ HLn (k+1) hlt)
    obtain ⟨ln,hln⟩:∃ ln:ByteArray,⟨(lnB m x (k+1)).toArray⟩=ln:=⟨_,rfl⟩
    rw [hln] at HC
    have hls:T.size+ln.size<=4800000:=by
     have:=u_ HN2
     rw [u_ HT2,List.length_append] at this
     have e1:ln.size=(lnB m x (k+1)).length:=by rw [<- hln];simp [bsz]
     rw [<- sb_len T,u_ HT,e1]
     exact this
    have HT3:Hid (sb (T++ln)=lnL m (l.take (k+1))):=h_ (by rw [qcr,u_ HT,<- hln,sb_mk (lnB m x (k+1)),u_ HT2])
    have HCe:=h_ hce
    clear hb hT hxe hxm hln hce
    obtain ⟨r,f,v⟩:=x
    dsimp only at HC HCe
    have ecast:((k+1:Nat):Int)=(k:Int)+1:=by omega
    rw [ecast] at HC
    go_wp2_with fail
    refine wp_region_held_drew (S:=fun w'=>Blk w' w.heap.size 36 [.slice al m.L.length alc,.slice ap m.P.length apc,.slice ar m.R.length arc,.slice af m.F.length afc]/\EEnt w' b (o+k*5) ⟨r,f,v⟩) (by kernel_rfl) ⟨u_ HKr,u_ HCe⟩ (fun zz=>?_)
    refine tk 0 13 (.string T) zz ?_
    refine tk 1 14 (.agg #[.slice al m.L.length alc,.slice ap m.P.length apc,.slice ar m.R.length arc,.slice af m.F.length afc]) zz ?_ (hy:=fun w hS=>by obtain ⟨q0,q1,q2,q3⟩:=quad hS.1;simp [execOp,go_sem,q0,q1,q2,q3])
    refine tk 2 15 (.slice (some ⟨b,o,none⟩) l.length c) zz ?_
    refine tk 3 16 (.int .i64 k) zz ?_
    simp only [sX,sY,sZ]
    refine tk 4 17 (.pointer (some ⟨b,o+k*5,none⟩)) zz ?_
    refine tk 5 18 (.agg #[.int .i64 r,.int .i64 f,.int .i64 v.k,.int .i64 v.n,.string v.s]) zz ?_ (hy:=fun w hS=>by obtain ⟨-,q0,q1,q2,q3,q4⟩:=hS.2;simp [execOp,go_sem,q0,q1,q2,q3,q4])
    refine tk 6 19 (.int .i64 k) zz ?_
    refine tk 7 20 (.int .i64 ((k:Int)+1)) zz ?_ (hy:=fun w hS=>by simp [execOp,go_sem];rw [IntKind.wrap_i64];omega)
    simp only [sX,sY,sZ]
    refine callY (i:=8) (f:=42) (args:=#[.agg #[.slice al m.L.length alc,.slice ap m.P.length apc,.slice ar m.R.length arc,.slice af m.F.length afc],.agg #[.int .i64 r,.int .i64 f,.int .i64 v.k,.int .i64 v.n,.string v.s],.int .i64 ((k:Int)+1)]) (R:=fun u wz=>u=.string ln/\Below wr.heap.size wr wz) 21 rfl rfl (by rfl) (by kernel_rfl) (by simp [execOp,go_sem]) ((u_ HC).mono fun e w6 ⟨he,hb⟩=>⟨_,he,rfl,q26 hb⟩) ?_
    rintro u W1 ⟨rfl,hb⟩
    replace zz:Blk W1 w.heap.size 36 [.slice al m.L.length alc,.slice ap m.P.length apc,.slice ar m.R.length arc,.slice af m.F.length afc]/\EEnt W1 b (o+k*5) ⟨r,f,v⟩:=⟨(u_ HKr).mono hb (u_ HKr).lt,(u_ HCe).mono hb⟩
    have HB1:=mT HB0 hb
    clear hb
    refine ⟨zz,?_⟩
    simp only [sX,sY,sZ]
    refine tk 9 22 (.string (T++ln)) zz ?_ (hy:=fun w hS=>by have h:=run_string_add_sum (P:=Tryz.prog) w T ln (by omega);simp [execOp,go_sem,h])
    refine tk 10 5 (.string (T++ln)) zz ?_
    simp only [sX,sY,sZ]
    refine wpAnyH_done (by kernel_rfl) ?_ _
    clear zz
    go_wp2_with fail
    go_roundw
    case rel=>first | exact ⟨k+1,_,by omega,by go_num,rfl,u_ HT3,u_ HB1⟩ | ((repeat apply Exists.intro);exact ⟨⟨k+1,_,by omega,by go_num,rfl,u_ HT3,u_ HB1⟩,rfl⟩)
    case measure=>simp [intOf];omega
  . obtain rfl:k=l.length:=by omega
    have hlt':¬ (l.length:Int)<(l.length:Int):=by omega
    have HF:Hid (T=⟨(lnL m l).toArray⟩):=h_ (sb_inj (by rw [hT,sb_mk (lnL m l),List.take_length]))
    have HB9:=mT HB hb
    clear hb hT
    go_wp2_with fail
    go_ret
    rw [u_ HF]
    exact ⟨rfl,u_ HB9⟩
theorem q2y (m:Fm) (A:MA) (v:Value) (r:Int) (w:World) (hS:∀ W,MSl W m A->Calls Tryz.prog 17 #[mV m A] W fun x w'=>x=.returned (.bool false)/\Below W.heap.size W w') (ha:MSl w m A) :
 Calls Tryz.prog 6 #[mV m A,v,.int .i64 r] w fun x w'=>x=.returned (.string ⟨#[]⟩)/\Below w.heap.size w w':=by
 have HC0:=h_ hS
 obtain ⟨al,alc,ap,apc,ar,arc,af,afc,afa⟩:=A
 unfold mV at HC0 ⊢
 dsimp only at HC0 ⊢
 have HK:=h_ (Blk.new w 36 #[.slice al m.L.length alc,.slice ap m.P.length apc,.slice ar m.R.length arc,.slice af m.F.length afc])
 have HB:=h_ ((bR w.heap.size w).alloc (nR _) (.cells #[.slice al m.L.length alc,.slice ap m.P.length apc,.slice ar m.R.length arc,.slice af m.F.length afc] 36))
 obtain ⟨W0,hW0⟩:∃ W0,w.alloc (.cells #[.slice al m.L.length alc,.slice ap m.P.length apc,.slice ar m.R.length arc,.slice af m.F.length afc] 36)=W0:=⟨_,rfl⟩
 rw [hW0] at HK HB
 have HC:=h_ (u_ HC0 W0 (ha.mono (u_ HB)))
 obtain ⟨y0,y1,y2,y3⟩:=quad (u_ HK)
 clear ha hS HC0
 go_enter Tryz.func6,Tryz.ntmps6
 go_wp2_with fail
 try rw [hW0]
 refine (u_ HC).mono ?_
 rintro x W1 ⟨rfl,hb⟩
 replace HB:=mT HB hb
 clear hb hW0 y0 y1 y2 y3
 go_wp2_with fail
 go_ret
 exact ⟨rfl,u_ HB⟩
theorem q4c (m:Fm) (A:MA) (L c:Nat) (a:Option Addr) (e:Nat->Ex) (r:Int) (w:World) (bot top:Int) (s n bt tp:Nat) (F:Nat->Bool) (J M:Nat->Int) (f:Nat->Nat) (hS:∀ W,MSl W m A->Calls Tryz.prog 17 #[mV m A] W fun x w'=>x=.returned (.bool true)/\Below W.heap.size W w') (hV:∀ W,MSl W m A->Calls Tryz.prog 66 #[mV m A] W fun r w'=>r=.returned (.bool (vfB m))/\Below W.heap.size W w') (hq:vfB m=true) (hv:VfA m) (hz:SpecF m.L.length m.P.length (pr1 m) (pr2 m) s F J M bot top) (hcl:SpecC m.L.length m.P.length (pr1 m) (pr2 m) s F) (hL:ValidP m.L.length s s s F J M bot top n bt tp) (s1:Sol m n (fun a b=>F (a*n+b)=true) f) (s2:Low m n (fun a b=>F (a*n+b)=true) f) (hf:FitM m) (hLl:L<=9223372036854775807) (hfe:∀ k,k<L->FitE (e k)) (ha:MSl w m A) (hc:Ents w a L e) :
 Calls Tryz.prog 6 #[mV m A,.slice a L c,.int .i64 r] w fun x w'=>x=.returned (.string ⟨(exA m n F f L e r).toArray⟩)/\Below w.heap.size w w':=by
 have HCs:=h_ hS
 have HCe:=h_ fun (x:Ex) W (h0:x.v.s.size<=9223372036854775807) (h:MSl W m A)=>q5r m A x W h0 h
 have HCv:=h_ fun (rn:Nat) W (hr:rn<m.R.length) (hs:MSl W m A)=>qev m A rn W bot top s n bt tp F J M hV hq hv hz hcl hL hf hr hs
 have HLo:=h_ fun g (g1:Sol m n (fun a b=>F (a*n+b)=true) g) (g2:Low m n (fun a b=>F (a*n+b)=true) g)=>qbt (qj1 hL) g1 s1 g2 s2
 have HCn:=h_ fun (l:List Ex) (e':Nat->Ex) (a':Option Addr) (c':Nat) W (h1:l.length<=4000) (h2:∀ k (h:k<l.length),e' k=l[k]) (h3:∀ x,x ∈ l->entB m x=true/\FitE x) (h4:MSl W m A) (h5:Ents W a' l.length e')=>q5s m A l e' a' c' W hv h1 h2 h3 h4 h5
 have HFe:=h_ hfe
 obtain ⟨al,alc,ap,apc,ar,arc,af,afc,afa⟩:=A
 unfold mV at HCs HCe HCv HCn ⊢
 unfold ev at HCe
 dsimp only at HCs HCe HCv HCn ⊢
 have HK:=h_ (Blk.new w 36 #[.slice al m.L.length alc,.slice ap m.P.length apc,.slice ar m.R.length arc,.slice af m.F.length afc])
 have HB:=h_ ((bR w.heap.size w).alloc (nR _) (.cells #[.slice al m.L.length alc,.slice ap m.P.length apc,.slice ar m.R.length arc,.slice af m.F.length afc] 36))
 obtain ⟨W0,hW0⟩:∃ W0,w.alloc (.cells #[.slice al m.L.length alc,.slice ap m.P.length apc,.slice ar m.R.length arc,.slice af m.F.length afc] 36)=W0:=⟨_,rfl⟩
 rw [hW0] at HK HB
 have HS:=h_ (ha.mono (u_ HB));have HC:=h_ (hc.mono (u_ HB))
 have HC1:=h_ (u_ HCs W0 (u_ HS))
 clear ha hc hS hV hq hz hcl hL s1 s2 hf hfe
 obtain ⟨y0,y1,y2,y3⟩:=quad (u_ HK)
 go_enter Tryz.func6,Tryz.ntmps6
 go_wp2_with fail
 try rw [hW0]
 refine (u_ HC1).mono ?_
 rintro x W1 ⟨rfl,hb⟩
 replace HK:=mB HK hb;replace HS:=h_ ((u_ HS).mono hb);replace HC:=h_ ((u_ HC).mono hb);replace HB:=mT HB hb
 clear hb hW0 y0 y1 y2 y3 HCs HC1
 obtain ⟨y0,y1,y2,y3⟩:=quad (u_ HK)
 have HNo:Hid (¬ ((0<=r/\r<m.R.length)/\L<=4000/\logOk m L e=true)->exA m n F f L e r=[]):=h_ fun h=>by unfold exA;rw [if_neg h]
 have hLl':(L:Int)<=9223372036854775807:=by omega
 by_cases hr0:r<0
 . have HN:=h_ (u_ HNo (fun h=>by omega))
   go_wp2_with fail
   go_ret
   rw [u_ HN]
   exact ⟨rfl,u_ HB⟩
 by_cases hr1:(m.R.length:Int)<=r
 . have HN:=h_ (u_ HNo (fun h=>by omega))
   go_wp2_with fail
   go_ret
   rw [u_ HN]
   exact ⟨rfl,u_ HB⟩
 by_cases hL4:(4000:Int)<L
 . have HN:=h_ (u_ HNo (fun h=>by omega))
   go_wp2_with fail
   go_ret
   rw [u_ HN]
   exact ⟨rfl,u_ HB⟩
 obtain ⟨rn,rfl⟩:∃ rn:Nat,r=rn:=⟨r.toNat,by omega⟩
 have hrn:rn<m.R.length:=by omega
 have hL5:L<=4000:=by omega
 go_wp2_with fail
 clear y0 y1 y2 y3
 go_loopw [7] (fun i wr=>∃ k:Nat,k<=L/\i=.int .i64 k/\(∀ j,j<k->entB m (e j)=true)/\Below W1.heap.size W1 wr) (fun i _=>L - (intOf i).toNat)
 case atStart=>exact ⟨0,nZ _,rfl,fun j h=>absurd h (nL _),bR _ _⟩
 case round =>
  obtain ⟨k,hk,rfl,hall,hb⟩:=hrel
  have HAll:=h_ hall
  have HKr:=mB HK hb;have HSr:=h_ ((u_ HS).mono hb);have HCr:=h_ ((u_ HC).mono hb);have HBr:=mT HB hb;have HB0:=h_ hb
  clear hall hb
  by_cases hlt:k<L
  . have hlt':(k:Int)<L:=by omega
    obtain ⟨b,o,ea,hce⟩:=(u_ HCr) k hlt
    subst ea
    have hfk:=u_ HFe k hlt
    have HA2:Hid (entB m (e k)=true->∀ j,j<k+1->entB m (e j)=true):=h_ fun h j hj=>by
     by_cases ej:j=k
     . rw [ej];exact h
     . exact u_ HAll j (by omega)
    have HN:=h_ fun (h:entB m (e k)=false)=>u_ HNo (fun h'=>by rw [qbw hlt h] at h';exact absurd h'.2.2 (by decide))
    obtain ⟨x,hxe⟩:∃ x,e k=x:=⟨_,rfl⟩
    rw [hxe] at hce hfk HA2 HN
    have HC2:=h_ (u_ HCe x wr.drew hfk.1 ((u_ HSr).mono (bR _ _).drew))
    obtain ⟨q,hqe⟩:∃ q,entB m x=q:=⟨_,rfl⟩
    rw [hqe] at HC2 HA2 HN
    obtain ⟨xr,xf,v⟩:=x
    dsimp only at HC2
    have HCe2:=h_ hce
    clear hce hxe hqe hfk
    go_wp2_with fail
    refine wp_region_held_drew (S:=fun w'=>Blk w' w.heap.size 36 [.slice al m.L.length alc,.slice ap m.P.length apc,.slice ar m.R.length arc,.slice af m.F.length afc]/\EEnt w' b (o+k*5) ⟨xr,xf,v⟩) (by kernel_rfl) ⟨u_ HKr,u_ HCe2⟩ (fun zz=>?_)
    refine tk 0 33 (.agg #[.slice al m.L.length alc,.slice ap m.P.length apc,.slice ar m.R.length arc,.slice af m.F.length afc]) zz ?_ (hy:=fun w hS=>by obtain ⟨q0,q1,q2,q3⟩:=quad hS.1;simp [execOp,go_sem,q0,q1,q2,q3])
    refine tk 1 34 (.slice (some ⟨b,o,none⟩) L c) zz ?_
    refine tk 2 35 (.int .i64 k) zz ?_
    refine tk 3 36 (.pointer (some ⟨b,o+k*5,none⟩)) zz ?_
    simp only [sX,sY,sZ]
    refine tk 4 37 (.agg #[.int .i64 xr,.int .i64 xf,.int .i64 v.k,.int .i64 v.n,.string v.s]) zz ?_ (hy:=fun w hS=>by obtain ⟨-,q0,q1,q2,q3,q4⟩:=hS.2;simp [execOp,go_sem,q0,q1,q2,q3,q4])
    simp only [sX,sY,sZ]
    refine callY (i:=5) (f:=18) (args:=#[.agg #[.slice al m.L.length alc,.slice ap m.P.length apc,.slice ar m.R.length arc,.slice af m.F.length afc],.agg #[.int .i64 xr,.int .i64 xf,.int .i64 v.k,.int .i64 v.n,.string v.s]]) (R:=fun u wz=>u=.bool q/\Below wr.heap.size wr wz) 38 rfl rfl (by rfl) (by kernel_rfl) (by simp [execOp,go_sem]) ((u_ HC2).mono fun e w6 ⟨he,hb⟩=>⟨_,he,rfl,q26 hb⟩) ?_
    rintro u W2 ⟨rfl,hb⟩
    replace zz:Blk W2 w.heap.size 36 [.slice al m.L.length alc,.slice ap m.P.length apc,.slice ar m.R.length arc,.slice af m.F.length afc]/\EEnt W2 b (o+k*5) ⟨xr,xf,v⟩:=⟨(u_ HKr).mono hb (u_ HKr).lt,(u_ HCe2).mono hb⟩
    have HB2:=mT HB0 hb
    have HBf:=mT HBr hb
    clear hb
    refine ⟨zz,?_⟩
    simp only [sX,sY,sZ]
    cases q
    . have HN9:=h_ (u_ HN rfl)
      refine tk 6 39 (.bool true) zz ?_
      simp only [sX,sY,sZ]
      refine wpAnyH_done (by kernel_rfl) ?_ _
      clear zz
      go_wp2_with fail
      go_ret
      rw [u_ HN9]
      exact ⟨rfl,u_ HBf⟩
    . have HA9:=h_ (u_ HA2 rfl)
      refine tk 6 39 (.bool false) zz ?_
      simp only [sX,sY,sZ]
      refine wpAnyH_done (by kernel_rfl) ?_ _
      clear zz
      go_wp2_with fail
      go_roundw
      case rel=>first | exact ⟨k+1,by omega,by go_num,u_ HA9,u_ HB2⟩ | ((repeat apply Exists.intro);exact ⟨⟨k+1,by omega,by go_num,u_ HA9,u_ HB2⟩,rfl⟩)
      case measure=>simp [intOf];omega
  . obtain rfl:k=L:=by omega
    have hlt':¬ (k:Int)<(k:Int):=by omega
    have HY:Hid (exA m n F f k e rn=lnL m (snL e (seesB m n F f rn) k)):=h_ (by unfold exA;rw [if_pos ⟨by omega,hL5,qbv (u_ HAll)⟩];rfl)
    have HCs2:=h_ fun (a0:Option Addr) (c0:Nat) (g:Nat->Bool) W (h1:Ents W a k e) (h2:Bools W a0 m.F.length g)=>q8f a a0 k c c0 m.F.length e g W hL5 (fun j hj=>(qaw (u_ HAll j hj)).2.1) h1 h2
    have HC3:=h_ (u_ HCv rn wr.drew hrn ((u_ HSr).mono (bR _ _).drew))
    go_wp2_with fail
    refine wp_region_held_drew (S:=fun w'=>Blk w' w.heap.size 36 [.slice al m.L.length alc,.slice ap m.P.length apc,.slice ar m.R.length arc,.slice af m.F.length afc]) (by kernel_rfl) (u_ HKr) (fun zz=>?_)
    refine tk 0 40 (.agg #[.slice al m.L.length alc,.slice ap m.P.length apc,.slice ar m.R.length arc,.slice af m.F.length afc]) zz ?_ (hy:=fun w hS=>by obtain ⟨q0,q1,q2,q3⟩:=quad hS;simp [execOp,go_sem,q0,q1,q2,q3])
    refine tk 1 41 (.slice a k c) zz ?_
    refine tk 2 42 (.agg #[.slice al m.L.length alc,.slice ap m.P.length apc,.slice ar m.R.length arc,.slice af m.F.length afc]) zz ?_ (hy:=fun w hS=>by obtain ⟨q0,q1,q2,q3⟩:=quad hS;simp [execOp,go_sem,q0,q1,q2,q3])
    refine tk 3 43 (.int .i64 rn) zz ?_
    simp only [sX,sY,sZ]
    refine callY (i:=4) (f:=21) (args:=#[.agg #[.slice al m.L.length alc,.slice ap m.P.length apc,.slice ar m.R.length arc,.slice af m.F.length afc],.int .i64 rn]) (R:=fun v wz=>∃ a0 c0,v=.slice a0 m.F.length c0/\Bools wz a0 m.F.length (seesB m n F f rn)/\Below wr.heap.size wr wz) 44 rfl rfl (by rfl) (by kernel_rfl) (by simp [execOp,go_sem]) ((u_ HC3).mono fun e w6 ⟨g,a0,c0,he,g1,g2,hbo,hb⟩=>⟨_,he,a0,c0,rfl,(fun j hj=>by obtain ⟨b1,o1,e1,h1,h2⟩:=hbo j hj;exact ⟨b1,o1,e1,h1,by rw [h2,qg9 (u_ HLo g g1 g2) hj]⟩),q26 hb⟩) ?_
    rintro v W3 ⟨a0,c0,rfl,hbo,hb⟩
    replace HKr:=mB HKr hb;replace HSr:=h_ ((u_ HSr).mono hb);replace HCr:=h_ ((u_ HCr).mono hb);replace HBr:=mT HBr hb
    replace zz:=u_ HKr
    have HC4:=h_ (u_ HCs2 a0 c0 (seesB m n F f rn) W3 (u_ HCr) hbo)
    clear hb hbo HC3 HLo
    refine ⟨zz,?_⟩
    simp only [sX,sY,sZ]
    refine callY (i:=5) (f:=20) (args:=#[.slice a k c,.slice a0 m.F.length c0]) (R:=fun v wz=>OwnE wz W3.heap.size v (snL e (seesB m n F f rn) k)/\Below W3.heap.size W3 wz) 45 rfl rfl (by rfl) (by kernel_rfl) (by simp [execOp,go_sem]) ((u_ HC4).mono fun e w6 ⟨v,he,h1,h2⟩=>⟨v,he,h1,h2⟩) ?_
    rintro v W4 ⟨ho,hb⟩
    replace HKr:=mB HKr hb;replace HSr:=h_ ((u_ HSr).mono hb);replace HBr:=mT HBr hb
    replace zz:=u_ HKr
    obtain ⟨a4,c4,rfl,hen⟩:=q3f (fun j=>(snL e (seesB m n F f rn) k).getD j ⟨0,0,⟨0,0,⟨#[]⟩⟩⟩) (fun j hj=>by rw [List.getD_eq_getElem?_getD,List.getElem?_eq_getElem hj];rfl) ho
    have HC5:=h_ (u_ HCn (snL e (seesB m n F f rn) k) _ a4 c4 W4 (Nat.le_trans (qki _ _ _) hL5) (fun j hj=>by rw [List.getD_eq_getElem?_getD,List.getElem?_eq_getElem hj];rfl) (fun x hx=>by
     obtain ⟨j,hj,rfl⟩:=qkj hx
     exact ⟨u_ HAll j hj,u_ HFe j hj⟩) (u_ HSr) hen)
    rw [<- u_ HY] at HC5
    clear hb ho hen HC4
    refine ⟨zz,?_⟩
    simp only [sX,sY,sZ]
    refine callY (i:=6) (f:=19) (args:=#[.agg #[.slice al m.L.length alc,.slice ap m.P.length apc,.slice ar m.R.length arc,.slice af m.F.length afc],.slice a4 (snL e (seesB m n F f rn) k).length c4]) (R:=fun v wz=>v=.string ⟨(exA m n F f k e rn).toArray⟩/\Below W4.heap.size W4 wz) 46 rfl rfl (by rfl) (by kernel_rfl) (by simp [execOp,go_sem]) ((u_ HC5).mono fun e w6 ⟨he,hb⟩=>⟨_,he,rfl,hb⟩) ?_
    rintro v W5 ⟨rfl,hb⟩
    replace HBr:=mT HBr hb
    replace zz:=(u_ HKr).mono hb (u_ HKr).lt
    clear hb HC5
    refine ⟨zz,?_⟩
    simp only [sX,sY,sZ]
    refine tk 7 6 (.string ⟨(exA m n F f k e rn).toArray⟩) zz ?_
    simp only [sX,sY,sZ]
    refine wpAnyH_done (by kernel_rfl) ?_ _
    clear zz
    go_wp2_with fail
    go_ret
    exact ⟨rfl,u_ HBr⟩
end Go.Proofs.YtgkcaeidhkddjaaGreatDoor
