import Derived.Test.YtgkcaeidhkddjaaGreatDoorXG1e
import Derived.Maps.AppendAt
set_option maxRecDepth 100000
set_option maxHeartbeats 20000000
namespace Go.Proofs.YtgkcaeidhkddjaaGreatDoor
open Go Go.RowKit
def JF (F:Nat->Bool) (n i:Nat):Int:=firstN (isJoin F n (i / n) (i % n)) n
def MF (F:Nat->Bool) (n i:Nat):Int:=firstN (isMeet F n (i / n) (i % n)) n
def TwoW (F:Nat->Bool) (n:Nat):Prop:=∃ a b,a<n/\b<n/\a ≠ b/\F (a*n+b)=true/\F (b*n+a)=true
def lastN (p:Nat->Bool):Nat->Int
 | 0=>0
 | k+1=>if p k then (k:Int) else lastN p k
def belowAll (F:Nat->Bool) (n m c:Nat):Bool:=(List.range m).all fun d=>F (c*n+d)
def aboveAll (F:Nat->Bool) (n m c:Nat):Bool:=(List.range m).all fun d=>F (d*n+c)
theorem q25 (F:Nat->Bool) (n m c:Nat):belowAll F n (m+1) c=(belowAll F n m c&&F (c*n+m)):=by simp [belowAll,List.range_succ]
theorem q24 (F:Nat->Bool) (n m c:Nat):aboveAll F n (m+1) c=(aboveAll F n m c&&F (m*n+c)):=by simp [aboveAll,List.range_succ]
def SpecOut (n:Nat) (F:Nat->Bool) (e:Ending) (w':World):Prop :=
 (TwoW F n/\e=.returned (.tuple #[zeroL,.int .i64 2])) ∨
 (¬ TwoW F n/\(∃ i,i<n*n/\JF F n i<0)/\e=.returned (.tuple #[zeroL,.int .i64 3])) ∨
 (¬ TwoW F n/\(∀ i,i<n*n->0<=JF F n i)/\(∃ i,i<n*n/\MF F n i<0)/\e=.returned (.tuple #[zeroL,.int .i64 4])) ∨
 (¬ TwoW F n/\(∀ i,i<n*n->0<=JF F n i)/\(∀ i,i<n*n->0<=MF F n i)/\∃ a1 a2 a3 c1 c2 c3,e=.returned (.tuple #[.agg #[.int .i64 n,.slice a1 (n*n) c1,.slice a2 (n*n) c2,.slice a3 (n*n) c3,.int .i64 (lastN (belowAll F n n) n),.int .i64 (lastN (aboveAll F n n) n)],.int .i64 0]) /\
  Bools w' a1 (n*n) F/\Ints w' a2 (n*n) (JF F n)/\Ints w' a3 (n*n) (MF F n))
theorem six' {w:World} {b:Nat} {t:TypeId} {v0 v1 v2 v3 v4 v5:Value} (h:Blk w b t [v0,v1,v2,v3,v4,v5]) :
 (w.cell? ⟨b,0,none⟩=some v0/\w.cell? ⟨b,1,none⟩=some v1/\w.cell? ⟨b,2,none⟩=some v2/\w.cell? ⟨b,3,none⟩=some v3/\w.cell? ⟨b,4,none⟩=some v4/\w.cell? ⟨b,5,none⟩=some v5)/\(w.frozen? ⟨b,0,none⟩=false/\w.frozen? ⟨b,1,none⟩=false/\w.frozen? ⟨b,2,none⟩=false/\w.frozen? ⟨b,3,none⟩=false/\w.frozen? ⟨b,4,none⟩=false/\w.frozen? ⟨b,5,none⟩=false) :=
 ⟨⟨h.cell 0,h.cell 1,h.cell 2,h.cell 3,h.cell 4,h.cell 5⟩,⟨h.free 0,h.free 1,h.free 2,h.free 3,h.free 4,h.free 5⟩⟩
theorem q78 {B:Nat} {w w':World} (h:Below B w w') {R:Nat} (hR:B<=R) (v0 v1 v2 v3 v4 v5:Value):Below B w ((((((w'.setCell ⟨R,0,none⟩ v0).setCell ⟨R,1,none⟩ v1).setCell ⟨R,2,none⟩ v2).setCell ⟨R,3,none⟩ v3).setCell ⟨R,4,none⟩ v4).setCell ⟨R,5,none⟩ v5) :=
 (((((h.setCell (p:=⟨R,0,none⟩) hR v0).setCell (p:=⟨R,1,none⟩) hR v1).setCell (p:=⟨R,2,none⟩) hR v2).setCell (p:=⟨R,3,none⟩) hR v3).setCell (p:=⟨R,4,none⟩) hR v4).setCell (p:=⟨R,5,none⟩) hR v5
theorem q2x (N:Int) (a:Option Addr) (m c:Nat) (w:World) (hc:∀ w',Below w.heap.size w w'->Calls Tryz.prog 102 #[.agg #[.int .i64 N,.slice a m c]] w' fun e w''=>e=.returned (.bool false)/\Below w'.heap.size w' w'') :
 Calls Tryz.prog 67 #[.agg #[.int .i64 N,.slice a m c]] w fun e w'=>e=.returned (.tuple #[zeroL,.int .i64 1])/\Below w.heap.size w w':=by
 have HR:=h_ (by simpa using Blk.new (w.alloc (.cells #[.int .i64 N,.slice a m c] 100)) 114 #[.int .i64 0,.slice none 0 0,.slice none 0 0,.slice none 0 0,.int .i64 0,.int .i64 0]:Blk ((w.alloc (.cells #[.int .i64 N,.slice a m c] 100)).alloc (.cells #[.int .i64 0,.slice none 0 0,.slice none 0 0,.slice none 0 0,.int .i64 0,.int .i64 0] 114)) (w.heap.size+1) 114 [.int .i64 0,.slice none 0 0,.slice none 0 0,.slice none 0 0,.int .i64 0,.int .i64 0])
 have H0:=h_ ((Blk.new w 100 #[.int .i64 N,.slice a m c]).alloc (.cells #[.int .i64 0,.slice none 0 0,.slice none 0 0,.slice none 0 0,.int .i64 0,.int .i64 0] 114))
 have HW:Hid (Below w.heap.size w ((w.alloc (.cells #[.int .i64 N,.slice a m c] 100)).alloc (.cells #[.int .i64 0,.slice none 0 0,.slice none 0 0,.slice none 0 0,.int .i64 0,.int .i64 0] 114))):=((bR _ w).alloc (nR _) _).alloc (by simp) _
 go_enter Tryz.func67,Tryz.ntmps67
 go_wp2_with fail
 refine (hc _ (u_ HW)).mono ?_
 rintro e w1 ⟨rfl,hb⟩
 replace HR:=mB HR hb;replace H0:=mB H0 hb;replace HW:=mT HW hb
 clear hb
 obtain ⟨⟨r0,r1,r2,r3,r4,r5⟩,⟨f0,f1,f2,f3,f4,f5⟩⟩:=six' (u_ HR)
 have HZ:=h_ (q78 (u_ HW) (Nat.le_succ _) (.int .i64 0) (.slice none 0 0) (.slice none 0 0) (.slice none 0 0) (.int .i64 0) (.int .i64 0))
 go_wp2
 refine bodyPost_ret (v:=.tuple #[zeroL,.int .i64 1]) (by simp [results,Tryz.results67,go_sem,zeroL, *]) rfl ⟨?_,u_ HZ⟩
 rfl
theorem qcb {w:World} {base base':Nat} {e:TypeId} {size:Nat} {v:Value} {n:Nat} {xs:List Value} (h:w.ownsRow base e size v n xs) (hb:base'<=base):w.ownsRow base' e size v n xs:=by
 rcases h.2 with h' | ⟨g,cap,cur,e',hb',h3⟩
 . exact ⟨h.1,.inl h'⟩
 . exact ⟨h.1,.inr ⟨g,cap,cur,e',Nat.le_trans hb hb',h3⟩⟩
theorem qaf (w:World) (t:TypeId) (v:Value):∀ (j:Nat) (u:Value),[v][j]? = some u->(w.alloc (.cells #[v] t)).cell? ((⟨w.heap.size,0,none⟩:Addr).add j)=some u:=fun j u h=>by
 match j,h with
 | 0,h=>simp at h;subst h;exact (Blk.new w t #[v]).cell 0
theorem qim {w:World} {base:Nat} {e:TypeId} {v:Value} {n:Nat} {G:Nat->Int} (h:w.ownsRow base e 1 v n (is n G)):∃ a cap,v=.slice a n cap/\Ints w a n G:=by
 rcases h.2 with ⟨rfl,rfl⟩ | ⟨g,cap,cur,rfl,hb,hg,hc,-,hs,htake⟩
 . exact ⟨none,0,rfl,fun k hk=>absurd hk (nL _)⟩
 . refine ⟨_,cap,rfl,fun k hk=>⟨g,0,rfl,(Array.getElem?_eq_some_iff.1 hg).1,?_⟩⟩
   have:=h.cellAt k (by omega)
   rw [Nat.zero_add,this]
   simp [is,hk]
theorem two' {w:World} {b:Nat} {t:TypeId} {v0 v1:Value} (h:Blk w b t [v0,v1]) :
 (w.cell? ⟨b,0,none⟩=some v0/\w.cell? ⟨b,1,none⟩=some v1)/\(w.frozen? ⟨b,0,none⟩=false/\w.frozen? ⟨b,1,none⟩=false):=⟨⟨h.cell 0,h.cell 1⟩,⟨h.free 0,h.free 1⟩⟩
theorem q4b (n:Nat) (a:Option Addr) (m c:Nat) (f g:Nat->Nat) (w:World) (h1:1<=n) (h32:n<=32) (hm:m<=256) (ha:Pairs w a m (fun k=>(f k:Int)) (fun k=>(g k:Int))) (hf:∀ k,k<m->f k<n) (hg:∀ k,k<m->g k<n) (F:Nat->Bool) (hF:tabB n (rounds diag f g m n)=F) :
 Calls Tryz.prog 67 #[.agg #[.int .i64 n,.slice a m c]] w fun e w'=>SpecOut n F e w'/\Below w.heap.size w w':=by
 have HR:=h_ (by simpa using Blk.new (w.alloc (.cells #[.int .i64 n,.slice a m c] 100)) 114 #[.int .i64 0,.slice none 0 0,.slice none 0 0,.slice none 0 0,.int .i64 0,.int .i64 0]:Blk ((w.alloc (.cells #[.int .i64 n,.slice a m c] 100)).alloc (.cells #[.int .i64 0,.slice none 0 0,.slice none 0 0,.slice none 0 0,.int .i64 0,.int .i64 0] 114)) (w.heap.size+1) 114 [.int .i64 0,.slice none 0 0,.slice none 0 0,.slice none 0 0,.int .i64 0,.int .i64 0])
 have H0:=h_ ((Blk.new w 100 #[.int .i64 n,.slice a m c]).alloc (.cells #[.int .i64 0,.slice none 0 0,.slice none 0 0,.slice none 0 0,.int .i64 0,.int .i64 0] 114))
 have HW:Hid (Below w.heap.size w ((w.alloc (.cells #[.int .i64 n,.slice a m c] 100)).alloc (.cells #[.int .i64 0,.slice none 0 0,.slice none 0 0,.slice none 0 0,.int .i64 0,.int .i64 0] 114))):=((bR _ w).alloc (nR _) _).alloc (by simp) _
 go_enter Tryz.func67,Tryz.ntmps67
 go_wp2_with fail
 refine (q0z n a m c _ _ _ (by omega) (by omega) hm (ha.mono (u_ HW)) true ⟨fun _ k hk=>by have:=hf k hk;have:=hg k hk;omega,fun _=>rfl⟩).mono ?_
 rintro e w1 ⟨rfl,hb⟩
 replace HR:=mB HR hb;replace H0:=mB H0 hb;replace HW:=mT HW hb
 clear hb
 obtain ⟨⟨o0,o1⟩,-⟩:=two' (u_ H0)
 go_wp2_with fail
 refine (q2f n a m c f g _ h1 h32 hm (ha.mono (u_ HW)) hf hg).mono ?_
 rintro e w2 ⟨G,rfl,hG,hGw,hb⟩
 have hR1:=(u_ HR).lt
 replace HR:=mB HR hb;replace H0:=mB H0 hb;replace HW:=mT HW hb
 clear hb o0 o1
 rw [hF] at hG
 have HG:=h_ hG
 have hGR:G ≠ w.heap.size+1:=by omega
 have hRs:w.heap.size+1<w2.heap.size:=(u_ HR).lt
 clear hG ha hf hg hF hGw hR1
 have hsq:=sq_le h32
 go_wp2_with fail
 go_loop [6] (fun i=>∃ k:Nat,k<=n/\i=.int .i64 k/\∀ x,x<k->∀ y,y<n->¬ (x ≠ y/\F (x*n+y)=true/\F (y*n+x)=true)) (fun i=>n - (intOf i).toNat)
 case atStart=>exact ⟨0,nZ _,rfl,fun x h=>absurd h (nL _)⟩
 case round =>
  obtain ⟨k,hk,rfl,hall⟩:=hrel
  have HA:=h_ hall;clear hall
  by_cases hlt:k<n
  . go_wp2_with fail
    go_loop [7] (fun i=>∃ j:Nat,j<=n/\i=.int .i64 j/\∀ y,y<j->¬ (k ≠ y/\F (k*n+y)=true/\F (y*n+k)=true)) (fun i=>n - (intOf i).toNat)
    case atStart=>exact ⟨0,nZ _,rfl,fun x h=>absurd h (nL _)⟩
    case round =>
     obtain ⟨j,hj,rfl,hall⟩:=hrel
     have HB:=h_ hall;clear hall
     by_cases hlj:j<n
     . have hcs:(((k:Int) != j)=true/\F (k*n+j)=true/\F (j*n+k)=true) ∨ (((k:Int) != j)=false ∨ (((k:Int) != j)=true/\F (k*n+j)=false) ∨ (((k:Int) != j)=true/\F (k*n+j)=true/\F (j*n+k)=false)):=by
        cases ((k:Int) != j) <;> cases F (k*n+j) <;> cases F (j*n+k) <;> simp
       rcases hcs with ⟨e1,e2,e3⟩ | hcs
       . have HT:Hid (TwoW F n):=⟨k,j,hlt,hlj,fun e=>by subst e;simp at e1,e2,e3⟩
         obtain ⟨⟨r0,r1,r2,r3,r4,r5⟩,⟨f0,f1,f2,f3,f4,f5⟩⟩:=six' (u_ HR)
         have HZ:=h_ (q78 (u_ HW) (Nat.le_succ _) (.int .i64 0) (.slice none 0 0) (.slice none 0 0) (.slice none 0 0) (.int .i64 0) (.int .i64 0))
         go_wp2_with (go_at_call 103;refine (qbo _ _ _ _ _ _ F _ (nR _) (by omega) (by omega) h32 (u_ HG).bools).mono ?_;rintro e w' ⟨rfl,rfl⟩)
         exact bodyPost_ret (v:=.tuple #[zeroL,.int .i64 2]) (by simp [results,Tryz.results67,go_sem,zeroL, *]) rfl ⟨.inl ⟨u_ HT,rfl⟩,u_ HZ⟩
       . have HN:Hid (¬ (k ≠ j/\F (k*n+j)=true/\F (j*n+k)=true)):=fun ⟨e1,e2,e3⟩=>by
          rcases hcs with h | ⟨_,h⟩ | ⟨_,_,h⟩
          . simp at h;omega
          . exact Bool.false_ne_true (h.symm.trans e2)
          . exact Bool.false_ne_true (h.symm.trans e3)
         rcases hcs with e1 | ⟨e1,e2⟩ | ⟨e1,e2,e3⟩
         all_goals
          go_wp2_with (go_at_call 103;refine (qbo _ _ _ _ _ _ F _ (nR _) (by omega) (by omega) h32 (u_ HG).bools).mono ?_;rintro e w' ⟨rfl,rfl⟩)
          go_round
          case rel=>exact ⟨j+1,by omega,by go_num,fun y hy=>by
           by_cases e:y=j
           . rw [e];exact u_ HN
           . exact u_ HB y (by omega)⟩
          case measure=>simp [intOf];omega
     . go_wp2_with fail
       go_round
       case rel=>exact ⟨k+1,by omega,by go_num,fun x hx y hy=>by
        by_cases e:x=k
        . rw [e];exact u_ HB y (by omega)
        . exact u_ HA x (by omega) y hy⟩
       case measure=>simp [intOf];omega
  . obtain rfl:n=k:=by omega
    have hN2:¬ TwoW F n:=fun ⟨x,y,hx,hy,h⟩=>u_ HA x (by omega) y hy h
    have HN2:=h_ hN2;clear hN2 HA hlt hk
    go_wp2_with fail
    have hb2:Below w2.heap.size w2 ((w2.alloc (.cells #[] 3)).alloc (.cells #[] 3)):=((bR _ w2).alloc (nR _) _).alloc (by simp) _
    have O1:((w2.alloc (.cells #[] 3)).alloc (.cells #[] 3)).ownsRow w2.heap.size 3 1 (.slice (some ⟨w2.heap.size,0,none⟩) 0 0) 0 (is 0 (JF F n)):=(qcf w2 3).alloc _
    have O2:((w2.alloc (.cells #[] 3)).alloc (.cells #[] 3)).ownsRow w2.heap.size 3 1 (.slice (some ⟨w2.heap.size+1,0,none⟩) 0 0) 0 (is 0 (MF F n)):=by
     have:=qcf (w2.alloc (.cells #[] 3)) 3
     simp only [World.size_alloc] at this
     exact qcb this (Nat.le_succ _)
    have P1:=h_ O1;have P2:=h_ O2;have PB:=h_ hb2;clear O1 O2 hb2
    have zm:∀ G:Nat->Int,(false=true ↔ ∃ i,i<0*n/\G i<0):=fun G=>⟨(fun h=>by cases h),(fun ⟨i,hi,_⟩=>by simp at hi)⟩
    go_loopw [8,9,10,11,12] (fun vj vm nj nm i wr=>∃ (k:Nat) (bj bm:Bool),k<=n/\i=.int .i64 k/\nj=.bool bj/\nm=.bool bm/\(bj=true ↔ ∃ i,i<k*n/\JF F n i<0)/\(bm=true ↔ ∃ i,i<k*n/\MF F n i<0)/\wr.ownsRow w2.heap.size 3 1 vj (k*n) (is (k*n) (JF F n))/\wr.ownsRow w2.heap.size 3 1 vm (k*n) (is (k*n) (MF F n))/\vj.ownBlock ≠ vm.ownBlock/\Below w2.heap.size w2 wr) (fun _ _ _ _ i _=>n - (intOf i).toNat)
    case atStart=>exact ⟨0,false,false,nZ _,rfl,rfl,rfl,zm _,zm _,by simpa using u_ P1,by simpa using u_ P2,by simp [Value.ownBlock],u_ PB⟩
    case round =>
     clear P1 P2 PB zm
     obtain ⟨k,bj,bm,hk,rfl,rfl,rfl,hbj,hbm,hoj,hom,hne,hB⟩:=hrel
     have HBJ:=h_ hbj;have HBM:=h_ hbm;have HOJ:=h_ hoj;have HOM:=h_ hom;have HNE:=h_ hne;have HB:=h_ hB
     clear hbj hbm hoj hom hne
     by_cases hlt:k<n
     . clear hB
       go_wp2_with fail
       go_loopw [8,9,10,11,13] (fun vj vm nj nm i wr=>∃ (j:Nat) (bj bm:Bool),j<=n/\i=.int .i64 j/\nj=.bool bj/\nm=.bool bm/\(bj=true ↔ ∃ i,i<k*n+j/\JF F n i<0)/\(bm=true ↔ ∃ i,i<k*n+j/\MF F n i<0)/\wr.ownsRow w2.heap.size 3 1 vj (k*n+j) (is (k*n+j) (JF F n))/\wr.ownsRow w2.heap.size 3 1 vm (k*n+j) (is (k*n+j) (MF F n))/\vj.ownBlock ≠ vm.ownBlock/\Below w2.heap.size w2 wr) (fun _ _ _ _ i _=>n - (intOf i).toNat)
       case atStart=>exact ⟨0,bj,bm,nZ _,rfl,rfl,rfl,u_ HBJ,u_ HBM,u_ HOJ,u_ HOM,u_ HNE,u_ HB⟩
       case round =>
        clear HBJ HBM HOJ HOM HNE HB
        obtain ⟨j,bj,bm,hj,rfl,rfl,rfl,hbj,hbm,hoj,hom,hne,hB⟩:=hrel
        have HBJ:=h_ hbj;have HBM:=h_ hbm;have HOJ:=h_ hoj;have HOM:=h_ hom;have HNE:=h_ hne;have HB:=h_ hB
        clear hbj hbm hoj hom hne
        by_cases hlj:j<n
        . have hG2:=((u_ HG).mono hB (u_ HG).lt).bools
          have HG2:=h_ hG2
          have hix:=idx_lt hlt hlj
          have hjd:(k*n+j) / n=k/\(k*n+j) % n=j:=by
           rw [Nat.add_comm,Nat.add_mul_div_right _ _ (by omega),Nat.div_eq_of_lt hlj,Nat.add_mul_mod_self_right,Nat.mod_eq_of_lt hlj];simp
          obtain ⟨vJ,hvJ⟩:∃ v,JF F n (k*n+j)=v:=⟨_,rfl⟩
          obtain ⟨vM,hvM⟩:∃ v,MF F n (k*n+j)=v:=⟨_,rfl⟩
          have hfJ:firstN (isJoin F n k j) n=vJ:=by rw [<- hvJ,JF,hjd.1,hjd.2]
          have hfM:firstN (isMeet F n k j) n=vM:=by rw [<- hvM,MF,hjd.1,hjd.2]
          have HVJ:=h_ hvJ;have HVM:=h_ hvM
          clear hG2 hB hjd hvJ hvM
          go_wp2_with fail
          refine (q88 _ _ _ n k j F _ (nR _) h32 hlt hlj (u_ HG2) vJ hfJ).mono ?_
          rintro e w' ⟨rfl,rfl⟩
          go_wp2_with fail
          refine (q89 _ _ _ n k j F _ (nR _) h32 hlt hlj (u_ HG2) vM hfM).mono ?_
          rintro e w' ⟨rfl,rfl⟩
          clear hfJ hfM
          have stepJ:∀ b:Bool,(b=(decide (vJ<0) || bj))->(b=true ↔ ∃ i,i<k*n+(j+1)/\JF F n i<0):=fun b hb=>by
           rw [hb,Bool.or_eq_true,decide_eq_true_eq,u_ HBJ]
           refine ⟨fun h=>?_,fun ⟨i,hi,h⟩=>?_⟩
           . rcases h with h | ⟨i,hi,h⟩
             . exact ⟨k*n+j,by omega,by rw [u_ HVJ];exact h⟩
             . exact ⟨i,by omega,h⟩
           . by_cases e:i=k*n+j
             . left;rw [e,u_ HVJ] at h;exact h
             . exact .inr ⟨i,by omega,h⟩
          have stepM:∀ b:Bool,(b=(decide (vM<0) || bm))->(b=true ↔ ∃ i,i<k*n+(j+1)/\MF F n i<0):=fun b hb=>by
           rw [hb,Bool.or_eq_true,decide_eq_true_eq,u_ HBM]
           refine ⟨fun h=>?_,fun ⟨i,hi,h⟩=>?_⟩
           . rcases h with h | ⟨i,hi,h⟩
             . exact ⟨k*n+j,by omega,by rw [u_ HVM];exact h⟩
             . exact ⟨i,by omega,h⟩
           . by_cases e:i=k*n+j
             . left;rw [e,u_ HVM] at h;exact h
             . exact .inr ⟨i,by omega,h⟩
          have SJ:=h_ stepJ;have SM:=h_ stepM;clear stepJ stepM
          by_cases c1:vJ<0 <;> by_cases c2:vM<0
          all_goals
           obtain ⟨i0,hi,hz0,hz1,hz2⟩:=info_parts qel
           go_wp2_with (at_builtin;refine wpList_append_own_at _ rfl _ _ 84 rfl w2.heap.size 3 i0 _ 1 8 Tryz.underlying84 hi hz0 hz1 hz2 rfl (by omega) u8 _ _ rfl ((u_ HOJ).alloc _) ⟨w'.heap.size,0,none⟩ 1 1 [.int .i64 vJ] rfl rfl (qaf w' 3 _) (by simp [Value.oneCell']) (by unfold maxLen;omega) (by omega) (by have:=(u_ HB).size;simp;omega) ?_)
           intro vj' w3 hoj' hgr' _ hob'
           have hlM:=(u_ HOM).lt
           have hlJ:=(u_ HOJ).lt
           have hB3:=((u_ HB).alloc (u_ HB).size (.cells #[.int .i64 vJ] 3)).grown hgr' (by have:=(u_ HB).size;simp;omega) (fun q' e=>q8y (u_ HOJ) e)
           have hom3:=((u_ HOM).alloc (.cells #[.int .i64 vJ] 3)).kept hgr' (.inr fun e=>u_ HNE e.symm)
           have hne3:vj'.ownBlock ≠ u9.ownBlock:=by
            rcases hob' with e | e
            . rw [e];exact u_ HNE
            . rw [e];intro e2
              have h9:=(hlM _ e2.symm).2
              first | omega | (simp only [World.size_alloc] at h9;omega)
           have hoj3:w3.ownsRow w2.heap.size 3 1 vj' (k*n+(j+1)) (is (k*n+(j+1)) (JF F n)):=by
            rw [<- Nat.add_assoc,qin,u_ HVJ];exact hoj'
           have HOJ3:=h_ hoj3;have HOM3:=h_ hom3;have HNE3:=h_ hne3;have HB3:=h_ hB3
           clear hoj' hgr' hob' hlM hlJ hB3 hom3 hne3 hoj3 HOJ HOM HNE HB HG2
           go_wp2_with (at_builtin;refine wpList_append_own_at _ rfl _ _ 84 rfl w2.heap.size 3 i0 _ 1 8 Tryz.underlying84 hi hz0 hz1 hz2 rfl (by omega) u9 _ _ rfl ((u_ HOM3).alloc _) ⟨w3.heap.size,0,none⟩ 1 1 [.int .i64 vM] rfl rfl (qaf w3 3 _) (by simp [Value.oneCell']) (by unfold maxLen;omega) (by omega) (by have:=(u_ HB3).size;simp;omega) ?_)
           intro vm' w4 hom' hgr' _ hob'
           have hlJ:=(u_ HOJ3).lt
           have hB4:=((u_ HB3).alloc (u_ HB3).size (.cells #[.int .i64 vM] 3)).grown hgr' (by have:=(u_ HB3).size;simp;omega) (fun q' e=>q8y (u_ HOM3) e)
           have hoj4:=((u_ HOJ3).alloc (.cells #[.int .i64 vM] 3)).kept hgr' (.inr (u_ HNE3))
           have hne4:vj'.ownBlock ≠ vm'.ownBlock:=by
            rcases hob' with e | e
            . rw [e];exact u_ HNE3
            . rw [e];intro e2
              have h9:=(hlJ _ e2).2
              first | omega | (simp only [World.size_alloc] at h9;omega)
           have hom4:w4.ownsRow w2.heap.size 3 1 vm' (k*n+(j+1)) (is (k*n+(j+1)) (MF F n)):=by
            rw [<- Nat.add_assoc,qin,u_ HVM];exact hom'
           have HOJ4:=h_ hoj4;have HOM4:=h_ hom4;have HNE4:=h_ hne4;have HB4:=h_ hB4
           clear hom' hgr' hob' hlJ hB4 hoj4 hne4 hom4 HOJ3 HOM3 HNE3 HB3 hi hz0 hz1 hz2
           go_wp2_with fail
           go_roundw
           case rel=>exact ⟨j+1,_,_,by omega,by go_num,rfl,rfl,u_ SJ _ (by first | (rw [decide_eq_true (by omega)];rfl) | (rw [decide_eq_false (by omega)];rfl)),u_ SM _ (by first | (rw [decide_eq_true (by omega)];rfl) | (rw [decide_eq_false (by omega)];rfl)),u_ HOJ4,u_ HOM4,u_ HNE4,u_ HB4⟩
           case measure=>simp [intOf];omega
        . obtain rfl:n=j:=by omega
          clear hB
          go_wp2_with fail
          go_roundw
          case rel=>exact ⟨k+1,bj,bm,by omega,by go_num,rfl,rfl,by rw [Nat.succ_mul];exact u_ HBJ,by rw [Nat.succ_mul];exact u_ HBM,by rw [Nat.succ_mul];exact u_ HOJ,by rw [Nat.succ_mul];exact u_ HOM,u_ HNE,u_ HB⟩
          case measure=>simp [intOf];omega
     . obtain rfl:n=k:=by omega
       clear hlt hk
       replace HR:=mB HR hB;replace HG:=mB HG hB
       have hs2:w.heap.size+1<w2.heap.size:=hRs
       replace HW:=mT HW hB
       have HG3:=h_ (u_ HG).bools
       clear hB HB
       cases bj
       . have HJ:Hid (∀ i,i<n*n->0<=JF F n i):=fun i hi=>by
          apply Classical.byContradiction;intro h
          have:=(u_ HBJ).2 ⟨i,hi,by omega⟩
          cases this
         cases bm
         . have HM:Hid (∀ i,i<n*n->0<=MF F n i):=fun i hi=>by
            apply Classical.byContradiction;intro h
            have:=(u_ HBM).2 ⟨i,hi,by omega⟩
            cases this
           clear HBJ HBM
           obtain ⟨a8,c8,rfl,-⟩:=qim (u_ HOJ)
           obtain ⟨a9,c9,rfl,-⟩:=qim (u_ HOM)
           go_wp2_with fail
           go_loop [16,17,18] (fun bv tv i=>∃ k:Nat,k<=n/\i=.int .i64 k/\bv=.int .i64 (lastN (belowAll F n n) k)/\tv=.int .i64 (lastN (aboveAll F n n) k)) (fun _ _ i=>n - (intOf i).toNat)
           case atStart=>exact ⟨0,nZ _,rfl,rfl,rfl⟩
           case round =>
            obtain ⟨k,hk,rfl,rfl,rfl⟩:=hrel
            by_cases hlt:k<n
            . go_wp2_with fail
              go_loop [19,20,21] (fun bv tv i=>∃ j:Nat,j<=n/\i=.int .i64 j/\bv=.bool (belowAll F n j k)/\tv=.bool (aboveAll F n j k)) (fun _ _ i=>n - (intOf i).toNat)
              case atStart=>exact ⟨0,nZ _,rfl,rfl,rfl⟩
              case round =>
               obtain ⟨j,hj,rfl,rfl,rfl⟩:=hrel
               by_cases hlj:j<n
               . cases e1:F (k*n+j) <;> cases e2:F (j*n+k)
                 all_goals
                  have HS1:=h_ (q25 F n j k);have HS2:=h_ (q24 F n j k)
                  go_wp2_with fail
                  refine (qbo _ _ _ n k j F _ (nR _) hlt hlj h32 (u_ HG3)).mono ?_
                  rintro e w' ⟨rfl,rfl⟩
                  rw [e1]
                  go_wp2_with fail
                  refine (qbo _ _ _ n j k F _ (nR _) hlj hlt h32 (u_ HG3)).mono ?_
                  rintro e w' ⟨rfl,rfl⟩
                  rw [e2]
                  go_wp2_with fail
                  go_round
                  case rel=>exact ⟨j+1,by omega,by go_num,by rw [u_ HS1,e1];simp,by rw [u_ HS2,e2];simp⟩
                  case measure=>simp [intOf];omega
               . obtain rfl:n=j:=by omega
                 have HL1:Hid (lastN (belowAll F n n) (k+1)=if belowAll F n n k then (k:Int) else lastN (belowAll F n n) k):=rfl
                 have HL2:Hid (lastN (aboveAll F n n) (k+1)=if aboveAll F n n k then (k:Int) else lastN (aboveAll F n n) k):=rfl
                 cases e1:belowAll F n n k <;> cases e2:aboveAll F n n k
                 all_goals
                  go_wp2_with fail
                  go_round
                  case rel=>exact ⟨k+1,by omega,by go_num,by rw [u_ HL1,e1];rfl,by rw [u_ HL2,e2];rfl⟩
                  case measure=>simp [intOf];omega
            . obtain rfl:n=k:=by omega
              obtain ⟨bt,hbt⟩:∃ bt,lastN (belowAll F n n) n=bt:=⟨_,rfl⟩
              obtain ⟨tp,htp⟩:∃ tp,lastN (aboveAll F n n) n=tp:=⟨_,rfl⟩
              rw [hbt,htp]
              have HBT:=h_ (And.intro hbt htp);clear hbt htp
              obtain ⟨⟨r0,r1,r2,r3,r4,r5⟩,⟨f0,f1,f2,f3,f4,f5⟩⟩:=six' (u_ HR)
              have hRb:w.heap.size+1<w2.heap.size:=hs2
              have hj6:=ownsRow_setCell_below (ownsRow_setCell_below (ownsRow_setCell_below (ownsRow_setCell_below (ownsRow_setCell_below (ownsRow_setCell_below (u_ HOJ) (a:=⟨w.heap.size+1,0,none⟩) hRb (.int .i64 n)) (a:=⟨w.heap.size+1,1,none⟩) hRb (.slice (some ⟨G,0,none⟩) (n*n) (n*n))) (a:=⟨w.heap.size+1,2,none⟩) hRb (.slice a8 (n*n) c8)) (a:=⟨w.heap.size+1,3,none⟩) hRb (.slice a9 (n*n) c9)) (a:=⟨w.heap.size+1,4,none⟩) hRb (.int .i64 bt)) (a:=⟨w.heap.size+1,5,none⟩) hRb (.int .i64 tp)
              have hm6:=ownsRow_setCell_below (ownsRow_setCell_below (ownsRow_setCell_below (ownsRow_setCell_below (ownsRow_setCell_below (ownsRow_setCell_below (u_ HOM) (a:=⟨w.heap.size+1,0,none⟩) hRb (.int .i64 n)) (a:=⟨w.heap.size+1,1,none⟩) hRb (.slice (some ⟨G,0,none⟩) (n*n) (n*n))) (a:=⟨w.heap.size+1,2,none⟩) hRb (.slice a8 (n*n) c8)) (a:=⟨w.heap.size+1,3,none⟩) hRb (.slice a9 (n*n) c9)) (a:=⟨w.heap.size+1,4,none⟩) hRb (.int .i64 bt)) (a:=⟨w.heap.size+1,5,none⟩) hRb (.int .i64 tp)
              have hg6:=(((((((u_ HG).other (a:=⟨w.heap.size+1,0,none⟩) (.int .i64 n) hGR).other (a:=⟨w.heap.size+1,1,none⟩) (.slice (some ⟨G,0,none⟩) (n*n) (n*n)) hGR).other (a:=⟨w.heap.size+1,2,none⟩) (.slice a8 (n*n) c8) hGR).other (a:=⟨w.heap.size+1,3,none⟩) (.slice a9 (n*n) c9) hGR).other (a:=⟨w.heap.size+1,4,none⟩) (.int .i64 bt) hGR).other (a:=⟨w.heap.size+1,5,none⟩) (.int .i64 tp) hGR)
              have HZ:=h_ (q78 (u_ HW) (Nat.le_succ _) (.int .i64 n) (.slice (some ⟨G,0,none⟩) (n*n) (n*n)) (.slice a8 (n*n) c8) (.slice a9 (n*n) c9) (.int .i64 bt) (.int .i64 tp))
              have HJ6:=h_ hj6;have HM6:=h_ hm6;have HG6:=h_ hg6
              clear hj6 hm6 hg6 HOJ HOM HG HG3 HW
              go_wp2
              refine bodyPost_ret (v:=.tuple #[.agg #[.int .i64 n,.slice (some ⟨G,0,none⟩) (n*n) (n*n),.slice a8 (n*n) c8,.slice a9 (n*n) c9,.int .i64 bt,.int .i64 tp],.int .i64 0]) (by simp [results,Tryz.results67,go_sem, *]) rfl ⟨.inr (.inr (.inr ⟨u_ HN2,u_ HJ,u_ HM,some ⟨G,0,none⟩,a8,a9,n*n,c8,c9,by rw [(u_ HBT).1,(u_ HBT).2],(u_ HG6).bools,?_,?_⟩)),u_ HZ⟩
              . obtain ⟨x1,x2,e,h⟩:=qim (u_ HJ6)
                cases e
                exact h
              . obtain ⟨x1,x2,e,h⟩:=qim (u_ HM6)
                cases e
                exact h
         . have HM:Hid (∃ i,i<n*n/\MF F n i<0):=(u_ HBM).1 rfl
           obtain ⟨⟨r0,r1,r2,r3,r4,r5⟩,⟨f0,f1,f2,f3,f4,f5⟩⟩:=six' (u_ HR)
           have HZ:=h_ (q78 (u_ HW) (Nat.le_succ _) (.int .i64 0) (.slice none 0 0) (.slice none 0 0) (.slice none 0 0) (.int .i64 0) (.int .i64 0))
           go_wp2
           refine bodyPost_ret (v:=.tuple #[zeroL,.int .i64 4]) (by simp [results,Tryz.results67,go_sem,zeroL, *]) rfl ⟨?_,u_ HZ⟩
           exact .inr (.inr (.inl ⟨u_ HN2,u_ HJ,u_ HM,rfl⟩))
       . have HJ:Hid (∃ i,i<n*n/\JF F n i<0):=(u_ HBJ).1 rfl
         obtain ⟨⟨r0,r1,r2,r3,r4,r5⟩,⟨f0,f1,f2,f3,f4,f5⟩⟩:=six' (u_ HR)
         have HZ:=h_ (q78 (u_ HW) (Nat.le_succ _) (.int .i64 0) (.slice none 0 0) (.slice none 0 0) (.slice none 0 0) (.int .i64 0) (.int .i64 0))
         go_wp2
         refine bodyPost_ret (v:=.tuple #[zeroL,.int .i64 3]) (by simp [results,Tryz.results67,go_sem,zeroL, *]) rfl ⟨?_,u_ HZ⟩
         exact .inr (.inl ⟨u_ HN2,u_ HJ,rfl⟩)
end Go.Proofs.YtgkcaeidhkddjaaGreatDoor
namespace Go.Proofs.YtgkcaeidhkddjaaGreatDoor
open Go Go.RowKit Go.Shelf
attribute [local go_sem] Oper.semAt_some
def IsReach (g':Nat->Nat) (P:Nat->Nat->Prop):Prop:=∀ a,a<32->g' a<4294967296/\∀ b,((g' a).testBit b=true ↔ P a b)
theorem IsReach.congr {g':Nat->Nat} {P Q:Nat->Nat->Prop} (h:IsReach g' P) (hPQ:∀ a b,P a b ↔ Q a b):IsReach g' Q:=fun a ha=>⟨(h a ha).1,fun b=>((h a ha).2 b).trans (hPQ a b)⟩
theorem qai {g'':Nat->Nat} {P:Nat->Nat->Prop} {k x:Nat} {pre:List Nat} (h:IsReach g'' (fun a b=>P a b ∨ (a=k/\b ∈ pre))) (hk:k<32) (hx:x<32) :
 IsReach (fun j=>if j=k then g'' k ||| 2 ^ x else g'' j) (fun a b=>P a b ∨ (a=k/\b ∈ pre++[x])):=fun a ha=>by
 by_cases e:a=k
 . subst e
   simp only [if_true]
   refine ⟨or_lt (h a ha).1 (two_lt hx),fun b=>?_⟩
   rw [Nat.testBit_or,Bool.or_eq_true,(h a ha).2 b,Nat.testBit_two_pow,decide_eq_true_iff,List.mem_append,List.mem_singleton]
   constructor
   . rintro ((h1 | h1) | h1)
     . exact .inl h1
     . exact .inr ⟨by simp,.inl h1.2⟩
     . exact .inr ⟨by simp,.inr h1.symm⟩
   . rintro (h1 | ⟨-,h1 | h1⟩)
     . exact .inl (.inl h1)
     . exact .inl (.inr ⟨by simp,h1⟩)
     . exact .inr h1.symm
 . simp only [if_neg e]
   refine ⟨(h a ha).1,fun b=>?_⟩
   rw [(h a ha).2 b];simp [e]
theorem q7d {g'' g:Nat->Nat} {k:Nat} {xs:List Nat} (h:IsReach g'' (fun a b=>(a<k/\Reach g a b) ∨ (a=k/\b ∈ xs))) (hx:∀ i,i ∈ xs ↔ Reach g k i):IsReach g'' (fun a b=>a<k+1/\Reach g a b) :=
 h.congr fun a b=>by
  constructor
  . rintro (⟨h1,h2⟩ | ⟨rfl,h2⟩)
    . exact ⟨by omega,h2⟩
    . exact ⟨by omega,(hx b).1 h2⟩
  . rintro ⟨h1,h2⟩
    by_cases e:a=k
    . subst e;exact .inr ⟨rfl,(hx b).2 h2⟩
    . exact .inl ⟨by omega,h2⟩
theorem qaj (m:Nat) (g:Nat->Nat) (n:Nat) (w:World) (hn:n<=32) (hg:∀ a,a<32->g a<4294967296) (ht:Tab w) :
 CallsIn Fence.wide m Tryz.prog 140 #[.agg (us g).toArray,.int .i64 n] w fun e w'=>∃ g',e=.returned (.agg (us g').toArray)/\IsReach g' (fun a b=>a<n/\Reach g a b)/\Below w.heap.size w w':=by
 refine callsIn_of_wp_marks Tryz.func140 rfl trivial ?_ rfl
 simp only [Tryz.ntmps140,List.size_toArray,List.length_cons,List.length_nil,Nat.reduceAdd,Nat.reduceSub,Array.replicate_succ,Array.replicate_zero,List.push_toArray,List.append_toArray,List.nil_append,List.cons_append]
 gi_wp2_with (refine q02 rfl _ _ rfl (w.heap.size+1+1) (fun _=>0) (fun _=>0) rfl rfl (blk3 _ _ _ _ _ rfl) ?_;intro w1 hb1 hg1 hs1;have hA:=(blk1 _ _ _ _ _).grown hg1 (by simp;omega);have hR:=(blk2 _ _ _ _ (fun _=>0) rfl).grown hg1 (by simp);have hB:=(below3 _ _ _ _).trans ((bR w.heap.size _).grown hg1 (by simp;omega) (fun k e=>by cases e;omega));replace hA:=h_ hA;replace hR:=h_ hR;replace hB:=h_ hB;replace hb1:=h_ hb1;clear hg1 hs1)
 refine wpIn_loop (fun a W=>∃ (k:Nat) (g':Nat->Nat) (Ds:List Nat) (u6 u7 u8 u11 u12 u13 u14 u15 u16 u17 u18 u19 u20 u21 u22 u23 u24 u25 u26:Value),a = { tmps:=#[.agg (us g).toArray,.int .i64 (n:Int),.pointer (some ⟨w.heap.size,0,none⟩),undef,.pointer (some ⟨w.heap.size+1,0,none⟩),.pointer (some ⟨w.heap.size+1+1,0,none⟩),u6,u7,u8,.int .i64 (n:Int),.int .i64 (k:Int),u11,u12,u13,u14,u15,u16,u17,u18,u19,u20,u21,u22,u23,u24,u25,u26],defers:=marks Ds }/\k<=n/\IsReach g' (fun a b=>a<k/\Reach g a b)/\Blk W (w.heap.size+1+1) 221 (us g')/\Blk W w.heap.size 221 (us g)/\Blk W (w.heap.size+1) 221 (us fun _=>0)/\Tab W/\Below w.heap.size w W/\Shut w.heap.size W Ds) (fun a _=>n - (intOf (a.tmps.getD 10 undef)).toNat) ?_ ?_
 . refine ⟨0,fun _=>0,[],_,_,_,_,_,_,_,_,_,_,_,_,_,_,_,_,_,_,_,rfl,nZ _,fun a _=>⟨by simp,fun b=>by simp⟩,u_ hb1,u_ hA,u_ hR,ht.mono (u_ hB),u_ hB,Shut.nil _ _⟩
 . clear hb1 hA hR hB
   rintro a W ⟨k,g',Ds,u6,u7,u8,u11,u12,u13,u14,u15,u16,u17,u18,u19,u20,u21,u22,u23,u24,u25,u26,rfl,hk,hrel,hO,hS,hRes,hT,hB,hSh⟩
   by_cases hlt:k<n
   . have dk:decide ((k:Int)<n)=true:=by simp;omega
     have k32:k<32:=by omega
     have sS:=hS.lt
     have HREL:=h_ hrel;have HO:=h_ hO;have HS:=h_ hS;have HRES:=h_ hRes;have HT:=h_ hT;have HB:=h_ hB;have HSH:=h_ hSh
     clear hrel hO hS hRes hT hB hSh
     gi_wp2_with (refine q06 rfl _ rfl w.heap.size g rfl ((u_ HS).alloc _) ?_)
     refine callW ((qa2 _ _ _).mono ?_)
     rintro e w2 ⟨rfl,rfl⟩
     gi_wp2_with fail
     have bA:=((Blk.new W 3 #[.int .i64 (k:Int)]).alloc (.cells (us g).toArray 221)).alloc (.cells #[.int .i64 (k:Int)] 3)
     have bG:=(Blk.new (W.alloc (.cells #[.int .i64 (k:Int)] 3)) 221 (us g).toArray).alloc (.cells #[.int .i64 (k:Int)] 3)
     have bK:=Blk.new ((W.alloc (.cells #[.int .i64 (k:Int)] 3)).alloc (.cells (us g).toArray 221)) 3 #[.int .i64 (k:Int)]
     have bW:=below3 W (.cells #[.int .i64 (k:Int)] 3) (.cells (us g).toArray 221) (.cells #[.int .i64 (k:Int)] 3)
     have z5:(((W.alloc (.cells #[.int .i64 (k:Int)] 3)).alloc (.cells (us g).toArray 221)).alloc (.cells #[.int .i64 (k:Int)] 3)).heap.size=W.heap.size+1+1+1:=by simp
     simp only [World.size_alloc] at bG bK
     obtain ⟨W5,hW5⟩:∃ W5,((W.alloc (.cells #[.int .i64 (k:Int)] 3)).alloc (.cells (us g).toArray 221)).alloc (.cells #[.int .i64 (k:Int)] 3)=W5:=⟨_,rfl⟩
     rw [hW5] at bA bG bK bW z5 ⊢
     clear hW5
     have lO:=(u_ HO).lt
     have ltD:=(u_ HSH).lt
     have w0:=(u_ HT).pos
     have nX:¬ (3=w.heap.size+1+1):=by have:=ht.pos;omega
     refine qcj (gf:=208) (lb:=#[.pointer (some ⟨W.heap.size+1+1,0,none⟩),.pointer (some ⟨W.heap.size+1,0,none⟩)]) rfl (enters_of Tryz.func208 (by kernel_rfl) rfl)
      (q4p (W.heap.size+1+1) (W.heap.size+1) k g W5 (fun j=>j=w.heap.size+1+1) k32 hg bK bG ((u_ HT).mono bW) (by omega) nX) (bR _ _) (fun j hj=>by omega) rfl
      (fun pre W'=>∃ g'',IsReach g'' (fun a b=>(a<k/\Reach g a b) ∨ (a=k/\b ∈ pre))/\Blk W' (w.heap.size+1+1) 221 (us g'')/\Blk W' w.heap.size 221 (us g)/\Blk W' (w.heap.size+1) 221 (us fun _=>0)/\Blk W' W.heap.size 3 [.int .i64 (k:Int)]/\Tab W'/\Below w.heap.size w W'/\Shut w.heap.size W' Ds)
      (fun _ _=>False) ?hI (fun _ _ _ h _=>h)
      ⟨g',(u_ HREL).congr fun a b=>by simp,(u_ HO).mono bW lO,(u_ HS).mono bW sS,(u_ HRES).mono bW (u_ HRES).lt,bA,(u_ HT).mono bW,(u_ HB).trans (bW.mono (u_ HB).size),(u_ HSH).below bW ltD⟩
      (fun x=>{ tmps:=#[.agg (us g).toArray,.int .i64 (n:Int),.pointer (some ⟨w.heap.size,0,none⟩),undef,.pointer (some ⟨w.heap.size+1,0,none⟩),.pointer (some ⟨w.heap.size+1+1,0,none⟩),.pointer (some ⟨W.heap.size,0,none⟩),.int .i64 (x:Int),u8,.int .i64 (n:Int),.int .i64 (k:Int),.bool true,.int .i64 (k:Int),.agg (us g).toArray,.int .i64 (k:Int),.func (.func 208) #[] #[.pointer (some ⟨W.heap.size+1+1,0,none⟩),.pointer (some ⟨W.heap.size+1,0,none⟩)],.int .i64 (x:Int),u17,u18,u19,u20,u21,u22,u23,u24,u25,u26],defers:=[] })
      ?assign ?body ?done (fun _ _ _ _ _ h _=>h.elim)
     case hI =>
      rintro pre W1 W2 ⟨g'',h1,h2,h3,h4,h5,h6,h7,h8⟩ hb
      rw [z5] at hb
      exact ⟨g'',h1,h2.mono hb (by omega),h3.mono hb (by omega),h4.mono hb (by omega),h5.mono hb (by omega),h6.at0 (hb.block 3 (by omega)),h7.trans (hb.mono (by omega)),h8.below hb (fun D hD=>by have:=ltD D hD;omega)⟩
     case assign =>
      intro m l x W' K hK
      gi_wp2
      exact hK
     case body =>
      rintro m l pre x W' ⟨g'',h1,h2,h3,h4,h5,h6,h7,h8⟩ x32
      have hmix:Tryz.prog.follows .mixedOrders=true:=by kernel_rfl
      have cO:=h2.cell k
      rw [us_get g'' k32] at cO
      have fO:=h2.free k
      have sO:=h2.lt
      have cA:=h5.cell 0
      simp only [List.getElem?_cons_zero] at cA
      have gx:=(h1 k k32).1
      have k2:=two_lt x32
      have K4:=fun o1 o2 o3 o4=>(h2.cell4 k o1 o2 o3 o4).trans (us_get g'' k32)
      have F4:=h2.free4 k
      have K1':∀ o,(W'.alloc o).cell? ⟨w.heap.size+1+1,k,none⟩=some (.int .u32 (g'' k:Int)):=fun o=>((h2.alloc o).cell k).trans (us_get g'' k32)
      have K1A:∀ o,(W'.alloc o).cell? ⟨W.heap.size,0,none⟩=some (.int .i64 (k:Int)):=fun o=>(h5.alloc o).cell 0
      have K4A:=h5.cell4 0
      simp only [List.getElem?_cons_zero] at K4A
      have x0i:(0:Int)<=k:=by omega
      have x1i:(k:Int)<32:=by omega
      have H1:=h_ h1;have H2:=h_ h2;have H3:=h_ h3;have H4:=h_ h4;have H5:=h_ h5;have H6:=h_ h6;have H7:=h_ h7;have H8:=h_ h8
      clear h1 h2 h3 h4 h5 h6 h7 h8
      gi_wp2_with fail
      gi_region_with_o (first | (refine callR ((qjl _ _ x32).mono ?_);rintro e w' ⟨rfl,rfl⟩) | (refine callR ((qdg _ _ _ gx k2).mono ?_);rintro e w' ⟨rfl,rfl⟩))
      all_goals
       gi_wp2_with fail
       have hst:=qfr (u_ H2) k32 (g'' k ||| 2 ^ x) (.cells #[.int .u32 ((2 ^ x:Nat):Int)] 137) (.cells #[.int .u32 (g'' k:Int)] 137) (.cells #[.int .u32 ((2 ^ x:Nat):Int)] 137) (.cells #[.int .u32 ((g'' k ||| 2 ^ x:Nat):Int)] 137)
       simp only [Int.natCast_pow,Int.cast_ofNat_Int] at hst
       obtain ⟨s1,s2,s3,s4⟩:=hst
       exact ⟨s1,s2,_,qai (u_ H1) k32 x32,s3,s2.blk (u_ H3) (by omega),s2.blk (u_ H4) (by omega),s2.blk (u_ H5) (by omega),(u_ H6).keep s2 nX,(u_ H7).trans (s4 _ (by omega) sO),(u_ H8).keep s1⟩
     case done =>
      rintro D xs W' hD hS' ⟨g'',h1,h2,h3,h4,h5,h6,h7,h8⟩ hK
      have HX:Hid (IsReach g'' (fun a b=>a<k+1/\Reach g a b)):=q7d h1 hS'
      have HSH':Hid (Shut w.heap.size W' (D :: Ds)):=h8.cons (by have:=(u_ HB).size;omega) hK (fun hm=>by have:=ltD D hm;omega)
      have H2:=h_ h2;have H3:=h_ h3;have H4:=h_ h4;have H6:=h_ h6;have H7:=h_ h7
      clear h1 h2 h3 h4 h5 h6 h7 h8 hK hS'
      gi_wp2_with fail
      refine ⟨⟨k+1,g'',D :: Ds,⟨by omega,rfl⟩,by omega,u_ HX,u_ H2,u_ H3,u_ H4,u_ H6,u_ H7,u_ HSH'⟩,?_⟩
      simp [intOf];omega
   . obtain rfl:k=n:=by omega
     have dk:decide ((k:Int)<k)=false:=by simp
     have HREL:=h_ hrel;have HO:=h_ hO;have HRES:=h_ hRes;have HB:=h_ hB;have HSH:=h_ hSh
     have sR:=hRes.lt
     clear hrel hO hS hRes hT hB hSh
     gi_wp2_with (first | (refine q06 rfl _ rfl (w.heap.size+1+1) g' rfl (u_ HO) ?_) | (refine q02 rfl _ _ rfl (w.heap.size+1) (fun _=>0) g' rfl rfl (u_ HRES) ?_;intro w2 hb2 hg2 hs2;replace hb2:=h_ hb2;replace hg2:=h_ hg2))
     refine q42 (B:=w.heap.size) Ds w2 ((u_ HSH).keep ⟨by omega,fun j o hj ho=>?_⟩) fun W' hk' hb'=>?_
     . refine ((u_ hg2).block j (Array.getElem?_eq_some_iff.1 hj).1 (fun e=>?_)).trans hj
       cases e
       rw [show W.heap[w.heap.size+1]? = _ from u_ HRES] at hj
       cases hj;simp [Obj.isCells] at ho
     . refine ⟨.agg (us g').toArray,results_cell_row rfl _ _ (w.heap.size+1) 221 (us g').toArray (0,0) _ rfl (hk'.blk (u_ hb2) (fun h=>h)) Tryz.underlying221 rfl (qkh g'),g',rfl,u_ HREL,?_⟩
       exact ((u_ HB).trans ((bR w.heap.size _).grown (u_ hg2) (u_ HB).size (fun j e=>by cases e;omega))).trans hb'
theorem q7e (g:Nat->Nat) (n:Nat) (w:World) (hn:n<=32) (hg:∀ a,a<32->g a<4294967296) (ht:Tab w) :
 Calls Tryz.prog 140 #[.agg (us g).toArray,.int .i64 n] w fun e w'=>∃ g',e=.returned (.agg (us g').toArray)/\IsReach g' (fun a b=>a<n/\Reach g a b)/\Below w.heap.size w w' :=
 (callsIn_wide (n:=9)).1 (qaj 9 g n w hn hg ht)
end Go.Proofs.YtgkcaeidhkddjaaGreatDoor
namespace Go.Proofs.YtgkcaeidhkddjaaGreatDoor
open Go Go.RowKit
theorem q8j {n B R j:Nat} {g d:Nat->Nat} {Rl:Nat->Nat->Bool} {e:Ending} {w':World} (h:LatOut n g d Rl B e w') (hR:R<B) (v:Value):LatOut n g d Rl B e (w'.setCell ⟨R,j,none⟩ v):=by
 rcases h with h | h | h | ⟨h1,G1,G2,G3,F1,F2,bot,top,he,b1,b2,b3,x1,x2,x3,h2⟩
 . exact .inl h
 . exact .inr (.inl h)
 . exact .inr (.inr (.inl h))
 . exact .inr (.inr (.inr ⟨h1,G1,G2,G3,F1,F2,bot,top,he,b1.other v (by simp;omega),b2.other v (by simp;omega),b3.other v (by simp;omega),x1,x2,x3,h2⟩))
theorem q41 {n B:Nat} {g d:Nat->Nat} {Rl:Nat->Nat->Bool} {e:Ending} {w':World} (h:LatOut n g d Rl B e w'):∃ (l0:Int) (a1 a2 a3:Option Addr) (n1 n2 n3 c1 c2 c3:Nat) (l4 l5 code:Int),e=.returned (.tuple #[.agg #[.int .i64 l0,.slice a1 n1 c1,.slice a2 n2 c2,.slice a3 n3 c3,.int .i64 l4,.int .i64 l5],.int .i64 code]):=by
 rcases h with ⟨-,he⟩ | ⟨-,-,he⟩ | ⟨-,-,-,he⟩ | ⟨-,G1,G2,G3,F1,F2,bot,top,he,-⟩
 . exact ⟨0,none,none,none,0,0,0,0,0,0,0,0,2,he⟩
 . exact ⟨0,none,none,none,0,0,0,0,0,0,0,0,3,he⟩
 . exact ⟨0,none,none,none,0,0,0,0,0,0,0,0,4,he⟩
 . exact ⟨n,_,_,_,_,_,_,_,_,_,bot,top,0,he⟩
theorem q5u {n B B':Nat} {g d:Nat->Nat} {Rl:Nat->Nat->Bool} {e:Ending} {w':World} (h:LatOut n g d Rl B e w') (hB:B'<=B):LatOut n g d Rl B' e w':=by
 rcases h with h | h | h | ⟨h1,G1,G2,G3,F1,F2,bot,top,he,b1,b2,b3,x1,x2,x3,h2⟩
 . exact .inl h
 . exact .inr (.inl h)
 . exact .inr (.inr (.inl h))
 . exact .inr (.inr (.inr ⟨h1,G1,G2,G3,F1,F2,bot,top,he,b1,b2,b3,by omega,by omega,by omega,h2⟩))
def TwoO (w':World) (A:Nat) (v0 v1:Value):Prop:=w'.cell? ⟨A,0,none⟩=some v0/\w'.cell? ⟨A,1,none⟩=some v1
theorem q2b (N:Int) (a:Option Addr) (m c:Nat) (w:World) (hc:∀ w',Below w.heap.size w w'->Calls Tryz.prog 137 #[.agg #[.int .i64 N,.slice a m c]] w' fun e w''=>e=.returned (.bool false)/\Below w'.heap.size w' w'') :
 Calls Tryz.prog 114 #[.agg #[.int .i64 N,.slice a m c]] w fun e w'=>e=.returned (.tuple #[zeroL,.int .i64 1])/\Below w.heap.size w w':=by
 have HR:=h_ (by simpa using Blk.new (w.alloc (.cells #[.int .i64 N,.slice a m c] 100)) 114 #[.int .i64 0,.slice none 0 0,.slice none 0 0,.slice none 0 0,.int .i64 0,.int .i64 0]:Blk ((w.alloc (.cells #[.int .i64 N,.slice a m c] 100)).alloc (.cells #[.int .i64 0,.slice none 0 0,.slice none 0 0,.slice none 0 0,.int .i64 0,.int .i64 0] 114)) (w.heap.size+1) 114 [.int .i64 0,.slice none 0 0,.slice none 0 0,.slice none 0 0,.int .i64 0,.int .i64 0])
 have H0:=h_ ((Blk.new w 100 #[.int .i64 N,.slice a m c]).alloc (.cells #[.int .i64 0,.slice none 0 0,.slice none 0 0,.slice none 0 0,.int .i64 0,.int .i64 0] 114))
 have HW:Hid (Below w.heap.size w ((w.alloc (.cells #[.int .i64 N,.slice a m c] 100)).alloc (.cells #[.int .i64 0,.slice none 0 0,.slice none 0 0,.slice none 0 0,.int .i64 0,.int .i64 0] 114))):=((bR _ w).alloc (nR _) _).alloc (by simp) _
 go_enter Tryz.func114,Tryz.ntmps114
 go_wp2_with fail
 refine (hc _ (u_ HW)).mono ?_
 rintro e w1 ⟨rfl,hb⟩
 replace HR:=mB HR hb;replace H0:=mB H0 hb;replace HW:=mT HW hb
 clear hb
 obtain ⟨⟨r0,r1,r2,r3,r4,r5⟩,⟨f0,f1,f2,f3,f4,f5⟩⟩:=six' (u_ HR)
 have HZ:=h_ (q78 (u_ HW) (Nat.le_succ _) (.int .i64 0) (.slice none 0 0) (.slice none 0 0) (.slice none 0 0) (.int .i64 0) (.int .i64 0))
 go_wp2
 exact bodyPost_ret (v:=.tuple #[zeroL,.int .i64 1]) (by simp [results,Tryz.results114,go_sem,zeroL, *]) rfl ⟨rfl,u_ HZ⟩
theorem q3p (n:Nat) (a:Option Addr) (m c:Nat) (f g:Nat->Nat) (w:World) (h1:1<=n) (h32:n<=32) (hm:m<=256) (ha:Pairs w a m (fun k=>(f k:Int)) (fun k=>(g k:Int))) (hf:∀ k,k<m->f k<n) (hg:∀ k,k<m->g k<n) (ht:Tab w) :
 Calls Tryz.prog 114 #[.agg #[.int .i64 n,.slice a m c]] w fun e w'=>Below w.heap.size w w'/\∃ u q d Rl,IsRel u (pb f g m)/\IsReach q (fun a b=>a<n/\Reach u a b)/\IsRel q Rl/\IsRel d (fun b a=>decide (a<n)&&Rl a b)/\LatOut n q d Rl w.heap.size e w':=by
 have HR:=h_ (by simpa using Blk.new (w.alloc (.cells #[.int .i64 n,.slice a m c] 100)) 114 #[.int .i64 0,.slice none 0 0,.slice none 0 0,.slice none 0 0,.int .i64 0,.int .i64 0]:Blk ((w.alloc (.cells #[.int .i64 n,.slice a m c] 100)).alloc (.cells #[.int .i64 0,.slice none 0 0,.slice none 0 0,.slice none 0 0,.int .i64 0,.int .i64 0] 114)) (w.heap.size+1) 114 [.int .i64 0,.slice none 0 0,.slice none 0 0,.slice none 0 0,.int .i64 0,.int .i64 0])
 have H0:=h_ ((Blk.new w 100 #[.int .i64 n,.slice a m c]).alloc (.cells #[.int .i64 0,.slice none 0 0,.slice none 0 0,.slice none 0 0,.int .i64 0,.int .i64 0] 114))
 have HW:Hid (Below w.heap.size w ((w.alloc (.cells #[.int .i64 n,.slice a m c] 100)).alloc (.cells #[.int .i64 0,.slice none 0 0,.slice none 0 0,.slice none 0 0,.int .i64 0,.int .i64 0] 114))):=((bR _ w).alloc (nR _) _).alloc (by simp) _
 go_enter Tryz.func114,Tryz.ntmps114
 go_wp2_with fail
 refine (q31 n a m c _ _ _ (by omega) (by omega) hm (ha.mono (u_ HW)) true ⟨fun _ k hk=>by have:=hf k hk;have:=hg k hk;omega,fun _=>rfl⟩).mono ?_
 rintro e W ⟨rfl,hb⟩
 replace HR:=mB HR hb;replace H0:=mB H0 hb;replace HW:=mT HW hb
 clear hb
 have S0:TwoO W w.heap.size (.int .i64 n) (.slice a m c):=⟨(u_ H0).cell 0,(u_ H0).cell 1⟩
 have HS0:=h_ S0;clear S0
 go_wp2_with fail
 refine wp_region_held_drew (S:=fun w'=>TwoO w' w.heap.size (.int .i64 n) (.slice a m c)) (by kernel_rfl) (u_ HS0) (fun zz=>?_)
 refine tk 0 8 (.pointer (some ⟨w.heap.size,0,none⟩)) zz ?_ (hy:=fun w hS=>by obtain ⟨q0,q1⟩:=hS;simp [execOp,go_sem, *])
 refine tk 1 9 (.int .i64 n) zz ?_ (hy:=fun w hS=>by obtain ⟨q0,q1⟩:=hS;simp [execOp,go_sem, *])
 refine tk 2 10 (.agg #[.int .i64 n,.slice a m c]) zz ?_ (hy:=fun w hS=>by obtain ⟨q0,q1⟩:=hS;simp [execOp,go_sem, *])
 refine tk 4 12 (.pointer (some ⟨w.heap.size,0,none⟩)) zz ?_ (hy:=fun w hS=>by obtain ⟨q0,q1⟩:=hS;simp [execOp,go_sem, *])
 simp only [sX,sY,sZ]
 refine tk 5 13 (.int .i64 n) zz ?_ (hy:=fun w hS=>by obtain ⟨q0,q1⟩:=hS;simp [execOp,go_sem, *])
 simp only [sX,sY,sZ]
 refine callY (i:=3) (f:=139) (args:=#[.agg #[.int .i64 n,.slice a m c]]) (R:=fun v wz=>∃ u,v=.agg (us u).toArray/\IsRel u (pb f g m)/\Below W.heap.size W wz) 11 rfl rfl (by rfl) (by kernel_rfl) ?hrun1 ((q0a n a m c f g _ h32 hm (ha.mono ((u_ HW).trans ((q38 W 1).mono (u_ HW).size))) hf hg).mono fun e w6 ⟨u,he,hu,hb⟩=>⟨_,he,u,rfl,hu,q26 hb⟩) ?_
 case hrun1=>simp [execOp,go_sem]
 rintro v w5 ⟨u,rfl,hu,hb⟩
 replace HR:=mB HR hb;replace H0:=mB H0 hb;replace HW:=mT HW hb
 clear hb zz
 refine ⟨⟨(u_ H0).cell 0,(u_ H0).cell 1⟩,?_⟩
 simp only [sX,sY,sZ]
 refine callY (i:=6) (f:=140) (args:=#[.agg (us u).toArray,.int .i64 n]) (R:=fun v wz=>∃ q,v=.agg (us q).toArray/\IsReach q (fun a b=>a<n/\Reach u a b)/\Below w5.heap.size w5 wz) 14 rfl rfl (by rfl) (by kernel_rfl) ?hrun2 ((q7e u n w5 h32 (fun a ha=>(hu a ha).1) (ht.mono (u_ HW))).mono fun e w6 ⟨q,he,hq,hb⟩=>⟨_,he,q,rfl,hq,hb⟩) ?_
 case hrun2=>simp [execOp,go_sem]
 rintro v w6 ⟨q,rfl,hq,hb⟩
 replace HR:=mB HR hb;replace H0:=mB H0 hb;replace HW:=mT HW hb
 clear hb
 refine ⟨⟨(u_ H0).cell 0,(u_ H0).cell 1⟩,?_⟩
 simp only [sX,sY,sZ]
 have hqr:IsRel q (fun a b=>(q a).testBit b):=fun a ha=>⟨(hq a ha).1,fun b=>rfl⟩
 refine callY (i:=7) (f:=138) (args:=#[.int .i64 n,.agg (us q).toArray]) (R:=fun v wz=>Below w6.heap.size w6 wz/\∃ d,IsRel d (fun b a=>decide (a<n)&&(q a).testBit b)/\LatOut n q d (fun a b=>(q a).testBit b) w6.heap.size (.returned v) wz) 15 rfl rfl (by rfl) (by kernel_rfl) ?hrun3 ((q2n n q (fun a b=>(q a).testBit b) w6 h1 h32 hqr (ht.mono (u_ HW))).mono fun e w7 ⟨hb,d,hd,hL⟩=>?_) ?_
 case hrun3=>simp [execOp,go_sem]
 . obtain ⟨l0,a1,a2,a3,n1,n2,n3,c1,c2,c3,l4,l5,code,rfl⟩:=q41 hL
   exact ⟨_,rfl,hb,d,hd,hL⟩
 rintro v w7 ⟨hb,d,hd,hL⟩
 have hRB:w.heap.size+1<w6.heap.size:=(u_ HR).lt
 replace HR:=mB HR hb;replace H0:=mB H0 hb;replace HW:=mT HW hb
 have hWs:=(u_ HW).size
 have hB6:w.heap.size<=w6.heap.size:=by omega
 clear hb
 obtain ⟨l0,a1,a2,a3,n1,n2,n3,c1,c2,c3,l4,l5,code,hv⟩:=q41 hL
 simp only [Ending.returned.injEq] at hv
 subst hv
 refine ⟨⟨(u_ H0).cell 0,(u_ H0).cell 1⟩,?_⟩
 simp only [sX,sY,sZ]
 have zz:TwoO w7 w.heap.size (.int .i64 n) (.slice a m c):=⟨(u_ H0).cell 0,(u_ H0).cell 1⟩
 refine tk 8 16 (.agg #[.int .i64 l0,.slice a1 n1 c1,.slice a2 n2 c2,.slice a3 n3 c3,.int .i64 l4,.int .i64 l5]) zz ?_ (hy:=fun w hS=>by obtain ⟨q0,q1⟩:=hS;simp [execOp,go_sem, *])
 refine tk 9 17 (.int .i64 code) zz ?_ (hy:=fun w hS=>by obtain ⟨q0,q1⟩:=hS;simp [execOp,go_sem, *])
 simp only [sX,sY,sZ]
 obtain ⟨⟨r0,r1,r2,r3,r4,r5⟩,⟨f0,f1,f2,f3,f4,f5⟩⟩:=six' (u_ HR)
 have A9:=(((((((u_ H0).other (a:=⟨w.heap.size+1,0,none⟩) (.int .i64 l0) (by simp)).other (a:=⟨w.heap.size+1,1,none⟩) (.slice a1 n1 c1) (by simp)).other (a:=⟨w.heap.size+1,2,none⟩) (.slice a2 n2 c2) (by simp)).other (a:=⟨w.heap.size+1,3,none⟩) (.slice a3 n3 c3) (by simp)).other (a:=⟨w.heap.size+1,4,none⟩) (.int .i64 l4) (by simp)).other (a:=⟨w.heap.size+1,5,none⟩) (.int .i64 l5) (by simp))
 have R9:=(((((((u_ HR).set 0 (.int .i64 l0)).set 1 (.slice a1 n1 c1)).set 2 (.slice a2 n2 c2)).set 3 (.slice a3 n3 c3)).set 4 (.int .i64 l4)).set 5 (.int .i64 l5))
 refine storeY (i:=10) (w':=((((((w7.setCell ⟨w.heap.size+1,0,none⟩ (.int .i64 l0)).setCell ⟨w.heap.size+1,1,none⟩ (.slice a1 n1 c1)).setCell ⟨w.heap.size+1,2,none⟩ (.slice a2 n2 c2)).setCell ⟨w.heap.size+1,3,none⟩ (.slice a3 n3 c3)).setCell ⟨w.heap.size+1,4,none⟩ (.int .i64 l4)).setCell ⟨w.heap.size+1,5,none⟩ (.int .i64 l5))) rfl (by rfl) (by kernel_rfl) rfl ?hrun4 rfl ⟨A9.cell 0,A9.cell 1⟩ ?_
 case hrun4=>simp [execOp,go_sem,r0,r1,r2,r3,r4,r5,f0,f1,f2,f3,f4,f5]
 have HL9:=h_ (q8j (j:=5) (q8j (j:=4) (q8j (j:=3) (q8j (j:=2) (q8j (j:=1) (q8j (j:=0) hL hRB (.int .i64 l0)) hRB (.slice a1 n1 c1)) hRB (.slice a2 n2 c2)) hRB (.slice a3 n3 c3)) hRB (.int .i64 l4)) hRB (.int .i64 l5))
 have HZ:=h_ (q78 (u_ HW) (Nat.le_succ _) (.int .i64 l0) (.slice a1 n1 c1) (.slice a2 n2 c2) (.slice a3 n3 c3) (.int .i64 l4) (.int .i64 l5))
 obtain ⟨⟨s0,s1,s2,s3,s4,s5⟩,-⟩:=six' R9
 clear r0 r1 r2 r3 r4 r5 f0 f1 f2 f3 f4 f5 R9 hL zz
 have zz:TwoO _ w.heap.size (.int .i64 n) (.slice a m c):=⟨A9.cell 0,A9.cell 1⟩
 clear A9
 generalize ((((((w7.setCell ⟨w.heap.size+1,0,none⟩ (.int .i64 l0)).setCell ⟨w.heap.size+1,1,none⟩ (.slice a1 n1 c1)).setCell ⟨w.heap.size+1,2,none⟩ (.slice a2 n2 c2)).setCell ⟨w.heap.size+1,3,none⟩ (.slice a3 n3 c3)).setCell ⟨w.heap.size+1,4,none⟩ (.int .i64 l4)).setCell ⟨w.heap.size+1,5,none⟩ (.int .i64 l5))=W9 at *
 refine tk 11 3 (.int .i64 code) zz ?_ (hy:=fun w hS=>by obtain ⟨q0,q1⟩:=hS;simp [execOp,go_sem, *])
 simp only [sX,sY,sZ]
 refine wpAnyH_done (by kernel_rfl) ?_ _
 go_wp2
 refine bodyPost_ret (v:=.tuple #[.agg #[.int .i64 l0,.slice a1 n1 c1,.slice a2 n2 c2,.slice a3 n3 c3,.int .i64 l4,.int .i64 l5],.int .i64 code]) (by simp [results,Tryz.results114,go_sem, *]) rfl ⟨u_ HZ,u,q,d,_,hu,hq,hqr,hd,q5u (u_ HL9) hB6⟩
end Go.Proofs.YtgkcaeidhkddjaaGreatDoor
