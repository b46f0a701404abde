import Derived.Test.YtgkcaeidhkddjaaGreatDoorXGNa
import Derived.Test.YtgkcaeidhkddjaaGreatDoorXGHn
set_option maxRecDepth 100000
set_option maxHeartbeats 20000000
namespace Go.Proofs.YtgkcaeidhkddjaaGreatDoor
open Go Go.RowKit
theorem qdh {α:Type} {f g:Nat->α} {k:Nat} (h:∀ j,j<k->f j=g j) (h':f k=g k):∀ j,j<k+1->f j=g j:=fun j hj=>by
 by_cases e:j=k
 . rw [e];exact h'
 . exact h j (by omega)
theorem ine_ff {a b:Int} (h:(a != b)=false):a=b:=by simpa using h
theorem ine_tt {a b:Int} (h:(a != b)=true):¬ a=b:=by simpa using h
theorem q50 (a b:Option Addr) (f g:Nat->Int) (n:Nat) (ca cb:Nat) (w:World) (ha:Ints w a n f) (hb:Ints w b n g) (hlx:n<=140737488355328) :
 Calls Tryz.prog 93 #[.slice a n ca,.slice b n cb] w fun e w'=>e=.returned (.bool (sameI n f g))/\Below w.heap.size w w':=by
 go_enter Tryz.func93,Tryz.ntmps93
 go_wp2
 go_loopw [5] (fun i wr=>∃ k:Nat,k<=n/\i=.int .i64 k/\(∀ j,j<k->f j=g j)/\∃ n,wr=w.drewN n) (fun i _=>n - (intOf i).toNat)
 case atStart=>exact ⟨0,nZ _,rfl,fun j h=>absurd h (nL _),0,rfl⟩
 case round =>
  obtain ⟨k,hk,rfl,heq,m,rfl⟩:=hrel
  have HE:Hid (∀ j,j<k->f j=g j):=heq
  clear heq
  by_cases hlt:k<n
  . obtain ⟨b1,o1,rfl,-,hc1⟩:=ha k hlt
    obtain ⟨b2,o2,rfl,-,hc2⟩:=hb k hlt
    go_wp2
    go_quiet (fail)
    go_wp2
    . have ht:(f k != g k)=true:=by assumption
      go_ret
      exact ⟨qfz (q6g k hlt (ine_tt ht)).symm,⟨rfl,rfl,rfl,nR _,fun _ _=>rfl⟩⟩
    . have ht:(f k != g k)=false:=by assumption
      go_roundw
      case rel=>exact ⟨k+1,by omega,by go_num,qdh HE.out (ine_ff ht),_,rfl⟩
      case measure=>simp [intOf];omega
  . go_wp2
    go_ret
    exact ⟨qfz (q97 fun j hj=>HE.out j (by omega)).symm,⟨rfl,rfl,rfl,nR _,fun _ _=>rfl⟩⟩
def bs (n:Nat) (f:Nat->Bool):List Value:=(List.range n).map fun k=>.bool (f k)
def is (n:Nat) (f:Nat->Int):List Value:=(List.range n).map fun k=>.int .i64 (f k)
theorem q8m {n:Nat} {xs:List Value} {g:Nat->Value} (hl:xs.length=n) (h:∀ j,j<n->xs[j]? = some (g j)):xs=(List.range n).map g:=by
 apply List.ext_getElem?
 intro j
 by_cases hj:j<n
 . rw [h j hj];simp [hj]
 . rw [List.getElem?_eq_none (by omega),List.getElem?_eq_none (by simp;omega)]
theorem Blk.bools {w:World} {g n:Nat} {t:TypeId} {f:Nat->Bool} (h:Blk w g t (bs n f)):Bools w (some ⟨g,0,none⟩) n f:=fun k hk =>
 ⟨g,0,rfl,h.lt,by rw [Nat.zero_add,h.cell];simp [bs,hk]⟩
theorem Blk.ints {w:World} {g n:Nat} {t:TypeId} {f:Nat->Int} (h:Blk w g t (is n f)):Ints w (some ⟨g,0,none⟩) n f:=fun k hk =>
 ⟨g,0,rfl,h.lt,by rw [Nat.zero_add,h.cell];simp [is,hk]⟩
theorem qbg:(Tryz.prog.info? 4).map (fun i=>(i.zero,i.size,i.bytes))=some (some (.bool false),1,1):=by kernel_rfl
theorem qel:(Tryz.prog.info? 3).map (fun i=>(i.zero,i.size,i.bytes))=some (some (.int .i64 0),1,8):=by kernel_rfl
theorem qas {w wr:World} {B e n k:Nat} {g:Nat->Value} {xs:List Value} (hk:k<n)
 (ho:wr.ownsRow B e 1 (.slice (some ⟨B,0,none⟩) n n) n xs) (hx:∀ j,j<k->xs[j]? = some (g j)) (hb:Below B w wr) :
 (wr.setCell ⟨B,k,none⟩ (g k)).ownsRow B e 1 (.slice (some ⟨B,0,none⟩) n n) n (xs.set k (g k))/\(∀ j,j<k+1->(xs.set k (g k))[j]? = some (g j))/\Below B w (wr.setCell ⟨B,k,none⟩ (g k)):=by
 obtain ⟨h1,h2⟩:=ho.stored k (g k)
 refine ⟨h1,fun j hj=>?_,hb.setCell (p:=⟨B,k,none⟩) (nR _) _⟩
 have hl:xs.length=n:=by have:=ho.1;omega
 by_cases e:j=k
 . subst e;rw [List.getElem?_set_self (by omega)]
 . rw [List.getElem?_set_ne (by omega)];exact hx j (by omega)
theorem q9k (a:Option Addr) (f:Nat->Int) (n c:Nat) (w:World) (ha:Ints w a n f) (hn:n<=1048576) :
 Calls Tryz.prog 74 #[.slice a n c] w fun e w'=>e=.returned (.slice (some ⟨w.heap.size,0,none⟩) n n)/\Blk w' w.heap.size 3 (is n f)/\Below w.heap.size w w':=by
 obtain ⟨i0,hi,hz0,hz1,hz2⟩:=info_parts qel
 obtain ⟨B,hB⟩:∃ B,w.heap.size=B:=⟨_,rfl⟩
 have hbn:i0.bytes*n<=281474976710656:=by rw [hz2];omega
 go_enter Tryz.func74,Tryz.ntmps74
 go_wp2_with (at_make;refine wpList_make_full _ rfl (.tmp 6) (.tmp 6) 84 rfl w.heap.size 3 i0 (.int .i64 0) 1 Tryz.underlying84 hi hz0 hz1 .i64 .i64 _ _ n rfl rfl rfl rfl hbn (by unfold maxLen;omega) (nR _) ?_;intro w1 hown hgrow)
 have hb1:Below B w w1:=by rw [<- hB];exact (bR _ _).grown hgrow (nR _) (fun k h=>by cases h)
 rw [hB] at hown
 clear hgrow hbn hi hz0 hz1 hz2
 go_loopw [4] (fun i wr=>∃ (k:Nat) (xs:List Value),k<=n/\i=.int .i64 k/\wr.ownsRow B 3 1 (.slice (some ⟨B,0,none⟩) n n) n xs/\(∀ j,j<k->xs[j]? = some (.int .i64 (f j)))/\Below B w wr) (fun i _=>n - (intOf i).toNat)
 case atStart=>exact ⟨0,_,nZ _,rfl,hown,fun j h=>absurd h (nL _),hb1⟩
 case round =>
  clear hown hb1
  obtain ⟨k,xs,hk,rfl,ho,hx,hb⟩:=hrel
  have HO:=h_ ho;have HX:=h_ hx;have HB:=h_ hb
  by_cases hlt:k<n
  . obtain ⟨b1,o1,rfl,hl1,hc1⟩:=ha k hlt
    have hc:=(hb.cell (p:=⟨b1,o1+k,none⟩) (by rw [<- hB];exact hl1)).trans hc1
    obtain ⟨u0,hd⟩:∃ u0,wr.cell? ⟨B,k,none⟩=some u0:=⟨_,(ho.cellAt k (by omega)).trans (List.getElem?_eq_getElem (by have:=ho.1;omega))⟩
    have hf:=ho.frozenAt k
    clear ho hx hb hc1
    go_wp2
    go_roundw
    case rel =>
     obtain ⟨r1,r2,r3⟩:=qas (g:=fun j=>.int .i64 (f j)) hlt (u_ HO) (u_ HX) (u_ HB)
     exact ⟨k+1,_,by omega,by go_num,r1,r2,r3⟩
    case measure=>simp [intOf];omega
  . clear ho hx hb
    go_wp2
    go_ret
    obtain rfl:k=n:=by omega
    refine ⟨by rw [hB];rfl,?_,by rw [hB];exact u_ HB⟩
    rw [hB,show is k f=xs from (q8m (by have:=(u_ HO).1;omega) (u_ HX)).symm]
    exact Blk.of_owns (u_ HO)
theorem q6r (kind num:Int) (s:ByteArray) (left:Int) (w:World) (hs:s.size<=9223372036854775807) (h0:0<=left) (h1:left<=1048576) :
 Calls Tryz.prog 39 #[.agg #[.int .i64 kind,.int .i64 num,.string s],.int .i64 left] w fun e w'=>e=.returned (.int .i64 (if left<s.size then -1 else left - s.size))/\Below w.heap.size w w':=by
 by_cases h:left<s.size
 all_goals
  go_enter Tryz.func39,Tryz.ntmps39
  go_wp2
  go_ret
  exact ⟨rfl,(bR _ _).alloc (nR _) _⟩
theorem q6v (kind num:Int) (s:ByteArray) (w:World) :
 Calls Tryz.prog 49 #[.agg #[.int .i64 kind,.int .i64 num,.string s]] w fun e w'=>e=.returned (.agg #[.int .i64 kind,.int .i64 num,.string s])/\Below w.heap.size w w':=by
 go_enter Tryz.func49,Tryz.ntmps49
 go_wp2
 refine bodyPost_ret (v:=.agg #[.int .i64 kind,.int .i64 num,.string s]) (by simp [results,Tryz.results49,go_sem, *]) rfl ⟨rfl,?_⟩
 exact (((bR _ w).alloc (nR _) _).alloc (by simp) _).alloc (by simp;omega) _
theorem q3l (k n:Int) (t:ByteArray) (w:World) :
 Calls Tryz.prog 63 #[.agg #[.int .i64 k,.int .i64 n,.string t],.agg #[.int .i64 k,.int .i64 n,.string t]] w fun e w'=>e=.returned (.bool true)/\Below w.heap.size w w':=by
 have hq:(t.toList == t.toList)=true:=by simp
 have hB:∀ o1 o2,Below w.heap.size w ((w.alloc o1).alloc o2):=fun o1 o2=>((bR _ w).alloc (nR _) o1).alloc (by simp) o2
 have HB:=h_ hB;clear hB
 go_enter Tryz.func63,Tryz.ntmps63
 go_wp2
 go_ret
 exact ⟨rfl,u_ HB _ _⟩
def Bk (w:World) (g:Nat) (t:TypeId) (n:Nat):Prop:=∃ cs,Blk w g t cs/\cs.length=n
theorem Bk.lt {w:World} {g:Nat} {t:TypeId} {n:Nat} (h:Bk w g t n):g<w.heap.size:=h.elim fun _ h=>h.1.lt
theorem Bk.mono {w w':World} {B g:Nat} {t:TypeId} {n:Nat} (h:Bk w g t n) (hb:Below B w w') (hg:g<B):Bk w' g t n:=h.elim fun cs h=>⟨cs,h.1.mono hb hg,h.2⟩
theorem Bk.keep {w w':World} {g:Nat} {t:TypeId} {n:Nat} (h:Bk w g t n) (hk:w'.heap[g]? = w.heap[g]?):Bk w' g t n:=h.elim fun cs h=>⟨cs,hk.trans h.1,h.2⟩
theorem Bk.other {w:World} {g:Nat} {t:TypeId} {n:Nat} (h:Bk w g t n) {R:Nat} (hR:g ≠ R) (j:Nat) (v:Value):Bk (w.setCell ⟨R,j,none⟩ v) g t n:=h.elim fun cs h=>⟨cs,h.1.other v hR,h.2⟩
theorem qbh:(Tryz.prog.info? 200).map (fun i=>(i.zero,i.size,i.bytes))=some (some (.agg #[.int .i64 0,.int .i64 0,.int .i64 0,.string ⟨#[]⟩,.string ⟨#[]⟩]),5,56):=by kernel_rfl
theorem Blk.of_owns5 {w:World} {base e g n:Nat} {xs:List Value} (h:w.ownsRow base e 5 (.slice (some ⟨g,0,none⟩) n n) n xs):Blk w g e xs/\xs.length=n*5:=by
 refine ⟨?_,h.1⟩
 rcases h.2 with ⟨h',_⟩ | ⟨g',cap',cur,h',_,hg,_,_,hs,htake⟩
 . simp at h'
 . simp only [Value.slice.injEq,Option.some.injEq,Addr.mk.injEq,and_true,true_and] at h'
   obtain ⟨rfl,rfl⟩:=h'
   rw [List.take_of_length_le (by simp;omega)] at htake
   rw [<- htake];simpa [Blk] using hg
theorem q9g (n:Nx) (left:Int) (w:World) (hf:Fit n) (l0:0<=left) (l1:left<=1048576) :
 Calls Tryz.prog 95 #[nv n,.int .i64 left] w fun r w'=>∃ q:Int,r=.returned (.int .i64 q)/\(0<=q->q<=1048576/\n.v.s.size<=1048576/\n.nm.size<=1048576)/\(q<0->q = -1)/\Below w.heap.size w w':=by
 obtain ⟨hs,hm,-,-⟩:=hf
 unfold nv
 have HK:=h_ (Blk.new w 185 #[.int .i64 n.op,.int .i64 n.v.k,.int .i64 n.v.n,.string n.v.s,.string n.nm])
 have HB:=h_ ((bR w.heap.size w).alloc (nR _) (.cells #[.int .i64 n.op,.int .i64 n.v.k,.int .i64 n.v.n,.string n.v.s,.string n.nm] 185))
 go_enter Tryz.func95,Tryz.ntmps95
 go_wp2_with fail
 refine (q6r n.v.k n.v.n n.v.s left _ hs l0 l1).mono ?_
 rintro e w2 ⟨rfl,hb⟩
 replace HK:=mB HK hb;replace HB:=mT HB hb
 clear hb
 obtain ⟨y0,y1,y2,y3,y4⟩:=five (u_ HK)
 by_cases hq:left<n.v.s.size
 . rw [if_pos hq]
   go_wp2_with fail
   go_ret
   exact ⟨_,rfl,fun h=>absurd h (by decide),fun _=>rfl,u_ HB⟩
 . rw [if_neg hq]
   have hq':¬ left - n.v.s.size<0:=by omega
   obtain ⟨l2,hl2⟩:∃ l2:Int,left - n.v.s.size=l2:=⟨_,rfl⟩
   have HL:Hid (l2<=1048576/\n.v.s.size<=1048576/\0<=l2):=h_ (by omega)
   rw [hl2] at hq' ⊢
   clear hl2 hq
   have hl3:=(u_ HL).1
   by_cases hr:l2<n.nm.size
   . have hr':l2 - n.nm.size<0:=by omega
     go_wp2_with fail
     go_ret
     exact ⟨_,rfl,fun h=>absurd h (by decide),fun _=>rfl,u_ HB⟩
   . have hr':¬ l2 - n.nm.size<0:=by omega
     go_wp2_with fail
     go_ret
     exact ⟨_,rfl,fun _=>by have:=u_ HL;omega,fun h=>by omega,u_ HB⟩
theorem q6q (a:Option Addr) (m c:Nat) (e:Nat->Nx) (l0:Int) (w:World) (h0:0<=l0) (h1:l0<=1048576) (hm:m<=9223372036854775807) (hf:∀ k,k<m->Fit (e k)) (ha:Nods w a m e) :
 Calls Tryz.prog 65 #[.slice a m c,.int .i64 l0] w fun r w'=>∃ q:Int,r=.returned (.int .i64 q)/\(0<=q->q<=1048576/\m<=1048576/\∀ k,k<m->(e k).v.s.size<=1048576/\(e k).nm.size<=1048576)/\(q<0->q = -1)/\Below w.heap.size w w':=by
 have HA:=h_ ha;have HF:=h_ hf
 clear ha hf
 have hw1:wrap64 (l0 - (m:Int))=l0 - (m:Int):=q4o (by omega) (by omega)
 by_cases h:(m:Int)<=l0
 . have h':¬ l0 - (m:Int)<0:=by omega
   obtain ⟨lq,hlq⟩:∃ lq:Int,l0 - (m:Int)=lq:=⟨_,rfl⟩
   have HLQ:Hid (0<=lq/\lq<=1048576):=h_ (by omega)
   rw [hlq] at h' hw1
   go_enter Tryz.func65,Tryz.ntmps65
   go_wp2_with fail
   try rw [hlq]
   clear hlq hw1 h'
   go_loopw [1,5] (fun l i wr=>∃ (k:Nat) (left:Int),k<=m/\l=.int .i64 left/\i=.int .i64 k/\0<=left/\left<=1048576/\(∀ j,j<k->(e j).v.s.size<=1048576/\(e j).nm.size<=1048576)/\Below w.heap.size w wr) (fun _ i _=>m - (intOf i).toNat)
   case atStart=>exact ⟨0,_,nZ _,rfl,rfl,(u_ HLQ).1,(u_ HLQ).2,fun j hj=>absurd hj (nL _),bR _ _⟩
   case round =>
    clear HLQ
    obtain ⟨k,left,hk,rfl,rfl,q0,q1,hall,hb⟩:=hrel
    have HALL:=h_ hall;have HB:=h_ hb
    have HV:=h_ ((u_ HA).mono hb)
    clear hall hb
    by_cases hlt:k<m
    . have hlt':(k:Int)<m:=by omega
      obtain ⟨b,o,rfl,-,c0,c1,c2,c3,c4⟩:=u_ HV k hlt
      go_wp2_with fail
      refine (q9g (e k) left _ (u_ HF k hlt) q0 q1).mono ?_
      rintro r w2 ⟨q,rfl,hq,hq',hb⟩
      replace HB:=mT HB hb
      clear hb c0 c1 c2 c3 c4
      by_cases hn:q<0
      . obtain rfl:=hq' hn
        clear hq hq' hn
        go_wp2_with fail
        go_ret
        exact ⟨_,rfl,fun h=>absurd h (by decide),fun _=>rfl,u_ HB⟩
      . have HQ:=h_ (hq (by omega))
        have HN:Hid (∀ j,j<k+1->(e j).v.s.size<=1048576/\(e j).nm.size<=1048576):=h_ fun j hj=>by
         by_cases ej:j=k
         . rw [ej];exact (u_ HQ).2
         . exact u_ HALL j (by omega)
        clear hq hq'
        go_wp2_with fail
        go_roundw
        case rel=>exact ⟨k+1,q,by omega,rfl,by go_num,by omega,(u_ HQ).1,u_ HN,u_ HB⟩
        case measure=>simp [intOf];omega
    . obtain rfl:k=m:=by omega
      go_wp2_with fail
      go_ret
      exact ⟨_,rfl,fun _=>⟨q1,by omega,u_ HALL⟩,fun h=>by omega,u_ HB⟩
 . have h':l0 - (m:Int)<0:=by omega
   go_enter Tryz.func65,Tryz.ntmps65
   go_wp2_with fail
   go_ret
   exact ⟨_,rfl,fun h=>absurd h (by decide),fun _=>rfl,bR _ _⟩
theorem q9m (n:Nx) (w:World) :
 Calls Tryz.prog 110 #[nv n] w fun r w'=>r=.returned (nv n)/\Below w.heap.size w w':=by
 unfold nv
 have HK:=h_ (((Blk.new w 185 #[.int .i64 n.op,.int .i64 n.v.k,.int .i64 n.v.n,.string n.v.s,.string n.nm]).alloc (.cells #[.int .i64 0,.int .i64 0,.int .i64 0,.string ⟨#[]⟩,.string ⟨#[]⟩] 200)).alloc (.cells #[.int .i64 n.op,.int .i64 0,.int .i64 0,.string ⟨#[]⟩,.string ⟨#[]⟩] 200))
 have HR:=h_ ((Blk.new (w.alloc (.cells #[.int .i64 n.op,.int .i64 n.v.k,.int .i64 n.v.n,.string n.v.s,.string n.nm] 185)) 200 #[.int .i64 0,.int .i64 0,.int .i64 0,.string ⟨#[]⟩,.string ⟨#[]⟩]).alloc (.cells #[.int .i64 n.op,.int .i64 0,.int .i64 0,.string ⟨#[]⟩,.string ⟨#[]⟩] 200))
 have HO:=h_ (Blk.new ((w.alloc (.cells #[.int .i64 n.op,.int .i64 n.v.k,.int .i64 n.v.n,.string n.v.s,.string n.nm] 185)).alloc (.cells #[.int .i64 0,.int .i64 0,.int .i64 0,.string ⟨#[]⟩,.string ⟨#[]⟩] 200)) 200 #[.int .i64 n.op,.int .i64 0,.int .i64 0,.string ⟨#[]⟩,.string ⟨#[]⟩])
 have HB:=h_ ((((bR w.heap.size w).alloc (nR _) (.cells #[.int .i64 n.op,.int .i64 n.v.k,.int .i64 n.v.n,.string n.v.s,.string n.nm] 185)).alloc (by simp) (.cells #[.int .i64 0,.int .i64 0,.int .i64 0,.string ⟨#[]⟩,.string ⟨#[]⟩] 200)).alloc (by simp;omega) (.cells #[.int .i64 n.op,.int .i64 0,.int .i64 0,.string ⟨#[]⟩,.string ⟨#[]⟩] 200))
 simp only [World.size_alloc] at HR HO
 go_enter Tryz.func110,Tryz.ntmps110
 go_wp2_with fail
 refine (q6v n.v.k n.v.n n.v.s _).mono ?_
 rintro x w2 ⟨rfl,hb⟩
 replace HK:=mB HK hb;replace HR:=mB HR hb;replace HO:=mB HO hb;replace HB:=mT HB hb
 clear hb
 obtain ⟨y0,y1,y2,y3,y4⟩:=five (u_ HK)
 obtain ⟨r0,r1,r2,r3,r4⟩:=five (u_ HR)
 obtain ⟨o0,o1,o2,o3,o4⟩:=five (u_ HO)
 have f0:=(u_ HR).free 0;have f1:=(u_ HR).free 1;have f2:=(u_ HR).free 2;have f3:=(u_ HR).free 3;have f4:=(u_ HR).free 4
 have g1:=(u_ HO).free 1;have g2:=(u_ HO).free 2;have g3:=(u_ HO).free 3;have g4:=(u_ HO).free 4
 go_wp2_with fail
 refine bodyPost_ret (v:=.agg #[.int .i64 n.op,.int .i64 n.v.k,.int .i64 n.v.n,.string n.v.s,.string n.nm]) (by simp [results,Tryz.results110,go_sem, *]) rfl ⟨rfl,?_⟩
 exact (((((((((u_ HB).setCell (by simp;omega) _).setCell (by simp;omega) _).setCell (by simp;omega) _).setCell (by simp;omega) _).setCell (by simp) _).setCell (by simp) _).setCell (by simp) _).setCell (by simp) _).setCell (by simp) _
theorem q9l (a:Option Addr) (e:Nat->Nx) (n c:Nat) (w:World) (ha:Nods w a n e) (hn:n<=1048576) :
 Calls Tryz.prog 75 #[.slice a n c] w fun r w'=>r=.returned (.slice (some ⟨w.heap.size,0,none⟩) n n)/\Nods w' (some ⟨w.heap.size,0,none⟩) n e/\Bk w' w.heap.size 200 (n*5)/\Below w.heap.size w w':=by
 obtain ⟨i0,hi,hz0,hz1,hz2⟩:=info_parts qbh
 obtain ⟨B,hB⟩:∃ B,w.heap.size=B:=⟨_,rfl⟩
 have hbn:i0.bytes*n<=281474976710656:=by rw [hz2];omega
 have HA:=h_ ha
 clear ha
 go_enter Tryz.func75,Tryz.ntmps75
 go_wp2_with (at_make;refine wpList_make_full _ rfl _ _ 92 rfl w.heap.size 200 i0 _ 5 Tryz.underlying92 hi hz0 hz1 .i64 .i64 _ _ n rfl rfl rfl rfl hbn (by unfold maxLen;omega) (nR _) ?_;intro w1 hown hgrow)
 have hb1:Below B w w1:=by rw [<- hB];exact (bR _ _).grown hgrow (nR _) (fun k h=>by cases h)
 rw [hB] at hown
 obtain ⟨hX,hXl⟩:=Blk.of_owns5 hown
 have HX:=h_ hX;have HXL:=h_ hXl;have HB1:=h_ hb1
 clear hgrow hbn hi hz0 hz1 hz2 hown hX hXl hb1
 go_wp2_with fail
 try rw [hB]
 go_loopw [4] (fun i wr=>∃ (k:Nat) (xs:List Value),k<=n/\i=.int .i64 k/\Blk wr B 200 xs/\xs.length=n*5/\(∀ j,j<k->xs[j*5]? = some (.int .i64 (e j).op)/\xs[j*5+1]? = some (.int .i64 (e j).v.k)/\xs[j*5+2]? = some (.int .i64 (e j).v.n)/\xs[j*5+3]? = some (.string (e j).v.s)/\xs[j*5+4]? = some (.string (e j).nm))/\Below B w wr) (fun i _=>n - (intOf i).toNat)
 case atStart=>exact ⟨0,_,nZ _,rfl,u_ HX,u_ HXL,fun j h=>absurd h (nL _),u_ HB1⟩
 case round =>
  clear HX HXL HB1
  obtain ⟨k,xs,hk,rfl,hX,hXl,hx,hb⟩:=hrel
  have HX:=h_ hX;have HXL:=h_ hXl;have HXX:=h_ hx;have HB:=h_ hb
  have HV:=h_ ((u_ HA).mono (hb.mono (by omega)))
  clear hX hXl hx hb
  by_cases hlt:k<n
  . have hlt':(k:Int)<n:=by omega
    obtain ⟨b1,o1,rfl,hl1,hc1,hc2,hc3,hc4,hc5⟩:=u_ HV k hlt
    go_wp2_with fail
    refine (q9m (e k) _).mono ?_
    rintro x w3 ⟨rfl,hb3⟩
    have X3:=(u_ HX).mono hb3 (u_ HX).lt
    have B3:=(u_ HB).trans (hb3.mono (by have:=(u_ HX).lt;omega))
    have c0:=X3.cell (k*5);have c1:=X3.cell (k*5+1);have c2:=X3.cell (k*5+2);have c3:=X3.cell (k*5+3);have c4:=X3.cell (k*5+4)
    have f0:=X3.free (k*5);have f1:=X3.free (k*5+1);have f2:=X3.free (k*5+2);have f3:=X3.free (k*5+3);have f4:=X3.free (k*5+4)
    rw [List.getElem?_eq_getElem (by have:=u_ HXL;omega)] at c0 c1 c2 c3 c4
    have HX3:=h_ X3;have HB3:=h_ B3
    clear X3 B3 hb3 hc1 hc2 hc3 hc4 hc5
    unfold nv
    go_wp2_with fail
    go_roundw
    case rel =>
     refine ⟨k+1,_,by omega,by go_num,(((((u_ HX3).set (k*5) (.int .i64 (e k).op)).set (k*5+1) (.int .i64 (e k).v.k)).set (k*5+2) (.int .i64 (e k).v.n)).set (k*5+3) (.string (e k).v.s)).set (k*5+4) (.string (e k).nm),by simpa using u_ HXL,fun j hj=>?_,(((((u_ HB3).setCell (nR _) _).setCell (nR _) _).setCell (nR _) _).setCell (nR _) _).setCell (nR _) _⟩
     have hxl:=u_ HXL
     by_cases ej:j=k
     . subst ej
       simp [List.getElem?_set];omega
     . have:=u_ HXX j (by omega)
       simp only [List.getElem?_set]
       (repeat rw [if_neg (by omega)])
       exact this
    case measure=>simp [intOf];omega
  . obtain rfl:n=k:=by omega
    go_wp2_with fail
    go_ret
    refine ⟨by rw [hB];rfl,?_,?_,?_⟩
    . intro j hj
      have:=u_ HXX j hj
      exact ⟨B,0,by rw [hB],(u_ HX).lt,by rw [Nat.zero_add,(u_ HX).cell];exact this.1,by rw [Nat.zero_add,(u_ HX).cell];exact this.2.1,by rw [Nat.zero_add,(u_ HX).cell];exact this.2.2.1,by rw [Nat.zero_add,(u_ HX).cell];exact this.2.2.2.1,by rw [Nat.zero_add,(u_ HX).cell];exact this.2.2.2.2⟩
    . rw [hB];exact ⟨_,u_ HX,u_ HXL⟩
    . rw [hB];exact u_ HB
theorem q51 (n:Nx) (w:World) :
 Calls Tryz.prog 125 #[nv n,nv n] w fun r w'=>r=.returned (.bool true)/\Below w.heap.size w w':=by
 unfold nv
 have hq:(n.nm.toList == n.nm.toList)=true:=by simp
 have HK:=h_ ((Blk.new w 200 #[.int .i64 n.op,.int .i64 n.v.k,.int .i64 n.v.n,.string n.v.s,.string n.nm]).alloc (.cells #[.int .i64 n.op,.int .i64 n.v.k,.int .i64 n.v.n,.string n.v.s,.string n.nm] 200))
 have HR:=h_ (Blk.new (w.alloc (.cells #[.int .i64 n.op,.int .i64 n.v.k,.int .i64 n.v.n,.string n.v.s,.string n.nm] 200)) 200 #[.int .i64 n.op,.int .i64 n.v.k,.int .i64 n.v.n,.string n.v.s,.string n.nm])
 have HB:=h_ (((bR w.heap.size w).alloc (nR _) (.cells #[.int .i64 n.op,.int .i64 n.v.k,.int .i64 n.v.n,.string n.v.s,.string n.nm] 200)).alloc (by simp) (.cells #[.int .i64 n.op,.int .i64 n.v.k,.int .i64 n.v.n,.string n.v.s,.string n.nm] 200))
 simp only [World.size_alloc] at HR
 go_enter Tryz.func125,Tryz.ntmps125
 go_wp2_with fail
 refine (q3l n.v.k n.v.n n.v.s _).mono ?_
 rintro x w2 ⟨rfl,hb⟩
 replace HK:=mB HK hb;replace HR:=mB HR hb;replace HB:=mT HB hb
 clear hb
 obtain ⟨y0,y1,y2,y3,y4⟩:=five (u_ HK)
 obtain ⟨r0,r1,r2,r3,r4⟩:=five (u_ HR)
 go_wp2_with fail
 go_ret
 exact ⟨rfl,u_ HB⟩
theorem q3i (a b:Option Addr) (e:Nat->Nx) (n ca cb:Nat) (w:World) (hn:n<=1048576) (ha:Nods w a n e) (hb:Nods w b n e) :
 Calls Tryz.prog 94 #[.slice a n ca,.slice b n cb] w fun r w'=>r=.returned (.bool true)/\Below w.heap.size w w':=by
 have HA:=h_ ha;have HB0:=h_ hb
 clear ha hb
 go_enter Tryz.func94,Tryz.ntmps94
 go_wp2_with fail
 go_loopw [5] (fun i wr=>∃ k:Nat,k<=n/\i=.int .i64 k/\Below w.heap.size w wr) (fun i _=>n - (intOf i).toNat)
 case atStart=>exact ⟨0,nZ _,rfl,bR _ _⟩
 case round =>
  obtain ⟨k,hk,rfl,hB⟩:=hrel
  have HB:=h_ hB
  by_cases hlt:k<n
  . obtain ⟨b1,o1,rfl,C1⟩:=((u_ HA).mono hB) k hlt
    obtain ⟨b2,o2,rfl,C2⟩:=((u_ HB0).mono hB) k hlt
    obtain ⟨u,hu⟩:∃ u,e k=u:=⟨_,rfl⟩
    rw [hu] at C1 C2
    have HC1:=h_ C1;have HC2:=h_ C2
    have k0:(0:Int)<=k:=by omega
    have k1:(k:Int)<n:=by omega
    clear hB hu C1 C2
    go_wp2_with fail
    refine wp_region_held_drew (S:=fun w'=>NCel w' b1 (o1+k*5) u/\NCel w' b2 (o2+k*5) u) (by kernel_rfl) ⟨u_ HC1,u_ HC2⟩ (fun zz=>?_)
    refine tk 0 17 (.slice (some ⟨b1,o1,none⟩) n ca) zz ?_
    refine tk 1 18 (.int .i64 k) zz ?_
    refine tk 2 19 (.pointer (some ⟨b1,o1+k*5,none⟩)) zz ?_
    refine tk 3 20 (.agg #[.int .i64 u.op,.int .i64 u.v.k,.int .i64 u.v.n,.string u.v.s,.string u.nm]) zz ?_ (hy:=fun w hS=>by obtain ⟨⟨-,q0,q1,q2,q3,q4⟩,-⟩:=hS;simp [execOp,go_sem,q0,q1,q2,q3,q4])
    simp only [sX,sY,sZ]
    refine tk 4 21 (.slice (some ⟨b2,o2,none⟩) n cb) zz ?_
    refine tk 5 22 (.int .i64 k) zz ?_
    refine tk 6 23 (.pointer (some ⟨b2,o2+k*5,none⟩)) zz ?_
    refine tk 7 24 (.agg #[.int .i64 u.op,.int .i64 u.v.k,.int .i64 u.v.n,.string u.v.s,.string u.nm]) zz ?_ (hy:=fun w hS=>by obtain ⟨-,⟨-,q0,q1,q2,q3,q4⟩⟩:=hS;simp [execOp,go_sem,q0,q1,q2,q3,q4])
    simp only [sX,sY,sZ]
    refine callY (i:=8) (f:=125) (args:=#[nv u,nv u]) (R:=fun v wz=>v=.bool true/\Below wr.heap.size wr wz) 25 rfl rfl (by rfl) (by kernel_rfl) ?hrun1 ((q51 u _).mono fun e w6 ⟨he,hb⟩=>⟨_,he,rfl,q26 hb⟩) ?_
    case hrun1=>simp [execOp,go_sem,nv]
    rintro v w6 ⟨rfl,hb6⟩
    have HB6:=mT HB hb6
    replace zz:NCel w6 b1 (o1+k*5) u/\NCel w6 b2 (o2+k*5) u:=⟨(u_ HC1).mono hb6,(u_ HC2).mono hb6⟩
    clear hb6
    refine ⟨zz,?_⟩
    simp only [sX,sY,sZ]
    refine tk 9 26 (.bool false) zz ?_
    simp only [sX,sY,sZ]
    refine wpAnyH_done (by kernel_rfl) ?_ _
    clear zz
    go_wp2_with fail
    go_roundw
    case rel=>exact ⟨k+1,by omega,by go_num,u_ HB6⟩
    case measure=>simp [intOf];omega
  . obtain rfl:n=k:=by omega
    clear hB
    go_wp2_with fail
    go_ret
    exact ⟨rfl,u_ HB⟩
end Go.Proofs.YtgkcaeidhkddjaaGreatDoor
