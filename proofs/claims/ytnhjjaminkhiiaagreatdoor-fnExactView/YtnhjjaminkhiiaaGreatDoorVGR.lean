import Derived.Laws.BytesString
import Derived.Test.YtnhjjaminkhiiaaGreatDoorVGH
import Derived.Test.YtnhjjaminkhiiaaGreatDoorVGO
set_option maxRecDepth 100000
set_option maxHeartbeats 20000000
namespace Go.Proofs.YtnhjjaminkhiiaaGreatDoor
open Go Go.RowKit
structure MkL (lo hi:Nat) (W W':World):Prop where
 out:Out lo hi W W'
 bk:∀ g t n,Bk W g t n->Bk W' g t n
theorem MkL.refl (lo hi:Nat) (W:World):MkL lo hi W W:=⟨Out.refl _ _ _,fun _ _ _ h=>h⟩
theorem MkL.trans {lo hi:Nat} {A B C:World} (h:MkL lo hi A B) (k:MkL lo hi B C):MkL lo hi A C:=⟨h.out.trans k.out,fun g t n hb=>k.bk g t n (h.bk g t n hb)⟩
theorem MkL.below {lo hi:Nat} {W W':World} (h:Below W.heap.size W W'):MkL lo hi W W':=⟨⟨h.os,h.tape,h.output,h.size,fun b hb _=>h.block b hb⟩,fun _ _ _ hb=>hb.mono h hb.lt⟩
theorem MkL.set {lo hi:Nat} {W:World} {g:Nat} (j:Nat) (v:Value) (h1:lo<=g) (h2:g<hi):MkL lo hi W (W.setCell ⟨g,j,none⟩ v) :=
 ⟨Out.set (a:=⟨g,j,none⟩) v h1 h2,fun g' t' n' hb=>by
  by_cases e:g'=g
  . subst e;exact hb.set j v
  . exact hb.other e j v⟩
theorem MkL.lower {lo lo' hi:Nat} {W W':World} (h:MkL lo hi W W') (hl:lo'<=lo):MkL lo' hi W W':=⟨h.out.mono hl,h.bk⟩
theorem qeg (W:World) (c:Int):(convert 156 9 (.slice (some ⟨W.heap.size,0,none⟩) 1 1)).run Tryz.prog (W.alloc (.cells #[.int .u8 c] 5))=.ok (.string (ByteArray.empty.push (UInt8.ofNat c.toNat))) (W.alloc (.cells #[.int .u8 c] 5)):=by
 rw [run_convert_bytes_string _ 156 9 5 _ _ _ Tryz.underlying156 Tryz.underlying5 Tryz.underlying9]
 have h:=run_loadCells_list (P:=Tryz.prog) (W.alloc (.cells #[.int .u8 c] 5)) ⟨W.heap.size,0,none⟩ ([c].map (Value.int .u8)) (qec W 5 (.int .u8 c))
 exact run_bytesToString (P:=Tryz.prog) (W.alloc (.cells #[.int .u8 c] 5)) ⟨W.heap.size,0,none⟩ 1 1 [c] h
theorem q44 (k:Nat) (w:World) (hk:k<=4611686018427387904):Calls Tryz.prog 49 #[.int .i64 k] w fun r w'=>∃ s,r=.returned (.string s)/\Below w.heap.size w w':=by
 by_cases h0:k=0
 . subst h0
   go_enter Tryz.func49,Tryz.ntmps49
   go_wp2_with fail
   go_ret
   exact ⟨_,rfl,bR _ _⟩
 . have h0':¬ (k:Int)<=0:=by omega
   have hk':(k:Int)<=4611686018427387904:=by omega
   go_enter Tryz.func49,Tryz.ntmps49
   go_wp2_with fail
   go_loopw [0,3] (fun v s wr=>∃ (q:Nat) (t:ByteArray),v=.int .i64 q/\s=.string t/\t.size+q<=4611686018427387904/\Below w.heap.size w wr) (fun v _ _=>(intOf v).toNat)
   case atStart=>exact ⟨k,_,rfl,rfl,by show 0+k<=_;omega,bR _ _⟩
   case round =>
    clear h0 h0' hk' hk
    obtain ⟨q,t,rfl,rfl,hq,hb⟩:=hrel
    have HB:=h_ hb
    clear hb
    have hts:t.size<=4611686018427387904:=by omega
    have hts':(t.size:Int)<=4611686018427387904:=by omega
    by_cases h0:q=0
    . subst h0
      go_wp2_with fail
      go_ret
      exact ⟨_,rfl,u_ HB⟩
    . have h0':(0:Int)<q:=by omega
      have hq':(q:Int)<=4611686018427387904:=by omega
      obtain ⟨s1,hs1⟩:∃ s1,ByteArray.empty.push (UInt8.ofNat (48+(q:Int) % 10).toNat)=s1:=⟨_,rfl⟩
      have hz1:s1.size=1:=by rw [<- hs1];rfl
      have hcv:=qeg wr (48+(q:Int) % 10)
      rw [hs1] at hcv
      clear hs1
      have HB2:=h_ ((u_ HB).alloc (u_ HB).size (.cells #[.int .u8 (48+(q:Int) % 10)] 5))
      go_wp2_with fail
      clear hcv
      go_roundw
      case rel=>exact ⟨q / 10,_,by go_num,rfl,by rw [ByteArray.size_append];omega,u_ HB2⟩
      case measure=>simp [intOf];omega
theorem q21 (g n c k lo hi:Nat) (w:World) (hk:k+n<=4611686018427387904) (hb:Bk w g 9 n) (hl:lo<=g) (hh:g<hi) :
 Calls Tryz.prog 45 #[.slice (some ⟨g,0,none⟩) n c,.int .i64 k] w fun r w'=>r=.returned (.int .i64 ((k+n:Nat):Int))/\MkL lo hi w w':=by
 have HBk:=h_ hb
 clear hb
 go_enter Tryz.func45,Tryz.ntmps45
 go_wp2_with fail
 go_loopw [1,5] (fun q v wr=>∃ i:Nat,i<=n/\v=.int .i64 i/\q=.int .i64 ((k+i:Nat):Int)/\MkL lo hi w wr) (fun _ v _=>n - (intOf v).toNat)
 case atStart=>exact ⟨0,nZ _,rfl,rfl,MkL.refl _ _ _⟩
 case round =>
  obtain ⟨i,hi',rfl,rfl,hm⟩:=hrel
  have HM:=h_ hm
  have HBr:=h_ (hm.bk _ _ _ (u_ HBk))
  clear hm
  by_cases hlt:i<n
  . have hlt':(i:Int)<n:=by omega
    obtain ⟨q,hq⟩:∃ q,k+i=q:=⟨_,rfl⟩
    have hq':(q:Int)<4611686018427387904:=by omega
    rw [hq]
    go_wp2_with fail
    refine (q44 q wr (by omega)).mono ?_
    rintro e W2 ⟨s,rfl,hb2⟩
    have HB2:=h_ ((u_ HBr).mono hb2 (u_ HBr).lt)
    obtain ⟨u,c0⟩:=(u_ HB2).cell hlt
    have f0:=(u_ HB2).free i
    have HM2:=h_ (((u_ HM).trans (MkL.below hb2)).trans (MkL.set i (.string s) hl hh))
    clear hb2
    go_wp2_with fail
    go_roundw
    case rel=>first | exact ⟨i+1,by omega,by go_num,by go_num,u_ HM2⟩ | ((repeat apply Exists.intro);exact ⟨⟨i+1,by omega,by go_num,by go_num,u_ HM2⟩,rfl⟩)
    case measure=>simp [intOf];omega
  . obtain rfl:i=n:=by omega
    have hlt':¬ (i:Int)<(i:Int):=by omega
    obtain ⟨q,hq⟩:∃ q,k+i=q:=⟨_,rfl⟩
    rw [hq]
    go_wp2_with fail
    go_ret
    exact ⟨rfl,u_ HM⟩
theorem q61 (g n c k lo hi:Nat) (w:World) (hk:k+n<=4611686018427387904) (hb:Bk w g 3 n) (hl:lo<=g) (hh:g<hi) :
 Calls Tryz.prog 77 #[.slice (some ⟨g,0,none⟩) n c,.int .i64 k] w fun r w'=>r=.returned (.int .i64 ((k+n:Nat):Int))/\MkL lo hi w w':=by
 have HBk:=h_ hb
 clear hb
 go_enter Tryz.func77,Tryz.ntmps77
 go_wp2_with fail
 go_loopw [1,5] (fun q v wr=>∃ i:Nat,i<=n/\v=.int .i64 i/\q=.int .i64 ((k+i:Nat):Int)/\MkL lo hi w wr) (fun _ v _=>n - (intOf v).toNat)
 case atStart=>exact ⟨0,nZ _,rfl,rfl,MkL.refl _ _ _⟩
 case round =>
  obtain ⟨i,hi',rfl,rfl,hm⟩:=hrel
  have HM:=h_ hm
  have HBr:=h_ (hm.bk _ _ _ (u_ HBk))
  clear hm
  by_cases hlt:i<n
  . have hlt':(i:Int)<n:=by omega
    obtain ⟨q,hq⟩:∃ q,k+i=q:=⟨_,rfl⟩
    have hq':(q:Int)<4611686018427387904:=by omega
    rw [hq]
    obtain ⟨u,c0⟩:=(u_ HBr).cell hlt
    have f0:=(u_ HBr).free i
    have HM2:=h_ ((u_ HM).trans (MkL.set i (.int .i64 (q:Int)) hl hh))
    go_wp2_with fail
    go_roundw
    case rel=>first | exact ⟨i+1,by omega,by go_num,by go_num,u_ HM2⟩ | ((repeat apply Exists.intro);exact ⟨⟨i+1,by omega,by go_num,by go_num,u_ HM2⟩,rfl⟩)
    case measure=>simp [intOf];omega
  . obtain rfl:i=n:=by omega
    have hlt':¬ (i:Int)<(i:Int):=by omega
    obtain ⟨q,hq⟩:∃ q,k+i=q:=⟨_,rfl⟩
    rw [hq]
    go_wp2_with fail
    go_ret
    exact ⟨rfl,u_ HM⟩
theorem q41 (g n c k lo hi:Nat) (w:World) (hk:k+n*2<=4611686018427387904) (hb:Bk w g 116 (n*2)) (hl:lo<=g) (hh:g<hi) :
 Calls Tryz.prog 46 #[.slice (some ⟨g,0,none⟩) n c,.int .i64 k] w fun r w'=>r=.returned (.int .i64 ((k+n*2:Nat):Int))/\MkL lo hi w w':=by
 have HBk:=h_ hb
 clear hb
 go_enter Tryz.func46,Tryz.ntmps46
 go_wp2_with fail
 go_loopw [1,5] (fun q v wr=>∃ i:Nat,i<=n/\v=.int .i64 i/\q=.int .i64 ((k+i*2:Nat):Int)/\MkL lo hi w wr) (fun _ v _=>n - (intOf v).toNat)
 case atStart=>exact ⟨0,nZ _,rfl,by simp,MkL.refl _ _ _⟩
 case round =>
  obtain ⟨i,hi',rfl,rfl,hm⟩:=hrel
  have HM:=h_ hm
  have HBr:=h_ (hm.bk _ _ _ (u_ HBk))
  clear hm
  by_cases hlt:i<n
  . have hlt':(i:Int)<n:=by omega
    obtain ⟨q,hq⟩:∃ q,k+i*2=q:=⟨_,rfl⟩
    have hq':(q:Int)+1<4611686018427387904:=by omega
    rw [hq]
    obtain ⟨u,c0⟩:=(u_ HBr).cell (show i*2<n*2 by omega)
    obtain ⟨u1,c1⟩:=(u_ HBr).cell (show i*2+1<n*2 by omega)
    have f0:=(u_ HBr).free (i*2);have f1:=(u_ HBr).free (i*2+1)
    have HM2:=h_ (((u_ HM).trans (MkL.set (i*2) (.int .i64 (q:Int)) hl hh)).trans (MkL.set (i*2+1) (.int .i64 ((q:Int)+1)) hl hh))
    go_wp2_with fail
    go_roundw
    case rel=>first | exact ⟨i+1,by omega,by go_num,by rw [show k+(i+1)*2=q+2 by omega];go_num,u_ HM2⟩ | ((repeat apply Exists.intro);exact ⟨⟨i+1,by omega,by go_num,by rw [show k+(i+1)*2=q+2 by omega];go_num,u_ HM2⟩,rfl⟩)
    case measure=>simp [intOf];omega
  . obtain rfl:i=n:=by omega
    have hlt':¬ (i:Int)<(i:Int):=by omega
    obtain ⟨q,hq⟩:∃ q,k+i*2=q:=⟨_,rfl⟩
    rw [hq]
    go_wp2_with fail
    go_ret
    exact ⟨rfl,u_ HM⟩
theorem q42 (g n c k lo hi:Nat) (w:World) (hk:k+n*2<=4611686018427387904) (hb:Bk w g 114 (n*2)) (hl:lo<=g) (hh:g<hi) :
 Calls Tryz.prog 47 #[.slice (some ⟨g,0,none⟩) n c,.int .i64 k] w fun r w'=>r=.returned (.int .i64 ((k+n*2:Nat):Int))/\MkL lo hi w w':=by
 have HBk:=h_ hb
 clear hb
 go_enter Tryz.func47,Tryz.ntmps47
 go_wp2_with fail
 go_loopw [1,5] (fun q v wr=>∃ i:Nat,i<=n/\v=.int .i64 i/\q=.int .i64 ((k+i*2:Nat):Int)/\MkL lo hi w wr) (fun _ v _=>n - (intOf v).toNat)
 case atStart=>exact ⟨0,nZ _,rfl,by simp,MkL.refl _ _ _⟩
 case round =>
  obtain ⟨i,hi',rfl,rfl,hm⟩:=hrel
  have HM:=h_ hm
  have HBr:=h_ (hm.bk _ _ _ (u_ HBk))
  clear hm
  by_cases hlt:i<n
  . have hlt':(i:Int)<n:=by omega
    obtain ⟨q,hq⟩:∃ q,k+i*2=q:=⟨_,rfl⟩
    have hq':(q:Int)+1<4611686018427387904:=by omega
    rw [hq]
    go_wp2_with fail
    refine (q44 q wr (by omega)).mono ?_
    rintro e W2 ⟨s,rfl,hb2⟩
    have HB2:=h_ ((u_ HBr).mono hb2 (u_ HBr).lt)
    obtain ⟨u,c0⟩:=(u_ HB2).cell (show i*2<n*2 by omega)
    obtain ⟨u1,c1⟩:=(u_ HB2).cell (show i*2+1<n*2 by omega)
    have f0:=(u_ HB2).free (i*2);have f1:=(u_ HB2).free (i*2+1)
    have HM2:=h_ ((((u_ HM).trans (MkL.below hb2)).trans (MkL.set (i*2) (.string s) hl hh)).trans (MkL.set (i*2+1) (.int .i64 ((q:Int)+1)) hl hh))
    clear hb2
    go_wp2_with fail
    go_roundw
    case rel=>first | exact ⟨i+1,by omega,by go_num,by rw [show k+(i+1)*2=q+2 by omega];go_num,u_ HM2⟩ | ((repeat apply Exists.intro);exact ⟨⟨i+1,by omega,by go_num,by rw [show k+(i+1)*2=q+2 by omega];go_num,u_ HM2⟩,rfl⟩)
    case measure=>simp [intOf];omega
  . obtain rfl:i=n:=by omega
    have hlt':¬ (i:Int)<(i:Int):=by omega
    obtain ⟨q,hq⟩:∃ q,k+i*2=q:=⟨_,rfl⟩
    rw [hq]
    go_wp2_with fail
    go_ret
    exact ⟨rfl,u_ HM⟩
theorem q40 (g n c k lo hi:Nat) (w:World) (hk:k+n*5<=4611686018427387904) (hb:Bk w g 184 (n*5)) (hl:lo<=g) (hh:g<hi) :
 Calls Tryz.prog 78 #[.slice (some ⟨g,0,none⟩) n c,.int .i64 k] w fun r w'=>r=.returned (.int .i64 ((k+n*5:Nat):Int))/\MkL lo hi w w':=by
 have HBk:=h_ hb
 clear hb
 go_enter Tryz.func78,Tryz.ntmps78
 go_wp2_with fail
 go_loopw [1,5] (fun q v wr=>∃ i:Nat,i<=n/\v=.int .i64 i/\q=.int .i64 ((k+i*5:Nat):Int)/\MkL lo hi w wr) (fun _ v _=>n - (intOf v).toNat)
 case atStart=>exact ⟨0,nZ _,rfl,by simp,MkL.refl _ _ _⟩
 case round =>
  obtain ⟨i,hi',rfl,rfl,hm⟩:=hrel
  have HM:=h_ hm
  have HBr:=h_ (hm.bk _ _ _ (u_ HBk))
  clear hm
  by_cases hlt:i<n
  . have hlt':(i:Int)<n:=by omega
    obtain ⟨q,hq⟩:∃ q,k+i*5=q:=⟨_,rfl⟩
    have hq':(q:Int)+5<4611686018427387904+1:=by omega
    rw [hq]
    obtain ⟨u,c0⟩:=(u_ HBr).cell (show i*5<n*5 by omega)
    obtain ⟨u1,c1⟩:=(u_ HBr).cell (show i*5+1<n*5 by omega)
    obtain ⟨u2,c2⟩:=(u_ HBr).cell (show i*5+2<n*5 by omega)
    have f0:=(u_ HBr).free (i*5);have f1:=(u_ HBr).free (i*5+1);have f2:=(u_ HBr).free (i*5+2)
    have HM1:=h_ ((((u_ HM).trans (MkL.set (i*5) (.int .i64 (q:Int)) hl hh)).trans (MkL.set (i*5+1) (.int .i64 ((q:Int)+1)) hl hh)).trans (MkL.set (i*5+2) (.int .i64 ((q:Int)+1+1)) hl hh))
    have HB1:=h_ ((((u_ HBr).set (i*5) (.int .i64 (q:Int))).set (i*5+1) (.int .i64 ((q:Int)+1))).set (i*5+2) (.int .i64 ((q:Int)+1+1)))
    go_wp2_with fail
    obtain ⟨W1,hW1⟩:∃ W1,((wr.setCell ⟨g,i*5,none⟩ (.int .i64 (q:Int))).setCell ⟨g,i*5+1,none⟩ (.int .i64 ((q:Int)+1))).setCell ⟨g,i*5+2,none⟩ (.int .i64 ((q:Int)+1+1))=W1:=⟨_,rfl⟩
    rw [hW1] at HM1 HB1 ⊢
    clear hW1 c0 c1 c2 f0 f1 f2
    have HT1:=h_ (q44 (q+1+1+1) W1 (by omega))
    simp only [Int.natCast_add,Int.cast_ofNat_Int] at HT1
    refine (u_ HT1).mono ?_
    rintro e W2 ⟨s,rfl,hb2⟩
    have HB2:=h_ ((u_ HB1).mono hb2 (u_ HB1).lt)
    obtain ⟨u,c0⟩:=(u_ HB2).cell (show i*5+3<n*5 by omega)
    have f0:=(u_ HB2).free (i*5+3)
    have HM2:=h_ (((u_ HM1).trans (MkL.below hb2)).trans (MkL.set (i*5+3) (.string s) hl hh))
    have HB2':=h_ ((u_ HB2).set (i*5+3) (.string s))
    clear hb2 HT1
    go_wp2_with fail
    obtain ⟨W3,hW3⟩:∃ W3,W2.setCell ⟨g,i*5+3,none⟩ (.string s)=W3:=⟨_,rfl⟩
    rw [hW3] at HM2 HB2' ⊢
    clear hW3 c0 f0
    have HT1:=h_ (q44 (q+1+1+1+1) W3 (by omega))
    simp only [Int.natCast_add,Int.cast_ofNat_Int] at HT1
    refine (u_ HT1).mono ?_
    rintro e W4 ⟨s2,rfl,hb4⟩
    have HB4:=h_ ((u_ HB2').mono hb4 (u_ HB2').lt)
    obtain ⟨u',c0⟩:=(u_ HB4).cell (show i*5+4<n*5 by omega)
    have f0:=(u_ HB4).free (i*5+4)
    have HM4:=h_ (((u_ HM2).trans (MkL.below hb4)).trans (MkL.set (i*5+4) (.string s2) hl hh))
    clear hb4 HT1
    go_wp2_with fail
    go_roundw
    case rel=>first | exact ⟨i+1,by omega,by go_num,by rw [show k+(i+1)*5=q+5 by omega];go_num,u_ HM4⟩ | ((repeat apply Exists.intro);exact ⟨⟨i+1,by omega,by go_num,by rw [show k+(i+1)*5=q+5 by omega];go_num,u_ HM4⟩,rfl⟩)
    case measure=>simp [intOf];omega
  . obtain rfl:i=n:=by omega
    have hlt':¬ (i:Int)<(i:Int):=by omega
    obtain ⟨q,hq⟩:∃ q,k+i*5=q:=⟨_,rfl⟩
    rw [hq]
    go_wp2_with fail
    go_ret
    exact ⟨rfl,u_ HM⟩
theorem Bk.cell_ne {w:World} {g:Nat} {t:TypeId} {n:Nat} (h:Bk w g t n) {p q:Nat} (hpq:p ≠ q) (v:Value):(w.setCell ⟨g,p,none⟩ v).cell? ⟨g,q,none⟩=w.cell? ⟨g,q,none⟩:=by
 obtain ⟨cs,h1,-⟩:=h
 rw [(h1.set p v).cell q,h1.cell q,List.getElem?_set_ne hpq]
def SC (w:World) (g:Nat) (l:List Fl) (AF:Nat->FA):Prop:=∀ j (h:j<l.length),w.cell? ⟨g,j*9+3,none⟩=some (.slice (AF j).b l[j].bys.length (AF j).bc)/\w.cell? ⟨g,j*9+4,none⟩=some (.slice (AF j).i l[j].is.length (AF j).ic)/\w.cell? ⟨g,j*9+5,none⟩=some (.slice (AF j).h l[j].wh.length (AF j).hc)/\w.cell? ⟨g,j*9+6,none⟩=some (.slice (AF j).v l[j].va.length (AF j).vc)/\w.cell? ⟨g,j*9+8,none⟩=some (.slice (AF j).u l[j].mu.length (AF j).uc)
theorem SC.keep {w w':World} {g:Nat} {l:List Fl} {AF:Nat->FA} (h:SC w g l AF) (hk:w'.heap[g]? = w.heap[g]?):SC w' g l AF:=fun j hj=>by
 obtain ⟨h3,h4,h5,h6,h8⟩:=h j hj
 exact ⟨(World.cell?_of_block (a:=⟨g,j*9+3,none⟩) hk).trans h3,(World.cell?_of_block (a:=⟨g,j*9+4,none⟩) hk).trans h4,(World.cell?_of_block (a:=⟨g,j*9+5,none⟩) hk).trans h5,(World.cell?_of_block (a:=⟨g,j*9+6,none⟩) hk).trans h6,(World.cell?_of_block (a:=⟨g,j*9+8,none⟩) hk).trans h8⟩
theorem SC.set {w:World} {g:Nat} {t:TypeId} {n:Nat} {l:List Fl} {AF:Nat->FA} (h:SC w g l AF) (hb:Bk w g t n) {p:Nat} (hp:∀ j,p ≠ j*9+3/\p ≠ j*9+4/\p ≠ j*9+5/\p ≠ j*9+6/\p ≠ j*9+8) (v:Value):SC (w.setCell ⟨g,p,none⟩ v) g l AF:=fun j hj=>by
 obtain ⟨h3,h4,h5,h6,h8⟩:=h j hj
 obtain ⟨n3,n4,n5,n6,n8⟩:=hp j
 exact ⟨(hb.cell_ne n3 v).trans h3,(hb.cell_ne n4 v).trans h4,(hb.cell_ne n5 v).trans h5,(hb.cell_ne n6 v).trans h6,(hb.cell_ne n8 v).trans h8⟩
structure MkS (g hi:Nat) (l:List Fl) (AF:Nat->FA) (w W:World):Prop where
 m:MkL g hi w W
 s:SC W g l AF
theorem MkS.below {g hi:Nat} {l:List Fl} {AF:Nat->FA} {w W W':World} (h:MkS g hi l AF w W) (hg:g<W.heap.size) (hb:Below W.heap.size W W'):MkS g hi l AF w W':=⟨h.m.trans (MkL.below hb),h.s.keep (hb.block g hg)⟩
theorem MkS.set {g hi:Nat} {l:List Fl} {AF:Nat->FA} {w W:World} {t:TypeId} {n:Nat} (h:MkS g hi l AF w W) (hb:Bk W g t n) (hh:g<hi) {p:Nat} (hp:∀ j,p ≠ j*9+3/\p ≠ j*9+4/\p ≠ j*9+5/\p ≠ j*9+6/\p ≠ j*9+8) (v:Value):MkS g hi l AF w (W.setCell ⟨g,p,none⟩ v):=⟨h.m.trans (MkL.set p v (nR _) hh),h.s.set hb hp v⟩
theorem MkS.mk' {g hi:Nat} {l:List Fl} {AF:Nat->FA} {w W W':World} (h:MkS g hi l AF w W) (hg:g<W.heap.size) (hm:MkL (g+1) hi W W'):MkS g hi l AF w W':=⟨h.m.trans (hm.lower (Nat.le_succ _)),h.s.keep (hm.out.block g hg (by omega))⟩
theorem q2q (g c k hi B:Nat) (l:List Fl) (AF:Nat->FA) (w0 w:World) (hB:B=30000000) (hn:l.length<=1048576) (hk:k+l.length*B<=4611686018427387904) (hz:w0.heap.size=hi) (hbk:∀ g t n,Bk w0 g t n->Bk w g t n) (h4:Bk w0 g 122 (l.length*9)) (hc:SC w g l AF) (hf:∀ j (h:j<l.length),FBk (g+1) w0 l[j] (AF j)) (hs:∀ x,x ∈ l->SmF x) :
 Calls Tryz.prog 48 #[.slice (some ⟨g,0,none⟩) l.length c,.int .i64 k] w fun r w'=>∃ k':Nat,r=.returned (.int .i64 k')/\k'<=k+l.length*B/\MkL g hi w w':=by
 have hh:g<hi:=by have:=h4.lt;omega
 have HBq:=h_ hB
 clear hB
 have HBk:=h_ hbk;have H4:=h_ h4;have HC:=h_ hc;have HF:=h_ hf;have HS:=h_ hs
 clear hbk h4 hc hf hs
 go_enter Tryz.func48,Tryz.ntmps48
 go_wp2_with fail
 go_loopw [1,5] (fun q v wr=>∃ i q':Nat,i<=l.length/\v=.int .i64 i/\q=.int .i64 (q':Int)/\q'<=k+i*B/\MkS g hi l AF w wr) (fun _ v _=>l.length - (intOf v).toNat)
 case atStart=>exact ⟨0,k,nZ _,rfl,rfl,by simp,⟨MkL.refl _ _ _,u_ HC⟩⟩
 case round =>
  clear HC
  obtain ⟨i,q,hil,rfl,rfl,hqk,hm⟩:=hrel
  have HM:=h_ hm
  clear hm
  by_cases hlt:i<l.length
  . have hlt':(i:Int)<l.length:=by omega
    have HQe:Hid (∀ q':Nat,q'<=q+30000000->q'<=k+(i+1)*B):=h_ fun q' h=>by have:=u_ HBq;rw [Nat.succ_mul];omega
    have hq0:q+30000000<=4611686018427387904:=by
     have:(i+1)*B<=l.length*B:=Nat.mul_le_mul_right _ (by omega)
     rw [Nat.succ_mul] at this
     have:=u_ HBq
     omega
    have hq':(q:Int)+30000000<=4611686018427387904:=by omega
    clear hqk hk
    have hsm:=u_ HS _ (List.getElem_mem hlt)
    have m1:=hsm.b;have m2:=hsm.i;have m3:=hsm.h;have m4:=hsm.v;have m5:=hsm.u
    obtain ⟨g1,g2,g3,g4,g5,e1,e2,e3,e4,e5,⟨l1,l2,l3,l4,l5⟩,b1,b2,b3,b4,b5⟩:=u_ HF i hlt
    have hg1:=b1.lt;have hg2:=b2.lt;have hg3:=b3.lt;have hg4:=b4.lt;have hg5:=b5.lt
    rw [hz] at hg1 hg2 hg3 hg4 hg5
    have HK1:Hid (∀ W,MkL g hi w W->Bk W g1 3 l[i].bys.length/\Bk W g2 184 (l[i].is.length*5)/\Bk W g3 184 (l[i].wh.length*5)/\Bk W g4 184 (l[i].va.length*5)/\Bk W g5 184 (l[i].mu.length*5)/\Bk W g 122 (l.length*9)):=h_ fun W h=>⟨h.bk _ _ _ (u_ HBk _ _ _ b1),h.bk _ _ _ (u_ HBk _ _ _ b2),h.bk _ _ _ (u_ HBk _ _ _ b3),h.bk _ _ _ (u_ HBk _ _ _ b4),h.bk _ _ _ (u_ HBk _ _ _ b5),h.bk _ _ _ (u_ HBk _ _ _ (u_ H4))⟩
    have HK2:Hid (∀ W,MkS g hi l AF w W->W.cell? ⟨g,i*9+3,none⟩=some (.slice (some ⟨g1,0,none⟩) l[i].bys.length (AF i).bc)/\W.cell? ⟨g,i*9+4,none⟩=some (.slice (some ⟨g2,0,none⟩) l[i].is.length (AF i).ic)/\W.cell? ⟨g,i*9+5,none⟩=some (.slice (some ⟨g3,0,none⟩) l[i].wh.length (AF i).hc)/\W.cell? ⟨g,i*9+6,none⟩=some (.slice (some ⟨g4,0,none⟩) l[i].va.length (AF i).vc)/\W.cell? ⟨g,i*9+8,none⟩=some (.slice (some ⟨g5,0,none⟩) l[i].mu.length (AF i).uc)):=h_ fun W h=>by
     have:=h.s i hlt
     rw [e1,e2,e3,e4,e5] at this
     exact this
    generalize l[i].bys.length=n1 at *
    generalize l[i].is.length=n2 at *
    generalize l[i].wh.length=n3 at *
    generalize l[i].va.length=n4 at *
    generalize l[i].mu.length=n5 at *
    generalize (AF i).bc=c1 at *
    generalize (AF i).ic=c2 at *
    generalize (AF i).hc=c3 at *
    generalize (AF i).vc=c4 at *
    generalize (AF i).uc=c5 at *
    clear e1 e2 e3 e4 e5 b1 b2 b3 b4 b5 hsm
    go_wp2_with fail
    refine (q44 q wr (by omega)).mono ?_
    rintro e W1 ⟨s,rfl,hb1⟩
    have HB0:=h_ (u_ HK1 _ (u_ HM).m).2.2.2.2.2
    have HM1:=h_ ((u_ HM).below (u_ HB0).lt hb1)
    have HB1:=h_ ((u_ HB0).mono hb1 (u_ HB0).lt)
    clear hb1 HM HB0
    obtain ⟨u0,c0'⟩:=(u_ HB1).cell (show i*9<l.length*9 by omega)
    obtain ⟨u1,c1'⟩:=(u_ HB1).cell (show i*9+1<l.length*9 by omega)
    obtain ⟨u2,c2'⟩:=(u_ HB1).cell (show i*9+2<l.length*9 by omega)
    have f0:=(u_ HB1).free (i*9);have f1:=(u_ HB1).free (i*9+1);have f2:=(u_ HB1).free (i*9+2)
    have HM2:=h_ ((((u_ HM1).set (u_ HB1) hh (p:=i*9) (fun j=>by omega) (.string s)).set ((u_ HB1).set (i*9) (.string s)) hh (p:=i*9+1) (fun j=>by omega) (.int .i64 ((q:Int)+1))).set (((u_ HB1).set (i*9) (.string s)).set (i*9+1) (.int .i64 ((q:Int)+1))) hh (p:=i*9+2) (fun j=>by omega) (.int .i64 ((q:Int)+1+1)))
    obtain ⟨W2,hW2⟩:∃ W2,((W1.setCell ⟨g,i*9,none⟩ (.string s)).setCell ⟨g,i*9+1,none⟩ (.int .i64 ((q:Int)+1))).setCell ⟨g,i*9+2,none⟩ (.int .i64 ((q:Int)+1+1))=W2:=⟨_,rfl⟩
    rw [hW2] at HM2
    obtain ⟨d3,d4,d5,d6,d8⟩:=u_ HK2 _ (u_ HM2)
    have HT:=h_ (q61 g1 n1 c1 (q+1+1+1) (g+1) hi W2 (by omega) (u_ HK1 _ (u_ HM2).m).1 (by omega) (by omega))
    obtain ⟨p1,hp1⟩:∃ p1,q+1+1+1+n1=p1:=⟨_,rfl⟩
    rw [hp1] at HT
    simp only [Int.natCast_add,Int.cast_ofNat_Int] at HT
    clear d4 d5 d6 d8
    go_wp2_with fail
    try rw [hW2]
    refine (u_ HT).mono ?_
    rintro e W3 ⟨rfl,hm3⟩
    have HM3:=h_ ((u_ HM2).mk' (u_ HK1 _ (u_ HM2).m).2.2.2.2.2.lt hm3)
    clear hm3 HT hW2 d3 c0' c1' c2' f0 f1 f2 HM2 HM1 HB1
    obtain ⟨d3,d4,d5,d6,d8⟩:=u_ HK2 _ (u_ HM3)
    have HT:=h_ (q40 g2 n2 c2 p1 (g+1) hi W3 (by omega) (u_ HK1 _ (u_ HM3).m).2.1 (by omega) (by omega))
    obtain ⟨p2,hp2⟩:∃ p,p1+n2*5=p:=⟨_,rfl⟩
    rw [hp2] at HT
    go_wp2_with fail
    refine (u_ HT).mono ?_
    rintro e W4 ⟨rfl,hm3⟩
    have HM4:=h_ ((u_ HM3).mk' (u_ HK1 _ (u_ HM3).m).2.2.2.2.2.lt hm3)
    clear hm3 HT d3 d4 d5 d6 d8 HM3
    obtain ⟨d3,d4,d5,d6,d8⟩:=u_ HK2 _ (u_ HM4)
    have HT:=h_ (q40 g3 n3 c3 p2 (g+1) hi W4 (by omega) (u_ HK1 _ (u_ HM4).m).2.2.1 (by omega) (by omega))
    obtain ⟨p3,hp3⟩:∃ p,p2+n3*5=p:=⟨_,rfl⟩
    rw [hp3] at HT
    go_wp2_with fail
    refine (u_ HT).mono ?_
    rintro e W5 ⟨rfl,hm3⟩
    have HM5:=h_ ((u_ HM4).mk' (u_ HK1 _ (u_ HM4).m).2.2.2.2.2.lt hm3)
    clear hm3 HT d3 d4 d5 d6 d8 HM4
    obtain ⟨d3,d4,d5,d6,d8⟩:=u_ HK2 _ (u_ HM5)
    have HT:=h_ (q40 g4 n4 c4 p3 (g+1) hi W5 (by omega) (u_ HK1 _ (u_ HM5).m).2.2.2.1 (by omega) (by omega))
    obtain ⟨p4,hp4⟩:∃ p,p3+n4*5=p:=⟨_,rfl⟩
    rw [hp4] at HT
    go_wp2_with fail
    refine (u_ HT).mono ?_
    rintro e W6 ⟨rfl,hm3⟩
    have HM6:=h_ ((u_ HM5).mk' (u_ HK1 _ (u_ HM5).m).2.2.2.2.2.lt hm3)
    clear hm3 HT d3 d4 d5 d6 d8 HM5
    have hp4':(p4:Int)<=4611686018427387904 - 5300000:=by omega
    go_wp2_with fail
    refine (q44 p4 W6 (by omega)).mono ?_
    rintro e W7 ⟨s2,rfl,hb7⟩
    have HB6:=h_ (u_ HK1 _ (u_ HM6).m).2.2.2.2.2
    have HM7:=h_ ((u_ HM6).below (u_ HB6).lt hb7)
    have HB7:=h_ ((u_ HB6).mono hb7 (u_ HB6).lt)
    clear hb7 HM6 HB6
    obtain ⟨u7,c7'⟩:=(u_ HB7).cell (show i*9+7<l.length*9 by omega)
    have f7:=(u_ HB7).free (i*9+7)
    have HM8:=h_ ((u_ HM7).set (u_ HB7) hh (p:=i*9+7) (fun j=>by omega) (.string s2))
    obtain ⟨W8,hW8⟩:∃ W8,W7.setCell ⟨g,i*9+7,none⟩ (.string s2)=W8:=⟨_,rfl⟩
    rw [hW8] at HM8
    obtain ⟨d3,d4,d5,d6,d8⟩:=u_ HK2 _ (u_ HM8)
    have HT:=h_ (q40 g5 n5 c5 (p4+1) (g+1) hi W8 (by omega) (u_ HK1 _ (u_ HM8).m).2.2.2.2.1 (by omega) (by omega))
    obtain ⟨p5,hp5⟩:∃ p,p4+1+n5*5=p:=⟨_,rfl⟩
    rw [hp5] at HT
    simp only [Int.natCast_add,Int.cast_ofNat_Int] at HT
    clear d3 d4 d5 d6
    go_wp2_with fail
    try rw [hW8]
    refine (u_ HT).mono ?_
    rintro e W9 ⟨rfl,hm3⟩
    have HM9:=h_ ((u_ HM8).mk' (u_ HK1 _ (u_ HM8).m).2.2.2.2.2.lt hm3)
    have HQ9:=h_ (u_ HQe p5 (by omega))
    clear hm3 HT hW8 d8 c7' f7 HM8 HM7 HB7
    go_wp2_with fail
    go_roundw
    case rel=>first | exact ⟨i+1,p5,by omega,by go_num,rfl,u_ HQ9,u_ HM9⟩ | ((repeat apply Exists.intro);exact ⟨⟨i+1,p5,by omega,by go_num,rfl,u_ HQ9,u_ HM9⟩,rfl⟩)
    case measure=>simp [intOf];omega
  . obtain rfl:i=l.length:=by omega
    have hlt':¬ (l.length:Int)<(l.length:Int):=by omega
    go_wp2_with fail
    go_ret
    exact ⟨q,rfl,hqk,(u_ HM).m⟩
theorem MkL.raise {lo hi hi':Nat} {W W':World} (h:MkL lo hi W W') (hh:hi<=hi'):MkL lo hi' W W':=⟨⟨h.out.os,h.out.tape,h.out.output,h.out.size,fun b hb hn=>h.out.block b hb (fun c=>hn ⟨c.1,by omega⟩)⟩,h.bk⟩
theorem sc_of {w:World} {g:Nat} {l:List Fl} {AF:Nat->FA} (h:Flds w (some ⟨g,0,none⟩) l AF):SC w g l AF:=fun j hj=>by
 obtain ⟨b,o,e,⟨-,-,-,-,h3,h4,h5,h6,-,h8⟩,-⟩:=h j hj
 cases e
 simp only [Nat.zero_add] at h3 h4 h5 h6 h8
 exact ⟨h3,h4,h5,h6,h8⟩
theorem q60 (m:Fm) (A:MA) (lo hi:Nat) (w0 w:World) (hn:Sm m) (hz:w0.heap.size=hi) (hM:MBk lo w0 m A) (hbk:∀ g t n,Bk w0 g t n->Bk w g t n) (hs:MSl w m A) :
 Calls Tryz.prog 14 #[mV m A,.int .i64 1] w fun r w'=>∃ k':Nat,r=.returned (.int .i64 k')/\k'<=1152921504606846976/\MkL lo hi w w':=by
 obtain ⟨al,alc,ap,apc,ar,arc,af,afc,afa⟩:=A
 obtain ⟨g1,g2,g3,g4,e1,e2,e3,e4,⟨l1,l2,l3,l4⟩,⟨t1,t2,t3⟩,b1,b2,b3,b4,hf⟩:=hM
 dsimp only at e1 e2 e3 e4 hf
 subst e1 e2 e3 e4
 have hSC:=sc_of hs.f
 dsimp only at hSC
 have hg4:g4<hi:=by have:=b4.lt;omega
 have m1:=hn.l;have m2:=hn.p;have m3:=hn.r;have m4:=hn.f
 have HSm:=h_ hn.s;have HSC:=h_ hSC;have HF:=h_ hf
 have HK1:Hid (∀ W,(∀ g t n,Bk w g t n->Bk W g t n)->Bk W g1 9 m.L.length/\Bk W g2 116 (m.P.length*2)/\Bk W g3 114 (m.R.length*2)):=h_ fun W h=>⟨h _ _ _ (hbk _ _ _ b1),h _ _ _ (hbk _ _ _ b2),h _ _ _ (hbk _ _ _ b3)⟩
 have HBk:Hid (∀ W,(∀ g t n,Bk w g t n->Bk W g t n)->∀ g t n,Bk w0 g t n->Bk W g t n):=h_ fun W h g t n hb=>h _ _ _ (hbk _ _ _ hb)
 have HB4:=h_ b4
 have hgw:g4<w.heap.size:=(hbk _ _ _ b4).lt
 clear hn hs hSC hf hbk b1 b2 b3 b4
 unfold mV
 dsimp only
 have HK:=h_ (Blk.new w 37 #[.slice (some ⟨g1,0,none⟩) m.L.length alc,.slice (some ⟨g2,0,none⟩) m.P.length apc,.slice (some ⟨g3,0,none⟩) m.R.length arc,.slice (some ⟨g4,0,none⟩) m.F.length afc])
 have HB:=h_ ((bR w.heap.size w).alloc (nR _) (.cells #[.slice (some ⟨g1,0,none⟩) m.L.length alc,.slice (some ⟨g2,0,none⟩) m.P.length apc,.slice (some ⟨g3,0,none⟩) m.R.length arc,.slice (some ⟨g4,0,none⟩) m.F.length afc] 37))
 obtain ⟨W0,hW0⟩:∃ W0,w.alloc (.cells #[.slice (some ⟨g1,0,none⟩) m.L.length alc,.slice (some ⟨g2,0,none⟩) m.P.length apc,.slice (some ⟨g3,0,none⟩) m.R.length arc,.slice (some ⟨g4,0,none⟩) m.F.length afc] 37)=W0:=⟨_,rfl⟩
 rw [hW0] at HK HB
 have HM:Hid (MkL lo g4 w W0):=h_ (MkL.below (u_ HB))
 have hgx:g4<w.heap.size:=hgw
 clear HB
 have HT:=h_ (q21 g1 m.L.length alc 1 lo g4 W0 (by omega) (u_ HK1 _ (u_ HM).bk).1 l1 t1)
 obtain ⟨y0,y1,y2,y3⟩:=quad (u_ HK)
 obtain ⟨p1,hp1⟩:∃ p1,1+m.L.length=p1:=⟨_,rfl⟩
 rw [hp1] at HT
 simp only [Int.cast_ofNat_Int] at HT
 go_enter Tryz.func14,Tryz.ntmps14
 go_wp2_with fail
 try rw [hW0]
 refine (u_ HT).mono ?_
 rintro e W1 ⟨rfl,hm1⟩
 replace HK:=h_ (hm1.out.blk (u_ HK) (by omega));replace HM:=h_ ((u_ HM).trans hm1)
 clear hm1 hW0 y0 y1 y2 y3 HT
 have HT:=h_ (q41 g2 m.P.length apc p1 lo g4 W1 (by omega) (u_ HK1 _ (u_ HM).bk).2.1 l2 t2)
 obtain ⟨y0,y1,y2,y3⟩:=quad (u_ HK)
 obtain ⟨p2,hp2⟩:∃ p,p1+m.P.length*2=p:=⟨_,rfl⟩
 rw [hp2] at HT
 go_wp2_with fail
 refine (u_ HT).mono ?_
 rintro e W2 ⟨rfl,hm1⟩
 replace HK:=h_ (hm1.out.blk (u_ HK) (by omega));replace HM:=h_ ((u_ HM).trans hm1)
 clear hm1 y0 y1 y2 y3 HT
 have HT:=h_ (q42 g3 m.R.length arc p2 lo g4 W2 (by omega) (u_ HK1 _ (u_ HM).bk).2.2 l3 t3)
 obtain ⟨y0,y1,y2,y3⟩:=quad (u_ HK)
 obtain ⟨p3,hp3⟩:∃ p,p2+m.R.length*2=p:=⟨_,rfl⟩
 rw [hp3] at HT
 go_wp2_with fail
 refine (u_ HT).mono ?_
 rintro e W3 ⟨rfl,hm1⟩
 replace HK:=h_ (hm1.out.blk (u_ HK) (by omega));replace HM:=h_ ((u_ HM).trans hm1)
 clear hm1 y0 y1 y2 y3 HT
 obtain ⟨B,hB⟩:∃ B,B=30000000:=⟨_,rfl⟩
 have hm:m.F.length*B<=31457280000000:=by rw [hB];omega
 have HT:=h_ (q2q g4 afc p3 hi B m.F afa w0 W3 hB m4 (by omega) hz (u_ HBk _ (u_ HM).bk) (u_ HB4) ((u_ HSC).keep ((u_ HM).out.block g4 hgw (by omega))) (u_ HF) (u_ HSm))
 obtain ⟨y0,y1,y2,y3⟩:=quad (u_ HK)
 have hpq:p3+m.F.length*B<=1152921504606846976:=by omega
 clear hB
 generalize m.F.length*B=z at *
 go_wp2_with fail
 refine (u_ HT).mono ?_
 rintro e W4 ⟨k',rfl,hk',hm1⟩
 have HMf:Hid (MkL lo hi w W4):=h_ (((u_ HM).raise (by omega)).trans (hm1.lower l4))
 clear hm1 y0 y1 y2 y3 HT
 go_wp2_with fail
 go_ret
 exact ⟨k',rfl,by omega,u_ HMf⟩
theorem qfx {w:World} {base c n i:Nat} {a:Option Addr} {xs:List Value} (h:w.ownsRow base 3 1 (.slice a n c) n xs) (hi:i<n):∃ g,a=some ⟨g,0,none⟩/\base<=g/\g<w.heap.size:=by
 rcases h.2 with ⟨h1,h2⟩ | ⟨g,cap,cur,h1,hb,hg,r⟩
 . omega
 . cases h1
   exact ⟨g,rfl,hb,(Array.getElem?_eq_some_iff.1 hg).1⟩
def mtF:Nat->Nat->ByteArray->ByteArray
 | 0,_,t=>t
 | f+1,q,t=>if q=0 then t else mtF f (q / 10) (ByteArray.empty.push (UInt8.ofNat (48+(q:Int) % 10).toNat)++t)
def mkT (k:Nat):ByteArray:=⟨#[109]⟩++mtF k k ⟨#[]⟩
theorem qfn (f:Nat) (t:ByteArray):mtF f 0 t=t:=by cases f <;> rfl
theorem q62 (k:Nat) (w:World) (h1:0<k) (hk:k<=4611686018427387904):Calls Tryz.prog 49 #[.int .i64 k] w fun r w'=>r=.returned (.string (mkT k))/\Below w.heap.size w w':=by
 have h0':¬ (k:Int)<=0:=by omega
 have hk':(k:Int)<=4611686018427387904:=by omega
 go_enter Tryz.func49,Tryz.ntmps49
 go_wp2_with fail
 go_loopw [0,3] (fun v s wr=>∃ (q:Nat) (t:ByteArray),v=.int .i64 q/\s=.string t/\t.size+q<=4611686018427387904/\(∃ f,q<=f/\mtF k k ⟨#[]⟩=mtF f q t)/\Below w.heap.size w wr) (fun v _ _=>(intOf v).toNat)
 case atStart=>exact ⟨k,_,rfl,rfl,by show 0+k<=_;omega,⟨k,nR _,rfl⟩,bR _ _⟩
 case round =>
  clear h1 h0' hk' hk
  obtain ⟨q,t,rfl,rfl,hq,⟨f,hf,hm⟩,hb⟩:=hrel
  have HB:=h_ hb
  clear hb
  have hts:t.size<=4611686018427387904:=by omega
  have hts':(t.size:Int)<=4611686018427387904:=by omega
  by_cases h0:q=0
  . subst h0
    have HM:Hid (mkT k=⟨#[109]⟩++t):=h_ (by unfold mkT;rw [hm,qfn])
    clear hm hf
    go_wp2_with fail
    go_ret
    rw [u_ HM]
    exact ⟨rfl,u_ HB⟩
  . have h0':(0:Int)<q:=by omega
    have hq':(q:Int)<=4611686018427387904:=by omega
    obtain ⟨s1,hs1⟩:∃ s1,ByteArray.empty.push (UInt8.ofNat (48+(q:Int) % 10).toNat)=s1:=⟨_,rfl⟩
    have hz1:s1.size=1:=by rw [<- hs1];rfl
    have HM:Hid (∃ f,q / 10<=f/\mtF k k ⟨#[]⟩=mtF f (q / 10) (s1++t)):=h_ (by
     obtain ⟨f',rfl⟩:∃ f',f=f'+1:=⟨f - 1,by omega⟩
     refine ⟨f',by omega,?_⟩
     rw [hm,<- hs1]
     show (if q=0 then t else _)=_
     rw [if_neg h0])
    have hcv:=qeg wr (48+(q:Int) % 10)
    rw [hs1] at hcv
    clear hs1 hm hf
    have HB2:=h_ ((u_ HB).alloc (u_ HB).size (.cells #[.int .u8 (48+(q:Int) % 10)] 5))
    go_wp2_with fail
    clear hcv
    go_roundw
    case rel=>exact ⟨q / 10,_,by go_num,rfl,by rw [ByteArray.size_append];omega,u_ HM,u_ HB2⟩
    case measure=>simp [intOf];omega
theorem Bk.cell_eq {w:World} {g:Nat} {t:TypeId} {n j:Nat} (h:Bk w g t n) (hj:j<n) (v:Value):(w.setCell ⟨g,j,none⟩ v).cell? ⟨g,j,none⟩=some v:=h.elim fun cs h=>by
 rw [(h.1.set j v).cell j,List.getElem?_set_self (by rw [h.2];exact hj)]
def Pre (w:World) (g:Nat) (xs:List Value):Prop:=∀ p,p<xs.length->w.cell? ⟨g,p,none⟩=xs[p]?
theorem Pre.mono {w w':World} {g B:Nat} {xs:List Value} (h:Pre w g xs) (hb:Below B w w') (hg:g<B):Pre w' g xs:=fun p hp=>(hb.cell (p:=⟨g,p,none⟩) hg).trans (h p hp)
theorem Pre.set {w:World} {g:Nat} {t:TypeId} {n j:Nat} {xs:List Value} (h:Pre w g xs) (hb:Bk w g t n) (hj:xs.length=j) (hl:j<n) (v:Value):Pre (w.setCell ⟨g,j,none⟩ v) g (xs++[v]):=fun p hp=>by
 rw [List.length_append,List.length_singleton] at hp
 by_cases e:p=j
 . subst e
   rw [hb.cell_eq hl,List.getElem?_append_right (by omega),hj,Nat.sub_self];rfl
 . rw [hb.cell_ne (fun e'=>e e'.symm),h p (by omega),List.getElem?_append_left (by omega)]
def mkC (q:Nat):List Value:=[.int .i64 (q:Int),.int .i64 ((q:Int)+1),.int .i64 ((q:Int)+1+1),.string (mkT (q+1+1+1)),.bool (((q:Int)+1+1+1+1) % 3 == 0),.int .i64 ((q:Int)+1+1+1+1+1),.string (mkT (q+1+1+1+1+1+1))]
def mkL:Nat->List Value
 | 0=>[]
 | i+1=>mkL i++mkC (1+i*7)
theorem qk3 (n:Nat):(mkL n).length=n*7:=by
 induction n with
 | zero=>rfl
 | succ n ih=>show (mkL n++mkC _).length=_;rw [List.length_append,ih];show _+7=_;omega
theorem qk2 {n i p:Nat} (hi:i<n) (hp:p<7):(mkL n)[i*7+p]? = (mkC (1+i*7))[p]?:=by
 induction n with
 | zero=>omega
 | succ n ih =>
  show (mkL n++mkC (1+n*7))[i*7+p]? = _
  by_cases e:i=n
  . subst e
    rw [List.getElem?_append_right (by rw [qk3];omega),qk3]
    congr 1;omega
  . rw [List.getElem?_append_left (by rw [qk3];omega)]
    exact ih (by omega)
theorem q3z (g n c k lo hi:Nat) (w:World) (hk:k+n*6<=4611686018427387904) (hb:Bk w g 70 (n*6)) (hl:lo<=g) (hh:g<hi) :
 Calls Tryz.prog 15 #[.slice (some ⟨g,0,none⟩) n c,.int .i64 k] w fun r w'=>r=.returned (.int .i64 ((k+n*6:Nat):Int))/\MkL lo hi w w':=by
 have HBk:=h_ hb
 clear hb
 go_enter Tryz.func15,Tryz.ntmps15
 go_wp2_with fail
 go_loopw [1,5] (fun q v wr=>∃ i:Nat,i<=n/\v=.int .i64 i/\q=.int .i64 ((k+i*6:Nat):Int)/\MkL lo hi w wr) (fun _ v _=>n - (intOf v).toNat)
 case atStart=>exact ⟨0,nZ _,rfl,by simp,MkL.refl _ _ _⟩
 case round =>
  obtain ⟨i,hi',rfl,rfl,hm⟩:=hrel
  have HM:=h_ hm
  have HBr:=h_ (hm.bk _ _ _ (u_ HBk))
  clear hm
  by_cases hlt:i<n
  . have hlt':(i:Int)<n:=by omega
    obtain ⟨q,hq⟩:∃ q,k+i*6=q:=⟨_,rfl⟩
    have hq':(q:Int)+6<4611686018427387904+1:=by omega
    rw [hq]
    obtain ⟨u,c0⟩:=(u_ HBr).cell (show i*6<n*6 by omega)
    obtain ⟨u1,c1⟩:=(u_ HBr).cell (show i*6+1<n*6 by omega)
    have f0:=(u_ HBr).free (i*6);have f1:=(u_ HBr).free (i*6+1)
    have HM1:=h_ (((u_ HM).trans (MkL.set (i*6) (.int .i64 (q:Int)) hl hh)).trans (MkL.set (i*6+1) (.int .i64 ((q:Int)+1)) hl hh))
    have HB1:=h_ (((u_ HBr).set (i*6) (.int .i64 (q:Int))).set (i*6+1) (.int .i64 ((q:Int)+1)))
    go_wp2_with fail
    obtain ⟨W1,hW1⟩:∃ W1,(wr.setCell ⟨g,i*6,none⟩ (.int .i64 (q:Int))).setCell ⟨g,i*6+1,none⟩ (.int .i64 ((q:Int)+1))=W1:=⟨_,rfl⟩
    rw [hW1] at HM1 HB1 ⊢
    clear hW1 c0 c1 f0 f1
    have HT1:=h_ (q44 (q+1+1) W1 (by omega))
    simp only [Int.natCast_add,Int.cast_ofNat_Int] at HT1
    refine (u_ HT1).mono ?_
    rintro e W2 ⟨s,rfl,hb2⟩
    have HB2:=h_ ((u_ HB1).mono hb2 (u_ HB1).lt)
    obtain ⟨u2,c2⟩:=(u_ HB2).cell (show i*6+2<n*6 by omega)
    obtain ⟨u3,c3⟩:=(u_ HB2).cell (show i*6+3<n*6 by omega)
    obtain ⟨u4,c4⟩:=(u_ HB2).cell (show i*6+4<n*6 by omega)
    obtain ⟨u5,c5⟩:=(u_ HB2).cell (show i*6+5<n*6 by omega)
    have f2:=(u_ HB2).free (i*6+2);have f3:=(u_ HB2).free (i*6+3);have f4:=(u_ HB2).free (i*6+4);have f5:=(u_ HB2).free (i*6+5)
    have HM2:=h_ (((((u_ HM1).trans (MkL.below hb2)).trans (MkL.set (i*6+2) (.string s) hl hh)).trans (MkL.set (i*6+3) (.bool (((q:Int)+1+1+1) % 3 == 0)) hl hh)).trans (MkL.set (i*6+4) (.bool (((q:Int)+1+1+1+1) % 3 == 0)) hl hh))
    have HM3:=h_ ((u_ HM2).trans (MkL.set (i*6+5) (.bool (((q:Int)+1+1+1+1+1) % 3 == 0)) hl hh))
    clear hb2 HT1 HM2
    go_wp2_with fail
    go_roundw
    case rel=>first | exact ⟨i+1,by omega,by go_num,by rw [show k+(i+1)*6=q+6 by omega];go_num,u_ HM3⟩ | ((repeat apply Exists.intro);exact ⟨⟨i+1,by omega,by go_num,by rw [show k+(i+1)*6=q+6 by omega];go_num,u_ HM3⟩,rfl⟩)
    case measure=>simp [intOf];omega
  . obtain rfl:i=n:=by omega
    have hlt':¬ (i:Int)<(i:Int):=by omega
    obtain ⟨q,hq⟩:∃ q,k+i*6=q:=⟨_,rfl⟩
    rw [hq]
    go_wp2_with fail
    go_ret
    exact ⟨rfl,u_ HM⟩
theorem q43 (a:Option Addr) (g n N c lo hi:Nat) (w:World) (hn:n<=1000000) (hN:n*7<=N) (hl:lo<=g) (hh:g<hi) (ho:0<n->a=some ⟨g,0,none⟩/\Bk w g 83 N) :
 Calls Tryz.prog 16 #[.slice a n c,.int .i64 1] w fun r w'=>r=.returned (.int .i64 ((1+n*7:Nat):Int))/\(0<n->Pre w' g (mkL n))/\MkL lo hi w w':=by
 have HBk:=h_ ho
 clear ho
 go_enter Tryz.func16,Tryz.ntmps16
 go_wp2_with fail
 go_loopw [1,5] (fun q v wr=>∃ i:Nat,i<=n/\v=.int .i64 i/\q=.int .i64 ((1+i*7:Nat):Int)/\(0<n->Pre wr g (mkL i))/\MkL lo hi w wr) (fun _ v _=>n - (intOf v).toNat)
 case atStart=>exact ⟨0,nZ _,rfl,by simp,fun _ p hp=>absurd hp (nL _),MkL.refl _ _ _⟩
 case round =>
  obtain ⟨i,hi',rfl,rfl,hp,hm⟩:=hrel
  have HM:=h_ hm
  have HP:=h_ hp
  clear hp
  by_cases hlt:i<n
  . have hlt':(i:Int)<n:=by omega
    have HBr:=h_ (hm.bk _ _ _ (u_ HBk (by omega)).2)
    obtain rfl:=(u_ HBk (by omega)).1
    have hP:=u_ HP (by omega)
    obtain ⟨q,hq⟩:∃ q,1+i*7=q:=⟨_,rfl⟩
    have hq':(q:Int)+7<4611686018427387904:=by omega
    have hq1:0<q:=by omega
    have hln:=qk3 i
    have HN:Hid (mkL (i+1)=mkL i++mkC q):=h_ (by show mkL i++mkC (1+i*7)=_;rw [hq])
    rw [hq]
    obtain ⟨u,c0⟩:=(u_ HBr).cell (show i*7<N by omega)
    obtain ⟨u1,c1⟩:=(u_ HBr).cell (show i*7+1<N by omega)
    obtain ⟨u2,c2⟩:=(u_ HBr).cell (show i*7+2<N by omega)
    have f0:=(u_ HBr).free (i*7);have f1:=(u_ HBr).free (i*7+1);have f2:=(u_ HBr).free (i*7+2)
    have HM1:=h_ ((((u_ HM).trans (MkL.set (i*7) (.int .i64 (q:Int)) hl hh)).trans (MkL.set (i*7+1) (.int .i64 ((q:Int)+1)) hl hh)).trans (MkL.set (i*7+2) (.int .i64 ((q:Int)+1+1)) hl hh))
    have HB1:=h_ ((((u_ HBr).set (i*7) (.int .i64 (q:Int))).set (i*7+1) (.int .i64 ((q:Int)+1))).set (i*7+2) (.int .i64 ((q:Int)+1+1)))
    have HP1:=h_ (((hP.set (u_ HBr) (j:=i*7) hln (by omega) (.int .i64 (q:Int))).set ((u_ HBr).set (i*7) (.int .i64 (q:Int))) (j:=i*7+1) (by simp [hln]) (by omega) (.int .i64 ((q:Int)+1))).set (((u_ HBr).set (i*7) (.int .i64 (q:Int))).set (i*7+1) (.int .i64 ((q:Int)+1))) (j:=i*7+2) (by simp [hln]) (by omega) (.int .i64 ((q:Int)+1+1)))
    clear hm hP
    go_wp2_with fail
    obtain ⟨W1,hW1⟩:∃ W1,((wr.setCell ⟨g,i*7,none⟩ (.int .i64 (q:Int))).setCell ⟨g,i*7+1,none⟩ (.int .i64 ((q:Int)+1))).setCell ⟨g,i*7+2,none⟩ (.int .i64 ((q:Int)+1+1))=W1:=⟨_,rfl⟩
    rw [hW1] at HM1 HB1 HP1 ⊢
    clear hW1 c0 c1 c2 f0 f1 f2
    have HT1:=h_ (q62 (q+1+1+1) W1 (by omega) (by omega))
    simp only [Int.natCast_add,Int.cast_ofNat_Int] at HT1
    refine (u_ HT1).mono ?_
    rintro e W2 ⟨rfl,hb2⟩
    obtain ⟨s,hs⟩:∃ s,mkT (q+1+1+1)=s:=⟨_,rfl⟩
    rw [hs]
    have HB2:=h_ ((u_ HB1).mono hb2 (u_ HB1).lt)
    have hP2:=(u_ HP1).mono hb2 (u_ HB1).lt
    obtain ⟨u3,c3⟩:=(u_ HB2).cell (show i*7+3<N by omega)
    obtain ⟨u4,c4⟩:=(u_ HB2).cell (show i*7+4<N by omega)
    obtain ⟨u5,c5⟩:=(u_ HB2).cell (show i*7+5<N by omega)
    have f3:=(u_ HB2).free (i*7+3);have f4:=(u_ HB2).free (i*7+4);have f5:=(u_ HB2).free (i*7+5)
    have HM2:=h_ (((((u_ HM1).trans (MkL.below hb2)).trans (MkL.set (i*7+3) (.string s) hl hh)).trans (MkL.set (i*7+4) (.bool (((q:Int)+1+1+1+1) % 3 == 0)) hl hh)).trans (MkL.set (i*7+5) (.int .i64 ((q:Int)+1+1+1+1+1)) hl hh))
    have HB3:=h_ ((((u_ HB2).set (i*7+3) (.string s)).set (i*7+4) (.bool (((q:Int)+1+1+1+1) % 3 == 0))).set (i*7+5) (.int .i64 ((q:Int)+1+1+1+1+1)))
    have HP3:=h_ (((hP2.set (u_ HB2) (j:=i*7+3) (by simp [hln]) (by omega) (.string s)).set ((u_ HB2).set (i*7+3) (.string s)) (j:=i*7+4) (by simp [hln]) (by omega) (.bool (((q:Int)+1+1+1+1) % 3 == 0))).set (((u_ HB2).set (i*7+3) (.string s)).set (i*7+4) (.bool (((q:Int)+1+1+1+1) % 3 == 0))) (j:=i*7+5) (by simp [hln]) (by omega) (.int .i64 ((q:Int)+1+1+1+1+1)))
    clear hb2 hP2 HT1
    go_wp2_with fail
    obtain ⟨W3,hW3⟩:∃ W3,((W2.setCell ⟨g,i*7+3,none⟩ (.string s)).setCell ⟨g,i*7+4,none⟩ (.bool (((q:Int)+1+1+1+1) % 3 == 0))).setCell ⟨g,i*7+5,none⟩ (.int .i64 ((q:Int)+1+1+1+1+1))=W3:=⟨_,rfl⟩
    rw [hW3] at HM2 HB3 HP3 ⊢
    clear hW3 c3 c4 c5 f3 f4 f5
    have HT1:=h_ (q62 (q+1+1+1+1+1+1) W3 (by omega) (by omega))
    simp only [Int.natCast_add,Int.cast_ofNat_Int] at HT1
    refine (u_ HT1).mono ?_
    rintro e W4 ⟨rfl,hb4⟩
    obtain ⟨s2,hs2⟩:∃ s,mkT (q+1+1+1+1+1+1)=s:=⟨_,rfl⟩
    rw [hs2]
    have HB4:=h_ ((u_ HB3).mono hb4 (u_ HB3).lt)
    have hP4:=(u_ HP3).mono hb4 (u_ HB3).lt
    obtain ⟨u6,c6⟩:=(u_ HB4).cell (show i*7+6<N by omega)
    have f6:=(u_ HB4).free (i*7+6)
    have HM4:=h_ (((u_ HM2).trans (MkL.below hb4)).trans (MkL.set (i*7+6) (.string s2) hl hh))
    have HP5:Hid (Pre (W4.setCell ⟨g,i*7+6,none⟩ (.string s2)) g (mkL (i+1))):=h_ (by
     rw [u_ HN]
     unfold mkC
     rw [hs,hs2]
     have h:=hP4.set (u_ HB4) (j:=i*7+6) (by simp [hln]) (by omega) (.string s2)
     simpa using h)
    clear hb4 hP4 HT1
    go_wp2_with fail
    go_roundw
    case rel=>first | exact ⟨i+1,by omega,by go_num,by rw [show 1+(i+1)*7=q+7 by omega];go_num,fun _=>u_ HP5,u_ HM4⟩ | ((repeat apply Exists.intro);exact ⟨⟨i+1,by omega,by go_num,by rw [show 1+(i+1)*7=q+7 by omega];go_num,fun _=>u_ HP5,u_ HM4⟩,rfl⟩)
    case measure=>simp [intOf];omega
  . obtain rfl:i=n:=by omega
    have hlt':¬ (i:Int)<(i:Int):=by omega
    obtain ⟨q,hq⟩:∃ q,1+i*7=q:=⟨_,rfl⟩
    rw [hq]
    clear hm
    go_wp2_with fail
    go_ret
    exact ⟨rfl,u_ HP,u_ HM⟩
theorem q3k (a:Option Addr) (g n c:Nat) (w:World) (hn:n<=1000000) (ho:0<n->a=some ⟨g,0,none⟩/\g<w.heap.size/\Pre w g (mkL n)) :
 Calls Tryz.prog 17 #[.slice a n c,.int .i64 1] w fun r w'=>r=.returned (.int .i64 ((1+n*7:Nat):Int))/\Below w.heap.size w w':=by
 have HO:=h_ ho
 clear ho
 go_enter Tryz.func17,Tryz.ntmps17
 go_wp2_with fail
 go_loopw [1,5] (fun q v wr=>∃ (i:Nat),i<=n/\v=.int .i64 i/\q=.int .i64 ((1+i*7:Nat):Int)/\Below w.heap.size w wr) (fun _ v _=>n - (intOf v).toNat)
 case atStart=>exact ⟨0,nZ _,rfl,rfl,bR _ _⟩
 case round =>
  obtain ⟨i,hil,rfl,rfl,hb⟩:=hrel
  have HB:=h_ hb
  by_cases hlt:i<n
  . have hlt':(i:Int)<n:=by omega
    obtain ⟨rfl,hg,hp⟩:=u_ HO (by omega)
    obtain ⟨q,hq⟩:∃ q,1+i*7=q:=⟨_,rfl⟩
    have hq':(q:Int)+7<4611686018427387904:=by omega
    have HC:Hid (∀ W,Below w.heap.size w W->∀ p,p<7->W.cell? ⟨g,i*7+p,none⟩=(mkC q)[p]?):=h_ fun W h p hp7=>by
     rw [<- hq,<- qk2 hlt hp7]
     exact (hp.mono h hg) (i*7+p) (by rw [qk3];omega)
    have c0:wr.cell? ⟨g,i*7,none⟩=some (.int .i64 (q:Int)):=u_ HC wr hb 0 (by omega)
    have c1:wr.cell? ⟨g,i*7+1,none⟩=some (.int .i64 ((q:Int)+1)):=u_ HC wr hb 1 (by omega)
    have c2:wr.cell? ⟨g,i*7+2,none⟩=some (.int .i64 ((q:Int)+1+1)):=u_ HC wr hb 2 (by omega)
    have c3:wr.cell? ⟨g,i*7+3,none⟩=some (.string (mkT (q+1+1+1))):=u_ HC wr hb 3 (by omega)
    rw [hq]
    have HT1:=h_ (q62 (q+1+1+1) wr.drew (by omega) (by omega))
    simp only [Int.natCast_add,Int.cast_ofNat_Int] at HT1
    obtain ⟨s,hs⟩:∃ s,mkT (q+1+1+1)=s:=⟨_,rfl⟩
    rw [hs] at HT1 c3
    have hss:(s.toList == s.toList)=true:=by simp
    clear hp hb
    go_wp2_with fail
    refine wp_region_held_drew (S:=fun w'=>w'.cell? ⟨g,i*7+3,none⟩=some (Value.string s)) (by kernel_rfl) c3 (fun zz=>?_)
    refine tk 0 41 (.slice (some ⟨g,0,none⟩) n c) zz ?_
    refine tk 1 42 (.int .i64 i) zz ?_
    refine tk 2 43 (.pointer (some ⟨g,i*7,none⟩)) zz ?_
    refine tk 3 44 (.pointer (some ⟨g,i*7+1,none⟩)) zz ?_
    simp only [sX,sY,sZ]
    refine tk 4 45 (.pointer (some ⟨g,i*7+3,none⟩)) zz ?_
    refine tk 5 46 (.string s) zz ?_ (hy:=fun w hS=>by simp [execOp,go_sem,hS])
    refine tk 6 47 (.int .i64 ((q:Int)+1+1+1)) zz ?_
    simp only [sX,sY,sZ]
    refine callY (i:=7) (f:=49) (args:=#[.int .i64 ((q:Int)+1+1+1)]) (R:=fun v wz=>v=.string s/\Below wr.heap.size wr wz) 48 rfl rfl (by rfl) (by kernel_rfl) (by simp [execOp,go_sem]) ((u_ HT1).mono fun e w6 ⟨he,hb⟩=>⟨_,he,rfl,q29 hb⟩) ?_
    rintro v W2 ⟨rfl,hb2⟩
    have hb3:=(u_ HB).trans (hb2.mono (u_ HB).size)
    clear hb2 c0 c1 c2 c3 HT1
    have c3:W2.cell? ⟨g,i*7+3,none⟩=some (.string s):=by rw [<- hs];exact u_ HC W2 hb3 3 (by omega)
    refine ⟨c3,?_⟩
    replace zz:=c3
    simp only [sX,sY,sZ]
    refine tk 8 49 (.bool false) zz ?_ (hy:=fun w hS=>by simp [execOp,go_sem])
    simp only [sX,sY,sZ]
    refine wpAnyH_done (by kernel_rfl) ?_ _
    have c4:W2.cell? ⟨g,i*7+4,none⟩=some (.bool (((q:Int)+1+1+1+1) % 3 == 0)):=u_ HC W2 hb3 4 (by omega)
    have c5:W2.cell? ⟨g,i*7+5,none⟩=some (.int .i64 ((q:Int)+1+1+1+1+1)):=u_ HC W2 hb3 5 (by omega)
    have c6:W2.cell? ⟨g,i*7+6,none⟩=some (.string (mkT (q+1+1+1+1+1+1))):=u_ HC W2 hb3 6 (by omega)
    have HT1:=h_ (q62 (q+1+1+1+1+1+1) W2.drew (by omega) (by omega))
    simp only [Int.natCast_add,Int.cast_ofNat_Int] at HT1
    obtain ⟨s2,hs2⟩:∃ s,mkT (q+1+1+1+1+1+1)=s:=⟨_,rfl⟩
    rw [hs2] at HT1 c6
    have HB3:=h_ hb3
    clear hb3 hs zz
    go_wp2_with fail
    refine wp_region_held_drew (S:=fun w'=>w'.cell? ⟨g,i*7+6,none⟩=some (Value.string s2)) (by kernel_rfl) c6 (fun zz=>?_)
    refine tk 0 72 (.slice (some ⟨g,0,none⟩) n c) zz ?_
    refine tk 1 73 (.int .i64 i) zz ?_
    refine tk 2 74 (.pointer (some ⟨g,i*7,none⟩)) zz ?_
    refine tk 3 75 (.pointer (some ⟨g,i*7+6,none⟩)) zz ?_
    simp only [sX,sY,sZ]
    refine tk 4 76 (.string s2) zz ?_ (hy:=fun w hS=>by simp [execOp,go_sem,hS])
    refine tk 5 77 (.int .i64 ((q:Int)+1+1+1+1+1+1)) zz ?_
    simp only [sX,sY,sZ]
    refine callY (i:=6) (f:=49) (args:=#[.int .i64 ((q:Int)+1+1+1+1+1+1)]) (R:=fun v wz=>v=.string s2/\Below W2.heap.size W2 wz) 78 rfl rfl (by rfl) (by kernel_rfl) (by simp [execOp,go_sem]) ((u_ HT1).mono fun e w6 ⟨he,hb⟩=>⟨_,he,rfl,q29 hb⟩) ?_
    rintro v W4 ⟨rfl,hb4⟩
    have hb5:=(u_ HB3).trans (hb4.mono (u_ HB3).size)
    clear hb4 c3 c4 c5 c6 HT1
    have c6:W4.cell? ⟨g,i*7+6,none⟩=some (.string s2):=by rw [<- hs2];exact u_ HC W4 hb5 6 (by omega)
    refine ⟨c6,?_⟩
    replace zz:=c6
    simp only [sX,sY,sZ]
    refine tk 7 79 (.bool false) zz ?_ (hy:=fun w hS=>by simp [execOp,go_sem])
    simp only [sX,sY,sZ]
    refine wpAnyH_done (by kernel_rfl) ?_ _
    have HB5:=h_ hb5
    clear hb5 hs2 zz
    go_wp2_with fail
    go_roundw
    case rel=>first | exact ⟨i+1,by omega,by go_num,by rw [show 1+(i+1)*7=q+7 by omega];go_num,u_ HB5⟩ | ((repeat apply Exists.intro);exact ⟨⟨i+1,by omega,by go_num,by rw [show 1+(i+1)*7=q+7 by omega];go_num,u_ HB5⟩,rfl⟩)
    case measure=>simp [intOf];omega
  . obtain rfl:i=n:=by omega
    have hlt':¬ (i:Int)<(i:Int):=by omega
    obtain ⟨q,hq⟩:∃ q,1+i*7=q:=⟨_,rfl⟩
    rw [hq]
    clear hb
    go_wp2_with fail
    go_ret
    exact ⟨rfl,u_ HB⟩
end Go.Proofs.YtnhjjaminkhiiaaGreatDoor
