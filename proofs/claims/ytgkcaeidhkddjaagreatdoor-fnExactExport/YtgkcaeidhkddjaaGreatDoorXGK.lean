import Derived.Test.YtgkcaeidhkddjaaGreatDoorShelf3
import Derived.Test.YtgkcaeidhkddjaaGreatDoorXGQ
set_option maxRecDepth 100000
set_option maxHeartbeats 20000000
namespace Go.Proofs.YtgkcaeidhkddjaaGreatDoor
open Go Go.RowKit
theorem qkz (f:Nat->Nat) (x v i:Nat):((up f x v i:Nat):Int)=up (fun i=>((f i:Nat):Int)) x (v:Int) i:=by
 unfold up
 split <;> rfl
theorem qhy {L:Nat->List Nat} {n j p:Nat} (h:p<(L j).length):(zs n fun i=>((cntP L j p i:Nat):Int)).set (L j)[p] (.int .i64 (((cntP L j p (L j)[p]:Nat):Int)+1))=zs n fun i=>((cntP L j (p+1) i:Nat):Int):=by
 rw [zs_set]
 refine qh5 fun i _=>?_
 rw [qaq h i,qkz]
 rfl
theorem qhw {L:Nat->List Nat} {B:Nat} (hL:∀ j,(L j).length<=B) (j p i:Nat):cntP L j p i<=(j+1)*B:=by
 have h1:=qhv hL i j
 have h2:=List.count_le_length (a:=i) (l:=(L j).take p)
 have h3:((L j).take p).length<=(L j).length:=List.length_take_le' _ _
 have h4:=hL j
 unfold cntP
 rw [Nat.succ_mul]
 omega
theorem q3d (F n base:Nat) (V:Nat->Value) (L:Nat->List Nat) (w:World) (hn:n<=200) (hH:HoldF w F n V) (hFm:Fam w base n V L) (hL:∀ j i,i ∈ L j->i<n) (hLl:∀ j,(L j).length<=400000) :
 Calls Tryz.prog 178 #[.slice (some ⟨F,0,none⟩) n n] w fun r w'=>r=.returned (.slice (some ⟨w.heap.size,0,none⟩) n n)/\Blk w' w.heap.size 3 (zs n fun i=>((cntL L n i:Nat):Int))/\Below w.heap.size w w':=by
 have HH:=h_ hH;have HFm:=h_ hFm;have HL:=h_ hL;have HLl:=h_ hLl
 obtain ⟨i0,hi,hz0,hz1,hz2⟩:=info_parts infoI
 have hbn:i0.bytes*n<=281474976710656:=by rw [hz2];omega
 have hFw:F<w.heap.size:=hH.lt
 clear hH hFm hL hLl
 go_enter Tryz.func178,Tryz.ntmps178
 go_wp2_with (at_make;refine wpList_make_full _ rfl (.tmp 9) (.tmp 9) 84 rfl w.heap.size 3 i0 _ 1 Tryz.underlying84 hi hz0 hz1 .i64 .i64 _ _ n rfl rfl rfl rfl hbn (by unfold maxLen;omega) (nR _) ?_)
 intro w1 hown hgrow
 obtain ⟨C,hC⟩:∃ C,w.heap.size=C:=⟨_,rfl⟩
 have hb1:Below C w w1:=by rw [<- hC];exact (bR _ _).grown hgrow (nR _) (fun k e=>by cases e)
 rw [hC] at hown hFw
 try rw [hC]
 have HZ:=h_ (ql4 hown);have HB1:=h_ hb1
 clear hown hgrow hb1 hbn hi hz0 hz1 hz2
 go_wp2_with fail
 go_loopw [13] (fun i wr=>∃ j:Nat,j<=n/\i=.int .i64 j/\Blk wr C 3 (zs n fun i=>((cntL L j i:Nat):Int))/\Below C w wr) (fun i _=>n - (intOf i).toNat)
 case atStart=>exact ⟨0,nZ _,rfl,u_ HZ,u_ HB1⟩
 case round =>
  clear HZ HB1
  obtain ⟨j,hj,rfl,hz,hb⟩:=hrel
  have HZ:=h_ hz;have HB:=h_ hb
  have HBw:Hid (Below w.heap.size w wr):=h_ (by rw [hC];exact hb)
  clear hz hb
  by_cases hlt:j<n
  . have hlt':(j:Int)<n:=by omega
    have zj:=((u_ HB).cell (p:=⟨F,j,none⟩) hFw).trans (HoldF.at (u_ HH) hlt)
    have hoj:=(u_ HFm).own j hlt
    obtain ⟨a,c,e,-⟩:=own_at hoj
    rw [e] at zj hoj
    have HOj:=h_ hoj
    have HLj:=h_ (u_ HL j)
    have HSt:Hid (∀ l,L j=l->∀ p (h:p<l.length),(zs n fun i=>((cntP L j p i:Nat):Int)).set l[p] (.int .i64 (((cntP L j p l[p]:Nat):Int)+1))=zs n fun i=>((cntP L j (p+1) i:Nat):Int)):=h_ fun l e p h=>by subst e;exact qhy h
    have HCl:Hid (∀ p i,cntP L j p i<=80000000):=h_ fun p i=>by
     have:=qhw (u_ HLl) j p i
     have:(j+1)*400000<=200*400000:=Nat.mul_le_mul_right _ (by omega)
     omega
    have HFu:Hid (cntP L j (L j).length=cntL L (j+1)):=h_ (qap L j)
    have HZ0:Hid (Blk wr C 3 (zs n fun i=>((cntP L j 0 i:Nat):Int))):=h_ (by rw [qar];exact u_ HZ)
    have hll:=u_ HLl j
    obtain ⟨l,hl⟩:∃ l,L j=l:=⟨_,rfl⟩
    rw [hl] at HOj HLj HFu hll zj
    have HSp:=h_ (u_ HSt l hl)
    clear hl HSt e hoj HZ
    go_wp2_with fail
    go_loopw [19] (fun i w3=>∃ p:Nat,p<=l.length/\i=.int .i64 p/\Blk w3 C 3 (zs n fun i=>((cntP L j p i:Nat):Int))/\Below C w w3) (fun i _=>l.length - (intOf i).toNat)
    case atStart=>exact ⟨0,nZ _,rfl,u_ HZ0,u_ HB⟩
    case round =>
     clear HZ0 HB HBw zj
     obtain ⟨p,hp,rfl,hz,hb⟩:=hrel
     have HZ:=h_ hz;have HB:=h_ hb
     have HBw:Hid (Below w.heap.size w wr):=h_ (by rw [hC];exact hb)
     clear hz hb
     by_cases hpl:p<l.length
     . have hpl':(p:Int)<l.length:=by omega
       obtain ⟨g2,rfl,hg2,-,zc⟩:=qfe (qce (u_ HOj) (u_ HBw)) p hpl
       have hxn:l[p]<n:=u_ HLj _ (List.getElem_mem hpl)
       have hxn':((l[p]:Nat):Int)<n:=by omega
       have HS:=h_ (u_ HSp p hpl)
       have hcl:=u_ HCl p l[p]
       have zx:=((u_ HZ).cell l[p]).trans (zs_at _ hxn)
       have fx:=(u_ HZ).free l[p]
       generalize l[p]=x at *
       have HSet:=h_ ((u_ HZ).set x (.int .i64 (((cntP L j p x:Nat):Int)+1)))
       rw [u_ HS] at HSet
       have HB2:=h_ ((u_ HB).setCell (p:=⟨C,x,none⟩) (nR C) (.int .i64 (((cntP L j p x:Nat):Int)+1)))
       generalize hq:cntP L j p x=q at *
       clear hq
       have hq':((q:Nat):Int)<=80000000:=by omega
       go_wp2_with fail
       go_roundw
       case rel=>first | exact ⟨p+1,by omega,by go_num,u_ HSet,u_ HB2⟩ | ((repeat apply Exists.intro);exact ⟨⟨p+1,by omega,by go_num,u_ HSet,u_ HB2⟩,rfl⟩)
       case measure=>simp [intOf];omega
     . obtain rfl:p=l.length:=by omega
       have hpl':¬ (l.length:Int)<(l.length:Int):=by omega
       have HZ2:=HZ
       rw [u_ HFu] at HZ2
       go_wp2_with fail
       go_roundw
       case rel=>first | exact ⟨j+1,by omega,by go_num,u_ HZ2,u_ HB⟩ | ((repeat apply Exists.intro);exact ⟨⟨j+1,by omega,by go_num,u_ HZ2,u_ HB⟩,rfl⟩)
       case measure=>simp [intOf];omega
  . obtain rfl:j=n:=by omega
    have hlt':¬ (j:Int)<(j:Int):=by omega
    go_wp2_with fail
    go_ret
    first | exact ⟨rfl,u_ HZ,u_ HB⟩ | exact ⟨rfl,u_ HZ,u_ HBw⟩
theorem qf7 (m:Fm) (C i:Nat) (w:World) (hv:VfA m) (hC:Blk w C 3 (zs m.F.length (waitZ m (ordL m i)))) :
 Calls Tryz.prog 179 #[.slice (some ⟨C,0,none⟩) m.F.length m.F.length,.int .i64 0] w fun e w'=>e=.returned (.int .i64 (nxI m (ordL m i)))/\w'=w:=by
 have hnf:=hv.nf
 have hget:∀ j,j<m.F.length->((List.range m.F.length).map (waitZ m (ordL m i))).getD j 0=waitZ m (ordL m i) j:=fun j hj=>by
  rw [List.getD_eq_getElem?_getD]
  simp [hj]
 have h:=Tryz.slices_Index_int C 0 m.F.length m.F.length ((List.range m.F.length).map (waitZ m (ordL m i))) 0 w (by simp) (by omega) (fun j hj=>by
  have hj':j<m.F.length:=by simpa using hj
  rw [hget j hj',Nat.zero_add]
  exact (hC.cell j).trans (zs_at _ hj'))
 have e:Lib.idxOf (((List.range m.F.length).map (waitZ m (ordL m i))).take m.F.length) 0=nxI m (ordL m i):=by
  cases hx:nxt m (ordL m i) with
  | some k =>
   obtain ⟨hk,h1,h2⟩:=qfc hx
   rw [qfa hx]
   refine Lib.idxOf_hit _ _ k 0 hk (by simp) ?_ fun j hj=>?_
   . rw [hget k hk];exact (qdl hv i hk).2 h1
   . rw [hget j (by omega)]
     intro h0
     have:=(qdl hv i (by omega)).1 h0
     rw [h2 j hj] at this
     cases this
  | none =>
   rw [qf9 hx]
   refine Lib.idxOf_miss _ _ 0 fun j hj=>?_
   rw [hget j hj]
   intro h0
   have:=(qdl hv i hj).1 h0
   rw [qfb hx j hj] at this
   cases this
 rw [e] at h
 exact h
end Go.Proofs.YtgkcaeidhkddjaaGreatDoor
namespace Go.Proofs.YtgkcaeidhkddjaaGreatDoor
open Go Go.RowKit Go.Shelf
attribute [local go_sem] Oper.semAt_some
theorem sum_le {n:Nat} {f g:Nat->Nat} (h:∀ j,j<n->f j<=g j):((List.range n).map f).sum<=((List.range n).map g).sum:=by
 induction n with
 | zero=>exact nR _
 | succ n ih =>
  rw [List.range_succ]
  simp only [List.map_append,List.sum_append,List.map_cons,List.map_nil,List.sum_cons,List.sum_nil,Nat.add_zero]
  have:=ih fun j hj=>h j (by omega)
  have:=h n (by omega)
  omega
theorem sum_lt {n:Nat} {f g:Nat->Nat} (h:∀ j,j<n->f j<=g j) {x:Nat} (hx:x<n) (hlt:f x<g x):((List.range n).map f).sum<((List.range n).map g).sum:=by
 induction n with
 | zero=>omega
 | succ n ih =>
  rw [List.range_succ]
  simp only [List.map_append,List.sum_append,List.map_cons,List.map_nil,List.sum_cons,List.sum_nil,Nat.add_zero]
  by_cases e:x=n
  . subst e
    have:=sum_le (n:=x) fun j hj=>h j (by omega)
    omega
  . have:=ih (fun j hj=>h j (by omega)) (by omega)
    have:=h n (by omega)
    omega
def leftN (w:World) (C n:Nat):Nat:=((List.range n).map fun j=>(intOf ((w.cell? ⟨C,j,none⟩).getD undef)+1).toNat).sum
theorem qex {w:World} {C n:Nat} {f:Nat->Int} (h:Blk w C 3 (zs n f)):leftN w C n=((List.range n).map fun j=>(f j+1).toNat).sum:=by
 unfold leftN
 congr 1
 refine List.map_congr_left fun j hj=>?_
 rw [(h.cell j).trans (zs_at f (List.mem_range.1 hj))]
 rfl
theorem qbu {w w':World} {m:Fm} {C x:Nat} {D:List Nat} (hx:x<m.F.length) (hn:x ∉ D) (h0:waitZ m D x=0) (h:Blk w C 3 (zs m.F.length (waitZ m D))) (h':Blk w' C 3 (zs m.F.length (waitZ m (D++[x])))):leftN w' C m.F.length<leftN w C m.F.length:=by
 rw [qex h,qex h']
 refine sum_lt (fun j _=>?_) hx ?_
 . rw [qdk m D x hn j]
   split <;> omega
 . rw [qdk m D x hn x,h0,if_pos rfl]
   omega
theorem qjn (m:Fm) (i:Nat):(ordL m i).length<=m.F.length:=by
 have h:=pigeon m.F.length ((ordL m i).map fun k=>((k:Nat):Int)) ?_ ?_
 . simpa using h
 . exact List.Pairwise.map _ (fun a b h e=>h (by omega)) (q8w m i)
 . intro x hx
   obtain ⟨k,hk,rfl⟩:=List.mem_map.1 hx
   have:=qjo m i k hk
   omega
theorem qh2 (m:Fm) (D:List Nat) (k:Nat):-1<=waitZ m D k:=by
 unfold waitZ
 split <;> omega
theorem qh1 (m:Fm) (D:List Nat) (k:Nat):waitZ m D k<=(fedL m k).length:=by
 unfold waitZ
 have:=List.length_filter_le (fun j=>!decide (j ∈ D)) (fedL m k)
 split <;> omega
theorem qh0 {m:Fm} {D:List Nat} {x p k:Nat} (hv:VfA m):-2 - 402000<=waitP m D x p k:=by
 unfold waitP
 have h1:=qh2 m D k
 have h2:=List.count_le_length (a:=k) (l:=(fedT m m.F.length x).take p)
 have h3:((fedT m m.F.length x).take p).length<=(fedT m m.F.length x).length:=List.length_take_le' _ _
 have h4:=qe5 hv x m.F.length (nR _)
 have h5:=hv.nf
 split <;> omega
theorem qgz {m:Fm} {D:List Nat} {x p k:Nat} (hv:VfA m) (hk:k<m.F.length):waitP m D x p k<=2000:=by
 unfold waitP
 have h1:=qh1 m D k
 have h2:=qe3 hv hk
 split <;> omega
theorem qay {X:Nat->Prop} {hi:Nat} {w w':World} {base n:Nat} {V:Nat->Value} {L:Nat->List Nat} (h:Fam w base n V L) (hk:KeepB X hi w w') (hq:∀ j,j<n->∀ q,(V j).ownBlock=some q->q<hi/\¬ X q):Fam w' base n V L:=⟨fun j hj=>hk.owns (h.own j hj) (hq j hj),h.apart⟩
theorem qaz {w:World} {base n C k:Nat} {V:Nat->Value} {L:Nat->List Nat} (h:Fam w base n V L) (v:Value) (hC:∀ j,j<n->(V j).ownBlock ≠ some C):Fam (w.setCell ⟨C,k,none⟩ v) base n V L :=
 ⟨fun j hj=>(h.own j hj).kept (row:=some C) ⟨rfl,rfl,rfl,by simp,fun i _ hne=>heap_setCell_other w ⟨C,k,none⟩ i v (fun e=>hne (by rw [e]))⟩ (.inr (hC j hj)),h.apart⟩
theorem q65 (m:Fm) (A:MA) (b B:Nat) (w0:World) (X:Nat->Prop) (hv:VfA m) (hf:FitM m) (hW:Blk w0 B 112 [.slice A.l m.L.length A.lc,.slice A.p m.P.length A.pc,.slice A.r m.R.length A.rc,.slice A.f m.F.length A.fc,.map (some b)]) (ha:MSl w0 m A) (hm:PMap w0 b (fNames m)) :
 GivesH Tryz.prog 177 #[.pointer (some ⟨B,0,none⟩)] (fun pre x=>pre=ordL m pre.length/\pre.length<m.F.length/\nxt m pre=some x) (fun xs=>xs=ordL m m.F.length) X w0:=by
 intro n l J W hb hJ h0 hX hY
 have HCf:=h_ (qi7 m A b W hv hf (ha.mono hb) (hm.mono hb))
 have HV:=h_ hv;have HY:=h_ hY;have HJ:=h_ hJ;have HX:=h_ hX
 have hK:=hW.mono hb hW.lt
 obtain ⟨y0,y1,y2,y3,y4⟩:=five hK
 have H0:=h_ h0
 unfold wV at HCf
 have hnf:=hv.nf
 clear hY hJ hX h0 hK ha hm hW hb hf hv
 refine callsIn_of_wp Tryz.func177 rfl trivial ?_ rfl
 simp only [Tryz.ntmps177,List.size_toArray,List.length_cons,List.length_nil,Nat.reduceAdd,Nat.reduceSub,Array.replicate_succ,Array.replicate_zero,List.push_toArray,List.append_toArray,List.nil_append,List.cons_append]
 gi_wp2_with fail
 refine callW ((u_ HCf).mono ?_)
 rintro e w1 ⟨F,V,rfl,hF,hh,hfam,hb1⟩
 clear y0 y1 y2 y3 y4 HCf
 have HCc:=h_ (q3d F m.F.length (F+1) V (fedT m m.F.length) w1 hnf hh hfam (fun j i hi=>qi6 m _ j i hi) (fun j=>by have:=qe5 (u_ HV) j m.F.length (nR _);omega))
 have hFw:F<w1.heap.size:=hh.lt
 have HB1:=h_ hb1;have HH:=h_ hh;have HFm:=h_ hfam
 have HFq:Hid (∀ j,j<m.F.length->∀ q,(V j).ownBlock=some q->F<q/\q<w1.heap.size):=h_ fun j hj q e=>(hfam.own j hj).lt q e
 have HFb:Hid (∀ j,j<m.F.length->(V j).ownBlock ≠ some w1.heap.size):=h_ fun j hj=>own_lt (hfam.own j hj) (nR _)
 clear hh hfam hb1
 gi_wp2_with fail
 refine callW ((u_ HCc).mono ?_)
 rintro e w2 ⟨rfl,hz,hb2⟩
 obtain ⟨C,hC⟩:∃ C,w1.heap.size=C:=⟨_,rfl⟩
 rw [hC] at hz hFw HFb HFq
 try rw [hC]
 have hz0:Blk w2 C 3 (zs m.F.length (waitZ m (ordL m 0))):=by
  have e:zs m.F.length (fun i=>((cntL (fedT m m.F.length) m.F.length i:Nat):Int))=zs m.F.length (waitZ m []):=qh5 fun i hi=>qan (u_ HV) hi
  rw [e] at hz
  exact hz
 have hWC:W.heap.size<=C:=by omega
 have HZ:=h_ hz0;replace HH:=h_ (Blk.mono (u_ HH) hb2 (by omega));replace HFm:=h_ ((u_ HFm).mono hb2)
 have HJ0:=h_ (u_ H0 w2 ((u_ HB1).trans (hb2.mono (by omega))))
 have hsW:W.heap.size<=w2.heap.size:=by have:=hb2.size;omega
 have hCh:C<w2.heap.size:=(u_ HZ).lt
 obtain ⟨hi,hhi⟩:∃ hi,w2.heap.size=hi:=⟨_,rfl⟩
 rw [hhi] at HJ0 hsW hCh
 clear hhi
 clear hz hz0 hb2 HCc H0 HB1
 gi_wp2_with fail
 refine callW ((qf7 m C 0 w2 (u_ HV) (u_ HZ)).mono ?_)
 rintro e w3 ⟨rfl,rfl⟩
 gi_wp2_with fail
 gi_loopw [5] (fun v wr=>∃ i:Nat,(ordL m i).length=i/\v=.int .i64 (nxI m (ordL m i))/\HoldF wr F m.F.length V/\Fam wr (F+1) m.F.length V (fedT m m.F.length)/\Blk wr C 3 (zs m.F.length (waitZ m (ordL m i)))/\J hi (ordL m i) wr) (fun _ wr=>leftN wr C m.F.length)
 case atStart=>exact ⟨0,rfl,rfl,u_ HH,u_ HFm,u_ HZ,u_ HJ0⟩
 case round =>
  clear HH HFm HZ HJ0
  obtain ⟨i,hil,rfl,hh,hfam,hz,hj⟩:=hrel
  have HH:=h_ hh;have HFm:=h_ hfam;have HZ:=h_ hz;have HJi:=h_ hj
  have hCr:C<wr.heap.size:=hz.lt
  clear hh hfam hz hj
  cases hnx:nxt m (ordL m i) with
  | none =>
   have he:=qf9 hnx
   have HE:Hid (ordL m i=ordL m m.F.length):=h_ (by
    have h1:=q8x hnx (m.F.length - i)
    have h2:=qjn m i
    rw [show i+(m.F.length - i)=m.F.length by omega] at h1
    exact h1.symm)
   rw [he]
   clear hnx he
   gi_wp2_with fail
   go_end0
   exact ⟨⟨_,rfl⟩,hi,_,u_ HE,u_ HJi⟩
  | some x =>
   obtain ⟨hx,hr,-⟩:=qfc hnx
   have he:=qfa hnx
   have HXi:Hid (x ∉ ordL m i):=h_ fun hin=>by
    unfold rdyB at hr
    rw [decide_eq_true hin] at hr
    simp at hr
   have hx0:waitZ m (ordL m i) x=0:=(qdl (u_ HV) i hx).2 hr
   have HX0:=h_ hx0
   have HO:Hid (ordL m (i+1)=ordL m i++[x]):=h_ (qc7 hnx)
   have HP0:Hid (zs m.F.length (up (waitZ m (ordL m i)) x (-1))=zs m.F.length (waitP m (ordL m i) x 0)):=h_ (qh5 fun k _=>by rw [<- q9x,hx0];rfl)
   have HPs:Hid (∀ l,fedT m m.F.length x=l->∀ p (h:p<l.length),zs m.F.length (up (waitP m (ordL m i) x p) l[p] (waitP m (ordL m i) x p l[p] - 1))=zs m.F.length (waitP m (ordL m i) x (p+1))):=h_ fun l e p h=>by subst e;exact qh5 fun k _=>q9w h k
   have HPf:Hid (zs m.F.length (waitP m (ordL m i) x (fedT m m.F.length x).length)=zs m.F.length (waitZ m (ordL m i++[x]))):=h_ (qh5 fun k hk=>q9v (u_ HXi) hk)
   have HPl:=h_ fun p k=>qh0 (m:=m) (D:=ordL m i) (x:=x) (p:=p) (k:=k) (u_ HV)
   have HPh:=h_ fun p k (hk:k<m.F.length)=>qgz (m:=m) (D:=ordL m i) (x:=x) (p:=p) (u_ HV) hk
   rw [he]
   have hx':(x:Int)<m.F.length:=by omega
   have HTx:Hid (ordL m i=ordL m (ordL m i).length/\(ordL m i).length<m.F.length/\nxt m (ordL m i)=some x):=h_ ⟨by rw [hil],by
    have h1:=qjn m (i+1)
    rw [u_ HO,List.length_append] at h1
    simp at h1
    omega,hnx⟩
   have hyy:=u_ HY (n - 1) hi (ordL m i) x wr (u_ HJi) (u_ HTx)
   obtain ⟨fn,tmps,assign,body,hy,hRd⟩:=hyy
   have HRD:=h_ hRd
   clear hRd hnx he hr hx0
   gi_wp2_with fail
   refine ⟨noDepth,(u_ HRD).mono ?_⟩
   rintro e W3 ⟨rfl,hj3,hk3⟩
   . have HH3:=h_ (hk3.blk (u_ HH) (by omega) (fun h=>by have:=u_ HX _ h;omega))
     have HF3:=h_ (qay (u_ HFm) hk3 (fun j hj q e=>by
      have h1:=u_ HFq j hj q e
      exact ⟨by omega,fun h=>by have:=u_ HX q h;omega⟩))
     have HZ3:=h_ (hk3.blk (u_ HZ) (by omega) (fun h=>by have:=u_ HX _ h;omega))
     have HJ3:=h_ hj3
     have hs3:wr.heap.size<=W3.heap.size:=hk3.size
     clear hk3 hj3 hy HRD
     have zx:=((u_ HZ3).cell x).trans (zs_at _ hx)
     rw [u_ HX0] at zx
     have fx:=(u_ HZ3).free x
     have HZ4:=h_ ((u_ HZ3).set x (.int .i64 (-1)))
     rw [zs_set,u_ HP0] at HZ4
     have HH4:=h_ (Blk.other (u_ HH3) (a:=⟨C,x,none⟩) (.int .i64 (-1)) (show F ≠ C by omega))
     have HF4:=h_ (qaz (k:=x) (u_ HF3) (.int .i64 (-1)) (u_ HFb))
     have HJ4:=h_ (u_ HJ _ _ _ _ (u_ HJ3) (Out.set (a:=⟨C,x,none⟩) (.int .i64 (-1)) hWC hCh))
     have zf:=HoldF.at (u_ HH4) hx
     have hox:=(u_ HF4).own x hx
     obtain ⟨a,c,e,-⟩:=own_at hox
     rw [e] at zf
     have HEx:=h_ e
     have hll:=qe5 (u_ HV) x m.F.length (nR _)
     have HLt:=h_ fun k hk=>qi6 m m.F.length x k hk
     obtain ⟨W4,hW4⟩:∃ W4,W3.setCell ⟨C,x,none⟩ (.int .i64 (-1))=W4:=⟨_,rfl⟩
     rw [hW4] at HZ4 HH4 HF4 HJ4 zf
     have HFx:Hid (∀ w',Fam w' (F+1) m.F.length V (fedT m m.F.length)->w'.ownsRow (F+1) 3 1 (.slice a (fedT m m.F.length x).length c) (fedT m m.F.length x).length (ui (fedT m m.F.length x))):=h_ fun w' hf=>by rw [<- u_ HEx];exact hf.own x hx
     obtain ⟨l,hl⟩:∃ l,fedT m m.F.length x=l:=⟨_,rfl⟩
     rw [hl] at zf hll HLt HPf HFx
     have HPp:=h_ (u_ HPs l hl)
     clear hl HPs e hox HEx HH3 HF3 HZ3 HJ3
     gi_wp2_with fail
     try rw [hW4]
     clear hW4 zx fx zf
     gi_loopw [33] (fun v w5=>∃ p:Nat,p<=l.length/\v=.int .i64 p/\HoldF w5 F m.F.length V/\Fam w5 (F+1) m.F.length V (fedT m m.F.length)/\Blk w5 C 3 (zs m.F.length (waitP m (ordL m i) x p))/\J hi (ordL m i++[x]) w5) (fun v _=>l.length - (intOf v).toNat)
     case atStart=>exact ⟨0,nZ _,rfl,u_ HH4,u_ HF4,u_ HZ4,u_ HJ4⟩
     case round =>
      clear HZ4 HH4 HF4 HJ4
      obtain ⟨p,hp,rfl,hh,hfam,hz,hj⟩:=hrel
      have HH5:=h_ hh;have HF5:=h_ hfam;have HZ5:=h_ hz;have HJ5:=h_ hj
      clear hh hfam hz hj
      by_cases hpl:p<l.length
      . have hpl':(p:Int)<l.length:=by omega
        obtain ⟨g2,rfl,hg2,-,zc⟩:=qfe (u_ HFx _ (u_ HF5)) p hpl
        have hkn:l[p]<m.F.length:=u_ HLt _ (List.getElem_mem hpl)
        have hkn':((l[p]:Nat):Int)<m.F.length:=by omega
        have HS:=h_ (u_ HPp p hpl)
        have h1:=u_ HPl p l[p]
        have h2:=u_ HPh p l[p] hkn
        have zk:=((u_ HZ5).cell l[p]).trans (zs_at _ hkn)
        have fk:=(u_ HZ5).free l[p]
        generalize l[p]=k at *
        have HZ6:=h_ ((u_ HZ5).set k (.int .i64 (waitP m (ordL m i) x p k - 1)))
        rw [zs_set,u_ HS] at HZ6
        have HH6:=h_ (Blk.other (u_ HH5) (a:=⟨C,k,none⟩) (.int .i64 (waitP m (ordL m i) x p k - 1)) (show F ≠ C by omega))
        have HF6:=h_ (qaz (k:=k) (u_ HF5) (.int .i64 (waitP m (ordL m i) x p k - 1)) (u_ HFb))
        have HJ6:=h_ (u_ HJ _ _ _ _ (u_ HJ5) (Out.set (a:=⟨C,k,none⟩) (.int .i64 (waitP m (ordL m i) x p k - 1)) hWC hCh))
        clear HS
        generalize waitP m (ordL m i) x p k=q at *
        gi_wp2_with fail
        exact ⟨⟨p+1,by omega,by go_num,u_ HH6,u_ HF6,u_ HZ6,u_ HJ6⟩,by simp [intOf];omega⟩
      . obtain rfl:p=l.length:=by omega
        have hpl':¬ (l.length:Int)<(l.length:Int):=by omega
        have HZ6:=HZ5
        rw [u_ HPf,<- u_ HO] at HZ6
        have HJ6:=HJ5
        rw [<- u_ HO] at HJ6
        have HCn:=h_ (qf7 m C (i+1) _ (u_ HV) (u_ HZ6))
        gi_wp2_with fail
        refine callW ((u_ HCn).mono ?_)
        rintro e w6 ⟨rfl,rfl⟩
        gi_wp2_with fail
        exact ⟨⟨i+1,by rw [u_ HO,List.length_append];simp;exact hil,rfl,u_ HH5,u_ HF5,u_ HZ6,u_ HJ6⟩,qbu hx (u_ HXi) (u_ HX0) (u_ HZ) (by have h:=u_ HZ6;rw [u_ HO] at h;exact h)⟩
attribute [local go_sem] Oper.semAt_some
theorem q57 (n:Nat) (m:Fm) (A:MA) (b:Nat) (w:World) (hv:VfA m) (hf:FitM m) (ha:MSl w m A) (hm:PMap w b (fNames m)) :
 CallsIn Fence.wide n Tryz.prog 115 #[wV m A b] w fun e w'=>e=.returned (.bool (decide ((ordL m m.F.length).length<m.F.length)))/\Below w.heap.size w w':=by
 have HCo:=h_ fun W=>qc8 m A b W
 have HG:=h_ fun (w0:World) (B:Nat) X hW hs hp=>q65 m A b B w0 X hv hf hW hs hp
 obtain ⟨al,alc,ap,apc,ar,arc,af,afc,afa⟩:=A
 unfold wV at HCo ⊢
 dsimp only at HCo HG ⊢
 have hnf:=hv.nf
 have HK:=h_ (Blk.new w 112 #[.slice al m.L.length alc,.slice ap m.P.length apc,.slice ar m.R.length arc,.slice af m.F.length afc,.map (some b)])
 have HB:=h_ ((bR w.heap.size w).alloc (nR _) (.cells #[.slice al m.L.length alc,.slice ap m.P.length apc,.slice ar m.R.length arc,.slice af m.F.length afc,.map (some b)] 112))
 obtain ⟨W0,hW0⟩:∃ W0,w.alloc (.cells #[.slice al m.L.length alc,.slice ap m.P.length apc,.slice ar m.R.length arc,.slice af m.F.length afc,.map (some b)] 112)=W0:=⟨_,rfl⟩
 have hs0:W0.heap.size=w.heap.size+1:=by rw [<- hW0];simp
 rw [hW0] at HK HB
 have HL:=h_ (Blk.new W0 3 #[.int .i64 m.F.length])
 have HBl:=h_ ((bR W0.heap.size W0).alloc (nR _) (.cells #[.int .i64 m.F.length] 3))
 obtain ⟨W1,hW1⟩:∃ W1,W0.alloc (.cells #[.int .i64 m.F.length] 3)=W1:=⟨_,rfl⟩
 have hs1:W1.heap.size=w.heap.size+1+1:=by rw [<- hW1];simp;omega
 rw [hW1,hs0] at HL
 rw [hW1] at HBl
 have HK1:=h_ ((u_ HK).mono (u_ HBl) (u_ HK).lt)
 replace HB:=h_ ((u_ HB).trans ((u_ HBl).mono (u_ HB).size))
 have HS:=h_ (ha.mono (u_ HB));have HM:=h_ (hm.mono (u_ HB))
 obtain ⟨y0,y1,y2,y3,y4⟩:=five (u_ HK)
 obtain ⟨z0,z1,z2,z3,z4⟩:=five (u_ HK1)
 clear ha hm hv hf
 refine callsIn_of_wp_marks Tryz.func115 rfl trivial ?_ rfl
 simp only [Tryz.ntmps115,List.size_toArray,List.length_cons,List.length_nil,Nat.reduceAdd,Nat.reduceSub,Array.replicate_succ,Array.replicate_zero,List.push_toArray,List.append_toArray,List.nil_append,List.cons_append]
 gi_wp2_with fail
 try rw [hW0]
 try rw [hW1]
 refine callW ((u_ HCo W1).mono ?_)
 rintro e w2 ⟨rfl,hO,hb2⟩
 clear hW0 hW1 y0 y1 y2 y3 y4 z0 z1 z2 z3 z4 HCo
 rw [hs1] at hO
 have HO:=h_ hO
 have HL2:=mB HL hb2
 have HB2:=h_ ((u_ HB).trans (hb2.mono (by omega)))
 have hs2:W1.heap.size<=w2.heap.size:=hb2.size
 have HG2:=h_ (u_ HG w2 (w.heap.size+1+1) (fun j=>j=w.heap.size+1) hO ((u_ HS).mono hb2) ((u_ HM).mono hb2))
 clear hO hb2 HG HS HM
 try rw [hs1]
 try rw [hs0]
 gi_wp2_with fail
 refine q94 (gf:=177) (lb:=#[.pointer (some ⟨w.heap.size+1+1,0,none⟩)]) rfl (enters_of Tryz.func177 (by kernel_rfl) rfl)
  (u_ HG2) (bR _ _) (fun j hj=>by omega) rfl
  (fun _ pre W=>Blk W (w.heap.size+1) 3 [.int .i64 ((m.F.length:Int) - pre.length)]/\Below w.heap.size w W)
  ?hI ?h0
  (fun x=>{ tmps:=#[.agg #[.slice al m.L.length alc,.slice ap m.P.length apc,.slice ar m.R.length arc,.slice af m.F.length afc,.map (some b)],.pointer (some ⟨w.heap.size,0,none⟩),.bool false,.pointer (some ⟨w.heap.size+1,0,none⟩),.pointer (some ⟨w.heap.size,0,none⟩),.pointer (some ⟨w.heap.size,3,none⟩),.slice af m.F.length afc,.int .i64 m.F.length,.agg #[.slice al m.L.length alc,.slice ap m.P.length apc,.slice ar m.R.length arc,.slice af m.F.length afc,.map (some b)],.func (.func 177) #[] #[.pointer (some ⟨w.heap.size+1+1,0,none⟩)],.int .i64 (x:Int),undef,undef,undef,undef],defers:=[] })
  ?assign ?body ?done
 case hI =>
  rintro hi pre W W' ⟨h1,h2⟩ hb
  exact ⟨hb.blk h1 (by omega),h2.trans (hb.below (by omega) h2.size)⟩
 case h0 =>
  intro W hb
  exact ⟨by simpa using (u_ HL2).mono hb (u_ HL2).lt,(u_ HB2).trans (hb.mono (u_ HB2).size)⟩
 case assign =>
  intro m' l x W K hK
  gi_wp2
  first | exact hK | simpa using hK
 case body =>
  rintro m' l hi pre x W hhi ⟨h1,h2⟩ ⟨ht1,ht2,ht3⟩
  have c0:=h1.cell 0
  simp only [List.getElem?_cons_zero] at c0
  have f0:=h1.free 0
  have HE:Hid ((m.F.length:Int) - ((pre++[x]).length:Nat)=(m.F.length:Int) - pre.length - 1):=h_ (by rw [List.length_append];simp;omega)
  have hq1:(m.F.length:Int) - pre.length<=200:=by omega
  have hq0:0<=(m.F.length:Int) - pre.length:=by omega
  have H1:=h_ h1;have H2:=h_ h2
  have hl1:=h1.lt
  clear h1 h2 ht1 ht2 ht3
  generalize (m.F.length:Int) - pre.length=q at *
  gi_wp2_with fail
  refine ⟨KeepsOthers.setCell _ _ _,KeepB.set _ rfl,?_,(u_ H2).setCell (p:=⟨w.heap.size+1,0,none⟩) (by simp) _⟩
  rw [u_ HE]
  exact (u_ H1).set 0 (.int .i64 (q - 1))
 case done =>
  rintro D hi xs W hD hDh hS ⟨h1,h2⟩ hK
  have c0:=h1.cell 0
  simp only [List.getElem?_cons_zero] at c0
  have hxl:xs.length<=m.F.length:=by rw [hS];exact qjn m _
  have HE:Hid (decide ((ordL m m.F.length).length<m.F.length)=decide ((m.F.length:Int) - xs.length > 0)):=h_ (by rw [<- hS];exact decide_eq_decide.2 (by omega))
  have hq1:(m.F.length:Int) - xs.length<=200:=by omega
  have hq0:0<=(m.F.length:Int) - xs.length:=by omega
  have H2:=h_ h2;have HK:=h_ hK
  clear h1 h2 hS hK
  generalize (m.F.length:Int) - xs.length=q at *
  gi_wp2_with fail
  refine ⟨by simp,.inl ⟨_,_,rfl,run_takeDeferred (u_ HK),?_⟩⟩
  refine ⟨.bool (decide (0<q)),?_,by rw [u_ HE],(u_ H2).trans (qa8 _ D _ (by omega))⟩
  simp [results,Tryz.f115,go_sem]
theorem q3n (m:Fm) (A:MA) (b:Nat) (w:World) (hv:VfA m) (hf:FitM m) (ha:MSl w m A) (hm:PMap w b (fNames m)) :
 Calls Tryz.prog 115 #[wV m A b] w fun e w'=>e=.returned (.bool (decide ((ordL m m.F.length).length<m.F.length)))/\Below w.heap.size w w' :=
 (callsIn_wide (n:=9)).1 (q57 9 m A b w hv hf ha hm)
end Go.Proofs.YtgkcaeidhkddjaaGreatDoor
namespace Go.Proofs.YtgkcaeidhkddjaaGreatDoor
open Go Go.RowKit
def Fst (p:Nat->Prop) (n:Nat) (z:Int):Prop:=(z = -1/\∀ k,k<n->¬ p k) ∨ ∃ k:Nat,k<n/\z=k/\p k/\∀ j,j<k->¬ p j
theorem Fst.one {p:Nat->Prop} {n:Nat} {z z':Int} (h:Fst p n z) (h':Fst p n z'):z=z':=by
 rcases h with ⟨e,h⟩ | ⟨k,hk,e,h1,h2⟩ <;> rcases h' with ⟨e',h'⟩ | ⟨k',hk',e',h1',h2'⟩
 . rw [e,e']
 . exact absurd h1' (h k' hk')
 . exact absurd h1 (h' k hk)
 . have:k=k':=by
    rcases Nat.lt_trichotomy k k' with x | x | x
    . exact absurd h1 (h2' k x)
    . exact x
    . exact absurd h1' (h2 k' x)
   rw [e,e',this]
theorem Fst.iff {p q:Nat->Prop} {n:Nat} {z:Int} (h:Fst p n z) (hpq:∀ k,k<n->(p k ↔ q k)):Fst q n z:=by
 rcases h with ⟨e,h⟩ | ⟨k,hk,e,h1,h2⟩
 . exact .inl ⟨e,fun k hk hq=>h k hk ((hpq k hk).2 hq)⟩
 . exact .inr ⟨k,hk,e,(hpq k hk).1 h1,fun j hj hq=>h2 j hj ((hpq j (by omega)).2 hq)⟩
theorem Fst.bounds {p:Nat->Prop} {n:Nat} {z:Int} (h:Fst p n z):-1<=z/\z<n:=by
 rcases h with ⟨e,h⟩ | ⟨k,hk,e,h1,h2⟩ <;> omega
theorem qc5 (m:Fm) (i:Nat):∀ x,x ∈ ordL m i->(∀ k,k<m.F.length->Rch m k x->k ∈ ordL m i)/\¬ Rch m x x:=by
 induction i with
 | zero=>intro x hx;simp [ordL] at hx
 | succ i ih =>
  cases hn:nxt m (ordL m i) with
  | none=>rw [qc6 hn];exact ih
  | some y =>
   rw [qc7 hn]
   have hy:=qfc hn
   have hyn:y ∉ ordL m i:=by
    have h:=q8w m (i+1)
    rw [qc7 hn] at h
    intro hin
    exact (List.nodup_append.1 h).2.2 y hin y (by simp) rfl
   have key:∀ k,k<m.F.length->Rch m k y->k ∈ ordL m i:=fun k hk hr=>by
    obtain ⟨j,hj,hjn,-,h⟩:=(qft hk hn).1 hr
    rcases h with rfl | h
    . exact hj
    . exact (ih j hj).1 k hk h
   intro x hx
   rcases List.mem_append.1 hx with hx | hx
   . exact ⟨fun k hk hr=>List.mem_append_left _ ((ih x hx).1 k hk hr),(ih x hx).2⟩
   . obtain rfl:x=y:=by simpa using hx
     exact ⟨fun k hk hr=>List.mem_append_left _ (key k hk hr),fun hr=>hyn (key x hy.1 hr)⟩
theorem qf8 {m:Fm} (h:(ordL m m.F.length).length=m.F.length):∀ k,k<m.F.length->¬ Rch m k k:=fun k hk hr=>by
 have hin:k ∈ ordL m m.F.length:=Classical.byContradiction fun hni=>by
  have h':=pigeon m.F.length ((k :: ordL m m.F.length).map fun k=>((k:Nat):Int)) ?_ ?_
  . simp at h';omega
  . exact List.Pairwise.map _ (fun a b h e=>h (by omega)) (List.nodup_cons.2 ⟨hni,q8w m _⟩)
  . intro x hx
    obtain ⟨y,hy,rfl⟩:=List.mem_map.1 hx
    rcases List.mem_cons.1 hy with rfl | hy
    . omega
    . have:=qjo m _ y hy;omega
 exact (qc5 m _ k hin).2 hr
theorem q2k (m:Fm) (A:MA) (w:World) (hn:m.F.length<=200) (hf:FitM m) (ha:MSl w m A) :
 Calls Tryz.prog 68 #[mV m A] w fun r w'=>∃ z,r=.returned (.int .i64 z)/\Fst (fun k=>Rch m k k) m.F.length z/\Below w.heap.size w w':=by
 have HCr:=h_ fun W k (hk:k<m.F.length) (hs:MSl W m A)=>q5p m A k W hk hn hf hs
 obtain ⟨al,alc,ap,apc,ar,arc,af,afc,afa⟩:=A
 unfold mV at HCr ⊢
 dsimp only at HCr ⊢
 have HK:=h_ (Blk.new w 36 #[.slice al m.L.length alc,.slice ap m.P.length apc,.slice ar m.R.length arc,.slice af m.F.length afc])
 have HB:=h_ ((bR w.heap.size w).alloc (nR _) (.cells #[.slice al m.L.length alc,.slice ap m.P.length apc,.slice ar m.R.length arc,.slice af m.F.length afc] 36))
 obtain ⟨W0,hW0⟩:∃ W0,w.alloc (.cells #[.slice al m.L.length alc,.slice ap m.P.length apc,.slice ar m.R.length arc,.slice af m.F.length afc] 36)=W0:=⟨_,rfl⟩
 have hs0:W0.heap.size=w.heap.size+1:=by rw [<- hW0];simp
 rw [hW0] at HK HB
 have HS:=h_ (ha.mono (u_ HB))
 clear ha hf
 go_enter Tryz.func68,Tryz.ntmps68
 go_wp2_with fail
 try rw [hW0]
 go_loopw [3] (fun v wr=>∃ k:Nat,k<=m.F.length/\v=.int .i64 k/\(∀ j,j<k->¬ Rch m j j)/\Below W0.heap.size W0 wr) (fun v _=>m.F.length - (intOf v).toNat)
 case atStart=>exact ⟨0,nZ _,rfl,(fun j h=>absurd h (nL _)),bR _ _⟩
 case round =>
  obtain ⟨k,hk,rfl,hno,hb⟩:=hrel
  have HN:=h_ hno;have HBr:=mT HB hb;have HBz:=h_ hb
  have HKr:=mB HK hb;have HSr:=h_ ((u_ HS).mono hb)
  have hzr:W0.heap.size<=wr.heap.size:=hb.size
  clear hno hb hW0
  obtain ⟨y0,y1,y2,y3⟩:=quad (u_ HKr)
  by_cases hlt:k<m.F.length
  . have hlt':(k:Int)<m.F.length:=by omega
    have HC2:=h_ (u_ HCr wr k hlt (u_ HSr))
    go_wp2_with fail
    refine (u_ HC2).mono ?_
    rintro r W2 ⟨G,M,rfl,hG,hM,hMr,hb2⟩
    have zk:=(hM.cell k).trans (ms_at M hlt)
    have hkk:=hMr k hlt
    have HB2:=mT HBr hb2;have HBz2:=mT HBz hb2
    clear hM hMr hb2 HC2 y0 y1 y2 y3
    cases hmk:M k
    . have HN2:Hid (∀ j,j<k+1->¬ Rch m j j):=h_ fun j hj=>by
       by_cases e:j=k
       . subst e;exact fun h=>by have:=hkk.2 h;rw [hmk] at this;cases this
       . exact u_ HN j (by omega)
      rw [hmk] at zk
      clear hmk hkk
      go_wp2_with fail
      go_roundw
      case rel=>first | exact ⟨k+1,by omega,by go_num,u_ HN2,u_ HBz2⟩ | ((repeat apply Exists.intro);exact ⟨⟨k+1,by omega,by go_num,u_ HN2,u_ HBz2⟩,rfl⟩)
      case measure=>simp [intOf];omega
    . have HF:Hid (Fst (fun k=>Rch m k k) m.F.length (k:Int)):=h_ (.inr ⟨k,hlt,rfl,hkk.1 hmk,u_ HN⟩)
      rw [hmk] at zk
      clear hmk hkk
      go_wp2_with fail
      go_ret
      first | exact ⟨_,rfl,u_ HF,u_ HB2⟩ | exact ⟨u_ HF,u_ HB2⟩
  . obtain rfl:k=m.F.length:=by omega
    have hlt':¬ (m.F.length:Int)<(m.F.length:Int):=by omega
    have HF:Hid (Fst (fun k=>Rch m k k) m.F.length (-1)):=h_ (.inl ⟨rfl,u_ HN⟩)
    go_wp2_with fail
    go_ret
    first | exact ⟨_,rfl,u_ HF,u_ HBr⟩ | exact ⟨u_ HF,u_ HBr⟩
theorem q0l (m:Fm) (A:MA) (b:Nat) (w:World) (hv:VfA m) (hf:FitM m) (ha:MSl w m A) (hm:PMap w b (fNames m)) :
 Calls Tryz.prog 78 #[wV m A b] w fun r w'=>∃ z,r=.returned (.int .i64 z)/\Fst (fun k=>Rch m k k) m.F.length z/\Below w.heap.size w w':=by
 have HCh:=h_ fun W (hs:MSl W m A) (hp:PMap W b (fNames m))=>q3n m A b W hv hf hs hp
 have HCf:=h_ fun W (hs:MSl W m A) (hp:PMap W b (fNames m))=>qi7 m A b W hv hf hs hp
 have HCl:=h_ fun W F k base V (hk:k<m.F.length) (hH:HoldF W F m.F.length V) (hF:Fam W base m.F.length V (fedT m m.F.length))=>q2o m F k base V W hv hk hH hF (fun j=>by have h1:=qe5 hv j m.F.length (nR _);have h2:=hv.nf;omega)
 have HNo:=h_ fun h=>qf8 (m:=m) h
 have hol:=qjn m m.F.length
 have hnf:=hv.nf
 obtain ⟨al,alc,ap,apc,ar,arc,af,afc,afa⟩:=A
 unfold wV at HCh HCf ⊢
 dsimp only at HCh HCf ⊢
 have HK:=h_ (Blk.new w 112 #[.slice al m.L.length alc,.slice ap m.P.length apc,.slice ar m.R.length arc,.slice af m.F.length afc,.map (some b)])
 have HB:=h_ ((bR w.heap.size w).alloc (nR _) (.cells #[.slice al m.L.length alc,.slice ap m.P.length apc,.slice ar m.R.length arc,.slice af m.F.length afc,.map (some b)] 112))
 obtain ⟨W0,hW0⟩:∃ W0,w.alloc (.cells #[.slice al m.L.length alc,.slice ap m.P.length apc,.slice ar m.R.length arc,.slice af m.F.length afc,.map (some b)] 112)=W0:=⟨_,rfl⟩
 rw [hW0] at HK HB
 have HS:=h_ (ha.mono (u_ HB));have HM:=h_ (hm.mono (u_ HB))
 clear ha hm hv hf
 obtain ⟨y0,y1,y2,y3,y4⟩:=five (u_ HK)
 go_enter Tryz.func78,Tryz.ntmps78
 go_wp2_with fail
 try rw [hW0]
 refine (u_ HCh W0 (u_ HS) (u_ HM)).mono ?_
 rintro r W1 ⟨rfl,hb⟩
 replace HS:=h_ ((u_ HS).mono hb);replace HM:=h_ ((u_ HM).mono hb);replace HK:=mB HK hb;replace HB:=mT HB hb
 clear hb hW0 y0 y1 y2 y3 y4
 obtain ⟨y0,y1,y2,y3,y4⟩:=five (u_ HK)
 cases hc:decide ((ordL m m.F.length).length<m.F.length)
 . have HF:Hid (Fst (fun k=>Rch m k k) m.F.length (-1)):=h_ (.inl ⟨rfl,u_ HNo (by have:=of_decide_eq_false hc;omega)⟩)
   clear hc
   go_wp2_with fail
   go_ret
   first | exact ⟨_,rfl,u_ HF,u_ HB⟩ | exact ⟨u_ HF,u_ HB⟩
 . clear hc hol
   go_wp2_with fail
   refine (u_ HCf W1 (u_ HS) (u_ HM)).mono ?_
   rintro r W2 ⟨F,V,rfl,hF,hH,hFm,hb⟩
   have HH:=h_ hH;have HFm:=h_ hFm
   replace HB:=mT HB hb
   clear hb y0 y1 y2 y3 y4 hH hFm hF
   go_wp2_with fail
   go_loopw [12] (fun v wr=>∃ k:Nat,k<=m.F.length/\v=.int .i64 k/\(∀ j,j<k->¬ Rch m j j)/\Below W2.heap.size W2 wr) (fun v _=>m.F.length - (intOf v).toNat)
   case atStart=>exact ⟨0,nZ _,rfl,(fun j h=>absurd h (nL _)),bR _ _⟩
   case round =>
    obtain ⟨k,hk,rfl,hno,hb⟩:=hrel
    have HN:=h_ hno;have HBr:=mT HB hb;have HBz:=h_ hb
    have HHr:Hid (HoldF wr F m.F.length V):=h_ (Blk.mono (u_ HH) hb (Blk.lt (u_ HH)));have HFr:=h_ ((u_ HFm).mono hb)
    clear hno hb
    by_cases hlt:k<m.F.length
    . have hlt':(k:Int)<m.F.length:=by omega
      have HC2:=h_ (u_ HCl wr F k _ V hlt (u_ HHr) (u_ HFr))
      go_wp2_with fail
      refine (u_ HC2).mono ?_
      rintro r W3 ⟨bb,rfl,hbb,hb2⟩
      have HB2:=mT HBr hb2;have HBz2:=mT HBz hb2
      clear hb2 HC2
      cases bb
      . have HN2:Hid (∀ j,j<k+1->¬ Rch m j j):=h_ fun j hj=>by
         by_cases e:j=k
         . subst e;exact fun h=>by have:=hbb.2 h;cases this
         . exact u_ HN j (by omega)
        clear hbb
        go_wp2_with fail
        go_roundw
        case rel=>first | exact ⟨k+1,by omega,by go_num,u_ HN2,u_ HBz2⟩ | ((repeat apply Exists.intro);exact ⟨⟨k+1,by omega,by go_num,u_ HN2,u_ HBz2⟩,rfl⟩)
        case measure=>simp [intOf];omega
      . have HF:Hid (Fst (fun k=>Rch m k k) m.F.length (k:Int)):=h_ (.inr ⟨k,hlt,rfl,hbb.1 rfl,u_ HN⟩)
        clear hbb
        go_wp2_with fail
        go_ret
        first | exact ⟨_,rfl,u_ HF,u_ HB2⟩ | exact ⟨u_ HF,u_ HB2⟩
    . obtain rfl:k=m.F.length:=by omega
      have hlt':¬ (m.F.length:Int)<(m.F.length:Int):=by omega
      have HF:Hid (Fst (fun k=>Rch m k k) m.F.length (-1)):=h_ (.inl ⟨rfl,u_ HN⟩)
      go_wp2_with fail
      go_ret
      first | exact ⟨_,rfl,u_ HF,u_ HBr⟩ | exact ⟨u_ HF,u_ HBr⟩
end Go.Proofs.YtgkcaeidhkddjaaGreatDoor
