import Derived.Test.YtnhjjaminkhiiaaGreatDoorSGH
import Derived.Test.YtnhjjaminkhiiaaGreatDoorSGT2
import Derived.Test.YtnhjjaminkhiiaaGreatDoorSGT1
import Derived.Test.YtnhjjaminkhiiaaGreatDoorShelf3
set_option maxRecDepth 100000
set_option maxHeartbeats 20000000
namespace Go.Proofs.YtnhjjaminkhiiaaGreatDoor
open Go Go.RowKit
theorem qdn (m:Fm) (A:MA) (l0:Int) (w:World) (hf:FitM m) (h0:0<=l0) (h1:l0<=1048576) (ha:MSl w m A) :
 Calls Tryz.prog 5 #[mV m A,.int .i64 l0] w fun r w'=>∃ q:Int,r=.returned (.int .i64 q)/\(0<=q->Sm m/\q<=1048576)/\Below w.heap.size w w':=by
 obtain ⟨al,alc,ap,apc,ar,arc,af,afc,afa⟩:=A
 unfold mV
 dsimp only
 have HK:=h_ (Blk.new w 27 #[.slice al m.labels.length alc,.slice ap m.below.length apc,.slice ar m.roles.length arc,.slice af m.fields.length afc])
 have HB:=h_ ((Below.refl w.heap.size w).alloc (Nat.le_refl _) (.cells #[.slice al m.labels.length alc,.slice ap m.below.length apc,.slice ar m.roles.length arc,.slice af m.fields.length afc] 27))
 obtain ⟨W0,hW0⟩:∃ W0,w.alloc (.cells #[.slice al m.labels.length alc,.slice ap m.below.length apc,.slice ar m.roles.length arc,.slice af m.fields.length afc] 27)=W0:=⟨_,rfl⟩
 rw [hW0] at HK HB
 have HS:=h_ (ha.mono (u_ HB));have HF:=h_ hf
 clear ha hf
 obtain ⟨x0,x1,x2,x3⟩:=quad (u_ HK)
 go_enter Tryz.func5,Tryz.ntmps5
 go_wp2_with fail
 try rw [hW0]
 clear hW0
 refine (q27 al alc m.labels l0 W0 h0 h1 (u_ HF).ll (u_ HF).l (u_ HS).l).mono ?_
 rintro r W1 ⟨q1,rfl,hq,hm,hb⟩
 replace HK:=mB HK hb;replace HS:=h_ ((u_ HS).mono hb);replace HB:=mT HB hb
 have HQ1:=h_ hq
 clear hq hm hb x0 x1 x2 x3
 obtain ⟨x0,x1,x2,x3⟩:=quad (u_ HK)
 by_cases hr1:q1<0
 . go_wp2_with fail
   go_ret
   exact ⟨_,rfl,fun h=>absurd h (by decide),u_ HB⟩
 have hl1:q1<=1048576:=(u_ HQ1 (by omega)).1
 have HX1:=h_ (u_ HQ1 (by omega)).2
 go_wp2_with fail
 refine (q31 ap apc m.below.length q1 W1 (by omega) hl1 (u_ HF).pl).mono ?_
 rintro r W2 ⟨q2,rfl,hq,hm,hb⟩
 replace HK:=mB HK hb;replace HS:=h_ ((u_ HS).mono hb);replace HB:=mT HB hb
 have HQ2:=h_ hq
 clear hq hm hb x0 x1 x2 x3
 obtain ⟨x0,x1,x2,x3⟩:=quad (u_ HK)
 by_cases hr2:q2<0
 . go_wp2_with fail
   go_ret
   exact ⟨_,rfl,fun h=>absurd h (by decide),u_ HB⟩
 have hl2:q2<=1048576:=(u_ HQ2 (by omega)).1
 have HX2:=h_ (u_ HQ2 (by omega)).2
 go_wp2_with fail
 refine (q32 ar arc m.roles q2 W2 (by omega) hl2 (u_ HF).rl (u_ HF).r (u_ HS).r).mono ?_
 rintro r W3 ⟨q3,rfl,hq,hm,hb⟩
 replace HK:=mB HK hb;replace HS:=h_ ((u_ HS).mono hb);replace HB:=mT HB hb
 have HQ3:=h_ hq
 clear hq hm hb x0 x1 x2 x3
 obtain ⟨x0,x1,x2,x3⟩:=quad (u_ HK)
 by_cases hr3:q3<0
 . go_wp2_with fail
   go_ret
   exact ⟨_,rfl,fun h=>absurd h (by decide),u_ HB⟩
 have hl3:q3<=1048576:=(u_ HQ3 (by omega)).1
 have HX3:=h_ (u_ HQ3 (by omega)).2
 go_wp2_with fail
 refine (q3y af afc m.fields afa q3 W3 (by omega) hl3 (u_ HF).fl (u_ HF).f (u_ HS).f).mono ?_
 rintro r W4 ⟨q4,rfl,hq,hm,hb⟩
 replace HK:=mB HK hb;replace HS:=h_ ((u_ HS).mono hb);replace HB:=mT HB hb
 have HQ4:=h_ hq
 clear hq hm hb x0 x1 x2 x3
 obtain ⟨x0,x1,x2,x3⟩:=quad (u_ HK)
 by_cases hr4:q4<0
 . go_wp2_with fail
   go_ret
   exact ⟨_,rfl,fun h=>absurd h (by decide),u_ HB⟩
 have hl4:q4<=1048576:=(u_ HQ4 (by omega)).1
 have HX4:=h_ (u_ HQ4 (by omega)).2
 go_wp2_with fail
 go_ret
 exact ⟨_,rfl,fun _=>⟨⟨u_ HX1,u_ HX2,u_ HX3,(u_ HX4).1,(u_ HX4).2⟩,hl4⟩,u_ HB⟩
theorem qfy {m:Fm} {n:Nat} {F:Nat->Bool} {a:Int} (h:ChkF m n F 0 a):a=0:=by
 rcases h with ⟨z,-,-,h,-⟩ | ⟨-,f,z,-,-,-,⟨-,h,-⟩ | ⟨-,-,h⟩⟩
 . exact absurd h (by decide)
 . exact absurd h (by decide)
 . exact h
theorem SndW.congr {m:Fm} {A:MA} {n:Nat} {F:Nat->Bool} {f g:Nat->Nat} {S:SF} {W:World} (h:SndW m A n F g S W) (he:∀ k,k<m.fields.length->g k=f k):SndW m A n F f S W:=by
 obtain ⟨b,bt,top,a1,a2,a3,c1,c2,c3,a5,c5,e,h1,h2,h3⟩:=h
 have e2:lsL g m.fields.length=lsL f m.fields.length:=by
  unfold lsL
  exact List.map_congr_left fun k hk=>he k (List.mem_range.1 hk)
 rw [e2] at h3
 exact ⟨b,bt,top,a1,a2,a3,c1,c2,c3,a5,c5,e,h1,h2,h3⟩
theorem q42 (m:Fm) (A:MA) (n:Nat) (F:Nat->Bool) (f:Nat->Nat) (S:SF) (WD:World) (Sh:Nat) (Bs:Nat->Nat) (u:Value) (pl:Nat) (k:Int) (e:Nat->Cx) (w:World) (hX:Shet m A n F f S WD Sh Bs e m.fields.length u pl w) :
 Calls Tryz.prog 51 #[.pointer (some ⟨Sh,0,none⟩),.int .i64 k] w fun x w'=>x=.returned (.bool (decide (0<=k/\k<m.fields.length)))/\w'=w:=by
 obtain ⟨ua,ucp,rfl⟩:=hX.slice
 have y12:w.cell? ⟨Sh,12,none⟩=some (.slice ua m.fields.length ucp):=hX.blk.cell 12
 clear hX
 by_cases h0:0<=k
 . by_cases h1:k<m.fields.length
   . rw [decide_eq_true ⟨h0,h1⟩]
     go_enter Tryz.func51,Tryz.ntmps51
     go_wp2_with fail
     go_ret
     exact ⟨rfl,rfl⟩
   . rw [decide_eq_false (fun h=>h1 h.2)]
     go_enter Tryz.func51,Tryz.ntmps51
     go_wp2_with fail
     go_ret
     exact ⟨rfl,rfl⟩
 . rw [decide_eq_false (fun h=>h0 h.1)]
   go_enter Tryz.func51,Tryz.ntmps51
   go_wp2_with fail
   go_ret
   exact ⟨rfl,rfl⟩
theorem q4v (m:Fm) (A:MA) (n:Nat) (F:Nat->Bool) (f:Nat->Nat) (S:SF) (WD:World) (Sh:Nat) (Bs:Nat->Nat) (u:Value) (pl:Nat) (r:Int) (e:Nat->Cx) (w:World) (hX:Shet m A n F f S WD Sh Bs e m.fields.length u pl w) :
 Calls Tryz.prog 36 #[.pointer (some ⟨Sh,0,none⟩),.int .i64 r] w fun x w'=>x=.returned (.bool (decide (0<=r/\r<m.roles.length)))/\w'=w:=by
 obtain ⟨b,bt,top,a1,a2,a3,c1,c2,c3,a5,c5,hSe,-,-,-⟩:=hX.snd
 have y2:w.cell? ⟨Sh,2,none⟩=some (.slice A.r m.roles.length A.rc):=(hX.blk.cell 2).trans (by rw [hSe];rfl)
 clear hX hSe
 by_cases h0:0<=r
 . by_cases h1:r<m.roles.length
   . rw [decide_eq_true ⟨h0,h1⟩]
     go_enter Tryz.func36,Tryz.ntmps36
     go_wp2_with fail
     go_ret
     exact ⟨rfl,rfl⟩
   . rw [decide_eq_false (fun h=>h1 h.2)]
     go_enter Tryz.func36,Tryz.ntmps36
     go_wp2_with fail
     go_ret
     exact ⟨rfl,rfl⟩
 . rw [decide_eq_false (fun h=>h0 h.1)]
   go_enter Tryz.func36,Tryz.ntmps36
   go_wp2_with fail
   go_ret
   exact ⟨rfl,rfl⟩
theorem qaj (a:Option Addr) (c:Nat) (l:List Int) (x:Int) (w:World) (hl:l.length<=9223372036854775807) (ha:IntL w a l) :
 Calls Tryz.prog 104 #[.slice a l.length c,.int .i64 x] w fun e w'=>e=.returned (.bool (l.contains x))/\w'=w:=by
 by_cases h0:l.length=0
 . obtain rfl:l=[]:=List.length_eq_zero_iff.1 h0
   exact Tryz.slices_Contains_int_empty a c x w
 . obtain ⟨b,o,rfl,-,-⟩:=ha 0 (by omega)
   have h:=Tryz.slices_Contains_int b o l.length c l x w (Nat.le_refl _) hl (fun j hj=>by
    obtain ⟨b',o',e,-,hc⟩:=ha j hj
    cases e
    exact hc)
   rw [List.take_length] at h
   exact h
theorem q3n {m:Fm} (hv:VfA m) {j:Nat} (hj:j<m.fields.length) (r:Nat):m.fields[j].bys.contains (r:Int)=decide (r ∈ bysN m j):=by
 rw [qg2 hv hj,Bool.eq_iff_iff,List.contains_iff_mem,decide_eq_true_iff,List.mem_map]
 constructor
 . rintro ⟨x,hx,e⟩
   have:x=r:=by omega
   rw [<- this];exact hx
 . exact fun h=>⟨r,h,rfl⟩
theorem q60 (m:Fm) (A:MA) (n:Nat) (F:Nat->Bool) (f:Nat->Nat) (S:SF) (WD:World) (Sh:Nat) (Bs:Nat->Nat) (u:Value) (pl r k Cb Sb s:Nat) (e:Nat->Cx) (w:World) (hv:VfA m) (hf:FitM m) (hn:n<=32) (hk:k<m.fields.length) (s1:Sol m n (fun a b=>F (a*n+b)=true) f) (hX:Shet m A n F f S WD Sh Bs e m.fields.length u pl w) (hV:Vwr n F (rlb m r) Sh Cb Sb s w) :
 Calls Tryz.prog 80 #[.pointer (some ⟨Sh,0,none⟩),vwV r Cb Sb,.int .i64 k] w fun x w'=>x=.returned (.bool (seesB m n F f r k&&decide (r ∈ bysN m k)))/\Below w.heap.size w w':=by
 obtain ⟨b,bt,top,a1,a2,a3,c1,c2,c3,a5,c5,hSe,-,-,-⟩:=hX.snd
 obtain ⟨fb,fo,ef,hfc,hfs⟩:=hX.msl.f k hk
 have HCs:=h_ fun W (h:Shet m A n F f S WD Sh Bs e m.fields.length u pl W) (h':Vwr n F (rlb m r) Sh Cb Sb s W)=>qgc m A n F f S WD Sh Bs u pl r k Cb Sb s e W hn hk s1 h h'
 have HCc:=h_ fun W (h:Below WD.heap.size WD W)=>qaj (A.fa k).b (A.fa k).bc m.fields[k].bys (r:Int) W (hf.f _ (List.getElem_mem hk)).bl (hfs.b.mono h)
 rw [q3n hv hk r] at HCc
 have HZ:Hid (∀ W,Below WD.heap.size WD W->W.cell? ⟨fb,fo+k*9+3,none⟩=some (.slice (A.fa k).b m.fields[k].bys.length (A.fa k).bc)):=h_ fun W h=>(h.cell (p:=⟨fb,fo+k*9+3,none⟩) hfc.1).trans hfc.2.2.2.2.1
 have HY:Hid (∀ W,Blk W Sh 137 (sfC S++[u,Value.map (some pl)])->W.cell? ⟨Sh,3,none⟩=some (.slice A.f m.fields.length A.fc)):=h_ fun W h=>(h.cell 3).trans (by rw [hSe];rfl)
 rw [ef] at HY
 have hk':(k:Int)<m.fields.length:=by omega
 have HX0:=h_ hX;have HV0:=h_ hV
 unfold vwV seeV
 have hVb:=Blk.new w 79 #[.int .i64 r,.func (.func 71) #[] #[.pointer (some ⟨Cb,0,none⟩),.pointer (some ⟨Sb,0,none⟩)]]
 have hB0:=(Below.refl w.heap.size w).alloc (Nat.le_refl _) (.cells #[.int .i64 r,.func (.func 71) #[] #[.pointer (some ⟨Cb,0,none⟩),.pointer (some ⟨Sb,0,none⟩)]] 79)
 obtain ⟨W0,hW0⟩:∃ W0,w.alloc (.cells #[.int .i64 r,.func (.func 71) #[] #[.pointer (some ⟨Cb,0,none⟩),.pointer (some ⟨Sb,0,none⟩)]] 79)=W0:=⟨_,rfl⟩
 rw [hW0] at hVb hB0
 have HVb:=h_ hVb;have HB:=h_ hB0
 have HX:=h_ ((u_ HX0).mono hB0);have HV:=h_ ((u_ HV0).mono hB0)
 clear hSe hfc hfs hX hV hVb hB0 HX0 HV0 s1 ef
 go_enter Tryz.func80,Tryz.ntmps80
 go_wp2_with fail
 try rw [hW0]
 clear hW0
 refine wp_region_held_drew (S:=fun w'=>Blk w' Sh 137 (sfC S++[u,Value.map (some pl)])/\Below WD.heap.size WD w'/\Blk w' w.heap.size 79 [Value.int .i64 r,Value.func (.func 71) #[] #[.pointer (some ⟨Cb,0,none⟩),.pointer (some ⟨Sb,0,none⟩)]]) (by kernel_rfl) ⟨(u_ HX).blk,(u_ HX).base.drew,u_ HVb⟩ (fun hHeld=>?_)
 refine tk (i:=0) (v:=.pointer (some ⟨w.heap.size,1,none⟩)) 7 hHeld ?_
 simp only [s1',s2',s3']
 refine tk (i:=1) (v:=.func (.func 71) #[] #[.pointer (some ⟨Cb,0,none⟩),.pointer (some ⟨Sb,0,none⟩)]) 8 hHeld ?_ (hy:=fun w hS=>by have q0:=hS.2.2.cell 1;simp only [List.getElem?_cons_zero,List.getElem?_cons_succ] at q0;simp [execOp,go_sem,q0])
 simp only [s1',s2',s3']
 refine tk (i:=2) (v:=.int .i64 k) 9 hHeld ?_
 simp only [s1',s2',s3']
 have HXV:=h_ ((u_ HX).mono (Below.refl W0.heap.size W0).drew);have HVV:=h_ ((u_ HV).mono (Below.refl W0.heap.size W0).drew)
 have HBV:=h_ ((u_ HB).trans ((Below.refl W0.heap.size W0).drew.mono (u_ HB).size))
 have HVbV:=h_ ((u_ HVb).mono (Below.refl W0.heap.size W0).drew (u_ HVb).lt)
 obtain ⟨V,hV⟩:∃ V,W0.drew=V:=⟨_,rfl⟩
 rw [hV] at HXV HVV HBV HVbV hHeld ⊢
 clear hV HX HV HVb HB
 refine callY (i:=3) (f:=71) (args:=#[.int .i64 k,.pointer (some ⟨Cb,0,none⟩),.pointer (some ⟨Sb,0,none⟩)]) (R:=fun v wz=>v=.bool (seesB m n F f r k)/\Below V.heap.size V wz) 10 rfl rfl (by rfl) (by kernel_rfl) (by simp [execOp,go_sem]) ((u_ HCs V (u_ HXV) (u_ HVV)).mono fun e w6 ⟨he,hb⟩=>⟨_,he,rfl,hb⟩) ?_
 rintro v W7 ⟨rfl,hb⟩
 have hX7:=(u_ HXV).mono hb
 have hV7:=(u_ HVbV).mono hb (u_ HVbV).lt
 have hB7:=(u_ HBV).trans (hb.mono (u_ HBV).size)
 replace hHeld:Blk W7 Sh 137 (sfC S++[u,Value.map (some pl)])/\Below WD.heap.size WD W7/\Blk W7 w.heap.size 79 [Value.int .i64 r,Value.func (.func 71) #[] #[.pointer (some ⟨Cb,0,none⟩),.pointer (some ⟨Sb,0,none⟩)]]:=⟨hX7.blk,hX7.base,hV7⟩
 have HB7:=h_ hB7;have HX7:=h_ hX7;have HV7:=h_ hV7
 clear hb hX7 hV7 hB7
 refine ⟨hHeld,?_⟩
 simp only [s1',s2',s3']
 cases hq:seesB m n F f r k
 . skip
   refine tk (i:=4) (v:=.bool false) 11 hHeld ?_
   simp only [s1',s2',s3']
   refine tn (i:=5) 12 hHeld ?_
   simp only [s1',s2',s3']
   refine tn (i:=6) 13 hHeld ?_
   simp only [s1',s2',s3']
   refine tn (i:=7) 14 hHeld ?_
   simp only [s1',s2',s3']
   refine tn (i:=8) 15 hHeld ?_
   simp only [s1',s2',s3']
   refine tn (i:=9) 16 hHeld ?_
   simp only [s1',s2',s3']
   refine tn (i:=10) 17 hHeld ?_
   simp only [s1',s2',s3']
   refine tn (i:=11) 18 hHeld ?_
   simp only [s1',s2',s3']
   refine tn (i:=12) 19 hHeld ?_
   simp only [s1',s2',s3']
   refine tn (i:=13) 20 hHeld ?_
   simp only [s1',s2',s3']
   refine tn (i:=14) 21 hHeld ?_
   simp only [s1',s2',s3']
   refine tn (i:=15) 22 hHeld ?_
   simp only [s1',s2',s3']
   refine tn (i:=16) 23 hHeld ?_
   simp only [s1',s2',s3']
   refine tn (i:=17) 24 hHeld ?_
   simp only [s1',s2',s3']
   refine tn (i:=18) 25 hHeld ?_
   simp only [s1',s2',s3']
   refine tk (i:=19) (v:=.bool false) 26 hHeld ?_
   simp only [s1',s2',s3']
   refine tk (i:=20) (v:=.bool false) 6 hHeld ?_
   simp only [s1',s2',s3']
   refine wpAnyH_done (by kernel_rfl) ?_ _
   clear hHeld
   go_wp2_with fail
   go_ret
   rw [hq]
   exact ⟨rfl,u_ HB7⟩
 . skip
   refine tk (i:=4) (v:=.bool true) 11 hHeld ?_
   simp only [s1',s2',s3']
   refine tk (i:=5) (v:=.pointer (some ⟨Sh,0,none⟩)) 12 hHeld ?_
   simp only [s1',s2',s3']
   refine tk (i:=6) (v:=.pointer (some ⟨Sh,0,none⟩)) 13 hHeld ?_
   simp only [s1',s2',s3']
   refine tk (i:=7) (v:=.pointer (some ⟨Sh,0,none⟩)) 14 hHeld ?_
   simp only [s1',s2',s3']
   refine tk (i:=8) (v:=.pointer (some ⟨Sh,0,none⟩)) 15 hHeld ?_
   simp only [s1',s2',s3']
   refine tk (i:=9) (v:=.pointer (some ⟨Sh,0,none⟩)) 16 hHeld ?_
   simp only [s1',s2',s3']
   refine tk (i:=10) (v:=.pointer (some ⟨Sh,3,none⟩)) 17 hHeld ?_
   simp only [s1',s2',s3']
   refine tk (i:=11) (v:=.slice (some ⟨fb,fo,none⟩) m.fields.length A.fc) 18 hHeld ?_ (hy:=fun w hS=>by have q0:=u_ HY _ hS.1;simp [execOp,go_sem,q0])
   simp only [s1',s2',s3']
   refine tk (i:=12) (v:=.int .i64 k) 19 hHeld ?_
   simp only [s1',s2',s3']
   refine tk (i:=13) (v:=.pointer (some ⟨fb,fo+k*9,none⟩)) 20 hHeld ?_
   simp only [s1',s2',s3']
   refine tk (i:=14) (v:=.pointer (some ⟨fb,fo+k*9+3,none⟩)) 21 hHeld ?_
   simp only [s1',s2',s3']
   refine tk (i:=15) (v:=.slice (A.fa k).b m.fields[k].bys.length (A.fa k).bc) 22 hHeld ?_ (hy:=fun w hS=>by have q0:=u_ HZ _ hS.2.1;simp [execOp,go_sem,q0])
   simp only [s1',s2',s3']
   refine tk (i:=16) (v:=.pointer (some ⟨w.heap.size,0,none⟩)) 23 hHeld ?_
   simp only [s1',s2',s3']
   refine tk (i:=17) (v:=.int .i64 r) 24 hHeld ?_ (hy:=fun w hS=>by have q0:=hS.2.2.cell 0;simp only [List.getElem?_cons_zero] at q0;simp [execOp,go_sem,q0])
   simp only [s1',s2',s3']
   refine callY (i:=18) (f:=104) (args:=#[.slice (A.fa k).b m.fields[k].bys.length (A.fa k).bc,.int .i64 r]) (R:=fun v wz=>v=.bool (decide (r ∈ bysN m k))/\wz=W7) 25 rfl rfl (by rfl) (by kernel_rfl) (by simp [execOp,go_sem]) ((u_ HCc W7 (u_ HX7).base).mono fun e w6 ⟨he,hw⟩=>⟨_,he,rfl,hw⟩) ?_
   rintro v W8 ⟨rfl,e8⟩
   rw [e8]
   clear e8
   refine ⟨hHeld,?_⟩
   simp only [s1',s2',s3']
   refine tk (i:=19) (v:=.bool (decide (r ∈ bysN m k))) 26 hHeld ?_
   simp only [s1',s2',s3']
   refine tk (i:=20) (v:=.bool (decide (r ∈ bysN m k))) 6 hHeld ?_
   simp only [s1',s2',s3']
   refine wpAnyH_done (by kernel_rfl) ?_ _
   clear hHeld
   go_wp2_with fail
   go_ret
   rw [hq,Bool.true_and]
   exact ⟨rfl,u_ HB7⟩
theorem qd3 (m:Fm) (A:MA) (n:Nat) (F:Nat->Bool) (f:Nat->Nat) (S:SF) (WD:World) (Sh:Nat) (Bs:Nat->Nat) (u:Value) (pl r k Cb Sb s:Nat) (e:Nat->Cx) (w:World) (hv:VfA m) (hf:FitM m) (hn:n<=32) (hk:k<m.fields.length) (s1:Sol m n (fun a b=>F (a*n+b)=true) f) (hX:Shet m A n F f S WD Sh Bs e m.fields.length u pl w) (hV:Vwr n F (rlb m r) Sh Cb Sb s w) :
 Calls Tryz.prog 52 #[.pointer (some ⟨Sh,0,none⟩),vwV r Cb Sb,.int .i64 k,.bool true] w fun x w'=>∃ z:Int,x=.returned (.int .i64 z)/\NavOk (canGo m n F f e r) m.fields.length k true z/\Below w.heap.size w w':=by
 have HCm:=h_ fun j W (hj:j<m.fields.length) (h:Shet m A n F f S WD Sh Bs e m.fields.length u pl W) (h':Vwr n F (rlb m r) Sh Cb Sb s W)=>q60 m A n F f S WD Sh Bs u pl r j Cb Sb s e W hv hf hn hj s1 h h'
 have HCf:=h_ fun z W (h:Shet m A n F f S WD Sh Bs e m.fields.length u pl W)=>q42 m A n F f S WD Sh Bs u pl z e W h
 have hnf:=hv.nf
 unfold vwV seeV at HCm ⊢
 have hVb:=Blk.new w 79 #[.int .i64 r,.func (.func 71) #[] #[.pointer (some ⟨Cb,0,none⟩),.pointer (some ⟨Sb,0,none⟩)]]
 have hB0:=(Below.refl w.heap.size w).alloc (Nat.le_refl _) (.cells #[.int .i64 r,.func (.func 71) #[] #[.pointer (some ⟨Cb,0,none⟩),.pointer (some ⟨Sb,0,none⟩)]] 79)
 obtain ⟨W0,hW0⟩:∃ W0,w.alloc (.cells #[.int .i64 r,.func (.func 71) #[] #[.pointer (some ⟨Cb,0,none⟩),.pointer (some ⟨Sb,0,none⟩)]] 79)=W0:=⟨_,rfl⟩
 rw [hW0] at hVb hB0
 have HVb:=h_ hVb;have HB:=h_ hB0
 have HX:=h_ (hX.mono hB0);have HV:=h_ (hV.mono hB0)
 obtain ⟨ua,ucp,hu⟩:=hX.slice
 subst hu
 clear hX hV hVb hB0 s1 hv hf hn
 go_enter Tryz.func52,Tryz.ntmps52
 go_wp2_with fail
 try rw [hW0]
 clear hW0
 go_loopw [10] (fun j wr=>∃ z:Int,j=.int .i64 z/\-1<=z/\z<k/\(∀ i:Nat,z<i->i<k->canGo m n F f e r i=false)/\Below W0.heap.size W0 wr) (fun j _=>(intOf j+1).toNat)
 case atStart=>exact ⟨(k:Int) - 1,by go_num,by omega,by omega,fun i h1 h2=>by omega,Below.refl _ _⟩
 case round =>
  obtain ⟨z,rfl,hz1,hz2,hall,hb⟩:=hrel
  have HAll:=h_ hall
  have HXr:=h_ ((u_ HX).mono hb);have HVr:=h_ ((u_ HV).mono hb);have HVbr:=mB HVb hb;have HBr:=mT HB hb;have HB0:=h_ hb
  have HC1:=h_ (u_ HCf z wr (u_ HXr))
  clear hall hb
  go_wp2_with fail
  refine (u_ HC1).mono ?_
  rintro x w2 ⟨rfl,hw⟩
  subst hw
  clear HC1
  by_cases hin:0<=z/\z<m.fields.length
  . rw [decide_eq_true hin]
    obtain ⟨h0,h1⟩:=hin
    obtain ⟨j,rfl⟩:∃ j:Nat,z=j:=⟨z.toNat,by omega⟩
    have hj:j<m.fields.length:=by omega
    have hj':(j:Int)<m.fields.length:=by omega
    have HC2:=h_ (u_ HCm j w2 hj (u_ HXr) (u_ HVr))
    have v0:=(u_ HVbr).cell 0;have v1:=(u_ HVbr).cell 1
    simp only [List.getElem?_cons_zero,List.getElem?_cons_succ] at v0 v1
    have HP:Hid (canGo m n F f e r j=((e j).rel&&(seesB m n F f r j&&decide (r ∈ bysN m j)))):=h_ (by unfold canGo;rw [Bool.and_assoc])
    obtain ⟨q,hq⟩:∃ q,(seesB m n F f r j&&decide (r ∈ bysN m j))=q:=⟨_,rfl⟩
    rw [hq] at HC2 HP
    clear hq
    go_wp2_with fail
    refine (u_ HC2).mono ?_
    rintro x W3 ⟨rfl,hb⟩
    replace HXr:=h_ ((u_ HXr).mono hb);replace HVr:=h_ ((u_ HVr).mono hb);replace HVbr:=mB HVbr hb;replace HBr:=mT HBr hb;replace HB0:=mT HB0 hb
    clear hb v0 v1 HC2
    have HNo:Hid (canGo m n F f e r j=false->∀ i:Nat,(j:Int) - 1<i->i<k->canGo m n F f e r i=false):=h_ fun h=>fun i h1 h2=>by
     by_cases ei:i=j
     . rw [ei];exact h
     . exact u_ HAll i (by omega) h2
    cases q
    . have HN2:=h_ (u_ HNo (by rw [u_ HP,Bool.and_false]))
      go_wp2_with fail
      go_roundw
      case rel=>first | exact ⟨(j:Int) - 1,by go_num,by omega,by omega,u_ HN2,u_ HB0⟩ | ((repeat apply Exists.intro);exact ⟨⟨(j:Int) - 1,by go_num,by omega,by omega,u_ HN2,u_ HB0⟩,rfl⟩)
      case measure=>simp [intOf];omega
    . obtain ⟨q,cp,eu,hqc,-⟩:=(u_ HXr).at hj
      obtain ⟨rfl,rfl⟩:ua=some ⟨q,0,none⟩/\ucp=cp:=by simpa using eu
      clear eu
      unfold ifV at hqc
      have y12:W3.cell? ⟨Sh,12,none⟩=some (.slice (some ⟨q,0,none⟩) m.fields.length ucp):=(u_ HXr).blk.cell 12
      have y3:W3.cell? ⟨Bs j,3,none⟩=some (.bool (e j).rel):=(((u_ HXr).bx j hj).2.cell 3).trans rfl
      have hm:=head_m (inpB (fAt m j)) (Bs j)
      go_wp2_with fail
      refine (qdz _ _).mono ?_
      rintro x W4 ⟨rfl,hw⟩
      subst hw
      clear hm
      cases hre:(e j).rel
      . rw [hre] at y3
        have HN2:=h_ (u_ HNo (by rw [u_ HP,hre];rfl))
        go_wp2_with fail
        go_roundw
        case rel=>first | exact ⟨(j:Int) - 1,by go_num,by omega,by omega,u_ HN2,u_ HB0⟩ | ((repeat apply Exists.intro);exact ⟨⟨(j:Int) - 1,by go_num,by omega,by omega,u_ HN2,u_ HB0⟩,rfl⟩)
        case measure=>simp [intOf];omega
      . rw [hre] at y3
        have HN:Hid (NavOk (canGo m n F f e r) m.fields.length k true (j:Int)):=h_ (.inr ⟨j,rfl,hj,side_t.2 (by omega),by rw [u_ HP,hre];rfl,fun i hi hs hp=>by
         by_cases hij:i<=j
         . simpa using hij
         . rw [u_ HAll i (by omega) (side_t.1 hs)] at hp;cases hp⟩)
        go_wp2_with fail
        go_ret
        exact ⟨_,rfl,u_ HN,u_ HBr⟩
  . rw [decide_eq_false hin]
    have HN:Hid (NavOk (canGo m n F f e r) m.fields.length k true (-1)):=h_ (.inl ⟨rfl,fun j hj hs=>u_ HAll j (by omega) (side_t.1 hs)⟩)
    go_wp2_with fail
    go_ret
    exact ⟨-1,rfl,u_ HN,u_ HBr⟩
theorem qde (m:Fm) (A:MA) (n:Nat) (F:Nat->Bool) (f:Nat->Nat) (S:SF) (WD:World) (Sh:Nat) (Bs:Nat->Nat) (u:Value) (pl r k Cb Sb s:Nat) (e:Nat->Cx) (w:World) (hv:VfA m) (hf:FitM m) (hn:n<=32) (hk:k<m.fields.length) (s1:Sol m n (fun a b=>F (a*n+b)=true) f) (hX:Shet m A n F f S WD Sh Bs e m.fields.length u pl w) (hV:Vwr n F (rlb m r) Sh Cb Sb s w) :
 Calls Tryz.prog 52 #[.pointer (some ⟨Sh,0,none⟩),vwV r Cb Sb,.int .i64 k,.bool false] w fun x w'=>∃ z:Int,x=.returned (.int .i64 z)/\NavOk (canGo m n F f e r) m.fields.length k false z/\Below w.heap.size w w':=by
 have HCm:=h_ fun j W (hj:j<m.fields.length) (h:Shet m A n F f S WD Sh Bs e m.fields.length u pl W) (h':Vwr n F (rlb m r) Sh Cb Sb s W)=>q60 m A n F f S WD Sh Bs u pl r j Cb Sb s e W hv hf hn hj s1 h h'
 have HCf:=h_ fun z W (h:Shet m A n F f S WD Sh Bs e m.fields.length u pl W)=>q42 m A n F f S WD Sh Bs u pl z e W h
 have hnf:=hv.nf
 unfold vwV seeV at HCm ⊢
 have hVb:=Blk.new w 79 #[.int .i64 r,.func (.func 71) #[] #[.pointer (some ⟨Cb,0,none⟩),.pointer (some ⟨Sb,0,none⟩)]]
 have hB0:=(Below.refl w.heap.size w).alloc (Nat.le_refl _) (.cells #[.int .i64 r,.func (.func 71) #[] #[.pointer (some ⟨Cb,0,none⟩),.pointer (some ⟨Sb,0,none⟩)]] 79)
 obtain ⟨W0,hW0⟩:∃ W0,w.alloc (.cells #[.int .i64 r,.func (.func 71) #[] #[.pointer (some ⟨Cb,0,none⟩),.pointer (some ⟨Sb,0,none⟩)]] 79)=W0:=⟨_,rfl⟩
 rw [hW0] at hVb hB0
 have HVb:=h_ hVb;have HB:=h_ hB0
 have HX:=h_ (hX.mono hB0);have HV:=h_ (hV.mono hB0)
 obtain ⟨ua,ucp,hu⟩:=hX.slice
 subst hu
 clear hX hV hVb hB0 s1 hv hf hn
 go_enter Tryz.func52,Tryz.ntmps52
 go_wp2_with fail
 try rw [hW0]
 clear hW0
 go_loopw [10] (fun j wr=>∃ z:Int,j=.int .i64 z/\(k:Int)<z/\z<=m.fields.length/\(∀ i:Nat,k<i->(i:Int)<z->canGo m n F f e r i=false)/\Below W0.heap.size W0 wr) (fun j _=>(m.fields.length - intOf j).toNat)
 case atStart=>exact ⟨(k:Int)+1,by go_num,by omega,by omega,fun i h1 h2=>by omega,Below.refl _ _⟩
 case round =>
  obtain ⟨z,rfl,hz1,hz2,hall,hb⟩:=hrel
  have HAll:=h_ hall
  have HXr:=h_ ((u_ HX).mono hb);have HVr:=h_ ((u_ HV).mono hb);have HVbr:=mB HVb hb;have HBr:=mT HB hb;have HB0:=h_ hb
  have HC1:=h_ (u_ HCf z wr (u_ HXr))
  clear hall hb
  go_wp2_with fail
  refine (u_ HC1).mono ?_
  rintro x w2 ⟨rfl,hw⟩
  subst hw
  clear HC1
  by_cases hin:0<=z/\z<m.fields.length
  . rw [decide_eq_true hin]
    obtain ⟨h0,h1⟩:=hin
    obtain ⟨j,rfl⟩:∃ j:Nat,z=j:=⟨z.toNat,by omega⟩
    have hj:j<m.fields.length:=by omega
    have hj':(j:Int)<m.fields.length:=by omega
    have HC2:=h_ (u_ HCm j w2 hj (u_ HXr) (u_ HVr))
    have v0:=(u_ HVbr).cell 0;have v1:=(u_ HVbr).cell 1
    simp only [List.getElem?_cons_zero,List.getElem?_cons_succ] at v0 v1
    have HP:Hid (canGo m n F f e r j=((e j).rel&&(seesB m n F f r j&&decide (r ∈ bysN m j)))):=h_ (by unfold canGo;rw [Bool.and_assoc])
    obtain ⟨q,hq⟩:∃ q,(seesB m n F f r j&&decide (r ∈ bysN m j))=q:=⟨_,rfl⟩
    rw [hq] at HC2 HP
    clear hq
    go_wp2_with fail
    refine (u_ HC2).mono ?_
    rintro x W3 ⟨rfl,hb⟩
    replace HXr:=h_ ((u_ HXr).mono hb);replace HVr:=h_ ((u_ HVr).mono hb);replace HVbr:=mB HVbr hb;replace HBr:=mT HBr hb;replace HB0:=mT HB0 hb
    clear hb v0 v1 HC2
    have HNo:Hid (canGo m n F f e r j=false->∀ i:Nat,k<i->(i:Int)<(j:Int)+1->canGo m n F f e r i=false):=h_ fun h=>fun i h1 h2=>by
     by_cases ei:i=j
     . rw [ei];exact h
     . exact u_ HAll i h1 (by omega)
    cases q
    . have HN2:=h_ (u_ HNo (by rw [u_ HP,Bool.and_false]))
      go_wp2_with fail
      go_roundw
      case rel=>first | exact ⟨(j:Int)+1,by go_num,by omega,by omega,u_ HN2,u_ HB0⟩ | ((repeat apply Exists.intro);exact ⟨⟨(j:Int)+1,by go_num,by omega,by omega,u_ HN2,u_ HB0⟩,rfl⟩)
      case measure=>simp [intOf];omega
    . obtain ⟨q,cp,eu,hqc,-⟩:=(u_ HXr).at hj
      obtain ⟨rfl,rfl⟩:ua=some ⟨q,0,none⟩/\ucp=cp:=by simpa using eu
      clear eu
      unfold ifV at hqc
      have y12:W3.cell? ⟨Sh,12,none⟩=some (.slice (some ⟨q,0,none⟩) m.fields.length ucp):=(u_ HXr).blk.cell 12
      have y3:W3.cell? ⟨Bs j,3,none⟩=some (.bool (e j).rel):=(((u_ HXr).bx j hj).2.cell 3).trans rfl
      have hm:=head_m (inpB (fAt m j)) (Bs j)
      go_wp2_with fail
      refine (qdz _ _).mono ?_
      rintro x W4 ⟨rfl,hw⟩
      subst hw
      clear hm
      cases hre:(e j).rel
      . rw [hre] at y3
        have HN2:=h_ (u_ HNo (by rw [u_ HP,hre];rfl))
        go_wp2_with fail
        go_roundw
        case rel=>first | exact ⟨(j:Int)+1,by go_num,by omega,by omega,u_ HN2,u_ HB0⟩ | ((repeat apply Exists.intro);exact ⟨⟨(j:Int)+1,by go_num,by omega,by omega,u_ HN2,u_ HB0⟩,rfl⟩)
        case measure=>simp [intOf];omega
      . rw [hre] at y3
        have HN:Hid (NavOk (canGo m n F f e r) m.fields.length k false (j:Int)):=h_ (.inr ⟨j,rfl,hj,side_f.2 (by omega),by rw [u_ HP,hre];rfl,fun i hi hs hp=>by
         by_cases hij:j<=i
         . simpa using hij
         . rw [u_ HAll i (side_f.1 hs) (by omega)] at hp;cases hp⟩)
        go_wp2_with fail
        go_ret
        exact ⟨_,rfl,u_ HN,u_ HBr⟩
  . rw [decide_eq_false hin]
    have HN:Hid (NavOk (canGo m n F f e r) m.fields.length k false (-1)):=h_ (.inl ⟨rfl,fun j hj hs=>u_ HAll j (side_f.1 hs) (by omega)⟩)
    go_wp2_with fail
    go_ret
    exact ⟨-1,rfl,u_ HN,u_ HBr⟩
theorem q73 (m:Fm) (A:MA) (v:Value) (r k:Int) (back:Bool) (w:World) (hS:∀ W,MSl W m A->Tabs W->TyW W->Tab W->Calls Tryz.prog 34 #[mV m A] W fun x w'=>x=.returned (.tuple #[.pointer none,.bool false])/\Below W.heap.size W w') (ha:MSl w m A) (ht:Tabs w) (hy:TyW w) (htb:Tab w) :
 Calls Tryz.prog 19 #[mV m A,v,.int .i64 r,.int .i64 k,.bool back] w fun x w'=>x=.returned (.int .i64 (-1))/\Below w.heap.size w w':=by
 have HC0:=h_ hS
 obtain ⟨al,alc,ap,apc,ar,arc,af,afc,afa⟩:=A
 unfold mV at HC0 ⊢
 dsimp only at HC0 ⊢
 have HK:=h_ (Blk.new w 37 #[.slice al m.labels.length alc,.slice ap m.below.length apc,.slice ar m.roles.length arc,.slice af m.fields.length afc])
 have HB:=h_ ((Below.refl w.heap.size w).alloc (Nat.le_refl _) (.cells #[.slice al m.labels.length alc,.slice ap m.below.length apc,.slice ar m.roles.length arc,.slice af m.fields.length afc] 37))
 obtain ⟨W0,hW0⟩:∃ W0,w.alloc (.cells #[.slice al m.labels.length alc,.slice ap m.below.length apc,.slice ar m.roles.length arc,.slice af m.fields.length afc] 37)=W0:=⟨_,rfl⟩
 rw [hW0] at HK HB
 have HC:=h_ (u_ HC0 W0 (ha.mono (u_ HB)) (ht.mono (u_ HB)) (hy.mono (u_ HB)) (htb.mono (u_ HB)))
 obtain ⟨y0,y1,y2,y3⟩:=quad (u_ HK)
 clear ha ht hy htb hS HC0
 go_enter Tryz.func19,Tryz.ntmps19
 go_wp2_with fail
 try rw [hW0]
 refine (u_ HC).mono ?_
 rintro x W1 ⟨rfl,hb⟩
 replace HB:=mT HB hb
 clear hb hW0 y0 y1 y2 y3
 go_wp2_with fail
 go_ret
 exact ⟨rfl,u_ HB⟩
theorem q7z (m:Fm) (A:MA) (n:Nat) (F:Nat->Bool) (f:Nat->Nat) (L c:Nat) (a:Option Addr) (e:Nat->Cx) (r k:Int) (back:Bool) (w:World) (hv:VfA m) (hf:FitM m) (hN:m.labels.length=n) (hn:n<=32) (s1:Sol m n (fun a b=>F (a*n+b)=true) f) (hL:L<=9223372036854775807) (hsz:∀ k,k<L->(e k).v.s.size<=9223372036854775807) (hS:∀ W,MSl W m A->Tabs W->TyW W->Tab W->Calls Tryz.prog 34 #[mV m A] W fun x w'=>∃ S WD Sh Bs u pl,x=.returned (.tuple #[.pointer (some ⟨Sh,0,none⟩),.bool true])/\W.heap.size<=WD.heap.size/\Shet m A n F f S WD Sh Bs (fun _=>zCx) m.fields.length u pl w'/\Below W.heap.size W w') (ha:MSl w m A) (hc:Cels w a L e) (ht:Tabs w) (hy:TyW w) (htb:Tab w) :
 Calls Tryz.prog 19 #[mV m A,.slice a L c,.int .i64 r,.int .i64 k,.bool back] w fun x w'=>∃ z:Int,x=.returned (.int .i64 z)/\NavA m n F f L e r k back z/\Below w.heap.size w w':=by
 have HC0:=h_ hS
 have hnf:=hv.nf
 have HCt:=h_ fun S WD Sh Bs u pl W (h:Shet m A n F f S WD Sh Bs (fun _=>zCx) m.fields.length u pl W) (h':Cels WD a L e)=>q1c m A n F f S WD Sh Bs u pl L c a e W hnf hL hsz h h'
 have HCr:=h_ fun S WD Sh Bs u pl W (h:Shet m A n F f S WD Sh Bs e m.fields.length u pl W)=>q4v m A n F f S WD Sh Bs u pl r e W h
 have HCf:=h_ fun S WD Sh Bs u pl W (h:Shet m A n F f S WD Sh Bs e m.fields.length u pl W)=>q42 m A n F f S WD Sh Bs u pl k e W h
 have HCv:=h_ fun S WD Sh Bs u pl (rn:Nat) W (hr:rn<m.roles.length) (h:Shet m A n F f S WD Sh Bs e m.fields.length u pl W)=>q3w m A n F f S WD Sh Bs u pl rn e W hv hN hn hr h
 have HCs:=h_ fun S WD Sh Bs u pl (rn kn Cb Sb s:Nat) W (hk:kn<m.fields.length) (h:Shet m A n F f S WD Sh Bs e m.fields.length u pl W) (h':Vwr n F (rlb m rn) Sh Cb Sb s W)=>qgc m A n F f S WD Sh Bs u pl rn kn Cb Sb s e W hn hk s1 h h'
 have HCn:Hid (∀ S WD Sh Bs u pl (rn kn Cb Sb s:Nat) W,kn<m.fields.length->Shet m A n F f S WD Sh Bs e m.fields.length u pl W->Vwr n F (rlb m rn) Sh Cb Sb s W->Calls Tryz.prog 52 #[.pointer (some ⟨Sh,0,none⟩),vwV rn Cb Sb,.int .i64 kn,.bool back] W fun x w'=>∃ z:Int,x=.returned (.int .i64 z)/\NavOk (canGo m n F f e rn) m.fields.length kn back z/\Below W.heap.size W w'):=h_ fun S WD Sh Bs u pl rn kn Cb Sb s W hk h h'=>by
  cases back
  . exact qde m A n F f S WD Sh Bs u pl rn kn Cb Sb s e W hv hf hn hk s1 h h'
  . exact qd3 m A n F f S WD Sh Bs u pl rn kn Cb Sb s e W hv hf hn hk s1 h h'
 unfold vwV seeV at HCn HCv
 obtain ⟨al,alc,ap,apc,ar,arc,af,afc,afa⟩:=A
 unfold mV at HC0 ⊢
 dsimp only at HC0 ⊢
 have HK:=h_ (Blk.new w 37 #[.slice al m.labels.length alc,.slice ap m.below.length apc,.slice ar m.roles.length arc,.slice af m.fields.length afc])
 have HB:=h_ ((Below.refl w.heap.size w).alloc (Nat.le_refl _) (.cells #[.slice al m.labels.length alc,.slice ap m.below.length apc,.slice ar m.roles.length arc,.slice af m.fields.length afc] 37))
 obtain ⟨W0,hW0⟩:∃ W0,w.alloc (.cells #[.slice al m.labels.length alc,.slice ap m.below.length apc,.slice ar m.roles.length arc,.slice af m.fields.length afc] 37)=W0:=⟨_,rfl⟩
 rw [hW0] at HK HB
 have HC:=h_ (u_ HC0 W0 (ha.mono (u_ HB)) (ht.mono (u_ HB)) (hy.mono (u_ HB)) (htb.mono (u_ HB)))
 have HCe:=h_ (hc.mono (u_ HB))
 obtain ⟨y0,y1,y2,y3⟩:=quad (u_ HK)
 clear ha ht hy htb hS HC0 hc hL hsz s1 hv hf hN hn
 go_enter Tryz.func19,Tryz.ntmps19
 go_wp2_with fail
 try rw [hW0]
 refine (u_ HC).mono ?_
 rintro x W1 ⟨S,WD,Sh,Bs,u,pl,rfl,hle,hX,hb⟩
 have hD:=qbr hb hX.base hle hle
 have HFin:Hid (∀ W,Below WD.heap.size WD W->Below w.heap.size w W):=h_ fun W h=>((u_ HB).trans (hD.mono (u_ HB).size)).trans (h.mono (Nat.le_trans (u_ HB).size hle))
 have HC1:=h_ (u_ HCt S WD Sh Bs u pl W1 hX ((u_ HCe).mono hD))
 clear hb hW0 y0 y1 y2 y3 hX hD hle HC HCe HCt HB HK
 go_wp2_with fail
 refine (u_ HC1).mono ?_
 rintro x W2 ⟨rfl,hX2,hb2⟩
 have HX2:=h_ hX2;have HB2:=h_ hb2
 clear hX2 hb2 HC1
 cases hok:celsOk m L e
 . have HN:Hid (NavA m n F f L e r k back (-1)):=h_ (.inl ⟨fun h=>by rw [hok] at h;exact absurd h.1 (by decide),rfl⟩)
   go_wp2_with fail
   go_ret
   first | exact ⟨-1,rfl,u_ HN,u_ HFin _ (u_ HB2)⟩ | exact ⟨rfl,u_ HN,u_ HFin _ (u_ HB2)⟩
 have hLe:L=m.fields.length:=(qdk hok).1
 subst hLe
 have HX:=h_ (u_ HX2 hok)
 have HOk:=h_ hok
 have HC2:=h_ (u_ HCr S WD Sh Bs u pl W2 (u_ HX))
 clear hok HCr
 go_wp2_with fail
 refine (u_ HC2).mono ?_
 rintro x W3 ⟨rfl,hw⟩
 subst hw
 clear HC2
 by_cases hr:0<=r/\r<m.roles.length
 case neg =>
  rw [decide_eq_false hr]
  have HN:Hid (NavA m n F f m.fields.length e r k back (-1)):=h_ (.inl ⟨fun h=>hr h.2.1,rfl⟩)
  go_wp2_with fail
  go_ret
  first | exact ⟨-1,rfl,u_ HN,u_ HFin _ (u_ HX).base⟩ | exact ⟨rfl,u_ HN,u_ HFin _ (u_ HX).base⟩
 rw [decide_eq_true hr]
 have HC3:=h_ (u_ HCf S WD Sh Bs u pl W3 (u_ HX))
 clear HCf
 go_wp2_with fail
 refine (u_ HC3).mono ?_
 rintro x W4 ⟨rfl,hw⟩
 subst hw
 clear HC3
 by_cases hk:0<=k/\k<m.fields.length
 case neg =>
  rw [decide_eq_false hk]
  have HN:Hid (NavA m n F f m.fields.length e r k back (-1)):=h_ (.inl ⟨fun h=>hk h.2.2.1,rfl⟩)
  go_wp2_with fail
  go_ret
  first | exact ⟨-1,rfl,u_ HN,u_ HFin _ (u_ HX).base⟩ | exact ⟨rfl,u_ HN,u_ HFin _ (u_ HX).base⟩
 rw [decide_eq_true hk]
 obtain ⟨rn,rfl⟩:∃ rn:Nat,r=rn:=⟨r.toNat,by omega⟩
 obtain ⟨kn,rfl⟩:∃ kn:Nat,k=kn:=⟨k.toNat,by omega⟩
 have hrn:rn<m.roles.length:=by omega
 have hkn:kn<m.fields.length:=by omega
 have HC4:=h_ (u_ HCv S WD Sh Bs u pl rn W4 hrn (u_ HX))
 clear HCv
 go_wp2_with fail
 refine (u_ HC4).mono ?_
 rintro x W5 ⟨Cb,Sb,s,rfl,hV,hb⟩
 have HX5:=h_ ((u_ HX).mono hb)
 have hZ:=Blk.new W5 79 #[.int .i64 0,.nilFunc]
 have hba:=(Below.refl W5.heap.size W5).alloc (Nat.le_refl _) (.cells #[.int .i64 0,.nilFunc] 79)
 have HB6:=h_ (hba.trans ((qje (lo:=W5.heap.size) (hi:=W5.heap.size+1) (g:=W5.heap.size) (W5.alloc (.cells #[.int .i64 0,.nilFunc] 79)) #[.int .i64 rn,.func (.func 71) #[] #[.pointer (some ⟨Cb,0,none⟩),.pointer (some ⟨Sb,0,none⟩)]] (by omega) (by omega)).below (Nat.le_refl _) (by simp)))
 have HZ6:=h_ (hZ.row (#[.int .i64 rn,.func (.func 71) #[] #[.pointer (some ⟨Cb,0,none⟩),.pointer (some ⟨Sb,0,none⟩)]]).toList)
 have HZ0:=h_ hZ
 obtain ⟨W6,hW6⟩:∃ W6,(W5.alloc (.cells #[.int .i64 0,.nilFunc] 79)).setRow W5.heap.size #[.int .i64 rn,.func (.func 71) #[] #[.pointer (some ⟨Cb,0,none⟩),.pointer (some ⟨Sb,0,none⟩)]]=W6:=⟨_,rfl⟩
 rw [hW6] at HB6 HZ6
 have HX6:=h_ ((u_ HX5).mono (u_ HB6));have HV6:=h_ (hV.mono (u_ HB6))
 have v0:=(u_ HZ6).cell 0;have v1:=(u_ HZ6).cell 1
 simp only [List.getElem?_cons_zero,List.getElem?_cons_succ] at v0 v1
 have HC5:=h_ (u_ HCs S WD Sh Bs u pl rn kn Cb Sb s W6 hkn (u_ HX6) (u_ HV6))
 clear hb hV hZ hba HC4 HX5 HX
 go_wp2_with (refine wpList_store_row rfl 79 (.tmp 13) (.tmp 41) rfl W5.heap.size #[.int .i64 rn,.func (.func 71) #[] #[.pointer (some ⟨Cb,0,none⟩),.pointer (some ⟨Sb,0,none⟩)]] rfl rfl 79 #[.int .i64 0,.nilFunc] (u_ HZ0) (by kernel_rfl) rfl (by simp [Value.oneCell']) ?_;rw [hW6])
 refine (u_ HC5).mono ?_
 rintro x W7 ⟨rfl,hb⟩
 have HX7:=h_ ((u_ HX6).mono hb);have HV7:=h_ ((u_ HV6).mono hb);have HZ7:=mB HZ6 hb
 clear hb v0 v1 HC5 HX6 HV6 HZ6 HB6 HZ0 hW6
 cases hse:seesB m n F f rn kn
 . have HN:Hid (NavA m n F f m.fields.length e rn kn back (-1)):=h_ (.inl ⟨fun h=>by have h4:=h.2.2.2;exact absurd (h4.symm.trans hse) (by decide),rfl⟩)
   go_wp2_with fail
   go_ret
   first | exact ⟨-1,rfl,u_ HN,u_ HFin _ (u_ HX7).base⟩ | exact ⟨rfl,u_ HN,u_ HFin _ (u_ HX7).base⟩
 have v0:=(u_ HZ7).cell 0;have v1:=(u_ HZ7).cell 1
 simp only [List.getElem?_cons_zero,List.getElem?_cons_succ] at v0 v1
 have HSk:=h_ hse
 have HC6:=h_ (u_ HCn S WD Sh Bs u pl rn kn Cb Sb s W7 hkn (u_ HX7) (u_ HV7))
 clear hse HCn HCs
 go_wp2_with fail
 refine (u_ HC6).mono ?_
 rintro x W8 ⟨z,rfl,hnv,hb⟩
 have HN:Hid (NavA m n F f m.fields.length e rn kn back z):=h_ (.inr ⟨⟨u_ HOk,hr,hk,u_ HSk⟩,hnv⟩)
 have HB8:=h_ (u_ HFin W8 (((u_ HX7).mono hb).base))
 clear hb hnv v0 v1 HC6
 go_wp2_with fail
 go_ret
 first | exact ⟨z,rfl,u_ HN,u_ HB8⟩ | exact ⟨rfl,u_ HN,u_ HB8⟩
structure OldN (m:Fm) (A:MA) (X:Nat) (cs:List Value) (a:Option Addr) (L:Nat) (e:Nat->Cx) (W:World):Prop where
 k:Blk W X 27 cs
 s:MSl W m A
 c:Cels W a L e
 t:Tabs W
 y:TyW W
 b:Tab W
theorem OldN.mono {m:Fm} {A:MA} {X:Nat} {cs:List Value} {a:Option Addr} {L:Nat} {e:Nat->Cx} {W W':World} (h:OldN m A X cs a L e W) (hb:Below W.heap.size W W'):OldN m A X cs a L e W':=⟨h.k.mono hb h.k.lt,h.s.mono hb,h.c.mono hb,h.t.mono hb,h.y.mono hb,h.b.mono hb⟩
theorem qby (m:Fm) (A:MA) (L c:Nat) (a:Option Addr) (e:Nat->Cx) (r k:Int) (back:Bool) (z:Int) (w:World) (hsp:∀ W A' a' c',MSl W m A'->Cels W a' L e->Calls Tryz.prog 18 #[mV m A',.slice a' L c',.int .i64 r,.int .i64 k,.bool back] W fun x w'=>x=.returned (.int .i64 z)/\Below W.heap.size W w') (him:∀ W A' a' c',Caps m A'->MSl W m A'->Cels W a' L e->Tabs W->TyW W->Tab W->Calls Tryz.prog 19 #[mV m A',.slice a' L c',.int .i64 r,.int .i64 k,.bool back] W fun x w'=>x=.returned (.int .i64 z)/\Below W.heap.size W w') (hf:FitM m) (hL:L<=9223372036854775807) (hfc:∀ k,k<L->FitC (e k)) (ha:MSl w m A) (hc:Cels w a L e) (ht:Tabs w) (hy:TyW w) (htb:Tab w) :
 Calls Tryz.prog 4 #[mV m A,.slice a L c,.int .i64 r,.int .i64 k,.bool back] w fun x w'=>x=.returned (.bool true)/\Below w.heap.size w w':=by
 obtain ⟨al,alc,ap,apc,ar,arc,af,afc,afa⟩:=A
 have HCz:=h_ fun W (hs:MSl W m ⟨al,alc,ap,apc,ar,arc,af,afc,afa⟩)=>qdn m ⟨al,alc,ap,apc,ar,arc,af,afc,afa⟩ 1048576 W hf (by omega) (by omega) hs
 have HCy:=h_ fun (l0:Int) W (h0:0<=l0) (h1:l0<=1048576) (hs:Cels W a L e)=>q6g a L c e l0 W h0 h1 hL hfc hs
 have HCt:=h_ fun W (hn:Sm m) (hs:MSl W m ⟨al,alc,ap,apc,ar,arc,af,afc,afa⟩)=>q86 m ⟨al,alc,ap,apc,ar,arc,af,afc,afa⟩ W hn hs
 have HCc:=h_ fun W (hn:L<=1048576) (hs:Cels W a L e)=>q62 a e L c W hs hn
 have HCs:=h_ hsp
 have HCi:=h_ him
 have HCe:=h_ fun W A1 A2 (hn:Sm m) (h1:MSl W m A1) (h2:MSl W m A2)=>q8k m A1 A2 W hn h1 h2
 have HCq:=h_ fun W (a1 a2:Option Addr) (c1 c2:Nat) (hn:L<=1048576) (h1:Cels W a1 L e) (h2:Cels W a2 L e)=>q3g a1 a2 e L c1 c2 W hn h1 h2
 clear hsp him hL hfc
 unfold mV at HCz HCt HCs HCi HCe ⊢
 dsimp only at HCz HCt ⊢
 have HK:=h_ (Blk.new w 27 #[.slice al m.labels.length alc,.slice ap m.below.length apc,.slice ar m.roles.length arc,.slice af m.fields.length afc])
 have HB:=h_ ((Below.refl w.heap.size w).alloc (Nat.le_refl _) (.cells #[.slice al m.labels.length alc,.slice ap m.below.length apc,.slice ar m.roles.length arc,.slice af m.fields.length afc] 27))
 obtain ⟨W0,hW0⟩:∃ W0,w.alloc (.cells #[.slice al m.labels.length alc,.slice ap m.below.length apc,.slice ar m.roles.length arc,.slice af m.fields.length afc] 27)=W0:=⟨_,rfl⟩
 rw [hW0] at HK HB
 have HO:Hid (OldN m ⟨al,alc,ap,apc,ar,arc,af,afc,afa⟩ w.heap.size [.slice al m.labels.length alc,.slice ap m.below.length apc,.slice ar m.roles.length arc,.slice af m.fields.length afc] a L e W0):=h_ ⟨u_ HK,ha.mono (u_ HB),hc.mono (u_ HB),ht.mono (u_ HB),hy.mono (u_ HB),htb.mono (u_ HB)⟩
 clear ha ht hy hf htb hc HK
 obtain ⟨y0,y1,y2,y3⟩:=quad (u_ HO).k
 go_enter Tryz.func4,Tryz.ntmps4
 go_wp2_with fail
 try rw [hW0]
 refine (u_ HCz W0 (u_ HO).s).mono ?_
 rintro x W1 ⟨q,rfl,hq,hb⟩
 replace HO:=h_ ((u_ HO).mono hb);replace HB:=mT HB hb
 clear hW0 hb y0 y1 y2 y3
 by_cases hqq:q<0
 . clear hq
   go_wp2_with fail
   go_ret
   exact ⟨rfl,u_ HB⟩
 obtain ⟨hn,hq1⟩:=hq (by omega)
 have HN:=h_ hn
 have HC1:=h_ (u_ HCy q W1 (by omega) hq1 (u_ HO).c)
 clear hn hq
 go_wp2_with fail
 refine (u_ HC1).mono ?_
 rintro x W2 ⟨q2,rfl,hq,hqm,hb⟩
 replace HO:=h_ ((u_ HO).mono hb);replace HB:=mT HB hb
 clear hb HC1
 by_cases hqq2:q2<0
 . obtain rfl:=hqm hqq2
   clear hq hqm hqq2
   go_wp2_with fail
   go_ret
   exact ⟨rfl,u_ HB⟩
 have hL1:L<=1048576:=(hq (by omega)).2.1
 clear hq hqm
 obtain ⟨y0,y1,y2,y3⟩:=quad (u_ HO).k
 go_wp2_with fail
 refine (u_ HCt W2 (u_ HN) (u_ HO).s).mono ?_
 rintro x W3 ⟨A1,rfl,hs1,hc1,hb⟩
 replace HO:=h_ ((u_ HO).mono hb);replace HB:=mT HB hb
 have HS1:=h_ hs1
 clear hb y0 y1 y2 y3 hs1 hc1
 go_wp2_with fail
 refine (u_ HCc W3 hL1 (u_ HO).c).mono ?_
 rintro x W4 ⟨rfl,hcl,hb⟩
 replace HO:=h_ ((u_ HO).mono hb);replace HB:=mT HB hb
 have HC2:=h_ (u_ HCs W4 A1 (some ⟨W3.heap.size,0,none⟩) L ((u_ HS1).mono hb) hcl)
 clear hb hcl HS1 HCs
 go_wp2_with fail
 refine (u_ HC2).mono ?_
 rintro x W5 ⟨rfl,hb⟩
 replace HO:=h_ ((u_ HO).mono hb);replace HB:=mT HB hb
 clear hb HC2
 obtain ⟨y0,y1,y2,y3⟩:=quad (u_ HO).k
 go_wp2_with fail
 refine (u_ HCt W5 (u_ HN) (u_ HO).s).mono ?_
 rintro x W6 ⟨A2,rfl,hs2,hc2,hb⟩
 replace HO:=h_ ((u_ HO).mono hb);replace HB:=mT HB hb
 clear hb y0 y1 y2 y3
 obtain ⟨bl,blc,bp,bpc,br,brc,bf,bfc,bfa⟩:=A2
 dsimp only
 have HX:=h_ (Blk.new W6 37 #[.slice bl m.labels.length blc,.slice bp m.below.length bpc,.slice br m.roles.length brc,.slice bf m.fields.length bfc])
 have hb:=(Below.refl W6.heap.size W6).alloc (Nat.le_refl _) (.cells #[.slice bl m.labels.length blc,.slice bp m.below.length bpc,.slice br m.roles.length brc,.slice bf m.fields.length bfc] 37)
 obtain ⟨W7,hW7⟩:∃ W7,W6.alloc (.cells #[.slice bl m.labels.length blc,.slice bp m.below.length bpc,.slice br m.roles.length brc,.slice bf m.fields.length bfc] 37)=W7:=⟨_,rfl⟩
 obtain ⟨X,hX⟩:∃ X,W6.heap.size=X:=⟨_,rfl⟩
 rw [hW7] at hb HX
 rw [hX] at HX
 have HS2:=h_ (hs2.mono hb);have HCp:=h_ hc2
 replace HO:=h_ ((u_ HO).mono hb);replace HB:=mT HB hb
 clear hb hs2 hc2
 go_wp2_with fail
 try rw [hX]
 try rw [hW7]
 refine (u_ HCc W7 hL1 (u_ HO).c).mono ?_
 rintro x W8 ⟨rfl,hcl,hb⟩
 obtain ⟨Y,hY⟩:∃ Y,W7.heap.size=Y:=⟨_,rfl⟩
 rw [hY] at hcl ⊢
 replace HO:=h_ ((u_ HO).mono hb);replace HB:=mT HB hb
 replace HX:=mB HX hb;replace HS2:=h_ ((u_ HS2).mono hb)
 have HCl:=h_ hcl
 clear hb hW7 hX hY hcl
 obtain ⟨x0,x1,x2,x3⟩:=quad (u_ HX)
 have HC3:=h_ (u_ HCi W8 ⟨bl,blc,bp,bpc,br,brc,bf,bfc,bfa⟩ (some ⟨Y,0,none⟩) L (u_ HCp) (u_ HS2) (u_ HCl) (u_ HO).t (u_ HO).y (u_ HO).b)
 dsimp only at HC3
 clear HCi HCp
 go_wp2_with fail
 refine (u_ HC3).mono ?_
 rintro x W9 ⟨rfl,hb⟩
 replace HO:=h_ ((u_ HO).mono hb);replace HB:=mT HB hb
 replace HX:=mB HX hb;replace HS2:=h_ ((u_ HS2).mono hb);replace HCl:=h_ ((u_ HCl).mono hb)
 clear hb x0 x1 x2 x3 HC3
 go_wp2_with fail
 refine wp_region_held_drew (S:=fun w'=>Blk w' w.heap.size 27 [.slice al m.labels.length alc,.slice ap m.below.length apc,.slice ar m.roles.length arc,.slice af m.fields.length afc]/\Blk w' X 37 [.slice bl m.labels.length blc,.slice bp m.below.length bpc,.slice br m.roles.length brc,.slice bf m.fields.length bfc]) (by kernel_rfl) ⟨(u_ HO).k,u_ HX⟩ (fun hHeld=>?_)
 refine tk (i:=0) (v:=.agg #[.slice bl m.labels.length blc,.slice bp m.below.length bpc,.slice br m.roles.length brc,.slice bf m.fields.length bfc]) 47 hHeld ?_ (hy:=fun w hS=>by obtain ⟨-,h2⟩:=hS;obtain ⟨q0,q1,q2,q3⟩:=quad h2;simp [execOp,go_sem,q0,q1,q2,q3])
 simp only [s1',s2',s3']
 refine tk (i:=1) (v:=.agg #[.slice al m.labels.length alc,.slice ap m.below.length apc,.slice ar m.roles.length arc,.slice af m.fields.length afc]) 48 hHeld ?_ (hy:=fun w hS=>by obtain ⟨h2,-⟩:=hS;obtain ⟨q0,q1,q2,q3⟩:=quad h2;simp [execOp,go_sem,q0,q1,q2,q3])
 simp only [s1',s2',s3']
 have HDr:Hid (Below W9.heap.size W9 W9.drew):=h_ (Below.refl _ _).drew
 refine callY (i:=2) (f:=8) (args:=#[.agg #[.slice al m.labels.length alc,.slice ap m.below.length apc,.slice ar m.roles.length arc,.slice af m.fields.length afc]]) (R:=fun v wz=>∃ A3,v=mV m A3/\MSl wz m A3/\Below W9.heap.size W9 wz) 49 rfl rfl (by rfl) (by kernel_rfl) ?hrun1 ((u_ HCt W9.drew (u_ HN) ((u_ HO).s.mono (u_ HDr))).mono fun e w6 ⟨A3,he,hs,_,hb⟩=>⟨_,he,A3,rfl,hs,q2z hb⟩) ?_
 case hrun1=>simp [execOp,go_sem]
 rintro v W10 ⟨A3,rfl,hs3,hb⟩
 replace HO:=h_ ((u_ HO).mono hb);replace HB:=mT HB hb
 replace HX:=mB HX hb;replace HS2:=h_ ((u_ HS2).mono hb);replace HCl:=h_ ((u_ HCl).mono hb)
 replace hHeld:Blk W10 w.heap.size 27 [.slice al m.labels.length alc,.slice ap m.below.length apc,.slice ar m.roles.length arc,.slice af m.fields.length afc]/\Blk W10 X 37 [.slice bl m.labels.length blc,.slice bp m.below.length bpc,.slice br m.roles.length brc,.slice bf m.fields.length bfc]:=⟨(u_ HO).k,u_ HX⟩
 have HS3:=h_ hs3
 clear hb hs3 HDr
 refine ⟨hHeld,?_⟩
 unfold mV
 obtain ⟨dl,dlc,dp,dpc,dr,drc,df,dfc,dfa⟩:=A3
 dsimp only
 simp only [s1',s2',s3']
 have HCe2:=h_ (u_ HCe W10 ⟨bl,blc,bp,bpc,br,brc,bf,bfc,bfa⟩ ⟨dl,dlc,dp,dpc,dr,drc,df,dfc,dfa⟩ (u_ HN) (u_ HS2) (u_ HS3))
 dsimp only at HCe2
 refine callY (i:=3) (f:=12) (args:=#[.agg #[.slice bl m.labels.length blc,.slice bp m.below.length bpc,.slice br m.roles.length brc,.slice bf m.fields.length bfc],.agg #[.slice dl m.labels.length dlc,.slice dp m.below.length dpc,.slice dr m.roles.length drc,.slice df m.fields.length dfc]]) (R:=fun v wz=>v=.bool true/\Below W10.heap.size W10 wz) 50 rfl rfl (by rfl) (by kernel_rfl) ?hrun2 ((u_ HCe2).mono fun e w6 ⟨he,hb⟩=>⟨_,he,rfl,hb⟩) ?_
 case hrun2=>simp [execOp,go_sem]
 rintro v W11 ⟨rfl,hb⟩
 replace HO:=h_ ((u_ HO).mono hb);replace HB:=mT HB hb
 replace HCl:=h_ ((u_ HCl).mono hb)
 replace hHeld:Blk W11 w.heap.size 27 [.slice al m.labels.length alc,.slice ap m.below.length apc,.slice ar m.roles.length arc,.slice af m.fields.length afc]/\Blk W11 X 37 [.slice bl m.labels.length blc,.slice bp m.below.length bpc,.slice br m.roles.length brc,.slice bf m.fields.length bfc]:=⟨hHeld.1.mono hb hHeld.1.lt,hHeld.2.mono hb hHeld.2.lt⟩
 clear hb HS2 HCe2 HS3 HX
 refine ⟨hHeld,?_⟩
 simp only [s1',s2',s3']
 refine tk (i:=4) (v:=.bool false) 51 hHeld ?_
 simp only [s1',s2',s3']
 refine wpAnyH_done (by kernel_rfl) ?_ _
 clear hHeld
 go_wp2_with fail
 refine (u_ HCc W11 hL1 (u_ HO).c).mono ?_
 rintro x W12 ⟨rfl,hcl,hb⟩
 have HC9:=h_ (u_ HCq W12 (some ⟨Y,0,none⟩) (some ⟨W11.heap.size,0,none⟩) L L hL1 ((u_ HCl).mono hb) hcl)
 replace HB:=mT HB hb
 clear hb hcl
 go_wp2_with fail
 refine (u_ HC9).mono ?_
 rintro x W13 ⟨rfl,hb⟩
 replace HB:=mT HB hb
 clear hb HC9
 go_wp2_with fail
 go_ret
 exact ⟨rfl,u_ HB⟩
theorem q8i (m:Fm) (A:MA) (L c:Nat) (a:Option Addr) (e:Nat->Cx) (r k:Int) (back:Bool) (w:World) (hf:FitM m) (hL:L<=9223372036854775807) (hfc:∀ k,k<L->FitC (e k)) (ha:MSl w m A) (hc:Cels w a L e) (ht:Tabs w) (hy:TyW w) (htb:Tab w) :
 Calls Tryz.prog 4 #[mV m A,.slice a L c,.int .i64 r,.int .i64 k,.bool back] w fun x w'=>x=.returned (.bool true)/\Below w.heap.size w w':=by
 have hsz:∀ k,k<L->(e k).v.s.size<=9223372036854775807:=fun k hk=>(hfc k hk).1
 have no:∀ (cs ci:Int),cs ≠ 0->(∀ W A',MSl W m A'->Calls Tryz.prog 56 #[mV m A'] W fun r w'=>∃ c a,r=.returned (dgV c a)/\c=cs/\Below W.heap.size W w')->(∀ W A',Caps m A'->MSl W m A'->Tabs W->TyW W->Tab W->Calls Tryz.prog 66 #[mV m A'] W fun r w'=>∃ S c a,r=.returned (.tuple #[sfV S,dgV c a])/\c ≠ 0/\Below W.heap.size W w')->Calls Tryz.prog 4 #[mV m A,.slice a L c,.int .i64 r,.int .i64 k,.bool back] w fun x w'=>x=.returned (.bool true)/\Below w.heap.size w w':=fun cs _ hcs h1 h2 =>
  qby m A L c a e r k back (-1) w (fun W A' a' c' hs _=>q7b m A' (.slice a' L c') r k back W (fun W' hs'=>(q8h m A' W' (fun c _=>c=cs) (fun W2 hs2=>h1 W2 A' hs2) hs').mono fun x w' ⟨c,_,e,h,hb⟩=>⟨by rw [e,h,decide_eq_false hcs],hb⟩) hs) (fun W A' a' c' hcp hs _ k1 k2 k3=>q73 m A' (.slice a' L c') r k back W (fun W' hs' t1 t2 t3=>q9r m A' W' (fun W2 hs2 u1 u2 u3=>h2 W2 A' hcp hs2 u1 u2 u3) hs' t1 t2 t3) hs k1 k2 k3) hf hL hfc ha hc ht hy htb
 cases hq:vfB m
 . exact no 20 20 (by decide) (fun W A' hs=>(q5l m A' W (fun W' hs'=>q0e m A' W' hf hs') hq hs).mono fun r w' ⟨e,hb⟩=>⟨20,0,e,rfl,hb⟩) (fun W A' hcp hs k1 k2 k3=>(qco m A' W hq hf hcp hs k1 k2 k3).mono fun r w' ⟨e,hb⟩=>⟨sf0,20,0,e,by decide,hb⟩)
 have hv:VfA m:=Classical.byContradiction fun hn=>by rw [qbo hn] at hq;cases hq
 rcases dich4 m.labels.length m.below.length (pr1 m) (pr2 m) (by have:=hv.np;omega) with ⟨code,hcd,h1,h2⟩ | ⟨s,F,J,M,bot,top,-,⟨n,bt,tp,hLt⟩,h1,h2,h3⟩
 . exact no (10+code) 0 (by omega) (fun W A' hs=>(q5q m A' W code (fun W' hs'=>q0e m A' W' hf hs') hq hcd h1 hf hs).mono fun r w' ⟨e,hb⟩=>⟨10+code,0,e,rfl,hb⟩) (fun W A' hcp hs k1 k2 k3=>(qdc m A' W code hq hcd h2 hf hcp hs k1 k2 k3).mono fun r w' ⟨e,hb⟩=>⟨sf0,10+code,0,e,by omega,hb⟩)
 have hN:m.labels.length=n:=by have:=hLt.hN;omega
 have spC:∀ W A',MSl W m A'->Calls Tryz.prog 56 #[mV m A'] W fun r w'=>∃ c a,r=.returned (dgV c a)/\ChkF m n F c a/\Below W.heap.size W w':=fun W A' hs=>q6d m A' W bot top s n bt tp F J M (fun W' hs'=>q0e m A' W' hf hs') hq hv h1 hLt hf hs
 by_cases hE:∃ c a,ChkF m n F c a
 . obtain ⟨c0,a0,hca⟩:=hE
   have hone:∀ {c' a'},ChkF m n F c' a'->c'=c0:=fun h=>(h.one (qhh hLt) hca).1
   by_cases hc0:c0=0
   . subst hc0
     obtain ⟨f,s1,s2⟩:∃ f,Sol m n (fun a b=>F (a*n+b)=true) f/\Low m n (fun a b=>F (a*n+b)=true) f:=by
      rcases hca with ⟨z,-,-,h,-⟩ | ⟨-,f,z,s1,s2,-⟩
      . exact absurd h (by decide)
      . exact ⟨f,s1,s2⟩
     have spN:=fun W A' a' c' (hs:MSl W m A') (hc':Cels W a' L e)=>qcc m A' L c' a' e r k back W bot top s n bt tp F J M f (fun W' hs'=>(q8h m A' W' (ChkF m n F) (fun W2 hs2=>spC W2 A' hs2) hs').mono fun x w' ⟨c,_,e,h,hb⟩=>⟨by rw [e,hone h,decide_eq_true rfl],hb⟩) (fun W' hs'=>q0e m A' W' hf hs') hq hv h1 h3 hLt s1 s2 hf hL hsz hs hc'
     have imN:=fun W A' a' c' (hcp:Caps m A') (hs:MSl W m A') (hc':Cels W a' L e) k1 k2 k3=>q7z m A' n F f L c' a' e r k back W hv hf hN hLt.h32 s1 hL hsz (fun W' hs' t1 t2 t3=>q6y m A' n F f W' hv.nf (fun W2 hs2 u1 u2 u3=>(qai m A' W2 bot top s n bt tp F J M hq hv h2 hLt hf hcp hs2 u1 u2 u3).mono fun x w' ⟨S,c,a,e,hk,hsn,hb⟩=>by
      obtain ⟨rfl,rfl⟩:=hk.one (qhh hLt) hca
      obtain rfl:=qfy hk
      obtain ⟨g,g1,g2,hw⟩:=hsn rfl
      exact ⟨S,e,hw.congr (qc4 (qhh hLt) g1 s1 g2 s2),hb⟩) hs' t1 t2 t3) hs hc' k1 k2 k3
     by_cases hz:∃ z,NavA m n F f L e r k back z
     . obtain ⟨z,hz⟩:=hz
       exact qby m A L c a e r k back z w (fun W A' a' c' hs hc'=>(spN W A' a' c' hs hc').mono fun x w' ⟨z',e,h,hb⟩=>⟨by rw [e,h.one hz],hb⟩) (fun W A' a' c' hcp hs hc' k1 k2 k3=>(imN W A' a' c' hcp hs hc' k1 k2 k3).mono fun x w' ⟨z',e,h,hb⟩=>⟨by rw [e,h.one hz],hb⟩) hf hL hfc ha hc ht hy htb
     . exact qby m A L c a e r k back 0 w (fun W A' a' c' hs hc'=>(spN W A' a' c' hs hc').mono fun x w' ⟨z',e,h,hb⟩=>absurd ⟨z',h⟩ hz) (fun W A' a' c' hcp hs hc' k1 k2 k3=>(imN W A' a' c' hcp hs hc' k1 k2 k3).mono fun x w' ⟨z',e,h,hb⟩=>absurd ⟨z',h⟩ hz) hf hL hfc ha hc ht hy htb
   . exact no c0 0 hc0 (fun W A' hs=>(spC W A' hs).mono fun r w' ⟨c,a,e,h,hb⟩=>⟨c,a,e,hone h,hb⟩) (fun W A' hcp hs k1 k2 k3=>(qai m A' W bot top s n bt tp F J M hq hv h2 hLt hf hcp hs k1 k2 k3).mono fun r w' ⟨S,c,a,e,h,_,hb⟩=>⟨S,c,a,e,by rw [hone h];exact hc0,hb⟩)
 . exact no 1 0 (by decide) (fun W A' hs=>(spC W A' hs).mono fun r w' ⟨c,a,e,h,hb⟩=>absurd ⟨c,a,h⟩ hE) (fun W A' hcp hs k1 k2 k3=>(qai m A' W bot top s n bt tp F J M hq hv h2 hLt hf hcp hs k1 k2 k3).mono fun r w' ⟨S,c,a,e,h,_,hb⟩=>absurd ⟨c,a,h⟩ hE)
end Go.Proofs.YtnhjjaminkhiiaaGreatDoor
