import Derived.Test.YtgkcaeidhkddjaaGreatDoorXGT2
set_option maxRecDepth 100000
set_option maxHeartbeats 20000000
namespace Go.Proofs.YtgkcaeidhkddjaaGreatDoor
open Go Go.RowKit
theorem qd4 (m:Fm) (A:MA) (l0:Int) (w:World) (hf:FitM m) (h0:0<=l0) (h1:l0<=1048576) (ha:MSl w m A) :
 Calls Tryz.prog 4 #[mV m A,.int .i64 l0] w fun r w'=>∃ q:Int,r=.returned (.int .i64 q)/\(0<=q->Sm m/\q<=1048576)/\Below w.heap.size w w':=by
 obtain ⟨al,alc,ap,apc,ar,arc,af,afc,afa⟩:=A
 unfold mV
 dsimp only
 have HK:=h_ (Blk.new w 27 #[.slice al m.L.length alc,.slice ap m.P.length apc,.slice ar m.R.length arc,.slice af m.F.length afc])
 have HB:=h_ ((bR w.heap.size w).alloc (nR _) (.cells #[.slice al m.L.length alc,.slice ap m.P.length apc,.slice ar m.R.length arc,.slice af m.F.length afc] 27))
 obtain ⟨W0,hW0⟩:∃ W0,w.alloc (.cells #[.slice al m.L.length alc,.slice ap m.P.length apc,.slice ar m.R.length arc,.slice af m.F.length afc] 27)=W0:=⟨_,rfl⟩
 rw [hW0] at HK HB
 have HS:=h_ (ha.mono (u_ HB));have HF:=h_ hf
 clear ha hf
 obtain ⟨x0,x1,x2,x3⟩:=quad (u_ HK)
 go_enter Tryz.func4,Tryz.ntmps4
 go_wp2_with fail
 try rw [hW0]
 clear hW0
 refine (q2z al alc m.L l0 W0 h0 h1 (u_ HF).ll (u_ HF).l (u_ HS).l).mono ?_
 rintro r W1 ⟨q1,rfl,hq,hm,hb⟩
 replace HK:=mB HK hb;replace HS:=h_ ((u_ HS).mono hb);replace HB:=mT HB hb
 have HQ1:=h_ hq
 clear hq hm hb x0 x1 x2 x3
 obtain ⟨x0,x1,x2,x3⟩:=quad (u_ HK)
 by_cases hr1:q1<0
 . go_wp2_with fail
   go_ret
   exact ⟨_,rfl,fun h=>absurd h (by decide),u_ HB⟩
 have hl1:q1<=1048576:=(u_ HQ1 (by omega)).1
 have HX1:=h_ (u_ HQ1 (by omega)).2
 go_wp2_with fail
 refine (q4h ap apc m.P.length q1 W1 (by omega) hl1 (u_ HF).pl).mono ?_
 rintro r W2 ⟨q2,rfl,hq,hm,hb⟩
 replace HK:=mB HK hb;replace HS:=h_ ((u_ HS).mono hb);replace HB:=mT HB hb
 have HQ2:=h_ hq
 clear hq hm hb x0 x1 x2 x3
 obtain ⟨x0,x1,x2,x3⟩:=quad (u_ HK)
 by_cases hr2:q2<0
 . go_wp2_with fail
   go_ret
   exact ⟨_,rfl,fun h=>absurd h (by decide),u_ HB⟩
 have hl2:q2<=1048576:=(u_ HQ2 (by omega)).1
 have HX2:=h_ (u_ HQ2 (by omega)).2
 go_wp2_with fail
 refine (q4i ar arc m.R q2 W2 (by omega) hl2 (u_ HF).rl (u_ HF).r (u_ HS).r).mono ?_
 rintro r W3 ⟨q3,rfl,hq,hm,hb⟩
 replace HK:=mB HK hb;replace HS:=h_ ((u_ HS).mono hb);replace HB:=mT HB hb
 have HQ3:=h_ hq
 clear hq hm hb x0 x1 x2 x3
 obtain ⟨x0,x1,x2,x3⟩:=quad (u_ HK)
 by_cases hr3:q3<0
 . go_wp2_with fail
   go_ret
   exact ⟨_,rfl,fun h=>absurd h (by decide),u_ HB⟩
 have hl3:q3<=1048576:=(u_ HQ3 (by omega)).1
 have HX3:=h_ (u_ HQ3 (by omega)).2
 go_wp2_with fail
 refine (q4g af afc m.F afa q3 W3 (by omega) hl3 (u_ HF).fl (u_ HF).f (u_ HS).f).mono ?_
 rintro r W4 ⟨q4,rfl,hq,hm,hb⟩
 replace HK:=mB HK hb;replace HS:=h_ ((u_ HS).mono hb);replace HB:=mT HB hb
 have HQ4:=h_ hq
 clear hq hm hb x0 x1 x2 x3
 obtain ⟨x0,x1,x2,x3⟩:=quad (u_ HK)
 by_cases hr4:q4<0
 . go_wp2_with fail
   go_ret
   exact ⟨_,rfl,fun h=>absurd h (by decide),u_ HB⟩
 have hl4:q4<=1048576:=(u_ HQ4 (by omega)).1
 have HX4:=h_ (u_ HQ4 (by omega)).2
 go_wp2_with fail
 go_ret
 exact ⟨_,rfl,fun _=>⟨⟨u_ HX1,u_ HX2,u_ HX3,(u_ HX4).1,(u_ HX4).2⟩,hl4⟩,u_ HB⟩
theorem qdv {m:Fm} {n:Nat} {F:Nat->Bool} {a:Int} (h:ChkF m n F 0 a):a=0:=by
 rcases h with ⟨z,-,-,h,-⟩ | ⟨-,f,z,-,-,-,⟨-,h,-⟩ | ⟨-,-,h⟩⟩
 . exact absurd h (by decide)
 . exact absurd h (by decide)
 . exact h
theorem SndW.congr {m:Fm} {A:MA} {n:Nat} {F:Nat->Bool} {f g:Nat->Nat} {S:SF} {W:World} (h:SndW m A n F g S W) (he:∀ k,k<m.F.length->g k=f k):SndW m A n F f S W:=by
 obtain ⟨b,bt,top,a1,a2,a3,c1,c2,c3,a5,c5,e,h1,h2,h3⟩:=h
 have e2:lsL g m.F.length=lsL f m.F.length:=by
  unfold lsL
  exact List.map_congr_left fun k hk=>he k (List.mem_range.1 hk)
 rw [e2] at h3
 exact ⟨b,bt,top,a1,a2,a3,c1,c2,c3,a5,c5,e,h1,h2,h3⟩
theorem q3o (m:Fm) (A:MA) (n:Nat) (F:Nat->Bool) (f:Nat->Nat) (S:SF) (WD:World) (Sh:Nat) (Bs:Nat->Nat) (u:Value) (pl:Nat) (k:Int) (e:Nat->Cx) (w:World) (hX:Shet m A n F f S WD Sh Bs e m.F.length u pl w) :
 Calls Tryz.prog 83 #[.pointer (some ⟨Sh,0,none⟩),.int .i64 k] w fun x w'=>x=.returned (.bool (decide (0<=k/\k<m.F.length)))/\w'=w:=by
 obtain ⟨ua,ucp,rfl⟩:=hX.slice
 have y12:w.cell? ⟨Sh,12,none⟩=some (.slice ua m.F.length ucp):=hX.blk.cell 12
 clear hX
 by_cases h0:0<=k
 . by_cases h1:k<m.F.length
   . rw [decide_eq_true ⟨h0,h1⟩]
     go_enter Tryz.func83,Tryz.ntmps83
     go_wp2_with fail
     go_ret
     exact ⟨rfl,rfl⟩
   . rw [decide_eq_false (fun h=>h1 h.2)]
     go_enter Tryz.func83,Tryz.ntmps83
     go_wp2_with fail
     go_ret
     exact ⟨rfl,rfl⟩
 . rw [decide_eq_false (fun h=>h0 h.1)]
   go_enter Tryz.func83,Tryz.ntmps83
   go_wp2_with fail
   go_ret
   exact ⟨rfl,rfl⟩
theorem q58 (m:Fm) (A:MA) (n:Nat) (F:Nat->Bool) (f:Nat->Nat) (S:SF) (WD:World) (Sh:Nat) (Bs:Nat->Nat) (u:Value) (pl:Nat) (r:Int) (e:Nat->Cx) (w:World) (hX:Shet m A n F f S WD Sh Bs e m.F.length u pl w) :
 Calls Tryz.prog 28 #[.pointer (some ⟨Sh,0,none⟩),.int .i64 r] w fun x w'=>x=.returned (.bool (decide (0<=r/\r<m.R.length)))/\w'=w:=by
 obtain ⟨b,bt,top,a1,a2,a3,c1,c2,c3,a5,c5,hSe,-,-,-⟩:=hX.snd
 have y2:w.cell? ⟨Sh,2,none⟩=some (.slice A.r m.R.length A.rc):=(hX.blk.cell 2).trans (by rw [hSe];rfl)
 clear hX hSe
 by_cases h0:0<=r
 . by_cases h1:r<m.R.length
   . rw [decide_eq_true ⟨h0,h1⟩]
     go_enter Tryz.func28,Tryz.ntmps28
     go_wp2_with fail
     go_ret
     exact ⟨rfl,rfl⟩
   . rw [decide_eq_false (fun h=>h1 h.2)]
     go_enter Tryz.func28,Tryz.ntmps28
     go_wp2_with fail
     go_ret
     exact ⟨rfl,rfl⟩
 . rw [decide_eq_false (fun h=>h0 h.1)]
   go_enter Tryz.func28,Tryz.ntmps28
   go_wp2_with fail
   go_ret
   exact ⟨rfl,rfl⟩
theorem three' {w:World} {b:Nat} {t:TypeId} {v0 v1 v2:Value} (h:Blk w b t [v0,v1,v2]):w.cell? ⟨b,0,none⟩=some v0/\w.cell? ⟨b,1,none⟩=some v1/\w.cell? ⟨b,2,none⟩=some v2:=⟨h.cell 0,h.cell 1,h.cell 2⟩
theorem qe6 (i:Bool) (c:Cx) (f:Fl) (A:FA) (B:Nat) (v:Vx) (w:World) (hs:v.s.size<=9223372036854775807) (hB:Blk w B (ctT i) (ctC i c f A)) :
 Calls Tryz.prog 84 #[.pointer (some ⟨B,0,none⟩),.agg #[.int .i64 v.k,.int .i64 v.n,.string v.s]] w fun x w'=>x=.returned (.bool (fitB f v))/\Below w.heap.size w w':=by
 have hV0:=Blk.new w 54 #[.int .i64 v.k,.int .i64 v.n,.string v.s]
 have hB0:=(bR w.heap.size w).alloc (nR _) (.cells #[.int .i64 v.k,.int .i64 v.n,.string v.s] 54)
 obtain ⟨W0,hW0⟩:∃ W0,w.alloc (.cells #[.int .i64 v.k,.int .i64 v.n,.string v.s] 54)=W0:=⟨_,rfl⟩
 rw [hW0] at hV0 hB0
 have HV:=h_ hV0;have HB:=h_ hB0;have HH:=h_ (hB.mono hB0 hB.lt)
 have HC:=h_ (q1k v.k v.n v.s W0.drew hs)
 clear hB hV0 hB0
 go_enter Tryz.func84,Tryz.ntmps84
 go_wp2_with fail
 try rw [hW0]
 clear hW0
 refine wp_region_held_drew (S:=fun w'=>Blk w' w.heap.size 54 [.int .i64 v.k,.int .i64 v.n,.string v.s]/\Blk w' B (ctT i) (ctC i c f A)) (by kernel_rfl) ⟨u_ HV,u_ HH⟩ (fun zz=>?_)
 refine tk 0 5 (.pointer (some ⟨w.heap.size,0,none⟩)) zz ?_
 refine tk 1 6 (.int .i64 v.k) zz ?_ (hy:=fun w hS=>by have q0:=(three' hS.1).1;simp [execOp,go_sem,q0])
 simp only [sX,sY,sZ]
 have HF:Hid (fitB f v=((decide (v.k=0) || decide (v.k=f.ty))&&okVal v.k v.n v.s)):=h_ (Bool.and_comm _ _)
 by_cases hg:v.k=0 ∨ v.k=f.ty
 . have HF2:Hid (fitB f v=okVal v.k v.n v.s):=h_ (by
    rw [u_ HF]
    rcases hg with h | h
    . rw [decide_eq_true h,Bool.true_or,Bool.true_and]
    . rw [decide_eq_true h,Bool.or_true,Bool.true_and])
   by_cases h0:v.k=0
   case' pos =>
    have h0':(v.k == 0)=true:=by simp [h0]
    refine tk 2 7 (.bool true) zz ?_ (hy:=fun w hS=>by simp [execOp,go_sem,h0'])
    refine tk 3 8 (.bool true) zz ?_
    refine tn 4 9 zz ?_
    refine tn 5 10 zz ?_
    simp only [sX,sY,sZ]
    refine tn 6 11 zz ?_
    refine tn 7 12 zz ?_
    refine tn 8 13 zz ?_
    refine tn 9 14 zz ?_
    simp only [sX,sY,sZ]
    refine tn 10 15 zz ?_
    refine tn 11 16 zz ?_
    refine tk 12 17 (.bool true) zz ?_
    simp only [sX,sY,sZ]
   case' neg =>
    have h0':(v.k == 0)=false:=by simpa using h0
    have h1':(v.k == f.ty)=true:=by
     rcases hg with h | h
     . exact absurd h h0
     . simp [h]
    refine tk 2 7 (.bool false) zz ?_ (hy:=fun w hS=>by simp [execOp,go_sem,h0'])
    refine tk 3 8 (.bool false) zz ?_
    refine tk 4 9 (.pointer (some ⟨w.heap.size,0,none⟩)) zz ?_
    refine tk 5 10 (.int .i64 v.k) zz ?_ (hy:=fun w hS=>by have q0:=(three' hS.1).1;simp [execOp,go_sem,q0])
    simp only [sX,sY,sZ]
    refine tk 6 11 (.pointer (some ⟨B,0,none⟩)) zz ?_
    refine tk 7 12 (.pointer (some ⟨B,0,none⟩)) zz ?_
    refine tk 8 13 (.pointer (some ⟨B,6,none⟩)) zz ?_
    refine tk 9 14 (.pointer (some ⟨B,7,none⟩)) zz ?_
    simp only [sX,sY,sZ]
    refine tk 10 15 (.int .i64 f.ty) zz ?_ (hy:=fun w hS=>by have q0:w.cell? ⟨B,7,none⟩=some (.int .i64 f.ty):=(hS.2.cell 7).trans rfl;simp [execOp,go_sem,q0])
    refine tk 11 16 (.bool true) zz ?_ (hy:=fun w hS=>by simp [execOp,go_sem,h1'])
    refine tk 12 17 (.bool true) zz ?_
    simp only [sX,sY,sZ]
   all_goals
    refine tk 13 18 (.bool true) zz ?_
    refine tk 14 19 (.agg #[.int .i64 v.k,.int .i64 v.n,.string v.s]) zz ?_ (hy:=fun w hS=>by obtain ⟨q0,q1,q2⟩:=three' hS.1;simp [execOp,go_sem,q0,q1,q2])
    simp only [sX,sY,sZ]
    refine callY (i:=15) (f:=89) (args:=#[.agg #[.int .i64 v.k,.int .i64 v.n,.string v.s]]) (R:=fun u wz=>u=.bool (okVal v.k v.n v.s)/\Below W0.heap.size W0 wz) 20 rfl rfl (by rfl) (by kernel_rfl) (by simp [execOp,go_sem]) ((u_ HC).mono fun e w6 ⟨he,hb⟩=>⟨_,he,rfl,q26 hb⟩) ?_
    rintro u W1 ⟨rfl,hb⟩
    replace zz:Blk W1 w.heap.size 54 [.int .i64 v.k,.int .i64 v.n,.string v.s]/\Blk W1 B (ctT i) (ctC i c f A):=⟨(u_ HV).mono hb (u_ HV).lt,(u_ HH).mono hb (u_ HH).lt⟩
    have HB9:=mT HB hb
    refine ⟨zz,?_⟩
    simp only [sX,sY,sZ]
    refine tk 16 21 (.bool (okVal v.k v.n v.s)) zz ?_
    refine tk 17 4 (.bool (okVal v.k v.n v.s)) zz ?_
    simp only [sX,sY,sZ]
    refine wpAnyH_done (by kernel_rfl) ?_ _
    clear zz hb
    go_wp2_with fail
    go_ret
    rw [u_ HF2]
    exact ⟨rfl,u_ HB9⟩
 . have h0':(v.k == 0)=false:=by simpa using fun h=>hg (.inl h)
   have h1':(v.k == f.ty)=false:=by simpa using fun h=>hg (.inr h)
   rw [decide_eq_false (fun h=>hg (.inl h)),decide_eq_false (fun h=>hg (.inr h))] at HF
   refine tk 2 7 (.bool false) zz ?_ (hy:=fun w hS=>by simp [execOp,go_sem,h0'])
   refine tk 3 8 (.bool false) zz ?_
   refine tk 4 9 (.pointer (some ⟨w.heap.size,0,none⟩)) zz ?_
   refine tk 5 10 (.int .i64 v.k) zz ?_ (hy:=fun w hS=>by have q0:=(three' hS.1).1;simp [execOp,go_sem,q0])
   simp only [sX,sY,sZ]
   refine tk 6 11 (.pointer (some ⟨B,0,none⟩)) zz ?_
   refine tk 7 12 (.pointer (some ⟨B,0,none⟩)) zz ?_
   refine tk 8 13 (.pointer (some ⟨B,6,none⟩)) zz ?_
   refine tk 9 14 (.pointer (some ⟨B,7,none⟩)) zz ?_
   simp only [sX,sY,sZ]
   refine tk 10 15 (.int .i64 f.ty) zz ?_ (hy:=fun w hS=>by have q0:w.cell? ⟨B,7,none⟩=some (.int .i64 f.ty):=(hS.2.cell 7).trans rfl;simp [execOp,go_sem,q0])
   refine tk 11 16 (.bool false) zz ?_ (hy:=fun w hS=>by simp [execOp,go_sem,h1'])
   refine tk 12 17 (.bool false) zz ?_
   refine tk 13 18 (.bool false) zz ?_
   simp only [sX,sY,sZ]
   refine tn 14 19 zz ?_
   refine tn 15 20 zz ?_
   refine tk 16 21 (.bool false) zz ?_
   refine tk 17 4 (.bool false) zz ?_
   simp only [sX,sY,sZ]
   refine wpAnyH_done (by kernel_rfl) ?_ _
   clear zz
   go_wp2_with fail
   go_ret
   rw [u_ HF]
   exact ⟨rfl,(u_ HB).drew⟩
theorem qdb (m:Fm) (A:MA) (n:Nat) (F:Nat->Bool) (f:Nat->Nat) (S:SF) (WD:World) (Sh:Nat) (Bs:Nat->Nat) (u:Value) (pl:Nat) (k:Int) (v:Vx) (w:World) (hs:v.s.size<=9223372036854775807) (hX:Shet m A n F f S WD Sh Bs (fun _=>zCx) m.F.length u pl w) :
 Calls Tryz.prog 52 #[.pointer (some ⟨Sh,0,none⟩),.int .i64 k,.agg #[.int .i64 v.k,.int .i64 v.n,.string v.s]] w fun x w'=>x=.returned (.bool (decide (0<=k/\k<m.F.length)&&(decide ((fAt m k.toNat).is.length=0)&&fitB (fAt m k.toNat) v)))/\Below w.heap.size w w':=by
 have hV0:=Blk.new w 54 #[.int .i64 v.k,.int .i64 v.n,.string v.s]
 have hB0:=(bR w.heap.size w).alloc (nR _) (.cells #[.int .i64 v.k,.int .i64 v.n,.string v.s] 54)
 obtain ⟨W0,hW0⟩:∃ W0,w.alloc (.cells #[.int .i64 v.k,.int .i64 v.n,.string v.s] 54)=W0:=⟨_,rfl⟩
 rw [hW0] at hV0 hB0
 have HXa:=h_ ((hX.mono hB0).mono (bR W0.heap.size W0).drew)
 have HBa:=h_ (hB0.trans ((bR W0.heap.size W0).drew.mono hB0.size))
 have HVa:=h_ (hV0.mono (bR W0.heap.size W0).drew hV0.lt)
 have HC:=h_ (q3o m A n F f S WD Sh Bs u pl k (fun _=>zCx) W0.drew (u_ HXa))
 obtain ⟨ua,ucp,hu⟩:=hX.slice
 subst hu
 clear hX hV0 hB0
 go_enter Tryz.func52,Tryz.ntmps52
 go_wp2_with fail
 try rw [hW0]
 clear hW0
 refine wp_region_held_drew (S:=fun w'=>Blk w' Sh 122 (sfC S++[Value.slice ua m.F.length ucp,Value.map (some pl)])/\Blk w' w.heap.size 54 [.int .i64 v.k,.int .i64 v.n,.string v.s]/\∀ j:Nat,j<m.F.length->k=j->∃ q,ua=some ⟨q,0,none⟩/\w'.cell? ⟨q,j,none⟩=some (ifV (inpB (fAt m j)) (Bs j))) (by kernel_rfl) ⟨(u_ HXa).blk,u_ HVa,fun j hj _=>by
  obtain ⟨q,cp,eu,hqc,-⟩:=(u_ HXa).at hj
  obtain ⟨rfl,rfl⟩:ua=some ⟨q,0,none⟩/\ucp=cp:=by simpa using eu
  exact ⟨q,rfl,hqc⟩⟩ (fun zz=>?_)
 generalize W0.drew=V at *
 refine tk 0 7 (.pointer (some ⟨Sh,0,none⟩)) zz ?_
 refine tk 1 8 (.int .i64 k) zz ?_
 simp only [sX,sY,sZ]
 refine callY (i:=2) (f:=83) (args:=#[.pointer (some ⟨Sh,0,none⟩),.int .i64 k]) (R:=fun x wz=>x=.bool (decide (0<=k/\k<m.F.length))/\wz=V) 9 rfl rfl (by rfl) (by kernel_rfl) (by simp [execOp,go_sem]) ((u_ HC).mono fun e w6 ⟨he,hb⟩=>⟨_,he,rfl,hb⟩) ?_
 rintro x W1 ⟨rfl,e1⟩
 rw [e1]
 clear e1
 refine ⟨zz,?_⟩
 simp only [sX,sY,sZ]
 by_cases hin:0<=k/\k<m.F.length
 case neg =>
  have HR:Hid ((decide (0<=k/\k<m.F.length)&&(decide ((fAt m k.toNat).is.length=0)&&fitB (fAt m k.toNat) v))=false):=h_ (by rw [decide_eq_false hin,Bool.false_and])
  rw [decide_eq_false hin]
  refine tk 3 10 (.bool false) zz ?_
  refine tn 4 11 zz ?_
  refine tn 5 12 zz ?_
  refine tn 6 13 zz ?_
  simp only [sX,sY,sZ]
  refine tn 7 14 zz ?_
  refine tn 8 15 zz ?_
  refine tn 9 16 zz ?_
  refine tn 10 17 zz ?_
  simp only [sX,sY,sZ]
  refine tn 11 18 zz ?_
  refine tn 12 19 zz ?_
  refine tk 13 20 (.bool false) zz ?_
  refine tk 14 21 (.bool false) zz ?_
  simp only [sX,sY,sZ]
  refine tn 15 22 zz ?_
  refine tn 16 23 zz ?_
  refine tn 17 24 zz ?_
  refine tn 18 25 zz ?_
  simp only [sX,sY,sZ]
  refine tn 19 26 zz ?_
  refine tn 20 27 zz ?_
  refine tn 21 28 zz ?_
  refine tn 22 29 zz ?_
  simp only [sX,sY,sZ]
  refine tn 23 30 zz ?_
  refine tn 24 31 zz ?_
  refine tk 25 32 (.bool false) zz ?_
  refine tk 26 6 (.bool false) zz ?_
  simp only [sX,sY,sZ]
  refine wpAnyH_done (by kernel_rfl) ?_ _
  clear zz
  go_wp2_with fail
  go_ret
  rw [u_ HR]
  exact ⟨rfl,u_ HBa⟩
 have HIn:=h_ (decide_eq_true hin)
 rw [decide_eq_true hin]
 obtain ⟨j,rfl⟩:∃ j:Nat,k=j:=⟨k.toNat,by omega⟩
 have hj:j<m.F.length:=by omega
 have hj':(j:Int)<m.F.length:=by omega
 obtain ⟨q,hq,-⟩:=zz.2.2 j hj rfl
 subst hq
 have HBx:=h_ fun W (h:Shet m A n F f S WD Sh Bs (fun _=>zCx) m.F.length (.slice (some ⟨q,0,none⟩) m.F.length ucp) pl W)=>(h.bx j hj).2
 refine tk 3 10 (.bool true) zz ?_
 refine tk 4 11 (.pointer (some ⟨Sh,0,none⟩)) zz ?_
 refine tk 5 12 (.pointer (some ⟨Sh,0,none⟩)) zz ?_
 refine tk 6 13 (.pointer (some ⟨Sh,12,none⟩)) zz ?_
 simp only [sX,sY,sZ]
 refine tk 7 14 (.slice (some ⟨q,0,none⟩) m.F.length ucp) zz ?_ (hy:=fun w hS=>by have q1:w.cell? ⟨Sh,12,none⟩=some (.slice (some ⟨q,0,none⟩) m.F.length ucp):=hS.1.cell 12;simp [execOp,go_sem,q1])
 refine tk 8 15 (.int .i64 j) zz ?_
 refine tk 9 16 (.pointer (some ⟨q,j,none⟩)) zz ?_
 refine tk 10 17 (ifV (inpB (fAt m j)) (Bs j)) zz ?_ (hy:=fun w hS=>by obtain ⟨q',e',q1⟩:=hS.2.2 j hj rfl;cases e';simp [execOp,go_sem,q1])
 simp only [sX,sY,sZ]
 refine callY (i:=11) (f:=260) (args:=#[.pointer (some ⟨Bs j,0,none⟩)]) (R:=fun v wz=>v=.pointer (some ⟨Bs j,0,none⟩)/\wz=V) 18 rfl rfl (by rfl) (by kernel_rfl) ?hrun1 ((qej _ _).mono fun e w6 ⟨he,hb⟩=>⟨_,he,rfl,hb⟩) ?_
 case hrun1=>simp [execOp,go_sem,ifV,head_m]
 rintro x W2 ⟨rfl,e2⟩
 rw [e2]
 clear e2
 refine ⟨zz,?_⟩
 simp only [sX,sY,sZ]
 have HCi:=h_ (q5b (fAt m j) (A.fa j) (Bs j) (ctT (inpB (fAt m j))) _ V (u_ HBx V (u_ HXa)))
 refine callY (i:=12) (f:=82) (args:=#[.pointer (some ⟨Bs j,0,none⟩)]) (R:=fun v wz=>v=.bool (inpB (fAt m j))/\Below V.heap.size V wz) 19 rfl rfl (by rfl) (by kernel_rfl) (by simp [execOp,go_sem]) ((u_ HCi).mono fun e w6 ⟨he,hb⟩=>⟨_,he,rfl,hb⟩) ?_
 rintro x W3 ⟨rfl,hb⟩
 have HX3:=h_ ((u_ HXa).mono hb);have HB3:=mT HBa hb;have HV3:=mB HVa hb
 have HSt:Hid (∀ W,Shet m A n F f S WD Sh Bs (fun _=>zCx) m.F.length (.slice (some ⟨q,0,none⟩) m.F.length ucp) pl W->Blk W w.heap.size 54 [.int .i64 v.k,.int .i64 v.n,.string v.s]->Blk W Sh 122 (sfC S++[Value.slice (some ⟨q,0,none⟩) m.F.length ucp,Value.map (some pl)])/\Blk W w.heap.size 54 [.int .i64 v.k,.int .i64 v.n,.string v.s]/\∀ i:Nat,i<m.F.length->(j:Int)=i->∃ q_1,(some ⟨q,0,none⟩:Option Addr)=some ⟨q_1,0,none⟩/\W.cell? ⟨q_1,i,none⟩=some (ifV (inpB (fAt m i)) (Bs i))):=h_ fun W hX hV=>⟨hX.blk,hV,fun i hi _=>by
  obtain ⟨q2,cp,eu,hqc,-⟩:=hX.at hi
  obtain ⟨e1,-⟩:(some ⟨q,0,none⟩:Option Addr)=some ⟨q2,0,none⟩/\ucp=cp:=by simpa using eu
  exact ⟨q2,e1,hqc⟩⟩
 replace zz:=u_ HSt W3 (u_ HX3) (u_ HV3)
 clear hb HXa HBa HVa HC HCi
 refine ⟨zz,?_⟩
 simp only [sX,sY,sZ]
 have HI:Hid (decide ((fAt m j).is.length=0)=inpB (fAt m j)):=h_ rfl
 cases hq:inpB (fAt m j)
 . rw [hq] at HI
   refine tk 13 20 (.bool false) zz ?_
   refine tk 14 21 (.bool false) zz ?_
   refine tn 15 22 zz ?_
   refine tn 16 23 zz ?_
   simp only [sX,sY,sZ]
   refine tn 17 24 zz ?_
   refine tn 18 25 zz ?_
   refine tn 19 26 zz ?_
   refine tn 20 27 zz ?_
   simp only [sX,sY,sZ]
   refine tn 21 28 zz ?_
   refine tn 22 29 zz ?_
   refine tn 23 30 zz ?_
   refine tn 24 31 zz ?_
   simp only [sX,sY,sZ]
   refine tk 25 32 (.bool false) zz ?_
   refine tk 26 6 (.bool false) zz ?_
   simp only [sX,sY,sZ]
   refine wpAnyH_done (by kernel_rfl) ?_ _
   clear zz
   go_wp2_with fail
   go_ret
   rw [u_ HIn,Int.toNat_natCast,u_ HI]
   exact ⟨rfl,u_ HB3⟩
 rw [hq] at HI
 refine tk 13 20 (.bool true) zz ?_
 refine tk 14 21 (.bool true) zz ?_
 refine tk 15 22 (.pointer (some ⟨Sh,0,none⟩)) zz ?_
 refine tk 16 23 (.pointer (some ⟨Sh,0,none⟩)) zz ?_
 simp only [sX,sY,sZ]
 refine tk 17 24 (.pointer (some ⟨Sh,12,none⟩)) zz ?_
 refine tk 18 25 (.slice (some ⟨q,0,none⟩) m.F.length ucp) zz ?_ (hy:=fun w hS=>by have q1:w.cell? ⟨Sh,12,none⟩=some (.slice (some ⟨q,0,none⟩) m.F.length ucp):=hS.1.cell 12;simp [execOp,go_sem,q1])
 refine tk 19 26 (.int .i64 j) zz ?_
 refine tk 20 27 (.pointer (some ⟨q,j,none⟩)) zz ?_
 simp only [sX,sY,sZ]
 refine tk 21 28 (ifV (inpB (fAt m j)) (Bs j)) zz ?_ (hy:=fun w hS=>by obtain ⟨q',e',q1⟩:=hS.2.2 j hj rfl;cases e';simp [execOp,go_sem,q1])
 refine tk 23 30 (.agg #[.int .i64 v.k,.int .i64 v.n,.string v.s]) zz ?_ (hy:=fun w hS=>by obtain ⟨q0,q1,q2⟩:=three' hS.2.1;simp [execOp,go_sem,q0,q1,q2])
 simp only [sX,sY,sZ]
 refine callY (i:=22) (f:=260) (args:=#[.pointer (some ⟨Bs j,0,none⟩)]) (R:=fun v wz=>v=.pointer (some ⟨Bs j,0,none⟩)/\wz=W3) 29 rfl rfl (by rfl) (by kernel_rfl) ?hrun2 ((qej _ _).mono fun e w6 ⟨he,hb⟩=>⟨_,he,rfl,hb⟩) ?_
 case hrun2=>simp [execOp,go_sem,ifV,head_m]
 rintro x W4 ⟨rfl,e4⟩
 rw [e4]
 clear e4
 refine ⟨zz,?_⟩
 simp only [sX,sY,sZ]
 have HCf:=h_ (qe6 (inpB (fAt m j)) zCx (fAt m j) (A.fa j) (Bs j) v W3 hs (u_ HBx W3 (u_ HX3)))
 refine callY (i:=24) (f:=84) (args:=#[.pointer (some ⟨Bs j,0,none⟩),.agg #[.int .i64 v.k,.int .i64 v.n,.string v.s]]) (R:=fun x wz=>x=.bool (fitB (fAt m j) v)/\Below W3.heap.size W3 wz) 31 rfl rfl (by rfl) (by kernel_rfl) (by simp [execOp,go_sem]) ((u_ HCf).mono fun e w6 ⟨he,hb⟩=>⟨_,he,rfl,hb⟩) ?_
 rintro x W5 ⟨rfl,hb⟩
 have HB5:=mT HB3 hb
 replace zz:=u_ HSt W5 ((u_ HX3).mono hb) ((u_ HV3).mono hb (u_ HV3).lt)
 clear hb HX3 HB3 HV3 HCf
 refine ⟨zz,?_⟩
 simp only [sX,sY,sZ]
 refine tk 25 32 (.bool (fitB (fAt m j) v)) zz ?_
 refine tk 26 6 (.bool (fitB (fAt m j) v)) zz ?_
 simp only [sX,sY,sZ]
 refine wpAnyH_done (by kernel_rfl) ?_ _
 clear zz
 go_wp2_with fail
 go_ret
 rw [u_ HIn,Int.toNat_natCast,u_ HI]
 exact ⟨rfl,u_ HB5⟩
theorem q5a (m:Fm) (A:MA) (n:Nat) (F:Nat->Bool) (f:Nat->Nat) (S:SF) (WD:World) (Sh:Nat) (Bs:Nat->Nat) (u:Value) (pl:Nat) (x:Ex) (w:World) (hs:x.v.s.size<=9223372036854775807) (hX:Shet m A n F f S WD Sh Bs (fun _=>zCx) m.F.length u pl w) :
 Calls Tryz.prog 29 #[.pointer (some ⟨Sh,0,none⟩),ev x] w fun y w'=>y=.returned (.bool (entB m x))/\Below w.heap.size w w':=by
 obtain ⟨r,k,v⟩:=x
 unfold ev
 dsimp only at hs ⊢
 have HE:=h_ (Blk.new w 56 #[.int .i64 r,.int .i64 k,.int .i64 v.k,.int .i64 v.n,.string v.s])
 have HB:=h_ ((bR w.heap.size w).alloc (nR _) (.cells #[.int .i64 r,.int .i64 k,.int .i64 v.k,.int .i64 v.n,.string v.s] 56))
 obtain ⟨W0,hW0⟩:∃ W0,w.alloc (.cells #[.int .i64 r,.int .i64 k,.int .i64 v.k,.int .i64 v.n,.string v.s] 56)=W0:=⟨_,rfl⟩
 rw [hW0] at HE HB
 have HX:=h_ (hX.mono (u_ HB))
 have HC1:=h_ (q58 m A n F f S WD Sh Bs u pl r (fun _=>zCx) W0 (u_ HX))
 have HC2:=h_ (qdb m A n F f S WD Sh Bs u pl k v W0 hs (u_ HX))
 have HR:Hid (entB m ⟨r,k,v⟩=(decide (0<=r/\r<m.R.length)&&(decide (0<=k/\k<m.F.length)&&(decide ((fAt m k.toNat).is.length=0)&&fitB (fAt m k.toNat) v)))):=h_ rfl
 generalize (decide (0<=k/\k<m.F.length)&&(decide ((fAt m k.toNat).is.length=0)&&fitB (fAt m k.toNat) v))=q at HC2 HR
 obtain ⟨x0,x1,x2,x3,x4⟩:=five (u_ HE)
 clear hX
 go_enter Tryz.func29,Tryz.ntmps29
 go_wp2_with fail
 try rw [hW0]
 refine (u_ HC1).mono ?_
 rintro y W1 ⟨rfl,hw⟩
 subst hw
 clear hW0 HC1
 by_cases hr:0<=r/\r<m.R.length
 . have HD:=h_ (decide_eq_true hr)
   rw [decide_eq_true hr]
   go_wp2_with fail
   refine (u_ HC2).mono ?_
   rintro y W2 ⟨rfl,hb⟩
   have HB2:=mT HB hb
   clear hb HC2
   go_wp2_with fail
   go_ret
   rw [u_ HR,u_ HD,Bool.true_and]
   exact ⟨rfl,u_ HB2⟩
 . have HD:=h_ (decide_eq_false hr)
   rw [decide_eq_false hr]
   go_wp2_with fail
   go_ret
   rw [u_ HR,u_ HD,Bool.false_and]
   exact ⟨rfl,u_ HB⟩
def bywRen:Go.Shelf.Ren:=⟨fun n=>if n=167 then 87 else Tryz.lays156_ren.f n,Tryz.lays156_ren.t,Tryz.lays156_ren.g⟩
theorem bywLays:Go.Proofs.Lays.n167 Tryz.prog bywRen :=
 have h:=Tryz.lays156
 have e:=Tryz.Builder_Extra_156
 { mixed:=h.mixed,f167:=by kernel_rfl,f240:=h.f240,f276:=h.f276,t0:=h.t0,a0:=h.a0,z0:=h.z0,v0:=h.v0,t4:=h.t4,a4:=h.a4,z4:=h.z4,v4:=h.v4,t5:=e.t5,a5:=e.a5,z5:=e.z5,v5:=e.v5,t9:=h.t9,a9:=h.a9,z9:=h.z9,v9:=h.v9,t20:=h.t20,a20:=h.a20,z20:=h.z20,v20:=h.v20,t37:=h.t37,a37:=h.a37,z37:=h.z37,v37:=h.v37,t70:=h.t70,a70:=h.a70,z70:=h.z70,v70:=h.v70,t72:=h.t72,a72:=h.a72,z72:=h.z72,v72:=h.v72,t75:=h.t75,a75:=h.a75,z75:=h.z75,v75:=h.v75,t164:=h.t164,a164:=h.a164,z164:=h.z164,v164:=h.v164 }
theorem bywExtra:Builder.Extra Tryz.prog bywRen :=
 have e:=Tryz.Builder_Extra_156
 { sizeBuilder:=by kernel_rfl,liesBuilder:=by kernel_rfl,t5:=e.t5,a5:=e.a5,z5:=e.z5,v5:=e.v5,infoByte:=by kernel_rfl,cellsByte:=by kernel_rfl,sizeByte:=by kernel_rfl,neB5:=by decide }
theorem q33 (B b:Nat) (l:List UInt8) (c:UInt8) (w:World) (h:Bl w B b l) (hlen:l.length+1<=140737488355328) :
 Calls Tryz.prog 87 #[.pointer (some ⟨b,0,none⟩),.int .u8 (c.toNat:Int)] w fun e w'=>e=.returned .nilIface/\Bl w' B b (l++[c])/\Below B w w'/\Oth b w w' :=
 (Any.Builder_WriteByte_k bywLays bywExtra B b (Lib.byteCells l) (c.toNat:Int) w h (by unfold Lib.byteCells;rw [List.length_map];exact hlen) h.le).mono fun _ _ ⟨h1,h2,h3,h4⟩=>⟨h1,.inr (by
  have e:Lib.byteCells (l++[c])=Lib.byteCells l++[.int .u8 (c.toNat:Int)]:=by unfold Lib.byteCells;rw [List.map_append];rfl
  rw [e];exact h2),h3,h4⟩
theorem q34 (B b:Nat) (t:List UInt8) (a:Option Addr) (c:Nat) (l:List ByteArray) (w:World) (hB:Bl w B b t) (h1:1<=l.length) (h2:l.length<=100000) (hc:l.length<=c) (ha:Strs w a l) (hs:t.length+(jw l).length<=100000000) :
 Calls Tryz.prog 53 #[.pointer (some ⟨b,0,none⟩),.slice a l.length c] w fun e w'=>e=.returned (.tuple #[])/\Bl w' B b (t++(jw l++[10]))/\Below B w w'/\Oth b w w':=by
 have HJ:=h_ (q2e a c l w h1 h2 hc ha (by omega))
 have HBl:=h_ hB;have HLe:=h_ hB.le
 obtain ⟨T,hT⟩:∃ T:ByteArray,⟨(jw l).toArray⟩=T:=⟨_,rfl⟩
 have hTs:T.size=(jw l).length:=by rw [<- hT];rfl
 have HT:Hid (sb T=jw l):=h_ (by rw [<- hT];rfl)
 rw [hT] at HJ
 have HZ:=h_ hTs;have HS:=h_ hs
 clear hB h1 h2 hc ha hT hTs hs
 go_enter Tryz.func53,Tryz.ntmps53
 go_wp2_with fail
 refine (u_ HJ).mono ?_
 rintro r W1 ⟨rfl,hb1⟩
 have HB1:=h_ hb1
 replace HBl:=h_ ((u_ HBl).mono hb1)
 clear hb1
 go_wp2_with fail
 refine (q1b B b t T W1 (u_ HBl) (by have:=u_ HZ;have:=u_ HS;omega)).mono ?_
 rintro r W2 ⟨rfl,hl2,hb2,ho2⟩
 have HL2:=h_ hl2;have HB2:=h_ hb2;have HO2:=h_ (Lib.OthersKept.trans (qc9 (b:=b) (u_ HB1)) ho2)
 have HW:=h_ (q33 B b _ 10 W2 hl2 (by rw [List.length_append,sb_len];have:=u_ HZ;have:=u_ HS;omega))
 clear hl2 hb2 ho2
 go_wp2_with fail
 refine (u_ HW).mono ?_
 rintro r W3 ⟨rfl,hl3,hb3,ho3⟩
 have HO3:Hid (Oth b w W3):=h_ (Lib.OthersKept.trans (u_ HO2) ho3)
 have HL3:Hid (Bl W3 B b (t++(jw l++[10]))):=h_ (by rw [u_ HT] at hl3;rw [<- List.append_assoc];exact hl3)
 have HB3:Hid (Below B w W3):=h_ ((((u_ HB1).mono (u_ HLe)).trans (u_ HB2)).trans hb3)
 clear hl3 hb3 ho3
 go_wp2_with fail
 go_end0
 exact ⟨rfl,u_ HL3,u_ HB3,u_ HO3⟩
theorem jw_ln (d rs fs sh:ByteArray):jw [d,rs,fs,sh]++[10]=sb d++([32]++(sb rs++([32]++(sb fs++([32]++(sb sh++[10])))))):=by
 rw [qiz];simp
theorem q3m (m:Fm) (A:MA) (n:Nat) (F:Nat->Bool) (f:Nat->Nat) (S:SF) (WD:World) (Sh:Nat) (Bs:Nat->Nat) (u:Value) (pl r Cb Sb s:Nat) (L c:Nat) (a:Option Addr) (e:Nat->Ex) (w:World) (hv:VfA m) (hn:n<=32) (hL:L<=4000) (s1:Sol m n (fun a b=>F (a*n+b)=true) f) (hx:∀ k,k<L->entB m (e k)=true/\FitE (e k)) (hX:Shet m A n F f S WD Sh Bs (fun _=>zCx) m.F.length u pl w) (hV:Vwr n F (rlb m r) Sh Cb Sb s w) (he:Ents w a L e) (ht:Tabs w) :
 Calls Tryz.prog 30 #[.pointer (some ⟨Sh,0,none⟩),.slice a L c,vwV r Cb Sb] w fun y w'=>y=.returned (.string ⟨(lnL m (snL e (seesB m n F f r) L)).toArray⟩)/\Below w.heap.size w w':=by
 have HCs:=h_ fun j W (hj:j<m.F.length) (h:Shet m A n F f S WD Sh Bs (fun _=>zCx) m.F.length u pl W) (h':Vwr n F (rlb m r) Sh Cb Sb s W)=>qga m A n F f S WD Sh Bs u pl r j Cb Sb s (fun _=>zCx) W hn hj s1 h h'
 have HLn:Hid (∀ k,k<=L->(lnL m (snL e (seesB m n F f r) k)).length<=4800000):=h_ fun k hk=>by
  have hl:=qki e (seesB m n F f r) k
  have h:=qj4 hv (l:=snL e (seesB m n F f r) k) (by omega) (fun x hx'=>by
   obtain ⟨j,hj,rfl⟩:=qkj hx'
   exact hx j (by omega))
  omega
 have HX0:=h_ hX;have HV0:=h_ hV;have HE0:=h_ he;have HT0:=h_ ht;have HXe:=h_ hx;have HVf:=h_ hv
 obtain ⟨b9,bt,top,a1,a2,a3,c1,c2,c3,a5,c5,hSe,-,-,-⟩:=hX.snd
 have HYr:Hid (∀ W,Blk W Sh 122 (sfC S++[u,Value.map (some pl)])->W.cell? ⟨Sh,2,none⟩=some (.slice A.r m.R.length A.rc)):=h_ fun W h=>(h.cell 2).trans (by rw [hSe];rfl)
 have HYf:Hid (∀ W,Blk W Sh 122 (sfC S++[u,Value.map (some pl)])->W.cell? ⟨Sh,3,none⟩=some (.slice A.f m.F.length A.fc)):=h_ fun W h=>(h.cell 3).trans (by rw [hSe];rfl)
 have HMs:=h_ hX.msl
 unfold vwV seeV
 have HVb:=h_ ((Blk.new w 73 #[.int .i64 r,.func (.func 58) #[] #[.pointer (some ⟨Cb,0,none⟩),.pointer (some ⟨Sb,0,none⟩)]]).alloc (.cells #[.pointer none,.slice none 0 0] 130))
 have HBl:=h_ (bl_new (w.alloc (.cells #[.int .i64 r,.func (.func 58) #[] #[.pointer (some ⟨Cb,0,none⟩),.pointer (some ⟨Sb,0,none⟩)]] 73)))
 rw [World.size_alloc] at HBl
 have HB:=h_ (((bR w.heap.size w).alloc (nR _) (.cells #[.int .i64 r,.func (.func 58) #[] #[.pointer (some ⟨Cb,0,none⟩),.pointer (some ⟨Sb,0,none⟩)]] 73)).alloc (by simp) (.cells #[.pointer none,.slice none 0 0] 130))
 obtain ⟨W0,hW0⟩:∃ W0,(w.alloc (.cells #[.int .i64 r,.func (.func 58) #[] #[.pointer (some ⟨Cb,0,none⟩),.pointer (some ⟨Sb,0,none⟩)]] 73)).alloc (.cells #[.pointer none,.slice none 0 0] 130)=W0:=⟨_,rfl⟩
 have hsz:w.heap.size+2<=W0.heap.size:=by rw [<- hW0];simp
 rw [hW0] at HVb HBl HB
 clear hX hV he ht hx hv hn s1 hSe
 go_enter Tryz.func30,Tryz.ntmps30
 go_wp2_with fail
 try rw [hW0]
 clear hW0
 go_loopw [8,13] (fun nv i wr=>∃ k:Nat,k<=L/\i=.int .i64 k/\nv=.int .i64 (((snL e (seesB m n F f r) k).length:Nat):Int)/\Bl wr (w.heap.size+1) (w.heap.size+1) (lnL m (snL e (seesB m n F f r) k))/\Below (w.heap.size+1) W0 wr) (fun _ i _=>L - (intOf i).toNat)
 case atStart=>exact ⟨0,nZ _,rfl,rfl,u_ HBl,bR _ _⟩
 case round =>
  clear HBl
  obtain ⟨k,hk,rfl,rfl,hbl,hb⟩:=hrel
  have hbw:=(u_ HB).trans (hb.mono (by omega))
  have hws:=hb.size
  have HBl:=h_ hbl;have HB0:=h_ hb;have HBw:=h_ hbw
  have HXr:=h_ ((u_ HX0).mono hbw);have HVr:=h_ ((u_ HV0).mono hbw);have HVbr:=h_ ((u_ HVb).mono hb (by omega));have HTr:=h_ ((u_ HT0).mono hbw)
  have hcl:=qki e (seesB m n F f r) k
  have HSu:=h_ (qge e (seesB m n F f r) k)
  have HLk:=h_ (u_ HLn (k+1))
  generalize hsk:snL e (seesB m n F f r) k=sk at *
  by_cases hlt:k<L
  . have hlt':(k:Int)<L:=by omega
    obtain ⟨b,o,ea,hce⟩:=((u_ HE0).mono hbw) k hlt
    subst ea
    obtain ⟨hxk,hfk⟩:=u_ HXe k hlt
    obtain ⟨x,hxe⟩:∃ x,e k=x:=⟨_,rfl⟩
    rw [hxe] at hce hxk hfk HSu
    obtain ⟨hr,hf,hok⟩:=qaw hxk
    have HLl:Hid (∀ i,lnB m x i=Lib.itoa i++([32]++(sb (rnm m x.r.toNat)++([32]++(sb (fAt m x.f.toNat).nm++([32]++(sb (showB x.v.k x.v.n x.v.s)++[10]))))))):=h_ fun _=>rfl
    obtain ⟨xr,xf,v⟩:=x
    dsimp only at hr hf hok HSu HLl
    obtain ⟨rn,rfl⟩:∃ rn:Nat,xr=rn:=⟨xr.toNat,by omega⟩
    obtain ⟨j,rfl⟩:∃ j:Nat,xf=j:=⟨xf.toNat,by omega⟩
    rw [Int.toNat_natCast] at HSu
    simp only [Int.toNat_natCast] at HLl
    have hrn:rn<m.R.length:=by omega
    have hj:j<m.F.length:=by omega
    obtain ⟨-,q0,q1,q2,q3,q4⟩:=hce
    dsimp only at q0 q1 q2 q3 q4
    have HXb:=h_ (Blk.new wr 56 #[.int .i64 rn,.int .i64 j,.int .i64 v.k,.int .i64 v.n,.string v.s])
    have hbb:=(bR wr.heap.size wr).alloc (nR _) (.cells #[.int .i64 rn,.int .i64 j,.int .i64 v.k,.int .i64 v.n,.string v.s] 56)
    obtain ⟨W6,hW6⟩:∃ W6,wr.alloc (.cells #[.int .i64 rn,.int .i64 j,.int .i64 v.k,.int .i64 v.n,.string v.s] 56)=W6:=⟨_,rfl⟩
    obtain ⟨X,hXx⟩:∃ X,wr.heap.size=X:=⟨_,rfl⟩
    rw [hW6] at HXb hbb
    rw [hXx] at HXb
    have HX6:=h_ ((u_ HXr).mono hbb);have HV6:=h_ ((u_ HVr).mono hbb);have HVb6:=mB HVbr hbb;have HT6:=h_ ((u_ HTr).mono hbb);have HBl6:=h_ ((u_ HBl).mono hbb);have HB6:=h_ ((u_ HB0).trans (hbb.mono (by omega)))
    have hX1:w.heap.size+1 ≠ X:=by omega
    obtain ⟨x0,x1,x2,x3,x4⟩:=five (u_ HXb)
    have v1:=(u_ HVb6).cell 1
    simp only [List.getElem?_cons_zero,List.getElem?_cons_succ] at v1
    have HC1:=h_ (u_ HCs j W6 hj (u_ HX6) (u_ HV6))
    clear hbb hb hbw hbl hxe
    go_wp2_with fail
    try rw [hXx]
    try rw [hW6]
    refine (u_ HC1).mono ?_
    rintro y W7 ⟨rfl,hb⟩
    replace HX6:=h_ ((u_ HX6).mono hb);replace HXb:=mB HXb hb;replace HT6:=h_ ((u_ HT6).mono hb);replace HBl6:=h_ ((u_ HBl6).mono hb);replace HB6:=h_ ((u_ HB6).trans (hb.mono (by have:=(u_ HB6).size;omega)))
    clear hb hW6 hXx x0 x1 x2 x3 x4 v1 q0 q1 q2 q3 q4 HC1 HV6 HVb6 HXr HVr HVbr HTr HBl HB0 HBw
    cases hse:seesB m n F f r j
    . rw [hse,if_neg (by decide),List.append_nil] at HSu
      have HBl9:Hid (Bl W7 (w.heap.size+1) (w.heap.size+1) (lnL m (snL e (seesB m n F f r) (k+1)))):=h_ (by rw [u_ HSu];exact u_ HBl6)
      have HN9:Hid ((((snL e (seesB m n F f r) (k+1)).length:Nat):Int)=(sk.length:Int)):=h_ (by rw [u_ HSu])
      go_wp2_with fail
      go_roundw
      case rel=>first | exact ⟨k+1,by omega,by go_num,by rw [u_ HN9],u_ HBl9,u_ HB6⟩ | ((repeat apply Exists.intro);exact ⟨⟨k+1,by omega,by go_num,by rw [u_ HN9],u_ HBl9,u_ HB6⟩,rfl⟩)
      case measure=>simp [intOf];omega
    rw [hse,if_pos rfl] at HSu
    obtain ⟨rb,ro,er,hrb,zr,-⟩:=(u_ HMs).r rn hrn
    obtain ⟨fb,fo,ef,hfc,-⟩:=(u_ HMs).f j hj
    have zf:=hfc.2.1;have hfb:=hfc.1
    rw [<- qkb hrn] at zr
    rw [<- qi1 hj] at zf
    rw [er] at HYr
    rw [ef] at HYf
    have hr':(rn:Int)<m.R.length:=by omega
    have hj':(j:Int)<m.F.length:=by omega
    generalize rnm m rn=rs at *
    generalize (fAt m j).nm=fs at *
    have HZr:Hid (∀ W,Below WD.heap.size WD W->W.cell? ⟨rb,ro+rn*2,none⟩=some (.string rs)):=h_ fun W h=>(h.cell (p:=⟨rb,ro+rn*2,none⟩) hrb).trans zr
    have HZf:Hid (∀ W,Below WD.heap.size WD W->W.cell? ⟨fb,fo+j*9,none⟩=some (.string fs)):=h_ fun W h=>(h.cell (p:=⟨fb,fo+j*9,none⟩) hfb).trans zf
    obtain ⟨cn,hcn⟩:∃ cn,sk.length+1=cn:=⟨_,rfl⟩
    have hcn4:(cn:Int)<=4000:=by omega
    have HD:=h_ fun W (h:Tabs W)=>q4x (cn:Int) W (by omega) (by omega) h.2
    have HSh:=h_ fun W (h:Tabs W)=>q3q v.k v.n v.s W hfk.1 hfk.2.1 hfk.2.2 h.2
    obtain ⟨d,hd⟩:∃ d:ByteArray,⟨(Lib.itoa cn).toArray⟩=d:=⟨_,rfl⟩
    rw [hd] at HD
    generalize showB v.k v.n v.s=sh at *
    have HJ:Hid (lnL m (snL e (seesB m n F f r) (k+1))=lnL m sk++(jw [d,rs,fs,sh]++[10])):=h_ (by
     rw [u_ HSu,qey,hcn,u_ HLl cn,jw_ln,<- hd]
     simp [sb])
    have HJl:Hid ((lnL m sk).length+(jw [d,rs,fs,sh]).length<=100000000):=h_ (by
     have h:=u_ HLk hlt
     rw [u_ HJ,List.length_append,List.length_append] at h
     omega)
    have HN9:Hid ((((snL e (seesB m n F f r) (k+1)).length:Nat):Int)=(cn:Int)):=h_ (by rw [u_ HSu,List.length_append,List.length_singleton,hcn])
    have hcc:((sk.length:Nat):Int)+1=(cn:Int):=by omega
    clear zr zf hfc er ef hse HLl hfk hok hxk hr hf HLk hd
    go_wp2_with fail
    try rw [hcc]
    refine wp_region_held_drew (S:=fun w'=>Blk w' Sh 122 (sfC S++[u,Value.map (some pl)])/\Below WD.heap.size WD w'/\Blk w' X 56 [.int .i64 rn,.int .i64 j,.int .i64 v.k,.int .i64 v.n,.string v.s]) (by kernel_rfl) ⟨(u_ HX6).blk,(u_ HX6).base.drew,u_ HXb⟩ (fun zz=>?_)
    refine tk 0 24 (.int .i64 cn) zz ?_
    refine tk 2 26 (.pointer (some ⟨Sh,0,none⟩)) zz ?_
    refine tk 3 27 (.pointer (some ⟨Sh,0,none⟩)) zz ?_
    refine tk 4 28 (.pointer (some ⟨Sh,0,none⟩)) zz ?_
    simp only [sX,sY,sZ]
    refine tk 5 29 (.pointer (some ⟨Sh,0,none⟩)) zz ?_
    refine tk 6 30 (.pointer (some ⟨Sh,0,none⟩)) zz ?_
    refine tk 7 31 (.pointer (some ⟨Sh,2,none⟩)) zz ?_
    refine tk 8 32 (.slice (some ⟨rb,ro,none⟩) m.R.length A.rc) zz ?_ (hy:=fun w hS=>by have q0:=u_ HYr _ hS.1;simp [execOp,go_sem,q0])
    simp only [sX,sY,sZ]
    refine tk 9 33 (.pointer (some ⟨X,0,none⟩)) zz ?_
    refine tk 10 34 (.int .i64 rn) zz ?_ (hy:=fun w hS=>by have q0:=(five hS.2.2).1;simp [execOp,go_sem,q0])
    refine tk 11 35 (.pointer (some ⟨rb,ro+rn*2,none⟩)) zz ?_
    refine tk 12 36 (.pointer (some ⟨rb,ro+rn*2,none⟩)) zz ?_
    simp only [sX,sY,sZ]
    refine tk 13 37 (.string rs) zz ?_ (hy:=fun w hS=>by have q0:=u_ HZr _ hS.2.1;simp [execOp,go_sem,q0])
    refine tk 14 38 (.pointer (some ⟨Sh,0,none⟩)) zz ?_
    refine tk 15 39 (.pointer (some ⟨Sh,0,none⟩)) zz ?_
    refine tk 16 40 (.pointer (some ⟨Sh,0,none⟩)) zz ?_
    simp only [sX,sY,sZ]
    refine tk 17 41 (.pointer (some ⟨Sh,0,none⟩)) zz ?_
    refine tk 18 42 (.pointer (some ⟨Sh,0,none⟩)) zz ?_
    refine tk 19 43 (.pointer (some ⟨Sh,3,none⟩)) zz ?_
    refine tk 20 44 (.slice (some ⟨fb,fo,none⟩) m.F.length A.fc) zz ?_ (hy:=fun w hS=>by have q0:=u_ HYf _ hS.1;simp [execOp,go_sem,q0])
    simp only [sX,sY,sZ]
    refine tk 21 45 (.pointer (some ⟨X,1,none⟩)) zz ?_
    refine tk 22 46 (.int .i64 j) zz ?_ (hy:=fun w hS=>by have q0:=(five hS.2.2).2.1;simp [execOp,go_sem,q0])
    refine tk 23 47 (.pointer (some ⟨fb,fo+j*9,none⟩)) zz ?_
    refine tk 24 48 (.pointer (some ⟨fb,fo+j*9,none⟩)) zz ?_
    simp only [sX,sY,sZ]
    refine tk 25 49 (.string fs) zz ?_ (hy:=fun w hS=>by have q0:=u_ HZf _ hS.2.1;simp [execOp,go_sem,q0])
    refine tk 26 50 (.pointer (some ⟨X,2,none⟩)) zz ?_
    refine tk 27 51 (.agg #[.int .i64 v.k,.int .i64 v.n,.string v.s]) zz ?_ (hy:=fun w hS=>by obtain ⟨-,-,q0,q1,q2⟩:=five hS.2.2;simp [execOp,go_sem,q0,q1,q2])
    simp only [sX,sY,sZ]
    have HXV:=h_ ((u_ HX6).mono (bR W7.heap.size W7).drew);have HXbV:=h_ ((u_ HXb).mono (bR W7.heap.size W7).drew (u_ HXb).lt);have HTV:=h_ ((u_ HT6).mono (bR W7.heap.size W7).drew);have HBlV:=h_ ((u_ HBl6).mono (bR W7.heap.size W7).drew);have HBV:=h_ (u_ HB6).drew
    generalize W7.drew=V at *
    clear HX6 HXb HT6 HBl6 HB6
    refine callY (i:=1) (f:=54) (args:=#[.int .i64 cn]) (R:=fun x wz=>x=.string d/\Below V.heap.size V wz) 25 rfl rfl (by rfl) (by kernel_rfl) (by simp [execOp,go_sem]) ((u_ HD V (u_ HTV)).mono fun e w6 ⟨he,hb⟩=>⟨_,he,rfl,hb⟩) ?_
    rintro y W8 ⟨rfl,hb8⟩
    refine ⟨⟨(u_ HXV).blk.mono hb8 (u_ HXV).blk.lt,((u_ HXV).mono hb8).base,(u_ HXbV).mono hb8 (u_ HXbV).lt⟩,?_⟩
    simp only [sX,sY,sZ]
    refine callY (i:=28) (f:=55) (args:=#[.agg #[.int .i64 v.k,.int .i64 v.n,.string v.s]]) (R:=fun x wz=>x=.string sh/\Below W8.heap.size W8 wz) 52 rfl rfl (by rfl) (by kernel_rfl) (by simp [execOp,go_sem]) ((u_ HSh W8 ((u_ HTV).mono hb8)).mono fun e w6 ⟨he,hb⟩=>⟨_,he,rfl,hb⟩) ?_
    rintro y W9 ⟨rfl,hb9⟩
    have hbz:=hb8.trans (hb9.mono hb8.size)
    clear hb8 hb9
    have hba:=(bR W9.heap.size W9).alloc (nR _) (.cells #[.string d,.string rs,.string fs,.string sh] 9)
    have hX9:=(u_ HXV).mono hbz
    have hXb9:=(u_ HXbV).mono hbz (u_ HXbV).lt
    have hXa:=hX9.mono hba
    have hXba:=hXb9.mono hba hXb9.lt
    have hBla:=((u_ HBlV).mono hbz).mono hba
    have hBa:=(u_ HBV).trans ((hbz.trans (hba.mono hbz.size)).mono (by have:=(u_ HBV).size;omega))
    have HW:=h_ (q34 (w.heap.size+1) (w.heap.size+1) (lnL m sk) (some ⟨W9.heap.size,0,none⟩) 4 [d,rs,fs,sh] _ hBla (by simp) (by simp) (by simp) (qgj W9 [d,rs,fs,sh]) (u_ HJl))
    rw [<- u_ HJ] at HW
    refine ⟨⟨hX9.blk,hX9.base,hXb9⟩,?_⟩
    simp only [sX,sY,sZ]
    refine runY (i:=29) (v:=.slice (some ⟨W9.heap.size,0,none⟩) 4 4) (w':=W9.alloc (.cells #[.string d,.string rs,.string fs,.string sh] 9)) 53 rfl rfl (by rfl) (by kernel_rfl) (by simp [execOp,go_sem]) ⟨hXa.blk,hXa.base,hXba⟩ ?_
    simp only [sX,sY,sZ]
    have HBa:=h_ hBa;have HXa:=h_ hXa;have HXba:=h_ hXba
    clear zz hbz hba hX9 hXb9 hXa hXba hBla hBa
    generalize W9.alloc (.cells #[.string d,.string rs,.string fs,.string sh] 9)=Wa at *
    refine callY (i:=30) (f:=53) (args:=#[.pointer (some ⟨w.heap.size+1,0,none⟩),.slice (some ⟨W9.heap.size,0,none⟩) 4 4]) (R:=fun x wz=>x=.tuple #[]/\Bl wz (w.heap.size+1) (w.heap.size+1) (lnL m (snL e (seesB m n F f r) (k+1)))/\Below (w.heap.size+1) Wa wz/\Oth (w.heap.size+1) Wa wz) 54 rfl rfl (by rfl) (by kernel_rfl) (by simp [execOp,go_sem]) ((u_ HW).mono fun e w6 ⟨he,h1,h2,h3⟩=>⟨_,he,rfl,h1,h2,h3⟩) ?_
    rintro y Wb ⟨rfl,hlb,hbb,hob⟩
    have HBl9:=h_ hlb
    have HB9:=h_ ((u_ HBa).trans hbb)
    have hShl:Sh<w.heap.size:=(u_ HX0).blk.lt
    have hDl:WD.heap.size<=w.heap.size:=(u_ HX0).base.size
    refine ⟨⟨(u_ HXa).blk.mono hbb (by omega),(u_ HXa).base.trans (hbb.mono (by omega)),(u_ HXba).oth hob (Ne.symm hX1) (by decide)⟩,?_⟩
    simp only [sX,sY,sZ]
    refine wpAnyH_done (by kernel_rfl) ?_ _
    clear hlb hbb hob HW HBa HXa HXba HXV HXbV HTV HBlV HBV HD HSh
    go_wp2_with fail
    go_roundw
    case rel=>first | exact ⟨k+1,by omega,by go_num,by rw [u_ HN9],u_ HBl9,u_ HB9⟩ | ((repeat apply Exists.intro);exact ⟨⟨k+1,by omega,by go_num,by rw [u_ HN9],u_ HBl9,u_ HB9⟩,rfl⟩)
    case measure=>simp [intOf];omega
  . obtain rfl:k=L:=by omega
    have hlt':¬ (k:Int)<(k:Int):=by omega
    have HC9:=h_ (q08 (w.heap.size+1) (w.heap.size+1) (lnL m sk) wr (u_ HBl))
    clear hb hbw hbl
    go_wp2_with fail
    refine (u_ HC9).mono ?_
    rintro y W9 ⟨rfl,hb⟩
    have HB9:=h_ ((u_ HBw).trans (hb.mono (by omega)))
    clear hb HC9
    go_wp2_with fail
    go_ret
    rw [hsk]
    exact ⟨rfl,u_ HB9⟩
theorem q2c (m:Fm) (A:MA) (v:Value) (r:Int) (w:World) (hS:∀ W,MSl W m A->Tabs W->TyW W->Tab W->Calls Tryz.prog 27 #[mV m A] W fun x w'=>x=.returned (.tuple #[.pointer none,.bool false])/\Below W.heap.size W w') (ha:MSl w m A) (ht:Tabs w) (hy:TyW w) (htb:Tab w) :
 Calls Tryz.prog 9 #[mV m A,v,.int .i64 r] w fun x w'=>x=.returned (.string ⟨#[]⟩)/\Below w.heap.size w w':=by
 have HC0:=h_ hS
 obtain ⟨al,alc,ap,apc,ar,arc,af,afc,afa⟩:=A
 unfold mV at HC0 ⊢
 dsimp only at HC0 ⊢
 have HK:=h_ (Blk.new w 36 #[.slice al m.L.length alc,.slice ap m.P.length apc,.slice ar m.R.length arc,.slice af m.F.length afc])
 have HB:=h_ ((bR w.heap.size w).alloc (nR _) (.cells #[.slice al m.L.length alc,.slice ap m.P.length apc,.slice ar m.R.length arc,.slice af m.F.length afc] 36))
 obtain ⟨W0,hW0⟩:∃ W0,w.alloc (.cells #[.slice al m.L.length alc,.slice ap m.P.length apc,.slice ar m.R.length arc,.slice af m.F.length afc] 36)=W0:=⟨_,rfl⟩
 rw [hW0] at HK HB
 have HC:=h_ (u_ HC0 W0 (ha.mono (u_ HB)) (ht.mono (u_ HB)) (hy.mono (u_ HB)) (htb.mono (u_ HB)))
 obtain ⟨y0,y1,y2,y3⟩:=quad (u_ HK)
 clear ha ht hy htb hS HC0
 go_enter Tryz.func9,Tryz.ntmps9
 go_wp2_with fail
 try rw [hW0]
 refine (u_ HC).mono ?_
 rintro x W1 ⟨rfl,hb⟩
 replace HB:=mT HB hb
 clear hb hW0 y0 y1 y2 y3
 go_wp2_with fail
 go_ret
 exact ⟨rfl,u_ HB⟩
theorem q2d (m:Fm) (A:MA) (n:Nat) (F:Nat->Bool) (f:Nat->Nat) (L c:Nat) (a:Option Addr) (e:Nat->Ex) (r:Int) (w:World) (hv:VfA m) (hN:m.L.length=n) (hn:n<=32) (s1:Sol m n (fun a b=>F (a*n+b)=true) f) (hL:L<=9223372036854775807) (hfe:∀ k,k<L->FitE (e k)) (hS:∀ W,MSl W m A->Tabs W->TyW W->Tab W->Calls Tryz.prog 27 #[mV m A] W fun x w'=>∃ S WD Sh Bs u pl,x=.returned (.tuple #[.pointer (some ⟨Sh,0,none⟩),.bool true])/\W.heap.size<=WD.heap.size/\Shet m A n F f S WD Sh Bs (fun _=>zCx) m.F.length u pl w'/\Below W.heap.size W w') (ha:MSl w m A) (hc:Ents w a L e) (ht:Tabs w) (hy:TyW w) (htb:Tab w) :
 Calls Tryz.prog 9 #[mV m A,.slice a L c,.int .i64 r] w fun x w'=>x=.returned (.string ⟨(exA m n F f L e r).toArray⟩)/\Below w.heap.size w w':=by
 have HC0:=h_ hS
 have HCr:=h_ fun S WD Sh Bs u pl W (h:Shet m A n F f S WD Sh Bs (fun _=>zCx) m.F.length u pl W)=>q58 m A n F f S WD Sh Bs u pl r (fun _=>zCx) W h
 have HCe:=h_ fun S WD Sh Bs u pl (x:Ex) W (h0:x.v.s.size<=9223372036854775807) (h:Shet m A n F f S WD Sh Bs (fun _=>zCx) m.F.length u pl W)=>q5a m A n F f S WD Sh Bs u pl x W h0 h
 have HCv:=h_ fun S WD Sh Bs u pl (rn:Nat) W (hr:rn<m.R.length) (h:Shet m A n F f S WD Sh Bs (fun _=>zCx) m.F.length u pl W)=>q4m m A n F f S WD Sh Bs u pl rn (fun _=>zCx) W hv hN hn hr h
 have HCx:=h_ fun S WD Sh Bs u pl (rn Cb Sb s:Nat) W (h4:L<=4000) (h5:∀ k,k<L->entB m (e k)=true/\FitE (e k)) (h:Shet m A n F f S WD Sh Bs (fun _=>zCx) m.F.length u pl W) (h':Vwr n F (rlb m rn) Sh Cb Sb s W) (h2:Ents W a L e) (h3:Tabs W)=>q3m m A n F f S WD Sh Bs u pl rn Cb Sb s L c a e W hv hn h4 s1 h5 h h' h2 h3
 have HFe:=h_ hfe
 unfold vwV seeV at HCx HCv
 unfold ev at HCe
 obtain ⟨al,alc,ap,apc,ar,arc,af,afc,afa⟩:=A
 unfold mV at HC0 ⊢
 dsimp only at HC0 ⊢
 have HK:=h_ (Blk.new w 36 #[.slice al m.L.length alc,.slice ap m.P.length apc,.slice ar m.R.length arc,.slice af m.F.length afc])
 have HB:=h_ ((bR w.heap.size w).alloc (nR _) (.cells #[.slice al m.L.length alc,.slice ap m.P.length apc,.slice ar m.R.length arc,.slice af m.F.length afc] 36))
 obtain ⟨W0,hW0⟩:∃ W0,w.alloc (.cells #[.slice al m.L.length alc,.slice ap m.P.length apc,.slice ar m.R.length arc,.slice af m.F.length afc] 36)=W0:=⟨_,rfl⟩
 rw [hW0] at HK HB
 have HC:=h_ (u_ HC0 W0 (ha.mono (u_ HB)) (ht.mono (u_ HB)) (hy.mono (u_ HB)) (htb.mono (u_ HB)))
 have HEn:=h_ hc;have HTb:=h_ ht
 obtain ⟨y0,y1,y2,y3⟩:=quad (u_ HK)
 have HNo:Hid (¬ ((0<=r/\r<m.R.length)/\L<=4000/\logOk m L e=true)->exA m n F f L e r=[]):=h_ fun h=>by unfold exA;rw [if_neg h]
 have hL':(L:Int)<=9223372036854775807:=by omega
 clear ha ht hy htb hS HC0 hc hfe s1 hv hN hn
 go_enter Tryz.func9,Tryz.ntmps9
 go_wp2_with fail
 try rw [hW0]
 refine (u_ HC).mono ?_
 rintro x W1 ⟨S,WD,Sh,Bs,u,pl,rfl,hle,hX,hb⟩
 have HX:=h_ hX;have HBw:=mT HB hb
 have HC1:=h_ (u_ HCr S WD Sh Bs u pl W1 hX)
 clear hb hW0 y0 y1 y2 y3 hX hle HC HB HK HCr
 go_wp2_with fail
 refine (u_ HC1).mono ?_
 rintro x W2 ⟨rfl,hw⟩
 subst hw
 clear HC1
 by_cases hr:0<=r/\r<m.R.length
 case neg =>
  have HN:=h_ (u_ HNo (fun h=>hr h.1))
  rw [decide_eq_false hr]
  go_wp2_with fail
  go_ret
  rw [u_ HN]
  exact ⟨rfl,u_ HBw⟩
 rw [decide_eq_true hr]
 by_cases hL4:(4000:Int)<L
 . have HN:=h_ (u_ HNo (fun h=>by omega))
   go_wp2_with fail
   go_ret
   rw [u_ HN]
   exact ⟨rfl,u_ HBw⟩
 have hL5:L<=4000:=by omega
 obtain ⟨rn,rfl⟩:∃ rn:Nat,r=rn:=⟨r.toNat,by omega⟩
 have hrn:rn<m.R.length:=by omega
 go_wp2_with fail
 go_loopw [31] (fun i wr=>∃ k:Nat,k<=L/\i=.int .i64 k/\(∀ j,j<k->entB m (e j)=true)/\Below W2.heap.size W2 wr) (fun i _=>L - (intOf i).toNat)
 case atStart=>exact ⟨0,nZ _,rfl,fun j h=>absurd h (nL _),bR _ _⟩
 case round =>
  obtain ⟨k,hk,rfl,hall,hb⟩:=hrel
  have HAll:=h_ hall
  have HXr:=h_ ((u_ HX).mono hb);have HBr:=mT HBw hb;have HB0:=h_ hb
  clear hall hb
  by_cases hlt:k<L
  . have hlt':(k:Int)<L:=by omega
    obtain ⟨b,o,ea,hce⟩:=((u_ HEn).mono (u_ HBr)) k hlt
    subst ea
    have hfk:=u_ HFe k hlt
    have HA2:Hid (entB m (e k)=true->∀ j,j<k+1->entB m (e j)=true):=h_ fun h j hj=>by
     by_cases ej:j=k
     . rw [ej];exact h
     . exact u_ HAll j (by omega)
    have HN:=h_ fun (h:entB m (e k)=false)=>u_ HNo (fun h'=>by rw [qbw hlt h] at h';exact absurd h'.2.2 (by decide))
    obtain ⟨x,hxe⟩:∃ x,e k=x:=⟨_,rfl⟩
    rw [hxe] at hce hfk HA2 HN
    have HXb:=h_ (Blk.new wr 56 #[.int .i64 x.r,.int .i64 x.f,.int .i64 x.v.k,.int .i64 x.v.n,.string x.v.s])
    have hbb:=(bR wr.heap.size wr).alloc (nR _) (.cells #[.int .i64 x.r,.int .i64 x.f,.int .i64 x.v.k,.int .i64 x.v.n,.string x.v.s] 56)
    obtain ⟨W6,hW6⟩:∃ W6,wr.alloc (.cells #[.int .i64 x.r,.int .i64 x.f,.int .i64 x.v.k,.int .i64 x.v.n,.string x.v.s] 56)=W6:=⟨_,rfl⟩
    obtain ⟨X,hXx⟩:∃ X,wr.heap.size=X:=⟨_,rfl⟩
    rw [hW6] at HXb hbb
    rw [hXx] at HXb
    have HX6:=h_ ((u_ HXr).mono hbb)
    have HB6:=mT HB0 hbb;have HBf6:=mT HBr hbb
    obtain ⟨x0,x1,x2,x3,x4⟩:=five (u_ HXb)
    obtain ⟨-,q0,q1,q2,q3,q4⟩:=hce
    have HC2:=h_ (u_ HCe S WD Sh Bs u pl x W6 hfk.1 (u_ HX6))
    obtain ⟨q,hqe⟩:∃ q,entB m x=q:=⟨_,rfl⟩
    rw [hqe] at HC2 HA2 HN
    clear hbb hxe hqe hfk
    go_wp2_with fail
    try rw [hXx]
    try rw [hW6]
    refine (u_ HC2).mono ?_
    rintro y W7 ⟨rfl,hb⟩
    have HB7:=mT HB6 hb;have HBf7:=mT HBf6 hb
    clear hb hW6 hXx x0 x1 x2 x3 x4 q0 q1 q2 q3 q4 HC2
    cases q
    . have HN9:=h_ (u_ HN rfl)
      go_wp2_with fail
      go_ret
      rw [u_ HN9]
      exact ⟨rfl,u_ HBf7⟩
    . have HA9:=h_ (u_ HA2 rfl)
      go_wp2_with fail
      go_roundw
      case rel=>first | exact ⟨k+1,by omega,by go_num,u_ HA9,u_ HB7⟩ | ((repeat apply Exists.intro);exact ⟨⟨k+1,by omega,by go_num,u_ HA9,u_ HB7⟩,rfl⟩)
      case measure=>simp [intOf];omega
  . obtain rfl:k=L:=by omega
    have hlt':¬ (k:Int)<(k:Int):=by omega
    have HY:Hid (exA m n F f k e rn=lnL m (snL e (seesB m n F f rn) k)):=h_ (by unfold exA;rw [if_pos ⟨hr,hL5,qbv (u_ HAll)⟩];rfl)
    have HC4:=h_ (u_ HCv S WD Sh Bs u pl rn wr hrn (u_ HXr))
    clear HCv
    go_wp2_with fail
    refine (u_ HC4).mono ?_
    rintro x W5 ⟨Cb,Sb,s,rfl,hV,hb⟩
    have HX5:=h_ ((u_ HXr).mono hb)
    have HB5:=mT HBr hb
    have HC5:=h_ (u_ HCx S WD Sh Bs u pl rn Cb Sb s W5 hL5 (fun j hj=>⟨u_ HAll j hj,u_ HFe j hj⟩) (u_ HX5) hV ((u_ HEn).mono (u_ HB5)) ((u_ HTb).mono (u_ HB5)))
    rw [<- u_ HY] at HC5
    clear hb hV HC4
    go_wp2_with fail
    refine (u_ HC5).mono ?_
    rintro x W6 ⟨rfl,hb⟩
    have HB6:=mT HB5 hb
    clear hb HC5
    go_wp2_with fail
    go_ret
    exact ⟨rfl,u_ HB6⟩
structure OldE (m:Fm) (A:MA) (X:Nat) (cs:List Value) (a:Option Addr) (L:Nat) (e:Nat->Ex) (W:World):Prop where
 k:Blk W X 27 cs
 s:MSl W m A
 c:Ents W a L e
 t:Tabs W
 y:TyW W
 b:Tab W
theorem OldE.mono {m:Fm} {A:MA} {X:Nat} {cs:List Value} {a:Option Addr} {L:Nat} {e:Nat->Ex} {W W':World} (h:OldE m A X cs a L e W) (hb:Below W.heap.size W W'):OldE m A X cs a L e W':=⟨h.k.mono hb h.k.lt,h.s.mono hb,h.c.mono hb,h.t.mono hb,h.y.mono hb,h.b.mono hb⟩
theorem qbs (m:Fm) (A:MA) (L c:Nat) (a:Option Addr) (e:Nat->Ex) (r:Int) (z:ByteArray) (w:World) (hsp:∀ W A' a' c',MSl W m A'->Ents W a' L e->Calls Tryz.prog 6 #[mV m A',.slice a' L c',.int .i64 r] W fun x w'=>x=.returned (.string z)/\Below W.heap.size W w') (him:∀ W A' a' c',Caps m A'->MSl W m A'->Ents W a' L e->Tabs W->TyW W->Tab W->Calls Tryz.prog 9 #[mV m A',.slice a' L c',.int .i64 r] W fun x w'=>x=.returned (.string z)/\Below W.heap.size W w') (hf:FitM m) (hL:L<=9223372036854775807) (hfc:∀ k,k<L->FitE (e k)) (ha:MSl w m A) (hc:Ents w a L e) (ht:Tabs w) (hy:TyW w) (htb:Tab w) :
 Calls Tryz.prog 3 #[mV m A,.slice a L c,.int .i64 r] w fun x w'=>x=.returned (.bool true)/\Below w.heap.size w w':=by
 obtain ⟨al,alc,ap,apc,ar,arc,af,afc,afa⟩:=A
 have HCz:=h_ fun W (hs:MSl W m ⟨al,alc,ap,apc,ar,arc,af,afc,afa⟩)=>qd4 m ⟨al,alc,ap,apc,ar,arc,af,afc,afa⟩ 1048576 W hf (by omega) (by omega) hs
 have HCy:=h_ fun (l0:Int) W (h0:0<=l0) (h1:l0<=1048576) (hs:Ents W a L e)=>q4f a L c e l0 W h0 h1 hL hfc hs
 have HCt:=h_ fun W (hn:Sm m) (hs:MSl W m ⟨al,alc,ap,apc,ar,arc,af,afc,afa⟩)=>q9j m ⟨al,alc,ap,apc,ar,arc,af,afc,afa⟩ W hn hs
 have HCc:=h_ fun W (hn:L<=1048576) (hs:Ents W a L e)=>q4j a e L c W hs hn
 have HCs:=h_ hsp
 have HCi:=h_ him
 have HCe:=h_ fun W A1 A2 (hn:Sm m) (h1:MSl W m A1) (h2:MSl W m A2)=>q7l m A1 A2 W hn h1 h2
 have HCq:=h_ fun W (a1 a2:Option Addr) (c1 c2:Nat) (hn:L<=1048576) (h1:Ents W a1 L e) (h2:Ents W a2 L e)=>q2a a1 a2 e L c1 c2 W hn h1 h2
 clear hsp him hL hfc
 unfold mV at HCz HCt HCs HCi HCe ⊢
 dsimp only at HCz HCt ⊢
 have HK:=h_ (Blk.new w 27 #[.slice al m.L.length alc,.slice ap m.P.length apc,.slice ar m.R.length arc,.slice af m.F.length afc])
 have HB:=h_ ((bR w.heap.size w).alloc (nR _) (.cells #[.slice al m.L.length alc,.slice ap m.P.length apc,.slice ar m.R.length arc,.slice af m.F.length afc] 27))
 obtain ⟨W0,hW0⟩:∃ W0,w.alloc (.cells #[.slice al m.L.length alc,.slice ap m.P.length apc,.slice ar m.R.length arc,.slice af m.F.length afc] 27)=W0:=⟨_,rfl⟩
 rw [hW0] at HK HB
 have HO:Hid (OldE m ⟨al,alc,ap,apc,ar,arc,af,afc,afa⟩ w.heap.size [.slice al m.L.length alc,.slice ap m.P.length apc,.slice ar m.R.length arc,.slice af m.F.length afc] a L e W0):=h_ ⟨u_ HK,ha.mono (u_ HB),hc.mono (u_ HB),ht.mono (u_ HB),hy.mono (u_ HB),htb.mono (u_ HB)⟩
 clear ha ht hy hf htb hc HK
 obtain ⟨y0,y1,y2,y3⟩:=quad (u_ HO).k
 go_enter Tryz.func3,Tryz.ntmps3
 go_wp2_with fail
 try rw [hW0]
 refine (u_ HCz W0 (u_ HO).s).mono ?_
 rintro x W1 ⟨q,rfl,hq,hb⟩
 replace HO:=h_ ((u_ HO).mono hb);replace HB:=mT HB hb
 clear hW0 hb y0 y1 y2 y3
 by_cases hqq:q<0
 . clear hq
   go_wp2_with fail
   go_ret
   exact ⟨rfl,u_ HB⟩
 obtain ⟨hn,hq1⟩:=hq (by omega)
 have HN:=h_ hn
 have HC1:=h_ (u_ HCy q W1 (by omega) hq1 (u_ HO).c)
 clear hn hq
 go_wp2_with fail
 refine (u_ HC1).mono ?_
 rintro x W2 ⟨q2,rfl,hq,hqm,hb⟩
 replace HO:=h_ ((u_ HO).mono hb);replace HB:=mT HB hb
 clear hb HC1
 by_cases hqq2:q2<0
 . obtain rfl:=hqm hqq2
   clear hq hqm hqq2
   go_wp2_with fail
   go_ret
   exact ⟨rfl,u_ HB⟩
 have hL1:L<=1048576:=(hq (by omega)).2.1
 clear hq hqm
 obtain ⟨y0,y1,y2,y3⟩:=quad (u_ HO).k
 go_wp2_with fail
 refine (u_ HCt W2 (u_ HN) (u_ HO).s).mono ?_
 rintro x W3 ⟨A1,rfl,hs1,hc1,hb⟩
 replace HO:=h_ ((u_ HO).mono hb);replace HB:=mT HB hb
 have HS1:=h_ hs1
 clear hb y0 y1 y2 y3 hs1 hc1
 go_wp2_with fail
 refine (u_ HCc W3 hL1 (u_ HO).c).mono ?_
 rintro x W4 ⟨rfl,hcl,hb⟩
 replace HO:=h_ ((u_ HO).mono hb);replace HB:=mT HB hb
 have HC2:=h_ (u_ HCs W4 A1 (some ⟨W3.heap.size,0,none⟩) L ((u_ HS1).mono hb) hcl)
 clear hb hcl HS1 HCs
 go_wp2_with fail
 refine (u_ HC2).mono ?_
 rintro x W5 ⟨rfl,hb⟩
 replace HO:=h_ ((u_ HO).mono hb);replace HB:=mT HB hb
 clear hb HC2
 obtain ⟨y0,y1,y2,y3⟩:=quad (u_ HO).k
 go_wp2_with fail
 refine (u_ HCt W5 (u_ HN) (u_ HO).s).mono ?_
 rintro x W6 ⟨A2,rfl,hs2,hc2,hb⟩
 replace HO:=h_ ((u_ HO).mono hb);replace HB:=mT HB hb
 clear hb y0 y1 y2 y3
 obtain ⟨bl,blc,bp,bpc,br,brc,bf,bfc,bfa⟩:=A2
 dsimp only
 have HX:=h_ (Blk.new W6 36 #[.slice bl m.L.length blc,.slice bp m.P.length bpc,.slice br m.R.length brc,.slice bf m.F.length bfc])
 have hb:=(bR W6.heap.size W6).alloc (nR _) (.cells #[.slice bl m.L.length blc,.slice bp m.P.length bpc,.slice br m.R.length brc,.slice bf m.F.length bfc] 36)
 obtain ⟨W7,hW7⟩:∃ W7,W6.alloc (.cells #[.slice bl m.L.length blc,.slice bp m.P.length bpc,.slice br m.R.length brc,.slice bf m.F.length bfc] 36)=W7:=⟨_,rfl⟩
 obtain ⟨X,hX⟩:∃ X,W6.heap.size=X:=⟨_,rfl⟩
 rw [hW7] at hb HX
 rw [hX] at HX
 have HS2:=h_ (hs2.mono hb);have HCp:=h_ hc2
 replace HO:=h_ ((u_ HO).mono hb);replace HB:=mT HB hb
 clear hb hs2 hc2
 go_wp2_with fail
 try rw [hX]
 try rw [hW7]
 refine (u_ HCc W7 hL1 (u_ HO).c).mono ?_
 rintro x W8 ⟨rfl,hcl,hb⟩
 obtain ⟨Y,hY⟩:∃ Y,W7.heap.size=Y:=⟨_,rfl⟩
 rw [hY] at hcl ⊢
 replace HO:=h_ ((u_ HO).mono hb);replace HB:=mT HB hb
 replace HX:=mB HX hb;replace HS2:=h_ ((u_ HS2).mono hb)
 have HCl:=h_ hcl
 clear hb hW7 hX hY hcl
 obtain ⟨x0,x1,x2,x3⟩:=quad (u_ HX)
 have HC3:=h_ (u_ HCi W8 ⟨bl,blc,bp,bpc,br,brc,bf,bfc,bfa⟩ (some ⟨Y,0,none⟩) L (u_ HCp) (u_ HS2) (u_ HCl) (u_ HO).t (u_ HO).y (u_ HO).b)
 dsimp only at HC3
 clear HCi HCp
 go_wp2_with fail
 refine (u_ HC3).mono ?_
 rintro x W9 ⟨rfl,hb⟩
 replace HO:=h_ ((u_ HO).mono hb);replace HB:=mT HB hb
 replace HX:=mB HX hb;replace HS2:=h_ ((u_ HS2).mono hb);replace HCl:=h_ ((u_ HCl).mono hb)
 clear hb x0 x1 x2 x3 HC3
 have hzz:(z.toList == z.toList)=true:=by simp
 go_wp2_with fail
 clear hzz
 refine wp_region_held_drew (S:=fun w'=>Blk w' w.heap.size 27 [.slice al m.L.length alc,.slice ap m.P.length apc,.slice ar m.R.length arc,.slice af m.F.length afc]/\Blk w' X 36 [.slice bl m.L.length blc,.slice bp m.P.length bpc,.slice br m.R.length brc,.slice bf m.F.length bfc]) (by kernel_rfl) ⟨(u_ HO).k,u_ HX⟩ (fun zz=>?_)
 refine tk 0 39 (.agg #[.slice bl m.L.length blc,.slice bp m.P.length bpc,.slice br m.R.length brc,.slice bf m.F.length bfc]) zz ?_ (hy:=fun w hS=>by obtain ⟨-,h2⟩:=hS;obtain ⟨q0,q1,q2,q3⟩:=quad h2;simp [execOp,go_sem,q0,q1,q2,q3])
 refine tk 1 40 (.agg #[.slice al m.L.length alc,.slice ap m.P.length apc,.slice ar m.R.length arc,.slice af m.F.length afc]) zz ?_ (hy:=fun w hS=>by obtain ⟨h2,-⟩:=hS;obtain ⟨q0,q1,q2,q3⟩:=quad h2;simp [execOp,go_sem,q0,q1,q2,q3])
 simp only [sX,sY,sZ]
 have HDr:Hid (Below W9.heap.size W9 W9.drew):=h_ (bR _ _).drew
 refine callY (i:=2) (f:=7) (args:=#[.agg #[.slice al m.L.length alc,.slice ap m.P.length apc,.slice ar m.R.length arc,.slice af m.F.length afc]]) (R:=fun v wz=>∃ A3,v=mV m A3/\MSl wz m A3/\Below W9.heap.size W9 wz) 41 rfl rfl (by rfl) (by kernel_rfl) ?hrun1 ((u_ HCt W9.drew (u_ HN) ((u_ HO).s.mono (u_ HDr))).mono fun e w6 ⟨A3,he,hs,_,hb⟩=>⟨_,he,A3,rfl,hs,q26 hb⟩) ?_
 case hrun1=>simp [execOp,go_sem]
 rintro v W10 ⟨A3,rfl,hs3,hb⟩
 replace HO:=h_ ((u_ HO).mono hb);replace HB:=mT HB hb
 replace HX:=mB HX hb;replace HS2:=h_ ((u_ HS2).mono hb);replace HCl:=h_ ((u_ HCl).mono hb)
 replace zz:Blk W10 w.heap.size 27 [.slice al m.L.length alc,.slice ap m.P.length apc,.slice ar m.R.length arc,.slice af m.F.length afc]/\Blk W10 X 36 [.slice bl m.L.length blc,.slice bp m.P.length bpc,.slice br m.R.length brc,.slice bf m.F.length bfc]:=⟨(u_ HO).k,u_ HX⟩
 have HS3:=h_ hs3
 clear hb hs3 HDr
 refine ⟨zz,?_⟩
 unfold mV
 obtain ⟨dl,dlc,dp,dpc,dr,drc,df,dfc,dfa⟩:=A3
 dsimp only
 simp only [sX,sY,sZ]
 have HCe2:=h_ (u_ HCe W10 ⟨bl,blc,bp,bpc,br,brc,bf,bfc,bfa⟩ ⟨dl,dlc,dp,dpc,dr,drc,df,dfc,dfa⟩ (u_ HN) (u_ HS2) (u_ HS3))
 dsimp only at HCe2
 refine callY (i:=3) (f:=10) (args:=#[.agg #[.slice bl m.L.length blc,.slice bp m.P.length bpc,.slice br m.R.length brc,.slice bf m.F.length bfc],.agg #[.slice dl m.L.length dlc,.slice dp m.P.length dpc,.slice dr m.R.length drc,.slice df m.F.length dfc]]) (R:=fun v wz=>v=.bool true/\Below W10.heap.size W10 wz) 42 rfl rfl (by rfl) (by kernel_rfl) ?hrun2 ((u_ HCe2).mono fun e w6 ⟨he,hb⟩=>⟨_,he,rfl,hb⟩) ?_
 case hrun2=>simp [execOp,go_sem]
 rintro v W11 ⟨rfl,hb⟩
 replace HO:=h_ ((u_ HO).mono hb);replace HB:=mT HB hb
 replace HCl:=h_ ((u_ HCl).mono hb)
 replace zz:Blk W11 w.heap.size 27 [.slice al m.L.length alc,.slice ap m.P.length apc,.slice ar m.R.length arc,.slice af m.F.length afc]/\Blk W11 X 36 [.slice bl m.L.length blc,.slice bp m.P.length bpc,.slice br m.R.length brc,.slice bf m.F.length bfc]:=⟨zz.1.mono hb zz.1.lt,zz.2.mono hb zz.2.lt⟩
 clear hb HS2 HCe2 HS3 HX
 refine ⟨zz,?_⟩
 simp only [sX,sY,sZ]
 refine tk 4 43 (.bool false) zz ?_
 simp only [sX,sY,sZ]
 refine wpAnyH_done (by kernel_rfl) ?_ _
 clear zz
 go_wp2_with fail
 refine (u_ HCc W11 hL1 (u_ HO).c).mono ?_
 rintro x W12 ⟨rfl,hcl,hb⟩
 have HC9:=h_ (u_ HCq W12 (some ⟨Y,0,none⟩) (some ⟨W11.heap.size,0,none⟩) L L hL1 ((u_ HCl).mono hb) hcl)
 replace HB:=mT HB hb
 clear hb hcl
 go_wp2_with fail
 refine (u_ HC9).mono ?_
 rintro x W13 ⟨rfl,hb⟩
 replace HB:=mT HB hb
 clear hb HC9
 go_wp2_with fail
 go_ret
 exact ⟨rfl,u_ HB⟩
theorem q8k (m:Fm) (A:MA) (L c:Nat) (a:Option Addr) (e:Nat->Ex) (r:Int) (w:World) (hf:FitM m) (hL:L<=9223372036854775807) (hfc:∀ k,k<L->FitE (e k)) (ha:MSl w m A) (hc:Ents w a L e) (ht:Tabs w) (hy:TyW w) (htb:Tab w) :
 Calls Tryz.prog 3 #[mV m A,.slice a L c,.int .i64 r] w fun x w'=>x=.returned (.bool true)/\Below w.heap.size w w':=by
 have no:∀ (cs ci:Int),cs ≠ 0->(∀ W A',MSl W m A'->Calls Tryz.prog 40 #[mV m A'] W fun r w'=>∃ c a,r=.returned (dgV c a)/\c=cs/\Below W.heap.size W w')->(∀ W A',Caps m A'->MSl W m A'->Tabs W->TyW W->Tab W->Calls Tryz.prog 50 #[mV m A'] W fun r w'=>∃ S c a,r=.returned (.tuple #[sfV S,dgV c a])/\c ≠ 0/\Below W.heap.size W w')->Calls Tryz.prog 3 #[mV m A,.slice a L c,.int .i64 r] w fun x w'=>x=.returned (.bool true)/\Below w.heap.size w w':=fun cs _ hcs h1 h2 =>
  qbs m A L c a e r ⟨#[]⟩ w (fun W A' a' c' hs _=>q2y m A' (.slice a' L c') r W (fun W' hs'=>(q8g m A' W' (fun c _=>c=cs) (fun W2 hs2=>h1 W2 A' hs2) hs').mono fun x w' ⟨c,_,e,h,hb⟩=>⟨by rw [e,h,decide_eq_false hcs],hb⟩) hs) (fun W A' a' c' hcp hs _ k1 k2 k3=>q2c m A' (.slice a' L c') r W (fun W' hs' t1 t2 t3=>q98 m A' W' (fun W2 hs2 u1 u2 u3=>h2 W2 A' hcp hs2 u1 u2 u3) hs' t1 t2 t3) hs k1 k2 k3) hf hL hfc ha hc ht hy htb
 cases hq:vfB m
 . exact no 20 20 (by decide) (fun W A' hs=>(q6i m A' W (fun W' hs'=>q0f m A' W' hf hs') hq hs).mono fun r w' ⟨e,hb⟩=>⟨20,0,e,rfl,hb⟩) (fun W A' hcp hs k1 k2 k3=>(qcw m A' W hq hf hcp hs k1 k2 k3).mono fun r w' ⟨e,hb⟩=>⟨sf0,20,0,e,by decide,hb⟩)
 have hv:VfA m:=Classical.byContradiction fun hn=>by rw [qdj hn] at hq;cases hq
 rcases dich4 m.L.length m.P.length (pr1 m) (pr2 m) (by have:=hv.np;omega) with ⟨code,hcd,h1,h2⟩ | ⟨s,F,J,M,bot,top,-,⟨n,bt,tp,hLt⟩,h1,h2,h3⟩
 . exact no (10+code) 0 (by omega) (fun W A' hs=>(q6j m A' W code (fun W' hs'=>q0f m A' W' hf hs') hq hcd h1 hf hs).mono fun r w' ⟨e,hb⟩=>⟨10+code,0,e,rfl,hb⟩) (fun W A' hcp hs k1 k2 k3=>(qcx m A' W code hq hcd h2 hf hcp hs k1 k2 k3).mono fun r w' ⟨e,hb⟩=>⟨sf0,10+code,0,e,by omega,hb⟩)
 have hN:m.L.length=n:=by have:=hLt.hN;omega
 have spC:∀ W A',MSl W m A'->Calls Tryz.prog 40 #[mV m A'] W fun r w'=>∃ c a,r=.returned (dgV c a)/\ChkF m n F c a/\Below W.heap.size W w':=fun W A' hs=>q6h m A' W bot top s n bt tp F J M (fun W' hs'=>q0f m A' W' hf hs') hq hv h1 hLt hf hs
 by_cases hE:∃ c a,ChkF m n F c a
 . obtain ⟨c0,a0,hca⟩:=hE
   have hone:∀ {c' a'},ChkF m n F c' a'->c'=c0:=fun h=>(h.one (qj1 hLt) hca).1
   by_cases hc0:c0=0
   . subst hc0
     obtain ⟨f,s1,s2⟩:∃ f,Sol m n (fun a b=>F (a*n+b)=true) f/\Low m n (fun a b=>F (a*n+b)=true) f:=by
      rcases hca with ⟨z,-,-,h,-⟩ | ⟨-,f,z,s1,s2,-⟩
      . exact absurd h (by decide)
      . exact ⟨f,s1,s2⟩
     have spN:=fun W A' a' c' (hs:MSl W m A') (hc':Ents W a' L e)=>q4c m A' L c' a' e r W bot top s n bt tp F J M f (fun W' hs'=>(q8g m A' W' (ChkF m n F) (fun W2 hs2=>spC W2 A' hs2) hs').mono fun x w' ⟨c,_,e,h,hb⟩=>⟨by rw [e,hone h,decide_eq_true rfl],hb⟩) (fun W' hs'=>q0f m A' W' hf hs') hq hv h1 h3 hLt s1 s2 hf hL hfc hs hc'
     have imN:=fun W A' a' c' (hcp:Caps m A') (hs:MSl W m A') (hc':Ents W a' L e) k1 k2 k3=>q2d m A' n F f L c' a' e r W hv hN hLt.h32 s1 hL hfc (fun W' hs' t1 t2 t3=>q99 m A' n F f W' hv.nf (fun W2 hs2 u1 u2 u3=>(qcv m A' W2 bot top s n bt tp F J M hq hv h2 hLt hf hcp hs2 u1 u2 u3).mono fun x w' ⟨S,c,a,e,hk,hsn,hb⟩=>by
      obtain ⟨rfl,rfl⟩:=hk.one (qj1 hLt) hca
      obtain rfl:=qdv hk
      obtain ⟨g,g1,g2,hw⟩:=hsn rfl
      exact ⟨S,e,hw.congr (qbt (qj1 hLt) g1 s1 g2 s2),hb⟩) hs' t1 t2 t3) hs hc' k1 k2 k3
     exact qbs m A L c a e r ⟨(exA m n F f L e r).toArray⟩ w spN imN hf hL hfc ha hc ht hy htb
   . exact no c0 0 hc0 (fun W A' hs=>(spC W A' hs).mono fun r w' ⟨c,a,e,h,hb⟩=>⟨c,a,e,hone h,hb⟩) (fun W A' hcp hs k1 k2 k3=>(qcv m A' W bot top s n bt tp F J M hq hv h2 hLt hf hcp hs k1 k2 k3).mono fun r w' ⟨S,c,a,e,h,_,hb⟩=>⟨S,c,a,e,by rw [hone h];exact hc0,hb⟩)
 . exact no 1 0 (by decide) (fun W A' hs=>(spC W A' hs).mono fun r w' ⟨c,a,e,h,hb⟩=>absurd ⟨c,a,h⟩ hE) (fun W A' hcp hs k1 k2 k3=>(qcv m A' W bot top s n bt tp F J M hq hv h2 hLt hf hcp hs k1 k2 k3).mono fun r w' ⟨S,c,a,e,h,_,hb⟩=>absurd ⟨c,a,h⟩ hE)
end Go.Proofs.YtgkcaeidhkddjaaGreatDoor
