import Derived.Test.YtnhjjaminkhiiaaGreatDoorVGT2
set_option maxRecDepth 100000
set_option maxHeartbeats 20000000
namespace Go.Proofs.YtnhjjaminkhiiaaGreatDoor
open Go Go.RowKit
structure Rx where
 fd:Int
 v:Vx
 must:Bool
 code:Int
 sy:ByteArray
def rC (x:Rx):List Value:=[.int .i64 x.fd,.int .i64 x.v.k,.int .i64 x.v.n,.string x.v.s,.bool x.must,.int .i64 x.code,.string x.sy]
def rV (x:Rx):Value:=.agg (rC x).toArray
def rwM (m:Fm) (c:Cx) (k:Nat):Rx:=if c.v.k=4 then ⟨k,c.v,c.must,1,⟨#[]⟩⟩ else if c.ok=false then ⟨k,c.v,c.must,2,(fAt m k).sy⟩ else if c.must=true/\c.v.k=0 then ⟨k,c.v,c.must,3,⟨#[]⟩⟩ else ⟨k,c.v,c.must,0,⟨#[]⟩⟩
theorem seven' {w:World} {b:Nat} {t:TypeId} {v0 v1 v2 v3 v4 v5 v6:Value} (h:Blk w b t [v0,v1,v2,v3,v4,v5,v6]) :
 w.cell? ⟨b,0,none⟩=some v0/\w.cell? ⟨b,1,none⟩=some v1/\w.cell? ⟨b,2,none⟩=some v2/\w.cell? ⟨b,3,none⟩=some v3/\w.cell? ⟨b,4,none⟩=some v4/\w.cell? ⟨b,5,none⟩=some v5/\w.cell? ⟨b,6,none⟩=some v6 :=
 ⟨h.cell 0,h.cell 1,h.cell 2,h.cell 3,h.cell 4,h.cell 5,h.cell 6⟩
theorem qc9 (f0 f1 f2 f3:Value) (vk vn:Int) (vs:ByteArray) (rel ok must:Bool) (code:Int) (sy:ByteArray) (k:Nat) (w:World) :
 ∃ W0,((w.alloc (.cells #[f0,f1,f2,f3] 37)).alloc (.cells #[.int .i64 vk,.int .i64 vn,.string vs,.bool rel,.bool ok,.bool must] 70)).alloc (.cells #[.int .i64 0,.int .i64 0,.int .i64 0,.string ⟨#[]⟩,.bool false,.int .i64 0,.string ⟨#[]⟩] 83)=W0/\W0.heap.size=w.heap.size+3/\Below w.heap.size w W0/\Blk W0 w.heap.size 37 [f0,f1,f2,f3]/\(W0.cell? ⟨w.heap.size+1,0,none⟩=some (.int .i64 vk)/\W0.cell? ⟨w.heap.size+1,1,none⟩=some (.int .i64 vn)/\W0.cell? ⟨w.heap.size+1,2,none⟩=some (.string vs)/\W0.cell? ⟨w.heap.size+1,3,none⟩=some (.bool rel)/\W0.cell? ⟨w.heap.size+1,4,none⟩=some (.bool ok)/\W0.cell? ⟨w.heap.size+1,5,none⟩=some (.bool must))/\((W0.alloc (.cells #[.int .i64 k,.int .i64 vk,.int .i64 vn,.string vs,.bool must,.int .i64 0,.string ⟨#[]⟩] 83)).cell? ⟨w.heap.size+1,0,none⟩=some (.int .i64 vk)/\(W0.alloc (.cells #[.int .i64 k,.int .i64 vk,.int .i64 vn,.string vs,.bool must,.int .i64 0,.string ⟨#[]⟩] 83)).cell? ⟨w.heap.size+1,1,none⟩=some (.int .i64 vn)/\(W0.alloc (.cells #[.int .i64 k,.int .i64 vk,.int .i64 vn,.string vs,.bool must,.int .i64 0,.string ⟨#[]⟩] 83)).cell? ⟨w.heap.size+1,2,none⟩=some (.string vs)/\(W0.alloc (.cells #[.int .i64 k,.int .i64 vk,.int .i64 vn,.string vs,.bool must,.int .i64 0,.string ⟨#[]⟩] 83)).cell? ⟨w.heap.size+1,3,none⟩=some (.bool rel)/\(W0.alloc (.cells #[.int .i64 k,.int .i64 vk,.int .i64 vn,.string vs,.bool must,.int .i64 0,.string ⟨#[]⟩] 83)).cell? ⟨w.heap.size+1,4,none⟩=some (.bool ok)/\(W0.alloc (.cells #[.int .i64 k,.int .i64 vk,.int .i64 vn,.string vs,.bool must,.int .i64 0,.string ⟨#[]⟩] 83)).cell? ⟨w.heap.size+1,5,none⟩=some (.bool must))/\Hid (Blk (W0.alloc (.cells #[.int .i64 k,.int .i64 vk,.int .i64 vn,.string vs,.bool must,.int .i64 code,.string sy] 83)) (w.heap.size+1+1) 83 (#[.int .i64 0,.int .i64 0,.int .i64 0,.string ⟨#[]⟩,.bool false,.int .i64 0,.string ⟨#[]⟩]).toList)/\Hid (Blk ((W0.alloc (.cells #[.int .i64 k,.int .i64 vk,.int .i64 vn,.string vs,.bool must,.int .i64 code,.string sy] 83)).setRow (w.heap.size+1+1) #[.int .i64 k,.int .i64 vk,.int .i64 vn,.string vs,.bool must,.int .i64 code,.string sy]) (w.heap.size+1+1) 83 [.int .i64 k,.int .i64 vk,.int .i64 vn,.string vs,.bool must,.int .i64 code,.string sy])/\Hid (Below w.heap.size w ((W0.alloc (.cells #[.int .i64 k,.int .i64 vk,.int .i64 vn,.string vs,.bool must,.int .i64 code,.string sy] 83)).setRow (w.heap.size+1+1) #[.int .i64 k,.int .i64 vk,.int .i64 vn,.string vs,.bool must,.int .i64 code,.string sy]))/\((W0.alloc (.cells #[.int .i64 k,.int .i64 vk,.int .i64 vn,.string vs,.bool must,.int .i64 code,.string sy] 83)).cell? ⟨w.heap.size+3,0,none⟩=some (.int .i64 k)/\(W0.alloc (.cells #[.int .i64 k,.int .i64 vk,.int .i64 vn,.string vs,.bool must,.int .i64 code,.string sy] 83)).cell? ⟨w.heap.size+3,1,none⟩=some (.int .i64 vk)/\(W0.alloc (.cells #[.int .i64 k,.int .i64 vk,.int .i64 vn,.string vs,.bool must,.int .i64 code,.string sy] 83)).cell? ⟨w.heap.size+3,2,none⟩=some (.int .i64 vn)/\(W0.alloc (.cells #[.int .i64 k,.int .i64 vk,.int .i64 vn,.string vs,.bool must,.int .i64 code,.string sy] 83)).cell? ⟨w.heap.size+3,3,none⟩=some (.string vs)/\(W0.alloc (.cells #[.int .i64 k,.int .i64 vk,.int .i64 vn,.string vs,.bool must,.int .i64 code,.string sy] 83)).cell? ⟨w.heap.size+3,4,none⟩=some (.bool must)/\(W0.alloc (.cells #[.int .i64 k,.int .i64 vk,.int .i64 vn,.string vs,.bool must,.int .i64 code,.string sy] 83)).cell? ⟨w.heap.size+3,5,none⟩=some (.int .i64 code)/\(W0.alloc (.cells #[.int .i64 k,.int .i64 vk,.int .i64 vn,.string vs,.bool must,.int .i64 code,.string sy] 83)).cell? ⟨w.heap.size+3,6,none⟩=some (.string sy)):=by
 have hF:=((Blk.new w 37 #[f0,f1,f2,f3]).alloc (.cells #[.int .i64 vk,.int .i64 vn,.string vs,.bool rel,.bool ok,.bool must] 70)).alloc (.cells #[.int .i64 0,.int .i64 0,.int .i64 0,.string ⟨#[]⟩,.bool false,.int .i64 0,.string ⟨#[]⟩] 83)
 have hC:=(Blk.new (w.alloc (.cells #[f0,f1,f2,f3] 37)) 70 #[.int .i64 vk,.int .i64 vn,.string vs,.bool rel,.bool ok,.bool must]).alloc (.cells #[.int .i64 0,.int .i64 0,.int .i64 0,.string ⟨#[]⟩,.bool false,.int .i64 0,.string ⟨#[]⟩] 83)
 have hR:=Blk.new ((w.alloc (.cells #[f0,f1,f2,f3] 37)).alloc (.cells #[.int .i64 vk,.int .i64 vn,.string vs,.bool rel,.bool ok,.bool must] 70)) 83 #[.int .i64 0,.int .i64 0,.int .i64 0,.string ⟨#[]⟩,.bool false,.int .i64 0,.string ⟨#[]⟩]
 have hB:=(((bR w.heap.size w).alloc (nR _) (.cells #[f0,f1,f2,f3] 37)).alloc (by simp) (.cells #[.int .i64 vk,.int .i64 vn,.string vs,.bool rel,.bool ok,.bool must] 70)).alloc (by simp;omega) (.cells #[.int .i64 0,.int .i64 0,.int .i64 0,.string ⟨#[]⟩,.bool false,.int .i64 0,.string ⟨#[]⟩] 83)
 simp only [World.size_alloc] at hC hR
 obtain ⟨W0,hW0⟩:∃ W0,((w.alloc (.cells #[f0,f1,f2,f3] 37)).alloc (.cells #[.int .i64 vk,.int .i64 vn,.string vs,.bool rel,.bool ok,.bool must] 70)).alloc (.cells #[.int .i64 0,.int .i64 0,.int .i64 0,.string ⟨#[]⟩,.bool false,.int .i64 0,.string ⟨#[]⟩] 83)=W0:=⟨_,rfl⟩
 rw [hW0] at hF hC hR hB
 have hs0:W0.heap.size=w.heap.size+3:=by rw [<- hW0];simp
 have hbz:=(bR W0.heap.size W0).alloc (nR _) (.cells #[.int .i64 k,.int .i64 vk,.int .i64 vn,.string vs,.bool must,.int .i64 0,.string ⟨#[]⟩] 83)
 have hR1:=hR.alloc (.cells #[.int .i64 k,.int .i64 vk,.int .i64 vn,.string vs,.bool must,.int .i64 code,.string sy] 83)
 have hBw:=hB.alloc (by omega) (.cells #[.int .i64 k,.int .i64 vk,.int .i64 vn,.string vs,.bool must,.int .i64 code,.string sy] 83)
 have hx9:=Blk.new W0 83 #[.int .i64 k,.int .i64 vk,.int .i64 vn,.string vs,.bool must,.int .i64 code,.string sy]
 rw [hs0] at hx9
 exact ⟨W0,hW0,hs0,hB,hF,(six' hC).1,(six' (hC.mono hbz hC.lt)).1,h_ hR1,h_ (hR1.row (#[.int .i64 k,.int .i64 vk,.int .i64 vn,.string vs,.bool must,.int .i64 code,.string sy]).toList),h_ (hBw.trans ((qkc (lo:=w.heap.size) (hi:=w.heap.size+4) (g:=w.heap.size+1+1) _ #[.int .i64 k,.int .i64 vk,.int .i64 vn,.string vs,.bool must,.int .i64 code,.string sy] (by omega) (by omega)).below (nR _) hBw.size)),seven' hx9⟩
theorem qjj (m:Fm) (A:MA) (vn:Int) (vs:ByteArray) (rel:Bool) (ok:Bool) (must:Bool) (k:Nat) (w:World) (ha:MSl w m A) :
 Calls Tryz.prog 58 #[mV m A,.agg #[.int .i64 4,.int .i64 vn,.string vs,.bool rel,.bool ok,.bool must],.int .i64 k] w fun x w'=>x=.returned (.agg #[.int .i64 k,.int .i64 4,.int .i64 vn,.string vs,.bool must,.int .i64 1,.string ⟨#[]⟩])/\Below w.heap.size w w':=by
 obtain ⟨al,alc,ap,apc,ar,arc,af,afc,afa⟩:=A
 unfold mV
 dsimp only
 obtain ⟨W0,hW0,hs0,hB,hF,⟨d0,d1,d2,d3,d4,d5⟩,⟨e0,e1,e2,e3,e4,e5⟩,HRes0,HF,HB9,⟨p0,p1,p2,p3,p4,p5,p6⟩⟩:=qc9 (.slice al m.L.length alc) (.slice ap m.P.length apc) (.slice ar m.R.length arc) (.slice af m.F.length afc) 4 vn vs rel ok must 1 ⟨#[]⟩ k w
 clear hF hB ha
 go_enter Tryz.func58,Tryz.ntmps58
 go_wp2_with (first | (refine qae rfl 83 #[(0,.tmp 8),(1,.tmp 10),(2,.tmp 12),(3,.const (.int .i64 0)),(4,.const (.string ⟨#[]⟩))] rfl #[.int .i64 k,.int .i64 4,.int .i64 vn,.string vs,.bool must,.int .i64 0,.string ⟨#[]⟩] (by kernel_rfl) ?_) | (refine wpList_store_row rfl 83 (.tmp 6) (.tmp 39) rfl (w.heap.size+1+1) #[.int .i64 k,.int .i64 4,.int .i64 vn,.string vs,.bool must,.int .i64 1,.string ⟨#[]⟩] rfl rfl 83 #[.int .i64 0,.int .i64 0,.int .i64 0,.string ⟨#[]⟩,.bool false,.int .i64 0,.string ⟨#[]⟩] (u_ HRes0) (by kernel_rfl) rfl (by simp [Value.oneCell']) ?_))
 obtain ⟨k0,k1,k2,k3,k4,k5,k6⟩:=seven' (u_ HF)
 exact bodyPost_ret (v:=.agg #[.int .i64 k,.int .i64 4,.int .i64 vn,.string vs,.bool must,.int .i64 1,.string ⟨#[]⟩]) (by simp [results,Tryz.results58,go_sem,k0,k1,k2,k3,k4,k5,k6]) rfl ⟨rfl,u_ HB9⟩
theorem qjk (m:Fm) (A:MA) (vn:Int) (vs:ByteArray) (rel:Bool) (must:Bool) (vk:Int) (k:Nat) (w:World) (h4:¬ vk=4) (hk:k<m.F.length) (ha:MSl w m A) :
 Calls Tryz.prog 58 #[mV m A,.agg #[.int .i64 vk,.int .i64 vn,.string vs,.bool rel,.bool false,.bool must],.int .i64 k] w fun x w'=>x=.returned (.agg #[.int .i64 k,.int .i64 vk,.int .i64 vn,.string vs,.bool must,.int .i64 2,.string (fAt m k).sy])/\Below w.heap.size w w':=by
 obtain ⟨al,alc,ap,apc,ar,arc,af,afc,afa⟩:=A
 unfold mV
 dsimp only
 obtain ⟨W0,hW0,hs0,hB,hF,⟨d0,d1,d2,d3,d4,d5⟩,⟨e0,e1,e2,e3,e4,e5⟩,HRes0,HF,HB9,⟨p0,p1,p2,p3,p4,p5,p6⟩⟩:=qc9 (.slice al m.L.length alc) (.slice ap m.P.length apc) (.slice ar m.R.length arc) (.slice af m.F.length afc) vk vn vs rel false must 2 (fAt m k).sy k w
 have hS:=ha.mono hB
 have hbm:=(bR W0.heap.size W0).alloc (nR _) (.cells #[.int .i64 k,.int .i64 vk,.int .i64 vn,.string vs,.bool must,.int .i64 2,.string ⟨#[]⟩] 83)
 obtain ⟨fb,fo,ef,-,-⟩:=hS.f k hk
 dsimp only at ef
 subst ef
 have y3m:=(hF.mono hbm hF.lt).cell 3
 simp only [List.getElem?_cons_zero,List.getElem?_cons_succ] at y3m
 have z7m:(W0.alloc (.cells #[.int .i64 k,.int .i64 vk,.int .i64 vn,.string vs,.bool must,.int .i64 2,.string ⟨#[]⟩] 83)).cell? ⟨fb,fo+k*9+7,none⟩=some (.string (fAt m k).sy):=by
  obtain ⟨fb',fo',ef',hfc',-⟩:=(hS.mono hbm).f k hk
  cases ef'
  rw [qil hk]
  exact hfc'.2.2.2.2.2.2.2.2.1
 have hk':(k:Int)<m.F.length:=by omega
 have h4':(vk == 4)=false:=by simpa using h4
 clear h4
 clear hF hB hS hbm ha
 go_enter Tryz.func58,Tryz.ntmps58
 go_wp2_with (first | (refine qae rfl 83 #[(0,.tmp 8),(1,.tmp 10),(2,.tmp 12),(3,.const (.int .i64 0)),(4,.const (.string ⟨#[]⟩))] rfl #[.int .i64 k,.int .i64 vk,.int .i64 vn,.string vs,.bool must,.int .i64 0,.string ⟨#[]⟩] (by kernel_rfl) ?_) | (refine wpList_store_row rfl 83 (.tmp 6) (.tmp 39) rfl (w.heap.size+1+1) #[.int .i64 k,.int .i64 vk,.int .i64 vn,.string vs,.bool must,.int .i64 2,.string (fAt m k).sy] rfl rfl 83 #[.int .i64 0,.int .i64 0,.int .i64 0,.string ⟨#[]⟩,.bool false,.int .i64 0,.string ⟨#[]⟩] (u_ HRes0) (by kernel_rfl) rfl (by simp [Value.oneCell']) ?_))
 obtain ⟨k0,k1,k2,k3,k4,k5,k6⟩:=seven' (u_ HF)
 exact bodyPost_ret (v:=.agg #[.int .i64 k,.int .i64 vk,.int .i64 vn,.string vs,.bool must,.int .i64 2,.string (fAt m k).sy]) (by simp [results,Tryz.results58,go_sem,k0,k1,k2,k3,k4,k5,k6]) rfl ⟨rfl,u_ HB9⟩
theorem qjl (m:Fm) (A:MA) (vn:Int) (vs:ByteArray) (rel:Bool) (k:Nat) (w:World) (ha:MSl w m A) :
 Calls Tryz.prog 58 #[mV m A,.agg #[.int .i64 0,.int .i64 vn,.string vs,.bool rel,.bool true,.bool true],.int .i64 k] w fun x w'=>x=.returned (.agg #[.int .i64 k,.int .i64 0,.int .i64 vn,.string vs,.bool true,.int .i64 3,.string ⟨#[]⟩])/\Below w.heap.size w w':=by
 obtain ⟨al,alc,ap,apc,ar,arc,af,afc,afa⟩:=A
 unfold mV
 dsimp only
 obtain ⟨W0,hW0,hs0,hB,hF,⟨d0,d1,d2,d3,d4,d5⟩,⟨e0,e1,e2,e3,e4,e5⟩,HRes0,HF,HB9,⟨p0,p1,p2,p3,p4,p5,p6⟩⟩:=qc9 (.slice al m.L.length alc) (.slice ap m.P.length apc) (.slice ar m.R.length arc) (.slice af m.F.length afc) 0 vn vs rel true true 3 ⟨#[]⟩ k w
 clear hF hB ha
 go_enter Tryz.func58,Tryz.ntmps58
 go_wp2_with (first | (refine qae rfl 83 #[(0,.tmp 8),(1,.tmp 10),(2,.tmp 12),(3,.const (.int .i64 0)),(4,.const (.string ⟨#[]⟩))] rfl #[.int .i64 k,.int .i64 0,.int .i64 vn,.string vs,.bool true,.int .i64 0,.string ⟨#[]⟩] (by kernel_rfl) ?_) | (refine wpList_store_row rfl 83 (.tmp 6) (.tmp 39) rfl (w.heap.size+1+1) #[.int .i64 k,.int .i64 0,.int .i64 vn,.string vs,.bool true,.int .i64 3,.string ⟨#[]⟩] rfl rfl 83 #[.int .i64 0,.int .i64 0,.int .i64 0,.string ⟨#[]⟩,.bool false,.int .i64 0,.string ⟨#[]⟩] (u_ HRes0) (by kernel_rfl) rfl (by simp [Value.oneCell']) ?_))
 obtain ⟨k0,k1,k2,k3,k4,k5,k6⟩:=seven' (u_ HF)
 exact bodyPost_ret (v:=.agg #[.int .i64 k,.int .i64 0,.int .i64 vn,.string vs,.bool true,.int .i64 3,.string ⟨#[]⟩]) (by simp [results,Tryz.results58,go_sem,k0,k1,k2,k3,k4,k5,k6]) rfl ⟨rfl,u_ HB9⟩
theorem qjm (m:Fm) (A:MA) (vn:Int) (vs:ByteArray) (rel:Bool) (vk:Int) (k:Nat) (w:World) (h4:¬ vk=4) (ha:MSl w m A) :
 Calls Tryz.prog 58 #[mV m A,.agg #[.int .i64 vk,.int .i64 vn,.string vs,.bool rel,.bool true,.bool false],.int .i64 k] w fun x w'=>x=.returned (.agg #[.int .i64 k,.int .i64 vk,.int .i64 vn,.string vs,.bool false,.int .i64 0,.string ⟨#[]⟩])/\Below w.heap.size w w':=by
 obtain ⟨al,alc,ap,apc,ar,arc,af,afc,afa⟩:=A
 unfold mV
 dsimp only
 obtain ⟨W0,hW0,hs0,hB,hF,⟨d0,d1,d2,d3,d4,d5⟩,⟨e0,e1,e2,e3,e4,e5⟩,HRes0,HF,HB9,⟨p0,p1,p2,p3,p4,p5,p6⟩⟩:=qc9 (.slice al m.L.length alc) (.slice ap m.P.length apc) (.slice ar m.R.length arc) (.slice af m.F.length afc) vk vn vs rel true false 0 ⟨#[]⟩ k w
 have h4':(vk == 4)=false:=by simpa using h4
 clear h4
 clear hF hB ha
 go_enter Tryz.func58,Tryz.ntmps58
 go_wp2_with (first | (refine qae rfl 83 #[(0,.tmp 8),(1,.tmp 10),(2,.tmp 12),(3,.const (.int .i64 0)),(4,.const (.string ⟨#[]⟩))] rfl #[.int .i64 k,.int .i64 vk,.int .i64 vn,.string vs,.bool false,.int .i64 0,.string ⟨#[]⟩] (by kernel_rfl) ?_) | (refine wpList_store_row rfl 83 (.tmp 6) (.tmp 39) rfl (w.heap.size+1+1) #[.int .i64 k,.int .i64 vk,.int .i64 vn,.string vs,.bool false,.int .i64 0,.string ⟨#[]⟩] rfl rfl 83 #[.int .i64 0,.int .i64 0,.int .i64 0,.string ⟨#[]⟩,.bool false,.int .i64 0,.string ⟨#[]⟩] (u_ HRes0) (by kernel_rfl) rfl (by simp [Value.oneCell']) ?_))
 obtain ⟨k0,k1,k2,k3,k4,k5,k6⟩:=seven' (u_ HF)
 exact bodyPost_ret (v:=.agg #[.int .i64 k,.int .i64 vk,.int .i64 vn,.string vs,.bool false,.int .i64 0,.string ⟨#[]⟩]) (by simp [results,Tryz.results58,go_sem,k0,k1,k2,k3,k4,k5,k6]) rfl ⟨rfl,u_ HB9⟩
theorem qjn (m:Fm) (A:MA) (vn:Int) (vs:ByteArray) (rel:Bool) (vk:Int) (k:Nat) (w:World) (h4:¬ vk=4) (h0:¬ vk=0) (ha:MSl w m A) :
 Calls Tryz.prog 58 #[mV m A,.agg #[.int .i64 vk,.int .i64 vn,.string vs,.bool rel,.bool true,.bool true],.int .i64 k] w fun x w'=>x=.returned (.agg #[.int .i64 k,.int .i64 vk,.int .i64 vn,.string vs,.bool true,.int .i64 0,.string ⟨#[]⟩])/\Below w.heap.size w w':=by
 obtain ⟨al,alc,ap,apc,ar,arc,af,afc,afa⟩:=A
 unfold mV
 dsimp only
 obtain ⟨W0,hW0,hs0,hB,hF,⟨d0,d1,d2,d3,d4,d5⟩,⟨e0,e1,e2,e3,e4,e5⟩,HRes0,HF,HB9,⟨p0,p1,p2,p3,p4,p5,p6⟩⟩:=qc9 (.slice al m.L.length alc) (.slice ap m.P.length apc) (.slice ar m.R.length arc) (.slice af m.F.length afc) vk vn vs rel true true 0 ⟨#[]⟩ k w
 have h4':(vk == 4)=false:=by simpa using h4
 have h0':(vk == 0)=false:=by simpa using h0
 clear h4 h0
 clear hF hB ha
 go_enter Tryz.func58,Tryz.ntmps58
 go_wp2_with (first | (refine qae rfl 83 #[(0,.tmp 8),(1,.tmp 10),(2,.tmp 12),(3,.const (.int .i64 0)),(4,.const (.string ⟨#[]⟩))] rfl #[.int .i64 k,.int .i64 vk,.int .i64 vn,.string vs,.bool true,.int .i64 0,.string ⟨#[]⟩] (by kernel_rfl) ?_) | (refine wpList_store_row rfl 83 (.tmp 6) (.tmp 39) rfl (w.heap.size+1+1) #[.int .i64 k,.int .i64 vk,.int .i64 vn,.string vs,.bool true,.int .i64 0,.string ⟨#[]⟩] rfl rfl 83 #[.int .i64 0,.int .i64 0,.int .i64 0,.string ⟨#[]⟩,.bool false,.int .i64 0,.string ⟨#[]⟩] (u_ HRes0) (by kernel_rfl) rfl (by simp [Value.oneCell']) ?_))
 obtain ⟨k0,k1,k2,k3,k4,k5,k6⟩:=seven' (u_ HF)
 exact bodyPost_ret (v:=.agg #[.int .i64 k,.int .i64 vk,.int .i64 vn,.string vs,.bool true,.int .i64 0,.string ⟨#[]⟩]) (by simp [results,Tryz.results58,go_sem,k0,k1,k2,k3,k4,k5,k6]) rfl ⟨rfl,u_ HB9⟩
theorem qc8 (m:Fm) (A:MA) (c:Cx) (k:Nat) (w:World) (hk:k<m.F.length) (ha:MSl w m A) :
 Calls Tryz.prog 58 #[mV m A,cv c,.int .i64 k] w fun x w'=>x=.returned (rV (rwM m c k))/\Below w.heap.size w w':=by
 obtain ⟨⟨vk,vn,vs⟩,rel,ok,must⟩:=c
 unfold cv rwM
 dsimp only
 by_cases h4:vk=4
 . subst h4
   rw [if_pos rfl]
   exact qjj m A vn vs rel ok must k w ha
 rw [if_neg h4]
 cases ok
 . rw [if_pos rfl]
   exact qjk m A vn vs rel must vk k w h4 hk ha
 rw [if_neg (by decide)]
 cases must
 . rw [if_neg (fun h=>absurd h.1 (by decide))]
   exact qjm m A vn vs rel vk k w h4 ha
 by_cases h0:vk=0
 . subst h0
   rw [if_pos ⟨rfl,rfl⟩]
   exact qjl m A vn vs rel k w ha
 . rw [if_neg (fun h=>h0 h.2)]
   exact qjn m A vn vs rel vk k w h4 h0 ha
def vwL (m:Fm) (e:Nat->Cx) (g:Nat->Bool) (k:Nat):List Rx:=((List.range k).filter fun j=>(e j).rel&&g j).map fun j=>rwM m (e j) j
def rowsV (l:List Rx):List Value:=l.flatMap rC
theorem qhi (m:Fm) (e:Nat->Cx) (g:Nat->Bool) (k:Nat):vwL m e g (k+1)=vwL m e g k++if ((e k).rel&&g k)=true then [rwM m (e k) k] else []:=by
 unfold vwL
 rw [List.range_succ,List.filter_append,List.map_append]
 cases h:((e k).rel&&g k) <;> simp [h]
theorem qlp (m:Fm) (e:Nat->Cx) (g:Nat->Bool) (k:Nat):(vwL m e g k).length<=k:=by
 unfold vwL
 rw [List.length_map]
 exact Nat.le_trans (List.length_filter_le _ _) (by simp)
theorem rC_len (x:Rx):(rC x).length=7:=rfl
theorem qf5:(Tryz.prog.info? 83).map (fun i=>(i.zero,i.size,i.bytes))=some (some (.agg #[.int .i64 0,.int .i64 0,.int .i64 0,.string ⟨#[]⟩,.bool false,.int .i64 0,.string ⟨#[]⟩]),7,72):=by kernel_rfl
abbrev OwnR (w:World) (base:Nat) (v:Value) (l:List Rx):Prop:=w.ownsRow base 83 7 v l.length (rowsV l)
theorem q98 {w:World} {base base' n size:Nat} {e:TypeId} {v:Value} {xs:List Value} (h:w.ownsRow base e size v n xs) (hb:base'<=base):w.ownsRow base' e size v n xs:=by
 refine ⟨h.1,?_⟩
 rcases h.2 with h2 | ⟨g,cap,cur,h1,hg,r⟩
 . exact .inl h2
 . exact .inr ⟨g,cap,cur,h1,Nat.le_trans hb hg,r⟩
theorem q99 (w:World) (t:TypeId):(w.alloc (.cells #[] t)).ownsRow w.heap.size t 7 (.slice (some ⟨w.heap.size,0,none⟩) 0 0) 0 [] :=
 ⟨rfl,.inr ⟨w.heap.size,0,#[],rfl,nR _,heap_alloc_new w (.cells #[] t),nR _,nZ _,rfl,rfl⟩⟩
theorem q8p (m:Fm) (A:MA) (c c0:Nat) (a a0:Option Addr) (e:Nat->Cx) (g:Nat->Bool) (w:World) (hnf:m.F.length<=200) (ha:MSl w m A) (hc:Cels w a m.F.length e) (hs:Bools w a0 m.F.length g) :
 Calls Tryz.prog 27 #[mV m A,.slice a m.F.length c,.slice a0 m.F.length c0] w fun x w'=>∃ v,x=.returned v/\OwnR w' w.heap.size v (vwL m e g m.F.length)/\Below w.heap.size w w':=by
 have HCr:=h_ fun j W (hj:j<m.F.length) (h:MSl W m A)=>qc8 m A (e j) j W hj h
 obtain ⟨al,alc,ap,apc,ar,arc,af,afc,afa⟩:=A
 unfold mV at HCr ⊢
 dsimp only at HCr ⊢
 have HK:=h_ ((Blk.new w 37 #[.slice al m.L.length alc,.slice ap m.P.length apc,.slice ar m.R.length arc,.slice af m.F.length afc]).alloc (.cells #[] 83))
 have HB:=h_ (((bR w.heap.size w).alloc (nR _) (.cells #[.slice al m.L.length alc,.slice ap m.P.length apc,.slice ar m.R.length arc,.slice af m.F.length afc] 37)).alloc (by simp) (.cells #[] 83))
 have HO:=h_ (q99 (w.alloc (.cells #[.slice al m.L.length alc,.slice ap m.P.length apc,.slice ar m.R.length arc,.slice af m.F.length afc] 37)) 83)
 rw [World.size_alloc] at HO
 obtain ⟨W0,hW0⟩:∃ W0,(w.alloc (.cells #[.slice al m.L.length alc,.slice ap m.P.length apc,.slice ar m.R.length arc,.slice af m.F.length afc] 37)).alloc (.cells #[] 83)=W0:=⟨_,rfl⟩
 have hsz:W0.heap.size=w.heap.size+1+1:=by rw [<- hW0];simp
 rw [hW0] at HK HB HO
 have HS:=h_ ha;have HC:=h_ hc;have HSe:=h_ hs
 clear ha hc hs
 obtain ⟨y0,y1,y2,y3⟩:=quad (u_ HK)
 go_enter Tryz.func27,Tryz.ntmps27
 go_wp2_with fail
 try rw [hW0]
 clear hW0 y0 y1 y2 y3
 go_loopw [7,8] (fun v i wr=>∃ k:Nat,k<=m.F.length/\i=.int .i64 k/\OwnR wr (w.heap.size+1) v (vwL m e g k)/\Below (w.heap.size+1) W0 wr) (fun _ i _=>m.F.length - (intOf i).toNat)
 case atStart=>exact ⟨0,nZ _,rfl,u_ HO,bR _ _⟩
 case round =>
  clear HO
  obtain ⟨k,hk,rfl,hO,hb⟩:=hrel
  have hbw:=(u_ HB).trans (hb.mono (by omega))
  have hws:w.heap.size+1+1<=wr.heap.size:=by have:=hb.size;omega
  have HKr:=h_ ((u_ HK).mono hb (by omega));have HSr:=h_ ((u_ HS).mono hbw)
  have HBr:=h_ hb;have HBw:=h_ hbw;have HO:=h_ hO
  have hTl:=qlp m e g k
  obtain ⟨y0,y1,y2,y3⟩:=quad (u_ HKr)
  by_cases hlt:k<m.F.length
  . have hlt':(k:Int)<m.F.length:=by omega
    obtain ⟨cb,co,ec,hcc⟩:=((u_ HC).mono hbw) k hlt
    obtain ⟨sb,so,es,-,z4⟩:=((u_ HSe).mono hbw) k hlt
    have z3:=hcc.2.2.2.2.1
    have HCc:=h_ hcc
    subst ec
    subst es
    clear hb hbw hO hcc
    have HQ0:Hid True:=h_ trivial
    cases hre:(e k).rel
    . rw [hre] at z3
      have HO2:Hid (OwnR wr (w.heap.size+1) u7 (vwL m e g (k+1))):=h_ (by rw [qhi,hre,Bool.false_and,if_neg (by decide),List.append_nil];exact u_ HO)
      clear HQ0
      go_wp2_with fail
      go_roundw
      case rel=>first | exact ⟨k+1,by omega,by go_num,u_ HO2,u_ HBr⟩ | ((repeat apply Exists.intro);exact ⟨⟨k+1,by omega,by go_num,u_ HO2,u_ HBr⟩,rfl⟩)
      case measure=>simp [intOf];omega
    rw [hre] at z3
    cases hge:g k
    . rw [hge] at z4
      have HO2:Hid (OwnR wr (w.heap.size+1) u7 (vwL m e g (k+1))):=h_ (by rw [qhi,hre,hge,Bool.and_false,if_neg (by decide),List.append_nil];exact u_ HO)
      clear HQ0
      go_wp2_with fail
      go_roundw
      case rel=>first | exact ⟨k+1,by omega,by go_num,u_ HO2,u_ HBr⟩ | ((repeat apply Exists.intro);exact ⟨⟨k+1,by omega,by go_num,u_ HO2,u_ HBr⟩,rfl⟩)
      case measure=>simp [intOf];omega
    rw [hge] at z4
    have HT:Hid (vwL m e g (k+1)=vwL m e g k++[rwM m (e k) k]):=h_ (by rw [qhi,hre,hge];rfl)
    have HCv:=h_ (u_ HCr k wr.drew hlt ((u_ HSr).mono (bR _ _).drew))
    clear hre hge
    obtain ⟨y,hy⟩:∃ y,e k=y:=⟨_,rfl⟩
    rw [hy] at HCc HCv HT
    have HYe:=h_ hy
    obtain ⟨x,hx⟩:∃ x,rwM m y k=x:=⟨_,rfl⟩
    rw [hx] at HCv HT
    clear hx hy
    unfold cv at HCv
    go_wp2_with fail
    clear y0 y1 y2 y3 z3 z4
    obtain ⟨i0,hi,hz0,hz1,hz2⟩:=info_parts qf5
    refine wp_region_held_drew (S:=fun w'=>Blk w' w.heap.size 37 [.slice al m.L.length alc,.slice ap m.P.length apc,.slice ar m.R.length arc,.slice af m.F.length afc]/\CCel w' cb (co+k*6) y) (by kernel_rfl) ⟨u_ HKr,(u_ HCc).mono (bR _ _).drew⟩ (fun zz=>?_)
    refine tk 0 28 u7 zz ?_
    refine tk 1 29 (.agg #[.slice al m.L.length alc,.slice ap m.P.length apc,.slice ar m.R.length arc,.slice af m.F.length afc]) zz ?_ (hy:=fun w hS=>by obtain ⟨q0,q1,q2,q3⟩:=quad hS.1;simp [execOp,go_sem,q0,q1,q2,q3])
    refine tk 2 30 (.slice (some ⟨cb,co,none⟩) m.F.length c) zz ?_
    refine tk 3 31 (.int .i64 k) zz ?_
    simp only [sX,sY,sZ]
    refine tk 4 32 (.pointer (some ⟨cb,co+k*6,none⟩)) zz ?_
    refine tk 5 33 (.agg #[.int .i64 y.v.k,.int .i64 y.v.n,.string y.v.s,.bool y.rel,.bool y.ok,.bool y.must]) zz ?_ (hy:=fun w hS=>by obtain ⟨-,q0,q1,q2,q3,q4,q5⟩:=hS.2;simp [execOp,go_sem,q0,q1,q2,q3,q4,q5])
    refine tk 6 34 (.int .i64 k) zz ?_
    simp only [sX,sY,sZ]
    refine callY (i:=7) (f:=58) (args:=#[.agg #[.slice al m.L.length alc,.slice ap m.P.length apc,.slice ar m.R.length arc,.slice af m.F.length afc],.agg #[.int .i64 y.v.k,.int .i64 y.v.n,.string y.v.s,.bool y.rel,.bool y.ok,.bool y.must],.int .i64 k]) (R:=fun v wz=>v=rV x/\Below wr.heap.size wr wz) 35 rfl rfl (by rfl) (by kernel_rfl) (by simp [execOp,go_sem]) ((u_ HCv).mono fun e w6 ⟨he,hb⟩=>⟨_,he,rfl,q29 hb⟩) ?_
    rintro v W7 ⟨rfl,hb⟩
    have hK7:=(u_ HKr).mono hb (u_ HKr).lt
    have hC7:=(u_ HCc).mono hb
    have hO7:=qct (u_ HO) hb
    have hB7:=(u_ HBr).trans (hb.mono (by omega))
    have hw7:w.heap.size+1<=W7.heap.size:=by have:=hb.size;omega
    refine ⟨⟨hK7,hC7⟩,?_⟩
    simp only [sX,sY,sZ]
    have hba:=(bR W7.heap.size W7).alloc (nR _) (.cells (rC x).toArray 83)
    have hN:=Blk.new W7 83 (rC x).toArray
    refine runY (i:=8) (v:=.slice (some ⟨W7.heap.size,0,none⟩) 1 1) (w':=W7.alloc (.cells (rC x).toArray 83)) 36 rfl rfl (by rfl) (by kernel_rfl) (by simp [execOp,go_sem,rV,rC]) ⟨hK7.mono hba hK7.lt,hC7.mono hba⟩ ?_
    simp only [sX,sY,sZ]
    refine appY (i:=9) 37 rfl rfl rfl (by kernel_rfl) (.tmp 28) (.tmp 36) 31 rfl (w.heap.size+1) 83 i0 _ 7 72 Tryz.underlying31 hi hz0 hz1 hz2 rfl (by omega) u7 (vwL m e g k).length (rowsV (vwL m e g k)) rfl (hO7.alloc _) ⟨W7.heap.size,0,none⟩ 1 1 (rC x) rfl rfl (fun j v hj=>by rw [show (⟨W7.heap.size,0,none⟩:Addr).add j=⟨W7.heap.size,j,none⟩ by simp [Addr.add];try exact fun h=>h.symm,hN.cell j];simpa using hj) (by simp [rC,Value.oneCell']) (by omega) (by unfold maxLen;omega) (by omega) (Nat.le_trans hw7 hba.size) _ rfl ?_
    intro q cap W9 ho hgr _ _
    have hB9:=(hB7.trans (hba.mono hw7)).grown hgr (Nat.le_trans hw7 hba.size) (fun q e=>q97 (u_ HO) e)
    have HO9:Hid (OwnR W9 (w.heap.size+1) (.slice (some ⟨q,0,none⟩) ((vwL m e g k).length+1) cap) (vwL m e g (k+1))):=h_ (by
     rw [u_ HT]
     unfold OwnR rowsV
     rw [List.flatMap_append,List.length_append]
     simpa [rowsV] using ho)
    have HB9:=h_ hB9
    have hHeld9:Blk W9 w.heap.size 37 [.slice al m.L.length alc,.slice ap m.P.length apc,.slice ar m.R.length arc,.slice af m.F.length afc]/\CCel W9 cb (co+k*6) y:=⟨(u_ HK).mono hB9 (by omega),by
     obtain ⟨b',o',e',h'⟩:=((u_ HC).mono ((u_ HB).trans (hB9.mono (by omega)))) k hlt
     cases e'
     rw [<- u_ HYe]
     exact h'⟩
    clear ho hgr hB9 hba hN hO7 hB7 hK7 hC7 hb hi hz0 hz1 hz2
    refine ⟨hHeld9,?_⟩
    replace zz:=hHeld9
    clear hHeld9
    simp only [sX,sY,sZ]
    refine tk 10 7 (.slice (some ⟨q,0,none⟩) ((vwL m e g k).length+1) cap) zz ?_
    simp only [sX,sY,sZ]
    refine wpAnyH_done (by kernel_rfl) ?_ _
    clear zz
    go_wp2_with fail
    go_roundw
    case rel=>first | exact ⟨k+1,by omega,by go_num,u_ HO9,u_ HB9⟩ | ((repeat apply Exists.intro);exact ⟨⟨k+1,by omega,by go_num,u_ HO9,u_ HB9⟩,rfl⟩)
    case measure=>simp [intOf];omega
  . obtain rfl:k=m.F.length:=by omega
    have hlt':¬ (m.F.length:Int)<(m.F.length:Int):=by omega
    have HO9:=h_ (q98 (u_ HO) (Nat.le_succ _))
    clear hb hbw hO
    go_wp2_with fail
    go_ret
    exact ⟨_,rfl,u_ HO9,u_ HBw⟩
def vwA (m:Fm) (n:Nat) (F:Nat->Bool) (f:Nat->Nat) (L:Nat) (e:Nat->Cx) (r:Int):List Rx:=if celsOk m L e=true/\(0<=r/\r<m.R.length) then vwL m e (seesB m n F f r.toNat) m.F.length else []
theorem q6t (m:Fm) (A:MA) (v:Value) (r:Int) (w:World) (hS:∀ W,MSl W m A->Calls Tryz.prog 25 #[mV m A] W fun x w'=>x=.returned (.bool false)/\Below W.heap.size W w') (ha:MSl w m A) :
 Calls Tryz.prog 7 #[mV m A,v,.int .i64 r] w fun x w'=>∃ u,x=.returned u/\OwnR w' w.heap.size u []/\Below w.heap.size w w':=by
 have HC0:=h_ hS
 obtain ⟨al,alc,ap,apc,ar,arc,af,afc,afa⟩:=A
 unfold mV at HC0 ⊢
 dsimp only at HC0 ⊢
 have HK:=h_ (Blk.new w 37 #[.slice al m.L.length alc,.slice ap m.P.length apc,.slice ar m.R.length arc,.slice af m.F.length afc])
 have HB:=h_ ((bR w.heap.size w).alloc (nR _) (.cells #[.slice al m.L.length alc,.slice ap m.P.length apc,.slice ar m.R.length arc,.slice af m.F.length afc] 37))
 obtain ⟨W0,hW0⟩:∃ W0,w.alloc (.cells #[.slice al m.L.length alc,.slice ap m.P.length apc,.slice ar m.R.length arc,.slice af m.F.length afc] 37)=W0:=⟨_,rfl⟩
 rw [hW0] at HK HB
 have HC:=h_ (u_ HC0 W0 (ha.mono (u_ HB)))
 obtain ⟨y0,y1,y2,y3⟩:=quad (u_ HK)
 clear ha hS HC0
 go_enter Tryz.func7,Tryz.ntmps7
 go_wp2_with fail
 try rw [hW0]
 refine (u_ HC).mono ?_
 rintro x W1 ⟨rfl,hb⟩
 replace HB:=mT HB hb
 clear hb hW0 y0 y1 y2 y3
 have HO9:=h_ (q98 (q99 W1 83) (u_ HB).size)
 have HB9:=h_ ((u_ HB).alloc (u_ HB).size (.cells #[] 83))
 go_wp2_with fail
 go_ret
 exact ⟨_,rfl,u_ HO9,u_ HB9⟩
theorem q9n (m:Fm) (A:MA) (L c:Nat) (a:Option Addr) (e:Nat->Cx) (r:Int) (w:World) (bot top:Int) (s n bt tp:Nat) (F:Nat->Bool) (J M:Nat->Int) (f:Nat->Nat) (hS:∀ W,MSl W m A->Calls Tryz.prog 25 #[mV m A] W fun x w'=>x=.returned (.bool true)/\Below W.heap.size W w') (hV:∀ W,MSl W m A->Calls Tryz.prog 83 #[mV m A] W fun r w'=>r=.returned (.bool (vfB m))/\Below W.heap.size W w') (hq:vfB m=true) (hv:VfA m) (hz:SpecF m.L.length m.P.length (pr1 m) (pr2 m) s F J M bot top) (hcl:SpecC m.L.length m.P.length (pr1 m) (pr2 m) s F) (hL:ValidP m.L.length s s s F J M bot top n bt tp) (s1:Sol m n (fun a b=>F (a*n+b)=true) f) (s2:Low m n (fun a b=>F (a*n+b)=true) f) (hf:FitM m) (hLl:L<=9223372036854775807) (hsz:∀ k,k<L->(e k).v.s.size<=9223372036854775807) (ha:MSl w m A) (hc:Cels w a L e) :
 Calls Tryz.prog 7 #[mV m A,.slice a L c,.int .i64 r] w fun x w'=>∃ u,x=.returned u/\OwnR w' w.heap.size u (vwA m n F f L e r)/\Below w.heap.size w w':=by
 have HCs:=h_ hS
 have HCc:=h_ fun W (h:Cels W a L e)=>q5u m A L c a e W hf hLl hsz h
 have HCv:=h_ fun (rn:Nat) W (hr:rn<m.R.length) (hs:MSl W m A)=>qfe m A rn W bot top s n bt tp F J M hV hq hv hz hcl hL hf hr hs
 have hnf:=hv.nf
 have HCg:=h_ fun (c0:Nat) (a0:Option Addr) (g:Nat->Bool) W (hs:MSl W m A) (h1:Cels W a m.F.length e) (h2:Bools W a0 m.F.length g)=>q8p m A c c0 a a0 e g W hnf hs h1 h2
 have HLo:=h_ fun g (g1:Sol m n (fun a b=>F (a*n+b)=true) g) (g2:Low m n (fun a b=>F (a*n+b)=true) g)=>qcb (qjp hL) g1 s1 g2 s2
 obtain ⟨al,alc,ap,apc,ar,arc,af,afc,afa⟩:=A
 unfold mV at HCs HCc HCv HCg ⊢
 dsimp only at HCs HCc HCv HCg ⊢
 have HK:=h_ (Blk.new w 37 #[.slice al m.L.length alc,.slice ap m.P.length apc,.slice ar m.R.length arc,.slice af m.F.length afc])
 have HB:=h_ ((bR w.heap.size w).alloc (nR _) (.cells #[.slice al m.L.length alc,.slice ap m.P.length apc,.slice ar m.R.length arc,.slice af m.F.length afc] 37))
 obtain ⟨W0,hW0⟩:∃ W0,w.alloc (.cells #[.slice al m.L.length alc,.slice ap m.P.length apc,.slice ar m.R.length arc,.slice af m.F.length afc] 37)=W0:=⟨_,rfl⟩
 rw [hW0] at HK HB
 have HS:=h_ (ha.mono (u_ HB));have HC:=h_ (hc.mono (u_ HB))
 have HC1:=h_ (u_ HCs W0 (u_ HS))
 clear ha hc hS hV hq hv hz hcl hL s1 s2 hf hLl hsz
 obtain ⟨y0,y1,y2,y3⟩:=quad (u_ HK)
 go_enter Tryz.func7,Tryz.ntmps7
 go_wp2_with fail
 try rw [hW0]
 refine (u_ HC1).mono ?_
 rintro x W1 ⟨rfl,hb⟩
 replace HK:=mB HK hb;replace HS:=h_ ((u_ HS).mono hb);replace HC:=h_ ((u_ HC).mono hb);replace HB:=mT HB hb
 have HC2:=h_ (u_ HCc W1 (u_ HC))
 clear hb hW0 y0 y1 y2 y3 HCs HC1 HCc
 obtain ⟨y0,y1,y2,y3⟩:=quad (u_ HK)
 go_wp2_with fail
 refine (u_ HC2).mono ?_
 rintro x W2 ⟨rfl,hb⟩
 replace HK:=mB HK hb;replace HS:=h_ ((u_ HS).mono hb);replace HC:=h_ ((u_ HC).mono hb);replace HB:=mT HB hb
 clear hb y0 y1 y2 y3 HC2
 obtain ⟨y0,y1,y2,y3⟩:=quad (u_ HK)
 cases hok:celsOk m L e
 . have HN:Hid (vwA m n F f L e r=[]):=h_ (by unfold vwA;rw [if_neg (fun h=>by rw [hok] at h;exact absurd h.1 (by decide))])
   have HO9:=h_ (q98 (q99 W2 83) (u_ HB).size)
   have HB9:=h_ ((u_ HB).alloc (u_ HB).size (.cells #[] 83))
   go_wp2_with fail
   go_ret
   exact ⟨_,rfl,by rw [u_ HN];exact u_ HO9,u_ HB9⟩
 by_cases hr0:r<0
 . have HN:Hid (vwA m n F f L e r=[]):=h_ (by unfold vwA;rw [if_neg (fun h=>by have:=h.2;omega)])
   have HO9:=h_ (q98 (q99 W2 83) (u_ HB).size)
   have HB9:=h_ ((u_ HB).alloc (u_ HB).size (.cells #[] 83))
   go_wp2_with fail
   go_ret
   exact ⟨_,rfl,by rw [u_ HN];exact u_ HO9,u_ HB9⟩
 by_cases hr1:(m.R.length:Int)<=r
 . have HN:Hid (vwA m n F f L e r=[]):=h_ (by unfold vwA;rw [if_neg (fun h=>by have:=h.2;omega)])
   have HO9:=h_ (q98 (q99 W2 83) (u_ HB).size)
   have HB9:=h_ ((u_ HB).alloc (u_ HB).size (.cells #[] 83))
   go_wp2_with fail
   go_ret
   exact ⟨_,rfl,by rw [u_ HN];exact u_ HO9,u_ HB9⟩
 obtain ⟨rn,rfl⟩:∃ rn:Nat,r=rn:=⟨r.toNat,by omega⟩
 have hrn:rn<m.R.length:=by omega
 have hLe:L=m.F.length:=(qay hok).1
 subst hLe
 have HN:Hid (vwA m n F f m.F.length e rn=vwL m e (seesB m n F f rn) m.F.length):=h_ (by unfold vwA;rw [if_pos ⟨hok,by omega,by omega⟩];rfl)
 have HC3:=h_ (u_ HCv rn W2.drew hrn ((u_ HS).mono (bR _ _).drew))
 clear hok HCv
 go_wp2_with fail
 refine wp_region_held_drew (S:=fun w'=>Blk w' w.heap.size 37 [.slice al m.L.length alc,.slice ap m.P.length apc,.slice ar m.R.length arc,.slice af m.F.length afc]) (by kernel_rfl) (u_ HK) (fun zz=>?_)
 refine tk 0 28 (.agg #[.slice al m.L.length alc,.slice ap m.P.length apc,.slice ar m.R.length arc,.slice af m.F.length afc]) zz ?_ (hy:=fun w hS=>by obtain ⟨q0,q1,q2,q3⟩:=quad hS;simp [execOp,go_sem,q0,q1,q2,q3])
 refine tk 1 29 (.slice a m.F.length c) zz ?_
 refine tk 2 30 (.agg #[.slice al m.L.length alc,.slice ap m.P.length apc,.slice ar m.R.length arc,.slice af m.F.length afc]) zz ?_ (hy:=fun w hS=>by obtain ⟨q0,q1,q2,q3⟩:=quad hS;simp [execOp,go_sem,q0,q1,q2,q3])
 refine tk 3 31 (.int .i64 rn) zz ?_
 simp only [sX,sY,sZ]
 refine callY (i:=4) (f:=28) (args:=#[.agg #[.slice al m.L.length alc,.slice ap m.P.length apc,.slice ar m.R.length arc,.slice af m.F.length afc],.int .i64 rn]) (R:=fun v wz=>∃ a0 c0,v=.slice a0 m.F.length c0/\Bools wz a0 m.F.length (seesB m n F f rn)/\Below W2.heap.size W2 wz) 32 rfl rfl (by rfl) (by kernel_rfl) (by simp [execOp,go_sem]) ((u_ HC3).mono fun e w6 ⟨g,a0,c0,he,g1,g2,hbo,hb⟩=>⟨_,he,a0,c0,rfl,q4s hbo (fun j hj=>qgt (u_ HLo g g1 g2) hj),q29 hb⟩) ?_
 rintro v W3 ⟨a0,c0,rfl,hbo,hb⟩
 replace HK:=mB HK hb;replace HS:=h_ ((u_ HS).mono hb);replace HC:=h_ ((u_ HC).mono hb);replace HB:=mT HB hb
 have HSe:=h_ hbo
 replace zz:=u_ HK
 clear hb hbo y0 y1 y2 y3 HC3 HLo
 refine ⟨zz,?_⟩
 simp only [sX,sY,sZ]
 refine callY (i:=5) (f:=27) (args:=#[.agg #[.slice al m.L.length alc,.slice ap m.P.length apc,.slice ar m.R.length arc,.slice af m.F.length afc],.slice a m.F.length c,.slice a0 m.F.length c0]) (R:=fun v wz=>OwnR wz W3.heap.size v (vwL m e (seesB m n F f rn) m.F.length)/\Below W3.heap.size W3 wz) 33 rfl rfl (by rfl) (by kernel_rfl) (by simp [execOp,go_sem]) ((u_ HCg c0 a0 (seesB m n F f rn) W3 (u_ HS) (u_ HC) (u_ HSe)).mono fun e w6 ⟨v,he,h1,h2⟩=>⟨v,he,h1,h2⟩) ?_
 rintro v W4 ⟨ho,hb⟩
 have HO9:=h_ (q98 ho (u_ HB).size)
 replace HB:=mT HB hb
 have hK4:=zz.mono hb zz.lt
 replace zz:=hK4
 clear hb ho hK4 HCg
 refine ⟨zz,?_⟩
 simp only [sX,sY,sZ]
 refine tk 6 6 v zz ?_
 simp only [sX,sY,sZ]
 refine wpAnyH_done (by kernel_rfl) ?_ _
 clear zz
 go_wp2_with fail
 go_ret
 exact ⟨_,rfl,by rw [u_ HN];exact u_ HO9,u_ HB⟩
end Go.Proofs.YtnhjjaminkhiiaaGreatDoor
