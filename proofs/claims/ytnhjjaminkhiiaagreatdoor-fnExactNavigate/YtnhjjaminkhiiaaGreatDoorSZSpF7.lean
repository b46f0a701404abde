import Derived.Test.YtnhjjaminkhiiaaGreatDoorSGS4
import Derived.Test.YtnhjjaminkhiiaaGreatDoorSZSpF6
set_option maxRecDepth 100000
set_option maxHeartbeats 20000000
namespace Go.Proofs.YtnhjjaminkhiiaaGreatDoor
open Go Go.RowKit
theorem qbo {m:Fm} (h:¬ VfA m):vfB m=false:=by
 unfold vfB
 rw [show vfA m=false from Bool.eq_false_iff.2 fun e=>h ((qhw m).1 e)]
 rfl
theorem vfB_of {m:Fm} (h:VfA m):vfB m=decide ((cT m).length<=30000):=by
 unfold vfB
 rw [(qhw m).2 h,Bool.true_and]
theorem inR_of {n:Nat} {x:Int} (h1:0<=x) (h2:x<n):inR n x=true:=decide_eq_true ⟨h1,h2⟩
theorem q0e (m:Fm) (A:MA) (w:World) (hf:FitM m) (ha:MSl w m A) :
 Calls Tryz.prog 83 #[mV m A] w fun r w'=>r=.returned (.bool (vfB m))/\Below w.heap.size w w':=by
 obtain ⟨al,alc,ap,apc,ar,arc,af,afc,afa⟩:=A
 have HF0:Hid (¬ VfA m->vfB m=false):=h_ qbo
 have HT0:Hid (VfA m->vfB m=decide ((cT m).length<=30000)):=h_ vfB_of
 generalize vfB m=q at *
 unfold mV
 dsimp only
 have HK:=h_ (Blk.new w 37 #[.slice al m.labels.length alc,.slice ap m.below.length apc,.slice ar m.roles.length arc,.slice af m.fields.length afc])
 have HB:=h_ ((Below.refl w.heap.size w).alloc (Nat.le_refl _) (.cells #[.slice al m.labels.length alc,.slice ap m.below.length apc,.slice ar m.roles.length arc,.slice af m.fields.length afc] 37))
 obtain ⟨W0,hW0⟩:∃ W0,w.alloc (.cells #[.slice al m.labels.length alc,.slice ap m.below.length apc,.slice ar m.roles.length arc,.slice af m.fields.length afc] 37)=W0:=⟨_,rfl⟩
 rw [hW0] at HK HB
 have HS:=h_ (ha.mono (u_ HB));have HF:=h_ hf
 have hll:=hf.ll;have hpl:=hf.pl;have hrl:=hf.rl;have hfl:=hf.fl
 clear ha hf
 obtain ⟨y0,y1,y2,y3⟩:=quad (u_ HK)
 by_cases h1:(32:Int)<m.labels.length
 . have HX:Hid (q=false):=h_ (u_ HF0 fun v=>by have:=v.nl;omega)
   go_enter Tryz.func83,Tryz.ntmps83
   go_wp2_with fail
   go_ret
   exact ⟨qg7 (u_ HX).symm,u_ HB⟩
 by_cases h2:(256:Int)<m.below.length
 . have HX:Hid (q=false):=h_ (u_ HF0 fun v=>by have:=v.np;omega)
   go_enter Tryz.func83,Tryz.ntmps83
   go_wp2_with fail
   go_ret
   exact ⟨qg7 (u_ HX).symm,u_ HB⟩
 by_cases h3:(64:Int)<m.roles.length
 . have HX:Hid (q=false):=h_ (u_ HF0 fun v=>by have:=v.nr;omega)
   go_enter Tryz.func83,Tryz.ntmps83
   go_wp2_with fail
   go_ret
   exact ⟨qg7 (u_ HX).symm,u_ HB⟩
 by_cases h4:(200:Int)<m.fields.length
 . have HX:Hid (q=false):=h_ (u_ HF0 fun v=>by have:=v.nf;omega)
   go_enter Tryz.func83,Tryz.ntmps83
   go_wp2_with fail
   go_ret
   exact ⟨qg7 (u_ HX).symm,u_ HB⟩
 go_enter Tryz.func83,Tryz.ntmps83
 go_wp2_with fail
 try rw [hW0]
 refine (q0r m ⟨al,alc,ap,apc,ar,arc,af,afc,afa⟩ W0 (by omega) (u_ HS).f).mono ?_
 rintro r W1 ⟨an,cn,rfl,hnames,hb1⟩
 have HN:=h_ hnames
 replace HK:=mB HK hb1;replace HS:=h_ ((u_ HS).mono hb1);replace HB:=mT HB hb1
 clear hW0 y0 y1 y2 y3 hnames hb1
 obtain ⟨y0,y1,y2,y3⟩:=quad (u_ HK)
 go_wp2_with fail
 refine (q1i al alc m.labels W1 hll (u_ HF).l (u_ HS).l).mono ?_
 rintro r W2 ⟨rfl,hb1⟩
 replace HK:=mB HK hb1;replace HS:=h_ ((u_ HS).mono hb1);replace HB:=mT HB hb1;replace HN:=h_ ((u_ HN).mono hb1)
 clear y0 y1 y2 y3 hb1
 obtain ⟨y0,y1,y2,y3⟩:=quad (u_ HK)
 cases hn1:namesOk m.labels
 . have HX:Hid (q=false):=h_ (u_ HF0 fun v=>by have:=v.l;rw [hn1] at this;cases this)
   go_wp2_with fail
   go_ret
   exact ⟨qg7 (u_ HX).symm,u_ HB⟩
 have HN1:=h_ hn1
 clear hn1
 go_wp2_with fail
 refine (q11 m ⟨al,alc,ap,apc,ar,arc,af,afc,afa⟩ W2 (by omega) (u_ HS).r).mono ?_
 rintro r W3 ⟨an2,cn2,rfl,hnames,hb1⟩
 have HNr:=h_ hnames
 replace HK:=mB HK hb1;replace HS:=h_ ((u_ HS).mono hb1);replace HB:=mT HB hb1;replace HN:=h_ ((u_ HN).mono hb1)
 clear y0 y1 y2 y3 hb1 hnames
 obtain ⟨y0,y1,y2,y3⟩:=quad (u_ HK)
 have HE1:Hid (m.roles.length=(rNames m).length):=h_ (by simp [rNames]);have HE2:Hid (m.fields.length=(fNames m).length):=h_ (by simp [fNames])
 go_wp2_with fail
 have hcr:=q1i an2 cn2 (rNames m) W3 (by rw [<- u_ HE1];exact hrl) (fun x hx=>by obtain ⟨y,hy,rfl⟩:=List.mem_map.1 hx;exact (u_ HF).r y hy) (u_ HNr)
 rw [<- u_ HE1] at hcr
 refine hcr.mono ?_
 rintro r W4 ⟨rfl,hb1⟩
 replace HK:=mB HK hb1;replace HS:=h_ ((u_ HS).mono hb1);replace HB:=mT HB hb1;replace HN:=h_ ((u_ HN).mono hb1)
 clear y0 y1 y2 y3 hb1 hcr HNr
 obtain ⟨y0,y1,y2,y3⟩:=quad (u_ HK)
 cases hn1:namesOk (rNames m)
 . have HX:Hid (q=false):=h_ (u_ HF0 fun v=>by have:=v.r;rw [hn1] at this;cases this)
   go_wp2_with fail
   go_ret
   exact ⟨qg7 (u_ HX).symm,u_ HB⟩
 have HN2:=h_ hn1
 clear hn1
 go_wp2_with fail
 have hcr:=q1i an cn (fNames m) W4 (by rw [<- u_ HE2];exact hfl) (fun x hx=>by obtain ⟨y,hy,rfl⟩:=List.mem_map.1 hx;exact ((u_ HF).f y hy).nm) (u_ HN)
 rw [<- u_ HE2] at hcr
 refine hcr.mono ?_
 rintro r W5 ⟨rfl,hb1⟩
 replace HK:=mB HK hb1;replace HS:=h_ ((u_ HS).mono hb1);replace HB:=mT HB hb1;replace HN:=h_ ((u_ HN).mono hb1)
 clear y0 y1 y2 y3 hb1 hcr
 obtain ⟨y0,y1,y2,y3⟩:=quad (u_ HK)
 cases hn1:namesOk (fNames m)
 . have HX:Hid (q=false):=h_ (u_ HF0 fun v=>by have:=v.f;rw [hn1] at this;cases this)
   go_wp2_with fail
   go_ret
   exact ⟨qg7 (u_ HX).symm,u_ HB⟩
 have HN3:=h_ hn1
 clear hn1
 go_wp2_with fail
 clear y0 y1 y2 y3
 go_loopw [4] (fun i wr=>∃ (k:Nat),k<=m.below.length/\i=.int .i64 k/\(∀ j (h:j<m.below.length),j<k->inR m.labels.length m.below[j].1=true/\inR m.labels.length m.below[j].2=true)/\Below W5.heap.size W5 wr) (fun i _=>m.below.length - (intOf i).toNat)
 case atStart=>exact ⟨0,Nat.zero_le _,rfl,fun j _ hj=>absurd hj (Nat.not_lt_zero _),Below.refl _ _⟩
 case round =>
  obtain ⟨k,hk,rfl,hall,hb⟩:=hrel
  have HL:=h_ hall;have HB1:=h_ hb;have HKr:=mB HK hb;have HSr:=h_ ((u_ HS).mono hb)
  have HBw:=mT HB hb
  obtain ⟨y0,y1,y2,y3⟩:=quad (u_ HKr)
  clear hall hb
  by_cases hlt:k<m.below.length
  . have hlt':(k:Int)<m.below.length:=by omega
    obtain ⟨pb,po,rfl,-,z0,z1⟩:=(u_ HSr).p k hlt
    have HD:Hid (Below w.heap.size w wr.drew):=h_ (u_ HBw).drew
    have HM1:Hid (VfA m->inR m.labels.length m.below[k].1=true):=h_ fun v=>(v.p _ (List.getElem_mem hlt)).1
    have HM2:Hid (VfA m->inR m.labels.length m.below[k].2=true):=h_ fun v=>(v.p _ (List.getElem_mem hlt)).2
    have HL2:Hid (inR m.labels.length m.below[k].1=true->inR m.labels.length m.below[k].2=true->∀ j (h:j<m.below.length),j<k+1->inR m.labels.length m.below[j].1=true/\inR m.labels.length m.below[j].2=true):=h_ fun g1 g2 j h hj=>by
     by_cases ej:j=k
     . subst ej;exact ⟨g1,g2⟩
     . exact u_ HL j h (by omega)
    obtain ⟨x1,hx1⟩:∃ x1,m.below[k].1=x1:=⟨_,rfl⟩
    obtain ⟨x2,hx2⟩:∃ x2,m.below[k].2=x2:=⟨_,rfl⟩
    rw [hx1] at HM1 HL2 z0
    rw [hx2] at HM2 HL2 z1
    clear hx1 hx2
    by_cases hneg:x1<0
    . have HX:Hid (q=false):=h_ (u_ HF0 fun v=>by have:=of_decide_eq_true (u_ HM1 v);omega)
      generalize x1=x at *
      go_wp2_with fail
      refine wp_region_held_drew (S:=fun w'=>w'.cell? ⟨w.heap.size,0,none⟩=some (.slice al m.labels.length alc)/\w'.cell? ⟨w.heap.size,1,none⟩=some (.slice (some ⟨pb,po,none⟩) m.below.length apc)/\w'.cell? ⟨pb,po+k*2,none⟩=some (.int .i64 x)) (by kernel_rfl) ⟨y0,y1,z0⟩ (fun hHeld=>?_)
      refine tk (i:=0) (v:=.pointer (some ⟨w.heap.size,1,none⟩)) 51 hHeld ?_
      simp only [s1',s2',s3']
      refine tk (i:=1) (v:=.slice (some ⟨pb,po,none⟩) m.below.length apc) 52 hHeld ?_
      simp only [s1',s2',s3']
      refine tk (i:=2) (v:=.int .i64 k) 53 hHeld ?_
      simp only [s1',s2',s3']
      refine tk (i:=3) (v:=.pointer (some ⟨pb,po+k*2,none⟩)) 54 hHeld ?_
      simp only [s1',s2',s3']
      refine tk (i:=4) (v:=.pointer (some ⟨pb,po+k*2,none⟩)) 55 hHeld ?_
      simp only [s1',s2',s3']
      refine tk (i:=5) (v:=.int .i64 x) 56 hHeld ?_
      simp only [s1',s2',s3']
      refine tk (i:=6) (v:=.bool true) 57 hHeld ?_
      simp only [s1',s2',s3']
      refine tk (i:=7) (v:=.bool true) 58 hHeld ?_
      simp only [s1',s2',s3']
      refine tn (i:=8) 59 hHeld ?_
      simp only [s1',s2',s3']
      refine tn (i:=9) 60 hHeld ?_
      simp only [s1',s2',s3']
      refine tn (i:=10) 61 hHeld ?_
      simp only [s1',s2',s3']
      refine tn (i:=11) 62 hHeld ?_
      simp only [s1',s2',s3']
      refine tn (i:=12) 63 hHeld ?_
      simp only [s1',s2',s3']
      refine tn (i:=13) 64 hHeld ?_
      simp only [s1',s2',s3']
      refine tn (i:=14) 65 hHeld ?_
      simp only [s1',s2',s3']
      refine tn (i:=15) 66 hHeld ?_
      simp only [s1',s2',s3']
      refine tn (i:=16) 67 hHeld ?_
      simp only [s1',s2',s3']
      refine tn (i:=17) 68 hHeld ?_
      simp only [s1',s2',s3']
      refine tk (i:=18) (v:=.bool true) 69 hHeld ?_
      simp only [s1',s2',s3']
      refine wpAnyH_done (by kernel_rfl) ?_ _
      clear hHeld
      go_wp2_with fail
      go_ret
      exact ⟨qg7 (u_ HX).symm,u_ HD⟩
    by_cases hbig:(m.labels.length:Int)<=x1
    . have HX:Hid (q=false):=h_ (u_ HF0 fun v=>by have:=of_decide_eq_true (u_ HM1 v);omega)
      generalize x1=x at *
      go_wp2_with fail
      refine wp_region_held_drew (S:=fun w'=>w'.cell? ⟨w.heap.size,0,none⟩=some (.slice al m.labels.length alc)/\w'.cell? ⟨w.heap.size,1,none⟩=some (.slice (some ⟨pb,po,none⟩) m.below.length apc)/\w'.cell? ⟨pb,po+k*2,none⟩=some (.int .i64 x)) (by kernel_rfl) ⟨y0,y1,z0⟩ (fun hHeld=>?_)
      refine tk (i:=0) (v:=.pointer (some ⟨w.heap.size,1,none⟩)) 51 hHeld ?_
      simp only [s1',s2',s3']
      refine tk (i:=1) (v:=.slice (some ⟨pb,po,none⟩) m.below.length apc) 52 hHeld ?_
      simp only [s1',s2',s3']
      refine tk (i:=2) (v:=.int .i64 k) 53 hHeld ?_
      simp only [s1',s2',s3']
      refine tk (i:=3) (v:=.pointer (some ⟨pb,po+k*2,none⟩)) 54 hHeld ?_
      simp only [s1',s2',s3']
      refine tk (i:=4) (v:=.pointer (some ⟨pb,po+k*2,none⟩)) 55 hHeld ?_
      simp only [s1',s2',s3']
      refine tk (i:=5) (v:=.int .i64 x) 56 hHeld ?_
      simp only [s1',s2',s3']
      refine tk (i:=6) (v:=.bool false) 57 hHeld ?_
      simp only [s1',s2',s3']
      refine tk (i:=7) (v:=.bool false) 58 hHeld ?_
      simp only [s1',s2',s3']
      refine tk (i:=8) (v:=.pointer (some ⟨w.heap.size,1,none⟩)) 59 hHeld ?_
      simp only [s1',s2',s3']
      refine tk (i:=9) (v:=.slice (some ⟨pb,po,none⟩) m.below.length apc) 60 hHeld ?_
      simp only [s1',s2',s3']
      refine tk (i:=10) (v:=.int .i64 k) 61 hHeld ?_
      simp only [s1',s2',s3']
      refine tk (i:=11) (v:=.pointer (some ⟨pb,po+k*2,none⟩)) 62 hHeld ?_
      simp only [s1',s2',s3']
      refine tk (i:=12) (v:=.pointer (some ⟨pb,po+k*2,none⟩)) 63 hHeld ?_
      simp only [s1',s2',s3']
      refine tk (i:=13) (v:=.int .i64 x) 64 hHeld ?_
      simp only [s1',s2',s3']
      refine tk (i:=14) (v:=.pointer (some ⟨w.heap.size,0,none⟩)) 65 hHeld ?_
      simp only [s1',s2',s3']
      refine tk (i:=15) (v:=.slice al m.labels.length alc) 66 hHeld ?_
      simp only [s1',s2',s3']
      refine tk (i:=16) (v:=.int .i64 m.labels.length) 67 hHeld ?_
      simp only [s1',s2',s3']
      refine tk (i:=17) (v:=.bool true) 68 hHeld ?_
      simp only [s1',s2',s3']
      refine tk (i:=18) (v:=.bool true) 69 hHeld ?_
      simp only [s1',s2',s3']
      refine wpAnyH_done (by kernel_rfl) ?_ _
      clear hHeld
      go_wp2_with fail
      go_ret
      exact ⟨qg7 (u_ HX).symm,u_ HD⟩
    have HG1:Hid (inR m.labels.length x1=true):=h_ (inR_of (by omega) (by omega))
    go_wp2_with fail
    refine wp_region_held_drew (S:=fun w'=>w'.cell? ⟨w.heap.size,0,none⟩=some (.slice al m.labels.length alc)/\w'.cell? ⟨w.heap.size,1,none⟩=some (.slice (some ⟨pb,po,none⟩) m.below.length apc)/\w'.cell? ⟨pb,po+k*2,none⟩=some (.int .i64 x1)) (by kernel_rfl) ⟨y0,y1,z0⟩ (fun hHeld=>?_)
    refine tk (i:=0) (v:=.pointer (some ⟨w.heap.size,1,none⟩)) 51 hHeld ?_
    simp only [s1',s2',s3']
    refine tk (i:=1) (v:=.slice (some ⟨pb,po,none⟩) m.below.length apc) 52 hHeld ?_
    simp only [s1',s2',s3']
    refine tk (i:=2) (v:=.int .i64 k) 53 hHeld ?_
    simp only [s1',s2',s3']
    refine tk (i:=3) (v:=.pointer (some ⟨pb,po+k*2,none⟩)) 54 hHeld ?_
    simp only [s1',s2',s3']
    refine tk (i:=4) (v:=.pointer (some ⟨pb,po+k*2,none⟩)) 55 hHeld ?_
    simp only [s1',s2',s3']
    refine tk (i:=5) (v:=.int .i64 x1) 56 hHeld ?_
    simp only [s1',s2',s3']
    refine tk (i:=6) (v:=.bool false) 57 hHeld ?_
    simp only [s1',s2',s3']
    refine tk (i:=7) (v:=.bool false) 58 hHeld ?_
    simp only [s1',s2',s3']
    refine tk (i:=8) (v:=.pointer (some ⟨w.heap.size,1,none⟩)) 59 hHeld ?_
    simp only [s1',s2',s3']
    refine tk (i:=9) (v:=.slice (some ⟨pb,po,none⟩) m.below.length apc) 60 hHeld ?_
    simp only [s1',s2',s3']
    refine tk (i:=10) (v:=.int .i64 k) 61 hHeld ?_
    simp only [s1',s2',s3']
    refine tk (i:=11) (v:=.pointer (some ⟨pb,po+k*2,none⟩)) 62 hHeld ?_
    simp only [s1',s2',s3']
    refine tk (i:=12) (v:=.pointer (some ⟨pb,po+k*2,none⟩)) 63 hHeld ?_
    simp only [s1',s2',s3']
    refine tk (i:=13) (v:=.int .i64 x1) 64 hHeld ?_
    simp only [s1',s2',s3']
    refine tk (i:=14) (v:=.pointer (some ⟨w.heap.size,0,none⟩)) 65 hHeld ?_
    simp only [s1',s2',s3']
    refine tk (i:=15) (v:=.slice al m.labels.length alc) 66 hHeld ?_
    simp only [s1',s2',s3']
    refine tk (i:=16) (v:=.int .i64 m.labels.length) 67 hHeld ?_
    simp only [s1',s2',s3']
    refine tk (i:=17) (v:=.bool false) 68 hHeld ?_
    simp only [s1',s2',s3']
    refine tk (i:=18) (v:=.bool false) 69 hHeld ?_
    simp only [s1',s2',s3']
    refine wpAnyH_done (by kernel_rfl) ?_ _
    clear hHeld
    have HDd:Hid (Below wr.heap.size wr wr.drew):=h_ (Below.refl _ _).drew
    replace y0:=((u_ HDd).cell (p:=⟨w.heap.size,0,none⟩) (u_ HKr).lt).trans y0
    replace y1:=((u_ HDd).cell (p:=⟨w.heap.size,1,none⟩) (u_ HKr).lt).trans y1
    obtain ⟨b',o',he',hlt2,-,z1'⟩:=(u_ HSr).p k hlt
    cases he'
    replace z1:=((u_ HDd).cell (p:=⟨pb,po+k*2+1,none⟩) hlt2).trans z1
    replace HD:Hid (Below w.heap.size w wr.drew.drew):=h_ (u_ HD).drew
    replace HB1:Hid (Below W5.heap.size W5 wr.drew.drew):=h_ (u_ HB1).drew.drew
    clear z0 y2 y3 hneg hbig z1'
    obtain ⟨V,hV⟩:∃ V,wr.drew=V:=⟨_,rfl⟩
    rw [hV] at y0 y1 z1 HD HB1 ⊢
    clear hV
    by_cases hneg:x2<0
    . have HX:Hid (q=false):=h_ (u_ HF0 fun v=>by have:=of_decide_eq_true (u_ HM2 v);omega)
      generalize x2=x at *
      go_wp2_with fail
      refine wp_region_held_drew (S:=fun w'=>w'.cell? ⟨w.heap.size,0,none⟩=some (.slice al m.labels.length alc)/\w'.cell? ⟨w.heap.size,1,none⟩=some (.slice (some ⟨pb,po,none⟩) m.below.length apc)/\w'.cell? ⟨pb,po+k*2+1,none⟩=some (.int .i64 x)) (by kernel_rfl) ⟨y0,y1,z1⟩ (fun hHeld=>?_)
      refine tk (i:=0) (v:=.pointer (some ⟨w.heap.size,1,none⟩)) 70 hHeld ?_
      simp only [s1',s2',s3']
      refine tk (i:=1) (v:=.slice (some ⟨pb,po,none⟩) m.below.length apc) 71 hHeld ?_
      simp only [s1',s2',s3']
      refine tk (i:=2) (v:=.int .i64 k) 72 hHeld ?_
      simp only [s1',s2',s3']
      refine tk (i:=3) (v:=.pointer (some ⟨pb,po+k*2,none⟩)) 73 hHeld ?_
      simp only [s1',s2',s3']
      refine tk (i:=4) (v:=.pointer (some ⟨pb,po+k*2+1,none⟩)) 74 hHeld ?_
      simp only [s1',s2',s3']
      refine tk (i:=5) (v:=.int .i64 x) 75 hHeld ?_
      simp only [s1',s2',s3']
      refine tk (i:=6) (v:=.bool true) 76 hHeld ?_
      simp only [s1',s2',s3']
      refine tk (i:=7) (v:=.bool true) 77 hHeld ?_
      simp only [s1',s2',s3']
      refine tn (i:=8) 78 hHeld ?_
      simp only [s1',s2',s3']
      refine tn (i:=9) 79 hHeld ?_
      simp only [s1',s2',s3']
      refine tn (i:=10) 80 hHeld ?_
      simp only [s1',s2',s3']
      refine tn (i:=11) 81 hHeld ?_
      simp only [s1',s2',s3']
      refine tn (i:=12) 82 hHeld ?_
      simp only [s1',s2',s3']
      refine tn (i:=13) 83 hHeld ?_
      simp only [s1',s2',s3']
      refine tn (i:=14) 84 hHeld ?_
      simp only [s1',s2',s3']
      refine tn (i:=15) 85 hHeld ?_
      simp only [s1',s2',s3']
      refine tn (i:=16) 86 hHeld ?_
      simp only [s1',s2',s3']
      refine tn (i:=17) 87 hHeld ?_
      simp only [s1',s2',s3']
      refine tk (i:=18) (v:=.bool true) 88 hHeld ?_
      simp only [s1',s2',s3']
      refine wpAnyH_done (by kernel_rfl) ?_ _
      clear hHeld
      go_wp2_with fail
      go_ret
      exact ⟨qg7 (u_ HX).symm,u_ HD⟩
    by_cases hbig:(m.labels.length:Int)<=x2
    . have HX:Hid (q=false):=h_ (u_ HF0 fun v=>by have:=of_decide_eq_true (u_ HM2 v);omega)
      generalize x2=x at *
      go_wp2_with fail
      refine wp_region_held_drew (S:=fun w'=>w'.cell? ⟨w.heap.size,0,none⟩=some (.slice al m.labels.length alc)/\w'.cell? ⟨w.heap.size,1,none⟩=some (.slice (some ⟨pb,po,none⟩) m.below.length apc)/\w'.cell? ⟨pb,po+k*2+1,none⟩=some (.int .i64 x)) (by kernel_rfl) ⟨y0,y1,z1⟩ (fun hHeld=>?_)
      refine tk (i:=0) (v:=.pointer (some ⟨w.heap.size,1,none⟩)) 70 hHeld ?_
      simp only [s1',s2',s3']
      refine tk (i:=1) (v:=.slice (some ⟨pb,po,none⟩) m.below.length apc) 71 hHeld ?_
      simp only [s1',s2',s3']
      refine tk (i:=2) (v:=.int .i64 k) 72 hHeld ?_
      simp only [s1',s2',s3']
      refine tk (i:=3) (v:=.pointer (some ⟨pb,po+k*2,none⟩)) 73 hHeld ?_
      simp only [s1',s2',s3']
      refine tk (i:=4) (v:=.pointer (some ⟨pb,po+k*2+1,none⟩)) 74 hHeld ?_
      simp only [s1',s2',s3']
      refine tk (i:=5) (v:=.int .i64 x) 75 hHeld ?_
      simp only [s1',s2',s3']
      refine tk (i:=6) (v:=.bool false) 76 hHeld ?_
      simp only [s1',s2',s3']
      refine tk (i:=7) (v:=.bool false) 77 hHeld ?_
      simp only [s1',s2',s3']
      refine tk (i:=8) (v:=.pointer (some ⟨w.heap.size,1,none⟩)) 78 hHeld ?_
      simp only [s1',s2',s3']
      refine tk (i:=9) (v:=.slice (some ⟨pb,po,none⟩) m.below.length apc) 79 hHeld ?_
      simp only [s1',s2',s3']
      refine tk (i:=10) (v:=.int .i64 k) 80 hHeld ?_
      simp only [s1',s2',s3']
      refine tk (i:=11) (v:=.pointer (some ⟨pb,po+k*2,none⟩)) 81 hHeld ?_
      simp only [s1',s2',s3']
      refine tk (i:=12) (v:=.pointer (some ⟨pb,po+k*2+1,none⟩)) 82 hHeld ?_
      simp only [s1',s2',s3']
      refine tk (i:=13) (v:=.int .i64 x) 83 hHeld ?_
      simp only [s1',s2',s3']
      refine tk (i:=14) (v:=.pointer (some ⟨w.heap.size,0,none⟩)) 84 hHeld ?_
      simp only [s1',s2',s3']
      refine tk (i:=15) (v:=.slice al m.labels.length alc) 85 hHeld ?_
      simp only [s1',s2',s3']
      refine tk (i:=16) (v:=.int .i64 m.labels.length) 86 hHeld ?_
      simp only [s1',s2',s3']
      refine tk (i:=17) (v:=.bool true) 87 hHeld ?_
      simp only [s1',s2',s3']
      refine tk (i:=18) (v:=.bool true) 88 hHeld ?_
      simp only [s1',s2',s3']
      refine wpAnyH_done (by kernel_rfl) ?_ _
      clear hHeld
      go_wp2_with fail
      go_ret
      exact ⟨qg7 (u_ HX).symm,u_ HD⟩
    have HG2:Hid (inR m.labels.length x2=true):=h_ (inR_of (by omega) (by omega))
    have HL3:=h_ (u_ HL2 (u_ HG1) (u_ HG2))
    go_wp2_with fail
    refine wp_region_held_drew (S:=fun w'=>w'.cell? ⟨w.heap.size,0,none⟩=some (.slice al m.labels.length alc)/\w'.cell? ⟨w.heap.size,1,none⟩=some (.slice (some ⟨pb,po,none⟩) m.below.length apc)/\w'.cell? ⟨pb,po+k*2+1,none⟩=some (.int .i64 x2)) (by kernel_rfl) ⟨y0,y1,z1⟩ (fun hHeld=>?_)
    refine tk (i:=0) (v:=.pointer (some ⟨w.heap.size,1,none⟩)) 70 hHeld ?_
    simp only [s1',s2',s3']
    refine tk (i:=1) (v:=.slice (some ⟨pb,po,none⟩) m.below.length apc) 71 hHeld ?_
    simp only [s1',s2',s3']
    refine tk (i:=2) (v:=.int .i64 k) 72 hHeld ?_
    simp only [s1',s2',s3']
    refine tk (i:=3) (v:=.pointer (some ⟨pb,po+k*2,none⟩)) 73 hHeld ?_
    simp only [s1',s2',s3']
    refine tk (i:=4) (v:=.pointer (some ⟨pb,po+k*2+1,none⟩)) 74 hHeld ?_
    simp only [s1',s2',s3']
    refine tk (i:=5) (v:=.int .i64 x2) 75 hHeld ?_
    simp only [s1',s2',s3']
    refine tk (i:=6) (v:=.bool false) 76 hHeld ?_
    simp only [s1',s2',s3']
    refine tk (i:=7) (v:=.bool false) 77 hHeld ?_
    simp only [s1',s2',s3']
    refine tk (i:=8) (v:=.pointer (some ⟨w.heap.size,1,none⟩)) 78 hHeld ?_
    simp only [s1',s2',s3']
    refine tk (i:=9) (v:=.slice (some ⟨pb,po,none⟩) m.below.length apc) 79 hHeld ?_
    simp only [s1',s2',s3']
    refine tk (i:=10) (v:=.int .i64 k) 80 hHeld ?_
    simp only [s1',s2',s3']
    refine tk (i:=11) (v:=.pointer (some ⟨pb,po+k*2,none⟩)) 81 hHeld ?_
    simp only [s1',s2',s3']
    refine tk (i:=12) (v:=.pointer (some ⟨pb,po+k*2+1,none⟩)) 82 hHeld ?_
    simp only [s1',s2',s3']
    refine tk (i:=13) (v:=.int .i64 x2) 83 hHeld ?_
    simp only [s1',s2',s3']
    refine tk (i:=14) (v:=.pointer (some ⟨w.heap.size,0,none⟩)) 84 hHeld ?_
    simp only [s1',s2',s3']
    refine tk (i:=15) (v:=.slice al m.labels.length alc) 85 hHeld ?_
    simp only [s1',s2',s3']
    refine tk (i:=16) (v:=.int .i64 m.labels.length) 86 hHeld ?_
    simp only [s1',s2',s3']
    refine tk (i:=17) (v:=.bool false) 87 hHeld ?_
    simp only [s1',s2',s3']
    refine tk (i:=18) (v:=.bool false) 88 hHeld ?_
    simp only [s1',s2',s3']
    refine wpAnyH_done (by kernel_rfl) ?_ _
    clear hHeld
    go_wp2_with fail
    go_roundw
    case rel=>first | exact ⟨k+1,by omega,by go_num,u_ HL3,u_ HB1⟩ | ((repeat apply Exists.intro);exact ⟨⟨k+1,by omega,by go_num,u_ HL3,u_ HB1⟩,rfl⟩)
    case measure=>simp [intOf];omega
  obtain rfl:k=m.below.length:=by omega
  have hlt':¬ (m.below.length:Int)<(m.below.length:Int):=by omega
  have HP:Hid (∀ x,x ∈ m.below->inR m.labels.length x.1=true/\inR m.labels.length x.2=true):=h_ fun x hx=>by
   obtain ⟨j,hj,rfl⟩:=List.mem_iff_getElem.1 hx
   exact u_ HL j hj hj
  replace HK:=HKr;replace HS:=HSr;replace HN:=h_ ((u_ HN).mono (u_ HB1));replace HB:=HBw
  go_wp2_with fail
  clear y0 y1 y2 y3 HB1 HL hlt hlt' HKr HSr HBw
  obtain ⟨W6,hW6⟩:∃ W6,wr=W6:=⟨_,rfl⟩
  rw [hW6] at HB HS HN HK ⊢
  clear hW6
  go_loopw [5] (fun i wr=>∃ (k:Nat),k<=m.roles.length/\i=.int .i64 k/\(∀ j (h:j<m.roles.length),j<k->inR m.labels.length m.roles[j].lb=true)/\Below W6.heap.size W6 wr) (fun i _=>m.roles.length - (intOf i).toNat)
  case atStart=>exact ⟨0,Nat.zero_le _,rfl,fun j _ hj=>absurd hj (Nat.not_lt_zero _),Below.refl _ _⟩
  case round =>
   obtain ⟨k,hk,rfl,hall,hb⟩:=hrel
   have HL:=h_ hall;have HB1:=h_ hb;have HKr:=mB HK hb;have HSr:=h_ ((u_ HS).mono hb)
   have HBw:=mT HB hb
   obtain ⟨y0,y1,y2,y3⟩:=quad (u_ HKr)
   clear hall hb
   by_cases hlt:k<m.roles.length
   . have hlt':(k:Int)<m.roles.length:=by omega
     obtain ⟨pb,po,rfl,-,z0,z1⟩:=(u_ HSr).r k hlt
     have HD:Hid (Below w.heap.size w wr.drew):=h_ (u_ HBw).drew
     have HM1:Hid (VfA m->inR m.labels.length m.roles[k].lb=true):=h_ fun v=>v.ro _ (List.getElem_mem hlt)
     have HL2:Hid (inR m.labels.length m.roles[k].lb=true->∀ j (h:j<m.roles.length),j<k+1->inR m.labels.length m.roles[j].lb=true):=h_ fun g1 j h hj=>by
      by_cases ej:j=k
      . subst ej;exact g1
      . exact u_ HL j h (by omega)
     obtain ⟨x1,hx1⟩:∃ x1,m.roles[k].lb=x1:=⟨_,rfl⟩
     rw [hx1] at HM1 HL2 z1
     clear hx1
     by_cases hneg:x1<0
     . have HX:Hid (q=false):=h_ (u_ HF0 fun v=>by have:=of_decide_eq_true (u_ HM1 v);omega)
       generalize x1=x at *
       go_wp2_with fail
       refine wp_region_held_drew (S:=fun w'=>w'.cell? ⟨w.heap.size,0,none⟩=some (.slice al m.labels.length alc)/\w'.cell? ⟨w.heap.size,2,none⟩=some (.slice (some ⟨pb,po,none⟩) m.roles.length arc)/\w'.cell? ⟨pb,po+k*2+1,none⟩=some (.int .i64 x)) (by kernel_rfl) ⟨y0,y2,z1⟩ (fun hHeld=>?_)
       refine tk (i:=0) (v:=.pointer (some ⟨w.heap.size,2,none⟩)) 96 hHeld ?_
       simp only [s1',s2',s3']
       refine tk (i:=1) (v:=.slice (some ⟨pb,po,none⟩) m.roles.length arc) 97 hHeld ?_
       simp only [s1',s2',s3']
       refine tk (i:=2) (v:=.int .i64 k) 98 hHeld ?_
       simp only [s1',s2',s3']
       refine tk (i:=3) (v:=.pointer (some ⟨pb,po+k*2,none⟩)) 99 hHeld ?_
       simp only [s1',s2',s3']
       refine tk (i:=4) (v:=.pointer (some ⟨pb,po+k*2+1,none⟩)) 100 hHeld ?_
       simp only [s1',s2',s3']
       refine tk (i:=5) (v:=.int .i64 x) 101 hHeld ?_
       simp only [s1',s2',s3']
       refine tk (i:=6) (v:=.bool true) 102 hHeld ?_
       simp only [s1',s2',s3']
       refine tk (i:=7) (v:=.bool true) 103 hHeld ?_
       simp only [s1',s2',s3']
       refine tn (i:=8) 104 hHeld ?_
       simp only [s1',s2',s3']
       refine tn (i:=9) 105 hHeld ?_
       simp only [s1',s2',s3']
       refine tn (i:=10) 106 hHeld ?_
       simp only [s1',s2',s3']
       refine tn (i:=11) 107 hHeld ?_
       simp only [s1',s2',s3']
       refine tn (i:=12) 108 hHeld ?_
       simp only [s1',s2',s3']
       refine tn (i:=13) 109 hHeld ?_
       simp only [s1',s2',s3']
       refine tn (i:=14) 110 hHeld ?_
       simp only [s1',s2',s3']
       refine tn (i:=15) 111 hHeld ?_
       simp only [s1',s2',s3']
       refine tn (i:=16) 112 hHeld ?_
       simp only [s1',s2',s3']
       refine tn (i:=17) 113 hHeld ?_
       simp only [s1',s2',s3']
       refine tk (i:=18) (v:=.bool true) 114 hHeld ?_
       simp only [s1',s2',s3']
       refine wpAnyH_done (by kernel_rfl) ?_ _
       clear hHeld
       go_wp2_with fail
       go_ret
       exact ⟨qg7 (u_ HX).symm,u_ HD⟩
     by_cases hbig:(m.labels.length:Int)<=x1
     . have HX:Hid (q=false):=h_ (u_ HF0 fun v=>by have:=of_decide_eq_true (u_ HM1 v);omega)
       generalize x1=x at *
       go_wp2_with fail
       refine wp_region_held_drew (S:=fun w'=>w'.cell? ⟨w.heap.size,0,none⟩=some (.slice al m.labels.length alc)/\w'.cell? ⟨w.heap.size,2,none⟩=some (.slice (some ⟨pb,po,none⟩) m.roles.length arc)/\w'.cell? ⟨pb,po+k*2+1,none⟩=some (.int .i64 x)) (by kernel_rfl) ⟨y0,y2,z1⟩ (fun hHeld=>?_)
       refine tk (i:=0) (v:=.pointer (some ⟨w.heap.size,2,none⟩)) 96 hHeld ?_
       simp only [s1',s2',s3']
       refine tk (i:=1) (v:=.slice (some ⟨pb,po,none⟩) m.roles.length arc) 97 hHeld ?_
       simp only [s1',s2',s3']
       refine tk (i:=2) (v:=.int .i64 k) 98 hHeld ?_
       simp only [s1',s2',s3']
       refine tk (i:=3) (v:=.pointer (some ⟨pb,po+k*2,none⟩)) 99 hHeld ?_
       simp only [s1',s2',s3']
       refine tk (i:=4) (v:=.pointer (some ⟨pb,po+k*2+1,none⟩)) 100 hHeld ?_
       simp only [s1',s2',s3']
       refine tk (i:=5) (v:=.int .i64 x) 101 hHeld ?_
       simp only [s1',s2',s3']
       refine tk (i:=6) (v:=.bool false) 102 hHeld ?_
       simp only [s1',s2',s3']
       refine tk (i:=7) (v:=.bool false) 103 hHeld ?_
       simp only [s1',s2',s3']
       refine tk (i:=8) (v:=.pointer (some ⟨w.heap.size,2,none⟩)) 104 hHeld ?_
       simp only [s1',s2',s3']
       refine tk (i:=9) (v:=.slice (some ⟨pb,po,none⟩) m.roles.length arc) 105 hHeld ?_
       simp only [s1',s2',s3']
       refine tk (i:=10) (v:=.int .i64 k) 106 hHeld ?_
       simp only [s1',s2',s3']
       refine tk (i:=11) (v:=.pointer (some ⟨pb,po+k*2,none⟩)) 107 hHeld ?_
       simp only [s1',s2',s3']
       refine tk (i:=12) (v:=.pointer (some ⟨pb,po+k*2+1,none⟩)) 108 hHeld ?_
       simp only [s1',s2',s3']
       refine tk (i:=13) (v:=.int .i64 x) 109 hHeld ?_
       simp only [s1',s2',s3']
       refine tk (i:=14) (v:=.pointer (some ⟨w.heap.size,0,none⟩)) 110 hHeld ?_
       simp only [s1',s2',s3']
       refine tk (i:=15) (v:=.slice al m.labels.length alc) 111 hHeld ?_
       simp only [s1',s2',s3']
       refine tk (i:=16) (v:=.int .i64 m.labels.length) 112 hHeld ?_
       simp only [s1',s2',s3']
       refine tk (i:=17) (v:=.bool true) 113 hHeld ?_
       simp only [s1',s2',s3']
       refine tk (i:=18) (v:=.bool true) 114 hHeld ?_
       simp only [s1',s2',s3']
       refine wpAnyH_done (by kernel_rfl) ?_ _
       clear hHeld
       go_wp2_with fail
       go_ret
       exact ⟨qg7 (u_ HX).symm,u_ HD⟩
     have HL3:=h_ (u_ HL2 (inR_of (by omega) (by omega)))
     replace HB1:Hid (Below W6.heap.size W6 wr.drew):=h_ (u_ HB1).drew
     go_wp2_with fail
     refine wp_region_held_drew (S:=fun w'=>w'.cell? ⟨w.heap.size,0,none⟩=some (.slice al m.labels.length alc)/\w'.cell? ⟨w.heap.size,2,none⟩=some (.slice (some ⟨pb,po,none⟩) m.roles.length arc)/\w'.cell? ⟨pb,po+k*2+1,none⟩=some (.int .i64 x1)) (by kernel_rfl) ⟨y0,y2,z1⟩ (fun hHeld=>?_)
     refine tk (i:=0) (v:=.pointer (some ⟨w.heap.size,2,none⟩)) 96 hHeld ?_
     simp only [s1',s2',s3']
     refine tk (i:=1) (v:=.slice (some ⟨pb,po,none⟩) m.roles.length arc) 97 hHeld ?_
     simp only [s1',s2',s3']
     refine tk (i:=2) (v:=.int .i64 k) 98 hHeld ?_
     simp only [s1',s2',s3']
     refine tk (i:=3) (v:=.pointer (some ⟨pb,po+k*2,none⟩)) 99 hHeld ?_
     simp only [s1',s2',s3']
     refine tk (i:=4) (v:=.pointer (some ⟨pb,po+k*2+1,none⟩)) 100 hHeld ?_
     simp only [s1',s2',s3']
     refine tk (i:=5) (v:=.int .i64 x1) 101 hHeld ?_
     simp only [s1',s2',s3']
     refine tk (i:=6) (v:=.bool false) 102 hHeld ?_
     simp only [s1',s2',s3']
     refine tk (i:=7) (v:=.bool false) 103 hHeld ?_
     simp only [s1',s2',s3']
     refine tk (i:=8) (v:=.pointer (some ⟨w.heap.size,2,none⟩)) 104 hHeld ?_
     simp only [s1',s2',s3']
     refine tk (i:=9) (v:=.slice (some ⟨pb,po,none⟩) m.roles.length arc) 105 hHeld ?_
     simp only [s1',s2',s3']
     refine tk (i:=10) (v:=.int .i64 k) 106 hHeld ?_
     simp only [s1',s2',s3']
     refine tk (i:=11) (v:=.pointer (some ⟨pb,po+k*2,none⟩)) 107 hHeld ?_
     simp only [s1',s2',s3']
     refine tk (i:=12) (v:=.pointer (some ⟨pb,po+k*2+1,none⟩)) 108 hHeld ?_
     simp only [s1',s2',s3']
     refine tk (i:=13) (v:=.int .i64 x1) 109 hHeld ?_
     simp only [s1',s2',s3']
     refine tk (i:=14) (v:=.pointer (some ⟨w.heap.size,0,none⟩)) 110 hHeld ?_
     simp only [s1',s2',s3']
     refine tk (i:=15) (v:=.slice al m.labels.length alc) 111 hHeld ?_
     simp only [s1',s2',s3']
     refine tk (i:=16) (v:=.int .i64 m.labels.length) 112 hHeld ?_
     simp only [s1',s2',s3']
     refine tk (i:=17) (v:=.bool false) 113 hHeld ?_
     simp only [s1',s2',s3']
     refine tk (i:=18) (v:=.bool false) 114 hHeld ?_
     simp only [s1',s2',s3']
     refine wpAnyH_done (by kernel_rfl) ?_ _
     clear hHeld
     go_wp2_with fail
     go_roundw
     case rel=>first | exact ⟨k+1,by omega,by go_num,u_ HL3,u_ HB1⟩ | ((repeat apply Exists.intro);exact ⟨⟨k+1,by omega,by go_num,u_ HL3,u_ HB1⟩,rfl⟩)
     case measure=>simp [intOf];omega
   obtain rfl:k=m.roles.length:=by omega
   have hlt':¬ (m.roles.length:Int)<(m.roles.length:Int):=by omega
   have HRo:Hid (∀ x,x ∈ m.roles->inR m.labels.length x.lb=true):=h_ fun x hx=>by
    obtain ⟨j,hj,rfl⟩:=List.mem_iff_getElem.1 hx
    exact u_ HL j hj hj
   replace HK:=HKr;replace HS:=HSr;replace HN:=h_ ((u_ HN).mono (u_ HB1));replace HB:=HBw
   go_wp2_with fail
   clear y0 y1 y2 y3 HB1 HL hlt hlt' HKr HSr HBw
   obtain ⟨W7,hW7⟩:∃ W7,wr=W7:=⟨_,rfl⟩
   rw [hW7] at HB HS HN HK ⊢
   clear hW7
   go_loopw [6] (fun i wr=>∃ (k:Nat),k<=m.fields.length/\i=.int .i64 k/\(∀ j (h:j<m.fields.length),j<k->fieldOk m.labels.length m.roles.length m.fields[j]=true/\fieldKnows (fNames m) m.fields[j]=true)/\Below W7.heap.size W7 wr) (fun i _=>m.fields.length - (intOf i).toNat)
   case atStart=>exact ⟨0,Nat.zero_le _,rfl,fun j _ hj=>absurd hj (Nat.not_lt_zero _),Below.refl _ _⟩
   case round =>
    obtain ⟨k,hk,rfl,hall,hb⟩:=hrel
    have HL:=h_ hall;have HB1:=h_ hb;have HKr:=mB HK hb;have HSr:=h_ ((u_ HS).mono hb);have HNr:=h_ ((u_ HN).mono hb)
    have HBw:=mT HB hb
    clear hall hb
    by_cases hlt:k<m.fields.length
    . have hlt':(k:Int)<m.fields.length:=by omega
      obtain ⟨Wr,hWr⟩:∃ Wr,wr=Wr:=⟨_,rfl⟩
      rw [hWr] at HB1 HKr HSr HNr HBw ⊢
      clear hWr
      obtain ⟨pb,po,rfl,hcel,hsl⟩:=(u_ HSr).f k hlt
      have HM1:Hid (VfA m->fieldOk m.labels.length m.roles.length m.fields[k]=true/\fieldKnows (fNames m) m.fields[k]=true):=h_ fun v=>⟨v.fi _ (List.getElem_mem hlt),v.kn _ (List.getElem_mem hlt)⟩
      have HL2:Hid (fieldOk m.labels.length m.roles.length m.fields[k]=true->fieldKnows (fNames m) m.fields[k]=true->∀ j (h:j<m.fields.length),j<k+1->fieldOk m.labels.length m.roles.length m.fields[j]=true/\fieldKnows (fNames m) m.fields[j]=true):=h_ fun g1 g2 j h hj=>by
       by_cases ej:j=k
       . subst ej;exact ⟨g1,g2⟩
       . exact u_ HL j h (by omega)
      have HFf:=h_ ((u_ HF).f _ (List.getElem_mem hlt))
      obtain ⟨fa,hfa⟩:∃ fa,afa k=fa:=⟨_,rfl⟩
      dsimp only at hcel hsl
      rw [hfa] at hcel hsl
      have HCl:=h_ hcel;have HSf:=h_ hsl
      clear hcel hsl hfa
      generalize m.fields[k]=f at *
      obtain ⟨ab,abc,ai,aic,ah,ahc,av,avc,au,auc⟩:=fa
      have HC1:=h_ (q0k f ⟨ab,abc,ai,aic,ah,ahc,av,avc,au,auc⟩ m ⟨al,alc,ap,apc,ar,arc,some ⟨pb,po,none⟩,afc,afa⟩ Wr.drew (u_ HFf) ((u_ HSf).mono (Below.refl _ _).drew))
      unfold fV mV at HC1
      dsimp only at HC1
      have HC2:Hid (∀ W8,Below Wr.heap.size Wr W8->Calls Tryz.prog 110 #[.agg #[.string f.nm,.int .i64 f.ty,.int .i64 f.lb,.slice ab f.bys.length abc,.slice ai f.is.length aic,.slice ah f.wh.length ahc,.slice av f.va.length avc,.string f.sy,.slice au f.mu.length auc],.slice an m.fields.length cn] W8 fun r w'=>r=.returned (.bool (fieldKnows (fNames m) f))/\Below W8.heap.size W8 w'):=h_ fun W8 hb=>by
       have h:=q0p f ⟨ab,abc,ai,aic,ah,ahc,av,avc,au,auc⟩ an cn (fNames m) W8 (u_ HFf) (by rw [<- u_ HE2];exact hfl) ((u_ HSf).mono hb) ((u_ HNr).mono hb)
       rw [<- u_ HE2] at h
       exact h
      generalize fieldOk m.labels.length m.roles.length f=g1 at *
      generalize fieldKnows (fNames m) f=g2 at *
      obtain ⟨y0,y1,y2,y3⟩:=quad (u_ HKr)
      go_wp2_with fail
      clear y0 y1 y2 y3
      refine wp_region_held_drew (S:=fun w'=>Blk w' w.heap.size 37 [.slice al m.labels.length alc,.slice ap m.below.length apc,.slice ar m.roles.length arc,.slice (some ⟨pb,po,none⟩) m.fields.length afc]/\FCel w' pb (po+k*9) f ⟨ab,abc,ai,aic,ah,ahc,av,avc,au,auc⟩) (by kernel_rfl) ⟨u_ HKr,u_ HCl⟩ (fun hHeld=>?_)
      refine tk (i:=0) (v:=.pointer (some ⟨w.heap.size,3,none⟩)) 122 hHeld ?_
      simp only [s1',s2',s3']
      refine tk (i:=1) (v:=.slice (some ⟨pb,po,none⟩) m.fields.length afc) 123 hHeld ?_ (hy:=fun w hS=>by obtain ⟨hk,-,q0,q1,q2,q3,q4,q5,q6,q7,q8⟩:=hS;obtain ⟨-,-,-,p3⟩:=quad hk;simp [execOp,go_sem,p3])
      simp only [s1',s2',s3']
      refine tk (i:=2) (v:=.int .i64 k) 124 hHeld ?_
      simp only [s1',s2',s3']
      refine tk (i:=3) (v:=.pointer (some ⟨pb,po+k*9,none⟩)) 125 hHeld ?_
      simp only [s1',s2',s3']
      refine tk (i:=4) (v:=.agg #[.string f.nm,.int .i64 f.ty,.int .i64 f.lb,.slice ab f.bys.length abc,.slice ai f.is.length aic,.slice ah f.wh.length ahc,.slice av f.va.length avc,.string f.sy,.slice au f.mu.length auc]) 126 hHeld ?_ (hy:=fun w hS=>by obtain ⟨hk,-,q0,q1,q2,q3,q4,q5,q6,q7,q8⟩:=hS;simp [execOp,go_sem,q0,q1,q2,q3,q4,q5,q6,q7,q8])
      simp only [s1',s2',s3']
      refine tk (i:=5) (v:=.agg #[.slice al m.labels.length alc,.slice ap m.below.length apc,.slice ar m.roles.length arc,.slice (some ⟨pb,po,none⟩) m.fields.length afc]) 127 hHeld ?_ (hy:=fun w hS=>by obtain ⟨hk,-,q0,q1,q2,q3,q4,q5,q6,q7,q8⟩:=hS;obtain ⟨p0,p1,p2,p3⟩:=quad hk;simp [execOp,go_sem,p0,p1,p2,p3])
      simp only [s1',s2',s3']
      refine callY (i:=6) (f:=109) (args:=#[.agg #[.string f.nm,.int .i64 f.ty,.int .i64 f.lb,.slice ab f.bys.length abc,.slice ai f.is.length aic,.slice ah f.wh.length ahc,.slice av f.va.length avc,.string f.sy,.slice au f.mu.length auc],.agg #[.slice al m.labels.length alc,.slice ap m.below.length apc,.slice ar m.roles.length arc,.slice (some ⟨pb,po,none⟩) m.fields.length afc]]) (R:=fun r wz=>r=.bool g1/\Below Wr.heap.size Wr wz) 128 rfl rfl (by rfl) (by kernel_rfl) (by simp [execOp,go_sem]) ((u_ HC1).mono fun e w6 ⟨he,hb⟩=>⟨_,he,rfl,q2z hb⟩) ?_
      rintro r3 W8 ⟨rfl,hb8⟩
      have HB8:=h_ hb8
      replace hHeld:Blk W8 w.heap.size 37 [.slice al m.labels.length alc,.slice ap m.below.length apc,.slice ar m.roles.length arc,.slice (some ⟨pb,po,none⟩) m.fields.length afc]/\FCel W8 pb (po+k*9) f ⟨ab,abc,ai,aic,ah,ahc,av,avc,au,auc⟩:=⟨(u_ HKr).mono hb8 (u_ HKr).lt,(u_ HCl).mono hb8⟩
      clear hb8
      refine ⟨hHeld,?_⟩
      simp only [s1',s2',s3']
      have HBw8:Hid (Below w.heap.size w W8):=h_ ((u_ HBw).trans ((u_ HB8).mono (u_ HBw).size))
      have HB78:Hid (Below W7.heap.size W7 W8):=h_ ((u_ HB1).trans ((u_ HB8).mono (u_ HB1).size))
      cases g1
      . have HX:Hid (q=false):=h_ (u_ HF0 fun v=>by have:=(u_ HM1 v).1;cases this)
        refine tk (i:=7) (v:=.bool true) 129 hHeld ?_
        simp only [s1',s2',s3']
        refine tk (i:=8) (v:=.bool true) 130 hHeld ?_
        simp only [s1',s2',s3']
        refine tn (i:=9) 131 hHeld ?_
        simp only [s1',s2',s3']
        refine tn (i:=10) 132 hHeld ?_
        simp only [s1',s2',s3']
        refine tn (i:=11) 133 hHeld ?_
        simp only [s1',s2',s3']
        refine tn (i:=12) 134 hHeld ?_
        simp only [s1',s2',s3']
        refine tn (i:=13) 135 hHeld ?_
        simp only [s1',s2',s3']
        refine tn (i:=14) 136 hHeld ?_
        simp only [s1',s2',s3']
        refine tn (i:=15) 137 hHeld ?_
        simp only [s1',s2',s3']
        refine tn (i:=16) 138 hHeld ?_
        simp only [s1',s2',s3']
        refine tk (i:=17) (v:=.bool true) 139 hHeld ?_
        simp only [s1',s2',s3']
        refine wpAnyH_done (by kernel_rfl) ?_ _
        clear hHeld
        go_wp2_with fail
        go_ret
        exact ⟨qg7 (u_ HX).symm,u_ HBw8⟩
      refine tk (i:=7) (v:=.bool false) 129 hHeld ?_
      simp only [s1',s2',s3']
      refine tk (i:=8) (v:=.bool false) 130 hHeld ?_
      simp only [s1',s2',s3']
      refine tk (i:=9) (v:=.pointer (some ⟨w.heap.size,3,none⟩)) 131 hHeld ?_
      simp only [s1',s2',s3']
      refine tk (i:=10) (v:=.slice (some ⟨pb,po,none⟩) m.fields.length afc) 132 hHeld ?_ (hy:=fun w hS=>by obtain ⟨hk,-,q0,q1,q2,q3,q4,q5,q6,q7,q8⟩:=hS;obtain ⟨-,-,-,p3⟩:=quad hk;simp [execOp,go_sem,p3])
      simp only [s1',s2',s3']
      refine tk (i:=11) (v:=.int .i64 k) 133 hHeld ?_
      simp only [s1',s2',s3']
      refine tk (i:=12) (v:=.pointer (some ⟨pb,po+k*9,none⟩)) 134 hHeld ?_
      simp only [s1',s2',s3']
      refine tk (i:=13) (v:=.agg #[.string f.nm,.int .i64 f.ty,.int .i64 f.lb,.slice ab f.bys.length abc,.slice ai f.is.length aic,.slice ah f.wh.length ahc,.slice av f.va.length avc,.string f.sy,.slice au f.mu.length auc]) 135 hHeld ?_ (hy:=fun w hS=>by obtain ⟨hk,-,q0,q1,q2,q3,q4,q5,q6,q7,q8⟩:=hS;simp [execOp,go_sem,q0,q1,q2,q3,q4,q5,q6,q7,q8])
      simp only [s1',s2',s3']
      refine tk (i:=14) (v:=.slice an m.fields.length cn) 136 hHeld ?_
      simp only [s1',s2',s3']
      have HC2':=u_ HC2 W8 (u_ HB8)
      refine callY (i:=15) (f:=110) (args:=#[.agg #[.string f.nm,.int .i64 f.ty,.int .i64 f.lb,.slice ab f.bys.length abc,.slice ai f.is.length aic,.slice ah f.wh.length ahc,.slice av f.va.length avc,.string f.sy,.slice au f.mu.length auc],.slice an m.fields.length cn]) (R:=fun r wz=>r=.bool g2/\Below W8.heap.size W8 wz) 137 rfl rfl (by rfl) (by kernel_rfl) (by simp [execOp,go_sem]) ((HC2').mono fun e w6 ⟨he,hb⟩=>⟨_,he,rfl,hb⟩) ?_
      rintro r3 W9 ⟨rfl,hb9⟩
      have HBw9:Hid (Below w.heap.size w W9):=mT HBw8 hb9
      have HB79:Hid (Below W7.heap.size W7 W9):=mT HB78 hb9
      replace hHeld:Blk W9 w.heap.size 37 [.slice al m.labels.length alc,.slice ap m.below.length apc,.slice ar m.roles.length arc,.slice (some ⟨pb,po,none⟩) m.fields.length afc]/\FCel W9 pb (po+k*9) f ⟨ab,abc,ai,aic,ah,ahc,av,avc,au,auc⟩:=⟨hHeld.1.mono hb9 hHeld.1.lt,hHeld.2.mono hb9⟩
      clear hb9
      refine ⟨hHeld,?_⟩
      simp only [s1',s2',s3']
      cases g2
      . have HX:Hid (q=false):=h_ (u_ HF0 fun v=>by have:=(u_ HM1 v).2;cases this)
        refine tk (i:=16) (v:=.bool true) 138 hHeld ?_
        simp only [s1',s2',s3']
        refine tk (i:=17) (v:=.bool true) 139 hHeld ?_
        simp only [s1',s2',s3']
        refine wpAnyH_done (by kernel_rfl) ?_ _
        clear hHeld
        go_wp2_with fail
        go_ret
        exact ⟨qg7 (u_ HX).symm,u_ HBw9⟩
      have HL3:=h_ (u_ HL2 rfl rfl)
      refine tk (i:=16) (v:=.bool false) 138 hHeld ?_
      simp only [s1',s2',s3']
      refine tk (i:=17) (v:=.bool false) 139 hHeld ?_
      simp only [s1',s2',s3']
      refine wpAnyH_done (by kernel_rfl) ?_ _
      clear hHeld
      go_wp2_with fail
      go_roundw
      case rel=>first | exact ⟨k+1,by omega,by go_num,u_ HL3,u_ HB79⟩ | ((repeat apply Exists.intro);exact ⟨⟨k+1,by omega,by go_num,u_ HL3,u_ HB79⟩,rfl⟩)
      case measure=>simp [intOf];omega
    obtain rfl:k=m.fields.length:=by omega
    have hlt':¬ (m.fields.length:Int)<(m.fields.length:Int):=by omega
    have HVv:Hid (VfA m):=h_ ⟨by omega,by omega,by omega,by omega,u_ HN1,u_ HN2,u_ HN3,u_ HP,u_ HRo,fun x hx=>by
     obtain ⟨j,hj,rfl⟩:=List.mem_iff_getElem.1 hx
     exact (u_ HL j hj hj).1,fun x hx=>by
     obtain ⟨j,hj,rfl⟩:=List.mem_iff_getElem.1 hx
     exact (u_ HL j hj hj).2⟩
    have HC:=h_ (q0v m ⟨al,alc,ap,apc,ar,arc,af,afc,afa⟩ wr (u_ HF) (u_ HVv) (u_ HSr))
    have HQ:Hid (q=decide ((cT m).length<=30000)):=h_ (u_ HT0 (u_ HVv))
    obtain ⟨T,hT⟩:∃ T:ByteArray,⟨(cT m).toArray⟩=T:=⟨_,rfl⟩
    have hTs:T.size=(cT m).length:=by rw [<- hT];rfl
    have hTb:(cT m).length<=3714016:=by rw [<- c4_all];exact c4_len (u_ HVv) _
    rw [<- hTs] at HQ hTb
    rw [hT] at HC
    unfold mV at HC
    dsimp only at HC
    clear hT hTs
    obtain ⟨y0,y1,y2,y3⟩:=quad (u_ HKr)
    go_wp2_with fail
    refine (u_ HC).mono ?_
    rintro r W9 ⟨rfl,hb9⟩
    have HBw9:Hid (Below w.heap.size w W9):=mT HBw hb9
    clear hb9
    have HQ2:Hid (q=decide ((T.size:Int)<=30000)):=h_ (by rw [u_ HQ];exact decide_eq_decide.2 (by omega))
    go_wp2_with fail
    go_ret
    exact ⟨qg7 (u_ HQ2).symm,u_ HBw9⟩
end Go.Proofs.YtnhjjaminkhiiaaGreatDoor
