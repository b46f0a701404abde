import Derived.Test.YtgkcaeidhkddjaaGreatDoorXGF
set_option maxRecDepth 100000
set_option maxHeartbeats 20000000
namespace Go.Proofs.YtgkcaeidhkddjaaGreatDoor
open Go Go.RowKit
theorem qgj (w:World) (l:List ByteArray):Strs (w.alloc (.cells (stV l).toArray 9)) (some ⟨w.heap.size,0,none⟩) l:=fun k hk=>by
 refine ⟨w.heap.size,0,rfl,by simp,?_⟩
 have:=(Blk.new w 9 (stV l).toArray).cell k
 rw [Nat.zero_add,this]
 simp [stV,List.getElem?_eq_getElem hk]
theorem bl_new (w:World):Bl (w.alloc (.cells #[.pointer none,.slice none 0 0] 130)) w.heap.size w.heap.size [] :=
 .inl ⟨nR _,.slice none 0 0,(MapKept.heap_alloc w _).1,World.ownsRowF_of (World.ownsRow_nil _ _ _ _),fun h=>by cases h⟩
theorem q08 (B b:Nat) (l:List UInt8) (w:World) (h:Bl w B b l):Calls Tryz.prog 56 #[.pointer (some ⟨b,0,none⟩)] w fun e w'=>e=.returned (.string ⟨l.toArray⟩)/\Below B w w' :=
 (Any.Builder_String_any_f Tryz.lays169 Tryz.Builder_Extra_169 B b l w h h.le).mono fun _ _ ⟨h1,_,h3⟩=>⟨h1,h3⟩
theorem q09 (m:Fm) (A:MA) (w:World) (hf:FitM m) (hv:VfA m) (ha:MSl w m A) (ht:Tabs w) (hy:TyW w) :
 Calls Tryz.prog 168 #[mV m A] w fun r w'=>r=.returned (.string ⟨(cT m).toArray⟩)/\Below w.heap.size w w':=by
 obtain ⟨al,alc,ap,apc,ar,arc,af,afc,afa⟩:=A
 unfold mV
 dsimp only
 have HK:=h_ ((Blk.new w 36 #[.slice al m.L.length alc,.slice ap m.P.length apc,.slice ar m.R.length arc,.slice af m.F.length afc]).alloc (.cells #[.pointer none,.slice none 0 0] 130))
 have HB:=h_ (((bR w.heap.size w).alloc (nR _) (.cells #[.slice al m.L.length alc,.slice ap m.P.length apc,.slice ar m.R.length arc,.slice af m.F.length afc] 36)).alloc (by simp) (.cells #[.pointer none,.slice none 0 0] 130))
 have HBl:=h_ (bl_new (w.alloc (.cells #[.slice al m.L.length alc,.slice ap m.P.length apc,.slice ar m.R.length arc,.slice af m.F.length afc] 36)))
 rw [World.size_alloc] at HBl
 obtain ⟨W0,hW0⟩:∃ W0,(w.alloc (.cells #[.slice al m.L.length alc,.slice ap m.P.length apc,.slice ar m.R.length arc,.slice af m.F.length afc] 36)).alloc (.cells #[.pointer none,.slice none 0 0] 130)=W0:=⟨_,rfl⟩
 have hsz:w.heap.size+2<=W0.heap.size:=by rw [<- hW0];simp
 rw [hW0] at HK HB HBl
 have HS:=h_ ha;have HF:=h_ hf;have HV:=h_ hv;have HT:=h_ ht;have HY:=h_ hy
 have nl:=hv.nl;have np:=hv.np;have nr:=hv.nr;have nfl:=hv.nf
 clear ha hf hv ht hy
 obtain ⟨y0,y1,y2,y3⟩:=quad (u_ HK)
 go_enter Tryz.func168,Tryz.ntmps168
 go_wp2_with fail
 try rw [hW0]
 clear hW0 y0 y1 y2 y3
 go_loopw [15] (fun i wr=>∃ k:Nat,k<=m.L.length/\i=.int .i64 k/\Bl wr (w.heap.size+1) (w.heap.size+1) (c1 m k)/\Below (w.heap.size+1) W0 wr) (fun i _=>m.L.length - (intOf i).toNat)
 case atStart=>exact ⟨0,nZ _,rfl,by rw [qhl];exact u_ HBl,bR _ _⟩
 case round =>
  clear HBl
  obtain ⟨k,hk,rfl,hbl,hb⟩:=hrel
  have HBl:=h_ hbl;have HB1:=h_ hb
  have HKr:=h_ ((u_ HK).mono hb (by omega))
  have HBw:=h_ ((u_ HB).trans (hb.mono (by omega)))
  have HSr:=h_ ((u_ HS).mono (u_ HBw))
  have hws:=hb.size
  obtain ⟨y0,y1,y2,y3⟩:=quad (u_ HKr)
  clear hbl hb
  by_cases hlt:k<m.L.length
  . have hlt':(k:Int)<m.L.length:=by omega
    obtain ⟨b,o,rfl,-,z0⟩:=(u_ HSr).l k hlt
    have HT2:Hid (c1 m (k+1)=c1 m k++(jw [⟨#[108,97,98,101,108]⟩,m.L[k]]++[59,10])):=h_ (by rw [jw_lab];exact qhk m k hlt)
    have HLn:Hid ((c1 m k).length+(jw [⟨#[108,97,98,101,108]⟩,m.L[k]]).length<=100000000):=h_ (by
     have h1:=c1_len (u_ HV) (k+1)
     rw [u_ HT2,List.length_append,List.length_append] at h1
     omega)
    generalize m.L[k]=x at *
    have HBa:=h_ ((bR wr.heap.size wr).alloc (nR _) (.cells #[.string ⟨#[108,97,98,101,108]⟩,.string x] 9))
    have HC:=h_ (q07 (w.heap.size+1) (w.heap.size+1) (c1 m k) (some ⟨wr.heap.size,0,none⟩) 2 [⟨#[108,97,98,101,108]⟩,x] _ ((u_ HBl).mono (u_ HBa)) (by simp) (by simp) (by simp) (qgj wr [⟨#[108,97,98,101,108]⟩,x]) (u_ HLn))
    go_wp2_with fail
    refine (u_ HC).mono ?_
    rintro r W5 ⟨rfl,hl5,hb5,-⟩
    have HL5:Hid (Bl W5 (w.heap.size+1) (w.heap.size+1) (c1 m (k+1))):=h_ (by rw [u_ HT2];exact hl5)
    have HB5:=h_ ((u_ HB1).trans (((u_ HBa).mono (by omega)).trans hb5))
    clear hl5 hb5 y0 y1 y2 y3 z0
    go_wp2_with fail
    go_roundw
    case rel=>first | exact ⟨k+1,by omega,by go_num,u_ HL5,u_ HB5⟩ | ((repeat apply Exists.intro);exact ⟨⟨k+1,by omega,by go_num,u_ HL5,u_ HB5⟩,rfl⟩)
    case measure=>simp [intOf];omega
  obtain rfl:k=m.L.length:=by omega
  have hlt':¬ (m.L.length:Int)<(m.L.length:Int):=by omega
  have HBl0:Hid (Bl wr (w.heap.size+1) (w.heap.size+1) (c2 m 0)):=h_ (by rw [qhn];exact u_ HBl)
  go_wp2_with fail
  clear y0 y1 y2 y3 hlt hlt' HSr HKr HBw HBl hws
  obtain ⟨Wa,hWa⟩:∃ W,wr=W:=⟨_,rfl⟩
  rw [hWa] at HBl0 HB1 ⊢
  clear hWa
  go_loopw [26] (fun i wr=>∃ k:Nat,k<=m.P.length/\i=.int .i64 k/\Bl wr (w.heap.size+1) (w.heap.size+1) (c2 m k)/\Below (w.heap.size+1) W0 wr) (fun i _=>m.P.length - (intOf i).toNat)
  case atStart=>exact ⟨0,nZ _,rfl,u_ HBl0,u_ HB1⟩
  case round =>
   clear HBl0 HB1
   obtain ⟨k,hk,rfl,hbl,hb⟩:=hrel
   have HBl:=h_ hbl;have HB1:=h_ hb
   have HKr:=h_ ((u_ HK).mono hb (by omega))
   have HBw:=h_ ((u_ HB).trans (hb.mono (by omega)))
   have HSr:=h_ ((u_ HS).mono (u_ HBw))
   have hws:=hb.size
   obtain ⟨y0,y1,y2,y3⟩:=quad (u_ HKr)
   clear hbl hb
   by_cases hlt:k<m.P.length
   . have hlt':(k:Int)<m.P.length:=by omega
     obtain ⟨pb,po,rfl,-,z0,z1⟩:=(u_ HSr).p k hlt
     have HT2:Hid (c2 m (k+1)=c2 m k++(jw [⟨#[98,101,108,111,119]⟩,labAt m.L m.P[k].1,labAt m.L m.P[k].2]++[59,10])):=h_ (by rw [jw_bel];exact qhm m k hlt)
     have HLn:Hid ((c2 m k).length+(jw [⟨#[98,101,108,111,119]⟩,labAt m.L m.P[k].1,labAt m.L m.P[k].2]).length<=100000000):=h_ (by
      have h1:=c2_len (u_ HV) (k+1)
      rw [u_ HT2,List.length_append,List.length_append] at h1
      omega)
     obtain ⟨hin1,hin2⟩:=(u_ HV).p _ (List.getElem_mem hlt)
     generalize m.P[k]=u at *
     obtain ⟨u1,u2⟩:=u
     dsimp only at hin1 hin2 z0 z1 HT2 HLn
     obtain ⟨lo,rfl,hlo⟩:=qij hin1
     obtain ⟨hi,rfl,hhi⟩:=qij hin2
     rw [qbr hlo,qbr hhi] at HT2 HLn
     obtain ⟨b,o,rfl,hlbw,zw0⟩:=(u_ HS).l lo hlo
     obtain ⟨b',o',he,-,zw1⟩:=(u_ HS).l hi hhi
     cases he
     have hlo':(lo:Int)<m.L.length:=by omega
     have hhi':(hi:Int)<m.L.length:=by omega
     clear hin1 hin2
     generalize m.L[lo]=x at *
     generalize m.L[hi]=y at *
     have HKp:=h_ (Blk.new wr 104 #[.int .i64 lo,.int .i64 hi])
     have HBp:=h_ ((bR wr.heap.size wr).alloc (nR _) (.cells #[.int .i64 lo,.int .i64 hi] 104))
     obtain ⟨Wd,hWd⟩:∃ Wd,wr.alloc (.cells #[.int .i64 lo,.int .i64 hi] 104)=Wd:=⟨_,rfl⟩
     rw [hWd] at HKp HBp
     have HKd:=h_ ((u_ HKr).mono (u_ HBp) (u_ HKr).lt)
     have HBld:=h_ ((u_ HBl).mono (u_ HBp))
     have HBd:=h_ ((u_ HB1).trans ((u_ HBp).mono (by omega)))
     have hds:=(u_ HBp).size
     have HBwd:=h_ ((u_ HBw).trans ((u_ HBp).mono (by omega)))
     have zz0:=((u_ HBwd).cell (p:=⟨b,o+lo,none⟩) hlbw).trans zw0
     have zz1:=((u_ HBwd).cell (p:=⟨b,o+hi,none⟩) hlbw).trans zw1
     clear zw0 zw1
     go_wp2_with fail
     try rw [hWd]
     clear hWd y0 y1 y2 y3
     refine wp_region_held_drew (S:=fun w'=>Blk w' w.heap.size 36 [.slice (some ⟨b,o,none⟩) m.L.length alc,.slice (some ⟨pb,po,none⟩) m.P.length apc,.slice ar m.R.length arc,.slice af m.F.length afc]/\Blk w' wr.heap.size 104 [.int .i64 lo,.int .i64 hi]/\w'.cell? ⟨b,o+lo,none⟩=some (.string x)/\w'.cell? ⟨b,o+hi,none⟩=some (.string y)) (by kernel_rfl) ⟨u_ HKd,u_ HKp,zz0,zz1⟩ (fun zz=>?_)
     refine tk 0 30 (.pointer (some ⟨w.heap.size,0,none⟩)) zz ?_
     refine tk 1 31 (.slice (some ⟨b,o,none⟩) m.L.length alc) zz ?_ (hy:=fun w hS=>by obtain ⟨h1,h2,q2,q3⟩:=hS;obtain ⟨p0,p1,p2,p3⟩:=quad h1;obtain ⟨r0,r1⟩:=duo h2;simp [execOp,go_sem, *])
     refine tk 2 32 (.pointer (some ⟨wr.heap.size,0,none⟩)) zz ?_
     refine tk 3 33 (.int .i64 lo) zz ?_ (hy:=fun w hS=>by obtain ⟨h1,h2,q2,q3⟩:=hS;obtain ⟨p0,p1,p2,p3⟩:=quad h1;obtain ⟨r0,r1⟩:=duo h2;simp [execOp,go_sem, *])
     simp only [sX,sY,sZ]
     refine tk 4 34 (.pointer (some ⟨b,o+lo,none⟩)) zz ?_
     refine tk 5 35 (.string x) zz ?_ (hy:=fun w hS=>by obtain ⟨h1,h2,q2,q3⟩:=hS;obtain ⟨p0,p1,p2,p3⟩:=quad h1;obtain ⟨r0,r1⟩:=duo h2;simp [execOp,go_sem, *])
     refine tk 6 36 (.pointer (some ⟨w.heap.size,0,none⟩)) zz ?_
     refine tk 7 37 (.slice (some ⟨b,o,none⟩) m.L.length alc) zz ?_ (hy:=fun w hS=>by obtain ⟨h1,h2,q2,q3⟩:=hS;obtain ⟨p0,p1,p2,p3⟩:=quad h1;obtain ⟨r0,r1⟩:=duo h2;simp [execOp,go_sem, *])
     simp only [sX,sY,sZ]
     refine tk 8 38 (.pointer (some ⟨wr.heap.size,1,none⟩)) zz ?_
     refine tk 9 39 (.int .i64 hi) zz ?_ (hy:=fun w hS=>by obtain ⟨h1,h2,q2,q3⟩:=hS;obtain ⟨p0,p1,p2,p3⟩:=quad h1;obtain ⟨r0,r1⟩:=duo h2;simp [execOp,go_sem, *])
     refine tk 10 40 (.pointer (some ⟨b,o+hi,none⟩)) zz ?_
     refine tk 11 41 (.string y) zz ?_ (hy:=fun w hS=>by obtain ⟨h1,h2,q2,q3⟩:=hS;obtain ⟨p0,p1,p2,p3⟩:=quad h1;obtain ⟨r0,r1⟩:=duo h2;simp [execOp,go_sem, *])
     simp only [sX,sY,sZ]
     have HDd:Hid (Below Wd.heap.size Wd Wd.drew):=h_ (bR _ _).drew
     replace HBl:=h_ ((u_ HBld).mono (u_ HDd));replace HBd:=h_ ((u_ HBd).trans ((u_ HDd).mono (by omega)))
     obtain ⟨V,hV⟩:∃ V,Wd.drew=V:=⟨_,rfl⟩
     have hvs:=(u_ HBd).size
     rw [hV] at HBl HBd zz hvs ⊢
     clear hV HDd HBld
     have HBa:=h_ ((bR V.heap.size V).alloc (nR _) (.cells #[.string ⟨#[98,101,108,111,119]⟩,.string x,.string y] 9))
     have HStr:=h_ (qgj V [⟨#[98,101,108,111,119]⟩,x,y])
     replace HBl:=h_ ((u_ HBl).mono (u_ HBa))
     replace zz:Blk (V.alloc (.cells #[.string ⟨#[98,101,108,111,119]⟩,.string x,.string y] 9)) w.heap.size 36 [.slice (some ⟨b,o,none⟩) m.L.length alc,.slice (some ⟨pb,po,none⟩) m.P.length apc,.slice ar m.R.length arc,.slice af m.F.length afc]/\Blk (V.alloc (.cells #[.string ⟨#[98,101,108,111,119]⟩,.string x,.string y] 9)) wr.heap.size 104 [.int .i64 lo,.int .i64 hi]/\(V.alloc (.cells #[.string ⟨#[98,101,108,111,119]⟩,.string x,.string y] 9)).cell? ⟨b,o+lo,none⟩=some (.string x)/\(V.alloc (.cells #[.string ⟨#[98,101,108,111,119]⟩,.string x,.string y] 9)).cell? ⟨b,o+hi,none⟩=some (.string y):=⟨zz.1.mono (u_ HBa) zz.1.lt,zz.2.1.mono (u_ HBa) zz.2.1.lt,((u_ HBa).cell (p:=⟨b,o+lo,none⟩) (show b<V.heap.size by omega)).trans zz.2.2.1,((u_ HBa).cell (p:=⟨b,o+hi,none⟩) (show b<V.heap.size by omega)).trans zz.2.2.2⟩
     refine runY (i:=12) (v:=.slice (some ⟨V.heap.size,0,none⟩) 3 3) (w':=V.alloc (.cells #[.string ⟨#[98,101,108,111,119]⟩,.string x,.string y] 9)) 42 rfl rfl (by rfl) (by kernel_rfl) (by simp [execOp,go_sem]) zz ?_
     simp only [sX,sY,sZ]
     obtain ⟨V2,hV2⟩:∃ V2,V.alloc (.cells #[.string ⟨#[98,101,108,111,119]⟩,.string x,.string y] 9)=V2:=⟨_,rfl⟩
     replace HBd:=h_ ((u_ HBd).trans ((u_ HBa).mono (by omega)))
     change Hid (Bl (V.alloc (.cells #[.string ⟨#[98,101,108,111,119]⟩,.string x,.string y] 9)) _ _ _) at HBl
     change Hid (Strs (V.alloc (.cells #[.string ⟨#[98,101,108,111,119]⟩,.string x,.string y] 9)) _ _) at HStr
     rw [hV2] at HBl HStr zz HBd ⊢
     have hv2:=(u_ HBd).size
     clear hV2 HBa
     refine callY (i:=13) (f:=202) (args:=#[.pointer (some ⟨w.heap.size+1,0,none⟩),.slice (some ⟨V.heap.size,0,none⟩) 3 3]) (R:=fun r wz=>r=.tuple #[]/\Bl wz (w.heap.size+1) (w.heap.size+1) (c2 m (k+1))/\Below (w.heap.size+1) V2 wz/\Oth (w.heap.size+1) V2 wz) 43 rfl rfl (by rfl) (by kernel_rfl) (by simp [execOp,go_sem]) ((q07 (w.heap.size+1) (w.heap.size+1) (c2 m k) (some ⟨V.heap.size,0,none⟩) 3 [⟨#[98,101,108,111,119]⟩,x,y] V2 (u_ HBl) (by simp) (by simp) (by simp) (u_ HStr) (by have:=u_ HLn;omega)).mono fun e w6 ⟨he,h1,h2,h3⟩=>⟨_,he,rfl,by rw [<- u_ HT2] at h1;exact h1,h2,h3⟩) ?_
     rintro r3 W5 ⟨rfl,hl5,hb5,ho5⟩
     have HL5:=h_ hl5;have HB5:=h_ ((u_ HBd).trans hb5)
     replace zz:Blk W5 w.heap.size 36 [.slice (some ⟨b,o,none⟩) m.L.length alc,.slice (some ⟨pb,po,none⟩) m.P.length apc,.slice ar m.R.length arc,.slice af m.F.length afc]/\Blk W5 wr.heap.size 104 [.int .i64 lo,.int .i64 hi]/\W5.cell? ⟨b,o+lo,none⟩=some (.string x)/\W5.cell? ⟨b,o+hi,none⟩=some (.string y):=⟨zz.1.oth ho5 (by omega) (by decide),zz.2.1.oth ho5 (by omega) (by decide),(hb5.cell (p:=⟨b,o+lo,none⟩) (show b<w.heap.size+1 by omega)).trans zz.2.2.1,(hb5.cell (p:=⟨b,o+hi,none⟩) (show b<w.heap.size+1 by omega)).trans zz.2.2.2⟩
     clear hl5 hb5 ho5
     refine ⟨zz,?_⟩
     simp only [sX,sY,sZ]
     refine wpAnyH_done (by kernel_rfl) ?_ _
     clear zz
     go_wp2_with fail
     go_roundw
     case rel=>first | exact ⟨k+1,by omega,by go_num,u_ HL5,u_ HB5⟩ | ((repeat apply Exists.intro);exact ⟨⟨k+1,by omega,by go_num,u_ HL5,u_ HB5⟩,rfl⟩)
     case measure=>simp [intOf];omega
   obtain rfl:k=m.P.length:=by omega
   have hlt':¬ (m.P.length:Int)<(m.P.length:Int):=by omega
   have HBl0:Hid (Bl wr (w.heap.size+1) (w.heap.size+1) (c3 m 0)):=h_ (by rw [qhp];exact u_ HBl)
   go_wp2_with fail
   clear y0 y1 y2 y3 hlt hlt' HSr HKr HBw HBl hws
   obtain ⟨Wb,hWb⟩:∃ W,wr=W:=⟨_,rfl⟩
   rw [hWb] at HBl0 HB1 ⊢
   clear hWb
   go_loopw [48] (fun i wr=>∃ k:Nat,k<=m.R.length/\i=.int .i64 k/\Bl wr (w.heap.size+1) (w.heap.size+1) (c3 m k)/\Below (w.heap.size+1) W0 wr) (fun i _=>m.R.length - (intOf i).toNat)
   case atStart=>exact ⟨0,nZ _,rfl,u_ HBl0,u_ HB1⟩
   case round =>
    clear HBl0 HB1
    obtain ⟨k,hk,rfl,hbl,hb⟩:=hrel
    have HBl:=h_ hbl;have HB1:=h_ hb
    have HKr:=h_ ((u_ HK).mono hb (by omega))
    have HBw:=h_ ((u_ HB).trans (hb.mono (by omega)))
    have HSr:=h_ ((u_ HS).mono (u_ HBw))
    have hws:=hb.size
    obtain ⟨y0,y1,y2,y3⟩:=quad (u_ HKr)
    clear hbl hb
    by_cases hlt:k<m.R.length
    . have hlt':(k:Int)<m.R.length:=by omega
      obtain ⟨pb,po,rfl,-,z0,z1⟩:=(u_ HSr).r k hlt
      have HT2:Hid (c3 m (k+1)=c3 m k++(jw [⟨#[114,111,108,101]⟩,m.R[k].nm,⟨#[97,116]⟩,labAt m.L m.R[k].lb]++[59,10])):=h_ (by rw [jw_rol];exact qho m k hlt)
      have HLn:Hid ((c3 m k).length+(jw [⟨#[114,111,108,101]⟩,m.R[k].nm,⟨#[97,116]⟩,labAt m.L m.R[k].lb]).length<=100000000):=h_ (by
       have h1:=c3_len (u_ HV) (k+1)
       rw [u_ HT2,List.length_append,List.length_append] at h1
       omega)
      have hin2:=(u_ HV).ro _ (List.getElem_mem hlt)
      generalize m.R[k]=u at *
      obtain ⟨x,u2⟩:=u
      dsimp only at hin2 z0 z1 HT2 HLn
      obtain ⟨hi,rfl,hhi⟩:=qij hin2
      rw [qbr hhi] at HT2 HLn
      obtain ⟨b,o,rfl,hlbw,zw1⟩:=(u_ HS).l hi hhi
      have hhi':(hi:Int)<m.L.length:=by omega
      clear hin2
      generalize m.L[hi]=y at *
      have HKp:=h_ (Blk.new wr 102 #[.string x,.int .i64 hi])
      have HBp:=h_ ((bR wr.heap.size wr).alloc (nR _) (.cells #[.string x,.int .i64 hi] 102))
      obtain ⟨Wd,hWd⟩:∃ Wd,wr.alloc (.cells #[.string x,.int .i64 hi] 102)=Wd:=⟨_,rfl⟩
      rw [hWd] at HKp HBp
      have HKd:=h_ ((u_ HKr).mono (u_ HBp) (u_ HKr).lt)
      have HBld:=h_ ((u_ HBl).mono (u_ HBp))
      have HBd:=h_ ((u_ HB1).trans ((u_ HBp).mono (by omega)))
      have hds:=(u_ HBp).size
      have HBwd:=h_ ((u_ HBw).trans ((u_ HBp).mono (by omega)))
      have zz1:=((u_ HBwd).cell (p:=⟨b,o+hi,none⟩) hlbw).trans zw1
      clear zw1
      go_wp2_with fail
      try rw [hWd]
      clear hWd y0 y1 y2 y3
      refine wp_region_held_drew (S:=fun w'=>Blk w' w.heap.size 36 [.slice (some ⟨b,o,none⟩) m.L.length alc,.slice ap m.P.length apc,.slice (some ⟨pb,po,none⟩) m.R.length arc,.slice af m.F.length afc]/\Blk w' wr.heap.size 102 [.string x,.int .i64 hi]/\w'.cell? ⟨b,o+hi,none⟩=some (.string y)) (by kernel_rfl) ⟨u_ HKd,u_ HKp,zz1⟩ (fun zz=>?_)
      refine tk 0 52 (.pointer (some ⟨wr.heap.size,0,none⟩)) zz ?_
      refine tk 1 53 (.string x) zz ?_ (hy:=fun w hS=>by obtain ⟨h1,h2,q2⟩:=hS;obtain ⟨p0,p1,p2,p3⟩:=quad h1;obtain ⟨r0,r1⟩:=duo h2;simp [execOp,go_sem, *])
      refine tk 2 54 (.pointer (some ⟨w.heap.size,0,none⟩)) zz ?_
      refine tk 3 55 (.slice (some ⟨b,o,none⟩) m.L.length alc) zz ?_ (hy:=fun w hS=>by obtain ⟨h1,h2,q2⟩:=hS;obtain ⟨p0,p1,p2,p3⟩:=quad h1;obtain ⟨r0,r1⟩:=duo h2;simp [execOp,go_sem, *])
      simp only [sX,sY,sZ]
      refine tk 4 56 (.pointer (some ⟨wr.heap.size,1,none⟩)) zz ?_
      refine tk 5 57 (.int .i64 hi) zz ?_ (hy:=fun w hS=>by obtain ⟨h1,h2,q2⟩:=hS;obtain ⟨p0,p1,p2,p3⟩:=quad h1;obtain ⟨r0,r1⟩:=duo h2;simp [execOp,go_sem, *])
      refine tk 6 58 (.pointer (some ⟨b,o+hi,none⟩)) zz ?_
      refine tk 7 59 (.string y) zz ?_ (hy:=fun w hS=>by obtain ⟨h1,h2,q2⟩:=hS;obtain ⟨p0,p1,p2,p3⟩:=quad h1;obtain ⟨r0,r1⟩:=duo h2;simp [execOp,go_sem, *])
      simp only [sX,sY,sZ]
      have HDd:Hid (Below Wd.heap.size Wd Wd.drew):=h_ (bR _ _).drew
      replace HBl:=h_ ((u_ HBld).mono (u_ HDd));replace HBd:=h_ ((u_ HBd).trans ((u_ HDd).mono (by omega)))
      obtain ⟨V,hV⟩:∃ V,Wd.drew=V:=⟨_,rfl⟩
      have hvs:=(u_ HBd).size
      rw [hV] at HBl HBd zz hvs ⊢
      clear hV HDd HBld
      have HBa:=h_ ((bR V.heap.size V).alloc (nR _) (.cells #[.string ⟨#[114,111,108,101]⟩,.string x,.string ⟨#[97,116]⟩,.string y] 9))
      have HStr:=h_ (qgj V [⟨#[114,111,108,101]⟩,x,⟨#[97,116]⟩,y])
      replace HBl:=h_ ((u_ HBl).mono (u_ HBa))
      replace zz:Blk (V.alloc (.cells #[.string ⟨#[114,111,108,101]⟩,.string x,.string ⟨#[97,116]⟩,.string y] 9)) w.heap.size 36 [.slice (some ⟨b,o,none⟩) m.L.length alc,.slice ap m.P.length apc,.slice (some ⟨pb,po,none⟩) m.R.length arc,.slice af m.F.length afc]/\Blk (V.alloc (.cells #[.string ⟨#[114,111,108,101]⟩,.string x,.string ⟨#[97,116]⟩,.string y] 9)) wr.heap.size 102 [.string x,.int .i64 hi]/\(V.alloc (.cells #[.string ⟨#[114,111,108,101]⟩,.string x,.string ⟨#[97,116]⟩,.string y] 9)).cell? ⟨b,o+hi,none⟩=some (.string y):=⟨zz.1.mono (u_ HBa) zz.1.lt,zz.2.1.mono (u_ HBa) zz.2.1.lt,((u_ HBa).cell (p:=⟨b,o+hi,none⟩) (show b<V.heap.size by omega)).trans zz.2.2⟩
      refine runY (i:=8) (v:=.slice (some ⟨V.heap.size,0,none⟩) 4 4) (w':=V.alloc (.cells #[.string ⟨#[114,111,108,101]⟩,.string x,.string ⟨#[97,116]⟩,.string y] 9)) 60 rfl rfl (by rfl) (by kernel_rfl) (by simp [execOp,go_sem]) zz ?_
      simp only [sX,sY,sZ]
      obtain ⟨V2,hV2⟩:∃ V2,V.alloc (.cells #[.string ⟨#[114,111,108,101]⟩,.string x,.string ⟨#[97,116]⟩,.string y] 9)=V2:=⟨_,rfl⟩
      replace HBd:=h_ ((u_ HBd).trans ((u_ HBa).mono (by omega)))
      change Hid (Bl (V.alloc (.cells #[.string ⟨#[114,111,108,101]⟩,.string x,.string ⟨#[97,116]⟩,.string y] 9)) _ _ _) at HBl
      change Hid (Strs (V.alloc (.cells #[.string ⟨#[114,111,108,101]⟩,.string x,.string ⟨#[97,116]⟩,.string y] 9)) _ _) at HStr
      rw [hV2] at HBl HStr zz HBd ⊢
      have hv2:=(u_ HBd).size
      clear hV2 HBa
      refine callY (i:=9) (f:=202) (args:=#[.pointer (some ⟨w.heap.size+1,0,none⟩),.slice (some ⟨V.heap.size,0,none⟩) 4 4]) (R:=fun r wz=>r=.tuple #[]/\Bl wz (w.heap.size+1) (w.heap.size+1) (c3 m (k+1))/\Below (w.heap.size+1) V2 wz/\Oth (w.heap.size+1) V2 wz) 61 rfl rfl (by rfl) (by kernel_rfl) (by simp [execOp,go_sem]) ((q07 (w.heap.size+1) (w.heap.size+1) (c3 m k) (some ⟨V.heap.size,0,none⟩) 4 [⟨#[114,111,108,101]⟩,x,⟨#[97,116]⟩,y] V2 (u_ HBl) (by simp) (by simp) (by simp) (u_ HStr) (by have:=u_ HLn;omega)).mono fun e w6 ⟨he,h1,h2,h3⟩=>⟨_,he,rfl,by rw [<- u_ HT2] at h1;exact h1,h2,h3⟩) ?_
      rintro r3 W5 ⟨rfl,hl5,hb5,ho5⟩
      have HL5:=h_ hl5;have HB5:=h_ ((u_ HBd).trans hb5)
      replace zz:Blk W5 w.heap.size 36 [.slice (some ⟨b,o,none⟩) m.L.length alc,.slice ap m.P.length apc,.slice (some ⟨pb,po,none⟩) m.R.length arc,.slice af m.F.length afc]/\Blk W5 wr.heap.size 102 [.string x,.int .i64 hi]/\W5.cell? ⟨b,o+hi,none⟩=some (.string y):=⟨zz.1.oth ho5 (by omega) (by decide),zz.2.1.oth ho5 (by omega) (by decide),(hb5.cell (p:=⟨b,o+hi,none⟩) (show b<w.heap.size+1 by omega)).trans zz.2.2⟩
      clear hl5 hb5 ho5
      refine ⟨zz,?_⟩
      simp only [sX,sY,sZ]
      refine wpAnyH_done (by kernel_rfl) ?_ _
      clear zz
      go_wp2_with fail
      go_roundw
      case rel=>first | exact ⟨k+1,by omega,by go_num,u_ HL5,u_ HB5⟩ | ((repeat apply Exists.intro);exact ⟨⟨k+1,by omega,by go_num,u_ HL5,u_ HB5⟩,rfl⟩)
      case measure=>simp [intOf];omega
    obtain rfl:k=m.R.length:=by omega
    have hlt':¬ (m.R.length:Int)<(m.R.length:Int):=by omega
    have HBl0:Hid (Bl wr (w.heap.size+1) (w.heap.size+1) (c4 m 0)):=h_ (by rw [qhr];exact u_ HBl)
    go_wp2_with fail
    clear y0 y1 y2 y3 hlt hlt' HSr HKr HBw HBl hws
    obtain ⟨Wc,hWc⟩:∃ W,wr=W:=⟨_,rfl⟩
    rw [hWc] at HBl0 HB1 ⊢
    clear hWc
    go_loopw [66] (fun i wr=>∃ k:Nat,k<=m.F.length/\i=.int .i64 k/\Bl wr (w.heap.size+1) (w.heap.size+1) (c4 m k)/\Below (w.heap.size+1) W0 wr) (fun i _=>m.F.length - (intOf i).toNat)
    case atStart=>exact ⟨0,nZ _,rfl,u_ HBl0,u_ HB1⟩
    case round =>
     clear HBl0 HB1
     obtain ⟨k,hk,rfl,hbl,hb⟩:=hrel
     have HBl:=h_ hbl;have HB1:=h_ hb
     have HKr:=h_ ((u_ HK).mono hb (by omega))
     have HBw:=h_ ((u_ HB).trans (hb.mono (by omega)))
     have HSr:=h_ ((u_ HS).mono (u_ HBw))
     have hws:=hb.size
     obtain ⟨y0,y1,y2,y3⟩:=quad (u_ HKr)
     clear hbl hb
     by_cases hlt:k<m.F.length
     . have hlt':(k:Int)<m.F.length:=by omega
       obtain ⟨pb,po,rfl,⟨-,z0,z1,z2,z3,z4,z5,z6,z7,z8⟩,hsl⟩:=(u_ HSr).f k hlt
       dsimp only at z3 z4 z5 z6 z8 hsl
       have HT2:Hid (c4 m (k+1)=c4 m k++(jw (fW m m.F[k])++[59,10])):=h_ (by rw [jw_fW];exact qhq m k hlt)
       have HLn:Hid ((c4 m k).length+(jw (fW m m.F[k])).length<=100000000):=h_ (by
        have h1:=c4_len (u_ HV) (k+1)
        rw [u_ HT2,List.length_append,List.length_append] at h1
        omega)
       have HFk:=h_ ((u_ HF).f _ (List.getElem_mem hlt))
       have HOk:=h_ ((q53 _ _ _).1 ((u_ HV).fi _ (List.getElem_mem hlt)))
       generalize m.F[k]=f at *
       generalize afa k=fa at *
       obtain ⟨ab,abc,ai,aic,ah,ahc,av,avc,au,auc⟩:=fa
       dsimp only at z3 z4 z5 z6 z8
       have HKp:=h_ (Blk.new wr 94 #[.string f.nm,.int .i64 f.ty,.int .i64 f.lb,.slice ab f.bys.length abc,.slice ai f.is.length aic,.slice ah f.wh.length ahc,.slice av f.va.length avc,.string f.sy,.slice au f.mu.length auc])
       have HBp:=h_ ((bR wr.heap.size wr).alloc (nR _) (.cells #[.string f.nm,.int .i64 f.ty,.int .i64 f.lb,.slice ab f.bys.length abc,.slice ai f.is.length aic,.slice ah f.wh.length ahc,.slice av f.va.length avc,.string f.sy,.slice au f.mu.length auc] 94))
       obtain ⟨Wd,hWd⟩:∃ Wd,wr.alloc (.cells #[.string f.nm,.int .i64 f.ty,.int .i64 f.lb,.slice ab f.bys.length abc,.slice ai f.is.length aic,.slice ah f.wh.length ahc,.slice av f.va.length avc,.string f.sy,.slice au f.mu.length auc] 94)=Wd:=⟨_,rfl⟩
       rw [hWd] at HKp HBp
       have HKd:=h_ ((u_ HKr).mono (u_ HBp) (u_ HKr).lt)
       have HBld:=h_ ((u_ HBl).mono (u_ HBp))
       have HBd:=h_ ((u_ HB1).trans ((u_ HBp).mono (by omega)))
       have hds:=(u_ HBp).size
       have HBwd:=h_ ((u_ HBw).trans ((u_ HBp).mono (by omega)))
       have HCw:=h_ (q1j m ⟨al,alc,ap,apc,ar,arc,some ⟨pb,po,none⟩,afc,afa⟩ f ⟨ab,abc,ai,aic,ah,ahc,av,avc,au,auc⟩ Wd (u_ HV) (u_ HOk) (u_ HFk) ((u_ HS).mono (u_ HBwd)) (hsl.mono (u_ HBp)) ((u_ HT).mono (u_ HBwd)) ((u_ HY).mono (u_ HBwd)))
       unfold mV fV at HCw
       dsimp only at HCw
       have hfl:=fW_len (u_ HV) (u_ HOk)
       have hf1:1<=(fW m f).length:=by unfold fW w5;simp
       obtain ⟨x0,x1,x2,x3,x4,x5,x6,x7,x8⟩:=nine (u_ HKp)
       obtain ⟨v0,v1,v2,v3⟩:=quad (u_ HKd)
       clear hsl
       generalize fW m f=ws at *
       go_wp2_with fail
       try rw [hWd]
       refine (u_ HCw).mono ?_
       rintro r W4 ⟨a4,c4',rfl,hcap,hstr,hb4⟩
       have HC:=h_ (q07 (w.heap.size+1) (w.heap.size+1) (c4 m k) a4 c4' ws W4 ((u_ HBld).mono hb4) hf1 (by omega) hcap hstr (u_ HLn))
       have HB4:=h_ ((u_ HBd).trans (hb4.mono (by omega)))
       clear hWd y0 y1 y2 y3 z0 z1 z2 z3 z4 z5 z6 z7 z8 x0 x1 x2 x3 x4 x5 x6 x7 x8 v0 v1 v2 v3 hcap hstr hb4 hf1 hfl
       go_wp2_with fail
       refine (u_ HC).mono ?_
       rintro r W5 ⟨rfl,hl5,hb5,-⟩
       have HL5:Hid (Bl W5 (w.heap.size+1) (w.heap.size+1) (c4 m (k+1))):=h_ (by rw [u_ HT2];exact hl5)
       have HB5:=h_ ((u_ HB4).trans hb5)
       clear hl5 hb5
       go_wp2_with fail
       go_roundw
       case rel=>first | exact ⟨k+1,by omega,by go_num,u_ HL5,u_ HB5⟩ | ((repeat apply Exists.intro);exact ⟨⟨k+1,by omega,by go_num,u_ HL5,u_ HB5⟩,rfl⟩)
       case measure=>simp [intOf];omega
     obtain rfl:k=m.F.length:=by omega
     have hlt':¬ (m.F.length:Int)<(m.F.length:Int):=by omega
     have HC:=h_ (q08 (w.heap.size+1) (w.heap.size+1) (c4 m m.F.length) wr (u_ HBl))
     rw [c4_all] at HC
     clear y0 y1 y2 y3
     go_wp2_with fail
     refine (u_ HC).mono ?_
     rintro r W5 ⟨rfl,hb5⟩
     have HB5:=h_ ((u_ HBw).trans (hb5.mono (by omega)))
     clear hb5
     go_wp2_with fail
     go_ret
     exact ⟨rfl,u_ HB5⟩
end Go.Proofs.YtgkcaeidhkddjaaGreatDoor
