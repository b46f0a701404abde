import Derived.Test.YtgkcaeidhkddjaaGreatDoorXGS4
import Derived.Test.YtgkcaeidhkddjaaGreatDoorXGD
set_option maxRecDepth 100000
set_option maxHeartbeats 20000000
namespace Go.Proofs.YtgkcaeidhkddjaaGreatDoor
open Go Go.RowKit
theorem qh6 (w:World) {a b c:ByteArray} (h:a++b=c) (hs:c.size<=9223372036854775807):(Op.stringOp .add a b).run Tryz.prog w=.ok (.string c) w:=by
 subst h
 exact run_string_add_sum w _ _ (by rw [ByteArray.size_append] at hs;exact hs)
theorem qcr (a b:ByteArray):sb (a++b)=sb a++sb b:=by simp [sb,ByteArray.data_append]
theorem sb_lit (a:Array UInt8):sb ⟨a⟩=a.toList:=rfl
theorem qbr {ls:List ByteArray} {i:Nat} (h:i<ls.length):labAt ls (i:Int)=ls[i]:=by
 unfold labAt
 rw [Int.toNat_natCast,List.getD_eq_getElem?_getD,List.getElem?_eq_getElem h];rfl
theorem qcl {rs:List Rl} {i:Nat} (h:i<rs.length):rolAt rs (i:Int)=rs[i]:=by
 unfold rolAt
 rw [Int.toNat_natCast,List.getD_eq_getElem?_getD,List.getElem?_eq_getElem h];rfl
theorem qij {n:Nat} {x:Int} (h:inR n x=true):∃ k:Nat,x=k/\k<n:=by
 have:=of_decide_eq_true h
 exact ⟨x.toNat,by omega,by omega⟩
theorem sum_to {a b:ByteArray}:∃ c,a++b=c/\c.size=a.size+b.size:=⟨_,rfl,ByteArray.size_append⟩
theorem q13 (m:Fm) (A:MA) (w:World) (hf:FitM m) (hv:VfA m) (ha:MSl w m A) :
 Calls Tryz.prog 101 #[mV m A] w fun r w'=>r=.returned (.string ⟨(cT m).toArray⟩)/\Below w.heap.size w w':=by
 obtain ⟨al,alc,ap,apc,ar,arc,af,afc,afa⟩:=A
 unfold mV
 dsimp only
 have HK:=h_ (Blk.new w 36 #[.slice al m.L.length alc,.slice ap m.P.length apc,.slice ar m.R.length arc,.slice af m.F.length afc])
 have HB:=h_ ((bR w.heap.size w).alloc (nR _) (.cells #[.slice al m.L.length alc,.slice ap m.P.length apc,.slice ar m.R.length arc,.slice af m.F.length afc] 36))
 obtain ⟨W0,hW0⟩:∃ W0,w.alloc (.cells #[.slice al m.L.length alc,.slice ap m.P.length apc,.slice ar m.R.length arc,.slice af m.F.length afc] 36)=W0:=⟨_,rfl⟩
 rw [hW0] at HK HB
 have HS:=h_ (ha.mono (u_ HB));have HF:=h_ hf;have HV:=h_ hv
 have nl:=hv.nl;have np:=hv.np;have nr:=hv.nr;have nfl:=hv.nf
 clear ha hf hv
 obtain ⟨y0,y1,y2,y3⟩:=quad (u_ HK)
 go_enter Tryz.func101,Tryz.ntmps101
 go_wp2_with fail
 try rw [hW0]
 clear hW0 y0 y1 y2 y3
 go_loopw [3,4] (fun s i wr=>∃ (k:Nat) (T:ByteArray),k<=m.L.length/\i=.int .i64 k/\s=.string T/\sb T=c1 m k/\Below W0.heap.size W0 wr) (fun _ i _=>m.L.length - (intOf i).toNat)
 case atStart=>exact ⟨0,⟨#[]⟩,nZ _,rfl,rfl,by rw [qhl];rfl,bR _ _⟩
 case round =>
  obtain ⟨k,T,hk,rfl,rfl,hT,hb⟩:=hrel
  have HT:=h_ hT;have HB1:=h_ hb;have HKr:=mB HK hb;have HSr:=h_ ((u_ HS).mono hb)
  have hTs:T.size<=768:=by rw [<- sb_len,hT];exact c1_len (u_ HV) k
  obtain ⟨y0,y1,y2,y3⟩:=quad (u_ HKr)
  clear hT hb
  by_cases hlt:k<m.L.length
  . have hlt':(k:Int)<m.L.length:=by omega
    obtain ⟨b,o,rfl,-,z0⟩:=(u_ HSr).l k hlt
    have hxs:m.L[k].size<=16:=q45 (u_ HV).l (List.getElem_mem hlt)
    have HT2:Hid (c1 m (k+1)=c1 m k++tLab m.L[k]):=h_ (qhk m k hlt)
    generalize m.L[k]=x at *
    have HN:Hid (sb (T++⟨#[108,97,98,101,108,32]⟩++x++⟨#[59,10]⟩)=c1 m (k+1)):=h_ (by rw [u_ HT2,<- u_ HT,qcr,qcr,qcr];simp [tLab,sb_lit])
    have hA1:(T++⟨#[108,97,98,101,108,32]⟩:ByteArray).size=T.size+6:=by rw [ByteArray.size_append];rfl
    have hA2:(T++⟨#[108,97,98,101,108,32]⟩++x:ByteArray).size=T.size+6+x.size:=by rw [ByteArray.size_append,hA1]
    go_wp2_with fail
    go_roundw
    case rel=>first | exact ⟨k+1,_,by omega,by go_num,rfl,u_ HN,u_ HB1⟩ | ((repeat apply Exists.intro);exact ⟨⟨k+1,_,by omega,by go_num,rfl,u_ HN,u_ HB1⟩,rfl⟩)
    case measure=>simp [intOf];omega
  obtain rfl:k=m.L.length:=by omega
  have hlt':¬ (m.L.length:Int)<(m.L.length:Int):=by omega
  have HT0:Hid (sb T=c2 m 0):=h_ (by rw [qhn];exact u_ HT)
  clear HT hTs
  go_wp2_with fail
  clear y0 y1 y2 y3 hlt hlt' HSr HKr
  obtain ⟨Wa,hWa⟩:∃ Wa,wr=Wa:=⟨_,rfl⟩
  rw [hWa] at HB1 ⊢
  clear hWa
  go_loopw [3,5] (fun s i wr=>∃ (k:Nat) (T:ByteArray),k<=m.P.length/\i=.int .i64 k/\s=.string T/\sb T=c2 m k/\Below W0.heap.size W0 wr) (fun _ i _=>m.P.length - (intOf i).toNat)
  case atStart=>exact ⟨0,T,nZ _,rfl,rfl,u_ HT0,u_ HB1⟩
  case round =>
   clear HT0 HB1
   obtain ⟨k,T,hk,rfl,rfl,hT,hb⟩:=hrel
   have HT:=h_ hT;have HB1:=h_ hb;have HKr:=mB HK hb;have HSr:=h_ ((u_ HS).mono hb)
   have hTs:T.size<=11264:=by rw [<- sb_len,hT];exact c2_len (u_ HV) k
   obtain ⟨y0,y1,y2,y3⟩:=quad (u_ HKr)
   clear hT hb
   by_cases hlt:k<m.P.length
   . have hlt':(k:Int)<m.P.length:=by omega
     obtain ⟨pb,po,rfl,-,z0,z1⟩:=(u_ HSr).p k hlt
     have HT2:Hid (c2 m (k+1)=c2 m k++tBel m.L m.P[k]):=h_ (qhm m k hlt)
     obtain ⟨hin1,hin2⟩:=(u_ HV).p _ (List.getElem_mem hlt)
     generalize m.P[k]=u at *
     obtain ⟨u1,u2⟩:=u
     dsimp only at hin1 hin2 z0 z1
     obtain ⟨lo,rfl,hlo⟩:=qij hin1
     obtain ⟨hi,rfl,hhi⟩:=qij hin2
     obtain ⟨b,o,rfl,-,z2⟩:=(u_ HSr).l lo hlo
     obtain ⟨b',o',he,-,z3⟩:=(u_ HSr).l hi hhi
     cases he
     have hxs:m.L[lo].size<=16:=q45 (u_ HV).l (List.getElem_mem hlo)
     have hys:m.L[hi].size<=16:=q45 (u_ HV).l (List.getElem_mem hhi)
     rw [show tBel m.L ((lo:Int),(hi:Int))=[98,101,108,111,119,32]++sb m.L[lo]++[32]++sb m.L[hi]++[59,10] by unfold tBel;rw [qbr hlo,qbr hhi]] at HT2
     have hlo':(lo:Int)<m.L.length:=by omega
     have hhi':(hi:Int)<m.L.length:=by omega
     clear hin1 hin2
     generalize m.L[lo]=x at *
     generalize m.L[hi]=y at *
     obtain ⟨T1,h1,s1⟩:=sum_to (a:=T) (b:=⟨#[98,101,108,111,119,32]⟩)
     obtain ⟨T2,h2,s2⟩:=sum_to (a:=T1) (b:=x)
     obtain ⟨T3,h3,s3⟩:=sum_to (a:=T2) (b:=⟨#[32]⟩)
     obtain ⟨T4,h4,s4⟩:=sum_to (a:=T3) (b:=y)
     obtain ⟨T5,h5,s5⟩:=sum_to (a:=T4) (b:=⟨#[59,10]⟩)
     rw [show (⟨#[98,101,108,111,119,32]⟩:ByteArray).size=6 from rfl] at s1
     rw [show (⟨#[32]⟩:ByteArray).size=1 from rfl] at s3
     rw [show (⟨#[59,10]⟩:ByteArray).size=2 from rfl] at s5
     have HN:Hid (sb T5=c2 m (k+1)):=h_ (by rw [u_ HT2,<- u_ HT,<- h5,<- h4,<- h3,<- h2,<- h1];simp [qcr,sb_lit])
     have H1:=h_ h1;have H2:=h_ h2;have H3:=h_ h3;have H4:=h_ h4;have H5:=h_ h5
     have HD:Hid (Below W0.heap.size W0 wr.drew):=h_ (u_ HB1).drew
     clear h1 h2 h3 h4 h5
     go_wp2_with fail
     refine wp_region_held_drew (S:=fun w'=>w'.cell? ⟨w.heap.size,0,none⟩=some (.slice (some ⟨b,o,none⟩) m.L.length alc)/\w'.cell? ⟨w.heap.size,1,none⟩=some (.slice (some ⟨pb,po,none⟩) m.P.length apc)/\w'.cell? ⟨pb,po+k*2,none⟩=some (.int .i64 lo)/\w'.cell? ⟨pb,po+k*2+1,none⟩=some (.int .i64 hi)/\w'.cell? ⟨b,o+lo,none⟩=some (.string x)/\w'.cell? ⟨b,o+hi,none⟩=some (.string y)) (by kernel_rfl) ⟨y0,y1,z0,z1,z2,z3⟩ (fun zz=>?_)
     refine tk 0 33 (.string T) zz ?_
     refine tk 1 34 (.string T1) zz ?_ (hy:=fun w hS=>by simp [execOp,go_sem,qh6 w (u_ H1) (by omega)])
     refine tk 2 35 (.pointer (some ⟨w.heap.size,0,none⟩)) zz ?_
     refine tk 3 36 (.slice (some ⟨b,o,none⟩) m.L.length alc) zz ?_
     simp only [sX,sY,sZ]
     refine tk 4 37 (.pointer (some ⟨w.heap.size,1,none⟩)) zz ?_
     refine tk 5 38 (.slice (some ⟨pb,po,none⟩) m.P.length apc) zz ?_
     refine tk 6 39 (.int .i64 k) zz ?_
     refine tk 7 40 (.pointer (some ⟨pb,po+k*2,none⟩)) zz ?_
     simp only [sX,sY,sZ]
     refine tk 8 41 (.pointer (some ⟨pb,po+k*2,none⟩)) zz ?_
     refine tk 9 42 (.int .i64 lo) zz ?_
     refine tk 10 43 (.pointer (some ⟨b,o+lo,none⟩)) zz ?_
     refine tk 11 44 (.string x) zz ?_
     simp only [sX,sY,sZ]
     refine tk 12 45 (.string T2) zz ?_ (hy:=fun w hS=>by simp [execOp,go_sem,qh6 w (u_ H2) (by omega)])
     refine tk 13 46 (.string T3) zz ?_ (hy:=fun w hS=>by simp [execOp,go_sem,qh6 w (u_ H3) (by omega)])
     refine tk 14 47 (.pointer (some ⟨w.heap.size,0,none⟩)) zz ?_
     refine tk 15 48 (.slice (some ⟨b,o,none⟩) m.L.length alc) zz ?_
     simp only [sX,sY,sZ]
     refine tk 16 49 (.pointer (some ⟨w.heap.size,1,none⟩)) zz ?_
     refine tk 17 50 (.slice (some ⟨pb,po,none⟩) m.P.length apc) zz ?_
     refine tk 18 51 (.int .i64 k) zz ?_
     refine tk 19 52 (.pointer (some ⟨pb,po+k*2,none⟩)) zz ?_
     simp only [sX,sY,sZ]
     refine tk 20 53 (.pointer (some ⟨pb,po+k*2+1,none⟩)) zz ?_
     refine tk 21 54 (.int .i64 hi) zz ?_
     refine tk 22 55 (.pointer (some ⟨b,o+hi,none⟩)) zz ?_
     refine tk 23 56 (.string y) zz ?_
     simp only [sX,sY,sZ]
     refine tk 24 57 (.string T4) zz ?_ (hy:=fun w hS=>by simp [execOp,go_sem,qh6 w (u_ H4) (by omega)])
     refine tk 25 58 (.string T5) zz ?_ (hy:=fun w hS=>by simp [execOp,go_sem,qh6 w (u_ H5) (by omega)])
     refine tk 26 3 (.string T5) zz ?_
     simp only [sX,sY,sZ]
     refine wpAnyH_done (by kernel_rfl) ?_ _
     clear zz
     go_wp2_with fail
     go_roundw
     case rel=>first | exact ⟨k+1,_,by omega,by go_num,rfl,u_ HN,u_ HD⟩ | ((repeat apply Exists.intro);exact ⟨⟨k+1,_,by omega,by go_num,rfl,u_ HN,u_ HD⟩,rfl⟩)
     case measure=>simp [intOf];omega
   obtain rfl:k=m.P.length:=by omega
   have hlt':¬ (m.P.length:Int)<(m.P.length:Int):=by omega
   have HT0:Hid (sb T=c3 m 0):=h_ (by rw [qhp];exact u_ HT)
   clear HT hTs
   go_wp2_with fail
   clear y0 y1 y2 y3 hlt hlt' HSr HKr
   obtain ⟨Wb,hWb⟩:∃ Wb,wr=Wb:=⟨_,rfl⟩
   rw [hWb] at HB1 ⊢
   clear hWb
   go_loopw [3,6] (fun s i wr=>∃ (k:Nat) (T:ByteArray),k<=m.R.length/\i=.int .i64 k/\s=.string T/\sb T=c3 m k/\Below W0.heap.size W0 wr) (fun _ i _=>m.R.length - (intOf i).toNat)
   case atStart=>exact ⟨0,T,nZ _,rfl,rfl,u_ HT0,u_ HB1⟩
   case round =>
    clear HT0 HB1
    obtain ⟨k,T,hk,rfl,rfl,hT,hb⟩:=hrel
    have HT:=h_ hT;have HB1:=h_ hb;have HKr:=mB HK hb;have HSr:=h_ ((u_ HS).mono hb)
    have hTs:T.size<=14016:=by rw [<- sb_len,hT];exact c3_len (u_ HV) k
    obtain ⟨y0,y1,y2,y3⟩:=quad (u_ HKr)
    clear hT hb
    by_cases hlt:k<m.R.length
    . have hlt':(k:Int)<m.R.length:=by omega
      obtain ⟨pb,po,rfl,-,z0,z1⟩:=(u_ HSr).r k hlt
      have HT2:Hid (c3 m (k+1)=c3 m k++tRol m.L m.R[k]):=h_ (qho m k hlt)
      have hin2:=(u_ HV).ro _ (List.getElem_mem hlt)
      have hxs:m.R[k].nm.size<=16:=q45 (u_ HV).r (List.mem_map.2 ⟨_,List.getElem_mem hlt,rfl⟩)
      generalize m.R[k]=u at *
      obtain ⟨x,u2⟩:=u
      dsimp only at hin2 z0 z1 hxs
      obtain ⟨hi,rfl,hhi⟩:=qij hin2
      obtain ⟨b,o,rfl,-,z3⟩:=(u_ HSr).l hi hhi
      have hys:m.L[hi].size<=16:=q45 (u_ HV).l (List.getElem_mem hhi)
      rw [show tRol m.L ⟨x,(hi:Int)⟩=[114,111,108,101,32]++sb x++[32,97,116,32]++sb m.L[hi]++[59,10] by unfold tRol;rw [qbr hhi]] at HT2
      have hhi':(hi:Int)<m.L.length:=by omega
      clear hin2
      generalize m.L[hi]=y at *
      obtain ⟨T1,h1,s1⟩:=sum_to (a:=T) (b:=⟨#[114,111,108,101,32]⟩)
      obtain ⟨T2,h2,s2⟩:=sum_to (a:=T1) (b:=x)
      obtain ⟨T3,h3,s3⟩:=sum_to (a:=T2) (b:=⟨#[32,97,116,32]⟩)
      obtain ⟨T4,h4,s4⟩:=sum_to (a:=T3) (b:=y)
      obtain ⟨T5,h5,s5⟩:=sum_to (a:=T4) (b:=⟨#[59,10]⟩)
      rw [show (⟨#[114,111,108,101,32]⟩:ByteArray).size=5 from rfl] at s1
      rw [show (⟨#[32,97,116,32]⟩:ByteArray).size=4 from rfl] at s3
      rw [show (⟨#[59,10]⟩:ByteArray).size=2 from rfl] at s5
      have HN:Hid (sb T5=c3 m (k+1)):=h_ (by rw [u_ HT2,<- u_ HT,<- h5,<- h4,<- h3,<- h2,<- h1];simp [qcr,sb_lit])
      have H1:=h_ h1;have H2:=h_ h2;have H3:=h_ h3;have H4:=h_ h4;have H5:=h_ h5
      have HD:Hid (Below W0.heap.size W0 wr.drew):=h_ (u_ HB1).drew
      clear h1 h2 h3 h4 h5
      go_wp2_with fail
      refine wp_region_held_drew (S:=fun w'=>w'.cell? ⟨w.heap.size,0,none⟩=some (.slice (some ⟨b,o,none⟩) m.L.length alc)/\w'.cell? ⟨w.heap.size,2,none⟩=some (.slice (some ⟨pb,po,none⟩) m.R.length arc)/\w'.cell? ⟨pb,po+k*2,none⟩=some (.string x)/\w'.cell? ⟨pb,po+k*2+1,none⟩=some (.int .i64 hi)/\w'.cell? ⟨b,o+hi,none⟩=some (.string y)) (by kernel_rfl) ⟨y0,y2,z0,z1,z3⟩ (fun zz=>?_)
      refine tk 0 66 (.string T) zz ?_
      refine tk 1 67 (.string T1) zz ?_ (hy:=fun w hS=>by simp [execOp,go_sem,qh6 w (u_ H1) (by omega)])
      refine tk 2 68 (.pointer (some ⟨w.heap.size,2,none⟩)) zz ?_
      refine tk 3 69 (.slice (some ⟨pb,po,none⟩) m.R.length arc) zz ?_
      simp only [sX,sY,sZ]
      refine tk 4 70 (.int .i64 k) zz ?_
      refine tk 5 71 (.pointer (some ⟨pb,po+k*2,none⟩)) zz ?_
      refine tk 6 72 (.pointer (some ⟨pb,po+k*2,none⟩)) zz ?_
      refine tk 7 73 (.string x) zz ?_
      simp only [sX,sY,sZ]
      refine tk 8 74 (.string T2) zz ?_ (hy:=fun w hS=>by simp [execOp,go_sem,qh6 w (u_ H2) (by omega)])
      refine tk 9 75 (.string T3) zz ?_ (hy:=fun w hS=>by simp [execOp,go_sem,qh6 w (u_ H3) (by omega)])
      refine tk 10 76 (.pointer (some ⟨w.heap.size,0,none⟩)) zz ?_
      refine tk 11 77 (.slice (some ⟨b,o,none⟩) m.L.length alc) zz ?_
      simp only [sX,sY,sZ]
      refine tk 12 78 (.pointer (some ⟨w.heap.size,2,none⟩)) zz ?_
      refine tk 13 79 (.slice (some ⟨pb,po,none⟩) m.R.length arc) zz ?_
      refine tk 14 80 (.int .i64 k) zz ?_
      refine tk 15 81 (.pointer (some ⟨pb,po+k*2,none⟩)) zz ?_
      simp only [sX,sY,sZ]
      refine tk 16 82 (.pointer (some ⟨pb,po+k*2+1,none⟩)) zz ?_
      refine tk 17 83 (.int .i64 hi) zz ?_
      refine tk 18 84 (.pointer (some ⟨b,o+hi,none⟩)) zz ?_
      refine tk 19 85 (.string y) zz ?_
      simp only [sX,sY,sZ]
      refine tk 20 86 (.string T4) zz ?_ (hy:=fun w hS=>by simp [execOp,go_sem,qh6 w (u_ H4) (by omega)])
      refine tk 21 87 (.string T5) zz ?_ (hy:=fun w hS=>by simp [execOp,go_sem,qh6 w (u_ H5) (by omega)])
      refine tk 22 3 (.string T5) zz ?_
      simp only [sX,sY,sZ]
      refine wpAnyH_done (by kernel_rfl) ?_ _
      clear zz
      go_wp2_with fail
      go_roundw
      case rel=>first | exact ⟨k+1,_,by omega,by go_num,rfl,u_ HN,u_ HD⟩ | ((repeat apply Exists.intro);exact ⟨⟨k+1,_,by omega,by go_num,rfl,u_ HN,u_ HD⟩,rfl⟩)
      case measure=>simp [intOf];omega
    obtain rfl:k=m.R.length:=by omega
    have hlt':¬ (m.R.length:Int)<(m.R.length:Int):=by omega
    have HT0:Hid (sb T=c4 m 0):=h_ (by rw [qhr];exact u_ HT)
    clear HT hTs
    go_wp2_with fail
    clear y0 y1 y2 y3 hlt hlt' HSr HKr
    obtain ⟨Wz,hWz⟩:∃ Wz,wr=Wz:=⟨_,rfl⟩
    rw [hWz] at HB1 ⊢
    clear hWz
    go_loopw [3,7] (fun s i wr=>∃ (k:Nat) (T:ByteArray),k<=m.F.length/\i=.int .i64 k/\s=.string T/\sb T=c4 m k/\Below W0.heap.size W0 wr) (fun _ i _=>m.F.length - (intOf i).toNat)
    case atStart=>exact ⟨0,T,nZ _,rfl,rfl,u_ HT0,u_ HB1⟩
    case round =>
     clear HT0 HB1
     obtain ⟨k,T,hk,rfl,rfl,hT,hb⟩:=hrel
     have HT:=h_ hT;have HB1:=h_ hb;have HKr:=mB HK hb;have HSr:=h_ ((u_ HS).mono hb)
     have hTs:T.size<=3714016:=by rw [<- sb_len,hT];exact c4_len (u_ HV) k
     obtain ⟨y0,y1,y2,y3⟩:=quad (u_ HKr)
     clear hT hb
     by_cases hlt:k<m.F.length
     . have hlt':(k:Int)<m.F.length:=by omega
       obtain ⟨Wc,hWc⟩:∃ Wc,wr=Wc:=⟨_,rfl⟩
       rw [hWc] at HB1 HKr HSr y0 y1 y2 y3 ⊢
       clear hWc
       obtain ⟨pb,po,rfl,⟨-,z0,z1,z2,z3,z4,z5,z6,z7,z8⟩,hsl⟩:=(u_ HSr).f k hlt
       have HT2:Hid (c4 m (k+1)=c4 m k++tFld m m.F[k]):=h_ (qhq m k hlt)
       have HO:=h_ ((q53 _ _ _).1 ((u_ HV).fi _ (List.getElem_mem hlt)))
       have HFf:=h_ ((u_ HF).f _ (List.getElem_mem hlt))
       have hns:m.F[k].nm.size<=16:=q45 (u_ HV).f (List.mem_map.2 ⟨_,List.getElem_mem hlt,rfl⟩)
       obtain ⟨fa,hfa⟩:∃ fa,afa k=fa:=⟨_,rfl⟩
       dsimp only at z3 z4 z5 z6 z8 hsl
       rw [hfa] at z3 z4 z5 z6 z8 hsl
       have HSf:=h_ hsl
       clear hsl hfa
       generalize m.F[k]=f at *
       obtain ⟨ab,abc,ai,aic,ah,ahc,av,avc,au,auc⟩:=fa
       dsimp only at z3 z4 z5 z6 z8
       have HKf:=h_ (Blk.new Wc 94 #[.string f.nm,.int .i64 f.ty,.int .i64 f.lb,.slice ab f.bys.length abc,.slice ai f.is.length aic,.slice ah f.wh.length ahc,.slice av f.va.length avc,.string f.sy,.slice au f.mu.length auc])
       have HBf:=h_ ((bR Wc.heap.size Wc).alloc (nR _) (.cells #[.string f.nm,.int .i64 f.ty,.int .i64 f.lb,.slice ab f.bys.length abc,.slice ai f.is.length aic,.slice ah f.wh.length ahc,.slice av f.va.length avc,.string f.sy,.slice au f.mu.length auc] 94))
       obtain ⟨Wd,hWd⟩:∃ Wd,Wc.alloc (.cells #[.string f.nm,.int .i64 f.ty,.int .i64 f.lb,.slice ab f.bys.length abc,.slice ai f.is.length aic,.slice ah f.wh.length ahc,.slice av f.va.length avc,.string f.sy,.slice au f.mu.length auc] 94)=Wd:=⟨_,rfl⟩
       rw [hWd] at HKf HBf
       have HBd:=h_ ((u_ HB1).trans ((u_ HBf).mono (u_ HB1).size))
       have HKd:=h_ ((u_ HKr).mono (u_ HBf) (u_ HKr).lt);replace HSf:=h_ ((u_ HSf).mono (u_ HBf));have HSd:=h_ ((u_ HSr).mono (u_ HBf))
       obtain ⟨x0,x1,x2,x3,x4,x5,x6,x7,x8⟩:=nine (u_ HKf)
       obtain ⟨v0,v1,v2,v3⟩:=quad (u_ HKd)
       obtain ⟨Y,hY⟩:∃ Y:ByteArray,⟨(tyName f.ty).toArray⟩=Y:=⟨_,rfl⟩
       have hYs:Y.size<=4:=by rw [<- hY];show (tyName f.ty).length<=4;unfold tyName;split <;> (try split) <;> simp
       have HYs:Hid (sb Y=tyName f.ty):=h_ (by rw [<- hY];rfl)
       have HY:=h_ hY
       obtain ⟨T1,h1,s1⟩:=sum_to (a:=T) (b:=⟨#[102,105,101,108,100,32]⟩)
       obtain ⟨T2,h2,s2⟩:=sum_to (a:=T1) (b:=f.nm)
       obtain ⟨T3,h3,s3⟩:=sum_to (a:=T2) (b:=⟨#[32]⟩)
       obtain ⟨T4,h4,s4⟩:=sum_to (a:=T3) (b:=Y)
       obtain ⟨T5,h5,s5⟩:=sum_to (a:=T4) (b:=⟨#[32,97,116,32]⟩)
       rw [show (⟨#[102,105,101,108,100,32]⟩:ByteArray).size=6 from rfl] at s1
       rw [show (⟨#[32]⟩:ByteArray).size=1 from rfl] at s3
       rw [show (⟨#[32,97,116,32]⟩:ByteArray).size=4 from rfl] at s5
       have HN5:Hid (sb T5=c4 m k++([102,105,101,108,100,32]++sb f.nm++[32]++tyName f.ty++[32,97,116,32])):=h_ (by rw [<- u_ HT,<- u_ HYs,<- h5,<- h4,<- h3,<- h2,<- h1];simp [qcr,sb_lit])
       have H1:=h_ h1;have H2:=h_ h2;have H3:=h_ h3;have H4:=h_ h4;have H5:=h_ h5
       have h5s:T5.size<=3714050:=by omega
       clear h1 h2 h3 h4 h5 hY
       go_wp2_with fail
       try rw [hWd]
       clear hWd y0 y1 y2 y3 z0 z1 z2 z3 z4 z5 z6 z7 z8
       refine wp_region_held_drew (S:=fun w'=>w'.cell? ⟨Wc.heap.size,0,none⟩=some (.string f.nm)/\w'.cell? ⟨Wc.heap.size,1,none⟩=some (.int .i64 f.ty)) (by kernel_rfl) ⟨x0,x1⟩ (fun zz=>?_)
       refine tk 0 100 (.string T) zz ?_
       refine tk 1 101 (.string T1) zz ?_ (hy:=fun w hS=>by simp [execOp,go_sem,qh6 w (u_ H1) (by omega)])
       refine tk 2 102 (.pointer (some ⟨Wc.heap.size,0,none⟩)) zz ?_
       refine tk 3 103 (.string f.nm) zz ?_
       simp only [sX,sY,sZ]
       refine tk 4 104 (.string T2) zz ?_ (hy:=fun w hS=>by simp [execOp,go_sem,qh6 w (u_ H2) (by omega)])
       refine tk 5 105 (.string T3) zz ?_ (hy:=fun w hS=>by simp [execOp,go_sem,qh6 w (u_ H3) (by omega)])
       refine tk 6 106 (.pointer (some ⟨Wc.heap.size,1,none⟩)) zz ?_
       refine tk 7 107 (.int .i64 f.ty) zz ?_
       simp only [sX,sY,sZ]
       refine callY (i:=8) (f:=129) (args:=#[.int .i64 f.ty]) (R:=fun r wz=>r=.string Y/\wz=Wd.drew) 108 rfl rfl (by rfl) (by kernel_rfl) ?hrun1 ((q1z f.ty _).mono fun e w6 ⟨he,hb⟩=>⟨_,he,by rw [u_ HY],hb⟩) ?_
       case hrun1=>simp [execOp,go_sem]
       rintro r3 W4 ⟨rfl,rfl⟩
       refine ⟨zz,?_⟩
       simp only [sX,sY,sZ]
       refine tk 9 109 (.string T4) zz ?_ (hy:=fun w hS=>by simp [execOp,go_sem,qh6 w (u_ H4) (by omega)])
       refine tk 10 110 (.string T5) zz ?_ (hy:=fun w hS=>by simp [execOp,go_sem,qh6 w (u_ H5) (by omega)])
       refine tk 11 3 (.string T5) zz ?_
       simp only [sX,sY,sZ]
       refine wpAnyH_done (by kernel_rfl) ?_ _
       clear zz s1 s2 s3 s4 s5 H1 H2 H3 H4 H5 x0 x1 x2 x3 x4 x5 x6 x7 x8 v0 v1 v2 v3
       have HDd:Hid (Below Wd.heap.size Wd Wd.drew):=h_ (bR _ _).drew
       replace HKf:=h_ ((u_ HKf).mono (u_ HDd) (u_ HKf).lt);replace HKd:=h_ ((u_ HKd).mono (u_ HDd) (u_ HKd).lt);replace HSf:=h_ ((u_ HSf).mono (u_ HDd));replace HSd:=h_ ((u_ HSd).mono (u_ HDd));replace HBd:=h_ ((u_ HBd).trans ((u_ HDd).mono (u_ HBd).size))
       obtain ⟨We,hWe⟩:∃ We,Wd.drew=We:=⟨_,rfl⟩
       rw [hWe] at HKf HKd HSf HSd HBd ⊢
       clear hWe HDd HBf HSr HKr HB1
       obtain ⟨x0,x1,x2,x3,x4,x5,x6,x7,x8⟩:=nine (u_ HKf)
       obtain ⟨v0,v1,v2,v3⟩:=quad (u_ HKd)
       have HA1:Hid (f.lb<0->sb (T5++⟨#[97,117,116,111]⟩)=c4 m k++tFldA m f):=h_ fun h=>by rw [qcr,u_ HN5];unfold tFldA;rw [if_pos h];simp [sb_lit]
       have HA2:Hid (¬ f.lb<0->sb (T5++labAt m.L f.lb)=c4 m k++tFldA m f):=h_ fun h=>by rw [qcr,u_ HN5];unfold tFldA;rw [if_neg h];simp
       have hl2:=(u_ HO).l2
       have hlas:=q8h (i:=f.lb) (u_ HV).l
       have hsp:(f.lb<0) ∨ ∃ n:Nat,f.lb=n/\n<m.L.length:=by
        by_cases h:f.lb<0
        . exact .inl h
        . exact .inr ⟨f.lb.toNat,by omega,by omega⟩
       clear HN5 HYs HY hYs
       obtain ⟨T6,HT6,hs6,hsp⟩:∃ T6,Hid (sb T6=c4 m k++tFldA m f)/\T6.size<=3714070/\((f.lb<0/\Hid (T5++⟨#[97,117,116,111]⟩=T6)) ∨ ∃ n:Nat,f.lb=n/\(n:Int)<m.L.length/\∃ b o x,al=some ⟨b,o,none⟩/\We.cell? ⟨b,o+n,none⟩=some (.string x)/\x.size<=16/\Hid (T5++x=T6)):=by
        rcases hsp with h | ⟨n,hn,hnl⟩
        . exact ⟨_,h_ (u_ HA1 h),by rw [ByteArray.size_append];show T5.size+4<=_;omega,.inl ⟨h,h_ rfl⟩⟩
        . obtain ⟨b,o,e,-,hc⟩:=(u_ HSd).l n hnl
          rw [hn,qbr hnl] at hlas
          exact ⟨_,h_ (u_ HA2 (by omega)),by rw [ByteArray.size_append,hn,qbr hnl];omega,.inr ⟨n,hn,by omega,b,o,_,e,hc,hlas,h_ (by rw [hn,qbr hnl])⟩⟩
       clear HA1 HA2 hlas hl2
       obtain ⟨R1,hR1⟩:∃ R1:ByteArray,⟨(tRule wIs f.is).toArray⟩=R1:=⟨_,rfl⟩
       obtain ⟨R2,hR2⟩:∃ R2:ByteArray,⟨(tRule wWhen f.wh).toArray⟩=R2:=⟨_,rfl⟩
       obtain ⟨R3,hR3⟩:∃ R3:ByteArray,⟨(tRule wValid f.va).toArray⟩=R3:=⟨_,rfl⟩
       obtain ⟨R4,hR4⟩:∃ R4:ByteArray,⟨(tRule wMust f.mu).toArray⟩=R4:=⟨_,rfl⟩
       have q1:R1.size<=4010:=by rw [<- hR1];exact q6d (word:=wIs) (u_ HO).i (by decide)
       have q2:R2.size<=4010:=by rw [<- hR2];exact q6d (word:=wWhen) (u_ HO).h (by decide)
       have q3:R3.size<=4010:=by rw [<- hR3];exact q6d (word:=wValid) (u_ HO).v (by decide)
       have q4:R4.size<=4010:=by rw [<- hR4];exact q6d (word:=wMust) (u_ HO).u (by decide)
       have HR2:=h_ hR1;have HR3:=h_ hR2;have HR4:=h_ hR3;have HR5:=h_ hR4
       have HSB:Hid (sb R1=tRule wIs f.is/\sb R2=tRule wWhen f.wh/\sb R3=tRule wValid f.va/\sb R4=tRule wMust f.mu):=h_ ⟨by rw [<- hR1];rfl,by rw [<- hR2];rfl,by rw [<- hR3];rfl,by rw [<- hR4];rfl⟩
       clear hR1 hR2 hR3 hR4
       rcases hsp with ⟨hlb,hT6⟩ | ⟨n,hlb,hnl,b,o,x,rfl,hc,hxs,hT6⟩
       case' inl =>
        have h4l:(⟨#[97,117,116,111]⟩:ByteArray).size=4:=rfl
        go_wp2_with fail
       case' inr =>
        have hlb':¬ f.lb<0:=by omega
        rw [hlb] at x2
        go_wp2_with fail
       all_goals
        clear x0 x1 x2 x3 x4 x5 x6 x7 x8 v0 v1 v2 v3
        go_loopw [3,9] (fun s i wr=>∃ (j:Nat) (T:ByteArray),j<=f.bys.length/\i=.int .i64 j/\s=.string T/\sb T=c4 m k++(tFldA m f++(f.bys.take j).flatMap (tBy m.R))/\Below We.heap.size We wr) (fun _ i _=>f.bys.length - (intOf i).toNat)
        case atStart=>exact ⟨0,_,nZ _,rfl,rfl,by rw [u_ hT6,u_ HT6];simp,bR _ _⟩
        case round =>
         obtain ⟨j,T,hj,rfl,rfl,hT,hb⟩:=hrel
         have HTj:=h_ hT;have HBg:=h_ hb;have HKg:=mB HKf hb;have HKm:=mB HKd hb;have HSg:=h_ ((u_ HSf).mono hb);have HSm:=h_ ((u_ HSd).mono hb)
         have hTj:T.size<=3715400:=by
          rw [<- sb_len,hT,List.length_append,List.length_append]
          have e1:=c4_len (u_ HV) k
          have e2:=qd5 (u_ HV) (f:=f) hns
          have e3:=qd6 (u_ HV) (u_ HO) j
          omega
         obtain ⟨x0,x1,x2,x3,x4,x5,x6,x7,x8⟩:=nine (u_ HKg)
         obtain ⟨v0,v1,v2,v3⟩:=quad (u_ HKm)
         have hbl:=(u_ HFf).bl
         clear hT hb
         by_cases hjl:j<f.bys.length
         . have hjl':(j:Int)<f.bys.length:=by omega
           obtain ⟨b2,o2,rfl,-,z0⟩:=(u_ HSg).b j hjl
           have hin:inR m.R.length f.bys[j]=true:=by
            have:=(u_ HO).b
            unfold bysOk at this
            rw [Bool.and_eq_true,List.all_eq_true] at this
            exact this.1 _ (List.getElem_mem hjl)
           dsimp only at z0
           rw [show f.bys.getD j 0=f.bys[j] by rw [List.getD_eq_getElem?_getD,List.getElem?_eq_getElem hjl];rfl] at z0
           have HT3:Hid ((f.bys.take (j+1)).flatMap (tBy m.R)=(f.bys.take j).flatMap (tBy m.R)++tBy m.R f.bys[j]):=h_ (qb8 _ _ j hjl)
           obtain ⟨r,hr,hrl⟩:=qij hin
           rw [hr] at z0 HT3
           obtain ⟨pb,po,rfl,-,z1,z2⟩:=(u_ HSm).r r hrl
           rw [show tBy m.R (r:Int)=[32,98,121,32]++sb m.R[r].nm by unfold tBy;rw [qcl hrl]] at HT3
           have hxs':m.R[r].nm.size<=16:=q45 (u_ HV).r (List.mem_map.2 ⟨_,List.getElem_mem hrl,rfl⟩)
           have hrl':(r:Int)<m.R.length:=by omega
           clear hin hr
           generalize m.R[r].nm=x at *
           obtain ⟨T1,h1,s1⟩:=sum_to (a:=T) (b:=⟨#[32,98,121,32]⟩)
           obtain ⟨T2,h2,s2⟩:=sum_to (a:=T1) (b:=x)
           rw [show (⟨#[32,98,121,32]⟩:ByteArray).size=4 from rfl] at s1
           have HN:Hid (sb T2=c4 m k++(tFldA m f++(f.bys.take (j+1)).flatMap (tBy m.R))):=h_ (by rw [u_ HT3,<- h2,<- h1,qcr,qcr,u_ HTj];simp [sb_lit])
           have H1:=h_ h1;have H2:=h_ h2
           have HD:Hid (Below We.heap.size We wr.drew):=h_ (u_ HBg).drew
           clear h1 h2
           go_wp2_with fail
           refine wp_region_held_drew (S:=fun w'=>w'.cell? ⟨w.heap.size,2,none⟩=some (.slice (some ⟨pb,po,none⟩) m.R.length arc)/\w'.cell? ⟨Wc.heap.size,3,none⟩=some (.slice (some ⟨b2,o2,none⟩) f.bys.length abc)/\w'.cell? ⟨b2,o2+j,none⟩=some (.int .i64 r)/\w'.cell? ⟨pb,po+r*2,none⟩=some (.string x)) (by kernel_rfl) ⟨v2,x3,z0,z1⟩ (fun zz=>?_)
           refine tk 0 131 (.string T) zz ?_
           refine tk 1 132 (.string T1) zz ?_ (hy:=fun w hS=>by simp [execOp,go_sem,qh6 w (u_ H1) (by omega)])
           refine tk 2 133 (.pointer (some ⟨w.heap.size,2,none⟩)) zz ?_
           refine tk 3 134 (.slice (some ⟨pb,po,none⟩) m.R.length arc) zz ?_
           simp only [sX,sY,sZ]
           refine tk 4 135 (.pointer (some ⟨Wc.heap.size,3,none⟩)) zz ?_
           refine tk 5 136 (.slice (some ⟨b2,o2,none⟩) f.bys.length abc) zz ?_
           refine tk 6 137 (.int .i64 j) zz ?_
           refine tk 7 138 (.pointer (some ⟨b2,o2+j,none⟩)) zz ?_
           simp only [sX,sY,sZ]
           refine tk 8 139 (.int .i64 r) zz ?_
           refine tk 9 140 (.pointer (some ⟨pb,po+r*2,none⟩)) zz ?_
           refine tk 10 141 (.pointer (some ⟨pb,po+r*2,none⟩)) zz ?_
           refine tk 11 142 (.string x) zz ?_
           simp only [sX,sY,sZ]
           refine tk 12 143 (.string T2) zz ?_ (hy:=fun w hS=>by simp [execOp,go_sem,qh6 w (u_ H2) (by omega)])
           refine tk 13 3 (.string T2) zz ?_
           simp only [sX,sY,sZ]
           refine wpAnyH_done (by kernel_rfl) ?_ _
           clear zz
           go_wp2_with fail
           go_roundw
           case rel=>first | exact ⟨j+1,_,by omega,by go_num,rfl,u_ HN,u_ HD⟩ | ((repeat apply Exists.intro);exact ⟨⟨j+1,_,by omega,by go_num,rfl,u_ HN,u_ HD⟩,rfl⟩)
           case measure=>simp [intOf];omega
         obtain rfl:j=f.bys.length:=by omega
         have hjl':¬ (f.bys.length:Int)<(f.bys.length:Int):=by omega
         have HTb:Hid (sb T=c4 m k++(tFldA m f++f.bys.flatMap (tBy m.R))):=h_ (by have:=u_ HTj;rw [List.take_length] at this;exact this)
         clear HTj hjl
         obtain ⟨Wg,hWg⟩:∃ Wg,wr=Wg:=⟨_,rfl⟩
         rw [hWg] at HBg HKg HKm HSg HSm x0 x1 x2 x3 x4 x5 x6 x7 x8 v0 v1 v2 v3 ⊢
         clear hWg
         obtain ⟨T1,h1,s1⟩:=sum_to (a:=T) (b:=R1)
         obtain ⟨T2,h2,s2⟩:=sum_to (a:=T1) (b:=R2)
         obtain ⟨T3,h3,s3⟩:=sum_to (a:=T2) (b:=R3)
         have HN3:Hid (sb T3=c4 m k++(tFldA m f++f.bys.flatMap (tBy m.R)++tRule wIs f.is++tRule wWhen f.wh++tRule wValid f.va)):=h_ (by rw [<- h3,<- h2,<- h1,qcr,qcr,qcr,u_ HTb,(u_ HSB).1,(u_ HSB).2.1,(u_ HSB).2.2.1];simp)
         have H1:=h_ h1;have H2:=h_ h2;have H3:=h_ h3
         clear h1 h2 h3
         go_wp2_with fail
         refine wp_region_held_drew (S:=fun w'=>w'.cell? ⟨Wc.heap.size,4,none⟩=some (.slice ai f.is.length aic)/\w'.cell? ⟨Wc.heap.size,5,none⟩=some (.slice ah f.wh.length ahc)/\w'.cell? ⟨Wc.heap.size,6,none⟩=some (.slice av f.va.length avc)) (by kernel_rfl) ⟨x4,x5,x6⟩ (fun zz=>?_)
         refine tk 0 144 (.string T) zz ?_
         refine tk 1 145 (.pointer (some ⟨Wc.heap.size,4,none⟩)) zz ?_
         refine tk 2 146 (.slice ai f.is.length aic) zz ?_
         refine tk 5 149 (.pointer (some ⟨Wc.heap.size,5,none⟩)) zz ?_
         simp only [sX,sY,sZ]
         refine tk 6 150 (.slice ah f.wh.length ahc) zz ?_
         refine tk 9 153 (.pointer (some ⟨Wc.heap.size,6,none⟩)) zz ?_
         refine tk 10 154 (.slice av f.va.length avc) zz ?_
         simp only [sX,sY,sZ]
         refine callY (i:=3) (f:=130) (args:=#[.string ⟨#[105,115]⟩,.slice ai f.is.length aic]) (R:=fun r wz=>r=.string R1/\Below Wg.heap.size Wg wz) 147 rfl rfl (by rfl) (by kernel_rfl) (by simp [execOp,go_sem]) ((q14 ⟨#[105,115]⟩ ai aic f.is _ (by decide) (u_ HO).i ((u_ HSg).i.mono (bR _ _).drew) (u_ HFf).i).mono fun e w6 ⟨he,hb⟩=>⟨_,he,by rw [<- u_ HR2];rfl,q26 hb⟩) ?_
         rintro r3 W4 ⟨rfl,hb4⟩
         have hB4:=h_ hb4
         replace zz:W4.cell? ⟨Wc.heap.size,4,none⟩=some (.slice ai f.is.length aic)/\W4.cell? ⟨Wc.heap.size,5,none⟩=some (.slice ah f.wh.length ahc)/\W4.cell? ⟨Wc.heap.size,6,none⟩=some (.slice av f.va.length avc):=⟨(hb4.cell (u_ HKg).lt).trans x4,(hb4.cell (u_ HKg).lt).trans x5,(hb4.cell (u_ HKg).lt).trans x6⟩
         clear hb4
         refine ⟨zz,?_⟩
         simp only [sX,sY,sZ]
         refine tk 4 148 (.string T1) zz ?_ (hy:=fun w hS=>by simp [execOp,go_sem,qh6 w (u_ H1) (by omega)])
         simp only [sX,sY,sZ]
         refine callY (i:=7) (f:=130) (args:=#[.string ⟨#[119,104,101,110]⟩,.slice ah f.wh.length ahc]) (R:=fun r wz=>r=.string R2/\Below W4.heap.size W4 wz) 151 rfl rfl (by rfl) (by kernel_rfl) (by simp [execOp,go_sem]) ((q14 ⟨#[119,104,101,110]⟩ ah ahc f.wh _ (by decide) (u_ HO).h ((u_ HSg).h.mono (u_ hB4)) (u_ HFf).h).mono fun e w6 ⟨he,hb⟩=>⟨_,he,by rw [<- u_ HR3];rfl,hb⟩) ?_
         rintro r3 W5 ⟨rfl,hb5⟩
         have hB5:=h_ ((u_ hB4).trans (hb5.mono (u_ hB4).size))
         replace zz:W5.cell? ⟨Wc.heap.size,4,none⟩=some (.slice ai f.is.length aic)/\W5.cell? ⟨Wc.heap.size,5,none⟩=some (.slice ah f.wh.length ahc)/\W5.cell? ⟨Wc.heap.size,6,none⟩=some (.slice av f.va.length avc):=⟨((u_ hB5).cell (u_ HKg).lt).trans x4,((u_ hB5).cell (u_ HKg).lt).trans x5,((u_ hB5).cell (u_ HKg).lt).trans x6⟩
         clear hb5
         refine ⟨zz,?_⟩
         simp only [sX,sY,sZ]
         refine tk 8 152 (.string T2) zz ?_ (hy:=fun w hS=>by simp [execOp,go_sem,qh6 w (u_ H2) (by omega)])
         simp only [sX,sY,sZ]
         refine callY (i:=11) (f:=130) (args:=#[.string ⟨#[118,97,108,105,100]⟩,.slice av f.va.length avc]) (R:=fun r wz=>r=.string R3/\Below W5.heap.size W5 wz) 155 rfl rfl (by rfl) (by kernel_rfl) (by simp [execOp,go_sem]) ((q14 ⟨#[118,97,108,105,100]⟩ av avc f.va _ (by decide) (u_ HO).v ((u_ HSg).v.mono (u_ hB5)) (u_ HFf).v).mono fun e w6 ⟨he,hb⟩=>⟨_,he,by rw [<- u_ HR4];rfl,hb⟩) ?_
         rintro r3 W6 ⟨rfl,hb6⟩
         have hB6:=h_ ((u_ hB5).trans (hb6.mono (u_ hB5).size))
         replace zz:W6.cell? ⟨Wc.heap.size,4,none⟩=some (.slice ai f.is.length aic)/\W6.cell? ⟨Wc.heap.size,5,none⟩=some (.slice ah f.wh.length ahc)/\W6.cell? ⟨Wc.heap.size,6,none⟩=some (.slice av f.va.length avc):=⟨((u_ hB6).cell (u_ HKg).lt).trans x4,((u_ hB6).cell (u_ HKg).lt).trans x5,((u_ hB6).cell (u_ HKg).lt).trans x6⟩
         clear hb6
         refine ⟨zz,?_⟩
         simp only [sX,sY,sZ]
         refine tk 12 156 (.string T3) zz ?_ (hy:=fun w hS=>by simp [execOp,go_sem,qh6 w (u_ H3) (by omega)])
         refine tk 13 3 (.string T3) zz ?_
         simp only [sX,sY,sZ]
         refine wpAnyH_done (by kernel_rfl) ?_ _
         clear zz
         have HB6:Hid (Below W0.heap.size W0 W6):=h_ ((u_ HBd).trans (((u_ HBg).trans ((u_ hB6).mono (u_ HBg).size)).mono (u_ HBd).size))
         replace HKg:=h_ ((u_ HKg).mono (u_ hB6) (u_ HKg).lt);replace HSg:=h_ ((u_ HSg).mono (u_ hB6))
         clear x0 x1 x2 x3 x4 x5 x6 x7 x8 v0 v1 v2 v3 HKm HSm HBg hB4 hB5 hB6 H1 H2 H3
         obtain ⟨x0,x1,x2,x3,x4,x5,x6,x7,x8⟩:=nine (u_ HKg)
         have hvl:=(u_ HFf).vl;have hul:=(u_ HFf).ul
         have h3s:T3.size<=3727430:=by omega
         have hsys:=q63 (u_ HO).sy
         have HM:Hid (∀ T4:ByteArray,sb T4=sb T3++tSays f->sb (T4++R4++⟨#[59,10]⟩)=c4 m (k+1)):=h_ fun T4 h=>by
          rw [qcr,qcr,h,u_ HN3,u_ HT2,(u_ HSB).2.2.2]
          unfold tFld
          simp [sb_lit]
         clear HTb s1 s2 s3 hTj
         by_cases hva:f.va.length=0
         . have hva':¬ (0:Int)<f.va.length:=by omega
           have HN:Hid (sb (T3++R4++⟨#[59,10]⟩)=c4 m (k+1)):=h_ (u_ HM T3 (by unfold tSays;rw [if_pos hva];simp))
           clear hva
           go_wp2_with fail
           refine (q14 ⟨#[109,117,115,116]⟩ au auc f.mu _ (by decide) (u_ HO).u (u_ HSg).u (u_ HFf).u).mono ?_
           rintro r w7 ⟨hr,hb7⟩
           replace hr:r=.returned (.string R4):=by rw [hr,<- u_ HR5];rfl
           subst hr
           have HB7:Hid (Below W0.heap.size W0 w7):=mT HB6 hb7
           have hA1:(T3++R4).size=T3.size+R4.size:=ByteArray.size_append
           clear hb7 x0 x1 x2 x3 x4 x5 x6 x7 x8
           go_wp2_with fail
           go_roundw
           case rel=>first | exact ⟨k+1,_,by omega,by go_num,rfl,u_ HN,u_ HB7⟩ | ((repeat apply Exists.intro);exact ⟨⟨k+1,_,by omega,by go_num,rfl,u_ HN,u_ HB7⟩,rfl⟩)
           case measure=>simp [intOf];omega
         . have hva':(0:Int)<f.va.length:=by omega
           have HN:Hid (sb (T3++⟨#[32,115,97,121,115,32,34]⟩++f.sy++⟨#[34]⟩++R4++⟨#[59,10]⟩)=c4 m (k+1)):=h_ (u_ HM _ (by unfold tSays;rw [if_neg hva];simp [qcr,sb_lit]))
           clear hva
           have hA1:(T3++⟨#[32,115,97,121,115,32,34]⟩:ByteArray).size=T3.size+7:=by rw [ByteArray.size_append];rfl
           have hA2:(T3++⟨#[32,115,97,121,115,32,34]⟩++f.sy:ByteArray).size=T3.size+7+f.sy.size:=by rw [ByteArray.size_append,hA1]
           have hA3:(T3++⟨#[32,115,97,121,115,32,34]⟩++f.sy++⟨#[34]⟩:ByteArray).size=T3.size+7+f.sy.size+1:=by rw [ByteArray.size_append,hA2];rfl
           have hA4:(T3++⟨#[32,115,97,121,115,32,34]⟩++f.sy++⟨#[34]⟩++R4:ByteArray).size=T3.size+7+f.sy.size+1+R4.size:=by rw [ByteArray.size_append,hA3]
           go_wp2_with fail
           refine (q14 ⟨#[109,117,115,116]⟩ au auc f.mu _ (by decide) (u_ HO).u (u_ HSg).u (u_ HFf).u).mono ?_
           rintro r w7 ⟨hr,hb7⟩
           replace hr:r=.returned (.string R4):=by rw [hr,<- u_ HR5];rfl
           subst hr
           have HB7:Hid (Below W0.heap.size W0 w7):=mT HB6 hb7
           clear hb7 x0 x1 x2 x3 x4 x5 x6 x7 x8
           go_wp2_with fail
           go_roundw
           case rel=>first | exact ⟨k+1,_,by omega,by go_num,rfl,u_ HN,u_ HB7⟩ | ((repeat apply Exists.intro);exact ⟨⟨k+1,_,by omega,by go_num,rfl,u_ HN,u_ HB7⟩,rfl⟩)
           case measure=>simp [intOf];omega
     obtain rfl:k=m.F.length:=by omega
     have hlt':¬ (m.F.length:Int)<(m.F.length:Int):=by omega
     have HN:Hid (T=⟨(cT m).toArray⟩):=h_ (by
      rw [c4_all] at HT
      refine q9f ?_
      have:=u_ HT
      unfold sb at this
      rw [this])
     go_wp2_with fail
     go_ret
     exact ⟨qka (u_ HN),(u_ HB).trans ((u_ HB1).mono (u_ HB).size)⟩
end Go.Proofs.YtgkcaeidhkddjaaGreatDoor
