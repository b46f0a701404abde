import Derived.Test.YtgkcaeidhkddjaaGreatDoorXGVa
import Derived.Test.YtgkcaeidhkddjaaGreatDoorXGA
set_option maxRecDepth 100000
set_option maxHeartbeats 20000000
namespace Go.Proofs.YtgkcaeidhkddjaaGreatDoor
open Go Go.RowKit
theorem q2z (a:Option Addr) (c:Nat) (l:List ByteArray) (l0:Int) (w:World) (h0:0<=l0) (h1:l0<=1048576) (hm:l.length<=9223372036854775807) (hs:∀ x,x ∈ l->x.size<=9223372036854775807) (ha:Strs w a l) :
 Calls Tryz.prog 12 #[.slice a l.length c,.int .i64 l0] w fun r w'=>∃ q:Int,r=.returned (.int .i64 q)/\(0<=q->q<=1048576/\l.length<=1048576)/\(q<0->q = -1)/\Below w.heap.size w w':=by
 have HA:=h_ ha;have HF:=h_ hs
 clear ha hs
 have hw1:wrap64 (l0 - (l.length:Int))=l0 - (l.length:Int):=q4o (by omega) (by omega)
 by_cases h:(l.length:Int)<=l0
 . have h':¬ l0 - (l.length:Int)<0:=by omega
   obtain ⟨lq,hlq⟩:∃ lq:Int,l0 - (l.length:Int)=lq:=⟨_,rfl⟩
   have HLQ:Hid (0<=lq/\lq<=1048576):=h_ (by omega)
   have HLN:Hid (l.length<=1048576):=h_ (by omega)
   rw [hlq] at h' hw1
   go_enter Tryz.func12,Tryz.ntmps12
   go_wp2_with fail
   clear h h' hw1 hlq
   go_loopw [1,5] (fun lf i wr=>∃ (k:Nat) (lq:Int),k<=l.length/\i=.int .i64 k/\lf=.int .i64 lq/\0<=lq/\lq<=1048576/\Below w.heap.size w wr) (fun _ i _=>l.length - (intOf i).toNat)
   case atStart=>exact ⟨0,lq,nZ _,rfl,rfl,(u_ HLQ).1,(u_ HLQ).2,bR _ _⟩
   case round =>
    clear HLQ
    obtain ⟨k,lq,hk,rfl,rfl,g0,g1,hb⟩:=hrel
    have HB:=h_ hb;have HAr:=h_ ((u_ HA).mono hb)
    clear hb
    by_cases hlt:k<l.length
    . have hlt':(k:Int)<l.length:=by omega
      obtain ⟨b,o,rfl,-,z0⟩:=u_ HAr k hlt
      have hx:=u_ HF _ (List.getElem_mem hlt)
      generalize l[k]=x at *
      have hw2:wrap64 (lq - (x.size:Int))=lq - (x.size:Int):=q4o (by omega) (by omega)
      by_cases hr:lq<x.size
      . have hr':lq - (x.size:Int)<0:=by omega
        go_wp2_with fail
        go_ret
        exact ⟨_,rfl,fun h=>absurd h (by decide),fun _=>rfl,u_ HB⟩
      . have hr':¬ lq - (x.size:Int)<0:=by omega
        go_wp2_with fail
        go_roundw
        case rel=>first | exact ⟨k+1,lq - x.size,by omega,by go_num,rfl,by omega,by omega,u_ HB⟩ | ((repeat apply Exists.intro);exact ⟨⟨k+1,lq - x.size,by omega,by go_num,rfl,by omega,by omega,u_ HB⟩,rfl⟩)
        case measure=>simp [intOf];omega
    . obtain rfl:k=l.length:=by omega
      have hlt':¬ (l.length:Int)<(l.length:Int):=by omega
      go_wp2_with fail
      go_ret
      exact ⟨_,rfl,fun _=>⟨g1,u_ HLN⟩,fun h=>by omega,u_ HB⟩
 . have h':l0 - (l.length:Int)<0:=by omega
   go_enter Tryz.func12,Tryz.ntmps12
   go_wp2_with fail
   go_ret
   exact ⟨_,rfl,fun h=>absurd h (by decide),fun _=>rfl,bR _ _⟩
theorem q4k (a:Option Addr) (l:List ByteArray) (c:Nat) (w:World) (ha:Strs w a l) (hn:l.length<=1048576) :
 Calls Tryz.prog 22 #[.slice a l.length c] w fun e w'=>e=.returned (.slice (some ⟨w.heap.size,0,none⟩) l.length l.length)/\Strs w' (some ⟨w.heap.size,0,none⟩) l/\Bk w' w.heap.size 9 l.length/\Below w.heap.size w w':=by
 obtain ⟨i0,hi,hz0,hz1,hz2⟩:=info_parts qen
 obtain ⟨B,hB⟩:∃ B,w.heap.size=B:=⟨_,rfl⟩
 have hbn:i0.bytes*l.length<=281474976710656:=by rw [hz2];omega
 have HA:=h_ ha
 clear ha
 go_enter Tryz.func22,Tryz.ntmps22
 go_wp2_with (at_make;refine wpList_make_full _ rfl (.tmp 6) (.tmp 6) 22 rfl w.heap.size 9 i0 _ 1 Tryz.underlying22 hi hz0 hz1 .i64 .i64 _ _ l.length rfl rfl rfl rfl hbn (by unfold maxLen;omega) (nR _) ?_;intro w1 hown hgrow)
 have hb1:Below B w w1:=by rw [<- hB];exact (bR _ _).grown hgrow (nR _) (fun k h=>by cases h)
 rw [hB] at hown
 have HOw:=h_ hown;have HB1:=h_ hb1
 clear hgrow hbn hi hz0 hz1 hz2 hown hb1
 go_wp2_with fail
 try rw [hB]
 go_loopw [4] (fun i wr=>∃ (k:Nat) (xs:List Value),k<=l.length/\i=.int .i64 k/\wr.ownsRow B 9 1 (.slice (some ⟨B,0,none⟩) l.length l.length) l.length xs/\(∀ j,j<k->xs[j]? = some (.string (l.getD j ⟨#[]⟩)))/\Below B w wr) (fun i _=>l.length - (intOf i).toNat)
 case atStart=>exact ⟨0,_,nZ _,rfl,u_ HOw,fun j h=>absurd h (nL _),u_ HB1⟩
 case round =>
  clear HOw HB1
  obtain ⟨k,xs,hk,rfl,ho,hx,hb⟩:=hrel
  have HO:=h_ ho;have HX:=h_ hx;have HB:=h_ hb
  by_cases hlt:k<l.length
  . have hlt':(k:Int)<l.length:=by omega
    obtain ⟨b1,o1,rfl,hl1,hc1⟩:=u_ HA k hlt
    have hc:=(hb.cell (p:=⟨b1,o1+k,none⟩) (by rw [<- hB];exact hl1)).trans hc1
    have hge:l.getD k ⟨#[]⟩=l[k]:=by rw [List.getD_eq_getElem?_getD,List.getElem?_eq_getElem hlt];rfl
    have HGE:=h_ hge
    clear hge
    obtain ⟨u0,hd⟩:∃ u0,wr.cell? ⟨B,k,none⟩=some u0:=⟨_,(ho.cellAt k (by omega)).trans (List.getElem?_eq_getElem (by have:=ho.1;omega))⟩
    have hf:=ho.frozenAt k
    clear ho hx hb hc1
    go_wp2_with fail
    go_roundw
    case rel =>
     obtain ⟨r1,r2,r3⟩:=qas (g:=fun j=>.string (l.getD j ⟨#[]⟩)) hlt (u_ HO) (u_ HX) (u_ HB)
     rw [u_ HGE] at r1 r2 r3
     exact ⟨k+1,_,by omega,by go_num,r1,r2,r3⟩
    case measure=>simp [intOf];omega
  . obtain rfl:k=l.length:=by omega
    have hlt':¬ (l.length:Int)<(l.length:Int):=by omega
    clear ho hx hb
    go_wp2_with fail
    go_ret
    refine ⟨rfl,fun j hj=>?_,⟨_,Blk.of_owns (u_ HO),by have:=(u_ HO).1;omega⟩,u_ HB⟩
    have hbk:=Blk.of_owns (u_ HO)
    refine ⟨B,0,rfl,hbk.lt,?_⟩
    rw [Nat.zero_add,hbk.cell,u_ HX j hj,List.getD_eq_getElem?_getD,List.getElem?_eq_getElem hj]
    rfl
theorem q1h (a b:Option Addr) (l:List ByteArray) (ca cb:Nat) (w:World) (hn:l.length<=1048576) (ha:Strs w a l) (hb:Strs w b l) :
 Calls Tryz.prog 32 #[.slice a l.length ca,.slice b l.length cb] w fun r w'=>r=.returned (.bool true)/\Below w.heap.size w w':=by
 have HA:=h_ ha;have HC:=h_ hb
 clear ha hb
 go_enter Tryz.func32,Tryz.ntmps32
 go_wp2_with fail
 go_loopw [5] (fun i wr=>∃ k:Nat,k<=l.length/\i=.int .i64 k/\Below w.heap.size w wr) (fun i _=>l.length - (intOf i).toNat)
 case atStart=>exact ⟨0,nZ _,rfl,bR _ _⟩
 case round =>
  obtain ⟨k,hk,rfl,hb⟩:=hrel
  have HB:=h_ hb;have HAr:=h_ ((u_ HA).mono hb);have HCr:=h_ ((u_ HC).mono hb)
  clear hb
  by_cases hlt:k<l.length
  . have hlt':(k:Int)<l.length:=by omega
    obtain ⟨b1,o1,rfl,-,z0⟩:=u_ HAr k hlt
    obtain ⟨b2,o2,rfl,-,z1⟩:=u_ HCr k hlt
    generalize l[k]=x at *
    have hq:(x.toList == x.toList)=true:=by simp
    have HD:Hid (Below w.heap.size w wr.drew):=h_ (u_ HB).drew
    go_wp2_with fail
    refine wp_region_held_drew (S:=fun w'=>w'.cell? ⟨b1,o1+k,none⟩=some (.string x)/\w'.cell? ⟨b2,o2+k,none⟩=some (.string x)) (by kernel_rfl) ⟨z0,z1⟩ (fun zz=>?_)
    refine tk 0 17 (.slice (some ⟨b1,o1,none⟩) l.length ca) zz ?_
    refine tk 1 18 (.int .i64 k) zz ?_
    refine tk 2 19 (.pointer (some ⟨b1,o1+k,none⟩)) zz ?_
    refine tk 3 20 (.string x) zz ?_
    simp only [sX,sY,sZ]
    refine tk 4 21 (.slice (some ⟨b2,o2,none⟩) l.length cb) zz ?_
    refine tk 5 22 (.int .i64 k) zz ?_
    refine tk 6 23 (.pointer (some ⟨b2,o2+k,none⟩)) zz ?_
    refine tk 7 24 (.string x) zz ?_
    simp only [sX,sY,sZ]
    refine tk 8 25 (.bool false) zz ?_
    simp only [sX,sY,sZ]
    refine wpAnyH_done (by kernel_rfl) ?_ _
    clear zz
    go_wp2_with fail
    go_roundw
    case rel=>first | exact ⟨k+1,by omega,by go_num,u_ HD⟩ | ((repeat apply Exists.intro);exact ⟨⟨k+1,by omega,by go_num,u_ HD⟩,rfl⟩)
    case measure=>simp [intOf];omega
  . obtain rfl:k=l.length:=by omega
    have hlt':¬ (l.length:Int)<(l.length:Int):=by omega
    go_wp2_with fail
    go_ret
    exact ⟨rfl,u_ HB⟩
theorem q39 {w:World} {base e g n:Nat} {xs:List Value} (h:w.ownsRow base e 2 (.slice (some ⟨g,0,none⟩) n n) n xs):Blk w g e xs/\xs.length=n*2:=by
 refine ⟨?_,h.1⟩
 rcases h.2 with ⟨h',_⟩ | ⟨g',cap',cur,h',_,hg,_,_,hs,htake⟩
 . simp at h'
 . simp only [Value.slice.injEq,Option.some.injEq,Addr.mk.injEq,and_true,true_and] at h'
   obtain ⟨rfl,rfl⟩:=h'
   rw [List.take_of_length_le (by simp;omega)] at htake
   rw [<- htake];simpa [Blk] using hg
def DCel (w:World) (b o:Nat) (v0 v1:Value):Prop:=b<w.heap.size/\w.cell? ⟨b,o,none⟩=some v0/\w.cell? ⟨b,o+1,none⟩=some v1
theorem DCel.mono {w w':World} {b o:Nat} {v0 v1:Value} (h:DCel w b o v0 v1) (hb:Below w.heap.size w w'):DCel w' b o v0 v1:=⟨Nat.lt_of_lt_of_le h.1 hb.size,(hb.cell h.1).trans h.2.1,(hb.cell h.1).trans h.2.2⟩
theorem q9o (u:(Int × Int)) (w:World):Calls Tryz.prog 46 #[.agg #[.int .i64 u.1,.int .i64 u.2]] w fun r w'=>r=.returned (.agg #[.int .i64 u.1,.int .i64 u.2])/\Below w.heap.size w w':=by
 go_enter Tryz.func46,Tryz.ntmps46
 go_wp2_with fail
 refine bodyPost_ret (v:=.agg #[.int .i64 u.1,.int .i64 u.2]) (by simp [results,Tryz.results46,go_sem]) rfl ⟨rfl,?_⟩
 exact (((bR _ _).alloc (nR _) _).alloc (by simp) _).alloc (by simp;omega) _
theorem q7w:(Tryz.prog.info? 104).map (fun i=>(i.zero,i.size,i.bytes))=some (some (.agg #[.int .i64 0,.int .i64 0]),2,16):=by kernel_rfl
theorem q9n (a:Option Addr) (l:List (Int × Int)) (c:Nat) (w:World) (ha:Prs w a l) (hn:l.length<=1048576) :
 Calls Tryz.prog 23 #[.slice a l.length c] w fun r w'=>r=.returned (.slice (some ⟨w.heap.size,0,none⟩) l.length l.length)/\Prs w' (some ⟨w.heap.size,0,none⟩) l/\Bk w' w.heap.size 104 (l.length*2)/\Below w.heap.size w w':=by
 obtain ⟨i0,hi,hz0,hz1,hz2⟩:=info_parts q7w
 obtain ⟨B,hB⟩:∃ B,w.heap.size=B:=⟨_,rfl⟩
 have hbn:i0.bytes*l.length<=281474976710656:=by rw [hz2];omega
 have HA:=h_ ha
 clear ha
 go_enter Tryz.func23,Tryz.ntmps23
 go_wp2_with (at_make;refine wpList_make_full _ rfl _ _ 32 rfl w.heap.size 104 i0 _ 2 Tryz.underlying32 hi hz0 hz1 .i64 .i64 _ _ l.length rfl rfl rfl rfl hbn (by unfold maxLen;omega) (nR _) ?_;intro w1 hown hgrow)
 have hb1:Below B w w1:=by rw [<- hB];exact (bR _ _).grown hgrow (nR _) (fun k h=>by cases h)
 rw [hB] at hown
 obtain ⟨hX,hXl⟩:=q39 hown
 have HX:=h_ hX;have HXL:=h_ hXl;have HB1:=h_ hb1
 clear hgrow hbn hi hz0 hz1 hz2 hown hX hXl hb1
 go_wp2_with fail
 try rw [hB]
 go_loopw [4] (fun i wr=>∃ (k:Nat) (xs:List Value),k<=l.length/\i=.int .i64 k/\Blk wr B 104 xs/\xs.length=l.length*2/\(∀ j (h:j<l.length),j<k->xs[j*2]? = some (.int .i64 l[j].1)/\xs[j*2+1]? = some (.int .i64 l[j].2))/\Below B w wr) (fun i _=>l.length - (intOf i).toNat)
 case atStart=>exact ⟨0,_,nZ _,rfl,u_ HX,u_ HXL,fun j _ h=>absurd h (nL _),u_ HB1⟩
 case round =>
  clear HX HXL HB1
  obtain ⟨k,xs,hk,rfl,hX,hXl,hx,hb⟩:=hrel
  have HX:=h_ hX;have HXL:=h_ hXl;have HXX:=h_ hx;have HB:=h_ hb
  have HV:=h_ ((u_ HA).mono (hb.mono (by omega)))
  clear hX hXl hx hb
  by_cases hlt:k<l.length
  . have hlt':(k:Int)<l.length:=by omega
    obtain ⟨b1,o1,rfl,hl1,hc1,hc2⟩:=u_ HV k hlt
    obtain ⟨u,hu⟩:∃ u,l[k]=u:=⟨_,rfl⟩
    rw [hu] at hc1 hc2
    have HU:=h_ hu
    clear hu
    go_wp2_with fail
    refine (q9o u _).mono ?_
    rintro x w3 ⟨rfl,hb3⟩
    have X3:=(u_ HX).mono hb3 (u_ HX).lt
    have B3:=(u_ HB).trans (hb3.mono (by have:=(u_ HX).lt;omega))
    have c0:=X3.cell (k*2);have c1:=X3.cell (k*2+1)
    have f0:=X3.free (k*2);have f1:=X3.free (k*2+1)
    rw [List.getElem?_eq_getElem (by have:=u_ HXL;omega)] at c0 c1
    have HX3:=h_ X3;have HB3:=h_ B3
    clear X3 B3 hb3 hc1 hc2
    go_wp2_with fail
    go_roundw
    case rel =>
     refine ⟨k+1,_,by omega,by go_num,((u_ HX3).set (k*2) (.int .i64 u.1)).set (k*2+1) (.int .i64 u.2),by simpa using u_ HXL,fun j hjl hj=>?_,((u_ HB3).setCell (nR _) _).setCell (nR _) _⟩
     have hxl:=u_ HXL
     by_cases ej:j=k
     . subst ej
       rw [u_ HU]
       simp [List.getElem?_set];omega
     . have:=u_ HXX j hjl (by omega)
       simp only [List.getElem?_set]
       (repeat rw [if_neg (by omega)])
       exact this
    case measure=>simp [intOf];omega
  . obtain rfl:k=l.length:=by omega
    have hlt':¬ (l.length:Int)<(l.length:Int):=by omega
    go_wp2_with fail
    go_ret
    refine ⟨rfl,?_,⟨_,u_ HX,u_ HXL⟩,u_ HB⟩
    intro j hj
    have:=u_ HXX j hj hj
    exact ⟨B,0,rfl,(u_ HX).lt,by rw [Nat.zero_add,(u_ HX).cell];exact this.1,by rw [Nat.zero_add,(u_ HX).cell];exact this.2⟩
theorem q7m (u:(Int × Int)) (w:World):Calls Tryz.prog 60 #[.agg #[.int .i64 u.1,.int .i64 u.2],.agg #[.int .i64 u.1,.int .i64 u.2]] w fun r w'=>r=.returned (.bool true)/\Below w.heap.size w w':=by
 have HB:=h_ (((bR w.heap.size w).alloc (nR _) (.cells #[.int .i64 u.1,.int .i64 u.2] 104)).alloc (by simp) (.cells #[.int .i64 u.1,.int .i64 u.2] 104))
 go_enter Tryz.func60,Tryz.ntmps60
 go_wp2_with fail
 go_ret
 exact ⟨rfl,u_ HB⟩
theorem q3j (a b:Option Addr) (l:List (Int × Int)) (ca cb:Nat) (w:World) (hn:l.length<=1048576) (ha:Prs w a l) (hb:Prs w b l) :
 Calls Tryz.prog 33 #[.slice a l.length ca,.slice b l.length cb] w fun r w'=>r=.returned (.bool true)/\Below w.heap.size w w':=by
 have HA:=h_ ha;have HB0:=h_ hb
 clear ha hb
 go_enter Tryz.func33,Tryz.ntmps33
 go_wp2_with fail
 go_loopw [5] (fun i wr=>∃ k:Nat,k<=l.length/\i=.int .i64 k/\Below w.heap.size w wr) (fun i _=>l.length - (intOf i).toNat)
 case atStart=>exact ⟨0,nZ _,rfl,bR _ _⟩
 case round =>
  obtain ⟨k,hk,rfl,hB⟩:=hrel
  have HB:=h_ hB
  by_cases hlt:k<l.length
  . obtain ⟨b1,o1,rfl,l1,p0,p1⟩:=((u_ HA).mono hB) k hlt
    obtain ⟨b2,o2,rfl,l2,r0,r1⟩:=((u_ HB0).mono hB) k hlt
    obtain ⟨u,hu⟩:∃ u,l[k]=u:=⟨_,rfl⟩
    rw [hu] at p0 p1 r0 r1
    have HC1:Hid (DCel wr b1 (o1+k*2) (.int .i64 u.1) (.int .i64 u.2)):=h_ ⟨l1,p0,p1⟩
    have HC2:Hid (DCel wr b2 (o2+k*2) (.int .i64 u.1) (.int .i64 u.2)):=h_ ⟨l2,r0,r1⟩
    have k0:(0:Int)<=k:=by omega
    have k1:(k:Int)<l.length:=by omega
    clear hB hu p0 p1 r0 r1 l1 l2
    go_wp2_with fail
    refine wp_region_held_drew (S:=fun w'=>DCel w' b1 (o1+k*2) (.int .i64 u.1) (.int .i64 u.2)/\DCel w' b2 (o2+k*2) (.int .i64 u.1) (.int .i64 u.2)) (by kernel_rfl) ⟨u_ HC1,u_ HC2⟩ (fun zz=>?_)
    refine tk 0 17 (.slice (some ⟨b1,o1,none⟩) l.length ca) zz ?_
    refine tk 1 18 (.int .i64 k) zz ?_
    refine tk 2 19 (.pointer (some ⟨b1,o1+k*2,none⟩)) zz ?_
    refine tk 3 20 (.agg #[.int .i64 u.1,.int .i64 u.2]) zz ?_ (hy:=fun w hS=>by obtain ⟨⟨-,q0,q1⟩,-⟩:=hS;simp [execOp,go_sem,q0,q1])
    simp only [sX,sY,sZ]
    refine tk 4 21 (.slice (some ⟨b2,o2,none⟩) l.length cb) zz ?_
    refine tk 5 22 (.int .i64 k) zz ?_
    refine tk 6 23 (.pointer (some ⟨b2,o2+k*2,none⟩)) zz ?_
    refine tk 7 24 (.agg #[.int .i64 u.1,.int .i64 u.2]) zz ?_ (hy:=fun w hS=>by obtain ⟨-,⟨-,q0,q1⟩⟩:=hS;simp [execOp,go_sem,q0,q1])
    simp only [sX,sY,sZ]
    refine callY (i:=8) (f:=60) (args:=#[.agg #[.int .i64 u.1,.int .i64 u.2],.agg #[.int .i64 u.1,.int .i64 u.2]]) (R:=fun v wz=>v=.bool true/\Below wr.heap.size wr wz) 25 rfl rfl (by rfl) (by kernel_rfl) ?hrun1 ((q7m u _).mono fun e w6 ⟨he,hb⟩=>⟨_,he,rfl,q26 hb⟩) ?_
    case hrun1=>simp [execOp,go_sem]
    rintro v w6 ⟨rfl,hb6⟩
    have HB6:=mT HB hb6
    replace zz:DCel w6 b1 (o1+k*2) (.int .i64 u.1) (.int .i64 u.2)/\DCel w6 b2 (o2+k*2) (.int .i64 u.1) (.int .i64 u.2):=⟨(u_ HC1).mono hb6,(u_ HC2).mono hb6⟩
    clear hb6
    refine ⟨zz,?_⟩
    simp only [sX,sY,sZ]
    refine tk 9 26 (.bool false) zz ?_
    simp only [sX,sY,sZ]
    refine wpAnyH_done (by kernel_rfl) ?_ _
    clear zz
    go_wp2_with fail
    go_roundw
    case rel=>exact ⟨k+1,by omega,by go_num,u_ HB6⟩
    case measure=>simp [intOf];omega
  . obtain rfl:k=l.length:=by omega
    have hlt':¬ (l.length:Int)<(l.length:Int):=by omega
    clear hB
    go_wp2_with fail
    go_ret
    exact ⟨rfl,u_ HB⟩
theorem q9q (u:Rl) (w:World):Calls Tryz.prog 47 #[.agg #[.string u.nm,.int .i64 u.lb]] w fun r w'=>r=.returned (.agg #[.string u.nm,.int .i64 u.lb])/\Below w.heap.size w w':=by
 go_enter Tryz.func47,Tryz.ntmps47
 go_wp2_with fail
 refine bodyPost_ret (v:=.agg #[.string u.nm,.int .i64 u.lb]) (by simp [results,Tryz.results47,go_sem]) rfl ⟨rfl,?_⟩
 exact (((bR _ _).alloc (nR _) _).alloc (by simp) _).alloc (by simp;omega) _
theorem q7x:(Tryz.prog.info? 102).map (fun i=>(i.zero,i.size,i.bytes))=some (some (.agg #[.string ⟨#[]⟩,.int .i64 0]),2,24):=by kernel_rfl
theorem q9p (a:Option Addr) (l:List Rl) (c:Nat) (w:World) (ha:Rls w a l) (hn:l.length<=1048576) :
 Calls Tryz.prog 24 #[.slice a l.length c] w fun r w'=>r=.returned (.slice (some ⟨w.heap.size,0,none⟩) l.length l.length)/\Rls w' (some ⟨w.heap.size,0,none⟩) l/\Bk w' w.heap.size 102 (l.length*2)/\Below w.heap.size w w':=by
 obtain ⟨i0,hi,hz0,hz1,hz2⟩:=info_parts q7x
 obtain ⟨B,hB⟩:∃ B,w.heap.size=B:=⟨_,rfl⟩
 have hbn:i0.bytes*l.length<=281474976710656:=by rw [hz2];omega
 have HA:=h_ ha
 clear ha
 go_enter Tryz.func24,Tryz.ntmps24
 go_wp2_with (at_make;refine wpList_make_full _ rfl _ _ 33 rfl w.heap.size 102 i0 _ 2 Tryz.underlying33 hi hz0 hz1 .i64 .i64 _ _ l.length rfl rfl rfl rfl hbn (by unfold maxLen;omega) (nR _) ?_;intro w1 hown hgrow)
 have hb1:Below B w w1:=by rw [<- hB];exact (bR _ _).grown hgrow (nR _) (fun k h=>by cases h)
 rw [hB] at hown
 obtain ⟨hX,hXl⟩:=q39 hown
 have HX:=h_ hX;have HXL:=h_ hXl;have HB1:=h_ hb1
 clear hgrow hbn hi hz0 hz1 hz2 hown hX hXl hb1
 go_wp2_with fail
 try rw [hB]
 go_loopw [4] (fun i wr=>∃ (k:Nat) (xs:List Value),k<=l.length/\i=.int .i64 k/\Blk wr B 102 xs/\xs.length=l.length*2/\(∀ j (h:j<l.length),j<k->xs[j*2]? = some (.string l[j].nm)/\xs[j*2+1]? = some (.int .i64 l[j].lb))/\Below B w wr) (fun i _=>l.length - (intOf i).toNat)
 case atStart=>exact ⟨0,_,nZ _,rfl,u_ HX,u_ HXL,fun j _ h=>absurd h (nL _),u_ HB1⟩
 case round =>
  clear HX HXL HB1
  obtain ⟨k,xs,hk,rfl,hX,hXl,hx,hb⟩:=hrel
  have HX:=h_ hX;have HXL:=h_ hXl;have HXX:=h_ hx;have HB:=h_ hb
  have HV:=h_ ((u_ HA).mono (hb.mono (by omega)))
  clear hX hXl hx hb
  by_cases hlt:k<l.length
  . have hlt':(k:Int)<l.length:=by omega
    obtain ⟨b1,o1,rfl,hl1,hc1,hc2⟩:=u_ HV k hlt
    obtain ⟨u,hu⟩:∃ u,l[k]=u:=⟨_,rfl⟩
    rw [hu] at hc1 hc2
    have HU:=h_ hu
    clear hu
    go_wp2_with fail
    refine (q9q u _).mono ?_
    rintro x w3 ⟨rfl,hb3⟩
    have X3:=(u_ HX).mono hb3 (u_ HX).lt
    have B3:=(u_ HB).trans (hb3.mono (by have:=(u_ HX).lt;omega))
    have c0:=X3.cell (k*2);have c1:=X3.cell (k*2+1)
    have f0:=X3.free (k*2);have f1:=X3.free (k*2+1)
    rw [List.getElem?_eq_getElem (by have:=u_ HXL;omega)] at c0 c1
    have HX3:=h_ X3;have HB3:=h_ B3
    clear X3 B3 hb3 hc1 hc2
    go_wp2_with fail
    go_roundw
    case rel =>
     refine ⟨k+1,_,by omega,by go_num,((u_ HX3).set (k*2) (.string u.nm)).set (k*2+1) (.int .i64 u.lb),by simpa using u_ HXL,fun j hjl hj=>?_,((u_ HB3).setCell (nR _) _).setCell (nR _) _⟩
     have hxl:=u_ HXL
     by_cases ej:j=k
     . subst ej
       rw [u_ HU]
       simp [List.getElem?_set];omega
     . have:=u_ HXX j hjl (by omega)
       simp only [List.getElem?_set]
       (repeat rw [if_neg (by omega)])
       exact this
    case measure=>simp [intOf];omega
  . obtain rfl:k=l.length:=by omega
    have hlt':¬ (l.length:Int)<(l.length:Int):=by omega
    go_wp2_with fail
    go_ret
    refine ⟨rfl,?_,⟨_,u_ HX,u_ HXL⟩,u_ HB⟩
    intro j hj
    have:=u_ HXX j hj hj
    exact ⟨B,0,rfl,(u_ HX).lt,by rw [Nat.zero_add,(u_ HX).cell];exact this.1,by rw [Nat.zero_add,(u_ HX).cell];exact this.2⟩
theorem q7n (u:Rl) (w:World):Calls Tryz.prog 61 #[.agg #[.string u.nm,.int .i64 u.lb],.agg #[.string u.nm,.int .i64 u.lb]] w fun r w'=>r=.returned (.bool true)/\Below w.heap.size w w':=by
 have hq:(u.nm.toList == u.nm.toList)=true:=by simp
 have HB:=h_ (((bR w.heap.size w).alloc (nR _) (.cells #[.string u.nm,.int .i64 u.lb] 102)).alloc (by simp) (.cells #[.string u.nm,.int .i64 u.lb] 102))
 go_enter Tryz.func61,Tryz.ntmps61
 go_wp2_with fail
 go_ret
 exact ⟨rfl,u_ HB⟩
theorem q3k (a b:Option Addr) (l:List Rl) (ca cb:Nat) (w:World) (hn:l.length<=1048576) (ha:Rls w a l) (hb:Rls w b l) :
 Calls Tryz.prog 34 #[.slice a l.length ca,.slice b l.length cb] w fun r w'=>r=.returned (.bool true)/\Below w.heap.size w w':=by
 have HA:=h_ ha;have HB0:=h_ hb
 clear ha hb
 go_enter Tryz.func34,Tryz.ntmps34
 go_wp2_with fail
 go_loopw [5] (fun i wr=>∃ k:Nat,k<=l.length/\i=.int .i64 k/\Below w.heap.size w wr) (fun i _=>l.length - (intOf i).toNat)
 case atStart=>exact ⟨0,nZ _,rfl,bR _ _⟩
 case round =>
  obtain ⟨k,hk,rfl,hB⟩:=hrel
  have HB:=h_ hB
  by_cases hlt:k<l.length
  . obtain ⟨b1,o1,rfl,l1,p0,p1⟩:=((u_ HA).mono hB) k hlt
    obtain ⟨b2,o2,rfl,l2,r0,r1⟩:=((u_ HB0).mono hB) k hlt
    obtain ⟨u,hu⟩:∃ u,l[k]=u:=⟨_,rfl⟩
    rw [hu] at p0 p1 r0 r1
    have HC1:Hid (DCel wr b1 (o1+k*2) (.string u.nm) (.int .i64 u.lb)):=h_ ⟨l1,p0,p1⟩
    have HC2:Hid (DCel wr b2 (o2+k*2) (.string u.nm) (.int .i64 u.lb)):=h_ ⟨l2,r0,r1⟩
    have k0:(0:Int)<=k:=by omega
    have k1:(k:Int)<l.length:=by omega
    clear hB hu p0 p1 r0 r1 l1 l2
    go_wp2_with fail
    refine wp_region_held_drew (S:=fun w'=>DCel w' b1 (o1+k*2) (.string u.nm) (.int .i64 u.lb)/\DCel w' b2 (o2+k*2) (.string u.nm) (.int .i64 u.lb)) (by kernel_rfl) ⟨u_ HC1,u_ HC2⟩ (fun zz=>?_)
    refine tk 0 17 (.slice (some ⟨b1,o1,none⟩) l.length ca) zz ?_
    refine tk 1 18 (.int .i64 k) zz ?_
    refine tk 2 19 (.pointer (some ⟨b1,o1+k*2,none⟩)) zz ?_
    refine tk 3 20 (.agg #[.string u.nm,.int .i64 u.lb]) zz ?_ (hy:=fun w hS=>by obtain ⟨⟨-,q0,q1⟩,-⟩:=hS;simp [execOp,go_sem,q0,q1])
    simp only [sX,sY,sZ]
    refine tk 4 21 (.slice (some ⟨b2,o2,none⟩) l.length cb) zz ?_
    refine tk 5 22 (.int .i64 k) zz ?_
    refine tk 6 23 (.pointer (some ⟨b2,o2+k*2,none⟩)) zz ?_
    refine tk 7 24 (.agg #[.string u.nm,.int .i64 u.lb]) zz ?_ (hy:=fun w hS=>by obtain ⟨-,⟨-,q0,q1⟩⟩:=hS;simp [execOp,go_sem,q0,q1])
    simp only [sX,sY,sZ]
    refine callY (i:=8) (f:=61) (args:=#[.agg #[.string u.nm,.int .i64 u.lb],.agg #[.string u.nm,.int .i64 u.lb]]) (R:=fun v wz=>v=.bool true/\Below wr.heap.size wr wz) 25 rfl rfl (by rfl) (by kernel_rfl) ?hrun1 ((q7n u _).mono fun e w6 ⟨he,hb⟩=>⟨_,he,rfl,q26 hb⟩) ?_
    case hrun1=>simp [execOp,go_sem]
    rintro v w6 ⟨rfl,hb6⟩
    have HB6:=mT HB hb6
    replace zz:DCel w6 b1 (o1+k*2) (.string u.nm) (.int .i64 u.lb)/\DCel w6 b2 (o2+k*2) (.string u.nm) (.int .i64 u.lb):=⟨(u_ HC1).mono hb6,(u_ HC2).mono hb6⟩
    clear hb6
    refine ⟨zz,?_⟩
    simp only [sX,sY,sZ]
    refine tk 9 26 (.bool false) zz ?_
    simp only [sX,sY,sZ]
    refine wpAnyH_done (by kernel_rfl) ?_ _
    clear zz
    go_wp2_with fail
    go_roundw
    case rel=>exact ⟨k+1,by omega,by go_num,u_ HB6⟩
    case measure=>simp [intOf];omega
  . obtain rfl:k=l.length:=by omega
    have hlt':¬ (l.length:Int)<(l.length:Int):=by omega
    clear hB
    go_wp2_with fail
    go_ret
    exact ⟨rfl,u_ HB⟩
theorem q4h (a:Option Addr) (c n:Nat) (l0:Int) (w:World) (h0:0<=l0) (h1:l0<=1048576) (hm:n<=9223372036854775807) :
 Calls Tryz.prog 13 #[.slice a n c,.int .i64 l0] w fun r w'=>∃ q:Int,r=.returned (.int .i64 q)/\(0<=q->q<=1048576/\n<=1048576)/\(q<0->q = -1)/\Below w.heap.size w w':=by
 have hw1:wrap64 (l0 - (n:Int))=l0 - (n:Int):=q4o (by omega) (by omega)
 by_cases h:(n:Int)<=l0
 . have h':¬ l0 - (n:Int)<0:=by omega
   go_enter Tryz.func13,Tryz.ntmps13
   go_wp2_with fail
   go_ret
   exact ⟨_,rfl,fun _=>by omega,fun h=>by omega,bR _ _⟩
 . have h':l0 - (n:Int)<0:=by omega
   go_enter Tryz.func13,Tryz.ntmps13
   go_wp2_with fail
   go_ret
   exact ⟨_,rfl,fun h=>absurd h (by decide),fun _=>rfl,bR _ _⟩
theorem q6p (a:Option Addr) (c n:Nat) (l0:Int) (w:World) (h0:0<=l0) (h1:l0<=1048576) (hm:n<=9223372036854775807) :
 Calls Tryz.prog 64 #[.slice a n c,.int .i64 l0] w fun r w'=>∃ q:Int,r=.returned (.int .i64 q)/\(0<=q->q<=1048576/\n<=1048576)/\(q<0->q = -1)/\Below w.heap.size w w':=by
 have hw1:wrap64 (l0 - (n:Int))=l0 - (n:Int):=q4o (by omega) (by omega)
 by_cases h:(n:Int)<=l0
 . have h':¬ l0 - (n:Int)<0:=by omega
   go_enter Tryz.func64,Tryz.ntmps64
   go_wp2_with fail
   go_ret
   exact ⟨_,rfl,fun _=>by omega,fun h=>by omega,bR _ _⟩
 . have h':l0 - (n:Int)<0:=by omega
   go_enter Tryz.func64,Tryz.ntmps64
   go_wp2_with fail
   go_ret
   exact ⟨_,rfl,fun h=>absurd h (by decide),fun _=>rfl,bR _ _⟩
theorem q9h (u:Rl) (l0:Int) (w:World) (hs:u.nm.size<=9223372036854775807) (h0:0<=l0) (h1:l0<=1048576) :
 Calls Tryz.prog 37 #[.agg #[.string u.nm,.int .i64 u.lb],.int .i64 l0] w fun r w'=>∃ q:Int,r=.returned (.int .i64 q)/\(0<=q->q<=1048576)/\(q<0->q = -1)/\Below w.heap.size w w':=by
 have hw1:wrap64 (l0 - (u.nm.size:Int))=l0 - (u.nm.size:Int):=q4o (by omega) (by omega)
 have HB:=h_ ((bR w.heap.size w).alloc (nR _) (.cells #[.string u.nm,.int .i64 u.lb] 82))
 by_cases h:(u.nm.size:Int)<=l0
 . have h':¬ l0 - (u.nm.size:Int)<0:=by omega
   go_enter Tryz.func37,Tryz.ntmps37
   go_wp2_with fail
   go_ret
   exact ⟨_,rfl,fun _=>by omega,fun h=>by omega,u_ HB⟩
 . have h':l0 - (u.nm.size:Int)<0:=by omega
   go_enter Tryz.func37,Tryz.ntmps37
   go_wp2_with fail
   go_ret
   exact ⟨_,rfl,fun h=>absurd h (by decide),fun _=>rfl,u_ HB⟩
theorem q4i (a:Option Addr) (c:Nat) (l:List Rl) (l0:Int) (w:World) (h0:0<=l0) (h1:l0<=1048576) (hm:l.length<=9223372036854775807) (hs:∀ x,x ∈ l->x.nm.size<=9223372036854775807) (ha:Rls w a l) :
 Calls Tryz.prog 14 #[.slice a l.length c,.int .i64 l0] w fun r w'=>∃ q:Int,r=.returned (.int .i64 q)/\(0<=q->q<=1048576/\l.length<=1048576)/\(q<0->q = -1)/\Below w.heap.size w w':=by
 have HA:=h_ ha;have HF:=h_ hs
 clear ha hs
 have hw1:wrap64 (l0 - (l.length:Int))=l0 - (l.length:Int):=q4o (by omega) (by omega)
 by_cases h:(l.length:Int)<=l0
 . have h':¬ l0 - (l.length:Int)<0:=by omega
   obtain ⟨lq,hlq⟩:∃ lq:Int,l0 - (l.length:Int)=lq:=⟨_,rfl⟩
   have HLQ:Hid (0<=lq/\lq<=1048576):=h_ (by omega)
   have HLN:Hid (l.length<=1048576):=h_ (by omega)
   rw [hlq] at h' hw1
   go_enter Tryz.func14,Tryz.ntmps14
   go_wp2_with fail
   clear h h' hw1 hlq
   go_loopw [1,5] (fun lf i wr=>∃ (k:Nat) (lq:Int),k<=l.length/\i=.int .i64 k/\lf=.int .i64 lq/\0<=lq/\lq<=1048576/\Below w.heap.size w wr) (fun _ i _=>l.length - (intOf i).toNat)
   case atStart=>exact ⟨0,lq,nZ _,rfl,rfl,(u_ HLQ).1,(u_ HLQ).2,bR _ _⟩
   case round =>
    clear HLQ
    obtain ⟨k,lq,hk,rfl,rfl,g0,g1,hb⟩:=hrel
    have HB:=h_ hb;have HAr:=h_ ((u_ HA).mono hb)
    clear hb
    by_cases hlt:k<l.length
    . have hlt':(k:Int)<l.length:=by omega
      obtain ⟨b,o,rfl,-,z0,z1⟩:=u_ HAr k hlt
      have HC:=h_ (q9h l[k] lq wr (u_ HF _ (List.getElem_mem hlt)) g0 g1)
      generalize l[k]=x at *
      go_wp2_with fail
      refine (u_ HC).mono ?_
      rintro r W2 ⟨q,rfl,hq1,hq2,hb⟩
      have HB2:=mT HB hb
      have HQ1:=h_ hq1;have HQ2:=h_ hq2
      clear hb hq1 hq2 z0 z1
      by_cases hr:q<0
      . go_wp2_with fail
        go_ret
        exact ⟨_,rfl,fun h=>absurd h (by decide),fun _=>rfl,u_ HB2⟩
      . go_wp2_with fail
        go_roundw
        case rel=>first | exact ⟨k+1,q,by omega,by go_num,rfl,by omega,u_ HQ1 (by omega),u_ HB2⟩ | ((repeat apply Exists.intro);exact ⟨⟨k+1,q,by omega,by go_num,rfl,by omega,u_ HQ1 (by omega),u_ HB2⟩,rfl⟩)
        case measure=>simp [intOf];omega
    . obtain rfl:k=l.length:=by omega
      have hlt':¬ (l.length:Int)<(l.length:Int):=by omega
      go_wp2_with fail
      go_ret
      exact ⟨_,rfl,fun _=>⟨g1,u_ HLN⟩,fun h=>by omega,u_ HB⟩
 . have h':l0 - (l.length:Int)<0:=by omega
   go_enter Tryz.func14,Tryz.ntmps14
   go_wp2_with fail
   go_ret
   exact ⟨_,rfl,fun h=>absurd h (by decide),fun _=>rfl,bR _ _⟩
theorem qc1 {w w':World} {G n:Nat} {e:Nat->Nx} (h:Nods w (some ⟨G,0,none⟩) n e) (hk:w'.heap[G]? = w.heap[G]?) (hz:w'.heap.size=w.heap.size):Nods w' (some ⟨G,0,none⟩) n e:=fun k hkn=>by
 obtain ⟨b,o,e1,h0,h1,h2,h3,h4,h5⟩:=h k hkn
 cases e1
 exact ⟨G,0,rfl,by rw [hz];exact h0,(World.cell?_of_block (a:=⟨G,0+k*5,none⟩) hk).trans h1,(World.cell?_of_block (a:=⟨G,0+k*5+1,none⟩) hk).trans h2,(World.cell?_of_block (a:=⟨G,0+k*5+2,none⟩) hk).trans h3,(World.cell?_of_block (a:=⟨G,0+k*5+3,none⟩) hk).trans h4,(World.cell?_of_block (a:=⟨G,0+k*5+4,none⟩) hk).trans h5⟩
theorem qbi {w w':World} {G n:Nat} {e:Nat->Int} (h:Ints w (some ⟨G,0,none⟩) n e) (hk:w'.heap[G]? = w.heap[G]?) (hz:w'.heap.size=w.heap.size):Ints w' (some ⟨G,0,none⟩) n e:=fun k hkn=>by
 obtain ⟨b,o,e1,h0,h1⟩:=h k hkn
 cases e1
 exact ⟨G,0,rfl,by rw [hz];exact h0,(World.cell?_of_block (a:=⟨G,0+k,none⟩) hk).trans h1⟩
theorem Nods.other {w:World} {G n:Nat} {e:Nat->Nx} (h:Nods w (some ⟨G,0,none⟩) n e) {R:Nat} (hR:G ≠ R) (j:Nat) (v:Value):Nods (w.setCell ⟨R,j,none⟩ v) (some ⟨G,0,none⟩) n e:=qc1 h (heap_setCell_other w ⟨R,j,none⟩ G v hR) (by simp)
theorem Ints.other {w:World} {G n:Nat} {e:Nat->Int} (h:Ints w (some ⟨G,0,none⟩) n e) {R:Nat} (hR:G ≠ R) (j:Nat) (v:Value):Ints (w.setCell ⟨R,j,none⟩ v) (some ⟨G,0,none⟩) n e:=qbi h (heap_setCell_other w ⟨R,j,none⟩ G v hR) (by simp)
def FarA (N:Nat) (A:FA):Prop:=∃ g1 g2 g3 g4 g5:Nat,A.b=some ⟨g1,0,none⟩/\A.i=some ⟨g2,0,none⟩/\A.h=some ⟨g3,0,none⟩/\A.v=some ⟨g4,0,none⟩/\A.u=some ⟨g5,0,none⟩/\N<=g1/\N<=g2/\N<=g3/\N<=g4/\N<=g5
theorem FSl.keep {w w':World} {f:Fl} {A:FA} {N:Nat} (h:FSl w f A) (hA:FarA N A) (hk:∀ G,N<=G->w'.heap[G]? = w.heap[G]?) (hz:w'.heap.size=w.heap.size):FSl w' f A:=by
 obtain ⟨g1,g2,g3,g4,g5,e1,e2,e3,e4,e5,l1,l2,l3,l4,l5⟩:=hA
 obtain ⟨h1,h2,h3,h4,h5⟩:=h
 unfold IntL at h1
 unfold NodL at h2 h3 h4 h5
 rw [e1] at h1;rw [e2] at h2;rw [e3] at h3;rw [e4] at h4;rw [e5] at h5
 refine ⟨?_,?_,?_,?_,?_⟩
 . unfold IntL;rw [e1];exact qbi h1 (hk _ l1) hz
 . unfold NodL;rw [e2];exact qc1 h2 (hk _ l2) hz
 . unfold NodL;rw [e3];exact qc1 h3 (hk _ l3) hz
 . unfold NodL;rw [e4];exact qc1 h4 (hk _ l4) hz
 . unfold NodL;rw [e5];exact qc1 h5 (hk _ l5) hz
structure SmF (f:Fl):Prop where
 b:f.bys.length<=1048576
 i:f.is.length<=1048576
 h:f.wh.length<=1048576
 v:f.va.length<=1048576
 u:f.mu.length<=1048576
def FBk (N:Nat) (w:World) (f:Fl) (A:FA):Prop:=∃ g1 g2 g3 g4 g5:Nat,A.b=some ⟨g1,0,none⟩/\A.i=some ⟨g2,0,none⟩/\A.h=some ⟨g3,0,none⟩/\A.v=some ⟨g4,0,none⟩/\A.u=some ⟨g5,0,none⟩/\(N<=g1/\N<=g2/\N<=g3/\N<=g4/\N<=g5)/\Bk w g1 3 f.bys.length/\Bk w g2 200 (f.is.length*5)/\Bk w g3 200 (f.wh.length*5)/\Bk w g4 200 (f.va.length*5)/\Bk w g5 200 (f.mu.length*5)
theorem FBk.keep {N:Nat} {w w':World} {f:Fl} {A:FA} (h:FBk N w f A) (hk:∀ G,N<=G->G<w.heap.size->w'.heap[G]? = w.heap[G]?):FBk N w' f A:=by
 obtain ⟨g1,g2,g3,g4,g5,e1,e2,e3,e4,e5,⟨l1,l2,l3,l4,l5⟩,b1,b2,b3,b4,b5⟩:=h
 exact ⟨g1,g2,g3,g4,g5,e1,e2,e3,e4,e5,⟨l1,l2,l3,l4,l5⟩,b1.keep (hk _ l1 b1.lt),b2.keep (hk _ l2 b2.lt),b3.keep (hk _ l3 b3.lt),b4.keep (hk _ l4 b4.lt),b5.keep (hk _ l5 b5.lt)⟩
theorem FBk.lower {N N':Nat} {w:World} {f:Fl} {A:FA} (h:FBk N w f A) (hN:N'<=N):FBk N' w f A:=by
 obtain ⟨g1,g2,g3,g4,g5,e1,e2,e3,e4,e5,⟨l1,l2,l3,l4,l5⟩,b⟩:=h
 exact ⟨g1,g2,g3,g4,g5,e1,e2,e3,e4,e5,⟨by omega,by omega,by omega,by omega,by omega⟩,b⟩
theorem q9i (f:Fl) (A:FA) (w:World) (hn:SmF f) (ha:FSl w f A) :
 Calls Tryz.prog 48 #[fV f A] w fun r w'=>∃ A',r=.returned (fV f A')/\FSl w' f A'/\f.bys.length<=A'.bc/\FarA w.heap.size A'/\FBk w.heap.size w' f A'/\Below w.heap.size w w':=by
 obtain ⟨ab,abc,ai,aic,ah,ahc,av,avc,au,auc⟩:=A
 have HA:=h_ ha;have HN:=h_ hn
 unfold fV
 dsimp only
 have HK:=h_ (((Blk.new w 87 #[.string f.nm,.int .i64 f.ty,.int .i64 f.lb,.slice ab f.bys.length abc,.slice ai f.is.length aic,.slice ah f.wh.length ahc,.slice av f.va.length avc,.string f.sy,.slice au f.mu.length auc]).alloc (.cells #[.string ⟨#[]⟩,.int .i64 0,.int .i64 0,.slice none 0 0,.slice none 0 0,.slice none 0 0,.slice none 0 0,.string ⟨#[]⟩,.slice none 0 0] 94)).alloc (.cells #[.string f.nm,.int .i64 f.ty,.int .i64 f.lb,.slice none 0 0,.slice none 0 0,.slice none 0 0,.slice none 0 0,.string ⟨#[]⟩,.slice none 0 0] 94))
 have HR:=h_ ((Blk.new (w.alloc (.cells #[.string f.nm,.int .i64 f.ty,.int .i64 f.lb,.slice ab f.bys.length abc,.slice ai f.is.length aic,.slice ah f.wh.length ahc,.slice av f.va.length avc,.string f.sy,.slice au f.mu.length auc] 87)) 94 #[.string ⟨#[]⟩,.int .i64 0,.int .i64 0,.slice none 0 0,.slice none 0 0,.slice none 0 0,.slice none 0 0,.string ⟨#[]⟩,.slice none 0 0]).alloc (.cells #[.string f.nm,.int .i64 f.ty,.int .i64 f.lb,.slice none 0 0,.slice none 0 0,.slice none 0 0,.slice none 0 0,.string ⟨#[]⟩,.slice none 0 0] 94))
 have HO:=h_ (Blk.new ((w.alloc (.cells #[.string f.nm,.int .i64 f.ty,.int .i64 f.lb,.slice ab f.bys.length abc,.slice ai f.is.length aic,.slice ah f.wh.length ahc,.slice av f.va.length avc,.string f.sy,.slice au f.mu.length auc] 87)).alloc (.cells #[.string ⟨#[]⟩,.int .i64 0,.int .i64 0,.slice none 0 0,.slice none 0 0,.slice none 0 0,.slice none 0 0,.string ⟨#[]⟩,.slice none 0 0] 94)) 94 #[.string f.nm,.int .i64 f.ty,.int .i64 f.lb,.slice none 0 0,.slice none 0 0,.slice none 0 0,.slice none 0 0,.string ⟨#[]⟩,.slice none 0 0])
 have HB:=h_ ((((bR w.heap.size w).alloc (nR _) (.cells #[.string f.nm,.int .i64 f.ty,.int .i64 f.lb,.slice ab f.bys.length abc,.slice ai f.is.length aic,.slice ah f.wh.length ahc,.slice av f.va.length avc,.string f.sy,.slice au f.mu.length auc] 87)).alloc (by simp) (.cells #[.string ⟨#[]⟩,.int .i64 0,.int .i64 0,.slice none 0 0,.slice none 0 0,.slice none 0 0,.slice none 0 0,.string ⟨#[]⟩,.slice none 0 0] 94)).alloc (by simp;omega) (.cells #[.string f.nm,.int .i64 f.ty,.int .i64 f.lb,.slice none 0 0,.slice none 0 0,.slice none 0 0,.slice none 0 0,.string ⟨#[]⟩,.slice none 0 0] 94))
 simp only [World.size_alloc] at HR HO
 obtain ⟨V0,hV0⟩:∃ V,((w.alloc (.cells #[.string f.nm,.int .i64 f.ty,.int .i64 f.lb,.slice ab f.bys.length abc,.slice ai f.is.length aic,.slice ah f.wh.length ahc,.slice av f.va.length avc,.string f.sy,.slice au f.mu.length auc] 87)).alloc (.cells #[.string ⟨#[]⟩,.int .i64 0,.int .i64 0,.slice none 0 0,.slice none 0 0,.slice none 0 0,.slice none 0 0,.string ⟨#[]⟩,.slice none 0 0] 94)).alloc (.cells #[.string f.nm,.int .i64 f.ty,.int .i64 f.lb,.slice none 0 0,.slice none 0 0,.slice none 0 0,.slice none 0 0,.string ⟨#[]⟩,.slice none 0 0] 94)=V:=⟨_,rfl⟩
 have HZ:Hid (w.heap.size+3<=V0.heap.size):=h_ (by rw [<- hV0];simp)
 rw [hV0] at HK HR HO HB
 clear ha hn
 obtain ⟨x0,x1,x2,x3,x4,x5,x6,x7,x8⟩:=nine (u_ HK)
 go_enter Tryz.func48,Tryz.ntmps48
 go_wp2_with fail
 try rw [hV0]
 clear hV0 x0 x1 x2 x3 x4 x5 x6 x7 x8
 refine (q9k ab (fun k=>f.bys.getD k 0) f.bys.length abc V0 ((u_ HA).mono (u_ HB)).b (u_ HN).b).mono ?_
 rintro e w1 ⟨rfl,hP,hb⟩
 have hbk:Bk w1 V0.heap.size 3 f.bys.length:=⟨_,hP,by simp [is]⟩
 obtain ⟨G1,hG1⟩:∃ G,V0.heap.size=G:=⟨_,rfl⟩
 have hgG1:w.heap.size+3<=G1:=by have:=u_ HZ;omega
 have HK':=mB HK hb;have HR':=mB HR hb;have HO':=mB HO hb;have HB':=mT HB hb
 have HZ':Hid (w.heap.size+3<=w1.heap.size):=h_ (by have:=u_ HZ;have:=hb.size;omega)
 rw [hG1] at hP hbk ⊢
 have HM3:=h_ hP.ints
 have HF3:=h_ hbk
 clear hP hbk hb hG1 HK HR HO HB HZ
 obtain ⟨x0,x1,x2,x3,x4,x5,x6,x7,x8⟩:=nine (u_ HK')
 obtain ⟨o0,o1,o2,o3,o4,o5,o6,o7,o8⟩:=nine (u_ HO')
 have e3:=(u_ HO').free 3;have e7:=(u_ HO').free 7
 go_wp2_with fail
 have HK:=h_ ((u_ HK').other (.slice (some ⟨G1,0,none⟩) f.bys.length f.bys.length) (a:=⟨w.heap.size+2,3,none⟩) (by simp));have HR:=h_ ((u_ HR').other (.slice (some ⟨G1,0,none⟩) f.bys.length f.bys.length) (a:=⟨w.heap.size+2,3,none⟩) (by simp));have HO:=h_ ((u_ HO').set 3 (.slice (some ⟨G1,0,none⟩) f.bys.length f.bys.length));have HB:=h_ ((u_ HB').setCell (p:=⟨w.heap.size+2,3,none⟩) (show w.heap.size<=w.heap.size+2 by omega) (.slice (some ⟨G1,0,none⟩) f.bys.length f.bys.length))
 have HZ:Hid (w.heap.size+3<=(w1.setCell ⟨w.heap.size+2,3,none⟩ (.slice (some ⟨G1,0,none⟩) f.bys.length f.bys.length)).heap.size):=h_ (by simpa using u_ HZ')
 replace HM3:=h_ ((u_ HM3).other (R:=w.heap.size+2) (by omega) 3 (.slice (some ⟨G1,0,none⟩) f.bys.length f.bys.length))
 replace HF3:=h_ ((u_ HF3).other (R:=w.heap.size+2) (by omega) 3 (.slice (some ⟨G1,0,none⟩) f.bys.length f.bys.length))
 obtain ⟨V1,hV1⟩:∃ V,(w1.setCell ⟨w.heap.size+2,3,none⟩ (.slice (some ⟨G1,0,none⟩) f.bys.length f.bys.length))=V:=⟨_,rfl⟩
 rw [hV1] at HK HR HO HB HZ HM3 HF3
 simp only [List.set_cons_zero,List.set_cons_succ] at HO
 try rw [hV1]
 clear hV1 HK' HR' HO' HB' HZ' x0 x1 x2 x3 x4 x5 x6 x7 x8 o0 o1 o2 o3 o4 o5 o6 o7 o8 e3 e7
 refine (q9l ai (nf f.is) f.is.length aic V1 ((u_ HA).mono (u_ HB)).i (u_ HN).i).mono ?_
 rintro e w2 ⟨rfl,hP,hbk,hb⟩
 obtain ⟨G2,hG2⟩:∃ G,V1.heap.size=G:=⟨_,rfl⟩
 have hgG2:w.heap.size+3<=G2:=by have:=u_ HZ;omega
 have HK':=mB HK hb;have HR':=mB HR hb;have HO':=mB HO hb;have HB':=mT HB hb
 have HZ':Hid (w.heap.size+3<=w2.heap.size):=h_ (by have:=u_ HZ;have:=hb.size;omega)
 replace HM3:=h_ ((u_ HM3).mono hb)
 replace HF3:=h_ ((u_ HF3).mono hb (u_ HF3).lt)
 rw [hG2] at hP hbk ⊢
 have HM4:=h_ hP
 have HF4:=h_ hbk
 clear hP hbk hb hG2 HK HR HO HB HZ
 obtain ⟨x0,x1,x2,x3,x4,x5,x6,x7,x8⟩:=nine (u_ HK')
 obtain ⟨o0,o1,o2,o3,o4,o5,o6,o7,o8⟩:=nine (u_ HO')
 have e3:=(u_ HO').free 4;have e7:=(u_ HO').free 7
 go_wp2_with fail
 have HK:=h_ ((u_ HK').other (.slice (some ⟨G2,0,none⟩) f.is.length f.is.length) (a:=⟨w.heap.size+2,4,none⟩) (by simp));have HR:=h_ ((u_ HR').other (.slice (some ⟨G2,0,none⟩) f.is.length f.is.length) (a:=⟨w.heap.size+2,4,none⟩) (by simp));have HO:=h_ ((u_ HO').set 4 (.slice (some ⟨G2,0,none⟩) f.is.length f.is.length));have HB:=h_ ((u_ HB').setCell (p:=⟨w.heap.size+2,4,none⟩) (show w.heap.size<=w.heap.size+2 by omega) (.slice (some ⟨G2,0,none⟩) f.is.length f.is.length))
 have HZ:Hid (w.heap.size+3<=(w2.setCell ⟨w.heap.size+2,4,none⟩ (.slice (some ⟨G2,0,none⟩) f.is.length f.is.length)).heap.size):=h_ (by simpa using u_ HZ')
 replace HM3:=h_ ((u_ HM3).other (R:=w.heap.size+2) (by omega) 4 (.slice (some ⟨G2,0,none⟩) f.is.length f.is.length))
 replace HF3:=h_ ((u_ HF3).other (R:=w.heap.size+2) (by omega) 4 (.slice (some ⟨G2,0,none⟩) f.is.length f.is.length))
 replace HM4:=h_ ((u_ HM4).other (R:=w.heap.size+2) (by omega) 4 (.slice (some ⟨G2,0,none⟩) f.is.length f.is.length))
 replace HF4:=h_ ((u_ HF4).other (R:=w.heap.size+2) (by omega) 4 (.slice (some ⟨G2,0,none⟩) f.is.length f.is.length))
 obtain ⟨V2,hV2⟩:∃ V,(w2.setCell ⟨w.heap.size+2,4,none⟩ (.slice (some ⟨G2,0,none⟩) f.is.length f.is.length))=V:=⟨_,rfl⟩
 rw [hV2] at HK HR HO HB HZ HM3 HM4 HF3 HF4
 simp only [List.set_cons_zero,List.set_cons_succ] at HO
 try rw [hV2]
 clear hV2 HK' HR' HO' HB' HZ' x0 x1 x2 x3 x4 x5 x6 x7 x8 o0 o1 o2 o3 o4 o5 o6 o7 o8 e3 e7
 refine (q9l ah (nf f.wh) f.wh.length ahc V2 ((u_ HA).mono (u_ HB)).h (u_ HN).h).mono ?_
 rintro e w3 ⟨rfl,hP,hbk,hb⟩
 obtain ⟨G3,hG3⟩:∃ G,V2.heap.size=G:=⟨_,rfl⟩
 have hgG3:w.heap.size+3<=G3:=by have:=u_ HZ;omega
 have HK':=mB HK hb;have HR':=mB HR hb;have HO':=mB HO hb;have HB':=mT HB hb
 have HZ':Hid (w.heap.size+3<=w3.heap.size):=h_ (by have:=u_ HZ;have:=hb.size;omega)
 replace HM3:=h_ ((u_ HM3).mono hb)
 replace HF3:=h_ ((u_ HF3).mono hb (u_ HF3).lt)
 replace HM4:=h_ ((u_ HM4).mono hb)
 replace HF4:=h_ ((u_ HF4).mono hb (u_ HF4).lt)
 rw [hG3] at hP hbk ⊢
 have HM5:=h_ hP
 have HF5:=h_ hbk
 clear hP hbk hb hG3 HK HR HO HB HZ
 obtain ⟨x0,x1,x2,x3,x4,x5,x6,x7,x8⟩:=nine (u_ HK')
 obtain ⟨o0,o1,o2,o3,o4,o5,o6,o7,o8⟩:=nine (u_ HO')
 have e3:=(u_ HO').free 5;have e7:=(u_ HO').free 7
 go_wp2_with fail
 have HK:=h_ ((u_ HK').other (.slice (some ⟨G3,0,none⟩) f.wh.length f.wh.length) (a:=⟨w.heap.size+2,5,none⟩) (by simp));have HR:=h_ ((u_ HR').other (.slice (some ⟨G3,0,none⟩) f.wh.length f.wh.length) (a:=⟨w.heap.size+2,5,none⟩) (by simp));have HO:=h_ ((u_ HO').set 5 (.slice (some ⟨G3,0,none⟩) f.wh.length f.wh.length));have HB:=h_ ((u_ HB').setCell (p:=⟨w.heap.size+2,5,none⟩) (show w.heap.size<=w.heap.size+2 by omega) (.slice (some ⟨G3,0,none⟩) f.wh.length f.wh.length))
 have HZ:Hid (w.heap.size+3<=(w3.setCell ⟨w.heap.size+2,5,none⟩ (.slice (some ⟨G3,0,none⟩) f.wh.length f.wh.length)).heap.size):=h_ (by simpa using u_ HZ')
 replace HM3:=h_ ((u_ HM3).other (R:=w.heap.size+2) (by omega) 5 (.slice (some ⟨G3,0,none⟩) f.wh.length f.wh.length))
 replace HF3:=h_ ((u_ HF3).other (R:=w.heap.size+2) (by omega) 5 (.slice (some ⟨G3,0,none⟩) f.wh.length f.wh.length))
 replace HM4:=h_ ((u_ HM4).other (R:=w.heap.size+2) (by omega) 5 (.slice (some ⟨G3,0,none⟩) f.wh.length f.wh.length))
 replace HF4:=h_ ((u_ HF4).other (R:=w.heap.size+2) (by omega) 5 (.slice (some ⟨G3,0,none⟩) f.wh.length f.wh.length))
 replace HM5:=h_ ((u_ HM5).other (R:=w.heap.size+2) (by omega) 5 (.slice (some ⟨G3,0,none⟩) f.wh.length f.wh.length))
 replace HF5:=h_ ((u_ HF5).other (R:=w.heap.size+2) (by omega) 5 (.slice (some ⟨G3,0,none⟩) f.wh.length f.wh.length))
 obtain ⟨V3,hV3⟩:∃ V,(w3.setCell ⟨w.heap.size+2,5,none⟩ (.slice (some ⟨G3,0,none⟩) f.wh.length f.wh.length))=V:=⟨_,rfl⟩
 rw [hV3] at HK HR HO HB HZ HM3 HM4 HM5 HF3 HF4 HF5
 simp only [List.set_cons_zero,List.set_cons_succ] at HO
 try rw [hV3]
 clear hV3 HK' HR' HO' HB' HZ' x0 x1 x2 x3 x4 x5 x6 x7 x8 o0 o1 o2 o3 o4 o5 o6 o7 o8 e3 e7
 refine (q9l av (nf f.va) f.va.length avc V3 ((u_ HA).mono (u_ HB)).v (u_ HN).v).mono ?_
 rintro e w4 ⟨rfl,hP,hbk,hb⟩
 obtain ⟨G4,hG4⟩:∃ G,V3.heap.size=G:=⟨_,rfl⟩
 have hgG4:w.heap.size+3<=G4:=by have:=u_ HZ;omega
 have HK':=mB HK hb;have HR':=mB HR hb;have HO':=mB HO hb;have HB':=mT HB hb
 have HZ':Hid (w.heap.size+3<=w4.heap.size):=h_ (by have:=u_ HZ;have:=hb.size;omega)
 replace HM3:=h_ ((u_ HM3).mono hb)
 replace HF3:=h_ ((u_ HF3).mono hb (u_ HF3).lt)
 replace HM4:=h_ ((u_ HM4).mono hb)
 replace HF4:=h_ ((u_ HF4).mono hb (u_ HF4).lt)
 replace HM5:=h_ ((u_ HM5).mono hb)
 replace HF5:=h_ ((u_ HF5).mono hb (u_ HF5).lt)
 rw [hG4] at hP hbk ⊢
 have HM6:=h_ hP
 have HF6:=h_ hbk
 clear hP hbk hb hG4 HK HR HO HB HZ
 obtain ⟨x0,x1,x2,x3,x4,x5,x6,x7,x8⟩:=nine (u_ HK')
 obtain ⟨o0,o1,o2,o3,o4,o5,o6,o7,o8⟩:=nine (u_ HO')
 have e3:=(u_ HO').free 6;have e7:=(u_ HO').free 7
 go_wp2_with fail
 have HK:=h_ (((u_ HK').other (.slice (some ⟨G4,0,none⟩) f.va.length f.va.length) (a:=⟨w.heap.size+2,6,none⟩) (by simp)).other (.string f.sy) (a:=⟨w.heap.size+2,7,none⟩) (by simp));have HR:=h_ (((u_ HR').other (.slice (some ⟨G4,0,none⟩) f.va.length f.va.length) (a:=⟨w.heap.size+2,6,none⟩) (by simp)).other (.string f.sy) (a:=⟨w.heap.size+2,7,none⟩) (by simp));have HO:=h_ (((u_ HO').set 6 (.slice (some ⟨G4,0,none⟩) f.va.length f.va.length)).set 7 (.string f.sy));have HB:=h_ (((u_ HB').setCell (p:=⟨w.heap.size+2,6,none⟩) (show w.heap.size<=w.heap.size+2 by omega) (.slice (some ⟨G4,0,none⟩) f.va.length f.va.length)).setCell (p:=⟨w.heap.size+2,7,none⟩) (show w.heap.size<=w.heap.size+2 by omega) (.string f.sy))
 have HZ:Hid (w.heap.size+3<=((w4.setCell ⟨w.heap.size+2,6,none⟩ (.slice (some ⟨G4,0,none⟩) f.va.length f.va.length)).setCell ⟨w.heap.size+2,7,none⟩ (.string f.sy)).heap.size):=h_ (by simpa using u_ HZ')
 replace HM3:=h_ (((u_ HM3).other (R:=w.heap.size+2) (by omega) 6 (.slice (some ⟨G4,0,none⟩) f.va.length f.va.length)).other (R:=w.heap.size+2) (by omega) 7 (.string f.sy))
 replace HF3:=h_ (((u_ HF3).other (R:=w.heap.size+2) (by omega) 6 (.slice (some ⟨G4,0,none⟩) f.va.length f.va.length)).other (R:=w.heap.size+2) (by omega) 7 (.string f.sy))
 replace HM4:=h_ (((u_ HM4).other (R:=w.heap.size+2) (by omega) 6 (.slice (some ⟨G4,0,none⟩) f.va.length f.va.length)).other (R:=w.heap.size+2) (by omega) 7 (.string f.sy))
 replace HF4:=h_ (((u_ HF4).other (R:=w.heap.size+2) (by omega) 6 (.slice (some ⟨G4,0,none⟩) f.va.length f.va.length)).other (R:=w.heap.size+2) (by omega) 7 (.string f.sy))
 replace HM5:=h_ (((u_ HM5).other (R:=w.heap.size+2) (by omega) 6 (.slice (some ⟨G4,0,none⟩) f.va.length f.va.length)).other (R:=w.heap.size+2) (by omega) 7 (.string f.sy))
 replace HF5:=h_ (((u_ HF5).other (R:=w.heap.size+2) (by omega) 6 (.slice (some ⟨G4,0,none⟩) f.va.length f.va.length)).other (R:=w.heap.size+2) (by omega) 7 (.string f.sy))
 replace HM6:=h_ (((u_ HM6).other (R:=w.heap.size+2) (by omega) 6 (.slice (some ⟨G4,0,none⟩) f.va.length f.va.length)).other (R:=w.heap.size+2) (by omega) 7 (.string f.sy))
 replace HF6:=h_ (((u_ HF6).other (R:=w.heap.size+2) (by omega) 6 (.slice (some ⟨G4,0,none⟩) f.va.length f.va.length)).other (R:=w.heap.size+2) (by omega) 7 (.string f.sy))
 obtain ⟨V4,hV4⟩:∃ V,((w4.setCell ⟨w.heap.size+2,6,none⟩ (.slice (some ⟨G4,0,none⟩) f.va.length f.va.length)).setCell ⟨w.heap.size+2,7,none⟩ (.string f.sy))=V:=⟨_,rfl⟩
 rw [hV4] at HK HR HO HB HZ HM3 HM4 HM5 HM6 HF3 HF4 HF5 HF6
 simp only [List.set_cons_zero,List.set_cons_succ] at HO
 try rw [hV4]
 clear hV4 HK' HR' HO' HB' HZ' x0 x1 x2 x3 x4 x5 x6 x7 x8 o0 o1 o2 o3 o4 o5 o6 o7 o8 e3 e7
 refine (q9l au (nf f.mu) f.mu.length auc V4 ((u_ HA).mono (u_ HB)).u (u_ HN).u).mono ?_
 rintro e w5 ⟨rfl,hP,hbk,hb⟩
 obtain ⟨G5,hG5⟩:∃ G,V4.heap.size=G:=⟨_,rfl⟩
 have hgG5:w.heap.size+3<=G5:=by have:=u_ HZ;omega
 have HK':=mB HK hb;have HR':=mB HR hb;have HO':=mB HO hb;have HB':=mT HB hb
 have HZ':Hid (w.heap.size+3<=w5.heap.size):=h_ (by have:=u_ HZ;have:=hb.size;omega)
 replace HM3:=h_ ((u_ HM3).mono hb)
 replace HF3:=h_ ((u_ HF3).mono hb (u_ HF3).lt)
 replace HM4:=h_ ((u_ HM4).mono hb)
 replace HF4:=h_ ((u_ HF4).mono hb (u_ HF4).lt)
 replace HM5:=h_ ((u_ HM5).mono hb)
 replace HF5:=h_ ((u_ HF5).mono hb (u_ HF5).lt)
 replace HM6:=h_ ((u_ HM6).mono hb)
 replace HF6:=h_ ((u_ HF6).mono hb (u_ HF6).lt)
 rw [hG5] at hP hbk ⊢
 have HM8:=h_ hP
 have HF8:=h_ hbk
 clear hP hbk hb hG5 HK HR HO HB HZ
 obtain ⟨x0,x1,x2,x3,x4,x5,x6,x7,x8⟩:=nine (u_ HK')
 obtain ⟨o0,o1,o2,o3,o4,o5,o6,o7,o8⟩:=nine (u_ HO')
 have e3:=(u_ HO').free 8;have e7:=(u_ HO').free 7
 obtain ⟨r0,r1,r2,r3,r4,r5,r6,r7,r8⟩:=nine (u_ HR')
 have s0:=(u_ HR').free 0;have s1:=(u_ HR').free 1;have s2:=(u_ HR').free 2;have s3:=(u_ HR').free 3;have s4:=(u_ HR').free 4;have s5:=(u_ HR').free 5;have s6:=(u_ HR').free 6;have s7:=(u_ HR').free 7;have s8:=(u_ HR').free 8
 have HF:Hid (∀ (W:World),(∀ G,w.heap.size+3<=G->W.heap[G]? = w5.heap[G]?)->W.heap.size=w5.heap.size->FSl W f ⟨some ⟨G1,0,none⟩,f.bys.length,some ⟨G2,0,none⟩,f.is.length,some ⟨G3,0,none⟩,f.wh.length,some ⟨G4,0,none⟩,f.va.length,some ⟨G5,0,none⟩,f.mu.length⟩):=h_ fun W hW hz=>⟨qbi (u_ HM3) (hW _ hgG1) hz,qc1 (u_ HM4) (hW _ hgG2) hz,qc1 (u_ HM5) (hW _ hgG3) hz,qc1 (u_ HM6) (hW _ hgG4) hz,qc1 (u_ HM8) (hW _ hgG5) hz⟩
 go_wp2_with fail
 refine bodyPost_ret (v:=.agg #[.string f.nm,.int .i64 f.ty,.int .i64 f.lb,.slice (some ⟨G1,0,none⟩) f.bys.length f.bys.length,.slice (some ⟨G2,0,none⟩) f.is.length f.is.length,.slice (some ⟨G3,0,none⟩) f.wh.length f.wh.length,.slice (some ⟨G4,0,none⟩) f.va.length f.va.length,.string f.sy,.slice (some ⟨G5,0,none⟩) f.mu.length f.mu.length]) (by simp [results,Tryz.results48,go_sem, *]) rfl ⟨⟨some ⟨G1,0,none⟩,f.bys.length,some ⟨G2,0,none⟩,f.is.length,some ⟨G3,0,none⟩,f.wh.length,some ⟨G4,0,none⟩,f.va.length,some ⟨G5,0,none⟩,f.mu.length⟩,rfl,?_,nR _,⟨G1,G2,G3,G4,G5,rfl,rfl,rfl,rfl,rfl,by omega,by omega,by omega,by omega,by omega⟩,?_,?_⟩
 . refine u_ HF _ (fun G hG=>?_) (by simp)
   repeat rw [heap_setCell_other _ _ _ _ (by simp;omega)]
 . have hk:∀ (W:World),(∀ G,w.heap.size+3<=G->W.heap[G]? = w5.heap[G]?)->FBk w.heap.size W f ⟨some ⟨G1,0,none⟩,f.bys.length,some ⟨G2,0,none⟩,f.is.length,some ⟨G3,0,none⟩,f.wh.length,some ⟨G4,0,none⟩,f.va.length,some ⟨G5,0,none⟩,f.mu.length⟩:=fun W hW=>⟨G1,G2,G3,G4,G5,rfl,rfl,rfl,rfl,rfl,⟨by omega,by omega,by omega,by omega,by omega⟩,(u_ HF3).keep (hW _ hgG1),(u_ HF4).keep (hW _ hgG2),(u_ HF5).keep (hW _ hgG3),(u_ HF6).keep (hW _ hgG4),(u_ HF8).keep (hW _ hgG5)⟩
   refine hk _ (fun G hG=>?_)
   repeat rw [heap_setCell_other _ _ _ _ (by simp;omega)]
 . repeat refine Below.setCell ?_ (by simp;try omega) _
   exact u_ HB'
theorem q3a {w:World} {base e g n:Nat} {xs:List Value} (h:w.ownsRow base e 9 (.slice (some ⟨g,0,none⟩) n n) n xs):Blk w g e xs/\xs.length=n*9:=by
 refine ⟨?_,h.1⟩
 rcases h.2 with ⟨h',_⟩ | ⟨g',cap',cur,h',_,hg,_,_,hs,htake⟩
 . simp at h'
 . simp only [Value.slice.injEq,Option.some.injEq,Addr.mk.injEq,and_true,true_and] at h'
   obtain ⟨rfl,rfl⟩:=h'
   rw [List.take_of_length_le (by simp;omega)] at htake
   rw [<- htake];simpa [Blk] using hg
theorem q80:(Tryz.prog.info? 94).map (fun i=>(i.zero,i.size,i.bytes))=some (some (.agg #[.string ⟨#[]⟩,.int .i64 0,.int .i64 0,.slice none 0 0,.slice none 0 0,.slice none 0 0,.slice none 0 0,.string ⟨#[]⟩,.slice none 0 0]),9,168):=by kernel_rfl
def Rows9 (xs:List Value) (l:List Fl) (AF:Nat->FA) (k:Nat):Prop:=∀ j (h:j<l.length),j<k->xs[j*9]? = some (.string l[j].nm)/\xs[j*9+1]? = some (.int .i64 l[j].ty)/\xs[j*9+2]? = some (.int .i64 l[j].lb)/\xs[j*9+3]? = some (.slice (AF j).b l[j].bys.length (AF j).bc)/\xs[j*9+4]? = some (.slice (AF j).i l[j].is.length (AF j).ic)/\xs[j*9+5]? = some (.slice (AF j).h l[j].wh.length (AF j).hc)/\xs[j*9+6]? = some (.slice (AF j).v l[j].va.length (AF j).vc)/\xs[j*9+7]? = some (.string l[j].sy)/\xs[j*9+8]? = some (.slice (AF j).u l[j].mu.length (AF j).uc)
theorem q6u (a:Option Addr) (l:List Fl) (AF0:Nat->FA) (c:Nat) (w:World) (ha:Flds w a l AF0) (hn:l.length<=1048576) (hs:∀ x,x ∈ l->SmF x) :
 Calls Tryz.prog 25 #[.slice a l.length c] w fun r w'=>∃ AF,r=.returned (.slice (some ⟨w.heap.size,0,none⟩) l.length l.length)/\Flds w' (some ⟨w.heap.size,0,none⟩) l AF/\(∀ k (h:k<l.length),l[k].bys.length<=(AF k).bc/\FarA (w.heap.size+1) (AF k)/\FBk (w.heap.size+1) w' l[k] (AF k))/\Bk w' w.heap.size 94 (l.length*9)/\Below w.heap.size w w':=by
 obtain ⟨i0,hi,hz0,hz1,hz2⟩:=info_parts q80
 obtain ⟨B,hB⟩:∃ B,w.heap.size=B:=⟨_,rfl⟩
 have hbn:i0.bytes*l.length<=281474976710656:=by rw [hz2];omega
 have HA:=h_ ha;have HSm:=h_ hs
 clear ha hs
 go_enter Tryz.func25,Tryz.ntmps25
 go_wp2_with (at_make;refine wpList_make_full _ rfl _ _ 34 rfl w.heap.size 94 i0 _ 9 Tryz.underlying34 hi hz0 hz1 .i64 .i64 _ _ l.length rfl rfl rfl rfl hbn (by unfold maxLen;omega) (nR _) ?_;intro w1 hown hgrow)
 have hb1:Below B w w1:=by rw [<- hB];exact (bR _ _).grown hgrow (nR _) (fun k h=>by cases h)
 rw [hB] at hown
 obtain ⟨hX,hXl⟩:=q3a hown
 have HX:=h_ hX;have HXL:=h_ hXl;have HB1:=h_ hb1
 clear hgrow hbn hi hz0 hz1 hz2 hown hX hXl hb1
 go_wp2_with fail
 try rw [hB]
 go_loopw [4] (fun i wr=>∃ (k:Nat) (xs:List Value) (AF:Nat->FA),k<=l.length/\i=.int .i64 k/\Blk wr B 94 xs/\xs.length=l.length*9/\Rows9 xs l AF k/\(∀ j (h:j<l.length),j<k->FSl wr l[j] (AF j)/\FarA (B+1) (AF j)/\l[j].bys.length<=(AF j).bc/\FBk (B+1) wr l[j] (AF j))/\Below B w wr) (fun i _=>l.length - (intOf i).toNat)
 case atStart=>exact ⟨0,_,AF0,nZ _,rfl,u_ HX,u_ HXL,fun j _ h=>absurd h (nL _),fun j _ h=>absurd h (nL _),u_ HB1⟩
 case round =>
  clear HX HXL HB1
  obtain ⟨k,xs,AF,hk,rfl,hX,hXl,hx,hsl,hb⟩:=hrel
  have HX:=h_ hX;have HXL:=h_ hXl;have HXX:=h_ hx;have HB:=h_ hb;have HSl:=h_ hsl
  have HV:=h_ ((u_ HA).mono (hb.mono (by omega)))
  clear hX hXl hx hb hsl
  by_cases hlt:k<l.length
  . have hlt':(k:Int)<l.length:=by omega
    obtain ⟨b1,o1,rfl,⟨-,z0,z1,z2,z3,z4,z5,z6,z7,z8⟩,hsf⟩:=u_ HV k hlt
    have HC:=h_ (q9i l[k] (AF0 k) wr (u_ HSm _ (List.getElem_mem hlt)) hsf)
    obtain ⟨u,hu⟩:∃ u,l[k]=u:=⟨_,rfl⟩
    rw [hu] at z0 z1 z2 z3 z4 z5 z6 z7 z8 HC
    have HU:=h_ hu
    clear hu hsf
    generalize AF0 k=fa at *
    obtain ⟨ab,abc,ai,aic,ah,ahc,av,avc,au,auc⟩:=fa
    unfold fV at HC
    dsimp only at z3 z4 z5 z6 z8 HC
    go_wp2_with fail
    refine (u_ HC).mono ?_
    rintro x w3 ⟨A',rfl,hs3,hcap,hfar,hfb,hb3⟩
    have HFb:=h_ hfb
    have X3:=(u_ HX).mono hb3 (u_ HX).lt
    have B3:=(u_ HB).trans (hb3.mono (by have:=(u_ HX).lt;omega))
    have c0:=X3.cell (k*9);have c1:=X3.cell (k*9+1);have c2:=X3.cell (k*9+2);have c3:=X3.cell (k*9+3);have c4:=X3.cell (k*9+4);have c5:=X3.cell (k*9+5);have c6:=X3.cell (k*9+6);have c7:=X3.cell (k*9+7);have c8:=X3.cell (k*9+8);
    have f0:=X3.free (k*9);have f1:=X3.free (k*9+1);have f2:=X3.free (k*9+2);have f3:=X3.free (k*9+3);have f4:=X3.free (k*9+4);have f5:=X3.free (k*9+5);have f6:=X3.free (k*9+6);have f7:=X3.free (k*9+7);have f8:=X3.free (k*9+8);
    rw [List.getElem?_eq_getElem (by have:=u_ HXL;omega)] at c0 c1 c2 c3 c4 c5 c6 c7 c8
    have HX3:=h_ X3;have HB3:=h_ B3;have HS3:=h_ hs3;have HFar:=h_ hfar;have HCap:=h_ hcap
    have hBw:B<wr.heap.size:=(u_ HX).lt
    have HSl3:Hid (∀ j (h:j<l.length),j<k->FSl w3 l[j] (AF j)/\FarA (B+1) (AF j)/\l[j].bys.length<=(AF j).bc/\FBk (B+1) w3 l[j] (AF j)):=h_ fun j h hj=>⟨(u_ HSl j h hj).1.mono hb3,(u_ HSl j h hj).2.1,(u_ HSl j h hj).2.2.1,(u_ HSl j h hj).2.2.2.keep fun G _ hG=>hb3.block G hG⟩
    clear X3 B3 hb3 z0 z1 z2 z3 z4 z5 z6 z7 z8 hs3 hfar hcap hfb HC
    go_wp2_with fail
    go_roundw
    case rel =>
     have hxl:=u_ HXL
     have hu:=u_ HU
     obtain ⟨g1,g2,g3,g4,g5,e1,e2,e3,e4,e5,l1,l2,l3,l4,l5⟩:=u_ HFar
     have hfar2:FarA (B+1) A':=⟨g1,g2,g3,g4,g5,e1,e2,e3,e4,e5,by omega,by omega,by omega,by omega,by omega⟩
     refine ⟨k+1,_,fun j=>if j=k then A' else AF j,by omega,by go_num,(((((((((u_ HX3).set (k*9) (.string u.nm)).set (k*9+1) (.int .i64 u.ty)).set (k*9+2) (.int .i64 u.lb)).set (k*9+3) (.slice A'.b u.bys.length A'.bc)).set (k*9+4) (.slice A'.i u.is.length A'.ic)).set (k*9+5) (.slice A'.h u.wh.length A'.hc)).set (k*9+6) (.slice A'.v u.va.length A'.vc)).set (k*9+7) (.string u.sy)).set (k*9+8) (.slice A'.u u.mu.length A'.uc),by simpa using hxl,fun j hjl hj=>?_,fun j hjl hj=>?_,(((((((((u_ HB3).setCell (nR _) _).setCell (nR _) _).setCell (nR _) _).setCell (nR _) _).setCell (nR _) _).setCell (nR _) _).setCell (nR _) _).setCell (nR _) _).setCell (nR _) _⟩
     . by_cases ej:j=k
       . subst ej
         simp only [if_pos]
         rw [hu]
         simp [List.getElem?_set];omega
       . have:=u_ HXX j hjl (by omega)
         simp only [if_neg ej,List.getElem?_set]
         (repeat rw [if_neg (by omega)])
         exact this
     . have hkeep:∀ G,B+1<=G->((((((((((w3.setCell ⟨B,k*9,none⟩ (.string u.nm)).setCell ⟨B,k*9+1,none⟩ (.int .i64 u.ty)).setCell ⟨B,k*9+2,none⟩ (.int .i64 u.lb)).setCell ⟨B,k*9+3,none⟩ (.slice A'.b u.bys.length A'.bc)).setCell ⟨B,k*9+4,none⟩ (.slice A'.i u.is.length A'.ic)).setCell ⟨B,k*9+5,none⟩ (.slice A'.h u.wh.length A'.hc)).setCell ⟨B,k*9+6,none⟩ (.slice A'.v u.va.length A'.vc)).setCell ⟨B,k*9+7,none⟩ (.string u.sy)).setCell ⟨B,k*9+8,none⟩ (.slice A'.u u.mu.length A'.uc)).heap[G]? = w3.heap[G]?):=fun G hG=>by
        repeat rw [heap_setCell_other _ _ _ _ (by simp;omega)]
       by_cases ej:j=k
       . subst ej
         simp only [if_pos]
         rw [hu]
         exact ⟨(u_ HS3).keep hfar2 hkeep (by simp),hfar2,u_ HCap,((u_ HFb).lower (by omega)).keep fun G hG _=>hkeep G hG⟩
       . simp only [if_neg ej]
         have h0:=u_ HSl3 j hjl (by omega)
         exact ⟨h0.1.keep h0.2.1 hkeep (by simp),h0.2.1,h0.2.2.1,h0.2.2.2.keep fun G hG _=>hkeep G hG⟩
    case measure=>simp [intOf];omega
  . obtain rfl:k=l.length:=by omega
    have hlt':¬ (l.length:Int)<(l.length:Int):=by omega
    go_wp2_with fail
    go_ret
    refine ⟨rfl,AF,?_,fun j h=>⟨(u_ HSl j h h).2.2.1,(u_ HSl j h h).2.1,(u_ HSl j h h).2.2.2⟩,⟨_,u_ HX,u_ HXL⟩,u_ HB⟩
    intro j hj
    obtain ⟨h0,h1,h2,h3,h4,h5,h6,h7,h8⟩:=u_ HXX j hj hj
    have hX:=u_ HX
    exact ⟨B,0,rfl,⟨hX.lt,by rw [Nat.zero_add,hX.cell];exact h0,by rw [Nat.zero_add,hX.cell];exact h1,by rw [Nat.zero_add,hX.cell];exact h2,by rw [Nat.zero_add,hX.cell];exact h3,by rw [Nat.zero_add,hX.cell];exact h4,by rw [Nat.zero_add,hX.cell];exact h5,by rw [Nat.zero_add,hX.cell];exact h6,by rw [Nat.zero_add,hX.cell];exact h7,by rw [Nat.zero_add,hX.cell];exact h8⟩,(u_ HSl j hj hj).1⟩
theorem q6o (f:Fl) (A:FA) (l0:Int) (w:World) (hf:FitF f) (h0:0<=l0) (h1:l0<=1048576) (ha:FSl w f A) :
 Calls Tryz.prog 38 #[fV f A,.int .i64 l0] w fun r w'=>∃ q:Int,r=.returned (.int .i64 q)/\(0<=q->q<=1048576/\SmF f)/\(q<0->q = -1)/\Below w.heap.size w w':=by
 obtain ⟨ab,abc,ai,aic,ah,ahc,av,avc,au,auc⟩:=A
 unfold fV
 dsimp only
 have HK:=h_ (Blk.new w 87 #[.string f.nm,.int .i64 f.ty,.int .i64 f.lb,.slice ab f.bys.length abc,.slice ai f.is.length aic,.slice ah f.wh.length ahc,.slice av f.va.length avc,.string f.sy,.slice au f.mu.length auc])
 have HB:=h_ ((bR w.heap.size w).alloc (nR _) (.cells #[.string f.nm,.int .i64 f.ty,.int .i64 f.lb,.slice ab f.bys.length abc,.slice ai f.is.length aic,.slice ah f.wh.length ahc,.slice av f.va.length avc,.string f.sy,.slice au f.mu.length auc] 87))
 obtain ⟨W0,hW0⟩:∃ W0,w.alloc (.cells #[.string f.nm,.int .i64 f.ty,.int .i64 f.lb,.slice ab f.bys.length abc,.slice ai f.is.length aic,.slice ah f.wh.length ahc,.slice av f.va.length avc,.string f.sy,.slice au f.mu.length auc] 87)=W0:=⟨_,rfl⟩
 rw [hW0] at HK HB
 have HS:=h_ (ha.mono (u_ HB));have HF:=h_ hf
 have hnm:=hf.nm;have hsy:=hf.sy
 clear ha hf
 obtain ⟨x0,x1,x2,x3,x4,x5,x6,x7,x8⟩:=nine (u_ HK)
 have hw1:wrap64 (l0 - (f.nm.size:Int))=l0 - (f.nm.size:Int):=q4o (by omega) (by omega)
 by_cases h:(f.nm.size:Int)<=l0
 case neg =>
  have h':l0 - (f.nm.size:Int)<0:=by omega
  go_enter Tryz.func38,Tryz.ntmps38
  go_wp2_with fail
  go_ret
  exact ⟨_,rfl,fun h=>absurd h (by decide),fun _=>rfl,u_ HB⟩
 have h':¬ l0 - (f.nm.size:Int)<0:=by omega
 obtain ⟨q0,hq0⟩:∃ q0,l0 - (f.nm.size:Int)=q0:=⟨_,rfl⟩
 have g0:0<=q0:=by omega
 have g1:q0<=1048576:=by omega
 rw [hq0] at hw1 h'
 clear h
 go_enter Tryz.func38,Tryz.ntmps38
 go_wp2_with fail
 try rw [hW0]
 clear hW0 hw1 h' hq0
 refine (q6p ab abc f.bys.length q0 W0 g0 g1 (u_ HF).bl).mono ?_
 rintro r W1 ⟨q1,rfl,hq,hm,hb⟩
 replace HK:=mB HK hb;replace HS:=h_ ((u_ HS).mono hb);replace HB:=mT HB hb
 have HQ1:=h_ hq
 clear hq hm hb x0 x1 x2 x3 x4 x5 x6 x7 x8
 obtain ⟨x0,x1,x2,x3,x4,x5,x6,x7,x8⟩:=nine (u_ HK)
 by_cases hr1:q1<0
 . go_wp2_with fail
   go_ret
   exact ⟨_,rfl,fun h=>absurd h (by decide),fun _=>rfl,u_ HB⟩
 have hl1:q1<=1048576:=(u_ HQ1 (by omega)).1
 have hk1:f.bys.length<=1048576:=(u_ HQ1 (by omega)).2
 go_wp2_with fail
 refine (q6q ai f.is.length aic (nf f.is) q1 W1 (by omega) hl1 (u_ HF).il (u_ HF).i (u_ HS).i).mono ?_
 rintro r W2 ⟨q2,rfl,hq,hm,hb⟩
 replace HK:=mB HK hb;replace HS:=h_ ((u_ HS).mono hb);replace HB:=mT HB hb
 have HQ2:=h_ hq
 clear hq hm hb x0 x1 x2 x3 x4 x5 x6 x7 x8
 obtain ⟨x0,x1,x2,x3,x4,x5,x6,x7,x8⟩:=nine (u_ HK)
 by_cases hr2:q2<0
 . go_wp2_with fail
   go_ret
   exact ⟨_,rfl,fun h=>absurd h (by decide),fun _=>rfl,u_ HB⟩
 have hl2:q2<=1048576:=(u_ HQ2 (by omega)).1
 have hk2:f.is.length<=1048576:=(u_ HQ2 (by omega)).2.1
 go_wp2_with fail
 refine (q6q ah f.wh.length ahc (nf f.wh) q2 W2 (by omega) hl2 (u_ HF).hl (u_ HF).h (u_ HS).h).mono ?_
 rintro r W3 ⟨q3,rfl,hq,hm,hb⟩
 replace HK:=mB HK hb;replace HS:=h_ ((u_ HS).mono hb);replace HB:=mT HB hb
 have HQ3:=h_ hq
 clear hq hm hb x0 x1 x2 x3 x4 x5 x6 x7 x8
 obtain ⟨x0,x1,x2,x3,x4,x5,x6,x7,x8⟩:=nine (u_ HK)
 by_cases hr3:q3<0
 . go_wp2_with fail
   go_ret
   exact ⟨_,rfl,fun h=>absurd h (by decide),fun _=>rfl,u_ HB⟩
 have hl3:q3<=1048576:=(u_ HQ3 (by omega)).1
 have hk3:f.wh.length<=1048576:=(u_ HQ3 (by omega)).2.1
 go_wp2_with fail
 refine (q6q av f.va.length avc (nf f.va) q3 W3 (by omega) hl3 (u_ HF).vl (u_ HF).v (u_ HS).v).mono ?_
 rintro r W4 ⟨q4,rfl,hq,hm,hb⟩
 replace HK:=mB HK hb;replace HS:=h_ ((u_ HS).mono hb);replace HB:=mT HB hb
 have HQ4:=h_ hq
 clear hq hm hb x0 x1 x2 x3 x4 x5 x6 x7 x8
 obtain ⟨x0,x1,x2,x3,x4,x5,x6,x7,x8⟩:=nine (u_ HK)
 by_cases hr4:q4<0
 . go_wp2_with fail
   go_ret
   exact ⟨_,rfl,fun h=>absurd h (by decide),fun _=>rfl,u_ HB⟩
 have hl4:q4<=1048576:=(u_ HQ4 (by omega)).1
 have hk4:f.va.length<=1048576:=(u_ HQ4 (by omega)).2.1
 have hw2:wrap64 (q4 - (f.sy.size:Int))=q4 - (f.sy.size:Int):=q4o (by omega) (by omega)
 by_cases h:(f.sy.size:Int)<=q4
 case neg =>
  have h':q4 - (f.sy.size:Int)<0:=by omega
  go_wp2_with fail
  go_ret
  exact ⟨_,rfl,fun h=>absurd h (by decide),fun _=>rfl,u_ HB⟩
 have h':¬ q4 - (f.sy.size:Int)<0:=by omega
 obtain ⟨q5,hq5⟩:∃ q5,q4 - (f.sy.size:Int)=q5:=⟨_,rfl⟩
 have g5:0<=q5:=by omega
 have g6:q5<=1048576:=by omega
 rw [hq5] at hw2 h'
 clear h
 go_wp2_with fail
 clear hw2 h' hq5
 refine (q6q au f.mu.length auc (nf f.mu) q5 W4 g5 g6 (u_ HF).ul (u_ HF).u (u_ HS).u).mono ?_
 rintro r W6 ⟨q6,rfl,hq,hm,hb⟩
 replace HK:=mB HK hb;replace HS:=h_ ((u_ HS).mono hb);replace HB:=mT HB hb
 have HQ6:=h_ hq
 clear hq hm hb x0 x1 x2 x3 x4 x5 x6 x7 x8
 obtain ⟨x0,x1,x2,x3,x4,x5,x6,x7,x8⟩:=nine (u_ HK)
 by_cases hr6:q6<0
 . go_wp2_with fail
   go_ret
   exact ⟨_,rfl,fun h=>absurd h (by decide),fun _=>rfl,u_ HB⟩
 have hl6:q6<=1048576:=(u_ HQ6 (by omega)).1
 have hk6:f.mu.length<=1048576:=(u_ HQ6 (by omega)).2.1
 go_wp2_with fail
 go_ret
 exact ⟨_,rfl,fun _=>⟨hl6,hk1,hk2,hk3,hk4,hk6⟩,fun h=>by omega,u_ HB⟩
theorem q4g (a:Option Addr) (c:Nat) (l:List Fl) (AF:Nat->FA) (l0:Int) (w:World) (h0:0<=l0) (h1:l0<=1048576) (hm:l.length<=9223372036854775807) (hs:∀ x,x ∈ l->FitF x) (ha:Flds w a l AF) :
 Calls Tryz.prog 15 #[.slice a l.length c,.int .i64 l0] w fun r w'=>∃ q:Int,r=.returned (.int .i64 q)/\(0<=q->q<=1048576/\l.length<=1048576/\∀ x,x ∈ l->SmF x)/\(q<0->q = -1)/\Below w.heap.size w w':=by
 have HA:=h_ ha;have HF:=h_ hs
 clear ha hs
 have hw1:wrap64 (l0 - (l.length:Int))=l0 - (l.length:Int):=q4o (by omega) (by omega)
 by_cases h:(l.length:Int)<=l0
 . have h':¬ l0 - (l.length:Int)<0:=by omega
   obtain ⟨lq,hlq⟩:∃ lq:Int,l0 - (l.length:Int)=lq:=⟨_,rfl⟩
   have HLQ:Hid (0<=lq/\lq<=1048576):=h_ (by omega)
   have HLN:Hid (l.length<=1048576):=h_ (by omega)
   rw [hlq] at h' hw1
   go_enter Tryz.func15,Tryz.ntmps15
   go_wp2_with fail
   clear h h' hw1 hlq
   go_loopw [1,5] (fun lf i wr=>∃ (k:Nat) (lq:Int),k<=l.length/\i=.int .i64 k/\lf=.int .i64 lq/\0<=lq/\lq<=1048576/\(∀ j (h:j<l.length),j<k->SmF l[j])/\Below w.heap.size w wr) (fun _ i _=>l.length - (intOf i).toNat)
   case atStart=>exact ⟨0,lq,nZ _,rfl,rfl,(u_ HLQ).1,(u_ HLQ).2,fun j _ h=>absurd h (nL _),bR _ _⟩
   case round =>
    clear HLQ
    obtain ⟨k,lq,hk,rfl,rfl,g0,g1,hall,hb⟩:=hrel
    have HB:=h_ hb;have HAr:=h_ ((u_ HA).mono hb);have HL:=h_ hall
    clear hb hall
    by_cases hlt:k<l.length
    . have hlt':(k:Int)<l.length:=by omega
      obtain ⟨b,o,rfl,⟨-,z0,z1,z2,z3,z4,z5,z6,z7,z8⟩,hsl⟩:=u_ HAr k hlt
      have HC:=h_ (q6o l[k] (AF k) lq wr (u_ HF _ (List.getElem_mem hlt)) g0 g1 hsl)
      have HG:Hid (SmF l[k]->∀ j (h:j<l.length),j<k+1->SmF l[j]):=h_ fun h j hj hjk=>by
       by_cases ej:j=k
       . subst ej;exact h
       . exact u_ HL j hj (by omega)
      generalize l[k]=f at *
      generalize AF k=fa at *
      obtain ⟨ab,abc,ai,aic,ah,ahc,av,avc,au,auc⟩:=fa
      unfold fV at HC
      dsimp only at z3 z4 z5 z6 z8 HC
      clear hsl
      go_wp2_with fail
      refine (u_ HC).mono ?_
      rintro r W2 ⟨q,rfl,hq1,hq2,hb⟩
      have HB2:=mT HB hb
      have HQ1:=h_ hq1
      clear hb hq1 hq2 z0 z1 z2 z3 z4 z5 z6 z7 z8
      by_cases hr:q<0
      . go_wp2_with fail
        go_ret
        exact ⟨_,rfl,fun h=>absurd h (by decide),fun _=>rfl,u_ HB2⟩
      . have hq5:=(u_ HQ1 (by omega)).1
        have HG2:=h_ (u_ HG (u_ HQ1 (by omega)).2)
        go_wp2_with fail
        go_roundw
        case rel=>first | exact ⟨k+1,q,by omega,by go_num,rfl,by omega,hq5,u_ HG2,u_ HB2⟩ | ((repeat apply Exists.intro);exact ⟨⟨k+1,q,by omega,by go_num,rfl,by omega,hq5,u_ HG2,u_ HB2⟩,rfl⟩)
        case measure=>simp [intOf];omega
    . obtain rfl:k=l.length:=by omega
      have hlt':¬ (l.length:Int)<(l.length:Int):=by omega
      have HX:Hid (∀ x,x ∈ l->SmF x):=h_ fun x hx=>by
       obtain ⟨j,hj,rfl⟩:=List.mem_iff_getElem.1 hx
       exact u_ HL j hj hj
      go_wp2_with fail
      go_ret
      exact ⟨_,rfl,fun _=>⟨g1,u_ HLN,u_ HX⟩,fun h=>by omega,u_ HB⟩
 . have h':l0 - (l.length:Int)<0:=by omega
   go_enter Tryz.func15,Tryz.ntmps15
   go_wp2_with fail
   go_ret
   exact ⟨_,rfl,fun h=>absurd h (by decide),fun _=>rfl,bR _ _⟩
theorem q4z (f:Fl) (A A2:FA) (w:World) (hf:SmF f) (ha:FSl w f A) (hb:FSl w f A2) :
 Calls Tryz.prog 62 #[fV f A,fV f A2] w fun r w'=>r=.returned (.bool true)/\Below w.heap.size w w':=by
 obtain ⟨ab,abc,ai,aic,ah,ahc,av,avc,au,auc⟩:=A
 obtain ⟨qb,qbc,qi,qic,qh,qhc,qv,qvc,qu,quc⟩:=A2
 unfold fV
 dsimp only
 have hq:(f.nm.toList == f.nm.toList)=true:=by simp
 have hq2:(f.sy.toList == f.sy.toList)=true:=by simp
 have HK:=h_ ((Blk.new w 94 #[.string f.nm,.int .i64 f.ty,.int .i64 f.lb,.slice ab f.bys.length abc,.slice ai f.is.length aic,.slice ah f.wh.length ahc,.slice av f.va.length avc,.string f.sy,.slice au f.mu.length auc]).alloc (.cells #[.string f.nm,.int .i64 f.ty,.int .i64 f.lb,.slice qb f.bys.length qbc,.slice qi f.is.length qic,.slice qh f.wh.length qhc,.slice qv f.va.length qvc,.string f.sy,.slice qu f.mu.length quc] 94))
 have HK2:=h_ (Blk.new (w.alloc (.cells #[.string f.nm,.int .i64 f.ty,.int .i64 f.lb,.slice ab f.bys.length abc,.slice ai f.is.length aic,.slice ah f.wh.length ahc,.slice av f.va.length avc,.string f.sy,.slice au f.mu.length auc] 94)) 94 #[.string f.nm,.int .i64 f.ty,.int .i64 f.lb,.slice qb f.bys.length qbc,.slice qi f.is.length qic,.slice qh f.wh.length qhc,.slice qv f.va.length qvc,.string f.sy,.slice qu f.mu.length quc])
 rw [World.size_alloc] at HK2
 have HB:=h_ (((bR w.heap.size w).alloc (nR _) (.cells #[.string f.nm,.int .i64 f.ty,.int .i64 f.lb,.slice ab f.bys.length abc,.slice ai f.is.length aic,.slice ah f.wh.length ahc,.slice av f.va.length avc,.string f.sy,.slice au f.mu.length auc] 94)).alloc (by simp) (.cells #[.string f.nm,.int .i64 f.ty,.int .i64 f.lb,.slice qb f.bys.length qbc,.slice qi f.is.length qic,.slice qh f.wh.length qhc,.slice qv f.va.length qvc,.string f.sy,.slice qu f.mu.length quc] 94))
 obtain ⟨W0,hW0⟩:∃ W0,(w.alloc (.cells #[.string f.nm,.int .i64 f.ty,.int .i64 f.lb,.slice ab f.bys.length abc,.slice ai f.is.length aic,.slice ah f.wh.length ahc,.slice av f.va.length avc,.string f.sy,.slice au f.mu.length auc] 94)).alloc (.cells #[.string f.nm,.int .i64 f.ty,.int .i64 f.lb,.slice qb f.bys.length qbc,.slice qi f.is.length qic,.slice qh f.wh.length qhc,.slice qv f.va.length qvc,.string f.sy,.slice qu f.mu.length quc] 94)=W0:=⟨_,rfl⟩
 rw [hW0] at HK HK2 HB
 have HS:=h_ (ha.mono (u_ HB));have HS2:=h_ (hb.mono (u_ HB));have HF:=h_ hf
 clear ha hf hb
 obtain ⟨x0,x1,x2,x3,x4,x5,x6,x7,x8⟩:=nine (u_ HK)
 obtain ⟨y0,y1,y2,y3,y4,y5,y6,y7,y8⟩:=nine (u_ HK2)
 have HCi:Hid (Calls Tryz.prog 93 #[.slice ab f.bys.length abc,.slice qb f.bys.length qbc] W0 fun e w'=>e=.returned (.bool true)/\Below W0.heap.size W0 w'):=h_ (by
  have h:=q50 ab qb (fun k=>f.bys.getD k 0) (fun k=>f.bys.getD k 0) f.bys.length abc qbc W0 (u_ HS).b (u_ HS2).b (by have:=(u_ HF).b;omega)
  rw [q97 (fun _ _=>rfl)] at h
  exact h)
 go_enter Tryz.func62,Tryz.ntmps62
 go_wp2_with fail
 try rw [hW0]
 refine (u_ HCi).mono ?_
 rintro r W1 ⟨rfl,hb⟩
 replace HK:=mB HK hb;replace HK2:=mB HK2 hb;replace HS:=h_ ((u_ HS).mono hb);replace HS2:=h_ ((u_ HS2).mono hb);replace HB:=mT HB hb
 clear hW0 hb x0 x1 x2 x3 x4 x5 x6 x7 x8 y0 y1 y2 y3 y4 y5 y6 y7 y8
 obtain ⟨x0,x1,x2,x3,x4,x5,x6,x7,x8⟩:=nine (u_ HK)
 obtain ⟨y0,y1,y2,y3,y4,y5,y6,y7,y8⟩:=nine (u_ HK2)
 go_wp2_with fail
 refine (q3i ai qi (nf f.is) f.is.length aic qic W1 (u_ HF).i (u_ HS).i (u_ HS2).i).mono ?_
 rintro r W2 ⟨rfl,hb⟩
 replace HK:=mB HK hb;replace HK2:=mB HK2 hb;replace HS:=h_ ((u_ HS).mono hb);replace HS2:=h_ ((u_ HS2).mono hb);replace HB:=mT HB hb
 clear hb x0 x1 x2 x3 x4 x5 x6 x7 x8 y0 y1 y2 y3 y4 y5 y6 y7 y8
 obtain ⟨x0,x1,x2,x3,x4,x5,x6,x7,x8⟩:=nine (u_ HK)
 obtain ⟨y0,y1,y2,y3,y4,y5,y6,y7,y8⟩:=nine (u_ HK2)
 go_wp2_with fail
 refine (q3i ah qh (nf f.wh) f.wh.length ahc qhc W2 (u_ HF).h (u_ HS).h (u_ HS2).h).mono ?_
 rintro r W3 ⟨rfl,hb⟩
 replace HK:=mB HK hb;replace HK2:=mB HK2 hb;replace HS:=h_ ((u_ HS).mono hb);replace HS2:=h_ ((u_ HS2).mono hb);replace HB:=mT HB hb
 clear hb x0 x1 x2 x3 x4 x5 x6 x7 x8 y0 y1 y2 y3 y4 y5 y6 y7 y8
 obtain ⟨x0,x1,x2,x3,x4,x5,x6,x7,x8⟩:=nine (u_ HK)
 obtain ⟨y0,y1,y2,y3,y4,y5,y6,y7,y8⟩:=nine (u_ HK2)
 go_wp2_with fail
 refine (q3i av qv (nf f.va) f.va.length avc qvc W3 (u_ HF).v (u_ HS).v (u_ HS2).v).mono ?_
 rintro r W4 ⟨rfl,hb⟩
 replace HK:=mB HK hb;replace HK2:=mB HK2 hb;replace HS:=h_ ((u_ HS).mono hb);replace HS2:=h_ ((u_ HS2).mono hb);replace HB:=mT HB hb
 clear hb x0 x1 x2 x3 x4 x5 x6 x7 x8 y0 y1 y2 y3 y4 y5 y6 y7 y8
 obtain ⟨x0,x1,x2,x3,x4,x5,x6,x7,x8⟩:=nine (u_ HK)
 obtain ⟨y0,y1,y2,y3,y4,y5,y6,y7,y8⟩:=nine (u_ HK2)
 go_wp2_with fail
 refine (q3i au qu (nf f.mu) f.mu.length auc quc W4 (u_ HF).u (u_ HS).u (u_ HS2).u).mono ?_
 rintro r W5 ⟨rfl,hb⟩
 replace HK:=mB HK hb;replace HK2:=mB HK2 hb;replace HS:=h_ ((u_ HS).mono hb);replace HS2:=h_ ((u_ HS2).mono hb);replace HB:=mT HB hb
 clear hb x0 x1 x2 x3 x4 x5 x6 x7 x8 y0 y1 y2 y3 y4 y5 y6 y7 y8
 obtain ⟨x0,x1,x2,x3,x4,x5,x6,x7,x8⟩:=nine (u_ HK)
 obtain ⟨y0,y1,y2,y3,y4,y5,y6,y7,y8⟩:=nine (u_ HK2)
 go_wp2_with fail
 go_ret
 exact ⟨rfl,u_ HB⟩
theorem q3h (a b:Option Addr) (l:List Fl) (AF BF:Nat->FA) (ca cb:Nat) (w:World) (hn:l.length<=1048576) (hs:∀ x,x ∈ l->SmF x) (ha:Flds w a l AF) (hb:Flds w b l BF) :
 Calls Tryz.prog 35 #[.slice a l.length ca,.slice b l.length cb] w fun r w'=>r=.returned (.bool true)/\Below w.heap.size w w':=by
 have HA:=h_ ha;have HB0:=h_ hb;have HSm:=h_ hs
 clear ha hb hs
 go_enter Tryz.func35,Tryz.ntmps35
 go_wp2_with fail
 go_loopw [5] (fun i wr=>∃ k:Nat,k<=l.length/\i=.int .i64 k/\Below w.heap.size w wr) (fun i _=>l.length - (intOf i).toNat)
 case atStart=>exact ⟨0,nZ _,rfl,bR _ _⟩
 case round =>
  obtain ⟨k,hk,rfl,hB⟩:=hrel
  have HB:=h_ hB
  by_cases hlt:k<l.length
  . obtain ⟨b1,o1,rfl,C1,S1⟩:=((u_ HA).mono hB) k hlt
    obtain ⟨b2,o2,rfl,C2,S2⟩:=((u_ HB0).mono hB) k hlt
    have HC:=h_ (fun W (hw:Below wr.heap.size wr W)=>q4z l[k] (AF k) (BF k) W (u_ HSm _ (List.getElem_mem hlt)) (S1.mono hw) (S2.mono hw))
    obtain ⟨f,hu⟩:∃ u,l[k]=u:=⟨_,rfl⟩
    rw [hu] at C1 C2 HC
    generalize AF k=fa at *
    generalize BF k=fb at *
    obtain ⟨ab,abc,ai,aic,ah,ahc,av,avc,au,auc⟩:=fa
    obtain ⟨qb,qbc,qi,qic,qh,qhc,qv,qvc,qu,quc⟩:=fb
    unfold fV at HC
    dsimp only at HC
    have HC1:=h_ C1;have HC2:=h_ C2
    have k0:(0:Int)<=k:=by omega
    have k1:(k:Int)<l.length:=by omega
    clear hB hu C1 C2 S1 S2
    go_wp2_with fail
    refine wp_region_held_drew (S:=fun w'=>FCel w' b1 (o1+k*9) f ⟨ab,abc,ai,aic,ah,ahc,av,avc,au,auc⟩/\FCel w' b2 (o2+k*9) f ⟨qb,qbc,qi,qic,qh,qhc,qv,qvc,qu,quc⟩) (by kernel_rfl) ⟨u_ HC1,u_ HC2⟩ (fun zz=>?_)
    refine tk 0 17 (.slice (some ⟨b1,o1,none⟩) l.length ca) zz ?_
    refine tk 1 18 (.int .i64 k) zz ?_
    refine tk 2 19 (.pointer (some ⟨b1,o1+k*9,none⟩)) zz ?_
    refine tk 3 20 (.agg #[.string f.nm,.int .i64 f.ty,.int .i64 f.lb,.slice ab f.bys.length abc,.slice ai f.is.length aic,.slice ah f.wh.length ahc,.slice av f.va.length avc,.string f.sy,.slice au f.mu.length auc]) zz ?_ (hy:=fun w hS=>by obtain ⟨⟨-,q0,q1,q2,q3,q4,q5,q6,q7,q8⟩,-⟩:=hS;simp [execOp,go_sem,q0,q1,q2,q3,q4,q5,q6,q7,q8])
    simp only [sX,sY,sZ]
    refine tk 4 21 (.slice (some ⟨b2,o2,none⟩) l.length cb) zz ?_
    refine tk 5 22 (.int .i64 k) zz ?_
    refine tk 6 23 (.pointer (some ⟨b2,o2+k*9,none⟩)) zz ?_
    refine tk 7 24 (.agg #[.string f.nm,.int .i64 f.ty,.int .i64 f.lb,.slice qb f.bys.length qbc,.slice qi f.is.length qic,.slice qh f.wh.length qhc,.slice qv f.va.length qvc,.string f.sy,.slice qu f.mu.length quc]) zz ?_ (hy:=fun w hS=>by obtain ⟨-,⟨-,q0,q1,q2,q3,q4,q5,q6,q7,q8⟩⟩:=hS;simp [execOp,go_sem,q0,q1,q2,q3,q4,q5,q6,q7,q8])
    simp only [sX,sY,sZ]
    refine callY (i:=8) (f:=62) (args:=#[.agg #[.string f.nm,.int .i64 f.ty,.int .i64 f.lb,.slice ab f.bys.length abc,.slice ai f.is.length aic,.slice ah f.wh.length ahc,.slice av f.va.length avc,.string f.sy,.slice au f.mu.length auc],.agg #[.string f.nm,.int .i64 f.ty,.int .i64 f.lb,.slice qb f.bys.length qbc,.slice qi f.is.length qic,.slice qh f.wh.length qhc,.slice qv f.va.length qvc,.string f.sy,.slice qu f.mu.length quc]]) (R:=fun v wz=>v=.bool true/\Below wr.heap.size wr wz) 25 rfl rfl (by rfl) (by kernel_rfl) ?hrun1 ((u_ HC _ (bR _ _).drew).mono fun e w6 ⟨he,hb⟩=>⟨_,he,rfl,q26 hb⟩) ?_
    case hrun1=>simp [execOp,go_sem]
    rintro v w6 ⟨rfl,hb6⟩
    have HB6:=mT HB hb6
    replace zz:FCel w6 b1 (o1+k*9) f ⟨ab,abc,ai,aic,ah,ahc,av,avc,au,auc⟩/\FCel w6 b2 (o2+k*9) f ⟨qb,qbc,qi,qic,qh,qhc,qv,qvc,qu,quc⟩:=⟨(u_ HC1).mono hb6,(u_ HC2).mono hb6⟩
    clear hb6
    refine ⟨zz,?_⟩
    simp only [sX,sY,sZ]
    refine tk 9 26 (.bool false) zz ?_
    simp only [sX,sY,sZ]
    refine wpAnyH_done (by kernel_rfl) ?_ _
    clear zz
    go_wp2_with fail
    go_roundw
    case rel=>exact ⟨k+1,by omega,by go_num,u_ HB6⟩
    case measure=>simp [intOf];omega
  . obtain rfl:k=l.length:=by omega
    have hlt':¬ (l.length:Int)<(l.length:Int):=by omega
    clear hB
    go_wp2_with fail
    go_ret
    exact ⟨rfl,u_ HB⟩
end Go.Proofs.YtgkcaeidhkddjaaGreatDoor
