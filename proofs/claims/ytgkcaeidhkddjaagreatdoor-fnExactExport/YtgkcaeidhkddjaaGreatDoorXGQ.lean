import Derived.Test.YtgkcaeidhkddjaaGreatDoorXGO
import Derived.Test.YtgkcaeidhkddjaaGreatDoorXGL1
import Derived.ArgAppend
set_option maxRecDepth 100000
set_option maxHeartbeats 20000000
namespace Go.Proofs.YtgkcaeidhkddjaaGreatDoor
open Go Go.RowKit
theorem q7z:(Tryz.prog.info? 4).map (fun i=>(i.zero,i.size,i.bytes))=some (some (.bool false),1,1):=by kernel_rfl
theorem qji {w:World} {base F n:Nat} (h:w.ownsRow base 4 1 (.slice (some ⟨F,0,none⟩) n n) n (madeCells #[Value.bool false] n).toList):Blk w F 4 (ms n fun _=>false):=by
 have hb:=Blk.of_owns h
 rw [toList_madeCells_one] at hb
 unfold ms
 rw [List.map_const',List.length_range]
 exact hb
theorem q5p (m:Fm) (A:MA) (k:Nat) (w:World) (hk:k<m.F.length) (hn:m.F.length<=200) (hf:FitM m) (ha:MSl w m A) :
 Calls Tryz.prog 106 #[mV m A,.int .i64 k] w fun r w'=>∃ G M,r=.returned (.slice (some ⟨G,0,none⟩) m.F.length m.F.length)/\w.heap.size<=G/\Blk w' G 4 (ms m.F.length M)/\(∀ i,i<m.F.length->(M i=true ↔ Rch m k i))/\Below w.heap.size w w':=by
 have HCf:=h_ fun W j i (hj:j<m.F.length) (hi:i<m.F.length) (hs:MSl W m A)=>q5n m A j i W hj hi hf hs
 obtain ⟨al,alc,ap,apc,ar,arc,af,afc,afa⟩:=A
 unfold mV at HCf ⊢
 dsimp only at HCf ⊢
 have HK:=h_ (Blk.new w 36 #[.slice al m.L.length alc,.slice ap m.P.length apc,.slice ar m.R.length arc,.slice af m.F.length afc])
 have HB:=h_ ((bR w.heap.size w).alloc (nR _) (.cells #[.slice al m.L.length alc,.slice ap m.P.length apc,.slice ar m.R.length arc,.slice af m.F.length afc] 36))
 obtain ⟨W0,hW0⟩:∃ W0,w.alloc (.cells #[.slice al m.L.length alc,.slice ap m.P.length apc,.slice ar m.R.length arc,.slice af m.F.length afc] 36)=W0:=⟨_,rfl⟩
 have hs0:W0.heap.size=w.heap.size+1:=by rw [<- hW0];simp
 rw [hW0] at HK HB
 have HS:=h_ ha
 clear ha hf
 obtain ⟨i0,hi,hz0,hz1,hz2⟩:=info_parts q7z
 have hbn:i0.bytes*m.F.length<=281474976710656:=by rw [hz2];omega
 obtain ⟨y0,y1,y2,y3⟩:=quad (u_ HK)
 go_enter Tryz.func106,Tryz.ntmps106
 go_wp2_with (at_make;refine wpList_make_full _ rfl (.tmp 14) (.tmp 14) 59 rfl (w.heap.size+1) 4 i0 _ 1 Tryz.underlying59 hi hz0 hz1 .i64 .i64 _ _ m.F.length rfl rfl rfl rfl hbn (by unfold maxLen;omega) (by first | omega | (simp;done)) ?_)
 intro w1 hown hgrow
 try rw [hW0] at hown hgrow
 try rw [hW0]
 try rw [hs0] at hown
 try rw [hs0]
 have hb1:Below (w.heap.size+1) W0 w1:=(bR _ _).grown hgrow (by omega) (fun k e=>by cases e)
 obtain ⟨G,hG⟩:∃ G,w.heap.size+1=G:=⟨_,rfl⟩
 rw [hG] at hown hb1 hs0
 try rw [hG]
 have HZ:=h_ (qji hown)
 have HKb:=h_ hb1
 clear hown hgrow hb1 hbn hi hz0 hz1 hz2 hW0 y0 y1 y2 y3
 replace HB:=h_ ((u_ HB).trans ((u_ HKb).mono (by omega)))
 replace HK:=h_ ((u_ HK).mono (u_ HKb) (by omega))
 clear HKb
 go_wp2_with fail
 go_loopw [7] (fun v wr=>∃ (rd:Nat) (M:Nat->Bool),rd<=m.F.length/\v=.int .i64 rd/\Blk wr G 4 (ms m.F.length M)/\Snd m k M/\rd<=cntB M m.F.length/\Below G w1 wr) (fun v _=>m.F.length - (intOf v).toNat)
 case atStart=>exact ⟨0,_,nZ _,rfl,u_ HZ,(fun i h=>by cases h),nZ _,bR _ _⟩
 case round =>
  clear HZ
  obtain ⟨rd,M,hrd,rfl,hz,hsn,hcn,hb⟩:=hrel
  have HZ:=h_ hz;have HSn:=h_ hsn;have HCn:=h_ hcn;have HBr:=h_ hb
  clear hz hsn hcn hb
  by_cases hlt:rd<m.F.length
  . have hlt':(rd:Int)<m.F.length:=by omega
    go_wp2_with fail
    go_loopw [8,9] (fun g v w3=>∃ (j:Nat) (gr:Bool) (M':Nat->Bool),j<=m.F.length/\g=.bool gr/\v=.int .i64 j/\Blk w3 G 4 (ms m.F.length M')/\Snd m k M'/\rd<=cntB M' m.F.length/\(gr=true->rd+1<=cntB M' m.F.length)/\(gr=false->∀ j',j'<j->Cls m k M' j')/\Below G w1 w3) (fun _ v _=>m.F.length - (intOf v).toNat)
    case atStart=>exact ⟨0,false,M,nZ _,rfl,rfl,u_ HZ,u_ HSn,u_ HCn,(fun h=>by cases h),fun _ j' h=>absurd h (nL _),u_ HBr⟩
    case round =>
     clear HZ HSn HCn HBr
     obtain ⟨j,gr,M',hj,rfl,rfl,hz,hsn,hcn,hg1,hg2,hb⟩:=hrel
     have HZ:=h_ hz;have HSn:=h_ hsn;have HCn:=h_ hcn;have HG1:=h_ hg1;have HG2:=h_ hg2;have HBr:=h_ hb
     clear hsn hcn hg1 hg2 hb
     by_cases hjl:j<m.F.length
     . have hjl':(j:Int)<m.F.length:=by omega
       have zj:=(hz.cell j).trans (ms_at M' hjl)
       clear hz
       have hcase:(j=k ∨ (¬ j=k/\M' j=true)) ∨ (¬ j=k/\M' j=false):=by
        by_cases e:j=k
        . exact .inl (.inl e)
        . cases h:M' j
          . exact .inr ⟨e,rfl⟩
          . exact .inl (.inr ⟨e,rfl⟩)
       rcases hcase with hin | ⟨hne,hf⟩
       . have HJ:Hid (j=k ∨ Rch m k j):=h_ (by
          rcases hin with e | ⟨-,e⟩
          . exact .inl e
          . exact .inr (u_ HSn j e))
         have HL:Hid (gr=false->(∀ j',j'<j->Cls m k M' j')/\∀ i',i'<0->fedB m j i'=true->M' i'=true):=h_ fun h=>⟨u_ HG2 h,fun i' h=>absurd h (nL _)⟩
         have hentry:(j=k/\((j:Int) == k)=true) ∨ (((j:Int) == k)=false/\M' j=true):=by
          rcases hin with e | ⟨hne,e⟩
          . exact .inl ⟨e,by simp [e]⟩
          . exact .inr ⟨beq_eq_false_iff_ne.2 (by omega),e⟩
         clear hin HG2
         rcases hentry with ⟨-,he⟩ | ⟨he,hm⟩
         case' inl=>go_wp2_with fail
         case' inr =>
          rw [hm] at zj
          clear hm
          go_wp2_with fail
         all_goals
          clear zj he
          go_loopw [8,10] (fun g v w4=>∃ (i:Nat) (gr:Bool) (M2:Nat->Bool),i<=m.F.length/\g=.bool gr/\v=.int .i64 i/\Blk w4 G 4 (ms m.F.length M2)/\Snd m k M2/\rd<=cntB M2 m.F.length/\(gr=true->rd+1<=cntB M2 m.F.length)/\(gr=false->(∀ j',j'<j->Cls m k M2 j')/\∀ i',i'<i->fedB m j i'=true->M2 i'=true)/\Below G w1 w4) (fun _ v _=>m.F.length - (intOf v).toNat)
          case atStart=>exact ⟨0,gr,M',nZ _,rfl,rfl,u_ HZ,u_ HSn,u_ HCn,u_ HG1,u_ HL,u_ HBr⟩
          case round =>
           clear HZ HSn HCn HG1 HL HBr
           obtain ⟨i,gr,M2,hil,rfl,rfl,hz,hsn,hcn,hg1,hg2,hb⟩:=hrel
           have HZ:=h_ hz;have HSn:=h_ hsn;have HCn:=h_ hcn;have HG1:=h_ hg1;have HG2:=h_ hg2;have HBr:=h_ hb
           have HKr:=h_ ((u_ HK).mono hb (by omega))
           have HSr:=h_ ((u_ HS).mono ((u_ HB).trans (hb.mono (by omega))))
           clear hsn hcn hg1 hg2 hb
           by_cases hilt:i<m.F.length
           . have hilt':(i:Int)<m.F.length:=by omega
             have zi:=(hz.cell i).trans (ms_at M2 hilt)
             clear hz
             cases hmi:M2 i
             . rw [hmi] at zi
               have HMi:=h_ hmi
               clear hmi
               obtain ⟨y0,y1,y2,y3⟩:=quad (u_ HKr)
               have HC2:=h_ (u_ HCf _ j i hjl hilt (u_ HSr))
               go_wp2_with fail
               refine (u_ HC2).mono ?_
               rintro r W2 ⟨rfl,hb2⟩
               have HZ2:=mB HZ hb2
               have HB2:=h_ ((u_ HBr).trans (hb2.mono (by have:=(u_ HZ).lt;omega)))
               clear hb2 HC2 zi y0 y1 y2 y3
               cases hfe:fedB m j i
               . have HG3:Hid (gr=false->(∀ j',j'<j->Cls m k M2 j')/\∀ i',i'<i+1->fedB m j i'=true->M2 i'=true):=h_ fun h=>⟨(u_ HG2 h).1,fun i' hi' hf'=>by
                  by_cases e:i'=i
                  . subst e;rw [hfe] at hf';cases hf'
                  . exact (u_ HG2 h).2 i' (by omega) hf'⟩
                 clear hfe
                 go_wp2_with fail
                 go_roundw
                 case rel=>first | exact ⟨i+1,gr,M2,by omega,rfl,by go_num,u_ HZ2,u_ HSn,u_ HCn,u_ HG1,u_ HG3,u_ HB2⟩ | ((repeat apply Exists.intro);exact ⟨⟨i+1,gr,M2,by omega,rfl,by go_num,u_ HZ2,u_ HSn,u_ HCn,u_ HG1,u_ HG3,u_ HB2⟩,rfl⟩)
                 case measure=>simp [intOf];omega
               . have HS3:=h_ ((u_ HSn).up (qfu (u_ HJ) hilt hfe))
                 have hcu:=qhu hilt (u_ HMi)
                 have HC3:Hid (rd+1<=cntB (up M2 i true) m.F.length):=h_ (by have:=u_ HCn;omega)
                 have HC4:Hid (rd<=cntB (up M2 i true) m.F.length):=h_ (by have:=u_ HCn;omega)
                 have HZ3:=h_ ((u_ HZ2).set i (.bool true))
                 rw [ms_set] at HZ3
                 have HB3:=h_ ((u_ HB2).setCell (p:=⟨G,i,none⟩) (nR G) (.bool true))
                 have zi:=((u_ HZ2).cell i).trans (ms_at M2 hilt)
                 have fi:=(u_ HZ2).free i
                 clear hfe hcu
                 generalize M2 i=u at zi
                 go_wp2_with fail
                 go_roundw
                 case rel=>first | exact ⟨i+1,true,up M2 i true,by omega,rfl,by go_num,u_ HZ3,u_ HS3,u_ HC4,(fun _=>u_ HC3),(fun h=>by cases h),u_ HB3⟩ | ((repeat apply Exists.intro);exact ⟨⟨i+1,true,up M2 i true,by omega,rfl,by go_num,u_ HZ3,u_ HS3,u_ HC4,(fun _=>u_ HC3),(fun h=>by cases h),u_ HB3⟩,rfl⟩)
                 case measure=>simp [intOf];omega
             . rw [hmi] at zi
               have HG3:Hid (gr=false->(∀ j',j'<j->Cls m k M2 j')/\∀ i',i'<i+1->fedB m j i'=true->M2 i'=true):=h_ fun h=>⟨(u_ HG2 h).1,fun i' hi' hf'=>by
                by_cases e:i'=i
                . subst e;exact hmi
                . exact (u_ HG2 h).2 i' (by omega) hf'⟩
               clear hmi
               go_wp2_with fail
               go_roundw
               case rel=>first | exact ⟨i+1,gr,M2,by omega,rfl,by go_num,u_ HZ,u_ HSn,u_ HCn,u_ HG1,u_ HG3,u_ HBr⟩ | ((repeat apply Exists.intro);exact ⟨⟨i+1,gr,M2,by omega,rfl,by go_num,u_ HZ,u_ HSn,u_ HCn,u_ HG1,u_ HG3,u_ HBr⟩,rfl⟩)
               case measure=>simp [intOf];omega
           . obtain rfl:i=m.F.length:=by omega
             have hilt':¬ (m.F.length:Int)<(m.F.length:Int):=by omega
             have HG3:Hid (gr=false->∀ j',j'<j+1->Cls m k M2 j'):=h_ fun h j' hj'=>by
              by_cases e:j'=j
              . subst e
                exact fun _ i' hi' hf'=>(u_ HG2 h).2 i' hi' hf'
              . exact (u_ HG2 h).1 j' (by omega)
             clear hz
             go_wp2_with fail
             go_roundw
             case rel=>first | exact ⟨j+1,gr,M2,by omega,rfl,by go_num,u_ HZ,u_ HSn,u_ HCn,u_ HG1,u_ HG3,u_ HBr⟩ | ((repeat apply Exists.intro);exact ⟨⟨j+1,gr,M2,by omega,rfl,by go_num,u_ HZ,u_ HSn,u_ HCn,u_ HG1,u_ HG3,u_ HBr⟩,rfl⟩)
             case measure=>simp [intOf];omega
       . have hne':((j:Int) == k)=false:=beq_eq_false_iff_ne.2 (by omega)
         have HG3:Hid (gr=false->∀ j',j'<j+1->Cls m k M' j'):=h_ fun h j' hj'=>by
          by_cases e:j'=j
          . subst e
            intro hh
            rcases hh with e | e
            . exact absurd e hne
            . rw [hf] at e;cases e
          . exact u_ HG2 h j' (by omega)
         rw [hf] at zj
         clear hne HG2 hf
         go_wp2_with fail
         go_roundw
         case rel=>first | exact ⟨j+1,gr,M',by omega,rfl,by go_num,u_ HZ,u_ HSn,u_ HCn,u_ HG1,u_ HG3,u_ HBr⟩ | ((repeat apply Exists.intro);exact ⟨⟨j+1,gr,M',by omega,rfl,by go_num,u_ HZ,u_ HSn,u_ HCn,u_ HG1,u_ HG3,u_ HBr⟩,rfl⟩)
         case measure=>simp [intOf];omega
     . obtain rfl:j=m.F.length:=by omega
       have hjl':¬ (m.F.length:Int)<(m.F.length:Int):=by omega
       clear hz
       cases gr
       . have HX:=h_ (q95 hk (u_ HSn) (u_ HG2 rfl))
         have HBw:Hid (Below w.heap.size w wr):=h_ ((u_ HB).trans ((u_ HBr).mono (by omega)))
         go_wp2_with fail
         go_ret
         first | exact ⟨G,M',rfl,by omega,u_ HZ,u_ HX,u_ HBw⟩ | exact ⟨G,rfl,by omega,M',u_ HZ,u_ HX,u_ HBw⟩ | exact ⟨G,rfl,by omega,⟨M',u_ HZ,u_ HX⟩,u_ HBw⟩
       . have HC2:=h_ (u_ HG1 rfl)
         go_wp2_with fail
         go_roundw
         case rel=>first | exact ⟨rd+1,M',by omega,by go_num,u_ HZ,u_ HSn,u_ HC2,u_ HBr⟩ | ((repeat apply Exists.intro);exact ⟨⟨rd+1,M',by omega,by go_num,u_ HZ,u_ HSn,u_ HC2,u_ HBr⟩,rfl⟩)
         case measure=>simp [intOf];omega
  . obtain rfl:rd=m.F.length:=by omega
    have hlt':¬ (m.F.length:Int)<(m.F.length:Int):=by omega
    have HX:=h_ (qfs (u_ HSn) (u_ HCn))
    have HBw:Hid (Below w.heap.size w wr):=h_ ((u_ HB).trans ((u_ HBr).mono (by omega)))
    go_wp2_with fail
    go_ret
    first | exact ⟨G,M,rfl,by omega,u_ HZ,u_ HX,u_ HBw⟩ | exact ⟨G,rfl,by omega,M,u_ HZ,u_ HX,u_ HBw⟩ | exact ⟨G,rfl,by omega,⟨M,u_ HZ,u_ HX⟩,u_ HBw⟩
structure Que (w:World) (base g off cap:Nat) (xs:List Nat):Prop where
 lo:base<=g
 room:xs.length<=cap
 blk:∃ cs,Blk w g 3 cs/\off+cap<=cs.length/\∀ j (h:j<xs.length),cs[off+j]? = some (.int .i64 (xs[j]:Nat))
theorem Que.lt {w:World} {base g off cap:Nat} {xs:List Nat} (h:Que w base g off cap xs):g<w.heap.size:=by
 obtain ⟨cs,hb,-⟩:=h.blk
 exact hb.lt
theorem Que.cell {w:World} {base g off cap:Nat} {xs:List Nat} (h:Que w base g off cap xs) {j:Nat} (hj:j<xs.length):w.cell? ⟨g,off+j,none⟩=some (.int .i64 (xs[j]:Nat)):=by
 obtain ⟨cs,hb,-,hx⟩:=h.blk
 exact (hb.cell _).trans (hx j hj)
theorem Que.mono {w w':World} {B base g off cap:Nat} {xs:List Nat} (h:Que w base g off cap xs) (hb:Below B w w') (hg:g<B):Que w' base g off cap xs:=by
 obtain ⟨cs,hk,hx⟩:=h.blk
 exact ⟨h.lo,h.room,cs,hk.mono hb hg,hx⟩
theorem Que.other {w:World} {base g off cap:Nat} {xs:List Nat} (h:Que w base g off cap xs) {a:Addr} (v:Value) (ha:g ≠ a.block):Que (w.setCell a v) base g off cap xs:=by
 obtain ⟨cs,hk,hx⟩:=h.blk
 exact ⟨h.lo,h.room,cs,hk.other v ha,hx⟩
theorem Que.new (w:World) (k:Nat) {base:Nat} (h:base<=w.heap.size):Que (w.alloc (.cells #[.int .i64 (k:Nat)] 3)) base w.heap.size 0 1 [k]:=by
 refine ⟨h,nR _,_,Blk.new w 3 #[.int .i64 (k:Nat)],nR _,fun j hj=>?_⟩
 obtain rfl:j=0:=by simp at hj;omega
 rfl
theorem Que.tail {w:World} {base g off cap x:Nat} {xs:List Nat} (h:Que w base g off cap (x :: xs)):∃ off',(if cap=1 then some (⟨g,off,none⟩:Addr) else some ⟨g,off+1,none⟩)=some ⟨g,off',none⟩/\Que w base g off' (cap - 1) xs:=by
 obtain ⟨cs,hk,hl,hx⟩:=h.blk
 have hc:=h.room
 simp only [List.length_cons] at hc
 by_cases e:cap=1
 . subst e
   obtain rfl:xs=[]:=List.eq_nil_of_length_eq_zero (by omega)
   exact ⟨off,by simp,h.lo,by simp,cs,hk,by omega,fun j hj=>absurd hj (by simp)⟩
 . refine ⟨off+1,by rw [if_neg e],h.lo,by omega,cs,hk,by omega,fun j hj=>?_⟩
   have:=hx (j+1) (by simp;omega)
   rw [Nat.add_assoc,Nat.add_comm 1 j]
   simpa using this
theorem Que.push {w:World} {base g off cap x:Nat} {xs:List Nat} (h:Que w base g off cap xs) (hr:xs.length+1<=cap):Que (w.setCell ⟨g,off+xs.length,none⟩ (.int .i64 (x:Nat))) base g off cap (xs++[x]):=by
 obtain ⟨cs,hk,hl,hx⟩:=h.blk
 refine ⟨h.lo,by simp;omega,_,hk.set _ _,by simp;omega,fun j hj=>?_⟩
 simp only [List.length_append,List.length_cons,List.length_nil] at hj
 by_cases e:j=xs.length
 . subst e
   rw [List.getElem?_set_self (by omega)]
   simp
 . rw [List.getElem?_set_ne (by omega),hx j (by omega),List.getElem_append_left (by omega)]
theorem Que.olds {w:World} {base g off cap:Nat} {xs:List Nat} (h:Que w base g off cap xs):∀ j u,(ui xs)[j]? = some u->w.cell? ⟨g,off+j,none⟩=some u:=fun j u hu=>by
 unfold ui at hu
 rw [List.getElem?_map] at hu
 by_cases hj:j<xs.length
 . rw [List.getElem?_eq_getElem hj] at hu
   rw [h.cell hj]
   exact hu
 . rw [List.getElem?_eq_none (by omega)] at hu
   cases hu
theorem Que.spare {w:World} {base g off cap:Nat} {xs:List Nat} (h:Que w base g off cap xs) {news:List Value} (hn:news.length=1):xs.length+1<=cap->∀ j,j<news.length->(w.cell? ⟨g,off+xs.length*1+j,none⟩).isSome=true/\w.frozen? ⟨g,off+xs.length*1+j,none⟩=false:=fun hr j hj=>by
 obtain ⟨cs,hk,hl,-⟩:=h.blk
 refine ⟨?_,hk.free _⟩
 rw [hk.cell,List.getElem?_eq_getElem (by omega)]
 rfl
theorem Que.made {w:World} {base b n x:Nat} {v:Value} {xs:List Nat} (ho:w.ownsRow b 3 1 v n (ui xs++[.int .i64 (x:Nat)])) (hb:base<=b):∃ g cap,v=.slice (some ⟨g,0,none⟩) (xs++[x]).length cap/\b<=g/\Que w base g 0 cap (xs++[x]):=by
 have hn:n=xs.length+1:=by have:=ho.1;simp [ui] at this;omega
 rcases ho.2 with ⟨-,e⟩ | ⟨g,cap,cur,rfl,hbg,hg,hnc,-,hcs,ht⟩
 . omega
 . refine ⟨g,cap,by simp [hn],hbg,by omega,by simp;omega,cur.toList,?_,by simp;omega,fun j hj=>?_⟩
   . exact hg
   . have e:(cur.toList.take (n*1))[j]? = (ui xs++[Value.int .i64 (x:Nat)])[j]?:=by rw [ht]
     rw [List.getElem?_take_of_lt (by simp at hj;omega)] at e
     rw [Nat.zero_add,e]
     have e2:ui xs++[Value.int .i64 (x:Nat)]=ui (xs++[x]):=by simp [ui]
     rw [e2]
     unfold ui
     rw [List.getElem?_map,List.getElem?_eq_getElem hj]
     rfl
def isT:Option Value->Bool
 | some (.bool true)=>true
 | _=>false
def cntW (n S:Nat) (w:World):Nat:=cntB (fun i=>isT (w.cell? ⟨S,i,none⟩)) n
theorem qhx {n S:Nat} {M:Nat->Bool} {w:World} {t:TypeId} (h:Blk w S t (ms n M)):cntW n S w=cntB M n:=by
 unfold cntW
 refine q7f fun i hi=>?_
 rw [(h.cell i).trans (ms_at M hi)]
 cases M i <;> rfl
def lenS:Value->Nat
 | .slice _ n _=>n
 | _=>0
theorem qf5 {m:Fm} (hv:VfA m) {j i:Nat} (hj:j<m.F.length) (hi:i<m.F.length):i ∈ fedT m m.F.length j ↔ fedB m j i=true:=by
 rw [<- qf4 hv hj hi,<- List.count_pos_iff,q7q,if_pos hi,List.count_pos_iff]
structure Srch (m:Fm) (k:Nat) (M:Nat->Bool) (xs:List Nat):Prop where
 snd:Snd m k M
 few:xs.length<=cntB M m.F.length+1
 que:∀ x,x ∈ xs->x<m.F.length/\(x=k ∨ M x=true)
 cls:∀ j,j<m.F.length->j ∉ xs->Cls m k M j
structure SrchP (m:Fm) (k j p:Nat) (M:Nat->Bool) (xs:List Nat):Prop where
 snd:Snd m k M
 few:xs.length<=cntB M m.F.length
 que:∀ x,x ∈ xs->x<m.F.length/\(x=k ∨ M x=true)
 cls:∀ i,i<m.F.length->i ≠ j->i ∉ xs->Cls m k M i
 led:∀ q (h:q<(fedT m m.F.length j).length),q<p->M (fedT m m.F.length j)[q]=true
 jk:j<m.F.length/\(j=k ∨ Rch m k j)
theorem q9c {m:Fm} {k:Nat} (hk:k<m.F.length):Srch m k (fun _=>false) [k]:=by
 refine ⟨(fun i h=>by cases h),by simp,fun x hx=>?_,fun j _ hjk=>?_⟩
 . obtain rfl:x=k:=by simpa using hx
   exact ⟨hk,.inl rfl⟩
 . rintro (e | e)
   . exact absurd (by simp [e]) hjk
   . cases e
theorem qd0 {m:Fm} {k j:Nat} {M:Nat->Bool} {xs:List Nat} (h:Srch m k M (j :: xs)):SrchP m k j 0 M xs:=by
 have hj:=h.que j (by simp)
 refine ⟨h.snd,by have:=h.few;simp at this;omega,fun x hx=>h.que x (by simp [hx]),fun i hi hne hx=>h.cls i hi (by simp [hne,hx]),fun q _ hq=>absurd hq (nL _),hj.1,?_⟩
 rcases hj.2 with e | e
 . exact .inl e
 . exact .inr (h.snd j e)
theorem qcz {m:Fm} {k j p:Nat} {M:Nat->Bool} {xs:List Nat} (h:SrchP m k j p M xs) (hp:p<(fedT m m.F.length j).length) (hm:M (fedT m m.F.length j)[p]=true):SrchP m k j (p+1) M xs:=by
 refine ⟨h.snd,h.few,h.que,h.cls,fun q hq hqp=>?_,h.jk⟩
 by_cases e:q=p
 . subst e;exact hm
 . exact h.led q hq (by omega)
theorem qcy {m:Fm} (hv:VfA m) {k j p x:Nat} {M:Nat->Bool} {xs:List Nat} (h:SrchP m k j p M xs) (hp:p<(fedT m m.F.length j).length) (hx:(fedT m m.F.length j)[p]=x) (hm:M x=false):SrchP m k j (p+1) (up M x true) (xs++[x])/\cntB (up M x true) m.F.length=cntB M m.F.length+1:=by
 have hxn:x<m.F.length:=by rw [<- hx];exact qi6 m _ j _ (List.getElem_mem hp)
 have hfx:fedB m j x=true:=(qf5 hv h.jk.1 hxn).1 (by rw [<- hx];exact List.getElem_mem hp)
 have hc:=qhu hxn hm
 have up1:∀ {i},M i=true->up M x true i=true:=fun {i} hi=>by
  by_cases e:i=x
  . subst e;rw [up_at]
  . rw [up_ne _ _ e];exact hi
 refine ⟨⟨h.snd.up (qfu h.jk.2 hxn hfx),by rw [hc];have:=h.few;simp;omega,fun y hy=>?_,fun i hi hne hy=>?_,fun q hq hqp=>?_,h.jk⟩,hc⟩
 . rcases List.mem_append.1 hy with hy | hy
   . exact ⟨(h.que y hy).1,(h.que y hy).2.imp id up1⟩
   . obtain rfl:y=x:=by simpa using hy
     exact ⟨hxn,.inr (up_at _ _ _)⟩
 . rintro hk i' hi' hf
   have hyx:i ≠ x:=fun e=>hy (by simp [e])
   refine up1 (h.cls i hi hne (fun e=>hy (by simp [e])) ?_ i' hi' hf)
   rcases hk with e | e
   . exact .inl e
   . rw [up_ne _ _ hyx] at e;exact .inr e
 . by_cases e:q=p
   . subst e;rw [hx];exact up_at _ _ _
   . exact up1 (h.led q hq (by omega))
theorem q9b {m:Fm} (hv:VfA m) {k j:Nat} {M:Nat->Bool} {xs:List Nat} (h:SrchP m k j (fedT m m.F.length j).length M xs):Srch m k M xs:=by
 refine ⟨h.snd,by have:=h.few;omega,h.que,fun i hi hx=>?_⟩
 by_cases e:i=j
 . subst e
   intro _ i' hi' hf
   obtain ⟨q,hq,e⟩:=List.getElem_of_mem ((qf5 hv hi hi').2 hf)
   rw [<- e]
   exact h.led q hq hq
 . exact h.cls i hi e hx
theorem qgf {m:Fm} {k:Nat} {M:Nat->Bool} (hk:k<m.F.length) (h:Srch m k M []):M k=true ↔ Rch m k k:=q95 hk h.snd (fun j hj=>h.cls j hj (by simp)) k hk
theorem q2o (m:Fm) (F k base:Nat) (V:Nat->Value) (w:World) (hv:VfA m) (hk:k<m.F.length) (hH:HoldF w F m.F.length V) (hFm:Fam w base m.F.length V (fedT m m.F.length)) (hLl:∀ j,(fedT m m.F.length j).length<=400000) :
 Calls Tryz.prog 117 #[.slice (some ⟨F,0,none⟩) m.F.length m.F.length,.int .i64 k] w fun r w'=>∃ bb:Bool,r=.returned (.bool bb)/\(bb=true ↔ Rch m k k)/\Below w.heap.size w w':=by
 have HH:=h_ hH;have HFm:=h_ hFm;have HLl:=h_ hLl;have HV:=h_ hv
 have hn:=hv.nf
 obtain ⟨i0,hi,hz0,hz1,hz2⟩:=info_parts q7z
 obtain ⟨i1,hj,hy0,hy1,hy2⟩:=info_parts infoI
 have hbn:i0.bytes*m.F.length<=281474976710656:=by rw [hz2];omega
 have hFw:F<w.heap.size:=hH.lt
 have HSt:=h_ (q9c hk)
 clear hH hFm hLl hv
 go_enter Tryz.func117,Tryz.ntmps117
 go_wp2_with (at_make;refine wpList_make_full _ rfl (.tmp 11) (.tmp 11) 59 rfl w.heap.size 4 i0 _ 1 Tryz.underlying59 hi hz0 hz1 .i64 .i64 _ _ m.F.length rfl rfl rfl rfl hbn (by unfold maxLen;omega) (nR _) ?_)
 intro w1 hown hgrow
 obtain ⟨S,hS⟩:∃ S,w.heap.size=S:=⟨_,rfl⟩
 have hb1:Below S w w1:=by rw [<- hS];exact (bR _ _).grown hgrow (nR _) (fun k e=>by cases e)
 rw [hS] at hown hFw
 try rw [hS]
 have hZ:=qji hown
 have hs1:S<w1.heap.size:=hZ.lt
 have HQ:=h_ (Que.new w1 k (base:=S+1) hs1)
 have hba:=(bR w1.heap.size w1).alloc (nR _) (.cells #[.int .i64 (k:Nat)] 3)
 have HB1:=h_ (hb1.trans (hba.mono (by omega)))
 have HZ:=h_ (hZ.mono hba hs1)
 obtain ⟨W1,hW1⟩:∃ W1,w1.alloc (.cells #[.int .i64 (k:Nat)] 3)=W1:=⟨_,rfl⟩
 rw [hW1] at HQ HB1 HZ
 clear hown hgrow hb1 hbn hi hz0 hz1 hz2 hba hZ
 go_wp2_with fail
 try rw [hW1]
 go_loopw [6] (fun q wr=>∃ (g off cap:Nat) (xs:List Nat) (M:Nat->Bool),q=.slice (some ⟨g,off,none⟩) xs.length cap/\Que wr (S+1) g off cap xs/\Blk wr S 4 (ms m.F.length M)/\Srch m k M xs/\Below S w wr) (fun q wr=>2*(m.F.length - cntW m.F.length S wr)+lenS q)
 case atStart=>exact ⟨_,0,1,[k],_,rfl,u_ HQ,u_ HZ,u_ HSt,u_ HB1⟩
 case round =>
  clear HQ HZ HSt HB1 hW1 hs1
  obtain ⟨g,off,cap,xs,M,rfl,hq,hz,hsr,hb⟩:=hrel
  have HQ:=h_ hq;have HZ:=h_ hz;have HSr:=h_ hsr;have HB:=h_ hb
  have hcw:=qhx hz
  have hgl:=hq.lt
  have hgS:=hq.lo
  cases xs with
  | nil =>
   have zk:=(hz.cell k).trans (ms_at M hk)
   have HE:=h_ (qgf hk hsr)
   have hk':(k:Int)<m.F.length:=by omega
   clear hq hz hsr hb hcw hgl hgS
   simp only [List.length_nil]
   generalize M k=bb at *
   go_wp2_with fail
   go_ret
   have HB2:Hid (Below w.heap.size w wr):=h_ (by rw [hS];exact u_ HB)
   first | exact ⟨bb,rfl,u_ HE,u_ HB2⟩ | exact ⟨u_ HE,u_ HB⟩ | exact ⟨u_ HE,u_ HB2⟩
  | cons x ys =>
   have hxn:=(hsr.que x (by simp)).1
   have hxn':(x:Int)<m.F.length:=by omega
   have zq:=hq.cell (j:=0) (by simp)
   simp only [Nat.add_zero,List.getElem_cons_zero] at zq
   have hfew:=hsr.few
   have hcl:=qhs M m.F.length
   obtain ⟨off',hoff,hq'⟩:=hq.tail
   have hcap:1<=cap:=by have:=hq.room;simp at this;omega
   have hsl:∀ wx,(Instr.slice 84 (.slice (some ⟨g,off,none⟩) (ys.length+1) cap) (some (.int .i64 1)) none none).run Tryz.prog wx=.ok (.slice (some ⟨g,off',none⟩) ys.length (cap - 1)) wx:=fun wx=>by
    rw [run_slice_l wx 84 _ _ _ Tryz.underlying84 .i64 1 (by omega) (by omega)]
    have he:Tryz.prog.elem 84=3:=by kernel_rfl
    rw [he]
    rw [<- hoff]
    simp [sizeOf,typeInfo,hj,hy1,sliced,Addr.add]
   have HQ2:=h_ hq'
   have HT:=h_ hoff
   clear hq' hoff
   have HP:=h_ (qd0 hsr)
   have zF:=(hb.cell (p:=⟨F,x,none⟩) hFw).trans (HoldF.at (u_ HH) hxn)
   have hlen0:(0:Int)<((ys.length+1:Nat):Int):=by omega
   have hlen1:(1:Int)<=((ys.length+1:Nat):Int):=by omega
   simp only [List.length_cons] at hfew ⊢
   have hoj:=(u_ HFm).own x hxn
   obtain ⟨a,c,e,-⟩:=own_at hoj
   rw [e] at zF hoj
   have HOj:=h_ hoj
   clear hq hz hsr hb e hoj
   go_wp2_with fail
   have hll:=u_ HLl x
   have HSk:Hid (∀ l,fedT m m.F.length x=l->∀ (p:Nat) M ys,SrchP m k x p M ys->∀ (h:p<l.length),M l[p]=true->SrchP m k x (p+1) M ys):=h_ fun l e p M ys hP h hm=>by subst e;exact qcz hP h hm
   have HPu:Hid (∀ l,fedT m m.F.length x=l->∀ (p:Nat) M ys,SrchP m k x p M ys->∀ (h:p<l.length),M l[p]=false->SrchP m k x (p+1) (up M l[p] true) (ys++[l[p]])/\cntB (up M l[p] true) m.F.length=cntB M m.F.length+1):=h_ fun l e p M ys hP h hm=>by subst e;exact qcy (u_ HV) hP h rfl hm
   have HRo:Hid (∀ l,fedT m m.F.length x=l->∀ M ys,SrchP m k x l.length M ys->Srch m k M ys):=h_ fun l e M ys hP=>by subst e;exact q9b (u_ HV) hP
   have HLn:Hid (∀ l,fedT m m.F.length x=l->∀ i,i ∈ l->i<m.F.length):=h_ fun l e i hi=>by subst e;exact qi6 m _ x i hi
   obtain ⟨l,hl⟩:∃ l,fedT m m.F.length x=l:=⟨_,rfl⟩
   rw [hl] at HOj hll zF
   replace HSk:=h_ (u_ HSk l hl);replace HPu:=h_ (u_ HPu l hl);replace HRo:=h_ (u_ HRo l hl);replace HLn:=h_ (u_ HLn l hl)
   clear hsl HT HQ HSr
   have hcnt:cntB M m.F.length=cntB M m.F.length:=rfl
   obtain ⟨C0,hC0⟩:∃ C0,cntB M m.F.length=C0:=⟨_,rfl⟩
   try rw [hl]
   clear hl hcnt
   go_wp2_with fail
   clear zq zF
   go_loopw [6,28] (fun q iv w3=>∃ (p g off cap:Nat) (zs:List Nat) (M:Nat->Bool),p<=l.length/\iv=.int .i64 p/\q=.slice (some ⟨g,off,none⟩) zs.length cap/\Que w3 (S+1) g off cap zs/\Blk w3 S 4 (ms m.F.length M)/\SrchP m k x p M zs/\C0<=cntB M m.F.length/\zs.length+C0=ys.length+cntB M m.F.length/\Below S w w3) (fun _ iv _=>l.length - (intOf iv).toNat)
   case atStart=>exact ⟨0,g,off',cap - 1,ys,M,nZ _,rfl,rfl,u_ HQ2,u_ HZ,u_ HP,by omega,by omega,u_ HB⟩
   case round =>
    clear HQ2 HZ HP HB hgl hgS hfew hcl hcap hlen0 hlen1
    obtain ⟨p,g,off,cap,zs,M,hp,rfl,rfl,hq,hz,hP,hc0,hc1,hb⟩:=hrel
    have HQ:=h_ hq;have HZ:=h_ hz;have HP:=h_ hP;have HB:=h_ hb
    have hgl:=hq.lt
    have hgS:=hq.lo
    have hfew:=hP.few
    have hcl:=qhs M m.F.length
    by_cases hpl:p<l.length
    . have hpl':(p:Int)<l.length:=by omega
      obtain ⟨g2,rfl,hg2,-,zc⟩:=qfe (qce (u_ HOj) (show Below w.heap.size w wr by rw [hS];exact hb)) p hpl
      have hin:l[p]<m.F.length:=u_ HLn _ (List.getElem_mem hpl)
      have hin':((l[p]:Nat):Int)<m.F.length:=by omega
      have zx:=(hz.cell l[p]).trans (ms_at M hin)
      have fx:=hz.free l[p]
      have HS1:=h_ (u_ HSk p M zs hP hpl);have HU1:=h_ (u_ HPu p M zs hP hpl)
      clear hq hz hP hb
      generalize l[p]=i at *
      cases hm:M i
      . obtain ⟨hP2,hc2⟩:=u_ HU1 hm
        have HP2:=h_ hP2
        rw [hm] at zx
        clear hm hP2 HS1 HU1
        have HZ2:=h_ ((u_ HZ).set i (.bool true))
        rw [ms_set] at HZ2
        have HB2:=h_ ((u_ HB).setCell (p:=⟨S,i,none⟩) (nR S) (.bool true))
        have HQ2:=h_ ((u_ HQ).other (a:=⟨S,i,none⟩) (.bool true) (by show g ≠ S;omega))
        have hsz:(wr.setCell ⟨S,i,none⟩ (.bool true)).heap.size=wr.heap.size:=by simp
        obtain ⟨Wa,hWa⟩:∃ Wa,wr.setCell ⟨S,i,none⟩ (.bool true)=Wa:=⟨_,rfl⟩
        rw [hWa] at HZ2 HB2 HQ2 hsz
        have hba:=(bR Wa.heap.size Wa).alloc (nR _) (.cells #[.int .i64 (i:Nat)] 3)
        replace HZ2:=mB HZ2 hba;replace HB2:=h_ ((u_ HB2).trans (hba.mono (by omega)));replace HQ2:=h_ ((u_ HQ2).mono hba (u_ HQ2).lt)
        have HN:=h_ (cell_one_new Wa (.int .i64 (i:Nat)) 3)
        obtain ⟨Wb,hWb⟩:∃ Wb,Wa.alloc (.cells #[.int .i64 (i:Nat)] 3)=Wb:=⟨_,rfl⟩
        rw [hWb] at HZ2 HB2 HQ2 HN
        have hsb:Wb.heap.size=wr.heap.size+1:=by rw [<- hWb];simp;omega
        clear hba
        go_wp2_with (at_builtin;refine wpList_append_arg _ rfl _ _ 84 rfl 3 i1 _ 1 8 Tryz.underlying84 hj hy0 hy1 hy2 rfl (by decide) g off zs.length cap (ui zs) rfl (by simp [ui]) ?olds ⟨wr.heap.size,0,none⟩ 1 1 [.int .i64 (i:Nat)] rfl rfl ?c1 ?c2 ?spare (by unfold maxLen;omega) (by omega) ?room ?grow)
        case olds=>(try rw [hWa]);(try rw [hWb]);exact (u_ HQ2).olds
        case c1 =>
         try rw [hWa]
         try rw [hWb]
         have h:=u_ HN
         rw [hsz] at h
         exact h
        case c2=>simp [Value.oneCell']
        case spare=>(try rw [hWa]);(try rw [hWb]);exact (u_ HQ2).spare rfl
        case room =>
         intro hr
         try rw [hWa]
         try rw [hWb]
         have HQ3:=h_ ((u_ HQ2).push (x:=i) hr)
         have HZ3:=h_ ((u_ HZ2).other (a:=⟨g,off+zs.length,none⟩) (.int .i64 (i:Nat)) (by show S ≠ g;omega))
         have HB3:=h_ ((u_ HB2).setCell (p:=⟨g,off+zs.length,none⟩) (by show S<=g;omega) (.int .i64 (i:Nat)))
         have hW3:Wb.setCells g (off+zs.length) [.int .i64 (i:Nat)]=Wb.setCell ⟨g,off+zs.length,none⟩ (.int .i64 (i:Nat)):=rfl
         try rw [Nat.mul_one]
         rw [hW3]
         clear hW3 hr
         have hlz:zs.length+1=(zs++[i]).length:=by simp
         rw [hlz]
         clear zx fx zc
         go_wp2_with fail
         go_roundw
         case rel=>first | exact ⟨p+1,g,off,cap,zs++[i],_,by omega,by go_num,rfl,u_ HQ3,u_ HZ3,u_ HP2,by omega,by simp;omega,u_ HB3⟩ | ((repeat apply Exists.intro);exact ⟨⟨p+1,g,off,cap,zs++[i],_,by omega,by go_num,rfl,u_ HQ3,u_ HZ3,u_ HP2,by omega,by simp;omega,u_ HB3⟩,rfl⟩)
         case measure=>simp [intOf];omega
        case grow =>
         intro hr v' w' hown hgrow
         try rw [hWa] at hown hgrow
         try rw [hWb] at hown hgrow
         obtain ⟨g',cap',e,hg',hq'⟩:=Que.made (base:=S+1) hown (by omega)
         have HQ3:=h_ hq'
         have HZ3:=h_ ((u_ HZ2).grown hgrow (fun e=>by cases e))
         have HB3:=h_ ((u_ HB2).grown hgrow (by omega) (fun q e=>by cases e))
         subst e
         clear hq' hown hgrow hr zx fx zc
         go_wp2_with fail
         go_roundw
         case rel=>first | exact ⟨p+1,g',0,cap',zs++[i],_,by omega,by go_num,rfl,u_ HQ3,u_ HZ3,u_ HP2,by omega,by simp;omega,u_ HB3⟩ | ((repeat apply Exists.intro);exact ⟨⟨p+1,g',0,cap',zs++[i],_,by omega,by go_num,rfl,u_ HQ3,u_ HZ3,u_ HP2,by omega,by simp;omega,u_ HB3⟩,rfl⟩)
         case measure=>simp [intOf];omega
      . have HP3:=h_ (u_ HS1 hm)
        rw [hm] at zx
        clear hm
        go_wp2_with fail
        go_roundw
        case rel=>first | exact ⟨p+1,g,off,cap,zs,M,by omega,by go_num,rfl,u_ HQ,u_ HZ,u_ HP3,hc0,hc1,u_ HB⟩ | ((repeat apply Exists.intro);exact ⟨⟨p+1,g,off,cap,zs,M,by omega,by go_num,rfl,u_ HQ,u_ HZ,u_ HP3,hc0,hc1,u_ HB⟩,rfl⟩)
        case measure=>simp [intOf];omega
    . obtain rfl:p=l.length:=by omega
      have hpl':¬ (l.length:Int)<(l.length:Int):=by omega
      have HR:=h_ (u_ HRo M zs hP)
      have hcw2:=qhx hz
      clear hq hz hP hb
      go_wp2_with fail
      go_roundw
      case rel=>first | exact ⟨g,off,cap,zs,M,rfl,u_ HQ,u_ HZ,u_ HR,u_ HB⟩ | ((repeat apply Exists.intro);exact ⟨⟨g,off,cap,zs,M,rfl,u_ HQ,u_ HZ,u_ HR,u_ HB⟩,rfl⟩)
      case measure=>simp [lenS];rw [hcw2,hcw];omega
end Go.Proofs.YtgkcaeidhkddjaaGreatDoor
