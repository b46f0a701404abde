import Derived.Test.YtgojgjlninakjaaGreatDoorW31
import Derived.ArgAppend
set_option maxRecDepth 100000
set_option maxHeartbeats 64000000
namespace Go.Proofs.YtgojgjlninakjaaGreatDoor
open Go Go.RowKit Go.Shelf
attribute [local go_sem] Oper.semAt_some
theorem q5x (n:Nat)(m:Fm)(A:MA)(b:Nat)(w:World)(hv:VfA m)(hf:FitM m)(ha:MSl w m A)(hm:PMap w b (fNames m)) :
 CallsIn Fence.wide n Tryz.prog 117 #[wV m A b] w fun e w'=>e=.returned (.bool (decide ((ordL m m.F.length).length<m.F.length)))/\Below w.heap.size w w':=by
 have HCo:=h_ fun W=>qdq m A b W
 have HG:=h_ fun (w0:World) (B:Nat) X hW hs hp=>q71 m A b B w0 X hv hf hW hs hp
 obtain⟨al,alc,ap,apc,ar,arc,af,afc,afa⟩:=A
 unfold wV at HCo⊢
 dsimp only at HCo HG⊢
 have hnf:=hv.nf
 have HK:=h_ (Blk.new w 102 #[.slice al m.L.length alc,.slice ap m.P.length apc,.slice ar m.R.length arc,.slice af m.F.length afc,.map (some b)])
 have HB:=h_ ((bR w.heap.size w).alloc (nR _) (.cells #[.slice al m.L.length alc,.slice ap m.P.length apc,.slice ar m.R.length arc,.slice af m.F.length afc,.map (some b)] 102))
 obtain⟨W0,hW0⟩:=Nq (w.alloc (.cells #[.slice al m.L.length alc,.slice ap m.P.length apc,.slice ar m.R.length arc,.slice af m.F.length afc,.map (some b)] 102))
 have hs0:W0.heap.size=w.heap.size+1:=by rw[<- hW0];simp
 rw[hW0]at HK HB
 have HL:=h_ (Blk.new W0 3 #[J6 m.F.length])
 have HBl:=h_ ((bR W0.heap.size W0).alloc (nR _) (.cells #[J6 m.F.length] 3))
 obtain⟨W1,hW1⟩:=Nq (W0.alloc (.cells #[J6 m.F.length] 3))
 have hs1:W1.heap.size=w.heap.size+1+1:=by rw[<- hW1];simp;omega
 rw[hW1,hs0]at HL
 rw[hW1]at HBl
 have HK1:=h_ (HK.u.mono HBl.u HK.u.lt)
 replace HB:=h_ (HB.u.trans (HBl.u.mono HB.u.size))
 have HS:=h_ (ha.mono HB.u);have HM:=h_ (hm.mono HB.u)
 obtain⟨y0,y1,y2,y3,y4⟩:=five HK.u
 obtain⟨z0,z1,z2,z3,z4⟩:=five HK1.u
 clear ha hm hv hf
 refine callsIn_of_wp_marks Tryz.func117 rfl trivial ?_ rfl
 simp only[Tryz.ntmps117,Y8,Yl,Yt,Nat.reduceAdd,Nat.reduceSub,Vr,Vq,V5,Vt,Vn,Zm]
 gi_wp2_with fail
 try rw[hW0]
 try rw[hW1]
 refine callW ((HCo.u W1).mono ?_)
 rintro e w2 ⟨rfl,hO,hb2⟩
 clear hW0 hW1 y0 y1 y2 y3 y4 z0 z1 z2 z3 z4 HCo
 rw[hs1]at hO
 have HO:=h_ hO
 have HL2:=mB HL hb2
 have HB2:=h_ (HB.u.trans (hb2.mono (by omega)))
 have hs2:W1.heap.size<=w2.heap.size:=hb2.size
 have HG2:=h_ (HG.u w2 (w.heap.size+1+1) (fun j=>j=w.heap.size+1) hO (HS.u.mono hb2) (HM.u.mono hb2))
 clear hO hb2 HG HS HM
 try rw[hs1]
 try rw[hs0]
 gi_wp2_with fail
 refine qa8 (gf:=190) (lb:=#[J9 (w.heap.size+1+1) 0]) rfl (enters_of Tryz.func190 (by kernel_rfl) rfl)
  HG2.u (bR _ _) (fun j hj=>by omega) rfl
  (fun _ pre W=>Blk W (w.heap.size+1) 3 [J6 ((m.F.length:Int) - pre.length)]/\Below w.heap.size w W)
  ?hI ?h0
  (fun x=>{ tmps:=#[.agg #[.slice al m.L.length alc,.slice ap m.P.length apc,.slice ar m.R.length arc,.slice af m.F.length afc,.map (some b)],J9 w.heap.size 0,.bool false,J9 (w.heap.size+1) 0,J9 w.heap.size 0,J9 w.heap.size 3,.slice af m.F.length afc,J6 m.F.length,.agg #[.slice al m.L.length alc,.slice ap m.P.length apc,.slice ar m.R.length arc,.slice af m.F.length afc,.map (some b)],.func (.func 190) #[] #[J9 (w.heap.size+1+1) 0],J6 (x:Int),undef,undef,undef,undef],defers:=[] })
  ?assign ?body ?done
 case hI =>
  rintro hi pre W W' ⟨h1,h2⟩ hb;exact⟨hb.blk h1 (by omega),h2.trans (hb.below (by omega) h2.size)⟩
 case h0 =>
  intro W hb;exact⟨by simpa using HL2.u.mono hb HL2.u.lt,HB2.u.trans (hb.mono HB2.u.size)⟩
 case assign =>
  intro m' l x W K hK
  gi_wp2
  first | exact hK | simpa using hK
 case body =>
  rintro m' l hi pre x W hhi ⟨h1,h2⟩ ⟨ht1,ht2,ht3⟩;have c0:=h1.cell 0;simp only[Yg]at c0;have f0:=h1.free 0;have HE:Hi ((m.F.length:Int) - ((pre++[x]).length:Nat)=(m.F.length:Int) - pre.length - 1):=h_ (by rw[Yd];simp;omega);have hq1:(m.F.length:Int) - pre.length<=200:=by omega
  have hq0:0<=(m.F.length:Int) - pre.length:=by omega
  have H1:=h_ h1;have H2:=h_ h2;have hl1:=h1.lt;clear h1 h2 ht1 ht2 ht3;generalize (m.F.length:Int) - pre.length=q at *;gi_wp2_with fail;refine⟨KeepsOthers.setCell _ _ _,KeepB.set _ rfl,?_,H2.u.setCell (p:=⟨w.heap.size+1,0,none⟩) (by simp) _⟩;rw[HE.u];exact H1.u.set 0 (J6 (q - 1))
 case done =>
  rintro D hi xs W hD hDh hS ⟨h1,h2⟩ hK;have c0:=h1.cell 0;simp only[Yg]at c0;have hxl:xs.length<=m.F.length:=by rw[hS];exact qms m _
  have HE:Hi (decide ((ordL m m.F.length).length<m.F.length)=decide ((m.F.length:Int) - xs.length > 0)):=h_ (by rw[<- hS];exact decide_eq_decide.2 (by omega));have hq1:(m.F.length:Int) - xs.length<=200:=by omega
  have hq0:0<=(m.F.length:Int) - xs.length:=by omega
  have H2:=h_ h2;have HK:=h_ hK;clear h1 h2 hS hK;generalize (m.F.length:Int) - xs.length=q at *;gi_wp2_with fail;refine⟨by simp,.inl ⟨_,_,rfl,run_takeDeferred HK.u,?_⟩⟩;refine⟨.bool (decide (0<q)),?_,by rw[HE.u],H2.u.trans (qbh _ D _ (by omega))⟩;simp[results,Tryz.f117,go_sem]
theorem q3r (m:Fm)(A:MA)(b:Nat)(w:World)(hv:VfA m)(hf:FitM m)(ha:MSl w m A)(hm:PMap w b (fNames m)) :
 Calls Tryz.prog 117 #[wV m A b] w fun e w'=>e=.returned (.bool (decide ((ordL m m.F.length).length<m.F.length)))/\Below w.heap.size w w' :=
 (callsIn_wide (n:=9)).1 (q5x 9 m A b w hv hf ha hm)
end Go.Proofs.YtgojgjlninakjaaGreatDoor
namespace Go.Proofs.YtgojgjlninakjaaGreatDoor
open Go Go.RowKit
theorem q8v:(Tryz.prog.info? 4).map (fun i=>(i.zero,i.size,i.bytes))=some (some (.bool false),1,1):=by kernel_rfl
theorem qmn {w:World}{base F n:Nat}(h:w.ownsRow base 4 1 (.slice (some ⟨F,0,none⟩) n n) n (madeCells #[Value.bool false] n).toList):Blk w F 4 (ms n fun _=>false):=by
 have hb:=Blk.of_owns h
 rw[toList_madeCells_one]at hb
 unfold ms
 rw[List.map_const',Ox]
 exact hb
theorem q6h (m:Fm)(A:MA)(k:Nat)(w:World)(hk:k<m.F.length)(hn:m.F.length<=200)(hf:FitM m)(ha:MSl w m A) :
 Calls Tryz.prog 106 #[mV m A,J6 k] w fun r w'=>∃G M,r=.returned (.slice (some ⟨G,0,none⟩) m.F.length m.F.length)/\w.heap.size<=G/\Blk w' G 4 (ms m.F.length M)/\(∀i,i<m.F.length->(M i=true ↔ Rch m k i))/\Below w.heap.size w w':=by
 have HCf:=h_ fun W j i (hj:j<m.F.length) (hi:i<m.F.length) (hs:MSl W m A)=>q6f m A j i W hj hi hf hs
 obtain⟨al,alc,ap,apc,ar,arc,af,afc,afa⟩:=A
 unfold mV at HCf⊢
 dsimp only at HCf⊢
 have HK:=h_ (Blk.new w 36 (Jb al m alc ap apc ar arc af afc))
 have HB:=h_ ((bR w.heap.size w).alloc (nR _) (.cells (Jb al m alc ap apc ar arc af afc) 36))
 obtain⟨W0,hW0⟩:=Nq (w.alloc (.cells (Jb al m alc ap apc ar arc af afc) 36))
 have hs0:W0.heap.size=w.heap.size+1:=by rw[<- hW0];simp
 rw[hW0]at HK HB
 have HS:=h_ ha
 clear ha hf
 obtain⟨i0,hi,hz0,hz1,hz2⟩:=info_parts q8v
 have hbn:i0.bytes*m.F.length<=281474976710656:=by rw[hz2];omega
 obtain⟨y0,y1,y2,y3⟩:=quad HK.u
 go_enter Tryz.func106,Tryz.ntmps106
 go_wp2_with (at_make;refine wpList_make_full _ rfl (.tmp 14) (.tmp 14) 103 rfl (w.heap.size+1) 4 i0 _ 1 Tryz.underlying103 hi hz0 hz1 .i64 .i64 _ _ m.F.length rfl rfl rfl rfl hbn (by unfold maxLen;omega) (by first | omega | (simp;done)) ?_)
 intro w1 hown hgrow
 try rw[hW0]at hown hgrow
 try rw[hW0]
 try rw[hs0]at hown
 try rw[hs0]
 have hb1:Below (w.heap.size+1) W0 w1:=(bR _ _).grown hgrow (by omega) (fun k e=>by cases e)
 obtain⟨G,hG⟩:=Nq (w.heap.size+1)
 rw[hG]at hown hb1 hs0
 try rw[hG]
 have HZ:=h_ (qmn hown)
 have HKb:=h_ hb1
 clear hown hgrow hb1 hbn hi hz0 hz1 hz2 hW0 y0 y1 y2 y3
 replace HB:=h_ (HB.u.trans (HKb.u.mono (by omega)))
 replace HK:=h_ (HK.u.mono HKb.u (by omega))
 clear HKb
 go_wp2_with fail
 go_loopw [7] (fun v wr=>∃(rd:Nat) (M:Nat->Bool),rd<=m.F.length/\v=J6 rd/\Blk wr G 4 (ms m.F.length M)/\Snd m k M/\rd<=cntB M m.F.length/\Below G w1 wr) (fun v _=>m.F.length - (intOf v).toNat)
 case atStart=>exact⟨0,_,nZ _,rfl,HZ.u,(fun i h=>by cases h),nZ _,bR _ _⟩
 case round =>
  clear HZ;obtain⟨rd,M,hrd,rfl,hz,hsn,hcn,hb⟩:=hrel;have HZ:=h_ hz;have HSn:=h_ hsn;have HCn:=h_ hcn;have HBr:=h_ hb;clear hz hsn hcn hb;by_cases hlt:rd<m.F.length
  . have hlt':(rd:Int)<m.F.length:=by omega
    go_wp2_with fail;go_loopw [8,9] (fun g v w3=>∃(j:Nat) (gr:Bool) (M':Nat->Bool),j<=m.F.length/\g=.bool gr/\v=J6 j/\Blk w3 G 4 (ms m.F.length M')/\Snd m k M'/\rd<=cntB M' m.F.length/\(gr=true->rd+1<=cntB M' m.F.length)/\(gr=false->∀j',j'<j->Cls m k M' j')/\Below G w1 w3) (fun _ v _=>m.F.length - (intOf v).toNat)
    case atStart=>exact⟨0,false,M,nZ _,rfl,rfl,HZ.u,HSn.u,HCn.u,(fun h=>by cases h),fun _ j' h=>absurd h (nL _),HBr.u⟩
    case round =>
     clear HZ HSn HCn HBr;obtain⟨j,gr,M',hj,rfl,rfl,hz,hsn,hcn,hg1,hg2,hb⟩:=hrel;have HZ:=h_ hz;have HSn:=h_ hsn;have HCn:=h_ hcn;have HG1:=h_ hg1;have HG2:=h_ hg2;have HBr:=h_ hb;clear hsn hcn hg1 hg2 hb;by_cases hjl:j<m.F.length
     . have hjl':(j:Int)<m.F.length:=by omega
       have zj:=(hz.cell j).trans (ms_at M' hjl);clear hz;have hcase:(j=k∨(¬ j=k/\M' j=true))∨(¬ j=k/\M' j=false):=by
        by_cases e:j=k
        . exact .inl (.inl e)
        . cases h:M' j
          . exact .inr ⟨e,rfl⟩
          . exact .inl (.inr ⟨e,rfl⟩)
       rcases hcase with hin | ⟨hne,hf⟩
       . have HJ:Hi (j=k∨Rch m k j):=h_ (by
          rcases hin with e | ⟨-,e⟩
          . exact .inl e
          . exact .inr (HSn.u j e))
         have HL:Hi (gr=false->(∀j',j'<j->Cls m k M' j')/\∀i',i'<0->fedB m j i'=true->M' i'=true):=h_ fun h=>⟨HG2.u h,fun i' h=>absurd h (nL _)⟩;have hentry:(j=k/\((j:Int)==k)=true)∨(((j:Int)==k)=false/\M' j=true):=by
          rcases hin with e | ⟨hne,e⟩
          . exact .inl ⟨e,by simp[e]⟩
          . exact .inr ⟨Ya.2 (by omega),e⟩
         clear hin HG2;rcases hentry with ⟨-,he⟩ | ⟨he,hm⟩
         case' inl=>go_wp2_with fail
         case' inr =>
          rw[hm]at zj;clear hm;go_wp2_with fail
         all_goals
          clear zj he;go_loopw [8,10] (fun g v w4=>∃(i:Nat) (gr:Bool) (M2:Nat->Bool),i<=m.F.length/\g=.bool gr/\v=J6 i/\Blk w4 G 4 (ms m.F.length M2)/\Snd m k M2/\rd<=cntB M2 m.F.length/\(gr=true->rd+1<=cntB M2 m.F.length)/\(gr=false->(∀j',j'<j->Cls m k M2 j')/\∀i',i'<i->fedB m j i'=true->M2 i'=true)/\Below G w1 w4) (fun _ v _=>m.F.length - (intOf v).toNat)
          case atStart=>exact⟨0,gr,M',nZ _,rfl,rfl,HZ.u,HSn.u,HCn.u,HG1.u,HL.u,HBr.u⟩
          case round =>
           clear HZ HSn HCn HG1 HL HBr;obtain⟨i,gr,M2,hil,rfl,rfl,hz,hsn,hcn,hg1,hg2,hb⟩:=hrel;have HZ:=h_ hz;have HSn:=h_ hsn;have HCn:=h_ hcn;have HG1:=h_ hg1;have HG2:=h_ hg2;have HBr:=h_ hb;have HKr:=h_ (HK.u.mono hb (by omega));have HSr:=h_ (HS.u.mono (HB.u.trans (hb.mono (by omega))));clear hsn hcn hg1 hg2 hb;by_cases hilt:i<m.F.length
           . have hilt':(i:Int)<m.F.length:=by omega
             have zi:=(hz.cell i).trans (ms_at M2 hilt);clear hz;cases hmi:M2 i
             . rw[hmi]at zi
               have HMi:=h_ hmi;clear hmi;obtain⟨y0,y1,y2,y3⟩:=quad HKr.u;have HC2:=h_ (HCf.u _ j i hjl hilt HSr.u);go_wp2_with fail;refine HC2.u.mono ?_;rintro r W2 ⟨rfl,hb2⟩;have HZ2:=mB HZ hb2;have HB2:=h_ (HBr.u.trans (hb2.mono (by have:=HZ.u.lt;omega)));clear hb2 HC2 zi y0 y1 y2 y3;cases hfe:fedB m j i
               . have HG3:Hi (gr=false->(∀j',j'<j->Cls m k M2 j')/\∀i',i'<i+1->fedB m j i'=true->M2 i'=true):=h_ fun h=>⟨(HG2.u h).1,fun i' hi' hf'=>by
                  by_cases e:i'=i
                  . subst e;rw[hfe]at hf';cases hf'
                  . exact(HG2.u h).2 i' (by omega) hf'⟩
                 clear hfe;go_wp2_with fail;go_roundw
                 case rel=>first | exact⟨i+1,gr,M2,by omega,rfl,by go_num,HZ2.u,HSn.u,HCn.u,HG1.u,HG3.u,HB2.u⟩ | ((repeat apply Exists.intro);exact⟨⟨i+1,gr,M2,by omega,rfl,by go_num,HZ2.u,HSn.u,HCn.u,HG1.u,HG3.u,HB2.u⟩,rfl⟩)
                 case measure=>simp[intOf];omega
               . have HS3:=h_ (HSn.u.up (qi4 HJ.u hilt hfe))
                 have hcu:=qkd hilt HMi.u;have HC3:Hi (rd+1<=cntB (up M2 i true) m.F.length):=h_ (by have:=HCn.u;omega);have HC4:Hi (rd<=cntB (up M2 i true) m.F.length):=h_ (by have:=HCn.u;omega);have HZ3:=h_ (HZ2.u.set i (.bool true));rw[ms_set]at HZ3;have HB3:=h_ (HB2.u.setCell (p:=⟨G,i,none⟩) (nR G) (.bool true));have zi:=(HZ2.u.cell i).trans (ms_at M2 hilt);have fi:=HZ2.u.free i;clear hfe hcu;generalize M2 i=u at zi;go_wp2_with fail;go_roundw
                 case rel=>first | exact⟨i+1,true,up M2 i true,by omega,rfl,by go_num,HZ3.u,HS3.u,HC4.u,(fun _=>HC3.u),(fun h=>by cases h),HB3.u⟩ | ((repeat apply Exists.intro);exact⟨⟨i+1,true,up M2 i true,by omega,rfl,by go_num,HZ3.u,HS3.u,HC4.u,(fun _=>HC3.u),(fun h=>by cases h),HB3.u⟩,rfl⟩)
                 case measure=>simp[intOf];omega
             . rw[hmi]at zi
               have HG3:Hi (gr=false->(∀j',j'<j->Cls m k M2 j')/\∀i',i'<i+1->fedB m j i'=true->M2 i'=true):=h_ fun h=>⟨(HG2.u h).1,fun i' hi' hf'=>by
                by_cases e:i'=i
                . subst e;exact hmi
                . exact(HG2.u h).2 i' (by omega) hf'⟩
               clear hmi;go_wp2_with fail;go_roundw
               case rel=>first | exact⟨i+1,gr,M2,by omega,rfl,by go_num,HZ.u,HSn.u,HCn.u,HG1.u,HG3.u,HBr.u⟩ | ((repeat apply Exists.intro);exact⟨⟨i+1,gr,M2,by omega,rfl,by go_num,HZ.u,HSn.u,HCn.u,HG1.u,HG3.u,HBr.u⟩,rfl⟩)
               case measure=>simp[intOf];omega
           . obtain rfl:i=m.F.length:=by omega
             have hilt':¬ (m.F.length:Int)<(m.F.length:Int):=(by omega);have HG3:Hi (gr=false->∀j',j'<j+1->Cls m k M2 j'):=h_ fun h j' hj'=>by
              by_cases e:j'=j
              . subst e
                exact fun _ i' hi' hf'=>(HG2.u h).2 i' hi' hf'
              . exact(HG2.u h).1 j' (by omega)
             clear hz;go_wp2_with fail;go_roundw
             case rel=>first | exact⟨j+1,gr,M2,by omega,rfl,by go_num,HZ.u,HSn.u,HCn.u,HG1.u,HG3.u,HBr.u⟩ | ((repeat apply Exists.intro);exact⟨⟨j+1,gr,M2,by omega,rfl,by go_num,HZ.u,HSn.u,HCn.u,HG1.u,HG3.u,HBr.u⟩,rfl⟩)
             case measure=>simp[intOf];omega
       . have hne':((j:Int)==k)=false:=Ya.2 (by omega)
         have HG3:Hi (gr=false->∀j',j'<j+1->Cls m k M' j'):=h_ fun h j' hj'=>by
          by_cases e:j'=j
          . subst e
            intro hh;rcases hh with e | e
            . exact absurd e hne
            . rw[hf]at e;cases e
          . exact HG2.u h j' (by omega)
         rw[hf]at zj;clear hne HG2 hf;go_wp2_with fail;go_roundw
         case rel=>first | exact⟨j+1,gr,M',by omega,rfl,by go_num,HZ.u,HSn.u,HCn.u,HG1.u,HG3.u,HBr.u⟩ | ((repeat apply Exists.intro);exact⟨⟨j+1,gr,M',by omega,rfl,by go_num,HZ.u,HSn.u,HCn.u,HG1.u,HG3.u,HBr.u⟩,rfl⟩)
         case measure=>simp[intOf];omega
     . obtain rfl:j=m.F.length:=by omega
       have hjl':¬ (m.F.length:Int)<(m.F.length:Int):=(by omega);clear hz;cases gr
       . have HX:=h_ (qa9 hk HSn.u (HG2.u rfl))
         have HBw:Hi (Below w.heap.size w wr):=h_ (HB.u.trans (HBr.u.mono (by omega)));go_wp2_with fail;go_ret
         first | exact⟨G,M',rfl,by omega,HZ.u,HX.u,HBw.u⟩ | exact⟨G,rfl,by omega,M',HZ.u,HX.u,HBw.u⟩ | exact⟨G,rfl,by omega,⟨M',HZ.u,HX.u⟩,HBw.u⟩
       . have HC2:=h_ (HG1.u rfl)
         go_wp2_with fail;go_roundw
         case rel=>first | exact⟨rd+1,M',by omega,by go_num,HZ.u,HSn.u,HC2.u,HBr.u⟩ | ((repeat apply Exists.intro);exact⟨⟨rd+1,M',by omega,by go_num,HZ.u,HSn.u,HC2.u,HBr.u⟩,rfl⟩)
         case measure=>simp[intOf];omega
  . obtain rfl:rd=m.F.length:=by omega
    have hlt':¬ (m.F.length:Int)<(m.F.length:Int):=(by omega);have HX:=h_ (qi2 HSn.u HCn.u);have HBw:Hi (Below w.heap.size w wr):=h_ (HB.u.trans (HBr.u.mono (by omega)));go_wp2_with fail;go_ret
    first | exact⟨G,M,rfl,by omega,HZ.u,HX.u,HBw.u⟩ | exact⟨G,rfl,by omega,M,HZ.u,HX.u,HBw.u⟩ | exact⟨G,rfl,by omega,⟨M,HZ.u,HX.u⟩,HBw.u⟩
structure Que (w:World)(base g off cap:Nat)(xs:List Nat):Prop where
 lo:base<=g
 room:xs.length<=cap
 blk:∃cs,Blk w g 3 cs/\off+cap<=cs.length/\∀j (h:j<xs.length),cs[off+j]? = some (J6 (xs[j]:Nat))
theorem Que.lt {w:World}{base g off cap:Nat}{xs:List Nat}(h:Que w base g off cap xs):g<w.heap.size:=by
 obtain⟨cs,hb,-⟩:=h.blk
 exact hb.lt
theorem Que.cell {w:World}{base g off cap:Nat}{xs:List Nat}(h:Que w base g off cap xs){j:Nat}(hj:j<xs.length):w.cell? ⟨g,off+j,none⟩=some (J6 (xs[j]:Nat)):=by
 obtain⟨cs,hb,-,hx⟩:=h.blk
 exact(hb.cell _).trans (hx j hj)
theorem Que.mono {w w':World}{B base g off cap:Nat}{xs:List Nat}(h:Que w base g off cap xs)(hb:Below B w w')(hg:g<B):Que w' base g off cap xs:=by
 obtain⟨cs,hk,hx⟩:=h.blk
 exact⟨h.lo,h.room,cs,hk.mono hb hg,hx⟩
theorem Que.other {w:World}{base g off cap:Nat}{xs:List Nat}(h:Que w base g off cap xs){a:Addr}(v:Value)(ha:g≠a.block):Que (w.setCell a v) base g off cap xs:=by
 obtain⟨cs,hk,hx⟩:=h.blk
 exact⟨h.lo,h.room,cs,hk.other v ha,hx⟩
theorem Que.new (w:World)(k:Nat){base:Nat}(h:base<=w.heap.size):Que (w.alloc (.cells #[J6 (k:Nat)] 3)) base w.heap.size 0 1 [k]:=by
 refine⟨h,nR _,_,Blk.new w 3 #[J6 (k:Nat)],nR _,fun j hj=>?_⟩
 obtain rfl:j=0:=by simp at hj;omega
 rfl
theorem Que.tail {w:World}{base g off cap x:Nat}{xs:List Nat}(h:Que w base g off cap (x :: xs)):∃off',(if cap=1 then some (⟨g,off,none⟩:Addr) else some ⟨g,off+1,none⟩)=some ⟨g,off',none⟩/\Que w base g off' (cap - 1) xs:=by
 obtain⟨cs,hk,hl,hx⟩:=h.blk
 have hc:=h.room
 simp only[Yl]at hc
 by_cases e:cap=1
 . subst e
   obtain rfl:xs=[]:=O5 (by omega);exact⟨off,by simp,h.lo,by simp,cs,hk,by omega,fun j hj=>absurd hj (by simp)⟩
 . refine⟨off+1,by rw[Yn e],h.lo,by omega,cs,hk,by omega,fun j hj=>?_⟩
   have:=hx (j+1) (by simp;omega);rw[Nat.add_assoc,Vv 1 j];simpa using this
theorem Que.push {w:World}{base g off cap x:Nat}{xs:List Nat}(h:Que w base g off cap xs)(hr:xs.length+1<=cap):Que (w.setCell ⟨g,off+xs.length,none⟩ (J6 (x:Nat))) base g off cap (xs++[x]):=by
 obtain⟨cs,hk,hl,hx⟩:=h.blk
 refine⟨h.lo,by simp;omega,_,hk.set _ _,by simp;omega,fun j hj=>?_⟩
 simp only[Yd,Yl,Yt]at hj
 by_cases e:j=xs.length
 . subst e
   rw[Ov (by omega)];simp
 . rw[O8 (by omega),hx j (by omega),List.getElem_append_left (by omega)]
theorem Que.olds {w:World}{base g off cap:Nat}{xs:List Nat}(h:Que w base g off cap xs):∀j u,(ui xs)[j]? = some u->w.cell? ⟨g,off+j,none⟩=some u:=fun j u hu=>by
 unfold ui at hu
 rw[Zg]at hu
 by_cases hj:j<xs.length
 . rw[Yc hj]at hu
   rw[h.cell hj];exact hu
 . rw[Vb (by omega)]at hu
   cases hu
theorem Que.spare {w:World}{base g off cap:Nat}{xs:List Nat}(h:Que w base g off cap xs){news:List Value}(hn:news.length=1):xs.length+1<=cap->∀j,j<news.length->(w.cell? ⟨g,off+xs.length*1+j,none⟩).isSome=true/\w.frozen? ⟨g,off+xs.length*1+j,none⟩=false:=fun hr j hj=>by
 obtain⟨cs,hk,hl,-⟩:=h.blk
 refine⟨?_,hk.free _⟩
 rw[hk.cell,Yc (by omega)]
 rfl
theorem Que.made {w:World}{base b n x:Nat}{v:Value}{xs:List Nat}(ho:w.ownsRow b 3 1 v n (ui xs++[J6 (x:Nat)]))(hb:base<=b):∃g cap,v=.slice (some ⟨g,0,none⟩) (xs++[x]).length cap/\b<=g/\Que w base g 0 cap (xs++[x]):=by
 have hn:n=xs.length+1:=by have:=ho.1;simp[ui]at this;omega
 rcases ho.2 with ⟨-,e⟩ | ⟨g,cap,cur,rfl,hbg,hg,hnc,-,hcs,ht⟩
 . omega
 . refine⟨g,cap,by simp[hn],hbg,by omega,by simp;omega,cur.toList,?_,by simp;omega,fun j hj=>?_⟩
   . exact hg
   . have e:(cur.toList.take (n*1))[j]? = (ui xs++[Value.int .i64 (x:Nat)])[j]?:=by rw[ht]
     rw[On (by simp at hj;omega)]at e;rw[Y7,e];have e2:ui xs++[Value.int .i64 (x:Nat)]=ui (xs++[x]):=(by simp[ui]);rw[e2];unfold ui;rw[Zg,Yc hj];rfl
def isT:Option Value->Bool
 | some (.bool true)=>true
 | _=>false
def cntW (n S:Nat)(w:World):Nat:=cntB (fun i=>isT (w.cell? ⟨S,i,none⟩)) n
theorem qkg {n S:Nat}{M:Nat->Bool}{w:World}{t:TypeId}(h:Blk w S t (ms n M)):cntW n S w=cntB M n:=by
 unfold cntW
 refine q88 fun i hi=>?_
 rw[(h.cell i).trans (ms_at M hi)]
 cases M i <;> rfl
def lenS:Value->Nat
 | .slice _ n _=>n
 | _=>0
theorem qh8 {m:Fm}(hv:VfA m){j i:Nat}(hj:j<m.F.length)(hi:i<m.F.length):i∈fedT m m.F.length j ↔ fedB m j i=true:=by
 rw[<- qh7 hv hj hi,<- List.count_pos_iff,q8l,Yv hi,List.count_pos_iff]
structure Srch (m:Fm)(k:Nat)(M:Nat->Bool)(xs:List Nat):Prop where
 snd:Snd m k M
 few:xs.length<=cntB M m.F.length+1
 que:∀x,x∈xs->x<m.F.length/\(x=k∨M x=true)
 cls:∀j,j<m.F.length->j ∉ xs->Cls m k M j
structure SrchP (m:Fm)(k j p:Nat)(M:Nat->Bool)(xs:List Nat):Prop where
 snd:Snd m k M
 few:xs.length<=cntB M m.F.length
 que:∀x,x∈xs->x<m.F.length/\(x=k∨M x=true)
 cls:∀i,i<m.F.length->i≠j->i ∉ xs->Cls m k M i
 led:∀q (h:q<(fedT m m.F.length j).length),q<p->M (fedT m m.F.length j)[q]=true
 jk:j<m.F.length/\(j=k∨Rch m k j)
theorem qal {m:Fm}{k:Nat}(hk:k<m.F.length):Srch m k (fun _=>false) [k]:=by
 refine⟨(fun i h=>by cases h),by simp,fun x hx=>?_,fun j _ hjk=>?_⟩
 . obtain rfl:x=k:=by simpa using hx
   exact⟨hk,.inl rfl⟩
 . rintro (e | e)
   . exact absurd (by simp[e]) hjk
   . cases e
theorem qen {m:Fm}{k j:Nat}{M:Nat->Bool}{xs:List Nat}(h:Srch m k M (j :: xs)):SrchP m k j 0 M xs:=by
 have hj:=h.que j (by simp)
 refine⟨h.snd,by have:=h.few;simp at this;omega,fun x hx=>h.que x (by simp[hx]),fun i hi hne hx=>h.cls i hi (by simp[hne,hx]),fun q _ hq=>absurd hq (nL _),hj.1,?_⟩
 rcases hj.2 with e | e
 . exact .inl e
 . exact .inr (h.snd j e)
theorem qem {m:Fm}{k j p:Nat}{M:Nat->Bool}{xs:List Nat}(h:SrchP m k j p M xs)(hp:p<(fedT m m.F.length j).length)(hm:M (fedT m m.F.length j)[p]=true):SrchP m k j (p+1) M xs:=by
 refine⟨h.snd,h.few,h.que,h.cls,fun q hq hqp=>?_,h.jk⟩
 by_cases e:q=p
 . subst e;exact hm
 . exact h.led q hq (by omega)
theorem qel {m:Fm}(hv:VfA m){k j p x:Nat}{M:Nat->Bool}{xs:List Nat}(h:SrchP m k j p M xs)(hp:p<(fedT m m.F.length j).length)(hx:(fedT m m.F.length j)[p]=x)(hm:M x=false):SrchP m k j (p+1) (up M x true) (xs++[x])/\cntB (up M x true) m.F.length=cntB M m.F.length+1:=by
 have hxn:x<m.F.length:=by rw[<- hx];exact qkz m _ j _ (Ye hp)
 have hfx:fedB m j x=true:=(qh8 hv h.jk.1 hxn).1 (by rw[<- hx];exact Ye hp)
 have hc:=qkd hxn hm
 have up1:∀{i},M i=true->up M x true i=true:=fun {i} hi=>by
  by_cases e:i=x
  . subst e;rw[up_at]
  . rw[up_ne _ _ e];exact hi
 refine⟨⟨h.snd.up (qi4 h.jk.2 hxn hfx),by rw[hc];have:=h.few;simp;omega,fun y hy=>?_,fun i hi hne hy=>?_,fun q hq hqp=>?_,h.jk⟩,hc⟩
 . rcases Ze.1 hy with hy | hy
   . exact⟨(h.que y hy).1,(h.que y hy).2.imp id up1⟩
   . obtain rfl:y=x:=by simpa using hy
     exact⟨hxn,.inr (up_at _ _ _)⟩
 . rintro hk i' hi' hf
   have hyx:i≠x:=fun e=>hy (by simp[e]);refine up1 (h.cls i hi hne (fun e=>hy (by simp[e])) ?_ i' hi' hf);rcases hk with e | e
   . exact .inl e
   . rw[up_ne _ _ hyx]at e;exact .inr e
 . by_cases e:q=p
   . subst e;rw[hx];exact up_at _ _ _
   . exact up1 (h.led q hq (by omega))
theorem qak {m:Fm}(hv:VfA m){k j:Nat}{M:Nat->Bool}{xs:List Nat}(h:SrchP m k j (fedT m m.F.length j).length M xs):Srch m k M xs:=by
 refine⟨h.snd,by have:=h.few;omega,h.que,fun i hi hx=>?_⟩
 by_cases e:i=j
 . subst e
   intro _ i' hi' hf;obtain⟨q,hq,e⟩:=List.getElem_of_mem ((qh8 hv hi hi').2 hf);rw[<- e];exact h.led q hq hq
 . exact h.cls i hi e hx
theorem qis {m:Fm}{k:Nat}{M:Nat->Bool}(hk:k<m.F.length)(h:Srch m k M []):M k=true ↔ Rch m k k:=qa9 hk h.snd (fun j hj=>h.cls j hj (by simp)) k hk
theorem q2t (m:Fm)(F k base:Nat)(V:Nat->Value)(w:World)(hv:VfA m)(hk:k<m.F.length)(hH:HoldF w F m.F.length V)(hFm:Fam w base m.F.length V (fedT m m.F.length))(hLl:∀j,(fedT m m.F.length j).length<=400000) :
 Calls Tryz.prog 119 #[.slice (some ⟨F,0,none⟩) m.F.length m.F.length,J6 k] w fun r w'=>∃bb:Bool,r=.returned (.bool bb)/\(bb=true ↔ Rch m k k)/\Below w.heap.size w w':=by
 have HH:=h_ hH;have HFm:=h_ hFm;have HLl:=h_ hLl;have HV:=h_ hv
 have hn:=hv.nf
 obtain⟨i0,hi,hz0,hz1,hz2⟩:=info_parts q8v
 obtain⟨i1,hj,hy0,hy1,hy2⟩:=info_parts infoI
 have hbn:i0.bytes*m.F.length<=281474976710656:=by rw[hz2];omega
 have hFw:F<w.heap.size:=hH.lt
 have HSt:=h_ (qal hk)
 clear hH hFm hLl hv
 go_enter Tryz.func119,Tryz.ntmps119
 go_wp2_with (at_make;refine wpList_make_full _ rfl (.tmp 11) (.tmp 11) 103 rfl w.heap.size 4 i0 _ 1 Tryz.underlying103 hi hz0 hz1 .i64 .i64 _ _ m.F.length rfl rfl rfl rfl hbn (by unfold maxLen;omega) (nR _) ?_)
 intro w1 hown hgrow
 obtain⟨S,hS⟩:=Nq w.heap.size
 have hb1:Below S w w1:=by rw[<- hS];exact(bR _ _).grown hgrow (nR _) (fun k e=>by cases e)
 rw[hS]at hown hFw
 try rw[hS]
 have hZ:=qmn hown
 have hs1:S<w1.heap.size:=hZ.lt
 have HQ:=h_ (Que.new w1 k (base:=S+1) hs1)
 have hba:=(bR w1.heap.size w1).alloc (nR _) (.cells #[J6 (k:Nat)] 3)
 have HB1:=h_ (hb1.trans (hba.mono (by omega)))
 have HZ:=h_ (hZ.mono hba hs1)
 obtain⟨W1,hW1⟩:=Nq (w1.alloc (.cells #[J6 (k:Nat)] 3))
 rw[hW1]at HQ HB1 HZ
 clear hown hgrow hb1 hbn hi hz0 hz1 hz2 hba hZ
 go_wp2_with fail
 try rw[hW1]
 go_loopw [6] (fun q wr=>∃(g off cap:Nat) (xs:List Nat) (M:Nat->Bool),q=.slice (some ⟨g,off,none⟩) xs.length cap/\Que wr (S+1) g off cap xs/\Blk wr S 4 (ms m.F.length M)/\Srch m k M xs/\Below S w wr) (fun q wr=>2*(m.F.length - cntW m.F.length S wr)+lenS q)
 case atStart=>exact⟨_,0,1,[k],_,rfl,HQ.u,HZ.u,HSt.u,HB1.u⟩
 case round =>
  clear HQ HZ HSt HB1 hW1 hs1;obtain⟨g,off,cap,xs,M,rfl,hq,hz,hsr,hb⟩:=hrel;have HQ:=h_ hq;have HZ:=h_ hz;have HSr:=h_ hsr;have HB:=h_ hb;have hcw:=qkg hz;have hgl:=hq.lt;have hgS:=hq.lo;cases xs with
  | nil =>
   have zk:=(hz.cell k).trans (ms_at M hk);have HE:=h_ (qis hk hsr);have hk':(k:Int)<m.F.length:=by omega
   clear hq hz hsr hb hcw hgl hgS;simp only[Yt];generalize M k=bb at *;go_wp2_with fail;go_ret;have HB2:Hi (Below w.heap.size w wr):=h_ (by rw[hS];exact HB.u)
   first | exact⟨bb,rfl,HE.u,HB2.u⟩ | exact⟨HE.u,HB.u⟩ | exact⟨HE.u,HB2.u⟩
  | cons x ys =>
   have hxn:=(hsr.que x (by simp)).1;have hxn':(x:Int)<m.F.length:=by omega
   have zq:=hq.cell (j:=0) (by simp);simp only[Zn,Vu]at zq;have hfew:=hsr.few;have hcl:=qkb M m.F.length;obtain⟨off',hoff,hq'⟩:=hq.tail;have hcap:1<=cap:=by have:=hq.room;simp at this;omega
   have hsl:∀wx,(Instr.slice 77 (.slice (some ⟨g,off,none⟩) (ys.length+1) cap) (some (J6 1)) none none).run Tryz.prog wx=.ok (.slice (some ⟨g,off',none⟩) ys.length (cap - 1)) wx:=fun wx=>by
    rw[run_slice_l wx 77 _ _ _ Tryz.underlying77 .i64 1 (by omega) (by omega)];have he:Tryz.prog.elem 77=3:=(by kernel_rfl);rw[he];rw[<- hoff];simp[sizeOf,typeInfo,hj,hy1,sliced,Addr.add]
   have HQ2:=h_ hq';have HT:=h_ hoff;clear hq' hoff;have HP:=h_ (qen hsr);have zF:=(hb.cell (p:=⟨F,x,none⟩) hFw).trans (HoldF.at HH.u hxn);have hlen0:(0:Int)<((ys.length+1:Nat):Int):=by omega
   have hlen1:(1:Int)<=((ys.length+1:Nat):Int):=by omega
   simp only[Yl]at hfew⊢;have hoj:=HFm.u.own x hxn;obtain⟨a,c,e,-⟩:=own_at hoj;rw[e]at zF hoj;have HOj:=h_ hoj;clear hq hz hsr hb e hoj;go_wp2_with fail;have hll:=HLl.u x;have HSk:Hi (∀l,fedT m m.F.length x=l->∀(p:Nat) M ys,SrchP m k x p M ys->∀(h:p<l.length),M l[p]=true->SrchP m k x (p+1) M ys):=h_ fun l e p M ys hP h hm=>by subst e;exact qem hP h hm
   have HPu:Hi (∀l,fedT m m.F.length x=l->∀(p:Nat) M ys,SrchP m k x p M ys->∀(h:p<l.length),M l[p]=false->SrchP m k x (p+1) (up M l[p] true) (ys++[l[p]])/\cntB (up M l[p] true) m.F.length=cntB M m.F.length+1):=h_ fun l e p M ys hP h hm=>by subst e;exact qel HV.u hP h rfl hm
   have HRo:Hi (∀l,fedT m m.F.length x=l->∀M ys,SrchP m k x l.length M ys->Srch m k M ys):=h_ fun l e M ys hP=>by subst e;exact qak HV.u hP
   have HLn:Hi (∀l,fedT m m.F.length x=l->∀i,i∈l->i<m.F.length):=h_ fun l e i hi=>by subst e;exact qkz m _ x i hi
   obtain⟨l,hl⟩:=Nq (fedT m m.F.length x);rw[hl]at HOj hll zF;replace HSk:=h_ (HSk.u l hl);replace HPu:=h_ (HPu.u l hl);replace HRo:=h_ (HRo.u l hl);replace HLn:=h_ (HLn.u l hl);clear hsl HT HQ HSr;have hcnt:cntB M m.F.length=cntB M m.F.length:=rfl;obtain⟨C0,hC0⟩:=Nq (cntB M m.F.length)
   try rw[hl]
   clear hl hcnt;go_wp2_with fail;clear zq zF;go_loopw [6,28] (fun q iv w3=>∃(p g off cap:Nat) (zs:List Nat) (M:Nat->Bool),p<=l.length/\iv=J6 p/\q=.slice (some ⟨g,off,none⟩) zs.length cap/\Que w3 (S+1) g off cap zs/\Blk w3 S 4 (ms m.F.length M)/\SrchP m k x p M zs/\C0<=cntB M m.F.length/\zs.length+C0=ys.length+cntB M m.F.length/\Below S w w3) (fun _ iv _=>l.length - (intOf iv).toNat)
   case atStart=>exact⟨0,g,off',cap - 1,ys,M,nZ _,rfl,rfl,HQ2.u,HZ.u,HP.u,by omega,by omega,HB.u⟩
   case round =>
    clear HQ2 HZ HP HB hgl hgS hfew hcl hcap hlen0 hlen1;obtain⟨p,g,off,cap,zs,M,hp,rfl,rfl,hq,hz,hP,hc0,hc1,hb⟩:=hrel;have HQ:=h_ hq;have HZ:=h_ hz;have HP:=h_ hP;have HB:=h_ hb;have hgl:=hq.lt;have hgS:=hq.lo;have hfew:=hP.few;have hcl:=qkb M m.F.length;by_cases hpl:p<l.length
    . have hpl':(p:Int)<l.length:=by omega
      obtain⟨g2,rfl,hg2,-,zc⟩:=qhn (qdw HOj.u (show Below w.heap.size w wr by rw[hS];exact hb)) p hpl;have hin:l[p]<m.F.length:=HLn.u _ (Ye hpl);have hin':((l[p]:Nat):Int)<m.F.length:=(by omega);have zx:=(hz.cell l[p]).trans (ms_at M hin);have fx:=hz.free l[p];have HS1:=h_ (HSk.u p M zs hP hpl);have HU1:=h_ (HPu.u p M zs hP hpl);clear hq hz hP hb;generalize l[p]=i at *;cases hm:M i
      . obtain⟨hP2,hc2⟩:=HU1.u hm
        have HP2:=h_ hP2;rw[hm]at zx;clear hm hP2 HS1 HU1;have HZ2:=h_ (HZ.u.set i (.bool true));rw[ms_set]at HZ2;have HB2:=h_ (HB.u.setCell (p:=⟨S,i,none⟩) (nR S) (.bool true));have HQ2:=h_ (HQ.u.other (a:=⟨S,i,none⟩) (.bool true) (by show g≠S;omega));have hsz:(wr.setCell ⟨S,i,none⟩ (.bool true)).heap.size=wr.heap.size:=(by simp);obtain⟨Wa,hWa⟩:=Nq (wr.setCell ⟨S,i,none⟩ (.bool true));rw[hWa]at HZ2 HB2 HQ2 hsz;have hba:=(bR Wa.heap.size Wa).alloc (nR _) (.cells #[J6 (i:Nat)] 3);replace HZ2:=mB HZ2 hba;replace HB2:=h_ (HB2.u.trans (hba.mono (by omega)));replace HQ2:=h_ (HQ2.u.mono hba HQ2.u.lt);have HN:=h_ (cell_one_new Wa (J6 (i:Nat)) 3);obtain⟨Wb,hWb⟩:=Nq (Wa.alloc (.cells #[J6 (i:Nat)] 3));rw[hWb]at HZ2 HB2 HQ2 HN;have hsb:Wb.heap.size=wr.heap.size+1:=(by rw[<- hWb];simp;omega);clear hba;go_wp2_with (at_builtin;refine wpList_append_arg _ rfl _ _ 77 rfl 3 i1 _ 1 8 Tryz.underlying77 hj hy0 hy1 hy2 rfl (by decide) g off zs.length cap (ui zs) rfl (by simp[ui]) ?olds ⟨wr.heap.size,0,none⟩ 1 1 [J6 (i:Nat)] rfl rfl ?c1 ?c2 ?spare (by unfold maxLen;omega) (by omega) ?room ?grow)
        case olds=>(try rw[hWa]);(try rw[hWb]);exact HQ2.u.olds
        case c1 =>
         try rw[hWa]
         try rw[hWb]
         have h:=HN.u;rw[hsz]at h;exact h
        case c2=>simp[Value.oneCell']
        case spare=>(try rw[hWa]);(try rw[hWb]);exact HQ2.u.spare rfl
        case room =>
         intro hr
         try rw[hWa]
         try rw[hWb]
         have HQ3:=h_ (HQ2.u.push (x:=i) hr);have HZ3:=h_ (HZ2.u.other (a:=⟨g,off+zs.length,none⟩) (J6 (i:Nat)) (by show S≠g;omega));have HB3:=h_ (HB2.u.setCell (p:=⟨g,off+zs.length,none⟩) (by show S<=g;omega) (J6 (i:Nat)));have hW3:Wb.setCells g (off+zs.length) [J6 (i:Nat)]=Wb.setCell ⟨g,off+zs.length,none⟩ (J6 (i:Nat)):=rfl
         try rw[Nat.mul_one]
         rw[hW3];clear hW3 hr;have hlz:zs.length+1=(zs++[i]).length:=(by simp);rw[hlz];clear zx fx zc;go_wp2_with fail;go_roundw
         case rel=>first | exact⟨p+1,g,off,cap,zs++[i],_,by omega,by go_num,rfl,HQ3.u,HZ3.u,HP2.u,by omega,by simp;omega,HB3.u⟩ | ((repeat apply Exists.intro);exact⟨⟨p+1,g,off,cap,zs++[i],_,by omega,by go_num,rfl,HQ3.u,HZ3.u,HP2.u,by omega,by simp;omega,HB3.u⟩,rfl⟩)
         case measure=>simp[intOf];omega
        case grow =>
         intro hr v' w' hown hgrow
         try rw[hWa]at hown hgrow
         try rw[hWb]at hown hgrow
         obtain⟨g',cap',e,hg',hq'⟩:=Que.made (base:=S+1) hown (by omega);have HQ3:=h_ hq';have HZ3:=h_ (HZ2.u.grown hgrow (fun e=>by cases e));have HB3:=h_ (HB2.u.grown hgrow (by omega) (fun q e=>by cases e));subst e;clear hq' hown hgrow hr zx fx zc;go_wp2_with fail;go_roundw
         case rel=>first | exact⟨p+1,g',0,cap',zs++[i],_,by omega,by go_num,rfl,HQ3.u,HZ3.u,HP2.u,by omega,by simp;omega,HB3.u⟩ | ((repeat apply Exists.intro);exact⟨⟨p+1,g',0,cap',zs++[i],_,by omega,by go_num,rfl,HQ3.u,HZ3.u,HP2.u,by omega,by simp;omega,HB3.u⟩,rfl⟩)
         case measure=>simp[intOf];omega
      . have HP3:=h_ (HS1.u hm)
        rw[hm]at zx;clear hm;go_wp2_with fail;go_roundw
        case rel=>first | exact⟨p+1,g,off,cap,zs,M,by omega,by go_num,rfl,HQ.u,HZ.u,HP3.u,hc0,hc1,HB.u⟩ | ((repeat apply Exists.intro);exact⟨⟨p+1,g,off,cap,zs,M,by omega,by go_num,rfl,HQ.u,HZ.u,HP3.u,hc0,hc1,HB.u⟩,rfl⟩)
        case measure=>simp[intOf];omega
    . obtain rfl:p=l.length:=by omega
      have hpl':¬ (l.length:Int)<(l.length:Int):=(by omega);have HR:=h_ (HRo.u M zs hP);have hcw2:=qkg hz;clear hq hz hP hb;go_wp2_with fail;go_roundw
      case rel=>first | exact⟨g,off,cap,zs,M,rfl,HQ.u,HZ.u,HR.u,HB.u⟩ | ((repeat apply Exists.intro);exact⟨⟨g,off,cap,zs,M,rfl,HQ.u,HZ.u,HR.u,HB.u⟩,rfl⟩)
      case measure=>simp[lenS];rw[hcw2,hcw];omega
def Fst (p:Nat->Prop)(n:Nat)(z:Int):Prop:=(z = -1/\∀k,k<n->¬ p k)∨∃k:Nat,k<n/\z=k/\p k/\∀j,j<k->¬ p j
theorem Fst.one {p:Nat->Prop}{n:Nat}{z z':Int}(h:Fst p n z)(h':Fst p n z'):z=z':=by
 rcases h with ⟨e,h⟩ | ⟨k,hk,e,h1,h2⟩ <;> rcases h' with ⟨e',h'⟩ | ⟨k',hk',e',h1',h2'⟩
 . rw[e,e']
 . exact absurd h1' (h k' hk')
 . exact absurd h1 (h' k hk)
 . have:k=k':=by
    rcases Nat.lt_trichotomy k k' with x | x | x
    . exact absurd h1 (h2' k x)
    . exact x
    . exact absurd h1' (h2 k' x)
   rw[e,e',this]
theorem Fst.iff {p q:Nat->Prop}{n:Nat}{z:Int}(h:Fst p n z)(hpq:∀k,k<n->(p k ↔ q k)):Fst q n z:=by
 rcases h with ⟨e,h⟩ | ⟨k,hk,e,h1,h2⟩
 . exact .inl ⟨e,fun k hk hq=>h k hk ((hpq k hk).2 hq)⟩
 . exact .inr ⟨k,hk,e,(hpq k hk).1 h1,fun j hj hq=>h2 j hj ((hpq j (by omega)).2 hq)⟩
theorem Fst.bounds {p:Nat->Prop}{n:Nat}{z:Int}(h:Fst p n z):-1<=z/\z<n:=by
 rcases h with ⟨e,h⟩ | ⟨k,hk,e,h1,h2⟩ <;> omega
theorem qdn (m:Fm)(i:Nat):∀x,x∈ordL m i->(∀k,k<m.F.length->Rch m k x->k∈ordL m i)/\¬ Rch m x x:=by
 induction i with
 | zero=>intro x hx;simp[ordL]at hx
 | succ i ih =>
  cases hn:nxt m (ordL m i) with
  | none=>rw[qdo hn];exact ih
  | some y =>
   rw[qdp hn];have hy:=qhl hn;have hyn:y ∉ ordL m i:=by
    have h:=q9y m (i+1);rw[qdp hn]at h;intro hin;exact(List.nodup_append.1 h).2.2 y hin y (by simp) rfl
   have key:∀k,k<m.F.length->Rch m k y->k∈ordL m i:=fun k hk hr=>by
    obtain⟨j,hj,hjn,-,h⟩:=(qi3 hk hn).1 hr;rcases h with rfl | h
    . exact hj
    . exact(ih j hj).1 k hk h
   intro x hx;rcases Ze.1 hx with hx | hx
   . exact⟨fun k hk hr=>Vf _ ((ih x hx).1 k hk hr),(ih x hx).2⟩
   . obtain rfl:x=y:=by simpa using hx
     exact⟨fun k hk hr=>Vf _ (key k hk hr),fun hr=>hyn (key x hy.1 hr)⟩
theorem qhg {m:Fm}(h:(ordL m m.F.length).length=m.F.length):∀k,k<m.F.length->¬ Rch m k k:=fun k hk hr=>by
 have hin:k∈ordL m m.F.length:=Classical.byContradiction fun hni=>by
  have h':=pigeon m.F.length ((k :: ordL m m.F.length).map fun k=>((k:Nat):Int)) ?_ ?_
  . simp at h';omega
  . exact List.Pairwise.map _ (fun a b h e=>h (by omega)) (Ot.2 ⟨hni,q9y m _⟩)
  . intro x hx
    obtain⟨y,hy,rfl⟩:=Y3.1 hx;rcases Zp.1 hy with rfl | hy
    . omega
    . have:=qmt m _ y hy;omega
 exact(qdn m _ k hin).2 hr
theorem q2p (m:Fm)(A:MA)(w:World)(hn:m.F.length<=200)(hf:FitM m)(ha:MSl w m A) :
 Calls Tryz.prog 66 #[mV m A] w fun r w'=>∃z,r=.returned (J6 z)/\Fst (fun k=>Rch m k k) m.F.length z/\Below w.heap.size w w':=by
 have HCr:=h_ fun W k (hk:k<m.F.length) (hs:MSl W m A)=>q6h m A k W hk hn hf hs
 obtain⟨al,alc,ap,apc,ar,arc,af,afc,afa⟩:=A
 unfold mV at HCr⊢
 dsimp only at HCr⊢
 have HK:=h_ (Blk.new w 36 (Jb al m alc ap apc ar arc af afc))
 have HB:=h_ ((bR w.heap.size w).alloc (nR _) (.cells (Jb al m alc ap apc ar arc af afc) 36))
 obtain⟨W0,hW0⟩:=Nq (w.alloc (.cells (Jb al m alc ap apc ar arc af afc) 36))
 have hs0:W0.heap.size=w.heap.size+1:=by rw[<- hW0];simp
 rw[hW0]at HK HB
 have HS:=h_ (ha.mono HB.u)
 clear ha hf
 go_enter Tryz.func66,Tryz.ntmps66
 go_wp2_with fail
 try rw[hW0]
 go_loopw [3] (fun v wr=>∃k:Nat,k<=m.F.length/\v=J6 k/\(∀j,j<k->¬ Rch m j j)/\Below W0.heap.size W0 wr) (fun v _=>m.F.length - (intOf v).toNat)
 case atStart=>exact⟨0,nZ _,rfl,(fun j h=>absurd h (nL _)),bR _ _⟩
 case round =>
  obtain⟨k,hk,rfl,hno,hb⟩:=hrel;have HN:=h_ hno;have HBr:=mT HB hb;have HBz:=h_ hb;have HKr:=mB HK hb;have HSr:=h_ (HS.u.mono hb);have hzr:W0.heap.size<=wr.heap.size:=hb.size;clear hno hb hW0;obtain⟨y0,y1,y2,y3⟩:=quad HKr.u;by_cases hlt:k<m.F.length
  . have hlt':(k:Int)<m.F.length:=by omega
    have HC2:=h_ (HCr.u wr k hlt HSr.u);go_wp2_with fail;refine HC2.u.mono ?_;rintro r W2 ⟨G,M,rfl,hG,hM,hMr,hb2⟩;have zk:=(hM.cell k).trans (ms_at M hlt);have hkk:=hMr k hlt;have HB2:=mT HBr hb2;have HBz2:=mT HBz hb2;clear hM hMr hb2 HC2 y0 y1 y2 y3;cases hmk:M k
    . have HN2:Hi (∀j,j<k+1->¬ Rch m j j):=h_ fun j hj=>by
       by_cases e:j=k
       . subst e;exact fun h=>by have:=hkk.2 h;rw[hmk]at this;cases this
       . exact HN.u j (by omega)
      rw[hmk]at zk;clear hmk hkk;go_wp2_with fail;go_roundw
      case rel=>first | exact⟨k+1,by omega,by go_num,HN2.u,HBz2.u⟩ | ((repeat apply Exists.intro);exact⟨⟨k+1,by omega,by go_num,HN2.u,HBz2.u⟩,rfl⟩)
      case measure=>simp[intOf];omega
    . have HF:Hi (Fst (fun k=>Rch m k k) m.F.length (k:Int)):=h_ (.inr ⟨k,hlt,rfl,hkk.1 hmk,HN.u⟩)
      rw[hmk]at zk;clear hmk hkk;go_wp2_with fail;go_ret
      first | exact⟨_,rfl,HF.u,HB2.u⟩ | exact⟨HF.u,HB2.u⟩
  . obtain rfl:k=m.F.length:=by omega
    have hlt':¬ (m.F.length:Int)<(m.F.length:Int):=(by omega);have HF:Hi (Fst (fun k=>Rch m k k) m.F.length (-1)):=h_ (.inl ⟨rfl,HN.u⟩);go_wp2_with fail;go_ret
    first | exact⟨_,rfl,HF.u,HBr.u⟩ | exact⟨HF.u,HBr.u⟩
theorem q0n (m:Fm)(A:MA)(b:Nat)(w:World)(hv:VfA m)(hf:FitM m)(ha:MSl w m A)(hm:PMap w b (fNames m)) :
 Calls Tryz.prog 81 #[wV m A b] w fun r w'=>∃z,r=.returned (J6 z)/\Fst (fun k=>Rch m k k) m.F.length z/\Below w.heap.size w w':=by
 have HCh:=h_ fun W (hs:MSl W m A) (hp:PMap W b (fNames m))=>q3r m A b W hv hf hs hp
 have HCf:=h_ fun W (hs:MSl W m A) (hp:PMap W b (fNames m))=>ql0 m A b W hv hf hs hp
 have HCl:=h_ fun W F k base V (hk:k<m.F.length) (hH:HoldF W F m.F.length V) (hF:Fam W base m.F.length V (fedT m m.F.length))=>q2t m F k base V W hv hk hH hF (fun j=>by have h1:=qg5 hv j m.F.length (nR _);have h2:=hv.nf;omega)
 have HNo:=h_ fun h=>qhg (m:=m) h
 have hol:=qms m m.F.length
 have hnf:=hv.nf
 obtain⟨al,alc,ap,apc,ar,arc,af,afc,afa⟩:=A
 unfold wV at HCh HCf⊢
 dsimp only at HCh HCf⊢
 have HK:=h_ (Blk.new w 102 #[.slice al m.L.length alc,.slice ap m.P.length apc,.slice ar m.R.length arc,.slice af m.F.length afc,.map (some b)])
 have HB:=h_ ((bR w.heap.size w).alloc (nR _) (.cells #[.slice al m.L.length alc,.slice ap m.P.length apc,.slice ar m.R.length arc,.slice af m.F.length afc,.map (some b)] 102))
 obtain⟨W0,hW0⟩:=Nq (w.alloc (.cells #[.slice al m.L.length alc,.slice ap m.P.length apc,.slice ar m.R.length arc,.slice af m.F.length afc,.map (some b)] 102))
 rw[hW0]at HK HB
 have HS:=h_ (ha.mono HB.u);have HM:=h_ (hm.mono HB.u)
 clear ha hm hv hf
 obtain⟨y0,y1,y2,y3,y4⟩:=five HK.u
 go_enter Tryz.func81,Tryz.ntmps81
 go_wp2_with fail
 try rw[hW0]
 refine(HCh.u W0 HS.u HM.u).mono ?_
 rintro r W1 ⟨rfl,hb⟩
 replace HS:=h_ (HS.u.mono hb);replace HM:=h_ (HM.u.mono hb);replace HK:=mB HK hb;replace HB:=mT HB hb
 clear hb hW0 y0 y1 y2 y3 y4
 obtain⟨y0,y1,y2,y3,y4⟩:=five HK.u
 cases hc:decide ((ordL m m.F.length).length<m.F.length)
 . have HF:Hi (Fst (fun k=>Rch m k k) m.F.length (-1)):=h_ (.inl ⟨rfl,HNo.u (by have:=of_decide_eq_false hc;omega)⟩)
   clear hc;go_wp2_with fail;go_ret
   first | exact⟨_,rfl,HF.u,HB.u⟩ | exact⟨HF.u,HB.u⟩
 . clear hc hol
   go_wp2_with fail;refine(HCf.u W1 HS.u HM.u).mono ?_;rintro r W2 ⟨F,V,rfl,hF,hH,hFm,hb⟩;have HH:=h_ hH;have HFm:=h_ hFm;replace HB:=mT HB hb;clear hb y0 y1 y2 y3 y4 hH hFm hF;go_wp2_with fail;go_loopw [12] (fun v wr=>∃k:Nat,k<=m.F.length/\v=J6 k/\(∀j,j<k->¬ Rch m j j)/\Below W2.heap.size W2 wr) (fun v _=>m.F.length - (intOf v).toNat)
   case atStart=>exact⟨0,nZ _,rfl,(fun j h=>absurd h (nL _)),bR _ _⟩
   case round =>
    obtain⟨k,hk,rfl,hno,hb⟩:=hrel;have HN:=h_ hno;have HBr:=mT HB hb;have HBz:=h_ hb;have HHr:Hi (HoldF wr F m.F.length V):=h_ (Blk.mono HH.u hb (Blk.lt HH.u));have HFr:=h_ (HFm.u.mono hb);clear hno hb;by_cases hlt:k<m.F.length
    . have hlt':(k:Int)<m.F.length:=by omega
      have HC2:=h_ (HCl.u wr F k _ V hlt HHr.u HFr.u);go_wp2_with fail;refine HC2.u.mono ?_;rintro r W3 ⟨bb,rfl,hbb,hb2⟩;have HB2:=mT HBr hb2;have HBz2:=mT HBz hb2;clear hb2 HC2;cases bb
      . have HN2:Hi (∀j,j<k+1->¬ Rch m j j):=h_ fun j hj=>by
         by_cases e:j=k
         . subst e;exact fun h=>by have:=hbb.2 h;cases this
         . exact HN.u j (by omega)
        clear hbb;go_wp2_with fail;go_roundw
        case rel=>first | exact⟨k+1,by omega,by go_num,HN2.u,HBz2.u⟩ | ((repeat apply Exists.intro);exact⟨⟨k+1,by omega,by go_num,HN2.u,HBz2.u⟩,rfl⟩)
        case measure=>simp[intOf];omega
      . have HF:Hi (Fst (fun k=>Rch m k k) m.F.length (k:Int)):=h_ (.inr ⟨k,hlt,rfl,hbb.1 rfl,HN.u⟩)
        clear hbb;go_wp2_with fail;go_ret
        first | exact⟨_,rfl,HF.u,HB2.u⟩ | exact⟨HF.u,HB2.u⟩
    . obtain rfl:k=m.F.length:=by omega
      have hlt':¬ (m.F.length:Int)<(m.F.length:Int):=(by omega);have HF:Hi (Fst (fun k=>Rch m k k) m.F.length (-1)):=h_ (.inl ⟨rfl,HN.u⟩);go_wp2_with fail;go_ret
      first | exact⟨_,rfl,HF.u,HBr.u⟩ | exact⟨HF.u,HBr.u⟩
end Go.Proofs.YtgojgjlninakjaaGreatDoor
