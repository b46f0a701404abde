import Derived.Test.YtgkcaeidhkddjaaGreatDoorXGA
set_option maxRecDepth 100000
set_option maxHeartbeats 20000000
namespace Go.Proofs.YtgkcaeidhkddjaaGreatDoor
open Go Go.RowKit
theorem q1z (t:Int) (w:World):Calls Tryz.prog 129 #[.int .i64 t] w fun r w'=>r=.returned (.string ⟨(tyName t).toArray⟩)/\w'=w:=by
 by_cases h1:t=1
 . subst h1
   go_enter Tryz.func129,Tryz.ntmps129
   go_wp2
   go_ret
   exact ⟨rfl,rfl⟩
 by_cases h2:t=2
 . subst h2
   go_enter Tryz.func129,Tryz.ntmps129
   go_wp2
   go_ret
   exact ⟨rfl,rfl⟩
 . rw [show tyName t=[116,101,120,116] by unfold tyName;rw [if_neg h1,if_neg h2]]
   have h1':(t == 1)=false:=beq_eq_false_iff_ne.2 h1
   have h2':(t == 2)=false:=beq_eq_false_iff_ne.2 h2
   clear h1 h2
   go_enter Tryz.func129,Tryz.ntmps129
   go_wp2
   go_ret
   exact ⟨rfl,rfl⟩
theorem q14 (word:ByteArray) (a:Option Addr) (c:Nat) (l:List Nx) (w:World) (hw:word.size<=5) (hr:ruleOk l=true) (ha:NodL w a l) (hf:∀ k,k<l.length->Fit (nf l k)) :
 Calls Tryz.prog 130 #[.string word,.slice a l.length c] w fun r w'=>r=.returned (.string ⟨(tRule word.data.toList l).toArray⟩)/\Below w.heap.size w w':=by
 by_cases h0:l.length=0
 . have h0':((l.length:Int) == 0)=true:=by simp [h0]
   rw [show tRule word.data.toList l=[] by unfold tRule;rw [if_pos h0]]
   clear h0 hr ha hf
   go_enter Tryz.func130,Tryz.ntmps130
   go_wp2_with fail
   go_ret
   exact ⟨rfl,bR _ _⟩
 . have h0':((l.length:Int) == 0)=false:=beq_eq_false_iff_ne.2 (by omega)
   have hv:vxL l=true:=by simp only [ruleOk,Bool.or_eq_true,decide_eq_true_eq] at hr;exact hr.resolve_left h0
   obtain ⟨v1,v2,v3,v4,-,-,v7⟩:=(ql2 _ _).1 hv
   have HC:=h_ (q5j a l.length c (nf l) v2 l.length l.length (nR _) v1 (nR _) w ⟨ha,v4,v3,hf⟩)
   have HT:Hid ((⟨(tRule word.data.toList l).toArray⟩:ByteArray)=⟨#[32]⟩++word++⟨#[32]⟩++(top (nf l) l.length).t):=h_ (by
    refine q9f ?_
    unfold tRule
    rw [if_neg h0]
    simp [sb,txL,ByteArray.data_append])
   generalize (⟨(tRule word.data.toList l).toArray⟩:ByteArray)=T at *
   generalize (top (nf l) l.length).t=q at *
   clear hr ha hf hv v1 v2 v3 v4 h0
   go_enter Tryz.func130,Tryz.ntmps130
   go_wp2_with fail
   refine (u_ HC).mono ?_
   rintro r w2 ⟨rfl,hb⟩
   have HB:=h_ hb
   clear hb HC
   have hA:((⟨#[32]⟩:ByteArray)++word).size=1+word.size:=by rw [ByteArray.size_append];rfl
   have hA2:((⟨#[32]⟩:ByteArray)++word++⟨#[32]⟩).size=1+word.size+1:=by rw [ByteArray.size_append,hA];rfl
   go_wp2_with fail
   go_ret
   exact ⟨qka (u_ HT).symm,u_ HB⟩
theorem qab {n:Nat} {l:List Int} {k:Nat} (h:k<l.length) (hg:inR n l[k]=false):bysOk n l=false:=by
 unfold bysOk
 rw [show l.all (inR n)=false from List.all_eq_false.2 ⟨l[k],List.getElem_mem h,by simp [hg]⟩]
 rfl
theorem q4u {n:Nat} {l:List Int} {k j:Nat} (h:k<l.length) (hj:j<k) (he:l[k]=l[j]):bysOk n l=false:=by
 unfold bysOk
 rw [decide_eq_false (fun hn=>?_),Bool.and_false]
 have:=List.pairwise_iff_getElem.1 hn j k (by omega) h hj
 exact this he.symm
theorem qad {n:Nat} {l:List Int} (h1:∀ k (h:k<l.length),inR n l[k]=true) (h2:∀ k (h:k<l.length) j (hj:j<k),l[k] ≠ l[j]):bysOk n l=true:=by
 unfold bysOk
 rw [Bool.and_eq_true,List.all_eq_true,decide_eq_true_eq]
 refine ⟨fun x hx=>?_,List.pairwise_iff_getElem.2 fun i j hi hj hij he=>h2 j hj i hij he.symm⟩
 obtain ⟨k,hk,rfl⟩:=List.mem_iff_getElem.1 hx
 exact h1 k hk
theorem q7r (nl nr:Nat) (f:Fl):fieldOk nl nr f=(decide (1<=f.ty/\f.ty<=3)&&decide (-1<=f.lb/\f.lb<nl)&&bysOk nr f.bys&&decide (f.is.length=0 ∨ f.bys.length=0)&&okText f.sy&&decide (f.va.length ≠ 0 ∨ f.sy.size=0)&&ruleOk f.is&&ruleOk f.wh&&ruleOk f.va&&ruleOk f.mu):=rfl
theorem q0q (f:Fl) (A:FA) (m:Fm) (M:MA) (w:World) (hf:FitF f) (ha:FSl w f A) :
 Calls Tryz.prog 99 #[fV f A,mV m M] w fun r w'=>r=.returned (.bool (fieldOk m.L.length m.R.length f))/\Below w.heap.size w w':=by
 obtain ⟨ab,abc,ai,aic,ah,ahc,av,avc,au,auc⟩:=A
 obtain ⟨al,alc,ap,apc,ar,arc,af,afc,afa⟩:=M
 unfold fV mV
 dsimp only
 have hfo:=q7r m.L.length m.R.length f
 have HK:=h_ ((Blk.new w 94 #[.string f.nm,.int .i64 f.ty,.int .i64 f.lb,.slice ab f.bys.length abc,.slice ai f.is.length aic,.slice ah f.wh.length ahc,.slice av f.va.length avc,.string f.sy,.slice au f.mu.length auc]).alloc (.cells #[.slice al m.L.length alc,.slice ap m.P.length apc,.slice ar m.R.length arc,.slice af m.F.length afc] 36))
 have HR:=h_ (Blk.new (w.alloc (.cells #[.string f.nm,.int .i64 f.ty,.int .i64 f.lb,.slice ab f.bys.length abc,.slice ai f.is.length aic,.slice ah f.wh.length ahc,.slice av f.va.length avc,.string f.sy,.slice au f.mu.length auc] 94)) 36 #[.slice al m.L.length alc,.slice ap m.P.length apc,.slice ar m.R.length arc,.slice af m.F.length afc])
 rw [World.size_alloc] at HR
 have HB:=h_ (((bR w.heap.size w).alloc (nR _) (.cells #[.string f.nm,.int .i64 f.ty,.int .i64 f.lb,.slice ab f.bys.length abc,.slice ai f.is.length aic,.slice ah f.wh.length ahc,.slice av f.va.length avc,.string f.sy,.slice au f.mu.length auc] 94)).alloc (by simp) (.cells #[.slice al m.L.length alc,.slice ap m.P.length apc,.slice ar m.R.length arc,.slice af m.F.length afc] 36))
 obtain ⟨W0,hW0⟩:∃ W0,(w.alloc (.cells #[.string f.nm,.int .i64 f.ty,.int .i64 f.lb,.slice ab f.bys.length abc,.slice ai f.is.length aic,.slice ah f.wh.length ahc,.slice av f.va.length avc,.string f.sy,.slice au f.mu.length auc] 94)).alloc (.cells #[.slice al m.L.length alc,.slice ap m.P.length apc,.slice ar m.R.length arc,.slice af m.F.length afc] 36)=W0:=⟨_,rfl⟩
 rw [hW0] at HK HR HB
 have HS:=h_ (ha.mono (u_ HB));have HF:=h_ hf
 obtain ⟨nl,hnl⟩:∃ nl,m.L.length=nl:=⟨_,rfl⟩
 obtain ⟨nr,hnr⟩:∃ nr,m.R.length=nr:=⟨_,rfl⟩
 rw [hnl] at hfo HR hW0 ⊢;rw [hnr] at hfo HR hW0 ⊢
 clear hnl hnr ha hf
 obtain ⟨y0,y1,y2,y3,y4,y5,y6,y7,y8⟩:=nine (u_ HK)
 obtain ⟨z0,z1,z2,z3⟩:=quad (u_ HR)
 by_cases h1:f.ty<1
 . rw [show fieldOk nl nr f=false by rw [hfo,decide_eq_false (by omega)];rfl]
   go_enter Tryz.func99,Tryz.ntmps99
   go_wp2_with fail
   go_ret
   exact ⟨rfl,u_ HB⟩
 by_cases h2:3<f.ty
 . rw [show fieldOk nl nr f=false by rw [hfo,decide_eq_false (by omega)];rfl]
   go_enter Tryz.func99,Tryz.ntmps99
   go_wp2_with fail
   go_ret
   exact ⟨rfl,u_ HB⟩
 by_cases h3:f.lb < -1
 . rw [show fieldOk nl nr f=false by rw [hfo,decide_eq_false (show ¬ (-1<=f.lb/\f.lb<nl) by omega),Bool.and_false];rfl]
   go_enter Tryz.func99,Tryz.ntmps99
   go_wp2_with fail
   go_ret
   exact ⟨rfl,u_ HB⟩
 by_cases h4:(nl:Int)<=f.lb
 . rw [show fieldOk nl nr f=false by rw [hfo,decide_eq_false (show ¬ (-1<=f.lb/\f.lb<nl) by omega),Bool.and_false];rfl]
   go_enter Tryz.func99,Tryz.ntmps99
   go_wp2_with fail
   go_ret
   exact ⟨rfl,u_ HB⟩
 rw [decide_eq_true (show 1<=f.ty/\f.ty<=3 by omega),decide_eq_true (show -1<=f.lb/\f.lb<nl by omega),Bool.true_and,Bool.true_and] at hfo
 obtain ⟨q,hq⟩:∃ q,fieldOk nl nr f=q:=⟨_,rfl⟩
 rw [hq] at hfo ⊢
 have HQ:=h_ hfo
 have hbl:=(u_ HF).bl
 have HSb:Hid (∀ k (h:k<f.bys.length),∃ b o,ab=some ⟨b,o,none⟩/\b<W0.heap.size/\W0.cell? ⟨b,o+k,none⟩=some (.int .i64 f.bys[k])):=h_ fun k h=>by
  obtain ⟨b,o,e,hlt,hc⟩:=(u_ HS).b k h
  refine ⟨b,o,e,hlt,?_⟩
  rw [hc]
  show some (Value.int .i64 (f.bys.getD k 0))=_
  rw [List.getD_eq_getElem?_getD,List.getElem?_eq_getElem h];rfl
 clear hq hfo
 go_enter Tryz.func99,Tryz.ntmps99
 go_wp2_with fail
 try rw [hW0]
 clear hW0 y0 y1 y2 y3 y4 y5 y6 y7 y8 z0 z1 z2 z3
 go_loopw [5,6] (fun i _ wr=>∃ k:Nat,k<=f.bys.length/\i=.int .i64 k/\(∀ j (h:j<f.bys.length),j<k->inR nr f.bys[j]=true/\∀ i (hi:i<j),f.bys[j] ≠ f.bys[i])/\Below W0.heap.size W0 wr) (fun i _ _=>f.bys.length - (intOf i).toNat)
 case atStart=>exact ⟨0,nZ _,rfl,fun j _ hj=>absurd hj (nL _),bR _ _⟩
 case round =>
  obtain ⟨k,hk,rfl,hall,hb⟩:=hrel
  have HL:=h_ hall;have HB1:=h_ hb;have HKr:=mB HK hb;have HRr:=mB HR hb
  obtain ⟨y0,y1,y2,y3,y4,y5,y6,y7,y8⟩:=nine (u_ HKr)
  obtain ⟨z0,z1,z2,z3⟩:=quad (u_ HRr)
  clear hall hb
  by_cases hlt:k<f.bys.length
  . have hlt':(k:Int)<f.bys.length:=by omega
    obtain ⟨b,o,rfl,hbl2,hc⟩:=u_ HSb k hlt
    have c0:=((u_ HB1).cell (p:=⟨b,o+k,none⟩) hbl2).trans hc
    have HX:Hid (inR nr f.bys[k]=false->q=false):=h_ fun h=>by rw [u_ HQ,qab hlt h];rfl
    have HT:Hid (∀ j (hj:j<k),f.bys[k]=f.bys[j]->q=false):=h_ fun j hj h=>by rw [u_ HQ,q4u hlt hj h];rfl
    have HD:Hid (Below W0.heap.size W0 wr.drew):=h_ (u_ HB1).drew
    have hinr:inR nr f.bys[k]=decide (0<=f.bys[k]/\f.bys[k]<nr):=rfl
    clear hc
    obtain ⟨x,hx⟩:∃ x,f.bys[k]=x:=⟨_,rfl⟩
    by_cases hn:x<0
    . have HX2:Hid (q=false):=h_ (u_ HX (by rw [hinr,hx,decide_eq_false (by omega)]))
      rw [hx] at c0
      go_wp2_with fail
      refine wp_region_held_drew (S:=fun w'=>w'.cell? ⟨w.heap.size,3,none⟩=some (.slice (some ⟨b,o,none⟩) f.bys.length abc)/\w'.cell? ⟨b,o+k,none⟩=some (.int .i64 x)/\w'.cell? ⟨w.heap.size+1,2,none⟩=some (.slice ar nr arc)) (by kernel_rfl) ⟨y3,c0,z2⟩ (fun zz=>?_)
      refine tk 0 35 (.pointer (some ⟨w.heap.size,3,none⟩)) zz ?_
      refine tk 1 36 (.slice (some ⟨b,o,none⟩) f.bys.length abc) zz ?_
      refine tk 2 37 (.int .i64 k) zz ?_
      refine tk 3 38 (.pointer (some ⟨b,o+k,none⟩)) zz ?_
      simp only [sX,sY,sZ]
      refine tk 4 39 (.int .i64 x) zz ?_
      refine tk 5 40 (.bool true) zz ?_
      refine tk 6 41 (.bool true) zz ?_
      refine tn 7 42 zz ?_
      simp only [sX,sY,sZ]
      refine tn 8 43 zz ?_
      refine tn 9 44 zz ?_
      refine tn 10 45 zz ?_
      refine tn 11 46 zz ?_
      simp only [sX,sY,sZ]
      refine tn 12 47 zz ?_
      refine tn 13 48 zz ?_
      refine tn 14 49 zz ?_
      refine tn 15 50 zz ?_
      simp only [sX,sY,sZ]
      refine tk 16 51 (.bool true) zz ?_
      simp only [sX,sY,sZ]
      refine wpAnyH_done (by kernel_rfl) ?_ _
      clear zz
      go_wp2_with fail
      go_ret
      exact ⟨qfz (u_ HX2).symm,(u_ HB).trans ((u_ HD).mono (u_ HB).size)⟩
    by_cases hg:(nr:Int)<=x
    . have HX2:Hid (q=false):=h_ (u_ HX (by rw [hinr,hx,decide_eq_false (by omega)]))
      rw [hx] at c0
      go_wp2_with fail
      refine wp_region_held_drew (S:=fun w'=>w'.cell? ⟨w.heap.size,3,none⟩=some (.slice (some ⟨b,o,none⟩) f.bys.length abc)/\w'.cell? ⟨b,o+k,none⟩=some (.int .i64 x)/\w'.cell? ⟨w.heap.size+1,2,none⟩=some (.slice ar nr arc)) (by kernel_rfl) ⟨y3,c0,z2⟩ (fun zz=>?_)
      refine tk 0 35 (.pointer (some ⟨w.heap.size,3,none⟩)) zz ?_
      refine tk 1 36 (.slice (some ⟨b,o,none⟩) f.bys.length abc) zz ?_
      refine tk 2 37 (.int .i64 k) zz ?_
      refine tk 3 38 (.pointer (some ⟨b,o+k,none⟩)) zz ?_
      simp only [sX,sY,sZ]
      refine tk 4 39 (.int .i64 x) zz ?_
      refine tk 5 40 (.bool false) zz ?_
      refine tk 6 41 (.bool false) zz ?_
      refine tk 7 42 (.pointer (some ⟨w.heap.size,3,none⟩)) zz ?_
      simp only [sX,sY,sZ]
      refine tk 8 43 (.slice (some ⟨b,o,none⟩) f.bys.length abc) zz ?_
      refine tk 9 44 (.int .i64 k) zz ?_
      refine tk 10 45 (.pointer (some ⟨b,o+k,none⟩)) zz ?_
      refine tk 11 46 (.int .i64 x) zz ?_
      simp only [sX,sY,sZ]
      refine tk 12 47 (.pointer (some ⟨(w.heap.size+1),2,none⟩)) zz ?_
      refine tk 13 48 (.slice ar nr arc) zz ?_
      refine tk 14 49 (.int .i64 nr) zz ?_
      refine tk 15 50 (.bool true) zz ?_
      simp only [sX,sY,sZ]
      refine tk 16 51 (.bool true) zz ?_
      simp only [sX,sY,sZ]
      refine wpAnyH_done (by kernel_rfl) ?_ _
      clear zz
      go_wp2_with fail
      go_ret
      exact ⟨qfz (u_ HX2).symm,(u_ HB).trans ((u_ HD).mono (u_ HB).size)⟩
    have HI:Hid (inR nr f.bys[k]=true):=h_ (by rw [hinr,hx,decide_eq_true (by omega)])
    have HC0:=h_ c0
    rw [hx] at c0
    go_wp2_with fail
    refine wp_region_held_drew (S:=fun w'=>w'.cell? ⟨w.heap.size,3,none⟩=some (.slice (some ⟨b,o,none⟩) f.bys.length abc)/\w'.cell? ⟨b,o+k,none⟩=some (.int .i64 x)/\w'.cell? ⟨w.heap.size+1,2,none⟩=some (.slice ar nr arc)) (by kernel_rfl) ⟨y3,c0,z2⟩ (fun zz=>?_)
    refine tk 0 35 (.pointer (some ⟨w.heap.size,3,none⟩)) zz ?_
    refine tk 1 36 (.slice (some ⟨b,o,none⟩) f.bys.length abc) zz ?_
    refine tk 2 37 (.int .i64 k) zz ?_
    refine tk 3 38 (.pointer (some ⟨b,o+k,none⟩)) zz ?_
    simp only [sX,sY,sZ]
    refine tk 4 39 (.int .i64 x) zz ?_
    refine tk 5 40 (.bool false) zz ?_
    refine tk 6 41 (.bool false) zz ?_
    refine tk 7 42 (.pointer (some ⟨w.heap.size,3,none⟩)) zz ?_
    simp only [sX,sY,sZ]
    refine tk 8 43 (.slice (some ⟨b,o,none⟩) f.bys.length abc) zz ?_
    refine tk 9 44 (.int .i64 k) zz ?_
    refine tk 10 45 (.pointer (some ⟨b,o+k,none⟩)) zz ?_
    refine tk 11 46 (.int .i64 x) zz ?_
    simp only [sX,sY,sZ]
    refine tk 12 47 (.pointer (some ⟨(w.heap.size+1),2,none⟩)) zz ?_
    refine tk 13 48 (.slice ar nr arc) zz ?_
    refine tk 14 49 (.int .i64 nr) zz ?_
    refine tk 15 50 (.bool false) zz ?_
    simp only [sX,sY,sZ]
    refine tk 16 51 (.bool false) zz ?_
    simp only [sX,sY,sZ]
    refine wpAnyH_done (by kernel_rfl) ?_ _
    clear zz
    clear y0 y1 y2 y3 y4 y5 y6 y7 y8 z0 z1 z2 z3 c0 HB1 HKr HRr
    go_wp2_with fail
    go_loopw [6] (fun jv w3=>∃ j:Nat,j<=k/\jv=.int .i64 j/\(∀ i (hi:i<k),i<j->f.bys[k] ≠ f.bys[i])/\Below W0.heap.size W0 w3) (fun jv _=>k - (intOf jv).toNat)
    case atStart=>exact ⟨0,nZ _,rfl,fun i _ hj=>absurd hj (nL _),u_ HD⟩
    case round =>
     obtain ⟨j,hj,rfl,hin,hb⟩:=hrel
     have HIN:=h_ hin;have HB1:=h_ hb;have HKr:=mB HK hb
     obtain ⟨y0,y1,y2,y3,y4,y5,y6,y7,y8⟩:=nine (u_ HKr)
     clear hin hb
     by_cases hjk:j<k
     . have hjk':(j:Int)<k:=by omega
       have hjl:(j:Int)<f.bys.length:=by omega
       obtain ⟨b2,o2,e2,hl2,hc1⟩:=u_ HSb j (by omega)
       cases e2
       obtain ⟨b3,o3,e3,hl3,hc3⟩:=u_ HSb k hlt
       cases e3
       have c1:=((u_ HB1).cell (p:=⟨b,o+j,none⟩) hl2).trans hc1
       have c0:=((u_ HB1).cell (p:=⟨b,o+k,none⟩) hl3).trans hc3
       have HX2:Hid (f.bys[k]=f.bys[j]->q=false):=h_ fun h=>u_ HT j hjk h
       have HN:Hid (f.bys[k] ≠ f.bys[j]->∀ i (hi:i<k),i<j+1->f.bys[k] ≠ f.bys[i]):=h_ fun h i hi hij=>by
        by_cases ei:i=j
        . subst ei;exact h
        . exact u_ HIN i hi (by omega)
       have HD2:Hid (Below W0.heap.size W0 wr.drew):=h_ (u_ HB1).drew
       clear hc1 hc3
       obtain ⟨u,hu⟩:∃ u,f.bys[j]=u:=⟨_,rfl⟩
       rw [hx] at c0;rw [hu] at c1
       by_cases hxu:x=u
       . have HX3:Hid (q=false):=h_ (u_ HX2 (by rw [hx,hu,hxu]))
         have hxu':(x == u)=true:=by simp [hxu]
         clear hxu HX2 HN
         go_wp2_with fail
         refine wp_region_held_drew (S:=fun w'=>w'.cell? ⟨w.heap.size,3,none⟩=some (.slice (some ⟨b,o,none⟩) f.bys.length abc)/\w'.cell? ⟨b,o+k,none⟩=some (.int .i64 x)/\w'.cell? ⟨b,o+j,none⟩=some (.int .i64 u)) (by kernel_rfl) ⟨y3,c0,c1⟩ (fun zz=>?_)
         refine tk 0 57 (.pointer (some ⟨w.heap.size,3,none⟩)) zz ?_
         refine tk 1 58 (.slice (some ⟨b,o,none⟩) f.bys.length abc) zz ?_
         refine tk 2 59 (.int .i64 k) zz ?_
         refine tk 3 60 (.pointer (some ⟨b,o+k,none⟩)) zz ?_
         simp only [sX,sY,sZ]
         refine tk 4 61 (.int .i64 x) zz ?_
         refine tk 5 62 (.pointer (some ⟨w.heap.size,3,none⟩)) zz ?_
         refine tk 6 63 (.slice (some ⟨b,o,none⟩) f.bys.length abc) zz ?_
         refine tk 7 64 (.int .i64 j) zz ?_
         simp only [sX,sY,sZ]
         refine tk 8 65 (.pointer (some ⟨b,o+j,none⟩)) zz ?_
         refine tk 9 66 (.int .i64 u) zz ?_
         refine tk 10 67 (.bool true) zz ?_
         simp only [sX,sY,sZ]
         refine wpAnyH_done (by kernel_rfl) ?_ _
         clear zz
         go_wp2_with fail
         go_ret
         exact ⟨qfz (u_ HX3).symm,(u_ HB).trans ((u_ HD2).mono (u_ HB).size)⟩
       . have HN2:=h_ (u_ HN (by rw [hx,hu];exact hxu))
         have hxu':(x == u)=false:=beq_eq_false_iff_ne.2 hxu
         clear hxu HX2 HN
         go_wp2_with fail
         refine wp_region_held_drew (S:=fun w'=>w'.cell? ⟨w.heap.size,3,none⟩=some (.slice (some ⟨b,o,none⟩) f.bys.length abc)/\w'.cell? ⟨b,o+k,none⟩=some (.int .i64 x)/\w'.cell? ⟨b,o+j,none⟩=some (.int .i64 u)) (by kernel_rfl) ⟨y3,c0,c1⟩ (fun zz=>?_)
         refine tk 0 57 (.pointer (some ⟨w.heap.size,3,none⟩)) zz ?_
         refine tk 1 58 (.slice (some ⟨b,o,none⟩) f.bys.length abc) zz ?_
         refine tk 2 59 (.int .i64 k) zz ?_
         refine tk 3 60 (.pointer (some ⟨b,o+k,none⟩)) zz ?_
         simp only [sX,sY,sZ]
         refine tk 4 61 (.int .i64 x) zz ?_
         refine tk 5 62 (.pointer (some ⟨w.heap.size,3,none⟩)) zz ?_
         refine tk 6 63 (.slice (some ⟨b,o,none⟩) f.bys.length abc) zz ?_
         refine tk 7 64 (.int .i64 j) zz ?_
         simp only [sX,sY,sZ]
         refine tk 8 65 (.pointer (some ⟨b,o+j,none⟩)) zz ?_
         refine tk 9 66 (.int .i64 u) zz ?_
         refine tk 10 67 (.bool false) zz ?_
         simp only [sX,sY,sZ]
         refine wpAnyH_done (by kernel_rfl) ?_ _
         clear zz
         go_wp2_with fail
         go_roundw
         case rel=>exact ⟨j+1,by omega,by go_num,u_ HN2,u_ HD2⟩
         case measure=>simp [intOf];omega
     . obtain rfl:j=k:=by omega
       have hjk':¬ (j:Int)<(j:Int):=by omega
       have HN:Hid (∀ i (h:i<f.bys.length),i<j+1->inR nr f.bys[i]=true/\∀ m (hm:m<i),f.bys[i] ≠ f.bys[m]):=h_ fun i h hi=>by
        by_cases ei:i=j
        . subst ei;exact ⟨u_ HI,fun m hm=>u_ HIN m hm hm⟩
        . exact u_ HL i h (by omega)
       go_wp2_with fail
       go_roundw
       case rel=>first | exact ⟨j+1,by omega,by go_num,u_ HN,u_ HB1⟩ | ((repeat apply Exists.intro);exact ⟨⟨j+1,by omega,by go_num,u_ HN,u_ HB1⟩,rfl⟩)
       case measure=>simp [intOf];omega
  . have hlt':¬ (k:Int)<f.bys.length:=by omega
    have hbo:bysOk nr f.bys=true:=qad (fun i h=>(u_ HL i h (by omega)).1) (fun i h j hj=>(u_ HL i h (by omega)).2 j hj)
    have HQ2:=h_ (u_ HQ)
    rw [hbo,Bool.true_and] at HQ2
    have HSr:=h_ ((u_ HS).mono (u_ HB1))
    have HBw:=h_ ((u_ HB).trans ((u_ HB1).mono (u_ HB).size))
    have hil:=(u_ HF).il;have hvl:=(u_ HF).vl
    clear HQ hbo HL HSb HS
    by_cases hi:0<f.is.length/\0<f.bys.length
    . have hi1:(0:Int)<f.is.length:=by omega
      have hi2:(0:Int)<f.bys.length:=by omega
      have HX:Hid (q=false):=h_ (by rw [u_ HQ2,decide_eq_false (show ¬ (f.is.length=0 ∨ f.bys.length=0) by omega)];rfl)
      clear HQ2 hi
      go_wp2_with fail
      go_ret
      exact ⟨qfz (u_ HX).symm,u_ HBw⟩
    have HQ3:Hid (q=(okText f.sy&&decide (f.va.length ≠ 0 ∨ f.sy.size=0)&&ruleOk f.is&&ruleOk f.wh&&ruleOk f.va&&ruleOk f.mu)):=h_ (by rw [u_ HQ2,decide_eq_true (show f.is.length=0 ∨ f.bys.length=0 by omega),Bool.true_and])
    clear HQ2
    have hsplit:f.is.length=0 ∨ ((0:Int)<f.is.length/\f.bys.length=0):=by omega
    clear hi
    have hsy:=(u_ HF).sy
    rcases hsplit with hz1 | ⟨hz1,hz2⟩
    all_goals
     go_wp2_with fail
     refine (q1r f.sy _ hsy).mono ?_
     rintro e w4 ⟨rfl,hw⟩
     replace hw:=hw.symm;subst hw
     clear hz1
     try clear hz2
     cases hot:okText f.sy
     . have HX:Hid (q=false):=h_ (by rw [u_ HQ3,hot];rfl)
       go_wp2_with fail
       go_ret
       exact ⟨qfz (u_ HX).symm,u_ HBw⟩
     have HQ4:Hid (q=(decide (f.va.length ≠ 0 ∨ f.sy.size=0)&&ruleOk f.is&&ruleOk f.wh&&ruleOk f.va&&ruleOk f.mu)):=h_ (by rw [u_ HQ3,hot,Bool.true_and])
     clear hot
     have hsp:(f.va.length=0/\(0:Int)<f.sy.size) ∨ (f.va.length=0/\f.sy.size=0) ∨ ((f.va.length:Int) == 0)=false:=by
      by_cases hv:f.va.length=0
      . by_cases hs0:f.sy.size=0
        . exact .inr (.inl ⟨hv,hs0⟩)
        . exact .inl ⟨hv,by omega⟩
      . exact .inr (.inr (beq_eq_false_iff_ne.2 (by omega)))
     rcases hsp with ⟨hv1,hv2⟩ | hrest
     . have HX:Hid (q=false):=h_ (by
        rw [u_ HQ4,decide_eq_false (by omega)];rfl)
       go_wp2_with fail
       go_ret
       exact ⟨qfz (u_ HX).symm,u_ HBw⟩
     have HQ5:Hid (q=(ruleOk f.is&&ruleOk f.wh&&ruleOk f.va&&ruleOk f.mu)):=h_ (by
      rw [u_ HQ4,decide_eq_true,Bool.true_and]
      rcases hrest with ⟨h1,h2⟩ | h1
      . omega
      . have:=beq_eq_false_iff_ne.1 h1
        omega)
     clear HQ3 HQ4
     rcases hrest with ⟨hv1,hv2⟩ | hv1
     all_goals
      go_wp2_with fail
      refine (q3y ai aic f.is _ (u_ HF).il (u_ HSr).i (u_ HF).i).mono ?_
      rintro e w5 ⟨rfl,hb⟩
      replace HBw:=mT HBw hb;replace HSr:=h_ ((u_ HSr).mono hb);replace HKr:=mB HKr hb
      clear hb y0 y1 y2 y3 y4 y5 y6 y7 y8
      clear hv1
      try clear hv2
      obtain ⟨y0,y1,y2,y3,y4,y5,y6,y7,y8⟩:=nine (u_ HKr)
      cases hri:ruleOk f.is
      . have HX:Hid (q=false):=h_ (by rw [u_ HQ5,hri];simp)
        go_wp2_with fail
        go_ret
        exact ⟨qfz (u_ HX).symm,u_ HBw⟩
      rw [hri] at HQ5
      go_wp2_with fail
      refine (q3y ah ahc f.wh _ (u_ HF).hl (u_ HSr).h (u_ HF).h).mono ?_
      rintro e w5 ⟨rfl,hb⟩
      replace HBw:=mT HBw hb;replace HSr:=h_ ((u_ HSr).mono hb);replace HKr:=mB HKr hb
      clear hb y0 y1 y2 y3 y4 y5 y6 y7 y8
      obtain ⟨y0,y1,y2,y3,y4,y5,y6,y7,y8⟩:=nine (u_ HKr)
      cases hrh:ruleOk f.wh
      . have HX:Hid (q=false):=h_ (by rw [u_ HQ5,hrh];simp)
        go_wp2_with fail
        go_ret
        exact ⟨qfz (u_ HX).symm,u_ HBw⟩
      rw [hrh] at HQ5
      go_wp2_with fail
      refine (q3y av avc f.va _ (u_ HF).vl (u_ HSr).v (u_ HF).v).mono ?_
      rintro e w5 ⟨rfl,hb⟩
      replace HBw:=mT HBw hb;replace HSr:=h_ ((u_ HSr).mono hb);replace HKr:=mB HKr hb
      clear hb y0 y1 y2 y3 y4 y5 y6 y7 y8
      obtain ⟨y0,y1,y2,y3,y4,y5,y6,y7,y8⟩:=nine (u_ HKr)
      cases hrv:ruleOk f.va
      . have HX:Hid (q=false):=h_ (by rw [u_ HQ5,hrv];simp)
        go_wp2_with fail
        go_ret
        exact ⟨qfz (u_ HX).symm,u_ HBw⟩
      rw [hrv] at HQ5
      go_wp2_with fail
      refine (q3y au auc f.mu _ (u_ HF).ul (u_ HSr).u (u_ HF).u).mono ?_
      rintro e w5 ⟨rfl,hb⟩
      replace HBw:=mT HBw hb
      clear hb y0 y1 y2 y3 y4 y5 y6 y7 y8
      have HX:Hid (q=ruleOk f.mu):=h_ (by rw [u_ HQ5];simp)
      generalize ruleOk f.mu=z at *
      cases z
      all_goals
       go_wp2_with fail
       go_ret
       exact ⟨qfz (u_ HX).symm,u_ HBw⟩
end Go.Proofs.YtgkcaeidhkddjaaGreatDoor
