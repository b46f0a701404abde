import Derived.Test.YtgkcaeidhkddjaaGreatDoorXZMapM
import Derived.Test.YtgkcaeidhkddjaaGreatDoorShelf2
set_option maxRecDepth 100000
set_option maxHeartbeats 20000000
namespace Go.Proofs.YtgkcaeidhkddjaaGreatDoor
open Go Go.RowKit
def PMap (w:World) (b:Nat) (l:List ByteArray):Prop:=w.ownsMap Tryz.prog 9 (plainElem (H:=Unit) Tryz.prog 3) b l.length (mp l)
theorem PMap.mono {w w':World} {b:Nat} {l:List ByteArray} (h:PMap w b l) (hb:Below w.heap.size w w'):PMap w' b l:=by
 have hlt:=World.ownsMap.lt h
 obtain ⟨es,clock,h1,F,hs,hD⟩:=h
 exact ⟨es,clock,(hb.block b hlt).trans h1,F,hs,hD⟩
theorem wf_nat {k:Nat} (h:k<=9223372036854775807):(Lit.int .i64 (k:Int)).wf=true:=by
 unfold Lit.wf
 rw [Bool.and_eq_true,decide_eq_true_eq,decide_eq_true_eq]
 have h1:IntKind.i64.min = -9223372036854775808:=by decide
 have h2:IntKind.i64.max=9223372036854775807:=by decide
 omega
theorem q0y (m:Fm) (A:MA) (w:World) (hf:FitM m) :
 Calls Tryz.prog 163 #[mV m A] w fun r w'=>r=.returned (.bool (decide (m.L.length<=32/\m.P.length<=256/\m.R.length<=64/\m.F.length<=200)))/\Below w.heap.size w w':=by
 obtain ⟨al,alc,ap,apc,ar,arc,af,afc,afa⟩:=A
 unfold mV
 dsimp only
 have HK:=h_ (Blk.new w 36 #[.slice al m.L.length alc,.slice ap m.P.length apc,.slice ar m.R.length arc,.slice af m.F.length afc])
 have HB:=h_ ((bR w.heap.size w).alloc (nR _) (.cells #[.slice al m.L.length alc,.slice ap m.P.length apc,.slice ar m.R.length arc,.slice af m.F.length afc] 36))
 obtain ⟨W0,hW0⟩:∃ W0,w.alloc (.cells #[.slice al m.L.length alc,.slice ap m.P.length apc,.slice ar m.R.length arc,.slice af m.F.length afc] 36)=W0:=⟨_,rfl⟩
 rw [hW0] at HK HB
 obtain ⟨y0,y1,y2,y3⟩:=quad (u_ HK)
 have h1:=hf.ll;have h2:=hf.pl;have h3:=hf.rl;have h4:=hf.fl
 generalize m.L.length=n1 at *
 generalize m.P.length=n2 at *
 generalize m.R.length=n3 at *
 generalize m.F.length=n4 at *
 clear hf
 by_cases g1:(n1:Int)<=32
 . by_cases g2:(n2:Int)<=256
   . by_cases g3:(n3:Int)<=64
     . by_cases g4:(n4:Int)<=200
       . have HX:Hid (decide (n1<=32/\n2<=256/\n3<=64/\n4<=200)=true):=h_ (decide_eq_true (by omega))
         generalize decide (n1<=32/\n2<=256/\n3<=64/\n4<=200)=q at *
         go_enter Tryz.func163,Tryz.ntmps163
         go_wp2_with fail
         go_ret
         exact ⟨qfz (u_ HX).symm,u_ HB⟩
       . have HX:Hid (decide (n1<=32/\n2<=256/\n3<=64/\n4<=200)=false):=h_ (decide_eq_false (by omega))
         generalize decide (n1<=32/\n2<=256/\n3<=64/\n4<=200)=q at *
         go_enter Tryz.func163,Tryz.ntmps163
         go_wp2_with fail
         go_ret
         exact ⟨qfz (u_ HX).symm,u_ HB⟩
     . have HX:Hid (decide (n1<=32/\n2<=256/\n3<=64/\n4<=200)=false):=h_ (decide_eq_false (by omega))
       generalize decide (n1<=32/\n2<=256/\n3<=64/\n4<=200)=q at *
       go_enter Tryz.func163,Tryz.ntmps163
       go_wp2_with fail
       go_ret
       exact ⟨qfz (u_ HX).symm,u_ HB⟩
   . have HX:Hid (decide (n1<=32/\n2<=256/\n3<=64/\n4<=200)=false):=h_ (decide_eq_false (by omega))
     generalize decide (n1<=32/\n2<=256/\n3<=64/\n4<=200)=q at *
     go_enter Tryz.func163,Tryz.ntmps163
     go_wp2_with fail
     go_ret
     exact ⟨qfz (u_ HX).symm,u_ HB⟩
 . have HX:Hid (decide (n1<=32/\n2<=256/\n3<=64/\n4<=200)=false):=h_ (decide_eq_false (by omega))
   generalize decide (n1<=32/\n2<=256/\n3<=64/\n4<=200)=q at *
   go_enter Tryz.func163,Tryz.ntmps163
   go_wp2_with fail
   go_ret
   exact ⟨qfz (u_ HX).symm,u_ HB⟩
theorem q47 (a:Option Addr) (c:Nat) (l:List ByteArray) (w:World) (hl:l.length<=1000000) (hs:∀ x,x ∈ l->x.size<=9223372036854775807) (ha:Strs w a l) :
 Calls Tryz.prog 112 #[.slice a l.length c] w fun r w'=>r=.returned (.map (some w.heap.size))/\PMap w' w.heap.size l/\Below w.heap.size w w':=by
 have HA:=h_ ha;have HS:=h_ hs
 have HM:Hid ((w.alloc (.map #[] 0)).ownsMap Tryz.prog 9 (plainElem (H:=Unit) Tryz.prog 3) w.heap.size 0 (mp (l.take 0))):=h_ (World.ownsMap_made _ _ _ _)
 clear ha hs
 obtain ⟨n,hn⟩:∃ n,l.length=n:=⟨_,rfl⟩
 rw [hn] at hl ⊢
 have HN:=h_ hn
 clear hn
 have hmm:=@run_makeMap Tryz.prog
 go_enter Tryz.func112,Tryz.ntmps112
 go_wp2_with fail
 clear hmm
 go_loopw [9] (fun i wr=>∃ k:Nat,k<=n/\i=.int .i64 k/\wr.ownsMap Tryz.prog 9 (plainElem (H:=Unit) Tryz.prog 3) w.heap.size k (mp (l.take k))/\Below w.heap.size w wr) (fun i _=>n - (intOf i).toNat)
 case atStart=>exact ⟨0,nZ _,rfl,u_ HM,(bR _ _).alloc (nR _) _⟩
 case round =>
  clear HM
  obtain ⟨k,hk,rfl,hown,hb⟩:=hrel
  have HO:=h_ hown;have HB:=h_ hb;have HAr:=h_ ((u_ HA).mono hb)
  clear hown hb
  by_cases hlt:k<n
  . have hlt':(k:Int)<n:=by omega
    have hkl:k<l.length:=by have:=u_ HN;omega
    obtain ⟨b,o,rfl,-,z0⟩:=u_ HAr k hkl
    have HT:Hid (mp (l.take (k+1))=(mp (l.take k)).put (kl l[k]) (.lit (.int .i64 (k:Int)))):=h_ (by
     rw [List.take_succ_eq_append_getElem hkl,qjh,List.length_take,Nat.min_eq_left (by omega)])
    have hkey:keyOf Tryz.prog 9 (.string l[k])=some (kl l[k]):=WideMaps.keyOf_string_mk Tryz.underlying9 (u_ HS _ (List.getElem_mem hkl))
    have HKy:=h_ hkey
    clear hkey
    generalize l[k]=x at *
    go_wp2_with (at_mapUpdate;refine wpList_mapUpdate_own _ rfl _ _ _ 110 rfl 9 3 (Maps.string_keyed Tryz.underlying9) Tryz.underlying110 _ w.heap.size k _ rfl (u_ HO) (by unfold maxLen;omega) _ _ _ rfl rfl (u_ HKy) _ [] (plainElem_int Tryz.underlying3 (wf_nat (by omega))) ?_)
    intro w1 hown1 hgrow1
    have HO1:Hid (w1.ownsMap Tryz.prog 9 (plainElem (H:=Unit) Tryz.prog 3) w.heap.size (k+1) (mp (l.take (k+1)))):=h_ (by rw [u_ HT];exact hown1)
    have HB1:Hid (Below w.heap.size w w1):=h_ ((u_ HB).grown hgrow1 (u_ HB).size (fun j hj=>by cases hj;exact nR _))
    clear hown1 hgrow1
    go_wp2_with fail
    go_roundw
    case rel=>first | exact ⟨k+1,by omega,by go_num,u_ HO1,u_ HB1⟩ | ((repeat apply Exists.intro);exact ⟨⟨k+1,by omega,by go_num,u_ HO1,u_ HB1⟩,rfl⟩)
    case measure=>simp [intOf];omega
  . obtain rfl:k=n:=by omega
    have hlt':¬ (k:Int)<(k:Int):=by omega
    have HO2:Hid (PMap wr w.heap.size l):=h_ (by
     have h:=u_ HO
     have hn:=u_ HN
     rw [List.take_of_length_le (by omega)] at h
     unfold PMap
     rw [hn]
     exact h)
    go_wp2_with fail
    go_ret
    exact ⟨rfl,u_ HO2,u_ HB⟩
theorem q01 (a:Option Addr) (c:Nat) (l:List ByteArray) (w:World) (hl:l.length<=1000000) (hs:∀ x,x ∈ l->x.size<=9223372036854775807) (ha:Strs w a l) :
 Calls Tryz.prog 217 #[.slice a l.length c] w fun r w'=>r=.returned (.bool (decide l.Nodup))/\Below w.heap.size w w':=by
 have HC:=h_ (q47 a c l w hl hs ha)
 have HS:=h_ (qkg l)
 clear ha hs
 obtain ⟨n,hn⟩:∃ n,l.length=n:=⟨_,rfl⟩
 rw [hn] at hl HC HS ⊢
 have HN:=h_ hn
 clear hn
 go_enter Tryz.func217,Tryz.ntmps217
 go_wp2_with fail
 refine (u_ HC).mono ?_
 rintro r W1 ⟨rfl,hm,hb⟩
 have HM:=h_ hm;have HB:=h_ hb
 clear hm hb
 obtain ⟨q,hq⟩:∃ q,Maps.size (mp l)=q:=⟨_,rfl⟩
 have hq1:=(u_ HS).1
 rw [hq] at hq1
 have HQ:Hid (decide l.Nodup=((q:Int) == (n:Int))):=h_ (by
  have h:=(u_ HS).2
  rw [hq] at h
  by_cases e:q=n
  . rw [decide_eq_true (h.1 e),e];simp
  . rw [decide_eq_false (fun c=>e (h.2 c))]
    exact (beq_eq_false_iff_ne.2 (by omega)).symm)
 go_wp2_with (at_len;refine wpList_len_own _ rfl _ 110 rfl 9 3 Tryz.underlying110 _ w.heap.size l.length (mp l) rfl (u_ HM) ?_;rw [hq];clear hq)
 go_ret
 exact ⟨qfz (u_ HQ).symm,u_ HB⟩
theorem q0k (a:Option Addr) (c:Nat) (l:List ByteArray) (w:World) (hl:l.length<=1000000) (hs:∀ x,x ∈ l->x.size<=9223372036854775807) (ha:Strs w a l) :
 Calls Tryz.prog 196 #[.slice a l.length c] w fun r w'=>r=.returned (.bool (namesOk l))/\Below w.heap.size w w':=by
 have HA:=h_ ha;have HS:=h_ hs
 have HE:Hid (namesOk l=(l.all goodN&&decide l.Nodup)):=h_ rfl
 clear ha hs
 obtain ⟨n,hn⟩:∃ n,l.length=n:=⟨_,rfl⟩
 generalize namesOk l=q at *
 have HL:Hid (l.length<=1000000):=h_ hl
 rw [hn] at hl ⊢
 have HN:=h_ hn
 clear hn
 go_enter Tryz.func196,Tryz.ntmps196
 go_wp2_with fail
 go_loopw [7] (fun i wr=>∃ k:Nat,k<=n/\i=.int .i64 k/\(∀ j (h:j<l.length),j<k->goodN l[j]=true)/\Below w.heap.size w wr) (fun i _=>n - (intOf i).toNat)
 case atStart=>exact ⟨0,nZ _,rfl,fun j _ hj=>absurd hj (nL _),bR _ _⟩
 case round =>
  obtain ⟨k,hk,rfl,hall,hb⟩:=hrel
  have HLl:=h_ hall;have HB0:=h_ hb;replace HA:=h_ ((u_ HA).mono hb)
  clear hall hb
  by_cases hlt:k<n
  . have hlt':(k:Int)<n:=by omega
    have hkl:k<l.length:=by have:=u_ HN;omega
    obtain ⟨b,o,rfl,-,z0⟩:=u_ HA k hkl
    have HC:=h_ (q1m l[k] wr (u_ HS _ (List.getElem_mem hkl)))
    have HF:Hid (goodN l[k]=false->q=false):=h_ fun h=>by
     rw [u_ HE,show l.all goodN=false from List.all_eq_false.2 ⟨l[k],List.getElem_mem hkl,by simp [h]⟩]
     rfl
    have HG:Hid (goodN l[k]=true->∀ j (h:j<l.length),j<k+1->goodN l[j]=true):=h_ fun h j hj hjk=>by
     by_cases ej:j=k
     . subst ej;exact h
     . exact u_ HLl j hj (by omega)
    generalize l[k]=x at *
    generalize goodN x=g at *
    cases g
    . have HX:=h_ (u_ HF rfl)
      go_wp2_with fail
      refine (u_ HC).mono ?_
      rintro r w1 ⟨rfl,hw⟩
      replace hw:=hw.symm;subst hw
      go_wp2_with fail
      go_ret
      exact ⟨qfz (u_ HX).symm,u_ HB0⟩
    . have HX:=h_ (u_ HG rfl)
      go_wp2_with fail
      refine (u_ HC).mono ?_
      rintro r w1 ⟨rfl,hw⟩
      replace hw:=hw.symm;subst hw
      go_wp2_with fail
      go_roundw
      case rel=>first | exact ⟨k+1,by omega,by go_num,u_ HX,u_ HB0⟩ | ((repeat apply Exists.intro);exact ⟨⟨k+1,by omega,by go_num,u_ HX,u_ HB0⟩,rfl⟩)
      case measure=>simp [intOf];omega
  . obtain rfl:k=n:=by omega
    have hlt':¬ (k:Int)<(k:Int):=by omega
    have HX:Hid (q=decide l.Nodup):=h_ (by
     rw [u_ HE,show l.all goodN=true from List.all_eq_true.2 fun x hx=>by
      obtain ⟨j,hj,rfl⟩:=List.mem_iff_getElem.1 hx
      exact u_ HLl j hj (by have:=u_ HN;omega)]
     rfl)
    have HC:Hid (Calls Tryz.prog 217 #[.slice a k c] wr fun r w'=>r=.returned (.bool (decide l.Nodup))/\Below wr.heap.size wr w'):=h_ (by
     have h:=q01 a c l wr (u_ HL) (u_ HS) (u_ HA)
     rw [u_ HN] at h
     exact h)
    generalize decide l.Nodup=d at *
    go_wp2_with fail
    refine (u_ HC).mono ?_
    rintro r w1 ⟨rfl,hb⟩
    have HB:=mT HB0 hb
    clear hb
    go_wp2_with fail
    go_ret
    exact ⟨qfz (u_ HX).symm,u_ HB⟩
theorem eqS (a b:ByteArray):(a.toList == b.toList)=decide (a=b):=by
 rw [Bool.eq_iff_iff,decide_eq_true_eq]
 refine ⟨fun h=>?_,fun h=>by rw [h];simp⟩
 have h2:=q6m h
 rw [h2,ByteArray.toList_eq]
theorem q8b (a:Option Addr) (c:Nat) (l:List ByteArray) (s:ByteArray) (w:World) (hl:l.length<=9223372036854775807) (ha:Strs w a l) :
 Calls Tryz.prog 160 #[.slice a l.length c,.string s] w fun r w'=>∃ q:Int,r=.returned (.int .i64 q)/\(q<0 ↔ ¬ s ∈ l)/\w'=w:=by
 have HA:=h_ ha
 clear ha
 go_enter Tryz.func160,Tryz.ntmps160
 go_wp2_with fail
 go_loopw [5] (fun i wr=>∃ k:Nat,k<=l.length/\i=.int .i64 k/\(∀ j (h:j<l.length),j<k->l[j] ≠ s)/\wr=w) (fun i _=>l.length - (intOf i).toNat)
 case atStart=>exact ⟨0,nZ _,rfl,fun j _ hj=>absurd hj (nL _),rfl⟩
 case round =>
  obtain ⟨k,hk,rfl,hall,rfl⟩:=hrel
  have HL:=h_ hall
  clear hall
  by_cases hlt:k<l.length
  . have hlt':(k:Int)<l.length:=by omega
    obtain ⟨b,o,rfl,-,c0⟩:=u_ HA k hlt
    have he:=eqS l[k] s
    by_cases hq:l[k]=s
    . have HX:Hid (((k:Int)<0) ↔ ¬ s ∈ l):=h_ ⟨fun h=>by omega,fun h=>absurd (hq ▸ List.getElem_mem hlt) h⟩
      rw [decide_eq_true hq] at he
      clear hq
      generalize l[k]=t at *
      go_wp2_with fail
      go_ret
      exact ⟨_,rfl,u_ HX,rfl⟩
    . have HN:Hid (∀ j (h:j<l.length),j<k+1->l[j] ≠ s):=h_ fun j h hj=>by
       by_cases ej:j=k
       . subst ej;exact hq
       . exact u_ HL j h (by omega)
      rw [decide_eq_false hq] at he
      clear hq
      generalize l[k]=t at *
      go_wp2_with fail
      go_roundw
      case rel=>exact ⟨k+1,by omega,by go_num,u_ HN,by first | rfl | trivial⟩
      case measure=>simp [intOf];omega
  . have hlt':¬ (k:Int)<l.length:=by omega
    go_wp2_with fail
    go_ret
    exact ⟨_,rfl,⟨fun _ h=>by obtain ⟨j,hj,e⟩:=List.mem_iff_getElem.1 h;exact u_ HL j hj (by omega) e,fun _=>by omega⟩,rfl⟩
theorem qeu {names:List ByteArray} {l:List Nx} {k:Nat} (h:k<l.length) (h1:l[k].op=1) (h2:¬ l[k].nm ∈ names):knows names l=false:=by
 unfold knows
 rw [List.all_eq_false]
 exact ⟨l[k],List.getElem_mem h,by simp [h1,qjb h2]⟩
theorem qbn {names:List ByteArray} {l:List Nx} (h:∀ k (hk:k<l.length),l[k].op=1->l[k].nm ∈ names):knows names l=true:=by
 unfold knows
 rw [List.all_eq_true]
 intro n hn
 obtain ⟨k,hk,rfl⟩:=List.mem_iff_getElem.1 hn
 by_cases h1:l[k].op=1
 . simp [h1,(qf3 _ _).2 (h k hk h1)]
 . simp [h1]
theorem q5h (a b:Option Addr) (c c':Nat) (l:List Nx) (names:List ByteArray) (w:World) (hl:l.length<=9223372036854775807) (hn:names.length<=9223372036854775807) (ha:NodL w a l) (hb:Strs w b names) :
 Calls Tryz.prog 128 #[.slice a l.length c,.slice b names.length c'] w fun r w'=>r=.returned (.bool (knows names l))/\w'=w:=by
 have HA:=h_ ha;have HB:=h_ hb
 clear ha hb
 obtain ⟨q,hq⟩:∃ q,knows names l=q:=⟨_,rfl⟩
 rw [hq]
 have HQ:=h_ hq
 clear hq
 go_enter Tryz.func128,Tryz.ntmps128
 go_wp2_with fail
 go_loopw [5] (fun i wr=>∃ k:Nat,k<=l.length/\i=.int .i64 k/\(∀ j (h:j<l.length),j<k->l[j].op=1->l[j].nm ∈ names)/\wr=w) (fun i _=>l.length - (intOf i).toNat)
 case atStart=>exact ⟨0,nZ _,rfl,fun j _ hj=>absurd hj (nL _),rfl⟩
 case round =>
  obtain ⟨k,hk,rfl,hall,rfl⟩:=hrel
  have HL:=h_ hall
  clear hall
  by_cases hlt:k<l.length
  . have hlt':(k:Int)<l.length:=by omega
    obtain ⟨b1,o1,rfl,-,c0,c1,c2,c3,c4⟩:=u_ HA k hlt
    rw [nf_get l k hlt] at c0 c1 c2 c3 c4
    have HS:Hid ((l[k].op=1->l[k].nm ∈ names)->∀ j (h:j<l.length),j<k+1->l[j].op=1->l[j].nm ∈ names):=h_ fun hh j h hj=>by
     by_cases ej:j=k
     . subst ej;exact hh
     . exact u_ HL j h (by omega)
    have HN:Hid (l[k].op=1->¬ l[k].nm ∈ names->q=false):=h_ fun h1 h2=>by rw [<- u_ HQ];exact qeu hlt h1 h2
    generalize l[k]=u at *
    by_cases h1:u.op=1
    . rw [h1] at c0
      go_wp2_with fail
      refine (q8b b c' names u.nm _ hn (u_ HB)).mono ?_
      rintro r w2 ⟨z,rfl,hz,hw⟩
      replace hw:=hw.symm;subst hw
      by_cases hm:u.nm ∈ names
      . have hz':¬ z<0:=fun h=>(hz.1 h) hm
        have HX:=h_ (u_ HS fun _=>hm)
        clear hz hm
        go_wp2_with fail
        go_roundw
        case rel=>exact ⟨k+1,by omega,by go_num,u_ HX,by first | rfl | trivial⟩
        case measure=>simp [intOf];omega
      . have hz':z<0:=hz.2 hm
        have HX:=h_ (u_ HN h1 hm)
        clear hz hm
        go_wp2_with fail
        go_ret
        exact ⟨qfz (u_ HX).symm,rfl⟩
    . have h1':(u.op == 1)=false:=beq_eq_false_iff_ne.2 h1
      have HX:=h_ (u_ HS fun h=>absurd h h1)
      clear h1
      go_wp2_with fail
      go_roundw
      case rel=>exact ⟨k+1,by omega,by go_num,u_ HX,by first | rfl | trivial⟩
      case measure=>simp [intOf];omega
  . have hlt':¬ (k:Int)<l.length:=by omega
    have HX:Hid (q=true):=h_ (by rw [<- u_ HQ];exact qbn fun j hj=>u_ HL j hj (by omega))
    go_wp2_with fail
    go_ret
    exact ⟨qfz (u_ HX).symm,rfl⟩
theorem q3y (a:Option Addr) (c:Nat) (l:List Nx) (w:World) (hl:l.length<=9223372036854775807) (ha:NodL w a l) (hf:∀ k,k<l.length->Fit (nf l k)) :
 Calls Tryz.prog 127 #[.slice a l.length c] w fun r w'=>r=.returned (.bool (ruleOk l))/\Below w.heap.size w w':=by
 have hr:ruleOk l=(decide (l.length=0) || vxB (nf l) l.length):=rfl
 have HC:=h_ (q17 a l.length c (nf l) w hl ha hf)
 by_cases h0:l.length=0
 . have h0':((l.length:Int) == 0)=true:=by simp [h0]
   rw [show ruleOk l=true by rw [hr,decide_eq_true h0];rfl]
   clear h0 hr HC ha hf
   go_enter Tryz.func127,Tryz.ntmps127
   go_wp2_with fail
   go_ret
   exact ⟨rfl,bR _ _⟩
 . have h0':((l.length:Int) == 0)=false:=beq_eq_false_iff_ne.2 (by omega)
   rw [show ruleOk l=vxB (nf l) l.length by rw [hr,decide_eq_false h0];rfl]
   clear h0 hr ha hf
   generalize vxB (nf l) l.length=q at *
   go_enter Tryz.func127,Tryz.ntmps127
   go_wp2_with fail
   refine (u_ HC).mono ?_
   rintro r w2 ⟨rfl,hb⟩
   have HB:=h_ hb
   clear hb HC
   cases q
   all_goals
    go_wp2_with fail
    go_ret
    exact ⟨rfl,u_ HB⟩
theorem q60 {l:List ByteArray} {k:Nat} (h:k<l.length) (hg:goodN l[k]=false):namesOk l=false:=by
 unfold namesOk
 rw [show l.all goodN=false from List.all_eq_false.2 ⟨l[k],List.getElem_mem h,by simp [hg]⟩]
 rfl
theorem q2q {l:List ByteArray} {k j:Nat} (h:k<l.length) (hj:j<k) (he:l[k]=l[j]):namesOk l=false:=by
 unfold namesOk
 rw [decide_eq_false (fun hn=>?_),Bool.and_false]
 have:=List.pairwise_iff_getElem.1 hn j k (by omega) h hj
 exact this he.symm
theorem q61 {l:List ByteArray} (h1:∀ k (h:k<l.length),goodN l[k]=true) (h2:∀ k (h:k<l.length) j (hj:j<k),l[k] ≠ l[j]):namesOk l=true:=by
 unfold namesOk
 rw [Bool.and_eq_true,List.all_eq_true,decide_eq_true_eq]
 refine ⟨fun x hx=>?_,List.pairwise_iff_getElem.2 fun i j hi hj hij he=>h2 j hj i hij he.symm⟩
 obtain ⟨k,hk,rfl⟩:=List.mem_iff_getElem.1 hx
 exact h1 k hk
theorem q1t (a:Option Addr) (c:Nat) (l:List ByteArray) (w:World) (hl:l.length<=9223372036854775807) (hs:∀ x,x ∈ l->x.size<=9223372036854775807) (ha:Strs w a l) :
 Calls Tryz.prog 97 #[.slice a l.length c] w fun r w'=>r=.returned (.bool (namesOk l))/\Below w.heap.size w w':=by
 have HA:=h_ ha;have HS:=h_ hs
 clear ha hs
 obtain ⟨q,hq⟩:∃ q,namesOk l=q:=⟨_,rfl⟩
 rw [hq]
 have HQ:=h_ hq
 clear hq
 go_enter Tryz.func97,Tryz.ntmps97
 go_wp2_with fail
 go_loopw [3,4] (fun i _ wr=>∃ k:Nat,k<=l.length/\i=.int .i64 k/\(∀ j (h:j<l.length),j<k->goodN l[j]=true/\∀ i (hi:i<j),l[j] ≠ l[i])/\Below w.heap.size w wr) (fun i _ _=>l.length - (intOf i).toNat)
 case atStart=>exact ⟨0,nZ _,rfl,fun j _ hj=>absurd hj (nL _),bR _ _⟩
 case round =>
  obtain ⟨k,hk,rfl,hall,hb0⟩:=hrel
  have HL:=h_ hall;have HB:=h_ hb0;have HV:=h_ ((u_ HA).mono hb0)
  clear hall hb0
  by_cases hlt:k<l.length
  . have hlt':(k:Int)<l.length:=by omega
    obtain ⟨b,o,rfl,-,c0⟩:=u_ HV k hlt
    have hsz:=u_ HS _ (List.getElem_mem hlt)
    have HG:=h_ (q60 hlt)
    have HT:Hid (∀ j (hj:j<k),l[k]=l[j]->namesOk l=false):=h_ fun j hj he=>q2q hlt hj he
    go_wp2_with fail
    refine (q1v _ _ hsz).mono ?_
    rintro r w2 ⟨rfl,hw⟩
    replace hw:=hw.symm;subst hw
    clear c0
    cases hg:goodN l[k]
    . have HX:Hid (q=false):=h_ (by rw [<- u_ HQ];exact u_ HG hg)
      go_wp2_with fail
      go_ret
      exact ⟨qfz (u_ HX).symm,u_ HB⟩
    have HGG:=h_ hg
    clear hg HG
    go_wp2_with fail
    go_loopw [4] (fun jv w3=>∃ j:Nat,j<=k/\jv=.int .i64 j/\(∀ i (hi:i<k),i<j->l[k] ≠ l[i])/\Below w.heap.size w w3) (fun jv _=>k - (intOf jv).toNat)
    case atStart=>exact ⟨0,nZ _,rfl,fun i _ hj=>absurd hj (nL _),u_ HB⟩
    case round =>
     obtain ⟨j,hj,rfl,hin,hb1⟩:=hrel
     have HIN:=h_ hin;have HB1:=h_ hb1;have HBD:=h_ (hb1.drew);have HV1:=h_ ((u_ HA).mono hb1)
     clear hin hb1
     by_cases hjk:j<k
     . have hjk':(j:Int)<k:=by omega
       have hjl:(j:Int)<l.length:=by omega
       obtain ⟨b2,o2,e2,-,c1'⟩:=u_ HV1 j (by omega)
       cases e2
       obtain ⟨b3,o3,e3,-,c0⟩:=u_ HV1 k hlt
       cases e3
       have he:=eqS l[k] l[j]
       have HX:Hid (l[k]=l[j]->q=false):=h_ fun h=>by rw [<- u_ HQ];exact u_ HT j hjk h
       have HN:Hid (l[k] ≠ l[j]->∀ i (hi:i<k),i<j+1->l[k] ≠ l[i]):=h_ fun h i hi hij=>by
        by_cases ei:i=j
        . subst ei;exact h
        . exact u_ HIN i hi (by omega)
       obtain ⟨x,hx⟩:∃ x,l[k]=x:=⟨_,rfl⟩
       obtain ⟨y,hy⟩:∃ y,l[j]=y:=⟨_,rfl⟩
       by_cases hxy:l[k]=l[j]
       . rw [decide_eq_true hxy] at he
         have HX2:=h_ (u_ HX hxy)
         rw [hx] at c0 he;rw [hy] at c1' he
         clear hxy HX HN hx hy
         go_wp2_with fail
         go_region
         go_wp2_with fail
         go_ret
         exact ⟨qfz (u_ HX2).symm,u_ HBD⟩
       . rw [decide_eq_false hxy] at he
         have HN2:=h_ (u_ HN hxy)
         rw [hx] at c0 he;rw [hy] at c1' he
         clear hxy HX HN hx hy
         go_wp2_with fail
         go_region
         go_wp2_with fail
         go_roundw
         case rel=>exact ⟨j+1,by omega,by go_num,u_ HN2,u_ HBD⟩
         case measure=>simp [intOf];omega
     . obtain rfl:j=k:=by omega
       have hjk':¬ (j:Int)<(j:Int):=by omega
       have HN:Hid (∀ i (h:i<l.length),i<j+1->goodN l[i]=true/\∀ m (hm:m<i),l[i] ≠ l[m]):=h_ fun i h hi=>by
        by_cases ei:i=j
        . subst ei;exact ⟨u_ HGG,fun m hm=>u_ HIN m hm hm⟩
        . exact u_ HL i h (by omega)
       go_wp2_with fail
       go_roundw
       case rel=>first | exact ⟨j+1,by omega,by go_num,u_ HN,u_ HB1⟩ | ((repeat apply Exists.intro);exact ⟨⟨j+1,by omega,by go_num,u_ HN,u_ HB1⟩,rfl⟩)
       case measure=>simp [intOf];omega
  . have hlt':¬ (k:Int)<l.length:=by omega
    have HX:Hid (q=true):=h_ (by rw [<- u_ HQ];exact q61 (fun i h=>(u_ HL i h (by omega)).1) (fun i h j hj=>(u_ HL i h (by omega)).2 j hj))
    go_wp2_with fail
    go_ret
    exact ⟨qfz (u_ HX).symm,u_ HB⟩
def zv (u:Vx):Bool:=decide (u.k=0/\u.n=0/\u.s.size=0)
theorem zv_eq (u:Vx):eqX u blankX=zv u:=by
 have:(u.s.toList=[]) ↔ u.s.size=0:=by
  have:=empty0 u.s
  rw [Bool.eq_iff_iff] at this
  simpa using this
 unfold eqX zv blankX
 by_cases h1:u.k=0
 . by_cases h2:u.n=0
   . simp [h1,h2,this]
   . simp [h1,h2]
 . simp [h1]
theorem q1l (u:Vx) (w:World) (hs:u.s.size<=9223372036854775807):Calls Tryz.prog 235 #[vv u] w fun e w'=>e=.returned (.bool (okVal u.k u.n u.s&&decide (u.k ≠ 4)&&decide (0<=u.n)))/\Below w.heap.size w w':=by
 unfold vv
 have H0:=h_ (Blk.new w 54 #[.int .i64 u.k,.int .i64 u.n,.string u.s])
 have HB:=h_ ((bR w.heap.size w).alloc (nR _) (.cells #[.int .i64 u.k,.int .i64 u.n,.string u.s] 54))
 obtain ⟨r,hr⟩:∃ r,(okVal u.k u.n u.s&&decide (u.k ≠ 4)&&decide (0<=u.n))=r:=⟨_,rfl⟩
 rw [hr]
 go_enter Tryz.func235,Tryz.ntmps235
 go_wp2_with fail
 refine (q1k _ _ _ _ hs).mono ?_
 rintro e w1 ⟨rfl,hb1⟩
 replace H0:=mB H0 hb1;replace HB:=mT HB hb1;clear hb1
 obtain ⟨z0,z1,z2⟩:=three (u_ H0)
 cases hv:okVal u.k u.n u.s
 . rw [hv] at hr
   have HX:Hid (false=r):=h_ hr;clear hr hv
   go_wp2_with fail
   go_ret
   exact ⟨qfz (u_ HX),u_ HB⟩
 . rw [hv,Bool.true_and] at hr
   by_cases h4:u.k=4
   . have HX:Hid (false=r):=h_ (by rw [<- hr,decide_eq_false (fun h=>h h4)];rfl);clear hr hv
     rw [h4] at z0 H0
     go_wp2_with fail
     go_ret
     exact ⟨qfz (u_ HX),u_ HB⟩
   . rw [decide_eq_true h4,Bool.true_and] at hr
     have h4':(u.k != 4)=true:=by simp [h4]
     have HX:=h_ hr;clear hr hv h4
     go_wp2_with fail
     go_ret
     exact ⟨qfz (u_ HX),u_ HB⟩
theorem q0e (n:Nx) (w:World):Calls Tryz.prog 233 #[nv n] w fun e w'=>e=.returned (.int .i64 (arn n))/\Below w.heap.size w w':=by
 rw [qdq,ar_opn]
 unfold nv
 have H0:=h_ (Blk.new w 200 #[.int .i64 n.op,.int .i64 n.v.k,.int .i64 n.v.n,.string n.v.s,.string n.nm])
 have HB:=h_ ((bR w.heap.size w).alloc (nR _) (.cells #[.int .i64 n.op,.int .i64 n.v.k,.int .i64 n.v.n,.string n.v.s,.string n.nm] 200))
 by_cases h:2<=n.op/\n.op<=25
 . rw [if_pos h]
   go_enter Tryz.func233,Tryz.ntmps233
   go_wp2_with (first | (go_at_call 237;refine (q1o _ _).mono ?_;rintro e w' ⟨rfl,hw⟩;replace hw:=hw.symm;subst hw;rw [decide_eq_true h]) | (go_at_call 238;refine (q20 _ _).mono ?_;rintro e w' ⟨rfl,hw⟩;replace hw:=hw.symm;subst hw))
   go_ret
   exact ⟨rfl,u_ HB⟩
 . rw [if_neg h]
   go_enter Tryz.func233,Tryz.ntmps233
   go_wp2_with (go_at_call 237;refine (q1o _ _).mono ?_;rintro e w' ⟨rfl,hw⟩;replace hw:=hw.symm;subst hw;rw [decide_eq_false h])
   go_ret
   exact ⟨rfl,u_ HB⟩
theorem q86 (n:Nx) (w:World) (hf:Fit n):Calls Tryz.prog 232 #[nv n] w fun e w'=>e=.returned (.bool (okNode n))/\Below w.heap.size w w':=by
 obtain ⟨hs,hm,-,-⟩:=hf
 unfold nv
 obtain ⟨W0,hW0⟩:∃ W0,w.alloc (.cells #[.int .i64 n.op,.int .i64 n.v.k,.int .i64 n.v.n,.string n.v.s,.string n.nm] 200)=W0:=⟨_,rfl⟩
 have H0:=h_ (Blk.new w 200 #[.int .i64 n.op,.int .i64 n.v.k,.int .i64 n.v.n,.string n.v.s,.string n.nm])
 have HB:=h_ ((bR w.heap.size w).alloc (nR _) (.cells #[.int .i64 n.op,.int .i64 n.v.k,.int .i64 n.v.n,.string n.v.s,.string n.nm] 200))
 rw [hW0] at H0 HB
 have e0:=empty0 n.nm
 rcases ops2 n.op with h | h | ⟨h,h'⟩
 . have ho:=okNode0 h
   rw [h] at H0 hW0 ⊢
   clear h
   obtain ⟨z0,z1,z2,z3,z4⟩:=five (u_ H0)
   by_cases h0:n.nm.size=0
   . rw [decide_eq_true h0] at e0 ho
     rw [Bool.true_and] at ho
     have HX:=h_ ho;clear ho
     go_enter Tryz.func232,Tryz.ntmps232
     go_wp2_with fail
     try rw [hW0]
     refine (q1l n.v _ hs).mono ?_
     rintro e w1 ⟨rfl,hb1⟩
     replace HB:=mT HB hb1;clear hb1
     generalize (okVal n.v.k n.v.n n.v.s&&decide (n.v.k ≠ 4)&&decide (0<=n.v.n))=r at *
     cases r
     all_goals
      go_wp2_with fail
      go_ret
      exact ⟨qfz (u_ HX).symm,u_ HB⟩
   . rw [decide_eq_false h0] at e0 ho
     have HX:Hid (okNode n=false):=h_ ho;clear ho h0
     go_enter Tryz.func232,Tryz.ntmps232
     go_wp2_with fail
     go_ret
     exact ⟨qfz (u_ HX).symm,u_ HB⟩
 . have ho:=okNode1 h
   rw [h] at H0 hW0 ⊢
   clear h
   obtain ⟨z0,z1,z2,z3,z4⟩:=five (u_ H0)
   go_enter Tryz.func232,Tryz.ntmps232
   go_wp2_with fail
   try rw [hW0]
   clear hW0
   refine wp_region_held_drew (S:=fun w'=>w'.cell? ⟨w.heap.size,1,none⟩=some (.int .i64 n.v.k)/\w'.cell? ⟨w.heap.size,2,none⟩=some (.int .i64 n.v.n)/\w'.cell? ⟨w.heap.size,3,none⟩=some (.string n.v.s)/\w'.cell? ⟨w.heap.size,4,none⟩=some (.string n.nm)) (by kernel_rfl) ⟨z1,z2,z3,z4⟩ (fun zz=>?_)
   clear z0 z1 z2 z3 z4
   refine tk 0 17 (.pointer (some ⟨w.heap.size,1,none⟩)) zz ?_
   refine tk 1 18 (.agg #[.int .i64 n.v.k,.int .i64 n.v.n,.string n.v.s]) zz ?_
   simp only [sX,sY,sZ]
   refine callY (i:=2) (f:=236) (args:=#[]) (R:=fun r wz=>r=vv blankX/\Below W0.heap.size W0 wz) 19 rfl rfl (by rfl) (by kernel_rfl) ?hrun2 ((q1c _).mono fun e w6 ⟨he,hb⟩=>⟨_,he,rfl,q26 hb⟩) ?_
   case hrun2=>simp [execOp,go_sem]
   rintro r3 w3 ⟨rfl,hb⟩
   replace H0:=mB H0 hb;replace HB:=mT HB hb;clear hb
   obtain ⟨z0,z1,z2,z3,z4⟩:=five (u_ H0)
   replace zz:w3.cell? ⟨w.heap.size,1,none⟩=some (.int .i64 n.v.k)/\w3.cell? ⟨w.heap.size,2,none⟩=some (.int .i64 n.v.n)/\w3.cell? ⟨w.heap.size,3,none⟩=some (.string n.v.s)/\w3.cell? ⟨w.heap.size,4,none⟩=some (.string n.nm):=⟨z1,z2,z3,z4⟩
   clear z0 z1 z2 z3 z4
   refine ⟨zz,?_⟩
   simp only [sX,sY,sZ]
   unfold vv
   refine tk 3 20 (.bool (eqX n.v blankX)) zz ?_ (hy:=fun w hS=>by simp [execOp,go_sem, *];unfold eqX blankX;(repeat' split) <;> simp_all)
   simp only [sX,sY,sZ]
   rw [zv_eq]
   rw [show decide (n.v.k=0/\n.v.n=0/\n.v.s.size=0)=zv n.v from rfl] at ho
   cases hz:zv n.v
   . have HX:Hid (okNode n=false):=h_ (by rw [ho,hz];rfl)
     clear ho hz
     refine tk 4 21 (.bool false) zz ?_
     refine tn 5 22 zz ?_
     refine tn 6 23 zz ?_
     refine tn 7 24 zz ?_
     simp only [sX,sY,sZ]
     refine tk 8 25 (.bool false) zz ?_
     refine tk 9 2 (.bool false) zz ?_
     simp only [sX,sY,sZ]
     refine wpAnyH_done (by kernel_rfl) ?_ _
     clear zz
     go_wp2
     go_ret
     exact ⟨qfz (u_ HX).symm,u_ HB⟩
   . have HX:Hid (okNode n=goodN n.nm):=h_ (by rw [ho,hz];rfl)
     clear ho hz
     refine tk 4 21 (.bool true) zz ?_
     refine tk 5 22 (.pointer (some ⟨w.heap.size,4,none⟩)) zz ?_
     refine tk 6 23 (.string n.nm) zz ?_
     simp only [sX,sY,sZ]
     refine callY (i:=7) (f:=216) (args:=#[.string n.nm]) (R:=fun r wz=>r=.bool (goodN n.nm)/\wz=w3) 24 rfl rfl (by rfl) (by kernel_rfl) ?hrun7 ((q1m _ _ hm).mono fun e w6 ⟨he,hb⟩=>⟨_,he,rfl,hb⟩) ?_
     case hrun7=>simp [execOp,go_sem]
     rintro r3 w4 ⟨rfl,hw⟩
     replace hw:=hw.symm;subst hw
     refine ⟨zz,?_⟩
     simp only [sX,sY,sZ]
     refine tk 8 25 (.bool (goodN n.nm)) zz ?_
     refine tk 9 2 (.bool (goodN n.nm)) zz ?_
     simp only [sX,sY,sZ]
     refine wpAnyH_done (by kernel_rfl) ?_ _
     clear zz
     go_wp2
     go_ret
     exact ⟨qfz (u_ HX).symm,u_ HB⟩
 . have ho:=okNode2 h h'
   have h1:(n.op == 0)=false:=beq_eq_false_iff_ne.2 h
   have h2:(n.op == 1)=false:=beq_eq_false_iff_ne.2 h'
   clear h h'
   obtain ⟨z0,z1,z2,z3,z4⟩:=five (u_ H0)
   go_enter Tryz.func232,Tryz.ntmps232
   go_wp2_with fail
   try rw [hW0]
   clear hW0
   refine wp_region_held_drew (S:=fun w'=>w'.cell? ⟨w.heap.size,0,none⟩=some (.int .i64 n.op)/\w'.cell? ⟨w.heap.size,1,none⟩=some (.int .i64 n.v.k)/\w'.cell? ⟨w.heap.size,2,none⟩=some (.int .i64 n.v.n)/\w'.cell? ⟨w.heap.size,3,none⟩=some (.string n.v.s)/\w'.cell? ⟨w.heap.size,4,none⟩=some (.string n.nm)) (by kernel_rfl) ⟨z0,z1,z2,z3,z4⟩ (fun zz=>?_)
   clear z0 z1 z2 z3 z4
   refine tk 0 26 (.pointer (some ⟨w.heap.size,0,none⟩)) zz ?_
   refine tk 1 27 (.int .i64 n.op) zz ?_
   simp only [sX,sY,sZ]
   refine callY (i:=2) (f:=237) (args:=#[.int .i64 n.op]) (R:=fun r wz=>r=.bool (decide (2<=n.op/\n.op<=25))/\wz=W0.drew) 28 rfl rfl (by rfl) (by kernel_rfl) ?hrun2 ((q1o _ _).mono fun e w6 ⟨he,hb⟩=>⟨_,he,rfl,hb⟩) ?_
   case hrun2=>simp [execOp,go_sem]
   rintro r3 w3 ⟨rfl,hw⟩
   subst hw
   refine ⟨zz,?_⟩
   simp only [sX,sY,sZ]
   cases hop:decide (2<=n.op/\n.op<=25)
   . have HX:Hid (okNode n=false):=h_ (by rw [ho,hop];rfl)
     clear ho hop
     refine tk 3 29 (.bool false) zz ?_
     refine tn 4 30 zz ?_
     refine tn 5 31 zz ?_
     refine tn 6 32 zz ?_
     simp only [sX,sY,sZ]
     refine tk 7 33 (.bool false) zz ?_
     refine tk 8 34 (.bool false) zz ?_
     refine tn 9 35 zz ?_
     refine tn 10 36 zz ?_
     simp only [sX,sY,sZ]
     refine tn 11 37 zz ?_
     refine tn 12 38 zz ?_
     refine tk 13 39 (.bool false) zz ?_
     refine tk 14 2 (.bool false) zz ?_
     simp only [sX,sY,sZ]
     refine wpAnyH_done (by kernel_rfl) ?_ _
     clear zz
     go_wp2
     go_ret
     exact ⟨qfz (u_ HX).symm,(u_ HB).drew⟩
   rw [hop,Bool.true_and] at ho
   clear hop
   refine tk 3 29 (.bool true) zz ?_
   refine tk 4 30 (.pointer (some ⟨w.heap.size,4,none⟩)) zz ?_
   refine tk 5 31 (.string n.nm) zz ?_
   refine tk 6 32 (.bool (decide (n.nm.size=0))) zz ?_
   simp only [sX,sY,sZ]
   refine tk 7 33 (.bool (decide (n.nm.size=0))) zz ?_
   refine tk 8 34 (.bool (decide (n.nm.size=0))) zz ?_
   simp only [sX,sY,sZ]
   rw [show decide (n.v.k=0/\n.v.n=0/\n.v.s.size=0)=zv n.v from rfl] at ho
   cases hq:decide (n.nm.size=0)
   . have HX:Hid (okNode n=false):=h_ (by rw [ho,hq,Bool.and_false])
     clear ho hq e0
     refine tn 9 35 zz ?_
     refine tn 10 36 zz ?_
     refine tn 11 37 zz ?_
     refine tn 12 38 zz ?_
     simp only [sX,sY,sZ]
     refine tk 13 39 (.bool false) zz ?_
     refine tk 14 2 (.bool false) zz ?_
     simp only [sX,sY,sZ]
     refine wpAnyH_done (by kernel_rfl) ?_ _
     clear zz
     go_wp2
     go_ret
     exact ⟨qfz (u_ HX).symm,(u_ HB).drew⟩
   rw [hq,Bool.and_true] at ho
   have HX:=h_ ho
   clear ho hq e0
   refine tk 9 35 (.pointer (some ⟨w.heap.size,1,none⟩)) zz ?_
   refine tk 10 36 (.agg #[.int .i64 n.v.k,.int .i64 n.v.n,.string n.v.s]) zz ?_
   simp only [sX,sY,sZ]
   refine callY (i:=11) (f:=236) (args:=#[]) (R:=fun r wz=>r=vv blankX/\Below W0.heap.size W0 wz) 37 rfl rfl (by rfl) (by kernel_rfl) ?hrun3 ((q1c _).mono fun e w6 ⟨he,hb⟩=>⟨_,he,rfl,q26 hb⟩) ?_
   case hrun3=>simp [execOp,go_sem]
   rintro r3 w3 ⟨rfl,hb⟩
   replace H0:=mB H0 hb;replace HB:=mT HB hb;clear hb
   obtain ⟨z0,z1,z2,z3,z4⟩:=five (u_ H0)
   replace zz:w3.cell? ⟨w.heap.size,0,none⟩=some (.int .i64 n.op)/\w3.cell? ⟨w.heap.size,1,none⟩=some (.int .i64 n.v.k)/\w3.cell? ⟨w.heap.size,2,none⟩=some (.int .i64 n.v.n)/\w3.cell? ⟨w.heap.size,3,none⟩=some (.string n.v.s)/\w3.cell? ⟨w.heap.size,4,none⟩=some (.string n.nm):=⟨z0,z1,z2,z3,z4⟩
   clear z0 z1 z2 z3 z4
   refine ⟨zz,?_⟩
   simp only [sX,sY,sZ]
   unfold vv
   refine tk 12 38 (.bool (eqX n.v blankX)) zz ?_ (hy:=fun w hS=>by simp [execOp,go_sem, *];unfold eqX blankX;(repeat' split) <;> simp_all)
   simp only [sX,sY,sZ]
   rw [zv_eq]
   refine tk 13 39 (.bool (zv n.v)) zz ?_
   refine tk 14 2 (.bool (zv n.v)) zz ?_
   simp only [sX,sY,sZ]
   refine wpAnyH_done (by kernel_rfl) ?_ _
   clear zz
   go_wp2
   go_ret
   exact ⟨qfz (u_ HX).symm,u_ HB⟩
def pv (p:Ph):Value:=.agg #[.string p.t,.int .i64 p.lv,.int .i64 p.d]
def PCel (w:World) (b o:Nat) (p:Ph):Prop:=b<w.heap.size/\w.cell? ⟨b,o,none⟩=some (.string p.t)/\w.cell? ⟨b,o+1,none⟩=some (.int .i64 p.lv)/\w.cell? ⟨b,o+2,none⟩=some (.int .i64 p.d)
theorem PCel.mono {w w':World} {b o:Nat} {p:Ph} (h:PCel w b o p) (hb:Below w.heap.size w w'):PCel w' b o p :=
 ⟨Nat.lt_of_lt_of_le h.1 hb.size,(hb.cell h.1).trans h.2.1,(hb.cell h.1).trans h.2.2.1,(hb.cell h.1).trans h.2.2.2⟩
def Phs (w:World) (a:Option Addr) (l:List Ph):Prop:=∀ k (h:k<l.length),∃ b o,a=some ⟨b,o,none⟩/\PCel w b (o+k*3) l[k]
theorem Phs.mono {w w':World} {a:Option Addr} {l:List Ph} (h:Phs w a l) (hb:Below w.heap.size w w'):Phs w' a l:=fun k hk=>by
 obtain ⟨b,o,e,hc⟩:=h k hk
 exact ⟨b,o,e,hc.mono hb⟩
theorem q4q (p:Ph) (l:Int) (w:World) (hs:p.t.size<=2000000):Calls Tryz.prog 241 #[pv p,.int .i64 l] w fun r w'=>r=.returned (.string (wrap l p))/\Below w.heap.size w w':=by
 unfold pv
 have HB:=h_ ((bR w.heap.size w).alloc (nR _) (.cells #[.string p.t,.int .i64 p.lv,.int .i64 p.d] 285))
 have HW:Hid (wrap l p=if p.lv<l then ⟨#[40]⟩++p.t++⟨#[41]⟩ else p.t):=h_ rfl
 obtain ⟨t,ht⟩:∃ t,wrap l p=t:=⟨_,rfl⟩
 rw [ht] at HW ⊢
 clear ht
 by_cases hq:p.lv<l
 . rw [if_pos hq] at HW
   go_enter Tryz.func241,Tryz.ntmps241
   go_wp2_with fail
   go_ret
   exact ⟨qka (u_ HW).symm,u_ HB⟩
 . rw [if_neg hq] at HW
   go_enter Tryz.func241,Tryz.ntmps241
   go_wp2_with fail
   go_ret
   exact ⟨qka (u_ HW).symm,u_ HB⟩
theorem qiw (r:List ByteArray):(jt r).data.toList=Lib.joinTail [44,32] (r.map (·.data.toList)):=by
 induction r with
 | nil=>rfl
 | cons x r ih=>simp only [jt,ByteArray.data_append,Array.toList_append,ih,List.map_cons,Lib.joinTail,List.flatten_cons]
theorem qit (l:List ByteArray):jn l=⟨(Lib.join (l.map (·.data.toList)) [44,32]).toArray⟩:=by
 refine q9f ?_
 cases l with
 | nil=>rfl
 | cons x r=>rw [List.map_cons,Lib.join_cons];simp only [jn,ByteArray.data_append,Array.toList_append,qiw]
def stV (l:List ByteArray):List Value:=l.map .string
theorem qen:(Tryz.prog.info? 9).map (fun i=>(i.zero,i.size,i.bytes))=some (some (.string ⟨#[]⟩),1,16):=by kernel_rfl
theorem q8n (a:Option Addr) (c:Nat) (l:List Ph) (w:World) (hl:1<=l.length) (hl3:l.length<=3) (ha:Phs w a l) (hs:tot l<=2000000) :
 Calls Tryz.prog 242 #[.slice a l.length c] w fun r w'=>r=.returned (.string (jn (l.map (·.t))))/\Below w.heap.size w w':=by
 have HA:=h_ ha
 have hj:=(qiu l).2
 have HJ:=h_ (qit (l.map (·.t)))
 obtain ⟨n,hn⟩:∃ n,l.length=n:=⟨_,rfl⟩
 rw [hn] at hl hl3 hj ⊢
 have HN:=h_ hn
 clear ha hn
 obtain ⟨t,ht⟩:∃ t,jn (l.map (·.t))=t:=⟨_,rfl⟩
 rw [ht] at HJ hj ⊢
 clear ht
 obtain ⟨i0,hi,hz0,hz1,hz2⟩:=info_parts qen
 have hbn:i0.bytes*n<=281474976710656:=by rw [hz2];omega
 obtain ⟨B,hB⟩:∃ B,w.heap.size=B:=⟨_,rfl⟩
 go_enter Tryz.func242,Tryz.ntmps242
 go_wp2_with (at_make;refine wpList_make_own _ rfl _ _ 22 rfl w.heap.size 9 i0 _ 1 Tryz.underlying22 hi hz0 hz1 .i64 .i64 _ n rfl rfl rfl hbn (by unfold maxLen;omega) (nR _) ?_;intro w1 hown hgrow)
 have HB1:=h_ ((bR w.heap.size w).grown hgrow (nR _) (fun k h=>by cases h))
 rw [hB] at hown HB1
 have HO:=h_ hown
 clear hgrow hown hbn hi hz0 hz1 hz2
 go_wp2_with fail
 try rw [hB]
 go_loopw [3,5,11] (fun tx _ i wr=>∃ k:Nat,k<=n/\tx=.slice (some ⟨B,0,none⟩) k n/\i=.int .i64 k/\wr.ownsRow B 9 1 (.slice (some ⟨B,0,none⟩) k n) k (stV ((l.take k).map (·.t)))/\Below B w wr) (fun _ _ i _=>n - (intOf i).toNat)
 case atStart=>exact ⟨0,nZ _,rfl,rfl,u_ HO,u_ HB1⟩
 case round =>
  clear HO HB1
  obtain ⟨k,hk,rfl,rfl,hO,hb⟩:=hrel
  have HO:=h_ hO;have HB:=h_ hb
  have HV:=h_ ((u_ HA).mono (hb.mono (by omega)))
  clear hO hb
  by_cases hlt:k<n
  . have hlt':(k:Int)<n:=by omega
    have hkl:k<l.length:=by have:=u_ HN;omega
    obtain ⟨b,o,rfl,-,c0,c1,c2⟩:=u_ HV k hkl
    have HT:Hid ((l.take (k+1)).map (·.t)=(l.take k).map (·.t)++[l[k].t]):=h_ (by rw [List.take_succ_eq_append_getElem hkl,List.map_append];rfl)
    obtain ⟨p,hp⟩:∃ p,l[k]=p:=⟨_,rfl⟩
    rw [hp] at HT c0 c1 c2
    clear hp
    obtain ⟨i0,hi,hz0,hz1,hz2⟩:=info_parts qen
    obtain ⟨W,hW⟩:∃ W,wr.alloc (.cells #[.string p.t,.int .i64 p.lv,.int .i64 p.d] 285)=W:=⟨_,rfl⟩
    have HO1:Hid (W.ownsRow B 9 1 (.slice (some ⟨B,0,none⟩) k n) k (stV ((l.take k).map (·.t)))):=h_ (by rw [<- hW];exact (u_ HO).alloc _)
    have HB1:Hid (Below B w W):=h_ (by rw [<- hW];exact (u_ HB).alloc (by have:=(u_ HB).size;omega) _)
    have HK:Hid (Blk W wr.heap.size 285 [.string p.t,.int .i64 p.lv,.int .i64 p.d]):=h_ (by rw [<- hW];exact Blk.new wr 285 #[.string p.t,.int .i64 p.lv,.int .i64 p.d])
    obtain ⟨y0,y1,y2⟩:=three (u_ HK)
    go_wp2_with (at_builtin;refine wpList_append_fits _ rfl _ _ 22 rfl B 9 i0 1 Tryz.underlying22 hi hz1 B k n _ rfl ((u_ HO1).alloc _) ⟨W.heap.size,0,none⟩ 1 1 [.string p.t] rfl rfl (qdt W 9 _) (by simp [Value.oneCell']) (by omega) ?_)
    intro w3 ho' hgr'
    have hB2:=((u_ HB1).alloc (by have:=(u_ HB1).size;omega) (.cells #[.string p.t] 9)).grown hgr' (by have:=(u_ HB1).size;simp;omega) (fun q' e=>by cases e;exact nR _)
    have HO2:Hid (w3.ownsRow B 9 1 (.slice (some ⟨B,0,none⟩) (k+1) n) (k+1) (stV ((l.take (k+1)).map (·.t)))):=h_ (by rw [u_ HT];simpa [stV] using ho')
    have HB2:=h_ hB2
    clear ho' hgr' hB2 hi hz0 hz1 hz2 HO HB HO1 HB1 HK c0 c1 c2 y0 y1 y2 hW
    go_wp2_with fail
    go_roundw
    case rel=>first | exact ⟨k+1,by omega,rfl,by go_num,u_ HO2,u_ HB2⟩ | ((repeat apply Exists.intro);exact ⟨⟨k+1,by omega,rfl,by go_num,u_ HO2,u_ HB2⟩,rfl⟩)
    case measure=>simp [intOf];omega
  . obtain rfl:k=n:=by omega
    have hO:=u_ HO
    rw [List.take_of_length_le (by have:=u_ HN;omega)] at hO
    have HC:Hid (∀ (j:Nat) x,(l.map (·.t))[j]? = some x->wr.cell? ⟨B,0+j,none⟩=some (.string x)):=h_ fun j x hx=>by
     have hj:j<(l.map (·.t)).length:=(List.getElem?_eq_some_iff.1 hx).1
     have:=hO.cellAt j (by rw [List.length_map] at hj;have:=u_ HN;omega)
     rw [Nat.zero_add]
     rw [show (⟨B,j,none⟩:Addr)=⟨B,j,none⟩ from rfl]
     rw [this]
     simp only [stV,List.getElem?_map,hx,Option.map_some]
    have hlen2:(l.map (·.t)).length=k:=by rw [List.length_map];exact u_ HN
    have hblt:B<wr.heap.size:=by
     rcases hO.2 with ⟨h',_⟩ | ⟨g',cap',cur,h',_,hg,_⟩
     . simp at h'
     . simp only [Value.slice.injEq,Option.some.injEq,Addr.mk.injEq,and_true,true_and] at h'
       obtain ⟨rfl,-⟩:=h'
       exact (Array.getElem?_eq_some_iff.1 hg).1
    clear hO
    go_wp2_with fail
    have hJ:=u_ HJ
    refine (show Calls Tryz.prog 86 #[.slice (some ⟨B,0,none⟩) k k,.string ⟨#[44,32]⟩] wr fun r w'=>r=.returned (.string t)/\Below wr.heap.size wr w' from ?_).mono ?_
    . have hc:=Tryz.strings_Join B 0 k (l.map (·.t)) ⟨#[44,32]⟩ wr (u_ HC) hblt (by omega) (by omega) (by
       have e:t.size=(Lib.join ((l.map (·.t)).map (·.data.toList)) [44,32]).length:=by rw [hJ];rfl
       show (Lib.join ((l.map (·.t)).map (·.data.toList)) [44,32]).length<=_
       omega)
      rw [hlen2] at hc
      refine hc.mono fun r w' ⟨h1,h2⟩=>⟨?_,h2⟩
      rw [h1,hJ]
    rintro r w2 ⟨rfl,hb⟩
    have HB2:=h_ ((u_ HB).trans (hb.mono (by have:=(u_ HB).size;omega)))
    clear hb hJ
    go_wp2_with fail
    go_ret
    exact ⟨rfl,by rw [hB];exact u_ HB2⟩
theorem q4e {w:World} {base:Nat} {e:TypeId} {v:Value} {n:Nat} {l:List ByteArray} (h:w.ownsRow base e 1 v n (stV l)):∃ a cap,v=.slice a n cap/\n<=cap/\Strs w a l:=by
 have hlen:l.length=n:=by have:=h.1;simpa [stV] using this
 rcases h.2 with ⟨rfl,rfl⟩ | ⟨g,cap,cur,rfl,hb,hg,hc,-,hs,htake⟩
 . exact ⟨none,0,rfl,nR _,fun k hk=>absurd hk (by omega)⟩
 . refine ⟨_,cap,rfl,hc,fun k hk=>⟨g,0,rfl,(Array.getElem?_eq_some_iff.1 hg).1,?_⟩⟩
   have:=h.cellAt k (by omega)
   rw [Nat.zero_add,this]
   simp [stV,List.getElem?_eq_getElem hk]
theorem qgg (l:List ByteArray) (x:ByteArray):stV (l++[x])=stV l++[.string x]:=by simp [stV]
theorem q16 (m:Fm) (A:MA) (w:World) (hl:m.R.length<=64) (ha:Rls w A.r m.R) :
 Calls Tryz.prog 98 #[mV m A] w fun r w'=>∃ a0 c0,r=.returned (.slice a0 m.R.length c0)/\Strs w' a0 (rNames m)/\Below w.heap.size w w':=by
 obtain ⟨al,alc,ap,apc,ar,arc,af,afc,afa⟩:=A
 unfold mV
 dsimp only at ha ⊢
 have HK:=h_ ((Blk.new w 36 #[.slice al m.L.length alc,.slice ap m.P.length apc,.slice ar m.R.length arc,.slice af m.F.length afc]).alloc (.cells #[] 9))
 have HB:=h_ (((bR w.heap.size w).alloc (nR _) (.cells #[.slice al m.L.length alc,.slice ap m.P.length apc,.slice ar m.R.length arc,.slice af m.F.length afc] 36)).alloc (by simp) (.cells #[] 9))
 have HO:=h_ (qcf (w.alloc (.cells #[.slice al m.L.length alc,.slice ap m.P.length apc,.slice ar m.R.length arc,.slice af m.F.length afc] 36)) 9)
 rw [World.size_alloc] at HO
 obtain ⟨W0,hW0⟩:∃ W0,(w.alloc (.cells #[.slice al m.L.length alc,.slice ap m.P.length apc,.slice ar m.R.length arc,.slice af m.F.length afc] 36)).alloc (.cells #[] 9)=W0:=⟨_,rfl⟩
 have hsz:W0.heap.size=w.heap.size+1+1:=by rw [<- hW0];simp
 rw [hW0] at HK HB HO
 have HA:=h_ ha
 obtain ⟨n,hn⟩:∃ n,m.R.length=n:=⟨_,rfl⟩
 rw [hn] at HK hl hW0 ⊢
 have HN:=h_ hn
 obtain ⟨y0,y1,y2,y3⟩:=quad (u_ HK)
 clear ha hn
 go_enter Tryz.func98,Tryz.ntmps98
 go_wp2_with fail
 try rw [hW0]
 clear hW0 y0 y1 y2 y3
 go_loopw [3,4] (fun v i wr=>∃ k:Nat,k<=n/\i=.int .i64 k/\wr.ownsRow (w.heap.size+1) 9 1 v k (stV ((rNames m).take k))/\Below (w.heap.size+1) W0 wr) (fun _ i _=>n - (intOf i).toNat)
 case atStart=>exact ⟨0,nZ _,rfl,u_ HO,bR _ _⟩
 case round =>
  clear HO
  obtain ⟨k,hk,rfl,hO,hb⟩:=hrel
  have hbw:=(u_ HB).trans (hb.mono (by omega))
  have hws:=hb.size
  have HKr:=h_ ((u_ HK).mono hb (by omega));have HAr:=h_ ((u_ HA).mono hbw);have HBr:=h_ hb;have HBw:=h_ hbw;have HO:=h_ hO
  obtain ⟨y0,y1,y2,y3⟩:=quad (u_ HKr)
  clear hb hbw hO
  by_cases hlt:k<n
  . have hlt':(k:Int)<n:=by omega
    have hkl:k<m.R.length:=by have:=u_ HN;omega
    obtain ⟨b,o,rfl,-,z0,z1⟩:=u_ HAr k hkl
    have HT:Hid ((rNames m).take (k+1)=(rNames m).take k++[m.R[k].nm]):=h_ (by
     have hk2:k<(rNames m).length:=by simpa [rNames] using hkl
     rw [List.take_succ_eq_append_getElem hk2];simp [rNames])
    generalize m.R[k]=u at *
    obtain ⟨i0,hi,hz0,hz1,hz2⟩:=info_parts qen
    go_wp2_with (at_builtin;refine wpList_append_own _ rfl _ _ 22 rfl (w.heap.size+1) 9 i0 _ 1 16 Tryz.underlying22 hi hz0 hz1 hz2 rfl (by omega) _ _ _ rfl ((u_ HO).alloc _) ⟨wr.heap.size,0,none⟩ 1 1 [.string u.nm] rfl rfl (qdt wr 9 _) (by simp [Value.oneCell']) (by unfold maxLen;omega) (by omega) (by simp;omega) ?_)
    intro v' w3 ho' hgr' _
    have hB2:=((u_ HBr).alloc (by omega) (.cells #[.string u.nm] 9)).grown hgr' (by simp;omega) (fun q' e=>q8y (u_ HO) e)
    have HO2:Hid (w3.ownsRow (w.heap.size+1) 9 1 v' (k+1) (stV ((rNames m).take (k+1)))):=h_ (by rw [u_ HT,qgg];exact ho')
    have HB2:=h_ hB2
    clear ho' hgr' hB2 hi hz0 hz1 hz2
    go_wp2_with fail
    go_roundw
    case rel=>first | exact ⟨k+1,by omega,by go_num,u_ HO2,u_ HB2⟩ | ((repeat apply Exists.intro);exact ⟨⟨k+1,by omega,by go_num,u_ HO2,u_ HB2⟩,rfl⟩)
    case measure=>simp [intOf];omega
  . obtain rfl:k=n:=by omega
    have hlt':¬ (k:Int)<(k:Int):=by omega
    have hO:=u_ HO
    rw [List.take_of_length_le (by simp [rNames];have:=u_ HN;omega)] at hO
    obtain ⟨a1,c1,rfl,-,hS⟩:=q4e hO
    have HS:=h_ hS
    clear hO hS HO
    go_wp2_with fail
    go_ret
    first | exact ⟨_,⟨_,rfl⟩,u_ HS,u_ HBw⟩ | exact ⟨_,_,rfl,u_ HS,u_ HBw⟩
theorem q0p (m:Fm) (A:MA) (w:World) (hl:m.F.length<=200) (ha:Flds w A.f m.F A.fa) :
 Calls Tryz.prog 96 #[mV m A] w fun r w'=>∃ a0 c0,r=.returned (.slice a0 m.F.length c0)/\Strs w' a0 (fNames m)/\Below w.heap.size w w':=by
 obtain ⟨al,alc,ap,apc,ar,arc,af,afc,afa⟩:=A
 unfold mV
 dsimp only at ha ⊢
 have HK:=h_ ((Blk.new w 36 #[.slice al m.L.length alc,.slice ap m.P.length apc,.slice ar m.R.length arc,.slice af m.F.length afc]).alloc (.cells #[] 9))
 have HB:=h_ (((bR w.heap.size w).alloc (nR _) (.cells #[.slice al m.L.length alc,.slice ap m.P.length apc,.slice ar m.R.length arc,.slice af m.F.length afc] 36)).alloc (by simp) (.cells #[] 9))
 have HO:=h_ (qcf (w.alloc (.cells #[.slice al m.L.length alc,.slice ap m.P.length apc,.slice ar m.R.length arc,.slice af m.F.length afc] 36)) 9)
 rw [World.size_alloc] at HO
 obtain ⟨W0,hW0⟩:∃ W0,(w.alloc (.cells #[.slice al m.L.length alc,.slice ap m.P.length apc,.slice ar m.R.length arc,.slice af m.F.length afc] 36)).alloc (.cells #[] 9)=W0:=⟨_,rfl⟩
 have hsz:W0.heap.size=w.heap.size+1+1:=by rw [<- hW0];simp
 rw [hW0] at HK HB HO
 have HA:=h_ ha
 obtain ⟨n,hn⟩:∃ n,m.F.length=n:=⟨_,rfl⟩
 rw [hn] at HK hl hW0 ⊢
 have HN:=h_ hn
 obtain ⟨y0,y1,y2,y3⟩:=quad (u_ HK)
 clear ha hn
 go_enter Tryz.func96,Tryz.ntmps96
 go_wp2_with fail
 try rw [hW0]
 clear hW0 y0 y1 y2 y3
 go_loopw [3,4] (fun v i wr=>∃ k:Nat,k<=n/\i=.int .i64 k/\wr.ownsRow (w.heap.size+1) 9 1 v k (stV ((fNames m).take k))/\Below (w.heap.size+1) W0 wr) (fun _ i _=>n - (intOf i).toNat)
 case atStart=>exact ⟨0,nZ _,rfl,u_ HO,bR _ _⟩
 case round =>
  clear HO
  obtain ⟨k,hk,rfl,hO,hb⟩:=hrel
  have hbw:=(u_ HB).trans (hb.mono (by omega))
  have hws:=hb.size
  have HKr:=h_ ((u_ HK).mono hb (by omega));have HAr:=h_ ((u_ HA).mono hbw);have HBr:=h_ hb;have HBw:=h_ hbw;have HO:=h_ hO
  obtain ⟨y0,y1,y2,y3⟩:=quad (u_ HKr)
  clear hb hbw hO
  by_cases hlt:k<n
  . have hlt':(k:Int)<n:=by omega
    have hkl:k<m.F.length:=by have:=u_ HN;omega
    obtain ⟨b,o,rfl,⟨-,z0,z1,z2,z3,z4,z5,z6,z7,z8⟩,-⟩:=u_ HAr k hkl
    have HT:Hid ((fNames m).take (k+1)=(fNames m).take k++[m.F[k].nm]):=h_ (by
     have hk2:k<(fNames m).length:=by simpa [fNames] using hkl
     rw [List.take_succ_eq_append_getElem hk2];simp [fNames])
    generalize m.F[k]=u at *
    obtain ⟨i0,hi,hz0,hz1,hz2⟩:=info_parts qen
    go_wp2_with (at_builtin;refine wpList_append_own _ rfl _ _ 22 rfl (w.heap.size+1) 9 i0 _ 1 16 Tryz.underlying22 hi hz0 hz1 hz2 rfl (by omega) _ _ _ rfl ((u_ HO).alloc _) ⟨wr.heap.size,0,none⟩ 1 1 [.string u.nm] rfl rfl (qdt wr 9 _) (by simp [Value.oneCell']) (by unfold maxLen;omega) (by omega) (by simp;omega) ?_)
    intro v' w3 ho' hgr' _
    have hB2:=((u_ HBr).alloc (by omega) (.cells #[.string u.nm] 9)).grown hgr' (by simp;omega) (fun q' e=>q8y (u_ HO) e)
    have HO2:Hid (w3.ownsRow (w.heap.size+1) 9 1 v' (k+1) (stV ((fNames m).take (k+1)))):=h_ (by rw [u_ HT,qgg];exact ho')
    have HB2:=h_ hB2
    clear ho' hgr' hB2 hi hz0 hz1 hz2
    go_wp2_with fail
    go_roundw
    case rel=>first | exact ⟨k+1,by omega,by go_num,u_ HO2,u_ HB2⟩ | ((repeat apply Exists.intro);exact ⟨⟨k+1,by omega,by go_num,u_ HO2,u_ HB2⟩,rfl⟩)
    case measure=>simp [intOf];omega
  . obtain rfl:k=n:=by omega
    have hlt':¬ (k:Int)<(k:Int):=by omega
    have hO:=u_ HO
    rw [List.take_of_length_le (by simp [fNames];have:=u_ HN;omega)] at hO
    obtain ⟨a1,c1,rfl,-,hS⟩:=q4e hO
    have HS:=h_ hS
    clear hO hS HO
    go_wp2_with fail
    go_ret
    first | exact ⟨_,⟨_,rfl⟩,u_ HS,u_ HBw⟩ | exact ⟨_,_,rfl,u_ HS,u_ HBw⟩
theorem q0o (f:Fl) (A:FA) (b:Option Addr) (c:Nat) (names:List ByteArray) (w:World) (hf:FitF f) (hn:names.length<=9223372036854775807) (ha:FSl w f A) (hb:Strs w b names) :
 Calls Tryz.prog 100 #[fV f A,.slice b names.length c] w fun r w'=>r=.returned (.bool (fieldKnows names f))/\Below w.heap.size w w':=by
 obtain ⟨ab,abc,ai,aic,ah,ahc,av,avc,au,auc⟩:=A
 have HS:=h_ ha;have HN:=h_ hb
 have hk:fieldKnows names f=(knows names f.is&&knows names f.wh&&knows names f.va&&knows names f.mu):=rfl
 unfold fV
 dsimp only
 have HK:=h_ (Blk.new w 94 #[.string f.nm,.int .i64 f.ty,.int .i64 f.lb,.slice ab f.bys.length abc,.slice ai f.is.length aic,.slice ah f.wh.length ahc,.slice av f.va.length avc,.string f.sy,.slice au f.mu.length auc])
 have HB:=h_ ((bR w.heap.size w).alloc (nR _) (.cells #[.string f.nm,.int .i64 f.ty,.int .i64 f.lb,.slice ab f.bys.length abc,.slice ai f.is.length aic,.slice ah f.wh.length ahc,.slice av f.va.length avc,.string f.sy,.slice au f.mu.length auc] 94))
 obtain ⟨W0,hW0⟩:∃ W0,w.alloc (.cells #[.string f.nm,.int .i64 f.ty,.int .i64 f.lb,.slice ab f.bys.length abc,.slice ai f.is.length aic,.slice ah f.wh.length ahc,.slice av f.va.length avc,.string f.sy,.slice au f.mu.length auc] 94)=W0:=⟨_,rfl⟩
 rw [hW0] at HK HB
 replace HS:=h_ ((u_ HS).mono (u_ HB));replace HN:=h_ ((u_ HN).mono (u_ HB))
 obtain ⟨y0,y1,y2,y3,y4,y5,y6,y7,y8⟩:=nine (u_ HK)
 have k1:=h_ (q5h ai b aic c f.is names W0 hf.il hn (u_ HS).i (u_ HN))
 have k2:=h_ (q5h ah b ahc c f.wh names W0 hf.hl hn (u_ HS).h (u_ HN))
 have k3:=h_ (q5h av b avc c f.va names W0 hf.vl hn (u_ HS).v (u_ HN))
 have k4:=h_ (q5h au b auc c f.mu names W0 hf.ul hn (u_ HS).u (u_ HN))
 clear ha hb hf hn
 generalize knows names f.is=q1 at *
 generalize knows names f.wh=q2 at *
 generalize knows names f.va=q3 at *
 generalize knows names f.mu=q4 at *
 generalize fieldKnows names f=q at *
 subst hk
 cases q1
 . go_enter Tryz.func100,Tryz.ntmps100
   go_wp2_with fail
   try rw [hW0]
   refine (u_ k1).mono ?_
   rintro e w1 ⟨rfl,hw⟩
   replace hw:=hw.symm;subst hw
   clear hW0
   go_wp2_with fail
   go_ret
   exact ⟨rfl,u_ HB⟩
 cases q2
 . go_enter Tryz.func100,Tryz.ntmps100
   go_wp2_with fail
   try rw [hW0]
   refine (u_ k1).mono ?_
   rintro e w1 ⟨rfl,hw⟩
   replace hw:=hw.symm;subst hw
   clear hW0
   go_wp2_with fail
   refine (u_ k2).mono ?_
   rintro e w1 ⟨rfl,hw⟩
   replace hw:=hw.symm;subst hw
   go_wp2_with fail
   go_ret
   exact ⟨rfl,u_ HB⟩
 cases q3
 . go_enter Tryz.func100,Tryz.ntmps100
   go_wp2_with fail
   try rw [hW0]
   refine (u_ k1).mono ?_
   rintro e w1 ⟨rfl,hw⟩
   replace hw:=hw.symm;subst hw
   clear hW0
   go_wp2_with fail
   refine (u_ k2).mono ?_
   rintro e w1 ⟨rfl,hw⟩
   replace hw:=hw.symm;subst hw
   go_wp2_with fail
   refine (u_ k3).mono ?_
   rintro e w1 ⟨rfl,hw⟩
   replace hw:=hw.symm;subst hw
   go_wp2_with fail
   go_ret
   exact ⟨rfl,u_ HB⟩
 . go_enter Tryz.func100,Tryz.ntmps100
   go_wp2_with fail
   try rw [hW0]
   refine (u_ k1).mono ?_
   rintro e w1 ⟨rfl,hw⟩
   replace hw:=hw.symm;subst hw
   clear hW0
   go_wp2_with fail
   refine (u_ k2).mono ?_
   rintro e w1 ⟨rfl,hw⟩
   replace hw:=hw.symm;subst hw
   go_wp2_with fail
   refine (u_ k3).mono ?_
   rintro e w1 ⟨rfl,hw⟩
   replace hw:=hw.symm;subst hw
   go_wp2_with fail
   refine (u_ k4).mono ?_
   rintro e w1 ⟨rfl,hw⟩
   replace hw:=hw.symm;subst hw
   go_wp2_with fail
   go_ret
   exact ⟨by simp,u_ HB⟩
theorem duo {w:World} {b:Nat} {t:TypeId} {v0 v1:Value} (h:Blk w b t [v0,v1]):w.cell? ⟨b,0,none⟩=some v0/\w.cell? ⟨b,1,none⟩=some v1:=⟨h.cell 0,h.cell 1⟩
theorem q2t (m:Fm) (A:MA) (w:World) (hl:m.R.length<=64) (ha:Rls w A.r m.R) :
 Calls Tryz.prog 197 #[mV m A] w fun r w'=>∃ a0 c0,r=.returned (.slice a0 m.R.length c0)/\Strs w' a0 (rNames m)/\Below w.heap.size w w':=by
 obtain ⟨al,alc,ap,apc,ar,arc,af,afc,afa⟩:=A
 unfold mV
 dsimp only at ha ⊢
 have HK:=h_ (Blk.new w 36 #[.slice al m.L.length alc,.slice ap m.P.length apc,.slice ar m.R.length arc,.slice af m.F.length afc])
 have HB:=h_ ((bR w.heap.size w).alloc (nR _) (.cells #[.slice al m.L.length alc,.slice ap m.P.length apc,.slice ar m.R.length arc,.slice af m.F.length afc] 36))
 obtain ⟨W0,hW0⟩:∃ W0,w.alloc (.cells #[.slice al m.L.length alc,.slice ap m.P.length apc,.slice ar m.R.length arc,.slice af m.F.length afc] 36)=W0:=⟨_,rfl⟩
 have hsz:W0.heap.size=w.heap.size+1:=by rw [<- hW0];simp
 rw [hW0] at HK HB
 have HO:Hid (W0.ownsRow (w.heap.size+1) 9 1 (.slice none 0 0) 0 []):=h_ (World.ownsRow_nil _ _ _ _)
 have HA:=h_ ha
 obtain ⟨n,hn⟩:∃ n,m.R.length=n:=⟨_,rfl⟩
 rw [hn] at HK hl hW0 ⊢
 have HN:=h_ hn
 obtain ⟨y0,y1,y2,y3⟩:=quad (u_ HK)
 clear ha hn
 go_enter Tryz.func197,Tryz.ntmps197
 go_wp2_with fail
 try rw [hW0]
 clear hW0 y0 y1 y2 y3
 go_loopw [3,9] (fun v i wr=>∃ k:Nat,k<=n/\i=.int .i64 k/\wr.ownsRow (w.heap.size+1) 9 1 v k (stV ((rNames m).take k))/\Below (w.heap.size+1) W0 wr) (fun _ i _=>n - (intOf i).toNat)
 case atStart=>exact ⟨0,nZ _,rfl,u_ HO,bR _ _⟩
 case round =>
  clear HO
  obtain ⟨k,hk,rfl,hO,hb⟩:=hrel
  have hbw:=(u_ HB).trans (hb.mono (by omega))
  have hws:=hb.size
  have HAr:=h_ ((u_ HA).mono hbw);have HBr:=h_ hb;have HBw:=h_ hbw;have HO:=h_ hO
  clear hb hbw hO
  by_cases hlt:k<n
  . have hlt':(k:Int)<n:=by omega
    have hkl:k<m.R.length:=by have:=u_ HN;omega
    obtain ⟨b,o,rfl,-,z0,z1⟩:=u_ HAr k hkl
    have HT:Hid ((rNames m).take (k+1)=(rNames m).take k++[m.R[k].nm]):=h_ (by
     have hk2:k<(rNames m).length:=by simpa [rNames] using hkl
     rw [List.take_succ_eq_append_getElem hk2];simp [rNames])
    generalize m.R[k]=u at *
    have HKf:=h_ (Blk.new wr 102 #[.string u.nm,.int .i64 u.lb])
    have HBf:=h_ ((u_ HBr).alloc (by omega) (.cells #[.string u.nm,.int .i64 u.lb] 102))
    have HO1:=h_ ((u_ HO).alloc (.cells #[.string u.nm,.int .i64 u.lb] 102))
    obtain ⟨Wd,hWd⟩:∃ Wd,wr.alloc (.cells #[.string u.nm,.int .i64 u.lb] 102)=Wd:=⟨_,rfl⟩
    have hdz:wr.heap.size+1<=Wd.heap.size:=by rw [<- hWd];simp
    rw [hWd] at HKf HBf HO1
    obtain ⟨x0,x1⟩:=duo (u_ HKf)
    obtain ⟨i0,hi,hz0,hz1,hz2⟩:=info_parts qen
    go_wp2_with (at_builtin;refine wpList_append_own _ rfl _ _ 22 rfl (w.heap.size+1) 9 i0 _ 1 16 Tryz.underlying22 hi hz0 hz1 hz2 rfl (by omega) _ _ _ rfl ((u_ HO1).alloc _) ⟨Wd.heap.size,0,none⟩ 1 1 [.string u.nm] rfl rfl (qdt Wd 9 _) (by simp [Value.oneCell']) (by unfold maxLen;omega) (by omega) (by simp;omega) ?_)
    intro v' w3 ho' hgr' _
    have hB2:=((u_ HBf).alloc (by omega) (.cells #[.string u.nm] 9)).grown hgr' (by simp;omega) (fun q' e=>q8y (u_ HO1) e)
    have HO2:Hid (w3.ownsRow (w.heap.size+1) 9 1 v' (k+1) (stV ((rNames m).take (k+1)))):=h_ (by rw [u_ HT,qgg];exact ho')
    have HB2:=h_ hB2
    clear ho' hgr' hB2 hi hz0 hz1 hz2
    go_wp2_with fail
    go_roundw
    case rel=>first | exact ⟨k+1,by omega,by go_num,u_ HO2,u_ HB2⟩ | ((repeat apply Exists.intro);exact ⟨⟨k+1,by omega,by go_num,u_ HO2,u_ HB2⟩,rfl⟩)
    case measure=>simp [intOf];omega
  . obtain rfl:k=n:=by omega
    have hlt':¬ (k:Int)<(k:Int):=by omega
    have hO:=u_ HO
    rw [List.take_of_length_le (by simp [rNames];have:=u_ HN;omega)] at hO
    obtain ⟨a1,c1,rfl,-,hS⟩:=q4e hO
    have HS:=h_ hS
    clear hO hS HO
    go_wp2_with fail
    go_ret
    first | exact ⟨_,⟨_,rfl⟩,u_ HS,u_ HBw⟩ | exact ⟨_,_,rfl,u_ HS,u_ HBw⟩
theorem q1i (m:Fm) (A:MA) (w:World) (hl:m.F.length<=200) (ha:Flds w A.f m.F A.fa) :
 Calls Tryz.prog 113 #[mV m A] w fun r w'=>∃ a0 c0,r=.returned (.slice a0 m.F.length c0)/\Strs w' a0 (fNames m)/\Below w.heap.size w w':=by
 obtain ⟨al,alc,ap,apc,ar,arc,af,afc,afa⟩:=A
 unfold mV
 dsimp only at ha ⊢
 have HK:=h_ (Blk.new w 36 #[.slice al m.L.length alc,.slice ap m.P.length apc,.slice ar m.R.length arc,.slice af m.F.length afc])
 have HB:=h_ ((bR w.heap.size w).alloc (nR _) (.cells #[.slice al m.L.length alc,.slice ap m.P.length apc,.slice ar m.R.length arc,.slice af m.F.length afc] 36))
 obtain ⟨W0,hW0⟩:∃ W0,w.alloc (.cells #[.slice al m.L.length alc,.slice ap m.P.length apc,.slice ar m.R.length arc,.slice af m.F.length afc] 36)=W0:=⟨_,rfl⟩
 have hsz:W0.heap.size=w.heap.size+1:=by rw [<- hW0];simp
 rw [hW0] at HK HB
 have HO:Hid (W0.ownsRow (w.heap.size+1) 9 1 (.slice none 0 0) 0 []):=h_ (World.ownsRow_nil _ _ _ _)
 have HA:=h_ ha
 obtain ⟨n,hn⟩:∃ n,m.F.length=n:=⟨_,rfl⟩
 rw [hn] at HK hl hW0 ⊢
 have HN:=h_ hn
 obtain ⟨y0,y1,y2,y3⟩:=quad (u_ HK)
 clear ha hn
 go_enter Tryz.func113,Tryz.ntmps113
 go_wp2_with fail
 try rw [hW0]
 clear hW0 y0 y1 y2 y3
 go_loopw [3,9] (fun v i wr=>∃ k:Nat,k<=n/\i=.int .i64 k/\wr.ownsRow (w.heap.size+1) 9 1 v k (stV ((fNames m).take k))/\Below (w.heap.size+1) W0 wr) (fun _ i _=>n - (intOf i).toNat)
 case atStart=>exact ⟨0,nZ _,rfl,u_ HO,bR _ _⟩
 case round =>
  clear HO
  obtain ⟨k,hk,rfl,hO,hb⟩:=hrel
  have hbw:=(u_ HB).trans (hb.mono (by omega))
  have hws:=hb.size
  have HAr:=h_ ((u_ HA).mono hbw);have HBr:=h_ hb;have HBw:=h_ hbw;have HO:=h_ hO
  clear hb hbw hO
  by_cases hlt:k<n
  . have hlt':(k:Int)<n:=by omega
    have hkl:k<m.F.length:=by have:=u_ HN;omega
    obtain ⟨b,o,rfl,⟨-,z0,z1,z2,z3,z4,z5,z6,z7,z8⟩,-⟩:=u_ HAr k hkl
    have HT:Hid ((fNames m).take (k+1)=(fNames m).take k++[m.F[k].nm]):=h_ (by
     have hk2:k<(fNames m).length:=by simpa [fNames] using hkl
     rw [List.take_succ_eq_append_getElem hk2];simp [fNames])
    generalize m.F[k]=u at *
    generalize afa k=fa at *
    obtain ⟨ub,ubc,ui',uic,uh,uhc,uv,uvc,uu,uuc⟩:=fa
    dsimp only at z3 z4 z5 z6 z8
    have HKf:=h_ (Blk.new wr 94 #[.string u.nm,.int .i64 u.ty,.int .i64 u.lb,.slice ub u.bys.length ubc,.slice ui' u.is.length uic,.slice uh u.wh.length uhc,.slice uv u.va.length uvc,.string u.sy,.slice uu u.mu.length uuc])
    have HBf:=h_ ((u_ HBr).alloc (by omega) (.cells #[.string u.nm,.int .i64 u.ty,.int .i64 u.lb,.slice ub u.bys.length ubc,.slice ui' u.is.length uic,.slice uh u.wh.length uhc,.slice uv u.va.length uvc,.string u.sy,.slice uu u.mu.length uuc] 94))
    have HO1:=h_ ((u_ HO).alloc (.cells #[.string u.nm,.int .i64 u.ty,.int .i64 u.lb,.slice ub u.bys.length ubc,.slice ui' u.is.length uic,.slice uh u.wh.length uhc,.slice uv u.va.length uvc,.string u.sy,.slice uu u.mu.length uuc] 94))
    obtain ⟨Wd,hWd⟩:∃ Wd,wr.alloc (.cells #[.string u.nm,.int .i64 u.ty,.int .i64 u.lb,.slice ub u.bys.length ubc,.slice ui' u.is.length uic,.slice uh u.wh.length uhc,.slice uv u.va.length uvc,.string u.sy,.slice uu u.mu.length uuc] 94)=Wd:=⟨_,rfl⟩
    have hdz:wr.heap.size+1<=Wd.heap.size:=by rw [<- hWd];simp
    rw [hWd] at HKf HBf HO1
    obtain ⟨x0,x1,x2,x3,x4,x5,x6,x7,x8⟩:=nine (u_ HKf)
    obtain ⟨i0,hi,hz0,hz1,hz2⟩:=info_parts qen
    go_wp2_with (at_builtin;refine wpList_append_own _ rfl _ _ 22 rfl (w.heap.size+1) 9 i0 _ 1 16 Tryz.underlying22 hi hz0 hz1 hz2 rfl (by omega) _ _ _ rfl ((u_ HO1).alloc _) ⟨Wd.heap.size,0,none⟩ 1 1 [.string u.nm] rfl rfl (qdt Wd 9 _) (by simp [Value.oneCell']) (by unfold maxLen;omega) (by omega) (by simp;omega) ?_)
    intro v' w3 ho' hgr' _
    have hB2:=((u_ HBf).alloc (by omega) (.cells #[.string u.nm] 9)).grown hgr' (by simp;omega) (fun q' e=>q8y (u_ HO1) e)
    have HO2:Hid (w3.ownsRow (w.heap.size+1) 9 1 v' (k+1) (stV ((fNames m).take (k+1)))):=h_ (by rw [u_ HT,qgg];exact ho')
    have HB2:=h_ hB2
    clear ho' hgr' hB2 hi hz0 hz1 hz2
    go_wp2_with fail
    go_roundw
    case rel=>first | exact ⟨k+1,by omega,by go_num,u_ HO2,u_ HB2⟩ | ((repeat apply Exists.intro);exact ⟨⟨k+1,by omega,by go_num,u_ HO2,u_ HB2⟩,rfl⟩)
    case measure=>simp [intOf];omega
  . obtain rfl:k=n:=by omega
    have hlt':¬ (k:Int)<(k:Int):=by omega
    have hO:=u_ HO
    rw [List.take_of_length_le (by simp [fNames];have:=u_ HN;omega)] at hO
    obtain ⟨a1,c1,rfl,-,hS⟩:=q4e hO
    have HS:=h_ hS
    clear hO hS HO
    go_wp2_with fail
    go_ret
    first | exact ⟨_,⟨_,rfl⟩,u_ HS,u_ HBw⟩ | exact ⟨_,_,rfl,u_ HS,u_ HBw⟩
end Go.Proofs.YtgkcaeidhkddjaaGreatDoor
