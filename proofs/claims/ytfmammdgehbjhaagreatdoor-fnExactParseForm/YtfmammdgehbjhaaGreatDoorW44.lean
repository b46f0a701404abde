import Derived.Test.YtfmammdgehbjhaaGreatDoorW16
set_option maxRecDepth 100000
set_option maxHeartbeats 64000000
namespace Go.Proofs.YtfmammdgehbjhaaGreatDoor
open Go Go.RowKit
theorem q9k (s:ByteArray)(w:World)(hs:s.size<=1048576) :
 Calls Tryz.prog 10 #[.string s] w fun r w'=>∃v z,r=.returned (.tuple #[v,Ya z])/\LexA s w' w.heap.size v z/\Below w.heap.size w w':=by
 have HB0:=h_ ((bR w.heap.size w).alloc (nR _) (.cells #[] 41))
 have HO0:=h_ (OwnT.none w)
 obtain⟨W0,hW0⟩:=Nq (w.alloc (.cells #[] 41))
 rw[hW0]at HB0 HO0
 go_enter Tryz.func10,Tryz.ntmps10
 go_wp2_with fail
 try rw[hW0]
 clear hW0
 go_loopw [4,5] (fun v i wr=>∃(k:Nat) (l:List (ByteArray × Nat)),i=Ya k/\LxI s k l/\OwnT wr w.heap.size v l/\Below w.heap.size w wr) (fun _ i _=>s.size - (intOf i).toNat)
 case atStart=>exact⟨0,[],rfl,⟨nZ _,nZ _,LxAt.start s,fun t ht=>by simp at ht⟩,HO0.u,HB0.u⟩
 case round =>
  clear HO0 HB0;obtain⟨k,l,rfl,hi,ho,hb⟩:=hrel;have HI:=h_ hi;have HO:=h_ ho;have HB:=h_ hb;have HLn:Hi (l.length<=1048576):=h_ (by have:=hi.hn;have:=hi.hk;omega);clear hi ho hb;by_cases hlt:k<s.size
  case neg =>
   have hlt':¬ (k:Int)<s.size:=by omega
   have HX:=h_ (HI.u.done hlt HO.u);go_wp2_with fail
   go_ret2
   exact⟨_,_,rfl,HX.u,HB.u⟩
  have hlt':(k:Int)<s.size:=by omega
  obtain⟨c,hc⟩:=Nq (bt s k);have hck:(s[k]).toNat=c:=by rw[<- hc,bt_lt hlt]
  have HSk:=h_ (HI.u.skip hlt);have HNx:=h_ (fun t e=>HI.u.next (t:=t) (e:=e) hlt);have HBd:=h_ (HI.u.bad hlt);have HW:=h_ (qje (n:=runN nameB s k) hlt);have HD:=h_ (tk_num (n:=runN digitB s k) hlt);have HQ:=h_ (tk_txt (s:=s) (i:=k) (n:=runN tb s (k+1)));have HY:=h_ (tk_sym hlt);rw[hc]at HSk HNx HBd HW HD HQ HY;by_cases h32:c=32
  . have h32':((c:Int)==32)=true:=by simp[h32]
    have HX:=h_ (HSk.u (by subst h32;rfl));go_wp2_with fail;go_roundw
    case rel=>exact⟨k+1,l,by go_num,HX.u,HO.u,HB.u⟩
    case measure=>simp[intOf];first | exact Zx hlt hke | omega
  have h32':((c:Int)==32)=false:=Ye.2 (by omega);by_cases h10:c=10
  . have h10':((c:Int)==10)=true:=by simp[h10]
    have HX:=h_ (HSk.u (by subst h10;rfl));go_wp2_with fail;go_roundw
    case rel=>exact⟨k+1,l,by go_num,HX.u,HO.u,HB.u⟩
    case measure=>simp[intOf];first | exact Zx hlt hke | omega
  have h10':((c:Int)==10)=false:=Ye.2 (by omega);have hws:wsB c=false:=by unfold wsB;simp;omega
  replace HNx:=h_ (fun t e=>HNx.u t e hws);replace HBd:=h_ (HBd.u hws);clear HSk h32 h10 hws HI hc;cases h1:small c
  case true =>
   obtain⟨n,hn⟩:=Nq (runN nameB s k);rw[hn]at HW;obtain⟨w1,w2,w3,w4⟩:=HW.u h1 rfl;clear HW HD HQ HY;by_cases h16:n<=16
   . have h16':¬ (16:Int)<n:=by omega
     rw[Yn h16]at w4;obtain⟨e,he⟩:=Nq (k+n);rw[he]at w2 w3 w4;obtain⟨t,ht⟩:=Nq (s.extract k e);rw[ht]at w3 w4;have hw1:=i_add he;have hsub:=qir s (show k<=e by omega) w2;rw[ht]at hsub;have HX:=h_ (HNx.u t e w4);have HC:Hi (cls t=1):=h_ w3;have HTx:Hi (txt t=t):=h_ (txt_eq (by omega));have hke:k<e:=(by omega);clear HNx HBd w4 w3 ht he;have HN:Hi (Blk _ _ 41 (tC (t,k))):=h_ (Blk.new wr 41 (tC (t,k)).toArray);have HS:=h_ ((bR wr.heap.size wr).alloc (nR _) (.cells (tC (t,k)).toArray 41));unfold tC at HN HS;dsimp only at HN HS;rw[HC.u,HTx.u]at HN HS;go_wp2_with (first | (go_at_call 37;refine(q55 _ _).mono ?_;rintro e w' ⟨rfl,rfl⟩;rw[h1]) | (go_at_call 38;refine(q2f s k _ (by omega) (by omega)).mono ?_;rintro e w' ⟨rfl,rfl⟩;rw[hn]) | (at_builtin;refine q5w (n:=(t,k)) rfl _ _ rfl rfl (HO.u.keep HS.u) rfl (by unfold tC;dsimp only;rw[HC.u,HTx.u];exact HN.u) (by have:=HLn.u;omega) (Yt HB.u.size HS.u.size) ?_));intro v' W9 ho hb9;have HO9:=h_ ho;have HB9:=h_ (HB.u.trans ((HS.u.mono HB.u.size).trans hb9));clear ho hb9;go_wp2_with fail;go_roundw
     case rel=>first | exact⟨e,_,rfl,HX.u,HO9.u,HB9.u⟩ | ((repeat apply Exists.intro);exact⟨⟨e,_,rfl,HX.u,HO9.u,HB9.u⟩,rfl⟩)
     case measure=>simp[intOf];exact Zx hlt hke
   . have h16':(16:Int)<n:=by omega
     rw[Yi h16]at w4;have hno:=w4;have HBad:=h_ (HBd.u hno);go_wp2_with (first | (go_at_call 37;refine(q55 _ _).mono ?_;rintro e w' ⟨rfl,rfl⟩;rw[h1]) | (go_at_call 38;refine(q2f s k _ (by omega) (by omega)).mono ?_;rintro e w' ⟨rfl,rfl⟩;rw[hn]))
     go_ret2
     exact⟨_,_,rfl,HBad.u _ _ _,HB.u⟩
  cases h2:digitB c
  case true =>
   obtain⟨n,hn⟩:=Nq (runN digitB s k);rw[hn]at HD;obtain⟨w1,w2,w3,w4⟩:=HD.u h2 rfl;clear HW HD HQ HY;obtain⟨e,he⟩:=Nq (k+n);rw[he]at w2 w3 w4;obtain⟨t,ht⟩:=Nq (s.extract k e);rw[ht]at w3 w4;have hw1:=i_add he;have hsub:=qir s (show k<=e by omega) w2;have htz:t.size<=9223372036854775807:=by rw[<- ht];simp;omega
   rw[ht]at hsub;have hke:k<e:=by omega
   have HC:Hi (cls t=2):=h_ w3;have HTx:Hi (txt t=t):=h_ (txt_eq (by omega));clear w3 ht he;cases hr:readDec t.data.toList
   case none =>
    rw[hr]at w4;have hno:tk s k=none:=w4;have HRd:=h_ (fun w=>q2e t w htz 0 false (by unfold rd;rw[hr]));have HBad:=h_ (HBd.u hno);clear HNx w4;go_wp2_with (first | (go_at_call 37;refine(q55 _ _).mono ?_;rintro e w' ⟨rfl,rfl⟩;rw[h1]) | (go_at_call 39;refine(q0s _ _).mono ?_;rintro e w' ⟨rfl,rfl⟩;rw[h2]) | (go_at_call 40;refine(q1q s k _ (by omega) (by omega)).mono ?_;rintro e w' ⟨rfl,rfl⟩;rw[hn]));refine(HRd.u _).mono ?_;rintro e' W2 ⟨rfl,hb⟩;replace HB:=mT HB hb;clear hb;go_wp2_with fail
    go_ret2
    exact⟨_,_,rfl,HBad.u _ _ _,HB.u⟩
   case some x =>
    rw[hr]at w4;have HRd:=h_ (fun w=>q2e t w htz x true (by unfold rd;rw[hr]));have HX:=h_ (HNx.u t e w4);clear HNx HBd w4;go_wp2_with (first | (go_at_call 37;refine(q55 _ _).mono ?_;rintro e w' ⟨rfl,rfl⟩;rw[h1]) | (go_at_call 39;refine(q0s _ _).mono ?_;rintro e w' ⟨rfl,rfl⟩;rw[h2]) | (go_at_call 40;refine(q1q s k _ (by omega) (by omega)).mono ?_;rintro e w' ⟨rfl,rfl⟩;rw[hn]));refine(HRd.u _).mono ?_;rintro e' W2 ⟨rfl,hb⟩;replace HB:=mT HB hb;replace HO:=h_ (HO.u.keep hb);clear hb;have HN:Hi (Blk _ _ 41 (tC (t,k))):=h_ (Blk.new W2 41 (tC (t,k)).toArray);have HS:=h_ ((bR W2.heap.size W2).alloc (nR _) (.cells (tC (t,k)).toArray 41));unfold tC at HN HS;dsimp only at HN HS;rw[HC.u,HTx.u]at HN HS;go_wp2_with (first | (at_builtin;refine q5w (n:=(t,k)) rfl _ _ rfl rfl (HO.u.keep HS.u) rfl (by unfold tC;dsimp only;rw[HC.u,HTx.u];exact HN.u) (by have:=HLn.u;omega) (Yt HB.u.size HS.u.size) ?_));intro v' W9 ho hb9;have HO9:=h_ ho;have HB9:=h_ (HB.u.trans ((HS.u.mono HB.u.size).trans hb9));clear ho hb9;go_wp2_with fail;go_roundw
    case rel=>first | exact⟨e,_,rfl,HX.u,HO9.u,HB9.u⟩ | ((repeat apply Exists.intro);exact⟨⟨e,_,rfl,HX.u,HO9.u,HB9.u⟩,rfl⟩)
    case measure=>simp[intOf];exact Zx hlt hke
  by_cases h3:c=34
  . have h3':((c:Int)==34)=true:=by simp[h3]
    obtain⟨k1,hk1⟩:=Nq (k+1);rw[hk1]at HQ;obtain⟨n,hn⟩:=Nq (runN tb s k1);have hnl:=qio tb s k1;rw[hn]at HQ hnl;obtain⟨q1,q2⟩:=HQ.u h3 rfl;clear h3;obtain⟨k2,hk2⟩:=Nq (k1+n);rw[hk2]at q1 q2;have wk1:=i_one hk1;have wk2:=i_add hk2;clear HW HD HQ HY;by_cases hg:k2<s.size
    case neg =>
     have hg':=i_le (Nat.le_of_not_lt hg);have hno:=q1 (fun h=>hg h.1);clear q1 q2;have HBad:=h_ (HBd.u hno);go_wp2_with (first | (go_at_call 37;refine(q55 _ _).mono ?_;rintro e w' ⟨rfl,rfl⟩;rw[h1]) | (go_at_call 39;refine(q0s _ _).mono ?_;rintro e w' ⟨rfl,rfl⟩;rw[h2]) | (go_at_call 42;refine(q2g s k1 _ (by omega) (by omega)).mono ?_;rintro e w' ⟨rfl,rfl⟩;rw[hn]))
     go_ret2
     exact⟨_,_,rfl,HBad.u _ _ _,HB.u⟩
    have hg':=i_nle (Nat.not_le_of_lt hg);have hg2:=i_lt hg;obtain⟨d,hd⟩:=Nq (bt s k2);have hdk:(s[k2]).toNat=d:=(by rw[<- hd,bt_lt hg]);rw[hd]at q1 q2;by_cases hqd:d=34
    case neg =>
     have hqd':((d:Int)==34)=false:=Ye.2 (by omega);have hno:=q1 (fun h=>hqd h.2.1);clear q1 q2;have HBad:=h_ (HBd.u hno);go_wp2_with (first | (go_at_call 37;refine(q55 _ _).mono ?_;rintro e w' ⟨rfl,rfl⟩;rw[h1]) | (go_at_call 39;refine(q0s _ _).mono ?_;rintro e w' ⟨rfl,rfl⟩;rw[h2]) | (go_at_call 42;refine(q2g s k1 _ (by omega) (by omega)).mono ?_;rintro e w' ⟨rfl,rfl⟩;rw[hn]))
     go_ret2
     exact⟨_,_,rfl,HBad.u _ _ _,HB.u⟩
    have hqd':((d:Int)==34)=true:=(by simp[hqd]);by_cases hth:n<=1000
    case neg =>
     have hth':(1000:Int)<n:=(by omega);have hno:=q1 (fun h=>hth h.2.2);clear q1 q2;have HBad:=h_ (HBd.u hno);go_wp2_with (first | (go_at_call 37;refine(q55 _ _).mono ?_;rintro e w' ⟨rfl,rfl⟩;rw[h1]) | (go_at_call 39;refine(q0s _ _).mono ?_;rintro e w' ⟨rfl,rfl⟩;rw[h2]) | (go_at_call 42;refine(q2g s k1 _ (by omega) (by omega)).mono ?_;rintro e w' ⟨rfl,rfl⟩;rw[hn]))
     go_ret2
     exact⟨_,_,rfl,HBad.u _ _ _,HB.u⟩
    have hth':¬ (1000:Int)<n:=(by omega);obtain⟨q3,q4,q5⟩:=q2 hg hqd hth;obtain⟨e,he⟩:=Nq (k+n+2);rw[he]at q3 q4 q5;obtain⟨kn,hkn2⟩:=Nq (k+n);have hkn:=i_add hkn2;have hwe:(kn:Int)+2=(e:Int):=i_two (by omega);obtain⟨t,ht⟩:=Nq (s.extract k e);obtain⟨x,hx⟩:=Nq (s.extract k1 k2);rw[ht]at q3 q4 q5;rw[hx]at q5;have hsub:=qir s (show k1<=k2 by omega) (show k2<=s.size by omega);rw[hx]at hsub;have HX:=h_ (HNx.u t e q3);have HC:Hi (cls t=3):=h_ q4;have HTx:Hi (txt t=x):=h_ q5;have hke:k<e:=(by omega);clear HNx HBd q1 q2 q3 q4 q5 ht he hx hkn2 hk1 hk2;have HN:Hi (Blk _ _ 41 (tC (t,k))):=h_ (Blk.new wr 41 (tC (t,k)).toArray);have HS:=h_ ((bR wr.heap.size wr).alloc (nR _) (.cells (tC (t,k)).toArray 41));unfold tC at HN HS;dsimp only at HN HS;rw[HC.u,HTx.u]at HN HS;go_wp2_with (first | (go_at_call 37;refine(q55 _ _).mono ?_;rintro e w' ⟨rfl,rfl⟩;rw[h1]) | (go_at_call 39;refine(q0s _ _).mono ?_;rintro e w' ⟨rfl,rfl⟩;rw[h2]) | (go_at_call 42;refine(q2g s k1 _ (by omega) (by omega)).mono ?_;rintro e w' ⟨rfl,rfl⟩;rw[hn]) | (at_builtin;refine q5w (n:=(t,k)) rfl _ _ rfl rfl (HO.u.keep HS.u) rfl (by unfold tC;dsimp only;rw[HC.u,HTx.u];exact HN.u) (by have:=HLn.u;omega) (Yt HB.u.size HS.u.size) ?_));intro v' W9 ho hb9;have HO9:=h_ ho;have HB9:=h_ (HB.u.trans ((HS.u.mono HB.u.size).trans hb9));clear ho hb9;go_wp2_with fail;go_roundw
    case rel=>first | exact⟨e,_,rfl,HX.u,HO9.u,HB9.u⟩ | ((repeat apply Exists.intro);exact⟨⟨e,_,rfl,HX.u,HO9.u,HB9.u⟩,rfl⟩)
    case measure=>simp[intOf];first | exact Zx hlt hke | omega
  have h3':((c:Int)==34)=false:=Ye.2 (by omega);obtain⟨s1,s2,s3⟩:=HY.u h1 h2 h3;obtain⟨e1,he1⟩:=Nq (k+1);obtain⟨e2,he2⟩:=Nq (k+2);rw[he1]at s2 s3;rw[he2]at s1 s2 s3;have we1:=i_one he1;have we2:=i_two he2;clear HW HD HQ HY;obtain⟨t,ht⟩:=Nq (s.extract k e1);obtain⟨t2,ht2⟩:∃t,s.extract k e2=t:=⟨_,rfl⟩;rw[ht]at s2 s3;rw[ht2]at s1 s2 s3;have hsub:=qir s (show k<=e1 by omega) (show e1<=s.size by omega);rw[ht]at hsub;by_cases hg:e2<=s.size
  case neg =>
   have hg':=i_nle hg;have hn2:¬ (e2<=s.size/\symS t2=true):=fun h=>hg h.1;cases h5:symS t
   case false =>
    have hno:=s3 hn2 h5;clear s1 s2 s3;have HBad:=h_ (HBd.u hno);go_wp2_with (first | (go_at_call 37;refine(q55 _ _).mono ?_;rintro e w' ⟨rfl,rfl⟩;rw[h1]) | (go_at_call 39;refine(q0s _ _).mono ?_;rintro e w' ⟨rfl,rfl⟩;rw[h2]) | (go_at_call 43;refine(q1u _ _).mono ?_;rintro e w' ⟨rfl,rfl⟩;rw[h5]))
    go_ret2
    exact⟨_,_,rfl,HBad.u _ _ _,HB.u⟩
   obtain⟨q3,q4⟩:=s2 hn2 h5;have HX:=h_ (HNx.u t e1 q3);have HC:Hi (cls t=4):=h_ q4;have HTx:Hi (txt t=t):=h_ (txt_eq (by omega));have hke:k<e1:=by omega
   clear HNx HBd s1 s2 s3 q3 q4 ht ht2;have HN:Hi (Blk _ _ 41 (tC (t,k))):=h_ (Blk.new wr 41 (tC (t,k)).toArray);have HS:=h_ ((bR wr.heap.size wr).alloc (nR _) (.cells (tC (t,k)).toArray 41));unfold tC at HN HS;dsimp only at HN HS;rw[HC.u,HTx.u]at HN HS;go_wp2_with (first | (go_at_call 37;refine(q55 _ _).mono ?_;rintro e w' ⟨rfl,rfl⟩;rw[h1]) | (go_at_call 39;refine(q0s _ _).mono ?_;rintro e w' ⟨rfl,rfl⟩;rw[h2]) | (go_at_call 43;refine(q1u _ _).mono ?_;rintro e w' ⟨rfl,rfl⟩;rw[h5]) | (at_builtin;refine q5w (n:=(t,k)) rfl _ _ rfl rfl (HO.u.keep HS.u) rfl (by unfold tC;dsimp only;rw[HC.u,HTx.u];exact HN.u) (by have:=HLn.u;omega) (Yt HB.u.size HS.u.size) ?_));intro v' W9 ho hb9;have HO9:=h_ ho;have HB9:=h_ (HB.u.trans ((HS.u.mono HB.u.size).trans hb9));clear ho hb9;go_wp2_with fail;go_roundw
   case rel=>first | exact⟨e1,_,rfl,HX.u,HO9.u,HB9.u⟩ | ((repeat apply Exists.intro);exact⟨⟨e1,_,rfl,HX.u,HO9.u,HB9.u⟩,rfl⟩)
   case measure=>simp[intOf];first | exact Zx hlt hke | omega
  have hg':=i_le hg;have hsub2:=qir s (show k<=e2 by omega) hg;rw[ht2]at hsub2;cases h4:symS t2
  case false =>
   have hn2:¬ (e2<=s.size/\symS t2=true):=fun h=>by rw[h4]at h;cases h.2
   cases h5:symS t
   case false =>
    have hno:=s3 hn2 h5;clear s1 s2 s3;have HBad:=h_ (HBd.u hno);go_wp2_with (first | (go_at_call 37;refine(q55 _ _).mono ?_;rintro e w' ⟨rfl,rfl⟩;rw[h1]) | (go_at_call 39;refine(q0s _ _).mono ?_;rintro e w' ⟨rfl,rfl⟩;rw[h2]) | (go_at_call 43;refine(q1u _ _).mono ?_;rintro e w' ⟨rfl,rfl⟩;first | rw[h4] | rw[h5]))
    go_ret2
    exact⟨_,_,rfl,HBad.u _ _ _,HB.u⟩
   obtain⟨q3,q4⟩:=s2 hn2 h5;have HX:=h_ (HNx.u t e1 q3);have HC:Hi (cls t=4):=h_ q4;have HTx:Hi (txt t=t):=h_ (txt_eq (by omega));have hke:k<e1:=by omega
   clear HNx HBd s1 s2 s3 q3 q4 ht ht2;have HN:Hi (Blk _ _ 41 (tC (t,k))):=h_ (Blk.new wr 41 (tC (t,k)).toArray);have HS:=h_ ((bR wr.heap.size wr).alloc (nR _) (.cells (tC (t,k)).toArray 41));unfold tC at HN HS;dsimp only at HN HS;rw[HC.u,HTx.u]at HN HS;go_wp2_with (first | (go_at_call 37;refine(q55 _ _).mono ?_;rintro e w' ⟨rfl,rfl⟩;rw[h1]) | (go_at_call 39;refine(q0s _ _).mono ?_;rintro e w' ⟨rfl,rfl⟩;rw[h2]) | (go_at_call 43;refine(q1u _ _).mono ?_;rintro e w' ⟨rfl,rfl⟩;first | rw[h4] | rw[h5]) | (at_builtin;refine q5w (n:=(t,k)) rfl _ _ rfl rfl (HO.u.keep HS.u) rfl (by unfold tC;dsimp only;rw[HC.u,HTx.u];exact HN.u) (by have:=HLn.u;omega) (Yt HB.u.size HS.u.size) ?_));intro v' W9 ho hb9;have HO9:=h_ ho;have HB9:=h_ (HB.u.trans ((HS.u.mono HB.u.size).trans hb9));clear ho hb9;go_wp2_with fail;go_roundw
   case rel=>first | exact⟨e1,_,rfl,HX.u,HO9.u,HB9.u⟩ | ((repeat apply Exists.intro);exact⟨⟨e1,_,rfl,HX.u,HO9.u,HB9.u⟩,rfl⟩)
   case measure=>simp[intOf];first | exact Zx hlt hke | omega
  obtain⟨q3,q4⟩:=s1 hg h4;have HX:=h_ (HNx.u t2 e2 q3);have HC:Hi (cls t2=4):=h_ q4;have HTx:Hi (txt t2=t2):=h_ (txt_eq (by omega));have hke:k<e2:=by omega
  clear HNx HBd s1 s2 s3 q3 q4 ht ht2;have HN:Hi (Blk _ _ 41 (tC (t2,k))):=h_ (Blk.new wr 41 (tC (t2,k)).toArray);have HS:=h_ ((bR wr.heap.size wr).alloc (nR _) (.cells (tC (t2,k)).toArray 41));unfold tC at HN HS;dsimp only at HN HS;rw[HC.u,HTx.u]at HN HS;go_wp2_with (first | (go_at_call 37;refine(q55 _ _).mono ?_;rintro e w' ⟨rfl,rfl⟩;rw[h1]) | (go_at_call 39;refine(q0s _ _).mono ?_;rintro e w' ⟨rfl,rfl⟩;rw[h2]) | (go_at_call 43;refine(q1u _ _).mono ?_;rintro e w' ⟨rfl,rfl⟩;rw[h4]) | (at_builtin;refine q5w (n:=(t2,k)) rfl _ _ rfl rfl (HO.u.keep HS.u) rfl (by unfold tC;dsimp only;rw[HC.u,HTx.u];exact HN.u) (by have:=HLn.u;omega) (Yt HB.u.size HS.u.size) ?_));intro v' W9 ho hb9;have HO9:=h_ ho;have HB9:=h_ (HB.u.trans ((HS.u.mono HB.u.size).trans hb9));clear ho hb9;go_wp2_with fail;go_roundw
  case rel=>first | exact⟨e2,_,rfl,HX.u,HO9.u,HB9.u⟩ | ((repeat apply Exists.intro);exact⟨⟨e2,_,rfl,HX.u,HO9.u,HB9.u⟩,rfl⟩)
  case measure=>simp[intOf];first | exact Zx hlt hke | omega
end Go.Proofs.YtfmammdgehbjhaaGreatDoor
