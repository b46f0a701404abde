import Derived.Test.YtebbgodlijlioaaGreatDoorW14
import Derived.Test.YtebbgodlijlioaaGreatDoorW11
set_option maxRecDepth 100000
set_option maxHeartbeats 64000000
namespace Go.Proofs.YtebbgodlijlioaaGreatDoor
open Go Go.RowKit
theorem q4c {w:World}{base:Nat}{e:TypeId}{v:Value}{n:Nat}{l:List ByteArray}(h:w.ownsRow base e 1 v n (stV l)):∃a cap,v=.slice a n cap/\n<=cap/\Strs w a l:=by
 have hlen:l.length=n:=by have:=h.1;simpa [stV] using this
 rcases h.2 with ⟨rfl,rfl⟩ | ⟨g,cap,cur,rfl,hb,hg,hc,-,hs,htake⟩
 . exact⟨none,0,rfl,nR _,fun k hk=>absurd hk (by omega)⟩
 . refine⟨_,cap,rfl,hc,fun k hk=>⟨g,0,rfl,(Yt.1 hg).1,?_⟩⟩
   have:=h.cellAt k (by omega);rw[Zi,this];simp[stV,List.getElem?_eq_getElem hk]
theorem qev (l:List ByteArray)(x:ByteArray):stV (l++[x])=stV l++[.string x]:=by simp[stV]
theorem q14 (m:Fm)(A:MA)(w:World)(hl:m.R.length<=64)(ha:Rls w A.r m.R) :
 Calls Tryz.prog 25 #[mV m A] w fun r w'=>∃a0 c0,r=.returned (.slice a0 m.R.length c0)/\Strs w' a0 (rNames m)/\Below w.heap.size w w':=by
 obtain⟨al,alc,ap,apc,ar,arc,af,afc,afa⟩:=A
 unfold mV
 dsimp only at ha⊢
 have HK:=h_ ((Blk.new w 28 (#[.slice al m.L.length alc,.slice ap m.P.length apc,.slice ar m.R.length arc,.slice af m.F.length afc])).alloc (.cells #[] 9))
 have HB:=h_ (((bR w.heap.size w).alloc (nR _) (.cells (#[.slice al m.L.length alc,.slice ap m.P.length apc,.slice ar m.R.length arc,.slice af m.F.length afc]) 28)).alloc (by simp) (.cells #[] 9))
 have HO:=h_ (qav (w.alloc (.cells (#[.slice al m.L.length alc,.slice ap m.P.length apc,.slice ar m.R.length arc,.slice af m.F.length afc]) 28)) 9)
 rw[Yv]at HO
 obtain⟨W0,hW0⟩:=Nq ((w.alloc (.cells (#[.slice al m.L.length alc,.slice ap m.P.length apc,.slice ar m.R.length arc,.slice af m.F.length afc]) 28)).alloc (.cells #[] 9))
 have hsz:W0.heap.size=w.heap.size+1+1:=by rw[<- hW0];simp
 rw[hW0]at HK HB HO
 have HA:=h_ ha
 obtain⟨n,hn⟩:=Nq m.R.length
 rw[hn]at HK hl hW0⊢
 have HN:=h_ hn
 obtain⟨y0,y1,y2,y3⟩:=quad HK.u
 clear ha hn
 go_enter Tryz.func25,Tryz.ntmps25
 go_wp2_with fail
 try rw[hW0]
 clear hW0 y0 y1 y2 y3
 go_loopw [3,4] (fun v i wr=>∃k:Nat,k<=n/\i=J9 k/\wr.ownsRow (w.heap.size+1) 9 1 v k (stV ((rNames m).take k))/\Below (w.heap.size+1) W0 wr) (fun _ i _=>n - (intOf i).toNat)
 case atStart=>exact⟨0,nZ _,rfl,HO.u,bR _ _⟩
 case round =>
  clear HO;obtain⟨k,hk,rfl,hO,hb⟩:=hrel;have hbw:=HB.u.trans (hb.mono (by omega));have hws:=hb.size;have HKr:=h_ (HK.u.mono hb (by omega));have HAr:=h_ (HA.u.mono hbw);have HBr:=h_ hb;have HBw:=h_ hbw;have HO:=h_ hO;obtain⟨y0,y1,y2,y3⟩:=quad HKr.u;clear hb hbw hO;by_cases hlt:k<n
  . have hlt':(k:Int)<n:=by omega
    have hkl:k<m.R.length:=(by have:=HN.u;omega);obtain⟨b,o,rfl,-,z0,z1⟩:=HAr.u k hkl;have HT:Hi ((rNames m).take (k+1)=(rNames m).take k++[m.R[k].nm]):=h_ (by
     have hk2:k<(rNames m).length:=(by simpa [rNames] using hkl);rw[Yr hk2];simp[rNames])
    generalize m.R[k]=u at *;obtain⟨i0,hi,hz0,hz1,hz2⟩:=info_parts qct;go_wp2_with (at_builtin;refine wpList_append_own _ rfl _ _ 23 rfl (w.heap.size+1) 9 i0 _ 1 16 Tryz.underlying23 hi hz0 hz1 hz2 rfl (by omega) _ _ _ rfl (HO.u.alloc _) ⟨wr.heap.size,0,none⟩ 1 1 [.string u.nm] rfl rfl (qc6 wr 9 _) (by simp[Value.oneCell']) (by unfold maxLen;omega) (by omega) (by simp;omega) ?_);intro v' w3 ho' hgr' _;have hB2:=(HBr.u.alloc (by omega) (.cells #[.string u.nm] 9)).grown hgr' (by simp;omega) (fun q' e=>q87 HO.u e);have HO2:Hi (w3.ownsRow (w.heap.size+1) 9 1 v' (k+1) (stV ((rNames m).take (k+1)))):=h_ (by rw[HT.u,qev];exact ho');have HB2:=h_ hB2;clear ho' hgr' hB2 hi hz0 hz1 hz2;go_wp2_with fail;go_roundw
    case rel=>first | exact⟨k+1,by omega,by go_num,HO2.u,HB2.u⟩ | ((repeat apply Exists.intro);exact⟨⟨k+1,by omega,by go_num,HO2.u,HB2.u⟩,rfl⟩)
    case measure=>simp[intOf];omega
  . obtain rfl:k=n:=by omega
    have hlt':¬ (k:Int)<(k:Int):=(by omega);have hO:=HO.u;rw[Zh (by simp[rNames];have:=HN.u;omega)]at hO;obtain⟨a1,c1,rfl,-,hS⟩:=q4c hO;have HS:=h_ hS;clear hO hS HO;go_wp2_with fail;go_ret
    first | exact⟨_,⟨_,rfl⟩,HS.u,HBw.u⟩ | exact⟨_,_,rfl,HS.u,HBw.u⟩
theorem q0n (m:Fm)(A:MA)(w:World)(hl:m.F.length<=200)(ha:Flds w A.f m.F A.fa) :
 Calls Tryz.prog 23 #[mV m A] w fun r w'=>∃a0 c0,r=.returned (.slice a0 m.F.length c0)/\Strs w' a0 (fNames m)/\Below w.heap.size w w':=by
 obtain⟨al,alc,ap,apc,ar,arc,af,afc,afa⟩:=A
 unfold mV
 dsimp only at ha⊢
 have HK:=h_ ((Blk.new w 28 (#[.slice al m.L.length alc,.slice ap m.P.length apc,.slice ar m.R.length arc,.slice af m.F.length afc])).alloc (.cells #[] 9))
 have HB:=h_ (((bR w.heap.size w).alloc (nR _) (.cells (#[.slice al m.L.length alc,.slice ap m.P.length apc,.slice ar m.R.length arc,.slice af m.F.length afc]) 28)).alloc (by simp) (.cells #[] 9))
 have HO:=h_ (qav (w.alloc (.cells (#[.slice al m.L.length alc,.slice ap m.P.length apc,.slice ar m.R.length arc,.slice af m.F.length afc]) 28)) 9)
 rw[Yv]at HO
 obtain⟨W0,hW0⟩:=Nq ((w.alloc (.cells (#[.slice al m.L.length alc,.slice ap m.P.length apc,.slice ar m.R.length arc,.slice af m.F.length afc]) 28)).alloc (.cells #[] 9))
 have hsz:W0.heap.size=w.heap.size+1+1:=by rw[<- hW0];simp
 rw[hW0]at HK HB HO
 have HA:=h_ ha
 obtain⟨n,hn⟩:=Nq m.F.length
 rw[hn]at HK hl hW0⊢
 have HN:=h_ hn
 obtain⟨y0,y1,y2,y3⟩:=quad HK.u
 clear ha hn
 go_enter Tryz.func23,Tryz.ntmps23
 go_wp2_with fail
 try rw[hW0]
 clear hW0 y0 y1 y2 y3
 go_loopw [3,4] (fun v i wr=>∃k:Nat,k<=n/\i=J9 k/\wr.ownsRow (w.heap.size+1) 9 1 v k (stV ((fNames m).take k))/\Below (w.heap.size+1) W0 wr) (fun _ i _=>n - (intOf i).toNat)
 case atStart=>exact⟨0,nZ _,rfl,HO.u,bR _ _⟩
 case round =>
  clear HO;obtain⟨k,hk,rfl,hO,hb⟩:=hrel;have hbw:=HB.u.trans (hb.mono (by omega));have hws:=hb.size;have HKr:=h_ (HK.u.mono hb (by omega));have HAr:=h_ (HA.u.mono hbw);have HBr:=h_ hb;have HBw:=h_ hbw;have HO:=h_ hO;obtain⟨y0,y1,y2,y3⟩:=quad HKr.u;clear hb hbw hO;by_cases hlt:k<n
  . have hlt':(k:Int)<n:=by omega
    have hkl:k<m.F.length:=(by have:=HN.u;omega);obtain⟨b,o,rfl,⟨-,z0,z1,z2,z3,z4,z5,z6,z7,z8⟩,-⟩:=HAr.u k hkl;have HT:Hi ((fNames m).take (k+1)=(fNames m).take k++[m.F[k].nm]):=h_ (by
     have hk2:k<(fNames m).length:=(by simpa [fNames] using hkl);rw[Yr hk2];simp[fNames])
    generalize m.F[k]=u at *;obtain⟨i0,hi,hz0,hz1,hz2⟩:=info_parts qct;go_wp2_with (at_builtin;refine wpList_append_own _ rfl _ _ 23 rfl (w.heap.size+1) 9 i0 _ 1 16 Tryz.underlying23 hi hz0 hz1 hz2 rfl (by omega) _ _ _ rfl (HO.u.alloc _) ⟨wr.heap.size,0,none⟩ 1 1 [.string u.nm] rfl rfl (qc6 wr 9 _) (by simp[Value.oneCell']) (by unfold maxLen;omega) (by omega) (by simp;omega) ?_);intro v' w3 ho' hgr' _;have hB2:=(HBr.u.alloc (by omega) (.cells #[.string u.nm] 9)).grown hgr' (by simp;omega) (fun q' e=>q87 HO.u e);have HO2:Hi (w3.ownsRow (w.heap.size+1) 9 1 v' (k+1) (stV ((fNames m).take (k+1)))):=h_ (by rw[HT.u,qev];exact ho');have HB2:=h_ hB2;clear ho' hgr' hB2 hi hz0 hz1 hz2;go_wp2_with fail;go_roundw
    case rel=>first | exact⟨k+1,by omega,by go_num,HO2.u,HB2.u⟩ | ((repeat apply Exists.intro);exact⟨⟨k+1,by omega,by go_num,HO2.u,HB2.u⟩,rfl⟩)
    case measure=>simp[intOf];omega
  . obtain rfl:k=n:=by omega
    have hlt':¬ (k:Int)<(k:Int):=(by omega);have hO:=HO.u;rw[Zh (by simp[fNames];have:=HN.u;omega)]at hO;obtain⟨a1,c1,rfl,-,hS⟩:=q4c hO;have HS:=h_ hS;clear hO hS HO;go_wp2_with fail;go_ret
    first | exact⟨_,⟨_,rfl⟩,HS.u,HBw.u⟩ | exact⟨_,_,rfl,HS.u,HBw.u⟩
theorem q0m (f:Fl)(A:FA)(b:Option Addr)(c:Nat)(names:List ByteArray)(w:World)(hf:FitF f)(hn:names.length<=9223372036854775807)(ha:FSl w f A)(hb:Strs w b names) :
 Calls Tryz.prog 27 #[fV f A,.slice b names.length c] w fun r w'=>r=.returned (.bool (fieldKnows names f))/\Below w.heap.size w w':=by
 obtain⟨ab,abc,ai,aic,ah,ahc,av,avc,au,auc⟩:=A
 have HS:=h_ ha;have HN:=h_ hb
 have hk:fieldKnows names f=(knows names f.is&&knows names f.wh&&knows names f.va&&knows names f.mu):=rfl
 unfold fV
 dsimp only
 have HK:=h_ (Blk.new w 42 (Ja f ab abc ai aic ah ahc av avc au auc))
 have HB:=h_ ((bR w.heap.size w).alloc (nR _) (.cells (Ja f ab abc ai aic ah ahc av avc au auc) 42))
 obtain⟨W0,hW0⟩:=Nq (w.alloc (.cells (Ja f ab abc ai aic ah ahc av avc au auc) 42))
 rw[hW0]at HK HB
 replace HS:=h_ (HS.u.mono HB.u);replace HN:=h_ (HN.u.mono HB.u)
 obtain⟨y0,y1,y2,y3,y4,y5,y6,y7,y8⟩:=nine HK.u
 have k1:=h_ (q55 ai b aic c f.is names W0 hf.il hn HS.u.i HN.u)
 have k2:=h_ (q55 ah b ahc c f.wh names W0 hf.hl hn HS.u.h HN.u)
 have k3:=h_ (q55 av b avc c f.va names W0 hf.vl hn HS.u.v HN.u)
 have k4:=h_ (q55 au b auc c f.mu names W0 hf.ul hn HS.u.u HN.u)
 clear ha hb hf hn
 generalize knows names f.is=q1 at *
 generalize knows names f.wh=q2 at *
 generalize knows names f.va=q3 at *
 generalize knows names f.mu=q4 at *
 generalize fieldKnows names f=q at *
 subst hk
 cases q1
 . go_enter Tryz.func27,Tryz.ntmps27
   go_wp2_with fail
   try rw[hW0]
   refine k1.u.mono ?_;rintro e w1 ⟨rfl,hw⟩;replace hw:=hw.symm;subst hw;clear hW0;go_wp2_with fail;go_ret;exact⟨rfl,HB.u⟩
 cases q2
 . go_enter Tryz.func27,Tryz.ntmps27
   go_wp2_with fail
   try rw[hW0]
   refine k1.u.mono ?_;rintro e w1 ⟨rfl,hw⟩;replace hw:=hw.symm;subst hw;clear hW0;go_wp2_with fail;refine k2.u.mono ?_;rintro e w1 ⟨rfl,hw⟩;replace hw:=hw.symm;subst hw;go_wp2_with fail;go_ret;exact⟨rfl,HB.u⟩
 cases q3
 . go_enter Tryz.func27,Tryz.ntmps27
   go_wp2_with fail
   try rw[hW0]
   refine k1.u.mono ?_;rintro e w1 ⟨rfl,hw⟩;replace hw:=hw.symm;subst hw;clear hW0;go_wp2_with fail;refine k2.u.mono ?_;rintro e w1 ⟨rfl,hw⟩;replace hw:=hw.symm;subst hw;go_wp2_with fail;refine k3.u.mono ?_;rintro e w1 ⟨rfl,hw⟩;replace hw:=hw.symm;subst hw;go_wp2_with fail;go_ret;exact⟨rfl,HB.u⟩
 . go_enter Tryz.func27,Tryz.ntmps27
   go_wp2_with fail
   try rw[hW0]
   refine k1.u.mono ?_;rintro e w1 ⟨rfl,hw⟩;replace hw:=hw.symm;subst hw;clear hW0;go_wp2_with fail;refine k2.u.mono ?_;rintro e w1 ⟨rfl,hw⟩;replace hw:=hw.symm;subst hw;go_wp2_with fail;refine k3.u.mono ?_;rintro e w1 ⟨rfl,hw⟩;replace hw:=hw.symm;subst hw;go_wp2_with fail;refine k4.u.mono ?_;rintro e w1 ⟨rfl,hw⟩;replace hw:=hw.symm;subst hw;go_wp2_with fail;go_ret;exact⟨by simp,HB.u⟩
theorem q1z (t:Int)(w:World):Calls Tryz.prog 54 #[J9 t] w fun r w'=>r=.returned (.string ⟨(tyName t).toArray⟩)/\w'=w:=by
 by_cases h1:t=1
 . subst h1
   go_enter Tryz.func54,Tryz.ntmps54;go_wp2;go_ret;exact⟨rfl,rfl⟩
 by_cases h2:t=2
 . subst h2
   go_enter Tryz.func54,Tryz.ntmps54;go_wp2;go_ret;exact⟨rfl,rfl⟩
 . rw[show tyName t=[116,101,120,116] by unfold tyName;rw[Yu h1,Yu h2]]
   have h1':(t==1)=false:=Yf.2 h1;have h2':(t==2)=false:=Yf.2 h2;clear h1 h2;go_enter Tryz.func54,Tryz.ntmps54;go_wp2;go_ret;exact⟨rfl,rfl⟩
theorem q12 (word:ByteArray)(a:Option Addr)(c:Nat)(l:List Nx)(w:World)(hw:word.size<=5)(hr:ruleOk l=true)(ha:NodL w a l)(hf:∀k,k<l.length->Fit (nf l k)) :
 Calls Tryz.prog 55 #[.string word,.slice a l.length c] w fun r w'=>r=.returned (.string ⟨(tRule word.data.toList l).toArray⟩)/\Below w.heap.size w w':=by
 by_cases h0:l.length=0
 . have h0':((l.length:Int)==0)=true:=by simp[h0]
   rw[show tRule word.data.toList l=[] by unfold tRule;rw[Yy h0]];clear h0 hr ha hf;go_enter Tryz.func55,Tryz.ntmps55;go_wp2_with fail;go_ret;exact⟨rfl,bR _ _⟩
 . have h0':((l.length:Int)==0)=false:=Yf.2 (by omega)
   have hv:vxL l=true:=by simp only[ruleOk,Zs,Yq]at hr;exact hr.resolve_left h0
   obtain⟨v1,v2,v3,v4,-,-,v7⟩:=(qk4 _ _).1 hv;have HC:=h_ (q57 a l.length c (nf l) v2 l.length l.length (nR _) v1 (nR _) w ⟨ha,v4,v3,hf⟩);have HT:Hi ((⟨(tRule word.data.toList l).toArray⟩:ByteArray)=⟨#[32]⟩++word++⟨#[32]⟩++(top (nf l) l.length).t):=h_ (by
    refine q8j ?_;unfold tRule;rw[Yu h0];simp[sb,txL,ByteArray.data_append])
   generalize (⟨(tRule word.data.toList l).toArray⟩:ByteArray)=T at *;generalize (top (nf l) l.length).t=q at *;clear hr ha hf hv v1 v2 v3 v4 h0;go_enter Tryz.func55,Tryz.ntmps55;go_wp2_with fail;refine HC.u.mono ?_;rintro r w2 ⟨rfl,hb⟩;have HB:=h_ hb;clear hb HC;have hA:((⟨#[32]⟩:ByteArray)++word).size=1+word.size:=by rw[Yn];rfl
   have hA2:((⟨#[32]⟩:ByteArray)++word++⟨#[32]⟩).size=1+word.size+1:=by rw[Yn,hA];rfl
   go_wp2_with fail;go_ret;exact⟨qj4 HT.u.symm,HB.u⟩
theorem q92 {n:Nat}{l:List Int}{k:Nat}(h:k<l.length)(hg:inR n l[k]=false):bysOk n l=false:=by
 unfold bysOk
 rw[show l.all (inR n)=false from Vc.2 ⟨l[k],Yk h,by simp[hg]⟩]
 rfl
theorem q4l {n:Nat}{l:List Int}{k j:Nat}(h:k<l.length)(hj:j<k)(he:l[k]=l[j]):bysOk n l=false:=by
 unfold bysOk
 rw[Yi (fun hn=>?_),Ol]
 have:=Ve.1 hn j k (by omega) h hj
 exact this he.symm
theorem q94 {n:Nat}{l:List Int}(h1:∀k (h:k<l.length),inR n l[k]=true)(h2:∀k (h:k<l.length) j (hj:j<k),l[k]≠l[j]):bysOk n l=true:=by
 unfold bysOk
 rw[Yp,Y4,Yq]
 refine⟨fun x hx=>?_,Ve.2 fun i j hi hj hij he=>h2 j hj i hij he.symm⟩
 obtain⟨k,hk,rfl⟩:=Y2.1 hx
 exact h1 k hk
end Go.Proofs.YtebbgodlijlioaaGreatDoor
