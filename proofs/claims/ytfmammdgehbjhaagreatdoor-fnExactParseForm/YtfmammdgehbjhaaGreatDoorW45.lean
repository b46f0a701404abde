import Derived.Test.YtfmammdgehbjhaaGreatDoorW41
import Derived.Test.YtfmammdgehbjhaaGreatDoorW42
import Derived.Test.YtfmammdgehbjhaaGreatDoorW43
import Derived.Test.YtfmammdgehbjhaaGreatDoorW44
import Derived.Test.YtfmammdgehbjhaaGreatDoorW36
import Derived.Laws.BytesString
set_option maxRecDepth 100000
set_option maxHeartbeats 64000000
namespace Go.Proofs.YtfmammdgehbjhaaGreatDoor
open Go Go.RowKit
theorem twin {w:World}{b:Nat}{t:TypeId}{v0 v1:Value}(h:Blk w b t [v0,v1]):w.cell? ⟨b,0,none⟩=some v0/\w.cell? ⟨b,1,none⟩=some v1:=⟨h.cell 0,h.cell 1⟩
theorem i64_z (x:Int)(h:-4294967296<x)(h':x<4294967296):IntKind.i64.wrap x=x:=by
 simp[IntKind.wrap,IntKind.bits,IntKind.signed]
 omega
theorem q75 (T:List ByteArray)(a:Option Addr)(c:Nat)(w:World)(hc:T.length<=c)(hl:T.length<=1048576)(ht:TkOk T)(ha:Tks w a T):Calls Tryz.prog 12 #[.slice a T.length c] w (StmO w T):=by
 cases h:cF T
 . exact q0l T h a c w hc hl ht ha
 . exact q0m T (.inr (.inr (.inr h))) a c w hc hl ht ha
theorem q9g (T:List ByteArray)(m:Fm)(P:List (Fl × FA))(last:Nat)(x:Sx)(v1 v2 v3 v4 v:Value)(base:Nat)(w:World)(hT:StG T x)(hl2:T.length<=1048576)(hz:∀t,t∈T->t.size<=1048576)(hb0:base<=w.heap.size)(hm:OwM w base v1 v2 v3 v4 m P)(hv:VfB m)(hx:SxV w base v x)(hl:last<=4) :
 Calls Tryz.prog 13 #[.agg #[v1,v2,v3,v4],v,Ya (last:Nat)] w (AddO w base m last x):=by
 obtain⟨f0,f1,f2,f3,f4⟩:=hT.fit hl2 hz
 rcases hT.kinds with h | h | h | h
 . exact q4y m P last x v1 v2 v3 v4 v base w h hb0 hm hv hx hl
 . exact q4w m P last x v1 v2 v3 v4 v base w h hb0 hm hv hx hl
 . exact q6z m P last x v1 v2 v3 v4 v base w h hb0 hm hv hx hl
 . exact q4x m P last x v1 v2 v3 v4 v base w h hb0 hm hv hx hl f0 f1 f2 f3 f4
def FrO (s:ByteArray)(w:World)(r:Ending)(w':World):Prop:=∃(m:Fm) (code at':Int) (v1 v2 v3 v4:Value) (P:List (Fl × FA)),FrmA s m code at'/\VfB m/\Flt m/\r=.returned (.tuple #[.agg #[v1,v2,v3,v4],.agg #[.int .i64 code,.int .i64 at']])/\OwM w' w.heap.size v1 v2 v3 v4 m P/\Below w.heap.size w w'
theorem q3u (s:ByteArray)(w:World)(hs:s.size<=1048576) :
 Calls Tryz.prog 4 #[.string s] w (FrO s w):=by
 have HB:=h_ (((bR w.heap.size w).alloc (nR _) (.cells Jc 27)).alloc (by simp) (.cells J4 29))
 have HZ:=h_ ((Blk.new w 27 Jc).alloc (.cells J4 29))
 have HD:=h_ (Blk.new (w.alloc (.cells Jc 27)) 29 J4)
 rw[Yy]at HD
 obtain⟨W0,hW0⟩:=Nq ((w.alloc (.cells Jc 27)).alloc (.cells J4 29))
 have hz0:W0.heap.size=w.heap.size+2:=by rw[<- hW0];simp
 rw[hW0]at HB HZ HD
 by_cases hbig:30000<s.size
 case pos =>
  have hbig':(30000:Int)<(s.size:Int):=by omega
  have HA:Hi (FrmA s fm0 1 0):=h_ (.inl ⟨hbig,rfl,rfl,rfl⟩);clear hbig;go_enter Tryz.func4,Tryz.ntmps4;go_upto_region 2 with fail
  try rw[hW0]
  have HD2:=h_ (HD.u.rowS_other (g:=w.heap.size) (by omega) Jc);have hZ3:=(HZ.u.rowS Jc.toList).rowS_other (g:=w.heap.size+1) (by omega) #[Ya 1,Ya 0];have hD3:=HD2.u.rowS #[Ya 1,Ya 0].toList;obtain⟨p0,p1,p2,p3⟩:=quad hZ3;obtain⟨p4,p5⟩:=twin hD3;go_wp2_with (first | (refine stR HZ.u ?_) | (refine stR HD2.u ?_));exact bodyPost_ret (v:=.tuple #[.agg Jc,.agg #[Ya 1,Ya 0]]) (by simp[results,Tryz.results4,go_sem,p0,p1,p2,p3,p4,p5]) rfl ⟨fm0,1,0,_,_,_,_,[],HA.u,qjp,qgc,rfl,OwM.nil _ _,q8i (q8i HB.u (nR _) _) (by omega) _⟩
 have hbig':¬ (30000:Int)<(s.size:Int):=by omega
 have HLx:=h_ (q9k s W0 hs)
 have HLe:Hi (s.size<=30000):=h_ (by omega)
 clear hbig
 go_enter Tryz.func4,Tryz.ntmps4
 go_wp2_with fail
 try rw[hW0]
 clear hW0
 refine HLx.u.mono ?_
 rintro e W1 ⟨vt,z,rfl,hsc,hb1⟩
 replace HZ:=h_ (HZ.u.mono hb1 (by omega));replace HD:=h_ (HD.u.mono hb1 (by omega));replace HB:=h_ (HB.u.trans (hb1.mono (by omega)))
 have hz1:=hb1.size
 clear hb1 HLx
 unfold LexA at hsc
 cases hlx:lxF s s.size 0 [] with
 | inl i =>
  rw[hlx]at hsc;obtain rfl:=hsc;have HA:Hi (FrmA s fm0 2 (i:Nat)):=h_ (.inr ⟨HLe.u,.inl ⟨i,hlx,rfl,rfl,rfl⟩⟩);have hz:(0:Int)<=(i:Int):=by omega
  clear hlx
  as_aux_lemma =>
   have HD2:=h_ (HD.u.rowS_other (g:=w.heap.size) (by omega) Jc);have hZ3:=(HZ.u.rowS Jc.toList).rowS_other (g:=w.heap.size+1) (by omega) #[Ya 2,Ya (i:Nat)];have hD3:=HD2.u.rowS #[Ya 2,Ya (i:Nat)].toList;obtain⟨p0,p1,p2,p3⟩:=quad hZ3;obtain⟨p4,p5⟩:=twin hD3;go_upto_region 5 with fail
   go_wp2_with (first | (refine stR HZ.u ?_) | (refine stR HD2.u ?_));exact bodyPost_ret (v:=.tuple #[.agg Jc,.agg #[Ya 2,Ya (i:Nat)]]) (by simp[results,Tryz.results4,go_sem,p0,p1,p2,p3,p4,p5]) rfl ⟨fm0,2,(i:Nat),_,_,_,_,[],HA.u,qjp,qgc,rfl,OwM.nil _ _,q8i (q8i HB.u (nR _) _) (by omega) _⟩
 | inr ts =>
  rw[hlx]at hsc;obtain⟨rfl,lp,hos,hmp,hln,hvt⟩:=hsc;have HI:=h_ (PfI.start HLe.u hlx);obtain⟨a,c,rfl,hcl,hst⟩:=hos.toks;rw[<- Zf (·.1),hmp]at hcl;rw[hmp]at hst⊢;have hts:∀t,t∈ts->t.size<=1048576:=fun t ht=>by have:=(hvt t ht).2;omega
  have htl:ts.length<=1048576:=by omega
  have HTs:=h_ hts;have HTk:Hi (TkOk ts):=h_ (fun t ht=>⟨(hvt t ht).1,hts t ht⟩);have HSt:=h_ hst;obtain⟨G,hG⟩:=Nq W1.heap.size;have hb2:=(bR W1.heap.size W1).alloc (nR _) (.cells Jc 27);have hK:=Blk.new W1 27 Jc;obtain⟨X1,hX1⟩:=Nq (W1.alloc (.cells Jc 27));have hzx:X1.heap.size=G+1:=by rw[<- hX1];simp[hG]
  rw[hX1]at hb2 hK;rw[hG]at hK hb2;have HK:=h_ hK;have hb3:=q8i hb2 (g:=G) (nR _) Jc;have hK3:=hK.rowS (Jc).toList;obtain⟨X2,hX2⟩:=Nq (X1.setRow G Jc);have hz2:X2.heap.size=G+1:=by rw[<- hX2];simp[World.setRow,hzx]
  rw[hX2]at hb3;replace hK3:Blk X2 G 27 (Jc).toList:=by rw[<- hX2];exact hK3
  have HK3:=h_ hK3;have HB3:=h_ hb3;clear hos hln hvt hst hlx hmp hts hb2 hK hb3 hK3;go_upto_region 6 with fail
  go_wp2_with ((try rw[hX1]);(try rw[hG]);refine stR HK.u ?_)
  try rw[hX2]
  clear hX1 hX2 HK;go_loopw [7,8,9,10] (fun v7 v8 v9 v10 wr=>∃(m:Fm) (P:List (Fl × FA)) (u1 u2 u3 u4:Value) (last idx fr i:Nat),v7=Ya idx/\v8=Ya fr/\v9=Ya last/\v10=Ya i/\PfI s ts m last idx fr i/\Blk wr G 27 [u1,u2,u3,u4]/\OwM wr (G+1) u1 u2 u3 u4 m P/\Below G W1 wr) (fun _ _ _ v10 _=>ts.length - (intOf v10).toNat)
  case atStart=>exact⟨fm0,[],_,_,_,_,0,0,0,0,rfl,rfl,rfl,rfl,HI.u,HK3.u,OwM.nil _ _,HB3.u⟩
  case round =>
   obtain⟨m,P,u1,u2,u3,u4,last,idx,fr,i,rfl,rfl,rfl,rfl,hI,hK,hM,hb⟩:=hrel;clear HI HK3 HB3;obtain⟨A,-,hsl,rfl,rfl,rfl,rfl,-⟩:=hM.sl;have HI:=h_ hI;have HK:=h_ hK;have HM:=h_ hM;have HBg:=h_ hb;have HSl:=h_ hsl;have hfi:=hI.fi;have hil:=hI.il;have hla:=hI.la;have hix:=hI.ix;have HStr:Hi (Tks wr a ts):=h_ (HSt.u.mono (by rw[hG];exact hb));have HZr:=h_ (HZ.u.mono hb (by omega));have HDr:=h_ (HD.u.mono hb (by omega));have HBr:=h_ (HB.u.trans (hb.mono (by omega)));have hGw:G+1<=wr.heap.size:=hK.lt;clear hI hK hM hb hsl;by_cases hlt:i<ts.length
   case neg =>
    as_aux_lemma =>
     obtain rfl:i=ts.length:=(by omega);have hlt':¬ (ts.length:Int)<(ts.length:Int):=(by omega);by_cases hfl:fr<ts.length
     case pos =>
      as_aux_lemma =>
       have hfl':(fr:Int)<(ts.length:Int):=(by omega);have HA:=h_ (HI.u.rest hfl);replace HZ:=HZr;replace HD:=HDr;replace HB:=HBr;clear hfl;have HD2:=h_ (HD.u.rowS_other (g:=w.heap.size) (by omega) Jc);have hZ3:=(HZ.u.rowS Jc.toList).rowS_other (g:=w.heap.size+1) (by omega) #[Ya 3,Ya (idx:Nat)];have hD3:=HD2.u.rowS #[Ya 3,Ya (idx:Nat)].toList;obtain⟨p0,p1,p2,p3⟩:=quad hZ3;obtain⟨p4,p5⟩:=twin hD3;go_upto_region 23 with fail
       go_wp2_with (first | (refine stR HZ.u ?_) | (refine stR HD2.u ?_));exact bodyPost_ret (v:=.tuple #[.agg Jc,.agg #[Ya 3,Ya (idx:Nat)]]) (by simp[results,Tryz.results4,go_sem,p0,p1,p2,p3,p4,p5]) rfl ⟨fm0,3,(idx:Nat),_,_,_,_,[],HA.u,qjp,qgc,rfl,OwM.nil _ _,q8i (q8i HB.u (nR _) _) (by omega) _⟩
     have hfl':¬ (fr:Int)<(ts.length:Int):=(by omega);have HDn:=h_ (HI.u.done hfl);have HV:=h_ HI.u.v;have HFt:=h_ HI.u.f;have hnf:=HI.u.v.nf;have HFm:=h_ (HV.u.fitM HFt.u);have HNm:=h_ (q0k m A wr hnf HSl.u.f);unfold mV at HNm;obtain⟨g0,g1,g2,g3⟩:=quad HK.u;clear hfl HI;go_wp2_with fail;refine HNm.u.mono ?_;rintro e W5 ⟨an,cn,rfl,hnm,hb5⟩;have hz5:=hb5.size;replace HZ:=h_ (HZr.u.mono hb5 (by omega));replace HD:=h_ (HDr.u.mono hb5 (by omega));replace HB:=h_ (HBr.u.trans (hb5.mono (by omega)));replace HK:=mB HK hb5;replace HM:=h_ (HM.u.mono hb5);replace HSl:=h_ (HSl.u.mono hb5);have HN:=h_ hnm;clear hnm hb5 HNm g0 g1 g2 g3 HZr HDr HBr HBg HStr;obtain⟨al,alc,ap,apc,ar,arc,af,afc,afa⟩:=A;dsimp only at HK HM;go_wp2_with fail;go_loopw [15] (fun v wq=>∃k:Nat,k<=m.F.length/\v=Ya k/\(∀j (h:j<m.F.length),j<k->fieldKnows (fNames m) m.F[j]=true)/\Below W5.heap.size W5 wq) (fun v _=>m.F.length - (intOf v).toNat)
     case atStart=>exact⟨0,nZ _,rfl,(fun j _ h=>absurd h (nL _)),bR _ _⟩
     case round =>
      obtain⟨k,hk,rfl,hall,hb⟩:=hrel;have hzr:=hb.size;have HL:=h_ hall;replace HZ:=h_ (HZ.u.mono hb (by omega));replace HD:=h_ (HD.u.mono hb (by omega));replace HB:=h_ (HB.u.trans (hb.mono (by omega)));replace HK:=mB HK hb;have HM6:=h_ (HM.u.mono hb);replace HSl:=h_ (HSl.u.mono hb);replace HN:=h_ (HN.u.mono hb);have HBk:=h_ hb;clear hall hb;obtain⟨g0,g1,g2,g3⟩:=quad HK.u;by_cases hkl:k<m.F.length
      case pos =>
       as_aux_lemma =>
        have hkl':(k:Int)<(m.F.length:Int):=(by omega);obtain⟨pb,po,haf,hcel,hsf⟩:=HSl.u.f k hkl;dsimp only at haf hcel hsf;subst haf;obtain⟨fa,hfa⟩:=Nq (afa k);rw[hfa]at hcel hsf;clear hfa;have HFit:=h_ (HFm.u.f _ (Ys hkl));have HKn:Hi (fieldKnows (fNames m) m.F[k]=true->∀j (h:j<m.F.length),j<k+1->fieldKnows (fNames m) m.F[j]=true):=h_ fun h j hj hjk=>by
         by_cases e:j=k
         . subst e;exact h
         . exact HL.u j hj (by omega)
        have HA9:Hi (fieldKnows (fNames m) m.F[k]=false->FrmA s fm0 9 ((idx:Int) - m.F.length+k)):=h_ fun h=>HDn.u _ _ _ (.astray hkl (fun j hj hjk=>HL.u j hj hjk) (fun _=>h));generalize m.F[k]=f at *;obtain⟨ab,abc,ai,aic,ah,ahc,av,avc,au,auc⟩:=fa;have hfl0:(fNames m).length=m.F.length:=(by simp[fNames]);have HC:=h_ (q0j f ⟨ab,abc,ai,aic,ah,ahc,av,avc,au,auc⟩ an cn (fNames m) wr HFit.u (by rw[hfl0];omega) hsf HN.u);rw[hfl0]at HC;unfold fV at HC;dsimp only at HC;obtain⟨-,q0,q1,q2,q3,q4,q5,q6,q7,q8⟩:=hcel;clear hfl0 hsf;cases hkn:fieldKnows (fNames m) f
        case true =>
         have HK2:=h_ (HKn.u hkn);rw[hkn]at HC;clear hkn;go_wp2_with fail;refine HC.u.mono ?_;rintro e W6 ⟨rfl,hb6⟩;have HB6:=h_ (HBk.u.trans (hb6.mono (by omega)));clear hb6 q0 q1 q2 q3 q4 q5 q6 q7 q8 HC g0 g1 g2 g3;go_wp2_with fail;go_roundw
         case rel=>first | exact⟨k+1,by omega,by go_num,HK2.u,HB6.u⟩ | ((repeat apply Exists.intro);exact⟨⟨k+1,by omega,by go_num,HK2.u,HB6.u⟩,rfl⟩)
         case measure=>simp[intOf];omega
        case false =>
         have HA:=h_ (HA9.u hkn);rw[hkn]at HC;clear hkn;go_wp2_with fail;refine HC.u.mono ?_;rintro e W6 ⟨rfl,hb6⟩;have hz6:=hb6.size;replace HZ:=h_ (HZ.u.mono hb6 (by omega));replace HD:=h_ (HD.u.mono hb6 (by omega));replace HB:=h_ (HB.u.trans (hb6.mono (by omega)));replace HK:=mB HK hb6;clear hb6 q0 q1 q2 q3 q4 q5 q6 q7 q8 HC g0 g1 g2 g3;obtain⟨X,hX⟩:=Nq W6.drew;have hdr:=(bR W6.heap.size W6).drew;rw[hX]at hdr;have hzX:=hdr.size;have hZX:=HZ.u.mono hdr HZ.u.lt;have hDX:=HD.u.mono hdr HD.u.lt;have hKX:=HK.u.mono hdr HK.u.lt;have hBX:=HB.u.trans (hdr.mono (by omega));obtain⟨dv,hdv⟩:=Nq ((idx:Int) - m.F.length+k);rw[hdv]at HA;have hK2:=hKX.rowS_other (g:=w.heap.size) (by omega) Jc;have hD2:=hDX.rowS_other (g:=w.heap.size) (by omega) Jc;have hZ2:=hZX.rowS (Jc).toList;have hK3:=hK2.rowS_other (g:=w.heap.size+1) (by omega) #[Ya 9,Ya dv];have hD3:=hD2.rowS [Ya 9,Ya dv];have hZ3:=hZ2.rowS_other (g:=w.heap.size+1) (by omega) #[Ya 9,Ya dv];obtain⟨p0,p1,p2,p3⟩:=quad hZ3;obtain⟨p4,p5⟩:=twin hD3;have hw1:IntKind.i64.wrap ((idx:Int) - m.F.length)=(idx:Int) - m.F.length:=i64_z _ (by omega) (by omega);have hw2:IntKind.i64.wrap dv=dv:=i64_z _ (by omega) (by omega);go_upto_region 29 with fail
         refine wp_region_held_drew (S:=fun w'=>Blk w' G 27 (#[.slice al m.L.length alc,.slice ap m.P.length apc,.slice ar m.R.length arc,.slice (some ⟨pb,po,none⟩) m.F.length afc]).toList) (by kernel_rfl) (by rw[hX];exact hKX) (fun zz=>?_);refine tj 0 92 (.agg Jc) zz ?_;refine tj 1 93 (Ya (idx:Nat)) zz ?_;refine tj 2 94 (Yd G 3) zz ?_;refine tj 3 95 (.slice (some ⟨pb,po,none⟩) m.F.length afc) zz ?_ (hy:=fun w hS=>by obtain⟨-,-,-,y3⟩:=quad hS;simp[execOp,go_sem,y3]);simp only[sX,sY,sZ];refine tj 4 96 (Ya (m.F.length:Nat)) zz ?_;refine tj 5 97 (Ya ((idx:Int) - m.F.length)) zz ?_ (hy:=fun w hS=>by simp[execOp,go_sem];exact hw1);refine tj 6 98 (Ya (k:Nat)) zz ?_;refine tj 7 99 (Ya dv) zz ?_ (hy:=fun w hS=>by simp[execOp,go_sem];rw[hdv];exact hw2);simp only[sX,sY,sZ];refine tj 8 100 (.agg #[Ya 9,Ya dv]) zz ?_;simp only[sX,sY,sZ];rw[hX];refine storeY (i:=9) (w':=X.setRow w.heap.size Jc) rfl (by rfl) (by kernel_rfl) rfl (q0p 27 (.tmp 2) (.tmp 92) rfl w.heap.size Jc rfl rfl 27 Jc hZX (by kernel_rfl) rfl (by simp[Value.oneCell'])) rfl hK2 ?_;refine storeY (i:=10) (w':=(X.setRow w.heap.size Jc).setRow (w.heap.size+1) #[Ya 9,Ya dv]) rfl (by rfl) (by kernel_rfl) rfl (q0p 29 (.tmp 3) (.tmp 100) rfl (w.heap.size+1) #[Ya 9,Ya dv] rfl rfl 29 J4 hD2 (by kernel_rfl) rfl (by simp[Value.oneCell'])) rfl hK3 ?_;refine wpAnyH_done (by kernel_rfl) ?_ _;clear zz hK2 hD2 hZ2 hK3 hD3 hZ3 hKX hDX hZX;go_wp2_with fail;exact bodyPost_ret (v:=.tuple #[.agg Jc,.agg #[Ya 9,Ya dv]]) (by simp[results,Tryz.results4,go_sem,p0,p1,p2,p3,p4,p5]) rfl ⟨fm0,9,dv,_,_,_,_,[],HA.u,qjp,qgc,rfl,OwM.nil _ _,q8i (q8i hBX (nR _) _) (by omega) _⟩
      case neg =>
       as_aux_lemma =>
        obtain rfl:k=m.F.length:=(by omega);have hkl':¬ (m.F.length:Int)<(m.F.length:Int):=(by omega);have HKa:Hi (∀j (h:j<m.F.length),fieldKnows (fNames m) m.F[j]=true):=h_ fun j h=>HL.u j h h;have HVv:=h_ (HV.u.vfA HKa.u);have HC:=h_ (q0u m ⟨al,alc,ap,apc,ar,arc,af,afc,afa⟩ wr HFm.u HVv.u HSl.u);obtain⟨T,hT⟩:∃T:ByteArray,⟨(cT m).toArray⟩=T:=⟨_,rfl⟩;have hTs:T.size=(cT m).length:=(by rw[<- hT];rfl);have hTb:(cT m).length<=3714016:=(by rw[<- c4_all];exact c4_len HVv.u _);rw[<- hTs]at hTb;rw[hT]at HC;unfold mV at HC;dsimp only at HC;have HTs2:=h_ hTs;clear hT hTs;go_wp2_with fail;refine HC.u.mono ?_;rintro e W9 ⟨rfl,hb9⟩;have hz9:=hb9.size;replace HZ:=h_ (HZ.u.mono hb9 (by omega));replace HD:=h_ (HD.u.mono hb9 (by omega));replace HB:=h_ (HB.u.trans (hb9.mono (by omega)));replace HK:=mB HK hb9;replace HM6:=h_ (HM6.u.mono hb9);clear hb9 HC g0 g1 g2 g3;by_cases hlg:30000<T.size
        case pos =>
         have hlg':(30000:Int)<(T.size:Int):=(by omega);have HA:Hi (FrmA s fm0 10 0):=h_ (HDn.u _ _ _ (.long HKa.u (by rw[<- HTs2.u];exact hlg)));clear hlg;have HD2:=h_ (HD.u.rowS_other (g:=w.heap.size) (by omega) Jc);have hZ3:=(HZ.u.rowS Jc.toList).rowS_other (g:=w.heap.size+1) (by omega) #[Ya 10,Ya 0];have hD3:=HD2.u.rowS #[Ya 10,Ya 0].toList;obtain⟨p0,p1,p2,p3⟩:=quad hZ3;obtain⟨p4,p5⟩:=twin hD3;go_upto_region 31 with fail
         go_wp2_with (first | (refine stR HZ.u ?_) | (refine stR HD2.u ?_));exact bodyPost_ret (v:=.tuple #[.agg Jc,.agg #[Ya 10,Ya 0]]) (by simp[results,Tryz.results4,go_sem,p0,p1,p2,p3,p4,p5]) rfl ⟨fm0,10,0,_,_,_,_,[],HA.u,qjp,qgc,rfl,OwM.nil _ _,q8i (q8i HB.u (nR _) _) (by omega) _⟩
        have hlg':¬ (30000:Int)<(T.size:Int):=(by omega);have HA:Hi (FrmA s m 0 0):=h_ (HDn.u _ _ _ (.good HKa.u (by rw[<- HTs2.u];exact hlg)));clear hlg;obtain⟨g0,g1,g2,g3⟩:=quad HK.u;have HD2:=h_ (HD.u.rowS_other (g:=w.heap.size) (by omega) #[.slice al m.L.length alc,.slice ap m.P.length apc,.slice ar m.R.length arc,.slice af m.F.length afc]);have hZ3:=(HZ.u.rowS #[.slice al m.L.length alc,.slice ap m.P.length apc,.slice ar m.R.length arc,.slice af m.F.length afc].toList).rowS_other (g:=w.heap.size+1) (by omega) J4;have hD3:=HD2.u.rowS J4.toList;obtain⟨p0,p1,p2,p3⟩:=quad hZ3;obtain⟨p4,p5⟩:=twin hD3;go_upto_region 32 with fail
        go_wp2_with (first | (refine stR HZ.u ?_) | (refine stR HD2.u ?_));exact bodyPost_ret (v:=.tuple #[.agg #[.slice al m.L.length alc,.slice ap m.P.length apc,.slice ar m.R.length arc,.slice af m.F.length afc],.agg J4]) (by simp[results,Tryz.results4,go_sem,p0,p1,p2,p3,p4,p5]) rfl ⟨m,0,0,_,_,_,_,P,HA.u,HV.u,HFt.u,rfl,((HM6.u.one HZ.u (by decide) (by decide) (by decide) (by decide) (by decide) (by decide) (qe2 _ _ _)).one HD2.u (by decide) (by decide) (by decide) (by decide) (by decide) (by decide) (qe2 _ _ _)).low (by omega),q8i (q8i HB.u (nR _) _) (by omega) _⟩
   case pos =>
    as_aux_lemma =>
     have hlt':(i:Int)<(ts.length:Int):=(by omega);obtain⟨b,o,p,rfl,hcel⟩:=HStr.u i hlt;obtain⟨-,t0,t1,t2⟩:=hcel;have HTi:Hi (ts[i]=ts[i]):=h_ rfl;obtain⟨t,ht⟩:=Nq (ts[i]);rw[ht]at t0 t1;have HSy:=h_ (qj9 (t:=t) (s:=⟨#[59]⟩) p (by decide) wr);unfold tV at HSy;have HTe:=h_ ht;clear ht HTi;by_cases hq:t=⟨#[59]⟩
     case neg =>
      have HI2:=h_ (HI.u.next hlt (by rw[HTe.u];exact hq));rw[Yg hq]at HSy;clear hq;go_wp2_with fail;refine HSy.u.mono ?_;rintro e W2 ⟨rfl,hb⟩
      try dsimp only
      have HK2:=mB HK hb;have HM2:=h_ (HM.u.mono hb);have HB2:=h_ (HBg.u.trans (hb.mono (by omega)));clear hb t0 t1 t2;go_wp2_with fail;go_roundw
      case rel=>first | exact⟨m,P,_,_,_,_,last,idx,fr,i+1,rfl,rfl,rfl,by go_num,HI2.u,HK2.u,HM2.u,HB2.u⟩ | ((repeat apply Exists.intro);exact⟨⟨m,P,_,_,_,_,last,idx,fr,i+1,rfl,rfl,rfl,by go_num,HI2.u,HK2.u,HM2.u,HB2.u⟩,rfl⟩)
      case measure=>simp[intOf];omega
     have HQ:Hi (ts[i]=kSemi):=h_ (HTe.u.trans hq);rw[Yh hq]at HSy;clear hq;obtain⟨T,hT⟩:=Nq ((ts.take i).drop fr);have hTl:T.length=i - fr:=(by rw[<- hT];exact qg1 (by omega));have HRs:Hi (∀W,Below wr.heap.size wr W->Calls Tryz.prog 12 #[.slice (cutA (some ⟨b,o,none⟩) fr c 3) (i - fr) (c - fr)] W (StmO W T)):=h_ fun W hb=>by
      have h:=q75 T (cutA (some ⟨b,o,none⟩) fr c 3) (c - fr) W (by omega) (by omega) (by rw[<- hT];exact HTk.u.cut _ _) (by rw[<- hT];exact(HStr.u.mono hb).cut (by omega) hcl);rw[hTl]at h;exact h
     have hsl:=cut_lh (some ⟨b,o,none⟩) ts.length c fr i hfi (by omega);have HIT:Hi (PfI s ts m last idx fr i/\(ts.take i).drop fr=T):=h_ ⟨HI.u,hT⟩;clear hT;go_wp2_with fail;refine HSy.u.mono ?_;rintro e W2 ⟨rfl,hb⟩
     try dsimp only
     have hb2:=hb;replace HK:=mB HK hb;replace HM:=h_ (HM.u.mono hb);replace HBg:=h_ (HBg.u.trans (hb.mono (by omega)));have HR2:=h_ (HRs.u W2 hb2);have hz2:=hb.size;clear hb hb2 t0 t1 t2 HSy HRs;go_wp2_with fail;refine HR2.u.mono ?_;rintro e W3 ⟨v,rfl,hb,hxo⟩;replace HK:=mB HK hb;replace HM:=h_ (HM.u.mono hb);replace HBg:=h_ (HBg.u.trans (hb.mono (by omega)));have hz3:=hb.size;clear hb HR2 hsl;rcases hxo with ⟨x,hx,hsx⟩ | ⟨hno,rfl⟩
     case inr =>
      as_aux_lemma =>
       have HA:Hi (FrmA s fm0 3 (idx:Nat)):=h_ (HI.u.none hlt HQ.u (by rw[HIT.u.2];exact hno));rw[show nil44.toArray=Ja from rfl];have hbS:=(bR W3.heap.size W3).alloc (nR _) (.cells Ja 44);have hSn:=Blk.new W3 44 Ja;obtain⟨Z,hZ⟩:=Nq W3.heap.size;obtain⟨Y1,hY1⟩:=Nq (W3.alloc (.cells Ja 44));have HSw:=h_ hSn;rw[hY1]at hbS hSn;rw[hZ]at hSn hbS;have hbR:=q8i hbS (g:=Z) (nR _) Ja;have hSr:=hSn.rowS (Ja).toList;obtain⟨Y2,hY2⟩:=Nq (Y1.setRow Z Ja);rw[hY2]at hbR;replace hSr:Blk Y2 Z 44 (Ja).toList:=(by rw[<- hY2];exact hSr);have HSr:=h_ hSr;have hb3:Below W3.heap.size W3 Y2:=(by rw[hZ];exact hbR);replace HK:=mB HK hb3;replace HM:=h_ (HM.u.mono hb3);replace HBg:=h_ (HBg.u.trans (hb3.mono (by omega)));have hzY:=hb3.size;obtain⟨k0,k1,k2,k3⟩:=quad HK.u;obtain⟨⟨s0,s1,s2,s3,s4,s5⟩,s6,s7,s8,s9,s10⟩:=eleven HSr.u;have HZe:=h_ hZ;have HY1e:=h_ hY1;have HY2e:=h_ hY2;have HAd:=h_ (q6y m P last _ _ _ _ (G+1) Y2 (by omega) HM.u);rw[show nil44.toArray=Ja from rfl]at HAd;clear hSn hbS hbR hSr hZ hY1 hY2 hno hb3;go_upto_region 15 with (refine stR HSw.u ?_)
       rw[HY1e.u,HZe.u,HY2e.u];go_wp2_with fail;refine HAd.u.mono ?_;rintro e W4 ⟨hb4,v,⟨a1,n1,c1,a2,n2,c2,a3,n3,c3,a4,n4,c4,rfl⟩,rfl⟩;have hz4:=hb4.size;replace HBg:=h_ (HBg.u.trans (hb4.mono (by omega)));have hb5:=(bR W4.heap.size W4).alloc (nR _) (.cells Jc 27);have hGn:=Blk.new W4 27 Jc;replace HZ:=h_ (HZ.u.mono ((HBg.u.trans ((q8i hb5 (g:=W4.heap.size) (nR _) #[.slice a1 n1 c1,.slice a2 n2 c2,.slice a3 n3 c3,.slice a4 n4 c4]).mono (by omega)))) (by omega));replace HD:=h_ (HD.u.mono ((HBg.u.trans ((q8i hb5 (g:=W4.heap.size) (nR _) #[.slice a1 n1 c1,.slice a2 n2 c2,.slice a3 n3 c3,.slice a4 n4 c4]).mono (by omega)))) (by omega));replace HB:=h_ (HB.u.trans ((HBg.u.trans ((q8i hb5 (g:=W4.heap.size) (nR _) #[.slice a1 n1 c1,.slice a2 n2 c2,.slice a3 n3 c3,.slice a4 n4 c4]).mono (by omega))).mono (by omega)));have HGn:=h_ hGn;obtain⟨Y5,hY5⟩:=Nq ((W4.alloc (.cells Jc 27)).setRow W4.heap.size #[.slice a1 n1 c1,.slice a2 n2 c2,.slice a3 n3 c3,.slice a4 n4 c4]);rw[hY5]at HZ HD HB;have HY5:=h_ hY5;clear hY5 hb5 hGn hb4 k0 k1 k2 k3 s0 s1 s2 s3 s4 s5 s6 s7 s8 s9 s10;go_upto_region 16 with (refine stR HGn.u ?_)
       rw[HY5.u];have HD2:=h_ (HD.u.rowS_other (g:=w.heap.size) (by omega) Jc);have hZ3:=(HZ.u.rowS Jc.toList).rowS_other (g:=w.heap.size+1) (by omega) #[Ya 3,Ya (idx:Nat)];have hD3:=HD2.u.rowS #[Ya 3,Ya (idx:Nat)].toList;obtain⟨p0,p1,p2,p3⟩:=quad hZ3;obtain⟨p4,p5⟩:=twin hD3;go_upto_region 17 with fail
       go_wp2_with (first | (refine stR HZ.u ?_) | (refine stR HD2.u ?_));exact bodyPost_ret (v:=.tuple #[.agg Jc,.agg #[Ya 3,Ya (idx:Nat)]]) (by simp[results,Tryz.results4,go_sem,p0,p1,p2,p3,p4,p5]) rfl ⟨fm0,3,(idx:Nat),_,_,_,_,[],HA.u,qjp,qgc,rfl,OwM.nil _ _,q8i (q8i HB.u (nR _) _) (by omega) _⟩
     case inl =>
      as_aux_lemma =>
       obtain⟨vb,vi,vh,vv,vm,rfl,hsb,hsi,hsh,hsv,hsm⟩:=hsx;obtain⟨ab,cb,eb,-,-⟩:=hsb.strs;obtain⟨ai,ci,ei,-⟩:=hsi.nods;obtain⟨ah,ch,eh,-⟩:=hsh.nods;obtain⟨av,cv,ev,-⟩:=hsv.nods;obtain⟨au,cu,eu,-⟩:=hsm.nods;have hT2:=HIT.u.2;have HX:=h_ hx;have hfx:=hx.fit (by omega) (fun t ht=>by rw[<- hT2]at ht;exact HTs.u t (Zw (Vl ht)));obtain⟨kd,hkd⟩:=Nq x.kind;have HSx:Hi (SxV W3 W2.heap.size (.agg #[Ya (kd:Nat),.string x.name,.string x.other,.bool x.auto,Ya (x.typ:Nat),.slice ab x.bys.length cb,.slice ai x.u.is.length ci,.slice ah x.u.wh.length ch,.slice av x.u.va.length cv,.string x.u.sa,.slice au x.u.mu.length cu]) x):=h_ ⟨_,_,_,_,_,by rw[<- eb,<- ei,<- eh,<- ev,<- eu,hkd],hsb,hsi,hsh,hsv,hsm⟩;subst eb ei eh ev eu;rw[hkd];clear hsb hsi hsh hsv hsm hT2 hx hfx;have hbS:=(bR W3.heap.size W3).alloc (nR _) (.cells Ja 44);have hSn:=Blk.new W3 44 Ja;obtain⟨Z,hZ⟩:=Nq W3.heap.size;obtain⟨Y1,hY1⟩:=Nq (W3.alloc (.cells Ja 44));have HSw:=h_ hSn;rw[hY1]at hbS hSn;rw[hZ]at hSn hbS;have hbR:=q8i hbS (g:=Z) (nR _) #[Ya (kd:Nat),.string x.name,.string x.other,.bool x.auto,Ya (x.typ:Nat),.slice ab x.bys.length cb,.slice ai x.u.is.length ci,.slice ah x.u.wh.length ch,.slice av x.u.va.length cv,.string x.u.sa,.slice au x.u.mu.length cu];have hSr:=hSn.rowS (#[Ya (kd:Nat),.string x.name,.string x.other,.bool x.auto,Ya (x.typ:Nat),.slice ab x.bys.length cb,.slice ai x.u.is.length ci,.slice ah x.u.wh.length ch,.slice av x.u.va.length cv,.string x.u.sa,.slice au x.u.mu.length cu]).toList;obtain⟨Y2,hY2⟩:=Nq (Y1.setRow Z #[Ya (kd:Nat),.string x.name,.string x.other,.bool x.auto,Ya (x.typ:Nat),.slice ab x.bys.length cb,.slice ai x.u.is.length ci,.slice ah x.u.wh.length ch,.slice av x.u.va.length cv,.string x.u.sa,.slice au x.u.mu.length cu]);rw[hY2]at hbR;replace hSr:Blk Y2 Z 44 (#[Ya (kd:Nat),.string x.name,.string x.other,.bool x.auto,Ya (x.typ:Nat),.slice ab x.bys.length cb,.slice ai x.u.is.length ci,.slice ah x.u.wh.length ch,.slice av x.u.va.length cv,.string x.u.sa,.slice au x.u.mu.length cu]).toList:=(by rw[<- hY2];exact hSr);have HSr:=h_ hSr;have hb3:Below W3.heap.size W3 Y2:=(by rw[hZ];exact hbR);replace HK:=mB HK hb3;replace HM:=h_ (HM.u.mono hb3);replace HBg:=h_ (HBg.u.trans (hb3.mono (by omega)));have hzY:=hb3.size;obtain⟨k0,k1,k2,k3⟩:=quad HK.u;obtain⟨⟨s0,s1,s2,s3,s4,s5⟩,s6,s7,s8,s9,s10⟩:=eleven HSr.u;have HZe:=h_ hZ;have HY1e:=h_ hY1;have HY2e:=h_ hY2;have HAd:=h_ (q9g T m P last x _ _ _ _ (.agg #[Ya (kd:Nat),.string x.name,.string x.other,.bool x.auto,Ya (x.typ:Nat),.slice ab x.bys.length cb,.slice ai x.u.is.length ci,.slice ah x.u.wh.length ch,.slice av x.u.va.length cv,.string x.u.sa,.slice au x.u.mu.length cu]) (G+1) Y2 HX.u (by omega) (fun t ht=>by rw[<- HIT.u.2]at ht;exact HTs.u t (Zw (Vl ht))) (by omega) HM.u HI.u.v (by
        obtain⟨y1,y2,y3,y4,y5,h0,h1,h2,h3,h4,h5⟩:=qef HSx.u hb3;exact⟨y1,y2,y3,y4,y5,h0,OwnS.low h1 (by omega),h2.low (by omega),h3.low (by omega),h4.low (by omega),h5.low (by omega)⟩) hla)
       have HKd:=h_ hkd;clear hSn hbS hbR hSr hZ hY1 hY2 hb3 hkd HSx;go_upto_region 15 with (refine stR HSw.u ?_)
       rw[HY1e.u,HZe.u,HY2e.u];go_wp2_with fail;refine HAd.u.mono ?_;rintro e W4 ⟨hb4,hks,(⟨cc,v,hax,hcc,⟨a1,n1,c1,a2,n2,c2,a3,n3,c3,a4,n4,c4,rfl⟩,rfl⟩ | ⟨m',w1,w2,w3,w4,P',hax,rfl,hM'⟩)⟩
       case inl =>
        as_aux_lemma =>
         have HA:Hi (FrmA s fm0 (cc:Nat) (idx:Nat)):=h_ (HI.u.bad hlt HQ.u (by rw[HIT.u.2];exact HX.u) hax);have hcc':((cc:Int) != 0)=true:=(by simp;omega);have hz4:=hb4.size;replace HBg:=h_ (HBg.u.trans (hb4.mono (by omega)));have hb5:=(bR W4.heap.size W4).alloc (nR _) (.cells Jc 27);have HGn:=h_ (Blk.new W4 27 Jc);have hbz:=HBg.u.trans ((q8i hb5 (g:=W4.heap.size) (nR _) #[.slice a1 n1 c1,.slice a2 n2 c2,.slice a3 n3 c3,.slice a4 n4 c4]).mono (by omega));replace HZ:=h_ (HZ.u.mono hbz (by omega));replace HD:=h_ (HD.u.mono hbz (by omega));replace HB:=h_ (HB.u.trans (hbz.mono (by omega)));obtain⟨Y5,hY5⟩:=Nq ((W4.alloc (.cells Jc 27)).setRow W4.heap.size #[.slice a1 n1 c1,.slice a2 n2 c2,.slice a3 n3 c3,.slice a4 n4 c4]);rw[hY5]at HZ HD HB;have HY5:=h_ hY5;clear hY5 hb5 hbz hb4 hks hax hcc k0 k1 k2 k3 s0 s1 s2 s3 s4 s5 s6 s7 s8 s9 s10;go_upto_region 16 with (refine stR HGn.u ?_)
         rw[HY5.u];have HD2:=h_ (HD.u.rowS_other (g:=w.heap.size) (by omega) Jc);have hZ3:=(HZ.u.rowS Jc.toList).rowS_other (g:=w.heap.size+1) (by omega) (Jw (cc:Nat) (idx:Nat));have hD3:=HD2.u.rowS (Jw (cc:Nat) (idx:Nat)).toList;obtain⟨p0,p1,p2,p3⟩:=quad hZ3;obtain⟨p4,p5⟩:=twin hD3;go_upto_region 17 with fail
         go_wp2_with (first | (refine stR HZ.u ?_) | (refine stR HD2.u ?_));exact bodyPost_ret (v:=.tuple #[.agg Jc,.agg (Jw (cc:Nat) (idx:Nat))]) (by simp[results,Tryz.results4,go_sem,p0,p1,p2,p3,p4,p5]) rfl ⟨fm0,(cc:Nat),(idx:Nat),_,_,_,_,[],HA.u,qjp,qgc,rfl,OwM.nil _ _,q8i (q8i HB.u (nR _) _) (by omega) _⟩
       case inr =>
        as_aux_lemma =>
         have HI2:=h_ (HI.u.step hlt HQ.u htl HTs.u (by rw[HIT.u.2];exact HX.u) hax);rw[HKd.u]at HI2;obtain⟨A2,-,-,rfl,rfl,rfl,rfl,-⟩:=hM'.sl;have hz4:=hb4.size;have hS4:=hks _ _ HSr.u;have hK4:=HK.u.mono hb4 (by omega);replace HBg:=h_ (HBg.u.trans (hb4.mono (by omega)));have hb5:=(bR W4.heap.size W4).alloc (nR _) (.cells Jc 27);have HGn:=h_ (Blk.new W4 27 Jc);have hbz:=q8i hb5 (g:=W4.heap.size) (nR _) (Jb A2 m');have hN5:=(Blk.new W4 27 Jc).rowS (Jb A2 m').toList;obtain⟨Y5,hY5⟩:=Nq ((W4.alloc (.cells Jc 27)).setRow W4.heap.size (Jb A2 m'));rw[hY5]at hbz;replace hN5:Blk Y5 W4.heap.size 27 (Jb A2 m').toList:=(by rw[<- hY5];exact hN5);have hS5:=hS4.mono hbz hS4.lt;have hK5:=hK4.mono hbz hK4.lt;have hM5:=hM'.mono hbz;have hz5:=hbz.size;have HK5:=h_ hK5;have hK6:=hK5.rowS (Jb A2 m').toList;have hM6:=hM5.one hK5 (by decide) (by decide) (by decide) (by decide) (by decide) (by decide) (qe2 Y5 G (Jb A2 m'));have hS6:=hS5.rowS_other (g:=G) (by have:=HZe.u;omega) (Jb A2 m');have hB6:=q8i (HBg.u.trans (hbz.mono (by omega))) (g:=G) (nR _) (Jb A2 m');obtain⟨Y6,hY6⟩:=Nq (Y5.setRow G (Jb A2 m'));rw[hY6]at hM6 hS6 hB6;replace hK6:Blk Y6 G 27 (Jb A2 m').toList:=(by rw[<- hY6];exact hK6);have HK6:=h_ hK6;have HM6:=h_ hM6;have HB6:=h_ hB6;obtain⟨y0,y1,y2,y3⟩:=quad hN5;obtain⟨⟨s0',-⟩,-⟩:=eleven hS6;have HY5:=h_ hY5;have HY6:=h_ hY6;clear hY5 hY6 hb5 hbz hb4 hks hax k0 k1 k2 k3 s0 s1 s2 s3 s4 s5 s6 s7 s8 s9 s10 hN5 hS4 hK4 hS5 hK5 hM5 hK6 hM6 hS6 hB6 hM';go_upto_region 16 with (refine stR HGn.u ?_)
         rw[HY5.u];go_upto_region 19 with (refine stR HK5.u ?_)
         rw[HY6.u];clear y0 y1 y2 y3;go_wp2_with fail;go_roundw
         case rel=>first | exact⟨m',P',_,_,_,_,kd,idx+1,i+1,i+1,by go_num,by go_num,rfl,by go_num,HI2.u,HK6.u,HM6.u,HB6.u⟩ | ((repeat apply Exists.intro);exact⟨⟨m',P',_,_,_,_,kd,idx+1,i+1,i+1,by go_num,by go_num,rfl,by go_num,HI2.u,HK6.u,HM6.u,HB6.u⟩,rfl⟩)
         case measure=>simp[intOf];omega
def Bk (w:World)(g:Nat)(t:TypeId)(n:Nat):Prop:=∃cs,Blk w g t cs/\cs.length=n
theorem Bk.lt {w:World}{g:Nat}{t:TypeId}{n:Nat}(h:Bk w g t n):g<w.heap.size:=h.elim fun _ h=>h.1.lt
theorem Bk.mono {w w':World}{B g:Nat}{t:TypeId}{n:Nat}(h:Bk w g t n)(hb:Below B w w')(hg:g<B):Bk w' g t n:=h.elim fun cs h=>⟨cs,h.1.mono hb hg,h.2⟩
theorem Bk.other {w:World}{g:Nat}{t:TypeId}{n:Nat}(h:Bk w g t n){R:Nat}(hR:g≠R)(j:Nat)(v:Value):Bk (w.setCell ⟨R,j,none⟩ v) g t n:=h.elim fun cs h=>⟨cs,h.1.other v hR,h.2⟩
theorem Bk.set {w:World}{g:Nat}{t:TypeId}{n:Nat}(h:Bk w g t n)(j:Nat)(v:Value):Bk (w.setCell ⟨g,j,none⟩ v) g t n:=h.elim fun cs h=>⟨cs.set j v,h.1.set j v,by rw[List.length_set];exact h.2⟩
theorem Bk.cell {w:World}{g:Nat}{t:TypeId}{n:Nat}(h:Bk w g t n){j:Nat}(hj:j<n):∃v,w.cell? ⟨g,j,none⟩=some v:=h.elim fun cs h=>⟨_,(h.1.cell j).trans (Yk (by rw[h.2];exact hj))⟩
theorem Bk.free {w:World}{g:Nat}{t:TypeId}{n:Nat}(h:Bk w g t n)(j:Nat):w.frozen? ⟨g,j,none⟩=false:=h.elim fun _ h=>h.1.free j
structure MkL (lo hi:Nat)(W W':World):Prop where
 out:Out lo hi W W'
 bk:∀g t n,Bk W g t n->Bk W' g t n
theorem MkL.refl (lo hi:Nat)(W:World):MkL lo hi W W:=⟨Out.refl _ _ _,fun _ _ _ h=>h⟩
theorem MkL.trans {lo hi:Nat}{A B C:World}(h:MkL lo hi A B)(k:MkL lo hi B C):MkL lo hi A C:=⟨h.out.trans k.out,fun g t n hb=>k.bk g t n (h.bk g t n hb)⟩
theorem MkL.below {lo hi:Nat}{W W':World}(h:Below W.heap.size W W'):MkL lo hi W W':=⟨⟨h.os,h.tape,h.output,h.size,fun b hb _=>h.block b hb⟩,fun _ _ _ hb=>hb.mono h hb.lt⟩
theorem MkL.set {lo hi:Nat}{W:World}{g:Nat}(j:Nat)(v:Value)(h1:lo<=g)(h2:g<hi):MkL lo hi W (W.setCell ⟨g,j,none⟩ v) :=
 ⟨Out.set (a:=⟨g,j,none⟩) v h1 h2,fun g' t' n' hb=>by
  by_cases e:g'=g
  . subst e;exact hb.set j v
  . exact hb.other e j v⟩
theorem Bk.cell_ne {w:World}{g:Nat}{t:TypeId}{n:Nat}(h:Bk w g t n){p q:Nat}(hpq:p≠q)(v:Value):(w.setCell ⟨g,p,none⟩ v).cell? ⟨g,q,none⟩=w.cell? ⟨g,q,none⟩:=by
 obtain⟨cs,h1,-⟩:=h
 rw[(h1.set p v).cell q,h1.cell q,List.getElem?_set_ne hpq]
theorem qbq (W:World)(c:Int):(convert 111 9 (.slice (some ⟨W.heap.size,0,none⟩) 1 1)).run Tryz.prog (W.alloc (.cells #[.int .u8 c] 5))=.ok (.string (ByteArray.empty.push (UInt8.ofNat c.toNat))) (W.alloc (.cells #[.int .u8 c] 5)):=by
 rw[run_convert_bytes_string _ 111 9 5 _ _ _ Tryz.underlying111 Tryz.underlying5 Tryz.underlying9]
 have h:=run_loadCells_list (P:=Tryz.prog) (W.alloc (.cells #[.int .u8 c] 5)) ⟨W.heap.size,0,none⟩ ([c].map (Value.int .u8)) (qbm W 5 (.int .u8 c))
 exact run_bytesToString (P:=Tryz.prog) (W.alloc (.cells #[.int .u8 c] 5)) ⟨W.heap.size,0,none⟩ 1 1 [c] h
end Go.Proofs.YtfmammdgehbjhaaGreatDoor
