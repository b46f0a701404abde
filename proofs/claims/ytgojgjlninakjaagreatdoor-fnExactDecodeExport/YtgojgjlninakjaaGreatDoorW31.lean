import Derived.Test.YtgojgjlninakjaaGreatDoorW28
import Derived.Test.YtgojgjlninakjaaGreatDoorW27
import Derived.Test.YtgojgjlninakjaaGreatDoorShelf3
set_option maxRecDepth 100000
set_option maxHeartbeats 64000000
namespace Go.Proofs.YtgojgjlninakjaaGreatDoor
open Go Go.RowKit
theorem qgo:(Tryz.prog.info? 77).map (fun i=>(i.zero,i.size,i.bytes))=some (some J7,1,24):=by kernel_rfl
theorem qcs {w:World}{base F n:Nat}(h:w.ownsRow base 77 1 (.slice (some ⟨F,0,none⟩) n n) n (madeCells #[Value.slice none 0 0] n).toList):HoldF w F n (fun _=>.slice none 0 0):=by
 have hb:=Blk.of_owns h
 rw[toList_madeCells_one]at hb
 unfold HoldF
 rw[List.map_const',Ox]
 exact hb
theorem qoi {w:World}{base F n:Nat}(h:w.ownsRow base 3 1 (.slice (some ⟨F,0,none⟩) n n) n (madeCells #[Value.int .i64 0] n).toList):Blk w F 3 (zs n fun _=>0):=by
 have hb:=Blk.of_owns h
 rw[toList_madeCells_one]at hb
 unfold zs
 rw[List.map_const',Ox]
 exact hb
theorem own_at {w:World}{base:Nat}{v:Value}{l:List Nat}(h:w.ownsRow base 3 1 v l.length (ui l)):∃a c,v=.slice a l.length c/\∀i (hi:i<l.length),∃g,a=some ⟨g,0,none⟩/\g<w.heap.size/\base<=g/\w.cell? ⟨g,i,none⟩=some (J6 (l[i]:Nat)):=by
 rcases h.2 with ⟨h1,h2⟩ | ⟨g,cap,cur,h1,hb,hg,r⟩
 . exact⟨none,0,by rw[h1,h2],fun i hi=>absurd hi (by omega)⟩
 . subst h1
   refine⟨_,_,rfl,fun i hi=>⟨g,rfl,(Yr.1 hg).1,hb,?_⟩⟩;rw[h.cellAt i (by omega)];simp[ui,hi]
theorem qhn {w:World}{base c:Nat}{a:Option Addr}{l:List Nat}(h:w.ownsRow base 3 1 (.slice a l.length c) l.length (ui l))(i:Nat)(hi:i<l.length):∃g,a=some ⟨g,0,none⟩/\g<w.heap.size/\base<=g/\w.cell? ⟨g,i,none⟩=some (J6 (l[i]:Nat)):=by
 obtain⟨a',c',e,h2⟩:=own_at h
 cases e
 exact h2 i hi
theorem ql0 (m:Fm)(A:MA)(b:Nat)(w:World)(hv:VfA m)(hf:FitM m)(ha:MSl w m A)(hm:PMap w b (fNames m)) :
 Calls Tryz.prog 118 #[wV m A b] w fun r w'=>∃F V,r=.returned (.slice (some ⟨F,0,none⟩) m.F.length m.F.length)/\w.heap.size<=F/\HoldF w' F m.F.length V/\Fam w' (F+1) m.F.length V (fedT m m.F.length)/\Below w.heap.size w w':=by
 have HV:=h_ hv
 have HCf:=h_ fun W k (hk:k<m.F.length) (hs:MSl W m A)=>q5s m A b k W hk hs
 have HCg:=h_ fun W g k (hk:k<m.F.length) (hs:MSl W m A) (hp:PMap W b (fNames m)) hG=>q8o m A b g k W hv hf hk hs hp hG
 have hnf:=hv.nf
 obtain⟨al,alc,ap,apc,ar,arc,af,afc,afa⟩:=A
 unfold wV at HCf⊢
 dsimp only at HCf HCg⊢
 have HK:=h_ (Blk.new w 102 #[.slice al m.L.length alc,.slice ap m.P.length apc,.slice ar m.R.length arc,.slice af m.F.length afc,.map (some b)])
 have HB:=h_ ((bR w.heap.size w).alloc (nR _) (.cells #[.slice al m.L.length alc,.slice ap m.P.length apc,.slice ar m.R.length arc,.slice af m.F.length afc,.map (some b)] 102))
 obtain⟨W0,hW0⟩:=Nq (w.alloc (.cells #[.slice al m.L.length alc,.slice ap m.P.length apc,.slice ar m.R.length arc,.slice af m.F.length afc,.map (some b)] 102))
 have hs0:W0.heap.size=w.heap.size+1:=by rw[<- hW0];simp
 rw[hW0]at HK HB
 have HS:=h_ ha;have HM:=h_ hm
 clear ha hm hv hf
 obtain⟨i0,hi,hz0,hz1,hz2⟩:=info_parts qgo
 have hbn:i0.bytes*m.F.length<=281474976710656:=by rw[hz2];omega
 obtain⟨y0,y1,y2,y3,y4⟩:=five HK.u
 go_enter Tryz.func118,Tryz.ntmps118
 go_wp2_with (at_make;refine wpList_make_full _ rfl (.tmp 10) (.tmp 10) 192 rfl (w.heap.size+1) 77 i0 _ 1 Tryz.underlying192 hi hz0 hz1 .i64 .i64 _ _ m.F.length rfl rfl rfl rfl hbn (by unfold maxLen;omega) (by first | omega | (simp;done)) ?_)
 intro w1 hown hgrow
 try rw[hW0]at hown hgrow
 try rw[hW0]
 try rw[hs0]at hown
 try rw[hs0]
 have hb1:Below (w.heap.size+1) W0 w1:=(bR _ _).grown hgrow (by omega) (fun k e=>by cases e)
 obtain⟨F,hF⟩:=Nq (w.heap.size+1)
 rw[hF]at hown hb1 hs0
 try rw[hF]
 have HH:=h_ (qcs hown)
 have HKb:=h_ hb1
 clear hown hgrow hb1 hbn hi hz0 hz1 hz2 hW0 y0 y1 y2 y3 y4
 replace HB:=h_ (HB.u.trans (HKb.u.mono (by omega)))
 replace HK:=h_ (HK.u.mono HKb.u (by omega))
 have hF1:F<w1.heap.size:=HH.u.lt
 clear HKb
 obtain⟨y0,y1,y2,y3,y4⟩:=five HK.u
 go_wp2_with fail
 clear y0 y1 y2 y3 y4
 go_loopw [16] (fun i wr=>∃(k:Nat) (V:Nat->Value),k<=m.F.length/\i=J6 k/\HoldF wr F m.F.length V/\Fam wr (F+1) m.F.length V (fedT m k)/\Below F w1 wr) (fun i _=>m.F.length - (intOf i).toNat)
 case atStart=>exact⟨0,_,nZ _,rfl,HH.u,Fam.none _ _ _,bR _ _⟩
 case round =>
  clear HH;obtain⟨k,V,hk,rfl,hh,hfam,hb⟩:=hrel;have HH:=h_ hh;have HFm:=h_ hfam;have HBr:=h_ hb;have HKr:=h_ (HK.u.mono hb (by omega));have HBw:Hi (Below w.heap.size w wr):=h_ (HB.u.trans (hb.mono (by omega)));have HSr:=h_ (HS.u.mono HBw.u);have HMr:=h_ (HM.u.mono HBw.u);have hFr:F<wr.heap.size:=hh.lt;clear hh hfam hb;by_cases hlt:k<m.F.length
  . have hlt':(k:Int)<m.F.length:=by omega
    go_wp2_with fail;refine wp_region_held_drew (S:=fun w'=>Blk w' w.heap.size 102 [.slice al m.L.length alc,.slice ap m.P.length apc,.slice ar m.R.length arc,.slice af m.F.length afc,.map (some b)]) (by kernel_rfl) HKr.u (fun zz=>?_);refine tj 0 19 (.agg #[.slice al m.L.length alc,.slice ap m.P.length apc,.slice ar m.R.length arc,.slice af m.F.length afc,.map (some b)]) zz ?_ (hy:=fun w hS=>by obtain⟨q0,q1,q2,q3,q4⟩:=five hS;simp[execOp,go_sem,q0,q1,q2,q3,q4]);refine tj 1 20 (J6 k) zz ?_;refine tj 3 22 (J9 w.heap.size 4) zz ?_;refine tj 4 23 (.map (some b)) zz ?_ (hy:=fun w hS=>by obtain⟨q0,q1,q2,q3,q4⟩:=five hS;simp[execOp,go_sem,q4]);simp only[sX,sY,sZ];refine tj 7 26 (J6 0) zz ?_;simp only[sX,sY,sZ];have HD:Hi (Below wr.heap.size wr wr.drew):=h_ (bR _ _).drew;refine callY (i:=2) (f:=150) (args:=#[.agg #[.slice al m.L.length alc,.slice ap m.P.length apc,.slice ar m.R.length arc,.slice af m.F.length afc,.map (some b)],J6 k]) (R:=fun v wz=>∃g,v=.slice (some ⟨g,0,none⟩) 2 2/\Blk wz g 86 [.slice (afa k).i m.F[k].is.length (afa k).ic,.slice (afa k).h m.F[k].wh.length (afa k).hc]/\Below wr.heap.size wr wz) 21 rfl rfl (by rfl) (by kernel_rfl) ?hrun2 ((HCf.u wr.drew k hlt (HSr.u.mono HD.u)).mono fun e w6 ⟨g,he,hg,hb⟩=>⟨_,he,g,rfl,hg,q29 hb⟩) ?_
    case hrun2=>simp[execOp,go_sem]
    rintro v W2 ⟨g,rfl,hg,hb2⟩;replace zz:=HKr.u.mono hb2 HKr.u.lt;have hs2:=hb2.size;have HB2:=h_ hb2;have HGb:=h_ hg;clear hg hb2;refine⟨zz,?_⟩;simp only[sX,sY,sZ];refine callY (i:=5) (f:=149) (args:=#[.slice (some ⟨g,0,none⟩) 2 2,.map (some b),J7,.func (.func 151) #[] #[]]) (R:=fun v wz=>wz.ownsRow W2.heap.size 3 1 v (fedL m k).length (ui (fedL m k))/\Below W2.heap.size W2 wz) 24 rfl rfl (by rfl) (by kernel_rfl) ?hrun5 ((HCg.u W2 g k hlt (HSr.u.mono HB2.u) (HMr.u.mono HB2.u) HGb.u).mono fun e w6 ⟨v,he,ho,hb⟩=>⟨v,he,ho,hb⟩) ?_
    case hrun5=>simp[execOp,go_sem]
    rintro v W3 ⟨ho,hb3⟩;replace zz:=zz.mono hb3 zz.lt;have hs3:=hb3.size;have HF3:=h_ (Fam.snoc (HFm.u.mono HB2.u) hb3 (by omega) ho);obtain⟨a,c,rfl,-⟩:=own_at ho;have HH3:Hi (HoldF W3 F m.F.length (up V m.F.length (.slice a (fedL m k).length c))):=h_ (HoldF.congr (show HoldF W3 F m.F.length V from Blk.mono (Blk.mono HH.u HB2.u hFr) hb3 (by omega)) fun j hj=>up_ne _ _ (by omega));have HB3:Hi (Below F w1 W3):=h_ ((HBr.u.trans (HB2.u.mono (by omega))).trans (hb3.mono (by omega)));have HVn:Hi ((up V m.F.length (.slice a (fedL m k).length c)) m.F.length=.slice a (fedL m k).length c):=h_ (up_at _ _ _);rw[<- qch]at HF3;generalize up V m.F.length (.slice a (fedL m k).length c)=V3 at *;have hlen:=qg3 HV.u hlt;have HLt:=h_ (qky HV.u hlt);have HPl:=h_ (fun p j=>qg4 HV.u hlt p j);have HPz:Hi (∀l',fedL m k=l'->∀p (h:p<l'.length),fedP m k (p+1)=up (fedP m k p) l'[p] (fedP m k p l'[p]++[k])):=h_ fun l' e p h=>by subst e;exact qcg h
    have HPf:=h_ (qcf m k);clear ho hb3 HB2 HGb HFm HH HSr HMr;refine⟨zz,?_⟩;simp only[sX,sY,sZ];clear zz;have zz:Blk W3 w.heap.size 102 [.slice al m.L.length alc,.slice ap m.P.length apc,.slice ar m.R.length arc,.slice af m.F.length afc,.map (some b)]:=HKr.u.lt |> fun h=>HK.u.mono HB3.u (by omega);refine tj 6 25 (J6 (fedL m k).length) zz ?_;simp only[sX,sY,sZ];refine wpAnyH_done (by kernel_rfl) ?_ _;clear zz;obtain⟨l,hl⟩:=Nq (fedL m k);rw[hl]at HF3 HVn hlen HLt HPf⊢;have HPs:=h_ (HPz.u l hl);clear HPz hl;go_wp2_with fail;go_loopw [26] (fun i w3=>∃(p:Nat) (V':Nat->Value),p<=l.length/\i=J6 p/\V' m.F.length=.slice a l.length c/\HoldF w3 F m.F.length V'/\Fam w3 (F+1) (m.F.length+1) V' (up (fedP m k p) m.F.length l)/\Below F w1 w3) (fun i _=>l.length - (intOf i).toNat)
    case atStart=>exact⟨0,_,nZ _,rfl,HVn.u,HH3.u,HF3.u,HB3.u⟩
    case round =>
     clear HVn HH3 HF3 HB3 HBr HKr HBw hFr hs2 hs3;obtain⟨p,V',hp,rfl,hVn,hh,hfam,hb⟩:=hrel;have hFr:F<wr.heap.size:=hh.lt;have HH:=h_ hh;have HFm:=h_ hfam;have HBr:=h_ hb;have HVn:=h_ hVn;by_cases hpl:p<l.length
     . have hpl':(p:Int)<l.length:=by omega
       have hown:=hfam.own m.F.length (by omega);rw[hVn,up_at]at hown;obtain⟨g2,rfl,hg2,-,zc⟩:=qhn hown p hpl;have hjn:l[p]<m.F.length:=HLt.u _ (Ye hpl);have hjn':((l[p]:Nat):Int)<m.F.length:=(by omega);have HSt:=h_ (HPs.u p hpl);have hLl:=HPl.u p l[p];have hoj:=hfam.own l[p] (by omega);rw[up_ne _ _ (by omega)]at hoj;have zj:=hh.at hjn;have HOj:=h_ hoj;generalize l[p]=j at *;obtain⟨i0,hi,hz0,hz1,hz2⟩:=info_parts infoI;clear hh hfam hb hVn hown hoj;go_wp2_with (at_builtin;refine wpList_append_own_at _ rfl _ _ 77 rfl (F+1) 3 i0 _ 1 8 Tryz.underlying77 hi hz0 hz1 hz2 rfl (by omega) _ _ _ rfl (HOj.u.alloc _) ⟨wr.heap.size,0,none⟩ 1 1 [J6 k] rfl rfl (qfl wr 3 _) (by simp[Value.oneCell']) (by unfold maxLen;omega) (by omega) (by simp;omega) ?_);intro v' w4 ho' hgr' _ hat';have hba:=(bR wr.heap.size wr).alloc (nR _) (.cells #[J6 k] 3);have ho2:w4.ownsRow (F+1) 3 1 v' (up (fedP m k p) m.F.length l j++[k]).length (ui (up (fedP m k p) m.F.length l j++[k])):=by
        rw[up_ne _ _ (by omega)];simpa [ui] using ho'
       obtain⟨a',c',e',-⟩:=own_at ho2;obtain⟨n',hn'⟩:=Nq ((up (fedP m k p) m.F.length l j++[k]).length);rw[hn']at e';clear hn';have hHa:HoldF (wr.alloc (.cells #[J6 k] 3)) F m.F.length V':=Blk.mono HH.u hba hFr;have hFa:=HFm.u.mono hba;have hst:=qiu hHa (by omega) hFa (by omega) ho2 hgr' (by rw[Yk];exact hat');have hFz:F<(wr.alloc (.cells #[J6 k] 3)).heap.size:=hHa.lt;have hbb:=q80 (j:=j) (v:=v') (HBr.u.trans (hba.mono (by omega))) (Om F) hFz (hFa.own j (by omega)) hgr';have hH4:Blk w4 F 77 ((List.range m.F.length).map V'):=Blk.grown hHa hgr' (fun e=>by have:=((hFa.own j (by omega)).lt F e.symm).1;omega);have cF:w4.cell? ⟨F,j,none⟩=some (V' j):=HoldF.at hH4 hjn;have fF:w4.frozen? ⟨F,j,none⟩=false:=hH4.free j;have HH4:=h_ hst.1;have HF4:Hi (Fam (w4.setCell ⟨F,j,none⟩ v') (F+1) (m.F.length+1) (up V' j v') (up (fedP m k (p+1)) m.F.length l)):=h_ (hst.2.congr (fun _ _=>rfl) fun i hi=>by
        by_cases ei:i=m.F.length
        . subst ei
          rw[up_at,up_ne _ _ (by omega),up_at]
        . rw[up_ne _ _ ei,HSt.u]
          by_cases ej:i=j
          . subst ej
            rw[up_at,up_at,up_ne _ _ ei]
          . rw[up_ne _ _ ej,up_ne _ _ ej,up_ne _ _ ei])
       have HB4:=h_ hbb;have HV4:Hi (up V' j v' m.F.length=.slice (some ⟨g2,0,none⟩) l.length c):=h_ (by rw[up_ne _ _ (by omega)];exact HVn.u);clear ho' hgr' hat' ho2 hHa hFa hst hFz hbb hH4 hba hi hz0 hz1 hz2 zc zj;subst e';go_wp2_with fail;go_roundw
       case rel=>first | exact⟨p+1,_,by omega,by go_num,HV4.u,HH4.u,HF4.u,HB4.u⟩ | ((repeat apply Exists.intro);exact⟨⟨p+1,_,by omega,by go_num,HV4.u,HH4.u,HF4.u,HB4.u⟩,rfl⟩)
       case measure=>simp[intOf];omega
     . obtain rfl:p=l.length:=by omega
       have hpl':¬ (l.length:Int)<(l.length:Int):=(by omega);have HF4:Hi (Fam wr (F+1) m.F.length V' (fedT m (k+1))):=h_ ((hfam.sub (Vg _)).congr (fun _ _=>rfl) fun i hi=>by
        rw[up_ne _ _ (by omega),HPf.u])
       clear hh hfam hb hVn;go_wp2_with fail;go_roundw
       case rel=>first | exact⟨k+1,_,by omega,by go_num,HH.u,HF4.u,HBr.u⟩ | ((repeat apply Exists.intro);exact⟨⟨k+1,_,by omega,by go_num,HH.u,HF4.u,HBr.u⟩,rfl⟩)
       case measure=>simp[intOf];omega
  . obtain rfl:k=m.F.length:=by omega
    have hlt':¬ (m.F.length:Int)<(m.F.length:Int):=(by omega);go_wp2_with fail;go_ret
    first | exact⟨F,V,rfl,by omega,HH.u,HFm.u,HBw.u⟩ | exact⟨F,rfl,by omega,V,HH.u,HFm.u,HBw.u⟩ | exact⟨F,rfl,by omega,⟨V,HH.u,HFm.u⟩,HBw.u⟩
theorem qod (f:Nat->Nat)(x v i:Nat):((up f x v i:Nat):Int)=up (fun i=>((f i:Nat):Int)) x (v:Int) i:=by
 unfold up
 split <;> rfl
theorem qkh {L:Nat->List Nat}{n j p:Nat}(h:p<(L j).length):(zs n fun i=>((cntP L j p i:Nat):Int)).set (L j)[p] (J6 (((cntP L j p (L j)[p]:Nat):Int)+1))=zs n fun i=>((cntP L j (p+1) i:Nat):Int):=by
 rw[zs_set]
 refine qjo fun i _=>?_
 rw[qbz h i,qod]
 rfl
theorem qkf {L:Nat->List Nat}{B:Nat}(hL:∀j,(L j).length<=B)(j p i:Nat):cntP L j p i<=(j+1)*B:=by
 have h1:=qke hL i j
 have h2:=Oj (a:=i) (l:=(L j).take p)
 have h3:((L j).take p).length<=(L j).length:=List.length_take_le' _ _
 have h4:=hL j
 unfold cntP
 rw[Zx]
 omega
theorem q3i (F n base:Nat)(V:Nat->Value)(L:Nat->List Nat)(w:World)(hn:n<=200)(hH:HoldF w F n V)(hFm:Fam w base n V L)(hL:∀j i,i∈L j->i<n)(hLl:∀j,(L j).length<=400000) :
 Calls Tryz.prog 191 #[.slice (some ⟨F,0,none⟩) n n] w fun r w'=>r=.returned (.slice (some ⟨w.heap.size,0,none⟩) n n)/\Blk w' w.heap.size 3 (zs n fun i=>((cntL L n i:Nat):Int))/\Below w.heap.size w w':=by
 have HH:=h_ hH;have HFm:=h_ hFm;have HL:=h_ hL;have HLl:=h_ hLl
 obtain⟨i0,hi,hz0,hz1,hz2⟩:=info_parts infoI
 have hbn:i0.bytes*n<=281474976710656:=by rw[hz2];omega
 have hFw:F<w.heap.size:=hH.lt
 clear hH hFm hL hLl
 go_enter Tryz.func191,Tryz.ntmps191
 go_wp2_with (at_make;refine wpList_make_full _ rfl (.tmp 9) (.tmp 9) 77 rfl w.heap.size 3 i0 _ 1 Tryz.underlying77 hi hz0 hz1 .i64 .i64 _ _ n rfl rfl rfl rfl hbn (by unfold maxLen;omega) (nR _) ?_)
 intro w1 hown hgrow
 obtain⟨C,hC⟩:=Nq w.heap.size
 have hb1:Below C w w1:=by rw[<- hC];exact(bR _ _).grown hgrow (nR _) (fun k e=>by cases e)
 rw[hC]at hown hFw
 try rw[hC]
 have HZ:=h_ (qoi hown);have HB1:=h_ hb1
 clear hown hgrow hb1 hbn hi hz0 hz1 hz2
 go_wp2_with fail
 go_loopw [13] (fun i wr=>∃j:Nat,j<=n/\i=J6 j/\Blk wr C 3 (zs n fun i=>((cntL L j i:Nat):Int))/\Below C w wr) (fun i _=>n - (intOf i).toNat)
 case atStart=>exact⟨0,nZ _,rfl,HZ.u,HB1.u⟩
 case round =>
  clear HZ HB1;obtain⟨j,hj,rfl,hz,hb⟩:=hrel;have HZ:=h_ hz;have HB:=h_ hb;have HBw:Hi (Below w.heap.size w wr):=h_ (by rw[hC];exact hb);clear hz hb;by_cases hlt:j<n
  . have hlt':(j:Int)<n:=by omega
    have zj:=(HB.u.cell (p:=⟨F,j,none⟩) hFw).trans (HoldF.at HH.u hlt);have hoj:=HFm.u.own j hlt;obtain⟨a,c,e,-⟩:=own_at hoj;rw[e]at zj hoj;have HOj:=h_ hoj;have HLj:=h_ (HL.u j);have HSt:Hi (∀l,L j=l->∀p (h:p<l.length),(zs n fun i=>((cntP L j p i:Nat):Int)).set l[p] (J6 (((cntP L j p l[p]:Nat):Int)+1))=zs n fun i=>((cntP L j (p+1) i:Nat):Int)):=h_ fun l e p h=>by subst e;exact qkh h
    have HCl:Hi (∀p i,cntP L j p i<=80000000):=h_ fun p i=>by
     have:=qkf HLl.u j p i;have:(j+1)*400000<=200*400000:=Vd _ (by omega);omega
    have HFu:Hi (cntP L j (L j).length=cntL L (j+1)):=h_ (qby L j);have HZ0:Hi (Blk wr C 3 (zs n fun i=>((cntP L j 0 i:Nat):Int))):=h_ (by rw[qc0];exact HZ.u);have hll:=HLl.u j;obtain⟨l,hl⟩:=Nq (L j);rw[hl]at HOj HLj HFu hll zj;have HSp:=h_ (HSt.u l hl);clear hl HSt e hoj HZ;go_wp2_with fail;go_loopw [19] (fun i w3=>∃p:Nat,p<=l.length/\i=J6 p/\Blk w3 C 3 (zs n fun i=>((cntP L j p i:Nat):Int))/\Below C w w3) (fun i _=>l.length - (intOf i).toNat)
    case atStart=>exact⟨0,nZ _,rfl,HZ0.u,HB.u⟩
    case round =>
     clear HZ0 HB HBw zj;obtain⟨p,hp,rfl,hz,hb⟩:=hrel;have HZ:=h_ hz;have HB:=h_ hb;have HBw:Hi (Below w.heap.size w wr):=h_ (by rw[hC];exact hb);clear hz hb;by_cases hpl:p<l.length
     . have hpl':(p:Int)<l.length:=by omega
       obtain⟨g2,rfl,hg2,-,zc⟩:=qhn (qdw HOj.u HBw.u) p hpl;have hxn:l[p]<n:=HLj.u _ (Ye hpl);have hxn':((l[p]:Nat):Int)<n:=(by omega);have HS:=h_ (HSp.u p hpl);have hcl:=HCl.u p l[p];have zx:=(HZ.u.cell l[p]).trans (zs_at _ hxn);have fx:=HZ.u.free l[p];generalize l[p]=x at *;have HSet:=h_ (HZ.u.set x (J6 (((cntP L j p x:Nat):Int)+1)));rw[HS.u]at HSet;have HB2:=h_ (HB.u.setCell (p:=⟨C,x,none⟩) (nR C) (J6 (((cntP L j p x:Nat):Int)+1)));generalize hq:cntP L j p x=q at *;clear hq;have hq':((q:Nat):Int)<=80000000:=(by omega);go_wp2_with fail;go_roundw
       case rel=>first | exact⟨p+1,by omega,by go_num,HSet.u,HB2.u⟩ | ((repeat apply Exists.intro);exact⟨⟨p+1,by omega,by go_num,HSet.u,HB2.u⟩,rfl⟩)
       case measure=>simp[intOf];omega
     . obtain rfl:p=l.length:=by omega
       have hpl':¬ (l.length:Int)<(l.length:Int):=(by omega);have HZ2:=HZ;rw[HFu.u]at HZ2;go_wp2_with fail;go_roundw
       case rel=>first | exact⟨j+1,by omega,by go_num,HZ2.u,HB.u⟩ | ((repeat apply Exists.intro);exact⟨⟨j+1,by omega,by go_num,HZ2.u,HB.u⟩,rfl⟩)
       case measure=>simp[intOf];omega
  . obtain rfl:j=n:=by omega
    have hlt':¬ (j:Int)<(j:Int):=(by omega);go_wp2_with fail;go_ret
    first | exact⟨rfl,HZ.u,HB.u⟩ | exact⟨rfl,HZ.u,HBw.u⟩
theorem qhf (m:Fm)(C i:Nat)(w:World)(hv:VfA m)(hC:Blk w C 3 (zs m.F.length (waitZ m (ordL m i)))) :
 Calls Tryz.prog 192 #[.slice (some ⟨C,0,none⟩) m.F.length m.F.length,J6 0] w fun e w'=>e=.returned (J6 (nxI m (ordL m i)))/\w'=w:=by
 have hnf:=hv.nf
 have hget:∀j,j<m.F.length->((List.range m.F.length).map (waitZ m (ordL m i))).getD j 0=waitZ m (ordL m i) j:=fun j hj=>by
  rw[Yo];simp[hj]
 have h:=Tryz.slices_Index_int C 0 m.F.length m.F.length ((List.range m.F.length).map (waitZ m (ordL m i))) 0 w (by simp) (by omega) (fun j hj=>by
  have hj':j<m.F.length:=by simpa using hj
  rw[hget j hj',Y7];exact(hC.cell j).trans (zs_at _ hj'))
 have e:Lib.idxOf (((List.range m.F.length).map (waitZ m (ordL m i))).take m.F.length) 0=nxI m (ordL m i):=by
  cases hx:nxt m (ordL m i) with
  | some k =>
   obtain⟨hk,h1,h2⟩:=qhl hx;rw[qhj hx];refine Lib.idxOf_hit _ _ k 0 hk (by simp) ?_ fun j hj=>?_
   . rw[hget k hk];exact(qf9 hv i hk).2 h1
   . rw[hget j (by omega)]
     intro h0;have:=(qf9 hv i (by omega)).1 h0;rw[h2 j hj]at this;cases this
  | none =>
   rw[qhi hx];refine Lib.idxOf_miss _ _ 0 fun j hj=>?_;rw[hget j hj];intro h0;have:=(qf9 hv i hj).1 h0;rw[qhk hx j hj]at this;cases this
 rw[e]at h
 exact h
end Go.Proofs.YtgojgjlninakjaaGreatDoor
namespace Go.Proofs.YtgojgjlninakjaaGreatDoor
open Go Go.RowKit Go.Shelf
attribute [local go_sem] Oper.semAt_some
theorem sum_le {n:Nat}{f g:Nat->Nat}(h:∀j,j<n->f j<=g j):((List.range n).map f).sum<=((List.range n).map g).sum:=by
 induction n with
 | zero=>exact nR _
 | succ n ih =>
  rw[Zh];simp only[Zc,Oe,Z5,Oc,Oh,O0,Zn];have:=ih fun j hj=>h j (by omega);have:=h n (by omega);omega
theorem sum_lt {n:Nat}{f g:Nat->Nat}(h:∀j,j<n->f j<=g j){x:Nat}(hx:x<n)(hlt:f x<g x):((List.range n).map f).sum<((List.range n).map g).sum:=by
 induction n with
 | zero=>omega
 | succ n ih =>
  rw[Zh];simp only[Zc,Oe,Z5,Oc,Oh,O0,Zn];by_cases e:x=n
  . subst e
    have:=sum_le (n:=x) fun j hj=>h j (by omega);omega
  . have:=ih (fun j hj=>h j (by omega)) (by omega)
    have:=h n (by omega);omega
def leftN (w:World)(C n:Nat):Nat:=((List.range n).map fun j=>(intOf ((w.cell? ⟨C,j,none⟩).getD undef)+1).toNat).sum
theorem qh0 {w:World}{C n:Nat}{f:Nat->Int}(h:Blk w C 3 (zs n f)):leftN w C n=((List.range n).map fun j=>(f j+1).toNat).sum:=by
 unfold leftN
 congr 1
 refine Zo fun j hj=>?_
 rw[(h.cell j).trans (zs_at f (Y9.1 hj))]
 rfl
theorem qdd {w w':World}{m:Fm}{C x:Nat}{D:List Nat}(hx:x<m.F.length)(hn:x ∉ D)(h0:waitZ m D x=0)(h:Blk w C 3 (zs m.F.length (waitZ m D)))(h':Blk w' C 3 (zs m.F.length (waitZ m (D++[x])))):leftN w' C m.F.length<leftN w C m.F.length:=by
 rw[qh0 h,qh0 h']
 refine sum_lt (fun j _=>?_) hx ?_
 . rw[qf8 m D x hn j]
   split <;> omega
 . rw[qf8 m D x hn x,h0,Yv rfl]
   omega
theorem qms (m:Fm)(i:Nat):(ordL m i).length<=m.F.length:=by
 have h:=pigeon m.F.length ((ordL m i).map fun k=>((k:Nat):Int)) ?_ ?_
 . simpa using h
 . exact List.Pairwise.map _ (fun a b h e=>h (by omega)) (q9y m i)
 . intro x hx
   obtain⟨k,hk,rfl⟩:=Y3.1 hx;have:=qmt m i k hk;omega
theorem qjl (m:Fm)(D:List Nat)(k:Nat):-1<=waitZ m D k:=by
 unfold waitZ
 split <;> omega
theorem qjk (m:Fm)(D:List Nat)(k:Nat):waitZ m D k<=(fedL m k).length:=by
 unfold waitZ
 have:=List.length_filter_le (fun j=>!decide (j∈D)) (fedL m k)
 split <;> omega
theorem qjj {m:Fm}{D:List Nat}{x p k:Nat}(hv:VfA m):-2 - 402000<=waitP m D x p k:=by
 unfold waitP
 have h1:=qjl m D k
 have h2:=Oj (a:=k) (l:=(fedT m m.F.length x).take p)
 have h3:((fedT m m.F.length x).take p).length<=(fedT m m.F.length x).length:=List.length_take_le' _ _
 have h4:=qg5 hv x m.F.length (nR _)
 have h5:=hv.nf
 split <;> omega
theorem qji {m:Fm}{D:List Nat}{x p k:Nat}(hv:VfA m)(hk:k<m.F.length):waitP m D x p k<=2000:=by
 unfold waitP
 have h1:=qjk m D k
 have h2:=qg3 hv hk
 split <;> omega
theorem qcd {X:Nat->Prop}{hi:Nat}{w w':World}{base n:Nat}{V:Nat->Value}{L:Nat->List Nat}(h:Fam w base n V L)(hk:KeepB X hi w w')(hq:∀j,j<n->∀q,(V j).ownBlock=some q->q<hi/\¬ X q):Fam w' base n V L:=⟨fun j hj=>hk.owns (h.own j hj) (hq j hj),h.apart⟩
theorem qce {w:World}{base n C k:Nat}{V:Nat->Value}{L:Nat->List Nat}(h:Fam w base n V L)(v:Value)(hC:∀j,j<n->(V j).ownBlock≠some C):Fam (w.setCell ⟨C,k,none⟩ v) base n V L :=
 ⟨fun j hj=>(h.own j hj).kept (row:=some C) ⟨rfl,rfl,rfl,by simp,fun i _ hne=>heap_setCell_other w ⟨C,k,none⟩ i v (fun e=>hne (by rw[e]))⟩ (.inr (hC j hj)),h.apart⟩
theorem q71 (m:Fm)(A:MA)(b B:Nat)(w0:World)(X:Nat->Prop)(hv:VfA m)(hf:FitM m)(hW:Blk w0 B 102 [.slice A.l m.L.length A.lc,.slice A.p m.P.length A.pc,.slice A.r m.R.length A.rc,.slice A.f m.F.length A.fc,.map (some b)])(ha:MSl w0 m A)(hm:PMap w0 b (fNames m)) :
 GivesH Tryz.prog 190 #[J9 B 0] (fun pre x=>pre=ordL m pre.length/\pre.length<m.F.length/\nxt m pre=some x) (fun xs=>xs=ordL m m.F.length) X w0:=by
 intro n l J W hb hJ h0 hX hY
 have HCf:=h_ (ql0 m A b W hv hf (ha.mono hb) (hm.mono hb))
 have HV:=h_ hv;have HY:=h_ hY;have HJ:=h_ hJ;have HX:=h_ hX
 have hK:=hW.mono hb hW.lt
 obtain⟨y0,y1,y2,y3,y4⟩:=five hK
 have H0:=h_ h0
 unfold wV at HCf
 have hnf:=hv.nf
 clear hY hJ hX h0 hK ha hm hW hb hf hv
 refine callsIn_of_wp Tryz.func190 rfl trivial ?_ rfl
 simp only[Tryz.ntmps190,Y8,Yl,Yt,Nat.reduceAdd,Nat.reduceSub,Vr,Vq,V5,Vt,Vn,Zm]
 gi_wp2_with fail
 refine callW (HCf.u.mono ?_)
 rintro e w1 ⟨F,V,rfl,hF,hh,hfam,hb1⟩
 clear y0 y1 y2 y3 y4 HCf
 have HCc:=h_ (q3i F m.F.length (F+1) V (fedT m m.F.length) w1 hnf hh hfam (fun j i hi=>qkz m _ j i hi) (fun j=>by have:=qg5 HV.u j m.F.length (nR _);omega))
 have hFw:F<w1.heap.size:=hh.lt
 have HB1:=h_ hb1;have HH:=h_ hh;have HFm:=h_ hfam
 have HFq:Hi (∀j,j<m.F.length->∀q,(V j).ownBlock=some q->F<q/\q<w1.heap.size):=h_ fun j hj q e=>(hfam.own j hj).lt q e
 have HFb:Hi (∀j,j<m.F.length->(V j).ownBlock≠some w1.heap.size):=h_ fun j hj=>own_lt (hfam.own j hj) (nR _)
 clear hh hfam hb1
 gi_wp2_with fail
 refine callW (HCc.u.mono ?_)
 rintro e w2 ⟨rfl,hz,hb2⟩
 obtain⟨C,hC⟩:=Nq w1.heap.size
 rw[hC]at hz hFw HFb HFq
 try rw[hC]
 have hz0:Blk w2 C 3 (zs m.F.length (waitZ m (ordL m 0))):=by
  have e:zs m.F.length (fun i=>((cntL (fedT m m.F.length) m.F.length i:Nat):Int))=zs m.F.length (waitZ m []):=qjo fun i hi=>qbw HV.u hi;rw[e]at hz;exact hz
 have hWC:W.heap.size<=C:=by omega
 have HZ:=h_ hz0;replace HH:=h_ (Blk.mono HH.u hb2 (by omega));replace HFm:=h_ (HFm.u.mono hb2)
 have HJ0:=h_ (H0.u w2 (HB1.u.trans (hb2.mono (by omega))))
 have hsW:W.heap.size<=w2.heap.size:=by have:=hb2.size;omega
 have hCh:C<w2.heap.size:=HZ.u.lt
 obtain⟨hi,hhi⟩:=Nq w2.heap.size
 rw[hhi]at HJ0 hsW hCh
 clear hhi
 clear hz hz0 hb2 HCc H0 HB1
 gi_wp2_with fail
 refine callW ((qhf m C 0 w2 HV.u HZ.u).mono ?_)
 rintro e w3 ⟨rfl,rfl⟩
 gi_wp2_with fail
 gi_loopw [5] (fun v wr=>∃i:Nat,(ordL m i).length=i/\v=J6 (nxI m (ordL m i))/\HoldF wr F m.F.length V/\Fam wr (F+1) m.F.length V (fedT m m.F.length)/\Blk wr C 3 (zs m.F.length (waitZ m (ordL m i)))/\J hi (ordL m i) wr) (fun _ wr=>leftN wr C m.F.length)
 case atStart=>exact⟨0,rfl,rfl,HH.u,HFm.u,HZ.u,HJ0.u⟩
 case round =>
  clear HH HFm HZ HJ0;obtain⟨i,hil,rfl,hh,hfam,hz,hj⟩:=hrel;have HH:=h_ hh;have HFm:=h_ hfam;have HZ:=h_ hz;have HJi:=h_ hj;have hCr:C<wr.heap.size:=hz.lt;clear hh hfam hz hj;cases hnx:nxt m (ordL m i) with
  | none =>
   have he:=qhi hnx;have HE:Hi (ordL m i=ordL m m.F.length):=h_ (by
    have h1:=q9z hnx (m.F.length - i);have h2:=qms m i;rw[show i+(m.F.length - i)=m.F.length by omega]at h1;exact h1.symm)
   rw[he];clear hnx he;gi_wp2_with fail
   go_end0
   exact⟨⟨_,rfl⟩,hi,_,HE.u,HJi.u⟩
  | some x =>
   obtain⟨hx,hr,-⟩:=qhl hnx;have he:=qhj hnx;have HXi:Hi (x ∉ ordL m i):=h_ fun hin=>by
    unfold rdyB at hr;rw[Yj hin]at hr;simp at hr
   have hx0:waitZ m (ordL m i) x=0:=(qf9 HV.u i hx).2 hr;have HX0:=h_ hx0;have HO:Hi (ordL m (i+1)=ordL m i++[x]):=h_ (qdp hnx);have HP0:Hi (zs m.F.length (up (waitZ m (ordL m i)) x (-1))=zs m.F.length (waitP m (ordL m i) x 0)):=h_ (qjo fun k _=>by rw[<- qb5,hx0];rfl);have HPs:Hi (∀l,fedT m m.F.length x=l->∀p (h:p<l.length),zs m.F.length (up (waitP m (ordL m i) x p) l[p] (waitP m (ordL m i) x p l[p] - 1))=zs m.F.length (waitP m (ordL m i) x (p+1))):=h_ fun l e p h=>by subst e;exact qjo fun k _=>qb4 h k
   have HPf:Hi (zs m.F.length (waitP m (ordL m i) x (fedT m m.F.length x).length)=zs m.F.length (waitZ m (ordL m i++[x]))):=h_ (qjo fun k hk=>qb3 HXi.u hk);have HPl:=h_ fun p k=>qjj (m:=m) (D:=ordL m i) (x:=x) (p:=p) (k:=k) HV.u;have HPh:=h_ fun p k (hk:k<m.F.length)=>qji (m:=m) (D:=ordL m i) (x:=x) (p:=p) HV.u hk;rw[he];have hx':(x:Int)<m.F.length:=by omega
   have HTx:Hi (ordL m i=ordL m (ordL m i).length/\(ordL m i).length<m.F.length/\nxt m (ordL m i)=some x):=h_ ⟨by rw[hil],by
    have h1:=qms m (i+1);rw[HO.u,Yd]at h1;simp at h1;omega,hnx⟩
   have hyy:=HY.u (n - 1) hi (ordL m i) x wr HJi.u HTx.u;obtain⟨fn,tmps,assign,body,hy,hRd⟩:=hyy;have HRD:=h_ hRd;clear hRd hnx he hr hx0;gi_wp2_with fail;refine⟨noDepth,HRD.u.mono ?_⟩;rintro e W3 ⟨rfl,hj3,hk3⟩
   . have HH3:=h_ (hk3.blk HH.u (by omega) (fun h=>by have:=HX.u _ h;omega))
     have HF3:=h_ (qcd HFm.u hk3 (fun j hj q e=>by
      have h1:=HFq.u j hj q e;exact⟨by omega,fun h=>by have:=HX.u q h;omega⟩))
     have HZ3:=h_ (hk3.blk HZ.u (by omega) (fun h=>by have:=HX.u _ h;omega));have HJ3:=h_ hj3;have hs3:wr.heap.size<=W3.heap.size:=hk3.size;clear hk3 hj3 hy HRD;have zx:=(HZ3.u.cell x).trans (zs_at _ hx);rw[HX0.u]at zx;have fx:=HZ3.u.free x;have HZ4:=h_ (HZ3.u.set x (J6 (-1)));rw[zs_set,HP0.u]at HZ4;have HH4:=h_ (Blk.other HH3.u (a:=⟨C,x,none⟩) (J6 (-1)) (show F≠C by omega));have HF4:=h_ (qce (k:=x) HF3.u (J6 (-1)) HFb.u);have HJ4:=h_ (HJ.u _ _ _ _ HJ3.u (Out.set (a:=⟨C,x,none⟩) (J6 (-1)) hWC hCh));have zf:=HoldF.at HH4.u hx;have hox:=HF4.u.own x hx;obtain⟨a,c,e,-⟩:=own_at hox;rw[e]at zf;have HEx:=h_ e;have hll:=qg5 HV.u x m.F.length (nR _);have HLt:=h_ fun k hk=>qkz m m.F.length x k hk;obtain⟨W4,hW4⟩:=Nq (W3.setCell ⟨C,x,none⟩ (J6 (-1)));rw[hW4]at HZ4 HH4 HF4 HJ4 zf;have HFx:Hi (∀w',Fam w' (F+1) m.F.length V (fedT m m.F.length)->w'.ownsRow (F+1) 3 1 (.slice a (fedT m m.F.length x).length c) (fedT m m.F.length x).length (ui (fedT m m.F.length x))):=h_ fun w' hf=>by rw[<- HEx.u];exact hf.own x hx
     obtain⟨l,hl⟩:=Nq (fedT m m.F.length x);rw[hl]at zf hll HLt HPf HFx;have HPp:=h_ (HPs.u l hl);clear hl HPs e hox HEx HH3 HF3 HZ3 HJ3;gi_wp2_with fail
     try rw[hW4]
     clear hW4 zx fx zf;gi_loopw [33] (fun v w5=>∃p:Nat,p<=l.length/\v=J6 p/\HoldF w5 F m.F.length V/\Fam w5 (F+1) m.F.length V (fedT m m.F.length)/\Blk w5 C 3 (zs m.F.length (waitP m (ordL m i) x p))/\J hi (ordL m i++[x]) w5) (fun v _=>l.length - (intOf v).toNat)
     case atStart=>exact⟨0,nZ _,rfl,HH4.u,HF4.u,HZ4.u,HJ4.u⟩
     case round =>
      clear HZ4 HH4 HF4 HJ4;obtain⟨p,hp,rfl,hh,hfam,hz,hj⟩:=hrel;have HH5:=h_ hh;have HF5:=h_ hfam;have HZ5:=h_ hz;have HJ5:=h_ hj;clear hh hfam hz hj;by_cases hpl:p<l.length
      . have hpl':(p:Int)<l.length:=by omega
        obtain⟨g2,rfl,hg2,-,zc⟩:=qhn (HFx.u _ HF5.u) p hpl;have hkn:l[p]<m.F.length:=HLt.u _ (Ye hpl);have hkn':((l[p]:Nat):Int)<m.F.length:=(by omega);have HS:=h_ (HPp.u p hpl);have h1:=HPl.u p l[p];have h2:=HPh.u p l[p] hkn;have zk:=(HZ5.u.cell l[p]).trans (zs_at _ hkn);have fk:=HZ5.u.free l[p];generalize l[p]=k at *;have HZ6:=h_ (HZ5.u.set k (J6 (waitP m (ordL m i) x p k - 1)));rw[zs_set,HS.u]at HZ6;have HH6:=h_ (Blk.other HH5.u (a:=⟨C,k,none⟩) (J6 (waitP m (ordL m i) x p k - 1)) (show F≠C by omega));have HF6:=h_ (qce (k:=k) HF5.u (J6 (waitP m (ordL m i) x p k - 1)) HFb.u);have HJ6:=h_ (HJ.u _ _ _ _ HJ5.u (Out.set (a:=⟨C,k,none⟩) (J6 (waitP m (ordL m i) x p k - 1)) hWC hCh));clear HS;generalize waitP m (ordL m i) x p k=q at *;gi_wp2_with fail;exact⟨⟨p+1,by omega,by go_num,HH6.u,HF6.u,HZ6.u,HJ6.u⟩,by simp[intOf];omega⟩
      . obtain rfl:p=l.length:=by omega
        have hpl':¬ (l.length:Int)<(l.length:Int):=(by omega);have HZ6:=HZ5;rw[HPf.u,<- HO.u]at HZ6;have HJ6:=HJ5;rw[<- HO.u]at HJ6;have HCn:=h_ (qhf m C (i+1) _ HV.u HZ6.u);gi_wp2_with fail;refine callW (HCn.u.mono ?_);rintro e w6 ⟨rfl,rfl⟩;gi_wp2_with fail;exact⟨⟨i+1,by rw[HO.u,Yd];simp;exact hil,rfl,HH5.u,HF5.u,HZ6.u,HJ6.u⟩,qdd hx HXi.u HX0.u HZ.u (by have h:=HZ6.u;rw[HO.u]at h;exact h)⟩
end Go.Proofs.YtgojgjlninakjaaGreatDoor
namespace Go.Proofs.YtgojgjlninakjaaGreatDoor
open Go Go.RowKit
def SpecZ (N:Int)(m:Nat)(f g:Nat->Int)(code:Int):Prop:=∀(w:World) (X:Option Addr) (c:Nat),Pairs w X m f g->Calls Tryz.prog 64 #[.agg #[.int .i64 N,.slice X m c]] w fun e w'=>e=.returned (.tuple #[zeroL,.int .i64 code])/\Below w.heap.size w w'
def ImplZ (N:Int)(m:Nat)(f g:Nat->Int)(code:Int):Prop:=∀(w:World) (X:Option Addr) (c:Nat),Pairs w X m f g->Tab w->Calls Tryz.prog 116 #[.agg #[.int .i64 N,.slice X m c]] w fun e w'=>e=.returned (.tuple #[zeroL,.int .i64 code])/\Below w.heap.size w w'
def SpecF (N:Int)(m:Nat)(f g:Nat->Int)(s:Nat)(F:Nat->Bool)(J M:Nat->Int)(bot top:Int):Prop:=∀(w:World) (X:Option Addr) (c:Nat),Pairs w X m f g->Calls Tryz.prog 64 #[.agg #[.int .i64 N,.slice X m c]] w fun e w' =>
 ∃a1 a2 a3 c1 c2 c3,e=.returned (.tuple #[.agg (Ji N a1 s c1 a2 c2 a3 c3 bot top),J6 0])/\Bools w' a1 s F/\Ints w' a2 s J/\Ints w' a3 s M/\Below w.heap.size w w'
def ImplF (N:Int)(m:Nat)(f g:Nat->Int)(s:Nat)(F:Nat->Bool)(J M:Nat->Int)(bot top:Int):Prop:=∀(w:World) (X:Option Addr) (c:Nat),Pairs w X m f g->Tab w->Calls Tryz.prog 116 #[.agg #[.int .i64 N,.slice X m c]] w fun e w' =>
 ∃G1 G2 G3,e=.returned (.tuple #[.agg #[J6 N,.slice (some ⟨G1,0,none⟩) s s,.slice (some ⟨G2,0,none⟩) s s,.slice (some ⟨G3,0,none⟩) s s,J6 bot,J6 top],J6 0])/\Blk w' G1 4 (bs s F)/\Blk w' G2 3 (is s J)/\Blk w' G3 3 (is s M)/\w.heap.size<=G1/\w.heap.size<=G2/\w.heap.size<=G3/\G1≠G2/\G1≠G3/\G2≠G3/\Below w.heap.size w w'
def SpecC (N:Int)(m:Nat)(f g:Nat->Int)(s:Nat)(F:Nat->Bool):Prop:=∀(w:World) (X:Option Addr) (c:Nat),Pairs w X m f g->Calls Tryz.prog 102 #[.agg #[.int .i64 N,.slice X m c]] w fun e w'=>∃G,e=.returned (.slice (some ⟨G,0,none⟩) s s)/\Blk w' G 4 (bs s F)/\w.heap.size<=G/\Below w.heap.size w w'
theorem Pairs.congr {w:World}{a:Option Addr}{m:Nat}{f g f' g':Nat->Int}(h:Pairs w a m f g)(hf:∀k,k<m->f k=f' k)(hg:∀k,k<m->g k=g' k):Pairs w a m f' g':=fun k hk=>by
 obtain⟨b,off,e,h1,h2,h3⟩:=h k hk
 exact⟨b,off,e,h1,by rw[<- hf k hk];exact h2,by rw[<- hg k hk];exact h3⟩
theorem qeg (w:World)(n:Nat)(F:Nat->Bool)(J M:Nat->Int):∃w1 a1 a2 a3,Bools w1 a1 n F/\Ints w1 a2 n J/\Ints w1 a3 n M:=by
 have b1:=((Blk.new w 4 (bs n F).toArray).alloc (.cells (is n J).toArray 3)).alloc (.cells (is n M).toArray 3)
 have b2:=(Blk.new (w.alloc (.cells (bs n F).toArray 4)) 3 (is n J).toArray).alloc (.cells (is n M).toArray 3)
 have b3:=Blk.new ((w.alloc (.cells (bs n F).toArray 4)).alloc (.cells (is n J).toArray 3)) 3 (is n M).toArray
 exact⟨_,_,_,_,Blk.bools (f:=F) b1,Blk.ints (f:=J) b2,Blk.ints (f:=M) b3⟩
theorem pb_is (f g:Nat->Nat):∀m,(∀k,k<m->f k<32)->(∀k,k<m->g k<32)->∃u,IsRel u (pb f g m)
 | 0,_,_=>⟨fun _=>0,fun a _=>⟨Nat.zero_lt_of_lt (show 0<4294967296 by decide),fun b=>by simp[pb]⟩⟩
 | m+1,hf,hg=>by
  obtain⟨u,h⟩:=pb_is f g m (fun k hk=>hf k (by omega)) (fun k hk=>hg k (by omega));have h':=h.add (hf m (by omega)) (hg m (by omega));exact⟨_,fun a ha=>⟨(h' a ha).1,fun b=>((h' a ha).2 b).trans (qn0 f g m a b).symm⟩⟩
theorem dich4 (N:Int)(m:Nat)(f g:Nat->Int)(hm:m<=1048576):(∃code,(1<=code/\code<=4)/\SpecZ N m f g code/\ImplZ N m f g code)∨(∃s F J M bot top,s<=1024/\Valid N s s s F J M bot top/\SpecF N m f g s F J M bot top/\ImplF N m f g s F J M bot top/\SpecC N m f g s F):=by
 by_cases hr:1<=N/\N<=32/\m<=256
 . by_cases hp:∀k,k<m->0<=f k/\f k<N/\0<=g k/\g k<N
   . obtain⟨n,rfl⟩:∃n:Nat,N=n:=⟨N.toNat,by omega⟩
     have h1:1<=n:=(by omega);have h32:n<=32:=(by omega);have hF1:∀k,k<m->f k=(((f k).toNat:Nat):Int):=fun k hk=>by have:=hp k hk;omega
     have hG1:∀k,k<m->g k=(((g k).toNat:Nat):Int):=fun k hk=>by have:=hp k hk;omega
     have hf:∀k,k<m->(f k).toNat<n:=fun k hk=>by have:=hp k hk;omega
     have hg:∀k,k<m->(g k).toNat<n:=fun k hk=>by have:=hp k hk;omega
     obtain⟨F,hF⟩:=Nq (tabB n (rounds diag (fun k=>(f k).toNat) (fun k=>(g k).toNat) m n));have spec:∀(w:World) (X:Option Addr) (c:Nat),Pairs w X m f g->Calls Tryz.prog 64 #[.agg (Jp n X m c)] w fun e w'=>SpecOut n F e w'/\Below w.heap.size w w':=fun w X c h =>
      q4u n X m c _ _ w h1 h32 hr.2.2 (h.congr hF1 hG1) hf hg F hF
     have impl:∀(e1:Ending) (w1:World),SpecOut n F e1 w1->∀(w:World) (X:Option Addr) (c:Nat),Pairs w X m f g->Tab w->Calls Tryz.prog 116 #[.agg (Jp n X m c)] w fun e w'=>SameOut n F w.heap.size e1 e w1 w'/\Below w.heap.size w w':=fun e1 w1 hS w X c h ht =>
      (q3t n X m c _ _ w h1 h32 hr.2.2 (h.congr hF1 hG1) hf hg ht).mono fun e w' ⟨hb,u,q,d,Rl,hu,hq,hqr,hd,hL⟩=>by
       have hqp:=rel_q h32 hu hf hg hF hq;have hRl:∀a b,a<32->Rl a b=part F n (n*n) a b:=fun a b ha=>((hqr a ha).2 b).symm.trans ((hqp a ha).2 b);have hd':IsRel d (fun b a=>decide (a<n)&&part F n (n*n) a b):=hd.congr fun a b _=>by
        by_cases hb:b<n
        . rw[hRl b a (by omega)]
        . rw[Yb hb];rfl
       have hle:∀{a b},Le F n a b ↔ a<n/\Reach u a b:=qgz h32 hu hf hg hF;refine⟨qil h1 h32 hqp hd' (fun a b ha hb=>?_) (fun a ha=>hle.2 ⟨ha,Reach.refl _ _⟩) (fun a b e x y=>hle.2 ⟨(hle.1 x).1,q78 (hle.1 x).2 (hle.1 y).2⟩) hS hL,hb⟩;rw[hRl a b (by omega),Zk,qht];exact⟨fun h=>h.2.2,fun h=>⟨ha,hb,h⟩⟩
     have zero:∀code:Int,(∀e w',SpecOut n F e w'->e=.returned (.tuple #[zeroL,J6 code]))->(∀w',SpecOut n F (.returned (.tuple #[zeroL,J6 code])) w')->SpecZ n m f g code/\ImplZ n m f g code:=fun code h1 h2=>by
      refine⟨fun w X c h=>(spec w X c h).mono fun e w' ⟨a,b⟩=>⟨h1 e w' a,b⟩,fun w X c h ht=>(impl _ w (h2 w) w X c h ht).mono fun e w' ⟨a,b⟩=>⟨?_,b⟩⟩;rcases a with ⟨code',x,y⟩ | ⟨a1,a2,a3,c1,c2,c3,G1,G2,G3,bot,top,x,-⟩
      . simp only[Ending.returned.injEq,Value.tuple.injEq,Array.mk.injEq,Of,Value.int.injEq,and_true,true_and]at x
        rw[y,x]
      . exfalso
        simp[zeroL]at x;omega
     by_cases t2:TwoW F n
     . exact .inl ⟨2,by decide,zero 2 (fun e w' h=>by
        rcases h with ⟨-,he⟩ | ⟨x,-⟩ | ⟨x,-⟩ | ⟨x,-⟩
        . exact he
        all_goals exact absurd t2 x) fun w'=>.inl ⟨t2,rfl⟩⟩
     by_cases t3:∃i,i<n*n/\JF F n i<0
     . have n3:¬ ∀i,i<n*n->0<=JF F n i:=fun h=>by obtain⟨i,hi,x⟩:=t3;have:=h i hi;omega
       exact .inl ⟨3,by decide,zero 3 (fun e w' h=>by
        rcases h with ⟨x,-⟩ | ⟨-,-,he⟩ | ⟨-,x,-⟩ | ⟨-,x,-⟩
        . exact absurd x t2
        . exact he
        all_goals exact absurd x n3) fun w'=>.inr (.inl ⟨t2,t3,rfl⟩)⟩
     have p3:∀i,i<n*n->0<=JF F n i:=fun i hi=>Classical.byContradiction fun h=>t3 ⟨i,hi,by omega⟩;by_cases t4:∃i,i<n*n/\MF F n i<0
     . have n4:¬ ∀i,i<n*n->0<=MF F n i:=fun h=>by obtain⟨i,hi,x⟩:=t4;have:=h i hi;omega
       exact .inl ⟨4,by decide,zero 4 (fun e w' h=>by
        rcases h with ⟨x,-⟩ | ⟨-,x,-⟩ | ⟨-,-,-,he⟩ | ⟨-,-,x,-⟩
        . exact absurd x t2
        . exact absurd x t3
        . exact he
        . exact absurd x n4) fun w'=>.inr (.inr (.inl ⟨t2,p3,t4,rfl⟩))⟩
     have p4:∀i,i<n*n->0<=MF F n i:=fun i hi=>Classical.byContradiction fun h=>t4 ⟨i,hi,by omega⟩;refine .inr ⟨n*n,F,JF F n,MF F n,lastN (belowAll F n n) n,lastN (aboveAll F n n) n,sq_le h32,?_,fun w X c h=>(spec w X c h).mono fun e w' ⟨a,b⟩=>?_,fun w X c h ht=>?_,fun w X c h=>by rw[<- hF];exact q2h n X m c _ _ w h1 h32 hr.2.2 (h.congr hF1 hG1) hf hg⟩
     . obtain⟨u,hu⟩:=pb_is (fun k=>(f k).toNat) (fun k=>(g k).toNat) m (fun k hk=>Ys (hf k hk) h32) (fun k hk=>Ys (hg k hk) h32)
       have hle:∀{a b},Le F n a b ↔ a<n/\Reach u a b:=qgz h32 hu hf hg hF;exact q5e h1 h32 (fun a ha=>(hle.2 ⟨ha,Reach.refl _ _⟩).2.2) (fun a b c ha hb hc x y=>(hle.2 ⟨ha,q78 (hle.1 ⟨ha,hb,x⟩).2 (hle.1 ⟨hb,hc,y⟩).2⟩).2.2) t2 p3 p4
     . rcases a with ⟨x,-⟩ | ⟨-,x,-⟩ | ⟨-,-,x,-⟩ | ⟨-,-,-,a1,a2,a3,c1,c2,c3,he,k1,k2,k3⟩
       . exact absurd x t2
       . exact absurd x t3
       . exact absurd x t4
       . exact⟨a1,a2,a3,c1,c2,c3,he,k1,k2,k3,b⟩
     . obtain⟨w1,a1,a2,a3,k1,k2,k3⟩:=qeg w (n*n) F (JF F n) (MF F n)
       refine(impl _ w1 (.inr (.inr (.inr ⟨t2,p3,p4,a1,a2,a3,0,0,0,rfl,k1,k2,k3⟩))) w X c h ht).mono fun e w' ⟨a,b⟩=>?_;rcases a with ⟨code',x,-⟩ | ⟨a1',a2',a3',c1,c2,c3,G1,G2,G3,bot,top,x,y,-,-,-,b1,b2,b3,z⟩
       . exfalso
         simp[zeroL]at x;omega
       . simp only[Ending.returned.injEq,Value.tuple.injEq,Value.agg.injEq,Array.mk.injEq,Of,Value.int.injEq,Value.slice.injEq,and_true,true_and]at x
         obtain⟨-,-,-,hb,ht⟩:=x;rw[<- hb,<- ht]at y;exact⟨G1,G2,G3,y,b1,b2,b3,z.1,z.2.1,z.2.2.1,z.2.2.2.1,z.2.2.2.2.1,z.2.2.2.2.2,b⟩
   . refine .inl ⟨1,by decide,fun w X c h=>q35 N X m c w fun w' hb=>q11 N X m c f g w' hr.1 hr.2.1 hr.2.2 (h.mono hb) false ⟨(fun x=>by cases x),fun x=>absurd x hp⟩,fun w X c h _=>q2f N X m c w fun w' hb=>q38 N X m c f g w' hr.1 hr.2.1 hr.2.2 (h.mono hb) false ⟨(fun x=>by cases x),fun x=>absurd x hp⟩⟩
 . exact .inl ⟨1,by decide,fun w X c _=>q35 N X m c w fun w' _=>q12 N X m c w' (by omega) hr,fun w X c _ _=>q2f N X m c w fun w' _=>q39 N X m c w' (by omega) hr⟩
end Go.Proofs.YtgojgjlninakjaaGreatDoor
namespace Go.Proofs.YtgojgjlninakjaaGreatDoor
open Go
theorem qlx {N bot top:Int}{s n bt tp:Nat}{F:Nat->Bool}{J M:Nat->Int}(h:ValidP N s s s F J M bot top n bt tp):LatP n (fun a b=>F (a*n+b)=true) (fun a b=>(J (a*n+b)).toNat) bt:=by
 refine⟨fun a ha=>(h.rows a ha).1,fun a b c ha hb hc x y=>((h.rows a ha).2.2.2 b hb).2 c hc x y,fun a b ha hb x y=>Classical.byContradiction fun e=>((h.rows a ha).2.2.2 b hb).1 ⟨e,x,y⟩,h.bb,fun a ha=>(h.rows a ha).2.1,fun a b ha hb=>?_,fun a b ha hb=>?_,fun a b ha hb=>?_,fun a b c ha hb hc x y=>?_⟩
 . obtain⟨j,m,hj,-,hl,-⟩:=h.ents a ha b hb
   show(J (a*n+b)).toNat<n;rw[hj];simpa using hl
 . obtain⟨j,m,hj,-,-,-,hp,-⟩:=h.ents a ha b hb
   show F (a*n+(J (a*n+b)).toNat)=true;rw[hj];simpa using hp.1
 . obtain⟨j,m,hj,-,-,-,hp,-⟩:=h.ents a ha b hb
   show F (b*n+(J (a*n+b)).toNat)=true;rw[hj];simpa using hp.2.1
 . obtain⟨j,m,hj,-,-,-,hp,-⟩:=h.ents a ha b hb
   show F ((J (a*n+b)).toNat*n+c)=true;rw[hj];simpa using hp.2.2 c hc x y
theorem qgw {N bot top:Int}{s n bt tp:Nat}{F:Nat->Bool}{J M:Nat->Int}(h:ValidP N s s s F J M bot top n bt tp){a b:Nat}(ha:a<n)(hb:b<n):J (a*n+b)=(((J (a*n+b)).toNat:Nat):Int):=by
 obtain⟨j,m,hj,-,-,-,hp,-⟩:=h.ents a ha b hb
 rw[hj]
 simp
theorem qhs {w:World}{a:Option Addr}{l:List (Int × Int)}(h:Prs w a l):Pairs w a l.length (fun k=>(l.getD k (0,0)).1) (fun k=>(l.getD k (0,0)).2):=fun k hk=>by
 obtain⟨b,o,e,h1,h2,h3⟩:=h k hk
 refine⟨b,o,e,h1,?_,?_⟩
 . dsimp only;rw[Yo,Yc hk];exact h2
 . dsimp only;rw[Yo,Yc hk];exact h3
end Go.Proofs.YtgojgjlninakjaaGreatDoor
namespace Go.Proofs.YtgojgjlninakjaaGreatDoor
open Go Go.RowKit
def lsL (f:Nat->Nat)(k:Nat):List Nat:=(List.range k).map f
theorem qh3 (f:Nat->Nat)(k:Nat):lsL f (k+1)=lsL f k++[f k]:=by
 unfold lsL
 rw[Zh,Zc]
 rfl
theorem qm7 (f:Nat->Nat)(k:Nat):(lsL f k).length=k:=by simp[lsL]
theorem qm6 {f:Nat->Nat}{k i:Nat}(h:i<(lsL f k).length):(lsL f k)[i]=f i:=by simp[lsL]
theorem qde {f g:Nat->Nat}{k:Nat}(h:∀i,i<k->f i=g i):lsL f k=lsL g k:=Zo fun i hi=>h i (Y9.1 hi)
theorem qnj {w:World}{base c n:Nat}{a:Option Addr}{f:Nat->Nat}(h:w.ownsRow base 3 1 (.slice a n c) n (ui (lsL f n))){i:Nat}(hi:i<n):∃g,a=some ⟨g,0,none⟩/\g<w.heap.size/\w.cell? ⟨g,i,none⟩=some (J6 (f i:Nat)):=by
 have hl:=qm7 f n
 have h':w.ownsRow base 3 1 (.slice a (lsL f n).length c) (lsL f n).length (ui (lsL f n)):=by rw[hl];exact h
 obtain⟨a',c',e,h2⟩:∃a' c',Value.slice a (lsL f n).length c=.slice a' (lsL f n).length c'/\∀i (hi:i<(lsL f n).length),∃g,a'=some ⟨g,0,none⟩/\g<w.heap.size/\w.cell? ⟨g,i,none⟩=some (J6 ((lsL f n)[i]:Nat)):=by
  rcases h'.2 with ⟨h1,h2⟩ | ⟨g,cap,cur,h1,hb,hg,r⟩
  . omega
  . refine⟨_,_,h1,fun i hi=>⟨g,rfl,(Yr.1 hg).1,?_⟩⟩
    rw[h1]at h';rw[h'.cellAt i (by omega)];simp[ui,hi]
 cases e
 obtain⟨g,e,h3,h4⟩:=h2 i (by omega)
 rw[qm6]at h4
 exact⟨g,e,h3,h4⟩
theorem qdv {w w':World}{base n size:Nat}{e:TypeId}{v:Value}{xs:List Value}(h:w.ownsRow base e size v n xs)(hb:Below w.heap.size w w'):w'.ownsRow base e size v n xs :=
 h.kept (row:=none) ⟨hb.os,hb.tape,hb.output,hb.size,fun k hk _=>hb.block k hk⟩ (Classical.em _)
theorem qe6 {w:World}{base n:Nat}{v:Value}{xs:List Value}(h:w.ownsRow base 3 1 v n xs):∃a c,v=.slice a n c:=by
 rcases h.2 with ⟨h1,h2⟩ | ⟨g,cap,cur,h1,-⟩
 . exact⟨none,0,by rw[h1,h2]⟩
 . exact⟨_,_,h1⟩
theorem qcu {x n y:Nat}(hx:x<n)(hy:y<n)(hn:n<=32):x*n+y<n*n/\wrap64 ((x:Int)*(n:Int))=((x*n:Nat):Int)/\wrap64 (((x*n:Nat):Int)+((y:Nat):Int))=((x*n+y:Nat):Int)/\((x*n+y:Nat):Int)<((n*n:Nat):Int)/\((x*n+y:Nat):Int)<(n:Int)*(n:Int):=by
 rw[<- Zd n n]
 have h1:x*n+n<=n*n:=by rw[<- Zx];exact Vd _ hx
 have h2:n*n<=1024:=by have:=Nat.mul_le_mul hn hn;omega
 have h3:x*n+y<n*n:=by omega
 generalize n*n=q at *
 refine⟨h3,?_,?_,by omega,by omega⟩
 . rw[<- Zd]
   generalize x*n=z at *;exact q55 (by omega) (by omega)
 . rw[<- Og]
   generalize x*n=z at *;exact q55 (by omega) (by omega)
theorem q49 (m:Fm)(A:MA)(w:World)(N bot top:Int)(s n bt tp:Nat)(F:Nat->Bool)(J M:Nat->Int)(a1 a2 a3:Option Addr)(c1 c2 c3:Nat)(hv:VfA m)(hf:FitM m)(hL:ValidP N s s s F J M bot top n bt tp)(hN:m.L.length=n)(ha:MSl w m A)(hj:Ints w a2 s J) :
 Calls Tryz.prog 107 #[mV m A,.agg (Ji N a1 s c1 a2 c2 a3 c3 bot top)] w fun r w'=>∃f a0 c0,r=.returned (.slice a0 m.F.length c0)/\Sol m n (fun a b=>F (a*n+b)=true) f/\Low m n (fun a b=>F (a*n+b)=true) f/\Plc w' a0 (lsL f m.F.length)/\Below w.heap.size w w':=by
 have HL:=h_ hL;have HV:=h_ hv;have HNl:=h_ hN
 have HLat:=h_ (qlx hL)
 have HJn:=h_ fun a b (ha:a<n) (hb:b<n)=>qgw hL ha hb
 obtain⟨jn,hjn⟩:∃jn:Nat->Nat->Nat,(fun a b=>(J (a*n+b)).toNat)=jn:=⟨_,rfl⟩
 rw[hjn]at HLat
 have HJe:Hi (∀a b,a<n->b<n->J (a*n+b)=((jn a b:Nat):Int)):=h_ fun a b ha hb=>by rw[<- hjn];exact HJn.u a b ha hb
 clear HJn hjn
 have HCa:=h_ fun W j k (hj:j<m.F.length) (hk:k<m.F.length) (hs:MSl W m A)=>qd8 m A j k W hj hk hf hs
 have hnf:=hv.nf
 have hNe:=hL.hN;have hb:=hL.hb;have hn32:=hL.h32;have hn1:=hL.h1;have hs2:=hL.l2;have hbb:=hL.bb
 subst hNe hb hs2
 clear hL hf hN
 obtain⟨al,alc,ap,apc,ar,arc,af,afc,afa⟩:=A
 unfold mV at HCa⊢
 dsimp only at HCa⊢
 have HK:=h_ ((Blk.new w 36 (#[.slice al m.L.length alc,.slice ap m.P.length apc,.slice ar m.R.length arc,.slice af m.F.length afc])).alloc (.cells (Ji n a1 (n*n) c1 a2 c2 a3 c3 bt top) 105))
 have HQ:=h_ (Blk.new (w.alloc (.cells (#[.slice al m.L.length alc,.slice ap m.P.length apc,.slice ar m.R.length arc,.slice af m.F.length afc]) 36)) 105 (Ji n a1 (n*n) c1 a2 c2 a3 c3 bt top))
 rw[Yk]at HQ
 have HB:=h_ (((bR w.heap.size w).alloc (nR _) (.cells (#[.slice al m.L.length alc,.slice ap m.P.length apc,.slice ar m.R.length arc,.slice af m.F.length afc]) 36)).alloc (by simp) (.cells (Ji n a1 (n*n) c1 a2 c2 a3 c3 bt top) 105))
 obtain⟨W0,hW0⟩:=Nq ((w.alloc (.cells (#[.slice al m.L.length alc,.slice ap m.P.length apc,.slice ar m.R.length arc,.slice af m.F.length afc]) 36)).alloc (.cells (Ji n a1 (n*n) c1 a2 c2 a3 c3 bt top) 105))
 rw[hW0]at HK HQ HB
 have HS:=h_ (ha.mono HB.u);have HJm:=h_ (hj.mono HB.u)
 clear ha hj hv
 have HO:=h_ (qdx W0 3)
 have HBo:=h_ ((bR W0.heap.size W0).alloc (nR _) (.cells #[] 3))
 obtain⟨W1,hW1⟩:=Nq (W0.alloc (.cells #[] 3))
 rw[hW1]at HO HBo
 obtain⟨y0,y1,y2,y3⟩:=quad HK.u
 go_enter Tryz.func107,Tryz.ntmps107
 go_wp2_with fail
 try rw[hW0]
 try rw[hW1]
 clear hW0 hW1 y0 y1 y2 y3
 go_loopw [6,7] (fun v i wr=>∃k:Nat,k<=m.F.length/\i=J6 k/\wr.ownsRow W0.heap.size 3 1 v k (ui (lsL (startL m bt) k))/\Below W0.heap.size W0 wr) (fun _ i _=>m.F.length - (intOf i).toNat)
 case atStart=>exact⟨0,nZ _,rfl,HO.u,HBo.u⟩
 case round =>
  clear HO HBo;obtain⟨k,hk,rfl,ho,hb⟩:=hrel;have HO:=h_ ho;have HBr:=h_ hb;have HKr:=mB HK hb;have HQr:=mB HQ hb;have HSr:=h_ (HS.u.mono hb);have hws:=hb.size;clear ho hb;by_cases hlt:k<m.F.length
  . have hlt':(k:Int)<m.F.length:=by omega
    have HT:=h_ (qh3 (startL m bt) k);obtain⟨pb,po,rfl,⟨-,-,-,z2,-⟩,-⟩:=HSr.u.f k hlt;obtain⟨y0,y1,y2,y3⟩:=quad HKr.u;have hlb:=declared HV.u hlt;have hst:(m.F[k].lb<0/\startL m bt k=bt)∨(¬ m.F[k].lb<0/\m.F[k].lb=((startL m bt k:Nat):Int)):=by
     unfold startL;rw[qku hlt];by_cases h:m.F[k].lb<0
     . exact .inl ⟨h,by rw[Yv h]⟩
     . exact .inr ⟨h,by rw[Yn h];omega⟩
    generalize startL m bt k=x at *;obtain⟨i0,hi,hz0,hz1,hz2⟩:=info_parts infoI;have q4:=HQr.u.cell 4;simp only[Yg,Y6]at q4;rcases hst with ⟨hneg,hx⟩ | ⟨hneg,hx⟩
    case' inl =>
     rw[<- hx]at q4;clear hx
    case' inr =>
     rw[hx]at z2;have hneg':¬ ((x:Nat):Int)<0:=(by omega);clear hx
    all_goals
     go_wp2_with (at_builtin;refine wpList_append_own _ rfl _ _ 77 rfl W0.heap.size 3 i0 _ 1 8 Tryz.underlying77 hi hz0 hz1 hz2 rfl (by omega) _ _ _ rfl (HO.u.alloc _) ⟨wr.heap.size,0,none⟩ 1 1 [J6 x] rfl rfl (qfl wr 3 _) (by simp[Value.oneCell']) (by unfold maxLen;omega) (by omega) (by simp;omega) ?_);intro v' w4 ho' hgr' _;have HO2:Hi (w4.ownsRow W0.heap.size 3 1 v' (k+1) (ui (lsL (startL m bt) (k+1)))):=h_ (by rw[HT.u];simpa [ui] using ho');have HB3:=h_ ((HBr.u.alloc hws (.cells #[J6 x] 3)).grown hgr' (by simp;omega) (fun q' e=>qa0 HO.u e));clear ho' hgr' hi hz0 hz1 hz2 z2 y0 y1 y2 y3 q4;go_wp2_with fail;go_roundw
     case rel=>first | exact⟨k+1,by omega,by go_num,HO2.u,HB3.u⟩ | ((repeat apply Exists.intro);exact⟨⟨k+1,by omega,by go_num,HO2.u,HB3.u⟩,rfl⟩)
     case measure=>simp[intOf];omega
  . obtain rfl:k=m.F.length:=by omega
    have hlt':¬ (m.F.length:Int)<(m.F.length:Int):=(by omega);have HWs:=h_ (qfa HLat.u HV.u HNl.u);obtain⟨p,hp⟩:=Nq (m.F.length*n);have hpi:(m.F.length:Int)*(n:Int)=(p:Int):=(by rw[<- Zd,hp]);have hpl:p<=6400:=(by rw[<- hp];exact Nat.mul_le_mul hnf hn32);have HPot:Hi (∀f,potL (fun a b=>F (a*n+b)) n m.F.length f<=p):=h_ fun f=>by rw[<- hp];exact pot_le _ _ _ f
    clear hp;obtain⟨a5,c5,e5⟩:=qe6 HO.u;rw[e5]at HO;subst e5;go_wp2_with fail;go_loopw [6,8] (fun v r w3=>∃(q:Nat) (f:Nat->Nat),q<=p+1/\r=J6 q/\w3.ownsRow W0.heap.size 3 1 v m.F.length (ui (lsL f m.F.length))/\Way m n (fun a b=>F (a*n+b)=true) f/\q<=potL (fun a b=>F (a*n+b)) n m.F.length f/\Below W0.heap.size W0 w3) (fun _ r _=>p+1 - (intOf r).toNat)
    case atStart=>exact⟨0,_,nZ _,rfl,HO.u,HWs.u,nZ _,HBr.u⟩
    case round =>
     clear HO HBr HKr HQr HSr hws HWs;obtain⟨q,f,hq,rfl,ho,hway,hpot,hb⟩:=hrel;obtain⟨a5,c5,e5⟩:=qe6 ho;rw[e5]at ho;subst e5;have HNow:=h_ ho;have HWay:=h_ hway;have HPq:=h_ hpot;have HBr:=h_ hb;have HQr:=mB HQ hb;have q0:=HQr.u.cell 0;simp only[Yg]at q0;have hws:=hb.size;clear ho hway hpot hb;have hqp:q<=p:=by
      have h1:=HPq.u;have h2:=HPot.u f;omega
     have hqp':(q:Int)<=p:=(by omega);have HWj:=h_ (HWay.u.jac HLat.u);have HJg:=h_ (jac_ge HLat.u HWay.u);have HO:=h_ (qdx wr 3);have HBo:=h_ ((bR wr.heap.size wr).alloc (nR _) (.cells #[] 3));obtain⟨W3,hW3⟩:=Nq (wr.alloc (.cells #[] 3));rw[hW3]at HO HBo;obtain⟨B1,hB1⟩:=Nq wr.heap.size;go_wp2_with fail
     try rw[hW3]
     rw[hB1]at HO;clear hW3 q0;obtain⟨wz,hwz⟩:=Nq wr;rw[hwz]at HNow HBr HQr HBo hB1 hws;rw[hB1]at HBo;go_loopw [9,10,11] (fun v ch kk w3=>∃(k:Nat) (cb:Bool),k<=m.F.length/\kk=J6 k/\ch=.bool cb/\w3.ownsRow B1 3 1 v k (ui (lsL (jac m jn f) k))/\(cb=true ↔ ∃i,i<k/\jac m jn f i≠f i)/\Below B1 wz w3) (fun _ _ kk _=>m.F.length - (intOf kk).toNat)
     case atStart=>exact⟨0,false,nZ _,rfl,rfl,HO.u,⟨(fun h=>by cases h),fun⟨i,h,_⟩=>absurd h (nL _)⟩,HBo.u⟩
     case round =>
      clear HO HBo hwz;obtain⟨k,cb,hkl,rfl,rfl,ho,hcb,hb⟩:=hrel;have HNx:=h_ ho;have HCb:=h_ hcb;have HB1:=h_ hb;have HBk:Hi (Below wz.heap.size wz wr):=h_ (by rw[hB1];exact hb);have hz1:B1<=wr.heap.size:=(by have:=hb.size;omega);clear ho hcb hb;by_cases hklt:k<m.F.length
      . have hklt':(k:Int)<m.F.length:=by omega
        have HBa:=h_ (HBr.u.trans (HBk.u.mono hws));have HKr:=h_ (HK.u.mono HBa.u HK.u.lt);have HSr:=h_ (HS.u.mono HBa.u);obtain⟨pb,po,e1,⟨hpb,-,-,z2,-⟩,-⟩:=HSr.u.f k hklt;dsimp only at e1;obtain⟨y0,y1,y2,y3⟩:=quad HKr.u;rw[e1]at y3;clear e1;obtain⟨g,e2,hgl,zk⟩:=qnj (qdv HNow.u HBk.u) hklt;have hauto:(m.F[k].lb<0/\jac m jn f k=((rdO m k m.F.length).map f).foldl jn (f k))∨(¬ m.F[k].lb<0/\jac m jn f k=f k):=by
         unfold jac;rw[qku hklt];by_cases h:m.F[k].lb<0
         . exact .inl ⟨h,by rw[Yv h]⟩
         . exact .inr ⟨h,by rw[Yn h]⟩
        generalize m.F[k].lb=lb at *;rcases hauto with ⟨hneg,hjk⟩ | ⟨hneg,hjk⟩
        . subst e2
          have hfk:=HWay.u.lt k hklt;go_wp2_with fail;clear z2 y0 y1 y2 y3 zk;obtain⟨wx,hwx⟩:=Nq wr;rw[hwx]at HNx HB1 HBk HBa HKr HSr hz1 hpb hgl;go_loopw [12,13] (fun xv jv w4=>∃j:Nat,j<=m.F.length/\jv=J6 j/\xv=J6 ((((rdO m k j).map f).foldl jn (f k):Nat):Int)/\Below wx.heap.size wx w4) (fun _ jv _=>m.F.length - (intOf jv).toNat)
          case atStart=>exact⟨0,nZ _,rfl,rfl,by rw[hwx];exact bR _ _⟩
          case round =>
           clear hwx;obtain⟨j,hjl,rfl,rfl,hb⟩:=hrel;have HBx:=h_ hb;have HBb:=mT HBa hb;have HK2:=h_ (HK.u.mono HBb.u HK.u.lt);have HS2:=h_ (HS.u.mono HBb.u);have HQ2:=h_ (HQ.u.mono HBb.u HQ.u.lt);have HJ2:=h_ (HJm.u.mono HBb.u);have HR2:=h_ (qdv (qdv HNow.u HBk.u) hb);have hws4:=hb.size;clear hb;have hxl:=HLat.u.fold_lt _ _ hfk (rdO_lt HWay.u.lt k j hjl);by_cases hjlt:j<m.F.length
           . have hjlt':(j:Int)<m.F.length:=by omega
             have hfj:=HWay.u.lt j hjlt;have HSu:=h_ (qi5 m k j);obtain⟨y0,y1,y2,y3⟩:=quad HK2.u;have HC2:=h_ (HCa.u wr j k hjlt hklt HS2.u);generalize hxx:((rdO m k j).map f).foldl jn (f k)=x at *;have HXX:=h_ hxx;clear hxx;go_wp2_with fail;refine HC2.u.mono ?_;rintro r W5 ⟨rfl,hb⟩;have HB5:=mT HBx hb;have HQ5:=h_ (HQ2.u.mono hb HQ2.u.lt);have HJ5:=h_ (HJ2.u.mono hb);have HR5:=h_ (qdv HR2.u hb);clear hb y0 y1 y2 y3 HC2 HK2 HS2 HQ2 HJ2 HR2;cases har:anyR m j k
             . have HXn:Hi (((rdO m k (j+1)).map f).foldl jn (f k)=x):=h_ (by rw[HSu.u,har,<- HXX.u];simp)
               clear har HSu;go_wp2_with fail;go_roundw
               case rel=>first | exact⟨j+1,by omega,by go_num,by rw[HXn.u],HB5.u⟩ | ((repeat apply Exists.intro);exact⟨⟨j+1,by omega,by go_num,by rw[HXn.u],HB5.u⟩,rfl⟩)
               case measure=>simp[intOf];omega
             . have HXn:Hi (((rdO m k (j+1)).map f).foldl jn (f k)=jn x (f j)):=h_ (by rw[HSu.u,har,<- HXX.u];simp)
               clear har HSu;obtain⟨hidx,hw1,hw2,hidx',hidx2⟩:=qcu hxl hfj hn32;obtain⟨g',e2,-,zk⟩:=qnj HR5.u hjlt;cases e2;obtain⟨b2,o2,e3,-,zj⟩:=HJ5.u _ hidx;rw[HJe.u x (f j) hxl hfj]at zj;have x2:=HQ5.u.cell 2;have x0:=HQ5.u.cell 0;simp only[Yg,Y6]at x2 x0;rw[e3]at x2;clear e3;generalize jn x (f j)=u at *;generalize f j=y at *;generalize x*n+y=q1 at *;generalize x*n=q2 at *;go_wp2_with fail;refine wp_region_held_drew (S:=fun w'=>w'.cell? ⟨w.heap.size+1,2,none⟩=some (.slice (some ⟨b2,o2,none⟩) (n*n) c2)/\w'.cell? ⟨w.heap.size+1,0,none⟩=some (J6 n)/\w'.cell? ⟨g,j,none⟩=some (J6 (y:Nat))/\w'.cell? ⟨b2,o2+q1,none⟩=some (J6 (u:Nat))) (by kernel_rfl) ⟨x2,x0,zk,zj⟩ (fun zz=>?_);clear x2 x0 zk zj;refine tj 0 78 (J9 (w.heap.size+1) 2) zz ?_;refine tj 1 79 (.slice (some ⟨b2,o2,none⟩) (n*n) c2) zz ?_;refine tj 2 80 (J6 x) zz ?_;refine tj 3 81 (J9 (w.heap.size+1) 0) zz ?_;simp only[sX,sY,sZ];refine tj 4 82 (J6 n) zz ?_;refine tj 5 83 (J6 q2) zz ?_ (hy:=fun w hS=>by simp[execOp,go_sem, *];exact(IntWalk.i64_left _).trans hw1);refine tj 6 84 (.slice (some ⟨g,0,none⟩) m.F.length c5) zz ?_;refine tj 7 85 (J6 j) zz ?_;simp only[sX,sY,sZ];refine tj 8 86 (J9 g j) zz ?_;refine tj 9 87 (J6 y) zz ?_;refine tj 10 88 (J6 q1) zz ?_ (hy:=fun w hS=>by simp[execOp,go_sem, *];exact(IntWalk.i64_left _).trans hw2);refine tj 11 89 (J9 b2 (o2+q1)) zz ?_;simp only[sX,sY,sZ];refine tj 12 90 (J6 u) zz ?_;refine tj 13 12 (J6 u) zz ?_;simp only[sX,sY,sZ];refine wpAnyH_done (by kernel_rfl) ?_ _;have HB6:=h_ (HB5.u.drew);clear zz;go_wp2_with fail;go_roundw
               case rel=>first | exact⟨j+1,by omega,by go_num,by rw[HXn.u],HB6.u⟩ | ((repeat apply Exists.intro);exact⟨⟨j+1,by omega,by go_num,by rw[HXn.u],HB6.u⟩,rfl⟩)
               case measure=>simp[intOf];omega
           . obtain rfl:j=m.F.length:=by omega
             have hjlt':¬ (m.F.length:Int)<(m.F.length:Int):=(by omega);rw[<- hjk];rw[<- hjk]at hxl;replace HNx:=h_ (qdv HNx.u HBx.u);replace HB1:=h_ (HB1.u.trans (HBx.u.mono hz1));replace HBk:=h_ (HBk.u.trans (HBx.u.mono HBk.u.size));clear HBa HKr HSr HBb HK2 HS2 HQ2 HJ2 HR2 HBx hjk;obtain⟨g,e2,-,zk⟩:=qnj (qdv HNow.u HBk.u) hklt;cases e2;obtain⟨i0,hi,hz0,hz1,hz2⟩:=info_parts infoI;have hne:(jac m jn f k≠f k/\((((jac m jn f k:Nat):Int) != ((f k:Nat):Int))=true))∨(jac m jn f k=f k/\((((jac m jn f k:Nat):Int) != ((f k:Nat):Int))=false)):=by
              by_cases e:jac m jn f k=f k
              . exact .inr ⟨e,by rw[e];simp⟩
              . exact .inl ⟨e,by simp;omega⟩
             have hkb:jac m jn f k<n:=HWj.u.lt k hklt;have HT:=h_ (qh3 (jac m jn f) k);have hws2:=HBk.u.size;have HCg:Hi (∀c2:Bool,(c2=true ↔ ∃i,i<k+1/\jac m jn f i≠f i) ↔ (c2=(cb||decide (jac m jn f k≠f k)))):=h_ fun c2=>by
              have hcb:=HCb.u;have h:(∃i,i<k+1/\jac m jn f i≠f i) ↔ (cb||decide (jac m jn f k≠f k))=true:=by
               rw[Zj,decide_eq_true_iff,hcb];constructor
               . rintro⟨i,h1,h2⟩
                 by_cases e:i=k
                 . subst e;exact .inr h2
                 . exact .inl ⟨i,by omega,h2⟩
               . rintro (⟨i,h1,h2⟩ | h)
                 . exact⟨i,by omega,h2⟩
                 . exact⟨k,by omega,h⟩
              rw[h];cases c2 <;> cases (cb||decide (jac m jn f k≠f k)) <;> simp
             rcases hne with ⟨hne1,hne⟩ | ⟨hne1,hne⟩
             case' inl =>
              have HCn:Hi (true=true ↔ ∃i,i<k+1/\jac m jn f i≠f i):=h_ ((HCg.u true).2 (by rw[Yj hne1];simp));clear hne1 HCg
             case' inr =>
              have HCn:Hi (cb=true ↔ ∃i,i<k+1/\jac m jn f i≠f i):=h_ ((HCg.u cb).2 (by rw[Yb (not_not_intro hne1)];simp));clear hne1 HCg
             all_goals
              generalize jac m jn f k=x at *;generalize f k=y at *;go_wp2_with (at_builtin;refine wpList_append_own _ rfl _ _ 77 rfl B1 3 i0 _ 1 8 Tryz.underlying77 hi hz0 hz1 hz2 rfl (by omega) _ _ _ rfl (HNx.u.alloc _) ⟨wr.heap.size,0,none⟩ 1 1 [J6 x] rfl rfl (qfl wr 3 _) (by simp[Value.oneCell']) (by unfold maxLen;omega) (by omega) (by simp;omega) ?_);intro v' w4 ho' hgr' _;have HO2:Hi (w4.ownsRow B1 3 1 v' (k+1) (ui (lsL (jac m jn f) (k+1)))):=h_ (by rw[HT.u];simpa [ui] using ho');have HB3:=h_ ((HB1.u.alloc (by omega) (.cells #[J6 x] 3)).grown hgr' (by simp;omega) (fun q' e=>qa0 HNx.u e));clear ho' hgr' hi hz0 hz1 hz2 zk hne;go_wp2_with fail;go_roundw
              case rel=>exact⟨k+1,_,by omega,by go_num,rfl,HO2.u,by first | exact HCn.u | simpa using HCn.u,HB3.u⟩
              case measure=>simp[intOf];omega
        . have HT0:=h_ (qh3 (jac m jn f) k)
          have HCn:Hi (cb=true ↔ ∃i,i<k+1/\jac m jn f i≠f i):=h_ (by
           rw[HCb.u];constructor
           . rintro⟨i,h1,h2⟩
             exact⟨i,by omega,h2⟩
           . rintro⟨i,h1,h2⟩
             by_cases e:i=k
             . subst e;exact absurd hjk h2
             . exact⟨i,by omega,h2⟩)
          have HT:=HT0;rw[hjk]at HT;subst e2;have hws2:=HBk.u.size;obtain⟨i0,hi,hz0,hz1',hz2⟩:=info_parts infoI;clear hjk HT0;generalize f k=y at *;go_wp2_with (at_builtin;refine wpList_append_own _ rfl _ _ 77 rfl B1 3 i0 _ 1 8 Tryz.underlying77 hi hz0 hz1' hz2 rfl (by omega) _ _ _ rfl (HNx.u.alloc _) ⟨wr.heap.size,0,none⟩ 1 1 [J6 y] rfl rfl (qfl wr 3 _) (by simp[Value.oneCell']) (by unfold maxLen;omega) (by omega) (by simp;omega) ?_);intro v' w4 ho' hgr' _;have HO2:Hi (w4.ownsRow B1 3 1 v' (k+1) (ui (lsL (jac m jn f) (k+1)))):=h_ (by rw[HT.u];simpa [ui] using ho');have HB3:=h_ ((HB1.u.alloc (by omega) (.cells #[J6 y] 3)).grown hgr' (by simp;omega) (fun q' e=>qa0 HNx.u e));clear ho' hgr' hi hz0 hz1' hz2 zk z2 y0 y1 y2 y3;go_wp2_with fail;go_roundw
          case rel=>first | exact⟨k+1,cb,by omega,by go_num,rfl,HO2.u,HCn.u,HB3.u⟩ | ((repeat apply Exists.intro);exact⟨⟨k+1,cb,by omega,by go_num,rfl,HO2.u,HCn.u,HB3.u⟩,rfl⟩)
          case measure=>simp[intOf];omega
      . obtain rfl:k=m.F.length:=by omega
        have hklt':¬ (m.F.length:Int)<(m.F.length:Int):=(by omega);have HB4:Hi (Below W0.heap.size W0 wr):=h_ (HBr.u.trans (HBk.u.mono hws));cases cb
        . have he:∀i,i<m.F.length->jac m jn f i=f i:=fun i hi=>Classical.byContradiction fun h=>by have:=HCb.u.2 ⟨i,hi,h⟩;cases this
          have HSo:=h_ (qlm HLat.u HWay.u he);have hO:=HNx.u;rw[qde he]at hO;obtain⟨a6,c6,rfl,-,hp6⟩:=q75 hO;have HP6:=h_ hp6;have HLo:=h_ HWay.u.low;have HBw:=h_ (HB.u.trans (HB4.u.mono HB.u.size));clear hO hp6 he HNx;go_wp2_with fail;go_ret
          first | exact⟨f,a6,c6,rfl,HSo.u,HLo.u,HP6.u,HBw.u⟩ | exact⟨f,a6,⟨c6,rfl⟩,HSo.u,HLo.u,HP6.u,HBw.u⟩ | exact⟨f,⟨a6,⟨c6,rfl⟩,HSo.u,HLo.u,HP6.u⟩,HBw.u⟩
        . obtain⟨i,hi,hne⟩:=HCb.u.1 rfl
          have HPn:Hi (q+1<=potL (fun a b=>F (a*n+b)) n m.F.length (jac m jn f)):=h_ (by
           have h1:=pot_lt (F:=fun a b=>F (a*n+b)) HLat.u HWay.u.lt HWj.u.lt HJg.u hi (fun e=>hne e.symm);have h2:=HPq.u;omega)
          have HO6:=h_ (qdt HNx.u (show W0.heap.size<=B1 by omega));clear hne;go_wp2_with fail;go_roundw
          case rel=>first | exact⟨q+1,jac m jn f,by omega,by go_num,HO6.u,HWj.u,HPn.u,HB4.u⟩ | ((repeat apply Exists.intro);exact⟨⟨q+1,jac m jn f,by omega,by go_num,HO6.u,HWj.u,HPn.u,HB4.u⟩,rfl⟩)
          case measure=>simp[intOf];omega
end Go.Proofs.YtgojgjlninakjaaGreatDoor
