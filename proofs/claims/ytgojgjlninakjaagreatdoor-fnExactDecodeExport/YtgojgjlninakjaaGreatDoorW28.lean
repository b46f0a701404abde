import Derived.Test.YtgojgjlninakjaaGreatDoorW24
import Derived.Maps.OwnOps
import Derived.Laws.BytesString
set_option maxRecDepth 100000
set_option maxHeartbeats 64000000
namespace Go.Proofs.YtgojgjlninakjaaGreatDoor
open Go Go.RowKit
def wV (m:Fm)(A:MA)(b:Nat):Value:=.agg #[.slice A.l m.L.length A.lc,.slice A.p m.P.length A.pc,.slice A.r m.R.length A.rc,.slice A.f m.F.length A.fc,.map (some b)]
section
variable {md:Region.Mode} {ops:Array Oper} {Q:Exit->Act->World->Prop} {S:World->Prop} {o:Oper} {a:Act} {fuel:Nat} {listed:Array Bool} {i:Nat} {w w':World}
theorem runZ {v:Value}(d:Tmp)(hi:ops[i]? = some o)(hd:o.dst=some d)(hw:Region.wanted o (yielded ops a.tmps)=true)(hr:Region.ready md ops listed=[i])
 (hrun:(execOp a.eval o).run Tryz.prog w=.ok (.value v) w') (hS:S w') (h:wpAnyH Tryz.prog md ops Q S fuel (listed.setIfInBounds i true) { tmps:=a.tmps.setIfInBounds d v,defers:=a.defers } w'):wpAnyH Tryz.prog md ops Q S (fuel+1) listed a w :=
 wpAnyH_ready hr (by simp) (consRun d hi hd hw hrun hS h AllReadyH.nil)
end
theorem q5s (m:Fm)(A:MA)(b k:Nat)(w:World)(hk:k<m.F.length)(ha:MSl w m A) :
 Calls Tryz.prog 150 #[wV m A b,J6 k] w fun r w'=>∃g,r=.returned (.slice (some ⟨g,0,none⟩) 2 2)/\Blk w' g 86 [.slice (A.fa k).i m.F[k].is.length (A.fa k).ic,.slice (A.fa k).h m.F[k].wh.length (A.fa k).hc]/\Below w.heap.size w w':=by
 obtain⟨al,alc,ap,apc,ar,arc,af,afc,afa⟩:=A
 unfold wV
 dsimp only
 have HK:=h_ (Blk.new w 102 #[.slice al m.L.length alc,.slice ap m.P.length apc,.slice ar m.R.length arc,.slice af m.F.length afc,.map (some b)])
 have HB:=h_ ((bR w.heap.size w).alloc (nR _) (.cells #[.slice al m.L.length alc,.slice ap m.P.length apc,.slice ar m.R.length arc,.slice af m.F.length afc,.map (some b)] 102))
 obtain⟨W0,hW0⟩:=Nq (w.alloc (.cells #[.slice al m.L.length alc,.slice ap m.P.length apc,.slice ar m.R.length arc,.slice af m.F.length afc,.map (some b)] 102))
 rw[hW0]at HK HB
 have HS:=h_ (ha.mono HB.u)
 clear ha
 obtain⟨pb,po,e1,⟨hbl,-,-,-,-,x4,x5,-⟩,-⟩:=HS.u.f k hk
 dsimp only at e1 x4 x5
 subst e1
 have hk':(k:Int)<m.F.length:=by omega
 obtain⟨-,-,-,y3,-⟩:=five HK.u
 have y3':=y3
 generalize m.F[k]=f at *
 generalize afa k=fa at *
 obtain⟨ab,abc,ai,aic,ah,ahc,av,avc,au,auc⟩:=fa
 dsimp only at x4 x5⊢
 go_enter Tryz.func150,Tryz.ntmps150
 go_wp2_with fail
 try rw[hW0]
 clear hW0
 refine wp_region_held_drew (S:=fun w'=>w'.cell? ⟨w.heap.size,3,none⟩=some (.slice (some ⟨pb,po,none⟩) m.F.length afc)/\w'.cell? ⟨pb,po+k*9+4,none⟩=some (.slice ai f.is.length aic)/\w'.cell? ⟨pb,po+k*9+5,none⟩=some (.slice ah f.wh.length ahc)) (by kernel_rfl) ⟨y3,x4,x5⟩ (fun zz=>?_)
 refine tj 0 5 (J9 w.heap.size 0) zz ?_
 refine tj 1 6 (J9 w.heap.size 3) zz ?_
 refine tj 2 7 (.slice (some ⟨pb,po,none⟩) m.F.length afc) zz ?_
 refine tj 3 8 (J6 k) zz ?_
 simp only[sX,sY,sZ]
 refine tj 4 9 (.pointer (some ⟨pb,po+k*9,none⟩)) zz ?_
 refine tj 5 10 (.pointer (some ⟨pb,po+k*9+4,none⟩)) zz ?_
 refine tj 6 11 (.slice ai f.is.length aic) zz ?_
 refine tj 7 12 (J9 w.heap.size 0) zz ?_
 simp only[sX,sY,sZ]
 refine tj 8 13 (J9 w.heap.size 3) zz ?_
 refine tj 9 14 (.slice (some ⟨pb,po,none⟩) m.F.length afc) zz ?_
 refine tj 10 15 (J6 k) zz ?_
 refine tj 11 16 (.pointer (some ⟨pb,po+k*9,none⟩)) zz ?_
 simp only[sX,sY,sZ]
 refine tj 12 17 (.pointer (some ⟨pb,po+k*9+5,none⟩)) zz ?_
 refine tj 13 18 (.slice ah f.wh.length ahc) zz ?_
 simp only[sX,sY,sZ]
 have HD:Hi (Below W0.heap.size W0 W0.drew):=h_ (bR _ _).drew
 replace HK:=h_ (HK.u.mono HD.u HK.u.lt);replace HB:=h_ (HB.u.trans (HD.u.mono HB.u.size))
 have hbl2:pb<W0.drew.heap.size:=hbl
 obtain⟨V,hV⟩:=Nq W0.drew
 rw[hV]at HK HB zz hbl2⊢
 clear hV HD y3 y3' x4 x5
 have HBv:=h_ ((bR V.heap.size V).alloc (nR _) (.cells #[.slice ai f.is.length aic,.slice ah f.wh.length ahc] 86))
 have HG:=h_ (Blk.new V 86 #[.slice ai f.is.length aic,.slice ah f.wh.length ahc])
 obtain⟨V2,hV2⟩:=Nq (V.alloc (.cells #[.slice ai f.is.length aic,.slice ah f.wh.length ahc] 86))
 have hrun:V.alloc (.cells #[.slice ai f.is.length aic,.slice ah f.wh.length ahc] 86)=V2:=hV2
 rw[hV2]at HBv HG
 replace zz:V2.cell? ⟨w.heap.size,3,none⟩=some (.slice (some ⟨pb,po,none⟩) m.F.length afc)/\V2.cell? ⟨pb,po+k*9+4,none⟩=some (.slice ai f.is.length aic)/\V2.cell? ⟨pb,po+k*9+5,none⟩=some (.slice ah f.wh.length ahc):=⟨(HBv.u.cell HK.u.lt).trans zz.1,(HBv.u.cell hbl2).trans zz.2.1,(HBv.u.cell hbl2).trans zz.2.2⟩
 refine runZ (i:=14) (v:=.slice (some ⟨V.heap.size,0,none⟩) 2 2) (w':=V2) 19 rfl rfl (by rfl) (by kernel_rfl) (by simp[execOp,go_sem,hrun]) zz ?_
 simp only[sX,sY,sZ]
 refine tj 15 4 (.slice (some ⟨V.heap.size,0,none⟩) 2 2) zz ?_
 simp only[sX,sY,sZ]
 refine wpAnyH_done (by kernel_rfl) ?_ _
 clear zz hrun hV2
 go_wp2_with fail
 go_ret
 exact⟨_,rfl,HG.u,HB.u.trans (HBv.u.mono HB.u.size)⟩
theorem qdq (m:Fm)(A:MA)(b:Nat)(w:World) :
 Calls Tryz.prog 148 #[wV m A b] w fun r w'=>r=.returned (.func (.func 190) #[] #[J9 w.heap.size 0])/\Blk w' w.heap.size 102 [.slice A.l m.L.length A.lc,.slice A.p m.P.length A.pc,.slice A.r m.R.length A.rc,.slice A.f m.F.length A.fc,.map (some b)]/\Below w.heap.size w w':=by
 obtain⟨al,alc,ap,apc,ar,arc,af,afc,afa⟩:=A
 unfold wV
 dsimp only
 have HK:=h_ (Blk.new w 102 #[.slice al m.L.length alc,.slice ap m.P.length apc,.slice ar m.R.length arc,.slice af m.F.length afc,.map (some b)])
 have HB:=h_ ((bR w.heap.size w).alloc (nR _) (.cells #[.slice al m.L.length alc,.slice ap m.P.length apc,.slice ar m.R.length arc,.slice af m.F.length afc,.map (some b)] 102))
 go_enter Tryz.func148,Tryz.ntmps148
 go_wp2_with fail
 go_ret
 exact⟨rfl,HK.u,HB.u⟩
theorem nf_mem {l:List Nx}{k:Nat}(h:k<l.length):nf l k∈l:=by rw[nf_get l k h];exact Ye h
theorem qne {names:List ByteArray}{l:List Nx}{k:Nat}(h:k<l.length)(h1:(nf l k).op=1):rdL names (l.take (k+1))=rdL names (l.take k)++[fIdx names (nf l k).nm]:=by
 rw[nf_get l k h]at h1⊢
 unfold rdL
 rw[Ym h,List.filter_append,Zc]
 simp[h1]
theorem qe3 {names:List ByteArray}{l:List Nx}{k:Nat}(h:k<l.length)(h1:¬ (nf l k).op=1):rdL names (l.take (k+1))=rdL names (l.take k):=by
 rw[nf_get l k h]at h1
 unfold rdL
 rw[Ym h,List.filter_append,Zc]
 simp[h1]
theorem q4n (names:List ByteArray)(l:List Nx)(k:Nat):(rdL names (l.take k)).length<=(rdL names l).length:=by
 unfold rdL
 rw[Z6,Z6]
 exact((List.take_sublist k l).filter _).length_le
theorem qcp {names:List ByteArray}{rs:List (List Nx)}{k:Nat}(h:k<rs.length):(rs.take (k+1)).flatMap (rdL names)=(rs.take k).flatMap (rdL names)++rdL names rs[k]:=by
 rw[Ym h,Vl]
 simp
theorem qg7 {names:List ByteArray}{rs:List (List Nx)}{k:Nat}(h:k<rs.length):((rs.take k).flatMap (rdL names)).length+(rdL names rs[k]).length<=(rs.flatMap (rdL names)).length:=by
 rw[<- Yd,<- qcp h]
 conv=>rhs;rw[<- Vo (k+1) rs,Vl,Yd]
 omega
theorem qjv {names:List ByteArray}(hn:names.Nodup){x:ByteArray}(hx:x∈names)(z:DataW Unit):(mp names).atKey (kl x) z=.lit (.int .i64 ((fIdx names x:Nat):Int)):=by
 have h:=at_mp names hn z (fIdx names x) (qkv hx)
 rw[qg1 hx]at h
 exact h
theorem qly {D:DataW Unit}{k:Lit}{z:DataW Unit}{pc x:Int}(h1:D.atKey k z=.lit (.int .i64 pc))(h2:D.atKey k z=.lit (.int .i64 x)):pc=x:=by
 rw[h1]at h2
 injection h2 with h2
 injection h2
theorem q3b (base:Nat)(l:List Nat)(x:Nat)(v:Value)(w:World)(ho:w.ownsRow base 3 1 v l.length (ui l))(hl:l.length<=1000000)(hb:base<=w.heap.size) :
 Calls Tryz.prog 151 #[v,J6 x] w fun r w'=>∃v',r=.returned v'/\w'.ownsRow base 3 1 v' (l++[x]).length (ui (l++[x]))/\Below base w w':=by
 obtain⟨i0,hi,hz0,hz1,hz2⟩:=info_parts infoI
 have HO:=h_ ho
 clear ho
 go_enter Tryz.func151,Tryz.ntmps151
 go_wp2_with (at_builtin;refine wpList_append_own _ rfl _ _ 77 rfl base 3 i0 _ 1 8 Tryz.underlying77 hi hz0 hz1 hz2 rfl (by omega) _ _ _ rfl (HO.u.alloc _) ⟨w.heap.size,0,none⟩ 1 1 [J6 x] rfl rfl (qfl w 3 _) (by simp[Value.oneCell']) (by unfold maxLen;omega) (by omega) (by simp;omega) ?_;intro v' w3 ho' hgr' _)
 have HO2:Hi (w3.ownsRow base 3 1 v' (l++[x]).length (ui (l++[x]))):=h_ (by simpa [ui] using ho')
 have HB2:=h_ (((bR base w).alloc hb (.cells #[J6 x] 3)).grown hgr' (by simp;omega) (fun q' e=>qa0 HO.u e))
 clear ho' hgr' hi hz0 hz1 hz2
 go_ret
 exact⟨v',rfl,HO2.u,HB2.u⟩
theorem q3g (J:List Nat->Value->World->Prop)(g c b:Nat)(R:Nat->Option Addr)(RC:Nat->Nat)(rs:List (List Nx))(names:List ByteArray)(v0:Value)(w:World)(hg:g<w.heap.size)(hn:rs.length<=1000)
 (hc:∀k (h:k<rs.length),w.cell? ⟨g,k,none⟩=some (.slice (R k) rs[k].length (RC k))/\rs[k].length<=1000000/\NodL w (R k) rs[k]/\(∀i,i<rs[k].length->Fit (nf rs[k] i))/\knows names rs[k]=true)
 (hnd:names.Nodup) (hm:PMap w b names) (hJ:∀pre v W W',J pre v W->Below W.heap.size W W'->J pre v W')
 (hstep:∀pre x v W,Below w.heap.size w W->J pre v W->x<names.length->pre.length<(rs.flatMap (rdL names)).length->Calls Tryz.prog 151 #[v,J6 (x:Nat)] W fun r W'=>∃v',r=.returned v'/\J (pre++[x]) v' W'/\Below w.heap.size W W')
 (h0:J [] v0 w) :
 Calls Tryz.prog 149 #[.slice (some ⟨g,0,none⟩) rs.length c,.map (some b),v0,.func (.func 151) #[] #[]] w fun r w'=>∃v,r=.returned v/\J (rs.flatMap (rdL names)) v w'/\Below w.heap.size w w':=by
 have HC:=h_ hc;have HM:=h_ hm;have HJ:=h_ hJ;have HS:=h_ hstep;have H0:=h_ h0;have HG:=h_ hg;have HD:=h_ hnd
 clear hc hm hJ hstep h0 hnd hg
 go_enter Tryz.func149,Tryz.ntmps149
 go_wp2_with fail
 go_loopw [2,15] (fun v i wr=>∃k:Nat,k<=rs.length/\i=J6 k/\J ((rs.take k).flatMap (rdL names)) v wr/\Below w.heap.size w wr) (fun _ i _=>rs.length - (intOf i).toNat)
 case atStart=>exact⟨0,nZ _,rfl,H0.u,bR _ _⟩
 case round =>
  obtain⟨k,hk,rfl,hj,hb⟩:=hrel;have HJk:=h_ hj;have HB:=h_ hb;clear hj hb;by_cases hlt:k<rs.length
  . have hlt':(k:Int)<rs.length:=by omega
    obtain⟨hcell,hlen,hnod,hfit,hkn⟩:=HC.u k hlt;have z0:=(HB.u.cell (p:=⟨g,k,none⟩) HG.u).trans hcell;have HN:=h_ hnod;have HF:=h_ hfit;have HK:=h_ hkn;have HT:Hi ((rs.take (k+1)).flatMap (rdL names)=(rs.take k).flatMap (rdL names)++rdL names rs[k]):=h_ (qcp hlt);have HLe:Hi (((rs.take k).flatMap (rdL names)).length+(rdL names rs[k]).length<=(rs.flatMap (rdL names)).length):=h_ (qg7 hlt);clear hcell hnod hfit hkn;generalize (rs.take k).flatMap (rdL names)=pre at *;generalize rs[k]=l at *;generalize R k=a at *;generalize RC k=ac at *;go_wp2_with fail;go_loopw [2,21] (fun v i w3=>∃q:Nat,q<=l.length/\i=J6 q/\J (pre++rdL names (l.take q)) v w3/\Below w.heap.size w w3) (fun _ i _=>l.length - (intOf i).toNat)
    case atStart=>exact⟨0,nZ _,rfl,by have h:=HJk.u;simpa [rdL] using h,HB.u⟩
    case round =>
     clear HJk HB z0;obtain⟨q,hq,rfl,hj,hb⟩:=hrel;have HJq:=h_ hj;have HB:=h_ hb;have HAr:=h_ (HN.u.mono hb);have HMr:=h_ (HM.u.mono hb);clear hj hb;by_cases hql:q<l.length
     . have hql':(q:Int)<l.length:=by omega
       obtain⟨pb,po,rfl,-,z0,z1,z2,z3,z4⟩:=HAr.u q hql;have HR:Hi ((nf l q).op=1->rdL names (l.take (q+1))=rdL names (l.take q)++[fIdx names (nf l q).nm]/\(nf l q).nm∈names):=h_ fun h1=>⟨qne hql h1,qd3 HK.u (nf_mem hql) h1⟩;have HRo:Hi (¬ (nf l q).op=1->rdL names (l.take (q+1))=rdL names (l.take q)):=h_ fun h1=>qe3 hql h1;have HQl:Hi ((rdL names (l.take (q+1))).length<=(rdL names l).length):=h_ (q4n names l (q+1));have HFk:=h_ (HF.u q hql);generalize nf l q=n at *;have HKf:=h_ (Blk.new wr 172 (Jd n));have HBa:=h_ ((bR wr.heap.size wr).alloc (nR _) (.cells (Jd n) 172));obtain⟨Wd,hWd⟩:=Nq (wr.alloc (.cells (Jd n) 172));rw[hWd]at HKf HBa;have HBf:=h_ (HB.u.trans (HBa.u.mono HB.u.size));have HMf:=h_ (HMr.u.mono HBa.u);have HJd:=h_ (HJ.u _ _ _ _ HJq.u HBa.u);obtain⟨x0,x1,x2,x3,x4⟩:=five HKf.u;by_cases h1:n.op=1
       . have h1':(n.op != 1)=false:=by rw[h1];rfl
         have h1'':(n.op==1)=true:=(by rw[h1];rfl);obtain⟨e1,hmem⟩:=HR.u h1;have HE:=h_ e1;have HAt:Hi ((mp names).atKey (kl n.nm) (.lit (.int .i64 0))=.lit (.int .i64 ((fIdx names n.nm:Nat):Int))):=h_ (qjv HD.u hmem _);have hxl:=qkv hmem;clear h1 e1 hmem HR HRo;generalize fIdx names n.nm=x at *;have HKy:Hi (keyOf Tryz.prog 9 (.string n.nm)=some (kl n.nm)):=h_ (WideMaps.keyOf_string_mk Tryz.underlying9 HFk.u.2.1);have HCa:=h_ (HS.u _ x _ Wd HBf.u HJd.u hxl (by
          have:=HLe.u;have:=HQl.u;rw[HE.u,Yd]at this;rw[Yd];simp at this;omega))
         go_wp2_with (at_lookup;refine wpList_lookup_own_int _ rfl _ _ 100 rfl 9 3 .i64 (Maps.string_keyed Tryz.underlying9) Tryz.underlying100 Tryz.underlying3 (Tryz.zeroValue3 _) b names.length (mp names) rfl (by first | exact HMf.u | (rw[hWd];exact HMf.u)) _ _ rfl HKy.u ?_;intro pc hpc _;obtain rfl:=qly hpc HAt.u;clear hpc)
         try rw[hWd]
         clear hWd HMf HKy;refine HCa.u.mono ?_;rintro r W2 ⟨v',rfl,hj2,hb2⟩;have HJ2:Hi (J (pre++rdL names (l.take (q+1))) v' W2):=h_ (by rw[HE.u,<- Vi];exact hj2);have HB2:=h_ (HBf.u.trans hb2);clear hj2 hb2 HCa;go_wp2_with fail;go_roundw
         case rel=>first | exact⟨q+1,by omega,by go_num,HJ2.u,HB2.u⟩ | ((repeat apply Exists.intro);exact⟨⟨q+1,by omega,by go_num,HJ2.u,HB2.u⟩,rfl⟩)
         case measure=>simp[intOf];omega
       . have h1':(n.op != 1)=true:=by simp[h1]
         have h1'':(n.op==1)=false:=(by simp[h1]);have HJ2:=HJd;rw[<- HRo.u h1]at HJ2;clear h1 HR HRo;go_wp2_with fail
         try rw[hWd]
         clear hWd;go_roundw
         case rel=>first | exact⟨q+1,by omega,by go_num,HJ2.u,HBf.u⟩ | ((repeat apply Exists.intro);exact⟨⟨q+1,by omega,by go_num,HJ2.u,HBf.u⟩,rfl⟩)
         case measure=>simp[intOf];omega
     . obtain rfl:q=l.length:=by omega
       have hql':¬ (l.length:Int)<(l.length:Int):=(by omega);have HJ2:=HJq;rw[Yz (nR _),<- HT.u]at HJ2;go_wp2_with fail;go_roundw
       case rel=>first | exact⟨k+1,by omega,by go_num,HJ2.u,HB.u⟩ | ((repeat apply Exists.intro);exact⟨⟨k+1,by omega,by go_num,HJ2.u,HB.u⟩,rfl⟩)
       case measure=>simp[intOf];omega
  . obtain rfl:k=rs.length:=by omega
    have hlt':¬ (rs.length:Int)<(rs.length:Int):=(by omega);have HJ2:=HJk;rw[Yz (nR _)]at HJ2;go_wp2_with fail;go_ret;exact⟨_,rfl,HJ2.u,HB.u⟩
theorem q8o (m:Fm)(A:MA)(b g k:Nat)(w:World)(hv:VfA m)(hf:FitM m)(hk:k<m.F.length)(ha:MSl w m A)(hm:PMap w b (fNames m))(hG:Blk w g 86 [.slice (A.fa k).i m.F[k].is.length (A.fa k).ic,.slice (A.fa k).h m.F[k].wh.length (A.fa k).hc]) :
 Calls Tryz.prog 149 #[.slice (some ⟨g,0,none⟩) 2 2,.map (some b),J7,.func (.func 151) #[] #[]] w fun r w'=>∃v,r=.returned v/\w'.ownsRow w.heap.size 3 1 v (fedL m k).length (ui (fedL m k))/\Below w.heap.size w w':=by
 have hok:=(q5t _ _ _).1 (hv.fi _ (Ye hk))
 have hff:=hf.f _ (Ye hk)
 have hkn:=hv.knw hk
 obtain⟨pb,po,-,-,hsl⟩:=ha.f k hk
 have he:fedL m k=[m.F[k].is,m.F[k].wh].flatMap (rdL (fNames m)):=by
  unfold fedL;rw[qku hk];simp
 rw[qku hk]at hkn
 have hlen:=qg3 hv hk
 rw[he]at hlen⊢
 refine q3g (fun pre v W=>W.ownsRow w.heap.size 3 1 v pre.length (ui pre)/\w.heap.size<=W.heap.size) g 2 b (fun i=>if i=0 then (A.fa k).i else (A.fa k).h) (fun i=>if i=0 then (A.fa k).ic else (A.fa k).hc) [m.F[k].is,m.F[k].wh] (fNames m) J7 w hG.lt (by simp) ?_ hv.nod hm ?_ ?_ ⟨World.ownsRow_nil _ _ _ _,nR _⟩ |>.mono ?_
 . intro i hi
   have h1:=qih hok.i;have h2:=qih hok.h;obtain rfl | rfl:i=0∨i=1:=by simp at hi;omega
   . exact⟨hG.cell 0,by show m.F[k].is.length<=_;omega,hsl.i,hff.i,hkn.1⟩
   . exact⟨hG.cell 1,by show m.F[k].wh.length<=_;omega,hsl.h,hff.h,hkn.2.1⟩
 . rintro pre v W W' ⟨h,hs⟩ hb
   exact⟨h.kept (row:=none) ⟨hb.os,hb.tape,hb.output,hb.size,fun k hk _=>hb.block k hk⟩ (Classical.em _),Zf hs hb.size⟩
 . rintro pre x v W hb ⟨h,hs⟩ hx hl
   refine(q3b w.heap.size pre x v W h (by omega) hs).mono ?_;rintro r W' ⟨v',rfl,ho,hb'⟩;exact⟨v',rfl,⟨ho,Zf hs hb'.size⟩,hb'⟩
 . rintro r w' ⟨v,rfl,⟨h,-⟩,hb⟩
   exact⟨v,rfl,h,hb⟩
end Go.Proofs.YtgojgjlninakjaaGreatDoor
namespace Go.Proofs.YtgojgjlninakjaaGreatDoor
open Go Go.RowKit Go.Shelf
structure Out (lo hi:Nat)(W W':World):Prop where
 os:W'.os=W.os
 tape:W'.tape=W.tape
 output:W'.output=W.output
 size:W.heap.size<=W'.heap.size
 block:∀b,b<W.heap.size->¬ (lo<=b/\b<hi)->W'.heap[b]? = W.heap[b]?
theorem Out.mono {lo lo' hi:Nat}{W W':World}(h:Out lo hi W W')(hl:lo'<=lo):Out lo' hi W W':=⟨h.os,h.tape,h.output,h.size,fun b hb hn=>h.block b hb (fun c=>hn ⟨by omega,c.2⟩)⟩
theorem Out.refl (lo hi:Nat)(W:World):Out lo hi W W:=⟨rfl,rfl,rfl,nR _,fun _ _ _=>rfl⟩
theorem Out.trans {lo hi:Nat}{A B C:World}(h:Out lo hi A B)(k:Out lo hi B C):Out lo hi A C:=⟨k.os.trans h.os,k.tape.trans h.tape,k.output.trans h.output,Zf h.size k.size,fun b hb hn=>(k.block b (by have:=h.size;omega) hn).trans (h.block b hb hn)⟩
theorem Out.set {lo hi:Nat}{W:World}{a:Addr}(v:Value)(h1:lo<=a.block)(h2:a.block<hi):Out lo hi W (W.setCell a v):=⟨rfl,rfl,rfl,by simp,fun b _ hn=>heap_setCell_other W a b v (fun e=>hn ⟨by omega,by omega⟩)⟩
theorem Out.put {lo hi:Nat}(W:World){l:Nat}(o:Obj)(h1:lo<=l)(h2:l<hi):Out lo hi W (W.putObj l o):=⟨rfl,rfl,rfl,by simp,fun b _ hn=>World.putObj_heap_other (fun e=>hn ⟨by omega,by omega⟩)⟩
theorem Out.below {lo hi B:Nat}{W W':World}(h:Out lo hi W W')(hB:B<=lo)(hs:B<=W.heap.size):Below B W W':=⟨h.os,h.tape,h.output,h.size,fun b hb=>h.block b (by omega) (fun c=>by omega)⟩
theorem Out.blk {lo hi:Nat}{W W':World}{g:Nat}{t:TypeId}{cs:List Value}(h:Out lo hi W W')(hb:Blk W g t cs)(hg:¬ (lo<=g/\g<hi)):Blk W' g t cs:=(h.block g hb.lt hg).trans hb
theorem Out.owns {lo hi:Nat}{W W':World}{base n size:Nat}{e:TypeId}{v:Value}{xs:List Value}(h:Out lo hi W W')(ho:W.ownsRow base e size v n xs)(hq:∀q,v.ownBlock=some q->¬ (lo<=q/\q<hi)):W'.ownsRow base e size v n xs:=by
 refine⟨ho.1,?_⟩
 rcases ho.2 with h2 | ⟨g,cap,cur,h1,hb,hg,r⟩
 . exact .inl h2
 . exact .inr ⟨g,cap,cur,h1,hb,(h.block g (Yr.1 hg).1 (hq g (by rw[h1];rfl))).trans hg,r⟩
structure KeepB (X:Nat->Prop)(hi:Nat)(W W':World):Prop where
 size:W.heap.size<=W'.heap.size
 same:∀k cs t fr,k<hi->¬ X k->W.heap[k]? = some (.cells cs t fr)->W'.heap[k]? = some (.cells cs t fr)
theorem KeepB.trans {X:Nat->Prop}{hi:Nat}{A B C:World}(h:KeepB X hi A B)(k:KeepB X hi B C):KeepB X hi A C:=⟨Zf h.size k.size,fun i cs t fr hl hx hi=>k.same i cs t fr hl hx (h.same i cs t fr hl hx hi)⟩
theorem KeepB.put {X:Nat->Prop}{hi:Nat}{W:World}{l:Nat}{o o':Obj}(hl:W.heap[l]? = some o)(ho:o.isCells=false):KeepB X hi W (W.putObj l o') :=
 ⟨by simp,fun k cs t fr _ _ hk=>by
  by_cases e:k=l
  . subst e;rw[hl]at hk;cases hk;simp[Obj.isCells]at ho
  . exact(World.putObj_heap_other e).trans hk⟩
theorem KeepB.set {X:Nat->Prop}{hi:Nat}{W:World}{a:Addr}(v:Value)(hx:X a.block):KeepB X hi W (W.setCell a v):=⟨by simp,fun k _ _ _ _ hk h=>(heap_setCell_other W a k v (fun e=>hk (e ▸ hx))).trans h⟩
theorem KeepB.blk {X:Nat->Prop}{hi:Nat}{W W':World}{g:Nat}{t:TypeId}{cs:List Value}(h:KeepB X hi W W')(hb:Blk W g t cs)(hg:g<hi)(hx:¬ X g):Blk W' g t cs:=h.same g _ t _ hg hx hb
theorem KeepB.owns {X:Nat->Prop}{hi:Nat}{W W':World}{base n size:Nat}{e:TypeId}{v:Value}{xs:List Value}(h:KeepB X hi W W')(ho:W.ownsRow base e size v n xs)(hq:∀q,v.ownBlock=some q->q<hi/\¬ X q):W'.ownsRow base e size v n xs:=by
 refine⟨ho.1,?_⟩
 rcases ho.2 with h2 | ⟨g,cap,cur,h1,hb,hg,r⟩
 . exact .inl h2
 . exact .inr ⟨g,cap,cur,h1,hb,h.same g cur e _ (hq g (by rw[h1];rfl)).1 (hq g (by rw[h1];rfl)).2 hg,r⟩
def GivesH (P:Program)(gf:Nat)(lb:Array Value)(T:List Nat->Nat->Prop)(S:List Nat->Prop)(X:Nat->Prop)(w0:World):Prop :=
 ∀(n l:Nat) (J:Nat->List Nat->World->Prop) (W:World),Below w0.heap.size w0 W->(∀hi pre W1 W2,J hi pre W1->Out W.heap.size hi W1 W2->J hi pre W2)->(∀W2,Below W.heap.size W W2->J W2.heap.size [] W2)->(∀k,X k->k<W.heap.size) ->
  (∀(m hi:Nat) (pre:List Nat) (x:Nat) (W1:World),J hi pre W1->T pre x->YieldAt Fence.wide m P l #[J6 (x:Int)] W1 fun e W'=>e=.returned (.bool true)/\J hi (pre++[x]) W'/\KeepB X hi W1 W') ->
  CallsIn Fence.wide n P gf (#[.func (.yield l) #[] #[]]++lb) W fun e W'=>(∃v,e=.returned v)/\∃hi xs,S xs/\J hi xs W'
def bodyEndH (X:Nat->Prop)(hi:Nat)(I:List Nat->World->Prop)(xs:List Nat)(W:World):Exit->Act->World->Prop
 | .normal,_,W'=>KeepsOthers W W'/\KeepB X hi W W'/\I xs W'
 | _,_,_=>False
theorem qa8 {P:Program}{g:Operand}{ps:Array Tmp}{assign body:Code}{Q:Exit->Act->World->Prop}{a:Act}{w:World}{n:Nat}{gf:Nat}{lb:Array Value}
 (hg:a.eval g=.func (.func gf) #[] lb) (eg:∀args w,(callFunc gf args).run P w=.ok (.enter gf args) w)
 {T:List Nat->Nat->Prop} {S:List Nat->Prop} {X:Nat->Prop} {w0:World} (hseq:GivesH P gf lb T S X w0) (hb0:Below w0.heap.size w0 w) (hX:∀k,X k->k<w.heap.size) (hps:ps.size=1)
 (I:Nat->List Nat->World->Prop) (hI:∀hi pre W W',I hi pre W->Out w.heap.size hi W W'->I hi pre W') (h0:∀W,Below w.heap.size w W->I W.heap.size [] W) (a₁:Nat->Act)
 (hassign:∀(m l x:Nat) (W:World) (K:Act->World->Prop),K (a₁ x) W ->
  assign.wpIn (Fence.wide.inRound l) m P (Exit.then K (fun _ _ _=>False)) { tmps:=(ps.zip #[J6 (x:Int)]).foldl (fun t (p,v)=>t.setIfInBounds p v) a.tmps,defers:=[] } W)
 (hbody:∀(m l hi:Nat) (pre:List Nat) (x:Nat) (W:World),w.heap.size<hi->I hi pre W->T pre x->body.wpIn (Fence.wide.inRound l) m P (bodyEndH X hi (I hi) (pre++[x]) W) (a₁ x) W)
 (hdone:∀(D hi:Nat) (xs:List Nat) (W:World),w.heap.size<=D->D<hi->S xs->I hi xs W->W.heap[D]? = some (.deferred (some []))->Q .normal { a with defers:={ target:=.collected D,args:=#[] } :: a.defers } W) :
 (Code.rangeFunc g ps assign body).wpIn Fence.wide n P Q a w:=by
 refine wpIn_rangeFunc fun fn _=>?_
 obtain⟨D,hD⟩:=Nq w.heap.size
 obtain⟨mk,hmk⟩:∃mk:LoopState->Option Code->Loop,mk=fun s p=>{ state:=s,pending:=p,fn,tmps:=a.tmps,params:=ps,assign,body,defers:=D }:=⟨_,rfl⟩
 obtain⟨W1,hW1⟩:=Nq ((w.alloc (.deferred (some []))).alloc (.loop (mk .ready none)))
 have s1:W1.heap.size=D+1+1:=by rw[<- hW1];simp[hD]
 have bw:Below D w W1:=by rw[<- hW1,<- hD];exact((bR _ w).alloc (nR _) _).alloc (by simp) _
 have hl1:W1.heap[D+1]? = some (.loop (mk .ready none)):=by
  have:=World.alloc_heap_new (w.alloc (.deferred (some []))) (.loop (mk .ready none));rw[Yk,hD,hW1]at this;exact this
 have hd1:W1.heap[D]? = some (.deferred (some [])):=by
  have:=World.alloc_heap_new w (.deferred (some []));rw[<- hW1,<- hD];exact(Below.heap_alloc _ _ _ (by simp)).trans this
 have enter:=run_enterLoop_outer (P:=P) (w:=w) fn a.tmps ps assign body
 rw[hD]at enter
 refine⟨D+1,[{ target:=.collected D,args:=#[] }],W1,{ target:=.fn (.func gf) lb,args:=#[.func (.yield (D+1)) #[] #[]] },W1,gf,#[.func (.yield (D+1)) #[] #[]]++lb,W1,?_,?_,?_,?_,fun h=>by simp[Fence.wide]at h,?_⟩
 . rw[<- hW1,hmk];exact enter
 . simp only[resolve,hg];simp[go_sem]
 . intro _ _;trivial
 . simp[invoke,go_sem,eg]
 have hIput:∀hi xs W l o,D<=l->l<hi->I hi xs W->I hi xs (W.putObj l o):=fun hi xs W l o h h2 hi'=>hI hi xs W _ hi' (by rw[hD];exact Out.put W o h h2)
 refine(hseq (n - 1) (D+1) (fun hi pre W=>I hi pre W/\D+1<hi/\W.heap[D+1]? = some (.loop (mk .ready none))/\W.heap[D]? = some (.deferred (some []))) W1 (hb0.trans ((hD ▸ bw:Below w.heap.size w W1).mono hb0.size)) ?_ ?_ (fun k hk=>by have:=hX k hk;omega) ?_).mono ?_
 . rintro hi xs W W' ⟨h,hh,hl,hd⟩ hb
   rw[s1]at hb;exact⟨hI hi xs W W' h (hb.mono (by omega)),hh,(hb.block _ (Yr.1 hl).1 (by omega)).trans hl,(hb.block _ (Yr.1 hd).1 (by omega)).trans hd⟩
 . intro W2 hb
   have hz:=hb.size;rw[s1]at hb hz;refine⟨h0 W2 ?_,by omega,(hb.block _ (by omega)).trans hl1,(hb.block _ (by omega)).trans hd1⟩;rw[hD];exact bw.trans (hb.mono (by omega))
 . -- one round
   rintro m hi pre x W ⟨hi',hh,hl,hd⟩ hT;have hlt:D+1<W.heap.size:=(Yr.1 hl).1;have hy:=run_yield (P:=P) (args:=#[J6 (x:Int)]) hl (by rw[hmk];simp[hps]);rw[hmk]at hy;refine⟨fn,_,assign,body,hy,roundIn_of_wpIn trivial (hassign m _ x W _ ⟨_,run_beginRound hl (by rw[hmk]),?_⟩)⟩;refine wpIn_mono (hbody m _ hi pre x _ (by omega) (hIput _ _ _ _ _ (by omega) (by omega) hi') hT) ?_;have hl2:=World.putObj_heap_same (w:=W) (o:=.loop { mk .ready none with state:=.busy }) hlt;have hd2:(W.putObj (D+1) (.loop { mk .ready none with state:=.busy })).heap[D]? = some (.deferred (some [])):=(World.putObj_heap_other (by omega)).trans hd;have hx2:KeepB X hi W (W.putObj (D+1) (.loop { mk .ready none with state:=.busy })):=KeepB.put hl rfl;intro e a3 W3 hp;cases e with
   | normal =>
    obtain⟨ko,kx,hi3⟩:=hp;have hl3:=ko.same _ _ hl2 rfl;have hd3:=ko.same _ _ hd2 rfl;have hr:=run_endRound (P:=P) none hl3;rw[hmk]at hr;refine⟨_,_,hr,rfl,⟨hIput _ _ _ _ _ (by omega) (by omega) hi3,hh,?_,(World.putObj_heap_other (by omega)).trans hd3⟩,(hx2.trans kx).trans (KeepB.put hl3 rfl)⟩;rw[hmk];exact World.putObj_heap_same (Yr.1 hl3).1
   | ret=>exact hp.elim
   | exit id=>exact hp.elim
   | goto t=>exact hp.elim
   | panic c=>exact hp.elim
   | outgrown=>exact hp.elim
 . -- behind the iterator
   rintro e W2 ⟨⟨v,rfl⟩,hi,xs,hS,hi',hh,hl,hd⟩;have hr:=run_endLoop (P:=P) hl (by rw[hmk];simp);rw[hmk]at hr;exact⟨none,_,hr,hdone D hi xs _ (by omega) (by omega) hS (hIput _ _ _ _ _ (by omega) (by omega) hi') ((World.putObj_heap_other (by omega)).trans hd)⟩
end Go.Proofs.YtgojgjlninakjaaGreatDoor
namespace Go.Proofs.YtgojgjlninakjaaGreatDoor
open Go Go.RowKit
structure MkL (lo hi:Nat)(W W':World):Prop where
 out:Out lo hi W W'
 bk:∀g t n,Bk W g t n->Bk W' g t n
theorem MkL.refl (lo hi:Nat)(W:World):MkL lo hi W W:=⟨Out.refl _ _ _,fun _ _ _ h=>h⟩
theorem MkL.trans {lo hi:Nat}{A B C:World}(h:MkL lo hi A B)(k:MkL lo hi B C):MkL lo hi A C:=⟨h.out.trans k.out,fun g t n hb=>k.bk g t n (h.bk g t n hb)⟩
theorem MkL.below {lo hi:Nat}{W W':World}(h:Below W.heap.size W W'):MkL lo hi W W':=⟨⟨h.os,h.tape,h.output,h.size,fun b hb _=>h.block b hb⟩,fun _ _ _ hb=>hb.mono h hb.lt⟩
theorem MkL.set {lo hi:Nat}{W:World}{g:Nat}(j:Nat)(v:Value)(h1:lo<=g)(h2:g<hi):MkL lo hi W (W.setCell ⟨g,j,none⟩ v) :=
 ⟨Out.set (a:=⟨g,j,none⟩) v h1 h2,fun g' t' n' hb=>by
  by_cases e:g'=g
  . subst e;exact hb.set j v
  . exact hb.other e j v⟩
theorem MkL.lower {lo lo' hi:Nat}{W W':World}(h:MkL lo hi W W')(hl:lo'<=lo):MkL lo' hi W W':=⟨h.out.mono hl,h.bk⟩
theorem Bk.cell_ne {w:World}{g:Nat}{t:TypeId}{n:Nat}(h:Bk w g t n){p q:Nat}(hpq:p≠q)(v:Value):(w.setCell ⟨g,p,none⟩ v).cell? ⟨g,q,none⟩=w.cell? ⟨g,q,none⟩:=by
 obtain⟨cs,h1,-⟩:=h
 rw[(h1.set p v).cell q,h1.cell q,O8 hpq]
theorem qfp (W:World)(c:Int):(convert 126 9 (.slice (some ⟨W.heap.size,0,none⟩) 1 1)).run Tryz.prog (W.alloc (.cells #[.int .u8 c] 5))=.ok (.string (Ga (UInt8.ofNat c.toNat))) (W.alloc (.cells #[.int .u8 c] 5)):=by
 rw[run_convert_bytes_string _ 126 9 5 _ _ _ Tryz.underlying126 Tryz.underlying5 Tryz.underlying9]
 have h:=run_loadCells_list (P:=Tryz.prog) (W.alloc (.cells #[.int .u8 c] 5)) ⟨W.heap.size,0,none⟩ ([c].map (Value.int .u8)) (qfl W 5 (.int .u8 c))
 exact run_bytesToString (P:=Tryz.prog) (W.alloc (.cells #[.int .u8 c] 5)) ⟨W.heap.size,0,none⟩ 1 1 [c] h
theorem q4h (k:Nat)(w:World)(hk:k<=4611686018427387904):Calls Tryz.prog 36 #[J6 k] w fun r w'=>∃s,r=.returned (.string s)/\Below w.heap.size w w':=by
 by_cases h0:k=0
 . subst h0
   go_enter Tryz.func36,Tryz.ntmps36;go_wp2_with fail;go_ret;exact⟨_,rfl,bR _ _⟩
 . have h0':¬ (k:Int)<=0:=by omega
   have hk':(k:Int)<=4611686018427387904:=by omega
   go_enter Tryz.func36,Tryz.ntmps36;go_wp2_with fail;go_loopw [0,3] (fun v s wr=>∃(q:Nat) (t:ByteArray),v=J6 q/\s=.string t/\t.size+q<=4611686018427387904/\Below w.heap.size w wr) (fun v _ _=>(intOf v).toNat)
   case atStart=>exact⟨k,_,rfl,rfl,by show 0+k<=_;omega,bR _ _⟩
   case round =>
    clear h0 h0' hk' hk;obtain⟨q,t,rfl,rfl,hq,hb⟩:=hrel;have HB:=h_ hb;clear hb;have hts:t.size<=4611686018427387904:=(by omega);have hts':(t.size:Int)<=4611686018427387904:=(by omega);by_cases h0:q=0
    . subst h0
      go_wp2_with fail;go_ret;exact⟨_,rfl,HB.u⟩
    . have h0':(0:Int)<q:=by omega
      have hq':(q:Int)<=4611686018427387904:=(by omega);obtain⟨s1,hs1⟩:=Nq (Ga (UInt8.ofNat (48+(q:Int) % 10).toNat));have hz1:s1.size=1:=(by rw[<- hs1];rfl);have hcv:=qfp wr (48+(q:Int) % 10);rw[hs1]at hcv;clear hs1;have HB2:=h_ (HB.u.alloc HB.u.size (.cells #[.int .u8 (48+(q:Int) % 10)] 5));go_wp2_with fail;clear hcv;go_roundw
      case rel=>exact⟨q / 10,_,by go_num,rfl,by rw[Yi];omega,HB2.u⟩
      case measure=>simp[intOf];omega
theorem q22 (g n c k lo hi:Nat)(w:World)(hk:k+n<=4611686018427387904)(hb:Bk w g 9 n)(hl:lo<=g)(hh:g<hi) :
 Calls Tryz.prog 32 #[.slice (some ⟨g,0,none⟩) n c,J6 k] w fun r w'=>r=.returned (J6 ((k+n:Nat):Int))/\MkL lo hi w w':=by
 have HBk:=h_ hb
 clear hb
 go_enter Tryz.func32,Tryz.ntmps32
 go_wp2_with fail
 go_loopw [1,5] (fun q v wr=>∃i:Nat,i<=n/\v=J6 i/\q=J6 ((k+i:Nat):Int)/\MkL lo hi w wr) (fun _ v _=>n - (intOf v).toNat)
 case atStart=>exact⟨0,nZ _,rfl,rfl,MkL.refl _ _ _⟩
 case round =>
  obtain⟨i,hi',rfl,rfl,hm⟩:=hrel;have HM:=h_ hm;have HBr:=h_ (hm.bk _ _ _ HBk.u);clear hm;by_cases hlt:i<n
  . have hlt':(i:Int)<n:=by omega
    obtain⟨q,hq⟩:=Nq (k+i);have hq':(q:Int)<4611686018427387904:=(by omega);rw[hq];go_wp2_with fail;refine(q4h q wr (by omega)).mono ?_;rintro e W2 ⟨s,rfl,hb2⟩;have HB2:=h_ (HBr.u.mono hb2 HBr.u.lt);obtain⟨u,c0⟩:=HB2.u.cell hlt;have f0:=HB2.u.free i;have HM2:=h_ ((HM.u.trans (MkL.below hb2)).trans (MkL.set i (.string s) hl hh));clear hb2;go_wp2_with fail;go_roundw
    case rel=>first | exact⟨i+1,by omega,by go_num,by go_num,HM2.u⟩ | ((repeat apply Exists.intro);exact⟨⟨i+1,by omega,by go_num,by go_num,HM2.u⟩,rfl⟩)
    case measure=>simp[intOf];omega
  . obtain rfl:i=n:=by omega
    have hlt':¬ (i:Int)<(i:Int):=(by omega);obtain⟨q,hq⟩:=Nq (k+i);rw[hq];go_wp2_with fail;go_ret;exact⟨rfl,HM.u⟩
theorem q6r (g n c k lo hi:Nat)(w:World)(hk:k+n<=4611686018427387904)(hb:Bk w g 3 n)(hl:lo<=g)(hh:g<hi) :
 Calls Tryz.prog 59 #[.slice (some ⟨g,0,none⟩) n c,J6 k] w fun r w'=>r=.returned (J6 ((k+n:Nat):Int))/\MkL lo hi w w':=by
 have HBk:=h_ hb
 clear hb
 go_enter Tryz.func59,Tryz.ntmps59
 go_wp2_with fail
 go_loopw [1,5] (fun q v wr=>∃i:Nat,i<=n/\v=J6 i/\q=J6 ((k+i:Nat):Int)/\MkL lo hi w wr) (fun _ v _=>n - (intOf v).toNat)
 case atStart=>exact⟨0,nZ _,rfl,rfl,MkL.refl _ _ _⟩
 case round =>
  obtain⟨i,hi',rfl,rfl,hm⟩:=hrel;have HM:=h_ hm;have HBr:=h_ (hm.bk _ _ _ HBk.u);clear hm;by_cases hlt:i<n
  . have hlt':(i:Int)<n:=by omega
    obtain⟨q,hq⟩:=Nq (k+i);have hq':(q:Int)<4611686018427387904:=(by omega);rw[hq];obtain⟨u,c0⟩:=HBr.u.cell hlt;have f0:=HBr.u.free i;have HM2:=h_ (HM.u.trans (MkL.set i (J6 (q:Int)) hl hh));go_wp2_with fail;go_roundw
    case rel=>first | exact⟨i+1,by omega,by go_num,by go_num,HM2.u⟩ | ((repeat apply Exists.intro);exact⟨⟨i+1,by omega,by go_num,by go_num,HM2.u⟩,rfl⟩)
    case measure=>simp[intOf];omega
  . obtain rfl:i=n:=by omega
    have hlt':¬ (i:Int)<(i:Int):=(by omega);obtain⟨q,hq⟩:=Nq (k+i);rw[hq];go_wp2_with fail;go_ret;exact⟨rfl,HM.u⟩
theorem q4f (g n c k lo hi:Nat)(w:World)(hk:k+n*2<=4611686018427387904)(hb:Bk w g 95 (n*2))(hl:lo<=g)(hh:g<hi) :
 Calls Tryz.prog 33 #[.slice (some ⟨g,0,none⟩) n c,J6 k] w fun r w'=>r=.returned (J6 ((k+n*2:Nat):Int))/\MkL lo hi w w':=by
 have HBk:=h_ hb
 clear hb
 go_enter Tryz.func33,Tryz.ntmps33
 go_wp2_with fail
 go_loopw [1,5] (fun q v wr=>∃i:Nat,i<=n/\v=J6 i/\q=J6 ((k+i*2:Nat):Int)/\MkL lo hi w wr) (fun _ v _=>n - (intOf v).toNat)
 case atStart=>exact⟨0,nZ _,rfl,by simp,MkL.refl _ _ _⟩
 case round =>
  obtain⟨i,hi',rfl,rfl,hm⟩:=hrel;have HM:=h_ hm;have HBr:=h_ (hm.bk _ _ _ HBk.u);clear hm;by_cases hlt:i<n
  . have hlt':(i:Int)<n:=by omega
    obtain⟨q,hq⟩:=Nq (k+i*2);have hq':(q:Int)+1<4611686018427387904:=(by omega);rw[hq];obtain⟨u,c0⟩:=HBr.u.cell (show i*2<n*2 by omega);obtain⟨u1,c1⟩:=HBr.u.cell (show i*2+1<n*2 by omega);have f0:=HBr.u.free (i*2);have f1:=HBr.u.free (i*2+1);have HM2:=h_ ((HM.u.trans (MkL.set (i*2) (J6 (q:Int)) hl hh)).trans (MkL.set (i*2+1) (J6 ((q:Int)+1)) hl hh));go_wp2_with fail;go_roundw
    case rel=>first | exact⟨i+1,by omega,by go_num,by rw[show k+(i+1)*2=q+2 by omega];go_num,HM2.u⟩ | ((repeat apply Exists.intro);exact⟨⟨i+1,by omega,by go_num,by rw[show k+(i+1)*2=q+2 by omega];go_num,HM2.u⟩,rfl⟩)
    case measure=>simp[intOf];omega
  . obtain rfl:i=n:=by omega
    have hlt':¬ (i:Int)<(i:Int):=(by omega);obtain⟨q,hq⟩:=Nq (k+i*2);rw[hq];go_wp2_with fail;go_ret;exact⟨rfl,HM.u⟩
theorem q4g (g n c k lo hi:Nat)(w:World)(hk:k+n*2<=4611686018427387904)(hb:Bk w g 85 (n*2))(hl:lo<=g)(hh:g<hi) :
 Calls Tryz.prog 34 #[.slice (some ⟨g,0,none⟩) n c,J6 k] w fun r w'=>r=.returned (J6 ((k+n*2:Nat):Int))/\MkL lo hi w w':=by
 have HBk:=h_ hb
 clear hb
 go_enter Tryz.func34,Tryz.ntmps34
 go_wp2_with fail
 go_loopw [1,5] (fun q v wr=>∃i:Nat,i<=n/\v=J6 i/\q=J6 ((k+i*2:Nat):Int)/\MkL lo hi w wr) (fun _ v _=>n - (intOf v).toNat)
 case atStart=>exact⟨0,nZ _,rfl,by simp,MkL.refl _ _ _⟩
 case round =>
  obtain⟨i,hi',rfl,rfl,hm⟩:=hrel;have HM:=h_ hm;have HBr:=h_ (hm.bk _ _ _ HBk.u);clear hm;by_cases hlt:i<n
  . have hlt':(i:Int)<n:=by omega
    obtain⟨q,hq⟩:=Nq (k+i*2);have hq':(q:Int)+1<4611686018427387904:=(by omega);rw[hq];go_wp2_with fail;refine(q4h q wr (by omega)).mono ?_;rintro e W2 ⟨s,rfl,hb2⟩;have HB2:=h_ (HBr.u.mono hb2 HBr.u.lt);obtain⟨u,c0⟩:=HB2.u.cell (show i*2<n*2 by omega);obtain⟨u1,c1⟩:=HB2.u.cell (show i*2+1<n*2 by omega);have f0:=HB2.u.free (i*2);have f1:=HB2.u.free (i*2+1);have HM2:=h_ (((HM.u.trans (MkL.below hb2)).trans (MkL.set (i*2) (.string s) hl hh)).trans (MkL.set (i*2+1) (J6 ((q:Int)+1)) hl hh));clear hb2;go_wp2_with fail;go_roundw
    case rel=>first | exact⟨i+1,by omega,by go_num,by rw[show k+(i+1)*2=q+2 by omega];go_num,HM2.u⟩ | ((repeat apply Exists.intro);exact⟨⟨i+1,by omega,by go_num,by rw[show k+(i+1)*2=q+2 by omega];go_num,HM2.u⟩,rfl⟩)
    case measure=>simp[intOf];omega
  . obtain rfl:i=n:=by omega
    have hlt':¬ (i:Int)<(i:Int):=(by omega);obtain⟨q,hq⟩:=Nq (k+i*2);rw[hq];go_wp2_with fail;go_ret;exact⟨rfl,HM.u⟩
theorem q4e (g n c k lo hi:Nat)(w:World)(hk:k+n*5<=4611686018427387904)(hb:Bk w g 172 (n*5))(hl:lo<=g)(hh:g<hi) :
 Calls Tryz.prog 60 #[.slice (some ⟨g,0,none⟩) n c,J6 k] w fun r w'=>r=.returned (J6 ((k+n*5:Nat):Int))/\MkL lo hi w w':=by
 have HBk:=h_ hb
 clear hb
 go_enter Tryz.func60,Tryz.ntmps60
 go_wp2_with fail
 go_loopw [1,5] (fun q v wr=>∃i:Nat,i<=n/\v=J6 i/\q=J6 ((k+i*5:Nat):Int)/\MkL lo hi w wr) (fun _ v _=>n - (intOf v).toNat)
 case atStart=>exact⟨0,nZ _,rfl,by simp,MkL.refl _ _ _⟩
 case round =>
  obtain⟨i,hi',rfl,rfl,hm⟩:=hrel;have HM:=h_ hm;have HBr:=h_ (hm.bk _ _ _ HBk.u);clear hm;by_cases hlt:i<n
  . have hlt':(i:Int)<n:=by omega
    obtain⟨q,hq⟩:=Nq (k+i*5);have hq':(q:Int)+5<4611686018427387904+1:=(by omega);rw[hq];obtain⟨u,c0⟩:=HBr.u.cell (show i*5<n*5 by omega);obtain⟨u1,c1⟩:=HBr.u.cell (show i*5+1<n*5 by omega);obtain⟨u2,c2⟩:=HBr.u.cell (show i*5+2<n*5 by omega);have f0:=HBr.u.free (i*5);have f1:=HBr.u.free (i*5+1);have f2:=HBr.u.free (i*5+2);have HM1:=h_ (((HM.u.trans (MkL.set (i*5) (J6 (q:Int)) hl hh)).trans (MkL.set (i*5+1) (J6 ((q:Int)+1)) hl hh)).trans (MkL.set (i*5+2) (J6 ((q:Int)+1+1)) hl hh));have HB1:=h_ (((HBr.u.set (i*5) (J6 (q:Int))).set (i*5+1) (J6 ((q:Int)+1))).set (i*5+2) (J6 ((q:Int)+1+1)));go_wp2_with fail;obtain⟨W1,hW1⟩:=Nq (((wr.setCell ⟨g,i*5,none⟩ (J6 (q:Int))).setCell ⟨g,i*5+1,none⟩ (J6 ((q:Int)+1))).setCell ⟨g,i*5+2,none⟩ (J6 ((q:Int)+1+1)));rw[hW1]at HM1 HB1⊢;clear hW1 c0 c1 c2 f0 f1 f2;have HT1:=h_ (q4h (q+1+1+1) W1 (by omega));simp only[Og,Zq]at HT1;refine HT1.u.mono ?_;rintro e W2 ⟨s,rfl,hb2⟩;have HB2:=h_ (HB1.u.mono hb2 HB1.u.lt);obtain⟨u,c0⟩:=HB2.u.cell (show i*5+3<n*5 by omega);have f0:=HB2.u.free (i*5+3);have HM2:=h_ ((HM1.u.trans (MkL.below hb2)).trans (MkL.set (i*5+3) (.string s) hl hh));have HB2':=h_ (HB2.u.set (i*5+3) (.string s));clear hb2 HT1;go_wp2_with fail;obtain⟨W3,hW3⟩:=Nq (W2.setCell ⟨g,i*5+3,none⟩ (.string s));rw[hW3]at HM2 HB2'⊢;clear hW3 c0 f0;have HT1:=h_ (q4h (q+1+1+1+1) W3 (by omega));simp only[Og,Zq]at HT1;refine HT1.u.mono ?_;rintro e W4 ⟨s2,rfl,hb4⟩;have HB4:=h_ (HB2'.u.mono hb4 HB2'.u.lt);obtain⟨u',c0⟩:=HB4.u.cell (show i*5+4<n*5 by omega);have f0:=HB4.u.free (i*5+4);have HM4:=h_ ((HM2.u.trans (MkL.below hb4)).trans (MkL.set (i*5+4) (.string s2) hl hh));clear hb4 HT1;go_wp2_with fail;go_roundw
    case rel=>first | exact⟨i+1,by omega,by go_num,by rw[show k+(i+1)*5=q+5 by omega];go_num,HM4.u⟩ | ((repeat apply Exists.intro);exact⟨⟨i+1,by omega,by go_num,by rw[show k+(i+1)*5=q+5 by omega];go_num,HM4.u⟩,rfl⟩)
    case measure=>simp[intOf];omega
  . obtain rfl:i=n:=by omega
    have hlt':¬ (i:Int)<(i:Int):=(by omega);obtain⟨q,hq⟩:=Nq (k+i*5);rw[hq];go_wp2_with fail;go_ret;exact⟨rfl,HM.u⟩
end Go.Proofs.YtgojgjlninakjaaGreatDoor
