import Derived.Test.YtebbgodlijlioaaGreatDoorW27
import Derived.Maps.OwnOps
import Derived.Great.BuildSlice
set_option maxRecDepth 100000
set_option maxHeartbeats 64000000
namespace Go.Proofs.YtebbgodlijlioaaGreatDoor
open Go Go.RowKit
def Fst (p:Nat->Prop)(n:Nat)(z:Int):Prop:=(z = -1/\∀k,k<n->¬ p k)∨∃k:Nat,k<n/\z=k/\p k/\∀j,j<k->¬ p j
theorem Fst.one {p:Nat->Prop}{n:Nat}{z z':Int}(h:Fst p n z)(h':Fst p n z'):z=z':=by
 rcases h with ⟨e,h⟩ | ⟨k,hk,e,h1,h2⟩ <;> rcases h' with ⟨e',h'⟩ | ⟨k',hk',e',h1',h2'⟩
 . rw[e,e']
 . exact absurd h1' (h k' hk')
 . exact absurd h1 (h' k hk)
 . have:k=k':=by
    rcases Nat.lt_trichotomy k k' with x | x | x
    . exact absurd h1 (h2' k x)
    . exact x
    . exact absurd h1' (h2 k' x)
   rw[e,e',this]
theorem Fst.iff {p q:Nat->Prop}{n:Nat}{z:Int}(h:Fst p n z)(hpq:∀k,k<n->(p k ↔ q k)):Fst q n z:=by
 rcases h with ⟨e,h⟩ | ⟨k,hk,e,h1,h2⟩
 . exact .inl ⟨e,fun k hk hq=>h k hk ((hpq k hk).2 hq)⟩
 . exact .inr ⟨k,hk,e,(hpq k hk).1 h1,fun j hj hq=>h2 j hj ((hpq j (by omega)).2 hq)⟩
theorem Fst.bounds {p:Nat->Prop}{n:Nat}{z:Int}(h:Fst p n z):-1<=z/\z<n:=by
 rcases h with ⟨e,h⟩ | ⟨k,hk,e,h1,h2⟩ <;> omega
theorem Fst.ex (p:Nat->Prop):∀n,∃z,Fst p n z
 | 0=>⟨-1,.inl ⟨rfl,fun _ h=>absurd h (nL _)⟩⟩
 | n+1=>by
  obtain⟨z,hz⟩:=Fst.ex p n;rcases hz with ⟨e,h⟩ | ⟨k,hk,e,h1,h2⟩
  . by_cases hn:p n
    . exact⟨n,.inr ⟨n,by omega,rfl,hn,h⟩⟩
    . exact⟨-1,.inl ⟨rfl,fun k hk=>by
       by_cases e:k=n
       . subst e;exact hn
       . exact h k (by omega)⟩⟩
  . exact⟨z,.inr ⟨k,by omega,e,h1,h2⟩⟩
def wV (m:Fm)(A:MA)(b:Nat):Value:=.agg #[.slice A.l m.L.length A.lc,.slice A.p m.P.length A.pc,.slice A.r m.R.length A.rc,.slice A.f m.F.length A.fc,.map (some b)]
section
variable {md:Region.Mode} {ops:Array Oper} {Q:Exit->Act->World->Prop} {S:World->Prop} {o:Oper} {a:Act} {fuel:Nat} {listed:Array Bool} {i:Nat} {w w':World}
theorem runZ {v:Value}(d:Tmp)(hi:ops[i]? = some o)(hd:o.dst=some d)(hw:Region.wanted o (yielded ops a.tmps)=true)(hr:Region.ready md ops listed=[i])
 (hrun:(execOp a.eval o).run Tryz.prog w=.ok (.value v) w') (hS:S w') (h:wpAnyH Tryz.prog md ops Q S fuel (listed.setIfInBounds i true) { tmps:=a.tmps.setIfInBounds d v,defers:=a.defers } w'):wpAnyH Tryz.prog md ops Q S (fuel+1) listed a w :=
 wpAnyH_ready hr (by simp) (consRun d hi hd hw hrun hS h AllReadyH.nil)
end
theorem q4x (m:Fm)(A:MA)(b k:Nat)(w:World)(hk:k<m.F.length)(ha:MSl w m A) :
 Calls Tryz.prog 66 #[wV m A b,J9 k] w fun r w'=>∃g,r=.returned (.slice (some ⟨g,0,none⟩) 2 2)/\Blk w' g 40 [.slice (A.fa k).i m.F[k].is.length (A.fa k).ic,.slice (A.fa k).h m.F[k].wh.length (A.fa k).hc]/\Below w.heap.size w w':=by
 obtain⟨al,alc,ap,apc,ar,arc,af,afc,afa⟩:=A
 unfold wV
 dsimp only
 have HK:=h_ (Blk.new w 56 #[.slice al m.L.length alc,.slice ap m.P.length apc,.slice ar m.R.length arc,.slice af m.F.length afc,.map (some b)])
 have HB:=h_ ((bR w.heap.size w).alloc (nR _) (.cells #[.slice al m.L.length alc,.slice ap m.P.length apc,.slice ar m.R.length arc,.slice af m.F.length afc,.map (some b)] 56))
 obtain⟨W0,hW0⟩:=Nq (w.alloc (.cells #[.slice al m.L.length alc,.slice ap m.P.length apc,.slice ar m.R.length arc,.slice af m.F.length afc,.map (some b)] 56))
 rw[hW0]at HK HB
 have HS:=h_ (ha.mono HB.u)
 clear ha
 obtain⟨pb,po,e1,⟨hbl,-,-,-,-,x4,x5,-⟩,-⟩:=HS.u.f k hk
 dsimp only at e1 x4 x5
 subst e1
 have hk':(k:Int)<m.F.length:=by omega
 obtain⟨-,-,-,y3,-⟩:=five HK.u
 have y3':=y3
 generalize m.F[k]=f at *
 generalize afa k=fa at *
 obtain⟨ab,abc,ai,aic,ah,ahc,av,avc,au,auc⟩:=fa
 dsimp only at x4 x5⊢
 go_enter Tryz.func66,Tryz.ntmps66
 go_wp2_with fail
 try rw[hW0]
 clear hW0
 refine wp_region_held_drew (S:=fun w'=>w'.cell? ⟨w.heap.size,3,none⟩=some (.slice (some ⟨pb,po,none⟩) m.F.length afc)/\w'.cell? ⟨pb,po+k*9+4,none⟩=some (.slice ai f.is.length aic)/\w'.cell? ⟨pb,po+k*9+5,none⟩=some (.slice ah f.wh.length ahc)) (by kernel_rfl) ⟨y3,x4,x5⟩ (fun zz=>?_)
 refine tj 0 5 (Yc w.heap.size 0) zz ?_
 refine tj 1 6 (Yc w.heap.size 3) zz ?_
 refine tj 2 7 (.slice (some ⟨pb,po,none⟩) m.F.length afc) zz ?_
 refine tj 3 8 (J9 k) zz ?_
 simp only[sX,sY,sZ]
 refine tj 4 9 (.pointer (some ⟨pb,po+k*9,none⟩)) zz ?_
 refine tj 5 10 (.pointer (some ⟨pb,po+k*9+4,none⟩)) zz ?_
 refine tj 6 11 (.slice ai f.is.length aic) zz ?_
 refine tj 7 12 (Yc w.heap.size 0) zz ?_
 simp only[sX,sY,sZ]
 refine tj 8 13 (Yc w.heap.size 3) zz ?_
 refine tj 9 14 (.slice (some ⟨pb,po,none⟩) m.F.length afc) zz ?_
 refine tj 10 15 (J9 k) zz ?_
 refine tj 11 16 (.pointer (some ⟨pb,po+k*9,none⟩)) zz ?_
 simp only[sX,sY,sZ]
 refine tj 12 17 (.pointer (some ⟨pb,po+k*9+5,none⟩)) zz ?_
 refine tj 13 18 (.slice ah f.wh.length ahc) zz ?_
 simp only[sX,sY,sZ]
 have HD:Hi (Below W0.heap.size W0 W0.drew):=h_ (bR _ _).drew
 replace HK:=h_ (HK.u.mono HD.u HK.u.lt);replace HB:=h_ (HB.u.trans (HD.u.mono HB.u.size))
 have hbl2:pb<W0.drew.heap.size:=hbl
 obtain⟨V,hV⟩:=Nq W0.drew
 rw[hV]at HK HB zz hbl2⊢
 clear hV HD y3 y3' x4 x5
 have HBv:=h_ ((bR V.heap.size V).alloc (nR _) (.cells #[.slice ai f.is.length aic,.slice ah f.wh.length ahc] 40))
 have HG:=h_ (Blk.new V 40 #[.slice ai f.is.length aic,.slice ah f.wh.length ahc])
 obtain⟨V2,hV2⟩:=Nq (V.alloc (.cells #[.slice ai f.is.length aic,.slice ah f.wh.length ahc] 40))
 have hrun:V.alloc (.cells #[.slice ai f.is.length aic,.slice ah f.wh.length ahc] 40)=V2:=hV2
 rw[hV2]at HBv HG
 replace zz:V2.cell? ⟨w.heap.size,3,none⟩=some (.slice (some ⟨pb,po,none⟩) m.F.length afc)/\V2.cell? ⟨pb,po+k*9+4,none⟩=some (.slice ai f.is.length aic)/\V2.cell? ⟨pb,po+k*9+5,none⟩=some (.slice ah f.wh.length ahc):=⟨(HBv.u.cell HK.u.lt).trans zz.1,(HBv.u.cell hbl2).trans zz.2.1,(HBv.u.cell hbl2).trans zz.2.2⟩
 refine runZ (i:=14) (v:=.slice (some ⟨V.heap.size,0,none⟩) 2 2) (w':=V2) 19 rfl rfl (by rfl) (by kernel_rfl) (by simp[execOp,go_sem,hrun]) zz ?_
 simp only[sX,sY,sZ]
 refine tj 15 4 (.slice (some ⟨V.heap.size,0,none⟩) 2 2) zz ?_
 simp only[sX,sY,sZ]
 refine wpAnyH_done (by kernel_rfl) ?_ _
 clear zz hrun hV2
 go_wp2_with fail
 go_ret
 exact⟨_,rfl,HG.u,HB.u.trans (HBv.u.mono HB.u.size)⟩
theorem qbq (m:Fm)(A:MA)(b:Nat)(w:World) :
 Calls Tryz.prog 38 #[wV m A b] w fun r w'=>r=.returned (.func (.func 61) #[] #[Yc w.heap.size 0])/\Blk w' w.heap.size 56 [.slice A.l m.L.length A.lc,.slice A.p m.P.length A.pc,.slice A.r m.R.length A.rc,.slice A.f m.F.length A.fc,.map (some b)]/\Below w.heap.size w w':=by
 obtain⟨al,alc,ap,apc,ar,arc,af,afc,afa⟩:=A
 unfold wV
 dsimp only
 have HK:=h_ (Blk.new w 56 #[.slice al m.L.length alc,.slice ap m.P.length apc,.slice ar m.R.length arc,.slice af m.F.length afc,.map (some b)])
 have HB:=h_ ((bR w.heap.size w).alloc (nR _) (.cells #[.slice al m.L.length alc,.slice ap m.P.length apc,.slice ar m.R.length arc,.slice af m.F.length afc,.map (some b)] 56))
 go_enter Tryz.func38,Tryz.ntmps38
 go_wp2_with fail
 go_ret
 exact⟨rfl,HK.u,HB.u⟩
theorem nf_mem {l:List Nx}{k:Nat}(h:k<l.length):nf l k∈l:=by rw[nf_get l k h];exact Yk h
theorem ql6 {names:List ByteArray}{l:List Nx}{k:Nat}(h:k<l.length)(h1:(nf l k).op=1):rdL names (l.take (k+1))=rdL names (l.take k)++[fIdx names (nf l k).nm]:=by
 rw[nf_get l k h]at h1⊢
 unfold rdL
 rw[Yq h,Ot,Zf]
 simp[h1]
theorem qc8 {names:List ByteArray}{l:List Nx}{k:Nat}(h:k<l.length)(h1:¬ (nf l k).op=1):rdL names (l.take (k+1))=rdL names (l.take k):=by
 rw[nf_get l k h]at h1
 unfold rdL
 rw[Yq h,Ot,Zf]
 simp[h1]
theorem q47 (names:List ByteArray)(l:List Nx)(k:Nat):(rdL names (l.take k)).length<=(rdL names l).length:=by
 unfold rdL
 rw[Y7,Y7]
 exact((List.take_sublist k l).filter _).length_le
theorem qau {names:List ByteArray}{rs:List (List Nx)}{k:Nat}(h:k<rs.length):(rs.take (k+1)).flatMap (rdL names)=(rs.take k).flatMap (rdL names)++rdL names rs[k]:=by
 rw[Yq h,Zp]
 simp
theorem qas {names:List ByteArray}{rs:List (List Nx)}{k:Nat}(h:k<rs.length):((rs.take k).flatMap (rdL names)).length+(rdL names rs[k]).length<=(rs.flatMap (rdL names)).length:=by
 rw[<- Yg,<- qau h]
 conv=>rhs;rw[<- Vk (k+1) rs,Zp,Yg]
 omega
theorem qhl {names:List ByteArray}(hn:names.Nodup){x:ByteArray}(hx:x∈names)(z:DataW Unit):(mp names).atKey (kl x) z=.lit (.int .i64 ((fIdx names x:Nat):Int)):=by
 have h:=at_mp names hn z (fIdx names x) (qig hx)
 rw[qds hx]at h
 exact h
theorem qjv {D:DataW Unit}{k:Lit}{z:DataW Unit}{pc x:Int}(h1:D.atKey k z=.lit (.int .i64 pc))(h2:D.atKey k z=.lit (.int .i64 x)):pc=x:=by
 rw[h1]at h2
 injection h2 with h2
 injection h2
theorem q30 (base:Nat)(l:List Nat)(x:Nat)(v:Value)(w:World)(ho:w.ownsRow base 3 1 v l.length (ui l))(hl:l.length<=1000000)(hb:base<=w.heap.size) :
 Calls Tryz.prog 96 #[v,J9 x] w fun r w'=>∃v',r=.returned v'/\w'.ownsRow base 3 1 v' (l++[x]).length (ui (l++[x]))/\Below base w w':=by
 obtain⟨i0,hi,hz0,hz1,hz2⟩:=info_parts infoI
 have HO:=h_ ho
 clear ho
 go_enter Tryz.func96,Tryz.ntmps96
 go_wp2_with (at_builtin;refine wpList_append_own _ rfl _ _ 30 rfl base 3 i0 _ 1 8 Tryz.underlying30 hi hz0 hz1 hz2 rfl (by omega) _ _ _ rfl (HO.u.alloc _) ⟨w.heap.size,0,none⟩ 1 1 [J9 x] rfl rfl (qdh w 3 _) (by simp[Value.oneCell']) (by unfold maxLen;omega) (by omega) (by simp;omega) ?_;intro v' w3 ho' hgr' _)
 have HO2:Hi (w3.ownsRow base 3 1 v' (l++[x]).length (ui (l++[x]))):=h_ (by simpa [ui] using ho')
 have HB2:=h_ (((bR base w).alloc hb (.cells #[J9 x] 3)).grown hgr' (by simp;omega) (fun q' e=>q8q HO.u e))
 clear ho' hgr' hi hz0 hz1 hz2
 go_ret
 exact⟨v',rfl,HO2.u,HB2.u⟩
theorem q35 (J:List Nat->Value->World->Prop)(g c b:Nat)(R:Nat->Option Addr)(RC:Nat->Nat)(rs:List (List Nx))(names:List ByteArray)(v0:Value)(w:World)(hg:g<w.heap.size)(hn:rs.length<=1000)
 (hc:∀k (h:k<rs.length),w.cell? ⟨g,k,none⟩=some (.slice (R k) rs[k].length (RC k))/\rs[k].length<=1000000/\NodL w (R k) rs[k]/\(∀i,i<rs[k].length->Fit (nf rs[k] i))/\knows names rs[k]=true)
 (hnd:names.Nodup) (hm:PMap w b names) (hJ:∀pre v W W',J pre v W->Below W.heap.size W W'->J pre v W')
 (hstep:∀pre x v W,Below w.heap.size w W->J pre v W->x<names.length->pre.length<(rs.flatMap (rdL names)).length->Calls Tryz.prog 96 #[v,J9 (x:Nat)] W fun r W'=>∃v',r=.returned v'/\J (pre++[x]) v' W'/\Below w.heap.size W W')
 (h0:J [] v0 w) :
 Calls Tryz.prog 95 #[.slice (some ⟨g,0,none⟩) rs.length c,.map (some b),v0,.func (.func 96) #[] #[]] w fun r w'=>∃v,r=.returned v/\J (rs.flatMap (rdL names)) v w'/\Below w.heap.size w w':=by
 have HC:=h_ hc;have HM:=h_ hm;have HJ:=h_ hJ;have HS:=h_ hstep;have H0:=h_ h0;have HG:=h_ hg;have HD:=h_ hnd
 clear hc hm hJ hstep h0 hnd hg
 go_enter Tryz.func95,Tryz.ntmps95
 go_wp2_with fail
 go_loopw [2,15] (fun v i wr=>∃k:Nat,k<=rs.length/\i=J9 k/\J ((rs.take k).flatMap (rdL names)) v wr/\Below w.heap.size w wr) (fun _ i _=>rs.length - (intOf i).toNat)
 case atStart=>exact⟨0,nZ _,rfl,H0.u,bR _ _⟩
 case round =>
  obtain⟨k,hk,rfl,hj,hb⟩:=hrel;have HJk:=h_ hj;have HB:=h_ hb;clear hj hb;by_cases hlt:k<rs.length
  . have hlt':(k:Int)<rs.length:=by omega
    obtain⟨hcell,hlen,hnod,hfit,hkn⟩:=HC.u k hlt;have z0:=(HB.u.cell (p:=⟨g,k,none⟩) HG.u).trans hcell;have HN:=h_ hnod;have HF:=h_ hfit;have HK:=h_ hkn;have HT:Hi ((rs.take (k+1)).flatMap (rdL names)=(rs.take k).flatMap (rdL names)++rdL names rs[k]):=h_ (qau hlt);have HLe:Hi (((rs.take k).flatMap (rdL names)).length+(rdL names rs[k]).length<=(rs.flatMap (rdL names)).length):=h_ (qas hlt);clear hcell hnod hfit hkn;generalize (rs.take k).flatMap (rdL names)=pre at *;generalize rs[k]=l at *;generalize R k=a at *;generalize RC k=ac at *;go_wp2_with fail;go_loopw [2,21] (fun v i w3=>∃q:Nat,q<=l.length/\i=J9 q/\J (pre++rdL names (l.take q)) v w3/\Below w.heap.size w w3) (fun _ i _=>l.length - (intOf i).toNat)
    case atStart=>exact⟨0,nZ _,rfl,by have h:=HJk.u;simpa [rdL] using h,HB.u⟩
    case round =>
     clear HJk HB z0;obtain⟨q,hq,rfl,hj,hb⟩:=hrel;have HJq:=h_ hj;have HB:=h_ hb;have HAr:=h_ (HN.u.mono hb);have HMr:=h_ (HM.u.mono hb);clear hj hb;by_cases hql:q<l.length
     . have hql':(q:Int)<l.length:=by omega
       obtain⟨pb,po,rfl,-,z0,z1,z2,z3,z4⟩:=HAr.u q hql;have HR:Hi ((nf l q).op=1->rdL names (l.take (q+1))=rdL names (l.take q)++[fIdx names (nf l q).nm]/\(nf l q).nm∈names):=h_ fun h1=>⟨ql6 hql h1,qb4 HK.u (nf_mem hql) h1⟩;have HRo:Hi (¬ (nf l q).op=1->rdL names (l.take (q+1))=rdL names (l.take q)):=h_ fun h1=>qc8 hql h1;have HQl:Hi ((rdL names (l.take (q+1))).length<=(rdL names l).length):=h_ (q47 names l (q+1));have HFk:=h_ (HF.u q hql);generalize nf l q=n at *;have HKf:=h_ (Blk.new wr 96 (Jd n));have HBa:=h_ ((bR wr.heap.size wr).alloc (nR _) (.cells (Jd n) 96));obtain⟨Wd,hWd⟩:=Nq (wr.alloc (.cells (Jd n) 96));rw[hWd]at HKf HBa;have HBf:=h_ (HB.u.trans (HBa.u.mono HB.u.size));have HMf:=h_ (HMr.u.mono HBa.u);have HJd:=h_ (HJ.u _ _ _ _ HJq.u HBa.u);obtain⟨x0,x1,x2,x3,x4⟩:=five HKf.u;by_cases h1:n.op=1
       . have h1':(n.op != 1)=false:=by rw[h1];rfl
         have h1'':(n.op==1)=true:=(by rw[h1];rfl);obtain⟨e1,hmem⟩:=HR.u h1;have HE:=h_ e1;have HAt:Hi ((mp names).atKey (kl n.nm) (.lit (.int .i64 0))=.lit (.int .i64 ((fIdx names n.nm:Nat):Int))):=h_ (qhl HD.u hmem _);have hxl:=qig hmem;clear h1 e1 hmem HR HRo;generalize fIdx names n.nm=x at *;have HKy:Hi (keyOf Tryz.prog 9 (.string n.nm)=some (kl n.nm)):=h_ (WideMaps.keyOf_string_mk Tryz.underlying9 HFk.u.2.1);have HCa:=h_ (HS.u _ x _ Wd HBf.u HJd.u hxl (by
          have:=HLe.u;have:=HQl.u;rw[HE.u,Yg]at this;rw[Yg];simp at this;omega))
         go_wp2_with (at_lookup;refine wpList_lookup_own_int _ rfl _ _ 54 rfl 9 3 .i64 (Maps.string_keyed Tryz.underlying9) Tryz.underlying54 Tryz.underlying3 (Tryz.zeroValue3 _) b names.length (mp names) rfl (by first | exact HMf.u | (rw[hWd];exact HMf.u)) _ _ rfl HKy.u ?_;intro pc hpc _;obtain rfl:=qjv hpc HAt.u;clear hpc)
         try rw[hWd]
         clear hWd HMf HKy;refine HCa.u.mono ?_;rintro r W2 ⟨v',rfl,hj2,hb2⟩;have HJ2:Hi (J (pre++rdL names (l.take (q+1))) v' W2):=h_ (by rw[HE.u,<- Z6];exact hj2);have HB2:=h_ (HBf.u.trans hb2);clear hj2 hb2 HCa;go_wp2_with fail;go_roundw
         case rel=>first | exact⟨q+1,by omega,by go_num,HJ2.u,HB2.u⟩ | ((repeat apply Exists.intro);exact⟨⟨q+1,by omega,by go_num,HJ2.u,HB2.u⟩,rfl⟩)
         case measure=>simp[intOf];omega
       . have h1':(n.op != 1)=true:=by simp[h1]
         have h1'':(n.op==1)=false:=(by simp[h1]);have HJ2:=HJd;rw[<- HRo.u h1]at HJ2;clear h1 HR HRo;go_wp2_with fail
         try rw[hWd]
         clear hWd;go_roundw
         case rel=>first | exact⟨q+1,by omega,by go_num,HJ2.u,HBf.u⟩ | ((repeat apply Exists.intro);exact⟨⟨q+1,by omega,by go_num,HJ2.u,HBf.u⟩,rfl⟩)
         case measure=>simp[intOf];omega
     . obtain rfl:q=l.length:=by omega
       have hql':¬ (l.length:Int)<(l.length:Int):=(by omega);have HJ2:=HJq;rw[Y9 (nR _),<- HT.u]at HJ2;go_wp2_with fail;go_roundw
       case rel=>first | exact⟨k+1,by omega,by go_num,HJ2.u,HB.u⟩ | ((repeat apply Exists.intro);exact⟨⟨k+1,by omega,by go_num,HJ2.u,HB.u⟩,rfl⟩)
       case measure=>simp[intOf];omega
  . obtain rfl:k=rs.length:=by omega
    have hlt':¬ (rs.length:Int)<(rs.length:Int):=(by omega);have HJ2:=HJk;rw[Y9 (nR _)]at HJ2;go_wp2_with fail;go_ret;exact⟨_,rfl,HJ2.u,HB.u⟩
theorem q7d (m:Fm)(A:MA)(b g k:Nat)(w:World)(hv:VfA m)(hf:FitM m)(hk:k<m.F.length)(ha:MSl w m A)(hm:PMap w b (fNames m))(hG:Blk w g 40 [.slice (A.fa k).i m.F[k].is.length (A.fa k).ic,.slice (A.fa k).h m.F[k].wh.length (A.fa k).hc]) :
 Calls Tryz.prog 95 #[.slice (some ⟨g,0,none⟩) 2 2,.map (some b),Ya,.func (.func 96) #[] #[]] w fun r w'=>∃v,r=.returned v/\w'.ownsRow w.heap.size 3 1 v (fedL m k).length (ui (fedL m k))/\Below w.heap.size w w':=by
 have hok:=(q4y _ _ _).1 (hv.fi _ (Yk hk))
 have hff:=hf.f _ (Yk hk)
 have hkn:=hv.knw hk
 obtain⟨pb,po,-,-,hsl⟩:=ha.f k hk
 have he:fedL m k=[m.F[k].is,m.F[k].wh].flatMap (rdL (fNames m)):=by
  unfold fedL;rw[qif hk];simp
 rw[qif hk]at hkn
 have hlen:=qdw hv hk
 rw[he]at hlen⊢
 refine q35 (fun pre v W=>W.ownsRow w.heap.size 3 1 v pre.length (ui pre)/\w.heap.size<=W.heap.size) g 2 b (fun i=>if i=0 then (A.fa k).i else (A.fa k).h) (fun i=>if i=0 then (A.fa k).ic else (A.fa k).hc) [m.F[k].is,m.F[k].wh] (fNames m) Ya w hG.lt (by simp) ?_ hv.nod hm ?_ ?_ ⟨World.ownsRow_nil _ _ _ _,nR _⟩ |>.mono ?_
 . intro i hi
   have h1:=qg8 hok.i;have h2:=qg8 hok.h;obtain rfl | rfl:i=0∨i=1:=by simp at hi;omega
   . exact⟨hG.cell 0,by show m.F[k].is.length<=_;omega,hsl.i,hff.i,hkn.1⟩
   . exact⟨hG.cell 1,by show m.F[k].wh.length<=_;omega,hsl.h,hff.h,hkn.2.1⟩
 . rintro pre v W W' ⟨h,hs⟩ hb
   exact⟨h.kept (row:=none) ⟨hb.os,hb.tape,hb.output,hb.size,fun k hk _=>hb.block k hk⟩ (Classical.em _),Yv hs hb.size⟩
 . rintro pre x v W hb ⟨h,hs⟩ hx hl
   refine(q30 w.heap.size pre x v W h (by omega) hs).mono ?_;rintro r W' ⟨v',rfl,ho,hb'⟩;exact⟨v',rfl,⟨ho,Yv hs hb'.size⟩,hb'⟩
 . rintro r w' ⟨v,rfl,⟨h,-⟩,hb⟩
   exact⟨v,rfl,h,hb⟩
theorem qe9:(Tryz.prog.info? 30).map (fun i=>(i.zero,i.size,i.bytes))=some (some Ya,1,24):=by kernel_rfl
theorem qax {w:World}{base F n:Nat}(h:w.ownsRow base 30 1 (.slice (some ⟨F,0,none⟩) n n) n (madeCells #[Value.slice none 0 0] n).toList):HoldF w F n (fun _=>.slice none 0 0):=by
 have hb:=Blk.of_owns h
 rw[toList_madeCells_one]at hb
 unfold HoldF
 rw[List.map_const',Od]
 exact hb
theorem qme {w:World}{base F n:Nat}(h:w.ownsRow base 3 1 (.slice (some ⟨F,0,none⟩) n n) n (madeCells #[Value.int .i64 0] n).toList):Blk w F 3 (zs n fun _=>0):=by
 have hb:=Blk.of_owns h
 rw[toList_madeCells_one]at hb
 unfold zs
 rw[List.map_const',Od]
 exact hb
theorem own_at {w:World}{base:Nat}{v:Value}{l:List Nat}(h:w.ownsRow base 3 1 v l.length (ui l)):∃a c,v=.slice a l.length c/\∀i (hi:i<l.length),∃g,a=some ⟨g,0,none⟩/\g<w.heap.size/\base<=g/\w.cell? ⟨g,i,none⟩=some (J9 (l[i]:Nat)):=by
 rcases h.2 with ⟨h1,h2⟩ | ⟨g,cap,cur,h1,hb,hg,r⟩
 . exact⟨none,0,by rw[h1,h2],fun i hi=>absurd hi (by omega)⟩
 . subst h1
   refine⟨_,_,rfl,fun i hi=>⟨g,rfl,(Yr.1 hg).1,hb,?_⟩⟩;rw[h.cellAt i (by omega)];simp[ui,hi]
theorem qfh {w:World}{base c:Nat}{a:Option Addr}{l:List Nat}(h:w.ownsRow base 3 1 (.slice a l.length c) l.length (ui l))(i:Nat)(hi:i<l.length):∃g,a=some ⟨g,0,none⟩/\g<w.heap.size/\base<=g/\w.cell? ⟨g,i,none⟩=some (J9 (l[i]:Nat)):=by
 obtain⟨a',c',e,h2⟩:=own_at h
 cases e
 exact h2 i hi
theorem qin (m:Fm)(A:MA)(b:Nat)(w:World)(hv:VfA m)(hf:FitM m)(ha:MSl w m A)(hm:PMap w b (fNames m)) :
 Calls Tryz.prog 62 #[wV m A b] w fun r w'=>∃F V,r=.returned (.slice (some ⟨F,0,none⟩) m.F.length m.F.length)/\w.heap.size<=F/\HoldF w' F m.F.length V/\Fam w' (F+1) m.F.length V (fedT m m.F.length)/\Below w.heap.size w w':=by
 have HV:=h_ hv
 have HCf:=h_ fun W k (hk:k<m.F.length) (hs:MSl W m A)=>q4x m A b k W hk hs
 have HCg:=h_ fun W g k (hk:k<m.F.length) (hs:MSl W m A) (hp:PMap W b (fNames m)) hG=>q7d m A b g k W hv hf hk hs hp hG
 have hnf:=hv.nf
 obtain⟨al,alc,ap,apc,ar,arc,af,afc,afa⟩:=A
 unfold wV at HCf⊢
 dsimp only at HCf HCg⊢
 have HK:=h_ (Blk.new w 56 #[.slice al m.L.length alc,.slice ap m.P.length apc,.slice ar m.R.length arc,.slice af m.F.length afc,.map (some b)])
 have HB:=h_ ((bR w.heap.size w).alloc (nR _) (.cells #[.slice al m.L.length alc,.slice ap m.P.length apc,.slice ar m.R.length arc,.slice af m.F.length afc,.map (some b)] 56))
 obtain⟨W0,hW0⟩:=Nq (w.alloc (.cells #[.slice al m.L.length alc,.slice ap m.P.length apc,.slice ar m.R.length arc,.slice af m.F.length afc,.map (some b)] 56))
 have hs0:W0.heap.size=w.heap.size+1:=by rw[<- hW0];simp
 rw[hW0]at HK HB
 have HS:=h_ ha;have HM:=h_ hm
 clear ha hm hv hf
 obtain⟨i0,hi,hz0,hz1,hz2⟩:=info_parts qe9
 have hbn:i0.bytes*m.F.length<=281474976710656:=by rw[hz2];omega
 obtain⟨y0,y1,y2,y3,y4⟩:=five HK.u
 go_enter Tryz.func62,Tryz.ntmps62
 go_wp2_with (at_make;refine wpList_make_full _ rfl (.tmp 10) (.tmp 10) 100 rfl (w.heap.size+1) 30 i0 _ 1 Tryz.underlying100 hi hz0 hz1 .i64 .i64 _ _ m.F.length rfl rfl rfl rfl hbn (by unfold maxLen;omega) (by first | omega | (simp;done)) ?_)
 intro w1 hown hgrow
 try rw[hW0]at hown hgrow
 try rw[hW0]
 try rw[hs0]at hown
 try rw[hs0]
 have hb1:Below (w.heap.size+1) W0 w1:=(bR _ _).grown hgrow (by omega) (fun k e=>by cases e)
 obtain⟨F,hF⟩:=Nq (w.heap.size+1)
 rw[hF]at hown hb1 hs0
 try rw[hF]
 have HH:=h_ (qax hown)
 have HKb:=h_ hb1
 clear hown hgrow hb1 hbn hi hz0 hz1 hz2 hW0 y0 y1 y2 y3 y4
 replace HB:=h_ (HB.u.trans (HKb.u.mono (by omega)))
 replace HK:=h_ (HK.u.mono HKb.u (by omega))
 have hF1:F<w1.heap.size:=HH.u.lt
 clear HKb
 obtain⟨y0,y1,y2,y3,y4⟩:=five HK.u
 go_wp2_with fail
 clear y0 y1 y2 y3 y4
 go_loopw [16] (fun i wr=>∃(k:Nat) (V:Nat->Value),k<=m.F.length/\i=J9 k/\HoldF wr F m.F.length V/\Fam wr (F+1) m.F.length V (fedT m k)/\Below F w1 wr) (fun i _=>m.F.length - (intOf i).toNat)
 case atStart=>exact⟨0,_,nZ _,rfl,HH.u,Fam.none _ _ _,bR _ _⟩
 case round =>
  clear HH;obtain⟨k,V,hk,rfl,hh,hfam,hb⟩:=hrel;have HH:=h_ hh;have HFm:=h_ hfam;have HBr:=h_ hb;have HKr:=h_ (HK.u.mono hb (by omega));have HBw:Hi (Below w.heap.size w wr):=h_ (HB.u.trans (hb.mono (by omega)));have HSr:=h_ (HS.u.mono HBw.u);have HMr:=h_ (HM.u.mono HBw.u);have hFr:F<wr.heap.size:=hh.lt;clear hh hfam hb;by_cases hlt:k<m.F.length
  . have hlt':(k:Int)<m.F.length:=by omega
    go_wp2_with fail;refine wp_region_held_drew (S:=fun w'=>Blk w' w.heap.size 56 [.slice al m.L.length alc,.slice ap m.P.length apc,.slice ar m.R.length arc,.slice af m.F.length afc,.map (some b)]) (by kernel_rfl) HKr.u (fun zz=>?_);refine tj 0 19 (.agg #[.slice al m.L.length alc,.slice ap m.P.length apc,.slice ar m.R.length arc,.slice af m.F.length afc,.map (some b)]) zz ?_ (hy:=fun w hS=>by obtain⟨q0,q1,q2,q3,q4⟩:=five hS;simp[execOp,go_sem,q0,q1,q2,q3,q4]);refine tj 1 20 (J9 k) zz ?_;refine tj 3 22 (Yc w.heap.size 4) zz ?_;refine tj 4 23 (.map (some b)) zz ?_ (hy:=fun w hS=>by obtain⟨q0,q1,q2,q3,q4⟩:=five hS;simp[execOp,go_sem,q4]);simp only[sX,sY,sZ];refine tj 7 26 (J9 0) zz ?_;simp only[sX,sY,sZ];have HD:Hi (Below wr.heap.size wr wr.drew):=h_ (bR _ _).drew;refine callY (i:=2) (f:=66) (args:=#[.agg #[.slice al m.L.length alc,.slice ap m.P.length apc,.slice ar m.R.length arc,.slice af m.F.length afc,.map (some b)],J9 k]) (R:=fun v wz=>∃g,v=.slice (some ⟨g,0,none⟩) 2 2/\Blk wz g 40 [.slice (afa k).i m.F[k].is.length (afa k).ic,.slice (afa k).h m.F[k].wh.length (afa k).hc]/\Below wr.heap.size wr wz) 21 rfl rfl (by rfl) (by kernel_rfl) ?hrun2 ((HCf.u wr.drew k hlt (HSr.u.mono HD.u)).mono fun e w6 ⟨g,he,hg,hb⟩=>⟨_,he,g,rfl,hg,q25 hb⟩) ?_
    case hrun2=>simp[execOp,go_sem]
    rintro v W2 ⟨g,rfl,hg,hb2⟩;replace zz:=HKr.u.mono hb2 HKr.u.lt;have hs2:=hb2.size;have HB2:=h_ hb2;have HGb:=h_ hg;clear hg hb2;refine⟨zz,?_⟩;simp only[sX,sY,sZ];refine callY (i:=5) (f:=95) (args:=#[.slice (some ⟨g,0,none⟩) 2 2,.map (some b),Ya,.func (.func 96) #[] #[]]) (R:=fun v wz=>wz.ownsRow W2.heap.size 3 1 v (fedL m k).length (ui (fedL m k))/\Below W2.heap.size W2 wz) 24 rfl rfl (by rfl) (by kernel_rfl) ?hrun5 ((HCg.u W2 g k hlt (HSr.u.mono HB2.u) (HMr.u.mono HB2.u) HGb.u).mono fun e w6 ⟨v,he,ho,hb⟩=>⟨v,he,ho,hb⟩) ?_
    case hrun5=>simp[execOp,go_sem]
    rintro v W3 ⟨ho,hb3⟩;replace zz:=zz.mono hb3 zz.lt;have hs3:=hb3.size;have HF3:=h_ (Fam.snoc (HFm.u.mono HB2.u) hb3 (by omega) ho);obtain⟨a,c,rfl,-⟩:=own_at ho;have HH3:Hi (HoldF W3 F m.F.length (up V m.F.length (.slice a (fedL m k).length c))):=h_ (HoldF.congr (show HoldF W3 F m.F.length V from Blk.mono (Blk.mono HH.u HB2.u hFr) hb3 (by omega)) fun j hj=>up_ne _ _ (by omega));have HB3:Hi (Below F w1 W3):=h_ ((HBr.u.trans (HB2.u.mono (by omega))).trans (hb3.mono (by omega)));have HVn:Hi ((up V m.F.length (.slice a (fedL m k).length c)) m.F.length=.slice a (fedL m k).length c):=h_ (up_at _ _ _);rw[<- qak]at HF3;generalize up V m.F.length (.slice a (fedL m k).length c)=V3 at *;have hlen:=qdw HV.u hlt;have HLt:=h_ (qil HV.u hlt);have HPl:=h_ (fun p j=>qdx HV.u hlt p j);have HPz:Hi (∀l',fedL m k=l'->∀p (h:p<l'.length),fedP m k (p+1)=up (fedP m k p) l'[p] (fedP m k p l'[p]++[k])):=h_ fun l' e p h=>by subst e;exact qaj h
    have HPf:=h_ (qai m k);clear ho hb3 HB2 HGb HFm HH HSr HMr;refine⟨zz,?_⟩;simp only[sX,sY,sZ];clear zz;have zz:Blk W3 w.heap.size 56 [.slice al m.L.length alc,.slice ap m.P.length apc,.slice ar m.R.length arc,.slice af m.F.length afc,.map (some b)]:=HKr.u.lt |> fun h=>HK.u.mono HB3.u (by omega);refine tj 6 25 (J9 (fedL m k).length) zz ?_;simp only[sX,sY,sZ];refine wpAnyH_done (by kernel_rfl) ?_ _;clear zz;obtain⟨l,hl⟩:=Nq (fedL m k);rw[hl]at HF3 HVn hlen HLt HPf⊢;have HPs:=h_ (HPz.u l hl);clear HPz hl;go_wp2_with fail;go_loopw [26] (fun i w3=>∃(p:Nat) (V':Nat->Value),p<=l.length/\i=J9 p/\V' m.F.length=.slice a l.length c/\HoldF w3 F m.F.length V'/\Fam w3 (F+1) (m.F.length+1) V' (up (fedP m k p) m.F.length l)/\Below F w1 w3) (fun i _=>l.length - (intOf i).toNat)
    case atStart=>exact⟨0,_,nZ _,rfl,HVn.u,HH3.u,HF3.u,HB3.u⟩
    case round =>
     clear HVn HH3 HF3 HB3 HBr HKr HBw hFr hs2 hs3;obtain⟨p,V',hp,rfl,hVn,hh,hfam,hb⟩:=hrel;have hFr:F<wr.heap.size:=hh.lt;have HH:=h_ hh;have HFm:=h_ hfam;have HBr:=h_ hb;have HVn:=h_ hVn;by_cases hpl:p<l.length
     . have hpl':(p:Int)<l.length:=by omega
       have hown:=hfam.own m.F.length (by omega);rw[hVn,up_at]at hown;obtain⟨g2,rfl,hg2,-,zc⟩:=qfh hown p hpl;have hjn:l[p]<m.F.length:=HLt.u _ (Yk hpl);have hjn':((l[p]:Nat):Int)<m.F.length:=(by omega);have HSt:=h_ (HPs.u p hpl);have hLl:=HPl.u p l[p];have hoj:=hfam.own l[p] (by omega);rw[up_ne _ _ (by omega)]at hoj;have zj:=hh.at hjn;have HOj:=h_ hoj;generalize l[p]=j at *;obtain⟨i0,hi,hz0,hz1,hz2⟩:=info_parts infoI;clear hh hfam hb hVn hown hoj;go_wp2_with (at_builtin;refine wpList_append_own_at _ rfl _ _ 30 rfl (F+1) 3 i0 _ 1 8 Tryz.underlying30 hi hz0 hz1 hz2 rfl (by omega) _ _ _ rfl (HOj.u.alloc _) ⟨wr.heap.size,0,none⟩ 1 1 [J9 k] rfl rfl (qdh wr 3 _) (by simp[Value.oneCell']) (by unfold maxLen;omega) (by omega) (by simp;omega) ?_);intro v' w4 ho' hgr' _ hat';have hba:=(bR wr.heap.size wr).alloc (nR _) (.cells #[J9 k] 3);have ho2:w4.ownsRow (F+1) 3 1 v' (up (fedP m k p) m.F.length l j++[k]).length (ui (up (fedP m k p) m.F.length l j++[k])):=by
        rw[up_ne _ _ (by omega)];simpa [ui] using ho'
       obtain⟨a',c',e',-⟩:=own_at ho2;obtain⟨n',hn'⟩:=Nq ((up (fedP m k p) m.F.length l j++[k]).length);rw[hn']at e';clear hn';have hHa:HoldF (wr.alloc (.cells #[J9 k] 3)) F m.F.length V':=Blk.mono HH.u hba hFr;have hFa:=HFm.u.mono hba;have hst:=qgp hHa (by omega) hFa (by omega) ho2 hgr' (by rw[Yx];exact hat');have hFz:F<(wr.alloc (.cells #[J9 k] 3)).heap.size:=hHa.lt;have hbb:=q6r (j:=j) (v:=v') (HBr.u.trans (hba.mono (by omega))) (Oh F) hFz (hFa.own j (by omega)) hgr';have hH4:Blk w4 F 30 ((List.range m.F.length).map V'):=Blk.grown hHa hgr' (fun e=>by have:=((hFa.own j (by omega)).lt F e.symm).1;omega);have cF:w4.cell? ⟨F,j,none⟩=some (V' j):=HoldF.at hH4 hjn;have fF:w4.frozen? ⟨F,j,none⟩=false:=hH4.free j;have HH4:=h_ hst.1;have HF4:Hi (Fam (w4.setCell ⟨F,j,none⟩ v') (F+1) (m.F.length+1) (up V' j v') (up (fedP m k (p+1)) m.F.length l)):=h_ (hst.2.congr (fun _ _=>rfl) fun i hi=>by
        by_cases ei:i=m.F.length
        . subst ei
          rw[up_at,up_ne _ _ (by omega),up_at]
        . rw[up_ne _ _ ei,HSt.u]
          by_cases ej:i=j
          . subst ej
            rw[up_at,up_at,up_ne _ _ ei]
          . rw[up_ne _ _ ej,up_ne _ _ ej,up_ne _ _ ei])
       have HB4:=h_ hbb;have HV4:Hi (up V' j v' m.F.length=.slice (some ⟨g2,0,none⟩) l.length c):=h_ (by rw[up_ne _ _ (by omega)];exact HVn.u);clear ho' hgr' hat' ho2 hHa hFa hst hFz hbb hH4 hba hi hz0 hz1 hz2 zc zj;subst e';go_wp2_with fail;go_roundw
       case rel=>first | exact⟨p+1,_,by omega,by go_num,HV4.u,HH4.u,HF4.u,HB4.u⟩ | ((repeat apply Exists.intro);exact⟨⟨p+1,_,by omega,by go_num,HV4.u,HH4.u,HF4.u,HB4.u⟩,rfl⟩)
       case measure=>simp[intOf];omega
     . obtain rfl:p=l.length:=by omega
       have hpl':¬ (l.length:Int)<(l.length:Int):=(by omega);have HF4:Hi (Fam wr (F+1) m.F.length V' (fedT m (k+1))):=h_ ((hfam.sub (Vl _)).congr (fun _ _=>rfl) fun i hi=>by
        rw[up_ne _ _ (by omega),HPf.u])
       clear hh hfam hb hVn;go_wp2_with fail;go_roundw
       case rel=>first | exact⟨k+1,_,by omega,by go_num,HH.u,HF4.u,HBr.u⟩ | ((repeat apply Exists.intro);exact⟨⟨k+1,_,by omega,by go_num,HH.u,HF4.u,HBr.u⟩,rfl⟩)
       case measure=>simp[intOf];omega
  . obtain rfl:k=m.F.length:=by omega
    have hlt':¬ (m.F.length:Int)<(m.F.length:Int):=(by omega);go_wp2_with fail;go_ret
    first | exact⟨F,V,rfl,by omega,HH.u,HFm.u,HBw.u⟩ | exact⟨F,rfl,by omega,V,HH.u,HFm.u,HBw.u⟩ | exact⟨F,rfl,by omega,⟨V,HH.u,HFm.u⟩,HBw.u⟩
def DCel (w:World)(b o:Nat)(v0 v1:Value):Prop:=b<w.heap.size/\w.cell? ⟨b,o,none⟩=some v0/\w.cell? ⟨b,o+1,none⟩=some v1
theorem DCel.mono {w w':World}{b o:Nat}{v0 v1:Value}(h:DCel w b o v0 v1)(hb:Below w.heap.size w w'):DCel w' b o v0 v1:=⟨Y5 h.1 hb.size,(hb.cell h.1).trans h.2.1,(hb.cell h.1).trans h.2.2⟩
structure SmF (f:Fl):Prop where
 b:f.bys.length<=1048576
 i:f.is.length<=1048576
 h:f.wh.length<=1048576
 v:f.va.length<=1048576
 u:f.mu.length<=1048576
theorem fill_F (s0 s7:ByteArray)(i1 i2:Int)(a3 a4 a5 a6 a8:Option Addr)(n3 n4 n5 n6 n8 c3 c4 c5 c6 c8:Nat):Instr.fill (fun i=>some (i*9,9)) ((Array.range (1*9)).map ((Value.agg Je).cells[· % (Value.agg Je).cells.size]!)) [(0,.agg #[.string s0,J9 i1,J9 i2,.slice a3 n3 c3,.slice a4 n4 c4,.slice a5 n5 c5,.slice a6 n6 c6,.string s7,.slice a8 n8 c8])]=some #[.string s0,J9 i1,J9 i2,.slice a3 n3 c3,.slice a4 n4 c4,.slice a5 n5 c5,.slice a6 n6 c6,.string s7,.slice a8 n8 c8]:=by kernel_rfl
theorem qhn {ops:Array Oper}{rest:List Oper}{o:Oper}{a:Act}{w:World}{Q:Exit->Act->World->Prop}(hg:o.guard=none)(x:Operand)(ho:o.op=.buildSlice 26 1 #[(0,x)]){s0 s7:ByteArray}{i1 i2:Int}{a3 a4 a5 a6 a8:Option Addr}{n3 n4 n5 n6 n8 c3 c4 c5 c6 c8:Nat}
 (hx:a.eval x=.agg #[.string s0,J9 i1,J9 i2,.slice a3 n3 c3,.slice a4 n4 c4,.slice a5 n5 c5,.slice a6 n6 c6,.string s7,.slice a8 n8 c8])
 (h:wpList Tryz.prog ops Q rest (a.put o.dst (.slice (some ⟨w.heap.size,0,none⟩) 1 1)) (w.alloc (.cells #[.string s0,J9 i1,J9 i2,.slice a3 n3 c3,.slice a4 n4 c4,.slice a5 n5 c5,.slice a6 n6 c6,.string s7,.slice a8 n8 c8] 42))):wpList Tryz.prog ops Q (o :: rest) a w:=by
 obtain⟨i0,hi,hz0,hz1,hz2⟩:=info_parts qj0
 refine wpList_buildSlice hg _ 42 1 _ ho _ i0 _ Tryz.underlying26 hi hz0 (by rw[hz1];decide) (by rw[hz1];decide) ?_ h
 rw[hz1]
 simp only[Ok,Zo,Vi,hx]
 exact fill_F s0 s7 i1 i2 a3 a4 a5 a6 a8 n3 n4 n5 n6 n8 c3 c4 c5 c6 c8
end Go.Proofs.YtebbgodlijlioaaGreatDoor
