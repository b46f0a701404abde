import Derived.Test.YtgojgjlninakjaaGreatDoorW17
import Derived.Test.YtgojgjlninakjaaGreatDoorW18
import Derived.Test.YtgojgjlninakjaaGreatDoorW05
set_option maxRecDepth 100000
set_option maxHeartbeats 64000000
namespace Go.Proofs.YtgojgjlninakjaaGreatDoor
open Go Go.RowKit
theorem duo {w:World}{b:Nat}{t:TypeId}{v0 v1:Value}(h:Blk w b t [v0,v1]):w.cell? ⟨b,0,none⟩=some v0/\w.cell? ⟨b,1,none⟩=some v1:=⟨h.cell 0,h.cell 1⟩
theorem q31 (m:Fm)(A:MA)(w:World)(hl:m.R.length<=64)(ha:Rls w A.r m.R) :
 Calls Tryz.prog 53 #[mV m A] w fun r w'=>∃a0 c0,r=.returned (.slice a0 m.R.length c0)/\Strs w' a0 (rNames m)/\Below w.heap.size w w':=by
 obtain⟨al,alc,ap,apc,ar,arc,af,afc,afa⟩:=A
 unfold mV
 dsimp only at ha⊢
 have HK:=h_ (Blk.new w 36 (#[.slice al m.L.length alc,.slice ap m.P.length apc,.slice ar m.R.length arc,.slice af m.F.length afc]))
 have HB:=h_ ((bR w.heap.size w).alloc (nR _) (.cells (#[.slice al m.L.length alc,.slice ap m.P.length apc,.slice ar m.R.length arc,.slice af m.F.length afc]) 36))
 obtain⟨W0,hW0⟩:=Nq (w.alloc (.cells (#[.slice al m.L.length alc,.slice ap m.P.length apc,.slice ar m.R.length arc,.slice af m.F.length afc]) 36))
 have hsz:W0.heap.size=w.heap.size+1:=by rw[<- hW0];simp
 rw[hW0]at HK HB
 have HO:Hi (W0.ownsRow (w.heap.size+1) 9 1 J7 0 []):=h_ (World.ownsRow_nil _ _ _ _)
 have HA:=h_ ha
 obtain⟨n,hn⟩:=Nq m.R.length
 rw[hn]at HK hl hW0⊢
 have HN:=h_ hn
 obtain⟨y0,y1,y2,y3⟩:=quad HK.u
 clear ha hn
 go_enter Tryz.func53,Tryz.ntmps53
 go_wp2_with fail
 try rw[hW0]
 clear hW0 y0 y1 y2 y3
 go_loopw [3,9] (fun v i wr=>∃k:Nat,k<=n/\i=J6 k/\wr.ownsRow (w.heap.size+1) 9 1 v k (stV ((rNames m).take k))/\Below (w.heap.size+1) W0 wr) (fun _ i _=>n - (intOf i).toNat)
 case atStart=>exact⟨0,nZ _,rfl,HO.u,bR _ _⟩
 case round =>
  clear HO;obtain⟨k,hk,rfl,hO,hb⟩:=hrel;have hbw:=HB.u.trans (hb.mono (by omega));have hws:=hb.size;have HAr:=h_ (HA.u.mono hbw);have HBr:=h_ hb;have HBw:=h_ hbw;have HO:=h_ hO;clear hb hbw hO;by_cases hlt:k<n
  . have hlt':(k:Int)<n:=by omega
    have hkl:k<m.R.length:=(by have:=HN.u;omega);obtain⟨b,o,rfl,-,z0,z1⟩:=HAr.u k hkl;have HT:Hi ((rNames m).take (k+1)=(rNames m).take k++[m.R[k].nm]):=h_ (by
     have hk2:k<(rNames m).length:=(by simpa [rNames] using hkl);rw[Ym hk2];simp[rNames])
    generalize m.R[k]=u at *;have HKf:=h_ (Blk.new wr 85 #[.string u.nm,J6 u.lb]);have HBf:=h_ (HBr.u.alloc (by omega) (.cells #[.string u.nm,J6 u.lb] 85));have HO1:=h_ (HO.u.alloc (.cells #[.string u.nm,J6 u.lb] 85));obtain⟨Wd,hWd⟩:=Nq (wr.alloc (.cells #[.string u.nm,J6 u.lb] 85));have hdz:wr.heap.size+1<=Wd.heap.size:=(by rw[<- hWd];simp);rw[hWd]at HKf HBf HO1;obtain⟨x0,x1⟩:=duo HKf.u;obtain⟨i0,hi,hz0,hz1,hz2⟩:=info_parts qgp;go_wp2_with (at_builtin;refine wpList_append_own _ rfl _ _ 22 rfl (w.heap.size+1) 9 i0 _ 1 16 Tryz.underlying22 hi hz0 hz1 hz2 rfl (by omega) _ _ _ rfl (HO1.u.alloc _) ⟨Wd.heap.size,0,none⟩ 1 1 [.string u.nm] rfl rfl (qfl Wd 9 _) (by simp[Value.oneCell']) (by unfold maxLen;omega) (by omega) (by simp;omega) ?_);intro v' w3 ho' hgr' _;have hB2:=(HBf.u.alloc (by omega) (.cells #[.string u.nm] 9)).grown hgr' (by simp;omega) (fun q' e=>qa0 HO1.u e);have HO2:Hi (w3.ownsRow (w.heap.size+1) 9 1 v' (k+1) (stV ((rNames m).take (k+1)))):=h_ (by rw[HT.u,qit];exact ho');have HB2:=h_ hB2;clear ho' hgr' hB2 hi hz0 hz1 hz2;go_wp2_with fail;go_roundw
    case rel=>first | exact⟨k+1,by omega,by go_num,HO2.u,HB2.u⟩ | ((repeat apply Exists.intro);exact⟨⟨k+1,by omega,by go_num,HO2.u,HB2.u⟩,rfl⟩)
    case measure=>simp[intOf];omega
  . obtain rfl:k=n:=by omega
    have hlt':¬ (k:Int)<(k:Int):=(by omega);have hO:=HO.u;rw[Yz (by simp[rNames];have:=HN.u;omega)]at hO;obtain⟨a1,c1,rfl,-,hS⟩:=q4x hO;have HS:=h_ hS;clear hO hS HO;go_wp2_with fail;go_ret
    first | exact⟨_,⟨_,rfl⟩,HS.u,HBw.u⟩ | exact⟨_,_,rfl,HS.u,HBw.u⟩
theorem q1k (m:Fm)(A:MA)(w:World)(hl:m.F.length<=200)(ha:Flds w A.f m.F A.fa) :
 Calls Tryz.prog 115 #[mV m A] w fun r w'=>∃a0 c0,r=.returned (.slice a0 m.F.length c0)/\Strs w' a0 (fNames m)/\Below w.heap.size w w':=by
 obtain⟨al,alc,ap,apc,ar,arc,af,afc,afa⟩:=A
 unfold mV
 dsimp only at ha⊢
 have HK:=h_ (Blk.new w 36 (#[.slice al m.L.length alc,.slice ap m.P.length apc,.slice ar m.R.length arc,.slice af m.F.length afc]))
 have HB:=h_ ((bR w.heap.size w).alloc (nR _) (.cells (#[.slice al m.L.length alc,.slice ap m.P.length apc,.slice ar m.R.length arc,.slice af m.F.length afc]) 36))
 obtain⟨W0,hW0⟩:=Nq (w.alloc (.cells (#[.slice al m.L.length alc,.slice ap m.P.length apc,.slice ar m.R.length arc,.slice af m.F.length afc]) 36))
 have hsz:W0.heap.size=w.heap.size+1:=by rw[<- hW0];simp
 rw[hW0]at HK HB
 have HO:Hi (W0.ownsRow (w.heap.size+1) 9 1 J7 0 []):=h_ (World.ownsRow_nil _ _ _ _)
 have HA:=h_ ha
 obtain⟨n,hn⟩:=Nq m.F.length
 rw[hn]at HK hl hW0⊢
 have HN:=h_ hn
 obtain⟨y0,y1,y2,y3⟩:=quad HK.u
 clear ha hn
 go_enter Tryz.func115,Tryz.ntmps115
 go_wp2_with fail
 try rw[hW0]
 clear hW0 y0 y1 y2 y3
 go_loopw [3,9] (fun v i wr=>∃k:Nat,k<=n/\i=J6 k/\wr.ownsRow (w.heap.size+1) 9 1 v k (stV ((fNames m).take k))/\Below (w.heap.size+1) W0 wr) (fun _ i _=>n - (intOf i).toNat)
 case atStart=>exact⟨0,nZ _,rfl,HO.u,bR _ _⟩
 case round =>
  clear HO;obtain⟨k,hk,rfl,hO,hb⟩:=hrel;have hbw:=HB.u.trans (hb.mono (by omega));have hws:=hb.size;have HAr:=h_ (HA.u.mono hbw);have HBr:=h_ hb;have HBw:=h_ hbw;have HO:=h_ hO;clear hb hbw hO;by_cases hlt:k<n
  . have hlt':(k:Int)<n:=by omega
    have hkl:k<m.F.length:=(by have:=HN.u;omega);obtain⟨b,o,rfl,⟨-,z0,z1,z2,z3,z4,z5,z6,z7,z8⟩,-⟩:=HAr.u k hkl;have HT:Hi ((fNames m).take (k+1)=(fNames m).take k++[m.F[k].nm]):=h_ (by
     have hk2:k<(fNames m).length:=(by simpa [fNames] using hkl);rw[Ym hk2];simp[fNames])
    generalize m.F[k]=u at *;generalize afa k=fa at *;obtain⟨ub,ubc,ui',uic,uh,uhc,uv,uvc,uu,uuc⟩:=fa;dsimp only at z3 z4 z5 z6 z8;have HKf:=h_ (Blk.new wr 88 (Ja u ub ubc ui' uic uh uhc uv uvc uu uuc));have HBf:=h_ (HBr.u.alloc (by omega) (.cells (Ja u ub ubc ui' uic uh uhc uv uvc uu uuc) 88));have HO1:=h_ (HO.u.alloc (.cells (Ja u ub ubc ui' uic uh uhc uv uvc uu uuc) 88));obtain⟨Wd,hWd⟩:=Nq (wr.alloc (.cells (Ja u ub ubc ui' uic uh uhc uv uvc uu uuc) 88));have hdz:wr.heap.size+1<=Wd.heap.size:=(by rw[<- hWd];simp);rw[hWd]at HKf HBf HO1;obtain⟨x0,x1,x2,x3,x4,x5,x6,x7,x8⟩:=nine HKf.u;obtain⟨i0,hi,hz0,hz1,hz2⟩:=info_parts qgp;go_wp2_with (at_builtin;refine wpList_append_own _ rfl _ _ 22 rfl (w.heap.size+1) 9 i0 _ 1 16 Tryz.underlying22 hi hz0 hz1 hz2 rfl (by omega) _ _ _ rfl (HO1.u.alloc _) ⟨Wd.heap.size,0,none⟩ 1 1 [.string u.nm] rfl rfl (qfl Wd 9 _) (by simp[Value.oneCell']) (by unfold maxLen;omega) (by omega) (by simp;omega) ?_);intro v' w3 ho' hgr' _;have hB2:=(HBf.u.alloc (by omega) (.cells #[.string u.nm] 9)).grown hgr' (by simp;omega) (fun q' e=>qa0 HO1.u e);have HO2:Hi (w3.ownsRow (w.heap.size+1) 9 1 v' (k+1) (stV ((fNames m).take (k+1)))):=h_ (by rw[HT.u,qit];exact ho');have HB2:=h_ hB2;clear ho' hgr' hB2 hi hz0 hz1 hz2;go_wp2_with fail;go_roundw
    case rel=>first | exact⟨k+1,by omega,by go_num,HO2.u,HB2.u⟩ | ((repeat apply Exists.intro);exact⟨⟨k+1,by omega,by go_num,HO2.u,HB2.u⟩,rfl⟩)
    case measure=>simp[intOf];omega
  . obtain rfl:k=n:=by omega
    have hlt':¬ (k:Int)<(k:Int):=(by omega);have hO:=HO.u;rw[Yz (by simp[fNames];have:=HN.u;omega)]at hO;obtain⟨a1,c1,rfl,-,hS⟩:=q4x hO;have HS:=h_ hS;clear hO hS HO;go_wp2_with fail;go_ret
    first | exact⟨_,⟨_,rfl⟩,HS.u,HBw.u⟩ | exact⟨_,_,rfl,HS.u,HBw.u⟩
theorem q52 (e:Nat->Nx)(k A:Nat):tot ((pst e k).take A).reverse<=tot (pst e k):=by rw[q7p];exact qjb _ _
theorem q6v (e:Nat->Nx)(k A:Nat):mx ((pst e k).take A).reverse<=k:=by rw[q9t];exact q9u e k A
theorem qfm (w:World)(p:Ph):∀(j:Nat) (u:Value),(phV [p])[j]? = some u->(w.alloc (.cells #[.string p.t,J6 p.lv,J6 p.d] 325)).cell? ((⟨w.heap.size,0,none⟩:Addr).add j)=some u:=fun j u h=>by
 have hb:=Blk.new w 325 #[.string p.t,J6 p.lv,J6 p.d]
 match j,h with
 | 0,h=>simp[phV]at h;subst h;exact hb.cell 0
 | 1,h=>simp[phV]at h;subst h;exact hb.cell 1
 | 2,h=>simp[phV]at h;subst h;exact hb.cell 2
theorem q34 {P:Program}{a:Act}{o:Oper}{w w':World}{s x:Operand}{t:TypeId}{v u v':Value}(ho:o.op=.call { callee:=.builtin .append,args:=#[s,x],argTypes:=#[t,t] })(hs:a.eval s=v)(hx:a.eval x=u)(hr:(Builtin.append_ #[t,t] o.type #[v,u]).run P w=.ok v' w'):(execOp a.eval o).run P w=.ok (.value v') w':=by
 unfold execOp
 simp only[ho,resolve,invoke,builtin,Sem.run_bind,Sem.run_pure,Result.andThen_ok,List.map_toArray,Z5,Oc,hs,hx,hr]
theorem q76 (a:Option Addr)(m c:Nat)(e:Nat->Nx)(w:World)(hm:m<=9223372036854775807)(ha:Nods w a m e)(hf:∀k,k<m->Fit (e k))(hw:Wrds w)(hp:Pow w) :
 Calls Tryz.prog 283 #[.slice a m c] w fun r w'=>r=.returned (.tuple #[.string (if vxB e m then (top e m).t else ⟨#[]⟩),.bool (vxB e m)])/\Below w.heap.size w w':=by
 by_cases h2:1000<m
 . rw[vxB_no fun h=>by have:=h.2.1;omega]
   go_enter Tryz.func283,Tryz.ntmps283;go_wp2_with fail
   go_ret2
   exact⟨rfl,bR _ _⟩
 have HA:=h_ ha;have HF:=h_ hf;have HW:=h_ hw;have HP:=h_ hp
 obtain⟨r,hr⟩:=Nq (vxB e m)
 obtain⟨t,ht⟩:=Nq ((if vxB e m then (top e m).t else ⟨#[]⟩))
 rw[ht,hr]
 have HR:=h_ hr
 have HN:Hi (¬ vEx e m->r=false/\t=⟨#[]⟩):=h_ fun h=>by rw[<- hr,<- ht,vxB_no h];exact⟨rfl,rfl⟩
 have HY:Hi (vEx e m->r=true/\t=(top e m).t):=h_ fun h=>by rw[<- hr,<- ht,(qog e m).2 h];exact⟨rfl,rfl⟩
 clear ha hf hr ht hw hp
 go_enter Tryz.func283,Tryz.ntmps283
 go_wp2_with fail
 obtain⟨B,hB⟩:=Nq w.heap.size
 go_loopw [4,6,7,8,14] (fun v _ _ _ i wr=>∃k:Nat,k<=m/\i=J6 k/\StkV wr B v (pst e k).reverse/\okAll e k/\stkOk e k/\(∀j,1<=j->j<=k->(top e j).d<=64/\(top e j).t.size<=4000)/\Below B w wr) (fun _ _ _ _ i _=>m - (intOf i).toNat)
 case atStart=>exact⟨0,nZ _,rfl,⟨rfl,.inl ⟨rfl,rfl⟩⟩,fun k hk=>absurd hk (nL _),fun k hk=>absurd hk (nL _),fun j h1 h0=>by omega,by rw[<- hB];exact bR _ _⟩
 case round =>
  obtain⟨k,hk,rfl,hst,hok,hso,hlim,hb⟩:=hrel;have HST:=h_ hst;have HOK:=h_ hok;have HSO:=h_ hso;have HLM:=h_ hlim;have HB:=h_ hb;have HV:=h_ (HA.u.mono (hb.mono (by omega)));have HWr:=h_ (HW.u.mono (hb.mono (by omega)));have HPr:=h_ (HP.u.mono (hb.mono (by omega)));have hBw:=hb.size;clear hst hok hso hlim hb;have hlr:(pst e k).reverse.length=(stk e k).length:=by rw[Zl,qn9]
  obtain⟨sa,cap,rfl,hcap,hnone,hsome⟩:=HST.u.shape;rw[hlr]at hcap;rw[hlr];have HSH:Hi (StkV wr B (.slice sa (stk e k).length cap) (pst e k).reverse):=h_ (by have:=HST.u;rw[hlr]at this;exact this);have HSM:=h_ hsome;clear HST hnone hsome hlr;have hsl:=qnx e k;obtain⟨L,hL⟩:=Nq ((stk e k).length);rw[hL]at HSH hcap hsl⊢;have HL:=h_ hL;clear hL;by_cases hlt:k<m
  . have hlt':(k:Int)<m:=by omega
    obtain⟨b,o,rfl,-,c0,c1,c2,c3,c4⟩:=HV.u k hlt;have HK:=h_ (Blk.new wr 172 #[J6 (e k).op,J6 (e k).v.k,J6 (e k).v.n,.string (e k).v.s,.string (e k).nm]);have HBn:=h_ ((bR wr.heap.size wr).alloc (nR _) (.cells #[J6 (e k).op,J6 (e k).v.k,J6 (e k).v.n,.string (e k).v.s,.string (e k).nm] 172));obtain⟨Wn,hWn⟩:=Nq (wr.alloc (.cells #[J6 (e k).op,J6 (e k).v.k,J6 (e k).v.n,.string (e k).v.s,.string (e k).nm] 172));rw[hWn]at HK HBn;obtain⟨y0,y1,y2,y3,y4⟩:=five HK.u;go_wp2_with fail
    try rw[hWn]
    refine(q92 (e k) _ (HF.u k hlt)).mono ?_;rintro x w1 ⟨rfl,hb⟩;replace HK:=mB HK hb;replace HBn:=mT HBn hb;clear hb c0 c1 c2 c3 c4 y0 y1 y2 y3 y4 hWn;obtain⟨y0,y1,y2,y3,y4⟩:=five HK.u;cases hg:okNode (e k)
    . have HX:=h_ (HN.u fun h=>by have:=h.2.2.1 k hlt;rw[hg]at this;cases this)
      go_wp2_with fail
      go_ret2
      exact⟨by rw[HX.u.1,HX.u.2];rfl,by rw[hB];exact HB.u.trans (HBn.u.mono (by omega))⟩
    have HOK2:Hi (okAll e (k+1)):=h_ fun j hj=>by
     by_cases ej:j=k
     . subst ej;exact hg
     . exact HOK.u j (by omega)
    have HG:=h_ hg;clear hg;go_wp2_with fail;refine(q0f (e k) _).mono ?_;rintro x w2 ⟨rfl,hb⟩;replace HK:=mB HK hb;replace HBn:=mT HBn hb;clear hb y0 y1 y2 y3 y4;obtain⟨y0,y1,y2,y3,y4⟩:=five HK.u;have har:=arn_le (e k);obtain⟨A,hA⟩:=Nq (arn (e k));by_cases hgt:L<A
    . have hgt':(L:Int)<A:=by omega
      have HX:=h_ (HN.u fun h=>by have:=h.2.2.2.1 k hlt;rw[HL.u,hA]at this;omega);rw[hA];clear hA;go_wp2_with fail
      go_ret2
      exact⟨by rw[HX.u.1,HX.u.2];rfl,by rw[hB];exact HB.u.trans (HBn.u.mono (by omega))⟩
    have hgt':¬ (L:Int)<A:=(by omega);have HSO2:Hi (stkOk e (k+1)):=h_ fun j hj=>by
     by_cases ej:j=k
     . subst ej;rw[HL.u,hA];omega
     . exact HSO.u j (by omega)
    rw[hA]at har⊢;have HAe:=h_ hA;clear hA;go_wp2_with fail;refine(show Calls Tryz.prog 288 #[nv (e k)] w2 fun r w'=>r=.returned (J6 (A:Int))/\Below w2.heap.size w2 w' from by rw[<- HAe.u];exact q0f (e k) _).mono ?_;rintro x w3 ⟨rfl,hb⟩;replace HK:=mB HK hb;replace HBn:=mT HBn hb;clear hb y0 y1 y2 y3 y4;obtain⟨y0,y1,y2,y3,y4⟩:=five HK.u;have hwL:wrap64 ((L:Int) - (A:Int))=((L - A:Nat):Int):=(by rw[q55 (by omega) (by omega)];omega);obtain⟨R,hR⟩:=Nq (L - A);rw[hR]at hwL;have hLA:(L:Int) - (A:Int)=(R:Int):=(by omega);have HLR:Hi (L - R=A):=h_ (by omega);have hR1:R<=L:=(by omega);have HAr:Hi (((pst e k).take A).reverse=(pst e k).reverse.drop R):=h_ (by
     have h1:(pst e k).length=L:=(by rw[qn9];exact HL.u);rw[<- q0h (pst e k) A (by omega),h1,hR])
    have HRr:Hi (((pst e k).drop A).reverse=(pst e k).reverse.take R):=h_ (by
     have h1:(pst e k).length=L:=(by rw[qn9];exact HL.u);rw[<- q0i (pst e k) A (by omega),h1,hR])
    have HTP:Hi (top e (k+1)=phr (e k) ((pst e k).take A).reverse):=h_ (by rw[qj9,HAe.u]);have HPS:Hi ((pst e (k+1)).reverse=(pst e k).reverse.take R++[top e (k+1)]):=h_ (by
     rw[show pst e (k+1)=top e (k+1) :: (pst e k).drop (arn (e k)) from rfl,Ow,HAe.u,HRr.u])
    have HTT:Hi (tot ((pst e k).take A).reverse<=2000000/\mx ((pst e k).take A).reverse<=1000):=h_ (by
     have h1:=q52 e k A;have h2:=(qo8 e k HSO.u HOK.u (fun j hj=>(HF.u j (by omega)).2.2.2)).2;have h3:=q6v e k A;omega)
    have HLA:Hi (((pst e k).take A).reverse.length=arn (e k)):=h_ (by rw[Zl,Za,qn9,HL.u,HAe.u];omega);have HSW:=h_ (HSH.u.mono HBn.u);have HWw:=h_ (HWr.u.mono HBn.u);have HPw:=h_ (HPr.u.mono HBn.u);have HBw:=h_ (HB.u.trans (HBn.u.mono (show B<=wr.heap.size by omega)));obtain⟨ao,hao⟩:∃ao,(if cap=R then sa else sa.map (·.add (R*3)))=ao:=⟨_,rfl⟩;have HPh:Hi (Phs w3 ao ((pst e k).take A).reverse):=h_ (by
     have h1:(pst e k).reverse.length=L:=(by rw[Zl,qn9];exact HL.u);have h2:=HSW.u;rw[<- h1]at h2;have h3:=h2.from R (by omega);rw[hao]at h3;rw[HAr.u];exact h3)
    have hNs:=HBn.u.size;have hNw:wr.heap.size<w3.heap.size:=HK.u.lt;have HNX:Hi (∀X,wr.heap.size<=X->(Value.slice sa L cap).ownBlock≠some X):=h_ fun X hX h=>by
     cases sa with
     | none=>cases h
     | some ad=>obtain⟨g,o',f⟩:=ad;have h:g=X:=(by simpa [Value.ownBlock] using h);have:=(HSM.u g o' f rfl).2.2.2;omega
    have hBN:B<=wr.heap.size:=(by omega);obtain⟨N,hN⟩:=Nq wr.heap.size;rw[hN]at hBN HK HNX hNw y0 y1 y2 y3 y4⊢;clear hN hR HAr HRr HSH HBn HB HWr HPr HV HSM HA hNs hBw;go_wp2_with fail;refine wp_region_held_drew (S:=fun w'=>w'.cell? ⟨N,0,none⟩=some (J6 (e k).op)/\w'.cell? ⟨N,1,none⟩=some (J6 (e k).v.k)/\w'.cell? ⟨N,2,none⟩=some (J6 (e k).v.n)/\w'.cell? ⟨N,3,none⟩=some (.string (e k).v.s)/\w'.cell? ⟨N,4,none⟩=some (.string (e k).nm)) (by kernel_rfl) ⟨y0,y1,y2,y3,y4⟩ (fun zz=>?_);clear y0 y1 y2 y3 y4;refine tj 0 33 (.agg #[J6 (e k).op,J6 (e k).v.k,J6 (e k).v.n,.string (e k).v.s,.string (e k).nm]) zz ?_;refine tj 1 34 (.slice sa L cap) zz ?_;refine tj 2 35 (J6 (R:Int)) zz ?_;refine tj 3 36 (.slice ao A (cap - R)) zz ?_ (hy:=fun w hS=>by have hLR:=HLR.u;simp[execOp,go_sem, *]);simp only[sX,sY,sZ];have hcall:∀W:World,Phs W ao ((pst e k).take A).reverse->Wrds W->Pow W->Calls Tryz.prog 289 #[.agg #[J6 (e k).op,J6 (e k).v.k,J6 (e k).v.n,.string (e k).v.s,.string (e k).nm],.slice ao A (cap - R)] W fun r w'=>r=.returned (pv (top e (k+1)))/\Below W.heap.size W w':=fun W h1 h2 h3=>by
     rw[HTP.u,<- HAe.u];rw[<- HAe.u]at h1;have hh:=q4l (e k) ao (cap - R) ((pst e k).take (arn (e k))).reverse W HG.u (HF.u k hlt) (by rw[HAe.u];exact HLA.u.trans HAe.u) h1 (by rw[HAe.u];exact HTT.u.1) (by rw[HAe.u];exact HTT.u.2) h2 h3;exact hh
    have HC:=h_ hcall;clear hcall HTP HLA HTT;obtain⟨p,hp⟩:=Nq (top e (k+1));rw[hp]at HC HPS;have HTE:=h_ hp;clear hp;have HD0:Hi (Below w3.heap.size w3 w3.drew):=h_ ((bR _ _).drew);refine wpAnyH_ready (rs:=[4,5]) (by kernel_rfl) (by simp) (consCall (f:=289) (args:=#[.agg #[J6 (e k).op,J6 (e k).v.k,J6 (e k).v.n,.string (e k).v.s,.string (e k).nm],.slice ao A (cap - R)]) (R:=fun r wz=>r=pv p/\Below w3.heap.size w3 wz) 37 rfl rfl (by rfl) ?hrun1 ((HC.u _ (HPh.u.mono HD0.u) (HWw.u.mono HD0.u) (HPw.u.mono HD0.u)).mono fun e w6 ⟨he,hb⟩=>⟨_,he,rfl,q29 hb⟩) ?pB (consRun (v:=J9 w3.heap.size 0) (w':=w3.drew.alloc (.cells #[J8,J6 0,J6 0] 325)) 8 rfl rfl (by rfl) ?hrun2 ?hS2 ?pA AllReadyH.nil))
    case hrun1=>simp[execOp,go_sem]
    case hrun2=>simp[execOp,go_sem]
    case hS2 =>
     obtain⟨z0,z1,z2,z3,z4⟩:=five ((HK.u.mono HD0.u HK.u.lt).alloc (.cells #[J8,J6 0,J6 0] 325));exact⟨z0,z1,z2,z3,z4⟩
    case' pB =>
     rintro r3 W4 ⟨rfl,hb⟩;have hK4:=HK.u.mono hb HK.u.lt;have hS4:=HSW.u.mono hb;have hB4:=HBw.u.trans (hb.mono (by have:=HBw.u.size;omega));have hN4:w3.heap.size<=W4.heap.size:=hb.size;clear hb zz;obtain⟨z0,z1,z2,z3,z4⟩:=five hK4;refine⟨⟨z0,z1,z2,z3,z4⟩,?_⟩;clear z0 z1 z2 z3 z4;simp only[sX,sY,sZ];have hK5:=hK4.alloc (.cells #[J8,J6 0,J6 0] 325);have hX5:=Blk.new W4 325 #[J8,J6 0,J6 0];have hS5:=hS4.mono ((bR W4.heap.size W4).alloc (nR _) (.cells #[J8,J6 0,J6 0] 325));have hB5:=hB4.alloc (by have:=hB4.size;omega) (.cells #[J8,J6 0,J6 0] 325);obtain⟨z0,z1,z2,z3,z4⟩:=five hK5;refine wpAnyH_ready (rs:=[5]) (by kernel_rfl) (by simp) (consRun (v:=J9 W4.heap.size 0) (w':=W4.alloc (.cells #[J8,J6 0,J6 0] 325)) 8 rfl rfl (by rfl) ?hrun3 ⟨z0,z1,z2,z3,z4⟩ ?pB2 AllReadyH.nil)
     case hrun3=>simp[execOp,go_sem]
     simp only[sX,sY,sZ];clear z0 z1 z2 z3 z4 hK4 hS4 hB4;obtain⟨X,hX⟩:=Nq W4.heap.size;obtain⟨W6,hW6⟩:=Nq (W4.alloc (.cells #[J8,J6 0,J6 0] 325));rw[hW6]at hK5 hX5 hS5 hB5⊢;rw[hX]at hX5 hN4⊢;clear hW6 hX;have hNX:N<X:=by omega
    case' pA =>
     simp only[sX,sY,sZ];have hbA:Below w3.heap.size w3 (w3.drew.alloc (.cells #[J8,J6 0,J6 0] 325)):=q29 ((bR w3.heap.size w3.drew).alloc (nR _) _);have hX4:=Blk.new w3.drew 325 #[J8,J6 0,J6 0];obtain⟨W5,hW5⟩:=Nq (w3.drew.alloc (.cells #[J8,J6 0,J6 0] 325));rw[hW5]at hbA hX4⊢;replace hX4:Blk W5 w3.heap.size 325 [J8,J6 0,J6 0]:=hX4;clear hW5 zz;refine wpAnyH_ready (rs:=[4]) (by kernel_rfl) (by simp) (consCall (f:=289) (args:=#[.agg #[J6 (e k).op,J6 (e k).v.k,J6 (e k).v.n,.string (e k).v.s,.string (e k).nm],.slice ao A (cap - R)]) (R:=fun r wz=>r=pv p/\Below W5.heap.size W5 wz) 37 rfl rfl (by rfl) ?hrun4 ((HC.u _ (HPh.u.mono hbA) (HWw.u.mono hbA) (HPw.u.mono hbA)).mono fun e w6 ⟨he,hb⟩=>⟨_,he,rfl,hb⟩) ?pA2 AllReadyH.nil)
     case hrun4=>simp[execOp,go_sem]
     rintro r3 W6 ⟨rfl,hb⟩;have hK5:=(HK.u.mono hbA HK.u.lt).mono hb (HK.u.mono hbA HK.u.lt).lt;have hX5:=hX4.mono hb hX4.lt;have hS5:=(HSW.u.mono hbA).mono hb;have hBA:=HBw.u.trans (hbA.mono (by have:=HBw.u.size;omega));have hB5:=hBA.trans (hb.mono (by have:=hBA.size;omega));obtain⟨z0,z1,z2,z3,z4⟩:=five hK5;refine⟨⟨z0,z1,z2,z3,z4⟩,?_⟩;simp only[sX,sY,sZ];clear z0 z1 z2 z3 z4 hb hbA hX4 hBA;have hN4:w3.heap.size<=w3.heap.size:=nR _;obtain⟨X,hX⟩:=Nq w3.heap.size;rw[hX]at hX5 hN4 hNw⊢;clear hX;have hNX:N<X:=by omega
    all_goals
     clear HPh HWw HPw HC HD0 HK HSW HBw;obtain⟨z0,z1,z2,z3,z4⟩:=five hK5;obtain⟨r0,r1,r2⟩:=three hX5;have f0:=hX5.free 0;have f1:=hX5.free 1;have f2:=hX5.free 2;have far:∀(w':World) (j i:Nat) (u:Value),(w'.setCell ⟨X,j,none⟩ u).cell? ⟨N,i,none⟩=w'.cell? ⟨N,i,none⟩:=fun w' j i u=>World.cell?_of_block (w:=w') (heap_setCell_other w' ⟨X,j,none⟩ N u (by simp;omega));unfold pv;refine storeY (i:=6) (w':=(((W6.setCell ⟨X,0,none⟩ (.string p.t)).setCell ⟨X,1,none⟩ (J6 p.lv)).setCell ⟨X,2,none⟩ (J6 p.d))) rfl (by rfl) (by kernel_rfl) rfl (by simp[execOp,go_sem,r0,r1,r2,f0,f1,f2]) rfl ⟨by rw[far,far,far];exact z0,by rw[far,far,far];exact z1,by rw[far,far,far];exact z2,by rw[far,far,far];exact z3,by rw[far,far,far];exact z4⟩ ?_;refine wpAnyH_done (by kernel_rfl) ?_ _;have hXne:=HNX.u X (by omega);have hX9:=(((hX5.set 0 (.string p.t)).set 1 (J6 p.lv)).set 2 (J6 p.d));have hS9:=((hS5.other hXne 0 (.string p.t)).other hXne 1 (J6 p.lv)).other hXne 2 (J6 p.d);have hB9:=(((hB5.setCell (p:=⟨X,0,none⟩) (show B<=X by omega) (.string p.t)).setCell (p:=⟨X,1,none⟩) (show B<=X by omega) (J6 p.lv)).setCell (p:=⟨X,2,none⟩) (show B<=X by omega) (J6 p.d));obtain⟨W9,hW9⟩:=Nq ((((W6.setCell ⟨X,0,none⟩ (.string p.t)).setCell ⟨X,1,none⟩ (J6 p.lv)).setCell ⟨X,2,none⟩ (J6 p.d)));rw[hW9]at hX9 hS9 hB9⊢;clear hW9 z0 z1 z2 z3 z4 r0 r1 r2 f0 f1 f2 far hK5 hX5 hS5 hB5;have HX9:=h_ hX9;have HS9:=h_ hS9;have HB9:=h_ hB9;obtain⟨r0,r1,r2⟩:=three hX9;clear hX9 hS9 hB9;by_cases hbad:64<p.d∨4000<p.t.size
     . have HX:=h_ (HN.u fun h=>by have:=h.part (fun j hj=>(HF.u j hj).2.2.2) (show 1<=k+1 by omega) (show k+1<=m by omega);rw[HTE.u]at this;omega)
       by_cases hd:64<p.d
       . have hd':(64:Int)<p.d:=by omega
         clear hbad hd;go_wp2_with fail
         go_ret2
         exact⟨by rw[HX.u.1,HX.u.2];rfl,by first | exact HB9.u | (rw[hB];exact HB9.u)⟩
       . have hd':¬ (64:Int)<p.d:=by omega
         have ht':(4000:Int)<p.t.size:=(by omega);clear hbad hd;go_wp2_with fail
         go_ret2
         exact⟨by rw[HX.u.1,HX.u.2];rfl,by first | exact HB9.u | (rw[hB];exact HB9.u)⟩
     have hd':¬ (64:Int)<p.d:=(by omega);have ht':¬ (4000:Int)<p.t.size:=(by omega);have HLM2:Hi (∀j,1<=j->j<=k+1->(top e j).d<=64/\(top e j).t.size<=4000):=h_ fun j h1 h2=>by
      by_cases ej:j=k+1
      . subst ej;rw[HTE.u];omega
      . exact HLM.u j h1 (by omega)
     clear hbad;go_wp2_with fail;refine wp_region_held_drew (S:=fun W'=>W'.cell? ⟨X,0,none⟩=some (.string p.t)/\W'.cell? ⟨X,1,none⟩=some (J6 p.lv)/\W'.cell? ⟨X,2,none⟩=some (J6 p.d)) (by kernel_rfl) ⟨r0,r1,r2⟩ (fun zz=>?_);clear r0 r1 r2;refine tj 0 47 (.slice sa L cap) zz ?_;refine tj 1 48 (J6 (R:Int)) zz ?_;refine tj 2 49 (.slice sa R cap) zz ?_ (hy:=fun w hS=>by have hc2:(R:Int)<=cap:=(by omega);simp[execOp,go_sem, *]);refine tj 3 50 (.agg #[.string p.t,J6 p.lv,J6 p.d]) zz ?_;simp only[sX,sY,sZ];have hD:Below W9.heap.size W9 (W9.drew.alloc (.cells #[.string p.t,J6 p.lv,J6 p.d] 325)):=q29 ((bR W9.heap.size W9.drew).alloc (nR _) _);have hXX:=HX9.u.mono hD HX9.u.lt;obtain⟨r0,r1,r2⟩:=three hXX;refine wpAnyH_ready (rs:=[4]) (by kernel_rfl) (by simp) (consRun (v:=.slice (some ⟨W9.heap.size,0,none⟩) 1 1) (w':=W9.drew.alloc (.cells #[.string p.t,J6 p.lv,J6 p.d] 325)) 51 rfl rfl (by rfl) (by simp[execOp,go_sem]) ⟨r0,r1,r2⟩ ?_ AllReadyH.nil);simp only[sX,sY,sZ];have hlr:(pst e k).reverse.length=L:=(by rw[Zl,qn9];exact HL.u);have hup:(W9.drew.alloc (.cells #[.string p.t,J6 p.lv,J6 p.d] 325)).ownsRow B 325 3 (.slice sa R cap) R (phV ((pst e k).reverse.take R)):=by
      have h1:=HS9.u;rw[<- hlr]at h1;have h2:=(h1.upto R (by omega)).mono hD;unfold StkV at h2;rw[show((pst e k).reverse.take R).length=R by rw[Za];omega]at h2;exact h2
     have hnews:=qfm W9.drew p;obtain⟨i0,hi,hz0,hz1,hz2⟩:=info_parts qlg;obtain⟨v',w',hr,ho',hgr',-⟩:=run_append_own (P:=Tryz.prog) (W9.drew.alloc (.cells #[.string p.t,J6 p.lv,J6 p.d] 325)) B 323 323 325 i0 _ 3 32 Tryz.underlying323 hi hz0 hz1 hz2 rfl (by omega) (.slice sa R cap) R _ hup ⟨W9.heap.size,0,none⟩ 1 1 (phV [p]) rfl hnews (by simp[phV,Value.oneCell']) (by unfold maxLen;omega) (by omega) (by have:=HB9.u.size;simp;omega);have hX3:=hXX.grown hgr' (fun h=>hXne (by rw[show(Value.slice sa L cap).ownBlock=(Value.slice sa R cap).ownBlock by cases sa <;> rfl];exact h.symm));have HB3:Hi (Below B w w'):=h_ ((HB9.u.trans (hD.mono (by have:=HB9.u.size;omega))).grown hgr' (by have:=HB9.u.size;simp;omega) (fun q' hq=>qa0 hup hq));have HS3:Hi (StkV w' B v' (pst e (k+1)).reverse):=h_ (by
      unfold StkV;rw[HPS.u,qa7,Yd,show((pst e k).reverse.take R).length=R by rw[Za];omega];exact ho')
     obtain⟨q0,q1,q2⟩:=three hX3;refine wpAnyH_ready (rs:=[5]) (by kernel_rfl) (by simp) (consRun (v:=v') (w':=w') 52 rfl rfl (by rfl) (q34 rfl rfl rfl hr) ⟨q0,q1,q2⟩ ?_ AllReadyH.nil);simp only[sX,sY,sZ];replace zz:w'.cell? ⟨X,0,none⟩=some (.string p.t)/\w'.cell? ⟨X,1,none⟩=some (J6 p.lv)/\w'.cell? ⟨X,2,none⟩=some (J6 p.d):=⟨q0,q1,q2⟩;clear hr ho' hgr' hnews hup hX3 hXX hD hi hz0 hz1 hz2 r0 r1 r2 q0 q1 q2 hlr hao;refine tj 6 4 v' zz ?_;simp only[sX,sY,sZ];refine wpAnyH_done (by kernel_rfl) ?_ _;clear zz;go_wp2_with fail;go_roundw
     case rel=>first | exact⟨k+1,by omega,by go_num,HS3.u,HOK2.u,HSO2.u,HLM2.u,HB3.u⟩ | ((repeat apply Exists.intro);exact⟨⟨k+1,by omega,by go_num,HS3.u,HOK2.u,HSO2.u,HLM2.u,HB3.u⟩,rfl⟩)
     case measure=>simp[intOf];omega
  . obtain rfl:k=m:=by omega
    have hlt':¬ (k:Int)<(k:Int):=(by omega);by_cases h1:L=1
    . subst h1
      have hone:=HL.u;have hk1:1<=k:=(by omega);have hlm:=HLM.u k hk1 (nR _);have HX:=h_ (HY.u ⟨hk1,by omega,HOK.u,HSO.u,hone,hlm.1,hlm.2⟩);have hrev:(pst e k).reverse=[top e k]:=(by rw[qnb hone];rfl);have hS:=HSH.u;rw[hrev]at hS;obtain⟨a',cap',e1,-,hn',hs'⟩:=hS.shape;simp only[Yl,Yt,Value.slice.injEq,true_and]at e1;obtain⟨rfl,rfl⟩:=e1;cases sa with
      | none=>exact absurd (hn' rfl).1 (by simp)
      | some ad =>
       obtain⟨g,o',f⟩:=ad;obtain⟨rfl,rfl,-,-⟩:=hs' g o' f rfl;have z0:=StkV.cell (l:=[top e k]) hS 0 (by simp);simp only[phV,Zu,List.flatMap_nil,Ou,Yg]at z0;clear hS hs' hn' hone hrev;go_wp2_with fail
       go_ret2
       exact⟨by rw[HX.u.1,HX.u.2];rfl,by first | exact HB.u | (rw[hB];exact HB.u)⟩
    . have HX:=h_ (HN.u fun h=>h1 (by rw[<- HL.u];exact h.2.2.2.2.1))
      have h1':((L:Int) != 1)=true:=(by simp;omega);go_wp2_with fail
      go_ret2
      exact⟨by rw[HX.u.1,HX.u.2];rfl,by first | exact HB.u | (rw[hB];exact HB.u)⟩
structure Counts (m:Fm):Prop where
 l:m.L.length<=32
 p:m.P.length<=256
 r:m.R.length<=64
 f:m.F.length<=200
theorem q8z (x:Int)(n:Nat)(w:World):Calls Tryz.prog 180 (Js x n) w fun e w'=>e=.returned (.bool (inR n x))/\w'=w:=by
 by_cases h:0<=x/\x<n
 . rw[show inR n x=true from Yj h]
   exact q62 x n w h.1 h.2
 . rw[show inR n x=false from Yb h]
   exact q90 x n w (by omega)
theorem q0o (m:Fm)(A:MA)(w:World)(hf:FitM m)(hc:Counts m)(ha:MSl w m A) :
 Calls Tryz.prog 175 #[mV m A] w fun r w'=>r=.returned (.bool (namesOk m.L&&namesOk (rNames m)&&namesOk (fNames m)))/\Below w.heap.size w w':=by
 obtain⟨al,alc,ap,apc,ar,arc,af,afc,afa⟩:=A
 unfold mV
 dsimp only
 have HK:=h_ (Blk.new w 36 (#[.slice al m.L.length alc,.slice ap m.P.length apc,.slice ar m.R.length arc,.slice af m.F.length afc]))
 have HB:=h_ ((bR w.heap.size w).alloc (nR _) (.cells (#[.slice al m.L.length alc,.slice ap m.P.length apc,.slice ar m.R.length arc,.slice af m.F.length afc]) 36))
 obtain⟨W0,hW0⟩:=Nq (w.alloc (.cells (#[.slice al m.L.length alc,.slice ap m.P.length apc,.slice ar m.R.length arc,.slice af m.F.length afc]) 36))
 rw[hW0]at HK HB
 have HS:=h_ (ha.mono HB.u);have HF:=h_ hf;have HC:=h_ hc
 obtain⟨q,hq⟩:=Nq ((namesOk m.L&&namesOk (rNames m)&&namesOk (fNames m)))
 rw[hq]
 have HQ:=h_ hq
 clear ha hf hc hq
 obtain⟨y0,y1,y2,y3⟩:=quad HK.u
 go_enter Tryz.func175,Tryz.ntmps175
 go_wp2_with fail
 try rw[hW0]
 refine(q0l al alc m.L W0 (by have:=HC.u.l;omega) HF.u.l HS.u.l).mono ?_
 rintro r W2 ⟨rfl,hb1⟩
 replace HK:=mB HK hb1;replace HS:=h_ (HS.u.mono hb1);replace HB:=mT HB hb1
 clear hW0 y0 y1 y2 y3 hb1
 obtain⟨y0,y1,y2,y3⟩:=quad HK.u
 cases hn1:namesOk m.L
 . have HX:Hi (q=false):=h_ (by rw[<- HQ.u,hn1];rfl)
   go_wp2_with fail;go_ret;exact⟨qia HX.u.symm,HB.u⟩
 have HQ1:Hi ((namesOk (rNames m)&&namesOk (fNames m))=q):=h_ (by rw[<- HQ.u,hn1,Y5])
 clear hn1 HQ
 go_wp2_with fail
 refine(q31 m ⟨al,alc,ap,apc,ar,arc,af,afc,afa⟩ W2 HC.u.r HS.u.r).mono ?_
 rintro r W3 ⟨an2,cn2,rfl,hnames,hb1⟩
 have HNr:=h_ hnames
 replace HK:=mB HK hb1;replace HS:=h_ (HS.u.mono hb1);replace HB:=mT HB hb1
 clear y0 y1 y2 y3 hb1 hnames
 obtain⟨y0,y1,y2,y3⟩:=quad HK.u
 have HE1:Hi (m.R.length=(rNames m).length):=h_ (by simp[rNames]);have HE2:Hi (m.F.length=(fNames m).length):=h_ (by simp[fNames])
 go_wp2_with fail
 have hcr:=q0l an2 cn2 (rNames m) W3 (by rw[<- HE1.u];have:=HC.u.r;omega) (fun x hx=>by obtain⟨y,hy,rfl⟩:=Y3.1 hx;exact HF.u.r y hy) HNr.u
 rw[<- HE1.u]at hcr
 refine hcr.mono ?_
 rintro r W4 ⟨rfl,hb1⟩
 replace HK:=mB HK hb1;replace HS:=h_ (HS.u.mono hb1);replace HB:=mT HB hb1
 clear y0 y1 y2 y3 hb1 hcr HNr
 obtain⟨y0,y1,y2,y3⟩:=quad HK.u
 cases hn1:namesOk (rNames m)
 . have HX:Hi (q=false):=h_ (by rw[<- HQ1.u,hn1];rfl)
   go_wp2_with fail;go_ret;exact⟨qia HX.u.symm,HB.u⟩
 have HQ2:Hi (namesOk (fNames m)=q):=h_ (by rw[<- HQ1.u,hn1,Y5])
 clear hn1 HQ1
 go_wp2_with fail
 refine(q1k m ⟨al,alc,ap,apc,ar,arc,af,afc,afa⟩ W4 HC.u.f HS.u.f).mono ?_
 rintro r W5 ⟨an,cn,rfl,hnames,hb1⟩
 have HN:=h_ hnames
 replace HB:=mT HB hb1
 clear y0 y1 y2 y3 hb1 hnames
 go_wp2_with fail
 have hcr:=q0l an cn (fNames m) W5 (by rw[<- HE2.u];have:=HC.u.f;omega) (fun x hx=>by obtain⟨y,hy,rfl⟩:=Y3.1 hx;exact(HF.u.f y hy).nm) HN.u
 rw[<- HE2.u,HQ2.u]at hcr
 refine hcr.mono ?_
 rintro r W6 ⟨rfl,hb1⟩
 replace HB:=mT HB hb1
 clear hb1 hcr HN
 cases q
 all_goals
  go_wp2_with fail;go_ret;exact⟨rfl,HB.u⟩
theorem q0j (m:Fm)(A:MA)(w:World)(hc:Counts m)(ha:MSl w m A) :
 Calls Tryz.prog 176 #[mV m A] w fun r w'=>r=.returned (.bool ((m.P.all fun p=>inR m.L.length p.1&&inR m.L.length p.2)&&m.R.all fun r=>inR m.L.length r.lb))/\Below w.heap.size w w':=by
 obtain⟨al,alc,ap,apc,ar,arc,af,afc,afa⟩:=A
 unfold mV
 dsimp only
 have HK:=h_ (Blk.new w 36 (#[.slice al m.L.length alc,.slice ap m.P.length apc,.slice ar m.R.length arc,.slice af m.F.length afc]))
 have HB:=h_ ((bR w.heap.size w).alloc (nR _) (.cells (#[.slice al m.L.length alc,.slice ap m.P.length apc,.slice ar m.R.length arc,.slice af m.F.length afc]) 36))
 obtain⟨W0,hW0⟩:=Nq (w.alloc (.cells (#[.slice al m.L.length alc,.slice ap m.P.length apc,.slice ar m.R.length arc,.slice af m.F.length afc]) 36))
 rw[hW0]at HK HB
 have HS:=h_ (ha.mono HB.u)
 have hl:=hc.l;have hp:=hc.p;have hr:=hc.r
 obtain⟨q,hq⟩:=Nq (((m.P.all fun p=>inR m.L.length p.1&&inR m.L.length p.2)&&m.R.all fun r=>inR m.L.length r.lb))
 rw[hq]
 have HQ:=h_ hq
 clear ha hc hq
 obtain⟨y0,y1,y2,y3⟩:=quad HK.u
 go_enter Tryz.func176,Tryz.ntmps176
 go_wp2_with fail
 try rw[hW0]
 clear hW0 y0 y1 y2 y3
 go_loopw [14] (fun i wr=>∃k:Nat,k<=m.P.length/\i=J6 k/\(∀j (h:j<m.P.length),j<k->inR m.L.length m.P[j].1=true/\inR m.L.length m.P[j].2=true)/\Below W0.heap.size W0 wr) (fun i _=>m.P.length - (intOf i).toNat)
 case atStart=>exact⟨0,nZ _,rfl,fun j _ hj=>absurd hj (nL _),bR _ _⟩
 case round =>
  obtain⟨k,hk,rfl,hall,hb⟩:=hrel;have HL:=h_ hall;have HB1:=h_ hb;have HSr:=h_ (HS.u.mono hb);clear hall hb;by_cases hlt:k<m.P.length
  . have hlt':(k:Int)<m.P.length:=by omega
    obtain⟨pb,po,rfl,-,z0,z1⟩:=HSr.u.p k hlt;have HM1:Hi (inR m.L.length m.P[k].1=false∨inR m.L.length m.P[k].2=false->q=false):=h_ fun h=>by
     rw[<- HQ.u,show(m.P.all fun p=>inR m.L.length p.1&&inR m.L.length p.2)=false from Vj.2 ⟨m.P[k],Ye hlt,by rcases h with h | h <;> simp[h]⟩];rfl
    have HL2:Hi (inR m.L.length m.P[k].1=true->inR m.L.length m.P[k].2=true->∀j (h:j<m.P.length),j<k+1->inR m.L.length m.P[j].1=true/\inR m.L.length m.P[j].2=true):=h_ fun g1 g2 j h hj=>by
     by_cases ej:j=k
     . subst ej;exact⟨g1,g2⟩
     . exact HL.u j h (by omega)
    have HBf:=h_ (HB1.u.alloc HB1.u.size (.cells (Js m.P[k].1 m.P[k].2) 95));have HKf:=h_ (Blk.new wr 95 (Js m.P[k].1 m.P[k].2));generalize m.P[k]=u at *;obtain⟨x1,x2⟩:=u;dsimp only at *;obtain⟨Wd,hWd⟩:=Nq (wr.alloc (.cells (Js x1 x2) 95));rw[hWd]at HKf HBf;obtain⟨v0,v1⟩:=duo HKf.u;have HC1:=h_ (q8z x1 m.L.length Wd);have HC2:=h_ (q8z x2 m.L.length Wd);generalize inR m.L.length x1=g1 at *;generalize inR m.L.length x2=g2 at *;cases g1
    . have HX:=h_ (HM1.u (.inl rfl))
      go_wp2_with fail
      try rw[hWd]
      refine HC1.u.mono ?_;rintro e w1 ⟨rfl,hw⟩;replace hw:=hw.symm;subst hw;clear hWd;go_wp2_with fail;go_ret;exact⟨qia HX.u.symm,HB.u.trans (HBf.u.mono HB.u.size)⟩
    cases g2
    . have HX:=h_ (HM1.u (.inr rfl))
      go_wp2_with fail
      try rw[hWd]
      refine HC1.u.mono ?_;rintro e w1 ⟨rfl,hw⟩;replace hw:=hw.symm;subst hw;clear hWd;go_wp2_with fail;refine HC2.u.mono ?_;rintro e w1 ⟨rfl,hw⟩;replace hw:=hw.symm;subst hw;go_wp2_with fail;go_ret;exact⟨qia HX.u.symm,HB.u.trans (HBf.u.mono HB.u.size)⟩
    have HL3:=h_ (HL2.u rfl rfl);go_wp2_with fail
    try rw[hWd]
    refine HC1.u.mono ?_;rintro e w1 ⟨rfl,hw⟩;replace hw:=hw.symm;subst hw;clear hWd;go_wp2_with fail;refine HC2.u.mono ?_;rintro e w1 ⟨rfl,hw⟩;replace hw:=hw.symm;subst hw;go_wp2_with fail;go_roundw
    case rel=>first | exact⟨k+1,by omega,by go_num,HL3.u,HBf.u⟩ | ((repeat apply Exists.intro);exact⟨⟨k+1,by omega,by go_num,HL3.u,HBf.u⟩,rfl⟩)
    case measure=>simp[intOf];omega
  obtain rfl:k=m.P.length:=by omega
  have hlt':¬ (m.P.length:Int)<(m.P.length:Int):=by omega
  have HQ2:Hi ((m.R.all fun r=>inR m.L.length r.lb)=q):=h_ (by
   rw[<- HQ.u,show(m.P.all fun p=>inR m.L.length p.1&&inR m.L.length p.2)=true from Yu.2 fun x hx=>by
    obtain⟨j,hj,rfl⟩:=Yw.1 hx;have:=HL.u j hj hj;rw[this.1,this.2];rfl,Y5])
  replace HK:=h_ (HK.u.mono HB1.u HK.u.lt);replace HS:=HSr;replace HB:=h_ (HB.u.trans (HB1.u.mono HB.u.size));obtain⟨y0,y1,y2,y3⟩:=quad HK.u;clear HL HB1 HQ HSr hlt;go_wp2_with fail;clear y0 y1 y2 y3 hlt';obtain⟨W6,hW6⟩:=Nq wr;rw[hW6]at HB HS HK⊢;clear hW6;go_loopw [34] (fun i wr=>∃k:Nat,k<=m.R.length/\i=J6 k/\(∀j (h:j<m.R.length),j<k->inR m.L.length m.R[j].lb=true)/\Below W6.heap.size W6 wr) (fun i _=>m.R.length - (intOf i).toNat)
  case atStart=>exact⟨0,nZ _,rfl,fun j _ hj=>absurd hj (nL _),bR _ _⟩
  case round =>
   obtain⟨k,hk,rfl,hall,hb⟩:=hrel;have HL:=h_ hall;have HB1:=h_ hb;have HSr:=h_ (HS.u.mono hb);clear hall hb;by_cases hlt:k<m.R.length
   . have hlt':(k:Int)<m.R.length:=by omega
     obtain⟨pb,po,rfl,-,z0,z1⟩:=HSr.u.r k hlt;have HM1:Hi (inR m.L.length m.R[k].lb=false->q=false):=h_ fun h=>by
      rw[<- HQ2.u];exact Vj.2 ⟨m.R[k],Ye hlt,by simp[h]⟩
     have HL2:Hi (inR m.L.length m.R[k].lb=true->∀j (h:j<m.R.length),j<k+1->inR m.L.length m.R[j].lb=true):=h_ fun g1 j h hj=>by
      by_cases ej:j=k
      . subst ej;exact g1
      . exact HL.u j h (by omega)
     have HBf:=h_ (HB1.u.alloc HB1.u.size (.cells #[.string m.R[k].nm,J6 m.R[k].lb] 85));have HKf:=h_ (Blk.new wr 85 #[.string m.R[k].nm,J6 m.R[k].lb]);generalize m.R[k]=u at *;obtain⟨x1,x2⟩:=u;dsimp only at *;obtain⟨Wd,hWd⟩:=Nq (wr.alloc (.cells #[.string x1,J6 x2] 85));rw[hWd]at HKf HBf;obtain⟨v0,v1⟩:=duo HKf.u;have HC1:=h_ (q8z x2 m.L.length Wd);generalize inR m.L.length x2=g1 at *;cases g1
     . have HX:=h_ (HM1.u rfl)
       go_wp2_with fail
       try rw[hWd]
       refine HC1.u.mono ?_;rintro e w1 ⟨rfl,hw⟩;replace hw:=hw.symm;subst hw;clear hWd;go_wp2_with fail;go_ret;exact⟨qia HX.u.symm,HB.u.trans (HBf.u.mono HB.u.size)⟩
     have HL3:=h_ (HL2.u rfl);go_wp2_with fail
     try rw[hWd]
     refine HC1.u.mono ?_;rintro e w1 ⟨rfl,hw⟩;replace hw:=hw.symm;subst hw;clear hWd;go_wp2_with fail;go_roundw
     case rel=>first | exact⟨k+1,by omega,by go_num,HL3.u,HBf.u⟩ | ((repeat apply Exists.intro);exact⟨⟨k+1,by omega,by go_num,HL3.u,HBf.u⟩,rfl⟩)
     case measure=>simp[intOf];omega
   obtain rfl:k=m.R.length:=by omega
   have hlt':¬ (m.R.length:Int)<(m.R.length:Int):=by omega
   have HX:Hi (q=true):=h_ (by
    rw[<- HQ2.u];exact Yu.2 fun x hx=>by
     obtain⟨j,hj,rfl⟩:=Yw.1 hx;exact HL.u j hj hj)
   go_wp2_with fail;go_ret;exact⟨qia HX.u.symm,HB.u.trans (HB1.u.mono HB.u.size)⟩
end Go.Proofs.YtgojgjlninakjaaGreatDoor
