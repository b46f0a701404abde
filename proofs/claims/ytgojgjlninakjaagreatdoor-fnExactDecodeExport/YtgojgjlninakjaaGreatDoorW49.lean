import Derived.Test.YtgojgjlninakjaaGreatDoorW47
import Derived.Test.YtgojgjlninakjaaGreatDoorW48
set_option maxRecDepth 100000
set_option maxHeartbeats 64000000
namespace Go.Proofs.YtgojgjlninakjaaGreatDoor
open Go Go.RowKit
structure Env (w:World):Prop where
 t:Tabs w
 y:TyW w
 b:Tab w
 e1:ErrV "strconv.ErrSyntax" w
 e2:ErrV "strconv.ErrRange" w
 x:MxL w
theorem Env.mono {w w':World}(h:Env w)(hb:Below w.heap.size w w'):Env w':=⟨h.t.mono hb,h.y.mono hb,h.b.mono hb,h.e1.mono hb,h.e2.mono hb,h.x.mono hb⟩
theorem VfA.nodR {m:Fm}(h:VfA m):(rNames m).Nodup:=by
 have h2:=h.r
 unfold namesOk at h2
 rw[Yf,Yh]at h2
 exact h2.2
theorem qnt (p:ByteArray)(P:List ByteArray)(hP:Lib.splitB ⟨#[32]⟩ 0 (min 4 (p.size+1) - 1) p=P):(∃pa pb pc pd,P=[pa,pb,pc,pd]/\sb p=sb pa++32 :: (sb pb++32 :: (sb pc++32 :: sb pd))/\(32:UInt8) ∉ sb pa/\(32:UInt8) ∉ sb pb/\(32:UInt8) ∉ sb pc)∨(P.length<4/\∀a b c d,sb p≠a++32 :: (b++32 :: (c++32 :: d))):=by
 have hm:P.map sb=Lib.splitK [32] 0 (min 4 (p.size+1) - 1) (sb p):=by rw[<- hP];exact Lib.splitB_data ⟨#[32]⟩ 0 _ p
 rcases qaj (sb p) (min 4 (p.size+1) - 1) (by rw[sb_len]) with ⟨a,b,c,d,e,h1,h2,h3,h4⟩ | ⟨h1,h2⟩
 . rw[h4]at hm
   match P,hm with
   | [pa,pb,pc,pd],hm =>
    simp only[Z5,Oc,Of,and_true]at hm;obtain⟨rfl,rfl,rfl,rfl⟩:=hm;exact .inl ⟨pa,pb,pc,pd,rfl,e,h1,h2,h3⟩
 . rw[<- hm,Z6]at h1
   exact .inr ⟨h1,h2⟩
theorem ew_all {m:Fm}(hv:VfA m){p:List UInt8}{pb pc pd tx:ByteArray}{a:List UInt8}{kd n:Int}{ok:Bool}{i:Nat}(hp:p=a++32 :: (sb pb++32 :: (sb pc++32 :: sb pd)))(ha:(32:UInt8) ∉ a)(hb:(32:UInt8) ∉ sb pb)(hc:(32:UInt8) ∉ sb pc)(hr:rv pd=(kd,n,tx,ok))(h:¬ (memB pb (rNames m)=true/\memB pc (fNames m)=true/\ok=true)):UnA m p i zE false :=
 ew_no hv hp ha hb hc fun x hx _ e1 e2 e3=>h (by
  obtain⟨⟨x0,x1⟩,⟨x2,x3⟩,xo⟩:=qca hx.1;have xr:=qif hv (r:=x.r.toNat) (by omega);have xf:=qgb hv (r:=x.f.toNat) (by omega);refine⟨(qh6 _ _).2 ?_,(qh6 _ _).2 ?_,?_⟩
  . rw[<- sb_inj e1,xr.2];exact Ye _
  . rw[<- sb_inj e2,xf.2];exact Ye _
  . rw[<- sb_inj e3,qnp xo (qg0 hv hx.1) hx.2]at hr
    simp only[Y4]at hr;exact hr.2.2.2.symm)
theorem ew_fin {m:Fm}(hv:VfA m){p:List UInt8}{pb pc pd tx:ByteArray}{kd n:Int}{i j1 j2:Nat}(hp:p=Lib.itoa (i:Int)++32 :: (sb pb++32 :: (sb pc++32 :: sb pd)))(ha:(32:UInt8) ∉ Lib.itoa (i:Int))(hb:(32:UInt8) ∉ sb pb)(hc:(32:UInt8) ∉ sb pc)(hr:rv pd=(kd,n,tx,true))(h1:(rNames m)[j1]? = some pb)(h2:(fNames m)[j2]? = some pc)(q:Bool)(hq:(decide (0<=(j2:Int)/\(j2:Int)<m.F.length)&&(decide ((fAt m (j2:Int).toNat).is.length=0)&&fitB (fAt m (j2:Int).toNat) ⟨kd,n,tx⟩))=q):(q=true->UnA m p i ⟨j1,j2,⟨kd,n,tx⟩⟩ true)/\(q=false->UnA m p i zE false):=by
 obtain⟨l1,e1⟩:=Z7.1 h1
 obtain⟨l2,e2⟩:=Z7.1 h2
 have l1':j1<m.R.length:=by simpa [rNames] using l1
 have l2':j2<m.F.length:=by simpa [fNames] using l2
 have hE:entB m ⟨j1,j2,⟨kd,n,tx⟩⟩=q:=by
  rw[<- hq];unfold entB;rw[Yj (show(0:Int)<=(j1:Int)/\(j1:Int)<m.R.length by omega),Y5]
 have g1:=qif hv l1'
 have g2:=qgb hv l2'
 rw[e1]at g1
 rw[e2]at g2
 refine⟨fun h=>?_,fun h=>?_⟩
 . subst h
   exact ew_yes (by rw[hp,g1.2,g2.2]) hr hE
 . subst h
   refine ew_no hv hp ha hb hc fun x hx _ q1 q2 q3=>?_;obtain⟨⟨x0,x1⟩,⟨x2,x3⟩,xo⟩:=qca hx.1;have xr:=qif hv (r:=x.r.toNat) (by omega);have xf:=qgb hv (r:=x.f.toNat) (by omega);have r1:=sb_inj q1;rw[xr.2,<- e1]at r1;have r1:=qhh hv.nodR _ _ r1;have r2:=sb_inj q2;rw[xf.2,<- e2]at r2;have r2:=qhh hv.nod _ _ r2;rw[<- sb_inj q3,qnp xo (qg0 hv hx.1) hx.2]at hr;simp only[Y4]at hr;obtain⟨s1,s2,s3,-⟩:=hr;rw[show(⟨(j1:Int),(j2:Int),⟨kd,n,tx⟩⟩:Ex)=x by
    clear xr xf;obtain⟨xr,xf,⟨a,b,c⟩⟩:=x;dsimp only at *;subst s1 s2 s3;rw[<- r1,<- r2,Gc x0,Gc x2],hx.1]at hE
   cases hE
theorem q54 (w:World){ops:Array Oper}{rest:List Oper}{o:Oper}{a:Act}{Q:Exit->Act->World->Prop}(hg:o.guard=none)(m x:Operand)(hop:o.op=Op.lookup 100 m x true)(b:Nat)(key:ByteArray)(v:Value)(hm:a.eval m=.map (some b))(hx:a.eval x=.string key)
 (hrun:(Instr.lookup 100 (.map (some b)) (.string key) true).run Tryz.prog w=.ok v w) (hK:wpList Tryz.prog ops Q rest (a.put o.dst v) w):wpList Tryz.prog ops Q (o :: rest) a w:=by
 refine wpList_plain hg fun K' hK'=>?_
 unfold Oper.wp
 simp[execOp,hop,hm,hx,hrun,Result.andThen]
 exact hK' _ _ hK
theorem q0m (m:Fm)(A:MA)(n:Nat)(F:Nat->Bool)(f:Nat->Nat)(S:SF)(WD:World)(Sh:Nat)(Bs:Nat->Nat)(u:Value)(pl:Nat)(p:ByteArray)(i rb:Nat)(w:World)(hv:VfA m)(hi:i<=4000)(hz:p.size<=1048576)(hX:Shet m A n F f S WD Sh Bs (fun _=>zCx) m.F.length u pl w)(hr:PMap w rb (rNames m))(he:Env w) :
 Calls Tryz.prog 54 #[J9 Sh 0,.string p,J6 i,.map (some rb)] w fun x w'=>UnO m (sb p) i w x w':=by
 have HV:=h_ hv
 have hi':(i:Int)<=4000:=by omega
 have HE:=h_ (Blk.new w 52 Je)
 have HB:=h_ ((bR w.heap.size w).alloc (nR _) (.cells Je 52))
 obtain⟨W0,hW0⟩:=Nq (w.alloc (.cells Je 52))
 rw[hW0]at HE HB
 have HX:=h_ (hX.mono HB.u);have HR:=h_ (hr.mono HB.u);have HN:=h_ (he.mono HB.u)
 obtain⟨mx,hmx⟩:=HN.u.x
 have hsp:=qip p ⟨#[32]⟩ 4 mx W0 (by omega) hmx (by decide) (by decide) (by decide)
 rw[show((4:Nat):Int)=4 from rfl]at hsp
 obtain⟨P,hP⟩:=Nq (Lib.splitB ⟨#[32]⟩ 0 (min 4 (p.size+1) - 1) p)
 have hcs:=qnt p P hP
 rw[hP]at hsp
 obtain⟨K,hK⟩:=Nq (min 4 (p.size+1))
 rw[hK]at hsp
 have hN0:=Blk.new W0 9 (Lib.cellsOf P K)
 have hB1:=(bR W0.heap.size W0).alloc (nR _) (.cells (Lib.cellsOf P K) 9)
 obtain⟨W1,hW1⟩:=Nq (W0.alloc (.cells (Lib.cellsOf P K) 9))
 rw[hW1]at hsp hN0 hB1
 obtain⟨g,hg⟩:=Nq W0.heap.size
 have HSp:=h_ hsp
 replace HX:=h_ (HX.u.mono hB1);replace HR:=h_ (HR.u.mono hB1);replace HN:=h_ (HN.u.mono hB1);replace HE:=mB HE hB1;replace HB:=mT HB hB1
 have hSt:∀k x,P[k]? = some x->W1.cell? ⟨g,k,none⟩=some (.string x):=fun k x hk=>by
  rw[<- hg,hN0.cell];unfold Lib.cellsOf;rw[List.toList_toArray,Vm (by simpa using (Z7.1 hk).1),Zg,hk];rfl
 have HG:Hi (g<W1.heap.size):=h_ (by rw[<- hg];exact hN0.lt)
 rw[hg]at HSp
 clear hX hr he hmx hsp hP hN0 hB1 hW1 hg hv hi hK
 rcases hcs with ⟨pa,pb,pc,pd,rfl,hpe,ha,hb,hc⟩ | ⟨hlen,hno⟩
 case inr =>
  have HU:=h_ (ew_few (m:=m) (i:=i) hno);have hl':decide ((P.length:Int)<4)=true:=Yj (by omega);have HB9:=h_ (HB.u.drew.trans ((qmu (lo:=w.heap.size) (hi:=w.heap.size+1) (g:=w.heap.size) W1.drew Je (nR _) (by omega)).below (nR _) HB.u.drew.size));have HEd:=h_ (HE.u.mono (bR W1.heap.size W1).drew HE.u.lt);have HE9:=h_ (HEd.u.row J4);clear hSt hno hlen;go_enter Tryz.func54,Tryz.ntmps54;go_wp2_with fail
  try rw[hW0]
  refine HSp.u.mono ?_;rintro x W2 ⟨rfl,rfl⟩;go_wp2_with fail;refine wp_region_held_drew (S:=fun _=>True) (by kernel_rfl) trivial (fun zz=>?_);refine tj 0 19 (.slice (some ⟨g,0,none⟩) P.length K) zz ?_;refine tj 1 20 (J6 P.length) zz ?_;refine tj 2 21 (.bool true) zz ?_ (hy:=fun w hS=>by simp[execOp,go_sem,hl']);refine tj 3 22 (.bool true) zz ?_;simp only[sX,sY,sZ];refine tn 4 23 zz ?_;refine tn 5 24 zz ?_;refine tn 6 25 zz ?_;refine tn 7 26 zz ?_;simp only[sX,sY,sZ];refine tn 8 27 zz ?_;refine tn 9 28 zz ?_;refine tj 10 29 (.bool true) zz ?_;simp only[sX,sY,sZ];refine wpAnyH_done (by kernel_rfl) ?_ _;clear zz hl';go_wp2_with (refine wpList_store_row rfl 52 (.tmp 8) (.tmp 30) rfl w.heap.size Je rfl rfl 52 Je HEd.u (by kernel_rfl) rfl (by simp[Value.oneCell']) ?_);obtain⟨x0,x1,x2,x3,x4⟩:=five HE9.u;exact bodyPost_ret (v:=.tuple J3) (by simp[results,Tryz.results54,go_sem,x0,x1,x2,x3,x4]) rfl (UnO.of zE false rfl HU.u HB9.u)
 have z0:=hSt 0 pa rfl;have z1:=hSt 1 pb rfl;have z2:=hSt 2 pc rfl;have z3:=hSt 3 pd rfl
 have hsz:pa.size<=1048576/\pb.size<=1048576/\pc.size<=1048576/\pd.size<=1048576:=by
  have:=congrArg List.length hpe;simp only[Yd,Yl,sb_len]at this;omega
 have HPe:=h_ hpe;have Ha:=h_ ha;have Hb:=h_ hb;have Hc:=h_ hc
 have HZ:Hi (∀W,Below W1.heap.size W1 W->W.cell? ⟨g,1,none⟩=some (.string pb)/\W.cell? ⟨g,2,none⟩=some (.string pc)/\W.cell? ⟨g,3,none⟩=some (.string pd)):=h_ fun W h=>⟨(h.cell (p:=⟨g,1,none⟩) HG.u).trans z1,(h.cell (p:=⟨g,2,none⟩) HG.u).trans z2,(h.cell (p:=⟨g,3,none⟩) HG.u).trans z3⟩
 have HZ0:Hi (∀W,Below W1.heap.size W1 W->W.cell? ⟨g,0,none⟩=some (.string pa)):=h_ fun W h=>(h.cell (p:=⟨g,0,none⟩) HG.u).trans z0
 have HD:=h_ (q5i (i:Int) W1.drew (by omega) (by omega) (HN.u.t.pw.mono (bR W1.heap.size W1).drew))
 obtain⟨d,hd⟩:∃d:ByteArray,⟨(Lib.itoa i).toArray⟩=d:=⟨_,rfl⟩
 have HDe:Hi (sb d=Lib.itoa (i:Int)):=h_ (by rw[<- hd,sb_mk])
 rw[hd]at HD
 clear hd hpe ha hb hc z0 z1 z2 z3 hSt
 have hlen:([pa,pb,pc,pd]:List ByteArray).length=4:=rfl
 rw[hlen]at HSp
 clear hlen
 go_enter Tryz.func54,Tryz.ntmps54
 go_wp2_with fail
 try rw[hW0]
 refine HSp.u.mono ?_
 rintro x W2 ⟨rfl,rfl⟩
 clear HSp hW0
 go_wp2_with fail
 refine wp_region_held_drew (S:=fun w'=>w'.cell? ⟨g,0,none⟩=some (.string pa)) (by kernel_rfl) (HZ0.u _ (bR _ _).drew) (fun zz=>?_)
 refine tj 0 19 (.slice (some ⟨g,0,none⟩) 4 K) zz ?_
 refine tj 1 20 (J6 4) zz ?_
 refine tj 2 21 (.bool false) zz ?_
 refine tj 3 22 (.bool false) zz ?_
 simp only[sX,sY,sZ]
 refine tj 4 23 (.slice (some ⟨g,0,none⟩) 4 K) zz ?_
 refine tj 5 24 (J9 g 0) zz ?_
 refine tj 6 25 (.string pa) zz ?_ (hy:=fun w hS=>by simp[execOp,go_sem,hS])
 refine tj 7 26 (J6 i) zz ?_
 simp only[sX,sY,sZ]
 refine callY (i:=8) (f:=89) (args:=#[J6 i]) (R:=fun v wz=>v=.string d/\Below W2.heap.size W2 wz) 27 rfl rfl (by rfl) (by kernel_rfl) (by simp[execOp,go_sem]) (HD.u.mono fun e w6 ⟨he,hb⟩=>⟨_,he,rfl,q29 hb⟩) ?_
 rintro v W3 ⟨rfl,hb⟩
 have zz:=HZ0.u _ hb
 refine⟨zz,?_⟩
 simp only[sX,sY,sZ]
 obtain⟨z1,z2,z3⟩:=HZ.u _ hb
 replace HX:=h_ (HX.u.mono hb);replace HR:=h_ (HR.u.mono hb);replace HN:=h_ (HN.u.mono hb);replace HE:=mB HE hb;replace HB:=mT HB hb
 have HGl:Hi (g<W3.heap.size):=h_ (Ys HG.u hb.size)
 clear hb HZ HZ0 HG HD
 by_cases hpd:pa=d
 case neg =>
  have hpd':=str_f hpd;have HU:=h_ (ew_no (i:=i) HV.u HPe.u Ha.u Hb.u Hc.u (fun _ _ e _ _ _=>hpd (sb_inj (by rw[HDe.u,e]))));have HB9:=h_ (HB.u.trans ((qmu (lo:=w.heap.size) (hi:=w.heap.size+1) (g:=w.heap.size) W3 Je (nR _) (by omega)).below (nR _) HB.u.size));have HE9:=h_ (HE.u.row J4);clear hpd;refine tj 9 28 (.bool true) zz ?_ (hy:=fun w hS=>by simp[execOp,go_sem,hpd']);refine tj 10 29 (.bool true) zz ?_;simp only[sX,sY,sZ];refine wpAnyH_done (by kernel_rfl) ?_ _;clear zz z1 z2 z3;go_wp2_with (refine wpList_store_row rfl 52 (.tmp 8) (.tmp 30) rfl w.heap.size Je rfl rfl 52 Je HE.u (by kernel_rfl) rfl (by simp[Value.oneCell']) ?_);obtain⟨x0,x1,x2,x3,x4⟩:=five HE9.u;exact bodyPost_ret (v:=.tuple J3) (by simp[results,Tryz.results54,go_sem,x0,x1,x2,x3,x4]) rfl (UnO.of zE false rfl HU.u HB9.u)
 have HP2:Hi (sb p=Lib.itoa (i:Int)++32 :: (sb pb++32 :: (sb pc++32 :: sb pd))):=h_ (by rw[HPe.u,hpd,HDe.u])
 have Ha2:Hi ((32:UInt8) ∉ Lib.itoa (i:Int)):=h_ (qgt i (by decide))
 have hpd':(pa.toList==d.toList)=true:=by rw[hpd];exact str_t d
 clear hpd HPe Ha HDe
 refine tj 9 28 (.bool false) zz ?_ (hy:=fun w hS=>by simp[execOp,go_sem,hpd'])
 refine tj 10 29 (.bool false) zz ?_
 simp only[sX,sY,sZ]
 refine wpAnyH_done (by kernel_rfl) ?_ _
 clear zz hpd'
 obtain⟨c1,hr1,hc1⟩:=qm3 HR.u HV.u.nodR pb (by omega)
 have Hr1:=h_ hr1;have Hc1:=h_ hc1
 have hDr:=(bR W3.heap.size W3).drew
 have hXd:=HX.u.mono hDr
 obtain⟨b,bt,top,a1,a2,a3,k1,k2,k3,a5,k5,eS,hpm,-⟩:=hXd.snd.mono hXd.base
 obtain⟨c2,hr2,hc2⟩:=qm3 hpm HV.u.nod pc (by omega)
 have Hc2:=h_ hc2
 have hSm:S.mp=some b:=by rw[eS]
 have hbl:Blk W3.drew Sh 113 (sfC S++[u,.map (some pl)]):=hXd.blk
 have hz2:=(hDr.cell (p:=⟨g,2,none⟩) HGl.u).trans z2
 have hz3:=(hDr.cell (p:=⟨g,3,none⟩) HGl.u).trans z3
 have HSS:Hi (Blk W3.drew Sh 113 (sfC S++[u,.map (some pl)])/\W3.drew.cell? ⟨g,2,none⟩=some (.string pc)/\(Instr.lookup 100 (.map (some b)) (.string pc) true).run Tryz.prog W3.drew=.ok (.tuple #[J6 c2,.bool (memB pc (fNames m))]) W3.drew):=h_ ⟨hbl,hz2,hr2⟩
 replace HX:=h_ hXd;replace HN:=h_ (HN.u.mono hDr);replace HE:=mB HE hDr;replace HB:=mT HB hDr
 clear hr1 hc1 hr2 hc2 hpm eS hbl hDr hXd hz2 z2 z3 HR HGl
 obtain⟨q1,hq1⟩:=Nq (memB pb (rNames m))
 obtain⟨q2,hq2⟩:=Nq (memB pc (fNames m))
 have HQ1:=h_ hq1;have HQ2:=h_ hq2
 rw[hq1]at Hr1 Hc1
 rw[hq2]at HSS Hc2
 clear hq1 hq2
 go_wp2_with (at_lookup;refine q54 _ rfl _ _ rfl rb pb (.tuple #[J6 c1,.bool q1]) rfl rfl Hr1.u ?_)
 refine wp_region_held_drew (S:=fun w'=>Blk w' Sh 113 (sfC S++[u,.map (some pl)])/\w'.cell? ⟨g,2,none⟩=some (.string pc)/\(Instr.lookup 100 (.map (some b)) (.string pc) true).run Tryz.prog w'=.ok (.tuple #[J6 c2,.bool q2]) w') (by kernel_rfl) HSS.u (fun zz=>?_)
 refine tj 0 40 (J9 Sh 0) zz ?_
 refine tj 1 41 (J9 Sh 0) zz ?_
 refine tj 2 42 (J9 Sh 0) zz ?_
 refine tj 3 43 (J9 Sh 0) zz ?_
 simp only[sX,sY,sZ]
 refine tj 4 44 (J9 Sh 4) zz ?_
 refine tj 5 45 (.map (some b)) zz ?_ (hy:=fun w hS=>by have q0:w.cell? ⟨Sh,4,none⟩=some (.map S.mp):=hS.1.cell 4;rw[hSm]at q0;simp[execOp,go_sem,q0])
 refine tj 6 46 (.slice (some ⟨g,0,none⟩) 4 K) zz ?_
 refine tj 7 47 (J9 g 2) zz ?_
 simp only[sX,sY,sZ]
 refine tj 8 48 (.string pc) zz ?_ (hy:=fun w hS=>by have q0:=hS.2.1;simp[execOp,go_sem,q0])
 refine tj 9 49 (.tuple #[J6 c2,.bool q2]) zz ?_ (hy:=fun w hS=>by have q0:=hS.2.2;simp[execOp,go_sem,q0])
 refine tj 10 39 (.tuple #[J6 c2,.bool q2]) zz ?_
 refine tj 11 50 (J6 c2) zz ?_
 simp only[sX,sY,sZ]
 refine tj 12 51 (.bool q2) zz ?_
 refine tj 13 13 (J6 c2) zz ?_
 refine tj 14 14 (.bool q2) zz ?_
 simp only[sX,sY,sZ]
 refine wpAnyH_done (by kernel_rfl) ?_ _
 clear zz HSS hSm z1
 obtain⟨W4,hW4⟩:=Nq W3.drew
 rw[hW4]at HX HN HE HB hz3⊢
 clear hW4
 obtain⟨kd,nn,tx,ok,hrv⟩:∃kd nn tx ok,rv pd=(kd,nn,tx,ok):=⟨_,_,_,_,rfl⟩
 have HRv:=h_ hrv
 have HCr:=h_ (q3u pd W4 (by omega) HN.u.t.pw HN.u.e1 HN.u.e2 kd nn tx ok hrv)
 clear hrv
 go_wp2_with fail
 refine HCr.u.mono ?_
 rintro x W5 ⟨rfl,hb⟩
 replace hb:=hb.trans (((bR W5.heap.size W5).alloc (nR _) (.cells (Jk kd nn tx) 50)).mono hb.size)
 have HM:=h_ (Blk.new W5 50 (Jk kd nn tx))
 replace HX:=h_ (HX.u.mono hb);replace HE:=mB HE hb;replace HB:=mT HB hb
 obtain⟨gv,hgv⟩:=Nq W5.heap.size
 obtain⟨W6,hW6⟩:=Nq (W5.alloc (.cells (Jk kd nn tx) 50))
 rw[hgv]at HM
 rw[hW6]at HX HE HB HM
 clear hb HCr HN hz3
 by_cases hall:q1=true/\q2=true/\ok=true
 case neg =>
  have HU:=h_ (ew_all (i:=i) HV.u HP2.u Ha2.u Hb.u Hc.u HRv.u (by rw[HQ1.u,HQ2.u];exact hall));have HB9:=h_ (HB.u.trans ((qmu (lo:=w.heap.size) (hi:=w.heap.size+1) (g:=w.heap.size) W6 Je (nR _) (by omega)).below (nR _) HB.u.size));have HE9:=h_ (HE.u.row J4);clear HX HM HQ1 HQ2 Hc1 Hc2 HRv;cases q1 <;> cases q2 <;> cases ok <;> first | exact absurd ⟨rfl,rfl,rfl⟩ hall | skip
  all_goals
   clear hall;go_wp2_with (first | (rw[hW6];fail) | (refine wpList_store_row rfl 52 (.tmp 8) (.tmp 76) rfl w.heap.size Je rfl rfl 52 Je (by first | exact HE.u | (rw[hW6];exact HE.u)) (by kernel_rfl) rfl (by simp[Value.oneCell']) ?_))
   try rw[hW6]
   obtain⟨x0,x1,x2,x3,x4⟩:=five HE9.u;exact bodyPost_ret (v:=.tuple J3) (by simp[results,Tryz.results54,go_sem,x0,x1,x2,x3,x4]) rfl (UnO.of zE false rfl HU.u HB9.u)
 obtain⟨rfl,rfl,rfl⟩:=hall
 obtain⟨j1,rfl,hj1⟩:=Hc1.u rfl
 obtain⟨j2,rfl,hj2⟩:=Hc2.u rfl
 have htx:tx.size<=9223372036854775807:=by have:=(qno HRv.u).2.2;omega
 have HCt:=h_ (qey m A n F f S WD Sh Bs u pl (j2:Int) ⟨kd,nn,tx⟩ W6 htx HX.u)
 obtain⟨q,hq⟩:∃q,(decide (0<=(j2:Int)/\(j2:Int)<m.F.length)&&(decide ((fAt m (j2:Int).toNat).is.length=0)&&fitB (fAt m (j2:Int).toNat) ⟨kd,nn,tx⟩))=q:=⟨_,rfl⟩
 have HU:=h_ (ew_fin HV.u HP2.u Ha2.u Hb.u Hc.u HRv.u hj1 hj2 q hq)
 rw[hq]at HCt
 dsimp only at HCt
 clear hj1 hj2 hq Hc1 Hc2 htx HQ1 HQ2 Hr1
 obtain⟨m0,m1,m2⟩:=three HM.u
 go_wp2_with fail
 try rw[hW6]
 try rw[hgv]
 refine HCt.u.mono ?_
 rintro x W7 ⟨rfl,hb⟩
 replace HM:=mB HM hb;replace HE:=mB HE hb;replace HB:=mT HB hb
 clear hb HCt m0 m1 m2 hW6 hgv HX
 cases q
 . have HU2:=h_ (HU.u.2 rfl)
   have HB9:=h_ (HB.u.trans ((qmu (lo:=w.heap.size) (hi:=w.heap.size+1) (g:=w.heap.size) W7 Je (nR _) (by omega)).below (nR _) HB.u.size));have HE9:=h_ (HE.u.row J4);go_wp2_with (refine wpList_store_row rfl 52 (.tmp 8) (.tmp 76) rfl w.heap.size Je rfl rfl 52 Je HE.u (by kernel_rfl) rfl (by simp[Value.oneCell']) ?_);obtain⟨x0,x1,x2,x3,x4⟩:=five HE9.u;exact bodyPost_ret (v:=.tuple J3) (by simp[results,Tryz.results54,go_sem,x0,x1,x2,x3,x4]) rfl (UnO.of zE false rfl HU2.u HB9.u)
 . have HU2:=h_ (HU.u.1 rfl)
   have HB9:=h_ (HB.u.trans ((qmu (lo:=w.heap.size) (hi:=w.heap.size+1) (g:=w.heap.size) W7 (Jh j1 j2 kd nn tx) (nR _) (by omega)).below (nR _) HB.u.size));have HE9:=h_ (HE.u.row [J6 j1,J6 j2,J6 kd,J6 nn,.string tx]);obtain⟨m0,m1,m2⟩:=three HM.u;go_wp2_with (first | (refine qb7 rfl 52 #[(0,.tmp 77),(1,.tmp 78),(2,.tmp 79)] rfl (Jh j1 j2 kd nn tx) (by kernel_rfl) ?_) | (refine wpList_store_row rfl 52 (.tmp 8) (.tmp 80) rfl w.heap.size (Jh j1 j2 kd nn tx) rfl rfl 52 Je HE.u (by kernel_rfl) rfl (by simp[Value.oneCell']) ?_));obtain⟨x0,x1,x2,x3,x4⟩:=five HE9.u;exact bodyPost_ret (v:=.tuple #[.agg (Jh j1 j2 kd nn tx),.bool true]) (by simp[results,Tryz.results54,go_sem,x0,x1,x2,x3,x4]) rfl (UnO.of ⟨j1,j2,⟨kd,nn,tx⟩⟩ true rfl HU2.u HB9.u)
theorem qnz (t:List UInt8):Lib.hasSuffix t [10]=true ↔ t.getLast? = some 10:=by
 unfold Lib.hasSuffix
 rw[List.isSuffixOf_iff_suffix]
 constructor
 . rintro⟨a,rfl⟩
   exact List.getLast?_concat
 . intro h
   obtain⟨a,rfl⟩:=List.getLast?_eq_some_iff.1 h;exact⟨a,rfl⟩
theorem qmv (w:World)(base:Nat):OwnE w base J7 []:=⟨rfl,.inl ⟨rfl,rfl⟩⟩
theorem q5j (m:Fm)(A:MA)(n:Nat)(F:Nat->Bool)(f:Nat->Nat)(S:SF)(WD:World)(Sh:Nat)(Bs:Nat->Nat)(u:Value)(pl:Nat)(s:ByteArray)(w:World)(hv:VfA m)(hN:m.L.length=n)(hs:s.size<=1048576)(hX:Shet m A n F f S WD Sh Bs (fun _=>zCx) m.F.length u pl w)(he:Env w) :
 Calls Tryz.prog 26 #[J9 Sh 0,.string s] w fun x w'=>DcO m s w x w':=by
 have HV:=h_ hv;have HX:=h_ hX;have HN:=h_ he
 have HCl:=h_ (q6p s w hs he.x)
 have HCw:=h_ fun (p:ByteArray) (i rb:Nat) W (h1:i<=4000) (h2:p.size<=1048576) (h:Shet m A n F f S WD Sh Bs (fun _=>zCx) m.F.length u pl W) (h3:PMap W rb (rNames m)) (h4:Env W)=>q0m m A n F f S WD Sh Bs u pl p i rb W hv h1 h2 h h3 h4
 have HCr:=h_ fun W (h:Rls W A.r m.R)=>q31 m A W hv.nr h
 have HCp:=h_ fun (a:Option Addr) (c:Nat) W (h:Strs W a (rNames m))=>q4m a c (rNames m) W (by have:=hv.nr;simp[rNames];omega) (fun x hx=>by have:=q4k hv.r hx;omega) h
 have hrl:(rNames m).length=m.R.length:=by simp[rNames]
 rw[hrl]at HCp
 have HSe:Hi (∀W,Blk W Sh 113 (sfC S++[u,.map (some pl)])->W.cell? ⟨Sh,0,none⟩=some (.slice A.l m.L.length A.lc)/\W.cell? ⟨Sh,1,none⟩=some (.slice A.p m.P.length A.pc)/\W.cell? ⟨Sh,2,none⟩=some (.slice A.r m.R.length A.rc)/\W.cell? ⟨Sh,3,none⟩=some (.slice A.f m.F.length A.fc)):=h_ fun W h=>by
  obtain⟨b,bt,top,a1,a2,a3,k1,k2,k3,a5,k5,eS,-⟩:=hX.snd;rw[eS]at h;rw[hN];exact⟨h.cell 0,h.cell 1,h.cell 2,h.cell 3⟩
 have HRl:=h_ fun W (h:Shet m A n F f S WD Sh Bs (fun _=>zCx) m.F.length u pl W)=>(h.msl.mono h.base).r
 obtain⟨al,alc,ap,apc,ar,arc,af,afc,afa⟩:=A
 unfold mV at HCr
 dsimp only at HCr HSe HRl
 clear hX he hv hrl hN
 by_cases h0:s.size=0
 case' pos =>
  have HEn:Hi (sb s=[]∨(sb s).getLast? = some 10):=h_ (.inl (O5 (by rw[sb_len];exact h0)));have h0':s.toList.isEmpty=true:=by rw[ba_nil h0,Yp];rfl
  clear h0;go_enter Tryz.func26,Tryz.ntmps26;go_wp2_with fail
 case' neg =>
  have h0':s.toList.isEmpty=false:=by
   rw[List.isEmpty_eq_false_iff,Yp];exact fun q=>h0 (by rw[<- sb_len];unfold sb;rw[q];rfl)
  have HSf:=h_ (Tryz.strings_HasSuffix s ⟨#[10]⟩ w (by omega));obtain⟨q,hq⟩:=Nq (Lib.hasSuffix s.data.toList (⟨#[10]⟩:ByteArray).data.toList);have HQ:Hi (Lib.hasSuffix (sb s) [10]=q):=h_ hq;have HNe:Hi (sb s≠[]):=h_ fun e=>h0 (by rw[<- sb_len,e];rfl);rw[hq]at HSf;clear hq h0;go_enter Tryz.func26,Tryz.ntmps26;go_wp2_with fail;refine HSf.u.mono ?_;rintro x W0 ⟨rfl,rfl⟩;clear HSf;cases q
  case false =>
   have HU:=h_ (q8b (m:=m) (s:=s) (fun h=>by
    rcases h with h | h
    . exact HNe.u h
    . rw[(qnz _).2 h]at HQ
      cases HQ.u))
   have HB:=h_ (bR W0.heap.size W0);go_wp2_with fail
   go_ret2
   exact DcO.of [] false rfl HU.u (qmv _ _) HB.u
  have HEn:Hi (sb s=[]∨(sb s).getLast? = some 10):=h_ (.inr ((qnz _).1 HQ.u));clear HQ HNe;obtain⟨w,rfl⟩:=Nq W0;go_wp2_with fail
 all_goals
  refine HCl.u.mono ?_;rintro x W1 ⟨la,l,lc,rfl,hst,hcut,hb⟩;have HB:=h_ hb;replace HX:=h_ (HX.u.mono hb);replace HN:=h_ (HN.u.mono hb);have HSt:=h_ hst;have HCt:=h_ hcut;have HLn:Hi ((cutL (sb s)).length=l.length):=h_ (by rw[<- hcut,Z6]);clear hb hst hcut h0' HCl;by_cases h4:(4000:Int)<l.length
  . have HU:=h_ (q8c HV.u (s:=s) (by rw[HLn.u];omega))
    go_wp2_with fail
    go_ret2
    exact DcO.of [] false rfl HU.u (qmv _ _) HB.u
  have h4':l.length<=4000:=by omega
  have hsc:=HSe.u _ HX.u.blk;obtain⟨s0,s1,s2,s3⟩:=hsc;go_wp2_with fail;refine(HCr.u W1 (HRl.u _ HX.u)).mono ?_;rintro x W2 ⟨ra,rc,rfl,hrs,hb⟩;replace HX:=h_ (HX.u.mono hb);replace HN:=h_ (HN.u.mono hb);replace HSt:=h_ (HSt.u.mono hb);replace HB:=mT HB hb;have HC1:=h_ (HCp.u ra rc W2 hrs);clear hb hrs s0 s1 s2 s3 HCr HCp HSe HRl;go_wp2_with fail;refine HC1.u.mono ?_;rintro x W3 ⟨rfl,hpm,hb⟩;obtain⟨rb,hrb⟩:=Nq W2.heap.size;rw[hrb]at hpm⊢;replace HX:=h_ (HX.u.mono hb);replace HN:=h_ (HN.u.mono hb);replace HSt:=h_ (HSt.u.mono hb);replace HB:=mT HB hb;have HPm:=h_ hpm;clear hb hpm hrb HC1;go_wp2_with fail;go_loopw [7,35] (fun v i wr=>∃(k:Nat) (g:List Ex),k<=l.length/\i=J6 k/\PrL m s k g/\OwnE wr W3.heap.size v g/\Below W3.heap.size W3 wr) (fun _ i _=>l.length - (intOf i).toNat)
  case atStart=>exact⟨0,[],nZ _,rfl,PrL.nil m s,qmv _ _,bR _ _⟩
  case round =>
   obtain⟨k,g,hk,rfl,hpr,hog,hb⟩:=hrel;have hgl:=hpr.1;have HPr:=h_ hpr;have HOg:=h_ hog;have HX1:=h_ (HX.u.mono hb);have HN1:=h_ (HN.u.mono hb);have HSt1:=h_ (HSt.u.mono hb);have HPm1:=h_ (HPm.u.mono hb);have HB1:=mT HB hb;have HB0:=h_ hb;clear hpr hog hb;by_cases hlt:k<l.length
   . have hlt':=i_lt hlt
     obtain⟨lb,lo,esa,hlb,zl⟩:=HSt1.u k hlt;subst esa;have HAt:=h_ (cut_at HCt.u hlt);have hpz:=cut_sz HCt.u hlt;generalize l[k]=p at *;have HC2:=h_ (HCw.u p (k+1) rb wr (by omega) (by omega) HX1.u HPm1.u HN1.u);rw[show((k+1:Nat):Int)=(k:Int)+1 by omega]at HC2;go_wp2_with fail;refine HC2.u.mono ?_;rintro x W5 ⟨y,ok,rfl,hu,hb⟩;replace hb:=hb.trans (((bR W5.heap.size W5).alloc (nR _) (.cells (Jh y.r y.f y.v.k y.v.n y.v.s) 52)).mono hb.size);have HM:=h_ (Blk.new W5 52 (Jh y.r y.f y.v.k y.v.n y.v.s));have HU:=h_ hu;have HOg9:=h_ (qdv HOg.u hb);have HB9:=mT HB1 hb;have HB8:=mT HB0 hb;obtain⟨ge,hge⟩:=Nq W5.heap.size;obtain⟨W9,hW9⟩:=Nq (W5.alloc (.cells (Jh y.r y.f y.v.k y.v.n y.v.s) 52));rw[hge]at HM;rw[hW9]at HM HOg9 HB9 HB8;clear hb hu HC2 zl;unfold ev;cases ok
     . have HU2:=h_ (PrL.no HV.u HAt.u HU.u).2
       go_wp2_with fail
       try rw[hW9]
       go_ret2
       exact DcO.of [] false rfl HU2.u (qmv _ _) HB9.u
     . have HU2:=h_ (HPr.u.snoc HAt.u HU.u)
       have HNw:Hi (Blk _ _ 52 (eC y)):=h_ (Blk.new W9 52 (Jh y.r y.f y.v.k y.v.n y.v.s));have HSa:=h_ ((bR W9.heap.size W9).alloc (nR _) (.cells (Jh y.r y.f y.v.k y.v.n y.v.s) 52));obtain⟨t0,t1,t2,t3,t4⟩:=five HM.u;go_wp2_with (at_builtin;(try rw[hW9]);refine qfe (y:=y) rfl _ _ rfl rfl (qdv HOg9.u HSa.u) rfl HNw.u (by omega) (Zf HB8.u.size HSa.u.size) ?_);intro v' Wf ho hbf;have HOf:=h_ ho;have HBf:=h_ (HB8.u.trans ((HSa.u.mono HB8.u.size).trans hbf));clear ho hbf;go_wp2_with fail;go_roundw
       case rel=>first | exact⟨k+1,_,by omega,by go_num,HU2.u,HOf.u,HBf.u⟩ | ((repeat apply Exists.intro);exact⟨⟨k+1,_,by omega,by go_num,HU2.u,HOf.u,HBf.u⟩,rfl⟩)
       case measure=>simp[intOf];omega
   . obtain rfl:k=l.length:=by omega
     have hlt':¬ (l.length:Int)<(l.length:Int):=(by omega);have HU:=h_ (HPr.u.yes HLn.u h4' HEn.u);have HO9:=h_ (qmw HOg.u HB.u.size);go_wp2_with fail
     go_ret2
     exact DcO.of g true rfl HU.u HO9.u HB1.u
theorem q8r (m:Fm)(A:MA)(s:ByteArray)(w:World)(hS:∀W,MSl W m A->Tabs W->TyW W->Tab W->Calls Tryz.prog 25 #[mV m A] W fun x w'=>x=.returned (.tuple #[.pointer none,.bool false])/\Below W.heap.size W w')(ha:MSl w m A)(he:Env w) :
 Calls Tryz.prog 7 #[mV m A,.string s] w fun x w'=>∃v,x=.returned (.tuple #[v,.bool false])/\OwnE w' w.heap.size v []/\Below w.heap.size w w':=by
 have HC0:=h_ hS
 obtain⟨al,alc,ap,apc,ar,arc,af,afc,afa⟩:=A
 unfold mV at HC0⊢
 dsimp only at HC0⊢
 have HK:=h_ (Blk.new w 36 (Jb al m alc ap apc ar arc af afc))
 have HB:=h_ ((bR w.heap.size w).alloc (nR _) (.cells (Jb al m alc ap apc ar arc af afc) 36))
 obtain⟨W0,hW0⟩:=Nq (w.alloc (.cells (Jb al m alc ap apc ar arc af afc) 36))
 rw[hW0]at HK HB
 have HN:=he.mono HB.u
 have HC:=h_ (HC0.u W0 (ha.mono HB.u) HN.t HN.y HN.b)
 obtain⟨y0,y1,y2,y3⟩:=quad HK.u
 clear ha he hS HC0 HN
 go_enter Tryz.func7,Tryz.ntmps7
 go_wp2_with fail
 try rw[hW0]
 refine HC.u.mono ?_
 rintro x W1 ⟨rfl,hb⟩
 replace HB:=mT HB hb
 clear hb hW0 y0 y1 y2 y3
 go_wp2_with fail
 go_ret2
 exact⟨_,rfl,qmv _ _,HB.u⟩
theorem q8s (m:Fm)(A:MA)(n:Nat)(F:Nat->Bool)(f:Nat->Nat)(s:ByteArray)(w:World)(hv:VfA m)(hN:m.L.length=n)(hs:s.size<=1048576)(hS:∀W,MSl W m A->Tabs W->TyW W->Tab W->Calls Tryz.prog 25 #[mV m A] W fun x w'=>∃S WD Sh Bs u pl,x=.returned (.tuple #[J9 Sh 0,.bool true])/\W.heap.size<=WD.heap.size/\Shet m A n F f S WD Sh Bs (fun _=>zCx) m.F.length u pl w'/\Below W.heap.size W w')(ha:MSl w m A)(he:Env w) :
 Calls Tryz.prog 7 #[mV m A,.string s] w fun x w'=>DcO m s w x w':=by
 have HC0:=h_ hS
 have HCd:=h_ fun S WD Sh Bs u pl W (h:Shet m A n F f S WD Sh Bs (fun _=>zCx) m.F.length u pl W) (h2:Env W)=>q5j m A n F f S WD Sh Bs u pl s W hv hN hs h h2
 obtain⟨al,alc,ap,apc,ar,arc,af,afc,afa⟩:=A
 unfold mV at HC0⊢
 dsimp only at HC0⊢
 have HK:=h_ (Blk.new w 36 (Jb al m alc ap apc ar arc af afc))
 have HB:=h_ ((bR w.heap.size w).alloc (nR _) (.cells (Jb al m alc ap apc ar arc af afc) 36))
 obtain⟨W0,hW0⟩:=Nq (w.alloc (.cells (Jb al m alc ap apc ar arc af afc) 36))
 rw[hW0]at HK HB
 have HN:=h_ (he.mono HB.u)
 have HC:=h_ (HC0.u W0 (ha.mono HB.u) HN.u.t HN.u.y HN.u.b)
 obtain⟨y0,y1,y2,y3⟩:=quad HK.u
 clear ha he hS HC0 hv hN hs
 go_enter Tryz.func7,Tryz.ntmps7
 go_wp2_with fail
 try rw[hW0]
 refine HC.u.mono ?_
 rintro x W1 ⟨S,WD,Sh,Bs,u,pl,rfl,hle,hX,hb⟩
 replace HB:=mT HB hb
 have HC1:=h_ (HCd.u S WD Sh Bs u pl W1 hX (HN.u.mono hb))
 clear hb hW0 y0 y1 y2 y3 hX hle HC HK HCd HN
 go_wp2_with fail
 refine HC1.u.mono ?_
 rintro x W2 ⟨v,l,ok,rfl,hd,ho,hb⟩
 have HD:=h_ hd;have HO:=h_ (qmw ho HB.u.size)
 replace HB:=mT HB hb
 clear hd ho hb HC1
 go_wp2_with fail
 go_ret2
 exact DcO.of l ok rfl HD.u HO.u HB.u
end Go.Proofs.YtgojgjlninakjaaGreatDoor
