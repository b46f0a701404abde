import Derived.Test.YtfmammdgehbjhaaGreatDoorW35
import Derived.Test.YtfmammdgehbjhaaGreatDoorW38
set_option maxRecDepth 100000
set_option maxHeartbeats 64000000
namespace Go.Proofs.YtfmammdgehbjhaaGreatDoor
open Go Go.RowKit
theorem twinP {w:World}{b:Nat}{t:TypeId}{v0 v1:Value}(h:Blk w b t [v0,v1]):w.cell? ⟨b,0,none⟩=some v0/\w.cell? ⟨b,1,none⟩=some v1:=⟨h.cell 0,h.cell 1⟩
theorem qdd {w:World}{base n c:Nat}{a:Option Addr}{l:List ByteArray}(h:OwnS w base (.slice a n c) l):c<=9223372036854775807:=by
 rcases h.2 with ⟨e,-⟩ | ⟨g,cap,cur,e,-,-,-,h5,-⟩
 . cases e;omega
 . cases e;unfold maxLen at h5;omega
theorem qib (ts:List ByteArray):(∀T,T∈(splT ts).1->T.length+1<=ts.length/\∀t,t∈T->t∈ts)/\(splT ts).2.length<=ts.length/\∀t,t∈(splT ts).2->t∈ts:=by
 induction ts with
 | nil=>exact⟨fun T h=>(by cases h),nR _,fun t h=>(by cases h)⟩
 | cons a r ih =>
  by_cases ha:a=kSemi
  . rw[splT,Yn ha]
    refine⟨fun T h=>?_,by have:=ih.2.1;rw[Yl];exact Nat.le_succ_of_le this,fun t h=>Zp _ (ih.2.2 t h)⟩;rcases Y9.1 h with rfl | h
    . exact⟨by simp,fun t h=>(by cases h)⟩
    . exact⟨by have:=(ih.1 T h).1;rw[Yl];omega,fun t ht=>Zp _ ((ih.1 T h).2 t ht)⟩
  . rw[splT,Yi ha]
    cases hs:(splT r).1 with
    | nil =>
     refine⟨fun T h=>(by cases h),by have:=ih.2.1;simp only[Yl];omega,fun t h=>?_⟩;rcases Y9.1 h with rfl | h
     . exact Zd
     . exact Zp _ (ih.2.2 t h)
    | cons T Ts =>
     rw[hs]at ih;refine⟨fun U h=>?_,by have:=ih.2.1;simp only[Yl];omega,fun t h=>Zp _ (ih.2.2 t h)⟩;rcases Y9.1 h with rfl | h
     . refine⟨by have:=(ih.1 T Zd).1;simp only[Yl];omega,fun t ht=>?_⟩
       rcases Y9.1 ht with rfl | ht
       . exact Zd
       . exact Zp _ ((ih.1 T Zd).2 t ht)
     . have:=ih.1 U (Zp _ h)
       exact⟨by rw[Yl];omega,fun t ht=>Zp _ (this.2 t ht)⟩
theorem qa7 (ts:List ByteArray)(hl:ts.length<=1048576)(hz:∀t,t∈ts->t.size<=1048576):∀L,L∈prtL ts->L.length<=1048576/\∀t,t∈L->t.size<=1048576:=fun L hL=>by
 obtain⟨h1,h2,h3⟩:=qib ts
 unfold prtL at hL
 rcases Zg.1 hL with h | h
 . obtain⟨T,hT,rfl⟩:=Z4.1 h
   obtain⟨g1,g2⟩:=h1 T hT;refine⟨by rw[Yf,Va];omega,fun t ht=>?_⟩;rcases Zg.1 ht with h | h
   . exact hz t (g2 t h)
   . rw[Y7.1 h];decide
 . unfold tlP at h
   split at h
   . cases h
   . rw[Y7.1 h]
     exact⟨by omega,fun t ht=>hz t (h3 t ht)⟩
theorem row_of {w:World}{base:Nat}{v:Value}{sg:List (Option Addr × Nat × Nat)}(h:w.ownsRow base 22 1 v sg.length (sgV sg)):∃aS cs,v=.slice aS sg.length cs/\(0<sg.length->∃g cur,aS=some ⟨g,0,none⟩/\Blk w g 22 cur/\∀j,j<sg.length->cur[j]? = (sgV sg)[j]?):=by
 rcases h.2 with ⟨e,h0⟩ | ⟨g,cap,cur,e,hg,hq,h4,h5,h6,h7⟩
 . exact⟨none,0,by rw[e,h0],fun h=>by omega⟩
 . refine⟨some ⟨g,0,none⟩,cap,e,fun _=>⟨g,cur.toList,rfl,by show w.heap[g]? = _;rw[hq],fun j hj=>?_⟩⟩
   have h8:(cur.toList.take (sg.length*1))[j]? = (sgV sg)[j]?:=by rw[h7]
   rw[Vi (by omega)]at h8;exact h8
theorem q89 {W1 X1:World}{a:Option Addr}{l:List ByteArray}(h:Strs X1 a l)(hb:Below W1.heap.size W1 X1)(hG:Blk X1 W1.heap.size 60 (Jt).toList)(hz:X1.heap.size=W1.heap.size+1):Strs W1 a l:=fun k hk=>by
 obtain⟨b,o,e,h1,h2⟩:=h k hk
 have hne:b≠W1.heap.size:=fun e'=>by
  subst e';have h3:=(hG.cell (o+k)).symm.trans h2;have hm:=List.mem_of_getElem? h3;simp at hm
 exact⟨b,o,e,by omega,(hb.cell (p:=⟨b,o+k,none⟩) (by show b<_;omega)).symm.trans h2⟩
theorem q64 {w:World}{g:Nat}{t:TypeId}{x:Value}(h:Blk w g t [x]):Below w.heap.size w (w.setCell ⟨g,0,none⟩ x):=by
 have h0:=(bR 0 w).setCell (p:=⟨g,0,none⟩) (nZ _) x
 refine⟨h0.os,h0.tape,h0.output,h0.size,fun b hb=>?_⟩
 by_cases e:b=g
 . subst e
   exact(h.set 0 x).trans h.symm
 . exact heap_setCell_other w ⟨g,0,none⟩ b x (fun e'=>e e')
def AtQ (s:ByteArray)(k:Nat)(L:List ByteArray)(m:Fm)(last G B Yz:Nat)(Z:World)(code:Int)(w1:World):Prop:=(code=0/\(∃x P' u1 u2 u3 u4 n0 n1 n2 n3,PrtS L x/\addS m last x=.inr (mkS m x)/\FRd w1 G B (mkS m x) P' x.kind u1 u2 u3 u4 n0 n1 n2 n3/\Below G Z w1/\(∀g t cs,Blk Z g t cs->t≠60->t≠9->t≠84->t≠86->t≠52->Blk w1 g t cs))/\Blk w1 Yz 3 [.int .i64 0])∨(code≠0/\FrmA s fm0 code (k:Nat)/\Below Z.heap.size Z w1)
def FpO (s:ByteArray)(w:World)(r:Ending)(w':World):Prop:=∃(m:Fm) (code at':Int) (v1 v2 v3 v4:Value) (P:List (Fl × FA)),FrmA s m code at'/\VfB m/\Flt m/\r=.returned (.tuple #[.agg #[v1,v2,v3,v4],.agg #[.int .i64 code,.int .i64 at']])/\OwM w' w.heap.size v1 v2 v3 v4 m P/\Asc w.heap.size (P.flatMap fvs) w'.heap.size/\Below w.heap.size w w'
theorem TyT.tyW {w:World}(h:TyT w):TyW w:=⟨h.1,fun k h1 h2=>(h.2 k h1 h2).trans (by
 obtain rfl | rfl | rfl:k=1∨k=2∨k=3:=by omega
 all_goals rfl)⟩
theorem q2z (s:ByteArray)(w:World)(hs:s.size<=1048576)(hw:Wrds w)(hp:Pow w)(q1:ErrV "strconv.ErrSyntax" w) (q2:ErrV "strconv.ErrRange" w) (hy:TyT w) (hkl:KdL w) :
 Calls Tryz.prog 5 #[.string s] w (FpO s w):=by
 have hmf:∀(fn:Fn) (first cap:Array Value) (w:World),(Instr.makeFunc fn first cap).run Tryz.prog w=.ok (.func fn first cap) w:=fun _ _ _ _=>rfl
 have HB:=h_ (((bR w.heap.size w).alloc (nR _) (.cells Jc 27)).alloc (by simp) (.cells J4 29))
 have HZ:=h_ ((Blk.new w 27 Jc).alloc (.cells J4 29))
 have HD:=h_ (Blk.new (w.alloc (.cells Jc 27)) 29 J4)
 rw[Yy]at HD
 obtain⟨W0,hW0⟩:=Nq ((w.alloc (.cells Jc 27)).alloc (.cells J4 29))
 have hz0:W0.heap.size=w.heap.size+2:=by rw[<- hW0];simp
 rw[hW0]at HB HZ HD
 by_cases hbig:30000<s.size
 case pos =>
  as_aux_lemma =>
   have hbig':(30000:Int)<(s.size:Int):=by omega
   have HA:Hi (FrmA s fm0 1 0):=h_ (.inl ⟨hbig,rfl,rfl,rfl⟩);clear hbig;go_enter Tryz.func5,Tryz.ntmps5;go_upto_region 2 with fail
   try rw[hW0]
   have HD2:=h_ (HD.u.rowS_other (g:=w.heap.size) (by omega) Jc);have hZ3:=(HZ.u.rowS Jc.toList).rowS_other (g:=w.heap.size+1) (by omega) #[Ya 1,Ya 0];have hD3:=HD2.u.rowS #[Ya 1,Ya 0].toList;obtain⟨p0,p1,p2,p3⟩:=quad hZ3;obtain⟨p4,p5⟩:=twinP hD3;go_wp2_with (first | (refine stR HZ.u ?_) | (refine stR HD2.u ?_));exact bodyPost_ret (v:=.tuple #[.agg Jc,.agg #[Ya 1,Ya 0]]) (by simp[results,Tryz.results5,go_sem,p0,p1,p2,p3,p4,p5]) rfl ⟨fm0,1,0,_,_,_,_,[],HA.u,qjp,qgc,rfl,OwM.nil _ _,(by show w.heap.size<=_;rw[qe6,qe6];omega),q8i (q8i HB.u (nR _) _) (by omega) _⟩
 have hbig':¬ (30000:Int)<(s.size:Int):=by omega
 have HSc:=h_ (qe0 s W0 hs (hp.mono (by first | exact HB.u | exact HB.u)) (q1.mono HB.u) (q2.mono HB.u))
 have HLe:Hi (s.size<=30000):=h_ (by omega)
 have HW:=h_ hw;have HP:=h_ hp;have HQ1:=h_ q1;have HQ2:=h_ q2;have HY:=h_ hy;have HKl:=h_ hkl
 clear hbig hw hp q1 q2 hy hkl
 go_enter Tryz.func5,Tryz.ntmps5
 go_wp2_with fail
 try rw[hW0]
 clear hW0
 refine HSc.u.mono ?_
 rintro e W1 ⟨vt,z,rfl,hsc,hb1⟩
 replace HZ:=h_ (HZ.u.mono hb1 (by omega));replace HD:=h_ (HD.u.mono hb1 (by omega));replace HB:=h_ (HB.u.trans (hb1.mono (by omega)))
 have hz1:=hb1.size
 clear hb1 HSc
 unfold ScnA at hsc
 cases hlx:lxF s s.size 0 [] with
 | inl i =>
  rw[hlx]at hsc;obtain⟨rfl,rfl⟩:=hsc;have HA:Hi (FrmA s fm0 2 (i:Nat)):=h_ (.inr ⟨HLe.u,.inl ⟨i,hlx,rfl,rfl,rfl⟩⟩);have hz:(0:Int)<=(i:Int):=by omega
  clear hlx
  as_aux_lemma =>
   have HD2:=h_ (HD.u.rowS_other (g:=w.heap.size) (by omega) Jc);have hZ3:=(HZ.u.rowS Jc.toList).rowS_other (g:=w.heap.size+1) (by omega) #[Ya 2,Ya (i:Nat)];have hD3:=HD2.u.rowS #[Ya 2,Ya (i:Nat)].toList;obtain⟨p0,p1,p2,p3⟩:=quad hZ3;obtain⟨p4,p5⟩:=twinP hD3;go_upto_region 5 with fail
   go_wp2_with (first | (refine stR HZ.u ?_) | (refine stR HD2.u ?_));exact bodyPost_ret (v:=.tuple #[.agg Jc,.agg #[Ya 2,Ya (i:Nat)]]) (by simp[results,Tryz.results5,go_sem,p0,p1,p2,p3,p4,p5]) rfl ⟨fm0,2,(i:Nat),_,_,_,_,[],HA.u,qjp,qgc,rfl,OwM.nil _ _,(by show w.heap.size<=_;rw[qe6,qe6];omega),q8i (q8i HB.u (nR _) _) (by omega) _⟩
 | inr ts =>
  rw[hlx]at hsc;obtain⟨rfl,hos,hln,hvt⟩:=hsc;have HQ0:=h_ (QfI.start HLe.u hlx);obtain⟨a,c,rfl,hcl,hst⟩:=hos.strs;have htz:∀t,t∈ts->t.size<=1048576:=fun t ht=>by have:=(hvt t ht).2;omega
  have htl:ts.length<=1048576:=by omega
  have HTz:=h_ htz;have HSt:=h_ hst;have hcb:c<=9223372036854775807:=qdd hos;obtain⟨G,hG⟩:=Nq W1.heap.size;have hb2:=(bR W1.heap.size W1).alloc (nR _) (.cells Jt 60);have hK:=Blk.new W1 60 Jt;obtain⟨X1,hX1⟩:=Nq (W1.alloc (.cells Jt 60));have hzx:X1.heap.size=G+1:=by rw[<- hX1];simp[hG]
  rw[hX1]at hb2 hK;have HSs:=h_ (q0n a c ts X1 hcl htl hcb (hst.mono hb2));rw[hG]at hK hb2;have HK:=h_ hK;have HBx:=h_ hb2;clear hos hln hvt hst hlx htz hb2 hK;have HX1e:=h_ hX1;have hsz1:X1.heap.size=W1.heap.size+1:=by omega
  have HKx:=h_ (show Blk X1 W1.heap.size 60 (Jt).toList by rw[hG];exact HK.u);have HBx1:=h_ (show Below W1.heap.size W1 X1 by rw[hG];exact HBx.u);clear hX1;go_wp2_with fail;rw[HX1e.u];refine HSs.u.mono ?_;rintro e W2 ⟨vs,sg,rfl,hrow,hsg,hsgl,hb2⟩;have HRow:Hi (∃aS cs,vs=.slice aS sg.length cs/\(0<sg.length->∃g cur,aS=some ⟨g,0,none⟩/\Blk W2 g 22 cur/\∀j,j<sg.length->cur[j]? = (sgV sg)[j]?)):=h_ (row_of hrow);obtain⟨aS,cs,hvs,hcs⟩:=HRow.u;subst hvs;obtain⟨B,hB⟩:=Nq W2.heap.size;have hz2:G+1<=B:=by have:=hb2.size;omega
  have hK2:=HK.u.mono hb2 HK.u.lt;have HF2:Hi (FRd W2 G B fm0 [] 0 Yb Yb Yb Yb (.map none) (.map none) (.map none) (.map none)):=h_ ⟨hK2,OwM.nil _ _,.inl ⟨rfl,rfl⟩,.inl ⟨rfl,rfl⟩,.inl ⟨rfl,rfl⟩,.inl ⟨rfl,rfl⟩,(fun g e=>by cases e),(fun g e=>by cases e),(fun g e=>by cases e),(fun g e=>by cases e),(fun g e=>by cases e),(fun g e=>by cases e),(fun g e=>by rcases e with e | e | e | e <;> cases e),(by show B<=_;omega),by omega,by omega⟩;have HBx2:=h_ (HBx.u.trans (hb2.mono (by omega)));have HSg:Hi (sg.length=(prtL ts).length/\∀j (h:j<sg.length) (h':j<(prtL ts).length),sg[j].2.1=(prtL ts)[j].length/\sg[j].2.1<=sg[j].2.2/\Strs W1 sg[j].1 (prtL ts)[j]):=h_ ⟨hsg.1,fun j h h'=>⟨(hsg.2 j h h').1,(hsg.2 j h h').2.1,q89 (hsg.2 j h h').2.2 HBx1.u HKx.u hsz1⟩⟩;have HCs:=h_ hcs;clear hrow hsg hcs hb2 HSs HRow hK2 HKx HBx1 HK HBx;have HPz:Hi (∀L,L∈prtL ts->L.length<=1048576/\∀t,t∈L->t.size<=1048576):=h_ (qa7 ts htl HTz.u);go_wp2_with fail;go_loopw [29] (fun v29 wr=>∃(k:Nat) (m:Fm) (P:List (Fl × FA)) (last:Nat) (u1 u2 u3 u4 n0 n1 n2 n3:Value),v29=Ya k/\k<=sg.length/\QfI s (prtL ts) m last k/\FRd wr G B m P last u1 u2 u3 u4 n0 n1 n2 n3/\Below G W1 wr/\(∀g t cs,Blk W2 g t cs->t≠60->t≠9->t≠84->t≠86->t≠52->Blk wr g t cs)) (fun v29 _=>sg.length - (intOf v29).toNat)
  case atStart=>exact⟨0,fm0,[],0,_,_,_,_,_,_,_,_,rfl,nZ _,HQ0.u,HF2.u,HBx2.u,fun g t cs h _ _ _ _ _=>h⟩
  case round =>
   obtain⟨k,m,P,last,u1,u2,u3,u4,n0,n1,n2,n3,rfl,hk,hQ,hF,hbG,hfr⟩:=hrel;have HQ:=h_ hQ;have HF:=h_ hF;have HBG:=h_ hbG;have HFr:=h_ hfr;have HZr:=h_ (HZ.u.mono hbG (by omega));have HDr:=h_ (HD.u.mono hbG (by omega));have HBr:=h_ (HB.u.trans (hbG.mono (by omega)));have hwz:G<wr.heap.size:=hF.blk.lt;have hla:=hQ.la;clear hQ hF hbG hfr HQ0 HF2 HBx2;by_cases hlt:k<sg.length
   case pos =>
    as_aux_lemma =>
     have hlt':(k:Int)<(sg.length:Int):=(by omega);have hltL:k<(prtL ts).length:=(by have:=HSg.u.1;omega);obtain⟨gS,cur,haS,hcur,hcj⟩:=HCs.u (by omega);subst haS;obtain⟨sk1,sk2,sk3⟩:=HSg.u.2 k hlt hltL;obtain⟨L,hL⟩:=Nq ((prtL ts)[k]);have hcell:wr.cell? ⟨gS,k,none⟩=some (.slice sg[k].1 sg[k].2.1 sg[k].2.2):=((HFr.u gS _ _ hcur (by decide) (by decide) (by decide) (by decide) (by decide)).cell k).trans ((hcj k hlt).trans (by unfold sgV;rw[Vs,Yk hlt];rfl));have HNone:Hi ((∀x,¬ PrtS L x)->FrmA s fm0 3 (k:Nat)):=h_ (by rw[<- hL];exact HQ.u.none hltL);have HBad:Hi (∀x (cc:Nat),PrtS L x->addS m last x=.inl cc->FrmA s fm0 (cc:Nat) (k:Nat)):=h_ (by rw[<- hL];exact fun x cc h1 h2=>HQ.u.bad hltL h1 h2);have hpz:=HPz.u (prtL ts)[k] (Ys hltL);have HStep:Hi (∀x,PrtS L x->addS m last x=.inr (mkS m x)->QfI s (prtL ts) (mkS m x) x.kind (k+1)):=h_ (by rw[<- hL];exact fun x h1 h2=>HQ.u.step hltL hpz.1 hpz.2 h1 h2);have HSmi:Hi (Smi L):=h_ (by rw[<- hL];exact HQ.u.smi hltL);rw[hL]at sk1 sk3 hpz;have HVf:=h_ HQ.u.v;obtain⟨⟨ak,nk,ck⟩,hsgk⟩:∃y,sg[k]=y:=⟨_,rfl⟩;rw[hsgk]at hcell sk1 sk2 sk3;dsimp only at hcell sk1 sk2 sk3;subst sk1;have hbY:=(bR wr.heap.size wr).alloc (nR _) (.cells #[.slice ak L.length ck] 22);have hP2:=Blk.new wr 22 #[.slice ak L.length ck];obtain⟨G8,hG8⟩:=Nq wr.heap.size;obtain⟨Y,hY⟩:=Nq (wr.alloc (.cells #[.slice ak L.length ck] 22));rw[hY]at hP2 hbY;replace hP2:Blk Y G8 22 [.slice ak L.length ck]:=(by rw[<- hG8];exact hP2);have hbZ:=(bR Y.heap.size Y).alloc (nR _) (.cells #[Ya 0] 3);have hI:=Blk.new Y 3 #[Ya 0];obtain⟨Z,hZ⟩:=Nq (Y.alloc (.cells #[Ya 0] 3));rw[hZ]at hbZ hI;have hbwZ:Below wr.heap.size wr Z:=hbY.trans (hbZ.mono hbY.size);have hBZ:Below w.heap.size w Z:=HBr.u.trans (hbwZ.mono HBr.u.size);have hrc:RC Z ak L:=⟨sk3.mono (by rw[hG];exact HBG.u.trans (hbwZ.mono (by omega))),HW.u.mono hBZ,HP.u.mono hBZ,HQ1.u.mono hBZ,HQ2.u.mono hBZ,hpz.1,hpz.2⟩;have hClo:=q2p G B G8 m P last u1 u2 u3 u4 n0 n1 n2 n3 ak ck L Z (HF.u.mono hbwZ) HVf.u hrc sk2 (HY.u.mono hBZ) (HKl.u.mono hBZ) HSmi.u hla (hP2.mono hbZ hP2.lt);have HAt:=h_ (q61 #[Yd G 0,Yd G8 0] Y (fun code w1=>AtQ s k L m last G B Y.heap.size Z code w1) (by
      rw[hZ];refine hClo.mono ?_;rintro e w1 (⟨code,rfl,hb,hh⟩ | ⟨x,P',a1,a2,a3,a4,b0,b1,b2,b3,hx,ha,rfl,hf,hb,hfr2⟩)
      . refine .inl ⟨code,.inr ⟨?_,?_,hb⟩,rfl,hI.mono hb hI.lt⟩
        . rcases hh with ⟨-,rfl⟩ | ⟨x,cc,-,-,h0,rfl⟩
          . decide
          . omega
        . rcases hh with ⟨h1,rfl⟩ | ⟨x,cc,h1,h2,-,rfl⟩
          . exact HNone.u h1
          . exact HBad.u x cc h1 h2
      . exact .inr ⟨.inl ⟨rfl,⟨x,P',a1,a2,a3,a4,b0,b1,b2,b3,hx,ha,hf,hb,hfr2⟩,hfr2 _ _ _ hI (by decide) (by decide) (by decide) (by decide) (by decide)⟩,rfl,hfr2 _ _ _ hI (by decide) (by decide) (by decide) (by decide) (by decide)⟩))
     have HBwZ:=h_ hbwZ;have HbY:=h_ hbY;have HG8e:=h_ hG8;have HYe:=h_ hY;have hsYw:=hbY.size;clear hP2 hbY hbZ hI hbwZ hBZ hrc hClo hG8 hY hZ sk2 sk3 hpz hsgk hcur hcj hL;go_wp2_with fail;rw[HYe.u,HG8e.u];refine HAt.u.mono ?_;rintro e W5 ⟨code,w5,hq,rfl,hw5⟩;rcases hq with ⟨rfl,⟨x,P',a1,a2,a3,a4,b0,b1,b2,b3,hx,ha,hf,hb,hfr2⟩,hI5⟩ | ⟨hne,hA,hb5⟩
     case inl =>
      as_aux_lemma =>
       have hbs:=q64 hI5;rw[<- hw5]at hbs;have HQ2n:=h_ (HStep.u x hx ha);have HF3:=h_ (hf.mono hbs);have hzw5:=hb.size;have HBG3:Hi (Below G W1 W5):=h_ ((HBG.u.trans (HBwZ.u.mono (by omega))).trans (hb.trans (hbs.mono (by have:=hf.blk.lt;omega))));have HFr3:Hi (∀g t cs,Blk W2 g t cs->t≠60->t≠9->t≠84->t≠86->t≠52->Blk W5 g t cs):=h_ fun g t cs h h1 h2 h3 h4 h5=>by
        have g1:=HFr.u g t cs h h1 h2 h3 h4 h5;have g2:=hfr2 g t cs (g1.mono HBwZ.u g1.lt) h1 h2 h3 h4 h5;exact g2.mono hbs g2.lt
       clear hx ha hf hb hfr2 hI5 hbs hw5 hcell HAt;go_wp2_with fail;go_roundw
       case rel=>first | exact⟨k+1,mkS m x,P',x.kind,_,_,_,_,_,_,_,_,by go_num,by omega,HQ2n.u,HF3.u,HBG3.u,HFr3.u⟩ | ((repeat apply Exists.intro);exact⟨⟨k+1,mkS m x,P',x.kind,_,_,_,_,_,_,_,_,by go_num,by omega,HQ2n.u,HF3.u,HBG3.u,HFr3.u⟩,rfl⟩)
       case measure=>simp[intOf];omega
     case inr =>
      as_aux_lemma =>
       have hne':(code != 0)=true:=(by simp;exact hne);have hbW:Below wr.heap.size wr W5:=(by rw[hw5];exact((HBwZ.u.trans (hb5.mono HBwZ.u.size)).setCell (p:=⟨Y.heap.size,0,none⟩) (by show wr.heap.size<=Y.heap.size;omega) _));have HA:=h_ hA;replace HZ:=mB HZr hbW;replace HD:=mB HDr hbW;replace HB:=mT HBr hbW;have hsW5:=hbW.size;clear hA hb5 hbW hw5 hne hcell HAt;have HD2:=h_ (HD.u.rowS_other (g:=w.heap.size) (by omega) Jc);have hZ3:=(HZ.u.rowS Jc.toList).rowS_other (g:=w.heap.size+1) (by omega) (Jw code (k:Nat));have hD3:=HD2.u.rowS (Jw code (k:Nat)).toList;obtain⟨p0,p1,p2,p3⟩:=quad hZ3;obtain⟨p4,p5⟩:=twinP hD3;go_upto_region 12 with fail
       go_wp2_with (first | (refine stR HZ.u ?_) | (refine stR HD2.u ?_));exact bodyPost_ret (v:=.tuple #[.agg Jc,.agg (Jw code (k:Nat))]) (by simp[results,Tryz.results5,go_sem,p0,p1,p2,p3,p4,p5]) rfl ⟨fm0,code,(k:Nat),_,_,_,_,[],HA.u,qjp,qgc,rfl,OwM.nil _ _,(by show w.heap.size<=_;rw[qe6,qe6];omega),q8i (q8i HB.u (nR _) _) (by omega) _⟩
   case neg =>
    as_aux_lemma =>
     obtain rfl:k=sg.length:=(by omega);have hlt':¬ (sg.length:Int)<(sg.length:Int):=(by omega);have hkL:¬ sg.length<(prtL ts).length:=(by have:=HSg.u.1;omega);have HDn:=h_ (HQ.u.done hkL);have hn:=HQ.u.n;have HV:=h_ HQ.u.v;have HFt:=h_ HQ.u.f;have HFm:=h_ (HV.u.fitM HFt.u);have HCt:Hi (Counts m):=h_ ⟨HV.u.nl,HV.u.np,HV.u.nr,HV.u.nf⟩;have nl:=HV.u.nl;have np:=HV.u.np;have nr:=HV.u.nr;have nfl:=HV.u.nf;obtain⟨A,-,hsl,e1,e2,e3,e4,-⟩:=HF.u.own.sl;subst e1 e2 e3 e4;have HSl:=h_ hsl;have HFa:=h_ (q0h m A wr HFm.u HCt.u hsl);unfold mV at HFa;obtain⟨⟨g0,g1,g2,g3,-⟩,-⟩:=thirteen HF.u.blk;clear hsl hkL HQ HFr HCs;go_wp2_with fail;refine HFa.u.mono ?_;rintro e W6 ⟨r,rfl,har,hb6⟩;have hz6:=hb6.size;replace HZ:=mB HZr hb6;replace HD:=mB HDr hb6;replace HB:=mT HBr hb6;replace HF:=h_ (HF.u.mono hb6);replace HSl:=h_ (HSl.u.mono hb6);clear hb6 g0 g1 g2 g3 HFa HZr HDr HBr HBG;obtain⟨⟨g0,g1,g2,g3,-⟩,-⟩:=thirteen HF.u.blk;rcases har with ⟨rfl,hall⟩ | ⟨j,rfl,hj,hbef,hun⟩
     case inr =>
      as_aux_lemma =>
       obtain⟨dv,hdv⟩:=Nq ((m.L.length:Int)+m.P.length+m.R.length+j);have HA:Hi (FrmA s fm0 9 dv):=h_ (by
        have h:=HDn.u _ _ _ (.astray hj hbef hun);rw[show((sg.length:Nat):Int) - m.F.length+j=dv by omega]at h;exact h)
       have HSi:=h_ (q0e m A j W6 HCt.u hj);unfold mV at HSi;rw[hdv]at HSi;have hj0:(0:Int)<=(j:Int):=(by omega);clear hdv hbef hun;go_wp2_with fail;refine HSi.u.mono ?_;rintro e W7 ⟨rfl,hb7⟩;have hz7:=hb7.size;replace HZ:=mB HZ hb7;replace HD:=mB HD hb7;replace HB:=mT HB hb7;clear hb7 g0 g1 g2 g3 HSi;have HD2:=h_ (HD.u.rowS_other (g:=w.heap.size) (by omega) Jc);have hZ3:=(HZ.u.rowS Jc.toList).rowS_other (g:=w.heap.size+1) (by omega) #[Ya 9,Ya dv];have hD3:=HD2.u.rowS #[Ya 9,Ya dv].toList;obtain⟨p0,p1,p2,p3⟩:=quad hZ3;obtain⟨p4,p5⟩:=twinP hD3;go_wp2_with (first | (refine stR HZ.u ?_) | (refine stR HD2.u ?_));exact bodyPost_ret (v:=.tuple #[.agg Jc,.agg #[Ya 9,Ya dv]]) (by simp[results,Tryz.results5,go_sem,p0,p1,p2,p3,p4,p5]) rfl ⟨fm0,9,dv,_,_,_,_,[],HA.u,qjp,qgc,rfl,OwM.nil _ _,(by show w.heap.size<=_;rw[qe6,qe6];omega),q8i (q8i HB.u (nR _) _) (by omega) _⟩
     case inl =>
      as_aux_lemma =>
       have HKa:=h_ hall;have HVv:=h_ (HV.u.vfA hall);have HC:=h_ (q08 m A W6 HFm.u HVv.u HSl.u ⟨HW.u.mono HB.u,HP.u.mono HB.u⟩ (HY.u.mono HB.u).tyW);obtain⟨T,hT⟩:∃T:ByteArray,⟨(cT m).toArray⟩=T:=⟨_,rfl⟩;have hTs:T.size=(cT m).length:=(by rw[<- hT];rfl);have hTb:(cT m).length<=3714016:=(by rw[<- c4_all];exact c4_len HVv.u _);rw[<- hTs]at hTb;rw[hT]at HC;unfold mV at HC;have HTs2:=h_ hTs;clear hT hTs hall;go_wp2_with fail;refine HC.u.mono ?_;rintro e W9 ⟨rfl,hb9⟩;have hz9:=hb9.size;replace HZ:=mB HZ hb9;replace HD:=mB HD hb9;replace HB:=mT HB hb9;replace HF:=h_ (HF.u.mono hb9);clear hb9 g0 g1 g2 g3 HC;by_cases hlg:30000<T.size
       case pos =>
        have hlg':(30000:Int)<(T.size:Int):=(by omega);have HA:Hi (FrmA s fm0 10 0):=h_ (HDn.u _ _ _ (.long HKa.u (by rw[<- HTs2.u];exact hlg)));clear hlg;have HD2:=h_ (HD.u.rowS_other (g:=w.heap.size) (by omega) Jc);have hZ3:=(HZ.u.rowS Jc.toList).rowS_other (g:=w.heap.size+1) (by omega) #[Ya 10,Ya 0];have hD3:=HD2.u.rowS #[Ya 10,Ya 0].toList;obtain⟨p0,p1,p2,p3⟩:=quad hZ3;obtain⟨p4,p5⟩:=twinP hD3;go_upto_region 18 with fail
        go_wp2_with (first | (refine stR HZ.u ?_) | (refine stR HD2.u ?_));exact bodyPost_ret (v:=.tuple #[.agg Jc,.agg #[Ya 10,Ya 0]]) (by simp[results,Tryz.results5,go_sem,p0,p1,p2,p3,p4,p5]) rfl ⟨fm0,10,0,_,_,_,_,[],HA.u,qjp,qgc,rfl,OwM.nil _ _,(by show w.heap.size<=_;rw[qe6,qe6];omega),q8i (q8i HB.u (nR _) _) (by omega) _⟩
       have hlg':¬ (30000:Int)<(T.size:Int):=(by omega);have HA:Hi (FrmA s m 0 0):=h_ (HDn.u _ _ _ (.good HKa.u (by rw[<- HTs2.u];exact hlg)));clear hlg;obtain⟨⟨g0,g1,g2,g3,-⟩,-⟩:=thirteen HF.u.blk;have hwB:w.heap.size<=B:=(by omega);have HD2:=h_ (HD.u.rowS_other (g:=w.heap.size) (by omega) (Jb A m));have hZ3:=(HZ.u.rowS (Jb A m).toList).rowS_other (g:=w.heap.size+1) (by omega) J4;have hD3:=HD2.u.rowS J4.toList;obtain⟨p0,p1,p2,p3⟩:=quad hZ3;obtain⟨p4,p5⟩:=twinP hD3;go_upto_region 19 with fail
       go_wp2_with (first | (refine stR HZ.u ?_) | (refine stR HD2.u ?_));exact bodyPost_ret (v:=.tuple #[.agg (Jb A m),.agg J4]) (by simp[results,Tryz.results5,go_sem,p0,p1,p2,p3,p4,p5]) rfl ⟨m,0,0,_,_,_,_,P,HA.u,HV.u,HFt.u,rfl,((HF.u.own.one HZ.u (by decide) (by decide) (by decide) (by decide) (by decide) (by decide) (rw_k _ _ _)).one HD2.u (by decide) (by decide) (by decide) (by decide) (by decide) (by decide) (rw_k _ _ _)).low hwB,(by rw[qe6,qe6];exact HF.u.asc.low hwB),q8i (q8i HB.u (nR _) _) (by omega) _⟩
end Go.Proofs.YtfmammdgehbjhaaGreatDoor
