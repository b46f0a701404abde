import Derived.Test.YtgkcaeidhkddjaaGreatDoorXGL2
import Derived.Test.YtgkcaeidhkddjaaGreatDoorXZWirO
import Derived.Test.YtgkcaeidhkddjaaGreatDoorXGR
set_option maxRecDepth 100000
set_option maxHeartbeats 20000000
namespace Go.Proofs.YtgkcaeidhkddjaaGreatDoor
open Go Go.RowKit
theorem q3c (X Y:Nat) (J:List Nat->Value->World->Prop) (g c b:Nat) (R:Nat->Option Addr) (RC:Nat->Nat) (rs:List (List Nx)) (names:List ByteArray) (v0:Value) (w:World) (hg:g<w.heap.size) (hn:rs.length<=1000)
 (hc:∀ k (h:k<rs.length),w.cell? ⟨g,k,none⟩=some (.slice (R k) rs[k].length (RC k))/\rs[k].length<=1000000/\NodL w (R k) rs[k]/\(∀ i,i<rs[k].length->Fit (nf rs[k] i))/\knows names rs[k]=true)
 (hnd:names.Nodup) (hm:PMap w b names) (hJ:∀ pre v W W',J pre v W->Below W.heap.size W W'->J pre v W')
 (hstep:∀ pre x v W,Below w.heap.size w W->J pre v W->x<names.length->pre.length<(rs.flatMap (rdL names)).length->Calls Tryz.prog 147 #[v,.int .i64 (x:Nat),.pointer (some ⟨X,0,none⟩),.pointer (some ⟨Y,0,none⟩)] W fun r W'=>∃ v',r=.returned v'/\J (pre++[x]) v' W'/\Below w.heap.size W W')
 (h0:J [] v0 w) :
 Calls Tryz.prog 146 #[.slice (some ⟨g,0,none⟩) rs.length c,.map (some b),v0,.func (.func 147) #[] #[.pointer (some ⟨X,0,none⟩),.pointer (some ⟨Y,0,none⟩)]] w fun r w'=>∃ v,r=.returned v/\J (rs.flatMap (rdL names)) v w'/\Below w.heap.size w w':=by
 have HC:=h_ hc;have HM:=h_ hm;have HJ:=h_ hJ;have HS:=h_ hstep;have H0:=h_ h0;have HG:=h_ hg;have HD:=h_ hnd
 clear hc hm hJ hstep h0 hnd hg
 go_enter Tryz.func146,Tryz.ntmps146
 go_wp2_with fail
 go_loopw [2,15] (fun v i wr=>∃ k:Nat,k<=rs.length/\i=.int .i64 k/\J ((rs.take k).flatMap (rdL names)) v wr/\Below w.heap.size w wr) (fun _ i _=>rs.length - (intOf i).toNat)
 case atStart=>exact ⟨0,nZ _,rfl,u_ H0,bR _ _⟩
 case round =>
  obtain ⟨k,hk,rfl,hj,hb⟩:=hrel
  have HJk:=h_ hj;have HB:=h_ hb
  clear hj hb
  by_cases hlt:k<rs.length
  . have hlt':(k:Int)<rs.length:=by omega
    obtain ⟨hcell,hlen,hnod,hfit,hkn⟩:=u_ HC k hlt
    have z0:=((u_ HB).cell (p:=⟨g,k,none⟩) (u_ HG)).trans hcell
    have HN:=h_ hnod;have HF:=h_ hfit;have HK:=h_ hkn
    have HT:Hid ((rs.take (k+1)).flatMap (rdL names)=(rs.take k).flatMap (rdL names)++rdL names rs[k]):=h_ (qb9 hlt)
    have HLe:Hid (((rs.take k).flatMap (rdL names)).length+(rdL names rs[k]).length<=(rs.flatMap (rdL names)).length):=h_ (qe7 hlt)
    clear hcell hnod hfit hkn
    generalize (rs.take k).flatMap (rdL names)=pre at *
    generalize rs[k]=l at *
    generalize R k=a at *
    generalize RC k=ac at *
    go_wp2_with fail
    go_loopw [2,21] (fun v i w3=>∃ q:Nat,q<=l.length/\i=.int .i64 q/\J (pre++rdL names (l.take q)) v w3/\Below w.heap.size w w3) (fun _ i _=>l.length - (intOf i).toNat)
    case atStart=>exact ⟨0,nZ _,rfl,by have h:=u_ HJk;simpa [rdL] using h,u_ HB⟩
    case round =>
     clear HJk HB z0
     obtain ⟨q,hq,rfl,hj,hb⟩:=hrel
     have HJq:=h_ hj;have HB:=h_ hb
     have HAr:=h_ ((u_ HN).mono hb);have HMr:=h_ ((u_ HM).mono hb)
     clear hj hb
     by_cases hql:q<l.length
     . have hql':(q:Int)<l.length:=by omega
       obtain ⟨pb,po,rfl,-,z0,z1,z2,z3,z4⟩:=u_ HAr q hql
       have HR:Hid ((nf l q).op=1->rdL names (l.take (q+1))=rdL names (l.take q)++[fIdx names (nf l q).nm]/\(nf l q).nm ∈ names):=h_ fun h1=>⟨qk7 hql h1,qbm (u_ HK) (nf_mem hql) h1⟩
       have HRo:Hid (¬ (nf l q).op=1->rdL names (l.take (q+1))=rdL names (l.take q)):=h_ fun h1=>qck hql h1
       have HQl:Hid ((rdL names (l.take (q+1))).length<=(rdL names l).length):=h_ (q48 names l (q+1))
       have HFk:=h_ (u_ HF q hql)
       generalize nf l q=n at *
       have HKf:=h_ (Blk.new wr 200 #[.int .i64 n.op,.int .i64 n.v.k,.int .i64 n.v.n,.string n.v.s,.string n.nm])
       have HBa:=h_ ((bR wr.heap.size wr).alloc (nR _) (.cells #[.int .i64 n.op,.int .i64 n.v.k,.int .i64 n.v.n,.string n.v.s,.string n.nm] 200))
       obtain ⟨Wd,hWd⟩:∃ Wd,wr.alloc (.cells #[.int .i64 n.op,.int .i64 n.v.k,.int .i64 n.v.n,.string n.v.s,.string n.nm] 200)=Wd:=⟨_,rfl⟩
       rw [hWd] at HKf HBa
       have HBf:=h_ ((u_ HB).trans ((u_ HBa).mono (u_ HB).size))
       have HMf:=h_ ((u_ HMr).mono (u_ HBa))
       have HJd:=h_ (u_ HJ _ _ _ _ (u_ HJq) (u_ HBa))
       obtain ⟨x0,x1,x2,x3,x4⟩:=five (u_ HKf)
       by_cases h1:n.op=1
       . have h1':(n.op != 1)=false:=by rw [h1];rfl
         have h1'':(n.op == 1)=true:=by rw [h1];rfl
         obtain ⟨e1,hmem⟩:=u_ HR h1
         have HE:=h_ e1
         have HAt:Hid ((mp names).atKey (kl n.nm) (.lit (.int .i64 0))=.lit (.int .i64 ((fIdx names n.nm:Nat):Int))):=h_ (qhd (u_ HD) hmem _)
         have hxl:=qi2 hmem
         clear h1 e1 hmem HR HRo
         generalize fIdx names n.nm=x at *
         have HKy:Hid (keyOf Tryz.prog 9 (.string n.nm)=some (kl n.nm)):=h_ (WideMaps.keyOf_string_mk Tryz.underlying9 (u_ HFk).2.1)
         have HCa:=h_ (u_ HS _ x _ Wd (u_ HBf) (u_ HJd) hxl (by
          have:=u_ HLe;have:=u_ HQl
          rw [u_ HE,List.length_append] at this
          rw [List.length_append]
          simp at this
          omega))
         go_wp2_with (at_lookup;refine wpList_lookup_own_int _ rfl _ _ 110 rfl 9 3 .i64 (Maps.string_keyed Tryz.underlying9) Tryz.underlying110 Tryz.underlying3 (Tryz.zeroValue3 _) b names.length (mp names) rfl (by first | exact u_ HMf | (rw [hWd];exact u_ HMf)) _ _ rfl (u_ HKy) ?_;intro pc hpc _;obtain rfl:=qj2 hpc (u_ HAt);clear hpc)
         try rw [hWd]
         clear hWd HMf HKy
         refine (u_ HCa).mono ?_
         rintro r W2 ⟨v',rfl,hj2,hb2⟩
         have HJ2:Hid (J (pre++rdL names (l.take (q+1))) v' W2):=h_ (by rw [u_ HE,<- List.append_assoc];exact hj2)
         have HB2:=h_ ((u_ HBf).trans hb2)
         clear hj2 hb2 HCa
         go_wp2_with fail
         go_roundw
         case rel=>first | exact ⟨q+1,by omega,by go_num,u_ HJ2,u_ HB2⟩ | ((repeat apply Exists.intro);exact ⟨⟨q+1,by omega,by go_num,u_ HJ2,u_ HB2⟩,rfl⟩)
         case measure=>simp [intOf];omega
       . have h1':(n.op != 1)=true:=by simp [h1]
         have h1'':(n.op == 1)=false:=by simp [h1]
         have HJ2:=HJd
         rw [<- u_ HRo h1] at HJ2
         clear h1 HR HRo
         go_wp2_with fail
         try rw [hWd]
         clear hWd
         go_roundw
         case rel=>first | exact ⟨q+1,by omega,by go_num,u_ HJ2,u_ HBf⟩ | ((repeat apply Exists.intro);exact ⟨⟨q+1,by omega,by go_num,u_ HJ2,u_ HBf⟩,rfl⟩)
         case measure=>simp [intOf];omega
     . obtain rfl:q=l.length:=by omega
       have hql':¬ (l.length:Int)<(l.length:Int):=by omega
       have HJ2:=HJq
       rw [List.take_of_length_le (nR _),<- u_ HT] at HJ2
       go_wp2_with fail
       go_roundw
       case rel=>first | exact ⟨k+1,by omega,by go_num,u_ HJ2,u_ HB⟩ | ((repeat apply Exists.intro);exact ⟨⟨k+1,by omega,by go_num,u_ HJ2,u_ HB⟩,rfl⟩)
       case measure=>simp [intOf];omega
  . obtain rfl:k=rs.length:=by omega
    have hlt':¬ (rs.length:Int)<(rs.length:Int):=by omega
    have HJ2:=HJk
    rw [List.take_of_length_le (nR _)] at HJ2
    go_wp2_with fail
    go_ret
    exact ⟨_,rfl,u_ HJ2,u_ HB⟩
theorem q3v (X Y n nF x j c5 base:Nat) (f:Nat->Nat) (jn:Nat->Nat->Nat) (J:Nat->Int) (a1 a2 a3 a5:Option Addr) (c1 c2 c3:Nat) (bt top:Int) (w:World) (hn:n<=32) (hx:x<n) (hj:j<nF) (hfj:f j<n) (hJ:J (x*n+f j)=((jn x (f j):Nat):Int)) (hX:Blk w X 114 [.int .i64 n,.slice a1 (n*n) c1,.slice a2 (n*n) c2,.slice a3 (n*n) c3,.int .i64 bt,.int .i64 top]) (hY:Blk w Y 84 [.slice a5 nF c5]) (hI:Ints w a2 (n*n) J) (hR:w.ownsRow base 3 1 (.slice a5 nF c5) nF (ui (lsL f nF))) :
 Calls Tryz.prog 147 #[.int .i64 (x:Nat),.int .i64 (j:Nat),.pointer (some ⟨X,0,none⟩),.pointer (some ⟨Y,0,none⟩)] w fun r w'=>r=.returned (.int .i64 (jn x (f j):Nat))/\Below w.heap.size w w':=by
 obtain ⟨hidx,hw1,hw2,hidx',-⟩:=qbe hx hfj hn
 obtain ⟨g,rfl,hgl,zk⟩:=qkc hR hj
 obtain ⟨b2,o2,rfl,hb2,zj⟩:=hI _ hidx
 rw [hJ] at zj
 have x2:=hX.cell 2;have x0:=hX.cell 0;have y0:=hY.cell 0
 simp only [List.getElem?_cons_zero,List.getElem?_cons_succ] at x2 x0 y0
 have hj':((j:Nat):Int)<(nF:Int):=by omega
 generalize jn x (f j)=u at *
 generalize f j=y at *
 generalize hq1:x*n+y=q1 at *
 generalize hq2:x*n=q2 at *
 generalize hq3:n*n=q3 at *
 clear hX hY hI hR hJ hq1 hq2 hq3 hidx hfj
 go_enter Tryz.func147,Tryz.ntmps147
 go_wp2_with fail
 refine wp_region_held_drew (S:=fun w'=>w'.cell? ⟨X,2,none⟩=some (.slice (some ⟨b2,o2,none⟩) q3 c2)/\w'.cell? ⟨X,0,none⟩=some (.int .i64 n)/\w'.cell? ⟨Y,0,none⟩=some (.slice (some ⟨g,0,none⟩) nF c5)/\w'.cell? ⟨g,j,none⟩=some (.int .i64 (y:Nat))/\w'.cell? ⟨b2,o2+q1,none⟩=some (.int .i64 (u:Nat))) (by kernel_rfl) ⟨x2,x0,y0,zk,zj⟩ (fun zz=>?_)
 clear x2 x0 y0 zk zj
 refine tk 0 7 (.pointer (some ⟨X,2,none⟩)) zz ?_
 refine tk 1 8 (.slice (some ⟨b2,o2,none⟩) q3 c2) zz ?_
 refine tk 2 9 (.int .i64 x) zz ?_
 refine tk 3 10 (.pointer (some ⟨X,0,none⟩)) zz ?_
 simp only [sX,sY,sZ]
 refine tk 4 11 (.int .i64 n) zz ?_
 refine tk 5 12 (.int .i64 q2) zz ?_ (hy:=fun w hS=>by simp [execOp,go_sem, *];exact (IntWalk.i64_left _).trans hw1)
 refine tk 6 13 (.slice (some ⟨g,0,none⟩) nF c5) zz ?_
 refine tk 7 14 (.int .i64 j) zz ?_
 simp only [sX,sY,sZ]
 refine tk 8 15 (.pointer (some ⟨g,j,none⟩)) zz ?_
 refine tk 9 16 (.int .i64 y) zz ?_
 refine tk 10 17 (.int .i64 q1) zz ?_ (hy:=fun w hS=>by simp [execOp,go_sem, *];exact (IntWalk.i64_left _).trans hw2)
 refine tk 11 18 (.pointer (some ⟨b2,o2+q1,none⟩)) zz ?_
 simp only [sX,sY,sZ]
 refine tk 12 19 (.int .i64 u) zz ?_
 refine tk 13 6 (.int .i64 u) zz ?_
 simp only [sX,sY,sZ]
 refine wpAnyH_done (by kernel_rfl) ?_ _
 clear zz
 go_wp2_with fail
 go_ret
 exact ⟨rfl,(bR _ _).drew⟩
theorem q2p (m:Fm) (A:MA) (b g k X Y n bt c5 base:Nat) (f:Nat->Nat) (F:Nat->Nat->Prop) (jn:Nat->Nat->Nat) (J:Nat->Int) (a1 a2 a3 a5:Option Addr) (c1 c2 c3:Nat) (top:Int) (w:World) (hv:VfA m) (hf:FitM m) (hL:LatP n F jn bt) (hn:n<=32) (hJ:∀ a b,a<n->b<n->J (a*n+b)=((jn a b:Nat):Int)) (hfl:∀ k,k<m.F.length->f k<n) (hk:k<m.F.length) (ha:MSl w m A) (hm:PMap w b (fNames m))
 (hg:Blk w g 231 [.slice (A.fa k).i m.F[k].is.length (A.fa k).ic,.slice (A.fa k).h m.F[k].wh.length (A.fa k).hc,.slice (A.fa k).v m.F[k].va.length (A.fa k).vc,.slice (A.fa k).u m.F[k].mu.length (A.fa k).uc])
 (hX:Blk w X 114 [.int .i64 n,.slice a1 (n*n) c1,.slice a2 (n*n) c2,.slice a3 (n*n) c3,.int .i64 (bt:Int),.int .i64 top]) (hY:Blk w Y 84 [.slice a5 m.F.length c5]) (hI:Ints w a2 (n*n) J) (hR:w.ownsRow base 3 1 (.slice a5 m.F.length c5) m.F.length (ui (lsL f m.F.length))) :
 Calls Tryz.prog 146 #[.slice (some ⟨g,0,none⟩) 4 4,.map (some b),.int .i64 bt,.func (.func 147) #[] #[.pointer (some ⟨X,0,none⟩),.pointer (some ⟨Y,0,none⟩)]] w fun r w'=>r=.returned (.int .i64 (rdV m jn bt f k:Nat))/\Below w.heap.size w w':=by
 have hok:=(q53 _ _ _).1 (hv.fi _ (List.getElem_mem hk))
 have hff:=hf.f _ (List.getElem_mem hk)
 have hkn:=hv.knw hk
 obtain ⟨pb,po,-,-,hsl⟩:=ha.f k hk
 have he:rdA m k=[m.F[k].is,m.F[k].wh,m.F[k].va,m.F[k].mu].flatMap (rdL (fNames m)):=by
  unfold rdA
  rw [qi1 hk]
 rw [qi1 hk] at hkn
 unfold rdV
 rw [he]
 refine q3c X Y (fun pre v W=>v=.int .i64 (((pre.map f).foldl jn bt:Nat):Int)/\(∀ j,j ∈ pre->j<m.F.length)/\Blk W X 114 [.int .i64 n,.slice a1 (n*n) c1,.slice a2 (n*n) c2,.slice a3 (n*n) c3,.int .i64 (bt:Int),.int .i64 top]/\Blk W Y 84 [.slice a5 m.F.length c5]/\Ints W a2 (n*n) J/\W.ownsRow base 3 1 (.slice a5 m.F.length c5) m.F.length (ui (lsL f m.F.length))) g 4 b (fun i=>if i=0 then (A.fa k).i else if i=1 then (A.fa k).h else if i=2 then (A.fa k).v else (A.fa k).u) (fun i=>if i=0 then (A.fa k).ic else if i=1 then (A.fa k).hc else if i=2 then (A.fa k).vc else (A.fa k).uc) [m.F[k].is,m.F[k].wh,m.F[k].va,m.F[k].mu] (fNames m) (.int .i64 bt) w hg.lt (by simp) ?_ hv.nod hm ?_ ?_ ⟨rfl,(fun j h=>by cases h),hX,hY,hI,hR⟩ |>.mono ?_
 . intro i hi
   have h1:=qg5 hok.i
   have h2:=qg5 hok.h
   have h3:=qg5 hok.v
   have h4:=qg5 hok.u
   obtain rfl | rfl | rfl | rfl:i=0 ∨ i=1 ∨ i=2 ∨ i=3:=by simp at hi;omega
   . exact ⟨hg.cell 0,by show m.F[k].is.length<=_;omega,hsl.i,hff.i,hkn.1⟩
   . exact ⟨hg.cell 1,by show m.F[k].wh.length<=_;omega,hsl.h,hff.h,hkn.2.1⟩
   . exact ⟨hg.cell 2,by show m.F[k].va.length<=_;omega,hsl.v,hff.v,hkn.2.2.1⟩
   . exact ⟨hg.cell 3,by show m.F[k].mu.length<=_;omega,hsl.u,hff.u,hkn.2.2.2⟩
 . rintro pre v W W' ⟨h1,h2,h3,h4,h5,h6⟩ hb
   exact ⟨h1,h2,h3.mono hb h3.lt,h4.mono hb h4.lt,h5.mono hb,qcd h6 hb⟩
 . rintro pre x v W hb ⟨rfl,h2,h3,h4,h5,h6⟩ hx hl
   rw [q7p] at hx
   have hlt:(pre.map f).foldl jn bt<n:=hL.fold_lt _ _ hL.bl fun y hy=>by
    obtain ⟨j,hj,rfl⟩:=List.mem_map.1 hy
    exact hfl j (h2 j hj)
   refine (q3v X Y n m.F.length _ x c5 base f jn J a1 a2 a3 a5 c1 c2 c3 bt top W hn hlt hx (hfl x hx) (hJ _ _ hlt (hfl x hx)) h3 h4 h5 h6).mono ?_
   rintro r W' ⟨rfl,hb'⟩
   refine ⟨_,rfl,⟨by rw [List.map_append,List.foldl_append];rfl,fun j hj=>?_,h3.mono hb' h3.lt,h4.mono hb' h4.lt,h5.mono hb',qcd h6 hb'⟩,hb'.mono hb.size⟩
   rcases List.mem_append.1 hj with h | h
   . exact h2 j h
   . rw [List.mem_singleton.1 h];exact hx
 . rintro r w' ⟨v,rfl,⟨rfl,-⟩,hb⟩
   exact ⟨rfl,hb⟩
theorem q2m (m:Fm) (A:MA) (b k n bt c5 base:Nat) (f:Nat->Nat) (F:Nat->Nat->Prop) (jn:Nat->Nat->Nat) (J:Nat->Int) (a1 a2 a3 a5:Option Addr) (c1 c2 c3:Nat) (top:Int) (w:World) (hv:VfA m) (hf:FitM m) (hL:LatP n F jn bt) (hn:n<=32) (hJ:∀ a b,a<n->b<n->J (a*n+b)=((jn a b:Nat):Int)) (hfl:∀ k,k<m.F.length->f k<n) (hk:k<m.F.length) (ha:MSl w m A) (hm:PMap w b (fNames m)) (hI:Ints w a2 (n*n) J) (hR:w.ownsRow base 3 1 (.slice a5 m.F.length c5) m.F.length (ui (lsL f m.F.length))) :
 Calls Tryz.prog 119 #[wV m A b,.int .i64 k,.agg #[.int .i64 n,.slice a1 (n*n) c1,.slice a2 (n*n) c2,.slice a3 (n*n) c3,.int .i64 (bt:Int),.int .i64 top],.slice a5 m.F.length c5] w fun r w'=>r=.returned (.int .i64 (rdV m jn bt f k:Nat))/\Below w.heap.size w w':=by
 have HC:=h_ fun (W:World) (g X Y:Nat) hs hp hg hX hY hI hR=>q2p m A b g k X Y n bt c5 base f F jn J a1 a2 a3 a5 c1 c2 c3 top W hv hf hL hn hJ hfl hk hs hp hg hX hY hI hR
 have HCu:=h_ fun (W:World)=>q6e m.F[k] (A.fa k) W
 have hnf:=hv.nf
 obtain ⟨al,alc,ap,apc,ar,arc,af,afc,afa⟩:=A
 unfold wV
 dsimp only at HC HCu ⊢
 have HK:=h_ (((Blk.new w 112 #[.slice al m.L.length alc,.slice ap m.P.length apc,.slice ar m.R.length arc,.slice af m.F.length afc,.map (some b)]).alloc (.cells #[.int .i64 n,.slice a1 (n*n) c1,.slice a2 (n*n) c2,.slice a3 (n*n) c3,.int .i64 (bt:Int),.int .i64 top] 114)).alloc (.cells #[.slice a5 m.F.length c5] 84))
 have HX:=h_ ((Blk.new (w.alloc (.cells #[.slice al m.L.length alc,.slice ap m.P.length apc,.slice ar m.R.length arc,.slice af m.F.length afc,.map (some b)] 112)) 114 #[.int .i64 n,.slice a1 (n*n) c1,.slice a2 (n*n) c2,.slice a3 (n*n) c3,.int .i64 (bt:Int),.int .i64 top]).alloc (.cells #[.slice a5 m.F.length c5] 84))
 have HYb:=h_ (Blk.new ((w.alloc (.cells #[.slice al m.L.length alc,.slice ap m.P.length apc,.slice ar m.R.length arc,.slice af m.F.length afc,.map (some b)] 112)).alloc (.cells #[.int .i64 n,.slice a1 (n*n) c1,.slice a2 (n*n) c2,.slice a3 (n*n) c3,.int .i64 (bt:Int),.int .i64 top] 114)) 84 #[.slice a5 m.F.length c5])
 simp only [World.size_alloc] at HX HYb
 have HB:=h_ ((((bR w.heap.size w).alloc (nR _) (.cells #[.slice al m.L.length alc,.slice ap m.P.length apc,.slice ar m.R.length arc,.slice af m.F.length afc,.map (some b)] 112)).alloc (by simp) (.cells #[.int .i64 n,.slice a1 (n*n) c1,.slice a2 (n*n) c2,.slice a3 (n*n) c3,.int .i64 (bt:Int),.int .i64 top] 114)).alloc (by simp;omega) (.cells #[.slice a5 m.F.length c5] 84))
 obtain ⟨W0,hW0⟩:∃ W0,((w.alloc (.cells #[.slice al m.L.length alc,.slice ap m.P.length apc,.slice ar m.R.length arc,.slice af m.F.length afc,.map (some b)] 112)).alloc (.cells #[.int .i64 n,.slice a1 (n*n) c1,.slice a2 (n*n) c2,.slice a3 (n*n) c3,.int .i64 (bt:Int),.int .i64 top] 114)).alloc (.cells #[.slice a5 m.F.length c5] 84)=W0:=⟨_,rfl⟩
 rw [hW0] at HK HX HYb HB
 have HS:=h_ (ha.mono (u_ HB));have HM:=h_ (hm.mono (u_ HB));have HI:=h_ (hI.mono (u_ HB));have HR:=h_ (qcd hR (u_ HB))
 clear ha hm hI hR hv hf hL hJ hfl
 obtain ⟨pb,po,e1,⟨hbl,z0,z1,z2,z3,z4,z5,z6,z7,z8⟩,-⟩:=(u_ HS).f k hk
 dsimp only at e1 z3 z4 z5 z6 z8
 have hk':(k:Int)<m.F.length:=by omega
 obtain ⟨y0,y1,y2,y3,y4⟩:=five (u_ HK)
 rw [e1] at y3
 clear e1
 generalize rdV m jn bt f k=u at *
 generalize m.F[k]=fl at *
 generalize afa k=fa at *
 obtain ⟨ub,ubc,ui',uic,uh,uhc,uv,uvc,uu,uuc⟩:=fa
 dsimp only at z3 z4 z5 z6 z8 HC HCu
 unfold fV at HCu
 dsimp only at HCu
 go_enter Tryz.func119,Tryz.ntmps119
 go_wp2_with fail
 try rw [hW0]
 refine (u_ HCu W0).mono ?_
 rintro r W1 ⟨rfl,hb⟩
 replace HK:=mB HK hb;replace HX:=mB HX hb;replace HYb:=mB HYb hb;replace HB:=mT HB hb;replace HS:=h_ ((u_ HS).mono hb);replace HM:=h_ ((u_ HM).mono hb);replace HI:=h_ ((u_ HI).mono hb);replace HR:=h_ (qcd (u_ HR) hb)
 clear hb hW0 y0 y1 y2 y3 y4 z0 z1 z2 z3 z4 z5 z6 z7 z8 HCu
 have HG:=h_ (Blk.new W1 231 #[.slice ui' fl.is.length uic,.slice uh fl.wh.length uhc,.slice uv fl.va.length uvc,.slice uu fl.mu.length uuc])
 have hba:=(bR W1.heap.size W1).alloc (nR _) (.cells #[.slice ui' fl.is.length uic,.slice uh fl.wh.length uhc,.slice uv fl.va.length uvc,.slice uu fl.mu.length uuc] 231)
 obtain ⟨W2,hW2⟩:∃ W2,W1.alloc (.cells #[.slice ui' fl.is.length uic,.slice uh fl.wh.length uhc,.slice uv fl.va.length uvc,.slice uu fl.mu.length uuc] 231)=W2:=⟨_,rfl⟩
 rw [hW2] at HG hba
 replace HK:=mB HK hba;replace HX:=mB HX hba;replace HYb:=mB HYb hba;replace HB:=mT HB hba;replace HS:=h_ ((u_ HS).mono hba);replace HM:=h_ ((u_ HM).mono hba);replace HI:=h_ ((u_ HI).mono hba);replace HR:=h_ (qcd (u_ HR) hba)
 obtain ⟨g,hg⟩:∃ g,W1.heap.size=g:=⟨_,rfl⟩
 rw [hg] at HG
 clear hba
 go_wp2_with fail
 try rw [hW2]
 try rw [hg]
 clear hW2 hg
 refine wp_region_held_drew (S:=fun w'=>Blk w' w.heap.size 112 [.slice al m.L.length alc,.slice ap m.P.length apc,.slice ar m.R.length arc,.slice af m.F.length afc,.map (some b)]/\Blk w' (w.heap.size+1) 114 [.int .i64 n,.slice a1 (n*n) c1,.slice a2 (n*n) c2,.slice a3 (n*n) c3,.int .i64 (bt:Int),.int .i64 top]) (by kernel_rfl) ⟨u_ HK,u_ HX⟩ (fun zz=>?_)
 refine tk 0 17 (.slice (some ⟨g,0,none⟩) 4 4) zz ?_
 refine tk 1 18 (.pointer (some ⟨w.heap.size,4,none⟩)) zz ?_
 refine tk 2 19 (.map (some b)) zz ?_ (hy:=fun w hS=>by obtain ⟨q0,q1,q2,q3,q4⟩:=five hS.1;simp [execOp,go_sem,q4])
 refine tk 3 20 (.pointer (some ⟨w.heap.size+1,4,none⟩)) zz ?_
 simp only [sX,sY,sZ]
 refine tk 4 21 (.int .i64 bt) zz ?_ (hy:=fun w hS=>by have q4:=hS.2.cell 4;simp only [List.getElem?_cons_zero,List.getElem?_cons_succ] at q4;simp [execOp,go_sem,q4])
 refine tk 5 22 (.func (.func 147) #[] #[.pointer (some ⟨w.heap.size+1,0,none⟩),.pointer (some ⟨w.heap.size+1+1,0,none⟩)]) zz ?_
 simp only [sX,sY,sZ]
 have HD:Hid (Below W2.heap.size W2 W2.drew):=h_ (bR _ _).drew
 have HC2:=h_ (u_ HC W2.drew g (w.heap.size+1) (w.heap.size+1+1) ((u_ HS).mono (u_ HD)) ((u_ HM).mono (u_ HD)) (u_ HG) (u_ HX) (u_ HYb) ((u_ HI).mono (u_ HD)) (u_ HR))
 refine callY (i:=6) (f:=146) (args:=#[.slice (some ⟨g,0,none⟩) 4 4,.map (some b),.int .i64 bt,.func (.func 147) #[] #[.pointer (some ⟨w.heap.size+1,0,none⟩),.pointer (some ⟨w.heap.size+1+1,0,none⟩)]]) (R:=fun v wz=>v=.int .i64 (u:Nat)/\Below W2.heap.size W2 wz) 23 rfl rfl (by rfl) (by kernel_rfl) ?hrun6 ((u_ HC2).mono fun e w6 ⟨he,hb⟩=>⟨_,he,rfl,q26 hb⟩) ?_
 case hrun6=>simp [execOp,go_sem]
 rintro v W3 ⟨rfl,hb⟩
 replace zz:=And.intro ((u_ HK).mono hb (u_ HK).lt) ((u_ HX).mono hb (u_ HX).lt)
 replace HB:=mT HB hb
 clear hb HC2
 refine ⟨zz,?_⟩
 simp only [sX,sY,sZ]
 refine tk 7 8 (.int .i64 u) zz ?_
 simp only [sX,sY,sZ]
 refine wpAnyH_done (by kernel_rfl) ?_ _
 clear zz
 go_wp2_with fail
 go_ret
 exact ⟨rfl,u_ HB⟩
theorem q6l {m:Fm} (hv:VfA m) (bt:Nat) {k:Nat} (hk:k<m.F.length):(m.F[k].lb<0/\startL m bt k=bt) ∨ (¬ m.F[k].lb<0/\m.F[k].lb=((startL m bt k:Nat):Int)):=by
 have:=declared hv hk
 unfold startL
 rw [qi1 hk]
 by_cases h:m.F[k].lb<0
 . exact .inl ⟨h,by rw [if_pos h]⟩
 . exact .inr ⟨h,by rw [if_neg h];omega⟩
theorem q0r (m:Fm) (A:MA) (b bt:Nat) (w:World) (hv:VfA m) (ha:MSl w m A) :
 Calls Tryz.prog 118 #[wV m A b,.int .i64 (bt:Nat)] w fun r w'=>∃ v,r=.returned v/\w'.ownsRow w.heap.size 3 1 v m.F.length (ui (lsL (startL m bt) m.F.length))/\Below w.heap.size w w':=by
 have HV:=h_ hv;have HA:=h_ ha
 have hnf:=hv.nf
 obtain ⟨al,alc,ap,apc,ar,arc,af,afc,afa⟩:=A
 unfold wV
 dsimp only
 have HK:=h_ (Blk.new w 112 #[.slice al m.L.length alc,.slice ap m.P.length apc,.slice ar m.R.length arc,.slice af m.F.length afc,.map (some b)])
 have HB:=h_ ((bR w.heap.size w).alloc (nR _) (.cells #[.slice al m.L.length alc,.slice ap m.P.length apc,.slice ar m.R.length arc,.slice af m.F.length afc,.map (some b)] 112))
 obtain ⟨W0,hW0⟩:∃ W0,w.alloc (.cells #[.slice al m.L.length alc,.slice ap m.P.length apc,.slice ar m.R.length arc,.slice af m.F.length afc,.map (some b)] 112)=W0:=⟨_,rfl⟩
 have hsz:W0.heap.size=w.heap.size+1:=by rw [<- hW0];simp
 rw [hW0] at HK HB
 have HO:Hid (W0.ownsRow (w.heap.size+1) 3 1 (.slice none 0 0) 0 []):=h_ (World.ownsRow_nil _ _ _ _)
 clear ha hv
 obtain ⟨y0,y1,y2,y3,y4⟩:=five (u_ HK)
 go_enter Tryz.func118,Tryz.ntmps118
 go_wp2_with fail
 try rw [hW0]
 clear hW0 y0 y1 y2 y3 y4
 go_loopw [5,12] (fun v i wr=>∃ k:Nat,k<=m.F.length/\i=.int .i64 k/\wr.ownsRow (w.heap.size+1) 3 1 v k (ui (lsL (startL m bt) k))/\Below (w.heap.size+1) W0 wr) (fun _ i _=>m.F.length - (intOf i).toNat)
 case atStart=>exact ⟨0,nZ _,rfl,u_ HO,bR _ _⟩
 case round =>
  clear HO
  obtain ⟨k,hk,rfl,hO,hb⟩:=hrel
  have hbw:=(u_ HB).trans (hb.mono (by omega))
  have hws:=hb.size
  have HAr:=h_ ((u_ HA).mono hbw);have HBr:=h_ hb;have HBw:=h_ hbw;have HO:=h_ hO
  clear hb hbw hO
  by_cases hlt:k<m.F.length
  . have hlt':(k:Int)<m.F.length:=by omega
    obtain ⟨pb,po,e1,⟨-,z0,z1,z2,z3,z4,z5,z6,z7,z8⟩,-⟩:=(u_ HAr).f k hlt
    dsimp only at e1 z3 z4 z5 z6 z8
    subst e1
    have HT:=h_ (qf0 (startL m bt) k)
    have hst:=q6l (u_ HV) bt hlt
    generalize startL m bt k=x at *
    generalize m.F[k]=u at *
    generalize afa k=fa at *
    obtain ⟨ub,ubc,ui',uic,uh,uhc,uv,uvc,uu,uuc⟩:=fa
    dsimp only at z3 z4 z5 z6 z8
    have HKf:=h_ (Blk.new wr 94 #[.string u.nm,.int .i64 u.ty,.int .i64 u.lb,.slice ub u.bys.length ubc,.slice ui' u.is.length uic,.slice uh u.wh.length uhc,.slice uv u.va.length uvc,.string u.sy,.slice uu u.mu.length uuc])
    have HBf:=h_ ((u_ HBr).alloc (by omega) (.cells #[.string u.nm,.int .i64 u.ty,.int .i64 u.lb,.slice ub u.bys.length ubc,.slice ui' u.is.length uic,.slice uh u.wh.length uhc,.slice uv u.va.length uvc,.string u.sy,.slice uu u.mu.length uuc] 94))
    have HO1:=h_ ((u_ HO).alloc (.cells #[.string u.nm,.int .i64 u.ty,.int .i64 u.lb,.slice ub u.bys.length ubc,.slice ui' u.is.length uic,.slice uh u.wh.length uhc,.slice uv u.va.length uvc,.string u.sy,.slice uu u.mu.length uuc] 94))
    obtain ⟨Wd,hWd⟩:∃ Wd,wr.alloc (.cells #[.string u.nm,.int .i64 u.ty,.int .i64 u.lb,.slice ub u.bys.length ubc,.slice ui' u.is.length uic,.slice uh u.wh.length uhc,.slice uv u.va.length uvc,.string u.sy,.slice uu u.mu.length uuc] 94)=Wd:=⟨_,rfl⟩
    have hdz:wr.heap.size+1<=Wd.heap.size:=by rw [<- hWd];simp
    rw [hWd] at HKf HBf HO1
    obtain ⟨x0,x1,x2,x3,x4,x5,x6,x7,x8⟩:=nine (u_ HKf)
    obtain ⟨i0,hi,hz0,hz1,hz2⟩:=info_parts infoI
    rcases hst with ⟨hneg,hx⟩ | ⟨hneg,hx⟩
    . rw [hx] at HT
      clear hx
      go_wp2_with (at_builtin;refine wpList_append_own _ rfl _ _ 84 rfl (w.heap.size+1) 3 i0 _ 1 8 Tryz.underlying84 hi hz0 hz1 hz2 rfl (by omega) _ _ _ rfl ((u_ HO1).alloc _) ⟨Wd.heap.size,0,none⟩ 1 1 [.int .i64 bt] rfl rfl (qdt Wd 3 _) (by simp [Value.oneCell']) (by unfold maxLen;omega) (by omega) (by simp;omega) ?_)
      intro v' w3 ho' hgr' _
      have HO2:Hid (w3.ownsRow (w.heap.size+1) 3 1 v' (k+1) (ui (lsL (startL m bt) (k+1)))):=h_ (by rw [u_ HT];simpa [ui] using ho')
      have HB2:=h_ (((u_ HBf).alloc (by omega) (.cells #[.int .i64 bt] 3)).grown hgr' (by simp;omega) (fun q' e=>q8y (u_ HO1) e))
      clear ho' hgr' hi hz0 hz1 hz2
      go_wp2_with fail
      go_roundw
      case rel=>first | exact ⟨k+1,by omega,by go_num,u_ HO2,u_ HB2⟩ | ((repeat apply Exists.intro);exact ⟨⟨k+1,by omega,by go_num,u_ HO2,u_ HB2⟩,rfl⟩)
      case measure=>simp [intOf];omega
    . rw [hx] at x2
      have hneg':¬ ((x:Nat):Int)<0:=by omega
      clear hx hneg
      go_wp2_with (at_builtin;refine wpList_append_own _ rfl _ _ 84 rfl (w.heap.size+1) 3 i0 _ 1 8 Tryz.underlying84 hi hz0 hz1 hz2 rfl (by omega) _ _ _ rfl ((u_ HO1).alloc _) ⟨Wd.heap.size,0,none⟩ 1 1 [.int .i64 x] rfl rfl (qdt Wd 3 _) (by simp [Value.oneCell']) (by unfold maxLen;omega) (by omega) (by simp;omega) ?_)
      intro v' w3 ho' hgr' _
      have HO2:Hid (w3.ownsRow (w.heap.size+1) 3 1 v' (k+1) (ui (lsL (startL m bt) (k+1)))):=h_ (by rw [u_ HT];simpa [ui] using ho')
      have HB2:=h_ (((u_ HBf).alloc (by omega) (.cells #[.int .i64 x] 3)).grown hgr' (by simp;omega) (fun q' e=>q8y (u_ HO1) e))
      clear ho' hgr' hi hz0 hz1 hz2
      go_wp2_with fail
      go_roundw
      case rel=>first | exact ⟨k+1,by omega,by go_num,u_ HO2,u_ HB2⟩ | ((repeat apply Exists.intro);exact ⟨⟨k+1,by omega,by go_num,u_ HO2,u_ HB2⟩,rfl⟩)
      case measure=>simp [intOf];omega
  . obtain rfl:k=m.F.length:=by omega
    have hlt':¬ (m.F.length:Int)<(m.F.length:Int):=by omega
    go_wp2_with fail
    go_ret
    exact ⟨_,rfl,qcb (u_ HO) (by omega),u_ HBw⟩
theorem qj8 (f:Nat->Nat) (n k v:Nat):(ui (lsL f n)).set k (.int .i64 (v:Nat))=ui (lsL (up f k v) n):=by
 unfold ui lsL
 rw [List.map_map,List.map_map]
 exact map_up (fun u:Nat=>.int .i64 ((u:Nat):Int)) f n k v
theorem ql0 (f:Nat->Nat) (k:Nat):up f k (f k)=f:=by
 funext i
 unfold up
 split
 . rename_i h;rw [h]
 . rfl
def adB:Option Addr->Nat
 | some x=>x.block
 | none=>0
def potW (F:Nat->Nat->Bool) (N n:Nat) (g:Nat) (w:World):Nat:=potL F N n fun k=>(intOf ((w.cell? ⟨g,k,none⟩).getD undef)).toNat
theorem qjy {F:Nat->Nat->Bool} {N n base c:Nat} {a:Option Addr} {f:Nat->Nat} {w:World} (h:w.ownsRow base 3 1 (.slice a n c) n (ui (lsL f n))):potW F N n (adB a) w=potL F N n f:=by
 unfold potW potL
 congr 1
 refine List.map_congr_left fun k hk=>?_
 obtain ⟨g,rfl,-,z⟩:=qkc h (List.mem_range.1 hk)
 dsimp only [adB]
 rw [z]
 show rkL F N (((f k:Nat):Int).toNat)=_
 rw [Int.toNat_natCast]
def bN:Value->Nat
 | .bool true=>1
 | _=>0
theorem q0x (m:Fm) (A:MA) (b n bt:Nat) (F:Nat->Nat->Bool) (jn:Nat->Nat->Nat) (J:Nat->Int) (a1 a2 a3:Option Addr) (c1 c2 c3:Nat) (top:Int) (w:World) (hv:VfA m) (hf:FitM m) (hL:LatP n (fun a b=>F a b=true) jn bt) (hN:m.L.length=n) (hn:n<=32) (hJ:∀ a b,a<n->b<n->J (a*n+b)=((jn a b:Nat):Int)) (ha:MSl w m A) (hm:PMap w b (fNames m)) (hI:Ints w a2 (n*n) J) :
 Calls Tryz.prog 80 #[wV m A b,.agg #[.int .i64 n,.slice a1 (n*n) c1,.slice a2 (n*n) c2,.slice a3 (n*n) c3,.int .i64 (bt:Int),.int .i64 top]] w fun r w'=>∃ v f,r=.returned v/\w'.ownsRow w.heap.size 3 1 v m.F.length (ui (lsL f m.F.length))/\Sol m n (fun a b=>F a b=true) f/\Low m n (fun a b=>F a b=true) f/\Below w.heap.size w w':=by
 have HV:=h_ hv;have HLat:=h_ hL
 have HCl:=h_ fun (W:World) (hs:MSl W m A)=>q0r m A b bt W hv hs
 have HCr:=h_ fun (W:World) (k c5 base:Nat) (f:Nat->Nat) (a5:Option Addr) (hfl:∀ k,k<m.F.length->f k<n) (hk:k<m.F.length) (hs:MSl W m A) (hp:PMap W b (fNames m)) (hi:Ints W a2 (n*n) J) hR=>q2m m A b k n bt c5 base f _ jn J a1 a2 a3 a5 c1 c2 c3 top W hv hf hL hn hJ hfl hk hs hp hi hR
 have HWs:=h_ (qdm hL hv hN);have HAs:=h_ (qa4 hL hv hN)
 have HS:=h_ ha;have HM:=h_ hm;have HI:=h_ hI
 have hnf:=hv.nf
 obtain ⟨al,alc,ap,apc,ar,arc,af,afc,afa⟩:=A
 unfold wV at HCl HCr ⊢
 dsimp only at HCl HCr ⊢
 clear ha hm hI hv hf hL hN hJ
 have HK:=h_ ((Blk.new w 112 #[.slice al m.L.length alc,.slice ap m.P.length apc,.slice ar m.R.length arc,.slice af m.F.length afc,.map (some b)]).alloc (.cells #[.int .i64 n,.slice a1 (n*n) c1,.slice a2 (n*n) c2,.slice a3 (n*n) c3,.int .i64 (bt:Int),.int .i64 top] 114))
 have HQ:=h_ (Blk.new (w.alloc (.cells #[.slice al m.L.length alc,.slice ap m.P.length apc,.slice ar m.R.length arc,.slice af m.F.length afc,.map (some b)] 112)) 114 #[.int .i64 n,.slice a1 (n*n) c1,.slice a2 (n*n) c2,.slice a3 (n*n) c3,.int .i64 (bt:Int),.int .i64 top])
 rw [World.size_alloc] at HQ
 have HB:=h_ (((bR w.heap.size w).alloc (nR _) (.cells #[.slice al m.L.length alc,.slice ap m.P.length apc,.slice ar m.R.length arc,.slice af m.F.length afc,.map (some b)] 112)).alloc (by simp) (.cells #[.int .i64 n,.slice a1 (n*n) c1,.slice a2 (n*n) c2,.slice a3 (n*n) c3,.int .i64 (bt:Int),.int .i64 top] 114))
 obtain ⟨W0,hW0⟩:∃ W0,(w.alloc (.cells #[.slice al m.L.length alc,.slice ap m.P.length apc,.slice ar m.R.length arc,.slice af m.F.length afc,.map (some b)] 112)).alloc (.cells #[.int .i64 n,.slice a1 (n*n) c1,.slice a2 (n*n) c2,.slice a3 (n*n) c3,.int .i64 (bt:Int),.int .i64 top] 114)=W0:=⟨_,rfl⟩
 have hs0:W0.heap.size=w.heap.size+2:=by rw [<- hW0];simp
 rw [hW0] at HK HQ HB
 obtain ⟨y0,y1,y2,y3,y4⟩:=five (u_ HK)
 have q4:=(u_ HQ).cell 4
 simp only [List.getElem?_cons_zero,List.getElem?_cons_succ] at q4
 go_enter Tryz.func80,Tryz.ntmps80
 go_wp2_with fail
 try rw [hW0]
 refine (u_ HCl W0 ((u_ HS).mono (u_ HB))).mono ?_
 rintro r W1 ⟨v,rfl,ho,hb1⟩
 rw [hs0] at ho hb1
 replace HK:=h_ ((u_ HK).mono hb1 (by omega));replace HQ:=h_ ((u_ HQ).mono hb1 (by omega));replace HB:=h_ ((u_ HB).trans (hb1.mono (by omega)))
 have hs1:w.heap.size+2<=W1.heap.size:=by have:=hb1.size;omega
 obtain ⟨a5,c5,e5⟩:=qcm ho
 rw [e5] at ho
 subst e5
 have HO:=h_ ho
 clear ho hb1 hW0 y0 y1 y2 y3 y4 q4 HCl
 go_wp2_with fail
 go_loopw [6] (fun rs wr=>∃ (rb:Bool) (f:Nat->Nat),rs=.bool rb/\wr.ownsRow (w.heap.size+2) 3 1 (.slice a5 m.F.length c5) m.F.length (ui (lsL f m.F.length))/\Way m n (fun a b=>F a b=true) f/\Asc m (fun a b=>F a b=true) jn bt f/\(rb=false->Sol m n (fun a b=>F a b=true) f)/\Below (w.heap.size+2) W1 wr) (fun rs wr=>2*(m.F.length*n - potW F n m.F.length (adB a5) wr)+bN rs)
 case atStart=>exact ⟨true,_,rfl,u_ HO,u_ HWs,u_ HAs,(fun h=>by cases h),bR _ _⟩
 case round =>
  clear HO HWs HAs
  obtain ⟨rb,f,rfl,ho,hway,hasc,hsol,hb⟩:=hrel
  have HO:=h_ ho;have HWay:=h_ hway;have HAsc:=h_ hasc;have HBr:=h_ hb
  have HP0:=h_ (qjy (F:=F) (N:=n) ho)
  clear ho hway hasc hb
  cases rb
  . have HSol:=h_ (hsol rfl);have HLow:=h_ (u_ HWay).low
    have HBw:=h_ ((u_ HB).trans ((u_ HBr).mono (by omega)))
    have HOo:=h_ (qcb (u_ HO) (show w.heap.size<=w.heap.size+2 by omega))
    clear hsol
    go_wp2_with fail
    go_ret
    first | exact ⟨_,f,rfl,u_ HOo,u_ HSol,u_ HLow,u_ HBw⟩ | exact ⟨_,rfl,f,u_ HOo,u_ HSol,u_ HLow,u_ HBw⟩
  . have HKr:=h_ ((u_ HK).mono (u_ HBr) (by omega))
    obtain ⟨y0,y1,y2,y3,y4⟩:=five (u_ HKr)
    obtain ⟨P0,hP0⟩:∃ P0,potL F n m.F.length f=P0:=⟨_,rfl⟩
    have HPz:=h_ hP0
    rw [hP0] at HP0
    clear hsol hP0
    go_wp2_with fail
    clear y0 y1 y2 y3 y4
    go_loopw [6,19] (fun rs iv w3=>∃ (k:Nat) (rb:Bool) (h:Nat->Nat),k<=m.F.length/\rs=.bool rb/\iv=.int .i64 k/\w3.ownsRow (w.heap.size+2) 3 1 (.slice a5 m.F.length c5) m.F.length (ui (lsL h m.F.length))/\Way m n (fun a b=>F a b=true) h/\Asc m (fun a b=>F a b=true) jn bt h/\P0<=potL F n m.F.length h/\(rb=true->P0+1<=potL F n m.F.length h)/\(rb=false->∀ k',k'<k->(fAt m k').lb<0->rdV m jn bt h k'=h k')/\Below (w.heap.size+2) W1 w3) (fun _ iv _=>m.F.length - (intOf iv).toNat)
    case atStart=>exact ⟨0,false,f,nZ _,rfl,rfl,u_ HO,u_ HWay,u_ HAsc,by rw [u_ HPz];exact nR _,(fun h=>by cases h),(fun _ k' h=>absurd h (nL _)),u_ HBr⟩
    case round =>
     clear HO HWay HAsc HBr HPz HKr
     obtain ⟨k,rb,h,hk,rfl,rfl,ho,hway,hasc,hp1,hp2,hcl,hb⟩:=hrel
     have HO:=h_ ho;have HWay:=h_ hway;have HAsc:=h_ hasc;have HP1:=h_ hp1;have HP2:=h_ hp2;have HCl:=h_ hcl;have HBr:=h_ hb
     have HBw:=h_ ((u_ HB).trans (hb.mono (by omega)))
     have hzr:W1.heap.size<=wr.heap.size:=hb.size
     clear ho hway hasc hp1 hp2 hcl hb
     by_cases hlt:k<m.F.length
     . have hlt':(k:Int)<m.F.length:=by omega
       have HKr:=h_ ((u_ HK).mono (u_ HBr) (by omega));have HQr:=h_ ((u_ HQ).mono (u_ HBr) (by omega))
       have HSr:=h_ ((u_ HS).mono (u_ HBw));have HMr:=h_ ((u_ HM).mono (u_ HBw));have HIr:=h_ ((u_ HI).mono (u_ HBw))
       obtain ⟨pb,po,e1,⟨-,z0,z1,z2,z3,z4,z5,z6,z7,z8⟩,-⟩:=(u_ HSr).f k hlt
       dsimp only at e1 z3 z4 z5 z6 z8
       subst e1
       have HFk:Hid (fAt m k=m.F[k]):=h_ (qi1 hlt)
       generalize m.F[k]=u at *
       generalize afa k=fa at *
       obtain ⟨ub,ubc,ui',uic,uh,uhc,uv,uvc,uu,uuc⟩:=fa
       dsimp only at z3 z4 z5 z6 z8
       have HKf:=h_ (Blk.new wr 94 #[.string u.nm,.int .i64 u.ty,.int .i64 u.lb,.slice ub u.bys.length ubc,.slice ui' u.is.length uic,.slice uh u.wh.length uhc,.slice uv u.va.length uvc,.string u.sy,.slice uu u.mu.length uuc])
       have hba:=(bR wr.heap.size wr).alloc (nR _) (.cells #[.string u.nm,.int .i64 u.ty,.int .i64 u.lb,.slice ub u.bys.length ubc,.slice ui' u.is.length uic,.slice uh u.wh.length uhc,.slice uv u.va.length uvc,.string u.sy,.slice uu u.mu.length uuc] 94)
       obtain ⟨Wd,hWd⟩:∃ Wd,wr.alloc (.cells #[.string u.nm,.int .i64 u.ty,.int .i64 u.lb,.slice ub u.bys.length ubc,.slice ui' u.is.length uic,.slice uh u.wh.length uhc,.slice uv u.va.length uvc,.string u.sy,.slice uu u.mu.length uuc] 94)=Wd:=⟨_,rfl⟩
       rw [hWd] at HKf hba
       have HBd:=h_ ((u_ HBr).trans (hba.mono (by omega)))
       have HKd:=mB HKr hba;have HQd:=mB HQr hba;have HSd:=h_ ((u_ HSr).mono hba);have HMd:=h_ ((u_ HMr).mono hba);have HId:=h_ ((u_ HIr).mono hba);have HOd:=h_ (qcd (u_ HO) hba)
       have hzd:wr.heap.size<=Wd.heap.size:=hba.size
       clear hba
       obtain ⟨x0,x1,x2,x3,x4,x5,x6,x7,x8⟩:=nine (u_ HKf)
       by_cases hneg:u.lb<0
       . have hneg':¬ (0:Int)<=u.lb:=by omega
         have HAu:Hid ((fAt m k).lb<0):=h_ (by rw [u_ HFk];exact hneg)
         have HC2:=h_ (u_ HCr Wd k c5 (w.heap.size+2) h a5 (u_ HWay).lt hlt (u_ HSd) (u_ HMd) (u_ HId) (u_ HOd))
         obtain ⟨hg1,hg2,hg3⟩:=qie (u_ HLat) (u_ HV) (u_ HWay) (u_ HAsc) hlt (u_ HAu)
         have HG1:=h_ hg1;have HG2:=h_ hg2;have HG3:=h_ hg3
         have hvl:=(rdV_lt (u_ HLat) (u_ HV) (u_ HWay).lt hlt).2
         have HPm:=h_ (qfo (F:=F) (u_ HLat) (u_ HWay).lt hg1.lt hg3)
         have HPl:Hid (h k ≠ rdV m jn bt h k->potL F n m.F.length h<potL F n m.F.length (up h k (rdV m jn bt h k))):=h_ fun hne=>pot_lt (F:=F) (u_ HLat) (u_ HWay).lt hg1.lt hg3 hlt (by rw [up_at];exact hne)
         have hhl:=(u_ HWay).lt k hlt
         obtain ⟨y0,y1,y2,y3,y4⟩:=five (u_ HKd)
         have q0:=(u_ HQd).cell 0;have q1:=(u_ HQd).cell 1;have q2:=(u_ HQd).cell 2;have q3:=(u_ HQd).cell 3;have q4:=(u_ HQd).cell 4;have q5:=(u_ HQd).cell 5
         simp only [List.getElem?_cons_zero,List.getElem?_cons_succ] at q0 q1 q2 q3 q4 q5
         clear hg1 hg2 hg3
         go_wp2_with fail
         try rw [hWd]
         refine (u_ HC2).mono ?_
         rintro r W2 ⟨rfl,hb2⟩
         have HO2:=h_ (qcd (u_ HOd) hb2)
         have HB2:=h_ ((u_ HBd).trans (hb2.mono (by omega)))
         clear hb2 hWd HC2 x0 x1 x2 x3 x4 x5 x6 x7 x8 y0 y1 y2 y3 y4 q0 q1 q2 q3 q4 q5 z0 z1 z2 z3 z4 z5 z6 z7 z8
         obtain ⟨g,e5,hgl,zk⟩:=qkc (u_ HO2) hlt
         obtain ⟨g',e6,hgb,-⟩:=qff (u_ HO2) hlt
         rw [e5] at e6
         cases e6
         have HO3:=h_ (by have h1:=u_ HO2;rw [e5] at h1;exact h1:Hid (W2.ownsRow (w.heap.size+2) 3 1 (.slice (some ⟨g,0,none⟩) m.F.length c5) m.F.length (ui (lsL h m.F.length))))
         have fk:=(u_ (u_ HO3)).frozenAt k
         have HO4:Hid ((W2.setCell ⟨g,k,none⟩ (.int .i64 (rdV m jn bt h k:Nat))).ownsRow (w.heap.size+2) 3 1 (.slice a5 m.F.length c5) m.F.length (ui (lsL (up h k (rdV m jn bt h k)) m.F.length))):=h_ (by
          have h1:=((u_ (u_ HO3)).stored k (.int .i64 (rdV m jn bt h k:Nat))).1
          rw [qj8] at h1
          rw [e5]
          exact h1)
         have HB4:=h_ ((u_ HB2).setCell (p:=⟨g,k,none⟩) hgb (.int .i64 (rdV m jn bt h k:Nat)))
         have hmul:n*n<=1024:=by have:=Nat.mul_le_mul hn hn;omega
         have HE5:=h_ e5
         have HP1n:Hid (P0<=potL F n m.F.length (up h k (rdV m jn bt h k))):=h_ (Nat.le_trans (u_ HP1) (u_ HPm))
         clear HO3 HE5 hmul
         have HCk:Hid (rb=false->rdV m jn bt h k=h k->∀ k',k'<k+1->(fAt m k').lb<0->rdV m jn bt (up h k (rdV m jn bt h k)) k'=up h k (rdV m jn bt h k) k'):=h_ fun e e2 k' hk' ha'=>by
          rw [e2,ql0]
          by_cases ek:k'=k
          . subst ek;exact e2
          . exact u_ HCl e k' (by omega) ha'
         subst e5
         generalize rdV m jn bt h k=vv at *
         cases rb
         . by_cases hq:vv=h k
           . have hqb:(((vv:Nat):Int) != ((h k:Nat):Int))=false:=by rw [hq];simp
             have HCn:=h_ (u_ HCk rfl hq)
             clear hq HCk
             generalize h k=hk' at zk hqb
             go_wp2_with fail
             go_roundw
             case rel=>first | exact ⟨k+1,false,_,by omega,rfl,by go_num,u_ HO4,u_ HG1,u_ HG2,u_ HP1n,(fun h=>by cases h),(fun _=>u_ HCn),u_ HB4⟩ | ((repeat apply Exists.intro);exact ⟨⟨k+1,false,_,by omega,rfl,by go_num,u_ HO4,u_ HG1,u_ HG2,u_ HP1n,(fun h=>by cases h),(fun _=>u_ HCn),u_ HB4⟩,rfl⟩)
             case measure=>simp [intOf];omega
           . have hqb:(((vv:Nat):Int) != ((h k:Nat):Int))=true:=by simp;omega
             have HP2n:Hid (P0+1<=potL F n m.F.length (up h k vv)):=h_ (by have h1:=u_ HPl (fun e=>hq e.symm);have h2:=u_ HP1;omega)
             clear hq HCk
             generalize h k=hk' at zk hqb
             go_wp2_with fail
             go_roundw
             case rel=>first | exact ⟨k+1,true,_,by omega,rfl,by go_num,u_ HO4,u_ HG1,u_ HG2,u_ HP1n,(fun _=>u_ HP2n),(fun h=>by cases h),u_ HB4⟩ | ((repeat apply Exists.intro);exact ⟨⟨k+1,true,_,by omega,rfl,by go_num,u_ HO4,u_ HG1,u_ HG2,u_ HP1n,(fun _=>u_ HP2n),(fun h=>by cases h),u_ HB4⟩,rfl⟩)
             case measure=>simp [intOf];omega
         . have HP2n:Hid (P0+1<=potL F n m.F.length (up h k vv)):=h_ (Nat.le_trans (u_ HP2 rfl) (u_ HPm))
           clear HCk
           generalize h k=hk' at zk
           go_wp2_with fail
           go_roundw
           case rel=>first | exact ⟨k+1,true,_,by omega,rfl,by go_num,u_ HO4,u_ HG1,u_ HG2,u_ HP1n,(fun _=>u_ HP2n),(fun h=>by cases h),u_ HB4⟩ | ((repeat apply Exists.intro);exact ⟨⟨k+1,true,_,by omega,rfl,by go_num,u_ HO4,u_ HG1,u_ HG2,u_ HP1n,(fun _=>u_ HP2n),(fun h=>by cases h),u_ HB4⟩,rfl⟩)
           case measure=>simp [intOf];omega
       . have hneg':(0:Int)<=u.lb:=by omega
         have HC2:Hid (rb=false->∀ k',k'<k+1->(fAt m k').lb<0->rdV m jn bt h k'=h k'):=h_ fun e k' hk' ha'=>by
          by_cases ek:k'=k
          . subst ek;rw [u_ HFk] at ha';exact absurd ha' hneg
          . exact u_ HCl e k' (by omega) ha'
         go_wp2_with fail
         try rw [hWd]
         clear hWd
         go_roundw
         case rel=>first | exact ⟨k+1,rb,h,by omega,rfl,by go_num,u_ HOd,u_ HWay,u_ HAsc,u_ HP1,u_ HP2,u_ HC2,u_ HBd⟩ | ((repeat apply Exists.intro);exact ⟨⟨k+1,rb,h,by omega,rfl,by go_num,u_ HOd,u_ HWay,u_ HAsc,u_ HP1,u_ HP2,u_ HC2,u_ HBd⟩,rfl⟩)
         case measure=>simp [intOf];omega
     . obtain rfl:k=m.F.length:=by omega
       have hlt':¬ (m.F.length:Int)<(m.F.length:Int):=by omega
       have HPn:=h_ (qjy (F:=F) (N:=n) (u_ HO))
       have hpl:=pot_le F n m.F.length h
       have HSn:Hid (rb=false->Sol m n (fun a b=>F a b=true) h):=h_ fun e=>gs_sol (u_ HLat) (u_ HV) (u_ HWay) (u_ HCl e)
       go_wp2_with fail
       go_roundw
       case rel=>first | exact ⟨rb,h,rfl,u_ HO,u_ HWay,u_ HAsc,u_ HSn,u_ HBr⟩ | ((repeat apply Exists.intro);exact ⟨⟨rb,h,rfl,u_ HO,u_ HWay,u_ HAsc,u_ HSn,u_ HBr⟩,rfl⟩)
       case measure =>
        have e1:=u_ HPn
        have e2:=u_ HP0
        have e3:=u_ HP1
        have e4:=u_ HP2
        generalize potL F n m.F.length h=ph at *
        generalize m.F.length*n=X at *
        first | rw [e1,e2] | (simp only [] ;rw [e1,e2])
        cases rb
        . show 2*(X - ph)+0<2*(X - P0)+1
          omega
        . have:=e4 rfl
          show 2*(X - ph)+1<2*(X - P0)+1
          omega
end Go.Proofs.YtgkcaeidhkddjaaGreatDoor
