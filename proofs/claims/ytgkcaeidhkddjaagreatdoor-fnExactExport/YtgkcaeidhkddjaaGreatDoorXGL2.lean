import Derived.Test.YtgkcaeidhkddjaaGreatDoorXGO
import Derived.Test.YtgkcaeidhkddjaaGreatDoorXGL1
set_option maxRecDepth 100000
set_option maxHeartbeats 20000000
namespace Go.Proofs.YtgkcaeidhkddjaaGreatDoor
open Go Go.RowKit
theorem q2l (m:Fm) (A:MA) (j k:Nat) (w:World) (hj:j<m.F.length) (hk:k<m.F.length) (hf:FitM m) (ha:MSl w m A) :
 Calls Tryz.prog 134 #[mV m A,.int .i64 j,.int .i64 k] w fun r w'=>r=.returned (.bool (watB m j k))/\Below w.heap.size w w':=by
 obtain ⟨al,alc,ap,apc,ar,arc,af,afc,afa⟩:=A
 unfold mV
 dsimp only
 have HK:=h_ (Blk.new w 36 #[.slice al m.L.length alc,.slice ap m.P.length apc,.slice ar m.R.length arc,.slice af m.F.length afc])
 have HB:=h_ ((bR w.heap.size w).alloc (nR _) (.cells #[.slice al m.L.length alc,.slice ap m.P.length apc,.slice ar m.R.length arc,.slice af m.F.length afc] 36))
 obtain ⟨W0,hW0⟩:∃ W0,w.alloc (.cells #[.slice al m.L.length alc,.slice ap m.P.length apc,.slice ar m.R.length arc,.slice af m.F.length afc] 36)=W0:=⟨_,rfl⟩
 rw [hW0] at HK HB
 have HS:=h_ (ha.mono (u_ HB))
 have hj':(j:Int)<m.F.length:=by omega
 have hk':(k:Int)<m.F.length:=by omega
 have hfl:=hf.fl
 have HE:Hid (watB m j k=(rdsN m.F[k].va m.F[j].nm || rdsN m.F[k].mu m.F[j].nm)):=h_ (by unfold watB;rw [qi1 hj,qi1 hk])
 have HI:=h_ (hf.f _ (List.getElem_mem hk))
 clear ha hf
 obtain ⟨b,o,e1,⟨-,z0,-⟩,-⟩:=(u_ HS).f j hj
 obtain ⟨b',o',e2,⟨hbl,-,-,-,-,-,-,x4,-,x5⟩,hsl⟩:=(u_ HS).f k hk
 dsimp only at e1 e2 x4 x5 hsl
 subst e1
 cases e2
 have HSl:=h_ hsl
 clear hsl
 generalize m.F[j].nm=nm at *
 generalize m.F[k]=f at *
 generalize afa k=fa at *
 obtain ⟨ab,abc,ai,aic,ah,ahc,av,avc,au,auc⟩:=fa
 dsimp only at x4 x5
 have HC1:=h_ (q5q av avc f.va nm W0 (u_ HI).vl (u_ HSl).v)
 obtain ⟨y0,y1,y2,y3⟩:=quad (u_ HK)
 generalize watB m j k=q at *
 go_enter Tryz.func134,Tryz.ntmps134
 go_wp2_with fail
 try rw [hW0]
 refine (u_ HC1).mono ?_
 rintro r W1 ⟨rfl,hb⟩
 have hx5:=(hb.cell (p:=⟨b,o+k*9+8,none⟩) hbl).trans x5
 replace HK:=mB HK hb;replace HB:=mT HB hb;replace HSl:=h_ ((u_ HSl).mono hb)
 clear hb hW0 y0 y1 y2 y3 z0 x4 x5 HC1
 obtain ⟨y0,y1,y2,y3⟩:=quad (u_ HK)
 cases hr:rdsN f.va nm
 . have HC2:=h_ (q5q au auc f.mu nm W1 (u_ HI).ul (u_ HSl).u)
   have HX:Hid (q=rdsN f.mu nm):=h_ (by rw [u_ HE,hr];rfl)
   clear hr
   go_wp2_with fail
   refine (u_ HC2).mono ?_
   rintro r W2 ⟨rfl,hb⟩
   replace HB:=mT HB hb
   clear hb
   go_wp2_with fail
   go_ret
   exact ⟨qfz (u_ HX).symm,u_ HB⟩
 . have HX:Hid (q=true):=h_ (by rw [u_ HE,hr];rfl)
   clear hr
   go_wp2_with fail
   go_ret
   exact ⟨qfz (u_ HX).symm,u_ HB⟩
theorem qbq (m:Fm) (A:MA) (j k:Nat) (w:World) (hj:j<m.F.length) (hk:k<m.F.length) (hf:FitM m) (ha:MSl w m A) :
 Calls Tryz.prog 107 #[mV m A,.int .i64 j,.int .i64 k] w fun r w'=>r=.returned (.bool (anyR m j k))/\Below w.heap.size w w':=by
 have HC1:=h_ fun W (hs:MSl W m A)=>q5n m A j k W hj hk hf hs
 have HC2:=h_ fun W (hs:MSl W m A)=>q2l m A j k W hj hk hf hs
 obtain ⟨al,alc,ap,apc,ar,arc,af,afc,afa⟩:=A
 unfold mV at HC1 HC2 ⊢
 dsimp only at HC1 HC2 ⊢
 have HK:=h_ (Blk.new w 36 #[.slice al m.L.length alc,.slice ap m.P.length apc,.slice ar m.R.length arc,.slice af m.F.length afc])
 have HB:=h_ ((bR w.heap.size w).alloc (nR _) (.cells #[.slice al m.L.length alc,.slice ap m.P.length apc,.slice ar m.R.length arc,.slice af m.F.length afc] 36))
 obtain ⟨W0,hW0⟩:∃ W0,w.alloc (.cells #[.slice al m.L.length alc,.slice ap m.P.length apc,.slice ar m.R.length arc,.slice af m.F.length afc] 36)=W0:=⟨_,rfl⟩
 rw [hW0] at HK HB
 have HS:=h_ (ha.mono (u_ HB))
 have HE:Hid (anyR m j k=(fedB m j k || watB m j k)):=h_ rfl
 generalize anyR m j k=q at *
 clear ha hf
 obtain ⟨y0,y1,y2,y3⟩:=quad (u_ HK)
 go_enter Tryz.func107,Tryz.ntmps107
 go_wp2_with fail
 try rw [hW0]
 refine (u_ HC1 W0 (u_ HS)).mono ?_
 rintro r W1 ⟨rfl,hb⟩
 replace HK:=mB HK hb;replace HB:=mT HB hb;replace HS:=h_ ((u_ HS).mono hb)
 clear hb hW0 y0 y1 y2 y3 HC1
 obtain ⟨y0,y1,y2,y3⟩:=quad (u_ HK)
 cases hr:fedB m j k
 . have HX:Hid (q=watB m j k):=h_ (by rw [u_ HE,hr];rfl)
   clear hr
   go_wp2_with fail
   refine (u_ HC2 W1 (u_ HS)).mono ?_
   rintro r W2 ⟨rfl,hb⟩
   replace HB:=mT HB hb
   clear hb
   go_wp2_with fail
   go_ret
   exact ⟨qfz (u_ HX).symm,u_ HB⟩
 . have HX:Hid (q=true):=h_ (by rw [u_ HE,hr];rfl)
   clear hr
   go_wp2_with fail
   go_ret
   exact ⟨qfz (u_ HX).symm,u_ HB⟩
def lsL (f:Nat->Nat) (k:Nat):List Nat:=(List.range k).map f
theorem qf0 (f:Nat->Nat) (k:Nat):lsL f (k+1)=lsL f k++[f k]:=by
 unfold lsL
 rw [List.range_succ,List.map_append]
 rfl
theorem qj7 (f:Nat->Nat) (k:Nat):(lsL f k).length=k:=by simp [lsL]
theorem qj6 {f:Nat->Nat} {k i:Nat} (h:i<(lsL f k).length):(lsL f k)[i]=f i:=by simp [lsL]
theorem qbx {f g:Nat->Nat} {k:Nat} (h:∀ i,i<k->f i=g i):lsL f k=lsL g k:=List.map_congr_left fun i hi=>h i (List.mem_range.1 hi)
theorem qkc {w:World} {base c n:Nat} {a:Option Addr} {f:Nat->Nat} (h:w.ownsRow base 3 1 (.slice a n c) n (ui (lsL f n))) {i:Nat} (hi:i<n):∃ g,a=some ⟨g,0,none⟩/\g<w.heap.size/\w.cell? ⟨g,i,none⟩=some (.int .i64 (f i:Nat)):=by
 have hl:=qj7 f n
 have h':w.ownsRow base 3 1 (.slice a (lsL f n).length c) (lsL f n).length (ui (lsL f n)):=by rw [hl];exact h
 obtain ⟨a',c',e,h2⟩:∃ a' c',Value.slice a (lsL f n).length c=.slice a' (lsL f n).length c'/\∀ i (hi:i<(lsL f n).length),∃ g,a'=some ⟨g,0,none⟩/\g<w.heap.size/\w.cell? ⟨g,i,none⟩=some (.int .i64 ((lsL f n)[i]:Nat)):=by
  rcases h'.2 with ⟨h1,h2⟩ | ⟨g,cap,cur,h1,hb,hg,r⟩
  . omega
  . refine ⟨_,_,h1,fun i hi=>⟨g,rfl,(Array.getElem?_eq_some_iff.1 hg).1,?_⟩⟩
    rw [h1] at h'
    rw [h'.cellAt i (by omega)]
    simp [ui,hi]
 cases e
 obtain ⟨g,e,h3,h4⟩:=h2 i (by omega)
 rw [qj6] at h4
 exact ⟨g,e,h3,h4⟩
theorem qcd {w w':World} {base n size:Nat} {e:TypeId} {v:Value} {xs:List Value} (h:w.ownsRow base e size v n xs) (hb:Below w.heap.size w w'):w'.ownsRow base e size v n xs :=
 h.kept (row:=none) ⟨hb.os,hb.tape,hb.output,hb.size,fun k hk _=>hb.block k hk⟩ (Classical.em _)
theorem qcm {w:World} {base n:Nat} {v:Value} {xs:List Value} (h:w.ownsRow base 3 1 v n xs):∃ a c,v=.slice a n c:=by
 rcases h.2 with ⟨h1,h2⟩ | ⟨g,cap,cur,h1,-⟩
 . exact ⟨none,0,by rw [h1,h2]⟩
 . exact ⟨_,_,h1⟩
theorem qbe {x n y:Nat} (hx:x<n) (hy:y<n) (hn:n<=32):x*n+y<n*n/\wrap64 ((x:Int)*(n:Int))=((x*n:Nat):Int)/\wrap64 (((x*n:Nat):Int)+((y:Nat):Int))=((x*n+y:Nat):Int)/\((x*n+y:Nat):Int)<((n*n:Nat):Int)/\((x*n+y:Nat):Int)<(n:Int)*(n:Int):=by
 rw [<- Int.natCast_mul n n]
 have h1:x*n+n<=n*n:=by rw [<- Nat.succ_mul];exact Nat.mul_le_mul_right _ hx
 have h2:n*n<=1024:=by have:=Nat.mul_le_mul hn hn;omega
 have h3:x*n+y<n*n:=by omega
 generalize n*n=q at *
 refine ⟨h3,?_,?_,by omega,by omega⟩
 . rw [<- Int.natCast_mul]
   generalize x*n=z at *
   exact q4o (by omega) (by omega)
 . rw [<- Int.natCast_add]
   generalize x*n=z at *
   exact q4o (by omega) (by omega)
theorem q3z (m:Fm) (A:MA) (w:World) (N bot top:Int) (s n bt tp:Nat) (F:Nat->Bool) (J M:Nat->Int) (a1 a2 a3:Option Addr) (c1 c2 c3:Nat) (hv:VfA m) (hf:FitM m) (hL:ValidP N s s s F J M bot top n bt tp) (hN:m.L.length=n) (ha:MSl w m A) (hj:Ints w a2 s J) :
 Calls Tryz.prog 73 #[mV m A,.agg #[.int .i64 N,.slice a1 s c1,.slice a2 s c2,.slice a3 s c3,.int .i64 bot,.int .i64 top]] w fun r w'=>∃ f a0 c0,r=.returned (.slice a0 m.F.length c0)/\Sol m n (fun a b=>F (a*n+b)=true) f/\Low m n (fun a b=>F (a*n+b)=true) f/\Plc w' a0 (lsL f m.F.length)/\Below w.heap.size w w':=by
 have HL:=h_ hL;have HV:=h_ hv;have HNl:=h_ hN
 have HLat:=h_ (qj1 hL)
 have HJn:=h_ fun a b (ha:a<n) (hb:b<n)=>qes hL ha hb
 obtain ⟨jn,hjn⟩:∃ jn:Nat->Nat->Nat,(fun a b=>(J (a*n+b)).toNat)=jn:=⟨_,rfl⟩
 rw [hjn] at HLat
 have HJe:Hid (∀ a b,a<n->b<n->J (a*n+b)=((jn a b:Nat):Int)):=h_ fun a b ha hb=>by rw [<- hjn];exact u_ HJn a b ha hb
 clear HJn hjn
 have HCa:=h_ fun W j k (hj:j<m.F.length) (hk:k<m.F.length) (hs:MSl W m A)=>qbq m A j k W hj hk hf hs
 have hnf:=hv.nf
 have hNe:=hL.hN;have hb:=hL.hb;have hn32:=hL.h32;have hn1:=hL.h1;have hs2:=hL.l2;have hbb:=hL.bb
 subst hNe hb hs2
 clear hL hf hN
 obtain ⟨al,alc,ap,apc,ar,arc,af,afc,afa⟩:=A
 unfold mV at HCa ⊢
 dsimp only at HCa ⊢
 have HK:=h_ ((Blk.new w 36 #[.slice al m.L.length alc,.slice ap m.P.length apc,.slice ar m.R.length arc,.slice af m.F.length afc]).alloc (.cells #[.int .i64 n,.slice a1 (n*n) c1,.slice a2 (n*n) c2,.slice a3 (n*n) c3,.int .i64 bt,.int .i64 top] 114))
 have HQ:=h_ (Blk.new (w.alloc (.cells #[.slice al m.L.length alc,.slice ap m.P.length apc,.slice ar m.R.length arc,.slice af m.F.length afc] 36)) 114 #[.int .i64 n,.slice a1 (n*n) c1,.slice a2 (n*n) c2,.slice a3 (n*n) c3,.int .i64 bt,.int .i64 top])
 rw [World.size_alloc] at HQ
 have HB:=h_ (((bR w.heap.size w).alloc (nR _) (.cells #[.slice al m.L.length alc,.slice ap m.P.length apc,.slice ar m.R.length arc,.slice af m.F.length afc] 36)).alloc (by simp) (.cells #[.int .i64 n,.slice a1 (n*n) c1,.slice a2 (n*n) c2,.slice a3 (n*n) c3,.int .i64 bt,.int .i64 top] 114))
 obtain ⟨W0,hW0⟩:∃ W0,(w.alloc (.cells #[.slice al m.L.length alc,.slice ap m.P.length apc,.slice ar m.R.length arc,.slice af m.F.length afc] 36)).alloc (.cells #[.int .i64 n,.slice a1 (n*n) c1,.slice a2 (n*n) c2,.slice a3 (n*n) c3,.int .i64 bt,.int .i64 top] 114)=W0:=⟨_,rfl⟩
 rw [hW0] at HK HQ HB
 have HS:=h_ (ha.mono (u_ HB));have HJm:=h_ (hj.mono (u_ HB))
 clear ha hj hv
 have HO:=h_ (qcf W0 3)
 have HBo:=h_ ((bR W0.heap.size W0).alloc (nR _) (.cells #[] 3))
 obtain ⟨W1,hW1⟩:∃ W1,W0.alloc (.cells #[] 3)=W1:=⟨_,rfl⟩
 rw [hW1] at HO HBo
 obtain ⟨y0,y1,y2,y3⟩:=quad (u_ HK)
 go_enter Tryz.func73,Tryz.ntmps73
 go_wp2_with fail
 try rw [hW0]
 try rw [hW1]
 clear hW0 hW1 y0 y1 y2 y3
 go_loopw [6,7] (fun v i wr=>∃ k:Nat,k<=m.F.length/\i=.int .i64 k/\wr.ownsRow W0.heap.size 3 1 v k (ui (lsL (startL m bt) k))/\Below W0.heap.size W0 wr) (fun _ i _=>m.F.length - (intOf i).toNat)
 case atStart=>exact ⟨0,nZ _,rfl,u_ HO,u_ HBo⟩
 case round =>
  clear HO HBo
  obtain ⟨k,hk,rfl,ho,hb⟩:=hrel
  have HO:=h_ ho;have HBr:=h_ hb
  have HKr:=mB HK hb;have HQr:=mB HQ hb;have HSr:=h_ ((u_ HS).mono hb)
  have hws:=hb.size
  clear ho hb
  by_cases hlt:k<m.F.length
  . have hlt':(k:Int)<m.F.length:=by omega
    have HT:=h_ (qf0 (startL m bt) k)
    obtain ⟨pb,po,rfl,⟨-,-,-,z2,-⟩,-⟩:=(u_ HSr).f k hlt
    obtain ⟨y0,y1,y2,y3⟩:=quad (u_ HKr)
    have hlb:=declared (u_ HV) hlt
    have hst:(m.F[k].lb<0/\startL m bt k=bt) ∨ (¬ m.F[k].lb<0/\m.F[k].lb=((startL m bt k:Nat):Int)):=by
     unfold startL
     rw [qi1 hlt]
     by_cases h:m.F[k].lb<0
     . exact .inl ⟨h,by rw [if_pos h]⟩
     . exact .inr ⟨h,by rw [if_neg h];omega⟩
    generalize startL m bt k=x at *
    obtain ⟨i0,hi,hz0,hz1,hz2⟩:=info_parts infoI
    have q4:=(u_ HQr).cell 4
    simp only [List.getElem?_cons_zero,List.getElem?_cons_succ] at q4
    rcases hst with ⟨hneg,hx⟩ | ⟨hneg,hx⟩
    case' inl =>
     rw [<- hx] at q4
     clear hx
    case' inr =>
     rw [hx] at z2
     have hneg':¬ ((x:Nat):Int)<0:=by omega
     clear hx
    all_goals
     go_wp2_with (at_builtin;refine wpList_append_own _ rfl _ _ 84 rfl W0.heap.size 3 i0 _ 1 8 Tryz.underlying84 hi hz0 hz1 hz2 rfl (by omega) _ _ _ rfl ((u_ HO).alloc _) ⟨wr.heap.size,0,none⟩ 1 1 [.int .i64 x] rfl rfl (qdt wr 3 _) (by simp [Value.oneCell']) (by unfold maxLen;omega) (by omega) (by simp;omega) ?_)
     intro v' w4 ho' hgr' _
     have HO2:Hid (w4.ownsRow W0.heap.size 3 1 v' (k+1) (ui (lsL (startL m bt) (k+1)))):=h_ (by rw [u_ HT];simpa [ui] using ho')
     have HB3:=h_ (((u_ HBr).alloc hws (.cells #[.int .i64 x] 3)).grown hgr' (by simp;omega) (fun q' e=>q8y (u_ HO) e))
     clear ho' hgr' hi hz0 hz1 hz2 z2 y0 y1 y2 y3 q4
     go_wp2_with fail
     go_roundw
     case rel=>first | exact ⟨k+1,by omega,by go_num,u_ HO2,u_ HB3⟩ | ((repeat apply Exists.intro);exact ⟨⟨k+1,by omega,by go_num,u_ HO2,u_ HB3⟩,rfl⟩)
     case measure=>simp [intOf];omega
  . obtain rfl:k=m.F.length:=by omega
    have hlt':¬ (m.F.length:Int)<(m.F.length:Int):=by omega
    have HWs:=h_ (qdm (u_ HLat) (u_ HV) (u_ HNl))
    obtain ⟨p,hp⟩:∃ p:Nat,m.F.length*n=p:=⟨_,rfl⟩
    have hpi:(m.F.length:Int)*(n:Int)=(p:Int):=by rw [<- Int.natCast_mul,hp]
    have hpl:p<=6400:=by rw [<- hp];exact Nat.mul_le_mul hnf hn32
    have HPot:Hid (∀ f,potL (fun a b=>F (a*n+b)) n m.F.length f<=p):=h_ fun f=>by rw [<- hp];exact pot_le _ _ _ f
    clear hp
    obtain ⟨a5,c5,e5⟩:=qcm (u_ HO)
    rw [e5] at HO
    subst e5
    go_wp2_with fail
    go_loopw [6,8] (fun v r w3=>∃ (q:Nat) (f:Nat->Nat),q<=p+1/\r=.int .i64 q/\w3.ownsRow W0.heap.size 3 1 v m.F.length (ui (lsL f m.F.length))/\Way m n (fun a b=>F (a*n+b)=true) f/\q<=potL (fun a b=>F (a*n+b)) n m.F.length f/\Below W0.heap.size W0 w3) (fun _ r _=>p+1 - (intOf r).toNat)
    case atStart=>exact ⟨0,_,nZ _,rfl,u_ HO,u_ HWs,nZ _,u_ HBr⟩
    case round =>
     clear HO HBr HKr HQr HSr hws HWs
     obtain ⟨q,f,hq,rfl,ho,hway,hpot,hb⟩:=hrel
     obtain ⟨a5,c5,e5⟩:=qcm ho
     rw [e5] at ho
     subst e5
     have HNow:=h_ ho;have HWay:=h_ hway;have HPq:=h_ hpot;have HBr:=h_ hb
     have HQr:=mB HQ hb
     have q0:=(u_ HQr).cell 0
     simp only [List.getElem?_cons_zero] at q0
     have hws:=hb.size
     clear ho hway hpot hb
     have hqp:q<=p:=by
      have h1:=u_ HPq
      have h2:=u_ HPot f
      omega
     have hqp':(q:Int)<=p:=by omega
     have HWj:=h_ ((u_ HWay).jac (u_ HLat))
     have HJg:=h_ (jac_ge (u_ HLat) (u_ HWay))
     have HO:=h_ (qcf wr 3)
     have HBo:=h_ ((bR wr.heap.size wr).alloc (nR _) (.cells #[] 3))
     obtain ⟨W3,hW3⟩:∃ W3,wr.alloc (.cells #[] 3)=W3:=⟨_,rfl⟩
     rw [hW3] at HO HBo
     obtain ⟨B1,hB1⟩:∃ B1,wr.heap.size=B1:=⟨_,rfl⟩
     go_wp2_with fail
     try rw [hW3]
     rw [hB1] at HO
     clear hW3 q0
     obtain ⟨wz,hwz⟩:∃ wz,wr=wz:=⟨_,rfl⟩
     rw [hwz] at HNow HBr HQr HBo hB1 hws
     rw [hB1] at HBo
     go_loopw [9,10,11] (fun v ch kk w3=>∃ (k:Nat) (cb:Bool),k<=m.F.length/\kk=.int .i64 k/\ch=.bool cb/\w3.ownsRow B1 3 1 v k (ui (lsL (jac m jn f) k))/\(cb=true ↔ ∃ i,i<k/\jac m jn f i ≠ f i)/\Below B1 wz w3) (fun _ _ kk _=>m.F.length - (intOf kk).toNat)
     case atStart=>exact ⟨0,false,nZ _,rfl,rfl,u_ HO,⟨(fun h=>by cases h),fun ⟨i,h,_⟩=>absurd h (nL _)⟩,u_ HBo⟩
     case round =>
      clear HO HBo hwz
      obtain ⟨k,cb,hkl,rfl,rfl,ho,hcb,hb⟩:=hrel
      have HNx:=h_ ho;have HCb:=h_ hcb;have HB1:=h_ hb
      have HBk:Hid (Below wz.heap.size wz wr):=h_ (by rw [hB1];exact hb)
      have hz1:B1<=wr.heap.size:=by have:=hb.size;omega
      clear ho hcb hb
      by_cases hklt:k<m.F.length
      . have hklt':(k:Int)<m.F.length:=by omega
        have HBa:=h_ ((u_ HBr).trans ((u_ HBk).mono hws))
        have HKr:=h_ ((u_ HK).mono (u_ HBa) (u_ HK).lt);have HSr:=h_ ((u_ HS).mono (u_ HBa))
        obtain ⟨pb,po,e1,⟨hpb,-,-,z2,-⟩,-⟩:=(u_ HSr).f k hklt
        dsimp only at e1
        obtain ⟨y0,y1,y2,y3⟩:=quad (u_ HKr)
        rw [e1] at y3
        clear e1
        obtain ⟨g,e2,hgl,zk⟩:=qkc (qcd (u_ HNow) (u_ HBk)) hklt
        have hauto:(m.F[k].lb<0/\jac m jn f k=((rdO m k m.F.length).map f).foldl jn (f k)) ∨ (¬ m.F[k].lb<0/\jac m jn f k=f k):=by
         unfold jac
         rw [qi1 hklt]
         by_cases h:m.F[k].lb<0
         . exact .inl ⟨h,by rw [if_pos h]⟩
         . exact .inr ⟨h,by rw [if_neg h]⟩
        generalize m.F[k].lb=lb at *
        rcases hauto with ⟨hneg,hjk⟩ | ⟨hneg,hjk⟩
        . subst e2
          have hfk:=(u_ HWay).lt k hklt
          go_wp2_with fail
          clear z2 y0 y1 y2 y3 zk
          obtain ⟨wx,hwx⟩:∃ wx,wr=wx:=⟨_,rfl⟩
          rw [hwx] at HNx HB1 HBk HBa HKr HSr hz1 hpb hgl
          go_loopw [12,13] (fun xv jv w4=>∃ j:Nat,j<=m.F.length/\jv=.int .i64 j/\xv=.int .i64 ((((rdO m k j).map f).foldl jn (f k):Nat):Int)/\Below wx.heap.size wx w4) (fun _ jv _=>m.F.length - (intOf jv).toNat)
          case atStart=>exact ⟨0,nZ _,rfl,rfl,by rw [hwx];exact bR _ _⟩
          case round =>
           clear hwx
           obtain ⟨j,hjl,rfl,rfl,hb⟩:=hrel
           have HBx:=h_ hb
           have HBb:=mT HBa hb
           have HK2:=h_ ((u_ HK).mono (u_ HBb) (u_ HK).lt);have HS2:=h_ ((u_ HS).mono (u_ HBb));have HQ2:=h_ ((u_ HQ).mono (u_ HBb) (u_ HQ).lt);have HJ2:=h_ ((u_ HJm).mono (u_ HBb))
           have HR2:=h_ (qcd (qcd (u_ HNow) (u_ HBk)) hb)
           have hws4:=hb.size
           clear hb
           have hxl:=(u_ HLat).fold_lt _ _ hfk (rdO_lt (u_ HWay).lt k j hjl)
           by_cases hjlt:j<m.F.length
           . have hjlt':(j:Int)<m.F.length:=by omega
             have hfj:=(u_ HWay).lt j hjlt
             have HSu:=h_ (qfv m k j)
             obtain ⟨y0,y1,y2,y3⟩:=quad (u_ HK2)
             have HC2:=h_ (u_ HCa wr j k hjlt hklt (u_ HS2))
             generalize hxx:((rdO m k j).map f).foldl jn (f k)=x at *
             have HXX:=h_ hxx
             clear hxx
             go_wp2_with fail
             refine (u_ HC2).mono ?_
             rintro r W5 ⟨rfl,hb⟩
             have HB5:=mT HBx hb
             have HQ5:=h_ ((u_ HQ2).mono hb (u_ HQ2).lt);have HJ5:=h_ ((u_ HJ2).mono hb);have HR5:=h_ (qcd (u_ HR2) hb)
             clear hb y0 y1 y2 y3 HC2 HK2 HS2 HQ2 HJ2 HR2
             cases har:anyR m j k
             . have HXn:Hid (((rdO m k (j+1)).map f).foldl jn (f k)=x):=h_ (by rw [u_ HSu,har,<- u_ HXX];simp)
               clear har HSu
               go_wp2_with fail
               go_roundw
               case rel=>first | exact ⟨j+1,by omega,by go_num,by rw [u_ HXn],u_ HB5⟩ | ((repeat apply Exists.intro);exact ⟨⟨j+1,by omega,by go_num,by rw [u_ HXn],u_ HB5⟩,rfl⟩)
               case measure=>simp [intOf];omega
             . have HXn:Hid (((rdO m k (j+1)).map f).foldl jn (f k)=jn x (f j)):=h_ (by rw [u_ HSu,har,<- u_ HXX];simp)
               clear har HSu
               obtain ⟨hidx,hw1,hw2,hidx',hidx2⟩:=qbe hxl hfj hn32
               obtain ⟨g',e2,-,zk⟩:=qkc (u_ HR5) hjlt
               cases e2
               obtain ⟨b2,o2,e3,-,zj⟩:=u_ HJ5 _ hidx
               rw [u_ HJe x (f j) hxl hfj] at zj
               have x2:=(u_ HQ5).cell 2;have x0:=(u_ HQ5).cell 0
               simp only [List.getElem?_cons_zero,List.getElem?_cons_succ] at x2 x0
               rw [e3] at x2
               clear e3
               generalize jn x (f j)=u at *
               generalize f j=y at *
               generalize x*n+y=q1 at *
               generalize x*n=q2 at *
               go_wp2_with fail
               refine wp_region_held_drew (S:=fun w'=>w'.cell? ⟨w.heap.size+1,2,none⟩=some (.slice (some ⟨b2,o2,none⟩) (n*n) c2)/\w'.cell? ⟨w.heap.size+1,0,none⟩=some (.int .i64 n)/\w'.cell? ⟨g,j,none⟩=some (.int .i64 (y:Nat))/\w'.cell? ⟨b2,o2+q1,none⟩=some (.int .i64 (u:Nat))) (by kernel_rfl) ⟨x2,x0,zk,zj⟩ (fun zz=>?_)
               clear x2 x0 zk zj
               refine tk 0 78 (.pointer (some ⟨w.heap.size+1,2,none⟩)) zz ?_
               refine tk 1 79 (.slice (some ⟨b2,o2,none⟩) (n*n) c2) zz ?_
               refine tk 2 80 (.int .i64 x) zz ?_
               refine tk 3 81 (.pointer (some ⟨w.heap.size+1,0,none⟩)) zz ?_
               simp only [sX,sY,sZ]
               refine tk 4 82 (.int .i64 n) zz ?_
               refine tk 5 83 (.int .i64 q2) zz ?_ (hy:=fun w hS=>by simp [execOp,go_sem, *];exact (IntWalk.i64_left _).trans hw1)
               refine tk 6 84 (.slice (some ⟨g,0,none⟩) m.F.length c5) zz ?_
               refine tk 7 85 (.int .i64 j) zz ?_
               simp only [sX,sY,sZ]
               refine tk 8 86 (.pointer (some ⟨g,j,none⟩)) zz ?_
               refine tk 9 87 (.int .i64 y) zz ?_
               refine tk 10 88 (.int .i64 q1) zz ?_ (hy:=fun w hS=>by simp [execOp,go_sem, *];exact (IntWalk.i64_left _).trans hw2)
               refine tk 11 89 (.pointer (some ⟨b2,o2+q1,none⟩)) zz ?_
               simp only [sX,sY,sZ]
               refine tk 12 90 (.int .i64 u) zz ?_
               refine tk 13 12 (.int .i64 u) zz ?_
               simp only [sX,sY,sZ]
               refine wpAnyH_done (by kernel_rfl) ?_ _
               have HB6:=h_ ((u_ HB5).drew)
               clear zz
               go_wp2_with fail
               go_roundw
               case rel=>first | exact ⟨j+1,by omega,by go_num,by rw [u_ HXn],u_ HB6⟩ | ((repeat apply Exists.intro);exact ⟨⟨j+1,by omega,by go_num,by rw [u_ HXn],u_ HB6⟩,rfl⟩)
               case measure=>simp [intOf];omega
           . obtain rfl:j=m.F.length:=by omega
             have hjlt':¬ (m.F.length:Int)<(m.F.length:Int):=by omega
             rw [<- hjk]
             rw [<- hjk] at hxl
             replace HNx:=h_ (qcd (u_ HNx) (u_ HBx));replace HB1:=h_ ((u_ HB1).trans ((u_ HBx).mono hz1));replace HBk:=h_ ((u_ HBk).trans ((u_ HBx).mono (u_ HBk).size))
             clear HBa HKr HSr HBb HK2 HS2 HQ2 HJ2 HR2 HBx hjk
             obtain ⟨g,e2,-,zk⟩:=qkc (qcd (u_ HNow) (u_ HBk)) hklt
             cases e2
             obtain ⟨i0,hi,hz0,hz1,hz2⟩:=info_parts infoI
             have hne:(jac m jn f k ≠ f k/\((((jac m jn f k:Nat):Int) != ((f k:Nat):Int))=true)) ∨ (jac m jn f k=f k/\((((jac m jn f k:Nat):Int) != ((f k:Nat):Int))=false)):=by
              by_cases e:jac m jn f k=f k
              . exact .inr ⟨e,by rw [e];simp⟩
              . exact .inl ⟨e,by simp;omega⟩
             have hkb:jac m jn f k<n:=(u_ HWj).lt k hklt
             have HT:=h_ (qf0 (jac m jn f) k)
             have hws2:=(u_ HBk).size
             have HCg:Hid (∀ c2:Bool,(c2=true ↔ ∃ i,i<k+1/\jac m jn f i ≠ f i) ↔ (c2=(cb || decide (jac m jn f k ≠ f k)))):=h_ fun c2=>by
              have hcb:=u_ HCb
              have h:(∃ i,i<k+1/\jac m jn f i ≠ f i) ↔ (cb || decide (jac m jn f k ≠ f k))=true:=by
               rw [Bool.or_eq_true,decide_eq_true_iff,hcb]
               constructor
               . rintro ⟨i,h1,h2⟩
                 by_cases e:i=k
                 . subst e;exact .inr h2
                 . exact .inl ⟨i,by omega,h2⟩
               . rintro (⟨i,h1,h2⟩ | h)
                 . exact ⟨i,by omega,h2⟩
                 . exact ⟨k,by omega,h⟩
              rw [h]
              cases c2 <;> cases (cb || decide (jac m jn f k ≠ f k)) <;> simp
             rcases hne with ⟨hne1,hne⟩ | ⟨hne1,hne⟩
             case' inl =>
              have HCn:Hid (true=true ↔ ∃ i,i<k+1/\jac m jn f i ≠ f i):=h_ ((u_ HCg true).2 (by rw [decide_eq_true hne1];simp))
              clear hne1 HCg
             case' inr =>
              have HCn:Hid (cb=true ↔ ∃ i,i<k+1/\jac m jn f i ≠ f i):=h_ ((u_ HCg cb).2 (by rw [decide_eq_false (not_not_intro hne1)];simp))
              clear hne1 HCg
             all_goals
              generalize jac m jn f k=x at *
              generalize f k=y at *
              go_wp2_with (at_builtin;refine wpList_append_own _ rfl _ _ 84 rfl B1 3 i0 _ 1 8 Tryz.underlying84 hi hz0 hz1 hz2 rfl (by omega) _ _ _ rfl ((u_ HNx).alloc _) ⟨wr.heap.size,0,none⟩ 1 1 [.int .i64 x] rfl rfl (qdt wr 3 _) (by simp [Value.oneCell']) (by unfold maxLen;omega) (by omega) (by simp;omega) ?_)
              intro v' w4 ho' hgr' _
              have HO2:Hid (w4.ownsRow B1 3 1 v' (k+1) (ui (lsL (jac m jn f) (k+1)))):=h_ (by rw [u_ HT];simpa [ui] using ho')
              have HB3:=h_ (((u_ HB1).alloc (by omega) (.cells #[.int .i64 x] 3)).grown hgr' (by simp;omega) (fun q' e=>q8y (u_ HNx) e))
              clear ho' hgr' hi hz0 hz1 hz2 zk hne
              go_wp2_with fail
              go_roundw
              case rel=>exact ⟨k+1,_,by omega,by go_num,rfl,u_ HO2,by first | exact u_ HCn | simpa using u_ HCn,u_ HB3⟩
              case measure=>simp [intOf];omega
        . have HT0:=h_ (qf0 (jac m jn f) k)
          have HCn:Hid (cb=true ↔ ∃ i,i<k+1/\jac m jn f i ≠ f i):=h_ (by
           rw [u_ HCb]
           constructor
           . rintro ⟨i,h1,h2⟩
             exact ⟨i,by omega,h2⟩
           . rintro ⟨i,h1,h2⟩
             by_cases e:i=k
             . subst e;exact absurd hjk h2
             . exact ⟨i,by omega,h2⟩)
          have HT:=HT0
          rw [hjk] at HT
          subst e2
          have hws2:=(u_ HBk).size
          obtain ⟨i0,hi,hz0,hz1',hz2⟩:=info_parts infoI
          clear hjk HT0
          generalize f k=y at *
          go_wp2_with (at_builtin;refine wpList_append_own _ rfl _ _ 84 rfl B1 3 i0 _ 1 8 Tryz.underlying84 hi hz0 hz1' hz2 rfl (by omega) _ _ _ rfl ((u_ HNx).alloc _) ⟨wr.heap.size,0,none⟩ 1 1 [.int .i64 y] rfl rfl (qdt wr 3 _) (by simp [Value.oneCell']) (by unfold maxLen;omega) (by omega) (by simp;omega) ?_)
          intro v' w4 ho' hgr' _
          have HO2:Hid (w4.ownsRow B1 3 1 v' (k+1) (ui (lsL (jac m jn f) (k+1)))):=h_ (by rw [u_ HT];simpa [ui] using ho')
          have HB3:=h_ (((u_ HB1).alloc (by omega) (.cells #[.int .i64 y] 3)).grown hgr' (by simp;omega) (fun q' e=>q8y (u_ HNx) e))
          clear ho' hgr' hi hz0 hz1' hz2 zk z2 y0 y1 y2 y3
          go_wp2_with fail
          go_roundw
          case rel=>first | exact ⟨k+1,cb,by omega,by go_num,rfl,u_ HO2,u_ HCn,u_ HB3⟩ | ((repeat apply Exists.intro);exact ⟨⟨k+1,cb,by omega,by go_num,rfl,u_ HO2,u_ HCn,u_ HB3⟩,rfl⟩)
          case measure=>simp [intOf];omega
      . obtain rfl:k=m.F.length:=by omega
        have hklt':¬ (m.F.length:Int)<(m.F.length:Int):=by omega
        have HB4:Hid (Below W0.heap.size W0 wr):=h_ ((u_ HBr).trans ((u_ HBk).mono hws))
        cases cb
        . have he:∀ i,i<m.F.length->jac m jn f i=f i:=fun i hi=>Classical.byContradiction fun h=>by have:=(u_ HCb).2 ⟨i,hi,h⟩;cases this
          have HSo:=h_ (qiq (u_ HLat) (u_ HWay) he)
          have hO:=u_ HNx
          rw [qbx he] at hO
          obtain ⟨a6,c6,rfl,-,hp6⟩:=q69 hO
          have HP6:=h_ hp6;have HLo:=h_ (u_ HWay).low
          have HBw:=h_ ((u_ HB).trans ((u_ HB4).mono (u_ HB).size))
          clear hO hp6 he HNx
          go_wp2_with fail
          go_ret
          first | exact ⟨f,a6,c6,rfl,u_ HSo,u_ HLo,u_ HP6,u_ HBw⟩ | exact ⟨f,a6,⟨c6,rfl⟩,u_ HSo,u_ HLo,u_ HP6,u_ HBw⟩ | exact ⟨f,⟨a6,⟨c6,rfl⟩,u_ HSo,u_ HLo,u_ HP6⟩,u_ HBw⟩
        . obtain ⟨i,hi,hne⟩:=(u_ HCb).1 rfl
          have HPn:Hid (q+1<=potL (fun a b=>F (a*n+b)) n m.F.length (jac m jn f)):=h_ (by
           have h1:=pot_lt (F:=fun a b=>F (a*n+b)) (u_ HLat) (u_ HWay).lt (u_ HWj).lt (u_ HJg) hi (fun e=>hne e.symm)
           have h2:=u_ HPq
           omega)
          have HO6:=h_ (qcb (u_ HNx) (show W0.heap.size<=B1 by omega))
          clear hne
          go_wp2_with fail
          go_roundw
          case rel=>first | exact ⟨q+1,jac m jn f,by omega,by go_num,u_ HO6,u_ HWj,u_ HPn,u_ HB4⟩ | ((repeat apply Exists.intro);exact ⟨⟨q+1,jac m jn f,by omega,by go_num,u_ HO6,u_ HWj,u_ HPn,u_ HB4⟩,rfl⟩)
          case measure=>simp [intOf];omega
end Go.Proofs.YtgkcaeidhkddjaaGreatDoor
