import Derived.Test.YtgkcaeidhkddjaaGreatDoorXZIpG
import Derived.Test.YtgkcaeidhkddjaaGreatDoorXZSpF7
import Derived.Test.YtgkcaeidhkddjaaGreatDoorXGC
set_option maxRecDepth 100000
set_option maxHeartbeats 20000000
namespace Go.Proofs.YtgkcaeidhkddjaaGreatDoor
open Go Go.RowKit
theorem q28 (m:Fm) (A:MA) (w:World) (hf:FitM m) (hcap:Caps m A) (ha:MSl w m A) (ht:Tabs w) (hy:TyW w) :
 Calls Tryz.prog 136 #[mV m A] w fun r w'=>r=.returned (.tuple #[.string (if vfB m then ⟨(cT m).toArray⟩ else ⟨#[]⟩),.bool (vfB m)])/\Below w.heap.size w w':=by
 obtain ⟨al,alc,ap,apc,ar,arc,af,afc,afa⟩:=A
 have HF0:Hid (¬ VfA m->vfB m=false):=h_ qdj
 have HT0:Hid (VfA m->vfB m=decide ((cT m).length<=30000)):=h_ vfB_of
 generalize vfB m=q at *
 have HCk:=h_ fun W=>q0y m ⟨al,alc,ap,apc,ar,arc,af,afc,afa⟩ W hf
 have HCn:=h_ fun W (hc:Counts m) (hs:MSl W m ⟨al,alc,ap,apc,ar,arc,af,afc,afa⟩)=>q0m m ⟨al,alc,ap,apc,ar,arc,af,afc,afa⟩ W hf hc hs
 have HCl:=h_ fun W (hc:Counts m) (hs:MSl W m ⟨al,alc,ap,apc,ar,arc,af,afc,afa⟩)=>q0i m ⟨al,alc,ap,apc,ar,arc,af,afc,afa⟩ W hc hs
 have HCf:=h_ fun W (hc:Counts m) (hs:MSl W m ⟨al,alc,ap,apc,ar,arc,af,afc,afa⟩) (ht:Tabs W)=>q04 m ⟨al,alc,ap,apc,ar,arc,af,afc,afa⟩ W hf hc hs hcap ht
 have HCa:=h_ fun W (hc:Counts m) (hs:MSl W m ⟨al,alc,ap,apc,ar,arc,af,afc,afa⟩)=>q0u m ⟨al,alc,ap,apc,ar,arc,af,afc,afa⟩ W hf hc hs
 have HCt:=h_ fun W (hv:VfA m) (hs:MSl W m ⟨al,alc,ap,apc,ar,arc,af,afc,afa⟩) (ht:Tabs W) (hy:TyW W)=>q09 m ⟨al,alc,ap,apc,ar,arc,af,afc,afa⟩ W hf hv hs ht hy
 unfold mV at HCk HCn HCl HCf HCa HCt ⊢
 dsimp only at HCk HCn HCl HCf HCa HCt ⊢
 have HK:=h_ (Blk.new w 36 #[.slice al m.L.length alc,.slice ap m.P.length apc,.slice ar m.R.length arc,.slice af m.F.length afc])
 have HB:=h_ ((bR w.heap.size w).alloc (nR _) (.cells #[.slice al m.L.length alc,.slice ap m.P.length apc,.slice ar m.R.length arc,.slice af m.F.length afc] 36))
 obtain ⟨W0,hW0⟩:∃ W0,w.alloc (.cells #[.slice al m.L.length alc,.slice ap m.P.length apc,.slice ar m.R.length arc,.slice af m.F.length afc] 36)=W0:=⟨_,rfl⟩
 rw [hW0] at HK HB
 have HS:=h_ (ha.mono (u_ HB));have HT:=h_ (ht.mono (u_ HB));have HY:=h_ (hy.mono (u_ HB))
 clear ha ht hy hf hcap
 have HR:Hid (q=false->(Ending.returned (.tuple #[.string (if q then ⟨(cT m).toArray⟩ else ⟨#[]⟩),.bool q]))=.returned (.tuple #[.string ⟨#[]⟩,.bool false])):=h_ fun h=>by rw [h];rfl
 have HR1:Hid (q=true->(Ending.returned (.tuple #[.string (if q then ⟨(cT m).toArray⟩ else ⟨#[]⟩),.bool q]))=.returned (.tuple #[.string ⟨(cT m).toArray⟩,.bool true])):=h_ fun h=>by rw [h];rfl
 generalize (Ending.returned (.tuple #[.string (if q then ⟨(cT m).toArray⟩ else ⟨#[]⟩),.bool q]))=RR at *
 obtain ⟨y0,y1,y2,y3⟩:=quad (u_ HK)
 go_enter Tryz.func136,Tryz.ntmps136
 go_wp2_with fail
 try rw [hW0]
 refine (u_ HCk W0).mono ?_
 rintro r W1 ⟨rfl,hb1⟩
 clear hW0
 replace HK:=mB HK hb1;replace HS:=h_ ((u_ HS).mono hb1);replace HT:=h_ ((u_ HT).mono hb1);replace HY:=h_ ((u_ HY).mono hb1);replace HB:=mT HB hb1
 clear y0 y1 y2 y3 hb1
 obtain ⟨y0,y1,y2,y3⟩:=quad (u_ HK)
 have HCo:Hid (decide (m.L.length<=32/\m.P.length<=256/\m.R.length<=64/\m.F.length<=200)=true->Counts m):=h_ fun h=>⟨(of_decide_eq_true h).1,(of_decide_eq_true h).2.1,(of_decide_eq_true h).2.2.1,(of_decide_eq_true h).2.2.2⟩
 have HCx:Hid (decide (m.L.length<=32/\m.P.length<=256/\m.R.length<=64/\m.F.length<=200)=false->¬ VfA m):=h_ fun h v=>of_decide_eq_false h ⟨v.nl,v.np,v.nr,v.nf⟩
 generalize decide (m.L.length<=32/\m.P.length<=256/\m.R.length<=64/\m.F.length<=200)=g at *
 cases g
 . have HX:=h_ (u_ HR (u_ HF0 (u_ HCx rfl)))
   go_wp2_with fail
   go_ret2
   exact ⟨(u_ HX).symm,u_ HB⟩
 have HC:=h_ (u_ HCo rfl)
 clear HCo HCx HCk
 go_wp2_with fail
 refine (u_ HCn W1 (u_ HC) (u_ HS)).mono ?_
 rintro r W2 ⟨rfl,hb1⟩
 replace HK:=mB HK hb1;replace HS:=h_ ((u_ HS).mono hb1);replace HT:=h_ ((u_ HT).mono hb1);replace HY:=h_ ((u_ HY).mono hb1);replace HB:=mT HB hb1
 clear y0 y1 y2 y3 hb1
 obtain ⟨y0,y1,y2,y3⟩:=quad (u_ HK)
 cases hn:(namesOk m.L&&namesOk (rNames m)&&namesOk (fNames m))
 . have HX:=h_ (u_ HR (u_ HF0 fun v=>by rw [v.l,v.r,v.f] at hn;cases hn))
   go_wp2_with fail
   go_ret2
   exact ⟨(u_ HX).symm,u_ HB⟩
 have HN:=h_ hn
 clear hn HCn
 go_wp2_with fail
 refine (u_ HCl W2 (u_ HC) (u_ HS)).mono ?_
 rintro r W3 ⟨rfl,hb1⟩
 replace HK:=mB HK hb1;replace HS:=h_ ((u_ HS).mono hb1);replace HT:=h_ ((u_ HT).mono hb1);replace HY:=h_ ((u_ HY).mono hb1);replace HB:=mT HB hb1
 clear y0 y1 y2 y3 hb1
 obtain ⟨y0,y1,y2,y3⟩:=quad (u_ HK)
 have HLx:Hid (((m.P.all fun p=>inR m.L.length p.1&&inR m.L.length p.2)&&m.R.all fun r=>inR m.L.length r.lb)=false->¬ VfA m):=h_ fun h v=>by
  rw [List.all_eq_true.2 (fun x hx=>by rw [(v.p x hx).1,(v.p x hx).2];rfl),List.all_eq_true.2 (fun x hx=>v.ro x hx)] at h
  cases h
 have HLy:Hid (((m.P.all fun p=>inR m.L.length p.1&&inR m.L.length p.2)&&m.R.all fun r=>inR m.L.length r.lb)=true->(∀ x,x ∈ m.P->inR m.L.length x.1=true/\inR m.L.length x.2=true)/\∀ x,x ∈ m.R->inR m.L.length x.lb=true):=h_ fun h=>by
  simp only [Bool.and_eq_true,List.all_eq_true] at h
  exact h
 generalize ((m.P.all fun p=>inR m.L.length p.1&&inR m.L.length p.2)&&m.R.all fun r=>inR m.L.length r.lb)=g at *
 cases g
 . have HX:=h_ (u_ HR (u_ HF0 (u_ HLx rfl)))
   go_wp2_with fail
   go_ret2
   exact ⟨(u_ HX).symm,u_ HB⟩
 have HL:=h_ (u_ HLy rfl)
 clear HLx HLy HCl
 go_wp2_with fail
 refine (u_ HCf W3 (u_ HC) (u_ HS) (u_ HT)).mono ?_
 rintro r W4 ⟨rfl,hb1⟩
 replace HK:=mB HK hb1;replace HS:=h_ ((u_ HS).mono hb1);replace HT:=h_ ((u_ HT).mono hb1);replace HY:=h_ ((u_ HY).mono hb1);replace HB:=mT HB hb1
 clear y0 y1 y2 y3 hb1
 obtain ⟨y0,y1,y2,y3⟩:=quad (u_ HK)
 cases hn:m.F.all (fieldOk m.L.length m.R.length)
 . have HX:=h_ (u_ HR (u_ HF0 fun v=>by rw [List.all_eq_true.2 (fun x hx=>v.fi x hx)] at hn;cases hn))
   go_wp2_with fail
   go_ret2
   exact ⟨(u_ HX).symm,u_ HB⟩
 have HFi:=h_ (List.all_eq_true.1 hn)
 clear hn HCf
 go_wp2_with fail
 refine (u_ HCa W4 (u_ HC) (u_ HS)).mono ?_
 rintro r W5 ⟨x,rfl,hx,hb1⟩
 replace HK:=mB HK hb1;replace HS:=h_ ((u_ HS).mono hb1);replace HT:=h_ ((u_ HT).mono hb1);replace HY:=h_ ((u_ HY).mono hb1);replace HB:=mT HB hb1
 clear y0 y1 y2 y3 hb1
 obtain ⟨y0,y1,y2,y3⟩:=quad (u_ HK)
 have HA:=h_ hx
 clear hx HCa
 by_cases hneg:0<=x
 . have HX:=h_ (u_ HR (u_ HF0 fun v=>by have:=(u_ HA).2.2.2 (fun y hy=>v.kn y hy);omega))
   go_wp2_with fail
   go_ret2
   exact ⟨(u_ HX).symm,u_ HB⟩
 have HVv:Hid (VfA m):=h_ ⟨(u_ HC).l,(u_ HC).p,(u_ HC).r,(u_ HC).f,by have:=u_ HN;simp only [Bool.and_eq_true] at this;exact this.1.1,by have:=u_ HN;simp only [Bool.and_eq_true] at this;exact this.1.2,by have:=u_ HN;simp only [Bool.and_eq_true] at this;exact this.2,(u_ HL).1,(u_ HL).2,u_ HFi,(u_ HA).2.2.1 (by omega)⟩
 have hTb:(cT m).length<=3714016:=by rw [<- c4_all];exact c4_len (u_ HVv) _
 have HQ:Hid (q=decide ((cT m).length<=30000)):=h_ (u_ HT0 (u_ HVv))
 replace HCt:=h_ (u_ HCt W5 (u_ HVv) (u_ HS) (u_ HT) (u_ HY))
 obtain ⟨T,hT⟩:∃ T:ByteArray,⟨(cT m).toArray⟩=T:=⟨_,rfl⟩
 have hTs:T.size=(cT m).length:=by rw [<- hT];rfl
 rw [<- hTs] at HQ hTb
 rw [hT] at HCt HR1
 clear hT hTs
 go_wp2_with fail
 refine (u_ HCt).mono ?_
 rintro r W6 ⟨rfl,hb1⟩
 replace HB:=mT HB hb1
 clear hb1 y0 y1 y2 y3
 by_cases hlen:(30000:Int)<T.size
 . have HX:=h_ (u_ HR (by rw [u_ HQ,decide_eq_false (by omega)]))
   go_wp2_with fail
   go_ret2
   exact ⟨(u_ HX).symm,u_ HB⟩
 . have HX:=h_ (u_ HR1 (by rw [u_ HQ,decide_eq_true (by omega)]))
   go_wp2_with fail
   go_ret2
   exact ⟨(u_ HX).symm,u_ HB⟩
theorem q0d (m:Fm) (A:MA) (w:World) (hf:FitM m) (hcap:Caps m A) (ha:MSl w m A) (ht:Tabs w) (hy:TyW w) :
 Calls Tryz.prog 111 #[mV m A] w fun r w'=>r=.returned (.bool (vfB m))/\Below w.heap.size w w':=by
 obtain ⟨al,alc,ap,apc,ar,arc,af,afc,afa⟩:=A
 have HC:=h_ fun W (hs:MSl W m ⟨al,alc,ap,apc,ar,arc,af,afc,afa⟩) (ht:Tabs W) (hy:TyW W)=>q28 m ⟨al,alc,ap,apc,ar,arc,af,afc,afa⟩ W hf hcap hs ht hy
 obtain ⟨t,ht'⟩:∃ t,(if vfB m then ⟨(cT m).toArray⟩ else ⟨#[]⟩)=(t:ByteArray):=⟨_,rfl⟩
 unfold mV at HC ⊢
 dsimp only at HC ⊢
 have HK:=h_ (Blk.new w 36 #[.slice al m.L.length alc,.slice ap m.P.length apc,.slice ar m.R.length arc,.slice af m.F.length afc])
 have HB:=h_ ((bR w.heap.size w).alloc (nR _) (.cells #[.slice al m.L.length alc,.slice ap m.P.length apc,.slice ar m.R.length arc,.slice af m.F.length afc] 36))
 obtain ⟨W0,hW0⟩:∃ W0,w.alloc (.cells #[.slice al m.L.length alc,.slice ap m.P.length apc,.slice ar m.R.length arc,.slice af m.F.length afc] 36)=W0:=⟨_,rfl⟩
 rw [hW0] at HK HB
 replace HC:=h_ (u_ HC W0 (ha.mono (u_ HB)) (ht.mono (u_ HB)) (hy.mono (u_ HB)))
 rw [ht'] at HC
 clear ha ht hy hf hcap ht'
 obtain ⟨y0,y1,y2,y3⟩:=quad (u_ HK)
 go_enter Tryz.func111,Tryz.ntmps111
 go_wp2_with fail
 try rw [hW0]
 refine (u_ HC).mono ?_
 rintro r W1 ⟨rfl,hb1⟩
 replace HB:=mT HB hb1
 clear hb1 hW0 y0 y1 y2 y3
 go_wp2_with fail
 go_ret
 exact ⟨rfl,u_ HB⟩
theorem qd2 {w w':World} {G:Nat} {l:List ByteArray} (h:Strs w (some ⟨G,0,none⟩) l) (hk:w'.heap[G]? = w.heap[G]?) (hz:w'.heap.size=w.heap.size):Strs w' (some ⟨G,0,none⟩) l:=fun k hkn=>by
 obtain ⟨b,o,e1,h0,h1⟩:=h k hkn
 cases e1
 exact ⟨G,0,rfl,by rw [hz];exact h0,(World.cell?_of_block (a:=⟨G,0+k,none⟩) hk).trans h1⟩
theorem qfp {w w':World} {G:Nat} {l:List (Int × Int)} (h:Prs w (some ⟨G,0,none⟩) l) (hk:w'.heap[G]? = w.heap[G]?) (hz:w'.heap.size=w.heap.size):Prs w' (some ⟨G,0,none⟩) l:=fun k hkn=>by
 obtain ⟨b,o,e1,h0,h1,h2⟩:=h k hkn
 cases e1
 exact ⟨G,0,rfl,by rw [hz];exact h0,(World.cell?_of_block (a:=⟨G,0+k*2,none⟩) hk).trans h1,(World.cell?_of_block (a:=⟨G,0+k*2+1,none⟩) hk).trans h2⟩
theorem qg3 {w w':World} {G:Nat} {l:List Rl} (h:Rls w (some ⟨G,0,none⟩) l) (hk:w'.heap[G]? = w.heap[G]?) (hz:w'.heap.size=w.heap.size):Rls w' (some ⟨G,0,none⟩) l:=fun k hkn=>by
 obtain ⟨b,o,e1,h0,h1,h2⟩:=h k hkn
 cases e1
 exact ⟨G,0,rfl,by rw [hz];exact h0,(World.cell?_of_block (a:=⟨G,0+k*2,none⟩) hk).trans h1,(World.cell?_of_block (a:=⟨G,0+k*2+1,none⟩) hk).trans h2⟩
theorem qba {w w':World} {G N:Nat} {l:List Fl} {AF:Nat->FA} (h:Flds w (some ⟨G,0,none⟩) l AF) (hN:N<=G) (hA:∀ k,k<l.length->FarA N (AF k)) (hk:∀ G,N<=G->w'.heap[G]? = w.heap[G]?) (hz:w'.heap.size=w.heap.size):Flds w' (some ⟨G,0,none⟩) l AF:=fun k hkn=>by
 obtain ⟨b,o,e1,⟨h0,h1,h2,h3,h4,h5,h6,h7,h8,h9⟩,hs⟩:=h k hkn
 cases e1
 have hg:=hk G hN
 exact ⟨G,0,rfl,⟨by rw [hz];exact h0,(World.cell?_of_block (a:=⟨G,0+k*9,none⟩) hg).trans h1,(World.cell?_of_block (a:=⟨G,0+k*9+1,none⟩) hg).trans h2,(World.cell?_of_block (a:=⟨G,0+k*9+2,none⟩) hg).trans h3,(World.cell?_of_block (a:=⟨G,0+k*9+3,none⟩) hg).trans h4,(World.cell?_of_block (a:=⟨G,0+k*9+4,none⟩) hg).trans h5,(World.cell?_of_block (a:=⟨G,0+k*9+5,none⟩) hg).trans h6,(World.cell?_of_block (a:=⟨G,0+k*9+6,none⟩) hg).trans h7,(World.cell?_of_block (a:=⟨G,0+k*9+7,none⟩) hg).trans h8,(World.cell?_of_block (a:=⟨G,0+k*9+8,none⟩) hg).trans h9⟩,hs.keep (hA k hkn) hk hz⟩
structure Sm (m:Fm):Prop where
 l:m.L.length<=1048576
 p:m.P.length<=1048576
 r:m.R.length<=1048576
 f:m.F.length<=1048576
 s:∀ x,x ∈ m.F->SmF x
def MBk (N:Nat) (w:World) (m:Fm) (A:MA):Prop:=∃ g1 g2 g3 g4:Nat,A.l=some ⟨g1,0,none⟩/\A.p=some ⟨g2,0,none⟩/\A.r=some ⟨g3,0,none⟩/\A.f=some ⟨g4,0,none⟩/\(N<=g1/\N<=g2/\N<=g3/\N<=g4)/\(g1<g4/\g2<g4/\g3<g4)/\Bk w g1 9 m.L.length/\Bk w g2 104 (m.P.length*2)/\Bk w g3 102 (m.R.length*2)/\Bk w g4 94 (m.F.length*9)/\∀ k (h:k<m.F.length),FBk (g4+1) w m.F[k] (A.fa k)
theorem qdc (m:Fm) (A:MA) (w:World) (hn:Sm m) (ha:MSl w m A) :
 Calls Tryz.prog 7 #[mV m A] w fun r w'=>∃ A',r=.returned (mV m A')/\MSl w' m A'/\Caps m A'/\MBk w.heap.size w' m A'/\Below w.heap.size w w':=by
 obtain ⟨al,alc,ap,apc,ar,arc,af,afc,afa⟩:=A
 have HA:=h_ ha;have HN:=h_ hn
 unfold mV
 dsimp only
 have HK:=h_ (((Blk.new w 27 #[.slice al m.L.length alc,.slice ap m.P.length apc,.slice ar m.R.length arc,.slice af m.F.length afc]).alloc (.cells #[.slice none 0 0,.slice none 0 0,.slice none 0 0,.slice none 0 0] 36)).alloc (.cells #[.slice none 0 0,.slice none 0 0,.slice none 0 0,.slice none 0 0] 36))
 have HR:=h_ ((Blk.new (w.alloc (.cells #[.slice al m.L.length alc,.slice ap m.P.length apc,.slice ar m.R.length arc,.slice af m.F.length afc] 27)) 36 #[.slice none 0 0,.slice none 0 0,.slice none 0 0,.slice none 0 0]).alloc (.cells #[.slice none 0 0,.slice none 0 0,.slice none 0 0,.slice none 0 0] 36))
 have HO:=h_ (Blk.new ((w.alloc (.cells #[.slice al m.L.length alc,.slice ap m.P.length apc,.slice ar m.R.length arc,.slice af m.F.length afc] 27)).alloc (.cells #[.slice none 0 0,.slice none 0 0,.slice none 0 0,.slice none 0 0] 36)) 36 #[.slice none 0 0,.slice none 0 0,.slice none 0 0,.slice none 0 0])
 have HB:=h_ ((((bR w.heap.size w).alloc (nR _) (.cells #[.slice al m.L.length alc,.slice ap m.P.length apc,.slice ar m.R.length arc,.slice af m.F.length afc] 27)).alloc (by simp) (.cells #[.slice none 0 0,.slice none 0 0,.slice none 0 0,.slice none 0 0] 36)).alloc (by simp;omega) (.cells #[.slice none 0 0,.slice none 0 0,.slice none 0 0,.slice none 0 0] 36))
 simp only [World.size_alloc] at HR HO
 obtain ⟨V0,hV0⟩:∃ V,((w.alloc (.cells #[.slice al m.L.length alc,.slice ap m.P.length apc,.slice ar m.R.length arc,.slice af m.F.length afc] 27)).alloc (.cells #[.slice none 0 0,.slice none 0 0,.slice none 0 0,.slice none 0 0] 36)).alloc (.cells #[.slice none 0 0,.slice none 0 0,.slice none 0 0,.slice none 0 0] 36)=V:=⟨_,rfl⟩
 have HZ:Hid (w.heap.size+3<=V0.heap.size):=h_ (by rw [<- hV0];simp)
 rw [hV0] at HK HR HO HB
 clear ha hn
 obtain ⟨x0,x1,x2,x3⟩:=quad (u_ HK)
 go_enter Tryz.func7,Tryz.ntmps7
 go_wp2_with fail
 try rw [hV0]
 clear hV0 x0 x1 x2 x3
 refine (q4k al m.L alc V0 ((u_ HA).mono (u_ HB)).l (u_ HN).l).mono ?_
 rintro e w1 ⟨rfl,hP,hbk,hb⟩
 obtain ⟨G1,hG1⟩:∃ G,V0.heap.size=G:=⟨_,rfl⟩
 have hgG1:w.heap.size+3<=G1:=by have:=u_ HZ;omega
 have HK':=mB HK hb;have HR':=mB HR hb;have HO':=mB HO hb;have HB':=mT HB hb
 have HZ':Hid (w.heap.size+3<=w1.heap.size):=h_ (by have:=u_ HZ;have:=hb.size;omega)
 rw [hG1] at hP hbk ⊢
 have HM0:=h_ hP
 have HF0:=h_ hbk
 clear hP hbk hb hG1 HK HR HO HB HZ
 obtain ⟨x0,x1,x2,x3⟩:=quad (u_ HK')
 obtain ⟨o0,o1,o2,o3⟩:=quad (u_ HO')
 have e3:=(u_ HO').free 0
 go_wp2_with fail
 have HK:=h_ ((u_ HK').other (.slice (some ⟨G1,0,none⟩) m.L.length m.L.length) (a:=⟨w.heap.size+2,0,none⟩) (by simp));have HR:=h_ ((u_ HR').other (.slice (some ⟨G1,0,none⟩) m.L.length m.L.length) (a:=⟨w.heap.size+2,0,none⟩) (by simp));have HO:=h_ ((u_ HO').set 0 (.slice (some ⟨G1,0,none⟩) m.L.length m.L.length));have HB:=h_ ((u_ HB').setCell (p:=⟨w.heap.size+2,0,none⟩) (show w.heap.size<=w.heap.size+2 by omega) (.slice (some ⟨G1,0,none⟩) m.L.length m.L.length))
 have HZ:Hid (w.heap.size+3<=(w1.setCell ⟨w.heap.size+2,0,none⟩ (.slice (some ⟨G1,0,none⟩) m.L.length m.L.length)).heap.size):=h_ (by simpa using u_ HZ')
 replace HM0:=h_ (qd2 (u_ HM0) (heap_setCell_other w1 ⟨w.heap.size+2,0,none⟩ G1 (.slice (some ⟨G1,0,none⟩) m.L.length m.L.length) (by simp;omega)) (by simp))
 replace HF0:=h_ ((u_ HF0).keep (heap_setCell_other w1 ⟨w.heap.size+2,0,none⟩ G1 (.slice (some ⟨G1,0,none⟩) m.L.length m.L.length) (by simp;omega)))
 obtain ⟨V1,hV1⟩:∃ V,(w1.setCell ⟨w.heap.size+2,0,none⟩ (.slice (some ⟨G1,0,none⟩) m.L.length m.L.length))=V:=⟨_,rfl⟩
 rw [hV1] at HK HR HO HB HZ HM0 HF0
 simp only [List.set_cons_zero] at HO
 try rw [hV1]
 clear hV1 HK' HR' HO' HB' HZ' x0 x1 x2 x3 o0 o1 o2 o3 e3
 refine (q9n ap m.P apc V1 ((u_ HA).mono (u_ HB)).p (u_ HN).p).mono ?_
 rintro e w2 ⟨rfl,hP,hbk,hb⟩
 obtain ⟨G2,hG2⟩:∃ G,V1.heap.size=G:=⟨_,rfl⟩
 have hgG2:w.heap.size+3<=G2:=by have:=u_ HZ;omega
 have HK':=mB HK hb;have HR':=mB HR hb;have HO':=mB HO hb;have HB':=mT HB hb
 have HZ':Hid (w.heap.size+3<=w2.heap.size):=h_ (by have:=u_ HZ;have:=hb.size;omega)
 replace HM0:=h_ ((u_ HM0).mono hb)
 replace HF0:=h_ ((u_ HF0).mono hb (u_ HF0).lt)
 rw [hG2] at hP hbk ⊢
 have HM1:=h_ hP
 have HF1:=h_ hbk
 clear hP hbk hb hG2 HK HR HO HB HZ
 obtain ⟨x0,x1,x2,x3⟩:=quad (u_ HK')
 obtain ⟨o0,o1,o2,o3⟩:=quad (u_ HO')
 have e3:=(u_ HO').free 1
 go_wp2_with fail
 have HK:=h_ ((u_ HK').other (.slice (some ⟨G2,0,none⟩) m.P.length m.P.length) (a:=⟨w.heap.size+2,1,none⟩) (by simp));have HR:=h_ ((u_ HR').other (.slice (some ⟨G2,0,none⟩) m.P.length m.P.length) (a:=⟨w.heap.size+2,1,none⟩) (by simp));have HO:=h_ ((u_ HO').set 1 (.slice (some ⟨G2,0,none⟩) m.P.length m.P.length));have HB:=h_ ((u_ HB').setCell (p:=⟨w.heap.size+2,1,none⟩) (show w.heap.size<=w.heap.size+2 by omega) (.slice (some ⟨G2,0,none⟩) m.P.length m.P.length))
 have HZ:Hid (w.heap.size+3<=(w2.setCell ⟨w.heap.size+2,1,none⟩ (.slice (some ⟨G2,0,none⟩) m.P.length m.P.length)).heap.size):=h_ (by simpa using u_ HZ')
 replace HM0:=h_ (qd2 (u_ HM0) (heap_setCell_other w2 ⟨w.heap.size+2,1,none⟩ G1 (.slice (some ⟨G2,0,none⟩) m.P.length m.P.length) (by simp;omega)) (by simp))
 replace HF0:=h_ ((u_ HF0).keep (heap_setCell_other w2 ⟨w.heap.size+2,1,none⟩ G1 (.slice (some ⟨G2,0,none⟩) m.P.length m.P.length) (by simp;omega)))
 replace HM1:=h_ (qfp (u_ HM1) (heap_setCell_other w2 ⟨w.heap.size+2,1,none⟩ G2 (.slice (some ⟨G2,0,none⟩) m.P.length m.P.length) (by simp;omega)) (by simp))
 replace HF1:=h_ ((u_ HF1).keep (heap_setCell_other w2 ⟨w.heap.size+2,1,none⟩ G2 (.slice (some ⟨G2,0,none⟩) m.P.length m.P.length) (by simp;omega)))
 obtain ⟨V2,hV2⟩:∃ V,(w2.setCell ⟨w.heap.size+2,1,none⟩ (.slice (some ⟨G2,0,none⟩) m.P.length m.P.length))=V:=⟨_,rfl⟩
 rw [hV2] at HK HR HO HB HZ HM0 HM1 HF0 HF1
 simp only [List.set_cons_zero,List.set_cons_succ] at HO
 try rw [hV2]
 clear hV2 HK' HR' HO' HB' HZ' x0 x1 x2 x3 o0 o1 o2 o3 e3
 refine (q9p ar m.R arc V2 ((u_ HA).mono (u_ HB)).r (u_ HN).r).mono ?_
 rintro e w3 ⟨rfl,hP,hbk,hb⟩
 obtain ⟨G3,hG3⟩:∃ G,V2.heap.size=G:=⟨_,rfl⟩
 have hgG3:w.heap.size+3<=G3:=by have:=u_ HZ;omega
 have HK':=mB HK hb;have HR':=mB HR hb;have HO':=mB HO hb;have HB':=mT HB hb
 have HZ':Hid (w.heap.size+3<=w3.heap.size):=h_ (by have:=u_ HZ;have:=hb.size;omega)
 replace HM0:=h_ ((u_ HM0).mono hb)
 replace HF0:=h_ ((u_ HF0).mono hb (u_ HF0).lt)
 replace HM1:=h_ ((u_ HM1).mono hb)
 replace HF1:=h_ ((u_ HF1).mono hb (u_ HF1).lt)
 rw [hG3] at hP hbk ⊢
 have HM2:=h_ hP
 have HF2:=h_ hbk
 clear hP hbk hb hG3 HK HR HO HB HZ
 obtain ⟨x0,x1,x2,x3⟩:=quad (u_ HK')
 obtain ⟨o0,o1,o2,o3⟩:=quad (u_ HO')
 have e3:=(u_ HO').free 2
 go_wp2_with fail
 have HK:=h_ ((u_ HK').other (.slice (some ⟨G3,0,none⟩) m.R.length m.R.length) (a:=⟨w.heap.size+2,2,none⟩) (by simp));have HR:=h_ ((u_ HR').other (.slice (some ⟨G3,0,none⟩) m.R.length m.R.length) (a:=⟨w.heap.size+2,2,none⟩) (by simp));have HO:=h_ ((u_ HO').set 2 (.slice (some ⟨G3,0,none⟩) m.R.length m.R.length));have HB:=h_ ((u_ HB').setCell (p:=⟨w.heap.size+2,2,none⟩) (show w.heap.size<=w.heap.size+2 by omega) (.slice (some ⟨G3,0,none⟩) m.R.length m.R.length))
 have HZ:Hid (w.heap.size+3<=(w3.setCell ⟨w.heap.size+2,2,none⟩ (.slice (some ⟨G3,0,none⟩) m.R.length m.R.length)).heap.size):=h_ (by simpa using u_ HZ')
 replace HM0:=h_ (qd2 (u_ HM0) (heap_setCell_other w3 ⟨w.heap.size+2,2,none⟩ G1 (.slice (some ⟨G3,0,none⟩) m.R.length m.R.length) (by simp;omega)) (by simp))
 replace HF0:=h_ ((u_ HF0).keep (heap_setCell_other w3 ⟨w.heap.size+2,2,none⟩ G1 (.slice (some ⟨G3,0,none⟩) m.R.length m.R.length) (by simp;omega)))
 replace HM1:=h_ (qfp (u_ HM1) (heap_setCell_other w3 ⟨w.heap.size+2,2,none⟩ G2 (.slice (some ⟨G3,0,none⟩) m.R.length m.R.length) (by simp;omega)) (by simp))
 replace HF1:=h_ ((u_ HF1).keep (heap_setCell_other w3 ⟨w.heap.size+2,2,none⟩ G2 (.slice (some ⟨G3,0,none⟩) m.R.length m.R.length) (by simp;omega)))
 replace HM2:=h_ (qg3 (u_ HM2) (heap_setCell_other w3 ⟨w.heap.size+2,2,none⟩ G3 (.slice (some ⟨G3,0,none⟩) m.R.length m.R.length) (by simp;omega)) (by simp))
 replace HF2:=h_ ((u_ HF2).keep (heap_setCell_other w3 ⟨w.heap.size+2,2,none⟩ G3 (.slice (some ⟨G3,0,none⟩) m.R.length m.R.length) (by simp;omega)))
 obtain ⟨V3,hV3⟩:∃ V,(w3.setCell ⟨w.heap.size+2,2,none⟩ (.slice (some ⟨G3,0,none⟩) m.R.length m.R.length))=V:=⟨_,rfl⟩
 rw [hV3] at HK HR HO HB HZ HM0 HM1 HM2 HF0 HF1 HF2
 simp only [List.set_cons_zero,List.set_cons_succ] at HO
 try rw [hV3]
 clear hV3 HK' HR' HO' HB' HZ' x0 x1 x2 x3 o0 o1 o2 o3 e3
 refine (q6u af m.F afa afc V3 ((u_ HA).mono (u_ HB)).f (u_ HN).f (u_ HN).s).mono ?_
 rintro e w4 ⟨AF,rfl,hP,hcap,hbk,hb⟩
 obtain ⟨G4,hG4⟩:∃ G,V3.heap.size=G:=⟨_,rfl⟩
 have hgG4:w.heap.size+3<=G4:=by have:=u_ HZ;omega
 have hlt1:G1<G4:=by have:=(u_ HF0).lt;omega
 have hlt2:G2<G4:=by have:=(u_ HF1).lt;omega
 have hlt3:G3<G4:=by have:=(u_ HF2).lt;omega
 have HK':=mB HK hb;have HR':=mB HR hb;have HO':=mB HO hb;have HB':=mT HB hb
 have HZ':Hid (w.heap.size+3<=w4.heap.size):=h_ (by have:=u_ HZ;have:=hb.size;omega)
 replace HM0:=h_ ((u_ HM0).mono hb)
 replace HF0:=h_ ((u_ HF0).mono hb (u_ HF0).lt)
 replace HM1:=h_ ((u_ HM1).mono hb)
 replace HF1:=h_ ((u_ HF1).mono hb (u_ HF1).lt)
 replace HM2:=h_ ((u_ HM2).mono hb)
 replace HF2:=h_ ((u_ HF2).mono hb (u_ HF2).lt)
 rw [hG4] at hP hbk ⊢
 rw [hG4] at hcap
 have HCap:=h_ hcap
 clear hcap
 have HM3:=h_ hP
 have HF3:=h_ hbk
 clear hP hbk hb hG4 HK HR HO HB HZ
 obtain ⟨x0,x1,x2,x3⟩:=quad (u_ HK')
 obtain ⟨o0,o1,o2,o3⟩:=quad (u_ HO')
 have e3:=(u_ HO').free 3
 obtain ⟨r0,r1,r2,r3⟩:=quad (u_ HR')
 have s0:=(u_ HR').free 0;have s1:=(u_ HR').free 1;have s2:=(u_ HR').free 2;have s3:=(u_ HR').free 3
 have HF:Hid (∀ (W:World),(∀ G,w.heap.size+3<=G->W.heap[G]? = w4.heap[G]?)->W.heap.size=w4.heap.size->MSl W m ⟨some ⟨G1,0,none⟩,m.L.length,some ⟨G2,0,none⟩,m.P.length,some ⟨G3,0,none⟩,m.R.length,some ⟨G4,0,none⟩,m.F.length,AF⟩):=h_ fun W hW hz=>⟨qd2 (u_ HM0) (hW _ hgG1) hz,qfp (u_ HM1) (hW _ hgG2) hz,qg3 (u_ HM2) (hW _ hgG3) hz,qba (N:=G4) (u_ HM3) (nR _) (fun k hk=>by
  obtain ⟨g1,g2,g3,g4,g5,e1,e2,e3,e4,e5,l1,l2,l3,l4,l5⟩:=(u_ HCap k hk).2.1
  exact ⟨g1,g2,g3,g4,g5,e1,e2,e3,e4,e5,by omega,by omega,by omega,by omega,by omega⟩) (fun G hG=>hW G (by omega)) hz⟩
 go_wp2_with fail
 refine bodyPost_ret (v:=.agg #[.slice (some ⟨G1,0,none⟩) m.L.length m.L.length,.slice (some ⟨G2,0,none⟩) m.P.length m.P.length,.slice (some ⟨G3,0,none⟩) m.R.length m.R.length,.slice (some ⟨G4,0,none⟩) m.F.length m.F.length]) (by simp [results,Tryz.results7,go_sem, *]) rfl ⟨⟨some ⟨G1,0,none⟩,m.L.length,some ⟨G2,0,none⟩,m.P.length,some ⟨G3,0,none⟩,m.R.length,some ⟨G4,0,none⟩,m.F.length,AF⟩,rfl,?_,fun k hk=>(u_ HCap k hk).1,?_,?_⟩
 . refine u_ HF _ (fun G hG=>?_) (by simp)
   repeat rw [heap_setCell_other _ _ _ _ (by simp;omega)]
 . have hk:∀ (W:World),(∀ G,w.heap.size+3<=G->W.heap[G]? = w4.heap[G]?)->MBk w.heap.size W m ⟨some ⟨G1,0,none⟩,m.L.length,some ⟨G2,0,none⟩,m.P.length,some ⟨G3,0,none⟩,m.R.length,some ⟨G4,0,none⟩,m.F.length,AF⟩:=fun W hW=>⟨G1,G2,G3,G4,rfl,rfl,rfl,rfl,⟨by omega,by omega,by omega,by omega⟩,⟨hlt1,hlt2,hlt3⟩,(u_ HF0).keep (hW _ hgG1),(u_ HF1).keep (hW _ hgG2),(u_ HF2).keep (hW _ hgG3),(u_ HF3).keep (hW _ hgG4),fun k hk=>(u_ HCap k hk).2.2.keep fun G hG _=>hW G (by omega)⟩
   refine hk _ (fun G hG=>?_)
   repeat rw [heap_setCell_other _ _ _ _ (by simp;omega)]
 . repeat refine Below.setCell ?_ (by simp;try omega) _
   exact u_ HB'
theorem q9j (m:Fm) (A:MA) (w:World) (hn:Sm m) (ha:MSl w m A) :
 Calls Tryz.prog 7 #[mV m A] w fun r w'=>∃ A',r=.returned (mV m A')/\MSl w' m A'/\Caps m A'/\Below w.heap.size w w' :=
 (qdc m A w hn ha).mono fun _ _ ⟨A',h1,h2,h3,_,h5⟩=>⟨A',h1,h2,h3,h5⟩
theorem q7l (m:Fm) (A A2:MA) (w:World) (hf:Sm m) (ha:MSl w m A) (hb:MSl w m A2) :
 Calls Tryz.prog 10 #[mV m A,mV m A2] w fun r w'=>r=.returned (.bool true)/\Below w.heap.size w w':=by
 obtain ⟨al,alc,ap,apc,ar,arc,af,afc,afa⟩:=A
 obtain ⟨bl,blc,bp,bpc,br,brc,bf,bfc,bfa⟩:=A2
 unfold mV
 dsimp only
 have HK:=h_ ((Blk.new w 36 #[.slice al m.L.length alc,.slice ap m.P.length apc,.slice ar m.R.length arc,.slice af m.F.length afc]).alloc (.cells #[.slice bl m.L.length blc,.slice bp m.P.length bpc,.slice br m.R.length brc,.slice bf m.F.length bfc] 36))
 have HK2:=h_ (Blk.new (w.alloc (.cells #[.slice al m.L.length alc,.slice ap m.P.length apc,.slice ar m.R.length arc,.slice af m.F.length afc] 36)) 36 #[.slice bl m.L.length blc,.slice bp m.P.length bpc,.slice br m.R.length brc,.slice bf m.F.length bfc])
 rw [World.size_alloc] at HK2
 have HB:=h_ (((bR w.heap.size w).alloc (nR _) (.cells #[.slice al m.L.length alc,.slice ap m.P.length apc,.slice ar m.R.length arc,.slice af m.F.length afc] 36)).alloc (by simp) (.cells #[.slice bl m.L.length blc,.slice bp m.P.length bpc,.slice br m.R.length brc,.slice bf m.F.length bfc] 36))
 obtain ⟨W0,hW0⟩:∃ W0,(w.alloc (.cells #[.slice al m.L.length alc,.slice ap m.P.length apc,.slice ar m.R.length arc,.slice af m.F.length afc] 36)).alloc (.cells #[.slice bl m.L.length blc,.slice bp m.P.length bpc,.slice br m.R.length brc,.slice bf m.F.length bfc] 36)=W0:=⟨_,rfl⟩
 rw [hW0] at HK HK2 HB
 have HS:=h_ (ha.mono (u_ HB));have HS2:=h_ (hb.mono (u_ HB));have HF:=h_ hf
 clear ha hf hb
 obtain ⟨x0,x1,x2,x3⟩:=quad (u_ HK)
 obtain ⟨y0,y1,y2,y3⟩:=quad (u_ HK2)
 go_enter Tryz.func10,Tryz.ntmps10
 go_wp2_with fail
 try rw [hW0]
 refine (q1h al bl m.L alc blc W0 (u_ HF).l (u_ HS).l (u_ HS2).l).mono ?_
 rintro r W1 ⟨rfl,hb⟩
 replace HK:=mB HK hb;replace HK2:=mB HK2 hb;replace HS:=h_ ((u_ HS).mono hb);replace HS2:=h_ ((u_ HS2).mono hb);replace HB:=mT HB hb
 clear hW0 hb x0 x1 x2 x3 y0 y1 y2 y3
 obtain ⟨x0,x1,x2,x3⟩:=quad (u_ HK)
 obtain ⟨y0,y1,y2,y3⟩:=quad (u_ HK2)
 go_wp2_with fail
 refine (q3j ap bp m.P apc bpc W1 (u_ HF).p (u_ HS).p (u_ HS2).p).mono ?_
 rintro r W2 ⟨rfl,hb⟩
 replace HK:=mB HK hb;replace HK2:=mB HK2 hb;replace HS:=h_ ((u_ HS).mono hb);replace HS2:=h_ ((u_ HS2).mono hb);replace HB:=mT HB hb
 clear hb x0 x1 x2 x3 y0 y1 y2 y3
 obtain ⟨x0,x1,x2,x3⟩:=quad (u_ HK)
 obtain ⟨y0,y1,y2,y3⟩:=quad (u_ HK2)
 go_wp2_with fail
 refine (q3k ar br m.R arc brc W2 (u_ HF).r (u_ HS).r (u_ HS2).r).mono ?_
 rintro r W3 ⟨rfl,hb⟩
 replace HK:=mB HK hb;replace HK2:=mB HK2 hb;replace HS:=h_ ((u_ HS).mono hb);replace HS2:=h_ ((u_ HS2).mono hb);replace HB:=mT HB hb
 clear hb x0 x1 x2 x3 y0 y1 y2 y3
 obtain ⟨x0,x1,x2,x3⟩:=quad (u_ HK)
 obtain ⟨y0,y1,y2,y3⟩:=quad (u_ HK2)
 go_wp2_with fail
 refine (q3h af bf m.F afa bfa afc bfc W3 (u_ HF).f (u_ HF).s (u_ HS).f (u_ HS2).f).mono ?_
 rintro r W4 ⟨rfl,hb⟩
 replace HK:=mB HK hb;replace HK2:=mB HK2 hb;replace HS:=h_ ((u_ HS).mono hb);replace HS2:=h_ ((u_ HS2).mono hb);replace HB:=mT HB hb
 clear hb x0 x1 x2 x3 y0 y1 y2 y3
 obtain ⟨x0,x1,x2,x3⟩:=quad (u_ HK)
 obtain ⟨y0,y1,y2,y3⟩:=quad (u_ HK2)
 go_wp2_with fail
 go_ret
 exact ⟨rfl,u_ HB⟩
end Go.Proofs.YtgkcaeidhkddjaaGreatDoor
