import Derived.Test.YtgkcaeidhkddjaaGreatDoorXGL3
set_option maxRecDepth 100000
set_option maxHeartbeats 20000000
namespace Go.Proofs.YtgkcaeidhkddjaaGreatDoor
open Go Go.RowKit
def pr1 (m:Fm) (k:Nat):Int:=(m.P.getD k (0,0)).1
def pr2 (m:Fm) (k:Nat):Int:=(m.P.getD k (0,0)).2
theorem qjs {w:World} {m:Fm} {A:MA} (h:MSl w m A):Pairs w A.p m.P.length (pr1 m) (pr2 m):=qfi h.p
theorem q5o (m:Fm) (A:MA) (w:World) (hf:FitM m) :
 Calls Tryz.prog 45 #[mV m A] w fun r w'=>r=.returned (.agg #[.int .i64 m.L.length,.slice A.p m.P.length A.pc])/\Below w.heap.size w w':=by
 obtain ⟨al,alc,ap,apc,ar,arc,af,afc,afa⟩:=A
 unfold mV
 dsimp only
 have h1:=hf.ll
 have HK:=h_ ((Blk.new w 36 #[.slice al m.L.length alc,.slice ap m.P.length apc,.slice ar m.R.length arc,.slice af m.F.length afc]).alloc (.cells #[.int .i64 0,.slice none 0 0] 100))
 have HR:=h_ (Blk.new (w.alloc (.cells #[.slice al m.L.length alc,.slice ap m.P.length apc,.slice ar m.R.length arc,.slice af m.F.length afc] 36)) 100 #[.int .i64 0,.slice none 0 0])
 rw [World.size_alloc] at HR
 have HB:=h_ (((bR w.heap.size w).alloc (nR _) (.cells #[.slice al m.L.length alc,.slice ap m.P.length apc,.slice ar m.R.length arc,.slice af m.F.length afc] 36)).alloc (by simp) (.cells #[.int .i64 0,.slice none 0 0] 100))
 obtain ⟨W0,hW0⟩:∃ W0,(w.alloc (.cells #[.slice al m.L.length alc,.slice ap m.P.length apc,.slice ar m.R.length arc,.slice af m.F.length afc] 36)).alloc (.cells #[.int .i64 0,.slice none 0 0] 100)=W0:=⟨_,rfl⟩
 rw [hW0] at HK HR HB
 obtain ⟨y0,y1,y2,y3⟩:=quad (u_ HK)
 obtain ⟨⟨r0,r1⟩,⟨f0,f1⟩⟩:=two' (u_ HR)
 have HR9:=h_ (((u_ HR).set 0 (.int .i64 m.L.length)).set 1 (.slice ap m.P.length apc))
 simp only [List.set_cons_zero,List.set_cons_succ] at HR9
 have HB9:=h_ (((u_ HB).setCell (p:=⟨w.heap.size+1,0,none⟩) (by simp) (.int .i64 m.L.length)).setCell (p:=⟨w.heap.size+1,1,none⟩) (by simp) (.slice ap m.P.length apc))
 clear hf
 go_enter Tryz.func45,Tryz.ntmps45
 go_wp2_with fail
 try rw [hW0]
 obtain ⟨k0,k1⟩:=(two' (u_ HR9)).1
 exact bodyPost_ret (v:=.agg #[.int .i64 m.L.length,.slice ap m.P.length apc]) (by simp [results,Tryz.results45,go_sem, *]) rfl ⟨rfl,u_ HB9⟩
theorem q6k (m:Fm) (A:MA) (w:World) (bot top:Int) (s n bt tp:Nat) (F:Nat->Bool) (J M:Nat->Int) (hV:∀ W,MSl W m A->Calls Tryz.prog 66 #[mV m A] W fun r w'=>r=.returned (.bool (vfB m))/\Below W.heap.size W w') (hq:vfB m=true) (hv:VfA m) (hz:SpecF m.L.length m.P.length (pr1 m) (pr2 m) s F J M bot top) (hL:ValidP m.L.length s s s F J M bot top n bt tp) (hf:FitM m) (ha:MSl w m A) :
 Calls Tryz.prog 43 #[mV m A] w fun r w'=>∃ f a0 c0,r=.returned (.slice a0 m.F.length c0)/\Sol m n (fun a b=>F (a*n+b)=true) f/\Low m n (fun a b=>F (a*n+b)=true) f/\Plc w' a0 (lsL f m.F.length)/\Below w.heap.size w w':=by
 have HCo:=h_ fun W=>q5o m A W hf
 have HV:=h_ hV;have HZz:=h_ hz
 have HPm:=h_ fun W (hs:MSl W m A)=>qjs hs
 have hN:m.L.length=n:=by have:=hL.hN;omega
 have HCl:=h_ fun W (a1 a2 a3:Option Addr) (c1 c2 c3:Nat) (hs:MSl W m A) (hj:Ints W a2 s J)=>q3z m A W m.L.length bot top s n bt tp F J M a1 a2 a3 c1 c2 c3 hv hf hL hN hs hj
 obtain ⟨al,alc,ap,apc,ar,arc,af,afc,afa⟩:=A
 unfold mV at HV HCo HCl ⊢
 dsimp only at HV HCo HPm HCl ⊢
 have HK:=h_ (Blk.new w 36 #[.slice al m.L.length alc,.slice ap m.P.length apc,.slice ar m.R.length arc,.slice af m.F.length afc])
 have HB:=h_ ((bR w.heap.size w).alloc (nR _) (.cells #[.slice al m.L.length alc,.slice ap m.P.length apc,.slice ar m.R.length arc,.slice af m.F.length afc] 36))
 obtain ⟨W0,hW0⟩:∃ W0,w.alloc (.cells #[.slice al m.L.length alc,.slice ap m.P.length apc,.slice ar m.R.length arc,.slice af m.F.length afc] 36)=W0:=⟨_,rfl⟩
 rw [hW0] at HK HB
 have HS:=h_ (ha.mono (u_ HB))
 clear ha hf hV hz hL hv hN
 obtain ⟨y0,y1,y2,y3⟩:=quad (u_ HK)
 go_enter Tryz.func43,Tryz.ntmps43
 go_wp2_with fail
 try rw [hW0]
 refine (u_ HV W0 (u_ HS)).mono ?_
 rintro r W1 ⟨rfl,hb⟩
 replace HK:=mB HK hb;replace HS:=h_ ((u_ HS).mono hb);replace HB:=mT HB hb
 clear hb hW0 y0 y1 y2 y3
 obtain ⟨y0,y1,y2,y3⟩:=quad (u_ HK)
 rw [hq]
 clear hq
 go_wp2_with fail
 refine (u_ HCo W1).mono ?_
 rintro r W2 ⟨rfl,hb⟩
 replace HK:=mB HK hb;replace HS:=h_ ((u_ HS).mono hb);replace HB:=mT HB hb
 have HC2:=h_ (u_ HZz W2 ap apc (u_ HPm W2 (u_ HS)))
 clear hb y0 y1 y2 y3
 go_wp2_with fail
 refine (u_ HC2).mono ?_
 rintro r W3 ⟨a1,a2,a3,c1,c2,c3,rfl,-,hj,-,hb⟩
 replace HK:=mB HK hb;replace HS:=h_ ((u_ HS).mono hb);replace HB:=mT HB hb
 have HX:=h_ (Blk.new W3 114 #[.int .i64 m.L.length,.slice a1 s c1,.slice a2 s c2,.slice a3 s c3,.int .i64 bot,.int .i64 top])
 have hba:=(bR W3.heap.size W3).alloc (nR _) (.cells #[.int .i64 m.L.length,.slice a1 s c1,.slice a2 s c2,.slice a3 s c3,.int .i64 bot,.int .i64 top] 114)
 obtain ⟨W4,hW4⟩:∃ W4,W3.alloc (.cells #[.int .i64 m.L.length,.slice a1 s c1,.slice a2 s c2,.slice a3 s c3,.int .i64 bot,.int .i64 top] 114)=W4:=⟨_,rfl⟩
 rw [hW4] at HX hba
 replace HK:=mB HK hba;replace HS:=h_ ((u_ HS).mono hba);replace HB:=mT HB hba
 have HC3:=h_ (u_ HCl W4 a1 a2 a3 c1 c2 c3 (u_ HS) (hj.mono hba))
 obtain ⟨⟨x0,x1,x2,x3,x4,x5⟩,-⟩:=six' (u_ HX)
 obtain ⟨y0,y1,y2,y3⟩:=quad (u_ HK)
 clear hb hba hj HCl HC2
 go_wp2_with fail
 try rw [hW4]
 refine (u_ HC3).mono ?_
 rintro r W5 ⟨f,a0,c0,rfl,h1,h2,h3,hb⟩
 replace HB:=mT HB hb
 have H1:=h_ h1;have H2:=h_ h2;have H3:=h_ h3
 clear hb hW4 h1 h2 h3 x0 x1 x2 x3 x4 x5 y0 y1 y2 y3
 go_wp2_with fail
 go_ret
 first | exact ⟨f,a0,c0,rfl,u_ H1,u_ H2,u_ H3,u_ HB⟩ | exact ⟨f,a0,⟨c0,rfl⟩,u_ H1,u_ H2,u_ H3,u_ HB⟩ | exact ⟨f,⟨a0,⟨c0,rfl⟩,u_ H1,u_ H2,u_ H3⟩,u_ HB⟩
abbrev latV (N:Int) (a1 a2 a3:Option Addr) (s1 c1 s2 c2 s3 c3:Nat) (bot top:Int):Value:=.agg #[.int .i64 N,.slice a1 s1 c1,.slice a2 s2 c2,.slice a3 s3 c3,.int .i64 bot,.int .i64 top]
theorem q1e (m:Fm) (A:MA) (b:Nat) (code:Int) (w:World) (hz:ImplZ m.L.length m.P.length (pr1 m) (pr2 m) code) (hf:FitM m) (ha:MSl w m A) (ht:Tab w) :
 Calls Tryz.prog 77 #[wV m A b] w fun r w'=>r=.returned (.tuple #[zeroL,.int .i64 code])/\Below w.heap.size w w':=by
 have HZ:=h_ hz
 have HPm:=h_ fun W (hs:MSl W m A)=>qjs hs
 have h1:=hf.ll
 obtain ⟨al,alc,ap,apc,ar,arc,af,afc,afa⟩:=A
 unfold wV
 dsimp only at HPm ⊢
 have HK:=h_ ((Blk.new w 112 #[.slice al m.L.length alc,.slice ap m.P.length apc,.slice ar m.R.length arc,.slice af m.F.length afc,.map (some b)]).alloc (.cells #[.int .i64 0,.slice none 0 0,.slice none 0 0,.slice none 0 0,.int .i64 0,.int .i64 0] 114))
 have HR:=h_ (Blk.new (w.alloc (.cells #[.slice al m.L.length alc,.slice ap m.P.length apc,.slice ar m.R.length arc,.slice af m.F.length afc,.map (some b)] 112)) 114 #[.int .i64 0,.slice none 0 0,.slice none 0 0,.slice none 0 0,.int .i64 0,.int .i64 0])
 rw [World.size_alloc] at HR
 have HB:=h_ (((bR w.heap.size w).alloc (nR _) (.cells #[.slice al m.L.length alc,.slice ap m.P.length apc,.slice ar m.R.length arc,.slice af m.F.length afc,.map (some b)] 112)).alloc (by simp) (.cells #[.int .i64 0,.slice none 0 0,.slice none 0 0,.slice none 0 0,.int .i64 0,.int .i64 0] 114))
 obtain ⟨W0,hW0⟩:∃ W0,(w.alloc (.cells #[.slice al m.L.length alc,.slice ap m.P.length apc,.slice ar m.R.length arc,.slice af m.F.length afc,.map (some b)] 112)).alloc (.cells #[.int .i64 0,.slice none 0 0,.slice none 0 0,.slice none 0 0,.int .i64 0,.int .i64 0] 114)=W0:=⟨_,rfl⟩
 have hs0:W0.heap.size=w.heap.size+2:=by rw [<- hW0];simp
 rw [hW0] at HK HR HB
 obtain ⟨y0,y1,y2,y3,y4⟩:=five (u_ HK)
 have HC2:=h_ (u_ HZ W0 ap apc (u_ HPm W0 (ha.mono (u_ HB))) (ht.mono (u_ HB)))
 unfold zeroL at HC2 ⊢
 clear hf hz ha ht
 go_enter Tryz.func77,Tryz.ntmps77
 go_wp2_with fail
 try rw [hW0]
 refine (u_ HC2).mono ?_
 rintro r W1 ⟨rfl,hb⟩
 rw [hs0] at hb
 replace HR:=h_ ((u_ HR).mono hb (by omega));replace HB:=h_ ((u_ HB).trans (hb.mono (by omega)))
 obtain ⟨r0,r1,r2,r3,r4,r5⟩:=(six' (u_ HR)).1
 obtain ⟨f0,f1,f2,f3,f4,f5⟩:=(six' (u_ HR)).2
 have HR9:=h_ (((((((u_ HR).set 0 (.int .i64 0)).set 1 (.slice none 0 0)).set 2 (.slice none 0 0)).set 3 (.slice none 0 0)).set 4 (.int .i64 0)).set 5 (.int .i64 0))
 simp only [List.set_cons_zero,List.set_cons_succ] at HR9
 have HB9:=h_ (((((((u_ HB).setCell (p:=⟨w.heap.size+1,0,none⟩) (by simp) (.int .i64 0)).setCell (p:=⟨w.heap.size+1,1,none⟩) (by simp) (.slice none 0 0)).setCell (p:=⟨w.heap.size+1,2,none⟩) (by simp) (.slice none 0 0)).setCell (p:=⟨w.heap.size+1,3,none⟩) (by simp) (.slice none 0 0)).setCell (p:=⟨w.heap.size+1,4,none⟩) (by simp) (.int .i64 0)).setCell (p:=⟨w.heap.size+1,5,none⟩) (by simp) (.int .i64 0))
 clear hb hW0 y0 y1 y2 y3 y4
 go_wp2_with fail
 obtain ⟨k0,k1,k2,k3,k4,k5⟩:=(six' (u_ HR9)).1
 exact bodyPost_ret (v:=.tuple #[.agg #[.int .i64 0,.slice none 0 0,.slice none 0 0,.slice none 0 0,.int .i64 0,.int .i64 0],.int .i64 code]) (by simp [results,Tryz.results77,go_sem,k0,k1,k2,k3,k4,k5]) rfl ⟨rfl,u_ HB9⟩
theorem q1d (m:Fm) (A:MA) (b s:Nat) (F:Nat->Bool) (J M:Nat->Int) (bot top:Int) (w:World) (hz:ImplF m.L.length m.P.length (pr1 m) (pr2 m) s F J M bot top) (hf:FitM m) (ha:MSl w m A) (ht:Tab w) :
 Calls Tryz.prog 77 #[wV m A b] w fun r w'=>∃ a1 a2 a3 c1 c2 c3,r=.returned (.tuple #[latV m.L.length a1 a2 a3 s c1 s c2 s c3 bot top,.int .i64 0])/\Bools w' a1 s F/\Ints w' a2 s J/\Below w.heap.size w w':=by
 have HZ:=h_ hz
 have HPm:=h_ fun W (hs:MSl W m A)=>qjs hs
 have h1:=hf.ll
 obtain ⟨al,alc,ap,apc,ar,arc,af,afc,afa⟩:=A
 unfold wV
 dsimp only at HPm ⊢
 have HK:=h_ ((Blk.new w 112 #[.slice al m.L.length alc,.slice ap m.P.length apc,.slice ar m.R.length arc,.slice af m.F.length afc,.map (some b)]).alloc (.cells #[.int .i64 0,.slice none 0 0,.slice none 0 0,.slice none 0 0,.int .i64 0,.int .i64 0] 114))
 have HR:=h_ (Blk.new (w.alloc (.cells #[.slice al m.L.length alc,.slice ap m.P.length apc,.slice ar m.R.length arc,.slice af m.F.length afc,.map (some b)] 112)) 114 #[.int .i64 0,.slice none 0 0,.slice none 0 0,.slice none 0 0,.int .i64 0,.int .i64 0])
 rw [World.size_alloc] at HR
 have HB:=h_ (((bR w.heap.size w).alloc (nR _) (.cells #[.slice al m.L.length alc,.slice ap m.P.length apc,.slice ar m.R.length arc,.slice af m.F.length afc,.map (some b)] 112)).alloc (by simp) (.cells #[.int .i64 0,.slice none 0 0,.slice none 0 0,.slice none 0 0,.int .i64 0,.int .i64 0] 114))
 obtain ⟨W0,hW0⟩:∃ W0,(w.alloc (.cells #[.slice al m.L.length alc,.slice ap m.P.length apc,.slice ar m.R.length arc,.slice af m.F.length afc,.map (some b)] 112)).alloc (.cells #[.int .i64 0,.slice none 0 0,.slice none 0 0,.slice none 0 0,.int .i64 0,.int .i64 0] 114)=W0:=⟨_,rfl⟩
 have hs0:W0.heap.size=w.heap.size+2:=by rw [<- hW0];simp
 rw [hW0] at HK HR HB
 obtain ⟨y0,y1,y2,y3,y4⟩:=five (u_ HK)
 have HC2:=h_ (u_ HZ W0 ap apc (u_ HPm W0 (ha.mono (u_ HB))) (ht.mono (u_ HB)))
 clear hf hz ha ht
 go_enter Tryz.func77,Tryz.ntmps77
 go_wp2_with fail
 try rw [hW0]
 refine (u_ HC2).mono ?_
 rintro r W1 ⟨G1,G2,G3,rfl,k1,k2,-,g1,g2,-,-,-,-,hb⟩
 rw [hs0] at hb g1 g2
 replace HR:=h_ ((u_ HR).mono hb (by omega));replace HB:=h_ ((u_ HB).trans (hb.mono (by omega)))
 obtain ⟨r0,r1,r2,r3,r4,r5⟩:=(six' (u_ HR)).1
 obtain ⟨f0,f1,f2,f3,f4,f5⟩:=(six' (u_ HR)).2
 have HR9:=h_ (((((((u_ HR).set 0 (.int .i64 m.L.length)).set 1 (.slice (some ⟨G1,0,none⟩) s s)).set 2 (.slice (some ⟨G2,0,none⟩) s s)).set 3 (.slice (some ⟨G3,0,none⟩) s s)).set 4 (.int .i64 bot)).set 5 (.int .i64 top))
 simp only [List.set_cons_zero,List.set_cons_succ] at HR9
 have HB9:=h_ (((((((u_ HB).setCell (p:=⟨w.heap.size+1,0,none⟩) (by simp) (.int .i64 m.L.length)).setCell (p:=⟨w.heap.size+1,1,none⟩) (by simp) (.slice (some ⟨G1,0,none⟩) s s)).setCell (p:=⟨w.heap.size+1,2,none⟩) (by simp) (.slice (some ⟨G2,0,none⟩) s s)).setCell (p:=⟨w.heap.size+1,3,none⟩) (by simp) (.slice (some ⟨G3,0,none⟩) s s)).setCell (p:=⟨w.heap.size+1,4,none⟩) (by simp) (.int .i64 bot)).setCell (p:=⟨w.heap.size+1,5,none⟩) (by simp) (.int .i64 top))
 have keep:∀ {g:Nat} {t:TypeId} {cs:List Value},Blk W1 g t cs->w.heap.size+2<=g->Blk ((((((W1.setCell ⟨w.heap.size+1,0,none⟩ (.int .i64 m.L.length)).setCell ⟨w.heap.size+1,1,none⟩ (.slice (some ⟨G1,0,none⟩) s s)).setCell ⟨w.heap.size+1,2,none⟩ (.slice (some ⟨G2,0,none⟩) s s)).setCell ⟨w.heap.size+1,3,none⟩ (.slice (some ⟨G3,0,none⟩) s s)).setCell ⟨w.heap.size+1,4,none⟩ (.int .i64 bot)).setCell ⟨w.heap.size+1,5,none⟩ (.int .i64 top)) g t cs:=fun {g _ _} h hg=>by
  have hne:∀ j,g ≠ (⟨w.heap.size+1,j,none⟩:Addr).block:=fun j=>by show g ≠ w.heap.size+1;omega
  exact (((((h.other _ (hne 0)).other _ (hne 1)).other _ (hne 2)).other _ (hne 3)).other _ (hne 4)).other _ (hne 5)
 have HK1:=h_ (Blk.bools (keep k1 g1));have HK2:=h_ (Blk.ints (keep k2 g2))
 clear hb hW0 y0 y1 y2 y3 y4 k1 k2 g1 g2 keep
 go_wp2_with fail
 obtain ⟨k0,k1,k2,k3,k4,k5⟩:=(six' (u_ HR9)).1
 exact bodyPost_ret (v:=.tuple #[latV m.L.length (some ⟨G1,0,none⟩) (some ⟨G2,0,none⟩) (some ⟨G3,0,none⟩) s s s s s s bot top,.int .i64 0]) (by simp [results,Tryz.results77,go_sem,k0,k1,k2,k3,k4,k5]) rfl ⟨_,_,_,_,_,_,rfl,u_ HK1,u_ HK2,u_ HB9⟩
end Go.Proofs.YtgkcaeidhkddjaaGreatDoor
