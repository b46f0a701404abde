import Derived.Test.YtgkcaeidhkddjaaGreatDoorXGA
set_option maxRecDepth 100000
set_option maxHeartbeats 20000000
namespace Go.Proofs.YtgkcaeidhkddjaaGreatDoor
open Go Go.RowKit
theorem q5d (a n:Int) (w:World) (h0:0<=a) (h1:a<n) :
 Calls Tryz.prog 169 #[.int .i64 a,.int .i64 n] w fun e w'=>e=.returned (.bool true)/\w'=w:=by
 go_enter Tryz.func169,Tryz.ntmps169
 go_wp2
 go_ret
 exact ⟨qfz (by simp <;> omega),rfl⟩
theorem q84 (a n:Int) (w:World) (h:a<0 ∨ n<=a) :
 Calls Tryz.prog 169 #[.int .i64 a,.int .i64 n] w fun e w'=>e=.returned (.bool false)/\w'=w:=by
 by_cases h0:0<=a
 . have h1:n<=a:=by omega
   clear h
   go_enter Tryz.func169,Tryz.ntmps169
   go_wp2
   go_ret
   exact ⟨qfz (by simp <;> omega),rfl⟩
 . clear h
   go_enter Tryz.func169,Tryz.ntmps169
   go_wp2
   go_ret
   exact ⟨qfz (by simp <;> omega),rfl⟩
theorem q83 (x:Int) (n:Nat) (w:World):Calls Tryz.prog 169 #[.int .i64 x,.int .i64 n] w fun e w'=>e=.returned (.bool (inR n x))/\w'=w:=by
 by_cases h:0<=x/\x<n
 . rw [show inR n x=true from decide_eq_true h]
   exact q5d x n w h.1 h.2
 . rw [show inR n x=false from decide_eq_false h]
   exact q84 x n w (by omega)
structure Counts (m:Fm):Prop where
 l:m.L.length<=32
 p:m.P.length<=256
 r:m.R.length<=64
 f:m.F.length<=200
theorem q0m (m:Fm) (A:MA) (w:World) (hf:FitM m) (hc:Counts m) (ha:MSl w m A) :
 Calls Tryz.prog 164 #[mV m A] w fun r w'=>r=.returned (.bool (namesOk m.L&&namesOk (rNames m)&&namesOk (fNames m)))/\Below w.heap.size w w':=by
 obtain ⟨al,alc,ap,apc,ar,arc,af,afc,afa⟩:=A
 unfold mV
 dsimp only
 have HK:=h_ (Blk.new w 36 #[.slice al m.L.length alc,.slice ap m.P.length apc,.slice ar m.R.length arc,.slice af m.F.length afc])
 have HB:=h_ ((bR w.heap.size w).alloc (nR _) (.cells #[.slice al m.L.length alc,.slice ap m.P.length apc,.slice ar m.R.length arc,.slice af m.F.length afc] 36))
 obtain ⟨W0,hW0⟩:∃ W0,w.alloc (.cells #[.slice al m.L.length alc,.slice ap m.P.length apc,.slice ar m.R.length arc,.slice af m.F.length afc] 36)=W0:=⟨_,rfl⟩
 rw [hW0] at HK HB
 have HS:=h_ (ha.mono (u_ HB));have HF:=h_ hf;have HC:=h_ hc
 obtain ⟨q,hq⟩:∃ q,(namesOk m.L&&namesOk (rNames m)&&namesOk (fNames m))=q:=⟨_,rfl⟩
 rw [hq]
 have HQ:=h_ hq
 clear ha hf hc hq
 obtain ⟨y0,y1,y2,y3⟩:=quad (u_ HK)
 go_enter Tryz.func164,Tryz.ntmps164
 go_wp2_with fail
 try rw [hW0]
 refine (q0k al alc m.L W0 (by have:=(u_ HC).l;omega) (u_ HF).l (u_ HS).l).mono ?_
 rintro r W2 ⟨rfl,hb1⟩
 replace HK:=mB HK hb1;replace HS:=h_ ((u_ HS).mono hb1);replace HB:=mT HB hb1
 clear hW0 y0 y1 y2 y3 hb1
 obtain ⟨y0,y1,y2,y3⟩:=quad (u_ HK)
 cases hn1:namesOk m.L
 . have HX:Hid (q=false):=h_ (by rw [<- u_ HQ,hn1];rfl)
   go_wp2_with fail
   go_ret
   exact ⟨qfz (u_ HX).symm,u_ HB⟩
 have HQ1:Hid ((namesOk (rNames m)&&namesOk (fNames m))=q):=h_ (by rw [<- u_ HQ,hn1,Bool.true_and])
 clear hn1 HQ
 go_wp2_with fail
 refine (q2t m ⟨al,alc,ap,apc,ar,arc,af,afc,afa⟩ W2 (u_ HC).r (u_ HS).r).mono ?_
 rintro r W3 ⟨an2,cn2,rfl,hnames,hb1⟩
 have HNr:=h_ hnames
 replace HK:=mB HK hb1;replace HS:=h_ ((u_ HS).mono hb1);replace HB:=mT HB hb1
 clear y0 y1 y2 y3 hb1 hnames
 obtain ⟨y0,y1,y2,y3⟩:=quad (u_ HK)
 have HE1:Hid (m.R.length=(rNames m).length):=h_ (by simp [rNames]);have HE2:Hid (m.F.length=(fNames m).length):=h_ (by simp [fNames])
 go_wp2_with fail
 have hcr:=q0k an2 cn2 (rNames m) W3 (by rw [<- u_ HE1];have:=(u_ HC).r;omega) (fun x hx=>by obtain ⟨y,hy,rfl⟩:=List.mem_map.1 hx;exact (u_ HF).r y hy) (u_ HNr)
 rw [<- u_ HE1] at hcr
 refine hcr.mono ?_
 rintro r W4 ⟨rfl,hb1⟩
 replace HK:=mB HK hb1;replace HS:=h_ ((u_ HS).mono hb1);replace HB:=mT HB hb1
 clear y0 y1 y2 y3 hb1 hcr HNr
 obtain ⟨y0,y1,y2,y3⟩:=quad (u_ HK)
 cases hn1:namesOk (rNames m)
 . have HX:Hid (q=false):=h_ (by rw [<- u_ HQ1,hn1];rfl)
   go_wp2_with fail
   go_ret
   exact ⟨qfz (u_ HX).symm,u_ HB⟩
 have HQ2:Hid (namesOk (fNames m)=q):=h_ (by rw [<- u_ HQ1,hn1,Bool.true_and])
 clear hn1 HQ1
 go_wp2_with fail
 refine (q1i m ⟨al,alc,ap,apc,ar,arc,af,afc,afa⟩ W4 (u_ HC).f (u_ HS).f).mono ?_
 rintro r W5 ⟨an,cn,rfl,hnames,hb1⟩
 have HN:=h_ hnames
 replace HB:=mT HB hb1
 clear y0 y1 y2 y3 hb1 hnames
 go_wp2_with fail
 have hcr:=q0k an cn (fNames m) W5 (by rw [<- u_ HE2];have:=(u_ HC).f;omega) (fun x hx=>by obtain ⟨y,hy,rfl⟩:=List.mem_map.1 hx;exact ((u_ HF).f y hy).nm) (u_ HN)
 rw [<- u_ HE2,u_ HQ2] at hcr
 refine hcr.mono ?_
 rintro r W6 ⟨rfl,hb1⟩
 replace HB:=mT HB hb1
 clear hb1 hcr HN
 cases q
 all_goals
  go_wp2_with fail
  go_ret
  exact ⟨rfl,u_ HB⟩
theorem q0i (m:Fm) (A:MA) (w:World) (hc:Counts m) (ha:MSl w m A) :
 Calls Tryz.prog 165 #[mV m A] w fun r w'=>r=.returned (.bool ((m.P.all fun p=>inR m.L.length p.1&&inR m.L.length p.2)&&m.R.all fun r=>inR m.L.length r.lb))/\Below w.heap.size w w':=by
 obtain ⟨al,alc,ap,apc,ar,arc,af,afc,afa⟩:=A
 unfold mV
 dsimp only
 have HK:=h_ (Blk.new w 36 #[.slice al m.L.length alc,.slice ap m.P.length apc,.slice ar m.R.length arc,.slice af m.F.length afc])
 have HB:=h_ ((bR w.heap.size w).alloc (nR _) (.cells #[.slice al m.L.length alc,.slice ap m.P.length apc,.slice ar m.R.length arc,.slice af m.F.length afc] 36))
 obtain ⟨W0,hW0⟩:∃ W0,w.alloc (.cells #[.slice al m.L.length alc,.slice ap m.P.length apc,.slice ar m.R.length arc,.slice af m.F.length afc] 36)=W0:=⟨_,rfl⟩
 rw [hW0] at HK HB
 have HS:=h_ (ha.mono (u_ HB))
 have hl:=hc.l;have hp:=hc.p;have hr:=hc.r
 obtain ⟨q,hq⟩:∃ q,((m.P.all fun p=>inR m.L.length p.1&&inR m.L.length p.2)&&m.R.all fun r=>inR m.L.length r.lb)=q:=⟨_,rfl⟩
 rw [hq]
 have HQ:=h_ hq
 clear ha hc hq
 obtain ⟨y0,y1,y2,y3⟩:=quad (u_ HK)
 go_enter Tryz.func165,Tryz.ntmps165
 go_wp2_with fail
 try rw [hW0]
 clear hW0 y0 y1 y2 y3
 go_loopw [14] (fun i wr=>∃ k:Nat,k<=m.P.length/\i=.int .i64 k/\(∀ j (h:j<m.P.length),j<k->inR m.L.length m.P[j].1=true/\inR m.L.length m.P[j].2=true)/\Below W0.heap.size W0 wr) (fun i _=>m.P.length - (intOf i).toNat)
 case atStart=>exact ⟨0,nZ _,rfl,fun j _ hj=>absurd hj (nL _),bR _ _⟩
 case round =>
  obtain ⟨k,hk,rfl,hall,hb⟩:=hrel
  have HL:=h_ hall;have HB1:=h_ hb;have HSr:=h_ ((u_ HS).mono hb)
  clear hall hb
  by_cases hlt:k<m.P.length
  . have hlt':(k:Int)<m.P.length:=by omega
    obtain ⟨pb,po,rfl,-,z0,z1⟩:=(u_ HSr).p k hlt
    have HM1:Hid (inR m.L.length m.P[k].1=false ∨ inR m.L.length m.P[k].2=false->q=false):=h_ fun h=>by
     rw [<- u_ HQ,show (m.P.all fun p=>inR m.L.length p.1&&inR m.L.length p.2)=false from List.all_eq_false.2 ⟨m.P[k],List.getElem_mem hlt,by rcases h with h | h <;> simp [h]⟩]
     rfl
    have HL2:Hid (inR m.L.length m.P[k].1=true->inR m.L.length m.P[k].2=true->∀ j (h:j<m.P.length),j<k+1->inR m.L.length m.P[j].1=true/\inR m.L.length m.P[j].2=true):=h_ fun g1 g2 j h hj=>by
     by_cases ej:j=k
     . subst ej;exact ⟨g1,g2⟩
     . exact u_ HL j h (by omega)
    have HBf:=h_ ((u_ HB1).alloc (u_ HB1).size (.cells #[.int .i64 m.P[k].1,.int .i64 m.P[k].2] 104))
    have HKf:=h_ (Blk.new wr 104 #[.int .i64 m.P[k].1,.int .i64 m.P[k].2])
    generalize m.P[k]=u at *
    obtain ⟨x1,x2⟩:=u
    dsimp only at *
    obtain ⟨Wd,hWd⟩:∃ Wd,wr.alloc (.cells #[.int .i64 x1,.int .i64 x2] 104)=Wd:=⟨_,rfl⟩
    rw [hWd] at HKf HBf
    obtain ⟨v0,v1⟩:=duo (u_ HKf)
    have HC1:=h_ (q83 x1 m.L.length Wd)
    have HC2:=h_ (q83 x2 m.L.length Wd)
    generalize inR m.L.length x1=g1 at *
    generalize inR m.L.length x2=g2 at *
    cases g1
    . have HX:=h_ (u_ HM1 (.inl rfl))
      go_wp2_with fail
      try rw [hWd]
      refine (u_ HC1).mono ?_
      rintro e w1 ⟨rfl,hw⟩
      replace hw:=hw.symm;subst hw
      clear hWd
      go_wp2_with fail
      go_ret
      exact ⟨qfz (u_ HX).symm,(u_ HB).trans ((u_ HBf).mono (u_ HB).size)⟩
    cases g2
    . have HX:=h_ (u_ HM1 (.inr rfl))
      go_wp2_with fail
      try rw [hWd]
      refine (u_ HC1).mono ?_
      rintro e w1 ⟨rfl,hw⟩
      replace hw:=hw.symm;subst hw
      clear hWd
      go_wp2_with fail
      refine (u_ HC2).mono ?_
      rintro e w1 ⟨rfl,hw⟩
      replace hw:=hw.symm;subst hw
      go_wp2_with fail
      go_ret
      exact ⟨qfz (u_ HX).symm,(u_ HB).trans ((u_ HBf).mono (u_ HB).size)⟩
    have HL3:=h_ (u_ HL2 rfl rfl)
    go_wp2_with fail
    try rw [hWd]
    refine (u_ HC1).mono ?_
    rintro e w1 ⟨rfl,hw⟩
    replace hw:=hw.symm;subst hw
    clear hWd
    go_wp2_with fail
    refine (u_ HC2).mono ?_
    rintro e w1 ⟨rfl,hw⟩
    replace hw:=hw.symm;subst hw
    go_wp2_with fail
    go_roundw
    case rel=>first | exact ⟨k+1,by omega,by go_num,u_ HL3,u_ HBf⟩ | ((repeat apply Exists.intro);exact ⟨⟨k+1,by omega,by go_num,u_ HL3,u_ HBf⟩,rfl⟩)
    case measure=>simp [intOf];omega
  obtain rfl:k=m.P.length:=by omega
  have hlt':¬ (m.P.length:Int)<(m.P.length:Int):=by omega
  have HQ2:Hid ((m.R.all fun r=>inR m.L.length r.lb)=q):=h_ (by
   rw [<- u_ HQ,show (m.P.all fun p=>inR m.L.length p.1&&inR m.L.length p.2)=true from List.all_eq_true.2 fun x hx=>by
    obtain ⟨j,hj,rfl⟩:=List.mem_iff_getElem.1 hx
    have:=u_ HL j hj hj
    rw [this.1,this.2];rfl,Bool.true_and])
  replace HK:=h_ ((u_ HK).mono (u_ HB1) (u_ HK).lt);replace HS:=HSr;replace HB:=h_ ((u_ HB).trans ((u_ HB1).mono (u_ HB).size))
  obtain ⟨y0,y1,y2,y3⟩:=quad (u_ HK)
  clear HL HB1 HQ HSr hlt
  go_wp2_with fail
  clear y0 y1 y2 y3 hlt'
  obtain ⟨W6,hW6⟩:∃ W6,wr=W6:=⟨_,rfl⟩
  rw [hW6] at HB HS HK ⊢
  clear hW6
  go_loopw [34] (fun i wr=>∃ k:Nat,k<=m.R.length/\i=.int .i64 k/\(∀ j (h:j<m.R.length),j<k->inR m.L.length m.R[j].lb=true)/\Below W6.heap.size W6 wr) (fun i _=>m.R.length - (intOf i).toNat)
  case atStart=>exact ⟨0,nZ _,rfl,fun j _ hj=>absurd hj (nL _),bR _ _⟩
  case round =>
   obtain ⟨k,hk,rfl,hall,hb⟩:=hrel
   have HL:=h_ hall;have HB1:=h_ hb;have HSr:=h_ ((u_ HS).mono hb)
   clear hall hb
   by_cases hlt:k<m.R.length
   . have hlt':(k:Int)<m.R.length:=by omega
     obtain ⟨pb,po,rfl,-,z0,z1⟩:=(u_ HSr).r k hlt
     have HM1:Hid (inR m.L.length m.R[k].lb=false->q=false):=h_ fun h=>by
      rw [<- u_ HQ2]
      exact List.all_eq_false.2 ⟨m.R[k],List.getElem_mem hlt,by simp [h]⟩
     have HL2:Hid (inR m.L.length m.R[k].lb=true->∀ j (h:j<m.R.length),j<k+1->inR m.L.length m.R[j].lb=true):=h_ fun g1 j h hj=>by
      by_cases ej:j=k
      . subst ej;exact g1
      . exact u_ HL j h (by omega)
     have HBf:=h_ ((u_ HB1).alloc (u_ HB1).size (.cells #[.string m.R[k].nm,.int .i64 m.R[k].lb] 102))
     have HKf:=h_ (Blk.new wr 102 #[.string m.R[k].nm,.int .i64 m.R[k].lb])
     generalize m.R[k]=u at *
     obtain ⟨x1,x2⟩:=u
     dsimp only at *
     obtain ⟨Wd,hWd⟩:∃ Wd,wr.alloc (.cells #[.string x1,.int .i64 x2] 102)=Wd:=⟨_,rfl⟩
     rw [hWd] at HKf HBf
     obtain ⟨v0,v1⟩:=duo (u_ HKf)
     have HC1:=h_ (q83 x2 m.L.length Wd)
     generalize inR m.L.length x2=g1 at *
     cases g1
     . have HX:=h_ (u_ HM1 rfl)
       go_wp2_with fail
       try rw [hWd]
       refine (u_ HC1).mono ?_
       rintro e w1 ⟨rfl,hw⟩
       replace hw:=hw.symm;subst hw
       clear hWd
       go_wp2_with fail
       go_ret
       exact ⟨qfz (u_ HX).symm,(u_ HB).trans ((u_ HBf).mono (u_ HB).size)⟩
     have HL3:=h_ (u_ HL2 rfl)
     go_wp2_with fail
     try rw [hWd]
     refine (u_ HC1).mono ?_
     rintro e w1 ⟨rfl,hw⟩
     replace hw:=hw.symm;subst hw
     clear hWd
     go_wp2_with fail
     go_roundw
     case rel=>first | exact ⟨k+1,by omega,by go_num,u_ HL3,u_ HBf⟩ | ((repeat apply Exists.intro);exact ⟨⟨k+1,by omega,by go_num,u_ HL3,u_ HBf⟩,rfl⟩)
     case measure=>simp [intOf];omega
   obtain rfl:k=m.R.length:=by omega
   have hlt':¬ (m.R.length:Int)<(m.R.length:Int):=by omega
   have HX:Hid (q=true):=h_ (by
    rw [<- u_ HQ2]
    exact List.all_eq_true.2 fun x hx=>by
     obtain ⟨j,hj,rfl⟩:=List.mem_iff_getElem.1 hx
     exact u_ HL j hj hj)
   go_wp2_with fail
   go_ret
   exact ⟨qfz (u_ HX).symm,(u_ HB).trans ((u_ HB1).mono (u_ HB).size)⟩
end Go.Proofs.YtgkcaeidhkddjaaGreatDoor
namespace Go.Proofs.YtgkcaeidhkddjaaGreatDoor
open Go
theorem pigeon:∀ (n:Nat) (l:List Int),l.Nodup->(∀ x,x ∈ l->0<=x/\x<n)->l.length<=n:=by
 intro n
 induction n with
 | zero =>
  intro l _ h
  cases l with
  | nil=>exact nR _
  | cons x r=>have:=h x List.mem_cons_self;omega
 | succ n ih =>
  intro l hn h
  by_cases hm:(n:Int) ∈ l
  . have h1:=ih (l.erase (n:Int)) (hn.erase _) (fun x hx=>by
     have h2:=(hn.mem_erase_iff).1 hx
     have h3:=h x h2.2
     have h4:=h2.1
     omega)
    rw [List.length_erase_of_mem hm] at h1
    omega
  . have h1:=ih l hn (fun x hx=>by
     have h3:=h x hx
     have h4:x ≠ n:=fun e=>hm (e ▸ hx)
     omega)
    omega
theorem qac {n:Nat} {l:List Int} (h:bysOk n l=true):l.length<=n:=by
 unfold bysOk at h
 rw [Bool.and_eq_true,List.all_eq_true,decide_eq_true_eq] at h
 refine pigeon n l h.2 fun x hx=>?_
 have:=h.1 x hx
 unfold inR at this
 exact of_decide_eq_true this
structure VfA (m:Fm):Prop where
 nl:m.L.length<=32
 np:m.P.length<=256
 nr:m.R.length<=64
 nf:m.F.length<=200
 l:namesOk m.L=true
 r:namesOk (rNames m)=true
 f:namesOk (fNames m)=true
 p:∀ x,x ∈ m.P->inR m.L.length x.1=true/\inR m.L.length x.2=true
 ro:∀ x,x ∈ m.R->inR m.L.length x.lb=true
 fi:∀ x,x ∈ m.F->fieldOk m.L.length m.R.length x=true
 kn:∀ x,x ∈ m.F->fieldKnows (fNames m) x=true
theorem ql1 (m:Fm):vfA m=true ↔ VfA m:=by
 unfold vfA
 simp only [Bool.and_eq_true,decide_eq_true_eq,List.all_eq_true]
 constructor
 . rintro ⟨⟨⟨⟨⟨⟨⟨h1,h2,h3,h4⟩,h5⟩,h6⟩,h7⟩,h8⟩,h9⟩,h10⟩
   exact ⟨h1,h2,h3,h4,h5,h6,h7,h8,h9,fun x hx=>(h10 x hx).1,fun x hx=>(h10 x hx).2⟩
 . rintro ⟨h1,h2,h3,h4,h5,h6,h7,h8,h9,h10,h11⟩
   exact ⟨⟨⟨⟨⟨⟨⟨h1,h2,h3,h4⟩,h5⟩,h6⟩,h7⟩,h8⟩,h9⟩,fun x hx=>⟨h10 x hx,h11 x hx⟩⟩
structure FOk (nl nr:Nat) (f:Fl):Prop where
 t1:1<=f.ty
 t2:f.ty<=3
 l1:-1<=f.lb
 l2:f.lb<nl
 b:bysOk nr f.bys=true
 ib:f.is.length=0 ∨ f.bys.length=0
 sy:okText f.sy=true
 vs:f.va.length ≠ 0 ∨ f.sy.size=0
 i:ruleOk f.is=true
 h:ruleOk f.wh=true
 v:ruleOk f.va=true
 u:ruleOk f.mu=true
theorem q53 (nl nr:Nat) (f:Fl):fieldOk nl nr f=true ↔ FOk nl nr f:=by
 unfold fieldOk
 simp only [Bool.and_eq_true,decide_eq_true_eq]
 constructor
 . rintro ⟨⟨⟨⟨⟨⟨⟨⟨⟨⟨h1,h2⟩,h3,h4⟩,h5⟩,h6⟩,h7⟩,h8⟩,h9⟩,h10⟩,h11⟩,h12⟩
   exact ⟨h1,h2,h3,h4,h5,h6,h7,h8,h9,h10,h11,h12⟩
 . rintro ⟨h1,h2,h3,h4,h5,h6,h7,h8,h9,h10,h11,h12⟩
   exact ⟨⟨⟨⟨⟨⟨⟨⟨⟨⟨h1,h2⟩,h3,h4⟩,h5⟩,h6⟩,h7⟩,h8⟩,h9⟩,h10⟩,h11⟩,h12⟩
theorem q45 {l:List ByteArray} (h:namesOk l=true) {x:ByteArray} (hx:x ∈ l):x.size<=16:=by
 simp only [namesOk,Bool.and_eq_true,List.all_eq_true] at h
 exact q7u (h.1 x hx)
theorem q96 {rs:List Rl} {i:Int} (h:namesOk (rs.map (·.nm))=true):(rolAt rs i).nm.size<=16:=by
 unfold rolAt
 rw [List.getD_eq_getElem?_getD]
 cases hh:rs[i.toNat]? with
 | none=>exact nZ _
 | some x=>exact q45 h (List.mem_map.2 ⟨x,List.mem_of_getElem? hh,rfl⟩)
theorem qgn {x:ByteArray} (h:x.size<=16):(tLab x).length<=24:=by
 unfold tLab
 simp only [List.length_append,List.length_cons,List.length_nil,sb_len]
 omega
theorem qgl {ls:List ByteArray} (h:namesOk ls=true) (p:Int × Int):(tBel ls p).length<=41:=by
 have h1:=q8h (i:=p.1) h
 have h2:=q8h (i:=p.2) h
 unfold tBel
 simp only [List.length_append,List.length_cons,List.length_nil,sb_len]
 omega
theorem qgo {ls:List ByteArray} (h:namesOk ls=true) {r:Rl} (hr:r.nm.size<=16):(tRol ls r).length<=43:=by
 have h1:=q8h (i:=r.lb) h
 unfold tRol
 simp only [List.length_append,List.length_cons,List.length_nil,sb_len]
 omega
theorem qd5 {m:Fm} (hm:VfA m) {f:Fl} (hn:f.nm.size<=16):(tFldA m f).length<=50:=by
 have h1:=q8h (i:=f.lb) hm.l
 have h2:(tyName f.ty).length<=4:=by unfold tyName;split <;> (try split) <;> simp
 have h3:(if f.lb<0 then ([97,117,116,111]:List UInt8) else sb (labAt m.L f.lb)).length<=16:=by
  split
  . simp
  . rw [sb_len];exact h1
 unfold tFldA
 simp only [List.length_append,List.length_cons,List.length_nil,sb_len]
 omega
theorem qkr {m:Fm} (hm:VfA m) (i:Int):(tBy m.R i).length<=20:=by
 have h1:=q96 (i:=i) hm.r
 unfold tBy
 simp only [List.length_append,List.length_cons,List.length_nil,sb_len]
 omega
theorem q63 {s:ByteArray} (h:okText s=true):s.size<=1000:=by
 simp only [okText,Bool.and_eq_true,decide_eq_true_eq] at h
 omega
theorem qd7 {f:Fl} (h:okText f.sy=true):(tSays f).length<=1008:=by
 have h1:=q63 h
 unfold tSays
 split
 . simp
 . simp only [List.length_append,List.length_cons,List.length_nil,sb_len]
   omega
theorem qd6 {m:Fm} (hm:VfA m) {f:Fl} (hf:FOk m.L.length m.R.length f) (j:Nat):((f.bys.take j).flatMap (tBy m.R)).length<=1280:=by
 have h1:=q56 (f.bys.take j) (tBy m.R) 20 fun x _=>qkr hm x
 have h2:=qac hf.b
 have h3:=hm.nr
 have h4:(f.bys.take j).length<=64:=by rw [List.length_take];omega
 omega
theorem qgm {m:Fm} (hm:VfA m) {f:Fl} (hn:f.nm.size<=16) (hf:FOk m.L.length m.R.length f):(tFld m f).length<=18500:=by
 have h1:=qd5 hm hn
 have h2:=qd6 hm hf f.bys.length
 rw [List.take_length] at h2
 have h3:=q6d (word:=wIs) hf.i (by decide)
 have h4:=q6d (word:=wWhen) hf.h (by decide)
 have h5:=q6d (word:=wValid) hf.v (by decide)
 have h6:=q6d (word:=wMust) hf.u (by decide)
 have h7:=qd7 hf.sy
 unfold tFld
 simp only [List.length_append,List.length_cons,List.length_nil]
 omega
def c1 (m:Fm) (k:Nat):List UInt8:=(m.L.take k).flatMap tLab
def c2 (m:Fm) (k:Nat):List UInt8:=m.L.flatMap tLab++(m.P.take k).flatMap (tBel m.L)
def c3 (m:Fm) (k:Nat):List UInt8:=m.L.flatMap tLab++m.P.flatMap (tBel m.L)++(m.R.take k).flatMap (tRol m.L)
def c4 (m:Fm) (k:Nat):List UInt8:=m.L.flatMap tLab++m.P.flatMap (tBel m.L)++m.R.flatMap (tRol m.L)++(m.F.take k).flatMap (tFld m)
theorem qhl (m:Fm):c1 m 0=[]:=by simp [c1]
theorem qhn (m:Fm):c2 m 0=c1 m m.L.length:=by simp [c1,c2]
theorem qhp (m:Fm):c3 m 0=c2 m m.P.length:=by simp [c2,c3]
theorem qhr (m:Fm):c4 m 0=c3 m m.R.length:=by simp [c3,c4]
theorem c4_all (m:Fm):c4 m m.F.length=cT m:=by simp [c4,cT]
theorem qb8 {α:Type} (l:List α) (g:α->List UInt8) (k:Nat) (h:k<l.length):(l.take (k+1)).flatMap g=(l.take k).flatMap g++g l[k]:=by
 rw [List.take_succ_eq_append_getElem h,List.flatMap_append]
 simp
theorem qhk (m:Fm) (k:Nat) (h:k<m.L.length):c1 m (k+1)=c1 m k++tLab m.L[k]:=qb8 _ _ k h
theorem qhm (m:Fm) (k:Nat) (h:k<m.P.length):c2 m (k+1)=c2 m k++tBel m.L m.P[k]:=by unfold c2;rw [qb8 _ _ k h,List.append_assoc]
theorem qho (m:Fm) (k:Nat) (h:k<m.R.length):c3 m (k+1)=c3 m k++tRol m.L m.R[k]:=by unfold c3;rw [qb8 _ _ k h];simp
theorem qhq (m:Fm) (k:Nat) (h:k<m.F.length):c4 m (k+1)=c4 m k++tFld m m.F[k]:=by unfold c4;rw [qb8 _ _ k h];simp
theorem c1_len {m:Fm} (hm:VfA m) (k:Nat):(c1 m k).length<=768:=by
 have h1:=q56 (m.L.take k) tLab 24 fun x hx=>qgn (q45 hm.l (List.mem_of_mem_take hx))
 have h2:=hm.nl
 have h3:(m.L.take k).length<=32:=by rw [List.length_take];omega
 unfold c1
 omega
theorem c2_len {m:Fm} (hm:VfA m) (k:Nat):(c2 m k).length<=11264:=by
 have h1:=q56 (m.P.take k) (tBel m.L) 41 fun x _=>qgl hm.l x
 have h2:=hm.np
 have h3:(m.P.take k).length<=256:=by rw [List.length_take];omega
 have h4:=c1_len hm m.L.length
 unfold c1 at h4
 rw [List.take_length] at h4
 unfold c2
 rw [List.length_append]
 omega
theorem c3_len {m:Fm} (hm:VfA m) (k:Nat):(c3 m k).length<=14016:=by
 have h1:=q56 (m.R.take k) (tRol m.L) 43 fun x hx=>qgo hm.l (q45 hm.r (List.mem_map.2 ⟨x,List.mem_of_mem_take hx,rfl⟩))
 have h2:=hm.nr
 have h3:(m.R.take k).length<=64:=by rw [List.length_take];omega
 have h4:=c2_len hm m.P.length
 unfold c2 at h4
 rw [List.take_length] at h4
 unfold c3
 rw [List.length_append]
 omega
theorem c4_len {m:Fm} (hm:VfA m) (k:Nat):(c4 m k).length<=3714016:=by
 have h1:=q56 (m.F.take k) (tFld m) 18500 fun x hx=>qgm hm (q45 hm.f (List.mem_map.2 ⟨x,List.mem_of_mem_take hx,rfl⟩)) ((q53 _ _ _).1 (hm.fi x (List.mem_of_mem_take hx)))
 have h2:=hm.nf
 have h3:(m.F.take k).length<=200:=by rw [List.length_take];omega
 have h4:=c3_len hm m.R.length
 unfold c3 at h4
 rw [List.take_length] at h4
 unfold c4
 rw [List.length_append]
 omega
end Go.Proofs.YtgkcaeidhkddjaaGreatDoor
