import Derived.Test.YtgkcaeidhkddjaaGreatDoorXGK
import Derived.Test.YtgkcaeidhkddjaaGreatDoorXGL4
set_option maxRecDepth 100000
set_option maxHeartbeats 20000000
namespace Go.Proofs.YtgkcaeidhkddjaaGreatDoor
open Go Go.RowKit
def DownI (m:Fm) (n:Nat) (F:Nat->Bool) (jn:Nat->Nat->Nat) (bt:Nat) (f:Nat->Nat) (k:Nat):Prop:=0<=(fAt m k).lb/\F (rdV m jn bt f k*n+f k)=false
def DownS (m:Fm) (n:Nat) (F:Nat->Bool) (f:Nat->Nat) (k:Nat):Prop:=0<=(fAt m k).lb/\∃ j,j<m.F.length/\anyR m j k=true/\F (f j*n+f k)=false
theorem qe0 {m:Fm} {n:Nat} {F:Nat->Bool} {jn:Nat->Nat->Nat} {bt:Nat} {f:Nat->Nat} (hv:VfA m) (L:LatP n (fun a b=>F (a*n+b)=true) jn bt) (hfl:∀ k,k<m.F.length->f k<n) {k:Nat} (hk:k<m.F.length):DownI m n F jn bt f k ↔ DownS m n F f k:=by
 obtain ⟨hx,hr⟩:=rdV_lt L hv hfl hk
 unfold DownI DownS
 refine ⟨fun ⟨h0,h⟩=>⟨h0,Classical.byContradiction fun hno=>?_⟩,fun ⟨h0,j,hj,ha,h⟩=>⟨h0,?_⟩⟩
 . have:F (rdV m jn bt f k*n+f k)=true:=L.fold_le _ _ _ L.bl (hfl k hk) (fun x hxm=>⟨hx x hxm,by
    obtain ⟨j,hj,rfl⟩:=List.mem_map.1 hxm
    have hjn:=rdA_lt hv hk j hj
    show F (f j*n+f k)=true
    cases e:F (f j*n+f k)
    . exact absurd ⟨j,hjn,(qjc hv hjn hk).1 hj,e⟩ hno
    . rfl⟩) (L.bot _ (hfl k hk))
   rw [h] at this;cases this
 . cases e:F (rdV m jn bt f k*n+f k)
   . rfl
   . have h1:F (f j*n+rdV m jn bt f k)=true:=(L.fold_ge _ _ L.bl hx).2 (f j) (List.mem_map.2 ⟨j,(qjc hv hj hk).2 ha,rfl⟩)
     have h2:F (f j*n+f k)=true:=L.trans _ _ _ (hfl j hj) hr (hfl k hk) h1 e
     rw [h] at h2;cases h2
theorem qae {w w':World} {p:Addr} {v:Value} (hb:Below w.heap.size w w') (h:w.cell? p=some v):w'.cell? p=some v:=(hb.cell (World.block_lt_of_cell? _ _ h)).trans h
theorem q0v (m:Fm) (A:MA) (b n bt c5 base:Nat) (f:Nat->Nat) (F:Nat->Bool) (jn:Nat->Nat->Nat) (J:Nat->Int) (a1 a2 a3 a5:Option Addr) (c1 c2 c3:Nat) (top:Int) (w:World) (hv:VfA m) (hf:FitM m) (hL:LatP n (fun a b=>F (a*n+b)=true) jn bt) (hn:n<=32) (hJ:∀ a b,a<n->b<n->J (a*n+b)=((jn a b:Nat):Int)) (hsol:Sol m n (fun a b=>F (a*n+b)=true) f) (ha:MSl w m A) (hm:PMap w b (fNames m)) (hO:Bools w a1 (n*n) F) (hI:Ints w a2 (n*n) J) (hR:w.ownsRow base 3 1 (.slice a5 m.F.length c5) m.F.length (ui (lsL f m.F.length))) :
 Calls Tryz.prog 81 #[wV m A b,.agg #[.int .i64 n,.slice a1 (n*n) c1,.slice a2 (n*n) c2,.slice a3 (n*n) c3,.int .i64 (bt:Int),.int .i64 top],.slice a5 m.F.length c5] w fun r w'=>∃ z,r=.returned (.int .i64 z)/\Fst (DownI m n F jn bt f) m.F.length z/\Below w.heap.size w w':=by
 have HSol:=h_ hsol
 have HRl:=h_ fun k hk=>(rdV_lt hL hv hsol.lt (k:=k) hk).2
 have HCr:=h_ fun (W:World) (k:Nat) (hk:k<m.F.length) (hs:MSl W m A) (hp:PMap W b (fNames m)) (hi:Ints W a2 (n*n) J) hR=>q2m m A b k n bt c5 base f _ jn J a1 a2 a3 a5 c1 c2 c3 top W hv hf hL hn hJ hsol.lt hk hs hp hi hR
 have HS:=h_ ha;have HM:=h_ hm;have HI:=h_ hI;have HO:=h_ hO;have HR:=h_ hR
 have hnf:=hv.nf
 obtain ⟨al,alc,ap,apc,ar,arc,af,afc,afa⟩:=A
 unfold wV at HCr ⊢
 dsimp only at HCr ⊢
 clear ha hm hI hv hf hL hJ hO hR hsol
 have HK:=h_ ((Blk.new w 112 #[.slice al m.L.length alc,.slice ap m.P.length apc,.slice ar m.R.length arc,.slice af m.F.length afc,.map (some b)]).alloc (.cells #[.int .i64 n,.slice a1 (n*n) c1,.slice a2 (n*n) c2,.slice a3 (n*n) c3,.int .i64 (bt:Int),.int .i64 top] 114))
 have HQ:=h_ (Blk.new (w.alloc (.cells #[.slice al m.L.length alc,.slice ap m.P.length apc,.slice ar m.R.length arc,.slice af m.F.length afc,.map (some b)] 112)) 114 #[.int .i64 n,.slice a1 (n*n) c1,.slice a2 (n*n) c2,.slice a3 (n*n) c3,.int .i64 (bt:Int),.int .i64 top])
 rw [World.size_alloc] at HQ
 have HB:=h_ (((bR w.heap.size w).alloc (nR _) (.cells #[.slice al m.L.length alc,.slice ap m.P.length apc,.slice ar m.R.length arc,.slice af m.F.length afc,.map (some b)] 112)).alloc (by simp) (.cells #[.int .i64 n,.slice a1 (n*n) c1,.slice a2 (n*n) c2,.slice a3 (n*n) c3,.int .i64 (bt:Int),.int .i64 top] 114))
 obtain ⟨W0,hW0⟩:∃ W0,(w.alloc (.cells #[.slice al m.L.length alc,.slice ap m.P.length apc,.slice ar m.R.length arc,.slice af m.F.length afc,.map (some b)] 112)).alloc (.cells #[.int .i64 n,.slice a1 (n*n) c1,.slice a2 (n*n) c2,.slice a3 (n*n) c3,.int .i64 (bt:Int),.int .i64 top] 114)=W0:=⟨_,rfl⟩
 have hs0:W0.heap.size=w.heap.size+2:=by rw [<- hW0];simp
 rw [hW0] at HK HQ HB
 obtain ⟨y0,y1,y2,y3,y4⟩:=five (u_ HK)
 go_enter Tryz.func81,Tryz.ntmps81
 go_wp2_with fail
 try rw [hW0]
 clear y0 y1 y2 y3 y4 hW0
 go_loopw [13] (fun iv w3=>∃ k:Nat,k<=m.F.length/\iv=.int .i64 k/\(∀ j,j<k->¬ DownI m n F jn bt f j)/\Below W0.heap.size W0 w3) (fun iv _=>m.F.length - (intOf iv).toNat)
 case atStart=>exact ⟨0,nZ _,rfl,(fun j h=>absurd h (nL _)),bR _ _⟩
 case round =>
  obtain ⟨k,hk,rfl,hno,hb⟩:=hrel
  have HN:=h_ hno;have HBz:=h_ hb
  have HBw:=mT HB hb
  have hzr:W0.heap.size<=wr.heap.size:=hb.size
  have HKr:=h_ ((u_ HK).mono hb (by omega));have HQr:=h_ ((u_ HQ).mono hb (by omega))
  clear hno hb
  by_cases hlt:k<m.F.length
  . have hlt':(k:Int)<m.F.length:=by omega
    have HSr:=h_ ((u_ HS).mono (u_ HBw));have HMr:=h_ ((u_ HM).mono (u_ HBw));have HIr:=h_ ((u_ HI).mono (u_ HBw));have HOr:=h_ ((u_ HO).mono (u_ HBw));have HRr:=h_ (qcd (u_ HR) (u_ HBw))
    obtain ⟨pb,po,e1,⟨-,z0,z1,z2,z3,z4,z5,z6,z7,z8⟩,-⟩:=(u_ HSr).f k hlt
    dsimp only at e1 z3 z4 z5 z6 z8
    subst e1
    have HFk:Hid (fAt m k=m.F[k]):=h_ (qi1 hlt)
    generalize m.F[k]=u at *
    generalize afa k=fa at *
    obtain ⟨ub,ubc,ui',uic,uh,uhc,uv,uvc,uu,uuc⟩:=fa
    dsimp only at z3 z4 z5 z6 z8
    have HKf:=h_ (Blk.new wr 94 #[.string u.nm,.int .i64 u.ty,.int .i64 u.lb,.slice ub u.bys.length ubc,.slice ui' u.is.length uic,.slice uh u.wh.length uhc,.slice uv u.va.length uvc,.string u.sy,.slice uu u.mu.length uuc])
    have hba:=(bR wr.heap.size wr).alloc (nR _) (.cells #[.string u.nm,.int .i64 u.ty,.int .i64 u.lb,.slice ub u.bys.length ubc,.slice ui' u.is.length uic,.slice uh u.wh.length uhc,.slice uv u.va.length uvc,.string u.sy,.slice uu u.mu.length uuc] 94)
    obtain ⟨Wd,hWd⟩:∃ Wd,wr.alloc (.cells #[.string u.nm,.int .i64 u.ty,.int .i64 u.lb,.slice ub u.bys.length ubc,.slice ui' u.is.length uic,.slice uh u.wh.length uhc,.slice uv u.va.length uvc,.string u.sy,.slice uu u.mu.length uuc] 94)=Wd:=⟨_,rfl⟩
    rw [hWd] at HKf hba
    have HBd:=h_ ((u_ HBz).trans (hba.mono (by omega)));have HBwd:=mT HBw hba
    have HKd:=mB HKr hba;have HQd:=mB HQr hba;have HSd:=h_ ((u_ HSr).mono hba);have HMd:=h_ ((u_ HMr).mono hba);have HId:=h_ ((u_ HIr).mono hba);have HOd:=h_ ((u_ HOr).mono hba);have HRd:=h_ (qcd (u_ HRr) hba)
    have hzd:wr.heap.size<=Wd.heap.size:=hba.size
    clear hba
    obtain ⟨y0,y1,y2,y3,y4⟩:=five (u_ HKr)
    go_wp2_with fail
    try rw [hWd]
    obtain ⟨X,hX⟩:∃ X,wr.heap.size=X:=⟨_,rfl⟩
    rw [hX] at HKf
    try rw [hX]
    clear hWd y0 y1 y2 y3 y4 z0 z1 z2 z3 z4 z5 z6 z7 z8
    have x2:=(u_ HKf).cell 2
    simp only [List.getElem?_cons_zero,List.getElem?_cons_succ] at x2
    by_cases hneg:u.lb<0
    . have HN2:Hid (∀ j,j<k+1->¬ DownI m n F jn bt f j):=h_ fun j hj=>by
       by_cases e:j=k
       . subst e;rintro ⟨h,-⟩;rw [u_ HFk] at h;omega
       . exact u_ HN j (by omega)
      have hge:decide ((0:Int)<=u.lb)=false:=decide_eq_false (by omega)
      refine wp_region_held_drew (S:=fun w'=>w'.cell? ⟨X,2,none⟩=some (.int .i64 u.lb)) (by kernel_rfl) x2 (fun zz=>?_)
      refine tk 0 18 (.pointer (some ⟨X,2,none⟩)) zz ?_
      refine tk 1 19 (.int .i64 u.lb) zz ?_
      refine tk 2 20 (.bool false) zz ?_
      refine tk 3 21 (.bool false) zz ?_
      simp only [sX,sY,sZ]
      refine tn 4 22 zz ?_
      refine tn 5 23 zz ?_
      refine tn 6 24 zz ?_
      refine tn 7 25 zz ?_
      simp only [sX,sY,sZ]
      refine tn 8 26 zz ?_
      refine tn 9 27 zz ?_
      refine tn 10 28 zz ?_
      refine tn 11 29 zz ?_
      simp only [sX,sY,sZ]
      refine tn 12 30 zz ?_
      refine tn 13 31 zz ?_
      refine tn 14 32 zz ?_
      refine tn 15 33 zz ?_
      simp only [sX,sY,sZ]
      refine tn 16 34 zz ?_
      refine tn 17 35 zz ?_
      refine tn 18 36 zz ?_
      refine tn 19 37 zz ?_
      simp only [sX,sY,sZ]
      refine tk 20 38 (.bool false) zz ?_
      simp only [sX,sY,sZ]
      refine wpAnyH_done (by kernel_rfl) ?_ _
      have HBe:=h_ ((u_ HBd).drew)
      clear zz x2 hge hneg
      go_wp2_with fail
      go_roundw
      case rel=>first | exact ⟨k+1,by omega,by go_num,u_ HN2,u_ HBe⟩ | ((repeat apply Exists.intro);exact ⟨⟨k+1,by omega,by go_num,u_ HN2,u_ HBe⟩,rfl⟩)
      case measure=>simp [intOf];omega
    . have hlb:u.lb=((f k:Nat):Int):=by have:=(u_ HSol).decl k hlt (by rw [u_ HFk];omega);rw [u_ HFk] at this;exact this.symm
      have hfk:=(u_ HSol).lt k hlt
      have hvl:=u_ HRl k hlt
      have HDn:Hid (DownI m n F jn bt f k ↔ F (rdV m jn bt f k*n+f k)=false):=h_ ⟨fun h=>h.2,fun h=>⟨by rw [u_ HFk];omega,h⟩⟩
      have HC2:=h_ (u_ HCr Wd.drew k hlt ((u_ HSd).mono ((bR _ _).drew)) ((u_ HMd).mono ((bR _ _).drew)) ((u_ HId).mono ((bR _ _).drew)) (qcd (u_ HRd) ((bR _ _).drew)))
      generalize rdV m jn bt f k=v at *
      obtain ⟨hidx,hw1,hw2,hidx',hidx2⟩:=qbe hvl hfk hn
      obtain ⟨b2,o2,e3,-,zj⟩:=u_ HOd _ hidx
      rw [hlb] at x2
      clear hneg hlb
      subst e3
      generalize hfk0:f k=fk at *
      clear hfk0
      generalize F (v*n+fk)=vb at *
      generalize v*n+fk=q1 at *
      generalize v*n=q2 at *
      have x3:=x2
      refine wp_region_held_drew (S:=fun w'=>Blk w' w.heap.size 112 [.slice al m.L.length alc,.slice ap m.P.length apc,.slice ar m.R.length arc,.slice (some ⟨pb,po,none⟩) m.F.length afc,.map (some b)]/\Blk w' (w.heap.size+1) 114 [.int .i64 n,.slice (some ⟨b2,o2,none⟩) (n*n) c1,.slice a2 (n*n) c2,.slice a3 (n*n) c3,.int .i64 (bt:Int),.int .i64 top]/\w'.cell? ⟨X,2,none⟩=some (.int .i64 (fk:Nat))/\w'.cell? ⟨b2,o2+q1,none⟩=some (.bool vb)) (by kernel_rfl) ⟨u_ HKd,u_ HQd,x2,zj⟩ (fun zz=>?_)
      clear x2
      refine tk 0 18 (.pointer (some ⟨X,2,none⟩)) zz ?_
      refine tk 1 19 (.int .i64 fk) zz ?_ (hy:=fun w hS=>by have q0:=hS.2.2.1;simp [execOp,go_sem,q0])
      refine tk 2 20 (.bool true) zz ?_ (hy:=fun w hS=>by simp [execOp,go_sem])
      refine tk 3 21 (.bool true) zz ?_
      simp only [sX,sY,sZ]
      refine tk 4 22 (.pointer (some ⟨w.heap.size+1,1,none⟩)) zz ?_
      refine tk 5 23 (.slice (some ⟨b2,o2,none⟩) (n*n) c1) zz ?_ (hy:=fun w hS=>by have q1:=hS.2.1.cell 1;simp only [List.getElem?_cons_zero,List.getElem?_cons_succ] at q1;simp [execOp,go_sem,q1])
      refine tk 6 24 (.agg #[.slice al m.L.length alc,.slice ap m.P.length apc,.slice ar m.R.length arc,.slice (some ⟨pb,po,none⟩) m.F.length afc,.map (some b)]) zz ?_ (hy:=fun w hS=>by obtain ⟨q0,q1,q2,q3,q4⟩:=five hS.1;simp [execOp,go_sem,q0,q1,q2,q3,q4])
      refine tk 7 25 (.int .i64 k) zz ?_
      simp only [sX,sY,sZ]
      refine tk 8 26 (.agg #[.int .i64 n,.slice (some ⟨b2,o2,none⟩) (n*n) c1,.slice a2 (n*n) c2,.slice a3 (n*n) c3,.int .i64 (bt:Int),.int .i64 top]) zz ?_ (hy:=fun w hS=>by obtain ⟨q0,q1,q2,q3,q4,q5⟩:=(six' hS.2.1).1;simp [execOp,go_sem,q0,q1,q2,q3,q4,q5])
      refine tk 9 27 (.slice a5 m.F.length c5) zz ?_
      refine tk 11 29 (.pointer (some ⟨w.heap.size+1,0,none⟩)) zz ?_
      refine tk 12 30 (.int .i64 n) zz ?_ (hy:=fun w hS=>by have q1:=hS.2.1.cell 0;simp only [List.getElem?_cons_zero] at q1;simp [execOp,go_sem,q1])
      simp only [sX,sY,sZ]
      refine tk 14 32 (.pointer (some ⟨X,2,none⟩)) zz ?_
      refine tk 15 33 (.int .i64 fk) zz ?_ (hy:=fun w hS=>by have q0:=hS.2.2.1;simp [execOp,go_sem,q0])
      simp only [sX,sY,sZ]
      refine callY (i:=10) (f:=119) (args:=#[.agg #[.slice al m.L.length alc,.slice ap m.P.length apc,.slice ar m.R.length arc,.slice (some ⟨pb,po,none⟩) m.F.length afc,.map (some b)],.int .i64 k,.agg #[.int .i64 n,.slice (some ⟨b2,o2,none⟩) (n*n) c1,.slice a2 (n*n) c2,.slice a3 (n*n) c3,.int .i64 (bt:Int),.int .i64 top],.slice a5 m.F.length c5]) (R:=fun v' wz=>v'=.int .i64 (v:Nat)/\Below Wd.heap.size Wd wz) 28 rfl rfl (by rfl) (by kernel_rfl) ?hrun10 ((u_ HC2).mono fun e w6 ⟨he,hb⟩=>⟨_,he,rfl,q26 hb⟩) ?_
      case hrun10=>simp [execOp,go_sem]
      rintro v' W3 ⟨rfl,hb⟩
      replace zz:Blk W3 w.heap.size 112 [.slice al m.L.length alc,.slice ap m.P.length apc,.slice ar m.R.length arc,.slice (some ⟨pb,po,none⟩) m.F.length afc,.map (some b)]/\Blk W3 (w.heap.size+1) 114 [.int .i64 n,.slice (some ⟨b2,o2,none⟩) (n*n) c1,.slice a2 (n*n) c2,.slice a3 (n*n) c3,.int .i64 (bt:Int),.int .i64 top]/\W3.cell? ⟨X,2,none⟩=some (.int .i64 (fk:Nat))/\W3.cell? ⟨b2,o2+q1,none⟩=some (.bool vb):=⟨(u_ HKd).mono hb (u_ HKd).lt,(u_ HQd).mono hb (u_ HQd).lt,qae hb x3,qae hb zj⟩
      have HB3:=h_ ((u_ HBd).trans (hb.mono (by omega)));have HBw3:=mT HBwd hb
      clear hb HC2 x3 zj
      refine ⟨zz,?_⟩
      simp only [sX,sY,sZ]
      refine tk 13 31 (.int .i64 q2) zz ?_ (hy:=fun w hS=>by simp [execOp,go_sem];exact (IntWalk.i64_left _).trans hw1)
      refine tk 16 34 (.int .i64 q1) zz ?_ (hy:=fun w hS=>by simp [execOp,go_sem];exact (IntWalk.i64_left _).trans hw2)
      refine tk 17 35 (.pointer (some ⟨b2,o2+q1,none⟩)) zz ?_
      refine tk 18 36 (.bool vb) zz ?_ (hy:=fun w hS=>by have q0:=hS.2.2.2;simp [execOp,go_sem,q0])
      simp only [sX,sY,sZ]
      refine tk 19 37 (.bool (!vb)) zz ?_
      refine tk 20 38 (.bool (!vb)) zz ?_
      simp only [sX,sY,sZ]
      refine wpAnyH_done (by kernel_rfl) ?_ _
      clear zz
      cases vb
      . have HF:Hid (Fst (DownI m n F jn bt f) m.F.length (k:Int)):=h_ (.inr ⟨k,hlt,rfl,(u_ HDn).2 rfl,u_ HN⟩)
        go_wp2_with fail
        go_ret
        first | exact ⟨_,rfl,u_ HF,u_ HBw3⟩ | exact ⟨u_ HF,u_ HBw3⟩
      . have HN2:Hid (∀ j,j<k+1->¬ DownI m n F jn bt f j):=h_ fun j hj=>by
         by_cases e:j=k
         . subst e;intro h;have:=(u_ HDn).1 h;cases this
         . exact u_ HN j (by omega)
        go_wp2_with fail
        go_roundw
        case rel=>first | exact ⟨k+1,by omega,by go_num,u_ HN2,u_ HB3⟩ | ((repeat apply Exists.intro);exact ⟨⟨k+1,by omega,by go_num,u_ HN2,u_ HB3⟩,rfl⟩)
        case measure=>simp [intOf];omega
  . obtain rfl:k=m.F.length:=by omega
    have hlt':¬ (m.F.length:Int)<(m.F.length:Int):=by omega
    have HF:Hid (Fst (DownI m n F jn bt f) m.F.length (-1)):=h_ (.inl ⟨rfl,u_ HN⟩)
    go_wp2_with fail
    go_ret
    first | exact ⟨_,rfl,u_ HF,u_ HBw⟩ | exact ⟨u_ HF,u_ HBw⟩
def NoDown (m:Fm) (n:Nat) (F:Nat->Bool) (f:Nat->Nat) (k j:Nat):Prop:=∀ i,i<j->anyR m i k=true->F (f i*n+f k)=true
theorem q62 {m:Fm} {n:Nat} {F:Nat->Bool} {f:Nat->Nat} {k:Nat} (h:NoDown m n F f k m.F.length):¬ DownS m n F f k:=by
 rintro ⟨-,j,hj,ha,hF⟩
 have:=h j hj ha
 rw [hF] at this
 cases this
theorem q2j (m:Fm) (A:MA) (w:World) (bot top:Int) (s n bt tp:Nat) (F:Nat->Bool) (J M:Nat->Int) (hv:VfA m) (hz:SpecF m.L.length m.P.length (pr1 m) (pr2 m) s F J M bot top) (hL:ValidP m.L.length s s s F J M bot top n bt tp) (hf:FitM m) (ha:MSl w m A) :
 Calls Tryz.prog 69 #[mV m A] w fun r w'=>∃ z f,r=.returned (.int .i64 z)/\Sol m n (fun a b=>F (a*n+b)=true) f/\Low m n (fun a b=>F (a*n+b)=true) f/\Fst (DownS m n F f) m.F.length z/\Below w.heap.size w w':=by
 have HCo:=h_ fun W=>q5o m A W hf
 have HZz:=h_ hz
 have HPm:=h_ fun W (hs:MSl W m A)=>qjs hs
 have hN:m.L.length=n:=by have:=hL.hN;omega
 have HCl:=h_ fun W (a1 a2 a3:Option Addr) (c1 c2 c3:Nat) (hs:MSl W m A) (hj:Ints W a2 s J)=>q3z m A W m.L.length bot top s n bt tp F J M a1 a2 a3 c1 c2 c3 hv hf hL hN hs hj
 have HCa:=h_ fun W j k (hj:j<m.F.length) (hk:k<m.F.length) (hs:MSl W m A)=>qbq m A j k W hj hk hf hs
 have hn:=hL.h32
 have e1:=hL.l1
 have e2:=hL.hb
 subst e1
 subst e2
 have hnf:=hv.nf
 obtain ⟨al,alc,ap,apc,ar,arc,af,afc,afa⟩:=A
 unfold mV at HCo HCl HCa ⊢
 dsimp only at HCo HPm HCl HCa ⊢
 rw [hN] at HCo HCl HCa HZz
 try rw [hN]
 have HK:=h_ (Blk.new w 36 #[.slice al n alc,.slice ap m.P.length apc,.slice ar m.R.length arc,.slice af m.F.length afc])
 have HB:=h_ ((bR w.heap.size w).alloc (nR _) (.cells #[.slice al n alc,.slice ap m.P.length apc,.slice ar m.R.length arc,.slice af m.F.length afc] 36))
 obtain ⟨W0,hW0⟩:∃ W0,w.alloc (.cells #[.slice al n alc,.slice ap m.P.length apc,.slice ar m.R.length arc,.slice af m.F.length afc] 36)=W0:=⟨_,rfl⟩
 rw [hW0] at HK HB
 have HS:=h_ (ha.mono (u_ HB))
 clear ha hf hz hL hv hN
 obtain ⟨y0,y1,y2,y3⟩:=quad (u_ HK)
 go_enter Tryz.func69,Tryz.ntmps69
 go_wp2_with fail
 try rw [hW0]
 refine (u_ HCo W0).mono ?_
 rintro r W2 ⟨rfl,hb⟩
 replace HK:=mB HK hb;replace HS:=h_ ((u_ HS).mono hb);replace HB:=mT HB hb
 have HC2:=h_ (u_ HZz W2 ap apc (u_ HPm W2 (u_ HS)))
 clear hb hW0 y0 y1 y2 y3
 go_wp2_with fail
 refine (u_ HC2).mono ?_
 rintro r W3 ⟨a1,a2,a3,c1,c2,c3,rfl,ho,hj,-,hb⟩
 replace HK:=mB HK hb;replace HS:=h_ ((u_ HS).mono hb);replace HB:=mT HB hb
 have HX:=h_ (Blk.new W3 114 #[.int .i64 n,.slice a1 (n*n) c1,.slice a2 (n*n) c2,.slice a3 (n*n) c3,.int .i64 (bt:Int),.int .i64 top])
 have hba:=(bR W3.heap.size W3).alloc (nR _) (.cells #[.int .i64 n,.slice a1 (n*n) c1,.slice a2 (n*n) c2,.slice a3 (n*n) c3,.int .i64 (bt:Int),.int .i64 top] 114)
 obtain ⟨W4,hW4⟩:∃ W4,W3.alloc (.cells #[.int .i64 n,.slice a1 (n*n) c1,.slice a2 (n*n) c2,.slice a3 (n*n) c3,.int .i64 (bt:Int),.int .i64 top] 114)=W4:=⟨_,rfl⟩
 rw [hW4] at HX hba
 replace HK:=mB HK hba;replace HS:=h_ ((u_ HS).mono hba);replace HB:=mT HB hba
 have HO:=h_ (ho.mono hba)
 have HC3:=h_ (u_ HCl W4 a1 a2 a3 c1 c2 c3 (u_ HS) (hj.mono hba))
 obtain ⟨X,hX⟩:∃ X,W3.heap.size=X:=⟨_,rfl⟩
 rw [hX] at HX
 obtain ⟨⟨x0,x1,x2,x3,x4,x5⟩,-⟩:=six' (u_ HX)
 obtain ⟨y0,y1,y2,y3⟩:=quad (u_ HK)
 clear hb hba hj ho HCl HC2
 go_wp2_with fail
 try rw [hX]
 try rw [hW4]
 refine (u_ HC3).mono ?_
 rintro r W5 ⟨f,a0,c0,rfl,h1,h2,h3,hb⟩
 replace HB:=mT HB hb;replace HK:=mB HK hb;replace HX:=mB HX hb;replace HS:=h_ ((u_ HS).mono hb);replace HO:=h_ ((u_ HO).mono hb)
 have H1:=h_ h1;have H2:=h_ h2;have H3:=h_ h3
 clear hb hW4 h1 h2 h3 x0 x1 x2 x3 x4 x5 y0 y1 y2 y3 HC3 hX
 go_wp2_with fail
 go_loopw [6] (fun kv wr=>∃ k:Nat,k<=m.F.length/\kv=.int .i64 k/\(∀ j,j<k->¬ DownS m n F f j)/\Below W5.heap.size W5 wr) (fun kv _=>m.F.length - (intOf kv).toNat)
 case atStart=>exact ⟨0,nZ _,rfl,(fun j h=>absurd h (nL _)),bR _ _⟩
 case round =>
  obtain ⟨k,hk,rfl,hno,hb⟩:=hrel
  have HN:=h_ hno;have HBz:=h_ hb
  have HBw:=mT HB hb
  have HKr:=mB HK hb;have HSr:=h_ ((u_ HS).mono hb)
  have hzr:W5.heap.size<=wr.heap.size:=hb.size
  clear hno hb
  by_cases hlt:k<m.F.length
  . have hlt':(k:Int)<m.F.length:=by omega
    obtain ⟨pb,po,e1,⟨hpb,-,-,z2,-⟩,-⟩:=(u_ HSr).f k hlt
    dsimp only at e1
    subst e1
    obtain ⟨y0,y1,y2,y3⟩:=quad (u_ HKr)
    have HFk:Hid ((fAt m k).lb=m.F[k].lb):=h_ (by rw [qi1 hlt])
    generalize m.F[k].lb=lb at *
    by_cases hneg:lb<0
    . have hge:¬ (0:Int)<=lb:=by omega
      have HN2:Hid (∀ j,j<k+1->¬ DownS m n F f j):=h_ fun j hj=>by
       by_cases e:j=k
       . subst e;rintro ⟨h,-⟩;rw [u_ HFk] at h;omega
       . exact u_ HN j (by omega)
      go_wp2_with fail
      go_roundw
      case rel=>first | exact ⟨k+1,by omega,by go_num,u_ HN2,u_ HBz⟩ | ((repeat apply Exists.intro);exact ⟨⟨k+1,by omega,by go_num,u_ HN2,u_ HBz⟩,rfl⟩)
      case measure=>simp [intOf];omega
    . have hge:(0:Int)<=lb:=by omega
      have hlb:lb=((f k:Nat):Int):=by have:=(u_ H1).decl k hlt (by rw [u_ HFk];omega);rw [u_ HFk] at this;exact this.symm
      have HGe:Hid (0<=(fAt m k).lb):=h_ (by rw [u_ HFk];exact hge)
      have hfk:=(u_ H1).lt k hlt
      go_wp2_with fail
      rw [hlb] at z2
      obtain ⟨wx,hwx⟩:∃ wx,wr=wx:=⟨_,rfl⟩
      rw [hwx] at z2 HBz HBw HKr HSr hzr hpb
      clear y0 y1 y2 y3 hlb hge hneg HFk
      go_loopw [7] (fun jv w4=>∃ j:Nat,j<=m.F.length/\jv=.int .i64 j/\NoDown m n F f k j/\Below wx.heap.size wx w4) (fun jv _=>m.F.length - (intOf jv).toNat)
      case atStart=>exact ⟨0,nZ _,rfl,(fun j h=>absurd h (nL _)),by rw [hwx];exact bR _ _⟩
      case round =>
       clear hwx
       obtain ⟨j,hj,rfl,hnd,hb⟩:=hrel
       have HND:=h_ hnd;have HBj:=h_ hb
       have HB5:=h_ ((u_ HBz).trans (hb.mono hzr));have HB6:=mT HBw hb
       have HK6:=mB HKr hb;have HS6:=h_ ((u_ HSr).mono hb)
       have HX6:=h_ ((u_ HX).mono (u_ HB5) (u_ HX).lt);have HO6:=h_ ((u_ HO).mono (u_ HB5));have H36:=h_ ((u_ H3).mono (u_ HB5))
       have zl:=qae hb z2
       clear hnd hb
       by_cases hjl:j<m.F.length
       . have hjl':(j:Int)<m.F.length:=by omega
         obtain ⟨y0,y1,y2,y3⟩:=quad (u_ HK6)
         have hfj:=(u_ H1).lt j hjl
         have HC4:=h_ (u_ HCa wr.drew j k hjl hlt ((u_ HS6).mono (bR _ _).drew))
         obtain ⟨g0,o0,e0,-,zk⟩:=(u_ H36).at j (by rw [qj7];exact hjl)
         rw [qj6] at zk
         obtain ⟨hidx,hw1,hw2,hidx',hidx2⟩:=qbe hfj hfk hn
         obtain ⟨b2,o2,e3,-,zj⟩:=u_ HO6 _ hidx
         go_wp2_with fail
         clear y0 y1 y2 y3
         subst e0
         subst e3
         have HFb:Hid (∀ v,F (f j*n+f k)=v->v=false->anyR m j k=true->Fst (DownS m n F f) m.F.length (k:Int)):=h_ fun v e1 e2 e3=>.inr ⟨k,hlt,rfl,⟨u_ HGe,j,hjl,e3,e1.trans e2⟩,u_ HN⟩
         have HFt:Hid (∀ v,F (f j*n+f k)=v->(anyR m j k=true->v=true)->NoDown m n F f k (j+1)):=h_ fun v e1 e2 i hi ha=>by
          by_cases e:i=j
          . subst e;exact e1.trans (e2 ha)
          . exact u_ HND i (by omega) ha
         obtain ⟨vb,hvb⟩:∃ vb,F (f j*n+f k)=vb:=⟨_,rfl⟩
         replace HFb:=h_ (u_ HFb vb hvb);replace HFt:=h_ (u_ HFt vb hvb)
         rw [hvb] at zj
         clear hvb
         generalize hfk0:f k=fk at *
         generalize hfj0:f j=fj at *
         have HFK:=h_ hfk0
         clear hfk0 hfj0
         generalize fj*n+fk=q1 at *
         generalize fj*n=q2 at *
         obtain ⟨ar2,har⟩:∃ ar2,anyR m j k=ar2:=⟨_,rfl⟩
         rw [har] at HC4 HFb HFt
         clear har
         refine wp_region_held_drew (S:=fun w'=>Blk w' w.heap.size 36 [.slice al n alc,.slice ap m.P.length apc,.slice ar m.R.length arc,.slice (some ⟨pb,po,none⟩) m.F.length afc]/\Blk w' X 114 [.int .i64 n,.slice (some ⟨b2,o2,none⟩) (n*n) c1,.slice a2 (n*n) c2,.slice a3 (n*n) c3,.int .i64 (bt:Int),.int .i64 top]/\w'.cell? ⟨g0,o0+j,none⟩=some (.int .i64 (fj:Nat))/\w'.cell? ⟨pb,po+k*9+2,none⟩=some (.int .i64 (fk:Nat))/\w'.cell? ⟨b2,o2+q1,none⟩=some (.bool vb)) (by kernel_rfl) ⟨u_ HK6,u_ HX6,zk,zl,zj⟩ (fun zz=>?_)
         refine tk 0 40 (.agg #[.slice al n alc,.slice ap m.P.length apc,.slice ar m.R.length arc,.slice (some ⟨pb,po,none⟩) m.F.length afc]) zz ?_ (hy:=fun w hS=>by obtain ⟨q0,q1,q2,q3⟩:=quad hS.1;simp [execOp,go_sem,q0,q1,q2,q3])
         refine tk 1 41 (.int .i64 j) zz ?_
         refine tk 2 42 (.int .i64 k) zz ?_
         simp only [sX,sY,sZ]
         refine callY (i:=3) (f:=107) (args:=#[.agg #[.slice al n alc,.slice ap m.P.length apc,.slice ar m.R.length arc,.slice (some ⟨pb,po,none⟩) m.F.length afc],.int .i64 j,.int .i64 k]) (R:=fun v' wz=>v'=.bool ar2/\Below wr.heap.size wr wz) 43 rfl rfl (by rfl) (by kernel_rfl) ?hrun3 ((u_ HC4).mono fun e w6 ⟨he,hb⟩=>⟨_,he,rfl,q26 hb⟩) ?_
         case hrun3=>simp [execOp,go_sem]
         rintro v' W7 ⟨rfl,hb⟩
         replace zz:Blk W7 w.heap.size 36 [.slice al n alc,.slice ap m.P.length apc,.slice ar m.R.length arc,.slice (some ⟨pb,po,none⟩) m.F.length afc]/\Blk W7 X 114 [.int .i64 n,.slice (some ⟨b2,o2,none⟩) (n*n) c1,.slice a2 (n*n) c2,.slice a3 (n*n) c3,.int .i64 (bt:Int),.int .i64 top]/\W7.cell? ⟨g0,o0+j,none⟩=some (.int .i64 (fj:Nat))/\W7.cell? ⟨pb,po+k*9+2,none⟩=some (.int .i64 (fk:Nat))/\W7.cell? ⟨b2,o2+q1,none⟩=some (.bool vb):=⟨(u_ HK6).mono hb (u_ HK6).lt,(u_ HX6).mono hb (u_ HX6).lt,qae hb zk,qae hb zl,qae hb zj⟩
         have HB7:=mT HBj hb;have HBw7:=mT HB6 hb
         clear hb HC4 zk zl zj
         refine ⟨zz,?_⟩
         simp only [sX,sY,sZ]
         cases ar2
         . skip
           refine tk 4 44 (.bool false) zz ?_
           refine tn 5 45 zz ?_
           refine tn 6 46 zz ?_
           refine tn 7 47 zz ?_
           simp only [sX,sY,sZ]
           refine tn 8 48 zz ?_
           refine tn 9 49 zz ?_
           refine tn 10 50 zz ?_
           refine tn 11 51 zz ?_
           simp only [sX,sY,sZ]
           refine tn 12 52 zz ?_
           refine tn 13 53 zz ?_
           refine tn 14 54 zz ?_
           refine tn 15 55 zz ?_
           simp only [sX,sY,sZ]
           refine tn 16 56 zz ?_
           refine tn 17 57 zz ?_
           refine tn 18 58 zz ?_
           refine tn 19 59 zz ?_
           simp only [sX,sY,sZ]
           refine tn 20 60 zz ?_
           refine tn 21 61 zz ?_
           refine tn 22 62 zz ?_
           refine tn 23 63 zz ?_
           simp only [sX,sY,sZ]
           refine tk 24 64 (.bool false) zz ?_
           simp only [sX,sY,sZ]
           refine wpAnyH_done (by kernel_rfl) ?_ _
           have HN3:=h_ (u_ HFt (fun h=>by cases h))
           clear zz
           go_wp2_with fail
           have efk:=u_ HFK
           subst efk
           go_roundw
           case rel=>first | exact ⟨j+1,by omega,by go_num,u_ HN3,u_ HB7⟩ | ((repeat apply Exists.intro);exact ⟨⟨j+1,by omega,by go_num,u_ HN3,u_ HB7⟩,rfl⟩) | ((repeat apply Exists.intro);exact ⟨⟨j+1,by omega,by go_num,u_ HN3,u_ HB7⟩,rfl,rfl,rfl⟩)
           case measure=>simp [intOf];omega
         . skip
           refine tk 4 44 (.bool true) zz ?_
           refine tk 5 45 (.pointer (some ⟨X,1,none⟩)) zz ?_
           refine tk 6 46 (.slice (some ⟨b2,o2,none⟩) (n*n) c1) zz ?_ (hy:=fun w hS=>by have q1:=hS.2.1.cell 1;simp only [List.getElem?_cons_zero,List.getElem?_cons_succ] at q1;simp [execOp,go_sem,q1])
           refine tk 7 47 (.slice (some ⟨g0,o0,none⟩) m.F.length c0) zz ?_
           simp only [sX,sY,sZ]
           refine tk 8 48 (.int .i64 j) zz ?_
           refine tk 9 49 (.pointer (some ⟨g0,o0+j,none⟩)) zz ?_
           refine tk 10 50 (.int .i64 fj) zz ?_ (hy:=fun w hS=>by have q0:=hS.2.2.1;simp [execOp,go_sem,q0])
           refine tk 11 51 (.pointer (some ⟨X,0,none⟩)) zz ?_
           simp only [sX,sY,sZ]
           refine tk 12 52 (.int .i64 n) zz ?_ (hy:=fun w hS=>by have q1:=hS.2.1.cell 0;simp only [List.getElem?_cons_zero] at q1;simp [execOp,go_sem,q1])
           refine tk 13 53 (.int .i64 q2) zz ?_ (hy:=fun w hS=>by simp [execOp,go_sem];exact (IntWalk.i64_left _).trans hw1)
           refine tk 14 54 (.pointer (some ⟨w.heap.size,3,none⟩)) zz ?_
           refine tk 15 55 (.slice (some ⟨pb,po,none⟩) m.F.length afc) zz ?_ (hy:=fun w hS=>by obtain ⟨q0,q1,q2,q3⟩:=quad hS.1;simp [execOp,go_sem,q3])
           simp only [sX,sY,sZ]
           refine tk 16 56 (.int .i64 k) zz ?_
           refine tk 17 57 (.pointer (some ⟨pb,po+k*9,none⟩)) zz ?_
           refine tk 18 58 (.pointer (some ⟨pb,po+k*9+2,none⟩)) zz ?_
           refine tk 19 59 (.int .i64 fk) zz ?_ (hy:=fun w hS=>by have q0:=hS.2.2.2.1;simp [execOp,go_sem,q0])
           simp only [sX,sY,sZ]
           refine tk 20 60 (.int .i64 q1) zz ?_ (hy:=fun w hS=>by simp [execOp,go_sem];exact (IntWalk.i64_left _).trans hw2)
           refine tk 21 61 (.pointer (some ⟨b2,o2+q1,none⟩)) zz ?_
           refine tk 22 62 (.bool vb) zz ?_ (hy:=fun w hS=>by have q0:=hS.2.2.2.2;simp [execOp,go_sem,q0])
           refine tk 23 63 (.bool (!vb)) zz ?_
           simp only [sX,sY,sZ]
           refine tk 24 64 (.bool (!vb)) zz ?_
           simp only [sX,sY,sZ]
           refine wpAnyH_done (by kernel_rfl) ?_ _
           clear zz
           cases vb
           . have HF:=h_ (u_ HFb rfl rfl)
             go_wp2_with fail
             go_ret
             first | exact ⟨_,f,rfl,u_ H1,u_ H2,u_ HF,u_ HBw7⟩ | exact ⟨_,rfl,f,u_ H1,u_ H2,u_ HF,u_ HBw7⟩ | exact ⟨f,u_ H1,u_ H2,u_ HF,u_ HBw7⟩
           . have HN3:=h_ (u_ HFt (fun _=>rfl))
             go_wp2_with fail
             have efk:=u_ HFK
             subst efk
             go_roundw
             case rel=>first | exact ⟨j+1,by omega,by go_num,u_ HN3,u_ HB7⟩ | ((repeat apply Exists.intro);exact ⟨⟨j+1,by omega,by go_num,u_ HN3,u_ HB7⟩,rfl⟩) | ((repeat apply Exists.intro);exact ⟨⟨j+1,by omega,by go_num,u_ HN3,u_ HB7⟩,rfl,rfl,rfl⟩)
             case measure=>simp [intOf];omega
       . obtain rfl:j=m.F.length:=by omega
         have hjl':¬ (m.F.length:Int)<(m.F.length:Int):=by omega
         have HN2:Hid (∀ j,j<k+1->¬ DownS m n F f j):=h_ fun j hj=>by
          by_cases e:j=k
          . subst e;exact q62 (u_ HND)
          . exact u_ HN j (by omega)
         obtain ⟨y0,y1,y2,y3⟩:=quad (u_ HK6)
         go_wp2_with fail
         go_roundw
         case rel=>first | exact ⟨k+1,by omega,by go_num,u_ HN2,u_ HB5⟩ | ((repeat apply Exists.intro);exact ⟨⟨k+1,by omega,by go_num,u_ HN2,u_ HB5⟩,rfl⟩)
         case measure=>simp [intOf];omega
  . obtain rfl:k=m.F.length:=by omega
    have hlt':¬ (m.F.length:Int)<(m.F.length:Int):=by omega
    have HF:Hid (Fst (DownS m n F f) m.F.length (-1)):=h_ (.inl ⟨rfl,u_ HN⟩)
    obtain ⟨y0,y1,y2,y3⟩:=quad (u_ HKr)
    go_wp2_with fail
    go_ret
    first | exact ⟨_,f,rfl,u_ H1,u_ H2,u_ HF,u_ HBw⟩ | exact ⟨_,rfl,f,u_ H1,u_ H2,u_ HF,u_ HBw⟩ | exact ⟨f,u_ H1,u_ H2,u_ HF,u_ HBw⟩
abbrev dgV (c a:Int):Value:=.agg #[.int .i64 c,.int .i64 a]
def frst (m:Fm):Int:=((m.L.length+m.P.length+m.R.length:Nat):Int)
def ChkF (m:Fm) (n:Nat) (F:Nat->Bool) (c a:Int):Prop :=
 (∃ z,0<=z/\Fst (fun k=>Rch m k k) m.F.length z/\c=15/\a=frst m+z) ∨
 (Fst (fun k=>Rch m k k) m.F.length (-1)/\∃ f z,Sol m n (fun a b=>F (a*n+b)=true) f/\Low m n (fun a b=>F (a*n+b)=true) f/\Fst (DownS m n F f) m.F.length z/\((0<=z/\c=16/\a=frst m+z) ∨ (z<0/\c=0/\a=0)))
theorem ChkF.one {m:Fm} {n bt:Nat} {F:Nat->Bool} {jn:Nat->Nat->Nat} (L:LatP n (fun a b=>F (a*n+b)=true) jn bt) {c a c' a':Int} (h:ChkF m n F c a) (h':ChkF m n F c' a'):c=c'/\a=a':=by
 rcases h with ⟨z,h0,h1,rfl,rfl⟩ | ⟨h1,f,z,s1,s2,s3,h2⟩ <;> rcases h' with ⟨z',h0',h1',rfl,rfl⟩ | ⟨h1',f',z',sX,sY,sZ,h2'⟩
 . rw [h1.one h1'];exact ⟨rfl,rfl⟩
 . have:=h1.one h1';omega
 . have:=h1.one h1';omega
 . have hff:=qbt L s1 sX s2 sY
   have hD:∀ k,k<m.F.length->(DownS m n F f k ↔ DownS m n F f' k):=fun k hk=>by
    unfold DownS
    refine ⟨fun ⟨x,j,hj,y,e⟩=>⟨x,j,hj,y,?_⟩,fun ⟨x,j,hj,y,e⟩=>⟨x,j,hj,y,?_⟩⟩
    . rw [<- hff j hj,<- hff k hk];exact e
    . rw [hff j hj,hff k hk];exact e
   have hz:z=z':=(s3.iff hD).one sZ
   subst hz
   rcases h2 with ⟨x,rfl,rfl⟩ | ⟨x,rfl,rfl⟩ <;> rcases h2' with ⟨x',rfl,rfl⟩ | ⟨x',rfl,rfl⟩
   . exact ⟨rfl,rfl⟩
   . omega
   . omega
   . exact ⟨rfl,rfl⟩
theorem q05 (m:Fm) (A:MA) (z:Int) (w:World) (hv:VfA m) (hz:0<=z) (hz2:z<m.F.length) :
 Calls Tryz.prog 79 #[mV m A,.int .i64 z] w fun r w'=>r=.returned (.int .i64 (frst m+z))/\Below w.heap.size w w':=by
 obtain ⟨al,alc,ap,apc,ar,arc,af,afc,afa⟩:=A
 unfold mV
 dsimp only
 have h1:=hv.nl;have h2:=hv.np;have h3:=hv.nr;have h4:=hv.nf
 clear hv
 have HE:Hid ((m.L.length:Int)+m.P.length+m.R.length+z=frst m+z):=h_ (by unfold frst;omega)
 have HK:=h_ (Blk.new w 36 #[.slice al m.L.length alc,.slice ap m.P.length apc,.slice ar m.R.length arc,.slice af m.F.length afc])
 have HB:=h_ ((bR w.heap.size w).alloc (nR _) (.cells #[.slice al m.L.length alc,.slice ap m.P.length apc,.slice ar m.R.length arc,.slice af m.F.length afc] 36))
 obtain ⟨W0,hW0⟩:∃ W0,w.alloc (.cells #[.slice al m.L.length alc,.slice ap m.P.length apc,.slice ar m.R.length arc,.slice af m.F.length afc] 36)=W0:=⟨_,rfl⟩
 rw [hW0] at HK HB
 obtain ⟨y0,y1,y2,y3⟩:=quad (u_ HK)
 go_enter Tryz.func79,Tryz.ntmps79
 go_wp2_with fail
 try rw [hW0]
 go_ret
 rw [u_ HE]
 exact ⟨rfl,u_ HB⟩
theorem q6i (m:Fm) (A:MA) (w:World) (hV:∀ W,MSl W m A->Calls Tryz.prog 66 #[mV m A] W fun r w'=>r=.returned (.bool (vfB m))/\Below W.heap.size W w') (hq:vfB m=false) (ha:MSl w m A) :
 Calls Tryz.prog 40 #[mV m A] w fun r w'=>r=.returned (dgV 20 0)/\Below w.heap.size w w':=by
 have HV:=h_ hV
 obtain ⟨al,alc,ap,apc,ar,arc,af,afc,afa⟩:=A
 unfold mV at HV ⊢
 dsimp only at HV ⊢
 have HK:=h_ ((Blk.new w 36 #[.slice al m.L.length alc,.slice ap m.P.length apc,.slice ar m.R.length arc,.slice af m.F.length afc]).alloc (.cells #[.int .i64 0,.int .i64 0] 90))
 have HR:=h_ (Blk.new (w.alloc (.cells #[.slice al m.L.length alc,.slice ap m.P.length apc,.slice ar m.R.length arc,.slice af m.F.length afc] 36)) 90 #[.int .i64 0,.int .i64 0])
 rw [World.size_alloc] at HR
 have HB:=h_ (((bR w.heap.size w).alloc (nR _) (.cells #[.slice al m.L.length alc,.slice ap m.P.length apc,.slice ar m.R.length arc,.slice af m.F.length afc] 36)).alloc (by simp) (.cells #[.int .i64 0,.int .i64 0] 90))
 obtain ⟨W0,hW0⟩:∃ W0,(w.alloc (.cells #[.slice al m.L.length alc,.slice ap m.P.length apc,.slice ar m.R.length arc,.slice af m.F.length afc] 36)).alloc (.cells #[.int .i64 0,.int .i64 0] 90)=W0:=⟨_,rfl⟩
 have hs0:W0.heap.size=w.heap.size+2:=by rw [<- hW0];simp
 rw [hW0] at HK HR HB
 have HS:=h_ (ha.mono (u_ HB))
 clear ha hV
 obtain ⟨y0,y1,y2,y3⟩:=quad (u_ HK)
 go_enter Tryz.func40,Tryz.ntmps40
 go_wp2_with fail
 try rw [hW0]
 refine (u_ HV W0 (u_ HS)).mono ?_
 rintro r W1 ⟨rfl,hb⟩
 replace HK:=mB HK hb;replace HR:=mB HR hb;replace HS:=h_ ((u_ HS).mono hb);replace HB:=mT HB hb
 rw [hq]
 clear hb hW0 y0 y1 y2 y3 hq
 obtain ⟨⟨r0,r1⟩,⟨f0,f1⟩⟩:=two' (u_ HR)
 have HR9:=h_ (((u_ HR).set 0 (.int .i64 (20))).set 1 (.int .i64 (0)))
 simp only [List.set_cons_zero,List.set_cons_succ] at HR9
 have HB9:=h_ (((u_ HB).setCell (p:=⟨w.heap.size+1,0,none⟩) (by simp) (.int .i64 (20))).setCell (p:=⟨w.heap.size+1,1,none⟩) (by simp) (.int .i64 (0)))
 go_wp2_with fail
 obtain ⟨k0,k1⟩:=(two' (u_ HR9)).1
 exact bodyPost_ret (v:=dgV (20) (0)) (by simp [results,Tryz.results40,go_sem,k0,k1]) rfl ⟨rfl,u_ HB9⟩
theorem q6j (m:Fm) (A:MA) (w:World) (code:Int) (hV:∀ W,MSl W m A->Calls Tryz.prog 66 #[mV m A] W fun r w'=>r=.returned (.bool (vfB m))/\Below W.heap.size W w') (hq:vfB m=true) (hc:1<=code/\code<=4) (hz:SpecZ m.L.length m.P.length (pr1 m) (pr2 m) code) (hf:FitM m) (ha:MSl w m A) :
 Calls Tryz.prog 40 #[mV m A] w fun r w'=>r=.returned (dgV (10+code) 0)/\Below w.heap.size w w':=by
 have HV:=h_ hV;have HZz:=h_ hz
 have HCo:=h_ fun W=>q5o m A W hf
 have HPm:=h_ fun W (hs:MSl W m A)=>qjs hs
 obtain ⟨al,alc,ap,apc,ar,arc,af,afc,afa⟩:=A
 unfold mV at HV HCo ⊢
 dsimp only at HV HCo HPm ⊢
 have HK:=h_ ((Blk.new w 36 #[.slice al m.L.length alc,.slice ap m.P.length apc,.slice ar m.R.length arc,.slice af m.F.length afc]).alloc (.cells #[.int .i64 0,.int .i64 0] 90))
 have HR:=h_ (Blk.new (w.alloc (.cells #[.slice al m.L.length alc,.slice ap m.P.length apc,.slice ar m.R.length arc,.slice af m.F.length afc] 36)) 90 #[.int .i64 0,.int .i64 0])
 rw [World.size_alloc] at HR
 have HB:=h_ (((bR w.heap.size w).alloc (nR _) (.cells #[.slice al m.L.length alc,.slice ap m.P.length apc,.slice ar m.R.length arc,.slice af m.F.length afc] 36)).alloc (by simp) (.cells #[.int .i64 0,.int .i64 0] 90))
 obtain ⟨W0,hW0⟩:∃ W0,(w.alloc (.cells #[.slice al m.L.length alc,.slice ap m.P.length apc,.slice ar m.R.length arc,.slice af m.F.length afc] 36)).alloc (.cells #[.int .i64 0,.int .i64 0] 90)=W0:=⟨_,rfl⟩
 have hs0:W0.heap.size=w.heap.size+2:=by rw [<- hW0];simp
 rw [hW0] at HK HR HB
 have HS:=h_ (ha.mono (u_ HB))
 clear ha hV hz hf
 obtain ⟨y0,y1,y2,y3⟩:=quad (u_ HK)
 go_enter Tryz.func40,Tryz.ntmps40
 go_wp2_with fail
 try rw [hW0]
 refine (u_ HV W0 (u_ HS)).mono ?_
 rintro r W1 ⟨rfl,hb⟩
 replace HK:=mB HK hb;replace HR:=mB HR hb;replace HS:=h_ ((u_ HS).mono hb);replace HB:=mT HB hb
 rw [hq]
 clear hb hW0 y0 y1 y2 y3 hq
 obtain ⟨y0,y1,y2,y3⟩:=quad (u_ HK)
 go_wp2_with fail
 refine (u_ HCo W1).mono ?_
 rintro r W2 ⟨rfl,hb⟩
 replace HK:=mB HK hb;replace HR:=mB HR hb;replace HS:=h_ ((u_ HS).mono hb);replace HB:=mT HB hb
 have HC2:=h_ (u_ HZz W2 ap apc (u_ HPm W2 (u_ HS)))
 unfold zeroL at HC2
 clear hb y0 y1 y2 y3
 go_wp2_with fail
 refine (u_ HC2).mono ?_
 rintro r W3 ⟨rfl,hb⟩
 replace HK:=mB HK hb;replace HR:=mB HR hb;replace HS:=h_ ((u_ HS).mono hb);replace HB:=mT HB hb
 have hba:=(bR W3.heap.size W3).alloc (nR _) (.cells #[.int .i64 0,.slice none 0 0,.slice none 0 0,.slice none 0 0,.int .i64 0,.int .i64 0] 114)
 replace HR:=mB HR hba;replace HB:=mT HB hba
 obtain ⟨hc1,hc2⟩:=hc
 have hc3:(code != 0)=true:=by have:code ≠ 0:=(by omega);simpa using this
 clear hb hba
 obtain ⟨⟨r0,r1⟩,⟨f0,f1⟩⟩:=two' (u_ HR)
 have HR9:=h_ (((u_ HR).set 0 (.int .i64 (10+code))).set 1 (.int .i64 (0)))
 simp only [List.set_cons_zero,List.set_cons_succ] at HR9
 have HB9:=h_ (((u_ HB).setCell (p:=⟨w.heap.size+1,0,none⟩) (by simp) (.int .i64 (10+code))).setCell (p:=⟨w.heap.size+1,1,none⟩) (by simp) (.int .i64 (0)))
 go_wp2_with fail
 obtain ⟨k0,k1⟩:=(two' (u_ HR9)).1
 exact bodyPost_ret (v:=dgV (10+code) (0)) (by simp [results,Tryz.results40,go_sem,k0,k1]) rfl ⟨rfl,u_ HB9⟩
theorem q6h (m:Fm) (A:MA) (w:World) (bot top:Int) (s n bt tp:Nat) (F:Nat->Bool) (J M:Nat->Int) (hV:∀ W,MSl W m A->Calls Tryz.prog 66 #[mV m A] W fun r w'=>r=.returned (.bool (vfB m))/\Below W.heap.size W w') (hq:vfB m=true) (hv:VfA m) (hz:SpecF m.L.length m.P.length (pr1 m) (pr2 m) s F J M bot top) (hL:ValidP m.L.length s s s F J M bot top n bt tp) (hf:FitM m) (ha:MSl w m A) :
 Calls Tryz.prog 40 #[mV m A] w fun r w'=>∃ c a,r=.returned (dgV c a)/\ChkF m n F c a/\Below w.heap.size w w':=by
 have HV:=h_ hV;have HZz:=h_ hz
 have HCo:=h_ fun W=>q5o m A W hf
 have HPm:=h_ fun W (hs:MSl W m A)=>qjs hs
 have HCy:=h_ fun W (hs:MSl W m A)=>q2k m A W hv.nf hf hs
 have HCd:=h_ fun W (hs:MSl W m A)=>q2j m A W bot top s n bt tp F J M hv hz hL hf hs
 have g1:=hv.nl;have g2:=hv.np;have g3:=hv.nr;have g4:=hv.nf
 obtain ⟨al,alc,ap,apc,ar,arc,af,afc,afa⟩:=A
 unfold mV at HV HCo HCy HCd ⊢
 dsimp only at HV HCo HPm HCy HCd ⊢
 have HK:=h_ ((Blk.new w 36 #[.slice al m.L.length alc,.slice ap m.P.length apc,.slice ar m.R.length arc,.slice af m.F.length afc]).alloc (.cells #[.int .i64 0,.int .i64 0] 90))
 have HR:=h_ (Blk.new (w.alloc (.cells #[.slice al m.L.length alc,.slice ap m.P.length apc,.slice ar m.R.length arc,.slice af m.F.length afc] 36)) 90 #[.int .i64 0,.int .i64 0])
 rw [World.size_alloc] at HR
 have HB:=h_ (((bR w.heap.size w).alloc (nR _) (.cells #[.slice al m.L.length alc,.slice ap m.P.length apc,.slice ar m.R.length arc,.slice af m.F.length afc] 36)).alloc (by simp) (.cells #[.int .i64 0,.int .i64 0] 90))
 obtain ⟨W0,hW0⟩:∃ W0,(w.alloc (.cells #[.slice al m.L.length alc,.slice ap m.P.length apc,.slice ar m.R.length arc,.slice af m.F.length afc] 36)).alloc (.cells #[.int .i64 0,.int .i64 0] 90)=W0:=⟨_,rfl⟩
 have hs0:W0.heap.size=w.heap.size+2:=by rw [<- hW0];simp
 rw [hW0] at HK HR HB
 have HS:=h_ (ha.mono (u_ HB))
 clear ha hV hz hf hL hv
 obtain ⟨y0,y1,y2,y3⟩:=quad (u_ HK)
 go_enter Tryz.func40,Tryz.ntmps40
 go_wp2_with fail
 try rw [hW0]
 refine (u_ HV W0 (u_ HS)).mono ?_
 rintro r W1 ⟨rfl,hb⟩
 replace HK:=mB HK hb;replace HR:=mB HR hb;replace HS:=h_ ((u_ HS).mono hb);replace HB:=mT HB hb
 rw [hq]
 clear hb hW0 y0 y1 y2 y3 hq
 obtain ⟨y0,y1,y2,y3⟩:=quad (u_ HK)
 go_wp2_with fail
 refine (u_ HCo W1).mono ?_
 rintro r W2 ⟨rfl,hb⟩
 replace HK:=mB HK hb;replace HR:=mB HR hb;replace HS:=h_ ((u_ HS).mono hb);replace HB:=mT HB hb
 have HC2:=h_ (u_ HZz W2 ap apc (u_ HPm W2 (u_ HS)))
 clear hb y0 y1 y2 y3
 go_wp2_with fail
 refine (u_ HC2).mono ?_
 rintro r W3 ⟨a1,a2,a3,c1,c2,c3,rfl,-,-,-,hb⟩
 replace HK:=mB HK hb;replace HR:=mB HR hb;replace HS:=h_ ((u_ HS).mono hb);replace HB:=mT HB hb
 replace hb:=(bR W3.heap.size W3).alloc (nR _) (.cells #[.int .i64 m.L.length,.slice a1 s c1,.slice a2 s c2,.slice a3 s c3,.int .i64 bot,.int .i64 top] 114)
 replace HK:=mB HK hb;replace HR:=mB HR hb;replace HS:=h_ ((u_ HS).mono hb);replace HB:=mT HB hb
 obtain ⟨W4,hW4⟩:∃ W4,W3.alloc (.cells #[.int .i64 m.L.length,.slice a1 s c1,.slice a2 s c2,.slice a3 s c3,.int .i64 bot,.int .i64 top] 114)=W4:=⟨_,rfl⟩
 rw [hW4] at HR HB HK HS
 have HC3:=h_ (u_ HCy W4 (u_ HS))
 obtain ⟨y0,y1,y2,y3⟩:=quad (u_ HK)
 clear hb HC2
 go_wp2_with fail
 try rw [hW4]
 refine (u_ HC3).mono ?_
 rintro r W5 ⟨z,rfl,hz1,hb⟩
 have HZ1:=h_ hz1
 obtain ⟨hzl,hzu⟩:=hz1.bounds
 replace HK:=mB HK hb;replace HR:=mB HR hb;replace HS:=h_ ((u_ HS).mono hb);replace HB:=mT HB hb
 clear hb hW4 y0 y1 y2 y3 hz1 HC3
 have HE:Hid (∀ z,(m.L.length:Int)+m.P.length+m.R.length+z=frst m+z):=h_ (fun z=>by unfold frst;omega)
 by_cases hz0:0<=z
 . have HF:Hid (ChkF m n F 15 ((m.L.length:Int)+m.P.length+m.R.length+z)):=h_ (by rw [u_ HE];exact .inl ⟨z,hz0,u_ HZ1,rfl,rfl⟩)
   obtain ⟨⟨r0,r1⟩,⟨f0,f1⟩⟩:=two' (u_ HR)
   have HR9:=h_ (((u_ HR).set 0 (.int .i64 (15))).set 1 (.int .i64 ((m.L.length:Int)+m.P.length+m.R.length+z)))
   simp only [List.set_cons_zero,List.set_cons_succ] at HR9
   have HB9:=h_ (((u_ HB).setCell (p:=⟨w.heap.size+1,0,none⟩) (by simp) (.int .i64 (15))).setCell (p:=⟨w.heap.size+1,1,none⟩) (by simp) (.int .i64 ((m.L.length:Int)+m.P.length+m.R.length+z)))
   go_wp2_with fail
   obtain ⟨k0,k1⟩:=(two' (u_ HR9)).1
   exact bodyPost_ret (v:=dgV (15) ((m.L.length:Int)+m.P.length+m.R.length+z)) (by simp [results,Tryz.results40,go_sem,k0,k1]) rfl ⟨_,_,rfl,u_ HF,u_ HB9⟩
 . have HZ2:Hid (Fst (fun k=>Rch m k k) m.F.length (-1)):=h_ (by rw [<- show z = -1 by omega];exact u_ HZ1)
   have HC4:=h_ (u_ HCd W5 (u_ HS))
   obtain ⟨y0,y1,y2,y3⟩:=quad (u_ HK)
   go_wp2_with fail
   refine (u_ HC4).mono ?_
   rintro r W6 ⟨z2,f,rfl,s1,s2,s3,hb⟩
   have S1:=h_ s1;have S2:=h_ s2;have S3:=h_ s3
   obtain ⟨hyl,hyu⟩:=s3.bounds
   replace HK:=mB HK hb;replace HR:=mB HR hb;replace HS:=h_ ((u_ HS).mono hb);replace HB:=mT HB hb
   clear hb y0 y1 y2 y3 s1 s2 s3 HC4
   by_cases hz3:0<=z2
   . have HF:Hid (ChkF m n F 16 ((m.L.length:Int)+m.P.length+m.R.length+z2)):=h_ (by rw [u_ HE];exact .inr ⟨u_ HZ2,f,z2,u_ S1,u_ S2,u_ S3,.inl ⟨hz3,rfl,rfl⟩⟩)
     obtain ⟨⟨r0,r1⟩,⟨f0,f1⟩⟩:=two' (u_ HR)
     have HR9:=h_ (((u_ HR).set 0 (.int .i64 (16))).set 1 (.int .i64 ((m.L.length:Int)+m.P.length+m.R.length+z2)))
     simp only [List.set_cons_zero,List.set_cons_succ] at HR9
     have HB9:=h_ (((u_ HB).setCell (p:=⟨w.heap.size+1,0,none⟩) (by simp) (.int .i64 (16))).setCell (p:=⟨w.heap.size+1,1,none⟩) (by simp) (.int .i64 ((m.L.length:Int)+m.P.length+m.R.length+z2)))
     go_wp2_with fail
     obtain ⟨k0,k1⟩:=(two' (u_ HR9)).1
     exact bodyPost_ret (v:=dgV (16) ((m.L.length:Int)+m.P.length+m.R.length+z2)) (by simp [results,Tryz.results40,go_sem,k0,k1]) rfl ⟨_,_,rfl,u_ HF,u_ HB9⟩
   . have HF:Hid (ChkF m n F 0 0):=h_ (.inr ⟨u_ HZ2,f,z2,u_ S1,u_ S2,u_ S3,.inr ⟨by omega,rfl,rfl⟩⟩)
     obtain ⟨⟨r0,r1⟩,⟨f0,f1⟩⟩:=two' (u_ HR)
     have HR9:=h_ (((u_ HR).set 0 (.int .i64 (0))).set 1 (.int .i64 (0)))
     simp only [List.set_cons_zero,List.set_cons_succ] at HR9
     have HB9:=h_ (((u_ HB).setCell (p:=⟨w.heap.size+1,0,none⟩) (by simp) (.int .i64 (0))).setCell (p:=⟨w.heap.size+1,1,none⟩) (by simp) (.int .i64 (0)))
     go_wp2_with fail
     obtain ⟨k0,k1⟩:=(two' (u_ HR9)).1
     exact bodyPost_ret (v:=dgV (0) (0)) (by simp [results,Tryz.results40,go_sem,k0,k1]) rfl ⟨_,_,rfl,u_ HF,u_ HB9⟩
end Go.Proofs.YtgkcaeidhkddjaaGreatDoor
