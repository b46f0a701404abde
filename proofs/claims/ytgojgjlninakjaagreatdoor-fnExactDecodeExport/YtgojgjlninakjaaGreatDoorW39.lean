import Derived.Test.YtgojgjlninakjaaGreatDoorW38
set_option maxRecDepth 100000
set_option maxHeartbeats 64000000
namespace Go.Proofs.YtgojgjlninakjaaGreatDoor
open Go Go.RowKit
def NoDown (m:Fm)(n:Nat)(F:Nat->Bool)(f:Nat->Nat)(k j:Nat):Prop:=∀i,i<j->anyR m i k=true->F (f i*n+f k)=true
theorem q6y {m:Fm}{n:Nat}{F:Nat->Bool}{f:Nat->Nat}{k:Nat}(h:NoDown m n F f k m.F.length):¬ DownS m n F f k:=by
 rintro⟨-,j,hj,ha,hF⟩
 have:=h j hj ha
 rw[hF]at this
 cases this
theorem q2o (m:Fm)(A:MA)(w:World)(bot top:Int)(s n bt tp:Nat)(F:Nat->Bool)(J M:Nat->Int)(hv:VfA m)(hz:SpecF m.L.length m.P.length (pr1 m) (pr2 m) s F J M bot top)(hL:ValidP m.L.length s s s F J M bot top n bt tp)(hf:FitM m)(ha:MSl w m A) :
 Calls Tryz.prog 67 #[mV m A] w fun r w'=>∃z f,r=.returned (J6 z)/\Sol m n (fun a b=>F (a*n+b)=true) f/\Low m n (fun a b=>F (a*n+b)=true) f/\Fst (DownS m n F f) m.F.length z/\Below w.heap.size w w':=by
 have HCo:=h_ fun W=>q6g m A W hf
 have HZz:=h_ hz
 have HPm:=h_ fun W (hs:MSl W m A)=>qmz hs
 have hN:m.L.length=n:=by have:=hL.hN;omega
 have HCl:=h_ fun W (a1 a2 a3:Option Addr) (c1 c2 c3:Nat) (hs:MSl W m A) (hj:Ints W a2 s J)=>q49 m A W m.L.length bot top s n bt tp F J M a1 a2 a3 c1 c2 c3 hv hf hL hN hs hj
 have HCa:=h_ fun W j k (hj:j<m.F.length) (hk:k<m.F.length) (hs:MSl W m A)=>qd8 m A j k W hj hk hf hs
 have hn:=hL.h32
 have e1:=hL.l1
 have e2:=hL.hb
 subst e1
 subst e2
 have hnf:=hv.nf
 obtain⟨al,alc,ap,apc,ar,arc,af,afc,afa⟩:=A
 unfold mV at HCo HCl HCa⊢
 dsimp only at HCo HPm HCl HCa⊢
 rw[hN]at HCo HCl HCa HZz
 try rw[hN]
 have HK:=h_ (Blk.new w 36 (Jv al n alc ap m apc ar arc af afc))
 have HB:=h_ ((bR w.heap.size w).alloc (nR _) (.cells (Jv al n alc ap m apc ar arc af afc) 36))
 obtain⟨W0,hW0⟩:=Nq (w.alloc (.cells (Jv al n alc ap m apc ar arc af afc) 36))
 rw[hW0]at HK HB
 have HS:=h_ (ha.mono HB.u)
 clear ha hf hz hL hv hN
 obtain⟨y0,y1,y2,y3⟩:=quad HK.u
 go_enter Tryz.func67,Tryz.ntmps67
 go_wp2_with fail
 try rw[hW0]
 refine(HCo.u W0).mono ?_
 rintro r W2 ⟨rfl,hb⟩
 replace HK:=mB HK hb;replace HS:=h_ (HS.u.mono hb);replace HB:=mT HB hb
 have HC2:=h_ (HZz.u W2 ap apc (HPm.u W2 HS.u))
 clear hb hW0 y0 y1 y2 y3
 go_wp2_with fail
 refine HC2.u.mono ?_
 rintro r W3 ⟨a1,a2,a3,c1,c2,c3,rfl,ho,hj,-,hb⟩
 replace HK:=mB HK hb;replace HS:=h_ (HS.u.mono hb);replace HB:=mT HB hb
 have HX:=h_ (Blk.new W3 105 (Ji n a1 (n*n) c1 a2 c2 a3 c3 (bt:Int) top))
 have hba:=(bR W3.heap.size W3).alloc (nR _) (.cells (Ji n a1 (n*n) c1 a2 c2 a3 c3 (bt:Int) top) 105)
 obtain⟨W4,hW4⟩:=Nq (W3.alloc (.cells (Ji n a1 (n*n) c1 a2 c2 a3 c3 (bt:Int) top) 105))
 rw[hW4]at HX hba
 replace HK:=mB HK hba;replace HS:=h_ (HS.u.mono hba);replace HB:=mT HB hba
 have HO:=h_ (ho.mono hba)
 have HC3:=h_ (HCl.u W4 a1 a2 a3 c1 c2 c3 HS.u (hj.mono hba))
 obtain⟨X,hX⟩:=Nq W3.heap.size
 rw[hX]at HX
 obtain⟨⟨x0,x1,x2,x3,x4,x5⟩,-⟩:=six' HX.u
 obtain⟨y0,y1,y2,y3⟩:=quad HK.u
 clear hb hba hj ho HCl HC2
 go_wp2_with fail
 try rw[hX]
 try rw[hW4]
 refine HC3.u.mono ?_
 rintro r W5 ⟨f,a0,c0,rfl,h1,h2,h3,hb⟩
 replace HB:=mT HB hb;replace HK:=mB HK hb;replace HX:=mB HX hb;replace HS:=h_ (HS.u.mono hb);replace HO:=h_ (HO.u.mono hb)
 have H1:=h_ h1;have H2:=h_ h2;have H3:=h_ h3
 clear hb hW4 h1 h2 h3 x0 x1 x2 x3 x4 x5 y0 y1 y2 y3 HC3 hX
 go_wp2_with fail
 go_loopw [6] (fun kv wr=>∃k:Nat,k<=m.F.length/\kv=J6 k/\(∀j,j<k->¬ DownS m n F f j)/\Below W5.heap.size W5 wr) (fun kv _=>m.F.length - (intOf kv).toNat)
 case atStart=>exact⟨0,nZ _,rfl,(fun j h=>absurd h (nL _)),bR _ _⟩
 case round =>
  obtain⟨k,hk,rfl,hno,hb⟩:=hrel;have HN:=h_ hno;have HBz:=h_ hb;have HBw:=mT HB hb;have HKr:=mB HK hb;have HSr:=h_ (HS.u.mono hb);have hzr:W5.heap.size<=wr.heap.size:=hb.size;clear hno hb;by_cases hlt:k<m.F.length
  . have hlt':(k:Int)<m.F.length:=by omega
    obtain⟨pb,po,e1,⟨hpb,-,-,z2,-⟩,-⟩:=HSr.u.f k hlt;dsimp only at e1;subst e1;obtain⟨y0,y1,y2,y3⟩:=quad HKr.u;have HFk:Hi ((fAt m k).lb=m.F[k].lb):=h_ (by rw[qku hlt]);generalize m.F[k].lb=lb at *;by_cases hneg:lb<0
    . have hge:¬ (0:Int)<=lb:=by omega
      have HN2:Hi (∀j,j<k+1->¬ DownS m n F f j):=h_ fun j hj=>by
       by_cases e:j=k
       . subst e;rintro⟨h,-⟩;rw[HFk.u]at h;omega
       . exact HN.u j (by omega)
      go_wp2_with fail;go_roundw
      case rel=>first | exact⟨k+1,by omega,by go_num,HN2.u,HBz.u⟩ | ((repeat apply Exists.intro);exact⟨⟨k+1,by omega,by go_num,HN2.u,HBz.u⟩,rfl⟩)
      case measure=>simp[intOf];omega
    . have hge:(0:Int)<=lb:=by omega
      have hlb:lb=((f k:Nat):Int):=(by have:=H1.u.decl k hlt (by rw[HFk.u];omega);rw[HFk.u]at this;exact this.symm);have HGe:Hi (0<=(fAt m k).lb):=h_ (by rw[HFk.u];exact hge);have hfk:=H1.u.lt k hlt;go_wp2_with fail;rw[hlb]at z2;obtain⟨wx,hwx⟩:=Nq wr;rw[hwx]at z2 HBz HBw HKr HSr hzr hpb;clear y0 y1 y2 y3 hlb hge hneg HFk;go_loopw [7] (fun jv w4=>∃j:Nat,j<=m.F.length/\jv=J6 j/\NoDown m n F f k j/\Below wx.heap.size wx w4) (fun jv _=>m.F.length - (intOf jv).toNat)
      case atStart=>exact⟨0,nZ _,rfl,(fun j h=>absurd h (nL _)),by rw[hwx];exact bR _ _⟩
      case round =>
       clear hwx;obtain⟨j,hj,rfl,hnd,hb⟩:=hrel;have HND:=h_ hnd;have HBj:=h_ hb;have HB5:=h_ (HBz.u.trans (hb.mono hzr));have HB6:=mT HBw hb;have HK6:=mB HKr hb;have HS6:=h_ (HSr.u.mono hb);have HX6:=h_ (HX.u.mono HB5.u HX.u.lt);have HO6:=h_ (HO.u.mono HB5.u);have H36:=h_ (H3.u.mono HB5.u);have zl:=qbn hb z2;clear hnd hb;by_cases hjl:j<m.F.length
       . have hjl':(j:Int)<m.F.length:=by omega
         obtain⟨y0,y1,y2,y3⟩:=quad HK6.u;have hfj:=H1.u.lt j hjl;have HC4:=h_ (HCa.u wr.drew j k hjl hlt (HS6.u.mono (bR _ _).drew));obtain⟨g0,o0,e0,-,zk⟩:=H36.u.at j (by rw[qm7];exact hjl);rw[qm6]at zk;obtain⟨hidx,hw1,hw2,hidx',hidx2⟩:=qcu hfj hfk hn;obtain⟨b2,o2,e3,-,zj⟩:=HO6.u _ hidx;go_wp2_with fail;clear y0 y1 y2 y3;subst e0;subst e3;have HFb:Hi (∀v,F (f j*n+f k)=v->v=false->anyR m j k=true->Fst (DownS m n F f) m.F.length (k:Int)):=h_ fun v e1 e2 e3=>.inr ⟨k,hlt,rfl,⟨HGe.u,j,hjl,e3,e1.trans e2⟩,HN.u⟩;have HFt:Hi (∀v,F (f j*n+f k)=v->(anyR m j k=true->v=true)->NoDown m n F f k (j+1)):=h_ fun v e1 e2 i hi ha=>by
          by_cases e:i=j
          . subst e;exact e1.trans (e2 ha)
          . exact HND.u i (by omega) ha
         obtain⟨vb,hvb⟩:=Nq (F (f j*n+f k));replace HFb:=h_ (HFb.u vb hvb);replace HFt:=h_ (HFt.u vb hvb);rw[hvb]at zj;clear hvb;generalize hfk0:f k=fk at *;generalize hfj0:f j=fj at *;have HFK:=h_ hfk0;clear hfk0 hfj0;generalize fj*n+fk=q1 at *;generalize fj*n=q2 at *;obtain⟨ar2,har⟩:=Nq (anyR m j k);rw[har]at HC4 HFb HFt;clear har;refine wp_region_held_drew (S:=fun w'=>Blk w' w.heap.size 36 [.slice al n alc,.slice ap m.P.length apc,.slice ar m.R.length arc,.slice (some ⟨pb,po,none⟩) m.F.length afc]/\Blk w' X 105 [J6 n,.slice (some ⟨b2,o2,none⟩) (n*n) c1,.slice a2 (n*n) c2,.slice a3 (n*n) c3,J6 (bt:Int),J6 top]/\w'.cell? ⟨g0,o0+j,none⟩=some (J6 (fj:Nat))/\w'.cell? ⟨pb,po+k*9+2,none⟩=some (J6 (fk:Nat))/\w'.cell? ⟨b2,o2+q1,none⟩=some (.bool vb)) (by kernel_rfl) ⟨HK6.u,HX6.u,zk,zl,zj⟩ (fun zz=>?_);refine tj 0 40 (.agg (Jv al n alc ap m apc ar arc (some ⟨pb,po,none⟩) afc)) zz ?_ (hy:=fun w hS=>by obtain⟨q0,q1,q2,q3⟩:=quad hS.1;simp[execOp,go_sem,q0,q1,q2,q3]);refine tj 1 41 (J6 j) zz ?_;refine tj 2 42 (J6 k) zz ?_;simp only[sX,sY,sZ];refine callY (i:=3) (f:=108) (args:=#[.agg (Jv al n alc ap m apc ar arc (some ⟨pb,po,none⟩) afc),J6 j,J6 k]) (R:=fun v' wz=>v'=.bool ar2/\Below wr.heap.size wr wz) 43 rfl rfl (by rfl) (by kernel_rfl) ?hrun3 (HC4.u.mono fun e w6 ⟨he,hb⟩=>⟨_,he,rfl,q29 hb⟩) ?_
         case hrun3=>simp[execOp,go_sem]
         rintro v' W7 ⟨rfl,hb⟩;replace zz:Blk W7 w.heap.size 36 [.slice al n alc,.slice ap m.P.length apc,.slice ar m.R.length arc,.slice (some ⟨pb,po,none⟩) m.F.length afc]/\Blk W7 X 105 [J6 n,.slice (some ⟨b2,o2,none⟩) (n*n) c1,.slice a2 (n*n) c2,.slice a3 (n*n) c3,J6 (bt:Int),J6 top]/\W7.cell? ⟨g0,o0+j,none⟩=some (J6 (fj:Nat))/\W7.cell? ⟨pb,po+k*9+2,none⟩=some (J6 (fk:Nat))/\W7.cell? ⟨b2,o2+q1,none⟩=some (.bool vb):=⟨HK6.u.mono hb HK6.u.lt,HX6.u.mono hb HX6.u.lt,qbn hb zk,qbn hb zl,qbn hb zj⟩;have HB7:=mT HBj hb;have HBw7:=mT HB6 hb;clear hb HC4 zk zl zj;refine⟨zz,?_⟩;simp only[sX,sY,sZ];cases ar2
         . skip
           refine tj 4 44 (.bool false) zz ?_;refine tn 5 45 zz ?_;refine tn 6 46 zz ?_;refine tn 7 47 zz ?_;simp only[sX,sY,sZ];refine tn 8 48 zz ?_;refine tn 9 49 zz ?_;refine tn 10 50 zz ?_;refine tn 11 51 zz ?_;simp only[sX,sY,sZ];refine tn 12 52 zz ?_;refine tn 13 53 zz ?_;refine tn 14 54 zz ?_;refine tn 15 55 zz ?_;simp only[sX,sY,sZ];refine tn 16 56 zz ?_;refine tn 17 57 zz ?_;refine tn 18 58 zz ?_;refine tn 19 59 zz ?_;simp only[sX,sY,sZ];refine tn 20 60 zz ?_;refine tn 21 61 zz ?_;refine tn 22 62 zz ?_;refine tn 23 63 zz ?_;simp only[sX,sY,sZ];refine tj 24 64 (.bool false) zz ?_;simp only[sX,sY,sZ];refine wpAnyH_done (by kernel_rfl) ?_ _;have HN3:=h_ (HFt.u (fun h=>by cases h));clear zz;go_wp2_with fail;have efk:=HFK.u;subst efk;go_roundw
           case rel=>first | exact⟨j+1,by omega,by go_num,HN3.u,HB7.u⟩ | ((repeat apply Exists.intro);exact⟨⟨j+1,by omega,by go_num,HN3.u,HB7.u⟩,rfl⟩) | ((repeat apply Exists.intro);exact⟨⟨j+1,by omega,by go_num,HN3.u,HB7.u⟩,rfl,rfl,rfl⟩)
           case measure=>simp[intOf];omega
         . skip
           refine tj 4 44 (.bool true) zz ?_;refine tj 5 45 (J9 X 1) zz ?_;refine tj 6 46 (.slice (some ⟨b2,o2,none⟩) (n*n) c1) zz ?_ (hy:=fun w hS=>by have q1:=hS.2.1.cell 1;simp only[Yg,Y6]at q1;simp[execOp,go_sem,q1]);refine tj 7 47 (.slice (some ⟨g0,o0,none⟩) m.F.length c0) zz ?_;simp only[sX,sY,sZ];refine tj 8 48 (J6 j) zz ?_;refine tj 9 49 (J9 g0 (o0+j)) zz ?_;refine tj 10 50 (J6 fj) zz ?_ (hy:=fun w hS=>by have q0:=hS.2.2.1;simp[execOp,go_sem,q0]);refine tj 11 51 (J9 X 0) zz ?_;simp only[sX,sY,sZ];refine tj 12 52 (J6 n) zz ?_ (hy:=fun w hS=>by have q1:=hS.2.1.cell 0;simp only[Yg]at q1;simp[execOp,go_sem,q1]);refine tj 13 53 (J6 q2) zz ?_ (hy:=fun w hS=>by simp[execOp,go_sem];exact(IntWalk.i64_left _).trans hw1);refine tj 14 54 (J9 w.heap.size 3) zz ?_;refine tj 15 55 (.slice (some ⟨pb,po,none⟩) m.F.length afc) zz ?_ (hy:=fun w hS=>by obtain⟨q0,q1,q2,q3⟩:=quad hS.1;simp[execOp,go_sem,q3]);simp only[sX,sY,sZ];refine tj 16 56 (J6 k) zz ?_;refine tj 17 57 (.pointer (some ⟨pb,po+k*9,none⟩)) zz ?_;refine tj 18 58 (.pointer (some ⟨pb,po+k*9+2,none⟩)) zz ?_;refine tj 19 59 (J6 fk) zz ?_ (hy:=fun w hS=>by have q0:=hS.2.2.2.1;simp[execOp,go_sem,q0]);simp only[sX,sY,sZ];refine tj 20 60 (J6 q1) zz ?_ (hy:=fun w hS=>by simp[execOp,go_sem];exact(IntWalk.i64_left _).trans hw2);refine tj 21 61 (J9 b2 (o2+q1)) zz ?_;refine tj 22 62 (.bool vb) zz ?_ (hy:=fun w hS=>by have q0:=hS.2.2.2.2;simp[execOp,go_sem,q0]);refine tj 23 63 (.bool (!vb)) zz ?_;simp only[sX,sY,sZ];refine tj 24 64 (.bool (!vb)) zz ?_;simp only[sX,sY,sZ];refine wpAnyH_done (by kernel_rfl) ?_ _;clear zz;cases vb
           . have HF:=h_ (HFb.u rfl rfl)
             go_wp2_with fail;go_ret
             first | exact⟨_,f,rfl,H1.u,H2.u,HF.u,HBw7.u⟩ | exact⟨_,rfl,f,H1.u,H2.u,HF.u,HBw7.u⟩ | exact⟨f,H1.u,H2.u,HF.u,HBw7.u⟩
           . have HN3:=h_ (HFt.u (fun _=>rfl))
             go_wp2_with fail;have efk:=HFK.u;subst efk;go_roundw
             case rel=>first | exact⟨j+1,by omega,by go_num,HN3.u,HB7.u⟩ | ((repeat apply Exists.intro);exact⟨⟨j+1,by omega,by go_num,HN3.u,HB7.u⟩,rfl⟩) | ((repeat apply Exists.intro);exact⟨⟨j+1,by omega,by go_num,HN3.u,HB7.u⟩,rfl,rfl,rfl⟩)
             case measure=>simp[intOf];omega
       . obtain rfl:j=m.F.length:=by omega
         have hjl':¬ (m.F.length:Int)<(m.F.length:Int):=(by omega);have HN2:Hi (∀j,j<k+1->¬ DownS m n F f j):=h_ fun j hj=>by
          by_cases e:j=k
          . subst e;exact q6y HND.u
          . exact HN.u j (by omega)
         obtain⟨y0,y1,y2,y3⟩:=quad HK6.u;go_wp2_with fail;go_roundw
         case rel=>first | exact⟨k+1,by omega,by go_num,HN2.u,HB5.u⟩ | ((repeat apply Exists.intro);exact⟨⟨k+1,by omega,by go_num,HN2.u,HB5.u⟩,rfl⟩)
         case measure=>simp[intOf];omega
  . obtain rfl:k=m.F.length:=by omega
    have hlt':¬ (m.F.length:Int)<(m.F.length:Int):=(by omega);have HF:Hi (Fst (DownS m n F f) m.F.length (-1)):=h_ (.inl ⟨rfl,HN.u⟩);obtain⟨y0,y1,y2,y3⟩:=quad HKr.u;go_wp2_with fail;go_ret
    first | exact⟨_,f,rfl,H1.u,H2.u,HF.u,HBw.u⟩ | exact⟨_,rfl,f,H1.u,H2.u,HF.u,HBw.u⟩ | exact⟨f,H1.u,H2.u,HF.u,HBw.u⟩
abbrev dgV (c a:Int):Value:=.agg (Js c a)
def frst (m:Fm):Int:=((m.L.length+m.P.length+m.R.length:Nat):Int)
def ChkF (m:Fm)(n:Nat)(F:Nat->Bool)(c a:Int):Prop :=
 (∃z,0<=z/\Fst (fun k=>Rch m k k) m.F.length z/\c=15/\a=frst m+z) ∨
 (Fst (fun k=>Rch m k k) m.F.length (-1)/\∃f z,Sol m n (fun a b=>F (a*n+b)=true) f/\Low m n (fun a b=>F (a*n+b)=true) f/\Fst (DownS m n F f) m.F.length z/\((0<=z/\c=16/\a=frst m+z)∨(z<0/\c=0/\a=0)))
theorem ChkF.one {m:Fm}{n bt:Nat}{F:Nat->Bool}{jn:Nat->Nat->Nat}(L:LatP n (fun a b=>F (a*n+b)=true) jn bt){c a c' a':Int}(h:ChkF m n F c a)(h':ChkF m n F c' a'):c=c'/\a=a':=by
 rcases h with ⟨z,h0,h1,rfl,rfl⟩ | ⟨h1,f,z,s1,s2,s3,h2⟩ <;> rcases h' with ⟨z',h0',h1',rfl,rfl⟩ | ⟨h1',f',z',sX,sY,sZ,h2'⟩
 . rw[h1.one h1'];exact⟨rfl,rfl⟩
 . have:=h1.one h1';omega
 . have:=h1.one h1';omega
 . have hff:=qdc L s1 sX s2 sY
   have hD:∀k,k<m.F.length->(DownS m n F f k ↔ DownS m n F f' k):=fun k hk=>by
    unfold DownS;refine⟨fun⟨x,j,hj,y,e⟩=>⟨x,j,hj,y,?_⟩,fun⟨x,j,hj,y,e⟩=>⟨x,j,hj,y,?_⟩⟩
    . rw[<- hff j hj,<- hff k hk];exact e
    . rw[hff j hj,hff k hk];exact e
   have hz:z=z':=(s3.iff hD).one sZ;subst hz;rcases h2 with ⟨x,rfl,rfl⟩ | ⟨x,rfl,rfl⟩ <;> rcases h2' with ⟨x',rfl,rfl⟩ | ⟨x',rfl,rfl⟩
   . exact⟨rfl,rfl⟩
   . omega
   . omega
   . exact⟨rfl,rfl⟩
theorem q05 (m:Fm)(A:MA)(z:Int)(w:World)(hv:VfA m)(hz:0<=z)(hz2:z<m.F.length) :
 Calls Tryz.prog 82 #[mV m A,J6 z] w fun r w'=>r=.returned (J6 (frst m+z))/\Below w.heap.size w w':=by
 obtain⟨al,alc,ap,apc,ar,arc,af,afc,afa⟩:=A
 unfold mV
 dsimp only
 have h1:=hv.nl;have h2:=hv.np;have h3:=hv.nr;have h4:=hv.nf
 clear hv
 have HE:Hi ((m.L.length:Int)+m.P.length+m.R.length+z=frst m+z):=h_ (by unfold frst;omega)
 have HK:=h_ (Blk.new w 36 (Jb al m alc ap apc ar arc af afc))
 have HB:=h_ ((bR w.heap.size w).alloc (nR _) (.cells (Jb al m alc ap apc ar arc af afc) 36))
 obtain⟨W0,hW0⟩:=Nq (w.alloc (.cells (Jb al m alc ap apc ar arc af afc) 36))
 rw[hW0]at HK HB
 obtain⟨y0,y1,y2,y3⟩:=quad HK.u
 go_enter Tryz.func82,Tryz.ntmps82
 go_wp2_with fail
 try rw[hW0]
 go_ret
 rw[HE.u]
 exact⟨rfl,HB.u⟩
theorem q7f (m:Fm)(A:MA)(w:World)(hV:∀W,MSl W m A->Calls Tryz.prog 63 #[mV m A] W fun r w'=>r=.returned (.bool (vfB m))/\Below W.heap.size W w')(hq:vfB m=false)(ha:MSl w m A) :
 Calls Tryz.prog 39 #[mV m A] w fun r w'=>r=.returned (dgV 20 0)/\Below w.heap.size w w':=by
 have HV:=h_ hV
 obtain⟨al,alc,ap,apc,ar,arc,af,afc,afa⟩:=A
 unfold mV at HV⊢
 dsimp only at HV⊢
 have HK:=h_ ((Blk.new w 36 (Jb al m alc ap apc ar arc af afc)).alloc (.cells Jm 82))
 have HR:=h_ (Blk.new (w.alloc (.cells (Jb al m alc ap apc ar arc af afc) 36)) 82 Jm)
 rw[Yk]at HR
 have HB:=h_ (((bR w.heap.size w).alloc (nR _) (.cells (Jb al m alc ap apc ar arc af afc) 36)).alloc (by simp) (.cells Jm 82))
 obtain⟨W0,hW0⟩:=Nq ((w.alloc (.cells (Jb al m alc ap apc ar arc af afc) 36)).alloc (.cells Jm 82))
 have hs0:W0.heap.size=w.heap.size+2:=by rw[<- hW0];simp
 rw[hW0]at HK HR HB
 have HS:=h_ (ha.mono HB.u)
 clear ha hV
 obtain⟨y0,y1,y2,y3⟩:=quad HK.u
 go_enter Tryz.func39,Tryz.ntmps39
 go_wp2_with fail
 try rw[hW0]
 refine(HV.u W0 HS.u).mono ?_
 rintro r W1 ⟨rfl,hb⟩
 replace HK:=mB HK hb;replace HR:=mB HR hb;replace HS:=h_ (HS.u.mono hb);replace HB:=mT HB hb
 rw[hq]
 clear hb hW0 y0 y1 y2 y3 hq
 obtain⟨⟨r0,r1⟩,⟨f0,f1⟩⟩:=two' HR.u
 have HR9:=h_ ((HR.u.set 0 (J6 (20))).set 1 (J6 (0)))
 simp only[Yx,Y2]at HR9
 have HB9:=h_ ((HB.u.setCell (p:=⟨w.heap.size+1,0,none⟩) (by simp) (J6 (20))).setCell (p:=⟨w.heap.size+1,1,none⟩) (by simp) (J6 (0)))
 go_wp2_with fail
 obtain⟨k0,k1⟩:=(two' HR9.u).1
 exact bodyPost_ret (v:=dgV (20) (0)) (by simp[results,Tryz.results39,go_sem,k0,k1]) rfl ⟨rfl,HB9.u⟩
theorem q7g (m:Fm)(A:MA)(w:World)(code:Int)(hV:∀W,MSl W m A->Calls Tryz.prog 63 #[mV m A] W fun r w'=>r=.returned (.bool (vfB m))/\Below W.heap.size W w')(hq:vfB m=true)(hc:1<=code/\code<=4)(hz:SpecZ m.L.length m.P.length (pr1 m) (pr2 m) code)(hf:FitM m)(ha:MSl w m A) :
 Calls Tryz.prog 39 #[mV m A] w fun r w'=>r=.returned (dgV (10+code) 0)/\Below w.heap.size w w':=by
 have HV:=h_ hV;have HZz:=h_ hz
 have HCo:=h_ fun W=>q6g m A W hf
 have HPm:=h_ fun W (hs:MSl W m A)=>qmz hs
 obtain⟨al,alc,ap,apc,ar,arc,af,afc,afa⟩:=A
 unfold mV at HV HCo⊢
 dsimp only at HV HCo HPm⊢
 have HK:=h_ ((Blk.new w 36 (Jb al m alc ap apc ar arc af afc)).alloc (.cells Jm 82))
 have HR:=h_ (Blk.new (w.alloc (.cells (Jb al m alc ap apc ar arc af afc) 36)) 82 Jm)
 rw[Yk]at HR
 have HB:=h_ (((bR w.heap.size w).alloc (nR _) (.cells (Jb al m alc ap apc ar arc af afc) 36)).alloc (by simp) (.cells Jm 82))
 obtain⟨W0,hW0⟩:=Nq ((w.alloc (.cells (Jb al m alc ap apc ar arc af afc) 36)).alloc (.cells Jm 82))
 have hs0:W0.heap.size=w.heap.size+2:=by rw[<- hW0];simp
 rw[hW0]at HK HR HB
 have HS:=h_ (ha.mono HB.u)
 clear ha hV hz hf
 obtain⟨y0,y1,y2,y3⟩:=quad HK.u
 go_enter Tryz.func39,Tryz.ntmps39
 go_wp2_with fail
 try rw[hW0]
 refine(HV.u W0 HS.u).mono ?_
 rintro r W1 ⟨rfl,hb⟩
 replace HK:=mB HK hb;replace HR:=mB HR hb;replace HS:=h_ (HS.u.mono hb);replace HB:=mT HB hb
 rw[hq]
 clear hb hW0 y0 y1 y2 y3 hq
 obtain⟨y0,y1,y2,y3⟩:=quad HK.u
 go_wp2_with fail
 refine(HCo.u W1).mono ?_
 rintro r W2 ⟨rfl,hb⟩
 replace HK:=mB HK hb;replace HR:=mB HR hb;replace HS:=h_ (HS.u.mono hb);replace HB:=mT HB hb
 have HC2:=h_ (HZz.u W2 ap apc (HPm.u W2 HS.u))
 unfold zeroL at HC2
 clear hb y0 y1 y2 y3
 go_wp2_with fail
 refine HC2.u.mono ?_
 rintro r W3 ⟨rfl,hb⟩
 replace HK:=mB HK hb;replace HR:=mB HR hb;replace HS:=h_ (HS.u.mono hb);replace HB:=mT HB hb
 have hba:=(bR W3.heap.size W3).alloc (nR _) (.cells Jf 105)
 replace HR:=mB HR hba;replace HB:=mT HB hba
 obtain⟨hc1,hc2⟩:=hc
 have hc3:(code != 0)=true:=by have:code≠0:=(by omega);simpa using this
 clear hb hba
 obtain⟨⟨r0,r1⟩,⟨f0,f1⟩⟩:=two' HR.u
 have HR9:=h_ ((HR.u.set 0 (J6 (10+code))).set 1 (J6 (0)))
 simp only[Yx,Y2]at HR9
 have HB9:=h_ ((HB.u.setCell (p:=⟨w.heap.size+1,0,none⟩) (by simp) (J6 (10+code))).setCell (p:=⟨w.heap.size+1,1,none⟩) (by simp) (J6 (0)))
 go_wp2_with fail
 obtain⟨k0,k1⟩:=(two' HR9.u).1
 exact bodyPost_ret (v:=dgV (10+code) (0)) (by simp[results,Tryz.results39,go_sem,k0,k1]) rfl ⟨rfl,HB9.u⟩
theorem q7e (m:Fm)(A:MA)(w:World)(bot top:Int)(s n bt tp:Nat)(F:Nat->Bool)(J M:Nat->Int)(hV:∀W,MSl W m A->Calls Tryz.prog 63 #[mV m A] W fun r w'=>r=.returned (.bool (vfB m))/\Below W.heap.size W w')(hq:vfB m=true)(hv:VfA m)(hz:SpecF m.L.length m.P.length (pr1 m) (pr2 m) s F J M bot top)(hL:ValidP m.L.length s s s F J M bot top n bt tp)(hf:FitM m)(ha:MSl w m A) :
 Calls Tryz.prog 39 #[mV m A] w fun r w'=>∃c a,r=.returned (dgV c a)/\ChkF m n F c a/\Below w.heap.size w w':=by
 have HV:=h_ hV;have HZz:=h_ hz
 have HCo:=h_ fun W=>q6g m A W hf
 have HPm:=h_ fun W (hs:MSl W m A)=>qmz hs
 have HCy:=h_ fun W (hs:MSl W m A)=>q2p m A W hv.nf hf hs
 have HCd:=h_ fun W (hs:MSl W m A)=>q2o m A W bot top s n bt tp F J M hv hz hL hf hs
 have g1:=hv.nl;have g2:=hv.np;have g3:=hv.nr;have g4:=hv.nf
 obtain⟨al,alc,ap,apc,ar,arc,af,afc,afa⟩:=A
 unfold mV at HV HCo HCy HCd⊢
 dsimp only at HV HCo HPm HCy HCd⊢
 have HK:=h_ ((Blk.new w 36 (Jb al m alc ap apc ar arc af afc)).alloc (.cells Jm 82))
 have HR:=h_ (Blk.new (w.alloc (.cells (Jb al m alc ap apc ar arc af afc) 36)) 82 Jm)
 rw[Yk]at HR
 have HB:=h_ (((bR w.heap.size w).alloc (nR _) (.cells (Jb al m alc ap apc ar arc af afc) 36)).alloc (by simp) (.cells Jm 82))
 obtain⟨W0,hW0⟩:=Nq ((w.alloc (.cells (Jb al m alc ap apc ar arc af afc) 36)).alloc (.cells Jm 82))
 have hs0:W0.heap.size=w.heap.size+2:=by rw[<- hW0];simp
 rw[hW0]at HK HR HB
 have HS:=h_ (ha.mono HB.u)
 clear ha hV hz hf hL hv
 obtain⟨y0,y1,y2,y3⟩:=quad HK.u
 go_enter Tryz.func39,Tryz.ntmps39
 go_wp2_with fail
 try rw[hW0]
 refine(HV.u W0 HS.u).mono ?_
 rintro r W1 ⟨rfl,hb⟩
 replace HK:=mB HK hb;replace HR:=mB HR hb;replace HS:=h_ (HS.u.mono hb);replace HB:=mT HB hb
 rw[hq]
 clear hb hW0 y0 y1 y2 y3 hq
 obtain⟨y0,y1,y2,y3⟩:=quad HK.u
 go_wp2_with fail
 refine(HCo.u W1).mono ?_
 rintro r W2 ⟨rfl,hb⟩
 replace HK:=mB HK hb;replace HR:=mB HR hb;replace HS:=h_ (HS.u.mono hb);replace HB:=mT HB hb
 have HC2:=h_ (HZz.u W2 ap apc (HPm.u W2 HS.u))
 clear hb y0 y1 y2 y3
 go_wp2_with fail
 refine HC2.u.mono ?_
 rintro r W3 ⟨a1,a2,a3,c1,c2,c3,rfl,-,-,-,hb⟩
 replace HK:=mB HK hb;replace HR:=mB HR hb;replace HS:=h_ (HS.u.mono hb);replace HB:=mT HB hb
 replace hb:=(bR W3.heap.size W3).alloc (nR _) (.cells (Ji m.L.length a1 s c1 a2 c2 a3 c3 bot top) 105)
 replace HK:=mB HK hb;replace HR:=mB HR hb;replace HS:=h_ (HS.u.mono hb);replace HB:=mT HB hb
 obtain⟨W4,hW4⟩:=Nq (W3.alloc (.cells (Ji m.L.length a1 s c1 a2 c2 a3 c3 bot top) 105))
 rw[hW4]at HR HB HK HS
 have HC3:=h_ (HCy.u W4 HS.u)
 obtain⟨y0,y1,y2,y3⟩:=quad HK.u
 clear hb HC2
 go_wp2_with fail
 try rw[hW4]
 refine HC3.u.mono ?_
 rintro r W5 ⟨z,rfl,hz1,hb⟩
 have HZ1:=h_ hz1
 obtain⟨hzl,hzu⟩:=hz1.bounds
 replace HK:=mB HK hb;replace HR:=mB HR hb;replace HS:=h_ (HS.u.mono hb);replace HB:=mT HB hb
 clear hb hW4 y0 y1 y2 y3 hz1 HC3
 have HE:Hi (∀z,(m.L.length:Int)+m.P.length+m.R.length+z=frst m+z):=h_ (fun z=>by unfold frst;omega)
 by_cases hz0:0<=z
 . have HF:Hi (ChkF m n F 15 ((m.L.length:Int)+m.P.length+m.R.length+z)):=h_ (by rw[HE.u];exact .inl ⟨z,hz0,HZ1.u,rfl,rfl⟩)
   obtain⟨⟨r0,r1⟩,⟨f0,f1⟩⟩:=two' HR.u;have HR9:=h_ ((HR.u.set 0 (J6 (15))).set 1 (J6 ((m.L.length:Int)+m.P.length+m.R.length+z)));simp only[Yx,Y2]at HR9;have HB9:=h_ ((HB.u.setCell (p:=⟨w.heap.size+1,0,none⟩) (by simp) (J6 (15))).setCell (p:=⟨w.heap.size+1,1,none⟩) (by simp) (J6 ((m.L.length:Int)+m.P.length+m.R.length+z)));go_wp2_with fail;obtain⟨k0,k1⟩:=(two' HR9.u).1;exact bodyPost_ret (v:=dgV (15) ((m.L.length:Int)+m.P.length+m.R.length+z)) (by simp[results,Tryz.results39,go_sem,k0,k1]) rfl ⟨_,_,rfl,HF.u,HB9.u⟩
 . have HZ2:Hi (Fst (fun k=>Rch m k k) m.F.length (-1)):=h_ (by rw[<- show z = -1 by omega];exact HZ1.u)
   have HC4:=h_ (HCd.u W5 HS.u);obtain⟨y0,y1,y2,y3⟩:=quad HK.u;go_wp2_with fail;refine HC4.u.mono ?_;rintro r W6 ⟨z2,f,rfl,s1,s2,s3,hb⟩;have S1:=h_ s1;have S2:=h_ s2;have S3:=h_ s3;obtain⟨hyl,hyu⟩:=s3.bounds;replace HK:=mB HK hb;replace HR:=mB HR hb;replace HS:=h_ (HS.u.mono hb);replace HB:=mT HB hb;clear hb y0 y1 y2 y3 s1 s2 s3 HC4;by_cases hz3:0<=z2
   . have HF:Hi (ChkF m n F 16 ((m.L.length:Int)+m.P.length+m.R.length+z2)):=h_ (by rw[HE.u];exact .inr ⟨HZ2.u,f,z2,S1.u,S2.u,S3.u,.inl ⟨hz3,rfl,rfl⟩⟩)
     obtain⟨⟨r0,r1⟩,⟨f0,f1⟩⟩:=two' HR.u;have HR9:=h_ ((HR.u.set 0 (J6 (16))).set 1 (J6 ((m.L.length:Int)+m.P.length+m.R.length+z2)));simp only[Yx,Y2]at HR9;have HB9:=h_ ((HB.u.setCell (p:=⟨w.heap.size+1,0,none⟩) (by simp) (J6 (16))).setCell (p:=⟨w.heap.size+1,1,none⟩) (by simp) (J6 ((m.L.length:Int)+m.P.length+m.R.length+z2)));go_wp2_with fail;obtain⟨k0,k1⟩:=(two' HR9.u).1;exact bodyPost_ret (v:=dgV (16) ((m.L.length:Int)+m.P.length+m.R.length+z2)) (by simp[results,Tryz.results39,go_sem,k0,k1]) rfl ⟨_,_,rfl,HF.u,HB9.u⟩
   . have HF:Hi (ChkF m n F 0 0):=h_ (.inr ⟨HZ2.u,f,z2,S1.u,S2.u,S3.u,.inr ⟨by omega,rfl,rfl⟩⟩)
     obtain⟨⟨r0,r1⟩,⟨f0,f1⟩⟩:=two' HR.u;have HR9:=h_ ((HR.u.set 0 (J6 (0))).set 1 (J6 (0)));simp only[Yx,Y2]at HR9;have HB9:=h_ ((HB.u.setCell (p:=⟨w.heap.size+1,0,none⟩) (by simp) (J6 (0))).setCell (p:=⟨w.heap.size+1,1,none⟩) (by simp) (J6 (0)));go_wp2_with fail;obtain⟨k0,k1⟩:=(two' HR9.u).1;exact bodyPost_ret (v:=dgV (0) (0)) (by simp[results,Tryz.results39,go_sem,k0,k1]) rfl ⟨_,_,rfl,HF.u,HB9.u⟩
end Go.Proofs.YtgojgjlninakjaaGreatDoor
