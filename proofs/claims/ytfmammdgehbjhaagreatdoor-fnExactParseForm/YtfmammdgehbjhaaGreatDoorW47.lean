import Derived.Test.YtfmammdgehbjhaaGreatDoorW45
import Derived.Test.YtfmammdgehbjhaaGreatDoorW38
set_option maxRecDepth 100000
set_option maxHeartbeats 64000000
namespace Go.Proofs.YtfmammdgehbjhaaGreatDoor
open Go Go.RowKit
theorem qay {α:Type}{f g:Nat->α}{k:Nat}(h:∀j,j<k->f j=g j)(h':f k=g k):∀j,j<k+1->f j=g j:=fun j hj=>by
 by_cases e:j=k
 . rw[e];exact h'
 . exact h j (by omega)
theorem ine_ff {a b:Int}(h:(a != b)=false):a=b:=by simpa using h
theorem ine_tt {a b:Int}(h:(a != b)=true):¬ a=b:=by simpa using h
theorem q4g (a b:Option Addr)(f g:Nat->Int)(n:Nat)(ca cb:Nat)(w:World)(ha:Ints w a n f)(hb:Ints w b n g)(hlx:n<=140737488355328) :
 Calls Tryz.prog 111 #[.slice a n ca,.slice b n cb] w fun e w'=>e=.returned (.bool (sameI n f g))/\Below w.heap.size w w':=by
 go_enter Tryz.func111,Tryz.ntmps111
 go_wp2
 go_loopw [5] (fun i wr=>∃k:Nat,k<=n/\i=Ya k/\(∀j,j<k->f j=g j)/\∃n,wr=w.drewN n) (fun i _=>n - (intOf i).toNat)
 case atStart=>exact⟨0,nZ _,rfl,fun j h=>absurd h (nL _),0,rfl⟩
 case round =>
  obtain⟨k,hk,rfl,heq,m,rfl⟩:=hrel;have HE:Hi (∀j,j<k->f j=g j):=heq;clear heq;by_cases hlt:k<n
  . obtain⟨b1,o1,rfl,-,hc1⟩:=ha k hlt
    obtain⟨b2,o2,rfl,-,hc2⟩:=hb k hlt;go_wp2
    go_quiet (fail)
    go_wp2
    . have ht:(f k != g k)=true:=by assumption
      go_ret;exact⟨qdx (q5n k hlt (ine_tt ht)).symm,⟨rfl,rfl,rfl,nR _,fun _ _=>rfl⟩⟩
    . have ht:(f k != g k)=false:=by assumption
      go_roundw
      case rel=>exact⟨k+1,by omega,by go_num,qay HE.out (ine_ff ht),_,rfl⟩
      case measure=>simp[intOf];omega
  . go_wp2
    go_ret;exact⟨qdx (q7x fun j hj=>HE.out j (by omega)).symm,⟨rfl,rfl,rfl,nR _,fun _ _=>rfl⟩⟩
def bs (n:Nat)(f:Nat->Bool):List Value:=(List.range n).map fun k=>.bool (f k)
def is (n:Nat)(f:Nat->Int):List Value:=(List.range n).map fun k=>.int .i64 (f k)
theorem q4h (n:Nx)(w:World) :
 Calls Tryz.prog 147 #[nv n,nv n] w fun r w'=>r=.returned (.bool true)/\Below w.heap.size w w':=by
 unfold nv
 have hq:(n.nm.toList==n.nm.toList)=true:=by simp
 have HK:=h_ ((Blk.new w 133 #[Ya n.op,Ya n.v.k,Ya n.v.n,.string n.v.s,.string n.nm]).alloc (.cells #[Ya n.op,Ya n.v.k,Ya n.v.n,.string n.v.s,.string n.nm] 133))
 have HR:=h_ (Blk.new (w.alloc (.cells #[Ya n.op,Ya n.v.k,Ya n.v.n,.string n.v.s,.string n.nm] 133)) 133 #[Ya n.op,Ya n.v.k,Ya n.v.n,.string n.v.s,.string n.nm])
 have HB:=h_ (((bR w.heap.size w).alloc (nR _) (.cells #[Ya n.op,Ya n.v.k,Ya n.v.n,.string n.v.s,.string n.nm] 133)).alloc (by simp) (.cells #[Ya n.op,Ya n.v.k,Ya n.v.n,.string n.v.s,.string n.nm] 133))
 simp only[Yy]at HR
 go_enter Tryz.func147,Tryz.ntmps147
 go_wp2_with fail
 refine(q2v n.v.k n.v.n n.v.s _).mono ?_
 rintro x w2 ⟨rfl,hb⟩
 replace HK:=mB HK hb;replace HR:=mB HR hb;replace HB:=mT HB hb
 clear hb
 obtain⟨y0,y1,y2,y3,y4⟩:=five HK.u
 obtain⟨r0,r1,r2,r3,r4⟩:=five HR.u
 go_wp2_with fail
 go_ret
 exact⟨rfl,HB.u⟩
theorem q2s (a b:Option Addr)(e:Nat->Nx)(n ca cb:Nat)(w:World)(hn:n<=1048576)(ha:Nods w a n e)(hb:Nods w b n e) :
 Calls Tryz.prog 112 #[.slice a n ca,.slice b n cb] w fun r w'=>r=.returned (.bool true)/\Below w.heap.size w w':=by
 have HA:=h_ ha;have HB0:=h_ hb
 clear ha hb
 go_enter Tryz.func112,Tryz.ntmps112
 go_wp2_with fail
 go_loopw [5] (fun i wr=>∃k:Nat,k<=n/\i=Ya k/\Below w.heap.size w wr) (fun i _=>n - (intOf i).toNat)
 case atStart=>exact⟨0,nZ _,rfl,bR _ _⟩
 case round =>
  obtain⟨k,hk,rfl,hB⟩:=hrel;have HB:=h_ hB;by_cases hlt:k<n
  . obtain⟨b1,o1,rfl,C1⟩:=(HA.u.mono hB) k hlt
    obtain⟨b2,o2,rfl,C2⟩:=(HB0.u.mono hB) k hlt;obtain⟨u,hu⟩:=Nq (e k);rw[hu]at C1 C2;have HC1:=h_ C1;have HC2:=h_ C2;have k0:(0:Int)<=k:=(by omega);have k1:(k:Int)<n:=(by omega);clear hB hu C1 C2;go_wp2_with fail;refine wp_region_held_drew (S:=fun w'=>NCel w' b1 (o1+k*5) u/\NCel w' b2 (o2+k*5) u) (by kernel_rfl) ⟨HC1.u,HC2.u⟩ (fun zz=>?_);refine tj 0 17 (.slice (some ⟨b1,o1,none⟩) n ca) zz ?_;refine tj 1 18 (Ya k) zz ?_;refine tj 2 19 (.pointer (some ⟨b1,o1+k*5,none⟩)) zz ?_;refine tj 3 20 (.agg #[Ya u.op,Ya u.v.k,Ya u.v.n,.string u.v.s,.string u.nm]) zz ?_ (hy:=fun w hS=>by obtain⟨⟨-,q0,q1,q2,q3,q4⟩,-⟩:=hS;simp[execOp,go_sem,q0,q1,q2,q3,q4]);simp only[sX,sY,sZ];refine tj 4 21 (.slice (some ⟨b2,o2,none⟩) n cb) zz ?_;refine tj 5 22 (Ya k) zz ?_;refine tj 6 23 (.pointer (some ⟨b2,o2+k*5,none⟩)) zz ?_;refine tj 7 24 (.agg #[Ya u.op,Ya u.v.k,Ya u.v.n,.string u.v.s,.string u.nm]) zz ?_ (hy:=fun w hS=>by obtain⟨-,⟨-,q0,q1,q2,q3,q4⟩⟩:=hS;simp[execOp,go_sem,q0,q1,q2,q3,q4]);simp only[sX,sY,sZ];refine callY (i:=8) (f:=147) (args:=#[nv u,nv u]) (R:=fun v wz=>v=.bool true/\Below wr.heap.size wr wz) 25 rfl rfl (by rfl) (by kernel_rfl) ?hrun1 ((q4h u _).mono fun e w6 ⟨he,hb⟩=>⟨_,he,rfl,q23 hb⟩) ?_
    case hrun1=>simp[execOp,go_sem,nv]
    rintro v w6 ⟨rfl,hb6⟩;have HB6:=mT HB hb6;replace zz:NCel w6 b1 (o1+k*5) u/\NCel w6 b2 (o2+k*5) u:=⟨HC1.u.mono hb6,HC2.u.mono hb6⟩;clear hb6;refine⟨zz,?_⟩;simp only[sX,sY,sZ];refine tj 9 26 (.bool false) zz ?_;simp only[sX,sY,sZ];refine wpAnyH_done (by kernel_rfl) ?_ _;clear zz;go_wp2_with fail;go_roundw
    case rel=>exact⟨k+1,by omega,by go_num,HB6.u⟩
    case measure=>simp[intOf];omega
  . obtain rfl:n=k:=by omega
    clear hB;go_wp2_with fail;go_ret;exact⟨rfl,HB.u⟩
theorem q1c (a b:Option Addr)(l:List ByteArray)(ca cb:Nat)(w:World)(hn:l.length<=1048576)(ha:Strs w a l)(hb:Strs w b l) :
 Calls Tryz.prog 25 #[.slice a l.length ca,.slice b l.length cb] w fun r w'=>r=.returned (.bool true)/\Below w.heap.size w w':=by
 have HA:=h_ ha;have HC:=h_ hb
 clear ha hb
 go_enter Tryz.func25,Tryz.ntmps25
 go_wp2_with fail
 go_loopw [5] (fun i wr=>∃k:Nat,k<=l.length/\i=Ya k/\Below w.heap.size w wr) (fun i _=>l.length - (intOf i).toNat)
 case atStart=>exact⟨0,nZ _,rfl,bR _ _⟩
 case round =>
  obtain⟨k,hk,rfl,hb⟩:=hrel;have HB:=h_ hb;have HAr:=h_ (HA.u.mono hb);have HCr:=h_ (HC.u.mono hb);clear hb;by_cases hlt:k<l.length
  . have hlt':(k:Int)<l.length:=by omega
    obtain⟨b1,o1,rfl,-,z0⟩:=HAr.u k hlt;obtain⟨b2,o2,rfl,-,z1⟩:=HCr.u k hlt;generalize l[k]=x at *;have hq:(x.toList==x.toList)=true:=(by simp);have HD:Hi (Below w.heap.size w wr.drew):=h_ HB.u.drew;go_wp2_with fail;refine wp_region_held_drew (S:=fun w'=>w'.cell? ⟨b1,o1+k,none⟩=some (.string x)/\w'.cell? ⟨b2,o2+k,none⟩=some (.string x)) (by kernel_rfl) ⟨z0,z1⟩ (fun zz=>?_);refine tj 0 17 (.slice (some ⟨b1,o1,none⟩) l.length ca) zz ?_;refine tj 1 18 (Ya k) zz ?_;refine tj 2 19 (Yd b1 (o1+k)) zz ?_;refine tj 3 20 (.string x) zz ?_;simp only[sX,sY,sZ];refine tj 4 21 (.slice (some ⟨b2,o2,none⟩) l.length cb) zz ?_;refine tj 5 22 (Ya k) zz ?_;refine tj 6 23 (Yd b2 (o2+k)) zz ?_;refine tj 7 24 (.string x) zz ?_;simp only[sX,sY,sZ];refine tj 8 25 (.bool false) zz ?_;simp only[sX,sY,sZ];refine wpAnyH_done (by kernel_rfl) ?_ _;clear zz;go_wp2_with fail;go_roundw
    case rel=>first | exact⟨k+1,by omega,by go_num,HD.u⟩ | ((repeat apply Exists.intro);exact⟨⟨k+1,by omega,by go_num,HD.u⟩,rfl⟩)
    case measure=>simp[intOf];omega
  . obtain rfl:k=l.length:=by omega
    have hlt':¬ (l.length:Int)<(l.length:Int):=(by omega);go_wp2_with fail;go_ret;exact⟨rfl,HB.u⟩
def DCel (w:World)(b o:Nat)(v0 v1:Value):Prop:=b<w.heap.size/\w.cell? ⟨b,o,none⟩=some v0/\w.cell? ⟨b,o+1,none⟩=some v1
theorem DCel.mono {w w':World}{b o:Nat}{v0 v1:Value}(h:DCel w b o v0 v1)(hb:Below w.heap.size w w'):DCel w' b o v0 v1:=⟨Y3 h.1 hb.size,(hb.cell h.1).trans h.2.1,(hb.cell h.1).trans h.2.2⟩
theorem q6c (u:(Int × Int))(w:World):Calls Tryz.prog 75 #[.agg (Jw u.1 u.2),.agg (Jw u.1 u.2)] w fun r w'=>r=.returned (.bool true)/\Below w.heap.size w w':=by
 have HB:=h_ (((bR w.heap.size w).alloc (nR _) (.cells (Jw u.1 u.2) 84)).alloc (by simp) (.cells (Jw u.1 u.2) 84))
 go_enter Tryz.func75,Tryz.ntmps75
 go_wp2_with fail
 go_ret
 exact⟨rfl,HB.u⟩
theorem q2t (a b:Option Addr)(l:List (Int × Int))(ca cb:Nat)(w:World)(hn:l.length<=1048576)(ha:Prs w a l)(hb:Prs w b l) :
 Calls Tryz.prog 26 #[.slice a l.length ca,.slice b l.length cb] w fun r w'=>r=.returned (.bool true)/\Below w.heap.size w w':=by
 have HA:=h_ ha;have HB0:=h_ hb
 clear ha hb
 go_enter Tryz.func26,Tryz.ntmps26
 go_wp2_with fail
 go_loopw [5] (fun i wr=>∃k:Nat,k<=l.length/\i=Ya k/\Below w.heap.size w wr) (fun i _=>l.length - (intOf i).toNat)
 case atStart=>exact⟨0,nZ _,rfl,bR _ _⟩
 case round =>
  obtain⟨k,hk,rfl,hB⟩:=hrel;have HB:=h_ hB;by_cases hlt:k<l.length
  . obtain⟨b1,o1,rfl,l1,p0,p1⟩:=(HA.u.mono hB) k hlt
    obtain⟨b2,o2,rfl,l2,r0,r1⟩:=(HB0.u.mono hB) k hlt;obtain⟨u,hu⟩:=Nq (l[k]);rw[hu]at p0 p1 r0 r1;have HC1:Hi (DCel wr b1 (o1+k*2) (Ya u.1) (Ya u.2)):=h_ ⟨l1,p0,p1⟩;have HC2:Hi (DCel wr b2 (o2+k*2) (Ya u.1) (Ya u.2)):=h_ ⟨l2,r0,r1⟩;have k0:(0:Int)<=k:=(by omega);have k1:(k:Int)<l.length:=(by omega);clear hB hu p0 p1 r0 r1 l1 l2;go_wp2_with fail;refine wp_region_held_drew (S:=fun w'=>DCel w' b1 (o1+k*2) (Ya u.1) (Ya u.2)/\DCel w' b2 (o2+k*2) (Ya u.1) (Ya u.2)) (by kernel_rfl) ⟨HC1.u,HC2.u⟩ (fun zz=>?_);refine tj 0 17 (.slice (some ⟨b1,o1,none⟩) l.length ca) zz ?_;refine tj 1 18 (Ya k) zz ?_;refine tj 2 19 (.pointer (some ⟨b1,o1+k*2,none⟩)) zz ?_;refine tj 3 20 (.agg (Jw u.1 u.2)) zz ?_ (hy:=fun w hS=>by obtain⟨⟨-,q0,q1⟩,-⟩:=hS;simp[execOp,go_sem,q0,q1]);simp only[sX,sY,sZ];refine tj 4 21 (.slice (some ⟨b2,o2,none⟩) l.length cb) zz ?_;refine tj 5 22 (Ya k) zz ?_;refine tj 6 23 (.pointer (some ⟨b2,o2+k*2,none⟩)) zz ?_;refine tj 7 24 (.agg (Jw u.1 u.2)) zz ?_ (hy:=fun w hS=>by obtain⟨-,⟨-,q0,q1⟩⟩:=hS;simp[execOp,go_sem,q0,q1]);simp only[sX,sY,sZ];refine callY (i:=8) (f:=75) (args:=#[.agg (Jw u.1 u.2),.agg (Jw u.1 u.2)]) (R:=fun v wz=>v=.bool true/\Below wr.heap.size wr wz) 25 rfl rfl (by rfl) (by kernel_rfl) ?hrun1 ((q6c u _).mono fun e w6 ⟨he,hb⟩=>⟨_,he,rfl,q23 hb⟩) ?_
    case hrun1=>simp[execOp,go_sem]
    rintro v w6 ⟨rfl,hb6⟩;have HB6:=mT HB hb6;replace zz:DCel w6 b1 (o1+k*2) (Ya u.1) (Ya u.2)/\DCel w6 b2 (o2+k*2) (Ya u.1) (Ya u.2):=⟨HC1.u.mono hb6,HC2.u.mono hb6⟩;clear hb6;refine⟨zz,?_⟩;simp only[sX,sY,sZ];refine tj 9 26 (.bool false) zz ?_;simp only[sX,sY,sZ];refine wpAnyH_done (by kernel_rfl) ?_ _;clear zz;go_wp2_with fail;go_roundw
    case rel=>exact⟨k+1,by omega,by go_num,HB6.u⟩
    case measure=>simp[intOf];omega
  . obtain rfl:k=l.length:=by omega
    have hlt':¬ (l.length:Int)<(l.length:Int):=(by omega);clear hB;go_wp2_with fail;go_ret;exact⟨rfl,HB.u⟩
theorem q6d (u:Rl)(w:World):Calls Tryz.prog 76 #[.agg #[.string u.nm,Ya u.lb],.agg #[.string u.nm,Ya u.lb]] w fun r w'=>r=.returned (.bool true)/\Below w.heap.size w w':=by
 have hq:(u.nm.toList==u.nm.toList)=true:=by simp
 have HB:=h_ (((bR w.heap.size w).alloc (nR _) (.cells #[.string u.nm,Ya u.lb] 86)).alloc (by simp) (.cells #[.string u.nm,Ya u.lb] 86))
 go_enter Tryz.func76,Tryz.ntmps76
 go_wp2_with fail
 go_ret
 exact⟨rfl,HB.u⟩
theorem q2u (a b:Option Addr)(l:List Rl)(ca cb:Nat)(w:World)(hn:l.length<=1048576)(ha:Rls w a l)(hb:Rls w b l) :
 Calls Tryz.prog 27 #[.slice a l.length ca,.slice b l.length cb] w fun r w'=>r=.returned (.bool true)/\Below w.heap.size w w':=by
 have HA:=h_ ha;have HB0:=h_ hb
 clear ha hb
 go_enter Tryz.func27,Tryz.ntmps27
 go_wp2_with fail
 go_loopw [5] (fun i wr=>∃k:Nat,k<=l.length/\i=Ya k/\Below w.heap.size w wr) (fun i _=>l.length - (intOf i).toNat)
 case atStart=>exact⟨0,nZ _,rfl,bR _ _⟩
 case round =>
  obtain⟨k,hk,rfl,hB⟩:=hrel;have HB:=h_ hB;by_cases hlt:k<l.length
  . obtain⟨b1,o1,rfl,l1,p0,p1⟩:=(HA.u.mono hB) k hlt
    obtain⟨b2,o2,rfl,l2,r0,r1⟩:=(HB0.u.mono hB) k hlt;obtain⟨u,hu⟩:=Nq (l[k]);rw[hu]at p0 p1 r0 r1;have HC1:Hi (DCel wr b1 (o1+k*2) (.string u.nm) (Ya u.lb)):=h_ ⟨l1,p0,p1⟩;have HC2:Hi (DCel wr b2 (o2+k*2) (.string u.nm) (Ya u.lb)):=h_ ⟨l2,r0,r1⟩;have k0:(0:Int)<=k:=(by omega);have k1:(k:Int)<l.length:=(by omega);clear hB hu p0 p1 r0 r1 l1 l2;go_wp2_with fail;refine wp_region_held_drew (S:=fun w'=>DCel w' b1 (o1+k*2) (.string u.nm) (Ya u.lb)/\DCel w' b2 (o2+k*2) (.string u.nm) (Ya u.lb)) (by kernel_rfl) ⟨HC1.u,HC2.u⟩ (fun zz=>?_);refine tj 0 17 (.slice (some ⟨b1,o1,none⟩) l.length ca) zz ?_;refine tj 1 18 (Ya k) zz ?_;refine tj 2 19 (.pointer (some ⟨b1,o1+k*2,none⟩)) zz ?_;refine tj 3 20 (.agg #[.string u.nm,Ya u.lb]) zz ?_ (hy:=fun w hS=>by obtain⟨⟨-,q0,q1⟩,-⟩:=hS;simp[execOp,go_sem,q0,q1]);simp only[sX,sY,sZ];refine tj 4 21 (.slice (some ⟨b2,o2,none⟩) l.length cb) zz ?_;refine tj 5 22 (Ya k) zz ?_;refine tj 6 23 (.pointer (some ⟨b2,o2+k*2,none⟩)) zz ?_;refine tj 7 24 (.agg #[.string u.nm,Ya u.lb]) zz ?_ (hy:=fun w hS=>by obtain⟨-,⟨-,q0,q1⟩⟩:=hS;simp[execOp,go_sem,q0,q1]);simp only[sX,sY,sZ];refine callY (i:=8) (f:=76) (args:=#[.agg #[.string u.nm,Ya u.lb],.agg #[.string u.nm,Ya u.lb]]) (R:=fun v wz=>v=.bool true/\Below wr.heap.size wr wz) 25 rfl rfl (by rfl) (by kernel_rfl) ?hrun1 ((q6d u _).mono fun e w6 ⟨he,hb⟩=>⟨_,he,rfl,q23 hb⟩) ?_
    case hrun1=>simp[execOp,go_sem]
    rintro v w6 ⟨rfl,hb6⟩;have HB6:=mT HB hb6;replace zz:DCel w6 b1 (o1+k*2) (.string u.nm) (Ya u.lb)/\DCel w6 b2 (o2+k*2) (.string u.nm) (Ya u.lb):=⟨HC1.u.mono hb6,HC2.u.mono hb6⟩;clear hb6;refine⟨zz,?_⟩;simp only[sX,sY,sZ];refine tj 9 26 (.bool false) zz ?_;simp only[sX,sY,sZ];refine wpAnyH_done (by kernel_rfl) ?_ _;clear zz;go_wp2_with fail;go_roundw
    case rel=>exact⟨k+1,by omega,by go_num,HB6.u⟩
    case measure=>simp[intOf];omega
  . obtain rfl:k=l.length:=by omega
    have hlt':¬ (l.length:Int)<(l.length:Int):=(by omega);clear hB;go_wp2_with fail;go_ret;exact⟨rfl,HB.u⟩
structure SmF (f:Fl):Prop where
 b:f.bys.length<=1048576
 i:f.is.length<=1048576
 h:f.wh.length<=1048576
 v:f.va.length<=1048576
 u:f.mu.length<=1048576
theorem q4f (f:Fl)(A A2:FA)(w:World)(hf:SmF f)(ha:FSl w f A)(hb:FSl w f A2) :
 Calls Tryz.prog 77 #[fV f A,fV f A2] w fun r w'=>r=.returned (.bool true)/\Below w.heap.size w w':=by
 obtain⟨ab,abc,ai,aic,ah,ahc,av,avc,au,auc⟩:=A
 obtain⟨qb,qbc,qi,qic,qh,qhc,qv,qvc,qu,quc⟩:=A2
 unfold fV
 dsimp only
 have hq:(f.nm.toList==f.nm.toList)=true:=by simp
 have hq2:(f.sy.toList==f.sy.toList)=true:=by simp
 have HK:=h_ ((Blk.new w 52 (Jd f ab abc ai aic ah ahc av avc au auc)).alloc (.cells (Jd f qb qbc qi qic qh qhc qv qvc qu quc) 52))
 have HK2:=h_ (Blk.new (w.alloc (.cells (Jd f ab abc ai aic ah ahc av avc au auc) 52)) 52 (Jd f qb qbc qi qic qh qhc qv qvc qu quc))
 rw[Yy]at HK2
 have HB:=h_ (((bR w.heap.size w).alloc (nR _) (.cells (Jd f ab abc ai aic ah ahc av avc au auc) 52)).alloc (by simp) (.cells (Jd f qb qbc qi qic qh qhc qv qvc qu quc) 52))
 obtain⟨W0,hW0⟩:=Nq ((w.alloc (.cells (Jd f ab abc ai aic ah ahc av avc au auc) 52)).alloc (.cells (Jd f qb qbc qi qic qh qhc qv qvc qu quc) 52))
 rw[hW0]at HK HK2 HB
 have HS:=h_ (ha.mono HB.u);have HS2:=h_ (hb.mono HB.u);have HF:=h_ hf
 clear ha hf hb
 obtain⟨x0,x1,x2,x3,x4,x5,x6,x7,x8⟩:=nine HK.u
 obtain⟨y0,y1,y2,y3,y4,y5,y6,y7,y8⟩:=nine HK2.u
 have HCi:Hi (Calls Tryz.prog 111 #[.slice ab f.bys.length abc,.slice qb f.bys.length qbc] W0 fun e w'=>e=.returned (.bool true)/\Below W0.heap.size W0 w'):=h_ (by
  have h:=q4g ab qb (fun k=>f.bys.getD k 0) (fun k=>f.bys.getD k 0) f.bys.length abc qbc W0 HS.u.b HS2.u.b (by have:=HF.u.b;omega);rw[q7x (fun _ _=>rfl)]at h;exact h)
 go_enter Tryz.func77,Tryz.ntmps77
 go_wp2_with fail
 try rw[hW0]
 refine HCi.u.mono ?_
 rintro r W1 ⟨rfl,hb⟩
 replace HK:=mB HK hb;replace HK2:=mB HK2 hb;replace HS:=h_ (HS.u.mono hb);replace HS2:=h_ (HS2.u.mono hb);replace HB:=mT HB hb
 clear hW0 hb x0 x1 x2 x3 x4 x5 x6 x7 x8 y0 y1 y2 y3 y4 y5 y6 y7 y8
 obtain⟨x0,x1,x2,x3,x4,x5,x6,x7,x8⟩:=nine HK.u
 obtain⟨y0,y1,y2,y3,y4,y5,y6,y7,y8⟩:=nine HK2.u
 go_wp2_with fail
 refine(q2s ai qi (nf f.is) f.is.length aic qic W1 HF.u.i HS.u.i HS2.u.i).mono ?_
 rintro r W2 ⟨rfl,hb⟩
 replace HK:=mB HK hb;replace HK2:=mB HK2 hb;replace HS:=h_ (HS.u.mono hb);replace HS2:=h_ (HS2.u.mono hb);replace HB:=mT HB hb
 clear hb x0 x1 x2 x3 x4 x5 x6 x7 x8 y0 y1 y2 y3 y4 y5 y6 y7 y8
 obtain⟨x0,x1,x2,x3,x4,x5,x6,x7,x8⟩:=nine HK.u
 obtain⟨y0,y1,y2,y3,y4,y5,y6,y7,y8⟩:=nine HK2.u
 go_wp2_with fail
 refine(q2s ah qh (nf f.wh) f.wh.length ahc qhc W2 HF.u.h HS.u.h HS2.u.h).mono ?_
 rintro r W3 ⟨rfl,hb⟩
 replace HK:=mB HK hb;replace HK2:=mB HK2 hb;replace HS:=h_ (HS.u.mono hb);replace HS2:=h_ (HS2.u.mono hb);replace HB:=mT HB hb
 clear hb x0 x1 x2 x3 x4 x5 x6 x7 x8 y0 y1 y2 y3 y4 y5 y6 y7 y8
 obtain⟨x0,x1,x2,x3,x4,x5,x6,x7,x8⟩:=nine HK.u
 obtain⟨y0,y1,y2,y3,y4,y5,y6,y7,y8⟩:=nine HK2.u
 go_wp2_with fail
 refine(q2s av qv (nf f.va) f.va.length avc qvc W3 HF.u.v HS.u.v HS2.u.v).mono ?_
 rintro r W4 ⟨rfl,hb⟩
 replace HK:=mB HK hb;replace HK2:=mB HK2 hb;replace HS:=h_ (HS.u.mono hb);replace HS2:=h_ (HS2.u.mono hb);replace HB:=mT HB hb
 clear hb x0 x1 x2 x3 x4 x5 x6 x7 x8 y0 y1 y2 y3 y4 y5 y6 y7 y8
 obtain⟨x0,x1,x2,x3,x4,x5,x6,x7,x8⟩:=nine HK.u
 obtain⟨y0,y1,y2,y3,y4,y5,y6,y7,y8⟩:=nine HK2.u
 go_wp2_with fail
 refine(q2s au qu (nf f.mu) f.mu.length auc quc W4 HF.u.u HS.u.u HS2.u.u).mono ?_
 rintro r W5 ⟨rfl,hb⟩
 replace HK:=mB HK hb;replace HK2:=mB HK2 hb;replace HS:=h_ (HS.u.mono hb);replace HS2:=h_ (HS2.u.mono hb);replace HB:=mT HB hb
 clear hb x0 x1 x2 x3 x4 x5 x6 x7 x8 y0 y1 y2 y3 y4 y5 y6 y7 y8
 obtain⟨x0,x1,x2,x3,x4,x5,x6,x7,x8⟩:=nine HK.u
 obtain⟨y0,y1,y2,y3,y4,y5,y6,y7,y8⟩:=nine HK2.u
 go_wp2_with fail
 go_ret
 exact⟨rfl,HB.u⟩
theorem q2r (a b:Option Addr)(l:List Fl)(AF BF:Nat->FA)(ca cb:Nat)(w:World)(hn:l.length<=1048576)(hs:∀x,x∈l->SmF x)(ha:Flds w a l AF)(hb:Flds w b l BF) :
 Calls Tryz.prog 28 #[.slice a l.length ca,.slice b l.length cb] w fun r w'=>r=.returned (.bool true)/\Below w.heap.size w w':=by
 have HA:=h_ ha;have HB0:=h_ hb;have HSm:=h_ hs
 clear ha hb hs
 go_enter Tryz.func28,Tryz.ntmps28
 go_wp2_with fail
 go_loopw [5] (fun i wr=>∃k:Nat,k<=l.length/\i=Ya k/\Below w.heap.size w wr) (fun i _=>l.length - (intOf i).toNat)
 case atStart=>exact⟨0,nZ _,rfl,bR _ _⟩
 case round =>
  obtain⟨k,hk,rfl,hB⟩:=hrel;have HB:=h_ hB;by_cases hlt:k<l.length
  . obtain⟨b1,o1,rfl,C1,S1⟩:=(HA.u.mono hB) k hlt
    obtain⟨b2,o2,rfl,C2,S2⟩:=(HB0.u.mono hB) k hlt;have HC:=h_ (fun W (hw:Below wr.heap.size wr W)=>q4f l[k] (AF k) (BF k) W (HSm.u _ (Ys hlt)) (S1.mono hw) (S2.mono hw));obtain⟨f,hu⟩:∃u,l[k]=u:=⟨_,rfl⟩;rw[hu]at C1 C2 HC;generalize AF k=fa at *;generalize BF k=fb at *;obtain⟨ab,abc,ai,aic,ah,ahc,av,avc,au,auc⟩:=fa;obtain⟨qb,qbc,qi,qic,qh,qhc,qv,qvc,qu,quc⟩:=fb;unfold fV at HC;dsimp only at HC;have HC1:=h_ C1;have HC2:=h_ C2;have k0:(0:Int)<=k:=(by omega);have k1:(k:Int)<l.length:=(by omega);clear hB hu C1 C2 S1 S2;go_wp2_with fail;refine wp_region_held_drew (S:=fun w'=>FCel w' b1 (o1+k*9) f ⟨ab,abc,ai,aic,ah,ahc,av,avc,au,auc⟩/\FCel w' b2 (o2+k*9) f ⟨qb,qbc,qi,qic,qh,qhc,qv,qvc,qu,quc⟩) (by kernel_rfl) ⟨HC1.u,HC2.u⟩ (fun zz=>?_);refine tj 0 17 (.slice (some ⟨b1,o1,none⟩) l.length ca) zz ?_;refine tj 1 18 (Ya k) zz ?_;refine tj 2 19 (.pointer (some ⟨b1,o1+k*9,none⟩)) zz ?_;refine tj 3 20 (.agg (Jd f ab abc ai aic ah ahc av avc au auc)) zz ?_ (hy:=fun w hS=>by obtain⟨⟨-,q0,q1,q2,q3,q4,q5,q6,q7,q8⟩,-⟩:=hS;simp[execOp,go_sem,q0,q1,q2,q3,q4,q5,q6,q7,q8]);simp only[sX,sY,sZ];refine tj 4 21 (.slice (some ⟨b2,o2,none⟩) l.length cb) zz ?_;refine tj 5 22 (Ya k) zz ?_;refine tj 6 23 (.pointer (some ⟨b2,o2+k*9,none⟩)) zz ?_;refine tj 7 24 (.agg (Jd f qb qbc qi qic qh qhc qv qvc qu quc)) zz ?_ (hy:=fun w hS=>by obtain⟨-,⟨-,q0,q1,q2,q3,q4,q5,q6,q7,q8⟩⟩:=hS;simp[execOp,go_sem,q0,q1,q2,q3,q4,q5,q6,q7,q8]);simp only[sX,sY,sZ];refine callY (i:=8) (f:=77) (args:=#[.agg (Jd f ab abc ai aic ah ahc av avc au auc),.agg (Jd f qb qbc qi qic qh qhc qv qvc qu quc)]) (R:=fun v wz=>v=.bool true/\Below wr.heap.size wr wz) 25 rfl rfl (by rfl) (by kernel_rfl) ?hrun1 ((HC.u _ (bR _ _).drew).mono fun e w6 ⟨he,hb⟩=>⟨_,he,rfl,q23 hb⟩) ?_
    case hrun1=>simp[execOp,go_sem]
    rintro v w6 ⟨rfl,hb6⟩;have HB6:=mT HB hb6;replace zz:FCel w6 b1 (o1+k*9) f ⟨ab,abc,ai,aic,ah,ahc,av,avc,au,auc⟩/\FCel w6 b2 (o2+k*9) f ⟨qb,qbc,qi,qic,qh,qhc,qv,qvc,qu,quc⟩:=⟨HC1.u.mono hb6,HC2.u.mono hb6⟩;clear hb6;refine⟨zz,?_⟩;simp only[sX,sY,sZ];refine tj 9 26 (.bool false) zz ?_;simp only[sX,sY,sZ];refine wpAnyH_done (by kernel_rfl) ?_ _;clear zz;go_wp2_with fail;go_roundw
    case rel=>exact⟨k+1,by omega,by go_num,HB6.u⟩
    case measure=>simp[intOf];omega
  . obtain rfl:k=l.length:=by omega
    have hlt':¬ (l.length:Int)<(l.length:Int):=(by omega);clear hB;go_wp2_with fail;go_ret;exact⟨rfl,HB.u⟩
structure Sm (m:Fm):Prop where
 l:m.L.length<=1048576
 p:m.P.length<=1048576
 r:m.R.length<=1048576
 f:m.F.length<=1048576
 s:∀x,x∈m.F->SmF x
theorem q6b (m:Fm)(A A2:MA)(w:World)(hf:Sm m)(ha:MSl w m A)(hb:MSl w m A2) :
 Calls Tryz.prog 6 #[mV m A,mV m A2] w fun r w'=>r=.returned (.bool true)/\Below w.heap.size w w':=by
 obtain⟨al,alc,ap,apc,ar,arc,af,afc,afa⟩:=A
 obtain⟨bl,blc,bp,bpc,br,brc,bf,bfc,bfa⟩:=A2
 unfold mV
 dsimp only
 have HK:=h_ ((Blk.new w 27 #[.slice al m.L.length alc,.slice ap m.P.length apc,.slice ar m.R.length arc,.slice af m.F.length afc]).alloc (.cells #[.slice bl m.L.length blc,.slice bp m.P.length bpc,.slice br m.R.length brc,.slice bf m.F.length bfc] 27))
 have HK2:=h_ (Blk.new (w.alloc (.cells #[.slice al m.L.length alc,.slice ap m.P.length apc,.slice ar m.R.length arc,.slice af m.F.length afc] 27)) 27 #[.slice bl m.L.length blc,.slice bp m.P.length bpc,.slice br m.R.length brc,.slice bf m.F.length bfc])
 rw[Yy]at HK2
 have HB:=h_ (((bR w.heap.size w).alloc (nR _) (.cells #[.slice al m.L.length alc,.slice ap m.P.length apc,.slice ar m.R.length arc,.slice af m.F.length afc] 27)).alloc (by simp) (.cells #[.slice bl m.L.length blc,.slice bp m.P.length bpc,.slice br m.R.length brc,.slice bf m.F.length bfc] 27))
 obtain⟨W0,hW0⟩:=Nq ((w.alloc (.cells #[.slice al m.L.length alc,.slice ap m.P.length apc,.slice ar m.R.length arc,.slice af m.F.length afc] 27)).alloc (.cells #[.slice bl m.L.length blc,.slice bp m.P.length bpc,.slice br m.R.length brc,.slice bf m.F.length bfc] 27))
 rw[hW0]at HK HK2 HB
 have HS:=h_ (ha.mono HB.u);have HS2:=h_ (hb.mono HB.u);have HF:=h_ hf
 clear ha hf hb
 obtain⟨x0,x1,x2,x3⟩:=quad HK.u
 obtain⟨y0,y1,y2,y3⟩:=quad HK2.u
 go_enter Tryz.func6,Tryz.ntmps6
 go_wp2_with fail
 try rw[hW0]
 refine(q1c al bl m.L alc blc W0 HF.u.l HS.u.l HS2.u.l).mono ?_
 rintro r W1 ⟨rfl,hb⟩
 replace HK:=mB HK hb;replace HK2:=mB HK2 hb;replace HS:=h_ (HS.u.mono hb);replace HS2:=h_ (HS2.u.mono hb);replace HB:=mT HB hb
 clear hW0 hb x0 x1 x2 x3 y0 y1 y2 y3
 obtain⟨x0,x1,x2,x3⟩:=quad HK.u
 obtain⟨y0,y1,y2,y3⟩:=quad HK2.u
 go_wp2_with fail
 refine(q2t ap bp m.P apc bpc W1 HF.u.p HS.u.p HS2.u.p).mono ?_
 rintro r W2 ⟨rfl,hb⟩
 replace HK:=mB HK hb;replace HK2:=mB HK2 hb;replace HS:=h_ (HS.u.mono hb);replace HS2:=h_ (HS2.u.mono hb);replace HB:=mT HB hb
 clear hb x0 x1 x2 x3 y0 y1 y2 y3
 obtain⟨x0,x1,x2,x3⟩:=quad HK.u
 obtain⟨y0,y1,y2,y3⟩:=quad HK2.u
 go_wp2_with fail
 refine(q2u ar br m.R arc brc W2 HF.u.r HS.u.r HS2.u.r).mono ?_
 rintro r W3 ⟨rfl,hb⟩
 replace HK:=mB HK hb;replace HK2:=mB HK2 hb;replace HS:=h_ (HS.u.mono hb);replace HS2:=h_ (HS2.u.mono hb);replace HB:=mT HB hb
 clear hb x0 x1 x2 x3 y0 y1 y2 y3
 obtain⟨x0,x1,x2,x3⟩:=quad HK.u
 obtain⟨y0,y1,y2,y3⟩:=quad HK2.u
 go_wp2_with fail
 refine(q2r af bf m.F afa bfa afc bfc W3 HF.u.f HF.u.s HS.u.f HS2.u.f).mono ?_
 rintro r W4 ⟨rfl,hb⟩
 replace HK:=mB HK hb;replace HK2:=mB HK2 hb;replace HS:=h_ (HS.u.mono hb);replace HS2:=h_ (HS2.u.mono hb);replace HB:=mT HB hb
 clear hb x0 x1 x2 x3 y0 y1 y2 y3
 obtain⟨x0,x1,x2,x3⟩:=quad HK.u
 obtain⟨y0,y1,y2,y3⟩:=quad HK2.u
 go_wp2_with fail
 go_ret
 exact⟨rfl,HB.u⟩
def SC (w:World)(g:Nat)(l:List Fl)(AF:Nat->FA):Prop:=∀j (h:j<l.length),w.cell? ⟨g,j*9+3,none⟩=some (.slice (AF j).b l[j].bys.length (AF j).bc)/\w.cell? ⟨g,j*9+4,none⟩=some (.slice (AF j).i l[j].is.length (AF j).ic)/\w.cell? ⟨g,j*9+5,none⟩=some (.slice (AF j).h l[j].wh.length (AF j).hc)/\w.cell? ⟨g,j*9+6,none⟩=some (.slice (AF j).v l[j].va.length (AF j).vc)/\w.cell? ⟨g,j*9+8,none⟩=some (.slice (AF j).u l[j].mu.length (AF j).uc)
theorem SC.keep {w w':World}{g:Nat}{l:List Fl}{AF:Nat->FA}(h:SC w g l AF)(hk:w'.heap[g]? = w.heap[g]?):SC w' g l AF:=fun j hj=>by
 obtain⟨h3,h4,h5,h6,h8⟩:=h j hj
 exact⟨(World.cell?_of_block (a:=⟨g,j*9+3,none⟩) hk).trans h3,(World.cell?_of_block (a:=⟨g,j*9+4,none⟩) hk).trans h4,(World.cell?_of_block (a:=⟨g,j*9+5,none⟩) hk).trans h5,(World.cell?_of_block (a:=⟨g,j*9+6,none⟩) hk).trans h6,(World.cell?_of_block (a:=⟨g,j*9+8,none⟩) hk).trans h8⟩
theorem SC.set {w:World}{g:Nat}{t:TypeId}{n:Nat}{l:List Fl}{AF:Nat->FA}(h:SC w g l AF)(hb:Bk w g t n){p:Nat}(hp:∀j,p≠j*9+3/\p≠j*9+4/\p≠j*9+5/\p≠j*9+6/\p≠j*9+8)(v:Value):SC (w.setCell ⟨g,p,none⟩ v) g l AF:=fun j hj=>by
 obtain⟨h3,h4,h5,h6,h8⟩:=h j hj
 obtain⟨n3,n4,n5,n6,n8⟩:=hp j
 exact⟨(hb.cell_ne n3 v).trans h3,(hb.cell_ne n4 v).trans h4,(hb.cell_ne n5 v).trans h5,(hb.cell_ne n6 v).trans h6,(hb.cell_ne n8 v).trans h8⟩
theorem sc_of {w:World}{g:Nat}{l:List Fl}{AF:Nat->FA}(h:Flds w (some ⟨g,0,none⟩) l AF):SC w g l AF:=fun j hj=>by
 obtain⟨b,o,e,⟨-,-,-,-,h3,h4,h5,h6,-,h8⟩,-⟩:=h j hj
 cases e
 simp only[Z3]at h3 h4 h5 h6 h8
 exact⟨h3,h4,h5,h6,h8⟩
end Go.Proofs.YtfmammdgehbjhaaGreatDoor
