import Derived.Test.YtfmammdgehbjhaaGreatDoorW01
set_option maxRecDepth 100000
set_option maxHeartbeats 64000000
namespace Go.Proofs.YtfmammdgehbjhaaGreatDoor
open Go Go.RowKit
def nv (n:Nx):Value:=.agg #[.int .i64 n.op,.int .i64 n.v.k,.int .i64 n.v.n,.string n.v.s,.string n.nm]
def NCel (w:World)(b o:Nat)(n:Nx):Prop:=b<w.heap.size/\w.cell? ⟨b,o,none⟩=some (.int .i64 n.op)/\w.cell? ⟨b,o+1,none⟩=some (.int .i64 n.v.k)/\w.cell? ⟨b,o+2,none⟩=some (.int .i64 n.v.n)/\w.cell? ⟨b,o+3,none⟩=some (.string n.v.s)/\w.cell? ⟨b,o+4,none⟩=some (.string n.nm)
theorem NCel.mono {w w':World}{b o:Nat}{n:Nx}(h:NCel w b o n)(hb:Below w.heap.size w w'):NCel w' b o n :=
 ⟨Y3 h.1 hb.size,(hb.cell h.1).trans h.2.1,(hb.cell h.1).trans h.2.2.1,(hb.cell h.1).trans h.2.2.2.1,(hb.cell h.1).trans h.2.2.2.2.1,(hb.cell h.1).trans h.2.2.2.2.2⟩
def Nods (w:World)(a:Option Addr)(m:Nat)(e:Nat->Nx):Prop:=∀k,k<m->∃b o,a=some ⟨b,o,none⟩/\NCel w b (o+k*5) (e k)
theorem Nods.mono {w w':World}{a:Option Addr}{m:Nat}{e:Nat->Nx}(h:Nods w a m e)(hb:Below w.heap.size w w'):Nods w' a m e:=fun k hk=>by
 obtain⟨b,o,e,hc⟩:=h k hk
 exact⟨b,o,e,hc.mono hb⟩
def Fit (n:Nx):Prop:=n.v.s.size<=9223372036854775807/\n.nm.size<=9223372036854775807/\-9223372036854775808<=n.v.n/\n.v.n<=9223372036854775807
theorem five {w:World}{b:Nat}{t:TypeId}{v0 v1 v2 v3 v4:Value}(h:Blk w b t [v0,v1,v2,v3,v4]) :
 w.cell? ⟨b,0,none⟩=some v0/\w.cell? ⟨b,1,none⟩=some v1/\w.cell? ⟨b,2,none⟩=some v2/\w.cell? ⟨b,3,none⟩=some v3/\w.cell? ⟨b,4,none⟩=some v4:=⟨h.cell 0,h.cell 1,h.cell 2,h.cell 3,h.cell 4⟩
theorem ar_nn (op:Int):0<=ar op:=by
 unfold ar
 split
 . omega
 . split
   . omega
   . split <;> omega
theorem qbd (n:Nx):((arn n:Nat):Int)=ar n.op:=by have:=ar_nn n.op;unfold arn;omega
theorem ops2 (op:Int):op=0∨op=1∨(¬ op=0/\¬ op=1):=by omega
theorem q0t (n:Nx)(w:World):Calls Tryz.prog 160 #[nv n] w fun e w'=>e=.returned (Ya (arn n))/\Below w.heap.size w w':=by
 rw[qbd]
 unfold nv
 have HB:=h_ ((bR w.heap.size w).alloc (nR _) (.cells (Jh n) 133))
 go_enter Tryz.func160,Tryz.ntmps160
 go_wp2_with fail
 refine(q4s _ _).mono ?_
 rintro e w' ⟨rfl,hw⟩
 replace hw:=hw.symm;subst hw
 go_wp2_with fail
 go_ret
 exact⟨rfl,HB.u⟩
theorem q0z (u:Vx)(w:World):Calls Tryz.prog 159 #[vv u] w fun e w'=>e=.returned (.bool (decide (u.k=0/\u.n=0/\u.s.size=0)))/\Below w.heap.size w w':=by
 unfold vv
 have HB:=h_ ((bR w.heap.size w).alloc (nR _) (.cells (Ju u.k u.n u.s) 131))
 have e0:=size0 u.s
 by_cases h1:u.k=0
 . by_cases h2:u.n=0
   . by_cases h3:u.s.size=0
     . rw[Yh h3]at e0
       rw[Yh ⟨h1,h2,h3⟩];have h1':(u.k==0)=true:=(by simp[h1]);have h2':(u.n==0)=true:=(by simp[h2]);clear h1 h2 h3;go_enter Tryz.func159,Tryz.ntmps159;go_wp2_with fail;go_ret;exact⟨rfl,HB.u⟩
     . rw[Yg h3]at e0
       rw[Yg (fun h=>h3 h.2.2)];have h1':(u.k==0)=true:=(by simp[h1]);have h2':(u.n==0)=true:=(by simp[h2]);clear h1 h2 h3;go_enter Tryz.func159,Tryz.ntmps159;go_wp2_with fail;go_ret;exact⟨rfl,HB.u⟩
   . rw[Yg (fun h=>h2 h.2.1)]
     have h1':(u.k==0)=true:=(by simp[h1]);have h2':(u.n==0)=false:=Ye.2 h2;clear h1 h2 e0;go_enter Tryz.func159,Tryz.ntmps159;go_wp2_with fail;go_ret;exact⟨rfl,HB.u⟩
 . rw[Yg (fun h=>h1 h.1)]
   have h1':(u.k==0)=false:=Ye.2 h1;clear h1 e0;go_enter Tryz.func159,Tryz.ntmps159;go_wp2_with fail;go_ret;exact⟨rfl,HB.u⟩
theorem qd4 {k n:Int}{s:ByteArray}(h:okVal k n s=true)(h1:¬ k=1):0<=n:=by
 unfold okVal at h
 split at h
 . simp only[Yo,Yj]at h;omega
 split at h
 . simp only[Yo,Yj]at h;omega
 split at h
 . simp only[Yo,Yj]at h;omega
 split at h
 . simp only[Yo,Yj]at h;omega
 . cases h
theorem okNode0 {n:Nx}(h:n.op=0):okNode n=(decide (n.nm.size=0)&&okVal n.v.k n.v.n n.v.s&&decide (n.v.k≠4)&&decide (0<=n.v.n)):=by unfold okNode;rw[Yn h]
theorem okNode1 {n:Nx}(h:n.op=1):okNode n=(decide (n.v.k=0/\n.v.n=0/\n.v.s.size=0)&&goodN n.nm):=by unfold okNode;rw[Yi (by omega),Yn h]
theorem okNode2 {n:Nx}(h0:¬ n.op=0)(h1:¬ n.op=1):okNode n=(decide (2<=n.op/\n.op<=25)&&decide (n.v.k=0/\n.v.n=0/\n.v.s.size=0)&&decide (n.nm.size=0)):=by unfold okNode;rw[Yi h0,Yi h1]
theorem q1t (n:Nx)(w:World)(hf:Fit n):Calls Tryz.prog 121 #[nv n] w fun e w'=>e=.returned (.bool (okNode n))/\Below w.heap.size w w':=by
 obtain⟨hs,hm,-,-⟩:=hf
 unfold nv
 have H0:=h_ (Blk.new w 133 #[Ya n.op,Ya n.v.k,Ya n.v.n,.string n.v.s,.string n.nm])
 have HB:=h_ ((bR w.heap.size w).alloc (nR _) (.cells #[Ya n.op,Ya n.v.k,Ya n.v.n,.string n.v.s,.string n.nm] 133))
 have e0:=size0 n.nm
 rcases ops2 n.op with h | h | ⟨h,h'⟩
 . have ho:=okNode0 h
   rw[h]at H0 HB⊢;clear h;by_cases h0:n.nm.size=0
   . have e1:((n.nm.size:Int) != 0)=false:=by simp[h0]
     rw[Yh h0]at e0 ho;rw[Zs]at ho;go_enter Tryz.func121,Tryz.ntmps121;go_wp2_with fail;refine(q22 _ _ _ _ hs).mono ?_;rintro e w1 ⟨rfl,hb1⟩;replace H0:=mB H0 hb1;replace HB:=mT HB hb1;clear hb1;obtain⟨z0,z1,z2,z3,z4⟩:=five H0.u;cases hv:okVal n.v.k n.v.n n.v.s
     . rw[hv]at ho
       have HX:Hi (okNode n=false):=h_ ho;clear ho;go_wp2_with fail;go_ret;exact⟨qdx HX.u.symm,HB.u⟩
     . rw[hv,Zs]at ho
       by_cases h4:n.v.k=4
       . have HX:Hi (okNode n=false):=h_ (by rw[ho,Yg (fun h=>h h4)];rfl);clear ho
         rw[h4]at z1 H0;clear h4;go_wp2_with fail;go_ret;exact⟨qdx HX.u.symm,HB.u⟩
       . rw[Yh h4,Zs]at ho
         have h4':(n.v.k==4)=false:=Ye.2 h4;by_cases h1:n.v.k=1
         . rw[h1]at z1 H0 h4'
           have HX:=h_ ho;clear ho;clear h4 h1;go_wp2_with fail;go_ret;exact⟨qdx (by rw[HX.u]),HB.u⟩
         . have h1':(n.v.k != 1)=true:=by simp[h1]
           have HX:Hi (okNode n=true):=h_ (by rw[ho,Yh (qd4 hv h1)]);clear ho;clear h4 h1;go_wp2_with fail;go_ret;exact⟨qdx HX.u.symm,HB.u⟩
   . have e1:((n.nm.size:Int) != 0)=true:=by simp[h0]
     rw[Yg h0]at e0 ho;have HX:Hi (okNode n=false):=h_ ho;clear ho;clear h0;go_enter Tryz.func121,Tryz.ntmps121;go_wp2_with fail;go_ret;exact⟨qdx HX.u.symm,HB.u⟩
 . have ho:=okNode1 h
   rw[h]at H0 HB⊢;clear h;go_enter Tryz.func121,Tryz.ntmps121;go_wp2_with fail;refine(q0z n.v _).mono ?_;rintro e w1 ⟨rfl,hb1⟩;replace H0:=mB H0 hb1;replace HB:=mT HB hb1;clear hb1;obtain⟨z0,z1,z2,z3,z4⟩:=five H0.u;cases hz:decide (n.v.k=0/\n.v.n=0/\n.v.s.size=0)
   . rw[hz]at ho
     have HX:Hi (okNode n=false):=h_ ho;clear ho;clear hz;go_wp2_with fail;go_ret;exact⟨qdx HX.u.symm,HB.u⟩
   . rw[hz,Zs]at ho
     have HX:=h_ ho;clear ho;clear hz;go_wp2_with fail;refine(q1s _ _ hm).mono ?_;rintro e w2 ⟨rfl,hw⟩;replace hw:=hw.symm;subst hw;cases hg:goodN n.nm
     all_goals
      rw[hg]at HX;go_wp2_with fail;go_ret;exact⟨qdx HX.u.symm,HB.u⟩
 . have ho:=okNode2 h h'
   have h1:(n.op==0)=false:=Ye.2 h;have h2:(n.op==1)=false:=Ye.2 h';clear h h';by_cases hl:n.op<2
   . have HX:Hi (okNode n=false):=h_ (by rw[ho,Yg (by omega)];rfl);clear ho
     go_enter Tryz.func121,Tryz.ntmps121;go_wp2_with fail;go_ret;exact⟨qdx HX.u.symm,HB.u⟩
   by_cases hh:25<n.op
   . have HX:Hi (okNode n=false):=h_ (by rw[ho,Yg (by omega)];rfl);clear ho
     go_enter Tryz.func121,Tryz.ntmps121;go_wp2_with fail;go_ret;exact⟨qdx HX.u.symm,HB.u⟩
   rw[show decide (2<=n.op/\n.op<=25)=true by simp;omega,Zs]at ho;go_enter Tryz.func121,Tryz.ntmps121;go_wp2_with fail;refine(q0z n.v _).mono ?_;rintro e w1 ⟨rfl,hb1⟩;replace H0:=mB H0 hb1;replace HB:=mT HB hb1;clear hb1;obtain⟨z0,z1,z2,z3,z4⟩:=five H0.u;cases hz:decide (n.v.k=0/\n.v.n=0/\n.v.s.size=0)
   . rw[hz]at ho
     have HX:Hi (okNode n=false):=h_ ho;clear ho;clear hz;go_wp2_with fail;go_ret;exact⟨qdx HX.u.symm,HB.u⟩
   . rw[hz,Zs]at ho
     have HX:=h_ ho;clear ho;clear hz;by_cases h0:n.nm.size=0
     . rw[Yh h0]at e0 HX
       clear h0;go_wp2_with fail;go_ret;exact⟨qdx HX.u.symm,HB.u⟩
     . rw[Yg h0]at e0 HX
       clear h0;go_wp2_with fail;go_ret;exact⟨qdx HX.u.symm,HB.u⟩
theorem qhd {op:Int}(h:¬ (2<=op/\op<=15)):lvl op=7:=by
 unfold lvl;rw[Yi (by omega),Yi (by omega),Yi (by omega),Yi (by omega),Yi (by omega),Yi (by omega)]
theorem q52 (op:Int)(w:World):Calls Tryz.prog 127 #[Ya op] w fun e w'=>e=.returned (Ya (lvl op))/\w'=w:=by
 by_cases h:2<=op/\op<=15
 . have h:op=2∨op=3∨op=4∨op=5∨op=6∨op=7∨op=8∨op=9∨op=10∨op=11∨op=12∨op=13∨op=14∨op=15:=by omega
   rcases h with rfl | rfl | rfl | rfl | rfl | rfl | rfl | rfl | rfl | rfl | rfl | rfl | rfl | rfl
   all_goals
    go_enter Tryz.func127,Tryz.ntmps127;go_wp2;go_ret;exact⟨rfl,rfl⟩
 . rw[qhd h]
   have n2:(op==2)=false:=Ye.2 (by omega);have n3:(op==3)=false:=Ye.2 (by omega);have n4:(op==4)=false:=Ye.2 (by omega);have n5:(op==5)=false:=Ye.2 (by omega);have n6:(op==6)=false:=Ye.2 (by omega);have n7:(op==7)=false:=Ye.2 (by omega);have n8:(op==8)=false:=Ye.2 (by omega);have n9:(op==9)=false:=Ye.2 (by omega);have n10:(op==10)=false:=Ye.2 (by omega);have n11:(op==11)=false:=Ye.2 (by omega);have n12:(op==12)=false:=Ye.2 (by omega);have n13:(op==13)=false:=Ye.2 (by omega);have n14:(op==14)=false:=Ye.2 (by omega);have n15:(op==15)=false:=Ye.2 (by omega);rcases (show op<2∨15<op by omega) with h' | h'
   all_goals
    clear h;go_enter Tryz.func127,Tryz.ntmps127;go_wp2;go_ret;exact⟨rfl,rfl⟩
theorem q59 (op:Int)(w:World):Calls Tryz.prog 189 #[Ya op] w fun e w'=>e=.returned (Ya (lvl op))/\w'=w:=by
 by_cases h:2<=op/\op<=15
 . have h:op=2∨op=3∨op=4∨op=5∨op=6∨op=7∨op=8∨op=9∨op=10∨op=11∨op=12∨op=13∨op=14∨op=15:=by omega
   rcases h with rfl | rfl | rfl | rfl | rfl | rfl | rfl | rfl | rfl | rfl | rfl | rfl | rfl | rfl
   all_goals
    go_enter Tryz.func189,Tryz.ntmps189;go_wp2;go_ret;exact⟨rfl,rfl⟩
 . rw[qhd h]
   have n2:(op==2)=false:=Ye.2 (by omega);have n3:(op==3)=false:=Ye.2 (by omega);have n4:(op==4)=false:=Ye.2 (by omega);have n5:(op==5)=false:=Ye.2 (by omega);have n6:(op==6)=false:=Ye.2 (by omega);have n7:(op==7)=false:=Ye.2 (by omega);have n8:(op==8)=false:=Ye.2 (by omega);have n9:(op==9)=false:=Ye.2 (by omega);have n10:(op==10)=false:=Ye.2 (by omega);have n11:(op==11)=false:=Ye.2 (by omega);have n12:(op==12)=false:=Ye.2 (by omega);have n13:(op==13)=false:=Ye.2 (by omega);have n14:(op==14)=false:=Ye.2 (by omega);have n15:(op==15)=false:=Ye.2 (by omega);rcases (show op<2∨15<op by omega) with h' | h'
   all_goals
    clear h;go_enter Tryz.func189,Tryz.ntmps189;go_wp2;go_ret;exact⟨rfl,rfl⟩
theorem q1r (op:Int)(w:World)(h0:16<=op)(h1:op<=25):Calls Tryz.prog 129 #[Ya op] w fun e w'=>e=.returned (.string (wrd op))/\w'=w:=by
 have h:op=16∨op=17∨op=18∨op=19∨op=20∨op=21∨op=22∨op=23∨op=24∨op=25:=by omega
 clear h0 h1
 rcases h with rfl | rfl | rfl | rfl | rfl | rfl | rfl | rfl | rfl | rfl
 all_goals
  go_enter Tryz.func129,Tryz.ntmps129;go_wp2;go_ret;exact⟨rfl,rfl⟩
theorem q74 (op:Int)(w:World)(h0:4<=op)(h1:op<=15):Calls Tryz.prog 130 #[Ya op] w fun e w'=>e=.returned (.string (wrd op))/\w'=w:=by
 have h:op=4∨op=5∨op=6∨op=7∨op=8∨op=9∨op=10∨op=11∨op=12∨op=13∨op=14∨op=15:=by omega
 clear h0 h1
 rcases h with rfl | rfl | rfl | rfl | rfl | rfl | rfl | rfl | rfl | rfl | rfl | rfl
 all_goals
  go_enter Tryz.func130,Tryz.ntmps130;go_wp2;go_ret;exact⟨rfl,rfl⟩
theorem qec {e:Nat->Nx}{i:Nat}:(stk e i).headD 0=i:=by
 cases i with
 | zero=>rfl
 | succ i=>rfl
theorem qj4 {e:Nat->Nx}{n:Nat}(h:1<=n):1<=(stk e n).length:=by
 obtain⟨k,rfl⟩:∃k,n=k+1:=⟨n - 1,by omega⟩
 simp[stk]
theorem q86 {e:Nat->Nx}{i need:Nat}{t:List Nat}(h1:1<=need)(h2:need<=(stk e (i+1)).length)(ho:arn (e i)<=(stk e i).length)(ht:t=(stk e (i+1)).drop need) :
 need - 1+arn (e i)<=(stk e i).length/\t=(stk e i).drop (need - 1+arn (e i)):=by
 obtain⟨n,rfl⟩:∃n,need=n+1:=⟨need - 1,by omega⟩
 simp only[stk,Yl,Vc]at h2
 simp only[stk,List.drop_succ_cons,Vv]at ht
 refine⟨by omega,?_⟩
 rw[ht,show n+1 - 1+arn (e i)=arn (e i)+n by omega]
theorem q57 (a:Option Addr)(m c:Nat)(e:Nat->Nx)(en:Nat)(w:World)(hm:m<=1000)(ha:Nods w a m e)(h1:1<=en)(h2:en<=m)(ho:stkOk e en) :
 Calls Tryz.prog 161 (J7 a m c en) w fun r w'=>r=.returned (Ya (beg e en))/\Below w.heap.size w w':=by
 have HA:=h_ ha;have HO:=h_ ho
 clear ha ho
 go_enter Tryz.func161,Tryz.ntmps161
 go_wp2_with fail
 go_loopw [5,6] (fun nd i wr=>∃(k need:Nat),nd=Ya need/\i=Ya k/\k<=en/\need<=(stk e k).length/\(stk e en).tail=(stk e k).drop need/\Below w.heap.size w wr) (fun _ i _=>(intOf i).toNat)
 case atStart=>exact⟨en,1,rfl,rfl,nR _,qj4 h1,by simp,bR _ _⟩
 case round =>
  obtain⟨k,need,rfl,rfl,hk,hn,ht,hb⟩:=hrel;have HB:=h_ hb;have HT:=h_ ht;have HN:=h_ hn;have HV:=h_ (HA.u.mono hb);have hl:=qj3 e k;clear hb ht hn;by_cases hz:need=0
  . subst hz
    have HR:Hi (beg e en=k):=h_ (by unfold beg;rw[HT.u,Z5,qec]);by_cases hk0:k=0
    . subst hk0
      go_wp2_with fail;go_ret;exact⟨qij (by rw[HR.u]),HB.u⟩
    . have hk1:(0:Int)<k:=by omega
      go_wp2_with fail;go_ret;exact⟨qij (by rw[HR.u]),HB.u⟩
  . obtain⟨i,rfl⟩:∃i,k=i+1:=⟨k - 1,by have:=HN.u;omega⟩
    have hst:=q86 (by omega) HN.u (HO.u i (by omega)) HT.u;have HST:=h_ hst;have har:=arn_le (e i);have hn1:need<=1000:=(by have:=HN.u;omega);have hk1:(0:Int)<((i+1:Nat):Int):=(by omega);have hn2:(0:Int)<need:=(by omega);have hw1:wrap64 (((i+1:Nat):Int) - 1)=(i:Int):=(by rw[q40 (by omega) (by omega)];omega);have hlt:(i:Int)<m:=(by omega);obtain⟨b,o,rfl,-,c0,c1,c2,c3,c4⟩:=HV.u i (by omega);clear hst;go_wp2_with fail;refine(q0t (e i) _).mono ?_;rintro r w1 ⟨rfl,hb⟩;replace HB:=mT HB hb;clear hb c0 c1 c2 c3 c4;go_wp2_with fail;go_roundw
    case rel=>exact⟨i,need - 1+arn (e i),by go_num,rfl,by omega,HST.u.1,HST.u.2,HB.u⟩
    case measure=>simp[intOf]
theorem d_le (e:Nat->Nx)(n:Nat):∀x,x∈pst e n->x.d<=n:=by
 induction n with
 | zero=>intro x hx;cases hx
 | succ n ih =>
  intro x hx;rcases Y9.1 hx with rfl | hx
  . have:∀a:List Ph,(∀y,y∈a->y.d<=n)->mx a<=n:=by
     intro a
     induction a with
     | nil=>intro _;exact nZ _
     | cons p r ih2=>intro h;have:=h p Zd;have:=ih2 fun y hy=>h y (Zp _ hy);simp only[mx];omega
    have:=this ((pst e n).take (arn (e n))).reverse fun y hy=>ih y (Zw (List.mem_reverse.1 hy));show mx _+1<=n+1;omega
  . have:=ih x (Vl hx);omega
theorem qjg (e:Nat->Nx){n:Nat}(h:1<=n):top e n∈pst e n:=by
 obtain⟨k,rfl⟩:∃k,n=k+1:=⟨n - 1,by omega⟩
 exact Zd
theorem top_d (e:Nat->Nx){n:Nat}(h:1<=n):(top e n).d<=n:=d_le e n _ (qjg e h)
theorem q7g (e:Nat->Nx)(n i:Nat):mx ((pst e n).take i)<=n:=by
 have:∀a:List Ph,(∀y,y∈a->y.d<=n)->mx a<=n:=by
  intro a
  induction a with
  | nil=>intro _;exact nZ _
  | cons p r ih2=>intro h;have:=h p Zd;have:=ih2 fun y hy=>h y (Zp _ hy);simp only[mx];omega
 exact this _ fun y hy=>d_le e n y (Zw hy)
theorem qid (e:Nat->Nx)(n i:Nat)(h:i<(stk e n).length):(pst e n)[i]'(by rw[qie];exact h)=top e (stk e n)[i]:=by
 have:=qif e n
 have h2:(pst e n)[i]? = ((stk e n).map (top e))[i]?:=by rw[<- this]
 rw[Vs,Yk h,Yk (by rw[qie];exact h)]at h2
 simpa using h2
theorem q3j (e:Nat->Nx)(n i:Nat)(h:i<(stk e n).length):mx ((pst e n).take (i+1))=max (mx ((pst e n).take i)) (top e (stk e n)[i]).d:=by
 rw[Yq (by rw[qie];exact h),q9r,qid e n i h]
 simp[mx]
theorem qfh (e:Nat->Nx)(n i:Nat)(h:i<(stk e n).length):beg e (stk e n)[i]=((stk e n).drop (i+1)).headD 0:=by
 unfold beg
 rw[(qfb e n i h).1,List.tail_drop]
theorem q6a (l:List Nat)(i:Nat)(h:i<l.length):(l.drop i).headD 0=l[i]:=by
 rw[Y8 h];rfl
theorem q50 (a:Option Addr)(m c:Nat)(e:Nat->Nx)(hm:m<=1000)(F:Nat):∀(en:Nat) (w:World),en<=F->Nods w a m e->1<=en->en<=m->stkOk e en ->
 Calls Tryz.prog 123 (J7 a m c en) w fun r w'=>r=.returned (Ya (top e en).d)/\Below w.heap.size w w':=by
 induction F with
 | zero=>intro en w h0 _ h1;omega
 | succ F ih =>
  intro en w hF ha h1 h2 ho;obtain⟨n,rfl⟩:∃n,en=n+1:=⟨en - 1,by omega⟩;have HA:=h_ ha;have HO:=h_ ho;have HI:=h_ ih;have hal:=ho n (by omega);have har:=arn_le (e n);have HD:Hi ((top e (n+1)).d=mx ((pst e n).take (arn (e n)))+1):=h_ (by rw[qev];show mx _+1=_;rw[q7f]);have hw0:wrap64 (((n+1:Nat):Int) - 1)=(n:Int):=by rw[q40 (by omega) (by omega)];omega
  have hnm:(n:Int)<m:=by omega
  clear ha ho ih;go_enter Tryz.func123,Tryz.ntmps123;go_wp2_with fail;go_loopw [5,6,7,8] (fun dp at_ i _ wr=>∃k:Nat,k<=arn (e n)/\dp=Ya (mx ((pst e n).take k))/\at_=Ya (((stk e n).drop k).headD 0)/\i=Ya k/\Below w.heap.size w wr) (fun _ _ i _ _=>arn (e n) - (intOf i).toNat)
  case atStart=>exact⟨0,nZ _,rfl,by rw[Z5,qec],rfl,bR _ _⟩
  case round =>
   obtain⟨k,hk,rfl,rfl,rfl,hb⟩:=hrel;have HB:=h_ hb;have HV:=h_ (HA.u.mono hb);clear hb;obtain⟨b,o,rfl,-,c0,c1,c2,c3,c4⟩:=HV.u n (by omega);go_wp2_with fail;refine(q0t (e n) _).mono ?_;rintro r w1 ⟨rfl,hb⟩;replace HB:=mT HB hb;replace HV:=h_ (HV.u.mono hb);clear hb c0 c1 c2 c3 c4;by_cases hlt:k<arn (e n)
   . have hlt':(k:Int)<(arn (e n):Int):=by omega
     have hkl:k<(stk e n).length:=(by omega);rw[q6a _ _ hkl];obtain⟨p,hp⟩:=Nq ((stk e n)[k]);have hae:=qfb e n k hkl;have HM:Hi (mx ((pst e n).take (k+1))=max (mx ((pst e n).take k)) (top e p).d):=h_ (by rw[q3j e n k hkl,hp]);have HG:Hi (beg e p=((stk e n).drop (k+1)).headD 0):=h_ (by rw[<- hp];exact qfh e n k hkl);rw[hp]at hae⊢;obtain⟨-,hp1,hpn⟩:=hae;have htd:=top_d e hp1;have hml:=q7g e n k;clear hp;go_wp2_with fail;refine(HI.u p _ (by omega) HV.u hp1 (by omega) (HO.u.le (by omega))).mono ?_;rintro r w2 ⟨rfl,hb⟩;replace HB:=mT HB hb;replace HV:=h_ (HV.u.mono hb);clear hb;obtain⟨d,hd⟩:=Nq ((top e p).d);obtain⟨q,hq⟩:=Nq (mx ((pst e n).take k));rw[hd,hq]at HM;rw[hd]at htd⊢;rw[hq]at hml⊢;clear hd hq;by_cases hgt:q<d
     . have hgt':(q:Int)<d:=by omega
       go_wp2_with fail;refine(q57 _ m c e p _ hm HV.u hp1 (by omega) (HO.u.le (by omega))).mono ?_;rintro r w3 ⟨rfl,hb⟩;replace HB:=mT HB hb;clear hb;go_wp2_with fail;go_roundw
       case rel=>first | exact⟨k+1,by omega,by rw[HM.u,Nat.max_eq_right (by omega)],by rw[HG.u],by go_num,HB.u⟩ | ((repeat apply Exists.intro);exact⟨⟨k+1,by omega,by rw[HM.u,Nat.max_eq_right (by omega)],by rw[HG.u],by go_num,HB.u⟩,rfl⟩)
       case measure=>simp[intOf];omega
     . have hgt':¬ (q:Int)<d:=by omega
       go_wp2_with fail;refine(q57 _ m c e p _ hm HV.u hp1 (by omega) (HO.u.le (by omega))).mono ?_;rintro r w3 ⟨rfl,hb⟩;replace HB:=mT HB hb;clear hb;go_wp2_with fail;go_roundw
       case rel=>first | exact⟨k+1,by omega,by rw[HM.u,Nat.max_eq_left (by omega)],by rw[HG.u],by go_num,HB.u⟩ | ((repeat apply Exists.intro);exact⟨⟨k+1,by omega,by rw[HM.u,Nat.max_eq_left (by omega)],by rw[HG.u],by go_num,HB.u⟩,rfl⟩)
       case measure=>simp[intOf];omega
   . obtain rfl:k=arn (e n):=by omega
     have hml:=q7g e n (arn (e n));have hlt':¬ ((arn (e n):Nat):Int)<(arn (e n):Int):=(by omega);go_wp2_with fail;go_ret;exact⟨qij (by rw[HD.u];omega),HB.u⟩
def ui (l:List Nat):List Value:=l.map fun u=>.int .i64 ((u:Nat):Int)
theorem q33 {w:World}{base:Nat}{e:TypeId}{v:Value}{n:Nat}{us:List Nat}(h:w.ownsRow base e 1 v n (ui us)) :
 ∃a cap,v=.slice a n cap/\Ints w a n (fun k=>((us.getD k 0:Nat):Int)):=by
 have hlen:us.length=n:=by have:=h.1;simpa [ui] using this
 rcases h.2 with ⟨rfl,rfl⟩ | ⟨g,cap,cur,rfl,hb,hg,hc,-,hs,htake⟩
 . exact⟨none,0,rfl,fun k hk=>absurd hk (nL _)⟩
 . refine⟨_,cap,rfl,fun k hk=>⟨g,0,rfl,(Zc.1 hg).1,?_⟩⟩
   have:=h.cellAt k (by omega);rw[Z3,this];simp[ui,List.getD,List.getElem?_eq_getElem (show k<us.length by omega)]
theorem q7t {P:Program}{f:FuncId}{args:Array Value}{w:World}{t n:Nat}{v:Value}(h:Calls P f args (w.drewN (t+n)) fun e w'=>e=.returned v/\w'=w.drewN (t+n)) :
 Calls P f args (w.drewN (t+n)) fun e w''=>e=.returned v/\∃m,w''=w.drewN (t+m):=h.mono fun _ _ ⟨he,hm⟩=>⟨he,n,hm⟩
theorem q7l {w:World}{base:Nat}{e:TypeId}{size:Nat}{v:Value}{n:Nat}{xs:List Value}(h:w.ownsRow base e size v n xs){q:Nat}(hq:v.ownBlock=some q):base<=q:=by
 rcases h.2 with ⟨rfl,-⟩ | ⟨g,cap,cur,rfl,hb,-⟩
 . simp[Value.ownBlock]at hq
 . simp only[Value.ownBlock,Zr]at hq;omega
theorem q9y (w:World)(t:TypeId):(w.alloc (.cells #[] t)).ownsRow w.heap.size t 1 (.slice (some ⟨w.heap.size,0,none⟩) 0 0) 0 [] :=
 ⟨rfl,.inr ⟨w.heap.size,0,#[],rfl,nR _,heap_alloc_new w (.cells #[] t),nR _,nZ _,rfl,rfl⟩⟩
theorem infoI:(Tryz.prog.info? 3).map (fun i=>(i.zero,i.size,i.bytes))=some (some (Ya 0),1,8):=by kernel_rfl
theorem qbm (w:World)(t:TypeId)(v:Value):∀(j:Nat) (u:Value),[v][j]? = some u->(w.alloc (.cells #[v] t)).cell? ((⟨w.heap.size,0,none⟩:Addr).add j)=some u:=fun j u h=>by
 match j,h with
 | 0,h=>simp at h;subst h;exact(Blk.new w t #[v]).cell 0
theorem qdj (w:World)(t:TypeId)(v:Value):(w.alloc (.cells #[v] t)).ownsRow w.heap.size t 1 (.slice (some ⟨w.heap.size,0,none⟩) 1 1) 1 [v] :=
 ⟨rfl,.inr ⟨w.heap.size,1,#[v],rfl,nR _,heap_alloc_new w (.cells #[v] t),nR _,by unfold maxLen;omega,rfl,rfl⟩⟩
def stB (e:Nat->Nx)(m:Nat):Bool:=((List.range m).all fun k=>decide (arn (e k)<=(stk e k).length))&&decide ((stk e m).length=1)
theorem qj1 (e:Nat->Nx)(m:Nat):stB e m=true ↔ stkOk e m/\(stk e m).length=1:=by
 unfold stB stkOk
 simp[List.all_eq_true]
theorem stB_no {e:Nat->Nx}{m k:Nat}(hk:k<m)(h:(stk e k).length<arn (e k)):stB e m=false:=by
 cases hb:stB e m
 . rfl
 . have:=((qj1 e m).1 hb).1 k hk;omega
theorem qj0 {e:Nat->Nx}{m:Nat}(h:stkOk e m):stB e m=decide ((stk e m).length=1):=by
 rw[Zj,qj1,Yj]
 exact⟨fun x=>x.2,fun x=>⟨h,x⟩⟩
theorem q56 (a:Option Addr)(m c:Nat)(e:Nat->Nx)(w:World)(hm:m<=1000)(ha:Nods w a m e) :
 Calls Tryz.prog 122 #[.slice a m c] w fun r w'=>r=.returned (.bool (stB e m))/\Below w.heap.size w w':=by
 have HA:=h_ ha
 clear ha
 go_enter Tryz.func122,Tryz.ntmps122
 go_wp2_with fail
 go_loopw [3,4,5] (fun hd i _ wr=>∃k:Nat,k<=m/\hd=Ya (stk e k).length/\i=Ya k/\stkOk e k/\Below w.heap.size w wr) (fun _ i _ _=>m - (intOf i).toNat)
 case atStart=>exact⟨0,nZ _,rfl,rfl,fun k hk=>absurd hk (nL _),bR _ _⟩
 case round =>
  obtain⟨k,hk,rfl,rfl,hok,hb⟩:=hrel;have HB:=h_ hb;have HK:=h_ hok;have HV:=h_ (HA.u.mono hb);have hl:=qj3 e k;clear hb hok;by_cases hlt:k<m
  . have hlt':(k:Int)<m:=by omega
    obtain⟨b,o,rfl,-,c0,c1,c2,c3,c4⟩:=HV.u k hlt;go_wp2_with fail;refine(q0t (e k) _).mono ?_;rintro r w1 ⟨rfl,hb⟩;replace HB:=mT HB hb;clear hb c0 c1 c2 c3 c4;have har:=arn_le (e k);have HS:Hi ((stk e (k+1)).length=(stk e k).length - arn (e k)+1):=h_ (by simp[stk]);obtain⟨x,hx⟩:=Nq (arn (e k));obtain⟨y,hy⟩:=Nq ((stk e k).length);by_cases hgt:y<x
    . have hgt':(y:Int)<x:=by omega
      have HN:Hi (stB e m=false):=h_ (stB_no hlt (by rw[hx,hy];exact hgt));rw[hx,hy];clear hx hy HS;go_wp2_with fail;go_ret;exact⟨qdx HN.u.symm,HB.u⟩
    . have hgt':¬ (y:Int)<x:=by omega
      have HN:Hi (stkOk e (k+1)):=h_ fun j hj=>by
       by_cases ej:j=k
       . subst ej;rw[hx,hy];omega
       . exact HK.u j (by omega)
      rw[hx,hy]at HS⊢;rw[hx]at har;rw[hy]at hl;clear hx hy;go_wp2_with fail;go_roundw
      case rel=>exact⟨k+1,by omega,by rw[HS.u];go_num,by go_num,HN.u,HB.u⟩
      case measure=>simp[intOf];omega
  . obtain rfl:k=m:=by omega
    have HN:=h_ (qj0 HK.u);obtain⟨y,hy⟩:=Nq ((stk e k).length);rw[hy]at HN⊢;clear hy hl;go_wp2_with fail;go_ret;exact⟨qdx (by rw[HN.u,Zj];simp;omega),HB.u⟩
theorem qax {e:Nat->Nx}{m:Nat}(h:∀k,k<m->(e k).v.s.size<=1000):∀k,k<=m->txtSum e k<=1001*k:=by
 intro k
 induction k with
 | zero=>intro _;exact nR _
 | succ k ih=>intro hk;have:=ih (by omega);have:=h k (by omega);simp only[txtSum];omega
theorem q0w (a:Option Addr)(m c:Nat)(e:Nat->Nx)(w:World)(hm:m<=1000)(ha:Nods w a m e)(hs:∀k,k<m->(e k).v.s.size<=1000) :
 Calls Tryz.prog 124 #[.slice a m c] w fun r w'=>r=.returned (Ya (txtSum e m))/\Below w.heap.size w w':=by
 have HA:=h_ ha;have HT:=h_ (qax hs);have HS:=h_ hs
 clear ha hs
 go_enter Tryz.func124,Tryz.ntmps124
 go_wp2_with fail
 go_loopw [3,4] (fun n i wr=>∃k:Nat,k<=m/\n=Ya (txtSum e k)/\i=Ya k/\Below w.heap.size w wr) (fun _ i _=>m - (intOf i).toNat)
 case atStart=>exact⟨0,nZ _,rfl,rfl,bR _ _⟩
 case round =>
  obtain⟨k,hk,rfl,rfl,hb⟩:=hrel;have HB:=h_ hb;have HV:=h_ (HA.u.mono hb);have ht:=HT.u k hk;clear hb;by_cases hlt:k<m
  . have hlt':(k:Int)<m:=by omega
    obtain⟨b,o,rfl,-,c0,c1,c2,c3,c4⟩:=HV.u k hlt;have hsk:=HS.u k hlt;have HE:Hi (txtSum e (k+1)=txtSum e k+1+(e k).v.s.size):=h_ rfl;obtain⟨y,hy⟩:=Nq (txtSum e k);rw[hy]at HE ht⊢;clear hy;go_wp2_with fail;go_roundw
    case rel=>exact⟨k+1,by omega,by rw[HE.u];go_num,by go_num,HB.u⟩
    case measure=>simp[intOf];omega
  . obtain rfl:k=m:=by omega
    go_wp2_with fail;go_ret;exact⟨rfl,HB.u⟩
def argsOf (e:Nat->Nx)(n:Nat):List Nat:=((stk e n).take (arn (e n))).reverse
theorem q5x {e:Nat->Nx}{n:Nat}(h:arn (e n)<=(stk e n).length):(argsOf e n).length=arn (e n):=by
 unfold argsOf;rw[Zm,Yu];omega
theorem q5z {e:Nat->Nx}{n p:Nat}(h:p∈argsOf e n):1<=p/\p<=n:=by
 unfold argsOf at h
 have h:=Zw (List.mem_reverse.1 h)
 obtain⟨i,hi,rfl⟩:=Zo.1 h
 exact(qfb e n i hi).2
theorem q5y (e:Nat->Nx)(n:Nat):(argsOf e n).map (top e)=((pst e n).take (arn (e n))).reverse:=by
 unfold argsOf;rw[List.map_reverse,List.map_take,<- qif]
theorem q70 (a:Option Addr)(m c:Nat)(e:Nat->Nx)(n:Nat)(w:World)(hm:m<=1000)(ha:Nods w a m e)(h2:n+1<=m)(ho:stkOk e (n+1)) :
 Calls Tryz.prog 126 (J7 a m c ((n+1:Nat):Int)) w fun r w'=>∃a0 c0,r=.returned (.slice a0 (arn (e n)) c0)/\Ints w' a0 (arn (e n)) (fun k=>(((argsOf e n).getD k 0:Nat):Int))/\Below w.heap.size w w':=by
 have HA:=h_ ha;have HO:=h_ ho
 have hal:=ho n (by omega)
 have har:=arn_le (e n)
 have hw0:wrap64 (((n+1:Nat):Int) - 1)=(n:Int):=by rw[q40 (by omega) (by omega)];omega
 have hnm:(n:Int)<m:=by omega
 have HB0:Hi (Below w.heap.size w (w.alloc (.cells #[] 3))):=h_ ((bR _ _).alloc (nR _) _)
 clear ha ho
 go_enter Tryz.func126,Tryz.ntmps126
 go_wp2_with fail
 go_loopw [5,6,7,8,9] (fun out at_ i _ _ wr=>∃(k:Nat) (a0:Option Addr) (c0:Nat),k<=arn (e n)/\out=.slice a0 k c0/\Ints wr a0 k (fun j=>(((((stk e n).take k).reverse).getD j 0:Nat):Int))/\at_=Ya (((stk e n).drop k).headD 0)/\i=Ya k/\Below w.heap.size w wr) (fun _ _ i _ _ _=>arn (e n) - (intOf i).toNat)
 case atStart=>exact⟨0,_,_,nZ _,rfl,fun j hj=>absurd hj (nL _),by rw[Z5,qec],rfl,HB0.u⟩
 case round =>
  obtain⟨k,a0,c0,hk,rfl,hI,rfl,rfl,hb⟩:=hrel;have HB:=h_ hb;have HI:=h_ hI;have HV:=h_ (HA.u.mono hb);clear hb hI HB0;obtain⟨b,o,rfl,-,z0,z1,z2,z3,z4⟩:=HV.u n (by omega);go_wp2_with fail;refine(q0t (e n) _).mono ?_;rintro r w1 ⟨rfl,hb⟩;replace HB:=mT HB hb;replace HV:=h_ (HV.u.mono hb);replace HI:=h_ (HI.u.mono hb);clear hb z0 z1 z2 z3 z4;by_cases hlt:k<arn (e n)
  . have hlt':(k:Int)<(arn (e n):Int):=by omega
    have hkl:k<(stk e n).length:=(by omega);rw[q6a _ _ hkl];obtain⟨p,hp⟩:=Nq ((stk e n)[k]);have hae:=qfb e n k hkl;have HG:Hi (beg e p=((stk e n).drop (k+1)).headD 0):=h_ (by rw[<- hp];exact qfh e n k hkl);have HL:Hi (((stk e n).take (k+1)).reverse=p :: ((stk e n).take k).reverse):=h_ (by rw[Yq hkl,List.reverse_append,hp];rfl);have hlen:(((stk e n).take k).reverse).length=k:=(by rw[Zm,Yu];omega);obtain⟨l,hl⟩:=Nq (((stk e n).take k).reverse);rw[hl]at HL HI hlen;rw[hp]at hae⊢;obtain⟨-,hp1,hpn⟩:=hae;clear hp hl;obtain⟨Wo,rfl⟩:∃Wo,Wo=w1:=⟨_,rfl⟩;have HN0:=h_ (qdj Wo 3 (Ya (p:Int)));have HB1:Hi (Below Wo.heap.size Wo (Wo.alloc (.cells #[Ya (p:Int)] 3))):=h_ ((bR _ _).alloc (nR _) _);go_wp2_with fail;go_loopw [8,9] (fun nx j w2=>∃q:Nat,q<=k/\j=Ya q/\w2.ownsRow Wo.heap.size 3 1 nx (q+1) (ui (p :: l.take q))/\Below Wo.heap.size Wo w2) (fun _ j _=>k - (intOf j).toNat)
    case atStart=>exact⟨0,nZ _,rfl,HN0.u,HB1.u⟩
    case round =>
     clear HN0 HB1;obtain⟨q,hq,rfl,hO,hb1⟩:=hrel;have HO1:=h_ hO;have HB1:=h_ hb1;have HI2:=h_ (HI.u.mono hb1);clear hO hb1;by_cases hlq:q<k
     . have hlq':(q:Int)<k:=by omega
       obtain⟨b1,o1,rfl,-,hc⟩:=HI2.u q hlq;have HX:Hi (l.take (q+1)=l.take q++[l.getD q 0]):=h_ (by rw[Yq (by omega),Y0,Yk (by omega)];rfl);obtain⟨y,hy⟩:=Nq (l.getD q 0);simp only[hy]at hc;rw[hy]at HX;clear hy;obtain⟨i0,hi,hz0,hz1,hz2⟩:=info_parts infoI;go_wp2_with (at_builtin;refine wpList_append_own _ rfl _ _ 50 rfl Wo.heap.size 3 i0 _ 1 8 Tryz.underlying50 hi hz0 hz1 hz2 rfl (by omega) _ _ _ rfl (HO1.u.alloc _) ⟨wr.heap.size,0,none⟩ 1 1 [Ya (y:Int)] rfl rfl (qbm wr 3 _) (by simp[Value.oneCell']) (by unfold maxLen;omega) (by omega) (by have:=HB1.u.size;simp;omega) ?_);intro v' w3 ho' hgr' _;have hB2:=(HB1.u.alloc HB1.u.size (.cells #[Ya (y:Int)] 3)).grown hgr' (by have:=HB1.u.size;simp;omega) (fun q' e=>q7l HO1.u e);have HO2:Hi (w3.ownsRow Wo.heap.size 3 1 v' (q+1+1) (ui (p :: l.take (q+1)))):=h_ (by rw[HX.u];simpa [ui] using ho');have HB2:=h_ hB2;clear ho' hgr' hB2 hi hz0 hz1 hz2 HO1 HB1 hc;go_wp2_with fail;go_roundw
       case rel=>exact⟨q+1,by omega,by go_num,HO2.u,HB2.u⟩
       case measure=>simp[intOf];omega
     . obtain rfl:q=k:=by omega
       have hI3:=HO1.u;rw[Za (by omega)]at hI3;obtain⟨a1,c1,rfl,hI4⟩:=q33 hI3;rw[<- HL.u]at hI4;have HI4:=h_ hI4;have HB2:=h_ (HB.u.trans (HB1.u.mono HB.u.size));have HV2:=h_ (HV.u.mono HB1.u);clear hI3 hI4 HO1 HB1 HI2;go_wp2_with fail;refine(q57 _ m c e p _ hm HV2.u hp1 (by omega) (HO.u.le (by omega))).mono ?_;rintro r w4 ⟨rfl,hb⟩;replace HB2:=mT HB2 hb;replace HI4:=h_ (HI4.u.mono hb);clear hb;go_wp2_with fail;go_roundw
       case rel=>first | exact⟨q+1,_,_,by omega,rfl,HI4.u,by rw[HG.u],by go_num,HB2.u⟩ | ((repeat apply Exists.intro);exact⟨⟨q+1,_,_,by omega,rfl,HI4.u,by rw[HG.u],by go_num,HB2.u⟩,rfl⟩)
       case measure=>simp[intOf];omega
  . obtain rfl:k=arn (e n):=by omega
    have hlt':¬ ((arn (e n):Nat):Int)<(arn (e n):Int):=(by omega);go_wp2_with fail;go_ret;exact⟨_,_,rfl,HI.u,HB.u⟩
end Go.Proofs.YtfmammdgehbjhaaGreatDoor
