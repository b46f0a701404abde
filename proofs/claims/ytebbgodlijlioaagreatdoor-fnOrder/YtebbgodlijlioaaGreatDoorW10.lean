import Derived.Test.YtebbgodlijlioaaGreatDoorW06
import Derived.Test.YtebbgodlijlioaaGreatDoorW07
set_option maxRecDepth 100000
set_option maxHeartbeats 64000000
namespace Go.Proofs.YtebbgodlijlioaaGreatDoor
open Go Go.RowKit
theorem getD0 {s:ByteArray}(h:0<s.size):s.data.getD 0 0=s[0]:=by
 rw[Array.getD_eq_getD_getElem?,Array.getElem?_eq_getElem (by simpa using h)];rfl
theorem qe5 (s:ByteArray):goodN s=(decide (1<=s.size/\s.size<=16)&&small (s.data.getD 0 0).toNat&&(s.data.toList.all fun c=>nameB c.toNat)&&!rsv s):=rfl
theorem q1q (s:ByteArray)(w:World)(hs:s.size<=9223372036854775807):Calls Tryz.prog 50 #[.string s] w fun e w'=>e=.returned (.bool (goodN s))/\w'=w:=by
 have hg:=qe5 s
 have hall:=qg9 nameB s
 have hle:=qlk nameB s 0
 by_cases h0:s.size=0
 . rw[show goodN s=false by rw[hg,Yj (by omega)];rfl]
   have h0':((s.size:Int)==0)=true:=by simp[h0]
   clear hg hall hle;go_enter Tryz.func50,Tryz.ntmps50;go_wp2_with fail;go_ret;exact⟨rfl,rfl⟩
 have h0':((s.size:Int)==0)=false:=Yf.2 (by omega)
 by_cases h16:16<s.size
 . rw[show goodN s=false by rw[hg,Yj (by omega)];rfl]
   clear hg hall hle;go_enter Tryz.func50,Tryz.ntmps50;go_wp2_with fail;go_ret;exact⟨rfl,rfl⟩
 have h1:0<s.size:=by omega
 rw[Ym (by omega),getD0 h1,Ze]at hg
 cases hsm:small (s[0]).toNat
 . rw[show goodN s=false by rw[hg,hsm];rfl]
   clear hg hall hle;go_enter Tryz.func50,Tryz.ntmps50;go_wp2_with (go_at_call 87;refine(q5f _ _).mono ?_;rintro e w' ⟨rfl,rfl⟩;rw[hsm]);go_ret;exact⟨rfl,rfl⟩
 rw[hsm,Ze]at hg
 obtain⟨r,hr⟩:=Nq (runN nameB s 0)
 rw[hr]at hall hle
 by_cases ha:r=s.size
 . rw[hall.1 ha,Ze]at hg
   have hq:((r:Int)==(s.size:Int))=true:=by simp[ha]
   cases hrs:rsv s
   all_goals
    rw[hrs]at hg;rw[hg];clear hg hall hle ha;go_enter Tryz.func50,Tryz.ntmps50;go_wp2_with (first | (go_at_call 87;refine(q5f _ _).mono ?_;rintro e w' ⟨rfl,rfl⟩;rw[hsm]) | (go_at_call 88;refine(q2i s 0 _ hs (nZ _)).mono ?_;rintro e w' ⟨rfl,rfl⟩;rw[hr]) | (go_at_call 89;refine(q1t _ _).mono ?_;rintro e w' ⟨rfl,rfl⟩;rw[hrs]));go_ret;exact⟨rfl,rfl⟩
 . have hall':(s.data.toList.all fun c=>nameB c.toNat)=false:=by
    cases e:(s.data.toList.all fun c=>nameB c.toNat)
    . rfl
    . exact absurd (hall.2 e) ha
   rw[hall',Bool.false_and]at hg;rw[hg];have hq:((r:Int)==(s.size:Int))=false:=Yf.2 (by omega);clear hg hall hle ha hall';go_enter Tryz.func50,Tryz.ntmps50;go_wp2_with (first | (go_at_call 87;refine(q5f _ _).mono ?_;rintro e w' ⟨rfl,rfl⟩;rw[hsm]) | (go_at_call 88;refine(q2i s 0 _ hs (nZ _)).mono ?_;rintro e w' ⟨rfl,rfl⟩;rw[hr]));go_ret;exact⟨rfl,rfl⟩
theorem q1h (s:ByteArray)(w:World)(hs:s.size<=9223372036854775807):Calls Tryz.prog 166 #[.string s] w fun e w'=>e=.returned (.bool (goodN s))/\w'=w:=by
 have hg:=qe5 s
 have e0:=empty0 s
 by_cases h0:s.size=0
 . rw[show goodN s=false by rw[hg,Yj (by omega)];rfl]
   rw[Ym h0]at e0;clear hg;go_enter Tryz.func166,Tryz.ntmps166;go_wp2_with fail;go_ret;exact⟨rfl,rfl⟩
 rw[Yj h0]at e0
 by_cases h16:16<s.size
 . rw[show goodN s=false by rw[hg,Yj (by omega)];rfl]
   clear hg;go_enter Tryz.func166,Tryz.ntmps166;go_wp2_with fail;go_ret;exact⟨rfl,rfl⟩
 have h1:0<s.size:=by omega
 rw[Ym (by omega),getD0 h1,Ze]at hg
 cases hsm:small (s[0]).toNat
 . rw[show goodN s=false by rw[hg,hsm];rfl]
   clear hg;go_enter Tryz.func166,Tryz.ntmps166;go_wp2_with (go_at_call 178;refine(q3j _ _).mono ?_;rintro e w' ⟨rfl,rfl⟩;rw[hsm]);go_ret;exact⟨rfl,rfl⟩
 rw[hsm,Ze]at hg
 cases hrs:rsv s
 case true =>
  rw[hrs,show(!true)=false from rfl,Oy]at hg;rw[hg];clear hg;go_enter Tryz.func166,Tryz.ntmps166;go_wp2_with (first | (go_at_call 178;refine(q3j _ _).mono ?_;rintro e w' ⟨rfl,rfl⟩;rw[hsm]) | (go_at_call 179;refine(q1k _ _).mono ?_;rintro e w' ⟨rfl,rfl⟩;rw[hrs]));go_ret;exact⟨rfl,rfl⟩
 rw[hrs,show(!false)=true from rfl,Bool.and_true]at hg
 rw[hg]
 have HG:Hi ((∀j (hj:j<s.size),nameB (s[j]).toNat=true)->(s.data.toList.all fun c=>nameB c.toNat)=true):=by
  refine h_ fun h=>?_;rw[Y2];intro c hc;obtain⟨j,hj,rfl⟩:=Yy.1 hc;exact h j (by simpa using hj)
 have HN:Hi (∀j (hj:j<s.size),nameB (s[j]).toNat=false->(s.data.toList.all fun c=>nameB c.toNat)=false):=by
  refine h_ fun j hj h=>?_;rw[Vh];exact⟨s[j],by simp[ByteArray.getElem_eq_getElem_data],by simp[h]⟩
 clear hg
 generalize (s.data.toList.all fun c=>nameB c.toNat)=A at *
 go_enter Tryz.func166,Tryz.ntmps166
 go_wp2_with (first | (go_at_call 178;refine(q3j _ _).mono ?_;rintro e w' ⟨rfl,hw⟩;replace hw:=hw.symm;subst hw;rw[hsm]) | (go_at_call 179;refine(q1k _ _).mono ?_;rintro e w' ⟨rfl,hw⟩;replace hw:=hw.symm;subst hw;rw[hrs]))
 go_loopw [23] (fun i wr=>∃k:Nat,k<=s.size/\i=J9 k/\(∀j (hj:j<s.size),j<k->nameB (s[j]).toNat=true)/\wr=w) (fun i _=>s.size - (intOf i).toNat)
 case atStart=>exact⟨0,nZ _,rfl,fun j _ hj=>absurd hj (nL _),rfl⟩
 case round =>
  obtain⟨k,hk,rfl,hall,rfl⟩:=hrel;have HA:=h_ hall;clear hall;by_cases hlt:k<s.size
  . cases ht:nameB (s[k]).toNat
    . go_wp2_with (go_at_call 180;refine(q1i _ _).mono ?_;rintro e w' ⟨rfl,rfl⟩;rw[ht])
      go_ret;exact⟨qg2 (HN.u k hlt ht).symm,rfl⟩
    . go_wp2_with (go_at_call 180;refine(q1i _ _).mono ?_;rintro e w' ⟨rfl,rfl⟩;rw[ht])
      go_roundw
      case rel=>exact⟨k+1,by omega,by go_num,fun j hj hjk=>by
       by_cases e:j=k
       . subst e;exact ht
       . exact HA.u j hj (by omega),trivial⟩
      case measure=>simp[intOf];omega
  . go_wp2_with fail
    go_ret;exact⟨qg2 (HG.u fun j hj=>HA.u j hj (by omega)).symm,rfl⟩
def nv (n:Nx):Value:=.agg #[.int .i64 n.op,.int .i64 n.v.k,.int .i64 n.v.n,.string n.v.s,.string n.nm]
def NCel (w:World)(b o:Nat)(n:Nx):Prop:=b<w.heap.size/\w.cell? ⟨b,o,none⟩=some (.int .i64 n.op)/\w.cell? ⟨b,o+1,none⟩=some (.int .i64 n.v.k)/\w.cell? ⟨b,o+2,none⟩=some (.int .i64 n.v.n)/\w.cell? ⟨b,o+3,none⟩=some (.string n.v.s)/\w.cell? ⟨b,o+4,none⟩=some (.string n.nm)
theorem NCel.mono {w w':World}{b o:Nat}{n:Nx}(h:NCel w b o n)(hb:Below w.heap.size w w'):NCel w' b o n :=
 ⟨Y5 h.1 hb.size,(hb.cell h.1).trans h.2.1,(hb.cell h.1).trans h.2.2.1,(hb.cell h.1).trans h.2.2.2.1,(hb.cell h.1).trans h.2.2.2.2.1,(hb.cell h.1).trans h.2.2.2.2.2⟩
def Nods (w:World)(a:Option Addr)(m:Nat)(e:Nat->Nx):Prop:=∀k,k<m->∃b o,a=some ⟨b,o,none⟩/\NCel w b (o+k*5) (e k)
theorem Nods.mono {w w':World}{a:Option Addr}{m:Nat}{e:Nat->Nx}(h:Nods w a m e)(hb:Below w.heap.size w w'):Nods w' a m e:=fun k hk=>by
 obtain⟨b,o,e,hc⟩:=h k hk
 exact⟨b,o,e,hc.mono hb⟩
def Fit (n:Nx):Prop:=n.v.s.size<=9223372036854775807/\n.nm.size<=9223372036854775807/\-9223372036854775808<=n.v.n/\n.v.n<=9223372036854775807
theorem five {w:World}{b:Nat}{t:TypeId}{v0 v1 v2 v3 v4:Value}(h:Blk w b t [v0,v1,v2,v3,v4]) :
 w.cell? ⟨b,0,none⟩=some v0/\w.cell? ⟨b,1,none⟩=some v1/\w.cell? ⟨b,2,none⟩=some v2/\w.cell? ⟨b,3,none⟩=some v3/\w.cell? ⟨b,4,none⟩=some v4:=⟨h.cell 0,h.cell 1,h.cell 2,h.cell 3,h.cell 4⟩
theorem ar_nn (op:Int):0<=ar op:=by
 unfold ar
 split
 . omega
 . split
   . omega
   . split <;> omega
theorem qdf (n:Nx):((arn n:Nat):Int)=ar n.op:=by have:=ar_nn n.op;unfold arn;omega
theorem ops2 (op:Int):op=0∨op=1∨(¬ op=0/\¬ op=1):=by omega
theorem q0y (n:Nx)(w:World):Calls Tryz.prog 160 #[nv n] w fun e w'=>e=.returned (J9 (arn n))/\Below w.heap.size w w':=by
 rw[qdf]
 unfold nv
 have HB:=h_ ((bR w.heap.size w).alloc (nR _) (.cells (Jd n) 96))
 go_enter Tryz.func160,Tryz.ntmps160
 go_wp2_with fail
 refine(q57 _ _).mono ?_
 rintro e w' ⟨rfl,hw⟩
 replace hw:=hw.symm;subst hw
 go_wp2_with fail
 go_ret
 exact⟨rfl,HB.u⟩
theorem q14 (u:Vx)(w:World):Calls Tryz.prog 159 #[vv u] w fun e w'=>e=.returned (.bool (decide (u.k=0/\u.n=0/\u.s.size=0)))/\Below w.heap.size w w':=by
 unfold vv
 have HB:=h_ ((bR w.heap.size w).alloc (nR _) (.cells (J5 u.k u.n u.s) 94))
 have e0:=size0 u.s
 by_cases h1:u.k=0
 . by_cases h2:u.n=0
   . by_cases h3:u.s.size=0
     . rw[Ym h3]at e0
       rw[Ym ⟨h1,h2,h3⟩];have h1':(u.k==0)=true:=(by simp[h1]);have h2':(u.n==0)=true:=(by simp[h2]);clear h1 h2 h3;go_enter Tryz.func159,Tryz.ntmps159;go_wp2_with fail;go_ret;exact⟨rfl,HB.u⟩
     . rw[Yj h3]at e0
       rw[Yj (fun h=>h3 h.2.2)];have h1':(u.k==0)=true:=(by simp[h1]);have h2':(u.n==0)=true:=(by simp[h2]);clear h1 h2 h3;go_enter Tryz.func159,Tryz.ntmps159;go_wp2_with fail;go_ret;exact⟨rfl,HB.u⟩
   . rw[Yj (fun h=>h2 h.2.1)]
     have h1':(u.k==0)=true:=(by simp[h1]);have h2':(u.n==0)=false:=Yf.2 h2;clear h1 h2 e0;go_enter Tryz.func159,Tryz.ntmps159;go_wp2_with fail;go_ret;exact⟨rfl,HB.u⟩
 . rw[Yj (fun h=>h1 h.1)]
   have h1':(u.k==0)=false:=Yf.2 h1;clear h1 e0;go_enter Tryz.func159,Tryz.ntmps159;go_wp2_with fail;go_ret;exact⟨rfl,HB.u⟩
theorem qfd {k n:Int}{s:ByteArray}(h:okVal k n s=true)(h1:¬ k=1):0<=n:=by
 unfold okVal at h
 split at h
 . simp only[Yn,Yp]at h;omega
 split at h
 . simp only[Yn,Yp]at h;omega
 split at h
 . simp only[Yn,Yp]at h;omega
 split at h
 . simp only[Yn,Yp]at h;omega
 . cases h
theorem okNode0 {n:Nx}(h:n.op=0):okNode n=(decide (n.nm.size=0)&&okVal n.v.k n.v.n n.v.s&&decide (n.v.k≠4)&&decide (0<=n.v.n)):=by unfold okNode;rw[Yz h]
theorem okNode1 {n:Nx}(h:n.op=1):okNode n=(decide (n.v.k=0/\n.v.n=0/\n.v.s.size=0)&&goodN n.nm):=by unfold okNode;rw[Yt (by omega),Yz h]
theorem okNode2 {n:Nx}(h0:¬ n.op=0)(h1:¬ n.op=1):okNode n=(decide (2<=n.op/\n.op<=25)&&decide (n.v.k=0/\n.v.n=0/\n.v.s.size=0)&&decide (n.nm.size=0)):=by unfold okNode;rw[Yt h0,Yt h1]
theorem q1r (n:Nx)(w:World)(hf:Fit n):Calls Tryz.prog 126 #[nv n] w fun e w'=>e=.returned (.bool (okNode n))/\Below w.heap.size w w':=by
 obtain⟨hs,hm,-,-⟩:=hf
 unfold nv
 have H0:=h_ (Blk.new w 96 #[J9 n.op,J9 n.v.k,J9 n.v.n,.string n.v.s,.string n.nm])
 have HB:=h_ ((bR w.heap.size w).alloc (nR _) (.cells #[J9 n.op,J9 n.v.k,J9 n.v.n,.string n.v.s,.string n.nm] 96))
 have e0:=size0 n.nm
 rcases ops2 n.op with h | h | ⟨h,h'⟩
 . have ho:=okNode0 h
   rw[h]at H0 HB⊢;clear h;by_cases h0:n.nm.size=0
   . have e1:((n.nm.size:Int) != 0)=false:=by simp[h0]
     rw[Ym h0]at e0 ho;rw[Ze]at ho;go_enter Tryz.func126,Tryz.ntmps126;go_wp2_with fail;refine(q21 _ _ _ _ hs).mono ?_;rintro e w1 ⟨rfl,hb1⟩;replace H0:=mB H0 hb1;replace HB:=mT HB hb1;clear hb1;obtain⟨z0,z1,z2,z3,z4⟩:=five H0.u;cases hv:okVal n.v.k n.v.n n.v.s
     . rw[hv]at ho
       have HX:Hi (okNode n=false):=h_ ho;clear ho;go_wp2_with fail;go_ret;exact⟨qg2 HX.u.symm,HB.u⟩
     . rw[hv,Ze]at ho
       by_cases h4:n.v.k=4
       . have HX:Hi (okNode n=false):=h_ (by rw[ho,Yj (fun h=>h h4)];rfl);clear ho
         rw[h4]at z1 H0;clear h4;go_wp2_with fail;go_ret;exact⟨qg2 HX.u.symm,HB.u⟩
       . rw[Ym h4,Ze]at ho
         have h4':(n.v.k==4)=false:=Yf.2 h4;by_cases h1:n.v.k=1
         . rw[h1]at z1 H0 h4'
           have HX:=h_ ho;clear ho;clear h4 h1;go_wp2_with fail;go_ret;exact⟨qg2 (by rw[HX.u]),HB.u⟩
         . have h1':(n.v.k != 1)=true:=by simp[h1]
           have HX:Hi (okNode n=true):=h_ (by rw[ho,Ym (qfd hv h1)]);clear ho;clear h4 h1;go_wp2_with fail;go_ret;exact⟨qg2 HX.u.symm,HB.u⟩
   . have e1:((n.nm.size:Int) != 0)=true:=by simp[h0]
     rw[Yj h0]at e0 ho;have HX:Hi (okNode n=false):=h_ ho;clear ho;clear h0;go_enter Tryz.func126,Tryz.ntmps126;go_wp2_with fail;go_ret;exact⟨qg2 HX.u.symm,HB.u⟩
 . have ho:=okNode1 h
   rw[h]at H0 HB⊢;clear h;go_enter Tryz.func126,Tryz.ntmps126;go_wp2_with fail;refine(q14 n.v _).mono ?_;rintro e w1 ⟨rfl,hb1⟩;replace H0:=mB H0 hb1;replace HB:=mT HB hb1;clear hb1;obtain⟨z0,z1,z2,z3,z4⟩:=five H0.u;cases hz:decide (n.v.k=0/\n.v.n=0/\n.v.s.size=0)
   . rw[hz]at ho
     have HX:Hi (okNode n=false):=h_ ho;clear ho;clear hz;go_wp2_with fail;go_ret;exact⟨qg2 HX.u.symm,HB.u⟩
   . rw[hz,Ze]at ho
     have HX:=h_ ho;clear ho;clear hz;go_wp2_with fail;refine(q1q _ _ hm).mono ?_;rintro e w2 ⟨rfl,hw⟩;replace hw:=hw.symm;subst hw;cases hg:goodN n.nm
     all_goals
      rw[hg]at HX;go_wp2_with fail;go_ret;exact⟨qg2 HX.u.symm,HB.u⟩
 . have ho:=okNode2 h h'
   have h1:(n.op==0)=false:=Yf.2 h;have h2:(n.op==1)=false:=Yf.2 h';clear h h';by_cases hl:n.op<2
   . have HX:Hi (okNode n=false):=h_ (by rw[ho,Yj (by omega)];rfl);clear ho
     go_enter Tryz.func126,Tryz.ntmps126;go_wp2_with fail;go_ret;exact⟨qg2 HX.u.symm,HB.u⟩
   by_cases hh:25<n.op
   . have HX:Hi (okNode n=false):=h_ (by rw[ho,Yj (by omega)];rfl);clear ho
     go_enter Tryz.func126,Tryz.ntmps126;go_wp2_with fail;go_ret;exact⟨qg2 HX.u.symm,HB.u⟩
   rw[show decide (2<=n.op/\n.op<=25)=true by simp;omega,Ze]at ho;go_enter Tryz.func126,Tryz.ntmps126;go_wp2_with fail;refine(q14 n.v _).mono ?_;rintro e w1 ⟨rfl,hb1⟩;replace H0:=mB H0 hb1;replace HB:=mT HB hb1;clear hb1;obtain⟨z0,z1,z2,z3,z4⟩:=five H0.u;cases hz:decide (n.v.k=0/\n.v.n=0/\n.v.s.size=0)
   . rw[hz]at ho
     have HX:Hi (okNode n=false):=h_ ho;clear ho;clear hz;go_wp2_with fail;go_ret;exact⟨qg2 HX.u.symm,HB.u⟩
   . rw[hz,Ze]at ho
     have HX:=h_ ho;clear ho;clear hz;by_cases h0:n.nm.size=0
     . rw[Ym h0]at e0 HX
       clear h0;go_wp2_with fail;go_ret;exact⟨qg2 HX.u.symm,HB.u⟩
     . rw[Yj h0]at e0 HX
       clear h0;go_wp2_with fail;go_ret;exact⟨qg2 HX.u.symm,HB.u⟩
theorem qgq {e:Nat->Nx}{i:Nat}:(stk e i).headD 0=i:=by
 cases i with
 | zero=>rfl
 | succ i=>rfl
theorem qlt {e:Nat->Nx}{n:Nat}(h:1<=n):1<=(stk e n).length:=by
 obtain⟨k,rfl⟩:∃k,n=k+1:=⟨n - 1,by omega⟩
 simp[stk]
theorem q92 {e:Nat->Nx}{i need:Nat}{t:List Nat}(h1:1<=need)(h2:need<=(stk e (i+1)).length)(ho:arn (e i)<=(stk e i).length)(ht:t=(stk e (i+1)).drop need) :
 need - 1+arn (e i)<=(stk e i).length/\t=(stk e i).drop (need - 1+arn (e i)):=by
 obtain⟨n,rfl⟩:∃n,need=n+1:=⟨need - 1,by omega⟩
 simp only[stk,Ys,O5]at h2
 simp only[stk,List.drop_succ_cons,List.drop_drop]at ht
 refine⟨by omega,?_⟩
 rw[ht,show n+1 - 1+arn (e i)=arn (e i)+n by omega]
theorem q5h (a:Option Addr)(m c:Nat)(e:Nat->Nx)(en:Nat)(w:World)(hm:m<=1000)(ha:Nods w a m e)(h1:1<=en)(h2:en<=m)(ho:stkOk e en) :
 Calls Tryz.prog 161 #[.slice a m c,J9 en] w fun r w'=>r=.returned (J9 (beg e en))/\Below w.heap.size w w':=by
 have HA:=h_ ha;have HO:=h_ ho
 clear ha ho
 go_enter Tryz.func161,Tryz.ntmps161
 go_wp2_with fail
 go_loopw [5,6] (fun nd i wr=>∃(k need:Nat),nd=J9 need/\i=J9 k/\k<=en/\need<=(stk e k).length/\(stk e en).tail=(stk e k).drop need/\Below w.heap.size w wr) (fun _ i _=>(intOf i).toNat)
 case atStart=>exact⟨en,1,rfl,rfl,nR _,qlt h1,by simp,bR _ _⟩
 case round =>
  obtain⟨k,need,rfl,rfl,hk,hn,ht,hb⟩:=hrel;have HB:=h_ hb;have HT:=h_ ht;have HN:=h_ hn;have HV:=h_ (HA.u.mono hb);have hl:=qls e k;clear hb ht hn;by_cases hz:need=0
  . subst hz
    have HR:Hi (beg e en=k):=h_ (by unfold beg;rw[HT.u,List.drop_zero,qgq]);by_cases hk0:k=0
    . subst hk0
      go_wp2_with fail;go_ret;exact⟨ql9 (by rw[HR.u]),HB.u⟩
    . have hk1:(0:Int)<k:=by omega
      go_wp2_with fail;go_ret;exact⟨ql9 (by rw[HR.u]),HB.u⟩
  . obtain⟨i,rfl⟩:∃i,k=i+1:=⟨k - 1,by have:=HN.u;omega⟩
    have hst:=q92 (by omega) HN.u (HO.u i (by omega)) HT.u;have HST:=h_ hst;have har:=arn_le (e i);have hn1:need<=1000:=(by have:=HN.u;omega);have hk1:(0:Int)<((i+1:Nat):Int):=(by omega);have hn2:(0:Int)<need:=(by omega);have hw1:wrap64 (((i+1:Nat):Int) - 1)=(i:Int):=(by rw[q4h (by omega) (by omega)];omega);have hlt:(i:Int)<m:=(by omega);obtain⟨b,o,rfl,-,c0,c1,c2,c3,c4⟩:=HV.u i (by omega);clear hst;go_wp2_with fail;refine(q0y (e i) _).mono ?_;rintro r w1 ⟨rfl,hb⟩;replace HB:=mT HB hb;clear hb c0 c1 c2 c3 c4;go_wp2_with fail;go_roundw
    case rel=>exact⟨i,need - 1+arn (e i),by go_num,rfl,by omega,HST.u.1,HST.u.2,HB.u⟩
    case measure=>simp[intOf]
theorem d_le (e:Nat->Nx)(n:Nat):∀x,x∈pst e n->x.d<=n:=by
 induction n with
 | zero=>intro x hx;cases hx
 | succ n ih =>
  intro x hx;rcases Zy.1 hx with rfl | hx
  . have:∀a:List Ph,(∀y,y∈a->y.d<=n)->mx a<=n:=by
     intro a
     induction a with
     | nil=>intro _;exact nZ _
     | cons p r ih2=>intro h;have:=h p Zd;have:=ih2 fun y hy=>h y (Zl _ hy);simp only[mx];omega
    have:=this ((pst e n).take (arn (e n))).reverse fun y hy=>ih y (Vo (Oj.1 hy));show mx _+1<=n+1;omega
  . have:=ih x (List.mem_of_mem_drop hx);omega
theorem qm2 (e:Nat->Nx){n:Nat}(h:1<=n):top e n∈pst e n:=by
 obtain⟨k,rfl⟩:∃k,n=k+1:=⟨n - 1,by omega⟩
 exact Zd
theorem top_d (e:Nat->Nx){n:Nat}(h:1<=n):(top e n).d<=n:=d_le e n _ (qm2 e h)
theorem q8i (e:Nat->Nx)(n i:Nat):mx ((pst e n).take i)<=n:=by
 have:∀a:List Ph,(∀y,y∈a->y.d<=n)->mx a<=n:=by
  intro a
  induction a with
  | nil=>intro _;exact nZ _
  | cons p r ih2=>intro h;have:=h p Zd;have:=ih2 fun y hy=>h y (Zl _ hy);simp only[mx];omega
 exact this _ fun y hy=>d_le e n y (Vo hy)
theorem ql0 (e:Nat->Nx)(n i:Nat)(h:i<(stk e n).length):(pst e n)[i]'(by rw[ql1];exact h)=top e (stk e n)[i]:=by
 have:=ql2 e n
 have h2:(pst e n)[i]? = ((stk e n).map (top e))[i]?:=by rw[<- this]
 rw[Zk,Yi h,Yi (by rw[ql1];exact h)]at h2
 simpa using h2
theorem q43 (e:Nat->Nx)(n i:Nat)(h:i<(stk e n).length):mx ((pst e n).take (i+1))=max (mx ((pst e n).take i)) (top e (stk e n)[i]).d:=by
 rw[Yq (by rw[ql1];exact h),qbj,ql0 e n i h]
 simp[mx]
theorem qhm (e:Nat->Nx)(n i:Nat)(h:i<(stk e n).length):beg e (stk e n)[i]=((stk e n).drop (i+1)).headD 0:=by
 unfold beg
 rw[(qhj e n i h).1,List.tail_drop]
theorem q74 (l:List Nat)(i:Nat)(h:i<l.length):(l.drop i).headD 0=l[i]:=by
 rw[Of h];rfl
theorem q5a (a:Option Addr)(m c:Nat)(e:Nat->Nx)(hm:m<=1000)(F:Nat):∀(en:Nat) (w:World),en<=F->Nods w a m e->1<=en->en<=m->stkOk e en ->
 Calls Tryz.prog 128 #[.slice a m c,J9 en] w fun r w'=>r=.returned (J9 (top e en).d)/\Below w.heap.size w w':=by
 induction F with
 | zero=>intro en w h0 _ h1;omega
 | succ F ih =>
  intro en w hF ha h1 h2 ho;obtain⟨n,rfl⟩:∃n,en=n+1:=⟨en - 1,by omega⟩;have HA:=h_ ha;have HO:=h_ ho;have HI:=h_ ih;have hal:=ho n (by omega);have har:=arn_le (e n);have HD:Hi ((top e (n+1)).d=mx ((pst e n).take (arn (e n)))+1):=h_ (by rw[qh0];show mx _+1=_;rw[q8h]);have hw0:wrap64 (((n+1:Nat):Int) - 1)=(n:Int):=by rw[q4h (by omega) (by omega)];omega
  have hnm:(n:Int)<m:=by omega
  clear ha ho ih;go_enter Tryz.func128,Tryz.ntmps128;go_wp2_with fail;go_loopw [5,6,7,8] (fun dp at_ i _ wr=>∃k:Nat,k<=arn (e n)/\dp=J9 (mx ((pst e n).take k))/\at_=J9 (((stk e n).drop k).headD 0)/\i=J9 k/\Below w.heap.size w wr) (fun _ _ i _ _=>arn (e n) - (intOf i).toNat)
  case atStart=>exact⟨0,nZ _,rfl,by rw[List.drop_zero,qgq],rfl,bR _ _⟩
  case round =>
   obtain⟨k,hk,rfl,rfl,rfl,hb⟩:=hrel;have HB:=h_ hb;have HV:=h_ (HA.u.mono hb);clear hb;obtain⟨b,o,rfl,-,c0,c1,c2,c3,c4⟩:=HV.u n (by omega);go_wp2_with fail;refine(q0y (e n) _).mono ?_;rintro r w1 ⟨rfl,hb⟩;replace HB:=mT HB hb;replace HV:=h_ (HV.u.mono hb);clear hb c0 c1 c2 c3 c4;by_cases hlt:k<arn (e n)
   . have hlt':(k:Int)<(arn (e n):Int):=by omega
     have hkl:k<(stk e n).length:=(by omega);rw[q74 _ _ hkl];obtain⟨p,hp⟩:=Nq ((stk e n)[k]);have hae:=qhj e n k hkl;have HM:Hi (mx ((pst e n).take (k+1))=max (mx ((pst e n).take k)) (top e p).d):=h_ (by rw[q43 e n k hkl,hp]);have HG:Hi (beg e p=((stk e n).drop (k+1)).headD 0):=h_ (by rw[<- hp];exact qhm e n k hkl);rw[hp]at hae⊢;obtain⟨-,hp1,hpn⟩:=hae;have htd:=top_d e hp1;have hml:=q8i e n k;clear hp;go_wp2_with fail;refine(HI.u p _ (by omega) HV.u hp1 (by omega) (HO.u.le (by omega))).mono ?_;rintro r w2 ⟨rfl,hb⟩;replace HB:=mT HB hb;replace HV:=h_ (HV.u.mono hb);clear hb;obtain⟨d,hd⟩:=Nq ((top e p).d);obtain⟨q,hq⟩:=Nq (mx ((pst e n).take k));rw[hd,hq]at HM;rw[hd]at htd⊢;rw[hq]at hml⊢;clear hd hq;by_cases hgt:q<d
     . have hgt':(q:Int)<d:=by omega
       go_wp2_with fail;refine(q5h _ m c e p _ hm HV.u hp1 (by omega) (HO.u.le (by omega))).mono ?_;rintro r w3 ⟨rfl,hb⟩;replace HB:=mT HB hb;clear hb;go_wp2_with fail;go_roundw
       case rel=>first | exact⟨k+1,by omega,by rw[HM.u,Nat.max_eq_right (by omega)],by rw[HG.u],by go_num,HB.u⟩ | ((repeat apply Exists.intro);exact⟨⟨k+1,by omega,by rw[HM.u,Nat.max_eq_right (by omega)],by rw[HG.u],by go_num,HB.u⟩,rfl⟩)
       case measure=>simp[intOf];omega
     . have hgt':¬ (q:Int)<d:=by omega
       go_wp2_with fail;refine(q5h _ m c e p _ hm HV.u hp1 (by omega) (HO.u.le (by omega))).mono ?_;rintro r w3 ⟨rfl,hb⟩;replace HB:=mT HB hb;clear hb;go_wp2_with fail;go_roundw
       case rel=>first | exact⟨k+1,by omega,by rw[HM.u,Nat.max_eq_left (by omega)],by rw[HG.u],by go_num,HB.u⟩ | ((repeat apply Exists.intro);exact⟨⟨k+1,by omega,by rw[HM.u,Nat.max_eq_left (by omega)],by rw[HG.u],by go_num,HB.u⟩,rfl⟩)
       case measure=>simp[intOf];omega
   . obtain rfl:k=arn (e n):=by omega
     have hml:=q8i e n (arn (e n));have hlt':¬ ((arn (e n):Nat):Int)<(arn (e n):Int):=(by omega);go_wp2_with fail;go_ret;exact⟨ql9 (by rw[HD.u];omega),HB.u⟩
def stB (e:Nat->Nx)(m:Nat):Bool:=((List.range m).all fun k=>decide (arn (e k)<=(stk e k).length))&&decide ((stk e m).length=1)
theorem qlr (e:Nat->Nx)(m:Nat):stB e m=true ↔ stkOk e m/\(stk e m).length=1:=by
 unfold stB stkOk
 simp[List.all_eq_true]
theorem stB_no {e:Nat->Nx}{m k:Nat}(hk:k<m)(h:(stk e k).length<arn (e k)):stB e m=false:=by
 cases hb:stB e m
 . rfl
 . have:=((qlr e m).1 hb).1 k hk;omega
theorem qlq {e:Nat->Nx}{m:Nat}(h:stkOk e m):stB e m=decide ((stk e m).length=1):=by
 rw[Zv,qlr,Yp]
 exact⟨fun x=>x.2,fun x=>⟨h,x⟩⟩
theorem q5g (a:Option Addr)(m c:Nat)(e:Nat->Nx)(w:World)(hm:m<=1000)(ha:Nods w a m e) :
 Calls Tryz.prog 127 #[.slice a m c] w fun r w'=>r=.returned (.bool (stB e m))/\Below w.heap.size w w':=by
 have HA:=h_ ha
 clear ha
 go_enter Tryz.func127,Tryz.ntmps127
 go_wp2_with fail
 go_loopw [3,4,5] (fun hd i _ wr=>∃k:Nat,k<=m/\hd=J9 (stk e k).length/\i=J9 k/\stkOk e k/\Below w.heap.size w wr) (fun _ i _ _=>m - (intOf i).toNat)
 case atStart=>exact⟨0,nZ _,rfl,rfl,fun k hk=>absurd hk (nL _),bR _ _⟩
 case round =>
  obtain⟨k,hk,rfl,rfl,hok,hb⟩:=hrel;have HB:=h_ hb;have HK:=h_ hok;have HV:=h_ (HA.u.mono hb);have hl:=qls e k;clear hb hok;by_cases hlt:k<m
  . have hlt':(k:Int)<m:=by omega
    obtain⟨b,o,rfl,-,c0,c1,c2,c3,c4⟩:=HV.u k hlt;go_wp2_with fail;refine(q0y (e k) _).mono ?_;rintro r w1 ⟨rfl,hb⟩;replace HB:=mT HB hb;clear hb c0 c1 c2 c3 c4;have har:=arn_le (e k);have HS:Hi ((stk e (k+1)).length=(stk e k).length - arn (e k)+1):=h_ (by simp[stk]);obtain⟨x,hx⟩:=Nq (arn (e k));obtain⟨y,hy⟩:=Nq ((stk e k).length);by_cases hgt:y<x
    . have hgt':(y:Int)<x:=by omega
      have HN:Hi (stB e m=false):=h_ (stB_no hlt (by rw[hx,hy];exact hgt));rw[hx,hy];clear hx hy HS;go_wp2_with fail;go_ret;exact⟨qg2 HN.u.symm,HB.u⟩
    . have hgt':¬ (y:Int)<x:=by omega
      have HN:Hi (stkOk e (k+1)):=h_ fun j hj=>by
       by_cases ej:j=k
       . subst ej;rw[hx,hy];omega
       . exact HK.u j (by omega)
      rw[hx,hy]at HS⊢;rw[hx]at har;rw[hy]at hl;clear hx hy;go_wp2_with fail;go_roundw
      case rel=>exact⟨k+1,by omega,by rw[HS.u];go_num,by go_num,HN.u,HB.u⟩
      case measure=>simp[intOf];omega
  . obtain rfl:k=m:=by omega
    have HN:=h_ (qlq HK.u);obtain⟨y,hy⟩:=Nq ((stk e k).length);rw[hy]at HN⊢;clear hy hl;go_wp2_with fail;go_ret;exact⟨qg2 (by rw[HN.u,Zv];simp;omega),HB.u⟩
theorem qcz {e:Nat->Nx}{m:Nat}(h:∀k,k<m->(e k).v.s.size<=1000):∀k,k<=m->txtSum e k<=1001*k:=by
 intro k
 induction k with
 | zero=>intro _;exact nR _
 | succ k ih=>intro hk;have:=ih (by omega);have:=h k (by omega);simp only[txtSum];omega
theorem q11 (a:Option Addr)(m c:Nat)(e:Nat->Nx)(w:World)(hm:m<=1000)(ha:Nods w a m e)(hs:∀k,k<m->(e k).v.s.size<=1000) :
 Calls Tryz.prog 129 #[.slice a m c] w fun r w'=>r=.returned (J9 (txtSum e m))/\Below w.heap.size w w':=by
 have HA:=h_ ha;have HT:=h_ (qcz hs);have HS:=h_ hs
 clear ha hs
 go_enter Tryz.func129,Tryz.ntmps129
 go_wp2_with fail
 go_loopw [3,4] (fun n i wr=>∃k:Nat,k<=m/\n=J9 (txtSum e k)/\i=J9 k/\Below w.heap.size w wr) (fun _ i _=>m - (intOf i).toNat)
 case atStart=>exact⟨0,nZ _,rfl,rfl,bR _ _⟩
 case round =>
  obtain⟨k,hk,rfl,rfl,hb⟩:=hrel;have HB:=h_ hb;have HV:=h_ (HA.u.mono hb);have ht:=HT.u k hk;clear hb;by_cases hlt:k<m
  . have hlt':(k:Int)<m:=by omega
    obtain⟨b,o,rfl,-,c0,c1,c2,c3,c4⟩:=HV.u k hlt;have hsk:=HS.u k hlt;have HE:Hi (txtSum e (k+1)=txtSum e k+1+(e k).v.s.size):=h_ rfl;obtain⟨y,hy⟩:=Nq (txtSum e k);rw[hy]at HE ht⊢;clear hy;go_wp2_with fail;go_roundw
    case rel=>exact⟨k+1,by omega,by rw[HE.u];go_num,by go_num,HB.u⟩
    case measure=>simp[intOf];omega
  . obtain rfl:k=m:=by omega
    go_wp2_with fail;go_ret;exact⟨rfl,HB.u⟩
def argsOf (e:Nat->Nx)(n:Nat):List Nat:=((stk e n).take (arn (e n))).reverse
theorem q6n {e:Nat->Nx}{n:Nat}(h:arn (e n)<=(stk e n).length):(argsOf e n).length=arn (e n):=by
 unfold argsOf;rw[Y8,Y6];omega
theorem q6p {e:Nat->Nx}{n p:Nat}(h:p∈argsOf e n):1<=p/\p<=n:=by
 unfold argsOf at h
 have h:=Vo (Oj.1 h)
 obtain⟨i,hi,rfl⟩:=Yy.1 h
 exact(qhj e n i hi).2
theorem q6o (e:Nat->Nx)(n:Nat):(argsOf e n).map (top e)=((pst e n).take (arn (e n))).reverse:=by
 unfold argsOf;rw[List.map_reverse,List.map_take,<- ql2]
theorem q7y (a:Option Addr)(m c:Nat)(e:Nat->Nx)(n:Nat)(w:World)(hm:m<=1000)(ha:Nods w a m e)(h2:n+1<=m)(ho:stkOk e (n+1)) :
 Calls Tryz.prog 131 #[.slice a m c,J9 ((n+1:Nat):Int)] w fun r w'=>∃a0 c0,r=.returned (.slice a0 (arn (e n)) c0)/\Ints w' a0 (arn (e n)) (fun k=>(((argsOf e n).getD k 0:Nat):Int))/\Below w.heap.size w w':=by
 have HA:=h_ ha;have HO:=h_ ho
 have hal:=ho n (by omega)
 have har:=arn_le (e n)
 have hw0:wrap64 (((n+1:Nat):Int) - 1)=(n:Int):=by rw[q4h (by omega) (by omega)];omega
 have hnm:(n:Int)<m:=by omega
 have HB0:Hi (Below w.heap.size w (w.alloc (.cells #[] 3))):=h_ ((bR _ _).alloc (nR _) _)
 clear ha ho
 go_enter Tryz.func131,Tryz.ntmps131
 go_wp2_with fail
 go_loopw [5,6,7,8,9] (fun out at_ i _ _ wr=>∃(k:Nat) (a0:Option Addr) (c0:Nat),k<=arn (e n)/\out=.slice a0 k c0/\Ints wr a0 k (fun j=>(((((stk e n).take k).reverse).getD j 0:Nat):Int))/\at_=J9 (((stk e n).drop k).headD 0)/\i=J9 k/\Below w.heap.size w wr) (fun _ _ i _ _ _=>arn (e n) - (intOf i).toNat)
 case atStart=>exact⟨0,_,_,nZ _,rfl,fun j hj=>absurd hj (nL _),by rw[List.drop_zero,qgq],rfl,HB0.u⟩
 case round =>
  obtain⟨k,a0,c0,hk,rfl,hI,rfl,rfl,hb⟩:=hrel;have HB:=h_ hb;have HI:=h_ hI;have HV:=h_ (HA.u.mono hb);clear hb hI HB0;obtain⟨b,o,rfl,-,z0,z1,z2,z3,z4⟩:=HV.u n (by omega);go_wp2_with fail;refine(q0y (e n) _).mono ?_;rintro r w1 ⟨rfl,hb⟩;replace HB:=mT HB hb;replace HV:=h_ (HV.u.mono hb);replace HI:=h_ (HI.u.mono hb);clear hb z0 z1 z2 z3 z4;by_cases hlt:k<arn (e n)
  . have hlt':(k:Int)<(arn (e n):Int):=by omega
    have hkl:k<(stk e n).length:=(by omega);rw[q74 _ _ hkl];obtain⟨p,hp⟩:=Nq ((stk e n)[k]);have hae:=qhj e n k hkl;have HG:Hi (beg e p=((stk e n).drop (k+1)).headD 0):=h_ (by rw[<- hp];exact qhm e n k hkl);have HL:Hi (((stk e n).take (k+1)).reverse=p :: ((stk e n).take k).reverse):=h_ (by rw[Yq hkl,List.reverse_append,hp];rfl);have hlen:(((stk e n).take k).reverse).length=k:=(by rw[Y8,Y6];omega);obtain⟨l,hl⟩:=Nq (((stk e n).take k).reverse);rw[hl]at HL HI hlen;rw[hp]at hae⊢;obtain⟨-,hp1,hpn⟩:=hae;clear hp hl;obtain⟨Wo,rfl⟩:∃Wo,Wo=w1:=⟨_,rfl⟩;have HN0:=h_ (qfn Wo 3 (J9 (p:Int)));have HB1:Hi (Below Wo.heap.size Wo (Wo.alloc (.cells #[J9 (p:Int)] 3))):=h_ ((bR _ _).alloc (nR _) _);go_wp2_with fail;go_loopw [8,9] (fun nx j w2=>∃q:Nat,q<=k/\j=J9 q/\w2.ownsRow Wo.heap.size 3 1 nx (q+1) (ui (p :: l.take q))/\Below Wo.heap.size Wo w2) (fun _ j _=>k - (intOf j).toNat)
    case atStart=>exact⟨0,nZ _,rfl,HN0.u,HB1.u⟩
    case round =>
     clear HN0 HB1;obtain⟨q,hq,rfl,hO,hb1⟩:=hrel;have HO1:=h_ hO;have HB1:=h_ hb1;have HI2:=h_ (HI.u.mono hb1);clear hO hb1;by_cases hlq:q<k
     . have hlq':(q:Int)<k:=by omega
       obtain⟨b1,o1,rfl,-,hc⟩:=HI2.u q hlq;have HX:Hi (l.take (q+1)=l.take q++[l.getD q 0]):=h_ (by rw[Yq (by omega),Yl,Yi (by omega)];rfl);obtain⟨y,hy⟩:=Nq (l.getD q 0);simp only[hy]at hc;rw[hy]at HX;clear hy;obtain⟨i0,hi,hz0,hz1,hz2⟩:=info_parts infoI;go_wp2_with (at_builtin;refine wpList_append_own _ rfl _ _ 30 rfl Wo.heap.size 3 i0 _ 1 8 Tryz.underlying30 hi hz0 hz1 hz2 rfl (by omega) _ _ _ rfl (HO1.u.alloc _) ⟨wr.heap.size,0,none⟩ 1 1 [J9 (y:Int)] rfl rfl (qdh wr 3 _) (by simp[Value.oneCell']) (by unfold maxLen;omega) (by omega) (by have:=HB1.u.size;simp;omega) ?_);intro v' w3 ho' hgr' _;have hB2:=(HB1.u.alloc HB1.u.size (.cells #[J9 (y:Int)] 3)).grown hgr' (by have:=HB1.u.size;simp;omega) (fun q' e=>q8q HO1.u e);have HO2:Hi (w3.ownsRow Wo.heap.size 3 1 v' (q+1+1) (ui (p :: l.take (q+1)))):=h_ (by rw[HX.u];simpa [ui] using ho');have HB2:=h_ hB2;clear ho' hgr' hB2 hi hz0 hz1 hz2 HO1 HB1 hc;go_wp2_with fail;go_roundw
       case rel=>exact⟨q+1,by omega,by go_num,HO2.u,HB2.u⟩
       case measure=>simp[intOf];omega
     . obtain rfl:q=k:=by omega
       have hI3:=HO1.u;rw[Y9 (by omega)]at hI3;obtain⟨a1,c1,rfl,hI4⟩:=q3h hI3;rw[<- HL.u]at hI4;have HI4:=h_ hI4;have HB2:=h_ (HB.u.trans (HB1.u.mono HB.u.size));have HV2:=h_ (HV.u.mono HB1.u);clear hI3 hI4 HO1 HB1 HI2;go_wp2_with fail;refine(q5h _ m c e p _ hm HV2.u hp1 (by omega) (HO.u.le (by omega))).mono ?_;rintro r w4 ⟨rfl,hb⟩;replace HB2:=mT HB2 hb;replace HI4:=h_ (HI4.u.mono hb);clear hb;go_wp2_with fail;go_roundw
       case rel=>first | exact⟨q+1,_,_,by omega,rfl,HI4.u,by rw[HG.u],by go_num,HB2.u⟩ | ((repeat apply Exists.intro);exact⟨⟨q+1,_,_,by omega,rfl,HI4.u,by rw[HG.u],by go_num,HB2.u⟩,rfl⟩)
       case measure=>simp[intOf];omega
  . obtain rfl:k=arn (e n):=by omega
    have hlt':¬ ((arn (e n):Nat):Int)<(arn (e n):Int):=(by omega);go_wp2_with fail;go_ret;exact⟨_,_,rfl,HI.u,HB.u⟩
theorem qji (l:List ByteArray)(x:ByteArray):jt (l++[x])=jt l++(⟨#[44,32]⟩++x):=by
 induction l with
 | nil=>show ⟨#[44,32]⟩++x++ByteArray.empty=ByteArray.empty++(⟨#[44,32]⟩++x);rw[ByteArray.append_empty,ByteArray.empty_append]
 | cons y r ih=>simp only[Zn,jt,ih,ByteArray.append_assoc]
theorem qjf (l:List ByteArray)(x:ByteArray)(h:l≠[]):jn (l++[x])=jn l++⟨#[44,32]⟩++x:=by
 cases l with
 | nil=>exact absurd rfl h
 | cons y r=>simp only[Zn,jn,qji,ByteArray.append_assoc]
structure PrOk (a:Option Addr)(m:Nat)(e:Nat->Nx)(n:Nat)(w:World):Prop where
 nods:Nods w a m e
 st:stkOk e n
 ok:okAll e n
 fit:∀k,k<n->Fit (e k)
theorem PrOk.mono {a:Option Addr}{m:Nat}{e:Nat->Nx}{n:Nat}{w w':World}(h:PrOk a m e n w)(hb:Below w.heap.size w w'):PrOk a m e n w':=⟨h.nods.mono hb,h.st,h.ok,h.fit⟩
theorem PrOk.le {a:Option Addr}{m:Nat}{e:Nat->Nx}{n k:Nat}{w:World}(h:PrOk a m e n w)(hk:k<=n):PrOk a m e k w:=⟨h.nods,h.st.le hk,h.ok.le hk,fun j hj=>h.fit j (by omega)⟩
theorem PrOk.tot {a:Option Addr}{m:Nat}{e:Nat->Nx}{n:Nat}{w:World}(h:PrOk a m e n w):tot (pst e n)<=1100*n:=(qm4 e n h.st h.ok (fun k hk=>(h.fit k hk).2.2.2)).2
theorem PrOk.top {a:Option Addr}{m:Nat}{e:Nat->Nx}{n:Nat}{w:World}(h:PrOk a m e n w)(hn:1<=n):(top e n).t.size<=1100*n:=Yv (qm3 (qm2 e hn)) h.tot
def Prints (a:Option Addr)(m c:Nat)(e:Nat->Nx)(en:Nat):Prop:=∀w:World,PrOk a m e en w ->
 Calls Tryz.prog 93 #[.slice a m c,J9 en] w fun r w'=>r=.returned (.string (top e en).t)/\Below w.heap.size w w'
theorem qb9 (a:Option Addr)(m c:Nat)(e:Nat->Nx)(n:Nat)(l:Int)(w:World)(hm:m<=1000)(hn:n+1<=m)(hp:Prints a m c e (n+1))(h:PrOk a m e (n+1) w) :
 Calls Tryz.prog 133 #[.slice a m c,J9 ((n+1:Nat):Int),J9 l] w fun r w'=>r=.returned (.string (wrap l (top e (n+1))))/\Below w.heap.size w w':=by
 have hw0:wrap64 (((n+1:Nat):Int) - 1)=(n:Int):=by rw[q4h (by omega) (by omega)];omega
 have hnm:(n:Int)<m:=by omega
 have hsz:=h.top (by omega)
 have HO:=h_ h
 have HW:Hi (wrap l (top e (n+1))=if lvl (e n).op<l then ⟨#[40]⟩++(top e (n+1)).t++⟨#[41]⟩ else (top e (n+1)).t):=h_ rfl
 clear h
 go_enter Tryz.func133,Tryz.ntmps133
 go_wp2_with fail
 refine(hp _ HO.u).mono ?_
 rintro r w1 ⟨rfl,hb⟩
 have HB:=h_ hb
 replace HO:=h_ (HO.u.mono hb)
 clear hb
 obtain⟨b,o,rfl,-,z0,z1,z2,z3,z4⟩:=HO.u.nods n (by omega)
 generalize (top e (n+1)).t=t at *
 go_wp2_with fail
 refine(q5d _ _).mono ?_
 rintro r w2 ⟨rfl,hw⟩
 replace hw:=hw.symm;subst hw
 generalize lvl (e n).op=q at *
 clear z0 z1 z2 z3 z4
 by_cases hq:q<l
 . go_wp2_with fail
   go_ret;exact⟨qla (by rw[HW.u,Yz hq]),HB.u⟩
 . go_wp2_with fail
   go_ret;exact⟨qla (by rw[HW.u,Yt (by omega)]),HB.u⟩
end Go.Proofs.YtebbgodlijlioaaGreatDoor
