import Derived.Test.YtebbgodlijlioaaGreatDoorW06
import Derived.Test.YtebbgodlijlioaaGreatDoorW05
set_option maxRecDepth 100000
set_option maxHeartbeats 64000000
namespace Go.Proofs.YtebbgodlijlioaaGreatDoor
open Go Go.RowKit
theorem getD0 {s:ByteArray}(h:0<s.size):s.data.getD 0 0=s[0]:=by
 rw[Array.getD_eq_getD_getElem?,Array.getElem?_eq_getElem (by simpa using h)];rfl
theorem qco (s:ByteArray):goodN s=(decide (1<=s.size/\s.size<=16)&&small (s.data.getD 0 0).toNat&&(s.data.toList.all fun c=>nameB c.toNat)&&!rsv s):=rfl
theorem q1u (s:ByteArray)(w:World)(hs:s.size<=9223372036854775807):Calls Tryz.prog 50 #[.string s] w fun e w'=>e=.returned (.bool (goodN s))/\w'=w:=by
 have hg:=qco s
 have hall:=qeg nameB s
 have hle:=qje nameB s 0
 by_cases h0:s.size=0
 . rw[show goodN s=false by rw[hg,Yi (by omega)];rfl]
   have h0':((s.size:Int)==0)=true:=by simp[h0]
   clear hg hall hle;go_enter Tryz.func50,Tryz.ntmps50;go_wp2_with fail;go_ret;exact⟨rfl,rfl⟩
 have h0':((s.size:Int)==0)=false:=Yf.2 (by omega)
 by_cases h16:16<s.size
 . rw[show goodN s=false by rw[hg,Yi (by omega)];rfl]
   clear hg hall hle;go_enter Tryz.func50,Tryz.ntmps50;go_wp2_with fail;go_ret;exact⟨rfl,rfl⟩
 have h1:0<s.size:=by omega
 rw[Ym (by omega),getD0 h1,Zc]at hg
 cases hsm:small (s[0]).toNat
 . rw[show goodN s=false by rw[hg,hsm];rfl]
   clear hg hall hle;go_enter Tryz.func50,Tryz.ntmps50;go_wp2_with (go_at_call 87;refine(q58 _ _).mono ?_;rintro e w' ⟨rfl,rfl⟩;rw[hsm]);go_ret;exact⟨rfl,rfl⟩
 rw[hsm,Zc]at hg
 obtain⟨r,hr⟩:=Nq (runN nameB s 0)
 rw[hr]at hall hle
 by_cases ha:r=s.size
 . rw[hall.1 ha,Zc]at hg
   have hq:((r:Int)==(s.size:Int))=true:=by simp[ha]
   cases hrs:rsv s
   all_goals
    rw[hrs]at hg;rw[hg];clear hg hall hle ha;go_enter Tryz.func50,Tryz.ntmps50;go_wp2_with (first | (go_at_call 87;refine(q58 _ _).mono ?_;rintro e w' ⟨rfl,rfl⟩;rw[hsm]) | (go_at_call 88;refine(q2k s 0 _ hs (nZ _)).mono ?_;rintro e w' ⟨rfl,rfl⟩;rw[hr]) | (go_at_call 89;refine(q1x _ _).mono ?_;rintro e w' ⟨rfl,rfl⟩;rw[hrs]));go_ret;exact⟨rfl,rfl⟩
 . have hall':(s.data.toList.all fun c=>nameB c.toNat)=false:=by
    cases e:(s.data.toList.all fun c=>nameB c.toNat)
    . rfl
    . exact absurd (hall.2 e) ha
   rw[hall',Bool.false_and]at hg;rw[hg];have hq:((r:Int)==(s.size:Int))=false:=Yf.2 (by omega);clear hg hall hle ha hall';go_enter Tryz.func50,Tryz.ntmps50;go_wp2_with (first | (go_at_call 87;refine(q58 _ _).mono ?_;rintro e w' ⟨rfl,rfl⟩;rw[hsm]) | (go_at_call 88;refine(q2k s 0 _ hs (nZ _)).mono ?_;rintro e w' ⟨rfl,rfl⟩;rw[hr]));go_ret;exact⟨rfl,rfl⟩
theorem q1l (s:ByteArray)(w:World)(hs:s.size<=9223372036854775807):Calls Tryz.prog 166 #[.string s] w fun e w'=>e=.returned (.bool (goodN s))/\w'=w:=by
 have hg:=qco s
 have e0:=empty0 s
 by_cases h0:s.size=0
 . rw[show goodN s=false by rw[hg,Yi (by omega)];rfl]
   rw[Ym h0]at e0;clear hg;go_enter Tryz.func166,Tryz.ntmps166;go_wp2_with fail;go_ret;exact⟨rfl,rfl⟩
 rw[Yi h0]at e0
 by_cases h16:16<s.size
 . rw[show goodN s=false by rw[hg,Yi (by omega)];rfl]
   clear hg;go_enter Tryz.func166,Tryz.ntmps166;go_wp2_with fail;go_ret;exact⟨rfl,rfl⟩
 have h1:0<s.size:=by omega
 rw[Ym (by omega),getD0 h1,Zc]at hg
 cases hsm:small (s[0]).toNat
 . rw[show goodN s=false by rw[hg,hsm];rfl]
   clear hg;go_enter Tryz.func166,Tryz.ntmps166;go_wp2_with (go_at_call 178;refine(q3h _ _).mono ?_;rintro e w' ⟨rfl,rfl⟩;rw[hsm]);go_ret;exact⟨rfl,rfl⟩
 rw[hsm,Zc]at hg
 cases hrs:rsv s
 case true =>
  rw[hrs,show(!true)=false from rfl,Ol]at hg;rw[hg];clear hg;go_enter Tryz.func166,Tryz.ntmps166;go_wp2_with (first | (go_at_call 178;refine(q3h _ _).mono ?_;rintro e w' ⟨rfl,rfl⟩;rw[hsm]) | (go_at_call 179;refine(q1o _ _).mono ?_;rintro e w' ⟨rfl,rfl⟩;rw[hrs]));go_ret;exact⟨rfl,rfl⟩
 rw[hrs,show(!false)=true from rfl,Bool.and_true]at hg
 rw[hg]
 have HG:Hi ((∀j (hj:j<s.size),nameB (s[j]).toNat=true)->(s.data.toList.all fun c=>nameB c.toNat)=true):=by
  refine h_ fun h=>?_;rw[Y4];intro c hc;obtain⟨j,hj,rfl⟩:=Y2.1 hc;exact h j (by simpa using hj)
 have HN:Hi (∀j (hj:j<s.size),nameB (s[j]).toNat=false->(s.data.toList.all fun c=>nameB c.toNat)=false):=by
  refine h_ fun j hj h=>?_;rw[Vc];exact⟨s[j],by simp[ByteArray.getElem_eq_getElem_data],by simp[h]⟩
 clear hg
 generalize (s.data.toList.all fun c=>nameB c.toNat)=A at *
 go_enter Tryz.func166,Tryz.ntmps166
 go_wp2_with (first | (go_at_call 178;refine(q3h _ _).mono ?_;rintro e w' ⟨rfl,hw⟩;replace hw:=hw.symm;subst hw;rw[hsm]) | (go_at_call 179;refine(q1o _ _).mono ?_;rintro e w' ⟨rfl,hw⟩;replace hw:=hw.symm;subst hw;rw[hrs]))
 go_loopw [23] (fun i wr=>∃k:Nat,k<=s.size/\i=J9 k/\(∀j (hj:j<s.size),j<k->nameB (s[j]).toNat=true)/\wr=w) (fun i _=>s.size - (intOf i).toNat)
 case atStart=>exact⟨0,nZ _,rfl,fun j _ hj=>absurd hj (nL _),rfl⟩
 case round =>
  obtain⟨k,hk,rfl,hall,rfl⟩:=hrel;have HA:=h_ hall;clear hall;by_cases hlt:k<s.size
  . cases ht:nameB (s[k]).toNat
    . go_wp2_with (go_at_call 180;refine(q1m _ _).mono ?_;rintro e w' ⟨rfl,rfl⟩;rw[ht])
      go_ret;exact⟨qe9 (HN.u k hlt ht).symm,rfl⟩
    . go_wp2_with (go_at_call 180;refine(q1m _ _).mono ?_;rintro e w' ⟨rfl,rfl⟩;rw[ht])
      go_roundw
      case rel=>exact⟨k+1,by omega,by go_num,fun j hj hjk=>by
       by_cases e:j=k
       . subst e;exact ht
       . exact HA.u j hj (by omega),trivial⟩
      case measure=>simp[intOf];omega
  . go_wp2_with fail
    go_ret;exact⟨qe9 (HG.u fun j hj=>HA.u j hj (by omega)).symm,rfl⟩
def nv (n:Nx):Value:=.agg #[.int .i64 n.op,.int .i64 n.v.k,.int .i64 n.v.n,.string n.v.s,.string n.nm]
def NCel (w:World)(b o:Nat)(n:Nx):Prop:=b<w.heap.size/\w.cell? ⟨b,o,none⟩=some (.int .i64 n.op)/\w.cell? ⟨b,o+1,none⟩=some (.int .i64 n.v.k)/\w.cell? ⟨b,o+2,none⟩=some (.int .i64 n.v.n)/\w.cell? ⟨b,o+3,none⟩=some (.string n.v.s)/\w.cell? ⟨b,o+4,none⟩=some (.string n.nm)
theorem NCel.mono {w w':World}{b o:Nat}{n:Nx}(h:NCel w b o n)(hb:Below w.heap.size w w'):NCel w' b o n :=
 ⟨Y7 h.1 hb.size,(hb.cell h.1).trans h.2.1,(hb.cell h.1).trans h.2.2.1,(hb.cell h.1).trans h.2.2.2.1,(hb.cell h.1).trans h.2.2.2.2.1,(hb.cell h.1).trans h.2.2.2.2.2⟩
def Nods (w:World)(a:Option Addr)(m:Nat)(e:Nat->Nx):Prop:=∀k,k<m->∃b o,a=some ⟨b,o,none⟩/\NCel w b (o+k*5) (e k)
theorem Nods.mono {w w':World}{a:Option Addr}{m:Nat}{e:Nat->Nx}(h:Nods w a m e)(hb:Below w.heap.size w w'):Nods w' a m e:=fun k hk=>by
 obtain⟨b,o,e,hc⟩:=h k hk
 exact⟨b,o,e,hc.mono hb⟩
def Fit (n:Nx):Prop:=n.v.s.size<=9223372036854775807/\n.nm.size<=9223372036854775807/\-9223372036854775808<=n.v.n/\n.v.n<=9223372036854775807
theorem five {w:World}{b:Nat}{t:TypeId}{v0 v1 v2 v3 v4:Value}(h:Blk w b t [v0,v1,v2,v3,v4]) :
 w.cell? ⟨b,0,none⟩=some v0/\w.cell? ⟨b,1,none⟩=some v1/\w.cell? ⟨b,2,none⟩=some v2/\w.cell? ⟨b,3,none⟩=some v3/\w.cell? ⟨b,4,none⟩=some v4:=⟨h.cell 0,h.cell 1,h.cell 2,h.cell 3,h.cell 4⟩
theorem ar_nn (op:Int):0<=ar op:=by
 unfold ar
 split
 . omega
 . split
   . omega
   . split <;> omega
theorem qc4 (n:Nx):((arn n:Nat):Int)=ar n.op:=by have:=ar_nn n.op;unfold arn;omega
theorem ops2 (op:Int):op=0∨op=1∨(¬ op=0/\¬ op=1):=by omega
theorem q10 (n:Nx)(w:World):Calls Tryz.prog 160 #[nv n] w fun e w'=>e=.returned (J9 (arn n))/\Below w.heap.size w w':=by
 rw[qc4]
 unfold nv
 have HB:=h_ ((bR w.heap.size w).alloc (nR _) (.cells (Jf n) 96))
 go_enter Tryz.func160,Tryz.ntmps160
 go_wp2_with fail
 refine(q50 _ _).mono ?_
 rintro e w' ⟨rfl,hw⟩
 replace hw:=hw.symm;subst hw
 go_wp2_with fail
 go_ret
 exact⟨rfl,HB.u⟩
theorem q16 (u:Vx)(w:World):Calls Tryz.prog 159 #[vv u] w fun e w'=>e=.returned (.bool (decide (u.k=0/\u.n=0/\u.s.size=0)))/\Below w.heap.size w w':=by
 unfold vv
 have HB:=h_ ((bR w.heap.size w).alloc (nR _) (.cells (J5 u.k u.n u.s) 94))
 have e0:=size0 u.s
 by_cases h1:u.k=0
 . by_cases h2:u.n=0
   . by_cases h3:u.s.size=0
     . rw[Ym h3]at e0
       rw[Ym ⟨h1,h2,h3⟩];have h1':(u.k==0)=true:=(by simp[h1]);have h2':(u.n==0)=true:=(by simp[h2]);clear h1 h2 h3;go_enter Tryz.func159,Tryz.ntmps159;go_wp2_with fail;go_ret;exact⟨rfl,HB.u⟩
     . rw[Yi h3]at e0
       rw[Yi (fun h=>h3 h.2.2)];have h1':(u.k==0)=true:=(by simp[h1]);have h2':(u.n==0)=true:=(by simp[h2]);clear h1 h2 h3;go_enter Tryz.func159,Tryz.ntmps159;go_wp2_with fail;go_ret;exact⟨rfl,HB.u⟩
   . rw[Yi (fun h=>h2 h.2.1)]
     have h1':(u.k==0)=true:=(by simp[h1]);have h2':(u.n==0)=false:=Yf.2 h2;clear h1 h2 e0;go_enter Tryz.func159,Tryz.ntmps159;go_wp2_with fail;go_ret;exact⟨rfl,HB.u⟩
 . rw[Yi (fun h=>h1 h.1)]
   have h1':(u.k==0)=false:=Yf.2 h1;clear h1 e0;go_enter Tryz.func159,Tryz.ntmps159;go_wp2_with fail;go_ret;exact⟨rfl,HB.u⟩
theorem qdn {k n:Int}{s:ByteArray}(h:okVal k n s=true)(h1:¬ k=1):0<=n:=by
 unfold okVal at h
 split at h
 . simp only[Yp,Yq]at h;omega
 split at h
 . simp only[Yp,Yq]at h;omega
 split at h
 . simp only[Yp,Yq]at h;omega
 split at h
 . simp only[Yp,Yq]at h;omega
 . cases h
theorem okNode0 {n:Nx}(h:n.op=0):okNode n=(decide (n.nm.size=0)&&okVal n.v.k n.v.n n.v.s&&decide (n.v.k≠4)&&decide (0<=n.v.n)):=by unfold okNode;rw[Yy h]
theorem okNode1 {n:Nx}(h:n.op=1):okNode n=(decide (n.v.k=0/\n.v.n=0/\n.v.s.size=0)&&goodN n.nm):=by unfold okNode;rw[Yu (by omega),Yy h]
theorem okNode2 {n:Nx}(h0:¬ n.op=0)(h1:¬ n.op=1):okNode n=(decide (2<=n.op/\n.op<=25)&&decide (n.v.k=0/\n.v.n=0/\n.v.s.size=0)&&decide (n.nm.size=0)):=by unfold okNode;rw[Yu h0,Yu h1]
theorem q1v (n:Nx)(w:World)(hf:Fit n):Calls Tryz.prog 126 #[nv n] w fun e w'=>e=.returned (.bool (okNode n))/\Below w.heap.size w w':=by
 obtain⟨hs,hm,-,-⟩:=hf
 unfold nv
 have H0:=h_ (Blk.new w 96 #[J9 n.op,J9 n.v.k,J9 n.v.n,.string n.v.s,.string n.nm])
 have HB:=h_ ((bR w.heap.size w).alloc (nR _) (.cells #[J9 n.op,J9 n.v.k,J9 n.v.n,.string n.v.s,.string n.nm] 96))
 have e0:=size0 n.nm
 rcases ops2 n.op with h | h | ⟨h,h'⟩
 . have ho:=okNode0 h
   rw[h]at H0 HB⊢;clear h;by_cases h0:n.nm.size=0
   . have e1:((n.nm.size:Int) != 0)=false:=by simp[h0]
     rw[Ym h0]at e0 ho;rw[Zc]at ho;go_enter Tryz.func126,Tryz.ntmps126;go_wp2_with fail;refine(q24 _ _ _ _ hs).mono ?_;rintro e w1 ⟨rfl,hb1⟩;replace H0:=mB H0 hb1;replace HB:=mT HB hb1;clear hb1;obtain⟨z0,z1,z2,z3,z4⟩:=five H0.u;cases hv:okVal n.v.k n.v.n n.v.s
     . rw[hv]at ho
       have HX:Hi (okNode n=false):=h_ ho;clear ho;go_wp2_with fail;go_ret;exact⟨qe9 HX.u.symm,HB.u⟩
     . rw[hv,Zc]at ho
       by_cases h4:n.v.k=4
       . have HX:Hi (okNode n=false):=h_ (by rw[ho,Yi (fun h=>h h4)];rfl);clear ho
         rw[h4]at z1 H0;clear h4;go_wp2_with fail;go_ret;exact⟨qe9 HX.u.symm,HB.u⟩
       . rw[Ym h4,Zc]at ho
         have h4':(n.v.k==4)=false:=Yf.2 h4;by_cases h1:n.v.k=1
         . rw[h1]at z1 H0 h4'
           have HX:=h_ ho;clear ho;clear h4 h1;go_wp2_with fail;go_ret;exact⟨qe9 (by rw[HX.u]),HB.u⟩
         . have h1':(n.v.k != 1)=true:=by simp[h1]
           have HX:Hi (okNode n=true):=h_ (by rw[ho,Ym (qdn hv h1)]);clear ho;clear h4 h1;go_wp2_with fail;go_ret;exact⟨qe9 HX.u.symm,HB.u⟩
   . have e1:((n.nm.size:Int) != 0)=true:=by simp[h0]
     rw[Yi h0]at e0 ho;have HX:Hi (okNode n=false):=h_ ho;clear ho;clear h0;go_enter Tryz.func126,Tryz.ntmps126;go_wp2_with fail;go_ret;exact⟨qe9 HX.u.symm,HB.u⟩
 . have ho:=okNode1 h
   rw[h]at H0 HB⊢;clear h;go_enter Tryz.func126,Tryz.ntmps126;go_wp2_with fail;refine(q16 n.v _).mono ?_;rintro e w1 ⟨rfl,hb1⟩;replace H0:=mB H0 hb1;replace HB:=mT HB hb1;clear hb1;obtain⟨z0,z1,z2,z3,z4⟩:=five H0.u;cases hz:decide (n.v.k=0/\n.v.n=0/\n.v.s.size=0)
   . rw[hz]at ho
     have HX:Hi (okNode n=false):=h_ ho;clear ho;clear hz;go_wp2_with fail;go_ret;exact⟨qe9 HX.u.symm,HB.u⟩
   . rw[hz,Zc]at ho
     have HX:=h_ ho;clear ho;clear hz;go_wp2_with fail;refine(q1u _ _ hm).mono ?_;rintro e w2 ⟨rfl,hw⟩;replace hw:=hw.symm;subst hw;cases hg:goodN n.nm
     all_goals
      rw[hg]at HX;go_wp2_with fail;go_ret;exact⟨qe9 HX.u.symm,HB.u⟩
 . have ho:=okNode2 h h'
   have h1:(n.op==0)=false:=Yf.2 h;have h2:(n.op==1)=false:=Yf.2 h';clear h h';by_cases hl:n.op<2
   . have HX:Hi (okNode n=false):=h_ (by rw[ho,Yi (by omega)];rfl);clear ho
     go_enter Tryz.func126,Tryz.ntmps126;go_wp2_with fail;go_ret;exact⟨qe9 HX.u.symm,HB.u⟩
   by_cases hh:25<n.op
   . have HX:Hi (okNode n=false):=h_ (by rw[ho,Yi (by omega)];rfl);clear ho
     go_enter Tryz.func126,Tryz.ntmps126;go_wp2_with fail;go_ret;exact⟨qe9 HX.u.symm,HB.u⟩
   rw[show decide (2<=n.op/\n.op<=25)=true by simp;omega,Zc]at ho;go_enter Tryz.func126,Tryz.ntmps126;go_wp2_with fail;refine(q16 n.v _).mono ?_;rintro e w1 ⟨rfl,hb1⟩;replace H0:=mB H0 hb1;replace HB:=mT HB hb1;clear hb1;obtain⟨z0,z1,z2,z3,z4⟩:=five H0.u;cases hz:decide (n.v.k=0/\n.v.n=0/\n.v.s.size=0)
   . rw[hz]at ho
     have HX:Hi (okNode n=false):=h_ ho;clear ho;clear hz;go_wp2_with fail;go_ret;exact⟨qe9 HX.u.symm,HB.u⟩
   . rw[hz,Zc]at ho
     have HX:=h_ ho;clear ho;clear hz;by_cases h0:n.nm.size=0
     . rw[Ym h0]at e0 HX
       clear h0;go_wp2_with fail;go_ret;exact⟨qe9 HX.u.symm,HB.u⟩
     . rw[Yi h0]at e0 HX
       clear h0;go_wp2_with fail;go_ret;exact⟨qe9 HX.u.symm,HB.u⟩
end Go.Proofs.YtebbgodlijlioaaGreatDoor
