import Derived.Test.YtebbgodlijlioaaGreatDoorW15
import Derived.Test.YtebbgodlijlioaaGreatDoorW12
import Derived.Deep.DeepCutAuto
import Derived.Deep.MidRow
set_option maxRecDepth 100000
set_option maxHeartbeats 64000000
namespace Go.Proofs.YtebbgodlijlioaaGreatDoor
open Go Go.RowKit
variable (K:Int->List ByteArray)
def GOp (kind:Int)(a b:Nat)(op arg:Int):Prop :=
 (a=14/\op=16/\arg=kind)∨(a=13/\op=19/\arg=kind) ∨
 (kind=1/\a<8/\op=4+(b:Int) % 5/\arg=1)∨(kind=1/\(8<=a/\a<10)/\op=2/\arg=1)∨(kind=1/\(10<=a/\a<12)/\op=17+(b:Int) % 2/\arg=1)∨(kind=1/\a=12/\op=21+(b:Int) % 2/\arg=3) ∨
 (kind=2/\(a<8/\b<48)/\op=10+(b:Int) % 4/\arg=1)∨(kind=2/\(a<8/\48<=b)/\op=10+(b:Int) % 4/\arg=3)∨(kind=2/\(8<=a/\a<10)/\op=14+(b:Int) % 2/\arg=2) ∨
 (kind=2/\a=10/\op=3/\arg=2)∨(kind=2/\a=11/\op=20/\arg=3)∨(kind=2/\a=12/\op=24+(b:Int) % 2/\arg=(b:Int) % 3+1) ∨
 (kind=3/\a<9/\op=9/\arg=3)∨(kind=3/\(9<=a/\a<13)/\op=23/\arg=(b:Int) % 3+1)
theorem gop_ex {kind:Int}{a b:Nat}(hk:kind=1∨kind=2∨kind=3)(ha:a<15):∃op arg,GOp kind a b op arg:=by
 by_cases h14:a=14
 . exact⟨_,_,.inl ⟨h14,rfl,rfl⟩⟩
 by_cases h13:a=13
 . exact⟨_,_,.inr (.inl ⟨h13,rfl,rfl⟩)⟩
 rcases hk with rfl | rfl | rfl
 . by_cases h8:a<8
   . exact⟨_,_,.inr (.inr (.inl ⟨rfl,h8,rfl,rfl⟩))⟩
   by_cases h10:a<10
   . exact⟨_,_,.inr (.inr (.inr (.inl ⟨rfl,by omega,rfl,rfl⟩)))⟩
   by_cases h12:a<12
   . exact⟨_,_,.inr (.inr (.inr (.inr (.inl ⟨rfl,by omega,rfl,rfl⟩))))⟩
   . exact⟨_,_,.inr (.inr (.inr (.inr (.inr (.inl ⟨rfl,by omega,rfl,rfl⟩)))))⟩
 . by_cases h8:a<8
   . by_cases hb:b<48
     . exact⟨_,_,.inr (.inr (.inr (.inr (.inr (.inr (.inl ⟨rfl,by omega,rfl,rfl⟩))))))⟩
     . exact⟨_,_,.inr (.inr (.inr (.inr (.inr (.inr (.inr (.inl ⟨rfl,by omega,rfl,rfl⟩)))))))⟩
   by_cases h10:a<10
   . exact⟨_,_,.inr (.inr (.inr (.inr (.inr (.inr (.inr (.inr (.inl ⟨rfl,by omega,rfl,rfl⟩))))))))⟩
   by_cases h11:a=10
   . exact⟨_,_,.inr (.inr (.inr (.inr (.inr (.inr (.inr (.inr (.inr (.inl ⟨rfl,h11,rfl,rfl⟩)))))))))⟩
   by_cases h12:a=11
   . exact⟨_,_,.inr (.inr (.inr (.inr (.inr (.inr (.inr (.inr (.inr (.inr (.inl ⟨rfl,h12,rfl,rfl⟩))))))))))⟩
   . exact⟨_,_,.inr (.inr (.inr (.inr (.inr (.inr (.inr (.inr (.inr (.inr (.inr (.inl ⟨rfl,by omega,rfl,rfl⟩)))))))))))⟩
 . by_cases h9:a<9
   . exact⟨_,_,.inr (.inr (.inr (.inr (.inr (.inr (.inr (.inr (.inr (.inr (.inr (.inr (.inl ⟨rfl,by omega,rfl,rfl⟩))))))))))))⟩
   . exact⟨_,_,.inr (.inr (.inr (.inr (.inr (.inr (.inr (.inr (.inr (.inr (.inr (.inr (.inr ⟨rfl,by omega,rfl,rfl⟩))))))))))))⟩
theorem GOp.fit {kind:Int}{a b:Nat}{op arg:Int}(hk:kind=1∨kind=2∨kind=3)(h:GOp kind a b op arg):(2<=op/\op<=25)/\(arg=1∨arg=2∨arg=3):=by
 unfold GOp at h
 omega
theorem ar_m (op:Int):∃m:Nat,ar op=m/\m<=3:=by
 unfold ar
 split
 . exact⟨1,rfl,by omega⟩
 . split
   . exact⟨3,rfl,by omega⟩
   . split
     . exact⟨2,rfl,by omega⟩
     . exact⟨0,rfl,by omega⟩
def kdG (op arg:Int)(i:Nat):Int:=if op=16/\i=0 then 2 else arg
theorem kdG_ok {op arg:Int}(i:Nat)(h:arg=1∨arg=2∨arg=3):kdG op arg i=1∨kdG op arg i=2∨kdG op arg i=3:=by
 unfold kdG
 split
 . omega
 . exact h
def GenC (len:Nat)(f:Nat->Nat)(d p:Nat)(kind:Int)(l:List Nx)(q:Nat):Prop:=∀(w:World) (a:Option Addr) (c:Nat) (v:Value),Byts w a len f->PickV K w v ->
 Calls Tryz.prog 104 #[.slice a len c,J9 p,v,J9 kind,J9 d] w (DrawOut w l q)
def GenE (len:Nat)(f:Nat->Nat)(d p:Nat)(kind:Int)(l:List Nx)(q:Nat):Prop:=(∀n,n∈l->FitS n)/\1<=l.length/\l.length<=4 ^ d/\p<=q/\q<=p+3*4 ^ d/\GenC K len f d p kind l q
structure SteG (len:Nat)(f:Nat->Nat)(d p:Nat)(kd:Nat->Int)(m:Nat)(st:Nat->List Nx × Nat):Prop where
 zero:st 0=([],p)
 step:∀i,i<m->∃l,(st (i+1)).1=(st i).1++l/\GenC K len f d (st i).2 (kd i) l (st (i+1)).2
 fit:∀i,i<=m->(∀n,n∈(st i).1->FitS n)/\(st i).1.length<=i*4 ^ d/\p<=(st i).2/\(st i).2<=p+i*(3*4 ^ d)
theorem stp_ex {len:Nat}{f:Nat->Nat}{d p:Nat}{kd:Nat->Int}(hk:∀i,kd i=1∨kd i=2∨kd i=3)(M:Nat)(hp:p+M*(3*4 ^ d)<=900000)(ih:∀p kind,p+3*4 ^ d<=900000->(kind=1∨kind=2∨kind=3)->∃l q,GenE K len f d p kind l q):∀m,m<=M->∃st,SteG K len f d p kd m st
 | 0,_=>⟨fun _=>([],p),rfl,fun i hi=>absurd hi (nL _),fun i hi=>⟨fun n hn=>(by cases hn),nZ _,nR _,Nat.le_add_right _ _⟩⟩
 | m+1,hm=>by
  obtain⟨st,h0,hs,hf⟩:=stp_ex hk M hp ih m (by omega);obtain⟨f1,f2,f3,f4⟩:=hf m (nR _);have e1:(m+1)*(3*4 ^ d)<=M*(3*4 ^ d):=Zl _ hm;have e2:(m+1)*(3*4 ^ d)=m*(3*4 ^ d)+3*4 ^ d:=Zt _ _;have e3:(m+1)*4 ^ d=m*4 ^ d+4 ^ d:=Zt _ _;obtain⟨l,q,g1,g2,g3,g4,g5,g6⟩:=ih (st m).2 (kd m) (by omega) (hk m);refine⟨fun i=>if i<=m then st i else ((st m).1++l,q),by simp only[nZ,if_true];exact h0,fun i hi=>?_,fun i hi=>?_⟩
  . by_cases e:i<m
    . simp only[Yy (show i+1<=m by omega),Yy (show i<=m by omega)]
      exact hs i e
    . obtain rfl:i=m:=by omega
      simp only[Yu (show ¬ i+1<=i by omega),Yy (nR i)];exact⟨l,rfl,g6⟩
  . by_cases e:i<=m
    . simp only[Yy e]
      exact hf i e
    . obtain rfl:i=m+1:=by omega
      simp only[Yu e];exact⟨fun n hn=>(Y9.1 hn).elim (f1 n) (g1 n),by rw[Yg];omega,by omega,by omega⟩
variable (K:Int->List ByteArray)
theorem qa7 (len:Nat)(f:Nat->Nat)(hlen:len<=1048576)(d p:Nat)(hd:d<=100)(hp:p<=1000000)(kind:Int)(hk:kind=1∨kind=2∨kind=3)(A B:Nat)(hA:tkD len f p 16=A)(hA4:4<=A)(hA15:A<15)(hB:tkD len f (p+1) 64=B)(op arg:Int)(hG:GOp kind A B op arg)
 (m:Nat) (hm:ar op=m) (hm3:m<=3) (st:Nat->List Nx × Nat) (hS:SteG K len f d (p+2) (kdG op arg) m st) (hlong:∀i,i<=m->(st i).1.length<=4096/\(st i).2<=1000000):GenC K len f (d+1) p kind ((st m).1++[⟨op,⟨0,0,⟨#[]⟩⟩,⟨#[]⟩⟩]) (st m).2:=by
 intro w a c v hby hpk
 have hpk0:=hpk
 obtain⟨x1,n1,k1,x2,n2,k2,x3,n3,k3,rfl,-⟩:=hpk
 obtain⟨v,hv⟩:=Nq (Value.agg (Jk x1 n1 k1 x2 n2 k2 x3 n3 k3))
 have HBl:=h_ (Blk.new w 110 (Jk x1 n1 k1 x2 n2 k2 x3 n3 k3))
 have hb0:=(bR w.heap.size w).alloc (nR _) (.cells (Jk x1 n1 k1 x2 n2 k2 x3 n3 k3) 110)
 obtain⟨W0,hW0⟩:=Nq (w.alloc (.cells (Jk x1 n1 k1 x2 n2 k2 x3 n3 k3) 110))
 rw[hW0]at HBl hb0
 have HBy:=h_ (hby.mono hb0);have HPk:=h_ (hpk0.mono hb0);have HB0:=h_ hb0
 have HA:=h_ hA;have HBB:=h_ hB;have HG:=h_ hG;have HS:=h_ hS;have HL:=h_ hlong
 have hB64:B<64:=by rw[<- hB];exact tk_lt hlen (by omega) (by omega) (by omega)
 have d1:¬ (((d+1:Nat):Int)<=0):=by omega
 have d2:¬ (d:Int)+1<=0:=by omega
 have a4:¬ (A:Int)<4:=by omega
 have a15:((A:Int)==15)=false:=Yf.2 (by omega)
 have HP:Hi ((p:Int)+1=((p+1:Nat):Int)):=h_ (by omega)
 clear hby hpk0 hb0 hA hB hG hS hv hlong
 go_enter Tryz.func104,Tryz.ntmps104
 go_wp2_with fail
 try rw[hW0]
 clear hW0
 refine(qju (p:=p) (n:=16) hlen (by omega) (by omega) (by omega) c HBy.u rfl rfl).mono ?_
 rintro e w' ⟨rfl,hw'⟩
 subst hw'
 rw[HA.u]
 go_wp2_with fail
 refine(qju (p:=p+1) (n:=64) hlen (by omega) (by omega) (by omega) c HBy.u HP.u rfl).mono ?_
 rintro e w' ⟨rfl,hw'⟩
 subst hw'
 rw[HBB.u]
 go_upto_if 65 with fail
 go_cut [14,15] from 20 (fun s14 s15 wx=>s14=J9 arg/\s15=J9 op/\wx=w')
 case first =>
  have hG:=HG.u;unfold GOp at hG;rcases hG with ⟨rfl,rfl,rfl⟩ | ⟨rfl,rfl,rfl⟩ | ⟨rfl,h1,rfl,rfl⟩ | ⟨rfl,h1,rfl,rfl⟩ | ⟨rfl,h1,rfl,rfl⟩ | ⟨rfl,rfl,rfl,rfl⟩ | ⟨rfl,h1,rfl,rfl⟩ | ⟨rfl,h1,rfl,rfl⟩ | ⟨rfl,h1,rfl,rfl⟩ | ⟨rfl,rfl,rfl,rfl⟩ | ⟨rfl,rfl,rfl,rfl⟩ | ⟨rfl,rfl,rfl,rfl⟩ | ⟨rfl,h1,rfl,rfl⟩ | ⟨rfl,h1,rfl,rfl⟩
  all_goals
   first | have t14:((A:Int)==14)=false:=Yf.2 (by omega) | skip
   first | have t13:((A:Int)==13)=false:=Yf.2 (by omega) | skip
   first | have t11:((A:Int)==11)=false:=Yf.2 (by omega) | skip
   first | have t10:((A:Int)==10)=false:=Yf.2 (by omega) | skip
   first | have y8:(A:Int)<8:=by omega | have y8:¬ (A:Int)<8:=by omega | skip
   first | have y9:(A:Int)<9:=by omega | have y9:¬ (A:Int)<9:=by omega | skip
   first | have y10:(A:Int)<10:=by omega | have y10:¬ (A:Int)<10:=by omega | skip
   first | have y12:(A:Int)<12:=by omega | have y12:¬ (A:Int)<12:=by omega | skip
   first | have y48:(48:Int)<=B:=by omega | have y48:¬ (48:Int)<=B:=by omega | skip
   go_wp2_with fail;go_meet;exact⟨rfl,rfl,rfl⟩
 case rest =>
  obtain⟨rfl,rfl,hwc⟩:=hcut;subst hwc;have HB1:=h_ ((bR wc.heap.size wc).alloc (nR _) (.cells #[] 96));have HO1:=h_ (OwnN.none wc);replace HBy:=h_ (HBy.u.mono HB1.u);replace HPk:=h_ (HPk.u.mono HB1.u);replace HBl:=h_ (HBl.u.mono HB1.u HBl.u.lt);have HB2:=h_ (HB0.u.trans (HB1.u.mono HB0.u.size));replace HO1:=h_ (HO1.u.low HB0.u.size);obtain⟨W1,hW1⟩:=Nq (wc.alloc (.cells #[] 96));rw[hW1]at HBy HPk HBl HB1 HB2 HO1;clear a4 a15;go_wp2_with fail
  try rw[hW1]
  clear hW1;have HZ:=h_ HS.u.zero;go_loopw [1,16,17] (fun v1 v16 v17 wr=>∃i:Nat,i<=m/\v1=J9 (st i).2/\v17=J9 i/\OwnN wr w.heap.size v16 (st i).1/\Below W1.heap.size W1 wr/\Below w.heap.size w wr) (fun _ _ v17 _=>m - (intOf v17).toNat)
  case atStart=>exact⟨0,nZ _,by rw[HZ.u];go_num,rfl,by rw[HZ.u];exact HO1.u,bR _ _,HB2.u⟩
  case round =>
   obtain⟨i,hi,rfl,rfl,ho,hb,hbw⟩:=hrel;have HO:=h_ ho;have HB:=h_ hb;have HBw:=h_ hbw;have HByr:=h_ (HBy.u.mono hb);have HPkr:=h_ (HPk.u.mono hb);have HBlr:=h_ (HBl.u.mono hb HBl.u.lt);clear ho hb hbw HO1;obtain⟨lm,qm,hsi⟩:∃lm qm,st i=(lm,qm):=⟨_,_,rfl⟩;have HLi:=h_ (HL.u i hi);rw[hsi]at HO HLi⊢;obtain⟨am,cm,rfl,hnm⟩:=HO.u.nods;have HN:=h_ hnm;clear hnm;obtain⟨r0,r1,r2⟩:=three HBlr.u;go_wp2_with fail;refine(q50 _ _).mono ?_;rintro e w' ⟨rfl,hw'⟩;subst hw';rw[hm];by_cases hlt:i<m
   . have hlt':(i:Int)<m:=by omega
     obtain⟨l,hl1,hcall⟩:=HS.u.step i hlt;obtain⟨ln,qn,hsn⟩:∃ln qn,st (i+1)=(ln,qn):=⟨_,_,rfl⟩;have HLn:=h_ (HL.u (i+1) hlt);rw[hsi,hsn]at hl1 hcall;rw[hsn]at HLn;obtain⟨kd,hkd⟩:=Nq (kdG op arg i);rw[hkd]at hcall;have HC:=h_ (hcall w' a c _ HByr.u HPkr.u);have HKd:=h_ hkd;have HSn:=h_ hsn;obtain rfl:ln=lm++l:=hl1;have HLl:Hi (lm.length+l.length<=4096):=h_ (by have:=HLn.u.1;rw[Yg]at this;exact this);clear hcall hkd hsn;have hway:(op=16/\i=0/\kd=2)∨(op=16/\¬ i=0/\kd=arg)∨(¬ op=16/\kd=arg):=by
      rw[<- HKd.u];unfold kdG;split <;> omega
     rcases hway with ⟨h1,h2,rfl⟩ | ⟨h1,h2,rfl⟩ | ⟨h1,rfl⟩
     case' inl =>
      have e16:(op==16)=true:=(by simp[h1]);have ei:((i:Int)==0)=true:=by simp[h2]
     case' inr.inl =>
      have e16:(op==16)=true:=(by simp[h1]);have ei:((i:Int)==0)=false:=Yf.2 (by omega)
     case' inr.inr =>
      have e16:(op==16)=false:=Yf.2 h1
     all_goals
      clear h1;go_wp2_with fail;refine HC.u.mono ?_;rintro e w4 ⟨v4,rfl,ho4,hb4⟩;obtain⟨a4,c4,rfl,n4⟩:=ho4.nods;have HJ:=h_ (q7l am a4 cm c4 lm l w4 (by have:=HLl.u;omega) (HN.u.mono hb4) n4);have HB4:=h_ hb4;clear ho4 hb4 n4 HC;go_wp2_with fail;refine HJ.u.mono ?_;rintro e w5 ⟨v5,rfl,ho5,hb5⟩;have HO5:=h_ (ho5.low (Ys HBw.u.size HB4.u.size));have HB5:=mT HB4 hb5;clear ho5 hb5 HJ;go_wp2_with fail;go_roundw
      case rel=>exact⟨i+1,by omega,by rw[HSn.u],by go_num,by rw[HSn.u];exact HO5.u,HB.u.trans (HB5.u.mono HB.u.size),HBw.u.trans (HB5.u.mono HBw.u.size)⟩
      case measure=>simp[intOf];omega
   . obtain rfl:i=m:=by omega
     have hlt':¬ (i:Int)<i:=(by omega);have HSi:=h_ hsi;go_wp2_with fail;refine(q3t _ _).mono ?_;rintro e w2 ⟨rfl,hb2⟩;have HN2:Hi (Blk _ _ 96 (nC ⟨op,⟨0,0,⟨#[]⟩⟩,⟨#[]⟩⟩)):=h_ (Blk.new w2 96 (nC ⟨op,⟨0,0,⟨#[]⟩⟩,⟨#[]⟩⟩).toArray);have HS2:=h_ ((bR w2.heap.size w2).alloc (nR _) (.cells (nC ⟨op,⟨0,0,⟨#[]⟩⟩,⟨#[]⟩⟩).toArray 96));have HO2:=h_ ((HO.u.keep hb2).keep HS2.u);have HB2':=h_ (HBw.u.trans ((hb2.trans (HS2.u.mono hb2.size)).mono HBw.u.size));clear hb2;go_wp2_with (at_builtin;refine q4h rfl _ _ rfl rfl HO2.u rfl HN2.u (by have:=HLi.u.1;omega) HB2'.u.size ?_);intro v9 W9 ho9 hb9;have HO9:=h_ ho9;have HB9:=h_ (HB2'.u.trans hb9);clear ho9 hb9;go_wp2_with fail
     go_ret2
     exact⟨v9,by rw[HSi.u];rfl,by rw[HSi.u];exact HO9.u,HB9.u⟩
variable (K:Int->List ByteArray)
theorem q7k (hK:PkOk K)(len:Nat)(f:Nat->Nat)(hlen:len<=1048576)(d p:Nat)(hp:p<=900000)(kind:Int)(n:Nx)(q:Nat)(hX:LeafX K len f (p+1) kind n q)(hd:d=0∨tkD len f p 16<4):GenC K len f d p kind [n] q:=by
 intro w a c v hby hpk
 have hpk0:=hpk
 obtain⟨x1,n1,k1,x2,n2,k2,x3,n3,k3,rfl,-⟩:=hpk
 have HBl:=h_ (Blk.new w 110 (Jk x1 n1 k1 x2 n2 k2 x3 n3 k3))
 have hb0:=(bR w.heap.size w).alloc (nR _) (.cells (Jk x1 n1 k1 x2 n2 k2 x3 n3 k3) 110)
 obtain⟨W0,hW0⟩:=Nq (w.alloc (.cells (Jk x1 n1 k1 x2 n2 k2 x3 n3 k3) 110))
 rw[hW0]at HBl hb0
 obtain⟨A,hA⟩:=Nq (tkD len f p 16)
 rw[hA]at hd
 have HL:=h_ (q7m K hK len f hlen (p+1) (by omega) kind n q hX W0 a c _ (hby.mono hb0) (hpk0.mono hb0))
 rw[show((p+1:Nat):Int)=(p:Int)+1 from by omega]at HL
 have HBy:=h_ (hby.mono hb0);have HB0:=h_ hb0;have HA:=h_ hA
 clear hby hpk0 hb0 hA hX
 have hway:(d:Int)<=0∨(¬ (d:Int)<=0/\(A:Int)<4):=by omega
 clear hd
 go_enter Tryz.func104,Tryz.ntmps104
 go_wp2_with fail
 try rw[hW0]
 clear hW0
 refine(qju (p:=p) (n:=16) hlen (by omega) (by omega) (by omega) c HBy.u rfl rfl).mono ?_
 rintro e w' ⟨rfl,hw'⟩
 subst hw'
 rw[HA.u]
 obtain⟨r0,r1,r2⟩:=three HBl.u
 rcases hway with hw1 | ⟨hw1,hw2⟩
 all_goals
  go_wp2_with fail;refine HL.u.mono ?_;rintro e w4 ⟨v4,rfl,ho4,hb4⟩;have HO:=h_ (ho4.low HB0.u.size);have HB:=mT HB0 hb4;clear ho4 hb4;go_wp2_with fail
  go_ret2
  exact⟨v4,rfl,HO.u,HB.u⟩
theorem q54 (len:Nat)(f:Nat->Nat)(hlen:len<=1048576)(d p:Nat)(hd:d<=100)(hp:p<=900000)(kind:Int)(l:List Nx)(q:Nat)(hA:tkD len f p 16=15)(B:Nat)(hB:tkD len f (p+1) 3=B)(hC:GenC K len f d (p+2) (B+1) l q):GenC K len f (d+1) p kind l q:=by
 intro w a c v hby hpk
 have hpk0:=hpk
 obtain⟨x1,n1,k1,x2,n2,k2,x3,n3,k3,rfl,-⟩:=hpk
 have HBl:=h_ (Blk.new w 110 (Jk x1 n1 k1 x2 n2 k2 x3 n3 k3))
 have hb0:=(bR w.heap.size w).alloc (nR _) (.cells (Jk x1 n1 k1 x2 n2 k2 x3 n3 k3) 110)
 obtain⟨W0,hW0⟩:=Nq (w.alloc (.cells (Jk x1 n1 k1 x2 n2 k2 x3 n3 k3) 110))
 rw[hW0]at HBl hb0
 have HC:=h_ (hC W0 a c _ (hby.mono hb0) (hpk0.mono hb0))
 rw[show((p+2:Nat):Int)=(p:Int)+1+1 from by omega]at HC
 have hB3:B<3:=by rw[<- hB];exact tk_lt hlen (by omega) (by omega) (by omega)
 have HBy:=h_ (hby.mono hb0);have HB0:=h_ hb0;have HA:=h_ hA;have HBB:=h_ hB
 have HP:Hi ((p:Int)+1=((p+1:Nat):Int)):=h_ (by omega)
 clear hby hpk0 hb0 hA hC hB
 have d1:¬ (((d+1:Nat):Int)<=0):=by omega
 have d2:¬ (d:Int)+1<=0:=by omega
 go_enter Tryz.func104,Tryz.ntmps104
 go_wp2_with fail
 try rw[hW0]
 clear hW0
 refine(qju (p:=p) (n:=16) hlen (by omega) (by omega) (by omega) c HBy.u rfl rfl).mono ?_
 rintro e w' ⟨rfl,hw'⟩
 subst hw'
 rw[HA.u]
 go_wp2_with fail
 refine(qju (p:=p+1) (n:=3) hlen (by omega) (by omega) (by omega) c HBy.u HP.u rfl).mono ?_
 rintro e w' ⟨rfl,hw'⟩
 subst hw'
 rw[HBB.u]
 obtain⟨r0,r1,r2⟩:=three HBl.u
 go_wp2_with fail
 refine HC.u.mono ?_
 rintro e w4 ⟨v4,rfl,ho4,hb4⟩
 have HO:=h_ (ho4.low HB0.u.size);have HB:=mT HB0 hb4
 clear ho4 hb4
 go_wp2_with fail
 go_ret2
 exact⟨v4,rfl,HO.u,HB.u⟩
theorem gen_ex (hK:PkOk K)(len:Nat)(f:Nat->Nat)(hlen:len<=1048576):∀d,d<=5->∀p kind,p+3*4 ^ d<=900000->(kind=1∨kind=2∨kind=3)->∃l q,GenE K len f d p kind l q
 | 0,_,p,kind,hp,hk=>by
  obtain⟨n,q,hX,h1,h2,h3⟩:=qhl K hK len f hlen (p+1) (by omega) kind hk;exact⟨[n],q,fun x hx=>by obtain rfl:=Yx.1 hx;exact h1,nR _,nR _,by omega,by omega,q7k K hK len f hlen 0 p (by omega) kind n q hX (.inl rfl)⟩
 | d+1,hd,p,kind,hp,hk=>by
  have e4:(4:Nat) ^ (d+1)=4*4 ^ d:=by rw[Nat.pow_succ,Nat.mul_comm]
  have e1:1<=(4:Nat) ^ d:=Nat.pow_pos (by omega);have e5:(4:Nat) ^ d<=4 ^ 4:=Z9 (by omega) (by omega);obtain⟨A,hA⟩:=Nq (tkD len f p 16);have hA16:A<16:=by rw[<- hA];exact tk_lt hlen (by omega) (by omega) (by omega)
  by_cases h4:A<4
  . obtain⟨n,q,hX,h1,h2,h3⟩:=qhl K hK len f hlen (p+1) (by omega) kind hk
    exact⟨[n],q,fun x hx=>(by obtain rfl:=Yx.1 hx;exact h1),nR _,by simp only[Vt];omega,by omega,by omega,q7k K hK len f hlen (d+1) p (by omega) kind n q hX (.inr (by omega))⟩
  by_cases h15:A=15
  . obtain⟨B,hB⟩:=Nq (tkD len f (p+1) 3)
    have hB3:B<3:=(by rw[<- hB];exact tk_lt hlen (by omega) (by omega) (by omega));obtain⟨l,q,g1,g2,g3,g4,g5,g6⟩:=gen_ex hK len f hlen d (by omega) (p+2) (B+1) (by omega) (by omega);exact⟨l,q,g1,g2,by omega,by omega,by omega,q54 K len f hlen d p (by omega) (by omega) kind l q (by omega) B hB g6⟩
  obtain⟨B,hB⟩:=Nq (tkD len f (p+1) 64);obtain⟨op,arg,hG⟩:=gop_ex (b:=B) hk (show A<15 by omega);obtain⟨⟨o1,o2⟩,harg⟩:=hG.fit hk;obtain⟨m,hm,hm3⟩:=ar_m op;obtain⟨st,hS⟩:=stp_ex K (fun i=>kdG_ok (op:=op) i harg) 3 (by omega) (fun p kind h1 h2=>gen_ex hK len f hlen d (by omega) p kind h1 h2) m hm3 (p:=p+2);obtain⟨f1,f2,f3,f4⟩:=hS.fit m (nR _);have m1:m*4 ^ d<=3*4 ^ d:=Zl _ hm3;have m2:m*(3*4 ^ d)<=3*(3*4 ^ d):=Zl _ hm3;refine⟨_,_,?_,?_,?_,?_,?_,qa7 K len f hlen d p (by omega) (by omega) kind hk A B hA (by omega) (by omega) hB op arg hG m hm hm3 st hS fun i hi=>?_⟩
  . intro n hn
    rcases Y9.1 hn with h | h
    . exact f1 n h
    . obtain rfl:=Yx.1 h;exact FitS.opn (by omega) o2
  . simp
  . rw[Yg,Vt];omega
  . omega
  . omega
  . obtain⟨-,i2,-,i4⟩:=hS.fit i hi
    have n1:i*4 ^ d<=3*4 ^ d:=Zl _ (by omega);have n2:i*(3*4 ^ d)<=3*(3*4 ^ d):=Zl _ (by omega);omega
end Go.Proofs.YtebbgodlijlioaaGreatDoor
namespace Go.Proofs.YtebbgodlijlioaaGreatDoor
open Go Go.RowKit Go.Shelf
attribute [local go_sem] Oper.semAt_some
def Reach (g:Nat->Nat)(a b:Nat):Prop:=∀C:Nat->Prop,C a->(∀x y,C x->x<32->(g x).testBit y=true->C y)->C b
theorem Reach.refl (g:Nat->Nat)(a:Nat):Reach g a a:=fun _ h _=>h
theorem Reach.step {g:Nat->Nat}{a x y:Nat}(h:Reach g a x)(hx:x<32)(hy:(g x).testBit y=true):Reach g a y:=fun C h0 hs=>hs x y (h C h0 hs) hx hy
structure Walk (g:Nat->Nat)(a todo done:Nat)(pre:List Nat):Prop where
 t32:todo<4294967296
 d32:done<4294967296
 came:∀i,i∈pre ↔ done.testBit i=true
 apart:∀i,todo.testBit i=true->done.testBit i=false
 reach:∀i,(todo.testBit i=true∨done.testBit i=true)->Reach g a i
 start:todo.testBit a=true∨done.testBit a=true
 shut:∀x y,done.testBit x=true->(g x).testBit y=true->todo.testBit y=true∨done.testBit y=true
theorem Walk.init (g:Nat->Nat)(a:Nat)(ha:a<32):Walk g a (2 ^ a) 0 [] where
 t32:=two_lt ha
 d32:=by decide
 came:=fun i=>by simp
 apart:=fun i _=>by simp
 reach:=fun i h=>by
  rw[Z4]at h;simp at h;subst h;exact Reach.refl _ _
 start:=.inl (by simp)
 shut:=fun x y h=>by simp at h
theorem Walk.next {g:Nat->Nat}{a todo done x:Nat}{pre:List Nat}(h:Walk g a todo done pre)(hg:∀a,a<32->g a<4294967296)(hx:x<32)(hb:todo.testBit x=true) :
 Walk g a (minusN (todo ||| g x) (done ||| 2 ^ x)) (done ||| 2 ^ x) (pre++[x]):=by
 have o1:=or_lt h.t32 (hg x hx)
 have o2:=or_lt h.d32 (two_lt hx)
 have tb:∀i,(minusN (todo ||| g x) (done ||| 2 ^ x)).testBit i=((todo.testBit i||(g x).testBit i)&&!(done.testBit i||decide (x=i))):=fun i=>by
  rw[q80 o1 o2,Ok,Ok,Z4]
 have db:∀i,(done ||| 2 ^ x).testBit i=(done.testBit i||decide (x=i)):=fun i=>by rw[Ok,Z4]
 refine⟨qae o1,o2,fun i=>?_,fun i hi=>?_,fun i hi=>?_,?_,fun y z hy hz=>?_⟩
 . rw[Y9,Yx,h.came i,db,Zs,decide_eq_true_iff]
   exact or_congr_right ⟨Eq.symm,Eq.symm⟩
 . rw[tb]at hi;rw[db];simp at hi⊢;exact hi.2
 . rw[tb,db]at hi
   cases hd:(done.testBit i||decide (x=i))
   . rw[hd]at hi;simp at hi
     rcases hi with hi | hi
     . exact h.reach i (.inl hi)
     . exact(h.reach x (.inl hb)).step hx hi
   . simp at hd
     rcases hd with hd | hd
     . exact h.reach i (.inr hd)
     . subst hd;exact h.reach x (.inl hb)
 . rw[tb,db]
   cases hd:(done.testBit a||decide (x=a))
   . simp at hd
     rcases h.start with hs | hs
     . simp[hs]
     . rw[hs]at hd;simp at hd
   . exact .inr rfl
 . rw[tb,db]
   rw[db]at hy;cases hd:(done.testBit z||decide (x=z))
   . simp at hd hy
     rcases hy with hy | hy
     . rcases h.shut y z hy hz with h1 | h1
       . simp[h1]
       . rw[h1]at hd;simp at hd
     . subst hy;simp[hz]
   . exact .inr rfl
theorem Walk.finish {g:Nat->Nat}{a done:Nat}{pre:List Nat}(h:Walk g a 0 done pre):∀i,i∈pre ↔ Reach g a i:=fun i=>by
 rw[h.came i]
 constructor
 . exact fun hi=>h.reach i (.inr hi)
 . intro hr
   refine hr (fun i=>done.testBit i=true) ?_ ?_
   . rcases h.start with hs | hs
     . simp at hs
     . exact hs
   . intro x y hx _ hy
     rcases h.shut x y hx hy with h1 | h1
     . simp at h1
     . exact h1
theorem qid {d x:Nat}(h:d.testBit x=false):d<d ||| 2 ^ x:=by
 apply Nat.lt_of_le_of_ne Nat.left_le_or
 intro e
 have:(d ||| 2 ^ x).testBit x=true:=by rw[Ok,Z4];simp
 rw[<- e,h]at this;cases this
theorem qes {W':World}{O:Nat}{c:Value}(h:Blk W' O 124 [c])(v:Value)(o1 o2 o3 o4:Obj) :
 Blk (((((W'.alloc o1).alloc o2).alloc o3).alloc o4).setCell ⟨O,0,none⟩ v).drew O 124 [v]/\KeepX (fun j=>j=O) W' (((((W'.alloc o1).alloc o2).alloc o3).alloc o4).setCell ⟨O,0,none⟩ v).drew /\
  (∀B,B<=O->O<W'.heap.size->Below B W' (((((W'.alloc o1).alloc o2).alloc o3).alloc o4).setCell ⟨O,0,none⟩ v).drew):=by
 have hb:=below4 W' o1 o2 o3 o4
 exact⟨(h.mono hb h.lt).set 0 v,((KeepX.of_below hb).trans (KeepX.set (X:=fun j=>j=O) (a:=⟨O,0,none⟩) v rfl)).trans ⟨nR _,fun _ _ _ _ _ h=>h⟩,fun B hB hO=>((hb.mono (by omega)).setCell (p:=⟨O,0,none⟩) hB v).drew⟩
theorem below6 (w:World)(o1 o2 o3 o4 o5 o6:Obj):Below w.heap.size w ((((((w.alloc o1).alloc o2).alloc o3).alloc o4).alloc o5).alloc o6):=((below4 w o1 o2 o3 o4).alloc (by simp;omega) o5).alloc (by simp;omega) o6
theorem qb9 {W':World}{O:Nat}{c:Value}(h:Blk W' O 124 [c])(v:Value)(o1 o2 o3 o4 o5 o6:Obj) :
 Blk (((((((W'.alloc o1).alloc o2).alloc o3).alloc o4).alloc o5).alloc o6).setCell ⟨O,0,none⟩ v).drew O 124 [v]/\KeepX (fun j=>j=O) W' (((((((W'.alloc o1).alloc o2).alloc o3).alloc o4).alloc o5).alloc o6).setCell ⟨O,0,none⟩ v).drew /\
  (∀B,B<=O->O<W'.heap.size->Below B W' (((((((W'.alloc o1).alloc o2).alloc o3).alloc o4).alloc o5).alloc o6).setCell ⟨O,0,none⟩ v).drew):=by
 have hb:=below6 W' o1 o2 o3 o4 o5 o6
 exact⟨(h.mono hb h.lt).set 0 v,((KeepX.of_below hb).trans (KeepX.set (X:=fun j=>j=O) (a:=⟨O,0,none⟩) v rfl)).trans ⟨nR _,fun _ _ _ _ _ h=>h⟩,fun B hB hO=>((hb.mono (by omega)).setCell (p:=⟨O,0,none⟩) hB v).drew⟩
theorem q4g (Ba Bs a:Nat)(g:Nat->Nat)(w0:World)(X:Nat->Prop)(ha:a<32)(hg:∀a,a<32->g a<4294967296)(hA:Blk w0 Ba 3 [J9 (a:Int)])(hB:Blk w0 Bs 126 (us g))(ht:Tab w0)(hXB:¬ X Bs)(hX0:¬ X 1) :
 Gives Tryz.prog 155 #[Yc Ba 0,Yc Bs 0] (fun x=>x<32) (fun xs=>∀i,i∈xs ↔ Reach g a i) (fun _=>True) X w0:=by
 intro n l J Jx W hb hJ hJx hX hY h0
 have hT:=ht.mono hb
 have bA:=hA.mono hb hA.lt
 have bS:=hB.mono hb hB.lt
 have c0:=bA.cell 0
 simp only[Yh]at c0
 have hW0:=hT.pos
 have HY:=h_ hY;clear hY
 refine callsIn_of_wp Tryz.func155 rfl trivial ?_ rfl
 simp only[Tryz.ntmps155,Zj,Yw,Y5,Nat.reduceAdd,Nat.reduceSub,Vw,Vv,Oj,Od,Og,Z3]
 gi_wp2_with fail
 refine callW ((qic _ _ ha).mono ?_)
 rintro e w1 ⟨rfl,rfl⟩
 gi_wp2_with fail
 have bT:=(Blk.new (W.alloc (.cells (#[.int .u32 ((2 ^ a:Nat):Int)]) 124)) 124 (#[.int .u32 ((2 ^ a:Nat):Int)])).alloc (.cells #[.int .u32 0] 124)
 have bD:=Blk.new ((W.alloc (.cells (#[.int .u32 ((2 ^ a:Nat):Int)]) 124)).alloc (.cells (#[.int .u32 ((2 ^ a:Nat):Int)]) 124)) 124 #[.int .u32 0]
 have bw:=below3 W (.cells (#[.int .u32 ((2 ^ a:Nat):Int)]) 124) (.cells (#[.int .u32 ((2 ^ a:Nat):Int)]) 124) (.cells #[.int .u32 0] 124)
 simp only[Yv,Ot,Oh]at bT bD bw
 clear c0
 gi_loopw [6] (fun _ wr=>∃(todo done:Nat) (pre:List Nat),Blk wr (W.heap.size+1) 124 [.int .u32 (todo:Int)]/\Blk wr (W.heap.size+1+1) 124 [.int .u32 (done:Int)]/\Blk wr Bs 126 (us g)/\Tab wr/\J pre wr/\Walk g a todo done pre) (fun _ wr=>4294967296 - natAt wr (Yc (W.heap.size+1+1) 0))
 case atStart=>exact⟨2 ^ a,0,[],by simpa using bT,bD,bS.mono bw bS.lt,hT.mono bw,hJ _ _ _ h0 bw,Walk.init g a ha⟩
 case round =>
  have lS:=bS.lt;clear bT bD bw h0 hT bS bA;obtain⟨todo,done,pre,hT1,hD1,hS1,hTab,hj,hw⟩:=hrel;have c1:=hT1.cell 0;simp only[Yh]at c1;have t32:=hw.t32;have sD:=hD1.lt;have sT:=hT1.lt;have K1:=fun o=>(hT1.alloc o).cell 0;simp only[Yh]at K1;have hsz:W.heap.size<=wr.heap.size:=by omega
  have HT1:=h_ hT1;have HD1:=h_ hD1;have HS1:=h_ hS1;have HTAB:=h_ hTab;have HJ:=h_ hj;have HW:=h_ hw;clear hT1 hD1 hS1 hTab hj hw;by_cases hz:todo=0
  . subst hz
    have hzb:((0:Nat)==0)=true:=rfl;gi_wp2_with fail;refine callW ((q9l _ _).mono ?_);rintro e w1 ⟨rfl,rfl⟩;gi_wp2_with fail
    go_end0
    exact⟨⟨_,rfl⟩,.inl ⟨pre,HW.u.finish,hJ _ _ _ HJ.u (((bR wr.heap.size _).alloc (nR _) _).mono hsz)⟩⟩
  . have hzb:(todo==0)=false:=by simpa using hz
    have hcb:=qga t32 hz;have hl3:=q7z todo (wr.alloc (.cells #[.int .u32 (todo:Int)] 124)) t32 hz (HTAB.u.mono ((bR _ _).alloc (nR _) _));obtain⟨x,hx⟩:=Nq (Lib.ctz 32 todo);rw[hx]at hcb hl3;have HL3:=h_ hl3;have x32:=hcb.1;have HXB:=h_ hcb.2;clear hz hx hcb hl3;have hB2:Below wr.heap.size wr ((wr.alloc (.cells #[.int .u32 (todo:Int)] 124)).alloc (.cells #[.int .u32 (todo:Int)] 124)):=((bR _ _).alloc (nR _) _).alloc (by simp) _;have hyy:=HY.u (n - 1) pre x _ (hJ _ _ _ HJ.u (hB2.mono hsz)) x32;have HB2:=h_ hB2;clear hB2;obtain⟨fn,tmps,assign,body,hy,hRd⟩:=hyy;have HRD:=h_ hRd;clear hRd;gi_wp2_with fail;refine callW ((q9l _ _).mono ?_);rintro e w1 ⟨rfl,rfl⟩;gi_wp2_with fail;refine callW (HL3.u.mono ?_);rintro e w1 ⟨rfl,rfl⟩;gi_wp2_with fail;refine⟨noDepth,HRD.u.mono ?_⟩;rintro e W3 (⟨rfl,hj3,hk3⟩ | ⟨rfl,hjx3⟩)
    . have bT:=hk3.blk (HT1.u.mono HB2.u HT1.u.lt) (fun h=>by have:=hX _ h;omega)
      have bD:=hk3.blk (HD1.u.mono HB2.u HD1.u.lt) (fun h=>by have:=hX _ h;omega);have bS:=hk3.blk (HS1.u.mono HB2.u HS1.u.lt) hXB;have hT3:=(HTAB.u.mono HB2.u).keep hk3 hX0;clear hk3 c1 K1 hy HRD HL3 HB2;have d32:=HW.u.d32;have c2:=bD.cell 0;simp only[Yh]at c2;have f2:=bD.free 0;have l2:=bD.lt;have K4:=bD.cell4 0;have F4:=bD.free4 0;simp only[Yh]at K4;have hmix:Tryz.prog.follows .mixedOrders=true:=(by kernel_rfl);have x2:=two_lt x32;have BT:=h_ bT;have BD:=h_ bD;have BS:=h_ bS;have HT3:=h_ hT3;have HJ3:=h_ hj3;clear bT bD bS hT3 hj3;gi_wp2_with fail
      gi_region_with_o (first | (refine callW ((qic _ _ x32).mono ?_);rintro e w' ⟨rfl,rfl⟩) | (refine callW ((qbr _ _ _ d32 x2).mono ?_);rintro e w' ⟨rfl,rfl⟩))
      all_goals
       gi_wp2_with fail;have hst:=qes BD.u (.int .u32 ((done ||| 2 ^ x:Nat):Int)) (.cells (#[.int .u32 ((2 ^ x:Nat):Int)]) 124) (.cells #[.int .u32 (done:Int)] 124) (.cells (#[.int .u32 ((2 ^ x:Nat):Int)]) 124) (.cells (#[.int .u32 ((done ||| 2 ^ x:Nat):Int)]) 124);simp only[Ot,Oh]at hst;obtain⟨s1,s2,s3⟩:=hst;replace s3:=s3 W.heap.size (by omega) l2;obtain⟨W4,hW4⟩:=Nq ((((((W3.alloc (.cells #[.int .u32 (2 ^ x)] 124)).alloc (.cells #[.int .u32 (done:Int)] 124)).alloc (.cells #[.int .u32 (2 ^ x)] 124)).alloc (.cells (#[.int .u32 ((done ||| 2 ^ x:Nat):Int)]) 124)).setCell ⟨W.heap.size+1+1,0,none⟩ (.int .u32 ((done ||| 2 ^ x:Nat):Int))).drew);rw[hW4]at s1 s2 s3⊢;clear hW4 K4 F4 c2 f2;have bT:=s2.blk BT.u (by omega);have bS:=s2.blk BS.u (by omega);have hT4:=HT3.u.keep s2 (by omega);have hJ4:=hJ _ _ _ HJ3.u s3;have gx:=hg x x32;have cT:=bT.cell 0;have cD:=s1.cell 0;have cS:=bS.cell x;simp only[Yh]at cT cD;rw[us_get g x32]at cS;have K3D:=fun o1 o2 o3=>(s1.mono (below3 W4 o1 o2 o3) s1.lt).cell 0;have K6T:=fun o1 o2 o3 o4 o5 o6=>(bT.mono (below6 W4 o1 o2 o3 o4 o5 o6) bT.lt).cell 0;have F6T:=fun o1 o2 o3 o4 o5 o6=>(bT.mono (below6 W4 o1 o2 o3 o4 o5 o6) bT.lt).free 0;simp only[Yh]at K3D K6T;have o1:=or_lt t32 gx;have o2:=or_lt d32 x2;have lT:=bT.lt;have x0i:(0:Int)<=x:=(by omega);have x1i:(x:Int)<32:=(by omega);have B1:=h_ s1;have B2:=h_ bT;have B3:=h_ bS;have B4:=h_ hT4;have B5:=h_ hJ4;clear s1 s2 s3 bT bS hT4 hJ4 BT BD BS HT3 HJ3
       gi_region_with_o (first | (refine callW ((qbr _ _ _ t32 gx).mono ?_);rintro e w' ⟨rfl,rfl⟩) | (refine callW ((qaf _ _ _ o1 o2).mono ?_);rintro e w' ⟨rfl,rfl⟩))
       all_goals
        gi_wp2_with fail;have hst:=qb9 B2.u (.int .u32 ((minusN (todo ||| g x) (done ||| 2 ^ x):Nat):Int)) (.cells #[.int .u32 (todo:Int)] 124) (.cells #[.int .u32 (g x:Int)] 124) (.cells (#[.int .u32 ((todo ||| g x:Nat):Int)]) 124) (.cells (#[.int .u32 ((todo ||| g x:Nat):Int)]) 124) (.cells (#[.int .u32 ((done ||| 2 ^ x:Nat):Int)]) 124) (.cells (#[.int .u32 ((minusN (todo ||| g x) (done ||| 2 ^ x):Nat):Int)]) 124);obtain⟨s1,s2,s3⟩:=hst;have bD:=s2.blk B1.u (by omega);refine⟨⟨_,_,pre++[x],s1,bD,s2.blk B3.u (by omega),B4.u.keep s2 (by omega),hJ _ _ _ B5.u (s3 W.heap.size (by omega) lT),HW.u.next hg x32 HXB.u⟩,?_⟩;have h1:=bD.cell 0;have h2:=HD1.u.cell 0;simp only[Yh]at h1 h2;rw[qdi h1,qdi h2];have:=qid (HW.u.apart x HXB.u);omega
    . gi_wp2_with fail
      exact bodyPost_ret (results_none rfl _ _ _) rfl ⟨⟨_,rfl⟩,.inr ⟨pre++[x],trivial,hjx3⟩⟩
theorem q8t (g:Nat->Nat)(a:Nat)(w:World) :
 Calls Tryz.prog 124 #[.agg (us g).toArray,J9 (a:Int)] w fun e w'=>e=.returned (.func (.func 155) #[] #[Yc (w.heap.size+1) 0,Yc w.heap.size 0])/\w'=(w.alloc (.cells (us g).toArray 126)).alloc (.cells #[J9 (a:Int)] 3):=by
 go_enter Tryz.func124,Tryz.ntmps124
 go_wp2
 go_ret
 exact⟨rfl,rfl⟩
end Go.Proofs.YtebbgodlijlioaaGreatDoor
namespace Go.Proofs.YtebbgodlijlioaaGreatDoor
open Go Go.RowKit
theorem qeh {w:World}{b:Nat}{g:Nat->Nat}(hb:Blk w b 126 (us g)):(Instr.loadAt 126 (Yc b 0)).run Tryz.prog w=.ok (.agg (us g).toArray) w:=by
 simp only[Instr.loadAt,Instr.sureAddr,Sem.run_bind,Sem.run_pure,Result.andThen_ok,run_loadVar_row w b 126 126 (us g).toArray (0,0) _ hb Tryz.underlying126 rfl (qjh g)]
theorem Blk.range {w:World}{b:Nat}{t:TypeId}{cs:List Value}(h:Blk w b t cs):w.rangeAt b 0 cs:=fun j v hv=>by rw[Zi,h.cell,hv]
theorem len_us (g:Nat->Nat):(Tryz.prog.info? 126).map (·.size)=some (us g).length:=by rw[qbb,qbt]
def Held (w':World)(B k j:Nat)(g:Nat->Nat):Prop:=Blk w' B 126 (us g)/\Tab w'/\w'.cell? ⟨B,k,none⟩=some (.int .u32 (g k:Int))/\w'.cell? ⟨B,j,none⟩=some (.int .u32 (g j:Int))/\w'.rangeAt B 0 (us g)
theorem Held.mono {w w':World}{B k j:Nat}{g:Nat->Nat}(h:Held w B k j g)(hb:Below w.heap.size w w'):Held w' B k j g :=
 have h0:=h.1.mono hb h.1.lt
 ⟨h0,h.2.1.mono hb,(hb.cell (p:=⟨B,k,none⟩) h.1.lt).trans h.2.2.1,(hb.cell (p:=⟨B,j,none⟩) h.1.lt).trans h.2.2.2.1,h0.range⟩
theorem _root_.Go.World.ownsRow.mono3 {w w':World}{base e g n cap:Nat}{xs:List Value}(h:w.ownsRow base e 1 (.slice (some ⟨g,0,none⟩) n cap) n xs)(hb:Below w.heap.size w w'):w'.ownsRow base e 1 (.slice (some ⟨g,0,none⟩) n cap) n xs :=
 h.kept (row:=none) ⟨hb.os,hb.tape,hb.output,hb.size,fun k hk _=>hb.block k hk⟩ (.inr (by simp[Value.ownBlock]))
def Entry (g:Nat->Nat)(a b:Nat)(v:Int):Prop:=Least g (commonN (g a) (g b)) v
theorem q6i (n:Nat)(g:Nat->Nat)(w:World)(h1:1<=n)(hn:n<=32)(hg:∀a,a<32->g a<4294967296)(ht:Tab w) :
 Calls Tryz.prog 118 #[.agg (us g).toArray,J9 n] w fun e w'=>Below w.heap.size w w' /\
  ((∃G F,e=.returned (.tuple #[.slice (some ⟨G,0,none⟩) (n*n) (n*n),.bool true])/\Blk w' G 3 (is (n*n) F)/\w.heap.size<=G/\∀a,a<n->∀b,b<n->0<=F (a*n+b)/\Entry g a b (F (a*n+b))) ∨
   (e=.returned (.tuple #[Ya,.bool false])/\∃a b,a<n/\b<n/\Entry g a b (-1))):=by
 obtain⟨i0,hi,hz0,hz1,hz2⟩:=info_parts qcr
 have q1:(n:Int)*n<=1024:=by rw[<- Za];have:=sq_le hn;omega
 have q0:0<=(n:Int)*n:=by rw[<- Za];omega
 have q2:=sq_le hn
 have hbn:i0.bytes*(n*n)<=281474976710656:=by rw[hz2];omega
 have hC:((n:Int)*n)=((n*n:Nat):Int):=by simp
 have HC:=h_ hC;clear hC
 go_enter Tryz.func118,Tryz.ntmps118
 go_wp2_with (at_make;refine wpList_make_own _ rfl _ (.tmp 12) 30 rfl w.heap.size 3 i0 (J9 0) 1 Tryz.underlying30 hi hz0 hz1 .i64 .i64 _ (n*n) rfl rfl HC.u hbn (by unfold maxLen;omega) (by simp) ?_;intro w1 hown hgrow)
 have hb1:Below w.heap.size w w1:=((bR _ w).alloc (nR _) _).trans ((bR w.heap.size _).grown hgrow (by simp) (fun k e=>by cases e))
 have hB:=(Blk.new w 126 (us g).toArray).grown hgrow (by simp)
 have HO:=h_ hown;have HB1:=h_ hb1;have HB:=h_ hB
 clear hown hb1 hB hgrow hbn
 go_loopw [6,15] (fun v i wr=>∃(k:Nat) (F:Nat->Int),k<=n/\i=J9 k/\v=.slice (some ⟨w.heap.size+1,0,none⟩) (k*n) (n*n)/\wr.ownsRow w.heap.size 3 1 (.slice (some ⟨w.heap.size+1,0,none⟩) (k*n) (n*n)) (k*n) (is (k*n) F)/\Blk wr w.heap.size 126 (us g)/\Below w.heap.size w wr/\(∀a,a<k->∀b,b<n->0<=F (a*n+b)/\Entry g a b (F (a*n+b)))) (fun _ i _=>n - (intOf i).toNat)
 case atStart=>exact⟨0,fun _=>0,nZ _,rfl,by simp,by simpa [is] using HO.u,HB.u,HB1.u,fun a h=>absurd h (nL _)⟩
 case round =>
  clear HO HB HB1;obtain⟨k,F,hk,rfl,rfl,hown,hB,hW,hF⟩:=hrel;have HO:=h_ hown;have HB:=h_ hB;have HW:=h_ hW;have HF:=h_ hF;clear hown hB hW hF;by_cases hlt:k<n
  . go_wp2_with fail
    go_loopw [6,19] (fun v i wr=>∃(j:Nat) (F:Nat->Int),j<=n/\i=J9 j/\v=.slice (some ⟨w.heap.size+1,0,none⟩) (k*n+j) (n*n)/\wr.ownsRow w.heap.size 3 1 (.slice (some ⟨w.heap.size+1,0,none⟩) (k*n+j) (n*n)) (k*n+j) (is (k*n+j) F)/\Blk wr w.heap.size 126 (us g)/\Below w.heap.size w wr/\(∀a,a<k->∀b,b<n->0<=F (a*n+b)/\Entry g a b (F (a*n+b)))/\(∀b,b<j->0<=F (k*n+b)/\Entry g k b (F (k*n+b)))) (fun _ i _=>n - (intOf i).toNat)
    case atStart=>exact⟨0,F,nZ _,rfl,by simp,by simpa using HO.u,HB.u,HW.u,HF.u,fun b h=>absurd h (nL _)⟩
    case round =>
     clear HO HB HW HF;obtain⟨j,F,hj,rfl,rfl,hown,hB,hW,hF,hG⟩:=hrel;have HO:=h_ hown;have HB:=h_ hB;have HW:=h_ hW;have HF:=h_ hF;have HG:=h_ hG;by_cases hlj:j<n
     . have k32:k<32:=by omega
       have j32:j<32:=(by omega);have ck:=hB.cell k;have cj:=hB.cell j;rw[us_get _ k32]at ck;rw[us_get _ j32]at cj;have gk:=hg k k32;have gj:=hg j j32;have gc:=q6n (t:=g j) gk;have l0:=hB.lt;have hT:=ht.mono hW;have S0:Hi (Held wr w.heap.size k j g):=⟨hB,hT,ck,cj,hB.range⟩;have hu56:=Tryz.underlying126;have hl56:=len_us g;have k0i:(0:Int)<=k:=(by omega);have k1i:(k:Int)<32:=(by omega);have j0i:(0:Int)<=j:=(by omega);have j1i:(j:Int)<32:=(by omega);clear hown hB hW hF hG hT ck cj;go_wp2_with fail;go_region_held3 (fun w'=>Blk w' w.heap.size 126 (us g)/\Tab w'/\w'.cell? ⟨w.heap.size,k,none⟩=some (.int .u32 (g k:Int))/\w'.cell? ⟨w.heap.size,j,none⟩=some (.int .u32 (g j:Int))/\w'.rangeAt w.heap.size 0 (us g)) (first | exact S0.u | exact S2.u | exact S3.u) (first | (go_at_call 151;refine(q6o _ _ _ gk gj).mono ?_;rintro e w2 ⟨rfl,hb2⟩;have S2:Hi (Held w2 w.heap.size k j g):=S0.u.mono (q28 hb2);replace hb2:=h_ (q28 hb2)) | (go_at_call 121;refine(q5g g _ _ hg gc S2.u.2.1).mono ?_;rintro e w3 ⟨v,rfl,hv,hb3⟩;have S3:Hi (Held w3 w.heap.size k j g):=S2.u.mono hb3;replace hb3:=h_ (hb2.u.trans (hb3.mono hb2.u.size));replace hv:=h_ hv));have HV:Hi (Entry g k j v):=hv;have HW3:Hi (Below wr.heap.size wr w3):=hb3;have own3:=HO.u.mono3 HW3.u;have hB3:=S3.u.1;have hv0:v = -1∨0<=v:=by
        rcases HV.u with ⟨c,-,rfl,-⟩ | ⟨rfl,-⟩
        . exact .inr (by omega)
        . exact .inl rfl
       have hlen:=idx_lt hlt hlj;have hWW:=HW.u.trans (HW3.u.mono HW.u.size);have HO3:=h_ own3;have HB3:=h_ hB3;have HWW:=h_ hWW;clear own3 hB3 hWW hv hb3 hb2 S0 S2 S3 hu56 hl56;rcases hv0 with rfl | hv0
       . have HX:Hi (∃a b,a<n/\b<n/\Entry g a b (-1)):=⟨k,j,hlt,hlj,HV.u⟩
         go_wp2
         go_ret2
         exact⟨HWW.u,.inr ⟨rfl,HX.u⟩⟩
       . go_wp2_with (at_builtin;refine wpList_append_fits _ rfl _ _ 30 rfl w.heap.size 3 i0 1 Tryz.underlying30 hi hz1 (w.heap.size+1) (k*n+j) (n*n) _ rfl (HO3.u.alloc _) ⟨w3.heap.size,0,none⟩ 1 1 [J9 v] rfl rfl ?c1 (by simp[Value.oneCell']) hlen ?_)
         case c1 =>
          intro q u hq
          match q,hq with
          | 0,hq=>simp at hq;subst hq;simp[Addr.add]
         . intro w4 hown4 hgrow4
           have hB4:=(HB3.u.alloc (.cells #[J9 v] 3)).grown hgrow4 (by simp);have hW4:=(HWW.u.alloc HWW.u.size (.cells #[J9 v] 3)).grown hgrow4 (by have:=HWW.u.size;simp;omega) (fun q e=>by cases e;omega);have HO4:=h_ hown4;have HB4:=h_ hB4;have HW4:=h_ hW4;clear hown4 hgrow4 hB4 hW4;go_wp2;go_roundw
           case rel =>
            refine⟨j+1,fun i=>if i=k*n+j then v else F i,by omega,by go_num,rfl,?_,HB4.u,HW4.u,fun a ha b hb=>?_,fun b hb=>?_⟩
            . have e:is (k*n+(j+1)) (fun i=>if i=k*n+j then v else F i)=is (k*n+j) F++[J9 v]:=by
               rw[<- Nat.add_assoc,qh7];simp only[if_true]
               congr 1
               unfold is;refine Vd fun q hq=>?_;simp only[Yu (show ¬ q=k*n+j by have:=Zb.1 hq;omega)]
              rw[e];exact HO4.u
            . have:¬ a*n+b=k*n+j:=by
               have h2:(a+1)*n<=k*n:=Zl _ ha;rw[Zt]at h2;omega
              simp only[Yu this];exact HF.u a ha b hb
            . by_cases e:b=j
              . subst e;simp only[if_true];exact⟨hv0,HV.u⟩
              . simp only[Yu (show ¬ k*n+b=k*n+j by omega)]
                exact HG.u b (by omega)
           case measure=>simp[intOf];omega
     . obtain rfl:j=n:=by omega
       clear hown hB hW hF hG;go_wp2_with fail;go_roundw
       case rel =>
        refine⟨k+1,F,by omega,by go_num,by rw[Zt],by rw[Zt];exact HO.u,HB.u,HW.u,fun a ha=>?_⟩;by_cases e:a=k
        . subst e;exact HG.u
        . exact HF.u a (by omega)
       case measure=>simp[intOf];omega
  . obtain rfl:k=n:=by omega
    go_wp2
    go_ret2
    exact⟨HW.u,.inl ⟨_,F,rfl,Blk.of_owns HO.u,by omega,HF.u⟩⟩
section
variable {md:Region.Mode} {ops:Array Oper} {Q:Exit->Act->World->Prop} {S:World->Prop} {o:Oper} {a:Act}
theorem q69 (hw:Region.wanted o (yielded ops a.tmps)=true)(x:Operand)(ho:o.op=.load 126 x)(b:Nat)(g:Nat->Nat)(hx:a.eval x=Yc b 0)(hS:∀w,S w->Blk w b 126 (us g)):YieldsIf Tryz.prog ops S o (.agg (us g).toArray) a :=
 .inl ⟨hw,fun w h=>by simp only[execOp,ho,hx,Sem.run_bind,Sem.run_pure,qeh (hS w h),Result.andThen_ok]⟩
theorem q68 (hw:Region.wanted o (yielded ops a.tmps)=true)(x:Operand)(v:Value)(ho:o.op=.move x)(hx:a.eval x=v):YieldsIf Tryz.prog ops S o v a :=
 .inl ⟨hw,fun w _=>by rw[BigFrame.run_move x ho,hx]⟩
theorem q8s (hw:Region.wanted o (yielded ops a.tmps)=true)(x:Operand)(ho:o.op=.load 124 x)(b off:Nat)(v:Value)(hx:a.eval x=Yc b off)(hS:∀w,S w->w.cell? ⟨b,off,none⟩=some v):YieldsIf Tryz.prog ops S o (.agg #[v]) a :=
 .inl ⟨hw,fun w h=>by have h':=hS w h;simp only[execOp,ho,hx];simp[go_sem,h']⟩
theorem qe3 {a:Act}{o:Oper}{d:Tmp}{v:Value}(h:o.dst=some d):a.put o.dst v = { tmps:=a.tmps.setIfInBounds d v,defers:=a.defers }:=by rw[h];rfl
theorem take {i:Nat}{v:Value}{fuel:Nat}{listed:Array Bool}{w:World}(d:Tmp)(hi:ops[i]? = some o)(hd:o.dst=some d)(hs:Region.noSelect ops=true)(hf:Region.free md ops listed i=true)(hr:(Region.ready md ops listed).contains i=true)
 (hQ:∀c (b:Act) (t:Array Value) w,Q (.panic c) { tmps:=t,defers:=b.defers } w->Q (.panic c) b w) (hy:YieldsIf Tryz.prog ops S o v a) (hS:S w) (h:wpAnyH Tryz.prog md ops Q S fuel (listed.setIfInBounds i true) { tmps:=a.tmps.setIfInBounds d v,defers:=a.defers } w):wpAnyH Tryz.prog md ops Q S (fuel+1) listed a w :=
 wpAnyH_take hi hs hf hr (fun c a w h=>hQ c a _ w (by rw[qe3 hd]at h;exact h)) hy hS (by rw[qe3 hd];exact h)
theorem callH {i:Nat}{fuel:Nat}{listed:Array Bool}{w:World}{f:FuncId}{args:Array Value}{R:Value->World->Prop}(d:Tmp)(hi:ops[i]? = some o)(hd:o.dst=some d)(hw:Region.wanted o (yielded ops a.tmps)=true)(hr:Region.ready md ops listed=[i])
 (hrun:(execOp a.eval o).run Tryz.prog w=.ok (.enter f args) w) (hc:Calls Tryz.prog f args w fun e w'=>∃v,e=.returned v/\R v w')
 (h:∀v w',R v w'->S w'/\wpAnyH Tryz.prog md ops Q S fuel (listed.setIfInBounds i true) { tmps:=a.tmps.setIfInBounds d v,defers:=a.defers } w'):wpAnyH Tryz.prog md ops Q S (fuel+1) listed a w:=by
 refine wpAnyH_ready hr (by simp) (AllReadyH.cons hi (fun K hK=>?_) AllReadyH.nil)
 rw[Yy hw]
 unfold Oper.wp
 rw[hrun,Oper.upon_enter]
 refine hc.mono ?_
 rintro e w' ⟨v,rfl,hR⟩
 obtain⟨h1,h2⟩:=h v w' hR
 show K (a.put o.dst v) w'
 rw[qe3 hd]
 exact hK.out _ _ h1 (fun _=>h2)
theorem runH {i:Nat}{fuel:Nat}{listed:Array Bool}{w w':World}{v:Next}(hi:ops[i]? = some o)(hw:Region.wanted o (yielded ops a.tmps)=true)(hr:Region.ready md ops listed=[i])
 (hd:o.dst=none) (hrun:(execOp a.eval o).run Tryz.prog w=.ok v w') (hv:v=.skip) (hS:S w') (h:wpAnyH Tryz.prog md ops Q S fuel (listed.setIfInBounds i true) a w'):wpAnyH Tryz.prog md ops Q S (fuel+1) listed a w:=by
 subst hv
 refine wpAnyH_ready hr (by simp) (AllReadyH.cons hi (fun K hK=>?_) AllReadyH.nil)
 rw[Yy hw]
 unfold Oper.wp
 rw[hrun,Oper.upon_skip,hd]
 exact hK.out _ _ hS (fun _=>h)
end
end Go.Proofs.YtebbgodlijlioaaGreatDoor
