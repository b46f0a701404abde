import Derived.Test.YtfmammdgehbjhaaGreatDoorW12
import Derived.Test.YtfmammdgehbjhaaGreatDoorW08
set_option maxRecDepth 100000
set_option maxHeartbeats 64000000
namespace Go.Proofs.YtfmammdgehbjhaaGreatDoor
open Go.Lib
def dgt (c:UInt8):Nat:=c.toNat - 48
def Digits (l:List UInt8):Prop:=∀c,c∈l->48<=c.toNat/\c.toNat<=57
def low (l:List UInt8):List Nat:=l.reverse.map dgt
theorem qh7 {l:List UInt8}(h:Digits l):Dig (low l):=fun d hd=>by
 obtain⟨c,hc,rfl⟩:=List.mem_map.1 hd
 have:=h c (List.mem_reverse.1 hc)
 unfold dgt;omega
theorem q99 (l:List Nat):∀acc,hval acc l=acc*10 ^ l.length+dval l.reverse:=by
 induction l with
 | nil=>intro acc;simp[hval,dval]
 | cons d r ih =>
  intro acc;rw[hval,ih,List.reverse_cons,q90,List.length_reverse,List.length_cons,Nat.pow_succ,Nat.add_mul,Nat.mul_assoc,Nat.mul_comm 10,Nat.mul_comm d];omega
theorem qh6 (n:Nat):Digits (decDigits n)/\dval (low (decDigits n))=n/\decDigits n≠[]:=by
 obtain⟨a,b,c,d⟩:=qgg n
 have hb:∀x,x∈hiDigs n->(UInt8.ofNat (48+x)).toNat=48+x:=fun x hx=>by
  have:=b x hx;rw[UInt8.toNat_ofNat'];omega
 refine⟨fun x hx=>?_,?_,dec_ne n⟩
 . rw[c]at hx
   obtain⟨y,hy,rfl⟩:=List.mem_map.1 hx;have:=b y hy;rw[hb y hy];omega
 . have e:low (decDigits n)=(hiDigs n).reverse:=by
    rw[c,low,hdig,<- List.map_reverse,List.map_map]
    conv=>rhs;rw[<- List.map_id (hiDigs n).reverse]
    refine List.map_congr_left fun x hx=>?_;have:=hb x (List.mem_reverse.1 hx);simp only[Function.comp,dgt,this,id];omega
   have:=q99 (hiDigs n) 0;rw[a]at this;rw[e];omega
theorem q6t (n:Int):(n<0->∃t,itoa n=45 :: t/\t=decDigits n.natAbs)/\(¬ n<0->itoa n=decDigits n.natAbs/\∃c r,itoa n=c :: r/\c.toNat≠45):=by
 refine⟨fun h=>⟨_,by rw[itoa,if_pos h],rfl⟩,fun h=>?_⟩
 have e:itoa n=decDigits n.natAbs:=by rw[itoa,if_neg h,show n.toNat=n.natAbs by omega]
 obtain⟨c,r,e2,h1,h2⟩:=qbs n.natAbs
 exact⟨e,c,r,by rw[e,e2],by omega⟩
theorem qcm (n:Int)(h:I64 n):1<=(itoa n).length/\(itoa n).length<=20:=by
 have hd:∀m:Nat,m<=9223372036854775808->1<=(decDigits m).length/\(decDigits m).length<=19:=fun m hm=>by
  by_cases h0:m=0
  . subst h0;rw[decDigits_one (by omega)];simp
  . rw[q1a h0]
    have h1:=q1b (n:=m) (k:=19) (by omega);have h2:(digs m).length≠0:=fun e=>h0 (qbw.1 (List.length_eq_zero_iff.1 e));simp;omega
 have:=hd n.natAbs (by unfold I64 at h;omega)
 by_cases hn:n<0
 . obtain⟨t,e,rfl⟩:=(q6t n).1 hn
   rw[e,List.length_cons];omega
 . rw[((q6t n).2 hn).1];omega
def couldBe (neg:Bool)(l:List UInt8):Int:=if neg then -(dval (low l):Int) else dval (low l)
theorem q8o {t:List UInt8}{n:Int}(h:itoa n=45 :: t):Digits t/\couldBe true t=n:=by
 by_cases hn:n<0
 . obtain⟨t',e,rfl⟩:=(q6t n).1 hn
   rw[h]at e;have:t=decDigits n.natAbs:=by simpa using e
   subst this;obtain⟨a,b,-⟩:=qh6 n.natAbs;exact⟨a,by simp only[couldBe,b,if_true];omega⟩
 . obtain⟨-,c,r,e,hc⟩:=(q6t n).2 hn
   rw[h]at e;simp only[List.cons.injEq]at e;rw[<- e.1]at hc;exact absurd rfl hc
theorem q8p {c:UInt8}{t:List UInt8}{n:Int}(hc:c.toNat≠45)(h:itoa n=c :: t):Digits (c :: t)/\couldBe false (c :: t)=n:=by
 by_cases hn:n<0
 . obtain⟨t',e,-⟩:=(q6t n).1 hn
   rw[h]at e;simp only[List.cons.injEq]at e;rw[e.1]at hc;exact absurd rfl hc
 . obtain⟨e,-⟩:=(q6t n).2 hn
   rw[<- h,e];obtain⟨a,b,-⟩:=qh6 n.natAbs;refine⟨a,?_⟩;simp only[couldBe,b,Bool.false_eq_true,if_false];omega
end Go.Proofs.YtfmammdgehbjhaaGreatDoor
namespace Go.Proofs.YtfmammdgehbjhaaGreatDoor
open Go Go.RowKit
def rd (l:List UInt8):Int × Bool:=match readDec l with
 | some n=>(n,true)
 | none=>(0,false)
theorem q3s (s:ByteArray)(w:World)(h1:0<s.size)(h20:s.size<=20)(hc:s[0].toNat=45)(x:Int)(ok:Bool)(hr:rd s.data.toList=(x,ok))
 (KL:∀n,I64 n->Lib.itoa n=s.data.toList->Digits (s.data.toList.drop 1)/\couldBe true (s.data.toList.drop 1)=n) :
 Calls Tryz.prog 41 #[.string s] w fun e w'=>e=.returned (.tuple #[Ya x,.bool ok])/\Below w.heap.size w w':=by
 have HKL:=h_ KL;have HR:=h_ hr;clear KL hr
 have HB0:Hi (Below w.heap.size w (w.alloc (.cells #[] 3))):=(bR _ _).alloc (nR _) _
 have hNo:(∀n,I64 n->Lib.itoa n≠s.data.toList)->x=0/\ok=false:=fun h=>by
  have h2:=HR.u;rw[rd,q3q h]at h2;simp only[Zv]at h2;exact⟨h2.1.symm,h2.2.symm⟩
 have HNO:=h_ hNo;clear hNo
 have hl:s.data.toList.length=s.size:=by rw[Z7];rfl
 have HL:=h_ hl;clear hl
 have e0:((s.size:Int)==0)=false:=by rw[size0];simp only[Zy];omega
 have e1:decide ((20:Int)<s.size)=false:=by simp only[Zy];omega
 have e2:((s[0].toNat:Int)==45)=true:=by simp;omega
 clear hc
 obtain⟨F,hF⟩:∃F,F=1:=⟨_,rfl⟩
 have HF:=h_ hF;clear hF
 go_enter Tryz.func41,Tryz.ntmps41
 go_wp2_with fail
 go_loopw [6,7] (fun v i wr=>∃(k:Nat) (o:List Nat),F<=k/\k<=s.size/\i=Ya ((k:Int) - 1)/\o=low (s.data.toList.drop k)/\Digits (s.data.toList.drop k)/\wr.ownsRow w.heap.size 3 1 v o.length (ui o)/\Below w.heap.size w wr) (fun _ i _=>(intOf i+1).toNat)
 case atStart =>
  have hdrop:s.data.toList.drop s.size=[]:=by rw[<- HL.u];simp
  exact⟨s.size,[],by have:=HF.u;omega,nR _,rfl,by rw[hdrop];rfl,(by rw[hdrop];intro c hc;cases hc),q9y w 3,HB0.u⟩
 case round =>
  clear HB0;obtain⟨k,o,hFk,hk,rfl,ho,hdg,hown,hb⟩:=hrel;have HO:=h_ hown;have HB:=h_ hb;have HOO:=h_ ho;have HDG:=h_ hdg;clear hown hb hdg;have hol:o.length<=20:=by rw[ho];simp[low];omega
  clear ho;have hF:=HF.u;replace hFk:1<=k:=by omega
  clear hF;by_cases hend:k=1
  . subst hend
    have hdig:=HDG.u;have hoo:=HOO.u;have HOd:DigS wr u6 o:=q2q HO.u;have hod:Dig o:=(by rw[hoo];exact qh7 hdig);clear HO HOO HDG hdig;go_wp2_with fail;refine(q6x u6 o wr HOd hod (by omega)).mono ?_;rintro e w' ⟨r,rfl,hr,rfl⟩;have hz:couldBe true (s.data.toList.drop 1) = -(dval o:Int):=(by rw[couldBe,hoo];rfl);have HZ:=h_ hz;clear hz hoo HOd;obtain⟨z,hzz⟩:∃z:Int,z = -(dval o:Int):=⟨_,rfl⟩;have hab:z.natAbs=dval o:=(by omega);rw[<- hab]at hr;have hlz:(digs z.natAbs).length<=500:=(by rw[hab];exact Yt (q1b (qg6 hod)) (by omega));have hres:(∀n,I64 n->Lib.itoa n=s.data.toList->n=z):=fun n hn e=>by
     have h2:=(HKL.u n hn e).2;rw[HZ.u]at h2;omega
    have HRES:=h_ hres;clear hres;have hsgn:decide (0<(digs z.natAbs).length)=decide (z<0):=by
     rw[decide_eq_decide];have h0:(digs z.natAbs).length=0 ↔ z.natAbs=0:=(by rw[Z2,qbw]);omega
    obtain⟨g,cg,rfl,-⟩:=id hr;have hBV:BigV w' (.agg #[.bool (decide (z<0)),.slice g (digs z.natAbs).length cg]) z:=⟨_,rfl,hr⟩;obtain⟨lz,hlzz⟩:=Nq ((digs z.natAbs).length);rw[hlzz]at hBV hsgn⊢;have HLZ:=h_ (And.intro hlz hlzz);clear hlz hlzz hr hab hzz HZ hod;obtain⟨sz,hsz⟩:=Nq (decide (z<0));rw[hsz]at hBV;have HS:=h_ hsz;have hb9:Below w'.heap.size w' (w'.alloc (.cells #[.bool sz,.slice g lz cg] 124)):=(bR _ _).alloc (nR _) _;have H9:=h_ (Blk.new w' 124 #[.bool sz,.slice g lz cg]);have HBV:=h_ (hBV.mono hb9);have HW:=mT HB hb9;clear hBV hb9;have HWW:Hi True:=trivial;have e3:decide (0<lz)=sz:=hsgn.trans hsz;clear hsgn hsz;go_wp2_with fail;refine(q6v _ z _ HBV.u HLZ.u.1).mono ?_;rintro e w3 ⟨rfl,hb3⟩;replace H9:=mB H9 hb3;replace HBV:=h_ (HBV.u.mono hb3);replace HW:=mT HW hb3;clear hb3;by_cases hf:-9223372036854775808<=z/\z<=9223372036854775807
    . have HFI:=h_ hf
      rw[show fitsB z=true from Yh hf];clear hf;obtain⟨⟨z0,z1⟩,-⟩:=two H9.u;go_wp2_with fail;refine(q4v _ z _ HBV.u HFI.u.1 HFI.u.2).mono ?_;rintro e w4 ⟨rfl,hb4⟩;replace HW:=mT HW hb4;clear hb4 z0 z1 H9 HBV;go_wp2_with fail;refine(q2b z _ HFI.u.1 HFI.u.2).mono ?_;rintro e w5 ⟨rfl,hb5⟩;replace HW:=mT HW hb5;clear hb5;by_cases heq:Lib.itoa z=s.data.toList
      . have hx:x=z/\ok=true:=by
         have h2:=HR.u;rw[<- heq,rd,q3p HFI.u]at h2;simp only[Zv]at h2;exact⟨h2.1.symm,h2.2.symm⟩
        obtain⟨rfl,rfl⟩:=hx;have e5:((⟨(Lib.itoa x).toArray⟩:ByteArray).toList==s.toList)=true:=(by rw[Y4,Y4,<- heq];simp);obtain⟨T,hT⟩:∃T:ByteArray,T=⟨(Lib.itoa x).toArray⟩:=⟨_,rfl⟩;rw[<- hT]at e5⊢;clear hT heq;go_wp2;exact bodyPost_ret (v:=.tuple #[Ya x,.bool true]) (by simp[results,Tryz.results41,go_sem]) rfl ⟨rfl,HW.u⟩
      . obtain⟨rfl,rfl⟩:=HNO.u fun n hn e=>heq (by rw[<- HRES.u n hn e];exact e)
        have e5:((⟨(Lib.itoa z).toArray⟩:ByteArray).toList==s.toList)=false:=(by rw[Y4,Y4,Ye];simpa using heq);obtain⟨T,hT⟩:∃T:ByteArray,T=⟨(Lib.itoa z).toArray⟩:=⟨_,rfl⟩;rw[<- hT]at e5⊢;clear hT heq;go_wp2;exact bodyPost_ret (v:=.tuple #[Ya 0,.bool false]) (by simp[results,Tryz.results41,go_sem]) rfl ⟨rfl,HW.u⟩
    . rw[show fitsB z=false from Yg hf]
      obtain⟨rfl,rfl⟩:=HNO.u fun n hn e=>hf (by rw[<- HRES.u n hn e];exact hn);clear hf;go_wp2;exact bodyPost_ret (v:=.tuple #[Ya 0,.bool false]) (by simp[results,Tryz.results41,go_sem]) rfl ⟨rfl,HW.u⟩
  . obtain⟨k,rfl⟩:∃k',k=k'+1:=⟨k - 1,by omega⟩
    rw[show((k+1:Nat):Int) - 1=(k:Int) by omega];have hks:k<s.size:=(by omega);have hFk':1<=k:=(by omega);have hcell:s.data.toList.drop k=s[k] :: s.data.toList.drop (k+1):=by
     rw[Y8 (by have:=HL.u;omega)];rfl
    have HC:=h_ hcell;clear hcell;have bad:¬ (48<=s[k].toNat/\s[k].toNat<=57)->x=0/\ok=false:=fun hbad=>HNO.u fun n hn e=>hbad (by
     refine(HKL.u n hn e).1 s[k] ?_;have e3:s.data.toList.drop k=(s.data.toList.drop 1).drop (k - 1):=(by rw[Vv];congr 1;omega);have:s[k]∈s.data.toList.drop k:=(by rw[HC.u];exact Zd ..);rw[e3]at this;exact Vl this)
    have HBAD:=h_ bad;clear bad;by_cases g1:s[k].toNat<48
    . obtain⟨rfl,rfl⟩:=HBAD.u (by omega)
      go_wp2;exact bodyPost_ret (v:=.tuple #[Ya 0,.bool false]) (by simp[results,Tryz.results41,go_sem]) rfl ⟨rfl,HB.u⟩
    by_cases g2:57<s[k].toNat
    . obtain⟨rfl,rfl⟩:=HBAD.u (by omega)
      go_wp2;exact bodyPost_ret (v:=.tuple #[Ya 0,.bool false]) (by simp[results,Tryz.results41,go_sem]) rfl ⟨rfl,HB.u⟩
    obtain⟨i0,hi,hz0,hz1,hz2⟩:=info_parts infoI;go_wp2_with (at_builtin;refine wpList_append_own _ rfl _ _ 50 rfl w.heap.size 3 i0 _ 1 8 Tryz.underlying50 hi hz0 hz1 hz2 rfl (by omega) u6 _ _ rfl (HO.u.alloc _) ⟨wr.heap.size,0,none⟩ 1 1 [Ya ((s[k].toNat:Int) - 48)] rfl rfl (qbm wr 3 _) (by simp[Value.oneCell']) (by unfold maxLen;omega) (by omega) (by have:=HB.u.size;simp;omega) ?_);intro v' w' hown' hgrow' _;have hB':=(HB.u.alloc (by have:=HB.u.size;omega) (.cells #[Ya ((s[k].toNat:Int) - 48)] 3)).grown hgrow' (by have:=HB.u.size;simp;omega) (fun q' e=>q7l HO.u e);have HO3:Hi (w'.ownsRow w.heap.size 3 1 v' (o.length+1) (ui (o++[dgt s[k]]))):=by
     rw[Hi];rw[show(s[k].toNat:Int) - 48=((dgt s[k]:Nat):Int) by unfold dgt;omega]at hown';simpa [ui] using hown'
    have HB3:=h_ hB';clear hown' hgrow' hB' hi hz0 hz1 hz2;go_wp2_with fail;go_roundw
    case rel =>
     refine⟨k,o++[dgt s[k]],by have:=HF.u;omega,by omega,rfl,?_,?_,?_,HB3.u⟩
     . rw[HC.u,low,Vy,Zt,HOO.u];rfl
     . rw[HC.u];intro c hc
       rcases Y9.1 hc with rfl | hc
       . omega
       . exact HDG.u c hc
     . have:=HO3.u;simpa using this
    case measure=>simp[intOf]
theorem q2j (s:ByteArray)(w:World)(h1:0<s.size)(h20:s.size<=20)(hc:s[0].toNat≠45)(x:Int)(ok:Bool)(hr:rd s.data.toList=(x,ok))
 (KL:∀n,I64 n->Lib.itoa n=s.data.toList->Digits (s.data.toList.drop 0)/\couldBe false (s.data.toList.drop 0)=n) :
 Calls Tryz.prog 41 #[.string s] w fun e w'=>e=.returned (.tuple #[Ya x,.bool ok])/\Below w.heap.size w w':=by
 have HKL:=h_ KL;have HR:=h_ hr;clear KL hr
 have HB0:Hi (Below w.heap.size w (w.alloc (.cells #[] 3))):=(bR _ _).alloc (nR _) _
 have hNo:(∀n,I64 n->Lib.itoa n≠s.data.toList)->x=0/\ok=false:=fun h=>by
  have h2:=HR.u;rw[rd,q3q h]at h2;simp only[Zv]at h2;exact⟨h2.1.symm,h2.2.symm⟩
 have HNO:=h_ hNo;clear hNo
 have hl:s.data.toList.length=s.size:=by rw[Z7];rfl
 have HL:=h_ hl;clear hl
 have e0:((s.size:Int)==0)=false:=by rw[size0];simp only[Zy];omega
 have e1:decide ((20:Int)<s.size)=false:=by simp only[Zy];omega
 have e2:((s[0].toNat:Int)==45)=false:=by rw[Ye];omega
 clear hc
 obtain⟨F,hF⟩:∃F,F=0:=⟨_,rfl⟩
 have HF:=h_ hF;clear hF
 go_enter Tryz.func41,Tryz.ntmps41
 go_wp2_with fail
 go_loopw [6,7] (fun v i wr=>∃(k:Nat) (o:List Nat),F<=k/\k<=s.size/\i=Ya ((k:Int) - 1)/\o=low (s.data.toList.drop k)/\Digits (s.data.toList.drop k)/\wr.ownsRow w.heap.size 3 1 v o.length (ui o)/\Below w.heap.size w wr) (fun _ i _=>(intOf i+1).toNat)
 case atStart =>
  have hdrop:s.data.toList.drop s.size=[]:=by rw[<- HL.u];simp
  exact⟨s.size,[],by have:=HF.u;omega,nR _,rfl,by rw[hdrop];rfl,(by rw[hdrop];intro c hc;cases hc),q9y w 3,HB0.u⟩
 case round =>
  clear HB0;obtain⟨k,o,hFk,hk,rfl,ho,hdg,hown,hb⟩:=hrel;have HO:=h_ hown;have HB:=h_ hb;have HOO:=h_ ho;have HDG:=h_ hdg;clear hown hb hdg;have hol:o.length<=20:=by rw[ho];simp[low];omega
  clear ho;have hF:=HF.u;replace hFk:0<=k:=by omega
  clear hF;by_cases hend:k=0
  . subst hend
    have hdig:=HDG.u;have hoo:=HOO.u;have HOd:DigS wr u6 o:=q2q HO.u;have hod:Dig o:=(by rw[hoo];exact qh7 hdig);clear HO HOO HDG hdig;go_wp2_with fail;refine(q6x u6 o wr HOd hod (by omega)).mono ?_;rintro e w' ⟨r,rfl,hr,rfl⟩;have hz:couldBe false (s.data.toList.drop 0)=(dval o:Int):=(by rw[couldBe,hoo];rfl);have HZ:=h_ hz;clear hz hoo HOd;obtain⟨z,hzz⟩:∃z:Int,z=(dval o:Int):=⟨_,rfl⟩;have hab:z.natAbs=dval o:=(by omega);rw[<- hab]at hr;have hlz:(digs z.natAbs).length<=500:=(by rw[hab];exact Yt (q1b (qg6 hod)) (by omega));have hres:(∀n,I64 n->Lib.itoa n=s.data.toList->n=z):=fun n hn e=>by
     have h2:=(HKL.u n hn e).2;rw[HZ.u]at h2;omega
    have HRES:=h_ hres;clear hres;have hsgn:decide (z<0)=false:=(by rw[Zy];omega);obtain⟨g,cg,rfl,-⟩:=id hr;have hBV:BigV w' (.agg #[.bool (decide (z<0)),.slice g (digs z.natAbs).length cg]) z:=⟨_,rfl,hr⟩;obtain⟨lz,hlzz⟩:=Nq ((digs z.natAbs).length);rw[hlzz]at hBV⊢;have HLZ:=h_ (And.intro hlz hlzz);clear hlz hlzz hr hab hzz HZ hod;obtain⟨sz,hsz⟩:=Nq (decide (z<0));rw[hsz]at hBV;have HS:=h_ hsz;have hb9:Below w'.heap.size w' (w'.alloc (.cells #[.bool sz,.slice g lz cg] 124)):=(bR _ _).alloc (nR _) _;have H9:=h_ (Blk.new w' 124 #[.bool sz,.slice g lz cg]);have HBV:=h_ (hBV.mono hb9);have HW:=mT HB hb9;clear hBV hb9;have HWW:Hi True:=trivial;obtain rfl:sz=false:=hsz.symm.trans hsgn;clear hsgn hsz;go_wp2_with fail;refine(q6v _ z _ HBV.u HLZ.u.1).mono ?_;rintro e w3 ⟨rfl,hb3⟩;replace H9:=mB H9 hb3;replace HBV:=h_ (HBV.u.mono hb3);replace HW:=mT HW hb3;clear hb3;by_cases hf:-9223372036854775808<=z/\z<=9223372036854775807
    . have HFI:=h_ hf
      rw[show fitsB z=true from Yh hf];clear hf;obtain⟨⟨z0,z1⟩,-⟩:=two H9.u;go_wp2_with fail;refine(q4v _ z _ HBV.u HFI.u.1 HFI.u.2).mono ?_;rintro e w4 ⟨rfl,hb4⟩;replace HW:=mT HW hb4;clear hb4 z0 z1 H9 HBV;go_wp2_with fail;refine(q2b z _ HFI.u.1 HFI.u.2).mono ?_;rintro e w5 ⟨rfl,hb5⟩;replace HW:=mT HW hb5;clear hb5;by_cases heq:Lib.itoa z=s.data.toList
      . have hx:x=z/\ok=true:=by
         have h2:=HR.u;rw[<- heq,rd,q3p HFI.u]at h2;simp only[Zv]at h2;exact⟨h2.1.symm,h2.2.symm⟩
        obtain⟨rfl,rfl⟩:=hx;have e5:((⟨(Lib.itoa x).toArray⟩:ByteArray).toList==s.toList)=true:=(by rw[Y4,Y4,<- heq];simp);obtain⟨T,hT⟩:∃T:ByteArray,T=⟨(Lib.itoa x).toArray⟩:=⟨_,rfl⟩;rw[<- hT]at e5⊢;clear hT heq;go_wp2;exact bodyPost_ret (v:=.tuple #[Ya x,.bool true]) (by simp[results,Tryz.results41,go_sem]) rfl ⟨rfl,HW.u⟩
      . obtain⟨rfl,rfl⟩:=HNO.u fun n hn e=>heq (by rw[<- HRES.u n hn e];exact e)
        have e5:((⟨(Lib.itoa z).toArray⟩:ByteArray).toList==s.toList)=false:=(by rw[Y4,Y4,Ye];simpa using heq);obtain⟨T,hT⟩:∃T:ByteArray,T=⟨(Lib.itoa z).toArray⟩:=⟨_,rfl⟩;rw[<- hT]at e5⊢;clear hT heq;go_wp2;exact bodyPost_ret (v:=.tuple #[Ya 0,.bool false]) (by simp[results,Tryz.results41,go_sem]) rfl ⟨rfl,HW.u⟩
    . rw[show fitsB z=false from Yg hf]
      obtain⟨rfl,rfl⟩:=HNO.u fun n hn e=>hf (by rw[<- HRES.u n hn e];exact hn);clear hf;go_wp2;exact bodyPost_ret (v:=.tuple #[Ya 0,.bool false]) (by simp[results,Tryz.results41,go_sem]) rfl ⟨rfl,HW.u⟩
  . obtain⟨k,rfl⟩:∃k',k=k'+1:=⟨k - 1,by omega⟩
    rw[show((k+1:Nat):Int) - 1=(k:Int) by omega];have hks:k<s.size:=(by omega);have hFk':0<=k:=(by omega);have hcell:s.data.toList.drop k=s[k] :: s.data.toList.drop (k+1):=by
     rw[Y8 (by have:=HL.u;omega)];rfl
    have HC:=h_ hcell;clear hcell;have bad:¬ (48<=s[k].toNat/\s[k].toNat<=57)->x=0/\ok=false:=fun hbad=>HNO.u fun n hn e=>hbad (by
     refine(HKL.u n hn e).1 s[k] ?_;have e3:s.data.toList.drop k=(s.data.toList.drop 0).drop (k - 0):=(by rw[Vv];congr 1;omega);have:s[k]∈s.data.toList.drop k:=(by rw[HC.u];exact Zd ..);rw[e3]at this;exact Vl this)
    have HBAD:=h_ bad;clear bad;by_cases g1:s[k].toNat<48
    . obtain⟨rfl,rfl⟩:=HBAD.u (by omega)
      go_wp2;exact bodyPost_ret (v:=.tuple #[Ya 0,.bool false]) (by simp[results,Tryz.results41,go_sem]) rfl ⟨rfl,HB.u⟩
    by_cases g2:57<s[k].toNat
    . obtain⟨rfl,rfl⟩:=HBAD.u (by omega)
      go_wp2;exact bodyPost_ret (v:=.tuple #[Ya 0,.bool false]) (by simp[results,Tryz.results41,go_sem]) rfl ⟨rfl,HB.u⟩
    obtain⟨i0,hi,hz0,hz1,hz2⟩:=info_parts infoI;go_wp2_with (at_builtin;refine wpList_append_own _ rfl _ _ 50 rfl w.heap.size 3 i0 _ 1 8 Tryz.underlying50 hi hz0 hz1 hz2 rfl (by omega) u6 _ _ rfl (HO.u.alloc _) ⟨wr.heap.size,0,none⟩ 1 1 [Ya ((s[k].toNat:Int) - 48)] rfl rfl (qbm wr 3 _) (by simp[Value.oneCell']) (by unfold maxLen;omega) (by omega) (by have:=HB.u.size;simp;omega) ?_);intro v' w' hown' hgrow' _;have hB':=(HB.u.alloc (by have:=HB.u.size;omega) (.cells #[Ya ((s[k].toNat:Int) - 48)] 3)).grown hgrow' (by have:=HB.u.size;simp;omega) (fun q' e=>q7l HO.u e);have HO3:Hi (w'.ownsRow w.heap.size 3 1 v' (o.length+1) (ui (o++[dgt s[k]]))):=by
     rw[Hi];rw[show(s[k].toNat:Int) - 48=((dgt s[k]:Nat):Int) by unfold dgt;omega]at hown';simpa [ui] using hown'
    have HB3:=h_ hB';clear hown' hgrow' hB' hi hz0 hz1 hz2;go_wp2_with fail;go_roundw
    case rel =>
     refine⟨k,o++[dgt s[k]],by have:=HF.u;omega,by omega,rfl,?_,?_,?_,HB3.u⟩
     . rw[HC.u,low,Vy,Zt,HOO.u];rfl
     . rw[HC.u];intro c hc
       rcases Y9.1 hc with rfl | hc
       . omega
       . exact HDG.u c hc
     . have:=HO3.u;simpa using this
    case measure=>simp[intOf]
theorem qdu {s:ByteArray}(h:s.size=0∨20<s.size):rd s.data.toList=(0,false):=by
 rw[rd,q3q fun n hn e=>?_]
 have:=qcm n hn
 rw[e,Z7]at this
 have e2:s.data.size=s.size:=rfl
 omega
theorem q2e (s:ByteArray)(w:World)(hs:s.size<=9223372036854775807)(x:Int)(ok:Bool)(hr:rd s.data.toList=(x,ok)) :
 Calls Tryz.prog 41 #[.string s] w fun e w'=>e=.returned (.tuple #[Ya x,.bool ok])/\Below w.heap.size w w':=by
 by_cases h0:s.size=0
 . rw[qdu (.inl h0)]at hr
   simp only[Zv]at hr;obtain⟨rfl,rfl⟩:=hr;have e0:((s.size:Int)==0)=true:=by rw[size0];simpa using h0
   clear h0;go_enter Tryz.func41,Tryz.ntmps41;go_wp2;exact bodyPost_ret (v:=.tuple #[Ya 0,.bool false]) (by simp[results,Tryz.results41,go_sem]) rfl ⟨rfl,bR _ _⟩
 by_cases h20:20<s.size
 . rw[qdu (.inr h20)]at hr
   simp only[Zv]at hr;obtain⟨rfl,rfl⟩:=hr;have e0:((s.size:Int)==0)=false:=by rw[size0];simpa using h0
   have e1:decide ((20:Int)<s.size)=true:=by simp only[Yj];omega
   clear h0;go_enter Tryz.func41,Tryz.ntmps41;go_wp2;exact bodyPost_ret (v:=.tuple #[Ya 0,.bool false]) (by simp[results,Tryz.results41,go_sem]) rfl ⟨rfl,bR _ _⟩
 . have h1:0<s.size:=by omega
   have hcons:∃r,s.data.toList=s[0] :: r:=⟨s.data.toList.drop 1,Y8 (l:=s.data.toList) (i:=0) (by rw[Z7];exact h1)⟩;obtain⟨r,hcons⟩:=hcons;by_cases hc:s[0].toNat=45
   . refine q3s s w h1 (by omega) hc x ok hr fun n hn e=>?_
     rw[hcons]at e⊢;have hc':s[0]=45:=UInt8.toNat_inj.1 hc;rw[hc']at e;exact q8o e
   . refine q2j s w h1 (by omega) hc x ok hr fun n hn e=>?_
     rw[hcons]at e⊢;exact q8p hc e
theorem q81:showB 0 0 ⟨#[]⟩=⟨#[98,108,97,110,107]⟩:=by simp[showB,okVal,ByteArray.size]
theorem qak:showB 2 1 ⟨#[]⟩=⟨#[116,114,117,101]⟩:=by simp[showB,okVal,ByteArray.size]
theorem q82:showB 2 0 ⟨#[]⟩=⟨#[102,97,108,115,101]⟩:=by simp[showB,okVal,ByteArray.size]
theorem three' {w:World}{b:Nat}{t:TypeId}{v0 v1 v2:Value}(h:Blk w b t [v0,v1,v2]) :
 (w.cell? ⟨b,0,none⟩=some v0/\w.cell? ⟨b,1,none⟩=some v1/\w.cell? ⟨b,2,none⟩=some v2)/\(w.frozen? ⟨b,0,none⟩=false/\w.frozen? ⟨b,1,none⟩=false/\w.frozen? ⟨b,2,none⟩=false):=⟨⟨h.cell 0,h.cell 1,h.cell 2⟩,⟨h.free 0,h.free 1,h.free 2⟩⟩
theorem qiq (s:ByteArray)(h2:2<=s.size)(w:World):(Instr.slice 9 (.string s) (some (Ya 1)) (some (Ya ((s.size:Int) - 1))) none).run Tryz.prog w=.ok (.string (mid s)) w:=by
 rw[run_slice_string w 9 s .i64 .i64 _ _ Tryz.underlying9 (by omega) (by omega) (by omega),show((1:Int)).toNat=1 from rfl,show((s.size:Int) - 1).toNat=s.size - 1 by omega]
 rfl
def ErrV (name:String)(w:World):Prop:=∃tp p,w.var? Tryz.prog name=some #[.iface tp p]
theorem qf4 {w w':World}{P:Program}{name:String}{cs:Array Value}(h:w.var? P name=some cs)(hb:Below w.heap.size w w'):w'.var? P name=some cs:=by
 unfold World.var? at h⊢
 cases hg:P.globalNamed name with
 | none=>rw[hg]at h;cases h
 | some g =>
  rw[hg]at h;simp only[Option.bind_some]at h⊢;have hlt:g<w.heap.size:=by
   apply Nat.lt_of_not_le;intro h0;rw[Oc h0]at h;cases h
  rw[hb.block g hlt];exact h
theorem ErrV.mono {name:String}{w w':World}(h:ErrV name w)(hb:Below w.heap.size w w'):ErrV name w':=by
 obtain⟨tp,p,h⟩:=h
 exact⟨tp,p,qf4 h hb⟩
theorem q13 (s:ByteArray)(w:World)(hs:s.size<=1048576)(hp:Pow w)(h1:ErrV "strconv.ErrSyntax" w) (h2:ErrV "strconv.ErrRange" w) (x:Int) (ok:Bool) (hr:rd s.data.toList=(x,ok)) :
 Calls Tryz.prog 164 #[.string s] w fun e w'=>e=.returned (.tuple #[Ya x,.bool ok])/\Below w.heap.size w w':=by
 have HP:=h_ hp;have HR:=h_ hr;clear hp hr
 cases hq:Lib.parseIntB 64 s.data.toList with
 | ok n =>
  have hb:=Lib.parseIntB_bounds hq;have hn:I64 n:=by have:(2:Nat) ^ (64 - 1)=9223372036854775808:=rfl;unfold I64;omega
  have HN:=h_ hn;clear hb hn;go_enter Tryz.func164,Tryz.ntmps164;go_wp2_with fail;refine(Tryz.strconv_ParseInt_10_at64_ok s (by omega) n hq w).mono ?_;rintro e w1 ⟨rfl,hw1⟩;have hb1:Below w.heap.size w w1:=by
   rcases hw1 with rfl | ⟨t,rfl⟩
   . exact bR _ _
   . exact Lib.bytesWorld_below _ _ _
  clear hw1;have HW:=h_ hb1;clear hb1;go_wp2_with fail;refine(q49 n _ HN.u.1 HN.u.2 (HP.u.mono HW.u)).mono ?_;rintro e w2 ⟨rfl,hb2⟩;replace HW:=mT HW hb2;clear hb2;by_cases heq:Lib.itoa n=s.data.toList
  . have hx:x=n/\ok=true:=by
     have h3:=HR.u;rw[rd,readDec,hq]at h3;simp only[Yn heq,Zv]at h3;exact⟨h3.1.symm,h3.2.symm⟩
    obtain⟨rfl,rfl⟩:=hx;have e5:((⟨(Lib.itoa x).toArray⟩:ByteArray).toList==s.toList)=true:=(by rw[Y4,Y4,<- heq];simp);obtain⟨T,hT⟩:∃T:ByteArray,T=⟨(Lib.itoa x).toArray⟩:=⟨_,rfl⟩;rw[<- hT]at e5⊢;clear hT heq hq;go_wp2;exact bodyPost_ret (v:=.tuple #[Ya x,.bool true]) (by simp[results,Tryz.results164,go_sem]) rfl ⟨rfl,HW.u⟩
  . have hx:x=0/\ok=false:=by
     have h3:=HR.u;rw[rd,readDec,hq]at h3;simp only[Yi heq,Zv]at h3;exact⟨h3.1.symm,h3.2.symm⟩
    obtain⟨rfl,rfl⟩:=hx;have e5:((⟨(Lib.itoa n).toArray⟩:ByteArray).toList==s.toList)=false:=(by rw[Y4,Y4,Ye];simpa using heq);obtain⟨T,hT⟩:∃T:ByteArray,T=⟨(Lib.itoa n).toArray⟩:=⟨_,rfl⟩;rw[<- hT]at e5⊢;clear hT heq hq;go_wp2;exact bodyPost_ret (v:=.tuple #[Ya 0,.bool false]) (by simp[results,Tryz.results164,go_sem]) rfl ⟨rfl,HW.u⟩
 | «syntax» =>
  obtain⟨tp,p,hv⟩:=h1;have hx:x=0/\ok=false:=by
   have h3:=HR.u;rw[rd,readDec,hq]at h3;simp only[Zv]at h3;exact⟨h3.1.symm,h3.2.symm⟩
  obtain⟨rfl,rfl⟩:=hx;go_enter Tryz.func164,Tryz.ntmps164;go_wp2_with fail;refine(Tryz.strconv_ParseInt_10_at64_syntax_var s (by omega) hq tp p w hv).mono ?_;rintro e w1 ⟨N,rfl,-,-,hb1⟩;have HW:=h_ hb1;clear hb1 hq;go_wp2;exact bodyPost_ret (v:=.tuple #[Ya 0,.bool false]) (by simp[results,Tryz.results164,go_sem]) rfl ⟨rfl,HW.u⟩
 | range =>
  obtain⟨tp,p,hv⟩:=h2;have hx:x=0/\ok=false:=by
   have h3:=HR.u;rw[rd,readDec,hq]at h3;simp only[Zv]at h3;exact⟨h3.1.symm,h3.2.symm⟩
  obtain⟨rfl,rfl⟩:=hx;go_enter Tryz.func164,Tryz.ntmps164;go_wp2_with fail;refine(Tryz.strconv_ParseInt_10_at64_range_var s (by omega) hq tp p w hv).mono ?_;rintro e w1 ⟨N,rfl,-,-,hb1⟩;have HW:=h_ hb1;clear hb1 hq;go_wp2;exact bodyPost_ret (v:=.tuple #[Ya 0,.bool false]) (by simp[results,Tryz.results164,go_sem]) rfl ⟨rfl,HW.u⟩
def lv (s:ByteArray):Int × Int × ByteArray :=
 if s=⟨#[98,108,97,110,107]⟩ then (0,0,⟨#[]⟩)
 else if s=⟨#[116,114,117,101]⟩ then (2,1,⟨#[]⟩)
 else if s=⟨#[102,97,108,115,101]⟩ then (2,0,⟨#[]⟩)
 else if 2<=s.size/\s.data.toList.head? = some 34 then (3,0,mid s)
 else (1,(rd s.data.toList).1,⟨#[]⟩)
theorem qgi {s:ByteArray}(h:0<s.size):s.data.toList.head? = some s[0]:=by
 have e:s.data.toList=s[0] :: s.data.toList.drop 1:=Y8 (l:=s.data.toList) (i:=0) (by rw[Z7];exact h)
 rw[e];rfl
theorem q9a (n:Int):(Lib.itoa n).head?≠some 34:=by
 by_cases hn:n<0
 . obtain⟨t,e,-⟩:=(q6t n).1 hn
   rw[e];simp
 . obtain⟨e,-⟩:=(q6t n).2 hn
   obtain⟨c,r,e2,h1,h2⟩:=qbs n.natAbs;rw[e,e2];intro h;simp only[List.head?_cons,Zr]at h;rw[h]at h1;exact absurd h1 (by decide)
theorem q5i (t:ByteArray):((⟨#[34]⟩:ByteArray)++t++⟨#[34]⟩).data.toList.head? = some 34:=by simp[ByteArray.data_append]
theorem rv_lv (s:ByteArray):rv s=if showB (lv s).1 (lv s).2.1 (lv s).2.2=s then ((lv s).1,(lv s).2.1,(lv s).2.2,true) else (0,0,⟨#[]⟩,false):=by
 unfold rv lv
 by_cases n1:s=⟨#[98,108,97,110,107]⟩
 . simp only[Yn n1]
   rw[Yn (by rw[q81,n1])]
 by_cases n2:s=⟨#[116,114,117,101]⟩
 . simp only[Yi n1,Yn n2]
   rw[Yn (by rw[qak,n2])]
 by_cases n3:s=⟨#[102,97,108,115,101]⟩
 . simp only[Yi n1,Yi n2,Yn n3]
   rw[Yn (by rw[q82,n3])]
 simp only[Yi n1,Yi n2,Yi n3]
 by_cases h:2<=s.size/\s.data.toList.head? = some 34
 . simp only[Yn h]
   rw[q3q fun n _ e=>q9a n (by rw[e];exact h.2)];simp only;cases ht:okText (mid s)
   . rw[Yi (by simp),Yi]
     intro e;have:showB 3 0 (mid s)=⟨#[63]⟩:=(by simp[showB,okVal,ht]);rw[this]at e;rw[<- e]at h;exact absurd h.1 (by decide)
   . have:showB 3 0 (mid s)=⟨#[34]⟩++mid s++⟨#[34]⟩:=by simp[showB,okVal,ht]
     rw[this];by_cases hq:(⟨#[34]⟩:ByteArray)++mid s++⟨#[34]⟩=s
     . rw[Yn ⟨h.1,rfl,hq⟩,Yn hq]
     . rw[Yi (fun hh=>hq hh.2.2),Yi hq]
 . simp only[Yi h]
   have hsh:∀n,showB 1 n ⟨#[]⟩=⟨(Lib.itoa n).toArray⟩:=fun n=>by simp[showB,okVal,ByteArray.size]
   rw[hsh];cases hq:readDec s.data.toList with
   | some n =>
    have e:=q3r hq;simp only[rd,hq];rw[Yn];exact q88 (by simpa using e)
   | none =>
    simp only[rd,hq];rw[Yi (fun hh=>h ⟨hh.1,by rw[<- hh.2.2];exact q5i _⟩),Yi];intro e;rw[<- e]at hq;have:=q3p (n:=0) ⟨by omega,by omega⟩;rw[this]at hq;cases hq
theorem q78 (s:ByteArray)(w:World)(hs:s.size<=1048576)(hp:Pow w)(q1:ErrV "strconv.ErrSyntax" w) (q2:ErrV "strconv.ErrRange" w) (kind num:Int) (t:ByteArray) (hr:lv s=(kind,num,t)) :
 Calls Tryz.prog 132 #[.string s] w fun e w'=>e=.returned (.agg (Ju kind num t))/\Below w.heap.size w w':=by
 have HR:=h_ (Blk.new w 131 J9)
 have HW:Hi (Below w.heap.size w (w.alloc (.cells J9 131))):=(bR _ _).alloc (nR _) _
 go_enter Tryz.func132,Tryz.ntmps132
 by_cases n1:s=⟨#[98,108,97,110,107]⟩
 . have e1:(s.toList==[98,108,97,110,107])=true:=by rw[n1];decide +kernel
   rw[lv,Yn n1]at hr;simp only[Zv]at hr;obtain⟨rfl,rfl,rfl⟩:=hr;clear n1;go_wp2_with fail;refine(q19 _).mono ?_;rintro e w1 ⟨rfl,hb⟩;replace HR:=mB HR hb;replace HW:=mT HW hb;clear hb;obtain⟨⟨r0,r1,r2⟩,⟨f0,f1,f2⟩⟩:=three' HR.u;have HZ:=h_ (((HW.u.setCell (p:=⟨w.heap.size,0,none⟩) (nR _) (Ya 0)).setCell (p:=⟨w.heap.size,1,none⟩) (nR _) (Ya 0)).setCell (p:=⟨w.heap.size,2,none⟩) (nR _) Yc);go_wp2;exact bodyPost_ret (v:=.agg J9) (by simp[results,Tryz.results132,go_sem, *]) rfl ⟨rfl,HZ.u⟩
 have e1:(s.toList==[98,108,97,110,107])=false:=by rw[Y4,Ye];exact fun e=>n1 (q88 e)
 by_cases n2:s=⟨#[116,114,117,101]⟩
 . have e2:(s.toList==[116,114,117,101])=true:=by rw[n2];decide +kernel
   rw[lv,Yi n1,Yn n2]at hr;simp only[Zv]at hr;obtain⟨rfl,rfl,rfl⟩:=hr;clear n1 n2;go_wp2_with fail;refine(q24 true _).mono ?_;rintro e w1 ⟨rfl,hb⟩;replace HR:=mB HR hb;replace HW:=mT HW hb;clear hb;rw[Yn rfl];obtain⟨⟨r0,r1,r2⟩,⟨f0,f1,f2⟩⟩:=three' HR.u;have HZ:=h_ (((HW.u.setCell (p:=⟨w.heap.size,0,none⟩) (nR _) (Ya 2)).setCell (p:=⟨w.heap.size,1,none⟩) (nR _) (Ya 1)).setCell (p:=⟨w.heap.size,2,none⟩) (nR _) Yc);go_wp2;exact bodyPost_ret (v:=.agg #[Ya 2,Ya 1,Yc]) (by simp[results,Tryz.results132,go_sem, *]) rfl ⟨rfl,HZ.u⟩
 have e2:(s.toList==[116,114,117,101])=false:=by rw[Y4,Ye];exact fun e=>n2 (q88 e)
 by_cases n3:s=⟨#[102,97,108,115,101]⟩
 . have e3:(s.toList==[102,97,108,115,101])=true:=by rw[n3];decide +kernel
   rw[lv,Yi n1,Yi n2,Yn n3]at hr;simp only[Zv]at hr;obtain⟨rfl,rfl,rfl⟩:=hr;clear n1 n2 n3;go_wp2_with fail;refine(q24 false _).mono ?_;rintro e w1 ⟨rfl,hb⟩;replace HR:=mB HR hb;replace HW:=mT HW hb;clear hb;rw[Yi (by decide)];obtain⟨⟨r0,r1,r2⟩,⟨f0,f1,f2⟩⟩:=three' HR.u;have HZ:=h_ (((HW.u.setCell (p:=⟨w.heap.size,0,none⟩) (nR _) (Ya 2)).setCell (p:=⟨w.heap.size,1,none⟩) (nR _) (Ya 0)).setCell (p:=⟨w.heap.size,2,none⟩) (nR _) Yc);go_wp2;exact bodyPost_ret (v:=.agg #[Ya 2,Ya 0,Yc]) (by simp[results,Tryz.results132,go_sem, *]) rfl ⟨rfl,HZ.u⟩
 have e3:(s.toList==[102,97,108,115,101])=false:=by rw[Y4,Ye];exact fun e=>n3 (q88 e)
 by_cases h2:2<=s.size
 . have hh:=qgi (s:=s) (by omega)
   have h0:0<s.size:=by omega
   by_cases h34:s[0].toNat=34
   . have e4:((s[0].toNat:Int)==34)=true:=by simp;omega
     have hsl:=qiq s h2;rw[lv,Yi n1,Yi n2,Yi n3,Yn ⟨h2,by rw[hh,UInt8.toNat_inj.1 (show s[0].toNat=(34:UInt8).toNat from h34)]⟩]at hr;simp only[Zv]at hr;obtain⟨rfl,rfl,rfl⟩:=hr;obtain⟨M,hM⟩:∃M,M=mid s:=⟨_,rfl⟩;rw[<- hM]at hsl⊢;clear hM h34 n1 n2 n3 hh;go_wp2_with fail;refine(q2n M _).mono ?_;rintro e w1 ⟨rfl,hb⟩;replace HR:=mB HR hb;replace HW:=mT HW hb;clear hb;obtain⟨⟨r0,r1,r2⟩,⟨f0,f1,f2⟩⟩:=three' HR.u;have HZ:=h_ (((HW.u.setCell (p:=⟨w.heap.size,0,none⟩) (nR _) (Ya 3)).setCell (p:=⟨w.heap.size,1,none⟩) (nR _) (Ya 0)).setCell (p:=⟨w.heap.size,2,none⟩) (nR _) (.string M));go_wp2;exact bodyPost_ret (v:=.agg #[Ya 3,Ya 0,.string M]) (by simp[results,Tryz.results132,go_sem, *]) rfl ⟨rfl,HZ.u⟩
   . have e4:((s[0].toNat:Int)==34)=false:=by rw[Ye];omega
     rw[lv,Yi n1,Yi n2,Yi n3,Yi (fun h=>h34 (by have:=h.2;rw[hh]at this;simp only[Zr]at this;rw[this];rfl))]at hr;simp only[Zv]at hr;obtain⟨rfl,rfl,rfl⟩:=hr;clear h34 n1 n2 n3 hh;obtain⟨x,ok,hx⟩:∃x ok,rd s.data.toList=(x,ok):=⟨_,_,rfl⟩;rw[hx];go_wp2_with fail;refine(q13 s _ hs (hp.mono HW.u) (q1.mono HW.u) (q2.mono HW.u) x ok hx).mono ?_;rintro e w1 ⟨rfl,hb⟩;replace HR:=mB HR hb;replace HW:=mT HW hb;clear hb;clear hx;go_wp2_with fail;refine(q32 x _).mono ?_;rintro e w1 ⟨rfl,hb⟩;replace HR:=mB HR hb;replace HW:=mT HW hb;clear hb;obtain⟨⟨r0,r1,r2⟩,⟨f0,f1,f2⟩⟩:=three' HR.u;have HZ:=h_ (((HW.u.setCell (p:=⟨w.heap.size,0,none⟩) (nR _) (Ya 1)).setCell (p:=⟨w.heap.size,1,none⟩) (nR _) (Ya x)).setCell (p:=⟨w.heap.size,2,none⟩) (nR _) Yc);go_wp2;exact bodyPost_ret (v:=.agg #[Ya 1,Ya x,Yc]) (by simp[results,Tryz.results132,go_sem, *]) rfl ⟨rfl,HZ.u⟩
 . have h2':¬ (2:Int)<=s.size:=by omega
   rw[lv,Yi n1,Yi n2,Yi n3,Yi (fun h=>h2 h.1)]at hr;simp only[Zv]at hr;obtain⟨rfl,rfl,rfl⟩:=hr;clear n1 n2 n3;obtain⟨x,ok,hx⟩:∃x ok,rd s.data.toList=(x,ok):=⟨_,_,rfl⟩;rw[hx];go_wp2_with fail;refine(q13 s _ hs (hp.mono HW.u) (q1.mono HW.u) (q2.mono HW.u) x ok hx).mono ?_;rintro e w1 ⟨rfl,hb⟩;replace HR:=mB HR hb;replace HW:=mT HW hb;clear hb;clear hx;go_wp2_with fail;refine(q32 x _).mono ?_;rintro e w1 ⟨rfl,hb⟩;replace HR:=mB HR hb;replace HW:=mT HW hb;clear hb;obtain⟨⟨r0,r1,r2⟩,⟨f0,f1,f2⟩⟩:=three' HR.u;have HZ:=h_ (((HW.u.setCell (p:=⟨w.heap.size,0,none⟩) (nR _) (Ya 1)).setCell (p:=⟨w.heap.size,1,none⟩) (nR _) (Ya x)).setCell (p:=⟨w.heap.size,2,none⟩) (nR _) Yc);go_wp2;exact bodyPost_ret (v:=.agg #[Ya 1,Ya x,Yc]) (by simp[results,Tryz.results132,go_sem, *]) rfl ⟨rfl,HZ.u⟩
theorem q2v (k n:Int)(t:ByteArray)(w:World) :
 Calls Tryz.prog 176 #[.agg (Ju k n t),.agg (Ju k n t)] w fun e w'=>e=.returned (.bool true)/\Below w.heap.size w w':=by
 have hq:(t.toList==t.toList)=true:=by simp
 have hB:∀o1 o2,Below w.heap.size w ((w.alloc o1).alloc o2):=fun o1 o2=>((bR _ w).alloc (nR _) o1).alloc (by simp) o2
 have HB:=h_ hB;clear hB
 go_enter Tryz.func176,Tryz.ntmps176
 go_wp2
 go_ret
 exact⟨rfl,HB.u _ _⟩
end Go.Proofs.YtfmammdgehbjhaaGreatDoor
