import Derived.Test.YtfmammdgehbjhaaGreatDoorW25
set_option maxRecDepth 100000
set_option maxHeartbeats 64000000
namespace Go.Proofs.YtfmammdgehbjhaaGreatDoor
open Go
def tlP (r:List ByteArray):List (List ByteArray):=if r=[] then [] else [r]
def prtL (ts:List ByteArray):List (List ByteArray):=(splT ts).1.map (·++[kSemi])++tlP (splT ts).2
theorem qa3 {T:List ByteArray}(R:List ByteArray)(h:∀t,t∈T->t≠kSemi):prtL (T++kSemi :: R)=(T++[kSemi]) :: prtL R:=by
 unfold prtL
 rw[qap R h]
 rfl
theorem qa2 {T:List ByteArray}(h:∀t,t∈T->t≠kSemi)(hn:T≠[]):prtL T=[T]:=by
 unfold prtL
 rw[qao h]
 show []++tlP T=_
 unfold tlP
 rw[Yi hn]
 rfl
theorem qiw (ts:List ByteArray):(∀T,T∈(splT ts).1->∀t,t∈T->t≠kSemi)/\∀t,t∈(splT ts).2->t≠kSemi:=by
 induction ts with
 | nil=>exact⟨fun T h=>(by cases h),fun t h=>(by cases h)⟩
 | cons a r ih =>
  by_cases ha:a=kSemi
  . rw[splT,Yn ha]
    refine⟨fun T h=>?_,ih.2⟩;rcases Y9.1 h with rfl | h
    . intro t ht;cases ht
    . exact ih.1 T h
  . rw[splT,Yi ha]
    cases hs:(splT r).1 with
    | nil =>
     refine⟨fun T h=>(by cases h),fun t h=>?_⟩;rcases Y9.1 h with rfl | h
     . exact ha
     . exact ih.2 t h
    | cons T Ts =>
     rw[hs]at ih;refine⟨fun U h t ht=>?_,ih.2⟩;rcases Y9.1 h with rfl | h
     . rcases Y9.1 ht with rfl | ht
       . exact ha
       . exact ih.1 T (by simp) t ht
     . exact ih.1 U (by simp[h]) t ht
theorem qb1 {m m':Fm}{last:Nat}{x:Sx}(ha:addS m last x=.inr m'):m'.L.length+m'.P.length+m'.R.length+m'.F.length=m.L.length+m.P.length+m.R.length+m.F.length+1:=by
 unfold addS at ha
 split at ha
 . cases ha
 split at ha
 . split at ha
   . cases ha
   split at ha
   . cases ha
   injection ha with ha
   subst ha;simp only[Yf,Yl,Yw];omega
 split at ha
 . split at ha
   . cases ha
   split at ha
   . injection ha with ha
     subst ha;simp only[Yf,Yl,Yw];omega
   . cases ha
 split at ha
 . split at ha
   . cases ha
   split at ha
   . cases ha
   split at ha
   . injection ha with ha
     subst ha;simp only[Yf,Yl,Yw];omega
   . cases ha
 split at ha
 . cases ha
 split at ha
 . cases ha
 split at ha
 . cases ha
 split at ha
 . injection ha with ha
   subst ha;simp only[Yf,Yl,Yw];omega
 . cases ha
structure QfI (s:ByteArray)(L:List (List ByteArray))(m:Fm)(last k:Nat):Prop where
 ex:∃Ts rest,L.drop k=Ts.map (·++[kSemi])++tlP rest/\(∀T,T∈Ts->∀t,t∈T->t≠kSemi)/\(∀t,t∈rest->t≠kSemi)/\∀r c p,StsA Ts rest m last k r c p->FrmA s r c p
 v:VfB m
 f:Flt m
 la:last<=4
 n:k=m.L.length+m.P.length+m.R.length+m.F.length
section
variable {s:ByteArray} {L:List (List ByteArray)} {m:Fm} {last k:Nat}
theorem QfI.cases (h:QfI s L m last k)(hk:k<L.length):(∃T Ts rest,L[k]=T++[kSemi]/\L.drop (k+1)=Ts.map (·++[kSemi])++tlP rest/\(∀t,t∈T->t≠kSemi)/\(∀T,T∈Ts->∀t,t∈T->t≠kSemi)/\(∀t,t∈rest->t≠kSemi)/\∀r c p,StsA (T :: Ts) rest m last k r c p->FrmA s r c p)∨((∀t,t∈L[k]->t≠kSemi)/\FrmA s fm0 3 (k:Nat)):=by
 obtain⟨Ts,rest,h1,h2,h3,h4⟩:=h.ex
 rw[Y8 hk]at h1
 cases Ts with
 | cons T Ts =>
  rw[Vr,Vj]at h1;injection h1 with h5 h6
  exact .inl ⟨T,Ts,rest,h5,h6,h2 T (by simp),fun U hU=>h2 U (by simp[hU]),h3,h4⟩
 | nil =>
  rw[List.map_nil,Vo]at h1;unfold tlP at h1;split at h1
  . cases h1
  . rename_i hr
    injection h1 with h5 h6
    exact .inr ⟨by rw[h5];exact h3,h4 _ _ _ (.stop hr)⟩
theorem qan {T T':List ByteArray}(h:T++[kSemi]=T'++[kSemi]):T=T':=List.append_inj_left' h rfl
theorem QfI.none (h:QfI s L m last k)(hk:k<L.length)(hx:∀x,¬ PrtS L[k] x):FrmA s fm0 3 (k:Nat):=by
 rcases h.cases hk with ⟨T,Ts,rest,h1,-,-,-,-,h4⟩ | ⟨-,h4⟩
 . exact h4 _ _ _ (.no fun x hs=>hx x ⟨T,h1,hs⟩)
 . exact h4
theorem QfI.bad {x:Sx}{c:Nat}(h:QfI s L m last k)(hk:k<L.length)(hx:PrtS L[k] x)(ha:addS m last x=.inl c):FrmA s fm0 (c:Nat) (k:Nat):=by
 obtain⟨T',e,hs⟩:=hx
 rcases h.cases hk with ⟨T,Ts,rest,h1,-,-,-,-,h4⟩ | ⟨h1,-⟩
 . rw[h1]at e
   obtain rfl:=qan e;exact h4 _ _ _ (.bad hs ha)
 . exact absurd rfl (h1 kSemi (by rw[e];simp))
theorem QfI.step {x:Sx}{m':Fm}(h:QfI s L m last k)(hk:k<L.length)(hl:L[k].length<=1048576)(hz:∀t,t∈L[k]->t.size<=1048576)(hx:PrtS L[k] x)(ha:addS m last x=.inr m'):QfI s L m' x.kind (k+1):=by
 obtain⟨T',e,hs⟩:=hx
 rcases h.cases hk with ⟨T,Ts,rest,h1,h2,-,h3,h3',h4⟩ | ⟨h1,-⟩
 . rw[h1]at e
   obtain rfl:=qan e;rw[h1]at hl hz;rw[Yf]at hl;refine⟨⟨Ts,rest,h2,h3,h3',fun r c p hq=>h4 _ _ _ (.step hs ha hq)⟩,qf8 hs h.v ha,qb2 hs (by omega) (fun t ht=>hz t (by simp[ht])) h.f ha,by rcases hs.kinds with h | h | h | h <;> omega,by rw[qb1 ha,<- h.n]⟩
 . exact absurd rfl (h1 kSemi (by rw[e];simp))
theorem QfI.smi (h:QfI s L m last k)(hk:k<L.length):Smi L[k]:=by
 intro j hj
 have hj':j<L[k].length:=by omega
 rcases h.cases hk with ⟨T,Ts,rest,h1,-,h2,-⟩ | ⟨h1,-⟩
 . rw[pk_lt hj']
   have hlen:j<T.length:=by
    have:=congrArg List.length h1;rw[Yf,Va]at this;omega
   have:L[k][j]=T[j]:=by
    have e:L[k][j]? = (T++[kSemi])[j]?:=(by rw[h1]);rw[Zk hlen,Yk hj',Yk hlen]at e;exact Vb e
   rw[this];exact h2 _ (Ys hlen)
 . rw[pk_lt hj']
   exact h1 _ (Ys hj')
theorem QfI.done (h:QfI s L m last k)(hk:¬ k<L.length):∀r c p,StsA [] [] m last k r c p->FrmA s r c p:=by
 obtain⟨Ts,rest,h1,h2,h3,h4⟩:=h.ex
 rw[Ob (by omega)]at h1
 obtain⟨h5,h6⟩:=List.append_eq_nil_iff.1 h1.symm
 rw[List.map_eq_nil_iff]at h5
 unfold tlP at h6
 split at h6
 . rename_i hr
   rw[h5,hr]at h4;exact h4
 . cases h6
end
theorem QfI.start {s:ByteArray}{ts:List ByteArray}(hs:s.size<=30000)(hl:lxF s s.size 0 []=.inr ts):QfI s (prtL ts) fm0 0 0 :=
 ⟨⟨(splT ts).1,(splT ts).2,rfl,(qiw ts).1,(qiw ts).2,fun _ _ _ h=>.inr ⟨hs,.inr ⟨ts,hl,h⟩⟩⟩,qjp,qgc,nZ _,rfl⟩
end Go.Proofs.YtfmammdgehbjhaaGreatDoor
namespace Go.Proofs.YtfmammdgehbjhaaGreatDoor
open Go Go.RowKit
theorem eqS (a b:ByteArray):(a.toList==b.toList)=decide (a=b):=by
 rw[Zj,Yj]
 refine⟨fun h=>?_,fun h=>by rw[h];simp⟩
 have h2:=q5o h
 rw[h2,Y4]
theorem q72 (a:Option Addr)(c:Nat)(l:List ByteArray)(s:ByteArray)(w:World)(hl:l.length<=9223372036854775807)(ha:Strs w a l) :
 Calls Tryz.prog 50 #[.slice a l.length c,.string s] w fun r w'=>∃q:Int,r=.returned (Ya q)/\(q<0 ↔ ¬ s∈l)/\w'=w:=by
 have HA:=h_ ha
 clear ha
 go_enter Tryz.func50,Tryz.ntmps50
 go_wp2_with fail
 go_loopw [5] (fun i wr=>∃k:Nat,k<=l.length/\i=Ya k/\(∀j (h:j<l.length),j<k->l[j]≠s)/\wr=w) (fun i _=>l.length - (intOf i).toNat)
 case atStart=>exact⟨0,nZ _,rfl,fun j _ hj=>absurd hj (nL _),rfl⟩
 case round =>
  obtain⟨k,hk,rfl,hall,rfl⟩:=hrel;have HL:=h_ hall;clear hall;by_cases hlt:k<l.length
  . have hlt':(k:Int)<l.length:=by omega
    obtain⟨b,o,rfl,-,c0⟩:=HA.u k hlt;have he:=eqS l[k] s;by_cases hq:l[k]=s
    . have HX:Hi (((k:Int)<0) ↔ ¬ s∈l):=h_ ⟨fun h=>by omega,fun h=>absurd (hq ▸ Ys hlt) h⟩
      rw[Yh hq]at he;clear hq;generalize l[k]=t at *;go_wp2_with fail;go_ret;exact⟨_,rfl,HX.u,rfl⟩
    . have HN:Hi (∀j (h:j<l.length),j<k+1->l[j]≠s):=h_ fun j h hj=>by
       by_cases ej:j=k
       . subst ej;exact hq
       . exact HL.u j h (by omega)
      rw[Yg hq]at he;clear hq;generalize l[k]=t at *;go_wp2_with fail;go_roundw
      case rel=>exact⟨k+1,by omega,by go_num,HN.u,by first | rfl | trivial⟩
      case measure=>simp[intOf];omega
  . have hlt':¬ (k:Int)<l.length:=by omega
    go_wp2_with fail;go_ret;exact⟨_,rfl,⟨fun _ h=>by obtain⟨j,hj,e⟩:=Zo.1 h;exact HL.u j hj (by omega) e,fun _=>by omega⟩,rfl⟩
theorem qcr {names:List ByteArray}{l:List Nx}{k:Nat}(h:k<l.length)(h1:l[k].op=1)(h2:¬ l[k].nm∈names):knows names l=false:=by
 unfold knows
 rw[List.all_eq_false]
 exact⟨l[k],Ys h,by simp[h1,qhe h2]⟩
theorem q9e {names:List ByteArray}{l:List Nx}(h:∀k (hk:k<l.length),l[k].op=1->l[k].nm∈names):knows names l=true:=by
 unfold knows
 rw[Zh]
 intro n hn
 obtain⟨k,hk,rfl⟩:=Zo.1 hn
 by_cases h1:l[k].op=1
 . simp[h1,(qct _ _).2 (h k hk h1)]
 . simp[h1]
theorem q51 (a b:Option Addr)(c c':Nat)(l:List Nx)(names:List ByteArray)(w:World)(hl:l.length<=9223372036854775807)(hn:names.length<=9223372036854775807)(ha:NodL w a l)(hb:Strs w b names) :
 Calls Tryz.prog 52 #[.slice a l.length c,.slice b names.length c'] w fun r w'=>r=.returned (.bool (knows names l))/\w'=w:=by
 have HA:=h_ ha;have HB:=h_ hb
 clear ha hb
 obtain⟨q,hq⟩:=Nq (knows names l)
 rw[hq]
 have HQ:=h_ hq
 clear hq
 go_enter Tryz.func52,Tryz.ntmps52
 go_wp2_with fail
 go_loopw [5] (fun i wr=>∃k:Nat,k<=l.length/\i=Ya k/\(∀j (h:j<l.length),j<k->l[j].op=1->l[j].nm∈names)/\wr=w) (fun i _=>l.length - (intOf i).toNat)
 case atStart=>exact⟨0,nZ _,rfl,fun j _ hj=>absurd hj (nL _),rfl⟩
 case round =>
  obtain⟨k,hk,rfl,hall,rfl⟩:=hrel;have HL:=h_ hall;clear hall;by_cases hlt:k<l.length
  . have hlt':(k:Int)<l.length:=by omega
    obtain⟨b1,o1,rfl,-,c0,c1,c2,c3,c4⟩:=HA.u k hlt;rw[nf_get l k hlt]at c0 c1 c2 c3 c4;have HS:Hi ((l[k].op=1->l[k].nm∈names)->∀j (h:j<l.length),j<k+1->l[j].op=1->l[j].nm∈names):=h_ fun hh j h hj=>by
     by_cases ej:j=k
     . subst ej;exact hh
     . exact HL.u j h (by omega)
    have HN:Hi (l[k].op=1->¬ l[k].nm∈names->q=false):=h_ fun h1 h2=>by rw[<- HQ.u];exact qcr hlt h1 h2
    generalize l[k]=u at *;by_cases h1:u.op=1
    . rw[h1]at c0
      go_wp2_with fail;refine(q72 b c' names u.nm _ hn HB.u).mono ?_;rintro r w2 ⟨z,rfl,hz,hw⟩;replace hw:=hw.symm;subst hw;by_cases hm:u.nm∈names
      . have hz':¬ z<0:=fun h=>(hz.1 h) hm
        have HX:=h_ (HS.u fun _=>hm);clear hz hm;go_wp2_with fail;go_roundw
        case rel=>exact⟨k+1,by omega,by go_num,HX.u,by first | rfl | trivial⟩
        case measure=>simp[intOf];omega
      . have hz':z<0:=hz.2 hm
        have HX:=h_ (HN.u h1 hm);clear hz hm;go_wp2_with fail;go_ret;exact⟨qdx HX.u.symm,rfl⟩
    . have h1':(u.op==1)=false:=Ye.2 h1
      have HX:=h_ (HS.u fun h=>absurd h h1);clear h1;go_wp2_with fail;go_roundw
      case rel=>exact⟨k+1,by omega,by go_num,HX.u,by first | rfl | trivial⟩
      case measure=>simp[intOf];omega
  . have hlt':¬ (k:Int)<l.length:=by omega
    have HX:Hi (q=true):=h_ (by rw[<- HQ.u];exact q9e fun j hj=>HL.u j hj (by omega));go_wp2_with fail;go_ret;exact⟨qdx HX.u.symm,rfl⟩
theorem q3c (a:Option Addr)(c:Nat)(l:List Nx)(w:World)(hl:l.length<=9223372036854775807)(ha:NodL w a l)(hf:∀k,k<l.length->Fit (nf l k)) :
 Calls Tryz.prog 51 #[.slice a l.length c] w fun r w'=>r=.returned (.bool (ruleOk l))/\Below w.heap.size w w':=by
 have hr:ruleOk l=(decide (l.length=0)||vxB (nf l) l.length):=rfl
 have HC:=h_ (q0y a l.length c (nf l) w hl ha hf)
 by_cases h0:l.length=0
 . have h0':((l.length:Int)==0)=true:=by simp[h0]
   rw[show ruleOk l=true by rw[hr,Yh h0];rfl];clear h0 hr HC ha hf;go_enter Tryz.func51,Tryz.ntmps51;go_wp2_with fail;go_ret;exact⟨rfl,bR _ _⟩
 . have h0':((l.length:Int)==0)=false:=Ye.2 (by omega)
   rw[show ruleOk l=vxB (nf l) l.length by rw[hr,Yg h0];rfl];clear h0 hr ha hf;generalize vxB (nf l) l.length=q at *;go_enter Tryz.func51,Tryz.ntmps51;go_wp2_with fail;refine HC.u.mono ?_;rintro r w2 ⟨rfl,hb⟩;have HB:=h_ hb;clear hb HC;cases q
   all_goals
    go_wp2_with fail;go_ret;exact⟨rfl,HB.u⟩
theorem q3w {w:World}{base:Nat}{e:TypeId}{v:Value}{n:Nat}{l:List ByteArray}(h:w.ownsRow base e 1 v n (stV l)):∃a cap,v=.slice a n cap/\n<=cap/\Strs w a l:=by
 have hlen:l.length=n:=by have:=h.1;simpa [stV] using this
 rcases h.2 with ⟨rfl,rfl⟩ | ⟨g,cap,cur,rfl,hb,hg,hc,-,hs,htake⟩
 . exact⟨none,0,rfl,nR _,fun k hk=>absurd hk (by omega)⟩
 . refine⟨_,cap,rfl,hc,fun k hk=>⟨g,0,rfl,(Zc.1 hg).1,?_⟩⟩
   have:=h.cellAt k (by omega);rw[Z3,this];simp[stV,List.getElem?_eq_getElem hk]
theorem qea (l:List ByteArray)(x:ByteArray):stV (l++[x])=stV l++[.string x]:=by simp[stV]
theorem q0x (m:Fm)(A:MA)(w:World)(hl:m.R.length<=64)(ha:Rls w A.r m.R) :
 Calls Tryz.prog 49 #[mV m A] w fun r w'=>∃a0 c0,r=.returned (.slice a0 m.R.length c0)/\Strs w' a0 (rNames m)/\Below w.heap.size w w':=by
 obtain⟨al,alc,ap,apc,ar,arc,af,afc,afa⟩:=A
 unfold mV
 dsimp only at ha⊢
 have HK:=h_ ((Blk.new w 27 #[.slice al m.L.length alc,.slice ap m.P.length apc,.slice ar m.R.length arc,.slice af m.F.length afc]).alloc (.cells #[] 9))
 have HB:=h_ (((bR w.heap.size w).alloc (nR _) (.cells #[.slice al m.L.length alc,.slice ap m.P.length apc,.slice ar m.R.length arc,.slice af m.F.length afc] 27)).alloc (by simp) (.cells #[] 9))
 have HO:=h_ (q9y (w.alloc (.cells #[.slice al m.L.length alc,.slice ap m.P.length apc,.slice ar m.R.length arc,.slice af m.F.length afc] 27)) 9)
 rw[Yy]at HO
 obtain⟨W0,hW0⟩:=Nq ((w.alloc (.cells #[.slice al m.L.length alc,.slice ap m.P.length apc,.slice ar m.R.length arc,.slice af m.F.length afc] 27)).alloc (.cells #[] 9))
 have hsz:W0.heap.size=w.heap.size+1+1:=by rw[<- hW0];simp
 rw[hW0]at HK HB HO
 have HA:=h_ ha
 obtain⟨n,hn⟩:=Nq m.R.length
 rw[hn]at HK hl hW0⊢
 have HN:=h_ hn
 obtain⟨y0,y1,y2,y3⟩:=quad HK.u
 clear ha hn
 go_enter Tryz.func49,Tryz.ntmps49
 go_wp2_with fail
 try rw[hW0]
 clear hW0 y0 y1 y2 y3
 go_loopw [3,4] (fun v i wr=>∃k:Nat,k<=n/\i=Ya k/\wr.ownsRow (w.heap.size+1) 9 1 v k (stV ((rNames m).take k))/\Below (w.heap.size+1) W0 wr) (fun _ i _=>n - (intOf i).toNat)
 case atStart=>exact⟨0,nZ _,rfl,HO.u,bR _ _⟩
 case round =>
  clear HO;obtain⟨k,hk,rfl,hO,hb⟩:=hrel;have hbw:=HB.u.trans (hb.mono (by omega));have hws:=hb.size;have HKr:=h_ (HK.u.mono hb (by omega));have HAr:=h_ (HA.u.mono hbw);have HBr:=h_ hb;have HBw:=h_ hbw;have HO:=h_ hO;obtain⟨y0,y1,y2,y3⟩:=quad HKr.u;clear hb hbw hO;by_cases hlt:k<n
  . have hlt':(k:Int)<n:=by omega
    have hkl:k<m.R.length:=(by have:=HN.u;omega);obtain⟨b,o,rfl,-,z0,z1⟩:=HAr.u k hkl;have HT:Hi ((rNames m).take (k+1)=(rNames m).take k++[m.R[k].nm]):=h_ (by
     have hk2:k<(rNames m).length:=(by simpa [rNames] using hkl);rw[Yq hk2];simp[rNames])
    generalize m.R[k]=u at *;obtain⟨i0,hi,hz0,hz1,hz2⟩:=info_parts qcl;go_wp2_with (at_builtin;refine wpList_append_own _ rfl _ _ 22 rfl (w.heap.size+1) 9 i0 _ 1 16 Tryz.underlying22 hi hz0 hz1 hz2 rfl (by omega) _ _ _ rfl (HO.u.alloc _) ⟨wr.heap.size,0,none⟩ 1 1 [.string u.nm] rfl rfl (qbm wr 9 _) (by simp[Value.oneCell']) (by unfold maxLen;omega) (by omega) (by simp;omega) ?_);intro v' w3 ho' hgr' _;have hB2:=(HBr.u.alloc (by omega) (.cells #[.string u.nm] 9)).grown hgr' (by simp;omega) (fun q' e=>q7l HO.u e);have HO2:Hi (w3.ownsRow (w.heap.size+1) 9 1 v' (k+1) (stV ((rNames m).take (k+1)))):=h_ (by rw[HT.u,qea];exact ho');have HB2:=h_ hB2;clear ho' hgr' hB2 hi hz0 hz1 hz2;go_wp2_with fail;go_roundw
    case rel=>first | exact⟨k+1,by omega,by go_num,HO2.u,HB2.u⟩ | ((repeat apply Exists.intro);exact⟨⟨k+1,by omega,by go_num,HO2.u,HB2.u⟩,rfl⟩)
    case measure=>simp[intOf];omega
  . obtain rfl:k=n:=by omega
    have hlt':¬ (k:Int)<(k:Int):=(by omega);have hO:=HO.u;rw[Za (by simp[rNames];have:=HN.u;omega)]at hO;obtain⟨a1,c1,rfl,-,hS⟩:=q3w hO;have HS:=h_ hS;clear hO hS HO;go_wp2_with fail;go_ret
    first | exact⟨_,⟨_,rfl⟩,HS.u,HBw.u⟩ | exact⟨_,_,rfl,HS.u,HBw.u⟩
theorem q0k (m:Fm)(A:MA)(w:World)(hl:m.F.length<=200)(ha:Flds w A.f m.F A.fa) :
 Calls Tryz.prog 14 #[mV m A] w fun r w'=>∃a0 c0,r=.returned (.slice a0 m.F.length c0)/\Strs w' a0 (fNames m)/\Below w.heap.size w w':=by
 obtain⟨al,alc,ap,apc,ar,arc,af,afc,afa⟩:=A
 unfold mV
 dsimp only at ha⊢
 have HK:=h_ ((Blk.new w 27 #[.slice al m.L.length alc,.slice ap m.P.length apc,.slice ar m.R.length arc,.slice af m.F.length afc]).alloc (.cells #[] 9))
 have HB:=h_ (((bR w.heap.size w).alloc (nR _) (.cells #[.slice al m.L.length alc,.slice ap m.P.length apc,.slice ar m.R.length arc,.slice af m.F.length afc] 27)).alloc (by simp) (.cells #[] 9))
 have HO:=h_ (q9y (w.alloc (.cells #[.slice al m.L.length alc,.slice ap m.P.length apc,.slice ar m.R.length arc,.slice af m.F.length afc] 27)) 9)
 rw[Yy]at HO
 obtain⟨W0,hW0⟩:=Nq ((w.alloc (.cells #[.slice al m.L.length alc,.slice ap m.P.length apc,.slice ar m.R.length arc,.slice af m.F.length afc] 27)).alloc (.cells #[] 9))
 have hsz:W0.heap.size=w.heap.size+1+1:=by rw[<- hW0];simp
 rw[hW0]at HK HB HO
 have HA:=h_ ha
 obtain⟨n,hn⟩:=Nq m.F.length
 rw[hn]at HK hl hW0⊢
 have HN:=h_ hn
 obtain⟨y0,y1,y2,y3⟩:=quad HK.u
 clear ha hn
 go_enter Tryz.func14,Tryz.ntmps14
 go_wp2_with fail
 try rw[hW0]
 clear hW0 y0 y1 y2 y3
 go_loopw [3,4] (fun v i wr=>∃k:Nat,k<=n/\i=Ya k/\wr.ownsRow (w.heap.size+1) 9 1 v k (stV ((fNames m).take k))/\Below (w.heap.size+1) W0 wr) (fun _ i _=>n - (intOf i).toNat)
 case atStart=>exact⟨0,nZ _,rfl,HO.u,bR _ _⟩
 case round =>
  clear HO;obtain⟨k,hk,rfl,hO,hb⟩:=hrel;have hbw:=HB.u.trans (hb.mono (by omega));have hws:=hb.size;have HKr:=h_ (HK.u.mono hb (by omega));have HAr:=h_ (HA.u.mono hbw);have HBr:=h_ hb;have HBw:=h_ hbw;have HO:=h_ hO;obtain⟨y0,y1,y2,y3⟩:=quad HKr.u;clear hb hbw hO;by_cases hlt:k<n
  . have hlt':(k:Int)<n:=by omega
    have hkl:k<m.F.length:=(by have:=HN.u;omega);obtain⟨b,o,rfl,⟨-,z0,z1,z2,z3,z4,z5,z6,z7,z8⟩,-⟩:=HAr.u k hkl;have HT:Hi ((fNames m).take (k+1)=(fNames m).take k++[m.F[k].nm]):=h_ (by
     have hk2:k<(fNames m).length:=(by simpa [fNames] using hkl);rw[Yq hk2];simp[fNames])
    generalize m.F[k]=u at *;obtain⟨i0,hi,hz0,hz1,hz2⟩:=info_parts qcl;go_wp2_with (at_builtin;refine wpList_append_own _ rfl _ _ 22 rfl (w.heap.size+1) 9 i0 _ 1 16 Tryz.underlying22 hi hz0 hz1 hz2 rfl (by omega) _ _ _ rfl (HO.u.alloc _) ⟨wr.heap.size,0,none⟩ 1 1 [.string u.nm] rfl rfl (qbm wr 9 _) (by simp[Value.oneCell']) (by unfold maxLen;omega) (by omega) (by simp;omega) ?_);intro v' w3 ho' hgr' _;have hB2:=(HBr.u.alloc (by omega) (.cells #[.string u.nm] 9)).grown hgr' (by simp;omega) (fun q' e=>q7l HO.u e);have HO2:Hi (w3.ownsRow (w.heap.size+1) 9 1 v' (k+1) (stV ((fNames m).take (k+1)))):=h_ (by rw[HT.u,qea];exact ho');have HB2:=h_ hB2;clear ho' hgr' hB2 hi hz0 hz1 hz2;go_wp2_with fail;go_roundw
    case rel=>first | exact⟨k+1,by omega,by go_num,HO2.u,HB2.u⟩ | ((repeat apply Exists.intro);exact⟨⟨k+1,by omega,by go_num,HO2.u,HB2.u⟩,rfl⟩)
    case measure=>simp[intOf];omega
  . obtain rfl:k=n:=by omega
    have hlt':¬ (k:Int)<(k:Int):=(by omega);have hO:=HO.u;rw[Za (by simp[fNames];have:=HN.u;omega)]at hO;obtain⟨a1,c1,rfl,-,hS⟩:=q3w hO;have HS:=h_ hS;clear hO hS HO;go_wp2_with fail;go_ret
    first | exact⟨_,⟨_,rfl⟩,HS.u,HBw.u⟩ | exact⟨_,_,rfl,HS.u,HBw.u⟩
theorem q0j (f:Fl)(A:FA)(b:Option Addr)(c:Nat)(names:List ByteArray)(w:World)(hf:FitF f)(hn:names.length<=9223372036854775807)(ha:FSl w f A)(hb:Strs w b names) :
 Calls Tryz.prog 15 #[fV f A,.slice b names.length c] w fun r w'=>r=.returned (.bool (fieldKnows names f))/\Below w.heap.size w w':=by
 obtain⟨ab,abc,ai,aic,ah,ahc,av,avc,au,auc⟩:=A
 have HS:=h_ ha;have HN:=h_ hb
 have hk:fieldKnows names f=(knows names f.is&&knows names f.wh&&knows names f.va&&knows names f.mu):=rfl
 unfold fV
 dsimp only
 have HK:=h_ (Blk.new w 52 (Jd f ab abc ai aic ah ahc av avc au auc))
 have HB:=h_ ((bR w.heap.size w).alloc (nR _) (.cells (Jd f ab abc ai aic ah ahc av avc au auc) 52))
 obtain⟨W0,hW0⟩:=Nq (w.alloc (.cells (Jd f ab abc ai aic ah ahc av avc au auc) 52))
 rw[hW0]at HK HB
 replace HS:=h_ (HS.u.mono HB.u);replace HN:=h_ (HN.u.mono HB.u)
 obtain⟨y0,y1,y2,y3,y4,y5,y6,y7,y8⟩:=nine HK.u
 have k1:=h_ (q51 ai b aic c f.is names W0 hf.il hn HS.u.i HN.u)
 have k2:=h_ (q51 ah b ahc c f.wh names W0 hf.hl hn HS.u.h HN.u)
 have k3:=h_ (q51 av b avc c f.va names W0 hf.vl hn HS.u.v HN.u)
 have k4:=h_ (q51 au b auc c f.mu names W0 hf.ul hn HS.u.u HN.u)
 clear ha hb hf hn
 generalize knows names f.is=q1 at *
 generalize knows names f.wh=q2 at *
 generalize knows names f.va=q3 at *
 generalize knows names f.mu=q4 at *
 generalize fieldKnows names f=q at *
 subst hk
 cases q1
 . go_enter Tryz.func15,Tryz.ntmps15
   go_wp2_with fail
   try rw[hW0]
   refine k1.u.mono ?_;rintro e w1 ⟨rfl,hw⟩;replace hw:=hw.symm;subst hw;clear hW0;go_wp2_with fail;go_ret;exact⟨rfl,HB.u⟩
 cases q2
 . go_enter Tryz.func15,Tryz.ntmps15
   go_wp2_with fail
   try rw[hW0]
   refine k1.u.mono ?_;rintro e w1 ⟨rfl,hw⟩;replace hw:=hw.symm;subst hw;clear hW0;go_wp2_with fail;refine k2.u.mono ?_;rintro e w1 ⟨rfl,hw⟩;replace hw:=hw.symm;subst hw;go_wp2_with fail;go_ret;exact⟨rfl,HB.u⟩
 cases q3
 . go_enter Tryz.func15,Tryz.ntmps15
   go_wp2_with fail
   try rw[hW0]
   refine k1.u.mono ?_;rintro e w1 ⟨rfl,hw⟩;replace hw:=hw.symm;subst hw;clear hW0;go_wp2_with fail;refine k2.u.mono ?_;rintro e w1 ⟨rfl,hw⟩;replace hw:=hw.symm;subst hw;go_wp2_with fail;refine k3.u.mono ?_;rintro e w1 ⟨rfl,hw⟩;replace hw:=hw.symm;subst hw;go_wp2_with fail;go_ret;exact⟨rfl,HB.u⟩
 . go_enter Tryz.func15,Tryz.ntmps15
   go_wp2_with fail
   try rw[hW0]
   refine k1.u.mono ?_;rintro e w1 ⟨rfl,hw⟩;replace hw:=hw.symm;subst hw;clear hW0;go_wp2_with fail;refine k2.u.mono ?_;rintro e w1 ⟨rfl,hw⟩;replace hw:=hw.symm;subst hw;go_wp2_with fail;refine k3.u.mono ?_;rintro e w1 ⟨rfl,hw⟩;replace hw:=hw.symm;subst hw;go_wp2_with fail;refine k4.u.mono ?_;rintro e w1 ⟨rfl,hw⟩;replace hw:=hw.symm;subst hw;go_wp2_with fail;go_ret;exact⟨by simp,HB.u⟩
theorem duo {w:World}{b:Nat}{t:TypeId}{v0 v1:Value}(h:Blk w b t [v0,v1]):w.cell? ⟨b,0,none⟩=some v0/\w.cell? ⟨b,1,none⟩=some v1:=⟨h.cell 0,h.cell 1⟩
theorem q1d (m:Fm)(A:MA)(w:World)(hl:m.F.length<=200)(ha:Flds w A.f m.F A.fa) :
 Calls Tryz.prog 67 #[mV m A] w fun r w'=>∃a0 c0,r=.returned (.slice a0 m.F.length c0)/\Strs w' a0 (fNames m)/\Below w.heap.size w w':=by
 obtain⟨al,alc,ap,apc,ar,arc,af,afc,afa⟩:=A
 unfold mV
 dsimp only at ha⊢
 have HK:=h_ (Blk.new w 27 #[.slice al m.L.length alc,.slice ap m.P.length apc,.slice ar m.R.length arc,.slice af m.F.length afc])
 have HB:=h_ ((bR w.heap.size w).alloc (nR _) (.cells #[.slice al m.L.length alc,.slice ap m.P.length apc,.slice ar m.R.length arc,.slice af m.F.length afc] 27))
 obtain⟨W0,hW0⟩:=Nq (w.alloc (.cells #[.slice al m.L.length alc,.slice ap m.P.length apc,.slice ar m.R.length arc,.slice af m.F.length afc] 27))
 have hsz:W0.heap.size=w.heap.size+1:=by rw[<- hW0];simp
 rw[hW0]at HK HB
 have HO:Hi (W0.ownsRow (w.heap.size+1) 9 1 Yb 0 []):=h_ (World.ownsRow_nil _ _ _ _)
 have HA:=h_ ha
 obtain⟨n,hn⟩:=Nq m.F.length
 rw[hn]at HK hl hW0⊢
 have HN:=h_ hn
 obtain⟨y0,y1,y2,y3⟩:=quad HK.u
 clear ha hn
 go_enter Tryz.func67,Tryz.ntmps67
 go_wp2_with fail
 try rw[hW0]
 clear hW0 y0 y1 y2 y3
 go_loopw [3,9] (fun v i wr=>∃k:Nat,k<=n/\i=Ya k/\wr.ownsRow (w.heap.size+1) 9 1 v k (stV ((fNames m).take k))/\Below (w.heap.size+1) W0 wr) (fun _ i _=>n - (intOf i).toNat)
 case atStart=>exact⟨0,nZ _,rfl,HO.u,bR _ _⟩
 case round =>
  clear HO;obtain⟨k,hk,rfl,hO,hb⟩:=hrel;have hbw:=HB.u.trans (hb.mono (by omega));have hws:=hb.size;have HAr:=h_ (HA.u.mono hbw);have HBr:=h_ hb;have HBw:=h_ hbw;have HO:=h_ hO;clear hb hbw hO;by_cases hlt:k<n
  . have hlt':(k:Int)<n:=by omega
    have hkl:k<m.F.length:=(by have:=HN.u;omega);obtain⟨b,o,rfl,⟨-,z0,z1,z2,z3,z4,z5,z6,z7,z8⟩,-⟩:=HAr.u k hkl;have HT:Hi ((fNames m).take (k+1)=(fNames m).take k++[m.F[k].nm]):=h_ (by
     have hk2:k<(fNames m).length:=(by simpa [fNames] using hkl);rw[Yq hk2];simp[fNames])
    generalize m.F[k]=u at *;generalize afa k=fa at *;obtain⟨ub,ubc,ui',uic,uh,uhc,uv,uvc,uu,uuc⟩:=fa;dsimp only at z3 z4 z5 z6 z8;have HKf:=h_ (Blk.new wr 52 (Jd u ub ubc ui' uic uh uhc uv uvc uu uuc));have HBf:=h_ (HBr.u.alloc (by omega) (.cells (Jd u ub ubc ui' uic uh uhc uv uvc uu uuc) 52));have HO1:=h_ (HO.u.alloc (.cells (Jd u ub ubc ui' uic uh uhc uv uvc uu uuc) 52));obtain⟨Wd,hWd⟩:=Nq (wr.alloc (.cells (Jd u ub ubc ui' uic uh uhc uv uvc uu uuc) 52));have hdz:wr.heap.size+1<=Wd.heap.size:=(by rw[<- hWd];simp);rw[hWd]at HKf HBf HO1;obtain⟨x0,x1,x2,x3,x4,x5,x6,x7,x8⟩:=nine HKf.u;obtain⟨i0,hi,hz0,hz1,hz2⟩:=info_parts qcl;go_wp2_with (at_builtin;refine wpList_append_own _ rfl _ _ 22 rfl (w.heap.size+1) 9 i0 _ 1 16 Tryz.underlying22 hi hz0 hz1 hz2 rfl (by omega) _ _ _ rfl (HO1.u.alloc _) ⟨Wd.heap.size,0,none⟩ 1 1 [.string u.nm] rfl rfl (qbm Wd 9 _) (by simp[Value.oneCell']) (by unfold maxLen;omega) (by omega) (by simp;omega) ?_);intro v' w3 ho' hgr' _;have hB2:=(HBf.u.alloc (by omega) (.cells #[.string u.nm] 9)).grown hgr' (by simp;omega) (fun q' e=>q7l HO1.u e);have HO2:Hi (w3.ownsRow (w.heap.size+1) 9 1 v' (k+1) (stV ((fNames m).take (k+1)))):=h_ (by rw[HT.u,qea];exact ho');have HB2:=h_ hB2;clear ho' hgr' hB2 hi hz0 hz1 hz2;go_wp2_with fail;go_roundw
    case rel=>first | exact⟨k+1,by omega,by go_num,HO2.u,HB2.u⟩ | ((repeat apply Exists.intro);exact⟨⟨k+1,by omega,by go_num,HO2.u,HB2.u⟩,rfl⟩)
    case measure=>simp[intOf];omega
  . obtain rfl:k=n:=by omega
    have hlt':¬ (k:Int)<(k:Int):=(by omega);have hO:=HO.u;rw[Za (by simp[fNames];have:=HN.u;omega)]at hO;obtain⟨a1,c1,rfl,-,hS⟩:=q3w hO;have HS:=h_ hS;clear hO hS HO;go_wp2_with fail;go_ret
    first | exact⟨_,⟨_,rfl⟩,HS.u,HBw.u⟩ | exact⟨_,_,rfl,HS.u,HBw.u⟩
structure Counts (m:Fm):Prop where
 l:m.L.length<=32
 p:m.P.length<=256
 r:m.R.length<=64
 f:m.F.length<=200
theorem q1y (t:Int)(w:World):Calls Tryz.prog 53 #[Ya t] w fun r w'=>r=.returned (.string ⟨(tyName t).toArray⟩)/\w'=w:=by
 by_cases h1:t=1
 . subst h1
   go_enter Tryz.func53,Tryz.ntmps53;go_wp2;go_ret;exact⟨rfl,rfl⟩
 by_cases h2:t=2
 . subst h2
   go_enter Tryz.func53,Tryz.ntmps53;go_wp2;go_ret;exact⟨rfl,rfl⟩
 . rw[show tyName t=[116,101,120,116] by unfold tyName;rw[Yi h1,Yi h2]]
   have h1':(t==1)=false:=Ye.2 h1;have h2':(t==2)=false:=Ye.2 h2;clear h1 h2;go_enter Tryz.func53,Tryz.ntmps53;go_wp2;go_ret;exact⟨rfl,rfl⟩
theorem q0v (word:ByteArray)(a:Option Addr)(c:Nat)(l:List Nx)(w:World)(hw:word.size<=5)(hr:ruleOk l=true)(ha:NodL w a l)(hf:∀k,k<l.length->Fit (nf l k)) :
 Calls Tryz.prog 54 #[.string word,.slice a l.length c] w fun r w'=>r=.returned (.string ⟨(tRule word.data.toList l).toArray⟩)/\Below w.heap.size w w':=by
 by_cases h0:l.length=0
 . have h0':((l.length:Int)==0)=true:=by simp[h0]
   rw[show tRule word.data.toList l=[] by unfold tRule;rw[Yn h0]];clear h0 hr ha hf;go_enter Tryz.func54,Tryz.ntmps54;go_wp2_with fail;go_ret;exact⟨rfl,bR _ _⟩
 . have h0':((l.length:Int)==0)=false:=Ye.2 (by omega)
   have hv:vxL l=true:=by simp only[ruleOk,Oa,Yj]at hr;exact hr.resolve_left h0
   obtain⟨v1,v2,v3,v4,-,-,v7⟩:=(qjq _ _).1 hv;have HC:=h_ (q54 a l.length c (nf l) v2 l.length l.length (nR _) v1 (nR _) w ⟨ha,v4,v3,hf⟩);have HT:Hi ((⟨(tRule word.data.toList l).toArray⟩:ByteArray)=⟨#[32]⟩++word++⟨#[32]⟩++(top (nf l) l.length).t):=h_ (by
    refine q88 ?_;unfold tRule;rw[Yi h0];simp[sb,txL,ByteArray.data_append])
   generalize (⟨(tRule word.data.toList l).toArray⟩:ByteArray)=T at *;generalize (top (nf l) l.length).t=q at *;clear hr ha hf hv v1 v2 v3 v4 h0;go_enter Tryz.func54,Tryz.ntmps54;go_wp2_with fail;refine HC.u.mono ?_;rintro r w2 ⟨rfl,hb⟩;have HB:=h_ hb;clear hb HC;have hA:((⟨#[32]⟩:ByteArray)++word).size=1+word.size:=by rw[Ym];rfl
   have hA2:((⟨#[32]⟩:ByteArray)++word++⟨#[32]⟩).size=1+word.size+1:=by rw[Ym,hA];rfl
   go_wp2_with fail;go_ret;exact⟨qik HT.u.symm,HB.u⟩
end Go.Proofs.YtfmammdgehbjhaaGreatDoor
