import Derived.Test.YtfmammdgehbjhaaGreatDoorW18
set_option maxRecDepth 100000
set_option maxHeartbeats 64000000
namespace Go.Proofs.YtfmammdgehbjhaaGreatDoor
open Go Go.RowKit
theorem qff {w0:World}{a:Option Addr}{c:Nat}{l:List ByteArray}{w:World}{i d:Nat}{v:Value}{ns:List Nx}(hc:RC w0 a l)(hd:d<=64)(hi:i<=l.length)(hn:ns.length<=i)(h:Rdr w0 a c l w i d v ns)(hI:Opers w0 a c l (9*(l.length - i))) :
 Calls Tryz.prog 211 #[Yd w0.heap.size 0] w (RdO w0 a c l .atm w i d v ns):=by
 have hl:=hc.len
 have hz:=hc.pz i
 have HCc:=h_ hc;have HI:=h_ hI;have H:=h_ h
 have HP:=h_ (qdm hc h)
 clear hc hI h
 obtain⟨t,ht⟩:=Nq (pk l i)
 have HT:=h_ ht
 rw[ht]at HP hz
 clear ht
 have he:=eqT t ⟨#[40]⟩
 rw[show(⟨#[40]⟩:ByteArray).toList=[40] by rw[Y4]]at he
 by_cases hq:t=⟨#[40]⟩
 case pos =>
  have hlt:i<l.length:=pk_in (by rw[HT.u,hq];exact qd0);have HD:Hi (l.drop i=t :: l.drop (i+1)):=h_ (by rw[qia hlt,HT.u]);have HLt:Hi (tkX.L t=true):=h_ (Yh hq);have HQ:Hi (pk l i=⟨#[40]⟩):=h_ (by rw[HT.u,hq]);rw[Yh hq]at he;clear hq;go_enter Tryz.func211,Tryz.ntmps211;go_wp2_with fail;refine HP.u.mono ?_;rintro e W1 ⟨rfl,hb⟩;replace H:=h_ (H.u.mono hb);have HA:=h_ (AddK.of_below (R:=w0.heap.size) v hb);clear hb HP;go_wp2_with fail;refine(qdb (by omega) hd HCc.u H.u).mono ?_;rintro e W2 (⟨-,h64,rfl,hr,hak⟩ | ⟨hno,rfl,hb⟩)
  case inr=>exact⟨rfl,.inl ⟨by rw[HD.u];exact q4i HLt.u (fun hx=>hno ⟨HQ.u,hx⟩),rfl,hb⟩⟩
  replace HA:=h_ (HA.u.trans hak);have HO1:=h_ (HI.u (i+1) (d+1) 1 W2 v ns (by omega) (by omega) (by omega) h64 (by omega) (by omega) hr);rw[show((1:Nat):Int)=1 from rfl]at HO1;clear hr hak H;go_wp2_with fail;refine HO1.u.mono ?_;rintro e W3 (⟨hev,rfl,hb⟩ | ⟨e1,i1,v1,hev,rfl,h1,h2,h3,hr,hak⟩)
  case inl=>exact⟨rfl,.inl ⟨by rw[HD.u];exact q4j HLt.u h64 hev,rfl,hb⟩⟩
  replace HA:=h_ (HA.u.trans hak);have H3:=h_ hr;have HEv:=h_ hev;clear hr hak hev HO1;go_wp2_with fail;refine(q8n (by omega) hd HCc.u H3.u).mono ?_;rintro e W4 (⟨hC,rfl,hr,hak⟩ | ⟨hC,rfl,hb⟩)
  case inr =>
   refine⟨rfl,.inl ⟨?_,rfl,hb⟩⟩;rw[HD.u];have hev:=HEv.u;by_cases hi1:i1<l.length
   . rw[qia hi1]at hev
     have:=ev_par HLt.u h64 hev;rw[Yi (by show ¬ decide (pk l i1=⟨#[41]⟩)=true;rw[Yg hC];decide)]at this;exact this
   . rw[Yx (show l.length<=i1 by omega)]at hev
     exact q6m HLt.u h64 hev
  have hi1:i1<l.length:=pk_in (by rw[hC];exact qd0);replace HA:=h_ (HA.u.trans hak);have H4:=h_ hr;have HE:Hi (Evx tkX 64 .atm d (l.drop i) (some (e1,l.drop (i1+1)))):=h_ (by
   have hev:=HEv.u;rw[qia hi1]at hev;have:=ev_par HLt.u h64 hev;rw[Yn (by show decide (pk l i1=⟨#[41]⟩)=true;exact Yh hC)]at this;rw[HD.u];exact this)
  clear hC hr hak;go_wp2_with fail
  go_end0
  exact .inr ⟨e1,i1+1,v1,HE.u,rfl,by omega,by omega,by omega,H4.u,HA.u⟩
 have HLt:Hi (tkX.L t=false):=h_ (Yg hq)
 rw[Yg hq]at he
 clear hq
 have HG:=h_ (fun w=>q1i t w (by omega))
 go_enter Tryz.func211,Tryz.ntmps211
 go_wp2_with fail
 refine HP.u.mono ?_
 rintro e W1 ⟨rfl,hb⟩
 replace H:=h_ (H.u.mono hb)
 have HA:=h_ (AddK.of_below (R:=w0.heap.size) v hb)
 clear hb HP
 have HTk:=h_ (qel (show i<=2000000 by omega) HCc.u H.u)
 rw[HT.u]at HTk
 go_wp2_with fail
 refine HTk.u.mono ?_
 rintro e W2 ⟨rfl,hr,hak⟩
 replace HA:=h_ (HA.u.trans hak)
 have H2:=h_ hr
 clear hr hak H HTk he
 cases hg:goodN t
 case false =>
  rw[hg]at HG;have HGf:=h_ hg;clear hg;go_wp2_with fail;refine(HG.u _).mono ?_;rintro e w3 ⟨rfl,rfl⟩;obtain⟨kd,nm,tx,ok,hrv⟩:∃kd nm tx ok,rv t=(kd,nm,tx,ok):=⟨_,_,_,_,rfl⟩;have hb2:=H2.u.bel;have HRd:=h_ (q30 t w3 hz (HCc.u.pw.mono hb2) (HCc.u.e1.mono hb2) (HCc.u.e2.mono hb2) kd nm tx ok hrv);have HRv:=h_ hrv;clear hb2 hrv;go_wp2_with fail;refine HRd.u.mono ?_;rintro e W4 ⟨rfl,hb⟩;replace H2:=h_ (H2.u.mono hb);replace HA:=h_ (HA.u.trans (AddK.of_below v hb));clear hb HRd;have HBx:=h_ ((bR W4.heap.size W4).alloc (nR _) (.cells (Ju kd nm tx) 131));have HKx:=h_ (Blk.new W4 131 (Ju kd nm tx));obtain⟨W5,hW5⟩:=Nq (W4.alloc (.cells (Ju kd nm tx) 131));rw[hW5]at HBx HKx;replace H2:=h_ (H2.u.mono HBx.u);replace HA:=h_ (HA.u.trans (AddK.of_below v HBx.u));have x0:=HKx.u.cell 0;have x1:=HKx.u.cell 1;have x2:=HKx.u.cell 2;simp only[Yp,Zb]at x0 x1 x2;cases ok
  . have HE:Hi (Evx tkX 64 .atm d (l.drop i) none):=h_ (by
     by_cases hlt:i<l.length
     . rw[qia hlt,HT.u]
       exact ev_no HLt.u (qep HGf.u (by rw[HRv.u]))
     . rw[Yx (by omega)];exact q93)
    have HBe:=h_ H2.u.bel;go_wp2_with fail
    try rw[hW5]
    refine(ask_no _ _).mono ?_;rintro e w6 ⟨rfl,rfl⟩;exact⟨rfl,.inl ⟨HE.u,rfl,HBe.u⟩⟩
  . have hlt:i<l.length:=Yv fun hc=>by
     have h1:=HT.u;rw[pk_ge hc]at h1;have h2:=qdt;rw[h1,HRv.u]at h2;cases h2
    have HE:Hi (Evx tkX 64 .atm d (l.drop i) (some ([⟨0,⟨kd,nm,tx⟩,⟨#[]⟩⟩],l.drop (i+1)))):=h_ (by
     rw[qia hlt,HT.u];refine ev_one HLt.u ?_ (.inl HGf.u);show tkK t=_;unfold tkK cstNd;rw[HGf.u,HRv.u];rfl)
    have HAd:=h_ (qf9 (⟨0,⟨kd,nm,tx⟩,⟨#[]⟩⟩:Nx) (by omega) H2.u);unfold nv at HAd;go_wp2_with fail
    try rw[hW5]
    refine(qfe _ _).mono ?_;rintro e w6 ⟨rfl,rfl⟩;clear hW5;go_wp2_with fail;refine HAd.u.mono ?_;rintro e W7 ⟨rfl,v7,hr,hak⟩;have H7:=h_ hr;replace HA:=h_ (HA.u.trans hak);clear hr hak x0 x1 x2;go_wp2_with fail
    go_end0
    exact .inr ⟨_,i+1,v7,HE.u,rfl,by omega,by omega,by simp,H7.u,HA.u⟩
 have hlt:i<l.length:=Yv fun hc=>by
  have h1:=HT.u;rw[pk_ge hc]at h1;rw[<- h1,q6o]at hg;cases hg
 have HD:Hi (l.drop i=t :: l.drop (i+1)):=h_ (by rw[qia hlt,HT.u])
 rw[hg]at HG
 have HGt:=h_ hg
 have HP2:=h_ (qdm HCc.u H2.u)
 obtain⟨u,hu⟩:=Nq (pk l (i+1))
 have HUe:=h_ hu
 rw[hu]at HP2
 clear hg hu
 have he:=eqT u ⟨#[40]⟩
 rw[show(⟨#[40]⟩:ByteArray).toList=[40] by rw[Y4]]at he
 go_wp2_with fail
 refine(HG.u _).mono ?_
 rintro e w3 ⟨rfl,rfl⟩
 go_wp2_with fail
 refine HP2.u.mono ?_
 rintro e W4 ⟨rfl,hb⟩
 replace H2:=h_ (H2.u.mono hb);replace HA:=h_ (HA.u.trans (AddK.of_below v hb))
 clear hb HP2
 by_cases hq:u=⟨#[40]⟩
 case pos =>
  have HQ:Hi (pk l (i+1)=⟨#[40]⟩):=h_ (by rw[HUe.u,hq]);have hlt2:i+1<l.length:=pk_in (by rw[HQ.u];exact qd0);rw[Yh hq]at he;have HFw:=h_ (q01 t W4 (HCc.u.wr.mono H2.u.bel));obtain⟨op,hop⟩:=Nq (opW t 16 10);rw[hop]at HFw;have HCl:=h_ (qfx op HCc.u hd hlt2 HQ.u (by omega) H2.u (fun j d' lv w' v' ns' hm=>HI.u j d' lv w' v' ns' (by omega)) t HGt.u (by rw[f_of HGt.u,hop]));clear hq hop;go_wp2_with fail;refine HFw.u.mono ?_;rintro e w5 ⟨rfl,rfl⟩;go_wp2_with fail;refine HCl.u.mono ?_;rintro e W6 (⟨hev,rfl,hb⟩ | ⟨en,i',v',hev,rfl,k1,k2,k3,hr,hak⟩)
  case inl=>exact⟨rfl,.inl ⟨by rw[HD.u];exact hev,rfl,hb⟩⟩
  have H6:=h_ hr;have HE:=h_ hev;replace HA:=h_ (HA.u.trans hak);clear hr hak hev;go_wp2_with fail
  go_end0
  exact .inr ⟨en,i',v',by rw[HD.u];exact HE.u,rfl,by omega,k2,by omega,H6.u,HA.u⟩
 rw[Yg hq]at he
 have HE:Hi (Evx tkX 64 .atm d (l.drop i) (some ([fldNd t],l.drop (i+1)))):=h_ (by
  rw[HD.u];refine ev_one HLt.u (k_good HGt.u).1 (.inr fun y s e=>?_);by_cases hi1:i+1<l.length
  . rw[qia hi1,HUe.u]at e
    cases e;exact Yg hq
  . rw[Yx (by omega)]at e
    cases e)
 have HAd:=h_ (qf9 (fldNd t) (by omega) H2.u)
 unfold nv fldNd blankX at HAd
 clear hq
 go_wp2_with fail
 refine HAd.u.mono ?_
 rintro e W7 ⟨rfl,v7,hr,hak⟩
 have H7:=h_ hr
 replace HA:=h_ (HA.u.trans hak)
 clear hr hak
 go_wp2_with fail
 go_end0
 exact .inr ⟨_,i+1,v7,HE.u,rfl,by omega,by omega,by simp,H7.u,HA.u⟩
theorem lv_eq (t:ByteArray)(lv:Nat)(h:lv<=5):(lvl (tkX.b t:Nat)==(lv:Int))=decide (tkX.b t≠0/\tkX.lv (tkX.b t)=lv):=by
 have h7:lvl ((0:Nat):Int)=7:=by decide
 have hp:0<=lvl (tkX.b t:Nat):=by unfold lvl;repeat (first | omega | split)
 rw[Zj,beq_iff_eq,Yj]
 show _ ↔ _/\(lvl (tkX.b t:Nat)).toNat=lv
 constructor
 . intro e
   refine⟨fun e0=>?_,by omega⟩;rw[e0]at e;omega
 . rintro⟨-,h2⟩
   omega
theorem q7a {l:List ByteArray}{i lv d:Nat}{acc:List Nx}(h:¬ (tkX.b (pk l i)≠0/\tkX.lv (tkX.b (pk l i))=lv)):Evx tkX 64 (.lp lv acc) d (l.drop i) (some (acc,l.drop i)):=by
 by_cases hi:i<l.length
 . rw[qia hi];exact q6k h
 . rw[Yx (by omega)];exact q96
theorem oper5 {w0:World}{a:Option Addr}{c:Nat}{l:List ByteArray}{w:World}{i d lv:Nat}{v:Value}{ns:List Nx}(n:Nat)(hc:RC w0 a l)(hI:Opers w0 a c l n)(hm:9*(l.length - i)+(8 - lv)<=n+1)(h1:1<=lv)(h5:lv<=5)(hd:d<=64)(hi:i<=l.length)(hn:ns.length<=i)(h:Rdr w0 a c l w i d v ns) :
 Calls Tryz.prog 184 #[Yd w0.heap.size 0,Ya (lv:Nat)] w (RdO w0 a c l (.op lv) w i d v ns):=by
 have hl:=hc.len
 obtain⟨l1,hl1⟩:∃x,lv+1=x:=⟨_,rfl⟩
 have hl1':=i_one hl1
 have h6:((lv:Int)==6)=false:=Ye.2 (by omega)
 have hlb:lv<l1:=by omega
 have hlc:l1<=6:=by omega
 have HCc:=h_ hc;have HI:=h_ hI
 have HO1:=h_ (hI i d l1 w v ns (by omega) (by omega) hlc hd hi hn h)
 have HL1:Hi (lv+1=l1):=h_ hl1
 have HEn:Hi (Evx tkX 64 (.op l1) d (l.drop i) none->Evx tkX 64 (.op lv) d (l.drop i) none):=h_ fun hx=>q6l (by omega) (by rw[hl1];exact hx)
 have HEs:Hi (∀e r x,Evx tkX 64 (.op l1) d (l.drop i) (some (e,r))->Evx tkX 64 (.lp lv e) d r x->Evx tkX 64 (.op lv) d (l.drop i) x):=h_ fun e r x hx hy=>ev_op (by omega) (by rw[hl1];exact hx) hy
 clear hc hI h hl1
 go_enter Tryz.func184,Tryz.ntmps184
 go_wp2_with fail
 refine HO1.u.mono ?_
 rintro e W1 (⟨hev,rfl,hb⟩ | ⟨e1,i1,v1,hev,rfl,k1,k2,k3,hr,hak⟩)
 case inl=>exact⟨rfl,.inl ⟨HEn.u hev,rfl,hb⟩⟩
 have H:=h_ hr;have HA:=h_ hak
 have HX:Hi (∀x,Evx tkX 64 (.lp lv e1) d (l.drop i1) x->Evx tkX 64 (.op lv) d (l.drop i) x):=h_ fun x hx=>HEs.u _ _ _ hev hx
 have HP:=h_ (qdm HCc.u hr)
 clear hr hak hev HO1 HEn HEs
 go_wp2_with fail
 refine HP.u.mono ?_
 rintro e W2 ⟨rfl,hb⟩
 replace H:=h_ (H.u.mono hb);replace HA:=h_ (HA.u.trans (AddK.of_below v1 hb))
 have HBw:=h_ (q06 (pk l i1) W2 (HCc.u.wr.mono H.u.bel))
 clear hb HP
 go_wp2_with fail
 refine HBw.u.mono ?_
 rintro e w3 ⟨rfl,rfl⟩
 clear HBw
 go_wp2_with fail
 go_loopw [4] (fun ov wr=>∃(i2:Nat) (v2:Value) (acc:List Nx),ov=Ya (tkX.b (pk l i2):Nat)/\(∀x,Evx tkX 64 (.lp lv acc) d (l.drop i2) x->Evx tkX 64 (.op lv) d (l.drop i) x)/\i<=i2/\i2<=l.length/\i+acc.length<=i2/\Rdr w0 a c l wr i2 d v2 (ns++acc)/\AddK w0.heap.size w wr v v2) (fun _ wr=>l.length - atOf wr w0.heap.size)
 case atStart=>exact⟨i1,v1,e1,rfl,HX.u,k1,k2,k3,H.u,HA.u⟩
 case round =>
  clear HX H HA;obtain⟨i2,v2,acc,rfl,hx,hi2,hi2l,hacc,hr,hak⟩:=hrel;have HX:=h_ hx;have H:=h_ hr;have HA:=h_ hak;have HM:Hi (atOf wr w0.heap.size=i2):=h_ hr.at';clear hx hr hak;obtain⟨t,ht⟩:=Nq (pk l i2);have HT:=h_ ht;have hlv:=lv_eq t lv h5;have HTk:=h_ (qel (show i2<=2000000 by omega) HCc.u H.u);rw[ht]at HTk⊢;clear ht;by_cases hq:tkX.b t≠0/\tkX.lv (tkX.b t)=lv
  case neg =>
   rw[Yg hq]at hlv;have HE:=h_ (HX.u _ (q7a (by rw[HT.u];exact hq)));clear hq;go_wp2_with fail;refine(q59 _ _).mono ?_;rintro e w4 ⟨rfl,rfl⟩;go_wp2_with fail
   go_end0
   exact .inr ⟨acc,i2,v2,HE.u,rfl,hi2,hi2l,hacc,H.u,HA.u⟩
  rw[Yh hq]at hlv;have hlt:i2<l.length:=Yv fun hc=>by
   have h9:=HT.u;rw[pk_ge hc]at h9;rw[<- h9]at hq;exact hq.1 b_nil
  have HD:Hi (l.drop i2=t :: l.drop (i2+1)):=h_ (by rw[qia hlt,HT.u]);have HQ:=h_ hq;have hlenA:(ns++acc).length<=i2:=by rw[Yf];omega
  clear hq;go_wp2_with fail;refine(q59 _ _).mono ?_;rintro e w4 ⟨rfl,rfl⟩;go_wp2_with fail;refine HTk.u.mono ?_;rintro e W5 ⟨rfl,hr,hak⟩;replace HA:=h_ (HA.u.trans hak);have HO2:=h_ (HI.u (i2+1) d l1 W5 v2 (ns++acc) (by omega) (by omega) hlc hd (by omega) (by omega) hr);clear hr hak HTk H;go_wp2_with fail;refine HO2.u.mono ?_;rintro e W6 (⟨hev,rfl,hb⟩ | ⟨e2,i3,v3,hev,rfl,m1,m2,m3,hr,hak⟩)
  case inl=>exact⟨rfl,.inl ⟨HX.u _ (by rw[HD.u];exact q6j HQ.u.1 HQ.u.2 (by rw[HL1.u];exact hev)),rfl,hb⟩⟩
  replace HA:=h_ (HA.u.trans hak);have hlenB:(ns++acc++e2).length<=1048576:=by rw[Yf];omega
  have HAd:=h_ (qf9 (opNd (tkX.b t)) hlenB hr);unfold nv opNd blankX at HAd;have HEv:=h_ hev;clear hr hak hev HO2;go_wp2_with fail;refine HAd.u.mono ?_;rintro e W7 ⟨rfl,v7,hr,hak⟩;replace HA:=h_ (HA.u.trans hak);rw[show ns++acc++e2++[(⟨((tkX.b t:Nat):Int),⟨0,0,⟨#[]⟩⟩,⟨#[]⟩⟩:Nx)]=ns++(acc++e2++[opNd (tkX.b t)]) by simp[opNd,blankX]]at hr;have H7:=h_ hr;have HM7:Hi (atOf W7 w0.heap.size=i3):=h_ hr.at';have HLe:Hi (i+(acc++e2++[opNd (tkX.b t)]).length<=i3):=h_ (by simp only[Yf,Yl,Yw];omega);clear hr hak HAd;by_cases h3:lv=3
  case pos =>
   have h3':((lv:Int)==3)=true:=by simp[h3]
   have HE:Hi (Evx tkX 64 (.op lv) d (l.drop i) (some (acc++e2++[opNd (tkX.b t)],l.drop i3))):=h_ (HX.u _ (by
    rw[HD.u];have hq:=HQ.u;have hv:=HEv.u;have h1:=HL1.u;subst h3;subst h1;exact q95 hq.1 hq.2 hv))
   clear h3;go_wp2_with fail
   go_end0
   exact .inr ⟨_,i3,v7,HE.u,rfl,by omega,m2,HLe.u,H7.u,HA.u⟩
  have h3':((lv:Int)==3)=false:=Ye.2 (by omega);have HX2:Hi (∀x,Evx tkX 64 (.lp lv (acc++e2++[opNd (tkX.b t)])) d (l.drop i3) x->Evx tkX 64 (.op lv) d (l.drop i) x):=h_ fun x hx=>HX.u _ (by
   rw[HD.u];exact qc3 HQ.u.1 HQ.u.2 h3 (by rw[HL1.u];exact HEv.u) hx)
  have HP7:=h_ (qdm HCc.u H7.u);clear h3;go_wp2_with fail;refine HP7.u.mono ?_;rintro e W8 ⟨rfl,hb⟩;replace H7:=h_ (H7.u.mono hb);replace HA:=h_ (HA.u.trans (AddK.of_below v7 hb));have HM8:Hi (atOf W8 w0.heap.size=i3):=h_ H7.u.at';have HB8:=h_ (q06 (pk l i3) W8 (HCc.u.wr.mono H7.u.bel));clear hb HP7;go_wp2_with fail;refine HB8.u.mono ?_;rintro e w9 ⟨rfl,rfl⟩;clear HB8;go_wp2_with fail;go_roundw
  case rel=>exact⟨i3,v7,_,rfl,HX2.u,by omega,m2,HLe.u,H7.u,HA.u⟩
  case measure=>rw[HM8.u,HM.u];omega
theorem oper6 {w0:World}{a:Option Addr}{c:Nat}{l:List ByteArray}{w:World}{i d:Nat}{v:Value}{ns:List Nx}(n:Nat)(hc:RC w0 a l)(hcl:l.length<=c)(hI:Opers w0 a c l n)(hm:9*(l.length - i)+2<=n+1)(hd:d<=64)(hi:i<=l.length)(hn:ns.length<=i)(h:Rdr w0 a c l w i d v ns) :
 Calls Tryz.prog 184 #[Yd w0.heap.size 0,Ya 6] w (RdO w0 a c l (.op 6) w i d v ns):=by
 have HS:=h_ (qam hc hcl hi hn h (fun k w' h1 h2 h3=>qff hc hd h2 (by omega) h3 (fun i' d' lv w'' v' ns' hm'=>hI i' d' lv w'' v' ns' (by omega))))
 clear hc hI h
 go_enter Tryz.func184,Tryz.ntmps184
 go_wp2_with fail
 refine HS.u.mono ?_
 rintro e W1 (⟨hev,rfl,hb⟩ | ⟨en,i',v',hev,rfl,k1,k2,k3,hr,hak⟩)
 . exact⟨rfl,.inl ⟨hev,rfl,hb⟩⟩
 . have HE:=h_ hev;have H:=h_ hr;have HA:=h_ hak
   clear hev hr hak;go_wp2_with fail
   go_end0
   exact .inr ⟨en,i',v',HE.u,rfl,k1,k2,k3,H.u,HA.u⟩
theorem q9u {w0:World}{a:Option Addr}{c:Nat}{l:List ByteArray}(hc:RC w0 a l)(hcl:l.length<=c):∀n,Opers w0 a c l n
 | 0=>fun i d lv w v ns hm h1 h6=>by omega
 | n+1=>fun i d lv w v ns hm h1 h6 hd hi hn h=>by
  by_cases h5:lv<=5
  . exact oper5 n hc (q9u hc hcl n) hm h1 h5 hd hi hn h
  . obtain rfl:lv=6:=by omega
    exact oper6 n hc hcl (q9u hc hcl n) (by omega) hd hi hn h
theorem u_of (t:ByteArray):tkX.u t=if t=⟨#[45]⟩ then 2 else if t=⟨#[110,111,116]⟩ then 3 else 0:=by
 show opW t 2 2=_
 unfold opW opW opW
 rw[show wrd ((2:Nat):Int)=⟨#[45]⟩ from rfl,show wrd ((2+1:Nat):Int)=⟨#[110,111,116]⟩ from rfl]
 by_cases h:t=⟨#[45]⟩
 . rw[Yn h,Yn h.symm]
 . rw[Yi h,Yi (fun e=>h e.symm)]
   by_cases h2:t=⟨#[110,111,116]⟩
   . rw[Yn h2,Yn h2.symm]
   . rw[Yi h2,Yi (fun e=>h2 e.symm)]
theorem split6 (n:Nat)(hI:Splits n)(l:List ByteArray)(a:Option Addr)(c:Nat)(w:World)(hm:9*l.length+2<=n+1)(hc:l.length<=c)(hl:l.length<=1048576)(ht:TkOk l)(ha:Tks w a l)(h0:0<l.length) :
 Calls Tryz.prog 91 #[.slice a l.length c,Ya 6] w (SplA w 6 0 l []):=by
 have HI:=h_ hI;have HT:=h_ ht;have HA:=h_ ha
 have hz:((l.length:Int)==0)=false:=Ye.2 (by omega)
 obtain⟨b,o,p,rfl,hcc⟩:=ha 0 h0
 have HSp:Hi (l=l[0] :: l.drop 1):=h_ (by
  have:=qc0 h0;rw[Z5]at this;exact this)
 generalize l[0]=t at *
 rw[Vm,Zq]at hcc
 have HC:=h_ hcc
 obtain⟨-,c0,c1,c2⟩:=hcc
 have HM:=h_ (fun w=>qj9 (t:=t) (s:=⟨#[45]⟩) p (by decide) w)
 have HN:=h_ (fun w=>qf6 (t:=t) (s:=⟨#[110,111,116]⟩) p (by decide) w)
 unfold tV at HM HN
 have hu:=u_of t
 have HU0:=h_ (fun (h:tkX.u t=0) e=>q7h (r:=l.drop 1) h e)
 have HU1:=h_ (fun (h:tkX.u t≠0) e=>qe3 tkX_ok (r:=l.drop 1) h e)
 rw[<- HSp.u]at HU0 HU1
 have h7:=HI.u l 7 (some ⟨b,o,none⟩) c
 have HI7:=h_ (fun w h=>h7 w (by omega) (by omega) (by omega) hc hl ht h)
 rw[show((7:Nat):Int)=7 from rfl]at HI7
 clear h7
 obtain⟨B,hB⟩:∃x,l.drop 1=x:=⟨_,rfl⟩
 have hBl:B.length=l.length - 1:=by rw[<- hB,Vc]
 have HBv:Hi (∀w,Tks w (some ⟨b,o,none⟩) l->Tks w (cutA (some ⟨b,o,none⟩) 1 c 3) B):=h_ (fun w h=>by have:=h.cut (lo:=1) (hi:=l.length) (nR _) hc;rw[Zl,hB]at this;exact this)
 have HBt:Hi (TkOk B):=h_ (by have:=ht.cut 1 l.length;rw[Zl,hB]at this;exact this)
 have hsB:=cut_l (some ⟨b,o,none⟩) l.length c 1 h0
 rw[<- hBl,show((1:Nat):Int)=1 from rfl]at hsB
 rw[hB]at HU1
 have HI6:=h_ (fun w h=>HI.u B 6 (cutA (some ⟨b,o,none⟩) 1 c 3) (c - 1) w (by omega) (by omega) (by omega) (by omega) (by omega) HBt.u h)
 rw[show((6:Nat):Int)=6 from rfl]at HI6
 have hBm:B.length<=1048575:=by omega
 clear hI ht ha hB hBl HI HT HSp
 have key:∀(u:Nat) (W:World),u≠0->tkX.u t=u->True:=fun _ _ _ _=>trivial
 clear key
 by_cases q1:t=⟨#[45]⟩
 case' pos =>
  have q2:¬ t=⟨#[110,111,116]⟩:=by rw[q1];decide
  rw[Yn q1]at hu;rw[Yh q1]at HM;rw[Yg q2]at HN;have HX:=h_ (HU1.u (by rw[hu];decide));rw[hu]at HX;clear q1 q2 hu HU0 HU1 HI7;go_enter Tryz.func91,Tryz.ntmps91;go_wp2_with fail;refine(HM.u _).mono ?_;rintro r9 W1 ⟨rfl,hb⟩;have HB:=h_ hb;replace HC:=h_ (HC.u.mono hb);replace HA:=h_ (HA.u.mono hb);clear hb c0 c1 c2;obtain⟨-,c0,c1,c2⟩:=HC.u;go_wp2_with fail;refine(HN.u _).mono ?_;rintro r9 W2 ⟨rfl,hb⟩;replace HB:=mT HB hb;replace HA:=h_ (HA.u.mono hb);clear hb c0 c1 c2;go_wp2_with fail
 case' neg =>
  rw[Yi q1]at hu;rw[Yg q1]at HM;by_cases q2:t=⟨#[110,111,116]⟩
  case neg =>
   rw[Yi q2]at hu;rw[Yg q2]at HN;have HX:=h_ (HU0.u hu);clear q1 q2 hu HU0 HU1 HI6;go_enter Tryz.func91,Tryz.ntmps91;go_wp2_with fail;refine(HM.u _).mono ?_;rintro r9 W1 ⟨rfl,hb⟩;have HB:=h_ hb;replace HC:=h_ (HC.u.mono hb);replace HA:=h_ (HA.u.mono hb);clear hb c0 c1 c2;obtain⟨-,c0,c1,c2⟩:=HC.u;go_wp2_with fail;refine(HN.u _).mono ?_;rintro r9 W2 ⟨rfl,hb⟩;replace HB:=mT HB hb;replace HA:=h_ (HA.u.mono hb);clear hb c0 c1 c2;go_wp2_with fail;refine(HI7.u _ HA.u).mono ?_;intro r9 w3 h9;have HZ:=h_ h9;obtain⟨v,bb,rfl,hb,-⟩:=h9;clear hb;go_wp2_with fail
   go_ret2
   exact spl_up (qix HZ.u HB.u) HX.u
  rw[Yn q2]at hu;rw[Yh q2]at HN;have HX:=h_ (HU1.u (by rw[hu];decide));rw[hu]at HX;clear q1 q2 hu HU0 HU1 HI7;go_enter Tryz.func91,Tryz.ntmps91;go_wp2_with fail;refine(HM.u _).mono ?_;rintro r9 W1 ⟨rfl,hb⟩;have HB:=h_ hb;replace HC:=h_ (HC.u.mono hb);replace HA:=h_ (HA.u.mono hb);clear hb c0 c1 c2;obtain⟨-,c0,c1,c2⟩:=HC.u;go_wp2_with fail;refine(HN.u _).mono ?_;rintro r9 W2 ⟨rfl,hb⟩;replace HB:=mT HB hb;replace HA:=h_ (HA.u.mono hb);clear hb c0 c1 c2;go_wp2_with fail
 all_goals
  refine(HI6.u _ (HBv.u _ HA.u)).mono ?_;rintro r9 W3 ⟨va,ba,rfl,hb,hy,hno⟩;replace HB:=mT HB hb;clear hb HI6 HBv;cases ba
  case' false =>
   have HY:=h_ (hno rfl);clear hy hno;have HZ:=h_ ((bR W3.heap.size W3).alloc (nR _) (.cells #[] 133));go_wp2_with fail
   go_ret2
   exact spl_no (HB.u.trans (HZ.u.mono HB.u.size)) (fun e he=>by obtain⟨eb,h8,-⟩:=(HX.u e).1 he;exact HY.u eb h8)
  obtain⟨ea,hga,hoa⟩:=hy rfl;rw[Zi]at hoa;have HGa:=h_ hga;have hla:=hga.len;have HZ:=h_ ((bR W3.heap.size W3).alloc (nR _) (.cells #[] 133));have HOa:=h_ (hoa.keep HZ.u);have HOn:=h_ (OwnN.none W3);obtain⟨W4,hW4⟩:=Nq (W3.alloc (.cells #[] 133));rw[hW4]at HZ HOa HOn;replace HB:=h_ (HB.u.trans (HZ.u.mono HB.u.size));clear hy hno hga hoa;go_wp2_with fail
  try rw[hW4]
  clear hW4;refine(qco HOa.u HOn.u (by simp;omega)).mono ?_;rintro r9 W5 ⟨vj,rfl,hoj,hb⟩;rw[Zi]at hoj;have HOj:=h_ (hoj.low HB.u.size);replace HB:=mT HB hb;clear hoj hb;go_wp2_with fail;refine(q3a _ _).mono ?_;rintro r9 W6 ⟨rfl,hb⟩;replace HB:=mT HB hb;replace HOj:=h_ (HOj.u.keep hb);clear hb
  first
   | (have HNn:Hi (Blk _ _ 133 (nC (opNd 2))):=h_ (Blk.new W6 133 (nC (opNd 2)).toArray)
      have HS:=h_ ((bR W6.heap.size W6).alloc (nR _) (.cells (nC (opNd 2)).toArray 133));go_wp2_with (at_builtin;refine q45 rfl _ _ rfl rfl (HOj.u.keep HS.u) rfl HNn.u (by omega) (Yt HB.u.size HS.u.size) ?_);intro v' W9 ho hb9;have HO9:=h_ ho;have HB9:=h_ (HB.u.trans ((HS.u.mono HB.u.size).trans hb9));clear ho hb9;go_wp2_with fail
      go_ret2
      exact⟨_,_,rfl,HB9.u,fun _=>⟨_,(HX.u _).2 ⟨ea,HGa.u,rfl⟩,by rw[Zi];exact HO9.u⟩,(fun h=>nomatch h)⟩)
   | (have HNn:Hi (Blk _ _ 133 (nC (opNd 3))):=h_ (Blk.new W6 133 (nC (opNd 3)).toArray)
      have HS:=h_ ((bR W6.heap.size W6).alloc (nR _) (.cells (nC (opNd 3)).toArray 133));go_wp2_with (at_builtin;refine q45 rfl _ _ rfl rfl (HOj.u.keep HS.u) rfl HNn.u (by omega) (Yt HB.u.size HS.u.size) ?_);intro v' W9 ho hb9;have HO9:=h_ ho;have HB9:=h_ (HB.u.trans ((HS.u.mono HB.u.size).trans hb9));clear ho hb9;go_wp2_with fail
      go_ret2
      exact⟨_,_,rfl,HB9.u,fun _=>⟨_,(HX.u _).2 ⟨ea,HGa.u,rfl⟩,by rw[Zi];exact HO9.u⟩,(fun h=>nomatch h)⟩)
theorem split7 (n:Nat)(hI:Splits n)(l:List ByteArray)(a:Option Addr)(c:Nat)(w:World)(hm:9*l.length+1<=n+1)(hc:l.length<=c)(hl:l.length<=1048576)(ht:TkOk l)(ha:Tks w a l)(h0:0<l.length) :
 Calls Tryz.prog 91 #[.slice a l.length c,Ya 7] w (SplA w 7 0 l []):=by
 have hz:((l.length:Int)==0)=false:=Ye.2 (by omega)
 have HAt:Hi (Calls Tryz.prog 120 #[.slice a l.length c] w (SplA w 7 0 l [])):=h_ (by
  match l,h0,hm,hc,hl,ht,ha with
  | [t],_,_,_,_,ht,ha =>
   obtain⟨h1,h2⟩:=ht t (by simp);exact q71 t a c w h1 h2 ha
  | t :: u :: s,_,hm,hc,hl,ht,ha=>exact q9h (t :: u :: s) t u s rfl a c w (fun l' lv a' c' w' h=>hI l' lv a' c' w' (by omega)) hc hl ht ha)
 clear hI ht ha
 go_enter Tryz.func91,Tryz.ntmps91
 go_wp2_with fail
 refine HAt.u.mono ?_
 intro r9 w3 h9
 have HZ:=h_ h9
 obtain⟨v,bb,rfl,hb,-⟩:=h9
 clear hb
 go_wp2_with fail
 go_ret2
 exact HZ.u
theorem split0 (lv c:Nat)(a:Option Addr)(w:World)(h7:lv<=7):Calls Tryz.prog 91 #[.slice a 0 c,Ya (lv:Nat)] w (SplA w lv 0 [] []):=by
 have HB:=h_ ((bR w.heap.size w).alloc (nR _) (.cells #[] 133))
 go_enter Tryz.func91,Tryz.ntmps91
 go_wp2_with fail
 go_ret2
 exact spl_no HB.u (fun e he=>((he.ph tkX_ok).1 h7).ne rfl)
theorem q85:∀n,Splits n
 | 0=>fun l lv a c w h h1 h7=>by omega
 | n+1=>fun l lv a c w h h1 h7 hc hl ht ha=>by
  have hI:=q85 n;by_cases h0:0<l.length
  . by_cases h5:lv<=5
    . exact split5 n hI l lv a c w h h1 h5 hc hl ht ha h0
    . by_cases h6:lv=6
      . subst h6;exact split6 n hI l a c w (by omega) hc hl ht ha h0
      . obtain rfl:lv=7:=by omega
        exact split7 n hI l a c w (by omega) hc hl ht ha h0
  . have:l=[]:=Z2.1 (by omega)
    subst this;exact split0 lv c a w h7
theorem q3b (l:List ByteArray)(a:Option Addr)(c:Nat)(w:World)(hc:l.length<=c)(hl:l.length<=1048576)(ht:TkOk l)(ha:Tks w a l) :
 Calls Tryz.prog 48 #[.slice a l.length c] w fun r w'=>∃v b,r=.returned (.tuple #[v,.bool b])/\Below w.heap.size w w'/\(b=true->∃e,(Gr tkX 1 0 l e/\blc tkX 64 0 l=some 0)/\OwnN w' w.heap.size v e)/\(b=false->∀e,¬ (Gr tkX 1 0 l e/\blc tkX 64 0 l=some 0)):=by
 have HA:=h_ ha
 have HBa:=h_ (q1p a c l w hl ha)
 have HS:=h_ (fun w h=>q85 (9*l.length+7) l 1 a c w (by omega) (by omega) (by omega) hc hl ht h)
 rw[show((1:Nat):Int)=1 from rfl]at HS
 clear ht ha
 by_cases hb:blc tkX 64 0 l=some 0
 . rw[Yh hb]at HBa
   have HX:=h_ hb;clear hb;go_enter Tryz.func48,Tryz.ntmps48;go_wp2_with fail;refine HBa.u.mono ?_;rintro r9 W1 ⟨rfl,hb⟩;have HB:=h_ hb;replace HA:=h_ (HA.u.mono hb);clear hb;go_wp2_with fail;refine(HS.u _ HA.u).mono ?_;rintro r9 W3 ⟨v,b,rfl,hb,hy,hn⟩;have HZ:=h_ hb;have HY:=h_ hy;have HN:=h_ hn;clear hb hy hn;go_wp2_with fail
   go_ret2
   refine⟨v,b,rfl,HB.u.trans (HZ.u.mono HB.u.size),fun q=>?_,fun q e he=>HN.u q e he.1⟩;obtain⟨e,h1,h2⟩:=HY.u q;rw[Zi]at h2;exact⟨e,⟨h1,HX.u⟩,h2.low HB.u.size⟩
 . rw[Yg hb]at HBa
   have HX:=h_ hb;clear hb;go_enter Tryz.func48,Tryz.ntmps48;go_wp2_with fail;refine HBa.u.mono ?_;rintro r9 W1 ⟨rfl,hb⟩;have HB:=h_ hb;clear hb;have HZ:=h_ ((bR W1.heap.size W1).alloc (nR _) (.cells #[] 133));go_wp2_with fail
   go_ret2
   exact⟨_,_,rfl,HB.u.trans (HZ.u.mono HB.u.size),(fun h=>nomatch h),fun _ e he=>HX.u he.2⟩
theorem rv_fit (t:ByteArray)(hz:t.size<=1048576):(rv t).2.2.1.size<=9223372036854775807/\-9223372036854775808<=(rv t).2.1/\(rv t).2.1<=9223372036854775807:=by
 have hb:=qaa t.data.toList
 unfold rv
 split
 . refine⟨?_,?_,?_⟩ <;> decide
 . split
   . refine⟨?_,?_,?_⟩ <;> decide
   . split
     . refine⟨?_,?_,?_⟩ <;> decide
     . split
       . rename_i n hn
         unfold rd at hb;rw[hn]at hb;exact⟨nZ _,hb.1,hb.2⟩
       . split
         . refine⟨?_,show -9223372036854775808<=(0:Int) by omega,show(0:Int)<=9223372036854775807 by omega⟩
           show(mid t).size<=_;rw[qcv];omega
         . refine⟨?_,?_,?_⟩ <;> decide
theorem k_fit {t:ByteArray}{n:Nx}(hz:t.size<=1048576)(h:tkX.k t=some n):Fit n:=by
 change tkK t=some n at h
 unfold tkK at h
 split at h
 . cases h
   exact⟨nZ _,by show t.size<=_;omega,show -9223372036854775808<=(0:Int) by omega,show(0:Int)<=9223372036854775807 by omega⟩
 . split at h
   . cases h
     obtain⟨h1,h2,h3⟩:=rv_fit t hz;exact⟨h1,nZ _,h2,h3⟩
   . cases h
theorem op_fit (o:Nat):Fit (opNd o):=⟨by show(0:Nat)<=_;omega,by show(0:Nat)<=_;omega,by show _<=(0:Int);omega,by show(0:Int)<=_;omega⟩
theorem Gr.fit {l n:Nat}{ts:List ByteArray}{e:List Nx}(h:Gr tkX l n ts e)(hz:∀t,t∈ts->t.size<=1048576):∀x,x∈e->Fit x:=by
 induction h with
 | up _ _ _ ih=>exact ih hz
 | bin _ _ _ _ _ _ _ iha ihb =>
  intro x hx;simp only[Zg,Y7]at hx;rcases hx with (hx | hx) | rfl
  . exact iha (fun t ht=>hz t (by simp[ht])) x hx
  . exact ihb (fun t ht=>hz t (by simp[ht])) x hx
  . exact op_fit _
 | cmp _ _ _ _ iha ihb =>
  intro x hx;simp only[Zg,Y7]at hx;rcases hx with (hx | hx) | rfl
  . exact iha (fun t ht=>hz t (by simp[ht])) x hx
  . exact ihb (fun t ht=>hz t (by simp[ht])) x hx
  . exact op_fit _
 | pre _ _ ih =>
  intro x hx;simp only[Zg,Y7]at hx;rcases hx with hx | rfl
  . exact ih (fun t ht=>hz t (by simp[ht])) x hx
  . exact op_fit _
 | one h1 =>
  intro x hx;simp only[Y7]at hx;subst hx;exact k_fit (hz _ (by simp)) h1
 | par _ _ _ ih=>exact ih (fun t ht=>hz t (by simp[ht]))
 | call _ _ _ _ ih =>
  intro x hx;simp only[Zg,Y7]at hx;rcases hx with hx | rfl
  . exact ih (fun t ht=>hz t (by simp[ht])) x hx
  . exact op_fit _
 | arg _ ih=>exact ih hz
 | args _ _ _ iha ihb =>
  intro x hx;simp only[Zg]at hx;rcases hx with hx | hx
  . exact iha (fun t ht=>hz t (by simp[ht])) x hx
  . exact ihb (fun t ht=>hz t (by simp[ht])) x hx
theorem Gr.fitL {l n:Nat}{ts:List ByteArray}{e:List Nx}(h:Gr tkX l n ts e)(hz:∀t,t∈ts->t.size<=1048576):∀k,k<e.length->Fit (nf e k):=fun k hk=>by
 rw[nf_get e k hk]
 exact h.fit hz _ (Ys hk)
def ExG (ts:List ByteArray)(e:List Nx):Prop:=Gr tkX 1 0 ts e/\blc tkX 64 0 ts=some 0
end Go.Proofs.YtfmammdgehbjhaaGreatDoor
