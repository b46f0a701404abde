import Derived.Test.YtfmammdgehbjhaaGreatDoorW15
import Derived.Deep.AppendLies
set_option maxRecDepth 100000
set_option maxHeartbeats 64000000
namespace Go.Proofs.YtfmammdgehbjhaaGreatDoor
open Go Go.RowKit
theorem ng_of {t:ByteArray}(h:cls t≠1):goodN t=false:=by
 cases q:goodN t
 . rfl
 . exact absurd (q98 q) h
theorem k_int {t:ByteArray}(ht:VT t)(h:cls t=2):∃n,rd t.data.toList=(n,true)/\txt t=t/\tkX.k t=some ⟨0,⟨1,n,⟨#[]⟩⟩,⟨#[]⟩⟩:=by
 obtain⟨n,h1,h2⟩:=rv_int h (ht.c2 h)
 refine⟨n,by unfold rd;rw[h1],txt_eq (by omega),?_⟩
 show tkK t=_
 unfold tkK
 rw[ng_of (by omega),Yi (by decide),Yn (by rw[h2])]
 unfold cstNd
 rw[h2]
theorem k_txt {t:ByteArray}(ht:VT t)(h:cls t=3):tkX.k t=some ⟨0,⟨3,0,txt t⟩,⟨#[]⟩⟩:=by
 obtain⟨h2,-⟩:=rv_txt h (ht.c3 h)
 show tkK t=_
 unfold tkK
 rw[ng_of (by omega),Yi (by decide),Yn (by rw[h2])]
 unfold cstNd txt
 rw[h2,Yn h]
theorem k_word {t:ByteArray}{k n:Int}(h:goodN t=false)(hr:rv t=(k,n,⟨#[]⟩,true)):tkX.k t=some ⟨0,⟨k,n,⟨#[]⟩⟩,⟨#[]⟩⟩:=by
 show tkK t=_
 unfold tkK
 rw[h,Yi (by decide),Yn (by rw[hr])]
 unfold cstNd
 rw[hr]
theorem k_true:tkX.k ⟨#[116,114,117,101]⟩=some ⟨0,⟨2,1,⟨#[]⟩⟩,⟨#[]⟩⟩:=k_word (by decide +kernel) rfl
theorem qh5:tkX.k ⟨#[102,97,108,115,101]⟩=some ⟨0,⟨2,0,⟨#[]⟩⟩,⟨#[]⟩⟩:=k_word (by decide +kernel) rfl
theorem qh4:tkX.k ⟨#[98,108,97,110,107]⟩=some ⟨0,⟨0,0,⟨#[]⟩⟩,⟨#[]⟩⟩:=k_word (by decide +kernel) rfl
theorem k_good {t:ByteArray}(h:goodN t=true):tkX.k t=some (fldNd t)/\txt t=t:=by
 refine⟨?_,txt_eq (by rw[q98 h];decide)⟩
 show tkK t=_
 unfold tkK
 rw[Yn h]
theorem k_none {t:ByteArray}(ht:VT t)(h2:cls t≠2)(h3:cls t≠3)(h4:t≠⟨#[116,114,117,101]⟩)(h5:t≠⟨#[102,97,108,115,101]⟩)(h6:t≠⟨#[98,108,97,110,107]⟩)(hg:goodN t=false):tkX.k t=none:=by
 by_cases hr:t=⟨#[41]⟩
 . exact(tkX_ok.RC t (Yh hr)).2.2.2
 . have he:=eo_eq ht
   have hf:eoB t=false:=by
    unfold eoB;rw[Yg h2,Yg h3,Yg hr,hg,Yg h4,Yg h5,Yg h6];rfl
   rw[hf]at he;unfold Lx.eo at he;rw[Bool.or_eq_false_iff]at he;cases q:tkX.k t with
   | none=>rfl
   | some n=>rw[q]at he;cases he.2
theorem OwnN.one (w:World)(n:Nx):OwnN (w.alloc (.cells (nC n).toArray 133)) w.heap.size (.slice (some ⟨w.heap.size,0,.none⟩) 1 1) [n] :=
 ⟨rfl,.inr ⟨w.heap.size,1,(nC n).toArray,rfl,nR _,heap_alloc_new w (.cells (nC n).toArray 133),nR _,by unfold maxLen;omega,rfl,by simp[nodV];rfl⟩⟩
theorem qiy {w w1 w':World}{t:ByteArray}{n:Nx}{v:Value}(hb:Below w.heap.size w w1)(hw:w'=w1.alloc (.cells (nC n).toArray 133))(hk:tkX.k t=some n)(hv:v=.slice (some ⟨w1.heap.size,0,.none⟩) 1 1):SplA w 7 0 [t] [] (.returned (.tuple #[v,.bool true])) w':=by
 subst hw;subst hv
 refine⟨_,_,rfl,hb.trans (((bR _ _).alloc (nR _) _).mono hb.size),fun _=>⟨[n],(qhy t [n]).2 ⟨n,hk,rfl⟩,?_⟩,(fun h=>nomatch h)⟩
 rw[Zi]
 exact(OwnN.one w1 n).low hb.size
theorem spl_no {w w':World}{lv m:Nat}{l:List ByteArray}{x:List Nx}{v:Value}(hb:Below w.heap.size w w')(hn:∀e,¬ Gr tkX lv m l e):SplA w lv m l x (.returned (.tuple #[v,.bool false])) w':=⟨_,_,rfl,hb,(fun h=>nomatch h),fun _=>hn⟩
theorem qd8 {s:ByteArray}:∀{n a:Nat},0<a->opW s a (n+1)=if opW s a n≠0 then opW s a n else if wrd ((a+n:Nat):Int)=s then a+n else 0
 | 0,a,h=>by simp[opW]
 | n+1,a,h=>by
  have ih:=qd8 (s:=s) (n:=n) (a:=a+1) (by omega);rw[opW.eq_2 s a (n+1),ih,opW.eq_2 s a n];by_cases e:wrd (a:Nat)=s
  . rw[Yn e,Yn e,Yn (by omega)]
  . rw[Yi e,Yi e,show a+1+n=a+(n+1) by omega]
theorem fn_inj {a b:Nat}(ha:16<=a)(ha':a<=25)(hb:16<=b)(hb':b<=25)(h:wrd (a:Nat)=wrd (b:Nat)):a=b:=by
 have key:∀i:Fin 10,∀j:Fin 10,wrd ((i.val+16:Nat):Int)=wrd ((j.val+16:Nat):Int)->i=j:=by decide
 have:=key ⟨a - 16,by omega⟩ ⟨b - 16,by omega⟩ (by
  show wrd ((a - 16+16:Nat):Int)=wrd ((b - 16+16:Nat):Int);rw[show a - 16+16=a by omega,show b - 16+16=b by omega];exact h)
 have:=congrArg Fin.val this
 simp only at this
 omega
theorem qhz {s:ByteArray}{k:Nat}(hk:16<=k)(hk':k<=25)(h:wrd (k:Nat)=s):opW s 16 (k+1 - 16)=k:=by
 rw[show k+1 - 16=(k - 16)+1 by omega,qd8 (by omega)]
 by_cases hq:opW s 16 (k - 16)=0
 . rw[Yi (by simp[hq]),show 16+(k - 16)=k by omega,Yn h]
 . obtain⟨h1,h2,h3⟩:=qd9 hq
   have:=fn_inj h1 (by omega) hk hk' (h3.trans h.symm);omega
theorem qd7 {s:ByteArray}{k:Nat}(hk:16<=k)(h:wrd (k:Nat)≠s):opW s 16 (k+1 - 16)=opW s 16 (k - 16):=by
 rw[show k+1 - 16=(k - 16)+1 by omega,qd8 (by omega),show 16+(k - 16)=k by omega,Yi h]
 by_cases hq:opW s 16 (k - 16)=0
 . rw[Yi (by simp[hq]),hq]
 . rw[Yn hq]
theorem qjk {l:List ByteArray}{t:ByteArray}{s:List ByteArray}(hl:l=t :: s)(h1:t=⟨#[40]⟩)(hm:mtV 0 0 l=(l.length:Int) - 1):∃a r,s=a++[r]/\tkX.R r=true:=by
 subst hl
 have hL:tkX.L t=true:=Yh h1
 unfold mtV at hm
 rw[Z5]at hm
 cases q:mtc tkX 0 (t :: s) with
 | none=>rw[q]at hm;first | (simp at hm;omega) | simp at hm
 | some j =>
  rw[q]at hm;simp at hm;refine q5d (l:=t) (s:=s) ?_ hL;rw[q]
  congr 1
  omega
theorem qey {l:List ByteArray}{t u:ByteArray}{s:List ByteArray}(hl:l=t :: u :: s)(h1:u=⟨#[40]⟩)(hm:mtV 1 0 l=(l.length:Int) - 1):∃a r,s=a++[r]/\tkX.R r=true:=by
 subst hl
 have hL:tkX.L u=true:=Yh h1
 unfold mtV at hm
 rw[show(t :: u :: s).drop 1=u :: s from rfl]at hm
 cases q:mtc tkX 0 (u :: s) with
 | none=>rw[q]at hm;first | (simp at hm;omega) | simp at hm
 | some j =>
  rw[q]at hm;simp at hm;refine q5d (l:=u) (s:=s) ?_ hL;rw[q]
  congr 1
  omega
theorem two_no {l:List ByteArray}{t u:ByteArray}{s:List ByteArray}(hl:l=t :: u :: s)(h1:¬ (t=⟨#[40]⟩/\mtV 0 0 l=(l.length:Int) - 1))(h2:¬ (goodN t=true/\u=⟨#[40]⟩/\mtV 1 0 l=(l.length:Int) - 1))(e:List Nx):¬ Gr tkX 7 0 l e:=by
 intro hg
 rcases q8d tkX_ok hg with ⟨x,hx⟩ | ⟨x,r,a,hx,hL,hR,hd,hn⟩ | ⟨x,y,r,a,hx,hG,hL,hR,hd,hn⟩
 . rw[hl]at hx;cases hx
 . refine h1 ⟨?_,?_⟩
   . rw[(List.cons.inj (hl.symm.trans hx)).1];exact Ze hL
   . have:=q7e tkX_ok hL hR hd hn
     unfold mtV;rw[hx,Z5,this];simp
 . refine h2 ⟨?_,?_,?_⟩
   . rw[hl]at hx;cases hx;exact hG
   . rw[hl]at hx;cases hx;exact Ze hL
   . have:=q7e tkX_ok hL hR hd hn
     unfold mtV;rw[hx,show(x :: y :: (a++[r])).drop 1=y :: (a++[r]) from rfl,this];simp;omega
theorem q71 (t:ByteArray)(a:Option Addr)(c:Nat)(w:World)(ht:VT t)(hz:t.size<=1048576)(ha:Tks w a [t]):Calls Tryz.prog 120 #[.slice a 1 c] w (SplA w 7 0 [t] []):=by
 have hb0:=(bR w.heap.size w).alloc (nR _) (.cells #[] 133)
 obtain⟨W0,hW0⟩:=Nq (w.alloc (.cells #[] 133))
 rw[hW0]at hb0
 obtain⟨b,o,p,rfl,hc⟩:=(ha.mono hb0) 0 (by simp)
 obtain⟨-,c0,c1,c2⟩:=hc
 simp only[Vd,Vm,Zq]at c0 c1 c2
 have htz:=qf2 t
 have HKi:Hi (cls t=2->∃n,(∀w,Calls Tryz.prog 41 #[.string (txt t)] w fun e w'=>e=.returned (.tuple #[Ya n,.bool true])/\Below w.heap.size w w')/\tkX.k t=some ⟨0,⟨1,n,⟨#[]⟩⟩,⟨#[]⟩⟩):=h_ fun h=>by
  obtain⟨n,h1,h2,h3⟩:=k_int ht h;exact⟨n,fun w=>by rw[h2];exact q2e t w (by omega) n true h1,h3⟩
 have HKt:=h_ (fun h=>k_txt ht h)
 have HKg:Hi (goodN t=true->tkX.k t=some ⟨1,⟨0,0,⟨#[]⟩⟩,txt t⟩):=h_ fun h=>by
  obtain⟨h1,h2⟩:=k_good h;rw[h1,h2];rfl
 have HKb:Hi (t=⟨#[98,108,97,110,107]⟩->tkX.k t=some ⟨0,⟨0,0,⟨#[]⟩⟩,⟨#[]⟩⟩):=h_ fun h=>by rw[h];exact qh4
 have HKf:Hi (t=⟨#[102,97,108,115,101]⟩->tkX.k t=some ⟨0,⟨2,0,⟨#[]⟩⟩,⟨#[]⟩⟩):=h_ fun h=>by rw[h];exact qh5
 have HKr:Hi (t=⟨#[116,114,117,101]⟩->tkX.k t=some ⟨0,⟨2,1,⟨#[]⟩⟩,⟨#[]⟩⟩):=h_ fun h=>by rw[h];exact k_true
 have HKn:=h_ (fun h2 h3 h4 h5 h6 hg=>k_none ht h2 h3 h4 h5 h6 hg)
 have HGd:=h_ (fun w=>qch (t:=t) p (by omega) w)
 have HTr:=h_ (fun w=>qf6 (t:=t) (s:=⟨#[116,114,117,101]⟩) p (by decide) w)
 have HFa:=h_ (fun w=>qf6 (t:=t) (s:=⟨#[102,97,108,115,101]⟩) p (by decide) w)
 have HBl:=h_ (fun w=>qf6 (t:=t) (s:=⟨#[98,108,97,110,107]⟩) p (by decide) w)
 unfold tV at HGd HTr HFa HBl
 have h2:cls t=2∨¬ cls t=2:=Decidable.em _
 have h3:cls t=3∨¬ cls t=3:=Decidable.em _
 have e2:((cls t:Int)==2)=decide (cls t=2):=by rcases h2 with h | h <;> simp[h];omega
 have e3:((cls t:Int)==3)=decide (cls t=3):=by rcases h3 with h | h <;> simp[h];omega
 clear h2 h3
 have HK:=h_ (Blk.new W0 41 (Jv (cls t:Nat) (txt t) p))
 have HB:=h_ (hb0.alloc (Yt (nR _) hb0.size) (.cells (Jv (cls t:Nat) (txt t) p) 41))
 obtain⟨W1,hW1⟩:=Nq (W0.alloc (.cells (Jv (cls t:Nat) (txt t) p) 41))
 rw[hW1]at HB HK
 have hs0:W0.heap.size=w.heap.size+1:=by rw[<- hW0];simp
 rw[hs0]at HK
 generalize hcc:(cls t:Int)=cc at *
 generalize txt t=x at *
 clear hcc
 have y0:=HK.u.cell 0;have y1:=HK.u.cell 1;have y2:=HK.u.cell 2
 simp only[Yp,Zb]at y0 y1 y2
 clear ha hb0 ht
 by_cases h2:cls t=2
 case pos =>
  obtain⟨n,hR,hk⟩:=HKi.u h2;have HR:=h_ hR;have HX:=h_ hk;rw[Yh h2]at e2;clear hR hk h2;go_enter Tryz.func120,Tryz.ntmps120;go_wp2_with fail
  try rw[hW0]
  try rw[hW1]
  refine(HR.u _).mono ?_;rintro e9 w2 ⟨rfl,hb⟩;replace HB:=mT HB hb;clear hb c0 c1 c2 y0 y1 y2 hW0 hW1;go_wp2_with fail;refine(q9f _ _).mono ?_;rintro e9 w3 ⟨rfl,hb⟩;replace HB:=mT HB hb;clear hb;go_wp2_with fail;refine(q4z _ _ _ _).mono ?_;rintro e9 w4 ⟨rfl,hb⟩;replace HB:=mT HB hb;clear hb;go_wp2_with fail
  go_ret2
  exact qiy HB.u rfl HX.u rfl
 rw[Yg h2]at e2
 by_cases h3:cls t=3
 case pos =>
  have HX:=h_ (HKt.u h3);rw[Yh h3]at e3;clear h2 h3;go_enter Tryz.func120,Tryz.ntmps120;go_wp2_with fail
  try rw[hW0]
  try rw[hW1]
  refine(q6w _ _).mono ?_;rintro e9 w3 ⟨rfl,hb⟩;replace HB:=mT HB hb;clear hb c0 c1 c2 y0 y1 y2 hW0 hW1;go_wp2_with fail;refine(q4z _ _ _ _).mono ?_;rintro e9 w4 ⟨rfl,hb⟩;replace HB:=mT HB hb;clear hb;go_wp2_with fail
  go_ret2
  exact qiy HB.u rfl HX.u rfl
 rw[Yg h3]at e3
 go_enter Tryz.func120,Tryz.ntmps120
 go_wp2_with fail
 try rw[hW0]
 try rw[hW1]
 refine(HTr.u _).mono ?_
 rintro e9 W2 ⟨rfl,hb⟩
 replace HB:=mT HB hb;replace HK:=mB HK hb
 clear hb c0 c1 c2 y0 y1 y2 hW0 hW1
 have y0:=HK.u.cell 0;have y1:=HK.u.cell 1;have y2:=HK.u.cell 2
 simp only[Yp,Zb]at y0 y1 y2
 by_cases h4:t=⟨#[116,114,117,101]⟩
 case pos =>
  have HX:=h_ (HKr.u h4);rw[Yh h4];clear h4;go_wp2_with fail;refine(q6u _ _).mono ?_;rintro e9 w3 ⟨rfl,hb⟩;replace HB:=mT HB hb;clear hb y0 y1 y2;simp only[if_true];go_wp2_with fail;refine(q4z _ _ _ _).mono ?_;rintro e9 w4 ⟨rfl,hb⟩;replace HB:=mT HB hb;clear hb;go_wp2_with fail
  go_ret2
  exact qiy HB.u rfl HX.u rfl
 rw[Yg h4]
 go_wp2_with fail
 refine(HFa.u _).mono ?_
 rintro e9 W3 ⟨rfl,hb⟩
 replace HB:=mT HB hb;replace HK:=mB HK hb
 clear hb y0 y1 y2
 have y0:=HK.u.cell 0;have y1:=HK.u.cell 1;have y2:=HK.u.cell 2
 simp only[Yp,Zb]at y0 y1 y2
 by_cases h5:t=⟨#[102,97,108,115,101]⟩
 case pos =>
  have HX:=h_ (HKf.u h5);rw[Yh h5];clear h5 h4;go_wp2_with fail;refine(q6u _ _).mono ?_;rintro e9 w3 ⟨rfl,hb⟩;replace HB:=mT HB hb;clear hb y0 y1 y2;simp only[Vw,if_false];go_wp2_with fail;refine(q4z _ _ _ _).mono ?_;rintro e9 w4 ⟨rfl,hb⟩;replace HB:=mT HB hb;clear hb;go_wp2_with fail
  go_ret2
  exact qiy HB.u rfl HX.u rfl
 rw[Yg h5]
 go_wp2_with fail
 refine(HBl.u _).mono ?_
 rintro e9 W4 ⟨rfl,hb⟩
 replace HB:=mT HB hb;replace HK:=mB HK hb
 clear hb y0 y1 y2
 have y0:=HK.u.cell 0;have y1:=HK.u.cell 1;have y2:=HK.u.cell 2
 simp only[Yp,Zb]at y0 y1 y2
 by_cases h6:t=⟨#[98,108,97,110,107]⟩
 case pos =>
  have HX:=h_ (HKb.u h6);rw[Yh h6];clear h6 h5 h4;go_wp2_with fail;refine(q4t _).mono ?_;rintro e9 w3 ⟨rfl,hb⟩;replace HB:=mT HB hb;clear hb y0 y1 y2;go_wp2_with fail;refine(q4z _ _ _ _).mono ?_;rintro e9 w4 ⟨rfl,hb⟩;replace HB:=mT HB hb;clear hb;go_wp2_with fail
  go_ret2
  exact qiy HB.u rfl HX.u rfl
 rw[Yg h6]
 go_wp2_with fail
 refine(HGd.u _).mono ?_
 rintro e9 W5 ⟨rfl,hb⟩
 replace HB:=mT HB hb;replace HK:=mB HK hb
 clear hb y0 y1 y2
 have y0:=HK.u.cell 0;have y1:=HK.u.cell 1;have y2:=HK.u.cell 2
 simp only[Yp,Zb]at y0 y1 y2
 cases hg:goodN t
 case true =>
  have HX:=h_ (HKg.u hg);clear hg h2 h3 h4 h5 h6;go_wp2_with fail
  go_ret2
  exact qiy HB.u rfl HX.u rfl
 have HX:=h_ (HKn.u h2 h3 h4 h5 h6 hg)
 clear hg h2 h3 h4 h5 h6
 go_wp2_with fail
 go_ret2
 exact spl_no HB.u (fun e he=>by obtain⟨n,hn,-⟩:=(qhy t e).1 he;rw[HX.u]at hn;cases hn)
theorem qiz {w w':World}{t r:ByteArray}{a:List ByteArray}{x:Ending}(h1:tkX.L t=true)(h2:tkX.R r=true)(h:SplA w 1 0 a [] x w'):SplA w 7 0 (t :: (a++[r])) [] x w':=by
 obtain⟨v,b,rfl,hb,hy,hn⟩:=h
 refine⟨v,b,rfl,hb,fun h=>?_,fun h e=>?_⟩
 . obtain⟨e,hg,ho⟩:=hy h
   exact⟨e,(qi4 tkX_ok h1 h2 e).2 hg,ho⟩
 . rw[qi4 tkX_ok h1 h2 e];exact hn h e
theorem qe9 {w w':World}{t u r:ByteArray}{a:List ByteArray}{x:Ending}{op:Nat}(h0:tkX.L t=false)(h1:tkX.L u=true)(h2:tkX.R r=true)(hf:tkX.f t=op)(hop:op≠0)(h:SplA w 8 (tkX.ar op) a [opNd op] x w'):SplA w 7 0 (t :: u :: (a++[r])) [] x w':=by
 obtain⟨v,b,rfl,hb,hy,hn⟩:=h
 refine⟨v,b,rfl,hb,fun h=>?_,fun h e=>?_⟩
 . obtain⟨e,hg,ho⟩:=hy h
   refine⟨e++[opNd op],(qbl h0 h1 h2 _).2 ⟨by rw[hf];exact hop,e,by rw[hf];exact hg,by rw[hf];rfl⟩,?_⟩;rw[Zi];exact ho
 . rw[qbl h0 h1 h2 e]
   rintro⟨-,e',hg,-⟩;rw[hf]at hg;exact hn h e' hg
theorem f_of {t:ByteArray}(h:goodN t=true):tkX.f t=opW t 16 10:=by
 show(if goodN t=true then _ else 0)=_
 rw[Yn h]
theorem ar_nat (o:Nat):ar (o:Nat)=((tkX.ar o:Nat):Int):=by
 show ar (o:Nat)=(((ar (o:Nat)).toNat:Nat):Int)
 have:0<=ar (o:Nat):=by unfold ar;repeat (first | omega | split)
 omega
theorem q9h (l:List ByteArray)(t u:ByteArray)(s:List ByteArray)(hls:l=t :: u :: s)(a:Option Addr)(c:Nat)(w:World)(hI:Splits (9*l.length))(hc:l.length<=c)(hl:l.length<=1048576)(ht:TkOk l)(ha:Tks w a l) :
 Calls Tryz.prog 120 #[.slice a l.length c] w (SplA w 7 0 l []):=by
 have hlen:2<=l.length:=by rw[hls];simp
 have HLs:=h_ hls
 have hb0:=(bR w.heap.size w).alloc (nR _) (.cells #[] 133)
 obtain⟨W0,hW0⟩:=Nq (w.alloc (.cells #[] 133))
 rw[hW0]at hb0
 have HI:=h_ hI;have HT:=h_ ht
 have HA:=h_ (ha.mono hb0)
 have HB:=h_ hb0
 obtain⟨b,o,p,rfl,hc0⟩:=HA.u 0 (by omega)
 obtain⟨b',o',q,e',hc1⟩:=HA.u 1 (by omega)
 cases e'
 have g0:l[0]'(by omega)=t:=by subst hls;rfl
 have g1:l[1]'(by omega)=u:=by subst hls;rfl
 rw[g0]at hc0
 rw[g1]at hc1
 have hzt:t.size<=1048576:=by have:=(ht.at (k:=0) (by omega)).2;rw[g0]at this;exact this
 have HC0:=h_ hc0;have HC1:=h_ hc1
 obtain⟨-,c0,c1,c2⟩:=hc0
 obtain⟨-,d0,d1,d2⟩:=hc1
 simp only[Vm,Zq,Nat.one_mul]at c0 c1 c2 d0 d1 d2
 have HGd:=h_ (fun w=>qch (t:=t) p (by omega) w)
 have HL:=h_ (fun w=>qj9 (t:=t) (s:=⟨#[40]⟩) p (by decide) w)
 have HM:=h_ (fun w=>qj9 (t:=u) (s:=⟨#[40]⟩) q (by decide) w)
 unfold tV at HGd HL HM
 have HNo:=h_ (two_no hls)
 have HMt:=h_ (fun (w:World) (h:Tks w (some ⟨b,o,none⟩) l)=>q53 (some ⟨b,o,none⟩) c l 0 w hl (by omega) h)
 have HMu:=h_ (fun (w:World) (h:Tks w (some ⟨b,o,none⟩) l)=>q53 (some ⟨b,o,none⟩) c l 1 w hl (by omega) h)
 have HP1:=h_ (qjk hls);have HP2:=h_ (qey hls)
 have hw1:wrap64 ((l.length:Int) - 1)=(l.length:Int) - 1:=q40 (by omega) (by omega)
 have hl1:((l.length:Int)==1)=false:=Ye.2 (by omega)
 obtain⟨L1,hL1⟩:∃n,l.length - 1=n:=⟨_,rfl⟩
 have hL1':(l.length:Int) - 1=(L1:Int):=by omega
 have Hg1:Hi (tkX.L t=decide (t=⟨#[40]⟩)):=h_ rfl
 have Hf:=h_ (f_of (t:=t))
 have hLa:L1+1<=l.length:=by omega
 have hLb:l.length<=L1+1:=by omega
 clear ha hb0 ht hI g0 g1 hls hL1
 rw[hL1']at hw1 HNo HP1 HP2
 generalize hm0:mtV 0 0 l=m0 at *
 generalize hm1:mtV 1 0 l=m1 at *
 clear hm0 hm1 hL1'
 by_cases h1:t=⟨#[40]⟩
 case pos =>
  have hgf:goodN t=false:=by rw[h1];exact ng_of (by decide)
  rw[Yh h1]at HL;rw[hgf]at HGd;have H1:=h_ h1;clear h1;go_enter Tryz.func120,Tryz.ntmps120;go_wp2_with fail
  try rw[hW0]
  refine(HL.u _).mono ?_;rintro e9 W1 ⟨rfl,hb⟩;replace HB:=mT HB hb;replace HA:=h_ (HA.u.mono hb);replace HC0:=h_ (HC0.u.mono hb);clear hb c0 c1 c2 d0 d1 d2 hW0;go_wp2_with fail;refine(HMt.u _ HA.u).mono ?_;rintro e9 W2 ⟨rfl,hb⟩;replace HB:=mT HB hb;replace HA:=h_ (HA.u.mono hb);replace HC0:=h_ (HC0.u.mono hb);clear hb;obtain⟨-,c0,c1,c2⟩:=HC0.u;simp only[Vm,Zq]at c0 c1 c2;by_cases hm:m0=(L1:Int)
  case pos =>
   obtain⟨x,r,hx,hr⟩:=HP1.u H1.u hm;subst hm;have hmm:((L1:Int)==(L1:Int))=true:=by simp
   have hxl:x.length=L1 - 1:=by have h8:=congrArg List.length hx;have h9:=congrArg List.length HLs.u;simp at h8 h9;omega
   have HPe:Hi ((l.take L1).drop 1=x):=h_ (by
    have e1:l=(t :: x)++[r]:=(by rw[HLs.u,hx];rfl);rw[e1,Oe (by simp;omega),Za (by simp;omega)];rfl)
   have HXv:=h_ (HA.u.cut (lo:=1) (hi:=L1) (by omega) hc);have HXt:=h_ (HT.u.cut 1 L1);rw[HPe.u]at HXv HXt;rw[show cutA (some ⟨b,o,none⟩) 1 c 3=some ⟨b,o+3,none⟩ by unfold cutA;rw[Yi (by omega)];rfl]at HXv;have hxm:x.length<=L1 - 1:=by omega
   have HXL:=h_ hxl;clear hxl;have HF:Hi (l=t :: (x++[r])):=h_ (by rw[HLs.u,hx]);have HR:=h_ hr;clear hx hr;go_wp2_with fail;rw[show l.length - 1 - 1=x.length by have:=HXL.u;omega];refine(HI.u x 1 _ (c - 1) _ (by omega) (by omega) (by omega) (by omega) (by omega) HXt.u HXv.u).mono ?_;intro r9 w3 h9;have HZ:=h_ h9;obtain⟨v,bb,rfl,hb,-⟩:=h9;clear hb;go_wp2_with fail
   go_ret2
   rw[HF.u];obtain⟨v',b',e9,hb,hy,hn⟩:=qiz (Yh H1.u) HR.u HZ.u;cases e9;exact⟨_,_,rfl,HB.u.trans (hb.mono HB.u.size),fun h=>by obtain⟨e,h8,h9⟩:=hy h;exact⟨e,h8,h9.low HB.u.size⟩,hn⟩
  have hmm:(m0==(L1:Int))=false:=Ye.2 hm;have HX:=h_ (HNo.u (fun h=>hm h.2) (fun h=>by rw[hgf]at h;cases h.1));go_wp2_with fail;refine(HGd.u _).mono ?_;rintro e9 W3 ⟨rfl,hb⟩;replace HB:=mT HB hb;clear hb c0 c1 c2;go_wp2_with fail
  go_ret2
  exact spl_no HB.u HX.u
 rw[Yg h1]at HL Hg1
 go_enter Tryz.func120,Tryz.ntmps120
 go_wp2_with fail
 try rw[hW0]
 refine(HL.u _).mono ?_
 rintro e9 W1 ⟨rfl,hb⟩
 replace HB:=mT HB hb;replace HA:=h_ (HA.u.mono hb);replace HC0:=h_ (HC0.u.mono hb);replace HC1:=h_ (HC1.u.mono hb)
 clear hb c0 c1 c2 d0 d1 d2 hW0
 obtain⟨-,c0,c1,c2⟩:=HC0.u
 simp only[Vm,Zq]at c0 c1 c2
 go_wp2_with fail
 refine(HGd.u _).mono ?_
 rintro e9 W2 ⟨rfl,hb⟩
 replace HB:=mT HB hb;replace HA:=h_ (HA.u.mono hb);replace HC0:=h_ (HC0.u.mono hb);replace HC1:=h_ (HC1.u.mono hb)
 clear hb c0 c1 c2
 cases hg:goodN t
 case false =>
  have HX:=h_ (HNo.u (fun h=>h1 h.1) (fun h=>by rw[hg]at h;cases h.1));go_wp2_with fail
  go_ret2
  exact spl_no HB.u HX.u
 obtain⟨-,d0,d1,d2⟩:=HC1.u
 simp only[Nat.one_mul]at d0 d1 d2
 go_wp2_with fail
 refine(HM.u _).mono ?_
 rintro e9 W3 ⟨rfl,hb⟩
 replace HB:=mT HB hb;replace HA:=h_ (HA.u.mono hb);replace HC0:=h_ (HC0.u.mono hb)
 clear hb d0 d1 d2 HC1
 by_cases hu:u=⟨#[40]⟩
 case neg =>
  have HX:=h_ (HNo.u (fun h=>h1 h.1) (fun h=>hu h.2.1));rw[Yg hu];go_wp2_with fail
  go_ret2
  exact spl_no HB.u HX.u
 rw[Yh hu]
 have HU:=h_ hu
 clear hu
 go_wp2_with fail
 refine(HMu.u _ HA.u).mono ?_
 rintro e9 W4 ⟨rfl,hb⟩
 replace HB:=mT HB hb;replace HA:=h_ (HA.u.mono hb);replace HC0:=h_ (HC0.u.mono hb)
 clear hb
 by_cases hm:m1=(L1:Int)
 case neg =>
  have hmm:(m1==(L1:Int))=false:=Ye.2 hm;have HX:=h_ (HNo.u (fun h=>h1 h.1) (fun h=>hm h.2.2));go_wp2_with fail
  go_ret2
  exact spl_no HB.u HX.u
 obtain⟨x,r,hx,hr⟩:=HP2.u HU.u hm
 subst hm
 have hmm:((L1:Int)==(L1:Int))=true:=by simp
 have hxl:x.length=L1 - 2:=by have h8:=congrArg List.length hx;have h9:=congrArg List.length HLs.u;simp at h8 h9;omega
 have hL2:2<=L1:=by have h8:=congrArg List.length hx;have h9:=congrArg List.length HLs.u;simp at h8 h9;omega
 have HPe:Hi ((l.take L1).drop 2=x):=h_ (by
  have e1:l=(t :: u :: x)++[r]:=by rw[HLs.u,hx];rfl
  rw[e1,Oe (by simp;omega),Za (by simp;omega)];rfl)
 have HXt:=h_ (HT.u.cut 2 L1)
 rw[HPe.u]at HXt
 have hxm:x.length<=L1 - 2:=by omega
 have HXL:=h_ hxl
 have HF:Hi (l=t :: u :: (x++[r])):=h_ (by rw[HLs.u,hx])
 have HR:=h_ hr
 have HIc:Hi (Splits (9*x.length+7)):=h_ (fun l' lv a' c' w' h=>HI.u l' lv a' c' w' (by omega))
 have HfE:Hi (tkX.f t=opW t 16 10):=h_ (Hf.u hg)
 have hcx:x.length<=c - 2:=by omega
 have hxb:x.length<=1048576:=by omega
 clear hx hr hxl Hf HI HNo HP1 HP2 HGd HL HM HMt HMu
 have hzx:Hi (cls t=1/\txt t=t):=h_ ⟨q98 hg,(k_good hg).2⟩
 replace HC0:Hi (TCel W4 b (o+0*3) t p):=HC0
 go_wp2_with fail
 go_loopw [8,9] (fun ov iv wr=>∃k:Nat,16<=k/\k<=26/\ov=Ya (opW t 16 (k - 16):Nat)/\iv=Ya (k:Nat)/\Below W4.heap.size W4 wr) (fun _ i _=>26 - (intOf i).toNat)
 case atStart=>exact⟨16,by omega,by omega,rfl,rfl,bR _ _⟩
 case round =>
  obtain⟨k,hk,hk',rfl,rfl,hb⟩:=hrel;have HBk:=h_ hb;replace HC0:=h_ (HC0.u.mono hb);clear hb;obtain⟨-,c0,c1,c2⟩:=HC0.u;simp only[Vm,Zq]at c0 c1 c2;rw[hzx.u.2]at c1;by_cases hlt:k<26
  . have hlt':(k:Int)<=25:=by omega
    have HFn:=h_ (fun w=>q1r (k:Int) w (by omega) (by omega));have HH:=h_ (qhz (s:=t) hk (by omega));have HMs:=h_ (qd7 (s:=t) hk);obtain⟨wd,hwd⟩:=Nq (wrd (k:Int));rw[hwd]at HFn HH HMs;have he:=eqT wd t;clear hwd;have HBd:Hi (∀n,Below W4.heap.size W4 (wr.drewN n)):=h_ fun n=>HBk.u.trans ((q2o wr n).mono HBk.u.size);generalize opW t 16 (k - 16)=ov at *;by_cases hq:wd=t
    . rw[Yh hq]at he
      have HE:=h_ (HH.u hq);clear hq;go_wp2_with fail
      go_quiet (first | (go_at_call 129;refine Calls.quiet_of_same (HFn.u _)))
      go_wp2_with fail;go_roundw
      case rel=>exact⟨k+1,by omega,by omega,by rw[HE.u],by go_num,by first | exact HBd.u _ | simpa using HBd.u 1⟩
      case measure=>simp[intOf];omega
    . rw[Yg hq]at he
      have HE:=h_ (HMs.u hq);clear hq;go_wp2_with fail
      go_quiet (first | (go_at_call 129;refine Calls.quiet_of_same (HFn.u _)))
      go_wp2_with fail;go_roundw
      case rel=>exact⟨k+1,by omega,by omega,by rw[HE.u],by go_num,by first | exact HBd.u _ | simpa using HBd.u 1⟩
      case measure=>simp[intOf];omega
  . obtain rfl:k=26:=by omega
    have HB2:=h_ (HB.u.trans (HBk.u.mono HB.u.size));have HA2:=h_ (HA.u.mono HBk.u);rw[show 26 - 16=10 from rfl];obtain⟨op,hop⟩:=Nq (opW t 16 10);rw[hop]at HfE⊢;clear hop;by_cases h0:op=0
    . subst h0
      have HX:Hi (∀e,¬ Gr tkX 7 0 l e):=h_ fun e he=>by
       rw[HF.u,qbl Hg1.u (Yh HU.u) HR.u e]at he;exact he.1 HfE.u
      go_wp2_with fail
      go_ret2
      exact spl_no HB2.u HX.u
    . have h0':((op:Int)==0)=false:=Ye.2 (by omega)
      have HXv:=h_ (HA2.u.cut (lo:=2) (hi:=L1) (by omega) hc);rw[HPe.u,show cutA (some ⟨b,o,none⟩) 2 c 3=some ⟨b,o+6,none⟩ by unfold cutA;rw[Yi (by omega)];rfl]at HXv;go_wp2_with fail;rw[show l.length - 1 - 2=x.length by have:=HXL.u;omega];refine(q9i x op (tkX.ar op) _ (c - 2) _ HIc.u (ar_nat op) hcx hxb HXt.u HXv.u).mono ?_;intro r9 w3 h9;have HZ:=h_ h9;obtain⟨v,bb,rfl,hb,-⟩:=h9;clear hb;go_wp2_with fail
      go_ret2
      rw[HF.u];obtain⟨v',b',e9,hb,hy,hn⟩:=qe9 Hg1.u (Yh HU.u) HR.u HfE.u h0 HZ.u;cases e9;exact⟨_,_,rfl,HB2.u.trans (hb.mono HB2.u.size),fun h=>by obtain⟨e,h8,h9⟩:=hy h;exact⟨e,h8,h9.low HB2.u.size⟩,hn⟩
section
variable {md:Region.Mode} {ops:Array Oper} {Q:Exit->Act->World->Prop} {S:World->Prop} {o:Oper} {a:Act}
theorem appY {i:Nat}{fuel:Nat}{listed:Array Bool}{w:World}(d:Tmp)(hi:ops[i]? = some o)(hd:o.dst=some d)(hgd:o.guard=none)(hr:Region.ready md ops listed=[i])(s x:Operand)(t:TypeId)
 (ho:o.op=.call { callee:=.builtin .append,args:=#[s,x],argTypes:=#[t,t] })
 (base:Nat) (e:TypeId) (i0:TypeInfo) (z:Value) (size bytes:Nat) (ht:Tryz.prog.underlying t=some (.slice e)) (hi0:Tryz.prog.info? e=some i0) (hz:i0.zero=some z)
 (hsize:i0.size=size) (hby:i0.bytes=bytes) (hzs:z.cells.size=size) (hsz:0<size)
 (v:Value) (n:Nat) (xs:List Value) (hs:a.eval s=v) (hown:w.ownsRow base e size v n xs)
 (ad:Addr) (m c:Nat) (news:List Value) (hx:a.eval x=.slice (some ad) m c) (hl:news.length=m*size) (hnews:∀j u,news[j]? = some u->w.cell? (ad.add j)=some u) (h1:∀u∈news,u.oneCell'=true)
 (hm:0<m) (h63:n+m<=maxLen) (hbytes:(n+m)*bytes<=140737488355328) (hbase:base<=w.heap.size) (H:Nat) (hH:w.heap.size=H)
 (h:∀g cap w',w'.ownsRow base e size (.slice (some ⟨g,0,none⟩) (n+m) cap) (n+m) (xs++news)->w.grownBy w' v.ownBlock->(v.ownBlock=some g∨g=H)->g<w'.heap.size->S w'/\wpAnyH Tryz.prog md ops Q S fuel (listed.setIfInBounds i true) { tmps:=a.tmps.setIfInBounds d (.slice (some ⟨g,0,none⟩) (n+m) cap),defers:=a.defers } w'):wpAnyH Tryz.prog md ops Q S (fuel+1) listed a w :=
 wpAnyH_ready hr (by simp) (AllReadyH.cons hi (fun K hK=>step_append_lies w hgd s x t ho base e i0 z size bytes ht hi0 hz hsize hby hzs hsz v n xs hs hown ad m c news hx hl hnews h1 hm h63 hbytes hbase H hH (fun g cap w' a1 a2 a3 a4=>by
  rw[qih hd];obtain⟨k1,k2⟩:=h g cap w' a1 a2 a3 a4;exact hK.out _ _ k1 (fun _=>k2))) AllReadyH.nil)
end
end Go.Proofs.YtfmammdgehbjhaaGreatDoor
namespace Go.Proofs.YtfmammdgehbjhaaGreatDoor
theorem i_add {k n e:Nat}(h:k+n=e):(k:Int)+(n:Int)=(e:Int):=by omega
theorem i_one {k e:Nat}(h:k+1=e):(k:Int)+1=(e:Int):=by omega
theorem i_two {k e:Nat}(h:k+2=e):(k:Int)+2=(e:Int):=by omega
theorem i_lt {k e:Nat}(h:k<e):(k:Int)<(e:Int):=by omega
theorem i_le {k e:Nat}(h:k<=e):(k:Int)<=(e:Int):=by omega
theorem i_nlt {k e:Nat}(h:¬ k<e):¬ (k:Int)<(e:Int):=by omega
theorem i_nle {k e:Nat}(h:¬ k<=e):¬ (k:Int)<=(e:Int):=by omega
end Go.Proofs.YtfmammdgehbjhaaGreatDoor
