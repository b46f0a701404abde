import Derived.Test.YtfmammdgehbjhaaGreatDoorW16
import Derived.RangeFuncNested
import Derived.RangeFuncBound
import Derived.RangeFuncCalls
import Derived.RangeFuncLeaves
import Derived.Shelf.Abstract
import Derived.Shelf.RegionOpen
import Derived.OwnWalkIn
import Derived.TacticsInMore
import Derived.LoopNIn
import Derived.LoopIn
import Derived.OrdersIn
set_option maxRecDepth 100000
set_option maxHeartbeats 64000000
namespace Go.Proofs.YtfmammdgehbjhaaGreatDoor
open Go Go.RowKit
section
variable {md:Region.Mode} {ops:Array Oper} {Q:Exit->Act->World->Prop} {S:World->Prop} {o:Oper} {a:Act} {fuel:Nat} {listed:Array Bool} {i:Nat} {w w':World}
theorem runZ {v:Value}(d:Tmp)(hi:ops[i]? = some o)(hd:o.dst=some d)(hw:Region.wanted o (yielded ops a.tmps)=true)(hr:Region.ready md ops listed=[i])
 (hrun:(execOp a.eval o).run Tryz.prog w=.ok (.value v) w') (hS:S w') (h:wpAnyH Tryz.prog md ops Q S fuel (listed.setIfInBounds i true) { tmps:=a.tmps.setIfInBounds d v,defers:=a.defers } w'):wpAnyH Tryz.prog md ops Q S (fuel+1) listed a w :=
 wpAnyH_ready hr (by simp) (consRun d hi hd hw hrun hS h AllReadyH.nil)
end
theorem OwnN.snoc {w:World}{base:Nat}{v:Value}{l:List Nx}{n:Nx}(h:w.ownsRow base 133 5 v (l.length+1) (nodV l++nC n)):OwnN w base v (l++[n]):=by
 unfold OwnN
 rw[qd2,Yf]
 simpa [nodV] using h
theorem qfi {l:List ByteArray}{lv:Nat}(h:∀i,i+1<l.length->¬ BinAt tkX lv l i)(i:Nat):¬ BinAt tkX lv l i:=fun hb=>by
 have hb':=hb
 obtain⟨p,t,-,h2,-⟩:=hb
 exact h i (Z6.1 h2).1 hb'
theorem spl_up {w w':World}{lv lv':Nat}{l:List ByteArray}{r:Ending}(h:SplA w lv' 0 l [] r w')(hi:∀e,Gr tkX lv 0 l e ↔ Gr tkX lv' 0 l e):SplA w lv 0 l [] r w':=by
 obtain⟨v,b,rfl,hb,hy,hn⟩:=h
 exact⟨v,b,rfl,hb,fun q=>by obtain⟨e,h1,h2⟩:=hy q;exact⟨e,(hi e).2 h1,h2⟩,fun q e=>by rw[hi e];exact hn q e⟩
theorem qix {w w1 w':World}{lv n:Nat}{l:List ByteArray}{x:List Nx}{v:Value}{b:Bool}(h:SplA w1 lv n l x (.returned (.tuple #[v,.bool b])) w')(hb:Below w.heap.size w w1):SplA w lv n l x (.returned (.tuple #[v,.bool b])) w':=by
 obtain⟨v',b',e,hb',hy,hn⟩:=h
 cases e
 exact⟨v,b,rfl,hb.trans (hb'.mono hb.size),fun q=>by obtain⟨e,h1,h2⟩:=hy q;exact⟨e,h1,h2.low hb.size⟩,hn⟩
theorem split5 (n:Nat)(hI:Splits n)(l:List ByteArray)(lv:Nat)(a:Option Addr)(c:Nat)(w:World)(hm:9*l.length+(8 - lv)<=n+1)(h1:1<=lv)(h5:lv<=5)(hc:l.length<=c)(hl:l.length<=1048576)(ht:TkOk l)(ha:Tks w a l)(h0:0<l.length) :
 Calls Tryz.prog 91 (J7 a l.length c (lv:Nat)) w (SplA w lv 0 l []):=by
 have HI:=h_ hI;have HT:=h_ ht;have HA:=h_ ha
 have hz:((l.length:Int)==0)=false:=Ye.2 (by omega)
 have h5':(lv:Int)<=5:=by omega
 have HLS:=h_ (q1v a c l lv w hl ht ha)
 obtain⟨l1,hl1⟩:∃x,lv+1=x:=⟨_,rfl⟩
 have hl1':=i_one hl1
 have hlb:lv<l1:=by omega
 have hlc:l1<=6:=by omega
 have HNo:=h_ (fun hn e=>q83 tkX_ok (l:=lv) (ts:=l) h1 h5 hn e)
 have HSo:=h_ (fun (i:Nat) (x y:List ByteArray) (t:ByteArray) (e:List Nx)=>q84 tkX_ok (l:=lv) (i:=i) (a:=x) (b:=y) (t:=t) h1 h5 (e:=e))
 rw[hl1]at HNo HSo
 clear hI ht ha hl1
 go_enter Tryz.func91,Tryz.ntmps91
 go_wp2_with fail
 refine HLS.u.mono ?_
 rintro r W1 ⟨last,rfl,hls,hb⟩
 have HB:=h_ hb
 replace HA:=h_ (HA.u.mono hb)
 clear hb HLS
 cases last with
 | none =>
  have hneg:(-1:Int)<0:=by decide
  have HX:=h_ (HNo.u (qfi hls));clear hls;unfold lastV;go_wp2_with fail;refine(HI.u l l1 a c _ (by omega) (by omega) (by omega) hc hl HT.u HA.u).mono ?_;intro r9 w3 h9;have HZ:=h_ h9;obtain⟨v,bb,rfl,hb,-⟩:=h9;clear hb;go_wp2_with fail
  go_ret2
  exact spl_up (qix HZ.u HB.u) HX.u
 | some k =>
  obtain⟨i,rfl,hk,hbin,hlast⟩:=hls;obtain⟨at',hat⟩:∃x,i+1=x:=⟨_,rfl⟩;have HIff:Hi (∀e,Gr tkX lv 0 l e ↔ ∃ea eb,Gr tkX (if lv=3 then 4 else lv) 0 (l.take at') ea/\Gr tkX l1 0 (l.drop (at'+1)) eb/\e=ea++eb++[tkX.o (tkX.b (l[i+1]'hk))]):=h_ fun e=>by
   have hsp:l=l.take at'++l[i+1]'hk :: l.drop (at'+1):=by
    subst hat;rw[<- qc0 hk,Z9]
   have h8:=HSo.u i (l.take at') (l.drop (at'+1)) (l[i+1]'hk) e;rw[<- hsp]at h8;refine h8 hbin (fun j h1 h2=>?_) (by rw[Yu];omega);by_cases hj:j+1<l.length
   . exact hlast j h1 hj h2
   . obtain⟨p,t,-,h3,-⟩:=h2
     exact hj (Z6.1 h3).1
  have HSg:Hi (sgN (l[i+1]'hk) lv=tkX.b (l[i+1]'hk)):=h_ (by
   obtain⟨p,t,-,h3,-,-,h4,h6⟩:=hbin;rw[Yk hk]at h3;cases h3;unfold sgN;rw[Yn ⟨h4,h6⟩])
  obtain⟨b,o,p,rfl,hcc⟩:=HA.u (i+1) hk;generalize l[i+1]'hk=t at *;rw[hat]at hcc hk⊢;have HC:=h_ hcc;have hpos:1<=at':=by omega
  clear hbin hlast hat hcc HNo HSo;obtain⟨A,hA⟩:∃x,l.take at'=x:=⟨_,rfl⟩;obtain⟨B,hB⟩:∃x,l.drop (at'+1)=x:=⟨_,rfl⟩;have hAl:A.length=at':=by rw[<- hA,Yu];omega
  have hBl:B.length=l.length - (at'+1):=by rw[<- hB,Vc]
  have HAv:Hi (Tks W1 (cutA (some ⟨b,o,none⟩) 0 c 3) A):=h_ (by have:=HA.u.cut (lo:=0) (hi:=at') (by omega) hc;rw[hA,Z5]at this;exact this);have HAt:Hi (TkOk A):=h_ (by have:=HT.u.cut 0 at';rw[hA,Z5]at this;exact this);have HBv:Hi (Tks W1 (cutA (some ⟨b,o,none⟩) (at'+1) c 3) B):=h_ (by have:=HA.u.cut (lo:=at'+1) (hi:=l.length) (nR _) hc;rw[Zl,hB]at this;exact this);have HBt:Hi (TkOk B):=h_ (by have:=HT.u.cut (at'+1) l.length;rw[Zl,hB]at this;exact this);have hsA:=cut_h (some ⟨b,o,none⟩) l.length c at' (by omega);have hsB:=cut_l (some ⟨b,o,none⟩) l.length c (at'+1) (by omega);rw[hA,hB]at HIff;rw[<- hAl]at hsA;rw[<- hBl]at hsB;have hAm:A.length<=at':=by omega
  have hBm:B.length+at'+1<=l.length:=by omega
  rw[hAl]at hsA;have HAe:=h_ hAl;obtain⟨a1,ha1⟩:∃x,at'+1=x:=⟨_,rfl⟩;have ha1':=i_one ha1;rw[ha1]at hsB HBv;have ha2:at'<a1:=by omega
  have hbc:B.length<=c - a1:=by omega
  have hnn:¬ (at':Int)<0:=by omega
  clear hA hB hAl hBl ha1;unfold lastV;obtain⟨lf,hlf⟩:∃x,(if lv=3 then 4 else lv)=x:=⟨_,rfl⟩;have hlf1:1<=lf/\lf<=5/\lv<=lf:=by split at hlf <;> omega
  rw[hlf]at HIff;have HLf:=h_ hlf;clear hlf;have hlf1a:=hlf1.1;have hlf1b:=hlf1.2.1;have hlf1c:=hlf1.2.2;have HCA:=h_ (HI.u A lf _ c W1 (by omega) hlf1a (by omega) (by omega) (by omega) HAt.u HAv.u);rw[HAe.u]at HCA;clear hlf1 HAv HAt;rcases Decidable.em (lv=3) with h3 | h3
  case' inl =>
   have h4:lf=4:=by rw[<- HLf.u,Yn h3]
   have h3':((lv:Int)==3)=true:=by simp[h3]
   subst h4;clear h3 HLf;go_wp2_with fail
  case' inr =>
   have h4:lv=lf:=by rw[<- HLf.u,Yi h3]
   have h3':((lv:Int)==3)=false:=Ye.2 (by omega);subst h4;clear h3 HLf;go_wp2_with fail
  all_goals
   refine HCA.u.mono ?_;rintro r9 W2 ⟨va,ba,rfl,hb,hy,hno⟩;replace HB:=mT HB hb;replace HC:=h_ (HC.u.mono hb);replace HBv:=h_ (HBv.u.mono hb);clear hb HCA;cases ba
   case' false =>
    have HX:=h_ (hno rfl);clear hy hno;have HZ:=h_ ((bR W2.heap.size W2).alloc (nR _) (.cells #[] 133));go_wp2_with fail
    go_ret2
    exact spl_no (HB.u.trans (HZ.u.mono HB.u.size)) (fun e he=>by obtain⟨ea,eb,h8,-,-⟩:=(HIff.u e).1 he;exact HX.u ea h8)
   obtain⟨ea,hga,hoa⟩:=hy rfl;rw[Zi]at hoa;have HGa:=h_ hga;have HOa:=h_ hoa;have hla:=hga.len;clear hy hno hga hoa;go_wp2_with fail;refine(HI.u B l1 _ (c - a1) _ (by omega) (by omega) (by omega) hbc (by omega) HBt.u HBv.u).mono ?_;rintro r9 W3 ⟨vb,bb,rfl,hb,hy,hno⟩;replace HB:=mT HB hb;replace HC:=h_ (HC.u.mono hb);replace HOa:=h_ (HOa.u.keep hb);clear hb HBv;cases bb
   case' false =>
    have HX:=h_ (hno rfl);clear hy hno;have HZ:=h_ ((bR W3.heap.size W3).alloc (nR _) (.cells #[] 133));go_wp2_with fail
    go_ret2
    exact spl_no (HB.u.trans (HZ.u.mono HB.u.size)) (fun e he=>by obtain⟨ea,eb,-,h8,-⟩:=(HIff.u e).1 he;exact HX.u eb h8)
   obtain⟨eb,hgb,hob⟩:=hy rfl;rw[Zi]at hob;have HGb:=h_ hgb;have HOb:=h_ hob;have hlb2:=hgb.len;clear hy hno hgb hob;have hk':=i_lt hk;go_wp2_with fail;obtain⟨i0,hi,hz0,hz1,hz2⟩:=info_parts qgn;have hdr:=(bR W3.heap.size W3).drew;refine wp_region_held_drew (S:=fun w'=>TCel w' b (o+at'*3) t p) (by kernel_rfl) (HC.u.mono hdr) (fun zz=>?_);refine tj 0 59 va zz ?_;refine tj 1 60 vb zz ?_;refine tj 3 62 (.slice (some ⟨b,o,none⟩) l.length c) zz ?_;refine tj 4 63 (Ya (at':Nat)) zz ?_;simp only[sX,sY,sZ];refine tj 5 64 (.pointer (some ⟨b,o+at'*3,none⟩)) zz ?_;refine tj 6 65 (.agg (Jv (cls t:Nat) (txt t) p)) zz ?_ (hy:=fun w hS=>by obtain⟨-,q0,q1,q2⟩:=hS;simp[execOp,go_sem,q0,q1,q2]);refine tj 7 66 (Ya (lv:Nat)) zz ?_;simp only[sX,sY,sZ];have hOa:=HOa.u.keep hdr;have hOb:=HOb.u.keep hdr;refine callY (i:=2) (f:=117) (args:=#[va,vb]) (R:=fun r wz=>OwnN wz W3.heap.size r (ea++eb)/\Below W3.heap.size W3 wz) 61 rfl rfl (by rfl) (by kernel_rfl) (by simp[execOp,go_sem]) ((qco hOa hOb (by omega)).mono fun e w6 ⟨v,he,ho,hb⟩=>⟨v,he,ho,q23 hb⟩) ?_;clear hOa hOb;rintro vj W4 ⟨hoj,hb⟩;have hC4:=HC.u.mono hb;have hB4:=HB.u.trans (hb.mono HB.u.size);have h34:=hb;refine⟨hC4,?_⟩;clear hb zz;simp only[sX,sY,sZ];refine callY (i:=8) (f:=119) (args:=#[.agg (Jv (cls t:Nat) (txt t) p),Ya (lv:Nat)]) (R:=fun r wz=>r=Ya (tkX.b t:Nat)/\Below W4.heap.size W4 wz) 67 rfl rfl (by rfl) (by kernel_rfl) (by simp[execOp,go_sem]) ((qe4 t p lv W4).mono fun e w6 ⟨he,hb⟩=>⟨_,he,by rw[HSg.u],hb⟩) ?_;rintro vs W5 ⟨rfl,hb⟩;have hC5:=hC4.mono hb;have hB5:=hB4.trans (hb.mono hB4.size);have hO5:=hoj.keep hb;have h35:=h34.trans (hb.mono h34.size);refine⟨hC5,?_⟩;clear hb hC4 hB4 hoj;simp only[sX,sY,sZ];refine callY (i:=9) (f:=118) (args:=#[Ya (tkX.b t:Nat)]) (R:=fun r wz=>r=.agg (nC (opNd (tkX.b t))).toArray/\Below W5.heap.size W5 wz) 68 rfl rfl (by rfl) (by kernel_rfl) (by simp[execOp,go_sem]) ((q3a _ W5).mono fun e w6 ⟨he,hb⟩=>⟨_,he,rfl,hb⟩) ?_;rintro vs W6 ⟨rfl,hb⟩;have hC6:=hC5.mono hb;have hB6:=hB5.trans (hb.mono hB5.size);have hO6:=hO5.keep hb;have h36:=h35.trans (hb.mono h35.size);refine⟨hC6,?_⟩;clear hb hC5 hB5 hO5;simp only[sX,sY,sZ];have hba:=(bR W6.heap.size W6).alloc (nR _) (.cells (nC (opNd (tkX.b t))).toArray 133);have hN:=Blk.new W6 133 (nC (opNd (tkX.b t))).toArray;refine runZ (i:=10) (v:=.slice (some ⟨W6.heap.size,0,none⟩) 1 1) (w':=W6.alloc (.cells (nC (opNd (tkX.b t))).toArray 133)) 69 rfl rfl (by rfl) (by kernel_rfl) (by simp[execOp,go_sem,nC]) (hC6.mono hba) ?_;simp only[sX,sY,sZ];refine appY (i:=11) 70 rfl rfl rfl (by kernel_rfl) (.tmp 61) (.tmp 69) 42 rfl W3.heap.size 133 i0 _ 5 56 Tryz.underlying42 hi hz0 hz1 hz2 rfl (by omega) vj (ea++eb).length (nodV (ea++eb)) rfl (hO6.keep hba) ⟨W6.heap.size,0,none⟩ 1 1 (nC (opNd (tkX.b t))) rfl rfl (fun j v hj=>by rw[show(⟨W6.heap.size,0,none⟩:Addr).add j=⟨W6.heap.size,j,none⟩ by simp[Addr.add];try exact fun h=>h.symm,hN.cell j];simpa using hj) (by simp[nC,Value.oneCell']) (by omega) (by unfold maxLen;rw[Yf];omega) (by rw[Yf];omega) (Yt h36.size hba.size) _ rfl ?_;intro q cap W9 ho hgr _ _;have hB9:=((hB6.trans (hba.mono hB6.size)).grown hgr (Yt hB6.size hba.size) (fun q e=>by have:=q7l hO6 e;have:=HB.u.size;omega));have HO9:Hi (OwnN W9 W3.heap.size (.slice (some ⟨q,0,none⟩) ((ea++eb).length+1) cap) (ea++eb++[opNd (tkX.b t)])):=h_ (by
    exact OwnN.snoc ho)
   have HB9:=h_ hB9;have zz:TCel W9 b (o+at'*3) t p:=by
    exact HC.u.mono ((h36.trans (hba.mono h36.size)).grown hgr (Yt h36.size hba.size) (fun q e=>q7l hO6 e))
   refine⟨zz,?_⟩;simp only[sX,sY,sZ];refine tj 12 4 (.slice (some ⟨q,0,none⟩) ((ea++eb).length+1) cap) zz ?_;refine tj 13 5 (.bool true) zz ?_;simp only[sX,sY,sZ];refine wpAnyH_done (by kernel_rfl) ?_ _;clear zz ho hgr hB9 hba hN hO6 hB6 hC6 hi hz0 hz1 hz2;go_wp2_with fail
   go_ret2
   exact⟨_,_,rfl,HB9.u,fun _=>⟨ea++eb++[opNd (tkX.b t)],(HIff.u _).2 ⟨ea,eb,HGa.u,HGb.u,rfl⟩,by rw[Zi];exact HO9.u.low HB.u.size⟩,(fun h=>nomatch h)⟩
theorem qda (x:ByteArray)(a n:Nat):opW x a (n+1)=if wrd a=x then a else opW x (a+1) n:=rfl
theorem q02 (s:ByteArray)(f la:Nat)(w:World)(h1:f<=la+1)(h2:la<=25)(hw:Wrds w) :
 Calls Tryz.prog 213 (J0 s (f:Nat) (la:Nat)) w fun e w'=>e=.returned (Ya (opW s f (la+1 - f):Nat))/\w'=w:=by
 obtain⟨R,hR⟩:=Nq (opW s f (la+1 - f))
 rw[hR]
 have HR0:=h_ hR.symm;have HW:=h_ hw
 clear hR hw
 go_enter Tryz.func213,Tryz.ntmps213
 go_wp2_with fail
 go_loopw [7] (fun iv wr=>∃k:Nat,k<=la+1/\iv=Ya (k:Nat)/\R=opW s k (la+1 - k)/\wr=w) (fun iv _=>la+1 - (intOf iv).toNat)
 case atStart=>exact⟨f,h1,rfl,HR0.u,rfl⟩
 case round =>
  obtain⟨k,hk,rfl,hr,rfl⟩:=hrel;have HR:=h_ hr;clear hr;by_cases hlt:k<=la
  . have hlt':(k:Int)<=(la:Nat):=by omega
    have hk25:(k:Int)<26:=(by omega);obtain⟨n,hn⟩:∃n,la+1 - k=n+1:=⟨la - k,by omega⟩;rw[hn,qda]at HR;have z:=HW.u.at (op:=(k:Int)) (by omega) (by omega);rw[show((k:Int)).toNat=k by omega]at z;generalize wrd (k:Nat)=wd at *;have he:=eqT wd s;by_cases hq:wd=s
    . rw[Yh hq]at he
      rw[Yn hq]at HR;clear hq hn;go_wp2_with fail;go_ret;exact⟨qij (by rw[HR.u]),rfl⟩
    . rw[Yg hq]at he
      rw[Yi hq]at HR;have HN:Hi (la+1 - (k+1)=n):=h_ (by omega);clear hq hn;go_wp2_with fail;go_roundw
      case rel=>exact⟨k+1,by omega,by go_num,by rw[HN.u];exact HR.u,by trivial⟩
      case measure=>simp[intOf];omega
  . have hlt':¬ (k:Int)<=(la:Nat):=by omega
    have HX:Hi (R=0):=h_ (by rw[HR.u,show la+1 - k=0 by omega];rfl);go_wp2_with fail;go_ret;exact⟨qij (by rw[HX.u];rfl),rfl⟩
theorem q06 (s:ByteArray)(w:World)(hw:Wrds w):Calls Tryz.prog 197 #[.string s] w fun e w'=>e=.returned (Ya (tkX.b s:Nat))/\w'=w:=by
 have H:=h_ (q02 s 4 15 w (by omega) (by omega) hw)
 rw[show((4:Nat):Int)=4 from rfl,show((15:Nat):Int)=15 from rfl,show opW s 4 (15+1 - 4)=tkX.b s from rfl]at H
 clear hw
 go_enter Tryz.func197,Tryz.ntmps197
 go_wp2_with fail
 refine H.u.mono ?_
 rintro e w' ⟨rfl,rfl⟩
 go_wp2_with fail
 go_ret
 exact⟨rfl,rfl⟩
theorem q15 (s:ByteArray)(w:World)(hw:Wrds w):Calls Tryz.prog 210 #[.string s] w fun e w'=>e=.returned (Ya (tkX.u s:Nat))/\w'=w:=by
 have H:=h_ (q02 s 2 3 w (by omega) (by omega) hw)
 rw[show((2:Nat):Int)=2 from rfl,show((3:Nat):Int)=3 from rfl,show opW s 2 (3+1 - 2)=tkX.u s from rfl]at H
 clear hw
 go_enter Tryz.func210,Tryz.ntmps210
 go_wp2_with fail
 refine H.u.mono ?_
 rintro e w' ⟨rfl,rfl⟩
 go_wp2_with fail
 go_ret
 exact⟨rfl,rfl⟩
theorem q01 (s:ByteArray)(w:World)(hw:Wrds w):Calls Tryz.prog 227 #[.string s] w fun e w'=>e=.returned (Ya (opW s 16 10:Nat))/\w'=w:=by
 have H:=h_ (q02 s 16 25 w (by omega) (by omega) hw)
 rw[show((16:Nat):Int)=16 from rfl,show((25:Nat):Int)=25 from rfl,show 25+1 - 16=10 from rfl]at H
 clear hw
 go_enter Tryz.func227,Tryz.ntmps227
 go_wp2_with fail
 refine H.u.mono ?_
 rintro e w' ⟨rfl,rfl⟩
 go_wp2_with fail
 go_ret
 exact⟨rfl,rfl⟩
theorem own_in {w:World}{base:Nat}{v:Value}{l:List Nx}(h:OwnN w base v l){q:Nat}(hq:v.ownBlock=some q):q<w.heap.size:=by
 rcases h.2 with ⟨e,-⟩ | ⟨g,cap,cur,e,hb,hg,-⟩
 . rw[e]at hq;simp[Value.ownBlock]at hq
 . rw[e]at hq
   simp only[Value.ownBlock,Zr]at hq;subst hq;exact(Zc.1 hg).1
theorem qf9 {w0:World}{a:Option Addr}{c:Nat}{l:List ByteArray}{w:World}{i d:Nat}{v:Value}{ns:List Nx}(n:Nx)(hn:ns.length<=1048576)(h:Rdr w0 a c l w i d v ns) :
 Calls Tryz.prog 198 #[Yd w0.heap.size 0,nv n] w fun e w'=>e=.returned (.tuple #[])/\∃v',Rdr w0 a c l w' i d v' (ns++[n])/\AddK w0.heap.size w w' v v':=by
 have H:=h_ h
 have hRw:w0.heap.size<w.heap.size:=h.blk.lt
 obtain⟨R,hR⟩:=Nq w0.heap.size
 rw[hR]at hRw⊢
 have HR:=h_ hR
 have HK:=h_ (Blk.new w 133 (nC n).toArray)
 have HB:=h_ ((bR w.heap.size w).alloc (nR _) (.cells (nC n).toArray 133))
 unfold nC at HK HB
 obtain⟨W,hW⟩:=Nq (w.alloc (.cells (Jh n) 133))
 rw[hW]at HK HB
 have hs0:W.heap.size=w.heap.size+1:=by rw[<- hW];simp
 have HS0:=h_ hs0
 replace H:=h_ (H.u.mono HB.u)
 have HNot:Hi (∀q,v.ownBlock=some q->q<w.heap.size/\R<q):=h_ fun q hq=>⟨own_in h.own hq,by have:=q7l h.own hq;omega⟩
 clear h hR hs0
 unfold nv
 go_enter Tryz.func198,Tryz.ntmps198
 go_wp2_with fail
 try rw[hW]
 clear hW
 obtain⟨i0,hi,hz0,hz1,hz2⟩:=info_parts qgn
 have hdr:=(bR W.heap.size W).drew
 have hM:=H.u.mono hdr
 have hK:=HK.u.mono hdr HK.u.lt
 refine wp_region_held_drew (S:=fun w'=>Blk w' w.heap.size 133 [Ya n.op,Ya n.v.k,Ya n.v.n,.string n.v.s,.string n.nm]) (by kernel_rfl) hK (fun zz=>?_)
 refine tj 0 4 (Yd R 0) zz ?_
 refine tj 1 5 (Yd R 0) zz ?_
 refine tj 2 6 (Yd R 0) zz ?_
 refine tj 3 7 (Yd R 3) zz ?_
 simp only[sX,sY,sZ]
 refine tj 5 9 (.agg (Jh n)) zz ?_ (hy:=fun w hS=>by obtain⟨q0,q1,q2,q3,q4⟩:=five hS;simp[execOp,go_sem,q0,q1,q2,q3,q4])
 simp only[sX,sY,sZ]
 obtain⟨y0,y1,y2,y3⟩:=quart hM.blk
 rw[HR.u]at y3
 have hba:=(bR W.drew.heap.size W.drew).alloc (nR _) (.cells (nC n).toArray 133)
 have hN:=Blk.new W.drew 133 (nC n).toArray
 have hM2:=hM.mono hba
 obtain⟨z0,z1,z2,z3⟩:=quart hM2.blk
 rw[HR.u]at z3
 have z4:(W.alloc (.cells (nC n).toArray 133)).cell? ⟨R,3,none⟩=some v:=z3
 refine wpAnyH_ready (rs:=[4,6]) (by kernel_rfl) (by simp) (consRun (v:=v) (w':=W.drew) 8 rfl rfl (by rfl) (by simp[execOp,go_sem,y3]) zz ?oA (consRun (v:=.slice (some ⟨W.drew.heap.size,0,none⟩) 1 1) (w':=W.drew.alloc (.cells (nC n).toArray 133)) 10 rfl rfl (by rfl) (by simp[execOp,go_sem,nC]) (hK.mono hba hK.lt) ?oB AllReadyH.nil))
 case' oA =>
  simp only[sX,sY,sZ];refine runZ (i:=6) (v:=.slice (some ⟨W.drew.heap.size,0,none⟩) 1 1) (w':=W.drew.alloc (.cells (nC n).toArray 133)) 10 rfl rfl (by rfl) (by kernel_rfl) (by simp[execOp,go_sem,nC]) (hK.mono hba hK.lt) ?_;simp only[sX,sY,sZ]
 case' oB =>
  simp only[sX,sY,sZ];refine runZ (i:=4) (v:=v) (w':=W.drew.alloc (.cells (nC n).toArray 133)) 8 rfl rfl (by rfl) (by kernel_rfl) (by simp[execOp,go_sem,z4]) (hK.mono hba hK.lt) ?_;simp only[sX,sY,sZ]
 all_goals
  refine appY (i:=7) 11 rfl rfl rfl (by kernel_rfl) (.tmp 8) (.tmp 10) 42 rfl (w0.heap.size+1) 133 i0 _ 5 56 Tryz.underlying42 hi hz0 hz1 hz2 rfl (by omega) v ns.length (nodV ns) rfl hM2.own ⟨W.drew.heap.size,0,none⟩ 1 1 (nC n) rfl rfl (fun j v hj=>by rw[show(⟨W.drew.heap.size,0,none⟩:Addr).add j=⟨W.drew.heap.size,j,none⟩ by simp[Addr.add];try exact fun h=>h.symm,hN.cell j];simpa using hj) (by simp[nC,Value.oneCell']) (by omega) (by unfold maxLen;omega) (by omega) (by have:=hM2.blk.lt;omega) _ rfl ?_;intro q cap W9 ho hgr hq9 hq10;have hO9:OwnN W9 (w0.heap.size+1) (.slice (some ⟨q,0,none⟩) (ns.length+1) cap) (ns++[n]):=OwnN.snoc ho;have hb9:∀k,k<w.heap.size+1->v.ownBlock≠some k->W9.heap[k]? = W.heap[k]?:=fun k hk hv=>by
   have h1:=hgr.block k (by have:=hba.size;have:=HS0.u;simp;show k<W.heap.size+1;omega) (fun e=>hv e.symm);rw[h1];exact hba.block k (by show k<W.heap.size;have:=HS0.u;omega)
  have hR9:Blk W9 R 94 [.slice a l.length c,Ya (i:Nat),Ya (d:Nat),v]:=by
   have h1:=hb9 R (by omega) (fun e=>by have:=HNot.u _ e;omega);have h2:=H.u.blk;rw[HR.u]at h2;exact h1.trans h2
  have hH9:Blk W9 w.heap.size 133 [Ya n.op,Ya n.v.k,Ya n.v.n,.string n.v.s,.string n.nm]:=(hb9 w.heap.size (by omega) (fun e=>by have:=HNot.u _ e;omega)).trans HK.u;refine⟨hH9,?_⟩;clear zz;have zz:=hH9;simp only[sX,sY,sZ];refine tj 8 12 (Yd R 0) zz ?_;refine tj 9 13 (Yd R 3) zz ?_;simp only[sX,sY,sZ];obtain⟨x0,x1,x2,x3⟩:=quart hR9;have xf:=hR9.free 3;refine storeY (i:=10) (w':=W9.setCell ⟨R,3,none⟩ (.slice (some ⟨q,0,none⟩) (ns.length+1) cap)) rfl (by rfl) (by kernel_rfl) rfl (by simp[execOp,go_sem,x3,xf]) rfl ?_ ?_
  . exact(heap_setCell_other W9 ⟨R,3,none⟩ w.heap.size _ (fun e=>by simp at e;omega)).trans hH9
  refine wpAnyH_done (by kernel_rfl) ?_ _;go_wp2_with fail
  go_end0
  have hqR:q≠R:=fun e=>by
   rcases hq9 with h1 | h1
   . have:=HNot.u _ h1;omega
   . have:=HS0.u
     have h2:W.drew.heap.size=W.heap.size:=rfl;simp only[Yy]at h1;omega
  refine⟨rfl,.slice (some ⟨q,0,none⟩) (ns.length+1) cap,⟨?_,?_,?_⟩,⟨?_,?_,?_⟩⟩
  . rw[HR.u];exact hR9.set 3 _
  . rw[HR.u]at hO9⊢
    exact hO9.set (fun e=>hqR (by simpa [Value.ownBlock] using e)) 3 _
  . exact(hM2.bel.grown hgr hM2.bel.size (fun q e=>by have:=q7l hM2.own e;omega)).setCell (p:=⟨R,3,none⟩) (by have:=HR.u;simp;omega) _
  . have h1:=hgr.size
    have h2:=hba.size;have h3:W.drew.heap.size=W.heap.size:=rfl;have h4:=HS0.u;simp only[World.size_setCell];omega
  . intro k hk hkR hv
    exact(heap_setCell_other W9 ⟨R,3,none⟩ k _ (fun e=>hkR (by simpa using e))).trans ((hb9 k (by omega) hv).trans (HB.u.block k hk))
  . intro q' hq'
    simp only[Value.ownBlock,Zr]at hq';subst hq';rcases hq9 with h1 | h1
    . exact .inl h1
    . right
      have h3:W.drew.heap.size=W.heap.size:=rfl;have h4:=HS0.u;simp only[Yy]at h1;omega
end Go.Proofs.YtfmammdgehbjhaaGreatDoor
namespace Go.Proofs.YtfmammdgehbjhaaGreatDoor
open Go Go.RowKit Go.Shelf
structure KeepX (X:Nat->Prop)(W W':World):Prop where
 size:W.heap.size<=W'.heap.size
 same:∀k cs t fr,¬ X k->W.heap[k]? = some (.cells cs t fr)->W'.heap[k]? = some (.cells cs t fr)
theorem KeepX.put {X:Nat->Prop}{W:World}{l:Nat}{o o':Obj}(hl:W.heap[l]? = some o)(ho:o.isCells=false):KeepX X W (W.putObj l o') :=
 ⟨by simp,fun k cs t fr _ hk=>by
  by_cases e:k=l
  . subst e;rw[hl]at hk;cases hk;simp[Obj.isCells]at ho
  . exact(World.putObj_heap_other e).trans hk⟩
theorem noDepth {n:Nat}:Fence.wide.depth.isSome=true->1<=n:=fun h=>by simp[Fence.wide]at h
theorem callW {P:Program}{f:FuncId}{args:Array Value}{w:World}{R:Ending->World->Prop}{n:Nat}(h:Calls P f args w R):Fence.wide.fn f/\(Fence.wide.depth.isSome=true->1<=n)/\CallsIn Fence.wide (n - 1) P f args w R :=
 ⟨trivial,noDepth,callsIn_wide.2 h⟩
theorem q8h {B:Nat}(W:World)(l:Nat)(o:Obj)(h:B<=l):Below B W (W.putObj l o) :=
 ⟨rfl,rfl,rfl,by simp,fun _ hk=>World.putObj_heap_other (by omega)⟩
def KeepC (lo:Nat)(W W':World):Prop:=Below lo W W'/\∀(k:Nat) (cs:Array Value) (t:TypeId) (fr:Nat × Nat),W.heap[k]? = some (Obj.cells cs t fr)->W'.heap[k]? = some (Obj.cells cs t fr)
theorem KeepC.put {lo:Nat}{W:World}{l:Nat}{o:Obj}(o':Obj)(hl:W.heap[l]? = some o)(ho:o.isCells=false)(h:lo<=l):KeepC lo W (W.putObj l o') :=
 ⟨q8h W l o' h,fun k cs t fr hk=>(KeepX.put (X:=fun _=>False) hl ho).same k cs t fr (fun h=>h) hk⟩
def GivesE (P:Program)(enc:Nat->Array Value)(gf:Nat)(lb:Array Value)(T:List Nat->Nat->Prop)(S:List Nat->Prop)(C:World->Prop):Prop :=
 ∀(n l:Nat) (J:List Nat->World->Prop) (W:World),(∀pre W1,J pre W1->C W1)->J [] W ->
  (∀(m:Nat) (pre:List Nat) (x:Nat) (W1:World),J pre W1->T pre x->YieldAt Fence.wide m P l (enc x) W1 fun e W'=>e=.returned (.bool true)/\J (pre++[x]) W') ->
  CallsIn Fence.wide n P gf (#[.func (.yield l) #[] #[]]++lb) W fun e W'=>(∃v,e=.returned v)/\∃xs,S xs/\J xs W'
def bodyEndE (I:List Nat->World->Prop)(xs:List Nat)(W:World):Exit->Act->World->Prop
 | .normal,_,W'=>KeepsOthers W W'/\I xs W'
 | _,_,_=>False
theorem q7v {P:Program}{g:Operand}{ps:Array Tmp}{assign body:Code}{Q:Exit->Act->World->Prop}{a:Act}{w:World}{n:Nat}{gf:Nat}{lb:Array Value}{enc:Nat->Array Value}
 (hg:a.eval g=.func (.func gf) #[] lb) (eg:∀args w,(callFunc gf args).run P w=.ok (.enter gf args) w)
 {T:List Nat->Nat->Prop} {S:List Nat->Prop} {C:World->Prop} (hseq:GivesE P enc gf lb T S C) (hps:∀x,ps.size=(enc x).size)
 (I:List Nat->World->Prop) (hC:∀pre W,I pre W->C W) (hI:∀pre W W',I pre W->KeepC w.heap.size W W'->I pre W') (h0:∀W,Below w.heap.size w W->I [] W) (a₁:Nat->Act)
 (hassign:∀(m l x:Nat) (W:World) (K:Act->World->Prop),K (a₁ x) W ->
  assign.wpIn (Fence.wide.inRound l) m P (Exit.then K (fun _ _ _=>False)) { tmps:=(ps.zip (enc x)).foldl (fun t (p,v)=>t.setIfInBounds p v) a.tmps,defers:=[] } W)
 (hbody:∀(m l:Nat) (pre:List Nat) (x:Nat) (W:World),I pre W->T pre x->body.wpIn (Fence.wide.inRound l) m P (bodyEndE I (pre++[x]) W) (a₁ x) W)
 (hdone:∀(D:Nat) (xs:List Nat) (W:World),w.heap.size<=D->S xs->I xs W->W.heap[D]? = some (.deferred (some []))->Q .normal { a with defers:={ target:=.collected D,args:=#[] } :: a.defers } W) :
 (Code.rangeFunc g ps assign body).wpIn Fence.wide n P Q a w:=by
 refine wpIn_rangeFunc fun fn _=>?_
 obtain⟨D,hD⟩:=Nq w.heap.size
 obtain⟨mk,hmk⟩:∃mk:LoopState->Option Code->Loop,mk=fun s p=>{ state:=s,pending:=p,fn,tmps:=a.tmps,params:=ps,assign,body,defers:=D }:=⟨_,rfl⟩
 obtain⟨W1,hW1⟩:=Nq ((w.alloc (.deferred (some []))).alloc (.loop (mk .ready none)))
 have s1:W1.heap.size=D+1+1:=by rw[<- hW1];simp[hD]
 have bw:Below D w W1:=by rw[<- hW1,<- hD];exact((bR _ w).alloc (nR _) _).alloc (by simp) _
 have hl1:W1.heap[D+1]? = some (.loop (mk .ready none)):=by
  have:=World.alloc_heap_new (w.alloc (.deferred (some []))) (.loop (mk .ready none));rw[Yy,hD,hW1]at this;exact this
 have hd1:W1.heap[D]? = some (.deferred (some [])):=by
  have:=World.alloc_heap_new w (.deferred (some []));rw[<- hW1,<- hD];exact(Below.heap_alloc _ _ _ (by simp)).trans this
 have enter:=run_enterLoop_outer (P:=P) (w:=w) fn a.tmps ps assign body
 rw[hD]at enter
 refine⟨D+1,[{ target:=.collected D,args:=#[] }],W1,{ target:=.fn (.func gf) lb,args:=#[.func (.yield (D+1)) #[] #[]] },W1,gf,#[.func (.yield (D+1)) #[] #[]]++lb,W1,?_,?_,?_,?_,fun h=>by simp[Fence.wide]at h,?_⟩
 . rw[<- hW1,hmk];exact enter
 . simp only[resolve,hg];simp[go_sem]
 . intro _ _;trivial
 . simp[invoke,go_sem,eg]
 have hIput:∀xs W l o o',D<=l->W.heap[l]? = some o->o.isCells=false->I xs W->I xs (W.putObj l o'):=fun xs W l o o' h h2 h3 h4=>hI xs W _ h4 (by rw[hD];exact KeepC.put o' h2 h3 h)
 refine(hseq (n - 1) (D+1) (fun pre W=>I pre W/\W.heap[D+1]? = some (.loop (mk .ready none))/\W.heap[D]? = some (.deferred (some []))) W1 (fun pre W h=>hC pre W h.1) ⟨h0 W1 (by rw[hD];exact bw),hl1,hd1⟩ ?_).mono ?_
 . -- one round
   rintro m pre x W ⟨hi',hl,hd⟩ hT;have hlt:D+1<W.heap.size:=(Zc.1 hl).1;have hy:=run_yield (P:=P) (args:=enc x) hl (by rw[hmk];simp[hps x]);rw[hmk]at hy;refine⟨fn,_,assign,body,hy,roundIn_of_wpIn trivial (hassign m _ x W _ ⟨_,run_beginRound hl (by rw[hmk]),?_⟩)⟩;refine wpIn_mono (hbody m _ pre x _ (hIput _ _ _ _ _ (by omega) hl rfl hi') hT) ?_;have hl2:=World.putObj_heap_same (w:=W) (o:=.loop { mk .ready none with state:=.busy }) hlt;have hd2:(W.putObj (D+1) (.loop { mk .ready none with state:=.busy })).heap[D]? = some (.deferred (some [])):=(World.putObj_heap_other (by omega)).trans hd;intro e a3 W3 hp;cases e with
   | normal =>
    obtain⟨ko,hi3⟩:=hp;have hl3:=ko.same _ _ hl2 rfl;have hd3:=ko.same _ _ hd2 rfl;have hr:=run_endRound (P:=P) none hl3;rw[hmk]at hr;refine⟨_,_,hr,rfl,hIput _ _ _ _ _ (by omega) hl3 rfl hi3,?_,(World.putObj_heap_other (by omega)).trans hd3⟩;rw[hmk];exact World.putObj_heap_same (Zc.1 hl3).1
   | ret=>exact hp.elim
   | exit id=>exact hp.elim
   | goto t=>exact hp.elim
   | panic c=>exact hp.elim
   | outgrown=>exact hp.elim
 . -- behind the iterator
   rintro e W2 ⟨⟨v,rfl⟩,xs,hS,hi',hl,hd⟩;have hr:=run_endLoop (P:=P) hl (by rw[hmk];simp);rw[hmk]at hr;exact⟨none,_,hr,hdone D xs _ (by omega) hS (hIput _ _ _ _ _ (by omega) hl rfl hi') ((World.putObj_heap_other (by omega)).trans hd)⟩
attribute [local go_sem] Oper.semAt_some
def bkE (ss:List ByteArray)(x:Nat):Array Value:=#[.int .i64 (x:Nat),.string (pk ss x)]
theorem Backward_any (a:Option Addr)(n c:Nat)(w:World):Calls Tryz.prog 212 #[.slice a n c] w fun e w'=>e=.returned (.func (.func 228) #[] #[Yd w.heap.size 0])/\w'=w.alloc (.cells #[.slice a n c] 22):=by
 have hmf:∀(fn:Fn) (first cap:Array Value) (w:World),(Instr.makeFunc fn first cap).run Tryz.prog w=.ok (.func fn first cap) w:=fun _ _ _ _=>rfl
 go_enter Tryz.func212,Tryz.ntmps212
 go_wp2
 go_ret
 exact⟨rfl,rfl⟩
theorem q62 (a:Option Addr)(c B:Nat)(ss:List ByteArray)(hl:ss.length<=1048576) :
 GivesE Tryz.prog (bkE ss) 228 #[Yd B 0] (fun pre x=>x+pre.length+1=ss.length) (fun xs=>xs=(List.range ss.length).reverse) (fun W=>Blk W B 22 [.slice a ss.length c]/\Strs W a ss):=by
 intro n l J W hC hJ0 hY
 have HY:=h_ hY;have HC:=h_ hC;have HJ:=h_ hJ0
 obtain⟨y0,-⟩:=hC _ _ hJ0
 replace y0:=y0.cell 0
 simp only[Yp]at y0
 clear hY hC hJ0
 refine callsIn_of_wp Tryz.func228 rfl trivial ?_ rfl
 simp only[Tryz.ntmps228,Zz,Yl,Yw,Nat.reduceAdd,Nat.reduceSub,Array.replicate_succ,Array.replicate_zero,List.push_toArray,List.append_toArray,Vo,Vj]
 gi_wp2_with fail
 gi_loopw [3] (fun v wr=>∃k:Nat,k<=ss.length/\v=Ya ((k:Int) - 1)/\J (((List.range ss.length).drop k).reverse) wr) (fun v _=>(intOf v+1).toNat)
 case atStart=>exact⟨ss.length,nR _,rfl,by rw[Yx (by simp)];exact HJ.u⟩
 case round =>
  clear HJ y0;obtain⟨k,hk,rfl,hj⟩:=hrel;have HJi:=h_ hj;obtain⟨hB,hS⟩:=HC.u _ _ hj;have y0:=hB.cell 0;simp only[Yp]at y0;have HS:=h_ hS;clear hj hB hS;cases k with
  | zero =>
   rw[Z5]at HJi;have h9:¬ (0:Int)<=((0:Nat):Int) - 1:=by omega
   gi_wp2_with fail
   go_end0
   exact⟨⟨_,rfl⟩,HJi.u⟩
  | succ x =>
   have hx:x<ss.length:=by omega
   have hx':(x:Int)<(ss.length:Int):=by omega
   have h8:(((x+1:Nat):Int) - 1)=(x:Int):=by omega
   rw[h8];obtain⟨b,o,rfl,-,z⟩:=HS.u x hx;have hl2:((List.range ss.length).drop (x+1)).reverse.length=ss.length - (x+1):=by simp
   have hyy:=HY.u (n - 1) _ x wr HJi.u (by rw[hl2];omega);have HE:Hi (((List.range ss.length).drop (x+1)).reverse++[x]=((List.range ss.length).drop x).reverse):=h_ (by
    rw[Y8 (i:=x) (by simpa using hx),Vy];simp)
   rw[HE.u]at hyy;unfold bkE at hyy;rw[pk_lt hx]at hyy;generalize ss[x]=t at *;obtain⟨fn,tmps,assign,body,hy,hRd⟩:=hyy;have HRD:=h_ hRd;clear hRd hl2 HE;gi_wp2_with fail;refine⟨noDepth,HRD.u.mono ?_⟩;rintro e W3 ⟨rfl,hj3⟩;have HJ3:=h_ hj3;clear hj3;gi_wp2_with fail;exact⟨⟨x,by omega,rfl,HJ3.u⟩,by simp[intOf];try omega⟩
structure Out (lo hi:Nat)(W W':World):Prop where
 os:W'.os=W.os
 tape:W'.tape=W.tape
 output:W'.output=W.output
 size:W.heap.size<=W'.heap.size
 block:∀b,b<W.heap.size->¬ (lo<=b/\b<hi)->W'.heap[b]? = W.heap[b]?
theorem Out.refl (lo hi:Nat)(W:World):Out lo hi W W:=⟨rfl,rfl,rfl,nR _,fun _ _ _=>rfl⟩
theorem Out.trans {lo hi:Nat}{A B C:World}(h:Out lo hi A B)(k:Out lo hi B C):Out lo hi A C:=⟨k.os.trans h.os,k.tape.trans h.tape,k.output.trans h.output,Yt h.size k.size,fun b hb hn=>(k.block b (by have:=h.size;omega) hn).trans (h.block b hb hn)⟩
theorem Out.set {lo hi:Nat}{W:World}{a:Addr}(v:Value)(h1:lo<=a.block)(h2:a.block<hi):Out lo hi W (W.setCell a v):=⟨rfl,rfl,rfl,by simp,fun b _ hn=>heap_setCell_other W a b v (fun e=>hn ⟨by omega,by omega⟩)⟩
section
variable {P:Program} {ops:Array Oper} {Q:Exit->Act->World->Prop} {o:Oper} {a:Act} {w:World} {K K':Act->World->Prop} {n l:Nat}
theorem qjm {r:Result Next}(h:o.upon P a K Q r):o.uponIn (Fence.wide.inRound l) n P a K Q r:=by
 cases r with
 | ok x w' =>
  cases x with
  | value v=>exact h
  | skip=>exact h
  | defer d=>exact h
  | enter f args=>exact⟨noDepth,CallsIn.inRound l (callsIn_wide.2 h)⟩
  | row row args=>exact⟨noDepth,fun c cs _=>let ⟨v,w',r,s⟩:=h c cs;⟨v,w',r,stepsIn_wide.2 s⟩⟩
  | _=>exact h.elim
 | halt x w'=>cases x <;> exact h
theorem qi0 (hd:∀c,o.op≠.defer c)(h:o.wp P a w K Q):o.wpIn (Fence.wide.inRound l) n P a w K Q:=⟨fun _ _=>trivial,by
 unfold Oper.wp at h
 rw[Oper.semAt_eq _ _ _ hd]
 exact qjm h⟩
theorem op_in {i:Nat}(hL:¬ LetsOut Q)(hd:∀o:Oper,ops[i]? = some o->∀c:Call,o.op≠.defer c)(hK:∀a w,K a w->K' a w)(h:wpOp P ops Q i K a w):wpOpIn (Fence.wide.inRound l) n P ops Q i K' a w:=by
 refine wpOpIn_mono hK ?_
 unfold wpOp at h
 unfold wpOpIn
 cases ho:ops[i]? with
 | none=>rw[ho]at h;exact h
 | some o =>
  rw[ho]at h;simp only at h⊢;split
  . rename_i hw
    rw[Yn hw]at h;exact qi0 (hd o ho) (h.resolve_right fun c=>hL c.2)
  . rename_i hw
    rw[Yi hw]at h;exact⟨fun _ _=>trivial,h⟩
theorem ops_in (hL:¬ LetsOut Q)(hd:∀(i:Nat) (o:Oper),ops[i]? = some o->∀c:Call,o.op≠.defer c):∀(is:List Nat) (a:Act) (w:World),wpOps P ops Q is a w->wpOpsIn (Fence.wide.inRound l) n P ops Q is a w
 | [],_,_,h=>h
 | i :: rest,a,w,h=>by
  rw[wpOps_cons]at h;rw[wpOpsIn_cons];exact op_in hL (hd i) (fun a w=>ops_in hL hd rest a w) h
theorem q3t {S:World->Prop}{id:Nat}(hL:¬ LetsOut Q)(hm:P.follows .mixedOrders=true)(hd:(ops.toList.all fun o=>match o.op with | .defer _=>false | _=>true)=true)(hS:S w.drew)(h:S w.drew->wpAnyH P .any ops Q S ops.size (Array.replicate ops.size false) a w.drew):(Code.region id ops true).wpIn (Fence.wide.inRound l) n P Q a w :=
 wpIn_region_draw fun t=>by
  simp only[Region.schedule,hm,Bool.true_or,if_true];refine ops_in hL (fun i o ho c hc=>?_) _ _ _ (wpAny_sound ops.size t _ a _ (wpAny_of_held _ _ _ _ (h hS)));have:=Zh.1 hd o (Array.mem_toList_iff.2 (Array.mem_of_getElem? ho));rw[hc]at this;cases this
end
end Go.Proofs.YtfmammdgehbjhaaGreatDoor
