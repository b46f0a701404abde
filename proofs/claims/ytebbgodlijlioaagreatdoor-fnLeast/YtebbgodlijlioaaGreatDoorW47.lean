import Derived.Test.YtebbgodlijlioaaGreatDoorW45
import Derived.Deep.CutBlock
set_option maxRecDepth 100000
set_option maxHeartbeats 64000000
namespace Go.Proofs.YtebbgodlijlioaaGreatDoor
open Go Go.RowKit
theorem qau (w:World)(t:TypeId)(size:Nat):(w.alloc (.cells #[] t)).ownsRow w.heap.size t size (.slice (some ⟨w.heap.size,0,none⟩) 0 0) 0 [] :=
 ⟨by simp,.inr ⟨w.heap.size,0,#[],rfl,nR _,heap_alloc_new w (.cells #[] t),nR _,nZ _,by simp,by simp⟩⟩
theorem qfx (n k m:Int)(s x:ByteArray):Tryz.prog.built 96 [(0,J9 n),(1,.agg (J5 k m s)),(2,.string x)]=some (Jq n k m s x):=by kernel_rfl
theorem bld_N {ops:Array Oper}{rest:List Oper}{o:Oper}{a:Act}{w:World}{Q:Exit->Act->World->Prop}(hg:o.guard=none)(x0 x1 x2:Operand)(ho:o.op=.build 96 #[(0,x0),(1,x1),(2,x2)]){n k m:Int}{s x:ByteArray}(h0:a.eval x0=J9 n)(h1:a.eval x1=.agg (J5 k m s))(h2:a.eval x2=.string x)
 (h:wpList Tryz.prog ops Q rest (a.put o.dst (.agg (Jq n k m s x))) w):wpList Tryz.prog ops Q (o :: rest) a w :=
 q66 hg 96 _ ho _ (by simp only[Ob,Zx,Vs,h0,h1,h2];exact qfx n k m s x) h
theorem fill_N (n k m:Int)(s x:ByteArray):Instr.fill (fun i=>some (i*5,5)) ((Array.range (1*5)).map ((Value.agg #[J9 0,J9 0,J9 0,Yb,Yb]).cells[· % (Value.agg #[J9 0,J9 0,J9 0,Yb,Yb]).cells.size]!)) [(0,.agg (Jq n k m s x))]=some (Jq n k m s x):=by kernel_rfl
theorem qcs:(Tryz.prog.info? 96).map (fun i=>(i.zero,i.size,i.bytes))=some (some (.agg #[J9 0,J9 0,J9 0,Yb,Yb]),5,56):=by kernel_rfl
theorem qfs {ops:Array Oper}{rest:List Oper}{o:Oper}{a:Act}{w:World}{Q:Exit->Act->World->Prop}(hg:o.guard=none)(y:Operand)(ho:o.op=.buildSlice 40 1 #[(0,y)]){n k m:Int}{s x:ByteArray}(hx:a.eval y=.agg (Jq n k m s x))
 (h:wpList Tryz.prog ops Q rest (a.put o.dst (.slice (some ⟨w.heap.size,0,none⟩) 1 1)) (w.alloc (.cells (Jq n k m s x) 96))):wpList Tryz.prog ops Q (o :: rest) a w:=by
 obtain⟨i0,hi,hz0,hz1,hz2⟩:=info_parts qcs
 refine wpList_buildSlice hg _ 96 1 _ ho _ i0 _ Tryz.underlying40 hi hz0 (by rw[hz1];decide) (by rw[hz1];decide) ?_ h
 rw[hz1]
 simp only[Ob,Zx,Vs,hx]
 exact fill_N n k m s x
theorem fill_P (x y:Int):Instr.fill (fun i=>some (i*2,2)) ((Array.range (1*2)).map ((Value.agg #[J9 0,J9 0]).cells[· % (Value.agg #[J9 0,J9 0]).cells.size]!)) [(0,.agg (Jp x y))]=some (Jp x y):=by kernel_rfl
theorem qft {ops:Array Oper}{rest:List Oper}{o:Oper}{a:Act}{w:World}{Q:Exit->Act->World->Prop}(hg:o.guard=none)(z:Operand)(ho:o.op=.buildSlice 24 1 #[(0,z)]){x y:Int}(hx:a.eval z=.agg (Jp x y))
 (h:wpList Tryz.prog ops Q rest (a.put o.dst (.slice (some ⟨w.heap.size,0,none⟩) 1 1)) (w.alloc (.cells (Jp x y) 64))):wpList Tryz.prog ops Q (o :: rest) a w:=by
 obtain⟨i0,hi,hz0,hz1,hz2⟩:=info_parts qh3
 refine wpList_buildSlice hg _ 64 1 _ ho _ i0 _ Tryz.underlying24 hi hz0 (by rw[hz1];decide) (by rw[hz1];decide) ?_ h
 rw[hz1]
 simp only[Ob,Zx,Vs,hx]
 exact fill_P x y
theorem fill_R (x:ByteArray)(y:Int):Instr.fill (fun i=>some (i*2,2)) ((Array.range (1*2)).map ((Value.agg #[Yb,J9 0]).cells[· % (Value.agg #[Yb,J9 0]).cells.size]!)) [(0,.agg #[.string x,J9 y])]=some #[.string x,J9 y]:=by kernel_rfl
theorem qfu {ops:Array Oper}{rest:List Oper}{o:Oper}{a:Act}{w:World}{Q:Exit->Act->World->Prop}(hg:o.guard=none)(z:Operand)(ho:o.op=.buildSlice 25 1 #[(0,z)]){x:ByteArray}{y:Int}(hx:a.eval z=.agg #[.string x,J9 y])
 (h:wpList Tryz.prog ops Q rest (a.put o.dst (.slice (some ⟨w.heap.size,0,none⟩) 1 1)) (w.alloc (.cells #[.string x,J9 y] 66))):wpList Tryz.prog ops Q (o :: rest) a w:=by
 obtain⟨i0,hi,hz0,hz1,hz2⟩:=info_parts qh4
 refine wpList_buildSlice hg _ 66 1 _ ho _ i0 _ Tryz.underlying25 hi hz0 (by rw[hz1];decide) (by rw[hz1];decide) ?_ h
 rw[hz1]
 simp only[Ob,Zx,Vs,hx]
 exact fill_R x y
theorem iV_one {l:List Int}:∀u,u∈iV l->u.oneCell'=true:=fun u hu=>by
 obtain⟨y,-,h⟩:=Vk.1 hu
 obtain rfl:=Yx.1 h
 rfl
theorem pV_one {l:List (Int × Int)}:∀u,u∈pV l->u.oneCell'=true:=fun u hu=>by
 obtain⟨y,-,h⟩:=Vk.1 hu
 rcases Z2.1 h with rfl | h
 . rfl
 . obtain rfl:=Yx.1 h
   rfl
theorem rV_one {l:List Rl}:∀u,u∈rV' l->u.oneCell'=true:=fun u hu=>by
 obtain⟨y,-,h⟩:=Vk.1 hu
 rcases Z2.1 h with rfl | h
 . rfl
 . obtain rfl:=Yx.1 h
   rfl
theorem q8l {α:Type}(l:List α){j:Nat}(hj:j<l.length)(h1:1<=j):(l.take (j+1)).drop 1=(l.take j).drop 1++[l[j]]:=by
 rw[Vu,Yj hj,List.drop_append_of_le_length (by rw[Y3];omega)]
 rfl
theorem q8k {α:Type}(x:α)(l:List α){j:Nat}(hj:j<l.length):x :: l.take (j+1)=(x :: l.take j)++[l[j]]:=by
 rw[Vu,Yj hj]
 rfl
theorem qds {w:World}{base g c n:Nat}{P:List (Fl × FA)}(h:w.ownsRow base 42 9 (.slice (some ⟨g,0,none⟩) n c) P.length (fdV P)){k:Nat}(hk:k<P.length):w.cell? ⟨g,k*9,none⟩=some (.string P[k].1.nm):=by
 obtain⟨a',c',e,-,hq⟩:=q8b h
 cases e
 obtain⟨g',e',-,-,h2⟩:=hq (by omega)
 cases e'
 have:=h2 (k*9+0) (by omega)
 unfold fdV at this
 rw[qci (f:=fun x:Fl × FA=>fCs x.1 x.2) (s:=9) (p:=0) (fun _=>rfl) hk (by omega)]at this
 exact this
theorem qbd (len:Nat)(f:Nat->Nat)(hlen:len<=1048576)(q:Nat)(hq:q<=200000)(m:Fm)(N np nr n:Nat)(hN:m.L.length=N)(hN2:N<=100)(hnp:m.P.length=np)(hnp2:np<=200)(hnr:m.R.length=nr)(hnr2:nr<=1000)(hn:m.F.length=n)(hn2:n<=100)(hn0:0<n)(hbl:∀x,x∈m.F->x.bys.length<=1000)
 (what k x:Nat) (hwh:tkD len f q 20=what) (hk:tkD len f (q+1) n=k) (hx:tkD len f (q+2) n=x) (w:World) (a:Option Addr) (c:Nat) (hby:Byts w a len f) (base:Nat) (hbs:base<=w.heap.size) (v1 v2 v3 v4:Value) (P:List (Fl × FA)) (om:OwM w base v1 v2 v3 v4 m P) :
 Calls Tryz.prog 43 #[.slice a len c,J9 q,.agg #[v1,v2,v3,v4]] w fun e w'=>∃u1 u2 u3 u4 P',e=.returned (.agg #[u1,u2,u3,u4])/\OwM w' base u1 u2 u3 u4 { m with F:=m.F.set k (spG what k N (m.F.getD x noFl).nm (m.F.getD k noFl)),P:=spB what N m.P,R:=spR what m.R } P'/\Below w.heap.size w w':=by
 have hw20:what<20:=by rw[<- hwh];exact tk_lt hlen (by omega) (by omega) (by omega)
 have hkn:k<n:=by rw[<- hk];exact tk_lt hlen (by omega) (by omega) (by omega)
 have hxn:x<n:=by rw[<- hx];exact tk_lt hlen (by omega) (by omega) (by omega)
 obtain⟨a1,c1,e1,-⟩:=q8b om.l;obtain⟨a2,c2,e2,-⟩:=q8b om.p;obtain⟨a3,c3,e3,-⟩:=q8b om.r;obtain⟨a4,c4,e4,-⟩:=q8b om.f.row
 have hPn:P.length=n:=by rw[<- hn,om.e,Yz]
 rw[hN]at e1
 rw[hnp]at e2
 rw[hnr]at e3
 rw[hPn]at e4
 subst e1 e2 e3 e4
 have HBl:Hi (∀p,p∈P->p.1.bys.length<=1000):=h_ fun p hp=>hbl p.1 (by rw[om.e];exact List.mem_map_of_mem hp)
 have hgk:m.F.getD k noFl=(P[k]).1:=by rw[om.e,<- qcn,Yl,Yj (by omega)];rfl
 have hgx:m.F.getD x noFl=(P[x]).1:=by rw[om.e,<- qcn,Yl,Yj (by omega)];rfl
 rw[hgk,hgx]
 obtain⟨F,hF⟩:=Nq w.heap.size
 have HBy:Hi (∀W,Below F w W->Byts W a len f):=h_ fun W hb=>hby.mono (by rw[hF];exact hb)
 have HOm:Hi (∀W,Below F w W->OwM W base (.slice a1 N c1) (.slice a2 np c2) (.slice a3 nr c3) (.slice a4 n c4) m P):=h_ fun W hb=>om.mono (by rw[hF];exact hb)
 have HOw:=h_ om
 have hfb:=(Blk.new w 28 (Jh a1 N c1 a2 np c2 a3 nr c3 a4 n c4)).alloc (.cells Jc 28)
 have hr0:=Blk.new (w.alloc (.cells (Jh a1 N c1 a2 np c2 a3 nr c3 a4 n c4) 28)) 28 Jc
 have hb0:Below w.heap.size w ((w.alloc (.cells (Jh a1 N c1 a2 np c2 a3 nr c3 a4 n c4) 28)).alloc (.cells Jc 28)):=((bR w.heap.size w).alloc (nR _) _).alloc (by simp) _
 rw[Yv]at hr0
 obtain⟨W0,hW0⟩:=Nq ((w.alloc (.cells (Jh a1 N c1 a2 np c2 a3 nr c3 a4 n c4) 28)).alloc (.cells Jc 28))
 rw[hW0]at hfb hr0 hb0
 rw[hF]at hfb hr0 hb0 hbs⊢
 have HFb:=h_ hfb;have HR0:=h_ hr0;have HB0:=h_ hb0;have HF:=h_ hF
 have HWh:=h_ hwh;have HK:=h_ hk;have HX:=h_ hx
 obtain⟨p1,hp1⟩:=Nq (q+1)
 obtain⟨p2,hp2⟩:=Nq (q+2)
 rw[hp1]at HK
 rw[hp2]at HX
 have e1:(q:Int)+1=(p1:Int):=by omega
 have e2:(p1:Int)+1=(p2:Int):=by omega
 have hq2:p2<=200002:=by omega
 have hn0':((n:Int)==0)=false:=Yf.2 (by omega)
 have hn0'':¬ (n:Int)=0:=by omega
 clear om hby hwh hk hx hfb hr0 hb0 hbl hp1 hp2 hgk hgx
 obtain⟨y0,y1,y2,y3⟩:=quad HFb.u
 go_enter Tryz.func43,Tryz.ntmps43
 go_wp2_with fail
 try rw[hW0]
 refine(qju (p:=q) (n:=20) hlen (by omega) (by omega) (by omega) c (HBy.u W0 HB0.u) rfl rfl).mono ?_
 rintro e w' ⟨rfl,hw'⟩
 rw[hw',HWh.u]
 clear hw' w'
 go_wp2_with fail
 refine(qju (p:=p1) (n:=n) hlen (by omega) (by omega) (by omega) c (HBy.u W0 HB0.u) rfl rfl).mono ?_
 rintro e w' ⟨rfl,hw'⟩
 rw[hw',HK.u]
 clear hw' w'
 go_wp2_with fail
 refine(qju (p:=p2) (n:=n) hlen (by omega) (by omega) (by omega) c (HBy.u W0 HB0.u) rfl rfl).mono ?_
 rintro e w' ⟨rfl,hw'⟩
 rw[hw',HX.u]
 clear hw' w'
 have hba:=(bR W0.heap.size W0).alloc (nR _) (.cells #[] 42)
 have hs0:F<=W0.heap.size:=Nat.le_of_lt HFb.u.lt
 have HO1:Hi ((W0.alloc (.cells #[] 42)).ownsRow F 42 9 (.slice (some ⟨W0.heap.size,0,none⟩) 0 0) (P.take 0).length (fdV (P.take 0))):=h_ (qdt (qau W0 42 9) hs0)
 have HFb1:=h_ (HFb.u.mono hba HFb.u.lt);have HR1:=mB HR0 hba;have HB1:=h_ (HB0.u.trans (hba.mono hs0))
 obtain⟨W1,hW1⟩:=Nq (W0.alloc (.cells #[] 42))
 obtain⟨z0,hz0⟩:=Nq W0.heap.size
 rw[hW1]at HO1 HFb1 HR1 HB1
 rw[hz0]at HO1
 clear hba HFb HR0 HB0 y0 y1 y2 y3 HWh HK HX
 go_upto_block 0 with fail
 try rw[hW1]
 try rw[hz0]
 clear hW1 hz0 hW0
 go_cut [10] from 18 (fun s wx=>∃go co,s=(.slice (some ⟨go,0,none⟩) n co)/\wx.ownsRow F 42 9 (.slice (some ⟨go,0,none⟩) n co) P.length (fdV P)/\Blk wx F 28 [.slice a1 N c1,.slice a2 np c2,.slice a3 nr c3,.slice a4 n c4]/\Blk wx (F+1) 28 J3/\Below F w wx)
 case first =>
  as_aux_lemma =>
  go_wp2_with fail;go_loopw [10,11] (fun s i wr=>∃j:Nat,j<=n/\i=J9 j/\wr.ownsRow F 42 9 s (P.take j).length (fdV (P.take j))/\Blk wr F 28 [.slice a1 N c1,.slice a2 np c2,.slice a3 nr c3,.slice a4 n c4]/\Blk wr (F+1) 28 J3/\Below F w wr) (fun _ i _=>n - (intOf i).toNat)
  case atStart=>exact⟨0,nZ _,rfl,HO1.u,HFb1.u,HR1.u,HB1.u⟩
  case round =>
   clear HO1 HFb1 HR1 HB1;obtain⟨j,hj,rfl,ho,hfb,hr0,hb⟩:=hrel;obtain⟨y0,y1,y2,y3⟩:=quad hfb;by_cases hlt:j<n
   . have hlt':(j:Int)<(n:Int):=by omega
     have hjP:j<P.length:=(by omega);have hof:OwF wr base (.slice a4 P.length c4) P:=(by rw[hPn];exact(HOm.u wr hb).f);obtain⟨b1,o1,e4,hfc,-⟩:=qgk hof j (by rw[Yz];exact hjP);obtain⟨⟨u,A⟩,hu⟩:∃x,P[j]=x:=⟨_,rfl⟩;rw[Vh,qcg hjP,hu]at hfc;have HRg:=h_ hfc.rng;clear hfc;have HSt:Hi (P.take (j+1)=P.take j++[(u,A)]):=h_ (by rw[Vu,Yj hjP,hu];rfl);subst e4;have hal:=(bR wr.heap.size wr).alloc (nR _) (.cells (Ja u A.b A.bc A.i A.ic A.h A.hc A.v A.vc A.u A.uc) 42);have HN:Hi (Blk _ _ 42 (Jo u A.b A.bc A.i A.ic A.h A.hc A.v A.vc A.u A.uc)):=h_ (Blk.new wr 42 (Ja u A.b A.bc A.i A.ic A.h A.hc A.v A.vc A.u A.uc));have HO2:=h_ (qap ho hal);have hsB:F<=wr.heap.size:=Nat.le_of_lt hfb.lt;have HF2:=h_ (hfb.mono hal hfb.lt);have HR2:=h_ (hr0.mono hal hr0.lt);have HB2:=h_ (hb.trans (hal.mono hsB));have hsz2:F<=(wr.alloc (.cells (Ja u A.b A.bc A.i A.ic A.h A.hc A.v A.vc A.u A.uc) 42)).heap.size:=Ys hsB hal.size;have hl4:(P.take j).length<=1000:=(by rw[Y3];omega);clear hal ho hfb hr0 hb hof hu;go_wp2_with (first | (at_builtin;refine qc0 (n:=(u,A)) rfl _ _ rfl rfl HO2.u rfl HN.u (by omega) hsz2 ?_) | refine wpList_load_mid rfl 42 (.tmp 59) rfl b1 (o1+j*9) rfl (fCs u A) _ HRg.u Tryz.underlying42 rfl (by kernel_rfl) ?_ | refine qfr rfl (.tmp 60) rfl rfl ?_);intro v' W4 ho4 hg4 hb4;have HF4:=h_ (HF2.u.grow HO2.u (by decide) hg4);have HR4:=h_ (HR2.u.grow HO2.u (by decide) hg4);have HB4:=h_ (HB2.u.trans hb4);have hl5:(P.take (j+1)).length=j+1:=(by rw[Y3,Oo (by omega)]);have ho5:W4.ownsRow F 42 9 v' (P.take (j+1)).length (fdV (P.take (j+1))):=(by rw[<- HSt.u]at ho4;first | exact ho4 | (rw[hl5];exact ho4));have HO4:=h_ ho5;clear ho5 hl5;clear ho4 hg4 hb4 HN HO2 HF2 HR2 HB2 hsz2 y0 y1 y2 y3 HRg;go_wp2_with fail;go_roundw
     case rel=>exact⟨j+1,by omega,by go_num,HO4.u,HF4.u,HR4.u,HB4.u⟩
     case measure=>first | exact qi2 hlt | (simp[intOf];omega)
   . have hlt':¬ (j:Int)<(n:Int):=by omega
     obtain rfl:j=n:=(by omega);rw[show P.take j=P by rw[<- hPn,Zm]]at ho;obtain⟨g',c',e',-,hq'⟩:=q8b ho;obtain⟨go,eg,-,-,-⟩:=hq' (by omega);rw[hPn]at e';subst e' eg;have HOr:=h_ ho;have HFr:=h_ hfb;have HRr:=h_ hr0;have HBr:=h_ hb;clear ho hfb hr0 hb hq';go_wp2_with fail;go_meet;exact⟨_,_,rfl,HOr.u,HFr.u,HRr.u,HBr.u⟩
 case rest =>
 as_aux_lemma =>
 obtain⟨go,co,rfl,ho,hfb,hr0,hb⟩:=hcut
 clear HO1 HFb1 HR1 HB1
 have hkP:k<P.length:=by omega
 have hxP:x<P.length:=by omega
 have hom:=HOm.u wc hb
 have hof:OwF wc base (.slice (some ⟨go,0,none⟩) P.length co) P:=⟨qdt (by rw[<- hPn]at ho;exact ho) hbs,fun p hp=>hom.f.sub p hp⟩
 obtain⟨b1,o1,e4,hfc,-⟩:=qgk hof k (by rw[Yz];exact hkP)
 cases e4
 obtain⟨⟨u,A⟩,hu⟩:∃x,P[k]=x:=⟨_,rfl⟩
 rw[Vh,qcg hkP,hu,Zi]at hfc
 have HRg:=h_ hfc.rng
 have hfo:FOw wc base u A:=by have:=hom.f.sub P[k] (Yk hkP);rw[hu]at this;exact this
 have hub:u.bys.length<=1000:=by have:=HBl.u P[k] (Yk hkP);rw[hu]at this;exact this
 obtain⟨nx,hnx⟩:=Nq ((P[x]).1.nm)
 have HNx:=h_ hnx
 have HU1:Hi ((P[k]).1=u):=h_ (by rw[hu])
 have hz9:=Blk.new wc 42 Je
 have HZ9:=h_ hz9
 have hal:=below_setRow ((bR wc.heap.size wc).alloc (nR _) (.cells Je 42)) (nR _) (fCs u A).toArray
 have hX:=hz9.row (fCs u A)
 have hs1:((wc.alloc (.cells Je 42)).setRow wc.heap.size (fCs u A).toArray).heap.size=wc.heap.size+1:=by simp[World.setRow]
 obtain⟨W2,hW2⟩:=Nq ((wc.alloc (.cells Je 42)).setRow wc.heap.size (fCs u A).toArray)
 rw[hW2]at hal hX hs1
 have zx:W2.cell? ⟨go,x*9,none⟩=some (.string nx):=by rw[<- hnx];exact qds (qap ho hal) hxP
 have hal2:=(bR W2.heap.size W2).alloc (nR _) (.cells #[J9 1,J9 0,J9 0,Yb,.string nx] 96)
 have hrr:OwnN _ _ _ _:=OwnN.lone W2 (rdN nx)
 have hb2:=hal.trans (hal2.mono hal.size)
 have hsF:=hfb.lt
 have hsF1:=hr0.lt
 have hgo:go<wc.heap.size:=by have:=qig ho (q:=go) rfl;exact this
 obtain⟨W3,hW3⟩:=Nq (W2.alloc (.cells #[J9 1,J9 0,J9 0,Yb,.string nx] 96))
 have hW3':W2.alloc (.cells (Jq (rdN nx).op (rdN nx).v.k (rdN nx).v.n (rdN nx).v.s (rdN nx).nm) 96)=W3:=hW3
 rw[hW3']at hrr
 rw[hW3]at hal2 hb2
 rw[hs1]at hrr
 obtain⟨X,hXe⟩:=Nq wc.heap.size
 have HS0:Hi (SMk (.slice a1 N c1) (.slice a2 np c2) (.slice a3 nr c3) (.slice a4 n c4) (.slice (some ⟨go,0,none⟩) n co) P base F X (X+1) nx u A w W3):=h_ ⟨hfb.mono hb2 hfb.lt,hr0.mono hb2 hr0.lt,qap ho hb2,by rw[<- hXe];exact hX.mono hal2 hX.lt,hfo.mono hb2,by rw[<- hXe];exact hrr.low (by omega),hb.trans (hb2.mono (by omega)),fun e=>by have e':some go=some X:=e;cases e';omega,by omega⟩
 have HW3:=h_ hW3;have HW2:=h_ hW2;have HXe:=h_ hXe
 clear hal hal2 hX hrr hb2 hfo hom hof ho hfb hr0 hb hu hnx hW3 hW3' hW2 hXe hz9 hfc
 have hkn':(k:Int)<(n:Int):=by omega
 have hxn':(x:Int)<(n:Int):=by omega
 go_upto_region 13 with (first | refine wpList_load_mid rfl 42 (.tmp 65) rfl go (k*9) rfl (fCs u A) _ HRg.u Tryz.underlying42 rfl (by kernel_rfl) ?_ | refine wpList_store_row rfl 42 (.tmp 12) (.tmp 66) rfl wc.heap.size (fCs u A).toArray rfl rfl 42 _ HZ9.u (by kernel_rfl) rfl (by simp[fCs,Value.oneCell']) ?_)
 rw[HW2.u]
 go_upto_region 14 with (first | refine q66 rfl 94 #[] rfl #[J9 0,J9 0,Yb] (by kernel_rfl) ?_ | refine bld_N rfl (.const (J9 1)) (.tmp 67) (.tmp 72) rfl rfl rfl rfl ?_ | refine qfs rfl (.tmp 73) rfl rfl ?_)
 rw[HW3.u]
 try rw[hs1]
 try rw[HXe.u]
 clear HW2 HW3 HZ9 HRg zx hgo
 obtain⟨rd,hrd⟩:=Nq (X+1)
 rw[hrd]at HS0⊢
 clear hrd hs1 HXe
 obtain⟨W,hW⟩:=Nq W3
 rw[hW]at HS0⊢
 clear hW W3
 obtain⟨g1,hg1⟩:∃g,sp1 what nx u=g:=⟨_,rfl⟩
 have HG1:=h_ hg1
 clear hg1
 have hub1:g1.bys.length<=1000:=by rw[<- HG1.u];unfold sp1;split <;> exact hub
 go_upto_if 76 with fail
 go_cut [] from 18 (fun wx=>∃A,SMk (.slice a1 N c1) (.slice a2 np c2) (.slice a3 nr c3) (.slice a4 n c4) (.slice (some ⟨go,0,none⟩) n co) P base F X rd nx g1 A w wx)
 case first =>
  as_aux_lemma =>
  have HS:=HS0;clear HS0;by_cases hw:what=0
  . subst hw
    rw[show((0:Nat):Int)=0 from rfl];have e:g1 = { u with nm:=nx }:=(by rw[<- HG1.u];exact Yy rfl);subst e;have zx:=qds HS.u.out hxP;rw[show(P[x]).1.nm=nx from HNx.u]at zx;have q0:=HS.u.bx.cell 0;have qf:=HS.u.bx.free 0;rw[show(fCs u A)[0]? = some (.string u.nm) from rfl]at q0;have HN:=h_ (HS.u.put (g':={ u with nm:=nx }) (A':=A) 0 (.string nx) rfl ⟨HS.u.ow.b,HS.u.ow.i,HS.u.ow.h,HS.u.ow.v,HS.u.ow.u⟩);clear HS;go_wp2_with fail;go_meet;exact⟨A,HN.u⟩
  . have hw':((what:Int)==0)=false:=Yf.2 (by omega)
    have e:g1=u:=(by rw[<- HG1.u];exact Yu hw);subst e;go_wp2_with fail;go_meet;exact⟨A,HS.u⟩
 case rest =>
 as_aux_lemma =>
 clear HS0 A W
 obtain⟨A,hS⟩:=hcut
 have HS1:=h_ hS
 clear hS
 obtain⟨W,hW⟩:=Nq wc
 rw[hW]at HS1⊢
 clear hW wc
 obtain⟨g2,hg2⟩:∃g,sp2 what g1=g:=⟨_,rfl⟩
 have HG2:=h_ hg2
 clear hg2
 have hub2:g2.bys.length<=1000:=by rw[<- HG2.u];unfold sp2;split <;> exact hub1
 go_upto_if 84 with fail
 go_cut [] from 18 (fun wx=>∃A,SMk (.slice a1 N c1) (.slice a2 np c2) (.slice a3 nr c3) (.slice a4 n c4) (.slice (some ⟨go,0,none⟩) n co) P base F X rd nx g2 A w wx)
 case first =>
  as_aux_lemma =>
  have HS:=HS1;clear HS1;by_cases hw:what=1
  . subst hw
    rw[show((1:Nat):Int)=1 from rfl];have e:g2 = { g1 with nm:=mustS }:=(by rw[<- HG2.u];exact Yy rfl);subst e;have q0:=HS.u.bx.cell 0;have qf:=HS.u.bx.free 0;rw[show(fCs g1 A)[0]? = some (.string g1.nm) from rfl]at q0;have HN:=h_ (HS.u.put (g':={ g1 with nm:=mustS }) (A':=A) 0 (.string ⟨#[109,117,115,116]⟩) rfl ⟨HS.u.ow.b,HS.u.ow.i,HS.u.ow.h,HS.u.ow.v,HS.u.ow.u⟩);clear HS;go_wp2_with fail;go_meet;exact⟨A,HN.u⟩
  . have hw':((what:Int)==1)=false:=Yf.2 (by omega)
    have e:g2=g1:=(by rw[<- HG2.u];exact Yu hw);subst e;go_wp2_with fail;go_meet;exact⟨A,HS.u⟩
 case rest =>
 as_aux_lemma =>
 clear HS1 A W
 obtain⟨A,hS⟩:=hcut
 have HS2:=h_ hS
 clear hS
 obtain⟨W,hW⟩:=Nq wc
 rw[hW]at HS2⊢
 clear hW wc
 obtain⟨g3,hg3⟩:∃g,sp3 what N g2=g:=⟨_,rfl⟩
 have HG3:=h_ hg3
 clear hg3
 have hub3:g3.bys.length<=1000:=by rw[<- HG3.u];unfold sp3;split <;> exact hub2
 go_upto_if 87 with fail
 go_cut [] from 18 (fun wx=>∃A,SMk (.slice a1 N c1) (.slice a2 np c2) (.slice a3 nr c3) (.slice a4 n c4) (.slice (some ⟨go,0,none⟩) n co) P base F X rd nx g3 A w wx)
 case first =>
  as_aux_lemma =>
  have HS:=HS2;clear HS2;by_cases hw:what=2
  . subst hw
    rw[show((2:Nat):Int)=2 from rfl];have e:g3 = { g2 with lb:=(N:Int) }:=(by rw[<- HG3.u];exact Yy rfl);subst e;have q0:=HS.u.bx.cell 2;have qf:=HS.u.bx.free 2;rw[show(fCs g2 A)[2]? = some (J9 g2.lb) from rfl]at q0;obtain⟨y0,-⟩:=quad HS.u.fb;have HN:=h_ (HS.u.put (g':={ g2 with lb:=(N:Int) }) (A':=A) 2 (J9 N) rfl ⟨HS.u.ow.b,HS.u.ow.i,HS.u.ow.h,HS.u.ow.v,HS.u.ow.u⟩);clear HS;go_wp2_with fail;go_meet;exact⟨A,HN.u⟩
  . have hw':((what:Int)==2)=false:=Yf.2 (by omega)
    have e:g3=g2:=(by rw[<- HG3.u];exact Yu hw);subst e;go_wp2_with fail;go_meet;exact⟨A,HS.u⟩
 case rest =>
 as_aux_lemma =>
 clear HS2 A W
 obtain⟨A,hS⟩:=hcut
 have HS3:=h_ hS
 clear hS
 obtain⟨W,hW⟩:=Nq wc
 rw[hW]at HS3⊢
 clear hW wc
 obtain⟨g4,hg4⟩:∃g,sp4 what k g3=g:=⟨_,rfl⟩
 have HG4:=h_ hg4
 clear hg4
 have hub4:g4.bys.length<=1000:=by rw[<- HG4.u];unfold sp4;split <;> exact hub3
 go_upto_if 93 with fail
 go_cut [] from 18 (fun wx=>∃A,SMk (.slice a1 N c1) (.slice a2 np c2) (.slice a3 nr c3) (.slice a4 n c4) (.slice (some ⟨go,0,none⟩) n co) P base F X rd nx g4 A w wx)
 case first =>
  as_aux_lemma =>
  have HS:=HS3;clear HS3;by_cases hw:what=3
  . subst hw
    rw[show((3:Nat):Int)=3 from rfl];obtain⟨r,hr⟩:=Nq (k % 2);have hr1:(k:Int) % 2=(r:Int):=(by omega);have hr2:(k:Int).tmod 2=(r:Int):=(by rw[show(k:Int).tmod 2=(k:Int) % 2 from rfl];exact hr1);have hr3:r<2:=(by omega);have e:g4 = { g3 with ty:=4 - ((r:Int)*4) }:=(by rw[<- HG4.u,<- hr];exact Yy rfl);subst e;have q0:=HS.u.bx.cell 1;have qf:=HS.u.bx.free 1;rw[show(fCs g3 A)[1]? = some (J9 g3.ty) from rfl]at q0;have HN:=h_ (HS.u.put (g':={ g3 with ty:=4 - ((r:Int)*4) }) (A':=A) 1 (J9 (4 - ((r:Int)*4))) rfl ⟨HS.u.ow.b,HS.u.ow.i,HS.u.ow.h,HS.u.ow.v,HS.u.ow.u⟩);clear HS hr;go_wp2_with fail;go_meet;exact⟨A,HN.u⟩
  . have hw':((what:Int)==3)=false:=Yf.2 (by omega)
    have e:g4=g3:=(by rw[<- HG4.u];exact Yu hw);subst e;go_wp2_with fail;go_meet;exact⟨A,HS.u⟩
 case rest =>
 as_aux_lemma =>
 clear HS3 A W
 obtain⟨A,hS⟩:=hcut
 have HS4:=h_ hS
 clear hS
 obtain⟨W,hW⟩:=Nq wc
 rw[hW]at HS4⊢
 clear hW wc
 obtain⟨g5,hg5⟩:∃g,sp5 what g4=g:=⟨_,rfl⟩
 have HG5:=h_ hg5
 clear hg5
 go_upto_if 100 with fail
 go_cut [] from 18 (fun wx=>∃A,SMk (.slice a1 N c1) (.slice a2 np c2) (.slice a3 nr c3) (.slice a4 n c4) (.slice (some ⟨go,0,none⟩) n co) P base F X rd nx g5 A w wx)
 case first =>
  as_aux_lemma =>
  have HS:=HS4;clear HS4;by_cases hw:what=4
  . subst hw
    rw[show((4:Nat):Int)=4 from rfl];have e:g5 = { g4 with bys:=[0,0]++g4.bys }:=(by rw[<- HG5.u];exact Yy rfl);subst e;have q0:=HS.u.bx.cell 3;have qf:=HS.u.bx.free 3;rw[show(fCs g4 A)[3]? = some (.slice A.b g4.bys.length A.bc) from rfl]at q0;have hal:=(bR W.heap.size W).alloc (nR _) (.cells #[J9 0,J9 0] 3);have HR2:Hi ((W.alloc (.cells #[J9 0,J9 0] 3)).ownsRow W.heap.size 3 1 (.slice (some ⟨W.heap.size,0,none⟩) 2 2) 2 (iV [0,0])):=h_ ⟨rfl,.inr ⟨W.heap.size,2,_,rfl,nR _,heap_alloc_new W (.cells #[J9 0,J9 0] 3),nR _,by unfold maxLen;omega,rfl,rfl⟩⟩;have HS1:=h_ (HS.u.mono hal);have q1:=HS1.u.bx.cell 3;rw[show(fCs g4 A)[3]? = some (.slice A.b g4.bys.length A.bc) from rfl]at q1;have hsz:W.heap.size<=(W.alloc (.cells #[J9 0,J9 0] 3)).heap.size:=hal.size;obtain⟨i0,hi,hz0,hz1,hz2⟩:=info_parts qh0;have HH:=h_ hal;clear hal;go_wp2_with (at_builtin;refine q6a rfl _ _ 30 3 i0 _ 1 8 rfl Tryz.underlying30 hi hz0 hz1 hz2 rfl (by omega) rfl HR2.u rfl HS1.u.ow.b iV_one (by omega) (by omega) hsz ?_);intro v' W4 ho4 hg4 hb4;have hb5:=HH.u.trans hb4;have hS4:=HS.u.mono hb5;obtain⟨b5,c5,rfl,-,-⟩:=q8b ho4;have hob:OwI W4 base (.slice b5 ([0,0]++g4.bys).length c5) ([0,0]++g4.bys):=by
     have h:=qdt ho4 (show base<=W.heap.size by have:=HS.u.fb.lt;omega);unfold OwI;rw[Yg,show iV ([0,0]++g4.bys)=iV [0,0]++iV g4.bys by unfold iV;rw[Zq]];exact h
    have hN4:=hS4.put (g':={ g4 with bys:=[0,0]++g4.bys }) (A':={ A with b:=b5,bc:=c5 }) 3 (.slice b5 ([0,0]++g4.bys).length c5) rfl ⟨hob,hS4.ow.i,hS4.ow.h,hS4.ow.v,hS4.ow.u⟩;rw[Yg]at hN4;have HN:=h_ hN4;have q2:=hS4.bx.cell 3;have qf2:=hS4.bx.free 3;rw[show(fCs g4 A)[3]? = some (.slice A.b g4.bys.length A.bc) from rfl]at q2;clear HS HS1 HR2 HH hsz ho4 hg4 hb4 hb5 hS4 hob hN4 hi hz0 hz1 hz2 q0 qf q1;go_wp2_with fail;go_meet;exact⟨_,HN.u⟩
  . have hw':((what:Int)==4)=false:=Yf.2 (by omega)
    have e:g5=g4:=(by rw[<- HG5.u];exact Yu hw);subst e;go_wp2_with fail;go_meet;exact⟨A,HS.u⟩
 case rest =>
 as_aux_lemma =>
 clear HS4 A W
 obtain⟨A,hS⟩:=hcut
 have HS5:=h_ hS
 clear hS
 obtain⟨W,hW⟩:=Nq wc
 rw[hW]at HS5⊢
 clear hW wc
 obtain⟨g6,hg6⟩:∃g,sp6 what g5=g:=⟨_,rfl⟩
 have HG6:=h_ hg6
 clear hg6
 go_upto_if 107 with fail
 go_cut [] from 18 (fun wx=>∃A,SMk (.slice a1 N c1) (.slice a2 np c2) (.slice a3 nr c3) (.slice a4 n c4) (.slice (some ⟨go,0,none⟩) n co) P base F X rd nx g6 A w wx)
 case first =>
  as_aux_lemma =>
  have HS:=HS5;clear HS5;by_cases hw:what=5
  . subst hw
    rw[show((5:Nat):Int)=5 from rfl];have e:g6 = { g5 with sy:=noRuleS,va:=[] }:=(by rw[<- HG6.u];exact Yy rfl);subst e;have h7:=HS.u.put (g':={ g5 with sy:=noRuleS }) (A':=A) 7 (.string ⟨#[110,111,32,114,117,108,101]⟩) rfl ⟨HS.u.ow.b,HS.u.ow.i,HS.u.ow.h,HS.u.ow.v,HS.u.ow.u⟩;have q7:=HS.u.bx.cell 7;have f7:=HS.u.bx.free 7;rw[show(fCs g5 A)[7]? = some (.string g5.sy) from rfl]at q7;obtain⟨V7,hV7⟩:=Nq (W.setCell ⟨X,7,none⟩ (.string ⟨#[110,111,32,114,117,108,101]⟩));rw[hV7]at h7;have hal:=(bR V7.heap.size V7).alloc (nR _) (.cells #[] 96);have h8:=h7.mono hal;have hnn:=qau V7 96 5;have hsz7:base<=V7.heap.size:=(by have:=h7.fb.lt;omega);have hN:=h8.put (g':={ g5 with sy:=noRuleS,va:=[] }) (A':={ A with v:=some ⟨V7.heap.size,0,none⟩,vc:=0 }) 6 (.slice (some ⟨V7.heap.size,0,none⟩) 0 0) rfl ⟨h8.ow.b,h8.ow.i,h8.ow.h,qdt hnn hsz7,h8.ow.u⟩;have HN:=h_ hN;have q6:=h8.bx.cell 6;have f6:=h8.bx.free 6;rw[show(fCs { g5 with sy:=noRuleS } A)[6]? = some (.slice A.v g5.va.length A.vc) from rfl]at q6;have HV7:=h_ hV7;clear HS h7 h8 hal hnn hN hV7;go_upto_region 26 with fail
    rw[HV7.u];clear HV7 q7 f7;go_wp2_with fail;go_meet;exact⟨_,HN.u⟩
  . have hw':((what:Int)==5)=false:=Yf.2 (by omega)
    have e:g6=g5:=(by rw[<- HG6.u];exact Yu hw);subst e;go_wp2_with fail;go_meet;exact⟨A,HS.u⟩
 case rest =>
 as_aux_lemma =>
 clear HS5 A W
 obtain⟨A,hS⟩:=hcut
 have HS6:=h_ hS
 clear hS
 obtain⟨W,hW⟩:=Nq wc
 rw[hW]at HS6⊢
 clear hW wc
 obtain⟨g7,hg7⟩:∃g,sp7 what g6=g:=⟨_,rfl⟩
 have HG7:=h_ hg7
 clear hg7
 go_upto_if 112 with fail
 go_cut [] from 18 (fun wx=>∃A,SMk (.slice a1 N c1) (.slice a2 np c2) (.slice a3 nr c3) (.slice a4 n c4) (.slice (some ⟨go,0,none⟩) n co) P base F X rd nx g7 A w wx)
 case first =>
  as_aux_lemma =>
  have HS:=HS6;clear HS6;by_cases hw:what=6
  . subst hw
    rw[show((6:Nat):Int)=6 from rfl];have e:g7 = { g6 with mu:=[⟨3,⟨0,0,⟨#[]⟩⟩,⟨#[]⟩⟩] }:=(by rw[<- HG7.u];exact Yy rfl);subst e;have HCo:=h_ (q3t 3 W);go_wp2_with fail;refine HCo.u.mono ?_;rintro e W1 ⟨rfl,hb⟩;have h1:=HS.u.mono hb;have hal:=(bR W1.heap.size W1).alloc (nR _) (.cells #[J9 3,J9 0,J9 0,Yb,Yb] 96);have h2:=h1.mono hal;have hnn:OwnN _ _ _ _:=OwnN.lone W1 ⟨3,⟨0,0,⟨#[]⟩⟩,⟨#[]⟩⟩;have hsz1:base<=W1.heap.size:=(by have:=h1.fb.lt;omega);have HN:=h_ (h2.put (g':={ g6 with mu:=[⟨3,⟨0,0,⟨#[]⟩⟩,⟨#[]⟩⟩] }) (A':={ A with u:=some ⟨W1.heap.size,0,none⟩,uc:=1 }) 8 (.slice (some ⟨W1.heap.size,0,none⟩) 1 1) rfl ⟨h2.ow.b,h2.ow.i,h2.ow.h,h2.ow.v,hnn.low hsz1⟩);have q8:=h2.bx.cell 8;have f8:=h2.bx.free 8;rw[show(fCs g6 A)[8]? = some (.slice A.u g6.mu.length A.uc) from rfl]at q8;clear HS h1 h2 hal hnn hb HCo;go_wp2_with (refine qfs rfl (.tmp 113) rfl rfl ?_);go_meet;exact⟨_,HN.u⟩
  . have hw':((what:Int)==6)=false:=Yf.2 (by omega)
    have e:g7=g6:=(by rw[<- HG7.u];exact Yu hw);subst e;go_wp2_with fail;go_meet;exact⟨A,HS.u⟩
 case rest =>
 as_aux_lemma =>
 clear HS6 A W
 obtain⟨A,hS⟩:=hcut
 have HS7:=h_ hS
 clear hS
 obtain⟨W,hW⟩:=Nq wc
 rw[hW]at HS7⊢
 clear hW wc
 obtain⟨g8,hg8⟩:∃g,sp8 what g7=g:=⟨_,rfl⟩
 have HG8:=h_ hg8
 clear hg8
 go_upto_if 117 with fail
 go_cut [] from 18 (fun wx=>∃A,SMk (.slice a1 N c1) (.slice a2 np c2) (.slice a3 nr c3) (.slice a4 n c4) (.slice (some ⟨go,0,none⟩) n co) P base F X rd nx g8 A w wx)
 case first =>
  as_aux_lemma =>
  have HS:=HS7;clear HS7;by_cases hw:what=7
  . subst hw
    rw[show((7:Nat):Int)=7 from rfl];have e:g8 = { g7 with wh:=[rdN nowhereS] }:=(by rw[<- HG8.u];exact Yy rfl);subst e;have hal:=(bR W.heap.size W).alloc (nR _) (.cells #[J9 1,J9 0,J9 0,Yb,.string ⟨#[110,111,119,104,101,114,101]⟩] 96);have h2:=HS.u.mono hal;have hnn:OwnN _ _ _ _:=OwnN.lone W (rdN nowhereS);have hsz1:base<=W.heap.size:=(by have:=HS.u.fb.lt;omega);have HN:=h_ (h2.put (g':={ g7 with wh:=[rdN nowhereS] }) (A':={ A with h:=some ⟨W.heap.size,0,none⟩,hc:=1 }) 5 (.slice (some ⟨W.heap.size,0,none⟩) 1 1) rfl ⟨h2.ow.b,h2.ow.i,hnn.low hsz1,h2.ow.v,h2.ow.u⟩);have q8:=h2.bx.cell 5;have f8:=h2.bx.free 5;rw[show(fCs g7 A)[5]? = some (.slice A.h g7.wh.length A.hc) from rfl]at q8;clear HS h2 hal hnn;go_wp2_with (first | refine q66 rfl 94 #[] rfl #[J9 0,J9 0,Yb] (by kernel_rfl) ?_ | refine bld_N rfl (.const (J9 1)) (.tmp 118) (.const (.string ⟨#[110,111,119,104,101,114,101]⟩)) rfl rfl rfl rfl ?_ | refine qfs rfl (.tmp 119) rfl rfl ?_);go_meet;exact⟨_,HN.u⟩
  . have hw':((what:Int)==7)=false:=Yf.2 (by omega)
    have e:g8=g7:=(by rw[<- HG8.u];exact Yu hw);subst e;go_wp2_with fail;go_meet;exact⟨A,HS.u⟩
 case rest =>
 as_aux_lemma =>
 clear HS7 A W
 obtain⟨A,hS⟩:=hcut
 have HS8:=h_ hS
 clear hS
 obtain⟨W,hW⟩:=Nq wc
 rw[hW]at HS8⊢
 clear hW wc
 obtain⟨g9,hg9⟩:∃g,sp9 what nx g8=g:=⟨_,rfl⟩
 have HG9:=h_ hg9
 clear hg9
 obtain⟨b9,hb9⟩:∃b,decide (what=8∨what=9)=b:=⟨_,rfl⟩
 have HB9:=h_ hb9
 clear hb9
 go_upto_region 31 with fail
 go_cut [127] from 18 (fun s wx=>s=.bool b9/\wx=W)
 case first =>
  as_aux_lemma =>
  by_cases h8:what=8
  . subst h8
    rw[show((8:Nat):Int)=8 from rfl];go_wp2_with fail;go_meet;exact⟨congrArg Value.bool (by rw[<- HB9.u];rfl),rfl⟩
  . have h8':((what:Int)==8)=false:=Yf.2 (by omega)
    by_cases h9:what=9
    . subst h9
      rw[show((9:Nat):Int)=9 from rfl];go_wp2_with fail;go_meet;exact⟨congrArg Value.bool (by rw[<- HB9.u];rfl),rfl⟩
    . have h9':((what:Int)==9)=false:=Yf.2 (by omega)
      go_wp2_with fail;go_meet;exact⟨congrArg Value.bool (by rw[<- HB9.u];exact(Yi (by omega)).symm),rfl⟩
 case rest =>
 as_aux_lemma =>
 obtain⟨rfl,rfl⟩:=hcut
 obtain⟨W,hW⟩:=Nq wc
 rw[hW]at HS8⊢
 clear hW wc
 go_upto_if 127 with fail
 go_cut [] from 18 (fun wx=>∃A,SMk (.slice a1 N c1) (.slice a2 np c2) (.slice a3 nr c3) (.slice a4 n c4) (.slice (some ⟨go,0,none⟩) n co) P base F X rd nx g9 A w wx)
 case first =>
  as_aux_lemma =>
  have HS:=HS8;clear HS8;by_cases hw:what=8∨what=9
  . obtain rfl:b9=true:=by rw[<- HB9.u];exact Ym hw
    have e:g9 = { g8 with bys:=[],is:=[rdN nx] }:=(by rw[<- HG9.u];exact Yy hw);subst e;have hal:=(bR W.heap.size W).alloc (nR _) (.cells #[] 3);have h2:=HS.u.mono hal;have hnn:=qau W 3 1;have hsz1:base<=W.heap.size:=(by have:=HS.u.fb.lt;omega);have h3:=h2.put (g':={ g8 with bys:=[] }) (A':={ A with b:=some ⟨W.heap.size,0,none⟩,bc:=0 }) 3 (.slice (some ⟨W.heap.size,0,none⟩) 0 0) rfl ⟨qdt hnn hsz1,h2.ow.i,h2.ow.h,h2.ow.v,h2.ow.u⟩;have q3:=h2.bx.cell 3;have f3:=h2.bx.free 3;rw[show(fCs g8 A)[3]? = some (.slice A.b g8.bys.length A.bc) from rfl]at q3;obtain⟨V3,hV3⟩:=Nq ((W.alloc (.cells #[] 3)).setCell ⟨X,3,none⟩ (.slice (some ⟨W.heap.size,0,none⟩) 0 0));rw[hV3]at h3;have HN:=h_ (h3.put (g':={ g8 with bys:=[],is:=[rdN nx] }) (A':={ A with b:=some ⟨W.heap.size,0,none⟩,bc:=0,i:=some ⟨rd,0,none⟩,ic:=1 }) 4 (.slice (some ⟨rd,0,none⟩) 1 1) rfl ⟨h3.ow.b,h3.rr,h3.ow.h,h3.ow.v,h3.ow.u⟩);have q4:=h3.bx.cell 4;have f4:=h3.bx.free 4;rw[show(fCs { g8 with bys:=[] } { A with b:=some ⟨W.heap.size,0,none⟩,bc:=0 })[4]? = some (.slice A.i g8.is.length A.ic) from rfl]at q4;have HV3:=h_ hV3;clear HS h2 h3 hal hnn hV3 hw;go_upto_region 33 with fail
    rw[HV3.u];clear HV3 q3 f3;go_wp2_with fail;go_meet;exact⟨_,HN.u⟩
  . obtain rfl:b9=false:=by rw[<- HB9.u];exact Yi hw
    have e:g9=g8:=(by rw[<- HG9.u];exact Yu hw);subst e;go_wp2_with fail;go_meet;exact⟨A,HS.u⟩
 case rest =>
 as_aux_lemma =>
 clear HS8 A W
 obtain⟨A,hS⟩:=hcut
 have HS9:=h_ hS
 clear hS
 obtain⟨W,hW⟩:=Nq wc
 rw[hW]at HS9⊢
 clear hW wc
 obtain⟨g10,hg10⟩:∃g,sp10 what nx g9=g:=⟨_,rfl⟩
 have HG10:=h_ hg10
 clear hg10
 go_upto_if 133 with fail
 go_cut [] from 18 (fun wx=>∃A,SMk (.slice a1 N c1) (.slice a2 np c2) (.slice a3 nr c3) (.slice a4 n c4) (.slice (some ⟨go,0,none⟩) n co) P base F X rd nx g10 A w wx)
 case first =>
  as_aux_lemma =>
  have HS:=HS9;clear HS9;by_cases hw:what=10
  . subst hw
    rw[show((10:Nat):Int)=10 from rfl];have e:g10 = { g9 with wh:=[rdN nx] }:=(by rw[<- HG10.u];exact Yy rfl);subst e;have q0:=HS.u.bx.cell 5;have qf:=HS.u.bx.free 5;rw[show(fCs g9 A)[5]? = some (.slice A.h g9.wh.length A.hc) from rfl]at q0;have HN:=h_ (HS.u.put (g':={ g9 with wh:=[rdN nx] }) (A':={ A with h:=some ⟨rd,0,none⟩,hc:=1 }) 5 (.slice (some ⟨rd,0,none⟩) 1 1) rfl ⟨HS.u.ow.b,HS.u.ow.i,HS.u.rr,HS.u.ow.v,HS.u.ow.u⟩);clear HS;go_wp2_with fail;go_meet;exact⟨_,HN.u⟩
  . have hw':((what:Int)==10)=false:=Yf.2 (by omega)
    have e:g10=g9:=(by rw[<- HG10.u];exact Yu hw);subst e;go_wp2_with fail;go_meet;exact⟨A,HS.u⟩
 case rest =>
 as_aux_lemma =>
 clear HS9 A W
 obtain⟨A,hS⟩:=hcut
 have HS10:=h_ hS
 clear hS
 obtain⟨W,hW⟩:=Nq wc
 rw[hW]at HS10⊢
 clear hW wc
 obtain⟨g11,hg11⟩:∃g,sp11 what nx g10=g:=⟨_,rfl⟩
 have HG11:=h_ hg11
 clear hg11
 obtain⟨b11,hb11⟩:∃b,decide (11<=what/\what<=15)=b:=⟨_,rfl⟩
 have HB11:=h_ hb11
 clear hb11
 go_upto_region 36 with fail
 go_cut [141] from 18 (fun s wx=>s=.bool b11/\wx=W)
 case first =>
  as_aux_lemma =>
  by_cases h8:11<=what
  . have h8':(11:Int)<=what:=by omega
    by_cases h9:what<=15
    . have h9':(what:Int)<=15:=by omega
      go_wp2_with fail;go_meet;exact⟨congrArg Value.bool (by rw[<- HB11.u];exact(Ym (by omega)).symm),rfl⟩
    . have h9':¬ (what:Int)<=15:=by omega
      go_wp2_with fail;go_meet;exact⟨congrArg Value.bool (by rw[<- HB11.u];exact(Yi (by omega)).symm),rfl⟩
  . have h8':¬ (11:Int)<=what:=by omega
    go_wp2_with fail;go_meet;exact⟨congrArg Value.bool (by rw[<- HB11.u];exact(Yi (by omega)).symm),rfl⟩
 case rest =>
 as_aux_lemma =>
 obtain⟨rfl,rfl⟩:=hcut
 obtain⟨W,hW⟩:=Nq wc
 rw[hW]at HS10⊢
 clear hW wc
 go_upto_if 141 with fail
 go_cut [] from 18 (fun wx=>∃A,SMk (.slice a1 N c1) (.slice a2 np c2) (.slice a3 nr c3) (.slice a4 n c4) (.slice (some ⟨go,0,none⟩) n co) P base F X rd nx g11 A w wx)
 case first =>
  as_aux_lemma =>
  have HS:=HS10;clear HS10;by_cases hw:11<=what/\what<=15
  . obtain rfl:b11=true:=by rw[<- HB11.u];exact Ym hw
    have h2:=HS.u.put (g':={ g10 with lb:=0 }) (A':=A) 2 (J9 0) rfl ⟨HS.u.ow.b,HS.u.ow.i,HS.u.ow.h,HS.u.ow.v,HS.u.ow.u⟩;have q2:=HS.u.bx.cell 2;have f2:=HS.u.bx.free 2;rw[show(fCs g10 A)[2]? = some (J9 g10.lb) from rfl]at q2;obtain⟨V2,hV2⟩:=Nq (W.setCell ⟨X,2,none⟩ (J9 0));rw[hV2]at h2;have HV2:=h_ hV2;have HS2:=h_ h2;clear HS h2 hV2;by_cases hlo:what=11∨what=12
    . have e:g11 = { g10 with lb:=0 }:=by rw[<- HG11.u];exact Yy hlo
      subst e;have h13:¬ (13:Int)<=what:=(by omega);have h15:((what:Int)==15)=false:=Yf.2 (by omega);clear hw hlo;go_upto_region 38 with fail
      rw[HV2.u];clear HV2 q2 f2;go_wp2_with fail;go_meet;exact⟨_,HS2.u⟩
    . have h13:(13:Int)<=what:=by omega
      have h8:=HS2.u.put (g':={ g10 with lb:=0,mu:=[rdN nx] }) (A':={ A with u:=some ⟨rd,0,none⟩,uc:=1 }) 8 (.slice (some ⟨rd,0,none⟩) 1 1) rfl ⟨HS2.u.ow.b,HS2.u.ow.i,HS2.u.ow.h,HS2.u.ow.v,HS2.u.rr⟩;have q8:=HS2.u.bx.cell 8;have f8:=HS2.u.bx.free 8;rw[show(fCs { g10 with lb:=0 } A)[8]? = some (.slice A.u g10.mu.length A.uc) from rfl]at q8;obtain⟨V8,hV8⟩:=Nq (V2.setCell ⟨X,8,none⟩ (.slice (some ⟨rd,0,none⟩) 1 1));rw[hV8]at h8;have HV8:=h_ hV8;have HS8:=h_ h8;clear HS2 h8 hV8;by_cases hmi:what=13∨what=14
      . have e:g11 = { g10 with lb:=0,mu:=[rdN nx] }:=by rw[<- HG11.u];unfold sp11;rw[Yu hlo,Yy hmi]
        subst e;have h15:((what:Int)==15)=false:=Yf.2 (by omega);clear hw hlo hmi;go_upto_region 38 with fail
        rw[HV2.u];go_upto_region 40 with fail
        rw[HV8.u];clear HV2 q2 f2 HV8 q8 f8;go_wp2_with fail;go_meet;exact⟨_,HS8.u⟩
      . obtain rfl:what=15:=by omega
        have e:g11 = { g10 with lb:=0,mu:=[rdN nx],bys:=[],is:=[⟨0,⟨1,1,⟨#[]⟩⟩,⟨#[]⟩⟩] }:=(by rw[<- HG11.u];rfl);subst e;rw[show((15:Nat):Int)=15 from rfl];clear hw hlo hmi h13;have hal:=(bR V8.heap.size V8).alloc (nR _) (.cells #[] 3);have h9:=HS8.u.mono hal;have hnn:=qau V8 3 1;have hsz1:base<=V8.heap.size:=(by have:=HS8.u.fb.lt;omega);have h3:=h9.put (g':={ g10 with lb:=0,mu:=[rdN nx],bys:=[] }) (A':={ A with u:=some ⟨rd,0,none⟩,uc:=1,b:=some ⟨V8.heap.size,0,none⟩,bc:=0 }) 3 (.slice (some ⟨V8.heap.size,0,none⟩) 0 0) rfl ⟨qdt hnn hsz1,h9.ow.i,h9.ow.h,h9.ow.v,h9.ow.u⟩;have q3:=h9.bx.cell 3;have f3:=h9.bx.free 3;rw[show(fCs { g10 with lb:=0,mu:=[rdN nx] } { A with u:=some ⟨rd,0,none⟩,uc:=1 })[3]? = some (.slice A.b g10.bys.length A.bc) from rfl]at q3;obtain⟨V3,hV3⟩:=Nq ((V8.alloc (.cells #[] 3)).setCell ⟨X,3,none⟩ (.slice (some ⟨V8.heap.size,0,none⟩) 0 0));rw[hV3]at h3;have HV3:=h_ hV3;have HS3:=h_ h3;obtain⟨X8,hX8⟩:=Nq V8.heap.size;have HX8:=h_ hX8;rw[hX8]at HS3;clear HS8 h9 h3 hal hnn hV3 hX8;go_upto_region 38 with fail
        rw[HV2.u];go_upto_region 40 with fail
        rw[HV8.u];clear HV2 q2 f2 HV8 q8 f8;go_upto_region 42 with fail
        rw[HV3.u];clear HV3 q3 f3;have HCi:=h_ (qa6 1 V3);go_wp2_with fail;refine HCi.u.mono ?_;rintro e W1 ⟨rfl,hb1⟩;have h1:=HS3.u.mono hb1;have HCc:=h_ (q52 1 1 ⟨#[]⟩ W1);clear HS3 HCi hb1;go_wp2_with fail;refine HCc.u.mono ?_;rintro e W2 ⟨rfl,hb2⟩;have h2:=h1.mono hb2;have hal:=(bR W2.heap.size W2).alloc (nR _) (.cells #[J9 0,J9 1,J9 1,Yb,Yb] 96);have h4:=h2.mono hal;have hn1:OwnN _ _ _ _:=OwnN.lone W2 ⟨0,⟨1,1,⟨#[]⟩⟩,⟨#[]⟩⟩;have hsz2:base<=W2.heap.size:=(by have:=h2.fb.lt;omega);have HN:=h_ (h4.put (g':={ g10 with lb:=0,mu:=[rdN nx],bys:=[],is:=[⟨0,⟨1,1,⟨#[]⟩⟩,⟨#[]⟩⟩] }) (A':={ A with u:=some ⟨rd,0,none⟩,uc:=1,b:=some ⟨X8,0,none⟩,bc:=0,i:=some ⟨W2.heap.size,0,none⟩,ic:=1 }) 4 (.slice (some ⟨W2.heap.size,0,none⟩) 1 1) rfl ⟨h4.ow.b,hn1.low hsz2,h4.ow.h,h4.ow.v,h4.ow.u⟩);have q4:=h4.bx.cell 4;have f4:=h4.bx.free 4;rw[show(fCs { g10 with lb:=0,mu:=[rdN nx],bys:=[] } { A with u:=some ⟨rd,0,none⟩,uc:=1,b:=some ⟨X8,0,none⟩,bc:=0 })[4]? = some (.slice A.i g10.is.length A.ic) from rfl]at q4;clear h1 h2 h4 hal hn1 hb2 HCc;go_wp2_with (refine qfs rfl (.tmp 152) rfl rfl ?_);go_meet;exact⟨_,HN.u⟩
  . obtain rfl:b11=false:=by rw[<- HB11.u];exact Yi hw
    have e:g11=g10:=(by rw[<- HG11.u];exact by unfold sp11;rw[Yu (by omega),Yu (by omega),Yu (by omega)]);subst e;go_wp2_with fail;go_meet;exact⟨A,HS.u⟩
 case rest =>
 as_aux_lemma =>
 clear HS10 A W
 obtain⟨A,hS⟩:=hcut
 have HS11:=h_ hS
 clear hS
 obtain⟨W,hW⟩:=Nq wc
 rw[hW]at HS11⊢
 clear hW wc
 have HGn:Hi (spG what k N nx u=g11):=h_ (by unfold spG;rw[HG1.u,HG2.u,HG3.u,HG4.u,HG5.u,HG6.u,HG7.u,HG8.u,HG9.u,HG10.u,HG11.u])
 clear HG1 HG2 HG3 HG4 HG5 HG6 HG7 HG8 HG9 HG10 HG11
 have hS:=HS11.u
 have hS':=hS
 rw[<- hPn]at hS'
 have hth:=(qdr hS'.out hkP (g11,A)).1
 have hT:TMk (.slice a1 N c1) (.slice a2 np c2) (.slice a3 nr c3) (.slice (some ⟨go,0,none⟩) n co) { m with F:=m.F.set k g11 } (P.set k (g11,A)) base F w ((W.setCells go (k*9) (fCs g11 A)).setCell ⟨F,3,none⟩ (.slice (some ⟨go,0,none⟩) n co)):=by
  have:=hS'.done (m:=m) (k:=k) hbs HF.u hkP (by rw[hPn];exact HOw.u);rw[hPn]at this;exact this
 have fb1:Blk (W.setCells go (k*9) (fCs g11 A)) F 28 [.slice a1 N c1,.slice a2 np c2,.slice a3 nr c3,.slice a4 n c4]:=(q23 go _ _ _ _ (fun e=>qdq hS.out hS.fb (by decide) (by rw[<- e];rfl))).trans hS.fb
 have HRg:=h_ hS.bx.rng
 have v3:=fb1.cell 3;have vf:=fb1.free 3
 simp only[Yh,Yo]at v3
 have HT:=h_ hT;have HTh:=h_ hth
 clear hS hS' hT fb1 hth HS11
 go_upto_region 44 with (first | refine wpList_load_mid rfl 42 (.tmp 12) rfl X 0 rfl (fCs g11 A) _ HRg.u Tryz.underlying42 rfl (by kernel_rfl) ?_ | refine wpList_store_mid rfl 42 (.tmp 158) (.tmp 157) rfl go (k*9) (fCs g11 A).toArray rfl rfl HTh.u (by kernel_rfl) (by simp[fCs,Value.oneCell']) ?_)
 obtain⟨V,hV⟩:=Nq (W.setCells go (k*9) (fCs g11 A))
 obtain⟨V4,hV4⟩:=Nq (V.setCell ⟨F,3,none⟩ (.slice (some ⟨go,0,none⟩) n co))
 rw[hV]at HT v3 vf
 rw[hV4]at HT
 try rw[show(fCs g11 A).toArray.toList=fCs g11 A from rfl]
 rw[hV]
 have HV4:=h_ hV4
 clear hV hV4 HRg HTh
 go_upto_region 45 with fail
 rw[HV4.u]
 clear HV4 v3 vf
 have HM':Hi ({ m with F:=m.F.set k g11,P:=spB what N m.P,R:=spR what m.R } = { m with F:=m.F.set k g11,P:=spB what N m.P,R:=spR what m.R }):=h_ rfl
 clear HM'
 obtain⟨fs,hfs⟩:=Nq (m.F.set k g11)
 obtain⟨P',hP'⟩:=Nq (P.set k (g11,A))
 rw[hfs,hP']at HT
 have HFs:=h_ hfs
 clear hfs hP'
 obtain⟨lw,hlw⟩:∃l,m.P=l:=⟨_,rfl⟩
 obtain⟨rw0,hrw⟩:∃l,m.R=l:=⟨_,rfl⟩
 obtain⟨ll,hll⟩:∃l,m.L=l:=⟨_,rfl⟩
 rw[hlw]at hnp
 rw[hrw]at hnr
 have HT0:Hi (TMk (.slice a1 N c1) (.slice a2 np c2) (.slice a3 nr c3) (.slice (some ⟨go,0,none⟩) n co) ⟨ll,lw,rw0,fs⟩ P' base F w V4):=h_ (by rw[<- hlw,<- hrw,<- hll];exact HT.u)
 clear HT
 have HLw:=h_ hlw;have HRw:=h_ hrw;have HLl:=h_ hll
 clear hlw hrw hll hN hn HOm HOw HBl hub
 obtain⟨B1,hB1⟩:∃l,(if what=16/\0<np then lw.drop 1 else lw)=l:=⟨_,rfl⟩
 obtain⟨n1,hn1⟩:∃k,B1.length=k:=⟨_,rfl⟩
 have hn1b:n1<=201:=by rw[<- hn1,<- hB1];split <;> (try simp only[List.length_drop]) <;> omega
 have HB1:=h_ hB1;have HN1:=h_ hn1
 clear hB1 hn1
 obtain⟨y0,y1,y2,y3⟩:=quad HT0.u.fb
 obtain⟨b16,hb16⟩:∃b,decide (what=16/\0<np)=b:=⟨_,rfl⟩
 have HB16:=h_ hb16
 clear hb16
 go_cut [168] from 18 (fun s wx=>s=.bool b16/\wx=V4)
 case first =>
  as_aux_lemma =>
  by_cases h8:what=16
  . have h8':((what:Int)==16)=true:=by rw[h8];rfl
    have Hk:=h_ h8;clear h8;by_cases h9:0<np
    . have h9':(0:Int)<np:=by omega
      go_wp2_with fail;go_meet;exact⟨congrArg Value.bool (by rw[<- HB16.u];exact(Ym (show what=16/\0<np from ⟨Hk.u,h9⟩)).symm),rfl⟩
    . have h9':¬ (0:Int)<np:=by omega
      go_wp2_with fail;go_meet;exact⟨congrArg Value.bool (by rw[<- HB16.u];exact(Yi (show ¬ (what=16/\0<np) from fun h=>h9 h.2)).symm),rfl⟩
  . have h8':((what:Int)==16)=false:=Yf.2 (by omega)
    go_wp2_with fail;go_meet;exact⟨congrArg Value.bool (by rw[<- HB16.u];exact(Yi (show ¬ (what=16/\0<np) from fun h=>h8 h.1)).symm),rfl⟩
 case rest =>
 as_aux_lemma =>
 obtain⟨rfl,rfl⟩:=hcut
 clear y0 y1 y2 y3
 go_upto_if 168 with fail
 go_cut [] from 18 (fun wx=>∃b1 d1,TMk (.slice a1 N c1) (.slice b1 n1 d1) (.slice a3 nr c3) (.slice (some ⟨go,0,none⟩) n co) ⟨ll,B1,rw0,fs⟩ P' base F w wx)
 case first =>
  as_aux_lemma =>
  obtain⟨W,hW⟩:=Nq wc;rw[hW]at HT0⊢;clear hW wc;by_cases hw:what=16/\0<np
  . obtain rfl:b16=true:=by rw[<- HB16.u];exact Ym hw
    have hnp0:=hw.2;have Hw:=h_ hw;clear hw;have hba:=(bR W.heap.size W).alloc (nR _) (.cells #[] 64);have hO5:OwP (W.alloc (.cells #[] 64)) W.heap.size (.slice (some ⟨W.heap.size,0,none⟩) 0 0) ((lw.take 1).drop 1):=by
     have h:=qau W 64 2;have e:(lw.take 1).drop 1=[]:=(by cases lw <;> simp);rw[e];exact h
    obtain⟨B7,hB7⟩:=Nq W.heap.size;obtain⟨V5,hV5⟩:=Nq (W.alloc (.cells #[] 64));rw[hV5,hB7]at hO5 hba;have HO5:=h_ hO5;have HB5:=h_ hba;have HB7:=h_ hB7;have HV5:=h_ hV5;have HZ5:=h_ hB7;have HTc:=HT0;clear hO5 hba hB7 hV5 HT0
    go_upto_block 2 with fail
    try rw[HV5.u]
    try rw[HZ5.u]
    clear HV5 HZ5;go_wp2_with fail;go_loopw [14,15] (fun s i wr=>∃(j:Nat) (x5:Option Addr) (n5 c5:Nat),1<=j/\j<=np/\i=J9 j/\s=.slice x5 n5 c5/\OwP wr B7 (.slice x5 n5 c5) ((lw.take j).drop 1)/\Below B7 W wr) (fun _ i _=>np - (intOf i).toNat)
    case atStart=>exact⟨1,_,_,_,nR _,by omega,rfl,rfl,HO5.u,HB5.u⟩
    case round =>
     clear HO5 HB5;obtain⟨j,x5,n5,c5,hj1,hj,rfl,rfl,ho,hb⟩:=hrel;have hT:=HTc.u.mono (show Below W.heap.size W wr by rw[HB7.u];exact hb);have hsB:B7<=wr.heap.size:=(by have:=hb.size;have:=HB7.u;omega);obtain⟨y0,y1,y2,y3⟩:=quad hT.fb;by_cases hlt:j<np
     . have hlt':(j:Int)<(np:Int):=by omega
       have hjl:j<lw.length:=(by omega);have hps:OwP wr base (.slice a2 lw.length c2) lw:=(by rw[hnp];exact hT.om.p);obtain⟨pb,po,e5,-,z0,z1⟩:=prs_of hps j hjl;obtain⟨⟨pl,ph⟩,hpl⟩:∃x,lw[j]=x:=⟨_,rfl⟩;rw[hpl]at z0 z1;dsimp only at z0 z1;obtain⟨QL,hQL⟩:=Nq ((lw.take j).drop 1);have HSt:Hi ((lw.take (j+1)).drop 1=QL++[(pl,ph)]):=h_ (by rw[<- hQL,<- hpl];exact q8l lw hjl hj1);rw[hQL]at ho;subst e5;have hal:=(bR wr.heap.size wr).alloc (nR _) (.cells (Jp pl ph) 64);have HN:Hi (Blk _ _ 64 [J9 pl,J9 ph]):=h_ (Blk.new wr 64 (Jp pl ph));have HO2:Hi (OwP (wr.alloc (.cells (Jp pl ph) 64)) B7 (.slice x5 n5 c5) QL):=h_ (qap ho hal);have HB2:=h_ (hb.trans (hal.mono hsB));have hsz2:B7<=(wr.alloc (.cells (Jp pl ph) 64)).heap.size:=Ys hsB hal.size;have hl4:QL.length<=1000:=(by rw[<- hQL];simp;omega);clear hal ho hb hT hps hpl hQL;go_wp2_with (first | (at_builtin;refine qc2 (n:=(pl,ph)) rfl _ _ rfl rfl HO2.u rfl HN.u (by omega) hsz2 ?_) | refine qft rfl (.tmp 182) rfl rfl ?_);intro v' W4 ho4 hg4 hb4;have HB4:=h_ (HB2.u.trans hb4);have ho5:OwP W4 B7 v' ((lw.take (j+1)).drop 1):=(by rw[HSt.u];first | exact ho4 | (unfold OwP;rw[Yg];exact ho4));obtain⟨x6,c6,e6,-,-⟩:=q8b ho5;obtain⟨n6,hn6⟩:=Nq (((lw.take (j+1)).drop 1).length);rw[hn6]at e6;subst e6;have HO4:=h_ ho5;clear ho4 hg4 hb4 ho5 HN HO2 HB2 hsz2 y0 y1 y2 y3 z0 z1 hn6;go_wp2_with fail;go_roundw
       case rel=>exact⟨j+1,x6,n6,c6,by omega,by omega,by go_num,rfl,HO4.u,HB4.u⟩
       case measure=>first | exact qi2 hlt | (simp[intOf];omega)
     . have hlt':¬ (j:Int)<(np:Int):=by omega
       obtain rfl:np=j:=(by omega);have htk:lw.take np=lw:=(by rw[<- hnp,Zm]);rw[htk]at ho;have hlo:OwP wr base (.slice x5 n5 c5) (lw.drop 1):=qdt ho (by have:=HTc.u.fb.lt;have:=HB7.u;omega);have hT9:=hT.setP hlo;have v1':=hT.fb.cell 1;have vf':=hT.fb.free 1;simp only[Yh,Yo]at v1';have hn5:n1=n5:=Eq.symm <| by obtain⟨_,_,e,-⟩:=q8b ho;cases e;rw[<- HN1.u,<- HB1.u];exact congrArg List.length (Yy Hw.u).symm
       subst hn5;have HT9:Hi (TMk (.slice a1 N c1) (.slice x5 n1 c5) (.slice a3 nr c3) (.slice (some ⟨go,0,none⟩) n co) ⟨ll,B1,rw0,fs⟩ P' base F w (wr.setCell ⟨F,1,none⟩ (.slice x5 n1 c5))):=h_ (by rw[<- HB1.u];rw[show(if what=16/\0<np then lw.drop 1 else lw)=lw.drop 1 from Yy Hw.u];exact hT9);clear hT hlo ho hb hT9 htk;go_wp2_with fail;go_meet;exact⟨x5,c5,HT9.u⟩
  . obtain rfl:b16=false:=by rw[<- HB16.u];exact Yi hw
    have e:B1=lw:=(by rw[<- HB1.u];exact Yu hw);subst e;have e:n1=np:=(by rw[<- HN1.u];exact hnp);subst e;clear hw;go_wp2_with fail;go_meet;exact⟨a2,c2,HT0.u⟩
 case rest =>
 as_aux_lemma =>
 obtain⟨b1,d1,hT⟩:=hcut
 have HT1:=h_ hT
 clear hT HT0
 obtain⟨V5,hV5⟩:=Nq wc
 rw[hV5]at HT1⊢
 clear hV5 wc
 obtain⟨B2,hB2⟩:∃l,(if what=17 then ((N:Int) - 1,0) :: B1 else B1)=l:=⟨_,rfl⟩
 obtain⟨n2,hn2⟩:∃k,B2.length=k:=⟨_,rfl⟩
 have hn1':=HN1.u
 have hn2b:n2<=202:=by rw[<- hn2,<- hB2];split <;> (try simp only[Yw]) <;> omega
 have HB2:=h_ hB2;have HN2:=h_ hn2
 clear hB2 hn2 hn1'
 go_upto_if 188 with fail
 go_cut [] from 18 (fun wx=>∃b2 d2,TMk (.slice a1 N c1) (.slice b2 n2 d2) (.slice a3 nr c3) (.slice (some ⟨go,0,none⟩) n co) ⟨ll,B2,rw0,fs⟩ P' base F w wx)
 case first =>
  as_aux_lemma =>
  by_cases hw:what=17
  . have hw':((what:Int)==17)=true:=by rw[hw];rfl
    have Hw:=h_ hw;clear hw;obtain⟨W,hW⟩:=Nq V5;rw[hW]at HT1⊢;clear hW V5;obtain⟨y0,y1,y2,y3⟩:=quad HT1.u.fb;have hn1:=HN1.u;have hba:=(bR W.heap.size W).alloc (nR _) (.cells #[J9 ((N:Int) - 1),J9 0] 64);have hO5:OwP (W.alloc (.cells #[J9 ((N:Int) - 1),J9 0] 64)) W.heap.size (.slice (some ⟨W.heap.size,0,none⟩) 1 1) (((N:Int) - 1,0) :: B1.take 0) :=
     ⟨rfl,.inr ⟨W.heap.size,1,_,rfl,nR _,heap_alloc_new W (.cells #[J9 ((N:Int) - 1),J9 0] 64),nR _,by unfold maxLen;omega,rfl,rfl⟩⟩
    obtain⟨B7,hB7⟩:=Nq W.heap.size;obtain⟨V6,hV6⟩:=Nq (W.alloc (.cells #[J9 ((N:Int) - 1),J9 0] 64));rw[hV6,hB7]at hO5 hba;have HO5:=h_ hO5;have HB5:=h_ hba;have HB7:=h_ hB7;have HV5:=h_ hV6;have HZ5:=h_ hB7;have HTc:=HT1;clear hO5 hba hB7 hV6 HT1
    go_upto_block 4 with (first | refine q66 rfl 64 #[(0,.tmp 192),(1,.const (J9 0))] rfl #[J9 ((N:Int) - 1),J9 0] (by kernel_rfl) ?_ | refine qft rfl (.tmp 193) rfl rfl ?_)
    try rw[HV5.u]
    try rw[HZ5.u]
    clear HV5 HZ5;go_wp2_with fail;go_loopw [16,17] (fun s i wr=>∃(j:Nat) (x5:Option Addr) (n5 c5:Nat),0<=j/\j<=n1/\i=J9 j/\s=.slice x5 n5 c5/\OwP wr B7 (.slice x5 n5 c5) (((N:Int) - 1,0) :: B1.take j)/\Below B7 W wr) (fun _ i _=>n1 - (intOf i).toNat)
    case atStart=>exact⟨0,_,_,_,nR _,by omega,rfl,rfl,HO5.u,HB5.u⟩
    case round =>
     clear HO5 HB5;obtain⟨j,x5,n5,c5,hj1,hj,rfl,rfl,ho,hb⟩:=hrel;have hT:=HTc.u.mono (show Below W.heap.size W wr by rw[HB7.u];exact hb);have hsB:B7<=wr.heap.size:=(by have:=hb.size;have:=HB7.u;omega);obtain⟨y0,y1,y2,y3⟩:=quad hT.fb;by_cases hlt:j<n1
     . have hlt':(j:Int)<(n1:Int):=by omega
       have hjl:j<B1.length:=(by omega);have hps:OwP wr base (.slice b1 B1.length d1) B1:=(by rw[hn1];exact hT.om.p);obtain⟨pb,po,e5,-,z0,z1⟩:=prs_of hps j hjl;obtain⟨⟨pl,ph⟩,hpl⟩:∃x,B1[j]=x:=⟨_,rfl⟩;rw[hpl]at z0 z1;dsimp only at z0 z1;obtain⟨QL,hQL⟩:=Nq (((N:Int) - 1,0) :: B1.take j);have HSt:Hi (((N:Int) - 1,0) :: B1.take (j+1)=QL++[(pl,ph)]):=h_ (by rw[<- hQL,<- hpl];exact q8k _ B1 hjl);rw[hQL]at ho;subst e5;have hal:=(bR wr.heap.size wr).alloc (nR _) (.cells (Jp pl ph) 64);have HN:Hi (Blk _ _ 64 [J9 pl,J9 ph]):=h_ (Blk.new wr 64 (Jp pl ph));have HO2:Hi (OwP (wr.alloc (.cells (Jp pl ph) 64)) B7 (.slice x5 n5 c5) QL):=h_ (qap ho hal);have HB2:=h_ (hb.trans (hal.mono hsB));have hsz2:B7<=(wr.alloc (.cells (Jp pl ph) 64)).heap.size:=Ys hsB hal.size;have hl4:QL.length<=1000:=(by rw[<- hQL];simp;omega);clear hal ho hb hT hps hpl hQL;go_wp2_with (first | (at_builtin;refine qc2 (n:=(pl,ph)) rfl _ _ rfl rfl HO2.u rfl HN.u (by omega) hsz2 ?_) | refine qft rfl (.tmp 207) rfl rfl ?_);intro v' W4 ho4 hg4 hb4;have HB4:=h_ (HB2.u.trans hb4);have ho5:OwP W4 B7 v' (((N:Int) - 1,0) :: B1.take (j+1)):=(by rw[HSt.u];first | exact ho4 | (unfold OwP;rw[Yg];exact ho4));obtain⟨x6,c6,e6,-,-⟩:=q8b ho5;obtain⟨n6,hn6⟩:=Nq ((((N:Int) - 1,0) :: B1.take (j+1)).length);rw[hn6]at e6;subst e6;have HO4:=h_ ho5;clear ho4 hg4 hb4 ho5 HN HO2 HB2 hsz2 y0 y1 y2 y3 z0 z1 hn6;go_wp2_with fail;go_roundw
       case rel=>exact⟨j+1,x6,n6,c6,by omega,by omega,by go_num,rfl,HO4.u,HB4.u⟩
       case measure=>first | exact qi2 hlt | (simp[intOf];omega)
     . have hlt':¬ (j:Int)<(n1:Int):=by omega
       obtain rfl:n1=j:=(by omega);have htk:B1.take n1=B1:=(by rw[<- hn1,Zm]);rw[htk]at ho;have hlo:OwP wr base (.slice x5 n5 c5) (((N:Int) - 1,0) :: B1):=qdt ho (by have:=HTc.u.fb.lt;have:=HB7.u;omega);have hT9:=hT.setP hlo;have v1':=hT.fb.cell 1;have vf':=hT.fb.free 1;simp only[Yh,Yo]at v1';have hn5:n2=n5:=Eq.symm <| by obtain⟨_,_,e,-⟩:=q8b ho;cases e;rw[<- HN2.u,<- HB2.u];exact congrArg List.length (Yy Hw.u).symm
       subst hn5;have HT9:Hi (TMk (.slice a1 N c1) (.slice x5 n2 c5) (.slice a3 nr c3) (.slice (some ⟨go,0,none⟩) n co) ⟨ll,B2,rw0,fs⟩ P' base F w (wr.setCell ⟨F,1,none⟩ (.slice x5 n2 c5))):=h_ (by rw[<- HB2.u];rw[show(if what=17 then ((N:Int) - 1,0) :: B1 else B1)=((N:Int) - 1,0) :: B1 from Yy Hw.u];exact hT9);clear hT hlo ho hb hT9 htk;go_wp2_with fail;go_meet;exact⟨x5,c5,HT9.u⟩
  . have hw':((what:Int)==17)=false:=Yf.2 (by omega)
    have e:B2=B1:=(by rw[<- HB2.u];exact Yu hw);subst e;have e:n2=n1:=(by rw[<- HN2.u];exact HN1.u);subst e;clear hw;go_wp2_with fail;go_meet;exact⟨b1,d1,HT1.u⟩
 case rest =>
 as_aux_lemma =>
 clear HT1 V5
 obtain⟨b2,d2,hT⟩:=hcut
 have HT2:=h_ hT
 clear hT
 obtain⟨W,hW⟩:=Nq wc
 rw[hW]at HT2⊢
 clear hW wc
 obtain⟨R1,hR1⟩:∃l,spR what rw0=l:=⟨_,rfl⟩
 obtain⟨m1,hm1⟩:∃k,R1.length=k:=⟨_,rfl⟩
 have HR1:=h_ hR1;have HM1:=h_ hm1
 clear hR1 hm1
 go_upto_if 213 with fail
 go_cut [] from 18 (fun wx=>∃r1 e1,TMk (.slice a1 N c1) (.slice b2 n2 d2) (.slice r1 m1 e1) (.slice (some ⟨go,0,none⟩) n co) ⟨ll,B2,R1,fs⟩ P' base F w wx)
 case first =>
  as_aux_lemma =>
  by_cases hw:what=18
  . have hw':((what:Int)==18)=true:=by rw[hw];rfl
    have e:R1=⟨clerkS,0⟩ :: rw0:=(by rw[<- HR1.u];exact Yy hw);subst e;clear hw;have hal:=(bR W.heap.size W).alloc (nR _) (.cells #[.string ⟨#[99,108,101,114,107]⟩,J9 0] 66);have hO5:(W.alloc (.cells #[.string ⟨#[99,108,101,114,107]⟩,J9 0] 66)).ownsRow W.heap.size 66 2 (.slice (some ⟨W.heap.size,0,none⟩) 1 1) 1 [.string ⟨#[99,108,101,114,107]⟩,J9 0] :=
     ⟨rfl,.inr ⟨W.heap.size,1,_,rfl,nR _,heap_alloc_new W (.cells #[.string ⟨#[99,108,101,114,107]⟩,J9 0] 66),nR _,by unfold maxLen;omega,rfl,rfl⟩⟩
    have hT5:=HT2.u.mono hal;obtain⟨y0,y1,y2,y3⟩:=quad hT5.fb;have hrr:(W.alloc (.cells #[.string ⟨#[99,108,101,114,107]⟩,J9 0] 66)).ownsRow base 66 2 (.slice a3 nr c3) nr (rV' rw0):=(by have h:=hT5.om.r;unfold OwL at h;rw[show rw0.length=nr from hnr]at h;exact h);have hsz:W.heap.size<=(W.alloc (.cells #[.string ⟨#[99,108,101,114,107]⟩,J9 0] 66)).heap.size:=hal.size;obtain⟨i0,hi,hz0,hz1,hz2⟩:=info_parts qh4;have HH:=h_ hal;have HO5:=h_ hO5;have HRr:=h_ hrr;clear hal hO5 hrr hT5;go_wp2_with (first | (at_builtin;refine q6a rfl _ _ 25 66 i0 _ 2 24 rfl Tryz.underlying25 hi hz0 hz1 hz2 rfl (by omega) rfl HO5.u rfl HRr.u rV_one (by omega) (by omega) hsz ?_) | refine q66 rfl 66 #[(0,.const (.string ⟨#[99,108,101,114,107]⟩)),(1,.const (J9 0))] rfl #[.string ⟨#[99,108,101,114,107]⟩,J9 0] (by kernel_rfl) ?_ | refine qfu rfl (.tmp 214) rfl rfl ?_);intro v' W4 ho4 hg4 hb4;have hT4:=HT2.u.mono (HH.u.trans hb4);have hm1:1+nr=m1:=(by rw[<- HM1.u];show _=rw0.length+1;omega);have ho5:OwL W4 base v' (⟨clerkS,0⟩ :: rw0):=by
     have h:=qdt ho4 (show base<=W.heap.size by have:=HT2.u.fb.lt;omega);unfold OwL;rw[show(⟨clerkS,0⟩ :: rw0:List Rl).length=1+nr by show rw0.length+1=_;omega];exact h
    obtain⟨r1,e1,rfl,-,-⟩:=q8b ho4;rw[hm1]at ho5⊢;have HT9:=h_ (hT4.setR ho5);have q2:=hT4.fb.cell 2;have qf:=hT4.fb.free 2;simp only[Yh,Yo]at q2;clear hT4 ho4 ho5 hg4 hb4 HO5 HRr HH hsz y0 y1 y2 y3 hi hz0 hz1 hz2 HT2 hm1;go_wp2_with fail;go_meet;exact⟨_,_,HT9.u⟩
  . have hw':((what:Int)==18)=false:=Yf.2 (by omega)
    have e:R1=rw0:=(by rw[<- HR1.u];exact Yu hw);subst e;have e:m1=nr:=(by rw[<- HM1.u];exact hnr);subst e;clear hw;go_wp2_with fail;go_meet;exact⟨a3,c3,HT2.u⟩
 case rest =>
 as_aux_lemma =>
 clear HT2 W
 obtain⟨r1,e1,hT⟩:=hcut
 have HT3:=h_ hT
 clear hT
 obtain⟨W,hW⟩:=Nq wc
 rw[hW]at HT3⊢
 clear hW wc
 obtain⟨B3,hB3⟩:∃l,(if what=19 then (0,(N:Int)) :: B2 else B2)=l:=⟨_,rfl⟩
 obtain⟨n3,hn3⟩:∃k,B3.length=k:=⟨_,rfl⟩
 have hfin:spB what N lw=B3:=by
  rw[<- hB3,<- HB2.u,<- HB1.u];unfold spB;rw[hnp];by_cases h1:what=16/\0<np
  . rw[Yy h1,Yy h1,Yu (by omega),Yu (by omega)]
  . rw[Yu h1,Yu h1]
    by_cases h2:what=17
    . rw[Yy h2,Yy h2,Yu (by omega)]
    . rw[Yu h2,Yu h2]
 have HFin:=h_ hfin
 have HB3:=h_ hB3;have HN3:=h_ hn3
 clear hB3 hn3 hfin HB1
 go_upto_if 221 with fail
 go_cut [] from 18 (fun wx=>∃b3 d3,TMk (.slice a1 N c1) (.slice b3 n3 d3) (.slice r1 m1 e1) (.slice (some ⟨go,0,none⟩) n co) ⟨ll,B3,R1,fs⟩ P' base F w wx)
 case first =>
  as_aux_lemma =>
  by_cases hw:what=19
  . have hw':((what:Int)==19)=true:=by rw[hw];rfl
    have e:B3=(0,(N:Int)) :: B2:=(by rw[<- HB3.u];exact Yy hw);subst e;clear hw;have hal:=(bR W.heap.size W).alloc (nR _) (.cells #[J9 0,J9 N] 64);have hO5:(W.alloc (.cells #[J9 0,J9 N] 64)).ownsRow W.heap.size 64 2 (.slice (some ⟨W.heap.size,0,none⟩) 1 1) 1 [J9 0,J9 N] :=
     ⟨rfl,.inr ⟨W.heap.size,1,_,rfl,nR _,heap_alloc_new W (.cells #[J9 0,J9 N] 64),nR _,by unfold maxLen;omega,rfl,rfl⟩⟩
    have hT5:=HT3.u.mono hal;obtain⟨x0,-⟩:=quad HT3.u.fb;obtain⟨y0,y1,y2,y3⟩:=quad hT5.fb;have hn2:=HN2.u;have hrr:(W.alloc (.cells #[J9 0,J9 N] 64)).ownsRow base 64 2 (.slice b2 n2 d2) n2 (pV B2):=(by have h:=hT5.om.p;unfold OwP at h;rw[show B2.length=n2 from hn2]at h;exact h);have hsz:W.heap.size<=(W.alloc (.cells #[J9 0,J9 N] 64)).heap.size:=hal.size;obtain⟨i0,hi,hz0,hz1,hz2⟩:=info_parts qh3;have HH:=h_ hal;have HO5:=h_ hO5;have HRr:=h_ hrr;have HN2':=h_ hn2;clear hal hO5 hrr hT5 hn2;go_wp2_with (first | (at_builtin;refine q6a rfl _ _ 24 64 i0 _ 2 16 rfl Tryz.underlying24 hi hz0 hz1 hz2 rfl (by omega) rfl HO5.u rfl HRr.u pV_one (by omega) (by omega) hsz ?_) | refine q66 rfl 64 #[(0,.const (J9 0)),(1,.tmp 224)] rfl #[J9 0,J9 N] (by kernel_rfl) ?_ | refine qft rfl (.tmp 225) rfl rfl ?_);intro v' W4 ho4 hg4 hb4;have hT4:=HT3.u.mono (HH.u.trans hb4);have hm1:1+n2=n3:=(by rw[<- HN3.u];have:=HN2'.u;show _=B2.length+1;omega);have ho5:OwP W4 base v' ((0,(N:Int)) :: B2):=by
     have h:=qdt ho4 (show base<=W.heap.size by have:=HT3.u.fb.lt;omega);unfold OwP;rw[show((0,(N:Int)) :: B2:List (Int × Int)).length=1+n2 by have:=HN2'.u;show B2.length+1=_;omega];exact h
    obtain⟨r2,e2',rfl,-,-⟩:=q8b ho4;rw[hm1]at ho5⊢;have HT9:=h_ (hT4.setP ho5);have q2:=hT4.fb.cell 1;have qf:=hT4.fb.free 1;simp only[Yh,Yo]at q2;clear hT4 ho4 ho5 hg4 hb4 HO5 HRr HH hsz x0 y0 y1 y2 y3 hi hz0 hz1 hz2 HT3 hm1;go_wp2_with fail;go_meet;exact⟨_,_,HT9.u⟩
  . have hw':((what:Int)==19)=false:=Yf.2 (by omega)
    have e:B3=B2:=(by rw[<- HB3.u];exact Yu hw);subst e;have e:n3=n2:=(by rw[<- HN3.u];exact HN2.u);subst e;clear hw;go_wp2_with fail;go_meet;exact⟨b2,d2,HT3.u⟩
 case rest =>
 as_aux_lemma =>
 clear HT3 W
 obtain⟨b3,d3,hT⟩:=hcut
 obtain⟨y0,y1,y2,y3⟩:=quad hT.fb
 have HF9:=h_ hT.fin;have HR0:=h_ hT.r0
 clear hT
 go_wp2_with (refine wpList_store_row rfl 28 (.tmp 6) (.tmp 231) rfl (F+1) (Jh a1 N c1 b3 n3 d3 r1 m1 e1 (some ⟨go,0,none⟩) n co) rfl rfl 28 Jc HR0.u (by kernel_rfl) rfl (by simp[Value.oneCell']) ?_)
 clear y0 y1 y2 y3
 obtain⟨y0,y1,y2,y3⟩:=quad HF9.u.2.2
 exact bodyPost_ret (v:=.agg (Jh a1 N c1 b3 n3 d3 r1 m1 e1 (some ⟨go,0,none⟩) n co)) (by simp[results,Tryz.results43,go_sem,y0,y1,y2,y3]) rfl ⟨_,_,_,_,_,rfl,by have h:=HF9.u.1;rw[<- HLl.u,<- HFin.u,<- HLw.u,<- HR1.u,<- HRw.u,<- HFs.u,<- HGn.u,<- HNx.u,<- HU1.u]at h;exact h,HF9.u.2.1⟩
end Go.Proofs.YtebbgodlijlioaaGreatDoor
