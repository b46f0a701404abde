import Derived.Test.YtebbgodlijlioaaGreatDoorW18
import Derived.Test.YtebbgodlijlioaaGreatDoorW21
import Derived.Test.YtebbgodlijlioaaGreatDoorW19
import Derived.Test.YtebbgodlijlioaaGreatDoorW22
import Derived.Test.YtebbgodlijlioaaGreatDoorShelf3
set_option maxRecDepth 100000
set_option maxHeartbeats 64000000
namespace Go.Proofs.YtebbgodlijlioaaGreatDoor
open Go Go.RowKit Go.Shelf
attribute [local go_sem] Oper.semAt_some
theorem qfb {g'':Nat->Nat}{P:Nat->Nat->Bool}{k x:Nat}{pre:List Nat}(h:IsRel g'' (fun b a=>P b a||(decide (a=k)&&decide (b∈pre))))(hx:x<32)(hk:k<32) :
 IsRel (fun j=>if j=x then g'' x ||| 2 ^ k else g'' j) (fun b a=>P b a||(decide (a=k)&&decide (b∈pre++[x]))) :=
 (h.add hx hk).congr fun b a _=>by
  by_cases e1:a=k
  . by_cases e2:b=x <;> simp[e1,e2]
  . simp[e1]
theorem qbn {g'' g:Nat->Nat}{R:Nat->Nat->Bool}{k:Nat}{xs:List Nat}(h:IsRel g'' (fun b a=>(decide (a<k)&&R a b)||(decide (a=k)&&decide (b∈xs))))(hg:IsRel g R)(hk:k<32)(hx:∀i,i∈xs ↔ (g k).testBit i=true) :
 IsRel g'' (fun b a=>decide (a<k+1)&&R a b):=h.congr fun b a _=>by
 have e:=(hg k hk).2 b
 by_cases h1:a=k
 . subst h1
   rw[show decide (b∈xs)=R a b by rw[<- e];cases hb:(g a).testBit b <;> simp[hx,hb]];simp
 . rw[show decide (a<k+1)=decide (a<k) by simp;omega]
   simp[h1]
theorem qbp (m:Nat)(g:Nat->Nat)(R:Nat->Nat->Bool)(n:Nat)(w:World)(hn:n<=32)(hg:IsRel g R)(ht:Tab w) :
 CallsIn Fence.wide m Tryz.prog 116 #[.agg (us g).toArray,J9 n] w fun e w'=>∃g',e=.returned (.agg (us g').toArray)/\IsRel g' (fun b a=>decide (a<n)&&R a b)/\Below w.heap.size w w':=by
 refine callsIn_of_wp_marks Tryz.func116 rfl trivial ?_ rfl
 simp only[Tryz.ntmps116,Zj,Yw,Y5,Nat.reduceAdd,Nat.reduceSub,Vw,Vv,Oj,Od,Og,Z3]
 gi_wp2_with (refine q02 rfl _ _ rfl (w.heap.size+1+1) (fun _=>0) (fun _=>0) rfl rfl (blk3 _ _ _ _ _ rfl) ?_;intro w1 hb1 hg1 hs1;have hA:=(blk1 _ _ _ _ _).grown hg1 (by simp;omega);have hR:=(blk2 _ _ _ _ (fun _=>0) rfl).grown hg1 (by simp);have hB:=(below3 _ _ _ _).trans ((bR w.heap.size _).grown hg1 (by simp;omega) (fun k e=>by cases e;omega));replace hA:=h_ hA;replace hR:=h_ hR;replace hB:=h_ hB;replace hb1:=h_ hb1;clear hg1 hs1)
 refine wpIn_loop (fun a W=>∃(k:Nat) (g':Nat->Nat) (Ds:List Nat) (u6 u7 u8 u11 u12 u13 u14 u15 u16 u17 u18 u19 u20 u21 u22 u23 u24 u25 u26 u27:Value),a = { tmps:=#[.agg (us g).toArray,J9 (n:Int),Yc w.heap.size 0,undef,Yc (w.heap.size+1) 0,Yc (w.heap.size+1+1) 0,u6,u7,u8,J9 (n:Int),J9 (k:Int),u11,u12,u13,u14,u15,u16,u17,u18,u19,u20,u21,u22,u23,u24,u25,u26,u27],defers:=marks Ds }/\k<=n/\IsRel g' (fun b a=>decide (a<k)&&R a b)/\Blk W (w.heap.size+1+1) 126 (us g')/\Blk W w.heap.size 126 (us g)/\Blk W (w.heap.size+1) 126 (us fun _=>0)/\Tab W/\Below w.heap.size w W/\Shut w.heap.size W Ds) (fun a _=>n - (intOf (a.tmps.getD 10 undef)).toNat) ?_ ?_
 . refine⟨0,fun _=>0,[],_,_,_,_,_,_,_,_,_,_,_,_,_,_,_,_,_,_,_,_,rfl,nZ _,fun a _=>⟨by simp,fun b=>by simp⟩,hb1.u,hA.u,hR.u,ht.mono hB.u,hB.u,Shut.nil _ _⟩
 . clear hb1 hA hR hB
   rintro a W ⟨k,g',Ds,u6,u7,u8,u11,u12,u13,u14,u15,u16,u17,u18,u19,u20,u21,u22,u23,u24,u25,u26,u27,rfl,hk,hrel,hO,hS,hRes,hT,hB,hSh⟩;by_cases hlt:k<n
   . have dk:decide ((k:Int)<n)=true:=by simp;omega
     have k32:k<32:=(by omega);have cS:=hS.cell k;rw[us_get g k32]at cS;have k0i:(0:Int)<=k:=(by omega);have k1i:(k:Int)<32:=(by omega);have sS:=hS.lt;have HREL:=h_ hrel;have HO:=h_ hO;have HS:=h_ hS;have HRES:=h_ hRes;have HT:=h_ hT;have HB:=h_ hB;have HSH:=h_ hSh;clear hrel hO hS hRes hT hB hSh;have K1:∀o,(W.alloc o).cell? ⟨w.heap.size,k,none⟩=some (.int .u32 (g k:Int)):=fun o=>((HS.u.alloc o).cell k).trans (us_get g k32);gi_wp2_with fail;refine callW ((q7s _ _).mono ?_);rintro e w2 ⟨rfl,rfl⟩;gi_wp2_with fail;have bA:=(Blk.new W 3 #[J9 (k:Int)]).alloc (.cells #[.int .u32 (g k:Int)] 124);have bL:=Blk.new (W.alloc (.cells #[J9 (k:Int)] 3)) 124 #[.int .u32 (g k:Int)];have bW:Below W.heap.size W ((W.alloc (.cells #[J9 (k:Int)] 3)).alloc (.cells #[.int .u32 (g k:Int)] 124)):=((bR _ _).alloc (nR _) _).alloc (by simp) _;have z5:((W.alloc (.cells #[J9 (k:Int)] 3)).alloc (.cells #[.int .u32 (g k:Int)] 124)).heap.size=W.heap.size+1+1:=(by simp);simp only[Yv]at bL;obtain⟨W5,hW5⟩:=Nq ((W.alloc (.cells #[J9 (k:Int)] 3)).alloc (.cells #[.int .u32 (g k:Int)] 124));rw[hW5]at bA bL bW z5⊢;clear hW5;have lO:=HO.u.lt;have ltD:=HSH.u.lt;have w0:=HT.u.pos;have nX:¬ (1=w.heap.size+1+1):=(by have:=ht.pos;omega);refine qb1 (gf:=176) (lb:=#[Yc (W.heap.size+1) 0]) rfl (enters_of Tryz.func176 (by kernel_rfl) rfl)
      (q3x (W.heap.size+1) (g k) W5 (fun j=>j=w.heap.size+1+1) (hg k k32).1 bL (HT.u.mono bW) nX) (bR _ _) (fun j hj=>by omega) rfl
      (fun pre W'=>∃g'',IsRel g'' (fun b a=>(decide (a<k)&&R a b)||(decide (a=k)&&decide (b∈pre)))/\Blk W' (w.heap.size+1+1) 126 (us g'')/\Blk W' w.heap.size 126 (us g)/\Blk W' (w.heap.size+1) 126 (us fun _=>0)/\Blk W' W.heap.size 3 [J9 (k:Int)]/\Tab W'/\Below w.heap.size w W'/\Shut w.heap.size W' Ds)
      (fun _ _=>False) ?hI (fun _ _ _ h _=>h)
      ⟨g',HREL.u.congr fun b a _=>by simp,HO.u.mono bW lO,HS.u.mono bW sS,HRES.u.mono bW HRES.u.lt,bA,HT.u.mono bW,HB.u.trans (bW.mono HB.u.size),HSH.u.below bW ltD⟩
      (fun x=>{ tmps:=#[.agg (us g).toArray,J9 (n:Int),Yc w.heap.size 0,undef,Yc (w.heap.size+1) 0,Yc (w.heap.size+1+1) 0,Yc W.heap.size 0,J9 (x:Int),u8,J9 (n:Int),J9 (k:Int),.bool true,J9 (k:Int),J9 (k:Int),Yc w.heap.size k,.agg #[.int .u32 (g k:Int)],.func (.func 176) #[] #[Yc (W.heap.size+1) 0],J9 (x:Int),u18,u19,u20,u21,u22,u23,u24,u25,u26,u27],defers:=[] })
      ?assign ?body ?done (fun _ _ _ _ _ h _=>h.elim)
     case hI =>
      rintro pre W1 W2 ⟨g'',h1,h2,h3,h4,h5,h6,h7,h8⟩ hb;rw[z5]at hb;exact⟨g'',h1,h2.mono hb (by omega),h3.mono hb (by omega),h4.mono hb (by omega),h5.mono hb (by omega),h6.at0 (hb.block 1 (by omega)),h7.trans (hb.mono (by omega)),h8.below hb (fun D hD=>by have:=ltD D hD;omega)⟩
     case assign =>
      intro m l x W' K hK
      gi_wp2
      exact hK
     case body =>
      rintro m l pre x W' ⟨g'',h1,h2,h3,h4,h5,h6,h7,h8⟩ ⟨x32,hxs⟩;have hmix:Tryz.prog.follows .mixedOrders=true:=(by kernel_rfl);have cO:=h2.cell x;rw[us_get g'' x32]at cO;have fO:=h2.free x;have sO:=h2.lt;have cA:=h5.cell 0;simp only[Yh]at cA;have gx:=(h1 x x32).1;have k2:=two_lt k32;have K4:=fun o1 o2 o3 o4=>(h2.cell4 x o1 o2 o3 o4).trans (us_get g'' x32);have F4:=h2.free4 x;have K1':∀o,(W'.alloc o).cell? ⟨w.heap.size+1+1,x,none⟩=some (.int .u32 (g'' x:Int)):=fun o=>((h2.alloc o).cell x).trans (us_get g'' x32);have K1A:∀o,(W'.alloc o).cell? ⟨W.heap.size,0,none⟩=some (J9 (k:Int)):=fun o=>(h5.alloc o).cell 0;have x0i:(0:Int)<=x:=(by omega);have x1i:(x:Int)<32:=(by omega);have H1:=h_ h1;have H2:=h_ h2;have H3:=h_ h3;have H4:=h_ h4;have H5:=h_ h5;have H6:=h_ h6;have H7:=h_ h7;have H8:=h_ h8;clear h1 h2 h3 h4 h5 h6 h7 h8 K1 cS;gi_wp2_with fail
      gi_region_with_o (first | (refine callR ((qic _ _ k32).mono ?_);rintro e w' ⟨rfl,rfl⟩) | (refine callR ((qbr _ _ _ gx k2).mono ?_);rintro e w' ⟨rfl,rfl⟩))
      all_goals
       gi_wp2_with fail;have hst:=qe4 H2.u x32 (g'' x ||| 2 ^ k) (.cells (#[.int .u32 ((2 ^ k:Nat):Int)]) 124) (.cells #[.int .u32 (g'' x:Int)] 124) (.cells (#[.int .u32 ((2 ^ k:Nat):Int)]) 124) (.cells (#[.int .u32 ((g'' x ||| 2 ^ k:Nat):Int)]) 124);simp only[Ot,Oh]at hst;obtain⟨s1,s2,s3,s4⟩:=hst;exact⟨s1,s2,_,qfb H1.u x32 k32,s3,s2.blk H3.u (by omega),s2.blk H4.u (by omega),s2.blk H5.u (by omega),H6.u.keep s2 nX,H7.u.trans (s4 _ (by omega) sO),H8.u.keep s1⟩
     case done =>
      rintro D xs W' hD hS' ⟨g'',h1,h2,h3,h4,h5,h6,h7,h8⟩ hK;have HX:Hi (IsRel g'' (fun b a=>decide (a<k+1)&&R a b)):=qbn h1 hg k32 hS';have HSH':Hi (Shut w.heap.size W' (D :: Ds)):=h8.cons (by have:=HB.u.size;omega) hK (fun hm=>by have:=ltD D hm;omega);have H2:=h_ h2;have H3:=h_ h3;have H4:=h_ h4;have H6:=h_ h6;have H7:=h_ h7;clear h1 h2 h3 h4 h5 h6 h7 h8 hK hS';gi_wp2_with fail;refine⟨⟨k+1,g'',D :: Ds,⟨by omega,rfl⟩,by omega,HX.u,H2.u,H3.u,H4.u,H6.u,H7.u,HSH'.u⟩,?_⟩;simp[intOf];omega
   . obtain rfl:k=n:=by omega
     have dk:decide ((k:Int)<k)=false:=(by simp);have HREL:=h_ hrel;have HO:=h_ hO;have HRES:=h_ hRes;have HB:=h_ hB;have HSH:=h_ hSh;have sR:=hRes.lt;clear hrel hO hS hRes hT hB hSh;gi_wp2_with (first | (refine q05 rfl _ rfl (w.heap.size+1+1) g' rfl HO.u ?_) | (refine q02 rfl _ _ rfl (w.heap.size+1) (fun _=>0) g' rfl rfl HRES.u ?_;intro w2 hb2 hg2 hs2;replace hb2:=h_ hb2;replace hg2:=h_ hg2));refine q40 (B:=w.heap.size) Ds w2 (HSH.u.keep ⟨by omega,fun j o hj ho=>?_⟩) fun W' hk' hb'=>?_
     . refine(hg2.u.block j (Yt.1 hj).1 (fun e=>?_)).trans hj
       cases e;rw[show W.heap[w.heap.size+1]? = _ from HRES.u]at hj;cases hj;simp[Obj.isCells]at ho
     . refine⟨.agg (us g').toArray,results_cell_row rfl _ _ (w.heap.size+1) 126 (us g').toArray (0,0) _ rfl (hk'.blk hb2.u (fun h=>h)) Tryz.underlying126 rfl (qjh g'),g',rfl,HREL.u,?_⟩
       exact(HB.u.trans ((bR w.heap.size _).grown hg2.u HB.u.size (fun j e=>by cases e;omega))).trans hb'
theorem q8n (g:Nat->Nat)(R:Nat->Nat->Bool)(n:Nat)(w:World)(hn:n<=32)(hg:IsRel g R)(ht:Tab w) :
 Calls Tryz.prog 116 #[.agg (us g).toArray,J9 n] w fun e w'=>∃g',e=.returned (.agg (us g').toArray)/\IsRel g' (fun b a=>decide (a<n)&&R a b)/\Below w.heap.size w w' :=
 (callsIn_wide (n:=9)).1 (qbp 9 g R n w hn hg ht)
end Go.Proofs.YtebbgodlijlioaaGreatDoor
namespace Go.Proofs.YtebbgodlijlioaaGreatDoor
open Go Go.RowKit
def rowP (f:Nat->Bool)(n bt tp a:Nat):Prop :=
 f (a*n+a)=true/\f (bt*n+a)=true/\f (a*n+tp)=true /\
  ∀b,b<n->¬ (a≠b/\f (a*n+b)=true/\f (b*n+a)=true)/\∀c,c<n->f (a*n+b)=true->f (b*n+c)=true->f (a*n+c)=true
def entP (f:Nat->Bool)(g h:Nat->Int)(n a b:Nat):Prop :=
 ∃j m:Nat,g (a*n+b)=j/\h (a*n+b)=m/\j<n/\m<n/\isJoinP f n a b j/\isMeetP f n a b m
structure ValidP (N:Int)(n1 n2 n3:Nat)(f:Nat->Bool)(g h:Nat->Int)(bot top:Int)(n bt tp:Nat):Prop where
 hN:N=n
 h1:1<=n
 h32:n<=32
 l1:n1=n*n
 l2:n2=n*n
 l3:n3=n*n
 hb:bot=bt
 ht:top=tp
 bb:bt<n
 tt:tp<n
 rows:∀a,a<n->rowP f n bt tp a
 ents:∀a,a<n->∀b,b<n->entP f g h n a b
def Valid (N:Int)(n1 n2 n3:Nat)(f:Nat->Bool)(g h:Nat->Int)(bot top:Int):Prop:=∃n bt tp,ValidP N n1 n2 n3 f g h bot top n bt tp
theorem q6h {V:Bool}{p:Prop}(hV:V=true ↔ p)(h:¬ p):V=false:=by
 cases V
 . rfl
 . exact absurd (hV.1 rfl) h
theorem q64 (n:Nat)(g d:Nat->Nat)(w:World)(hn:n<=32)(hg:∀a,a<32->g a<4294967296)(hd:∀a,a<32->d a<4294967296)(V:Bool)(hV:V=true ↔ ∃a,a<n/\¬ commonN (g a) (d a)=2 ^ a) :
 Calls Tryz.prog 117 #[J9 n,.agg (us g).toArray,.agg (us d).toArray] w fun e w'=>e=.returned (.bool V)/\Below w.heap.size w w':=by
 have HV:=h_ hV;clear hV
 have B0:=(Blk.new w 126 (us g).toArray).alloc (.cells (us d).toArray 126)
 have B1:=Blk.new (w.alloc (.cells (us g).toArray 126)) 126 (us d).toArray
 have BW:Below w.heap.size w ((w.alloc (.cells (us g).toArray 126)).alloc (.cells (us d).toArray 126)):=((bR _ _).alloc (nR _) _).alloc (by simp) _
 simp only[Yv]at B1
 have H0:=h_ B0;have H1:=h_ B1;have HW:=h_ BW;clear B0 B1 BW
 go_enter Tryz.func117,Tryz.ntmps117
 go_wp2_with fail
 go_loopw [9] (fun i wr=>∃k:Nat,k<=n/\i=J9 k/\(∀a,a<k->commonN (g a) (d a)=2 ^ a)/\Blk wr w.heap.size 126 (us g)/\Blk wr (w.heap.size+1) 126 (us d)/\Below w.heap.size w wr) (fun i _=>n - (intOf i).toNat)
 case atStart=>exact⟨0,nZ _,rfl,fun a h=>absurd h (nL _),H0.u,H1.u,HW.u⟩
 case round =>
  clear H0 H1 HW;obtain⟨k,hk,rfl,hall,b0,b1,bw⟩:=hrel;have HA:=h_ hall;clear hall;by_cases hlt:k<n
  . have k32:k<32:=by omega
    have c0:=b0.cell k;have c1:=b1.cell k;rw[us_get _ k32]at c0 c1;have l1:=b1.lt;have g1:=hg k k32;have d1:=hd k k32;have k0i:(0:Int)<=k:=(by omega);have k1i:(k:Int)<32:=(by omega);have he:=fun (a b:Int) w=>eq_set 9998 a b w;have H0:=h_ b0;have H1:=h_ b1;have HW:=h_ bw;clear b0 b1 bw;cases hz:((commonN (g k) (d k):Nat)==(2 ^ k:Nat))
    . have hz':(((commonN (g k) (d k):Nat):Int)==2 ^ k)=false:=by
       rw[show(2:Int) ^ k=((2 ^ k:Nat):Int) by simp];simp at hz⊢;exact_mod_cast hz
      have HT:Hi (V=true):=HV.u.2 ⟨k,hlt,by simpa using hz⟩;go_wp2_with fail
      go_region_with (first | (go_at_call 151;refine(q6o _ _ _ g1 d1).mono ?_;rintro e w' ⟨rfl,hb⟩;replace hb:Hi (Below wr.heap.size wr w'):=⟨hb.os,hb.tape,hb.output,hb.size,hb.block⟩) | (go_at_call 123;refine(qic _ _ k32).mono ?_;rintro e w' ⟨rfl,rfl⟩))
      all_goals
       have hq:=‹Hi (Below wr.heap.size wr _)›;go_wp2;go_ret;exact⟨qe9 HT.u.symm,(HW.u.trans (hq.u.mono HW.u.size)).alloc (by have:=hq.u.size;have:=HW.u.size;omega) _⟩
    . have hz':(((commonN (g k) (d k):Nat):Int)==2 ^ k)=true:=by
       rw[show(2:Int) ^ k=((2 ^ k:Nat):Int) by simp];simp at hz⊢;exact_mod_cast hz
      have HS:Hi (∀a,a<k+1->commonN (g a) (d a)=2 ^ a):=qbs (f:=fun a=>commonN (g a) (d a)) (g:=fun a=>2 ^ a) HA.u (by simpa using hz);go_wp2_with fail
      go_region_with (first | (go_at_call 151;refine(q6o _ _ _ g1 d1).mono ?_;rintro e w' ⟨rfl,hb⟩;replace hb:Hi (Below wr.heap.size wr w'):=⟨hb.os,hb.tape,hb.output,hb.size,hb.block⟩) | (go_at_call 123;refine(qic _ _ k32).mono ?_;rintro e w' ⟨rfl,rfl⟩))
      all_goals
       have hq:=‹Hi (Below wr.heap.size wr _)›;go_wp2;go_roundw
       case rel=>exact⟨k+1,by omega,by go_num,HS.u,(H0.u.mono hq.u H0.u.lt).alloc _,(H1.u.mono hq.u H1.u.lt).alloc _,(HW.u.trans (hq.u.mono HW.u.size)).alloc (by have:=hq.u.size;have:=HW.u.size;omega) _⟩
       case measure=>simp[intOf];omega
  . have HF:Hi (V=false):=q6h HV.u fun⟨a,ha,hne⟩=>hne (HA.u a (by omega))
    clear b0 b1;have HW:=h_ bw;clear bw;go_wp2;go_ret;exact⟨qe9 HF.u.symm,HW.u⟩
def zeroL:Value:=.agg #[.int .i64 0,.slice none 0 0,.slice none 0 0,.slice none 0 0,.int .i64 0,.int .i64 0]
def LatOut (n:Nat)(g d:Nat->Nat)(R:Nat->Nat->Bool)(B:Nat)(e:Ending)(w':World):Prop :=
 ((∃a,a<n/\¬ commonN (g a) (d a)=2 ^ a)/\e=.returned (.tuple #[zeroL,J9 2])) ∨
 ((∀a,a<n->commonN (g a) (d a)=2 ^ a)/\(∃a b,a<n/\b<n/\Entry g a b (-1))/\e=.returned (.tuple #[zeroL,J9 3])) ∨
 ((∀a,a<n->commonN (g a) (d a)=2 ^ a)/\(∃a b,a<n/\b<n/\Entry d a b (-1))/\(∃F:Nat->Int,∀a,a<n->∀b,b<n->0<=F (a*n+b)/\Entry g a b (F (a*n+b)))/\e=.returned (.tuple #[zeroL,J9 4])) ∨
 ((∀a,a<n->commonN (g a) (d a)=2 ^ a)/\∃G1 G2 G3 F1 F2 bot top,e=.returned (.tuple #[.agg #[J9 n,.slice (some ⟨G1,0,none⟩) (n*n) (n*n),.slice (some ⟨G2,0,none⟩) (n*n) (n*n),.slice (some ⟨G3,0,none⟩) (n*n) (n*n),J9 bot,J9 top],J9 0]) /\
  Blk w' G1 4 (bs (n*n) (tabB n R))/\Blk w' G2 3 (is (n*n) F1)/\Blk w' G3 3 (is (n*n) F2)/\B<=G1/\B<=G2/\B<=G3/\G1≠G2/\G1≠G3/\G2≠G3 /\
  (∀a,a<n->∀b,b<n->0<=F1 (a*n+b)/\Entry g a b (F1 (a*n+b)))/\(∀a,a<n->∀b,b<n->0<=F2 (a*n+b)/\Entry d a b (F2 (a*n+b)))/\Least g (2 ^ n - 1) bot/\Least d (2 ^ n - 1) top)
theorem qfh (c:Array Value)(h:c.toList=us fun _=>0)(w:World):Blk (w.alloc (.cells c 126)) w.heap.size 126 (us fun _=>0):=h ▸ Blk.new w 126 c
theorem six {w:World}{b:Nat}{t:TypeId}{v0 v1 v2 v3 v4 v5:Value}(h:Blk w b t [v0,v1,v2,v3,v4,v5]) :
 (w.cell? ⟨b,0,none⟩=some v0/\w.cell? ⟨b,1,none⟩=some v1/\w.cell? ⟨b,2,none⟩=some v2/\w.cell? ⟨b,3,none⟩=some v3/\w.cell? ⟨b,4,none⟩=some v4/\w.cell? ⟨b,5,none⟩=some v5) /\
 (w.frozen? ⟨b,0,none⟩=false/\w.frozen? ⟨b,1,none⟩=false/\w.frozen? ⟨b,2,none⟩=false/\w.frozen? ⟨b,3,none⟩=false/\w.frozen? ⟨b,4,none⟩=false/\w.frozen? ⟨b,5,none⟩=false) :=
 ⟨⟨h.cell 0,h.cell 1,h.cell 2,h.cell 3,h.cell 4,h.cell 5⟩,h.free 0,h.free 1,h.free 2,h.free 3,h.free 4,h.free 5⟩
theorem all_lt {n:Nat}(hn:n<=32):2 ^ n - 1<4294967296:=by
 have:2 ^ n<=2 ^ 32:=Z9 (by omega) hn
 omega
def Hold (w':World)(B D A:Nat)(g d:Nat->Nat)(s:Nat):Prop:=Blk w' B 126 (us g)/\Blk w' D 126 (us d)/\Tab w'/\w'.rangeAt B 0 (us g)/\w'.rangeAt D 0 (us d)/\w'.cell? ⟨A,0,none⟩=some (.int .u32 (s:Int))/\A<w'.heap.size
theorem Hold.mono {w w':World}{B D A s:Nat}{g d:Nat->Nat}(h:Hold w B D A g d s)(hb:Below w.heap.size w w'):Hold w' B D A g d s :=
 have h0:=h.1.mono hb h.1.lt
 have h1:=h.2.1.mono hb h.2.1.lt
 ⟨h0,h1,h.2.2.1.mono hb,h0.range,h1.range,(hb.cell (p:=⟨A,0,none⟩) h.2.2.2.2.2.2).trans h.2.2.2.2.2.1,Y7 h.2.2.2.2.2.2 hb.size⟩
theorem Hold.set {w:World}{B D A s O j:Nat}{g d:Nat->Nat}{v:Value}(h:Hold w B D A g d s)(hB:B≠O)(hD:D≠O)(hA:A≠O)(h0:1≠O):Hold (w.setCell ⟨O,j,none⟩ v) B D A g d s :=
 have e0:=h.1.other (a:=⟨O,j,none⟩) v hB
 have e1:=h.2.1.other (a:=⟨O,j,none⟩) v hD
 ⟨e0,e1,h.2.2.1.at0 (heap_setCell_other _ _ _ _ h0),e0.range,e1.range,(World.cell?_of_block (heap_setCell_other _ _ _ _ hA)).trans h.2.2.2.2.2.1,by simpa using h.2.2.2.2.2.2⟩
theorem q2p (n:Nat)(g:Nat->Nat)(R:Nat->Nat->Bool)(w:World)(h1:1<=n)(hn:n<=32)(hg:IsRel g R)(ht:Tab w) :
 Calls Tryz.prog 81 #[J9 n,.agg (us g).toArray] w fun e w'=>Below w.heap.size w w'/\∃d,IsRel d (fun b a=>decide (a<n)&&R a b)/\LatOut n g d R w.heap.size e w':=by
 have hgL:∀a,a<32->g a<4294967296:=fun a ha=>(hg a ha).1
 have B0:=(Blk.new w 126 (us g).toArray).alloc (.cells Jd 35)
 have B1:=Blk.new (w.alloc (.cells (us g).toArray 126)) 35 Jd
 have BW:Below w.heap.size w ((w.alloc (.cells (us g).toArray 126)).alloc (.cells Jd 35)):=((bR _ _).alloc (nR _) _).alloc (by simp) _
 have BT:=ht.mono BW
 simp only[Yv]at B1
 have H0:=h_ B0;have H1:=h_ B1;have HW:=h_ BW;have HT:=h_ BT;clear B0 B1 BW BT
 go_enter Tryz.func81,Tryz.ntmps81
 go_wp2_with (refine q0q rfl _ rfl w.heap.size g rfl H0.u ?_)
 refine(q8n g R n _ hn hg HT.u).mono ?_
 rintro e w1 ⟨d,rfl,hd,hb1⟩
 have hdL:∀a,a<32->d a<4294967296:=fun a ha=>(hd a ha).1
 replace H0:=mB H0 hb1;replace H1:=mB H1 hb1;replace HW:=mT HW hb1;replace HT:=h_ (HT.u.mono hb1)
 clear hb1
 go_wp2_with (first | (refine q0i rfl _ _ rfl w1.heap.size (fun _=>0) d rfl rfl (qfh _ rfl _) ?_;intro w2 hD hgr hsz;have hbb:Below w1.heap.size w1 w2:=((bR _ w1).alloc (nR _) _).grown hgr (by simp) (fun k e=>by cases e;exact nR _);have X0:=mB H0 hbb;have X1:=mB H1 hbb;have XW:=mT HW hbb;have XT:=h_ (HT.u.mono hbb);have XD:=h_ hD;clear hD hgr hsz hbb) | (refine q0q rfl _ rfl w.heap.size g rfl X0.u ?_) | (refine q0q rfl _ rfl w1.heap.size d rfl XD.u ?_))
 by_cases htw:∃a,a<n/\¬ commonN (g a) (d a)=2 ^ a
 . refine(q64 n g d _ hn hgL hdL true ⟨fun _=>htw,fun _=>rfl⟩).mono ?_
   rintro e w3 ⟨rfl,hb3⟩;have HTW:=h_ htw;clear htw;have Y0:=mB X0 hb3;have Y1:=mB X1 hb3;have YW:=h_ (XW.u.trans (hb3.mono XW.u.size));have YT:=h_ (XT.u.mono hb3);have YD:=mB XD hb3;clear hb3 X0 X1 XW XT XD;obtain⟨⟨r0,r1,r2,r3,r4,r5⟩,q0,q1,q2,q3,q4,q5⟩:=six Y1.u;go_wp2;refine bodyPost_ret (v:=.tuple #[zeroL,J9 2]) (by simp[results,Tryz.results81,go_sem,zeroL, *]) rfl ⟨?_,d,hd,.inl ⟨HTW.u,rfl⟩⟩
   iterate 6 refine Below.setCell ?_ (by simp <;> omega) _
   exact YW.u
 refine(q64 n g d _ hn hgL hdL false ⟨(fun h=>by cases h),fun h=>absurd h htw⟩).mono ?_
 rintro e w3 ⟨rfl,hb3⟩
 have HTW:Hi (∀a,a<n->commonN (g a) (d a)=2 ^ a):=fun a ha=>Classical.byContradiction fun h=>htw ⟨a,ha,h⟩
 clear htw
 have Y0:=mB X0 hb3;have Y1:=mB X1 hb3;have YW:=h_ (XW.u.trans (hb3.mono XW.u.size));have YT:=h_ (XT.u.mono hb3);have YD:=mB XD hb3
 clear hb3 X0 X1 XW XT XD
 go_wp2_with (refine q0q rfl _ rfl w.heap.size g rfl Y0.u ?_)
 refine(q6i n g _ h1 hn hgL YT.u).mono ?_
 rintro e w4 ⟨hb4,(⟨G2,F1,rfl,hG2,hG2b,hF1⟩ | ⟨rfl,hx⟩)⟩
 rotate_left
 . have HX:=h_ hx;clear hx
   have Z0:=mB Y0 hb4;have Z1:=mB Y1 hb4;have ZW:=h_ (YW.u.trans (hb4.mono YW.u.size));have ZT:=h_ (YT.u.mono hb4);have ZD:=mB YD hb4;clear hb4 Y0 Y1 YW YT YD;obtain⟨⟨r0,r1,r2,r3,r4,r5⟩,q0,q1,q2,q3,q4,q5⟩:=six Z1.u;go_wp2;refine bodyPost_ret (v:=.tuple #[zeroL,J9 3]) (by simp[results,Tryz.results81,go_sem,zeroL, *]) rfl ⟨?_,d,hd,.inr (.inl ⟨HTW.u,HX.u,rfl⟩)⟩
   iterate 6 refine Below.setCell ?_ (by simp <;> omega) _
   exact ZW.u
 have Z0:=mB Y0 hb4;have Z1:=mB Y1 hb4;have ZW:=h_ (YW.u.trans (hb4.mono YW.u.size));have ZT:=h_ (YT.u.mono hb4);have ZD:=mB YD hb4
 have g2:=Ys YW.u.size hG2b
 clear hb4 Y0 Y1 YW YT YD hG2b
 have HG2:=h_ hG2;have HF1:=h_ hF1;clear hG2 hF1
 go_wp2_with (refine q0q rfl _ rfl w1.heap.size d rfl ZD.u ?_)
 refine(q6i n d _ h1 hn hdL ZT.u).mono ?_
 rintro e w5 ⟨hb5,(⟨G3,F2,rfl,hG3,hG3b,hF2⟩ | ⟨rfl,hx⟩)⟩
 rotate_left
 . have HX:=h_ hx;clear hx
   have U0:=mB Z0 hb5;have U1:=mB Z1 hb5;have UW:=h_ (ZW.u.trans (hb5.mono ZW.u.size));have UT:=h_ (ZT.u.mono hb5);have UD:=mB ZD hb5;clear hb5 Z0 Z1 ZW ZT ZD;obtain⟨⟨r0,r1,r2,r3,r4,r5⟩,q0,q1,q2,q3,q4,q5⟩:=six U1.u;go_wp2;refine bodyPost_ret (v:=.tuple #[zeroL,J9 4]) (by simp[results,Tryz.results81,go_sem,zeroL, *]) rfl ⟨?_,d,hd,.inr (.inr (.inl ⟨HTW.u,HX.u,⟨F1,HF1.u⟩,rfl⟩))⟩
   iterate 6 refine Below.setCell ?_ (by simp <;> omega) _
   exact UW.u
 have U0:=mB Z0 hb5;have U1:=mB Z1 hb5;have UW:=h_ (ZW.u.trans (hb5.mono ZW.u.size));have UT:=h_ (ZT.u.mono hb5);have UD:=mB ZD hb5
 have g3:=Ys ZW.u.size hG3b
 have g23:G2<G3:=Y7 HG2.u.lt hG3b
 replace HG2:=mB HG2 hb5
 clear hb5 Z0 Z1 ZW ZT ZD hG3b
 have HG3:=h_ hG3;have HF2:=h_ hF2;clear hG3 hF2
 go_wp2_with (go_at_call 119;refine(qfj n _ hn).mono ?_;rintro e w6 ⟨rfl,hb6⟩;have V0:=mB U0 hb6;have V1:=mB U1 hb6;have VW:=h_ (UW.u.trans (hb6.mono UW.u.size));have VT:=h_ (UT.u.mono hb6);have VD:=mB UD hb6;have VG2:=mB HG2 hb6;have VG3:=mB HG3 hb6;clear hb6)
 have bA:=Blk.new w6 124 (#[.int .u32 ((2 ^ n - 1:Nat):Int)])
 have bW:Below w6.heap.size w6 (w6.alloc (.cells (#[.int .u32 ((2 ^ n - 1:Nat):Int)]) 124)):=(bR _ _).alloc (nR _) _
 have S0:Hi (Hold (w6.alloc (.cells (#[.int .u32 ((2 ^ n - 1:Nat):Int)]) 124)) w.heap.size w1.heap.size w6.heap.size g d (2 ^ n - 1)) :=
  have h0:=V0.u.mono bW V0.u.lt;have h1:=VD.u.mono bW VD.u.lt
  ⟨h0,h1,VT.u.mono bW,h0.range,h1.range,bA.cell 0,bA.lt⟩
 have hall:=all_lt hn
 obtain⟨m,hm⟩:=Nq (2 ^ n - 1)
 rw[hm]at hall S0⊢
 rw[hm]at bW
 have HM:=h_ hm
 clear hm bA
 obtain⟨W7,hW7⟩:=Nq (w6.alloc (.cells #[.int .u32 (m:Int)] 124))
 rw[hW7]at S0 bW⊢
 clear hW7
 have Z1:=mB V1 bW;have ZW:=h_ (VW.u.trans (bW.mono VW.u.size))
 have ZG2:=mB VG2 bW;have ZG3:=mB VG3 bW
 have n1:¬ w.heap.size=w.heap.size+1:=by omega
 have n2:w1.heap.size≠w.heap.size+1:=fun e=>by have h:=VD.u;rw[e]at h;have h':=h.symm.trans V1.u;simp at h'
 have n3:w6.heap.size≠w.heap.size+1:=by have:=V1.u.lt;omega
 have n4:¬ 1=w.heap.size+1:=by first | omega | (have:=HT.u.pos;omega) | (have:=ht.pos;omega)
 have n5:G2≠w.heap.size+1:=fun e=>by have h:=VG2.u;rw[e]at h;have h':=h.symm.trans V1.u;simp at h'
 have n6:G3≠w.heap.size+1:=fun e=>by have h:=VG3.u;rw[e]at h;have h':=h.symm.trans V1.u;simp at h'
 have s7:w.heap.size<=W7.heap.size:=ZW.u.size
 have l2:=ZG2.u.lt;have l3:=ZG3.u.lt;have l1:=Z1.u.lt
 clear H0 H1 HW HT U0 U1 UW UT UD HG2 HG3 V0 V1 VW VT VD VG2 VG3 bW
 refine wp_region_held_drew (S:=fun w'=>Hold w' w.heap.size w1.heap.size w6.heap.size g d m) (by kernel_rfl) S0.u (fun zz=>?_)
 refine take (i:=0) (v:=J9 n) 39 rfl rfl (by kernel_rfl) (by kernel_rfl) (by kernel_rfl) (fun _ _ _ _ h=>h) (by exact q68 (by rfl) (.tmp 0) _ rfl rfl) zz ?_
 simp only[sX,sY,sZ]
 refine take (i:=2) (v:=J9 n) 41 rfl rfl (by kernel_rfl) (by kernel_rfl) (by kernel_rfl) (fun _ _ _ _ h=>h) (by exact q68 (by rfl) (.tmp 0) _ rfl rfl) zz ?_
 simp only[sX,sY,sZ]
 refine take (i:=4) (v:=.slice (some ⟨G2,0,none⟩) (n*n) (n*n)) 43 rfl rfl (by kernel_rfl) (by kernel_rfl) (by kernel_rfl) (fun _ _ _ _ h=>h) (by exact q68 (by rfl) (.tmp 7) _ rfl rfl) zz ?_
 simp only[sX,sY,sZ]
 refine take (i:=5) (v:=.slice (some ⟨G3,0,none⟩) (n*n) (n*n)) 44 rfl rfl (by kernel_rfl) (by kernel_rfl) (by kernel_rfl) (fun _ _ _ _ h=>h) (by exact q68 (by rfl) (.tmp 9) _ rfl rfl) zz ?_
 simp only[sX,sY,sZ]
 refine take (i:=1) (v:=.agg (us g).toArray) 40 rfl rfl (by kernel_rfl) (by kernel_rfl) (by kernel_rfl) (fun _ _ _ _ h=>h) (by exact q69 (by rfl) (.tmp 3) rfl w.heap.size g rfl (fun _ h=>h.1)) zz ?_
 simp only[sX,sY,sZ]
 refine take (i:=6) (v:=.agg (us g).toArray) 45 rfl rfl (by kernel_rfl) (by kernel_rfl) (by kernel_rfl) (fun _ _ _ _ h=>h) (by exact q69 (by rfl) (.tmp 3) rfl w.heap.size g rfl (fun _ h=>h.1)) zz ?_
 simp only[sX,sY,sZ]
 refine take (i:=9) (v:=.agg (us d).toArray) 48 rfl rfl (by kernel_rfl) (by kernel_rfl) (by kernel_rfl) (fun _ _ _ _ h=>h) (by exact q69 (by rfl) (.tmp 6) rfl w1.heap.size d rfl (fun _ h=>h.2.1)) zz ?_
 simp only[sX,sY,sZ]
 refine take (i:=7) (v:=.agg #[.int .u32 (m:Int)]) 46 rfl rfl (by kernel_rfl) (by kernel_rfl) (by kernel_rfl) (fun _ _ _ _ h=>h) (by exact q8s (by rfl) (.tmp 10) rfl w6.heap.size 0 _ rfl (fun _ h=>h.2.2.2.2.2.1)) zz ?_
 simp only[sX,sY,sZ]
 refine take (i:=10) (v:=.agg #[.int .u32 (m:Int)]) 49 rfl rfl (by kernel_rfl) (by kernel_rfl) (by kernel_rfl) (fun _ _ _ _ h=>h) (by exact q8s (by rfl) (.tmp 10) rfl w6.heap.size 0 _ rfl (fun _ h=>h.2.2.2.2.2.1)) zz ?_
 simp only[sX,sY,sZ]
 refine callH (i:=3) (f:=120) (args:=#[.agg (us g).toArray,J9 n]) (R:=fun v w8=>∃G1,v=.slice (some ⟨G1,0,none⟩) (n*n) (n*n)/\Blk w8 G1 4 (bs (n*n) (tabB n R))/\W7.heap.size<=G1/\Below W7.heap.size W7 w8) 42 rfl rfl (by rfl) (by kernel_rfl) ?hrun1 ((qbl n g R _ h1 hn hg).mono fun e w8 ⟨G1,he,hG1,hG1b,hb8⟩=>⟨_,he,G1,rfl,hG1,hG1b,q28 hb8⟩) ?_
 case hrun1=>simp[execOp,go_sem]
 rintro v w8 ⟨G1,rfl,hG1,hG1b,hb8⟩
 have S1:Hold w8 w.heap.size w1.heap.size w6.heap.size g d m:=S0.u.mono hb8
 refine⟨S1,?_⟩
 simp only[sX,sY,sZ]
 refine callH (i:=8) (f:=121) (args:=#[.agg (us g).toArray,.agg #[.int .u32 (m:Int)]]) (R:=fun v w'=>∃r,v=J9 r/\Least g m r/\Below w8.heap.size w8 w') 47 rfl rfl (by rfl) (by kernel_rfl) ?hrun2 ((q5g g m _ hgL hall S1.2.2.1).mono fun e w' ⟨r,he,hr,hb⟩=>⟨_,he,r,rfl,hr,hb⟩) ?_
 case hrun2=>simp[execOp,go_sem]
 rintro v w9 ⟨bot,rfl,hbot,hb9⟩
 have S2:=S1.mono hb9
 refine⟨S2,?_⟩
 simp only[sX,sY,sZ]
 refine callH (i:=11) (f:=121) (args:=#[.agg (us d).toArray,.agg #[.int .u32 (m:Int)]]) (R:=fun v w'=>∃r,v=J9 r/\Least d m r/\Below w9.heap.size w9 w') 50 rfl rfl (by rfl) (by kernel_rfl) ?hrun3 ((q5g d m _ hdL hall S2.2.2.1).mono fun e w' ⟨r,he,hr,hb⟩=>⟨_,he,r,rfl,hr,hb⟩) ?_
 case hrun3=>simp[execOp,go_sem]
 rintro v w10 ⟨top,rfl,htop,hb10⟩
 have S3:=S2.mono hb10
 refine⟨S3,?_⟩
 simp only[sX,sY,sZ]
 have hb79:Below W7.heap.size W7 w10:=(hb8.trans (hb9.mono hb8.size)).trans (hb10.mono (Ys hb8.size hb9.size))
 have X1:=Z1.u.mono hb79 l1
 obtain⟨⟨r0,r1,r2,r3,r4,r5⟩,q0,q1,q2,q3,q4,q5⟩:=six X1
 refine take (i:=12) (v:=.agg #[J9 n,.slice (some ⟨G1,0,none⟩) (n*n) (n*n),.slice (some ⟨G2,0,none⟩) (n*n) (n*n),.slice (some ⟨G3,0,none⟩) (n*n) (n*n),J9 bot,J9 top]) 51 rfl rfl (by kernel_rfl) (by kernel_rfl) (by kernel_rfl) (fun _ _ _ _ h=>h) (.inl ⟨by rfl,fun w' _=>?build⟩) S3 ?_
 case build=>simp[execOp,go_sem]
 simp only[sX,sY,sZ]
 refine runH (i:=13) rfl (by rfl) (by kernel_rfl) rfl (v:=.skip) (w':=(((((w10.setCell ⟨w.heap.size+1,0,none⟩ (J9 n)).setCell ⟨w.heap.size+1,1,none⟩ (.slice (some ⟨G1,0,none⟩) (n*n) (n*n))).setCell ⟨w.heap.size+1,2,none⟩ (.slice (some ⟨G2,0,none⟩) (n*n) (n*n))).setCell ⟨w.heap.size+1,3,none⟩ (.slice (some ⟨G3,0,none⟩) (n*n) (n*n))).setCell ⟨w.heap.size+1,4,none⟩ (J9 bot)).setCell ⟨w.heap.size+1,5,none⟩ (J9 top)) ?hrun4 rfl ((((((S3.set n1 n2 n3 n4).set n1 n2 n3 n4).set n1 n2 n3 n4).set n1 n2 n3 n4).set n1 n2 n3 n4).set n1 n2 n3 n4) ?_
 case hrun4=>simp[execOp,go_sem, *]
 have S4:=(((((S3.set (j:=0) (v:=J9 (n:Int)) n1 n2 n3 n4).set (j:=1) (v:=.slice (some ⟨G1,0,none⟩) (n*n) (n*n)) n1 n2 n3 n4).set (j:=2) (v:=.slice (some ⟨G2,0,none⟩) (n*n) (n*n)) n1 n2 n3 n4).set (j:=3) (v:=.slice (some ⟨G3,0,none⟩) (n*n) (n*n)) n1 n2 n3 n4).set (j:=4) (v:=J9 bot) n1 n2 n3 n4).set (j:=5) (v:=J9 top) n1 n2 n3 n4
 refine take (i:=14) (v:=J9 0) 5 rfl rfl (by kernel_rfl) (by kernel_rfl) (by kernel_rfl) (fun _ _ _ _ h=>h) (.inl ⟨by rfl,fun w' _=>?asg⟩) S4 ?_
 case asg=>simp[execOp,go_sem]
 simp only[sX,sY,sZ]
 refine wpAnyH_done (by kernel_rfl) ?_ _
 have XG2:=h_ (ZG2.u.mono hb79 l2);have XG3:=h_ (ZG3.u.mono hb79 l3)
 have XG1:=h_ ((hG1.mono hb9 hG1.lt).mono hb10 (hG1.mono hb9 hG1.lt).lt)
 have XW:=h_ (ZW.u.trans (hb79.mono s7))
 have HBOT:=h_ hbot;have HTOP:=h_ htop
 have n7:G1≠w.heap.size+1:=by omega
 have n8:G1≠G2:=by omega
 have n9:G1≠G3:=by omega
 clear S1 S2 S3 S4 X1 hb8 hb9 hb10 hb79 hG1 hbot htop zz
 go_wp2
 refine bodyPost_ret (v:=.tuple #[.agg #[J9 n,.slice (some ⟨G1,0,none⟩) (n*n) (n*n),.slice (some ⟨G2,0,none⟩) (n*n) (n*n),.slice (some ⟨G3,0,none⟩) (n*n) (n*n),J9 bot,J9 top],J9 0]) (by simp[results,Tryz.results81,go_sem, *]) rfl ⟨?_,d,hd,.inr (.inr (.inr ⟨HTW.u,G1,G2,G3,F1,F2,bot,top,rfl,?_,?_,?_,by omega,g2,g3,n8,n9,by omega,HF1.u,HF2.u,by rw[HM.u];exact HBOT.u,by rw[HM.u];exact HTOP.u⟩))⟩
 . iterate 6 refine Below.setCell ?_ (by simp <;> omega) _
   exact XW.u
 . iterate 6 refine Blk.other ?_ _ (by simp <;> omega)
   exact XG1.u
 . iterate 6 refine Blk.other ?_ _ (by simp <;> omega)
   exact XG2.u
 . iterate 6 refine Blk.other ?_ _ (by simp <;> omega)
   exact XG3.u
theorem q6j {n:Nat}{l:List Int}(h:n<l.length):bysOk n l=false:=by
 cases e:bysOk n l
 . rfl
 . have:=q93 e;omega
theorem q00 (a:Option Addr)(c:Nat)(l:List Int)(n:Nat)(w:World)(hl:l.length<=9223372036854775807)(hcap:l.length<=c)(ha:IntL w a l) :
 Calls Tryz.prog 168 #[.slice a l.length c,J9 n] w fun r w'=>r=.returned (.bool (bysOk n l))/\Below w.heap.size w w':=by
 by_cases hn:n<l.length
 . rw[q6j hn]
   have hn':(n:Int)<l.length:=by omega
   go_enter Tryz.func168,Tryz.ntmps168;go_wp2_with fail;go_ret;exact⟨rfl,bR _ _⟩
 . have hn':¬ (n:Int)<l.length:=by omega
   have HA:=h_ ha;obtain⟨q,hq⟩:=Nq (bysOk n l);rw[hq];have HQ:=h_ hq;clear ha hq hn;go_enter Tryz.func168,Tryz.ntmps168;go_wp2_with fail;clear hn';go_loopw [13] (fun i wr=>∃k:Nat,k<=l.length/\i=J9 k/\(∀j (h:j<l.length),j<k->inR n l[j]=true/\∀i (hi:i<j),l[j]≠l[i])/\Below w.heap.size w wr) (fun i _=>l.length - (intOf i).toNat)
   case atStart=>exact⟨0,nZ _,rfl,fun j _ hj=>absurd hj (nL _),bR _ _⟩
   case round =>
    obtain⟨k,hk,rfl,hall,hb⟩:=hrel;have HL:=h_ hall;have HB:=h_ hb;replace HA:=h_ (HA.u.mono hb);clear hall hb;by_cases hlt:k<l.length
    . have hlt':(k:Int)<l.length:=by omega
      obtain⟨b,o,rfl,hbl,z0⟩:=HA.u k hlt;dsimp only at z0;have hget:l.getD k 0=l[k]:=(by rw[Yl,Yj hlt];rfl);rw[hget]at z0;have hcc:(k:Int)<=c:=(by omega);have HC:Hi (∀x,Calls Tryz.prog 181 #[.slice (some ⟨b,o,none⟩) k c,J9 x] wr fun e w'=>e=.returned (.bool ((l.take k).contains x))/\w'=wr):=h_ fun x=>Tryz.slices_Contains_int b o k c l x wr (by omega) (by omega) (fun j hj=>by
       obtain⟨b',o',e,-,hc⟩:=HA.u j hj;cases e;exact hc)
      have HX:Hi (inR n l[k]=false->q=false):=h_ fun h=>by rw[<- HQ.u,q92 hlt h]
      have HT:Hi ((l.take k).contains l[k]=true->q=false):=h_ fun h=>by
       rw[List.contains_iff_mem]at h;obtain⟨j,hj,e⟩:=Y2.1 h;rw[Y3]at hj;rw[List.getElem_take]at e;rw[<- HQ.u,q4l hlt (show j<k by omega) e.symm]
      have HG:Hi (inR n l[k]=true->(l.take k).contains l[k]=false->∀j (h:j<l.length),j<k+1->inR n l[j]=true/\∀i (hi:i<j),l[j]≠l[i]):=h_ fun h1 h2 j hj hjk=>by
       by_cases ej:j=k
       . subst ej
         refine⟨h1,fun i hi e=>?_⟩;have:(l.take j).contains l[j]=true:=List.contains_iff_mem.2 (by rw[e];exact Y2.2 ⟨i,by rw[Y3];omega,by rw[List.getElem_take]⟩);rw[this]at h2;cases h2
       . exact HL.u j hj (by omega)
      have hinr:inR n l[k]=decide (0<=l[k]/\l[k]<n):=rfl;clear hget;generalize l[k]=x at *;replace HC:=h_ (HC.u x);generalize (l.take k).contains x=t at *;generalize inR n x=g at *;by_cases hneg:x<0
      . have HX2:Hi (q=false):=h_ (HX.u (by rw[hinr,Yi (by omega)]))
        clear hinr;go_wp2_with fail;go_ret;exact⟨qe9 HX2.u.symm,HB.u⟩
      by_cases hbig:(n:Int)<=x
      . have HX2:Hi (q=false):=h_ (HX.u (by rw[hinr,Yi (by omega)]))
        clear hinr;go_wp2_with fail;go_ret;exact⟨qe9 HX2.u.symm,HB.u⟩
      have HI:Hi (g=true):=h_ (by rw[hinr,Ym (by omega)]);clear hinr;go_wp2_with fail;refine HC.u.mono ?_;rintro e w1 ⟨rfl,hw⟩;replace hw:=hw.symm;subst hw;cases t
      . have HG2:=h_ (HG.u HI.u rfl)
        go_wp2_with fail;go_roundw
        case rel=>first | exact⟨k+1,by omega,by go_num,HG2.u,HB.u⟩ | ((repeat apply Exists.intro);exact⟨⟨k+1,by omega,by go_num,HG2.u,HB.u⟩,rfl⟩)
        case measure=>simp[intOf];omega
      . have HX2:=h_ (HT.u rfl)
        go_wp2_with fail;go_ret;exact⟨qe9 HX2.u.symm,HB.u⟩
    . obtain rfl:k=l.length:=by omega
      have hlt':¬ (l.length:Int)<(l.length:Int):=(by omega);have HX:Hi (q=true):=h_ (by
       rw[<- HQ.u];exact q94 (fun k h=>(HL.u k h h).1) (fun k h j hj=>(HL.u k h h).2 j hj))
      go_wp2_with fail;go_ret;exact⟨qe9 HX.u.symm,HB.u⟩
theorem q72 (a:Option Addr)(c:Nat)(l:List Nx)(w:World)(hm:l.length<=9223372036854775807)(ha:NodL w a l)(hf:∀k,k<l.length->Fit (nf l k))(hw:Wrds w)(hp:Pow w) :
 Calls Tryz.prog 183 #[.slice a l.length c] w fun r w'=>r=.returned (.bool (vxL l))/\Below w.heap.size w w':=by
 have HC:=h_ (q5u a l.length c (nf l) w hm ha hf hw hp)
 obtain⟨t,ht⟩:=Nq ((if vxB (nf l) l.length then (top (nf l) l.length).t else ⟨#[]⟩))
 obtain⟨q,hq⟩:=Nq (vxB (nf l) l.length)
 rw[ht,hq]at HC
 rw[show vxL l=q from hq]
 clear ht hq ha hf hw hp
 go_enter Tryz.func183,Tryz.ntmps183
 go_wp2_with fail
 refine HC.u.mono ?_
 rintro x w1 ⟨rfl,hb⟩
 have HB:=h_ hb
 clear hb HC
 go_wp2_with fail
 go_ret
 exact⟨rfl,HB.u⟩
theorem q5y (f:Fl)(A:FA)(w:World) :
 Calls Tryz.prog 84 #[fV f A] w fun r w'=>r=.returned (.agg #[.slice A.i f.is.length A.ic,.slice A.h f.wh.length A.hc,.slice A.v f.va.length A.vc,.slice A.u f.mu.length A.uc])/\Below w.heap.size w w':=by
 obtain⟨ab,abc,ai,aic,ah,ahc,av,avc,au,auc⟩:=A
 unfold fV
 dsimp only
 go_enter Tryz.func84,Tryz.ntmps84
 go_wp2_with fail
 exact bodyPost_ret (v:=.agg #[.slice ai f.is.length aic,.slice ah f.wh.length ahc,.slice av f.va.length avc,.slice au f.mu.length auc]) (by simp[results,Tryz.results84,go_sem]) rfl ⟨rfl,((bR _ _).alloc (nR _) _).alloc (by simp) _⟩
def ruleAt (f:Fl)(k:Nat):List Nx:=if k=0 then f.is else if k=1 then f.wh else if k=2 then f.va else f.mu
structure Tabs (w:World):Prop where
 ws:Wrds w
 pw:Pow w
theorem Tabs.mono {w w':World}(h:Tabs w)(hb:Below w.heap.size w w'):Tabs w':=⟨h.ws.mono hb,h.pw.mono hb⟩
theorem q0a (f:Fl)(A:FA)(w:World)(hf:FitF f)(ha:FSl w f A)(ht:Tabs w) :
 Calls Tryz.prog 170 #[fV f A] w fun r w'=>r=.returned (.bool (ruleOk f.is&&ruleOk f.wh&&ruleOk f.va&&ruleOk f.mu))/\Below w.heap.size w w':=by
 obtain⟨ab,abc,ai,aic,ah,ahc,av,avc,au,auc⟩:=A
 have HCr:=h_ fun W=>q5y f ⟨ab,abc,ai,aic,ah,ahc,av,avc,au,auc⟩ W
 obtain⟨q,hq⟩:=Nq ((ruleOk f.is&&ruleOk f.wh&&ruleOk f.va&&ruleOk f.mu))
 rw[hq]
 have HQ:=h_ hq
 unfold fV at HCr⊢
 dsimp only at HCr⊢
 have HK:=h_ (Blk.new w 42 (Ja f ab abc ai aic ah ahc av avc au auc))
 have HB:=h_ ((bR w.heap.size w).alloc (nR _) (.cells (Ja f ab abc ai aic ah ahc av avc au auc) 42))
 obtain⟨W0,hW0⟩:=Nq (w.alloc (.cells (Ja f ab abc ai aic ah ahc av avc au auc) 42))
 rw[hW0]at HK HB
 have HS:=h_ (ha.mono HB.u);have HT:=h_ (ht.mono HB.u);have HF:=h_ hf
 clear ha ht hf hq
 obtain⟨y0,y1,y2,y3,y4,y5,y6,y7,y8⟩:=nine HK.u
 go_enter Tryz.func170,Tryz.ntmps170
 go_wp2_with fail
 try rw[hW0]
 refine(HCr.u W0).mono ?_
 rintro r W1 ⟨rfl,hb1⟩
 replace HS:=h_ (HS.u.mono hb1);replace HT:=h_ (HT.u.mono hb1);replace HB:=mT HB hb1
 clear hW0 y0 y1 y2 y3 y4 y5 y6 y7 y8 hb1 HCr HK
 have HR:Hi (∀k:Nat,k<4->∀W,Below W1.heap.size W1 W->∃a c,(∀W',(Instr.index 129 (.agg (#[Value.slice ai f.is.length aic,.slice ah f.wh.length ahc,.slice av f.va.length avc,.slice au f.mu.length auc]:Array Value)) (J9 k)).run Tryz.prog W'=.ok (.slice a (ruleAt f k).length c) W')/\(ruleAt f k).length<=9223372036854775807/\Calls Tryz.prog 183 #[.slice a (ruleAt f k).length c] W fun r w'=>r=.returned (.bool (vxL (ruleAt f k)))/\Below W.heap.size W w'):=h_ fun k hk W hb=>by
  have S:=HS.u.mono hb;have T:=HT.u.mono hb;have F:=HF.u;obtain rfl | rfl | rfl | rfl:k=0∨k=1∨k=2∨k=3:=by omega
  . exact⟨ai,aic,fun W'=>by simp[Instr.index,run_underlying Tryz.underlying129,asIntOf,go_sem,ruleAt],F.il,q72 ai aic f.is W F.il S.i F.i T.ws T.pw⟩
  . exact⟨ah,ahc,fun W'=>by simp[Instr.index,run_underlying Tryz.underlying129,asIntOf,go_sem,ruleAt],F.hl,q72 ah ahc f.wh W F.hl S.h F.h T.ws T.pw⟩
  . exact⟨av,avc,fun W'=>by simp[Instr.index,run_underlying Tryz.underlying129,asIntOf,go_sem,ruleAt],F.vl,q72 av avc f.va W F.vl S.v F.v T.ws T.pw⟩
  . exact⟨au,auc,fun W'=>by simp[Instr.index,run_underlying Tryz.underlying129,asIntOf,go_sem,ruleAt],F.ul,q72 au auc f.mu W F.ul S.u F.u T.ws T.pw⟩
 have HX:Hi (∀k,k<4->ruleOk (ruleAt f k)=false->q=false):=h_ fun k hk h=>by
  rw[<- HQ.u];obtain rfl | rfl | rfl | rfl:k=0∨k=1∨k=2∨k=3:=by omega
  all_goals
   simp only[ruleAt]at h;simp at h;simp[h]
 have HY:Hi ((∀k,k<4->ruleOk (ruleAt f k)=true)->q=true):=h_ fun h=>by
  rw[<- HQ.u,show ruleOk f.is=true from h 0 (by omega),show ruleOk f.wh=true from h 1 (by omega),show ruleOk f.va=true from h 2 (by omega),show ruleOk f.mu=true from h 3 (by omega)];rfl
 clear HQ HF HS HT
 obtain⟨rs,hrs⟩:=Nq ((#[Value.slice ai f.is.length aic,.slice ah f.wh.length ahc,.slice av f.va.length avc,.slice au f.mu.length auc]:Array Value))
 rw[hrs]at HR⊢
 clear hrs
 go_wp2_with fail
 go_loopw [7] (fun i wr=>∃k:Nat,k<=4/\i=J9 k/\(∀j,j<k->ruleOk (ruleAt f j)=true)/\Below W1.heap.size W1 wr) (fun i _=>4 - (intOf i).toNat)
 case atStart=>exact⟨0,by omega,rfl,fun j hj=>absurd hj (nL _),bR _ _⟩
 case round =>
  obtain⟨k,hk,rfl,hall,hb⟩:=hrel;have HL:=h_ hall;have HB1:=h_ hb;clear hall hb;by_cases hlt:k<4
  . have hlt':(k:Int)<4:=by omega
    obtain⟨a,c,hget,hlen,hC⟩:=HR.u k hlt wr HB1.u;have HC:=h_ hC;have HF1:Hi (ruleOk (ruleAt f k)=false->q=false):=h_ (HX.u k hlt);have HG1:Hi (ruleOk (ruleAt f k)=true->∀j,j<k+1->ruleOk (ruleAt f j)=true):=h_ fun h j hj=>by
     by_cases ej:j=k
     . subst ej;exact h
     . exact HL.u j (by omega)
    have hro:ruleOk (ruleAt f k)=(decide ((ruleAt f k).length=0)||vxL (ruleAt f k)):=rfl;generalize ruleAt f k=l at *;generalize vxL l=v at *;generalize ruleOk l=ro at *;clear hC;by_cases h0:l.length=0
    . have h0':¬ (0:Int)<l.length:=by omega
      have HG2:=h_ (HG1.u (by rw[hro,h0];rfl));clear hro h0;go_wp2_with fail;go_roundw
      case rel=>first | exact⟨k+1,by omega,by go_num,HG2.u,HB1.u⟩ | ((repeat apply Exists.intro);exact⟨⟨k+1,by omega,by go_num,HG2.u,HB1.u⟩,rfl⟩)
      case measure=>simp[intOf];omega
    . have h0':(0:Int)<l.length:=by omega
      replace hro:ro=v:=(by rw[hro,Yi h0,Bool.false_or]);subst hro;clear h0;go_wp2_with fail;refine HC.u.mono ?_;rintro e W2 ⟨rfl,hb2⟩;have HB2:=mT HB1 hb2;clear hb2 hget;cases ro
      . have HX2:=h_ (HF1.u rfl)
        go_wp2_with fail;go_ret;exact⟨qe9 HX2.u.symm,HB.u.trans (HB2.u.mono HB.u.size)⟩
      . have HG2:=h_ (HG1.u rfl)
        go_wp2_with fail;go_roundw
        case rel=>first | exact⟨k+1,by omega,by go_num,HG2.u,HB2.u⟩ | ((repeat apply Exists.intro);exact⟨⟨k+1,by omega,by go_num,HG2.u,HB2.u⟩,rfl⟩)
        case measure=>simp[intOf];omega
  . obtain rfl:k=4:=by omega
    have HX2:Hi (q=true):=h_ (HY.u HL.u);go_wp2_with fail;go_ret;exact⟨qe9 HX2.u.symm,HB.u.trans (HB1.u.mono HB.u.size)⟩
theorem q0l (f:Fl)(A:FA)(nl nr:Nat)(w:World)(hf:FitF f)(hcap:f.bys.length<=A.bc)(ha:FSl w f A)(ht:Tabs w) :
 Calls Tryz.prog 143 #[fV f A,J9 nl,J9 nr] w fun r w'=>r=.returned (.bool (fieldOk nl nr f))/\Below w.heap.size w w':=by
 obtain⟨ab,abc,ai,aic,ah,ahc,av,avc,au,auc⟩:=A
 have hfo:=q6x nl nr f
 have HCv:=h_ fun W (hs:FSl W f ⟨ab,abc,ai,aic,ah,ahc,av,avc,au,auc⟩) (ht:Tabs W)=>q0a f ⟨ab,abc,ai,aic,ah,ahc,av,avc,au,auc⟩ W hf hs ht
 unfold fV at HCv⊢
 dsimp only at hcap HCv⊢
 have HK:=h_ (Blk.new w 42 (Ja f ab abc ai aic ah ahc av avc au auc))
 have HB:=h_ ((bR w.heap.size w).alloc (nR _) (.cells (Ja f ab abc ai aic ah ahc av avc au auc) 42))
 obtain⟨W0,hW0⟩:=Nq (w.alloc (.cells (Ja f ab abc ai aic ah ahc av avc au auc) 42))
 rw[hW0]at HK HB
 have HS:=h_ (ha.mono HB.u);have HT:=h_ (ht.mono HB.u);have HF:=h_ hf
 have hbl:=hf.bl;have hil:=hf.il;have hvl:=hf.vl;have hsy:=hf.sy
 obtain⟨q,hq⟩:=Nq (fieldOk nl nr f)
 rw[hq]at hfo⊢
 clear ha ht hf hq
 obtain⟨y0,y1,y2,y3,y4,y5,y6,y7,y8⟩:=nine HK.u
 by_cases h1:f.ty<1
 . have HX:Hi (q=false):=h_ (by rw[hfo,Yi (by omega)];rfl)
   clear hfo;go_enter Tryz.func143,Tryz.ntmps143;go_wp2_with fail;go_ret;exact⟨qe9 HX.u.symm,HB.u⟩
 by_cases h2:3<f.ty
 . have HX:Hi (q=false):=h_ (by rw[hfo,Yi (by omega)];rfl)
   clear hfo;go_enter Tryz.func143,Tryz.ntmps143;go_wp2_with fail;go_ret;exact⟨qe9 HX.u.symm,HB.u⟩
 rw[Ym (show 1<=f.ty/\f.ty<=3 by omega),Zc]at hfo
 have HCl:=h_ (q74 f.lb nl W0)
 have hlab:(f.lb = -1/\decide (-1<=f.lb/\f.lb<nl)=true)∨(f.lb≠-1/\decide (-1<=f.lb/\f.lb<nl)=inR nl f.lb):=by
  by_cases h:f.lb = -1
  . exact .inl ⟨h,Ym (by omega)⟩
  . exact .inr ⟨h,decide_eq_decide.2 (by omega)⟩
 generalize inR nl f.lb=g at *
 obtain⟨p,hp⟩:=Nq (decide (-1<=f.lb/\f.lb<nl))
 rw[hp]at hfo hlab
 have HQ:=h_ hfo
 clear hfo hp
 have HCb:=h_ (q00 ab abc f.bys nr W0 hbl hcap HS.u.b)
 have hne:(f.sy=⟨#[]⟩) ↔ f.sy.size=0:=⟨fun h=>by rw[h];rfl,fun h=>by
  refine q8j ?_;have:f.sy.data.toList.length=0:=by simpa using h
  rw[Z8.1 this]⟩
 have HNE:=h_ hne
 clear hne hcap
 have hlab2:((f.lb != -1)=false/\(f.lb==-1)=true/\p=true)∨((f.lb != -1)=true/\(f.lb==-1)=false/\p=g):=by
  rcases hlab with ⟨hl,hp⟩ | ⟨hl,hp⟩
  . exact .inl ⟨by rw[hl];rfl,by rw[hl];rfl,hp⟩
  . exact .inr ⟨by simp[hl],by simp[hl],hp⟩
 clear hlab
 have hreg:(¬ (0:Int)<f.bys.length)∨((0:Int)<f.bys.length/\¬ (0:Int)<f.is.length)∨((0:Int)<f.bys.length/\(0:Int)<f.is.length):=by omega
 cases p
 . have HX:Hi (q=false):=h_ (by rw[HQ.u];rfl)
   rcases hlab2 with ⟨hl1,hl2,hp⟩ | ⟨hl1,hl2,hp⟩
   . cases hp
   subst hp;go_enter Tryz.func143,Tryz.ntmps143;go_wp2_with fail
   try rw[hW0]
   refine HCl.u.mono ?_;rintro e W1 ⟨rfl,hw⟩;replace hw:=hw.symm;subst hw;clear hW0;go_wp2_with fail;go_ret;exact⟨qe9 HX.u.symm,HB.u⟩
 rcases hreg with hr1 | ⟨hr1,hr2⟩ | ⟨hr1,hr2⟩
 case' inr.inl =>
  have hr3:¬ 0<f.is.length:=by omega
  have hr4:decide (0<f.is.length)=false:=Yi hr3
 case' inr.inr =>
  have HX:Hi (q=false):=h_ (by rw[HQ.u,Yi (show ¬ (f.is.length=0∨f.bys.length=0) by omega)];simp);have hr3:0<f.is.length:=by omega
  have hr4:decide (0<f.is.length)=true:=Ym hr3;rcases hlab2 with ⟨hl1,hl2,hp⟩ | ⟨hl1,hl2,hp⟩
  . go_enter Tryz.func143,Tryz.ntmps143
    go_wp2_with fail;go_ret;exact⟨qe9 HX.u.symm,HB.u⟩
  subst hp;go_enter Tryz.func143,Tryz.ntmps143;go_wp2_with fail
  try rw[hW0]
  refine HCl.u.mono ?_;rintro e W1 ⟨rfl,hw⟩;replace hw:=hw.symm;subst hw;clear hW0;go_wp2_with fail;go_ret;exact⟨qe9 HX.u.symm,HB.u⟩
 all_goals
  have HQ2:Hi (q=(bysOk nr f.bys&&okText f.sy&&decide (f.va.length≠0∨f.sy.size=0)&&(ruleOk f.is&&ruleOk f.wh&&ruleOk f.va&&ruleOk f.mu))):=h_ (by rw[HQ.u,Ym (show f.is.length=0∨f.bys.length=0 by omega)];simp[Bool.and_assoc]);clear HQ;rcases hlab2 with ⟨hl1,hl2,hp⟩ | ⟨hl1,hl2,hp⟩
  case' inl =>
   clear hp;go_enter Tryz.func143,Tryz.ntmps143;go_wp2_with fail
   try rw[hW0]
   clear hW0
  case' inr =>
   subst hp;go_enter Tryz.func143,Tryz.ntmps143;go_wp2_with fail
   try rw[hW0]
   refine HCl.u.mono ?_;rintro e W1 ⟨rfl,hw⟩;replace hw:=hw.symm;subst hw;clear hW0;go_wp2_with fail
  all_goals
   refine HCb.u.mono ?_;rintro e W2 ⟨rfl,hb2⟩;replace HK:=mB HK hb2;replace HS:=h_ (HS.u.mono hb2);replace HT:=h_ (HT.u.mono hb2);replace HB:=mT HB hb2;clear hb2 y0 y1 y2 y3 y4 y5 y6 y7 y8 HCb HCl hl1 hl2;obtain⟨y0,y1,y2,y3,y4,y5,y6,y7,y8⟩:=nine HK.u;generalize bysOk nr f.bys=gb at *;cases gb
   . have HX:Hi (q=false):=h_ (by rw[HQ2.u];rfl)
     go_wp2_with fail;go_ret;exact⟨qe9 HX.u.symm,HB.u⟩
   have HCt:=h_ (q78 f.sy W2 hsy);have HCr:=h_ (HCv.u W2 HS.u HT.u);generalize okText f.sy=gt at *;generalize (ruleOk f.is&&ruleOk f.wh&&ruleOk f.va&&ruleOk f.mu)=gr at *;have e0:=empty0 f.sy;have hsp:((¬ f.sy.size=0/\((f.va.length:Int)==0)=true)/\decide (f.va.length≠0∨f.sy.size=0)=false)∨((¬ f.sy.size=0/\((f.va.length:Int)==0)=false)/\decide (f.va.length≠0∨f.sy.size=0)=true)∨(f.sy.size=0/\decide (f.va.length≠0∨f.sy.size=0)=true):=by
    by_cases hs0:f.sy.size=0
    . exact .inr (.inr ⟨hs0,Ym (.inr hs0)⟩)
    . by_cases hv:f.va.length=0
      . exact .inl ⟨⟨hs0,by simp[hv]⟩,Yi (by omega)⟩
      . exact .inr (.inl ⟨⟨hs0,Yf.2 (by omega)⟩,Ym (.inl hv)⟩)
   rcases hsp with ⟨⟨u1,u3⟩,hd⟩ | hsp
   . rw[Yi u1]at e0
     have HX:Hi (q=false):=h_ (by rw[HQ2.u,hd];simp);clear hd u1;go_wp2_with fail;go_ret;exact⟨qe9 HX.u.symm,HB.u⟩
   rcases hsp with ⟨⟨u1,u3⟩,hd⟩ | ⟨u1,hd⟩
   all_goals
    first | rw[Yi u1]at e0 | rw[Ym u1]at e0
    have HQ3:Hi (q=(gt&&gr)):=h_ (by rw[HQ2.u,hd];simp);clear hd u1;go_wp2_with fail;refine HCt.u.mono ?_;rintro e W3 ⟨rfl,hw⟩;replace hw:=hw.symm;subst hw;cases gt
    . have HX:Hi (q=false):=h_ (by rw[HQ3.u];rfl)
      go_wp2_with fail;go_ret;exact⟨qe9 HX.u.symm,HB.u⟩
    have HX:Hi (q=gr):=h_ (by rw[HQ3.u];rfl);go_wp2_with fail;refine HCr.u.mono ?_;rintro e W4 ⟨rfl,hb4⟩;replace HB:=mT HB hb4;clear hb4;go_wp2_with fail;go_ret;exact⟨qe9 HX.u.symm,HB.u⟩
theorem q8x {names:List ByteArray}{l:List Nx}{k:Nat}(h:k<l.length)(h1:(nf l k).op=1)(h2:memB (nf l k).nm names=false):knows names l=false:=by
 unfold knows
 refine Vc.2 ⟨l[k],Yk h,?_⟩
 rw[nf_get l k h]at h1 h2
 simp[h1,h2]
theorem q6f {names:List ByteArray}{l:List Nx}(h:∀k,k<l.length->(nf l k).op=1->memB (nf l k).nm names=true):knows names l=true:=by
 unfold knows
 refine Y4.2 fun x hx=>?_
 obtain⟨k,hk,rfl⟩:=Y2.1 hx
 have:=h k hk
 rw[nf_get l k hk]at this
 by_cases e:l[k].op=1
 . rw[this e];simp
 . rw[Yi e];rfl
theorem q17 (a:Option Addr)(c:Nat)(l:List Nx)(b:Nat)(names:List ByteArray)(w:World)(hl:l.length<=9223372036854775807)(hf:∀k,k<l.length->Fit (nf l k))(ha:NodL w a l)(hm:PMap w b names) :
 Calls Tryz.prog 146 #[.slice a l.length c,.map (some b)] w fun r w'=>r=.returned (.bool (!knows names l))/\Below w.heap.size w w':=by
 have HA:=h_ ha;have HM:=h_ hm;have HF:=h_ hf
 obtain⟨q,hq⟩:=Nq ((!knows names l))
 rw[hq]
 have HQ:=h_ hq
 clear ha hm hf hq
 go_enter Tryz.func146,Tryz.ntmps146
 go_wp2_with fail
 go_loopw [11] (fun i wr=>∃k:Nat,k<=l.length/\i=J9 k/\(∀j,j<k->(nf l j).op=1->memB (nf l j).nm names=true)/\Below w.heap.size w wr) (fun i _=>l.length - (intOf i).toNat)
 case atStart=>exact⟨0,nZ _,rfl,fun j hj=>absurd hj (nL _),bR _ _⟩
 case round =>
  obtain⟨k,hk,rfl,hall,hb⟩:=hrel;have HL:=h_ hall;have HB:=h_ hb;have HAr:=h_ (HA.u.mono hb);have HMr:=h_ (HM.u.mono hb);clear hall hb;by_cases hlt:k<l.length
  . have hlt':(k:Int)<l.length:=by omega
    obtain⟨pb,po,rfl,-,z0,z1,z2,z3,z4⟩:=HAr.u k hlt;have HX:Hi ((nf l k).op=1->memB (nf l k).nm names=false->q=true):=h_ fun h1 h2=>by rw[<- HQ.u,q8x hlt h1 h2];rfl
    have HG:Hi (((nf l k).op=1->memB (nf l k).nm names=true)->∀j,j<k+1->(nf l j).op=1->memB (nf l j).nm names=true):=h_ fun h j hj=>by
     by_cases ej:j=k
     . subst ej;exact h
     . exact HL.u j (by omega)
    have HFk:=h_ (HF.u k hlt);generalize nf l k=n at *;have HKf:=h_ (Blk.new wr 96 #[J9 n.op,J9 n.v.k,J9 n.v.n,.string n.v.s,.string n.nm]);have HBf:=h_ (HB.u.alloc HB.u.size (.cells #[J9 n.op,J9 n.v.k,J9 n.v.n,.string n.v.s,.string n.nm] 96));have hMf:=HMr.u.mono ((bR _ _).alloc (nR _) (.cells #[J9 n.op,J9 n.v.k,J9 n.v.n,.string n.v.s,.string n.nm] 96));obtain⟨Wd,hWd⟩:=Nq (wr.alloc (.cells #[J9 n.op,J9 n.v.k,J9 n.v.n,.string n.v.s,.string n.nm] 96));rw[hWd]at HKf HBf hMf;have HMf:=h_ hMf;clear hMf;obtain⟨x0,x1,x2,x3,x4⟩:=five HKf.u;by_cases h1:n.op=1
    . have h1':(n.op != 1)=false:=by rw[h1];rfl
      have h1'':(n.op==1)=true:=(by rw[h1];rfl);replace HX:=h_ (HX.u h1);have HG2:Hi (memB n.nm names=true->∀j,j<k+1->(nf l j).op=1->memB (nf l j).nm names=true):=h_ fun h=>HG.u fun _=>h;clear h1 HG;have HKy:Hi (keyOf Tryz.prog 9 (.string n.nm)=some (kl n.nm)):=h_ (WideMaps.keyOf_string_mk Tryz.underlying9 HFk.u.2.1);cases hg:memB n.nm names
      . have HX2:=h_ (HX.u hg)
        go_wp2_with (at_lookup;refine wpList_lookup_own_ok_int _ rfl _ _ 54 rfl 9 3 .i64 (Maps.string_keyed Tryz.underlying9) Tryz.underlying54 Tryz.underlying3 (Tryz.zeroValue3 _) b names.length (mp names) rfl (by first | exact HMf.u | (rw[hWd];exact HMf.u)) _ _ rfl HKy.u ?_;intro pc _ _;rw[has_mp,hg])
        try rw[hWd]
        clear hWd HMf HKy;go_ret;exact⟨qe9 HX2.u.symm,HBf.u⟩
      . have HG3:=h_ (HG2.u hg)
        go_wp2_with (at_lookup;refine wpList_lookup_own_ok_int _ rfl _ _ 54 rfl 9 3 .i64 (Maps.string_keyed Tryz.underlying9) Tryz.underlying54 Tryz.underlying3 (Tryz.zeroValue3 _) b names.length (mp names) rfl (by first | exact HMf.u | (rw[hWd];exact HMf.u)) _ _ rfl HKy.u ?_;intro pc _ _;rw[has_mp,hg])
        try rw[hWd]
        clear hWd HMf HKy;go_roundw
        case rel=>first | exact⟨k+1,by omega,by go_num,HG3.u,HBf.u⟩ | ((repeat apply Exists.intro);exact⟨⟨k+1,by omega,by go_num,HG3.u,HBf.u⟩,rfl⟩)
        case measure=>simp[intOf];omega
    . have h1':(n.op != 1)=true:=by simp[h1]
      have h1'':(n.op==1)=false:=(by simp[h1]);have HG3:=h_ (HG.u fun h=>absurd h h1);clear h1 HG;go_wp2_with fail
      try rw[hWd]
      clear hWd;go_roundw
      case rel=>first | exact⟨k+1,by omega,by go_num,HG3.u,HBf.u⟩ | ((repeat apply Exists.intro);exact⟨⟨k+1,by omega,by go_num,HG3.u,HBf.u⟩,rfl⟩)
      case measure=>simp[intOf];omega
  . obtain rfl:k=l.length:=by omega
    have hlt':¬ (l.length:Int)<(l.length:Int):=(by omega);have HX:Hi (q=false):=h_ (by rw[<- HQ.u,q6f HL.u];rfl);go_wp2_with fail;go_ret;exact⟨qe9 HX.u.symm,HB.u⟩
theorem q0r (f:Fl)(A:FA)(X b:Nat)(names:List ByteArray)(w:World)(hf:FitF f)(ha:FSl w f A)(hm:PMap w b names)(hX:X<w.heap.size)(hc:w.cell? ⟨X,0,none⟩=some (.map (some b))) :
 Calls Tryz.prog 145 #[fV f A,Yc X 0] w fun r w'=>r=.returned (.bool (!fieldKnows names f))/\Below w.heap.size w w':=by
 obtain⟨ab,abc,ai,aic,ah,ahc,av,avc,au,auc⟩:=A
 have HCr:=h_ fun W=>q5y f ⟨ab,abc,ai,aic,ah,ahc,av,avc,au,auc⟩ W
 obtain⟨q,hq⟩:=Nq ((!fieldKnows names f))
 rw[hq]
 have HQ:Hi ((!(knows names f.is&&knows names f.wh&&knows names f.va&&knows names f.mu))=q):=h_ hq
 unfold fV at HCr⊢
 dsimp only at HCr⊢
 have HK:=h_ (Blk.new w 42 #[.string f.nm,J9 f.ty,J9 f.lb,.slice ab f.bys.length abc,.slice ai f.is.length aic,.slice ah f.wh.length ahc,.slice av f.va.length avc,.string f.sy,.slice au f.mu.length auc])
 have HB:=h_ ((bR w.heap.size w).alloc (nR _) (.cells #[.string f.nm,J9 f.ty,J9 f.lb,.slice ab f.bys.length abc,.slice ai f.is.length aic,.slice ah f.wh.length ahc,.slice av f.va.length avc,.string f.sy,.slice au f.mu.length auc] 42))
 obtain⟨W0,hW0⟩:=Nq (w.alloc (.cells #[.string f.nm,J9 f.ty,J9 f.lb,.slice ab f.bys.length abc,.slice ai f.is.length aic,.slice ah f.wh.length ahc,.slice av f.va.length avc,.string f.sy,.slice au f.mu.length auc] 42))
 rw[hW0]at HK HB
 have HS:=h_ (ha.mono HB.u);have HM:=h_ (hm.mono HB.u);have HF:=h_ hf
 have HC:Hi (X<W0.heap.size/\W0.cell? ⟨X,0,none⟩=some (.map (some b))):=h_ ⟨Y7 hX HB.u.size,(HB.u.cell (p:=⟨X,0,none⟩) hX).trans hc⟩
 clear ha hm hf hq hX hc
 obtain⟨y0,y1,y2,y3,y4,y5,y6,y7,y8⟩:=nine HK.u
 go_enter Tryz.func145,Tryz.ntmps145
 go_wp2_with fail
 try rw[hW0]
 refine(HCr.u W0).mono ?_
 rintro r W1 ⟨rfl,hb1⟩
 replace HS:=h_ (HS.u.mono hb1);replace HM:=h_ (HM.u.mono hb1);replace HB:=mT HB hb1
 replace HC:Hi (X<W1.heap.size/\W1.cell? ⟨X,0,none⟩=some (.map (some b))):=h_ ⟨Y7 HC.u.1 hb1.size,(hb1.cell (p:=⟨X,0,none⟩) HC.u.1).trans HC.u.2⟩
 clear hW0 y0 y1 y2 y3 y4 y5 y6 y7 y8 hb1 HCr HK
 have HR:Hi (∀k:Nat,k<4->∀W,Below W1.heap.size W1 W->∃a c,(∀W',(Instr.index 129 (.agg (#[Value.slice ai f.is.length aic,.slice ah f.wh.length ahc,.slice av f.va.length avc,.slice au f.mu.length auc]:Array Value)) (J9 k)).run Tryz.prog W'=.ok (.slice a (ruleAt f k).length c) W')/\(ruleAt f k).length<=9223372036854775807/\Calls Tryz.prog 146 #[.slice a (ruleAt f k).length c,.map (some b)] W fun r w'=>r=.returned (.bool (!knows names (ruleAt f k)))/\Below W.heap.size W w'):=h_ fun k hk W hb=>by
  have S:=HS.u.mono hb;have M:=HM.u.mono hb;have F:=HF.u;obtain rfl | rfl | rfl | rfl:k=0∨k=1∨k=2∨k=3:=by omega
  . exact⟨ai,aic,fun W'=>by simp[Instr.index,run_underlying Tryz.underlying129,asIntOf,go_sem,ruleAt],F.il,q17 ai aic f.is b names W F.il F.i S.i M⟩
  . exact⟨ah,ahc,fun W'=>by simp[Instr.index,run_underlying Tryz.underlying129,asIntOf,go_sem,ruleAt],F.hl,q17 ah ahc f.wh b names W F.hl F.h S.h M⟩
  . exact⟨av,avc,fun W'=>by simp[Instr.index,run_underlying Tryz.underlying129,asIntOf,go_sem,ruleAt],F.vl,q17 av avc f.va b names W F.vl F.v S.v M⟩
  . exact⟨au,auc,fun W'=>by simp[Instr.index,run_underlying Tryz.underlying129,asIntOf,go_sem,ruleAt],F.ul,q17 au auc f.mu b names W F.ul F.u S.u M⟩
 have HX:Hi (∀k,k<4->knows names (ruleAt f k)=false->q=true):=h_ fun k hk h=>by
  rw[<- HQ.u];obtain rfl | rfl | rfl | rfl:k=0∨k=1∨k=2∨k=3:=by omega
  all_goals
   simp only[ruleAt]at h;simp at h;simp[h]
 have HY:Hi ((∀k,k<4->knows names (ruleAt f k)=true)->q=false):=h_ fun h=>by
  rw[<- HQ.u,show knows names f.is=true from h 0 (by omega),show knows names f.wh=true from h 1 (by omega),show knows names f.va=true from h 2 (by omega),show knows names f.mu=true from h 3 (by omega)];rfl
 clear HQ HF HS HM
 obtain⟨rs,hrs⟩:=Nq ((#[Value.slice ai f.is.length aic,.slice ah f.wh.length ahc,.slice av f.va.length avc,.slice au f.mu.length auc]:Array Value))
 rw[hrs]at HR⊢
 clear hrs
 go_wp2_with fail
 go_loopw [8] (fun i wr=>∃k:Nat,k<=4/\i=J9 k/\(∀j,j<k->knows names (ruleAt f j)=true)/\Below W1.heap.size W1 wr) (fun i _=>4 - (intOf i).toNat)
 case atStart=>exact⟨0,by omega,rfl,fun j hj=>absurd hj (nL _),bR _ _⟩
 case round =>
  obtain⟨k,hk,rfl,hall,hb⟩:=hrel;have HL:=h_ hall;have HB1:=h_ hb;have x0:=(hb.cell (p:=⟨X,0,none⟩) HC.u.1).trans HC.u.2;clear hall hb;by_cases hlt:k<4
  . have hlt':(k:Int)<4:=by omega
    obtain⟨a,c,hget,hlen,hC⟩:=HR.u k hlt wr HB1.u;have HCk:=h_ hC;have HF1:Hi (knows names (ruleAt f k)=false->q=true):=h_ (HX.u k hlt);have HG1:Hi (knows names (ruleAt f k)=true->∀j,j<k+1->knows names (ruleAt f j)=true):=h_ fun h j hj=>by
     by_cases ej:j=k
     . subst ej;exact h
     . exact HL.u j (by omega)
    generalize ruleAt f k=l at *;generalize knows names l=v at *;clear hC;go_wp2_with fail;refine HCk.u.mono ?_;rintro e W2 ⟨rfl,hb2⟩;have HB2:=mT HB1 hb2;clear hb2 hget x0;cases v
    . have HX2:=h_ (HF1.u rfl)
      go_wp2_with fail;go_ret;exact⟨qe9 HX2.u.symm,HB.u.trans (HB2.u.mono HB.u.size)⟩
    . have HG2:=h_ (HG1.u rfl)
      go_wp2_with fail;go_roundw
      case rel=>first | exact⟨k+1,by omega,by go_num,HG2.u,HB2.u⟩ | ((repeat apply Exists.intro);exact⟨⟨k+1,by omega,by go_num,HG2.u,HB2.u⟩,rfl⟩)
      case measure=>simp[intOf];omega
  . obtain rfl:k=4:=by omega
    have HX2:Hi (q=false):=h_ (HY.u HL.u);go_wp2_with fail;go_ret;exact⟨qe9 HX2.u.symm,HB.u.trans (HB1.u.mono HB.u.size)⟩
def astr (names:List ByteArray)(l:List Fl)(r:Int):Prop:=-1<=r/\r<=l.length/\(r<0 ↔ ∀x,x∈l->fieldKnows names x=true)
theorem q0t (a:Option Addr)(c X b:Nat)(l:List Fl)(AF:Nat->FA)(names:List ByteArray)(w:World)(hl:l.length<=200)(hf:∀x,x∈l->FitF x)(ha:Flds w a l AF)(hm:PMap w b names)(hX:X<w.heap.size)(hc:w.cell? ⟨X,0,none⟩=some (.map (some b))) :
 Calls Tryz.prog 144 #[.slice a l.length c,.func (.func 145) #[] #[Yc X 0]] w fun e w'=>∃r,e=.returned (J9 r)/\astr names l r/\Below w.heap.size w w':=by
 have HA:=h_ ha;have HM:=h_ hm;have HF:=h_ hf;have HC:=h_ (And.intro hX hc)
 clear ha hm hX hc hf
 go_enter Tryz.func144,Tryz.ntmps144
 go_wp2_with fail
 go_loopw [5,8] (fun _ i wr=>∃k:Nat,k<=l.length/\i=J9 k/\(∀j (h:j<l.length),j<k->fieldKnows names l[j]=true)/\Below w.heap.size w wr) (fun _ i _=>l.length - (intOf i).toNat)
 case atStart=>exact⟨0,nZ _,rfl,fun j _ hj=>absurd hj (nL _),bR _ _⟩
 case round =>
  obtain⟨k,hk,rfl,hall,hb⟩:=hrel;have HL:=h_ hall;have HB:=h_ hb;have HAr:=h_ (HA.u.mono hb);have HMr:=h_ (HM.u.mono hb);have HC2:Hi (X<wr.heap.size/\wr.cell? ⟨X,0,none⟩=some (.map (some b))):=h_ ⟨Y7 HC.u.1 hb.size,(hb.cell (p:=⟨X,0,none⟩) HC.u.1).trans HC.u.2⟩;clear hall hb;by_cases hlt:k<l.length
  . have hlt':(k:Int)<l.length:=by omega
    obtain⟨pb,po,rfl,⟨-,z0,z1,z2,z3,z4,z5,z6,z7,z8⟩,hsl⟩:=HAr.u k hlt;have HCf:=h_ (q0r l[k] (AF k) X b names wr (HF.u _ (Yk hlt)) hsl HMr.u HC2.u.1 HC2.u.2);have HX:Hi (fieldKnows names l[k]=false->astr names l k):=h_ fun h=>⟨by omega,by omega,⟨fun h0=>by omega,fun h0=>by have:=h0 _ (Yk hlt);rw[h]at this;cases this⟩⟩;have HG:Hi (fieldKnows names l[k]=true->∀j (h:j<l.length),j<k+1->fieldKnows names l[j]=true):=h_ fun h j hj hjk=>by
     by_cases ej:j=k
     . subst ej;exact h
     . exact HL.u j hj (by omega)
    generalize l[k]=f at *;generalize AF k=fa at *;obtain⟨ab,abc,ai,aic,ah,ahc,av,avc,au,auc⟩:=fa;unfold fV at HCf;dsimp only at z3 z4 z5 z6 z8 HCf;clear hsl;generalize fieldKnows names f=g at *;go_wp2_with fail;refine HCf.u.mono ?_;rintro e W2 ⟨rfl,hb2⟩;have HB2:=mT HB hb2;clear hb2 z0 z1 z2 z3 z4 z5 z6 z7 z8 HCf;cases g
    . have HX2:=h_ (HX.u rfl)
      go_wp2_with fail;go_ret;exact⟨_,rfl,HX2.u,HB2.u⟩
    . have HG2:=h_ (HG.u rfl)
      go_wp2_with fail;go_roundw
      case rel=>first | exact⟨k+1,by omega,by go_num,HG2.u,HB2.u⟩ | ((repeat apply Exists.intro);exact⟨⟨k+1,by omega,by go_num,HG2.u,HB2.u⟩,rfl⟩)
      case measure=>simp[intOf];omega
  . obtain rfl:k=l.length:=by omega
    have hlt':¬ (l.length:Int)<(l.length:Int):=(by omega);have HX:Hi (astr names l (-1)):=h_ ⟨by omega,by omega,⟨fun _ x hx=>by
     obtain⟨j,hj,rfl⟩:=Y2.1 hx;exact HL.u j hj hj,fun _=>by omega⟩⟩
    go_wp2_with fail;go_ret;exact⟨_,rfl,HX.u,HB.u⟩
theorem q0s (m:Fm)(A:MA)(w:World)(hf:FitM m)(hc:Counts m)(ha:MSl w m A) :
 Calls Tryz.prog 113 #[mV m A] w fun e w'=>∃r,e=.returned (J9 r)/\astr (fNames m) m.F r/\Below w.heap.size w w':=by
 obtain⟨al,alc,ap,apc,ar,arc,af,afc,afa⟩:=A
 unfold mV
 dsimp only
 have HK:=h_ (Blk.new w 28 (Jb al m alc ap apc ar arc af afc))
 have HB:=h_ ((bR w.heap.size w).alloc (nR _) (.cells (Jb al m alc ap apc ar arc af afc) 28))
 obtain⟨W0,hW0⟩:=Nq (w.alloc (.cells (Jb al m alc ap apc ar arc af afc) 28))
 rw[hW0]at HK HB
 have HS:=h_ (ha.mono HB.u);have HF:=h_ hf;have HC:=h_ hc
 clear ha hf hc
 obtain⟨y0,y1,y2,y3⟩:=quad HK.u
 go_enter Tryz.func113,Tryz.ntmps113
 go_wp2_with fail
 try rw[hW0]
 refine(q1h m ⟨al,alc,ap,apc,ar,arc,af,afc,afa⟩ W0 HC.u.f HS.u.f).mono ?_
 rintro r W1 ⟨an,cn,rfl,hnames,hb1⟩
 have HN:=h_ hnames
 replace HK:=mB HK hb1;replace HS:=h_ (HS.u.mono hb1);replace HB:=mT HB hb1
 clear hW0 y0 y1 y2 y3 hb1 hnames
 have HE2:Hi (m.F.length=(fNames m).length):=h_ (by simp[fNames])
 go_wp2_with fail
 have hcr:=q45 an cn (fNames m) W1 (by rw[<- HE2.u];have:=HC.u.f;omega) (fun x hx=>by obtain⟨y,hy,rfl⟩:=Y8.1 hx;exact(HF.u.f y hy).nm) HN.u
 rw[<- HE2.u]at hcr
 refine hcr.mono ?_
 rintro r W2 ⟨rfl,hm,hb1⟩
 replace HK:=mB HK hb1;replace HS:=h_ (HS.u.mono hb1);replace HB:=mT HB hb1
 have HM:=h_ hm
 clear hb1 hm hcr HN
 have HX:=h_ (Blk.new W2 54 #[.map (some W1.heap.size)])
 have HBx:=h_ ((bR W2.heap.size W2).alloc (nR _) (.cells #[.map (some W1.heap.size)] 54))
 obtain⟨W3,hW3⟩:=Nq (W2.alloc (.cells #[.map (some W1.heap.size)] 54))
 rw[hW3]at HX HBx
 replace HK:=h_ (HK.u.mono HBx.u HK.u.lt);replace HS:=h_ (HS.u.mono HBx.u);replace HB:=h_ (HB.u.trans (HBx.u.mono HB.u.size));replace HM:=h_ (HM.u.mono HBx.u)
 obtain⟨y0,y1,y2,y3⟩:=quad HK.u
 go_wp2_with fail
 try rw[hW3]
 clear hW3
 refine(q0t af afc W2.heap.size W1.heap.size m.F afa (fNames m) W3 HC.u.f HF.u.f HS.u.f HM.u HX.u.lt (HX.u.cell 0)).mono ?_
 rintro r W4 ⟨x,rfl,hx,hb1⟩
 have HR:=h_ hx
 replace HB:=mT HB hb1
 clear hx hb1 y0 y1 y2 y3
 go_wp2_with fail
 go_ret
 exact⟨_,rfl,HR.u,HB.u⟩
def Caps (m:Fm)(A:MA):Prop:=∀k (h:k<m.F.length),(m.F[k]).bys.length<=(A.fa k).bc
theorem q04 (m:Fm)(A:MA)(w:World)(hf:FitM m)(hc:Counts m)(ha:MSl w m A)(hcap:Caps m A)(ht:Tabs w) :
 Calls Tryz.prog 112 #[mV m A] w fun r w'=>r=.returned (.bool (m.F.all (fieldOk m.L.length m.R.length)))/\Below w.heap.size w w':=by
 obtain⟨al,alc,ap,apc,ar,arc,af,afc,afa⟩:=A
 unfold mV
 dsimp only
 have HK:=h_ (Blk.new w 28 (Jb al m alc ap apc ar arc af afc))
 have HB:=h_ ((bR w.heap.size w).alloc (nR _) (.cells (Jb al m alc ap apc ar arc af afc) 28))
 obtain⟨W0,hW0⟩:=Nq (w.alloc (.cells (Jb al m alc ap apc ar arc af afc) 28))
 rw[hW0]at HK HB
 have HS:=h_ (ha.mono HB.u);have HF:=h_ hf;have HT:=h_ (ht.mono HB.u);have HCp:=h_ hcap
 have hl:=hc.l;have hr:=hc.r;have hfl:=hc.f
 obtain⟨q,hq⟩:=Nq (m.F.all (fieldOk m.L.length m.R.length))
 rw[hq]
 have HQ:=h_ hq
 clear ha hf hc hq ht hcap
 obtain⟨y0,y1,y2,y3⟩:=quad HK.u
 go_enter Tryz.func112,Tryz.ntmps112
 go_wp2_with fail
 try rw[hW0]
 clear hW0 y0 y1 y2 y3
 go_loopw [8] (fun i wr=>∃k:Nat,k<=m.F.length/\i=J9 k/\(∀j (h:j<m.F.length),j<k->fieldOk m.L.length m.R.length m.F[j]=true)/\Below W0.heap.size W0 wr) (fun i _=>m.F.length - (intOf i).toNat)
 case atStart=>exact⟨0,nZ _,rfl,fun j _ hj=>absurd hj (nL _),bR _ _⟩
 case round =>
  obtain⟨k,hk,rfl,hall,hb⟩:=hrel;have HL:=h_ hall;have HB1:=h_ hb;have HSr:=h_ (HS.u.mono hb);have HKr:=mB HK hb;have HTr:=h_ (HT.u.mono hb);clear hall hb;by_cases hlt:k<m.F.length
  . have hlt':(k:Int)<m.F.length:=by omega
    obtain⟨pb,po,rfl,⟨-,z0,z1,z2,z3,z4,z5,z6,z7,z8⟩,hsl⟩:=HSr.u.f k hlt;dsimp only at z3 z4 z5 z6 z8 hsl;have hcap:=HCp.u k hlt;dsimp only at hcap;have HFk:=h_ (HF.u.f _ (Yk hlt));have HX:Hi (fieldOk m.L.length m.R.length m.F[k]=false->q=false):=h_ fun h=>by
     rw[<- HQ.u];exact Vc.2 ⟨m.F[k],Yk hlt,by simp[h]⟩
    have HG:Hi (fieldOk m.L.length m.R.length m.F[k]=true->∀j (h:j<m.F.length),j<k+1->fieldOk m.L.length m.R.length m.F[j]=true):=h_ fun g1 j h hj=>by
     by_cases ej:j=k
     . subst ej;exact g1
     . exact HL.u j h (by omega)
    generalize m.F[k]=f at *;generalize afa k=fa at *;obtain⟨ab,abc,ai,aic,ah,ahc,av,avc,au,auc⟩:=fa;dsimp only at z3 z4 z5 z6 z8 hcap;have HKf:=h_ (Blk.new wr 42 (Ja f ab abc ai aic ah ahc av avc au auc));have HBf:=h_ ((bR wr.heap.size wr).alloc (nR _) (.cells (Ja f ab abc ai aic ah ahc av avc au auc) 42));obtain⟨Wd,hWd⟩:=Nq (wr.alloc (.cells (Ja f ab abc ai aic ah ahc av avc au auc) 42));rw[hWd]at HKf HBf;have HBd:=h_ (HB1.u.trans (HBf.u.mono HB1.u.size));have HKd:=h_ (HKr.u.mono HBf.u HKr.u.lt);have HCf:=h_ (q0l f ⟨ab,abc,ai,aic,ah,ahc,av,avc,au,auc⟩ m.L.length m.R.length Wd HFk.u hcap (hsl.mono HBf.u) (HTr.u.mono HBf.u));unfold fV at HCf;dsimp only at HCf;obtain⟨x0,x1,x2,x3,x4,x5,x6,x7,x8⟩:=nine HKf.u;obtain⟨v0,v1,v2,v3⟩:=quad HKd.u;generalize fieldOk m.L.length m.R.length f=g at *;clear hsl hcap;go_wp2_with fail
    try rw[hWd]
    refine HCf.u.mono ?_;rintro e W2 ⟨rfl,hb2⟩;have HB2:=mT HBd hb2;clear hb2 hWd x0 x1 x2 x3 x4 x5 x6 x7 x8 v0 v1 v2 v3 z0 z1 z2 z3 z4 z5 z6 z7 z8;cases g
    . have HX2:=h_ (HX.u rfl)
      go_wp2_with fail;go_ret;exact⟨qe9 HX2.u.symm,HB.u.trans (HB2.u.mono HB.u.size)⟩
    . have HG2:=h_ (HG.u rfl)
      go_wp2_with fail;go_roundw
      case rel=>first | exact⟨k+1,by omega,by go_num,HG2.u,HB2.u⟩ | ((repeat apply Exists.intro);exact⟨⟨k+1,by omega,by go_num,HG2.u,HB2.u⟩,rfl⟩)
      case measure=>simp[intOf];omega
  . obtain rfl:k=m.F.length:=by omega
    have hlt':¬ (m.F.length:Int)<(m.F.length:Int):=(by omega);have HX:Hi (q=true):=h_ (by
     rw[<- HQ.u];exact Y4.2 fun x hx=>by
      obtain⟨j,hj,rfl⟩:=Y2.1 hx;exact HL.u j hj hj)
    go_wp2_with fail;go_ret;exact⟨qe9 HX.u.symm,HB.u.trans (HB1.u.mono HB.u.size)⟩
end Go.Proofs.YtebbgodlijlioaaGreatDoor
