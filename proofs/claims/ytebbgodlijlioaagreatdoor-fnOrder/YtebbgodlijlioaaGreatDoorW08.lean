import Derived.Test.YtebbgodlijlioaaGreatDoorW05
set_option maxRecDepth 100000
set_option maxHeartbeats 64000000
namespace Go.Proofs.YtebbgodlijlioaaGreatDoor
open Go Go.RowKit Go.Shelf
attribute [local go_sem] Oper.semAt_some
theorem qh3 {g'':Nat->Nat}{P:Nat->Nat->Bool}{k x:Nat}{pre:List Nat}(h:IsRel g'' (fun b a=>P b a||(decide (a=k)&&decide (b∈pre))))(hx:x<32)(hk:k<32) :
 IsRel (fun j=>if j=x then g'' x ||| 2 ^ k else g'' j) (fun b a=>P b a||(decide (a=k)&&decide (b∈pre++[x]))) :=
 (h.add hx hk).congr fun b a _=>by
  by_cases e1:a=k
  . by_cases e2:b=x <;> simp[e1,e2]
  . simp[e1]
theorem qcw {g'' g:Nat->Nat}{R:Nat->Nat->Bool}{k:Nat}{xs:List Nat}(h:IsRel g'' (fun b a=>(decide (a<k)&&R a b)||(decide (a=k)&&decide (b∈xs))))(hg:IsRel g R)(hk:k<32)(hx:∀i,i∈xs ↔ (g k).testBit i=true) :
 IsRel g'' (fun b a=>decide (a<k+1)&&R a b):=h.congr fun b a _=>by
 have e:=(hg k hk).2 b
 by_cases h1:a=k
 . subst h1
   rw[show decide (b∈xs)=R a b by rw[<- e];cases hb:(g a).testBit b <;> simp[hx,hb]];simp
 . rw[show decide (a<k+1)=decide (a<k) by simp;omega]
   simp[h1]
theorem qcy (m:Nat)(g:Nat->Nat)(R:Nat->Nat->Bool)(n:Nat)(w:World)(hn:n<=32)(hg:IsRel g R)(ht:Tab w) :
 CallsIn Fence.wide m Tryz.prog 116 #[.agg (us g).toArray,J9 n] w fun e w'=>∃g',e=.returned (.agg (us g').toArray)/\IsRel g' (fun b a=>decide (a<n)&&R a b)/\Below w.heap.size w w':=by
 refine callsIn_of_wp_marks Tryz.func116 rfl trivial ?_ rfl
 simp only[Tryz.ntmps116,Zh,Ys,Y4,Nat.reduceAdd,Nat.reduceSub,Z9,Z8,Vg,Vb,Vj,Zn]
 gi_wp2_with (refine q02 rfl _ _ rfl (w.heap.size+1+1) (fun _=>0) (fun _=>0) rfl rfl (blk3 _ _ _ _ _ rfl) ?_;intro w1 hb1 hg1 hs1;have hA:=(blk1 _ _ _ _ _).grown hg1 (by simp;omega);have hR:=(blk2 _ _ _ _ (fun _=>0) rfl).grown hg1 (by simp);have hB:=(below3 _ _ _ _).trans ((bR w.heap.size _).grown hg1 (by simp;omega) (fun k e=>by cases e;omega));replace hA:=h_ hA;replace hR:=h_ hR;replace hB:=h_ hB;replace hb1:=h_ hb1;clear hg1 hs1)
 refine wpIn_loop (fun a W=>∃(k:Nat) (g':Nat->Nat) (Ds:List Nat) (u6 u7 u8 u11 u12 u13 u14 u15 u16 u17 u18 u19 u20 u21 u22 u23 u24 u25 u26 u27:Value),a = { tmps:=#[.agg (us g).toArray,J9 (n:Int),Yc w.heap.size 0,undef,Yc (w.heap.size+1) 0,Yc (w.heap.size+1+1) 0,u6,u7,u8,J9 (n:Int),J9 (k:Int),u11,u12,u13,u14,u15,u16,u17,u18,u19,u20,u21,u22,u23,u24,u25,u26,u27],defers:=marks Ds }/\k<=n/\IsRel g' (fun b a=>decide (a<k)&&R a b)/\Blk W (w.heap.size+1+1) 126 (us g')/\Blk W w.heap.size 126 (us g)/\Blk W (w.heap.size+1) 126 (us fun _=>0)/\Tab W/\Below w.heap.size w W/\Shut w.heap.size W Ds) (fun a _=>n - (intOf (a.tmps.getD 10 undef)).toNat) ?_ ?_
 . refine⟨0,fun _=>0,[],_,_,_,_,_,_,_,_,_,_,_,_,_,_,_,_,_,_,_,_,rfl,nZ _,fun a _=>⟨by simp,fun b=>by simp⟩,hb1.u,hA.u,hR.u,ht.mono hB.u,hB.u,Shut.nil _ _⟩
 . clear hb1 hA hR hB
   rintro a W ⟨k,g',Ds,u6,u7,u8,u11,u12,u13,u14,u15,u16,u17,u18,u19,u20,u21,u22,u23,u24,u25,u26,u27,rfl,hk,hrel,hO,hS,hRes,hT,hB,hSh⟩;by_cases hlt:k<n
   . have dk:decide ((k:Int)<n)=true:=by simp;omega
     have k32:k<32:=(by omega);have cS:=hS.cell k;rw[us_get g k32]at cS;have k0i:(0:Int)<=k:=(by omega);have k1i:(k:Int)<32:=(by omega);have sS:=hS.lt;have HREL:=h_ hrel;have HO:=h_ hO;have HS:=h_ hS;have HRES:=h_ hRes;have HT:=h_ hT;have HB:=h_ hB;have HSH:=h_ hSh;clear hrel hO hS hRes hT hB hSh;have K1:∀o,(W.alloc o).cell? ⟨w.heap.size,k,none⟩=some (.int .u32 (g k:Int)):=fun o=>((HS.u.alloc o).cell k).trans (us_get g k32);gi_wp2_with fail;refine callW ((q89 _ _).mono ?_);rintro e w2 ⟨rfl,rfl⟩;gi_wp2_with fail;have bA:=(Blk.new W 3 #[J9 (k:Int)]).alloc (.cells #[.int .u32 (g k:Int)] 124);have bL:=Blk.new (W.alloc (.cells #[J9 (k:Int)] 3)) 124 #[.int .u32 (g k:Int)];have bW:Below W.heap.size W ((W.alloc (.cells #[J9 (k:Int)] 3)).alloc (.cells #[.int .u32 (g k:Int)] 124)):=((bR _ _).alloc (nR _) _).alloc (by simp) _;have z5:((W.alloc (.cells #[J9 (k:Int)] 3)).alloc (.cells #[.int .u32 (g k:Int)] 124)).heap.size=W.heap.size+1+1:=(by simp);simp only[Yx]at bL;obtain⟨W5,hW5⟩:=Nq ((W.alloc (.cells #[J9 (k:Int)] 3)).alloc (.cells #[.int .u32 (g k:Int)] 124));rw[hW5]at bA bL bW z5⊢;clear hW5;have lO:=HO.u.lt;have ltD:=HSH.u.lt;have w0:=HT.u.pos;have nX:¬ (1=w.heap.size+1+1):=(by have:=ht.pos;omega);refine qc7 (gf:=176) (lb:=#[Yc (W.heap.size+1) 0]) rfl (enters_of Tryz.func176 (by kernel_rfl) rfl)
      (q3y (W.heap.size+1) (g k) W5 (fun j=>j=w.heap.size+1+1) (hg k k32).1 bL (HT.u.mono bW) nX) (bR _ _) (fun j hj=>by omega) rfl
      (fun pre W'=>∃g'',IsRel g'' (fun b a=>(decide (a<k)&&R a b)||(decide (a=k)&&decide (b∈pre)))/\Blk W' (w.heap.size+1+1) 126 (us g'')/\Blk W' w.heap.size 126 (us g)/\Blk W' (w.heap.size+1) 126 (us fun _=>0)/\Blk W' W.heap.size 3 [J9 (k:Int)]/\Tab W'/\Below w.heap.size w W'/\Shut w.heap.size W' Ds)
      (fun _ _=>False) ?hI (fun _ _ _ h _=>h)
      ⟨g',HREL.u.congr fun b a _=>by simp,HO.u.mono bW lO,HS.u.mono bW sS,HRES.u.mono bW HRES.u.lt,bA,HT.u.mono bW,HB.u.trans (bW.mono HB.u.size),HSH.u.below bW ltD⟩
      (fun x=>{ tmps:=#[.agg (us g).toArray,J9 (n:Int),Yc w.heap.size 0,undef,Yc (w.heap.size+1) 0,Yc (w.heap.size+1+1) 0,Yc W.heap.size 0,J9 (x:Int),u8,J9 (n:Int),J9 (k:Int),.bool true,J9 (k:Int),J9 (k:Int),Yc w.heap.size k,.agg #[.int .u32 (g k:Int)],.func (.func 176) #[] #[Yc (W.heap.size+1) 0],J9 (x:Int),u18,u19,u20,u21,u22,u23,u24,u25,u26,u27],defers:=[] })
      ?assign ?body ?done (fun _ _ _ _ _ h _=>h.elim)
     case hI =>
      rintro pre W1 W2 ⟨g'',h1,h2,h3,h4,h5,h6,h7,h8⟩ hb;rw[z5]at hb;exact⟨g'',h1,h2.mono hb (by omega),h3.mono hb (by omega),h4.mono hb (by omega),h5.mono hb (by omega),h6.at0 (hb.block 1 (by omega)),h7.trans (hb.mono (by omega)),h8.below hb (fun D hD=>by have:=ltD D hD;omega)⟩
     case assign =>
      intro m l x W' K hK
      gi_wp2
      exact hK
     case body =>
      rintro m l pre x W' ⟨g'',h1,h2,h3,h4,h5,h6,h7,h8⟩ ⟨x32,hxs⟩;have hmix:Tryz.prog.follows .mixedOrders=true:=(by kernel_rfl);have cO:=h2.cell x;rw[us_get g'' x32]at cO;have fO:=h2.free x;have sO:=h2.lt;have cA:=h5.cell 0;simp only[Yh]at cA;have gx:=(h1 x x32).1;have k2:=two_lt k32;have K4:=fun o1 o2 o3 o4=>(h2.cell4 x o1 o2 o3 o4).trans (us_get g'' x32);have F4:=h2.free4 x;have K1':∀o,(W'.alloc o).cell? ⟨w.heap.size+1+1,x,none⟩=some (.int .u32 (g'' x:Int)):=fun o=>((h2.alloc o).cell x).trans (us_get g'' x32);have K1A:∀o,(W'.alloc o).cell? ⟨W.heap.size,0,none⟩=some (J9 (k:Int)):=fun o=>(h5.alloc o).cell 0;have x0i:(0:Int)<=x:=(by omega);have x1i:(x:Int)<32:=(by omega);have H1:=h_ h1;have H2:=h_ h2;have H3:=h_ h3;have H4:=h_ h4;have H5:=h_ h5;have H6:=h_ h6;have H7:=h_ h7;have H8:=h_ h8;clear h1 h2 h3 h4 h5 h6 h7 h8 K1 cS;gi_wp2_with fail
      gi_region_with_o (first | (refine callR ((qke _ _ k32).mono ?_);rintro e w' ⟨rfl,rfl⟩) | (refine callR ((qd0 _ _ _ gx k2).mono ?_);rintro e w' ⟨rfl,rfl⟩))
      all_goals
       gi_wp2_with fail;have hst:=qfw H2.u x32 (g'' x ||| 2 ^ k) (.cells (#[.int .u32 ((2 ^ k:Nat):Int)]) 124) (.cells #[.int .u32 (g'' x:Int)] 124) (.cells (#[.int .u32 ((2 ^ k:Nat):Int)]) 124) (.cells (#[.int .u32 ((g'' x ||| 2 ^ k:Nat):Int)]) 124);simp only[O9,Ou]at hst;obtain⟨s1,s2,s3,s4⟩:=hst;exact⟨s1,s2,_,qh3 H1.u x32 k32,s3,s2.blk H3.u (by omega),s2.blk H4.u (by omega),s2.blk H5.u (by omega),H6.u.keep s2 nX,H7.u.trans (s4 _ (by omega) sO),H8.u.keep s1⟩
     case done =>
      rintro D xs W' hD hS' ⟨g'',h1,h2,h3,h4,h5,h6,h7,h8⟩ hK;have HX:Hi (IsRel g'' (fun b a=>decide (a<k+1)&&R a b)):=qcw h1 hg k32 hS';have HSH':Hi (Shut w.heap.size W' (D :: Ds)):=h8.cons (by have:=HB.u.size;omega) hK (fun hm=>by have:=ltD D hm;omega);have H2:=h_ h2;have H3:=h_ h3;have H4:=h_ h4;have H6:=h_ h6;have H7:=h_ h7;clear h1 h2 h3 h4 h5 h6 h7 h8 hK hS';gi_wp2_with fail;refine⟨⟨k+1,g'',D :: Ds,⟨by omega,rfl⟩,by omega,HX.u,H2.u,H3.u,H4.u,H6.u,H7.u,HSH'.u⟩,?_⟩;simp[intOf];omega
   . obtain rfl:k=n:=by omega
     have dk:decide ((k:Int)<k)=false:=(by simp);have HREL:=h_ hrel;have HO:=h_ hO;have HRES:=h_ hRes;have HB:=h_ hB;have HSH:=h_ hSh;have sR:=hRes.lt;clear hrel hO hS hRes hT hB hSh;gi_wp2_with (first | (refine q05 rfl _ rfl (w.heap.size+1+1) g' rfl HO.u ?_) | (refine q02 rfl _ _ rfl (w.heap.size+1) (fun _=>0) g' rfl rfl HRES.u ?_;intro w2 hb2 hg2 hs2;replace hb2:=h_ hb2;replace hg2:=h_ hg2));refine q41 (B:=w.heap.size) Ds w2 (HSH.u.keep ⟨by omega,fun j o hj ho=>?_⟩) fun W' hk' hb'=>?_
     . refine(hg2.u.block j (Yr.1 hj).1 (fun e=>?_)).trans hj
       cases e;rw[show W.heap[w.heap.size+1]? = _ from HRES.u]at hj;cases hj;simp[Obj.isCells]at ho
     . refine⟨.agg (us g').toArray,results_cell_row rfl _ _ (w.heap.size+1) 126 (us g').toArray (0,0) _ rfl (hk'.blk hb2.u (fun h=>h)) Tryz.underlying126 rfl (qln g'),g',rfl,HREL.u,?_⟩
       exact(HB.u.trans ((bR w.heap.size _).grown hg2.u HB.u.size (fun j e=>by cases e;omega))).trans hb'
theorem q98 (g:Nat->Nat)(R:Nat->Nat->Bool)(n:Nat)(w:World)(hn:n<=32)(hg:IsRel g R)(ht:Tab w) :
 Calls Tryz.prog 116 #[.agg (us g).toArray,J9 n] w fun e w'=>∃g',e=.returned (.agg (us g').toArray)/\IsRel g' (fun b a=>decide (a<n)&&R a b)/\Below w.heap.size w w' :=
 (callsIn_wide (n:=9)).1 (qcy 9 g R n w hn hg ht)
attribute [local go_sem] Oper.semAt_some
def IsReach (g':Nat->Nat)(P:Nat->Nat->Prop):Prop:=∀a,a<32->g' a<4294967296/\∀b,((g' a).testBit b=true ↔ P a b)
theorem IsReach.congr {g':Nat->Nat}{P Q:Nat->Nat->Prop}(h:IsReach g' P)(hPQ:∀a b,P a b ↔ Q a b):IsReach g' Q:=fun a ha=>⟨(h a ha).1,fun b=>((h a ha).2 b).trans (hPQ a b)⟩
theorem qa0 {g'':Nat->Nat}{P:Nat->Nat->Prop}{k x:Nat}{pre:List Nat}(h:IsReach g'' (fun a b=>P a b∨(a=k/\b∈pre)))(hk:k<32)(hx:x<32) :
 IsReach (fun j=>if j=k then g'' k ||| 2 ^ x else g'' j) (fun a b=>P a b∨(a=k/\b∈pre++[x])):=fun a ha=>by
 by_cases e:a=k
 . subst e
   simp only[if_true];refine⟨or_lt (h a ha).1 (two_lt hx),fun b=>?_⟩;rw[Ow,Zu,(h a ha).2 b,Va,decide_eq_true_iff,Zb,Yw];constructor
   . rintro ((h1 | h1) | h1)
     . exact .inl h1
     . exact .inr ⟨by simp,.inl h1.2⟩
     . exact .inr ⟨by simp,.inr h1.symm⟩
   . rintro (h1 | ⟨-,h1 | h1⟩)
     . exact .inl (.inl h1)
     . exact .inl (.inr ⟨by simp,h1⟩)
     . exact .inr h1.symm
 . simp only[Yt e]
   refine⟨(h a ha).1,fun b=>?_⟩;rw[(h a ha).2 b];simp[e]
theorem q6y {g'' g:Nat->Nat}{k:Nat}{xs:List Nat}(h:IsReach g'' (fun a b=>(a<k/\Reach g a b)∨(a=k/\b∈xs)))(hx:∀i,i∈xs ↔ Reach g k i):IsReach g'' (fun a b=>a<k+1/\Reach g a b) :=
 h.congr fun a b=>by
  constructor
  . rintro (⟨h1,h2⟩ | ⟨rfl,h2⟩)
    . exact⟨by omega,h2⟩
    . exact⟨by omega,(hx b).1 h2⟩
  . rintro⟨h1,h2⟩
    by_cases e:a=k
    . subst e;exact .inr ⟨rfl,(hx b).2 h2⟩
    . exact .inl ⟨by omega,h2⟩
theorem qa1 (m:Nat)(g:Nat->Nat)(n:Nat)(w:World)(hn:n<=32)(hg:∀a,a<32->g a<4294967296)(ht:Tab w) :
 CallsIn Fence.wide m Tryz.prog 83 #[.agg (us g).toArray,J9 n] w fun e w'=>∃g',e=.returned (.agg (us g').toArray)/\IsReach g' (fun a b=>a<n/\Reach g a b)/\Below w.heap.size w w':=by
 refine callsIn_of_wp_marks Tryz.func83 rfl trivial ?_ rfl
 simp only[Tryz.ntmps83,Zh,Ys,Y4,Nat.reduceAdd,Nat.reduceSub,Z9,Z8,Vg,Vb,Vj,Zn]
 gi_wp2_with (refine q02 rfl _ _ rfl (w.heap.size+1+1) (fun _=>0) (fun _=>0) rfl rfl (blk3 _ _ _ _ _ rfl) ?_;intro w1 hb1 hg1 hs1;have hA:=(blk1 _ _ _ _ _).grown hg1 (by simp;omega);have hR:=(blk2 _ _ _ _ (fun _=>0) rfl).grown hg1 (by simp);have hB:=(below3 _ _ _ _).trans ((bR w.heap.size _).grown hg1 (by simp;omega) (fun k e=>by cases e;omega));replace hA:=h_ hA;replace hR:=h_ hR;replace hB:=h_ hB;replace hb1:=h_ hb1;clear hg1 hs1)
 refine wpIn_loop (fun a W=>∃(k:Nat) (g':Nat->Nat) (Ds:List Nat) (u6 u7 u8 u11 u12 u13 u14 u15 u16 u17 u18 u19 u20 u21 u22 u23 u24 u25 u26:Value),a = { tmps:=#[.agg (us g).toArray,J9 (n:Int),Yc w.heap.size 0,undef,Yc (w.heap.size+1) 0,Yc (w.heap.size+1+1) 0,u6,u7,u8,J9 (n:Int),J9 (k:Int),u11,u12,u13,u14,u15,u16,u17,u18,u19,u20,u21,u22,u23,u24,u25,u26],defers:=marks Ds }/\k<=n/\IsReach g' (fun a b=>a<k/\Reach g a b)/\Blk W (w.heap.size+1+1) 126 (us g')/\Blk W w.heap.size 126 (us g)/\Blk W (w.heap.size+1) 126 (us fun _=>0)/\Tab W/\Below w.heap.size w W/\Shut w.heap.size W Ds) (fun a _=>n - (intOf (a.tmps.getD 10 undef)).toNat) ?_ ?_
 . refine⟨0,fun _=>0,[],_,_,_,_,_,_,_,_,_,_,_,_,_,_,_,_,_,_,_,rfl,nZ _,fun a _=>⟨by simp,fun b=>by simp⟩,hb1.u,hA.u,hR.u,ht.mono hB.u,hB.u,Shut.nil _ _⟩
 . clear hb1 hA hR hB
   rintro a W ⟨k,g',Ds,u6,u7,u8,u11,u12,u13,u14,u15,u16,u17,u18,u19,u20,u21,u22,u23,u24,u25,u26,rfl,hk,hrel,hO,hS,hRes,hT,hB,hSh⟩;by_cases hlt:k<n
   . have dk:decide ((k:Int)<n)=true:=by simp;omega
     have k32:k<32:=(by omega);have sS:=hS.lt;have HREL:=h_ hrel;have HO:=h_ hO;have HS:=h_ hS;have HRES:=h_ hRes;have HT:=h_ hT;have HB:=h_ hB;have HSH:=h_ hSh;clear hrel hO hS hRes hT hB hSh;gi_wp2_with (refine q05 rfl _ rfl w.heap.size g rfl (HS.u.alloc _) ?_);refine callW ((q9i _ _ _).mono ?_);rintro e w2 ⟨rfl,rfl⟩;gi_wp2_with fail;have bA:=((Blk.new W 3 #[J9 (k:Int)]).alloc (.cells (us g).toArray 126)).alloc (.cells #[J9 (k:Int)] 3);have bG:=(Blk.new (W.alloc (.cells #[J9 (k:Int)] 3)) 126 (us g).toArray).alloc (.cells #[J9 (k:Int)] 3);have bK:=Blk.new ((W.alloc (.cells #[J9 (k:Int)] 3)).alloc (.cells (us g).toArray 126)) 3 #[J9 (k:Int)];have bW:=below3 W (.cells #[J9 (k:Int)] 3) (.cells (us g).toArray 126) (.cells #[J9 (k:Int)] 3);have z5:(((W.alloc (.cells #[J9 (k:Int)] 3)).alloc (.cells (us g).toArray 126)).alloc (.cells #[J9 (k:Int)] 3)).heap.size=W.heap.size+1+1+1:=(by simp);simp only[Yx]at bG bK;obtain⟨W5,hW5⟩:=Nq (((W.alloc (.cells #[J9 (k:Int)] 3)).alloc (.cells (us g).toArray 126)).alloc (.cells #[J9 (k:Int)] 3));rw[hW5]at bA bG bK bW z5⊢;clear hW5;have lO:=HO.u.lt;have ltD:=HSH.u.lt;have w0:=HT.u.pos;have nX:¬ (1=w.heap.size+1+1):=(by have:=ht.pos;omega);refine qc7 (gf:=155) (lb:=#[Yc (W.heap.size+1+1) 0,Yc (W.heap.size+1) 0]) rfl (enters_of Tryz.func155 (by kernel_rfl) rfl)
      (q4i (W.heap.size+1+1) (W.heap.size+1) k g W5 (fun j=>j=w.heap.size+1+1) k32 hg bK bG (HT.u.mono bW) (by omega) nX) (bR _ _) (fun j hj=>by omega) rfl
      (fun pre W'=>∃g'',IsReach g'' (fun a b=>(a<k/\Reach g a b)∨(a=k/\b∈pre))/\Blk W' (w.heap.size+1+1) 126 (us g'')/\Blk W' w.heap.size 126 (us g)/\Blk W' (w.heap.size+1) 126 (us fun _=>0)/\Blk W' W.heap.size 3 [J9 (k:Int)]/\Tab W'/\Below w.heap.size w W'/\Shut w.heap.size W' Ds)
      (fun _ _=>False) ?hI (fun _ _ _ h _=>h)
      ⟨g',HREL.u.congr fun a b=>by simp,HO.u.mono bW lO,HS.u.mono bW sS,HRES.u.mono bW HRES.u.lt,bA,HT.u.mono bW,HB.u.trans (bW.mono HB.u.size),HSH.u.below bW ltD⟩
      (fun x=>{ tmps:=#[.agg (us g).toArray,J9 (n:Int),Yc w.heap.size 0,undef,Yc (w.heap.size+1) 0,Yc (w.heap.size+1+1) 0,Yc W.heap.size 0,J9 (x:Int),u8,J9 (n:Int),J9 (k:Int),.bool true,J9 (k:Int),.agg (us g).toArray,J9 (k:Int),.func (.func 155) #[] #[Yc (W.heap.size+1+1) 0,Yc (W.heap.size+1) 0],J9 (x:Int),u17,u18,u19,u20,u21,u22,u23,u24,u25,u26],defers:=[] })
      ?assign ?body ?done (fun _ _ _ _ _ h _=>h.elim)
     case hI =>
      rintro pre W1 W2 ⟨g'',h1,h2,h3,h4,h5,h6,h7,h8⟩ hb;rw[z5]at hb;exact⟨g'',h1,h2.mono hb (by omega),h3.mono hb (by omega),h4.mono hb (by omega),h5.mono hb (by omega),h6.at0 (hb.block 1 (by omega)),h7.trans (hb.mono (by omega)),h8.below hb (fun D hD=>by have:=ltD D hD;omega)⟩
     case assign =>
      intro m l x W' K hK
      gi_wp2
      exact hK
     case body =>
      rintro m l pre x W' ⟨g'',h1,h2,h3,h4,h5,h6,h7,h8⟩ x32;have hmix:Tryz.prog.follows .mixedOrders=true:=(by kernel_rfl);have cO:=h2.cell k;rw[us_get g'' k32]at cO;have fO:=h2.free k;have sO:=h2.lt;have cA:=h5.cell 0;simp only[Yh]at cA;have gx:=(h1 k k32).1;have k2:=two_lt x32;have K4:=fun o1 o2 o3 o4=>(h2.cell4 k o1 o2 o3 o4).trans (us_get g'' k32);have F4:=h2.free4 k;have K1':∀o,(W'.alloc o).cell? ⟨w.heap.size+1+1,k,none⟩=some (.int .u32 (g'' k:Int)):=fun o=>((h2.alloc o).cell k).trans (us_get g'' k32);have K1A:∀o,(W'.alloc o).cell? ⟨W.heap.size,0,none⟩=some (J9 (k:Int)):=fun o=>(h5.alloc o).cell 0;have K4A:=h5.cell4 0;simp only[Yh]at K4A;have x0i:(0:Int)<=k:=(by omega);have x1i:(k:Int)<32:=(by omega);have H1:=h_ h1;have H2:=h_ h2;have H3:=h_ h3;have H4:=h_ h4;have H5:=h_ h5;have H6:=h_ h6;have H7:=h_ h7;have H8:=h_ h8;clear h1 h2 h3 h4 h5 h6 h7 h8;gi_wp2_with fail
      gi_region_with_o (first | (refine callR ((qke _ _ x32).mono ?_);rintro e w' ⟨rfl,rfl⟩) | (refine callR ((qd0 _ _ _ gx k2).mono ?_);rintro e w' ⟨rfl,rfl⟩))
      all_goals
       gi_wp2_with fail;have hst:=qfw H2.u k32 (g'' k ||| 2 ^ x) (.cells (#[.int .u32 ((2 ^ x:Nat):Int)]) 124) (.cells #[.int .u32 (g'' k:Int)] 124) (.cells (#[.int .u32 ((2 ^ x:Nat):Int)]) 124) (.cells (#[.int .u32 ((g'' k ||| 2 ^ x:Nat):Int)]) 124);simp only[O9,Ou]at hst;obtain⟨s1,s2,s3,s4⟩:=hst;exact⟨s1,s2,_,qa0 H1.u k32 x32,s3,s2.blk H3.u (by omega),s2.blk H4.u (by omega),s2.blk H5.u (by omega),H6.u.keep s2 nX,H7.u.trans (s4 _ (by omega) sO),H8.u.keep s1⟩
     case done =>
      rintro D xs W' hD hS' ⟨g'',h1,h2,h3,h4,h5,h6,h7,h8⟩ hK;have HX:Hi (IsReach g'' (fun a b=>a<k+1/\Reach g a b)):=q6y h1 hS';have HSH':Hi (Shut w.heap.size W' (D :: Ds)):=h8.cons (by have:=HB.u.size;omega) hK (fun hm=>by have:=ltD D hm;omega);have H2:=h_ h2;have H3:=h_ h3;have H4:=h_ h4;have H6:=h_ h6;have H7:=h_ h7;clear h1 h2 h3 h4 h5 h6 h7 h8 hK hS';gi_wp2_with fail;refine⟨⟨k+1,g'',D :: Ds,⟨by omega,rfl⟩,by omega,HX.u,H2.u,H3.u,H4.u,H6.u,H7.u,HSH'.u⟩,?_⟩;simp[intOf];omega
   . obtain rfl:k=n:=by omega
     have dk:decide ((k:Int)<k)=false:=(by simp);have HREL:=h_ hrel;have HO:=h_ hO;have HRES:=h_ hRes;have HB:=h_ hB;have HSH:=h_ hSh;have sR:=hRes.lt;clear hrel hO hS hRes hT hB hSh;gi_wp2_with (first | (refine q05 rfl _ rfl (w.heap.size+1+1) g' rfl HO.u ?_) | (refine q02 rfl _ _ rfl (w.heap.size+1) (fun _=>0) g' rfl rfl HRES.u ?_;intro w2 hb2 hg2 hs2;replace hb2:=h_ hb2;replace hg2:=h_ hg2));refine q41 (B:=w.heap.size) Ds w2 (HSH.u.keep ⟨by omega,fun j o hj ho=>?_⟩) fun W' hk' hb'=>?_
     . refine(hg2.u.block j (Yr.1 hj).1 (fun e=>?_)).trans hj
       cases e;rw[show W.heap[w.heap.size+1]? = _ from HRES.u]at hj;cases hj;simp[Obj.isCells]at ho
     . refine⟨.agg (us g').toArray,results_cell_row rfl _ _ (w.heap.size+1) 126 (us g').toArray (0,0) _ rfl (hk'.blk hb2.u (fun h=>h)) Tryz.underlying126 rfl (qln g'),g',rfl,HREL.u,?_⟩
       exact(HB.u.trans ((bR w.heap.size _).grown hg2.u HB.u.size (fun j e=>by cases e;omega))).trans hb'
theorem q6z (g:Nat->Nat)(n:Nat)(w:World)(hn:n<=32)(hg:∀a,a<32->g a<4294967296)(ht:Tab w) :
 Calls Tryz.prog 83 #[.agg (us g).toArray,J9 n] w fun e w'=>∃g',e=.returned (.agg (us g').toArray)/\IsReach g' (fun a b=>a<n/\Reach g a b)/\Below w.heap.size w w' :=
 (callsIn_wide (n:=9)).1 (qa1 9 g n w hn hg ht)
end Go.Proofs.YtebbgodlijlioaaGreatDoor
