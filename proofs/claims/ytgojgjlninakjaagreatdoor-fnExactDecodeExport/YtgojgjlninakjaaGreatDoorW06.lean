import Derived.Test.YtgojgjlninakjaaGreatDoorW03
import Derived.Test.YtgojgjlninakjaaGreatDoorW01
set_option maxRecDepth 100000
set_option maxHeartbeats 64000000
namespace Go.Proofs.YtgojgjlninakjaaGreatDoor
open Go Go.RowKit Go.Shelf
attribute [local go_sem] Oper.semAt_some
def IsReach (g':Nat->Nat)(P:Nat->Nat->Prop):Prop:=∀a,a<32->g' a<4294967296/\∀b,((g' a).testBit b=true ↔ P a b)
theorem IsReach.congr {g':Nat->Nat}{P Q:Nat->Nat->Prop}(h:IsReach g' P)(hPQ:∀a b,P a b ↔ Q a b):IsReach g' Q:=fun a ha=>⟨(h a ha).1,fun b=>((h a ha).2 b).trans (hPQ a b)⟩
theorem qbr {g'':Nat->Nat}{P:Nat->Nat->Prop}{k x:Nat}{pre:List Nat}(h:IsReach g'' (fun a b=>P a b∨(a=k/\b∈pre)))(hk:k<32)(hx:x<32) :
 IsReach (fun j=>if j=k then g'' k ||| 2 ^ x else g'' j) (fun a b=>P a b∨(a=k/\b∈pre++[x])):=fun a ha=>by
 by_cases e:a=k
 . subst e
   simp only[if_true];refine⟨or_lt (h a ha).1 (two_lt hx),fun b=>?_⟩;rw[Oy,Zj,(h a ha).2 b,Z8,decide_eq_true_iff,Ze,Zi];constructor
   . rintro ((h1 | h1) | h1)
     . exact .inl h1
     . exact .inr ⟨by simp,.inl h1.2⟩
     . exact .inr ⟨by simp,.inr h1.symm⟩
   . rintro (h1 | ⟨-,h1 | h1⟩)
     . exact .inl (.inl h1)
     . exact .inl (.inr ⟨by simp,h1⟩)
     . exact .inr h1.symm
 . simp only[Yn e]
   refine⟨(h a ha).1,fun b=>?_⟩;rw[(h a ha).2 b];simp[e]
theorem q86 {g'' g:Nat->Nat}{k:Nat}{xs:List Nat}(h:IsReach g'' (fun a b=>(a<k/\Reach g a b)∨(a=k/\b∈xs)))(hx:∀i,i∈xs ↔ Reach g k i):IsReach g'' (fun a b=>a<k+1/\Reach g a b) :=
 h.congr fun a b=>by
  constructor
  . rintro (⟨h1,h2⟩ | ⟨rfl,h2⟩)
    . exact⟨by omega,h2⟩
    . exact⟨by omega,(hx b).1 h2⟩
  . rintro⟨h1,h2⟩
    by_cases e:a=k
    . subst e;exact .inr ⟨rfl,(hx b).2 h2⟩
    . exact .inl ⟨by omega,h2⟩
theorem qbs (m:Nat)(g:Nat->Nat)(n:Nat)(w:World)(hn:n<=32)(hg:∀a,a<32->g a<4294967296)(ht:Tab w) :
 CallsIn Fence.wide m Tryz.prog 147 #[.agg (us g).toArray,J6 n] w fun e w'=>∃g',e=.returned (.agg (us g').toArray)/\IsReach g' (fun a b=>a<n/\Reach g a b)/\Below w.heap.size w w':=by
 refine callsIn_of_wp_marks Tryz.func147 rfl trivial ?_ rfl
 simp only[Tryz.ntmps147,Y8,Yl,Yt,Nat.reduceAdd,Nat.reduceSub,Vr,Vq,V5,Vt,Vn,Zm]
 gi_wp2_with (refine q02 rfl _ _ rfl (w.heap.size+1+1) (fun _=>0) (fun _=>0) rfl rfl (blk3 _ _ _ _ _ rfl) ?_;intro w1 hb1 hg1 hs1;have hA:=(blk1 _ _ _ _ _).grown hg1 (by simp;omega);have hR:=(blk2 _ _ _ _ (fun _=>0) rfl).grown hg1 (by simp);have hB:=(below3 _ _ _ _).trans ((bR w.heap.size _).grown hg1 (by simp;omega) (fun k e=>by cases e;omega));replace hA:=h_ hA;replace hR:=h_ hR;replace hB:=h_ hB;replace hb1:=h_ hb1;clear hg1 hs1)
 refine wpIn_loop (fun a W=>∃(k:Nat) (g':Nat->Nat) (Ds:List Nat) (u6 u7 u8 u11 u12 u13 u14 u15 u16 u17 u18 u19 u20 u21 u22 u23 u24 u25 u26:Value),a = { tmps:=#[.agg (us g).toArray,J6 (n:Int),J9 w.heap.size 0,undef,J9 (w.heap.size+1) 0,J9 (w.heap.size+1+1) 0,u6,u7,u8,J6 (n:Int),J6 (k:Int),u11,u12,u13,u14,u15,u16,u17,u18,u19,u20,u21,u22,u23,u24,u25,u26],defers:=marks Ds }/\k<=n/\IsReach g' (fun a b=>a<k/\Reach g a b)/\Blk W (w.heap.size+1+1) 218 (us g')/\Blk W w.heap.size 218 (us g)/\Blk W (w.heap.size+1) 218 (us fun _=>0)/\Tab W/\Below w.heap.size w W/\Shut w.heap.size W Ds) (fun a _=>n - (intOf (a.tmps.getD 10 undef)).toNat) ?_ ?_
 . refine⟨0,fun _=>0,[],_,_,_,_,_,_,_,_,_,_,_,_,_,_,_,_,_,_,_,rfl,nZ _,fun a _=>⟨by simp,fun b=>by simp⟩,hb1.u,hA.u,hR.u,ht.mono hB.u,hB.u,Shut.nil _ _⟩
 . clear hb1 hA hR hB
   rintro a W ⟨k,g',Ds,u6,u7,u8,u11,u12,u13,u14,u15,u16,u17,u18,u19,u20,u21,u22,u23,u24,u25,u26,rfl,hk,hrel,hO,hS,hRes,hT,hB,hSh⟩;by_cases hlt:k<n
   . have dk:decide ((k:Int)<n)=true:=by simp;omega
     have k32:k<32:=(by omega);have sS:=hS.lt;have HREL:=h_ hrel;have HO:=h_ hO;have HS:=h_ hS;have HRES:=h_ hRes;have HT:=h_ hT;have HB:=h_ hB;have HSH:=h_ hSh;clear hrel hO hS hRes hT hB hSh;gi_wp2_with (refine q06 rfl _ rfl w.heap.size g rfl (HS.u.alloc _) ?_);refine callW ((qba _ _ _).mono ?_);rintro e w2 ⟨rfl,rfl⟩;gi_wp2_with fail;have bA:=((Blk.new W 3 #[J6 (k:Int)]).alloc (.cells (us g).toArray 218)).alloc (.cells #[J6 (k:Int)] 3);have bG:=(Blk.new (W.alloc (.cells #[J6 (k:Int)] 3)) 218 (us g).toArray).alloc (.cells #[J6 (k:Int)] 3);have bK:=Blk.new ((W.alloc (.cells #[J6 (k:Int)] 3)).alloc (.cells (us g).toArray 218)) 3 #[J6 (k:Int)];have bW:=below3 W (.cells #[J6 (k:Int)] 3) (.cells (us g).toArray 218) (.cells #[J6 (k:Int)] 3);have z5:(((W.alloc (.cells #[J6 (k:Int)] 3)).alloc (.cells (us g).toArray 218)).alloc (.cells #[J6 (k:Int)] 3)).heap.size=W.heap.size+1+1+1:=(by simp);simp only[Yk]at bG bK;obtain⟨W5,hW5⟩:=Nq (((W.alloc (.cells #[J6 (k:Int)] 3)).alloc (.cells (us g).toArray 218)).alloc (.cells #[J6 (k:Int)] 3));rw[hW5]at bA bG bK bW z5⊢;clear hW5;have lO:=HO.u.lt;have ltD:=HSH.u.lt;have w0:=HT.u.pos;have nX:¬ (5=w.heap.size+1+1):=(by have:=ht.pos;omega);refine qe2 (gf:=230) (lb:=#[J9 (W.heap.size+1+1) 0,J9 (W.heap.size+1) 0]) rfl (enters_of Tryz.func230 (by kernel_rfl) rfl)
      (q56 (W.heap.size+1+1) (W.heap.size+1) k g W5 (fun j=>j=w.heap.size+1+1) k32 hg bK bG (HT.u.mono bW) (by omega) nX) (bR _ _) (fun j hj=>by omega) rfl
      (fun pre W'=>∃g'',IsReach g'' (fun a b=>(a<k/\Reach g a b)∨(a=k/\b∈pre))/\Blk W' (w.heap.size+1+1) 218 (us g'')/\Blk W' w.heap.size 218 (us g)/\Blk W' (w.heap.size+1) 218 (us fun _=>0)/\Blk W' W.heap.size 3 [J6 (k:Int)]/\Tab W'/\Below w.heap.size w W'/\Shut w.heap.size W' Ds)
      (fun _ _=>False) ?hI (fun _ _ _ h _=>h)
      ⟨g',HREL.u.congr fun a b=>by simp,HO.u.mono bW lO,HS.u.mono bW sS,HRES.u.mono bW HRES.u.lt,bA,HT.u.mono bW,HB.u.trans (bW.mono HB.u.size),HSH.u.below bW ltD⟩
      (fun x=>{ tmps:=#[.agg (us g).toArray,J6 (n:Int),J9 w.heap.size 0,undef,J9 (w.heap.size+1) 0,J9 (w.heap.size+1+1) 0,J9 W.heap.size 0,J6 (x:Int),u8,J6 (n:Int),J6 (k:Int),.bool true,J6 (k:Int),.agg (us g).toArray,J6 (k:Int),.func (.func 230) #[] #[J9 (W.heap.size+1+1) 0,J9 (W.heap.size+1) 0],J6 (x:Int),u17,u18,u19,u20,u21,u22,u23,u24,u25,u26],defers:=[] })
      ?assign ?body ?done (fun _ _ _ _ _ h _=>h.elim)
     case hI =>
      rintro pre W1 W2 ⟨g'',h1,h2,h3,h4,h5,h6,h7,h8⟩ hb;rw[z5]at hb;exact⟨g'',h1,h2.mono hb (by omega),h3.mono hb (by omega),h4.mono hb (by omega),h5.mono hb (by omega),h6.at0 (hb.block 5 (by omega)),h7.trans (hb.mono (by omega)),h8.below hb (fun D hD=>by have:=ltD D hD;omega)⟩
     case assign =>
      intro m l x W' K hK
      gi_wp2
      exact hK
     case body =>
      rintro m l pre x W' ⟨g'',h1,h2,h3,h4,h5,h6,h7,h8⟩ x32;have hmix:Tryz.prog.follows .mixedOrders=true:=(by kernel_rfl);have cO:=h2.cell k;rw[us_get g'' k32]at cO;have fO:=h2.free k;have sO:=h2.lt;have cA:=h5.cell 0;simp only[Yg]at cA;have gx:=(h1 k k32).1;have k2:=two_lt x32;have K4:=fun o1 o2 o3 o4=>(h2.cell4 k o1 o2 o3 o4).trans (us_get g'' k32);have F4:=h2.free4 k;have K1':∀o,(W'.alloc o).cell? ⟨w.heap.size+1+1,k,none⟩=some (.int .u32 (g'' k:Int)):=fun o=>((h2.alloc o).cell k).trans (us_get g'' k32);have K1A:∀o,(W'.alloc o).cell? ⟨W.heap.size,0,none⟩=some (J6 (k:Int)):=fun o=>(h5.alloc o).cell 0;have K4A:=h5.cell4 0;simp only[Yg]at K4A;have x0i:(0:Int)<=k:=(by omega);have x1i:(k:Int)<32:=(by omega);have H1:=h_ h1;have H2:=h_ h2;have H3:=h_ h3;have H4:=h_ h4;have H5:=h_ h5;have H6:=h_ h6;have H7:=h_ h7;have H8:=h_ h8;clear h1 h2 h3 h4 h5 h6 h7 h8;gi_wp2_with fail
      gi_region_with_o (first | (refine callR ((qmq _ _ x32).mono ?_);rintro e w' ⟨rfl,rfl⟩) | (refine callR ((qf4 _ _ _ gx k2).mono ?_);rintro e w' ⟨rfl,rfl⟩))
      all_goals
       gi_wp2_with fail;have hst:=qi1 H2.u k32 (g'' k ||| 2 ^ x) (.cells (#[.int .u32 ((2 ^ x:Nat):Int)]) 216) (.cells #[.int .u32 (g'' k:Int)] 216) (.cells (#[.int .u32 ((2 ^ x:Nat):Int)]) 216) (.cells (#[.int .u32 ((g'' k ||| 2 ^ x:Nat):Int)]) 216);simp only[Gb,Zq]at hst;obtain⟨s1,s2,s3,s4⟩:=hst;exact⟨s1,s2,_,qbr H1.u k32 x32,s3,s2.blk H3.u (by omega),s2.blk H4.u (by omega),s2.blk H5.u (by omega),H6.u.keep s2 nX,H7.u.trans (s4 _ (by omega) sO),H8.u.keep s1⟩
     case done =>
      rintro D xs W' hD hS' ⟨g'',h1,h2,h3,h4,h5,h6,h7,h8⟩ hK;have HX:Hi (IsReach g'' (fun a b=>a<k+1/\Reach g a b)):=q86 h1 hS';have HSH':Hi (Shut w.heap.size W' (D :: Ds)):=h8.cons (by have:=HB.u.size;omega) hK (fun hm=>by have:=ltD D hm;omega);have H2:=h_ h2;have H3:=h_ h3;have H4:=h_ h4;have H6:=h_ h6;have H7:=h_ h7;clear h1 h2 h3 h4 h5 h6 h7 h8 hK hS';gi_wp2_with fail;refine⟨⟨k+1,g'',D :: Ds,⟨by omega,rfl⟩,by omega,HX.u,H2.u,H3.u,H4.u,H6.u,H7.u,HSH'.u⟩,?_⟩;simp[intOf];omega
   . obtain rfl:k=n:=by omega
     have dk:decide ((k:Int)<k)=false:=(by simp);have HREL:=h_ hrel;have HO:=h_ hO;have HRES:=h_ hRes;have HB:=h_ hB;have HSH:=h_ hSh;have sR:=hRes.lt;clear hrel hO hS hRes hT hB hSh;gi_wp2_with (first | (refine q06 rfl _ rfl (w.heap.size+1+1) g' rfl HO.u ?_) | (refine q02 rfl _ _ rfl (w.heap.size+1) (fun _=>0) g' rfl rfl HRES.u ?_;intro w2 hb2 hg2 hs2;replace hb2:=h_ hb2;replace hg2:=h_ hg2));refine q4d (B:=w.heap.size) Ds w2 (HSH.u.keep ⟨by omega,fun j o hj ho=>?_⟩) fun W' hk' hb'=>?_
     . refine(hg2.u.block j (Yr.1 hj).1 (fun e=>?_)).trans hj
       cases e;rw[show W.heap[w.heap.size+1]? = _ from HRES.u]at hj;cases hj;simp[Obj.isCells]at ho
     . refine⟨.agg (us g').toArray,results_cell_row rfl _ _ (w.heap.size+1) 218 (us g').toArray (0,0) _ rfl (hk'.blk hb2.u (fun h=>h)) Tryz.underlying218 rfl (qnr g'),g',rfl,HREL.u,?_⟩
       exact(HB.u.trans ((bR w.heap.size _).grown hg2.u HB.u.size (fun j e=>by cases e;omega))).trans hb'
theorem q87 (g:Nat->Nat)(n:Nat)(w:World)(hn:n<=32)(hg:∀a,a<32->g a<4294967296)(ht:Tab w) :
 Calls Tryz.prog 147 #[.agg (us g).toArray,J6 n] w fun e w'=>∃g',e=.returned (.agg (us g').toArray)/\IsReach g' (fun a b=>a<n/\Reach g a b)/\Below w.heap.size w w' :=
 (callsIn_wide (n:=9)).1 (qbs 9 g n w hn hg ht)
end Go.Proofs.YtgojgjlninakjaaGreatDoor
namespace Go.Proofs.YtgojgjlninakjaaGreatDoor
open Go Go.RowKit
theorem q9a (v:Value)(l:List Nat)(w:World)(hv:DigS w v l)(hd:Dig l)(hl:l.length<=1000) :
 Calls Tryz.prog 109 #[v] w fun e w'=>∃u,e=.returned u/\DigS w u (digs (dval l))/\w'=w:=by
 obtain⟨a,cap,rfl,hc,hn,hI⟩:=hv
 go_enter Tryz.func109,Tryz.ntmps109
 go_wp2
 go_loopw [3] (fun i wr=>∃k:Nat,k<=l.length/\i=J6 k/\(∀j,k<=j->j<l.length->l.getD j 0=0)/\wr=w) (fun i _=>(intOf i).toNat)
 case atStart=>exact⟨l.length,nR _,rfl,fun j h h'=>absurd h' (by omega),rfl⟩
 case round =>
  obtain⟨k,hk,rfl,hz,rfl⟩:=hrel;have HZ:=h_ hz;clear hz;have fin:(k=0∨l.getD (k - 1) 0≠0)->DigS wr (.slice a k cap) (digs (dval l)):=fun h=>by
   have e:=qo9 hd hk HZ.u h;have el:(l.take k).length=k:=by simp;omega
   refine⟨a,cap,by rw[<- e,el],by rw[<- e,el];omega,hn,?_⟩;rw[<- e,el];intro j hj;obtain⟨b,off,e1,h1,h2⟩:=hI j (by omega);exact⟨b,off,e1,h1,by rw[h2];simp[List.getD,hj]⟩
  have HF:=h_ fin;clear fin;cases k with
  | zero =>
   go_wp2;go_ret;exact⟨_,rfl,HF.u (.inl trivial),rfl⟩
  | succ k =>
   obtain⟨b,off,rfl,hb,hcell⟩:=hI k (by omega);obtain⟨d,hD⟩:=Nq (l.getD k 0);dsimp only at hcell;rw[hD]at hcell;by_cases h0:d=0
   . go_wp2
     go_roundw
     case rel=>exact⟨k,by omega,rfl,fun j hj hj'=>by
      by_cases e:j=k
      . subst e;rw[hD];exact h0
      . exact HZ.u j (by omega) hj',trivial⟩
     case measure=>simp[intOf]
   . go_wp2
     go_ret;exact⟨_,rfl,HF.u (.inr (by rw[Nat.add_sub_cancel,hD];exact h0)),rfl⟩
theorem q66 (v:Value)(l:List Nat)(i:Nat)(w:World)(hv:DigS w v l)(d:Nat)(hd:l.getD i 0=d) :
 Calls Tryz.prog 250 #[v,J6 i] w fun e w'=>e=.returned (J6 d)/\w'=w:=by
 obtain⟨a,cap,rfl,hc,hn,hI⟩:=hv
 by_cases h:i<l.length
 . obtain⟨b,off,rfl,hb,hcell⟩:=hI i h
   dsimp only at hcell;rw[hd]at hcell;go_enter Tryz.func250,Tryz.ntmps250;go_wp2;go_ret;exact⟨rfl,rfl⟩
 . obtain rfl:d=0:=by rw[<- hd];simp[List.getD,List.getElem?_eq_none (by omega:l.length<=i)]
   go_enter Tryz.func250,Tryz.ntmps250;go_wp2;go_ret;exact⟨rfl,rfl⟩
theorem q2l (v u:Value)(l m:List Nat)(w:World)(hv:DigS w v l)(hu:DigS w u m)(hl:Dig l)(hm:Dig m)(bl:l.length<=1000)(bm:m.length<=1000)(V:Bool)(hV:V=true ↔ dval l<dval m) :
 Calls Tryz.prog 215 #[v,u] w fun e w'=>e=.returned (.bool V)/\∃n,w'=w.drewN n:=by
 have HV:=h_ hV;clear hV
 have L1:(digs (dval l)).length<=1000:=Zf (q1i (qkp hl)) bl
 have L2:(digs (dval m)).length<=1000:=Zf (q1i (qkp hm)) bm
 have HU:=h_ hu;clear hu
 go_enter Tryz.func215,Tryz.ntmps215
 go_wp2_with fail
 refine(q9a v l w hv hl bl).mono ?_
 rintro e w1 ⟨v1,rfl,hv1,rfl⟩
 have HV1:=h_ hv1;clear hv1 hv
 go_wp2_with fail
 refine(q9a u m w1 HU.u hm bm).mono ?_
 rintro e w2 ⟨u1,rfl,hu1,rfl⟩
 obtain⟨a,ca,rfl,-,-,hA⟩:=HV1.u
 obtain⟨b,cb,rfl,-,-,hB⟩:=hu1
 clear HV1 HU
 generalize dval l=x at *
 generalize dval m=y at *
 by_cases hlen:(digs x).length=(digs y).length
 . rw[hlen]at hA⊢
   go_wp2;go_loopw [5] (fun i wr=>∃k n:Nat,k<=(digs y).length/\i=J6 ((k:Int) - 1)/\x / 10 ^ k=y / 10 ^ k/\wr=w2.drewN n) (fun i _=>(intOf i+1).toNat)
   case atStart =>
    refine⟨(digs y).length,0,nR _,rfl,?_,rfl⟩;rw[Z3 (by rw[<- hlen];exact qm9 x),Z3 (qm9 y)]
   case round =>
    obtain⟨k,n,hk,rfl,hq,rfl⟩:=hrel;cases k with
    | zero =>
     have hf:V=false:=by
      cases V with
      | false=>rfl
      | true=>have:=HV.u.1 rfl;simp at hq;omega
     subst hf;go_wp2;go_ret;exact⟨rfl,_,rfl⟩
    | succ k =>
     rw[show((k+1:Nat):Int) - 1=(k:Int) by omega];obtain⟨b1,o1,rfl,-,c1⟩:=hA k (by omega);obtain⟨b2,o2,rfl,-,c2⟩:=hB k (by omega);dsimp only at c1 c2;rw[qkm]at c1 c2;have s1:=qfy x k;have s2:=qfy y k;obtain⟨d,hd⟩:=Nq (x / 10 ^ k % 10);obtain⟨f,hf⟩:=Nq (y / 10 ^ k % 10);rw[hd]at c1 s1;rw[hf]at c2 s2;have HQ:=h_ hq;have HS:=h_ (And.intro s1 s2);clear hq s1 s2 hd hf;by_cases hdf:d=f
     . subst hdf
       go_wp2
       go_quiet (fail)
       go_wp2;go_roundw
       case rel=>exact⟨k,_,by omega,rfl,by have:=HQ.u;have:=HS.u;omega,rfl⟩
       case measure=>simp[intOf]
     . have hc:V=decide (d<f):=by
        rw[Zk,HV.u,Yh];have q:=HQ.u;have s:=HS.u;refine⟨fun h=>?_,fun h=>qc6 (p:=10 ^ k) (by omega)⟩;rcases Nat.lt_or_ge d f with h' | h'
        . omega
        . exact absurd h (by have:=qc6 (m:=y) (n:=x) (p:=10 ^ k) (by omega);omega)
       have HC:=h_ hc;clear hc;go_wp2
       go_quiet (fail)
       go_wp2
       go_quiet (fail)
       go_wp2;go_ret;exact⟨qia HC.u.symm,_,by rw[q5m,q5m]⟩
 . have hc:V=decide ((digs x).length<(digs y).length):=by
    rw[Zk,HV.u,Yh];refine⟨fun h=>?_,fun h=>q5l (by omega)⟩;rcases Nat.lt_or_ge (digs x).length (digs y).length with h' | h'
    . omega
    . exact absurd h (by have:=q5l (m:=y) (n:=x) (by omega);omega)
   have HC:=h_ hc;clear hc;go_wp2;go_ret;exact⟨qia HC.u.symm,0,rfl⟩
theorem Dig.getD {l:List Nat}(h:Dig l)(i:Nat):l.getD i 0<10:=by rw[dig_at h];exact Nat.mod_lt _ (by decide)
theorem qml {l:List Nat}(h:Dig l){n:Nat}(hn:l.length<=n):dval l % 10 ^ n=dval l:=Z2 (Ys (qkp h) (Vp (by decide) hn))
theorem q46 (v u:Value)(l m:List Nat)(w:World)(hv:DigS w v l)(hu:DigS w u m)(hl:Dig l)(hm:Dig m)(bl:l.length<=500)(bm:m.length<=500) :
 Calls Tryz.prog 214 #[v,u] w fun e w'=>∃r,e=.returned r/\DigS w' r (digs (dval l+dval m))/\Below w.heap.size w w':=by
 have HB0:Hi (Below w.heap.size w (w.alloc (.cells #[] 3))):=(bR _ _).alloc (nR _) _
 obtain⟨a,ca,rfl,-,-,hA⟩:=id hv
 obtain⟨b,cb,rfl,-,-,hB⟩:=id hu
 have HV:=h_ hv;have HU:=h_ hu;clear hv hu hA hB
 obtain⟨n,hn⟩:∃n,n=if m.length > l.length then m.length else l.length:=⟨_,rfl⟩
 have hn1:l.length<=n:=by rw[hn];split <;> omega
 have hn2:m.length<=n:=by rw[hn];split <;> omega
 have bn:n<=500:=by rw[hn];split <;> omega
 have HN:=h_ (And.intro hn1 hn2)
 by_cases hg:m.length > l.length
 . rw[Yv hg]at hn
   rw[<- hn]at HU hg⊢;clear hn hn1 hn2;go_enter Tryz.func214,Tryz.ntmps214;go_wp2_with fail;go_loopw [6,7,8] (fun out c i wr=>∃(k cc:Nat) (o:List Nat),k<=n+1/\i=J6 k/\c=J6 cc/\cc<=1/\o.length=k/\Dig o/\dval o+cc*10 ^ k=dval l % 10 ^ k+dval m % 10 ^ k/\wr.ownsRow w.heap.size 3 1 out k (ui o)/\Below w.heap.size w wr) (fun _ _ i _=>n+1 - (intOf i).toNat)
   case atStart=>exact⟨0,0,[],by omega,rfl,rfl,by omega,rfl,(fun d hd=>by cases hd),by simp[dval,Nat.mod_one],qdx w 3,HB0.u⟩
   case round =>
    clear HB0;obtain⟨k,cc,o,hk,rfl,rfl,hcc,hol,hod,hval,hown,hb⟩:=hrel;have HO:=h_ hown;have HB:=h_ hb;have HD:=h_ (And.intro hod hval);have HOL:=h_ hol;clear hown hod hval hol;by_cases hlt:k<=n
    . obtain⟨x,hx⟩:=Nq (l.getD k 0)
      obtain⟨y,hy⟩:=Nq (m.getD k 0);have hx10:x<10:=(by rw[<- hx];exact hl.getD k);have hy10:y<10:=(by rw[<- hy];exact hm.getD k);have HX:=h_ hx;have HY:=h_ hy;clear hx hy;have V2:=h_ (HV.u.mono hb);have U2:=h_ (HU.u.mono hb);clear hb;go_wp2_with fail;refine(q66 _ l k wr V2.u x HX.u).mono ?_;rintro e w' ⟨rfl,rfl⟩;go_wp2_with fail;refine(q66 _ m k w' U2.u y HY.u).mono ?_;rintro e w'' ⟨rfl,rfl⟩;have hs10:(x+y+cc) / 10<=1:=(by omega);obtain⟨i0,hi,hz0,hz1,hz2⟩:=info_parts infoI;go_wp2_with (at_builtin;refine wpList_append_own _ rfl _ _ 77 rfl w.heap.size 3 i0 _ 1 8 Tryz.underlying77 hi hz0 hz1 hz2 rfl (by omega) u6 _ _ rfl (HO.u.alloc _) ⟨w''.heap.size,0,none⟩ 1 1 [J6 (((x:Int)+y+cc) % 10)] rfl rfl (qfl w'' 3 _) (by simp[Value.oneCell']) (by unfold maxLen;omega) (by omega) (by have:=HB.u.size;simp;omega) ?_);intro v' w' hown' hgrow' _;have hB':=(HB.u.alloc (by have:=HB.u.size;omega) (.cells #[J6 (((x:Int)+y+cc) % 10)] 3)).grown hgrow' (by have:=HB.u.size;simp;omega) (fun q' e=>qa0 HO.u e);have HO3:Hi (w'.ownsRow w.heap.size 3 1 v' (k+1) (ui (o++[(x+y+cc) % 10]))):=by
       rw[Hi];simpa [ui] using hown'
      have HB3:=h_ hB';clear hown' hgrow' hB' hi hz0 hz1 hz2;go_wp2_with fail;go_roundw
      case rel =>
       refine⟨k+1,(x+y+cc) / 10,o++[(x+y+cc) % 10],by omega,by go_num,by go_num,hs10,?_,?_,?_,HO3.u,HB3.u⟩
       . have:=HOL.u;simp[this]
       . exact HD.u.1.snoc (by omega)
       . rw[qc8,HOL.u,qha,qha,<- dig_at hl,<- dig_at hm,HX.u,HY.u]
         exact qfd HD.u.2 rfl
      case measure=>simp[intOf];omega
    . obtain rfl:k=n+1:=by omega
      have h1:=HD.u.2;rw[qml hl (by have:=HN.u;omega),qml hm (by have:=HN.u;omega)]at h1;have hc0:cc=0:=by
       have h2:=Ys (qkp hl) (Vp (n:=10) (by decide) HN.u.1);have h3:=Ys (qkp hm) (Vp (n:=10) (by decide) HN.u.2);rw[Nat.pow_succ]at h1;rcases (by omega:cc=0∨cc=1) with h | h
       . exact h
       . subst h;omega
      subst hc0;have hval:dval o=dval l+dval m:=(by omega);have hdo:=HD.u.1;have HOd:DigS wr u6 o:=(by have:=HO.u;rw[<- HOL.u]at this;exact q3j this);have hol:o.length<=1000:=(by have:=HOL.u;omega);clear HD HO HOL h1;go_wp2_with fail;refine(q9a u6 o wr HOd hdo hol).mono ?_;rintro e w' ⟨r,rfl,hr,rfl⟩;rw[hval]at hr;have HR:=h_ hr;clear hr;go_wp2;go_ret;exact⟨_,rfl,HR.u,HB.u⟩
 . rw[Yn hg]at hn
   rw[<- hn]at HV hg⊢;clear hn hn1 hn2;go_enter Tryz.func214,Tryz.ntmps214;go_wp2_with fail;go_loopw [6,7,8] (fun out c i wr=>∃(k cc:Nat) (o:List Nat),k<=n+1/\i=J6 k/\c=J6 cc/\cc<=1/\o.length=k/\Dig o/\dval o+cc*10 ^ k=dval l % 10 ^ k+dval m % 10 ^ k/\wr.ownsRow w.heap.size 3 1 out k (ui o)/\Below w.heap.size w wr) (fun _ _ i _=>n+1 - (intOf i).toNat)
   case atStart=>exact⟨0,0,[],by omega,rfl,rfl,by omega,rfl,(fun d hd=>by cases hd),by simp[dval,Nat.mod_one],qdx w 3,HB0.u⟩
   case round =>
    clear HB0;obtain⟨k,cc,o,hk,rfl,rfl,hcc,hol,hod,hval,hown,hb⟩:=hrel;have HO:=h_ hown;have HB:=h_ hb;have HD:=h_ (And.intro hod hval);have HOL:=h_ hol;clear hown hod hval hol;by_cases hlt:k<=n
    . obtain⟨x,hx⟩:=Nq (l.getD k 0)
      obtain⟨y,hy⟩:=Nq (m.getD k 0);have hx10:x<10:=(by rw[<- hx];exact hl.getD k);have hy10:y<10:=(by rw[<- hy];exact hm.getD k);have HX:=h_ hx;have HY:=h_ hy;clear hx hy;have V2:=h_ (HV.u.mono hb);have U2:=h_ (HU.u.mono hb);clear hb;go_wp2_with fail;refine(q66 _ l k wr V2.u x HX.u).mono ?_;rintro e w' ⟨rfl,rfl⟩;go_wp2_with fail;refine(q66 _ m k w' U2.u y HY.u).mono ?_;rintro e w'' ⟨rfl,rfl⟩;have hs10:(x+y+cc) / 10<=1:=(by omega);obtain⟨i0,hi,hz0,hz1,hz2⟩:=info_parts infoI;go_wp2_with (at_builtin;refine wpList_append_own _ rfl _ _ 77 rfl w.heap.size 3 i0 _ 1 8 Tryz.underlying77 hi hz0 hz1 hz2 rfl (by omega) u6 _ _ rfl (HO.u.alloc _) ⟨w''.heap.size,0,none⟩ 1 1 [J6 (((x:Int)+y+cc) % 10)] rfl rfl (qfl w'' 3 _) (by simp[Value.oneCell']) (by unfold maxLen;omega) (by omega) (by have:=HB.u.size;simp;omega) ?_);intro v' w' hown' hgrow' _;have hB':=(HB.u.alloc (by have:=HB.u.size;omega) (.cells #[J6 (((x:Int)+y+cc) % 10)] 3)).grown hgrow' (by have:=HB.u.size;simp;omega) (fun q' e=>qa0 HO.u e);have HO3:Hi (w'.ownsRow w.heap.size 3 1 v' (k+1) (ui (o++[(x+y+cc) % 10]))):=by
       rw[Hi];simpa [ui] using hown'
      have HB3:=h_ hB';clear hown' hgrow' hB' hi hz0 hz1 hz2;go_wp2_with fail;go_roundw
      case rel =>
       refine⟨k+1,(x+y+cc) / 10,o++[(x+y+cc) % 10],by omega,by go_num,by go_num,hs10,?_,?_,?_,HO3.u,HB3.u⟩
       . have:=HOL.u;simp[this]
       . exact HD.u.1.snoc (by omega)
       . rw[qc8,HOL.u,qha,qha,<- dig_at hl,<- dig_at hm,HX.u,HY.u]
         exact qfd HD.u.2 rfl
      case measure=>simp[intOf];omega
    . obtain rfl:k=n+1:=by omega
      have h1:=HD.u.2;rw[qml hl (by have:=HN.u;omega),qml hm (by have:=HN.u;omega)]at h1;have hc0:cc=0:=by
       have h2:=Ys (qkp hl) (Vp (n:=10) (by decide) HN.u.1);have h3:=Ys (qkp hm) (Vp (n:=10) (by decide) HN.u.2);rw[Nat.pow_succ]at h1;rcases (by omega:cc=0∨cc=1) with h | h
       . exact h
       . subst h;omega
      subst hc0;have hval:dval o=dval l+dval m:=(by omega);have hdo:=HD.u.1;have HOd:DigS wr u6 o:=(by have:=HO.u;rw[<- HOL.u]at this;exact q3j this);have hol:o.length<=1000:=(by have:=HOL.u;omega);clear HD HO HOL h1;go_wp2_with fail;refine(q9a u6 o wr HOd hdo hol).mono ?_;rintro e w' ⟨r,rfl,hr,rfl⟩;rw[hval]at hr;have HR:=h_ hr;clear hr;go_wp2;go_ret;exact⟨_,rfl,HR.u,HB.u⟩
theorem q47 (v u:Value)(l m:List Nat)(w:World)(hv:DigS w v l)(hu:DigS w u m)(hl:Dig l)(hm:Dig m)(bl:l.length<=500)(hle:dval m<=dval l) :
 Calls Tryz.prog 216 #[v,u] w fun e w'=>∃r,e=.returned r/\DigS w' r (digs (dval l - dval m))/\Below w.heap.size w w':=by
 have HB0:Hi (Below w.heap.size w (w.alloc (.cells #[] 3))):=(bR _ _).alloc (nR _) _
 obtain⟨a,ca,rfl,-,-,hA⟩:=id hv
 obtain⟨b,cb,rfl,-,-,hB⟩:=id hu
 have HV:=h_ hv;have HU:=h_ hu;have HLE:=h_ hle;clear hv hu hA hB hle
 go_enter Tryz.func216,Tryz.ntmps216
 go_wp2_with fail
 go_loopw [5,6,7] (fun out c i wr=>∃(k cc:Nat) (o:List Nat),k<=l.length/\i=J6 k/\c=J6 cc/\cc<=1/\o.length=k/\Dig o/\dval l % 10 ^ k+cc*10 ^ k=dval o+dval m % 10 ^ k/\wr.ownsRow w.heap.size 3 1 out k (ui o)/\Below w.heap.size w wr) (fun _ _ i _=>l.length - (intOf i).toNat)
 case atStart=>exact⟨0,0,[],by omega,rfl,rfl,by omega,rfl,(fun d hd=>by cases hd),by simp[dval,Nat.mod_one],qdx w 3,HB0.u⟩
 case round =>
  clear HB0;obtain⟨k,cc,o,hk,rfl,rfl,hcc,hol,hod,hval,hown,hb⟩:=hrel;have HO:=h_ hown;have HB:=h_ hb;have HD:=h_ (And.intro hod hval);have HOL:=h_ hol;clear hown hod hval hol;by_cases hlt:k<l.length
  . obtain⟨x,hx⟩:=Nq (l.getD k 0)
    obtain⟨y,hy⟩:=Nq (m.getD k 0);have hx10:x<10:=(by rw[<- hx];exact hl.getD k);have hy10:y<10:=(by rw[<- hy];exact hm.getD k);have HX:=h_ hx;have HY:=h_ hy;clear hx hy;have V2:=h_ (HV.u.mono hb);have U2:=h_ (HU.u.mono hb);clear hb;go_wp2_with fail;refine(q66 _ l k wr V2.u x HX.u).mono ?_;rintro e w' ⟨rfl,rfl⟩;go_wp2_with fail;refine(q66 _ m k w' U2.u y HY.u).mono ?_;rintro e w'' ⟨rfl,rfl⟩;by_cases hneg:x<y+cc
    . have hn':(x:Int) - y - cc<0:=by omega
      obtain⟨i0,hi,hz0,hz1,hz2⟩:=info_parts infoI;go_wp2_with (at_builtin;refine wpList_append_own _ rfl _ _ 77 rfl w.heap.size 3 i0 _ 1 8 Tryz.underlying77 hi hz0 hz1 hz2 rfl (by omega) u5 _ _ rfl (HO.u.alloc _) ⟨w''.heap.size,0,none⟩ 1 1 [J6 ((x:Int) - y - cc+10)] rfl rfl (qfl w'' 3 _) (by simp[Value.oneCell']) (by unfold maxLen;omega) (by omega) (by have:=HB.u.size;simp;omega) ?_);intro v' w' hown' hgrow' _;have hB':=(HB.u.alloc (by have:=HB.u.size;omega) (.cells #[J6 ((x:Int) - y - cc+10)] 3)).grown hgrow' (by have:=HB.u.size;simp;omega) (fun q' e=>qa0 HO.u e);have HO3:Hi (w'.ownsRow w.heap.size 3 1 v' (k+1) (ui (o++[x+10 - y - cc]))):=by
       rw[Hi];rw[show(x:Int) - y - cc+10=((x+10 - y - cc:Nat):Int) by omega]at hown';simpa [ui] using hown'
      have HB3:=h_ hB';clear hown' hgrow' hB' hi hz0 hz1 hz2;go_wp2_with fail;go_roundw
      case rel =>
       refine⟨k+1,1,o++[x+10 - y - cc],by omega,by go_num,rfl,by omega,?_,?_,?_,HO3.u,HB3.u⟩
       . have:=HOL.u;simp[this]
       . exact HD.u.1.snoc (by omega)
       . rw[qc8,HOL.u,qha,qha,<- dig_at hl,<- dig_at hm,HX.u,HY.u]
         obtain⟨d,b,h1,h2,h3,h4,h5⟩:=qiy HD.u.2 hcc hx10 hy10;obtain rfl:b=1:=(by omega);obtain rfl:d=x+10 - y - cc:=(by omega);exact h5
      case measure=>simp[intOf];omega
    . have hn':0<=(x:Int) - y - cc:=by omega
      obtain⟨i0,hi,hz0,hz1,hz2⟩:=info_parts infoI;go_wp2_with (at_builtin;refine wpList_append_own _ rfl _ _ 77 rfl w.heap.size 3 i0 _ 1 8 Tryz.underlying77 hi hz0 hz1 hz2 rfl (by omega) u5 _ _ rfl (HO.u.alloc _) ⟨w''.heap.size,0,none⟩ 1 1 [J6 ((x:Int) - y - cc)] rfl rfl (qfl w'' 3 _) (by simp[Value.oneCell']) (by unfold maxLen;omega) (by omega) (by have:=HB.u.size;simp;omega) ?_);intro v' w' hown' hgrow' _;have hB':=(HB.u.alloc (by have:=HB.u.size;omega) (.cells #[J6 ((x:Int) - y - cc)] 3)).grown hgrow' (by have:=HB.u.size;simp;omega) (fun q' e=>qa0 HO.u e);have HO3:Hi (w'.ownsRow w.heap.size 3 1 v' (k+1) (ui (o++[x - y - cc]))):=by
       rw[Hi];rw[show(x:Int) - y - cc=((x - y - cc:Nat):Int) by omega]at hown';simpa [ui] using hown'
      have HB3:=h_ hB';clear hown' hgrow' hB' hi hz0 hz1 hz2;go_wp2_with fail;go_roundw
      case rel =>
       refine⟨k+1,0,o++[x - y - cc],by omega,by go_num,rfl,by omega,?_,?_,?_,HO3.u,HB3.u⟩
       . have:=HOL.u;simp[this]
       . exact HD.u.1.snoc (by omega)
       . rw[qc8,HOL.u,qha,qha,<- dig_at hl,<- dig_at hm,HX.u,HY.u]
         obtain⟨d,b,h1,h2,h3,h4,h5⟩:=qiy HD.u.2 hcc hx10 hy10;obtain rfl:b=0:=(by omega);obtain rfl:d=x - y - cc:=(by omega);exact h5
      case measure=>simp[intOf];omega
  . obtain rfl:k=l.length:=by omega
    have h1:=HD.u.2;have h2:=qkp hl;have h3:=HLE.u;rw[qml hl (nR _),Z2 (by omega:dval m<10 ^ l.length)]at h1;have h4:=qkp HD.u.1;rw[HOL.u]at h4;have hc0:cc=0:=by
     rcases (by omega:cc=0∨cc=1) with h | h
     . exact h
     . subst h;omega
    subst hc0;have hval:dval o=dval l - dval m:=(by omega);have hdo:=HD.u.1;have HOd:DigS wr u5 o:=(by have:=HO.u;rw[<- HOL.u]at this;exact q3j this);have hol:o.length<=1000:=(by have:=HOL.u;omega);clear HD HO HOL h1 h2 h3 h4;go_wp2_with fail;refine(q9a u5 o wr HOd hdo hol).mono ?_;rintro e w' ⟨r,rfl,hr,rfl⟩;rw[hval]at hr;have HR:=h_ hr;clear hr;go_wp2;go_ret;exact⟨_,rfl,HR.u,HB.u⟩
def BigV (w:World)(v:Value)(z:Int):Prop:=∃u,v=.agg #[.bool (decide (z<0)),u]/\DigS w u (digs z.natAbs)
theorem BigV.mono {w w':World}{v:Value}{z:Int}(h:BigV w v z)(hb:Below w.heap.size w w'):BigV w' v z:=by
 obtain⟨u,e,hu⟩:=h
 exact⟨u,e,hu.mono hb⟩
theorem two {w:World}{b:Nat}{t:TypeId}{v0 v1:Value}(h:Blk w b t [v0,v1]) :
 (w.cell? ⟨b,0,none⟩=some v0/\w.cell? ⟨b,1,none⟩=some v1)/\(w.frozen? ⟨b,0,none⟩=false/\w.frozen? ⟨b,1,none⟩=false):=⟨⟨h.cell 0,h.cell 1⟩,⟨h.free 0,h.free 1⟩⟩
theorem q45 (v:Value)(z:Int)(w:World)(hv:BigV w v z) :
 Calls Tryz.prog 173 #[v] w fun e w'=>∃r,e=.returned r/\BigV w' r (-z)/\Below w.heap.size w w':=by
 obtain⟨u,rfl,hu⟩:=hv
 obtain⟨a,ca,rfl,-,-,-⟩:=id hu
 have HU:=h_ hu;clear hu
 by_cases hz:z=0
 . subst hz
   have e0:(digs (Int.natAbs 0)).length=0:=by simp[qc5]
   rw[e0]at HU⊢;have hB:∀o1 o2,Below w.heap.size w ((w.alloc o1).alloc o2):=fun o1 o2=>((bR _ w).alloc (nR _) o1).alloc (by simp) o2;have HB:=h_ hB;clear hB;go_enter Tryz.func173,Tryz.ntmps173;go_wp2;refine bodyPost_ret (v:=.agg #[.bool false,.slice a 0 ca]) (by simp[results,Tryz.results173,go_sem, *]) rfl ⟨_,rfl,⟨_,rfl,?_⟩,HB.u _ _⟩;exact HU.u.mono (HB.u _ _)
 . have hn:(digs z.natAbs).length≠0:=by intro e;have:=qfw.1 (Zt.1 e);omega
   have hB:∀o1 o2,Below w.heap.size w ((w.alloc o1).alloc o2):=fun o1 o2=>((bR _ w).alloc (nR _) o1).alloc (by simp) o2;have HB:=h_ hB;clear hB;have hs:decide (-z<0) = !decide (z<0):=by
    by_cases h:z<0
    . simp[h];omega
    . simp[h];omega
   have HS:=h_ hs;clear hs;go_enter Tryz.func173,Tryz.ntmps173;go_wp2;refine bodyPost_ret (v:=.agg #[.bool (!decide (z<0)),.slice a (digs z.natAbs).length ca]) (by simp[results,Tryz.results173,go_sem, *]) rfl ⟨_,rfl,⟨_,by rw[HS.u],?_⟩,HB.u _ _⟩;rw[Int.natAbs_neg];exact HU.u.mono (HB.u _ _)
theorem qko {z:Int}(h:z≠0):(digs z.natAbs).length≠0:=by intro e;have:=qfw.1 (Zt.1 e);omega
theorem DigS.set {w:World}{v:Value}{l:List Nat}{R:Nat}{t:TypeId}{x:Bool}{y:Value}(h:DigS w v l)(hR:Blk w R t [.bool x,y])(hy:∀z,y≠J6 z)(j:Nat)(u:Value):DigS (w.setCell ⟨R,j,none⟩ u) v l:=by
 obtain⟨a,cap,e,hc,hn,hI⟩:=h
 refine⟨a,cap,e,hc,hn,fun k hk=>?_⟩
 obtain⟨b,off,e1,h1,h2⟩:=hI k hk
 have hb:b≠R:=by
  rintro rfl;rw[hR.cell]at h2
  match off+k,h2 with
  | 0,h2=>simp at h2
  | 1,h2=>simp at h2;exact hy _ h2
 refine⟨b,off,e1,by simpa using h1,?_⟩
 have:=World.cell?_of_block (a:=⟨b,off+k,none⟩) (heap_setCell_other w ⟨R,j,none⟩ b u hb)
 exact this.trans h2
def Four (w:World)(A B:Nat)(v0 v1 u0 u1:Value):Prop:=w.cell? ⟨A,0,none⟩=some v0/\w.cell? ⟨A,1,none⟩=some v1/\w.cell? ⟨B,0,none⟩=some u0/\w.cell? ⟨B,1,none⟩=some u1
theorem four {w:World}{A B:Nat}{t:TypeId}{v0 v1 u0 u1:Value}(h:Blk w A t [v0,v1])(k:Blk w B t [u0,u1]):Four w A B v0 v1 u0 u1:=⟨h.cell 0,h.cell 1,k.cell 0,k.cell 1⟩
theorem q59 (v1 u1:Value)(x y:Int)(w:World)(hv1:DigS w v1 (digs x.natAbs))(hu1:DigS w u1 (digs y.natAbs))(hx:x<0)(hy:y<0)(bx:(digs x.natAbs).length<=500)(by':(digs y.natAbs).length<=500) :
 Calls Tryz.prog 172 #[.agg #[.bool true,v1],.agg #[.bool true,u1]] w fun e w'=>∃r,e=.returned r/\BigV w' r (x+y)/\Below w.heap.size w w':=by
 have hB:∀o1 o2 o3,Below w.heap.size w (((w.alloc o1).alloc o2).alloc o3):=fun o1 o2 o3=>(((bR _ w).alloc (nR _) o1).alloc (by simp) o2).alloc (by simp;omega) o3
 obtain⟨W,hW⟩:=Nq (((w.alloc (.cells #[.bool true,v1] 135)).alloc (.cells #[.bool true,u1] 135)).alloc (.cells Jl 135))
 have bA:Blk W w.heap.size 135 [.bool true,v1]:=by rw[<- hW];exact((Blk.new w 135 #[.bool true,v1]).alloc _).alloc _
 have bB:Blk W (w.heap.size+1) 135 [.bool true,u1]:=by rw[<- hW];simpa using (Blk.new (w.alloc (.cells #[.bool true,v1] 135)) 135 #[.bool true,u1]).alloc (.cells Jl 135)
 have bR:Blk W (w.heap.size+1+1) 135 [.bool false,J7]:=by rw[<- hW];simpa using Blk.new ((w.alloc (.cells #[.bool true,v1] 135)).alloc (.cells #[.bool true,u1] 135)) 135 Jl
 have hw:Below w.heap.size w W:=by rw[<- hW];exact hB _ _ _
 have HA:=h_ bA;have HBb:=h_ bB;have HR:=h_ bR;have HW:=h_ hw;have HV:=h_ (hv1.mono hw);have HU:=h_ (hu1.mono hw)
 obtain⟨a,ca,rfl,-,-,-⟩:=id hv1
 obtain⟨b,cb,rfl,-,-,-⟩:=id hu1
 have HDX:=h_ (And.intro (qfu x.natAbs) (qc7 x.natAbs));have HDY:=h_ (And.intro (qfu y.natAbs) (qc7 y.natAbs))
 have HXY:=h_ (And.intro hx hy)
 have hres:decide (x+y<0)=true/\(x+y).natAbs=x.natAbs+y.natAbs:=by
  constructor
  . simp;omega
  . omega
 have HRES:=h_ hres;clear hres
 have hlen:0<(digs x.natAbs).length:=by have:=qko (z:=x) (by omega);omega
 have S0:=h_ (four bA bB)
 obtain⟨z0,z1,z2,z3⟩:=S0.u
 clear bA bB bR hw hv1 hu1 hB hx hy
 go_enter Tryz.func172,Tryz.ntmps172
 go_wp2_with fail
 try rw[hW]
 clear hW
 refine wp_region_held_drew (S:=fun w'=>Four w' w.heap.size (w.heap.size+1) (.bool true) (.slice a (digs x.natAbs).length ca) (.bool true) (.slice b (digs y.natAbs).length cb)) (by kernel_rfl) S0.u (fun zz=>?_)
 refine tj 0 11 (J9 w.heap.size 0) zz ?_ (hy:=fun w hS=>by obtain⟨q0,q1,q2,q3⟩:=hS;simp[execOp,go_sem, *])
 refine tj 1 12 (.bool true) zz ?_ (hy:=fun w hS=>by obtain⟨q0,q1,q2,q3⟩:=hS;simp[execOp,go_sem, *])
 refine tj 2 13 (.bool true) zz ?_ (hy:=fun w hS=>by obtain⟨q0,q1,q2,q3⟩:=hS;simp[execOp,go_sem, *])
 refine tj 3 14 (J9 w.heap.size 1) zz ?_ (hy:=fun w hS=>by obtain⟨q0,q1,q2,q3⟩:=hS;simp[execOp,go_sem, *])
 simp only[sX,sY,sZ]
 refine tj 4 15 (.slice a (digs x.natAbs).length ca) zz ?_ (hy:=fun w hS=>by obtain⟨q0,q1,q2,q3⟩:=hS;simp[execOp,go_sem, *])
 refine tj 5 16 (J6 (digs x.natAbs).length) zz ?_ (hy:=fun w hS=>by obtain⟨q0,q1,q2,q3⟩:=hS;simp[execOp,go_sem, *])
 refine tj 6 17 (.bool true) zz ?_ (hy:=fun w hS=>by obtain⟨q0,q1,q2,q3⟩:=hS;simp[execOp,go_sem, *])
 refine tj 7 18 (.bool true) zz ?_ (hy:=fun w hS=>by obtain⟨q0,q1,q2,q3⟩:=hS;simp[execOp,go_sem, *])
 simp only[sX,sY,sZ]
 refine tj 8 19 (J9 w.heap.size 1) zz ?_ (hy:=fun w hS=>by obtain⟨q0,q1,q2,q3⟩:=hS;simp[execOp,go_sem, *])
 refine tj 9 20 (.slice a (digs x.natAbs).length ca) zz ?_ (hy:=fun w hS=>by obtain⟨q0,q1,q2,q3⟩:=hS;simp[execOp,go_sem, *])
 refine tj 10 21 (J9 (w.heap.size+1) 1) zz ?_ (hy:=fun w hS=>by obtain⟨q0,q1,q2,q3⟩:=hS;simp[execOp,go_sem, *])
 refine tj 11 22 (.slice b (digs y.natAbs).length cb) zz ?_ (hy:=fun w hS=>by obtain⟨q0,q1,q2,q3⟩:=hS;simp[execOp,go_sem, *])
 simp only[sX,sY,sZ]
 refine callY (i:=12) (f:=214) (args:=#[.slice a (digs x.natAbs).length ca,.slice b (digs y.natAbs).length cb]) (R:=fun r w6=>DigS w6 r (digs (dval (digs x.natAbs)+dval (digs y.natAbs)))/\Below W.heap.size W w6) 23 rfl rfl (by rfl) (by kernel_rfl) ?hrun1 ((q46 _ _ _ _ _ (HV.u.mono (q3d _ 1)) (HU.u.mono (q3d _ 1)) HDX.u.1 HDY.u.1 bx by').mono fun e w6 ⟨r,he,hr,hb⟩=>⟨r,he,hr,q29 hb⟩) ?_
 case hrun1=>simp[execOp,go_sem]
 rintro v w6 ⟨hr,hb6⟩
 have A6:=HA.u.mono hb6 HA.u.lt;have B6:=HBb.u.mono hb6 HBb.u.lt;have R6:=HR.u.mono hb6 HR.u.lt
 have hW6:=HW.u.trans (hb6.mono HW.u.size)
 have hs6:=A6.lt
 refine⟨four A6 B6,?_⟩
 simp only[sX,sY,sZ]
 replace zz:=four A6 B6
 obtain⟨g,cg,rfl,-⟩:=id hr
 have HRR:=h_ hr;clear hr
 refine tj 13 24 (.agg #[.bool true,.slice g (digs (dval (digs x.natAbs)+dval (digs y.natAbs))).length cg]) zz ?_ (hy:=fun w hS=>by obtain⟨q0,q1,q2,q3⟩:=hS;simp[execOp,go_sem, *])
 simp only[sX,sY,sZ]
 obtain⟨⟨r0,r1⟩,⟨f0,f1⟩⟩:=two R6
 refine storeY (i:=14) (w':=(w6.setCell ⟨w.heap.size+1+1,0,none⟩ (.bool true)).setCell ⟨w.heap.size+1+1,1,none⟩ (.slice g (digs (dval (digs x.natAbs)+dval (digs y.natAbs))).length cg)) rfl (by rfl) (by kernel_rfl) rfl ?hrun2 rfl ?hS2 ?_
 case hrun2=>simp[execOp,go_sem,r0,r1,f0,f1]
 case hS2=>exact four ((A6.other _ (by simp;omega)).other _ (by simp;omega)) ((B6.other _ (by simp)).other _ (by simp))
 refine wpAnyH_done (by kernel_rfl) ?_ _
 have X0:=((R6.set 0 (.bool true)).set 1 (.slice g (digs (dval (digs x.natAbs)+dval (digs y.natAbs))).length cg))
 obtain⟨⟨y0,y1⟩,-⟩:=two X0
 have HWX:=h_ ((hW6.setCell (p:=⟨w.heap.size+1+1,0,none⟩) (by simp;omega) (.bool true)).setCell (p:=⟨w.heap.size+1+1,1,none⟩) (by simp;omega) (.slice g (digs (dval (digs x.natAbs)+dval (digs y.natAbs))).length cg))
 have hD:DigS ((w6.setCell ⟨w.heap.size+1+1,0,none⟩ (.bool true)).setCell ⟨w.heap.size+1+1,1,none⟩ (.slice g (digs (dval (digs x.natAbs)+dval (digs y.natAbs))).length cg)) (.slice g (digs (dval (digs x.natAbs)+dval (digs y.natAbs))).length cg) (digs (x+y).natAbs):=by
  have h1:=HRR.u;rw[HDX.u.2,HDY.u.2,<- HRES.u.2]at h1⊢;exact(h1.set R6 (fun z h=>by cases h) 0 (.bool true)).set (R6.set 0 (.bool true)) (fun z h=>by cases h) 1 _
 have HDD:=h_ hD;clear hD HRR A6 B6 R6 hW6 X0 zz hb6
 generalize (w6.setCell ⟨w.heap.size+1+1,0,none⟩ (.bool true)).setCell ⟨w.heap.size+1+1,1,none⟩ (.slice g (digs (dval (digs x.natAbs)+dval (digs y.natAbs))).length cg)=W9 at *
 go_wp2
 refine bodyPost_ret (v:=.agg #[.bool true,.slice g (digs (dval (digs x.natAbs)+dval (digs y.natAbs))).length cg]) (by simp[results,Tryz.results172,go_sem, *]) rfl ⟨_,rfl,⟨_,by rw[HRES.u.1],HDD.u⟩,HWX.u⟩
theorem q5a (v1 u1:Value)(x y:Int)(w:World)(hv1:DigS w v1 (digs x.natAbs))(hu1:DigS w u1 (digs y.natAbs))(hx:0<=x)(hy:0<=y)(bx:(digs x.natAbs).length<=500)(by':(digs y.natAbs).length<=500) :
 Calls Tryz.prog 172 #[.agg #[.bool false,v1],.agg #[.bool false,u1]] w fun e w'=>∃r,e=.returned r/\BigV w' r (x+y)/\Below w.heap.size w w':=by
 have hB:∀o1 o2 o3,Below w.heap.size w (((w.alloc o1).alloc o2).alloc o3):=fun o1 o2 o3=>(((bR _ w).alloc (nR _) o1).alloc (by simp) o2).alloc (by simp;omega) o3
 obtain⟨W,hW⟩:=Nq (((w.alloc (.cells #[.bool false,v1] 135)).alloc (.cells #[.bool false,u1] 135)).alloc (.cells Jl 135))
 have bA:Blk W w.heap.size 135 [.bool false,v1]:=by rw[<- hW];exact((Blk.new w 135 #[.bool false,v1]).alloc _).alloc _
 have bB:Blk W (w.heap.size+1) 135 [.bool false,u1]:=by rw[<- hW];simpa using (Blk.new (w.alloc (.cells #[.bool false,v1] 135)) 135 #[.bool false,u1]).alloc (.cells Jl 135)
 have bR:Blk W (w.heap.size+1+1) 135 [.bool false,J7]:=by rw[<- hW];simpa using Blk.new ((w.alloc (.cells #[.bool false,v1] 135)).alloc (.cells #[.bool false,u1] 135)) 135 Jl
 have hw:Below w.heap.size w W:=by rw[<- hW];exact hB _ _ _
 have HA:=h_ bA;have HBb:=h_ bB;have HR:=h_ bR;have HW:=h_ hw;have HV:=h_ (hv1.mono hw);have HU:=h_ (hu1.mono hw)
 obtain⟨a,ca,rfl,-,-,-⟩:=id hv1
 obtain⟨b,cb,rfl,-,-,-⟩:=id hu1
 have HDX:=h_ (And.intro (qfu x.natAbs) (qc7 x.natAbs));have HDY:=h_ (And.intro (qfu y.natAbs) (qc7 y.natAbs))
 have HXY:=h_ (And.intro hx hy)
 have hres:decide (x+y<0)=false/\(x+y).natAbs=x.natAbs+y.natAbs:=by
  constructor
  . simp;omega
  . omega
 have HRES:=h_ hres;clear hres
 have S0:=h_ (four bA bB)
 obtain⟨z0,z1,z2,z3⟩:=S0.u
 clear bA bB bR hw hv1 hu1 hB hx hy
 go_enter Tryz.func172,Tryz.ntmps172
 go_wp2_with fail
 try rw[hW]
 clear hW
 refine wp_region_held_drew (S:=fun w'=>Four w' w.heap.size (w.heap.size+1) (.bool false) (.slice a (digs x.natAbs).length ca) (.bool false) (.slice b (digs y.natAbs).length cb)) (by kernel_rfl) S0.u (fun zz=>?_)
 refine tj 0 11 (J9 w.heap.size 0) zz ?_ (hy:=fun w hS=>by obtain⟨q0,q1,q2,q3⟩:=hS;simp[execOp,go_sem, *])
 refine tj 1 12 (.bool false) zz ?_ (hy:=fun w hS=>by obtain⟨q0,q1,q2,q3⟩:=hS;simp[execOp,go_sem, *])
 refine tj 2 13 (.bool false) zz ?_ (hy:=fun w hS=>by obtain⟨q0,q1,q2,q3⟩:=hS;simp[execOp,go_sem, *])
 refine tn 3 14 zz ?_
 simp only[sX,sY,sZ]
 refine tn 4 15 zz ?_
 refine tn 5 16 zz ?_
 refine tn 6 17 zz ?_
 refine tj 7 18 (.bool false) zz ?_ (hy:=fun w hS=>by obtain⟨q0,q1,q2,q3⟩:=hS;simp[execOp,go_sem, *])
 simp only[sX,sY,sZ]
 refine tj 8 19 (J9 w.heap.size 1) zz ?_ (hy:=fun w hS=>by obtain⟨q0,q1,q2,q3⟩:=hS;simp[execOp,go_sem, *])
 refine tj 9 20 (.slice a (digs x.natAbs).length ca) zz ?_ (hy:=fun w hS=>by obtain⟨q0,q1,q2,q3⟩:=hS;simp[execOp,go_sem, *])
 refine tj 10 21 (J9 (w.heap.size+1) 1) zz ?_ (hy:=fun w hS=>by obtain⟨q0,q1,q2,q3⟩:=hS;simp[execOp,go_sem, *])
 refine tj 11 22 (.slice b (digs y.natAbs).length cb) zz ?_ (hy:=fun w hS=>by obtain⟨q0,q1,q2,q3⟩:=hS;simp[execOp,go_sem, *])
 simp only[sX,sY,sZ]
 refine callY (i:=12) (f:=214) (args:=#[.slice a (digs x.natAbs).length ca,.slice b (digs y.natAbs).length cb]) (R:=fun r w6=>DigS w6 r (digs (dval (digs x.natAbs)+dval (digs y.natAbs)))/\Below W.heap.size W w6) 23 rfl rfl (by rfl) (by kernel_rfl) ?hrun1 ((q46 _ _ _ _ _ (HV.u.mono (q3d _ 1)) (HU.u.mono (q3d _ 1)) HDX.u.1 HDY.u.1 bx by').mono fun e w6 ⟨r,he,hr,hb⟩=>⟨r,he,hr,q29 hb⟩) ?_
 case hrun1=>simp[execOp,go_sem]
 rintro v w6 ⟨hr,hb6⟩
 have A6:=HA.u.mono hb6 HA.u.lt;have B6:=HBb.u.mono hb6 HBb.u.lt;have R6:=HR.u.mono hb6 HR.u.lt
 have hW6:=HW.u.trans (hb6.mono HW.u.size)
 have hs6:=A6.lt
 refine⟨four A6 B6,?_⟩
 simp only[sX,sY,sZ]
 replace zz:=four A6 B6
 obtain⟨g,cg,rfl,-⟩:=id hr
 have HRR:=h_ hr;clear hr
 refine tj 13 24 (.agg #[.bool false,.slice g (digs (dval (digs x.natAbs)+dval (digs y.natAbs))).length cg]) zz ?_ (hy:=fun w hS=>by obtain⟨q0,q1,q2,q3⟩:=hS;simp[execOp,go_sem, *])
 simp only[sX,sY,sZ]
 obtain⟨⟨r0,r1⟩,⟨f0,f1⟩⟩:=two R6
 refine storeY (i:=14) (w':=(w6.setCell ⟨w.heap.size+1+1,0,none⟩ (.bool false)).setCell ⟨w.heap.size+1+1,1,none⟩ (.slice g (digs (dval (digs x.natAbs)+dval (digs y.natAbs))).length cg)) rfl (by rfl) (by kernel_rfl) rfl ?hrun2 rfl ?hS2 ?_
 case hrun2=>simp[execOp,go_sem,r0,r1,f0,f1]
 case hS2=>exact four ((A6.other _ (by simp;omega)).other _ (by simp;omega)) ((B6.other _ (by simp)).other _ (by simp))
 refine wpAnyH_done (by kernel_rfl) ?_ _
 have X0:=((R6.set 0 (.bool false)).set 1 (.slice g (digs (dval (digs x.natAbs)+dval (digs y.natAbs))).length cg))
 obtain⟨⟨y0,y1⟩,-⟩:=two X0
 have HWX:=h_ ((hW6.setCell (p:=⟨w.heap.size+1+1,0,none⟩) (by simp;omega) (.bool false)).setCell (p:=⟨w.heap.size+1+1,1,none⟩) (by simp;omega) (.slice g (digs (dval (digs x.natAbs)+dval (digs y.natAbs))).length cg))
 have hD:DigS ((w6.setCell ⟨w.heap.size+1+1,0,none⟩ (.bool false)).setCell ⟨w.heap.size+1+1,1,none⟩ (.slice g (digs (dval (digs x.natAbs)+dval (digs y.natAbs))).length cg)) (.slice g (digs (dval (digs x.natAbs)+dval (digs y.natAbs))).length cg) (digs (x+y).natAbs):=by
  have h1:=HRR.u;rw[HDX.u.2,HDY.u.2,<- HRES.u.2]at h1⊢;exact(h1.set R6 (fun z h=>by cases h) 0 (.bool false)).set (R6.set 0 (.bool false)) (fun z h=>by cases h) 1 _
 have HDD:=h_ hD;clear hD HRR A6 B6 R6 hW6 X0 zz hb6
 generalize (w6.setCell ⟨w.heap.size+1+1,0,none⟩ (.bool false)).setCell ⟨w.heap.size+1+1,1,none⟩ (.slice g (digs (dval (digs x.natAbs)+dval (digs y.natAbs))).length cg)=W9 at *
 go_wp2
 refine bodyPost_ret (v:=.agg #[.bool false,.slice g (digs (dval (digs x.natAbs)+dval (digs y.natAbs))).length cg]) (by simp[results,Tryz.results172,go_sem, *]) rfl ⟨_,rfl,⟨_,by rw[HRES.u.1],HDD.u⟩,HWX.u⟩
theorem q57 (v1 u1:Value)(x y:Int)(w:World)(hv1:DigS w v1 (digs x.natAbs))(hu1:DigS w u1 (digs y.natAbs))(hx:x<0)(hy:0<=y)(bx:(digs x.natAbs).length<=500)(by':(digs y.natAbs).length<=500) :
 Calls Tryz.prog 172 #[.agg #[.bool true,v1],.agg #[.bool false,u1]] w fun e w'=>∃r,e=.returned r/\BigV w' r (x+y)/\Below w.heap.size w w':=by
 have hB:∀o1 o2 o3,Below w.heap.size w (((w.alloc o1).alloc o2).alloc o3):=fun o1 o2 o3=>(((bR _ w).alloc (nR _) o1).alloc (by simp) o2).alloc (by simp;omega) o3
 obtain⟨W,hW⟩:=Nq (((w.alloc (.cells #[.bool true,v1] 135)).alloc (.cells #[.bool false,u1] 135)).alloc (.cells Jl 135))
 have bA:Blk W w.heap.size 135 [.bool true,v1]:=by rw[<- hW];exact((Blk.new w 135 #[.bool true,v1]).alloc _).alloc _
 have bB:Blk W (w.heap.size+1) 135 [.bool false,u1]:=by rw[<- hW];simpa using (Blk.new (w.alloc (.cells #[.bool true,v1] 135)) 135 #[.bool false,u1]).alloc (.cells Jl 135)
 have bR:Blk W (w.heap.size+1+1) 135 [.bool false,J7]:=by rw[<- hW];simpa using Blk.new ((w.alloc (.cells #[.bool true,v1] 135)).alloc (.cells #[.bool false,u1] 135)) 135 Jl
 have hw:Below w.heap.size w W:=by rw[<- hW];exact hB _ _ _
 have HA:=h_ bA;have HBb:=h_ bB;have HR:=h_ bR;have HW:=h_ hw;have HV:=h_ (hv1.mono hw);have HU:=h_ (hu1.mono hw)
 obtain⟨a,ca,rfl,-,-,-⟩:=id hv1
 obtain⟨b,cb,rfl,-,-,-⟩:=id hu1
 have HDX:=h_ (And.intro (qfu x.natAbs) (qc7 x.natAbs));have HDY:=h_ (And.intro (qfu y.natAbs) (qc7 y.natAbs))
 have HXY:=h_ (And.intro hx hy)
 have S0:=h_ (four bA bB)
 obtain⟨z0,z1,z2,z3⟩:=S0.u
 clear bA bB bR hw hv1 hu1 hB hx hy
 go_enter Tryz.func172,Tryz.ntmps172
 go_wp2_with fail
 try rw[hW]
 clear hW
 refine(q2l _ _ _ _ _ HV.u HU.u HDX.u.1 HDY.u.1 (by omega) (by omega) (decide (x.natAbs<y.natAbs)) (by rw[Yh,HDX.u.2,HDY.u.2])).mono ?_
 rintro e W1 ⟨rfl,n1,hn1⟩
 have hb1:Below W.heap.size W W1:=by rw[hn1];exact q3d _ _
 replace HA:=mB HA hb1;replace HBb:=h_ (HBb.u.mono hb1 HBb.u.lt);replace HR:=mB HR hb1
 replace HW:=mT HW hb1;replace HV:=h_ (HV.u.mono hb1);replace HU:=h_ (HU.u.mono hb1)
 clear hb1 hn1 S0 z0 z1 z2 z3
 have S0:=h_ (four HA.u HBb.u)
 obtain⟨z0,z1,z2,z3⟩:=S0.u
 by_cases hlt:x.natAbs<y.natAbs
 . have HRES:Hi (decide (x+y<0)=false/\(x+y).natAbs=y.natAbs - x.natAbs):=by
    have:=HXY.u;exact⟨by simp;omega,by omega⟩
   rw[Yj hlt];go_wp2_with fail;refine wp_region_held_drew (S:=(fun w'=>Four w' w.heap.size (w.heap.size+1) (.bool true) (.slice a (digs x.natAbs).length ca) (.bool false) (.slice b (digs y.natAbs).length cb))) (by kernel_rfl) S0.u (fun zz=>?_);refine tj 0 30 (J9 (w.heap.size+1) 0) zz ?_ (hy:=fun w hS=>by obtain⟨q0,q1,q2,q3⟩:=hS;simp[execOp,go_sem, *]);refine tj 1 31 (.bool false) zz ?_ (hy:=fun w hS=>by obtain⟨q0,q1,q2,q3⟩:=hS;simp[execOp,go_sem, *]);refine tj 2 32 (J9 (w.heap.size+1) 1) zz ?_ (hy:=fun w hS=>by obtain⟨q0,q1,q2,q3⟩:=hS;simp[execOp,go_sem, *]);refine tj 3 33 (.slice b (digs y.natAbs).length cb) zz ?_ (hy:=fun w hS=>by obtain⟨q0,q1,q2,q3⟩:=hS;simp[execOp,go_sem, *]);simp only[sX,sY,sZ];refine tj 4 34 (J9 w.heap.size 1) zz ?_ (hy:=fun w hS=>by obtain⟨q0,q1,q2,q3⟩:=hS;simp[execOp,go_sem, *]);refine tj 5 35 (.slice a (digs x.natAbs).length ca) zz ?_ (hy:=fun w hS=>by obtain⟨q0,q1,q2,q3⟩:=hS;simp[execOp,go_sem, *]);simp only[sX,sY,sZ];refine callY (i:=6) (f:=216) (args:=#[.slice b (digs y.natAbs).length cb,.slice a (digs x.natAbs).length ca]) (R:=fun r w6=>DigS w6 r (digs (dval (digs y.natAbs) - dval (digs x.natAbs)))/\Below W1.heap.size W1 w6) 36 rfl rfl (by rfl) (by kernel_rfl) ?hrun1 ((q47 _ _ _ _ _ (HU.u.mono (q3d _ 1)) (HV.u.mono (q3d _ 1)) HDY.u.1 HDX.u.1 by' (by rw[HDX.u.2,HDY.u.2];omega)).mono fun e w6 ⟨r,he,hr,hb⟩=>⟨r,he,hr,q29 hb⟩) ?_
   case hrun1=>simp[execOp,go_sem]
   rintro v w6 ⟨hr,hb6⟩;have A6:=HA.u.mono hb6 HA.u.lt;have B6:=HBb.u.mono hb6 HBb.u.lt;have R6:=HR.u.mono hb6 HR.u.lt;have hW6:=HW.u.trans (hb6.mono HW.u.size);have hs6:=A6.lt;refine⟨four A6 B6,?_⟩;simp only[sX,sY,sZ];replace zz:=four A6 B6;obtain⟨g,cg,rfl,-⟩:=id hr;have HRR:=h_ hr;clear hr;refine tj 7 37 (.agg #[.bool false,.slice g (digs (dval (digs y.natAbs) - dval (digs x.natAbs))).length cg]) zz ?_ (hy:=fun w hS=>by obtain⟨q0,q1,q2,q3⟩:=hS;simp[execOp,go_sem, *]);simp only[sX,sY,sZ];obtain⟨⟨r0,r1⟩,⟨f0,f1⟩⟩:=two R6;refine storeY (i:=8) (w':=(w6.setCell ⟨w.heap.size+1+1,0,none⟩ (.bool false)).setCell ⟨w.heap.size+1+1,1,none⟩ (.slice g (digs (dval (digs y.natAbs) - dval (digs x.natAbs))).length cg)) rfl (by rfl) (by kernel_rfl) rfl ?hrun2 rfl ?hS2 ?_
   case hrun2=>simp[execOp,go_sem,r0,r1,f0,f1]
   case hS2=>exact four ((A6.other _ (by simp;omega)).other _ (by simp;omega)) ((B6.other _ (by simp)).other _ (by simp))
   refine wpAnyH_done (by kernel_rfl) ?_ _;have X0:=((R6.set 0 (.bool false)).set 1 (.slice g (digs (dval (digs y.natAbs) - dval (digs x.natAbs))).length cg));obtain⟨⟨y0,y1⟩,-⟩:=two X0;have HWX:=h_ ((hW6.setCell (p:=⟨w.heap.size+1+1,0,none⟩) (by simp;omega) (.bool false)).setCell (p:=⟨w.heap.size+1+1,1,none⟩) (by simp;omega) (.slice g (digs (dval (digs y.natAbs) - dval (digs x.natAbs))).length cg));have hD:DigS ((w6.setCell ⟨w.heap.size+1+1,0,none⟩ (.bool false)).setCell ⟨w.heap.size+1+1,1,none⟩ (.slice g (digs (dval (digs y.natAbs) - dval (digs x.natAbs))).length cg)) (.slice g (digs (dval (digs y.natAbs) - dval (digs x.natAbs))).length cg) (digs (x+y).natAbs):=by
    have h1:=HRR.u;rw[HDX.u.2,HDY.u.2,<- HRES.u.2]at h1⊢;exact(h1.set R6 (fun z h=>by cases h) 0 (.bool false)).set (R6.set 0 (.bool false)) (fun z h=>by cases h) 1 _
   have HDD:=h_ hD;clear hD HRR A6 B6 R6 hW6 X0 zz hb6;generalize (w6.setCell ⟨w.heap.size+1+1,0,none⟩ (.bool false)).setCell ⟨w.heap.size+1+1,1,none⟩ (.slice g (digs (dval (digs y.natAbs) - dval (digs x.natAbs))).length cg)=W9 at *;go_wp2;refine bodyPost_ret (v:=.agg #[.bool false,.slice g (digs (dval (digs y.natAbs) - dval (digs x.natAbs))).length cg]) (by simp[results,Tryz.results172,go_sem, *]) rfl ⟨_,rfl,⟨_,by rw[HRES.u.1],HDD.u⟩,HWX.u⟩
 . rw[Yb hlt]
   go_wp2_with fail;refine(q47 _ _ _ _ _ HV.u HU.u HDX.u.1 HDY.u.1 bx (by rw[HDX.u.2,HDY.u.2];omega)).mono ?_;rintro e w6 ⟨r,rfl,hr,hb6⟩;have A6:=HA.u.mono hb6 HA.u.lt;have R6:=HR.u.mono hb6 HR.u.lt;have hW6:=HW.u.trans (hb6.mono HW.u.size);have hs6:=A6.lt;rw[HDX.u.2,HDY.u.2]at hr;have hab:(x+y).natAbs=x.natAbs - y.natAbs:=by have:=HXY.u;omega
   rw[<- hab]at hr;obtain⟨g,cg,rfl,-⟩:=id hr;have HRR:=h_ hr;clear hr hb6 hab;clear z0 z1 z2 z3;obtain⟨⟨z0,z1⟩,-⟩:=two A6;obtain⟨⟨r0,r1⟩,⟨f0,f1⟩⟩:=two R6;by_cases hz:x+y=0
   . have hl0:(digs (x+y).natAbs).length=0:=by rw[hz];simp[qc5]
     have hs:decide (x+y<0)=false:=(by have:=HXY.u;simp;omega);have HS:=h_ hs;clear hs;have HWX:=h_ ((hW6.setCell (p:=⟨w.heap.size+1+1,0,none⟩) (by simp;omega) (.bool false)).setCell (p:=⟨w.heap.size+1+1,1,none⟩) (by simp;omega) (.slice g (digs (x+y).natAbs).length cg));have HD:=h_ ((HRR.u.set R6 (fun z h=>by cases h) 0 (.bool false)).set (R6.set 0 (.bool false)) (fun z h=>by cases h) 1 (.slice g (digs (x+y).natAbs).length cg));clear A6 R6 hW6 HRR HA HBb HR HV HU S0;rw[hl0]at HD HWX⊢;go_wp2;refine bodyPost_ret (v:=.agg #[.bool false,.slice g 0 cg]) (by simp[results,Tryz.results172,go_sem, *]) rfl ⟨_,rfl,⟨_,by rw[HS.u],HD.u⟩,HWX.u⟩
   . have hl0:0<(digs (x+y).natAbs).length:=by have:=qko hz;omega
     have hs:decide (x+y<0)=true:=(by have:=HXY.u;simp;omega);have HS:=h_ hs;clear hs;have HWX:=h_ ((hW6.setCell (p:=⟨w.heap.size+1+1,0,none⟩) (by simp;omega) (.bool true)).setCell (p:=⟨w.heap.size+1+1,1,none⟩) (by simp;omega) (.slice g (digs (x+y).natAbs).length cg));have HD:=h_ ((HRR.u.set R6 (fun z h=>by cases h) 0 (.bool true)).set (R6.set 0 (.bool true)) (fun z h=>by cases h) 1 (.slice g (digs (x+y).natAbs).length cg));clear A6 R6 hW6 HRR HA HBb HR HV HU S0;go_wp2;refine bodyPost_ret (v:=.agg #[.bool true,.slice g (digs (x+y).natAbs).length cg]) (by simp[results,Tryz.results172,go_sem, *]) rfl ⟨_,rfl,⟨_,by rw[HS.u],HD.u⟩,HWX.u⟩
theorem q58 (v1 u1:Value)(x y:Int)(w:World)(hv1:DigS w v1 (digs x.natAbs))(hu1:DigS w u1 (digs y.natAbs))(hx:0<=x)(hy:y<0)(bx:(digs x.natAbs).length<=500)(by':(digs y.natAbs).length<=500) :
 Calls Tryz.prog 172 #[.agg #[.bool false,v1],.agg #[.bool true,u1]] w fun e w'=>∃r,e=.returned r/\BigV w' r (x+y)/\Below w.heap.size w w':=by
 have hB:∀o1 o2 o3,Below w.heap.size w (((w.alloc o1).alloc o2).alloc o3):=fun o1 o2 o3=>(((bR _ w).alloc (nR _) o1).alloc (by simp) o2).alloc (by simp;omega) o3
 obtain⟨W,hW⟩:=Nq (((w.alloc (.cells #[.bool false,v1] 135)).alloc (.cells #[.bool true,u1] 135)).alloc (.cells Jl 135))
 have bA:Blk W w.heap.size 135 [.bool false,v1]:=by rw[<- hW];exact((Blk.new w 135 #[.bool false,v1]).alloc _).alloc _
 have bB:Blk W (w.heap.size+1) 135 [.bool true,u1]:=by rw[<- hW];simpa using (Blk.new (w.alloc (.cells #[.bool false,v1] 135)) 135 #[.bool true,u1]).alloc (.cells Jl 135)
 have bR:Blk W (w.heap.size+1+1) 135 [.bool false,J7]:=by rw[<- hW];simpa using Blk.new ((w.alloc (.cells #[.bool false,v1] 135)).alloc (.cells #[.bool true,u1] 135)) 135 Jl
 have hw:Below w.heap.size w W:=by rw[<- hW];exact hB _ _ _
 have HA:=h_ bA;have HBb:=h_ bB;have HR:=h_ bR;have HW:=h_ hw;have HV:=h_ (hv1.mono hw);have HU:=h_ (hu1.mono hw)
 obtain⟨a,ca,rfl,-,-,-⟩:=id hv1
 obtain⟨b,cb,rfl,-,-,-⟩:=id hu1
 have HDX:=h_ (And.intro (qfu x.natAbs) (qc7 x.natAbs));have HDY:=h_ (And.intro (qfu y.natAbs) (qc7 y.natAbs))
 have HXY:=h_ (And.intro hx hy)
 have S0:=h_ (four bA bB)
 obtain⟨z0,z1,z2,z3⟩:=S0.u
 clear bA bB bR hw hv1 hu1 hB hx hy
 go_enter Tryz.func172,Tryz.ntmps172
 go_wp2_with fail
 try rw[hW]
 clear hW
 refine(q2l _ _ _ _ _ HV.u HU.u HDX.u.1 HDY.u.1 (by omega) (by omega) (decide (x.natAbs<y.natAbs)) (by rw[Yh,HDX.u.2,HDY.u.2])).mono ?_
 rintro e W1 ⟨rfl,n1,hn1⟩
 have hb1:Below W.heap.size W W1:=by rw[hn1];exact q3d _ _
 replace HA:=mB HA hb1;replace HBb:=h_ (HBb.u.mono hb1 HBb.u.lt);replace HR:=mB HR hb1
 replace HW:=mT HW hb1;replace HV:=h_ (HV.u.mono hb1);replace HU:=h_ (HU.u.mono hb1)
 clear hb1 hn1 S0 z0 z1 z2 z3
 have S0:=h_ (four HA.u HBb.u)
 obtain⟨z0,z1,z2,z3⟩:=S0.u
 by_cases hlt:x.natAbs<y.natAbs
 . have HRES:Hi (decide (x+y<0)=true/\(x+y).natAbs=y.natAbs - x.natAbs):=by
    have:=HXY.u;exact⟨by simp;omega,by omega⟩
   rw[Yj hlt];go_wp2_with fail;refine wp_region_held_drew (S:=(fun w'=>Four w' w.heap.size (w.heap.size+1) (.bool false) (.slice a (digs x.natAbs).length ca) (.bool true) (.slice b (digs y.natAbs).length cb))) (by kernel_rfl) S0.u (fun zz=>?_);refine tj 0 30 (J9 (w.heap.size+1) 0) zz ?_ (hy:=fun w hS=>by obtain⟨q0,q1,q2,q3⟩:=hS;simp[execOp,go_sem, *]);refine tj 1 31 (.bool true) zz ?_ (hy:=fun w hS=>by obtain⟨q0,q1,q2,q3⟩:=hS;simp[execOp,go_sem, *]);refine tj 2 32 (J9 (w.heap.size+1) 1) zz ?_ (hy:=fun w hS=>by obtain⟨q0,q1,q2,q3⟩:=hS;simp[execOp,go_sem, *]);refine tj 3 33 (.slice b (digs y.natAbs).length cb) zz ?_ (hy:=fun w hS=>by obtain⟨q0,q1,q2,q3⟩:=hS;simp[execOp,go_sem, *]);simp only[sX,sY,sZ];refine tj 4 34 (J9 w.heap.size 1) zz ?_ (hy:=fun w hS=>by obtain⟨q0,q1,q2,q3⟩:=hS;simp[execOp,go_sem, *]);refine tj 5 35 (.slice a (digs x.natAbs).length ca) zz ?_ (hy:=fun w hS=>by obtain⟨q0,q1,q2,q3⟩:=hS;simp[execOp,go_sem, *]);simp only[sX,sY,sZ];refine callY (i:=6) (f:=216) (args:=#[.slice b (digs y.natAbs).length cb,.slice a (digs x.natAbs).length ca]) (R:=fun r w6=>DigS w6 r (digs (dval (digs y.natAbs) - dval (digs x.natAbs)))/\Below W1.heap.size W1 w6) 36 rfl rfl (by rfl) (by kernel_rfl) ?hrun1 ((q47 _ _ _ _ _ (HU.u.mono (q3d _ 1)) (HV.u.mono (q3d _ 1)) HDY.u.1 HDX.u.1 by' (by rw[HDX.u.2,HDY.u.2];omega)).mono fun e w6 ⟨r,he,hr,hb⟩=>⟨r,he,hr,q29 hb⟩) ?_
   case hrun1=>simp[execOp,go_sem]
   rintro v w6 ⟨hr,hb6⟩;have A6:=HA.u.mono hb6 HA.u.lt;have B6:=HBb.u.mono hb6 HBb.u.lt;have R6:=HR.u.mono hb6 HR.u.lt;have hW6:=HW.u.trans (hb6.mono HW.u.size);have hs6:=A6.lt;refine⟨four A6 B6,?_⟩;simp only[sX,sY,sZ];replace zz:=four A6 B6;obtain⟨g,cg,rfl,-⟩:=id hr;have HRR:=h_ hr;clear hr;refine tj 7 37 (.agg #[.bool true,.slice g (digs (dval (digs y.natAbs) - dval (digs x.natAbs))).length cg]) zz ?_ (hy:=fun w hS=>by obtain⟨q0,q1,q2,q3⟩:=hS;simp[execOp,go_sem, *]);simp only[sX,sY,sZ];obtain⟨⟨r0,r1⟩,⟨f0,f1⟩⟩:=two R6;refine storeY (i:=8) (w':=(w6.setCell ⟨w.heap.size+1+1,0,none⟩ (.bool true)).setCell ⟨w.heap.size+1+1,1,none⟩ (.slice g (digs (dval (digs y.natAbs) - dval (digs x.natAbs))).length cg)) rfl (by rfl) (by kernel_rfl) rfl ?hrun2 rfl ?hS2 ?_
   case hrun2=>simp[execOp,go_sem,r0,r1,f0,f1]
   case hS2=>exact four ((A6.other _ (by simp;omega)).other _ (by simp;omega)) ((B6.other _ (by simp)).other _ (by simp))
   refine wpAnyH_done (by kernel_rfl) ?_ _;have X0:=((R6.set 0 (.bool true)).set 1 (.slice g (digs (dval (digs y.natAbs) - dval (digs x.natAbs))).length cg));obtain⟨⟨y0,y1⟩,-⟩:=two X0;have HWX:=h_ ((hW6.setCell (p:=⟨w.heap.size+1+1,0,none⟩) (by simp;omega) (.bool true)).setCell (p:=⟨w.heap.size+1+1,1,none⟩) (by simp;omega) (.slice g (digs (dval (digs y.natAbs) - dval (digs x.natAbs))).length cg));have hD:DigS ((w6.setCell ⟨w.heap.size+1+1,0,none⟩ (.bool true)).setCell ⟨w.heap.size+1+1,1,none⟩ (.slice g (digs (dval (digs y.natAbs) - dval (digs x.natAbs))).length cg)) (.slice g (digs (dval (digs y.natAbs) - dval (digs x.natAbs))).length cg) (digs (x+y).natAbs):=by
    have h1:=HRR.u;rw[HDX.u.2,HDY.u.2,<- HRES.u.2]at h1⊢;exact(h1.set R6 (fun z h=>by cases h) 0 (.bool true)).set (R6.set 0 (.bool true)) (fun z h=>by cases h) 1 _
   have HDD:=h_ hD;clear hD HRR A6 B6 R6 hW6 X0 zz hb6;generalize (w6.setCell ⟨w.heap.size+1+1,0,none⟩ (.bool true)).setCell ⟨w.heap.size+1+1,1,none⟩ (.slice g (digs (dval (digs y.natAbs) - dval (digs x.natAbs))).length cg)=W9 at *;go_wp2;refine bodyPost_ret (v:=.agg #[.bool true,.slice g (digs (dval (digs y.natAbs) - dval (digs x.natAbs))).length cg]) (by simp[results,Tryz.results172,go_sem, *]) rfl ⟨_,rfl,⟨_,by rw[HRES.u.1],HDD.u⟩,HWX.u⟩
 . rw[Yb hlt]
   go_wp2_with fail;refine(q47 _ _ _ _ _ HV.u HU.u HDX.u.1 HDY.u.1 bx (by rw[HDX.u.2,HDY.u.2];omega)).mono ?_;rintro e w6 ⟨r,rfl,hr,hb6⟩;have A6:=HA.u.mono hb6 HA.u.lt;have R6:=HR.u.mono hb6 HR.u.lt;have hW6:=HW.u.trans (hb6.mono HW.u.size);have hs6:=A6.lt;rw[HDX.u.2,HDY.u.2]at hr;have hab:(x+y).natAbs=x.natAbs - y.natAbs:=by have:=HXY.u;omega
   rw[<- hab]at hr;obtain⟨g,cg,rfl,-⟩:=id hr;have HRR:=h_ hr;clear hr hb6 hab;clear z0 z1 z2 z3;obtain⟨⟨z0,z1⟩,-⟩:=two A6;obtain⟨⟨r0,r1⟩,⟨f0,f1⟩⟩:=two R6;have hs:decide (x+y<0)=false:=by have:=HXY.u;simp;omega
   have HS:=h_ hs;clear hs;have HWX:=h_ ((hW6.setCell (p:=⟨w.heap.size+1+1,0,none⟩) (by simp;omega) (.bool false)).setCell (p:=⟨w.heap.size+1+1,1,none⟩) (by simp;omega) (.slice g (digs (x+y).natAbs).length cg));have HD:=h_ ((HRR.u.set R6 (fun z h=>by cases h) 0 (.bool false)).set (R6.set 0 (.bool false)) (fun z h=>by cases h) 1 (.slice g (digs (x+y).natAbs).length cg));clear A6 R6 hW6 HRR HA HBb HR HV HU S0;go_wp2;refine bodyPost_ret (v:=.agg #[.bool false,.slice g (digs (x+y).natAbs).length cg]) (by simp[results,Tryz.results172,go_sem, *]) rfl ⟨_,rfl,⟨_,by rw[HS.u],HD.u⟩,HWX.u⟩
theorem q44 (v u:Value)(x y:Int)(w:World)(hv:BigV w v x)(hu:BigV w u y)(bx:(digs x.natAbs).length<=500)(by':(digs y.natAbs).length<=500) :
 Calls Tryz.prog 172 #[v,u] w fun e w'=>∃r,e=.returned r/\BigV w' r (x+y)/\Below w.heap.size w w':=by
 obtain⟨v1,rfl,hv1⟩:=hv
 obtain⟨u1,rfl,hu1⟩:=hu
 by_cases hx:x<0 <;> by_cases hy:y<0
 . rw[Yj hx,Yj hy];exact q59 v1 u1 x y w hv1 hu1 hx hy bx by'
 . rw[Yj hx,Yb hy];exact q57 v1 u1 x y w hv1 hu1 hx (by omega) bx by'
 . rw[Yb hx,Yj hy];exact q58 v1 u1 x y w hv1 hu1 (by omega) hy bx by'
 . rw[Yb hx,Yb hy];exact q5a v1 u1 x y w hv1 hu1 (by omega) (by omega) bx by'
end Go.Proofs.YtgojgjlninakjaaGreatDoor
