import Derived.Test.YtgkcaeidhkddjaaGreatDoorXG1d
set_option maxRecDepth 100000
set_option maxHeartbeats 20000000
namespace Go.Proofs.YtgkcaeidhkddjaaGreatDoor
open Go Go.RowKit Go.Shelf
attribute [local go_sem] Oper.semAt_some
theorem qgw {g'':Nat->Nat} {P:Nat->Nat->Bool} {k x:Nat} {pre:List Nat} (h:IsRel g'' (fun b a=>P b a || (decide (a=k)&&decide (b ∈ pre)))) (hx:x<32) (hk:k<32) :
 IsRel (fun j=>if j=x then g'' x ||| 2 ^ k else g'' j) (fun b a=>P b a || (decide (a=k)&&decide (b ∈ pre++[x]))) :=
 (h.add hx hk).congr fun b a _=>by
  by_cases e1:a=k
  . by_cases e2:b=x <;> simp [e1,e2]
  . simp [e1]
theorem qdd {g'' g:Nat->Nat} {R:Nat->Nat->Bool} {k:Nat} {xs:List Nat} (h:IsRel g'' (fun b a=>(decide (a<k)&&R a b) || (decide (a=k)&&decide (b ∈ xs)))) (hg:IsRel g R) (hk:k<32) (hx:∀ i,i ∈ xs ↔ (g k).testBit i=true) :
 IsRel g'' (fun b a=>decide (a<k+1)&&R a b):=h.congr fun b a _=>by
 have e:=(hg k hk).2 b
 by_cases h1:a=k
 . subst h1
   rw [show decide (b ∈ xs)=R a b by rw [<- e];cases hb:(g a).testBit b <;> simp [hx,hb]]
   simp
 . rw [show decide (a<k+1)=decide (a<k) by simp;omega]
   simp [h1]
theorem qde (m:Nat) (g:Nat->Nat) (R:Nat->Nat->Bool) (n:Nat) (w:World) (hn:n<=32) (hg:IsRel g R) (ht:Tab w) :
 CallsIn Fence.wide m Tryz.prog 170 #[.agg (us g).toArray,.int .i64 n] w fun e w'=>∃ g',e=.returned (.agg (us g').toArray)/\IsRel g' (fun b a=>decide (a<n)&&R a b)/\Below w.heap.size w w':=by
 refine callsIn_of_wp_marks Tryz.func170 rfl trivial ?_ rfl
 simp only [Tryz.ntmps170,List.size_toArray,List.length_cons,List.length_nil,Nat.reduceAdd,Nat.reduceSub,Array.replicate_succ,Array.replicate_zero,List.push_toArray,List.append_toArray,List.nil_append,List.cons_append]
 gi_wp2_with (refine q02 rfl _ _ rfl (w.heap.size+1+1) (fun _=>0) (fun _=>0) rfl rfl (blk3 _ _ _ _ _ rfl) ?_;intro w1 hb1 hg1 hs1;have hA:=(blk1 _ _ _ _ _).grown hg1 (by simp;omega);have hR:=(blk2 _ _ _ _ (fun _=>0) rfl).grown hg1 (by simp);have hB:=(below3 _ _ _ _).trans ((bR w.heap.size _).grown hg1 (by simp;omega) (fun k e=>by cases e;omega));replace hA:=h_ hA;replace hR:=h_ hR;replace hB:=h_ hB;replace hb1:=h_ hb1;clear hg1 hs1)
 refine wpIn_loop (fun a W=>∃ (k:Nat) (g':Nat->Nat) (Ds:List Nat) (u6 u7 u8 u11 u12 u13 u14 u15 u16 u17 u18 u19 u20 u21 u22 u23 u24 u25 u26 u27:Value),a = { tmps:=#[.agg (us g).toArray,.int .i64 (n:Int),.pointer (some ⟨w.heap.size,0,none⟩),undef,.pointer (some ⟨w.heap.size+1,0,none⟩),.pointer (some ⟨w.heap.size+1+1,0,none⟩),u6,u7,u8,.int .i64 (n:Int),.int .i64 (k:Int),u11,u12,u13,u14,u15,u16,u17,u18,u19,u20,u21,u22,u23,u24,u25,u26,u27],defers:=marks Ds }/\k<=n/\IsRel g' (fun b a=>decide (a<k)&&R a b)/\Blk W (w.heap.size+1+1) 221 (us g')/\Blk W w.heap.size 221 (us g)/\Blk W (w.heap.size+1) 221 (us fun _=>0)/\Tab W/\Below w.heap.size w W/\Shut w.heap.size W Ds) (fun a _=>n - (intOf (a.tmps.getD 10 undef)).toNat) ?_ ?_
 . refine ⟨0,fun _=>0,[],_,_,_,_,_,_,_,_,_,_,_,_,_,_,_,_,_,_,_,_,rfl,nZ _,fun a _=>⟨by simp,fun b=>by simp⟩,u_ hb1,u_ hA,u_ hR,ht.mono (u_ hB),u_ hB,Shut.nil _ _⟩
 . clear hb1 hA hR hB
   rintro a W ⟨k,g',Ds,u6,u7,u8,u11,u12,u13,u14,u15,u16,u17,u18,u19,u20,u21,u22,u23,u24,u25,u26,u27,rfl,hk,hrel,hO,hS,hRes,hT,hB,hSh⟩
   by_cases hlt:k<n
   . have dk:decide ((k:Int)<n)=true:=by simp;omega
     have k32:k<32:=by omega
     have cS:=hS.cell k
     rw [us_get g k32] at cS
     have k0i:(0:Int)<=k:=by omega
     have k1i:(k:Int)<32:=by omega
     have sS:=hS.lt
     have HREL:=h_ hrel;have HO:=h_ hO;have HS:=h_ hS;have HRES:=h_ hRes;have HT:=h_ hT;have HB:=h_ hB;have HSH:=h_ hSh
     clear hrel hO hS hRes hT hB hSh
     have K1:∀ o,(W.alloc o).cell? ⟨w.heap.size,k,none⟩=some (.int .u32 (g k:Int)):=fun o=>(((u_ HS).alloc o).cell k).trans (us_get g k32)
     gi_wp2_with fail
     refine callW ((q8i _ _).mono ?_)
     rintro e w2 ⟨rfl,rfl⟩
     gi_wp2_with fail
     have bA:=(Blk.new W 3 #[.int .i64 (k:Int)]).alloc (.cells #[.int .u32 (g k:Int)] 137)
     have bL:=Blk.new (W.alloc (.cells #[.int .i64 (k:Int)] 3)) 137 #[.int .u32 (g k:Int)]
     have bW:Below W.heap.size W ((W.alloc (.cells #[.int .i64 (k:Int)] 3)).alloc (.cells #[.int .u32 (g k:Int)] 137)):=((bR _ _).alloc (nR _) _).alloc (by simp) _
     have z5:((W.alloc (.cells #[.int .i64 (k:Int)] 3)).alloc (.cells #[.int .u32 (g k:Int)] 137)).heap.size=W.heap.size+1+1:=by simp
     simp only [World.size_alloc] at bL
     obtain ⟨W5,hW5⟩:∃ W5,(W.alloc (.cells #[.int .i64 (k:Int)] 3)).alloc (.cells #[.int .u32 (g k:Int)] 137)=W5:=⟨_,rfl⟩
     rw [hW5] at bA bL bW z5 ⊢
     clear hW5
     have lO:=(u_ HO).lt
     have ltD:=(u_ HSH).lt
     have w0:=(u_ HT).pos
     have nX:¬ (3=w.heap.size+1+1):=by have:=ht.pos;omega
     refine qcj (gf:=222) (lb:=#[.pointer (some ⟨W.heap.size+1,0,none⟩)]) rfl (enters_of Tryz.func222 (by kernel_rfl) rfl)
      (q40 (W.heap.size+1) (g k) W5 (fun j=>j=w.heap.size+1+1) (hg k k32).1 bL ((u_ HT).mono bW) nX) (bR _ _) (fun j hj=>by omega) rfl
      (fun pre W'=>∃ g'',IsRel g'' (fun b a=>(decide (a<k)&&R a b) || (decide (a=k)&&decide (b ∈ pre)))/\Blk W' (w.heap.size+1+1) 221 (us g'')/\Blk W' w.heap.size 221 (us g)/\Blk W' (w.heap.size+1) 221 (us fun _=>0)/\Blk W' W.heap.size 3 [.int .i64 (k:Int)]/\Tab W'/\Below w.heap.size w W'/\Shut w.heap.size W' Ds)
      (fun _ _=>False) ?hI (fun _ _ _ h _=>h)
      ⟨g',(u_ HREL).congr fun b a _=>by simp,(u_ HO).mono bW lO,(u_ HS).mono bW sS,(u_ HRES).mono bW (u_ HRES).lt,bA,(u_ HT).mono bW,(u_ HB).trans (bW.mono (u_ HB).size),(u_ HSH).below bW ltD⟩
      (fun x=>{ tmps:=#[.agg (us g).toArray,.int .i64 (n:Int),.pointer (some ⟨w.heap.size,0,none⟩),undef,.pointer (some ⟨w.heap.size+1,0,none⟩),.pointer (some ⟨w.heap.size+1+1,0,none⟩),.pointer (some ⟨W.heap.size,0,none⟩),.int .i64 (x:Int),u8,.int .i64 (n:Int),.int .i64 (k:Int),.bool true,.int .i64 (k:Int),.int .i64 (k:Int),.pointer (some ⟨w.heap.size,k,none⟩),.agg #[.int .u32 (g k:Int)],.func (.func 222) #[] #[.pointer (some ⟨W.heap.size+1,0,none⟩)],.int .i64 (x:Int),u18,u19,u20,u21,u22,u23,u24,u25,u26,u27],defers:=[] })
      ?assign ?body ?done (fun _ _ _ _ _ h _=>h.elim)
     case hI =>
      rintro pre W1 W2 ⟨g'',h1,h2,h3,h4,h5,h6,h7,h8⟩ hb
      rw [z5] at hb
      exact ⟨g'',h1,h2.mono hb (by omega),h3.mono hb (by omega),h4.mono hb (by omega),h5.mono hb (by omega),h6.at0 (hb.block 3 (by omega)),h7.trans (hb.mono (by omega)),h8.below hb (fun D hD=>by have:=ltD D hD;omega)⟩
     case assign =>
      intro m l x W' K hK
      gi_wp2
      exact hK
     case body =>
      rintro m l pre x W' ⟨g'',h1,h2,h3,h4,h5,h6,h7,h8⟩ ⟨x32,hxs⟩
      have hmix:Tryz.prog.follows .mixedOrders=true:=by kernel_rfl
      have cO:=h2.cell x
      rw [us_get g'' x32] at cO
      have fO:=h2.free x
      have sO:=h2.lt
      have cA:=h5.cell 0
      simp only [List.getElem?_cons_zero] at cA
      have gx:=(h1 x x32).1
      have k2:=two_lt k32
      have K4:=fun o1 o2 o3 o4=>(h2.cell4 x o1 o2 o3 o4).trans (us_get g'' x32)
      have F4:=h2.free4 x
      have K1':∀ o,(W'.alloc o).cell? ⟨w.heap.size+1+1,x,none⟩=some (.int .u32 (g'' x:Int)):=fun o=>((h2.alloc o).cell x).trans (us_get g'' x32)
      have K1A:∀ o,(W'.alloc o).cell? ⟨W.heap.size,0,none⟩=some (.int .i64 (k:Int)):=fun o=>(h5.alloc o).cell 0
      have x0i:(0:Int)<=x:=by omega
      have x1i:(x:Int)<32:=by omega
      have H1:=h_ h1;have H2:=h_ h2;have H3:=h_ h3;have H4:=h_ h4;have H5:=h_ h5;have H6:=h_ h6;have H7:=h_ h7;have H8:=h_ h8
      clear h1 h2 h3 h4 h5 h6 h7 h8 K1 cS
      gi_wp2_with fail
      gi_region_with_o (first | (refine callR ((qjl _ _ k32).mono ?_);rintro e w' ⟨rfl,rfl⟩) | (refine callR ((qdg _ _ _ gx k2).mono ?_);rintro e w' ⟨rfl,rfl⟩))
      all_goals
       gi_wp2_with fail
       have hst:=qfr (u_ H2) x32 (g'' x ||| 2 ^ k) (.cells #[.int .u32 ((2 ^ k:Nat):Int)] 137) (.cells #[.int .u32 (g'' x:Int)] 137) (.cells #[.int .u32 ((2 ^ k:Nat):Int)] 137) (.cells #[.int .u32 ((g'' x ||| 2 ^ k:Nat):Int)] 137)
       simp only [Int.natCast_pow,Int.cast_ofNat_Int] at hst
       obtain ⟨s1,s2,s3,s4⟩:=hst
       exact ⟨s1,s2,_,qgw (u_ H1) x32 k32,s3,s2.blk (u_ H3) (by omega),s2.blk (u_ H4) (by omega),s2.blk (u_ H5) (by omega),(u_ H6).keep s2 nX,(u_ H7).trans (s4 _ (by omega) sO),(u_ H8).keep s1⟩
     case done =>
      rintro D xs W' hD hS' ⟨g'',h1,h2,h3,h4,h5,h6,h7,h8⟩ hK
      have HX:Hid (IsRel g'' (fun b a=>decide (a<k+1)&&R a b)):=qdd h1 hg k32 hS'
      have HSH':Hid (Shut w.heap.size W' (D :: Ds)):=h8.cons (by have:=(u_ HB).size;omega) hK (fun hm=>by have:=ltD D hm;omega)
      have H2:=h_ h2;have H3:=h_ h3;have H4:=h_ h4;have H6:=h_ h6;have H7:=h_ h7
      clear h1 h2 h3 h4 h5 h6 h7 h8 hK hS'
      gi_wp2_with fail
      refine ⟨⟨k+1,g'',D :: Ds,⟨by omega,rfl⟩,by omega,u_ HX,u_ H2,u_ H3,u_ H4,u_ H6,u_ H7,u_ HSH'⟩,?_⟩
      simp [intOf];omega
   . obtain rfl:k=n:=by omega
     have dk:decide ((k:Int)<k)=false:=by simp
     have HREL:=h_ hrel;have HO:=h_ hO;have HRES:=h_ hRes;have HB:=h_ hB;have HSH:=h_ hSh
     have sR:=hRes.lt
     clear hrel hO hS hRes hT hB hSh
     gi_wp2_with (first | (refine q06 rfl _ rfl (w.heap.size+1+1) g' rfl (u_ HO) ?_) | (refine q02 rfl _ _ rfl (w.heap.size+1) (fun _=>0) g' rfl rfl (u_ HRES) ?_;intro w2 hb2 hg2 hs2;replace hb2:=h_ hb2;replace hg2:=h_ hg2))
     refine q42 (B:=w.heap.size) Ds w2 ((u_ HSH).keep ⟨by omega,fun j o hj ho=>?_⟩) fun W' hk' hb'=>?_
     . refine ((u_ hg2).block j (Array.getElem?_eq_some_iff.1 hj).1 (fun e=>?_)).trans hj
       cases e
       rw [show W.heap[w.heap.size+1]? = _ from u_ HRES] at hj
       cases hj;simp [Obj.isCells] at ho
     . refine ⟨.agg (us g').toArray,results_cell_row rfl _ _ (w.heap.size+1) 221 (us g').toArray (0,0) _ rfl (hk'.blk (u_ hb2) (fun h=>h)) Tryz.underlying221 rfl (qkh g'),g',rfl,u_ HREL,?_⟩
       exact ((u_ HB).trans ((bR w.heap.size _).grown (u_ hg2) (u_ HB).size (fun j e=>by cases e;omega))).trans hb'
theorem q9s (g:Nat->Nat) (R:Nat->Nat->Bool) (n:Nat) (w:World) (hn:n<=32) (hg:IsRel g R) (ht:Tab w) :
 Calls Tryz.prog 170 #[.agg (us g).toArray,.int .i64 n] w fun e w'=>∃ g',e=.returned (.agg (us g').toArray)/\IsRel g' (fun b a=>decide (a<n)&&R a b)/\Below w.heap.size w w' :=
 (callsIn_wide (n:=9)).1 (qde 9 g R n w hn hg ht)
end Go.Proofs.YtgkcaeidhkddjaaGreatDoor
namespace Go.Proofs.YtgkcaeidhkddjaaGreatDoor
open Go Go.RowKit
def rowP (f:Nat->Bool) (n bt tp a:Nat):Prop :=
 f (a*n+a)=true/\f (bt*n+a)=true/\f (a*n+tp)=true /\
  ∀ b,b<n->¬ (a ≠ b/\f (a*n+b)=true/\f (b*n+a)=true)/\∀ c,c<n->f (a*n+b)=true->f (b*n+c)=true->f (a*n+c)=true
def entP (f:Nat->Bool) (g h:Nat->Int) (n a b:Nat):Prop :=
 ∃ j m:Nat,g (a*n+b)=j/\h (a*n+b)=m/\j<n/\m<n/\isJoinP f n a b j/\isMeetP f n a b m
structure ValidP (N:Int) (n1 n2 n3:Nat) (f:Nat->Bool) (g h:Nat->Int) (bot top:Int) (n bt tp:Nat):Prop where
 hN:N=n
 h1:1<=n
 h32:n<=32
 l1:n1=n*n
 l2:n2=n*n
 l3:n3=n*n
 hb:bot=bt
 ht:top=tp
 bb:bt<n
 tt:tp<n
 rows:∀ a,a<n->rowP f n bt tp a
 ents:∀ a,a<n->∀ b,b<n->entP f g h n a b
def Valid (N:Int) (n1 n2 n3:Nat) (f:Nat->Bool) (g h:Nat->Int) (bot top:Int):Prop:=∃ n bt tp,ValidP N n1 n2 n3 f g h bot top n bt tp
theorem q79 {V:Bool} {p:Prop} (hV:V=true ↔ p) (h:¬ p):V=false:=by
 cases V
 . rfl
 . exact absurd (hV.1 rfl) h
theorem q6y (n:Nat) (g d:Nat->Nat) (w:World) (hn:n<=32) (hg:∀ a,a<32->g a<4294967296) (hd:∀ a,a<32->d a<4294967296) (V:Bool) (hV:V=true ↔ ∃ a,a<n/\¬ commonN (g a) (d a)=2 ^ a) :
 Calls Tryz.prog 171 #[.int .i64 n,.agg (us g).toArray,.agg (us d).toArray] w fun e w'=>e=.returned (.bool V)/\Below w.heap.size w w':=by
 have HV:=h_ hV;clear hV
 have B0:=(Blk.new w 221 (us g).toArray).alloc (.cells (us d).toArray 221)
 have B1:=Blk.new (w.alloc (.cells (us g).toArray 221)) 221 (us d).toArray
 have BW:Below w.heap.size w ((w.alloc (.cells (us g).toArray 221)).alloc (.cells (us d).toArray 221)):=((bR _ _).alloc (nR _) _).alloc (by simp) _
 simp only [World.size_alloc] at B1
 have H0:=h_ B0;have H1:=h_ B1;have HW:=h_ BW;clear B0 B1 BW
 go_enter Tryz.func171,Tryz.ntmps171
 go_wp2_with fail
 go_loopw [9] (fun i wr=>∃ k:Nat,k<=n/\i=.int .i64 k/\(∀ a,a<k->commonN (g a) (d a)=2 ^ a)/\Blk wr w.heap.size 221 (us g)/\Blk wr (w.heap.size+1) 221 (us d)/\Below w.heap.size w wr) (fun i _=>n - (intOf i).toNat)
 case atStart=>exact ⟨0,nZ _,rfl,fun a h=>absurd h (nL _),u_ H0,u_ H1,u_ HW⟩
 case round =>
  clear H0 H1 HW
  obtain ⟨k,hk,rfl,hall,b0,b1,bw⟩:=hrel
  have HA:=h_ hall;clear hall
  by_cases hlt:k<n
  . have k32:k<32:=by omega
    have c0:=b0.cell k
    have c1:=b1.cell k
    rw [us_get _ k32] at c0 c1
    have l1:=b1.lt
    have g1:=hg k k32;have d1:=hd k k32
    have k0i:(0:Int)<=k:=by omega
    have k1i:(k:Int)<32:=by omega
    have he:=fun (a b:Int) w=>eq_set 9998 a b w
    have H0:=h_ b0;have H1:=h_ b1;have HW:=h_ bw;clear b0 b1 bw
    cases hz:((commonN (g k) (d k):Nat) == (2 ^ k:Nat))
    . have hz':(((commonN (g k) (d k):Nat):Int) == 2 ^ k)=false:=by
       rw [show (2:Int) ^ k=((2 ^ k:Nat):Int) by simp];simp at hz ⊢;exact_mod_cast hz
      have HT:Hid (V=true):=(u_ HV).2 ⟨k,hlt,by simpa using hz⟩
      go_wp2_with fail
      go_region_with (first | (go_at_call 205;refine (q7h _ _ _ g1 d1).mono ?_;rintro e w' ⟨rfl,hb⟩;replace hb:Hid (Below wr.heap.size wr w'):=⟨hb.os,hb.tape,hb.output,hb.size,hb.block⟩) | (go_at_call 92;refine (qjl _ _ k32).mono ?_;rintro e w' ⟨rfl,rfl⟩))
      all_goals
       have hq:=‹Hid (Below wr.heap.size wr _)›
       go_wp2
       go_ret
       exact ⟨qfz (u_ HT).symm,((u_ HW).trans ((u_ hq).mono (u_ HW).size)).alloc (by have:=(u_ hq).size;have:=(u_ HW).size;omega) _⟩
    . have hz':(((commonN (g k) (d k):Nat):Int) == 2 ^ k)=true:=by
       rw [show (2:Int) ^ k=((2 ^ k:Nat):Int) by simp];simp at hz ⊢;exact_mod_cast hz
      have HS:Hid (∀ a,a<k+1->commonN (g a) (d a)=2 ^ a):=qdh (f:=fun a=>commonN (g a) (d a)) (g:=fun a=>2 ^ a) (u_ HA) (by simpa using hz)
      go_wp2_with fail
      go_region_with (first | (go_at_call 205;refine (q7h _ _ _ g1 d1).mono ?_;rintro e w' ⟨rfl,hb⟩;replace hb:Hid (Below wr.heap.size wr w'):=⟨hb.os,hb.tape,hb.output,hb.size,hb.block⟩) | (go_at_call 92;refine (qjl _ _ k32).mono ?_;rintro e w' ⟨rfl,rfl⟩))
      all_goals
       have hq:=‹Hid (Below wr.heap.size wr _)›
       go_wp2
       go_roundw
       case rel=>exact ⟨k+1,by omega,by go_num,u_ HS,((u_ H0).mono (u_ hq) (u_ H0).lt).alloc _,((u_ H1).mono (u_ hq) (u_ H1).lt).alloc _,((u_ HW).trans ((u_ hq).mono (u_ HW).size)).alloc (by have:=(u_ hq).size;have:=(u_ HW).size;omega) _⟩
       case measure=>simp [intOf];omega
  . have HF:Hid (V=false):=q79 (u_ HV) fun ⟨a,ha,hne⟩=>hne (u_ HA a (by omega))
    clear b0 b1
    have HW:=h_ bw;clear bw
    go_wp2
    go_ret
    exact ⟨qfz (u_ HF).symm,u_ HW⟩
def zeroL:Value:=.agg #[.int .i64 0,.slice none 0 0,.slice none 0 0,.slice none 0 0,.int .i64 0,.int .i64 0]
def LatOut (n:Nat) (g d:Nat->Nat) (R:Nat->Nat->Bool) (B:Nat) (e:Ending) (w':World):Prop :=
 ((∃ a,a<n/\¬ commonN (g a) (d a)=2 ^ a)/\e=.returned (.tuple #[zeroL,.int .i64 2])) ∨
 ((∀ a,a<n->commonN (g a) (d a)=2 ^ a)/\(∃ a b,a<n/\b<n/\Entry g a b (-1))/\e=.returned (.tuple #[zeroL,.int .i64 3])) ∨
 ((∀ a,a<n->commonN (g a) (d a)=2 ^ a)/\(∃ a b,a<n/\b<n/\Entry d a b (-1))/\(∃ F:Nat->Int,∀ a,a<n->∀ b,b<n->0<=F (a*n+b)/\Entry g a b (F (a*n+b)))/\e=.returned (.tuple #[zeroL,.int .i64 4])) ∨
 ((∀ a,a<n->commonN (g a) (d a)=2 ^ a)/\∃ G1 G2 G3 F1 F2 bot top,e=.returned (.tuple #[.agg #[.int .i64 n,.slice (some ⟨G1,0,none⟩) (n*n) (n*n),.slice (some ⟨G2,0,none⟩) (n*n) (n*n),.slice (some ⟨G3,0,none⟩) (n*n) (n*n),.int .i64 bot,.int .i64 top],.int .i64 0]) /\
  Blk w' G1 4 (bs (n*n) (tabB n R))/\Blk w' G2 3 (is (n*n) F1)/\Blk w' G3 3 (is (n*n) F2)/\B<=G1/\B<=G2/\B<=G3/\G1 ≠ G2/\G1 ≠ G3/\G2 ≠ G3 /\
  (∀ a,a<n->∀ b,b<n->0<=F1 (a*n+b)/\Entry g a b (F1 (a*n+b)))/\(∀ a,a<n->∀ b,b<n->0<=F2 (a*n+b)/\Entry d a b (F2 (a*n+b)))/\Least g (2 ^ n - 1) bot/\Least d (2 ^ n - 1) top)
theorem qh4 (c:Array Value) (h:c.toList=us fun _=>0) (w:World):Blk (w.alloc (.cells c 221)) w.heap.size 221 (us fun _=>0):=h ▸ Blk.new w 221 c
theorem six {w:World} {b:Nat} {t:TypeId} {v0 v1 v2 v3 v4 v5:Value} (h:Blk w b t [v0,v1,v2,v3,v4,v5]) :
 (w.cell? ⟨b,0,none⟩=some v0/\w.cell? ⟨b,1,none⟩=some v1/\w.cell? ⟨b,2,none⟩=some v2/\w.cell? ⟨b,3,none⟩=some v3/\w.cell? ⟨b,4,none⟩=some v4/\w.cell? ⟨b,5,none⟩=some v5) /\
 (w.frozen? ⟨b,0,none⟩=false/\w.frozen? ⟨b,1,none⟩=false/\w.frozen? ⟨b,2,none⟩=false/\w.frozen? ⟨b,3,none⟩=false/\w.frozen? ⟨b,4,none⟩=false/\w.frozen? ⟨b,5,none⟩=false) :=
 ⟨⟨h.cell 0,h.cell 1,h.cell 2,h.cell 3,h.cell 4,h.cell 5⟩,h.free 0,h.free 1,h.free 2,h.free 3,h.free 4,h.free 5⟩
theorem all_lt {n:Nat} (hn:n<=32):2 ^ n - 1<4294967296:=by
 have:2 ^ n<=2 ^ 32:=Nat.pow_le_pow_right (by omega) hn
 omega
def Hold (w':World) (B D A:Nat) (g d:Nat->Nat) (s:Nat):Prop:=Blk w' B 221 (us g)/\Blk w' D 221 (us d)/\Tab w'/\w'.rangeAt B 0 (us g)/\w'.rangeAt D 0 (us d)/\w'.cell? ⟨A,0,none⟩=some (.int .u32 (s:Int))/\A<w'.heap.size
theorem Hold.mono {w w':World} {B D A s:Nat} {g d:Nat->Nat} (h:Hold w B D A g d s) (hb:Below w.heap.size w w'):Hold w' B D A g d s :=
 have h0:=h.1.mono hb h.1.lt
 have h1:=h.2.1.mono hb h.2.1.lt
 ⟨h0,h1,h.2.2.1.mono hb,h0.range,h1.range,(hb.cell (p:=⟨A,0,none⟩) h.2.2.2.2.2.2).trans h.2.2.2.2.2.1,Nat.lt_of_lt_of_le h.2.2.2.2.2.2 hb.size⟩
theorem Hold.set {w:World} {B D A s O j:Nat} {g d:Nat->Nat} {v:Value} (h:Hold w B D A g d s) (hB:B ≠ O) (hD:D ≠ O) (hA:A ≠ O) (h0:3 ≠ O):Hold (w.setCell ⟨O,j,none⟩ v) B D A g d s :=
 have e0:=h.1.other (a:=⟨O,j,none⟩) v hB
 have e1:=h.2.1.other (a:=⟨O,j,none⟩) v hD
 ⟨e0,e1,h.2.2.1.at0 (heap_setCell_other _ _ _ _ h0),e0.range,e1.range,(World.cell?_of_block (heap_setCell_other _ _ _ _ hA)).trans h.2.2.2.2.2.1,by simpa using h.2.2.2.2.2.2⟩
theorem q2n (n:Nat) (g:Nat->Nat) (R:Nat->Nat->Bool) (w:World) (h1:1<=n) (hn:n<=32) (hg:IsRel g R) (ht:Tab w) :
 Calls Tryz.prog 138 #[.int .i64 n,.agg (us g).toArray] w fun e w'=>Below w.heap.size w w'/\∃ d,IsRel d (fun b a=>decide (a<n)&&R a b)/\LatOut n g d R w.heap.size e w':=by
 have hgL:∀ a,a<32->g a<4294967296:=fun a ha=>(hg a ha).1
 have B0:=(Blk.new w 221 (us g).toArray).alloc (.cells #[.int .i64 0,.slice none 0 0,.slice none 0 0,.slice none 0 0,.int .i64 0,.int .i64 0] 114)
 have B1:=Blk.new (w.alloc (.cells (us g).toArray 221)) 114 #[.int .i64 0,.slice none 0 0,.slice none 0 0,.slice none 0 0,.int .i64 0,.int .i64 0]
 have BW:Below w.heap.size w ((w.alloc (.cells (us g).toArray 221)).alloc (.cells #[.int .i64 0,.slice none 0 0,.slice none 0 0,.slice none 0 0,.int .i64 0,.int .i64 0] 114)):=((bR _ _).alloc (nR _) _).alloc (by simp) _
 have BT:=ht.mono BW
 simp only [World.size_alloc] at B1
 have H0:=h_ B0;have H1:=h_ B1;have HW:=h_ BW;have HT:=h_ BT;clear B0 B1 BW BT
 go_enter Tryz.func138,Tryz.ntmps138
 go_wp2_with (refine q0s rfl _ rfl w.heap.size g rfl (u_ H0) ?_)
 refine (q9s g R n _ hn hg (u_ HT)).mono ?_
 rintro e w1 ⟨d,rfl,hd,hb1⟩
 have hdL:∀ a,a<32->d a<4294967296:=fun a ha=>(hd a ha).1
 replace H0:=mB H0 hb1;replace H1:=mB H1 hb1;replace HW:=mT HW hb1;replace HT:=h_ ((u_ HT).mono hb1)
 clear hb1
 go_wp2_with (first | (refine q0j rfl _ _ rfl w1.heap.size (fun _=>0) d rfl rfl (qh4 _ rfl _) ?_;intro w2 hD hgr hsz;have hbb:Below w1.heap.size w1 w2:=((bR _ w1).alloc (nR _) _).grown hgr (by simp) (fun k e=>by cases e;exact nR _);have X0:=mB H0 hbb;have X1:=mB H1 hbb;have XW:=mT HW hbb;have XT:=h_ ((u_ HT).mono hbb);have XD:=h_ hD;clear hD hgr hsz hbb) | (refine q0s rfl _ rfl w.heap.size g rfl (u_ X0) ?_) | (refine q0s rfl _ rfl w1.heap.size d rfl (u_ XD) ?_))
 by_cases htw:∃ a,a<n/\¬ commonN (g a) (d a)=2 ^ a
 . refine (q6y n g d _ hn hgL hdL true ⟨fun _=>htw,fun _=>rfl⟩).mono ?_
   rintro e w3 ⟨rfl,hb3⟩
   have HTW:=h_ htw;clear htw
   have Y0:=mB X0 hb3;have Y1:=mB X1 hb3;have YW:=h_ ((u_ XW).trans (hb3.mono (u_ XW).size));have YT:=h_ ((u_ XT).mono hb3);have YD:=mB XD hb3
   clear hb3 X0 X1 XW XT XD
   obtain ⟨⟨r0,r1,r2,r3,r4,r5⟩,q0,q1,q2,q3,q4,q5⟩:=six (u_ Y1)
   go_wp2
   refine bodyPost_ret (v:=.tuple #[zeroL,.int .i64 2]) (by simp [results,Tryz.results138,go_sem,zeroL, *]) rfl ⟨?_,d,hd,.inl ⟨u_ HTW,rfl⟩⟩
   iterate 6 refine Below.setCell ?_ (by simp <;> omega) _
   exact u_ YW
 refine (q6y n g d _ hn hgL hdL false ⟨(fun h=>by cases h),fun h=>absurd h htw⟩).mono ?_
 rintro e w3 ⟨rfl,hb3⟩
 have HTW:Hid (∀ a,a<n->commonN (g a) (d a)=2 ^ a):=fun a ha=>Classical.byContradiction fun h=>htw ⟨a,ha,h⟩
 clear htw
 have Y0:=mB X0 hb3;have Y1:=mB X1 hb3;have YW:=h_ ((u_ XW).trans (hb3.mono (u_ XW).size));have YT:=h_ ((u_ XT).mono hb3);have YD:=mB XD hb3
 clear hb3 X0 X1 XW XT XD
 go_wp2_with (refine q0s rfl _ rfl w.heap.size g rfl (u_ Y0) ?_)
 refine (q7a n g _ h1 hn hgL (u_ YT)).mono ?_
 rintro e w4 ⟨hb4,(⟨G2,F1,rfl,hG2,hG2b,hF1⟩ | ⟨rfl,hx⟩)⟩
 rotate_left
 . have HX:=h_ hx;clear hx
   have Z0:=mB Y0 hb4;have Z1:=mB Y1 hb4;have ZW:=h_ ((u_ YW).trans (hb4.mono (u_ YW).size));have ZT:=h_ ((u_ YT).mono hb4);have ZD:=mB YD hb4
   clear hb4 Y0 Y1 YW YT YD
   obtain ⟨⟨r0,r1,r2,r3,r4,r5⟩,q0,q1,q2,q3,q4,q5⟩:=six (u_ Z1)
   go_wp2
   refine bodyPost_ret (v:=.tuple #[zeroL,.int .i64 3]) (by simp [results,Tryz.results138,go_sem,zeroL, *]) rfl ⟨?_,d,hd,.inr (.inl ⟨u_ HTW,u_ HX,rfl⟩)⟩
   iterate 6 refine Below.setCell ?_ (by simp <;> omega) _
   exact u_ ZW
 have Z0:=mB Y0 hb4;have Z1:=mB Y1 hb4;have ZW:=h_ ((u_ YW).trans (hb4.mono (u_ YW).size));have ZT:=h_ ((u_ YT).mono hb4);have ZD:=mB YD hb4
 have g2:=Nat.le_trans (u_ YW).size hG2b
 clear hb4 Y0 Y1 YW YT YD hG2b
 have HG2:=h_ hG2;have HF1:=h_ hF1;clear hG2 hF1
 go_wp2_with (refine q0s rfl _ rfl w1.heap.size d rfl (u_ ZD) ?_)
 refine (q7a n d _ h1 hn hdL (u_ ZT)).mono ?_
 rintro e w5 ⟨hb5,(⟨G3,F2,rfl,hG3,hG3b,hF2⟩ | ⟨rfl,hx⟩)⟩
 rotate_left
 . have HX:=h_ hx;clear hx
   have U0:=mB Z0 hb5;have U1:=mB Z1 hb5;have UW:=h_ ((u_ ZW).trans (hb5.mono (u_ ZW).size));have UT:=h_ ((u_ ZT).mono hb5);have UD:=mB ZD hb5
   clear hb5 Z0 Z1 ZW ZT ZD
   obtain ⟨⟨r0,r1,r2,r3,r4,r5⟩,q0,q1,q2,q3,q4,q5⟩:=six (u_ U1)
   go_wp2
   refine bodyPost_ret (v:=.tuple #[zeroL,.int .i64 4]) (by simp [results,Tryz.results138,go_sem,zeroL, *]) rfl ⟨?_,d,hd,.inr (.inr (.inl ⟨u_ HTW,u_ HX,⟨F1,u_ HF1⟩,rfl⟩))⟩
   iterate 6 refine Below.setCell ?_ (by simp <;> omega) _
   exact u_ UW
 have U0:=mB Z0 hb5;have U1:=mB Z1 hb5;have UW:=h_ ((u_ ZW).trans (hb5.mono (u_ ZW).size));have UT:=h_ ((u_ ZT).mono hb5);have UD:=mB ZD hb5
 have g3:=Nat.le_trans (u_ ZW).size hG3b
 have g23:G2<G3:=Nat.lt_of_lt_of_le (u_ HG2).lt hG3b
 replace HG2:=mB HG2 hb5
 clear hb5 Z0 Z1 ZW ZT ZD hG3b
 have HG3:=h_ hG3;have HF2:=h_ hF2;clear hG3 hF2
 go_wp2_with (go_at_call 173;refine (qh7 n _ hn).mono ?_;rintro e w6 ⟨rfl,hb6⟩;have V0:=mB U0 hb6;have V1:=mB U1 hb6;have VW:=h_ ((u_ UW).trans (hb6.mono (u_ UW).size));have VT:=h_ ((u_ UT).mono hb6);have VD:=mB UD hb6;have VG2:=mB HG2 hb6;have VG3:=mB HG3 hb6;clear hb6)
 have bA:=Blk.new w6 137 #[.int .u32 ((2 ^ n - 1:Nat):Int)]
 have bW:Below w6.heap.size w6 (w6.alloc (.cells #[.int .u32 ((2 ^ n - 1:Nat):Int)] 137)):=(bR _ _).alloc (nR _) _
 have S0:Hid (Hold (w6.alloc (.cells #[.int .u32 ((2 ^ n - 1:Nat):Int)] 137)) w.heap.size w1.heap.size w6.heap.size g d (2 ^ n - 1)) :=
  have h0:=(u_ V0).mono bW (u_ V0).lt
  have h1:=(u_ VD).mono bW (u_ VD).lt
  ⟨h0,h1,(u_ VT).mono bW,h0.range,h1.range,bA.cell 0,bA.lt⟩
 have hall:=all_lt hn
 obtain ⟨m,hm⟩:∃ m,2 ^ n - 1=m:=⟨_,rfl⟩
 rw [hm] at hall S0 ⊢
 rw [hm] at bW
 have HM:=h_ hm
 clear hm bA
 obtain ⟨W7,hW7⟩:∃ W7,w6.alloc (.cells #[.int .u32 (m:Int)] 137)=W7:=⟨_,rfl⟩
 rw [hW7] at S0 bW ⊢
 clear hW7
 have Z1:=mB V1 bW;have ZW:=h_ ((u_ VW).trans (bW.mono (u_ VW).size))
 have ZG2:=mB VG2 bW;have ZG3:=mB VG3 bW
 have n1:¬ w.heap.size=w.heap.size+1:=by omega
 have n2:w1.heap.size ≠ w.heap.size+1:=fun e=>by have h:=u_ VD;rw [e] at h;have h':=h.symm.trans (u_ V1);simp at h'
 have n3:w6.heap.size ≠ w.heap.size+1:=by have:=(u_ V1).lt;omega
 have n4:¬ 3=w.heap.size+1:=by first | omega | (have:=(u_ HT).pos;omega) | (have:=ht.pos;omega)
 have n5:G2 ≠ w.heap.size+1:=fun e=>by have h:=u_ VG2;rw [e] at h;have h':=h.symm.trans (u_ V1);simp at h'
 have n6:G3 ≠ w.heap.size+1:=fun e=>by have h:=u_ VG3;rw [e] at h;have h':=h.symm.trans (u_ V1);simp at h'
 have s7:w.heap.size<=W7.heap.size:=(u_ ZW).size
 have l2:=(u_ ZG2).lt;have l3:=(u_ ZG3).lt;have l1:=(u_ Z1).lt
 clear H0 H1 HW HT U0 U1 UW UT UD HG2 HG3 V0 V1 VW VT VD VG2 VG3 bW
 refine wp_region_held_drew (S:=fun w'=>Hold w' w.heap.size w1.heap.size w6.heap.size g d m) (by kernel_rfl) (u_ S0) (fun zz=>?_)
 refine take (i:=0) (v:=.int .i64 n) 39 rfl rfl (by kernel_rfl) (by kernel_rfl) (by kernel_rfl) (fun _ _ _ _ h=>h) (by exact q71 (by rfl) (.tmp 0) _ rfl rfl) zz ?_
 simp only [sX,sY,sZ]
 refine take (i:=2) (v:=.int .i64 n) 41 rfl rfl (by kernel_rfl) (by kernel_rfl) (by kernel_rfl) (fun _ _ _ _ h=>h) (by exact q71 (by rfl) (.tmp 0) _ rfl rfl) zz ?_
 simp only [sX,sY,sZ]
 refine take (i:=4) (v:=.slice (some ⟨G2,0,none⟩) (n*n) (n*n)) 43 rfl rfl (by kernel_rfl) (by kernel_rfl) (by kernel_rfl) (fun _ _ _ _ h=>h) (by exact q71 (by rfl) (.tmp 7) _ rfl rfl) zz ?_
 simp only [sX,sY,sZ]
 refine take (i:=5) (v:=.slice (some ⟨G3,0,none⟩) (n*n) (n*n)) 44 rfl rfl (by kernel_rfl) (by kernel_rfl) (by kernel_rfl) (fun _ _ _ _ h=>h) (by exact q71 (by rfl) (.tmp 9) _ rfl rfl) zz ?_
 simp only [sX,sY,sZ]
 refine take (i:=1) (v:=.agg (us g).toArray) 40 rfl rfl (by kernel_rfl) (by kernel_rfl) (by kernel_rfl) (fun _ _ _ _ h=>h) (by exact q72 (by rfl) (.tmp 3) rfl w.heap.size g rfl (fun _ h=>h.1)) zz ?_
 simp only [sX,sY,sZ]
 refine take (i:=6) (v:=.agg (us g).toArray) 45 rfl rfl (by kernel_rfl) (by kernel_rfl) (by kernel_rfl) (fun _ _ _ _ h=>h) (by exact q72 (by rfl) (.tmp 3) rfl w.heap.size g rfl (fun _ h=>h.1)) zz ?_
 simp only [sX,sY,sZ]
 refine take (i:=9) (v:=.agg (us d).toArray) 48 rfl rfl (by kernel_rfl) (by kernel_rfl) (by kernel_rfl) (fun _ _ _ _ h=>h) (by exact q72 (by rfl) (.tmp 6) rfl w1.heap.size d rfl (fun _ h=>h.2.1)) zz ?_
 simp only [sX,sY,sZ]
 refine take (i:=7) (v:=.agg #[.int .u32 (m:Int)]) 46 rfl rfl (by kernel_rfl) (by kernel_rfl) (by kernel_rfl) (fun _ _ _ _ h=>h) (by exact qa1 (by rfl) (.tmp 10) rfl w6.heap.size 0 _ rfl (fun _ h=>h.2.2.2.2.2.1)) zz ?_
 simp only [sX,sY,sZ]
 refine take (i:=10) (v:=.agg #[.int .u32 (m:Int)]) 49 rfl rfl (by kernel_rfl) (by kernel_rfl) (by kernel_rfl) (fun _ _ _ _ h=>h) (by exact qa1 (by rfl) (.tmp 10) rfl w6.heap.size 0 _ rfl (fun _ h=>h.2.2.2.2.2.1)) zz ?_
 simp only [sX,sY,sZ]
 refine callH (i:=3) (f:=174) (args:=#[.agg (us g).toArray,.int .i64 n]) (R:=fun v w8=>∃ G1,v=.slice (some ⟨G1,0,none⟩) (n*n) (n*n)/\Blk w8 G1 4 (bs (n*n) (tabB n R))/\W7.heap.size<=G1/\Below W7.heap.size W7 w8) 42 rfl rfl (by rfl) (by kernel_rfl) ?hrun1 ((qd9 n g R _ h1 hn hg).mono fun e w8 ⟨G1,he,hG1,hG1b,hb8⟩=>⟨_,he,G1,rfl,hG1,hG1b,q26 hb8⟩) ?_
 case hrun1=>simp [execOp,go_sem]
 rintro v w8 ⟨G1,rfl,hG1,hG1b,hb8⟩
 have S1:Hold w8 w.heap.size w1.heap.size w6.heap.size g d m:=(u_ S0).mono hb8
 refine ⟨S1,?_⟩
 simp only [sX,sY,sZ]
 refine callH (i:=8) (f:=175) (args:=#[.agg (us g).toArray,.agg #[.int .u32 (m:Int)]]) (R:=fun v w'=>∃ r,v=.int .i64 r/\Least g m r/\Below w8.heap.size w8 w') 47 rfl rfl (by rfl) (by kernel_rfl) ?hrun2 ((q5v g m _ hgL hall S1.2.2.1).mono fun e w' ⟨r,he,hr,hb⟩=>⟨_,he,r,rfl,hr,hb⟩) ?_
 case hrun2=>simp [execOp,go_sem]
 rintro v w9 ⟨bot,rfl,hbot,hb9⟩
 have S2:=S1.mono hb9
 refine ⟨S2,?_⟩
 simp only [sX,sY,sZ]
 refine callH (i:=11) (f:=175) (args:=#[.agg (us d).toArray,.agg #[.int .u32 (m:Int)]]) (R:=fun v w'=>∃ r,v=.int .i64 r/\Least d m r/\Below w9.heap.size w9 w') 50 rfl rfl (by rfl) (by kernel_rfl) ?hrun3 ((q5v d m _ hdL hall S2.2.2.1).mono fun e w' ⟨r,he,hr,hb⟩=>⟨_,he,r,rfl,hr,hb⟩) ?_
 case hrun3=>simp [execOp,go_sem]
 rintro v w10 ⟨top,rfl,htop,hb10⟩
 have S3:=S2.mono hb10
 refine ⟨S3,?_⟩
 simp only [sX,sY,sZ]
 have hb79:Below W7.heap.size W7 w10:=(hb8.trans (hb9.mono hb8.size)).trans (hb10.mono (Nat.le_trans hb8.size hb9.size))
 have X1:=(u_ Z1).mono hb79 l1
 obtain ⟨⟨r0,r1,r2,r3,r4,r5⟩,q0,q1,q2,q3,q4,q5⟩:=six X1
 refine take (i:=12) (v:=.agg #[.int .i64 n,.slice (some ⟨G1,0,none⟩) (n*n) (n*n),.slice (some ⟨G2,0,none⟩) (n*n) (n*n),.slice (some ⟨G3,0,none⟩) (n*n) (n*n),.int .i64 bot,.int .i64 top]) 51 rfl rfl (by kernel_rfl) (by kernel_rfl) (by kernel_rfl) (fun _ _ _ _ h=>h) (.inl ⟨by rfl,fun w' _=>?build⟩) S3 ?_
 case build=>simp [execOp,go_sem]
 simp only [sX,sY,sZ]
 refine runH (i:=13) rfl (by rfl) (by kernel_rfl) rfl (v:=.skip) (w':=(((((w10.setCell ⟨w.heap.size+1,0,none⟩ (.int .i64 n)).setCell ⟨w.heap.size+1,1,none⟩ (.slice (some ⟨G1,0,none⟩) (n*n) (n*n))).setCell ⟨w.heap.size+1,2,none⟩ (.slice (some ⟨G2,0,none⟩) (n*n) (n*n))).setCell ⟨w.heap.size+1,3,none⟩ (.slice (some ⟨G3,0,none⟩) (n*n) (n*n))).setCell ⟨w.heap.size+1,4,none⟩ (.int .i64 bot)).setCell ⟨w.heap.size+1,5,none⟩ (.int .i64 top)) ?hrun4 rfl ((((((S3.set n1 n2 n3 n4).set n1 n2 n3 n4).set n1 n2 n3 n4).set n1 n2 n3 n4).set n1 n2 n3 n4).set n1 n2 n3 n4) ?_
 case hrun4=>simp [execOp,go_sem, *]
 have S4:=(((((S3.set (j:=0) (v:=.int .i64 (n:Int)) n1 n2 n3 n4).set (j:=1) (v:=.slice (some ⟨G1,0,none⟩) (n*n) (n*n)) n1 n2 n3 n4).set (j:=2) (v:=.slice (some ⟨G2,0,none⟩) (n*n) (n*n)) n1 n2 n3 n4).set (j:=3) (v:=.slice (some ⟨G3,0,none⟩) (n*n) (n*n)) n1 n2 n3 n4).set (j:=4) (v:=.int .i64 bot) n1 n2 n3 n4).set (j:=5) (v:=.int .i64 top) n1 n2 n3 n4
 refine take (i:=14) (v:=.int .i64 0) 5 rfl rfl (by kernel_rfl) (by kernel_rfl) (by kernel_rfl) (fun _ _ _ _ h=>h) (.inl ⟨by rfl,fun w' _=>?asg⟩) S4 ?_
 case asg=>simp [execOp,go_sem]
 simp only [sX,sY,sZ]
 refine wpAnyH_done (by kernel_rfl) ?_ _
 have XG2:=h_ ((u_ ZG2).mono hb79 l2);have XG3:=h_ ((u_ ZG3).mono hb79 l3)
 have XG1:=h_ ((hG1.mono hb9 hG1.lt).mono hb10 (hG1.mono hb9 hG1.lt).lt)
 have XW:=h_ ((u_ ZW).trans (hb79.mono s7))
 have HBOT:=h_ hbot;have HTOP:=h_ htop
 have n7:G1 ≠ w.heap.size+1:=by omega
 have n8:G1 ≠ G2:=by omega
 have n9:G1 ≠ G3:=by omega
 clear S1 S2 S3 S4 X1 hb8 hb9 hb10 hb79 hG1 hbot htop zz
 go_wp2
 refine bodyPost_ret (v:=.tuple #[.agg #[.int .i64 n,.slice (some ⟨G1,0,none⟩) (n*n) (n*n),.slice (some ⟨G2,0,none⟩) (n*n) (n*n),.slice (some ⟨G3,0,none⟩) (n*n) (n*n),.int .i64 bot,.int .i64 top],.int .i64 0]) (by simp [results,Tryz.results138,go_sem, *]) rfl ⟨?_,d,hd,.inr (.inr (.inr ⟨u_ HTW,G1,G2,G3,F1,F2,bot,top,rfl,?_,?_,?_,by omega,g2,g3,n8,n9,by omega,u_ HF1,u_ HF2,by rw [u_ HM];exact u_ HBOT,by rw [u_ HM];exact u_ HTOP⟩))⟩
 . iterate 6 refine Below.setCell ?_ (by simp <;> omega) _
   exact u_ XW
 . iterate 6 refine Blk.other ?_ _ (by simp <;> omega)
   exact u_ XG1
 . iterate 6 refine Blk.other ?_ _ (by simp <;> omega)
   exact u_ XG2
 . iterate 6 refine Blk.other ?_ _ (by simp <;> omega)
   exact u_ XG3
end Go.Proofs.YtgkcaeidhkddjaaGreatDoor
