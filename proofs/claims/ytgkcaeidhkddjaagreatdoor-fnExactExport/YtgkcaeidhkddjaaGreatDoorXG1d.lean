import Derived.Test.YtgkcaeidhkddjaaGreatDoorXG1c
import Derived.Deep.MidRow
set_option maxRecDepth 100000
set_option maxHeartbeats 20000000
namespace Go.Proofs.YtgkcaeidhkddjaaGreatDoor
open Go Go.RowKit
def firstN (p:Nat->Bool) (n:Nat):Int:=match (List.range n).find? p with
 | some c=>c
 | none=>-1
theorem qb7 {p:Nat->Bool} {n k:Nat} (hk:k<n) (h:∀ c,c<k->p c=false) (hp:p k=true):firstN p n=k:=by
 have:(List.range n).find? p=some k:=by
  rw [List.find?_range_eq_some]
  exact ⟨hp,by simpa using hk,fun j hj=>by simp [h j hj]⟩
 rw [firstN,this]
theorem q7s {p:Nat->Bool} {n:Nat} (h:∀ c,c<n->p c=false):firstN p n = -1:=by
 have:(List.range n).find? p=none:=by
  rw [List.find?_eq_none]
  intro x hx
  simp [h x (List.mem_range.1 hx)]
 rw [firstN,this]
theorem q55 (p:Nat->Bool) (n:Nat):(∃ c:Nat,c<n/\firstN p n=c/\p c=true) ∨ (firstN p n = -1/\∀ c,c<n->p c=false):=by
 cases e:(List.range n).find? p with
 | some c =>
  left
  have h1:=List.find?_some e
  have h2:=List.mem_of_find?_eq_some e
  exact ⟨c,List.mem_range.1 h2,by rw [firstN,e],h1⟩
 | none =>
  right
  refine ⟨by rw [firstN,e],fun c hc=>?_⟩
  have:=(List.find?_eq_none.1 e) c (List.mem_range.2 hc)
  simpa using this
theorem snocP {p:Nat->Bool} {k:Nat} (h:∀ c,c<k->p c=false) (hk:p k=false):∀ c,c<k+1->p c=false:=fun c hc=>by
 by_cases e:c=k
 . rw [e];exact hk
 . exact h c (by omega)
theorem q88 (t:Option Addr) (m cap n a b:Nat) (f:Nat->Bool) (w:World) (hm:n*n<=m) (hn:n<=32) (ha:a<n) (hb:b<n) (ht:Bools w t m f) (r:Int) (hr:firstN (isJoin f n a b) n=r) :
 Calls Tryz.prog 104 #[.slice t m cap,.int .i64 n,.int .i64 a,.int .i64 b] w fun e w'=>e=.returned (.int .i64 r)/\w'=w:=by
 have HM:=h_ hm;have HR:=h_ hr;clear hm hr
 go_enter Tryz.func104,Tryz.ntmps104
 go_wp2
 go_loop [9] (fun i=>∃ k:Nat,k<=n/\i=.int .i64 k/\∀ c,c<k->isJoin f n a b c=false) (fun i=>n - (intOf i).toNat)
 case atStart=>exact ⟨0,nZ _,rfl,fun c h=>absurd h (nL _)⟩
 case round =>
  obtain ⟨k,hk,rfl,hall⟩:=hrel
  have HA:=h_ hall;clear hall
  by_cases hlt:k<n
  . cases hj:isJoin f n a b k
    . go_wp2_with (go_at_call 131;refine (q3w _ _ _ _ _ _ _ f _ (u_ HM) hn ha hb hlt ht).mono ?_;rintro e w' ⟨rfl,rfl⟩;rw [hj])
      go_round
      case rel=>exact ⟨k+1,by omega,by go_num,snocP (u_ HA) hj⟩
      case measure=>simp [intOf];omega
    . have hv:=qb7 hlt (u_ HA) hj
      rw [u_ HR] at hv
      subst hv
      go_wp2_with (go_at_call 131;refine (q3w _ _ _ _ _ _ _ f _ (u_ HM) hn ha hb hlt ht).mono ?_;rintro e w' ⟨rfl,rfl⟩;rw [hj])
      go_ret
      exact ⟨rfl,rfl⟩
  . have hv:=q7s (p:=isJoin f n a b) (n:=n) fun c hc=>u_ HA c (by omega)
    rw [u_ HR] at hv
    subst hv
    go_wp2
    go_ret
    exact ⟨rfl,rfl⟩
theorem q89 (t:Option Addr) (m cap n a b:Nat) (f:Nat->Bool) (w:World) (hm:n*n<=m) (hn:n<=32) (ha:a<n) (hb:b<n) (ht:Bools w t m f) (r:Int) (hr:firstN (isMeet f n a b) n=r) :
 Calls Tryz.prog 105 #[.slice t m cap,.int .i64 n,.int .i64 a,.int .i64 b] w fun e w'=>e=.returned (.int .i64 r)/\w'=w:=by
 have HM:=h_ hm;have HR:=h_ hr;clear hm hr
 go_enter Tryz.func105,Tryz.ntmps105
 go_wp2
 go_loop [9] (fun i=>∃ k:Nat,k<=n/\i=.int .i64 k/\∀ c,c<k->isMeet f n a b c=false) (fun i=>n - (intOf i).toNat)
 case atStart=>exact ⟨0,nZ _,rfl,fun c h=>absurd h (nL _)⟩
 case round =>
  obtain ⟨k,hk,rfl,hall⟩:=hrel
  have HA:=h_ hall;clear hall
  by_cases hlt:k<n
  . cases hj:isMeet f n a b k
    . go_wp2_with (go_at_call 132;refine (q3x _ _ _ _ _ _ _ f _ (u_ HM) hn ha hb hlt ht).mono ?_;rintro e w' ⟨rfl,rfl⟩;rw [hj])
      go_round
      case rel=>exact ⟨k+1,by omega,by go_num,snocP (u_ HA) hj⟩
      case measure=>simp [intOf];omega
    . have hv:=qb7 hlt (u_ HA) hj
      rw [u_ HR] at hv
      subst hv
      go_wp2_with (go_at_call 132;refine (q3x _ _ _ _ _ _ _ f _ (u_ HM) hn ha hb hlt ht).mono ?_;rintro e w' ⟨rfl,rfl⟩;rw [hj])
      go_ret
      exact ⟨rfl,rfl⟩
  . have hv:=q7s (p:=isMeet f n a b) (n:=n) fun c hc=>u_ HA c (by omega)
    rw [u_ HR] at hv
    subst hv
    go_wp2
    go_ret
    exact ⟨rfl,rfl⟩
end Go.Proofs.YtgkcaeidhkddjaaGreatDoor
namespace Go.Proofs.YtgkcaeidhkddjaaGreatDoor
open Go Go.RowKit Go.Shelf
attribute [local go_sem] Oper.semAt_some
def Least (g:Nat->Nat) (s:Nat) (v:Int):Prop:=(∃ c:Nat,c<32/\v=(c:Int)/\s.testBit c=true/\minusN s (g c)=0) ∨ (v = -1/\∀ c:Nat,s.testBit c=true->¬ minusN s (g c)=0)
theorem q8l (n:Nat) (g:Nat->Nat) (s:Nat) (w:World) (hg:∀ a,a<32->g a<4294967296) (hs:s<4294967296) (ht:Tab w) :
 CallsIn Fence.wide n Tryz.prog 175 #[.agg (us g).toArray,.agg #[.int .u32 (s:Int)]] w fun e w'=>∃ v,e=.returned (.int .i64 v)/\Least g s v/\Below w.heap.size w w':=by
 refine callsIn_of_wp_marks Tryz.func175 rfl trivial ?_ rfl
 simp only [Tryz.ntmps175,List.size_toArray,List.length_cons,List.length_nil,Nat.reduceAdd,Nat.reduceSub,Array.replicate_succ,Array.replicate_zero,List.push_toArray,List.append_toArray,List.nil_append,List.cons_append]
 gi_wp2_with fail
 refine callW ((q8i _ _).mono ?_)
 rintro e w1 ⟨rfl,rfl⟩
 gi_wp2_with fail
 have B0:=((Blk.new w 221 (us g).toArray).alloc (.cells #[.int .u32 (s:Int)] 137)).alloc (.cells #[.int .i64 0] 3) |>.alloc (.cells #[.int .u32 (s:Int)] 137)
 have B1:=((Blk.new (w.alloc (.cells (us g).toArray 221)) 137 #[.int .u32 (s:Int)]).alloc (.cells #[.int .i64 0] 3)).alloc (.cells #[.int .u32 (s:Int)] 137)
 have B2:=(Blk.new ((w.alloc (.cells (us g).toArray 221)).alloc (.cells #[.int .u32 (s:Int)] 137)) 3 #[.int .i64 0]).alloc (.cells #[.int .u32 (s:Int)] 137)
 have B3:=Blk.new (((w.alloc (.cells (us g).toArray 221)).alloc (.cells #[.int .u32 (s:Int)] 137)).alloc (.cells #[.int .i64 0] 3)) 137 #[.int .u32 (s:Int)]
 have BW:=below4 w (.cells (us g).toArray 221) (.cells #[.int .u32 (s:Int)] 137) (.cells #[.int .i64 0] 3) (.cells #[.int .u32 (s:Int)] 137)
 simp only [World.size_alloc] at B1 B2 B3
 have T4:=ht.mono BW
 have z4:((((w.alloc (.cells (us g).toArray 221)).alloc (.cells #[.int .u32 (s:Int)] 137)).alloc (.cells #[.int .i64 0] 3)).alloc (.cells #[.int .u32 (s:Int)] 137)).heap.size=w.heap.size+1+1+1+1:=by simp
 obtain ⟨W4,hW4⟩:∃ W4,(((w.alloc (.cells (us g).toArray 221)).alloc (.cells #[.int .u32 (s:Int)] 137)).alloc (.cells #[.int .i64 0] 3)).alloc (.cells #[.int .u32 (s:Int)] 137)=W4:=⟨_,rfl⟩
 rw [hW4] at B0 B1 B2 B3 BW T4 z4 ⊢
 clear hW4
 refine qcj (gf:=222) (lb:=#[.pointer (some ⟨w.heap.size+1+1+1,0,none⟩)]) rfl (enters_of Tryz.func222 (by kernel_rfl) rfl)
  (q40 (w.heap.size+1+1+1) s W4 (fun _=>False) hs B3 T4 (fun h=>h)) (bR _ _) (fun _ h=>h.elim) rfl
  (fun pre W=>(∀ c ∈ pre,¬ minusN s (g c)=0)/\Blk W w.heap.size 221 (us g)/\Blk W (w.heap.size+1) 137 [.int .u32 (s:Int)]/\Blk W (w.heap.size+1+1) 3 [.int .i64 0]/\Below w.heap.size w W)
  (fun pre W=>∃ c,c ∈ pre/\c<32/\minusN s (g c)=0/\Blk W (w.heap.size+1+1) 3 [.int .i64 (c:Int)]/\Below w.heap.size w W)
  ?hI ?hIx ⟨fun _ h=>(by cases h),B0,B1,B2,BW⟩
  (fun x=>{ tmps:=#[.agg (us g).toArray,.agg #[.int .u32 (s:Int)],.pointer (some ⟨w.heap.size,0,none⟩),.pointer (some ⟨w.heap.size+1,0,none⟩),.pointer (some ⟨w.heap.size+1+1,0,none⟩),.int .i64 (x:Int),.agg #[.int .u32 (s:Int)],.func (.func 222) #[] #[.pointer (some ⟨w.heap.size+1+1+1,0,none⟩)],.int .i64 (x:Int),undef,undef,undef,undef,undef,undef,undef],defers:=[] })
  ?assign ?body ?done ?stop
 case hI =>
  rintro pre W W' ⟨h1,h2,h3,h4,h5⟩ hb
  rw [z4] at hb
  exact ⟨h1,h2.mono hb (by omega),h3.mono hb (by omega),h4.mono hb (by omega),h5.trans (hb.mono (by omega))⟩
 case hIx =>
  rintro pre W W' ⟨c,h1,h2,h3,h4,h5⟩ hb
  rw [z4] at hb
  exact ⟨c,h1,h2,h3,h4.mono hb (by omega),h5.trans (hb.mono (by omega))⟩
 case assign =>
  intro m l x W K hK
  gi_wp2
  exact hK
 case body =>
  rintro m l pre x W ⟨h1,h2,h3,h4,h5⟩ ⟨hx32,hxs⟩
  have hmix:Tryz.prog.follows .mixedOrders=true:=by kernel_rfl
  have cg:=h2.cell x
  rw [us_get g hx32] at cg
  have cs:=h3.cell 0
  simp only [List.getElem?_cons_zero] at cs
  have cr:=h4.cell 0
  have fr:=h4.free 0
  simp only [List.getElem?_cons_zero] at cr
  have hgx:=hg x hx32
  have x0i:(0:Int)<=x:=by omega
  have x1i:(x:Int)<32:=by omega
  have hlW:=h4.lt
  have H1:=h_ h1;have H2:=h_ h2;have H3:=h_ h3;have H4:=h_ h4;have H5:=h_ h5;clear h1 h2 h3 h4 h5
  have HXS:=h_ hxs;clear hxs
  have hm:=qby (t:=g x) hs
  cases hz:(minusN s (g x) == 0)
  . have HM:Hid (¬ minusN s (g x)=0):=by simpa [Hid] using hz
    gi_wp2_with fail
    gi_region_with_o (first | (refine callR ((qbz _ _ _ hs hgx).mono ?_);rintro e w' ⟨rfl,rfl⟩) | (refine callR ((qav _ _).mono ?_);rintro e w' ⟨rfl,rfl⟩))
    all_goals
     gi_wp2
     refine ⟨keepsO (below4 _ _ _ _ _).drew,KeepX.of_below (below4 _ _ _ _ _).drew,fun c hc=>?_,(u_ H2).mono (below4 _ _ _ _ _).drew (u_ H2).lt,(u_ H3).mono (below4 _ _ _ _ _).drew (u_ H3).lt,(u_ H4).mono (below4 _ _ _ _ _).drew (u_ H4).lt,(u_ H5).trans ((below4 W _ _ _ _).drew.mono (u_ H5).size)⟩
     rcases List.mem_append.1 hc with h | h
     . exact u_ H1 c h
     . rw [List.mem_singleton.1 h];exact u_ HM
  . have HM:Hid (minusN s (g x)=0):=by simpa [Hid] using hz
    have K4:=(u_ H4).cell4 0;have F4:=(u_ H4).free4 0
    simp only [List.getElem?_cons_zero] at K4
    gi_wp2_with fail
    gi_region_with_o (first | (refine callR ((qbz _ _ _ hs hgx).mono ?_);rintro e w' ⟨rfl,rfl⟩) | (refine callR ((qav _ _).mono ?_);rintro e w' ⟨rfl,rfl⟩))
    all_goals
     gi_wp2
     refine ⟨(keepsO (below4 _ _ _ _ _)).trans ((KeepsOthers.setCell _ _ _).trans (KeepsOthers.drew _)),x,by simp,hx32,u_ HM,?_,?_⟩
     . exact ((u_ H4).mono (below4 _ _ _ _ _) (u_ H4).lt).set 0 (.int .i64 (x:Int))
     . exact (((u_ H5).trans ((below4 W _ _ _ _).mono (u_ H5).size)).setCell (p:=⟨w.heap.size+1+1,0,none⟩) (by simp;omega) _).drew
 case done =>
  rintro D xs W hD hS ⟨h1,h2,h3,h4,h5⟩ hK
  have cr:=h4.cell 0
  have fr:=h4.free 0
  simp only [List.getElem?_cons_zero] at cr
  have H1:=h_ h1;have H4:=h_ h4;have H5:=h_ h5;have HK:=h_ hK;clear h1 h2 h3 h4 h5 hK
  have HS:=h_ hS;clear hS
  gi_wp2
  have hK':=(KeepsOthers.setCell W ⟨w.heap.size+1+1,0,none⟩ (.int .i64 (-1))).same D _ (u_ HK) rfl
  have hB':=((u_ H4).set 0 (.int .i64 (-1))).put (.deferred none) hK' rfl
  refine ⟨by simp,.inl ⟨_,_,rfl,run_takeDeferred hK',?_⟩⟩
  have hc5:=hB'.cell 0
  simp only [List.set_cons_zero,List.getElem?_cons_zero] at hc5
  refine ⟨.int .i64 (-1),?_,-1,rfl,.inr ⟨rfl,fun c hc=>u_ H1 c ((u_ HS c).2 hc)⟩,?_⟩
  . simp [results,Tryz.f175,go_sem,hc5]
  . exact ((u_ H5).setCell (p:=⟨w.heap.size+1+1,0,none⟩) (by simp;omega) _).trans (qa8 _ D _ (by omega))
 case stop =>
  rintro D pre W hD hSp ⟨c,h1,h2,h3,h4,h5⟩ hK
  have HK:=h_ hK;have H4:=h_ h4;have H5:=h_ h5;have H3:=h_ h3;have HSp:=h_ hSp;clear h4 h5 h3 hK hSp
  gi_wp2
  refine ⟨by simp,.inl ⟨_,_,rfl,run_takeDeferred (u_ HK),?_⟩⟩
  have hc5:=((u_ H4).put (.deferred none) (u_ HK) rfl).cell 0
  simp only [List.getElem?_cons_zero] at hc5
  refine ⟨.int .i64 (c:Int),?_,c,rfl,.inl ⟨c,h2,rfl,u_ HSp c h1,u_ H3⟩,?_⟩
  . simp [results,Tryz.f175,go_sem,hc5]
  . exact (u_ H5).trans (qa8 _ D _ (by omega))
theorem q5v (g:Nat->Nat) (s:Nat) (w:World) (hg:∀ a,a<32->g a<4294967296) (hs:s<4294967296) (ht:Tab w) :
 Calls Tryz.prog 175 #[.agg (us g).toArray,.agg #[.int .u32 (s:Int)]] w fun e w'=>∃ v,e=.returned (.int .i64 v)/\Least g s v/\Below w.heap.size w w' :=
 (callsIn_wide (n:=9)).1 (q8l 9 g s w hg hs ht)
end Go.Proofs.YtgkcaeidhkddjaaGreatDoor
namespace Go.Proofs.YtgkcaeidhkddjaaGreatDoor
open Go Go.RowKit
theorem qg7 {w:World} {b:Nat} {g:Nat->Nat} (hb:Blk w b 221 (us g)):(Instr.loadAt 221 (.pointer (some ⟨b,0,none⟩))).run Tryz.prog w=.ok (.agg (us g).toArray) w:=by
 simp only [Instr.loadAt,Instr.sureAddr,Sem.run_bind,Sem.run_pure,Result.andThen_ok,run_loadVar_row w b 221 221 (us g).toArray (0,0) _ hb Tryz.underlying221 rfl (qkh g)]
theorem Blk.range {w:World} {b:Nat} {t:TypeId} {cs:List Value} (h:Blk w b t cs):w.rangeAt b 0 cs:=fun j v hv=>by rw [Nat.zero_add,h.cell,hv]
theorem len_us (g:Nat->Nat):(Tryz.prog.info? 221).map (·.size)=some (us g).length:=by rw [qct,qdi]
def Held (w':World) (B k j:Nat) (g:Nat->Nat):Prop:=Blk w' B 221 (us g)/\Tab w'/\w'.cell? ⟨B,k,none⟩=some (.int .u32 (g k:Int))/\w'.cell? ⟨B,j,none⟩=some (.int .u32 (g j:Int))/\w'.rangeAt B 0 (us g)
theorem Held.mono {w w':World} {B k j:Nat} {g:Nat->Nat} (h:Held w B k j g) (hb:Below w.heap.size w w'):Held w' B k j g :=
 have h0:=h.1.mono hb h.1.lt
 ⟨h0,h.2.1.mono hb,(hb.cell (p:=⟨B,k,none⟩) h.1.lt).trans h.2.2.1,(hb.cell (p:=⟨B,j,none⟩) h.1.lt).trans h.2.2.2.1,h0.range⟩
theorem _root_.Go.World.ownsRow.mono3 {w w':World} {base e g n cap:Nat} {xs:List Value} (h:w.ownsRow base e 1 (.slice (some ⟨g,0,none⟩) n cap) n xs) (hb:Below w.heap.size w w'):w'.ownsRow base e 1 (.slice (some ⟨g,0,none⟩) n cap) n xs :=
 h.kept (row:=none) ⟨hb.os,hb.tape,hb.output,hb.size,fun k hk _=>hb.block k hk⟩ (.inr (by simp [Value.ownBlock]))
def Entry (g:Nat->Nat) (a b:Nat) (v:Int):Prop:=Least g (commonN (g a) (g b)) v
theorem q7a (n:Nat) (g:Nat->Nat) (w:World) (h1:1<=n) (hn:n<=32) (hg:∀ a,a<32->g a<4294967296) (ht:Tab w) :
 Calls Tryz.prog 172 #[.agg (us g).toArray,.int .i64 n] w fun e w'=>Below w.heap.size w w' /\
  ((∃ G F,e=.returned (.tuple #[.slice (some ⟨G,0,none⟩) (n*n) (n*n),.bool true])/\Blk w' G 3 (is (n*n) F)/\w.heap.size<=G/\∀ a,a<n->∀ b,b<n->0<=F (a*n+b)/\Entry g a b (F (a*n+b))) ∨
   (e=.returned (.tuple #[.slice none 0 0,.bool false])/\∃ a b,a<n/\b<n/\Entry g a b (-1))):=by
 obtain ⟨i0,hi,hz0,hz1,hz2⟩:=info_parts qel
 have q1:(n:Int)*n<=1024:=by rw [<- Int.natCast_mul];have:=sq_le hn;omega
 have q0:0<=(n:Int)*n:=by rw [<- Int.natCast_mul];omega
 have q2:=sq_le hn
 have hbn:i0.bytes*(n*n)<=281474976710656:=by rw [hz2];omega
 have hC:((n:Int)*n)=((n*n:Nat):Int):=by simp
 have HC:=h_ hC;clear hC
 go_enter Tryz.func172,Tryz.ntmps172
 go_wp2_with (at_make;refine wpList_make_own _ rfl _ (.tmp 12) 84 rfl w.heap.size 3 i0 (.int .i64 0) 1 Tryz.underlying84 hi hz0 hz1 .i64 .i64 _ (n*n) rfl rfl (u_ HC) hbn (by unfold maxLen;omega) (by simp) ?_;intro w1 hown hgrow)
 have hb1:Below w.heap.size w w1:=((bR _ w).alloc (nR _) _).trans ((bR w.heap.size _).grown hgrow (by simp) (fun k e=>by cases e))
 have hB:=(Blk.new w 221 (us g).toArray).grown hgrow (by simp)
 have HO:=h_ hown;have HB1:=h_ hb1;have HB:=h_ hB
 clear hown hb1 hB hgrow hbn
 go_loopw [6,15] (fun v i wr=>∃ (k:Nat) (F:Nat->Int),k<=n/\i=.int .i64 k/\v=.slice (some ⟨w.heap.size+1,0,none⟩) (k*n) (n*n)/\wr.ownsRow w.heap.size 3 1 (.slice (some ⟨w.heap.size+1,0,none⟩) (k*n) (n*n)) (k*n) (is (k*n) F)/\Blk wr w.heap.size 221 (us g)/\Below w.heap.size w wr/\(∀ a,a<k->∀ b,b<n->0<=F (a*n+b)/\Entry g a b (F (a*n+b)))) (fun _ i _=>n - (intOf i).toNat)
 case atStart=>exact ⟨0,fun _=>0,nZ _,rfl,by simp,by simpa [is] using u_ HO,u_ HB,u_ HB1,fun a h=>absurd h (nL _)⟩
 case round =>
  clear HO HB HB1
  obtain ⟨k,F,hk,rfl,rfl,hown,hB,hW,hF⟩:=hrel
  have HO:=h_ hown;have HB:=h_ hB;have HW:=h_ hW;have HF:=h_ hF;clear hown hB hW hF
  by_cases hlt:k<n
  . go_wp2_with fail
    go_loopw [6,19] (fun v i wr=>∃ (j:Nat) (F:Nat->Int),j<=n/\i=.int .i64 j/\v=.slice (some ⟨w.heap.size+1,0,none⟩) (k*n+j) (n*n)/\wr.ownsRow w.heap.size 3 1 (.slice (some ⟨w.heap.size+1,0,none⟩) (k*n+j) (n*n)) (k*n+j) (is (k*n+j) F)/\Blk wr w.heap.size 221 (us g)/\Below w.heap.size w wr/\(∀ a,a<k->∀ b,b<n->0<=F (a*n+b)/\Entry g a b (F (a*n+b)))/\(∀ b,b<j->0<=F (k*n+b)/\Entry g k b (F (k*n+b)))) (fun _ i _=>n - (intOf i).toNat)
    case atStart=>exact ⟨0,F,nZ _,rfl,by simp,by simpa using u_ HO,u_ HB,u_ HW,u_ HF,fun b h=>absurd h (nL _)⟩
    case round =>
     clear HO HB HW HF
     obtain ⟨j,F,hj,rfl,rfl,hown,hB,hW,hF,hG⟩:=hrel
     have HO:=h_ hown;have HB:=h_ hB;have HW:=h_ hW;have HF:=h_ hF;have HG:=h_ hG
     by_cases hlj:j<n
     . have k32:k<32:=by omega
       have j32:j<32:=by omega
       have ck:=hB.cell k
       have cj:=hB.cell j
       rw [us_get _ k32] at ck;rw [us_get _ j32] at cj
       have gk:=hg k k32;have gj:=hg j j32
       have gc:=q7g (t:=g j) gk
       have l0:=hB.lt
       have hT:=ht.mono hW
       have S0:Hid (Held wr w.heap.size k j g):=⟨hB,hT,ck,cj,hB.range⟩
       have hu56:=Tryz.underlying221
       have hl56:=len_us g
       have k0i:(0:Int)<=k:=by omega
       have k1i:(k:Int)<32:=by omega
       have j0i:(0:Int)<=j:=by omega
       have j1i:(j:Int)<32:=by omega
       clear hown hB hW hF hG hT ck cj
       go_wp2_with fail
       go_region_held3 (fun w'=>Blk w' w.heap.size 221 (us g)/\Tab w'/\w'.cell? ⟨w.heap.size,k,none⟩=some (.int .u32 (g k:Int))/\w'.cell? ⟨w.heap.size,j,none⟩=some (.int .u32 (g j:Int))/\w'.rangeAt w.heap.size 0 (us g)) (first | exact u_ S0 | exact u_ S2 | exact u_ S3) (first | (go_at_call 205;refine (q7h _ _ _ gk gj).mono ?_;rintro e w2 ⟨rfl,hb2⟩;have S2:Hid (Held w2 w.heap.size k j g):=(u_ S0).mono (q26 hb2);replace hb2:=h_ (q26 hb2)) | (go_at_call 175;refine (q5v g _ _ hg gc (u_ S2).2.1).mono ?_;rintro e w3 ⟨v,rfl,hv,hb3⟩;have S3:Hid (Held w3 w.heap.size k j g):=(u_ S2).mono hb3;replace hb3:=h_ ((u_ hb2).trans (hb3.mono (u_ hb2).size));replace hv:=h_ hv))
       have HV:Hid (Entry g k j v):=hv
       have HW3:Hid (Below wr.heap.size wr w3):=hb3
       have own3:=(u_ HO).mono3 (u_ HW3)
       have hB3:=(u_ S3).1
       have hv0:v = -1 ∨ 0<=v:=by
        rcases u_ HV with ⟨c,-,rfl,-⟩ | ⟨rfl,-⟩
        . exact .inr (by omega)
        . exact .inl rfl
       have hlen:=idx_lt hlt hlj
       have hWW:=(u_ HW).trans ((u_ HW3).mono (u_ HW).size)
       have HO3:=h_ own3;have HB3:=h_ hB3;have HWW:=h_ hWW
       clear own3 hB3 hWW hv hb3 hb2 S0 S2 S3 hu56 hl56
       rcases hv0 with rfl | hv0
       . have HX:Hid (∃ a b,a<n/\b<n/\Entry g a b (-1)):=⟨k,j,hlt,hlj,u_ HV⟩
         go_wp2
         go_ret2
         exact ⟨u_ HWW,.inr ⟨rfl,u_ HX⟩⟩
       . go_wp2_with (at_builtin;refine wpList_append_fits _ rfl _ _ 84 rfl w.heap.size 3 i0 1 Tryz.underlying84 hi hz1 (w.heap.size+1) (k*n+j) (n*n) _ rfl ((u_ HO3).alloc _) ⟨w3.heap.size,0,none⟩ 1 1 [.int .i64 v] rfl rfl ?c1 (by simp [Value.oneCell']) hlen ?_)
         case c1 =>
          intro q u hq
          match q,hq with
          | 0,hq=>simp at hq;subst hq;simp [Addr.add]
         . intro w4 hown4 hgrow4
           have hB4:=((u_ HB3).alloc (.cells #[.int .i64 v] 3)).grown hgrow4 (by simp)
           have hW4:=((u_ HWW).alloc (u_ HWW).size (.cells #[.int .i64 v] 3)).grown hgrow4 (by have:=(u_ HWW).size;simp;omega) (fun q e=>by cases e;omega)
           have HO4:=h_ hown4;have HB4:=h_ hB4;have HW4:=h_ hW4;clear hown4 hgrow4 hB4 hW4
           go_wp2
           go_roundw
           case rel =>
            refine ⟨j+1,fun i=>if i=k*n+j then v else F i,by omega,by go_num,rfl,?_,u_ HB4,u_ HW4,fun a ha b hb=>?_,fun b hb=>?_⟩
            . have e:is (k*n+(j+1)) (fun i=>if i=k*n+j then v else F i)=is (k*n+j) F++[.int .i64 v]:=by
               rw [<- Nat.add_assoc,qin]
               simp only [if_true]
               congr 1
               unfold is
               refine List.map_congr_left fun q hq=>?_
               simp only [if_neg (show ¬ q=k*n+j by have:=List.mem_range.1 hq;omega)]
              rw [e];exact u_ HO4
            . have:¬ a*n+b=k*n+j:=by
               have h2:(a+1)*n<=k*n:=Nat.mul_le_mul_right _ ha
               rw [Nat.succ_mul] at h2;omega
              simp only [if_neg this];exact u_ HF a ha b hb
            . by_cases e:b=j
              . subst e;simp only [if_true];exact ⟨hv0,u_ HV⟩
              . simp only [if_neg (show ¬ k*n+b=k*n+j by omega)]
                exact u_ HG b (by omega)
           case measure=>simp [intOf];omega
     . obtain rfl:j=n:=by omega
       clear hown hB hW hF hG
       go_wp2_with fail
       go_roundw
       case rel =>
        refine ⟨k+1,F,by omega,by go_num,by rw [Nat.succ_mul],by rw [Nat.succ_mul];exact u_ HO,u_ HB,u_ HW,fun a ha=>?_⟩
        by_cases e:a=k
        . subst e;exact u_ HG
        . exact u_ HF a (by omega)
       case measure=>simp [intOf];omega
  . obtain rfl:k=n:=by omega
    go_wp2
    go_ret2
    exact ⟨u_ HW,.inl ⟨_,F,rfl,Blk.of_owns (u_ HO),by omega,u_ HF⟩⟩
section
variable {md:Region.Mode} {ops:Array Oper} {Q:Exit->Act->World->Prop} {S:World->Prop} {o:Oper} {a:Act}
theorem q72 (hw:Region.wanted o (yielded ops a.tmps)=true) (x:Operand) (ho:o.op=.load 221 x) (b:Nat) (g:Nat->Nat) (hx:a.eval x=.pointer (some ⟨b,0,none⟩)) (hS:∀ w,S w->Blk w b 221 (us g)):YieldsIf Tryz.prog ops S o (.agg (us g).toArray) a :=
 .inl ⟨hw,fun w h=>by simp only [execOp,ho,hx,Sem.run_bind,Sem.run_pure,qg7 (hS w h),Result.andThen_ok]⟩
theorem q71 (hw:Region.wanted o (yielded ops a.tmps)=true) (x:Operand) (v:Value) (ho:o.op=.move x) (hx:a.eval x=v):YieldsIf Tryz.prog ops S o v a :=
 .inl ⟨hw,fun w _=>by rw [BigFrame.run_move x ho,hx]⟩
theorem qa1 (hw:Region.wanted o (yielded ops a.tmps)=true) (x:Operand) (ho:o.op=.load 137 x) (b off:Nat) (v:Value) (hx:a.eval x=.pointer (some ⟨b,off,none⟩)) (hS:∀ w,S w->w.cell? ⟨b,off,none⟩=some v):YieldsIf Tryz.prog ops S o (.agg #[v]) a :=
 .inl ⟨hw,fun w h=>by have h':=hS w h;simp only [execOp,ho,hx];simp [go_sem,h']⟩
theorem qfq {a:Act} {o:Oper} {d:Tmp} {v:Value} (h:o.dst=some d):a.put o.dst v = { tmps:=a.tmps.setIfInBounds d v,defers:=a.defers }:=by rw [h];rfl
theorem take {i:Nat} {v:Value} {fuel:Nat} {listed:Array Bool} {w:World} (d:Tmp) (hi:ops[i]? = some o) (hd:o.dst=some d) (hs:Region.noSelect ops=true) (hf:Region.free md ops listed i=true) (hr:(Region.ready md ops listed).contains i=true)
 (hQ:∀ c (b:Act) (t:Array Value) w,Q (.panic c) { tmps:=t,defers:=b.defers } w->Q (.panic c) b w) (hy:YieldsIf Tryz.prog ops S o v a) (hS:S w) (h:wpAnyH Tryz.prog md ops Q S fuel (listed.setIfInBounds i true) { tmps:=a.tmps.setIfInBounds d v,defers:=a.defers } w):wpAnyH Tryz.prog md ops Q S (fuel+1) listed a w :=
 wpAnyH_take hi hs hf hr (fun c a w h=>hQ c a _ w (by rw [qfq hd] at h;exact h)) hy hS (by rw [qfq hd];exact h)
theorem callH {i:Nat} {fuel:Nat} {listed:Array Bool} {w:World} {f:FuncId} {args:Array Value} {R:Value->World->Prop} (d:Tmp) (hi:ops[i]? = some o) (hd:o.dst=some d) (hw:Region.wanted o (yielded ops a.tmps)=true) (hr:Region.ready md ops listed=[i])
 (hrun:(execOp a.eval o).run Tryz.prog w=.ok (.enter f args) w) (hc:Calls Tryz.prog f args w fun e w'=>∃ v,e=.returned v/\R v w')
 (h:∀ v w',R v w'->S w'/\wpAnyH Tryz.prog md ops Q S fuel (listed.setIfInBounds i true) { tmps:=a.tmps.setIfInBounds d v,defers:=a.defers } w'):wpAnyH Tryz.prog md ops Q S (fuel+1) listed a w:=by
 refine wpAnyH_ready hr (by simp) (AllReadyH.cons hi (fun K hK=>?_) AllReadyH.nil)
 rw [if_pos hw]
 unfold Oper.wp
 rw [hrun,Oper.upon_enter]
 refine hc.mono ?_
 rintro e w' ⟨v,rfl,hR⟩
 obtain ⟨h1,h2⟩:=h v w' hR
 show K (a.put o.dst v) w'
 rw [qfq hd]
 exact hK.out _ _ h1 (fun _=>h2)
theorem runH {i:Nat} {fuel:Nat} {listed:Array Bool} {w w':World} {v:Next} (hi:ops[i]? = some o) (hw:Region.wanted o (yielded ops a.tmps)=true) (hr:Region.ready md ops listed=[i])
 (hd:o.dst=none) (hrun:(execOp a.eval o).run Tryz.prog w=.ok v w') (hv:v=.skip) (hS:S w') (h:wpAnyH Tryz.prog md ops Q S fuel (listed.setIfInBounds i true) a w'):wpAnyH Tryz.prog md ops Q S (fuel+1) listed a w:=by
 subst hv
 refine wpAnyH_ready hr (by simp) (AllReadyH.cons hi (fun K hK=>?_) AllReadyH.nil)
 rw [if_pos hw]
 unfold Oper.wp
 rw [hrun,Oper.upon_skip,hd]
 exact hK.out _ _ hS (fun _=>h)
end
end Go.Proofs.YtgkcaeidhkddjaaGreatDoor
namespace Go.Proofs.YtgkcaeidhkddjaaGreatDoor
open Go Go.RowKit Go.Shelf
section
variable {n:Nat} {ops:Array Oper} {rest:List Oper} {o:Oper} {a:Act} {w:World} {Q:Exit->Act->World->Prop}
theorem q06 (hgd:o.guard=none) (x:Operand) (ho:o.op=.load 221 x) (b:Nat) (g:Nat->Nat) (hx:a.eval x=.pointer (some ⟨b,0,none⟩)) (hb:Blk w b 221 (us g))
 (h:wpListIn Fence.wide n Tryz.prog ops Q rest (a.put o.dst (.agg (us g).toArray)) w):wpListIn Fence.wide n Tryz.prog ops Q (o :: rest) a w :=
 wpListIn_plain hgd fun _ hK=>⟨fun _ _=>trivial,by
  simp only [Fence.wide,Oper.semAt,execOp,ho,hx,Instr.loadAt,Instr.sureAddr,Sem.run_bind,Sem.run_pure,Result.andThen_ok,run_loadVar_row w b 221 221 (us g).toArray (0,0) _ hb Tryz.underlying221 rfl (qkh g)]
  exact hK _ _ h⟩
theorem q02 (hgd:o.guard=none) (x y:Operand) (ho:o.op=.store 221 x y) (b:Nat) (g g':Nat->Nat) (hx:a.eval x=.pointer (some ⟨b,0,none⟩)) (hy:a.eval y=.agg (us g').toArray) (hb:Blk w b 221 (us g))
 (h:∀ w',Blk w' b 221 (us g')->w.grownBy w' (some b)->w'.heap.size=w.heap.size->wpListIn Fence.wide n Tryz.prog ops Q rest (a.put o.dst undef) w'):wpListIn Fence.wide n Tryz.prog ops Q (o :: rest) a w :=
 wpListIn_plain hgd fun _ hK=>⟨fun _ _=>trivial,by
  simp only [Fence.wide,Oper.semAt,execOp,ho,hx,hy,Instr.storeAt,Instr.sureAddr,Sem.run_bind,Sem.run_pure,Result.andThen_ok,run_storeVar_row w b 221 221 _ (us g').toArray hb (qkh g') (by simp [us]) (us_one g')]
  exact hK _ _ (h _ (setRow_heap w b _ _ _ _ hb) ⟨rfl,rfl,rfl,by simp,fun k _ hk=>setRow_other w b k _ (fun e=>hk (by rw [e]))⟩ (by simp))⟩
end
def marks (Ds:List Nat):List Deferred:=Ds.map fun D=>{ target:=.collected D,args:=#[] }
def Shut (B:Nat) (W:World) (Ds:List Nat):Prop:=Ds.Nodup/\∀ D ∈ Ds,B<=D/\W.heap[D]? = some (.deferred (some []))
theorem Shut.nil (B:Nat) (W:World):Shut B W []:=⟨List.nodup_nil,fun _ h=>by cases h⟩
theorem Shut.keep {B:Nat} {W W':World} {Ds:List Nat} (h:Shut B W Ds) (k:KeepsOthers W W'):Shut B W' Ds:=⟨h.1,fun D hD=>⟨(h.2 D hD).1,k.same D _ (h.2 D hD).2 rfl⟩⟩
theorem Shut.below {B N:Nat} {W W':World} {Ds:List Nat} (h:Shut B W Ds) (hb:Below N W W') (hN:∀ D ∈ Ds,D<N):Shut B W' Ds:=⟨h.1,fun D hD=>⟨(h.2 D hD).1,(hb.block D (hN D hD)).trans (h.2 D hD).2⟩⟩
theorem Shut.lt {B:Nat} {W:World} {Ds:List Nat} (h:Shut B W Ds):∀ D ∈ Ds,D<W.heap.size:=fun D hD=>(Array.getElem?_eq_some_iff.1 (h.2 D hD).2).1
theorem Shut.cons {B D:Nat} {W:World} {Ds:List Nat} (h:Shut B W Ds) (hD:B<=D) (hd:W.heap[D]? = some (.deferred (some []))) (hn:D ∉ Ds):Shut B W (D :: Ds) :=
 ⟨List.nodup_cons.2 ⟨hn,h.1⟩,fun E hE=>by
  rcases List.mem_cons.1 hE with rfl | hE
  . exact ⟨hD,hd⟩
  . exact h.2 E hE⟩
theorem q42 {P:Program} {fn:Func} {tmps:Array Value} {R:Ending->World->Prop} {n B:Nat}:∀ (Ds:List Nat) (W:World),Shut B W Ds ->
 (∀ W',KeepX (fun _=>False) W W'->Below B W W'->∃ v,(results fn tmps).run P W'=.ok v W'/\R (.returned v) W')->LeavesInM Fence.wide n P fn tmps R (marks Ds) .returning W
 | [],W,_,h=>h W (KeepX.refl _ _) (bR _ _)
 | D :: Ds,W,hs,h=>by
  have hd:=hs.2 D (List.mem_cons_self ..)
  refine ⟨by simp,.inl ⟨D,_,rfl,run_takeDeferred hd.2,q42 Ds _ ⟨(List.nodup_cons.1 hs.1).2,fun E hE=>?_⟩ fun W' hk hb=>h W' ((KeepX.put hd.2 rfl).trans hk) ((qa8 _ D _ hd.1).trans hb)⟩⟩
  have hE':=hs.2 E (List.mem_cons_of_mem _ hE)
  exact ⟨hE'.1,(World.putObj_heap_other (k:=E) (r:=D) (fun e=>(List.nodup_cons.1 hs.1).1 (by rw [<- e];exact hE))).trans hE'.2⟩
theorem qfr {W':World} {O x:Nat} {g'':Nat->Nat} (h:Blk W' O 221 (us g'')) (hx:x<32) (u:Nat) (o1 o2 o3 o4:Obj) :
 KeepsOthers W' (((((W'.alloc o1).alloc o2).alloc o3).alloc o4).setCell ⟨O,x,none⟩ (.int .u32 (u:Int))).drew/\KeepX (fun j=>j=O) W' (((((W'.alloc o1).alloc o2).alloc o3).alloc o4).setCell ⟨O,x,none⟩ (.int .u32 (u:Int))).drew /\
  Blk (((((W'.alloc o1).alloc o2).alloc o3).alloc o4).setCell ⟨O,x,none⟩ (.int .u32 (u:Int))).drew O 221 (us fun j=>if j=x then u else g'' j) /\
  (∀ B,B<=O->O<W'.heap.size->Below B W' (((((W'.alloc o1).alloc o2).alloc o3).alloc o4).setCell ⟨O,x,none⟩ (.int .u32 (u:Int))).drew):=by
 have hb:=below4 W' o1 o2 o3 o4
 refine ⟨(keepsO hb).trans ((KeepsOthers.setCell _ _ _).trans (KeepsOthers.drew _)),((KeepX.of_below hb).trans (KeepX.set (X:=fun j=>j=O) (a:=⟨O,x,none⟩) (.int .u32 (u:Int)) rfl)).trans ⟨nR _,fun _ _ _ _ _ h=>h⟩,?_,fun B hB hO=>((hb.mono (by omega)).setCell (p:=⟨O,x,none⟩) hB _).drew⟩
 rw [<- us_set g'' u hx]
 exact (h.mono hb h.lt).set x _
end Go.Proofs.YtgkcaeidhkddjaaGreatDoor
