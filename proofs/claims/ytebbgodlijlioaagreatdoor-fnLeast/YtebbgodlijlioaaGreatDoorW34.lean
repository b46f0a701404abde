import Derived.Test.YtebbgodlijlioaaGreatDoorW31
import Derived.Test.YtebbgodlijlioaaGreatDoorW25
set_option maxRecDepth 100000
set_option maxHeartbeats 64000000
namespace Go.Proofs.YtebbgodlijlioaaGreatDoor
open Go Go.RowKit
def SpecZ (N:Int)(m:Nat)(f g:Nat->Int)(code:Int):Prop:=∀(w:World) (X:Option Addr) (c:Nat),Pairs w X m f g->Calls Tryz.prog 8 #[.agg #[.int .i64 N,.slice X m c]] w fun e w'=>e=.returned (.tuple #[zeroL,.int .i64 code])/\Below w.heap.size w w'
def ImplZ (N:Int)(m:Nat)(f g:Nat->Int)(code:Int):Prop:=∀(w:World) (X:Option Addr) (c:Nat),Pairs w X m f g->Tab w->Calls Tryz.prog 47 #[.agg #[.int .i64 N,.slice X m c]] w fun e w'=>e=.returned (.tuple #[zeroL,.int .i64 code])/\Below w.heap.size w w'
def SpecF (N:Int)(m:Nat)(f g:Nat->Int)(s:Nat)(F:Nat->Bool)(J M:Nat->Int)(bot top:Int):Prop:=∀(w:World) (X:Option Addr) (c:Nat),Pairs w X m f g->Calls Tryz.prog 8 #[.agg #[.int .i64 N,.slice X m c]] w fun e w' =>
 ∃a1 a2 a3 c1 c2 c3,e=.returned (.tuple #[.agg (Jj N a1 s c1 a2 c2 a3 c3 bot top),J9 0])/\Bools w' a1 s F/\Ints w' a2 s J/\Ints w' a3 s M/\Below w.heap.size w w'
def ImplF (N:Int)(m:Nat)(f g:Nat->Int)(s:Nat)(F:Nat->Bool)(J M:Nat->Int)(bot top:Int):Prop:=∀(w:World) (X:Option Addr) (c:Nat),Pairs w X m f g->Tab w->Calls Tryz.prog 47 #[.agg #[.int .i64 N,.slice X m c]] w fun e w' =>
 ∃G1 G2 G3,e=.returned (.tuple #[.agg #[J9 N,.slice (some ⟨G1,0,none⟩) s s,.slice (some ⟨G2,0,none⟩) s s,.slice (some ⟨G3,0,none⟩) s s,J9 bot,J9 top],J9 0])/\Blk w' G1 4 (bs s F)/\Blk w' G2 3 (is s J)/\Blk w' G3 3 (is s M)/\w.heap.size<=G1/\w.heap.size<=G2/\w.heap.size<=G3/\G1≠G2/\G1≠G3/\G2≠G3/\Below w.heap.size w w'
def SpecC (N:Int)(m:Nat)(f g:Nat->Int)(s:Nat)(F:Nat->Bool):Prop:=∀(w:World) (X:Option Addr) (c:Nat),Pairs w X m f g->Calls Tryz.prog 30 #[.agg #[.int .i64 N,.slice X m c]] w fun e w'=>∃G,e=.returned (.slice (some ⟨G,0,none⟩) s s)/\Blk w' G 4 (bs s F)/\w.heap.size<=G/\Below w.heap.size w w'
theorem Pairs.congr {w:World}{a:Option Addr}{m:Nat}{f g f' g':Nat->Int}(h:Pairs w a m f g)(hf:∀k,k<m->f k=f' k)(hg:∀k,k<m->g k=g' k):Pairs w a m f' g':=fun k hk=>by
 obtain⟨b,off,e,h1,h2,h3⟩:=h k hk
 exact⟨b,off,e,h1,by rw[<- hf k hk];exact h2,by rw[<- hg k hk];exact h3⟩
theorem qbc (w:World)(n:Nat)(F:Nat->Bool)(J M:Nat->Int):∃w1 a1 a2 a3,Bools w1 a1 n F/\Ints w1 a2 n J/\Ints w1 a3 n M:=by
 have b1:=((Blk.new w 4 (bs n F).toArray).alloc (.cells (is n J).toArray 3)).alloc (.cells (is n M).toArray 3)
 have b2:=(Blk.new (w.alloc (.cells (bs n F).toArray 4)) 3 (is n J).toArray).alloc (.cells (is n M).toArray 3)
 have b3:=Blk.new ((w.alloc (.cells (bs n F).toArray 4)).alloc (.cells (is n J).toArray 3)) 3 (is n M).toArray
 exact⟨_,_,_,_,Blk.bools (f:=F) b1,Blk.ints (f:=J) b2,Blk.ints (f:=M) b3⟩
theorem pb_is (f g:Nat->Nat):∀m,(∀k,k<m->f k<32)->(∀k,k<m->g k<32)->∃u,IsRel u (pb f g m)
 | 0,_,_=>⟨fun _=>0,fun a _=>⟨Nat.zero_lt_of_lt (show 0<4294967296 by decide),fun b=>by simp[pb]⟩⟩
 | m+1,hf,hg=>by
  obtain⟨u,h⟩:=pb_is f g m (fun k hk=>hf k (by omega)) (fun k hk=>hg k (by omega));have h':=h.add (hf m (by omega)) (hg m (by omega));exact⟨_,fun a ha=>⟨(h' a ha).1,fun b=>((h' a ha).2 b).trans (qil f g m a b).symm⟩⟩
theorem dich4 (N:Int)(m:Nat)(f g:Nat->Int)(hm:m<=1048576):(∃code,(1<=code/\code<=4)/\SpecZ N m f g code/\ImplZ N m f g code)∨(∃s F J M bot top,s<=1024/\Valid N s s s F J M bot top/\SpecF N m f g s F J M bot top/\ImplF N m f g s F J M bot top/\SpecC N m f g s F):=by
 by_cases hr:1<=N/\N<=32/\m<=256
 . by_cases hp:∀k,k<m->0<=f k/\f k<N/\0<=g k/\g k<N
   . obtain⟨n,rfl⟩:∃n:Nat,N=n:=⟨N.toNat,by omega⟩
     have h1:1<=n:=(by omega);have h32:n<=32:=(by omega);have hF1:∀k,k<m->f k=(((f k).toNat:Nat):Int):=fun k hk=>by have:=hp k hk;omega
     have hG1:∀k,k<m->g k=(((g k).toNat:Nat):Int):=fun k hk=>by have:=hp k hk;omega
     have hf:∀k,k<m->(f k).toNat<n:=fun k hk=>by have:=hp k hk;omega
     have hg:∀k,k<m->(g k).toNat<n:=fun k hk=>by have:=hp k hk;omega
     obtain⟨F,hF⟩:=Nq (tabB n (rounds diag (fun k=>(f k).toNat) (fun k=>(g k).toNat) m n));have spec:∀(w:World) (X:Option Addr) (c:Nat),Pairs w X m f g->Calls Tryz.prog 8 #[.agg (Jn n X m c)] w fun e w'=>SpecOut n F e w'/\Below w.heap.size w w':=fun w X c h =>
      q4a n X m c _ _ w h1 h32 hr.2.2 (h.congr hF1 hG1) hf hg F hF
     have impl:∀(e1:Ending) (w1:World),SpecOut n F e1 w1->∀(w:World) (X:Option Addr) (c:Nat),Pairs w X m f g->Tab w->Calls Tryz.prog 47 #[.agg (Jn n X m c)] w fun e w'=>SameOut n F w.heap.size e1 e w1 w'/\Below w.heap.size w w':=fun e1 w1 hS w X c h ht =>
      (q3d n X m c _ _ w h1 h32 hr.2.2 (h.congr hF1 hG1) hf hg ht).mono fun e w' ⟨hb,u,q,d,Rl,hu,hq,hqr,hd,hL⟩=>by
       have hqp:=rel_q h32 hu hf hg hF hq;have hRl:∀a b,a<32->Rl a b=part F n (n*n) a b:=fun a b ha=>((hqr a ha).2 b).symm.trans ((hqp a ha).2 b);have hd':IsRel d (fun b a=>decide (a<n)&&part F n (n*n) a b):=hd.congr fun a b _=>by
        by_cases hb:b<n
        . rw[hRl b a (by omega)]
        . rw[Yi hb];rfl
       have hle:∀{a b},Le F n a b ↔ a<n/\Reach u a b:=qd3 h32 hu hf hg hF;refine⟨qei h1 h32 hqp hd' (fun a b ha hb=>?_) (fun a ha=>hle.2 ⟨ha,Reach.refl _ _⟩) (fun a b e x y=>hle.2 ⟨(hle.1 x).1,q5v (hle.1 x).2 (hle.1 y).2⟩) hS hL,hb⟩;rw[hRl a b (by omega),Zn,qdy];exact⟨fun h=>h.2.2,fun h=>⟨ha,hb,h⟩⟩
     have zero:∀code:Int,(∀e w',SpecOut n F e w'->e=.returned (.tuple #[zeroL,J9 code]))->(∀w',SpecOut n F (.returned (.tuple #[zeroL,J9 code])) w')->SpecZ n m f g code/\ImplZ n m f g code:=fun code h1 h2=>by
      refine⟨fun w X c h=>(spec w X c h).mono fun e w' ⟨a,b⟩=>⟨h1 e w' a,b⟩,fun w X c h ht=>(impl _ w (h2 w) w X c h ht).mono fun e w' ⟨a,b⟩=>⟨?_,b⟩⟩;rcases a with ⟨code',x,y⟩ | ⟨a1,a2,a3,c1,c2,c3,G1,G2,G3,bot,top,x,-⟩
      . simp only[Ending.returned.injEq,Value.tuple.injEq,Array.mk.injEq,List.cons.injEq,Value.int.injEq,and_true,true_and]at x
        rw[y,x]
      . exfalso
        simp[zeroL]at x;omega
     by_cases t2:TwoW F n
     . exact .inl ⟨2,by decide,zero 2 (fun e w' h=>by
        rcases h with ⟨-,he⟩ | ⟨x,-⟩ | ⟨x,-⟩ | ⟨x,-⟩
        . exact he
        all_goals exact absurd t2 x) fun w'=>.inl ⟨t2,rfl⟩⟩
     by_cases t3:∃i,i<n*n/\JF F n i<0
     . have n3:¬ ∀i,i<n*n->0<=JF F n i:=fun h=>by obtain⟨i,hi,x⟩:=t3;have:=h i hi;omega
       exact .inl ⟨3,by decide,zero 3 (fun e w' h=>by
        rcases h with ⟨x,-⟩ | ⟨-,-,he⟩ | ⟨-,x,-⟩ | ⟨-,x,-⟩
        . exact absurd x t2
        . exact he
        all_goals exact absurd x n3) fun w'=>.inr (.inl ⟨t2,t3,rfl⟩)⟩
     have p3:∀i,i<n*n->0<=JF F n i:=fun i hi=>Classical.byContradiction fun h=>t3 ⟨i,hi,by omega⟩;by_cases t4:∃i,i<n*n/\MF F n i<0
     . have n4:¬ ∀i,i<n*n->0<=MF F n i:=fun h=>by obtain⟨i,hi,x⟩:=t4;have:=h i hi;omega
       exact .inl ⟨4,by decide,zero 4 (fun e w' h=>by
        rcases h with ⟨x,-⟩ | ⟨-,x,-⟩ | ⟨-,-,-,he⟩ | ⟨-,-,x,-⟩
        . exact absurd x t2
        . exact absurd x t3
        . exact he
        . exact absurd x n4) fun w'=>.inr (.inr (.inl ⟨t2,p3,t4,rfl⟩))⟩
     have p4:∀i,i<n*n->0<=MF F n i:=fun i hi=>Classical.byContradiction fun h=>t4 ⟨i,hi,by omega⟩;refine .inr ⟨n*n,F,JF F n,MF F n,lastN (belowAll F n n) n,lastN (aboveAll F n n) n,sq_le h32,?_,fun w X c h=>(spec w X c h).mono fun e w' ⟨a,b⟩=>?_,fun w X c h ht=>?_,fun w X c h=>by rw[<- hF];exact q2f n X m c _ _ w h1 h32 hr.2.2 (h.congr hF1 hG1) hf hg⟩
     . obtain⟨u,hu⟩:=pb_is (fun k=>(f k).toNat) (fun k=>(g k).toNat) m (fun k hk=>Y7 (hf k hk) h32) (fun k hk=>Y7 (hg k hk) h32)
       have hle:∀{a b},Le F n a b ↔ a<n/\Reach u a b:=qd3 h32 hu hf hg hF;exact q4k h1 h32 (fun a ha=>(hle.2 ⟨ha,Reach.refl _ _⟩).2.2) (fun a b c ha hb hc x y=>(hle.2 ⟨ha,q5v (hle.1 ⟨ha,hb,x⟩).2 (hle.1 ⟨hb,hc,y⟩).2⟩).2.2) t2 p3 p4
     . rcases a with ⟨x,-⟩ | ⟨-,x,-⟩ | ⟨-,-,x,-⟩ | ⟨-,-,-,a1,a2,a3,c1,c2,c3,he,k1,k2,k3⟩
       . exact absurd x t2
       . exact absurd x t3
       . exact absurd x t4
       . exact⟨a1,a2,a3,c1,c2,c3,he,k1,k2,k3,b⟩
     . obtain⟨w1,a1,a2,a3,k1,k2,k3⟩:=qbc w (n*n) F (JF F n) (MF F n)
       refine(impl _ w1 (.inr (.inr (.inr ⟨t2,p3,p4,a1,a2,a3,0,0,0,rfl,k1,k2,k3⟩))) w X c h ht).mono fun e w' ⟨a,b⟩=>?_;rcases a with ⟨code',x,-⟩ | ⟨a1',a2',a3',c1,c2,c3,G1,G2,G3,bot,top,x,y,-,-,-,b1,b2,b3,z⟩
       . exfalso
         simp[zeroL]at x;omega
       . simp only[Ending.returned.injEq,Value.tuple.injEq,Value.agg.injEq,Array.mk.injEq,List.cons.injEq,Value.int.injEq,Value.slice.injEq,and_true,true_and]at x
         obtain⟨-,-,-,hb,ht⟩:=x;rw[<- hb,<- ht]at y;exact⟨G1,G2,G3,y,b1,b2,b3,z.1,z.2.1,z.2.2.1,z.2.2.2.1,z.2.2.2.2.1,z.2.2.2.2.2,b⟩
   . refine .inl ⟨1,by decide,fun w X c h=>q2z N X m c w fun w' hb=>q0w N X m c f g w' hr.1 hr.2.1 hr.2.2 (h.mono hb) false ⟨(fun x=>by cases x),fun x=>absurd x hp⟩,fun w X c h _=>q2d N X m c w fun w' hb=>q31 N X m c f g w' hr.1 hr.2.1 hr.2.2 (h.mono hb) false ⟨(fun x=>by cases x),fun x=>absurd x hp⟩⟩
 . exact .inl ⟨1,by decide,fun w X c _=>q2z N X m c w fun w' _=>q0x N X m c w' (by omega) hr,fun w X c _ _=>q2d N X m c w fun w' _=>q32 N X m c w' (by omega) hr⟩
theorem dich3 (N:Int)(m:Nat)(f g:Nat->Int)(hm:m<=1048576):(∃code,(1<=code/\code<=4)/\SpecZ N m f g code/\ImplZ N m f g code)∨(∃s F J M bot top,s<=1024/\Valid N s s s F J M bot top/\SpecF N m f g s F J M bot top/\ImplF N m f g s F J M bot top):=by
 rcases dich4 N m f g hm with h | ⟨s,F,J,M,bot,top,h1,h2,h3,h4,-⟩
 . exact .inl h
 . exact .inr ⟨s,F,J,M,bot,top,h1,h2,h3,h4⟩
theorem dich2 (N:Int)(m:Nat)(f g:Nat->Int)(hm:m<=1048576):(∃code,code≠0/\SpecZ N m f g code/\ImplZ N m f g code)∨(∃s F J M bot top,s<=1024/\Valid N s s s F J M bot top/\SpecF N m f g s F J M bot top/\ImplF N m f g s F J M bot top):=by
 rcases dich3 N m f g hm with ⟨code,h0,h⟩ | h
 . exact .inl ⟨code,by omega,h⟩
 . exact .inr h
end Go.Proofs.YtebbgodlijlioaaGreatDoor
namespace Go.Proofs.YtebbgodlijlioaaGreatDoor
open Go
section
variable {N:Nat} {le:Nat->Nat->Prop} {jn:Nat->Nat->Nat} {bot:Nat}
def rdO (m:Fm)(k q:Nat):List Nat:=(List.range q).filter fun j=>anyR m j k
theorem qe5 (m:Fm)(k q:Nat):rdO m k (q+1)=rdO m k q++if anyR m q k=true then [q] else []:=by
 unfold rdO
 rw[Zg,List.filter_append]
 congr 1
 cases h:anyR m q k <;> simp[h]
theorem qi6 {m:Fm}{k q j:Nat}:j∈rdO m k q ↔ j<q/\anyR m j k=true:=by
 unfold rdO
 rw[Or,Zb]
def jac (m:Fm)(jn:Nat->Nat->Nat)(f:Nat->Nat)(k:Nat):Nat:=if (fAt m k).lb<0 then ((rdO m k m.F.length).map f).foldl jn (f k) else f k
theorem rdO_lt {m:Fm}{f:Nat->Nat}(h:∀k,k<m.F.length->f k<N)(k q:Nat)(hq:q<=m.F.length):∀x,x∈(rdO m k q).map f->x<N:=by
 intro x hx
 obtain⟨j,hj,rfl⟩:=Y8.1 hx
 exact h j (by have:=(qi6.1 hj).1;omega)
theorem Way.jac (L:LatP N le jn bot){m:Fm}{f:Nat->Nat}(h:Way m N le f):Way m N le (jac m jn f):=by
 refine⟨fun g hg k hk=>?_,fun k hk=>?_,fun k hk h0=>?_⟩
 . unfold Proofs.YtebbgodlijlioaaGreatDoor.jac
   split
   . rename_i ha
     refine qeb L h.low h.lt hk ha (f k) (h.lt k hk) (fun g hg=>h.low g hg k hk) _ (fun x hx=>?_) g hg;obtain⟨j,hj,rfl⟩:=Y8.1 hx;exact⟨j,(qi6.1 hj).1,(qi6.1 hj).2,rfl⟩
   . exact h.low g hg k hk
 . unfold Proofs.YtebbgodlijlioaaGreatDoor.jac
   split
   . exact L.fold_lt _ _ (h.lt k hk) (rdO_lt h.lt k _ (nR _))
   . exact h.lt k hk
 . unfold Proofs.YtebbgodlijlioaaGreatDoor.jac
   rw[Yu (by omega)];exact h.decl k hk h0
theorem jac_ge (L:LatP N le jn bot){m:Fm}{f:Nat->Nat}(h:Way m N le f):∀k,k<m.F.length->le (f k) (jac m jn f k):=fun k hk=>by
 unfold jac
 split
 . exact(L.fold_ge _ _ (h.lt k hk) (rdO_lt h.lt k _ (nR _))).1
 . exact L.refl _ (h.lt k hk)
theorem qh9 (L:LatP N le jn bot){m:Fm}{f:Nat->Nat}(h:Way m N le f)(he:∀k,k<m.F.length->jac m jn f k=f k):Sol m N le f:=h.sol fun k hk ha j hj hr=>by
 have:=he k hk
 unfold jac at this
 rw[Yy ha]at this
 rw[<- this]
 exact(L.fold_ge _ _ (h.lt k hk) (rdO_lt h.lt k _ (nR _))).2 _ (Y8.2 ⟨j,qi6.2 ⟨hj,hr⟩,rfl⟩)
def rdV (m:Fm)(jn:Nat->Nat->Nat)(bot:Nat)(f:Nat->Nat)(k:Nat):Nat:=((rdA m k).map f).foldl jn bot
theorem rdV_lt (L:LatP N le jn bot){m:Fm}(hv:VfA m){f:Nat->Nat}(h:∀k,k<m.F.length->f k<N){k:Nat}(hk:k<m.F.length):(∀x,x∈(rdA m k).map f->x<N)/\rdV m jn bot f k<N:=by
 have hx:∀x,x∈(rdA m k).map f->x<N:=fun x hx=>by
  obtain⟨j,hj,rfl⟩:=Y8.1 hx;exact h j (rdA_lt hv hk j hj)
 exact⟨hx,L.fold_lt _ _ L.bl hx⟩
def Asc (m:Fm)(le:Nat->Nat->Prop)(jn:Nat->Nat->Nat)(bot:Nat)(f:Nat->Nat):Prop:=∀k,k<m.F.length->(fAt m k).lb<0->le (f k) (rdV m jn bot f k)
theorem qe6 (L:LatP N le jn bot){m:Fm}(hv:VfA m){f g:Nat->Nat}(hf:∀k,k<m.F.length->f k<N)(hg:∀k,k<m.F.length->g k<N)(h:∀k,k<m.F.length->le (f k) (g k)){k:Nat}(hk:k<m.F.length):le (rdV m jn bot f k) (rdV m jn bot g k):=by
 have h1:=rdV_lt L hv hg hk
 refine L.fold_le _ _ _ L.bl h1.2 (fun x hx=>?_) (L.bot _ h1.2)
 obtain⟨j,hj,rfl⟩:=Y8.1 hx
 have hjn:=rdA_lt hv hk j hj
 refine⟨hf j hjn,L.trans _ _ _ (hf j hjn) (hg j hjn) h1.2 (h j hjn) ?_⟩
 exact(L.fold_ge _ _ L.bl h1.1).2 _ (Y8.2 ⟨j,hj,rfl⟩)
theorem q8w (L:LatP N le jn bot){m:Fm}(hv:VfA m)(hN:m.L.length=N):Asc m le jn bot (startL m bot):=fun k hk ha=>by
 rw[show startL m bot k=bot by unfold startL;rw[Yy ha]]
 exact L.bot _ (rdV_lt L hv (qbw L hv.lba hN).lt hk).2
theorem qgo (L:LatP N le jn bot){m:Fm}(hv:VfA m){f:Nat->Nat}(hw:Way m N le f)(ha:Asc m le jn bot f){k:Nat}(hk:k<m.F.length)(hau:(fAt m k).lb<0):Way m N le (up f k (rdV m jn bot f k))/\Asc m le jn bot (up f k (rdV m jn bot f k))/\∀i,i<m.F.length->le (f i) (up f k (rdV m jn bot f k) i):=by
 have hlt:=(rdV_lt L hv hw.lt hk).2
 have hw':Way m N le (up f k (rdV m jn bot f k)):=hw.rise L hk hau bot L.bl (fun g hg=>L.bot _ (hg.lt k hk)) _ fun x hx=>by
  obtain⟨j,hj,rfl⟩:=Y8.1 hx;exact⟨j,rdA_lt hv hk j hj,(qi4 hv (rdA_lt hv hk j hj) hk).1 hj,rfl⟩
 have hge:∀i,i<m.F.length->le (f i) (up f k (rdV m jn bot f k) i):=fun i hi=>by
  by_cases e:i=k
  . subst e;rw[up_at];exact ha i hi hau
  . rw[up_ne _ _ e];exact L.refl _ (hw.lt i hi)
 refine⟨hw',fun i hi hai=>?_,hge⟩
 have hm:=qe6 L hv hw.lt hw'.lt hge hi
 have hli:=(rdV_lt L hv hw'.lt hi).2
 have hlf:=(rdV_lt L hv hw.lt hi).2
 by_cases e:i=k
 . subst e;rw[up_at];exact hm
 . rw[up_ne _ _ e];exact L.trans _ _ _ (hw.lt i hi) hlf hli (ha i hi hai) hm
theorem gs_sol (L:LatP N le jn bot){m:Fm}(hv:VfA m){f:Nat->Nat}(hw:Way m N le f)(he:∀k,k<m.F.length->(fAt m k).lb<0->rdV m jn bot f k=f k):Sol m N le f:=hw.sol fun k hk ha j hj hr=>by
 rw[<- he k hk ha]
 exact(L.fold_ge _ _ L.bl (rdV_lt L hv hw.lt hk).1).2 _ (Y8.2 ⟨j,(qi4 hv hj hk).2 hr,rfl⟩)
end
theorem qhk {N bot top:Int}{s n bt tp:Nat}{F:Nat->Bool}{J M:Nat->Int}(h:ValidP N s s s F J M bot top n bt tp):LatP n (fun a b=>F (a*n+b)=true) (fun a b=>(J (a*n+b)).toNat) bt:=by
 refine⟨fun a ha=>(h.rows a ha).1,fun a b c ha hb hc x y=>((h.rows a ha).2.2.2 b hb).2 c hc x y,fun a b ha hb x y=>Classical.byContradiction fun e=>((h.rows a ha).2.2.2 b hb).1 ⟨e,x,y⟩,h.bb,fun a ha=>(h.rows a ha).2.1,fun a b ha hb=>?_,fun a b ha hb=>?_,fun a b ha hb=>?_,fun a b c ha hb hc x y=>?_⟩
 . obtain⟨j,m,hj,-,hl,-⟩:=h.ents a ha b hb
   show(J (a*n+b)).toNat<n;rw[hj];simpa using hl
 . obtain⟨j,m,hj,-,-,-,hp,-⟩:=h.ents a ha b hb
   show F (a*n+(J (a*n+b)).toNat)=true;rw[hj];simpa using hp.1
 . obtain⟨j,m,hj,-,-,-,hp,-⟩:=h.ents a ha b hb
   show F (b*n+(J (a*n+b)).toNat)=true;rw[hj];simpa using hp.2.1
 . obtain⟨j,m,hj,-,-,-,hp,-⟩:=h.ents a ha b hb
   show F ((J (a*n+b)).toNat*n+c)=true;rw[hj];simpa using hp.2.2 c hc x y
theorem qcx {N bot top:Int}{s n bt tp:Nat}{F:Nat->Bool}{J M:Nat->Int}(h:ValidP N s s s F J M bot top n bt tp){a b:Nat}(ha:a<n)(hb:b<n):J (a*n+b)=(((J (a*n+b)).toNat:Nat):Int):=by
 obtain⟨j,m,hj,-,-,-,hp,-⟩:=h.ents a ha b hb
 rw[hj]
 simp
theorem qdx {w:World}{a:Option Addr}{l:List (Int × Int)}(h:Prs w a l):Pairs w a l.length (fun k=>(l.getD k (0,0)).1) (fun k=>(l.getD k (0,0)).2):=fun k hk=>by
 obtain⟨b,o,e,h1,h2,h3⟩:=h k hk
 refine⟨b,o,e,h1,?_,?_⟩
 . dsimp only;rw[Yl,Yj hk];exact h2
 . dsimp only;rw[Yl,Yj hk];exact h3
end Go.Proofs.YtebbgodlijlioaaGreatDoor
namespace Go.Proofs.YtebbgodlijlioaaGreatDoor
open Go Go.RowKit
def lsL (f:Nat->Nat)(k:Nat):List Nat:=(List.range k).map f
theorem qdd (f:Nat->Nat)(k:Nat):lsL f (k+1)=lsL f k++[f k]:=by
 unfold lsL
 rw[Zg,Zf]
 rfl
theorem qhy (f:Nat->Nat)(k:Nat):(lsL f k).length=k:=by simp[lsL]
theorem qhx {f:Nat->Nat}{k i:Nat}(h:i<(lsL f k).length):(lsL f k)[i]=f i:=by simp[lsL]
theorem qad {f g:Nat->Nat}{k:Nat}(h:∀i,i<k->f i=g i):lsL f k=lsL g k:=Vd fun i hi=>h i (Zb.1 hi)
theorem qj6 {w:World}{base c n:Nat}{a:Option Addr}{f:Nat->Nat}(h:w.ownsRow base 3 1 (.slice a n c) n (ui (lsL f n))){i:Nat}(hi:i<n):∃g,a=some ⟨g,0,none⟩/\g<w.heap.size/\w.cell? ⟨g,i,none⟩=some (J9 (f i:Nat)):=by
 have hl:=qhy f n
 have h':w.ownsRow base 3 1 (.slice a (lsL f n).length c) (lsL f n).length (ui (lsL f n)):=by rw[hl];exact h
 obtain⟨a',c',e,h2⟩:∃a' c',Value.slice a (lsL f n).length c=.slice a' (lsL f n).length c'/\∀i (hi:i<(lsL f n).length),∃g,a'=some ⟨g,0,none⟩/\g<w.heap.size/\w.cell? ⟨g,i,none⟩=some (J9 ((lsL f n)[i]:Nat)):=by
  rcases h'.2 with ⟨h1,h2⟩ | ⟨g,cap,cur,h1,hb,hg,r⟩
  . omega
  . refine⟨_,_,h1,fun i hi=>⟨g,rfl,(Yt.1 hg).1,?_⟩⟩
    rw[h1]at h';rw[h'.cellAt i (by omega)];simp[ui,hi]
 cases e
 obtain⟨g,e,h3,h4⟩:=h2 i (by omega)
 rw[qhx]at h4
 exact⟨g,e,h3,h4⟩
theorem qaq {w w':World}{base n size:Nat}{e:TypeId}{v:Value}{xs:List Value}(h:w.ownsRow base e size v n xs)(hb:Below w.heap.size w w'):w'.ownsRow base e size v n xs :=
 h.kept (row:=none) ⟨hb.os,hb.tape,hb.output,hb.size,fun k hk _=>hb.block k hk⟩ (Classical.em _)
theorem qb5 {w:World}{base n:Nat}{v:Value}{xs:List Value}(h:w.ownsRow base 3 1 v n xs):∃a c,v=.slice a n c:=by
 rcases h.2 with ⟨h1,h2⟩ | ⟨g,cap,cur,h1,-⟩
 . exact⟨none,0,by rw[h1,h2]⟩
 . exact⟨_,_,h1⟩
theorem q9w {x n y:Nat}(hx:x<n)(hy:y<n)(hn:n<=32):x*n+y<n*n/\wrap64 ((x:Int)*(n:Int))=((x*n:Nat):Int)/\wrap64 (((x*n:Nat):Int)+((y:Nat):Int))=((x*n+y:Nat):Int)/\((x*n+y:Nat):Int)<((n*n:Nat):Int)/\((x*n+y:Nat):Int)<(n:Int)*(n:Int):=by
 rw[<- Za n n]
 have h1:x*n+n<=n*n:=by rw[<- Zt];exact Zl _ hx
 have h2:n*n<=1024:=by have:=Vn hn hn;omega
 have h3:x*n+y<n*n:=by omega
 generalize n*n=q at *
 refine⟨h3,?_,?_,by omega,by omega⟩
 . rw[<- Za]
   generalize x*n=z at *;exact q4f (by omega) (by omega)
 . rw[<- Int.natCast_add]
   generalize x*n=z at *;exact q4f (by omega) (by omega)
theorem q3w (m:Fm)(A:MA)(w:World)(N bot top:Int)(s n bt tp:Nat)(F:Nat->Bool)(J M:Nat->Int)(a1 a2 a3:Option Addr)(c1 c2 c3:Nat)(hv:LbA m)(hf:FitM m)(hL:ValidP N s s s F J M bot top n bt tp)(hN:m.L.length=n)(ha:MSl w m A)(hj:Ints w a2 s J) :
 Calls Tryz.prog 107 #[mV m A,.agg (Jj N a1 s c1 a2 c2 a3 c3 bot top)] w fun r w'=>∃f a0 c0,r=.returned (.slice a0 m.F.length c0)/\Sol m n (fun a b=>F (a*n+b)=true) f/\Low m n (fun a b=>F (a*n+b)=true) f/\Plc w' a0 (lsL f m.F.length)/\Below w.heap.size w w':=by
 have HL:=h_ hL;have HV:=h_ hv;have HNl:=h_ hN
 have HLat:=h_ (qhk hL)
 have HJn:=h_ fun a b (ha:a<n) (hb:b<n)=>qcx hL ha hb
 obtain⟨jn,hjn⟩:∃jn:Nat->Nat->Nat,(fun a b=>(J (a*n+b)).toNat)=jn:=⟨_,rfl⟩
 rw[hjn]at HLat
 have HJe:Hi (∀a b,a<n->b<n->J (a*n+b)=((jn a b:Nat):Int)):=h_ fun a b ha hb=>by rw[<- hjn];exact HJn.u a b ha hb
 clear HJn hjn
 have HCa:=h_ fun W j k (hj:j<m.F.length) (hk:k<m.F.length) (hs:MSl W m A)=>qa9 m A j k W hj hk hf hs
 have hnf:=hv.nf
 have hNe:=hL.hN;have hb:=hL.hb;have hn32:=hL.h32;have hn1:=hL.h1;have hs2:=hL.l2;have hbb:=hL.bb
 subst hNe hb hs2
 clear hL hf hN
 obtain⟨al,alc,ap,apc,ar,arc,af,afc,afa⟩:=A
 unfold mV at HCa⊢
 dsimp only at HCa⊢
 have HK:=h_ ((Blk.new w 28 (Jb al m alc ap apc ar arc af afc)).alloc (.cells (Jj n a1 (n*n) c1 a2 c2 a3 c3 bt top) 35))
 have HQ:=h_ (Blk.new (w.alloc (.cells (Jb al m alc ap apc ar arc af afc) 28)) 35 (Jj n a1 (n*n) c1 a2 c2 a3 c3 bt top))
 rw[Yv]at HQ
 have HB:=h_ (((bR w.heap.size w).alloc (nR _) (.cells (Jb al m alc ap apc ar arc af afc) 28)).alloc (by simp) (.cells (Jj n a1 (n*n) c1 a2 c2 a3 c3 bt top) 35))
 obtain⟨W0,hW0⟩:=Nq ((w.alloc (.cells (Jb al m alc ap apc ar arc af afc) 28)).alloc (.cells (Jj n a1 (n*n) c1 a2 c2 a3 c3 bt top) 35))
 rw[hW0]at HK HQ HB
 have HS:=h_ (ha.mono HB.u);have HJm:=h_ (hj.mono HB.u)
 clear ha hj hv
 have HO:=h_ (qav W0 3)
 have HBo:=h_ ((bR W0.heap.size W0).alloc (nR _) (.cells #[] 3))
 obtain⟨W1,hW1⟩:=Nq (W0.alloc (.cells #[] 3))
 rw[hW1]at HO HBo
 obtain⟨y0,y1,y2,y3⟩:=quad HK.u
 go_enter Tryz.func107,Tryz.ntmps107
 go_wp2_with fail
 try rw[hW0]
 try rw[hW1]
 clear hW0 hW1 y0 y1 y2 y3
 go_loopw [6,7] (fun v i wr=>∃k:Nat,k<=m.F.length/\i=J9 k/\wr.ownsRow W0.heap.size 3 1 v k (ui (lsL (startL m bt) k))/\Below W0.heap.size W0 wr) (fun _ i _=>m.F.length - (intOf i).toNat)
 case atStart=>exact⟨0,nZ _,rfl,HO.u,HBo.u⟩
 case round =>
  clear HO HBo;obtain⟨k,hk,rfl,ho,hb⟩:=hrel;have HO:=h_ ho;have HBr:=h_ hb;have HKr:=mB HK hb;have HQr:=mB HQ hb;have HSr:=h_ (HS.u.mono hb);have hws:=hb.size;clear ho hb;by_cases hlt:k<m.F.length
  . have hlt':(k:Int)<m.F.length:=by omega
    have HT:=h_ (qdd (startL m bt) k);obtain⟨pb,po,rfl,⟨-,-,-,z2,-⟩,-⟩:=HSr.u.f k hlt;obtain⟨y0,y1,y2,y3⟩:=quad HKr.u;have hlb:=declared HV.u hlt;have hst:(m.F[k].lb<0/\startL m bt k=bt)∨(¬ m.F[k].lb<0/\m.F[k].lb=((startL m bt k:Nat):Int)):=by
     unfold startL;rw[qge hlt];by_cases h:m.F[k].lb<0
     . exact .inl ⟨h,by rw[Yy h]⟩
     . exact .inr ⟨h,by rw[Yu h];omega⟩
    generalize startL m bt k=x at *;obtain⟨i0,hi,hz0,hz1,hz2⟩:=info_parts infoI;have q4:=HQr.u.cell 4;simp only[Yh,Yo]at q4;rcases hst with ⟨hneg,hx⟩ | ⟨hneg,hx⟩
    case' inl =>
     rw[<- hx]at q4;clear hx
    case' inr =>
     rw[hx]at z2;have hneg':¬ ((x:Nat):Int)<0:=(by omega);clear hx
    all_goals
     go_wp2_with (at_builtin;refine wpList_append_own _ rfl _ _ 30 rfl W0.heap.size 3 i0 _ 1 8 Tryz.underlying30 hi hz0 hz1 hz2 rfl (by omega) _ _ _ rfl (HO.u.alloc _) ⟨wr.heap.size,0,none⟩ 1 1 [J9 x] rfl rfl (qc6 wr 3 _) (by simp[Value.oneCell']) (by unfold maxLen;omega) (by omega) (by simp;omega) ?_);intro v' w4 ho' hgr' _;have HO2:Hi (w4.ownsRow W0.heap.size 3 1 v' (k+1) (ui (lsL (startL m bt) (k+1)))):=h_ (by rw[HT.u];simpa [ui] using ho');have HB3:=h_ ((HBr.u.alloc hws (.cells #[J9 x] 3)).grown hgr' (by simp;omega) (fun q' e=>q87 HO.u e));clear ho' hgr' hi hz0 hz1 hz2 z2 y0 y1 y2 y3 q4;go_wp2_with fail;go_roundw
     case rel=>first | exact⟨k+1,by omega,by go_num,HO2.u,HB3.u⟩ | ((repeat apply Exists.intro);exact⟨⟨k+1,by omega,by go_num,HO2.u,HB3.u⟩,rfl⟩)
     case measure=>simp[intOf];omega
  . obtain rfl:k=m.F.length:=by omega
    have hlt':¬ (m.F.length:Int)<(m.F.length:Int):=(by omega);have HWs:=h_ (qbw HLat.u HV.u HNl.u);obtain⟨p,hp⟩:=Nq (m.F.length*n);have hpi:(m.F.length:Int)*(n:Int)=(p:Int):=(by rw[<- Za,hp]);have hpl:p<=6400:=(by rw[<- hp];exact Vn hnf hn32);have HPot:Hi (∀f,potL (fun a b=>F (a*n+b)) n m.F.length f<=p):=h_ fun f=>by rw[<- hp];exact pot_le _ _ _ f
    clear hp;obtain⟨a5,c5,e5⟩:=qb5 HO.u;rw[e5]at HO;subst e5;go_wp2_with fail;go_loopw [6,8] (fun v r w3=>∃(q:Nat) (f:Nat->Nat),q<=p+1/\r=J9 q/\w3.ownsRow W0.heap.size 3 1 v m.F.length (ui (lsL f m.F.length))/\Way m n (fun a b=>F (a*n+b)=true) f/\q<=potL (fun a b=>F (a*n+b)) n m.F.length f/\Below W0.heap.size W0 w3) (fun _ r _=>p+1 - (intOf r).toNat)
    case atStart=>exact⟨0,_,nZ _,rfl,HO.u,HWs.u,nZ _,HBr.u⟩
    case round =>
     clear HO HBr HKr HQr HSr hws HWs;obtain⟨q,f,hq,rfl,ho,hway,hpot,hb⟩:=hrel;obtain⟨a5,c5,e5⟩:=qb5 ho;rw[e5]at ho;subst e5;have HNow:=h_ ho;have HWay:=h_ hway;have HPq:=h_ hpot;have HBr:=h_ hb;have HQr:=mB HQ hb;have q0:=HQr.u.cell 0;simp only[Yh]at q0;have hws:=hb.size;clear ho hway hpot hb;have hqp:q<=p:=by
      have h1:=HPq.u;have h2:=HPot.u f;omega
     have hqp':(q:Int)<=p:=(by omega);have HWj:=h_ (HWay.u.jac HLat.u);have HJg:=h_ (jac_ge HLat.u HWay.u);have HO:=h_ (qav wr 3);have HBo:=h_ ((bR wr.heap.size wr).alloc (nR _) (.cells #[] 3));obtain⟨W3,hW3⟩:=Nq (wr.alloc (.cells #[] 3));rw[hW3]at HO HBo;obtain⟨B1,hB1⟩:=Nq wr.heap.size;go_wp2_with fail
     try rw[hW3]
     rw[hB1]at HO;clear hW3 q0;obtain⟨wz,hwz⟩:=Nq wr;rw[hwz]at HNow HBr HQr HBo hB1 hws;rw[hB1]at HBo;go_loopw [9,10,11] (fun v ch kk w3=>∃(k:Nat) (cb:Bool),k<=m.F.length/\kk=J9 k/\ch=.bool cb/\w3.ownsRow B1 3 1 v k (ui (lsL (jac m jn f) k))/\(cb=true ↔ ∃i,i<k/\jac m jn f i≠f i)/\Below B1 wz w3) (fun _ _ kk _=>m.F.length - (intOf kk).toNat)
     case atStart=>exact⟨0,false,nZ _,rfl,rfl,HO.u,⟨(fun h=>by cases h),fun⟨i,h,_⟩=>absurd h (nL _)⟩,HBo.u⟩
     case round =>
      clear HO HBo hwz;obtain⟨k,cb,hkl,rfl,rfl,ho,hcb,hb⟩:=hrel;have HNx:=h_ ho;have HCb:=h_ hcb;have HB1:=h_ hb;have HBk:Hi (Below wz.heap.size wz wr):=h_ (by rw[hB1];exact hb);have hz1:B1<=wr.heap.size:=(by have:=hb.size;omega);clear ho hcb hb;by_cases hklt:k<m.F.length
      . have hklt':(k:Int)<m.F.length:=by omega
        have HBa:=h_ (HBr.u.trans (HBk.u.mono hws));have HKr:=h_ (HK.u.mono HBa.u HK.u.lt);have HSr:=h_ (HS.u.mono HBa.u);obtain⟨pb,po,e1,⟨hpb,-,-,z2,-⟩,-⟩:=HSr.u.f k hklt;dsimp only at e1;obtain⟨y0,y1,y2,y3⟩:=quad HKr.u;rw[e1]at y3;clear e1;obtain⟨g,e2,hgl,zk⟩:=qj6 (qaq HNow.u HBk.u) hklt;have hauto:(m.F[k].lb<0/\jac m jn f k=((rdO m k m.F.length).map f).foldl jn (f k))∨(¬ m.F[k].lb<0/\jac m jn f k=f k):=by
         unfold jac;rw[qge hklt];by_cases h:m.F[k].lb<0
         . exact .inl ⟨h,by rw[Yy h]⟩
         . exact .inr ⟨h,by rw[Yu h]⟩
        generalize m.F[k].lb=lb at *;rcases hauto with ⟨hneg,hjk⟩ | ⟨hneg,hjk⟩
        . subst e2
          have hfk:=HWay.u.lt k hklt;go_wp2_with fail;clear z2 y0 y1 y2 y3 zk;obtain⟨wx,hwx⟩:=Nq wr;rw[hwx]at HNx HB1 HBk HBa HKr HSr hz1 hpb hgl;go_loopw [12,13] (fun xv jv w4=>∃j:Nat,j<=m.F.length/\jv=J9 j/\xv=J9 ((((rdO m k j).map f).foldl jn (f k):Nat):Int)/\Below wx.heap.size wx w4) (fun _ jv _=>m.F.length - (intOf jv).toNat)
          case atStart=>exact⟨0,nZ _,rfl,rfl,by rw[hwx];exact bR _ _⟩
          case round =>
           clear hwx;obtain⟨j,hjl,rfl,rfl,hb⟩:=hrel;have HBx:=h_ hb;have HBb:=mT HBa hb;have HK2:=h_ (HK.u.mono HBb.u HK.u.lt);have HS2:=h_ (HS.u.mono HBb.u);have HQ2:=h_ (HQ.u.mono HBb.u HQ.u.lt);have HJ2:=h_ (HJm.u.mono HBb.u);have HR2:=h_ (qaq (qaq HNow.u HBk.u) hb);have hws4:=hb.size;clear hb;have hxl:=HLat.u.fold_lt _ _ hfk (rdO_lt HWay.u.lt k j hjl);by_cases hjlt:j<m.F.length
           . have hjlt':(j:Int)<m.F.length:=by omega
             have hfj:=HWay.u.lt j hjlt;have HSu:=h_ (qe5 m k j);obtain⟨y0,y1,y2,y3⟩:=quad HK2.u;have HC2:=h_ (HCa.u wr j k hjlt hklt HS2.u);generalize hxx:((rdO m k j).map f).foldl jn (f k)=x at *;have HXX:=h_ hxx;clear hxx;go_wp2_with fail;refine HC2.u.mono ?_;rintro r W5 ⟨rfl,hb⟩;have HB5:=mT HBx hb;have HQ5:=h_ (HQ2.u.mono hb HQ2.u.lt);have HJ5:=h_ (HJ2.u.mono hb);have HR5:=h_ (qaq HR2.u hb);clear hb y0 y1 y2 y3 HC2 HK2 HS2 HQ2 HJ2 HR2;cases har:anyR m j k
             . have HXn:Hi (((rdO m k (j+1)).map f).foldl jn (f k)=x):=h_ (by rw[HSu.u,har,<- HXX.u];simp)
               clear har HSu;go_wp2_with fail;go_roundw
               case rel=>first | exact⟨j+1,by omega,by go_num,by rw[HXn.u],HB5.u⟩ | ((repeat apply Exists.intro);exact⟨⟨j+1,by omega,by go_num,by rw[HXn.u],HB5.u⟩,rfl⟩)
               case measure=>simp[intOf];omega
             . have HXn:Hi (((rdO m k (j+1)).map f).foldl jn (f k)=jn x (f j)):=h_ (by rw[HSu.u,har,<- HXX.u];simp)
               clear har HSu;obtain⟨hidx,hw1,hw2,hidx',hidx2⟩:=q9w hxl hfj hn32;obtain⟨g',e2,-,zk⟩:=qj6 HR5.u hjlt;cases e2;obtain⟨b2,o2,e3,-,zj⟩:=HJ5.u _ hidx;rw[HJe.u x (f j) hxl hfj]at zj;have x2:=HQ5.u.cell 2;have x0:=HQ5.u.cell 0;simp only[Yh,Yo]at x2 x0;rw[e3]at x2;clear e3;generalize jn x (f j)=u at *;generalize f j=y at *;generalize x*n+y=q1 at *;generalize x*n=q2 at *;go_wp2_with fail;refine wp_region_held_drew (S:=fun w'=>w'.cell? ⟨w.heap.size+1,2,none⟩=some (.slice (some ⟨b2,o2,none⟩) (n*n) c2)/\w'.cell? ⟨w.heap.size+1,0,none⟩=some (J9 n)/\w'.cell? ⟨g,j,none⟩=some (J9 (y:Nat))/\w'.cell? ⟨b2,o2+q1,none⟩=some (J9 (u:Nat))) (by kernel_rfl) ⟨x2,x0,zk,zj⟩ (fun zz=>?_);clear x2 x0 zk zj;refine tj 0 78 (Yc (w.heap.size+1) 2) zz ?_;refine tj 1 79 (.slice (some ⟨b2,o2,none⟩) (n*n) c2) zz ?_;refine tj 2 80 (J9 x) zz ?_;refine tj 3 81 (Yc (w.heap.size+1) 0) zz ?_;simp only[sX,sY,sZ];refine tj 4 82 (J9 n) zz ?_;refine tj 5 83 (J9 q2) zz ?_ (hy:=fun w hS=>by simp[execOp,go_sem, *];exact(IntWalk.i64_left _).trans hw1);refine tj 6 84 (.slice (some ⟨g,0,none⟩) m.F.length c5) zz ?_;refine tj 7 85 (J9 j) zz ?_;simp only[sX,sY,sZ];refine tj 8 86 (Yc g j) zz ?_;refine tj 9 87 (J9 y) zz ?_;refine tj 10 88 (J9 q1) zz ?_ (hy:=fun w hS=>by simp[execOp,go_sem, *];exact(IntWalk.i64_left _).trans hw2);refine tj 11 89 (Yc b2 (o2+q1)) zz ?_;simp only[sX,sY,sZ];refine tj 12 90 (J9 u) zz ?_;refine tj 13 12 (J9 u) zz ?_;simp only[sX,sY,sZ];refine wpAnyH_done (by kernel_rfl) ?_ _;have HB6:=h_ (HB5.u.drew);clear zz;go_wp2_with fail;go_roundw
               case rel=>first | exact⟨j+1,by omega,by go_num,by rw[HXn.u],HB6.u⟩ | ((repeat apply Exists.intro);exact⟨⟨j+1,by omega,by go_num,by rw[HXn.u],HB6.u⟩,rfl⟩)
               case measure=>simp[intOf];omega
           . obtain rfl:j=m.F.length:=by omega
             have hjlt':¬ (m.F.length:Int)<(m.F.length:Int):=(by omega);rw[<- hjk];rw[<- hjk]at hxl;replace HNx:=h_ (qaq HNx.u HBx.u);replace HB1:=h_ (HB1.u.trans (HBx.u.mono hz1));replace HBk:=h_ (HBk.u.trans (HBx.u.mono HBk.u.size));clear HBa HKr HSr HBb HK2 HS2 HQ2 HJ2 HR2 HBx hjk;obtain⟨g,e2,-,zk⟩:=qj6 (qaq HNow.u HBk.u) hklt;cases e2;obtain⟨i0,hi,hz0,hz1,hz2⟩:=info_parts infoI;have hne:(jac m jn f k≠f k/\((((jac m jn f k:Nat):Int) != ((f k:Nat):Int))=true))∨(jac m jn f k=f k/\((((jac m jn f k:Nat):Int) != ((f k:Nat):Int))=false)):=by
              by_cases e:jac m jn f k=f k
              . exact .inr ⟨e,by rw[e];simp⟩
              . exact .inl ⟨e,by simp;omega⟩
             have hkb:jac m jn f k<n:=HWj.u.lt k hklt;have HT:=h_ (qdd (jac m jn f) k);have hws2:=HBk.u.size;have HCg:Hi (∀c2:Bool,(c2=true ↔ ∃i,i<k+1/\jac m jn f i≠f i) ↔ (c2=(cb||decide (jac m jn f k≠f k)))):=h_ fun c2=>by
              have hcb:=HCb.u;have h:(∃i,i<k+1/\jac m jn f i≠f i) ↔ (cb||decide (jac m jn f k≠f k))=true:=by
               rw[Zs,decide_eq_true_iff,hcb];constructor
               . rintro⟨i,h1,h2⟩
                 by_cases e:i=k
                 . subst e;exact .inr h2
                 . exact .inl ⟨i,by omega,h2⟩
               . rintro (⟨i,h1,h2⟩ | h)
                 . exact⟨i,by omega,h2⟩
                 . exact⟨k,by omega,h⟩
              rw[h];cases c2 <;> cases (cb||decide (jac m jn f k≠f k)) <;> simp
             rcases hne with ⟨hne1,hne⟩ | ⟨hne1,hne⟩
             case' inl =>
              have HCn:Hi (true=true ↔ ∃i,i<k+1/\jac m jn f i≠f i):=h_ ((HCg.u true).2 (by rw[Ym hne1];simp));clear hne1 HCg
             case' inr =>
              have HCn:Hi (cb=true ↔ ∃i,i<k+1/\jac m jn f i≠f i):=h_ ((HCg.u cb).2 (by rw[Yi (not_not_intro hne1)];simp));clear hne1 HCg
             all_goals
              generalize jac m jn f k=x at *;generalize f k=y at *;go_wp2_with (at_builtin;refine wpList_append_own _ rfl _ _ 30 rfl B1 3 i0 _ 1 8 Tryz.underlying30 hi hz0 hz1 hz2 rfl (by omega) _ _ _ rfl (HNx.u.alloc _) ⟨wr.heap.size,0,none⟩ 1 1 [J9 x] rfl rfl (qc6 wr 3 _) (by simp[Value.oneCell']) (by unfold maxLen;omega) (by omega) (by simp;omega) ?_);intro v' w4 ho' hgr' _;have HO2:Hi (w4.ownsRow B1 3 1 v' (k+1) (ui (lsL (jac m jn f) (k+1)))):=h_ (by rw[HT.u];simpa [ui] using ho');have HB3:=h_ ((HB1.u.alloc (by omega) (.cells #[J9 x] 3)).grown hgr' (by simp;omega) (fun q' e=>q87 HNx.u e));clear ho' hgr' hi hz0 hz1 hz2 zk hne;go_wp2_with fail;go_roundw
              case rel=>exact⟨k+1,_,by omega,by go_num,rfl,HO2.u,by first | exact HCn.u | simpa using HCn.u,HB3.u⟩
              case measure=>simp[intOf];omega
        . have HT0:=h_ (qdd (jac m jn f) k)
          have HCn:Hi (cb=true ↔ ∃i,i<k+1/\jac m jn f i≠f i):=h_ (by
           rw[HCb.u];constructor
           . rintro⟨i,h1,h2⟩
             exact⟨i,by omega,h2⟩
           . rintro⟨i,h1,h2⟩
             by_cases e:i=k
             . subst e;exact absurd hjk h2
             . exact⟨i,by omega,h2⟩)
          have HT:=HT0;rw[hjk]at HT;subst e2;have hws2:=HBk.u.size;obtain⟨i0,hi,hz0,hz1',hz2⟩:=info_parts infoI;clear hjk HT0;generalize f k=y at *;go_wp2_with (at_builtin;refine wpList_append_own _ rfl _ _ 30 rfl B1 3 i0 _ 1 8 Tryz.underlying30 hi hz0 hz1' hz2 rfl (by omega) _ _ _ rfl (HNx.u.alloc _) ⟨wr.heap.size,0,none⟩ 1 1 [J9 y] rfl rfl (qc6 wr 3 _) (by simp[Value.oneCell']) (by unfold maxLen;omega) (by omega) (by simp;omega) ?_);intro v' w4 ho' hgr' _;have HO2:Hi (w4.ownsRow B1 3 1 v' (k+1) (ui (lsL (jac m jn f) (k+1)))):=h_ (by rw[HT.u];simpa [ui] using ho');have HB3:=h_ ((HB1.u.alloc (by omega) (.cells #[J9 y] 3)).grown hgr' (by simp;omega) (fun q' e=>q87 HNx.u e));clear ho' hgr' hi hz0 hz1' hz2 zk z2 y0 y1 y2 y3;go_wp2_with fail;go_roundw
          case rel=>first | exact⟨k+1,cb,by omega,by go_num,rfl,HO2.u,HCn.u,HB3.u⟩ | ((repeat apply Exists.intro);exact⟨⟨k+1,cb,by omega,by go_num,rfl,HO2.u,HCn.u,HB3.u⟩,rfl⟩)
          case measure=>simp[intOf];omega
      . obtain rfl:k=m.F.length:=by omega
        have hklt':¬ (m.F.length:Int)<(m.F.length:Int):=(by omega);have HB4:Hi (Below W0.heap.size W0 wr):=h_ (HBr.u.trans (HBk.u.mono hws));cases cb
        . have he:∀i,i<m.F.length->jac m jn f i=f i:=fun i hi=>Classical.byContradiction fun h=>by have:=HCb.u.2 ⟨i,hi,h⟩;cases this
          have HSo:=h_ (qh9 HLat.u HWay.u he);have hO:=HNx.u;rw[qad he]at hO;obtain⟨a6,c6,rfl,-,hp6⟩:=q5t hO;have HP6:=h_ hp6;have HLo:=h_ HWay.u.low;have HBw:=h_ (HB.u.trans (HB4.u.mono HB.u.size));clear hO hp6 he HNx;go_wp2_with fail;go_ret
          first | exact⟨f,a6,c6,rfl,HSo.u,HLo.u,HP6.u,HBw.u⟩ | exact⟨f,a6,⟨c6,rfl⟩,HSo.u,HLo.u,HP6.u,HBw.u⟩ | exact⟨f,⟨a6,⟨c6,rfl⟩,HSo.u,HLo.u,HP6.u⟩,HBw.u⟩
        . obtain⟨i,hi,hne⟩:=HCb.u.1 rfl
          have HPn:Hi (q+1<=potL (fun a b=>F (a*n+b)) n m.F.length (jac m jn f)):=h_ (by
           have h1:=pot_lt (F:=fun a b=>F (a*n+b)) HLat.u HWay.u.lt HWj.u.lt HJg.u hi (fun e=>hne e.symm);have h2:=HPq.u;omega)
          have HO6:=h_ (qao HNx.u (show W0.heap.size<=B1 by omega));clear hne;go_wp2_with fail;go_roundw
          case rel=>first | exact⟨q+1,jac m jn f,by omega,by go_num,HO6.u,HWj.u,HPn.u,HB4.u⟩ | ((repeat apply Exists.intro);exact⟨⟨q+1,jac m jn f,by omega,by go_num,HO6.u,HWj.u,HPn.u,HB4.u⟩,rfl⟩)
          case measure=>simp[intOf];omega
end Go.Proofs.YtebbgodlijlioaaGreatDoor
