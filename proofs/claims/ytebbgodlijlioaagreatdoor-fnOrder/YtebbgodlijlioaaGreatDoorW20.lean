import Derived.Test.YtebbgodlijlioaaGreatDoorW14
import Derived.Deep.AppendLies
import Derived.Maps.AppendAt
import Derived.Laws.BytesString
set_option maxRecDepth 100000
set_option maxHeartbeats 64000000
namespace Go.Proofs.YtebbgodlijlioaaGreatDoor
open Go Go.RowKit
section
variable {md:Region.Mode} {ops:Array Oper} {Q:Exit->Act->World->Prop} {S:World->Prop} {o:Oper} {a:Act}
theorem appY {i:Nat}{fuel:Nat}{listed:Array Bool}{w:World}(d:Tmp)(hi:ops[i]? = some o)(hd:o.dst=some d)(hgd:o.guard=none)(hr:Region.ready md ops listed=[i])(s x:Operand)(t:TypeId)
 (ho:o.op=.call { callee:=.builtin .append,args:=#[s,x],argTypes:=#[t,t] })
 (base:Nat) (e:TypeId) (i0:TypeInfo) (z:Value) (size bytes:Nat) (ht:Tryz.prog.underlying t=some (.slice e)) (hi0:Tryz.prog.info? e=some i0) (hz:i0.zero=some z)
 (hsize:i0.size=size) (hby:i0.bytes=bytes) (hzs:z.cells.size=size) (hsz:0<size)
 (v:Value) (n:Nat) (xs:List Value) (hs:a.eval s=v) (hown:w.ownsRow base e size v n xs)
 (ad:Addr) (m c:Nat) (news:List Value) (hx:a.eval x=.slice (some ad) m c) (hl:news.length=m*size) (hnews:∀j u,news[j]? = some u->w.cell? (ad.add j)=some u) (h1:∀u∈news,u.oneCell'=true)
 (hm:0<m) (h63:n+m<=maxLen) (hbytes:(n+m)*bytes<=140737488355328) (hbase:base<=w.heap.size) (H:Nat) (hH:w.heap.size=H)
 (h:∀g cap w',w'.ownsRow base e size (.slice (some ⟨g,0,none⟩) (n+m) cap) (n+m) (xs++news)->w.grownBy w' v.ownBlock->(v.ownBlock=some g∨g=H)->g<w'.heap.size->S w'/\wpAnyH Tryz.prog md ops Q S fuel (listed.setIfInBounds i true) { tmps:=a.tmps.setIfInBounds d (.slice (some ⟨g,0,none⟩) (n+m) cap),defers:=a.defers } w'):wpAnyH Tryz.prog md ops Q S (fuel+1) listed a w :=
 wpAnyH_ready hr (by simp) (AllReadyH.cons hi (fun K hK=>step_append_lies w hgd s x t ho base e i0 z size bytes ht hi0 hz hsize hby hzs hsz v n xs hs hown ad m c news hx hl hnews h1 hm h63 hbytes hbase H hH (fun g cap w' a1 a2 a3 a4=>by
  rw[ql4 hd];obtain⟨k1,k2⟩:=h g cap w' a1 a2 a3 a4;exact hK.out _ _ k1 (fun _=>k2))) AllReadyH.nil)
end
def pp (l:List (Int × Int)):List Value:=l.flatMap fun u=>[.int .i64 u.1,.int .i64 u.2]
theorem qky (u:Int × Int)(l:List (Int × Int)):pp (u :: l)=J9 u.1 :: J9 u.2 :: pp l:=by simp[pp]
theorem pp_len:∀l:List (Int × Int),(pp l).length=l.length*2
 | []=>rfl
 | u :: l=>by rw[qky];simp[pp_len l];omega
theorem qkz (l:List (Int × Int))(u:Int × Int):pp (l++[u])=pp l++[J9 u.1,J9 u.2]:=by simp[pp]
theorem pp_at:∀(l:List (Int × Int)) (k:Nat),k<l.length->(pp l)[k*2]? = some (J9 (l.getD k (0,0)).1)/\(pp l)[k*2+1]? = some (J9 (l.getD k (0,0)).2)
 | [],k,h=>absurd h (nL _)
 | u :: l,0,_=>by simp[qky]
 | u :: l,k+1,h=>by
  have:=pp_at l k (by simpa using h);rw[qky,show(k+1)*2=k*2+1+1 by omega];simpa using this
theorem q2o {w:World}{base:Nat}{e:TypeId}{v:Value}{n:Nat}{l:List (Int × Int)}(h:w.ownsRow base e 2 v n (pp l)) :
 ∃a cap,v=.slice a n cap/\Pairs w a n (fun k=>(l.getD k (0,0)).1) (fun k=>(l.getD k (0,0)).2):=by
 have hlen:l.length=n:=by have:=h.1;rw[pp_len]at this;omega
 rcases h.2 with ⟨rfl,rfl⟩ | ⟨g,cap,cur,rfl,hb,hg,hc,-,hs,htake⟩
 . exact⟨none,0,rfl,fun k hk=>absurd hk (nL _)⟩
 . refine⟨_,cap,rfl,fun k hk=>⟨g,0,rfl,(Yr.1 hg).1,?_,?_⟩⟩
   . have:=h.cellAt (k*2) (by omega)
     rw[Zj,this];exact(pp_at l k (by omega)).1
   . have:=h.cellAt (k*2+1) (by omega)
     rw[Zj,this];exact(pp_at l k (by omega)).2
theorem q8t (w:World)(t:TypeId):(w.alloc (.cells #[] t)).ownsRow w.heap.size t 2 (.slice (some ⟨w.heap.size,0,none⟩) 0 0) 0 (pp []) :=
 ⟨rfl,.inr ⟨w.heap.size,0,#[],rfl,nR _,heap_alloc_new w (.cells #[] t),nR _,nZ _,rfl,rfl⟩⟩
structure Chg (G:Nat)(w w':World):Prop where
 os:w'.os=w.os
 tape:w'.tape=w.tape
 output:w'.output=w.output
 size:w'.heap.size=w.heap.size
 block:∀b,b≠G->w'.heap[b]? = w.heap[b]?
theorem Chg.refl (G:Nat)(w:World):Chg G w w:=⟨rfl,rfl,rfl,rfl,fun _ _=>rfl⟩
theorem Chg.trans {G:Nat}{w w' w'':World}(h:Chg G w w')(h':Chg G w' w''):Chg G w w'':=⟨h'.os.trans h.os,h'.tape.trans h.tape,h'.output.trans h.output,h'.size.trans h.size,fun b hb=>(h'.block b hb).trans (h.block b hb)⟩
theorem Chg.set {G:Nat}{w w':World}(h:Chg G w w')(j:Nat)(v:Value):Chg G w (w'.setCell ⟨G,j,none⟩ v) :=
 have hb:Below w'.heap.size w' w':=bR _ _
 have h2:Below G w' (w'.setCell ⟨G,j,none⟩ v):=(bR G w').setCell (nR _) v
 ⟨h2.os.trans h.os,h2.tape.trans h.tape,h2.output.trans h.output,by simp[h.size],fun b hbG=>(heap_setCell_other w' ⟨G,j,none⟩ b v hbG).trans (h.block b hbG)⟩
theorem Chg.below {G B:Nat}{w w':World}(h:Chg G w w')(hB:B<=G):Below B w w':=⟨h.os,h.tape,h.output,by rw[h.size];exact nR _,fun b hb=>h.block b (by omega)⟩
theorem qb1:(Tryz.prog.info? 64).map (fun i=>(i.zero,i.size,i.bytes))=some (some (.agg #[J9 0,J9 0]),2,16):=by kernel_rfl
theorem qdi (w:World)(t:TypeId)(v u:Value):∀(j:Nat) (x:Value),[v,u][j]? = some x->(w.alloc (.cells #[v,u] t)).cell? ((⟨w.heap.size,0,none⟩:Addr).add j)=some x:=fun j x h=>by
 match j,h with
 | 0,h=>simp at h;subst h;exact(Blk.new w t #[v,u]).cell 0
 | 1,h=>simp at h;subst h;exact(Blk.new w t #[v,u]).cell 1
theorem qfo {w:World}{base e size n R j:Nat}{v x:Value}{xs:List Value}(h:w.ownsRow base e size v n xs)(hR:R<base):(w.setCell ⟨R,j,none⟩ x).ownsRow base e size v n xs:=by
 refine⟨h.1,?_⟩
 rcases h.2 with h' | ⟨g,cap,cur,h1,h2,h3,h4⟩
 . exact .inl h'
 . exact .inr ⟨g,cap,cur,h1,h2,(heap_setCell_other w ⟨R,j,none⟩ g x (by show g≠R;omega)).trans h3,h4⟩
theorem qby {w:World}{base base' e size n:Nat}{v:Value}{xs:List Value}(h:w.ownsRow base e size v n xs)(hb:base'<=base):w.ownsRow base' e size v n xs:=by
 refine⟨h.1,?_⟩
 rcases h.2 with h' | ⟨g,cap,cur,h1,h2,h3⟩
 . exact .inl h'
 . exact .inr ⟨g,cap,cur,h1,by omega,h3⟩
def OrdOut (w:World)(N:Int)(l:List (Int × Int))(e:Ending)(w':World):Prop :=
 ∃v,e=.returned (.agg #[J9 N,v])/\w'.ownsRow w.heap.size 64 2 v l.length (pp l)/\Below w.heap.size w w'
def chainL (k:Nat):List (Int × Int):=(List.range k).map fun (i:Nat)=>((i:Int),(i:Int)+1)
theorem q6x (k:Nat):chainL (k+1)=chainL k++[((k:Int),(k:Int)+1)]:=by simp[chainL,List.range_succ]
theorem q9z (k:Nat):(chainL k).length=k:=by simp[chainL]
theorem q2e (n:Nat)(w:World)(hn:n<=1024)(h1:1<=n) :
 Calls Tryz.prog 101 #[J9 0,J9 n] w fun e w'=>OrdOut w n (chainL (n - 1)) e w':=by
 obtain⟨W,hW⟩:=Nq (w.alloc (.cells J4 39))
 have hWs:W.heap.size=w.heap.size+1:=by rw[<- hW];simp
 have bR:Blk W w.heap.size 39 [J9 0,Ya]:=by rw[<- hW];exact Blk.new w 39 J4
 have hb:Below w.heap.size w W:=by rw[<- hW];exact(Below.refl _ _).alloc (nR _) _
 have HR:=h_ bR;have HB:=h_ hb;have HWS:=h_ hWs
 clear bR hb
 go_enter Tryz.func101,Tryz.ntmps101
 go_wp2
 try rw[hW]
 go_loopw [5,6] (fun v i wr=>∃k:Nat,k<=n - 1/\i=J9 k/\wr.ownsRow W.heap.size 64 2 v k (pp (chainL k))/\Below W.heap.size W wr) (fun _ i _=>n - (intOf i).toNat)
 case atStart=>exact⟨0,nZ _,rfl,(by have h:=q8t W 64;rw[HWS.u]at h⊢;exact h),(Below.refl _ _).alloc (nR _) _⟩
 case round =>
  obtain⟨k,hk,rfl,hO,hB⟩:=hrel;have HO:=h_ hO;have HBr:=h_ hB;clear hO hB hW hWs;by_cases hlt:k+1<n
  . have hlt':(k:Int)+1<n:=by omega
    obtain⟨i0,hi,hz0,hz1,hz2⟩:=info_parts qb1;go_wp2_with (at_builtin;refine wpList_append_own_at _ rfl _ _ 24 rfl W.heap.size 64 i0 _ 2 16 Tryz.underlying24 hi hz0 hz1 hz2 rfl (by omega) _ _ _ rfl (HO.u.alloc _) ⟨wr.heap.size,0,none⟩ 1 1 [J9 k,J9 (k+1)] rfl rfl (qdi wr 64 _ _) (by simp[Value.oneCell']) (by unfold maxLen;omega) (by omega) (by have:=HBr.u.size;simp;omega) ?_);intro v' w3 ho' hgr' _ _;have hB3:=(HBr.u.alloc HBr.u.size (.cells (Jp k ((k:Int)+1)) 64)).grown hgr' (by have:=HBr.u.size;simp;omega) (fun q' e=>q8q HO.u e);have HO3:Hi (w3.ownsRow W.heap.size 64 2 v' (k+1) (pp (chainL (k+1)))):=h_ (by rw[q6x,qkz];exact ho');have HB3:=h_ hB3;clear hgr' hB3 ho' HO HBr hi hz0 hz1 hz2;go_wp2;go_roundw
    case rel=>exact⟨k+1,by omega,by go_num,HO3.u,HB3.u⟩
    case measure=>simp[intOf];omega
  . have hlt':¬ (k:Int)+1<n:=by omega
    obtain rfl:k=n - 1:=(by omega);obtain⟨a,cap,rfl,-⟩:=q2o HO.u;have bR:=HR.u.mono HBr.u (by have:=HWS.u;omega);obtain⟨r0,r1⟩:wr.cell? ⟨w.heap.size,0,none⟩=some (J9 0)/\wr.cell? ⟨w.heap.size,1,none⟩=some Ya:=⟨bR.cell 0,bR.cell 1⟩;have f0:=bR.free 0;have f1:=bR.free 1;clear bR;go_wp2;refine bodyPost_ret (v:=.agg (Jm n a (n - 1) cap)) (by simp[results,Tryz.results101,go_sem, *]) rfl ⟨_,rfl,?_,?_⟩
    . rw[q9z]
      exact qby (qfo (qfo HO.u (by have:=HWS.u;omega)) (by have:=HWS.u;omega)) (by have:=HWS.u;omega)
    . exact((HB.u.trans (HBr.u.mono (by have:=HWS.u;omega))).setCell (nR _) _).setCell (nR _) _
def starL (n k:Nat):List (Int × Int):=(List.range k).flatMap fun (i:Nat)=>[((0:Int),(i:Int)+1),((i:Int)+1,(n:Int)+1)]
theorem qcn (n k:Nat):starL n (k+1)=starL n k++[((0:Int),(k:Int)+1)]++[((k:Int)+1,(n:Int)+1)]:=by simp[starL,List.range_succ]
theorem qgo (n:Nat):∀k,(starL n k).length=k*2
 | 0=>rfl
 | k+1=>by rw[qcn];simp[qgo n k];omega
theorem q3p (n:Nat)(w:World)(hn:n<=1024) :
 Calls Tryz.prog 101 #[J9 1,J9 n] w fun e w'=>OrdOut w ((n:Int)+2) (starL n n) e w':=by
 obtain⟨W,hW⟩:=Nq (w.alloc (.cells J4 39))
 have hWs:W.heap.size=w.heap.size+1:=by rw[<- hW];simp
 have bR:Blk W w.heap.size 39 [J9 0,Ya]:=by rw[<- hW];exact Blk.new w 39 J4
 have hb:Below w.heap.size w W:=by rw[<- hW];exact(Below.refl _ _).alloc (nR _) _
 have HR:=h_ bR;have HB:=h_ hb;have HWS:=h_ hWs
 clear bR hb
 go_enter Tryz.func101,Tryz.ntmps101
 go_wp2
 try rw[hW]
 go_loopw [5,7] (fun v i wr=>∃k:Nat,k<=n/\i=J9 ((k:Int)+1)/\wr.ownsRow W.heap.size 64 2 v (k*2) (pp (starL n k))/\Below W.heap.size W wr) (fun _ i _=>n+1 - (intOf i).toNat)
 case atStart=>exact⟨0,nZ _,rfl,(by have h:=q8t W 64;rw[HWS.u]at h⊢;exact h),(Below.refl _ _).alloc (nR _) _⟩
 case round =>
  obtain⟨k,hk,rfl,hO,hB⟩:=hrel;have HO:=h_ hO;have HBr:=h_ hB;clear hO hB hW hWs;by_cases hlt:k<n
  . have hlt':(k:Int)+1<=n:=by omega
    obtain⟨i0,hi,hz0,hz1,hz2⟩:=info_parts qb1;go_wp2_with (at_builtin;refine wpList_append_own_at _ rfl _ _ 24 rfl W.heap.size 64 i0 _ 2 16 Tryz.underlying24 hi hz0 hz1 hz2 rfl (by omega) _ _ _ rfl (HO.u.alloc _) ⟨wr.heap.size,0,none⟩ 1 1 [J9 0,J9 ((k:Int)+1)] rfl rfl (qdi wr 64 _ _) (by simp[Value.oneCell']) (by unfold maxLen;omega) (by omega) (by have:=HBr.u.size;simp;omega) ?_);intro v' w3 ho' hgr' _ _;have hB3:=(HBr.u.alloc HBr.u.size (.cells #[J9 0,J9 ((k:Int)+1)] 64)).grown hgr' (by have:=HBr.u.size;simp;omega) (fun q' e=>q8q HO.u e);have HO3:Hi (w3.ownsRow W.heap.size 64 2 v' (k*2+1) (pp (starL n k++[((0:Int),(k:Int)+1)]))):=h_ (by rw[qkz];exact ho');have HB3:=h_ hB3;clear hgr' hB3 ho' HO HBr;go_wp2_with (at_builtin;refine wpList_append_own_at _ rfl _ _ 24 rfl W.heap.size 64 i0 _ 2 16 Tryz.underlying24 hi hz0 hz1 hz2 rfl (by omega) _ _ _ rfl (HO3.u.alloc _) ⟨w3.heap.size,0,none⟩ 1 1 [J9 ((k:Int)+1),J9 ((n:Int)+1)] rfl rfl (qdi w3 64 _ _) (by simp[Value.oneCell']) (by unfold maxLen;omega) (by omega) (by have:=HB3.u.size;simp;omega) ?_);intro v4 w4 ho' hgr' _ _;have hB4:=(HB3.u.alloc HB3.u.size (.cells (Jp ((k:Int)+1) ((n:Int)+1)) 64)).grown hgr' (by have:=HB3.u.size;simp;omega) (fun q' e=>q8q HO3.u e);have HO4:Hi (w4.ownsRow W.heap.size 64 2 v4 ((k+1)*2) (pp (starL n (k+1)))):=h_ (by rw[qcn,qkz,show(k+1)*2=k*2+1+1 by omega];exact ho');have HB4:=h_ hB4;clear hgr' hB4 ho' HO3 HB3 hi hz0 hz1 hz2;go_wp2;go_roundw
    case rel=>exact⟨k+1,by omega,by go_num,HO4.u,HB4.u⟩
    case measure=>simp[intOf];omega
  . have hlt':¬ (k:Int)+1<=n:=by omega
    obtain rfl:k=n:=(by omega);obtain⟨a,cap,rfl,-⟩:=q2o HO.u;have bR:=HR.u.mono HBr.u (by have:=HWS.u;omega);obtain⟨r0,r1⟩:wr.cell? ⟨w.heap.size,0,none⟩=some (J9 0)/\wr.cell? ⟨w.heap.size,1,none⟩=some Ya:=⟨bR.cell 0,bR.cell 1⟩;have f0:=bR.free 0;have f1:=bR.free 1;clear bR;go_wp2;refine bodyPost_ret (v:=.agg (Jm ((k:Int)+2) a (k*2) cap)) (by simp[results,Tryz.results101,go_sem, *]) rfl ⟨_,rfl,?_,?_⟩
    . rw[qgo]
      exact qby (qfo (qfo HO.u (by have:=HWS.u;omega)) (by have:=HWS.u;omega)) (by have:=HWS.u;omega)
    . exact((HB.u.trans (HBr.u.mono (by have:=HWS.u;omega))).setCell (nR _) _).setCell (nR _) _
def pb (f g:Nat->Nat)(k a b:Nat):Bool:=(List.range k).any fun i=>decide (f i=a)&&decide (g i=b)
theorem qkq (f g:Nat->Nat)(k a b:Nat):pb f g (k+1) a b=(pb f g k a b||(decide (a=f k)&&decide (b=g k))):=by
 simp only[pb,Za,List.any_append,List.any_cons,List.any_nil,Bool.or_false]
 congr 2 <;> rw[decide_eq_decide] <;> exact eq_comm
theorem pb_iff {f g:Nat->Nat}{k a b:Nat}:pb f g k a b=true ↔ ∃i,i<k/\f i=a/\g i=b:=by simp[pb]
theorem qbn (a:Nat)(w:World)(hs:a<32):Calls Tryz.prog 123 #[J9 a] w fun e w'=>∃v,e=.returned v/\(v=.agg (#[.int .u32 ((2 ^ a:Nat):Int)])/\Below w.heap.size w w') :=
 (qke a w hs).mono fun e w' ⟨he,hw⟩=>⟨_,he,rfl,by rw[hw];exact(bR _ _).alloc (nR _) _⟩
theorem q6g (s t:Nat)(w:World)(hs:s<4294967296)(ht:t<4294967296):Calls Tryz.prog 122 #[.agg #[.int .u32 s],.agg #[.int .u32 t]] w fun e w'=>∃v,e=.returned v/\(v=.agg (#[.int .u32 ((s ||| t:Nat):Int)])/\Below w.heap.size w w') :=
 (qd0 s t w hs ht).mono fun e w' ⟨he,hw⟩=>⟨_,he,rfl,by rw[hw];exact(((bR _ w).alloc (nR _) _).alloc (by simp) _).alloc (by simp;omega) _⟩
def TwoP (w':World)(P:Nat)(lo hi:Int):Prop:=w'.cell? ⟨P,0,none⟩=some (.int .i64 lo)/\w'.cell? ⟨P,1,none⟩=some (.int .i64 hi)
theorem q09 (n:Nat)(a:Option Addr)(m c:Nat)(f g:Nat->Nat)(w:World)(h32:n<=32)(hm:m<=256)(ha:Pairs w a m (fun k=>(f k:Int)) (fun k=>(g k:Int)))(hf:∀k,k<m->f k<n)(hg:∀k,k<m->g k<n) :
 Calls Tryz.prog 82 #[.agg (Jm n a m c)] w fun e w'=>∃u,e=.returned (.agg (us u).toArray)/\IsRel u (pb f g m)/\Below w.heap.size w w':=by
 go_enter Tryz.func82,Tryz.ntmps82
 go_wp2_with (refine q0i rfl _ _ rfl (w.heap.size+1+1) (fun _=>0) (fun _=>0) rfl rfl (blk3 _ _ _ _ _ rfl) ?_;intro w1 hb1 hg1 hs1;have hA:=(blk1 _ _ _ _ _).grown hg1 (by simp;omega);have hR:=(blk2 _ _ _ _ (fun _=>0) rfl).grown hg1 (by simp);have hB:=(below3 _ _ _ _).trans ((bR w.heap.size _).grown hg1 (by simp;omega) (fun k e=>by cases e;omega));have x1:=hA.cell 1;simp only[Yu,Yh]at x1;replace hA:=h_ hA;replace hR:=h_ hR;replace hB:=h_ hB;replace hb1:=h_ hb1;clear hg1 hs1)
 clear x1 hA
 go_loopw [10] (fun i wr=>∃(k:Nat) (u:Nat->Nat),k<=m/\i=J9 k/\IsRel u (pb f g k)/\Blk wr (w.heap.size+1+1) 126 (us u)/\Blk wr (w.heap.size+1) 126 (us fun _=>0)/\Below w.heap.size w wr) (fun i _=>m - (intOf i).toNat)
 case atStart=>exact⟨0,fun _=>0,nZ _,rfl,fun a _=>⟨by simp,fun b=>by simp[pb]⟩,hb1.u,hR.u,hB.u⟩
 case round =>
  clear hb1 hR hB;obtain⟨k,u,hk,rfl,hrel,hO,hR,hB⟩:=hrel;have HREL:=h_ hrel;have HO:=h_ hO;have HR:=h_ hR;have HB:=h_ hB;by_cases hlt:k<m
  . obtain⟨b1,o1,rfl,hl1,hc1,hc2⟩:=(ha.mono hB) k hlt
    dsimp only at hc1 hc2;have flt:=hf k hlt;have glt:=hg k hlt;obtain⟨x,hx⟩:=Nq (f k);obtain⟨y,hy⟩:=Nq (g k);rw[hx]at hc1 flt;rw[hy]at hc2 glt;have x32:x<32:=(by omega);have y32:y<32:=(by omega);have hgx:=(hrel x x32).1;have HS:Hi (IsRel (fun j=>if j=x then u x ||| 2 ^ y else u j) (pb f g (k+1))):=(hrel.add x32 y32).congr fun a b _=>by rw[qkq,hx,hy]
    have y2:=two_lt y32;have hb3:Below wr.heap.size wr (wr.alloc (.cells (Jp x y) 64)):=(bR _ _).alloc (nR _) _;have P3:=Blk.new wr 64 (Jp x y);have O3:=hO.mono hb3 hO.lt;have R3:=hR.mono hb3 hR.lt;have B3:=hB.trans (hb3.mono hB.size);have hPU:wr.heap.size≠w.heap.size+1+1:=(by have:=hO.lt;omega);have S0:TwoP (wr.alloc (.cells (Jp x y) 64)) wr.heap.size x y:=⟨P3.cell 0,P3.cell 1⟩;have HS0:=h_ S0;have HO3:=h_ O3;have HR3:=h_ R3;have HB3:=h_ B3;have HP3:=h_ P3;have x0i:(0:Int)<=x:=(by omega);have x1i:(x:Int)<32:=(by omega);clear hrel hO hR hB hx hy flt glt hb3 P3 O3 R3 B3 S0 HREL HO HR HB ha;go_wp2_with fail;generalize wr.alloc (.cells (Jp x y) 64)=W at *;generalize wr.heap.size=P at *;refine wp_region_held_drew (S:=fun w'=>TwoP w' P x y) (by kernel_rfl) HS0.u (fun zz=>?_);refine tj 0 14 (Yc P 0) zz ?_ (hy:=fun w hS=>by obtain⟨q0,q1⟩:=hS;simp[execOp,go_sem, *]);refine tj 1 15 (J9 x) zz ?_ (hy:=fun w hS=>by obtain⟨q0,q1⟩:=hS;simp[execOp,go_sem, *]);refine tj 2 16 (Yc P 0) zz ?_ (hy:=fun w hS=>by obtain⟨q0,q1⟩:=hS;simp[execOp,go_sem, *]);refine tj 3 17 (J9 x) zz ?_ (hy:=fun w hS=>by obtain⟨q0,q1⟩:=hS;simp[execOp,go_sem, *]);simp only[sX,sY,sZ];refine tj 4 18 (Yc (w.heap.size+1+1) x) zz ?_ (hy:=fun w hS=>by obtain⟨q0,q1⟩:=hS;simp[execOp,go_sem, *]);refine tj 6 20 (Yc P 1) zz ?_ (hy:=fun w hS=>by obtain⟨q0,q1⟩:=hS;simp[execOp,go_sem, *]);refine tj 7 21 (J9 y) zz ?_ (hy:=fun w hS=>by obtain⟨q0,q1⟩:=hS;simp[execOp,go_sem, *]);simp only[sX,sY,sZ];have cW:W.cell? ⟨w.heap.size+1+1,x,none⟩=some (.int .u32 (u x:Int)):=(by rw[HO3.u.cell x,us_get u x32]);refine wpAnyH_ready (rs:=[5,8]) (by kernel_rfl) (by simp) (consRun (v:=.agg #[.int .u32 (u x:Int)]) (w':=W.drew) 19 rfl rfl (by rfl) ?hrun0 zz ?pA (consCall (f:=123) (args:=#[J9 y]) (R:=fun v wz=>v=.agg (#[.int .u32 ((2 ^ y:Nat):Int)])/\Below W.heap.size W wz) 22 rfl rfl (by rfl) ?hrun1 ((qbn y _ y32).mono fun e w6 ⟨v,he,hv,hb⟩=>⟨v,he,hv,q25 hb⟩) ?pB AllReadyH.nil))
    case hrun0=>simp[execOp,go_sem,cW]
    case hrun1=>simp[execOp,go_sem]
    case pA =>
     simp only[sX,sY,sZ];refine callY (i:=8) (f:=123) (args:=#[J9 y]) (R:=fun v wz=>v=.agg (#[.int .u32 ((2 ^ y:Nat):Int)])/\Below W.heap.size W wz) 22 rfl rfl (by rfl) (by kernel_rfl) ?hrun1 ((qbn y _ y32).mono fun e w6 ⟨v,he,hv,hb⟩=>⟨v,he,hv,q25 hb⟩) ?_
     case hrun1=>simp[execOp,go_sem]
     rintro v w6 ⟨rfl,hb6⟩;have P6:=HP3.u.mono hb6 HP3.u.lt;have O6:=HO3.u.mono hb6 HO3.u.lt;have R6:=HR3.u.mono hb6 HR3.u.lt;have B6:=HB3.u.trans (hb6.mono HB3.u.size);refine⟨⟨P6.cell 0,P6.cell 1⟩,?_⟩;simp only[sX,sY,sZ];refine callY (i:=9) (f:=122) (args:=#[.agg #[.int .u32 (u x:Int)],.agg (#[.int .u32 ((2 ^ y:Nat):Int)])]) (R:=fun v wz=>v=.agg (#[.int .u32 ((u x ||| 2 ^ y:Nat):Int)])/\Below w6.heap.size w6 wz) 23 rfl rfl (by rfl) (by kernel_rfl) ?hrun2 (q6g (u x) (2 ^ y) w6 hgx y2) ?_
     case hrun2=>simp[execOp,go_sem]
     rintro v w7 ⟨rfl,hb7⟩;have P7:=P6.mono hb7 P6.lt;have O7:=O6.mono hb7 O6.lt;have R7:=R6.mono hb7 R6.lt;have B7:=B6.trans (hb7.mono B6.size);have c7:w7.cell? ⟨w.heap.size+1+1,x,none⟩=some (.int .u32 (u x:Int)):=(by rw[O7.cell x,us_get u x32]);have f7:=O7.free x;refine⟨⟨P7.cell 0,P7.cell 1⟩,?_⟩;simp only[sX,sY,sZ];replace zz:TwoP w7 P x y:=⟨P7.cell 0,P7.cell 1⟩;refine tj 10 24 (Yc (w.heap.size+1+1) x) zz ?_ (hy:=fun w hS=>by obtain⟨q0,q1⟩:=hS;simp[execOp,go_sem, *]);simp only[sX,sY,sZ];obtain⟨vv,hvv⟩:=Nq ((u x ||| 2 ^ y));rw[hvv]at HS⊢;refine storeY (i:=11) (w':=w7.setCell ⟨w.heap.size+1+1,x,none⟩ (.int .u32 (vv:Int))) rfl (by rfl) (by kernel_rfl) rfl ?hrun3 rfl ⟨(P7.other _ hPU).cell 0,(P7.other _ hPU).cell 1⟩ ?_
     case hrun3=>simp[execOp,go_sem,c7,f7]
     refine wpAnyH_done (by kernel_rfl) ?_ _;have HO8:=h_ (O7.set x (.int .u32 (vv:Int)));have HR8:=h_ (R7.other (a:=⟨w.heap.size+1+1,x,none⟩) (.int .u32 (vv:Int)) (by simp));have HB8:=h_ (B7.setCell (p:=⟨w.heap.size+1+1,x,none⟩) (by simp;omega) (.int .u32 (vv:Int)));clear P7 O7 R7 B7 c7 f7 zz;generalize w7.setCell ⟨w.heap.size+1+1,x,none⟩ (.int .u32 (vv:Int))=w8 at *;go_wp2;go_roundw
     case rel=>exact⟨k+1,_,by omega,by go_num,HS.u,by rw[<- us_set u _ x32];exact HO8.u,HR8.u,HB8.u⟩
     case measure=>simp[intOf];omega
    case pB =>
     rintro v w6 ⟨rfl,hb6⟩;have P6:=HP3.u.mono hb6 HP3.u.lt;have O6:=HO3.u.mono hb6 HO3.u.lt;have R6:=HR3.u.mono hb6 HR3.u.lt;have B6:=HB3.u.trans (hb6.mono HB3.u.size);have c6:w6.cell? ⟨w.heap.size+1+1,x,none⟩=some (.int .u32 (u x:Int)):=(by rw[O6.cell x,us_get u x32]);refine⟨⟨P6.cell 0,P6.cell 1⟩,?_⟩;simp only[sX,sY,sZ];refine wpAnyH_ready (rs:=[5]) (by kernel_rfl) (by simp) (consRun (v:=.agg #[.int .u32 (u x:Int)]) (w':=w6) 19 rfl rfl (by rfl) ?hrun0 ⟨P6.cell 0,P6.cell 1⟩ ?pC AllReadyH.nil)
     case hrun0=>simp[execOp,go_sem,c6]
     simp only[sX,sY,sZ];refine callY (i:=9) (f:=122) (args:=#[.agg #[.int .u32 (u x:Int)],.agg (#[.int .u32 ((2 ^ y:Nat):Int)])]) (R:=fun v wz=>v=.agg (#[.int .u32 ((u x ||| 2 ^ y:Nat):Int)])/\Below w6.heap.size w6 wz) 23 rfl rfl (by rfl) (by kernel_rfl) ?hrun2 (q6g (u x) (2 ^ y) w6 hgx y2) ?_
     case hrun2=>simp[execOp,go_sem]
     rintro v w7 ⟨rfl,hb7⟩;have P7:=P6.mono hb7 P6.lt;have O7:=O6.mono hb7 O6.lt;have R7:=R6.mono hb7 R6.lt;have B7:=B6.trans (hb7.mono B6.size);have c7:w7.cell? ⟨w.heap.size+1+1,x,none⟩=some (.int .u32 (u x:Int)):=(by rw[O7.cell x,us_get u x32]);have f7:=O7.free x;refine⟨⟨P7.cell 0,P7.cell 1⟩,?_⟩;simp only[sX,sY,sZ];replace zz:TwoP w7 P x y:=⟨P7.cell 0,P7.cell 1⟩;refine tj 10 24 (Yc (w.heap.size+1+1) x) zz ?_ (hy:=fun w hS=>by obtain⟨q0,q1⟩:=hS;simp[execOp,go_sem, *]);simp only[sX,sY,sZ];obtain⟨vv,hvv⟩:=Nq ((u x ||| 2 ^ y));rw[hvv]at HS⊢;refine storeY (i:=11) (w':=w7.setCell ⟨w.heap.size+1+1,x,none⟩ (.int .u32 (vv:Int))) rfl (by rfl) (by kernel_rfl) rfl ?hrun3 rfl ⟨(P7.other _ hPU).cell 0,(P7.other _ hPU).cell 1⟩ ?_
     case hrun3=>simp[execOp,go_sem,c7,f7]
     refine wpAnyH_done (by kernel_rfl) ?_ _;have HO8:=h_ (O7.set x (.int .u32 (vv:Int)));have HR8:=h_ (R7.other (a:=⟨w.heap.size+1+1,x,none⟩) (.int .u32 (vv:Int)) (by simp));have HB8:=h_ (B7.setCell (p:=⟨w.heap.size+1+1,x,none⟩) (by simp;omega) (.int .u32 (vv:Int)));clear P7 O7 R7 B7 c7 f7 zz;generalize w7.setCell ⟨w.heap.size+1+1,x,none⟩ (.int .u32 (vv:Int))=w8 at *;go_wp2;go_roundw
     case rel=>exact⟨k+1,_,by omega,by go_num,HS.u,by rw[<- us_set u _ x32];exact HO8.u,HR8.u,HB8.u⟩
     case measure=>simp[intOf];omega
  . obtain rfl:k=m:=by omega
    have HREL':=h_ hrel;clear hO hR hB hrel;go_wp2_with (first | (refine q0p rfl _ rfl (w.heap.size+1+1) u rfl HO.u ?_) | (refine q0i rfl _ _ rfl (w.heap.size+1) (fun _=>0) u rfl rfl HR.u ?_;intro w2 hb2 hg2 hs2;replace hb2:=h_ hb2;replace hg2:=h_ hg2));refine bodyPost_ret (results_cell_row rfl _ _ (w.heap.size+1) 126 (us u).toArray (0,0) _ rfl hb2.u Tryz.underlying126 rfl (qln u)) rfl ⟨u,rfl,HREL'.u,?_⟩;exact HB.u.trans ((bR w.heap.size _).grown hg2.u HB.u.size (fun k e=>by cases e;omega))
theorem q2y (N:Int)(a:Option Addr)(m c:Nat)(w:World)(hm:m<=9223372036854775807)(hno:¬ (1<=N/\N<=32/\m<=256)) :
 Calls Tryz.prog 80 #[.agg (Jm N a m c)] w fun e w'=>e=.returned (.bool false)/\Below w.heap.size w w':=by
 have hcase:N<1∨(1<=N/\32<N)∨(1<=N/\N<=32/\256<m):=by omega
 rcases hcase with h | ⟨h,h'⟩ | ⟨h,h',h''⟩
 all_goals
  go_enter Tryz.func80,Tryz.ntmps80;go_wp2;go_ret;exact⟨rfl,(bR _ _).alloc (nR _) _⟩
theorem qfp (w:World)(t:TypeId)(x y:Int):(w.alloc (.cells (Jp x y) t)).cell? ⟨w.heap.size,0,none⟩=some (J9 x)/\(w.alloc (.cells (Jp x y) t)).cell? ⟨w.heap.size,1,none⟩=some (J9 y):=by
 have B:=Blk.new w t (Jp x y)
 exact⟨B.cell 0,B.cell 1⟩
theorem q2x (N:Int)(a:Option Addr)(m c:Nat)(f g:Nat->Int)(w:World)(h1:1<=N)(h32:N<=32)(hm:m<=256)(ha:Pairs w a m f g)(V:Bool)(hV:V=true ↔ ∀k,k<m->0<=f k/\f k<N/\0<=g k/\g k<N) :
 Calls Tryz.prog 80 #[.agg (Jm N a m c)] w fun e w'=>e=.returned (.bool V)/\Below w.heap.size w w':=by
 have HV:=h_ hV;clear hV
 go_enter Tryz.func80,Tryz.ntmps80
 go_wp2
 have hb:Below w.heap.size w (w.alloc (.cells (Jm N a m c) 39)):=(bR _ _).alloc (nR _) _
 have HB:=h_ hb;clear hb
 have B0:=Blk.new w 39 (Jm N a m c)
 have PA:=ha.mono HB.u
 generalize (w.alloc (.cells (Jm N a m c) 39))=W at *
 go_loopw [22] (fun i wr=>∃k:Nat,k<=m/\i=J9 k/\(∀j,j<k->0<=f j/\f j<N/\0<=g j/\g j<N)/\Below W.heap.size W wr) (fun i _=>m - (intOf i).toNat)
 case atStart=>exact⟨0,nZ _,rfl,fun j h=>absurd h (nL _),bR _ _⟩
 case round =>
  obtain⟨k,hk,rfl,heq,hB⟩:=hrel;have HE:=h_ heq;clear heq;have P2:=PA.mono hB;have c0:=(B0.mono hB B0.lt).cell 0;simp only[Yh]at c0;have hs:w.heap.size<wr.heap.size:=Y5 B0.lt hB.size;have HC:=h_ hB;clear hB;by_cases hlt:k<m
  . obtain⟨b,off,rfl,hl,hc,hd⟩:=P2 k hlt
    have hF:¬ (0<=f k/\f k<N/\0<=g k/\g k<N)->V=false:=fun hn=>qhr HV.u fun hall=>hn (hall k hlt);have HF:=h_ hF;clear hF;have HZ:=h_ (HB.u.trans ((HC.u.trans (((bR _ _).alloc (nR _) (.cells (Jp (f k) (g k)) 64)).mono HC.u.size)).mono HB.u.size));have HY:=h_ (HC.u.trans (((bR _ _).alloc (nR _) (.cells (Jp (f k) (g k)) 64)).mono HC.u.size));obtain⟨p0,p1⟩:=qfp wr 64 (f k) (g k);have q0:=((B0.mono HY.u B0.lt).cell 0);simp only[Yh]at q0;by_cases x1:f k<0∨N<=f k
    . go_wp2_with fail
      refine(q7l (f k) N _ x1).mono ?_;rintro e w' ⟨rfl,rfl⟩;go_wp2;go_ret;exact⟨qg2 (HF.u (by omega)).symm,HZ.u⟩
    have y0:0<=f k:=(by omega);have y1:f k<N:=(by omega);by_cases x2:g k<0∨N<=g k
    . go_wp2_with fail
      refine(q55 (f k) N _ y0 y1).mono ?_;rintro e w' ⟨rfl,rfl⟩;go_wp2_with fail;refine(q7l (g k) N _ x2).mono ?_;rintro e w' ⟨rfl,rfl⟩;go_wp2;go_ret;exact⟨qg2 (HF.u (by omega)).symm,HZ.u⟩
    have z0:0<=g k:=(by omega);have z1:g k<N:=(by omega);go_wp2_with fail;refine(q55 (f k) N _ y0 y1).mono ?_;rintro e w' ⟨rfl,rfl⟩;go_wp2_with fail;refine(q55 (g k) N _ z0 z1).mono ?_;rintro e w' ⟨rfl,rfl⟩;go_wp2;go_roundw
    case rel=>exact⟨k+1,by omega,by go_num,fun j hj=>by
     by_cases e:j=k
     . subst e;omega
     . exact HE.u j (by omega),HY.u⟩
    case measure=>simp[intOf];omega
  . go_wp2
    go_ret;exact⟨qg2 (HV.u.2 fun j hj=>HE.u j (by omega)).symm,HB.u.trans (HC.u.mono HB.u.size)⟩
def sameN (g g':Nat->Nat):Bool:=(List.range 32).all fun i=>g i==g' i
theorem qce {g g':Nat->Nat}:sameN g g'=true ↔ ∀i,i<32->g i=g' i:=by simp[sameN]
def Bk (w:World)(g:Nat)(t:TypeId)(n:Nat):Prop:=∃cs,Blk w g t cs/\cs.length=n
theorem Bk.lt {w:World}{g:Nat}{t:TypeId}{n:Nat}(h:Bk w g t n):g<w.heap.size:=h.elim fun _ h=>h.1.lt
theorem Bk.mono {w w':World}{B g:Nat}{t:TypeId}{n:Nat}(h:Bk w g t n)(hb:Below B w w')(hg:g<B):Bk w' g t n:=h.elim fun cs h=>⟨cs,h.1.mono hb hg,h.2⟩
theorem Bk.other {w:World}{g:Nat}{t:TypeId}{n:Nat}(h:Bk w g t n){R:Nat}(hR:g≠R)(j:Nat)(v:Value):Bk (w.setCell ⟨R,j,none⟩ v) g t n:=h.elim fun cs h=>⟨cs,h.1.other v hR,h.2⟩
theorem Bk.set {w:World}{g:Nat}{t:TypeId}{n:Nat}(h:Bk w g t n)(j:Nat)(v:Value):Bk (w.setCell ⟨g,j,none⟩ v) g t n:=h.elim fun cs h=>⟨cs.set j v,h.1.set j v,by rw[Vd];exact h.2⟩
theorem Bk.cell {w:World}{g:Nat}{t:TypeId}{n:Nat}(h:Bk w g t n){j:Nat}(hj:j<n):∃v,w.cell? ⟨g,j,none⟩=some v:=h.elim fun cs h=>⟨_,(h.1.cell j).trans (Yi (by rw[h.2];exact hj))⟩
theorem Bk.free {w:World}{g:Nat}{t:TypeId}{n:Nat}(h:Bk w g t n)(j:Nat):w.frozen? ⟨g,j,none⟩=false:=h.elim fun _ h=>h.1.free j
structure MkL (lo hi:Nat)(W W':World):Prop where
 out:Out lo hi W W'
 bk:∀g t n,Bk W g t n->Bk W' g t n
theorem MkL.refl (lo hi:Nat)(W:World):MkL lo hi W W:=⟨Out.refl _ _ _,fun _ _ _ h=>h⟩
theorem MkL.trans {lo hi:Nat}{A B C:World}(h:MkL lo hi A B)(k:MkL lo hi B C):MkL lo hi A C:=⟨h.out.trans k.out,fun g t n hb=>k.bk g t n (h.bk g t n hb)⟩
theorem MkL.below {lo hi:Nat}{W W':World}(h:Below W.heap.size W W'):MkL lo hi W W':=⟨⟨h.os,h.tape,h.output,h.size,fun b hb _=>h.block b hb⟩,fun _ _ _ hb=>hb.mono h hb.lt⟩
theorem MkL.set {lo hi:Nat}{W:World}{g:Nat}(j:Nat)(v:Value)(h1:lo<=g)(h2:g<hi):MkL lo hi W (W.setCell ⟨g,j,none⟩ v) :=
 ⟨Out.set (a:=⟨g,j,none⟩) v h1 h2,fun g' t' n' hb=>by
  by_cases e:g'=g
  . subst e;exact hb.set j v
  . exact hb.other e j v⟩
theorem Bk.cell_ne {w:World}{g:Nat}{t:TypeId}{n:Nat}(h:Bk w g t n){p q:Nat}(hpq:p≠q)(v:Value):(w.setCell ⟨g,p,none⟩ v).cell? ⟨g,q,none⟩=w.cell? ⟨g,q,none⟩:=by
 obtain⟨cs,h1,-⟩:=h
 rw[(h1.set p v).cell q,h1.cell q,List.getElem?_set_ne hpq]
theorem q77 {o:Oper}{a:Act}{w:World}(t:TypeId)(parts:Array (Nat × Operand))(ho:o.op=.build t parts)(cells:Array Value)(hc:Tryz.prog.built t (parts.map fun (i,x)=>(i,a.eval x)).toList=some cells):(execOp a.eval o).run Tryz.prog w=.ok (.value (.agg cells)) w:=by
 unfold execOp
 simp only[ho,Sem.run_bind,run_build w t _ cells hc,Result.andThen_ok]
 rfl
theorem q1b {o:Oper}{a:Act}{w:World}(ty:TypeId)(x y:Operand)(ho:o.op=.store ty x y)(g:Nat)(cells:Array Value)(hx:a.eval x=Yc g 0)(hy:a.eval y=.agg cells)(t:TypeId)(old:Array Value)(hg:w.heap[g]? = some (.cells old t (0,0)))(hi:(Tryz.prog.info? ty).map (·.size)=some cells.size)(hold:old.size=cells.size)(h1:cells.all (·.oneCell')=true):(execOp a.eval o).run Tryz.prog w=.ok .skip (w.setRow g cells):=by
 unfold execOp
 simp only[ho,hx,hy,Instr.storeAt,Instr.sureAddr,Sem.run_bind,Sem.run_pure,Result.andThen_ok,run_storeVar_row w g t ty old cells hg hi hold h1]
section
variable {md:Region.Mode} {ops:Array Oper} {Q:Exit->Act->World->Prop} {S:World->Prop} {o:Oper} {l l':List Value} {lb lb':List Bool}
theorem takeL {i:Nat}{v:Value}{fuel:Nat}{w:World}(d:Tmp)(hi:ops[i]? = some o)(hd:o.dst=some d)(hs:Region.noSelect ops=true)(hf:Region.free md ops lb.toArray i=true)(hr:(Region.ready md ops lb.toArray).contains i=true)
 (hQ:∀c (b:Act) (t:Array Value) w,Q (.panic c) { tmps:=t,defers:=b.defers } w->Q (.panic c) b w) (hw:Region.wanted o (yielded ops l.toArray)=true) (hy:∀w,S w->(execOp (Act.eval { tmps:=l.toArray,defers:=[] }) o).run Tryz.prog w=.ok (.value v) w) (hS:S w) (hl:l.set d v=l') (hb:lb.set i true=lb') (h:wpAnyH Tryz.prog md ops Q S fuel lb'.toArray { tmps:=l'.toArray,defers:=[] } w):wpAnyH Tryz.prog md ops Q S (fuel+1) lb.toArray { tmps:=l.toArray,defers:=[] } w :=
 takeY (a:={ tmps:=l.toArray,defers:=[] }) d hi hd hs hf hr hQ hw hy hS (by
  rw[Vp,Vp,hl,hb];exact h)
theorem outL {d i:Nat}{v:Value}{fuel:Nat}{w:World}(hl:l.set d v=l')(hb:lb.set i true=lb')(h:wpAnyH Tryz.prog md ops Q S fuel lb'.toArray { tmps:=l'.toArray,defers:=[] } w):wpAnyH Tryz.prog md ops Q S fuel (lb.toArray.setIfInBounds i true) { tmps:=l.toArray.setIfInBounds d v,defers:=[] } w:=by
 rw[Vp,Vp,hl,hb]
 exact h
theorem outB {i:Nat}{a:Act}{fuel:Nat}{w:World}(hb:lb.set i true=lb')(h:wpAnyH Tryz.prog md ops Q S fuel lb'.toArray a w):wpAnyH Tryz.prog md ops Q S fuel (lb.toArray.setIfInBounds i true) a w:=by
 rw[Vp,hb]
 exact h
end
end Go.Proofs.YtebbgodlijlioaaGreatDoor
