import Derived.Test.YtfmammdgehbjhaaGreatDoorW17
set_option maxRecDepth 100000
set_option maxHeartbeats 64000000
namespace Go.Proofs.YtfmammdgehbjhaaGreatDoor
open List
variable {T N:Type} {X:Lx T N} {M d l:Nat} {ts r r':List T} {t:T} {e acc eb:List N} {x:Option (List N × List T)}
def Evx (X:Lx T N)(M:Nat)(md:Mdx N)(d:Nat)(ts:List T)(x:Option (List N × List T)):Prop:=∃F,∀f,F<=f->prd X M f md d ts=x
theorem Evx.of1 {md:Mdx N}(h:∀f,prd X M (f+1) md d ts=x):Evx X M md d ts x:=⟨1,fun f hf=>by
 obtain⟨f,rfl⟩:∃g,f=g+1:=⟨f - 1,by omega⟩
 exact h f⟩
theorem Evx.of2 {md md1:Mdx N}{d1:Nat}{ts1:List T}{x1:Option (List N × List T)}(h1:Evx X M md1 d1 ts1 x1)(h:∀f,prd X M f md1 d1 ts1=x1->prd X M (f+1) md d ts=x):Evx X M md d ts x:=by
 obtain⟨F,h1⟩:=h1
 refine⟨F+1,fun f hf=>?_⟩
 obtain⟨f,rfl⟩:∃g,f=g+1:=⟨f - 1,by omega⟩
 exact h f (h1 f (by omega))
theorem Evx.of3 {md md1 md2:Mdx N}{d1 d2:Nat}{ts1 ts2:List T}{x1 x2:Option (List N × List T)}(h1:Evx X M md1 d1 ts1 x1)(h2:Evx X M md2 d2 ts2 x2)(h:∀f,prd X M f md1 d1 ts1=x1->prd X M f md2 d2 ts2=x2->prd X M (f+1) md d ts=x):Evx X M md d ts x:=by
 obtain⟨F,h1⟩:=h1
 obtain⟨G,h2⟩:=h2
 refine⟨max F G+1,fun f hf=>?_⟩
 obtain⟨f,rfl⟩:∃g,f=g+1:=⟨f - 1,by omega⟩
 exact h f (h1 f (by omega)) (h2 f (by omega))
theorem Evx.same {md:Mdx N}{y:Option (List N × List T)}(h:Evx X M md d ts x)(h':Evx X M md d ts y):x=y:=by
 obtain⟨F,h⟩:=h
 obtain⟨G,h'⟩:=h'
 exact(h (max F G) (by omega)).symm.trans (h' (max F G) (by omega))
theorem q6l (hl:l≠6)(h:Evx X M (.op (l+1)) d ts none):Evx X M (.op l) d ts none:=h.of2 fun f h=>by simp only[prd,if_neg hl,h]
theorem ev_op (hl:l≠6)(h:Evx X M (.op (l+1)) d ts (some (e,r)))(h2:Evx X M (.lp l e) d r x):Evx X M (.op l) d ts x:=h.of3 h2 fun f h h2=>by simp only[prd,if_neg hl,h,h2]
theorem q91 (h:Evx X M .atm d (ts.drop (usg X ts).length) none):Evx X M (.op 6) d ts none:=h.of2 fun f h=>by simp only[prd,if_true,h]
theorem ev_6 (h:Evx X M .atm d (ts.drop (usg X ts).length) (some (e,r))):Evx X M (.op 6) d ts (some (e++(usg X ts).reverse.map (fun t=>X.o (X.u t)),r)):=h.of2 fun f h=>by simp only[prd,if_true,h]
theorem q96:Evx X M (.lp l acc) d [] (some (acc,[])):=Evx.of1 fun f=>by simp only[prd]
theorem q6k (h:¬ (X.b t≠0/\X.lv (X.b t)=l)):Evx X M (.lp l acc) d (t :: r) (some (acc,t :: r)):=Evx.of1 fun f=>by simp only[prd,if_neg h]
theorem q6j (h1:X.b t≠0)(h2:X.lv (X.b t)=l)(h:Evx X M (.op (l+1)) d r none):Evx X M (.lp l acc) d (t :: r) none:=h.of2 fun f h=>by simp only[prd,if_pos (show X.b t≠0/\X.lv (X.b t)=l from ⟨h1,h2⟩),h]
theorem q95 (h1:X.b t≠0)(h2:X.lv (X.b t)=3)(h:Evx X M (.op 4) d r (some (eb,r'))):Evx X M (.lp 3 acc) d (t :: r) (some (acc++eb++[X.o (X.b t)],r')):=h.of2 fun f h=>by simp only[prd,if_pos (show X.b t≠0/\X.lv (X.b t)=3 from ⟨h1,h2⟩),h,if_true]
theorem qc3 (h1:X.b t≠0)(h2:X.lv (X.b t)=l)(h3:l≠3)(h:Evx X M (.op (l+1)) d r (some (eb,r')))(h4:Evx X M (.lp l (acc++eb++[X.o (X.b t)])) d r' x):Evx X M (.lp l acc) d (t :: r) x:=h.of3 h4 fun f h h4=>by simp only[prd,if_pos (show X.b t≠0/\X.lv (X.b t)=l from ⟨h1,h2⟩),h,if_neg h3,h4]
theorem q93:Evx X M .atm d [] none:=Evx.of1 fun f=>by simp only[prd]
theorem q4i (h:X.L t=true)(hd:¬ d+1<=M):Evx X M .atm d (t :: r) none:=Evx.of1 fun f=>by simp only[prd,h,if_true,if_neg hd]
theorem q4j (h:X.L t=true)(hd:d+1<=M)(h1:Evx X M (.op 1) (d+1) r none):Evx X M .atm d (t :: r) none:=h1.of2 fun f h1=>by simp only[prd,h,if_true,if_pos hd,h1]
theorem q6m (h:X.L t=true)(hd:d+1<=M)(h1:Evx X M (.op 1) (d+1) r (some (e,[]))):Evx X M .atm d (t :: r) none:=h1.of2 fun f h1=>by simp only[prd,h,if_true,if_pos hd,h1]
theorem ev_par (h:X.L t=true)(hd:d+1<=M){c:T}(h1:Evx X M (.op 1) (d+1) r (some (e,c :: r'))):Evx X M .atm d (t :: r) (if X.R c=true then some (e,r') else none):=h1.of2 fun f h1=>by simp only[prd,h,if_true,if_pos hd,h1]
theorem ev_no (h:X.L t=false)(h1:X.k t=none):Evx X M .atm d (t :: r) none:=Evx.of1 fun f=>by simp only[prd,h,Bool.false_eq_true,if_false,h1]
theorem ev_one {n:N}(h:X.L t=false)(h1:X.k t=some n)(h2:X.g t=false∨∀y s,r=y :: s->X.L y=false):Evx X M .atm d (t :: r) (some ([n],r)):=Evx.of1 fun f=>by
 simp only[prd,h,Bool.false_eq_true,if_false,h1]
 split
 . rename_i y s hg
   rcases h2 with h2 | h2
   . rw[hg]at h2;cases h2
   . rw[h2 y s rfl];simp
 . rfl
section
variable {y:T} {n:N} {r1 r2:List T} {e1:List N}
theorem qg9 (h:X.L t=false)(h1:X.k t=some n)(hg:X.g t=true)(hy:X.L y=true)(hf:X.f t=0):Evx X M .atm d (t :: y :: r1) none:=Evx.of1 fun f=>by simp only[prd,h,Bool.false_eq_true,if_false,h1,hg,hy,if_true,if_pos hf]
theorem q6h (h:X.L t=false)(h1:X.k t=some n)(hg:X.g t=true)(hy:X.L y=true)(hf:X.f t≠0)(hd:¬ d+1<=M):Evx X M .atm d (t :: y :: r1) none:=Evx.of1 fun f=>by simp only[prd,h,Bool.false_eq_true,if_false,h1,hg,hy,if_true,if_neg hf,if_neg hd]
theorem q6i (h:X.L t=false)(h1:X.k t=some n)(hg:X.g t=true)(hy:X.L y=true)(hf:X.f t≠0)(hd:d+1<=M)(h2:Evx X M (.op 1) (d+1) r1 none):Evx X M .atm d (t :: y :: r1) none:=h2.of2 fun f h2=>by simp only[prd,h,Bool.false_eq_true,if_false,h1,hg,hy,if_true,if_neg hf,if_pos hd,h2]
theorem q6g (h:X.L t=false)(h1:X.k t=some n)(hg:X.g t=true)(hy:X.L y=true)(hf:X.f t≠0)(hd:d+1<=M)(h2:Evx X M (.op 1) (d+1) r1 (some (e1,r2)))(h3:Evx X M (.ar (X.ar (X.f t) - 1) e1) (d+1) r2 none):Evx X M .atm d (t :: y :: r1) none:=h2.of3 h3 fun f h2 h3=>by simp only[prd,h,Bool.false_eq_true,if_false,h1,hg,hy,if_true,if_neg hf,if_pos hd,h2,h3]
theorem q94 (h:X.L t=false)(h1:X.k t=some n)(hg:X.g t=true)(hy:X.L y=true)(hf:X.f t≠0)(hd:d+1<=M)(h2:Evx X M (.op 1) (d+1) r1 (some (e1,r2)))(h3:Evx X M (.ar (X.ar (X.f t) - 1) e1) (d+1) r2 (some (e,[]))):Evx X M .atm d (t :: y :: r1) none:=h2.of3 h3 fun f h2 h3=>by simp only[prd,h,Bool.false_eq_true,if_false,h1,hg,hy,if_true,if_neg hf,if_pos hd,h2,h3]
theorem ev_fn (h:X.L t=false)(h1:X.k t=some n)(hg:X.g t=true)(hy:X.L y=true)(hf:X.f t≠0)(hd:d+1<=M){c:T}(h2:Evx X M (.op 1) (d+1) r1 (some (e1,r2)))(h3:Evx X M (.ar (X.ar (X.f t) - 1) e1) (d+1) r2 (some (e,c :: r'))):Evx X M .atm d (t :: y :: r1) (if X.R c=true then some (e++[X.o (X.f t)],r') else none):=h2.of3 h3 fun f h2 h3=>by simp only[prd,h,Bool.false_eq_true,if_false,h1,hg,hy,if_true,if_neg hf,if_pos hd,h2,h3]
end
theorem q6f:Evx X M (.ar 0 acc) d ts (some (acc,ts)):=Evx.of1 fun f=>by simp only[prd]
theorem q92 {n:Nat}:Evx X M (.ar (n+1) acc) d [] none:=Evx.of1 fun f=>by simp only[prd]
theorem qc2 {n:Nat}(h:X.C t=false):Evx X M (.ar (n+1) acc) d (t :: r) none:=Evx.of1 fun f=>by simp only[prd,h,Bool.false_eq_true,if_false]
theorem q6e {n:Nat}(h:X.C t=true)(h1:Evx X M (.op 1) d r none):Evx X M (.ar (n+1) acc) d (t :: r) none:=h1.of2 fun f h1=>by simp only[prd,h,if_true,h1]
theorem ev_ar {n:Nat}(h:X.C t=true)(h1:Evx X M (.op 1) d r (some (e,r')))(h2:Evx X M (.ar n (acc++e)) d r' x):Evx X M (.ar (n+1) acc) d (t :: r) x:=h1.of3 h2 fun f h1 h2=>by simp only[prd,h,if_true,h1,h2]
end Go.Proofs.YtfmammdgehbjhaaGreatDoor
namespace Go.Proofs.YtfmammdgehbjhaaGreatDoor
open Go Go.RowKit Go.Shelf
attribute [local go_sem] Oper.semAt_some
def RdO (w0:World)(a:Option Addr)(c:Nat)(l:List ByteArray)(md:Mdx Nx)(w:World)(i d:Nat)(v:Value)(ns:List Nx)(e:Ending)(w':World):Prop :=
 (Evx tkX 64 md d (l.drop i) none/\e=flt 3/\Below w0.heap.size w0 w') ∨
 ∃en i' v',Evx tkX 64 md d (l.drop i) (some (en,l.drop i'))/\e=.returned (.tuple #[])/\i<=i'/\i'<=l.length/\i+en.length<=i'/\Rdr w0 a c l w' i' d v' (ns++en)/\AddK w0.heap.size w w' v v'
theorem qia {l:List ByteArray}{i:Nat}(h:i<l.length):l.drop i=pk l i :: l.drop (i+1):=by rw[pk_lt h];exact qc0 h
theorem u_nil:tkX.u ⟨#[]⟩=0:=by decide
theorem b_nil:tkX.b ⟨#[]⟩=0:=by decide
theorem usg_of {l:List ByteArray}{i k:Nat}(hik:i<=k)(hk:k<=l.length)(h:∀j,i<=j->j<k->tkX.u (pk l j)≠0)(h0:tkX.u (pk l k)=0):usg tkX (l.drop i)=(l.take k).drop i:=by
 obtain⟨n,rfl⟩:∃n,k=i+n:=⟨k - i,by omega⟩
 clear hik
 induction n generalizing i with
 | zero =>
  rw[Zq]at h0 hk⊢;rw[Yx (l:=l.take i) (by rw[Yu];omega)];by_cases hi:i<l.length
  . rw[qia hi,qjn,Yn h0]
  . rw[Yx (by omega)];rfl
 | succ n ih =>
  have hi:i<l.length:=by omega
  rw[qia hi,qjn,Yi (h i (nR _) (by omega)),ih (i:=i+1) (by omega) (fun j h1 h2=>h j (by omega) (by omega)) (by rw[show i+1+n=i+(n+1) by omega];exact h0)];rw[show i+1+n=i+(n+1) by omega,pk_lt hi];rw[Y8 (l:=l.take (i+(n+1))) (i:=i) (by rw[Yu];omega),Ve]
theorem Strs.cut {w:World}{a:Option Addr}{l:List ByteArray}(h:Strs w a l){lo hi cap:Nat}(hh:hi<=l.length)(hc:l.length<=cap):Strs w (cutA a lo cap 1) ((l.take hi).drop lo):=fun k hk=>by
 rw[qg1 hh]at hk
 obtain⟨b,o,rfl,hb,ht⟩:=h (lo+k) (by omega)
 refine⟨b,o+lo,?_,hb,?_⟩
 . unfold cutA
   rw[Yi (by omega)];simp[Addr.add]
 . rw[Vf,Ve,show o+lo+k=o+(lo+k) by omega]
   exact ht
theorem sz_str:(sizeOf (Tryz.prog.elem 22)).run Tryz.prog=fun w=>.ok 1 w:=by
 funext w
 have he:Tryz.prog.elem 22=9:=by kernel_rfl
 obtain⟨i0,hi,hz0,hz1,hz2⟩:=info_parts qcl
 rw[he]
 simp[sizeOf,typeInfo,hi,hz1]
theorem qg0 (a:Option Addr)(len cap lo hi:Nat)(h:lo<=hi)(h2:hi<=cap)(wx:World):(Instr.slice 22 (.slice a len cap) (some (Ya (lo:Nat))) (some (Ya (hi:Nat))) none).run Tryz.prog wx=.ok (.slice (cutA a lo cap 1) (hi - lo) (cap - lo)) wx:=by
 rw[run_slice_lh wx 22 _ _ _ Tryz.underlying22 .i64 .i64 _ _ (by omega) (by omega) (by omega),sz_str]
 simp[sliced,cutA]
theorem Rdr.keepC {w0:World}{a:Option Addr}{c:Nat}{l:List ByteArray}{w w':World}{i d lo:Nat}{v:Value}{ns:List Nx}(h:Rdr w0 a c l w i d v ns)(hk:KeepC lo w w')(hl:w0.heap.size<=lo):Rdr w0 a c l w' i d v ns:=by
 refine⟨hk.2 _ _ _ _ h.blk,⟨h.own.1,?_⟩,h.bel.trans (hk.1.mono hl)⟩
 rcases h.own.2 with h2 | ⟨g,cap,cur,h1,hb,hg,r⟩
 . exact .inl h2
 . exact .inr ⟨g,cap,cur,h1,hb,hk.2 _ _ _ _ hg,r⟩
theorem AddK.blk {R:Nat}{w w':World}{v v':Value}(h:AddK R w w' v v'){g:Nat}{t:TypeId}{cs:List Value}(hb:Blk w g t cs)(hR:g≠R)(hv:v.ownBlock≠some g):Blk w' g t cs:=(h.same g hb.lt hR hv).trans hb
theorem AddK.others {R:Nat}{w w':World}{v v':Value}(h:AddK R w w' v v'){t:TypeId}{cs:List Value}(hb:Blk w R t cs){base:Nat}{ns:List Nx}(ho:OwnN w base v ns):KeepsOthers w w':=⟨h.size,fun k o hk hc=>by
 have hlt:=(Zc.1 hk).1
 refine(h.same k hlt (fun e=>?_) (fun e=>?_)).trans hk
 . subst e
   have h2:w.heap[k]? = some (.cells cs.toArray t):=hb;rw[h2]at hk;cases hk;simp[Obj.isCells]at hc
 . rcases ho.2 with ⟨h1,-⟩ | ⟨g,cap,cur,h1,-,hg,-⟩
   . rw[h1]at e;simp[Value.ownBlock]at e
   . rw[h1]at e
     simp only[Value.ownBlock,Zr]at e;subst e;rw[hg]at hk;cases hk;simp[Obj.isCells]at hc⟩
theorem own_ty {w:World}{base g:Nat}{v:Value}{l:List Nx}{t:TypeId}{cs:List Value}(h:OwnN w base v l)(hb:Blk w g t cs)(ht:t≠133):v.ownBlock≠some g:=fun e=>by
 rcases h.2 with ⟨h1,-⟩ | ⟨q,cap,cur,h1,-,hg,-⟩
 . rw[h1]at e;simp[Value.ownBlock]at e
 . rw[h1]at e
   simp only[Value.ownBlock,Zr]at e;subst e;have h2:w.heap[q]? = some (.cells cs.toArray t):=hb;rw[hg]at h2;cases h2;exact ht rfl
theorem AddK.keepC {R lo:Nat}{w w1 w2:World}{v v':Value}(h:AddK R w w1 v v')(hk:KeepC lo w1 w2)(hl:w.heap.size<=lo):AddK R w w2 v v':=⟨Yt h.size hk.1.size,fun b hb hR hv=>(hk.1.block b (Y3 hb hl)).trans (h.same b hb hR hv),h.own⟩
theorem qbf (ss:List ByteArray):((List.range ss.length).reverse.map fun x=>opNd (tkX.u (pk ss x)))=ss.reverse.map fun t=>opNd (tkX.u t):=by
 rw[List.map_reverse,List.map_reverse]
 congr 1
 refine List.ext_getElem (by simp) fun j h1 h2=>?_
 simp only[List.getElem_map,List.getElem_range]
 rw[pk_lt (by simpa using h2)]
def atOf (w:World)(R:Nat):Nat:=match w.cell? ⟨R,1,none⟩ with
 | some (.int _ k)=>k.toNat
 | _=>0
theorem Rdr.at' {w0:World}{a:Option Addr}{c:Nat}{l:List ByteArray}{w:World}{i d:Nat}{v:Value}{ns:List Nx}(h:Rdr w0 a c l w i d v ns):atOf w w0.heap.size=i:=by
 unfold atOf
 rw[(quart h.blk).2.1]
 simp
theorem qal (n:Nat){w0:World}{a:Option Addr}{c:Nat}{l:List ByteArray}{w:World}{i d:Nat}{v:Value}{ns:List Nx}(hc:RC w0 a l)(hcl:l.length<=c)(hi:i<=l.length)(hn:ns.length<=i)(h:Rdr w0 a c l w i d v ns)
 (hA:∀(k:Nat) (w:World),i<=k->k<=l.length->Rdr w0 a c l w k d v ns->Calls Tryz.prog 211 #[Yd w0.heap.size 0] w (RdO w0 a c l .atm w k d v ns)) :
 CallsIn Fence.wide n Tryz.prog 196 #[Yd w0.heap.size 0] w (RdO w0 a c l (.op 6) w i d v ns):=by
 have hl:=hc.len
 have HCc:=h_ hc;have HAt:=h_ hA
 have HV0:Hi (v.ownBlock≠some w.heap.size):=h_ fun e=>by have:=own_in h.own e;omega
 obtain⟨R,hR⟩:=Nq w0.heap.size
 have HR:=h_ hR
 have hRw:R<w.heap.size:=by rw[<- hR];exact h.blk.lt
 have HK:=h_ (Blk.new w 138 #[Yd R 0])
 have HB:=h_ ((bR w.heap.size w).alloc (nR _) (.cells #[Yd R 0] 138))
 obtain⟨W0,hW0⟩:=Nq (w.alloc (.cells #[Yd R 0] 138))
 rw[hW0]at HK HB
 have H:=h_ (h.mono HB.u)
 obtain⟨y0,y1,y2,y3⟩:=quart H.u.blk
 rw[hR]at y0 y1 y2 y3
 have z0:=HK.u.cell 0
 simp only[Yp]at z0
 rw[hR]
 clear h hc hA hR
 refine callsIn_of_wp_marks Tryz.func196 rfl trivial ?_ rfl
 simp only[Tryz.ntmps196,Zz,Yl,Yw,Nat.reduceAdd,Nat.reduceSub,Array.replicate_succ,Array.replicate_zero,List.push_toArray,List.append_toArray,Vo,Vj]
 gi_wp2_with fail
 try rw[hW0]
 clear hW0 y0 y1 y2 y3 z0
 gi_loopw [] (fun wr=>∃k:Nat,i<=k/\k<=l.length/\(∀j,i<=j->j<k->tkX.u (pk l j)≠0)/\Rdr w0 a c l wr k d v ns/\Blk wr w.heap.size 138 [Yd R 0]/\AddK R w wr v v) (fun wr=>l.length - atOf wr R)
 case atStart=>exact⟨i,nR _,hi,fun j h1 h2=>by omega,H.u,HK.u,AddK.of_below v HB.u⟩
 case round =>
  clear HB HK H;obtain⟨k,hik,hkl,hu,hr,hk,hak⟩:=hrel;have HU:=h_ hu;have H:=h_ hr;have HK:=h_ hk;have HA:=h_ hak;have HM:Hi (atOf wr R=k):=h_ (by rw[<- HR.u];exact hr.at');have z0:=hk.cell 0;simp only[Yp]at z0;have HP:=h_ (qdm HCc.u hr);have HT:=h_ (fun w h=>qel (c:=c) (w:=w) (v:=v) (ns:=ns) (d:=d) (show k<=2000000 by omega) HCc.u h);rw[HR.u]at HP HT;clear hu hr hk hak;gi_wp2_with fail;refine callW (HP.u.mono ?_);rintro e W1 ⟨rfl,hb⟩;replace H:=h_ (H.u.mono hb);replace HK:=mB HK hb;replace HA:=h_ (HA.u.trans (AddK.of_below v hb));have HS:=h_ (q15 (pk l k) W1 (HCc.u.wr.mono H.u.bel));clear hb z0 HP;gi_wp2_with fail;refine callW (HS.u.mono ?_);rintro e W2 ⟨rfl,rfl⟩;have z0:=HK.u.cell 0;simp only[Yp]at z0;clear HS;by_cases hq:tkX.u (pk l k)=0
  case neg =>
   have hq':((tkX.u (pk l k):Int) != 0)=true:=by simp;omega
   have hlt:k<l.length:=Yv fun hc=>by rw[pk_ge hc,u_nil]at hq;exact hq rfl
   have HU2:Hi (∀j,i<=j->j<k+1->tkX.u (pk l j)≠0):=h_ fun j h1 h2=>by
    by_cases e:j=k
    . subst e;exact hq
    . exact HU.u j h1 (by omega)
   clear hq;gi_wp2_with fail;have hgR:w.heap.size≠R:=by omega
   have HOw:Hi (v.ownBlock≠some w.heap.size):=HV0;refine callW ((HT.u _ H.u).mono ?_);rintro e W3 ⟨rfl,hr,hak⟩;have H3:=h_ hr;have HK3:=h_ (hak.blk HK.u hgR HOw.u);have HA3:=h_ (HA.u.trans hak);have HM3:Hi (atOf W3 R=k+1):=h_ (by rw[<- HR.u];exact hr.at');clear hr hak z0;gi_wp2_with fail;exact⟨⟨k+1,by omega,by omega,HU2.u,H3.u,HK3.u,HA3.u⟩,by rw[HM3.u,HM.u];omega⟩
  rw[hq];have HQ0:=h_ hq;clear hq;have HSg:=h_ (usg_of hik hkl HU.u HQ0.u);obtain⟨ss,hss⟩:=Nq ((l.take k).drop i);have hsl:ss.length=k - i:=by rw[<- hss,qg1 hkl]
  have hsb:ss.length<=1048576:=by omega
  rw[hss]at HSg;have HSS:Hi (∀W,Below w0.heap.size w0 W->Strs W (cutA a i c 1) ss):=h_ fun W hb=>by rw[<- hss];exact(HCc.u.st.mono hb).cut hkl hcl
  have hcut:=qg0 a l.length c i k hik (by omega);rw[<- hsl]at hcut;have HSl:=h_ hsl;clear hss hsl;obtain⟨y0,y1,y2,y3⟩:=quart H.u.blk;rw[HR.u]at y0 y1 y2 y3;have HAk:=h_ (fun w h=>HAt.u k w hik hkl h);rw[HR.u]at HAk;have HMix:Tryz.prog.follows .mixedOrders=true:=by kernel_rfl
  have HMx:=h_ HMix;clear HMix;gi_wp2_with fail
  gi_region
  gi_wp2_with fail;obtain⟨V,hV⟩:=Nq W2.drew;have hbV:Below W2.heap.size W2 V:=by rw[<- hV];exact(bR _ _).drew
  rw[hV];clear hV;replace H:=h_ (H.u.mono hbV);replace HK:=mB HK hbV;replace HA:=h_ (HA.u.trans (AddK.of_below v hbV));clear hbV y0 y1 y2 y3 z0 HT HM HU;refine callW ((HAk.u V H.u).mono ?_);rintro e W3 (⟨hev,rfl,hb⟩ | ⟨en,i',v',hev,rfl,h1,h2,h3,hr,hak⟩)
  case inl =>
   have HX:Hi (Evx tkX 64 (.op 6) d (l.drop i) none):=h_ (q91 (by rw[HSg.u,HSl.u,Vv,show i+(k - i)=k by omega];exact hev));show RdO w0 a c l (.op 6) w i d v ns (flt 3) W3;exact .inl ⟨HX.u,rfl,hb⟩
  rw[HR.u]at hak;have hgR:w.heap.size≠R:=by omega
  have H3:=h_ hr;have HK3:=h_ (hak.blk HK.u hgR HV0.u);have HA3:=h_ (HA.u.trans hak);have HX:Hi (Evx tkX 64 (.op 6) d (l.drop i) (some (en++ss.reverse.map (fun t=>opNd (tkX.u t)),l.drop i'))):=h_ (by
   have:=ev_6 (X:=tkX) (M:=64) (d:=d) (ts:=l.drop i) (e:=en) (r:=l.drop i') (by rw[HSg.u,HSl.u,Vv,show i+(k - i)=k by omega];exact hev);rw[HSg.u]at this;exact this)
  have HBk:=h_ (Backward_any (cutA a i c 1) ss.length (c - i) W3);have hW3g:w.heap.size<W3.heap.size:=HK3.u.lt;have z0:=HK3.u.cell 0;simp only[Yp]at z0;clear hr hak hev H HK HA HAk HAt;gi_wp2_with fail;refine callW (HBk.u.mono ?_);rintro e W4 ⟨rfl,hW4⟩;have hbW:Below W3.heap.size W3 W4:=by rw[hW4];exact(bR _ _).alloc (nR _) _
  have hB4:Blk W4 W3.heap.size 22 [.slice (cutA a i c 1) ss.length (c - i)]:=by rw[hW4];exact Blk.new W3 22 #[.slice (cutA a i c 1) ss.length (c - i)]
  have hs4:W4.heap.size=W3.heap.size+1:=by rw[hW4];simp
  have HB4:=h_ hB4;have HS4:=h_ hs4;replace H3:=h_ (H3.u.mono hbW);replace HK3:=mB HK3 hbW;replace HA3:=h_ (HA3.u.trans (AddK.of_below v' hbW));have hs4':W4.heap.size<=W3.heap.size+1:=by omega
  have hs4'':W3.heap.size<W4.heap.size:=by omega
  have hg3:w.heap.size<=W4.heap.size:=HA3.u.size;clear hW4 hbW hB4 hs4 HBk z0;gi_wp2_with fail;refine q7v (gf:=228) (lb:=#[Yd W3.heap.size 0]) (enc:=bkE ss) rfl (enters_of Tryz.func228 (by kernel_rfl) rfl)
   (q62 (cutA a i c 1) (c - i) W3.heap.size ss hsb) (fun x=>rfl)
   (fun pre W=>∃v2,Rdr w0 a c l W i' d v2 (ns++(en++pre.map (fun x=>opNd (tkX.u (pk ss x)))))/\Blk W w.heap.size 138 [Yd R 0]/\Blk W W3.heap.size 22 [.slice (cutA a i c 1) ss.length (c - i)]/\AddK R w W v v2)
   ?hC ?hI ?h0
   (fun x=>{ tmps:=#[Yd R 0,Yd w.heap.size 0,Ya (i:Nat),.slice (cutA a i c 1) ss.length (c - i),undef,.string (pk ss x),Yd R 0,Yd R 0,Yd R 1,Ya (i:Nat),Yd R 0,.string (pk l k),Ya 0,.bool false,u14,u15,Yd R 0,Yd R 0,Yd R 0,.slice a l.length c,Ya (i:Nat),Yd R 0,Yd R 0,Yd R 1,Ya (k:Nat),.slice (cutA a i c 1) ss.length (c - i),Yd R 0,.tuple #[],.slice (cutA a i c 1) ss.length (c - i),.func (.func 228) #[] #[Yd W3.heap.size 0],Ya (x:Nat),.string (pk ss x),undef,undef,undef,undef,undef],defers:=[] })
   ?assign ?body ?done
  case hC =>
   rintro pre W ⟨v2,h1,h2,h3,h4⟩;exact⟨h3,HSS.u W h1.bel⟩
  case hI =>
   rintro pre W W' ⟨v2,h1,h2,h3,h4⟩ hk;exact⟨v2,h1.keepC hk (by have:=HR.u;omega),hk.2 _ _ _ _ h2,hk.2 _ _ _ _ h3,h4.keepC hk hg3⟩
  case h0 =>
   intro W hb;exact⟨v',by simpa using H3.u.mono hb,HK3.u.mono hb HK3.u.lt,HB4.u.mono hb HB4.u.lt,HA3.u.trans (AddK.of_below v' hb)⟩
  case assign =>
   intro m' l x W K hK;unfold bkE
   gi_wp2
   first | exact hK | simpa using hK
  case body =>
   rintro m' l' pre x W ⟨v2,h1,h2,h3,h4⟩ hT;have hbW:=(bR W.heap.size W).drew;have hlen:(ns++(en++pre.map (fun x=>opNd (tkX.u (pk ss x))))).length<=1048576:=by
    have:=HSl.u;simp only[Yf,Zf];omega
   have HAd:=h_ (qf9 (opNd (tkX.u (pk ss x))) hlen (h1.mono hbW));rw[HR.u]at HAd;have HSw:=h_ (q15 (pk ss x) W.drew (HCc.u.wr.mono (h1.mono hbW).bel));have HR1:=h_ h1;have HR2:=h_ h2;have HR3:=h_ h3;have HR4:=h_ h4;have HD2:=h_ (h2.mono hbW h2.lt);clear h1 h2 h3 h4 hT hlen hbW;obtain⟨t,ht⟩:=Nq (pk ss x);have HTx:=h_ ht;rw[ht]at HAd HSw⊢;clear ht;gi_wp2_with fail;refine q3t (S:=fun w'=>Blk w' w.heap.size 138 [Yd R 0]) (by rintro⟨a,w,h⟩;exact h) HMx.u (by kernel_rfl) HD2.u (fun zz=>?_);refine tj 0 32 (Yd R 0) zz ?_ (hy:=fun w hS=>by have q0:=hS.cell 0;simp only[Yp]at q0;simp[execOp,go_sem,q0]);refine tj 1 33 (.string t) zz ?_;simp only[sX,sY,sZ];refine callY (i:=2) (f:=210) (args:=#[.string t]) (R:=fun r wz=>r=Ya (tkX.u t:Nat)/\wz=W.drew) 34 rfl rfl (by rfl) (by kernel_rfl) (by simp[execOp,go_sem]) (HSw.u.mono fun e w6 ⟨he,hb⟩=>⟨_,he,rfl,hb⟩) ?_;rintro vs W5 ⟨rfl,rfl⟩;refine⟨zz,?_⟩;simp only[sX,sY,sZ];refine tj 3 35 (.agg #[Ya (tkX.u t:Nat),Ya 0,Ya 0,Yc,Yc]) zz ?_;simp only[sX,sY,sZ];refine callY (i:=4) (f:=198) (args:=#[Yd R 0,.agg #[Ya (tkX.u t:Nat),Ya 0,Ya 0,Yc,Yc]]) (R:=fun r wz=>∃v3,Rdr w0 a c l wz i' d v3 (ns++(en++pre.map (fun x=>opNd (tkX.u (pk ss x))))++[opNd (tkX.u t)])/\AddK R W.drew wz v2 v3) 36 rfl rfl (by rfl) (by kernel_rfl) (by simp[execOp,go_sem]) (HAd.u.mono fun e w6 ⟨he,v3,hb1,hb2⟩=>⟨_,he,v3,hb1,hb2⟩) ?_;rintro vs W6 ⟨v3,hr6,hk6⟩;have ho:=HR1.u.own.keep ((bR W.heap.size W).drew);have hk':AddK R W W6 v2 v3:=(AddK.of_below v2 ((bR W.heap.size W).drew)).trans hk6;have hS6:=hk'.blk HR2.u (by omega) (own_ty HR1.u.own HR2.u (by decide));refine⟨hS6,?_⟩;refine wpAnyH_done (by kernel_rfl) ?_ _;have hRb:=HR1.u.blk;rw[HR.u]at hRb;have hW3R:W3.heap.size≠R:=by omega
   have HF:=h_ (show KeepsOthers W W6/\∃v2,Rdr w0 a c l W6 i' d v2 (ns++(en++(pre++[x]).map (fun x=>opNd (tkX.u (pk ss x)))))/\Blk W6 w.heap.size 138 [Yd R 0]/\Blk W6 W3.heap.size 22 [.slice (cutA a i c 1) ss.length (c - i)]/\AddK R w W6 v v2 from ⟨hk'.others hRb HR1.u.own,v3,by
    rw[show ns++(en++(pre++[x]).map (fun x=>opNd (tkX.u (pk ss x))))=ns++(en++pre.map (fun x=>opNd (tkX.u (pk ss x))))++[opNd (tkX.u t)] by simp[HTx.u]];exact hr6,hS6,hk'.blk HR3.u hW3R (own_ty HR1.u.own HR3.u (by decide)),HR4.u.trans hk'⟩)
   clear hr6 hk6 ho hk' hS6 hRb zz;gi_wp2_with fail;exact HF.u
  case done =>
   rintro D xs W hD hS ⟨v2,h1,h2,h3,h4⟩ hK;subst hS;rw[qbf]at h1;have H1:=h_ h1;have H4:=h_ h4;have HK9:=h_ hK;clear h1 h2 h3 h4 hK;gi_wp2_with fail;refine⟨by simp,.inl ⟨_,_,rfl,run_takeDeferred HK9.u,?_⟩⟩;refine⟨.tuple #[],by simp[results,Tryz.f196,go_sem],?_⟩;refine .inr ⟨_,i',v2,HX.u,rfl,by omega,h2,?_,?_,?_⟩
   . have:=HSl.u
     simp only[Yf,Zf,Zm];omega
   . exact H1.u.keepC (KeepC.put _ HK9.u rfl (nR _)) (by have:=HR.u;omega)
   . rw[HR.u];exact H4.u.keepC (KeepC.put _ HK9.u rfl (nR _)) (by omega)
theorem qam {w0:World}{a:Option Addr}{c:Nat}{l:List ByteArray}{w:World}{i d:Nat}{v:Value}{ns:List Nx}(hc:RC w0 a l)(hcl:l.length<=c)(hi:i<=l.length)(hn:ns.length<=i)(h:Rdr w0 a c l w i d v ns)
 (hA:∀(k:Nat) (w:World),i<=k->k<=l.length->Rdr w0 a c l w k d v ns->Calls Tryz.prog 211 #[Yd w0.heap.size 0] w (RdO w0 a c l .atm w k d v ns)) :
 Calls Tryz.prog 196 #[Yd w0.heap.size 0] w (RdO w0 a c l (.op 6) w i d v ns) :=
 (callsIn_wide (n:=9)).1 (qal 9 hc hcl hi hn h hA)
end Go.Proofs.YtfmammdgehbjhaaGreatDoor
namespace Go.Proofs.YtfmammdgehbjhaaGreatDoor
open Go Go.RowKit
def Opers (w0:World)(a:Option Addr)(c:Nat)(l:List ByteArray)(n:Nat):Prop:=∀(i d lv:Nat) (w:World) (v:Value) (ns:List Nx),9*(l.length - i)+(8 - lv)<=n->1<=lv->lv<=6->d<=64->i<=l.length->ns.length<=i->Rdr w0 a c l w i d v ns ->
 Calls Tryz.prog 184 #[Yd w0.heap.size 0,Ya (lv:Nat)] w (RdO w0 a c l (.op lv) w i d v ns)
theorem qdt:(rv ⟨#[]⟩).2.2.2=false:=by
 cases q:(rv ⟨#[]⟩).2.2.2 with
 | false=>rfl
 | true =>
  rcases qis q with h | h | h | ⟨c,r,h,-⟩
  . exact absurd (congrArg ByteArray.size h) (by decide)
  . exact absurd (congrArg ByteArray.size h) (by decide)
  . exact absurd (congrArg ByteArray.size h) (by decide)
  . cases h
theorem q6o:goodN ⟨#[]⟩=false:=by decide
theorem pk_in {l:List ByteArray}{i:Nat}(h:pk l i≠⟨#[]⟩):i<l.length:=Yv fun hc=>h (pk_ge hc)
theorem qd0 {c:UInt8}:(⟨#[c]⟩:ByteArray)≠⟨#[]⟩:=fun h=>absurd (congrArg ByteArray.size h) (by show ¬ (1:Nat)=0;omega)
theorem q46 {l:List ByteArray}{i d n:Nat}{acc:List Nx}(h:pk l i≠⟨#[44]⟩):Evx tkX 64 (.ar (n+1) acc) d (l.drop i) none:=by
 by_cases hi:i<l.length
 . rw[qia hi];exact qc2 (Yg h)
 . rw[Yx (by omega)];exact q92
theorem qfx {w0:World}{a:Option Addr}{c:Nat}{l:List ByteArray}{w:World}{i d:Nat}{v:Value}{ns:List Nx}(op:Nat)(hc:RC w0 a l)(hd:d<=64)(hi:i<l.length)(hL:pk l i=⟨#[40]⟩)(hn:ns.length<=i)(h:Rdr w0 a c l w i d v ns)(hI:Opers w0 a c l (9*(l.length - i)))(t:ByteArray)(hg:goodN t=true)(hf:tkX.f t=op) :
 Calls Tryz.prog 226 #[Yd w0.heap.size 0,Ya (op:Nat)] w fun e w'=>(Evx tkX 64 .atm d (t :: l.drop i) none/\e=flt 3/\Below w0.heap.size w0 w')∨∃en i' v',Evx tkX 64 .atm d (t :: l.drop i) (some (en,l.drop i'))/\e=.returned (.tuple #[])/\i<=i'/\i'<=l.length/\i+en.length<=i'/\Rdr w0 a c l w' i' d v' (ns++en)/\AddK w0.heap.size w w' v v':=by
 have hl:=hc.len
 obtain⟨nd,hk⟩:∃nd,tkX.k t=some nd:=⟨_,(k_good hg).1⟩
 have hLt:tkX.L t=false:=by
  have:=(tkX_ok.nk hk).1;exact this
 have hLy:tkX.L (pk l i)=true:=Yh hL
 have HCc:=h_ hc;have H:=h_ h;have HI:=h_ hI
 have HDr:Hi (l.drop i=pk l i :: l.drop (i+1)):=h_ (qia hi)
 have E0:Hi (op=0->Evx tkX 64 .atm d (t :: l.drop i) none):=h_ fun h0=>by rw[HDr.u];exact qg9 hLt hk hg hLy (by rw[hf,h0])
 have E1:Hi (op≠0->¬ d+1<=64->Evx tkX 64 .atm d (t :: l.drop i) none):=h_ fun h0 h1=>by rw[HDr.u];exact q6h hLt hk hg hLy (by rw[hf];exact h0) h1
 have E2:Hi (op≠0->d+1<=64->Evx tkX 64 (.op 1) (d+1) (l.drop (i+1)) none->Evx tkX 64 .atm d (t :: l.drop i) none):=h_ fun h0 h1 h2=>by rw[HDr.u];exact q6i hLt hk hg hLy (by rw[hf];exact h0) h1 h2
 have E3:Hi (op≠0->d+1<=64->∀e1 i1,Evx tkX 64 (.op 1) (d+1) (l.drop (i+1)) (some (e1,l.drop i1))->Evx tkX 64 (.ar (tkX.ar op - 1) e1) (d+1) (l.drop i1) none->Evx tkX 64 .atm d (t :: l.drop i) none):=h_ fun h0 h1 e1 i1 h2 h3=>by rw[HDr.u];exact q6g hLt hk hg hLy (by rw[hf];exact h0) h1 h2 (by rw[hf];exact h3)
 have E4:Hi (op≠0->d+1<=64->∀e1 i1 e2 i2,Evx tkX 64 (.op 1) (d+1) (l.drop (i+1)) (some (e1,l.drop i1))->Evx tkX 64 (.ar (tkX.ar op - 1) e1) (d+1) (l.drop i1) (some (e2,l.drop i2))->(pk l i2≠⟨#[41]⟩->Evx tkX 64 .atm d (t :: l.drop i) none)/\(pk l i2=⟨#[41]⟩->Evx tkX 64 .atm d (t :: l.drop i) (some (e2++[opNd op],l.drop (i2+1))))):=h_ fun h0 h1 e1 i1 e2 i2 h2 h3=>by
  rw[HDr.u];constructor
  . intro hq
    by_cases hi2:i2<l.length
    . rw[qia hi2]at h3
      have:=ev_fn hLt hk hg hLy (by rw[hf];exact h0) h1 h2 (by rw[hf];exact h3);rw[Yi (by show ¬ decide (pk l i2=⟨#[41]⟩)=true;rw[Yg hq];decide)]at this;exact this
    . rw[Yx (show l.length<=i2 by omega)]at h3
      exact q94 hLt hk hg hLy (by rw[hf];exact h0) h1 h2 (by rw[hf];exact h3)
  . intro hq
    have hi2:i2<l.length:=pk_in (by rw[hq];exact qd0);rw[qia hi2]at h3;have:=ev_fn hLt hk hg hLy (by rw[hf];exact h0) h1 h2 (by rw[hf];exact h3);rw[Yn (by show decide (pk l i2=⟨#[41]⟩)=true;exact Yh hq),hf]at this;exact this
 have hop:op=0∨(16<=op/\op<=25):=by
  rw[f_of hg]at hf;by_cases h0:op=0
  . exact .inl h0
  . obtain⟨h1,h2,-⟩:=qd9 (s:=t) (n:=10) (a:=16) (by rw[hf];exact h0)
    rw[hf]at h1 h2;exact .inr ⟨h1,by omega⟩
 have HL:=h_ hL
 clear hc h hI hg hf hk hLt hLy hL
 rcases hop with rfl | ⟨hop1,hop2⟩
 . have HE:=h_ (E0.u rfl)
   have HBl:=h_ H.u.bel;clear E0 E1 E2 E3 E4;go_enter Tryz.func226,Tryz.ntmps226;go_wp2_with fail;refine(q1k _ _).mono ?_;rintro e w1 ⟨rfl,rfl⟩;go_wp2_with fail;refine(qfd _ _ _).mono ?_;rintro e w2 ⟨he,rfl⟩;rw[Yi (by simp)]at he;subst he;exact⟨rfl,.inl ⟨HE.u,rfl,HBl.u⟩⟩
 have hop0:op≠0:=by omega
 have HOp:Hi ((2:Int)<=op/\(op:Int)<=25):=h_ (by omega)
 obtain⟨N,hN⟩:=Nq (tkX.ar op - 1)
 have hopn:opn op=(N:Int)+1:=by
  rw[<- hN];have h1:=tkX_ok.ar;have:∀x:Fin 10,opn ((x.val+16:Nat):Int)=((tkX.ar (x.val+16) - 1:Nat):Int)+1:=by decide
  have:=this ⟨op - 16,by omega⟩;simp only[show op - 16+16=op by omega]at this;exact this
 have hNb:N<=10:=by
  rw[<- hN];have:∀x:Fin 10,tkX.ar (x.val+16) - 1<=10:=by decide
  have:=this ⟨op - 16,by omega⟩;simp only[show op - 16+16=op by omega]at this;exact this
 rw[hN]at E3 E4
 have HOn:=h_ hopn
 replace E1:=h_ (E1.u hop0);replace E2:=h_ (E2.u hop0);replace E3:=h_ (E3.u hop0);replace E4:=h_ (E4.u hop0)
 clear hN hopn E0
 go_enter Tryz.func226,Tryz.ntmps226
 go_wp2_with fail
 refine(q1k _ _).mono ?_
 rintro e w1 ⟨rfl,rfl⟩
 rw[Yh HOp.u]
 go_wp2_with fail
 refine(qfe _ _).mono ?_
 rintro e w2 ⟨rfl,rfl⟩
 go_wp2_with fail
 refine(qdb (by omega) hd HCc.u H.u).mono ?_
 rintro e W1 (⟨-,h64,rfl,hr,hak⟩ | ⟨hno,rfl,hb⟩)
 case inr=>exact⟨rfl,.inl ⟨E1.u (fun hx=>hno ⟨HL.u,hx⟩),rfl,hb⟩⟩
 have H1:=h_ hr;have HA:=h_ hak
 replace E2:=h_ (E2.u h64);replace E3:=h_ (E3.u h64);replace E4:=h_ (E4.u h64)
 have HO1:=h_ (HI.u (i+1) (d+1) 1 W1 v ns (by omega) (by omega) (by omega) h64 (by omega) (by omega) hr)
 rw[show((1:Nat):Int)=1 from rfl]at HO1
 clear hr hak E1 H
 go_wp2_with fail
 refine HO1.u.mono ?_
 rintro e W2 (⟨hev,rfl,hb⟩ | ⟨e1,i1,v1,hev,rfl,h1,h2,h3,hr,hak⟩)
 case inl=>exact⟨rfl,.inl ⟨E2.u hev,rfl,hb⟩⟩
 replace HA:=h_ (HA.u.trans hak)
 have H2:=h_ hr
 replace E3:=h_ (E3.u e1 i1 hev);replace E4:=h_ (fun e2 i2=>E4.u e1 i1 e2 i2 hev)
 clear hr hak hev HO1 H1 E2
 go_wp2_with fail
 refine(q20 _ _).mono ?_
 rintro e w3 ⟨rfl,rfl⟩
 rw[HOn.u]
 have hNw:(N:Int)+1 - 1=(N:Int):=by omega
 go_wp2_with fail
 go_loopw [14] (fun mv wr=>∃(m i2:Nat) (v2:Value) (acc:List Nx),m<=N/\mv=Ya (m:Nat)/\(∀x,Evx tkX 64 (.ar (N - m) acc) (d+1) (l.drop i2) x->Evx tkX 64 (.ar N e1) (d+1) (l.drop i1) x)/\i1<=i2/\i2<=l.length/\i+1+acc.length<=i2/\Rdr w0 a c l wr i2 (d+1) v2 (ns++acc)/\AddK w0.heap.size w2 wr v v2) (fun mv _=>N - (intOf mv).toNat)
 case atStart=>exact⟨0,i1,v1,e1,nZ _,rfl,fun x hx=>hx,nR _,h2,h3,H2.u,HA.u⟩
 case round =>
  clear H2 HA;obtain⟨m,i2,v2,acc,hm,rfl,hx,hi12,hi2l,hacc,hr,hak⟩:=hrel;have HX:=h_ hx;have H2:=h_ hr;have HA:=h_ hak;clear hx hr hak;by_cases hlt:m<N
  . have hlt':(m:Int)<(N:Int):=by omega
    obtain⟨q,hq⟩:∃q,N - m=q+1:=⟨N - m - 1,by omega⟩;rw[hq]at HX;have HN1:Hi (N - (m+1)=q):=h_ (by omega);have hlenA:(ns++acc).length<=i2:=(by rw[Yf];omega);clear hq;go_wp2_with fail;refine(qd1 ⟨#[44]⟩ (by omega) HCc.u H2.u).mono ?_;rintro e W3 (⟨hC,rfl,hr,hak⟩ | ⟨hC,rfl,hb⟩)
    case inr=>exact⟨rfl,.inl ⟨E3.u (HX.u _ (q46 hC)),rfl,hb⟩⟩
    have hi2:i2<l.length:=pk_in (by rw[hC];exact qd0);replace HA:=h_ (HA.u.trans hak);have HO1:=h_ (HI.u (i2+1) (d+1) 1 W3 v2 (ns++acc) (by omega) (by omega) (by omega) h64 (by omega) (by omega) hr);rw[show((1:Nat):Int)=1 from rfl]at HO1;have HDc:Hi (l.drop i2=pk l i2 :: l.drop (i2+1)):=h_ (qia hi2);have HCt:Hi (tkX.C (pk l i2)=true):=h_ (Yh hC);clear hC hr hak;go_wp2_with fail;refine HO1.u.mono ?_;rintro e W4 (⟨hev,rfl,hb⟩ | ⟨e2,i3,v3,hev,rfl,k1,k2,k3,hr,hak⟩)
    case inl=>exact⟨rfl,.inl ⟨E3.u (HX.u _ (by rw[HDc.u];exact q6e HCt.u hev)),rfl,hb⟩⟩
    replace HA:=h_ (HA.u.trans hak);rw[Z8]at hr;have H4:=h_ hr;have HX2:Hi (∀x,Evx tkX 64 (.ar q (acc++e2)) (d+1) (l.drop i3) x->Evx tkX 64 (.ar N e1) (d+1) (l.drop i1) x):=h_ fun x hx=>HX.u x (by rw[HDc.u];exact ev_ar HCt.u hev hx);have HLe:Hi (i+1+(acc++e2).length<=i3):=h_ (by rw[Yf];omega);clear hr hak hev HO1;go_wp2_with fail;go_roundw
    case rel=>exact⟨m+1,i3,v3,acc++e2,by omega,by go_num,by rw[HN1.u];exact HX2.u,by omega,k2,HLe.u,H4.u,HA.u⟩
    case measure=>simp[intOf];omega
  . obtain rfl:m=N:=by omega
    have hlt':¬ (m:Int)<(m:Int):=(by omega);rw[Nat.sub_self]at HX;have HE4:=h_ (E4.u acc i2 (HX.u _ q6f));have hlenA:(ns++acc).length<=1048576:=(by rw[Yf];omega);clear E3 E4 HX;go_wp2_with fail;refine(q8n (by omega) hd HCc.u H2.u).mono ?_;rintro e W3 (⟨hC,rfl,hr,hak⟩ | ⟨hC,rfl,hb⟩)
    case inr=>exact⟨rfl,.inl ⟨HE4.u.1 hC,rfl,hb⟩⟩
    have hi2:i2<l.length:=pk_in (by rw[hC];exact qd0);replace HA:=h_ (HA.u.trans hak);have HE:=h_ (HE4.u.2 hC);have HAd:=h_ (qf9 (opNd op) hlenA hr);clear hC hr hak;unfold nv opNd at HAd;go_wp2_with fail;refine HAd.u.mono ?_;rintro e W5 ⟨rfl,v5,hr,hak⟩;rw[Z8]at hr;have H5:=h_ hr;replace HA:=h_ (HA.u.trans hak);clear hr hak;go_wp2_with fail
    go_end0
    exact .inr ⟨_,i2+1,v5,HE.u,rfl,by omega,by omega,by simp only[Yf,Yl,Yw];omega,H5.u,HA.u⟩
end Go.Proofs.YtfmammdgehbjhaaGreatDoor
