import Derived.Test.YtebbgodlijlioaaGreatDoorW26
import Derived.Test.YtebbgodlijlioaaGreatDoorW23
set_option maxRecDepth 100000
set_option maxHeartbeats 64000000
namespace Go.Proofs.YtebbgodlijlioaaGreatDoor
section
variable {f g:Nat->Nat} {m n:Nat}
theorem qfe {T:Nat->Nat->Bool}{lo hi a b:Nat}(h:T a b=true):upd T lo hi a b=true:=by simp[upd,h]
theorem qax {T:Nat->Nat->Bool}{a b i:Nat}:∀{j},i<=j->pass T f g i a b=true->pass T f g j a b=true:=by
 intro j
 induction j with
 | zero=>intro hi h;obtain rfl:i=0:=(by omega);exact h
 | succ j ih =>
  intro hi h;by_cases e:i=j+1
  . subst e;exact h
  . exact qfe (ih (by omega) h)
theorem q5s {T:Nat->Nat->Bool}{a k j:Nat}(hk:k<j)(h:T a (f k)=true):pass T f g j a (g k)=true:=by
 refine qax (i:=k+1) (by omega) ?_
 have h1:pass T f g k a (f k)=true:=qax (i:=0) (by omega) h
 rw[pass];simp[upd,h1]
def ClosedRow (f g:Nat->Nat)(m:Nat)(T:Nat->Nat->Bool)(a:Nat):Prop:=∀k,k<m->T a (f k)=true->T a (g k)=true
theorem q5r {T:Nat->Nat->Bool}{a:Nat}(h:ClosedRow f g m T a):∀j,j<=m->∀b,pass T f g j a b=T a b:=by
 intro j
 induction j with
 | zero=>intro _ b;rfl
 | succ j ih =>
  intro hj b;rw[pass,upd,ih (by omega),ih (by omega)];by_cases e:b=g j
  . subst e
    cases h1:T a (f j)
    . simp
    . rw[h j (by omega) h1];rfl
  . rw[show decide (b=g j)=false from Yi e];simp
def cnt (n:Nat)(T:Nat->Nat->Bool)(a:Nat):Nat:=((List.range n).filter (T a)).length
theorem q9m {p q:Nat->Bool}(l:List Nat)(h:∀x,p x=true->q x=true):(l.filter p).length<=(l.filter q).length:=by
 induction l with
 | nil=>simp
 | cons x r ih =>
  simp only[List.filter_cons];cases hp:p x
  . cases hq:q x
    . simpa using ih
    . simp;omega
  . rw[h x hp];simpa using ih
theorem q9n {p q:Nat->Bool}(l:List Nat)(h:∀x,p x=true->q x=true){y:Nat}(hy:y∈l)(h1:p y=false)(h2:q y=true):(l.filter p).length<(l.filter q).length:=by
 induction l with
 | nil=>cases hy
 | cons x r ih =>
  simp only[List.filter_cons];rcases Z2.1 hy with rfl | hy
  . rw[h1,h2]
    have:=q9m r h;simp;omega
  . have:=ih hy
    cases hp:p x
    . cases hq:q x
      . simpa using this
      . simp;omega
    . rw[h x hp];simpa using this
theorem q5w {T:Nat->Nat->Bool}{a b:Nat}:∀r,T a b=true->rounds T f g m r a b=true
 | 0,h=>h
 | r+1,h=>qax (i:=0) (by omega) (q5w r h)
theorem q47 (hg:∀k,k<m->g k<n){a:Nat}(ha:a<n):∀r,ClosedRow f g m (rounds diag f g m r) a∨r+1<=cnt n (rounds diag f g m r) a
 | 0=>by
  right;have:(List.filter (fun _=>false) (List.range n)).length<cnt n (rounds diag f g m 0) a:=q9n (y:=a) _ (fun x h=>by cases h) (by simpa using ha) rfl (by simp[rounds,diag]);omega
 | r+1=>by
  rcases q47 hg ha r with h | h
  . left
    intro k hk h1;rw[rounds,q5r h m (nR _)]at h1⊢;exact h k hk h1
  . by_cases hc:ClosedRow f g m (rounds diag f g m r) a
    . left
      intro k hk h1;rw[rounds,q5r hc m (nR _)]at h1⊢;exact hc k hk h1
    . right
      have:∃k,k<m/\rounds diag f g m r a (f k)=true/\¬ rounds diag f g m r a (g k)=true:=by
       apply Classical.byContradiction;intro hn;exact hc fun k hk h1=>Classical.byContradiction fun h2=>hn ⟨k,hk,h1,h2⟩
      obtain⟨k,hk,h1,h2⟩:=this;have:cnt n (rounds diag f g m r) a<cnt n (rounds diag f g m (r+1)) a :=
       q9n (y:=g k) _ (fun x hx=>qax (i:=0) (by omega) hx) (by simpa using hg k hk) (by simpa using h2) (q5s hk h1)
      omega
theorem q2v (hg:∀k,k<m->g k<n){a:Nat}(ha:a<n):ClosedRow f g m (rounds diag f g m n) a:=by
 rcases q47 (f:=f) (m:=m) hg ha n with h | h
 . exact h
 . have:cnt n (rounds diag f g m n) a<=n:=by
    have:=List.length_filter_le (rounds diag f g m n a) (List.range n);simpa [cnt] using this
   omega
def PairBits (u:Nat->Nat)(f g:Nat->Nat)(m:Nat):Prop:=∀x,x<32->∀y,(u x).testBit y=true ↔ ∃k,k<m/\f k=x/\g k=y
theorem q8d {u:Nat->Nat}(hu:PairBits u f g m)(hf:∀k,k<m->f k<32){T:Nat->Nat->Bool}{a:Nat}(h:∀b,T a b=true->Reach u a b):∀j,j<=m->∀b,pass T f g j a b=true->Reach u a b
 | 0,_,b,hb=>h b hb
 | j+1,hj,b,hb=>by
  rw[pass,upd]at hb;simp only[Zs,Yp,Yq]at hb;rcases hb with hb | ⟨rfl,hb⟩
  . exact q8d hu hf h j (by omega) b hb
  . exact(q8d hu hf h j (by omega) _ hb).step (hf j (by omega)) ((hu _ (hf j (by omega)) _).2 ⟨j,by omega,rfl,rfl⟩)
theorem q48 {u:Nat->Nat}(hu:PairBits u f g m)(hf:∀k,k<m->f k<32){a:Nat}:∀r b,rounds diag f g m r a b=true->Reach u a b
 | 0,b,h=>by
  simp only[rounds,diag,Yq]at h;subst h;exact Reach.refl _ _
 | r+1,b,h=>q8d hu hf (fun b hb=>q48 hu hf r b hb) m (nR _) b h
theorem q4m {u:Nat->Nat}(hn:n<=32)(hu:PairBits u f g m)(hf:∀k,k<m->f k<n)(hg:∀k,k<m->g k<n){a b:Nat}(ha:a<n):rounds diag f g m n a b=true ↔ Reach u a b:=by
 refine⟨q48 hu (fun k hk=>by have:=hf k hk;omega) n b,fun h=>?_⟩
 refine(h (fun x=>x<n/\rounds diag f g m n a x=true) ⟨ha,q5w n (by simp[diag])⟩ ?_).2
 rintro x y ⟨hx,hT⟩ hx32 hy
 obtain⟨k,hk,rfl,rfl⟩:=(hu x hx32 y).1 hy
 exact⟨hg k hk,q2v hg ha k hk hT⟩
end
end Go.Proofs.YtebbgodlijlioaaGreatDoor
namespace Go.Proofs.YtebbgodlijlioaaGreatDoor
open Go Go.RowKit
def JF (F:Nat->Bool)(n i:Nat):Int:=firstN (isJoin F n (i / n) (i % n)) n
def MF (F:Nat->Bool)(n i:Nat):Int:=firstN (isMeet F n (i / n) (i % n)) n
def TwoW (F:Nat->Bool)(n:Nat):Prop:=∃a b,a<n/\b<n/\a≠b/\F (a*n+b)=true/\F (b*n+a)=true
def lastN (p:Nat->Bool):Nat->Int
 | 0=>0
 | k+1=>if p k then (k:Int) else lastN p k
def belowAll (F:Nat->Bool)(n m c:Nat):Bool:=(List.range m).all fun d=>F (c*n+d)
def aboveAll (F:Nat->Bool)(n m c:Nat):Bool:=(List.range m).all fun d=>F (d*n+c)
theorem q27 (F:Nat->Bool)(n m c:Nat):belowAll F n (m+1) c=(belowAll F n m c&&F (c*n+m)):=by simp[belowAll,List.range_succ]
theorem q26 (F:Nat->Bool)(n m c:Nat):aboveAll F n (m+1) c=(aboveAll F n m c&&F (m*n+c)):=by simp[aboveAll,List.range_succ]
def SpecOut (n:Nat)(F:Nat->Bool)(e:Ending)(w':World):Prop :=
 (TwoW F n/\e=.returned (.tuple #[zeroL,J9 2])) ∨
 (¬ TwoW F n/\(∃i,i<n*n/\JF F n i<0)/\e=.returned (.tuple #[zeroL,J9 3])) ∨
 (¬ TwoW F n/\(∀i,i<n*n->0<=JF F n i)/\(∃i,i<n*n/\MF F n i<0)/\e=.returned (.tuple #[zeroL,J9 4])) ∨
 (¬ TwoW F n/\(∀i,i<n*n->0<=JF F n i)/\(∀i,i<n*n->0<=MF F n i)/\∃a1 a2 a3 c1 c2 c3,e=.returned (.tuple #[.agg (Jj n a1 (n*n) c1 a2 c2 a3 c3 (lastN (belowAll F n n) n) (lastN (aboveAll F n n) n)),J9 0]) /\
  Bools w' a1 (n*n) F/\Ints w' a2 (n*n) (JF F n)/\Ints w' a3 (n*n) (MF F n))
theorem six' {w:World}{b:Nat}{t:TypeId}{v0 v1 v2 v3 v4 v5:Value}(h:Blk w b t [v0,v1,v2,v3,v4,v5]) :
 (w.cell? ⟨b,0,none⟩=some v0/\w.cell? ⟨b,1,none⟩=some v1/\w.cell? ⟨b,2,none⟩=some v2/\w.cell? ⟨b,3,none⟩=some v3/\w.cell? ⟨b,4,none⟩=some v4/\w.cell? ⟨b,5,none⟩=some v5)/\(w.frozen? ⟨b,0,none⟩=false/\w.frozen? ⟨b,1,none⟩=false/\w.frozen? ⟨b,2,none⟩=false/\w.frozen? ⟨b,3,none⟩=false/\w.frozen? ⟨b,4,none⟩=false/\w.frozen? ⟨b,5,none⟩=false) :=
 ⟨⟨h.cell 0,h.cell 1,h.cell 2,h.cell 3,h.cell 4,h.cell 5⟩,⟨h.free 0,h.free 1,h.free 2,h.free 3,h.free 4,h.free 5⟩⟩
theorem q6g {B:Nat}{w w':World}(h:Below B w w'){R:Nat}(hR:B<=R)(v0 v1 v2 v3 v4 v5:Value):Below B w ((((((w'.setCell ⟨R,0,none⟩ v0).setCell ⟨R,1,none⟩ v1).setCell ⟨R,2,none⟩ v2).setCell ⟨R,3,none⟩ v3).setCell ⟨R,4,none⟩ v4).setCell ⟨R,5,none⟩ v5) :=
 (((((h.setCell (p:=⟨R,0,none⟩) hR v0).setCell (p:=⟨R,1,none⟩) hR v1).setCell (p:=⟨R,2,none⟩) hR v2).setCell (p:=⟨R,3,none⟩) hR v3).setCell (p:=⟨R,4,none⟩) hR v4).setCell (p:=⟨R,5,none⟩) hR v5
theorem q2z (N:Int)(a:Option Addr)(m c:Nat)(w:World)(hc:∀w',Below w.heap.size w w'->Calls Tryz.prog 29 #[.agg (Jn N a m c)] w' fun e w''=>e=.returned (.bool false)/\Below w'.heap.size w' w'') :
 Calls Tryz.prog 8 #[.agg (Jn N a m c)] w fun e w'=>e=.returned (.tuple #[zeroL,J9 1])/\Below w.heap.size w w':=by
 have HR:=h_ (by simpa using Blk.new (w.alloc (.cells (Jn N a m c) 39)) 35 Jd:Blk ((w.alloc (.cells (Jn N a m c) 39)).alloc (.cells Jd 35)) (w.heap.size+1) 35 [J9 0,Ya,Ya,Ya,J9 0,J9 0])
 have H0:=h_ ((Blk.new w 39 (Jn N a m c)).alloc (.cells Jd 35))
 have HW:Hi (Below w.heap.size w ((w.alloc (.cells (Jn N a m c) 39)).alloc (.cells Jd 35))):=((bR _ w).alloc (nR _) _).alloc (by simp) _
 go_enter Tryz.func8,Tryz.ntmps8
 go_wp2_with fail
 refine(hc _ HW.u).mono ?_
 rintro e w1 ⟨rfl,hb⟩
 replace HR:=mB HR hb;replace H0:=mB H0 hb;replace HW:=mT HW hb
 clear hb
 obtain⟨⟨r0,r1,r2,r3,r4,r5⟩,⟨f0,f1,f2,f3,f4,f5⟩⟩:=six' HR.u
 have HZ:=h_ (q6g HW.u (Vj _) (J9 0) Ya Ya Ya (J9 0) (J9 0))
 go_wp2
 refine bodyPost_ret (v:=.tuple #[zeroL,J9 1]) (by simp[results,Tryz.results8,go_sem,zeroL, *]) rfl ⟨?_,HZ.u⟩
 rfl
theorem qao {w:World}{base base':Nat}{e:TypeId}{size:Nat}{v:Value}{n:Nat}{xs:List Value}(h:w.ownsRow base e size v n xs)(hb:base'<=base):w.ownsRow base' e size v n xs:=by
 rcases h.2 with h' | ⟨g,cap,cur,e',hb',h3⟩
 . exact⟨h.1,.inl h'⟩
 . exact⟨h.1,.inr ⟨g,cap,cur,e',Ys hb hb',h3⟩⟩
theorem q98 (w:World)(t:TypeId)(v:Value):∀(j:Nat) (u:Value),[v][j]? = some u->(w.alloc (.cells #[v] t)).cell? ((⟨w.heap.size,0,none⟩:Addr).add j)=some u:=fun j u h=>by
 match j,h with
 | 0,h=>simp at h;subst h;exact(Blk.new w t #[v]).cell 0
theorem qh6 {w:World}{base:Nat}{e:TypeId}{v:Value}{n:Nat}{G:Nat->Int}(h:w.ownsRow base e 1 v n (is n G)):∃a cap,v=.slice a n cap/\Ints w a n G:=by
 rcases h.2 with ⟨rfl,rfl⟩ | ⟨g,cap,cur,rfl,hb,hg,hc,-,hs,htake⟩
 . exact⟨none,0,rfl,fun k hk=>absurd hk (nL _)⟩
 . refine⟨_,cap,rfl,fun k hk=>⟨g,0,rfl,(Yt.1 hg).1,?_⟩⟩
   have:=h.cellAt k (by omega);rw[Zi,this];simp[is,hk]
theorem two' {w:World}{b:Nat}{t:TypeId}{v0 v1:Value}(h:Blk w b t [v0,v1]) :
 (w.cell? ⟨b,0,none⟩=some v0/\w.cell? ⟨b,1,none⟩=some v1)/\(w.frozen? ⟨b,0,none⟩=false/\w.frozen? ⟨b,1,none⟩=false):=⟨⟨h.cell 0,h.cell 1⟩,⟨h.free 0,h.free 1⟩⟩
theorem q4a (n:Nat)(a:Option Addr)(m c:Nat)(f g:Nat->Nat)(w:World)(h1:1<=n)(h32:n<=32)(hm:m<=256)(ha:Pairs w a m (fun k=>(f k:Int)) (fun k=>(g k:Int)))(hf:∀k,k<m->f k<n)(hg:∀k,k<m->g k<n)(F:Nat->Bool)(hF:tabB n (rounds diag f g m n)=F) :
 Calls Tryz.prog 8 #[.agg (Jn n a m c)] w fun e w'=>SpecOut n F e w'/\Below w.heap.size w w':=by
 have HR:=h_ (by simpa using Blk.new (w.alloc (.cells (Jn n a m c) 39)) 35 Jd:Blk ((w.alloc (.cells (Jn n a m c) 39)).alloc (.cells Jd 35)) (w.heap.size+1) 35 [J9 0,Ya,Ya,Ya,J9 0,J9 0])
 have H0:=h_ ((Blk.new w 39 (Jn n a m c)).alloc (.cells Jd 35))
 have HW:Hi (Below w.heap.size w ((w.alloc (.cells (Jn n a m c) 39)).alloc (.cells Jd 35))):=((bR _ w).alloc (nR _) _).alloc (by simp) _
 go_enter Tryz.func8,Tryz.ntmps8
 go_wp2_with fail
 refine(q0w n a m c _ _ _ (by omega) (by omega) hm (ha.mono HW.u) true ⟨fun _ k hk=>by have:=hf k hk;have:=hg k hk;omega,fun _=>rfl⟩).mono ?_
 rintro e w1 ⟨rfl,hb⟩
 replace HR:=mB HR hb;replace H0:=mB H0 hb;replace HW:=mT HW hb
 clear hb
 obtain⟨⟨o0,o1⟩,-⟩:=two' H0.u
 go_wp2_with fail
 refine(q2f n a m c f g _ h1 h32 hm (ha.mono HW.u) hf hg).mono ?_
 rintro e w2 ⟨G,rfl,hG,hGw,hb⟩
 have hR1:=HR.u.lt
 replace HR:=mB HR hb;replace H0:=mB H0 hb;replace HW:=mT HW hb
 clear hb o0 o1
 rw[hF]at hG
 have HG:=h_ hG
 have hGR:G≠w.heap.size+1:=by omega
 have hRs:w.heap.size+1<w2.heap.size:=HR.u.lt
 clear hG ha hf hg hF hGw hR1
 have hsq:=sq_le h32
 go_wp2_with fail
 go_loop [6] (fun i=>∃k:Nat,k<=n/\i=J9 k/\∀x,x<k->∀y,y<n->¬ (x≠y/\F (x*n+y)=true/\F (y*n+x)=true)) (fun i=>n - (intOf i).toNat)
 case atStart=>exact⟨0,nZ _,rfl,fun x h=>absurd h (nL _)⟩
 case round =>
  obtain⟨k,hk,rfl,hall⟩:=hrel;have HA:=h_ hall;clear hall;by_cases hlt:k<n
  . go_wp2_with fail
    go_loop [7] (fun i=>∃j:Nat,j<=n/\i=J9 j/\∀y,y<j->¬ (k≠y/\F (k*n+y)=true/\F (y*n+k)=true)) (fun i=>n - (intOf i).toNat)
    case atStart=>exact⟨0,nZ _,rfl,fun x h=>absurd h (nL _)⟩
    case round =>
     obtain⟨j,hj,rfl,hall⟩:=hrel;have HB:=h_ hall;clear hall;by_cases hlj:j<n
     . have hcs:(((k:Int) != j)=true/\F (k*n+j)=true/\F (j*n+k)=true)∨(((k:Int) != j)=false∨(((k:Int) != j)=true/\F (k*n+j)=false)∨(((k:Int) != j)=true/\F (k*n+j)=true/\F (j*n+k)=false)):=by
        cases ((k:Int) != j) <;> cases F (k*n+j) <;> cases F (j*n+k) <;> simp
       rcases hcs with ⟨e1,e2,e3⟩ | hcs
       . have HT:Hi (TwoW F n):=⟨k,j,hlt,hlj,fun e=>by subst e;simp at e1,e2,e3⟩
         obtain⟨⟨r0,r1,r2,r3,r4,r5⟩,⟨f0,f1,f2,f3,f4,f5⟩⟩:=six' HR.u;have HZ:=h_ (q6g HW.u (Vj _) (J9 0) Ya Ya Ya (J9 0) (J9 0));go_wp2_with (go_at_call 31;refine(qa5 _ _ _ _ _ _ F _ (nR _) (by omega) (by omega) h32 HG.u.bools).mono ?_;rintro e w' ⟨rfl,rfl⟩);exact bodyPost_ret (v:=.tuple #[zeroL,J9 2]) (by simp[results,Tryz.results8,go_sem,zeroL, *]) rfl ⟨.inl ⟨HT.u,rfl⟩,HZ.u⟩
       . have HN:Hi (¬ (k≠j/\F (k*n+j)=true/\F (j*n+k)=true)):=fun⟨e1,e2,e3⟩=>by
          rcases hcs with h | ⟨_,h⟩ | ⟨_,_,h⟩
          . simp at h;omega
          . exact Z7 (h.symm.trans e2)
          . exact Z7 (h.symm.trans e3)
         rcases hcs with e1 | ⟨e1,e2⟩ | ⟨e1,e2,e3⟩
         all_goals
          go_wp2_with (go_at_call 31;refine(qa5 _ _ _ _ _ _ F _ (nR _) (by omega) (by omega) h32 HG.u.bools).mono ?_;rintro e w' ⟨rfl,rfl⟩)
          go_round
          case rel=>exact⟨j+1,by omega,by go_num,fun y hy=>by
           by_cases e:y=j
           . rw[e];exact HN.u
           . exact HB.u y (by omega)⟩
          case measure=>simp[intOf];omega
     . go_wp2_with fail
       go_round
       case rel=>exact⟨k+1,by omega,by go_num,fun x hx y hy=>by
        by_cases e:x=k
        . rw[e];exact HB.u y (by omega)
        . exact HA.u x (by omega) y hy⟩
       case measure=>simp[intOf];omega
  . obtain rfl:n=k:=by omega
    have hN2:¬ TwoW F n:=fun⟨x,y,hx,hy,h⟩=>HA.u x (by omega) y hy h;have HN2:=h_ hN2;clear hN2 HA hlt hk;go_wp2_with fail;have hb2:Below w2.heap.size w2 ((w2.alloc (.cells #[] 3)).alloc (.cells #[] 3)):=((bR _ w2).alloc (nR _) _).alloc (by simp) _;have O1:((w2.alloc (.cells #[] 3)).alloc (.cells #[] 3)).ownsRow w2.heap.size 3 1 (.slice (some ⟨w2.heap.size,0,none⟩) 0 0) 0 (is 0 (JF F n)):=(qav w2 3).alloc _;have O2:((w2.alloc (.cells #[] 3)).alloc (.cells #[] 3)).ownsRow w2.heap.size 3 1 (.slice (some ⟨w2.heap.size+1,0,none⟩) 0 0) 0 (is 0 (MF F n)):=by
     have:=qav (w2.alloc (.cells #[] 3)) 3;simp only[Yv]at this;exact qao this (Vj _)
    have P1:=h_ O1;have P2:=h_ O2;have PB:=h_ hb2;clear O1 O2 hb2;have zm:∀G:Nat->Int,(false=true ↔ ∃i,i<0*n/\G i<0):=fun G=>⟨(fun h=>by cases h),(fun⟨i,hi,_⟩=>by simp at hi)⟩;go_loopw [8,9,10,11,12] (fun vj vm nj nm i wr=>∃(k:Nat) (bj bm:Bool),k<=n/\i=J9 k/\nj=.bool bj/\nm=.bool bm/\(bj=true ↔ ∃i,i<k*n/\JF F n i<0)/\(bm=true ↔ ∃i,i<k*n/\MF F n i<0)/\wr.ownsRow w2.heap.size 3 1 vj (k*n) (is (k*n) (JF F n))/\wr.ownsRow w2.heap.size 3 1 vm (k*n) (is (k*n) (MF F n))/\vj.ownBlock≠vm.ownBlock/\Below w2.heap.size w2 wr) (fun _ _ _ _ i _=>n - (intOf i).toNat)
    case atStart=>exact⟨0,false,false,nZ _,rfl,rfl,rfl,zm _,zm _,by simpa using P1.u,by simpa using P2.u,by simp[Value.ownBlock],PB.u⟩
    case round =>
     clear P1 P2 PB zm;obtain⟨k,bj,bm,hk,rfl,rfl,rfl,hbj,hbm,hoj,hom,hne,hB⟩:=hrel;have HBJ:=h_ hbj;have HBM:=h_ hbm;have HOJ:=h_ hoj;have HOM:=h_ hom;have HNE:=h_ hne;have HB:=h_ hB;clear hbj hbm hoj hom hne;by_cases hlt:k<n
     . clear hB
       go_wp2_with fail;go_loopw [8,9,10,11,13] (fun vj vm nj nm i wr=>∃(j:Nat) (bj bm:Bool),j<=n/\i=J9 j/\nj=.bool bj/\nm=.bool bm/\(bj=true ↔ ∃i,i<k*n+j/\JF F n i<0)/\(bm=true ↔ ∃i,i<k*n+j/\MF F n i<0)/\wr.ownsRow w2.heap.size 3 1 vj (k*n+j) (is (k*n+j) (JF F n))/\wr.ownsRow w2.heap.size 3 1 vm (k*n+j) (is (k*n+j) (MF F n))/\vj.ownBlock≠vm.ownBlock/\Below w2.heap.size w2 wr) (fun _ _ _ _ i _=>n - (intOf i).toNat)
       case atStart=>exact⟨0,bj,bm,nZ _,rfl,rfl,rfl,HBJ.u,HBM.u,HOJ.u,HOM.u,HNE.u,HB.u⟩
       case round =>
        clear HBJ HBM HOJ HOM HNE HB;obtain⟨j,bj,bm,hj,rfl,rfl,rfl,hbj,hbm,hoj,hom,hne,hB⟩:=hrel;have HBJ:=h_ hbj;have HBM:=h_ hbm;have HOJ:=h_ hoj;have HOM:=h_ hom;have HNE:=h_ hne;have HB:=h_ hB;clear hbj hbm hoj hom hne;by_cases hlj:j<n
        . have hG2:=(HG.u.mono hB HG.u.lt).bools
          have HG2:=h_ hG2;have hix:=idx_lt hlt hlj;have hjd:(k*n+j) / n=k/\(k*n+j) % n=j:=by
           rw[Oe,Z5 _ _ (by omega),Vg hlj,Zp,Zw hlj];simp
          obtain⟨vJ,hvJ⟩:∃v,JF F n (k*n+j)=v:=⟨_,rfl⟩;obtain⟨vM,hvM⟩:∃v,MF F n (k*n+j)=v:=⟨_,rfl⟩;have hfJ:firstN (isJoin F n k j) n=vJ:=(by rw[<- hvJ,JF,hjd.1,hjd.2]);have hfM:firstN (isMeet F n k j) n=vM:=(by rw[<- hvM,MF,hjd.1,hjd.2]);have HVJ:=h_ hvJ;have HVM:=h_ hvM;clear hG2 hB hjd hvJ hvM;go_wp2_with fail;refine(q79 _ _ _ n k j F _ (nR _) h32 hlt hlj HG2.u vJ hfJ).mono ?_;rintro e w' ⟨rfl,rfl⟩;go_wp2_with fail;refine(q7a _ _ _ n k j F _ (nR _) h32 hlt hlj HG2.u vM hfM).mono ?_;rintro e w' ⟨rfl,rfl⟩;clear hfJ hfM;have stepJ:∀b:Bool,(b=(decide (vJ<0)||bj))->(b=true ↔ ∃i,i<k*n+(j+1)/\JF F n i<0):=fun b hb=>by
           rw[hb,Zs,Yq,HBJ.u];refine⟨fun h=>?_,fun⟨i,hi,h⟩=>?_⟩
           . rcases h with h | ⟨i,hi,h⟩
             . exact⟨k*n+j,by omega,by rw[HVJ.u];exact h⟩
             . exact⟨i,by omega,h⟩
           . by_cases e:i=k*n+j
             . left;rw[e,HVJ.u]at h;exact h
             . exact .inr ⟨i,by omega,h⟩
          have stepM:∀b:Bool,(b=(decide (vM<0)||bm))->(b=true ↔ ∃i,i<k*n+(j+1)/\MF F n i<0):=fun b hb=>by
           rw[hb,Zs,Yq,HBM.u];refine⟨fun h=>?_,fun⟨i,hi,h⟩=>?_⟩
           . rcases h with h | ⟨i,hi,h⟩
             . exact⟨k*n+j,by omega,by rw[HVM.u];exact h⟩
             . exact⟨i,by omega,h⟩
           . by_cases e:i=k*n+j
             . left;rw[e,HVM.u]at h;exact h
             . exact .inr ⟨i,by omega,h⟩
          have SJ:=h_ stepJ;have SM:=h_ stepM;clear stepJ stepM;by_cases c1:vJ<0 <;> by_cases c2:vM<0
          all_goals
           obtain⟨i0,hi,hz0,hz1,hz2⟩:=info_parts qcr;go_wp2_with (at_builtin;refine wpList_append_own_at _ rfl _ _ 30 rfl w2.heap.size 3 i0 _ 1 8 Tryz.underlying30 hi hz0 hz1 hz2 rfl (by omega) u8 _ _ rfl (HOJ.u.alloc _) ⟨w'.heap.size,0,none⟩ 1 1 [J9 vJ] rfl rfl (q98 w' 3 _) (by simp[Value.oneCell']) (by unfold maxLen;omega) (by omega) (by have:=HB.u.size;simp;omega) ?_);intro vj' w3 hoj' hgr' _ hob';have hlM:=HOM.u.lt;have hlJ:=HOJ.u.lt;have hB3:=(HB.u.alloc HB.u.size (.cells #[J9 vJ] 3)).grown hgr' (by have:=HB.u.size;simp;omega) (fun q' e=>q87 HOJ.u e);have hom3:=(HOM.u.alloc (.cells #[J9 vJ] 3)).kept hgr' (.inr fun e=>HNE.u e.symm);have hne3:vj'.ownBlock≠u9.ownBlock:=by
            rcases hob' with e | e
            . rw[e];exact HNE.u
            . rw[e];intro e2
              have h9:=(hlM _ e2.symm).2
              first | omega | (simp only[Yv]at h9;omega)
           have hoj3:w3.ownsRow w2.heap.size 3 1 vj' (k*n+(j+1)) (is (k*n+(j+1)) (JF F n)):=by
            rw[<- Nat.add_assoc,qh7,HVJ.u];exact hoj'
           have HOJ3:=h_ hoj3;have HOM3:=h_ hom3;have HNE3:=h_ hne3;have HB3:=h_ hB3;clear hoj' hgr' hob' hlM hlJ hB3 hom3 hne3 hoj3 HOJ HOM HNE HB HG2;go_wp2_with (at_builtin;refine wpList_append_own_at _ rfl _ _ 30 rfl w2.heap.size 3 i0 _ 1 8 Tryz.underlying30 hi hz0 hz1 hz2 rfl (by omega) u9 _ _ rfl (HOM3.u.alloc _) ⟨w3.heap.size,0,none⟩ 1 1 [J9 vM] rfl rfl (q98 w3 3 _) (by simp[Value.oneCell']) (by unfold maxLen;omega) (by omega) (by have:=HB3.u.size;simp;omega) ?_);intro vm' w4 hom' hgr' _ hob';have hlJ:=HOJ3.u.lt;have hB4:=(HB3.u.alloc HB3.u.size (.cells #[J9 vM] 3)).grown hgr' (by have:=HB3.u.size;simp;omega) (fun q' e=>q87 HOM3.u e);have hoj4:=(HOJ3.u.alloc (.cells #[J9 vM] 3)).kept hgr' (.inr HNE3.u);have hne4:vj'.ownBlock≠vm'.ownBlock:=by
            rcases hob' with e | e
            . rw[e];exact HNE3.u
            . rw[e];intro e2
              have h9:=(hlJ _ e2).2
              first | omega | (simp only[Yv]at h9;omega)
           have hom4:w4.ownsRow w2.heap.size 3 1 vm' (k*n+(j+1)) (is (k*n+(j+1)) (MF F n)):=by
            rw[<- Nat.add_assoc,qh7,HVM.u];exact hom'
           have HOJ4:=h_ hoj4;have HOM4:=h_ hom4;have HNE4:=h_ hne4;have HB4:=h_ hB4;clear hom' hgr' hob' hlJ hB4 hoj4 hne4 hom4 HOJ3 HOM3 HNE3 HB3 hi hz0 hz1 hz2;go_wp2_with fail;go_roundw
           case rel=>exact⟨j+1,_,_,by omega,by go_num,rfl,rfl,SJ.u _ (by first | (rw[Ym (by omega)];rfl) | (rw[Yi (by omega)];rfl)),SM.u _ (by first | (rw[Ym (by omega)];rfl) | (rw[Yi (by omega)];rfl)),HOJ4.u,HOM4.u,HNE4.u,HB4.u⟩
           case measure=>simp[intOf];omega
        . obtain rfl:n=j:=by omega
          clear hB;go_wp2_with fail;go_roundw
          case rel=>exact⟨k+1,bj,bm,by omega,by go_num,rfl,rfl,by rw[Zt];exact HBJ.u,by rw[Zt];exact HBM.u,by rw[Zt];exact HOJ.u,by rw[Zt];exact HOM.u,HNE.u,HB.u⟩
          case measure=>simp[intOf];omega
     . obtain rfl:n=k:=by omega
       clear hlt hk;replace HR:=mB HR hB;replace HG:=mB HG hB;have hs2:w.heap.size+1<w2.heap.size:=hRs;replace HW:=mT HW hB;have HG3:=h_ HG.u.bools;clear hB HB;cases bj
       . have HJ:Hi (∀i,i<n*n->0<=JF F n i):=fun i hi=>by
          apply Classical.byContradiction;intro h;have:=HBJ.u.2 ⟨i,hi,by omega⟩;cases this
         cases bm
         . have HM:Hi (∀i,i<n*n->0<=MF F n i):=fun i hi=>by
            apply Classical.byContradiction;intro h;have:=HBM.u.2 ⟨i,hi,by omega⟩;cases this
           clear HBJ HBM;obtain⟨a8,c8,rfl,-⟩:=qh6 HOJ.u;obtain⟨a9,c9,rfl,-⟩:=qh6 HOM.u;go_wp2_with fail
           go_loop [16,17,18] (fun bv tv i=>∃k:Nat,k<=n/\i=J9 k/\bv=J9 (lastN (belowAll F n n) k)/\tv=J9 (lastN (aboveAll F n n) k)) (fun _ _ i=>n - (intOf i).toNat)
           case atStart=>exact⟨0,nZ _,rfl,rfl,rfl⟩
           case round =>
            obtain⟨k,hk,rfl,rfl,rfl⟩:=hrel;by_cases hlt:k<n
            . go_wp2_with fail
              go_loop [19,20,21] (fun bv tv i=>∃j:Nat,j<=n/\i=J9 j/\bv=.bool (belowAll F n j k)/\tv=.bool (aboveAll F n j k)) (fun _ _ i=>n - (intOf i).toNat)
              case atStart=>exact⟨0,nZ _,rfl,rfl,rfl⟩
              case round =>
               obtain⟨j,hj,rfl,rfl,rfl⟩:=hrel;by_cases hlj:j<n
               . cases e1:F (k*n+j) <;> cases e2:F (j*n+k)
                 all_goals
                  have HS1:=h_ (q27 F n j k);have HS2:=h_ (q26 F n j k);go_wp2_with fail;refine(qa5 _ _ _ n k j F _ (nR _) hlt hlj h32 HG3.u).mono ?_;rintro e w' ⟨rfl,rfl⟩;rw[e1];go_wp2_with fail;refine(qa5 _ _ _ n j k F _ (nR _) hlj hlt h32 HG3.u).mono ?_;rintro e w' ⟨rfl,rfl⟩;rw[e2];go_wp2_with fail
                  go_round
                  case rel=>exact⟨j+1,by omega,by go_num,by rw[HS1.u,e1];simp,by rw[HS2.u,e2];simp⟩
                  case measure=>simp[intOf];omega
               . obtain rfl:n=j:=by omega
                 have HL1:Hi (lastN (belowAll F n n) (k+1)=if belowAll F n n k then (k:Int) else lastN (belowAll F n n) k):=rfl;have HL2:Hi (lastN (aboveAll F n n) (k+1)=if aboveAll F n n k then (k:Int) else lastN (aboveAll F n n) k):=rfl;cases e1:belowAll F n n k <;> cases e2:aboveAll F n n k
                 all_goals
                  go_wp2_with fail
                  go_round
                  case rel=>exact⟨k+1,by omega,by go_num,by rw[HL1.u,e1];rfl,by rw[HL2.u,e2];rfl⟩
                  case measure=>simp[intOf];omega
            . obtain rfl:n=k:=by omega
              obtain⟨bt,hbt⟩:=Nq (lastN (belowAll F n n) n);obtain⟨tp,htp⟩:=Nq (lastN (aboveAll F n n) n);rw[hbt,htp];have HBT:=h_ (And.intro hbt htp);clear hbt htp;obtain⟨⟨r0,r1,r2,r3,r4,r5⟩,⟨f0,f1,f2,f3,f4,f5⟩⟩:=six' HR.u;have hRb:w.heap.size+1<w2.heap.size:=hs2;have hj6:=ownsRow_setCell_below (ownsRow_setCell_below (ownsRow_setCell_below (ownsRow_setCell_below (ownsRow_setCell_below (ownsRow_setCell_below HOJ.u (a:=⟨w.heap.size+1,0,none⟩) hRb (J9 n)) (a:=⟨w.heap.size+1,1,none⟩) hRb (.slice (some ⟨G,0,none⟩) (n*n) (n*n))) (a:=⟨w.heap.size+1,2,none⟩) hRb (.slice a8 (n*n) c8)) (a:=⟨w.heap.size+1,3,none⟩) hRb (.slice a9 (n*n) c9)) (a:=⟨w.heap.size+1,4,none⟩) hRb (J9 bt)) (a:=⟨w.heap.size+1,5,none⟩) hRb (J9 tp);have hm6:=ownsRow_setCell_below (ownsRow_setCell_below (ownsRow_setCell_below (ownsRow_setCell_below (ownsRow_setCell_below (ownsRow_setCell_below HOM.u (a:=⟨w.heap.size+1,0,none⟩) hRb (J9 n)) (a:=⟨w.heap.size+1,1,none⟩) hRb (.slice (some ⟨G,0,none⟩) (n*n) (n*n))) (a:=⟨w.heap.size+1,2,none⟩) hRb (.slice a8 (n*n) c8)) (a:=⟨w.heap.size+1,3,none⟩) hRb (.slice a9 (n*n) c9)) (a:=⟨w.heap.size+1,4,none⟩) hRb (J9 bt)) (a:=⟨w.heap.size+1,5,none⟩) hRb (J9 tp);have hg6:=((((((HG.u.other (a:=⟨w.heap.size+1,0,none⟩) (J9 n) hGR).other (a:=⟨w.heap.size+1,1,none⟩) (.slice (some ⟨G,0,none⟩) (n*n) (n*n)) hGR).other (a:=⟨w.heap.size+1,2,none⟩) (.slice a8 (n*n) c8) hGR).other (a:=⟨w.heap.size+1,3,none⟩) (.slice a9 (n*n) c9) hGR).other (a:=⟨w.heap.size+1,4,none⟩) (J9 bt) hGR).other (a:=⟨w.heap.size+1,5,none⟩) (J9 tp) hGR);have HZ:=h_ (q6g HW.u (Vj _) (J9 n) (.slice (some ⟨G,0,none⟩) (n*n) (n*n)) (.slice a8 (n*n) c8) (.slice a9 (n*n) c9) (J9 bt) (J9 tp));have HJ6:=h_ hj6;have HM6:=h_ hm6;have HG6:=h_ hg6;clear hj6 hm6 hg6 HOJ HOM HG HG3 HW;go_wp2;refine bodyPost_ret (v:=.tuple #[.agg #[J9 n,.slice (some ⟨G,0,none⟩) (n*n) (n*n),.slice a8 (n*n) c8,.slice a9 (n*n) c9,J9 bt,J9 tp],J9 0]) (by simp[results,Tryz.results8,go_sem, *]) rfl ⟨.inr (.inr (.inr ⟨HN2.u,HJ.u,HM.u,some ⟨G,0,none⟩,a8,a9,n*n,c8,c9,by rw[HBT.u.1,HBT.u.2],HG6.u.bools,?_,?_⟩)),HZ.u⟩
              . obtain⟨x1,x2,e,h⟩:=qh6 HJ6.u
                cases e;exact h
              . obtain⟨x1,x2,e,h⟩:=qh6 HM6.u
                cases e;exact h
         . have HM:Hi (∃i,i<n*n/\MF F n i<0):=HBM.u.1 rfl
           obtain⟨⟨r0,r1,r2,r3,r4,r5⟩,⟨f0,f1,f2,f3,f4,f5⟩⟩:=six' HR.u;have HZ:=h_ (q6g HW.u (Vj _) (J9 0) Ya Ya Ya (J9 0) (J9 0));go_wp2;refine bodyPost_ret (v:=.tuple #[zeroL,J9 4]) (by simp[results,Tryz.results8,go_sem,zeroL, *]) rfl ⟨?_,HZ.u⟩;exact .inr (.inr (.inl ⟨HN2.u,HJ.u,HM.u,rfl⟩))
       . have HJ:Hi (∃i,i<n*n/\JF F n i<0):=HBJ.u.1 rfl
         obtain⟨⟨r0,r1,r2,r3,r4,r5⟩,⟨f0,f1,f2,f3,f4,f5⟩⟩:=six' HR.u;have HZ:=h_ (q6g HW.u (Vj _) (J9 0) Ya Ya Ya (J9 0) (J9 0));go_wp2;refine bodyPost_ret (v:=.tuple #[zeroL,J9 3]) (by simp[results,Tryz.results8,go_sem,zeroL, *]) rfl ⟨?_,HZ.u⟩;exact .inr (.inl ⟨HN2.u,HJ.u,rfl⟩)
theorem q7t {n B R j:Nat}{g d:Nat->Nat}{Rl:Nat->Nat->Bool}{e:Ending}{w':World}(h:LatOut n g d Rl B e w')(hR:R<B)(v:Value):LatOut n g d Rl B e (w'.setCell ⟨R,j,none⟩ v):=by
 rcases h with h | h | h | ⟨h1,G1,G2,G3,F1,F2,bot,top,he,b1,b2,b3,x1,x2,x3,h2⟩
 . exact .inl h
 . exact .inr (.inl h)
 . exact .inr (.inr (.inl h))
 . exact .inr (.inr (.inr ⟨h1,G1,G2,G3,F1,F2,bot,top,he,b1.other v (by simp;omega),b2.other v (by simp;omega),b3.other v (by simp;omega),x1,x2,x3,h2⟩))
theorem q3y {n B:Nat}{g d:Nat->Nat}{Rl:Nat->Nat->Bool}{e:Ending}{w':World}(h:LatOut n g d Rl B e w'):∃(l0:Int) (a1 a2 a3:Option Addr) (n1 n2 n3 c1 c2 c3:Nat) (l4 l5 code:Int),e=.returned (.tuple #[.agg #[J9 l0,.slice a1 n1 c1,.slice a2 n2 c2,.slice a3 n3 c3,J9 l4,J9 l5],J9 code]):=by
 rcases h with ⟨-,he⟩ | ⟨-,-,he⟩ | ⟨-,-,-,he⟩ | ⟨-,G1,G2,G3,F1,F2,bot,top,he,-⟩
 . exact⟨0,none,none,none,0,0,0,0,0,0,0,0,2,he⟩
 . exact⟨0,none,none,none,0,0,0,0,0,0,0,0,3,he⟩
 . exact⟨0,none,none,none,0,0,0,0,0,0,0,0,4,he⟩
 . exact⟨n,_,_,_,_,_,_,_,_,_,bot,top,0,he⟩
theorem q5f {n B B':Nat}{g d:Nat->Nat}{Rl:Nat->Nat->Bool}{e:Ending}{w':World}(h:LatOut n g d Rl B e w')(hB:B'<=B):LatOut n g d Rl B' e w':=by
 rcases h with h | h | h | ⟨h1,G1,G2,G3,F1,F2,bot,top,he,b1,b2,b3,x1,x2,x3,h2⟩
 . exact .inl h
 . exact .inr (.inl h)
 . exact .inr (.inr (.inl h))
 . exact .inr (.inr (.inr ⟨h1,G1,G2,G3,F1,F2,bot,top,he,b1,b2,b3,by omega,by omega,by omega,h2⟩))
def TwoO (w':World)(A:Nat)(v0 v1:Value):Prop:=w'.cell? ⟨A,0,none⟩=some v0/\w'.cell? ⟨A,1,none⟩=some v1
theorem q2d (N:Int)(a:Option Addr)(m c:Nat)(w:World)(hc:∀w',Below w.heap.size w w'->Calls Tryz.prog 80 #[.agg (Jn N a m c)] w' fun e w''=>e=.returned (.bool false)/\Below w'.heap.size w' w'') :
 Calls Tryz.prog 47 #[.agg (Jn N a m c)] w fun e w'=>e=.returned (.tuple #[zeroL,J9 1])/\Below w.heap.size w w':=by
 have HR:=h_ (by simpa using Blk.new (w.alloc (.cells (Jn N a m c) 39)) 35 Jd:Blk ((w.alloc (.cells (Jn N a m c) 39)).alloc (.cells Jd 35)) (w.heap.size+1) 35 [J9 0,Ya,Ya,Ya,J9 0,J9 0])
 have H0:=h_ ((Blk.new w 39 (Jn N a m c)).alloc (.cells Jd 35))
 have HW:Hi (Below w.heap.size w ((w.alloc (.cells (Jn N a m c) 39)).alloc (.cells Jd 35))):=((bR _ w).alloc (nR _) _).alloc (by simp) _
 go_enter Tryz.func47,Tryz.ntmps47
 go_wp2_with fail
 refine(hc _ HW.u).mono ?_
 rintro e w1 ⟨rfl,hb⟩
 replace HR:=mB HR hb;replace H0:=mB H0 hb;replace HW:=mT HW hb
 clear hb
 obtain⟨⟨r0,r1,r2,r3,r4,r5⟩,⟨f0,f1,f2,f3,f4,f5⟩⟩:=six' HR.u
 have HZ:=h_ (q6g HW.u (Vj _) (J9 0) Ya Ya Ya (J9 0) (J9 0))
 go_wp2
 exact bodyPost_ret (v:=.tuple #[zeroL,J9 1]) (by simp[results,Tryz.results47,go_sem,zeroL, *]) rfl ⟨rfl,HZ.u⟩
theorem q3d (n:Nat)(a:Option Addr)(m c:Nat)(f g:Nat->Nat)(w:World)(h1:1<=n)(h32:n<=32)(hm:m<=256)(ha:Pairs w a m (fun k=>(f k:Int)) (fun k=>(g k:Int)))(hf:∀k,k<m->f k<n)(hg:∀k,k<m->g k<n)(ht:Tab w) :
 Calls Tryz.prog 47 #[.agg (Jn n a m c)] w fun e w'=>Below w.heap.size w w'/\∃u q d Rl,IsRel u (pb f g m)/\IsReach q (fun a b=>a<n/\Reach u a b)/\IsRel q Rl/\IsRel d (fun b a=>decide (a<n)&&Rl a b)/\LatOut n q d Rl w.heap.size e w':=by
 have HR:=h_ (by simpa using Blk.new (w.alloc (.cells (Jn n a m c) 39)) 35 Jd:Blk ((w.alloc (.cells (Jn n a m c) 39)).alloc (.cells Jd 35)) (w.heap.size+1) 35 [J9 0,Ya,Ya,Ya,J9 0,J9 0])
 have H0:=h_ ((Blk.new w 39 (Jn n a m c)).alloc (.cells Jd 35))
 have HW:Hi (Below w.heap.size w ((w.alloc (.cells (Jn n a m c) 39)).alloc (.cells Jd 35))):=((bR _ w).alloc (nR _) _).alloc (by simp) _
 go_enter Tryz.func47,Tryz.ntmps47
 go_wp2_with fail
 refine(q31 n a m c _ _ _ (by omega) (by omega) hm (ha.mono HW.u) true ⟨fun _ k hk=>by have:=hf k hk;have:=hg k hk;omega,fun _=>rfl⟩).mono ?_
 rintro e W ⟨rfl,hb⟩
 replace HR:=mB HR hb;replace H0:=mB H0 hb;replace HW:=mT HW hb
 clear hb
 have S0:TwoO W w.heap.size (J9 n) (.slice a m c):=⟨H0.u.cell 0,H0.u.cell 1⟩
 have HS0:=h_ S0;clear S0
 go_wp2_with fail
 refine wp_region_held_drew (S:=fun w'=>TwoO w' w.heap.size (J9 n) (.slice a m c)) (by kernel_rfl) HS0.u (fun zz=>?_)
 refine tj 0 8 (Yc w.heap.size 0) zz ?_ (hy:=fun w hS=>by obtain⟨q0,q1⟩:=hS;simp[execOp,go_sem, *])
 refine tj 1 9 (J9 n) zz ?_ (hy:=fun w hS=>by obtain⟨q0,q1⟩:=hS;simp[execOp,go_sem, *])
 refine tj 2 10 (.agg (Jn n a m c)) zz ?_ (hy:=fun w hS=>by obtain⟨q0,q1⟩:=hS;simp[execOp,go_sem, *])
 refine tj 4 12 (Yc w.heap.size 0) zz ?_ (hy:=fun w hS=>by obtain⟨q0,q1⟩:=hS;simp[execOp,go_sem, *])
 simp only[sX,sY,sZ]
 refine tj 5 13 (J9 n) zz ?_ (hy:=fun w hS=>by obtain⟨q0,q1⟩:=hS;simp[execOp,go_sem, *])
 simp only[sX,sY,sZ]
 refine callY (i:=3) (f:=82) (args:=#[.agg (Jn n a m c)]) (R:=fun v wz=>∃u,v=.agg (us u).toArray/\IsRel u (pb f g m)/\Below W.heap.size W wz) 11 rfl rfl (by rfl) (by kernel_rfl) ?hrun1 ((q09 n a m c f g _ h32 hm (ha.mono (HW.u.trans ((q35 W 1).mono HW.u.size))) hf hg).mono fun e w6 ⟨u,he,hu,hb⟩=>⟨_,he,u,rfl,hu,q28 hb⟩) ?_
 case hrun1=>simp[execOp,go_sem]
 rintro v w5 ⟨u,rfl,hu,hb⟩
 replace HR:=mB HR hb;replace H0:=mB H0 hb;replace HW:=mT HW hb
 clear hb zz
 refine⟨⟨H0.u.cell 0,H0.u.cell 1⟩,?_⟩
 simp only[sX,sY,sZ]
 refine callY (i:=6) (f:=83) (args:=#[.agg (us u).toArray,J9 n]) (R:=fun v wz=>∃q,v=.agg (us q).toArray/\IsReach q (fun a b=>a<n/\Reach u a b)/\Below w5.heap.size w5 wz) 14 rfl rfl (by rfl) (by kernel_rfl) ?hrun2 ((q6m u n w5 h32 (fun a ha=>(hu a ha).1) (ht.mono HW.u)).mono fun e w6 ⟨q,he,hq,hb⟩=>⟨_,he,q,rfl,hq,hb⟩) ?_
 case hrun2=>simp[execOp,go_sem]
 rintro v w6 ⟨q,rfl,hq,hb⟩
 replace HR:=mB HR hb;replace H0:=mB H0 hb;replace HW:=mT HW hb
 clear hb
 refine⟨⟨H0.u.cell 0,H0.u.cell 1⟩,?_⟩
 simp only[sX,sY,sZ]
 have hqr:IsRel q (fun a b=>(q a).testBit b):=fun a ha=>⟨(hq a ha).1,fun b=>rfl⟩
 refine callY (i:=7) (f:=81) (args:=#[J9 n,.agg (us q).toArray]) (R:=fun v wz=>Below w6.heap.size w6 wz/\∃d,IsRel d (fun b a=>decide (a<n)&&(q a).testBit b)/\LatOut n q d (fun a b=>(q a).testBit b) w6.heap.size (.returned v) wz) 15 rfl rfl (by rfl) (by kernel_rfl) ?hrun3 ((q2p n q (fun a b=>(q a).testBit b) w6 h1 h32 hqr (ht.mono HW.u)).mono fun e w7 ⟨hb,d,hd,hL⟩=>?_) ?_
 case hrun3=>simp[execOp,go_sem]
 . obtain⟨l0,a1,a2,a3,n1,n2,n3,c1,c2,c3,l4,l5,code,rfl⟩:=q3y hL
   exact⟨_,rfl,hb,d,hd,hL⟩
 rintro v w7 ⟨hb,d,hd,hL⟩
 have hRB:w.heap.size+1<w6.heap.size:=HR.u.lt
 replace HR:=mB HR hb;replace H0:=mB H0 hb;replace HW:=mT HW hb
 have hWs:=HW.u.size
 have hB6:w.heap.size<=w6.heap.size:=by omega
 clear hb
 obtain⟨l0,a1,a2,a3,n1,n2,n3,c1,c2,c3,l4,l5,code,hv⟩:=q3y hL
 simp only[Ending.returned.injEq]at hv
 subst hv
 refine⟨⟨H0.u.cell 0,H0.u.cell 1⟩,?_⟩
 simp only[sX,sY,sZ]
 have zz:TwoO w7 w.heap.size (J9 n) (.slice a m c):=⟨H0.u.cell 0,H0.u.cell 1⟩
 refine tj 8 16 (.agg #[J9 l0,.slice a1 n1 c1,.slice a2 n2 c2,.slice a3 n3 c3,J9 l4,J9 l5]) zz ?_ (hy:=fun w hS=>by obtain⟨q0,q1⟩:=hS;simp[execOp,go_sem, *])
 refine tj 9 17 (J9 code) zz ?_ (hy:=fun w hS=>by obtain⟨q0,q1⟩:=hS;simp[execOp,go_sem, *])
 simp only[sX,sY,sZ]
 obtain⟨⟨r0,r1,r2,r3,r4,r5⟩,⟨f0,f1,f2,f3,f4,f5⟩⟩:=six' HR.u
 have A9:=((((((H0.u.other (a:=⟨w.heap.size+1,0,none⟩) (J9 l0) (by simp)).other (a:=⟨w.heap.size+1,1,none⟩) (.slice a1 n1 c1) (by simp)).other (a:=⟨w.heap.size+1,2,none⟩) (.slice a2 n2 c2) (by simp)).other (a:=⟨w.heap.size+1,3,none⟩) (.slice a3 n3 c3) (by simp)).other (a:=⟨w.heap.size+1,4,none⟩) (J9 l4) (by simp)).other (a:=⟨w.heap.size+1,5,none⟩) (J9 l5) (by simp))
 have R9:=((((((HR.u.set 0 (J9 l0)).set 1 (.slice a1 n1 c1)).set 2 (.slice a2 n2 c2)).set 3 (.slice a3 n3 c3)).set 4 (J9 l4)).set 5 (J9 l5))
 refine storeY (i:=10) (w':=((((((w7.setCell ⟨w.heap.size+1,0,none⟩ (J9 l0)).setCell ⟨w.heap.size+1,1,none⟩ (.slice a1 n1 c1)).setCell ⟨w.heap.size+1,2,none⟩ (.slice a2 n2 c2)).setCell ⟨w.heap.size+1,3,none⟩ (.slice a3 n3 c3)).setCell ⟨w.heap.size+1,4,none⟩ (J9 l4)).setCell ⟨w.heap.size+1,5,none⟩ (J9 l5))) rfl (by rfl) (by kernel_rfl) rfl ?hrun4 rfl ⟨A9.cell 0,A9.cell 1⟩ ?_
 case hrun4=>simp[execOp,go_sem,r0,r1,r2,r3,r4,r5,f0,f1,f2,f3,f4,f5]
 have HL9:=h_ (q7t (j:=5) (q7t (j:=4) (q7t (j:=3) (q7t (j:=2) (q7t (j:=1) (q7t (j:=0) hL hRB (J9 l0)) hRB (.slice a1 n1 c1)) hRB (.slice a2 n2 c2)) hRB (.slice a3 n3 c3)) hRB (J9 l4)) hRB (J9 l5))
 have HZ:=h_ (q6g HW.u (Vj _) (J9 l0) (.slice a1 n1 c1) (.slice a2 n2 c2) (.slice a3 n3 c3) (J9 l4) (J9 l5))
 obtain⟨⟨s0,s1,s2,s3,s4,s5⟩,-⟩:=six' R9
 clear r0 r1 r2 r3 r4 r5 f0 f1 f2 f3 f4 f5 R9 hL zz
 have zz:TwoO _ w.heap.size (J9 n) (.slice a m c):=⟨A9.cell 0,A9.cell 1⟩
 clear A9
 generalize ((((((w7.setCell ⟨w.heap.size+1,0,none⟩ (J9 l0)).setCell ⟨w.heap.size+1,1,none⟩ (.slice a1 n1 c1)).setCell ⟨w.heap.size+1,2,none⟩ (.slice a2 n2 c2)).setCell ⟨w.heap.size+1,3,none⟩ (.slice a3 n3 c3)).setCell ⟨w.heap.size+1,4,none⟩ (J9 l4)).setCell ⟨w.heap.size+1,5,none⟩ (J9 l5))=W9 at *
 refine tj 11 3 (J9 code) zz ?_ (hy:=fun w hS=>by obtain⟨q0,q1⟩:=hS;simp[execOp,go_sem, *])
 simp only[sX,sY,sZ]
 refine wpAnyH_done (by kernel_rfl) ?_ _
 go_wp2
 refine bodyPost_ret (v:=.tuple #[.agg #[J9 l0,.slice a1 n1 c1,.slice a2 n2 c2,.slice a3 n3 c3,J9 l4,J9 l5],J9 code]) (by simp[results,Tryz.results47,go_sem, *]) rfl ⟨HZ.u,u,q,d,_,hu,hq,hqr,hd,q5f HL9.u hB6⟩
def Le (f:Nat->Bool)(n a b:Nat):Prop:=a<n/\b<n/\f (a*n+b)=true
theorem qdy {f:Nat->Bool}{n a b:Nat}:part f n (n*n) a b=true ↔ Le f n a b:=by
 unfold part Le
 simp only[Yp,decide_eq_true_iff]
 constructor
 . rintro⟨⟨h1,h2⟩,h3⟩
   refine⟨?_,h1,h3⟩;apply On;intro h;have:=Zl n h;omega
 . rintro⟨h1,h2,h3⟩
   exact⟨⟨h2,idx_lt h1 h2⟩,h3⟩
section
variable {n:Nat} {f:Nat->Bool} {u c d:Nat->Nat}
theorem u_bit (hu:IsRel u (part f n (n*n))){a:Nat}(ha:a<32)(b:Nat):(u a).testBit b=true ↔ Le f n a b:=by rw[(hu a ha).2 b];exact qdy
theorem d_bit (hd:IsRel d (fun b a=>decide (a<n)&&part f n (n*n) a b)){a:Nat}(ha:a<32)(b:Nat):(d a).testBit b=true ↔ Le f n b a:=by
 rw[(hd a ha).2 b,Yp,decide_eq_true_iff,qdy]
 exact⟨fun h=>h.2,fun h=>⟨h.1,h⟩⟩
theorem qjz (hn:n<=32)(hu:IsRel u (part f n (n*n)))(hd:IsRel d (fun b a=>decide (a<n)&&part f n (n*n) a b))(hr:∀a,a<n->Le f n a a){a:Nat}(ha:a<n) :
 commonN (u a) (d a)=2 ^ a ↔ ∀b,Le f n a b->Le f n b a->a=b:=by
 have bits:∀b,(commonN (u a) (d a)).testBit b=true ↔ Le f n a b/\Le f n b a:=fun b=>by
  rw[q4n (hu a (by omega)).1 (hd a (by omega)).1,Yp,u_bit hu (by omega),d_bit hd (by omega)]
 constructor
 . intro h b h1 h2
   have:=(bits b).2 ⟨h1,h2⟩;rw[h,Z4,decide_eq_true_iff]at this;exact this
 . intro h
   apply Nat.eq_of_testBit_eq;intro b;rw[Zn,bits,Z4,decide_eq_true_iff];exact⟨fun⟨h1,h2⟩=>h b h1 h2,fun e=>by subst e;exact⟨hr a ha,hr a ha⟩⟩
theorem q81 {s t:Nat}(hs:s<4294967296)(ht:t<4294967296):minusN s t=0 ↔ ∀x,s.testBit x=true->t.testBit x=true:=by
 constructor
 . intro h x hx
   have:=q80 hs ht x;rw[h,hx]at this;simpa using this.symm
 . intro h
   apply Nat.eq_of_testBit_eq;intro x;rw[q80 hs ht x];cases e:s.testBit x
   . simp
   . simp[h x e]
theorem qcw (hn:n<=32)(hu:IsRel u (part f n (n*n))){a b e:Nat}(ha:a<n)(hb:b<n)(he:e<32) :
 ((commonN (u a) (u b)).testBit e=true/\minusN (commonN (u a) (u b)) (u e)=0) ↔ (e<n/\isJoinP f n a b e):=by
 have ua:=(hu a (by omega)).1;have ub:=(hu b (by omega)).1
 rw[q81 (q6n ua) (hu e he).1,q4n ua ub,Yp,u_bit hu (by omega),u_bit hu (by omega)]
 have hx:∀x,(commonN (u a) (u b)).testBit x=true ↔ Le f n a x/\Le f n b x:=fun x=>by rw[q4n ua ub,Yp,u_bit hu (by omega),u_bit hu (by omega)]
 unfold isJoinP
 constructor
 . rintro⟨⟨h1,h2⟩,h3⟩
   refine⟨h1.2.1,h1.2.2,h2.2.2,fun x hxn h4 h5=>?_⟩;exact((u_bit hu he x).1 (h3 x ((hx x).2 ⟨⟨ha,hxn,h4⟩,⟨hb,hxn,h5⟩⟩))).2.2
 . rintro⟨h0,h1,h2,h3⟩
   refine⟨⟨⟨ha,h0,h1⟩,⟨hb,h0,h2⟩⟩,fun x hx'=>?_⟩;obtain⟨h4,h5⟩:=(hx x).1 hx';exact(u_bit hu he x).2 ⟨h0,h4.2.1,h3 x h4.2.1 h4.2.2 h5.2.2⟩
theorem qde (hn:n<=32)(hd:IsRel d (fun b a=>decide (a<n)&&part f n (n*n) a b)){a b e:Nat}(ha:a<n)(hb:b<n)(he:e<32) :
 ((commonN (d a) (d b)).testBit e=true/\minusN (commonN (d a) (d b)) (d e)=0) ↔ (e<n/\isMeetP f n a b e):=by
 have ua:=(hd a (by omega)).1;have ub:=(hd b (by omega)).1
 rw[q81 (q6n ua) (hd e he).1,q4n ua ub,Yp,d_bit hd (by omega),d_bit hd (by omega)]
 have hx:∀x,(commonN (d a) (d b)).testBit x=true ↔ Le f n x a/\Le f n x b:=fun x=>by rw[q4n ua ub,Yp,d_bit hd (by omega),d_bit hd (by omega)]
 unfold isMeetP
 constructor
 . rintro⟨⟨h1,h2⟩,h3⟩
   refine⟨h1.1,h1.2.2,h2.2.2,fun x hxn h4 h5=>?_⟩;exact((d_bit hd he x).1 (h3 x ((hx x).2 ⟨⟨hxn,ha,h4⟩,⟨hxn,hb,h5⟩⟩))).2.2
 . rintro⟨h0,h1,h2,h3⟩
   refine⟨⟨⟨h0,ha,h1⟩,⟨h0,hb,h2⟩⟩,fun x hx'=>?_⟩;obtain⟨h4,h5⟩:=(hx x).1 hx';exact(d_bit hd he x).2 ⟨h4.1,h0,h3 x h4.1 h4.2.2 h5.2.2⟩
theorem q6s (hn:n<=32)(hu:IsRel u (part f n (n*n))){a b:Nat}(ha:a<n)(hb:b<n){v:Int}(h:Entry u a b v) :
 (∃e:Nat,e<n/\v=e/\isJoinP f n a b e)∨(v = -1/\∀e,e<n->¬ isJoinP f n a b e):=by
 rcases h with ⟨e,he,rfl,h1,h2⟩ | ⟨rfl,h⟩
 . obtain⟨h3,h4⟩:=(qcw hn hu ha hb he).1 ⟨h1,h2⟩
   exact .inl ⟨e,h3,rfl,h4⟩
 . refine .inr ⟨rfl,fun e he hj=>?_⟩
   obtain⟨h3,h4⟩:=(qcw hn hu ha hb (by omega)).2 ⟨he,hj⟩;exact h e h3 h4
theorem q6t (hn:n<=32)(hd:IsRel d (fun b a=>decide (a<n)&&part f n (n*n) a b)){a b:Nat}(ha:a<n)(hb:b<n){v:Int}(h:Entry d a b v) :
 (∃e:Nat,e<n/\v=e/\isMeetP f n a b e)∨(v = -1/\∀e,e<n->¬ isMeetP f n a b e):=by
 rcases h with ⟨e,he,rfl,h1,h2⟩ | ⟨rfl,h⟩
 . obtain⟨h3,h4⟩:=(qde hn hd ha hb he).1 ⟨h1,h2⟩
   exact .inl ⟨e,h3,rfl,h4⟩
 . refine .inr ⟨rfl,fun e he hj=>?_⟩
   obtain⟨h3,h4⟩:=(qde hn hd ha hb (by omega)).2 ⟨he,hj⟩;exact h e h3 h4
theorem qfl (n x:Nat):(2 ^ n - 1).testBit x=true ↔ x<n:=by rw[Nat.testBit_two_pow_sub_one];simp
theorem bot_of (hn:n<=32)(hu:IsRel u (part f n (n*n))){v:Int}(h:Least u (2 ^ n - 1) v):(∃e:Nat,e<n/\v=e/\∀x,x<n->Le f n e x)∨(v = -1/\∀e,e<n->¬ ∀x,x<n->Le f n e x):=by
 rcases h with ⟨e,he,rfl,h1,h2⟩ | ⟨rfl,h⟩
 . rw[q81 (all_lt hn) (hu e he).1]at h2
   exact .inl ⟨e,(qfl n e).1 h1,rfl,fun x hx=>(u_bit hu he x).1 (h2 x ((qfl n x).2 hx))⟩
 . refine .inr ⟨rfl,fun e he hall=>h e ((qfl n e).2 he) ?_⟩
   rw[q81 (all_lt hn) (hu e (by omega)).1];exact fun x hx=>(u_bit hu (by omega) x).2 (hall x ((qfl n x).1 hx))
theorem top_of (hn:n<=32)(hd:IsRel d (fun b a=>decide (a<n)&&part f n (n*n) a b)){v:Int}(h:Least d (2 ^ n - 1) v):(∃e:Nat,e<n/\v=e/\∀x,x<n->Le f n x e)∨(v = -1/\∀e,e<n->¬ ∀x,x<n->Le f n x e):=by
 rcases h with ⟨e,he,rfl,h1,h2⟩ | ⟨rfl,h⟩
 . rw[q81 (all_lt hn) (hd e he).1]at h2
   exact .inl ⟨e,(qfl n e).1 h1,rfl,fun x hx=>(d_bit hd he x).1 (h2 x ((qfl n x).2 hx))⟩
 . refine .inr ⟨rfl,fun e he hall=>h e ((qfl n e).2 he) ?_⟩
   rw[q81 (all_lt hn) (hd e (by omega)).1];exact fun x hx=>(d_bit hd (by omega) x).2 (hall x ((qfl n x).1 hx))
theorem qgq {n:Nat}{f:Nat->Bool}(h1:1<=n)(ht:∀a b e,Le f n a b->Le f n b e->Le f n a e)(hm:∀a,a<n->∀b,b<n->∃e,e<n/\isMeetP f n a b e):∃e,e<n/\∀x,x<n->Le f n e x:=by
 have key:∀k,k<=n->∃e,e<n/\∀x,x<k->Le f n e x:=fun k=>by
  induction k with
  | zero=>exact fun _=>⟨0,by omega,fun x h=>absurd h (nL _)⟩
  | succ k ih =>
   intro hk;obtain⟨e,he,hx⟩:=ih (by omega);obtain⟨q,hq,h2,h3,-⟩:=hm e he k (by omega);refine⟨q,hq,fun x hxk=>?_⟩;by_cases ex:x=k
   . subst ex;exact⟨hq,by omega,h3⟩
   . exact ht q e x ⟨hq,he,h2⟩ (hx x (by omega))
 exact key n (nR _)
theorem qgs {n:Nat}{f:Nat->Bool}(h1:1<=n)(ht:∀a b e,Le f n a b->Le f n b e->Le f n a e)(hm:∀a,a<n->∀b,b<n->∃e,e<n/\isJoinP f n a b e):∃e,e<n/\∀x,x<n->Le f n x e:=by
 have key:∀k,k<=n->∃e,e<n/\∀x,x<k->Le f n x e:=fun k=>by
  induction k with
  | zero=>exact fun _=>⟨0,by omega,fun x h=>absurd h (nL _)⟩
  | succ k ih =>
   intro hk;obtain⟨e,he,hx⟩:=ih (by omega);obtain⟨q,hq,h2,h3,-⟩:=hm e he k (by omega);refine⟨q,hq,fun x hxk=>?_⟩;by_cases ex:x=k
   . subst ex;exact⟨by omega,hq,h3⟩
   . exact ht x e q (hx x (by omega)) ⟨he,hq,h2⟩
 exact key n (nR _)
theorem qcy {n:Nat}{f:Nat->Bool}(hs:∀a b,Le f n a b->Le f n b a->a=b){a b e q:Nat}(he:e<n)(hq:q<n)(h:isJoinP f n a b e)(h':isJoinP f n a b q):e=q :=
 hs e q ⟨he,hq,h.2.2 q hq h'.1 h'.2.1⟩ ⟨hq,he,h'.2.2 e he h.1 h.2.1⟩
theorem qdf {n:Nat}{f:Nat->Bool}(hs:∀a b,Le f n a b->Le f n b a->a=b){a b e q:Nat}(he:e<n)(hq:q<n)(h:isMeetP f n a b e)(h':isMeetP f n a b q):e=q :=
 hs e q ⟨he,hq,h'.2.2 e he h.1 h.2.1⟩ ⟨hq,he,h.2.2 q hq h'.1 h'.2.1⟩
theorem q9x {n i:Nat}(h:i<n*n):i / n<n/\i % n<n/\i / n*n+i % n=i:=by
 have hn:0<n:=by
  apply Nat.pos_of_ne_zero;intro e;subst e;simp at h
 exact⟨(Nat.div_lt_iff_lt_mul hn).2 h,Vq _ hn,by rw[Nat.mul_comm];exact Nat.div_add_mod i n⟩
end
theorem qhj {p:Nat->Bool}{e:Nat}(he:p e=true):∀{k:Nat},e<k->(∀c,c<k->p c=true->c=e)->lastN p k=e
 | k+1,h,hu=>by
  rw[lastN];by_cases hk:p k=true
  . rw[Yy hk,hu k (by omega) hk]
  . rw[Yu hk]
    have:e≠k:=fun x=>hk (x ▸ he);exact qhj he (by omega) (fun c hc=>hu c (by omega))
theorem q34 {F:Nat->Bool}{n m c:Nat}:belowAll F n m c=true ↔ ∀d,d<m->F (c*n+d)=true:=by simp[belowAll]
theorem q33 {F:Nat->Bool}{n m c:Nat}:aboveAll F n m c=true ↔ ∀d,d<m->F (d*n+c)=true:=by simp[aboveAll]
theorem qcv {n:Nat}{F G:Nat->Int}(h:∀i,i<n->F i=G i):is n F=is n G:=Vd fun i hi=>by rw[h i (Zb.1 hi)]
theorem qc5 {n:Nat}{F G:Nat->Bool}(h:∀i,i<n->F i=G i):bs n F=bs n G:=Vd fun i hi=>by rw[h i (Zb.1 hi)]
theorem qe8 {u f g:Nat->Nat}{m n a b:Nat}(hu:PairBits u f g m)(hg:∀k,k<m->g k<n)(ha:a<n)(h:Reach u a b):b<n :=
 h (fun x=>x<n) ha fun x y _ hx hy=>by obtain⟨k,hk,-,rfl⟩:=(hu x hx y).1 hy;exact hg k hk
theorem q5v {u:Nat->Nat}{a b c:Nat}(h1:Reach u a b)(h2:Reach u b c):Reach u a c:=fun C h hs=>h2 C (h1 C h hs) hs
theorem q5q {u f g:Nat->Nat}{m:Nat}(h:IsRel u (pb f g m)):PairBits u f g m:=fun x hx y=>by rw[(h x hx).2 y,pb_iff]
section
variable {u q f g:Nat->Nat} {m n:Nat} {F:Nat->Bool}
theorem qd3 (hn:n<=32)(hu:IsRel u (pb f g m))(hf:∀k,k<m->f k<n)(hg:∀k,k<m->g k<n)(hF:tabB n (rounds diag f g m n)=F){a b:Nat}:Le F n a b ↔ a<n/\Reach u a b:=by
 unfold Le
 rw[<- hF]
 refine⟨fun⟨h1,h2,h3⟩=>⟨h1,?_⟩,fun⟨h1,h2⟩=>?_⟩
 . rw[qjs _ h2]at h3
   exact(q4m hn (q5q hu) hf hg h1).1 h3
 . have h3:=qe8 (q5q hu) hg h1 h2
   refine⟨h1,h3,?_⟩;rw[qjs _ h3];exact(q4m hn (q5q hu) hf hg h1).2 h2
theorem rel_q (hn:n<=32)(hu:IsRel u (pb f g m))(hf:∀k,k<m->f k<n)(hg:∀k,k<m->g k<n)(hF:tabB n (rounds diag f g m n)=F)(hq:IsReach q (fun a b=>a<n/\Reach u a b)):IsRel q (part F n (n*n)):=fun a ha =>
 ⟨(hq a ha).1,fun b=>by rw[Zn,(hq a ha).2 b,qdy,qd3 hn hu hf hg hF]⟩
end
def SameOut (n:Nat)(F:Nat->Bool)(B:Nat)(e1 e2:Ending)(w1 w2:World):Prop :=
 (∃code:Int,e1=.returned (.tuple #[zeroL,J9 code])/\e2=.returned (.tuple #[zeroL,J9 code])) ∨
 (∃a1 a2 a3 c1 c2 c3 G1 G2 G3,∃bot top:Int,e1=.returned (.tuple #[.agg (Jj n a1 (n*n) c1 a2 c2 a3 c3 bot top),J9 0]) /\
  e2=.returned (.tuple #[.agg #[J9 n,.slice (some ⟨G1,0,none⟩) (n*n) (n*n),.slice (some ⟨G2,0,none⟩) (n*n) (n*n),.slice (some ⟨G3,0,none⟩) (n*n) (n*n),J9 bot,J9 top],J9 0]) /\
  Bools w1 a1 (n*n) F/\Ints w1 a2 (n*n) (JF F n)/\Ints w1 a3 (n*n) (MF F n)/\Blk w2 G1 4 (bs (n*n) F)/\Blk w2 G2 3 (is (n*n) (JF F n))/\Blk w2 G3 3 (is (n*n) (MF F n))/\B<=G1/\B<=G2/\B<=G3/\G1≠G2/\G1≠G3/\G2≠G3)
section
variable {n B:Nat} {F:Nat->Bool} {q d:Nat->Nat}
theorem qha {a b:Nat}(hb:b<n)(h:∀e,e<n->¬ isJoinP F n a b e):JF F n (a*n+b) = -1:=by
 have hd:(a*n+b) / n=a/\(a*n+b) % n=b:=by
  rw[Oe,Z5 _ _ (by omega),Vg hb,Zp,Zw hb];simp
 rw[JF,hd.1,hd.2,q6y fun c hc=>q3g (h c hc)]
theorem qhb {a b e:Nat}(hs:∀a b,Le F n a b->Le F n b a->a=b)(hb:b<n)(he:e<n)(h:isJoinP F n a b e):JF F n (a*n+b)=e:=by
 have hd:(a*n+b) / n=a/\(a*n+b) % n=b:=by
  rw[Oe,Z5 _ _ (by omega),Vg hb,Zp,Zw hb];simp
 rw[JF,hd.1,hd.2]
 rcases q4s (isJoin F n a b) n with ⟨c,hc,h1,h2⟩ | ⟨-,h2⟩
 . rw[h1,qcy hs hc he (q73.1 h2) h]
 . have:=h2 e he
   rw[q4x h]at this;cases this
theorem qi7 {a b:Nat}(hb:b<n)(h:∀e,e<n->¬ isMeetP F n a b e):MF F n (a*n+b) = -1:=by
 have hd:(a*n+b) / n=a/\(a*n+b) % n=b:=by
  rw[Oe,Z5 _ _ (by omega),Vg hb,Zp,Zw hb];simp
 rw[MF,hd.1,hd.2,q6y fun c hc=>q3i (h c hc)]
theorem qi8 {a b e:Nat}(hs:∀a b,Le F n a b->Le F n b a->a=b)(hb:b<n)(he:e<n)(h:isMeetP F n a b e):MF F n (a*n+b)=e:=by
 have hd:(a*n+b) / n=a/\(a*n+b) % n=b:=by
  rw[Oe,Z5 _ _ (by omega),Vg hb,Zp,Zw hb];simp
 rw[MF,hd.1,hd.2]
 rcases q4s (isMeet F n a b) n with ⟨c,hc,h1,h2⟩ | ⟨-,h2⟩
 . rw[h1,qdf hs hc he (q76.1 h2) h]
 . have:=h2 e he
   rw[q4z h]at this;cases this
theorem qei {Rl:Nat->Nat->Bool}{e1 e2:Ending}{w1 w2:World}(h1:1<=n)(hn:n<=32)(hq:IsRel q (part F n (n*n)))(hd:IsRel d (fun b a=>decide (a<n)&&part F n (n*n) a b))(hRl:∀a b,a<n->b<n->Rl a b=F (a*n+b))
 (hr:∀a,a<n->Le F n a a) (ht:∀a b e,Le F n a b->Le F n b e->Le F n a e) (hS:SpecOut n F e1 w1) (hL:LatOut n q d Rl B e2 w2):SameOut n F B e1 e2 w1 w2:=by
 have anti:¬ TwoW F n->∀a b,Le F n a b->Le F n b a->a=b:=fun h a b x y=>Classical.byContradiction fun e=>h ⟨a,b,x.1,y.1,e,x.2.2,y.2.2⟩
 have two1:(∃a,a<n/\¬ commonN (q a) (d a)=2 ^ a)->TwoW F n:=fun⟨a,ha,h⟩=>Classical.byContradiction fun hno=>h ((qjz hn hq hd hr ha).2 fun b x y=>anti hno a b x y)
 have two2:(∀a,a<n->commonN (q a) (d a)=2 ^ a)->¬ TwoW F n:=fun h ⟨a,b,ha,hb,hne,x,y⟩=>hne ((qjz hn hq hd hr ha).1 (h a ha) b ⟨ha,hb,x⟩ ⟨hb,ha,y⟩)
 have entJ:∀{a b:Nat} {v:Int},a<n->b<n->Entry q a b v->_:=fun ha hb h=>q6s hn hq ha hb h
 have entM:∀{a b:Nat} {v:Int},a<n->b<n->Entry d a b v->_:=fun ha hb h=>q6t hn hd ha hb h
 have noJ:(∃a b,a<n/\b<n/\Entry q a b (-1))->∃i,i<n*n/\JF F n i<0:=fun⟨a,b,ha,hb,h⟩=>by
  rcases entJ ha hb h with ⟨e,-,he,-⟩ | ⟨-,h⟩
  . omega
  . exact⟨a*n+b,idx_lt ha hb,by rw[qha hb h];omega⟩
 have noM:(∃a b,a<n/\b<n/\Entry d a b (-1))->∃i,i<n*n/\MF F n i<0:=fun⟨a,b,ha,hb,h⟩=>by
  rcases entM ha hb h with ⟨e,-,he,-⟩ | ⟨-,h⟩
  . omega
  . exact⟨a*n+b,idx_lt ha hb,by rw[qi7 hb h];omega⟩
 have valJ:∀{F1:Nat->Int},¬ TwoW F n->(∀a,a<n->∀b,b<n->0<=F1 (a*n+b)/\Entry q a b (F1 (a*n+b)))->∀i,i<n*n->JF F n i=F1 i/\0<=F1 i/\∃e,e<n/\isJoinP F n (i / n) (i % n) e:=fun {F1} hno h i hi=>by
  obtain⟨ha,hb,he⟩:=q9x hi;obtain⟨h0,hE⟩:=h _ ha _ hb;rcases entJ ha hb hE with ⟨e,hen,hv,hj⟩ | ⟨hv,-⟩
  . have:=qhb (anti hno) hb hen hj
    rw[he]at this hv h0;exact⟨by rw[this,hv],h0,e,hen,hj⟩
  . omega
 have valM:∀{F2:Nat->Int},¬ TwoW F n->(∀a,a<n->∀b,b<n->0<=F2 (a*n+b)/\Entry d a b (F2 (a*n+b)))->∀i,i<n*n->MF F n i=F2 i/\0<=F2 i/\∃e,e<n/\isMeetP F n (i / n) (i % n) e:=fun {F2} hno h i hi=>by
  obtain⟨ha,hb,he⟩:=q9x hi;obtain⟨h0,hE⟩:=h _ ha _ hb;rcases entM ha hb hE with ⟨e,hen,hv,hj⟩ | ⟨hv,-⟩
  . have:=qi8 (anti hno) hb hen hj
    rw[he]at this hv h0;exact⟨by rw[this,hv],h0,e,hen,hj⟩
  . omega
 rcases hL with ⟨l2,le⟩ | ⟨l2,l3,le⟩ | ⟨l2,l4,⟨F1,l3⟩,le⟩ | ⟨l2,G1,G2,G3,F1,F2,bot,top,le,b1,b2,b3,x1,x2,x3,y1,y2,y3,l3,l4,lb,lt⟩
 . rcases hS with ⟨-,se⟩ | ⟨s2,-⟩ | ⟨s2,-⟩ | ⟨s2,-⟩
   . exact .inl ⟨2,se,le⟩
   all_goals exact absurd (two1 l2) s2
 . rcases hS with ⟨s2,-⟩ | ⟨s2,s3,se⟩ | ⟨s2,s3,-⟩ | ⟨s2,s3,-⟩
   . exact absurd s2 (two2 l2)
   . exact .inl ⟨3,se,le⟩
   all_goals
    obtain⟨i,hi,h⟩:=noJ l3;have:=s3 i hi;omega
 . have vJ:=valJ (two2 l2) l3
   rcases hS with ⟨s2,-⟩ | ⟨s2,⟨i,hi,h⟩,se⟩ | ⟨s2,s3,s4,se⟩ | ⟨s2,s3,s4,-⟩
   . exact absurd s2 (two2 l2)
   . have:=vJ i hi;omega
   . exact .inl ⟨4,se,le⟩
   . obtain⟨i,hi,h⟩:=noM l4
     have:=s4 i hi;omega
 . have vJ:=valJ (two2 l2) l3
   have vM:=valM (two2 l2) l4;rcases hS with ⟨s2,-⟩ | ⟨s2,⟨i,hi,h⟩,se⟩ | ⟨s2,s3,⟨i,hi,h⟩,se⟩ | ⟨s2,s3,s4,a1,a2,a3,c1,c2,c3,se,k1,k2,k3⟩
   . exact absurd s2 (two2 l2)
   . have:=vJ i hi;omega
   . have:=vM i hi;omega
   . have hA:=anti s2
     have joins:∀a,a<n->∀b,b<n->∃e,e<n/\isJoinP F n a b e:=fun a ha b hb=>by
      obtain⟨-,-,e,he,hj⟩:=vJ _ (idx_lt ha hb);have hdm:(a*n+b) / n=a/\(a*n+b) % n=b:=by
       rw[Oe,Z5 _ _ (by omega),Vg hb,Zp,Zw hb];simp
      rw[hdm.1,hdm.2]at hj;exact⟨e,he,hj⟩
     have meets:∀a,a<n->∀b,b<n->∃e,e<n/\isMeetP F n a b e:=fun a ha b hb=>by
      obtain⟨-,-,e,he,hj⟩:=vM _ (idx_lt ha hb);have hdm:(a*n+b) / n=a/\(a*n+b) % n=b:=by
       rw[Oe,Z5 _ _ (by omega),Vg hb,Zp,Zw hb];simp
      rw[hdm.1,hdm.2]at hj;exact⟨e,he,hj⟩
     have hbot:lastN (belowAll F n n) n=bot:=by
      rcases bot_of hn hq lb with ⟨e,he,hv,hx⟩ | ⟨-,hx⟩
      . rw[hv]
        refine qhj (q34.2 fun x h=>(hx x h).2.2) he fun c hc hp=>?_;have hp':=q34.1 hp;exact hA c e ⟨hc,he,hp' e he⟩ (hx c hc)
      . obtain⟨e,he,h⟩:=qgq h1 ht meets
        exact absurd h (hx e he)
     have htop:lastN (aboveAll F n n) n=top:=by
      rcases top_of hn hd lt with ⟨e,he,hv,hx⟩ | ⟨-,hx⟩
      . rw[hv]
        refine qhj (q33.2 fun x h=>(hx x h).2.2) he fun c hc hp=>?_;have hp':=q33.1 hp;exact hA c e (hx c hc) ⟨he,hc,hp' e he⟩
      . obtain⟨e,he,h⟩:=qgs h1 ht joins
        exact absurd h (hx e he)
     rw[hbot,htop]at se;rw[qc5 (G:=F) fun i hi=>by
      obtain⟨ha,hb,he⟩:=q9x hi;rw[tabB,hRl _ _ ha hb,he]]at b1
     rw[qcv (G:=JF F n) fun i hi=>(vJ i hi).1.symm]at b2;rw[qcv (G:=MF F n) fun i hi=>(vM i hi).1.symm]at b3;exact .inr ⟨a1,a2,a3,c1,c2,c3,G1,G2,G3,bot,top,se,le,k1,k2,k3,b1,b2,b3,x1,x2,x3,y1,y2,y3⟩
end
section
variable {F:Nat->Bool} {n:Nat}
theorem qe1 {a b:Nat}(ha:a<n)(hb:b<n):a*n+b<n*n:=by
 have:(a+1)*n<=n*n:=Zl n (by omega)
 rw[Nat.add_mul]at this
 omega
theorem qay {a b:Nat}(hb:b<n):(a*n+b) / n=a:=by
 rw[Nat.mul_comm,Nat.mul_add_div (by omega),Vg hb];rfl
theorem qaz {a b:Nat}(hb:b<n):(a*n+b) % n=b:=by
 rw[Nat.mul_comm,Nat.mul_add_mod,Zw hb]
theorem jf_is {a b:Nat}(ha:a<n)(hb:b<n)(hJ:∀i,i<n*n->0<=JF F n i):∃j:Nat,JF F n (a*n+b)=j/\j<n/\isJoinP F n a b j:=by
 have h:=hJ _ (qe1 ha hb)
 unfold JF at h⊢
 rw[qay hb,qaz hb]at h⊢
 rcases q4s (isJoin F n a b) n with ⟨c,hc,e,hp⟩ | ⟨e,-⟩
 . exact⟨c,e,hc,q73.1 hp⟩
 . rw[e]at h;omega
theorem mf_is {a b:Nat}(ha:a<n)(hb:b<n)(hM:∀i,i<n*n->0<=MF F n i):∃j:Nat,MF F n (a*n+b)=j/\j<n/\isMeetP F n a b j:=by
 have h:=hM _ (qe1 ha hb)
 unfold MF at h⊢
 rw[qay hb,qaz hb]at h⊢
 rcases q4s (isMeet F n a b) n with ⟨c,hc,e,hp⟩ | ⟨e,-⟩
 . exact⟨c,e,hc,q76.1 hp⟩
 . rw[e]at h;omega
theorem q4k (h1:1<=n)(h32:n<=32)(hr:∀a,a<n->F (a*n+a)=true)(ht:∀a b c,a<n->b<n->c<n->F (a*n+b)=true->F (b*n+c)=true->F (a*n+c)=true)(hT:¬ TwoW F n)
 (hJ:∀i,i<n*n->0<=JF F n i) (hM:∀i,i<n*n->0<=MF F n i):Valid n (n*n) (n*n) (n*n) F (JF F n) (MF F n) (lastN (belowAll F n n) n) (lastN (aboveAll F n n) n):=by
 have anti:∀a b,a<n->b<n->F (a*n+b)=true->F (b*n+a)=true->a=b:=fun a b ha hb x y=>Classical.byContradiction fun h=>hT ⟨a,b,ha,hb,h,x,y⟩
 have low:∀k,k<=n->1<=k->∃c,c<n/\∀d,d<k->F (c*n+d)=true:=by
  intro k
  induction k with
  | zero=>intro _ h;omega
  | succ k ih =>
   intro hk _;by_cases h0:k=0
   . refine⟨0,by omega,fun d hd=>?_⟩
     obtain rfl:d=0:=(by omega);exact hr 0 (by omega)
   . obtain⟨c,hc,hd⟩:=ih (by omega) (by omega)
     obtain⟨j,-,hj,m1,m2,-⟩:=mf_is (F:=F) hc (show k<n by omega) hM;refine⟨j,hj,fun d hdk=>?_⟩;by_cases e:d=k
     . rw[e];exact m2
     . exact ht j c d hj hc (by omega) m1 (hd d (by omega))
 have high:∀k,k<=n->1<=k->∃c,c<n/\∀d,d<k->F (d*n+c)=true:=by
  intro k
  induction k with
  | zero=>intro _ h;omega
  | succ k ih =>
   intro hk _;by_cases h0:k=0
   . refine⟨0,by omega,fun d hd=>?_⟩
     obtain rfl:d=0:=(by omega);exact hr 0 (by omega)
   . obtain⟨c,hc,hd⟩:=ih (by omega) (by omega)
     obtain⟨j,-,hj,m1,m2,-⟩:=jf_is (F:=F) hc (show k<n by omega) hJ;refine⟨j,hj,fun d hdk=>?_⟩;by_cases e:d=k
     . rw[e];exact m2
     . exact ht d c j (by omega) hc hj (hd d (by omega)) m1
 obtain⟨bt,hbt,hb⟩:=low n (nR _) h1
 obtain⟨tp,htp,hp⟩:=high n (nR _) h1
 have e1:lastN (belowAll F n n) n=bt:=qhj (q34.2 hb) hbt fun c hc h=>anti c bt hc hbt (q34.1 h bt hbt) (hb c hc)
 have e2:lastN (aboveAll F n n) n=tp:=qhj (q33.2 hp) htp fun c hc h=>anti c tp hc htp (hp c hc) (q33.1 h tp htp)
 refine⟨n,bt,tp,rfl,h1,h32,rfl,rfl,rfl,e1,e2,hbt,htp,fun a ha=>⟨hr a ha,hb a ha,hp a ha,fun b hb=>⟨fun h=>h.1 (anti a b ha hb h.2.1 h.2.2),fun c hc x y=>ht a b c ha hb hc x y⟩⟩,fun a ha b hb=>?_⟩
 obtain⟨j,ej,hj,pj⟩:=jf_is (F:=F) ha hb hJ
 obtain⟨m,em,hm,pm⟩:=mf_is (F:=F) ha hb hM
 exact⟨j,m,ej,em,hj,hm,pj,pm⟩
end
end Go.Proofs.YtebbgodlijlioaaGreatDoor
