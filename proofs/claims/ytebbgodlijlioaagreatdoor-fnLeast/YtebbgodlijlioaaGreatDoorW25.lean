import Derived.Test.YtebbgodlijlioaaGreatDoorW21
import Derived.Test.YtebbgodlijlioaaGreatDoorW19
import Derived.Test.YtebbgodlijlioaaGreatDoorW18
import Derived.Maps.OwnOps
set_option maxRecDepth 100000
set_option maxHeartbeats 64000000
namespace Go.Proofs.YtebbgodlijlioaaGreatDoor
open Go Go.RowKit
def wV (m:Fm)(A:MA)(b:Nat):Value:=.agg #[.slice A.l m.L.length A.lc,.slice A.p m.P.length A.pc,.slice A.r m.R.length A.rc,.slice A.f m.F.length A.fc,.map (some b)]
section
variable {md:Region.Mode} {ops:Array Oper} {Q:Exit->Act->World->Prop} {S:World->Prop} {o:Oper} {a:Act} {fuel:Nat} {listed:Array Bool} {i:Nat} {w w':World}
end
theorem nf_mem {l:List Nx}{k:Nat}(h:k<l.length):nf l k∈l:=by rw[nf_get l k h];exact Yk h
theorem qj1 {names:List ByteArray}{l:List Nx}{k:Nat}(h:k<l.length)(h1:(nf l k).op=1):rdL names (l.take (k+1))=rdL names (l.take k)++[fIdx names (nf l k).nm]:=by
 rw[nf_get l k h]at h1⊢
 unfold rdL
 rw[Yr h,List.filter_append,Zf]
 simp[h1]
theorem qb2 {names:List ByteArray}{l:List Nx}{k:Nat}(h:k<l.length)(h1:¬ (nf l k).op=1):rdL names (l.take (k+1))=rdL names (l.take k):=by
 rw[nf_get l k h]at h1
 unfold rdL
 rw[Yr h,List.filter_append,Zf]
 simp[h1]
theorem q46 (names:List ByteArray)(l:List Nx)(k:Nat):(rdL names (l.take k)).length<=(rdL names l).length:=by
 unfold rdL
 rw[Yz,Yz]
 exact((List.take_sublist k l).filter _).length_le
theorem q9t {names:List ByteArray}{rs:List (List Nx)}{k:Nat}(h:k<rs.length):(rs.take (k+1)).flatMap (rdL names)=(rs.take k).flatMap (rdL names)++rdL names rs[k]:=by
 rw[Yr h,Zq]
 simp
theorem q9r {names:List ByteArray}{rs:List (List Nx)}{k:Nat}(h:k<rs.length):((rs.take k).flatMap (rdL names)).length+(rdL names rs[k]).length<=(rs.flatMap (rdL names)).length:=by
 rw[<- Yg,<- q9t h]
 conv=>rhs;rw[<- Vf (k+1) rs,Zq,Yg]
 omega
theorem qfp {names:List ByteArray}(hn:names.Nodup){x:ByteArray}(hx:x∈names)(z:DataW Unit):(mp names).atKey (kl x) z=.lit (.int .i64 ((fIdx names x:Nat):Int)):=by
 have h:=at_mp names hn z (fIdx names x) (qgf hx)
 rw[qcf hx]at h
 exact h
theorem qhu {D:DataW Unit}{k:Lit}{z:DataW Unit}{pc x:Int}(h1:D.atKey k z=.lit (.int .i64 pc))(h2:D.atKey k z=.lit (.int .i64 x)):pc=x:=by
 rw[h1]at h2
 injection h2 with h2
 injection h2
end Go.Proofs.YtebbgodlijlioaaGreatDoor
namespace Go.Proofs.YtebbgodlijlioaaGreatDoor
open Go
structure LatP (N:Nat)(le:Nat->Nat->Prop)(jn:Nat->Nat->Nat)(bot:Nat):Prop where
 refl:∀a,a<N->le a a
 trans:∀a b c,a<N->b<N->c<N->le a b->le b c->le a c
 anti:∀a b,a<N->b<N->le a b->le b a->a=b
 bl:bot<N
 bot:∀a,a<N->le bot a
 jl:∀a b,a<N->b<N->jn a b<N
 j1:∀a b,a<N->b<N->le a (jn a b)
 j2:∀a b,a<N->b<N->le b (jn a b)
 j3:∀a b c,a<N->b<N->c<N->le a c->le b c->le (jn a b) c
section
variable {N:Nat} {le:Nat->Nat->Prop} {jn:Nat->Nat->Nat} {bot:Nat}
theorem LatP.fold_lt (L:LatP N le jn bot):∀(xs:List Nat) (a:Nat),a<N->(∀x,x∈xs->x<N)->xs.foldl jn a<N:=by
 intro xs
 induction xs with
 | nil=>intro a ha _;exact ha
 | cons x xs ih=>intro a ha h;exact ih (jn a x) (L.jl a x ha (h x Zd)) fun y hy=>h y (Zu _ hy)
theorem LatP.fold_ge (L:LatP N le jn bot):∀(xs:List Nat) (a:Nat),a<N->(∀x,x∈xs->x<N)->le a (xs.foldl jn a)/\∀x,x∈xs->le x (xs.foldl jn a):=by
 intro xs
 induction xs with
 | nil=>intro a ha _;exact⟨L.refl a ha,fun x hx=>by cases hx⟩
 | cons x xs ih =>
  intro a ha h;have hx:=h x Zd;have hj:=L.jl a x ha hx;have h':∀y,y∈xs->y<N:=fun y hy=>h y (Zu _ hy);obtain⟨i1,i2⟩:=ih (jn a x) hj h';have hl:=L.fold_lt xs (jn a x) hj h';refine⟨L.trans _ _ _ ha hj hl (L.j1 a x ha hx) i1,fun y hy=>?_⟩;rcases Z2.1 hy with rfl | hy
  . exact L.trans _ _ _ hx hj hl (L.j2 a y ha hx) i1
  . exact i2 y hy
theorem LatP.fold_le (L:LatP N le jn bot):∀(xs:List Nat) (a c:Nat),a<N->c<N->(∀x,x∈xs->x<N/\le x c)->le a c->le (xs.foldl jn a) c:=by
 intro xs
 induction xs with
 | nil=>intro a c _ _ _ h;exact h
 | cons x xs ih =>
  intro a c ha hc h hac;have hx:=h x Zd;exact ih (jn a x) c (L.jl a x ha hx.1) hc (fun y hy=>h y (Zu _ hy)) (L.j3 a x c ha hx.1 hc hac hx.2)
structure Sol (m:Fm)(N:Nat)(le:Nat->Nat->Prop)(f:Nat->Nat):Prop where
 lt:∀k,k<m.F.length->f k<N
 decl:∀k,k<m.F.length->0<=(fAt m k).lb->(f k:Int)=(fAt m k).lb
 up:∀k,k<m.F.length->(fAt m k).lb<0->∀j,j<m.F.length->anyR m j k=true->le (f j) (f k)
def Low (m:Fm)(N:Nat)(le:Nat->Nat->Prop)(f:Nat->Nat):Prop:=∀g,Sol m N le g->∀k,k<m.F.length->le (f k) (g k)
theorem qac (L:LatP N le jn bot){m:Fm}{f g:Nat->Nat}(hf:Sol m N le f)(hg:Sol m N le g)(lf:Low m N le f)(lg:Low m N le g):∀k,k<m.F.length->f k=g k :=
 fun k hk=>L.anti _ _ (hf.lt k hk) (hg.lt k hk) (lf g hg k hk) (lg f hf k hk)
def startL (m:Fm)(bot k:Nat):Nat:=if (fAt m k).lb<0 then bot else (fAt m k).lb.toNat
theorem qbg (L:LatP N le jn bot){m:Fm}:Low m N le (startL m bot):=by
 intro g hg k hk
 unfold startL
 split
 . exact L.bot _ (hg.lt k hk)
 . rename_i h
   have:=hg.decl k hk (by omega);rw[show(fAt m k).lb.toNat=g k by omega];exact L.refl _ (hg.lt k hk)
theorem qeb (L:LatP N le jn bot){m:Fm}{f:Nat->Nat}(hf:Low m N le f)(hl:∀k,k<m.F.length->f k<N){k:Nat}(hk:k<m.F.length)(ha:(fAt m k).lb<0)(a:Nat)(haN:a<N)(hal:∀g,Sol m N le g->le a (g k))(xs:List Nat)(hx:∀x,x∈xs->∃j,j<m.F.length/\anyR m j k=true/\x=f j) :
 ∀g,Sol m N le g->le (xs.foldl jn a) (g k):=by
 intro g hg
 refine L.fold_le xs a (g k) haN (hg.lt k hk) (fun x hxx=>?_) (hal g hg)
 obtain⟨j,hj,hr,rfl⟩:=hx x hxx
 exact⟨hl j hj,L.trans _ _ _ (hl j hj) (hg.lt j hj) (hg.lt k hk) (hf g hg j hj) (hg.up k hk ha j hj hr)⟩
end
def cntB (M:Nat->Bool)(n:Nat):Nat:=((List.range n).filter M).length
theorem q9f (M:Nat->Bool)(n:Nat):cntB M (n+1)=cntB M n+if M n=true then 1 else 0:=by
 unfold cntB
 rw[Zg,List.filter_append,Yg]
 cases h:M n <;> simp[h]
theorem qg8 (M:Nat->Bool)(n:Nat):cntB M n<=n:=by
 induction n with
 | zero=>exact nR _
 | succ n ih=>rw[q9f];split <;> omega
def Snd (m:Fm)(k:Nat)(M:Nat->Bool):Prop:=∀i,M i=true->Rch m k i
theorem Snd.up {m:Fm}{k i:Nat}{M:Nat->Bool}(h:Snd m k M)(hr:Rch m k i):Snd m k (up M i true):=fun j hj=>by
 by_cases e:j=i
 . subst e;exact hr
 . rw[up_ne _ _ e]at hj;exact h j hj
def DirOk (m:Fm)(kz:Int)(c l:List Nat):Prop:=(¬ (0<=kz/\kz<c.length)/\l=[])∨(0<=kz/\kz<c.length/\∃M:Nat->Bool,(∀i,i<m.F.length->i≠kz.toNat->(M i=true ↔ Rch m kz.toNat i))/\l=dirBy M kz.toNat c)
theorem DirOk.eq {m:Fm}{kz:Int}{c l l':List Nat}(hc:∀x,x∈c->x<m.F.length)(h:DirOk m kz c l)(h':DirOk m kz c l'):l=l':=by
 rcases h with ⟨h1,e⟩ | ⟨h1,h2,M,hM,e⟩
 . rcases h' with ⟨-,e'⟩ | ⟨h1',h2',-⟩
   . rw[e,e']
   . exact absurd ⟨h1',h2'⟩ h1
 . rcases h' with ⟨h1',-⟩ | ⟨-,-,M',hM',e'⟩
   . exact absurd ⟨h1,h2⟩ h1'
   . rw[e,e']
     unfold dirBy;refine List.filter_congr fun x hx=>?_;by_cases ex:x=kz.toNat
     . rw[Ym ex];rfl
     . rw[Yi ex,Bool.false_or,Bool.false_or]
       have a:=hM x (hc x hx) ex;have b:=hM' x (hc x hx) ex;cases h3:M x <;> cases h4:M' x
       . rfl
       . rw[a.2 (b.1 h4)]at h3;cases h3
       . rw[b.2 (a.1 h3)]at h4;cases h4
       . rfl
theorem DirOk.len {m:Fm}{kz:Int}{c l:List Nat}(h:DirOk m kz c l):l.length<=c.length:=by
 rcases h with ⟨-,e⟩ | ⟨-,-,M,-,e⟩
 . rw[e];simp
 . rw[e];exact List.length_filter_le _ _
theorem q9e {M M':Nat->Bool}:∀{n:Nat},(∀i,i<n->M i=true->M' i=true)->cntB M n<=cntB M' n:=by
 intro n
 induction n with
 | zero=>intro _;exact nR _
 | succ n ih =>
  intro h;rw[q9f,q9f];have:=ih fun i hi=>h i (by omega);have h2:=h n (by omega);cases e:M n
  . simp;split <;> omega
  . rw[h2 e];simp;exact this
theorem qg9 {M M':Nat->Bool}{j:Nat}:∀{n:Nat},(∀i,i<n->M i=true->M' i=true)->j<n->M j=false->M' j=true->cntB M n<cntB M' n:=by
 intro n
 induction n with
 | zero=>intro _ h;omega
 | succ n ih =>
  intro h hj h1 h2;rw[q9f,q9f];by_cases e:j=n
  . subst e
    have:=q9e (M:=M) (M':=M') (n:=j) fun i hi=>h i (by omega);rw[h1,h2];simp;omega
  . have:=ih (fun i hi=>h i (by omega)) (by omega) h1 h2
    have h3:=h n (by omega);cases e2:M n
    . simp;split <;> omega
    . rw[h3 e2];simp;exact this
section
variable {N:Nat} {F:Nat->Nat->Bool} {jn:Nat->Nat->Nat} {bot:Nat}
def rkL (F:Nat->Nat->Bool)(N a:Nat):Nat:=cntB (fun b=>F b a) N
theorem rkL_le (F:Nat->Nat->Bool)(N a:Nat):rkL F N a<=N:=qg8 _ _
theorem qec (L:LatP N (fun a b=>F a b=true) jn bot){a b:Nat}(ha:a<N)(hb:b<N)(h:F a b=true):rkL F N a<=rkL F N b:=q9e fun i hi hx=>L.trans i a b hi ha hb hx h
theorem rkL_lt (L:LatP N (fun a b=>F a b=true) jn bot){a b:Nat}(ha:a<N)(hb:b<N)(h:F a b=true)(hne:a≠b):rkL F N a<rkL F N b:=by
 refine qg9 (j:=b) (fun i hi hx=>L.trans i a b hi ha hb hx h) hb ?_ (L.refl b hb)
 cases e:F b a
 . rfl
 . exact absurd (L.anti a b ha hb h e) hne
def potL (F:Nat->Nat->Bool)(N n:Nat)(f:Nat->Nat):Nat:=((List.range n).map fun k=>rkL F N (f k)).sum
theorem pot_le (F:Nat->Nat->Bool)(N n:Nat)(f:Nat->Nat):potL F N n f<=n*N:=by
 unfold potL
 induction n with
 | zero=>simp
 | succ n ih =>
  rw[Zg];simp only[Zf,List.sum_append,Zx,Vs,List.sum_cons,List.sum_nil,Va];have:=rkL_le F N (f n);rw[Zt];omega
end
theorem qjo {n:Nat}{f g:Nat->Nat}(h:∀j,j<n->f j<=g j):((List.range n).map f).sum<=((List.range n).map g).sum:=by
 induction n with
 | zero=>exact nR _
 | succ n ih =>
  rw[Zg];simp only[Zf,List.sum_append,Zx,Vs,List.sum_cons,List.sum_nil,Va];have:=ih fun j hj=>h j (by omega);have:=h n (by omega);omega
theorem qjp {n:Nat}{f g:Nat->Nat}(h:∀j,j<n->f j<=g j){x:Nat}(hx:x<n)(hlt:f x<g x):((List.range n).map f).sum<((List.range n).map g).sum:=by
 induction n with
 | zero=>omega
 | succ n ih =>
  rw[Zg];simp only[Zf,List.sum_append,Zx,Vs,List.sum_cons,List.sum_nil,Va];by_cases e:x=n
  . subst e
    have:=qjo (n:=x) fun j hj=>h j (by omega);omega
  . have:=ih (fun j hj=>h j (by omega)) (by omega)
    have:=h n (by omega);omega
section
variable {N:Nat} {F:Nat->Nat->Bool} {jn:Nat->Nat->Nat} {bot:Nat}
theorem qe2 (L:LatP N (fun a b=>F a b=true) jn bot){n:Nat}{f g:Nat->Nat}(hf:∀k,k<n->f k<N)(hg:∀k,k<n->g k<N)(h:∀k,k<n->F (f k) (g k)=true):potL F N n f<=potL F N n g:=qjo fun k hk=>qec L (hf k hk) (hg k hk) (h k hk)
theorem pot_lt (L:LatP N (fun a b=>F a b=true) jn bot){n:Nat}{f g:Nat->Nat}(hf:∀k,k<n->f k<N)(hg:∀k,k<n->g k<N)(h:∀k,k<n->F (f k) (g k)=true){x:Nat}(hx:x<n)(hne:f x≠g x):potL F N n f<potL F N n g :=
 qjp (fun k hk=>qec L (hf k hk) (hg k hk) (h k hk)) hx (rkL_lt L (hf x hx) (hg x hx) (h x hx) hne)
end
def rdA (m:Fm)(k:Nat):List Nat:=[(fAt m k).is,(fAt m k).wh,(fAt m k).va,(fAt m k).mu].flatMap (rdL (fNames m))
theorem qi4 {m:Fm}(h:VfA m){j k:Nat}(hj:j<m.F.length)(hk:k<m.F.length):j∈rdA m k ↔ anyR m j k=true:=by
 have hj':j<(fNames m).length:=by rw[q6w];exact hj
 have hkn:=h.knw hk
 unfold rdA anyR fedB watB
 simp only[Zo,List.flatMap_nil,Zr,Y9,Zs]
 rw[qi5 h.nod hkn.1 hj',qi5 h.nod hkn.2.1 hj',qi5 h.nod hkn.2.2.1 hj',qi5 h.nod hkn.2.2.2 hj',q6v hj]
 exact⟨fun h=>h.elim (fun h=>.inl (.inl h)) fun h=>h.elim (fun h=>.inl (.inr h)) fun h=>h.elim (fun h=>.inr (.inl h)) fun h=>.inr (.inr h),fun h=>h.elim (fun h=>h.elim .inl fun h=>.inr (.inl h)) fun h=>h.elim (fun h=>.inr (.inr (.inl h))) fun h=>.inr (.inr (.inr h))⟩
theorem rdA_lt {m:Fm}(h:VfA m){k:Nat}(hk:k<m.F.length):∀j,j∈rdA m k->j<m.F.length:=by
 intro j hj
 have hkn:=h.knw hk
 unfold rdA at hj
 simp only[Zo,List.flatMap_nil,Zr,Y9]at hj
 rw[<- q6w m]
 rcases hj with hj | hj | hj | hj
 . exact rdL_lt hkn.1 j hj
 . exact rdL_lt hkn.2.1 j hj
 . exact rdL_lt hkn.2.2.1 j hj
 . exact rdL_lt hkn.2.2.2 j hj
structure LbA (m:Fm):Prop where
 nf:m.F.length<=200
 dc:∀k,k<m.F.length->-1<=(fAt m k).lb/\(fAt m k).lb<m.L.length
theorem VfA.lba {m:Fm}(h:VfA m):LbA m:=⟨h.nf,fun k hk=>by
 have:=(q4r _ _ _).1 (h.fi _ (Yk hk))
 rw[qge hk]
 exact⟨this.l1,this.l2⟩⟩
theorem declared {m:Fm}(h:LbA m){k:Nat}(hk:k<m.F.length):-1<=(fAt m k).lb/\(fAt m k).lb<m.L.length:=h.dc k hk
structure Way (m:Fm)(N:Nat)(le:Nat->Nat->Prop)(f:Nat->Nat):Prop where
 low:Low m N le f
 lt:∀k,k<m.F.length->f k<N
 decl:∀k,k<m.F.length->0<=(fAt m k).lb->(f k:Int)=(fAt m k).lb
section
variable {N:Nat} {le:Nat->Nat->Prop} {jn:Nat->Nat->Nat} {bot:Nat}
theorem qbw (L:LatP N le jn bot){m:Fm}(hv:LbA m)(hN:m.L.length=N):Way m N le (startL m bot):=by
 refine⟨qbg L,fun k hk=>?_,fun k hk h0=>?_⟩
 . unfold startL
   have:=declared hv hk;split
   . exact L.bl
   . omega
 . unfold startL
   rw[Yu (by omega)];omega
theorem Way.rise (L:LatP N le jn bot){m:Fm}{f:Nat->Nat}(hf:Way m N le f){k:Nat}(hk:k<m.F.length)(ha:(fAt m k).lb<0)(a:Nat)(haN:a<N)(hal:∀g,Sol m N le g->le a (g k))(xs:List Nat)(hx:∀x,x∈xs->∃j,j<m.F.length/\anyR m j k=true/\x=f j):Way m N le (up f k (xs.foldl jn a)):=by
 have hlt:xs.foldl jn a<N:=L.fold_lt xs a haN fun x h=>by
  obtain⟨j,hj,-,rfl⟩:=hx x h;exact hf.lt j hj
 refine⟨fun g hg i hi=>?_,fun i hi=>?_,fun i hi h0=>?_⟩
 . by_cases e:i=k
   . subst e;rw[up_at];exact qeb L hf.low hf.lt hk ha a haN hal xs hx g hg
   . rw[up_ne _ _ e];exact hf.low g hg i hi
 . by_cases e:i=k
   . subst e;rw[up_at];exact hlt
   . rw[up_ne _ _ e];exact hf.lt i hi
 . by_cases e:i=k
   . subst e;omega
   . rw[up_ne _ _ e];exact hf.decl i hi h0
theorem Way.sol {m:Fm}{f:Nat->Nat}(hf:Way m N le f)(h:∀k,k<m.F.length->(fAt m k).lb<0->∀j,j<m.F.length->anyR m j k=true->le (f j) (f k)):Sol m N le f:=⟨hf.lt,hf.decl,h⟩
end
end Go.Proofs.YtebbgodlijlioaaGreatDoor
namespace Go.Proofs.YtebbgodlijlioaaGreatDoor
open Go Go.RowKit
theorem q2n (m:Fm)(A:MA)(j k:Nat)(w:World)(hj:j<m.F.length)(hk:k<m.F.length)(hf:FitM m)(ha:MSl w m A) :
 Calls Tryz.prog 140 #[mV m A,J9 j,J9 k] w fun r w'=>r=.returned (.bool (watB m j k))/\Below w.heap.size w w':=by
 obtain⟨al,alc,ap,apc,ar,arc,af,afc,afa⟩:=A
 unfold mV
 dsimp only
 have HK:=h_ (Blk.new w 28 (Jb al m alc ap apc ar arc af afc))
 have HB:=h_ ((bR w.heap.size w).alloc (nR _) (.cells (Jb al m alc ap apc ar arc af afc) 28))
 obtain⟨W0,hW0⟩:=Nq (w.alloc (.cells (Jb al m alc ap apc ar arc af afc) 28))
 rw[hW0]at HK HB
 have HS:=h_ (ha.mono HB.u)
 have hj':(j:Int)<m.F.length:=by omega
 have hk':(k:Int)<m.F.length:=by omega
 have hfl:=hf.fl
 have HE:Hi (watB m j k=(rdsN m.F[k].va m.F[j].nm||rdsN m.F[k].mu m.F[j].nm)):=h_ (by unfold watB;rw[qge hj,qge hk])
 have HI:=h_ (hf.f _ (Yk hk))
 clear ha hf
 obtain⟨b,o,e1,⟨-,z0,-⟩,-⟩:=HS.u.f j hj
 obtain⟨b',o',e2,⟨hbl,-,-,-,-,-,-,x4,-,x5⟩,hsl⟩:=HS.u.f k hk
 dsimp only at e1 e2 x4 x5 hsl
 subst e1
 cases e2
 have HSl:=h_ hsl
 clear hsl
 generalize m.F[j].nm=nm at *
 generalize m.F[k]=f at *
 generalize afa k=fa at *
 obtain⟨ab,abc,ai,aic,ah,ahc,av,avc,au,auc⟩:=fa
 dsimp only at x4 x5
 have HC1:=h_ (q5d av avc f.va nm W0 HI.u.vl HSl.u.v)
 obtain⟨y0,y1,y2,y3⟩:=quad HK.u
 generalize watB m j k=q at *
 go_enter Tryz.func140,Tryz.ntmps140
 go_wp2_with fail
 try rw[hW0]
 refine HC1.u.mono ?_
 rintro r W1 ⟨rfl,hb⟩
 have hx5:=(hb.cell (p:=⟨b,o+k*9+8,none⟩) hbl).trans x5
 replace HK:=mB HK hb;replace HB:=mT HB hb;replace HSl:=h_ (HSl.u.mono hb)
 clear hb hW0 y0 y1 y2 y3 z0 x4 x5 HC1
 obtain⟨y0,y1,y2,y3⟩:=quad HK.u
 cases hr:rdsN f.va nm
 . have HC2:=h_ (q5d au auc f.mu nm W1 HI.u.ul HSl.u.u)
   have HX:Hi (q=rdsN f.mu nm):=h_ (by rw[HE.u,hr];rfl);clear hr;go_wp2_with fail;refine HC2.u.mono ?_;rintro r W2 ⟨rfl,hb⟩;replace HB:=mT HB hb;clear hb;go_wp2_with fail;go_ret;exact⟨qe9 HX.u.symm,HB.u⟩
 . have HX:Hi (q=true):=h_ (by rw[HE.u,hr];rfl)
   clear hr;go_wp2_with fail;go_ret;exact⟨qe9 HX.u.symm,HB.u⟩
theorem qa9 (m:Fm)(A:MA)(j k:Nat)(w:World)(hj:j<m.F.length)(hk:k<m.F.length)(hf:FitM m)(ha:MSl w m A) :
 Calls Tryz.prog 108 #[mV m A,J9 j,J9 k] w fun r w'=>r=.returned (.bool (anyR m j k))/\Below w.heap.size w w':=by
 have HC1:=h_ fun W (hs:MSl W m A)=>q5b m A j k W hj hk hf hs
 have HC2:=h_ fun W (hs:MSl W m A)=>q2n m A j k W hj hk hf hs
 obtain⟨al,alc,ap,apc,ar,arc,af,afc,afa⟩:=A
 unfold mV at HC1 HC2⊢
 dsimp only at HC1 HC2⊢
 have HK:=h_ (Blk.new w 28 (Jb al m alc ap apc ar arc af afc))
 have HB:=h_ ((bR w.heap.size w).alloc (nR _) (.cells (Jb al m alc ap apc ar arc af afc) 28))
 obtain⟨W0,hW0⟩:=Nq (w.alloc (.cells (Jb al m alc ap apc ar arc af afc) 28))
 rw[hW0]at HK HB
 have HS:=h_ (ha.mono HB.u)
 have HE:Hi (anyR m j k=(fedB m j k||watB m j k)):=h_ rfl
 generalize anyR m j k=q at *
 clear ha hf
 obtain⟨y0,y1,y2,y3⟩:=quad HK.u
 go_enter Tryz.func108,Tryz.ntmps108
 go_wp2_with fail
 try rw[hW0]
 refine(HC1.u W0 HS.u).mono ?_
 rintro r W1 ⟨rfl,hb⟩
 replace HK:=mB HK hb;replace HB:=mT HB hb;replace HS:=h_ (HS.u.mono hb)
 clear hb hW0 y0 y1 y2 y3 HC1
 obtain⟨y0,y1,y2,y3⟩:=quad HK.u
 cases hr:fedB m j k
 . have HX:Hi (q=watB m j k):=h_ (by rw[HE.u,hr];rfl)
   clear hr;go_wp2_with fail;refine(HC2.u W1 HS.u).mono ?_;rintro r W2 ⟨rfl,hb⟩;replace HB:=mT HB hb;clear hb;go_wp2_with fail;go_ret;exact⟨qe9 HX.u.symm,HB.u⟩
 . have HX:Hi (q=true):=h_ (by rw[HE.u,hr];rfl)
   clear hr;go_wp2_with fail;go_ret;exact⟨qe9 HX.u.symm,HB.u⟩
theorem q5t {w:World}{base:Nat}{e:TypeId}{v:Value}{n:Nat}{us:List Nat}(h:w.ownsRow base e 1 v n (ui us)):∃a cap,v=.slice a n cap/\n=us.length/\Plc w a us:=by
 have hlen:us.length=n:=by have:=h.1;simpa [ui] using this
 obtain⟨a,cap,e1,hi⟩:=q3f h
 refine⟨a,cap,e1,hlen.symm,fun k hk=>?_⟩
 have hk':k<us.length:=by simpa using hk
 obtain⟨b,o,e2,h1,h2⟩:=hi k (by omega)
 refine⟨b,o,e2,h1,?_⟩
 rw[h2]
 dsimp only
 rw[Yl,Yj hk',Yl,Zk,Yj hk']
 rfl
def DCel (w:World)(b o:Nat)(v0 v1:Value):Prop:=b<w.heap.size/\w.cell? ⟨b,o,none⟩=some v0/\w.cell? ⟨b,o+1,none⟩=some v1
theorem DCel.mono {w w':World}{b o:Nat}{v0 v1:Value}(h:DCel w b o v0 v1)(hb:Below w.heap.size w w'):DCel w' b o v0 v1:=⟨Y7 h.1 hb.size,(hb.cell h.1).trans h.2.1,(hb.cell h.1).trans h.2.2⟩
theorem qah {w w':World}{G n:Nat}{e:Nat->Nx}(h:Nods w (some ⟨G,0,none⟩) n e)(hk:w'.heap[G]? = w.heap[G]?)(hz:w'.heap.size=w.heap.size):Nods w' (some ⟨G,0,none⟩) n e:=fun k hkn=>by
 obtain⟨b,o,e1,h0,h1,h2,h3,h4,h5⟩:=h k hkn
 cases e1
 exact⟨G,0,rfl,by rw[hz];exact h0,(World.cell?_of_block (a:=⟨G,0+k*5,none⟩) hk).trans h1,(World.cell?_of_block (a:=⟨G,0+k*5+1,none⟩) hk).trans h2,(World.cell?_of_block (a:=⟨G,0+k*5+2,none⟩) hk).trans h3,(World.cell?_of_block (a:=⟨G,0+k*5+3,none⟩) hk).trans h4,(World.cell?_of_block (a:=⟨G,0+k*5+4,none⟩) hk).trans h5⟩
theorem qa0 {w w':World}{G n:Nat}{e:Nat->Int}(h:Ints w (some ⟨G,0,none⟩) n e)(hk:w'.heap[G]? = w.heap[G]?)(hz:w'.heap.size=w.heap.size):Ints w' (some ⟨G,0,none⟩) n e:=fun k hkn=>by
 obtain⟨b,o,e1,h0,h1⟩:=h k hkn
 cases e1
 exact⟨G,0,rfl,by rw[hz];exact h0,(World.cell?_of_block (a:=⟨G,0+k,none⟩) hk).trans h1⟩
theorem Nods.other {w:World}{G n:Nat}{e:Nat->Nx}(h:Nods w (some ⟨G,0,none⟩) n e){R:Nat}(hR:G≠R)(j:Nat)(v:Value):Nods (w.setCell ⟨R,j,none⟩ v) (some ⟨G,0,none⟩) n e:=qah h (heap_setCell_other w ⟨R,j,none⟩ G v hR) (by simp)
theorem Ints.other {w:World}{G n:Nat}{e:Nat->Int}(h:Ints w (some ⟨G,0,none⟩) n e){R:Nat}(hR:G≠R)(j:Nat)(v:Value):Ints (w.setCell ⟨R,j,none⟩ v) (some ⟨G,0,none⟩) n e:=qa0 h (heap_setCell_other w ⟨R,j,none⟩ G v hR) (by simp)
def FarA (N:Nat)(A:FA):Prop:=∃g1 g2 g3 g4 g5:Nat,A.b=some ⟨g1,0,none⟩/\A.i=some ⟨g2,0,none⟩/\A.h=some ⟨g3,0,none⟩/\A.v=some ⟨g4,0,none⟩/\A.u=some ⟨g5,0,none⟩/\N<=g1/\N<=g2/\N<=g3/\N<=g4/\N<=g5
theorem FSl.keep {w w':World}{f:Fl}{A:FA}{N:Nat}(h:FSl w f A)(hA:FarA N A)(hk:∀G,N<=G->w'.heap[G]? = w.heap[G]?)(hz:w'.heap.size=w.heap.size):FSl w' f A:=by
 obtain⟨g1,g2,g3,g4,g5,e1,e2,e3,e4,e5,l1,l2,l3,l4,l5⟩:=hA
 obtain⟨h1,h2,h3,h4,h5⟩:=h
 unfold IntL at h1
 unfold NodL at h2 h3 h4 h5
 rw[e1]at h1;rw[e2]at h2;rw[e3]at h3;rw[e4]at h4;rw[e5]at h5
 refine⟨?_,?_,?_,?_,?_⟩
 . unfold IntL;rw[e1];exact qa0 h1 (hk _ l1) hz
 . unfold NodL;rw[e2];exact qah h2 (hk _ l2) hz
 . unfold NodL;rw[e3];exact qah h3 (hk _ l3) hz
 . unfold NodL;rw[e4];exact qah h4 (hk _ l4) hz
 . unfold NodL;rw[e5];exact qah h5 (hk _ l5) hz
def FBk (N:Nat)(w:World)(f:Fl)(A:FA):Prop:=∃g1 g2 g3 g4 g5:Nat,A.b=some ⟨g1,0,none⟩/\A.i=some ⟨g2,0,none⟩/\A.h=some ⟨g3,0,none⟩/\A.v=some ⟨g4,0,none⟩/\A.u=some ⟨g5,0,none⟩/\(N<=g1/\N<=g2/\N<=g3/\N<=g4/\N<=g5)/\Bk w g1 3 f.bys.length/\Bk w g2 96 (f.is.length*5)/\Bk w g3 96 (f.wh.length*5)/\Bk w g4 96 (f.va.length*5)/\Bk w g5 96 (f.mu.length*5)
theorem FBk.keep {N:Nat}{w w':World}{f:Fl}{A:FA}(h:FBk N w f A)(hk:∀G,N<=G->G<w.heap.size->w'.heap[G]? = w.heap[G]?):FBk N w' f A:=by
 obtain⟨g1,g2,g3,g4,g5,e1,e2,e3,e4,e5,⟨l1,l2,l3,l4,l5⟩,b1,b2,b3,b4,b5⟩:=h
 exact⟨g1,g2,g3,g4,g5,e1,e2,e3,e4,e5,⟨l1,l2,l3,l4,l5⟩,b1.keep (hk _ l1 b1.lt),b2.keep (hk _ l2 b2.lt),b3.keep (hk _ l3 b3.lt),b4.keep (hk _ l4 b4.lt),b5.keep (hk _ l5 b5.lt)⟩
end Go.Proofs.YtebbgodlijlioaaGreatDoor
