import Derived.Test.YtenckgnkjkijnaaGreatDoorW25
import Derived.Test.YtenckgnkjkijnaaGreatDoorW23
set_option maxRecDepth 100000
set_option maxHeartbeats 64000000
namespace Go.Proofs.YtenckgnkjkijnaaGreatDoor
open Go Go.RowKit Go.Proofs.Tryz
def Fst (p:Nat->Prop)(n:Nat)(z:Int):Prop:=(z = -1/\∀k,k<n->¬ p k)∨∃k:Nat,k<n/\z=k/\p k/\∀j,j<k->¬ p j
theorem Fst.one {p:Nat->Prop}{n:Nat}{z j:Int}(f:Fst p n z)(g:Fst p n j):z=j:=by
 rcases f with ⟨d,f⟩ | ⟨b,m,d,h,k⟩ <;> rcases g with ⟨e,g⟩ | ⟨c,o,e,i,l⟩
 . rw[d,e]
 . exact absurd i (f c o)
 . exact absurd h (g b m)
 . have:b=c:=by
    rcases Nat.lt_trichotomy b c with a | a | a
    . exact absurd h (l b a)
    . exact a
    . exact absurd i (k c a)
   rw[d,e,this]
theorem Fst.iff {p h:Nat->Prop}{n:Nat}{z:Int}(d:Fst p n z)(e:∀a,a<n->(p a ↔ h a)):Fst h n z:=by
 rcases d with ⟨c,d⟩ | ⟨a,b,c,i,j⟩
 . exact .inl ⟨c,fun a b f=>d a b ((e a b).2 f)⟩
 . exact .inr ⟨a,b,c,(e a b).1 i,fun g k f=>j g k ((e g (by omega)).2 f)⟩
theorem Fst.bounds {p:Nat->Prop}{n:Nat}{z:Int}(a:Fst p n z):-1<=z/\z<n:=by
 rcases a with ⟨b,a⟩ | ⟨f,e,b,c,d⟩ <;> omega
def wV (m:Fm)(A:MA)(b:Nat):Value:=.agg #[.slice A.l m.L.length A.lc,.slice A.p m.P.length A.pc,.slice A.r m.R.length A.rc,.slice A.f m.F.length A.fc,.map (some b)]
section
variable {md:Region.Mode} {ops:Array Oper} {Q:Exit->Act->Tw->Prop} {S:Tw->Prop} {o:Oper} {a:Act} {fuel:Nat} {listed:Array Bool} {i:Nat} {w w':Tw}
theorem runZ {v:Value}(b:Tmp)(hi:ops[i]? = some o)(e:o.dst=some b)(g:Region.wanted o (yielded ops a.tmps)=true)(f:Region.ready md ops listed=[i])
 (hrun:(execOp a.eval o).run prog w=.ok (.value v) w') (d:S w') (c:wpAnyH prog md ops Q S fuel (listed.setIfInBounds i true) { tmps:=a.tmps.setIfInBounds b v,defers:=a.defers } w'):wpAnyH prog md ops Q S (fuel+1) listed a w :=
 wpAnyH_ready f (by simp) (kaD b hi e g hrun d c AllReadyH.nil)
end
theorem q7n (m:Fm)(A:MA)(b k:Nat)(w:Tw)(X:k<m.F.length)(V:MSl w m A) :
 Calls prog 141 #[wV m A b,J6 k] w fun d w'=>∃c,d=.returned (.slice (some ⟨c,0,none⟩) 2 2)/\Blk w' c 90 [.slice (A.fa k).i m.F[k].is.length (A.fa k).ic,.slice (A.fa k).h m.F[k].wh.length (A.fa k).hc]/\Bw w w':=by
 obtain⟨J,K,M,N,ar,O,H,t,I⟩:=A;unfold wV;dsimp only;obtain⟨s,ad,f,e⟩:=nw w 121 #[.slice J m.L.length K,.slice M m.P.length N,.slice ar m.R.length O,.slice H m.F.length t,.map (some b)];have G:=h_ (V.mono e);obtain⟨pb,q,C,⟨W,-,-,-,-,x,y,-⟩,-⟩:=G.f k X;dsimp only at C x y;subst C;have ae:(k:Int)<m.F.length:=by omega
 obtain⟨-,-,-,E,-⟩:=kaG f;have ag:=E;generalize m.F[k]=d at *;generalize I k=T at *;obtain⟨ab,Z,n,p,j,l,av,ac,au,aa⟩:=T;dsimp only at x y⊢;go_enter func141,ntmps141;go_wp2_with fail;refine wp_region_held_drew (S:=fun w'=>w'.cell? ⟨w.heap.size,3,none⟩=some (.slice (some ⟨pb,q,none⟩) m.F.length t)/\w'.cell? ⟨pb,q+k*9+4,none⟩=some (.slice n d.is.length p)/\w'.cell? ⟨pb,q+k*9+5,none⟩=some (.slice j d.wh.length l)) (by kernel_rfl) ⟨E,x,y⟩ (fun c=>?_);refine tkA 0 c ?_;refine tkA 1 c ?_;refine tkA 2 c ?_;refine tkA 3 c ?_;refine tkA 4 c ?_;refine tkA 5 c ?_;refine tkA 6 c ?_;refine tkA 7 c ?_;refine tkA 8 c ?_;refine tkA 9 c ?_;refine tkA 10 c ?_;refine tkA 11 c ?_;refine tkA 12 c ?_;refine tkA 13 c ?_;have z:Hi (Bw s s.drew):=h_ (bR _ _).drew;replace f:=h_ (f.mono z f.lt);replace e:=h_ (e.trans (z.mono e.size));have u:pb<s.drew.heap.size:=W;obtain⟨g,U⟩:=Nq s.drew;rw[U]at f e c u⊢;obtain⟨r,B⟩:=oB ((bR g.heap.size g).alloc (nR _) (.cells #[.slice n d.is.length p,.slice j d.wh.length l] 90)) (Blk.new g 90 #[.slice n d.is.length p,.slice j d.wh.length l]);obtain⟨V2,D⟩:=Nq (g.alloc (.cells #[.slice n d.is.length p,.slice j d.wh.length l] 90));have Y:g.alloc (.cells #[.slice n d.is.length p,.slice j d.wh.length l] 90)=V2:=D;rw[D]at r B;replace c:V2.cell? ⟨w.heap.size,3,none⟩=some (.slice (some ⟨pb,q,none⟩) m.F.length t)/\V2.cell? ⟨pb,q+k*9+4,none⟩=some (.slice n d.is.length p)/\V2.cell? ⟨pb,q+k*9+5,none⟩=some (.slice j d.wh.length l):=⟨(r.cell f.lt).trans c.1,(r.cell u).trans c.2.1,(r.cell u).trans c.2.2⟩;refine runZ (i:=14) (v:=.slice (some ⟨g.heap.size,0,none⟩) 2 2) (w':=V2) 19 rfl rfl (by rfl) (by kernel_rfl) (by simp[execOp,go_sem,Y]) c ?_;refine kaS (by(first | simp only[Ya,Yb] | skip);rfl) (by(first | simp only[Ya,Yb] | skip);rfl) ?_;refine tkA 15 c ?_;refine wdQ ?_;go_wp2_with fail;go_ret;exact⟨_,rfl,B,e.trans (r.mono e.size)⟩
theorem qgd (m:Fm)(A:MA)(b:Nat)(w:Tw) :
 Calls prog 68 #[wV m A b] w fun c w'=>c=.returned (.func (.func 100) #[] #[J9 w.heap.size 0])/\Blk w' w.heap.size 121 [.slice A.l m.L.length A.lc,.slice A.p m.P.length A.pc,.slice A.r m.R.length A.rc,.slice A.f m.F.length A.fc,.map (some b)]/\Bw w w':=by
 obtain⟨e,g,h,j,ar,k,c,d,r⟩:=A;unfold wV;dsimp only;obtain⟨q,n⟩:=oB (Blk.new w 121 #[.slice e m.L.length g,.slice h m.P.length j,.slice ar m.R.length k,.slice c m.F.length d,.map (some b)]) ((bR w.heap.size w).alloc (nR _) (.cells #[.slice e m.L.length g,.slice h m.P.length j,.slice ar m.R.length k,.slice c m.F.length d,.map (some b)] 121));go_enter func68,ntmps68;go_wp2_with fail;go_ret;exact⟨rfl,q,n⟩
theorem kfj {l:List Nx}{k:Nat}(a:k<l.length):nf l k∈l:=by rw[kb7 l k a];exact Yi a
theorem qro {a:List Tb}{l:List Nx}{k:Nat}(b:k<l.length)(c:(nf l k).op=1):rdL a (l.take (k+1))=rdL a (l.take k)++[kdI a (nf l k).nm]:=by
 rw[kb7 l k b]at c⊢;unfold rdL;rw[Ys b,List.filter_append,Zl];simp[c]
theorem qgp {c:List Tb}{l:List Nx}{k:Nat}(a:k<l.length)(b:¬ (nf l k).op=1):rdL c (l.take (k+1))=rdL c (l.take k):=by
 rw[kb7 l k a]at b;unfold rdL;rw[Ys a,List.filter_append,Zl];simp[b]
theorem q6f (a:List Tb)(l:List Nx)(k:Nat):(rdL a (l.take k)).length<=(rdL a l).length:=by
 unfold rdL;rw[Zp,Zp];exact((List.take_sublist k l).filter _).length_le
theorem qf4 {a:List Tb}{rs:List (List Nx)}{k:Nat}(b:k<rs.length):(rs.take (k+1)).flatMap (rdL a)=(rs.take k).flatMap (rdL a)++rdL a rs[k]:=by
 rw[Ys b,V7];simp
theorem qf2 {a:List Tb}{rs:List (List Nx)}{k:Nat}(b:k<rs.length):((rs.take k).flatMap (rdL a)).length+(rdL a rs[k]).length<=(rs.flatMap (rdL a)).length:=by
 rw[<- Yj,<- qf4 b]
 conv=>rhs;rw[<- Vc (k+1) rs,V7,Yj]
 omega
theorem qnb {a:List Tb}(d:a.Nodup){x:Tb}(c:x∈a)(z:DataW Unit):(mp a).atKey (kl x) z=.lit (.int .i64 ((kdI a x:Nat):Int)):=by
 have b:=kg9 a d z (kdI a x) (qof c);rw[qj5 c]at b;exact b
theorem qpw {D z:DataW Unit}{k:Lit}{b x:Int}(c:D.atKey k z=.lit (.int .i64 b))(a:D.atKey k z=.lit (.int .i64 x)):b=x:=by
 rw[c]at a;injection a with a
 injection a
theorem q4m (base:Nat)(l:List Nat)(x:Nat)(v:Value)(w:Tw)(i:w.ownsRow base 3 1 v l.length (ui l))(q:l.length<=1000000)(f:base<=w.heap.size) :
 Calls prog 142 #[v,J6 x] w fun c b=>∃a,c=.returned a/\b.ownsRow base 3 1 a (l++[x]).length (ui (l++[x]))/\Below base w b:=by
 obtain⟨o,h,k,m,n⟩:=info_parts kbf;have b:=h_ i;go_enter func142,ntmps142;go_wp2_with (at_builtin;refine wpList_append_own _ rfl _ _ 89 rfl base 3 o _ 1 8 underlying89 h k m n rfl (by omega) _ _ _ rfl (b.alloc _) ⟨w.heap.size,0,none⟩ 1 1 [J6 x] rfl rfl (qim w 3 _) (by simp[Value.oneCell']) (by unfold maxLen;omega) (by omega) (by simp;omega) ?_;intro a p j g _);have d:Hi (p.ownsRow base 3 1 a (l++[x]).length (ui (l++[x]))):=h_ (by simpa [ui] using j);have c:=h_ (((bR base w).alloc f (.cells #[J6 x] 3)).grown g (by simp;omega) (fun e e=>qc8 b e));go_ret;exact⟨a,rfl,d,c⟩
theorem q4w (k:List Nat->Value->Tw->Prop)(g c b:Nat)(R:Nat->To)(E:Nat->Nat)(rs:List (List Nx))(d:List Tb)(G:Value)(w:Tw)(n:g<w.heap.size)(hn:rs.length<=1000)
 (m:∀a (s:a<rs.length),w.cell? ⟨g,a,none⟩=some (.slice (R a) rs[a].length (E a))/\rs[a].length<=1000000/\kb0 w (R a) rs[a]/\(∀i,i<rs[a].length->Fit (nf rs[a] i))/\kas d rs[a]=true)
 (v:d.Nodup) (t:kbR w b d) (j:∀l h e f,k l h e->Bw e f->k l h f)
 (x:∀l o h e,Bw w e->k l h e->o<d.length->l.length<(rs.flatMap (rdL d)).length->Calls prog 142 #[h,J6 (o:Nat)] e fun q f=>∃r,q=.returned r/\k (l++[o]) r f/\Below w.heap.size e f)
 (e:k [] G w) :
 Calls prog 140 #[.slice (some ⟨g,0,none⟩) rs.length c,.map (some b),G,.func (.func 142) #[] #[]] w fun q f=>∃h,q=.returned h/\k (rs.flatMap (rdL d)) h f/\Bw w f:=by
 obtain⟨L,W,Q,HS,I,P⟩:=oF m t j x e n;have M:=h_ v;clear m t j x e v n;go_enter func140,ntmps140;go_wp2_with fail;go_loopw [2,15] (fun h i wr=>∃a:Nat,a<=rs.length/\i=J6 a/\k ((rs.take a).flatMap (rdL d)) h wr/\Bw w wr) (fun _ i _=>rs.length - (intOf i).toNat)
 case atStart=>exact⟨0,nZ _,rfl,I,bR _ _⟩
 case round =>
  obtain⟨a,hk,rfl,n,j⟩:=hrel;obtain⟨v,m⟩:=oB n j;clear n j;by_cases x:a<rs.length
  . have ah:(a:Int)<rs.length:=by omega
    obtain⟨e,al,y,f,t⟩:=L a x;have H:=(m.cell (p:=⟨g,a,none⟩) P).trans e;obtain⟨Y,N,S⟩:=oC y f t;have HT:Hi ((rs.take (a+1)).flatMap (rdL d)=(rs.take a).flatMap (rdL d)++rdL d rs[a]):=h_ (qf4 x);have V:Hi (((rs.take a).flatMap (rdL d)).length+(rdL d rs[a]).length<=(rs.flatMap (rdL d)).length):=h_ (qf2 x);clear e y f t;generalize (rs.take a).flatMap (rdL d)=l at *;generalize rs[a]=f at *;generalize R a=ak at *;generalize E a=ac at *;go_wp2_with fail;go_loopw [2,21] (fun h i t=>∃e:Nat,e<=f.length/\i=J6 e/\k (l++rdL d (f.take e)) h t/\Bw w t) (fun _ i _=>f.length - (intOf i).toNat)
    case atStart=>exact⟨0,nZ _,rfl,by have s:=v.u;simpa [rdL] using s,m⟩
    case round =>
     clear v m H;obtain⟨e,hq,rfl,n,j⟩:=hrel;obtain⟨A,m,J,X⟩:=oD n j (Y.mono j) (W.mono j);clear n j;by_cases n:e<f.length
     . have ai:(e:Int)<f.length:=by omega
       obtain⟨pb,po,rfl,-,H,z1,z2,z3,z4⟩:=J e n;have C:Hi ((nf f e).op=1->rdL d (f.take (e+1))=rdL d (f.take e)++[kdI d (nf f e).nm]/\(nf f e).nm∈d):=h_ fun h=>⟨qro n h,qfo S (kfj n) h⟩;have D:Hi (¬ (nf f e).op=1->rdL d (f.take (e+1))=rdL d (f.take e)):=h_ fun h=>qgp n h;have Z:Hi ((rdL d (f.take (e+1))).length<=(rdL d f).length):=h_ (q6f d f (e+1));have O:=h_ (N e n);generalize nf f e=i at *;obtain⟨Wd,ae,T,s⟩:=nw wr 190 (Je i);obtain⟨t,B,z⟩:=oC (m.trans (s.mono m.size)) (X.mono s) (Q _ _ _ _ A s);obtain⟨x0,x1,x2,x3,x4⟩:=kaG T;by_cases h:i.op=1
       . have aa:(i.op != 1)=false:=by rw[h];rfl
         have ad:(i.op==1)=true:=(by rw[h];rfl);obtain⟨F,j⟩:=C h;have y:=h_ F;have K:Hi ((mp d).atKey (kl i.nm) (.lit (.int .i64 0))=.lit (.int .i64 ((kdI d i.nm:Nat):Int))):=h_ (qnb M j _);have aj:=qof j;clear h F j C D;generalize kdI d i.nm=o at *;have U:Hi (keyOf prog 9 (.string i.nm)=some (kl i.nm)):=h_ (WideMaps.keyOf_string_mk underlying9 O.2.1);have F:=h_ (HS _ o _ Wd t z aj (by
          have:=V.u;have:=Z.u;rw[y.u,Yj]at this;rw[Yj];simp at this;omega))
         go_wp2_with (at_lookup;refine wpList_lookup_own_int _ rfl _ _ 119 rfl 9 3 .i64 (Maps.string_keyed underlying9) underlying119 underlying3 (Tryz.zeroValue3 _) b d.length (mp d) rfl (by first | exact B | (rw[ae];exact B)) _ _ rfl U ?_;intro pc j _;obtain rfl:=qpw j K;clear j);refine F.mono ?_;rintro q W2 ⟨r,rfl,ag,af⟩;have j:Hi (k (l++rdL d (f.take (e+1))) r W2):=h_ (by rw[y.u,<- Vy];exact ag);have C:=h_ (t.trans af);refine rQ ?_;exact⟨e+1,by omega,by go_num,j.u,C⟩
       . have aa:(i.op != 1)=true:=by simp[h]
         have ad:(i.op==1)=false:=(by simp[h]);have j:=z;rw[<- D.u h]at j;refine rQ ?_;exact⟨e+1,by omega,by go_num,j.u,t⟩
     . obtain rfl:e=f.length:=by omega
       have ai:¬ (f.length:Int)<(f.length:Int):=(by omega);have j:=A;rw[Yy (nR _),<- HT.u]at j;refine rQ ?_;exact⟨a+1,by omega,by go_num,j.u,m⟩
  . obtain rfl:a=rs.length:=by omega
    have ah:¬ (rs.length:Int)<(rs.length:Int):=(by omega);have j:=v;rw[Yy (nR _)]at j;go_wp2_with fail;go_ret;exact⟨_,rfl,j.u,m⟩
theorem qat (m:Fm)(A:MA)(b g k:Nat)(w:Tw)(l:VfA m)(z:kbe m)(c:k<m.F.length)(x:MSl w m A)(C:kbR w b (kaa m))(n:Blk w g 90 [.slice (A.fa k).i m.F[k].is.length (A.fa k).ic,.slice (A.fa k).h m.F[k].wh.length (A.fa k).hc]) :
 Calls prog 140 #[.slice (some ⟨g,0,none⟩) 2 2,.map (some b),J7,.func (.func 142) #[] #[]] w fun p q=>∃d,p=.returned d/\q.ownsRow w.heap.size 3 1 d (kbI m k).length (ui (kbI m k))/\Bw w q:=by
 have t:=(q7o _ _ _).1 (l.fi _ (Yi c));have s:=z.f _ (Yi c);have o:=l.knw c;obtain⟨pb,J,-,-,u⟩:=x.f k c;have y:kbI m k=[m.F[k].is,m.F[k].wh].flatMap (rdL (kaa m)):=by
  unfold kbI;rw[qoe c];simp
 rw[qoe c]at o;have B:=qj7 l c;rw[y]at B⊢;refine q4w (fun i d e=>e.ownsRow w.heap.size 3 1 d i.length (ui i)/\w.heap.size<=e.heap.size) g 2 b (fun a=>if a=0 then (A.fa k).i else (A.fa k).h) (fun a=>if a=0 then (A.fa k).ic else (A.fa k).hc) [m.F[k].is,m.F[k].wh] (kaa m) J7 w n.lt (by simp) ?_ l.nod C ?_ ?_ ⟨World.ownsRow_nil _ _ _ _,nR _⟩ |>.mono ?_
 . intro a h
   have j:=qls t.i;have r:=qls t.h;obtain rfl | rfl:a=0∨a=1:=by simp at h;omega
   . exact⟨n.cell 0,by show m.F[k].is.length<=_;omega,u.i,s.i,o.1⟩
   . exact⟨n.cell 1,by show m.F[k].wh.length<=_;omega,u.h,s.h,o.2.1⟩
 . rintro i d e v ⟨h,j⟩ a
   exact⟨h.kept (row:=none) ⟨a.os,a.tape,a.output,a.size,fun k c _=>a.block k c⟩ (Classical.em _),Y5 j a.size⟩
 . rintro i G d e a ⟨h,j⟩ I H
   refine(q4m w.heap.size i G d e h (by omega) j).mono ?_;rintro p v ⟨E,rfl,D,r⟩;exact⟨E,rfl,⟨D,Y5 j r.size⟩,r⟩
 . rintro p q ⟨d,rfl,⟨h,-⟩,a⟩
   exact⟨d,rfl,h,a⟩
def ke3 (N:Int)(m:Nat)(f g:Nat->Int)(code:Int):Prop:=∀(w:Tw) (X:To) (c:Nat),kbB w X m f g->Gv 87 #[.agg #[.int .i64 N,.slice X m c]] w (.tuple #[kaM,.int .i64 code])
def kej (N:Int)(m:Nat)(f g:Nat->Int)(code:Int):Prop:=∀(w:Tw) (X:To) (c:Nat),kbB w X m f g->Tab w->Gv 135 #[.agg #[.int .i64 N,.slice X m c]] w (.tuple #[kaM,.int .i64 code])
def ke4 (N:Int)(m:Nat)(f g:Nat->Int)(s:Nat)(F:Nat->Bool)(J M:Nat->Int)(bot top:Int):Prop:=∀(w:Tw) (X:To) (c:Nat),kbB w X m f g->Calls prog 87 #[.agg #[.int .i64 N,.slice X m c]] w fun e w' =>
 ∃a1 a2 a3 c1 c2 c3,e=.returned (.tuple #[.agg (Ji N a1 s c1 a2 c2 a3 c3 bot top),J6 0])/\ka1 w' a1 s F/\kbx w' a2 s J/\kbx w' a3 s M/\Bw w w'
def ke5 (N:Int)(m:Nat)(f g:Nat->Int)(s:Nat)(F:Nat->Bool)(J M:Nat->Int)(bot top:Int):Prop:=∀(w:Tw) (X:To) (c:Nat),kbB w X m f g->Tab w->Calls prog 135 #[.agg #[.int .i64 N,.slice X m c]] w fun e w' =>
 ∃G1 G2 G3,e=.returned (.tuple #[.agg #[J6 N,.slice (some ⟨G1,0,none⟩) s s,.slice (some ⟨G2,0,none⟩) s s,.slice (some ⟨G3,0,none⟩) s s,J6 bot,J6 top],J6 0])/\Blk w' G1 4 (bs s F)/\Blk w' G2 3 (is s J)/\Blk w' G3 3 (is s M)/\w.heap.size<=G1/\w.heap.size<=G2/\w.heap.size<=G3/\G1≠G2/\G1≠G3/\G2≠G3/\Bw w w'
def khz (N:Int)(m:Nat)(f g:Nat->Int)(s:Nat)(F:Nat->Bool):Prop:=∀(w:Tw) (X:To) (c:Nat),kbB w X m f g->Calls prog 125 #[.agg #[.int .i64 N,.slice X m c]] w fun e w'=>∃G,e=.returned (.slice (some ⟨G,0,none⟩) s s)/\Blk w' G 4 (bs s F)/\w.heap.size<=G/\Bw w w'
theorem kbB.congr {w:Tw}{a:To}{m:Nat}{f g d e:Nat->Int}(j:kbB w a m f g)(o:∀b,b<m->f b=d b)(p:∀b,b<m->g b=e b):kbB w a m d e:=fun b c=>by
 obtain⟨h,q,i,k,l,n⟩:=j b c;exact⟨h,q,i,k,by rw[<- o b c];exact l,by rw[<- p b c];exact n⟩
theorem qh1 (w:Tw)(n:Nat)(F:Nat->Bool)(a M:Nat->Int):∃b c d e,ka1 b c n F/\kbx b d n a/\kbx b e n M:=by
 have b:=((Blk.new w 4 (bs n F).toArray).alloc (.cells (is n a).toArray 3)).alloc (.cells (is n M).toArray 3);have c:=(Blk.new (w.alloc (.cells (bs n F).toArray 4)) 3 (is n a).toArray).alloc (.cells (is n M).toArray 3);have d:=Blk.new ((w.alloc (.cells (bs n F).toArray 4)).alloc (.cells (is n a).toArray 3)) 3 (is n M).toArray;exact⟨_,_,_,_,Blk.bools (f:=F) b,Blk.ints (f:=a) c,Blk.ints (f:=M) d⟩
theorem kgx (f g:Nat->Nat):∀b,(∀a,a<b->f a<32)->(∀a,a<b->g a<32)->∃h,kau h (pb f g b)
 | 0,_,_=>⟨fun _=>0,fun c _=>⟨Nat.zero_lt_of_lt (show 0<4294967296 by decide),fun d=>by simp[pb]⟩⟩
 | b+1,hf,hg=>by
  obtain⟨h,i⟩:=kgx f g b (fun a e=>hf a (by omega)) (fun a e=>hg a (by omega));have a:=i.add (hf b (by omega)) (hg b (by omega));exact⟨_,fun c e=>⟨(a c e).1,fun d=>((a c e).2 d).trans (qr8 f g b c d).symm⟩⟩
theorem khA (N:Int)(m:Nat)(f g:Nat->Int)(hm:m<=1048576):(∃o,(1<=o/\o<=4)/\ke3 N m f g o/\kej N m f g o)∨(∃a j b c F top,a<=1024/\kfX N a a a j b c F top/\ke4 N m f g a j b c F top/\ke5 N m f g a j b c F top/\khz N m f g a j):=by
 by_cases u:1<=N/\N<=32/\m<=256
 . by_cases E:∀c,c<m->0<=f c/\f c<N/\0<=g c/\g c<N
   . obtain⟨a,rfl⟩:∃a:Nat,N=a:=⟨N.toNat,by omega⟩
     have y:1<=a:=(by omega);have r:a<=32:=(by omega);have P:∀c,c<m->f c=(((f c).toNat:Nat):Int):=fun c t=>by have:=E c t;omega
     have Q:∀c,c<m->g c=(((g c).toNat:Nat):Int):=fun c t=>by have:=E c t;omega
     have A:∀c,c<m->(f c).toNat<a:=fun c t=>by have:=E c t;omega
     have B:∀c,c<m->(g c).toNat<a:=fun c t=>by have:=E c t;omega
     obtain⟨j,G⟩:=Nq (kbO a (kat kb3 (fun c=>(f c).toNat) (fun c=>(g c).toNat) m a));have Y:∀(d:Tw) (i:To) (k:Nat),kbB d i m f g->Calls prog 87 #[.agg (Jn a i m k)] d fun p l=>kce a j p l/\Bw d l:=fun d i k h =>
      q6m a i m k _ _ d y r u.2.2 (h.congr P Q) A B j G
     have W:∀(b:Ending) (I:Tw),kce a j b I->∀(d:Tw) (i:To) (k:Nat),kbB d i m f g->Tab d->Calls prog 135 #[.agg (Jn a i m k)] d fun p l=>kec a j d.heap.size b p I l/\Bw d l:=fun b I H d i k h D =>
      (q5a a i m k _ _ d y r u.2.2 (h.congr P Q) A B D).mono fun p l ⟨q,S,n,b,Rl,M,e,x,v,C⟩=>by
       have z:=khu r M A B G e;have w:∀e n,e<32->Rl e n=part j a (a*a) e n:=fun e n s=>((x e s).2 n).symm.trans ((z e s).2 n);have J:kau b (fun n e=>decide (e<a)&&part j a (a*a) e n):=v.congr fun e n _=>by
        by_cases q:n<a
        . rw[w n e (by omega)]
        . rw[Yd q];rfl
       have v:∀{e n},Le j a e n ↔ e<a/\kaE S e n:=qk4 r M A B G;refine⟨qlw y r z J (fun e n s q=>?_) (fun e s=>v.2 ⟨s,kaE.refl _ _⟩) (fun e n p b x=>v.2 ⟨(v.1 b).1,q9b (v.1 b).2 (v.1 x).2⟩) H C,q⟩;rw[w e n (by omega),Zh,ql2];exact⟨fun h=>h.2.2,fun h=>⟨s,q,h⟩⟩
     have zero:∀o:Int,(∀p l,kce a j p l->p=.returned (.tuple #[kaM,J6 o]))->(∀l,kce a j (.returned (.tuple #[kaM,J6 o])) l)->ke3 a m f g o/\kej a m f g o:=fun o y o=>by
      refine⟨fun d i k h=>(Y d i k h).mono fun p l ⟨e,n⟩=>⟨y p l e,n⟩,fun d i k h D=>(W _ d (o d) d i k h D).mono fun p l ⟨e,n⟩=>⟨?_,n⟩⟩;rcases e with ⟨Z,b,x⟩ | ⟨J,K,L,c1,c2,c3,T,U,V,F,top,b,-⟩
      . simp only[Ending.returned.injEq,Value.tuple.injEq,Array.mk.injEq,List.cons.injEq,Value.int.injEq,and_true,true_and]at b
        rw[x,b]
      . exfalso
        simp[kaM]at b;omega
     by_cases w:kdL j a
     . exact .inl ⟨2,by decide,zero 2 (fun p l h=>by
        rcases h with ⟨-,z⟩ | ⟨b,-⟩ | ⟨b,-⟩ | ⟨b,-⟩
        . exact z
        all_goals exact absurd w b) fun l=>.inl ⟨w,rfl⟩⟩
     by_cases H:∃o,o<a*a/\JF j a o<0
     . have O:¬ ∀o,o<a*a->0<=JF j a o:=fun h=>by obtain⟨o,C,b⟩:=H;have:=h o C;omega
       exact .inl ⟨3,by decide,zero 3 (fun p l h=>by
        rcases h with ⟨b,-⟩ | ⟨-,-,z⟩ | ⟨-,b,-⟩ | ⟨-,b,-⟩
        . exact absurd b w
        . exact z
        all_goals exact absurd b O) fun l=>.inr (.inl ⟨w,H,rfl⟩)⟩
     have R:∀o,o<a*a->0<=JF j a o:=fun o C=>Classical.byContradiction fun h=>H ⟨o,C,by omega⟩;by_cases O:∃o,o<a*a/\MF j a o<0
     . have X:¬ ∀o,o<a*a->0<=MF j a o:=fun h=>by obtain⟨o,C,b⟩:=O;have:=h o C;omega
       exact .inl ⟨4,by decide,zero 4 (fun p l h=>by
        rcases h with ⟨b,-⟩ | ⟨-,b,-⟩ | ⟨-,-,-,z⟩ | ⟨-,-,b,-⟩
        . exact absurd b w
        . exact absurd b H
        . exact z
        . exact absurd b X) fun l=>.inr (.inr (.inl ⟨w,R,O,rfl⟩))⟩
     have X:∀o,o<a*a->0<=MF j a o:=fun o C=>Classical.byContradiction fun h=>O ⟨o,C,by omega⟩;refine .inr ⟨a*a,j,JF j a,MF j a,kbz (kaA j a a) a,kbz (kaB j a a) a,kc0 r,?_,fun d i k h=>(Y d i k h).mono fun p l ⟨e,n⟩=>?_,fun d i k h D=>?_,fun d i k h=>by rw[<- G];exact q3i a i m k _ _ d y r u.2.2 (h.congr P Q) A B⟩
     . obtain⟨S,M⟩:=kgx (fun c=>(f c).toNat) (fun c=>(g c).toNat) m (fun c t=>Yn (A c t) r) (fun c t=>Yn (B c t) r)
       have v:∀{e n},Le j a e n ↔ e<a/\kaE S e n:=qk4 r M A B G;exact q77 y r (fun e s=>(v.2 ⟨s,kaE.refl _ _⟩).2.2) (fun e n k s q c b x=>(v.2 ⟨s,q9b (v.1 ⟨s,q,b⟩).2 (v.1 ⟨q,c,x⟩).2⟩).2.2) w R X
     . rcases e with ⟨b,-⟩ | ⟨-,b,-⟩ | ⟨-,-,b,-⟩ | ⟨-,-,-,J,K,L,c1,c2,c3,z,o,s,t⟩
       . exact absurd b w
       . exact absurd b H
       . exact absurd b O
       . exact⟨J,K,L,c1,c2,c3,z,o,s,t,n⟩
     . obtain⟨I,J,K,L,o,s,t⟩:=qh1 d (a*a) j (JF j a) (MF j a)
       refine(W _ I (.inr (.inr (.inr ⟨w,R,X,J,K,L,0,0,0,rfl,o,s,t⟩))) d i k h D).mono fun p l ⟨e,n⟩=>?_;rcases e with ⟨Z,b,-⟩ | ⟨M,S,aa,c1,c2,c3,T,U,V,F,top,b,x,-,-,-,v,z,C,c⟩
       . exfalso
         simp[kaM]at b;omega
       . simp only[Ending.returned.injEq,Value.tuple.injEq,Value.agg.injEq,Array.mk.injEq,List.cons.injEq,Value.int.injEq,Value.slice.injEq,and_true,true_and]at b
         obtain⟨-,-,-,q,D⟩:=b;rw[<- q,<- D]at x;exact⟨T,U,V,x,v,z,C,c.1,c.2.1,c.2.2.1,c.2.2.2.1,c.2.2.2.2.1,c.2.2.2.2.2,n⟩
   . refine .inl ⟨1,by decide,fun d i k h=>q4e N i m k d fun l q=>q1f N i m k f g l u.1 u.2.1 u.2.2 (h.mono q) false ⟨(fun b=>by cases b),fun b=>absurd b E⟩,fun d i k h _=>q3d N i m k d fun l q=>q4i N i m k f g l u.1 u.2.1 u.2.2 (h.mono q) false ⟨(fun b=>by cases b),fun b=>absurd b E⟩⟩
 . exact .inl ⟨1,by decide,fun d i k _=>q4e N i m k d fun l _=>q1g N i m k l (by omega) u,fun d i k _ _=>q3d N i m k d fun l _=>q4j N i m k l (by omega) u⟩
theorem khB (N:Int)(m:Nat)(f g:Nat->Int)(n:m<=1048576):(∃a,(1<=a/\a<=4)/\ke3 N m f g a/\kej N m f g a)∨(∃a b c d e top,a<=1024/\kfX N a a a b c d e top/\ke4 N m f g a b c d e top/\ke5 N m f g a b c d e top):=by
 rcases khA N m f g n with h | ⟨a,b,c,d,e,top,i,j,k,l,-⟩
 . exact .inl h
 . exact .inr ⟨a,b,c,d,e,top,i,j,k,l⟩
end Go.Proofs.YtenckgnkjkijnaaGreatDoor
namespace Go.Proofs.YtenckgnkjkijnaaGreatDoor
open Go Go.Proofs.Tryz
theorem qpv {N r top:Int}{s n k i:Nat}{F:Nat->Bool}{g M:Nat->Int}(e:kcD N s s s F g M r top n k i):kb4 n (fun a b=>F (a*n+b)=true) (fun a b=>(g (a*n+b)).toNat) k:=by
 refine⟨fun a c=>(e.rows a c).1,fun a b m c d o j l=>((e.rows a c).2.2.2 b d).2 m o j l,fun a b c d j l=>Classical.byContradiction fun t=>((e.rows a c).2.2.2 b d).1 ⟨t,j,l⟩,e.bb,fun a c=>(e.rows a c).2.1,fun a b c d=>?_,fun a b c d=>?_,fun a b c d=>?_,fun a b m c d o j l=>?_⟩
 . obtain⟨p,q,f,-,h,-⟩:=e.ents a c b d
   show(g (a*n+b)).toNat<n;rw[f];simpa using h
 . obtain⟨p,q,f,-,-,-,h,-⟩:=e.ents a c b d
   show F (a*n+(g (a*n+b)).toNat)=true;rw[f];simpa using h.1
 . obtain⟨p,q,f,-,-,-,h,-⟩:=e.ents a c b d
   show F (b*n+(g (a*n+b)).toNat)=true;rw[f];simpa using h.2.1
 . obtain⟨p,q,f,-,-,-,h,-⟩:=e.ents a c b d
   show F ((g (a*n+b)).toNat*n+m)=true;rw[f];simpa using h.2.2 m o j l
theorem qjz {N d top:Int}{s n k i a b:Nat}{F:Nat->Bool}{c M:Nat->Int}(e:kcD N s s s F c M d top n k i)(f:a<n)(g:b<n):c (a*n+b)=(((c (a*n+b)).toNat:Nat):Int):=by
 obtain⟨l,m,h,-,-,-,j,-⟩:=e.ents a f b g;rw[h];simp
theorem ql1 {w:Tw}{a:To}{l:List (Int × Int)}(f:Prs w a l):kbB w a l.length (fun b=>(l.getD b (0,0)).1) (fun b=>(l.getD b (0,0)).2):=fun b c=>by
 obtain⟨d,j,e,g,h,i⟩:=f b c;refine⟨d,j,e,g,?_,?_⟩
 . dsimp only;rw[Yo,Yg c];exact h
 . dsimp only;rw[Yo,Yg c];exact i
end Go.Proofs.YtenckgnkjkijnaaGreatDoor
namespace Go.Proofs.YtenckgnkjkijnaaGreatDoor
open Go Go.RowKit Go.Proofs.Tryz
def lsL (f:Nat->Nat)(k:Nat):List Nat:=(List.range k).map f
theorem qk6 (f:Nat->Nat)(k:Nat):lsL f (k+1)=lsL f k++[f k]:=by
 unfold lsL;rw[Zc,Zl];rfl
theorem qq1 (f:Nat->Nat)(k:Nat):(lsL f k).length=k:=by simp[lsL]
theorem qq0 {f:Nat->Nat}{k i:Nat}(a:i<(lsL f k).length):(lsL f k)[i]=f i:=by simp[lsL]
theorem qg2 {f g:Nat->Nat}{k:Nat}(b:∀a,a<k->f a=g a):lsL f k=lsL g k:=Zm fun a c=>b a (Yu.1 c)
theorem qru {w:Tw}{base c n i:Nat}{a:To}{f:Nat->Nat}(l:w.ownsRow base 3 1 (.slice a n c) n (ui (lsL f n)))(hi:i<n):∃b,a=some ⟨b,0,none⟩/\b<w.heap.size/\w.cell? ⟨b,i,none⟩=some (J6 (f i:Nat)):=by
 have o:=qq1 f n;have g:w.ownsRow base 3 1 (.slice a (lsL f n).length c) (lsL f n).length (ui (lsL f n)):=by rw[o];exact l
 obtain⟨d,j,e,k⟩:∃d j,Value.slice a (lsL f n).length c=.slice d (lsL f n).length j/\∀i (hi:i<(lsL f n).length),∃b,d=some ⟨b,0,none⟩/\b<w.heap.size/\w.cell? ⟨b,i,none⟩=some (J6 ((lsL f n)[i]:Nat)):=by
  rcases g.2 with ⟨h,k⟩ | ⟨b,p,q,h,r,m,s⟩
  . omega
  . refine⟨_,_,h,fun i hi=>⟨b,rfl,(Yq.1 m).1,?_⟩⟩
    rw[h]at g;rw[g.cellAt i (by omega)];simp[ui,hi]
 cases e;obtain⟨b,e,m,h⟩:=k i (by omega);rw[qq0]at h;exact⟨b,e,m,h⟩
theorem qgh {w w':Tw}{base n k:Nat}{t:TypeId}{v:Value}{xs:Tl}(b:w.ownsRow base t k v n xs)(a:Below w.heap.size w w'):w'.ownsRow base t k v n xs :=
 b.kept (row:=none) ⟨a.os,a.tape,a.output,a.size,fun d c _=>a.block d c⟩ (Classical.em _)
theorem qgr {w:Tw}{base n:Nat}{v:Value}{xs:Tl}(c:w.ownsRow base 3 1 v n xs):∃a b,v=.slice a n b:=by
 rcases c.2 with ⟨a,b⟩ | ⟨f,d,e,a,-⟩
 . exact⟨none,0,by rw[a,b]⟩
 . exact⟨_,_,a⟩
theorem qfa {x n y:Nat}(c:x<n)(hy:y<n)(a:n<=32):x*n+y<n*n/\wrap64 ((x:Int)*(n:Int))=((x*n:Nat):Int)/\wrap64 (((x*n:Nat):Int)+((y:Nat):Int))=((x*n+y:Nat):Int)/\((x*n+y:Nat):Int)<((n*n:Nat):Int)/\((x*n+y:Nat):Int)<(n:Int)*(n:Int):=by
 rw[<- Zd n n];have e:x*n+n<=n*n:=by rw[<- Z2];exact Vf _ c
 have f:n*n<=1024:=by have:=Nat.mul_le_mul a a;omega
 have b:x*n+y<n*n:=by omega
 generalize n*n=g at *;refine⟨b,?_,?_,by omega,by omega⟩
 . rw[<- Zd]
   generalize x*n=d at *;exact q6w (by omega) (by omega)
 . rw[<- Vw]
   generalize x*n=d at *;exact q6w (by omega) (by omega)
theorem q5x (m:Fm)(A:MA)(w:Tw)(N aT top:Int)(s n o tp:Nat)(F:Nat->Bool)(aw M:Nat->Int)(a1 a2 a3:To)(c1 c2 c3:Nat)(k:LbA m)(q:kbe m)(c:kcD N s s s F aw M aT top n o tp)(l:m.L.length=n)(h:MSl w m A)(i:kbx w a2 s aw) :
 Calls prog 129 #[mV m A,.agg (Ji N a1 s c1 a2 c2 a3 c3 aT top)] w fun p V=>∃b a d,p=.returned (.slice a m.F.length d)/\Sol m n (fun f g=>F (f*n+g)=true) b/\Low m n (fun f g=>F (f*n+g)=true) b/\Plc V a (lsL b m.F.length)/\Below w.heap.size w V:=by
 obtain⟨HL,HV,a9⟩:=oC c k l;have Q:=h_ (qpv c);have e:=h_ fun f g (h:f<n) (d:g<n)=>qjz c h d;obtain⟨jn,a⟩:∃jn:Nat->Nat->Nat,(fun f g=>(aw (f*n+g)).toNat)=jn:=⟨_,rfl⟩;rw[a]at Q;have a4:Hi (∀f g,f<n->g<n->aw (f*n+g)=((jn f g:Nat):Int)):=h_ fun f g h d=>by rw[<- a];exact e f g h d
 clear e a;have aE:=h_ fun j e a (i:e<m.F.length) (hk:a<m.F.length) (r:MSl j m A)=>qfw m A e a j i hk q r;have bm:=k.nf;have bd:=c.hN;have d:=c.hb;have aW:=c.h32;have bC:=c.h1;have bo:=c.l2;have bw:=c.bb;subst bd d bo;clear c q l;obtain⟨al,ay,ap,az,ar,aA,af,ax,bv⟩:=A;unfold mV at aE⊢;dsimp only at aE⊢;obtain⟨P,Z⟩:=oB ((Blk.new w 37 (Jb al m ay ap az ar aA af ax)).alloc (.cells (Ji n a1 (n*n) c1 a2 c2 a3 c3 o top) 123)) (Blk.new (w.alloc (.cells (Jb al m ay ap az ar aA af ax) 37)) 123 (Ji n a1 (n*n) c1 a2 c2 a3 c3 o top));rw[Yp]at Z;have HB:=h_ (((bR w.heap.size w).alloc (nR _) (.cells (Jb al m ay ap az ar aA af ax) 37)).alloc (by simp) (.cells (Ji n a1 (n*n) c1 a2 c2 a3 c3 o top) 123));obtain⟨j,c⟩:=Nq ((w.alloc (.cells (Jb al m ay ap az ar aA af ax) 37)).alloc (.cells (Ji n a1 (n*n) c1 a2 c2 a3 c3 o top) 123));rw[c]at P Z HB;obtain⟨HS,a8⟩:=oB (h.mono HB) (i.mono HB);clear h i k;obtain⟨i,t⟩:=oB (qgj j 3) ((bR j.heap.size j).alloc (nR _) (.cells #[] 3));obtain⟨W1,h⟩:=Nq (j.alloc (.cells #[] 3));rw[h]at i t;obtain⟨H,I,J,x⟩:=kaf P;go_enter func129,ntmps129;go_wp2_with fail
 try rw[c]
 try rw[h]
 clear c h H I J x;go_loopw [6,7] (fun T c wr=>∃a:Nat,a<=m.F.length/\c=J6 a/\wr.ownsRow j.heap.size 3 1 T a (ui (lsL (kaI m o) a))/\Below j.heap.size j wr) (fun _ c _=>m.F.length - (intOf c).toNat)
 case atStart=>exact⟨0,nZ _,rfl,i,t⟩
 case round =>
  clear i t;obtain⟨a,hk,rfl,u,d⟩:=hrel;obtain⟨i,O⟩:=oB u d;have Y:=mB P d;have aj:=mB Z d;have aa:=h_ (HS.mono d);have ac:=d.size;clear u d;by_cases aK:a<m.F.length
  . have bl:(a:Int)<m.F.length:=by omega
    have HT:=h_ (qk6 (kaI m o) a);obtain⟨pb,po,rfl,⟨-,-,-,z2,-⟩,-⟩:=aa.f a aK;obtain⟨H,I,J,x⟩:=kaf Y;have y:=kcS HV aK;have v:(m.F[a].lb<0/\kaI m o a=o)∨(¬ m.F[a].lb<0/\m.F[a].lb=((kaI m o a:Nat):Int)):=by
     unfold kaI;rw[qoe aK];by_cases h:m.F[a].lb<0
     . exact .inl ⟨h,by rw[Yr h]⟩
     . exact .inr ⟨h,by rw[Yl h];omega⟩
    generalize kaI m o a=l at *;obtain⟨i0,q,D,E,G⟩:=info_parts kbf;have r:=aj.cell 4;simp only[Yf,Yz]at r;rcases v with ⟨aL,k⟩ | ⟨aL,k⟩
    case' inl =>
     rw[<- k]at r;clear k
    case' inr =>
     rw[k]at z2;have z:¬ ((l:Nat):Int)<0:=(by omega);clear k
    all_goals
     go_wp2_with (at_builtin;refine wpList_append_own _ rfl _ _ 89 rfl j.heap.size 3 i0 _ 1 8 underlying89 q D E G rfl (by omega) _ _ _ rfl (i.alloc _) ⟨wr.heap.size,0,none⟩ 1 1 [J6 l] rfl rfl (qim wr 3 _) (by simp[Value.oneCell']) (by unfold maxLen;omega) (by omega) (by simp;omega) ?_);intro v' W C B _;have R:Hi (W.ownsRow j.heap.size 3 1 v' (a+1) (ui (lsL (kaI m o) (a+1)))):=h_ (by rw[HT.u];simpa [ui] using C);have K:=h_ ((O.alloc ac (.cells #[J6 l] 3)).grown B (by simp;omega) (fun q' k=>qc8 i k));clear C B q D E G z2 H I J x r;go_wp2_with fail;go_roundw
     case rel=>first | exact⟨a+1,by omega,by go_num,R,K⟩ | ((repeat apply Exists.intro);exact⟨⟨a+1,by omega,by go_num,R,K⟩,rfl⟩)
     case measure=>simp[intOf];omega
  . obtain rfl:a=m.F.length:=by omega
    have bl:¬ (m.F.length:Int)<(m.F.length:Int):=(by omega);have y:=h_ (qi3 Q HV a9);obtain⟨U,r⟩:=Nq (m.F.length*n);have bD:(m.F.length:Int)*(n:Int)=(U:Int):=(by rw[<- Zd,r]);have bE:U<=6400:=(by rw[<- r];exact Nat.mul_le_mul bm aW);have ba:Hi (∀b,kcI (fun f g=>F (f*n+g)) n m.F.length b<=U):=h_ fun b=>by rw[<- r];exact kfo _ _ _ b
    clear r;obtain⟨a5,c5,e5⟩:=qgr i;rw[e5]at i;subst e5;go_wp2_with fail;go_loopw [6,8] (fun T p X=>∃(v:Nat) (b:Nat->Nat),v<=U+1/\p=J6 v/\X.ownsRow j.heap.size 3 1 T m.F.length (ui (lsL b m.F.length))/\Way m n (fun f g=>F (f*n+g)=true) b/\v<=kcI (fun f g=>F (f*n+g)) n m.F.length b/\Below j.heap.size j X) (fun _ p _=>U+1 - (intOf p).toNat)
    case atStart=>exact⟨0,_,nZ _,rfl,i,y,nZ _,O⟩
    case round =>
     clear i O Y aj aa ac y;obtain⟨v,b,hq,rfl,u,r,p,d⟩:=hrel;obtain⟨a5,c5,e5⟩:=qgr u;rw[e5]at u;subst e5;obtain⟨ao,z,aQ,O⟩:=oD u r p d;have aj:=mB Z d;have q0:=aj.cell 0;simp only[Yf]at q0;have ac:=d.size;clear u r p d;have bF:v<=U:=by
      have h1:=aQ.u;have r:=ba b;omega
     have bG:(v:Int)<=U:=(by omega);obtain⟨av,a7,i,t⟩:=oD (z.jac Q) (kgS Q z) (qgj wr 3) ((bR wr.heap.size wr).alloc (nR _) (.cells #[] 3));obtain⟨W3,p⟩:=Nq (wr.alloc (.cells #[] 3));rw[p]at i t;obtain⟨y,aB⟩:=Nq wr.heap.size;go_wp2_with fail
     try rw[p]
     rw[aB]at i;clear p q0;obtain⟨wz,aX⟩:=Nq wr;rw[aX]at ao O aj t aB ac;rw[aB]at t;go_loopw [9,10,11] (fun T ch kk X=>∃(a:Nat) (p:Bool),a<=m.F.length/\kk=J6 a/\ch=.bool p/\X.ownsRow y 3 1 T a (ui (lsL (jac m jn b) a))/\(p=true ↔ ∃c,c<a/\jac m jn b c≠b c)/\Below y wz X) (fun _ _ kk _=>m.F.length - (intOf kk).toNat)
     case atStart=>exact⟨0,false,nZ _,rfl,rfl,i,⟨(fun h=>by cases h),fun⟨c,h,_⟩=>absurd h (nL _)⟩,t⟩
     case round =>
      clear i t aX;obtain⟨a,p,bB,rfl,rfl,u,aC,d⟩:=hrel;obtain⟨t,am,ae⟩:=oC u aC d;have i:Hi (Below wz.heap.size wz wr):=h_ (by rw[aB];exact d);have E:y<=wr.heap.size:=(by have:=d.size;omega);clear u aC d;by_cases T:a<m.F.length
      . have bk:(a:Int)<m.F.length:=by omega
        have ag:=h_ (O.trans (i.mono ac));obtain⟨Y,aa⟩:=oB (P.mono ag P.lt) (HS.mono ag);obtain⟨pb,po,u,⟨bn,-,-,z2,-⟩,-⟩:=aa.f a T;dsimp only at u;obtain⟨H,I,J,x⟩:=kaf Y;rw[u]at x;clear u;obtain⟨aU,e2,bg,X⟩:=qru (qgh ao i) T;have be:(m.F[a].lb<0/\jac m jn b a=((rdO m a m.F.length).map b).foldl jn (b a))∨(¬ m.F[a].lb<0/\jac m jn b a=b a):=by
         unfold jac;rw[qoe T];by_cases h:m.F[a].lb<0
         . exact .inl ⟨h,by rw[Yr h]⟩
         . exact .inr ⟨h,by rw[Yl h]⟩
        generalize m.F[a].lb=lb at *;rcases be with ⟨aL,u⟩ | ⟨aL,u⟩
        . subst e2
          have bf:=z.lt a T;go_wp2_with fail;clear z2 H I J x X;obtain⟨wx,aM⟩:=Nq wr;rw[aM]at t ae i ag Y aa E bn bg;go_loopw [12,13] (fun xv jv W=>∃e:Nat,e<=m.F.length/\jv=J6 e/\xv=J6 ((((rdO m a e).map b).foldl jn (b a):Nat):Int)/\Below wx.heap.size wx W) (fun _ jv _=>m.F.length - (intOf jv).toNat)
          case atStart=>exact⟨0,nZ _,rfl,rfl,by rw[aM];exact bR _ _⟩
          case round =>
           clear aM;obtain⟨e,bi,rfl,rfl,d⟩:=hrel;have ai:=h_ d;have ah:=mT ag d;obtain⟨aG,aI,aq,aF,aH⟩:=oG (P.mono ah P.lt) (HS.mono ah) (Z.mono ah Z.lt) (a8.mono ah) (qgh (qgh ao i) d);have bH:=d.size;clear d;have aN:=Q.fold_lt _ _ bf (kdC z.lt a e bi);by_cases aJ:e<m.F.length
           . have bj:(e:Int)<m.F.length:=by omega
             have aV:=z.lt e aJ;have au:=h_ (qli m a e);obtain⟨H,I,J,x⟩:=kaf aG;have aP:=h_ (aE wr e a aJ T aI);generalize aY:((rdO m a e).map b).foldl jn (b a)=l at *;have aS:=h_ aY;clear aY;go_wp2_with fail;refine cQ aP fun W5 d=>?_;have aD:=mT ai d;obtain⟨aR,aZ,bc⟩:=oC (aq.mono d aq.lt) (aF.mono d) (qgh aH d);clear d H I J x aP aG aI aq aF aH;cases d:kcY m e a
             . have ak:Hi (((rdO m a (e+1)).map b).foldl jn (b a)=l):=h_ (by rw[au.u,d,<- aS.u];simp)
               clear d au;go_wp2_with fail;go_roundw
               case rel=>first | exact⟨e+1,by omega,by go_num,by rw[ak.u],aD⟩ | ((repeat apply Exists.intro);exact⟨⟨e+1,by omega,by go_num,by rw[ak.u],aD⟩,rfl⟩)
               case measure=>simp[intOf];omega
             . have ak:Hi (((rdO m a (e+1)).map b).foldl jn (b a)=jn l (b e)):=h_ (by rw[au.u,d,<- aS.u];simp)
               clear d au;obtain⟨bh,bp,bq,bx,bz⟩:=qfa aN aV aW;obtain⟨g',e2,-,X⟩:=qru bc aJ;cases e2;obtain⟨b2,o2,d,-,zj⟩:=aZ _ bh;rw[a4.u l (b e) aN aV]at zj;have x2:=aR.cell 2;have x0:=aR.cell 0;simp only[Yf,Yz]at x2 x0;rw[d]at x2;clear d;generalize jn l (b e)=bu at *;generalize b e=ad at *;generalize l*n+ad=q1 at *;generalize l*n=q2 at *;go_wp2_with fail;refine wp_region_held_drew (S:=fun V=>V.cell? ⟨w.heap.size+1,2,none⟩=some (.slice (some ⟨b2,o2,none⟩) (n*n) c2)/\V.cell? ⟨w.heap.size+1,0,none⟩=some (J6 n)/\V.cell? ⟨aU,e,none⟩=some (J6 (ad:Nat))/\V.cell? ⟨b2,o2+q1,none⟩=some (J6 (bu:Nat))) (by kernel_rfl) ⟨x2,x0,X,zj⟩ (fun d=>?_);clear x2 x0 X zj;refine tkA 0 d ?_;refine tkA 1 d ?_;refine tkA 2 d ?_;refine tkA 3 d ?_;refine tkA 4 d ?_;refine tkL 5 83 (J6 q2) d ?_ (hy:=fun w hS=>by simp[execOp,go_sem, *];exact(IntWalk.i64_left _).trans bp);refine tkA 6 d ?_;refine tkA 7 d ?_;refine tkA 8 d ?_;refine tkA 9 d ?_;refine tkL 10 88 (J6 q1) d ?_ (hy:=fun w hS=>by simp[execOp,go_sem, *];exact(IntWalk.i64_left _).trans bq);refine tkA 11 d ?_;refine tkA 12 d ?_;refine tkA 13 d ?_;refine wdQ ?_;have aO:=h_ (aD.drew);clear d;go_wp2_with fail;go_roundw
               case rel=>first | exact⟨e+1,by omega,by go_num,by rw[ak.u],aO⟩ | ((repeat apply Exists.intro);exact⟨⟨e+1,by omega,by go_num,by rw[ak.u],aO⟩,rfl⟩)
               case measure=>simp[intOf];omega
           . obtain rfl:e=m.F.length:=by omega
             have bj:¬ (m.F.length:Int)<(m.F.length:Int):=(by omega);rw[<- u];rw[<- u]at aN;replace t:=h_ (qgh t ai);replace ae:=h_ (ae.trans (ai.mono E));replace i:=h_ (i.trans (ai.mono i.size));clear ag Y aa ah aG aI aq aF aH ai u;obtain⟨aU,e2,-,X⟩:=qru (qgh ao i) T;cases e2;obtain⟨i0,q,D,E,G⟩:=info_parts kbf;have d:(jac m jn b a≠b a/\((((jac m jn b a:Nat):Int) != ((b a:Nat):Int))=true))∨(jac m jn b a=b a/\((((jac m jn b a:Nat):Int) != ((b a:Nat):Int))=false)):=by
              by_cases k:jac m jn b a=b a
              . exact .inr ⟨k,by rw[k];simp⟩
              . exact .inl ⟨k,by simp;omega⟩
             have bA:jac m jn b a<n:=av.lt a T;have HT:=h_ (qk6 (jac m jn b) a);have br:=i.size;have an:Hi (∀c2:Bool,(c2=true ↔ ∃c,c<a+1/\jac m jn b c≠b c) ↔ (c2=(p||decide (jac m jn b a≠b a)))):=h_ fun c2=>by
              have aC:=am.u;have h:(∃c,c<a+1/\jac m jn b c≠b c) ↔ (p||decide (jac m jn b a≠b a))=true:=by
               rw[Ze,decide_eq_true_iff,aC];constructor
               . rintro⟨c,h1,r⟩
                 by_cases k:c=a
                 . subst k;exact .inr r
                 . exact .inl ⟨c,by omega,r⟩
               . rintro (⟨c,h1,r⟩ | h)
                 . exact⟨c,by omega,r⟩
                 . exact⟨a,by omega,h⟩
              rw[h];cases c2 <;> cases (p||decide (jac m jn b a≠b a)) <;> simp
             rcases d with ⟨Y,d⟩ | ⟨Y,d⟩
             case' inl =>
              have V:Hi (true=true ↔ ∃c,c<a+1/\jac m jn b c≠b c):=h_ ((an true).2 (by rw[Ye Y];simp));clear Y an
             case' inr =>
              have V:Hi (p=true ↔ ∃c,c<a+1/\jac m jn b c≠b c):=h_ ((an p).2 (by rw[Yd (not_not_intro Y)];simp));clear Y an
             all_goals
              generalize jac m jn b a=l at *;generalize b a=ad at *;go_wp2_with (at_builtin;refine wpList_append_own _ rfl _ _ 89 rfl y 3 i0 _ 1 8 underlying89 q D E G rfl (by omega) _ _ _ rfl (t.alloc _) ⟨wr.heap.size,0,none⟩ 1 1 [J6 l] rfl rfl (qim wr 3 _) (by simp[Value.oneCell']) (by unfold maxLen;omega) (by omega) (by simp;omega) ?_);intro v' W C B _;have R:Hi (W.ownsRow y 3 1 v' (a+1) (ui (lsL (jac m jn b) (a+1)))):=h_ (by rw[HT.u];simpa [ui] using C);have K:=h_ ((ae.alloc (by omega) (.cells #[J6 l] 3)).grown B (by simp;omega) (fun q' k=>qc8 t k));clear C B q D E G X d;refine rQ ?_;exact⟨a+1,_,by omega,by go_num,rfl,R,by first | exact V | simpa using V.u,K⟩
        . have e:=h_ (qk6 (jac m jn b) a)
          have V:Hi (p=true ↔ ∃c,c<a+1/\jac m jn b c≠b c):=h_ (by
           rw[am.u];constructor
           . rintro⟨c,h1,r⟩
             exact⟨c,by omega,r⟩
           . rintro⟨c,h1,r⟩
             by_cases k:c=a
             . subst k;exact absurd u r
             . exact⟨c,by omega,r⟩)
          have HT:=e;rw[u]at HT;subst e2;have br:=i.size;obtain⟨i0,q,D,l,G⟩:=info_parts kbf;clear u e;generalize b a=ad at *;go_wp2_with (at_builtin;refine wpList_append_own _ rfl _ _ 89 rfl y 3 i0 _ 1 8 underlying89 q D l G rfl (by omega) _ _ _ rfl (t.alloc _) ⟨wr.heap.size,0,none⟩ 1 1 [J6 ad] rfl rfl (qim wr 3 _) (by simp[Value.oneCell']) (by unfold maxLen;omega) (by omega) (by simp;omega) ?_);intro v' W C B _;have R:Hi (W.ownsRow y 3 1 v' (a+1) (ui (lsL (jac m jn b) (a+1)))):=h_ (by rw[HT.u];simpa [ui] using C);have K:=h_ ((ae.alloc (by omega) (.cells #[J6 ad] 3)).grown B (by simp;omega) (fun q' k=>qc8 t k));clear C B q D l G X z2 H I J x;go_wp2_with fail;go_roundw
          case rel=>first | exact⟨a+1,p,by omega,by go_num,rfl,R,V,K⟩ | ((repeat apply Exists.intro);exact⟨⟨a+1,p,by omega,by go_num,rfl,R,V,K⟩,rfl⟩)
          case measure=>simp[intOf];omega
      . obtain rfl:a=m.F.length:=by omega
        have bk:¬ (m.F.length:Int)<(m.F.length:Int):=(by omega);have e:Hi (Below j.heap.size j wr):=h_ (O.trans (i.mono ac));cases p
        . have E:∀c,c<m.F.length->jac m jn b c=b c:=fun c q=>Classical.byContradiction fun h=>by have:=am.2 ⟨c,q,h⟩;cases this
          have x:=h_ (qpk Q z E);have D:=t.u;rw[qg2 E]at D;obtain⟨B,C,rfl,-,G⟩:=q99 D;obtain⟨u,l,h⟩:=oC G z.low (HB.trans (e.mono HB.size));clear D G E t;go_wp2_with fail;go_ret
          first | exact⟨b,B,C,rfl,x,l,u,h⟩ | exact⟨b,B,⟨C,rfl⟩,x,l,u,h⟩ | exact⟨b,⟨B,⟨C,rfl⟩,x,l,u⟩,h⟩
        . obtain⟨c,q,d⟩:=am.1 rfl
          have h:Hi (v+1<=kcI (fun f g=>F (f*n+g)) n m.F.length (jac m jn b)):=h_ (by
           have h1:=kfp (F:=fun f g=>F (f*n+g)) Q z.lt av.lt a7 q (fun k=>d k.symm);have r:=aQ.u;omega)
          have f:=h_ (qgg t (show j.heap.size<=y by omega));clear d;go_wp2_with fail;go_roundw
          case rel=>first | exact⟨v+1,jac m jn b,by omega,by go_num,f,av,h,e⟩ | ((repeat apply Exists.intro);exact⟨⟨v+1,jac m jn b,by omega,by go_num,f,av,h,e⟩,rfl⟩)
          case measure=>simp[intOf];omega
theorem qjp:(prog.info? 89).map (fun a=>(a.zero,a.size,a.bytes))=some (some J7,1,24):=by kernel_rfl
theorem qf8 {w:Tw}{base F n:Nat}(b:w.ownsRow base 89 1 (.slice (some ⟨F,0,none⟩) n n) n (madeCells #[Value.slice none 0 0] n).toList):ka5 w F n (fun _=>.slice none 0 0):=by
 have a:=Blk.of_owns b;rw[toList_madeCells_one]at a;unfold ka5;rw[List.map_const',Ox];exact a
theorem qsy {w:Tw}{base F n:Nat}(b:w.ownsRow base 3 1 (.slice (some ⟨F,0,none⟩) n n) n (madeCells #[Value.int .i64 0] n).toList):Blk w F 3 (zs n fun _=>0):=by
 have a:=Blk.of_owns b;rw[toList_madeCells_one]at a;unfold zs;rw[List.map_const',Ox];exact a
theorem kcN {w:Tw}{base:Nat}{v:Value}{l:List Nat}(e:w.ownsRow base 3 1 v l.length (ui l)):∃d a,v=.slice d l.length a/\∀b (c:b<l.length),∃a,d=some ⟨a,0,none⟩/\a<w.heap.size/\base<=a/\w.cell? ⟨a,b,none⟩=some (J6 (l[b]:Nat)):=by
 rcases e.2 with ⟨d,f⟩ | ⟨a,i,j,d,g,h,k⟩
 . exact⟨none,0,by rw[d,f],fun b c=>absurd c (by omega)⟩
 . subst d
   refine⟨_,_,rfl,fun b c=>⟨a,rfl,(Yq.1 h).1,g,?_⟩⟩;rw[e.cellAt b (by omega)];simp[ui,c]
theorem qkv {w:Tw}{base c:Nat}{a:To}{l:List Nat}(d:w.ownsRow base 3 1 (.slice a l.length c) l.length (ui l))(i:Nat)(hi:i<l.length):∃b,a=some ⟨b,0,none⟩/\b<w.heap.size/\base<=b/\w.cell? ⟨b,i,none⟩=some (J6 (l[i]:Nat)):=by
 obtain⟨f,g,b,e⟩:=kcN d;cases b;exact e i hi
theorem qok (m:Fm)(A:MA)(b:Nat)(w:Tw)(g:VfA m)(n:kbe m)(l:MSl w m A)(o:kbR w b (kaa m)) :
 Calls prog 101 #[wV m A b] w fun a e=>∃c k,a=.returned (.slice (some ⟨c,0,none⟩) m.F.length m.F.length)/\w.heap.size<=c/\ka5 e c m.F.length k/\Fam e (c+1) m.F.length k (kba m m.F.length)/\Below w.heap.size w e:=by
 obtain⟨HV,aj,aw⟩:=oC g (fun d a (hk:a<m.F.length) (h:MSl d m A)=>q7n m A b a d hk h) (fun d p a (hk:a<m.F.length) (h:MSl d m A) (hp:kbR d b (kaa m)) q=>qat m A b p a d g n hk h hp q);have aX:=g.nf;obtain⟨M,N,O,Q,ar,T,J,K,ac⟩:=A;unfold wV at aj⊢;dsimp only at aj aw⊢;obtain⟨W0,d,D,HB⟩:=nw w 121 #[.slice M m.L.length N,.slice O m.P.length Q,.slice ar m.R.length T,.slice J m.F.length K,.map (some b)];have au:W0.heap.size=w.heap.size+1:=by rw[<- d];simp
 obtain⟨HS,HM⟩:=oB l o;clear l o g n;obtain⟨i0,y,W,X,Y⟩:=info_parts qjp;have B:i0.bytes*m.F.length<=281474976710656:=by rw[Y];omega
 obtain⟨o,q,r,t,z⟩:=kaG D;go_enter func101,ntmps101;go_wp2_with (at_make;refine wpList_make_full _ rfl (.tmp 10) (.tmp 10) 181 rfl (w.heap.size+1) 89 i0 _ 1 underlying181 y W X .i64 .i64 _ _ m.F.length rfl rfl rfl rfl B (by unfold maxLen;omega) (by first | omega | (simp;done)) ?_);intro w1 s n
 try rw[d]at s n
 try rw[d]
 try rw[au]at s
 try rw[au]
 have l:Below (w.heap.size+1) W0 w1:=(bR _ _).grown n (by omega) (fun a x=>by cases x);obtain⟨c,hF⟩:=Nq (w.heap.size+1);rw[hF]at s l au
 try rw[hF]
 obtain⟨h,g⟩:=oB (qf8 s) l;clear s n l B y W X Y d o q r t z;replace HB:=h_ (HB.trans (g.mono (by omega)));replace D:=h_ (D.mono g (by omega));have aT:c<w1.heap.size:=h.lt;clear g;obtain⟨o,q,r,t,z⟩:=kaG D;go_wp2_with fail;clear o q r t z;go_loopw [16] (fun n wr=>∃(a:Nat) (k:Nat->Value),a<=m.F.length/\n=J6 a/\ka5 wr c m.F.length k/\Fam wr (c+1) m.F.length k (kba m a)/\Below c w1 wr) (fun n _=>m.F.length - (intOf n).toNat)
 case atStart=>exact⟨0,_,nZ _,rfl,h,Fam.none _ _ _,bR _ _⟩
 case round =>
  clear h;obtain⟨a,k,hk,rfl,r,q,l⟩:=hrel;obtain⟨h,t,B,G⟩:=oD r q l (D.mono l (by omega));have C:Hi (Below w.heap.size w wr):=h_ (HB.trans (l.mono (by omega)));obtain⟨ak,aB⟩:=oB (HS.mono C) (HM.mono C);have ad:c<wr.heap.size:=r.lt;clear r q l;by_cases U:a<m.F.length
  . have aP:(a:Int)<m.F.length:=by omega
    go_wp2_with fail;refine wp_region_held_drew (S:=fun e=>Blk e w.heap.size 121 [.slice M m.L.length N,.slice O m.P.length Q,.slice ar m.R.length T,.slice J m.F.length K,.map (some b)]) (by kernel_rfl) G (fun e=>?_);refine tkL 0 19 (.agg #[.slice M m.L.length N,.slice O m.P.length Q,.slice ar m.R.length T,.slice J m.F.length K,.map (some b)]) e ?_ (hy:=fun w d=>by obtain⟨q0,q1,q2,q3,q4⟩:=kaG d;simp[execOp,go_sem,q0,q1,q2,q3,q4]);refine tkA 1 e ?_;refine tkA 3 e ?_;refine tkL 4 23 (.map (some b)) e ?_ (hy:=fun w d=>by obtain⟨q0,q1,q2,q3,q4⟩:=kaG d;simp[execOp,go_sem,q4]);refine tkA 7 e ?_;have HD:Hi (Below wr.heap.size wr wr.drew):=h_ (bR _ _).drew;refine kaL (i:=2) (f:=141) (args:=#[.agg #[.slice M m.L.length N,.slice O m.P.length Q,.slice ar m.R.length T,.slice J m.F.length K,.map (some b)],J6 a]) (R:=fun z d=>∃p,z=.slice (some ⟨p,0,none⟩) 2 2/\Blk d p 90 [.slice (ac a).i m.F[a].is.length (ac a).ic,.slice (ac a).h m.F[a].wh.length (ac a).hc]/\Below wr.heap.size wr d) 21 rfl rfl (by rfl) (by kernel_rfl) ?hrun2 ((aj wr.drew a U (ak.mono HD)).mono fun x H ⟨p,F,E,l⟩=>⟨_,F,p,rfl,E,q36 l⟩) ?_
    case hrun2=>simp[execOp,go_sem]
    rintro z W2 ⟨p,rfl,E,g⟩;replace e:=G.mono g G.lt;have aR:=g.size;have o:=h_ g;have ax:=h_ E;clear E g;refine⟨e,?_⟩;refine kaS (by(first | simp only[Ya,Yb] | skip);rfl) (by(first | simp only[Ya,Yb] | skip);rfl) ?_;refine kaL (i:=5) (f:=140) (args:=#[.slice (some ⟨p,0,none⟩) 2 2,.map (some b),J7,.func (.func 142) #[] #[]]) (R:=fun z d=>d.ownsRow W2.heap.size 3 1 z (kbI m a).length (ui (kbI m a))/\Below W2.heap.size W2 d) 24 rfl rfl (by rfl) (by kernel_rfl) ?hrun5 ((aw W2 p a U (ak.mono o) (aB.mono o) ax).mono fun x H ⟨z,F,V,l⟩=>⟨z,F,V,l⟩) ?_
    case hrun5=>simp[execOp,go_sem]
    rintro z W3 ⟨V,F⟩;replace e:=e.mono F e.lt;have aS:=F.size;have aa:=h_ (Fam.snoc (t.mono o) F (by omega) V);obtain⟨I,E,rfl,-⟩:=kcN V;have ay:Hi (ka5 W3 c m.F.length (up k m.F.length (.slice I (kbI m a).length E))):=h_ (ka5.congr (show ka5 W3 c m.F.length k from Blk.mono (Blk.mono h o ad) F (by omega)) fun g d=>kaK _ _ (by omega));have ai:Hi (Below c w1 W3):=h_ ((B.trans (o.mono (by omega))).trans (F.mono (by omega)));have H:Hi ((up k m.F.length (.slice I (kbI m a).length E)) m.F.length=.slice I (kbI m a).length E):=h_ (ka2 _ _ _);rw[<- qew]at aa;generalize up k m.F.length (.slice I (kbI m a).length E)=V3 at *;have aO:=qj7 HV U;obtain⟨aA,aL⟩:=oB (qoi HV U) (fun d g=>qj8 HV U d g);have aD:Hi (∀Z,kbI m a=Z->∀d (am:d<Z.length),kc2 m a (d+1)=up (kc2 m a d) Z[d] (kc2 m a d Z[d]++[a])):=h_ fun Z x d am=>by subst x;exact qev am
    have aC:=h_ (qeu m a);clear V F o ax t h ak aB;refine⟨e,?_⟩;refine kaS (by(first | simp only[Ya,Yb] | skip);rfl) (by(first | simp only[Ya,Yb] | skip);rfl) ?_;clear e;have e:Blk W3 w.heap.size 121 [.slice M m.L.length N,.slice O m.P.length Q,.slice ar m.R.length T,.slice J m.F.length K,.map (some b)]:=G.lt |> fun am=>D.mono ai (by omega);refine tkA 6 e ?_;refine wdQ ?_;clear e;obtain⟨e,o⟩:=Nq (kbI m a);rw[o]at aa H aO aA aC⊢;have aM:=h_ (aD e o);clear aD o;go_wp2_with fail;go_loopw [26] (fun n F=>∃(d:Nat) (o:Nat->Value),d<=e.length/\n=J6 d/\o m.F.length=.slice I e.length E/\ka5 F c m.F.length o/\Fam F (c+1) (m.F.length+1) o (up (kc2 m a d) m.F.length e)/\Below c w1 F) (fun n _=>e.length - (intOf n).toNat)
    case atStart=>exact⟨0,_,nZ _,rfl,H,ay,aa,ai⟩
    case round =>
     clear H ay aa ai B G C ad aR aS;obtain⟨d,o,hp,rfl,ae,r,q,l⟩:=hrel;have ad:c<wr.heap.size:=r.lt;obtain⟨h,t,B,H⟩:=oD r q l ae;by_cases aq:d<e.length
     . have aQ:(d:Int)<e.length:=by omega
       have s:=q.own m.F.length (by omega);rw[ae,ka2]at s;obtain⟨g2,rfl,aV,-,zc⟩:=qkv s d aq;have aI:e[d]<m.F.length:=aA _ (Yi aq);have aW:((e[d]:Nat):Int)<m.F.length:=(by omega);have aN:=h_ (aM d aq);have aU:=aL d e[d];have F:=q.own e[d] (by omega);rw[kaK _ _ (by omega)]at F;have zj:=r.at aI;have aK:=h_ F;generalize e[d]=g at *;obtain⟨i0,y,W,X,Y⟩:=info_parts kbf;clear r q l ae s F;go_wp2_with (at_builtin;refine wpList_append_own_at _ rfl _ _ 89 rfl (c+1) 3 i0 _ 1 8 underlying89 y W X Y rfl (by omega) _ _ _ rfl (aK.alloc _) ⟨wr.heap.size,0,none⟩ 1 1 [J6 a] rfl rfl (qim wr 3 _) (by simp[Value.oneCell']) (by unfold maxLen;omega) (by omega) (by simp;omega) ?_);intro F G aJ ah _ aG;have ag:=(bR wr.heap.size wr).alloc (nR _) (.cells #[J6 a] 3);have ao:G.ownsRow (c+1) 3 1 F (up (kc2 m a d) m.F.length e g++[a]).length (ui (up (kc2 m a d) m.F.length e g++[a])):=by
        rw[kaK _ _ (by omega)];simpa [ui] using aJ
       obtain⟨a',c',e',-⟩:=kcN ao;obtain⟨n',s⟩:=Nq ((up (kc2 m a d) m.F.length e g++[a]).length);rw[s]at e';clear s;have Z:ka5 (wr.alloc (.cells #[J6 a] 3)) c m.F.length o:=Blk.mono h ag ad;have V:=t.mono ag;have av:=qm4 Z (by omega) V (by omega) ao ah (by rw[Yp];exact aG);have aF:c<(wr.alloc (.cells #[J6 a] 3)).heap.size:=Z.lt;have aH:=qa6 (j:=g) (v:=F) (B.trans (ag.mono (by omega))) (Zu c) aF (V.own g (by omega)) ah;have an:Blk G c 89 ((List.range m.F.length).map o):=Blk.grown Z ah (fun x=>by have:=((V.own g (by omega)).lt c x.symm).1;omega);have cF:G.cell? ⟨c,g,none⟩=some (o g):=ka5.at an aI;have fF:G.frozen? ⟨c,g,none⟩=false:=an.free g;have az:=h_ av.1;have s:Hi (Fam (G.setCell ⟨c,g,none⟩ F) (c+1) (m.F.length+1) (up o g F) (up (kc2 m a (d+1)) m.F.length e)):=h_ (av.2.congr (fun _ _=>rfl) fun n y=>by
        by_cases x:n=m.F.length
        . subst x
          rw[ka2,kaK _ _ (by omega),ka2]
        . rw[kaK _ _ x,aN.u]
          by_cases ej:n=g
          . subst ej
            rw[ka2,ka2,kaK _ _ x]
          . rw[kaK _ _ ej,kaK _ _ ej,kaK _ _ x])
       have x:=h_ aH;have aE:Hi (up o g F m.F.length=.slice (some ⟨g2,0,none⟩) e.length E):=h_ (by rw[kaK _ _ (by omega)];exact H);clear aJ ah aG ao Z V av aF aH an ag y W X Y zc zj;subst e';go_wp2_with fail;go_roundw
       case rel=>first | exact⟨d+1,_,by omega,by go_num,aE,az,s,x⟩ | ((repeat apply Exists.intro);exact⟨⟨d+1,_,by omega,by go_num,aE,az,s,x⟩,rfl⟩)
       case measure=>simp[intOf];omega
     . obtain rfl:d=e.length:=by omega
       have aQ:¬ (e.length:Int)<(e.length:Int):=(by omega);have s:Hi (Fam wr (c+1) m.F.length o (kba m (a+1))):=h_ ((q.sub (Vq _)).congr (fun _ _=>rfl) fun n y=>by
        rw[kaK _ _ (by omega),aC.u])
       clear r q l ae;go_wp2_with fail;go_roundw
       case rel=>first | exact⟨a+1,_,by omega,by go_num,h,s,B⟩ | ((repeat apply Exists.intro);exact⟨⟨a+1,_,by omega,by go_num,h,s,B⟩,rfl⟩)
       case measure=>simp[intOf];omega
  . obtain rfl:a=m.F.length:=by omega
    have aP:¬ (m.F.length:Int)<(m.F.length:Int):=(by omega);go_wp2_with fail;go_ret
    first | exact⟨c,k,rfl,by omega,h,t,C⟩ | exact⟨c,rfl,by omega,k,h,t,C⟩ | exact⟨c,rfl,by omega,⟨k,h,t⟩,C⟩
theorem qso (f:Nat->Nat)(x v i:Nat):((up f x v i:Nat):Int)=up (fun i=>((f i:Nat):Int)) x (v:Int) i:=by
 unfold up;split <;> rfl
theorem qo0 {L:Nat->List Nat}{n j p:Nat}(b:p<(L j).length):(zs n fun a=>((kcA L j p a:Nat):Int)).set (L j)[p] (J6 (((kcA L j p (L j)[p]:Nat):Int)+1))=zs n fun a=>((kcA L j (p+1) a:Nat):Int):=by
 rw[kep];refine qmz fun a _=>?_;rw[qef b a,qso];rfl
theorem qny {L:Nat->List Nat}{B:Nat}(b:∀j,(L j).length<=B)(j p i:Nat):kcA L j p i<=(j+1)*B:=by
 have c:=qnx b i j;have d:=Oj (a:=i) (l:=(L j).take p);have e:((L j).take p).length<=(L j).length:=List.length_take_le' _ _;have f:=b j;unfold kcA;rw[Z2];omega
theorem q4z (F n base:Nat)(v:Nat->Value)(L:Nat->List Nat)(w:Tw)(hn:n<=200)(y:ka5 w F n v)(Q:Fam w base n v L)(R:∀a c,c∈L a->c<n)(S:∀a,(L a).length<=400000) :
 Calls prog 102 #[.slice (some ⟨F,0,none⟩) n n] w fun d b=>d=.returned (.slice (some ⟨w.heap.size,0,none⟩) n n)/\Blk b w.heap.size 3 (zs n fun c=>((kdz L n c:Nat):Int))/\Below w.heap.size w b:=by
 obtain⟨J,I,K,r⟩:=oD y Q R S;obtain⟨C,W,ac,ad,ae⟩:=info_parts kbf;have U:C.bytes*n<=281474976710656:=by rw[ae];omega
 have x:F<w.heap.size:=y.lt;go_enter func102,ntmps102;go_wp2_with (at_make;refine wpList_make_full _ rfl (.tmp 9) (.tmp 9) 89 rfl w.heap.size 3 C _ 1 underlying89 W ac ad .i64 .i64 _ _ n rfl rfl rfl rfl U (by unfold maxLen;omega) (nR _) ?_);intro w1 B V;obtain⟨f,hC⟩:=Nq w.heap.size;have T:Below f w w1:=by rw[<- hC];exact(bR _ _).grown V (nR _) (fun b h=>by cases h)
 rw[hC]at B x;obtain⟨e,E⟩:=oB (qsy B) T;go_wp2_with fail;go_loopw [13] (fun c wr=>∃a:Nat,a<=n/\c=J6 a/\Blk wr f 3 (zs n fun c=>((kdz L a c:Nat):Int))/\Below f w wr) (fun c _=>n - (intOf c).toNat)
 case atStart=>exact⟨0,nZ _,rfl,e,E⟩
 case round =>
  obtain⟨a,hj,rfl,m,i⟩:=hrel;obtain⟨e,g⟩:=oB m i;have j:Hi (Below w.heap.size w wr):=h_ (by rw[hC];exact i);by_cases A:a<n
  . have Y:(a:Int)<n:=by omega
    have D:=(g.cell (p:=⟨F,a,none⟩) x).trans (ka5.at J.u A);have k:=I.own a A;obtain⟨ag,ah,h,-⟩:=kcN k;rw[h]at D k;obtain⟨s,q⟩:=oB k (K a);have O:Hi (∀d,L a=d->∀b (l:b<d.length),(zs n fun c=>((kcA L a b c:Nat):Int)).set d[b] (J6 (((kcA L a b d[b]:Nat):Int)+1))=zs n fun c=>((kcA L a (b+1) c:Nat):Int)):=h_ fun d h b l=>by subst h;exact qo0 l
    have H:Hi (∀b c,kcA L a b c<=80000000):=h_ fun b c=>by
     have:=qny r a b c;have:(a+1)*400000<=200*400000:=Vf _ (by omega);omega
    have o:Hi (kcA L a (L a).length=kdz L (a+1)):=h_ (qee L a);have P:Hi (Blk wr f 3 (zs n fun c=>((kcA L a 0 c:Nat):Int))):=h_ (by rw[qeg];exact e);have X:=r a;obtain⟨d,z⟩:=Nq (L a);rw[z]at s q o X D;have N:=h_ (O d z);go_wp2_with fail;go_loopw [19] (fun c l=>∃b:Nat,b<=d.length/\c=J6 b/\Blk l f 3 (zs n fun c=>((kcA L a b c:Nat):Int))/\Below f w l) (fun c _=>d.length - (intOf c).toNat)
    case atStart=>exact⟨0,nZ _,rfl,P,g⟩
    case round =>
     obtain⟨b,hp,rfl,m,i⟩:=hrel;obtain⟨e,g⟩:=oB m i;have j:Hi (Below w.heap.size w wr):=h_ (by rw[hC];exact i);by_cases l:b<d.length
     . have Z:(b:Int)<d.length:=by omega
       obtain⟨g2,rfl,aj,-,zc⟩:=qkv (qgi s j) b l;have aa:d[b]<n:=q _ (Yi l);have al:((d[b]:Nat):Int)<n:=(by omega);have M:=h_ (N b l);have ai:=H b d[b];have zx:=(e.cell d[b]).trans (keo _ aa);have fx:=e.free d[b];generalize d[b]=c at *;have t:=h_ (e.set c (J6 (((kcA L a b c:Nat):Int)+1)));rw[M.u]at t;have G:=h_ (g.setCell (p:=⟨f,c,none⟩) (nR f) (J6 (((kcA L a b c:Nat):Int)+1)));generalize hq:kcA L a b c=af at *;have ak:((af:Nat):Int)<=80000000:=(by omega);refine rQ ?_;exact⟨b+1,by omega,by go_num,t,G⟩
     . obtain rfl:b=d.length:=by omega
       have Z:¬ (d.length:Int)<(d.length:Int):=(by omega);have c:=e;rw[o.u]at c;refine rQ ?_;exact⟨a+1,by omega,by go_num,c.u,g⟩
  . obtain rfl:a=n:=by omega
    have Y:¬ (a:Int)<(a:Int):=(by omega);go_wp2_with fail;go_ret
    first | exact⟨rfl,e,g⟩ | exact⟨rfl,e,j⟩
theorem qki (m:Fm)(C i:Nat)(w:Tw)(d:VfA m)(hC:Blk w C 3 (zs m.F.length (kaW m (kam m i)))) :
 Calls prog 103 #[.slice (some ⟨C,0,none⟩) m.F.length m.F.length,J6 0] w fun f a=>f=.returned (J6 (nxI m (kam m i)))/\a=w:=by
 have o:=d.nf;have c:∀a,a<m.F.length->((List.range m.F.length).map (kaW m (kam m i))).getD a 0=kaW m (kam m i) a:=fun a b=>by
  rw[Yo];simp[b]
 have j:=Tryz.slices_Index_int C 0 m.F.length m.F.length ((List.range m.F.length).map (kaW m (kam m i))) 0 w (by simp) (by omega) (fun a b=>by
  have e:a<m.F.length:=by simpa using b
  rw[c a e,Y3];exact(hC.cell a).trans (keo _ e))
 have f:Lib.idxOf (((List.range m.F.length).map (kaW m (kam m i))).take m.F.length) 0=nxI m (kam m i):=by
  cases e:nxt m (kam m i) with
  | some k =>
   obtain⟨h,l,n⟩:=qko e;rw[qkl e];refine Lib.idxOf_hit _ _ k 0 h (by simp) ?_ fun a b=>?_
   . rw[c k h];exact(qi2 d i h).2 l
   . rw[c a (by omega)]
     intro g;have:=(qi2 d i (by omega)).1 g;rw[n a b]at this;cases this
  | none =>
   rw[qkk e];refine Lib.idxOf_miss _ _ 0 fun a b=>?_;rw[c a b];intro g;have:=(qi2 d i b).1 g;rw[qkm e a b]at this;cases this
 rw[f]at j;exact j
