import Derived.Test.YtenckgnkjkijnaaGreatDoorW18
import Derived.Test.YtenckgnkjkijnaaGreatDoorW17
import Derived.Test.YtenckgnkjkijnaaGreatDoorW12
import Derived.Test.YtenckgnkjkijnaaGreatDoorW16
set_option maxRecDepth 100000
set_option maxHeartbeats 64000000
namespace Go.Proofs.YtenckgnkjkijnaaGreatDoor
open Go Go.Proofs.Tryz
def kl (x:Tb):Lit:=.string (sb x)
theorem kfq {x y:Tb}(a:kl x=kl y):x=y:=by
 unfold kl sb at a;simp only[Lit.string.injEq]at a;obtain⟨⟨b⟩⟩:=x;obtain⟨⟨c⟩⟩:=y;simp at a;rw[a]
def mpR:List Tb->DataW Unit
 | []=>.map []
 | x :: r=>(mpR r).put (kl x) (.lit (.int .i64 (r.length:Int)))
def mp (l:List Tb):DataW Unit:=mpR l.reverse
theorem qqh (l:List Tb)(x:Tb):mp (l++[x])=(mp l).put (kl x) (.lit (.int .i64 (l.length:Int))):=by
 unfold mp;rw[List.reverse_append];simp[mpR]
theorem qmi (r:List Tb):Maps.Tidy (mpR r):=by
 induction r with
 | nil=>exact Maps.tidy_empty
 | cons b r a=>exact a.put (show WideAt.IsKeyLit (kl b) from trivial) _
theorem qp3 (r:List Tb)(x:Tb):Maps.has (mpR r) (kl x)=kc3 x r:=by
 induction r with
 | nil=>rfl
 | cons b r d =>
  by_cases a:x=b
  . subst a
    rw[show mpR (x :: r)=(mpR r).put (kl x) (.lit (.int .i64 (r.length:Int))) from rfl,Maps.has_put_same (qmi r).isMap (show WideAt.IsKeyLit (kl x) from trivial)];exact((qk9 _ _).2 Y8).symm
  . rw[show mpR (b :: r)=(mpR r).put (kl b) (.lit (.int .i64 (r.length:Int))) from rfl,Maps.has_put_other (fun c=>a (kfq c)),d]
    unfold kc3;rw[List.any_cons,Yd (fun c=>a c.symm),Ot]
theorem qly (r:List Tb):Maps.size (mpR r)<=r.length/\(Maps.size (mpR r)=r.length ↔ r.Nodup):=by
 induction r with
 | nil=>exact⟨nR _,by simp[mpR,Maps.size]⟩
 | cons c r d =>
  rw[show mpR (c :: r)=(mpR r).put (kl c) (.lit (.int .i64 (r.length:Int))) from rfl,Maps.size_put (qmi r),qp3];rw[Og,Yt];by_cases b:c∈r
  . rw[Yr ((qk9 _ _).2 b)]
    exact⟨by omega,⟨fun a=>by omega,fun a=>absurd b a.1⟩⟩
  . rw[Yl (by rw[qq7 b];simp)]
    exact⟨by omega,⟨fun a=>⟨b,d.2.1 (by omega)⟩,fun a=>by rw[d.2.2 a.2]⟩⟩
theorem kfr (l:List Tb)(x:Tb):Maps.has (mp l) (kl x)=kc3 x l:=by
 unfold mp;rw[qp3,Zh,qk9,qk9];simp
theorem qs0 (l:List Tb):Maps.size (mp l)<=l.length/\(Maps.size (mp l)=l.length ↔ l.Nodup):=by
 unfold mp;have a:=qly l.reverse;rw[Zf]at a;exact⟨a.1,a.2.trans ⟨fun b=>by simpa using (List.Perm.nodup_iff (List.reverse_perm l)).1 b,fun b=>(List.Perm.nodup_iff (List.reverse_perm l)).2 b⟩⟩
end Go.Proofs.YtenckgnkjkijnaaGreatDoor
namespace Go.Proofs.YtenckgnkjkijnaaGreatDoor
open Go Go.RowKit Go.Proofs.Tryz
def kbR (w:Tw)(b:Nat)(l:List Tb):Prop:=w.ownsMap prog 9 (plainElem (H:=Unit) prog 3) b l.length (mp l)
theorem kbR.mono {w w':Tw}{b:Nat}{l:List Tb}(a:kbR w b l)(h:Bw w w'):kbR w' b l:=by
 have i:=World.ownsMap.lt a;obtain⟨e,d,f,c,j,g⟩:=a;exact⟨e,d,(h.block b i).trans f,c,j,g⟩
theorem kgL {k:Nat}(a:k<=9223372036854775807):(Lit.int .i64 (k:Int)).wf=true:=by
 unfold Lit.wf;rw[Yh,Yk,Yk];have b:IntKind.i64.min = -9223372036854775808:=by decide
 have c:IntKind.i64.max=9223372036854775807:=by decide
 omega
theorem q1e (m:Fm)(A:MA)(w:Tw)(g:kbe m) :
 Gv 191 #[mV m A] w (.bool (decide (m.L.length<=32/\m.P.length<=256/\m.R.length<=64/\m.F.length<=200))):=by
 obtain⟨l,n,o,p,ar,q,j,k,s⟩:=A;unfold mV;dsimp only;obtain⟨r,D,i,f⟩:=nw w 37 (#[.slice l m.L.length n,.slice o m.P.length p,.slice ar m.R.length q,.slice j m.F.length k]);obtain⟨E,G,H,I⟩:=kaf i;have y:=g.ll;have z:=g.pl;have B:=g.rl;have C:=g.fl;generalize m.L.length=a at *;generalize m.P.length=b at *;generalize m.R.length=c at *;generalize m.F.length=d at *;by_cases t:(a:Int)<=32
 . by_cases u:(b:Int)<=256
   . by_cases v:(c:Int)<=64
     . by_cases x:(d:Int)<=200
       . have e:Hi (decide (a<=32/\b<=256/\c<=64/\d<=200)=true):=h_ (Ye (by omega))
         generalize decide (a<=32/\b<=256/\c<=64/\d<=200)=h at *;go_enter func191,ntmps191;go_wp2_with fail;go_ret;exact⟨qln e.symm,f⟩
       . have e:Hi (decide (a<=32/\b<=256/\c<=64/\d<=200)=false):=h_ (Yd (by omega))
         generalize decide (a<=32/\b<=256/\c<=64/\d<=200)=h at *;go_enter func191,ntmps191;go_wp2_with fail;go_ret;exact⟨qln e.symm,f⟩
     . have e:Hi (decide (a<=32/\b<=256/\c<=64/\d<=200)=false):=h_ (Yd (by omega))
       generalize decide (a<=32/\b<=256/\c<=64/\d<=200)=h at *;go_enter func191,ntmps191;go_wp2_with fail;go_ret;exact⟨qln e.symm,f⟩
   . have e:Hi (decide (a<=32/\b<=256/\c<=64/\d<=200)=false):=h_ (Yd (by omega))
     generalize decide (a<=32/\b<=256/\c<=64/\d<=200)=h at *;go_enter func191,ntmps191;go_wp2_with fail;go_ret;exact⟨qln e.symm,f⟩
 . have e:Hi (decide (a<=32/\b<=256/\c<=64/\d<=200)=false):=h_ (Yd (by omega))
   generalize decide (a<=32/\b<=256/\c<=64/\d<=200)=h at *;go_enter func191,ntmps191;go_wp2_with fail;go_ret;exact⟨qln e.symm,f⟩
theorem q6e (a:To)(c:Nat)(l:List Tb)(w:Tw)(B:l.length<=1000000)(F:∀h,h∈l->h.size<=9223372036854775807)(x:kbY w a l) :
 Calls prog 133 #[.slice a l.length c] w fun d b=>d=.returned (.map (some w.heap.size))/\kbR b w.heap.size l/\Bw w b:=by
 obtain⟨n,t⟩:=oB x F;have r:Hi ((w.alloc (.map #[] 0)).ownsMap prog 9 (plainElem (H:=Unit) prog 3) w.heap.size 0 (mp (l.take 0))):=h_ (World.ownsMap_made _ _ _ _);obtain⟨d,e⟩:=Nq l.length;rw[e]at B⊢;have i:=h_ e;have K:=@run_makeMap prog;go_enter func133,ntmps133;go_wp2_with fail;go_loopw [9] (fun f wr=>∃b:Nat,b<=d/\f=J6 b/\wr.ownsMap prog 9 (plainElem (H:=Unit) prog 3) w.heap.size b (mp (l.take b))/\Bw w wr) (fun f _=>d - (intOf f).toNat)
 case atStart=>exact⟨0,nZ _,rfl,r,(bR _ _).alloc (nR _) _⟩
 case round =>
  obtain⟨b,I,rfl,D,k⟩:=hrel;obtain⟨j,f,o⟩:=oC D k (n.mono k);by_cases J:b<d
  . have C:(b:Int)<d:=by omega
    have g:b<l.length:=(by have:=i.u;omega);obtain⟨G,L,rfl,-,M⟩:=o b g;have v:Hi (mp (l.take (b+1))=(mp (l.take b)).put (kl l[b]) (.lit (.int .i64 (b:Int)))):=h_ (by
     rw[Ys g,qqh,Zb,Nat.min_eq_left (by omega)])
    have A:keyOf prog 9 (.string l[b])=some (kl l[b]):=WideMaps.keyOf_string_mk underlying9 (t _ (Yi g));have q:=h_ A;generalize l[b]=h at *;go_wp2_with (at_mapUpdate;refine wpList_mapUpdate_own _ rfl _ _ _ 119 rfl 9 3 (Maps.string_keyed underlying9) underlying119 _ w.heap.size b _ rfl j (by unfold maxLen;omega) _ _ _ rfl rfl q _ [] (plainElem_int underlying3 (kgL (by omega))) ?_);intro m E y;have s:Hi (m.ownsMap prog 9 (plainElem (H:=Unit) prog 3) w.heap.size (b+1) (mp (l.take (b+1)))):=h_ (by rw[v.u];exact E);have p:Hi (Bw w m):=h_ (f.grown y f.size (fun z z=>by cases z;exact nR _));refine rQ ?_;exact⟨b+1,by omega,by go_num,s,p⟩
  . obtain rfl:b=d:=by omega
    have C:¬ (b:Int)<(b:Int):=(by omega);have h:Hi (kbR wr w.heap.size l):=h_ (by
     have g:=j.u;have e:=i.u;rw[Yy (by omega)]at g;unfold kbR;rw[e];exact g)
    go_wp2_with fail;go_ret;exact⟨rfl,h,f⟩
theorem q03 (a:To)(c:Nat)(l:List Tb)(w:Tw)(h:l.length<=1000000)(t:∀b,b∈l->b.size<=9223372036854775807)(p:kbY w a l) :
 Gv 296 #[.slice a l.length c] w (.bool (decide l.Nodup)):=by
 obtain⟨g,d⟩:=oB (q6e a c l w h t p) (qs0 l);obtain⟨j,i⟩:=Nq l.length;rw[i]at h g d⊢;have u:=h_ i;go_enter func296,ntmps296;go_wp2_with fail;refine g.mono ?_;rintro x v ⟨rfl,r,q⟩;obtain⟨n,m⟩:=oB r q;obtain⟨k,b⟩:=Nq (Maps.size (mp l));have s:=d.1;rw[b]at s;have o:Hi (decide l.Nodup=((k:Int)==(j:Int))):=h_ (by
  have f:=d.2;rw[b]at f;by_cases e:k=j
  . rw[Ye (f.1 e),e];simp
  . rw[Yd (fun c=>e (f.2 c))]
    exact(Yc.2 (by omega)).symm)
 go_wp2_with (at_len;refine wpList_len_own _ rfl _ 119 rfl 9 3 underlying119 _ w.heap.size l.length (mp l) rfl n ?_;rw[b];clear b);go_ret;exact⟨qln o.symm,m⟩
theorem q0t (a:To)(c:Nat)(l:List Tb)(w:Tw)(v:l.length<=1000000)(H:∀j,j∈l->j.size<=9223372036854775807)(E:kbY w a l) :
 Gv 235 #[.slice a l.length c] w (.bool (kae l)):=by
 obtain⟨k,t⟩:=oB E H;have r:Hi (kae l=(l.all kaQ&&decide l.Nodup)):=h_ rfl;obtain⟨i,x⟩:=Nq l.length;generalize kae l=y at *;have C:Hi (l.length<=1000000):=h_ v;rw[x]at v⊢;have p:=h_ x;go_enter func235,ntmps235;go_wp2_with fail;go_loopw [7] (fun f wr=>∃b:Nat,b<=i/\f=J6 b/\(∀d (e:d<l.length),d<b->kaQ l[d]=true)/\Bw w wr) (fun f _=>i - (intOf f).toNat)
 case atStart=>exact⟨0,nZ _,rfl,fun d _ h=>absurd h (nL _),bR _ _⟩
 case round =>
  obtain⟨b,J,rfl,F,n⟩:=hrel;obtain⟨s,o⟩:=oB F n;replace k:=h_ (k.mono n);by_cases K:b<i
  . have G:(b:Int)<i:=by omega
    have q:b<l.length:=(by have:=p.u;omega);obtain⟨I,L,rfl,-,M⟩:=k b q;have m:=h_ (q2f l[b] wr (t _ (Yi q)));have A:Hi (kaQ l[b]=false->y=false):=h_ fun e=>by
     rw[r.u,show l.all kaQ=false from Zy.2 ⟨l[b],Yi q,by simp[e]⟩];rfl
    have B:Hi (kaQ l[b]=true->∀d (e:d<l.length),d<b+1->kaQ l[d]=true):=h_ fun e d h f=>by
     by_cases f:d=b
     . subst f;exact e
     . exact s d h (by omega)
    generalize l[b]=j at *;generalize kaQ j=D at *;cases D
    . have g:=h_ (A rfl)
      go_wp2_with fail;refine cQ m fun z f=>?_;replace f:=f.symm;subst f;go_wp2_with fail;go_ret;exact⟨qln g.symm,o⟩
    . have g:=h_ (B rfl)
      go_wp2_with fail;refine cQ m fun z f=>?_;replace f:=f.symm;subst f;refine rQ ?_;exact⟨b+1,by omega,by go_num,g,o⟩
  . obtain rfl:b=i:=by omega
    have G:¬ (b:Int)<(b:Int):=(by omega);have g:Hi (y=decide l.Nodup):=h_ (by
     rw[r.u,show l.all kaQ=true from Yv.2 fun j f=>by
      obtain⟨d,h,rfl⟩:=Yx.1 f;exact s d h (by have:=p.u;omega)]
     rfl)
    have m:Hi (Gv 296 #[.slice a b c] wr (.bool (decide l.Nodup))):=h_ (by
     have e:=q03 a c l wr C t k;rw[p.u]at e;exact e)
    generalize decide l.Nodup=e at *;go_wp2_with fail;refine cQ m fun z n=>?_;have d:=mT o n;go_wp2_with fail;go_ret;exact⟨qln g.symm,d⟩
theorem duo {w:Tw}{b:Nat}{t:TypeId}{v u:Value}(a:Blk w b t [v,u]):w.cell? ⟨b,0,none⟩=some v/\w.cell? ⟨b,1,none⟩=some u:=⟨a.cell 0,a.cell 1⟩
theorem q4a (m:Fm)(A:MA)(w:Tw)(S:m.R.length<=64)(r:Rls w A.r m.R) :
 Calls prog 236 #[mV m A] w fun d b=>∃a c,d=.returned (.slice a m.R.length c)/\kbY b a (kav m)/\Bw w b:=by
 obtain⟨H,I,J,K,ar,M,E,G,aa⟩:=A;unfold mV;dsimp only at r⊢;obtain⟨g,p,l,y⟩:=nw w 37 (#[.slice H m.L.length I,.slice J m.P.length K,.slice ar m.R.length M,.slice E m.F.length G]);have ag:g.heap.size=w.heap.size+1:=by rw[<- p];simp
 have d:Hi (g.ownsRow (w.heap.size+1) 9 1 J7 0 []):=h_ (World.ownsRow_nil _ _ _ _);have v:=h_ r;obtain⟨c,u⟩:=Nq m.R.length;rw[u]at l S p⊢;have o:=h_ u;obtain⟨y0,y1,y2,y3⟩:=kaf l;go_enter func236,ntmps236;go_wp2_with fail;go_loopw [3,9] (fun e b wr=>∃a:Nat,a<=c/\b=J6 a/\wr.ownsRow (w.heap.size+1) 9 1 e a (stV ((kav m).take a))/\Below (w.heap.size+1) g wr) (fun _ b _=>c - (intOf b).toNat)
 case atStart=>exact⟨0,nZ _,rfl,d,bR _ _⟩
 case round =>
  obtain⟨a,hk,rfl,e,i⟩:=hrel;have s:=y.trans (i.mono (by omega));have ah:=i.size;obtain⟨x,B,k,d⟩:=oD (v.mono s) i s e;by_cases ae:a<c
  . have T:(a:Int)<c:=by omega
    have t:a<m.R.length:=(by have:=o.u;omega);obtain⟨ac,ai,rfl,-,z0,z1⟩:=x a t;have D:Hi ((kav m).take (a+1)=(kav m).take a++[m.R[a].nm]):=h_ (by
     have b:a<(kav m).length:=(by simpa [kav] using t);rw[Ys b];simp[kav])
    generalize m.R[a]=b at *;obtain⟨n,j,f⟩:=oC (Blk.new wr 116 #[.string b.nm,J6 b.lb]) (B.alloc (by omega) (.cells #[.string b.nm,J6 b.lb] 116)) (d.alloc (.cells #[.string b.nm,J6 b.lb] 116));obtain⟨h,q⟩:=Nq (wr.alloc (.cells #[.string b.nm,J6 b.lb] 116));have ad:wr.heap.size+1<=h.heap.size:=(by rw[<- q];simp);rw[q]at n j f;obtain⟨x0,x1⟩:=duo n;obtain⟨Y,Q,V,W,X⟩:=info_parts qjq;go_wp2_with (at_builtin;refine wpList_append_own _ rfl _ _ 22 rfl (w.heap.size+1) 9 Y _ 1 16 underlying22 Q V W X rfl (by omega) _ _ _ rfl (f.alloc _) ⟨h.heap.size,0,none⟩ 1 1 [.string b.nm] rfl rfl (qim h 9 _) (by simp[Value.oneCell']) (by unfold maxLen;omega) (by omega) (by simp;omega) ?_);intro Z w3 U O _;have N:=(j.alloc (by omega) (.cells #[.string b.nm] 9)).grown O (by simp;omega) (fun z z=>qc8 f z);have C:Hi (w3.ownsRow (w.heap.size+1) 9 1 Z (a+1) (stV ((kav m).take (a+1)))):=h_ (by rw[D.u,qm2];exact U);have z:=h_ N;refine rQ ?_;exact⟨a+1,by omega,by go_num,C,z⟩
  . obtain rfl:a=c:=by omega
    have T:¬ (a:Int)<(a:Int):=(by omega);have e:=d.u;rw[Yy (by simp[kav];have:=o.u;omega)]at e;obtain⟨h,c1,rfl,-,f⟩:=q6o e;have b:=h_ f;go_wp2_with fail;go_ret
    first | exact⟨_,⟨_,rfl⟩,b,k⟩ | exact⟨_,_,rfl,b,k⟩
theorem q2b (m:Fm)(A:MA)(w:Tw)(hl:m.F.length<=200)(E:kdn w A.f m.F A.fa) :
 Calls prog 134 #[mV m A] w fun d b=>∃a c,d=.returned (.slice a m.F.length c)/\kbY b a (kaa m)/\Bw w b:=by
 obtain⟨W,X,Y,Z,ar,aa,T,V,U⟩:=A;unfold mV;dsimp only at E⊢;obtain⟨s,C,y,M⟩:=nw w 37 (#[.slice W m.L.length X,.slice Y m.P.length Z,.slice ar m.R.length aa,.slice T m.F.length V]);have ao:s.heap.size=w.heap.size+1:=by rw[<- C];simp
 have d:Hi (s.ownsRow (w.heap.size+1) 9 1 J7 0 []):=h_ (World.ownsRow_nil _ _ _ _);have J:=h_ E;obtain⟨c,I⟩:=Nq m.F.length;rw[I]at y hl C⊢;have B:=h_ I;obtain⟨y0,y1,y2,y3⟩:=kaf y;go_enter func134,ntmps134;go_wp2_with fail;go_loopw [3,9] (fun e b wr=>∃a:Nat,a<=c/\b=J6 a/\wr.ownsRow (w.heap.size+1) 9 1 e a (stV ((kaa m).take a))/\Below (w.heap.size+1) s wr) (fun _ b _=>c - (intOf b).toNat)
 case atStart=>exact⟨0,nZ _,rfl,d,bR _ _⟩
 case round =>
  obtain⟨a,hk,rfl,e,u⟩:=hrel;have G:=M.trans (u.mono (by omega));have aq:=u.size;obtain⟨K,O,x,d⟩:=oD (J.mono G) u G e;by_cases an:a<c
  . have ae:(a:Int)<c:=by omega
    have H:a<m.F.length:=(by have:=B.u;omega);obtain⟨ak,au,rfl,⟨-,z0,z1,z2,z3,z4,z5,z6,z7,z8⟩,-⟩:=K a H;have S:Hi ((kaa m).take (a+1)=(kaa m).take a++[m.F[a].nm]):=h_ (by
     have b:a<(kaa m).length:=(by simpa [kaa] using H);rw[Ys b];simp[kaa])
    generalize m.F[a]=b at *;generalize U a=fa at *;obtain⟨g,h,k,l,i,j,p,q,n,o⟩:=fa;dsimp only at z3 z4 z5 z6 z8;obtain⟨z,v,r⟩:=oC (Blk.new wr 92 (Ja b g h k l i j p q n o)) (O.alloc (by omega) (.cells (Ja b g h k l i j p q n o) 92)) (d.alloc (.cells (Ja b g h k l i j p q n o) 92));obtain⟨t,D⟩:=Nq (wr.alloc (.cells (Ja b g h k l i j p q n o) 92));have am:wr.heap.size+1<=t.heap.size:=(by rw[<- D];simp);rw[D]at z v r;obtain⟨x0,x1,x2,x3,x4,x5,x6,x7,x8⟩:=kaU z;obtain⟨i0,hi,ah,ai,aj⟩:=info_parts qjq;go_wp2_with (at_builtin;refine wpList_append_own _ rfl _ _ 22 rfl (w.heap.size+1) 9 i0 _ 1 16 underlying22 hi ah ai aj rfl (by omega) _ _ _ rfl (r.alloc _) ⟨t.heap.size,0,none⟩ 1 1 [.string b.nm] rfl rfl (qim t 9 _) (by simp[Value.oneCell']) (by unfold maxLen;omega) (by omega) (by simp;omega) ?_);intro v' w3 ag ad _;have ac:=(v.alloc (by omega) (.cells #[.string b.nm] 9)).grown ad (by simp;omega) (fun N N=>qc8 r N);have Q:Hi (w3.ownsRow (w.heap.size+1) 9 1 v' (a+1) (stV ((kaa m).take (a+1)))):=h_ (by rw[S.u,qm2];exact ag);have N:=h_ ac;refine rQ ?_;exact⟨a+1,by omega,by go_num,Q,N⟩
  . obtain rfl:a=c:=by omega
    have ae:¬ (a:Int)<(a:Int):=(by omega);have e:=d.u;rw[Yy (by simp[kaa];have:=B.u;omega)]at e;obtain⟨h,c1,rfl,-,g⟩:=q6o e;have b:=h_ g;go_wp2_with fail;go_ret
    first | exact⟨_,⟨_,rfl⟩,b,x⟩ | exact⟨_,_,rfl,b,x⟩
structure kb8 (m:Fm):Prop where
 l:m.L.length<=32
 p:m.P.length<=256
 r:m.R.length<=64
 f:m.F.length<=200
theorem qb3 (x:Int)(n:Nat)(w:Tw):Calls prog 197 (Jr x n) w fun a b=>a=.returned (.bool (inR n x))/\b=w:=by
 by_cases a:0<=x/\x<n
 . rw[show inR n x=true from Ye a]
   exact q81 x n w a.1 a.2
 . rw[show inR n x=false from Yd a]
   exact qb4 x n w (by omega)
theorem q0v (m:Fm)(A:MA)(w:Tw)(hf:kbe m)(hc:kb8 m)(ha:MSl w m A) :
 Gv 192 #[mV m A] w (.bool (kae m.L&&kae (kav m)&&kae (kaa m))):=by
 obtain⟨j,k,r,s,ar,t,p,q,K⟩:=A;unfold mV;dsimp only;obtain⟨Q,ac,c,b⟩:=nw w 37 (Jb j m k r s ar t p q);obtain⟨d,n,e⟩:=oC (ha.mono b) hf hc;obtain⟨i,M⟩:=Nq ((kae m.L&&kae (kav m)&&kae (kaa m)));rw[M];have I:=h_ M;obtain⟨B,C,D,E⟩:=kaf c;go_enter func192,ntmps192;go_wp2_with fail;refine(q0t j k m.L Q (by have:=e.l;omega) n.l d.l).mono ?_;rintro N S ⟨rfl,a⟩;replace c:=mB c a;replace d:=h_ (d.mono a);replace b:=mT b a;obtain⟨B,C,D,E⟩:=kaf c;cases h:kae m.L
 . have o:Hi (i=false):=h_ (by rw[<- I.u,h];rfl)
   go_wp2_with fail;go_ret;exact⟨qln o.symm,b⟩
 have J:Hi ((kae (kav m)&&kae (kaa m))=i):=h_ (by rw[<- I.u,h,Y9]);go_wp2_with fail;refine(q4a m ⟨j,k,r,s,ar,t,p,q,K⟩ S e.r d.r).mono ?_;rintro N T ⟨X,Z,rfl,v,a⟩;have O:=h_ v;replace c:=mB c a;replace d:=h_ (d.mono a);replace b:=mT b a;obtain⟨B,C,D,E⟩:=kaf c;have G:Hi (m.R.length=(kav m).length):=h_ (by simp[kav]);have H:Hi (m.F.length=(kaa m).length):=h_ (by simp[kaa]);go_wp2_with fail;have g:=q0t X Z (kav m) T (by rw[<- G.u];have:=e.r;omega) (fun aa x=>by obtain⟨z,y,rfl⟩:=Y4.1 x;exact n.r z y) O;rw[<- G.u]at g;refine cQ g fun U a=>?_;replace c:=mB c a;replace d:=h_ (d.mono a);replace b:=mT b a;obtain⟨B,C,D,E⟩:=kaf c;cases h:kae (kav m)
 . have o:Hi (i=false):=h_ (by rw[<- J.u,h];rfl)
   go_wp2_with fail;go_ret;exact⟨qln o.symm,b⟩
 have P:Hi (kae (kaa m)=i):=h_ (by rw[<- J.u,h,Y9]);go_wp2_with fail;refine(q2b m ⟨j,k,r,s,ar,t,p,q,K⟩ U e.f d.f).mono ?_;rintro N V ⟨W,Y,rfl,v,a⟩;have o:=h_ v;replace b:=mT b a;go_wp2_with fail;have g:=q0t W Y (kaa m) V (by rw[<- H.u];have:=e.f;omega) (fun aa x=>by obtain⟨z,y,rfl⟩:=Y4.1 x;exact(n.f z y).nm) o;rw[<- H.u,P.u]at g;refine cQ g fun x a=>?_;replace b:=mT b a;cases i
 all_goals
  go_wp2_with fail;go_ret;exact⟨rfl,b⟩
theorem q0q (m:Fm)(A:MA)(w:Tw)(M:kb8 m)(ha:MSl w m A) :
 Gv 193 #[mV m A] w (.bool ((m.P.all fun g=>inR m.L.length g.1&&inR m.L.length g.2)&&m.R.all fun x=>inR m.L.length x.lb)):=by
 obtain⟨X,Y,Z,aa,ar,ac,V,W,ae⟩:=A;unfold mV;dsimp only;obtain⟨U,ag,q,e⟩:=nw w 37 (Jb X m Y Z aa ar ac V W);have B:=h_ (ha.mono e);have hl:=M.l;have hp:=M.p;have hr:=M.r;obtain⟨E,T⟩:=Nq (((m.P.all fun g=>inR m.L.length g.1&&inR m.L.length g.2)&&m.R.all fun x=>inR m.L.length x.lb));rw[T];have S:=h_ T;obtain⟨y0,y1,y2,y3⟩:=kaf q;go_enter func193,ntmps193;go_wp2_with fail;go_loopw [14] (fun n wr=>∃a:Nat,a<=m.P.length/\n=J6 a/\(∀b (d:b<m.P.length),b<a->inR m.L.length m.P[b].1=true/\inR m.L.length m.P[b].2=true)/\Bw U wr) (fun n _=>m.P.length - (intOf n).toNat)
 case atStart=>exact⟨0,nZ _,rfl,fun b _ f=>absurd f (nL _),bR _ _⟩
 case round =>
  obtain⟨a,hk,rfl,K,u⟩:=hrel;obtain⟨t,h,C⟩:=oC K u (B.u.mono u);by_cases v:a<m.P.length
  . have N:(a:Int)<m.P.length:=by omega
    obtain⟨pb,po,rfl,-,z0,z1⟩:=C.p a v;have z:Hi (inR m.L.length m.P[a].1=false∨inR m.L.length m.P[a].2=false->E=false):=h_ fun d=>by
     rw[<- S.u,show(m.P.all fun g=>inR m.L.length g.1&&inR m.L.length g.2)=false from Zy.2 ⟨m.P[a],Yi v,by rcases d with d | d <;> simp[d]⟩];rfl
    have F:Hi (inR m.L.length m.P[a].1=true->inR m.L.length m.P[a].2=true->∀b (d:b<m.P.length),b<a+1->inR m.L.length m.P[b].1=true/\inR m.L.length m.P[b].2=true):=h_ fun k I b d f=>by
     by_cases H:b=a
     . subst H;exact⟨k,I⟩
     . exact t b d (by omega)
    obtain⟨i,s⟩:=oB (h.alloc h.size (.cells (Jr m.P[a].1 m.P[a].2) 113)) (Blk.new wr 113 (Jr m.P[a].1 m.P[a].2));generalize m.P[a]=O at *;obtain⟨y,o⟩:=O;dsimp only at *;obtain⟨D,J⟩:=Nq (wr.alloc (.cells (Jr y o) 113));rw[J]at s i;obtain⟨v0,v1⟩:=duo s;obtain⟨p,Q⟩:=oB (qb3 y m.L.length D) (qb3 o m.L.length D);generalize inR m.L.length y=k at *;generalize inR m.L.length o=I at *;cases k
    . have j:=h_ (z (.inl rfl))
      go_wp2_with fail;refine cQ p fun r c=>?_;replace c:=c.symm;subst c;go_wp2_with fail;go_ret;exact⟨qln j.symm,e.trans (i.mono e.size)⟩
    cases I
    . have j:=h_ (z (.inr rfl))
      go_wp2_with fail;refine cQ p fun r c=>?_;replace c:=c.symm;subst c;go_wp2_with fail;refine cQ Q fun r c=>?_;replace c:=c.symm;subst c;go_wp2_with fail;go_ret;exact⟨qln j.symm,e.trans (i.mono e.size)⟩
    have G:=h_ (F rfl rfl);go_wp2_with fail;refine cQ p fun r c=>?_;replace c:=c.symm;subst c;go_wp2_with fail;refine cQ Q fun r c=>?_;replace c:=c.symm;subst c;refine rQ ?_;exact⟨a+1,by omega,by go_num,G,i⟩
  obtain rfl:a=m.P.length:=by omega
  have N:¬ (m.P.length:Int)<(m.P.length:Int):=by omega
  have I:Hi ((m.R.all fun x=>inR m.L.length x.lb)=E):=h_ (by
   rw[<- S.u,show(m.P.all fun g=>inR m.L.length g.1&&inR m.L.length g.2)=true from Yv.2 fun ad g=>by
    obtain⟨b,f,rfl⟩:=Yx.1 g;have:=t b f f;rw[this.1,this.2];rfl,Y9])
  replace q:=h_ (q.mono h q.lt);replace B:=C;replace e:=h_ (e.trans (h.mono e.size));obtain⟨y0,y1,y2,y3⟩:=kaf q;go_wp2_with fail;obtain⟨x,Q⟩:=Nq wr;rw[Q]at e B q⊢;go_loopw [34] (fun n wr=>∃a:Nat,a<=m.R.length/\n=J6 a/\(∀b (d:b<m.R.length),b<a->inR m.L.length m.R[b].lb=true)/\Bw x wr) (fun n _=>m.R.length - (intOf n).toNat)
  case atStart=>exact⟨0,nZ _,rfl,fun b _ f=>absurd f (nL _),bR _ _⟩
  case round =>
   obtain⟨a,hk,rfl,K,u⟩:=hrel;obtain⟨t,h,C⟩:=oC K u (B.u.mono u);by_cases v:a<m.R.length
   . have N:(a:Int)<m.R.length:=by omega
     obtain⟨pb,po,rfl,-,z0,z1⟩:=C.r a v;have z:Hi (inR m.L.length m.R[a].lb=false->E=false):=h_ fun d=>by
      rw[<- I.u];exact Zy.2 ⟨m.R[a],Yi v,by simp[d]⟩
     have F:Hi (inR m.L.length m.R[a].lb=true->∀b (d:b<m.R.length),b<a+1->inR m.L.length m.R[b].lb=true):=h_ fun k b d f=>by
      by_cases H:b=a
      . subst H;exact k
      . exact t b d (by omega)
     obtain⟨i,s⟩:=oB (h.alloc h.size (.cells #[.string m.R[a].nm,J6 m.R[a].lb] 116)) (Blk.new wr 116 #[.string m.R[a].nm,J6 m.R[a].lb]);generalize m.R[a]=O at *;obtain⟨y,o⟩:=O;dsimp only at *;obtain⟨D,J⟩:=Nq (wr.alloc (.cells #[.string y,J6 o] 116));rw[J]at s i;obtain⟨v0,v1⟩:=duo s;have p:=h_ (qb3 o m.L.length D);generalize inR m.L.length o=k at *;cases k
     . have j:=h_ (z rfl)
       go_wp2_with fail;refine cQ p fun r c=>?_;replace c:=c.symm;subst c;go_wp2_with fail;go_ret;exact⟨qln j.symm,e.trans (i.mono e.size)⟩
     have G:=h_ (F rfl);go_wp2_with fail;refine cQ p fun r c=>?_;replace c:=c.symm;subst c;refine rQ ?_;exact⟨a+1,by omega,by go_num,G,i⟩
   obtain rfl:a=m.R.length:=by omega
   have N:¬ (m.R.length:Int)<(m.R.length:Int):=by omega
   have j:Hi (E=true):=h_ (by
    rw[<- I.u];exact Yv.2 fun ad g=>by
     obtain⟨b,f,rfl⟩:=Yx.1 g;exact t b f f)
   go_wp2_with fail;go_ret;exact⟨qln j.symm,e.trans (h.mono e.size)⟩
end Go.Proofs.YtenckgnkjkijnaaGreatDoor
namespace Go.Proofs.YtenckgnkjkijnaaGreatDoor
open Go Go.Proofs.Tryz
def noFd:Fl:=⟨⟨#[]⟩,0,0,[],[],[],[],⟨#[]⟩,[]⟩
def fAt (m:Fm)(k:Nat):Fl:=m.F.getD k noFd
theorem qoe {m:Fm}{k:Nat}(a:k<m.F.length):fAt m k=m.F[k]:=by unfold fAt;rw[Yo,Yg a];rfl
def kcG (l:List Nx)(x:Tb):Bool:=l.any fun n=>decide (n.op=1)&&decide (n.nm=x)
def kbM (m:Fm)(j k:Nat):Bool:=kcG (fAt m k).is (fAt m j).nm||kcG (fAt m k).wh (fAt m j).nm
def kfv (m:Fm)(j k:Nat):Bool:=kcG (fAt m k).va (fAt m j).nm||kcG (fAt m k).mu (fAt m j).nm
def kcY (m:Fm)(j k:Nat):Bool:=kbM m j k||kfv m j k
def kdX (m:Fm)(D:List Nat)(k:Nat):Bool:=!decide (k∈D)&&(List.range m.F.length).all fun j=>!kbM m j k||decide (j∈D)
def nxt (m:Fm)(D:List Nat):Option Nat:=(List.range m.F.length).find? (kdX m D)
def kam (m:Fm):Nat->List Nat
 | 0=>[]
 | i+1=>match nxt m (kam m i) with
  | some k=>kam m i++[k]
  | none=>kam m i
theorem qko {m:Fm}{D:List Nat}{k:Nat}(b:nxt m D=some k):k<m.F.length/\kdX m D k=true/\∀a,a<k->kdX m D a=false:=by
 unfold nxt at b;rw[List.find?_eq_some_iff_getElem]at b;obtain⟨e,h,d,c,f⟩:=b;rw[List.getElem_range]at c;subst c;rw[Ox]at d;refine⟨d,e,fun a g=>?_⟩;have:=f a g;rw[List.getElem_range]at this;simpa using this
theorem qkm {m:Fm}{D:List Nat}(b:nxt m D=none):∀a,a<m.F.length->kdX m D a=false:=by
 intro a c;unfold nxt at b;have:=Ov.1 b a (Yu.2 c);simpa using this
theorem qgc {m:Fm}{i k:Nat}(a:nxt m (kam m i)=some k):kam m (i+1)=kam m i++[k]:=by
 show(match nxt m (kam m i) with | some k=>kam m i++[k] | none=>kam m i)=_;rw[a]
theorem qgb {m:Fm}{i:Nat}(a:nxt m (kam m i)=none):kam m (i+1)=kam m i:=by
 show(match nxt m (kam m i) with | some b=>kam m i++[b] | none=>kam m i)=_;rw[a]
theorem qqw (m:Fm)(i:Nat):∀b,b∈kam m i->b<m.F.length:=by
 induction i with
 | zero=>intro b a;cases a
 | succ i d =>
  cases c:nxt m (kam m i) with
  | none=>rw[qgb c];exact d
  | some e =>
   rw[qgc c];intro b a;rcases Zk.1 a with a | a
   . exact d b a
   . rw[Zz.1 a];exact(qko c).1
theorem qc6 (m:Fm)(i:Nat):(kam m i).Nodup:=by
 induction i with
 | zero=>exact List.nodup_nil
 | succ i c =>
  cases a:nxt m (kam m i) with
  | none=>rw[qgb a];exact c
  | some h =>
   rw[qgc a,List.nodup_append];refine⟨c,(by simp),fun f d g e b=>?_⟩;rw[Zz.1 e]at b;subst b;have:=(qko a).2.1;unfold kdX at this;rw[Ye d]at this;simp at this
theorem qks (m:Fm)(i:Nat):(kam m i).length<=i:=by
 induction i with
 | zero=>exact nR _
 | succ i b =>
  cases a:nxt m (kam m i) with
  | none=>rw[qgb a];omega
  | some c=>rw[qgc a,Yj];simp;exact b
theorem qc7 {m:Fm}{i:Nat}(c:nxt m (kam m i)=none):∀a,kam m (i+a)=kam m i:=by
 intro a
 induction a with
 | zero=>rfl
 | succ a b =>
  have:nxt m (kam m (i+a))=none:=by rw[b];exact c
  exact(qgb this).trans b
theorem kg8 (r:List Tb)(c:r.Nodup)(z:DataW Unit):∀a (b:a<r.length),(mpR r).atKey (kl r[a]) z=.lit (.int .i64 ((r.length - 1 - a:Nat):Int)):=by
 induction r with
 | nil=>intro a b;cases b
 | cons d r g =>
  intro a b;rw[Og]at c;rw[show mpR (d :: r)=(mpR r).put (kl d) (.lit (.int .i64 (r.length:Int))) from rfl];cases a with
  | zero =>
   rw[Vs,Maps.atKey_put_same (qmi r).isMap (show WideAt.IsKeyLit (kl d) from trivial)];simp
  | succ a =>
   have e:a<r.length:=by simpa using b
   rw[List.getElem_cons_succ,Maps.atKey_put_other (fun f=>c.1 (by rw[<- kfq f];exact Yi e)),g c.2 a e];simp only[Yt]
   congr 3
   omega
theorem kg9 (l:List Tb)(c:l.Nodup)(z:DataW Unit)(k:Nat)(e:k<l.length):(mp l).atKey (kl l[k]) z=.lit (.int .i64 (k:Int)):=by
 unfold mp;have d:l.reverse.Nodup:=(List.Perm.nodup_iff (List.reverse_perm l)).2 c;have a:=kg8 l.reverse d z (l.length - 1 - k) (by rw[Zf];omega);have b:l.reverse[l.length - 1 - k]'(by rw[Zf];omega)=l[k]:=by
  rw[List.getElem_reverse]
  congr 1
  omega
 rw[b,Zf]at a;rw[a]
 congr 3
 omega
def kdI (names:List Tb)(x:Tb):Nat:=names.findIdx fun y=>decide (y=x)
theorem qof {a:List Tb}{x:Tb}(b:x∈a):kdI a x<a.length:=List.findIdx_lt_length.2 ⟨x,b,by simp⟩
theorem qj5 {a:List Tb}{x:Tb}(b:x∈a):a[kdI a x]'(qof b)=x:=by
 have:=List.findIdx_getElem (xs:=a) (p:=fun c=>decide (c=x)) (w:=qof b);exact Y6 this
theorem qog {a:List Tb}(g:a.Nodup){j:Nat}(c:j<a.length):kdI a a[j]=j:=by
 have f:a[j]∈a:=Yi c;have d:=qj5 f;have e:=qof f;rcases Nat.lt_trichotomy (kdI a a[j]) j with b | b | b
 . exact absurd d (Vm.1 g _ _ e c b)
 . exact b
 . exact absurd d.symm (Vm.1 g _ _ c e b)
def rdL (names:List Tb)(l:List Nx):List Nat:=(l.filter fun n=>decide (n.op=1)).map fun n=>kdI names n.nm
theorem qfo {b:List Tb}{l:List Nx}(a:kas b l=true){n:Nx}(d:n∈l)(c:n.op=1):n.nm∈b:=by
 unfold kas at a;have:=Yv.1 a n d;rw[Ye c]at this;exact(qk9 _ _).1 (by simpa using this)
theorem kcP {c:List Tb}{l:List Nx}(e:kas c l=true):∀b,b∈rdL c l->b<c.length:=by
 intro b d;unfold rdL at d;obtain⟨f,a,rfl⟩:=Y4.1 d;rw[List.mem_filter,Yk]at a;exact qof (qfo e a.1 a.2)
theorem qq9 {b:List Tb}{l:List Nx}(g:b.Nodup)(d:kas b l=true){j:Nat}(e:j<b.length):j∈rdL b l ↔ kcG l b[j]=true:=by
 unfold rdL kcG;rw[Z8];constructor
 . intro f
   obtain⟨c,a,rfl⟩:=Y4.1 f;rw[List.mem_filter,Yk]at a;exact⟨c,a.1,by rw[Ye a.2,Ye (qj5 (qfo d a.1 a.2)).symm];rfl⟩
 . rintro⟨c,f,a⟩
   rw[Yh,Yk,Yk]at a;exact Y4.2 ⟨c,List.mem_filter.2 ⟨f,Ye a.1⟩,by rw[a.2];exact qog g e⟩
def kbI (m:Fm)(k:Nat):List Nat:=rdL (kaa m) (fAt m k).is++rdL (kaa m) (fAt m k).wh
theorem VfA.nod {m:Fm}(a:VfA m):(kaa m).Nodup:=by
 have:=a.f;unfold kae at this;rw[Yh,Yk]at this;exact this.2
theorem qap (m:Fm):(kaa m).length=m.F.length:=by simp[kaa]
theorem qao {m:Fm}{j:Nat}(a:j<m.F.length):(kaa m)[j]'(by rw[qap];exact a)=(fAt m j).nm:=by rw[qoe a];simp[kaa]
theorem VfA.knw {m:Fm}(b:VfA m){k:Nat}(a:k<m.F.length):kas (kaa m) (fAt m k).is=true/\kas (kaa m) (fAt m k).wh=true/\kas (kaa m) (fAt m k).va=true/\kas (kaa m) (fAt m k).mu=true:=by
 have:=b.kn _ (Yi a);rw[qoe a];unfold kai at this;simp only[Yh]at this;exact⟨this.1.1.1,this.1.1.2,this.1.2,this.2⟩
theorem qoi {m:Fm}(c:VfA m){k:Nat}(d:k<m.F.length):∀b,b∈kbI m k->b<m.F.length:=by
 intro b a;rw[<- qap m];rcases Zk.1 a with a | a
 . exact kcP (c.knw d).1 b a
 . exact kcP (c.knw d).2.1 b a
theorem qka {m:Fm}(a:VfA m){j k:Nat}(b:j<m.F.length)(d:k<m.F.length):j∈kbI m k ↔ kbM m j k=true:=by
 have c:j<(kaa m).length:=by rw[qap];exact b
 unfold kbI kbM;rw[Zk,Ze,qq9 a.nod (a.knw d).1 c,qq9 a.nod (a.knw d).2.1 c,qao b]
theorem q93 (m:Fm)(i:Nat):∀c,c∈kam m i->∀b,b<m.F.length->kbM m b c=true->b∈kam m i:=by
 induction i with
 | zero=>intro c a;cases a
 | succ i h =>
  cases d:nxt m (kam m i) with
  | none=>rw[qgb d];exact h
  | some j =>
   rw[qgc d];intro c a b g e;rcases Zk.1 a with a | a
   . exact Vg _ (h c a b g e)
   . rw[Zz.1 a]at e
     have f:=(qko d).2.1;unfold kdX at f;rw[Yh,Yv]at f;have:=f.2 b (Yu.2 g);rw[e]at this;exact Vg _ (by simpa using this)
def kaW (m:Fm)(D:List Nat)(k:Nat):Int:=((kbI m k).filter fun j=>!decide (j∈D)).length - (if k∈D then 1 else 0)
theorem qi2 {m:Fm}(e:VfA m)(i:Nat){k:Nat}(f:k<m.F.length):kaW m (kam m i) k=0 ↔ kdX m (kam m i) k=true:=by
 unfold kaW kdX;have g:((kbI m k).filter fun a=>!decide (a∈kam m i)).length=0 ↔ ∀a,a<m.F.length->kbM m a k=true->a∈kam m i:=by
  rw[Za,List.filter_eq_nil_iff];constructor
  . intro c a b d
    have:=c a ((qka e b f).2 d);simpa using this
  . intro c a b
    have h:=qoi e f a b;simp[c a h ((qka e h f).1 b)]
 have h:((List.range m.F.length).all fun a=>!kbM m a k||decide (a∈kam m i))=true ↔ ∀a,a<m.F.length->kbM m a k=true->a∈kam m i:=by
  rw[Yv];constructor
  . intro c a b d
    have:=c a (Yu.2 b);rw[d]at this;simpa using this
  . intro c a b
    cases d:kbM m a k
    . rfl
    . simp[c a (List.mem_range.1 b) d]
 by_cases b:k∈kam m i
 . rw[Yr b,Ye b,g.2 (q93 m i k b)]
   simp
 . rw[Yl b,Yd b]
   rw[show((((kbI m k).filter fun a=>!decide (a∈kam m i)).length:Int) - 0=0) ↔ ((kbI m k).filter fun a=>!decide (a∈kam m i)).length=0 by omega,g];simp only[Bool.not_false,Y9];exact h.symm
theorem q7p (l D:List Nat)(x:Nat)(e:x ∉ D):(l.filter fun a=>!decide (a∈D++[x])).length+l.count x=(l.filter fun a=>!decide (a∈D)).length:=by
 induction l with
 | nil=>rfl
 | cons a l f =>
  by_cases b:a=x
  . subst b
    have c:decide (a∈D++[a])=true:=(by simp);have d:decide (a∈D)=false:=Yd e;simp only[List.filter_cons,c,d,List.count_cons_self];simp only[Bool.not_true,Bool.not_false,if_true];simp only[Bool.false_eq_true,if_false,Yt];omega
  . have c:decide (a∈D++[x])=decide (a∈D):=decide_eq_decide.2 (by simp[b])
    simp only[List.filter_cons,c];rw[List.count_cons_of_ne b];split
    . simp only[Yt];omega
    . exact f
theorem qi1 (m:Fm)(D:List Nat)(x:Nat)(c:x ∉ D)(k:Nat):kaW m (D++[x]) k=kaW m D k - (kbI m k).count x - (if k=x then 1 else 0):=by
 unfold kaW;have d:=q7p (kbI m k) D x c;by_cases b:k=x
 . subst b
   rw[Yr (by simp),Yl c,Yr rfl];omega
 . rw[Yl b]
   by_cases a:k∈D
   . rw[Yr (by simp[a]),Yr a];omega
   . rw[Yl (by simp[a,b]),Yl a];omega
theorem qdi (m:Fm)(k:Nat):kaW m [] k=(kbI m k).length:=by
 unfold kaW;rw[show(kbI m k).filter (fun a=>!decide (a∈([]:List Nat)))=kbI m k from List.filter_eq_self.2 (fun _ _=>by simp)];simp
def kba (m:Fm)(k j:Nat):List Nat:=(List.range k).flatMap fun i=>List.replicate ((kbI m i).count j) i
theorem qey (m:Fm)(j:Nat):kba m 0 j=[]:=rfl
theorem qex (m:Fm)(k j:Nat):kba m (k+1) j=kba m k j++List.replicate ((kbI m k).count j) k:=by
 unfold kba;rw[Zc,V7];simp
theorem qoj (m:Fm)(k j:Nat):∀a,a∈kba m k j->a<k:=by
 intro a b;unfold kba at b;obtain⟨e,d,c⟩:=List.mem_flatMap.1 b;rw[(List.mem_replicate.1 c).2];exact Yu.1 d
theorem qaq (m:Fm)(j i:Nat):∀a,(kba m a j).count i=if i<a then (kbI m i).count j else 0:=by
 intro a
 induction a with
 | zero=>rfl
 | succ a e =>
  rw[qex,List.count_append,e,List.count_replicate];by_cases b:i<a
  . have c:(a==i)=false:=Yc.2 (by omega)
    rw[Yr b,Yr (show i<a+1 by omega),c];simp
  . by_cases d:i=a
    . subst d
      rw[Yl b,Yr (show i<i+1 by omega)];simp
    . have c:(a==i)=false:=Yc.2 (by omega)
      rw[Yl b,Yl (show ¬ i<a+1 by omega),c];simp
theorem qm9 (l:List Nat)(b:∀a,a∈l->a=0):l.sum=0:=by
 induction l with
 | nil=>rfl
 | cons a l d=>rw[Oh,b a Y8,d fun e c=>b e (Zi _ c)]
theorem qhe (n:Nat)(l:List Nat)(e:∀b,b∈l->b<n):((List.range n).map fun a=>l.count a).sum=l.length:=by
 induction l with
 | nil =>
  refine qm9 _ fun i d=>?_;obtain⟨a,-,rfl⟩:=Y4.1 d;rfl
 | cons b l f =>
  have m:=e b Y8;have g:=f fun i d=>e i (Zi _ d);have c:((List.range n).map fun a=>(b :: l).count a).sum=((List.range n).map fun a=>l.count a).sum+((List.range n).map fun a=>if a=b then 1 else 0).sum:=by
   clear f g e m
   induction n with
   | zero=>rfl
   | succ n h =>
    rw[Zc];simp only[Zl,Of,Z5,Oq,Oh,O0,Zo];rw[h,List.count_cons];have:(if (b==n)=true then 1 else 0)=if n=b then 1 else 0:=by
     by_cases c:n=b
     . subst c;simp
     . rw[Yl c,Yl (by simp;omega)]
    rw[this];omega
  have j:((List.range n).map fun a=>if a=b then 1 else 0).sum=1:=by
   clear c f g e
   induction n with
   | zero=>omega
   | succ n h =>
    rw[Zc];simp only[Zl,Of,Z5,Oq,Oh,O0,Zo];by_cases c:n=b
    . subst c
      rw[Yr rfl];have:((List.range n).map fun a=>if a=n then 1 else 0).sum=0:=by
       refine qm9 _ fun i d=>?_;obtain⟨a,k,rfl⟩:=Y4.1 d;rw[Yl (by have:=Yu.1 k;omega)]
      omega
    . rw[Yl c,h (by omega)]
  rw[c,j,g,Yt]
inductive Rch (m:Fm)(k:Nat):Nat->Prop
 | one {i:Nat}:i<m.F.length->kbM m k i=true->Rch m k i
 | step {j i:Nat}:Rch m k j->i<m.F.length->kbM m j i=true->Rch m k i
theorem Rch.lt {m:Fm}{k i:Nat}(a:Rch m k i):i<m.F.length:=by cases a <;> assumption
theorem q48 {m:Fm}{k:Nat}{M:Nat->Bool}(d:∀b,(b=k∨M b=true)->∀a,a<m.F.length->kbM m b a=true->M a=true):∀a,Rch m k a->M a=true:=by
 intro a e
 induction e with
 | one c b=>exact d k (.inl rfl) _ c b
 | step _ c b f=>exact d _ (.inr f) _ c b
end Go.Proofs.YtenckgnkjkijnaaGreatDoor
namespace Go.Proofs.YtenckgnkjkijnaaGreatDoor
open Go Go.RowKit Go.Proofs.Tryz
def Le (f:Nat->Bool)(n a b:Nat):Prop:=a<n/\b<n/\f (a*n+b)=true
theorem ql2 {f:Nat->Bool}{n a b:Nat}:part f n (n*n) a b=true ↔ Le f n a b:=by
 unfold part Le;simp only[Yh,decide_eq_true_iff];constructor
 . rintro⟨⟨e,g⟩,h⟩
   refine⟨?_,e,h⟩;apply V8;intro i;have:=Vf n i;omega
 . rintro⟨e,g,h⟩
   exact⟨⟨g,kbS e g⟩,h⟩
section
variable {n:Nat} {f:Nat->Bool} {u c d:Nat->Nat}
theorem kco (g:kau u (part f n (n*n))){a:Nat}(e:a<32)(b:Nat):(u a).testBit b=true ↔ Le f n a b:=by rw[(g a e).2 b];exact ql2
theorem kcV (h:kau d (fun b a=>decide (a<n)&&part f n (n*n) a b)){a:Nat}(g:a<32)(b:Nat):(d a).testBit b=true ↔ Le f n b a:=by
 rw[(h a g).2 b,Yh,decide_eq_true_iff,ql2];exact⟨fun e=>e.2,fun e=>⟨e.1,e⟩⟩
theorem qgv (q:n<=32)(i:kau u (part f n (n*n)))(m:kaP c (fun a b=>a<n/\kaE u a b))(j:kfK u c=true):(∀a,a<n->Le f n a a)/\∀a b e,Le f n a b->Le f n b e->Le f n a e:=by
 rw[qgu]at j;have k:∀a b,a<n->kaE u a b->Le f n a b:=fun a b h g=>by
  rw[<- kco i (by omega),j a (by omega),(m a (by omega)).2 b];exact⟨h,g⟩
 refine⟨fun a h=>k a a h (kaE.refl _ _),fun a b e g l=>?_⟩;have h:=g.1;have p:=g.2.1;have o:kaE u a b:=(kaE.refl u a).step (by omega) ((kco i (by omega) b).2 g);exact k a e g.1 (o.step (by omega) ((kco i (by omega) e).2 l))
theorem qsm (o:n<=32)(m:kau u (part f n (n*n)))(k:kau d (fun b a=>decide (a<n)&&part f n (n*n) a b))(l:∀a,a<n->Le f n a a){a:Nat}(j:a<n) :
 kan (u a) (d a)=2 ^ a ↔ ∀b,Le f n a b->Le f n b a->a=b:=by
 have i:∀b,(kan (u a) (d a)).testBit b=true ↔ Le f n a b/\Le f n b a:=fun b=>by
  rw[q7a (m a (by omega)).1 (k a (by omega)).1,Yh,kco m (by omega),kcV k (by omega)]
 constructor
 . intro e b g h
   have:=(i b).2 ⟨g,h⟩;rw[e,Z9,decide_eq_true_iff]at this;exact this
 . intro e
   apply Nat.eq_of_testBit_eq;intro b;rw[Zh,i,Z9,decide_eq_true_iff];exact⟨fun⟨g,h⟩=>e b g h,fun g=>by subst g;exact⟨l a j,l a j⟩⟩
theorem qby {s t:Nat}(e:s<4294967296)(g:t<4294967296):kaz s t=0 ↔ ∀a,s.testBit a=true->t.testBit a=true:=by
 constructor
 . intro b a h
   have:=qbx e g a;rw[b,h]at this;simpa using this.symm
 . intro b
   apply Nat.eq_of_testBit_eq;intro a;rw[qbx e g a];cases h:s.testBit a
   . simp
   . simp[b a h]
theorem qjy (x:n<=32)(g:kau u (part f n (n*n))){a b k:Nat}(r:a<n)(s:b<n)(p:k<32) :
 ((kan (u a) (u b)).testBit k=true/\kaz (kan (u a) (u b)) (u k)=0) ↔ (k<n/\kaN f n a b k):=by
 have q:=(g a (by omega)).1;have v:=(g b (by omega)).1;rw[qby (qaf q) (g k p).1,q7a q v,Yh,kco g (by omega),kco g (by omega)];have t:∀e,(kan (u a) (u b)).testBit e=true ↔ Le f n a e/\Le f n b e:=fun e=>by rw[q7a q v,Yh,kco g (by omega),kco g (by omega)]
 unfold kaN;constructor
 . rintro⟨⟨i,l⟩,m⟩
   refine⟨i.2.1,i.2.2,l.2.2,fun e j h o=>?_⟩;exact((kco g p e).1 (m e ((t e).2 ⟨⟨r,j,h⟩,⟨s,j,o⟩⟩))).2.2
 . rintro⟨j,i,l,m⟩
   refine⟨⟨⟨r,j,i⟩,⟨s,j,l⟩⟩,fun e w=>?_⟩;obtain⟨h,o⟩:=(t e).1 w;exact(kco g p e).2 ⟨j,h.2.1,m e h.2.1 h.2.2 o.2.2⟩
theorem qk7 (x:n<=32)(g:kau d (fun b a=>decide (a<n)&&part f n (n*n) a b)){a b k:Nat}(r:a<n)(s:b<n)(p:k<32) :
 ((kan (d a) (d b)).testBit k=true/\kaz (kan (d a) (d b)) (d k)=0) ↔ (k<n/\kaO f n a b k):=by
 have q:=(g a (by omega)).1;have v:=(g b (by omega)).1;rw[qby (qaf q) (g k p).1,q7a q v,Yh,kcV g (by omega),kcV g (by omega)];have t:∀e,(kan (d a) (d b)).testBit e=true ↔ Le f n e a/\Le f n e b:=fun e=>by rw[q7a q v,Yh,kcV g (by omega),kcV g (by omega)]
 unfold kaO;constructor
 . rintro⟨⟨i,l⟩,m⟩
   refine⟨i.1,i.2.2,l.2.2,fun e j h o=>?_⟩;exact((kcV g p e).1 (m e ((t e).2 ⟨⟨j,r,h⟩,⟨j,s,o⟩⟩))).2.2
 . rintro⟨j,i,l,m⟩
   refine⟨⟨⟨j,r,i⟩,⟨j,s,l⟩⟩,fun e w=>?_⟩;obtain⟨h,o⟩:=(t e).1 w;exact(kcV g p e).2 ⟨h.1,j,m e h.1 h.2.2 o.2.2⟩
theorem qaj (m:n<=32)(o:kau u (part f n (n*n))){a b:Nat}(k:a<n)(l:b<n){v:Int}(g:kbF u a b v) :
 (∃e:Nat,e<n/\v=e/\kaN f n a b e)∨(v = -1/\∀e,e<n->¬ kaN f n a b e):=by
 rcases g with ⟨e,j,rfl,p,q⟩ | ⟨rfl,g⟩
 . obtain⟨h,i⟩:=(qjy m o k l j).1 ⟨p,q⟩
   exact .inl ⟨e,h,rfl,i⟩
 . refine .inr ⟨rfl,fun e j r=>?_⟩
   obtain⟨h,i⟩:=(qjy m o k l (by omega)).2 ⟨j,r⟩;exact g e h i
theorem qak (o:n<=32)(m:kau d (fun b a=>decide (a<n)&&part f n (n*n) a b)){a b:Nat}(k:a<n)(l:b<n){v:Int}(g:kbF d a b v) :
 (∃e:Nat,e<n/\v=e/\kaO f n a b e)∨(v = -1/\∀e,e<n->¬ kaO f n a b e):=by
 rcases g with ⟨e,j,rfl,p,q⟩ | ⟨rfl,g⟩
 . obtain⟨h,i⟩:=(qk7 o m k l j).1 ⟨p,q⟩
   exact .inl ⟨e,h,rfl,i⟩
 . refine .inr ⟨rfl,fun e j r=>?_⟩
   obtain⟨h,i⟩:=(qk7 o m k l (by omega)).2 ⟨j,r⟩;exact g e h i
theorem qn5 (n x:Nat):(2 ^ n - 1).testBit x=true ↔ x<n:=by rw[Nat.testBit_two_pow_sub_one];simp
theorem kgX (k:n<=32)(g:kau u (part f n (n*n))){v:Int}(h:kcT u (2 ^ n - 1) v):(∃a:Nat,a<n/\v=a/\∀b,b<n->Le f n a b)∨(v = -1/\∀a,a<n->¬ ∀b,b<n->Le f n a b):=by
 rcases h with ⟨a,e,rfl,l,j⟩ | ⟨rfl,h⟩
 . rw[qby (kdf k) (g a e).1]at j
   exact .inl ⟨a,(qn5 n a).1 l,rfl,fun b i=>(kco g e b).1 (j b ((qn5 n b).2 i))⟩
 . refine .inr ⟨rfl,fun a e m=>h a ((qn5 n a).2 e) ?_⟩
   rw[qby (kdf k) (g a (by omega)).1];exact fun b i=>(kco g (by omega) b).2 (m b ((qn5 n b).1 i))
theorem kgY (k:n<=32)(e:kau d (fun b a=>decide (a<n)&&part f n (n*n) a b)){v:Int}(h:kcT d (2 ^ n - 1) v):(∃a:Nat,a<n/\v=a/\∀b,b<n->Le f n b a)∨(v = -1/\∀a,a<n->¬ ∀b,b<n->Le f n b a):=by
 rcases h with ⟨a,g,rfl,l,j⟩ | ⟨rfl,h⟩
 . rw[qby (kdf k) (e a g).1]at j
   exact .inl ⟨a,(qn5 n a).1 l,rfl,fun b i=>(kcV e g b).1 (j b ((qn5 n b).2 i))⟩
 . refine .inr ⟨rfl,fun a g m=>h a ((qn5 n a).2 g) ?_⟩
   rw[qby (kdf k) (e a (by omega)).1];exact fun b i=>(kcV e (by omega) b).2 (m b ((qn5 n b).1 i))
theorem qp1 {n:Nat}{f:Nat->Bool}(s:1<=n)(o:∀b e a,Le f n b e->Le f n e a->Le f n b a)(m:∀b,b<n->∀e,e<n->∃a,a<n/\kaO f n b e a):∃a,a<n/\∀b,b<n->Le f n a b:=by
 have r:∀e,e<=n->∃a,a<n/\∀b,b<e->Le f n a b:=fun e=>by
  induction e with
  | zero=>exact fun _=>⟨0,by omega,fun b g=>absurd g (nL _)⟩
  | succ e q =>
   intro t;obtain⟨a,h,p⟩:=q (by omega);obtain⟨i,g,k,l,-⟩:=m a h e (by omega);refine⟨i,g,fun b v=>?_⟩;by_cases j:b=e
   . subst j;exact⟨g,by omega,l⟩
   . exact o i a b ⟨g,h,k⟩ (p b (by omega))
 exact r n (nR _)
theorem qp4 {n:Nat}{f:Nat->Bool}(s:1<=n)(o:∀b e a,Le f n b e->Le f n e a->Le f n b a)(m:∀b,b<n->∀e,e<n->∃a,a<n/\kaN f n b e a):∃a,a<n/\∀b,b<n->Le f n b a:=by
 have r:∀e,e<=n->∃a,a<n/\∀b,b<e->Le f n b a:=fun e=>by
  induction e with
  | zero=>exact fun _=>⟨0,by omega,fun b g=>absurd g (nL _)⟩
  | succ e q =>
   intro t;obtain⟨a,h,p⟩:=q (by omega);obtain⟨i,g,k,l,-⟩:=m a h e (by omega);refine⟨i,g,fun b v=>?_⟩;by_cases j:b=e
   . subst j;exact⟨by omega,g,l⟩
   . exact o b a i (p b (by omega)) ⟨h,g,k⟩
 exact r n (nR _)
theorem qk0 {n a b k i:Nat}{f:Nat->Bool}(l:∀a b,Le f n a b->Le f n b a->a=b)(h:k<n)(j:i<n)(e:kaN f n a b k)(g:kaN f n a b i):k=i :=
 l k i ⟨h,j,e.2.2 i j g.1 g.2.1⟩ ⟨j,h,g.2.2 k h e.1 e.2.1⟩
theorem qk8 {n a b k i:Nat}{f:Nat->Bool}(l:∀a b,Le f n a b->Le f n b a->a=b)(h:k<n)(j:i<n)(e:kaO f n a b k)(g:kaO f n a b i):k=i :=
 l k i ⟨h,j,g.2.2 k h e.1 e.2.1⟩ ⟨j,h,e.2.2 i j g.1 g.2.1⟩
theorem qfb {n i:Nat}(a:i<n*n):i / n<n/\i % n<n/\i / n*n+i % n=i:=by
 have b:0<n:=by
  apply Nat.pos_of_ne_zero;intro e;subst e;simp at a
 exact⟨(Nat.div_lt_iff_lt_mul b).2 a,Om _ b,by rw[On];exact Nat.div_add_mod i n⟩
end
end Go.Proofs.YtenckgnkjkijnaaGreatDoor
namespace Go.Proofs.YtenckgnkjkijnaaGreatDoor
open Go Go.Proofs.Tryz
theorem qlg {m:Fm}{k x:Nat}{D:List Nat}(f:k<m.F.length)(j:nxt m D=some x):Rch m k x ↔ ∃a,a∈D/\a<m.F.length/\kbM m a x=true/\(a=k∨Rch m k a):=by
 obtain⟨g,d,-⟩:=qko j;have e:∀a,a<m.F.length->kbM m a x=true->a∈D:=by
  intro a c b;unfold kdX at d;rw[Yh,Yv]at d;have:=d.2 a (Yu.2 c);rw[b]at this;simpa using this
 constructor
 . intro h
   cases h with
   | one i b=>exact⟨k,e k f b,f,b,.inl rfl⟩
   | step c i b=>exact⟨_,e _ c.lt b,c.lt,b,.inr c⟩
 . rintro⟨a,-,-,b,rfl | c⟩
   . exact .one g b
   . exact .step c g b
