import Derived.Test.YtenckgnkjkijnaaGreatDoorW04
set_option maxRecDepth 100000
set_option maxHeartbeats 64000000
namespace Go.Proofs.YtenckgnkjkijnaaGreatDoor
open Go Go.RowKit Go.Proofs.Tryz
def Bk (w:Tw)(g:Nat)(t:TypeId)(n:Nat):Prop:=∃cs,Blk w g t cs/\cs.length=n
theorem Bk.lt {w:Tw}{g n:Nat}{t:TypeId}(a:Bk w g t n):g<w.heap.size:=a.elim fun _ a=>a.1.lt
theorem Bk.mono {w w':Tw}{B g n:Nat}{t:TypeId}(a:Bk w g t n)(c:Below B w w')(d:g<B):Bk w' g t n:=a.elim fun b a=>⟨b,a.1.mono c d,a.2⟩
theorem Bk.keep {w w':Tw}{g n:Nat}{t:TypeId}(a:Bk w g t n)(c:w'.heap[g]? = w.heap[g]?):Bk w' g t n:=a.elim fun b a=>⟨b,c.trans a.1,a.2⟩
theorem Bk.other {w:Tw}{g n R:Nat}{t:TypeId}(a:Bk w g t n)(c:g≠R)(j:Nat)(v:Value):Bk (w.setCell ⟨R,j,none⟩ v) g t n:=a.elim fun b a=>⟨b,a.1.other v c,a.2⟩
theorem Bk.set {w:Tw}{g n:Nat}{t:TypeId}(a:Bk w g t n)(j:Nat)(v:Value):Bk (w.setCell ⟨g,j,none⟩ v) g t n:=a.elim fun b a=>⟨b.set j v,a.1.set j v,by rw[List.length_set];exact a.2⟩
theorem Bk.cell {w:Tw}{g n j:Nat}{t:TypeId}(a:Bk w g t n)(b:j<n):∃c,w.cell? ⟨g,j,none⟩=some c:=a.elim fun c a=>⟨_,(a.1.cell j).trans (Yg (by rw[a.2];exact b))⟩
theorem Bk.free {w:Tw}{g n:Nat}{t:TypeId}(a:Bk w g t n)(j:Nat):w.frozen? ⟨g,j,none⟩=false:=a.elim fun _ a=>a.1.free j
theorem q56 (k n:Int)(t:Tb)(w:Tw) :
 Gv 44 #[.agg (Jc k n t),.agg (Jc k n t)] w (.bool true):=by
 have d:(t.toList==t.toList)=true:=by simp
 have c:∀a b,Bw w ((w.alloc a).alloc b):=fun a b=>((bR _ w).alloc (nR _) a).alloc (by simp) b;have a:=h_ c;go_enter func44,ntmps44;go_wp2;go_ret;exact⟨rfl,a _ _⟩
theorem qne {a:Bool}{p:Prop}(c:a=true ↔ p)(b:¬ p):a=false:=by
 cases a with
 | false=>rfl
 | true=>exact absurd (c.1 rfl) b
def kbB (w:Tw)(a:To)(n:Nat)(f g:Nat->Int):Prop :=
 ∀k,k<n->∃b off,a=some ⟨b,off,none⟩/\b<w.heap.size/\w.cell? ⟨b,off+k*2,none⟩=some (J6 (f k))/\w.cell? ⟨b,off+k*2+1,none⟩=some (J6 (g k))
theorem kbB.mono {w w':Tw}{a:To}{n:Nat}{f g:Nat->Int}(i:kbB w a n f g)(c:Bw w w'):kbB w' a n f g:=fun e l=>by
 obtain⟨b,h,rfl,d,j,k⟩:=i e l;exact⟨b,h,rfl,Yn d c.size,(c.cell (p:=⟨b,h+e*2,none⟩) d).trans j,(c.cell (p:=⟨b,h+e*2+1,none⟩) d).trans k⟩
theorem q1g (N:Int)(a:To)(m c:Nat)(w:Tw)(g:m<=9223372036854775807)(h:¬ (1<=N/\N<=32/\m<=256)) :
 Gv 124 #[.agg (Jn N a m c)] w (.bool false):=by
 have e:N<1∨(1<=N/\32<N)∨(1<=N/\N<=32/\256<m):=by omega
 rcases e with b | ⟨b,d⟩ | ⟨b,d,f⟩
 all_goals
  go_enter func124,ntmps124;go_wp2;go_ret;exact⟨rfl,(bR _ _).alloc (nR _) _⟩
theorem q1f (N:Int)(a:To)(m c:Nat)(f g:Nat->Int)(w:Tw)(C:1<=N)(D:N<=32)(I:m<=256)(v:kbB w a m f g)(i:Bool)(u:i=true ↔ ∀b,b<m->0<=f b/\f b<N/\0<=g b/\g b<N) :
 Gv 124 #[.agg (Jn N a m c)] w (.bool i):=by
 have n:=h_ u;go_enter func124,ntmps124;go_wp2;have x:Bw w (w.alloc (.cells (Jn N a m c) 162)):=(bR _ _).alloc (nR _) _;have e:=h_ x;have k:=Blk.new w 162 (Jn N a m c);have r:=k.cell 0;have c1:=k.cell 1;simp only[Yz,Yf]at r c1;have J:w.heap.size<(w.alloc (.cells (Jn N a m c) 162)).heap.size:=by simp
 have q:=v.mono e;generalize (w.alloc (.cells (Jn N a m c) 162))=o at *;go_loopw [3] (fun h wr=>∃b:Nat,b<=m/\h=J6 b/\(∀d,d<b->0<=f d/\f d<N/\0<=g d/\g d<N)/\∃j,wr=o.drewN j) (fun h _=>m - (intOf h).toNat)
 case atStart=>exact⟨0,nZ _,rfl,fun d h=>absurd h (nL _),0,rfl⟩
 case round =>
  obtain⟨b,G,rfl,y,j,rfl⟩:=hrel;obtain⟨l,A⟩:=oB y (q4s o j);by_cases p:b<m
  . obtain⟨B,K,rfl,H,E,F⟩:=q b p
    have t:¬ (0<=f b/\f b<N/\0<=g b/\g b<N)->i=false:=fun s=>qne n fun h=>s (h b p);have h:=h_ t;by_cases L:f b<0
    . go_wp2
      go_quiet (fail)
      go_wp2;go_ret;exact⟨qln (h (by omega)).symm,e.trans ⟨rfl,rfl,rfl,nR _,fun _ _=>rfl⟩⟩
    by_cases M:N<=f b
    . go_wp2
      go_quiet (fail)
      go_wp2;go_ret;exact⟨qln (h (by omega)).symm,e.trans ⟨rfl,rfl,rfl,nR _,fun _ _=>rfl⟩⟩
    by_cases O:g b<0
    . go_wp2
      go_quiet (fail)
      go_wp2
      go_quiet (fail)
      go_wp2;go_ret;exact⟨qln (h (by omega)).symm,e.trans ⟨rfl,rfl,rfl,nR _,fun _ _=>rfl⟩⟩
    by_cases P:N<=g b
    . go_wp2
      go_quiet (fail)
      go_wp2
      go_quiet (fail)
      go_wp2;go_ret;exact⟨qln (h (by omega)).symm,e.trans ⟨rfl,rfl,rfl,nR _,fun _ _=>rfl⟩⟩
    go_wp2
    go_quiet (fail)
    go_wp2
    go_quiet (fail)
    go_wp2;go_roundw
    case rel=>exact⟨b+1,by omega,by go_num,fun d z=>by
     by_cases s:d=b
     . subst s;omega
     . exact l d (by omega),_,rfl⟩
    case measure=>simp[intOf];omega
  . go_wp2
    go_ret;exact⟨qln (n.2 fun d z=>l d (by omega)).symm,e.trans ⟨rfl,rfl,rfl,nR _,fun _ _=>rfl⟩⟩
def kbu (p:Nat->Bool)(n:Nat):Int:=match (List.range n).find? p with
 | some c=>c
 | none=>-1
theorem qf1 {p:Nat->Bool}{n k:Nat}(c:k<n)(b:∀a,a<k->p a=false)(d:p k=true):kbu p n=k:=by
 have:(List.range n).find? p=some k:=by
  rw[List.find?_range_eq_some];exact⟨d,by simpa using c,fun e a=>by simp[b e a]⟩
 rw[kbu,this]
theorem qas {p:Nat->Bool}{n:Nat}(b:∀a,a<n->p a=false):kbu p n = -1:=by
 have:(List.range n).find? p=none:=by
  rw[Ov];intro c a;simp[b c (List.mem_range.1 a)]
 rw[kbu,this]
theorem q7s (p:Nat->Bool)(n:Nat):(∃a:Nat,a<n/\kbu p n=a/\p a=true)∨(kbu p n = -1/\∀a,a<n->p a=false):=by
 cases b:(List.range n).find? p with
 | some a =>
  left;have c:=List.find?_some b;have d:=List.mem_of_find?_eq_some b;exact⟨a,Yu.1 d,by rw[kbu,b],c⟩
 | none =>
  right;refine⟨by rw[kbu,b],fun a c=>?_⟩;have:=(Ov.1 b) a (Yu.2 c);simpa using this
theorem kgR {p:Nat->Bool}{k:Nat}(c:∀a,a<k->p a=false)(d:p k=false):∀a,a<k+1->p a=false:=fun a b=>by
 by_cases b:a=k
 . rw[b];exact d
 . exact c a (by omega)
theorem qba (t:To)(m y n a b:Nat)(f:Nat->Bool)(w:Tw)(A:n*n<=m)(v:n<=32)(q:a<n)(s:b<n)(x:ka1 w t m f)(r:Int)(B:kbu (ka3 f n a b) n=r) :
 Calls prog 127 #[.slice t m y,J6 n,J6 a,J6 b] w fun i k=>i=.returned (J6 r)/\k=w:=by
 obtain⟨l,o⟩:=oB A B;go_enter func127,ntmps127;go_wp2
 go_loop [9] (fun e=>∃c:Nat,c<=n/\e=J6 c/\∀d,d<c->ka3 f n a b d=false) (fun e=>n - (intOf e).toNat)
 case atStart=>exact⟨0,nZ _,rfl,fun d e=>absurd e (nL _)⟩
 case round =>
  obtain⟨c,C,rfl,z⟩:=hrel;have h:=h_ z;by_cases j:c<n
  . cases g:ka3 f n a b c
    . go_wp2_with (go_at_call 161;refine(q5k _ _ _ _ _ _ _ f _ l v q s j x).mono ?_;rintro i k ⟨rfl,rfl⟩;rw[g])
      go_round
      case rel=>exact⟨c+1,by omega,by go_num,kgR h g⟩
      case measure=>simp[intOf];omega
    . have e:=qf1 j h g
      rw[o.u]at e;subst e;go_wp2_with (go_at_call 161;refine(q5k _ _ _ _ _ _ _ f _ l v q s j x).mono ?_;rintro i k ⟨rfl,rfl⟩;rw[g]);go_ret;exact⟨rfl,rfl⟩
  . have e:=qas (p:=ka3 f n a b) (n:=n) fun d g=>h d (by omega)
    rw[o.u]at e;subst e;go_wp2;go_ret;exact⟨rfl,rfl⟩
theorem qbb (t:To)(m y n a b:Nat)(f:Nat->Bool)(w:Tw)(A:n*n<=m)(v:n<=32)(q:a<n)(s:b<n)(x:ka1 w t m f)(r:Int)(B:kbu (ka4 f n a b) n=r) :
 Calls prog 128 #[.slice t m y,J6 n,J6 a,J6 b] w fun i k=>i=.returned (J6 r)/\k=w:=by
 obtain⟨l,o⟩:=oB A B;go_enter func128,ntmps128;go_wp2
 go_loop [9] (fun e=>∃c:Nat,c<=n/\e=J6 c/\∀d,d<c->ka4 f n a b d=false) (fun e=>n - (intOf e).toNat)
 case atStart=>exact⟨0,nZ _,rfl,fun d e=>absurd e (nL _)⟩
 case round =>
  obtain⟨c,C,rfl,z⟩:=hrel;have h:=h_ z;by_cases j:c<n
  . cases g:ka4 f n a b c
    . go_wp2_with (go_at_call 162;refine(q5l _ _ _ _ _ _ _ f _ l v q s j x).mono ?_;rintro i k ⟨rfl,rfl⟩;rw[g])
      go_round
      case rel=>exact⟨c+1,by omega,by go_num,kgR h g⟩
      case measure=>simp[intOf];omega
    . have e:=qf1 j h g
      rw[o.u]at e;subst e;go_wp2_with (go_at_call 162;refine(q5l _ _ _ _ _ _ _ f _ l v q s j x).mono ?_;rintro i k ⟨rfl,rfl⟩;rw[g]);go_ret;exact⟨rfl,rfl⟩
  . have e:=qas (p:=ka4 f n a b) (n:=n) fun d g=>h d (by omega)
    rw[o.u]at e;subst e;go_wp2;go_ret;exact⟨rfl,rfl⟩
end Go.Proofs.YtenckgnkjkijnaaGreatDoor
namespace Go.Proofs.YtenckgnkjkijnaaGreatDoor
open Go.Lib
def dgt (c:UInt8):Nat:=c.toNat - 48
def kck (l:List UInt8):Prop:=∀c,c∈l->48<=c.toNat/\c.toNat<=57
def low (l:List UInt8):List Nat:=l.reverse.map dgt
theorem qpz {l:List UInt8}(b:kck l):Dig (low l):=fun a d=>by
 obtain⟨a,c,rfl⟩:=List.mem_map.1 d;have:=b a (List.mem_reverse.1 c);unfold dgt;omega
theorem qf9 (l:List Nat):∀a,kbv a l=a*10 ^ l.length+kad l.reverse:=by
 induction l with
 | nil=>intro a;simp[kbv,kad]
 | cons b d c =>
  intro a;rw[kbv,c,List.reverse_cons,qep,List.length_reverse,List.length_cons,Nat.pow_succ,Nat.add_mul,Nat.mul_assoc,Nat.mul_comm 10,Nat.mul_comm b];omega
theorem qpy (n:Nat):kck (decDigits n)/\kad (low (decDigits n))=n/\decDigits n≠[]:=by
 obtain⟨h,c,d,i⟩:=qp5 n;have e:∀a,a∈kbH n->(UInt8.ofNat (48+a)).toNat=48+a:=fun a b=>by
  have:=c a b;rw[UInt8.toNat_ofNat'];omega
 refine⟨fun a b=>?_,?_,kfu n⟩
 . rw[d]at b
   obtain⟨g,f,rfl⟩:=List.mem_map.1 b;have:=c g f;rw[e g f];omega
 . have f:low (decDigits n)=(kbH n).reverse:=by
    rw[d,low,kcu,<- List.map_reverse,List.map_map]
    conv=>rhs;rw[<- List.map_id (kbH n).reverse]
    refine List.map_congr_left fun a b=>?_;have:=e a (List.mem_reverse.1 b);simp only[Function.comp,dgt,this,id];omega
   have:=qf9 (kbH n) 0;rw[h]at this;rw[f];omega
theorem qb9 (n:Int):(n<0->∃a,itoa n=45 :: a/\a=decDigits n.natAbs)/\(¬ n<0->itoa n=decDigits n.natAbs/\∃a c,itoa n=a :: c/\a.toNat≠45):=by
 refine⟨fun b=>⟨_,by rw[itoa,if_pos b],rfl⟩,fun b=>?_⟩;have d:itoa n=decDigits n.natAbs:=by rw[itoa,if_neg b,show n.toNat=n.natAbs by omega]
 obtain⟨a,c,e,f,g⟩:=qiu n.natAbs;exact⟨d,a,c,by rw[d,e],by omega⟩
theorem qjv (n:Int)(c:I64 n):1<=(itoa n).length/\(itoa n).length<=20:=by
 have d:∀a:Nat,a<=9223372036854775808->1<=(decDigits a).length/\(decDigits a).length<=19:=fun a b=>by
  by_cases b:a=0
  . subst b;rw[decDigits_one (by omega)];simp
  . rw[q25 b]
    have e:=q26 (n:=a) (k:=19) (by omega);have f:(kab a).length≠0:=fun a=>b (qix.1 (List.length_eq_zero_iff.1 a));simp;omega
 have:=d n.natAbs (by unfold I64 at c;omega);by_cases b:n<0
 . obtain⟨e,a,rfl⟩:=(qb9 n).1 b
   rw[a,List.length_cons];omega
 . rw[((qb9 n).2 b).1];omega
def kbC (neg:Bool)(l:List UInt8):Int:=if neg then -(kad (low l):Int) else kad (low l)
theorem qei {t:List UInt8}{n:Int}(b:itoa n=45 :: t):kck t/\kbC true t=n:=by
 by_cases d:n<0
 . obtain⟨f,a,rfl⟩:=(qb9 n).1 d
   rw[b]at a;have:t=decDigits n.natAbs:=by simpa using a
   subst this;obtain⟨c,e,-⟩:=qpy n.natAbs;exact⟨c,by simp only[kbC,e,if_true];omega⟩
 . obtain⟨-,e,f,a,c⟩:=(qb9 n).2 d
   rw[b]at a;simp only[List.cons.injEq]at a;rw[<- a.1]at c;exact absurd rfl c
theorem qej {c:UInt8}{t:List UInt8}{n:Int}(d:c.toNat≠45)(b:itoa n=c :: t):kck (c :: t)/\kbC false (c :: t)=n:=by
 by_cases e:n<0
 . obtain⟨f,a,-⟩:=(qb9 n).1 e
   rw[b]at a;simp only[List.cons.injEq]at a;rw[a.1]at d;exact absurd rfl d
 . obtain⟨a,-⟩:=(qb9 n).2 e
   rw[<- b,a];obtain⟨f,g,-⟩:=qpy n.natAbs;refine⟨f,?_⟩;simp only[kbC,g,Bool.false_eq_true,if_false];omega
end Go.Proofs.YtenckgnkjkijnaaGreatDoor
namespace Go.Proofs.YtenckgnkjkijnaaGreatDoor
open Go Go.RowKit Go.Proofs.Tryz
theorem qbh (v:Value)(l:List Nat)(w:Tw)(u:kaJ w v l)(r:Dig l)(A:l.length<=1000) :
 Calls prog 292 #[v] w fun c b=>∃a,c=.returned a/\kaJ w a (kab (kad l))/\b=w/\a.ownBlock=(v:Value).ownBlock:=by
 obtain⟨d,i,rfl,z,t,k⟩:=u;go_enter func292,ntmps292;go_wp2;go_loopw [3] (fun e wr=>∃a:Nat,a<=l.length/\e=J6 a/\(∀b,a<=b->b<l.length->l.getD b 0=0)/\wr=w) (fun e _=>(intOf e).toNat)
 case atStart=>exact⟨l.length,nR _,rfl,fun b e f=>absurd f (by omega),rfl⟩
 case round =>
  obtain⟨a,s,rfl,x,rfl⟩:=hrel;have g:=h_ x;have q:(a=0∨l.getD (a - 1) 0≠0)->kaJ wr (.slice d a i) (kab (kad l)):=fun e=>by
   have c:=qsl r s g e;have e:(l.take a).length=a:=by simp;omega
   refine⟨d,i,by rw[<- c,e],by rw[<- c,e];omega,t,?_⟩;rw[<- c,e];intro b n;obtain⟨h,o,f,j,m⟩:=k b (by omega);exact⟨h,o,f,j,by rw[m];simp[List.getD,n]⟩
  have f:=h_ q;cases a with
  | zero =>
   go_wp2;go_ret;exact⟨_,rfl,f (.inl trivial),rfl,by cases d <;> rfl⟩
  | succ a =>
   obtain⟨h,o,rfl,y,m⟩:=k a (by omega);obtain⟨p,e⟩:=Nq (l.getD a 0);dsimp only at m;rw[e]at m;by_cases j:p=0
   . go_wp2
     go_roundw
     case rel=>exact⟨a,by omega,rfl,fun b n n=>by
      by_cases c:b=a
      . subst c;rw[e];exact j
      . exact g b (by omega) n,trivial⟩
     case measure=>simp[intOf]
   . go_wp2
     go_ret;exact⟨_,rfl,f (.inr (by rw[Nat.add_sub_cancel,e];exact j)),rfl,rfl⟩
theorem q5v (v u:Value)(l m:List Nat)(w:Tw)(T:kaJ w v l)(S:kaJ w u m)(o:Dig l)(I:Dig m)(bl:l.length<=500)(aa:kad m<=kad l) :
 Calls prog 290 #[v,u] w fun f i=>∃q,f=.returned q/\kaJ i q (kab (kad l - kad m))/\Bw w i/\∀g,q.ownBlock=some g->w.heap.size<=g:=by
 have Y:Hi (Bw w (w.alloc (.cells #[] 3))):=(bR _ _).alloc (nR _) _;obtain⟨af,ca,rfl,-,-,hA⟩:=id T;obtain⟨r,cb,rfl,-,-,hB⟩:=id S;obtain⟨HV,HU,Z⟩:=oC T S aa;go_enter func290,ntmps290;go_wp2_with fail;go_loopw [5,6,7] (fun h d c wr=>∃(b a:Nat) (e:List Nat),b<=l.length/\c=J6 b/\d=J6 a/\a<=1/\e.length=b/\Dig e/\kad l % 10 ^ b+a*10 ^ b=kad e+kad m % 10 ^ b/\wr.ownsRow w.heap.size 3 1 h b (ui e)/\Bw w wr) (fun _ _ c _=>l.length - (intOf c).toNat)
 case atStart=>exact⟨0,0,[],by omega,rfl,rfl,by omega,rfl,(fun s c=>by cases c),by simp[kad,Nat.mod_one],qgj w 3,Y⟩
 case round =>
  obtain⟨b,a,e,hk,rfl,rfl,R,J,ad,kbv,ae,F⟩:=hrel;obtain⟨n,h,j,k⟩:=oD ae F (And.intro ad kbv) J;by_cases ag:b<l.length
  . obtain⟨c,U⟩:=Nq (l.getD b 0)
    obtain⟨d,W⟩:=Nq (m.getD b 0);have V:c<10:=(by rw[<- U];exact o.getD b);have X:d<10:=(by rw[<- W];exact I.getD b);obtain⟨z,A,V2,U2⟩:=oD U W (HV.mono F) (HU.mono F);go_wp2_with fail;refine(q85 _ l b wr V2 c z).mono ?_;rintro f i ⟨rfl,rfl⟩;go_wp2_with fail;refine(q85 _ m b i U2 d A).mono ?_;rintro f t ⟨rfl,rfl⟩;by_cases ah:c<d+a
    . have ac:(c:Int) - d - a<0:=by omega
      obtain⟨N,H,K,L,M⟩:=info_parts kbf;go_wp2_with (at_builtin;refine wpList_append_own _ rfl _ _ 89 rfl w.heap.size 3 N _ 1 8 underlying89 H K L M rfl (by omega) u5 _ _ rfl (n.alloc _) ⟨t.heap.size,0,none⟩ 1 1 [J6 ((c:Int) - d - a+10)] rfl rfl (qim t 3 _) (by simp[Value.oneCell']) (by unfold maxLen;omega) (by omega) (by have:=h.size;simp;omega) ?_);intro O i p G _;have E:=(h.alloc (by have:=h.size;omega) (.cells #[J6 ((c:Int) - d - a+10)] 3)).grown G (by have:=h.size;simp;omega) (fun q' f=>qc8 n f);have y:Hi (i.ownsRow w.heap.size 3 1 O (b+1) (ui (e++[c+10 - d - a]))):=by
       rw[Hi];rw[show(c:Int) - d - a+10=((c+10 - d - a:Nat):Int) by omega]at p;simpa [ui] using p
      have x:=h_ E;go_wp2_with fail;go_roundw
      case rel =>
       refine⟨b+1,1,e++[c+10 - d - a],by omega,by go_num,rfl,by omega,?_,?_,?_,y,x⟩
       . have:=k.u;simp[this]
       . exact j.1.snoc (by omega)
       . rw[qep,k.u,qkc,qkc,<- ka9 o,<- ka9 I,z.u,A.u]
         obtain⟨s,r,B,P,Q,C,D⟩:=qm8 j.2 R V X;obtain rfl:r=1:=(by omega);obtain rfl:s=c+10 - d - a:=(by omega);exact D
      case measure=>simp[intOf];omega
    . have ac:0<=(c:Int) - d - a:=by omega
      obtain⟨N,H,K,L,M⟩:=info_parts kbf;go_wp2_with (at_builtin;refine wpList_append_own _ rfl _ _ 89 rfl w.heap.size 3 N _ 1 8 underlying89 H K L M rfl (by omega) u5 _ _ rfl (n.alloc _) ⟨t.heap.size,0,none⟩ 1 1 [J6 ((c:Int) - d - a)] rfl rfl (qim t 3 _) (by simp[Value.oneCell']) (by unfold maxLen;omega) (by omega) (by have:=h.size;simp;omega) ?_);intro O i p G _;have E:=(h.alloc (by have:=h.size;omega) (.cells #[J6 ((c:Int) - d - a)] 3)).grown G (by have:=h.size;simp;omega) (fun q' f=>qc8 n f);have y:Hi (i.ownsRow w.heap.size 3 1 O (b+1) (ui (e++[c - d - a]))):=by
       rw[Hi];rw[show(c:Int) - d - a=((c - d - a:Nat):Int) by omega]at p;simpa [ui] using p
      have x:=h_ E;go_wp2_with fail;go_roundw
      case rel =>
       refine⟨b+1,0,e++[c - d - a],by omega,by go_num,rfl,by omega,?_,?_,?_,y,x⟩
       . have:=k.u;simp[this]
       . exact j.1.snoc (by omega)
       . rw[qep,k.u,qkc,qkc,<- ka9 o,<- ka9 I,z.u,A.u]
         obtain⟨s,r,B,P,Q,C,D⟩:=qm8 j.2 R V X;obtain rfl:r=0:=(by omega);obtain rfl:s=c - d - a:=(by omega);exact D
      case measure=>simp[intOf];omega
  . obtain rfl:b=l.length:=by omega
    have B:=j.2;have P:=qo8 o;have Q:=Z.u;rw[qqg o (nR _),Zs (by omega:kad m<10 ^ l.length)]at B;have C:=qo8 j.1;rw[k.u]at C;have t:a=0:=by
     rcases (by omega:a=0∨a=1) with c | c
     . exact c
     . subst c;omega
    subst t;have kbv:kad e=kad l - kad m:=(by omega);have x:=j.1;have d:kaJ wr u5 e:=(by have:=n.u;rw[<- k.u]at this;exact q50 this);have J:e.length<=1000:=(by have:=k.u;omega);have y:∀g,u5.ownBlock=some g->w.heap.size<=g:=fun g f=>qc8 n f;go_wp2_with fail;refine(qbh u5 e wr d x J).mono ?_;rintro f i ⟨q,rfl,c,rfl,z⟩;rw[kbv]at c;have p:=h_ c;have s:Hi (∀g,q.ownBlock=some g->w.heap.size<=g):=h_ (fun g f=>y g (by rw[<- z];exact f));go_wp2;go_ret;exact⟨_,rfl,p,h,s⟩
def kbV (z k:Nat):List Nat:=(List.range k).map fun j=>z / 10 ^ j % 10
theorem q98 (z k:Nat):kbV z (k+1)=kbV z k++[z / 10 ^ k % 10]:=by simp[kbV,List.range_succ]
theorem qci (z k:Nat):(kbV z k).length=k:=by simp[kbV]
theorem qch (z k:Nat):Dig (kbV z k):=fun a a=>by
 obtain⟨b,-,rfl⟩:=Y4.1 a;exact Om _ (by decide)
theorem qcj (z:Nat):∀a,kad (kbV z a)=z % 10 ^ a
 | 0=>by simp[kbV,kad,Nat.mod_one]
 | a+1=>by rw[q98,qep,qci,qcj z a,qkc]
def kc1 (z N k:Nat):Tl:=(List.range N).map fun j=>.int .i64 (if j<k then 0 else ((z / 10 ^ j % 10:Nat):Int))
theorem qrm (z N k:Nat)(e:k<N):(kc1 z N (k+1)).set k (J6 ((z / 10 ^ k % 10:Nat):Int))=kc1 z N k:=by
 apply Oy;intro a;rw[Zx];by_cases b:k=a
 . subst b
   simp[kc1,e]
 . rw[Yl b]
   by_cases d:a<N
   . simp only[kc1,Zj,Gg d,Gd]
     by_cases c:a<k
     . rw[Yr (by omega),Yr c]
     . rw[Yl (by omega),Yl c]
   . simp[kc1,d]
theorem qrl (z N:Nat):kc1 z N 0=ui (kbV z N):=by simp[kc1,kbV,ui]
theorem qld (z N:Nat):kc1 z N N=List.replicate N (J6 0):=by
 apply Oy;intro b;by_cases a:b<N
 . simp[kc1,a]
 . simp[kc1,a]
theorem qo7 {n M k:Nat}(d:n - k*M<M)(c:k*M<=n):k=n / M:=by
 have b:n<(k+1)*M:=by rw[Od,Nat.one_mul];omega
 have a:0<M:=by omega
 have e:k<=n / M:=(Nat.le_div_iff_mul_le a).2 c;have f:n / M<k+1:=(Nat.div_lt_iff_lt_mul a).2 b;omega
theorem q7d {w:Tw}{Q N:Nat}{t:TypeId}{us:List Nat}(a:Blk w Q t (ui us))(c:us.length=N):kaJ w (.slice (some ⟨Q,0,none⟩) N N) us:=by
 refine⟨some ⟨Q,0,none⟩,N,by rw[c],by omega,(fun b=>by cases b),fun d b=>⟨Q,0,rfl,a.lt,?_⟩⟩;rw[Y3,a.cell d];simp[ui,List.getD_eq_getElem?_getD,List.getElem?_eq_getElem b]
theorem kaJ.other {w:Tw}{v:Value}{l:List Nat}(e:kaJ w v l){Q:Nat}(i:v.ownBlock≠some Q)(j:Nat)(u:Value):kaJ (w.setCell ⟨Q,j,none⟩ u) v l:=by
 obtain⟨b,c,rfl,f,g,h⟩:=e;refine⟨b,c,rfl,f,g,fun p n=>?_⟩;obtain⟨a,q,rfl,o,m⟩:=h p n;have k:a≠Q:=fun d=>i (by rw[d];rfl);refine⟨a,q,rfl,by simpa using o,?_⟩;rw[World.cell?_of_block (w:=w) (heap_setCell_other w ⟨Q,j,none⟩ a u k)];exact m
theorem q5s (v u:Value)(l m:List Nat)(w:Tw)(hv:kaJ w v l)(hu:kaJ w u m)(hl:Dig l)(hm:Dig m)(bl:l.length<=200)(bm:m.length<=200)(h0:0<kad m) :
 Calls prog 291 #[v,u] w fun g a=>∃f,g=.returned f/\kaJ a f (kab (kad l / kad m))/\Bw w a:=by
 obtain⟨aG,ca,rfl,-,-,hA⟩:=id hv;obtain⟨aV,cb,rfl,-,-,hB⟩:=id hu;obtain⟨HV,HU⟩:=oB hv hu;obtain⟨j,hN⟩:=Nq l.length;obtain⟨nm,ao⟩:=Nq m.length;rw[hN]at bl HV⊢;rw[ao]at bm HU⊢;obtain⟨aj,ae⟩:=oB hN ao;obtain⟨HL,X⟩:=oB hl hm;obtain⟨h,hn⟩:=Nq (kad l);obtain⟨b,hM⟩:=Nq (kad m);rw[hn,hM];rw[hM]at h0;obtain⟨ak,R⟩:=oB hn hM;have aw:b<10 ^ nm:=by rw[<- R.u,<- ae.u];exact qo8 X
 have aF:h<10 ^ j:=by rw[<- ak.u,<- aj.u];exact qo8 HL
 have Y:=h_ (And.intro aw aF);obtain⟨M,ap⟩:=Nq (w.alloc (.cells #[] 3));have c:=nB ap;have aQ:kaJ M (.slice (some ⟨w.heap.size,0,none⟩) 0 0) []:=by rw[<- ap];exact q50 (us:=[]) (qgj w 3)
 obtain⟨d,aA⟩:=oB c aQ;obtain⟨i0,q,t,E,H⟩:=info_parts kbf;have aK:i0.bytes*j<=281474976710656:=by rw[H];omega
 go_enter func291,ntmps291;go_wp2_with (at_make;refine wpList_make_full _ rfl (.tmp 13) (.tmp 13) 89 rfl M.heap.size 3 i0 (J6 0) 1 underlying89 q t E .i64 .i64 _ _ j rfl rfl rfl rfl aK (by unfold maxLen;omega) (nR _) ?_;intro w2 aN aM);have C:Bw M w2:=(bR _ _).grown aM (nR _) (fun L F=>by cases F);obtain⟨o,hQ⟩:=Nq M.heap.size;have aI:Blk w2 o 3 (kc1 (h / b) j j):=by
  have F:=Blk.of_owns aN;rw[hQ,show(Value.int .i64 0).cells=#[J6 0] from rfl,toList_madeCells_one,Nat.mul_one]at F;rw[qld];exact F
 have al:w.heap.size<=o:=by rw[<- hQ];exact d.size
 have y:=mT d C;have aB:Hi (kaJ w2 (.slice (some ⟨w.heap.size,0,none⟩) 0 0) (kab (h / 10 ^ j % b))):=h_ (by
  rw[Zv Y.u.2,Nat.zero_mod,qel];exact aA.mono C)
 have az:=h_ aI;rw[hQ];go_wp2;go_loopw [5,7,8,9,10] (fun K a _ _ _ wr=>∃L:Nat,L<=j/\a=J6 ((L:Int) - 1)/\kaJ wr K (kab (h / 10 ^ L % b))/\Blk wr o 3 (kc1 (h / b) j L)/\Bw w wr) (fun _ a _ _ _ _=>(intOf a+1).toNat)
 case atStart=>exact⟨j,nR _,rfl,aB,az,y⟩
 case round =>
  obtain⟨L,hk,rfl,G,aP,hb⟩:=hrel;obtain⟨ah,z,B⟩:=oC G aP hb;obtain⟨e,rfl⟩:∃e,e=wr:=⟨_,rfl⟩;cases L with
  | zero =>
   have a:Hi (kaJ e (.slice (some ⟨o,0,none⟩) j j) (kbV (h / b) j)):=h_ (q7d (by rw[<- qrl];exact z) (qci _ _));have A:h / b<10 ^ j:=Oc (Ou _ _) Y.2;have p:=h_ A;go_wp2_with fail;refine(qbg _ _ e a (qch _ _) (by rw[qci];omega)).mono ?_;rintro g x ⟨uu,rfl,D,rfl⟩;rw[qcj,Zs p.u]at D;have s:=h_ D;go_wp2;go_ret;exact⟨_,rfl,s,B⟩
  | succ a =>
   rw[show((a+1:Nat):Int) - 1=(a:Int) by omega];have aa:a<j:=by omega
   have aW:(a:Int)<j:=by omega
   obtain⟨f,hr⟩:=Nq (h / 10 ^ (a+1) % b);rw[hr]at ah;have I:=h_ (qen (n:=h) (m:=b) (i:=a) (r:=f) h0 hr.symm);have aR:f<b:=by rw[<- hr];exact Om _ h0
   obtain⟨s,hx⟩:=Nq (h / 10 ^ a % 10);rw[hx]at I;have aS:s<10:=by rw[<- hx];exact Om _ (by decide)
   have VR:=h_ (HV.mono B);obtain⟨O,V,ea,-,cA⟩:∃O V,aG=some ⟨O,V,none⟩/\O<e.heap.size/\e.cell? ⟨O,V+a,none⟩=some (J6 s):=by
    obtain⟨P,Q,g,-,-,N⟩:=VR.u;cases g;obtain⟨O,V,A,J,p⟩:=N a (by have:=aj.u;omega);exact⟨O,V,A,J,by dsimp only at p;rwa [ka9 HL.u,ak,hx]at p⟩
   have HX:=h_ hx;cases ea;obtain⟨ra,rc,er,-,-,am⟩:=id ah;subst er;obtain⟨N,hR⟩:=Nq ((kab f).length);have aX:N<=200:=by rw[<- hR];exact Y5 (q26 (Nat.lt_trans aR Y.1)) bm
   have Z:=h_ hR;rw[hR]at ah am⊢;have aC:=h_ am;have ax:Hi ((e.alloc (.cells #[J6 (s:Int)] 3)).ownsRow e.heap.size 3 1 (.slice (some ⟨e.heap.size,0,none⟩) 1 1) (0+1) (ui (s :: (kab f).take 0))):=h_ ⟨rfl,.inr ⟨e.heap.size,1,#[J6 (s:Int)],rfl,nR _,heap_alloc_new e (.cells #[J6 (s:Int)] 3),by omega,by unfold maxLen;omega,rfl,rfl⟩⟩;have d:Hi (Bw e (e.alloc (.cells #[J6 (s:Int)] 3))):=h_ ((bR _ _).alloc (nR _) _);go_wp2;go_loopw [8,9] (fun J A M=>∃p:Nat,p<=N/\A=J6 p/\M.ownsRow e.heap.size 3 1 J (p+1) (ui (s :: (kab f).take p))/\Bw e M) (fun _ A _=>N - (intOf A).toNat)
   case atStart=>exact⟨0,by omega,rfl,ax,d⟩
   case round =>
    obtain⟨p,hq,rfl,J,c⟩:=hrel;obtain⟨A,d⟩:=oB J c;clear J c;by_cases an:p<N
    . have a1:(p:Int)<N:=by omega
      obtain⟨br,a2,er,-,P⟩:=aC.mono d p an;subst er;dsimp only at P;obtain⟨c,J⟩:=Nq ((kab f).getD p 0);rw[J]at P;have W:Hi (s :: (kab f).take (p+1)=(s :: (kab f).take p)++[c]):=h_ (by
       have Q:p<(kab f).length:=(by rw[Z.u];exact an);rw[List.take_add_one,Yg Q,<- J,Yo,Yg Q];rfl)
      clear J;obtain⟨i0,q,t,E,H⟩:=info_parts kbf;go_wp2_with (at_builtin;refine wpList_append_own _ rfl _ _ 89 rfl e.heap.size 3 i0 _ 1 8 underlying89 q t E H rfl (by omega) _ _ _ rfl (A.alloc _) ⟨wr.heap.size,0,none⟩ 1 1 [J6 (c:Int)] rfl rfl (qim wr 3 _) (by simp[Value.oneCell']) (by unfold maxLen;omega) (by omega) (by have:=d.size;simp;omega) ?_);intro v' aT T S _;have Q:=(d.alloc d.size (.cells #[J6 (c:Int)] 3)).grown S (by have:=d.size;simp;omega) (fun U g=>qc8 A g);have U:Hi (aT.ownsRow e.heap.size 3 1 v' (p+1+1) (ui (s :: (kab f).take (p+1)))):=h_ (by rw[W.u];simpa [ui] using T);have y:=h_ Q;clear T S Q q t E H A d P;go_wp2;go_roundw
      case rel=>exact⟨p+1,by omega,by go_num,U,y⟩
      case measure=>simp[intOf];omega
    . obtain rfl:p=N:=by omega
      have Q:(kab f).take p=kab f:=Yy (by have:=Z.u;omega);have H:=A.u;rw[Q]at H;have P:kaJ wr u8 (s :: kab f):=q50 (by rw[Yt,Z.u];exact H);obtain⟨t,E⟩:=Nq (10*f+s);have kbv:kad (s :: kab f)=t:=(by rw[<- E];simp only[kad,qeo];omega);rw[E]at I;have aY:t<10*b:=(by omega);have ay:Hi (∀q,u8.ownBlock=some q->e.heap.size<=q):=h_ (fun q g=>qc8 A g);have au:=h_ P;have aE:=h_ kbv;have aU:=h_ E;have kcu:Dig (s :: kab f):=(qiv f).cons aS;have aq:=h_ kcu;have av:Hi ((s :: kab f).length<=201):=h_ (by rw[Yt,Z.u];omega);clear Q H P kbv E kcu A;go_wp2_with fail;refine(qbh _ _ wr au aq (by have:=av.u;omega)).mono ?_;rintro g x ⟨uu,rfl,D,H,A⟩;have Q:Hi (∀q,uu.ownBlock=some q->e.heap.size<=q):=h_ (fun q g=>ay q (by rw[<- A];exact g));clear A;rw[H];clear H x;rw[aE.u]at D;have E:=h_ D;clear D;obtain⟨T,rfl⟩:∃T,T=wr:=⟨_,rfl⟩;have aD:Hi (∀c,c<=t->(kab c).length<=300):=h_ fun c J=>Y5 (q26 (k:=nm+1) (by
       have:=Y.1;rw[Nat.pow_succ];omega)) (by omega)
      go_wp2;go_loopw [5,10] (fun K D wr=>∃c:Nat,c<=9/\c*b<=t/\D=J6 c/\kaJ wr K (kab (t - c*b))/\Bw T wr/\∀q,K.ownBlock=some q->e.heap.size<=q) (fun _ D _=>9 - (intOf D).toNat)
      case atStart=>exact⟨0,by omega,by omega,rfl,by rw[Nat.zero_mul,Nat.sub_zero];exact E,bR _ _,Q⟩
      case round =>
       clear E Q;obtain⟨c,a0,J,rfl,G,C,A⟩:=hrel;have Q:=h_ A;clear A;obtain⟨A,D⟩:=Nq (t - c*b);rw[D]at G;obtain⟨E,y,UR,S,ad⟩:=oG G C (((HU.mono B).mono d).mono C) D J;have aJ:A<=t:=(by omega);clear G C D J;by_cases G:c=9
       . have aH:¬ (c:Int)<9:=by omega
         have K:c=t / b:=(by have:=I.1;have h7:c<=t / b:=(Nat.le_div_iff_mul_le h0).2 ad;omega);have U:c=h / b / 10 ^ a % 10:=(by rw[K];exact I.2.1);have D:A=h / 10 ^ a % b:=by
          have h4:=I.2.2;have h5:=Nat.div_add_mod t b;have h6:=S.u;rw[On,<- K]at h5;omega
         have C:Hi (Blk wr o 3 (kc1 (h / b) j (a+1))):=h_ ((z.mono d z.lt).mono y (Yn z.lt d.size));have P:Hi (Bw T wr):=h_ y;have J:Hi (kaJ wr u5 (kab A)):=h_ E;obtain⟨W,aO⟩:∃W,wr.cell? ⟨o,a,none⟩=some W:=⟨_,(C.cell a).trans (Yg (by simp[kc1];exact aa))⟩;have aL:=C.free a;have af:Hi (Blk (wr.setCell ⟨o,a,none⟩ (J6 (c:Int))) o 3 (kc1 (h / b) j a)):=h_ (by rw[<- qrm _ _ _ aa,<- U];exact C.set a _);have ac:Hi (Bw w (wr.setCell ⟨o,a,none⟩ (J6 (c:Int)))):=h_ (((B.trans (d.mono B.size)).trans (P.mono (by have:=B.size;have:=d.size;omega))).setCell al _);have ag:Hi (kaJ (wr.setCell ⟨o,a,none⟩ (J6 (c:Int))) u5 (kab (h / 10 ^ a % b))):=h_ (by rw[<- D];exact J.other (fun g=>by have:=Q o g;have:=z.lt;omega) a _);clear U D E J C K G;go_wp2;go_roundw
         case rel=>exact⟨a,by omega,by go_num,ag,af,ac⟩
         case measure=>simp[intOf]
       . have aH:(c:Int)<9:=by omega
         have aZ:=aD A aJ;by_cases ai:A<b
         . go_wp2_with fail
           refine(q3p _ _ (kab A) m wr E UR (qiv _) X (by omega) (by have:=ae.u;omega) true ⟨fun _=>by rw[qeo,R.u];exact ai,fun _=>rfl⟩).mono ?_;rintro g x ⟨rfl,nq,H⟩;have G:Bw wr x:=(by rw[H];exact q4s _ nq);clear H;have K:c=t / b:=qo7 (by rw[S.u];exact ai) ad;have U:c=h / b / 10 ^ a % 10:=(by rw[K];exact I.2.1);have D:A=h / 10 ^ a % b:=by
            have h4:=I.2.2;have h5:=Nat.div_add_mod t b;have h6:=S.u;rw[On,<- K]at h5;omega
           have C:Hi (Blk x o 3 (kc1 (h / b) j (a+1))):=h_ (((z.mono d z.lt).mono y (Yn z.lt d.size)).mono G (Yn z.lt (Y5 d.size y.size)));have P:Hi (Bw T x):=mT y G;have J:Hi (kaJ x u5 (kab A)):=h_ (E.mono G);obtain⟨W,aO⟩:∃W,x.cell? ⟨o,a,none⟩=some W:=⟨_,(C.cell a).trans (Yg (by simp[kc1];exact aa))⟩;have aL:=C.free a;have af:Hi (Blk (x.setCell ⟨o,a,none⟩ (J6 (c:Int))) o 3 (kc1 (h / b) j a)):=h_ (by rw[<- qrm _ _ _ aa,<- U];exact C.set a _);have ac:Hi (Bw w (x.setCell ⟨o,a,none⟩ (J6 (c:Int)))):=h_ (((B.trans (d.mono B.size)).trans (P.mono (by have:=B.size;have:=d.size;omega))).setCell al _);have ag:Hi (kaJ (x.setCell ⟨o,a,none⟩ (J6 (c:Int))) u5 (kab (h / 10 ^ a % b))):=h_ (by rw[<- D];exact J.other (fun g=>by have:=Q o g;have:=z.lt;omega) a _);clear U D E J C K;go_wp2;go_roundw
           case rel=>exact⟨a,by omega,by go_num,ag,af,ac⟩
           case measure=>simp[intOf]
         . go_wp2_with fail
           refine(q3p _ _ (kab A) m wr E UR (qiv _) X (by omega) (by have:=ae.u;omega) false ⟨(fun F=>by cases F),fun F=>absurd F (by rw[qeo,R.u];exact ai)⟩).mono ?_;rintro g x ⟨rfl,nq,H⟩;have G:Bw wr x:=(by rw[H];exact q4s _ nq);have K:=h_ (E.mono G);have U:=h_ (UR.mono G);have C:=mT y G;clear H G E UR y;go_wp2_with fail;refine(q5v _ _ (kab A) m x K U (qiv _) X (by omega) (by rw[qeo,R.u];omega)).mono ?_;rintro g W ⟨F,rfl,D,y,E⟩;have J:Hi (kaJ W F (kab (t - (c+1)*b))):=h_ (by
            rw[qeo,R.u,<- S.u]at D;rw[Od,Nat.one_mul,Nat.sub_add_eq];exact D)
           have P:=mT C y;have H:Hi (∀q,F.ownBlock=some q->e.heap.size<=q):=h_ (fun q g=>by have:=E q g;have:=C.size;have:=d.size;omega);have q:(c+1)*b<=t:=(by have:=S.u;have:=ad.u;rw[Od,Nat.one_mul];omega);have G:=h_ q;clear D y E q;go_wp2;go_roundw
           case rel=>exact⟨c+1,by omega,G,by go_num,J,P,H⟩
           case measure=>simp[intOf];omega
theorem qai (k:Nat):kad (List.replicate k 0)=0:=by
 induction k with
 | zero=>rfl
 | succ k a=>rw[List.replicate_succ];simp[kad,a]
theorem qek (k:Nat):Dig (List.replicate k 0):=fun a a=>by
 rw[(List.mem_replicate.1 a).2];decide
theorem qlr {L i j c s n x y:Nat}(a:L+c*10 ^ (i+j)=10 ^ i*(n % 10 ^ j)*y)(e:x=n / 10 ^ j % 10)(d:s=x*y+c):(L+10 ^ (i+j)*(s % 10))+(s / 10)*10 ^ (i+(j+1))=10 ^ i*(n % 10 ^ (j+1))*y:=by
 have b:=qkf a d;rw[qkc,<- e,Nat.mul_add,<- Nat.mul_assoc,<- Nat.pow_add,show i+(j+1)=i+j+1 by omega,Nat.pow_succ (n:=10) (m:=i+j)];exact b
theorem q5t (v u:Value)(l m:List Nat)(w:Tw)(hv:kaJ w v l)(hu:kaJ w u m)(hl:Dig l)(hm:Dig m)(bl:l.length<=200)(bm:m.length<=200) :
 Calls prog 287 #[v,u] w fun g a=>∃b,g=.returned b/\kaJ a b (kab (kad l*kad m))/\Bw w a:=by
 have ag:Hi (Bw w (w.alloc (.cells #[] 3))):=(bR _ _).alloc (nR _) _;have ah:Hi (kaJ (w.alloc (.cells #[] 3)) (.slice (some ⟨w.heap.size,0,none⟩) 0 0) (kab (kad l*(kad m % 10 ^ 0)))):=h_ (by
  rw[Nat.pow_zero,Gc,Nat.mul_zero,qel];exact q50 (us:=[]) (qgj w 3))
 obtain⟨ak,ca,rfl,-,-,hA⟩:=id hv;obtain⟨al,cb,rfl,-,-,hB⟩:=id hu;obtain⟨HV,Z⟩:=oB hv hu;obtain⟨G,ae⟩:=Nq l.length;obtain⟨H,af⟩:=Nq m.length;rw[ae]at bl HV⊢;rw[af]at bm Z⊢;obtain⟨O,W⟩:=oB ae af;obtain⟨K,N⟩:=oB hl hm;go_enter func287,ntmps287;go_wp2_with fail;go_loopw [5,6,7,8,9,10,11] (fun c a _ _ _ _ _ wr=>∃h:Nat,h<=H/\a=J6 h/\kaJ wr c (kab (kad l*(kad m % 10 ^ h)))/\Bw w wr) (fun _ a _ _ _ _ _ _=>H - (intOf a).toNat)
 case atStart=>exact⟨0,by omega,rfl,ah,ag⟩
 case round =>
  obtain⟨h,hk,rfl,ap,hb⟩:=hrel;obtain⟨Q,x⟩:=oB ap hb;obtain⟨d,rfl⟩:∃d,d=wr:=⟨_,rfl⟩;by_cases aB:h<H
  . have aC:(h:Int)<H:=by omega
    obtain⟨VR,UR,aj⟩:=oC (HV.mono x) (Z.mono x) (qgj d 3);have e:Hi (Bw d (d.alloc (.cells #[] 3))):=h_ ((bR _ _).alloc (nR _) _);go_wp2;go_loopw [7,8] (fun p c i=>∃a:Nat,a<=h/\c=J6 a/\i.ownsRow d.heap.size 3 1 p a (ui (List.replicate a 0))/\Bw d i) (fun _ c _=>h - (intOf c).toNat)
    case atStart=>exact⟨0,by omega,rfl,aj,e⟩
    case round =>
     obtain⟨a,hq,rfl,S,T⟩:=hrel;obtain⟨n,e⟩:=oB S T;by_cases ay:a<h
     . have c:(a:Int)<h:=by omega
       obtain⟨F,A,C,D,E⟩:=info_parts kbf;go_wp2_with (at_builtin;refine wpList_append_own _ rfl _ _ 89 rfl d.heap.size 3 F _ 1 8 underlying89 A C D E rfl (by omega) _ _ _ rfl (n.alloc _) ⟨wr.heap.size,0,none⟩ 1 1 [J6 0] rfl rfl (qim wr 3 _) (by simp[Value.oneCell']) (by unfold maxLen;omega) (by omega) (by have:=e.size;simp;omega) ?_);intro I s B z _;have r:=(e.alloc e.size (.cells #[J6 0] 3)).grown z (by have:=e.size;simp;omega) (fun q' g=>qc8 n g);have P:Hi (s.ownsRow d.heap.size 3 1 I (a+1) (ui (List.replicate (a+1) 0))):=h_ (by rw[List.replicate_succ'];simpa [ui] using B);have q:=h_ r;go_wp2;go_roundw
       case rel=>exact⟨a+1,by omega,by go_num,P,q⟩
       case measure=>simp[intOf];omega
     . obtain rfl:a=h:=by omega
       obtain⟨j,hy⟩:=Nq (m.getD a 0);have aE:j<10:=(by rw[<- hy];exact N.getD a);have ad:=h_ hy;go_wp2;go_loopw [7,9,10,11] (fun p t o _ i=>∃(b c:Nat) (f:List Nat),b<=G/\o=J6 b/\t=J6 c/\c<=9/\f.length=a+b/\Dig f/\kad f+c*10 ^ (a+b)=10 ^ a*(kad l % 10 ^ b)*j/\i.ownsRow d.heap.size 3 1 p (a+b) (ui f)/\Bw d i) (fun _ _ o _ _=>G - (intOf o).toNat)
       case atStart=>exact⟨0,0,List.replicate a 0,by omega,rfl,rfl,by omega,by simp,qek a,by rw[qai];simp[Nat.mod_one],n,e⟩
       case round =>
        obtain⟨b,c,f,hr,rfl,rfl,ax,ao,an,kbv,S,T⟩:=hrel;obtain⟨n,e,y,X,aa⟩:=oG S T ao an kbv;by_cases az:b<G
        . have aA:(b:Int)<G:=by omega
          obtain⟨t,hx⟩:=Nq (l.getD b 0);have aD:t<10:=(by rw[<- hx];exact K.getD b);have ac:=h_ hx;obtain⟨i,p,ea,-,cA⟩:∃i p,ak=some ⟨i,p,none⟩/\i<wr.heap.size/\wr.cell? ⟨i,p+b,none⟩=some (J6 t):=by
           obtain⟨U,Y,g,-,-,R⟩:=VR.mono e;cases g;obtain⟨i,p,J,M,o⟩:=R b (by have:=O.u;omega);exact⟨i,p,J,M,by dsimp only at o;rwa [ac]at o⟩
          obtain⟨L,V,eb,-,cB⟩:∃L V,al=some ⟨L,V,none⟩/\L<wr.heap.size/\wr.cell? ⟨L,V+a,none⟩=some (J6 j):=by
           obtain⟨U,Y,g,-,-,R⟩:=UR.mono e;cases g;obtain⟨i,p,J,M,o⟩:=R a (by have:=W.u;omega);exact⟨i,p,J,M,by dsimp only at o;rwa [ad]at o⟩
          cases ea;cases eb;have av:t*j<=81:=Nat.mul_le_mul (show t<=9 by omega) (show j<=9 by omega);obtain⟨o,R⟩:=Nq (t*j);have aw:(t:Int)*j=o:=(by rw[<- R];simp);have ai:=h_ R;rw[R]at av;obtain⟨F,A,C,D,E⟩:=info_parts kbf;go_wp2
          go_quiet (fail)
          obtain⟨M,U⟩:=Nq (wr.drewN nq);have Y:Hi (M.ownsRow d.heap.size 3 1 u7 (a+b) (ui f)):=h_ (by rw[<- U];exact n);have J:Hi (Bw d M):=h_ (by rw[<- U];exact e.trans ((q4s wr nq).mono e.size));rw[U];have aq:(o+c) / 10<=9:=(by omega);go_wp2_with (at_builtin;refine wpList_append_own _ rfl _ _ 89 rfl d.heap.size 3 F _ 1 8 underlying89 A C D E rfl (by omega) _ _ _ rfl (Y.alloc _) ⟨M.heap.size,0,none⟩ 1 1 [J6 (((o:Int)+c) % 10)] rfl rfl (qim M 3 _) (by simp[Value.oneCell']) (by unfold maxLen;omega) (by omega) (by have:=J.size;simp;omega) ?_);intro I s B z _;have r:=(J.alloc J.size (.cells #[J6 (((o:Int)+c) % 10)] 3)).grown z (by have:=J.size;simp;omega) (fun q' g=>qc8 Y g);have P:Hi (s.ownsRow d.heap.size 3 1 I (a+(b+1)) (ui (f++[(o+c) % 10]))):=h_ (by rw[show a+(b+1)=a+b+1 by omega];simpa [ui] using B);have q:=h_ r;go_wp2;go_roundw
          case rel =>
           refine⟨b+1,(o+c) / 10,f++[(o+c) % 10],by omega,by go_num,by go_num,aq,?_,?_,?_,P,q⟩
           . have:=y.u;simp[this];omega
           . exact X.snoc (by omega)
           . rw[qep,y.u]
             exact qlr aa (by rw[<- ka9 K.u,ac.u]) (by rw[ai.u])
          case measure=>simp[intOf];omega
        . obtain rfl:b=G:=by omega
          have p:=aa.u;rw[qqg K.u (Oo O.u)]at p;obtain⟨F,A,C,D,E⟩:=info_parts kbf;have P:=h_ p;go_wp2_with (at_builtin;refine wpList_append_own _ rfl _ _ 89 rfl d.heap.size 3 F _ 1 8 underlying89 A C D E rfl (by omega) _ _ _ rfl (n.alloc _) ⟨wr.heap.size,0,none⟩ 1 1 [J6 (c:Int)] rfl rfl (qim wr 3 _) (by simp[Value.oneCell']) (by unfold maxLen;omega) (by omega) (by have:=e.size;simp;omega) ?_);intro I s B z _;have r:=(e.alloc e.size (.cells #[J6 (c:Int)] 3)).grown z (by have:=e.size;simp;omega) (fun q' g=>qc8 n g);have R:s.ownsRow d.heap.size 3 1 I (f++[c]).length (ui (f++[c])):=(by have:=y.u;rw[Yj,this];simpa [ui] using B);obtain⟨L,J,q⟩:=oC (q50 R) (Q.mono r) r;have V:Dig (f++[c]):=X.snoc (by omega);have au:kad (f++[c])=10 ^ a*kad l*j:=(by rw[qep,y.u,On (10 ^ (a+b)) c];exact P);have am:(f++[c]).length<=500:=(by have:=y.u;simp;omega);have Y:(kab (kad l*(kad m % 10 ^ a))).length<=500:=by
           refine Y5 (q26 (k:=b+a) ?_) (by omega);rw[Nat.pow_add];exact Nat.mul_lt_mul'' (by have:=qo8 K;rwa [O]at this) (Om _ (Nat.pow_pos (by decide)))
          have i:=h_ (And.intro V (And.intro au (And.intro am Y)));go_wp2_with fail;refine(q5r _ _ _ _ s J L (qiv _) i.1 i.2.2.2 i.2.2.1).mono ?_;rintro g w3 ⟨rr,rfl,o,U⟩;have t:=h_ (x.trans ((q.trans (U.mono q.size)).mono x.size));have M:Hi (kaJ w3 rr (kab (kad l*(kad m % 10 ^ (a+1))))):=h_ (by
           rw[qeo,i.u.2.1]at o;rw[qkc,<- ka9 N.u,ad.u,Nat.mul_add,<- Nat.mul_assoc,On (kad l) (10 ^ a)];exact o)
          go_wp2;go_roundw
          case rel=>exact⟨a+1,by omega,by go_num,M,t⟩
          case measure=>simp[intOf];omega
  . obtain rfl:h=H:=by omega
    rw[qqg N.u (Oo W.u)]at Q;go_wp2;go_ret;exact⟨_,rfl,Q,x⟩
