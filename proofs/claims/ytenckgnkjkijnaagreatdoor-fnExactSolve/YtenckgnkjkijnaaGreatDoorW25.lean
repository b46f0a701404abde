import Derived.Test.YtenckgnkjkijnaaGreatDoorW22
import Derived.Test.YtenckgnkjkijnaaGreatDoorW21
import Derived.Test.YtenckgnkjkijnaaGreatDoorW19
set_option maxRecDepth 100000
set_option maxHeartbeats 64000000
namespace Go.Proofs.YtenckgnkjkijnaaGreatDoor
open Go Go.RowKit Go.Proofs.Tryz
theorem q4g (a:To)(c:Nat)(l:List Tb)(e:Int)(w:Tw)(B:0<=e)(C:e<=1048576)(E:l.length<=9223372036854775807)(x:∀f,f∈l->f.size<=9223372036854775807)(s:kbY w a l) :
 Calls prog 24 #[.slice a l.length c,J6 e] w fun d g=>∃b:Int,d=.returned (J6 b)/\(0<=b->b<=1048576/\l.length<=1048576)/\(b<0->b = -1)/\Below w.heap.size w g:=by
 obtain⟨n,p⟩:=oB s x;have y:wrap64 (e - (l.length:Int))=e - (l.length:Int):=q6w (by omega) (by omega);by_cases g:(l.length:Int)<=e
 . have j:¬ e - (l.length:Int)<0:=by omega
   obtain⟨b,t⟩:=Nq (e - (l.length:Int));have i:Hi (0<=b/\b<=1048576):=h_ (by omega);have q:Hi (l.length<=1048576):=h_ (by omega);rw[t]at j y;go_enter func24,ntmps24;go_wp2_with fail;go_loopw [1,5] (fun k h wr=>∃(d:Nat) (b:Int),d<=l.length/\h=J6 d/\k=J6 b/\0<=b/\b<=1048576/\Below w.heap.size w wr) (fun _ h _=>l.length - (intOf h).toNat)
   case atStart=>exact⟨0,b,nZ _,rfl,rfl,i.1,i.2,bR _ _⟩
   case round =>
    obtain⟨d,b,D,rfl,rfl,A,r,k⟩:=hrel;obtain⟨h,o⟩:=oB k (n.mono k);by_cases m:d<l.length
    . have u:(d:Int)<l.length:=by omega
      obtain⟨z,I,rfl,-,J⟩:=o d m;have H:=p _ (Yi m);generalize l[d]=f at *;have G:wrap64 (b - (f.size:Int))=b - (f.size:Int):=q6w (by omega) (by omega);by_cases F:b<f.size
      . have v:b - (f.size:Int)<0:=by omega
        go_wp2_with fail;go_ret;exact⟨_,rfl,fun g=>absurd g (by decide),fun _=>rfl,h⟩
      . have v:¬ b - (f.size:Int)<0:=by omega
        refine rQ ?_;exact⟨d+1,b - f.size,by omega,by go_num,rfl,by omega,by omega,h⟩
    . obtain rfl:d=l.length:=by omega
      have u:¬ (l.length:Int)<(l.length:Int):=(by omega);go_wp2_with fail;go_ret;exact⟨_,rfl,fun _=>⟨r,q⟩,fun g=>by omega,h⟩
 . have j:e - (l.length:Int)<0:=by omega
   go_enter func24,ntmps24;go_wp2_with fail;go_ret;exact⟨_,rfl,fun g=>absurd g (by decide),fun _=>rfl,bR _ _⟩
theorem q6s (a:To)(l:List Tb)(c:Nat)(w:Tw)(E:kbY w a l)(X:l.length<=1048576) :
 Calls prog 31 #[.slice a l.length c] w fun d b=>d=.returned (.slice (some ⟨w.heap.size,0,none⟩) l.length l.length)/\kbY b (some ⟨w.heap.size,0,none⟩) l/\Bk b w.heap.size 9 l.length/\Below w.heap.size w b:=by
 obtain⟨v,K,O,P,Q⟩:=info_parts qjq;obtain⟨e,i⟩:=Nq w.heap.size;have G:v.bytes*l.length<=281474976710656:=by rw[Q];omega
 have z:=h_ E;go_enter func31,ntmps31;go_wp2_with (at_make;refine wpList_make_full _ rfl (.tmp 6) (.tmp 6) 22 rfl w.heap.size 9 v _ 1 underlying22 K O P .i64 .i64 _ _ l.length rfl rfl rfl rfl G (by unfold maxLen;omega) (nR _) ?_;intro S t J);have F:Below e w S:=by rw[<- i];exact(bR _ _).grown J (nR _) (fun b f=>by cases f)
 rw[i]at t;obtain⟨C,A⟩:=oB t F;go_wp2_with fail;go_loopw [4] (fun k wr=>∃(b:Nat) (m:Tl),b<=l.length/\k=J6 b/\wr.ownsRow e 9 1 (.slice (some ⟨e,0,none⟩) l.length l.length) l.length m/\(∀d,d<b->m[d]? = some (.string (l.getD d ⟨#[]⟩)))/\Below e w wr) (fun k _=>l.length - (intOf k).toNat)
 case atStart=>exact⟨0,_,nZ _,rfl,C,fun d f=>absurd f (nL _),A⟩
 case round =>
  obtain⟨b,m,W,rfl,h,N,q⟩:=hrel;obtain⟨f,o,n⟩:=oC h N q;by_cases j:b<l.length
  . have M:(b:Int)<l.length:=by omega
    obtain⟨D,R,rfl,L,H⟩:=z b j;have T:=(q.cell (p:=⟨D,R+b,none⟩) (by rw[<- i];exact L)).trans H;have I:l.getD b ⟨#[]⟩=l[b]:=(by rw[Yo,Yg j];rfl);have B:=h_ I;obtain⟨y,U⟩:∃y,wr.cell? ⟨e,b,none⟩=some y:=⟨_,(h.cellAt b (by omega)).trans (Yg (by have:=h.1;omega))⟩;have V:=h.frozenAt b;go_wp2_with fail;go_roundw
    case rel =>
     obtain⟨r,s,x⟩:=qeh (g:=fun d=>.string (l.getD d ⟨#[]⟩)) j f o n;rw[B.u]at r s x;exact⟨b+1,_,by omega,by go_num,r,s,x⟩
    case measure=>simp[intOf];omega
  . obtain rfl:b=l.length:=by omega
    have M:¬ (l.length:Int)<(l.length:Int):=(by omega);go_wp2_with fail;go_ret;refine⟨rfl,fun d s=>?_,⟨_,Blk.of_owns f,by have:=f.1;omega⟩,n⟩;have r:=Blk.of_owns f;refine⟨e,0,rfl,r.lt,?_⟩;rw[Y3,r.cell,o.u d s,Yo,Yg s];rfl
theorem q28 (a b:To)(l:List Tb)(r s:Nat)(w:Tw)(B:l.length<=1048576)(t:kbY w a l)(e:kbY w b l) :
 Calls prog 40 #[.slice a l.length r,.slice b l.length s] w fun c f=>c=.returned (.bool true)/\Below w.heap.size w f:=by
 obtain⟨j,m⟩:=oB t e;go_enter func40,ntmps40;go_wp2_with fail;go_loopw [5] (fun d wr=>∃c:Nat,c<=l.length/\d=J6 c/\Below w.heap.size w wr) (fun d _=>l.length - (intOf d).toNat)
 case atStart=>exact⟨0,nZ _,rfl,bR _ _⟩
 case round =>
  obtain⟨c,A,rfl,e⟩:=hrel;obtain⟨h,k,n⟩:=oC e (j.mono e) (m.mono e);by_cases i:c<l.length
  . have u:(c:Int)<l.length:=by omega
    obtain⟨p,v,rfl,-,y⟩:=k c i;obtain⟨q,x,rfl,-,z⟩:=n c i;generalize l[c]=g at *;have C:(g.toList==g.toList)=true:=(by simp);have o:Hi (Below w.heap.size w wr.drew):=h_ h.drew;go_wp2_with fail;refine wp_region_held_drew (S:=fun f=>f.cell? ⟨p,v+c,none⟩=some (.string g)/\f.cell? ⟨q,x+c,none⟩=some (.string g)) (by kernel_rfl) ⟨y,z⟩ (fun d=>?_);refine tkA 0 d ?_;refine tkA 1 d ?_;refine tkA 2 d ?_;refine tkA 3 d ?_;refine tkA 4 d ?_;refine tkA 5 d ?_;refine tkA 6 d ?_;refine tkA 7 d ?_;refine tkL 8 25 (.bool false) d ?_;refine wdQ ?_;refine rQ ?_;exact⟨c+1,by omega,by go_num,o⟩
  . obtain rfl:c=l.length:=by omega
    have u:¬ (l.length:Int)<(l.length:Int):=(by omega);go_wp2_with fail;go_ret;exact⟨rfl,h⟩
theorem q0j (a:To)(m c:Nat)(b:Nat->Nx)(w:Tw)(j:m<=9223372036854775807)(g:kch w a m b)(i:∀d,d<m->Fit (b d))(n:kdW w)(k:Pow w) :
 Gv 325 #[.slice a m c] w (.string (if vxB b m then (top b m).t else ⟨#[]⟩)):=by
 have d:=h_ (q9a a m c b w j g i n k);obtain⟨p,e⟩:=Nq ((if vxB b m then (top b m).t else ⟨#[]⟩));obtain⟨o,l⟩:=Nq (vxB b m);rw[e,l]at d;rw[e];go_enter func325,ntmps325;go_wp2_with fail;refine cQ d fun q h=>?_;have f:=h_ h;go_wp2_with fail;go_ret;exact⟨rfl,f⟩
def up {α:Type}(f:Nat->α)(j:Nat)(v:α):Nat->α:=fun i=>if i=j then v else f i
theorem ka2 {a:Type}(f:Nat->a)(j:Nat)(v:a):up f j v j=v:=Yr rfl
theorem kaK {a:Type}(f:Nat->a){i j:Nat}(v:a)(b:i≠j):up f j v i=f i:=Yl b
theorem kdy {b:Type}(g:b->Value)(f:Nat->b)(n j:Nat)(v:b):((List.range n).map fun a=>g (f a)).set j (g v)=(List.range n).map fun a=>g (up f j v a):=by
 refine List.ext_getElem (by simp) fun e d h=>?_;simp only[List.length_set,Zp,Ox]at d;rw[List.getElem_set];simp only[List.getElem_map,List.getElem_range];by_cases a:j=e
 . subst a;rw[Yr rfl,ka2]
 . rw[Yl a,kaK f v (fun c=>a c.symm)]
def zs (n:Nat)(f:Nat->Int):Tl:=(List.range n).map fun k=>.int .i64 (f k)
theorem keo {n i:Nat}(f:Nat->Int)(a:i<n):(zs n f)[i]? = some (J6 (f i)):=by simp[zs,a]
theorem kep {n j:Nat}(f:Nat->Int)(v:Int):(zs n f).set j (J6 v)=zs n (up f j v):=kdy (fun a=>J6 a) f n j v
theorem qmz {n:Nat}{f g:Nat->Int}(b:∀a,a<n->f a=g a):zs n f=zs n g:=Zm fun a c=>by rw[b a (Yu.1 c)]
theorem qc9 {X:Nat->Prop}{w w':Tw}{base n k:Nat}{t:TypeId}{v:Value}{xs:Tl}(c:w.ownsRow base t k v n xs)(j:kaH X w w')(l:∀a,X a->a<base):w'.ownsRow base t k v n xs:=by
 refine⟨c.1,?_⟩;rcases c.2 with f | ⟨a,d,b,e,h,i,m⟩
 . exact .inl f
 . exact .inr ⟨a,d,b,e,h,j.same a b t _ (fun g=>by have:=l a g;omega) i,m⟩
theorem qgi {w w':Tw}{base n k:Nat}{t:TypeId}{v:Value}{xs:Tl}(b:w.ownsRow base t k v n xs)(a:Bw w w'):w'.ownsRow base t k v n xs :=
 b.kept (row:=none) ⟨a.os,a.tape,a.output,a.size,fun d c _=>a.block d c⟩ (Classical.em _)
structure Fam (w:Tw)(base n:Nat)(V:Nat->Value)(L:Nat->List Nat):Prop where
 own:∀j,j<n->w.ownsRow base 3 1 (V j) (L j).length (ui (L j))
 apart:∀i j,i<n->j<n->i≠j->(V i).ownBlock=none∨(V i).ownBlock≠(V j).ownBlock
theorem Fam.mono {w w':Tw}{base n:Nat}{a:Nat->Value}{L:Nat->List Nat}(b:Fam w base n a L)(c:Bw w w'):Fam w' base n a L:=⟨fun e d=>qgi (b.own e d) c,b.apart⟩
theorem Fam.keep {X:Nat->Prop}{w w':Tw}{base n:Nat}{a:Nat->Value}{L:Nat->List Nat}(b:Fam w base n a L)(d:kaH X w w')(e:∀c,X c->c<base):Fam w' base n a L:=⟨fun f c=>qc9 (b.own f c) d e,b.apart⟩
theorem Fam.none (w:Tw)(base n:Nat):Fam w base n (fun _=>.slice none 0 0) (fun _=>[]):=⟨fun _ _=>World.ownsRow_nil _ _ _ _,fun _ _ _ _ _=>.inl rfl⟩
theorem Fam.sub {w:Tw}{base n k:Nat}{b:Nat->Value}{L:Nat->List Nat}(c:Fam w base n b L)(g:k<=n):Fam w base k b L:=⟨fun a d=>c.own a (by omega),fun e a f d=>c.apart e a (by omega) (by omega)⟩
theorem Fam.congr {w:Tw}{base n:Nat}{e f:Nat->Value}{L d:Nat->List Nat}(g:Fam w base n e L)(c:∀a,a<n->f a=e a)(j:∀a,a<n->d a=L a):Fam w base n f d :=
 ⟨fun a b=>by rw[c a b,j a b];exact g.own a b,fun i a h b k=>by rw[c i h,c a b];exact g.apart i a h b k⟩
theorem keq {w:Tw}{base n i k:Nat}{t:TypeId}{v:Value}{xs:Tl}(a:w.ownsRow base t i v n xs)(b:k ≥ w.heap.size):v.ownBlock≠some k:=fun t=>by have:=(a.lt k t).2;omega
theorem Fam.snoc {w w':Tw}{base n:Nat}{e:Nat->Value}{L:Nat->List Nat}{v:Value}{l:List Nat}(f:Fam w base n e L)(j:Bw w w')(t:base<=w.heap.size)(g:w'.ownsRow w.heap.size 3 1 v l.length (ui l)):Fam w' base (n+1) (up e n v) (up L n l):=by
 have s:w'.ownsRow base 3 1 v l.length (ui l):=by
  refine⟨g.1,?_⟩;rcases g.2 with i | ⟨d,a,b,c,j,h⟩
  . exact .inl i
  . exact .inr ⟨d,a,b,c,by omega,h⟩
 refine⟨fun d r=>?_,fun a d k r m=>?_⟩
 . by_cases b:d=n
   . subst b;rw[ka2,ka2];exact s
   . rw[kaK _ _ b,kaK _ _ b];exact qgi (f.own d (by omega)) j
 . have o:∀a,a<n->(e a).ownBlock=Option.none∨(e a).ownBlock≠v.ownBlock:=fun a k=>by
    cases p:(e a).ownBlock with
    | none=>exact .inl rfl
    | some h =>
     refine .inr fun q=>?_;have c:=((f.own a k).lt h p).2;have i:=(g.lt h q.symm).1;omega
   by_cases i:a=n
   . subst i
     rw[ka2,kaK _ _ (fun b=>m b.symm)];rcases o d (by omega) with c | c
     . rw[c]
       cases v.ownBlock with
       | none=>exact .inl rfl
       | some h=>exact .inr (by simp)
     . exact .inr fun b=>c b.symm
   . rw[kaK _ _ i]
     by_cases b:d=n
     . subst b;rw[ka2];exact o a (by omega)
     . rw[kaK _ _ b];exact f.apart a d (by omega) (by omega) m
theorem Fam.add {w w':Tw}{base n j x:Nat}{g:Nat->Value}{L:Nat->List Nat}{v:Value}(d:Fam w base n g L)(p:j<n)(q:w'.ownsRow base 3 1 v (L j++[x]).length (ui (L j++[x])))(o:w.grownBy w' (g j).ownBlock)(m:v.ownBlock=(g j).ownBlock∨v.ownBlock=some w.heap.size):Fam w' base n (up g j v) (up L j (L j++[x])):=by
 refine⟨fun b e=>?_,fun b f e h i=>?_⟩
 . by_cases a:b=j
   . subst a;rw[ka2,ka2];exact q
   . rw[kaK _ _ a,kaK _ _ a];exact(d.own b e).kept o (d.apart b j e p a)
 . by_cases a:b=j
   . subst a
     rw[ka2,kaK _ _ (fun a=>i a.symm)];rcases m with c | c
     . rw[c];exact d.apart b f e h i
     . exact .inr fun k=>keq (d.own f h) (nR _) (k.symm.trans c)
   . rw[kaK _ _ a]
     by_cases l:f=j
     . subst l
       rw[ka2];rcases m with c | c
       . rw[c];exact d.apart b f e h i
       . exact .inr fun k=>keq (d.own b e) (nR _) (k.trans c)
     . rw[kaK _ _ l];exact d.apart b f e h i
def ka5 (w:Tw)(F n:Nat)(V:Nat->Value):Prop:=Blk w F 89 ((List.range n).map V)
theorem ka5.at {w:Tw}{F n j:Nat}{a:Nat->Value}(b:ka5 w F n a)(c:j<n):w.cell? ⟨F,j,none⟩=some (a j):=by
 have:=Blk.cell b j;rw[this];simp[c]
theorem ka5.congr {w:Tw}{F n:Nat}{b c:Nat->Value}(d:ka5 w F n b)(e:∀a,a<n->c a=b a):ka5 w F n c:=by
 unfold ka5;rw[Zm fun a f=>e a (Yu.1 f)];exact d
theorem qm4 {w w':Tw}{base F n N j x:Nat}{b:Nat->Value}{L:Nat->List Nat}{v:Value}(i:ka5 w F n b)(m:F<base)(c:Fam w base N b L)(f:j<N)(l:w'.ownsRow base 3 1 v (L j++[x]).length (ui (L j++[x])))(e:w.grownBy w' (b j).ownBlock)(k:v.ownBlock=(b j).ownBlock∨v.ownBlock=some w.heap.size) :
 ka5 (w'.setCell ⟨F,j,none⟩ v) F n (up b j v)/\Fam (w'.setCell ⟨F,j,none⟩ v) base N (up b j v) (up L j (L j++[x])):=by
 constructor
 . have h:Blk w' F 89 ((List.range n).map b):=Blk.grown i e (fun d=>by have:=((c.own j f).lt F d.symm).1;omega)
   have d:=h.set j v;rw[show((List.range n).map b).set j v=(List.range n).map fun g=>up b j v g from kdy (fun x=>x) b n j v]at d;exact d
 . exact(c.add f l e k).keep (X:=fun d=>d=F) (kaH.set (a:=⟨F,j,none⟩) v rfl) (fun g d=>by omega)
theorem qa6 {W w w':Tw}{base F j n:Nat}{v u:Value}{xs:Tl}(c:Below F W w)(g:F<base)(b:F<w.heap.size)(e:w.ownsRow base 3 1 u n xs)(d:w.grownBy w' u.ownBlock):Below F W (w'.setCell ⟨F,j,none⟩ v) :=
 (c.grown d (Nat.le_of_lt b) (fun f a=>by have:=(e.lt f a).1;omega)).setCell (p:=⟨F,j,none⟩) (nR _) v
def kc2 (m:Fm)(k i j:Nat):List Nat:=kba m k j++List.replicate (((kbI m k).take i).count j) k
theorem qew (m:Fm)(k:Nat):kc2 m k 0=kba m k:=by
 funext j
 unfold kc2;simp
theorem qeu (m:Fm)(k:Nat):kc2 m k (kbI m k).length=kba m (k+1):=by
 funext j
 unfold kc2;rw[Yy (nR _),qex]
theorem qev {m:Fm}{k i:Nat}(b:i<(kbI m k).length):kc2 m k (i+1)=up (kc2 m k i) (kbI m k)[i] (kc2 m k i (kbI m k)[i]++[k]):=by
 funext j
 unfold kc2;rw[Ys b,List.count_append];by_cases a:j=(kbI m k)[i]
 . subst a
   rw[ka2,List.count_singleton_self,Vy,List.replicate_succ']
 . rw[kaK _ _ a,List.count_singleton,Yl (by simpa using fun b=>a b.symm),Zo]
theorem qls {l:List Nx}(a:kac l=true):l.length<=1000:=by
 unfold kac at a;rw[Ze]at a;rcases a with a | a
 . have:=Y6 a;omega
 . unfold vxL at a
   exact((qsw _ _).1 a).2.1
theorem qj7 {m:Fm}(e:VfA m){k:Nat}(c:k<m.F.length):(kbI m k).length<=2000:=by
 have d:=(q7o _ _ _).1 (e.fi _ (Yi c));have f:=qls d.i;have g:=qls d.h;have b:∀a,(rdL (kaa m) a).length<=a.length:=fun a=>by unfold rdL;rw[Zp];exact List.length_filter_le _ _
 have a:=b m.F[k].is;have h:=b m.F[k].wh;unfold kbI;rw[qoe c,Yj];omega
theorem qj9 {m:Fm}(c:VfA m)(j:Nat):∀b,b<=m.F.length->(kba m b j).length<=b*2000:=by
 intro b
 induction b with
 | zero=>intro _;simp[qey]
 | succ b d =>
  intro h;have e:=qj7 c (show b<m.F.length by omega);have f:=Oj (a:=j) (l:=kbI m b);have g:=d (by omega);rw[qex,Yj,List.length_replicate];omega
theorem qj8 {m:Fm}(b:VfA m){k:Nat}(c:k<m.F.length)(i j:Nat):(kc2 m k i j).length<=402000:=by
 have d:=qj9 b j k (by omega);have e:=Oj (a:=j) (l:=(kbI m k).take i);have f:=qj7 b c;have g:=b.nf;have h:((kbI m k).take i).length<=(kbI m k).length:=List.length_take_le' _ _;unfold kc2;rw[Yj,List.length_replicate];omega
def kdz (L:Nat->List Nat)(j i:Nat):Nat:=((List.range j).map fun p=>(L p).count i).sum
theorem qed (L:Nat->List Nat)(i:Nat):kdz L 0 i=0:=rfl
theorem qeb (L:Nat->List Nat)(j i:Nat):kdz L (j+1) i=kdz L j i+(L j).count i:=by
 unfold kdz;rw[Zc];simp
def kcA (L:Nat->List Nat)(j p i:Nat):Nat:=kdz L j i+((L j).take p).count i
theorem qeg (L:Nat->List Nat)(j:Nat):kcA L j 0=kdz L j:=by
 funext i
 unfold kcA;simp
theorem qee (L:Nat->List Nat)(j:Nat):kcA L j (L j).length=kdz L (j+1):=by
 funext i
 unfold kcA;rw[Yy (nR _),qeb]
theorem qef {L:Nat->List Nat}{j p:Nat}(b:p<(L j).length)(i:Nat):kcA L j (p+1) i=up (kcA L j p) (L j)[p] (kcA L j p (L j)[p]+1) i:=by
 unfold kcA;rw[Ys b,List.count_append];by_cases a:i=(L j)[p]
 . subst a
   rw[ka2,List.count_singleton_self];omega
 . rw[kaK _ _ a,List.count_singleton,Yl (by simpa using fun b=>a b.symm),Zo]
theorem qec {m:Fm}(a:VfA m){i:Nat}(hi:i<m.F.length):((kdz (kba m m.F.length) m.F.length i:Nat):Int)=kaW m [] i:=by
 rw[qdi];unfold kdz;rw[Zm (fun b _=>by rw[qaq,Yr hi]),qhe _ _ (qoi a hi)]
theorem qnx {L:Nat->List Nat}{B:Nat}(c:∀b,(L b).length<=B)(i:Nat):∀b,kdz L b i<=b*B:=by
 intro b
 induction b with
 | zero=>simp[qed]
 | succ b d =>
  have:=Oj (a:=i) (l:=L b);have:=c b;rw[qeb,Z2];omega
def kbj (m:Fm)(D:List Nat)(x p k:Nat):Int:=kaW m D k - (if k=x then 1 else 0) - ((kba m m.F.length x).take p).count k
theorem qdh (m:Fm)(D:List Nat)(x k:Nat):up (kaW m D) x (kaW m D x - 1) k=kbj m D x 0 k:=by
 unfold kbj;by_cases a:k=x
 . subst a;rw[ka2,Yr rfl];simp
 . rw[kaK _ _ a,Yl a];simp
theorem qdg {m:Fm}{D:List Nat}{x p:Nat}(b:p<(kba m m.F.length x).length)(k:Nat):up (kbj m D x p) (kba m m.F.length x)[p] (kbj m D x p (kba m m.F.length x)[p] - 1) k=kbj m D x (p+1) k:=by
 unfold kbj;rw[Ys b,List.count_append];by_cases a:k=(kba m m.F.length x)[p]
 . subst a
   rw[ka2,List.count_singleton_self];omega
 . have c:((kba m m.F.length x)[p]==k)=false:=Yc.2 fun b=>a b.symm
   rw[kaK _ _ a,List.count_singleton,c];simp
theorem qdf {m:Fm}{D:List Nat}{x k:Nat}(b:x ∉ D)(a:k<m.F.length):kbj m D x (kba m m.F.length x).length k=kaW m (D++[x]) k:=by
 rw[qi1 m D x b k];unfold kbj;rw[Yy (nR _),qaq,Yr a];omega
end Go.Proofs.YtenckgnkjkijnaaGreatDoor
namespace Go.Proofs.YtenckgnkjkijnaaGreatDoor
open Go Go.Proofs.Tryz
structure kb4 (N:Nat)(le:Nat->Nat->Prop)(jn:Nat->Nat->Nat)(bot:Nat):Prop where
 refl:∀a,a<N->le a a
 trans:∀a b c,a<N->b<N->c<N->le a b->le b c->le a c
 anti:∀a b,a<N->b<N->le a b->le b a->a=b
 bl:bot<N
 bot:∀a,a<N->le bot a
 jl:∀a b,a<N->b<N->jn a b<N
 j1:∀a b,a<N->b<N->le a (jn a b)
 j2:∀a b,a<N->b<N->le b (jn a b)
 j3:∀a b c,a<N->b<N->c<N->le a c->le b c->le (jn a b) c
section
variable {N:Nat} {le:Nat->Nat->Prop} {jn:Nat->Nat->Nat} {bot:Nat}
theorem kb4.fold_lt (L:kb4 N le jn bot):∀(c:List Nat) (a:Nat),a<N->(∀b,b∈c->b<N)->c.foldl jn a<N:=by
 intro c
 induction c with
 | nil=>intro a d _;exact d
 | cons b c g=>intro a d e;exact g (jn a b) (L.jl a b d (e b Y8)) fun h f=>e h (Zi _ f)
theorem kb4.fold_ge (L:kb4 N le jn bot):∀(c:List Nat) (a:Nat),a<N->(∀b,b∈c->b<N)->le a (c.foldl jn a)/\∀b,b∈c->le b (c.foldl jn a):=by
 intro c
 induction c with
 | nil=>intro a e _;exact⟨L.refl a e,fun b f=>by cases f⟩
 | cons b c n =>
  intro a e i;have f:=i b Y8;have h:=L.jl a b e f;have j:∀d,d∈c->d<N:=fun d g=>i d (Zi _ g);obtain⟨l,m⟩:=n (jn a b) h j;have k:=L.fold_lt c (jn a b) h j;refine⟨L.trans _ _ _ e h k (L.j1 a b e f) l,fun d g=>?_⟩;rcases Z7.1 g with rfl | g
  . exact L.trans _ _ _ f h k (L.j2 a d e f) l
  . exact m d g
theorem kb4.fold_le (L:kb4 N le jn bot):∀(d:List Nat) (a b:Nat),a<N->b<N->(∀c,c∈d->c<N/\le c b)->le a b->le (d.foldl jn a) b:=by
 intro d
 induction d with
 | nil=>intro a b _ _ _ e;exact e
 | cons c d k =>
  intro a b g h e i;have f:=e c Y8;exact k (jn a c) b (L.jl a c g f.1) h (fun l j=>e l (Zi _ j)) (L.j3 a c b g f.1 h i f.2)
structure Sol (m:Fm)(N:Nat)(le:Nat->Nat->Prop)(f:Nat->Nat):Prop where
 lt:∀k,k<m.F.length->f k<N
 decl:∀k,k<m.F.length->0<=(fAt m k).lb->(f k:Int)=(fAt m k).lb
 up:∀k,k<m.F.length->(fAt m k).lb<0->∀j,j<m.F.length->kcY m j k=true->le (f j) (f k)
def Low (m:Fm)(N:Nat)(le:Nat->Nat->Prop)(f:Nat->Nat):Prop:=∀g,Sol m N le g->∀k,k<m.F.length->le (f k) (g k)
theorem qfy (L:kb4 N le jn bot){m:Fm}{f g:Nat->Nat}(c:Sol m N le f)(d:Sol m N le g)(e:Low m N le f)(h:Low m N le g):∀a,a<m.F.length->f a=g a :=
 fun a b=>L.anti _ _ (c.lt a b) (d.lt a b) (e g d a b) (h f c a b)
def kaI (m:Fm)(bot k:Nat):Nat:=if (fAt m k).lb<0 then bot else (fAt m k).lb.toNat
theorem qhb (L:kb4 N le jn bot){m:Fm}:Low m N le (kaI m bot):=by
 intro g hg k hk;unfold kaI;split
 . exact L.bot _ (hg.lt k hk)
 . rename_i h
   have:=hg.decl k hk (by omega);rw[show(fAt m k).lb.toNat=g k by omega];exact L.refl _ (hg.lt k hk)
theorem qlo (L:kb4 N le jn bot){m:Fm}{f:Nat->Nat}(o:Low m N le f)(i:∀k,k<m.F.length->f k<N){k:Nat}(h:k<m.F.length)(j:(fAt m k).lb<0)(a:Nat)(l:a<N)(n:∀b,Sol m N le b->le a (b k))(xs:List Nat)(q:∀g,g∈xs->∃c,c<m.F.length/\kcY m c k=true/\g=f c) :
 ∀b,Sol m N le b->le (xs.foldl jn a) (b k):=by
 intro b d;refine L.fold_le xs a (b k) l (d.lt k h) (fun g r=>?_) (n b d);obtain⟨c,e,p,rfl⟩:=q g r;exact⟨i c e,L.trans _ _ _ (i c e) (d.lt c e) (d.lt k h) (o b d c e) (d.up k h j c e p)⟩
end
def kbK (M:Nat->Bool)(n:Nat):Nat:=((List.range n).filter M).length
theorem qea (M:Nat->Bool)(n:Nat):kbK M (n+1)=kbK M n+if M n=true then 1 else 0:=by
 unfold kbK;rw[Zc,List.filter_append,Yj];cases a:M n <;> simp[a]
theorem qnu (M:Nat->Bool)(n:Nat):kbK M n<=n:=by
 induction n with
 | zero=>exact nR _
 | succ n a=>rw[qea];split <;> omega
theorem qir {M:Nat->Bool}{n:Nat}(a:n<=kbK M n):∀b,b<n->M b=true:=by
 induction n with
 | zero=>intro b e;omega
 | succ n f =>
  have g:=qnu M n;rw[qea]at a;have d:M n=true:=by
   cases c:M n
   . rw[c]at a;simp at a;omega
   . rfl
  rw[d]at a;simp at a;intro b e;by_cases c:b=n
  . subst c;exact d
  . exact f a b (by omega)
theorem qae {M M':Nat->Bool}{n:Nat}(b:∀a,a<n->M a=M' a):kbK M n=kbK M' n:=by
 unfold kbK;rw[List.filter_congr fun a c=>b a (Yu.1 c)]
theorem qnw {M:Nat->Bool}{n i:Nat}(hi:i<n)(b:M i=false):kbK (up M i true) n=kbK M n+1:=by
 induction n with
 | zero=>omega
 | succ n c =>
  rw[qea,qea];by_cases a:i=n
  . subst a
    rw[ka2,b,qae (M:=up M i true) (M':=M) fun d d=>kaK _ _ (by omega)];simp
  . rw[c (by omega),kaK M true (show n≠i by omega)]
    omega
def Snd (m:Fm)(k:Nat)(M:Nat->Bool):Prop:=∀i,M i=true->Rch m k i
theorem Snd.up {m:Fm}{k i:Nat}{M:Nat->Bool}(d:Snd m k M)(e:Rch m k i):Snd m k (up M i true):=fun c b=>by
 by_cases a:c=i
 . subst a;exact e
 . rw[kaK _ _ a]at b;exact d c b
def Cls (m:Fm)(k:Nat)(M:Nat->Bool)(j:Nat):Prop:=(j=k∨M j=true)->∀i,i<m.F.length->kbM m j i=true->M i=true
theorem qlf {m:Fm}{k:Nat}{M:Nat->Bool}(b:Snd m k M)(c:m.F.length<=kbK M m.F.length):∀a,a<m.F.length->(M a=true ↔ Rch m k a):=fun a d=>⟨b a,fun _=>qir c a d⟩
theorem qcm {m:Fm}{k:Nat}{M:Nat->Bool}(g:k<m.F.length)(d:Snd m k M)(f:∀b,b<m.F.length->Cls m k M b):∀a,a<m.F.length->(M a=true ↔ Rch m k a):=fun a _ =>
 ⟨d a,q48 (fun b e=>f b (by
  rcases e with c | c
  . rw[c];exact g
  . exact(d b c).lt) e) a⟩
theorem qlh {m:Fm}{k j i:Nat}(c:j=k∨Rch m k j)(hi:i<m.F.length)(b:kbM m j i=true):Rch m k i:=by
 rcases c with a | a
 . subst a;exact .one hi b
 . exact .step a hi b
def ms (n:Nat)(M:Nat->Bool):Tl:=(List.range n).map fun k=>.bool (M k)
theorem kdu {n i:Nat}(M:Nat->Bool)(a:i<n):(ms n M)[i]? = some (.bool (M i)):=by simp[ms,a]
theorem kfz {n j:Nat}(M:Nat->Bool)(v:Bool):(ms n M).set j (.bool v)=ms n (up M j v):=kdy (fun a=>.bool a) M n j v
theorem qe9 {M M':Nat->Bool}:∀{n:Nat},(∀a,a<n->M a=true->M' a=true)->kbK M n<=kbK M' n:=by
 intro n
 induction n with
 | zero=>intro _;exact nR _
 | succ n d =>
  intro b;rw[qea,qea];have:=d fun a c=>b a (by omega);have c:=b n (by omega);cases a:M n
  . simp;split <;> omega
  . rw[c a];simp;exact this
theorem qnv {M M':Nat->Bool}{j:Nat}:∀{n:Nat},(∀a,a<n->M a=true->M' a=true)->j<n->M j=false->M' j=true->kbK M n<kbK M' n:=by
 intro n
 induction n with
 | zero=>intro _ b;omega
 | succ n g =>
  intro b h c d;rw[qea,qea];by_cases e:j=n
  . subst e
    have:=qe9 (M:=M) (M':=M') (n:=j) fun a f=>b a (by omega);rw[c,d];simp;omega
  . have:=g (fun a f=>b a (by omega)) (by omega) c d
    have f:=b n (by omega);cases a:M n
    . simp;split <;> omega
    . rw[f a];simp;exact this
section
variable {N:Nat} {F:Nat->Nat->Bool} {jn:Nat->Nat->Nat} {bot:Nat}
def rkL (F:Nat->Nat->Bool)(N a:Nat):Nat:=kbK (fun b=>F b a) N
theorem kgU (F:Nat->Nat->Bool)(N a:Nat):rkL F N a<=N:=qnu _ _
theorem qlp (L:kb4 N (fun a b=>F a b=true) jn bot){a b:Nat}(d:a<N)(e:b<N)(c:F a b=true):rkL F N a<=rkL F N b:=qe9 fun h f g=>L.trans h a b f d e g c
theorem kgV (L:kb4 N (fun a b=>F a b=true) jn bot){a b:Nat}(e:a<N)(c:b<N)(d:F a b=true)(g:a≠b):rkL F N a<rkL F N b:=by
 refine qnv (j:=b) (fun i f h=>L.trans i a b f e c h d) c ?_ (L.refl b c);cases f:F b a
 . rfl
 . exact absurd (L.anti a b e c d f) g
def kcI (F:Nat->Nat->Bool)(N n:Nat)(f:Nat->Nat):Nat:=((List.range n).map fun k=>rkL F N (f k)).sum
theorem kfo (F:Nat->Nat->Bool)(N n:Nat)(f:Nat->Nat):kcI F N n f<=n*N:=by
 unfold kcI
 induction n with
 | zero=>simp
 | succ n a =>
  rw[Zc];simp only[Zl,Of,Z5,Oq,Oh,O0,Zo];have:=kgU F N (f n);rw[Z2];omega
end
theorem qsa {n:Nat}{f g:Nat->Nat}(b:∀a,a<n->f a<=g a):((List.range n).map f).sum<=((List.range n).map g).sum:=by
 induction n with
 | zero=>exact nR _
 | succ n c =>
  rw[Zc];simp only[Zl,Of,Z5,Oq,Oh,O0,Zo];have:=c fun a d=>b a (by omega);have:=b n (by omega);omega
theorem qsb {n x:Nat}{f g:Nat->Nat}(b:∀a,a<n->f a<=g a)(i:x<n)(h:f x<g x):((List.range n).map f).sum<((List.range n).map g).sum:=by
 induction n with
 | zero=>omega
 | succ n e =>
  rw[Zc];simp only[Zl,Of,Z5,Oq,Oh,O0,Zo];by_cases c:x=n
  . subst c
    have:=qsa (n:=x) fun a d=>b a (by omega);omega
  . have:=e (fun a d=>b a (by omega)) (by omega)
    have:=b n (by omega);omega
section
variable {N:Nat} {F:Nat->Nat->Bool} {jn:Nat->Nat->Nat} {bot:Nat}
theorem ql9 (L:kb4 N (fun a b=>F a b=true) jn bot){n:Nat}{f g:Nat->Nat}(d:∀a,a<n->f a<N)(e:∀a,a<n->g a<N)(c:∀a,a<n->F (f a) (g a)=true):kcI F N n f<=kcI F N n g:=qsa fun a b=>qlp L (d a b) (e a b) (c a b)
theorem kfp (L:kb4 N (fun a b=>F a b=true) jn bot){n x:Nat}{f g:Nat->Nat}(e:∀a,a<n->f a<N)(h:∀a,a<n->g a<N)(d:∀a,a<n->F (f a) (g a)=true)(b:x<n)(i:f x≠g x):kcI F N n f<kcI F N n g :=
 qsb (fun a c=>qlp L (e a c) (h a c) (d a c)) b (kgV L (e x b) (h x b) (d x b) i)
end
def rdA (m:Fm)(k:Nat):List Nat:=[(fAt m k).is,(fAt m k).wh,(fAt m k).va,(fAt m k).mu].flatMap (rdL (kaa m))
theorem qq8 {m:Fm}(a:VfA m){j k:Nat}(d:j<m.F.length)(e:k<m.F.length):j∈rdA m k ↔ kcY m j k=true:=by
 have b:j<(kaa m).length:=by rw[qap];exact d
 have c:=a.knw e;unfold rdA kcY kbM kfv;simp only[Va,List.flatMap_nil,List.append_nil,Zk,Ze];rw[qq9 a.nod c.1 b,qq9 a.nod c.2.1 b,qq9 a.nod c.2.2.1 b,qq9 a.nod c.2.2.2 b,qao d];exact⟨fun a=>a.elim (fun a=>.inl (.inl a)) fun a=>a.elim (fun a=>.inl (.inr a)) fun a=>a.elim (fun a=>.inr (.inl a)) fun a=>.inr (.inr a),fun a=>a.elim (fun a=>a.elim .inl fun a=>.inr (.inl a)) fun a=>a.elim (fun a=>.inr (.inr (.inl a))) fun a=>.inr (.inr (.inr a))⟩
theorem kde {m:Fm}(d:VfA m){k:Nat}(e:k<m.F.length):∀b,b∈rdA m k->b<m.F.length:=by
 intro b a;have c:=d.knw e;unfold rdA at a;simp only[Va,List.flatMap_nil,List.append_nil,Zk]at a;rw[<- qap m];rcases a with a | a | a | a
 . exact kcP c.1 b a
 . exact kcP c.2.1 b a
 . exact kcP c.2.2.1 b a
 . exact kcP c.2.2.2 b a
structure LbA (m:Fm):Prop where
 nf:m.F.length<=200
 dc:∀k,k<m.F.length->-1<=(fAt m k).lb/\(fAt m k).lb<m.L.length
theorem VfA.lba {m:Fm}(a:VfA m):LbA m:=⟨a.nf,fun b b=>by
 have:=(q7o _ _ _).1 (a.fi _ (Yi b));rw[qoe b];exact⟨this.l1,this.l2⟩⟩
theorem kcS {m:Fm}(a:LbA m){k:Nat}(b:k<m.F.length):-1<=(fAt m k).lb/\(fAt m k).lb<m.L.length:=a.dc k b
structure Way (m:Fm)(N:Nat)(le:Nat->Nat->Prop)(f:Nat->Nat):Prop where
 low:Low m N le f
 lt:∀k,k<m.F.length->f k<N
 decl:∀k,k<m.F.length->0<=(fAt m k).lb->(f k:Int)=(fAt m k).lb
section
variable {N:Nat} {le:Nat->Nat->Prop} {jn:Nat->Nat->Nat} {bot:Nat}
theorem qi3 (L:kb4 N le jn bot){m:Fm}(b:LbA m)(e:m.L.length=N):Way m N le (kaI m bot):=by
 refine⟨qhb L,fun c a=>?_,fun c a d=>?_⟩
 . unfold kaI
   have:=kcS b a;split
   . exact L.bl
   . omega
 . unfold kaI
   rw[Yl (by omega)];omega
theorem Way.rise (L:kb4 N le jn bot){m:Fm}{f:Nat->Nat}(d:Way m N le f){k:Nat}(p:k<m.F.length)(n:(fAt m k).lb<0)(a:Nat)(h:a<N)(o:∀e,Sol m N le e->le a (e k))(xs:List Nat)(j:∀c,c∈xs->∃b,b<m.F.length/\kcY m b k=true/\c=f b):Way m N le (up f k (xs.foldl jn a)):=by
 have q:xs.foldl jn a<N:=L.fold_lt xs a h fun c g=>by
  obtain⟨b,i,-,rfl⟩:=j c g;exact d.lt b i
 refine⟨fun e i c g=>?_,fun c g=>?_,fun c g l=>?_⟩
 . by_cases b:c=k
   . subst b;rw[ka2];exact qlo L d.low d.lt p n a h o xs j e i
   . rw[kaK _ _ b];exact d.low e i c g
 . by_cases b:c=k
   . subst b;rw[ka2];exact q
   . rw[kaK _ _ b];exact d.lt c g
 . by_cases b:c=k
   . subst b;omega
   . rw[kaK _ _ b];exact d.decl c g l
theorem Way.sol {m:Fm}{f:Nat->Nat}(c:Way m N le f)(d:∀a,a<m.F.length->(fAt m a).lb<0->∀b,b<m.F.length->kcY m b a=true->le (f b) (f a)):Sol m N le f:=⟨c.lt,c.decl,d⟩
end
section
variable {N:Nat} {le:Nat->Nat->Prop} {jn:Nat->Nat->Nat} {bot:Nat}
def rdO (m:Fm)(k q:Nat):List Nat:=(List.range q).filter fun j=>kcY m j k
theorem qli (m:Fm)(k a:Nat):rdO m k (a+1)=rdO m k a++if kcY m a k=true then [a] else []:=by
 unfold rdO;rw[Zc,List.filter_append]
 congr 1
 cases b:kcY m a k <;> simp[b]
theorem qqa {m:Fm}{k n j:Nat}:j∈rdO m k n ↔ j<n/\kcY m j k=true:=by
 unfold rdO;rw[List.mem_filter,Yu]
def jac (m:Fm)(jn:Nat->Nat->Nat)(f:Nat->Nat)(k:Nat):Nat:=if (fAt m k).lb<0 then ((rdO m k m.F.length).map f).foldl jn (f k) else f k
theorem kdC {m:Fm}{f:Nat->Nat}(c:∀k,k<m.F.length->f k<N)(k b:Nat)(h:b<=m.F.length):∀a,a∈(rdO m k b).map f->a<N:=by
 intro a e;obtain⟨g,d,rfl⟩:=Y4.1 e;exact c g (by have:=(qqa.1 d).1;omega)
theorem Way.jac (L:kb4 N le jn bot){m:Fm}{f:Nat->Nat}(h:Way m N le f):Way m N le (jac m jn f):=by
 refine⟨fun g hg k hk=>?_,fun k hk=>?_,fun k hk h0=>?_⟩
 . unfold Proofs.YtenckgnkjkijnaaGreatDoor.jac
   split
   . rename_i ha
     refine qlo L h.low h.lt hk ha (f k) (h.lt k hk) (fun g hg=>h.low g hg k hk) _ (fun x hx=>?_) g hg;obtain⟨j,hj,rfl⟩:=Y4.1 hx;exact⟨j,(qqa.1 hj).1,(qqa.1 hj).2,rfl⟩
   . exact h.low g hg k hk
 . unfold Proofs.YtenckgnkjkijnaaGreatDoor.jac
   split
   . exact L.fold_lt _ _ (h.lt k hk) (kdC h.lt k _ (nR _))
   . exact h.lt k hk
 . unfold Proofs.YtenckgnkjkijnaaGreatDoor.jac
   rw[Yl (by omega)];exact h.decl k hk h0
theorem kgS (L:kb4 N le jn bot){m:Fm}{f:Nat->Nat}(b:Way m N le f):∀a,a<m.F.length->le (f a) (jac m jn f a):=fun a c=>by
 unfold jac;split
 . exact(L.fold_ge _ _ (b.lt a c) (kdC b.lt a _ (nR _))).1
 . exact L.refl _ (b.lt a c)
theorem qpk (L:kb4 N le jn bot){m:Fm}{f:Nat->Nat}(b:Way m N le f)(e:∀a,a<m.F.length->jac m jn f a=f a):Sol m N le f:=b.sol fun a c d i g h=>by
 have:=e a c;unfold jac at this;rw[Yr d]at this;rw[<- this];exact(L.fold_ge _ _ (b.lt a c) (kdC b.lt a _ (nR _))).2 _ (Y4.2 ⟨i,qqa.2 ⟨g,h⟩,rfl⟩)
def rdV (m:Fm)(jn:Nat->Nat->Nat)(bot:Nat)(f:Nat->Nat)(k:Nat):Nat:=((rdA m k).map f).foldl jn bot
theorem kca (L:kb4 N le jn bot){m:Fm}(g:VfA m){f:Nat->Nat}(c:∀k,k<m.F.length->f k<N){k:Nat}(e:k<m.F.length):(∀a,a∈(rdA m k).map f->a<N)/\rdV m jn bot f k<N:=by
 have b:∀a,a∈(rdA m k).map f->a<N:=fun a b=>by
  obtain⟨a,d,rfl⟩:=Y4.1 b;exact c a (kde g e a d)
 exact⟨b,L.fold_lt _ _ L.bl b⟩
def Asc (m:Fm)(le:Nat->Nat->Prop)(jn:Nat->Nat->Nat)(bot:Nat)(f:Nat->Nat):Prop:=∀k,k<m.F.length->(fAt m k).lb<0->le (f k) (rdV m jn bot f k)
theorem qlj (L:kb4 N le jn bot){m:Fm}(j:VfA m){f g:Nat->Nat}(d:∀k,k<m.F.length->f k<N)(e:∀k,k<m.F.length->g k<N)(l:∀k,k<m.F.length->le (f k) (g k)){k:Nat}(i:k<m.F.length):le (rdV m jn bot f k) (rdV m jn bot g k):=by
 have b:=kca L j e i;refine L.fold_le _ _ _ L.bl b.2 (fun o n=>?_) (L.bot _ b.2);obtain⟨a,h,rfl⟩:=Y4.1 n;have c:=kde j i a h;refine⟨d a c,L.trans _ _ _ (d a c) (e a c) b.2 (l a c) ?_⟩;exact(L.fold_ge _ _ L.bl b.1).2 _ (Y4.2 ⟨a,h,rfl⟩)
theorem qdr (L:kb4 N le jn bot){m:Fm}(a:VfA m)(b:m.L.length=N):Asc m le jn bot (kaI m bot):=fun e d c=>by
 rw[show kaI m bot e=bot by unfold kaI;rw[Yr c]];exact L.bot _ (kca L a (qi3 L a.lba b).lt d).2
theorem qoz (L:kb4 N le jn bot){m:Fm}(c:VfA m){f:Nat->Nat}(e:Way m N le f)(i:Asc m le jn bot f){k:Nat}(d:k<m.F.length)(j:(fAt m k).lb<0):Way m N le (up f k (rdV m jn bot f k))/\Asc m le jn bot (up f k (rdV m jn bot f k))/\∀a,a<m.F.length->le (f a) (up f k (rdV m jn bot f k) a):=by
 have r:=(kca L c e.lt d).2;have h:Way m N le (up f k (rdV m jn bot f k)):=e.rise L d j bot L.bl (fun b b=>L.bot _ (b.lt k d)) _ fun b l=>by
  obtain⟨g,b,rfl⟩:=Y4.1 l;exact⟨g,kde c d g b,(qq8 c (kde c d g b) d).1 b,rfl⟩
 have l:∀a,a<m.F.length->le (f a) (up f k (rdV m jn bot f k) a):=fun a b=>by
  by_cases g:a=k
  . subst g;rw[ka2];exact i a b j
  . rw[kaK _ _ g];exact L.refl _ (e.lt a b)
 refine⟨h,fun a b o=>?_,l⟩;have n:=qlj L c e.lt h.lt l b;have q:=(kca L c h.lt b).2;have p:=(kca L c e.lt b).2;by_cases g:a=k
 . subst g;rw[ka2];exact n
 . rw[kaK _ _ g];exact L.trans _ _ _ (e.lt a b) p q (i a b o) n
theorem kgT (L:kb4 N le jn bot){m:Fm}(c:VfA m){f:Nat->Nat}(d:Way m N le f)(g:∀a,a<m.F.length->(fAt m a).lb<0->rdV m jn bot f a=f a):Sol m N le f:=d.sol fun a b e j h i=>by
 rw[<- g a b e];exact(L.fold_ge _ _ L.bl (kca L c d.lt b).1).2 _ (Y4.2 ⟨j,(qq8 c h b).2 i,rfl⟩)
end
end Go.Proofs.YtenckgnkjkijnaaGreatDoor
namespace Go.Proofs.YtenckgnkjkijnaaGreatDoor
open Go Go.RowKit Go.Proofs.Tryz
theorem qll {l:List Nx}{x:Tb}{k:Nat}(a:k<l.length)(b:(nf l k).op=1)(c:(nf l k).nm=x):kcG l x=true:=by
 unfold kcG;refine Z8.2 ⟨l[k],Yi a,?_⟩;rw[kb7 l k a]at b c;simp[b,c]
theorem qrq {l:List Nx}{x:Tb}(c:∀a,a<l.length->¬ ((nf l a).op=1/\(nf l a).nm=x)):kcG l x=false:=by
 unfold kcG;refine Vp.2 fun e d=>?_;obtain⟨a,b,rfl⟩:=Yx.1 d;have:=c a b;rw[kb7 l a b]at this;simpa using this
theorem q8h (a:To)(c:Nat)(l:List Nx)(x:Tb)(w:Tw)(D:l.length<=9223372036854775807)(z:kb0 w a l) :
 Gv 78 #[.slice a l.length c,.string x] w (.bool (kcG l x)):=by
 have t:=h_ z;obtain⟨s,r⟩:=Nq (kcG l x);rw[r];have n:=h_ r;go_enter func78,ntmps78;go_wp2_with fail;go_loopw [5] (fun e wr=>∃b:Nat,b<=l.length/\e=J6 b/\(∀d,d<b->¬ ((nf l d).op=1/\(nf l d).nm=x))/\Bw w wr) (fun e _=>l.length - (intOf e).toNat)
 case atStart=>exact⟨0,nZ _,rfl,fun d i=>absurd i (nL _),bR _ _⟩
 case round =>
  obtain⟨b,C,rfl,A,o⟩:=hrel;obtain⟨m,h,v⟩:=oC A o (t.mono o);by_cases q:b<l.length
  . have B:(b:Int)<l.length:=by omega
    obtain⟨pb,E,rfl,-,F,G,H,I,J⟩:=v b q;have j:Hi ((nf l b).op=1->(nf l b).nm=x->s=true):=h_ fun e f=>by rw[<- n.u,qll q e f]
    have k:Hi (¬ ((nf l b).op=1/\(nf l b).nm=x)->∀d,d<b+1->¬ ((nf l d).op=1/\(nf l d).nm=x)):=h_ fun g d i=>by
     by_cases i:d=b
     . subst i;exact g
     . exact m d (by omega)
    generalize nf l b=d at *;have p:=eqS d.nm x;by_cases e:d.op=1
    . have y:(d.op==1)=true:=by rw[e];rfl
      by_cases f:d.nm=x
      . have i:=h_ (j e f)
        rw[Ye f]at p;go_wp2_with fail;go_ret;exact⟨qln i.symm,h⟩
      . have i:=h_ (k fun g=>f g.2)
        rw[Yd f]at p;refine rQ ?_;exact⟨b+1,by omega,by go_num,i,h⟩
    . have y:(d.op==1)=false:=by simp[e]
      have i:=h_ (k fun g=>e g.1);refine rQ ?_;exact⟨b+1,by omega,by go_num,i,h⟩
  . obtain rfl:b=l.length:=by omega
    have B:¬ (l.length:Int)<(l.length:Int):=(by omega);have j:Hi (s=false):=h_ (by rw[<- n.u,qrq m.u]);go_wp2_with fail;go_ret;exact⟨qln j.symm,h⟩
theorem q8e (m:Fm)(A:MA)(j k:Nat)(w:Tw)(x:j<m.F.length)(l:k<m.F.length)(v:kbe m)(W:MSl w m A) :
 Gv 77 #[mV m A,J6 j,J6 k] w (.bool (kbM m j k)):=by
 obtain⟨P,Q,R,S,ar,T,I,K,J⟩:=A;unfold mV;dsimp only;obtain⟨G,ae,c,a⟩:=nw w 37 (Jb P m Q R S ar T I K);have r:=h_ (W.mono a);have aj:(j:Int)<m.F.length:=by omega
 have ak:(k:Int)<m.F.length:=by omega
 have ag:=v.fl;have o:Hi (kbM m j k=(kcG m.F[k].is m.F[j].nm||kcG m.F[k].wh m.F[j].nm)):=h_ (by unfold kbM;rw[qoe x,qoe l]);have q:=h_ (v.f _ (Yi l));obtain⟨U,Y,s,⟨-,z0,-⟩,-⟩:=r.f j x;obtain⟨b',o',t,⟨X,-,-,-,-,C,n,-⟩,z⟩:=r.f k l;dsimp only at s t C n z;subst s;cases t;have d:=h_ z;generalize m.F[j].nm=f at *;generalize m.F[k]=e at *;generalize J k=V at *;obtain⟨ab,aa,N,O,L,M,av,ad,au,ac⟩:=V;dsimp only at C n;have D:=h_ (q8h N O e.is f G q.il d.i);obtain⟨Z,y1,y2,y3⟩:=kaf c;generalize kbM m j k=B at *;go_enter func77,ntmps77;go_wp2_with fail;refine cQ D fun H b=>?_;have am:=(b.cell (p:=⟨U,Y+k*9+5,none⟩) X).trans n;replace c:=mB c b;replace a:=mT a b;replace d:=h_ (d.mono b);obtain⟨Z,y1,y2,y3⟩:=kaf c;cases y:kcG e.is f
 . have E:=h_ (q8h L M e.wh f H q.hl d.h)
   have g:Hi (B=kcG e.wh f):=h_ (by rw[o.u,y];rfl);go_wp2_with fail;refine cQ E fun W2 b=>?_;replace a:=mT a b;go_wp2_with fail;go_ret;exact⟨qln g.symm,a⟩
 . have g:Hi (B=true):=h_ (by rw[o.u,y];rfl)
   go_wp2_with fail;go_ret;exact⟨qln g.symm,a⟩
def Plc (w:Tw)(a:To)(l:List Nat):Prop:=keQ w a (l.map fun x:Nat=>(x:Int))
theorem Plc.mono {w w':Tw}{a:To}{l:List Nat}(b:Plc w a l)(c:Bw w w'):Plc w' a l:=keQ.mono b c
theorem Plc.at {w:Tw}{a:To}{l:List Nat}(f:Plc w a l)(k:Nat)(d:k<l.length):∃b c,a=some ⟨b,c,none⟩/\b<w.heap.size/\w.cell? ⟨b,c+k,none⟩=some (J6 (l[k]:Int)):=by
 obtain⟨b,c,e,g,h⟩:=f k (by simpa using d);refine⟨b,c,e,g,?_⟩;rw[h];dsimp only;rw[Yo,Zj,Yg d];rfl
theorem q3u (m:Fm)(A:MA)(j k:Nat)(w:Tw)(t:j<m.F.length)(h:k<m.F.length)(s:kbe m)(V:MSl w m A) :
 Gv 54 #[mV m A,J6 j,J6 k] w (.bool (kfv m j k)):=by
 obtain⟨K,L,M,N,ar,O,H,J,I⟩:=A;unfold mV;dsimp only;obtain⟨E,ae,c,a⟩:=nw w 37 (Jb K m L M N ar O H J);have o:=h_ (V.mono a);have aj:(j:Int)<m.F.length:=by omega
 have ak:(k:Int)<m.F.length:=by omega
 have ag:=s.fl;have l:Hi (kfv m j k=(kcG m.F[k].va m.F[j].nm||kcG m.F[k].mu m.F[j].nm)):=h_ (by unfold kfv;rw[qoe t,qoe h]);have n:=h_ (s.f _ (Yi h));obtain⟨T,X,q,⟨-,z0,-⟩,-⟩:=o.f j t;obtain⟨b',o',r,⟨W,-,-,-,-,-,-,B,-,i⟩,y⟩:=o.f k h;dsimp only at q r B i y;subst q;cases r;have d:=h_ y;generalize m.F[j].nm=f at *;generalize m.F[k]=e at *;generalize I k=U at *;obtain⟨ab,aa,ai,ad,ah,ac,R,S,P,Q⟩:=U;dsimp only at B i;have C:=h_ (q8h R S e.va f E n.vl d.v);obtain⟨Y,Z,y2,y3⟩:=kaf c;generalize kfv m j k=z at *;go_enter func54,ntmps54;go_wp2_with fail;refine cQ C fun G b=>?_;have am:=(b.cell (p:=⟨T,X+k*9+8,none⟩) W).trans i;replace c:=mB c b;replace a:=mT a b;replace d:=h_ (d.mono b);obtain⟨Y,Z,y2,y3⟩:=kaf c;cases x:kcG e.va f
 . have D:=h_ (q8h P Q e.mu f G n.ul d.u.u)
   have g:Hi (z=kcG e.mu f):=h_ (by rw[l.u,x];rfl);go_wp2_with fail;refine cQ D fun W2 b=>?_;replace a:=mT a b;go_wp2_with fail;go_ret;exact⟨qln g.symm,a⟩
 . have g:Hi (z=true):=h_ (by rw[l.u,x];rfl)
   go_wp2_with fail;go_ret;exact⟨qln g.symm,a⟩
theorem qfw (m:Fm)(A:MA)(j k:Nat)(w:Tw)(l:j<m.F.length)(n:k<m.F.length)(i:kbe m)(C:MSl w m A) :
 Gv 130 #[mV m A,J6 j,J6 k] w (.bool (kcY m j k)):=by
 have e:=h_ fun a (b:MSl a m A)=>q8e m A j k a l n i b;have f:=h_ fun a (b:MSl a m A)=>q3u m A j k a l n i b;obtain⟨v,x,y,z,ar,B,s,t,J⟩:=A;unfold mV at e f⊢;dsimp only at e f⊢;obtain⟨q,K,c,a⟩:=nw w 37 (Jb v m x y z ar B s t);have d:=h_ (C.mono a);have h:Hi (kcY m j k=(kbM m j k||kfv m j k)):=h_ rfl;generalize kcY m j k=p at *;obtain⟨D,E,G,H⟩:=kaf c;go_enter func130,ntmps130;go_wp2_with fail;refine cQ (e q d) fun r b=>?_;replace c:=mB c b;replace a:=mT a b;replace d:=h_ (d.mono b);obtain⟨D,E,G,H⟩:=kaf c;cases o:kbM m j k
 . have g:Hi (p=kfv m j k):=h_ (by rw[h.u,o];rfl)
   go_wp2_with fail;refine cQ (f r d) fun I b=>?_;replace a:=mT a b;go_wp2_with fail;go_ret;exact⟨qln g.symm,a⟩
 . have g:Hi (p=true):=h_ (by rw[h.u,o];rfl)
   go_wp2_with fail;go_ret;exact⟨qln g.symm,a⟩
def nxI (m:Fm)(D:List Nat):Int:=match nxt m D with
 | some k=>(k:Int)
 | none=>-1
theorem qkl {m:Fm}{D:List Nat}{k:Nat}(a:nxt m D=some k):nxI m D=k:=by unfold nxI;rw[a]
theorem qkk {m:Fm}{D:List Nat}(a:nxt m D=none):nxI m D = -1:=by unfold nxI;rw[a]
theorem q99 {w:Tw}{base n:Nat}{t:TypeId}{v:Value}{us:List Nat}(c:w.ownsRow base t 1 v n (ui us)):∃a b,v=.slice a n b/\n=us.length/\Plc w a us:=by
 have m:us.length=n:=by have:=c.1;simpa [ui] using this
 obtain⟨a,b,g,k⟩:=q5f c;refine⟨a,b,g,m.symm,fun e l=>?_⟩;have d:e<us.length:=by simpa using l
 obtain⟨f,o,h,i,j⟩:=k e (by omega);refine⟨f,o,h,i,?_⟩;rw[j];dsimp only;rw[Yo,Yg d,Yo,Zj,Yg d];rfl
