import Derived.Test.YtenckgnkjkijnaaGreatDoorW07
import Derived.Test.YtenckgnkjkijnaaGreatDoorW08
import Derived.Test.YtenckgnkjkijnaaGreatDoorW09
import Derived.Maps.AppendAt
set_option maxRecDepth 100000
set_option maxHeartbeats 64000000
namespace Go.Proofs.YtenckgnkjkijnaaGreatDoor
open Go Go.RowKit Go.Proofs.Tryz
def upd (T:Nat->Nat->Bool)(lo hi:Nat):Nat->Nat->Bool:=fun a b=>T a b||(decide (b=hi)&&T a lo)
def kbX (T:Nat->Nat->Bool)(lo hi k:Nat):Nat->Nat->Bool:=fun a b=>T a b||(decide (a<k)&&(decide (b=hi)&&T a lo))
def kdm (T:Nat->Nat->Bool)(f g:Nat->Nat):Nat->Nat->Nat->Bool
 | 0=>T
 | j+1=>upd (kdm T f g j) (f j) (g j)
def kat (T:Nat->Nat->Bool)(f g:Nat->Nat)(m:Nat):Nat->Nat->Nat->Bool
 | 0=>T
 | r+1=>kdm (kat T f g m r) f g m
def kb3:Nat->Nat->Bool:=fun a b=>decide (a=b)
theorem qhj {n:Nat}{c T':Nat->Nat->Bool}(e:∀a b,a<n->b<n->c a b=T' a b):bs (n*n) (kbO n c)=bs (n*n) (kbO n T'):=by
 unfold bs;refine Zm fun g f=>?_;have a:g<n*n:=Yu.1 f;have b:0<n:=Nat.pos_of_ne_zero fun d=>by subst d;simp at a
 unfold kbO;rw[e _ _ (by rw[Nat.div_lt_iff_lt_mul b];exact a) (Om _ b)]
theorem qsf {n a b:Nat}(e:Nat->Nat->Bool)(i:b<n):(bs (n*n) (kbO n e)).set (a*n+b) (.bool true)=bs (n*n) (kbO n fun c d=>e c d||(decide (c=a)&&decide (d=b))):=by
 refine qbt (by simp[qdx]) fun c g=>?_;rw[Zx];by_cases d:a*n+b=c
 . subst d
   rw[Yr rfl,Yr (by rw[qdx];exact g),qse _ i];simp
 . rw[Yl d]
   have j:(decide (c / n=a)&&decide (c % n=b))=false:=by
    rw[Bool.and_eq_false_iff,Zr,Zr];by_cases f:c / n=a
    . right;intro h
      apply d;have:=Nat.div_add_mod c n;rw[f,h,On]at this;exact this
    . exact .inl f
   simp only[bs,kbO,j,Bool.or_false];simp[g]
theorem q3i (n:Nat)(a:To)(m c:Nat)(f g:Nat->Nat)(w:Tw)(h1:1<=n)(Q:n<=32)(hm:m<=256)(v:kbB w a m (fun b=>(f b:Int)) (fun b=>(g b:Int)))(hf:∀b,b<m->f b<n)(hg:∀b,b<m->g b<n) :
 Calls prog 125 #[.agg (Jn n a m c)] w fun s e=>∃d,s=.returned (.slice (some ⟨d,0,none⟩) (n*n) (n*n))/\Blk e d 4 (bs (n*n) (kbO n (kat kb3 f g m n)))/\w.heap.size<=d/\Bw w e:=by
 obtain⟨E,h,C,D,F⟩:=info_parts qfc;have q1:(n:Int)*n<=1024:=by rw[<- Zd];have:=kc0 Q;omega
 have q0:0<=(n:Int)*n:=by rw[<- Zd];omega
 have q2:=kc0 Q;have A:E.bytes*(n*n)<=281474976710656:=by rw[F];omega
 have hC:((n:Int)*n)=((n*n:Nat):Int):=by simp
 have M:=h_ hC;clear hC;have d:Bw w (w.alloc (.cells (Jn n a m c) 162)):=(bR _ _).alloc (nR _) _;have l:=Blk.new w 162 (Jn n a m c);have q:=v.mono d;have H:(w.alloc (.cells (Jn n a m c) 162)).heap.size=w.heap.size+1:=by simp
 go_enter func125,ntmps125;go_wp2_with (at_make;refine wpList_make_full _ rfl (.tmp 15) (.tmp 15) 94 rfl (w.heap.size+1) 4 E (.bool false) 1 underlying94 h C D .i64 .i64 _ _ (n*n) rfl rfl M M A (by unfold maxLen;omega) (by simp) ?_;intro K k B);rw[H]at k
 try rw[H]
 have z:Below (w.heap.size+1) (w.alloc (.cells (Jn n a m c) 162)) K:=(bR _ _).grown B (by simp) (fun b s=>by cases s);have p:=Blk.of_owns k;have t:Blk K (w.heap.size+1) 4 (bs (n*n) (kbO n fun e i=>decide (e=i)&&decide (e<0))):=by
  have s:List.replicate (n*n) (Value.bool false)=bs (n*n) (kbO n fun e i=>decide (e=i)&&decide (e<0)):=by
   refine qbt (by simp) fun r U=>?_;simp[kbO,U]
  have j:Blk K (w.heap.size+1) 4 (madeCells #[.bool false] (n*n)).toList:=by simpa [Value.cells] using p
  rw[toList_madeCells_one]at j;rw[<- s];exact j
 obtain⟨o,j,W,L,X⟩:=oG t z d l q;clear k B p t z A h C D F d l q v;generalize d:w.alloc (.cells (Jn n a m c) 162)=D at *;clear d;have ag:n*n<=1024:=q2;have aa:D.heap.size<=w.heap.size+1:=by rw[H];exact nR _
 go_loopw [5] (fun q wr=>∃b:Nat,b<=n/\q=J6 b/\Blk wr (w.heap.size+1) 4 (bs (n*n) (kbO n fun e i=>decide (e=i)&&decide (e<b)))/\Below (w.heap.size+1) D wr) (fun q _=>n - (intOf q).toNat)
 case atStart=>exact⟨0,nZ _,rfl,o,j⟩
 case round =>
  clear o j;obtain⟨b,t,rfl,p,z⟩:=hrel;obtain⟨o,j⟩:=oB p z;by_cases d:b<n
  . have E:=kbS (n:=n) (x:=b) (y:=b) (by omega) (by omega)
    have B:0<=(b:Int)*n:=(by rw[<- Zd];omega);have C:(b:Int)*n+b<((n*n:Nat):Int):=(by rw[<- Zd];omega);have F:(b:Int)*n<=1024:=(by rw[<- Zd];omega);have l:=p.cell (b*n+b);have A:=p.free (b*n+b);have k:(bs (n*n) (kbO n fun e i=>decide (e=i)&&decide (e<b)))[b*n+b]? = some (.bool false):=by
     simp only[bs,Zj,Gg E,Gd,qse _ d];simp
    rw[k]at l;clear p z k;go_wp2;go_roundw
    case rel =>
     refine⟨b+1,by omega,by go_num,?_,j.setCell (nR _) _⟩;have k:=o.set (b*n+b) (.bool true);rw[qsf _ d]at k;have s:bs (n*n) (kbO n fun e i=>(decide (e=i)&&decide (e<b))||(decide (e=b)&&decide (i=b)))=bs (n*n) (kbO n fun e i=>decide (e=i)&&decide (e<b+1)):=qhj fun e i I v=>by
      rw[Zh];simp only[Ze,Yh,Yk];omega
     rw[s]at k;exact k
    case measure=>simp[intOf];omega
  . obtain rfl:b=n:=by omega
    clear p z d t;have C:Hi (Blk wr (w.heap.size+1) 4 (bs (b*b) (kbO b (kat kb3 f g m 0)))):=by
     have k:=o.u;have s:bs (b*b) (kbO b fun e i=>decide (e=i)&&decide (e<b))=bs (b*b) (kbO b (kat kb3 f g m 0)):=qhj fun e i I v=>by
      simp only[kat,kb3];rw[Zh];simp only[Yh,Yk];omega
     rw[s]at k;exact k
    clear o;go_wp2_with fail;go_loopw [6] (fun q A=>∃v:Nat,v<=b/\q=J6 v/\Blk A (w.heap.size+1) 4 (bs (b*b) (kbO b (kat kb3 f g m v)))/\Below (w.heap.size+1) D A) (fun q _=>b - (intOf q).toNat)
    case atStart=>exact⟨0,nZ _,rfl,C,j⟩
    case round =>
     clear C j;obtain⟨v,hr,rfl,p,z⟩:=hrel;obtain⟨o,j⟩:=oB p z;clear p z;by_cases af:v<b
     . go_wp2_with fail
       have C:Hi (Blk wr (w.heap.size+1) 4 (bs (b*b) (kbO b (kdm (kat kb3 f g m v) f g 0)))):=o.u;clear o;go_loopw [7] (fun q A=>∃r:Nat,r<=m/\q=J6 r/\Blk A (w.heap.size+1) 4 (bs (b*b) (kbO b (kdm (kat kb3 f g m v) f g r)))/\Below (w.heap.size+1) D A) (fun q _=>m - (intOf q).toNat)
       case atStart=>exact⟨0,nZ _,rfl,C,j⟩
       case round =>
        obtain⟨r,U,rfl,p,z⟩:=hrel;obtain⟨o,j⟩:=oB p z;obtain⟨t,B⟩:=Nq (kdm (kat kb3 f g m v) f g r);rw[B]at o;have O:=h_ B;by_cases G:r<m
        . have Y:=X.mono (j.mono aa)
          obtain⟨ad,ah,rfl,hl,R,S⟩:=Y r G;dsimp only at R S;have P:=hf r G;have F:=hg r G;obtain⟨l,V⟩:=Nq (f r);obtain⟨h,T⟩:=Nq (g r);rw[V]at R P;rw[T]at S F;have N:=h_ (And.intro V T);have J:=(L.mono j (Zu _)).cell 1;simp only[Yz,Yf]at J;go_wp2_with fail;have C:Hi (Blk wr (w.heap.size+1) 4 (bs (b*b) (kbO b (kbX t l h 0)))):=by
           have k:=o.u;rw[qhj (T':=kbX t l h 0) fun e i _ _=>by simp[kbX]]at k;exact k
          go_loopw [10] (fun q A=>∃d:Nat,d<=b/\q=J6 d/\Blk A (w.heap.size+1) 4 (bs (b*b) (kbO b (kbX t l h d)))/\Below (w.heap.size+1) D A) (fun q _=>b - (intOf q).toNat)
          case atStart=>exact⟨0,nZ _,rfl,C,j⟩
          case round =>
           obtain⟨d,hq,rfl,p,z⟩:=hrel;obtain⟨o,j⟩:=oB p z;by_cases ae:d<b
           . have l0:=kbS (n:=b) (x:=d) (y:=l) (by omega) (by omega)
             have l1:0<=(d:Int)*b:=(by rw[<- Zd];omega);have l2:(d:Int)*b+l<((b*b:Nat):Int):=(by rw[<- Zd];omega);have l3:(d:Int)*b<=1024:=(by rw[<- Zd];omega);have p0:=kbS (n:=b) (x:=d) (y:=h) (by omega) (by omega);have p1:0<=(d:Int)*b:=(by rw[<- Zd];omega);have p2:(d:Int)*b+h<((b*b:Nat):Int):=(by rw[<- Zd];omega);have p3:(d:Int)*b<=1024:=(by rw[<- Zd];omega);have q:=p.cell (d*b+l);have A:=p.cell (d*b+h);have fh:=p.free (d*b+h);have el:(bs (b*b) (kbO b (kbX t l h d)))[d*b+l]? = some (.bool (kbX t l h d d l)):=by
              simp only[bs,Zj,Gg l0,Gd,qse _ P]
             have eh:(bs (b*b) (kbO b (kbX t l h d)))[d*b+h]? = some (.bool (kbX t l h d d h)):=by
              simp only[bs,Zj,Gg p0,Gd,qse _ F]
             have Z:kbX t l h d d l=t d l:=(by simp[kbX]);rw[el,Z]at q;rw[eh]at A;obtain⟨vh,ac⟩:=Nq (kbX t l h d d h);rw[ac]at A;cases B:t d l
             . rw[B]at q
               go_wp2;go_roundw
               case rel =>
                refine⟨d+1,by omega,by go_num,?_,j⟩;have k:=o.u;rw[qhj (T':=kbX t l h (d+1)) fun e i _ _=>by
                 simp only[kbX];by_cases s:e=d
                 . subst s;simp[B]
                 . congr 2;rw[decide_eq_decide];omega]at k
                exact k
               case measure=>simp[intOf];omega
             . rw[B]at q
               go_wp2;go_roundw
               case rel =>
                refine⟨d+1,by omega,by go_num,?_,j.setCell (nR _) _⟩;have k:=o.set (d*b+h) (.bool true);rw[qsf _ F]at k;rw[qhj (T':=kbX t l h (d+1)) fun e i _ _=>by
                 simp only[kbX];by_cases s:e=d
                 . subst s;simp[B]
                 . rw[show decide (e=d)=false from Yd s,Bool.false_and,Bool.or_false];congr 2;rw[decide_eq_decide];omega]at k
                exact k
               case measure=>simp[intOf];omega
           . obtain rfl:d=b:=by omega
             go_wp2_with fail;go_roundw
             case rel =>
              refine⟨r+1,by omega,by go_num,?_,j⟩;have k:=o.u;rw[qhj (T':=kdm (kat kb3 f g m v) f g (r+1)) fun e i I _=>by
               rw[kdm,O.u,N.u.1,N.u.2];simp[kbX,upd,I]]at k
              exact k
             case measure=>simp[intOf];omega
        . obtain rfl:r=m:=by omega
          have J:=(L.mono j (Zu _)).cell 1;simp only[Yz,Yf]at J;go_wp2_with fail;go_roundw
          case rel =>
           refine⟨v+1,by omega,by go_num,?_,j⟩;rw[kat,O.u];exact o
          case measure=>simp[intOf];omega
     . obtain rfl:v=b:=by omega
       have e:=W.trans (j.mono (Vq _));have d:=h_ e;go_wp2;go_ret;exact⟨_,rfl,o,Vq _,d⟩
end Go.Proofs.YtenckgnkjkijnaaGreatDoor
namespace Go.Proofs.YtenckgnkjkijnaaGreatDoor
section
variable {f g:Nat->Nat} {m n:Nat}
theorem qmq {c:Nat->Nat->Bool}{lo hi a b:Nat}(d:c a b=true):upd c lo hi a b=true:=by simp[upd,d]
theorem qgl {e:Nat->Nat->Bool}{a b i:Nat}:∀{c},i<=c->kdm e f g i a b=true->kdm e f g c a b=true:=by
 intro c
 induction c with
 | zero=>intro j d;obtain rfl:i=0:=(by omega);exact d
 | succ c k =>
  intro j d;by_cases h:i=c+1
  . subst h;exact d
  . exact qmq (k (by omega) d)
theorem q97 {b:Nat->Nat->Bool}{a k j:Nat}(e:k<j)(c:b a (f k)=true):kdm b f g j a (g k)=true:=by
 refine qgl (i:=k+1) (by omega) ?_;have d:kdm b f g k a (f k)=true:=qgl (i:=0) (by omega) c;rw[kdm];simp[upd,d]
def kb5 (f g:Nat->Nat)(m:Nat)(T:Nat->Nat->Bool)(a:Nat):Prop:=∀k,k<m->T a (f k)=true->T a (g k)=true
theorem q96 {d:Nat->Nat->Bool}{a:Nat}(i:kb5 f g m d a):∀b,b<=m->∀c,kdm d f g b a c=d a c:=by
 intro b
 induction b with
 | zero=>intro _ c;rfl
 | succ b h =>
  intro k c;rw[kdm,upd,h (by omega),h (by omega)];by_cases e:c=g b
  . subst e
    cases j:d a (f b)
    . simp
    . rw[i b (by omega) j];rfl
  . rw[show decide (c=g b)=false from Yd e];simp
def cnt (n:Nat)(T:Nat->Nat->Bool)(a:Nat):Nat:=((List.range n).filter (T a)).length
theorem qez {p b:Nat->Bool}(l:List Nat)(d:∀a,p a=true->b a=true):(l.filter p).length<=(l.filter b).length:=by
 induction l with
 | nil=>simp
 | cons a i c =>
  simp only[List.filter_cons];cases e:p a
  . cases h:b a
    . simpa using c
    . simp;omega
  . rw[d a e];simpa using c
theorem qf0 {p b:Nat->Bool}(l:List Nat)(c:∀a,p a=true->b a=true){y:Nat}(hy:y∈l)(d:p y=false)(e:b y=true):(l.filter p).length<(l.filter b).length:=by
 induction l with
 | nil=>cases hy
 | cons a j i =>
  simp only[List.filter_cons];rcases Z7.1 hy with rfl | hy
  . rw[d,e]
    have:=qez j c;simp;omega
  . have:=i hy
    cases h:p a
    . cases k:b a
      . simpa using this
      . simp;omega
    . rw[c a h];simpa using this
theorem q9d {d:Nat->Nat->Bool}{a b:Nat}:∀c,d a b=true->kat d f g m c a b=true
 | 0,h=>h
 | c+1,h=>qgl (i:=0) (by omega) (q9d c h)
theorem q6j (o:∀b,b<m->g b<n){a:Nat}(l:a<n):∀c,kb5 f g m (kat kb3 f g m c) a∨c+1<=cnt n (kat kb3 f g m c) a
 | 0=>by
  right;have:(List.filter (fun _=>false) (List.range n)).length<cnt n (kat kb3 f g m 0) a:=qf0 (y:=a) _ (fun q h=>by cases h) (by simpa using l) rfl (by simp[kat,kb3]);omega
 | c+1=>by
  rcases q6j o l c with h | h
  . left
    intro b e d;rw[kat,q96 h m (nR _)]at d⊢;exact h b e d
  . by_cases k:kb5 f g m (kat kb3 f g m c) a
    . left
      intro b e d;rw[kat,q96 k m (nR _)]at d⊢;exact k b e d
    . right
      have:∃b,b<m/\kat kb3 f g m c a (f b)=true/\¬ kat kb3 f g m c a (g b)=true:=by
       apply Classical.byContradiction;intro p;exact k fun b e d=>Classical.byContradiction fun j=>p ⟨b,e,d,j⟩
      obtain⟨b,e,d,j⟩:=this;have:cnt n (kat kb3 f g m c) a<cnt n (kat kb3 f g m (c+1)) a :=
       qf0 (y:=g b) _ (fun q c=>qgl (i:=0) (by omega) c) (by simpa using o b e) (by simpa using j) (q97 e d)
      omega
theorem q4b (d:∀b,b<m->g b<n){a:Nat}(c:a<n):kb5 f g m (kat kb3 f g m n) a:=by
 rcases q6j (f:=f) (m:=m) d c n with b | b
 . exact b
 . have:cnt n (kat kb3 f g m n) a<=n:=by
    have:=List.length_filter_le (kat kb3 f g m n a) (List.range n);simpa [cnt] using this
   omega
def kb6 (u:Nat->Nat)(f g:Nat->Nat)(m:Nat):Prop:=∀x,x<32->∀y,(u x).testBit y=true ↔ ∃k,k<m/\f k=x/\g k=y
theorem qce {u:Nat->Nat}(i:kb6 u f g m)(e:∀b,b<m->f b<32){j:Nat->Nat->Bool}{a:Nat}(h:∀b,j a b=true->kaE u a b):∀d,d<=m->∀b,kdm j f g d a b=true->kaE u a b
 | 0,_,b,c=>h b c
 | d+1,hj,b,c=>by
  rw[kdm,upd]at c;simp only[Ze,Yh,Yk]at c;rcases c with c | ⟨rfl,c⟩
  . exact qce i e h d (by omega) b c
  . exact(qce i e h d (by omega) _ c).step (e d (by omega)) ((i _ (e d (by omega)) _).2 ⟨d,by omega,rfl,rfl⟩)
theorem q6k {u:Nat->Nat}(e:kb6 u f g m)(d:∀b,b<m->f b<32){a:Nat}:∀c b,kat kb3 f g m c a b=true->kaE u a b
 | 0,b,h=>by
  simp only[kat,kb3,Yk]at h;subst h;exact kaE.refl _ _
 | c+1,b,h=>qce e d (fun b i=>q6k e d c b i) m (nR _) b h
theorem q79 {u:Nat->Nat}(r:n<=32)(j:kb6 u f g m)(l:∀c,c<m->f c<n)(i:∀c,c<m->g c<n){a b:Nat}(h:a<n):kat kb3 f g m n a b=true ↔ kaE u a b:=by
 refine⟨q6k j (fun c d=>by have:=l c d;omega) n b,fun e=>?_⟩;refine(e (fun e=>e<n/\kat kb3 f g m n a e=true) ⟨h,q9d n (by simp[kb3])⟩ ?_).2;rintro e q ⟨s,k⟩ o p;obtain⟨c,d,rfl,rfl⟩:=(j e o q).1 p;exact⟨i c d,q4b i h c d k⟩
end
end Go.Proofs.YtenckgnkjkijnaaGreatDoor
namespace Go.Proofs.YtenckgnkjkijnaaGreatDoor
open Go Go.RowKit Go.Proofs.Tryz
def kaM:Value:=.agg #[.int .i64 0,.slice none 0 0,.slice none 0 0,.slice none 0 0,.int .i64 0,.int .i64 0]
def kcb (n:Nat)(g d:Nat->Nat)(R:Nat->Nat->Bool)(B:Nat)(e:Ending)(w':Tw):Prop :=
 ((∃a,a<n/\¬ kan (g a) (d a)=2 ^ a)/\e=.returned (.tuple #[kaM,J6 2])) ∨
 ((∀a,a<n->kan (g a) (d a)=2 ^ a)/\(∃a b,a<n/\b<n/\kbF g a b (-1))/\e=.returned (.tuple #[kaM,J6 3])) ∨
 ((∀a,a<n->kan (g a) (d a)=2 ^ a)/\(∃a b,a<n/\b<n/\kbF d a b (-1))/\(∃F:Nat->Int,∀a,a<n->∀b,b<n->0<=F (a*n+b)/\kbF g a b (F (a*n+b)))/\e=.returned (.tuple #[kaM,J6 4])) ∨
 ((∀a,a<n->kan (g a) (d a)=2 ^ a)/\∃G1 G2 G3 F1 F2 bot top,e=.returned (.tuple #[.agg #[J6 n,.slice (some ⟨G1,0,none⟩) (n*n) (n*n),.slice (some ⟨G2,0,none⟩) (n*n) (n*n),.slice (some ⟨G3,0,none⟩) (n*n) (n*n),J6 bot,J6 top],J6 0]) /\
  Blk w' G1 4 (bs (n*n) (kbO n R))/\Blk w' G2 3 (is (n*n) F1)/\Blk w' G3 3 (is (n*n) F2)/\B<=G1/\B<=G2/\B<=G3/\G1≠G2/\G1≠G3/\G2≠G3 /\
  (∀a,a<n->∀b,b<n->0<=F1 (a*n+b)/\kbF g a b (F1 (a*n+b)))/\(∀a,a<n->∀b,b<n->0<=F2 (a*n+b)/\kbF d a b (F2 (a*n+b)))/\kcT g (2 ^ n - 1) bot/\kcT d (2 ^ n - 1) top)
theorem qmy (c:Ta)(a:c.toList=us fun _=>0)(w:Tw):Blk (w.alloc (.cells c 237)) w.heap.size 237 (us fun _=>0):=a ▸ Blk.new w 237 c
theorem six {w:Tw}{b:Nat}{t:TypeId}{v u c d e f:Value}(a:Blk w b t [v,u,c,d,e,f]) :
 (w.cell? ⟨b,0,none⟩=some v/\w.cell? ⟨b,1,none⟩=some u/\w.cell? ⟨b,2,none⟩=some c/\w.cell? ⟨b,3,none⟩=some d/\w.cell? ⟨b,4,none⟩=some e/\w.cell? ⟨b,5,none⟩=some f) /\
 (w.frozen? ⟨b,0,none⟩=false/\w.frozen? ⟨b,1,none⟩=false/\w.frozen? ⟨b,2,none⟩=false/\w.frozen? ⟨b,3,none⟩=false/\w.frozen? ⟨b,4,none⟩=false/\w.frozen? ⟨b,5,none⟩=false) :=
 ⟨⟨a.cell 0,a.cell 1,a.cell 2,a.cell 3,a.cell 4,a.cell 5⟩,a.free 0,a.free 1,a.free 2,a.free 3,a.free 4,a.free 5⟩
theorem kdf {n:Nat}(a:n<=32):2 ^ n - 1<4294967296:=by
 have:2 ^ n<=2 ^ 32:=Zn (by omega) a;omega
def kfa (w':Tw)(B D A:Nat)(g d:Nat->Nat)(s:Nat):Prop:=Blk w' B 237 (us g)/\Blk w' D 237 (us d)/\Tab w'/\w'.rangeAt B 0 (us g)/\w'.rangeAt D 0 (us d)/\w'.cell? ⟨A,0,none⟩=some (.int .u32 (s:Int))/\A<w'.heap.size
theorem kfa.mono {w w':Tw}{B D A s:Nat}{g f:Nat->Nat}(a:kfa w B D A g f s)(b:Bw w w'):kfa w' B D A g f s :=
 have c:=a.1.mono b a.1.lt;have d:=a.2.1.mono b a.2.1.lt
 ⟨c,d,a.2.2.1.mono b,c.range,d.range,(b.cell (p:=⟨A,0,none⟩) a.2.2.2.2.2.2).trans a.2.2.2.2.2.1,Yn a.2.2.2.2.2.2 b.size⟩
theorem kfa.set {w:Tw}{B D A s n j:Nat}{g f:Nat->Nat}{v:Value}(b:kfa w B D A g f s)(i:B≠n)(k:D≠n)(h:A≠n)(e:1≠n):kfa (w.setCell ⟨n,j,none⟩ v) B D A g f s :=
 have c:=b.1.other (a:=⟨n,j,none⟩) v i;have d:=b.2.1.other (a:=⟨n,j,none⟩) v k
 ⟨c,d,b.2.2.1.at0 (heap_setCell_other _ _ _ _ e),c.range,d.range,(World.cell?_of_block (heap_setCell_other _ _ _ _ h)).trans b.2.2.2.2.2.1,by simpa using b.2.2.2.2.2.2⟩
theorem q3x (n:Nat)(g:Nat->Nat)(R:Nat->Nat->Bool)(w:Tw)(I:1<=n)(D:n<=32)(hg:kau g R)(ht:Tab w) :
 Calls prog 165 #[J6 n,.agg (us g).toArray] w fun d m=>Bw w m/\∃c,kau c (fun a b=>decide (b<n)&&R b a)/\kcb n g c R w.heap.size d m:=by
 have ad:∀b,b<32->g b<4294967296:=fun b e=>(hg b e).1;have B0:=(Blk.new w 237 (us g).toArray).alloc (.cells #[J6 0,J7,J7,J7,J6 0,J6 0] 123);have B1:=Blk.new (w.alloc (.cells (us g).toArray 237)) 123 #[J6 0,J7,J7,J7,J6 0,J6 0];have BW:Bw w ((w.alloc (.cells (us g).toArray 237)).alloc (.cells #[J6 0,J7,J7,J7,J6 0,J6 0] 123)):=((bR _ _).alloc (nR _) _).alloc (by simp) _;have BT:=ht.mono BW;simp only[Yp]at B1;obtain⟨V,H1,HW,M⟩:=oD B0 B1 BW BT;go_enter func165,ntmps165;go_wp2_with (refine q14 rfl _ rfl w.heap.size g rfl V ?_);refine(qdc g R n _ D hg M).mono ?_;rintro d x ⟨c,rfl,T,aa⟩;have ac:∀b,b<32->c b<4294967296:=fun b e=>(T b e).1;replace V:=mB V aa;replace H1:=mB H1 aa;replace HW:=mT HW aa;replace M:=h_ (M.mono aa);go_wp2_with (first | (refine q0r rfl _ _ rfl x.heap.size (fun _=>0) c rfl rfl (qmy _ rfl _) ?_;intro w2 h k l;have a:Bw x w2:=((bR _ x).alloc (nR _) _).grown k (by simp) (fun o d=>by cases d;exact nR _);have X0:=mB V a;have X1:=mB H1 a;have H:=mT HW a;have XT:=h_ (M.mono a);have XD:=h_ h;clear h k l a) | (refine q14 rfl _ rfl w.heap.size g rfl X0 ?_) | (refine q14 rfl _ rfl x.heap.size c rfl XD ?_));by_cases ae:∃b,b<n/\¬ kan (g b) (c b)=2 ^ b
 . refine cQ (q9w n g c _ D ad ac true ⟨fun _=>ae,fun _=>rfl⟩) fun w3 o=>?_;have N:=h_ ae;have Y0:=mB X0 o;have Y1:=mB X1 o;obtain⟨F,YT⟩:=oB (H.trans (o.mono H.size)) (XT.mono o);have YD:=mB XD o;obtain⟨⟨r0,r1,r2,r3,r4,r5⟩,q0,q1,q2,q3,q4,q5⟩:=six Y1;go_wp2;refine bodyPost_ret (v:=.tuple #[kaM,J6 2]) (by simp[results,results165,go_sem,kaM, *]) rfl ⟨?_,c,T,.inl ⟨N,rfl⟩⟩
   iterate 6 refine Below.setCell ?_ (by simp <;> omega) _
   exact F
 refine cQ (q9w n g c _ D ad ac false ⟨(fun a=>by cases a),fun a=>absurd a ae⟩) fun w3 o=>?_;have N:Hi (∀b,b<n->kan (g b) (c b)=2 ^ b):=fun b e=>Classical.byContradiction fun a=>ae ⟨b,e,a⟩;have Y0:=mB X0 o;have Y1:=mB X1 o;obtain⟨F,YT⟩:=oB (H.trans (o.mono H.size)) (XT.mono o);have YD:=mB XD o;go_wp2_with (refine q14 rfl _ rfl w.heap.size g rfl Y0 ?_);refine(qa9 n g _ I D ad YT).mono ?_;rintro d w4 ⟨t,(⟨y,F1,rfl,aB,aC,az⟩ | ⟨rfl,b⟩)⟩
 rotate_left
 . have e:=h_ b;clear b
   have Z0:=mB Y0 t;have G:=mB Y1 t;obtain⟨s,ZT⟩:=oB (F.trans (t.mono F.size)) (YT.mono t);have ZD:=mB YD t;obtain⟨⟨r0,r1,r2,r3,r4,r5⟩,q0,q1,q2,q3,q4,q5⟩:=six G;go_wp2;refine bodyPost_ret (v:=.tuple #[kaM,J6 3]) (by simp[results,results165,go_sem,kaM, *]) rfl ⟨?_,c,T,.inr (.inl ⟨N,e,rfl⟩)⟩
   iterate 6 refine Below.setCell ?_ (by simp <;> omega) _
   exact s
 have Z0:=mB Y0 t;have G:=mB Y1 t;obtain⟨s,ZT⟩:=oB (F.trans (t.mono F.size)) (YT.mono t);have ZD:=mB YD t;have g2:=Y5 F.size aC;obtain⟨W,ah⟩:=oB aB az;go_wp2_with (refine q14 rfl _ rfl x.heap.size c rfl ZD ?_);refine(qa9 n c _ I D ac ZT).mono ?_;rintro d w5 ⟨p,(⟨z,F2,rfl,aD,an,aA⟩ | ⟨rfl,b⟩)⟩
 rotate_left
 . have e:=h_ b;clear b
   have U0:=mB Z0 p;have U1:=mB G p;obtain⟨Y,UT⟩:=oB (s.trans (p.mono s.size)) (ZT.mono p);have UD:=mB ZD p;obtain⟨⟨r0,r1,r2,r3,r4,r5⟩,q0,q1,q2,q3,q4,q5⟩:=six U1;go_wp2;refine bodyPost_ret (v:=.tuple #[kaM,J6 4]) (by simp[results,results165,go_sem,kaM, *]) rfl ⟨?_,c,T,.inr (.inr (.inl ⟨N,e,⟨F1,ah⟩,rfl⟩))⟩
   iterate 6 refine Below.setCell ?_ (by simp <;> omega) _
   exact Y
 have U0:=mB Z0 p;have U1:=mB G p;obtain⟨Y,UT⟩:=oB (s.trans (p.mono s.size)) (ZT.mono p);have UD:=mB ZD p;have g3:=Y5 s.size an;have aH:y<z:=Yn W.lt an;replace W:=mB W p;obtain⟨au,aq⟩:=oB aD aA;go_wp2_with (go_at_call 201;refine cQ (qn4 n _ D) fun r b=>?_;have V0:=mB U0 b;have V1:=mB U1 b;have VW:=h_ (Y.trans (b.mono Y.size));have VT:=h_ (UT.mono b);have VD:=mB UD b;have ai:=mB W b;have aj:=mB au b;clear b);have bA:=Blk.new r 235 (#[.int .u32 ((2 ^ n - 1:Nat):Int)]);have A:Bw r (r.alloc (.cells (#[.int .u32 ((2 ^ n - 1:Nat):Int)]) 235)):=(bR _ _).alloc (nR _) _;have X:Hi (kfa (r.alloc (.cells (#[.int .u32 ((2 ^ n - 1:Nat):Int)]) 235)) w.heap.size x.heap.size r.heap.size g c (2 ^ n - 1)) :=
  have b:=V0.mono A V0.lt;have I:=VD.mono A VD.lt
  ⟨b,I,VT.mono A,b.range,I.range,bA.cell 0,bA.lt⟩
 have af:=kdf D;obtain⟨q,hm⟩:=Nq (2 ^ n - 1);rw[hm]at af X⊢;rw[hm]at A;have HM:=h_ hm;obtain⟨Z,aE⟩:=Nq (r.alloc (.cells #[.int .u32 (q:Int)] 235));rw[aE]at X A⊢;have G:=mB V1 A;have s:=h_ (VW.trans (A.mono VW.size));have ak:=mB ai A;have al:=mB aj A;have e:¬ w.heap.size=w.heap.size+1:=by omega
 have h:x.heap.size≠w.heap.size+1:=fun d=>by have a:=VD.u;rw[d]at a;have P:=a.symm.trans V1;simp at P
 have k:r.heap.size≠w.heap.size+1:=by have:=V1.lt;omega
 have l:¬ 1=w.heap.size+1:=by first | omega | (have:=M.pos;omega) | (have:=ht.pos;omega)
 have n5:y≠w.heap.size+1:=fun d=>by have a:=ai.u;rw[d]at a;have P:=a.symm.trans V1;simp at P
 have n6:z≠w.heap.size+1:=fun d=>by have a:=aj.u;rw[d]at a;have P:=a.symm.trans V1;simp at P
 have s7:w.heap.size<=Z.heap.size:=s.size;have l2:=ak.lt;have l3:=al.lt;have l1:=G.lt;refine wp_region_held_drew (S:=fun m=>kfa m w.heap.size x.heap.size r.heap.size g c q) (by kernel_rfl) X (fun C=>?_);refine take (i:=0) (v:=J6 n) 39 rfl rfl (by kernel_rfl) (by kernel_rfl) (by kernel_rfl) (fun _ _ _ _ a=>a) (by exact qa0 (by rfl) (.tmp 0) _ rfl rfl) C ?_;simp only[sX,sY,sZ];refine take (i:=2) (v:=J6 n) 41 rfl rfl (by kernel_rfl) (by kernel_rfl) (by kernel_rfl) (fun _ _ _ _ a=>a) (by exact qa0 (by rfl) (.tmp 0) _ rfl rfl) C ?_;simp only[sX,sY,sZ];refine take (i:=4) (v:=.slice (some ⟨y,0,none⟩) (n*n) (n*n)) 43 rfl rfl (by kernel_rfl) (by kernel_rfl) (by kernel_rfl) (fun _ _ _ _ a=>a) (by exact qa0 (by rfl) (.tmp 7) _ rfl rfl) C ?_;simp only[sX,sY,sZ];refine take (i:=5) (v:=.slice (some ⟨z,0,none⟩) (n*n) (n*n)) 44 rfl rfl (by kernel_rfl) (by kernel_rfl) (by kernel_rfl) (fun _ _ _ _ a=>a) (by exact qa0 (by rfl) (.tmp 9) _ rfl rfl) C ?_;simp only[sX,sY,sZ];refine take (i:=1) (v:=.agg (us g).toArray) 40 rfl rfl (by kernel_rfl) (by kernel_rfl) (by kernel_rfl) (fun _ _ _ _ a=>a) (by exact qa1 (by rfl) (.tmp 3) rfl w.heap.size g rfl (fun _ a=>a.1)) C ?_;simp only[sX,sY,sZ];refine take (i:=6) (v:=.agg (us g).toArray) 45 rfl rfl (by kernel_rfl) (by kernel_rfl) (by kernel_rfl) (fun _ _ _ _ a=>a) (by exact qa1 (by rfl) (.tmp 3) rfl w.heap.size g rfl (fun _ a=>a.1)) C ?_;simp only[sX,sY,sZ];refine take (i:=9) (v:=.agg (us c).toArray) 48 rfl rfl (by kernel_rfl) (by kernel_rfl) (by kernel_rfl) (fun _ _ _ _ a=>a) (by exact qa1 (by rfl) (.tmp 6) rfl x.heap.size c rfl (fun _ a=>a.2.1)) C ?_;simp only[sX,sY,sZ];refine take (i:=7) (v:=.agg #[.int .u32 (q:Int)]) 46 rfl rfl (by kernel_rfl) (by kernel_rfl) (by kernel_rfl) (fun _ _ _ _ a=>a) (by exact qdm (by rfl) (.tmp 10) rfl r.heap.size 0 _ rfl (fun _ a=>a.2.2.2.2.2.1)) C ?_;simp only[sX,sY,sZ];refine take (i:=10) (v:=.agg #[.int .u32 (q:Int)]) 49 rfl rfl (by kernel_rfl) (by kernel_rfl) (by kernel_rfl) (fun _ _ _ _ a=>a) (by exact qdm (by rfl) (.tmp 10) rfl r.heap.size 0 _ rfl (fun _ a=>a.2.2.2.2.2.1)) C ?_;simp only[sX,sY,sZ];refine kfY (i:=3) (f:=202) (args:=#[.agg (us g).toArray,J6 n]) (R:=fun E L=>∃b,E=.slice (some ⟨b,0,none⟩) (n*n) (n*n)/\Blk L b 4 (bs (n*n) (kbO n R))/\Z.heap.size<=b/\Bw Z L) 42 rfl rfl (by rfl) (by kernel_rfl) ?hrun1 ((qhk n g R _ I D hg).mono fun d L ⟨b,U,J,am,K⟩=>⟨_,U,b,rfl,J,am,q36 K⟩) ?_
 case hrun1=>simp[execOp,go_sem]
 rintro E L ⟨b,rfl,J,am,K⟩;have S1:kfa L w.heap.size x.heap.size r.heap.size g c q:=X.mono K;refine⟨S1,?_⟩;simp only[sX,sY,sZ];refine kfY (i:=8) (f:=203) (args:=#[.agg (us g).toArray,.agg #[.int .u32 (q:Int)]]) (R:=fun E m=>∃B,E=J6 B/\kcT g q B/\Bw L m) 47 rfl rfl (by rfl) (by kernel_rfl) ?hrun2 ((q8n g q _ ad af S1.2.2.1).mono fun d m ⟨B,U,hr,hb⟩=>⟨_,U,B,rfl,hr,hb⟩) ?_
 case hrun2=>simp[execOp,go_sem]
 rintro E w9 ⟨O,rfl,aF,Q⟩;have S2:=S1.mono Q;refine⟨S2,?_⟩;simp only[sX,sY,sZ];refine kfY (i:=11) (f:=203) (args:=#[.agg (us c).toArray,.agg #[.int .u32 (q:Int)]]) (R:=fun E m=>∃B,E=J6 B/\kcT c q B/\Bw w9 m) 50 rfl rfl (by rfl) (by kernel_rfl) ?hrun3 ((q8n c q _ ac af S2.2.2.1).mono fun d m ⟨B,U,hr,hb⟩=>⟨_,U,B,rfl,hr,hb⟩) ?_
 case hrun3=>simp[execOp,go_sem]
 rintro E ao ⟨top,rfl,aG,ag⟩;have B:=S2.mono ag;refine⟨B,?_⟩;simp only[sX,sY,sZ];have U:Bw Z ao:=(K.trans (Q.mono K.size)).trans (ag.mono (Y5 K.size Q.size));have X1:=G.mono U l1;obtain⟨⟨r0,r1,r2,r3,r4,r5⟩,q0,q1,q2,q3,q4,q5⟩:=six X1;refine take (i:=12) (v:=.agg #[J6 n,.slice (some ⟨b,0,none⟩) (n*n) (n*n),.slice (some ⟨y,0,none⟩) (n*n) (n*n),.slice (some ⟨z,0,none⟩) (n*n) (n*n),J6 O,J6 top]) 51 rfl rfl (by kernel_rfl) (by kernel_rfl) (by kernel_rfl) (fun _ _ _ _ a=>a) (.inl ⟨by rfl,fun m _=>?build⟩) B ?_
 case build=>simp[execOp,go_sem]
 simp only[sX,sY,sZ];refine runH (i:=13) rfl (by rfl) (by kernel_rfl) rfl (v:=.skip) (w':=(((((ao.setCell ⟨w.heap.size+1,0,none⟩ (J6 n)).setCell ⟨w.heap.size+1,1,none⟩ (.slice (some ⟨b,0,none⟩) (n*n) (n*n))).setCell ⟨w.heap.size+1,2,none⟩ (.slice (some ⟨y,0,none⟩) (n*n) (n*n))).setCell ⟨w.heap.size+1,3,none⟩ (.slice (some ⟨z,0,none⟩) (n*n) (n*n))).setCell ⟨w.heap.size+1,4,none⟩ (J6 O)).setCell ⟨w.heap.size+1,5,none⟩ (J6 top)) ?hrun4 rfl ((((((B.set e h k l).set e h k l).set e h k l).set e h k l).set e h k l).set e h k l) ?_
 case hrun4=>simp[execOp,go_sem, *]
 have S4:=(((((B.set (j:=0) (v:=J6 (n:Int)) e h k l).set (j:=1) (v:=.slice (some ⟨b,0,none⟩) (n*n) (n*n)) e h k l).set (j:=2) (v:=.slice (some ⟨y,0,none⟩) (n*n) (n*n)) e h k l).set (j:=3) (v:=.slice (some ⟨z,0,none⟩) (n*n) (n*n)) e h k l).set (j:=4) (v:=J6 O) e h k l).set (j:=5) (v:=J6 top) e h k l;refine take (i:=14) (v:=J6 0) 5 rfl rfl (by kernel_rfl) (by kernel_rfl) (by kernel_rfl) (fun _ _ _ _ a=>a) (.inl ⟨by rfl,fun m _=>?asg⟩) S4 ?_
 case asg=>simp[execOp,go_sem]
 simp only[sX,sY,sZ];refine wdQ ?_;obtain⟨ax,ay⟩:=oB (ak.mono U l2) (al.mono U l3);obtain⟨aw,H⟩:=oB ((J.mono Q J.lt).mono ag (J.mono Q J.lt).lt) (s.trans (U.mono s7));obtain⟨ap,av⟩:=oB aF aG;have n7:b≠w.heap.size+1:=by omega
 have n8:b≠y:=by omega
 have n9:b≠z:=by omega
 go_wp2;refine bQ (v:=.tuple #[.agg #[J6 n,.slice (some ⟨b,0,none⟩) (n*n) (n*n),.slice (some ⟨y,0,none⟩) (n*n) (n*n),.slice (some ⟨z,0,none⟩) (n*n) (n*n),J6 O,J6 top],J6 0]) ⟨?_,c,T,.inr (.inr (.inr ⟨N,b,y,z,F1,F2,O,top,rfl,?_,?_,?_,by omega,g2,g3,n8,n9,by omega,ah,aq,by rw[HM.u];exact ap,by rw[HM.u];exact av⟩))⟩
 . iterate 6 refine Below.setCell ?_ (by simp <;> omega) _
   exact H
 . iterate 6 refine Blk.other ?_ _ (by simp <;> omega)
   exact aw
 . iterate 6 refine Blk.other ?_ _ (by simp <;> omega)
   exact ax
 . iterate 6 refine Blk.other ?_ _ (by simp <;> omega)
   exact ay
def JF (F:Nat->Bool)(n i:Nat):Int:=kbu (ka3 F n (i / n) (i % n)) n
def MF (F:Nat->Bool)(n i:Nat):Int:=kbu (ka4 F n (i / n) (i % n)) n
def kdL (F:Nat->Bool)(n:Nat):Prop:=∃a b,a<n/\b<n/\a≠b/\F (a*n+b)=true/\F (b*n+a)=true
def kbz (p:Nat->Bool):Nat->Int
 | 0=>0
 | k+1=>if p k then (k:Int) else kbz p k
def kaA (F:Nat->Bool)(n m c:Nat):Bool:=(List.range m).all fun d=>F (c*n+d)
def kaB (F:Nat->Bool)(n m c:Nat):Bool:=(List.range m).all fun d=>F (d*n+c)
theorem q35 (F:Nat->Bool)(n m c:Nat):kaA F n (m+1) c=(kaA F n m c&&F (c*n+m)):=by simp[kaA,List.range_succ]
theorem q33 (F:Nat->Bool)(n m c:Nat):kaB F n (m+1) c=(kaB F n m c&&F (m*n+c)):=by simp[kaB,List.range_succ]
def kce (n:Nat)(F:Nat->Bool)(e:Ending)(w':Tw):Prop :=
 (kdL F n/\e=.returned (.tuple #[kaM,J6 2])) ∨
 (¬ kdL F n/\(∃i,i<n*n/\JF F n i<0)/\e=.returned (.tuple #[kaM,J6 3])) ∨
 (¬ kdL F n/\(∀i,i<n*n->0<=JF F n i)/\(∃i,i<n*n/\MF F n i<0)/\e=.returned (.tuple #[kaM,J6 4])) ∨
 (¬ kdL F n/\(∀i,i<n*n->0<=JF F n i)/\(∀i,i<n*n->0<=MF F n i)/\∃a1 a2 a3 c1 c2 c3,e=.returned (.tuple #[.agg (Ji n a1 (n*n) c1 a2 c2 a3 c3 (kbz (kaA F n n) n) (kbz (kaB F n n) n)),J6 0]) /\
  ka1 w' a1 (n*n) F/\kbx w' a2 (n*n) (JF F n)/\kbx w' a3 (n*n) (MF F n))
theorem kcH {w:Tw}{b:Nat}{t:TypeId}{v u c d e f:Value}(a:Blk w b t [v,u,c,d,e,f]) :
 (w.cell? ⟨b,0,none⟩=some v/\w.cell? ⟨b,1,none⟩=some u/\w.cell? ⟨b,2,none⟩=some c/\w.cell? ⟨b,3,none⟩=some d/\w.cell? ⟨b,4,none⟩=some e/\w.cell? ⟨b,5,none⟩=some f)/\(w.frozen? ⟨b,0,none⟩=false/\w.frozen? ⟨b,1,none⟩=false/\w.frozen? ⟨b,2,none⟩=false/\w.frozen? ⟨b,3,none⟩=false/\w.frozen? ⟨b,4,none⟩=false/\w.frozen? ⟨b,5,none⟩=false) :=
 ⟨⟨a.cell 0,a.cell 1,a.cell 2,a.cell 3,a.cell 4,a.cell 5⟩,⟨a.free 0,a.free 1,a.free 2,a.free 3,a.free 4,a.free 5⟩⟩
theorem qa7 {B R:Nat}{w w':Tw}(h:Below B w w')(a:B<=R)(b c d e f g:Value):Below B w ((((((w'.setCell ⟨R,0,none⟩ b).setCell ⟨R,1,none⟩ c).setCell ⟨R,2,none⟩ d).setCell ⟨R,3,none⟩ e).setCell ⟨R,4,none⟩ f).setCell ⟨R,5,none⟩ g) :=
 (((((h.setCell (p:=⟨R,0,none⟩) a b).setCell (p:=⟨R,1,none⟩) a c).setCell (p:=⟨R,2,none⟩) a d).setCell (p:=⟨R,3,none⟩) a e).setCell (p:=⟨R,4,none⟩) a f).setCell (p:=⟨R,5,none⟩) a g
theorem q4e (N:Int)(a:To)(m c:Nat)(w:Tw)(h:∀b,Bw w b->Gv 124 #[.agg (Jn N a m c)] b (.bool false)) :
 Gv 87 #[.agg (Jn N a m c)] w (.tuple #[kaM,J6 1]):=by
 obtain⟨d,f⟩:=oB (by simpa using Blk.new (w.alloc (.cells (Jn N a m c) 162)) 123 #[J6 0,J7,J7,J7,J6 0,J6 0]:Blk ((w.alloc (.cells (Jn N a m c) 162)).alloc (.cells #[J6 0,J7,J7,J7,J6 0,J6 0] 123)) (w.heap.size+1) 123 [J6 0,J7,J7,J7,J6 0,J6 0]) ((Blk.new w 162 (Jn N a m c)).alloc (.cells #[J6 0,J7,J7,J7,J6 0,J6 0] 123));have b:Hi (Bw w ((w.alloc (.cells (Jn N a m c) 162)).alloc (.cells #[J6 0,J7,J7,J7,J6 0,J6 0] 123))):=((bR _ w).alloc (nR _) _).alloc (by simp) _;go_enter func87,ntmps87;go_wp2_with fail;refine cQ (h _ b) fun x e=>?_;replace d:=mB d e;replace f:=mB f e;replace b:=mT b e;obtain⟨⟨p,q,r,s,t,u⟩,⟨i,j,k,l,n,o⟩⟩:=kcH d;have g:=h_ (qa7 b (Vq _) (J6 0) J7 J7 J7 (J6 0) (J6 0));go_wp2;refine bodyPost_ret (v:=.tuple #[kaM,J6 1]) (by simp[results,results87,go_sem,kaM, *]) rfl ⟨?_,g⟩;rfl
