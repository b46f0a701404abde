import Derived.Test.YtmdjbldpclbkhaaGreatDoorW07
import Derived.Test.YtmdjbldpclbkhaaGreatDoorW06
import Derived.Test.YtmdjbldpclbkhaaGreatDoorW10
import Derived.Deep.AppendLies
set_option linter.all false
set_option maxRecDepth 100000
set_option maxHeartbeats 0
namespace Go.Proofs.YtmdjbldpclbkhaaGreatDoor
open Value renaming slice->Sl,string->St,bool->Bo
open Obj renaming cells->Cl
open Ending renaming returned->Rt
section
open Go Go.RowKit Go.Proofs.Tryz
def kbs (w:Tw)(a:To)(n:Nat)(f:Nat->Nat):Prop :=
 ∀k,k<n->f k<256/\∃b off,a=some ⟨b,off,none⟩/\b<w.1.size/\w.cell? ⟨b,off+k,none⟩=some (.int .u8 (f k))
def kbs.mono {w w':Tw}{a:To}{n:Nat}{f:Nat->Nat}(h:kbs w a n f)(c:Bw w w'):kbs w' a n f:=λe k=>by obtain⟨i,b,g,rfl,d,j⟩:=h e k;exact⟨i,b,g,rfl,Y5 d c.size,(c.cell (p:=⟨b,g+e,none⟩) d).trans j⟩
def qod (n:Nat)(a:n<4294967296):IntKind.i64.wrap (n:Int)=(n:Int):=by simp[IntKind.wrap,IntKind.bits,IntKind.signed];omega
def qoe (s t:Nat)(c:s<2 ^ 32)(d:t<2 ^ 32):bits .xor .i64 (s:Int) (t:Int)=((s ^^^ t:Nat):Int):=by have a:s % 2 ^ 64=s:=Z9 fP;have b:t % 2 ^ 64=t:=Z9 fP;have e:s ^^^ t<2 ^ 32:=Nat.xor_lt_two_pow c d;show IntKind.i64.wrap ((BitVec.ofInt 64 (s:Int) ^^^ BitVec.ofInt 64 (t:Int)).toNat:Int)=_;rw[BitVec.toNat_xor,BitVec.ofInt_natCast,BitVec.ofInt_natCast,BitVec.toNat_ofNat,BitVec.toNat_ofNat,a,b];exact qod _ fP
def tkD (len:Nat)(f:Nat->Nat)(p n:Nat):Nat :=
 if len=0 then 0 else if p<len then f p % n else
  ((f (p % len)*131+f ((p*7+3) % len)*17+p*29+p / len*53) ^^^ ((f (p % len)*131+f ((p*7+3) % len)*17+p*29+p / len*53) / 64)) % 9973 % n
def q9n (a:Nat)(f:Nat->Nat)(p n:Nat)(T:a<=1048576)(G:p<=1048576)(U:1<=n)(W:n<=1048576):∃b:Nat,b=tkD a f p n/\b<n/\∀(e:Tw) (g:To) (i:Nat),kbs e g a f -> Calls prog 14 #[Sl g a i,Yf p,Yf n] e λo c=>o=Rt (.tuple (Jv b ((p+1:Nat):Int)))/\c=e:=by have V:¬ (n:Int)<1:=fP;by_cases q:a=0;{subst q;refine⟨0,by rw[tkD,Y6 rfl],fP,λe g i _=>?_⟩;go_enter func14,ntmps14;go_wp2;exact bQ (v:=.tuple #[Yf 0,Yf ((p:Int)+1)]) ⟨fT,rfl⟩};by_cases r:p<a;{refine⟨f p % n,by rw[tkD,Y2 q,Y6 r],Gl _ fP,λe g i d=>?_⟩;obtain⟨c,C,H,rfl,F,b⟩:=d p r;clear d;go_enter func14,ntmps14;go_wp2;exact bQ (v:=.tuple (Jv ((f p:Int) % n) ((p:Int)+1))) ⟨fT,rfl⟩};have A:p % a<a:=Gl _ fP;have B:(p*7+3) % a<a:=Gl _ fP;obtain⟨x,k⟩:=Nq (p % a);obtain⟨y,l⟩:=Nq ((p*7+3) % a);rw[k]at A;rw[l]at B;have N:(p:Int) % a=x:=(by rw[<- k];rfl);have O:((p:Int)*7+3) % a=y:=(by rw[<- l];simp);obtain⟨u,s⟩:=Nq (f x);obtain⟨w,t⟩:=Nq (f y);obtain⟨h,j⟩:=Nq (p / a);obtain⟨b,z⟩:=Nq (u*131+w*17+p*29+h*53);obtain⟨c,m⟩:=Nq (b ^^^ (b / 64));refine⟨c % 9973 % n,by rw[tkD,Y2 q,Y2 r,k,l,s,t,j,z,m],Gl _ fP,λe g i d=>?_⟩;obtain⟨I,C,H,rfl,F,D⟩:=d _ A;obtain⟨J,K,X,o,-,E⟩:=d _ B;cases o;clear d;rw[s]at I D;rw[t]at J E;have L:h<=1048576:=(by rw[<- j];exact Yx (Gi _ _) G);have d:b<2 ^ 32:=fP;have S:c<2 ^ 32:=(by rw[<- m];exact Nat.xor_lt_two_pow d (Nat.lt_of_le_of_lt (Gi _ _) d));have M:(p:Int) / a=h:=(by rw[<- j];rfl);have P:(u:Int)*131+w*17+p*29+h*53=b:=fP;have Q:bits .xor .i64 (b:Int) ((b:Int) / 64)=c:=(by rw[<- m,show(b:Int) / 64=((b / 64:Nat):Int) from rfl];exact qoe _ _ d (Nat.lt_of_le_of_lt (Gi _ _) d));have R:((c:Int).tmod 9973).tmod n=(c % 9973 % n:Nat):=rfl;clear k l s t z j m;go_enter func14,ntmps14;go_wp2;exact bQ (v:=.tuple (Jv ((c:Int) % 9973 % n) ((p:Int)+1))) ⟨fT,rfl⟩
def qse {k p n:Nat}{f:Nat->Nat}(d:k<=1048576)(e:p<=1048576)(g:1<=n)(h:n<=1048576):tkD k f p n<n/\∀(b:Tw) (a:To) (c:Nat),kbs b a k f -> Calls prog 14 #[Sl a k c,Yf p,Yf n] b λa c=>a=Rt (.tuple (Jv (tkD k f p n) ((p+1:Nat):Int)))/\c=b:=by obtain⟨c,a,b⟩:=q9n k f p n d e g h;subst a;exact b
def qsd {k p n:Nat}{f:Nat->Nat}(h:k<=1048576)(i:p<=1048576)(j:1<=n)(l:n<=1048576){w:Tw}{a:To}(c:Nat)(m:kbs w a k f){P M:Int}(q:P=p)(o:M=n):Calls prog 14 #[Sl a k c,Yf P,Yf M] w λb d=>b=Rt (.tuple (Jv (tkD k f p n) (P+1)))/\d=w:=by subst q o;exact((qse (f:=f) h i j l).2 w a c m).mono λb d ⟨e,g⟩=>⟨by rw[e];rfl,g⟩
def kaC {k p n:Nat}{f:Nat->Nat}(a:k<=1048576)(b:p<=1048576)(c:1<=n)(d:n<=1048576):tkD k f p n<n:=(qse (f:=f) a b c d).1
def q9m (e b lo hi:Nat)(a:To)(c:Nat)(w:Tw)(g:e<=1048576)(n:1<=b)(p:b<=1000)(m:lo<=1000)(l:hi<=1000):Calls prog 16 #[Sl a e c,Yf b,Yf lo,Yf hi] w λd f=>d=Rt (Yf (min (lo+e / b) hi:Nat))/\f=w:=by obtain⟨d,f⟩:=Nq (e / b);have i:d<=1048576:=(by rw[<- f];exact Yx (Gi _ _) g);have j:(e:Int) / b=d:=(by rw[<- f];rfl);have k:(e:Int).tdiv b=d:=(by rw[<- f];rfl);have o:¬ (b:Int)=0:=fP;rw[f];clear f;by_cases h:hi<lo+d;{have f:(hi:Int)<lo+d:=fP;rw[Nat.min_eq_right fP];go_enter func16,ntmps16;go_wp2;all_goals first | omega | (go_ret;exact⟨rfl,rfl⟩)};have f:¬ (hi:Int)<lo+d:=fP;rw[Gh fP];go_enter func16,ntmps16;go_wp2;all_goals first | omega | (go_ret;exact⟨fT,rfl⟩)
def upd (T:Nat->Nat->Bool)(lo hi:Nat):Nat->Nat->Bool:=λa b=>T a b||(decide (b=hi)&&T a lo)
def kbQ (T:Nat->Nat->Bool)(lo hi k:Nat):Nat->Nat->Bool:=λa b=>T a b||(decide (a<k)&&(decide (b=hi)&&T a lo))
def pass (T:Nat->Nat->Bool)(f g:Nat->Nat):Nat->Nat->Nat->Bool
 | 0=>T
 | j+1=>upd (pass T f g j) (f j) (g j)
def kaq (T:Nat->Nat->Bool)(f g:Nat->Nat)(m:Nat):Nat->Nat->Nat->Bool
 | 0=>T
 | r+1=>pass (kaq T f g m r) f g m
def kbW:Nat->Nat->Bool:=λa b=>decide (a=b)
def qfx {n:Nat}{c T':Nat->Nat->Bool}(e:∀a b,a<n->b<n->c a b=T' a b):bs (n*n) (kbB n c)=bs (n*n) (kbB n T'):=by unfold bs;refine Z7 λg f=>?_;have a:g<n*n:=Zf.1 f;have b:0<n:=Nat.pos_of_ne_zero λd=>(by subst d;simp at a);unfold kbB;rw[e _ _ (by rw[Nat.div_lt_iff_lt_mul b];exact a) (Gl _ b)]
def qsc {n a b:Nat}(e:Nat->Nat->Bool)(i:b<n):(bs (n*n) (kbB n e)).set (a*n+b) (Bo true)=bs (n*n) (kbB n λc d=>e c d||(decide (c=a)&&decide (d=b))):=by refine qab (by simp[qc2]) λc g=>?_;rw[List.getElem?_set];by_cases d:a*n+b=c;{subst d;rw[Y6 rfl,Y6 (by rw[qc2];exact g),qsb _ i];simp};rw[Y2 d];have j:(decide (c / n=a)&&decide (c % n=b))=false:=(by rw[Bool.and_eq_false_iff,Vn,Vn];by_cases f:c / n=a;{right;intro h;apply d;have:=Nat.div_add_mod c n;rw[f,h,Nat.mul_comm]at this;exact this};exact .inl f);simp only[bs,kbB,j,Bool.or_false];simp[g]
def q2t (n:Nat)(a:To)(m c:Nat)(f g:Nat->Nat)(w:Tw)(h1:1<=n)(Q:n<=32)(hm:m<=256)(v:kbd w a m (λb=>(f b:Int)) (λb=>(g b:Int)))(hf:∀b,b<m->f b<n)(hg:∀b,b<m->g b<n):Calls prog 26 #[.agg (Jt n a m c)] w λs e=>∃d,s=Rt (Sl (some ⟨d,0,none⟩) (n*n) (n*n))/\Blk e d 4 (bs (n*n) (kbB n (kaq kbW f g m n)))/\w.1.size<=d/\Bw w e:=by obtain⟨E,h,C,D,F⟩:=info_parts qdo;have q1:(n:Int)*n<=1024:=(by rw[<- Zq];have:=kc3 Q;omega);have q0:0<=(n:Int)*n:=(by rw[<- Zq];omega);have q2:=kc3 Q;have A:E.bytes*(n*n)<=281474976710656:=(by rw[F];omega);have hC:((n:Int)*n)=((n*n:Nat):Int):=fT;have M:=h_ hC;clear hC;have d:Bw w (w.alloc (Cl (Jt n a m c) 40)):=(bR _ _).alloc (nR _) _;have l:=Blk.new w 40 (Jt n a m c);have q:=v.mono d;have H:(w.alloc (Cl (Jt n a m c) 40)).1.size=w.1.size+1:=fT;go_enter func26,ntmps26;go_wp2_with (at_make;refine wpList_make_full _ rfl (.tmp 15) (.tmp 15) 33 rfl (w.1.size+1) 4 E (Bo false) 1 underlying33 h C D .i64 .i64 _ _ (n*n) rfl rfl M M A fZ fT ?_;intro K k B);rw[H]at k;(try rw[H]);have z:Below (w.1.size+1) (w.alloc (Cl (Jt n a m c) 40)) K:=(bR _ _).grown B fT (λb s=>by cases s);have p:=Blk.of_owns k;have t:Blk K (w.1.size+1) 4 (bs (n*n) (kbB n λe i=>decide (e=i)&&decide (e<0))):=(by have s:List.replicate (n*n) (Value.bool false)=bs (n*n) (kbB n λe i=>decide (e=i)&&decide (e<0)):=(by refine qab fT λr U=>?_;simp[kbB,U]);have j:Blk K (w.1.size+1) 4 (madeCells #[Bo false] (n*n)).toList:=(by simpa [Value.cells] using p);rw[toList_madeCells_one]at j;rw[<- s];exact j);obtain⟨o,j,W,L,X⟩:=oG t z d l q;clear k B p t z A h C D F d l q v;generalize d:w.alloc (Cl (Jt n a m c) 40)=D at *;clear d;have af:n*n<=1024:=q2;have aa:D.1.size<=w.1.size+1:=(by rw[H];exact nR _);go_loopw [5] (λq wr=>∃b:Nat,b<=n/\q=Yf b/\Blk wr (w.1.size+1) 4 (bs (n*n) (kbB n λe i=>decide (e=i)&&decide (e<b)))/\Below (w.1.size+1) D wr) (λq _=>n - (intOf q).toNat);exact⟨0,nZ _,rfl,o,j⟩;clear o j;obtain⟨b,t,rfl,p,z⟩:=hrel;obtain⟨o,j⟩:=oB p z;by_cases d:b<n;{have E:=kbD (n:=n) (x:=b) (y:=b) fP fP;have B:0<=(b:Int)*n:=gu;have C:(b:Int)*n+b<((n*n:Nat):Int):=gu;have F:(b:Int)*n<=1024:=gu;have l:=p.cell (b*n+b);have A:=p.free (b*n+b);have k:(bs (n*n) (kbB n λe i=>decide (e=i)&&decide (e<b)))[b*n+b]? = some (Bo false):=(by simp only[bs,Zr,Gu E,Option.map_some,qsb _ d];simp);rw[k]at l;clear p z k;go_wp2;go_roundw;{refine⟨b+1,fP,fX,?_,j.setCell (nR _) _⟩;have k:=o.set (b*n+b) (Bo true);rw[qsc _ d]at k;have s:bs (n*n) (kbB n λe i=>(decide (e=i)&&decide (e<b))||(decide (e=b)&&decide (i=b)))=bs (n*n) (kbB n λe i=>decide (e=i)&&decide (e<b+1)):=qfx λe i I v=>(by rw[Vh];simp only[Vg,Yw,Yu];omega);rw[s]at k;exact k};simp[intOf];omega};obtain rfl:b=n:=fP;clear p z d t;have C:Hi (Blk wr (w.1.size+1) 4 (bs (b*b) (kbB b (kaq kbW f g m 0)))):=(by have k:=o.u;have s:bs (b*b) (kbB b λe i=>decide (e=i)&&decide (e<b))=bs (b*b) (kbB b (kaq kbW f g m 0)):=qfx λe i I v=>(by simp only[kaq,kbW];rw[Vh];simp only[Yw,Yu];omega);rw[s]at k;exact k);clear o;go_wp2;go_loopw [6] (λq A=>∃v:Nat,v<=b/\q=Yf v/\Blk A (w.1.size+1) 4 (bs (b*b) (kbB b (kaq kbW f g m v)))/\Below (w.1.size+1) D A) (λq _=>b - (intOf q).toNat);exact⟨0,nZ _,rfl,C,j⟩;clear C j;obtain⟨v,hr,rfl,p,z⟩:=hrel;obtain⟨o,j⟩:=oB p z;clear p z;by_cases ae:v<b;{go_wp2_with fail;have C:Hi (Blk wr (w.1.size+1) 4 (bs (b*b) (kbB b (pass (kaq kbW f g m v) f g 0)))):=o.u;clear o;go_loopw [7] (λq A=>∃r:Nat,r<=m/\q=Yf r/\Blk A (w.1.size+1) 4 (bs (b*b) (kbB b (pass (kaq kbW f g m v) f g r)))/\Below (w.1.size+1) D A) (λq _=>m - (intOf q).toNat);exact⟨0,nZ _,rfl,C,j⟩;obtain⟨r,U,rfl,p,z⟩:=hrel;obtain⟨o,j⟩:=oB p z;obtain⟨t,B⟩:=Nq (pass (kaq kbW f g m v) f g r);rw[B]at o;have O:=h_ B;by_cases G:r<m;{have Y:=X.mono (j.mono aa);obtain⟨ac,ag,rfl,hl,R,S⟩:=Y r G;dsimp only at R S;have P:=hf r G;have F:=hg r G;obtain⟨l,V⟩:=Nq (f r);obtain⟨h,T⟩:=Nq (g r);rw[V]at R P;rw[T]at S F;have N:=h_ (And.intro V T);have J:=(L.mono j (Gr _)).cell 1;simp only[Y3,Yp]at J;go_wp2_with fail;have C:Hi (Blk wr (w.1.size+1) 4 (bs (b*b) (kbB b (kbQ t l h 0)))):=(by have k:=o.u;rw[qfx (T':=kbQ t l h 0) λe i _ _=>by simp[kbQ]]at k;exact k);go_loopw [10] (λq A=>∃d:Nat,d<=b/\q=Yf d/\Blk A (w.1.size+1) 4 (bs (b*b) (kbB b (kbQ t l h d)))/\Below (w.1.size+1) D A) (λq _=>b - (intOf q).toNat);exact⟨0,nZ _,rfl,C,j⟩;obtain⟨d,hq,rfl,p,z⟩:=hrel;obtain⟨o,j⟩:=oB p z;by_cases ad:d<b;{have l0:=kbD (n:=b) (x:=d) (y:=l) fP fP;have l1:0<=(d:Int)*b:=gu;have l2:(d:Int)*b+l<((b*b:Nat):Int):=gu;have l3:(d:Int)*b<=1024:=gu;have p0:=kbD (n:=b) (x:=d) (y:=h) fP fP;have p1:0<=(d:Int)*b:=gu;have p2:(d:Int)*b+h<((b*b:Nat):Int):=gu;have p3:(d:Int)*b<=1024:=gu;have q:=p.cell (d*b+l);have A:=p.cell (d*b+h);have fh:=p.free (d*b+h);have el:(bs (b*b) (kbB b (kbQ t l h d)))[d*b+l]? = some (Bo (kbQ t l h d d l)):=(by simp only[bs,Zr,Gu l0,Option.map_some,qsb _ P]);have eh:(bs (b*b) (kbB b (kbQ t l h d)))[d*b+h]? = some (Bo (kbQ t l h d d h)):=(by simp only[bs,Zr,Gu p0,Option.map_some,qsb _ F]);have Z:kbQ t l h d d l=t d l:=(by simp[kbQ]);rw[el,Z]at q;rw[eh]at A;obtain⟨vh,ab⟩:=Nq (kbQ t l h d d h);rw[ab]at A;cases B:t d l;{rw[B]at q;go_wp2;go_roundw;{refine⟨d+1,fP,fX,?_,j⟩;have k:=o.u;rw[qfx (T':=kbQ t l h (d+1)) λe i _ _=>by simp only[kbQ];by_cases s:e=d;{subst s;simp[B]};congr 2;rw[decide_eq_decide];omega]at k;exact k};simp[intOf];omega};rw[B]at q;go_wp2;go_roundw;{refine⟨d+1,fP,fX,?_,j.setCell (nR _) _⟩;have k:=o.set (d*b+h) (Bo true);rw[qsc _ F]at k;rw[qfx (T':=kbQ t l h (d+1)) λe i _ _=>by simp only[kbQ];by_cases s:e=d;{subst s;simp[B]};rw[show decide (e=d)=false from Yo s,Gq,Bool.or_false];congr 2;rw[decide_eq_decide];omega]at k;exact k};simp[intOf];omega};obtain rfl:d=b:=fP;go_wp2;go_roundw;{refine⟨r+1,fP,fX,?_,j⟩;have k:=o.u;rw[qfx (T':=pass (kaq kbW f g m v) f g (r+1)) λe i I _=>by rw[pass,O.u,N.u.1,N.u.2];simp[kbQ,upd,I]]at k;exact k};simp[intOf];omega};obtain rfl:r=m:=fP;have J:=(L.mono j (Gr _)).cell 1;simp only[Y3,Yp]at J;go_wp2;go_roundw;{refine⟨v+1,fP,fX,?_,j⟩;rw[kaq,O.u];exact o};simp[intOf];omega};obtain rfl:v=b:=fP;have e:=W.trans (j.mono (Vf _));have d:=h_ e;go_wp2;go_ret;exact⟨_,rfl,o,Vf _,d⟩
end
section
section
variable {f g:Nat->Nat} {m n:Nat}
def qly {c:Nat->Nat->Bool}{lo hi a b:Nat}(d:c a b=true):upd c lo hi a b=true:=by grind[upd]
def qew {e:Nat->Nat->Bool}{a b i:Nat}:∀{c},i<=c->pass e f g i a b=true->pass e f g c a b=true:=by intro c;induction c with|zero=>intro j d;obtain rfl:i=0:=fP;exact d|succ c k=>intro j d;by_cases h:i=c+1;{subst h;exact d};exact qly (k fP d)
def q7m {b:Nat->Nat->Bool}{a k j:Nat}(e:k<j)(c:b a (f k)=true):pass b f g j a (g k)=true:=by refine qew (i:=k+1) fP ?_;have d:pass b f g k a (f k)=true:=qew (i:=0) fP c;rw[pass];simp[upd,d]
def kb0 (f g:Nat->Nat)(m:Nat)(T:Nat->Nat->Bool)(a:Nat):Prop:=∀k,k<m->T a (f k)=true->T a (g k)=true
def q7l {d:Nat->Nat->Bool}{a:Nat}(i:kb0 f g m d a):∀b,b<=m->∀c,pass d f g b a c=d a c:=by intro b;induction b with|zero=>intro _ c;rfl|succ b h=>intro k c;rw[pass,upd,h fP,h fP];by_cases e:c=g b;{subst e;cases j:d a (f b);{simp};rw[i b fP j];rfl};rw[show decide (c=g b)=false from Yo e];simp
def cnt (n:Nat)(T:Nat->Nat->Bool)(a:Nat):Nat:=((List.range n).filter (T a)).length
def qd8 {p q:Nat->Bool}(l:List Nat)(b:∀a,p a=true->q a=true):(l.filter p).length<=(l.filter q).length:=by induction l <;> grind
def qd9 {p q:Nat->Bool}(l:List Nat)(b:∀a,p a=true->q a=true){y:Nat}(hy:y∈l)(c:p y=false)(d:q y=true):(l.filter p).length<(l.filter q).length:=by induction l with|nil=>cases hy|cons a i h=>simp only[List.filter_cons];rcases Zw.1 hy with rfl | hy;{rw[c,d];have:=qd8 i b;simp;omega};have:=h hy;cases e:p a;{cases j:q a;{simpa using this};simp;omega};rw[b a e];simpa using this
def q7r {d:Nat->Nat->Bool}{a b:Nat}:∀c,d a b=true->kaq d f g m c a b=true
 | 0,h=>h
 | c+1,h=>qew (i:=0) fP (q7r c h)
def q58 (o:∀b,b<m->g b<n){a:Nat}(l:a<n):∀c,kb0 f g m (kaq kbW f g m c) a∨c+1<=cnt n (kaq kbW f g m c) a
 | 0=>by
  right;have:(List.filter (λ_=>false) (List.range n)).length<cnt n (kaq kbW f g m 0) a:=qd9 (y:=a) _ (λq h=>by cases h) (by simpa using l) rfl (by simp[kaq,kbW]);omega
 | c+1=>by
  rcases q58 o l c with h | h
  . left
    intro b e d;rw[kaq,q7l h m (nR _)]at d⊢;exact h b e d
  . by_cases k:kb0 f g m (kaq kbW f g m c) a
    . left
      intro b e d;rw[kaq,q7l k m (nR _)]at d⊢;exact k b e d
    . right
      have:∃b,b<m/\kaq kbW f g m c a (f b)=true/\¬ kaq kbW f g m c a (g b)=true:=by
       apply Classical.byContradiction;intro p;exact k λb e d=>Classical.byContradiction λj=>p ⟨b,e,d,j⟩
      obtain⟨b,e,d,j⟩:=this;have:cnt n (kaq kbW f g m c) a<cnt n (kaq kbW f g m (c+1)) a :=
       qd9 (y:=g b) _ (λq c=>qew (i:=0) fP c) (by simpa using o b e) (by simpa using j) (q7m e d)
      omega
def q3h (d:∀b,b<m->g b<n){a:Nat}(c:a<n):kb0 f g m (kaq kbW f g m n) a:=by rcases q58 (f:=f) (m:=m) d c n with b | b;{exact b};have:cnt n (kaq kbW f g m n) a<=n:=(by have:=Gk (kaq kbW f g m n a) (List.range n);simpa [cnt] using this);omega
def kb1 (u:Nat->Nat)(f g:Nat->Nat)(m:Nat):Prop:=∀x,x<32->∀y,(u x).testBit y=true ↔ ∃k,k<m/\f k=x/\g k=y
def qax {j:Nat->Nat}(i:kb1 j f g m)(e:∀b,b<m->f b<32){k:Nat->Nat->Bool}{a:Nat}(h:∀b,k a b=true->kaI j a b):∀d,d<=m->∀b,pass k f g d a b=true->kaI j a b | 0,_,b,c=>h b c | d+1,hj,b,c=>by rw[pass,upd]at c;simp only[Vg,Yw,Yu]at c;rcases c with c | ⟨rfl,c⟩;{exact qax i e h d fP b c};exact(qax i e h d fP _ c).step (e d fP) ((i _ (e d fP) _).2 ⟨d,fP,rfl,rfl⟩)
def q59 {i:Nat->Nat}(e:kb1 i f g m)(d:∀b,b<m->f b<32){a:Nat}:∀c b,kaq kbW f g m c a b=true->kaI i a b
 | 0,b,h=>by
  simp only[kaq,kbW,Yu]at h;subst h;exact kaI.refl _ _
 | c+1,b,h=>qax e d (λb j=>q59 e d c b j) m (nR _) b h
def q5w {k:Nat->Nat}(s:n<=32)(j:kb1 k f g m)(o:∀c,c<m->f c<n)(i:∀c,c<m->g c<n){a b:Nat}(h:a<n):kaq kbW f g m n a b=true ↔ kaI k a b:=by refine⟨q59 j (λc d=>by have:=o c d;omega) n b,λe=>?_⟩;refine(e (λe=>e<n/\kaq kbW f g m n a e=true) ⟨h,q7r n (by simp[kbW])⟩ ?_).2;rintro e r ⟨t,l⟩ p q;obtain⟨c,d,rfl,rfl⟩:=(j e p r).1 q;exact⟨i c d,q3h i h c d l⟩
end
end
section
open Go Go.RowKit Go.Proofs.Tryz
def kaK:Value:=.agg #[.int .i64 0,Sl none 0 0,Sl none 0 0,Sl none 0 0,.int .i64 0,.int .i64 0]
def kb5 (n:Nat)(g d:Nat->Nat)(R:Nat->Nat->Bool)(B:Nat)(e:Ending)(w':Tw):Prop :=
 ((∃a,a<n/\¬ kal (g a) (d a)=2 ^ a)/\e=Rt (.tuple #[kaK,Yf 2])) ∨
 ((∀a,a<n->kal (g a) (d a)=2 ^ a)/\(∃a b,a<n/\b<n/\kbq g a b (-1))/\e=Rt (.tuple #[kaK,Yf 3])) ∨
 ((∀a,a<n->kal (g a) (d a)=2 ^ a)/\(∃a b,a<n/\b<n/\kbq d a b (-1))/\(∃F:Nat->Int,∀a,a<n->∀b,b<n->0<=F (a*n+b)/\kbq g a b (F (a*n+b)))/\e=Rt (.tuple #[kaK,Yf 4])) ∨
 ((∀a,a<n->kal (g a) (d a)=2 ^ a)/\∃G1 G2 G3 F1 F2 bot top,e=Rt (.tuple #[.agg #[Yf n,Sl (some ⟨G1,0,none⟩) (n*n) (n*n),Sl (some ⟨G2,0,none⟩) (n*n) (n*n),Sl (some ⟨G3,0,none⟩) (n*n) (n*n),Yf bot,Yf top],Yf 0]) /\
  Blk w' G1 4 (bs (n*n) (kbB n R))/\Blk w' G2 3 (is (n*n) F1)/\Blk w' G3 3 (is (n*n) F2)/\B<=G1/\B<=G2/\B<=G3/\G1≠G2/\G1≠G3/\G2≠G3 /\
  (∀a,a<n->∀b,b<n->0<=F1 (a*n+b)/\kbq g a b (F1 (a*n+b)))/\(∀a,a<n->∀b,b<n->0<=F2 (a*n+b)/\kbq d a b (F2 (a*n+b)))/\kcY g (2 ^ n - 1) bot/\kcY d (2 ^ n - 1) top)
def qm5 (c:Ta)(a:c.toList=us λ_=>0)(w:Tw):Blk (w.alloc (Cl c 234)) w.1.size 234 (us λ_=>0):=a ▸ Blk.new w 234 c
def six {w:Tw}{b:Nat}{t:TypeId}{v u c d e f:Value}(a:Blk w b t [v,u,c,d,e,f]) :
 (w.cell? ⟨b,0,none⟩=some v/\w.cell? ⟨b,1,none⟩=some u/\w.cell? ⟨b,2,none⟩=some c/\w.cell? ⟨b,3,none⟩=some d/\w.cell? ⟨b,4,none⟩=some e/\w.cell? ⟨b,5,none⟩=some f) /\
 (w.frozen? ⟨b,0,none⟩=false/\w.frozen? ⟨b,1,none⟩=false/\w.frozen? ⟨b,2,none⟩=false/\w.frozen? ⟨b,3,none⟩=false/\w.frozen? ⟨b,4,none⟩=false/\w.frozen? ⟨b,5,none⟩=false) :=
 ⟨⟨a.cell 0,a.cell 1,a.cell 2,a.cell 3,a.cell 4,a.cell 5⟩,a.free 0,a.free 1,a.free 2,a.free 3,a.free 4,a.free 5⟩
def kdf {n:Nat}(a:n<=32):2 ^ n - 1<4294967296:=by have:2 ^ n<=2 ^ 32:=Z5 fP a;omega
def ke3 (w':Tw)(B D A:Nat)(g d:Nat->Nat)(s:Nat):Prop:=Blk w' B 234 (us g)/\Blk w' D 234 (us d)/\Tab w'/\w'.rangeAt B 0 (us g)/\w'.rangeAt D 0 (us d)/\w'.cell? ⟨A,0,none⟩=some (.int .u32 (s:Int))/\A<w'.1.size
def ke3.mono {w w':Tw}{B D n s:Nat}{g f:Nat->Nat}(a:ke3 w B D n g f s)(b:Bw w w'):ke3 w' B D n g f s :=
 have c:=a.1.mono b a.1.lt;have d:=a.2.1.mono b a.2.1.lt
 ⟨c,d,a.2.2.1.mono b,c.range,d.range,(b.cell (p:=⟨n,0,none⟩) a.2.2.2.2.2.2).trans a.2.2.2.2.2.1,Y5 a.2.2.2.2.2.2 b.size⟩
def ke3.set {w:Tw}{B D n s k j:Nat}{g f:Nat->Nat}{v:Value}(b:ke3 w B D n g f s)(i:B≠k)(l:D≠k)(h:n≠k)(e:5≠k):ke3 (w.setCell ⟨k,j,none⟩ v) B D n g f s :=
 have c:=b.1.other (a:=⟨k,j,none⟩) v i;have d:=b.2.1.other (a:=⟨k,j,none⟩) v l
 ⟨c,d,b.2.2.1.at0 (heap_setCell_other _ _ _ _ e),c.range,d.range,(World.cell?_of_block (heap_setCell_other _ _ _ _ h)).trans b.2.2.2.2.2.1,by simpa using b.2.2.2.2.2.2⟩
def q37 (n:Nat)(g:Nat->Nat)(R:Nat->Nat->Bool)(w:Tw)(I:1<=n)(D:n<=32)(hg:kar g R)(ht:Tab w) :
 Calls prog 172 #[Yf n,.agg (us g).toArray] w λd m=>Bw w m/\∃c,kar c (λa b=>decide (b<n)&&R b a)/\kb5 n g c R w.1.size d m:=by
 have ac:∀b,b<32->g b<4294967296:=λb e=>(hg b e).1;have B0:=(Blk.new w 234 (us g).toArray).alloc (.cells Je 36);have B1:=Blk.new (w.alloc (.cells (us g).toArray 234)) 36 Je;have BW:Bw w ((w.alloc (.cells (us g).toArray 234)).alloc (.cells Je 36)):=((bR _ _).alloc (nR _) _).alloc fT _;have BT:=ht.mono BW;simp only[Yv]at B1;obtain⟨W,H1,HW,M⟩:=oD B0 B1 BW BT;go_enter func172,ntmps172;go_wp2_with (refine q0w rfl _ rfl w.1.size g rfl W ?_);refine(qbj g R n _ D hg M).mono ?_;rintro d x ⟨c,rfl,U,aa⟩;have ab:∀b,b<32->c b<4294967296:=λb e=>(U b e).1;replace W:=mB W aa;replace H1:=mB H1 aa;replace HW:=mT HW aa;replace M:=h_ (M.mono aa);go_wp2_with (first | (refine q0m rfl _ _ rfl x.1.size (λ_=>0) c rfl rfl (qm5 _ rfl _) ?_;intro w2 h k l;have a:Bw x w2:=((bR _ x).alloc (nR _) _).grown k fT (λo d=>by cases d;exact nR _);have X0:=mB W a;have X1:=mB H1 a;have H:=mT HW a;have XT:=h_ (M.mono a);have XD:=h_ h;clear h k l a) | (refine q0w rfl _ rfl w.1.size g rfl X0 ?_) | (refine q0w rfl _ rfl x.1.size c rfl XD ?_));by_cases ad:∃b,b<n/\¬ kal (g b) (c b)=2 ^ b
 . refine cQ (q82 n g c _ D ac ab true ⟨λ_=>ad,λ_=>rfl⟩) λw3 o=>?_;have N:=h_ ad;have Y0:=mB X0 o;have Y1:=mB X1 o;obtain⟨F,YT⟩:=oB (H.trans (o.mono H.size)) (XT.mono o);have YD:=mB XD o;obtain⟨⟨r0,r1,r2,r3,r4,r5⟩,q0,q1,q2,q3,q4,q5⟩:=six Y1;go_wp2;refine bodyPost_ret (v:=.tuple #[kaK,Yf 2]) gE rfl ⟨?_,c,U,.inl ⟨N,rfl⟩⟩
   iterate 6 refine Below.setCell ?_ gr _
   exact F
 refine cQ (q82 n g c _ D ac ab false ⟨(λa=>by cases a),λa=>absurd a ad⟩) λw3 o=>?_;have N:Hi (∀b,b<n->kal (g b) (c b)=2 ^ b):=λb e=>Classical.byContradiction λa=>ad ⟨b,e,a⟩;have Y0:=mB X0 o;have Y1:=mB X1 o;obtain⟨F,YT⟩:=oB (H.trans (o.mono H.size)) (XT.mono o);have YD:=mB XD o;go_wp2_with (refine q0w rfl _ rfl w.1.size g rfl Y0 ?_);refine(q8i n g _ I D ac YT).mono ?_;rintro d w4 ⟨t,(⟨y,F1,rfl,aA,aB,ay⟩ | ⟨rfl,b⟩)⟩
 rotate_left
 . have e:=h_ b;clear b
   have Z0:=mB Y0 t;have G:=mB Y1 t;obtain⟨s,ZT⟩:=oB (F.trans (t.mono F.size)) (YT.mono t);have ZD:=mB YD t;obtain⟨⟨r0,r1,r2,r3,r4,r5⟩,q0,q1,q2,q3,q4,q5⟩:=six G;go_wp2;refine bodyPost_ret (v:=.tuple #[kaK,Yf 3]) gE rfl ⟨?_,c,U,.inr (.inl ⟨N,e,rfl⟩)⟩
   iterate 6 refine Below.setCell ?_ gr _
   exact s
 have Z0:=mB Y0 t;have G:=mB Y1 t;obtain⟨s,ZT⟩:=oB (F.trans (t.mono F.size)) (YT.mono t);have ZD:=mB YD t;have g2:=Yx F.size aB;obtain⟨X,ag⟩:=oB aA ay;go_wp2_with (refine q0w rfl _ rfl x.1.size c rfl ZD ?_);refine(q8i n c _ I D ab ZT).mono ?_;rintro d w5 ⟨p,(⟨z,F2,rfl,aC,am,az⟩ | ⟨rfl,b⟩)⟩
 rotate_left
 . have e:=h_ b;clear b
   have U0:=mB Z0 p;have U1:=mB G p;obtain⟨Z,UT⟩:=oB (s.trans (p.mono s.size)) (ZT.mono p);have UD:=mB ZD p;obtain⟨⟨r0,r1,r2,r3,r4,r5⟩,q0,q1,q2,q3,q4,q5⟩:=six U1;go_wp2;refine bodyPost_ret (v:=.tuple #[kaK,Yf 4]) gE rfl ⟨?_,c,U,.inr (.inr (.inl ⟨N,e,⟨F1,ag⟩,rfl⟩))⟩
   iterate 6 refine Below.setCell ?_ gr _
   exact Z
 have U0:=mB Z0 p;have U1:=mB G p;obtain⟨Z,UT⟩:=oB (s.trans (p.mono s.size)) (ZT.mono p);have UD:=mB ZD p;have g3:=Yx s.size am;have aG:y<z:=Y5 X.lt am;replace X:=mB X p;obtain⟨aq,ap⟩:=oB aC az;go_wp2_with (go_at_call 212;refine cQ (qm8 n _ D) λr b=>?_;have V0:=mB U0 b;have O:=mB U1 b;have VW:=h_ (Z.trans (b.mono Z.size));have VT:=h_ (UT.mono b);have VD:=mB UD b;have ah:=mB X b;have ai:=mB aq b;clear b);have bA:=Blk.new r 152 (#[.int .u32 ((2 ^ n - 1:Nat):Int)]);have A:Bw r (r.alloc (.cells (#[.int .u32 ((2 ^ n - 1:Nat):Int)]) 152)):=(bR _ _).alloc (nR _) _;have Y:Hi (ke3 (r.alloc (.cells (#[.int .u32 ((2 ^ n - 1:Nat):Int)]) 152)) w.1.size x.1.size r.1.size g c (2 ^ n - 1)) :=
  have b:=V0.mono A V0.lt;have I:=VD.mono A VD.lt
  ⟨b,I,VT.mono A,b.range,I.range,bA.cell 0,bA.lt⟩
 have ae:=kdf D;obtain⟨q,hm⟩:=Nq (2 ^ n - 1);rw[hm]at ae Y⊢;rw[hm]at A;have HM:=h_ hm;obtain⟨W7,aD⟩:=Nq (r.alloc (.cells #[.int .u32 (q:Int)] 152));rw[aD]at Y A⊢;have G:=mB O A;have s:=h_ (VW.trans (A.mono VW.size));have aj:=mB ah A;have ak:=mB ai A;have e:¬ w.1.size=w.1.size+1:=fP
 have h:x.1.size≠w.1.size+1:=λd=>by have a:=VD.u;rw[d]at a;have Q:=a.symm.trans O;simp at Q
 have k:r.1.size≠w.1.size+1:=by have:=O.lt;omega
 have l:¬ 5=w.1.size+1:=by first | omega | (have:=M.pos;omega) | (have:=ht.pos;omega)
 have n5:y≠w.1.size+1:=λd=>by have a:=ah.u;rw[d]at a;have Q:=a.symm.trans O;simp at Q
 have n6:z≠w.1.size+1:=λd=>by have a:=ai.u;rw[d]at a;have Q:=a.symm.trans O;simp at Q
 have s7:w.1.size<=W7.1.size:=s.size;have l2:=aj.lt;have l3:=ak.lt;have l1:=G.lt;refine wp_region_held_drew (S:=λm=>ke3 m w.1.size x.1.size r.1.size g c q) fR Y (λC=>?_);refine take (i:=0) (v:=Yf n) 39 rfl rfl fR fR fR (λ_ _ _ _ a=>a) (by exact q86 gb (.tmp 0) _ rfl rfl) C ?_;simp only[sX,sY,sZ];refine take (i:=2) (v:=Yf n) 41 rfl rfl fR fR fR (λ_ _ _ _ a=>a) (by exact q86 gb (.tmp 0) _ rfl rfl) C ?_;simp only[sX,sY,sZ];refine take (i:=4) (v:=.slice (some ⟨y,0,none⟩) (n*n) (n*n)) 43 rfl rfl fR fR fR (λ_ _ _ _ a=>a) (by exact q86 gb (.tmp 7) _ rfl rfl) C ?_;simp only[sX,sY,sZ];refine take (i:=5) (v:=.slice (some ⟨z,0,none⟩) (n*n) (n*n)) 44 rfl rfl fR fR fR (λ_ _ _ _ a=>a) (by exact q86 gb (.tmp 9) _ rfl rfl) C ?_;simp only[sX,sY,sZ];refine take (i:=1) (v:=.agg (us g).toArray) 40 rfl rfl fR fR fR (λ_ _ _ _ a=>a) (by exact q87 gb (.tmp 3) rfl w.1.size g rfl (λ_ a=>a.1)) C ?_;simp only[sX,sY,sZ];refine take (i:=6) (v:=.agg (us g).toArray) 45 rfl rfl fR fR fR (λ_ _ _ _ a=>a) (by exact q87 gb (.tmp 3) rfl w.1.size g rfl (λ_ a=>a.1)) C ?_;simp only[sX,sY,sZ];refine take (i:=9) (v:=.agg (us c).toArray) 48 rfl rfl fR fR fR (λ_ _ _ _ a=>a) (by exact q87 gb (.tmp 6) rfl x.1.size c rfl (λ_ a=>a.2.1)) C ?_;simp only[sX,sY,sZ];refine take (i:=7) (v:=.agg #[.int .u32 (q:Int)]) 46 rfl rfl fR fR fR (λ_ _ _ _ a=>a) (by exact qbs gb (.tmp 10) rfl r.1.size 0 _ rfl (λ_ a=>a.2.2.2.2.2.1)) C ?_;simp only[sX,sY,sZ];refine take (i:=10) (v:=.agg #[.int .u32 (q:Int)]) 49 rfl rfl fR fR fR (λ_ _ _ _ a=>a) (by exact qbs gb (.tmp 10) rfl r.1.size 0 _ rfl (λ_ a=>a.2.2.2.2.2.1)) C ?_;simp only[sX,sY,sZ];refine kfW (i:=3) (f:=213) (args:=#[.agg (us g).toArray,Yf n]) (R:=λE L=>∃b,E=.slice (some ⟨b,0,none⟩) (n*n) (n*n)/\Blk L b 4 (bs (n*n) (kbB n R))/\W7.1.size<=b/\Bw W7 L) 42 rfl rfl gb fR ?hrun1 ((qfy n g R _ I D hg).mono λd L ⟨b,V,J,al,K⟩=>⟨_,V,b,rfl,J,al,q2j K⟩) ?_
 case hrun1=>simp[execOp,go_sem]
 rintro E L ⟨b,rfl,J,al,K⟩;have S1:ke3 L w.1.size x.1.size r.1.size g c q:=Y.mono K;refine⟨S1,?_⟩;simp only[sX,sY,sZ];refine kfW (i:=8) (f:=214) (args:=#[.agg (us g).toArray,.agg #[.int .u32 (q:Int)]]) (R:=λE m=>∃B,E=Yf B/\kcY g q B/\Bw L m) 47 rfl rfl gb fR ?hrun2 ((q77 g q _ ac ae S1.2.2.1).mono λd m ⟨B,V,hr,hb⟩=>⟨_,V,B,rfl,hr,hb⟩) ?_
 case hrun2=>simp[execOp,go_sem]
 rintro E w9 ⟨P,rfl,aE,T⟩;have S2:=S1.mono T;refine⟨S2,?_⟩;simp only[sX,sY,sZ];refine kfW (i:=11) (f:=214) (args:=#[.agg (us c).toArray,.agg #[.int .u32 (q:Int)]]) (R:=λE m=>∃B,E=Yf B/\kcY c q B/\Bw w9 m) 50 rfl rfl gb fR ?hrun3 ((q77 c q _ ab ae S2.2.2.1).mono λd m ⟨B,V,hr,hb⟩=>⟨_,V,B,rfl,hr,hb⟩) ?_
 case hrun3=>simp[execOp,go_sem]
 rintro E an ⟨top,rfl,aF,af⟩;have B:=S2.mono af;refine⟨B,?_⟩;simp only[sX,sY,sZ];have V:Bw W7 an:=(K.trans (T.mono K.size)).trans (af.mono (Yx K.size T.size));have X1:=G.mono V l1;obtain⟨⟨r0,r1,r2,r3,r4,r5⟩,q0,q1,q2,q3,q4,q5⟩:=six X1;refine take (i:=12) (v:=.agg #[Yf n,.slice (some ⟨b,0,none⟩) (n*n) (n*n),.slice (some ⟨y,0,none⟩) (n*n) (n*n),.slice (some ⟨z,0,none⟩) (n*n) (n*n),Yf P,Yf top]) 51 rfl rfl fR fR fR (λ_ _ _ _ a=>a) (.inl ⟨gb,λm _=>?build⟩) B ?_
 case build=>simp[execOp,go_sem]
 simp only[sX,sY,sZ];refine runH (i:=13) rfl gb fR rfl (v:=.skip) (w':=(((((an.setCell ⟨w.1.size+1,0,none⟩ (Yf n)).setCell ⟨w.1.size+1,1,none⟩ (.slice (some ⟨b,0,none⟩) (n*n) (n*n))).setCell ⟨w.1.size+1,2,none⟩ (.slice (some ⟨y,0,none⟩) (n*n) (n*n))).setCell ⟨w.1.size+1,3,none⟩ (.slice (some ⟨z,0,none⟩) (n*n) (n*n))).setCell ⟨w.1.size+1,4,none⟩ (Yf P)).setCell ⟨w.1.size+1,5,none⟩ (Yf top)) ?hrun4 rfl ((((((B.set e h k l).set e h k l).set e h k l).set e h k l).set e h k l).set e h k l) ?_
 case hrun4=>simp[execOp,go_sem, *]
 have S4:=(((((B.set (j:=0) (v:=Yf (n:Int)) e h k l).set (j:=1) (v:=.slice (some ⟨b,0,none⟩) (n*n) (n*n)) e h k l).set (j:=2) (v:=.slice (some ⟨y,0,none⟩) (n*n) (n*n)) e h k l).set (j:=3) (v:=.slice (some ⟨z,0,none⟩) (n*n) (n*n)) e h k l).set (j:=4) (v:=Yf P) e h k l).set (j:=5) (v:=Yf top) e h k l;refine take (i:=14) (v:=Yf 0) 5 rfl rfl fR fR fR (λ_ _ _ _ a=>a) (.inl ⟨gb,λm _=>?asg⟩) S4 ?_
 case asg=>simp[execOp,go_sem]
 simp only[sX,sY,sZ];refine wdQ ?_;obtain⟨aw,ax⟩:=oB (aj.mono V l2) (ak.mono V l3);obtain⟨av,H⟩:=oB ((J.mono T J.lt).mono af (J.mono T J.lt).lt) (s.trans (V.mono s7));obtain⟨ao,au⟩:=oB aE aF;have n7:b≠w.1.size+1:=fP
 have n8:b≠y:=fP
 have n9:b≠z:=fP
 go_wp2;refine bQ (v:=.tuple #[.agg #[Yf n,.slice (some ⟨b,0,none⟩) (n*n) (n*n),.slice (some ⟨y,0,none⟩) (n*n) (n*n),.slice (some ⟨z,0,none⟩) (n*n) (n*n),Yf P,Yf top],Yf 0]) ⟨?_,c,U,.inr (.inr (.inr ⟨N,b,y,z,F1,F2,P,top,rfl,?_,?_,?_,fP,g2,g3,n8,n9,fP,ag,ap,by rw[HM.u];exact ao,by rw[HM.u];exact au⟩))⟩
 . iterate 6 refine Below.setCell ?_ gr _
   exact H
 . iterate 6 refine Blk.other ?_ _ gr
   exact av
 . iterate 6 refine Blk.other ?_ _ gr
   exact aw
 . iterate 6 refine Blk.other ?_ _ gr
   exact ax
def JF (F:Nat->Bool)(n i:Nat):Int:=kbg (kaZ F n (i / n) (i % n)) n
def MF (F:Nat->Bool)(n i:Nat):Int:=kbg (ka0 F n (i / n) (i % n)) n
def kdT (F:Nat->Bool)(n:Nat):Prop:=∃a b,a<n/\b<n/\a≠b/\F (a*n+b)=true/\F (b*n+a)=true
def kbj (p:Nat->Bool):Nat->Int
 | 0=>0
 | k+1=>if p k then (k:Int) else kbj p k
def kaA (F:Nat->Bool)(n m c:Nat):Bool:=(List.range m).all λd=>F (c*n+d)
def kaB (F:Nat->Bool)(n m c:Nat):Bool:=(List.range m).all λd=>F (d*n+c)
def q2i (F:Nat->Bool)(n m c:Nat):kaA F n (m+1) c=(kaA F n m c&&F (c*n+m)):=by grind[kaA]
def q2h (F:Nat->Bool)(n m c:Nat):kaB F n (m+1) c=(kaB F n m c&&F (m*n+c)):=by grind[kaB]
def kb8 (n:Nat)(F:Nat->Bool)(e:Ending)(w':Tw):Prop :=
 (kdT F n/\e=Rt (.tuple #[kaK,Yf 2])) ∨
 (¬ kdT F n/\(∃i,i<n*n/\JF F n i<0)/\e=Rt (.tuple #[kaK,Yf 3])) ∨
 (¬ kdT F n/\(∀i,i<n*n->0<=JF F n i)/\(∃i,i<n*n/\MF F n i<0)/\e=Rt (.tuple #[kaK,Yf 4])) ∨
 (¬ kdT F n/\(∀i,i<n*n->0<=JF F n i)/\(∀i,i<n*n->0<=MF F n i)/\∃a1 a2 a3 c1 c2 c3,e=Rt (.tuple #[.agg (Ji n a1 (n*n) c1 a2 c2 a3 c3 (kbj (kaA F n n) n) (kbj (kaB F n n) n)),Yf 0]) /\
  kbi w' a1 (n*n) F/\kbJ w' a2 (n*n) (JF F n)/\kbJ w' a3 (n*n) (MF F n))
def kcI {w:Tw}{b:Nat}{t:TypeId}{v u c d e f:Value}(a:Blk w b t [v,u,c,d,e,f]) :
 (w.cell? ⟨b,0,none⟩=some v/\w.cell? ⟨b,1,none⟩=some u/\w.cell? ⟨b,2,none⟩=some c/\w.cell? ⟨b,3,none⟩=some d/\w.cell? ⟨b,4,none⟩=some e/\w.cell? ⟨b,5,none⟩=some f)/\(w.frozen? ⟨b,0,none⟩=false/\w.frozen? ⟨b,1,none⟩=false/\w.frozen? ⟨b,2,none⟩=false/\w.frozen? ⟨b,3,none⟩=false/\w.frozen? ⟨b,4,none⟩=false/\w.frozen? ⟨b,5,none⟩=false) :=
 ⟨⟨a.cell 0,a.cell 1,a.cell 2,a.cell 3,a.cell 4,a.cell 5⟩,⟨a.free 0,a.free 1,a.free 2,a.free 3,a.free 4,a.free 5⟩⟩
def q8g {B R:Nat}{w w':Tw}(h:Below B w w')(a:B<=R)(b c d e f g:Value):Below B w ((((((w'.setCell ⟨R,0,none⟩ b).setCell ⟨R,1,none⟩ c).setCell ⟨R,2,none⟩ d).setCell ⟨R,3,none⟩ e).setCell ⟨R,4,none⟩ f).setCell ⟨R,5,none⟩ g) :=
 (((((h.setCell (p:=⟨R,0,none⟩) a b).setCell (p:=⟨R,1,none⟩) a c).setCell (p:=⟨R,2,none⟩) a d).setCell (p:=⟨R,3,none⟩) a e).setCell (p:=⟨R,4,none⟩) a f).setCell (p:=⟨R,5,none⟩) a g
def q3l (N:Int)(a:To)(m c:Nat)(w:Tw)(h:∀b,Bw w b->Gv 25 #[.agg (Jt N a m c)] b (Bo false)):Gv 6 #[.agg (Jt N a m c)] w (.tuple #[kaK,Yf 1]):=by obtain⟨d,f⟩:=oB (by simpa using Blk.new (w.alloc (Cl (Jt N a m c) 40)) 36 Je:Blk ((w.alloc (Cl (Jt N a m c) 40)).alloc (Cl Je 36)) (w.1.size+1) 36 [Yf 0,Yg,Yg,Yg,Yf 0,Yf 0]) ((Blk.new w 40 (Jt N a m c)).alloc (Cl Je 36));have b:Hi (Bw w ((w.alloc (Cl (Jt N a m c) 40)).alloc (Cl Je 36))):=((bR _ w).alloc (nR _) _).alloc fT _;go_enter func6,ntmps6;go_wp2_with fail;refine cQ (h _ b) λx e=>?_;replace d:=mB d e;replace f:=mB f e;replace b:=mT b e;obtain⟨⟨p,q,r,s,t,u⟩,⟨i,j,k,l,n,o⟩⟩:=kcI d;have g:=h_ (q8g b (Vf _) (Yf 0) Yg Yg Yg (Yf 0) (Yf 0));go_wp2;refine bodyPost_ret (v:=.tuple #[kaK,Yf 1]) gw rfl ⟨?_,g⟩;rfl
def q3o (N:Int)(a:To)(m c:Nat)(w:Tw)(g:m<=9223372036854775807)(h:¬ (1<=N/\N<=32/\m<=256)):Gv 171 #[.agg (Jt N a m c)] w (Bo false):=by have e:N<1∨(1<=N/\32<N)∨(1<=N/\N<=32/\256<m):=fP;rcases e with b | ⟨b,d⟩ | ⟨b,d,f⟩;all_goals go_enter func171,ntmps171;go_wp2;go_ret;exact⟨rfl,(bR _ _).alloc (nR _) _⟩
def qjv (w:Tw)(t:TypeId)(x y:Int):(w.alloc (Cl (Jv x y) t)).cell? ⟨w.1.size,0,none⟩=some (Yf x)/\(w.alloc (Cl (Jv x y) t)).cell? ⟨w.1.size,1,none⟩=some (Yf y):=by simp
def iS {p:Prop}(h:p:=by rintro e l ⟨rfl,rfl⟩;go_wp2;go_ret;exact⟨qkd (p fP).symm,s⟩):p:=h
def q3n (N:Int)(a:To)(m c:Nat)(f g:Nat->Int)(w:Tw)(O:1<=N)(P:N<=32)(U:m<=256)(D:kbd w a m f g)(n:Bool)(C:n=true ↔ ∀b,b<m->0<=f b/\f b<N/\0<=g b/\g b<N):Gv 171 #[.agg (Jt N a m c)] w (Bo n):=by have q:=h_ C;go_enter func171,ntmps171;go_wp2;have E:Bw w (w.alloc (Cl (Jt N a m c) 40)):=(bR _ _).alloc (nR _) _;have i:=h_ E;have h:=Blk.new w 40 (Jt N a m c);have y:=D.mono i;generalize (w.alloc (Cl (Jt N a m c) 40))=z at *;go_loopw [22] (λe wr=>∃b:Nat,b<=m/\e=Yf b/\(∀d,d<b->0<=f d/\f d<N/\0<=g d/\g d<N)/\Bw z wr) (λe _=>m - (intOf e).toNat);exact⟨0,nZ _,rfl,λd e=>absurd e (nL _),bR _ _⟩;obtain⟨b,S,rfl,F,k⟩:=hrel;have o:=h_ F;have x:=y.mono k;have A:=(h.mono k h.lt).cell 0;simp only[Yp]at A;have V:w.1.size<wr.1.size:=Y5 h.lt k.size;have j:=h_ k;by_cases t:b<m;{obtain⟨M,W,rfl,T,Q,R⟩:=x b t;have B:¬ (0<=f b/\f b<N/\0<=g b/\g b<N)->n=false:=λl=>qmn q λe=>l (e b t);obtain⟨p,s,r⟩:=oC B (i.trans ((j.trans (((bR _ _).alloc (nR _) (Cl (Jv (f b) (g b)) 101)).mono j.size)).mono i.size)) (j.trans (((bR _ _).alloc (nR _) (Cl (Jv (f b) (g b)) 101)).mono j.size));obtain⟨X,Y⟩:=qjv wr 101 (f b) (g b);have H:=((h.mono r h.lt).cell 0);simp only[Yp]at H;by_cases I:f b<0∨N<=f b;{go_wp2_with fail;refine(q9f (f b) N _ I).mono ?_;exact iS};have u:0<=f b:=fP;have v:f b<N:=fP;by_cases J:g b<0∨N<=g b;{go_wp2_with fail;refine(q6j (f b) N _ u v).mono ?_;rintro e l ⟨rfl,rfl⟩;go_wp2_with fail;refine(q9f (g b) N _ J).mono ?_;exact iS};have K:0<=g b:=fP;have L:g b<N:=fP;go_wp2_with fail;refine(q6j (f b) N _ u v).mono ?_;rintro e l ⟨rfl,rfl⟩;go_wp2_with fail;refine(q6j (g b) N _ K L).mono ?_;rintro e l ⟨rfl,rfl⟩;go_wp2;go_roundw;exact⟨b+1,fP,fX,λd G=>by by_cases e:d=b;{subst e;omega};exact o d fP,r⟩;simp[intOf];omega};go_wp2;go_ret;exact⟨qkd (q.2 λd G=>o d fP).symm,i.trans (j.mono i.size)⟩
def kfM (g g':Nat->Nat):Bool:=(List.range 32).all λi=>g i==g' i
def qf8 {g g':Nat->Nat}:kfM g g'=true ↔ ∀a,a<32->g a=g' a:=by simp[kfM]
end
section
open Go Go.RowKit Go.Shelf Go.Proofs.Tryz
structure Out (lo hi:Nat)(W W':Tw):Prop where
 os:W'.os=W.os
 tape:W'.tape=W.tape
 output:W'.output=W.output
 size:W.1.size<=W'.1.size
 block:∀b,b<W.1.size->¬ (lo<=b/\b<hi)->W'.heap[b]? = W.heap[b]?
def Out.mono {lo n hi:Nat}{w W:Tw}(a:Out lo hi w W)(e:n<=lo):Out n hi w W:=⟨a.os,a.tape,a.output,a.size,λb c d=>a.block b c (λb=>d ⟨fP,b.2⟩)⟩
def Out.trans {lo hi:Nat}{w B C:Tw}(a:Out lo hi w B)(k:Out lo hi B C):Out lo hi w C:=⟨k.os.trans a.os,k.tape.trans a.tape,k.output.trans a.output,Yx a.size k.size,λb d c=>(k.block b (by have:=a.size;omega) c).trans (a.block b d c)⟩
def Out.set {lo hi:Nat}{w:Tw}{a:Addr}(v:Value)(d:lo<=a.block)(e:a.block<hi):Out lo hi w (w.setCell a v):=⟨rfl,rfl,rfl,fT,λb _ c=>heap_setCell_other w a b v (λb=>c ⟨fP,fP⟩)⟩
def Out.put {lo hi l:Nat}(a:Tw)(o:Obj)(d:lo<=l)(e:l<hi):Out lo hi a (a.putObj l o):=⟨rfl,rfl,rfl,fT,λb _ b=>World.putObj_heap_other (λc=>b ⟨fP,fP⟩)⟩
def Out.below {lo hi B:Nat}{w W:Tw}(a:Out lo hi w W)(c:B<=lo)(e:B<=w.1.size):Below B w W:=⟨a.os,a.tape,a.output,a.size,λb d=>a.block b fP (λb=>by omega)⟩
def Out.blk {lo hi g:Nat}{w W:Tw}{t:TypeId}{cs:Tl}(b:Out lo hi w W)(a:Blk w g t cs)(c:¬ (lo<=g/\g<hi)):Blk W g t cs:=(b.block g a.lt c).trans a
def Out.owns {lo hi base n size:Nat}{w W:Tw}{e:TypeId}{v:Value}{x:Tl}(h:Out lo hi w W)(d:w.ownsRow base e size v n x)(k:∀a,v.ownBlock=some a->¬ (lo<=a/\a<hi)):W.ownsRow base e size v n x:=by refine⟨d.1,?_⟩;rcases d.2 with i | ⟨a,f,g,b,j,c,l⟩;{exact .inl i};exact .inr ⟨a,f,g,b,j,(h.block a (Y4.1 c).1 (k a (by rw[b];rfl))).trans c,l⟩
structure kbz (X:Nat->Prop)(hi:Nat)(W W':Tw):Prop where
 size:W.1.size<=W'.1.size
 same:∀k cs t fr,k<hi->¬ X k->W.heap[k]? = some (Cl cs t fr)->W'.heap[k]? = some (Cl cs t fr)
def kbz.trans {X:Nat->Prop}{hi:Nat}{w B C:Tw}(c:kbz X hi w B)(k:kbz X hi B C):kbz X hi w C:=⟨Yx c.size k.size,λf a g b d e hi=>k.same f a g b d e (c.same f a g b d e hi)⟩
def kbz.put {X:Nat->Prop}{hi l:Nat}{w:Tw}{o f:Obj}(c:w.heap[l]? = some o)(d:o.isCells=false):kbz X hi w (w.putObj l f) :=
 ⟨fT,λe a a a _ _ a=>by
  by_cases b:e=l
  . subst b;rw[c]at a;cases a;simp[Obj.isCells]at d
  . exact(World.putObj_heap_other b).trans a⟩
def kbz.set {X:Nat->Prop}{hi:Nat}{w:Tw}{a:Addr}(v:Value)(e:X a.block):kbz X hi w (w.setCell a v):=⟨fT,λb _ _ _ _ d c=>(heap_setCell_other w a b v (λb=>d (b ▸ e))).trans c⟩
def kbz.blk {X:Nat->Prop}{hi g:Nat}{w W:Tw}{t:TypeId}{cs:Tl}(a:kbz X hi w W)(b:Blk w g t cs)(c:g<hi)(d:¬ X g):Blk W g t cs:=a.same g _ t _ c d b
def kbz.owns {X:Nat->Prop}{hi base n size:Nat}{w W:Tw}{e:TypeId}{v:Value}{x:Tl}(h:kbz X hi w W)(d:w.ownsRow base e size v n x)(f:∀a,v.ownBlock=some a->a<hi/\¬ X a):W.ownsRow base e size v n x:=by refine⟨d.1,?_⟩;rcases d.2 with i | ⟨a,g,c,b,j,k,l⟩;{exact .inl i};exact .inr ⟨a,g,c,b,j,h.same a c e _ (f a (by rw[b];rfl)).1 (f a (by rw[b];rfl)).2 k,l⟩
def kfs (P:Program)(gf:Nat)(lb:Ta)(T:List Nat->Nat->Prop)(S:List Nat->Prop)(X:Nat->Prop)(w0:Tw):Prop :=
 ∀(n l:Nat) (J:Nat->List Nat->Tw->Prop) (W:Tw),Below w0.1.size w0 W->(∀hi pre W1 W2,J hi pre W1->Out W.1.size hi W1 W2->J hi pre W2)->(∀W2,Below W.1.size W W2->J W2.1.size [] W2)->(∀k,X k->k<W.1.size) ->
  (∀(m hi:Nat) (pre:List Nat) (x:Nat) (W1:Tw),J hi pre W1->T pre x->YieldAt Fence.wide m P l #[Yf (x:Int)] W1 λe W'=>e=Rt (Bo true)/\J hi (pre++[x]) W'/\kbz X hi W1 W') ->
  CallsIn Fence.wide n P gf (#[.func (.yield l) #[] #[]]++lb) W λe W'=>(∃v,e=Rt v)/\∃hi xs,S xs/\J hi xs W'
def ke4 (X:Nat->Prop)(hi:Nat)(I:List Nat->Tw->Prop)(xs:List Nat)(W:Tw):Exit->Act->Tw->Prop
 | .normal,_,W'=>KeepsOthers W W'/\kbz X hi W W'/\I xs W'
 | _,_,_=>False
def qaz {P:Program}{g:Operand}{y:Array Tmp}{assign body:Code}{C:Exit->Act->Tw->Prop}{a:Act}{w:Tw}{n gf:Nat}{lb:Ta}
 (hg:a.eval g=.func (.func gf) #[] lb) (R:∀args w,(callFunc gf args).run P w=.ok (.enter gf args) w)
 {D:List Nat->Nat->Prop} {S:List Nat->Prop} {X:Nat->Prop} {W:Tw} (aj:kfs P gf lb D S X W) (K:Below W.1.size W w) (V:∀m,X m->m<w.1.size) (ai:y.size=1)
 (k:Nat->List Nat->Tw->Prop) (J:∀d i b x,k d i b->Out w.1.size d b x->k d i x) (T:∀b,Below w.1.size w b->k b.1.size [] b) (F:Nat->Act)
 (Y:∀(s h j:Nat) (b:Tw) (e:Act->Tw->Prop),e (F j) b ->
  assign.wpIn (Fence.wide.inRound h) s P (Exit.then e (λ_ _ _=>False)) { tmps:=(y.zip #[Yf (j:Int)]).foldl (λO (l,Q)=>O.setIfInBounds l Q) a.tmps,defers:=[] } b)
 (Z:∀(s h d:Nat) (i:List Nat) (j:Nat) (b:Tw),w.1.size<d->k d i b->D i j->body.wpIn (Fence.wide.inRound h) s P (ke4 X d (k d) (i++[j]) b) (F j) b)
 (ad:∀(e d:Nat) (f:List Nat) (b:Tw),w.1.size<=e->e<d->S f->k d f b->b.heap[e]? = some (.deferred (some []))->C .normal { a with defers:={ target:=.collected e,args:=#[] } :: a.defers } b) :
 (Code.rangeFunc g y assign body).wpIn Fence.wide n P C a w:=by
 refine wpIn_rangeFunc λfn _=>?_;obtain⟨e,p⟩:=Nq w.1.size;obtain⟨mk,q⟩:∃mk:LoopState->Option Code->Loop,mk=λr l=>{ state:=r,pending:=l,fn,tmps:=a.tmps,params:=y,assign,body,defers:=e }:=⟨_,rfl⟩;obtain⟨l,u⟩:=Nq ((w.alloc (.deferred (some []))).alloc (.loop (mk .ready none)));have N:l.1.size=e+1+1:=by rw[<- u];simp[p]
 have G:Below e w l:=by rw[<- u,<- p];exact((bR _ w).alloc (nR _) _).alloc fT _
 have af:l.heap[e+1]? = some (.loop (mk .ready none)):=by
  have:=World.alloc_heap_new (w.alloc (.deferred (some []))) (.loop (mk .ready none));rw[Yv,p,u]at this;exact this
 have aa:l.heap[e]? = some (.deferred (some [])):=by
  have:=World.alloc_heap_new w (.deferred (some []));rw[<- u,<- p];exact(Below.heap_alloc _ _ _ fT).trans this
 have I:=run_enterLoop_outer (P:=P) (w:=w) fn a.tmps y assign body;rw[p]at I;refine⟨e+1,[{ target:=.collected e,args:=#[] }],l,{ target:=.fn (.func gf) lb,args:=#[.func (.yield (e+1)) #[] #[]] },l,gf,#[.func (.yield (e+1)) #[] #[]]++lb,l,?_,?_,?_,?_,λt=>by simp[Fence.wide]at t,?_⟩
 . rw[<- u,q];exact I
 . simp only[resolve,hg];simp[go_sem]
 . intro _ _;trivial
 . simp[invoke,go_sem,R]
 have A:∀d f b h r,e<=h->h<d->k d f b->k d f (b.putObj h r):=λd f b h r t h v=>J d f b _ v (by rw[p];exact Out.put b r t h);refine(aj (n - 1) (e+1) (λd i b=>k d i b/\e+1<d/\b.heap[e+1]? = some (.loop (mk .ready none))/\b.heap[e]? = some (.deferred (some []))) l (K.trans ((p ▸ G:Below w.1.size w l).mono K.size)) ?_ ?_ (λm h=>by have:=V m h;omega) ?_).mono ?_
 . rintro d f b x ⟨t,z,m,r⟩ h
   rw[N]at h;exact⟨J d f b x t (h.mono fP),z,(h.block _ (Y4.1 m).1 fP).trans m,(h.block _ (Y4.1 r).1 fP).trans r⟩
 . intro E h
   have x:=h.size;rw[N]at h x;refine⟨T E ?_,fP,(h.block _ fP).trans af,(h.block _ fP).trans aa⟩;rw[p];exact G.trans (h.mono fP)
 . -- one round
   rintro s d i j b ⟨v,z,m,r⟩ U;have ah:e+1<b.1.size:=(Y4.1 m).1;have L:=run_yield (P:=P) (args:=#[Yf (j:Int)]) m (by rw[q];simp[ai]);rw[q]at L;refine⟨fn,_,assign,body,L,roundIn_of_wpIn trivial (Y s _ j b _ ⟨_,run_beginRound m (by rw[q]),?_⟩)⟩;refine wpIn_mono (Z s _ d i j _ fP (A _ _ _ _ _ fP fP v) U) ?_;have ag:=World.putObj_heap_same (w:=b) (o:=.loop { mk .ready none with state:=.busy }) ah;have ab:(b.putObj (e+1) (.loop { mk .ready none with state:=.busy })).heap[e]? = some (.deferred (some [])):=(World.putObj_heap_other fP).trans r;have ak:kbz X d b (b.putObj (e+1) (.loop { mk .ready none with state:=.busy })):=kbz.put m rfl;intro H a3 W3 h;cases H with
   | normal =>
    obtain⟨M,kx,ae⟩:=h;have B:=M.same _ _ ag rfl;have ac:=M.same _ _ ab rfl;have x:=run_endRound (P:=P) none B;rw[q]at x;refine⟨_,_,x,rfl,⟨A _ _ _ _ _ fP fP ae,z,?_,(World.putObj_heap_other fP).trans ac⟩,(ak.trans kx).trans (kbz.put B rfl)⟩;rw[q];exact World.putObj_heap_same (Y4.1 B).1
   | ret=>exact h.elim
   | exit id=>exact h.elim
   | goto O=>exact h.elim
   | panic c=>exact h.elim
   | outgrown=>exact h.elim
 . -- behind the iterator
   rintro H E ⟨⟨Q,rfl⟩,d,f,h,v,z,m,r⟩;have x:=run_endLoop (P:=P) m (by rw[q];simp);rw[q]at x;exact⟨none,_,x,ad e d f _ fP fP h (A _ _ _ _ _ fP fP v) ((World.putObj_heap_other fP).trans r)⟩
end
section
open Go Go.RowKit Go.Proofs.Tryz
section
variable {md:Region.Mode} {ops:Array Oper} {Q:Exit->Act->Tw->Prop} {S:Tw->Prop} {o:Oper} {a:Act}
def khJ {i fuel:Nat}{l:Array Bool}{w:Tw}(q:Tmp)(hi:ops[i]? = some o)(K:o.dst=some q)(L:o.guard=none)(U:Region.ready md ops l=[i])(s x:Operand)(t:TypeId)
 (R:o.op=.call { callee:=.builtin .append,args:=#[s,x],argTypes:=#[t,t] })
 (base:Nat) (e:TypeId) (f:TypeInfo) (z:Value) (size k:Nat) (Y:prog.underlying t=some (.slice e)) (M:prog.info? e=some f) (hz:f.zero=some z)
 (W:f.size=size) (I:f.bytes=k) (aa:z.cells.size=size) (X:0<size)
 (v:Value) (n:Nat) (p:Tl) (V:a.eval s=v) (T:w.ownsRow base e size v n p)
 (j:Addr) (m c:Nat) (g:Tl) (Z:a.eval x=.slice (some j) m c) (N:g.length=m*size) (P:∀d b,g[d]? = some b->w.cell? (j.add d)=some b) (C:∀b∈g,b.oneCell'=true)
 (O:0<m) (D:n+m<=maxLen) (J:(n+m)*k<=140737488355328) (G:base<=w.1.size) (H:Nat) (E:w.1.size=H)
 (B:∀b h d,d.ownsRow base e size (.slice (some ⟨b,0,none⟩) (n+m) h) (n+m) (p++g)->w.grownBy d v.ownBlock->(v.ownBlock=some b∨b=H)->b<d.1.size->S d/\wpAnyH prog md ops Q S fuel (l.setIfInBounds i true) { tmps:=a.tmps.setIfInBounds q (.slice (some ⟨b,0,none⟩) (n+m) h),defers:=a.defers } d):wpAnyH prog md ops Q S (fuel+1) l a w :=
 wpAnyH_ready U fT (AllReadyH.cons hi (λr F=>step_append_lies w L s x t R base e f z size k Y M hz W I aa X v n p V T j m c g Z N P C O D J G H E (λb h d r u y A=>by
  rw[qr1 K];obtain⟨k1,k2⟩:=B b h d r u y A;exact F.out _ _ k1 (λ_=>k2))) AllReadyH.nil)
end
def iR {p:Prop}(h:p:=by go_wp2;go_ret;exact⟨rfl,rfl⟩):p:=h
def q9t (i:Int):∃b:Tb,b.size<=64/\∀a:Tw,Calls prog 98 #[Yf i] a λc d=>c=Rt (St b)/\d=a:=by rcases (show i=0∨i=1∨i=2∨i=3∨i=4∨i=5∨i=6∨i=7∨i=8∨i=9∨i=10∨(¬ i=0/\¬ i=1/\¬ i=2/\¬ i=3/\¬ i=4/\¬ i=5/\¬ i=6/\¬ i=7/\¬ i=8/\¬ i=9/\¬ i=10) by omega) with rfl | rfl | rfl | rfl | rfl | rfl | rfl | rfl | rfl | rfl | rfl | ⟨b,c,e,f,g,h,j,k,l,m,d⟩;{refine⟨⟨#[]⟩,fS,λa=>?_⟩;go_enter func98,ntmps98;exact iR};{refine⟨⟨#[97]⟩,fS,λa=>?_⟩;go_enter func98,ntmps98;exact iR};{refine⟨⟨#[97,98]⟩,fS,λa=>?_⟩;go_enter func98,ntmps98;exact iR};{refine⟨⟨#[98,97]⟩,fS,λa=>?_⟩;go_enter func98,ntmps98;exact iR};{refine⟨⟨#[49,50]⟩,fS,λa=>?_⟩;go_enter func98,ntmps98;exact iR};{refine⟨⟨#[45,55]⟩,fS,λa=>?_⟩;go_enter func98,ntmps98;exact iR};{refine⟨⟨#[48,48,55]⟩,fS,λa=>?_⟩;go_enter func98,ntmps98;exact iR};{refine⟨⟨#[104,101,108,108,111,32,119,111,114,108,100]⟩,fS,λa=>?_⟩;go_enter func98,ntmps98;exact iR};{refine⟨⟨#[57,50,50,51,51,55,50,48,51,54,56,53,52,55,55,53,56,48,56]⟩,fS,λa=>?_⟩;go_enter func98,ntmps98;exact iR};{refine⟨⟨#[120,59,121,40,92,41]⟩,fS,λa=>?_⟩;go_enter func98,ntmps98;exact iR};{refine⟨⟨#[45,57,50,50,51,51,55,50,48,51,54,56,53,52,55,55,53,56,48,56]⟩,fS,λa=>?_⟩;go_enter func98,ntmps98;exact iR};refine⟨⟨#[98]⟩,fS,λa=>?_⟩;go_enter func98,ntmps98;exact iR
def iQ {p:Prop}(h:p:=by go_enter func137,ntmps137;go_wp2;go_ret;exact⟨rfl,rfl⟩):p:=h
def q4m (i:Int):∃b:Int,(-9223372036854775808<=b/\b<=9223372036854775807)/\∀a:Tw,Calls prog 137 #[Yf i] a λc d=>c=Rt (Yf b)/\d=a:=by rcases (show i=0∨i=1∨i=2∨i=3∨i=4∨i=5∨i=6∨i=7∨i=8∨i=9∨i=10∨i=11∨i=12∨(¬ i=0/\¬ i=1/\¬ i=2/\¬ i=3/\¬ i=4/\¬ i=5/\¬ i=6/\¬ i=7/\¬ i=8/\¬ i=9/\¬ i=10/\¬ i=11/\¬ i=12) by omega) with rfl | rfl | rfl | rfl | rfl | rfl | rfl | rfl | rfl | rfl | rfl | rfl | rfl | ⟨b,c,g,h,j,k,l,m,n,o,d,e,f⟩;{refine⟨0,fS,λa=>?_⟩;exact iQ};{refine⟨1,fS,λa=>?_⟩;exact iQ};{refine⟨-1,fS,λa=>?_⟩;exact iQ};{refine⟨9223372036854775807,fS,λa=>?_⟩;exact iQ};{refine⟨-9223372036854775808,fS,λa=>?_⟩;exact iQ};{refine⟨3037000500,fS,λa=>?_⟩;exact iQ};{refine⟨-3037000500,fS,λa=>?_⟩;exact iQ};{refine⟨4611686018427387904,fS,λa=>?_⟩;exact iQ};{refine⟨7,fS,λa=>?_⟩;exact iQ};{refine⟨-2,fS,λa=>?_⟩;exact iQ};{refine⟨10,fS,λa=>?_⟩;exact iQ};{refine⟨100,fS,λa=>?_⟩;exact iQ};{refine⟨4294967296,fS,λa=>?_⟩;exact iQ};refine⟨3,fS,λa=>?_⟩;exact iQ
def rpA:Nat->Tb
 | 0=>⟨#[97]⟩
 | j+1=>rpA j++rpA j
def rq (s:Tb):Nat->Tb
 | 0=>s
 | k+1=>rq s k++⟨#[98]⟩
def qrf (j:Nat):(rpA j).size=2 ^ j:=by induction j with|zero=>rfl|succ j a=>rw[rpA,Yt,a];omega
def qrg (s:Tb)(k:Nat):(rq s k).size=s.size+k:=by induction k with|zero=>rfl|succ k a=>rw[rq,Yt,a,G9];rfl
def szV:Value->Nat
 | St s=>s.size
 | _=>0
def q4n (g C n:Nat)(hC:2 ^ g=C)(w:C<=512)(u:C<=n)(v:n<2*C):∃b:Tb,b.size=n/\∀a:Tw,Calls prog 138 #[Yf n] a λc d=>c=Rt (St b)/\d=a:=by refine⟨rq (rpA g) (n - C),by rw[qrg,qrf];omega,λa=>?_⟩;have B:(0:Int)<n:=fP;go_enter func138,ntmps138;go_wp2;go_loopw [3] (λd wr=>wr=a/\(d=St ⟨#[]⟩∨∃a,a<=g/\d=St (rpA a))) (λd _=>2000 - szV d);exact⟨rfl,.inl rfl⟩;obtain⟨rfl,rfl | ⟨a,x,rfl⟩⟩:=hrel;{go_wp2;go_roundw;exact⟨trivial,.inr ⟨0,fP,rfl⟩⟩;decide};have h:=qrf a;by_cases A:a<g;{have e:Hi (rpA (a+1)=rpA a++rpA a):=h_ rfl;have f:Hi ((rpA (a+1)).size=2*(rpA a).size):=h_ (by rw[qrf,qrf];omega);have c:(2:Nat) ^ (a+1)<=2 ^ g:=Z5 fP fP;rw[Nat.pow_succ]at c;have i:0<(2:Nat) ^ a:=Nat.pow_pos fP;have b:Hi (0<(rpA a).size/\(rpA a).size*2<=C):=h_ fP;clear h c i;generalize rpA a=c at *;have p:(c.size:Int)*2<=n:=(by have:=b.u;omega);have i:(0:Int)<c.size:=(by have:=b.u;omega);have q:¬ (c.size:Int)=0:=fP;have r:¬ c.size=0:=fP;have j:c.size<=256:=(by have:=b.u;omega);go_wp2;go_roundw;exact⟨trivial,.inr ⟨a+1,fP,by rw[e.u]⟩⟩;rw[<- e.u];simp only[szV];have:=f.u;omega};obtain rfl:a=g:=fP;have o:(rpA a).size=C:=h.trans hC;have i:Hi (∀b,(rq (rpA a) b).size=C+b):=h_ λb=>(by rw[qrg,o]);have k:Hi (rq (rpA a) 0=rpA a):=h_ rfl;have l:Hi (∀b,rq (rpA a) (b+1)=rq (rpA a) b++⟨#[98]⟩):=h_ λ_=>rfl;clear h;generalize h:rpA a=c at *;have j:=h_ h;clear h;have p:¬ (c.size:Int)*2<=n:=fP;have q:¬ (c.size:Int)=0:=fP;have r:¬ c.size=0:=fP;go_wp2;go_loopw [3] (λd h=>h=wr/\∃b,b<=n - C/\d=St (rq c b)) (λd _=>2000 - szV d);exact⟨rfl,0,nZ _,by rw[k.u]⟩;obtain⟨rfl,b,y,rfl⟩:=hrel;have t:=i b;have f:=i (b+1);have e:=h_ (l b);by_cases z:b<n - C;{obtain⟨h,d⟩:=Nq (rq c b);rw[d]at t e⊢;have s:(h.size:Int)<n:=fP;have D:h.size<=1024:=fP;rw[e.u]at f;have m:=h_ f;clear f d;go_wp2;go_roundw;exact⟨trivial,b+1,fP,by rw[e.u]⟩;simp only[szV];have:=m.u;omega};obtain rfl:b=n - C:=fP;have s:¬ ((rq c (n - C)).size:Int)<n:=fP;clear e f;go_wp2;go_ret;exact⟨by rw[j.u];rfl,rfl⟩
def q4q (op:Int)(w:Tw):Gv 61 #[Yf op] w (.agg #[Yf op,Yf 0,Yf 0,Yh,Yh]):=by go_enter func61,ntmps61;go_wp2;exact bQ ⟨rfl,(bR _ _).alloc (nR _) _⟩
def q6p (k n:Int)(s:Tb)(w:Tw):Gv 62 #[.agg (Jm k n s)] w (.agg #[Yf 0,Yf k,Yf n,St s,Yh]):=by go_enter func62,ntmps62;go_wp2;first | exact bQ ⟨rfl,(bR _ _).alloc (nR _) _⟩ | exact bQ ⟨rfl,((bR _ _).alloc (nR _) _).alloc fT _⟩
def Blk.row {w:Tw}{g:Nat}{t:TypeId}{cs:Tl}(b:Blk w g t cs)(a:Tl):Blk (w.setRow g a.toArray) g t a:=setRow_heap w g cs.toArray a.toArray t (0,0) b
def Blk.row_other {w:Tw}{g g':Nat}{t:TypeId}{cs:Tl}(b:Blk w g' t cs)(c:g'≠g)(a:Ta):Blk (w.setRow g a) g' t cs:=(setRow_other w g g' a c).trans b
def qqb {lo hi g:Nat}(a:Tw)(b:Ta)(e:lo<=g)(f:g<hi):Out lo hi a (a.setRow g b):=⟨rfl,rfl,rfl,by simp[World.setRow],λc _ d=>setRow_other a g c b (λc=>d fP)⟩
def q8z {o:Oper}{a:Act}{w:Tw}(t:TypeId)(c:Array (Nat × Operand))(e:o.op=.build t c)(b:Ta)(d:prog.built t (c.map λ(f,g)=>(f,a.eval g)).toList=some b):(execOp a.eval o).run prog w=.ok (.value (.agg b)) w:=by unfold execOp;simp only[e,Sem.run_bind,run_build w t _ b d,Result.andThen_ok];rfl
def q1q {o:Oper}{a:Act}{w:Tw}(ty:TypeId)(x y:Operand)(f:o.op=.store ty x y)(g:Nat)(b:Ta)(i:a.eval x=Yi g 0)(hy:a.eval y=.agg b)(t:TypeId)(c:Ta)(e:w.heap[g]? = some (Cl c t (0,0)))(hi:(prog.info? ty).map (·.size)=some b.size)(h:c.size=b.size)(d:b.all (·.oneCell')=true):(execOp a.eval o).run prog w=.ok .skip (w.setRow g b):=by unfold execOp;simp only[f,i,hy,Instr.storeAt,Instr.sureAddr,Sem.run_bind,Sem.run_pure,Result.andThen_ok,run_storeVar_row w g t ty c b e hi h d]
