import Derived.Test.YtenckgnkjkijnaaGreatDoorW15
set_option linter.all false
set_option maxRecDepth 100000
set_option maxHeartbeats 0
namespace Go.Proofs.YtenckgnkjkijnaaGreatDoor
section
open Go Go.RowKit Go.Proofs.Tryz
def q0j (a:To)(m c:Nat)(b:Nat->Nx)(w:Tw)(j:m<=9223372036854775807)(g:kcq w a m b)(i:∀d,d<m->Fit (b d))(n:kea w)(k:Pow w):Gv 325 #[.slice a m c] w (.string (if vxB b m then (top b m).t else ⟨#[]⟩)):=by have d:=h_ (q9k a m c b w j g i n k);have⟨p,e⟩:=Nq ((if vxB b m then (top b m).t else ⟨#[]⟩));have⟨o,l⟩:=Nq (vxB b m);rw[e,l]at d;rw[e];go_enter func325,ntmps325;go_wp2_with fail;refine cQ d λq h=>?_;have f:=h_ h;go_wp2;go_ret;exact⟨rfl,f⟩
end
section
open Go Go.Proofs.Tryz
def noFd:Fl:=⟨⟨#[]⟩,0,0,[],[],[],[],⟨#[]⟩,[]⟩
def fAt (m:Fm)(k:Nat):Fl:=m.F.getD k noFd
theorem qpi {m:Fm}{k:Nat}(a:k<m.F.length):fAt m k=m.F[k]:=by grind[fAt]
def kcQ (l:List Nx)(x:Tb):Bool:=l.any λn=>decide (n.op=1)&&decide (n.nm=x)
def kbL (m:Fm)(j k:Nat):Bool:=kcQ (fAt m k).is (fAt m j).nm||kcQ (fAt m k).wh (fAt m j).nm
def kdp (m:Fm)(j k:Nat):Bool:=kcQ (fAt m k).va (fAt m j).nm||kcQ (fAt m k).mu (fAt m j).nm
def kc6 (m:Fm)(j k:Nat):Bool:=kbL m j k||kdp m j k
def kdP (m:Fm)(D:List Nat)(k:Nat):Bool:=!decide (k∈D)&&(List.range m.F.length).all λj=>!kbL m j k||decide (j∈D)
def nxt (m:Fm)(D:List Nat):Option Nat:=(List.range m.F.length).find? (kdP m D)
def kak (m:Fm):Nat->List Nat
 | 0=>[]
 | i+1=>match nxt m (kak m i) with
  | some k=>kak m i++[k]
  | none=>kak m i
theorem qlq {m:Fm}{D:List Nat}{k:Nat}(b:nxt m D=some k):k<m.F.length/\kdP m D k=true/\∀a,a<k->kdP m D a=false:=by simp_all[nxt]
def qlo {m:Fm}{D:List Nat}(b:nxt m D=none):∀a,a<m.F.length->kdP m D a=false:=by simp_all[nxt]
def qh5 {m:Fm}{i k:Nat}(a:nxt m (kak m i)=some k):kak m (i+1)=kak m i++[k]:=by show(match nxt m (kak m i) with | some k=>kak m i++[k] | none=>kak m i)=_;rw[a]
def qh4 {m:Fm}{i:Nat}(a:nxt m (kak m i)=none):kak m (i+1)=kak m i:=by show(match nxt m (kak m i) with | some b=>kak m i++[b] | none=>kak m i)=_;rw[a]
theorem qs9 (m:Fm)(i:Nat):∀a,a∈kak m i->a<m.F.length:=by induction i <;> simp_all[nxt,kak] <;> grind
def qcn (m:Fm)(i:Nat):(kak m i).Nodup:=by induction i with|zero=>exact List.nodup_nil|succ i c=>cases a:nxt m (kak m i) with|none=>rw[qh4 a];exact c|some h=>rw[qh5 a,List.nodup_append];refine⟨c,cw,λf d g e b=>?_⟩;rw[Z5.1 e]at b;subst b;have:=(qlq a).2.1;unfold kdP at this;rw[Yk d]at this;simp at this
def qlu (m:Fm)(i:Nat):(kak m i).length<=i:=by induction i <;> simp_all[nxt,kak] <;> grind
def qco {m:Fm}{i:Nat}(c:nxt m (kak m i)=none):∀a,kak m (i+a)=kak m i:=by intro a;induction a with|zero=>rfl|succ a b=>have:nxt m (kak m (i+a))=none:=(by rw[b];exact c);exact(qh4 this).trans b
def khs (r:List Tb)(c:r.Nodup)(z:DataW Unit):∀a (b:a<r.length),(mpR r).atKey (kl r[a]) z=.lit (.int .i64 ((r.length - 1 - a:Nat):Int)):=by induction r with|nil=>intro a b;cases b|cons d r g=>intro a b;rw[V7]at c;rw[show mpR (d :: r)=(mpR r).put (kl d) (.lit (.int .i64 (r.length:Int))) from rfl];cases a with|zero=>rw[Vu,Maps.atKey_put_same (qnm r).isMap (show WideAt.IsKeyLit (kl d) from trivial)];simp|succ a=>have e:a<r.length:=dw;rw[List.getElem_cons_succ,Maps.atKey_put_other (λf=>c.1 (by rw[<- kfF f];exact Yl e)),g c.2 a e];simp only[Yz];congr 3;omega
theorem kht (l:List Tb)(c:l.Nodup)(z:DataW Unit)(k:Nat)(e:k<l.length):(mp l).atKey (kl l[k]) z=.lit (.int .i64 (k:Int)):=by unfold mp;have d:l.reverse.Nodup:=(List.Perm.nodup_iff (List.reverse_perm l)).2 c;have a:=khs l.reverse d z (l.length - 1 - k) (by rw[Zl];omega);have b:l.reverse[l.length - 1 - k]'(by rw[Zl];omega)=l[k]:=(by rw[List.getElem_reverse];congr 1;omega);rw[b,Zl]at a;rw[a];congr 3;omega
def kdc (names:List Tb)(x:Tb):Nat:=names.findIdx λy=>decide (y=x)
theorem qpj {a:List Tb}{x:Tb}(b:x∈a):kdc a x<a.length:=List.findIdx_lt_length.2 ⟨x,b,cw⟩
theorem qk0 {a:List Tb}{x:Tb}(b:x∈a):a[kdc a x]'(qpj b)=x:=by grind[kdc]
def qpk {a:List Tb}(g:a.Nodup){j:Nat}(c:j<a.length):kdc a a[j]=j:=by have f:a[j]∈a:=Yl c;have d:=qk0 f;have e:=qpj f;rcases Nat.lt_trichotomy (kdc a a[j]) j with b | b | b;{exact absurd d (Z4.1 g _ _ e c b)};{exact b};exact absurd d.symm (Z4.1 g _ _ c e b)
def rdL (names:List Tb)(l:List Nx):List Nat:=(l.filter λn=>decide (n.op=1)).map λn=>kdc names n.nm
def qgh {a:List Tb}{l:List Nx}(b:kap a l=true){n:Nx}(d:n∈l)(c:n.op=1):n.nm∈a:=by grind[kap,ql9]
def kcX {c:List Tb}{l:List Nx}(e:kap c l=true):∀b,b∈rdL c l->b<c.length:=by intro b d;unfold rdL at d;obtain⟨f,a,rfl⟩:=Y9.1 d;rw[Vo,Yv]at a;exact qpj (qgh e a.1 a.2)
def qrj {b:List Tb}{l:List Nx}(g:b.Nodup)(d:kap b l=true){j:Nat}(e:j<b.length):j∈rdL b l ↔ kcQ l b[j]=true:=by unfold rdL kcQ;rw[Oe];constructor;{intro f;obtain⟨c,a,rfl⟩:=Y9.1 f;rw[Vo,Yv]at a;exact⟨c,a.1,by rw[Yk a.2,Yk (qk0 (qgh d a.1 a.2)).symm];rfl⟩};rintro⟨c,f,a⟩;rw[Yq,Yv,Yv]at a;exact Y9.2 ⟨c,Vo.2 ⟨f,Yk a.1⟩,by rw[a.2];exact qpk g e⟩
def kbs (m:Fm)(k:Nat):List Nat:=rdL (kaa m) (fAt m k).is++rdL (kaa m) (fAt m k).wh
def VfA.nod {m:Fm}(a:VfA m):(kaa m).Nodup:=by have:=a.f;unfold kaf at this;rw[Yq,Yv]at this;exact this.2
def qb4 (m:Fm):(kaa m).length=m.F.length:=by simp[kaa]
def qb3 {m:Fm}{j:Nat}(a:j<m.F.length):(kaa m)[j]'(by rw[qb4];exact a)=(fAt m j).nm:=by grind[kaa,fAt]
def VfA.knw {m:Fm}(b:VfA m){k:Nat}(a:k<m.F.length):kap (kaa m) (fAt m k).is=true/\kap (kaa m) (fAt m k).wh=true/\kap (kaa m) (fAt m k).va=true/\kap (kaa m) (fAt m k).mu=true:=by have:=b.kn _ (Yl a);rw[qpi a];unfold kai at this;simp only[Yq]at this;exact⟨this.1.1.1,this.1.1.2,this.1.2,this.2⟩
theorem qpm {m:Fm}(c:VfA m){k:Nat}(d:k<m.F.length):∀b,b∈kbs m k->b<m.F.length:=by intro b a;rw[<- qb4 m];rcases Zm.1 a with a | a;{exact kcX (c.knw d).1 b a};exact kcX (c.knw d).2.1 b a
theorem qla {m:Fm}(a:VfA m){j k:Nat}(b:j<m.F.length)(d:k<m.F.length):j∈kbs m k ↔ kbL m j k=true:=by have c:j<(kaa m).length:=(by rw[qb4];exact b);unfold kbs kbL;rw[Zm,Zk,qrj a.nod (a.knw d).1 c,qrj a.nod (a.knw d).2.1 c,qb3 b]
def q9d (m:Fm)(i:Nat):∀c,c∈kak m i->∀b,b<m.F.length->kbL m b c=true->b∈kak m i:=by induction i with|zero=>intro c a;cases a|succ i h=>cases d:nxt m (kak m i) with|none=>rw[qh4 d];exact h|some j=>rw[qh5 d];intro c a b g e;rcases Zm.1 a with a | a;{exact Vk _ (h c a b g e)};rw[Z5.1 a]at e;have f:=(qlq d).2.1;unfold kdP at f;rw[Yq,Y8]at f;have:=f.2 b (Y7.2 g);rw[e]at this;exact Vk _ (by simpa using this)
def kaY (m:Fm)(D:List Nat)(k:Nat):Int:=((kbs m k).filter λj=>!decide (j∈D)).length - (if k∈D then 1 else 0)
def qiw {m:Fm}(e:VfA m)(i:Nat){k:Nat}(f:k<m.F.length):kaY m (kak m i) k=0 ↔ kdP m (kak m i) k=true:=by unfold kaY kdP;have g:((kbs m k).filter λa=>!decide (a∈kak m i)).length=0 ↔ ∀a,a<m.F.length->kbL m a k=true->a∈kak m i:=(by rw[Zg,List.filter_eq_nil_iff];constructor;{intro c a b d;have:=c a ((qla e b f).2 d);simpa using this};intro c a b;have h:=qpm e f a b;simp[c a h ((qla e h f).1 b)]);have h:((List.range m.F.length).all λa=>!kbL m a k||decide (a∈kak m i))=true ↔ ∀a,a<m.F.length->kbL m a k=true->a∈kak m i:=(by rw[Y8];constructor;{intro c a b d;have:=c a (Y7.2 b);rw[d]at this;simpa using this};intro c a b;cases d:kbL m a k;{rfl};simp[c a (List.mem_range.1 b) d]);by_cases b:k∈kak m i;{rw[Yy b,Yk b,g.2 (q9d m i k b)];simp};rw[Yu b,Yj b];rw[show((((kbs m k).filter λa=>!decide (a∈kak m i)).length:Int) - 0=0) ↔ ((kbs m k).filter λa=>!decide (a∈kak m i)).length=0 by omega,g];simp only[Bool.not_false,Zb];exact h.symm
theorem q7z (l D:List Nat)(x:Nat)(b:x ∉ D):(l.filter λa=>!decide (a∈D++[x])).length+l.count x=(l.filter λa=>!decide (a∈D)).length:=by induction l <;> grind
theorem qiv (m:Fm)(D:List Nat)(x:Nat)(a:x ∉ D)(k:Nat):kaY m (D++[x]) k=kaY m D k - (kbs m k).count x - (if k=x then 1 else 0):=by grind[kaY,kbs,q7z]
def qe5 (m:Fm)(k:Nat):kaY m [] k=(kbs m k).length:=by unfold kaY;rw[show(kbs m k).filter (λa=>!decide (a∈([]:List Nat)))=kbs m k from List.filter_eq_self.2 (λ_ _=>by simp)];simp
def kbd (m:Fm)(k j:Nat):List Nat:=(List.range k).flatMap λi=>List.replicate ((kbs m i).count j) i
def qfq (m:Fm)(j:Nat):kbd m 0 j=[]:=rfl
theorem qfp (m:Fm)(k j:Nat):kbd m (k+1) j=kbd m k j++List.replicate ((kbs m k).count j) k:=by unfold kbd;rw[Zh,Oc];simp
def qpn (m:Fm)(k j:Nat):∀a,a∈kbd m k j->a<k:=by grind[kbd]
theorem qb5 (m:Fm)(j i:Nat):∀a,(kbd m a j).count i=if i<a then (kbs m i).count j else 0:=by intro a;induction a with|zero=>rfl|succ a e=>rw[qfp,List.count_append,e,List.count_replicate];by_cases b:i<a;{have c:(a==i)=false:=Yh.2 cr;rw[Yy b,Yy (show i<a+1 by omega),c];simp};by_cases d:i=a;{subst d;rw[Yu b,Yy (show i<i+1 by omega)];simp};have c:(a==i)=false:=Yh.2 cr;rw[Yu b,Yu (show ¬ i<a+1 by omega),c];simp
def qnd (l:List Nat)(b:∀a,a∈l->a=0):l.sum=0:=by induction l <;> simp_all
def qi6 (n:Nat)(l:List Nat)(e:∀b,b∈l->b<n):((List.range n).map λa=>l.count a).sum=l.length:=by induction l with|nil=>refine qnd _ λi d=>?_;obtain⟨a,-,rfl⟩:=Y9.1 d;rfl|cons b l f=>have m:=e b Ze;have g:=f λi d=>e i (Zu _ d);have c:((List.range n).map λa=>(b :: l).count a).sum=((List.range n).map λa=>l.count a).sum+((List.range n).map λa=>if a=b then 1 else 0).sum:=(by clear f g e m;induction n with|zero=>rfl|succ n h=>rw[Zh];simp only[Zp,Ol,Va,Ow,Ox,Gc,Zt];rw[h,List.count_cons];have:(if (b==n)=true then 1 else 0)=if n=b then 1 else 0:=(by by_cases c:n=b;{subst c;simp};rw[Yu c,Yu cz]);rw[this];omega);have j:((List.range n).map λa=>if a=b then 1 else 0).sum=1:=(by clear c f g e;induction n with|zero=>omega|succ n h=>rw[Zh];simp only[Zp,Ol,Va,Ow,Ox,Gc,Zt];by_cases c:n=b;{subst c;rw[Yy rfl];have:((List.range n).map λa=>if a=n then 1 else 0).sum=0:=(by refine qnd _ λi d=>?_;obtain⟨a,k,rfl⟩:=Y9.1 d;rw[Yu (by have:=Y7.1 k;omega)]);omega};rw[Yu c,h cr]);rw[c,j,g,Yz]
inductive Rch (m:Fm)(k:Nat):Nat->Prop
 | one {i:Nat}:i<m.F.length->kbL m k i=true->Rch m k i
 | step {j i:Nat}:Rch m k j->i<m.F.length->kbL m j i=true->Rch m k i
def Rch.lt {m:Fm}{k i:Nat}(a:Rch m k i):i<m.F.length:=by cases a <;> assumption
def q4d {m:Fm}{k:Nat}{M:Nat->Bool}(d:∀b,(b=k∨M b=true)->∀a,a<m.F.length->kbL m b a=true->M a=true):∀a,Rch m k a->M a=true:=by intro a e;induction e with|one c b=>exact d k (.inl rfl) _ c b|step _ c b f=>exact d _ (.inr f) _ c b
end
section
open Go Go.RowKit Go.Proofs.Tryz
def up {α:Type}(f:Nat->α)(j:Nat)(v:α):Nat->α:=λi=>if i=j then v else f i
theorem kaX {a:Type}(f:Nat->a)(j:Nat)(v:a):up f j v j=v:=Yy rfl
theorem kaI {a:Type}(f:Nat->a){i j:Nat}(v:a)(b:i≠j):up f j v i=f i:=Yu b
def kdK {b:Type}(g:b->Value)(f:Nat->b)(n j:Nat)(v:b):((List.range n).map λa=>g (f a)).set j (g v)=(List.range n).map λa=>g (up f j v a):=by refine List.ext_getElem cw λe d h=>?_;simp only[List.length_set,Zw,O5]at d;rw[List.getElem_set];simp only[List.getElem_map,List.getElem_range];by_cases a:j=e;{subst a;rw[Yy rfl,kaX]};rw[Yu a,kaI f v (λc=>a c.symm)]
def zs (n:Nat)(f:Nat->Int):Tl:=(List.range n).map λk=>.int .i64 (f k)
def keB {n i:Nat}(f:Nat->Int)(a:i<n):(zs n f)[i]? = some (Yb (f i)):=by grind[zs]
theorem keC {n j:Nat}(f:Nat->Int)(v:Int):(zs n f).set j (Yb v)=zs n (up f j v):=kdK (λa=>Yb a) f n j v
theorem qo4 {n:Nat}{f g:Nat->Int}(b:∀a,a<n->f a=g a):zs n f=zs n g:=Zq λa c=>by rw[b a (Y7.1 c)]
def qcq {X:Nat->Prop}{w w':Tw}{base n k:Nat}{t:TypeId}{v:Value}{x:Tl}(c:w.ownsRow base t k v n x)(j:kaE X w w')(l:∀a,X a->a<base):w'.ownsRow base t k v n x:=by refine⟨c.1,?_⟩;rcases c.2 with f | ⟨a,d,b,e,h,i,m⟩;{exact .inl f};exact .inr ⟨a,d,b,e,h,j.same a b t _ (λg=>by have:=l a g;omega) i,m⟩
def qhd {w w':Tw}{base n k:Nat}{t:TypeId}{v:Value}{x:Tl}(b:w.ownsRow base t k v n x)(a:Bw w w'):w'.ownsRow base t k v n x :=
 b.kept (row:=none) ⟨a.os,a.tape,a.output,a.size,λd c _=>a.block d c⟩ (Classical.em _)
structure Fam (w:Tw)(base n:Nat)(V:Nat->Value)(L:Nat->List Nat):Prop where
 own:∀j,j<n->w.ownsRow base 3 1 (V j) (L j).length (ui (L j))
 apart:∀i j,i<n->j<n->i≠j->(V i).ownBlock=none∨(V i).ownBlock≠(V j).ownBlock
def Fam.mono {w w':Tw}{base n:Nat}{a:Nat->Value}{L:Nat->List Nat}(b:Fam w base n a L)(c:Bw w w'):Fam w' base n a L:=⟨λe d=>qhd (b.own e d) c,b.apart⟩
def Fam.keep {X:Nat->Prop}{w w':Tw}{base n:Nat}{a:Nat->Value}{L:Nat->List Nat}(b:Fam w base n a L)(d:kaE X w w')(e:∀c,X c->c<base):Fam w' base n a L:=⟨λf c=>qcq (b.own f c) d e,b.apart⟩
def Fam.none (w:Tw)(base n:Nat):Fam w base n (λ_=>.slice none 0 0) (λ_=>[]):=⟨λ_ _=>World.ownsRow_nil _ _ _ _,λ_ _ _ _ _=>.inl rfl⟩
def Fam.sub {w:Tw}{base n k:Nat}{b:Nat->Value}{L:Nat->List Nat}(c:Fam w base n b L)(g:k<=n):Fam w base k b L:=⟨λa d=>c.own a cr,λe a f d=>c.apart e a cr cr⟩
def Fam.congr {w:Tw}{base n:Nat}{e f:Nat->Value}{L d:Nat->List Nat}(g:Fam w base n e L)(c:∀a,a<n->f a=e a)(j:∀a,a<n->d a=L a):Fam w base n f d :=
 ⟨λa b=>by rw[c a b,j a b];exact g.own a b,λi a h b k=>by rw[c i h,c a b];exact g.apart i a h b k⟩
def keD {w:Tw}{base n i k:Nat}{t:TypeId}{v:Value}{x:Tl}(a:w.ownsRow base t i v n x)(b:k ≥ w.1.size):v.ownBlock≠some k:=λt=>by have:=(a.lt k t).2;omega
def Fam.snoc {w w':Tw}{base n:Nat}{e:Nat->Value}{L:Nat->List Nat}{v:Value}{l:List Nat}(f:Fam w base n e L)(j:Bw w w')(t:base<=w.1.size)(g:w'.ownsRow w.1.size 3 1 v l.length (ui l)):Fam w' base (n+1) (up e n v) (up L n l):=by have s:w'.ownsRow base 3 1 v l.length (ui l):=(by refine⟨g.1,?_⟩;rcases g.2 with i | ⟨d,a,b,c,j,h⟩;{exact .inl i};exact .inr ⟨d,a,b,c,cr,h⟩);refine⟨λd r=>?_,λa d k r m=>?_⟩;{by_cases b:d=n;{subst b;rw[kaX,kaX];exact s};rw[kaI _ _ b,kaI _ _ b];exact qhd (f.own d cr) j};have o:∀a,a<n->(e a).ownBlock=Option.none∨(e a).ownBlock≠v.ownBlock:=λa k=>(by cases p:(e a).ownBlock with|none=>exact .inl rfl|some h=>refine .inr λq=>?_;have c:=((f.own a k).lt h p).2;have i:=(g.lt h q.symm).1;omega);by_cases i:a=n;{subst i;rw[kaX,kaI _ _ (λb=>m b.symm)];rcases o d cr with c | c;{rw[c];cases v.ownBlock with|none=>exact .inl rfl|some h=>exact .inr cw};exact .inr λb=>c b.symm};rw[kaI _ _ i];by_cases b:d=n;{subst b;rw[kaX];exact o a cr};rw[kaI _ _ b];exact f.apart a d cr cr m
def Fam.add {w w':Tw}{base n j x:Nat}{g:Nat->Value}{L:Nat->List Nat}{v:Value}(d:Fam w base n g L)(p:j<n)(q:w'.ownsRow base 3 1 v (L j++[x]).length (ui (L j++[x])))(o:w.grownBy w' (g j).ownBlock)(m:v.ownBlock=(g j).ownBlock∨v.ownBlock=some w.1.size):Fam w' base n (up g j v) (up L j (L j++[x])):=by refine⟨λb e=>?_,λb f e h i=>?_⟩;{by_cases a:b=j;{subst a;rw[kaX,kaX];exact q};rw[kaI _ _ a,kaI _ _ a];exact(d.own b e).kept o (d.apart b j e p a)};by_cases a:b=j;{subst a;rw[kaX,kaI _ _ (λa=>i a.symm)];rcases m with c | c;{rw[c];exact d.apart b f e h i};exact .inr λk=>keD (d.own f h) (nR _) (k.symm.trans c)};rw[kaI _ _ a];by_cases l:f=j;{subst l;rw[kaX];rcases m with c | c;{rw[c];exact d.apart b f e h i};exact .inr λk=>keD (d.own b e) (nR _) (k.trans c)};rw[kaI _ _ l];exact d.apart b f e h i
def kbb (w:Tw)(F n:Nat)(V:Nat->Value):Prop:=Blk w F 89 ((List.range n).map V)
def kbb.at {w:Tw}{F n j:Nat}{a:Nat->Value}(b:kbb w F n a)(c:j<n):w.cell? ⟨F,j,none⟩=some (a j):=by have:=Blk.cell b j;rw[this];simp[c]
def kbb.congr {w:Tw}{F n:Nat}{b c:Nat->Value}(d:kbb w F n b)(e:∀a,a<n->c a=b a):kbb w F n c:=by unfold kbb;rw[Zq λa f=>e a (Y7.1 f)];exact d
def qn8 {w w':Tw}{base F n N j x:Nat}{b:Nat->Value}{L:Nat->List Nat}{v:Value}(i:kbb w F n b)(m:F<base)(c:Fam w base N b L)(f:j<N)(l:w'.ownsRow base 3 1 v (L j++[x]).length (ui (L j++[x])))(e:w.grownBy w' (b j).ownBlock)(k:v.ownBlock=(b j).ownBlock∨v.ownBlock=some w.1.size):kbb (w'.setCell ⟨F,j,none⟩ v) F n (up b j v)/\Fam (w'.setCell ⟨F,j,none⟩ v) base N (up b j v) (up L j (L j++[x])):=by constructor;{have h:Blk w' F 89 ((List.range n).map b):=Blk.grown i e (λd=>by have:=((c.own j f).lt F d.symm).1;omega);have d:=h.set j v;rw[show((List.range n).map b).set j v=(List.range n).map λg=>up b j v g from kdK (λx=>x) b n j v]at d;exact d};exact(c.add f l e k).keep (X:=λd=>d=F) (kaE.set (a:=⟨F,j,none⟩) v rfl) (λg d=>by omega)
def qah {W w w':Tw}{base F j n:Nat}{v u:Value}{x:Tl}(c:Below F W w)(g:F<base)(b:F<w.1.size)(e:w.ownsRow base 3 1 u n x)(d:w.grownBy w' u.ownBlock):Below F W (w'.setCell ⟨F,j,none⟩ v) :=
 (c.grown d (Nat.le_of_lt b) (λf a=>by have:=(e.lt f a).1;omega)).setCell (p:=⟨F,j,none⟩) (nR _) v
def kdb (m:Fm)(k i j:Nat):List Nat:=kbd m k j++List.replicate (((kbs m k).take i).count j) k
def qfo (m:Fm)(k:Nat):kdb m k 0=kbd m k:=by grind[kdb]
def qfm (m:Fm)(k:Nat):kdb m k (kbs m k).length=kbd m (k+1):=by grind[kdb,kbs,kbd,qfp]
def eV {p:Prop}(h:p:=by rw[kaI _ _ a,List.count_singleton,Yu (by simpa using λb=>a b.symm),Zt]):p:=h
def qfn {m:Fm}{k i:Nat}(b:i<(kbs m k).length):kdb m k (i+1)=up (kdb m k i) (kbs m k)[i] (kdb m k i (kbs m k)[i]++[k]):=by funext j;unfold kdb;rw[Ys b,List.count_append];by_cases a:j=(kbs m k)[i];{subst a;rw[kaX,List.count_singleton_self,V8,List.replicate_succ']};exact eV
def qmv {l:List Nx}(a:kac l=true):l.length<=1000:=by unfold kac at a;rw[Zk]at a;rcases a with a | a;{have:=Zd a;omega};unfold vxL at a;exact((qug _ _).1 a).2.1
def qk2 {m:Fm}(e:VfA m){k:Nat}(c:k<m.F.length):(kbs m k).length<=2000:=by have d:=(q7y _ _ _).1 (e.fi _ (Yl c));have f:=qmv d.i;have g:=qmv d.h;have b:∀a,(rdL (kaa m) a).length<=a.length:=λa=>(by unfold rdL;rw[Zw];exact Vp _ _);have a:=b m.F[k].is;have h:=b m.F[k].wh;unfold kbs;rw[qpi c,Yn];omega
def qk4 {m:Fm}(c:VfA m)(j:Nat):∀b,b<=m.F.length->(kbd m b j).length<=b*2000:=by intro b;induction b with|zero=>intro _;simp[qfq]|succ b d=>intro h;have e:=qk2 c (show b<m.F.length by omega);have f:=Oo (a:=j) (l:=kbs m b);have g:=d cr;rw[qfp,Yn,List.length_replicate];omega
def qk3 {m:Fm}(b:VfA m){k:Nat}(c:k<m.F.length)(i j:Nat):(kdb m k i j).length<=402000:=by have d:=qk4 b j k cr;have e:=Oo (a:=j) (l:=(kbs m k).take i);have f:=qk2 b c;have g:=b.nf;have h:((kbs m k).take i).length<=(kbs m k).length:=List.length_take_le' _ _;unfold kdb;rw[Yn,List.length_replicate];omega
def kdE (L:Nat->List Nat)(j i:Nat):Nat:=((List.range j).map λp=>(L p).count i).sum
def qf4 (L:Nat->List Nat)(i:Nat):kdE L 0 i=0:=rfl
theorem qf2 (L:Nat->List Nat)(j i:Nat):kdE L (j+1) i=kdE L j i+(L j).count i:=by unfold kdE;rw[Zh];simp
def kcD (L:Nat->List Nat)(j p i:Nat):Nat:=kdE L j i+((L j).take p).count i
def qf7 (L:Nat->List Nat)(j:Nat):kcD L j 0=kdE L j:=by grind[kcD]
def qf5 (L:Nat->List Nat)(j:Nat):kcD L j (L j).length=kdE L (j+1):=by grind[kcD,kdE,qf2]
theorem qf6 {L:Nat->List Nat}{j p:Nat}(b:p<(L j).length)(i:Nat):kcD L j (p+1) i=up (kcD L j p) (L j)[p] (kcD L j p (L j)[p]+1) i:=by unfold kcD;rw[Ys b,List.count_append];by_cases a:i=(L j)[p];{subst a;rw[kaX,List.count_singleton_self];omega};exact eV
def qf3 {m:Fm}(a:VfA m){i:Nat}(hi:i<m.F.length):((kdE (kbd m m.F.length) m.F.length i:Nat):Int)=kaY m [] i:=by rw[qe5];unfold kdE;rw[Zq (λb _=>by rw[qb5,Yy hi]),qi6 _ _ (qpm a hi)]
def qp1 {L:Nat->List Nat}{B:Nat}(c:∀b,(L b).length<=B)(i:Nat):∀b,kdE L b i<=b*B:=by intro b;induction b with|zero=>simp[qf4]|succ b d=>have:=Oo (a:=i) (l:=L b);have:=c b;rw[qf2,Z6];omega
def kbp (m:Fm)(D:List Nat)(x p k:Nat):Int:=kaY m D k - (if k=x then 1 else 0) - ((kbd m m.F.length x).take p).count k
def qe4 (m:Fm)(D:List Nat)(x k:Nat):up (kaY m D) x (kaY m D x - 1) k=kbp m D x 0 k:=by grind[kbp,up]
def qe3 {m:Fm}{D:List Nat}{x p:Nat}(b:p<(kbd m m.F.length x).length)(k:Nat):up (kbp m D x p) (kbd m m.F.length x)[p] (kbp m D x p (kbd m m.F.length x)[p] - 1) k=kbp m D x (p+1) k:=by unfold kbp;rw[Ys b,List.count_append];by_cases a:k=(kbd m m.F.length x)[p];{subst a;rw[kaX,List.count_singleton_self];omega};have c:((kbd m m.F.length x)[p]==k)=false:=Yh.2 λb=>a b.symm;rw[kaI _ _ a,List.count_singleton,c];simp
def qe2 {m:Fm}{D:List Nat}{x k:Nat}(b:x ∉ D)(a:k<m.F.length):kbp m D x (kbd m m.F.length x).length k=kaY m (D++[x]) k:=by grind[kbp,kbd,kaY,qiv,qb5]
end
section
open Go Go.Proofs.Tryz
structure kcd (N:Nat)(le:Nat->Nat->Prop)(jn:Nat->Nat->Nat)(bot:Nat):Prop where
 refl:∀a,a<N->le a a
 trans:∀a b c,a<N->b<N->c<N->le a b->le b c->le a c
 anti:∀a b,a<N->b<N->le a b->le b a->a=b
 bl:bot<N
 bot:∀a,a<N->le bot a
 jl:∀a b,a<N->b<N->jn a b<N
 j1:∀a b,a<N->b<N->le a (jn a b)
 j2:∀a b,a<N->b<N->le b (jn a b)
 j3:∀a b c,a<N->b<N->c<N->le a c->le b c->le (jn a b) c
section
variable {N:Nat} {le:Nat->Nat->Prop} {jn:Nat->Nat->Nat} {bot:Nat}
def kcd.fold_lt (L:kcd N le jn bot):∀(c:List Nat) (a:Nat),a<N->(∀b,b∈c->b<N)->c.foldl jn a<N:=by intro c;induction c with|nil=>intro a d _;exact d|cons b c g=>intro a d e;exact g (jn a b) (L.jl a b d (e b Ze)) λh f=>e h (Zu _ f)
def kcd.fold_ge (L:kcd N le jn bot):∀(c:List Nat) (a:Nat),a<N->(∀b,b∈c->b<N)->le a (c.foldl jn a)/\∀b,b∈c->le b (c.foldl jn a):=by intro c;induction c with|nil=>intro a e _;exact⟨L.refl a e,λb f=>by cases f⟩|cons b c n=>intro a e i;have f:=i b Ze;have h:=L.jl a b e f;have j:∀d,d∈c->d<N:=λd g=>i d (Zu _ g);have⟨l,m⟩:=n (jn a b) h j;have k:=L.fold_lt c (jn a b) h j;refine⟨L.trans _ _ _ e h k (L.j1 a b e f) l,λd g=>?_⟩;rcases Vh.1 g with rfl | g;{exact L.trans _ _ _ f h k (L.j2 a d e f) l};exact m d g
def kcd.fold_le (L:kcd N le jn bot):∀(d:List Nat) (a b:Nat),a<N->b<N->(∀c,c∈d->c<N/\le c b)->le a b->le (d.foldl jn a) b:=by intro d;induction d with|nil=>intro a b _ _ _ e;exact e|cons c d k=>intro a b g h e i;have f:=e c Ze;exact k (jn a c) b (L.jl a c g f.1) h (λl j=>e l (Zu _ j)) (L.j3 a c b g f.1 h i f.2)
structure Sol (m:Fm)(N:Nat)(le:Nat->Nat->Prop)(f:Nat->Nat):Prop where
 lt:∀k,k<m.F.length->f k<N
 decl:∀k,k<m.F.length->0<=(fAt m k).lb->(f k:Int)=(fAt m k).lb
 up:∀k,k<m.F.length->(fAt m k).lb<0->∀j,j<m.F.length->kc6 m j k=true->le (f j) (f k)
def Low (m:Fm)(N:Nat)(le:Nat->Nat->Prop)(f:Nat->Nat):Prop:=∀g,Sol m N le g->∀k,k<m.F.length->le (f k) (g k)
def qgr (L:kcd N le jn bot){m:Fm}{f g:Nat->Nat}(c:Sol m N le f)(d:Sol m N le g)(e:Low m N le f)(h:Low m N le g):∀a,a<m.F.length->f a=g a :=
 λa b=>L.anti _ _ (c.lt a b) (d.lt a b) (e g d a b) (h f c a b)
def kaN (m:Fm)(bot k:Nat):Nat:=if (fAt m k).lb<0 then bot else (fAt m k).lb.toNat
def qi4 (L:kcd N le jn bot){m:Fm}:Low m N le (kaN m bot):=by intro g hg k hk;unfold kaN;split;{exact L.bot _ (hg.lt k hk)};rename_i h;have:=hg.decl k hk cr;rw[show(fAt m k).lb.toNat=g k by omega];exact L.refl _ (hg.lt k hk)
def qmr (L:kcd N le jn bot){m:Fm}{f:Nat->Nat}(p:Low m N le f)(j:∀k,k<m.F.length->f k<N){k:Nat}(h:k<m.F.length)(l:(fAt m k).lb<0)(a:Nat)(n:a<N)(o:∀b,Sol m N le b->le a (b k))(i:List Nat)(r:∀g,g∈i->∃c,c<m.F.length/\kc6 m c k=true/\g=f c):∀b,Sol m N le b->le (i.foldl jn a) (b k):=by intro b d;refine L.fold_le i a (b k) n (d.lt k h) (λg s=>?_) (o b d);obtain⟨c,e,q,rfl⟩:=r g s;exact⟨j c e,L.trans _ _ _ (j c e) (d.lt c e) (d.lt k h) (p b d c e) (d.up k h l c e q)⟩
end
def kaQ (M:Nat->Bool)(k:Nat)(L:List Nat):List Nat:=L.filter λx=>decide (x=k)||M x
def qav (M:Nat->Bool)(k:Nat)(L:List Nat)(x:Nat):kaQ M k (L++[x])=kaQ M k L++if (decide (x=k)||M x)=true then [x] else []:=by unfold kaQ;rw[Oi];congr 1;by_cases a:(decide (x=k)||M x)=true;{rw[Yy a];simp[a]};rw[Yu a];simp[a]
theorem qmj {m:Fm}{k x:Nat}{D:List Nat}(f:k<m.F.length)(j:nxt m D=some x):Rch m k x ↔ ∃a,a∈D/\a<m.F.length/\kbL m a x=true/\(a=k∨Rch m k a):=by obtain⟨g,d,-⟩:=qlq j;have e:∀a,a<m.F.length->kbL m a x=true->a∈D:=(by intro a c b;unfold kdP at d;rw[Yq,Y8]at d;have:=d.2 a (Y7.2 c);rw[b]at this;simpa using this);constructor;{intro h;cases h with|one i b=>exact⟨k,e k f b,f,b,.inl rfl⟩|step c i b=>exact⟨_,e _ c.lt b,c.lt,b,.inr c⟩};rintro⟨a,-,-,b,rfl | c⟩;{exact .one g b};exact .step c g b
def kbE (M:Nat->Bool)(n:Nat):Nat:=((List.range n).filter M).length
theorem qf1 (M:Nat->Bool)(n:Nat):kbE M (n+1)=kbE M n+if M n=true then 1 else 0:=by unfold kbE;rw[Zh,Oi,Yn];cases a:M n <;> simp[a]
theorem qoy (M:Nat->Bool)(n:Nat):kbE M n<=n:=by grind[kbE]
def qjk {M:Nat->Bool}{n:Nat}(b:n<=kbE M n):∀a,a<n->M a=true:=by induction n <;> grind[kbE,qoy,qf1]
theorem qas {M M':Nat->Bool}{n:Nat}(b:∀a,a<n->M a=M' a):kbE M n=kbE M' n:=by unfold kbE;rw[List.filter_congr λa c=>b a (Y7.1 c)]
def qp0 {M:Nat->Bool}{n i:Nat}(hi:i<n)(a:M i=false):kbE (up M i true) n=kbE M n+1:=by induction n <;> grind[up,kbE,qf1,kaX,qas,kaI]
def Snd (m:Fm)(k:Nat)(M:Nat->Bool):Prop:=∀i,M i=true->Rch m k i
def Snd.up {m:Fm}{k i:Nat}{M:Nat->Bool}(d:Snd m k M)(e:Rch m k i):Snd m k (up M i true):=λc b=>by by_cases a:c=i;{subst a;exact e};rw[kaI _ _ a]at b;exact d c b
def Cls (m:Fm)(k:Nat)(M:Nat->Bool)(j:Nat):Prop:=(j=k∨M j=true)->∀i,i<m.F.length->kbL m j i=true->M i=true
def qmi {m:Fm}{k:Nat}{M:Nat->Bool}(b:Snd m k M)(c:m.F.length<=kbE M m.F.length):∀a,a<m.F.length->(M a=true ↔ Rch m k a):=λa d=>⟨b a,λ_=>qjk c a d⟩
def qd5 {m:Fm}{k:Nat}{M:Nat->Bool}(g:k<m.F.length)(d:Snd m k M)(f:∀b,b<m.F.length->Cls m k M b):∀a,a<m.F.length->(M a=true ↔ Rch m k a):=λa _ =>
 ⟨d a,q4d (λb e=>f b (by
  rcases e with c | c
  . rw[c];exact g
  . exact(d b c).lt) e) a⟩
def qmk {m:Fm}{k j i:Nat}(c:j=k∨Rch m k j)(hi:i<m.F.length)(b:kbL m j i=true):Rch m k i:=by rcases c with a | a;{subst a;exact .one hi b};exact .step a hi b
def ms (n:Nat)(M:Nat->Bool):Tl:=(List.range n).map λk=>.bool (M k)
def kb1 {n i:Nat}(M:Nat->Bool)(a:i<n):(ms n M)[i]? = some (.bool (M i)):=by grind[ms]
def kcY {n j:Nat}(M:Nat->Bool)(v:Bool):(ms n M).set j (.bool v)=ms n (up M j v):=kdK (λa=>.bool a) M n j v
def qle {n:Nat}{M M':Nat->Bool}(b:∀a,a<n->M a=M' a):ms n M=ms n M':=Zq λa c=>by rw[b a (Y7.1 c)]
def keT (m:Fm)(kz:Int)(c l:List Nat):Prop:=(¬ (0<=kz/\kz<c.length)/\l=[])∨(0<=kz/\kz<c.length/\∃M:Nat->Bool,(∀i,i<m.F.length->i≠kz.toNat->(M i=true ↔ Rch m kz.toNat i))/\l=kaQ M kz.toNat c)
def keT.eq {m:Fm}{j:Int}{c l r:List Nat}(p:∀a,a∈c->a<m.F.length)(u:keT m j c l)(o:keT m j c r):l=r:=by rcases u with ⟨f,d⟩ | ⟨f,v,s,w,d⟩;{rcases o with ⟨-,e⟩ | ⟨g,b,-⟩;{rw[d,e]};exact absurd ⟨g,b⟩ f};rcases o with ⟨g,-⟩ | ⟨-,-,t,x,e⟩;{exact absurd ⟨f,v⟩ g};rw[d,e];unfold kaQ;refine List.filter_congr λa q=>?_;by_cases b:a=j.toNat;{rw[Yk b];rfl};rw[Yj b,Vy,Vy];have k:=w a (p a q) b;have n:=x a (p a q) b;cases h:s a <;> cases i:t a;{rfl};{rw[k.2 (n.1 i)]at h;cases h};{rw[n.2 (k.1 h)]at i;cases i};rfl
def keT.len {m:Fm}{d:Int}{c l:List Nat}(b:keT m d c l):l.length<=c.length:=by rcases b with ⟨-,a⟩ | ⟨-,-,e,-,a⟩;{rw[a];simp};rw[a];exact Vp _ _
