import Derived.Test.YtmdjbldpclbkhaaGreatDoorW18
import Derived.Test.YtmdjbldpclbkhaaGreatDoorW21
import Derived.Test.YtmdjbldpclbkhaaGreatDoorW13
import Derived.Deep.DeepCutAuto
set_option linter.all false
set_option maxRecDepth 100000
set_option maxHeartbeats 0
namespace Go.Proofs.YtmdjbldpclbkhaaGreatDoor
open Value renaming slice->Sl,string->St,bool->Bo
open Obj renaming cells->Cl
open Ending renaming returned->Rt
section
open Go Go.Proofs.Tryz
def noFd:Fl:=⟨⟨#[]⟩,0,0,[],[],[],[],⟨#[]⟩,[]⟩
def fAt (m:Fm)(k:Nat):Fl:=m.F.getD k noFd
theorem qnr {m:Fm}{k:Nat}(a:k<m.F.length):fAt m k=m.F[k]:=by grind[fAt]
def kcR (l:List Nx)(x:Tb):Bool:=l.any λn=>decide (n.op=1)&&decide (n.nm=x)
def kbZ (m:Fm)(j k:Nat):Bool:=kcR (fAt m k).is (fAt m j).nm||kcR (fAt m k).wh (fAt m j).nm
def kfp (m:Fm)(j k:Nat):Bool:=kcR (fAt m k).va (fAt m j).nm||kcR (fAt m k).mu (fAt m j).nm
def kc2 (m:Fm)(j k:Nat):Bool:=kbZ m j k||kfp m j k
def keL (m:Fm)(D:List Nat)(k:Nat):Bool:=!decide (k∈D)&&(List.range m.F.length).all λj=>!kbZ m j k||decide (j∈D)
def nxt (m:Fm)(D:List Nat):Option Nat:=(List.range m.F.length).find? (keL m D)
def kau (m:Fm):Nat->List Nat
 | 0=>[]
 | i+1=>match nxt m (kau m i) with
  | some k=>kau m i++[k]
  | none=>kau m i
def qjj {m:Fm}{D:List Nat}{k:Nat}(b:nxt m D=some k):k<m.F.length/\keL m D k=true/\∀a,a<k->keL m D a=false:=by simp_all[nxt]
def qji {m:Fm}{D:List Nat}(b:nxt m D=none):∀a,a<m.F.length->keL m D a=false:=by simp_all[nxt]
def qei {m:Fm}{i k:Nat}(a:nxt m (kau m i)=some k):kau m (i+1)=kau m i++[k]:=by show(match nxt m (kau m i) with | some k=>kau m i++[k] | none=>kau m i)=_;rw[a]
def qeh {m:Fm}{i:Nat}(a:nxt m (kau m i)=none):kau m (i+1)=kau m i:=by show(match nxt m (kau m i) with | some b=>kau m i++[b] | none=>kau m i)=_;rw[a]
def qq9 (m:Fm)(i:Nat):∀a,a∈kau m i->a<m.F.length:=by induction i <;> simp_all[nxt,kau] <;> grind
def qam (m:Fm)(i:Nat):(kau m i).Nodup:=by induction i with|zero=>exact List.nodup_nil|succ i c=>cases a:nxt m (kau m i) with|none=>rw[qeh a];exact c|some h=>rw[qei a,List.nodup_append];refine⟨c,fT,λf d g e b=>?_⟩;rw[Y9.1 e]at b;subst b;have:=(qjj a).2.1;unfold keL at this;rw[Ys d]at this;simp at this
def qan {m:Fm}{i:Nat}(c:nxt m (kau m i)=none):∀a,kau m (i+a)=kau m i:=by intro a;induction a with|zero=>rfl|succ a b=>have:nxt m (kau m (i+a))=none:=(by rw[b];exact c);exact(qeh this).trans b
def khq (r:List Tb)(c:r.Nodup)(z:DataW Unit):∀a (b:a<r.length),(mpR r).atKey (kl r[a]) z=.lit (.int .i64 ((r.length - 1 - a:Nat):Int)):=by induction r with|nil=>intro a b;cases b|cons d r g=>intro a b;rw[Gx]at c;rw[show mpR (d :: r)=(mpR r).put (kl d) (.lit (.int .i64 (r.length:Int))) from rfl];cases a with|zero=>rw[Oo,Maps.atKey_put_same (qln r).isMap (show WideAt.IsKeyLit (kl d) from trivial)];simp|succ a=>have e:a<r.length:=gC;rw[List.getElem_cons_succ,Maps.atKey_put_other (λf=>c.1 (by rw[<- kfl f];exact Yr e)),g c.2 a e];simp only[Yy];congr 3;omega
theorem khr (l:List Tb)(c:l.Nodup)(z:DataW Unit)(k:Nat)(e:k<l.length):(mp l).atKey (kl l[k]) z=.lit (.int .i64 (k:Int)):=by unfold mp;have d:l.reverse.Nodup:=(List.Perm.nodup_iff (List.reverse_perm l)).2 c;have a:=khq l.reverse d z (l.length - 1 - k) (by rw[Zo];omega);have b:l.reverse[l.length - 1 - k]'(by rw[Zo];omega)=l[k]:=(by rw[List.getElem_reverse];congr 1;omega);rw[b,Zo]at a;rw[a];congr 3;omega
def kdy (names:List Tb)(x:Tb):Nat:=names.findIdx λy=>decide (y=x)
theorem qns {a:List Tb}{x:Tb}(b:x∈a):kdy a x<a.length:=List.findIdx_lt_length.2 ⟨x,b,fT⟩
theorem qhl {a:List Tb}{x:Tb}(b:x∈a):a[kdy a x]'(qns b)=x:=by grind[kdy]
def qnt {a:List Tb}(g:a.Nodup){j:Nat}(c:j<a.length):kdy a a[j]=j:=by have f:a[j]∈a:=Yr c;have d:=qhl f;have e:=qns f;rcases Nat.lt_trichotomy (kdy a a[j]) j with b | b | b;{exact absurd d (Vi.1 g _ _ e c b)};{exact b};exact absurd d.symm (Vi.1 g _ _ c e b)
def rdL (names:List Tb)(l:List Nx):List Nat:=(l.filter λn=>decide (n.op=1)).map λn=>kdy names n.nm
def qdu {a:List Tb}{l:List Nx}(b:kat a l=true){n:Nx}(d:n∈l)(c:n.op=1):n.nm∈a:=by grind[kat,qj3]
def kcS {c:List Tb}{l:List Nx}(e:kat c l=true):∀b,b∈rdL c l->b<c.length:=by intro b d;unfold rdL at d;obtain⟨f,a,rfl⟩:=Ze.1 d;rw[Ua,Yu]at a;exact qns (qdu e a.1 a.2)
def qpv {b:List Tb}{l:List Nx}(g:b.Nodup)(d:kat b l=true){j:Nat}(e:j<b.length):j∈rdL b l ↔ kcR l b[j]=true:=by unfold rdL kcR;rw[List.any_eq_true];constructor;{intro f;obtain⟨c,a,rfl⟩:=Ze.1 f;rw[Ua,Yu]at a;exact⟨c,a.1,by rw[Ys a.2,Ys (qhl (qdu d a.1 a.2)).symm];rfl⟩};rintro⟨c,f,a⟩;rw[Yw,Yu,Yu]at a;exact Ze.2 ⟨c,Ua.2 ⟨f,Ys a.1⟩,by rw[a.2];exact qnt g e⟩
def kbp (m:Fm)(k:Nat):List Nat:=rdL (kaa m) (fAt m k).is++rdL (kaa m) (fAt m k).wh
def VfA.nod {m:Fm}(a:VfA m):(kaa m).Nodup:=by have:=a.f;unfold kae at this;rw[Yw,Yu]at this;exact this.2
def q91 (m:Fm):(kaa m).length=m.F.length:=by simp[kaa]
def q90 {m:Fm}{j:Nat}(a:j<m.F.length):(kaa m)[j]'(by rw[q91];exact a)=(fAt m j).nm:=by grind[kaa,fAt]
def VfA.knw {m:Fm}(b:VfA m){k:Nat}(a:k<m.F.length):kat (kaa m) (fAt m k).is=true/\kat (kaa m) (fAt m k).wh=true/\kat (kaa m) (fAt m k).va=true/\kat (kaa m) (fAt m k).mu=true:=by have:=b.kn _ (Yr a);rw[qnr a];unfold kah at this;simp only[Yw]at this;exact⟨this.1.1.1,this.1.1.2,this.1.2,this.2⟩
def qnw {m:Fm}(c:VfA m){k:Nat}(d:k<m.F.length):∀b,b∈kbp m k->b<m.F.length:=by intro b a;rw[<- q91 m];rcases Zd.1 a with a | a;{exact kcS (c.knw d).1 b a};exact kcS (c.knw d).2.1 b a
def qj4 {m:Fm}(a:VfA m){j k:Nat}(b:j<m.F.length)(d:k<m.F.length):j∈kbp m k ↔ kbZ m j k=true:=by have c:j<(kaa m).length:=(by rw[q91];exact b);unfold kbp kbZ;rw[Zd,Vg,qpv a.nod (a.knw d).1 c,qpv a.nod (a.knw d).2.1 c,q90 b]
def q7h (m:Fm)(i:Nat):∀c,c∈kau m i->∀b,b<m.F.length->kbZ m b c=true->b∈kau m i:=by induction i with|zero=>intro c a;cases a|succ i h=>cases d:nxt m (kau m i) with|none=>rw[qeh d];exact h|some j=>rw[qei d];intro c a b g e;rcases Zd.1 a with a | a;{exact Ox _ (h c a b g e)};rw[Y9.1 a]at e;have f:=(qjj d).2.1;unfold keL at f;rw[Yw,Zg]at f;have:=f.2 b (Zf.2 g);rw[e]at this;exact Ox _ (by simpa using this)
def kaU (m:Fm)(D:List Nat)(k:Nat):Int:=((kbp m k).filter λj=>!decide (j∈D)).length - (if k∈D then 1 else 0)
def qgd {m:Fm}(e:VfA m)(i:Nat){k:Nat}(f:k<m.F.length):kaU m (kau m i) k=0 ↔ keL m (kau m i) k=true:=by unfold kaU keL;have g:((kbp m k).filter λa=>!decide (a∈kau m i)).length=0 ↔ ∀a,a<m.F.length->kbZ m a k=true->a∈kau m i:=(by rw[Z2,List.filter_eq_nil_iff];constructor;{intro c a b d;have:=c a ((qj4 e b f).2 d);simpa using this};intro c a b;have h:=qnw e f a b;simp[c a h ((qj4 e h f).1 b)]);have h:((List.range m.F.length).all λa=>!kbZ m a k||decide (a∈kau m i))=true ↔ ∀a,a<m.F.length->kbZ m a k=true->a∈kau m i:=(by rw[Zg];constructor;{intro c a b d;have:=c a (Zf.2 b);rw[d]at this;simpa using this};intro c a b;cases d:kbZ m a k;{rfl};simp[c a (List.mem_range.1 b) d]);by_cases b:k∈kau m i;{rw[Y6 b,Ys b,g.2 (q7h m i k b)];simp};rw[Y2 b,Yo b];rw[show((((kbp m k).filter λa=>!decide (a∈kau m i)).length:Int) - 0=0) ↔ ((kbp m k).filter λa=>!decide (a∈kau m i)).length=0 by omega,g];simp only[Bool.not_false,Zi];exact h.symm
theorem q69 (l D:List Nat)(x:Nat)(b:x ∉ D):(l.filter λa=>!decide (a∈D++[x])).length+l.count x=(l.filter λa=>!decide (a∈D)).length:=by induction l <;> grind
theorem qgc (m:Fm)(D:List Nat)(x:Nat)(a:x ∉ D)(k:Nat):kaU m (D++[x]) k=kaU m D k - (kbp m k).count x - (if k=x then 1 else 0):=by grind[kaU,kbp,q69]
def qbp (m:Fm)(k:Nat):kaU m [] k=(kbp m k).length:=by unfold kaU;rw[show(kbp m k).filter (λa=>!decide (a∈([]:List Nat)))=kbp m k from List.filter_eq_self.2 (λ_ _=>by simp)];simp
end
section
open Go Go.RowKit Go.Proofs.Tryz
def qkb {l:List Nx}{x:Tb}{k:Nat}(a:k<l.length)(b:(nf l k).op=1)(c:(nf l k).nm=x):kcR l x=true:=by grind[kcR,nf]
def qr5 {l:List Nx}{x:Tb}(c:∀a,a<l.length->¬ ((nf l a).op=1/\(nf l a).nm=x)):kcR l x=false:=by unfold kcR;refine List.any_eq_false.2 λe d=>?_;obtain⟨a,b,rfl⟩:=Zj.1 d;have:=c a b;rw[kcg l a b]at this;simpa using this
def q71 (a:To)(c:Nat)(l:List Nx)(x:Tb)(w:Tw)(D:l.length<=9223372036854775807)(z:kcP w a l):Gv 139 #[Sl a l.length c,St x] w (Bo (kcR l x)):=by have t:=h_ z;obtain⟨s,r⟩:=Nq (kcR l x);rw[r];have n:=h_ r;go_enter func139,ntmps139;go_wp2;go_loopw [5] (λe wr=>∃b:Nat,b<=l.length/\e=Yf b/\(∀d,d<b->¬ ((nf l d).op=1/\(nf l d).nm=x))/\Bw w wr) (λe _=>l.length - (intOf e).toNat);exact⟨0,nZ _,rfl,λd i=>absurd i (nL _),bR _ _⟩;obtain⟨b,C,rfl,A,o⟩:=hrel;obtain⟨m,h,v⟩:=oC A o (t.mono o);by_cases q:b<l.length;{have B:(b:Int)<l.length:=fP;obtain⟨pb,E,rfl,-,F,G,H,I,J⟩:=v b q;have j:Hi ((nf l b).op=1->(nf l b).nm=x->s=true):=h_ λe f=>(by rw[<- n.u,qkb q e f]);have k:Hi (¬ ((nf l b).op=1/\(nf l b).nm=x)->∀d,d<b+1->¬ ((nf l d).op=1/\(nf l d).nm=x)):=h_ λg d i=>(by by_cases i:d=b;{subst i;exact g};exact m d fP);generalize nf l b=d at *;have p:=eqS d.nm x;by_cases e:d.op=1;{have y:(d.op==1)=true:=(by rw[e];rfl);by_cases f:d.nm=x;{have i:=h_ (j e f);rw[Ys f]at p;go_wp2;go_ret;exact⟨qkd i.symm,h⟩};have i:=h_ (k λg=>f g.2);rw[Yo f]at p;refine rQ ?_;exact⟨b+1,fP,fX,i,h⟩};have y:(d.op==1)=false:=(by simp[e]);have i:=h_ (k λg=>e g.1);refine rQ ?_;exact⟨b+1,fP,fX,i,h⟩};obtain rfl:b=l.length:=fP;have B:¬ (l.length:Int)<(l.length:Int):=fP;have j:Hi (s=false):=h_ (by rw[<- n.u,qr5 m.u]);go_wp2;go_ret;exact⟨qkd j.symm,h⟩
def q6y (m:Fm)(g:MA)(j k:Nat)(w:Tw)(y:j<m.F.length)(n:k<m.F.length)(x:kaY m)(W:MSl w m g):Gv 102 #[mV m g,Yf j,Yf k] w (Bo (kbZ m j k)):=by obtain⟨P,Q,R,S,ar,T,I,K,J⟩:=g;unfold mV;dsimp only;obtain⟨G,ae,c,a⟩:=bxN w 28 (Ja P m Q R S ar T I K);have s:=h_ (W.mono a.u);have aj:(j:Int)<m.F.length:=fP;have ak:(k:Int)<m.F.length:=fP;have ag:=x.fl;have q:Hi (kbZ m j k=(kcR m.F[k].is m.F[j].nm||kcR m.F[k].wh m.F[j].nm)):=h_ (by unfold kbZ;rw[qnr y,qnr n]);have r:=h_ (x.f _ (Yr n));obtain⟨U,Y,t,⟨-,z0,-⟩,-⟩:=s.f j y;obtain⟨b',o',v,⟨X,-,-,-,-,C,o,-⟩,A⟩:=s.f k n;dsimp only at t v C o A;subst t;cases v;have d:=h_ A;generalize m.F[j].nm=f at *;generalize m.F[k]=e at *;generalize J k=V at *;obtain⟨ab,aa,N,O,L,M,av,ad,au,ac⟩:=V;dsimp only at C o;have D:=h_ (q71 N O e.is f G r.il d.i);obtain⟨Z,y1,y2,y3⟩:=kac c.u;generalize kbZ m j k=B at *;go_enter func102,ntmps102;go_wp2_with fail;refine cQ D λH b=>?_;have am:=(b.cell (p:=⟨U,Y+k*9+5,none⟩) X).trans o;replace c:=mB c b;replace a:=mT a b;replace d:=h_ (d.mono b);obtain⟨Z,y1,y2,y3⟩:=kac c.u;cases z:kcR e.is f;{have E:=h_ (q71 L M e.wh f H r.hl d.h);have l:Hi (B=kcR e.wh f):=h_ (by rw[q.u,z];rfl);go_wp2_with fail;refine cQ E λW2 b=>?_;replace a:=mT a b;go_wp2;go_ret;exact⟨qkd l.symm,a.u⟩};have l:Hi (B=true):=h_ (by rw[q.u,z];rfl);go_wp2;go_ret;exact⟨qkd l.symm,a.u⟩
def Plc (w:Tw)(a:To)(l:List Nat):Prop:=kc6 w a (l.map λx:Nat=>(x:Int))
def Plc.mono {w w':Tw}{a:To}{l:List Nat}(b:Plc w a l)(c:Bw w w'):Plc w' a l:=kc6.mono b c
def Plc.at {w:Tw}{a:To}{l:List Nat}(f:Plc w a l)(k:Nat)(d:k<l.length):∃b c,a=some ⟨b,c,none⟩/\b<w.1.size/\w.cell? ⟨b,c+k,none⟩=some (Yf (l[k]:Int)):=by obtain⟨b,c,e,g,h⟩:=f k gO;refine⟨b,c,e,g,?_⟩;rw[h];dsimp only;rw[Yq,Zr,Yn d];rfl
def q34 (m:Fm)(g:MA)(j k:Nat)(w:Tw)(x:j<m.F.length)(i:k<m.F.length)(t:kaY m)(V:MSl w m g):Gv 103 #[mV m g,Yf j,Yf k] w (Bo (kfp m j k)):=by obtain⟨K,L,M,N,ar,O,H,J,I⟩:=g;unfold mV;dsimp only;obtain⟨E,ae,c,a⟩:=bxN w 28 (Ja K m L M N ar O H J);have q:=h_ (V.mono a.u);have aj:(j:Int)<m.F.length:=fP;have ak:(k:Int)<m.F.length:=fP;have ag:=t.fl;have n:Hi (kfp m j k=(kcR m.F[k].va m.F[j].nm||kcR m.F[k].mu m.F[j].nm)):=h_ (by unfold kfp;rw[qnr x,qnr i]);have o:=h_ (t.f _ (Yr i));obtain⟨T,X,r,⟨-,z0,-⟩,-⟩:=q.f j x;obtain⟨b',o',s,⟨W,-,-,-,-,-,-,B,-,l⟩,z⟩:=q.f k i;dsimp only at r s B l z;subst r;cases s;have d:=h_ z;generalize m.F[j].nm=f at *;generalize m.F[k]=e at *;generalize I k=U at *;obtain⟨ab,aa,ai,ad,ah,ac,R,S,P,Q⟩:=U;dsimp only at B l;have C:=h_ (q71 R S e.va f E o.vl d.v);obtain⟨Y,Z,y2,y3⟩:=kac c.u;generalize kfp m j k=A at *;go_enter func103,ntmps103;go_wp2_with fail;refine cQ C λG b=>?_;have am:=(b.cell (p:=⟨T,X+k*9+8,none⟩) W).trans l;replace c:=mB c b;replace a:=mT a b;replace d:=h_ (d.mono b);obtain⟨Y,Z,y2,y3⟩:=kac c.u;cases y:kcR e.va f;{have D:=h_ (q71 P Q e.mu f G o.ul d.u.u);have h:Hi (A=kcR e.mu f):=h_ (by rw[n.u,y];rfl);go_wp2_with fail;refine cQ D λW2 b=>?_;replace a:=mT a b;go_wp2;go_ret;exact⟨qkd h.symm,a.u⟩};have h:Hi (A=true):=h_ (by rw[n.u,y];rfl);go_wp2;go_ret;exact⟨qkd h.symm,a.u⟩
def qe1 (m:Fm)(a:MA)(j k:Nat)(w:Tw)(n:j<m.F.length)(o:k<m.F.length)(l:kaY m)(C:MSl w m a):Gv 68 #[mV m a,Yf j,Yf k] w (Bo (kc2 m j k)):=by have f:=h_ λb (c:MSl b m a)=>q6y m a j k b n o l c;have g:=h_ λb (c:MSl b m a)=>q34 m a j k b n o l c;obtain⟨x,y,z,A,ar,B,t,v,J⟩:=a;unfold mV at f g⊢;dsimp only at f g⊢;obtain⟨r,K,d,b⟩:=bxN w 28 (Ja x m y z A ar B t v);have e:=h_ (C.mono b.u);have i:Hi (kc2 m j k=(kbZ m j k||kfp m j k)):=h_ rfl;generalize kc2 m j k=q at *;obtain⟨D,E,G,H⟩:=kac d.u;go_enter func68,ntmps68;go_wp2_with fail;refine cQ (f r e) λs c=>?_;replace d:=mB d c;replace b:=mT b c;replace e:=h_ (e.mono c);obtain⟨D,E,G,H⟩:=kac d.u;cases p:kbZ m j k;{have h:Hi (q=kfp m j k):=h_ (by rw[i.u,p];rfl);go_wp2_with fail;refine cQ (g s e) λI c=>?_;replace b:=mT b c;go_wp2;go_ret;exact⟨qkd h.symm,b.u⟩};have h:Hi (q=true):=h_ (by rw[i.u,p];rfl);go_wp2;go_ret;exact⟨qkd h.symm,b.u⟩
def nxI (m:Fm)(D:List Nat):Int:=match nxt m D with
 | some k=>(k:Int)
 | none=>-1
def qjh {m:Fm}{D:List Nat}{k:Nat}(a:nxt m D=some k):nxI m D=k:=by grind[nxI]
def qjg {m:Fm}{D:List Nat}(a:nxt m D=none):nxI m D = -1:=by grind[nxI]
def q7n {w:Tw}{base n:Nat}{e:TypeId}{v:Value}{us:List Nat}(c:w.ownsRow base e 1 v n (ui us)):∃a b,v=Sl a n b/\n=us.length/\Plc w a us:=by have o:us.length=n:=(by have:=c.1;simpa [ui] using this);obtain⟨a,b,h,l⟩:=q48 c;refine⟨a,b,h,o.symm,λf m=>?_⟩;have d:f<us.length:=(by simpa using m);obtain⟨g,p,i,j,k⟩:=l f fP;refine⟨g,p,i,j,?_⟩;rw[k];dsimp only;rw[Yq,Yn d,Yq,Zr,Yn d];rfl
def nC (n:Nx):Tl:=[.int .i64 n.op,.int .i64 n.v.k,.int .i64 n.v.n,St n.v.s,St n.nm]
def kd6 (l:List Nx):Tl:=l.flatMap nC
def qjd (l r:List Nx):kd6 (l++r)=kd6 l++kd6 r:=by simp[kd6]
def qje {l:List Nx}{k p:Nat}(c:k<l.length)(e:p<5):(kd6 l)[k*5+p]? = (nC l[k])[p]?:=by induction l generalizing k with|nil=>cases c|cons a b d=>cases k with|zero=>rw[show kd6 (a :: b)=nC a++kd6 b from rfl,G6,Zu,Vp (by simp[nC];omega)];rfl|succ k=>rw[show kd6 (a :: b)=nC a++kd6 b from rfl,List.getElem?_append_right (by simp[nC];omega)];have:=d (k:=k) gM;rw[show(k+1)*5+p - (nC a).length=k*5+p by simp[nC];omega];simpa using this
def kbv (w:Tw)(base:Nat)(v:Value)(l:List Nx):Prop:=w.ownsRow base 119 5 v l.length (kd6 l)
def kbv.keep {w w':Tw}{base:Nat}{v:Value}{l:List Nx}(b:kbv w base v l)(a:Bw w w'):kbv w' base v l :=
 World.ownsRow.kept (row:=none) b ⟨a.os,a.tape,a.output,a.size,λd c _=>a.block d c⟩ (Classical.em _)
def kbv.low {w:Tw}{base base':Nat}{v:Value}{l:List Nx}(a:kbv w base v l)(g:base'<=base):kbv w base' v l:=by refine⟨a.1,?_⟩;rcases a.2 with f | ⟨d,b,c,e,h,i⟩;{exact .inl f};exact .inr ⟨d,b,c,e,Yx g h,i⟩
def kbv.none (w:Tw):kbv (w.alloc (Cl #[] 119)) w.1.size (Sl (some ⟨w.1.size,0,.none⟩) 0 0) [] :=
 ⟨rfl,.inr ⟨w.1.size,0,#[],rfl,nR _,heap_alloc_new w (Cl #[] 119),nR _,nZ _,rfl,rfl⟩⟩
def kbv.nods {w:Tw}{base:Nat}{v:Value}{l:List Nx}(j:kbv w base v l):∃a b,v=Sl a l.length b/\kcP w a l:=by rcases j.2 with ⟨e,k⟩ | ⟨a,h,i,e,r,n,o,p,q,m⟩;{exact⟨.none,0,by rw[e,k],λc f=>fP⟩};have g:Blk w a 119 i.toList:=(by show w.heap[a]? = _;rw[n]);refine⟨some ⟨a,0,.none⟩,h,e,λc f=>⟨a,0,rfl,?_⟩⟩;have b:∀d,d<5->w.cell? ⟨a,c*5+d,.none⟩=(nC l[c])[d]?:=λd d=>(by rw[g.cell,<- qje f d,<- m,Vd fP]);rw[Zu,kcg l c f];exact⟨g.lt,b 0 fP,b 1 fP,b 2 fP,b 3 fP,b 4 fP⟩
def qom:(prog.info? 119).map (λa=>(a.zero,a.size,a.bytes))=some (some (.agg #[Yf 0,Yf 0,Yf 0,Yh,Yh]),5,56):=by kernel_rfl
def q5q {j:Array Oper}{rest:List Oper}{o:Oper}{a:Act}{f:Exit->Act->Tw->Prop}{w:Tw}(p:o.guard=.none)(s x:Operand) (d:o.op=.call { callee:=.builtin .append,args:=#[s,x],argTypes:=#[71,71] }) {base:Nat} {v:Value} {l:List Nx} (t:a.eval s=v) (i:kbv w base v l) {g:Nat} {n:Nx} (u:a.eval x=Sl (some ⟨g,0,.none⟩) 1 1) (m:Blk w g 119 (nC n)) (C:l.length+1<=2097152) (h:base<=w.1.size) (c:∀b e,kbv e base b (l++[n])->Below base w e->wpList prog j f rest (a.put o.dst b) e):wpList prog j f (o :: rest) a w:=by obtain⟨B,r,y,z,A⟩:=info_parts qom;refine wpList_append_own w p s x 71 d base 119 B _ 5 56 underlying71 r y z A rfl fP _ _ _ t i ⟨g,0,.none⟩ 1 1 (nC n) u rfl (λe v k=>by rw[show(⟨g,0,.none⟩:Addr).add e=⟨g,e,.none⟩ by simp[Addr.add];try exact λc=>c.symm];exact(m.cell e).trans k) (by simp[nC,Value.oneCell']) fZ fP h ?_;intro b e d q _;refine c b e ?_ ((bR base w).grown q h (λk k=>qao i k));unfold kbv;rw[qjd,Ym];simpa [kd6] using d
def jo {p:Prop}(h:p:=by intro G B f p;have n:=h_ f;rw[<- t.u]at n;have r:=h_ (g.trans ((j.mono g.size).trans p));clear f p o c1 c2 c3 c4;refine rQ ?_;exact⟨c+1,fP,fX,n,r⟩):p:=h
def q9y (a b:To)(D E:Nat)(d lb:List Nx)(w:Tw)(I:d.length+lb.length<=1048576)(c:kcP w a d)(e:kcP w b lb):Calls prog 136 #[Sl a d.length D,Sl b lb.length E] w λg f=>∃m,g=Rt m/\kbv f w.1.size m (d++lb)/\Bw w f:=by obtain⟨f,g⟩:=oB ((bR w.1.size w).alloc (nR _) (Cl #[] 119)) (kbv.none w);obtain⟨A,x⟩:=oB c e;clear c e;obtain⟨H,c⟩:=Nq (w.alloc (Cl #[] 119));rw[c]at f g;go_enter func136,ntmps136;go_wp2_with fail;(try rw[c]);clear c;go_loopw [5,6] (λm k wr=>∃c:Nat,c<=d.length/\k=Yf c/\kbv wr w.1.size m (d.take c)/\Bw w wr) (λ_ k _=>d.length - (intOf k).toNat);exact⟨0,nZ _,rfl,g,f⟩;clear g f;obtain⟨c,z,rfl,f,e⟩:=hrel;obtain⟨h,g,y,v⟩:=oD f e (A.mono e) (x.mono e);clear f e;by_cases i:c<d.length;{have q:(c:Int)<d.length:=fP;have t:Hi (d.take (c+1)=d.take c++[d[c]]):=h_ (Yz i);obtain⟨C,F,rfl,-,o,c1,c2,c3,c4⟩:=y c i;rw[kcg d c i]at o c1 c2 c3 c4;generalize d[c]=l at *;have s:Hi (Blk _ _ 119 (nC l)):=h_ (Blk.new wr 119 (nC l).toArray);have j:=h_ ((bR wr.1.size wr).alloc (nR _) (Cl (nC l).toArray 119));go_wp2_with (at_builtin;refine q5q rfl _ _ rfl rfl (h.keep j) rfl s hZ (Yx g.size j.size) ?_);exact jo};obtain rfl:c=d.length:=fP;have q:¬ (d.length:Int)<d.length:=fP;rw[Zp]at h;go_wp2;go_loopw [5,7] (λm k wr=>∃c:Nat,c<=lb.length/\k=Yf c/\kbv wr w.1.size m (d++lb.take c)/\Bw w wr) (λ_ k _=>lb.length - (intOf k).toNat);exact⟨0,nZ _,rfl,by rw[List.take_zero,Zv];exact h,g⟩;clear h g y v i q z;obtain⟨c,z,rfl,f,e⟩:=hrel;obtain⟨h,g,v⟩:=oC f e (x.mono e);clear f e;by_cases i:c<lb.length;{have q:(c:Int)<lb.length:=fP;have t:Hi (d++lb.take (c+1)=d++(lb.take c++[lb[c]])):=h_ (by rw[Yz i]);obtain⟨C,F,rfl,-,o,c1,c2,c3,c4⟩:=v c i;rw[kcg lb c i]at o c1 c2 c3 c4;generalize lb[c]=l at *;rename Tw=>wr;have s:Hi (Blk _ _ 119 (nC l)):=h_ (Blk.new wr 119 (nC l).toArray);have j:=h_ ((bR wr.1.size wr).alloc (nR _) (Cl (nC l).toArray 119));go_wp2_with (at_builtin;refine q5q rfl _ _ rfl rfl (h.keep j) rfl s (by rw[Ym,Zb];omega) (Yx g.size j.size) ?_);exact jo};obtain rfl:c=lb.length:=fP;have q:¬ (lb.length:Int)<lb.length:=fP;rw[Zp]at h;go_wp2;go_ret;exact⟨_,rfl,h,g⟩
def kbv.lone (w:Tw)(n:Nx):kbv (w.alloc (Cl (Jk n) 119)) w.1.size (Sl (some ⟨w.1.size,0,.none⟩) 1 1) [n] :=
 ⟨rfl,.inr ⟨w.1.size,1,_,rfl,nR _,heap_alloc_new w (Cl (Jk n) 119),nR _,by unfold maxLen;omega,rfl,rfl⟩⟩
variable (K:Int->List Tb)
def nms (kind:Int):List Tb:=if kind=1 then K 1 else if kind=2 then K 2 else K 3
def keX:Prop:=∀kind,(nms K kind).length<=1000/\∀x,x∈nms K kind->x.size<=64
def kbF (w:Tw)(v:Value):Prop:=∃x1 n1 k1 x2 n2 k2 x3 n3 k3,v=.agg #[Sl x1 n1 k1,Sl x2 n2 k2,Sl x3 n3 k3]/\(n1=(K 1).length/\kbL w x1 (K 1))/\(n2=(K 2).length/\kbL w x2 (K 2))/\n3=(K 3).length/\kbL w x3 (K 3)
def kbF.mono {K:Int->List Tb}{w w':Tw}{v:Value}(f:kbF K w v)(a:Bw w w'):kbF K w' v:=by obtain⟨m,j,g,n,k,h,o,l,i,e,b,c,d⟩:=f;exact⟨m,j,g,n,k,h,o,l,i,e,⟨b.1,b.2.mono a⟩,⟨c.1,c.2.mono a⟩,d.1,d.2.mono a⟩
def kbX (n:Nx):Prop:=n.v.s.size<=1000/\n.nm.size<=64/\(0<=n.op/\n.op<=25)/\-9223372036854775808<=n.v.n/\n.v.n<=9223372036854775807
def kbX.cst (k n:Int){s:Tb}(c:s.size<=1000)(a:-9223372036854775808<=n)(b:n<=9223372036854775807):kbX ⟨0,⟨k,n,s⟩,⟨#[]⟩⟩:=⟨c,nZ _,⟨Int.le_refl 0,(by omega:(0:Int)<=25)⟩,a,b⟩
def kbX.fld {x:Tb}(a:x.size<=64):kbX ⟨1,⟨0,0,⟨#[]⟩⟩,x⟩:=⟨nZ _,a,⟨(by omega:(0:Int)<=1),(by omega:(1:Int)<=25)⟩,(by omega:(-9223372036854775808:Int)<=0),(by omega:(0:Int)<=9223372036854775807)⟩
def kbX.opn {op:Int}(a:0<=op)(b:op<=25):kbX ⟨op,⟨0,0,⟨#[]⟩⟩,⟨#[]⟩⟩:=⟨nZ _,nZ _,⟨a,b⟩,(by omega:(-9223372036854775808:Int)<=0),(by omega:(0:Int)<=9223372036854775807)⟩
def jp {p:Prop}(h:p:=by go_enter func169,ntmps169;go_wp2;go_ret;exact⟨rfl,e _⟩):p:=h
def q4r (a b c:To)(k l m h i j:Nat)(d:Int)(w:Tw):Gv 169 #[.agg (Jo a k h b l i c m j),Yf d] w (if d=1 then Sl a k h else if d=2 then Sl b l i else Sl c m j):=by have f:∀e,Bw w (w.alloc e):=λe=>(bR _ w).alloc (nR _) e;have e:=h_ f;clear f;by_cases f:d=1;{subst f;exact jp};by_cases g:d=2;{subst g;exact jp};rw[Y2 f,Y2 g];exact jp
def qqq {K:Int->List Tb}{w:Tw}{a b c:To}{n k i:Nat}(e f g:Nat)(j:n=(K 1).length)(o:kbL w a (K 1))(l:k=(K 2).length)(p:kbL w b (K 2))(m:i=(K 3).length)(q:kbL w c (K 3))(d:Int):∃h r,(if d=1 then Value.slice a n e else if d=2 then Sl b k f else Sl c i g)=Sl h (nms K d).length r/\kbL w h (nms K d):=by subst j l m;unfold nms;split;{exact⟨a,e,rfl,o⟩};split;{exact⟨b,f,rfl,p⟩};exact⟨c,g,rfl,q⟩
def kds (w:Tw)(l:List Nx)(q:Nat)(e:Ending)(w':Tw):Prop:=∃v,e=Rt (.tuple #[v,.int .i64 q])/\kbv w' w.1.size v l/\Bw w w'
def qhe {w w':Tw}{n:Nx}{q:Nat}{z:Int}(a:Bw w w')(b:z=q):kds w [n] q (Rt (.tuple #[Sl (some ⟨w'.1.size,0,none⟩) 1 1,Yf z])) (w'.alloc (Cl (Jk n) 119)) :=
 ⟨_,by rw[b],(kbv.lone w' n).low a.size,a.alloc a.size _⟩
def keY (len:Nat)(f:Nat->Nat)(p:Nat)(kind:Int)(n:Nx)(q:Nat):Prop :=
 (tkD len f p 8<6/\q=p+2/\∃(B:Nat) (h:B<(nms K kind).length),tkD len f (p+1) (nms K kind).length=B/\n=⟨1,⟨0,0,⟨#[]⟩⟩,(nms K kind)[B]⟩) ∨
 (tkD len f p 8=7/\q=p+1/\n=⟨0,⟨0,0,⟨#[]⟩⟩,⟨#[]⟩⟩) ∨
 ((tkD len f p 8=6∨(tkD len f p 8<6/\(nms K kind).length=0))/\q=p+2/\∃B:Nat,tkD len f (p+1) 256=B/\B<256 /\
  ((kind=1/\∃x:Int,(-9223372036854775808<=x/\x<=9223372036854775807)/\(∀w:Tw,Calls prog 137 #[Yf ((B:Int) % 14)] w λe w'=>e=Rt (Yf x)/\w'=w)/\∃z:Int,((x<0/\z=B)∨(¬ x<0/\z=x))/\n=⟨0,⟨1,z,⟨#[]⟩⟩,⟨#[]⟩⟩) ∨
   (kind=2/\∃(t:Bool) (z:Int),(((B:Int) % 3 != 0)=t)/\(if t=true then 1 else 0)=z/\(0<=z/\z<=1)/\n=⟨0,⟨2,z,⟨#[]⟩⟩,⟨#[]⟩⟩) ∨
   (kind=3/\∃s:Tb,s.size<=64/\(∀w:Tw,Calls prog 98 #[Yf ((B:Int) % 12)] w λe w'=>e=Rt (St s)/\w'=w)/\n=⟨0,⟨3,0,s⟩,⟨#[]⟩⟩)))
def qp8 (i:keX K)(a:Nat)(f:Nat->Nat)(h:a<=1048576)(p:Nat)(s:p<=1000000)(b:Int)(n:b=1∨b=2∨b=3):∃d c,keY K a f p b d c/\kbX d/\p<=c/\c<=p+2:=by have r:tkD a f p 8<8:=kaC h fP fP fP;by_cases l:tkD a f p 8<6/\0<(nms K b).length;{have d:=(i b).1;have c:tkD a f (p+1) (nms K b).length<(nms K b).length:=kaC h fP fP fP;exact⟨_,p+2,.inl ⟨l.1,rfl,_,c,rfl,rfl⟩,kbX.fld ((i b).2 _ (Yr _)),fP,fP⟩};by_cases m:tkD a f p 8=7;{exact⟨_,p+1,.inr (.inl ⟨m,rfl,rfl⟩),kbX.cst _ _ (nZ _) fP fP,fP,fP⟩};have c:tkD a f (p+1) 256<256:=kaC h fP fP fP;have g:tkD a f p 8=6∨(tkD a f p 8<6/\(nms K b).length=0):=(by by_cases d:tkD a f p 8<6;{exact .inr ⟨d,fP⟩};exact .inl fP);rcases n with rfl | rfl | rfl;{obtain⟨d,j,e⟩:=q4m ((tkD a f (p+1) 256:Nat) % 14);by_cases k:d<0;{exact⟨_,p+2,.inr (.inr ⟨g,rfl,_,rfl,c,.inl ⟨rfl,d,j,e,_,.inl ⟨k,rfl⟩,rfl⟩⟩),kbX.cst _ _ (nZ _) fP fP,fP,fP⟩};exact⟨_,p+2,.inr (.inr ⟨g,rfl,_,rfl,c,.inl ⟨rfl,d,j,e,_,.inr ⟨k,rfl⟩,rfl⟩⟩),kbX.cst _ _ (nZ _) fP fP,fP,fP⟩};{obtain⟨k,o⟩:=Nq ((((tkD a f (p+1) 256:Nat):Int) % 3 != 0));obtain⟨d,j⟩:∃d:Int,(if k=true then 1 else 0)=d:=⟨_,rfl⟩;have q:0<=d/\d<=1:=(by rw[<- j];split <;> omega);exact⟨_,p+2,.inr (.inr ⟨g,rfl,_,rfl,c,.inr (.inl ⟨rfl,k,d,o,j,q,rfl⟩)⟩),kbX.cst _ _ (nZ _) fP fP,fP,fP⟩};obtain⟨j,d,e⟩:=q9t ((tkD a f (p+1) 256:Nat) % 12);exact⟨_,p+2,.inr (.inr ⟨g,rfl,_,rfl,c,.inr (.inr ⟨rfl,j,d,e,rfl⟩)⟩),kbX.cst _ _ fP fP fP,fP,fP⟩
def q9z (X:keX K)(A:Nat)(f:Nat->Nat)(z:A<=1048576)(p:Nat)(hp:p<=1000000)(m:Int)(n:Nx)(q:Nat)(l:keY K A f p m n q)(w:Tw)(a:To)(c:Nat)(v:Value)(t:kbs w a A f)(Z:kbF K w v) :
 Calls prog 134 #[.slice a A c,Yf p,v,Yf m] w (kds w [n] q):=by
 obtain⟨I,e⟩:=Nq (tkD A f p 8);unfold keY at l;rw[e]at l;obtain⟨C,S⟩:=oB l e;obtain⟨O,L,D,P,M,E,Q,N,F,rfl,⟨o,y⟩,⟨r,B⟩,s,G⟩:=Z;have h:=h_ (Blk.new w 109 (Jo O L D P M E Q N F));have d:=(bR w.1.size w).alloc (nR _) (.cells (Jo O L D P M E Q N F) 109);obtain⟨ae,ky,x,H⟩:=qqq D E F o y r B s G m;obtain⟨W0,g⟩:=Nq (w.alloc (.cells (Jo O L D P M E Q N F) 109));rw[g]at h d;obtain⟨i,j,b,k⟩:=oD (t.mono d) (H.mono d) d x;clear t y B G H d e x l o r s;go_enter func134,ntmps134;go_wp2_with fail
 try rw[g]
 clear g;refine cQ (qsd (p:=p) (n:=8) z fP fP fP c i rfl rfl) λo g=>?_;subst g;rw[S.u];obtain⟨r,s,t⟩:=kaE h;go_wp2_with fail;refine cQ (q4r _ _ _ _ _ _ _ _ _ _ _) λw1 e=>?_;rw[k.u];replace i:=h_ (i.mono e);replace j:=h_ (j.mono e);replace b:=mT b e;obtain⟨x,d⟩:=Nq ((nms K m).length);have ac:x<=1000:=by rw[<- d];exact(X m).1
 rw[d];have J:=h_ d;have B:Hi ((p:Int)+1=((p+1:Nat):Int)):=h_ fP;clear e r s t k h d;rcases C.u with ⟨k,rfl,r,W,y,rfl⟩ | ⟨V,rfl,rfl⟩ | ⟨k,rfl,r,y,ab,l⟩
 . have T:(I:Int)<6:=fP
   obtain⟨d,G,rfl,-,h⟩:=j r W;generalize (nms K m)[r]=R at *;have e:(r:Int)<x:=by have:=J.u;omega
   have Y:(0:Int)<x:=fP
   obtain⟨t,s⟩:=oB h y;clear C j h y;go_wp2_with fail;refine cQ (qsd (p:=p+1) (n:=x) z fP fP fP c i B rfl) λo g=>?_;subst g;rw[<- J.u,s.u];have h:=t.u;go_wp2
   go_ret2
   exact qhe (n:=⟨1,⟨0,0,⟨#[]⟩⟩,R⟩) b fP
 . subst V
   clear C j;go_wp2_with fail;refine cQ (q6m _) λG d=>?_;replace b:=mT b d;clear d;go_wp2_with fail;refine cQ (q6p _ _ _ _) λH e=>?_;replace b:=mT b e;clear e;go_wp2
   go_ret2
   exact qhe (n:=⟨0,⟨0,0,⟨#[]⟩⟩,⟨#[]⟩⟩) b fP
 . rw[J.u]at k
   rcases k with k | ⟨k,U⟩
   case' inl=>subst k
   case' inr =>
    have T:(I:Int)<6:=fP;have Y9:¬ (0:Int)<x:=fP;have aa:((I:Int)==7)=false:=Yl.2 fP;clear U
   all_goals
    have s:=h_ y;clear C j y;rcases l with ⟨rfl,R,hx,h,C,j,rfl⟩ | ⟨rfl,ad,C,y,j,-,rfl⟩ | ⟨rfl,Y,hs,h,rfl⟩
    . have t:=h_ h
      clear h;go_wp2_with fail;refine cQ (qsd (p:=p+1) (n:=256) z fP fP fP c i B rfl) λo g=>?_;subst g;rw[s.u];go_wp2_with fail;refine cQ (t _) λo g=>?_;subst g;rcases j with ⟨T,rfl⟩ | ⟨T,rfl⟩
      . go_wp2_with fail
        refine cQ (qdy _ _) λG d=>?_;replace b:=mT b d;clear d;go_wp2_with fail;refine cQ (q6p _ _ _ _) λH e=>?_;replace b:=mT b e;clear e;go_wp2
        go_ret2
        exact qhe (n:=⟨0,⟨1,(r:Int),⟨#[]⟩⟩,⟨#[]⟩⟩) b fP
      . go_wp2_with fail
        refine cQ (qdy _ _) λG d=>?_;replace b:=mT b d;clear d;go_wp2_with fail;refine cQ (q6p _ _ _ _) λH e=>?_;replace b:=mT b e;clear e;go_wp2
        go_ret2
        exact qhe (n:=⟨0,⟨1,_,⟨#[]⟩⟩,⟨#[]⟩⟩) b fP
    . obtain⟨T,U⟩:=oB y j
      clear y j;go_wp2_with fail;refine cQ (qsd (p:=p+1) (n:=256) z fP fP fP c i B rfl) λo g=>?_;subst g;rw[s.u];go_wp2_with fail;refine cQ (q9p _ _) λG d=>?_;rw[T.u,U.u];replace b:=mT b d;clear d;go_wp2_with fail;refine cQ (q6p _ _ _ _) λH e=>?_;replace b:=mT b e;clear e;go_wp2
      go_ret2
      exact qhe (n:=⟨0,⟨2,C,⟨#[]⟩⟩,⟨#[]⟩⟩) b fP
    . have t:=h_ h
      clear h;go_wp2_with fail;refine cQ (qsd (p:=p+1) (n:=256) z fP fP fP c i B rfl) λo g=>?_;subst g;rw[s.u];go_wp2_with fail;refine cQ (t _) λo g=>?_;subst g;go_wp2_with fail;refine cQ (q9r _ _) λG d=>?_;replace b:=mT b d;clear d;go_wp2_with fail;refine cQ (q6p _ _ _ _) λH e=>?_;replace b:=mT b e;clear e;go_wp2
      go_ret2
      exact qhe (n:=⟨0,⟨3,0,Y⟩,⟨#[]⟩⟩) b fP
variable (K:Int->List Tb)
def GOp (kind:Int)(a b:Nat)(op arg:Int):Prop :=
 (a=14/\op=16/\arg=kind)∨(a=13/\op=19/\arg=kind) ∨
 (kind=1/\a<8/\op=4+(b:Int) % 5/\arg=1)∨(kind=1/\(8<=a/\a<10)/\op=2/\arg=1)∨(kind=1/\(10<=a/\a<12)/\op=17+(b:Int) % 2/\arg=1)∨(kind=1/\a=12/\op=21+(b:Int) % 2/\arg=3) ∨
 (kind=2/\(a<8/\b<48)/\op=10+(b:Int) % 4/\arg=1)∨(kind=2/\(a<8/\48<=b)/\op=10+(b:Int) % 4/\arg=3)∨(kind=2/\(8<=a/\a<10)/\op=14+(b:Int) % 2/\arg=2) ∨
 (kind=2/\a=10/\op=3/\arg=2)∨(kind=2/\a=11/\op=20/\arg=3)∨(kind=2/\a=12/\op=24+(b:Int) % 2/\arg=(b:Int) % 3+1) ∨
 (kind=3/\a<9/\op=9/\arg=3)∨(kind=3/\(9<=a/\a<13)/\op=23/\arg=(b:Int) % 3+1)
def kgZ {c:Int}{a b:Nat}(j:c=1∨c=2∨c=3)(k:a<15):∃e d,GOp c a b e d:=by by_cases i:a=14;{exact⟨_,_,.inl ⟨i,rfl,rfl⟩⟩};by_cases h:a=13;{exact⟨_,_,.inr (.inl ⟨h,rfl,rfl⟩)⟩};rcases j with rfl | rfl | rfl;{by_cases e:a<8;{exact⟨_,_,.inr (.inr (.inl ⟨rfl,e,rfl,rfl⟩))⟩};by_cases f:a<10;{exact⟨_,_,.inr (.inr (.inr (.inl ⟨rfl,fP,rfl,rfl⟩)))⟩};by_cases d:a<12;{exact⟨_,_,.inr (.inr (.inr (.inr (.inl ⟨rfl,fP,rfl,rfl⟩))))⟩};exact⟨_,_,.inr (.inr (.inr (.inr (.inr (.inl ⟨rfl,fP,rfl,rfl⟩)))))⟩};{by_cases e:a<8;{by_cases g:b<48;{exact⟨_,_,.inr (.inr (.inr (.inr (.inr (.inr (.inl ⟨rfl,fP,rfl,rfl⟩))))))⟩};exact⟨_,_,.inr (.inr (.inr (.inr (.inr (.inr (.inr (.inl ⟨rfl,fP,rfl,rfl⟩)))))))⟩};by_cases f:a<10;{exact⟨_,_,.inr (.inr (.inr (.inr (.inr (.inr (.inr (.inr (.inl ⟨rfl,fP,rfl,rfl⟩))))))))⟩};by_cases g:a=10;{exact⟨_,_,.inr (.inr (.inr (.inr (.inr (.inr (.inr (.inr (.inr (.inl ⟨rfl,g,rfl,rfl⟩)))))))))⟩};by_cases d:a=11;{exact⟨_,_,.inr (.inr (.inr (.inr (.inr (.inr (.inr (.inr (.inr (.inr (.inl ⟨rfl,d,rfl,rfl⟩))))))))))⟩};exact⟨_,_,.inr (.inr (.inr (.inr (.inr (.inr (.inr (.inr (.inr (.inr (.inr (.inl ⟨rfl,fP,rfl,rfl⟩)))))))))))⟩};by_cases d:a<9;{exact⟨_,_,.inr (.inr (.inr (.inr (.inr (.inr (.inr (.inr (.inr (.inr (.inr (.inr (.inl ⟨rfl,fP,rfl,rfl⟩))))))))))))⟩};exact⟨_,_,.inr (.inr (.inr (.inr (.inr (.inr (.inr (.inr (.inr (.inr (.inr (.inr (.inr ⟨rfl,fP,rfl,rfl⟩))))))))))))⟩
def GOp.fit {d op c:Int}{a b:Nat}(f:d=1∨d=2∨d=3)(e:GOp d a b op c):(2<=op/\op<=25)/\(c=1∨c=2∨c=3):=by unfold GOp at e;omega
def ar_m (op:Int):∃a:Nat,ar op=a/\a<=3:=by unfold ar;split;{exact⟨1,rfl,fP⟩};split;{exact⟨3,rfl,fP⟩};split;{exact⟨2,rfl,fP⟩};exact⟨0,rfl,fP⟩
def kdG (op arg:Int)(i:Nat):Int:=if op=16/\i=0 then 2 else arg
def kg0 {op a:Int}(i:Nat)(b:a=1∨a=2∨a=3):kdG op a i=1∨kdG op a i=2∨kdG op a i=3:=by unfold kdG;split;{omega};exact b
def kf1 (len:Nat)(f:Nat->Nat)(d p:Nat)(kind:Int)(l:List Nx)(q:Nat):Prop:=∀(w:Tw) (a:To) (c:Nat) (v:Value),kbs w a len f->kbF K w v ->
 Calls prog 96 #[Sl a len c,Yf p,v,Yf kind,Yf d] w (kds w l q)
def keH (len:Nat)(f:Nat->Nat)(d p:Nat)(kind:Int)(l:List Nx)(q:Nat):Prop:=(∀n,n∈l->kbX n)/\1<=l.length/\l.length<=4 ^ d/\p<=q/\q<=p+3*4 ^ d/\kf1 K len f d p kind l q
structure kii (len:Nat)(f:Nat->Nat)(d p:Nat)(kd:Nat->Int)(m:Nat)(st:Nat->List Nx × Nat):Prop where
 zero:st 0=([],p)
 step:∀i,i<m->∃l,(st (i+1)).1=(st i).1++l/\kf1 K len f d (st i).2 (kd i) l (st (i+1)).2
 fit:∀i,i<=m->(∀n,n∈(st i).1->kbX n)/\(st i).1.length<=i*4 ^ d/\p<=(st i).2/\(st i).2<=p+i*(3*4 ^ d)
def kfg {n k p:Nat}{f:Nat->Nat}{d:Nat->Int}(o:∀a,d a=1∨d a=2∨d a=3)(M:Nat)(v:p+M*(3*4 ^ k)<=900000)(q:∀p b,p+3*4 ^ k<=900000->(b=1∨b=2∨b=3)->∃h l,keH K n f k p b h l):∀b,b<=M->∃e,kii K n f k p d b e | 0,_=>⟨λ_=>([],p),rfl,λa g=>absurd g (nL _),λa g=>⟨λj i=>(by cases i),nZ _,nR _,Nat.le_add_right _ _⟩⟩ | b+1,hm=>by obtain⟨e,u,w,m⟩:=kfg o M v q b fP;obtain⟨r,A,B,C⟩:=m b (nR _);have x:(b+1)*(3*4 ^ k)<=M*(3*4 ^ k):=Z6 _ hm;have y:(b+1)*(3*4 ^ k)=b*(3*4 ^ k)+3*4 ^ k:=Z8 _ _;have z:(b+1)*4 ^ k=b*4 ^ k+4 ^ k:=Z8 _ _;obtain⟨h,l,s,D,E,F,G,t⟩:=q (e b).2 (d b) fP (o b);refine⟨λa=>if a<=b then e a else ((e b).1++h,l),by simp only[nZ,if_true];exact u,λa g=>?_,λa g=>?_⟩;{by_cases c:a<b;{simp only[Y6 (show a+1<=b by omega),Y6 (show a<=b by omega)];exact w a c};obtain rfl:a=b:=fP;simp only[Y2 (show ¬ a+1<=a by omega),Y6 (nR a)];exact⟨h,rfl,t⟩};by_cases c:a<=b;{simp only[Y6 c];exact m a c};obtain rfl:a=b+1:=fP;simp only[Y2 c];exact⟨λj i=>(Zd.1 i).elim (r j) (s j),by rw[Ym];omega,fP,fP⟩
