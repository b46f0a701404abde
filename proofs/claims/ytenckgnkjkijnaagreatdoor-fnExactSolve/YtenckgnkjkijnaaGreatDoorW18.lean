import Derived.Test.YtenckgnkjkijnaaGreatDoorW15
import Derived.Test.YtenckgnkjkijnaaGreatDoorW14
set_option maxRecDepth 100000
set_option maxHeartbeats 64000000
namespace Go.Proofs.YtenckgnkjkijnaaGreatDoor
open Go Go.RowKit Go.Proofs.Tryz
variable {w:Tw}{n k j:Nat}{t:TypeId}{v:Value}
theorem q6o {base:Nat}{l:List Tb}(b:w.ownsRow base t 1 v n (stV l)):∃c a,v=.slice c n a/\n<=a/\kbY w c l:=by
 have j:l.length=n:=by have:=b.1;simpa [stV] using this
 rcases b.2 with ⟨rfl,rfl⟩ | ⟨e,a,h,rfl,i,g,f,-,k,m⟩
 . exact⟨none,0,rfl,nR _,fun d c=>absurd c (by omega)⟩
 . refine⟨_,a,rfl,f,fun d c=>⟨e,0,rfl,(Yq.1 g).1,?_⟩⟩
   have:=b.cellAt d (by omega);rw[Y3,this];simp[stV,List.getElem?_eq_getElem c]
theorem qm2 (l:List Tb)(x:Tb):stV (l++[x])=stV l++[.string x]:=by simp[stV]
theorem q1m (m:Fm)(A:MA)(w:Tw)(M:m.R.length<=64)(u:Rls w A.r m.R) :
 Calls prog 120 #[mV m A] w fun d b=>∃a c,d=.returned (.slice a m.R.length c)/\kbY b a (kav m)/\Bw w b:=by
 obtain⟨g,h,i,j,ar,k,e,f,aa⟩:=A;unfold mV;dsimp only at u⊢;obtain⟨d,p,b⟩:=oC ((Blk.new w 37 (#[.slice g m.L.length h,.slice i m.P.length j,.slice ar m.R.length k,.slice e m.F.length f])).alloc (.cells #[] 9)) (((bR w.heap.size w).alloc (nR _) (.cells (#[.slice g m.L.length h,.slice i m.P.length j,.slice ar m.R.length k,.slice e m.F.length f]) 37)).alloc (by simp) (.cells #[] 9)) (qgj (w.alloc (.cells (#[.slice g m.L.length h,.slice i m.P.length j,.slice ar m.R.length k,.slice e m.F.length f]) 37)) 9);rw[Yp]at b;obtain⟨t,o⟩:=Nq ((w.alloc (.cells (#[.slice g m.L.length h,.slice i m.P.length j,.slice ar m.R.length k,.slice e m.F.length f]) 37)).alloc (.cells #[] 9));have ae:t.heap.size=w.heap.size+1+1:=by rw[<- o];simp
 rw[o]at d p b;have z:=h_ u;obtain⟨c,x⟩:=Nq m.R.length;rw[x]at d M o⊢;have r:=h_ x;obtain⟨X,Y,Z,y3⟩:=kaf d;go_enter func120,ntmps120;go_wp2_with fail;go_loopw [3,4] (fun n l wr=>∃a:Nat,a<=c/\l=J6 a/\wr.ownsRow (w.heap.size+1) 9 1 n a (stV ((kav m).take a))/\Below (w.heap.size+1) t wr) (fun _ l _=>c - (intOf l).toNat)
 case atStart=>exact⟨0,nZ _,rfl,b,bR _ _⟩
 case round =>
  obtain⟨a,hk,rfl,l,n⟩:=hrel;have v:=p.trans (n.mono (by omega));have ag:=n.size;obtain⟨E,B,D,q,b⟩:=oG (d.mono n (by omega)) (z.mono v) n v l;obtain⟨X,Y,Z,y3⟩:=kaf E;by_cases ad:a<c
  . have N:(a:Int)<c:=by omega
    have s:a<m.R.length:=(by have:=r.u;omega);obtain⟨ac,ah,rfl,-,z0,z1⟩:=B a s;have H:Hi ((kav m).take (a+1)=(kav m).take a++[m.R[a].nm]):=h_ (by
     have y:a<(kav m).length:=(by simpa [kav] using s);rw[Ys y];simp[kav])
    generalize m.R[a]=y at *;obtain⟨U,K,Q,S,T⟩:=info_parts qjq;go_wp2_with (at_builtin;refine wpList_append_own _ rfl _ _ 22 rfl (w.heap.size+1) 9 U _ 1 16 underlying22 K Q S T rfl (by omega) _ _ _ rfl (b.alloc _) ⟨wr.heap.size,0,none⟩ 1 1 [.string y.nm] rfl rfl (qim wr 9 _) (by simp[Value.oneCell']) (by unfold maxLen;omega) (by omega) (by simp;omega) ?_);intro V W O J _;have I:=(D.alloc (by omega) (.cells #[.string y.nm] 9)).grown J (by simp;omega) (fun C C=>qc8 b C);have G:Hi (W.ownsRow (w.heap.size+1) 9 1 V (a+1) (stV ((kav m).take (a+1)))):=h_ (by rw[H.u,qm2];exact O);have C:=h_ I;refine rQ ?_;exact⟨a+1,by omega,by go_num,G,C⟩
  . obtain rfl:a=c:=by omega
    have N:¬ (a:Int)<(a:Int):=(by omega);have l:=b.u;rw[Yy (by simp[kav];have:=r.u;omega)]at l;obtain⟨C,c1,rfl,-,y⟩:=q6o l;have s:=h_ y;go_wp2_with fail;go_ret
    first | exact⟨_,⟨_,rfl⟩,s,q⟩ | exact⟨_,_,rfl,s,q⟩
theorem q0y (m:Fm)(A:MA)(w:Tw)(N:m.F.length<=200)(v:kdn w A.f m.F A.fa) :
 Calls prog 118 #[mV m A] w fun d b=>∃a c,d=.returned (.slice a m.F.length c)/\kbY b a (kaa m)/\Bw w b:=by
 obtain⟨h,i,j,k,ar,l,e,g,aa⟩:=A;unfold mV;dsimp only at v⊢;obtain⟨d,q,b⟩:=oC ((Blk.new w 37 (#[.slice h m.L.length i,.slice j m.P.length k,.slice ar m.R.length l,.slice e m.F.length g])).alloc (.cells #[] 9)) (((bR w.heap.size w).alloc (nR _) (.cells (#[.slice h m.L.length i,.slice j m.P.length k,.slice ar m.R.length l,.slice e m.F.length g]) 37)).alloc (by simp) (.cells #[] 9)) (qgj (w.alloc (.cells (#[.slice h m.L.length i,.slice j m.P.length k,.slice ar m.R.length l,.slice e m.F.length g]) 37)) 9);rw[Yp]at b;obtain⟨u,p⟩:=Nq ((w.alloc (.cells (#[.slice h m.L.length i,.slice j m.P.length k,.slice ar m.R.length l,.slice e m.F.length g]) 37)).alloc (.cells #[] 9));have ae:u.heap.size=w.heap.size+1+1:=by rw[<- p];simp
 rw[p]at d q b;have B:=h_ v;obtain⟨c,y⟩:=Nq m.F.length;rw[y]at d N p⊢;have s:=h_ y;obtain⟨Y,Z,y2,y3⟩:=kaf d;go_enter func118,ntmps118;go_wp2_with fail;go_loopw [3,4] (fun o n wr=>∃a:Nat,a<=c/\n=J6 a/\wr.ownsRow (w.heap.size+1) 9 1 o a (stV ((kaa m).take a))/\Below (w.heap.size+1) u wr) (fun _ n _=>c - (intOf n).toNat)
 case atStart=>exact⟨0,nZ _,rfl,b,bR _ _⟩
 case round =>
  obtain⟨a,hk,rfl,n,o⟩:=hrel;have x:=q.trans (o.mono (by omega));have ag:=o.size;obtain⟨G,C,E,r,b⟩:=oG (d.mono o (by omega)) (B.mono x) o x n;obtain⟨Y,Z,y2,y3⟩:=kaf G;by_cases ad:a<c
  . have O:(a:Int)<c:=by omega
    have t:a<m.F.length:=(by have:=s.u;omega);obtain⟨ac,ah,rfl,⟨-,z0,z1,z2,z3,z4,z5,z6,z7,z8⟩,-⟩:=C a t;have I:Hi ((kaa m).take (a+1)=(kaa m).take a++[m.F[a].nm]):=h_ (by
     have z:a<(kaa m).length:=(by simpa [kaa] using t);rw[Ys z];simp[kaa])
    generalize m.F[a]=z at *;obtain⟨V,M,S,T,U⟩:=info_parts qjq;go_wp2_with (at_builtin;refine wpList_append_own _ rfl _ _ 22 rfl (w.heap.size+1) 9 V _ 1 16 underlying22 M S T U rfl (by omega) _ _ _ rfl (b.alloc _) ⟨wr.heap.size,0,none⟩ 1 1 [.string z.nm] rfl rfl (qim wr 9 _) (by simp[Value.oneCell']) (by unfold maxLen;omega) (by omega) (by simp;omega) ?_);intro W X Q K _;have J:=(E.alloc (by omega) (.cells #[.string z.nm] 9)).grown K (by simp;omega) (fun D D=>qc8 b D);have H:Hi (X.ownsRow (w.heap.size+1) 9 1 W (a+1) (stV ((kaa m).take (a+1)))):=h_ (by rw[I.u,qm2];exact Q);have D:=h_ J;refine rQ ?_;exact⟨a+1,by omega,by go_num,H,D⟩
  . obtain rfl:a=c:=by omega
    have O:¬ (a:Int)<(a:Int):=(by omega);have n:=b.u;rw[Yy (by simp[kaa];have:=s.u;omega)]at n;obtain⟨D,c1,rfl,-,z⟩:=q6o n;have t:=h_ z;go_wp2_with fail;go_ret
    first | exact⟨_,⟨_,rfl⟩,t,r⟩ | exact⟨_,_,rfl,t,r⟩
theorem q0x (f:Fl)(A:FA)(b:To)(c:Nat)(d:List Tb)(w:Tw)(m:kd2 f)(n:d.length<=9223372036854775807)(F:FSl w f A)(G:kbY w b d) :
 Gv 122 #[fV f A,.slice b d.length c] w (.bool (kai d f)):=by
 obtain⟨ab,E,s,t,q,r,z,B,x,y⟩:=A;obtain⟨k,j⟩:=oB F G;have H:kai d f=(kas d f.is&&kas d f.wh&&kas d f.va&&kas d f.mu):=rfl;unfold fV;dsimp only;obtain⟨l,M,D,g⟩:=nw w 92 (Ja f ab E s t q r z B x y);replace k:=h_ (k.mono g);replace j:=h_ (j.mono g);obtain⟨P,Q,R,S,T,U,V,W,X⟩:=kaU D;obtain⟨o,p,C,I⟩:=oD (q88 s b t c f.is d l m.il n k.i j) (q88 q b r c f.wh d l m.hl n k.h j) (q88 z b B c f.va d l m.vl n k.v j) (q88 x b y c f.mu d l m.ul n k.u.u j);generalize kas d f.is=J at *;generalize kas d f.wh=K at *;generalize kas d f.va=L at *;generalize kas d f.mu=O at *;generalize kai d f=N at *;subst H;cases J
 . go_enter func122,ntmps122
   go_wp2_with fail;refine cQ o fun e a=>?_;replace a:=a.symm;subst a;go_wp2_with fail;go_ret;exact⟨rfl,g⟩
 cases K
 . go_enter func122,ntmps122
   go_wp2_with fail;refine cQ o fun e a=>?_;replace a:=a.symm;subst a;go_wp2_with fail;refine cQ p fun e a=>?_;replace a:=a.symm;subst a;go_wp2_with fail;go_ret;exact⟨rfl,g⟩
 cases L
 . go_enter func122,ntmps122
   go_wp2_with fail;refine cQ o fun e a=>?_;replace a:=a.symm;subst a;go_wp2_with fail;refine cQ p fun e a=>?_;replace a:=a.symm;subst a;go_wp2_with fail;refine cQ C fun e a=>?_;replace a:=a.symm;subst a;go_wp2_with fail;go_ret;exact⟨rfl,g⟩
 . go_enter func122,ntmps122
   go_wp2_with fail;refine cQ o fun e a=>?_;replace a:=a.symm;subst a;go_wp2_with fail;refine cQ p fun e a=>?_;replace a:=a.symm;subst a;go_wp2_with fail;refine cQ C fun e a=>?_;replace a:=a.symm;subst a;go_wp2_with fail;refine cQ I fun e a=>?_;replace a:=a.symm;subst a;go_wp2_with fail;go_ret;exact⟨by simp,g⟩
theorem q2t (t:Int)(w:Tw):Calls prog 159 #[J6 t] w fun a b=>a=.returned (.string ⟨(kbs t).toArray⟩)/\b=w:=by
 by_cases a:t=1
 . subst a
   go_enter func159,ntmps159;go_wp2;go_ret;exact⟨rfl,rfl⟩
 by_cases b:t=2
 . subst b
   go_enter func159,ntmps159;go_wp2;go_ret;exact⟨rfl,rfl⟩
 . rw[show kbs t=[116,101,120,116] by unfold kbs;rw[Yl a,Yl b]]
   have c:(t==1)=false:=Yc.2 a;have d:(t==2)=false:=Yc.2 b;go_enter func159,ntmps159;go_wp2;go_ret;exact⟨rfl,rfl⟩
theorem q1k (word:Tb)(a:To)(c:Nat)(l:List Nx)(w:Tw)(v:word.size<=5)(d:kac l=true)(j:kb0 w a l)(m:∀b,b<l.length->Fit (nf l b)) :
 Gv 160 #[.string word,.slice a l.length c] w (.string ⟨(kbc word.data.toList l).toArray⟩):=by
 by_cases b:l.length=0
 . have h:((l.length:Int)==0)=true:=by simp[b]
   rw[show kbc word.data.toList l=[] by unfold kbc;rw[Yr b]];go_enter func160,ntmps160;go_wp2_with fail;go_ret;exact⟨rfl,bR _ _⟩
 . have h:((l.length:Int)==0)=false:=Yc.2 (by omega)
   have n:vxL l=true:=by simp only[kac,Ze,Yk]at d;exact d.resolve_left b
   obtain⟨o,p,q,r,-,-,y⟩:=(qsw _ _).1 n;have f:=h_ (q8a a l.length c (nf l) p l.length l.length (nR _) o (nR _) w ⟨j,r,q,m⟩);have g:Hi ((⟨(kbc word.data.toList l).toArray⟩:Tb)=⟨#[32]⟩++word++⟨#[32]⟩++(top (nf l) l.length).t):=h_ (by
    refine qd0 ?_;unfold kbc;rw[Yl b];simp[sb,txL,ByteArray.data_append])
   generalize (⟨(kbc word.data.toList l).toArray⟩:Tb)=s at *;generalize (top (nf l) l.length).t=x at *;go_enter func160,ntmps160;go_wp2_with fail;refine cQ f fun z k=>?_;have e:=h_ k;have i:((⟨#[32]⟩:Tb)++word).size=1+word.size:=by rw[Ym];rfl
   have u:((⟨#[32]⟩:Tb)++word++⟨#[32]⟩).size=1+word.size+1:=by rw[Ym,i];rfl
   go_wp2_with fail;go_ret;exact⟨qrt g.symm,e⟩
theorem qdy {l:List Int}(a:k<l.length)(b:inR n l[k]=false):kbG n l=false:=by
 unfold kbG;rw[show l.all (inR n)=false from Zy.2 ⟨l[k],Yi a,by simp[b]⟩];rfl
theorem q78 {l:List Int}(a:k<l.length)(c:j<k)(b:l[k]=l[j]):kbG n l=false:=by
 unfold kbG;rw[Yd (fun d=>?_),Oa];have:=Vm.1 d j k (by omega) a c;exact this b.symm
theorem qe0 {l:List Int}(d:∀a (b:a<l.length),inR n l[a]=true)(e:∀a (b:a<l.length) b (c:b<a),l[a]≠l[b]):kbG n l=true:=by
 unfold kbG;rw[Yh,Yv,Yk];refine⟨fun j h=>?_,Vm.2 fun i b f c g f=>e b c i g f.symm⟩;obtain⟨a,b,rfl⟩:=Yx.1 h;exact d a b
