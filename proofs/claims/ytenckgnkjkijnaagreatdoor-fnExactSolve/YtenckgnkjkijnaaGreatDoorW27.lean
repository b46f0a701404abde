import Derived.Test.YtenckgnkjkijnaaGreatDoorW21
import Derived.Test.YtenckgnkjkijnaaGreatDoorW19
import Derived.Test.YtenckgnkjkijnaaGreatDoorW22
set_option maxRecDepth 100000
set_option maxHeartbeats 64000000
namespace Go.Proofs.YtenckgnkjkijnaaGreatDoor
open Go Go.RowKit Go.Proofs.Tryz
theorem qaa {n:Nat}{l:List Int}(b:n<l.length):kbG n l=false:=by
 cases a:kbG n l
 . rfl
 . have:=qdz a;omega
theorem q00 (a:To)(c:Nat)(l:List Int)(n:Nat)(w:Tw)(S:l.length<=9223372036854775807)(P:l.length<=c)(G:keQ w a l) :
 Gv 297 #[.slice a l.length c,J6 n] w (.bool (kbG n l)):=by
 by_cases K:n<l.length
 . rw[qaa K]
   have L:(n:Int)<l.length:=by omega
   go_enter func297,ntmps297;go_wp2_with fail;go_ret;exact⟨rfl,bR _ _⟩
 . have L:¬ (n:Int)<l.length:=by omega
   have m:=h_ G;obtain⟨k,z⟩:=Nq (kbG n l);rw[z];have s:=h_ z;go_enter func297,ntmps297;go_wp2_with fail;go_loopw [13] (fun f wr=>∃b:Nat,b<=l.length/\f=J6 b/\(∀d (e:d<l.length),d<b->inR n l[d]=true/\∀f (y:f<d),l[d]≠l[f])/\Bw w wr) (fun f _=>l.length - (intOf f).toNat)
   case atStart=>exact⟨0,nZ _,rfl,fun d _ h=>absurd h (nL _),bR _ _⟩
   case round =>
    obtain⟨b,R,rfl,H,x⟩:=hrel;obtain⟨r,j⟩:=oB H x;replace m:=h_ (m.mono x);by_cases p:b<l.length
    . have J:(b:Int)<l.length:=by omega
      obtain⟨v,A,rfl,O,B⟩:=m b p;dsimp only at B;have I:l.getD b 0=l[b]:=(by rw[Yo,Yg p];rfl);rw[I]at B;have Q:(b:Int)<=c:=(by omega);have q:Hi (∀g,Calls prog 321 #[.slice (some ⟨v,A,none⟩) b c,J6 g] wr fun i o=>i=.returned (.bool ((l.take b).contains g))/\o=wr):=h_ fun g=>Tryz.slices_Contains_int v A b c l g wr (by omega) (by omega) (fun d h=>by
       obtain⟨t,C,i,-,o⟩:=m d h;cases i;exact o)
      have o:Hi (inR n l[b]=false->k=false):=h_ fun e=>by rw[<- s.u,qdy p e]
      have E:Hi ((l.take b).contains l[b]=true->k=false):=h_ fun e=>by
       rw[List.contains_iff_mem]at e;obtain⟨d,h,i⟩:=Yx.1 e;rw[Zb]at h;rw[List.getElem_take]at i;rw[<- s.u,q78 p (show d<b by omega) i.symm]
      have C:Hi (inR n l[b]=true->(l.take b).contains l[b]=false->∀d (e:d<l.length),d<b+1->inR n l[d]=true/\∀f (y:f<d),l[d]≠l[f]):=h_ fun F t d h D=>by
       by_cases D:d=b
       . subst D
         refine⟨F,fun f y i=>?_⟩;have:(l.take d).contains l[d]=true:=List.contains_iff_mem.2 (by rw[i];exact Yx.2 ⟨f,by rw[Zb];omega,by rw[List.getElem_take]⟩);rw[this]at t;cases t
       . exact r d h (by omega)
      have i:inR n l[b]=decide (0<=l[b]/\l[b]<n):=rfl;generalize l[b]=g at *;replace q:=h_ (q g);generalize (l.take b).contains g=M at *;generalize inR n g=F at *;by_cases T:g<0
      . have f:Hi (k=false):=h_ (o (by rw[i,Yd (by omega)]))
        go_wp2_with fail;go_ret;exact⟨qln f.symm,j⟩
      by_cases N:(n:Int)<=g
      . have f:Hi (k=false):=h_ (o (by rw[i,Yd (by omega)]))
        go_wp2_with fail;go_ret;exact⟨qln f.symm,j⟩
      have D:Hi (F=true):=h_ (by rw[i,Ye (by omega)]);go_wp2_with fail;refine cQ q fun U t=>?_;replace t:=t.symm;subst t;cases M
      . have y:=h_ (C D rfl)
        refine rQ ?_;exact⟨b+1,by omega,by go_num,y,j⟩
      . have f:=h_ (E rfl)
        go_wp2_with fail;go_ret;exact⟨qln f.symm,j⟩
    . obtain rfl:b=l.length:=by omega
      have J:¬ (l.length:Int)<(l.length:Int):=(by omega);have o:Hi (k=true):=h_ (by
       rw[<- s.u];exact qe0 (fun b e=>(r b e e).1) (fun b e d h=>(r b e e).2 d h))
      go_wp2_with fail;go_ret;exact⟨qln o.symm,j⟩
theorem qb1 (a:To)(c:Nat)(l:List Nx)(w:Tw)(i:l.length<=9223372036854775807)(f:kb0 w a l)(h:∀b,b<l.length->Fit (nf l b))(m:kdW w)(j:Pow w) :
 Gv 322 #[.slice a l.length c] w (.bool (vxL l)):=by
 have b:=h_ (q9a a l.length c (nf l) w i f h m j);obtain⟨o,k⟩:=Nq ((if vxB (nf l) l.length then (top (nf l) l.length).t else ⟨#[]⟩));obtain⟨n,d⟩:=Nq (vxB (nf l) l.length);rw[k,d]at b;rw[show vxL l=n from d];go_enter func322,ntmps322;go_wp2_with fail;refine cQ b fun p g=>?_;have e:=h_ g;go_wp2_with fail;go_ret;exact⟨rfl,e⟩
theorem q9f (f:Fl)(A:FA)(w:Tw) :
 Gv 168 #[fV f A] w (.agg #[.slice A.i f.is.length A.ic,.slice A.h f.wh.length A.hc,.slice A.v f.va.length A.vc,.slice A.u f.mu.length A.uc]):=by
 obtain⟨ab,a,d,e,b,c,k,l,g,j⟩:=A;unfold fV;dsimp only;go_enter func168,ntmps168;go_wp2_with fail;exact bQ ⟨rfl,((bR _ _).alloc (nR _) _).alloc (by simp) _⟩
def kar (f:Fl)(k:Nat):List Nx:=if k=0 then f.is else if k=1 then f.wh else if k=2 then f.va else f.mu
structure kbT (w:Tw):Prop where
 ws:kdW w
 pw:Pow w
theorem kbT.mono {w w':Tw}(a:kbT w)(b:Bw w w'):kbT w':=⟨a.ws.mono b,a.pw.mono b⟩
theorem q0i (f:Fl)(A:FA)(w:Tw)(Y:kd2 f)(V:FSl w f A)(ht:kbT w) :
 Gv 298 #[fV f A] w (.bool (kac f.is&&kac f.wh&&kac f.va&&kac f.mu)):=by
 obtain⟨ab,H,j,k,h,i,n,o,l,m⟩:=A;have s:=h_ fun c=>q9f f ⟨ab,H,j,k,h,i,n,o,l,m⟩ c;obtain⟨r,L⟩:=Nq ((kac f.is&&kac f.wh&&kac f.va&&kac f.mu));rw[L];have E:=h_ L;unfold fV at s⊢;dsimp only at s⊢;obtain⟨T,ac,Q,d⟩:=nw w 92 (Ja f ab H j k h i n o l m);obtain⟨t,v,O⟩:=oC (V.mono d) (ht.mono d) Y;obtain⟨y0,y1,y2,y3,y4,y5,y6,y7,y8⟩:=kaU Q;go_enter func298,ntmps298;go_wp2_with fail;refine cQ (s T) fun G z=>?_;replace t:=h_ (t.mono z);replace v:=h_ (v.mono z);replace d:=mT d z;have F:Hi (∀a:Nat,a<4->∀c,Bw G c->∃x y,(∀g,(Instr.index 240 (.agg (#[Value.slice j f.is.length k,.slice h f.wh.length i,.slice n f.va.length o,.slice l f.mu.length m]:Ta)) (J6 a)).run prog g=.ok (.slice x (kar f a).length y) g)/\(kar f a).length<=9223372036854775807/\Gv 322 #[.slice x (kar f a).length y] c (.bool (vxL (kar f a)))):=h_ fun a J c q=>by
  have p:=t.mono q;have e:=v.mono q;have b:=O.u;obtain rfl | rfl | rfl | rfl:a=0∨a=1∨a=2∨a=3:=by omega
  . exact⟨j,k,fun g=>by simp[Instr.index,run_underlying underlying240,asIntOf,go_sem,kar],b.il,qb1 j k f.is c b.il p.i b.i e.ws e.pw⟩
  . exact⟨h,i,fun g=>by simp[Instr.index,run_underlying underlying240,asIntOf,go_sem,kar],b.hl,qb1 h i f.wh c b.hl p.h b.h e.ws e.pw⟩
  . exact⟨n,o,fun g=>by simp[Instr.index,run_underlying underlying240,asIntOf,go_sem,kar],b.vl,qb1 n o f.va c b.vl p.v b.v e.ws e.pw⟩
  . exact⟨l,m,fun g=>by simp[Instr.index,run_underlying underlying240,asIntOf,go_sem,kar],b.ul,qb1 l m f.mu c b.ul p.u b.u e.ws e.pw⟩
 have R:Hi (∀a,a<4->kac (kar f a)=false->r=false):=h_ fun a J b=>by
  rw[<- E.u];obtain rfl | rfl | rfl | rfl:a=0∨a=1∨a=2∨a=3:=by omega
  all_goals
   simp only[kar]at b;simp at b;simp[b]
 have S:Hi ((∀a,a<4->kac (kar f a)=true)->r=true):=h_ fun b=>by
  rw[<- E.u,show kac f.is=true from b 0 (by omega),show kac f.wh=true from b 1 (by omega),show kac f.va=true from b 2 (by omega),show kac f.mu=true from b 3 (by omega)];rfl
 obtain⟨rs,Z⟩:=Nq ((#[Value.slice j f.is.length k,.slice h f.wh.length i,.slice n f.va.length o,.slice l f.mu.length m]:Ta));rw[Z]at F⊢;go_wp2_with fail;go_loopw [7] (fun e wr=>∃a:Nat,a<=4/\e=J6 a/\(∀c,c<a->kac (kar f c)=true)/\Bw G wr) (fun e _=>4 - (intOf e).toNat)
 case atStart=>exact⟨0,by omega,rfl,fun c g=>absurd g (nL _),bR _ _⟩
 case round =>
  obtain⟨a,J,rfl,W,q⟩:=hrel;obtain⟨D,e⟩:=oB W q;by_cases K:a<4
  . have af:(a:Int)<4:=by omega
    obtain⟨x,y,ad,ae,hC⟩:=F a K wr e;have N:=h_ hC;have P:Hi (kac (kar f a)=false->r=false):=h_ (R a K);have C:Hi (kac (kar f a)=true->∀c,c<a+1->kac (kar f c)=true):=h_ fun b c g=>by
     by_cases g:c=a
     . subst g;exact b
     . exact D c (by omega)
    have c:kac (kar f a)=(decide ((kar f a).length=0)||vxL (kar f a)):=rfl;generalize kar f a=b at *;generalize vxL b=aa at *;generalize kac b=M at *;by_cases I:b.length=0
    . have U:¬ (0:Int)<b.length:=by omega
      have g:=h_ (C (by rw[c,I];rfl));refine rQ ?_;exact⟨a+1,by omega,by go_num,g,e⟩
    . have U:(0:Int)<b.length:=by omega
      replace c:M=aa:=(by rw[c,Yd I,Ot]);subst c;go_wp2_with fail;refine cQ N fun W2 X=>?_;have B:=mT e X;cases M
      . have p:=h_ (P rfl)
        go_wp2_with fail;go_ret;exact⟨qln p.symm,d.trans (B.mono d.size)⟩
      . have g:=h_ (C rfl)
        refine rQ ?_;exact⟨a+1,by omega,by go_num,g,B⟩
  . obtain rfl:a=4:=by omega
    have p:Hi (r=true):=h_ (S D);go_wp2_with fail;go_ret;exact⟨qln p.symm,d.trans (e.mono d.size)⟩
theorem q0w (f:Fl)(A:FA)(g i:Nat)(w:Tw)(a:kd2 f)(k:f.bys.length<=A.bc)(j:FSl w f A)(c:kbT w) :
 Gv 237 #[fV f A,J6 g,J6 i] w (.bool (kaq g i f)):=by
 obtain⟨ab,o,B,C,y,z,F,G,D,E⟩:=A;have e:=qar g i f;have s:=h_ fun d (h:FSl d f ⟨ab,o,B,C,y,z,F,G,D,E⟩) (c:kbT d)=>q0i f ⟨ab,o,B,C,y,z,F,G,D,E⟩ d a h c;unfold fV at s⊢;dsimp only at k s⊢;obtain⟨M,l,m,d⟩:=nw w 92 (Ja f ab o B C y z F G D E);obtain⟨n,x,HF⟩:=oC (j.mono d) (c.mono d) a;have X:=a.bl;have ad:=a.il;have ae:=a.vl;have aa:=a.sy;obtain⟨h,p⟩:=Nq (kaq g i f);rw[p]at e⊢;clear j c a p;obtain⟨y0,y1,y2,y3,y4,y5,y6,y7,y8⟩:=kaU m;by_cases h1:f.ty<1
 . have a:Hi (h=false):=h_ (by rw[e,Yd (by omega)];rfl)
   clear e;go_enter func237,ntmps237;go_wp2_with fail;go_ret;exact⟨qln a.symm,d⟩
 by_cases h2:3<f.ty
 . have a:Hi (h=false):=h_ (by rw[e,Yd (by omega)];rfl)
   clear e;go_enter func237,ntmps237;go_wp2_with fail;go_ret;exact⟨qln a.symm,d⟩
 rw[Ye (show 1<=f.ty/\f.ty<=3 by omega),Y9]at e;have r:=h_ (qb3 f.lb g M);have p:(f.lb = -1/\decide (-1<=f.lb/\f.lb<g)=true)∨(f.lb≠-1/\decide (-1<=f.lb/\f.lb<g)=inR g f.lb):=by
  by_cases j:f.lb = -1
  . exact .inl ⟨j,Ye (by omega)⟩
  . exact .inr ⟨j,decide_eq_decide.2 (by omega)⟩
 generalize inR g f.lb=U at *;obtain⟨K,c⟩:=Nq (decide (-1<=f.lb/\f.lb<g));rw[c]at e p;have t:=h_ e;clear e c;have R:=h_ (q00 ab o f.bys i M X k n.b);have e:(f.sy=⟨#[]⟩) ↔ f.sy.size=0:=⟨fun j=>by rw[j];rfl,fun j=>by
  refine qd0 ?_;have:f.sy.data.toList.length=0:=by simpa using j
  rw[Za.1 this]⟩
 have ac:=h_ e;clear e k;have I:((f.lb != -1)=false/\(f.lb==-1)=true/\K=true)∨((f.lb != -1)=true/\(f.lb==-1)=false/\K=U):=by
  rcases p with ⟨e,c⟩ | ⟨e,c⟩
  . exact .inl ⟨by rw[e];rfl,by rw[e];rfl,c⟩
  . exact .inr ⟨by simp[e],by simp[e],c⟩
 clear p;have Z:(¬ (0:Int)<f.bys.length)∨((0:Int)<f.bys.length/\¬ (0:Int)<f.is.length)∨((0:Int)<f.bys.length/\(0:Int)<f.is.length):=by omega
 cases K
 . have a:Hi (h=false):=h_ (by rw[t.u];rfl)
   rcases I with ⟨j,k,c⟩ | ⟨j,k,c⟩
   . cases c
   subst c;go_enter func237,ntmps237;go_wp2_with fail
   try rw[l]
   refine cQ r fun q e=>?_;replace e:=e.symm;subst e;clear l;go_wp2_with fail;go_ret;exact⟨qln a.symm,d⟩
 rcases Z with Q | ⟨Q,Y⟩ | ⟨Q,Y⟩
 case' inr.inl =>
  have p:¬ 0<f.is.length:=by omega
  have v:decide (0<f.is.length)=false:=Yd p
 case' inr.inr =>
  have a:Hi (h=false):=h_ (by rw[t.u,Yd (show ¬ (f.is.length=0∨f.bys.length=0) by omega)];simp);have p:0<f.is.length:=by omega
  have v:decide (0<f.is.length)=true:=Ye p;rcases I with ⟨j,k,c⟩ | ⟨j,k,c⟩
  . go_enter func237,ntmps237
    go_wp2_with fail;go_ret;exact⟨qln a.symm,d⟩
  subst c;go_enter func237,ntmps237;go_wp2_with fail
  try rw[l]
  refine cQ r fun q e=>?_;replace e:=e.symm;subst e;clear l;go_wp2_with fail;go_ret;exact⟨qln a.symm,d⟩
 all_goals
  have v:Hi (h=(kbG i f.bys&&kaw f.sy&&decide (f.va.length≠0∨f.sy.size=0)&&(kac f.is&&kac f.wh&&kac f.va&&kac f.mu))):=h_ (by rw[t.u,Ye (show f.is.length=0∨f.bys.length=0 by omega)];simp[Bool.and_assoc]);rcases I with ⟨j,k,c⟩ | ⟨j,k,c⟩
  case' inl =>
   go_enter func237,ntmps237;go_wp2_with fail
  case' inr =>
   subst c;go_enter func237,ntmps237;go_wp2_with fail;refine cQ r fun q e=>?_;replace e:=e.symm;subst e;go_wp2_with fail
  all_goals
   refine cQ R fun N p=>?_;replace m:=mB m p;replace n:=h_ (n.mono p);replace x:=h_ (x.mono p);replace d:=mT d p;obtain⟨y0,y1,y2,y3,y4,y5,y6,y7,y8⟩:=kaU m;generalize kbG i f.bys=V at *;cases V
   . have a:Hi (h=false):=h_ (by rw[v.u];rfl)
     go_wp2_with fail;go_ret;exact⟨qln a.symm,d⟩
   obtain⟨T,S⟩:=oB (qb8 f.sy N aa) (s N n x);generalize kaw f.sy=P at *;generalize (kac f.is&&kac f.wh&&kac f.va&&kac f.mu)=O at *;have H:=kdj f.sy;have J:((¬ f.sy.size=0/\((f.va.length:Int)==0)=true)/\decide (f.va.length≠0∨f.sy.size=0)=false)∨((¬ f.sy.size=0/\((f.va.length:Int)==0)=false)/\decide (f.va.length≠0∨f.sy.size=0)=true)∨(f.sy.size=0/\decide (f.va.length≠0∨f.sy.size=0)=true):=by
    by_cases l:f.sy.size=0
    . exact .inr (.inr ⟨l,Ye (.inr l)⟩)
    . by_cases q:f.va.length=0
      . exact .inl ⟨⟨l,by simp[q]⟩,Yd (by omega)⟩
      . exact .inr (.inl ⟨⟨l,Yc.2 (by omega)⟩,Ye (.inl q)⟩)
   rcases J with ⟨⟨l,u3⟩,q⟩ | J
   . rw[Yd l]at H
     have a:Hi (h=false):=h_ (by rw[v.u,q];simp);go_wp2_with fail;go_ret;exact⟨qln a.symm,d⟩
   rcases J with ⟨⟨l,u3⟩,q⟩ | ⟨l,q⟩
   all_goals
    first | rw[Yd l]at H | rw[Ye l]at H
    have L:Hi (h=(P&&O)):=h_ (by rw[v.u,q];simp);go_wp2_with fail;refine cQ T fun W3 e=>?_;replace e:=e.symm;subst e;cases P
    . have a:Hi (h=false):=h_ (by rw[L.u];rfl)
      go_wp2_with fail;go_ret;exact⟨qln a.symm,d⟩
    have a:Hi (h=O):=h_ (by rw[L.u];rfl);go_wp2_with fail;refine cQ S fun W4 W=>?_;replace d:=mT d W;go_wp2_with fail;go_ret;exact⟨qln a.symm,d⟩
theorem qds {d:List Tb}{l:List Nx}{k:Nat}(a:k<l.length)(b:(nf l k).op=1)(c:kc3 (nf l k).nm d=false):kas d l=false:=by
 unfold kas;refine Zy.2 ⟨l[k],Yi a,?_⟩;rw[kb7 l k a]at b c;simp[b,c]
theorem qa5 {d:List Tb}{l:List Nx}(e:∀a,a<l.length->(nf l a).op=1->kc3 (nf l a).nm d=true):kas d l=true:=by
 unfold kas;refine Yv.2 fun g f=>?_;obtain⟨a,c,rfl⟩:=Yx.1 f;have:=e a c;rw[kb7 l a c]at this;by_cases b:l[a].op=1
 . rw[this b];simp
 . rw[Yd b];rfl
theorem q1w (a:To)(c:Nat)(l:List Nx)(b:Nat)(g:List Tb)(w:Tw)(O:l.length<=9223372036854775807)(h:∀e,e<l.length->Fit (nf l e))(f:kb0 w a l)(i:kbR w b g) :
 Gv 240 #[.slice a l.length c,.map (some b)] w (.bool (!kas g l)):=by
 obtain⟨B,G,D⟩:=oC f i h;obtain⟨A,d⟩:=Nq ((!kas g l));rw[d];have z:=h_ d;clear f i h d;go_enter func240,ntmps240;go_wp2_with fail;go_loopw [11] (fun d wr=>∃e:Nat,e<=l.length/\d=J6 e/\(∀f,f<e->(nf l f).op=1->kc3 (nf l f).nm g=true)/\Bw w wr) (fun d _=>l.length - (intOf d).toNat)
 case atStart=>exact⟨0,nZ _,rfl,fun f i=>absurd i (nL _),bR _ _⟩
 case round =>
  obtain⟨e,N,rfl,h,d⟩:=hrel;obtain⟨y,r,C,H⟩:=oD h d (B.mono d) (G.mono d);clear h d;by_cases t:e<l.length
  . have K:(e:Int)<l.length:=by omega
    obtain⟨pb,P,rfl,-,V,W,X,Y,Z⟩:=C e t;have m:Hi ((nf l e).op=1->kc3 (nf l e).nm g=false->A=true):=h_ fun h d=>by rw[<- z.u,qds t h d];rfl
    have o:Hi (((nf l e).op=1->kc3 (nf l e).nm g=true)->∀f,f<e+1->(nf l f).op=1->kc3 (nf l f).nm g=true):=h_ fun n f i=>by
     by_cases d:f=e
     . subst d;exact n
     . exact y f (by omega)
    have E:=h_ (D e t);generalize nf l e=d at *;obtain⟨x,j⟩:=oB (Blk.new wr 190 #[J6 d.op,J6 d.v.k,J6 d.v.n,.string d.v.s,.string d.nm]) (r.alloc r.size (.cells #[J6 d.op,J6 d.v.k,J6 d.v.n,.string d.v.s,.string d.nm] 190));have p:=H.mono ((bR _ _).alloc (nR _) (.cells #[J6 d.op,J6 d.v.k,J6 d.v.n,.string d.v.s,.string d.nm] 190));obtain⟨M,i⟩:=Nq (wr.alloc (.cells #[J6 d.op,J6 d.v.k,J6 d.v.n,.string d.v.s,.string d.nm] 190));rw[i]at x j p;have k:=h_ p;clear p;obtain⟨Q,R,S,T,U⟩:=kaG x;by_cases h:d.op=1
    . have I:(d.op != 1)=false:=by rw[h];rfl
      have J:(d.op==1)=true:=(by rw[h];rfl);replace m:=h_ (m h);have F:Hi (kc3 d.nm g=true->∀f,f<e+1->(nf l f).op=1->kc3 (nf l f).nm g=true):=h_ fun n=>o fun _=>n;clear h o;have p:Hi (keyOf prog 9 (.string d.nm)=some (kl d.nm)):=h_ (WideMaps.keyOf_string_mk underlying9 E.2.1);cases q:kc3 d.nm g
      . have f:=h_ (m q)
        go_wp2_with (at_lookup;refine wpList_lookup_own_ok_int _ rfl _ _ 119 rfl 9 3 .i64 (Maps.string_keyed underlying9) underlying119 underlying3 (Tryz.zeroValue3 _) b g.length (mp g) rfl (by first | exact k | (rw[i];exact k)) _ _ rfl p ?_;intro L _ _;rw[kfr,q])
        try rw[i]
        clear i k p;go_ret;exact⟨qln f.symm,j⟩
      . have f:=h_ (F q)
        go_wp2_with (at_lookup;refine wpList_lookup_own_ok_int _ rfl _ _ 119 rfl 9 3 .i64 (Maps.string_keyed underlying9) underlying119 underlying3 (Tryz.zeroValue3 _) b g.length (mp g) rfl (by first | exact k | (rw[i];exact k)) _ _ rfl p ?_;intro L _ _;rw[kfr,q])
        try rw[i]
        clear i k p;go_roundw
        case rel=>first | exact⟨e+1,by omega,by go_num,f,j⟩ | ((repeat apply Exists.intro);exact⟨⟨e+1,by omega,by go_num,f,j⟩,rfl⟩)
        case measure=>simp[intOf];omega
    . have I:(d.op != 1)=true:=by simp[h]
      have J:(d.op==1)=false:=(by simp[h]);have f:=h_ (o fun n=>absurd n h);clear h o;go_wp2_with fail
      try rw[i]
      clear i;go_roundw
      case rel=>first | exact⟨e+1,by omega,by go_num,f,j⟩ | ((repeat apply Exists.intro);exact⟨⟨e+1,by omega,by go_num,f,j⟩,rfl⟩)
      case measure=>simp[intOf];omega
  . obtain rfl:e=l.length:=by omega
    have K:¬ (l.length:Int)<(l.length:Int):=(by omega);have m:Hi (A=false):=h_ (by rw[<- z.u,qa5 y.u];rfl);go_wp2_with fail;go_ret;exact⟨qln m.symm,r⟩
theorem q18 (f:Fl)(A:FA)(X b:Nat)(c:List Tb)(w:Tw)(hf:kd2 f)(V:FSl w f A)(hm:kbR w b c)(K:X<w.heap.size)(Z:w.cell? ⟨X,0,none⟩=some (.map (some b))) :
 Gv 239 #[fV f A,J9 X 0] w (.bool (!kai c f)):=by
 obtain⟨ab,J,l,m,j,k,q,r,n,o⟩:=A;have B:=h_ fun g=>q9f f ⟨ab,J,l,m,j,k,q,r,n,o⟩ g;obtain⟨v,N⟩:=Nq ((!kai c f));rw[N];have H:Hi ((!(kas c f.is&&kas c f.wh&&kas c f.va&&kas c f.mu))=v):=h_ N;unfold fV at B⊢;dsimp only at B⊢;obtain⟨E,ae,S,e⟩:=nw w 92 #[.string f.nm,J6 f.ty,J6 f.lb,.slice ab f.bys.length J,.slice l f.is.length m,.slice j f.wh.length k,.slice q f.va.length r,.string f.sy,.slice n f.mu.length o];obtain⟨D,C,P⟩:=oC (V.mono e) (hm.mono e) hf;have h:Hi (X<E.heap.size/\E.cell? ⟨X,0,none⟩=some (.map (some b))):=h_ ⟨Yn K e.size,(e.cell (p:=⟨X,0,none⟩) K).trans Z⟩;obtain⟨y0,y1,y2,y3,y4,y5,y6,y7,y8⟩:=kaU S;go_enter func239,ntmps239;go_wp2_with fail;refine cQ (B E) fun z t=>?_;replace D:=h_ (D.mono t);replace C:=h_ (C.mono t);replace e:=mT e t;replace h:Hi (X<z.heap.size/\z.cell? ⟨X,0,none⟩=some (.map (some b))):=h_ ⟨Yn h.1 t.size,(t.cell (p:=⟨X,0,none⟩) h.1).trans h.2⟩;have I:Hi (∀a:Nat,a<4->∀g,Bw z g->∃F G,(∀i,(Instr.index 240 (.agg (#[Value.slice l f.is.length m,.slice j f.wh.length k,.slice q f.va.length r,.slice n f.mu.length o]:Ta)) (J6 a)).run prog i=.ok (.slice F (kar f a).length G) i)/\(kar f a).length<=9223372036854775807/\Gv 240 #[.slice F (kar f a).length G,.map (some b)] g (.bool (!kas c (kar f a)))):=h_ fun a L g s=>by
  have y:=D.mono s;have x:=C.mono s;have d:=P.u;obtain rfl | rfl | rfl | rfl:a=0∨a=1∨a=2∨a=3:=by omega
  . exact⟨l,m,fun i=>by simp[Instr.index,run_underlying underlying240,asIntOf,go_sem,kar],d.il,q1w l m f.is b c g d.il d.i y.i x⟩
  . exact⟨j,k,fun i=>by simp[Instr.index,run_underlying underlying240,asIntOf,go_sem,kar],d.hl,q1w j k f.wh b c g d.hl d.h y.h x⟩
  . exact⟨q,r,fun i=>by simp[Instr.index,run_underlying underlying240,asIntOf,go_sem,kar],d.vl,q1w q r f.va b c g d.vl d.v y.v x⟩
  . exact⟨n,o,fun i=>by simp[Instr.index,run_underlying underlying240,asIntOf,go_sem,kar],d.ul,q1w n o f.mu b c g d.ul d.u y.u x⟩
 have T:Hi (∀a,a<4->kas c (kar f a)=false->v=true):=h_ fun a L d=>by
  rw[<- H.u];obtain rfl | rfl | rfl | rfl:a=0∨a=1∨a=2∨a=3:=by omega
  all_goals
   simp only[kar]at d;simp at d;simp[d]
 have U:Hi ((∀a,a<4->kas c (kar f a)=true)->v=false):=h_ fun d=>by
  rw[<- H.u,show kas c f.is=true from d 0 (by omega),show kas c f.wh=true from d 1 (by omega),show kas c f.va=true from d 2 (by omega),show kas c f.mu=true from d 3 (by omega)];rfl
 obtain⟨rs,aa⟩:=Nq ((#[Value.slice l f.is.length m,.slice j f.wh.length k,.slice q f.va.length r,.slice n f.mu.length o]:Ta));rw[aa]at I⊢;go_wp2_with fail;go_loopw [8] (fun i wr=>∃a:Nat,a<=4/\i=J6 a/\(∀g,g<a->kas c (kar f g)=true)/\Bw z wr) (fun i _=>4 - (intOf i).toNat)
 case atStart=>exact⟨0,by omega,rfl,fun g y=>absurd y (nL _),bR _ _⟩
 case round =>
  obtain⟨a,L,rfl,W,s⟩:=hrel;obtain⟨x,i⟩:=oB W s;have x0:=(s.cell (p:=⟨X,0,none⟩) h.1).trans h.2;by_cases M:a<4
  . have aj:(a:Int)<4:=by omega
    obtain⟨F,G,af,ag,hC⟩:=I a M wr i;have O:=h_ hC;have Q:Hi (kas c (kar f a)=false->v=true):=h_ (T a M);have R:Hi (kas c (kar f a)=true->∀g,g<a+1->kas c (kar f g)=true):=h_ fun d g y=>by
     by_cases y:g=a
     . subst y;exact d
     . exact x g (by omega)
    generalize kar f a=ac at *;generalize kas c ac=ad at *;go_wp2_with fail;refine cQ O fun W2 Y=>?_;have g:=mT i Y;cases ad
    . have d:=h_ (Q rfl)
      go_wp2_with fail;go_ret;exact⟨qln d.symm,e.trans (g.mono e.size)⟩
    . have y:=h_ (R rfl)
      refine rQ ?_;exact⟨a+1,by omega,by go_num,y,g⟩
  . obtain rfl:a=4:=by omega
    have d:Hi (v=false):=h_ (U x);go_wp2_with fail;go_ret;exact⟨qln d.symm,e.trans (i.mono e.size)⟩
def khp (names:List Tb)(l:List Fl)(r:Int):Prop:=-1<=r/\r<=l.length/\(r<0 ↔ ∀x,x∈l->kai names x=true)
theorem q1c (a:To)(c X b:Nat)(l:List Fl)(j:Nat->FA)(f:List Tb)(w:Tw)(hl:l.length<=200)(K:∀q,q∈l->kd2 q)(G:kdn w a l j)(M:kbR w b f)(F:X<w.heap.size)(J:w.cell? ⟨X,0,none⟩=some (.map (some b))) :
 Calls prog 238 #[.slice a l.length c,.func (.func 239) #[] #[J9 X 0]] w fun e g=>∃d,e=.returned (J6 d)/\khp f l d/\Bw w g:=by
 obtain⟨v,A,y,k⟩:=oD G M K (And.intro F J);go_enter func238,ntmps238;go_wp2_with fail;go_loopw [5,8] (fun _ g wr=>∃d:Nat,d<=l.length/\g=J6 d/\(∀e (h:e<l.length),e<d->kai f l[e]=true)/\Bw w wr) (fun _ g _=>l.length - (intOf g).toNat)
 case atStart=>exact⟨0,nZ _,rfl,fun e _ g=>absurd g (nL _),bR _ _⟩
 case round =>
  obtain⟨d,hk,rfl,H,i⟩:=hrel;obtain⟨t,r,x,B⟩:=oD H i (v.mono i) (A.mono i);have s:Hi (X<wr.heap.size/\wr.cell? ⟨X,0,none⟩=some (.map (some b))):=h_ ⟨Yn k.1 i.size,(i.cell (p:=⟨X,0,none⟩) k.1).trans k.2⟩;by_cases o:d<l.length
  . have L:(d:Int)<l.length:=by omega
    obtain⟨pb,po,rfl,⟨-,z0,z1,z2,O,P,Q,R,z7,S⟩,N⟩:=x d o;have m:=h_ (q18 l[d] (j d) X b f wr (y _ (Yi o)) N B s.1 s.2);have n:Hi (kai f l[d]=false->khp f l d):=h_ fun h=>⟨by omega,by omega,⟨fun u=>by omega,fun u=>by have:=u _ (Yi o);rw[h]at this;cases this⟩⟩;have u:Hi (kai f l[d]=true->∀e (h:e<l.length),e<d+1->kai f l[e]=true):=h_ fun h e g z=>by
     by_cases z:e=d
     . subst z;exact h
     . exact t e g (by omega)
    generalize l[d]=C at *;generalize j d=D at *;obtain⟨ab,U,Y,Z,V,W,av,ac,au,aa⟩:=D;unfold fV at m;dsimp only at O P Q R S m;generalize kai f C=E at *;go_wp2_with fail;refine cQ m fun T I=>?_;have h:=mT r I;cases E
    . have z:=h_ (n rfl)
      go_wp2_with fail;go_ret;exact⟨_,rfl,z,h⟩
    . have z:=h_ (u rfl)
      refine rQ ?_;exact⟨d+1,by omega,by go_num,z,h⟩
  . obtain rfl:d=l.length:=by omega
    have L:¬ (l.length:Int)<(l.length:Int):=(by omega);have n:Hi (khp f l (-1)):=h_ ⟨by omega,by omega,⟨fun _ q h=>by
     obtain⟨e,g,rfl⟩:=Yx.1 h;exact t e g g,fun _=>by omega⟩⟩
    go_wp2_with fail;go_ret;exact⟨_,rfl,n,r⟩
theorem q19 (m:Fm)(A:MA)(w:Tw)(L:kbe m)(K:kb8 m)(J:MSl w m A) :
 Calls prog 195 #[mV m A] w fun a b=>∃e,a=.returned (J6 e)/\khp (kaa m) m.F e/\Bw w b:=by
 obtain⟨t,v,x,y,ar,z,k,l,s⟩:=A;unfold mV;dsimp only;obtain⟨E,W,b,a⟩:=nw w 37 (Jb t m v x y ar z k l);obtain⟨d,p,h⟩:=oC (J.mono a) L K;obtain⟨R,S,T,U⟩:=kaf b;go_enter func195,ntmps195;go_wp2_with fail;refine(q2b m ⟨t,v,x,y,ar,z,k,l,s⟩ E h.f d.f).mono ?_;rintro e j ⟨H,I,rfl,N,c⟩;have C:=h_ N;replace b:=mB b c;replace d:=h_ (d.mono c);replace a:=mT a c;have o:Hi (m.F.length=(kaa m).length):=h_ (by simp[kaa]);go_wp2_with fail;have B:=q6e H I (kaa m) j (by rw[<- o.u];have:=h.f;omega) (fun P n=>by obtain⟨Q,O,rfl⟩:=Y4.1 n;exact(p.f Q O).nm) C;rw[<- o.u]at B;refine B.mono ?_;rintro e r ⟨rfl,M,c⟩;replace b:=mB b c;replace d:=h_ (d.mono c);replace a:=mT a c;have i:=h_ M;obtain⟨G,X,q,g⟩:=nw r 119 #[.map (some j.heap.size)];replace b:=h_ (b.mono g b.lt);replace d:=h_ (d.mono g);replace a:=h_ (a.trans (g.mono a.size));replace i:=h_ (i.mono g);obtain⟨R,S,T,U⟩:=kaf b;go_wp2_with fail;refine(q1c k l r.heap.size j.heap.size m.F s (kaa m) G h.f p.f d.f i q.lt (q.cell 0)).mono ?_;rintro e V ⟨P,rfl,n,c⟩;have D:=h_ n;replace a:=mT a c;go_wp2_with fail;go_ret;exact⟨_,rfl,D,a⟩
def kev (m:Fm)(A:MA):Prop:=∀k (h:k<m.F.length),(m.F[k]).bys.length<=(A.fa k).bc
theorem q08 (m:Fm)(A:MA)(w:Tw)(hf:kbe m)(o:kb8 m)(ha:MSl w m A)(e:kev m A)(ht:kbT w) :
 Gv 194 #[mV m A] w (.bool (m.F.all (kaq m.L.length m.R.length))):=by
 obtain⟨al,ag,ap,aj,ar,ak,af,ae,ad⟩:=A;unfold mV;dsimp only;obtain⟨W0,aw,q,c⟩:=nw w 37 (Jb al m ag ap aj ar ak af ae);obtain⟨HS,U,HT,T⟩:=oD (ha.mono c) hf (ht.mono c) e;have hl:=o.l;have hr:=o.r;have ay:=o.f;obtain⟨K,I⟩:=Nq (m.F.all (kaq m.L.length m.R.length));rw[I];have v:=h_ I;obtain⟨y0,y1,y2,y3⟩:=kaf q;go_enter func194,ntmps194;go_wp2_with fail;go_loopw [8] (fun f wr=>∃a:Nat,a<=m.F.length/\f=J6 a/\(∀b (d:b<m.F.length),b<a->kaq m.L.length m.R.length m.F[b]=true)/\Bw W0 wr) (fun f _=>m.F.length - (intOf f).toNat)
 case atStart=>exact⟨0,nZ _,rfl,fun b _ f=>absurd f (nL _),bR _ _⟩
 case round =>
  obtain⟨a,hk,rfl,an,g⟩:=hrel;obtain⟨t,i,aa⟩:=oC an g (HS.mono g);have s:=mB q g;have ac:=h_ (HT.mono g);by_cases h:a<m.F.length
  . have aq:(a:Int)<m.F.length:=by omega
    obtain⟨pb,po,rfl,⟨-,z0,z1,z2,M,N,O,P,z7,Q⟩,J⟩:=aa.f a h;dsimp only at M N O P Q J;have e:=T a h;dsimp only at e;have V:=h_ (U.f _ (Yi h));have k:Hi (kaq m.L.length m.R.length m.F[a]=false->K=false):=h_ fun d=>by
     rw[<- v.u];exact Zy.2 ⟨m.F[a],Yi h,by simp[d]⟩
    have W:Hi (kaq m.L.length m.R.length m.F[a]=true->∀b (d:b<m.F.length),b<a+1->kaq m.L.length m.R.length m.F[b]=true):=h_ fun n b d f=>by
     by_cases j:b=a
     . subst j;exact n
     . exact t b d (by omega)
    generalize m.F[a]=n at *;generalize ad a=fa at *;obtain⟨ab,x,B,C,y,z,G,H,D,E⟩:=fa;dsimp only at M N O P Q e;obtain⟨Wd,ax,Z,d⟩:=nw wr 92 (Ja n ab x B C y z G H D E);obtain⟨S,Y,j⟩:=oC (i.trans (d.mono i.size)) (s.mono d s.lt) (q0w n ⟨ab,x,B,C,y,z,G,H,D,E⟩ m.L.length m.R.length Wd V e (J.mono d) (ac.mono d));unfold fV at j;dsimp only at j;obtain⟨x0,x1,x2,x3,x4,x5,x6,x7,x8⟩:=kaU Z;obtain⟨v0,v1,v2,v3⟩:=kaf Y;generalize kaq m.L.length m.R.length n=am at *;go_wp2_with fail;refine cQ j fun W2 ao=>?_;have p:=mT S ao;cases am
    . have X:=h_ (k rfl)
      go_wp2_with fail;go_ret;exact⟨qln X.symm,c.trans (p.mono c.size)⟩
    . have X:=h_ (W rfl)
      refine rQ ?_;exact⟨a+1,by omega,by go_num,X,p⟩
  . obtain rfl:a=m.F.length:=by omega
    have aq:¬ (m.F.length:Int)<(m.F.length:Int):=(by omega);have k:Hi (K=true):=h_ (by
     rw[<- v.u];exact Yv.2 fun d d=>by
      obtain⟨b,f,rfl⟩:=Yx.1 d;exact t b f f)
    go_wp2_with fail;go_ret;exact⟨qln k.symm,c.trans (i.mono c.size)⟩
