import Derived.Test.YtcnjbclpncidnaaGreatDoorW10
import Derived.Test.YtcnjbclpncidnaaGreatDoorW11
import Derived.Deep.DeepCutAuto
set_option linter.all false
set_option maxRecDepth 100000
set_option maxHeartbeats 0
namespace Go.Proofs.YtcnjbclpncidnaaGreatDoor
open Value renaming slice->Sl,string->St,bool->Bo
open Obj renaming cells->Cl
open Option renaming none->Nn,some->Sm
open Bool renaming true->Tt,false->Ff
section
open Go Go.RowKit Go.Proofs.Tryz
def u_of (t):A0.u t=if t=⟨#[45]⟩ then 2 else if t=⟨#[110,111,116]⟩ then 3 else 0:=by show Q4 t 2 2=_;unfold Q4 Q4 Q4;rw[show t5 ((2:Nat):Int)=⟨#[45]⟩ from rfl,show t5 ((2+1:Nat):Int)=⟨#[110,111,116]⟩ from rfl];by_cases h:t=⟨#[45]⟩;{rw[Y4 h,Y4 h.symm]};rw[Ys h,Ys (λe=>h e.symm)];by_cases i:t=⟨#[110,111,116]⟩;{rw[Y4 i,Y4 i.symm]};rw[Ys i,Ys (λe=>i e.symm)]
def gW {p:Prop}(h:p:=by have F:=h_ (W (by rw[e];decide));rw[e]at F;clear u O e k W v;go_enter func163,ntmps163;go_wp2_with fail;refine cQ (j _) λz b=>?_;have h:=h_ b;have f:=h_ (f.mono b);have Y:=h_ (Y.mono b);clear b R c1 c2;obtain⟨-,R,c1,c2⟩:=f.u;go_wp2_with fail;refine cQ (i _) λA b=>?_;have h:=mT h b;have Y:=h_ (Y.mono b);clear b R c1 c2;go_wp2_with fail):p:=h
def Te (n)(U:wI n)(l a c w)(hm:9*l.length+2<=n+1)(G:l.length<=c)(S:l.length<=1048576)(M:OA l)(h:E8 w a l)(x:0<l.length) :
 Calls prog 163 #[Sl a l.length c,Yj 6] w (XB w 6 0 l []):=by
 obtain⟨I,z,Y⟩:=oC U M h;have hz:((l.length:Int)==0)=Ff:=Yp.2 dN;obtain⟨m,p,L,rfl,H⟩:=h 0 x;have u:Hi (l=l[0] :: l.drop 1):=h_ (by
  have:=TH x;rw[Od]at this;exact this)
 generalize l[0]=g at *;rw[O0,Z2]at H;have f:=h_ H;obtain⟨-,R,c1,c2⟩:=H;obtain⟨j,i⟩:=oB (λw=>oE (t:=g) (s:=⟨#[45]⟩) L dO w) (λw=>kC (t:=g) (s:=⟨#[110,111,116]⟩) L dO w);unfold tV at j i;have e:=u_of g;obtain⟨k,W⟩:=oB (λ(d:A0.u g=0) o=>Lv (r:=l.drop 1) d o) (λ(d:A0.u g≠0) o=>qlz DB (r:=l.drop 1) d o);rw[<- u.u]at k W;have T:=I l 7 (Sm (Aq m p)) c;have v:=h_ (λw d=>T w dN dN dN G S M d);rw[show((7:Nat):Int)=7 from rfl]at v;clear T;obtain⟨B,b⟩:∃q,l.drop 1=q:=⟨_,rfl⟩;have y:B.length=l.length - 1:=by rw[<- b,On]
 have C:Hi (∀w,E8 w (Sm (Aq m p)) l->E8 w (F7 (Sm (Aq m p)) 1 c 3) B):=h_ (λw d=>by have:=d.cut (lo:=1) (hi:=l.length) (nR _) G;rw[Z7,b]at this;exact this);have N:Hi (OA B):=h_ (by have:=M.cut 1 l.length;rw[Z7,b]at this;exact this);have T:=xV (Sm (Aq m p)) l.length c 1 x;rw[<- y,show((1:Nat):Int)=1 from rfl]at T;rw[b]at W;have q:=h_ (λw d=>I B 6 (F7 (Sm (Aq m p)) 1 c 3) (c - 1) w dN dN dN dN dN N d);rw[show((6:Nat):Int)=6 from rfl]at q;have X:B.length<=1048575:=dN
 clear U M h b y I z u;have h:∀(u:Nat) (b:Tw),u≠0->A0.u g=u->True:=λ_ _ _ _=>trivial;clear h;by_cases u:g=⟨#[45]⟩
 case' pos =>
  have O:¬ g=⟨#[110,111,116]⟩:=by rw[u];decide
  rw[Y4 u]at e;rw[Yr u]at j;rw[Yo O]at i;have F:=h_ (W (by rw[e];decide));rw[e]at F;clear u O e k W v;go_enter func163,ntmps163;go_wp2_with fail;refine cQ (j _) λz b=>?_;have h:=h_ b;replace f:=h_ (f.mono b);replace Y:=h_ (Y.mono b);clear b R c1 c2;obtain⟨-,R,c1,c2⟩:=f.u;go_wp2_with fail;refine cQ (i _) λA b=>?_;replace h:=mT h b;replace Y:=h_ (Y.mono b);clear b R c1 c2;go_wp2_with fail
 case' neg =>
  rw[Ys u]at e;rw[Yo u]at j;by_cases O:g=⟨#[110,111,116]⟩
  case neg =>
   rw[Ys O]at e;rw[Yo O]at i;have F:=h_ (k e);clear u O e k W q;go_enter func163,ntmps163;go_wp2_with fail;refine cQ (j _) λz b=>?_;have h:=h_ b;replace f:=h_ (f.mono b);replace Y:=h_ (Y.mono b);clear b R c1 c2;obtain⟨-,R,c1,c2⟩:=f.u;go_wp2_with fail;refine cQ (i _) λA b=>?_;replace h:=mT h b;replace Y:=h_ (Y.mono b);clear b R c1 c2;go_wp2_with fail;refine(v _ Y).mono ?_;intro I U D;have y:=h_ D;obtain⟨J,E,rfl,b,-⟩:=D;clear b;go_wp2
   go_ret2
   exact xU (W_ y h) F
  rw[Y4 O]at e;rw[Yr O]at i;have F:=h_ (W (by rw[e];decide));rw[e]at F;clear u O e k W v;go_enter func163,ntmps163;go_wp2_with fail;refine cQ (j _) λz b=>?_;have h:=h_ b;replace f:=h_ (f.mono b);replace Y:=h_ (Y.mono b);clear b R c1 c2;obtain⟨-,R,c1,c2⟩:=f.u;go_wp2_with fail;refine cQ (i _) λA b=>?_;replace h:=mT h b;replace Y:=h_ (Y.mono b);clear b R c1 c2;go_wp2_with fail
 all_goals
  refine(q _ (C _ Y)).mono ?_;rintro I e ⟨W,O,rfl,b,v,u⟩;replace h:=mT h b;clear b q C;cases O
  case' false =>
   have k:=h_ (u rfl);clear v u;have y:=h_ ((bR e.1.size e).alloc (nR _) (Cl #[] 132));go_wp2
   go_ret2
   exact mG (h.trans (y.mono h.size)) (λo z=>by obtain⟨C,q,-⟩:=(F o).1 z;exact k C q)
  obtain⟨E,k,o⟩:=v rfl;rw[Z3]at o;have A:=h_ k;have R:=k.len;have y:=h_ ((bR e.1.size e).alloc (nR _) (Cl #[] 132));obtain⟨C,D⟩:=oB (o.keep y) (P1.none e);obtain⟨V,Q⟩:=Nq (e.alloc (Cl #[] 132));rw[Q]at y C D;replace h:=h_ (h.trans (y.mono h.size));clear v u k o;go_wp2_with fail
  try rw[Q]
  clear Q;refine(VO C D dS).mono ?_;rintro I u ⟨v,rfl,M,b⟩;rw[Z3]at M;have k:=h_ (M.low h.size);replace h:=mT h b;clear M b;go_wp2_with fail;refine cQ (zR _ _) λq b=>?_;replace h:=mT h b;replace k:=h_ (k.keep b);clear b
  first
   | (have J:Hi (j0 _ _ 132 (nC (A6 2))):=h_ (j0.new q 132 (nC (A6 2)).toArray)
      have K:=h_ ((bR q.1.size q).alloc (nR _) (Cl (nC (A6 2)).toArray 132));go_wp2_with (at_builtin;refine GL rfl _ _ rfl rfl (k.keep K) rfl J dN (Y9 h.size K.size) ?_);intro U o Z z;obtain⟨b,P⟩:=oB Z (h.trans ((K.mono h.size).trans z));clear Z z;go_wp2
      go_ret2
      exact⟨_,_,rfl,P,λ_=>⟨_,(F _).2 ⟨E,A,rfl⟩,by rw[Z3];exact b⟩,(λd=>nomatch d)⟩)
   | (have J:Hi (j0 _ _ 132 (nC (A6 3))):=h_ (j0.new q 132 (nC (A6 3)).toArray)
      have K:=h_ ((bR q.1.size q).alloc (nR _) (Cl (nC (A6 3)).toArray 132));go_wp2_with (at_builtin;refine GL rfl _ _ rfl rfl (k.keep K) rfl J dN (Y9 h.size K.size) ?_);intro U o Z z;obtain⟨b,P⟩:=oB Z (h.trans ((K.mono h.size).trans z));clear Z z;go_wp2
      go_ret2
      exact⟨_,_,rfl,P,λ_=>⟨_,(F _).2 ⟨E,A,rfl⟩,by rw[Z3];exact b⟩,(λd=>nomatch d)⟩)
def Ue (n)(U:wI n)(l a c w)(Q:9*l.length+1<=n+1)(v:l.length<=c)(P:l.length<=1048576)(M:OA l)(b:E8 w a l)(I:0<l.length):GZ 163 #[Sl a l.length c,Yj 7] w (XB w 7 0 l []):=by have e:((l.length:Int)==0)=Ff:=Yp.2 dN;have X:Hi (GZ 216 #[Sl a l.length c] w (XB w 7 0 l [])):=h_ (by match l,I,Q,v,P,M,b with|[t],_,_,_,_,M,b=>obtain⟨j,i⟩:=M t dQ;exact Su t a c w j i b|t :: u :: s,_,Q,v,P,M,b=>exact qel (t :: u :: s) t u s rfl a c w (λA lv d G k h=>U A lv d G k dN) v P M b);clear U M b;go_enter func163,ntmps163;go_wp2_with fail;refine X.mono ?_;intro R U x;have y:=h_ x;obtain⟨d,z,rfl,b,-⟩:=x;clear b;go_wp2;go_ret2;exact y
def Af (lv c a w)(T:lv<=7):GZ 163 #[Sl a 0 c,Yj (lv:Nat)] w (XB w lv 0 [] []):=by have h:=h_ ((bR w.1.size w).alloc (nR _) (Cl #[] 132));go_enter func163,ntmps163;go_wp2;go_ret2;exact mG h (λe b=>((b.ph DB).1 T).ne rfl)
def wY:∀n,wI n|0=>λl lv a c w h j T=>dN|n+1=>λl lv a c w h j T v P M b=>by have U:=wY n;by_cases I:0<l.length;{by_cases Q:lv<=5;{exact Se n U l lv a c w h j Q v P M b I};by_cases j:lv=6;{subst j;exact Te n U l a c w dN v P M b I};obtain rfl:lv=7:=dN;exact Ue n U l a c w dN v P M b I};have:l=[]:=Vq.1 dN;subst this;exact Af lv c a w T
def Xo (l a c w)(o:l.length<=c)(P:l.length<=1048576)(M:OA l)(b:E8 w a l):GZ 109 #[Sl a l.length c] w λr k=>∃v d,r=.returned (.tuple #[v,Bo d])/\Bw w k/\(d=Tt->∃e,(Gr A0 1 0 l e/\I4 A0 64 0 l=Sm 0)/\P1 k w.1.size v e)/\(d=Ff->∀e,¬ (Gr A0 1 0 l e/\I4 A0 64 0 l=Sm 0)):=by obtain⟨Y,G,K⟩:=oC b (Em a c l w P b) (λw f=>wY (9*l.length+7) l 1 a c w dN dN dN o P M f);rw[show((1:Nat):Int)=1 from rfl]at K;clear M b;by_cases b:I4 A0 64 0 l=Sm 0;{rw[Yr b]at G;have F:=h_ b;clear b;go_enter func109,ntmps109;go_wp2_with fail;refine cQ G λm b=>?_;have h:=h_ b;have Y:=h_ (Y.mono b);clear b;go_wp2_with fail;refine(K _ Y).mono ?_;rintro R p ⟨v,d,rfl,b,n,g⟩;obtain⟨y,k,j⟩:=oC b n g;clear b n g;go_wp2;go_ret2;refine⟨v,d,rfl,h.trans (y.mono h.size),λq=>?_,λq e g=>j q e g.1⟩;obtain⟨e,n,i⟩:=k q;rw[Z3]at i;exact⟨e,⟨n,F⟩,i.low h.size⟩};rw[Yo b]at G;have F:=h_ b;clear b;go_enter func109,ntmps109;go_wp2_with fail;refine cQ G λm b=>?_;have h:=h_ b;clear b;have y:=h_ ((bR m.1.size m).alloc (nR _) (Cl #[] 132));go_wp2;go_ret2;exact⟨_,_,rfl,h.trans (y.mono h.size),(λf=>nomatch f),λ_ e g=>F g.2⟩
def Bf (t)(hz:t.size<=1048576):(rv t).2.2.1.size<=9223372036854775807/\-9223372036854775808<=(rv t).2.1/\(rv t).2.1<=9223372036854775807:=by have hb:=VY t.data.toList;unfold rv;split;{exact Uz};split;{exact Uz};split;{exact Uz};split;{rename_i n hn;unfold rd at hb;rw[hn]at hb;exact⟨nZ _,hb.1,hb.2⟩};split;{refine⟨?_,show -9223372036854775808<=(0:Int) by omega,show(0:Int)<=9223372036854775807 by omega⟩;show(mid t).size<=_;rw[US];omega};exact Uz
def Di {t n}(a:t.size<=1048576)(h:A0.k t=Sm n):EA n:=by change vA t=Sm n at h;unfold vA at h;split at h;{cases h;exact⟨nZ _,by show t.size<=_;omega,show -9223372036854775808<=(0:Int) by omega,show(0:Int)<=9223372036854775807 by omega⟩};split at h;{cases h;obtain⟨j,i,D⟩:=Bf t a;exact⟨j,nZ _,i,D⟩};cases h
def jN (o):EA (A6 o):=⟨by show(0:Nat)<=_;omega,by show(0:Nat)<=_;omega,by show _<=(0:Int);omega,by show(0:Int)<=_;omega⟩
def Gr.fit {l n ts e}(h:Gr A0 l n ts e)(a:∀t,t∈ts->t.size<=1048576):∀x,x∈e->EA x:=by induction h with|up _ _ _ ih=>exact ih a|bin _ _ _ _ _ _ _ iha ihb=>(intro x r;simp only[Zk,Zg]at r;rcases r with (r|r)|rfl;{exact iha (λt M=>a t ey) x r};{exact ihb (λt M=>a t ey) x r};exact jN _)|cmp _ _ _ _ iha ihb=>(intro x r;simp only[Zk,Zg]at r;rcases r with (r|r)|rfl;{exact iha (λt M=>a t ey) x r};{exact ihb (λt M=>a t ey) x r};exact jN _)|pre _ _ ih=>(intro x r;simp only[Zk,Zg]at r;rcases r with r|rfl;{exact ih (λt M=>a t ey) x r};exact jN _)|one j=>intro x r;simp only[Zg]at r;subst r;exact Di (a _ dQ) j|par _ _ _ ih=>exact ih (λt M=>a t ey)|call _ _ _ _ ih=>(intro x r;simp only[Zk,Zg]at r;rcases r with r|rfl;{exact ih (λt M=>a t ey) x r};exact jN _)|arg _ ih=>exact ih a|args _ _ _ iha ihb=>intro x r;simp only[Zk]at r;rcases r with r|r;{exact iha (λt M=>a t ey) x r};exact ihb (λt M=>a t ey) x r
def Gr.fitL {l n ts e}(h:Gr A0 l n ts e)(b:∀t,t∈ts->t.size<=1048576):∀k,k<e.length->EA (nf e k):=λk a=>by rw[FG e k a];exact h.fit b _ (Yt a)
def wB (ts:List Tb)(e:List Nx):Prop:=Gr A0 1 0 ts e/\I4 A0 64 0 ts=Sm 0
def IN (ts:List Tb)(code:Int)(e:List Nx):Prop:=((∀e',¬ wB ts e')/\code=3/\e=[])\/∃e',wB ts e'/\((jF e'=Ff/\code=4/\e=[])\/(jF e'=Tt/\code=0/\e=e'))
def NQ (s:Tb)(code:Int)(e:List Nx):Prop:=(4000<s.size/\code=1/\e=[])\/(s.size<=4000/\((∃i,GB s s.size 0 []=.inl i/\code=2/\e=[])\/∃ts,GB s s.size 0 []=.inr ts/\IN ts code e))
def IN.uniq {ts c G e P}(h:IN ts c e)(Y:IN ts G P):c=G/\e=P:=by rcases h with ⟨j,rfl,rfl⟩|⟨x,a,j⟩;{rcases Y with ⟨-,rfl,rfl⟩|⟨y,n,-⟩;{exact kw};exact absurd n (j y)};rcases Y with ⟨i,-,-⟩|⟨y,n,i⟩;{exact absurd a (i x)};have:=a.1.uniq DB n.1;subst this;rcases j with ⟨k,rfl,rfl⟩|⟨k,rfl,rfl⟩;{rcases i with ⟨r,rfl,rfl⟩|⟨r,rfl,rfl⟩;{exact kw};rw[k]at r;cases r};rcases i with ⟨r,rfl,rfl⟩|⟨r,rfl,rfl⟩;{rw[k]at r;cases r};exact kw
def NQ.uniq {s c G e P}(h:NQ s c e)(Y:NQ s G P):c=G/\e=P:=by rcases h with ⟨j,rfl,rfl⟩|⟨j,i⟩;{rcases Y with ⟨-,rfl,rfl⟩|⟨i,-⟩;{exact kw};omega};rcases Y with ⟨D,-,-⟩|⟨-,d⟩;{omega};rcases i with ⟨b,k,rfl,rfl⟩|⟨V,k,r⟩;{rcases d with ⟨a,q,rfl,rfl⟩|⟨n,q,C⟩;{exact kw};rw[k]at q;cases q};rcases d with ⟨a,q,rfl,rfl⟩|⟨n,q,C⟩;{rw[k]at q;cases q};rw[k]at q;cases q;exact r.uniq C
end
section
open Go Go.Proofs.Tryz
def Tk {T N:Type}(X:Lx T N)(t:T):Prop:=X.L t=Tt\/X.R t=Tt\/X.C t=Tt\/X.b t≠0\/X.u t≠0\/∃n,X.k t=Sm n
def Gr.tok {T N}{X:Lx T N}(s:X.Ok){l n ts e}(h:Gr X l n ts e):∀t,t∈ts->Tk X t:=by induction h with|up _ _ _ ih=>exact ih|bin _ _ _ _ hb _ _ ih1 ih2=>(intro t M;rcases Zk.1 M with h|h;{exact ih1 t h};rcases Zs.1 h with rfl|h;{exact .inr (.inr (.inr (.inl hb)))};exact ih2 t h)|cmp _ hb _ _ ih1 ih2=>(intro t M;rcases Zk.1 M with h|h;{exact ih1 t h};rcases Zs.1 h with rfl|h;{exact .inr (.inr (.inr (.inl hb)))};exact ih2 t h)|pre hu _ ih=>(intro t M;rcases Zs.1 M with rfl|h;{exact .inr (.inr (.inr (.inr (.inl hu))))};exact ih t h)|one a=>intro t M;obtain rfl:=Zg.1 M;exact .inr (.inr (.inr (.inr (.inr ⟨_,a⟩))))|par hl hr _ ih=>(intro t M;rcases Zs.1 M with rfl|h;{exact .inl hl};rcases Zk.1 h with h|h;{exact ih t h};obtain rfl:=Zg.1 h;exact .inr (.inl hr))|call hf hl hr _ ih=>(intro t M;rcases Zs.1 M with rfl|h;{exact .inr (.inr (.inr (.inr (.inr (s.nf hf)))))};rcases Zs.1 h with rfl|h;{exact .inl hl};rcases Zk.1 h with h|h;{exact ih t h};obtain rfl:=Zg.1 h;exact .inr (.inl hr))|arg _ ih=>exact ih|args _ hc _ ih1 ih2=>intro t M;rcases Zk.1 M with h|h;{exact ih1 t h};rcases Zs.1 h with rfl|h;{exact .inr (.inr (.inl hc))};exact ih2 t h
def Gr.some_node {T N}{X:Lx T N}{l n ts e}(h:Gr X l n ts e):e≠[]:=by induction h with|up _ _ _ ih=>exact ih|bin=>simp|cmp=>simp|pre=>simp|one=>simp|par _ _ _ ih=>exact ih|call=>simp|arg _ ih=>exact ih|args _ _ _ ih1 _=>exact λh=>ih1 (List.append_eq_nil_iff.1 h).1
def xA:Tb:=⟨#[105,115]⟩
def LA:Tb:=⟨#[119,104,101,110]⟩
def X8:Tb:=⟨#[118,97,108,105,100]⟩
def i8:Tb:=⟨#[115,97,121,115]⟩
def qA:Tb:=⟨#[109,117,115,116]⟩
def C1:Tb:=⟨#[59]⟩
def S8:Tb:=⟨#[98,121]⟩
def m7:Tb:=⟨#[97,116]⟩
def I6:Tb:=⟨#[97,117,116,111]⟩
def rk (t:Tb):Nat:=if t=xA then 1 else if t=LA then 2 else if t=X8 then 3 else if t=i8 then 4 else if t=qA then 5 else 0
def sQ {t}(h:rk t≠0):t=xA\/t=LA\/t=X8\/t=i8\/t=qA:=by unfold rk at h;split at h;{exact .inl ‹_›};split at h;{exact .inr (.inl ‹_›)};split at h;{exact .inr (.inr (.inl ‹_›))};split at h;{exact .inr (.inr (.inr (.inl ‹_›)))};split at h;{exact .inr (.inr (.inr (.inr ‹_›)))};exact absurd rfl h
def XF (t:Tb):Prop:=rk t≠0\/t=C1
def NU {t}(h:XF t):A0.L t=Ff/\A0.R t=Ff/\A0.C t=Ff/\A0.b t=0/\A0.u t=0/\A0.k t=Nn:=by have n:∀s∈([xA,LA,X8,i8,qA,C1]:List Tb),A0.L s=Ff/\A0.R s=Ff/\A0.C s=Ff/\A0.b s=0/\A0.u s=0/\A0.k s=Nn:=(by intro s J;simp only[Zs,Om,or_false]at J;rcases J with h|h|h|h|h|h;all_goals subst h;refine⟨dO,dO,dO,dO,dO,?_⟩;rw[show A0.k=vA from rfl];refine tT (by first|decide|decide +kernel) (EQ dO dO dO λc r h=>?_);injection h with h1 h2;subst h1 h2;decide);refine n t ?_;rcases h with h|h;{rcases sQ h with rfl|rfl|rfl|rfl|rfl <;> simp};subst h;simp
def wB.plain {E e}(h:wB E e){t}(M:t∈E):¬ XF t:=λJ=>by obtain⟨j,i,D,d,Q,a⟩:=NU J;rcases h.1.tok DB t M with q|q|q|q|q|⟨n,q⟩;{rw[j]at q;cases q};{rw[i]at q;cases q};{rw[D]at q;cases q};{exact q d};{exact q Q};rw[a]at q;cases q
def wB.rk0 {E e}(h:wB E e){t}(M:t∈E):rk t=0:=Zh λG=>h.plain M (.inl G)
def nH (r:List Tb):Prop:=∀t s,r=t :: s->XF t
def wB.read {E r e}(h:wB E e)(a:nH r):L0 A0 64 (.op 1) 0 (E++r) (Sm (e,r)) := (h.1.comp DB 64).op dN h.2 λt s p=>by obtain⟨j,i,D,d,Q,b⟩:=NU (a t s p);exact⟨j,λc=>absurd d c⟩
def qik {ts r e}(h:L0 A0 64 (.op 1) 0 ts (Sm (e,r))):∃E,ts=E++r/\wB E e:=by obtain⟨F,a⟩:=h;obtain⟨E,j,i,D⟩:=NF DB 64 F (.op 1) 0 ts e r (a F (nR _)) dN dN;exact⟨E,j,i,D⟩
def zC (w:Tb)(T:List Tb)(e:List Nx):Prop:=(T=[]/\e=[])\/∃E,T=w :: E/\wB E e
def N9 (x s:Tb):Prop:=(rv x).2.2.2=Tt/\(rv x).1=3/\s=(rv x).2.2.1
def RQ (T:List Tb)(e:List Nx)(s:Tb):Prop:=(T=[]/\e=[]/\s=⟨#[]⟩)\/∃E x,T=X8 :: (E++[i8,x])/\wB E e/\N9 x s
structure Ru where
 is:List Nx
 wh:List Nx
 va:List Nx
 sa:Tb
 mu:List Nx
def A8 (T:List Tb)(u:Ru):Prop:=∃T1 T2 T3 T4,T=T1++(T2++(T3++T4))/\zC xA T1 u.is/\zC LA T2 u.wh/\RQ T3 u.va u.sa/\zC qA T4 u.mu
def P5 (w:Tb)(L:List Tb)(x:Option (List Nx × List Tb)):Prop:=((∀L',L≠w :: L')/\x=Sm ([],L))\/∃L',L=w :: L'/\L0 A0 64 (.op 1) 0 L' x
def P5.same {w L x y}(h:P5 w L x)(Y:P5 w L y):x=y:=by rcases h with ⟨j,rfl⟩|⟨o,rfl,j⟩;{rcases Y with ⟨-,rfl⟩|⟨o,e,-⟩;{rfl};exact absurd e (j o)};rcases Y with ⟨i,-⟩|⟨T,e,i⟩;{exact absurd rfl (i o)};cases e;exact j.same i
def zC.run {w T r e}(h:zC w T e)(a:nH r)(G:∀b,r≠w :: b):P5 w (T++r) (Sm (e,r)):=by rcases h with ⟨rfl,rfl⟩|⟨E,rfl,u⟩;{exact .inl ⟨G,rfl⟩};exact .inr ⟨E++r,rfl,u.read a⟩
def P5.rul {w L r e}(h:P5 w L (Sm (e,r))):∃T,L=T++r/\zC w T e:=by rcases h with ⟨j,i⟩|⟨o,rfl,j⟩;{cases i;exact⟨[],rfl,.inl ⟨rfl,rfl⟩⟩};obtain⟨E,rfl,u⟩:=qik j;exact⟨w :: E,rfl,.inr ⟨E,rfl,u⟩⟩
inductive ClR (L:List Tb)(u:Ru)(r:List Tb):Prop
 | no {L1 L2 L3}:P5 xA L (Sm (u.is,L1))->P5 LA L1 (Sm (u.wh,L2))->P5 X8 L2 (Sm (u.va,L3))->u.va=[]->u.sa=⟨#[]⟩->P5 qA L3 (Sm (u.mu,r))->ClR L u r
 | yes {L1 L2 L3 x}:P5 xA L (Sm (u.is,L1))->P5 LA L1 (Sm (u.wh,L2))->P5 X8 L2 (Sm (u.va,i8 :: x :: L3))->u.va≠[]->N9 x u.sa->P5 qA L3 (Sm (u.mu,r))->ClR L u r
def wZ:nH [C1]:=λt s e=>by cases e;exact .inr rfl
def PS {t r}(h:XF t):nH (t :: r):=λk s e=>by cases e;exact h
def zC.hd {w T r e}(h:zC w T e)(f:XF w)(E:nH r):nH (T++r):=by rcases h with ⟨rfl,-⟩|⟨a,rfl,-⟩;{exact E};exact PS f
def zC.not {w v T r e}(h:zC w T e)(f:w≠v)(E:∀b,r≠v :: b):∀b,T++r≠v :: b:=by rcases h with ⟨rfl,-⟩|⟨a,rfl,-⟩;{exact E};exact λb e=>f (by injection e)
def A8.run {T u}(o:A8 T u):ClR (T++[C1]) u [C1]:=by obtain⟨p,Z,D,k,rfl,l,i,q,d⟩:=o;have z:XF xA:=.inl dO;have O:XF LA:=.inl dO;have t:XF X8:=.inl dO;have w:XF i8:=.inl dO;have N:XF qA:=.inl dO;have K:∀v,v≠C1->∀b,([C1]:List Tb)≠v :: b:=λv g b e=>g (by injection e with e;exact e.symm);have f:P5 qA (k++[C1]) (Sm (u.mu,[C1])):=d.run wZ (K _ dO);have Y:nH (k++[C1]):=d.hd N wZ;have y:∀v,v≠qA->v≠C1->∀b,k++[C1]≠v :: b:=λv g a=>d.not (λe=>g e.symm) (K v a);rw[show p++(Z++(D++k))++[C1]=p++(Z++(D++(k++[C1]))) by simp];rcases q with ⟨rfl,j,n⟩|⟨E,x,rfl,m,s⟩;{rw[Vd];have r:=i.run Y (y _ dO dO);have c:=i.hd O Y;have a:=l.run c (i.not dO (y _ dO dO));exact .no a r (.inl ⟨y _ dO dO,by rw[j]⟩) j n f};have G:P5 X8 (X8 :: (E++[i8,x])++(k++[C1])) (Sm (u.va,i8 :: x :: (k++[C1]))):=.inr ⟨E++i8 :: x :: (k++[C1]),dQ,m.read (PS w)⟩;have h:nH (X8 :: (E++[i8,x])++(k++[C1])):=PS t;have C:∀v,v≠X8->∀b,X8 :: (E++[i8,x])++(k++[C1])≠v :: b:=λv g b e=>g (by injection e with e;exact e.symm);have r:=i.run h (C _ dO);have c:=i.hd O h;have a:=l.run c (i.not dO (C _ dO));exact .yes a r G m.1.some_node s f
def ClR.cls {L r u}(h:ClR L u r):∃T,L=T++r/\A8 T u:=by cases h with|no h1 h2 h3 e3 e4 h5=>obtain⟨p,rfl,q⟩:=h1.rul;obtain⟨Z,rfl,T⟩:=h2.rul;obtain⟨D,rfl,s⟩:=h3.rul;obtain⟨k,rfl,S⟩:=h5.rul;have:D=[]:=(by rcases s with ⟨rfl,-⟩|⟨E,-,a⟩;{rfl};exact absurd e3 a.1.some_node);subst this;exact⟨p++(Z++([]++k)),dQ,p,Z,[],k,rfl,q,T,.inl ⟨rfl,e3,e4⟩,S⟩|yes h1 h2 h3 e3 hx h5=>obtain⟨p,rfl,q⟩:=h1.rul;obtain⟨Z,rfl,T⟩:=h2.rul;obtain⟨D,rfl,s⟩:=h3.rul;obtain⟨k,rfl,S⟩:=h5.rul;rcases s with ⟨-,e⟩|⟨E,rfl,a⟩;{exact absurd e e3};exact⟨p++(Z++(X8 :: (E++[i8,_])++k)),dQ,p,Z,_,k,rfl,q,T,.inr ⟨E,_,rfl,a,hx⟩,S⟩
def P5.inj {w L r b e P}(h:P5 w L (Sm (e,r)))(Y:P5 w L (Sm (P,b))):e=P/\r=b:=by have:=h.same Y;simpa using this
def ClR.same {L r b u u'}(h:ClR L u r)(Y:ClR L u' b):u=u'/\r=b:=by obtain⟨ui,f,T,us,z⟩:=u;obtain⟨N,a,vv,d,Z⟩:=u';cases h with|no h1 h2 h3 e3 e4 h5=>(cases Y with|no g1 g2 g3 f3 f4 g5=>obtain⟨rfl,rfl⟩:=h1.inj g1;obtain⟨rfl,rfl⟩:=h2.inj g2;obtain⟨rfl,rfl⟩:=h3.inj g3;obtain⟨rfl,rfl⟩:=h5.inj g5;simp only at e4 f4;subst e4 f4;exact⟨rfl,rfl⟩|yes g1 g2 g3 f3 f4 g5=>obtain⟨rfl,rfl⟩:=h1.inj g1;obtain⟨rfl,rfl⟩:=h2.inj g2;obtain⟨rfl,rfl⟩:=h3.inj g3;exact absurd e3 f3)|yes h1 h2 h3 e3 e4 h5=>cases Y with|no g1 g2 g3 f3 f4 g5=>obtain⟨rfl,rfl⟩:=h1.inj g1;obtain⟨rfl,rfl⟩:=h2.inj g2;obtain⟨rfl,rfl⟩:=h3.inj g3;exact absurd f3 e3|yes g1 g2 g3 f3 f4 g5=>obtain⟨rfl,rfl⟩:=h1.inj g1;obtain⟨rfl,rfl⟩:=h2.inj g2;obtain⟨rfl,e⟩:=h3.inj g3;injection e with _ e;injection e with ex eL;subst ex eL;obtain⟨rfl,rfl⟩:=h5.inj g5;have:=e4.2.2.trans f4.2.2.symm;simp only at this;subst this;exact kw
def A8.uniq {T u u'}(h:A8 T u)(Y:A8 T u'):u=u':=(h.run.same Y.run).1
def uA:Ru:=⟨[],[],[],⟨#[]⟩,[]⟩
def Ru.put (u:Ru)(k:Nat)(e:List Nx):Ru:=if k=1 then { u with is:=e } else if k=2 then { u with wh:=e } else if k=3 then { u with va:=e } else { u with mu:=e }
def NB (r:List Tb):Prop:=∀t s,r=t :: s->rk t≠0
inductive ka6:Nat->Ru->List Tb->Ru->Prop
 | nil {r u}:r≠3->ka6 r u [] u
 | says {u x s R u'}:N9 x s->rk x=0->NB R->ka6 4 { u with sa:=s } R u'->ka6 3 u (i8 :: x :: R) u'
 | rule {r u t E e R u'}:r<rk t->r≠3->rk t≠4->wB E e->NB R->ka6 (rk t) (u.put (rk t) e) R u'->ka6 r u (t :: (E++R)) u'
def qZ {E E' R R'}(h:E++R=E'++R')(h1:∀t,t∈E->rk t=0)(i:∀t,t∈E'->rk t=0)(D:NB R)(d:NB R'):E=E'/\R=R':=by induction E generalizing E' with|nil=>(cases E' with|nil=>exact⟨rfl,h⟩|cons t a=>exact absurd (i t dQ) (D t _ h))|cons t a b=>cases E' with|nil=>exact absurd (h1 t dQ) (d t _ h.symm)|cons k c=>injection h with e1 e2;obtain⟨rfl,rfl⟩:=b e2 (λx r=>h1 x (by simp[r])) (λx r=>i x (by simp[r]));exact⟨by rw[e1],rfl⟩
def OU {x s}(h:N9 x s):rk x=0:=Zh λG=>by have a:∀y∈([xA,LA,X8,i8,qA]:List Tb),(rv y).2.2.2=Ff:=(by intro y n;simp only[Zs,Om,or_false]at n;rcases n with e|e|e|e|e;all_goals subst e;refine EQ dO dO dO λc r h=>?_;injection h with j h2;subst j h2;decide);have:=a x (by rcases sQ G with rfl|rfl|rfl|rfl|rfl <;> simp);have j:=h.1;rw[this]at j;cases j
def ka6.head {r u u' t E R}(h:ka6 r u (t :: (E++R)) u')(b:∀x,x∈E->rk x=0)(V:NB R):(r=3/\t=i8/\∃x s,E=[x]/\N9 x s/\ka6 4 { u with sa:=s } R u')\/(r≠3/\r<rk t/\rk t≠4/\∃e,wB E e/\ka6 (rk t) (u.put (rk t) e) R u'):=by generalize a:t :: (E++R)=L at h;cases h with|nil=>cases a|@says _ x s R' _ h1 h2 h3 h4=>injection a with e1 e2;obtain⟨rfl,rfl⟩:=qZ (E':=[x]) (R':=R') (by rw[e2];rfl) b (λy n=>by obtain rfl:=Zg.1 n;exact h2) V h3;exact .inl ⟨rfl,e1,x,s,rfl,h1,h4⟩|@rule _ _ t' E' e R' _ h1 h2 h3 h4 h5 h6=>injection a with e1 e2;obtain⟨rfl,rfl⟩:=qZ e2 b (λy n=>h4.rk0 n) V h5;subst e1;exact .inr ⟨h2,h1,h3,e,h4,h6⟩
def ka6.done {r u u'}(h:ka6 r u [] u'):r≠3/\u'=u:=by cases h with|nil h=>exact⟨h,rfl⟩
def DN:rk xA=1/\rk LA=2/\rk X8=3/\rk i8=4/\rk qA=5:=by decide
def zC.hdr {w T r e}(h:zC w T e)(f:rk w≠0)(E:NB r):NB (T++r):=by rcases h with ⟨rfl,-⟩|⟨a,rfl,-⟩;{exact E};exact λt s e=>by injection e with e _;rw[<- e];exact f
def z_:NB []:=λ_ _ e=>by cases e
def A8.cmp {T u}(G:A8 T u):ka6 0 uA T u:=by obtain⟨ui,o,j,us,z⟩:=u;obtain⟨M,Z,D,k,rfl,y,l,m,n⟩:=G;simp only at y l m n;obtain⟨S,V,U,H,i⟩:=DN;have Y:NB k:=(by have:=n.hdr (by rw[i];omega) z_;rwa [Z3]at this);have w:NB (D++k):=(by rcases m with ⟨rfl,-⟩|⟨b,x,rfl,-⟩;{exact Y};exact λL K c=>by injection c with c _;rw[<- c,U];omega);have F:NB (Z++(D++k)):=l.hdr (by rw[V];omega) w;have C:∀a u,a<5->a≠3->u.mu=[]->ka6 a u k { u with mu:=z }:=(by intro a u g h d;rcases n with ⟨rfl,rfl⟩|⟨b,rfl,f⟩;{obtain⟨p,q,s,v,c⟩:=u;simp only at d;subst d;exact .nil h};have:=ka6.rule (r:=a) (u:=u) (t:=qA) (E:=b) (e:=z) (R:=[]) (u':={ u with mu:=z }) (by rw[i];exact g) h (by rw[i];omega) f z_ (by rw[i];exact .nil dN);rwa [Z3]at this);have B:∀a u,a<3->u.mu=[]->u.va=[]->u.sa=⟨#[]⟩->ka6 a u (D++k) { u with va:=j,sa:=us,mu:=z }:=(by intro a u g d h J;rcases m with ⟨rfl,rfl,rfl⟩|⟨b,x,rfl,f,A⟩;{have:=C a u dN dN d;obtain⟨p,q,s,v,c⟩:=u;simp only at h J;subst h J;exact this};have I:=ka6.rule (r:=a) (u:=u) (t:=X8) (E:=b) (e:=j) (R:=i8 :: x :: k) (u':={ u with va:=j,sa:=us,mu:=z }) (by rw[U];exact g) dN (by rw[U];omega) f (λL K c=>by injection c with c _;rw[<- c,H];omega) (by rw[U];exact .says A (OU A) Y (C 4 _ dN dN d));rw[show X8 :: (b++[i8,x])++k=X8 :: (b++i8 :: x :: k) by simp];exact I);have A:∀a u,a<2->u.mu=[]->u.va=[]->u.sa=⟨#[]⟩->u.wh=[]->ka6 a u (Z++(D++k)) { u with wh:=o,va:=j,sa:=us,mu:=z }:=(by intro a u g d h J x;rcases l with ⟨rfl,rfl⟩|⟨b,rfl,f⟩;{have:=B a u dN d h J;obtain⟨p,q,s,v,c⟩:=u;simp only at x;subst x;exact this};exact ka6.rule (r:=a) (u:=u) (t:=LA) (E:=b) (e:=o) (R:=D++k) (by rw[V];exact g) dN (by rw[V];omega) f w (by rw[V];exact B 2 { u with wh:=o } dN d h J));rcases y with ⟨rfl,rfl⟩|⟨b,rfl,f⟩;{exact A 0 uA dN rfl rfl rfl rfl};exact ka6.rule (r:=0) (u:=uA) (t:=xA) (E:=b) (e:=ui) (R:=Z++(D++k)) (by rw[S];omega) dN (by rw[S];omega) f F (by rw[S];exact A 1 { uA with is:=ui } dN rfl rfl rfl rfl)
def DK {t k}(h:rk t=k)(n:k≠0):(k=1/\t=xA)\/(k=2/\t=LA)\/(k=3/\t=X8)\/(k=4/\t=i8)\/(k=5/\t=qA):=by obtain⟨S,V,U,a,b⟩:=DN;rcases sQ (by rw[h];exact n) with rfl|rfl|rfl|rfl|rfl;{rw[S]at h;exact .inl ⟨h.symm,rfl⟩};{rw[V]at h;exact .inr (.inl ⟨h.symm,rfl⟩)};{rw[U]at h;exact .inr (.inr (.inl ⟨h.symm,rfl⟩))};{rw[a]at h;exact .inr (.inr (.inr (.inl ⟨h.symm,rfl⟩)))};rw[b]at h;exact .inr (.inr (.inr (.inr ⟨h.symm,rfl⟩)))
def tQ (t):rk t<=5:=by by_cases h:rk t=0;{omega};rcases DK rfl h with ⟨e,-⟩|⟨e,-⟩|⟨e,-⟩|⟨e,-⟩|⟨e,-⟩ <;> omega
def ka6.c5 {u u' R}(h:ka6 5 u R u'):R=[]/\u'=u:=by cases h with|nil=>exact⟨rfl,rfl⟩|@rule _ _ t E e R' _ h1=>have:=tQ t;omega
def ka6.gt {r u u' t s}(h:ka6 r u (t :: s) u')(E:r≠3):r<rk t:=by cases h with|says=>exact absurd rfl E|rule h1=>exact h1
def ka6.c4 {r u u' R}(a:r≠3)(b:u.mu=[])(h:ka6 r u R u')(f:∀t s,R=t :: s->3<rk t):∃e,zC qA R e/\u' = { u with mu:=e }:=by cases h with|nil=>exact⟨[],.inl ⟨rfl,rfl⟩,by rw[<- b]⟩|says=>exact absurd rfl a|@rule _ _ t E e R' _ h1 h2 h3 h4 h5 h6=>have M:=f t _ rfl;have c:=tQ t;have l:rk t=5:=dN;rw[l]at h6;obtain⟨rfl,rfl⟩:=h6.c5;rcases DK l dN with ⟨P,-⟩|⟨P,-⟩|⟨P,-⟩|⟨P,-⟩|⟨-,rfl⟩;{omega};{omega};{omega};{omega};exact⟨e,.inr ⟨E,by rw[Z3],h4⟩,rfl⟩
def ka6.c3 {r u u' R}(c:r≠3)(d:u.mu=[])(i:u.va=[])(J:u.sa=⟨#[]⟩)(h:ka6 r u R u')(j:∀t s,R=t :: s->2<rk t):∃D k v s m,R=D++k/\RQ D v s/\zC qA k m/\u' = { u with va:=v,sa:=s,mu:=m }:=by by_cases f:∃t s,R=t :: s/\rk t=3;{obtain⟨t,g,rfl,M⟩:=f;generalize b:t :: g=L at h;cases h with|nil=>cases b|says=>exact absurd rfl c|@rule _ _ t' E e R' _ h1 h2 h3 h4 h5 h6=>injection b with e1 e2;subst e1 e2;rw[M]at h6;rcases DK M dN with ⟨P,-⟩|⟨P,-⟩|⟨-,rfl⟩|⟨P,-⟩|⟨P,-⟩;{omega};{omega};{generalize k:R'=T at h6;cases h6 with|nil G=>exact absurd rfl G|@says _ x s R2 _ g1 g2 g3 g4=>obtain⟨m,a,rfl⟩:=ka6.c4 (r:=4) dN (by exact d) g4 λt s e=>(by subst e;have:=g4.gt dN;omega);exact⟨X8 :: (E++[i8,x]),R2,e,s,m,dQ,.inr ⟨E,x,rfl,h4,g1⟩,a,rfl⟩|rule _ h2=>exact absurd rfl h2};{omega};omega};obtain⟨m,a,rfl⟩:=ka6.c4 c d h λt s e=>(by have:=j t s e;have:rk t≠3:=λb=>f ⟨t,s,e,b⟩;omega);exact⟨[],R,[],⟨#[]⟩,m,rfl,.inl ⟨rfl,rfl,rfl⟩,a,by rw[<- i,<- J]⟩
def ka6.c2 {r u u' R}(b:r≠3)(c:u.mu=[])(g:u.va=[])(J:u.sa=⟨#[]⟩)(Q:u.wh=[])(h:ka6 r u R u')(i:∀t s,R=t :: s->1<rk t):∃Z D k w v s m,R=Z++(D++k)/\zC LA Z w/\RQ D v s/\zC qA k m/\u' = { u with wh:=w,va:=v,sa:=s,mu:=m }:=by by_cases d:∃t s,R=t :: s/\rk t=2;{obtain⟨t,f,rfl,M⟩:=d;generalize a:t :: f=L at h;cases h with|nil=>cases a|says=>exact absurd rfl b|@rule _ _ t' E e R' _ h1 h2 h3 h4 h5 h6=>injection a with e1 e2;subst e1 e2;rw[M]at h6;rcases DK M dN with ⟨P,-⟩|⟨-,rfl⟩|⟨P,-⟩|⟨P,-⟩|⟨P,-⟩;{omega};{obtain⟨D,k,v,s,m,rfl,q,T,rfl⟩:=ka6.c3 (r:=2) dN (by exact c) (by exact g) (by exact J) h6 λt s e=>(by subst e;exact h6.gt dN);exact⟨LA :: E,D,k,e,v,s,m,rfl,.inr ⟨E,rfl,h4⟩,q,T,rfl⟩};{omega};{omega};omega};obtain⟨D,k,v,s,m,rfl,q,T,rfl⟩:=ka6.c3 b c g J h λt s e=>(by have:=i t s e;have:rk t≠2:=λa=>d ⟨t,s,e,a⟩;omega);exact⟨[],D,k,[],v,s,m,rfl,.inl ⟨rfl,rfl⟩,q,T,by rw[<- Q]⟩
def ka6.cls {R u'}(h:ka6 0 uA R u'):A8 R u':=by by_cases c:∃t s,R=t :: s/\rk t=1;{obtain⟨t,d,rfl,M⟩:=c;generalize b:t :: d=L at h;cases h with|nil=>cases b|@rule _ _ t' E e R' _ h1 h2 h3 h4 h5 h6=>injection b with e1 e2;subst e1 e2;rw[M]at h6;rcases DK M dN with ⟨-,rfl⟩|⟨P,-⟩|⟨P,-⟩|⟨P,-⟩|⟨P,-⟩;{obtain⟨Z,D,k,w,v,s,m,rfl,q,T,a,rfl⟩:=ka6.c2 (r:=1) dN dV dV dV dV h6 λt s e=>(by subst e;exact h6.gt dN);exact⟨xA :: E,Z,D,k,rfl,.inr ⟨E,rfl,h4⟩,q,T,a⟩};{omega};{omega};{omega};omega};obtain⟨Z,D,k,w,v,s,m,rfl,q,T,a,rfl⟩:=ka6.c2 dN rfl rfl rfl rfl h λt s e=>(by subst e;have:=h.gt dN;have:rk t≠1:=λb=>c ⟨t,s,rfl,b⟩;omega);exact⟨[],Z,D,k,rfl,.inl ⟨rfl,rfl⟩,q,T,a⟩
def qod {T u}:A8 T u ↔ ka6 0 uA T u:=⟨A8.cmp,ka6.cls⟩
def qE:Tb:=⟨#[108,97,98,101,108]⟩
def TD:Tb:=⟨#[98,101,108,111,119]⟩
def ED:Tb:=⟨#[114,111,108,101]⟩
def M9:Tb:=⟨#[102,105,101,108,100]⟩
def t7 (t:Nat):Tb:=if t=1 then ⟨#[105,110,116]⟩ else if t=2 then ⟨#[98,111,111,108]⟩ else ⟨#[116,101,120,116]⟩
structure Sx where
 kind:Nat
 name:Tb
 other:Tb
 auto:Bool
 typ:Nat
 bys:List Tb
 u:Ru
def F6 (l:List Tb):List Tb:=l.flatMap λb=>[S8,b]
inductive StG:List Tb->Sx->Prop
 | label {n}:E0 n=Tt->StG [qE,n] ⟨1,n,⟨#[]⟩,Ff,0,[],uA⟩
 | below {n m}:E0 n=Tt->E0 m=Tt->StG [TD,n,m] ⟨2,n,m,Ff,0,[],uA⟩
 | role {n m}:E0 n=Tt->E0 m=Tt->StG [ED,n,m7,m] ⟨3,n,m,Ff,0,[],uA⟩
 | auto {n t bys C u}:E0 n=Tt->1<=t->t<=3->(∀b,b∈bys->E0 b=Tt)->A8 C u->bys=[]\/u.is=[]->StG (M9 :: n :: t7 t :: m7 :: I6 :: (F6 bys++C)) ⟨4,n,⟨#[]⟩,Tt,t,bys,u⟩
 | field {n t m bys C u}:E0 n=Tt->1<=t->t<=3->E0 m=Tt->(∀b,b∈bys->E0 b=Tt)->A8 C u->bys=[]\/u.is=[]->StG (M9 :: n :: t7 t :: m7 :: m :: (F6 bys++C)) ⟨4,n,m,Ff,t,bys,u⟩
def A8.hdr {C u}(h:A8 C u):NB C:=λt s e=>by subst e;have:=h.cmp.gt dN;omega
def qo2 {l l' C f}(h:F6 l++C=F6 l'++f)(h1:NB C)(i:NB f):l=l'/\C=f:=by have J:rk S8=0:=dO;induction l generalizing l' with|nil=>(cases l' with|nil=>exact⟨rfl,h⟩|cons b r=>exact absurd J (h1 S8 _ h))|cons b r d=>cases l' with|nil=>exact absurd J (i S8 _ h.symm)|cons a c=>rw[show F6 (b :: r)++C=S8 :: b :: (F6 r++C) from rfl,show F6 (a :: c)++f=S8 :: a :: (F6 c++f) from rfl]at h;injection h with _ h;injection h with e1 h;obtain⟨rfl,rfl⟩:=d h;exact⟨by rw[e1],rfl⟩
def Kc {a b}(h:t7 a=t7 b)(h1:1<=a)(i:a<=3)(D:1<=b)(d:b<=3):a=b:=by have:∀x y:Fin 4,t7 x.val=t7 y.val->1<=x.val->1<=y.val->x.val=y.val:=dO;exact this ⟨a,dN⟩ ⟨b,dN⟩ h h1 D
def JS:E0 I6=Ff:=by decide +kernel
def gY {p:Prop}(h:p:=by obtain rfl:=Kc g g2 g3 f2 f3;obtain⟨rfl,rfl⟩:=qo2 c g5.hdr f5.hdr;obtain rfl:=g5.uniq f5;rfl):p:=h
def StG.uniq {T x y}(h:StG T x)(Y:StG T y):x=y:=by cases h with|label=>(cases Y with|label=>rfl)|below=>(cases Y with|below=>rfl)|role=>(cases Y with|role=>rfl)|@auto n t bys C u g1 g2 g3 g4 g5 g6=>(generalize E:M9 :: n :: t7 t :: m7 :: I6 :: (F6 bys++C)=L at Y;cases Y with|label=>cases E|below=>cases E|role=>cases E|@auto n' t' bys' C' u' f1 f2 f3 f4 f5 f6=>simp only[Oj]at E;obtain⟨-,rfl,g,-,-,c⟩:=E;exact gY|@field n' t' m bys' C' u' f1 f2 f3 f0 f4 f5 f6=>simp only[Oj]at E;obtain⟨-,-,-,-,e,-⟩:=E;rw[<- e,JS]at f0;cases f0)|@field n t m bys C u g1 g2 g3 g0 g4 g5 g6=>generalize E:M9 :: n :: t7 t :: m7 :: m :: (F6 bys++C)=L at Y;cases Y with|label=>cases E|below=>cases E|role=>cases E|@auto n' t' bys' C' u' f1 f2 f3 f4 f5 f6=>simp only[Oj]at E;obtain⟨-,-,-,-,e,-⟩:=E;rw[e,JS]at g0;cases g0|@field n' t' m' bys' C' u' f1 f2 f3 f0 f4 f5 f6=>simp only[Oj]at E;obtain⟨-,rfl,g,-,rfl,c⟩:=E;exact gY
end
section
open Go Go.RowKit Go.Proofs.Tryz
def gX {p:Prop}(h:p:=by go_wp2;go_ret;exact⟨by rw[a.u];rfl,h⟩):p:=h
def VZ (t p w):Gv 108 #[tV t p] w (Yj (rk t:Nat)):=by have C:Hi (∀s w,cls s=1->Gv 105 #[.agg (Jv (cls t:Nat) (A4 t) p),St s] w (Bo (decide (t=s)))):=h_ λs w J=>kC p J w;obtain⟨h,A⟩:=oB ((bR w.1.size w).alloc (nR _) (Cl (Jv (cls t:Nat) (A4 t) p) 79)) (j0.new w 79 (Jv (cls t:Nat) (A4 t) p));unfold tV;obtain⟨e,z⟩:=Nq (w.alloc (Cl (Jv (cls t:Nat) (A4 t) p) 79));rw[z]at h A;have a:Hi (rk t=if t=xA then 1 else if t=LA then 2 else if t=X8 then 3 else if t=i8 then 4 else if t=qA then 5 else 0):=h_ rfl;generalize (cls t:Int)=f at *;generalize A4 t=k at *;obtain⟨E,b,J⟩:=TB A;go_enter func108,ntmps108;go_wp2_with fail;(try rw[z]);refine cQ (C xA _ dO) λg c=>?_;have h:=mT h c;have A:=mB A c;clear c E b J;obtain⟨E,b,J⟩:=TB A;by_cases j:t=xA;{rw[Yr j];rw[Y4 j]at a;exact gX};rw[Yo j];rw[Ys j]at a;go_wp2_with fail;refine cQ (C LA _ dO) λK c=>?_;have h:=mT h c;have A:=mB A c;clear c E b J;obtain⟨E,b,J⟩:=TB A;by_cases i:t=LA;{rw[Yr i];rw[Y4 i]at a;exact gX};rw[Yo i];rw[Ys i]at a;go_wp2_with fail;refine cQ (C X8 _ dO) λU c=>?_;have h:=mT h c;have A:=mB A c;clear c E b J;obtain⟨E,b,J⟩:=TB A;by_cases D:t=X8;{rw[Yr D];rw[Y4 D]at a;exact gX};rw[Yo D];rw[Ys D]at a;go_wp2_with fail;refine cQ (C i8 _ dO) λN c=>?_;have h:=mT h c;have A:=mB A c;clear c E b J;obtain⟨E,b,J⟩:=TB A;by_cases d:t=i8;{rw[Yr d];rw[Y4 d]at a;exact gX};rw[Yo d];rw[Ys d]at a;go_wp2_with fail;refine cQ (C qA _ dO) λw5 c=>?_;have h:=mT h c;have A:=mB A c;clear c E b J;obtain⟨E,b,J⟩:=TB A;by_cases Q:t=qA;{rw[Yr Q];rw[Y4 Q]at a;exact gX};rw[Yo Q];rw[Ys Q]at a;exact gX
def N5 (t:Tb):Nat:=if t=t7 1 then 1 else if t=t7 2 then 2 else if t=t7 3 then 3 else 0
def qQ {t k}(h:N5 t=k)(n:k≠0):1<=k/\k<=3/\t=t7 k:=by unfold N5 at h;split at h;{subst h;exact⟨dN,dN,‹_›⟩};split at h;{subst h;exact⟨dN,dN,‹_›⟩};split at h;{subst h;exact⟨dN,dN,‹_›⟩};exact absurd h.symm n
def vI {k}(h1:1<=k)(i:k<=3):N5 (t7 k)=k:=by have:∀x:Fin 4,1<=x.val->N5 (t7 x.val)=x.val:=dO;exact this ⟨k,dN⟩ h1
def qti (k)(h1:1<=k)(i:k<=3)(w):GZ 69 #[Yj (k:Nat)] w λr a=>r=.returned (St (t7 k))/\a=w:=by rcases (show k=1\/k=2\/k=3 by omega) with rfl|rfl|rfl;all_goals go_enter func69,ntmps69;go_wp2;go_ret;exact kw
def yY (t p w):Gv 107 #[tV t p] w (Yj (N5 t:Nat)):=by have H:Hi (∀s w,cls s=1->Gv 105 #[.agg (Jv (cls t:Nat) (A4 t) p),St s] w (Bo (decide (t=s)))):=h_ λs w J=>kC p J w;obtain⟨r,x⟩:=oB ((bR w.1.size w).alloc (nR _) (Cl (Jv (cls t:Nat) (A4 t) p) 79)) (j0.new w 79 (Jv (cls t:Nat) (A4 t) p));unfold tV;obtain⟨J,z⟩:=Nq (w.alloc (Cl (Jv (cls t:Nat) (A4 t) p) 79));rw[z]at r x;have F:Hi (∀k,1<=k->k<=3->cls (t7 k)=1):=h_ λk a b=>(by rcases (show k=1\/k=2\/k=3 by omega) with rfl|rfl|rfl <;> decide);have I:Hi (∀k,1<=k->k<=3->t=t7 k->N5 t=k):=h_ λk a b e=>(by rw[e];exact vI a b);have M:Hi ((∀j,1<=j->j<=3->t≠t7 j)->N5 t=0):=h_ λh=>(by unfold N5;rw[Ys (h 1 dN dN),Ys (h 2 dN dN),Ys (h 3 dN dN)]);generalize N5 t=P at *;generalize (cls t:Int)=B at *;generalize A4 t=C at *;go_enter func107,ntmps107;go_wp2_with fail;(try rw[z]);clear z;go_loopw [3] (λv wr=>∃k:Nat,1<=k/\k<=4/\v=Yj (k:Nat)/\(∀j,1<=j->j<k->t≠t7 j)/\Bw w wr/\Bw J wr) (λv _=>5 - (intOf v).toNat);exact⟨1,dN,dN,rfl,λj a b=>absurd b dN,r,bR _ _⟩;obtain⟨k,l,Q,rfl,c,d,g⟩:=hrel;obtain⟨o,y,D⟩:=oC d c g;have A:=mB x g;clear d c g;by_cases n:k<=3;{have K:(k:Int)<=3:=dN;obtain⟨G,z⟩:=oB (qti k l n) (λw=>H (t7 k) w (F k l n));obtain⟨q,s⟩:∃q,decide (t=t7 k)=q:=⟨_,rfl⟩;rw[s]at z;have g:=h_ s;clear s;go_wp2;refine wp_region_held_drew (S:=λc=>j0 c w.1.size 79 [Yj B,St C,Yj p]) dP A (λm=>?_);refine tj 0 8 (.agg (Jv B C p)) m ?_ (hy:=λw U=>by obtain⟨L,N,O⟩:=TB U;simp[execOp,go_sem,L,N,O]);refine tj 1 9 (Yj k) m ?_;simp only[sX,sY,sZ];refine vF (i:=2) (f:=69) (args:=#[Yj k]) (R:=λv c=>v=St (t7 k)/\c=wr.drew) 10 rfl rfl dV dP ?hrun1 ((G _).mono λe s ⟨c,d⟩=>⟨_,c,rfl,d⟩) ?_;(case hrun1=>simp[execOp,go_sem]);rintro v s ⟨rfl,rfl⟩;refine⟨m,?_⟩;simp only[sX,sY,sZ];refine rF 3 11 (z _) λs c=>?_;have c:=M7 c;have Z:=mT o c;have E:=mT D c;refine⟨A.mono c A.lt,?_⟩;simp only[sX,sY,sZ];refine S3 ?_;clear m c;cases q;{go_wp2;go_roundw;exact⟨k+1,dN,dN,dR,λj a b e=>(if h:j<k then y j a h e else (by have c:j=k:=dN;subst c;exact absurd e (Gi g))),Z,E⟩;exact kq};go_wp2;go_ret;exact⟨by rw[I.u k l n (Zj g.u)];rfl,Z⟩};have K:¬ (k:Int)<=3:=dN;go_wp2;go_ret;exact⟨by rw[M.u λj a b=>y.u j a dN];rfl,o⟩
end
section
open Go Go.Proofs.Tryz
def cL (T:List Tb):Bool:=decide (T.length=2)&&(decide (pk T 0=qE)&&E0 (pk T 1))
def cB (T:List Tb):Bool:=decide (T.length=3)&&(decide (pk T 0=TD)&&(E0 (pk T 1)&&E0 (pk T 2)))
def cR (T:List Tb):Bool:=decide (T.length=4)&&(decide (pk T 0=ED)&&(E0 (pk T 1)&&(decide (pk T 2=m7)&&E0 (pk T 3))))
def cF (T:List Tb):Bool:=decide (T.length<5)||(!decide (pk T 0=M9)||(!E0 (pk T 1)||(decide (N5 (pk T 2)=0)||!decide (pk T 3=m7))))
def WH {t}(h:E0 t=Tt):A4 t=t:=by unfold A4;rw[RL h,Ys dN]
def len2 {T}(h:T.length=2):T=[pk T 0,pk T 1]:=by match T,h with|[_,_],_=>rfl
def len3 {T}(h:T.length=3):T=[pk T 0,pk T 1,pk T 2]:=by match T,h with|[_,_,_],_=>rfl
def len4 {T}(h:T.length=4):T=[pk T 0,pk T 1,pk T 2,pk T 3]:=by match T,h with|[_,_,_,_],_=>rfl
def IV {T}(h:5<=T.length):T=pk T 0 :: pk T 1 :: pk T 2 :: pk T 3 :: pk T 4 :: T.drop 5:=by match T,h with|_ :: _ :: _ :: _ :: _ :: _,_=>rfl
def Aj {T}(h:cL T=Tt):StG T ⟨1,pk T 1,⟨#[]⟩,Ff,0,[],uA⟩/\E0 (pk T 1)=Tt/\1<T.length:=by unfold cL at h;simp only[Yy,Yw]at h;obtain⟨j,i,D⟩:=h;refine⟨?_,D,dN⟩;have:=StG.label D;rw[len2 j,i];exact this
def Bj {T}(h:cB T=Tt):StG T ⟨2,pk T 1,pk T 2,Ff,0,[],uA⟩/\E0 (pk T 1)=Tt/\E0 (pk T 2)=Tt/\2<T.length:=by unfold cB at h;simp only[Yy,Yw]at h;obtain⟨j,i,D,d⟩:=h;refine⟨?_,D,d,dN⟩;have:=StG.below D d;rw[len3 j,i];exact this
def Cj {T}(h:cR T=Tt):StG T ⟨3,pk T 1,pk T 3,Ff,0,[],uA⟩/\E0 (pk T 1)=Tt/\E0 (pk T 3)=Tt/\3<T.length:=by unfold cR at h;simp only[Yy,Yw]at h;obtain⟨j,i,D,d,Q⟩:=h;refine⟨?_,D,Q,dN⟩;have:=StG.role D Q;rw[len4 j,i,d];exact this
def X_ {T x}(h:StG T x):cL T=Tt\/cB T=Tt\/cR T=Tt\/(cF T=Ff/\(pk T 4=I6\/E0 (pk T 4)=Tt)):=by have a:∀(n:Tb) (t:Nat) (m:Tb) (L:List Tb),E0 n=Tt->1<=t->t<=3->cF (M9 :: n :: t7 t :: m7 :: m :: L)=Ff:=(by intro n t m L j i D;unfold cF;rw[show pk (M9 :: n :: t7 t :: m7 :: m :: L) 0=M9 from rfl,show pk (M9 :: n :: t7 t :: m7 :: m :: L) 1=n from rfl,show pk (M9 :: n :: t7 t :: m7 :: m :: L) 2=t7 t from rfl,show pk (M9 :: n :: t7 t :: m7 :: m :: L) 3=m7 from rfl,j,vI i D];simp;omega);have t:∀n,E0 n=Tt->cL [qE,n]=Tt:=λn h=>(by unfold cL;rw[show pk [qE,n] 1=n from rfl,show pk [qE,n] 0=qE from rfl,h];simp);have z:∀n m,E0 n=Tt->E0 m=Tt->cB [TD,n,m]=Tt:=λn m h Y=>(by unfold cB;rw[show pk [TD,n,m] 1=n from rfl,show pk [TD,n,m] 2=m from rfl,show pk [TD,n,m] 0=TD from rfl,h,Y];simp);have A:∀n m,E0 n=Tt->E0 m=Tt->cR [ED,n,m7,m]=Tt:=λn m h Y=>(by unfold cR;rw[show pk [ED,n,m7,m] 1=n from rfl,show pk [ED,n,m7,m] 3=m from rfl,show pk [ED,n,m7,m] 0=ED from rfl,show pk [ED,n,m7,m] 2=m7 from rfl,h,Y];simp);cases h with|label j=>exact .inl (t _ j)|below j i=>exact .inr (.inl (z _ _ j i))|role j i=>exact .inr (.inr (.inl (A _ _ j i)))|auto j i D=>exact .inr (.inr (.inr ⟨a _ _ _ _ j i D,.inl rfl⟩))|field j i D h4=>exact .inr (.inr (.inr ⟨a _ _ _ _ j i D,.inr h4⟩))
def AY {l l' C R}(h:F6 l++C=F6 l'++R)(h1:NB C)(H:∀b,b∈l->E0 b=Tt)(i:∀b c,R=S8 :: b :: c->E0 b=Ff):l=l'/\C=R:=by have J:rk S8=0:=dO;induction l generalizing l' with|nil=>(cases l' with|nil=>exact⟨rfl,h⟩|cons b r=>exact absurd J (h1 S8 _ h))|cons b r e=>cases l' with|nil=>have:=i b (F6 r++C) h.symm;rw[H b dQ]at this;cases this|cons a c=>rw[show F6 (b :: r)++C=S8 :: b :: (F6 r++C) from rfl,show F6 (a :: c)++R=S8 :: a :: (F6 c++R) from rfl]at h;exact K7
def qm8 {T l R}(D:cF T=Ff)(w:pk T 4=I6\/E0 (pk T 4)=Tt)(N:T.drop 5=F6 l++R)(P:∀b,b∈l->E0 b=Tt)(V:∀b c,R=S8 :: b :: c->E0 b=Ff)(x):StG T x ↔ ∃u,A8 R u/\(l=[]\/u.is=[])/\x=⟨4,pk T 1,if pk T 4=I6 then ⟨#[]⟩ else pk T 4,decide (pk T 4=I6),N5 (pk T 2),l,u⟩:=by unfold cF at D;simp only[Bool.or_eq_false_iff,Vp,Bool.not_eq_false',Yw]at D;obtain⟨F,c,d,O,U⟩:=D;have i:=IV (T:=T) dN;obtain⟨e,f,W⟩:=qQ rfl O;constructor;{intro a;rw[i,c,U]at a;generalize E:M9 :: pk T 1 :: pk T 2 :: m7 :: pk T 4 :: T.drop 5=L at a;cases a with|label=>cases E|below=>cases E|role=>cases E|@auto n t bys C u g1 g2 g3 g4 g5 g6=>simp only[Oj]at E;obtain⟨-,rfl,g,-,b,h⟩:=E;rw[N]at h;obtain⟨rfl,rfl⟩:=AY h.symm g5.hdr g4 V;exact⟨u,g5,g6,by rw[Y4 b,Yr b,g,vI g2 g3]⟩|@field n t m bys C u g1 g2 g3 g0 g4 g5 g6=>simp only[Oj]at E;obtain⟨-,rfl,g,-,rfl,h⟩:=E;have G:¬ pk T 4=I6:=λb=>(by rw[b,JS]at g0;cases g0);rw[N]at h;obtain⟨rfl,rfl⟩:=AY h.symm g5.hdr g4 V;exact⟨u,g5,g6,by rw[Ys G,Yo G,g,vI g2 g3]⟩};rintro⟨u,j,a,rfl⟩;by_cases G:pk T 4=I6;{rw[Y4 G,Yr G];have:=StG.auto d e f P j a;rw[i,c,U,G,N];rw[<- W]at this;exact this};rw[Ys G,Yo G];have:=StG.field d e f (w.resolve_left G) P j a;rw[<- W]at this;have b:T=M9 :: pk T 1 :: pk T 2 :: m7 :: pk T 4 :: (F6 l++R):=(by rw[<- N,<- c,<- U];exact i);rw[b];exact this
end
section
open Go Go.RowKit Go.Proofs.Tryz
def CG (w:Tw)(base:Nat)(v:Value)(x:Sx):Prop:=∃vb vi vh vv vm,v=.agg #[.int .i64 (x.kind:Nat),St x.name,St x.other,Bo x.auto,.int .i64 (x.typ:Nat),vb,vi,vh,vv,St x.u.sa,vm] /\
 M5 w base vb x.bys/\P1 w base vi x.u.is/\P1 w base vh x.u.wh/\P1 w base vv x.u.va/\P1 w base vm x.u.mu
def OJ:Tl:=[.int .i64 0,St ⟨#[]⟩,St ⟨#[]⟩,Bo Ff,.int .i64 0,Sl Nn 0 0,Sl Nn 0 0,Sl Nn 0 0,Sl Nn 0 0,St ⟨#[]⟩,Sl Nn 0 0]
def BN (w:Tw)(T:List Tb)(r:Ending)(w':Tw):Prop:=∃v,r=.returned v/\Bw w w'/\((∃x,StG T x/\CG w' w.1.size v x)\/((∀x,¬ StG T x)/\v=.agg OJ.toArray))
def sC {w a T}(h:E8 w a T){k}(n:k<T.length):∃b o p,a=Sm (Aq b o)/\xF w b (o+k*3) (pk T k) p:=by rw[SA n];exact h k n
def j0.rowS {w g t x}(h:j0 w g t x)(e):j0 (w.setRow g e.toArray) g t e:=setRow_heap w g x.toArray e.toArray t (0,0) h
def D4 {Y rest o a w Q e t x y g b c}(f:j0 w g t c)(h:wpList prog Y Q rest (a.put o.dst undef) (w.setRow g b))(H:o.guard=Nn:=by exact rfl)(Z:o.op=.store e x y:=by exact rfl)(r:a.eval x=Ym g 0:=by exact rfl)(hy:a.eval y=.agg b:=by exact rfl)(hi:(prog.info? e).map (·.size)=Sm b.size:=by kernel_rfl)(B:c.length=b.size:=by exact rfl)(h1:b.all (·.oneCell')=Tt:=by simp [Value.oneCell']) : wpList prog Y Q (o::rest) a w:=
 wpList_store_row H e x y Z g b r hy t c.toArray f hi B h1 h
def j0.rowS_other {w g n t x}(h:j0 w n t x)(F:n≠g)(e):j0 (w.setRow g e) n t x:=(setRow_other w g n e F).trans h
def A3 {B g w W}(h:Below B w W)(H:B<=g)(e):Below B w (W.setRow g e) :=
 ⟨h.os,h.tape,h.output,by simp[World.setRow];exact h.size,λb c=>(setRow_other W g b e dN).trans (h.block b c)⟩
def GR {o}{a:Act}{w}(t b)(Z:o.op=.build t b)(e)(v:prog.built t (b.map λ(i,x)=>(i,a.eval x)).toList=Sm e):(execOp a.eval o).run prog w=.ok (.value (.agg e)) w:=by unfold execOp;simp only[Z,Sem.run_bind,run_build w t _ e v,Result.andThen_ok];rfl
def vD {o}{a:Act}{w}(K x y)(Z:o.op=.store K x y)(g e)(r:a.eval x=Ym g 0)(hy:a.eval y=.agg e)(t b)(H:w.heap[g]? = Sm (Cl b t (0,0)))(hi:(prog.info? K).map (·.size)=Sm e.size)(B:b.size=e.size)(h1:e.all (·.oneCell')=Tt):(execOp a.eval o).run prog w=.ok .skip (w.setRow g e):=by unfold execOp;simp only[Z,r,hy,Instr.storeAt,Instr.sureAddr,Sem.run_bind,Sem.run_pure,Result.andThen_ok,run_storeVar_row w g t K b e H hi B h1]
def E6 {w b t v u Z l H X o c C d a}(h:j0 w b t [v,u,Z,l,H,X,o,c,C,d,a]):(w.cell? (Aq b 0)=Sm v/\w.cell? (Aq b 1)=Sm u/\w.cell? (Aq b 2)=Sm Z/\w.cell? (Aq b 3)=Sm l/\w.cell? (Aq b 4)=Sm H/\w.cell? (Aq b 5)=Sm X)/\(w.cell? (Aq b 6)=Sm o/\w.cell? (Aq b 7)=Sm c/\w.cell? (Aq b 8)=Sm C/\w.cell? (Aq b 9)=Sm d/\w.cell? (Aq b 10)=Sm a) :=
 ⟨⟨h.cell 0,h.cell 1,h.cell 2,h.cell 3,h.cell 4,h.cell 5⟩,h.cell 6,h.cell 7,h.cell 8,h.cell 9,h.cell 10⟩
def YS (w base):M5 w base Yk []:=⟨rfl,.inl ⟨rfl,rfl⟩⟩
def XE (w base):P1 w base Yk []:=⟨rfl,.inl ⟨rfl,rfl⟩⟩
def zS (w base k n m):CG w base (.agg #[Yj (k:Nat),St n,St m,Bo Ff,Yj 0,Yk,Yk,Yk,Yk,Yl,Yk]) ⟨k,n,m,Ff,0,[],uA⟩:=
 ⟨_,_,_,_,_,rfl,YS _ _,XE _ _,XE _ _,XE _ _,XE _ _⟩
def qme {w w' base v x}(h:CG w base v x)(c:Bw w w'):CG w' base v x:=by obtain⟨a,b,d,e,f,I,j,i,D,g,Q⟩:=h;exact⟨a,b,d,e,f,I,j.keep c,i.keep c,D.keep c,g.keep c,Q.keep c⟩
def Y_ {x s}(h:N9 x s):cls x=3/\s=A4 x:=by obtain⟨h1,h2,h3⟩:=h;have e3:⟨#[34]⟩++mid x++⟨#[34]⟩=x/\(rv x).2.2.1=mid x:=(by unfold rv at h1 h2|-;split at h2;{cases h2};split at h2;{cases h2};split at h2;{cases h2};split at h2;{cases h2};split at h2;{rename_i n1 n2 n3 _ hq hc;rw[Ys n1,Ys n2,Ys n3,Y4 hc];exact⟨hc.2.2,rfl⟩};cases h2);have hb:bt x 0=34:=(by have:=congrArg (λx:Tb=>x.data.toList) e3.1;simp only[Vj,O9]at this;exact PM this.symm);have hc:cls x=3:=(by unfold cls;rw[hb];decide);refine⟨hc,?_⟩;unfold A4;rw[Y4 hc,h3,e3.2]
def qoe {x}(g:VT x)(h:cls x=3):N9 x (A4 x):=by have:=(VP h (g.c3 h)).1;unfold N9 A4;rw[this,Y4 h];exact⟨rfl,rfl,rfl⟩
def wB.uniq {E e P}(h:wB E e)(Y:wB E P):e=P:=h.1.uniq DB Y.1
def ka6.low {r u u' t s}(h:ka6 r u (t :: s) u'):r<rk t:=by cases h with|says=>rw[DN.2.2.2.1];omega|rule h1=>exact h1
def ka6.ord {r u u' t s}(h:ka6 r u (t :: s) u'):rk t=4 ↔ r=3:=by cases h with|says=>rw[DN.2.2.2.1];omega|rule h1 h2 h3=>exact⟨λh=>absurd h h3,λh=>absurd h h2⟩
def qi2 {u u' t E R}(M:rk t=4)(a:∀x,x∈E->rk x=0)(V:NB R):ka6 3 u (t :: (E++R)) u' ↔ ∃x s,E=[x]/\N9 x s/\ka6 4 { u with sa:=s } R u':=by constructor;{intro h;rcases h.head a V with ⟨-,-,h⟩|⟨h,-⟩;{exact h};exact absurd rfl h};rintro⟨x,s,rfl,j,i⟩;rcases DK M dN with ⟨e,-⟩|⟨e,-⟩|⟨e,-⟩|⟨-,rfl⟩|⟨e,-⟩;{omega};{omega};{omega};{exact .says j (OU j) V i};omega
def qi1 {r u u' t E R}(a:r≠3)(h1:r<rk t)(d:rk t≠4)(b:∀x,x∈E->rk x=0)(V:NB R):ka6 r u (t :: (E++R)) u' ↔ ∃e,wB E e/\ka6 (rk t) (u.put (rk t) e) R u':=by constructor;{intro h;rcases h.head b V with ⟨h,-⟩|⟨-,-,-,h⟩;{exact absurd h a};exact h};rintro⟨e,Q,j⟩;exact .rule h1 a d Q V j
def Nd {T a B e}(w:a<T.length)(f:a+1=B)(R:B<=e):T.drop a=pk T a :: ((T.take e).drop B++T.drop e):=by have j:T.drop a=pk T a :: T.drop (a+1):=(by rw[SA w];exact Zt w);rw[j,f];congr 1;have:T.drop B=(T.take e++T.drop e).drop B:=(by rw[Vu]);rw[this];by_cases b:e<=T.length;{rw[Gg ff]};rw[Gy (by omega:T.length<=e),Zn dN,Z3,Z3]
def qop {T B e}{P:Tb->Prop}(h:∀k,B<=k->k<e->k<T.length->P (pk T k)):∀x,x∈(T.take e).drop B->P x:=λx r=>by obtain⟨k,n,rfl⟩:=Zi.1 r;rw[On,Zd]at n;rw[Ot,Vz];have:=h (B+k) dN dN dN;rwa [SA dN]at this
def Pd {T e}(h:e<T.length->rk (pk T e)≠0):NB (T.drop e):=λt s b=>by by_cases P:e<T.length;{rw[SA P]at h;rw[Zt P]at b;injection b with e1 _;rw[<- e1];exact h P};rw[Gy dN]at b;cases b
def QZ {w:Tw}{base e k n v xs}(h:w.ownsRow base e k v n xs){p}(W:p.block<base)(x):(w.setCell p x).ownsRow base e k v n xs:=by refine⟨h.1,?_⟩;rcases h.2 with i|⟨g,q,a,j,H,s,r⟩;{exact .inl i};exact .inr ⟨g,q,a,j,H,(heap_setCell_other w p g x dN).trans s,r⟩
def P1.setB {w base v l}(h:P1 w base v l){p}(W:p.block<base)(x):P1 (w.setCell p x) base v l:=QZ h W x
def M5.setB {w base v l}(h:M5 w base v l){p}(W:p.block<base)(x):M5 (w.setCell p x) base v l:=QZ h W x
def M5.low {w base base' v l}(h:M5 w base v l)(c:base'<=base):M5 w base' v l:=by refine⟨h.1,?_⟩;rcases h.2 with i|⟨g,q,p,j,H,r⟩;{exact .inl i};exact H7
