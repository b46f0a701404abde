import Derived.Test.YtenckgnkjkijnaaGreatDoorW09
import Derived.Test.YtenckgnkjkijnaaGreatDoorW11
import Derived.Test.YtenckgnkjkijnaaGreatDoorW12
set_option linter.all false
set_option maxRecDepth 100000
set_option maxHeartbeats 0
namespace Go.Proofs.YtenckgnkjkijnaaGreatDoor
open Go Go.RowKit Go.Proofs.Tryz
variable {w:Tw}{n j:Nat}{m:Fm}{t:TypeId}{v u:Value}{a:To}{f g:Nat->Nat}
def kb5 (w:Tw)(a:To)(l:List Tb):Prop:=∀k (h:k<l.length),∃b o,a=some ⟨b,o,none⟩/\b<w.1.size/\w.cell? ⟨b,o+k,none⟩=some (.string l[k])
def kb5.mono {w':Tw}{l:List Tb}(f:kb5 w a l)(b:Bw w w'):kb5 w' a l:=λi h=>by have⟨d,j,e,c,g⟩:=f i h;exact⟨d,j,e,Yr c b.size,(b.cell c).trans g⟩
def Prs (w:Tw)(a:To)(l:List (Int × Int)):Prop:=∀k (h:k<l.length),∃b o,a=some ⟨b,o,none⟩/\b<w.1.size/\w.cell? ⟨b,o+k*2,none⟩=some (.int .i64 l[k].1)/\w.cell? ⟨b,o+k*2+1,none⟩=some (.int .i64 l[k].2)
def eG {p:Prop}(h:p:=by have⟨d,k,e,c,g,h⟩:=f j i;exact⟨d,k,e,Yr c b.size,(b.cell c).trans g,(b.cell c).trans h⟩):p:=h
def Prs.mono {w':Tw}{l:List (Int × Int)}(f:Prs w a l)(b:Bw w w'):Prs w' a l:=λj i=>by exact eG
def Rls (w:Tw)(a:To)(l:List Rl):Prop:=∀k (h:k<l.length),∃b o,a=some ⟨b,o,none⟩/\b<w.1.size/\w.cell? ⟨b,o+k*2,none⟩=some (.string l[k].nm)/\w.cell? ⟨b,o+k*2+1,none⟩=some (.int .i64 l[k].lb)
def Rls.mono {w':Tw}{l:List Rl}(f:Rls w a l)(b:Bw w w'):Rls w' a l:=λj i=>by exact eG
def keY (w:Tw)(a:To)(l:List Int):Prop:=kbG w a l.length (λk=>l.getD k 0)
def keY.mono {w':Tw}{l:List Int}(b:keY w a l)(c:Bw w w'):keY w' a l:=kbG.mono b c
def kb2 (w:Tw)(a:To)(l:List Nx):Prop:=kcq w a l.length (nf l)
def kb2.mono {w':Tw}{l:List Nx}(b:kb2 w a l)(c:Bw w w'):kb2 w' a l:=kcq.mono b c
structure FA where
 b:To
 bc:Nat
 i:To
 ic:Nat
 h:To
 hc:Nat
 v:To
 vc:Nat
 u:To
 uc:Nat
structure FSl (w:Tw)(f:Fl)(A:FA):Prop where
 b:keY w A.b f.bys
 i:kb2 w A.i f.is
 h:kb2 w A.h f.wh
 v:kb2 w A.v f.va
 u:kb2 w A.u f.mu
def FSl.mono {w':Tw}{f:Fl}{A:FA}(a:FSl w f A)(c:Bw w w'):FSl w' f A:=⟨a.b.mono c,a.i.mono c,a.h.mono c,a.v.mono c,a.u.mono c⟩
def fCs (f:Fl)(A:FA):Tl:=[.string f.nm,.int .i64 f.ty,.int .i64 f.lb,.slice A.b f.bys.length A.bc,.slice A.i f.is.length A.ic,.slice A.h f.wh.length A.hc,.slice A.v f.va.length A.vc,.string f.sy,.slice A.u f.mu.length A.uc]
def fV (f:Fl)(A:FA):Value:=.agg #[.string f.nm,.int .i64 f.ty,.int .i64 f.lb,.slice A.b f.bys.length A.bc,.slice A.i f.is.length A.ic,.slice A.h f.wh.length A.hc,.slice A.v f.va.length A.vc,.string f.sy,.slice A.u f.mu.length A.uc]
def keI (w:Tw)(b o:Nat)(f:Fl)(A:FA):Prop:=b<w.1.size/\w.cell? ⟨b,o,none⟩=some (.string f.nm)/\w.cell? ⟨b,o+1,none⟩=some (.int .i64 f.ty)/\w.cell? ⟨b,o+2,none⟩=some (.int .i64 f.lb)/\w.cell? ⟨b,o+3,none⟩=some (.slice A.b f.bys.length A.bc)/\w.cell? ⟨b,o+4,none⟩=some (.slice A.i f.is.length A.ic)/\w.cell? ⟨b,o+5,none⟩=some (.slice A.h f.wh.length A.hc)/\w.cell? ⟨b,o+6,none⟩=some (.slice A.v f.va.length A.vc)/\w.cell? ⟨b,o+7,none⟩=some (.string f.sy)/\w.cell? ⟨b,o+8,none⟩=some (.slice A.u f.mu.length A.uc)
def keI.mono {w':Tw}{b o:Nat}{f:Fl}{A:FA}(a:keI w b o f A)(c:Bw w w'):keI w' b o f A :=
 ⟨Yr a.1 c.size,(c.cell a.1).trans a.2.1,(c.cell a.1).trans a.2.2.1,(c.cell a.1).trans a.2.2.2.1,(c.cell a.1).trans a.2.2.2.2.1,(c.cell a.1).trans a.2.2.2.2.2.1,(c.cell a.1).trans a.2.2.2.2.2.2.1,(c.cell a.1).trans a.2.2.2.2.2.2.2.1,(c.cell a.1).trans a.2.2.2.2.2.2.2.2.1,(c.cell a.1).trans a.2.2.2.2.2.2.2.2.2⟩
def ka0 {b:Nat}{c d e f g h i:Value}(a:Blk w b t [v,u,c,d,e,f,g,h,i]) :
 w.cell? ⟨b,0,none⟩=some v/\w.cell? ⟨b,1,none⟩=some u/\w.cell? ⟨b,2,none⟩=some c/\w.cell? ⟨b,3,none⟩=some d/\w.cell? ⟨b,4,none⟩=some e/\w.cell? ⟨b,5,none⟩=some f/\w.cell? ⟨b,6,none⟩=some g/\w.cell? ⟨b,7,none⟩=some h/\w.cell? ⟨b,8,none⟩=some i:=⟨a.cell 0,a.cell 1,a.cell 2,a.cell 3,a.cell 4,a.cell 5,a.cell 6,a.cell 7,a.cell 8⟩
def kdy (w:Tw)(a:To)(l:List Fl)(A:Nat->FA):Prop:=∀k (h:k<l.length),∃b o,a=some ⟨b,o,none⟩/\keI w b (o+k*9) l[k] (A k)/\FSl w l[k] (A k)
def kdy.mono {w':Tw}{l:List Fl}{A:Nat->FA}(e:kdy w a l A)(b:Bw w w'):kdy w' a l A:=λi g=>by have⟨c,j,d,f,h⟩:=e i g;exact⟨c,j,d,f.mono b,h.mono b⟩
structure MA where
 l:To
 lc:Nat
 p:To
 pc:Nat
 r:To
 rc:Nat
 f:To
 fc:Nat
 fa:Nat->FA
abbrev Jq(x0:MA)(x1:Fm):Ta:=#[.slice x0.l x1.L.length x0.lc,.slice x0.p x1.P.length x0.pc,.slice x0.r x1.R.length x0.rc,.slice x0.f x1.F.length x0.fc]
def mV (m:Fm)(A:MA):Value:=.agg #[.slice A.l m.L.length A.lc,.slice A.p m.P.length A.pc,.slice A.r m.R.length A.rc,.slice A.f m.F.length A.fc]
structure MSl (w:Tw)(m:Fm)(A:MA):Prop where
 l:kb5 w A.l m.L
 p:Prs w A.p m.P
 r:Rls w A.r m.R
 f:kdy w A.f m.F A.fa
def MSl.mono {w':Tw}{A:MA}(a:MSl w m A)(b:Bw w w'):MSl w' m A:=⟨a.l.mono b,a.p.mono b,a.r.mono b,a.f.mono b⟩
def kah {b:Nat}{c d:Value}(a:Blk w b t [v,u,c,d]) :
 w.cell? ⟨b,0,none⟩=some v/\w.cell? ⟨b,1,none⟩=some u/\w.cell? ⟨b,2,none⟩=some c/\w.cell? ⟨b,3,none⟩=some d:=⟨a.cell 0,a.cell 1,a.cell 2,a.cell 3⟩
structure kef (f:Fl):Prop where
 nm:f.nm.size<=9223372036854775807
 sy:f.sy.size<=9223372036854775807
 bl:f.bys.length<=9223372036854775807
 il:f.is.length<=9223372036854775807
 hl:f.wh.length<=9223372036854775807
 vl:f.va.length<=9223372036854775807
 ul:f.mu.length<=9223372036854775807
 i:∀k,k<f.is.length->Fit (nf f.is k)
 h:∀k,k<f.wh.length->Fit (nf f.wh k)
 v:∀k,k<f.va.length->Fit (nf f.va k)
 u:∀k,k<f.mu.length->Fit (nf f.mu k)
structure kbg (m:Fm):Prop where
 ll:m.L.length<=9223372036854775807
 pl:m.P.length<=9223372036854775807
 rl:m.R.length<=9223372036854775807
 fl:m.F.length<=9223372036854775807
 l:∀x,x∈m.L->x.size<=9223372036854775807
 r:∀x,x∈m.R->x.nm.size<=9223372036854775807
 f:∀x,x∈m.F->kef x
def kaP:Value:=.agg #[.int .i64 0,.slice none 0 0,.slice none 0 0,.slice none 0 0,.int .i64 0,.int .i64 0]
def kck (n:Nat)(g d:Nat->Nat)(R:Nat->Nat->Bool)(B:Nat)(e:Ending)(w':Tw):Prop :=
 ((∃a,a<n/\¬ kan (g a) (d a)=2 ^ a)/\e=.returned (.tuple #[kaP,Yb 2])) ∨
 ((∀a,a<n->kan (g a) (d a)=2 ^ a)/\(∃a b,a<n/\b<n/\kbO g a b (-1))/\e=.returned (.tuple #[kaP,Yb 3])) ∨
 ((∀a,a<n->kan (g a) (d a)=2 ^ a)/\(∃a b,a<n/\b<n/\kbO d a b (-1))/\(∃F:Nat->Int,∀a,a<n->∀b,b<n->0<=F (a*n+b)/\kbO g a b (F (a*n+b)))/\e=.returned (.tuple #[kaP,Yb 4])) ∨
 ((∀a,a<n->kan (g a) (d a)=2 ^ a)/\∃G1 G2 G3 F1 F2 bot top,e=.returned (.tuple #[.agg #[Yb n,.slice (some ⟨G1,0,none⟩) (n*n) (n*n),.slice (some ⟨G2,0,none⟩) (n*n) (n*n),.slice (some ⟨G3,0,none⟩) (n*n) (n*n),Yb bot,Yb top],Yb 0]) /\
  Blk w' G1 4 (bs (n*n) (kbS n R))/\Blk w' G2 3 (is (n*n) F1)/\Blk w' G3 3 (is (n*n) F2)/\B<=G1/\B<=G2/\B<=G3/\G1≠G2/\G1≠G3/\G2≠G3 /\
  (∀a,a<n->∀b,b<n->0<=F1 (a*n+b)/\kbO g a b (F1 (a*n+b)))/\(∀a,a<n->∀b,b<n->0<=F2 (a*n+b)/\kbO d a b (F2 (a*n+b)))/\kc2 g (2 ^ n - 1) bot/\kc2 d (2 ^ n - 1) top)
def qo3 (c:Ta)(a:c.toList=us λ_=>0)(w:Tw):Blk (w.alloc (.cells c 237)) w.1.size 237 (us λ_=>0):=a ▸ Blk.new w 237 c
def six {b:Nat}{c d e f:Value}(a:Blk w b t [v,u,c,d,e,f]) :
 (w.cell? ⟨b,0,none⟩=some v/\w.cell? ⟨b,1,none⟩=some u/\w.cell? ⟨b,2,none⟩=some c/\w.cell? ⟨b,3,none⟩=some d/\w.cell? ⟨b,4,none⟩=some e/\w.cell? ⟨b,5,none⟩=some f) /\
 (w.frozen? ⟨b,0,none⟩=false/\w.frozen? ⟨b,1,none⟩=false/\w.frozen? ⟨b,2,none⟩=false/\w.frozen? ⟨b,3,none⟩=false/\w.frozen? ⟨b,4,none⟩=false/\w.frozen? ⟨b,5,none⟩=false) :=
 ⟨⟨a.cell 0,a.cell 1,a.cell 2,a.cell 3,a.cell 4,a.cell 5⟩,a.free 0,a.free 1,a.free 2,a.free 3,a.free 4,a.free 5⟩
def kdo (a:n<=32):2 ^ n - 1<4294967296:=by have:2 ^ n<=2 ^ 32:=Zr cr a;omega
def kfk (w':Tw)(B D A:Nat)(g d:Nat->Nat)(s:Nat):Prop:=Blk w' B 237 (us g)/\Blk w' D 237 (us d)/\Tab w'/\w'.rangeAt B 0 (us g)/\w'.rangeAt D 0 (us d)/\w'.cell? ⟨A,0,none⟩=some (.int .u32 (s:Int))/\A<w'.1.size
def kfk.mono {w':Tw}{B D A s:Nat}(a:kfk w B D A g f s)(b:Bw w w'):kfk w' B D A g f s :=
 have c:=a.1.mono b a.1.lt;have d:=a.2.1.mono b a.2.1.lt
 ⟨c,d,a.2.2.1.mono b,c.range,d.range,(b.cell (p:=⟨A,0,none⟩) a.2.2.2.2.2.2).trans a.2.2.2.2.2.1,Yr a.2.2.2.2.2.2 b.size⟩
def kfk.set {B D A s:Nat}(b:kfk w B D A g f s)(i:B≠n)(k:D≠n)(h:A≠n)(e:1≠n):kfk (w.setCell ⟨n,j,none⟩ v) B D A g f s :=
 have c:=b.1.other (a:=⟨n,j,none⟩) v i;have d:=b.2.1.other (a:=⟨n,j,none⟩) v k
 ⟨c,d,b.2.2.1.at0 (heap_setCell_other _ _ _ _ e),c.range,d.range,(World.cell?_of_block (heap_setCell_other _ _ _ _ h)).trans b.2.2.2.2.2.1,by simpa using b.2.2.2.2.2.2⟩
def q41 (n:Nat)(g:Nat->Nat)(R:Nat->Nat->Bool)(w:Tw)(I:1<=n)(D:n<=32)(hg:kav g R)(ht:Tab w) :
 Calls prog 165 #[Yb n,.agg (us g).toArray] w λd m=>Bw w m/\∃c,kav c (λa b=>decide (b<n)&&R b a)/\kck n g c R w.1.size d m:=by
 have ad:∀b,b<32->g b<4294967296:=λb e=>(hg b e).1;have B0:=(Blk.new w 237 (us g).toArray).alloc (.cells #[Yb 0,Yc,Yc,Yc,Yb 0,Yb 0] 123);have B1:=Blk.new (w.alloc (.cells (us g).toArray 237)) 123 #[Yb 0,Yc,Yc,Yc,Yb 0,Yb 0];have BW:Bw w ((w.alloc (.cells (us g).toArray 237)).alloc (.cells #[Yb 0,Yc,Yc,Yc,Yb 0,Yb 0] 123)):=((bR _ _).alloc (nR _) _).alloc cw _;have BT:=ht.mono BW;simp only[Yp]at B1;obtain⟨V,H1,HW,M⟩:=oD B0 B1 BW BT;go_enter func165,ntmps165;go_wp2_with (refine q14 rfl _ rfl w.1.size g rfl V ?_);refine(qdz g R n _ D hg M).mono ?_;rintro d x ⟨c,rfl,T,aa⟩;have ac:∀b,b<32->c b<4294967296:=λb e=>(T b e).1;replace V:=mB V aa;replace H1:=mB H1 aa;replace HW:=mT HW aa;replace M:=h_ (M.mono aa);go_wp2_with (first | (refine q0r rfl _ _ rfl x.1.size (λ_=>0) c rfl rfl (qo3 _ rfl _) ?_;intro w2 h k l;have a:Bw x w2:=((bR _ x).alloc (nR _) _).grown k cw (λo d=>by cases d;exact nR _);have X0:=mB V a;have X1:=mB H1 a;have H:=mT HW a;have XT:=h_ (M.mono a);have XD:=h_ h;clear h k l a) | (refine q14 rfl _ rfl w.1.size g rfl X0 ?_) | (refine q14 rfl _ rfl x.1.size c rfl XD ?_));by_cases ae:∃b,b<n/\¬ kan (g b) (c b)=2 ^ b
 . refine cQ (qa6 n g c _ D ad ac true ⟨λ_=>ae,λ_=>rfl⟩) λw3 o=>?_;have N:=h_ ae;have Y0:=mB X0 o;have Y1:=mB X1 o;obtain⟨F,YT⟩:=oB (H.trans (o.mono H.size)) (XT.mono o);have YD:=mB XD o;obtain⟨⟨r0,r1,r2,r3,r4,r5⟩,q0,q1,q2,q3,q4,q5⟩:=six Y1;go_wp2;refine bodyPost_ret (v:=.tuple #[kaP,Yb 2]) dg rfl ⟨?_,c,T,.inl ⟨N,rfl⟩⟩
   iterate 6 refine Below.setCell ?_ cX _
   exact F
 refine cQ (qa6 n g c _ D ad ac false ⟨(λa=>by cases a),λa=>absurd a ae⟩) λw3 o=>?_;have N:Hi (∀b,b<n->kan (g b) (c b)=2 ^ b):=λb e=>Classical.byContradiction λa=>ae ⟨b,e,a⟩;have Y0:=mB X0 o;have Y1:=mB X1 o;obtain⟨F,YT⟩:=oB (H.trans (o.mono H.size)) (XT.mono o);have YD:=mB XD o;go_wp2_with (refine q14 rfl _ rfl w.1.size g rfl Y0 ?_);refine(qak n g _ I D ad YT).mono ?_;rintro d w4 ⟨t,(⟨y,F1,rfl,aB,aC,az⟩ | ⟨rfl,b⟩)⟩
 rotate_left
 . have e:=h_ b;clear b
   have Z0:=mB Y0 t;have G:=mB Y1 t;obtain⟨s,ZT⟩:=oB (F.trans (t.mono F.size)) (YT.mono t);have ZD:=mB YD t;obtain⟨⟨r0,r1,r2,r3,r4,r5⟩,q0,q1,q2,q3,q4,q5⟩:=six G;go_wp2;refine bodyPost_ret (v:=.tuple #[kaP,Yb 3]) dg rfl ⟨?_,c,T,.inr (.inl ⟨N,e,rfl⟩)⟩
   iterate 6 refine Below.setCell ?_ cX _
   exact s
 have Z0:=mB Y0 t;have G:=mB Y1 t;obtain⟨s,ZT⟩:=oB (F.trans (t.mono F.size)) (YT.mono t);have ZD:=mB YD t;have g2:=Y6 F.size aC;obtain⟨W,ah⟩:=oB aB az;go_wp2_with (refine q14 rfl _ rfl x.1.size c rfl ZD ?_);refine(qak n c _ I D ac ZT).mono ?_;rintro d w5 ⟨p,(⟨z,F2,rfl,aD,an,aA⟩ | ⟨rfl,b⟩)⟩
 rotate_left
 . have e:=h_ b;clear b
   have U0:=mB Z0 p;have U1:=mB G p;obtain⟨Y,UT⟩:=oB (s.trans (p.mono s.size)) (ZT.mono p);have UD:=mB ZD p;obtain⟨⟨r0,r1,r2,r3,r4,r5⟩,q0,q1,q2,q3,q4,q5⟩:=six U1;go_wp2;refine bodyPost_ret (v:=.tuple #[kaP,Yb 4]) dg rfl ⟨?_,c,T,.inr (.inr (.inl ⟨N,e,⟨F1,ah⟩,rfl⟩))⟩
   iterate 6 refine Below.setCell ?_ cX _
   exact Y
 have U0:=mB Z0 p;have U1:=mB G p;obtain⟨Y,UT⟩:=oB (s.trans (p.mono s.size)) (ZT.mono p);have UD:=mB ZD p;have g3:=Y6 s.size an;have aH:y<z:=Yr W.lt an;replace W:=mB W p;obtain⟨au,aq⟩:=oB aD aA;go_wp2_with (go_at_call 201;refine cQ (qo9 n _ D) λr b=>?_;have V0:=mB U0 b;have V1:=mB U1 b;have VW:=h_ (Y.trans (b.mono Y.size));have VT:=h_ (UT.mono b);have VD:=mB UD b;have ai:=mB W b;have aj:=mB au b;clear b);have bA:=Blk.new r 235 (#[.int .u32 ((2 ^ n - 1:Nat):Int)]);have A:Bw r (r.alloc (.cells (#[.int .u32 ((2 ^ n - 1:Nat):Int)]) 235)):=(bR _ _).alloc (nR _) _;have X:Hi (kfk (r.alloc (.cells (#[.int .u32 ((2 ^ n - 1:Nat):Int)]) 235)) w.1.size x.1.size r.1.size g c (2 ^ n - 1)) :=
  have b:=V0.mono A V0.lt;have I:=VD.mono A VD.lt
  ⟨b,I,VT.mono A,b.range,I.range,bA.cell 0,bA.lt⟩
 have af:=kdo D;obtain⟨q,hm⟩:=Nq (2 ^ n - 1);rw[hm]at af X⊢;rw[hm]at A;have HM:=h_ hm;obtain⟨Z,aE⟩:=Nq (r.alloc (.cells #[.int .u32 (q:Int)] 235));rw[aE]at X A⊢;have G:=mB V1 A;have s:=h_ (VW.trans (A.mono VW.size));have ak:=mB ai A;have al:=mB aj A;have e:¬ w.1.size=w.1.size+1:=cr
 have h:x.1.size≠w.1.size+1:=λd=>by have a:=VD.u;rw[d]at a;have P:=a.symm.trans V1;simp at P
 have k:r.1.size≠w.1.size+1:=by have:=V1.lt;omega
 have l:¬ 1=w.1.size+1:=by first | omega | (have:=M.pos;omega) | (have:=ht.pos;omega)
 have n5:y≠w.1.size+1:=λd=>by have a:=ai.u;rw[d]at a;have P:=a.symm.trans V1;simp at P
 have n6:z≠w.1.size+1:=λd=>by have a:=aj.u;rw[d]at a;have P:=a.symm.trans V1;simp at P
 have s7:w.1.size<=Z.1.size:=s.size;have l2:=ak.lt;have l3:=al.lt;have l1:=G.lt;refine wp_region_held_drew (S:=λm=>kfk m w.1.size x.1.size r.1.size g c q) cu X (λC=>?_);refine take (i:=0) (v:=Yb n) 39 rfl rfl cu cu cu (λ_ _ _ _ a=>a) (by exact qaa cH (.tmp 0) _ rfl rfl) C ?_;simp only[sX,sY,sZ];refine take (i:=2) (v:=Yb n) 41 rfl rfl cu cu cu (λ_ _ _ _ a=>a) (by exact qaa cH (.tmp 0) _ rfl rfl) C ?_;simp only[sX,sY,sZ];refine take (i:=4) (v:=.slice (some ⟨y,0,none⟩) (n*n) (n*n)) 43 rfl rfl cu cu cu (λ_ _ _ _ a=>a) (by exact qaa cH (.tmp 7) _ rfl rfl) C ?_;simp only[sX,sY,sZ];refine take (i:=5) (v:=.slice (some ⟨z,0,none⟩) (n*n) (n*n)) 44 rfl rfl cu cu cu (λ_ _ _ _ a=>a) (by exact qaa cH (.tmp 9) _ rfl rfl) C ?_;simp only[sX,sY,sZ];refine take (i:=1) (v:=.agg (us g).toArray) 40 rfl rfl cu cu cu (λ_ _ _ _ a=>a) (by exact qab cH (.tmp 3) rfl w.1.size g rfl (λ_ a=>a.1)) C ?_;simp only[sX,sY,sZ];refine take (i:=6) (v:=.agg (us g).toArray) 45 rfl rfl cu cu cu (λ_ _ _ _ a=>a) (by exact qab cH (.tmp 3) rfl w.1.size g rfl (λ_ a=>a.1)) C ?_;simp only[sX,sY,sZ];refine take (i:=9) (v:=.agg (us c).toArray) 48 rfl rfl cu cu cu (λ_ _ _ _ a=>a) (by exact qab cH (.tmp 6) rfl x.1.size c rfl (λ_ a=>a.2.1)) C ?_;simp only[sX,sY,sZ];refine take (i:=7) (v:=.agg #[.int .u32 (q:Int)]) 46 rfl rfl cu cu cu (λ_ _ _ _ a=>a) (by exact qe9 cH (.tmp 10) rfl r.1.size 0 _ rfl (λ_ a=>a.2.2.2.2.2.1)) C ?_;simp only[sX,sY,sZ];refine take (i:=10) (v:=.agg #[.int .u32 (q:Int)]) 49 rfl rfl cu cu cu (λ_ _ _ _ a=>a) (by exact qe9 cH (.tmp 10) rfl r.1.size 0 _ rfl (λ_ a=>a.2.2.2.2.2.1)) C ?_;simp only[sX,sY,sZ];refine kge (i:=3) (f:=202) (args:=#[.agg (us g).toArray,Yb n]) (R:=λE L=>∃b,E=.slice (some ⟨b,0,none⟩) (n*n) (n*n)/\Blk L b 4 (bs (n*n) (kbS n R))/\Z.1.size<=b/\Bw Z L) 42 rfl rfl cH cu ?hrun1 ((qid n g R _ I D hg).mono λd L ⟨b,U,J,am,K⟩=>⟨_,U,b,rfl,J,am,q38 K⟩) ?_
 case hrun1=>simp[execOp,go_sem]
 rintro E L ⟨b,rfl,J,am,K⟩;have S1:kfk L w.1.size x.1.size r.1.size g c q:=X.mono K;refine⟨S1,?_⟩;simp only[sX,sY,sZ];refine kge (i:=8) (f:=203) (args:=#[.agg (us g).toArray,.agg #[.int .u32 (q:Int)]]) (R:=λE m=>∃B,E=Yb B/\kc2 g q B/\Bw L m) 47 rfl rfl cH cu ?hrun2 ((q8x g q _ ad af S1.2.2.1).mono λd m ⟨B,U,hr,hb⟩=>⟨_,U,B,rfl,hr,hb⟩) ?_
 case hrun2=>simp[execOp,go_sem]
 rintro E w9 ⟨O,rfl,aF,Q⟩;have S2:=S1.mono Q;refine⟨S2,?_⟩;simp only[sX,sY,sZ];refine kge (i:=11) (f:=203) (args:=#[.agg (us c).toArray,.agg #[.int .u32 (q:Int)]]) (R:=λE m=>∃B,E=Yb B/\kc2 c q B/\Bw w9 m) 50 rfl rfl cH cu ?hrun3 ((q8x c q _ ac af S2.2.2.1).mono λd m ⟨B,U,hr,hb⟩=>⟨_,U,B,rfl,hr,hb⟩) ?_
 case hrun3=>simp[execOp,go_sem]
 rintro E ao ⟨top,rfl,aG,ag⟩;have B:=S2.mono ag;refine⟨B,?_⟩;simp only[sX,sY,sZ];have U:Bw Z ao:=(K.trans (Q.mono K.size)).trans (ag.mono (Y6 K.size Q.size));have X1:=G.mono U l1;obtain⟨⟨r0,r1,r2,r3,r4,r5⟩,q0,q1,q2,q3,q4,q5⟩:=six X1;refine take (i:=12) (v:=.agg #[Yb n,.slice (some ⟨b,0,none⟩) (n*n) (n*n),.slice (some ⟨y,0,none⟩) (n*n) (n*n),.slice (some ⟨z,0,none⟩) (n*n) (n*n),Yb O,Yb top]) 51 rfl rfl cu cu cu (λ_ _ _ _ a=>a) (.inl ⟨cH,λm _=>?build⟩) B ?_
 case build=>simp[execOp,go_sem]
 simp only[sX,sY,sZ];refine runH (i:=13) rfl cH cu rfl (v:=.skip) (w':=(((((ao.setCell ⟨w.1.size+1,0,none⟩ (Yb n)).setCell ⟨w.1.size+1,1,none⟩ (.slice (some ⟨b,0,none⟩) (n*n) (n*n))).setCell ⟨w.1.size+1,2,none⟩ (.slice (some ⟨y,0,none⟩) (n*n) (n*n))).setCell ⟨w.1.size+1,3,none⟩ (.slice (some ⟨z,0,none⟩) (n*n) (n*n))).setCell ⟨w.1.size+1,4,none⟩ (Yb O)).setCell ⟨w.1.size+1,5,none⟩ (Yb top)) ?hrun4 rfl ((((((B.set e h k l).set e h k l).set e h k l).set e h k l).set e h k l).set e h k l) ?_
 case hrun4=>simp[execOp,go_sem, *]
 have S4:=(((((B.set (j:=0) (v:=Yb (n:Int)) e h k l).set (j:=1) (v:=.slice (some ⟨b,0,none⟩) (n*n) (n*n)) e h k l).set (j:=2) (v:=.slice (some ⟨y,0,none⟩) (n*n) (n*n)) e h k l).set (j:=3) (v:=.slice (some ⟨z,0,none⟩) (n*n) (n*n)) e h k l).set (j:=4) (v:=Yb O) e h k l).set (j:=5) (v:=Yb top) e h k l;refine take (i:=14) (v:=Yb 0) 5 rfl rfl cu cu cu (λ_ _ _ _ a=>a) (.inl ⟨cH,λm _=>?asg⟩) S4 ?_
 case asg=>simp[execOp,go_sem]
 simp only[sX,sY,sZ];refine wdQ ?_;obtain⟨ax,ay⟩:=oB (ak.mono U l2) (al.mono U l3);obtain⟨aw,H⟩:=oB ((J.mono Q J.lt).mono ag (J.mono Q J.lt).lt) (s.trans (U.mono s7));obtain⟨ap,av⟩:=oB aF aG;have n7:b≠w.1.size+1:=cr
 have n8:b≠y:=cr
 have n9:b≠z:=cr
 go_wp2;refine bQ (v:=.tuple #[.agg #[Yb n,.slice (some ⟨b,0,none⟩) (n*n) (n*n),.slice (some ⟨y,0,none⟩) (n*n) (n*n),.slice (some ⟨z,0,none⟩) (n*n) (n*n),Yb O,Yb top],Yb 0]) ⟨?_,c,T,.inr (.inr (.inr ⟨N,b,y,z,F1,F2,O,top,rfl,?_,?_,?_,cr,g2,g3,n8,n9,cr,ah,aq,by rw[HM.u];exact ap,by rw[HM.u];exact av⟩))⟩
 . iterate 6 refine Below.setCell ?_ cX _
   exact H
 . iterate 6 refine Blk.other ?_ _ cX
   exact aw
 . iterate 6 refine Blk.other ?_ _ cX
   exact ax
 . iterate 6 refine Blk.other ?_ _ cX
   exact ay
