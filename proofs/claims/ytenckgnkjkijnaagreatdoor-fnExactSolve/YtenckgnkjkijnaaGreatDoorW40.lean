import Derived.Test.YtenckgnkjkijnaaGreatDoorW39
import Derived.Test.YtenckgnkjkijnaaGreatDoorW38
set_option maxRecDepth 100000
set_option maxHeartbeats 64000000
namespace Go.Proofs.YtenckgnkjkijnaaGreatDoor
open Go Go.RowKit Go.Proofs.Tryz
variable {w:Tw}{n k:Nat}{m:Fm}{v:Value}{a:To}{f:Nat->Nat}
theorem q9l (d:VfA m)(b:Nat)(c:k<m.F.length):(m.F[k].lb<0/\kaI m b k=b)∨(¬ m.F[k].lb<0/\m.F[k].lb=((kaI m b k:Nat):Int)):=by
 have:=kcS d.lba c;unfold kaI;rw[qoe c];by_cases a:m.F[k].lb<0
 . exact .inl ⟨a,by rw[Yr a]⟩
 . exact .inr ⟨a,by rw[Yl a];omega⟩
theorem q10 (m:Fm)(A:MA)(b c:Nat)(w:Tw)(g:VfA m)(h:MSl w m A) :
 Calls prog 138 #[wV m A b,J6 (c:Nat)] w fun d a=>∃e,d=.returned e/\a.ownsRow w.heap.size 3 1 e m.F.length (ui (lsL (kaI m c) m.F.length))/\Bw w a:=by
 obtain⟨HV,HA⟩:=oB g h;have aq:=g.nf;obtain⟨al,ah,ap,ai,ar,aj,af,ag,ae⟩:=A;unfold wV;dsimp only;obtain⟨H,a,HK,HB⟩:=nw w 121 #[.slice al m.L.length ah,.slice ap m.P.length ai,.slice ar m.R.length aj,.slice af m.F.length ag,.map (some b)];have au:H.heap.size=w.heap.size+1:=by rw[<- a];simp
 have d:Hi (H.ownsRow (w.heap.size+1) 3 1 J7 0 []):=h_ (World.ownsRow_nil _ _ _ _);clear h g;obtain⟨g,h,i,j,k⟩:=kaG HK;go_enter func138,ntmps138;go_wp2_with fail
 try rw[a]
 clear a g h i j k;go_loopw [5,12] (fun e g wr=>∃a:Nat,a<=m.F.length/\g=J6 a/\wr.ownsRow (w.heap.size+1) 3 1 e a (ui (lsL (kaI m c) a))/\Below (w.heap.size+1) H wr) (fun _ g _=>m.F.length - (intOf g).toNat)
 case atStart=>exact⟨0,nZ _,rfl,d,bR _ _⟩
 case round =>
  clear d;obtain⟨a,hk,rfl,h,e⟩:=hrel;have g:=HB.trans (e.mono (by omega));have av:=e.size;obtain⟨aa,ac,ad,d⟩:=oD (HA.mono g) e g h;clear e g h;by_cases S:a<m.F.length
  . have ak:(a:Int)<m.F.length:=by omega
    obtain⟨pb,po,O,⟨-,z0,z1,z2,V,W,X,Y,z7,Z⟩,-⟩:=aa.f a S;dsimp only at O V W X Y Z;subst O;have G:=h_ (qk6 (kaI m c) a);have am:=q9l HV c S;generalize kaI m c a=M at *;generalize m.F[a]=p at *;generalize ae a=fa at *;obtain⟨q,r,u,v,s,t,z,B,x,y⟩:=fa;dsimp only at V W X Y Z;obtain⟨N,D,e⟩:=oC (Blk.new wr 92 (Ja p q r u v s t z B x y)) (ac.alloc (by omega) (.cells (Ja p q r u v s t z B x y) 92)) (d.alloc (.cells (Ja p q r u v s t z B x y) 92));obtain⟨g,Q⟩:=Nq (wr.alloc (.cells (Ja p q r u v s t z B x y) 92));have an:wr.heap.size+1<=g.heap.size:=(by rw[<- Q];simp);rw[Q]at N D e;obtain⟨x0,x1,x2,x3,x4,x5,x6,x7,x8⟩:=kaU N;obtain⟨U,k,l,n,o⟩:=info_parts kbf;rcases am with ⟨T,j⟩ | ⟨T,j⟩
    . rw[j]at G
      clear j;go_wp2_with (at_builtin;refine wpList_append_own _ rfl _ _ 89 rfl (w.heap.size+1) 3 U _ 1 8 underlying89 k l n o rfl (by omega) _ _ _ rfl (e.alloc _) ⟨g.heap.size,0,none⟩ 1 1 [J6 c] rfl rfl (qim g 3 _) (by simp[Value.oneCell']) (by unfold maxLen;omega) (by omega) (by simp;omega) ?_);intro J K i h _;have E:Hi (K.ownsRow (w.heap.size+1) 3 1 J (a+1) (ui (lsL (kaI m c) (a+1)))):=h_ (by rw[G.u];simpa [ui] using i);have C:=h_ ((D.alloc (by omega) (.cells #[J6 c] 3)).grown h (by simp;omega) (fun q' I=>qc8 e I));clear i h k l n o;refine rQ ?_;exact⟨a+1,by omega,by go_num,E,C⟩
    . rw[j]at x2
      have ao:¬ ((M:Nat):Int)<0:=(by omega);clear j T;go_wp2_with (at_builtin;refine wpList_append_own _ rfl _ _ 89 rfl (w.heap.size+1) 3 U _ 1 8 underlying89 k l n o rfl (by omega) _ _ _ rfl (e.alloc _) ⟨g.heap.size,0,none⟩ 1 1 [J6 M] rfl rfl (qim g 3 _) (by simp[Value.oneCell']) (by unfold maxLen;omega) (by omega) (by simp;omega) ?_);intro J K i h _;have E:Hi (K.ownsRow (w.heap.size+1) 3 1 J (a+1) (ui (lsL (kaI m c) (a+1)))):=h_ (by rw[G.u];simpa [ui] using i);have C:=h_ ((D.alloc (by omega) (.cells #[J6 M] 3)).grown h (by simp;omega) (fun q' I=>qc8 e I));clear i h k l n o;refine rQ ?_;exact⟨a+1,by omega,by go_num,E,C⟩
  . obtain rfl:a=m.F.length:=by omega
    have ak:¬ (m.F.length:Int)<(m.F.length:Int):=(by omega);go_wp2_with fail;go_ret;exact⟨_,rfl,qgg d (by omega),ad⟩
theorem qq2 (f:Nat->Nat)(n k v:Nat):(ui (lsL f n)).set k (J6 (v:Nat))=ui (lsL (up f k v) n):=by
 unfold ui lsL;rw[List.map_map,List.map_map];exact kdy (fun a:Nat=>J6 ((a:Nat):Int)) f n k v
theorem qsp (f:Nat->Nat)(k:Nat):up f k (f k)=f:=by
 funext i
 unfold up;split
 . rename_i h;rw[h]
 . rfl
def adB:To->Nat
 | some x=>x.block
 | none=>0
def khK (F:Nat->Nat->Bool)(N n:Nat)(g:Nat)(w:Tw):Nat:=kcI F N n fun k=>(intOf ((w.cell? ⟨g,k,none⟩).getD undef)).toNat
theorem qrd {F:Nat->Nat->Bool}{N base c:Nat}(b:w.ownsRow base 3 1 (.slice a n c) n (ui (lsL f n))):khK F N n (adB a) w=kcI F N n f:=by
 unfold khK kcI
 congr 1
 refine Zm fun e d=>?_;obtain⟨h,rfl,-,g⟩:=qru b (Yu.1 d);dsimp only[adB];rw[g];show rkL F N (((f e:Nat):Int).toNat)=_;rw[Int.toNat_natCast]
def bN:Value->Nat
 | .bool true=>1
 | _=>0
theorem q1d (m:Fm)(A:MA)(b n d:Nat)(F:Nat->Nat->Bool)(jn:Nat->Nat->Nat)(Z:Nat->Int)(E r G:To)(c1 c2 c3:Nat)(top:Int)(w:Tw)(f:VfA m)(x:kbe m)(h:kb4 n (fun e b=>F e b=true) jn d)(i:m.L.length=n)(hn:n<=32)(s:∀e b,e<n->b<n->Z (e*n+b)=((jn e b:Nat):Int))(t:MSl w m A)(y:kbR w b (kaa m))(k:kbx w r (n*n) Z) :
 Calls prog 97 #[wV m A b,.agg (Ji n E (n*n) c1 r c2 G c3 (d:Int) top)] w fun aM a=>∃aC g,aM=.returned aC/\a.ownsRow w.heap.size 3 1 aC m.F.length (ui (lsL g m.F.length))/\Sol m n (fun e b=>F e b=true) g/\Low m n (fun e b=>F e b=true) g/\Bw w a:=by
 obtain⟨HV,J⟩:=oB f h;have q:=h_ fun (c:Tw) (j:MSl c m A)=>q10 m A b d c f j;have ag:=h_ fun (c:Tw) (a v l:Nat) (g:Nat->Nat) (u:To) (z:∀a,a<m.F.length->g a<n) (hk:a<m.F.length) (j:MSl c m A) (C:kbR c b (kaa m)) (B:kbx c r (n*n) Z) o=>q3v m A b a n d v l g _ jn Z E r G u c1 c2 c3 top c f x h hn s z hk j C B o;obtain⟨o,l⟩:=oB (qi3 h f.lba i) (qdr h f i);obtain⟨HS,HM,HI⟩:=oC t y k;have ba:=f.nf;obtain⟨al,ac,ap,ad,ar,ae,af,aa,aY⟩:=A;unfold wV at q ag⊢;dsimp only at q ag⊢;clear t y k f x h i s;obtain⟨B,C⟩:=oB ((Blk.new w 121 #[.slice al m.L.length ac,.slice ap m.P.length ad,.slice ar m.R.length ae,.slice af m.F.length aa,.map (some b)]).alloc (.cells (Ji n E (n*n) c1 r c2 G c3 (d:Int) top) 123)) (Blk.new (w.alloc (.cells #[.slice al m.L.length ac,.slice ap m.P.length ad,.slice ar m.R.length ae,.slice af m.F.length aa,.map (some b)] 121)) 123 (Ji n E (n*n) c1 r c2 G c3 (d:Int) top));rw[Yp]at C;have y:=h_ (((bR w.heap.size w).alloc (nR _) (.cells #[.slice al m.L.length ac,.slice ap m.P.length ad,.slice ar m.R.length ae,.slice af m.F.length aa,.map (some b)] 121)).alloc (by simp) (.cells (Ji n E (n*n) c1 r c2 G c3 (d:Int) top) 123));obtain⟨W0,f⟩:=Nq ((w.alloc (.cells #[.slice al m.L.length ac,.slice ap m.P.length ad,.slice ar m.R.length ae,.slice af m.F.length aa,.map (some b)] 121)).alloc (.cells (Ji n E (n*n) c1 r c2 G c3 (d:Int) top) 123));have aL:W0.heap.size=w.heap.size+2:=by rw[<- f];simp
 rw[f]at B C y;obtain⟨Q,S,T,U,V⟩:=kaG B;have M:=C.cell 4;simp only[Yf,Yz]at M;go_enter func97,ntmps97;go_wp2_with fail
 try rw[f]
 refine(q W0 (HS.mono y)).mono ?_;rintro aM W1 ⟨aC,rfl,j,c⟩;rw[aL]at j;rw[Bw,aL]at c;replace B:=h_ (B.mono c (by omega));replace C:=h_ (C.mono c (by omega));replace y:=h_ (y.trans (c.mono (by omega)));have bb:w.heap.size+2<=W1.heap.size:=by have:=c.size;omega
 obtain⟨u,v,s⟩:=qgr j;rw[s]at j;subst s;have k:=h_ j;clear j c f Q S T U V M q;go_wp2_with fail;go_loopw [6] (fun f wr=>∃(h:Bool) (g:Nat->Nat),f=.bool h/\wr.ownsRow (w.heap.size+2) 3 1 (.slice u m.F.length v) m.F.length (ui (lsL g m.F.length))/\Way m n (fun e b=>F e b=true) g/\Asc m (fun e b=>F e b=true) jn d g/\(h=false->Sol m n (fun e b=>F e b=true) g)/\Below (w.heap.size+2) W1 wr) (fun f wr=>2*(m.F.length*n - khK F n m.F.length (adB u) wr)+bN f)
 case atStart=>exact⟨true,_,rfl,k,o,l,(fun c=>by cases c),bR _ _⟩
 case round =>
  clear k o l;obtain⟨h,g,rfl,j,H,D,K,o⟩:=hrel;obtain⟨k,i,x,l,aG⟩:=oG j H D o (qrd (F:=F) (N:=n) j);clear j H D o;cases h
  . obtain⟨O,t⟩:=oB (K rfl) i.low
    obtain⟨z,I⟩:=oB (y.trans (l.mono (by omega))) (qgg k (show w.heap.size<=w.heap.size+2 by omega));clear K;go_wp2_with fail;go_ret
    first | exact⟨_,g,rfl,I,O,t,z⟩ | exact⟨_,rfl,g,I,O,t,z⟩
  . have X:=h_ (B.mono l (by omega))
    obtain⟨Q,S,T,U,V⟩:=kaG X;obtain⟨t,I⟩:=Nq (kcI F n m.F.length g);have O:=h_ I;rw[I]at aG;clear K I;go_wp2_with fail;clear Q S T U V;go_loopw [6,19] (fun f I K=>∃(a:Nat) (h:Bool) (c:Nat->Nat),a<=m.F.length/\f=.bool h/\I=J6 a/\K.ownsRow (w.heap.size+2) 3 1 (.slice u m.F.length v) m.F.length (ui (lsL c m.F.length))/\Way m n (fun e b=>F e b=true) c/\Asc m (fun e b=>F e b=true) jn d c/\t<=kcI F n m.F.length c/\(h=true->t+1<=kcI F n m.F.length c)/\(h=false->∀f,f<a->(fAt m f).lb<0->rdV m jn d c f=c f)/\Below (w.heap.size+2) W1 K) (fun _ I _=>m.F.length - (intOf I).toNat)
    case atStart=>exact⟨0,false,g,nZ _,rfl,rfl,k,i,x,by rw[O.u];exact nR _,(fun c=>by cases c),(fun _ f c=>absurd c (nL _)),l⟩
    case round =>
     clear k i x l O X;obtain⟨a,h,c,hk,rfl,rfl,j,H,D,K,O,I,o⟩:=hrel;obtain⟨k,i,x,Y,ao,q⟩:=oF j H D K O I;obtain⟨l,z⟩:=oB o (y.trans (o.mono (by omega)));have be:W1.heap.size<=wr.heap.size:=o.size;clear j H D K O I o;by_cases o:a<m.F.length
     . have a0:(a:Int)<m.F.length:=by omega
       obtain⟨X,aW,aI,aU,aR⟩:=oG (B.mono l (by omega)) (C.mono l (by omega)) (HS.mono z) (HM.mono z) (HI.mono z);obtain⟨pb,po,K,⟨-,z0,z1,z2,z3,z4,z5,z6,z7,z8⟩,-⟩:=aI.f a o;dsimp only at K z3 z4 z5 z6 z8;subst K;have aE:Hi (fAt m a=m.F[a]):=h_ (qoe o);generalize m.F[a]=I at *;generalize aY a=fa at *;obtain⟨ub,aw,ay,az,uh,ax,uv,aB,uu,aA⟩:=fa;dsimp only at z3 z4 z5 z6 z8;have aF:=h_ (Blk.new wr 92 (Ja I ub aw ay az uh ax uv aB uu aA));have j:=(bR wr.heap.size wr).alloc (nR _) (.cells (Ja I ub aw ay az uh ax uv aB uu aA) 92);obtain⟨Wd,O⟩:=Nq (wr.alloc (.cells (Ja I ub aw ay az uh ax uv aB uu aA) 92));rw[O]at aF j;have aD:=h_ (l.trans (j.mono (by omega)));have aS:=mB X j;have D:=mB aW j;obtain⟨aX,aT,aQ,am⟩:=oD (aI.mono j) (aU.mono j) (aR.mono j) (qgh k j);have bd:wr.heap.size<=Wd.heap.size:=j.size;clear j;obtain⟨x0,x1,x2,x3,x4,x5,x6,x7,x8⟩:=kaU aF;by_cases aK:I.lb<0
       . have a6:¬ (0:Int)<=I.lb:=by omega
         have aN:Hi ((fAt m a).lb<0):=h_ (by rw[aE.u];exact aK);have W:=h_ (ag Wd a v (w.heap.size+2) c u i.lt o aX aT aQ am);obtain⟨j,aJ,H⟩:=qoz J HV i x o aN;obtain⟨ah,ai,a7⟩:=oC j aJ H;have bc:=(kca J HV i.lt o).2;have aH:=h_ (ql9 (F:=F) J i.lt j.lt H);have aV:Hi (c a≠rdV m jn d c a->kcI F n m.F.length c<kcI F n m.F.length (up c a (rdV m jn d c a))):=h_ fun a4=>kfp (F:=F) J i.lt j.lt H o (by rw[ka2];exact a4);have a9:=i.lt a o;obtain⟨Q,S,T,U,V⟩:=kaG aS;have q0:=D.cell 0;have q1:=D.cell 1;have q2:=D.cell 2;have q3:=D.cell 3;have M:=D.cell 4;have q5:=D.cell 5;simp only[Yf,Yz]at q0 q1 q2 q3 M q5;clear j aJ H;go_wp2_with fail
         try rw[O]
         refine cQ W fun W2 j=>?_;have aj:=h_ (qgh am j);have aO:=h_ (aD.trans (j.mono (by omega)));clear j O W x0 x1 x2 x3 x4 x5 x6 x7 x8 Q S T U V q0 q1 q2 q3 M q5 z0 z1 z2 z3 z4 z5 z6 z7 z8;obtain⟨au,s,a8,zk⟩:=qru aj o;obtain⟨g',e6,aZ,-⟩:=qkw aj o;rw[s]at e6;cases e6;have j:=h_ (by have H:=aj.u;rw[s]at H;exact H:Hi (W2.ownsRow (w.heap.size+2) 3 1 (.slice (some ⟨au,0,none⟩) m.F.length v) m.F.length (ui (lsL c m.F.length))));have fk:=(u_ j).frozenAt a;have ak:Hi ((W2.setCell ⟨au,a,none⟩ (J6 (rdV m jn d c a:Nat))).ownsRow (w.heap.size+2) 3 1 (.slice u m.F.length v) m.F.length (ui (lsL (up c a (rdV m jn d c a)) m.F.length))):=h_ (by
          have H:=((u_ j).stored a (J6 (rdV m jn d c a:Nat))).1;rw[qq2]at H;rw[s];exact H)
         have V:=h_ (aO.setCell (p:=⟨au,a,none⟩) aZ (J6 (rdV m jn d c a:Nat)));have Q:n*n<=1024:=(by have:=Nat.mul_le_mul hn hn;omega);have M:=h_ s;have an:Hi (t<=kcI F n m.F.length (up c a (rdV m jn d c a))):=h_ (Y5 Y aH);clear j M Q;have T:Hi (h=false->rdV m jn d c a=c a->∀f,f<a+1->(fAt m f).lb<0->rdV m jn d (up c a (rdV m jn d c a)) f=up c a (rdV m jn d c a) f):=h_ fun j M f U Q=>by
          rw[M,qsp];by_cases ek:f=a
          . subst ek;exact M
          . exact q j f (by omega) Q
         subst s;generalize rdV m jn d c a=vv at *;cases h
         . by_cases S:vv=c a
           . have av:(((vv:Nat):Int) != ((c a:Nat):Int))=false:=by rw[S];simp
             have aP:=h_ (T rfl S);clear S T;generalize c a=U at zk av;refine rQ ?_;exact⟨a+1,false,_,by omega,rfl,by go_num,ak,ah,ai,an,(fun c=>by cases c),(fun _=>aP),V⟩
           . have av:(((vv:Nat):Int) != ((c a:Nat):Int))=true:=by simp;omega
             have aq:Hi (t+1<=kcI F n m.F.length (up c a vv)):=h_ (by have H:=aV (fun j=>S j.symm);have h2:=Y.u;omega);clear S T;generalize c a=U at zk av;refine rQ ?_;exact⟨a+1,true,_,by omega,rfl,by go_num,ak,ah,ai,an,(fun _=>aq),(fun c=>by cases c),V⟩
         . have aq:Hi (t+1<=kcI F n m.F.length (up c a vv)):=h_ (Y5 (ao rfl) aH)
           clear T;generalize c a=U at zk;refine rQ ?_;exact⟨a+1,true,_,by omega,rfl,by go_num,ak,ah,ai,an,(fun _=>aq),(fun c=>by cases c),V⟩
       . have a6:(0:Int)<=I.lb:=by omega
         have W:Hi (h=false->∀f,f<a+1->(fAt m f).lb<0->rdV m jn d c f=c f):=h_ fun j f U Q=>by
          by_cases ek:f=a
          . subst ek;rw[aE.u]at Q;exact absurd Q aK
          . exact q j f (by omega) Q
         go_wp2_with fail
         try rw[O]
         clear O;go_roundw
         case rel=>exact⟨a+1,h,c,by omega,rfl,by go_num,am,i,x,Y,ao,W,aD⟩
         case measure=>simp[intOf];omega
     . obtain rfl:a=m.F.length:=by omega
       have a0:¬ (m.F.length:Int)<(m.F.length:Int):=(by omega);have D:=h_ (qrd (F:=F) (N:=n) k);have O:=kfo F n m.F.length c;have H:Hi (h=false->Sol m n (fun e b=>F e b=true) c):=h_ fun j=>kgT J HV i (q j);go_wp2_with fail;go_roundw
       case rel=>exact⟨h,c,rfl,k,i,x,H,l⟩
       case measure =>
        have K:=D.u;have M:=aG.u;have I:=Y.u;have j:=ao.u;generalize kcI F n m.F.length c=f at *;generalize m.F.length*n=e at *
        first | rw[K,M] | (simp only[] ;rw[K,M])
        cases h
        . show 2*(e - f)+0<2*(e - t)+1
          omega
        . have:=j rfl
          show 2*(e - f)+1<2*(e - t)+1;omega
def pr1 (m:Fm)(k:Nat):Int:=(m.P.getD k (0,0)).1
def pr2 (m:Fm)(k:Nat):Int:=(m.P.getD k (0,0)).2
theorem qr7 {A:MA}(a:MSl w m A):kbB w A.p m.P.length (pr1 m) (pr2 m):=ql1 a.p
theorem q8f (m:Fm)(A:MA)(w:Tw)(o:kbe m) :
 Gv 88 #[mV m A] w (.agg (Jn m.L.length A.p m.P.length A.pc)):=by
 obtain⟨f,g,a,b,ar,h,d,e,r⟩:=A;unfold mV;dsimp only;have u:=o.ll;obtain⟨j,c⟩:=oB ((Blk.new w 37 (Jb f m g a b ar h d e)).alloc (.cells #[J6 0,J7] 162)) (Blk.new (w.alloc (.cells (Jb f m g a b ar h d e) 37)) 162 #[J6 0,J7]);rw[Yp]at c;have i:=h_ (((bR w.heap.size w).alloc (nR _) (.cells (Jb f m g a b ar h d e) 37)).alloc (by simp) (.cells #[J6 0,J7] 162));obtain⟨q,n⟩:=Nq ((w.alloc (.cells (Jb f m g a b ar h d e) 37)).alloc (.cells #[J6 0,J7] 162));rw[n]at j c i;obtain⟨B,C,D,E⟩:=kaf j;obtain⟨⟨y,z⟩,⟨s,t⟩⟩:=kcs c;have k:=h_ ((c.set 0 (J6 m.L.length)).set 1 (.slice a m.P.length b));simp only[Ya,Yb]at k;have l:=h_ ((i.setCell (p:=⟨w.heap.size+1,0,none⟩) (by simp) (J6 m.L.length)).setCell (p:=⟨w.heap.size+1,1,none⟩) (by simp) (.slice a m.P.length b));go_enter func88,ntmps88;go_wp2_with fail;obtain⟨v,x⟩:=(kcs k).1;exact bQ ⟨rfl,l⟩
def kcc (m:Fm)(n:Nat)(F:Nat->Bool)(f:Nat->Nat)(k:Nat):Prop:=0<=(fAt m k).lb/\∃j,j<m.F.length/\kcY m j k=true/\F (f j*n+f k)=false
theorem qe2 {w':Tw}{p:Addr}(b:Bw w w')(a:w.cell? p=some v):w'.cell? p=some v:=(b.cell (World.block_lt_of_cell? _ _ a)).trans a
