import Derived.Test.YtenckgnkjkijnaaGreatDoorW25
set_option maxRecDepth 100000
set_option maxHeartbeats 64000000
namespace Go.Proofs.YtenckgnkjkijnaaGreatDoor
open Go Go.RowKit Go.Proofs.Tryz
variable {w:Tw}{n k:Nat}{v u:Value}
theorem q4t {base g:Nat}{xs:Tl}(b:w.ownsRow base k 2 (.slice (some ⟨g,0,none⟩) n n) n xs):Blk w g k xs/\xs.length=n*2:=by
 refine⟨?_,b.1⟩;rcases b.2 with ⟨a,_⟩ | ⟨h,e,f,a,_,d,_,_,i,c⟩
 . simp at a
 . simp only[Value.slice.injEq,Vk,Addr.mk.injEq,and_true,true_and]at a
   obtain⟨rfl,rfl⟩:=a;rw[Yy (by simp;omega)]at c;rw[<- c];simpa [Blk] using d
def kds (w:Tw)(b o:Nat)(v0 v1:Value):Prop:=b<w.heap.size/\w.cell? ⟨b,o,none⟩=some v0/\w.cell? ⟨b,o+1,none⟩=some v1
theorem kds.mono {w':Tw}{b o:Nat}(a:kds w b o v u)(c:Below w.heap.size w w'):kds w' b o v u:=⟨Yn a.1 c.size,(c.cell a.1).trans a.2.1,(c.cell a.1).trans a.2.2⟩
theorem qd8 (u:(Int × Int))(w:Tw):Calls prog 63 #[.agg (Jr u.1 u.2)] w fun a b=>a=.returned (.agg (Jr u.1 u.2))/\Below w.heap.size w b:=by
 go_enter func63,ntmps63;go_wp2_with fail;refine bQ ⟨rfl,?_⟩;exact(((bR _ _).alloc (nR _) _).alloc (by simp) _).alloc (by simp;omega) _
theorem qax:(prog.info? 113).map (fun a=>(a.zero,a.size,a.bytes))=some (some (.agg Jm),2,16):=by kernel_rfl
theorem qd7 (a:To)(l:List (Int × Int))(c:Nat)(w:Tw)(H:Prs w a l)(hn:l.length<=1048576) :
 Calls prog 32 #[.slice a l.length c] w fun d b=>d=.returned (.slice (some ⟨w.heap.size,0,none⟩) l.length l.length)/\Prs b (some ⟨w.heap.size,0,none⟩) l/\Bk b w.heap.size 113 (l.length*2)/\Below w.heap.size w b:=by
 obtain⟨x,N,S,T,U⟩:=info_parts qax;obtain⟨i,r⟩:=Nq w.heap.size;have J:x.bytes*l.length<=281474976710656:=by rw[U];omega
 have z:=h_ H;go_enter func32,ntmps32;go_wp2_with (at_make;refine wpList_make_full _ rfl _ _ 33 rfl w.heap.size 113 x _ 2 underlying33 N S T .i64 .i64 _ _ l.length rfl rfl rfl rfl J (by unfold maxLen;omega) (nR _) ?_;intro V u M);have I:Below i w V:=by rw[<- r];exact(bR _ _).grown M (nR _) (fun b g=>by cases g)
 rw[r]at u;obtain⟨j,k⟩:=q4t u;obtain⟨e,f,A⟩:=oC j k I;go_wp2_with fail;go_loopw [4] (fun n wr=>∃(b:Nat) (h:Tl),b<=l.length/\n=J6 b/\Blk wr i 113 h/\h.length=l.length*2/\(∀d (g:d<l.length),d<b->h[d*2]? = some (J6 l[d].1)/\h[d*2+1]? = some (J6 l[d].2))/\Below i w wr) (fun n _=>l.length - (intOf n).toNat)
 case atStart=>exact⟨0,_,nZ _,rfl,e,f,fun d _ g=>absurd g (nL _),A⟩
 case round =>
  obtain⟨b,h,Z,rfl,j,k,R,s⟩:=hrel;obtain⟨e,f,q,p,D⟩:=oG j k R s (z.mono (s.mono (by omega)));by_cases P:b<l.length
  . have Q:(b:Int)<l.length:=by omega
    obtain⟨W,o1,rfl,aa,K,L⟩:=D b P;obtain⟨o,v⟩:=Nq (l[b]);rw[v]at K L;have C:=h_ v;go_wp2_with fail;refine cQ (qd8 o _) fun w3 t=>?_;have g:=e.mono t e.lt;have y:=p.trans (t.mono (by have:=e.lt;omega));have F:=g.cell (b*2);have c1:=g.cell (b*2+1);have X:=g.free (b*2);have Y:=g.free (b*2+1);rw[Yg (by have:=f.u;omega)]at F c1;obtain⟨E,B⟩:=oB g y;go_wp2_with fail;go_roundw
    case rel =>
     refine⟨b+1,_,by omega,by go_num,(E.set (b*2) (J6 o.1)).set (b*2+1) (J6 o.2),by simpa using f.u,fun d O m=>?_,(B.setCell (nR _) _).setCell (nR _) _⟩;have ac:=f.u;by_cases G:d=b
     . subst G
       rw[C.u];simp[List.getElem?_set];omega
     . have:=q d O (by omega)
       simp only[Zx]
       (repeat rw[Yl (by omega)])
       exact this
    case measure=>simp[intOf];omega
  . obtain rfl:b=l.length:=by omega
    have Q:¬ (l.length:Int)<(l.length:Int):=(by omega);go_wp2_with fail;go_ret;refine⟨rfl,?_,⟨_,e,f⟩,p⟩;intro d m;have:=q d m m;exact⟨i,0,rfl,e.lt,by rw[Y3,e.u.cell];exact this.1,by rw[Y3,e.u.cell];exact this.2⟩
theorem qam (u:(Int × Int))(w:Tw):Calls prog 71 #[.agg (Jr u.1 u.2),.agg (Jr u.1 u.2)] w fun a b=>a=.returned (.bool true)/\Below w.heap.size w b:=by
 have a:=h_ (((bR w.heap.size w).alloc (nR _) (.cells (Jr u.1 u.2) 113)).alloc (by simp) (.cells (Jr u.1 u.2) 113));go_enter func71,ntmps71;go_wp2_with fail;go_ret;exact⟨rfl,a⟩
theorem q54 (a b:To)(l:List (Int × Int))(B C:Nat)(w:Tw)(J:l.length<=1048576)(D:Prs w a l)(E:Prs w b l) :
 Calls prog 41 #[.slice a l.length B,.slice b l.length C] w fun c e=>c=.returned (.bool true)/\Below w.heap.size w e:=by
 obtain⟨y,z⟩:=oB D E;go_enter func41,ntmps41;go_wp2_with fail;go_loopw [5] (fun d wr=>∃c:Nat,c<=l.length/\d=J6 c/\Below w.heap.size w wr) (fun d _=>l.length - (intOf d).toNat)
 case atStart=>exact⟨0,nZ _,rfl,bR _ _⟩
 case round =>
  obtain⟨c,I,rfl,i⟩:=hrel;have o:=h_ i;by_cases r:c<l.length
  . obtain⟨g,j,rfl,G,s,t⟩:=(y.mono i) c r
    obtain⟨h,k,rfl,H,u,v⟩:=(z.mono i) c r;obtain⟨d,F⟩:=Nq (l[c]);rw[F]at s t u v;have p:Hi (kds wr g (j+c*2) (J6 d.1) (J6 d.2)):=h_ ⟨G,s,t⟩;have q:Hi (kds wr h (k+c*2) (J6 d.1) (J6 d.2)):=h_ ⟨H,u,v⟩;have K:(0:Int)<=c:=(by omega);have L:(c:Int)<l.length:=(by omega);go_wp2_with fail;refine wp_region_held_drew (S:=fun e=>kds e g (j+c*2) (J6 d.1) (J6 d.2)/\kds e h (k+c*2) (J6 d.1) (J6 d.2)) (by kernel_rfl) ⟨p,q⟩ (fun e=>?_);refine tkA 0 e ?_;refine tkA 1 e ?_;refine tkA 2 e ?_;refine tkL 3 20 (.agg (Jr d.1 d.2)) e ?_ (hy:=fun w f=>by obtain⟨⟨-,m,n⟩,-⟩:=f;simp[execOp,go_sem,m,n]);refine tkA 4 e ?_;refine tkA 5 e ?_;refine tkA 6 e ?_;refine tkL 7 24 (.agg (Jr d.1 d.2)) e ?_ (hy:=fun w f=>by obtain⟨-,⟨-,m,n⟩⟩:=f;simp[execOp,go_sem,m,n]);refine cyY 8 25 (qam d _) fun x f=>?_;have f:=q36 f;have A:=mT o f;replace e:kds x g (j+c*2) (J6 d.1) (J6 d.2)/\kds x h (k+c*2) (J6 d.1) (J6 d.2):=⟨p.mono f,q.mono f⟩;refine⟨e,?_⟩;refine kaS (by(first | simp only[Ya,Yb] | skip);rfl) (by(first | simp only[Ya,Yb] | skip);rfl) ?_;refine tkL 9 26 (.bool false) e ?_;refine wdQ ?_;refine rQ ?_;exact⟨c+1,by omega,by go_num,A⟩
  . obtain rfl:c=l.length:=by omega
    have d:¬ (l.length:Int)<(l.length:Int):=(by omega);go_wp2_with fail;go_ret;exact⟨rfl,o⟩
theorem qda (u:Rl)(w:Tw):Calls prog 64 #[.agg #[.string u.nm,J6 u.lb]] w fun a b=>a=.returned (.agg #[.string u.nm,J6 u.lb])/\Below w.heap.size w b:=by
 go_enter func64,ntmps64;go_wp2_with fail;refine bQ ⟨rfl,?_⟩;exact(((bR _ _).alloc (nR _) _).alloc (by simp) _).alloc (by simp;omega) _
theorem qay:(prog.info? 116).map (fun a=>(a.zero,a.size,a.bytes))=some (some (.agg #[J8,J6 0]),2,24):=by kernel_rfl
theorem qd9 (a:To)(l:List Rl)(c:Nat)(w:Tw)(H:Rls w a l)(hn:l.length<=1048576) :
 Calls prog 33 #[.slice a l.length c] w fun d b=>d=.returned (.slice (some ⟨w.heap.size,0,none⟩) l.length l.length)/\Rls b (some ⟨w.heap.size,0,none⟩) l/\Bk b w.heap.size 116 (l.length*2)/\Below w.heap.size w b:=by
 obtain⟨x,N,S,T,U⟩:=info_parts qay;obtain⟨i,r⟩:=Nq w.heap.size;have J:x.bytes*l.length<=281474976710656:=by rw[U];omega
 have z:=h_ H;go_enter func33,ntmps33;go_wp2_with (at_make;refine wpList_make_full _ rfl _ _ 34 rfl w.heap.size 116 x _ 2 underlying34 N S T .i64 .i64 _ _ l.length rfl rfl rfl rfl J (by unfold maxLen;omega) (nR _) ?_;intro V u M);have I:Below i w V:=by rw[<- r];exact(bR _ _).grown M (nR _) (fun b g=>by cases g)
 rw[r]at u;obtain⟨j,k⟩:=q4t u;obtain⟨e,f,A⟩:=oC j k I;go_wp2_with fail;go_loopw [4] (fun n wr=>∃(b:Nat) (h:Tl),b<=l.length/\n=J6 b/\Blk wr i 116 h/\h.length=l.length*2/\(∀d (g:d<l.length),d<b->h[d*2]? = some (.string l[d].nm)/\h[d*2+1]? = some (J6 l[d].lb))/\Below i w wr) (fun n _=>l.length - (intOf n).toNat)
 case atStart=>exact⟨0,_,nZ _,rfl,e,f,fun d _ g=>absurd g (nL _),A⟩
 case round =>
  obtain⟨b,h,Z,rfl,j,k,R,s⟩:=hrel;obtain⟨e,f,q,p,D⟩:=oG j k R s (z.mono (s.mono (by omega)));by_cases P:b<l.length
  . have Q:(b:Int)<l.length:=by omega
    obtain⟨W,o1,rfl,aa,K,L⟩:=D b P;obtain⟨o,v⟩:=Nq (l[b]);rw[v]at K L;have C:=h_ v;go_wp2_with fail;refine cQ (qda o _) fun w3 t=>?_;have g:=e.mono t e.lt;have y:=p.trans (t.mono (by have:=e.lt;omega));have F:=g.cell (b*2);have c1:=g.cell (b*2+1);have X:=g.free (b*2);have Y:=g.free (b*2+1);rw[Yg (by have:=f.u;omega)]at F c1;obtain⟨E,B⟩:=oB g y;go_wp2_with fail;go_roundw
    case rel =>
     refine⟨b+1,_,by omega,by go_num,(E.set (b*2) (.string o.nm)).set (b*2+1) (J6 o.lb),by simpa using f.u,fun d O m=>?_,(B.setCell (nR _) _).setCell (nR _) _⟩;have ac:=f.u;by_cases G:d=b
     . subst G
       rw[C.u];simp[List.getElem?_set];omega
     . have:=q d O (by omega)
       simp only[Zx]
       (repeat rw[Yl (by omega)])
       exact this
    case measure=>simp[intOf];omega
  . obtain rfl:b=l.length:=by omega
    have Q:¬ (l.length:Int)<(l.length:Int):=(by omega);go_wp2_with fail;go_ret;refine⟨rfl,?_,⟨_,e,f⟩,p⟩;intro d m;have:=q d m m;exact⟨i,0,rfl,e.lt,by rw[Y3,e.u.cell];exact this.1,by rw[Y3,e.u.cell];exact this.2⟩
theorem qan (u:Rl)(w:Tw):Calls prog 72 #[.agg #[.string u.nm,J6 u.lb],.agg #[.string u.nm,J6 u.lb]] w fun a b=>a=.returned (.bool true)/\Below w.heap.size w b:=by
 have b:(u.nm.toList==u.nm.toList)=true:=by simp
 have a:=h_ (((bR w.heap.size w).alloc (nR _) (.cells #[.string u.nm,J6 u.lb] 116)).alloc (by simp) (.cells #[.string u.nm,J6 u.lb] 116));go_enter func72,ntmps72;go_wp2_with fail;go_ret;exact⟨rfl,a⟩
theorem q55 (a b:To)(l:List Rl)(B C:Nat)(w:Tw)(J:l.length<=1048576)(D:Rls w a l)(E:Rls w b l) :
 Calls prog 42 #[.slice a l.length B,.slice b l.length C] w fun c e=>c=.returned (.bool true)/\Below w.heap.size w e:=by
 obtain⟨y,z⟩:=oB D E;go_enter func42,ntmps42;go_wp2_with fail;go_loopw [5] (fun d wr=>∃c:Nat,c<=l.length/\d=J6 c/\Below w.heap.size w wr) (fun d _=>l.length - (intOf d).toNat)
 case atStart=>exact⟨0,nZ _,rfl,bR _ _⟩
 case round =>
  obtain⟨c,I,rfl,i⟩:=hrel;have o:=h_ i;by_cases r:c<l.length
  . obtain⟨g,j,rfl,G,s,t⟩:=(y.mono i) c r
    obtain⟨h,k,rfl,H,u,v⟩:=(z.mono i) c r;obtain⟨d,F⟩:=Nq (l[c]);rw[F]at s t u v;have p:Hi (kds wr g (j+c*2) (.string d.nm) (J6 d.lb)):=h_ ⟨G,s,t⟩;have q:Hi (kds wr h (k+c*2) (.string d.nm) (J6 d.lb)):=h_ ⟨H,u,v⟩;have K:(0:Int)<=c:=(by omega);have L:(c:Int)<l.length:=(by omega);go_wp2_with fail;refine wp_region_held_drew (S:=fun e=>kds e g (j+c*2) (.string d.nm) (J6 d.lb)/\kds e h (k+c*2) (.string d.nm) (J6 d.lb)) (by kernel_rfl) ⟨p,q⟩ (fun e=>?_);refine tkA 0 e ?_;refine tkA 1 e ?_;refine tkA 2 e ?_;refine tkL 3 20 (.agg #[.string d.nm,J6 d.lb]) e ?_ (hy:=fun w f=>by obtain⟨⟨-,m,n⟩,-⟩:=f;simp[execOp,go_sem,m,n]);refine tkA 4 e ?_;refine tkA 5 e ?_;refine tkA 6 e ?_;refine tkL 7 24 (.agg #[.string d.nm,J6 d.lb]) e ?_ (hy:=fun w f=>by obtain⟨-,⟨-,m,n⟩⟩:=f;simp[execOp,go_sem,m,n]);refine cyY 8 25 (qan d _) fun x f=>?_;have f:=q36 f;have A:=mT o f;replace e:kds x g (j+c*2) (.string d.nm) (J6 d.lb)/\kds x h (k+c*2) (.string d.nm) (J6 d.lb):=⟨p.mono f,q.mono f⟩;refine⟨e,?_⟩;refine kaS (by(first | simp only[Ya,Yb] | skip);rfl) (by(first | simp only[Ya,Yb] | skip);rfl) ?_;refine tkL 9 26 (.bool false) e ?_;refine wdQ ?_;refine rQ ?_;exact⟨c+1,by omega,by go_num,A⟩
  . obtain rfl:c=l.length:=by omega
    have d:¬ (l.length:Int)<(l.length:Int):=(by omega);go_wp2_with fail;go_ret;exact⟨rfl,o⟩
theorem q6q (a:To)(c n:Nat)(b:Int)(w:Tw)(g:0<=b)(h:b<=1048576)(i:n<=9223372036854775807) :
 Calls prog 25 #[.slice a n c,J6 b] w fun e f=>∃d:Int,e=.returned (J6 d)/\(0<=d->d<=1048576/\n<=1048576)/\(d<0->d = -1)/\Below w.heap.size w f:=by
 have f:wrap64 (b - (n:Int))=b - (n:Int):=q6w (by omega) (by omega);by_cases d:(n:Int)<=b
 . have e:¬ b - (n:Int)<0:=by omega
   go_enter func25,ntmps25;go_wp2_with fail;go_ret;exact⟨_,rfl,fun _=>by omega,fun d=>by omega,bR _ _⟩
 . have e:b - (n:Int)<0:=by omega
   go_enter func25,ntmps25;go_wp2_with fail;go_ret;exact⟨_,rfl,fun d=>absurd d (by decide),fun _=>rfl,bR _ _⟩
theorem q9o (a:To)(c n:Nat)(b:Int)(w:Tw)(g:0<=b)(h:b<=1048576)(i:n<=9223372036854775807) :
 Calls prog 84 #[.slice a n c,J6 b] w fun e f=>∃d:Int,e=.returned (J6 d)/\(0<=d->d<=1048576/\n<=1048576)/\(d<0->d = -1)/\Below w.heap.size w f:=by
 have f:wrap64 (b - (n:Int))=b - (n:Int):=q6w (by omega) (by omega);by_cases d:(n:Int)<=b
 . have e:¬ b - (n:Int)<0:=by omega
   go_enter func84,ntmps84;go_wp2_with fail;go_ret;exact⟨_,rfl,fun _=>by omega,fun d=>by omega,bR _ _⟩
 . have e:b - (n:Int)<0:=by omega
   go_enter func84,ntmps84;go_wp2_with fail;go_ret;exact⟨_,rfl,fun d=>absurd d (by decide),fun _=>rfl,bR _ _⟩
theorem qd2 (u:Rl)(a:Int)(w:Tw)(g:u.nm.size<=9223372036854775807)(e:0<=a)(f:a<=1048576) :
 Calls prog 60 #[.agg #[.string u.nm,J6 u.lb],J6 a] w fun c d=>∃b:Int,c=.returned (J6 b)/\(0<=b->b<=1048576)/\(b<0->b = -1)/\Below w.heap.size w d:=by
 have h:wrap64 (a - (u.nm.size:Int))=a - (u.nm.size:Int):=q6w (by omega) (by omega);have c:=h_ ((bR w.heap.size w).alloc (nR _) (.cells #[.string u.nm,J6 u.lb] 104));by_cases b:(u.nm.size:Int)<=a
 . have d:¬ a - (u.nm.size:Int)<0:=by omega
   go_enter func60,ntmps60;go_wp2_with fail;go_ret;exact⟨_,rfl,fun _=>by omega,fun b=>by omega,c⟩
 . have d:a - (u.nm.size:Int)<0:=by omega
   go_enter func60,ntmps60;go_wp2_with fail;go_ret;exact⟨_,rfl,fun b=>absurd b (by decide),fun _=>rfl,c⟩
theorem q6r (a:To)(c:Nat)(l:List Rl)(d:Int)(w:Tw)(J:0<=d)(K:d<=1048576)(M:l.length<=9223372036854775807)(E:∀i,i∈l->i.nm.size<=9223372036854775807)(z:Rls w a l) :
 Calls prog 26 #[.slice a l.length c,J6 d] w fun q b=>∃f:Int,q=.returned (J6 f)/\(0<=f->f<=1048576/\l.length<=1048576)/\(f<0->f = -1)/\Below w.heap.size w b:=by
 obtain⟨r,u⟩:=oB z E;have F:wrap64 (d - (l.length:Int))=d - (l.length:Int):=q6w (by omega) (by omega);by_cases g:(l.length:Int)<=d
 . have o:¬ d - (l.length:Int)<0:=by omega
   obtain⟨e,A⟩:=Nq (d - (l.length:Int));have m:Hi (0<=e/\e<=1048576):=h_ (by omega);have v:Hi (l.length<=1048576):=h_ (by omega);rw[A]at o F;go_enter func26,ntmps26;go_wp2_with fail;go_loopw [1,5] (fun j h wr=>∃(b:Nat) (e:Int),b<=l.length/\h=J6 b/\j=J6 e/\0<=e/\e<=1048576/\Below w.heap.size w wr) (fun _ h _=>l.length - (intOf h).toNat)
   case atStart=>exact⟨0,e,nZ _,rfl,rfl,m.1,m.2,bR _ _⟩
   case round =>
    obtain⟨b,e,L,rfl,rfl,y,n,h⟩:=hrel;obtain⟨j,s⟩:=oB h (r.mono h);by_cases p:b<l.length
    . have B:(b:Int)<l.length:=by omega
      obtain⟨I,O,rfl,-,P,Q⟩:=s b p;have t:=h_ (qd2 l[b] e wr (u _ (Yi p)) y n);generalize l[b]=i at *;go_wp2_with fail;refine t.mono ?_;rintro q H ⟨f,rfl,C,D,h⟩;have k:=mT j h;obtain⟨x,G⟩:=oB C D;by_cases N:f<0
      . go_wp2_with fail
        go_ret;exact⟨_,rfl,fun g=>absurd g (by decide),fun _=>rfl,k⟩
      . refine rQ ?_;exact⟨b+1,f,by omega,by go_num,rfl,by omega,x (by omega),k⟩
    . obtain rfl:b=l.length:=by omega
      have B:¬ (l.length:Int)<(l.length:Int):=(by omega);go_wp2_with fail;go_ret;exact⟨_,rfl,fun _=>⟨n,v⟩,fun g=>by omega,j⟩
 . have o:d - (l.length:Int)<0:=by omega
   go_enter func26,ntmps26;go_wp2_with fail;go_ret;exact⟨_,rfl,fun g=>absurd g (by decide),fun _=>rfl,bR _ _⟩
theorem qg6 {w':Tw}{G:Nat}{d:Nat->Nx}(f:kch w (some ⟨G,0,none⟩) n d)(c:w'.heap[G]? = w.heap[G]?)(o:w'.heap.size=w.heap.size):kch w' (some ⟨G,0,none⟩) n d:=fun b m=>by
 obtain⟨p,q,e,g,h,i,j,k,l⟩:=f b m;cases e;exact⟨G,0,rfl,by rw[o];exact g,(World.cell?_of_block (a:=⟨G,0+b*5,none⟩) c).trans h,(World.cell?_of_block (a:=⟨G,0+b*5+1,none⟩) c).trans i,(World.cell?_of_block (a:=⟨G,0+b*5+2,none⟩) c).trans j,(World.cell?_of_block (a:=⟨G,0+b*5+3,none⟩) c).trans k,(World.cell?_of_block (a:=⟨G,0+b*5+4,none⟩) c).trans l⟩
theorem qfg {w':Tw}{G:Nat}{b:Nat->Int}(e:kbx w (some ⟨G,0,none⟩) n b)(h:w'.heap[G]? = w.heap[G]?)(j:w'.heap.size=w.heap.size):kbx w' (some ⟨G,0,none⟩) n b:=fun c i=>by
 obtain⟨k,l,d,f,g⟩:=e c i;cases d;exact⟨G,0,rfl,by rw[j];exact f,(World.cell?_of_block (a:=⟨G,0+c,none⟩) h).trans g⟩
theorem kch.other {G R:Nat}{a:Nat->Nx}(b:kch w (some ⟨G,0,none⟩) n a)(c:G≠R)(j:Nat)(v:Value):kch (w.setCell ⟨R,j,none⟩ v) (some ⟨G,0,none⟩) n a:=qg6 b (heap_setCell_other w ⟨R,j,none⟩ G v c) (by simp)
theorem kbx.other {G R:Nat}{a:Nat->Int}(b:kbx w (some ⟨G,0,none⟩) n a)(c:G≠R)(j:Nat)(v:Value):kbx (w.setCell ⟨R,j,none⟩ v) (some ⟨G,0,none⟩) n a:=qfg b (heap_setCell_other w ⟨R,j,none⟩ G v c) (by simp)
def kfN (N:Nat)(A:FA):Prop:=∃g1 g2 g3 g4 g5:Nat,A.b=some ⟨g1,0,none⟩/\A.i=some ⟨g2,0,none⟩/\A.h=some ⟨g3,0,none⟩/\A.v=some ⟨g4,0,none⟩/\A.u=some ⟨g5,0,none⟩/\N<=g1/\N<=g2/\N<=g3/\N<=g4/\N<=g5
theorem FSl.keep {w':Tw}{f:Fl}{A:FA}{N:Nat}(n:FSl w f A)(o:kfN N A)(a:∀b,N<=b->w'.heap[b]? = w.heap[b]?)(b:w'.heap.size=w.heap.size):FSl w' f A:=by
 obtain⟨u,v,x,y,z,i,j,k,l,m,p,q,r,s,t⟩:=o;obtain⟨c,d,e,g,h⟩:=n;unfold keQ at c;unfold kb0 at d e g h;rw[i]at c;rw[j]at d;rw[k]at e;rw[l]at g;rw[m]at h;refine⟨?_,?_,?_,?_,?_⟩
 . unfold keQ;rw[i];exact qfg c (a _ p) b
 . unfold kb0;rw[j];exact qg6 d (a _ q) b
 . unfold kb0;rw[k];exact qg6 e (a _ r) b
 . unfold kb0;rw[l];exact qg6 g (a _ s) b
 . unfold kb0;rw[m];exact qg6 h (a _ t) b
structure SmF (f:Fl):Prop where
 b:f.bys.length<=1048576
 i:f.is.length<=1048576
 h:f.wh.length<=1048576
 v:f.va.length<=1048576
 u:f.mu.length<=1048576
def FBk (N:Nat)(w:Tw)(f:Fl)(A:FA):Prop:=∃g1 g2 g3 g4 g5:Nat,A.b=some ⟨g1,0,none⟩/\A.i=some ⟨g2,0,none⟩/\A.h=some ⟨g3,0,none⟩/\A.v=some ⟨g4,0,none⟩/\A.u=some ⟨g5,0,none⟩/\(N<=g1/\N<=g2/\N<=g3/\N<=g4/\N<=g5)/\Bk w g1 3 f.bys.length/\Bk w g2 190 (f.is.length*5)/\Bk w g3 190 (f.wh.length*5)/\Bk w g4 190 (f.va.length*5)/\Bk w g5 190 (f.mu.length*5)
theorem FBk.keep {N:Nat}{w':Tw}{f:Fl}{A:FA}(x:FBk N w f A)(a:∀b,N<=b->b<w.heap.size->w'.heap[b]? = w.heap[b]?):FBk N w' f A:=by
 obtain⟨r,s,t,u,v,m,n,o,p,q,⟨h,i,j,k,l⟩,b,c,d,e,g⟩:=x;exact⟨r,s,t,u,v,m,n,o,p,q,⟨h,i,j,k,l⟩,b.keep (a _ h b.lt),c.keep (a _ i c.lt),d.keep (a _ j d.lt),e.keep (a _ k e.lt),g.keep (a _ l g.lt)⟩
theorem FBk.lower {N:Nat}{f:Fl}{A:FA}(m:FBk N w f A)(o:n<=N):FBk n w f A:=by
 obtain⟨h,i,j,k,l,b,c,d,e,g,⟨p,q,r,s,t⟩,a⟩:=m;exact⟨h,i,j,k,l,b,c,d,e,g,⟨by omega,by omega,by omega,by omega,by omega⟩,a⟩
theorem qd3 (f:Fl)(A:FA)(w:Tw)(l:SmF f)(e:FSl w f A) :
 Calls prog 65 #[fV f A] w fun g d=>∃c,g=.returned (fV f c)/\FSl d f c/\f.bys.length<=c.bc/\kfN w.heap.size c/\FBk w.heap.size d f c/\Below w.heap.size w d:=by
 obtain⟨ab,ad,ai,af,ah,ae,av,aj,au,ag⟩:=A;obtain⟨HA,HN⟩:=oB e l;unfold fV;dsimp only;obtain⟨o,q,j,g⟩:=oD (((Blk.new w 108 (Ja f ab ad ai af ah ae av aj au ag)).alloc (.cells Jo 92)).alloc (.cells (Js f) 92)) ((Blk.new (w.alloc (.cells (Ja f ab ad ai af ah ae av aj au ag) 108)) 92 Jo).alloc (.cells (Js f) 92)) (Blk.new ((w.alloc (.cells (Ja f ab ad ai af ah ae av aj au ag) 108)).alloc (.cells Jo 92)) 92 (Js f)) ((((bR w.heap.size w).alloc (nR _) (.cells (Ja f ab ad ai af ah ae av aj au ag) 108)).alloc (by simp) (.cells Jo 92)).alloc (by simp;omega) (.cells (Js f) 92));simp only[Yp]at q j;obtain⟨V0,c⟩:∃S,((w.alloc (.cells (Ja f ab ad ai af ah ae av aj au ag) 108)).alloc (.cells Jo 92)).alloc (.cells (Js f) 92)=S:=⟨_,rfl⟩;have k:Hi (w.heap.size+3<=V0.heap.size):=h_ (by rw[<- c];simp);rw[c]at o q j g;clear e l;obtain⟨I,J,K,L,M,N,O,P,Q⟩:=kaU o;go_enter func65,ntmps65;go_wp2_with fail
 try rw[c]
 clear c I J K L M N O P Q;refine(qd4 ab (fun c=>f.bys.getD c 0) f.bys.length ad V0 (HA.mono g).b HN.b).mono ?_;rintro ak w1 ⟨rfl,r,c⟩;have y:Bk w1 V0.heap.size 3 f.bys.length:=⟨_,r,by simp[is]⟩;obtain⟨D,m⟩:∃s,V0.heap.size=s:=⟨_,rfl⟩;have ao:w.heap.size+3<=D:=by have:=k.u;omega
 have B:=mB o c;have l:=mB q c;have d:=mB j c;have E:=mT g c;have G:Hi (w.heap.size+3<=w1.heap.size):=h_ (by have:=k.u;have:=c.size;omega);rw[m]at r y⊢;obtain⟨n,e⟩:=oB r.ints y;clear r y c m o q j g k;obtain⟨I,J,K,L,M,N,O,P,Q⟩:=kaU B;obtain⟨V,W,X,Y,Z,o5,o6,o7,o8⟩:=kaU d;have T:=d.free 3;have U:=d.free 7;go_wp2_with fail;obtain⟨o,q,j,g⟩:=oD (B.other (.slice (some ⟨D,0,none⟩) f.bys.length f.bys.length) (a:=⟨w.heap.size+2,3,none⟩) (by simp)) (l.other (.slice (some ⟨D,0,none⟩) f.bys.length f.bys.length) (a:=⟨w.heap.size+2,3,none⟩) (by simp)) (d.set 3 (.slice (some ⟨D,0,none⟩) f.bys.length f.bys.length)) (E.setCell (p:=⟨w.heap.size+2,3,none⟩) (show w.heap.size<=w.heap.size+2 by omega) (.slice (some ⟨D,0,none⟩) f.bys.length f.bys.length));have k:Hi (w.heap.size+3<=(w1.setCell ⟨w.heap.size+2,3,none⟩ (.slice (some ⟨D,0,none⟩) f.bys.length f.bys.length)).heap.size):=h_ (by simpa using G.u);replace n:=h_ (n.other (R:=w.heap.size+2) (by omega) 3 (.slice (some ⟨D,0,none⟩) f.bys.length f.bys.length));replace e:=h_ (e.other (R:=w.heap.size+2) (by omega) 3 (.slice (some ⟨D,0,none⟩) f.bys.length f.bys.length));obtain⟨V1,m⟩:∃S,(w1.setCell ⟨w.heap.size+2,3,none⟩ (.slice (some ⟨D,0,none⟩) f.bys.length f.bys.length))=S:=⟨_,rfl⟩;rw[m]at o q j g k n e;simp only[Ya,Yb]at j
 try rw[m]
 clear m B l d E G I J K L M N O P Q V W X Y Z o5 o6 o7 o8 T U;refine(qd5 ai (nf f.is) f.is.length af V1 (HA.mono g).i HN.i).mono ?_;rintro ak w2 ⟨rfl,r,y,c⟩;obtain⟨z,m⟩:∃s,V1.heap.size=s:=⟨_,rfl⟩;have ap:w.heap.size+3<=z:=by have:=k.u;omega
 have B:=mB o c;have l:=mB q c;have d:=mB j c;have E:=mT g c;have G:Hi (w.heap.size+3<=w2.heap.size):=h_ (by have:=k.u;have:=c.size;omega);replace n:=h_ (n.mono c);replace e:=h_ (e.mono c e.lt);rw[m]at r y⊢;obtain⟨C,x⟩:=oB r y;clear r y c m o q j g k;obtain⟨I,J,K,L,M,N,O,P,Q⟩:=kaU B;obtain⟨V,W,X,Y,Z,o5,o6,o7,o8⟩:=kaU d;have T:=d.free 4;have U:=d.free 7;go_wp2_with fail;obtain⟨o,q,j,g⟩:=oD (B.other (.slice (some ⟨z,0,none⟩) f.is.length f.is.length) (a:=⟨w.heap.size+2,4,none⟩) (by simp)) (l.other (.slice (some ⟨z,0,none⟩) f.is.length f.is.length) (a:=⟨w.heap.size+2,4,none⟩) (by simp)) (d.set 4 (.slice (some ⟨z,0,none⟩) f.is.length f.is.length)) (E.setCell (p:=⟨w.heap.size+2,4,none⟩) (show w.heap.size<=w.heap.size+2 by omega) (.slice (some ⟨z,0,none⟩) f.is.length f.is.length));have k:Hi (w.heap.size+3<=(w2.setCell ⟨w.heap.size+2,4,none⟩ (.slice (some ⟨z,0,none⟩) f.is.length f.is.length)).heap.size):=h_ (by simpa using G.u);replace n:=h_ (n.other (R:=w.heap.size+2) (by omega) 4 (.slice (some ⟨z,0,none⟩) f.is.length f.is.length));replace e:=h_ (e.other (R:=w.heap.size+2) (by omega) 4 (.slice (some ⟨z,0,none⟩) f.is.length f.is.length));replace C:=h_ (C.other (R:=w.heap.size+2) (by omega) 4 (.slice (some ⟨z,0,none⟩) f.is.length f.is.length));replace x:=h_ (x.other (R:=w.heap.size+2) (by omega) 4 (.slice (some ⟨z,0,none⟩) f.is.length f.is.length));obtain⟨V2,m⟩:∃S,(w2.setCell ⟨w.heap.size+2,4,none⟩ (.slice (some ⟨z,0,none⟩) f.is.length f.is.length))=S:=⟨_,rfl⟩;rw[m]at o q j g k n C e x;simp only[Ya,Yb]at j
 try rw[m]
 clear m B l d E G I J K L M N O P Q V W X Y Z o5 o6 o7 o8 T U;refine(qd5 ah (nf f.wh) f.wh.length ae V2 (HA.mono g).h HN.h).mono ?_;rintro ak w3 ⟨rfl,r,y,c⟩;obtain⟨t,m⟩:∃s,V2.heap.size=s:=⟨_,rfl⟩;have aq:w.heap.size+3<=t:=by have:=k.u;omega
 have B:=mB o c;have l:=mB q c;have d:=mB j c;have E:=mT g c;have G:Hi (w.heap.size+3<=w3.heap.size):=h_ (by have:=k.u;have:=c.size;omega);replace n:=h_ (n.mono c);replace e:=h_ (e.mono c e.lt);replace C:=h_ (C.mono c);replace x:=h_ (x.mono c x.lt);rw[m]at r y⊢;obtain⟨H,F⟩:=oB r y;clear r y c m o q j g k;obtain⟨I,J,K,L,M,N,O,P,Q⟩:=kaU B;obtain⟨V,W,X,Y,Z,o5,o6,o7,o8⟩:=kaU d;have T:=d.free 5;have U:=d.free 7;go_wp2_with fail;obtain⟨o,q,j,g⟩:=oD (B.other (.slice (some ⟨t,0,none⟩) f.wh.length f.wh.length) (a:=⟨w.heap.size+2,5,none⟩) (by simp)) (l.other (.slice (some ⟨t,0,none⟩) f.wh.length f.wh.length) (a:=⟨w.heap.size+2,5,none⟩) (by simp)) (d.set 5 (.slice (some ⟨t,0,none⟩) f.wh.length f.wh.length)) (E.setCell (p:=⟨w.heap.size+2,5,none⟩) (show w.heap.size<=w.heap.size+2 by omega) (.slice (some ⟨t,0,none⟩) f.wh.length f.wh.length));have k:Hi (w.heap.size+3<=(w3.setCell ⟨w.heap.size+2,5,none⟩ (.slice (some ⟨t,0,none⟩) f.wh.length f.wh.length)).heap.size):=h_ (by simpa using G.u);replace n:=h_ (n.other (R:=w.heap.size+2) (by omega) 5 (.slice (some ⟨t,0,none⟩) f.wh.length f.wh.length));replace e:=h_ (e.other (R:=w.heap.size+2) (by omega) 5 (.slice (some ⟨t,0,none⟩) f.wh.length f.wh.length));replace C:=h_ (C.other (R:=w.heap.size+2) (by omega) 5 (.slice (some ⟨t,0,none⟩) f.wh.length f.wh.length));replace x:=h_ (x.other (R:=w.heap.size+2) (by omega) 5 (.slice (some ⟨t,0,none⟩) f.wh.length f.wh.length));replace H:=h_ (H.other (R:=w.heap.size+2) (by omega) 5 (.slice (some ⟨t,0,none⟩) f.wh.length f.wh.length));replace F:=h_ (F.other (R:=w.heap.size+2) (by omega) 5 (.slice (some ⟨t,0,none⟩) f.wh.length f.wh.length));obtain⟨V3,m⟩:∃S,(w3.setCell ⟨w.heap.size+2,5,none⟩ (.slice (some ⟨t,0,none⟩) f.wh.length f.wh.length))=S:=⟨_,rfl⟩;rw[m]at o q j g k n C H e x F;simp only[Ya,Yb]at j
 try rw[m]
 clear m B l d E G I J K L M N O P Q V W X Y Z o5 o6 o7 o8 T U;refine(qd5 av (nf f.va) f.va.length aj V3 (HA.mono g).v HN.v).mono ?_;rintro ak w4 ⟨rfl,r,y,c⟩;obtain⟨m,am⟩:∃s,V3.heap.size=s:=⟨_,rfl⟩;have aw:w.heap.size+3<=m:=by have:=k.u;omega
 have B:=mB o c;have l:=mB q c;have d:=mB j c;have E:=mT g c;have G:Hi (w.heap.size+3<=w4.heap.size):=h_ (by have:=k.u;have:=c.size;omega);replace n:=h_ (n.mono c);replace e:=h_ (e.mono c e.lt);replace C:=h_ (C.mono c);replace x:=h_ (x.mono c x.lt);replace H:=h_ (H.mono c);replace F:=h_ (F.mono c F.lt);rw[am]at r y⊢;obtain⟨ac,aa⟩:=oB r y;clear r y c am o q j g k;obtain⟨I,J,K,L,M,N,O,P,Q⟩:=kaU B;obtain⟨V,W,X,Y,Z,o5,o6,o7,o8⟩:=kaU d;have T:=d.free 6;have U:=d.free 7;go_wp2_with fail;obtain⟨o,q,j,g⟩:=oD ((B.other (.slice (some ⟨m,0,none⟩) f.va.length f.va.length) (a:=⟨w.heap.size+2,6,none⟩) (by simp)).other (.string f.sy) (a:=⟨w.heap.size+2,7,none⟩) (by simp)) ((l.other (.slice (some ⟨m,0,none⟩) f.va.length f.va.length) (a:=⟨w.heap.size+2,6,none⟩) (by simp)).other (.string f.sy) (a:=⟨w.heap.size+2,7,none⟩) (by simp)) ((d.set 6 (.slice (some ⟨m,0,none⟩) f.va.length f.va.length)).set 7 (.string f.sy)) ((E.setCell (p:=⟨w.heap.size+2,6,none⟩) (show w.heap.size<=w.heap.size+2 by omega) (.slice (some ⟨m,0,none⟩) f.va.length f.va.length)).setCell (p:=⟨w.heap.size+2,7,none⟩) (show w.heap.size<=w.heap.size+2 by omega) (.string f.sy));have k:Hi (w.heap.size+3<=((w4.setCell ⟨w.heap.size+2,6,none⟩ (.slice (some ⟨m,0,none⟩) f.va.length f.va.length)).setCell ⟨w.heap.size+2,7,none⟩ (.string f.sy)).heap.size):=h_ (by simpa using G.u);replace n:=h_ ((n.other (R:=w.heap.size+2) (by omega) 6 (.slice (some ⟨m,0,none⟩) f.va.length f.va.length)).other (R:=w.heap.size+2) (by omega) 7 (.string f.sy));replace e:=h_ ((e.other (R:=w.heap.size+2) (by omega) 6 (.slice (some ⟨m,0,none⟩) f.va.length f.va.length)).other (R:=w.heap.size+2) (by omega) 7 (.string f.sy));replace C:=h_ ((C.other (R:=w.heap.size+2) (by omega) 6 (.slice (some ⟨m,0,none⟩) f.va.length f.va.length)).other (R:=w.heap.size+2) (by omega) 7 (.string f.sy));replace x:=h_ ((x.other (R:=w.heap.size+2) (by omega) 6 (.slice (some ⟨m,0,none⟩) f.va.length f.va.length)).other (R:=w.heap.size+2) (by omega) 7 (.string f.sy));replace H:=h_ ((H.other (R:=w.heap.size+2) (by omega) 6 (.slice (some ⟨m,0,none⟩) f.va.length f.va.length)).other (R:=w.heap.size+2) (by omega) 7 (.string f.sy));replace F:=h_ ((F.other (R:=w.heap.size+2) (by omega) 6 (.slice (some ⟨m,0,none⟩) f.va.length f.va.length)).other (R:=w.heap.size+2) (by omega) 7 (.string f.sy));replace ac:=h_ ((ac.other (R:=w.heap.size+2) (by omega) 6 (.slice (some ⟨m,0,none⟩) f.va.length f.va.length)).other (R:=w.heap.size+2) (by omega) 7 (.string f.sy));replace aa:=h_ ((aa.other (R:=w.heap.size+2) (by omega) 6 (.slice (some ⟨m,0,none⟩) f.va.length f.va.length)).other (R:=w.heap.size+2) (by omega) 7 (.string f.sy));obtain⟨V4,al⟩:∃S,((w4.setCell ⟨w.heap.size+2,6,none⟩ (.slice (some ⟨m,0,none⟩) f.va.length f.va.length)).setCell ⟨w.heap.size+2,7,none⟩ (.string f.sy))=S:=⟨_,rfl⟩;rw[al]at o q j g k n C H ac e x F aa;simp only[Ya,Yb]at j
 try rw[al]
 clear al B l d E G I J K L M N O P Q V W X Y Z o5 o6 o7 o8 T U;refine(qd5 au (nf f.mu) f.mu.length ag V4 (HA.mono g).u HN.u.u).mono ?_;rintro ak w5 ⟨rfl,r,y,c⟩;obtain⟨S,an⟩:∃s,V4.heap.size=s:=⟨_,rfl⟩;have ax:w.heap.size+3<=S:=by have:=k.u;omega
 have B:=mB o c;have l:=mB q c;have d:=mB j c;have E:=mT g c;have G:Hi (w.heap.size+3<=w5.heap.size):=h_ (by have:=k.u;have:=c.size;omega);replace n:=h_ (n.mono c);replace e:=h_ (e.mono c e.lt);replace C:=h_ (C.mono c);replace x:=h_ (x.mono c x.lt);replace H:=h_ (H.mono c);replace F:=h_ (F.mono c F.lt);replace ac:=h_ (ac.mono c);replace aa:=h_ (aa.mono c aa.lt);rw[an]at r y⊢;obtain⟨az,ay⟩:=oB r y;clear r y c an o q j g k;obtain⟨I,J,K,L,M,N,O,P,Q⟩:=kaU B;obtain⟨V,W,X,Y,Z,o5,o6,o7,o8⟩:=kaU d;have T:=d.free 8;have U:=d.free 7;obtain⟨q,r,y,r3,r4,r5,r6,r7,r8⟩:=kaU l;have s0:=l.free 0;have s1:=l.free 1;have s2:=l.free 2;have s3:=l.free 3;have s4:=l.free 4;have s5:=l.free 5;have s6:=l.free 6;have s7:=l.free 7;have s8:=l.free 8;have k:Hi (∀(g:Tw),(∀s,w.heap.size+3<=s->g.heap[s]? = w5.heap[s]?)->g.heap.size=w5.heap.size->FSl g f ⟨some ⟨D,0,none⟩,f.bys.length,some ⟨z,0,none⟩,f.is.length,some ⟨t,0,none⟩,f.wh.length,some ⟨m,0,none⟩,f.va.length,some ⟨S,0,none⟩,f.mu.length⟩):=h_ fun g c j=>⟨qfg n (c _ ao) j,qg6 C (c _ ap) j,qg6 H (c _ aq) j,qg6 ac (c _ aw) j,qg6 az (c _ ax) j⟩;go_wp2_with fail;refine bQ (v:=.agg #[.string f.nm,J6 f.ty,J6 f.lb,.slice (some ⟨D,0,none⟩) f.bys.length f.bys.length,.slice (some ⟨z,0,none⟩) f.is.length f.is.length,.slice (some ⟨t,0,none⟩) f.wh.length f.wh.length,.slice (some ⟨m,0,none⟩) f.va.length f.va.length,.string f.sy,.slice (some ⟨S,0,none⟩) f.mu.length f.mu.length]) ⟨⟨some ⟨D,0,none⟩,f.bys.length,some ⟨z,0,none⟩,f.is.length,some ⟨t,0,none⟩,f.wh.length,some ⟨m,0,none⟩,f.va.length,some ⟨S,0,none⟩,f.mu.length⟩,rfl,?_,nR _,⟨D,z,t,m,S,rfl,rfl,rfl,rfl,rfl,by omega,by omega,by omega,by omega,by omega⟩,?_,?_⟩
 . refine k _ (fun s j=>?_) (by simp)
   repeat rw[heap_setCell_other _ _ _ _ (by simp;omega)]
 . have o:∀(g:Tw),(∀s,w.heap.size+3<=s->g.heap[s]? = w5.heap[s]?)->FBk w.heap.size g f ⟨some ⟨D,0,none⟩,f.bys.length,some ⟨z,0,none⟩,f.is.length,some ⟨t,0,none⟩,f.wh.length,some ⟨m,0,none⟩,f.va.length,some ⟨S,0,none⟩,f.mu.length⟩:=fun g c=>⟨D,z,t,m,S,rfl,rfl,rfl,rfl,rfl,⟨by omega,by omega,by omega,by omega,by omega⟩,e.keep (c _ ao),x.keep (c _ ap),F.keep (c _ aq),aa.keep (c _ aw),ay.keep (c _ ax)⟩
   refine o _ (fun s j=>?_)
   repeat rw[heap_setCell_other _ _ _ _ (by simp;omega)]
 . repeat refine Below.setCell ?_ (by simp;try omega) _
   exact E
theorem q4u {base g:Nat}{xs:Tl}(b:w.ownsRow base k 9 (.slice (some ⟨g,0,none⟩) n n) n xs):Blk w g k xs/\xs.length=n*9:=by
 refine⟨?_,b.1⟩;rcases b.2 with ⟨a,_⟩ | ⟨h,e,f,a,_,d,_,_,i,c⟩
 . simp at a
 . simp only[Value.slice.injEq,Vk,Addr.mk.injEq,and_true,true_and]at a
   obtain⟨rfl,rfl⟩:=a;rw[Yy (by simp;omega)]at c;rw[<- c];simpa [Blk] using d
theorem qb0:(prog.info? 92).map (fun a=>(a.zero,a.size,a.bytes))=some (some (.agg Jo),9,168):=by kernel_rfl
def khI (xs:Tl)(l:List Fl)(AF:Nat->FA)(k:Nat):Prop:=∀j (h:j<l.length),j<k->xs[j*9]? = some (.string l[j].nm)/\xs[j*9+1]? = some (.int .i64 l[j].ty)/\xs[j*9+2]? = some (.int .i64 l[j].lb)/\xs[j*9+3]? = some (.slice (AF j).b l[j].bys.length (AF j).bc)/\xs[j*9+4]? = some (.slice (AF j).i l[j].is.length (AF j).ic)/\xs[j*9+5]? = some (.slice (AF j).h l[j].wh.length (AF j).hc)/\xs[j*9+6]? = some (.slice (AF j).v l[j].va.length (AF j).vc)/\xs[j*9+7]? = some (.string l[j].sy)/\xs[j*9+8]? = some (.slice (AF j).u l[j].mu.length (AF j).uc)
theorem q9s (a:To)(l:List Fl)(y:Nat->FA)(c:Nat)(w:Tw)(ha:kdn w a l y)(hn:l.length<=1048576)(hs:∀G,G∈l->SmF G) :
 Calls prog 34 #[.slice a l.length c] w fun d e=>∃k,d=.returned (.slice (some ⟨w.heap.size,0,none⟩) l.length l.length)/\kdn e (some ⟨w.heap.size,0,none⟩) l k/\(∀d (h:d<l.length),l[d].bys.length<=(k d).bc/\kfN (w.heap.size+1) (k d)/\FBk (w.heap.size+1) e l[d] (k d))/\Bk e w.heap.size 92 (l.length*9)/\Below w.heap.size w e:=by
 obtain⟨O,hi,ay,az,aA⟩:=info_parts qb0;obtain⟨g,J⟩:=Nq w.heap.size;have aj:O.bytes*l.length<=281474976710656:=by rw[aA];omega
 obtain⟨V,ae⟩:=oB ha hs;go_enter func34,ntmps34;go_wp2_with (at_make;refine wpList_make_full _ rfl _ _ 35 rfl w.heap.size 92 O _ 9 underlying35 hi ay az .i64 .i64 _ _ l.length rfl rfl rfl rfl aj (by unfold maxLen;omega) (nR _) ?_;intro w1 N an);have ag:Below g w w1:=by rw[<- J];exact(bR _ _).grown an (nR _) (fun d h=>by cases h)
 rw[J]at N;obtain⟨m,E⟩:=q4u N;obtain⟨q,t,W⟩:=oC m E ag;go_wp2_with fail;go_loopw [4] (fun f wr=>∃(d:Nat) (D:Tl) (k:Nat->FA),d<=l.length/\f=J6 d/\Blk wr g 92 D/\D.length=l.length*9/\khI D l k d/\(∀e (h:e<l.length),e<d->FSl wr l[e] (k e)/\kfN (g+1) (k e)/\l[e].bys.length<=(k e).bc/\FBk (g+1) wr l[e] (k e))/\Below g w wr) (fun f _=>l.length - (intOf f).toNat)
 case atStart=>exact⟨0,_,y,nZ _,rfl,q,t,fun e _ h=>absurd h (nL _),fun e _ h=>absurd h (nL _),W⟩
 case round =>
  obtain⟨d,D,k,hk,rfl,m,E,hx,aw,K⟩:=hrel;obtain⟨q,t,I,H,p,HV⟩:=oF m E hx K aw (V.mono (K.mono (by omega)));by_cases M:d<l.length
  . have ao:(d:Int)<l.length:=by omega
    obtain⟨b1,o1,rfl,⟨-,z0,z1,z2,P,Q,R,S,z7,T⟩,aq⟩:=HV d M;have z:=h_ (qd3 l[d] (y d) wr (ae _ (Yi M)) aq);obtain⟨j,x⟩:=Nq (l[d]);rw[x]at z0 z1 z2 P Q R S z7 T z;have HU:=h_ x;generalize y d=fa at *;obtain⟨ab,aB,ai,aD,ah,aC,av,aF,au,aE⟩:=fa;unfold fV at z;dsimp only at P Q R S T z;go_wp2_with fail;refine z.mono ?_;rintro G C ⟨f,rfl,ap,ak,al,am,A⟩;have aa:=h_ am;have i:=q.mono A q.lt;have U:=H.trans (A.mono (by have:=q.lt;omega));have c0:=i.cell (d*9);have c1:=i.cell (d*9+1);have c2:=i.cell (d*9+2);have c3:=i.cell (d*9+3);have c4:=i.cell (d*9+4);have c5:=i.cell (d*9+5);have c6:=i.cell (d*9+6);have c7:=i.cell (d*9+7);have c8:=i.cell (d*9+8);have f0:=i.free (d*9);have f1:=i.free (d*9+1);have f2:=i.free (d*9+2);have f3:=i.free (d*9+3);have f4:=i.free (d*9+4);have f5:=i.free (d*9+5);have f6:=i.free (d*9+6);have f7:=i.free (d*9+7);have f8:=i.free (d*9+8);rw[Yg (by have:=t.u;omega)]at c0 c1 c2 c3 c4 c5 c6 c7 c8;obtain⟨af,X,ac,Z,Y⟩:=oG i U ap al ak;have aG:g<wr.heap.size:=q.lt;have ad:Hi (∀e (h:e<l.length),e<d->FSl C l[e] (k e)/\kfN (g+1) (k e)/\l[e].bys.length<=(k e).bc/\FBk (g+1) C l[e] (k e)):=h_ fun e h n=>⟨(p e h n).1.mono A,(p e h n).2.1,(p e h n).2.2.1,(p e h n).2.2.2.keep fun o _ s=>A.block o s⟩;go_wp2_with fail;go_roundw
    case rel =>
     have ax:=t.u;have x:=HU.u;obtain⟨g1,g2,g3,g4,g5,e1,e2,e3,e4,e5,l1,l2,l3,l4,l5⟩:=Z.u;have L:kfN (g+1) f:=⟨g1,g2,g3,g4,g5,e1,e2,e3,e4,e5,by omega,by omega,by omega,by omega,by omega⟩;refine⟨d+1,_,fun e=>if e=d then f else k e,by omega,by go_num,((((((((af.set (d*9) (.string j.nm)).set (d*9+1) (J6 j.ty)).set (d*9+2) (J6 j.lb)).set (d*9+3) (.slice f.b j.bys.length f.bc)).set (d*9+4) (.slice f.i j.is.length f.ic)).set (d*9+5) (.slice f.h j.wh.length f.hc)).set (d*9+6) (.slice f.v j.va.length f.vc)).set (d*9+7) (.string j.sy)).set (d*9+8) (.slice f.u j.mu.length f.uc),by simpa using ax,fun e F n=>?_,fun e F n=>?_,((((((((X.setCell (nR _) _).setCell (nR _) _).setCell (nR _) _).setCell (nR _) _).setCell (nR _) _).setCell (nR _) _).setCell (nR _) _).setCell (nR _) _).setCell (nR _) _⟩
     . by_cases u:e=d
       . subst u
         simp only[Yr];rw[x];simp[List.getElem?_set];omega
       . have:=I e F (by omega)
         simp only[Yl u,Zx]
         (repeat rw[Yl (by omega)])
         exact this
     . have B:∀o,g+1<=o->((((((((((C.setCell ⟨g,d*9,none⟩ (.string j.nm)).setCell ⟨g,d*9+1,none⟩ (J6 j.ty)).setCell ⟨g,d*9+2,none⟩ (J6 j.lb)).setCell ⟨g,d*9+3,none⟩ (.slice f.b j.bys.length f.bc)).setCell ⟨g,d*9+4,none⟩ (.slice f.i j.is.length f.ic)).setCell ⟨g,d*9+5,none⟩ (.slice f.h j.wh.length f.hc)).setCell ⟨g,d*9+6,none⟩ (.slice f.v j.va.length f.vc)).setCell ⟨g,d*9+7,none⟩ (.string j.sy)).setCell ⟨g,d*9+8,none⟩ (.slice f.u j.mu.length f.uc)).heap[o]? = C.heap[o]?):=fun o s=>by
        repeat rw[heap_setCell_other _ _ _ _ (by simp;omega)]
       by_cases u:e=d
       . subst u
         simp only[Yr];rw[x];exact⟨ac.keep L B (by simp),L,Y,(aa.lower (by omega)).keep fun o s _=>B o s⟩
       . simp only[Yl u]
         have r:=ad e F (by omega);exact⟨r.1.keep r.2.1 B (by simp),r.2.1,r.2.2.1,r.2.2.2.keep fun o s _=>B o s⟩
    case measure=>simp[intOf];omega
  . obtain rfl:d=l.length:=by omega
    have ao:¬ (l.length:Int)<(l.length:Int):=(by omega);go_wp2_with fail;go_ret;refine⟨rfl,k,?_,fun e h=>⟨(p e h h).2.2.1,(p e h h).2.1,(p e h h).2.2.2⟩,⟨_,q,t⟩,H⟩;intro e n;obtain⟨r,f,h,i,j,o,s,u,x⟩:=I e n n;have m:=q.u;exact⟨g,0,rfl,⟨m.lt,by rw[Y3,m.cell];exact r,by rw[Y3,m.cell];exact f,by rw[Y3,m.cell];exact h,by rw[Y3,m.cell];exact i,by rw[Y3,m.cell];exact j,by rw[Y3,m.cell];exact o,by rw[Y3,m.cell];exact s,by rw[Y3,m.cell];exact u,by rw[Y3,m.cell];exact x⟩,(p e n n).1⟩
theorem q9n (f:Fl)(A:FA)(j:Int)(w:Tw)(B:kd2 f)(h0:0<=j)(h1:j<=1048576)(ha:FSl w f A) :
 Calls prog 61 #[fV f A,J6 j] w fun l b=>∃a:Int,l=.returned (J6 a)/\(0<=a->a<=1048576/\SmF f)/\(a<0->a = -1)/\Bw w b:=by
 obtain⟨ab,M,P,Q,N,O,T,U,R,S⟩:=A;unfold fV;dsimp only;obtain⟨W,aq,c,a⟩:=nw w 108 (Ja f ab M P Q N O T U R S);obtain⟨e,g⟩:=oB (ha.mono a) B;have ax:=B.nm;have aD:=B.sy;obtain⟨n,o,p,q,r,s,t,x,y⟩:=kaU c;have ao:wrap64 (j - (f.nm.size:Int))=j - (f.nm.size:Int):=q6w (by omega) (by omega);by_cases d:(f.nm.size:Int)<=j
 case neg =>
  have m:j - (f.nm.size:Int)<0:=by omega
  go_enter func61,ntmps61;go_wp2_with fail;go_ret;exact⟨_,rfl,fun d=>absurd d (by decide),fun _=>rfl,a⟩
 have m:¬ j - (f.nm.size:Int)<0:=by omega
 obtain⟨C,am⟩:=Nq (j - (f.nm.size:Int));have g0:0<=C:=by omega
 have g1:C<=1048576:=by omega
 rw[am]at ao m;go_enter func61,ntmps61;go_wp2_with fail;refine(q9o ab M f.bys.length C W g0 g1 g.bl).mono ?_;rintro l X ⟨D,rfl,h,z,b⟩;replace c:=mB c b;replace e:=h_ (e.mono b);replace a:=mT a b;have H:=h_ h;obtain⟨n,o,p,q,r,s,t,x,y⟩:=kaU c;by_cases ay:D<0
 . go_wp2_with fail
   go_ret;exact⟨_,rfl,fun d=>absurd d (by decide),fun _=>rfl,a⟩
 have ag:D<=1048576:=(H (by omega)).1;have aa:f.bys.length<=1048576:=(H (by omega)).2;go_wp2_with fail;refine(q9p P f.is.length Q (nf f.is) D X (by omega) ag g.il g.i e.i).mono ?_;rintro l Y ⟨E,rfl,h,z,b⟩;replace c:=mB c b;replace e:=h_ (e.mono b);replace a:=mT a b;have I:=h_ h;obtain⟨n,o,p,q,r,s,t,x,y⟩:=kaU c;by_cases az:E<0
 . go_wp2_with fail
   go_ret;exact⟨_,rfl,fun d=>absurd d (by decide),fun _=>rfl,a⟩
 have aj:E<=1048576:=(I (by omega)).1;have ac:f.is.length<=1048576:=(I (by omega)).2.1;go_wp2_with fail;refine(q9p N f.wh.length O (nf f.wh) E Y (by omega) aj g.hl g.h e.h).mono ?_;rintro l Z ⟨F,rfl,h,z,b⟩;replace c:=mB c b;replace e:=h_ (e.mono b);replace a:=mT a b;have J:=h_ h;obtain⟨n,o,p,q,r,s,t,x,y⟩:=kaU c;by_cases aA:F<0
 . go_wp2_with fail
   go_ret;exact⟨_,rfl,fun d=>absurd d (by decide),fun _=>rfl,a⟩
 have ak:F<=1048576:=(J (by omega)).1;have ad:f.wh.length<=1048576:=(J (by omega)).2.1;go_wp2_with fail;refine(q9p T f.va.length U (nf f.va) F Z (by omega) ak g.vl g.v e.v).mono ?_;rintro l W4 ⟨k,rfl,h,z,b⟩;replace c:=mB c b;replace e:=h_ (e.mono b);replace a:=mT a b;have K:=h_ h;obtain⟨n,o,p,q,r,s,t,x,y⟩:=kaU c;by_cases aB:k<0
 . go_wp2_with fail
   go_ret;exact⟨_,rfl,fun d=>absurd d (by decide),fun _=>rfl,a⟩
 have aw:k<=1048576:=(K (by omega)).1;have ae:f.va.length<=1048576:=(K (by omega)).2.1;have ap:wrap64 (k - (f.sy.size:Int))=k - (f.sy.size:Int):=q6w (by omega) (by omega);by_cases d:(f.sy.size:Int)<=k
 case neg =>
  have m:k - (f.sy.size:Int)<0:=by omega
  go_wp2_with fail;go_ret;exact⟨_,rfl,fun d=>absurd d (by decide),fun _=>rfl,a⟩
 have m:¬ k - (f.sy.size:Int)<0:=by omega
 obtain⟨G,an⟩:=Nq (k - (f.sy.size:Int));have g5:0<=G:=by omega
 have g6:G<=1048576:=by omega
 rw[an]at ap m;go_wp2_with fail;refine(q9p R f.mu.length S (nf f.mu) G W4 g5 g6 g.ul g.u.u e.u.u).mono ?_;rintro l W6 ⟨V,rfl,h,z,b⟩;replace c:=mB c b;replace e:=h_ (e.mono b);replace a:=mT a b;have L:=h_ h;obtain⟨n,o,p,q,r,s,t,x,y⟩:=kaU c;by_cases aC:V<0
 . go_wp2_with fail
   go_ret;exact⟨_,rfl,fun d=>absurd d (by decide),fun _=>rfl,a⟩
 have al:V<=1048576:=(L (by omega)).1;have af:f.mu.length<=1048576:=(L (by omega)).2.1;go_wp2_with fail;go_ret;exact⟨_,rfl,fun _=>⟨al,aa,ac,ad,ae,af⟩,fun d=>by omega,a⟩
theorem q6p (a:To)(c:Nat)(l:List Fl)(m:Nat->FA)(f:Int)(w:Tw)(h0:0<=f)(h1:f<=1048576)(hm:l.length<=9223372036854775807)(M:∀h,h∈l->kd2 h)(G:kdn w a l m) :
 Calls prog 27 #[.slice a l.length c,J6 f] w fun x b=>∃i:Int,x=.returned (J6 i)/\(0<=i->i<=1048576/\l.length<=1048576/\∀h,h∈l->SmF h)/\(i<0->i = -1)/\Bw w b:=by
 obtain⟨y,A⟩:=oB G M;have O:wrap64 (f - (l.length:Int))=f - (l.length:Int):=q6w (by omega) (by omega);by_cases e:(l.length:Int)<=f
 . have u:¬ f - (l.length:Int)<0:=by omega
   obtain⟨g,I⟩:=Nq (f - (l.length:Int));have r:Hi (0<=g/\g<=1048576):=h_ (by omega);have D:Hi (l.length<=1048576):=h_ (by omega);rw[I]at u O;go_enter func27,ntmps27;go_wp2_with fail;go_loopw [1,5] (fun d j wr=>∃(b:Nat) (g:Int),b<=l.length/\j=J6 b/\d=J6 g/\0<=g/\g<=1048576/\(∀d (e:d<l.length),d<b->SmF l[d])/\Bw w wr) (fun _ j _=>l.length - (intOf j).toNat)
   case atStart=>exact⟨0,g,nZ _,rfl,rfl,r.1,r.2,fun d _ e=>absurd e (nL _),bR _ _⟩
   case round =>
    obtain⟨b,g,hk,rfl,rfl,F,t,H,j⟩:=hrel;obtain⟨o,z,q⟩:=oC j (y.mono j) H;by_cases v:b<l.length
    . have J:(b:Int)<l.length:=by omega
      obtain⟨ad,ag,rfl,⟨-,z0,z1,z2,P,Q,R,S,z7,T⟩,N⟩:=z b v;have n:=h_ (q9n l[b] (m b) g wr (A _ (Yi v)) F t N);have B:Hi (SmF l[b]->∀d (e:d<l.length),d<b+1->SmF l[d]):=h_ fun e d k p=>by
       by_cases p:d=b
       . subst p;exact e
       . exact q d k (by omega)
      generalize l[b]=ae at *;generalize m b=E at *;obtain⟨ab,V,Y,Z,W,X,av,ac,au,aa⟩:=E;unfold fV at n;dsimp only at P Q R S T n;go_wp2_with fail;refine n.mono ?_;rintro x U ⟨i,rfl,K,af,j⟩;have p:=mT o j;have s:=h_ K;by_cases hr:i<0
      . go_wp2_with fail
        go_ret;exact⟨_,rfl,fun e=>absurd e (by decide),fun _=>rfl,p⟩
      . have L:=(s (by omega)).1
        have C:=h_ (B (s (by omega)).2);refine rQ ?_;exact⟨b+1,i,by omega,by go_num,rfl,by omega,L,C,p⟩
    . obtain rfl:b=l.length:=by omega
      have J:¬ (l.length:Int)<(l.length:Int):=(by omega);have i:Hi (∀h,h∈l->SmF h):=h_ fun h h=>by
       obtain⟨d,k,rfl⟩:=Yx.1 h;exact q d k k
      go_wp2_with fail;go_ret;exact⟨_,rfl,fun _=>⟨t,D,i⟩,fun e=>by omega,o⟩
 . have u:f - (l.length:Int)<0:=by omega
   go_enter func27,ntmps27;go_wp2_with fail;go_ret;exact⟨_,rfl,fun e=>absurd e (by decide),fun _=>rfl,bR _ _⟩
theorem q7j (f:Fl)(A Z:FA)(w:Tw)(hf:SmF f)(ha:FSl w f A)(a:FSl w f Z) :
 Gv 73 #[fV f A,fV f Z] w (.bool true):=by
 obtain⟨ab,j,p,q,n,o,t,x,r,s⟩:=A;obtain⟨k,l,B,C,y,z,F,G,D,E⟩:=Z;unfold fV;dsimp only;have hq:(f.nm.toList==f.nm.toList)=true:=by simp
 have af:(f.sy.toList==f.sy.toList)=true:=by simp
 obtain⟨d,c⟩:=oB ((Blk.new w 92 (Ja f ab j p q n o t x r s)).alloc (.cells (Ja f k l B C y z F G D E) 92)) (Blk.new (w.alloc (.cells (Ja f ab j p q n o t x r s) 92)) 92 (Ja f k l B C y z F G D E));rw[Yp]at c;have h:=h_ (((bR w.heap.size w).alloc (nR _) (.cells (Ja f ab j p q n o t x r s) 92)).alloc (by simp) (.cells (Ja f k l B C y z F G D E) 92));obtain⟨W0,ae⟩:=Nq ((w.alloc (.cells (Ja f ab j p q n o t x r s) 92)).alloc (.cells (Ja f k l B C y z F G D E) 92));rw[ae]at d c h;obtain⟨e,g,m⟩:=oC (ha.mono h) (a.mono h) hf;obtain⟨H,I,J,K,L,M,N,O,P⟩:=kaU d;obtain⟨Q,R,S,T,U,V,W,X,Y⟩:=kaU c;have ad:Hi (Gv 107 #[.slice ab f.bys.length j,.slice k f.bys.length l] W0 (.bool true)):=h_ (by
  have ac:=q7k ab k (fun aa=>f.bys.getD aa 0) (fun aa=>f.bys.getD aa 0) f.bys.length j l W0 e.b g.b (by have:=m.b;omega);rw[qcp (fun _ _=>rfl)]at ac;exact ac)
 go_enter func73,ntmps73;go_wp2_with fail;refine cQ ad fun W1 a=>?_;replace d:=mB d a;replace c:=mB c a;replace e:=h_ (e.mono a);replace g:=h_ (g.mono a);replace h:=mT h a;obtain⟨H,I,J,K,L,M,N,O,P⟩:=kaU d;obtain⟨Q,R,S,T,U,V,W,X,Y⟩:=kaU c;go_wp2_with fail;refine cQ (q53 p B (nf f.is) f.is.length q C W1 m.i e.i g.i) fun W2 a=>?_;replace d:=mB d a;replace c:=mB c a;replace e:=h_ (e.mono a);replace g:=h_ (g.mono a);replace h:=mT h a;obtain⟨H,I,J,K,L,M,N,O,P⟩:=kaU d;obtain⟨Q,R,S,T,U,V,W,X,Y⟩:=kaU c;go_wp2_with fail;refine cQ (q53 n y (nf f.wh) f.wh.length o z W2 m.h e.h g.h) fun W3 a=>?_;replace d:=mB d a;replace c:=mB c a;replace e:=h_ (e.mono a);replace g:=h_ (g.mono a);replace h:=mT h a;obtain⟨H,I,J,K,L,M,N,O,P⟩:=kaU d;obtain⟨Q,R,S,T,U,V,W,X,Y⟩:=kaU c;go_wp2_with fail;refine cQ (q53 t F (nf f.va) f.va.length x G W3 m.v e.v g.v) fun W4 a=>?_;replace d:=mB d a;replace c:=mB c a;replace e:=h_ (e.mono a);replace g:=h_ (g.mono a);replace h:=mT h a;obtain⟨H,I,J,K,L,M,N,O,P⟩:=kaU d;obtain⟨Q,R,S,T,U,V,W,X,Y⟩:=kaU c;go_wp2_with fail;refine cQ (q53 r D (nf f.mu) f.mu.length s E W4 m.u.u e.u.u g.u.u) fun W5 a=>?_;replace d:=mB d a;replace c:=mB c a;replace e:=h_ (e.mono a);replace g:=h_ (g.mono a);replace h:=mT h a;obtain⟨H,I,J,K,L,M,N,O,P⟩:=kaU d;obtain⟨Q,R,S,T,U,V,W,X,Y⟩:=kaU c;go_wp2_with fail;go_ret;exact⟨rfl,h⟩
theorem q52 (a b:To)(l:List Fl)(h i:Nat->FA)(ca cb:Nat)(w:Tw)(hn:l.length<=1048576)(hs:∀c,c∈l->SmF c)(ha:kdn w a l h)(hb:kdn w b l i) :
 Gv 43 #[.slice a l.length ca,.slice b l.length cb] w (.bool true):=by
 obtain⟨HA,aa,ad⟩:=oC ha hb hs;go_enter func43,ntmps43;go_wp2_with fail;go_loopw [5] (fun d wr=>∃c:Nat,c<=l.length/\d=J6 c/\Bw w wr) (fun d _=>l.length - (intOf d).toNat)
 case atStart=>exact⟨0,nZ _,rfl,bR _ _⟩
 case round =>
  obtain⟨c,hk,rfl,t⟩:=hrel;have R:=h_ t;by_cases u:c<l.length
  . obtain⟨V,X,rfl,P,S1⟩:=(HA.mono t) c u
    obtain⟨W,Y,rfl,Q,S2⟩:=(aa.mono t) c u;have g:=h_ (fun d (e:Bw wr d)=>q7j l[c] (h c) (i c) d (ad _ (Yi u)) (S1.mono e) (S2.mono e));obtain⟨e,hu⟩:∃d,l[c]=d:=⟨_,rfl⟩;rw[hu]at P Q g;generalize h c=fa at *;generalize i c=fb at *;obtain⟨ab,j,n,o,k,m,r,s,p,q⟩:=fa;obtain⟨F,G,J,K,H,I,N,O,L,M⟩:=fb;unfold fV at g;dsimp only at g;obtain⟨T,U⟩:=oB P Q;have k0:(0:Int)<=c:=(by omega);have k1:(c:Int)<l.length:=(by omega);go_wp2_with fail;refine wp_region_held_drew (S:=fun d=>keu d V (X+c*9) e ⟨ab,j,n,o,k,m,r,s,p,q⟩/\keu d W (Y+c*9) e ⟨F,G,J,K,H,I,N,O,L,M⟩) (by kernel_rfl) ⟨T,U⟩ (fun d=>?_);refine tkA 0 d ?_;refine tkA 1 d ?_;refine tkA 2 d ?_;refine tkL 3 20 (.agg (Ja e ab j n o k m r s p q)) d ?_ (hy:=fun w f=>by obtain⟨⟨-,v,x,y,z,A,B,C,D,E⟩,-⟩:=f;simp[execOp,go_sem,v,x,y,z,A,B,C,D,E]);refine tkA 4 d ?_;refine tkA 5 d ?_;refine tkA 6 d ?_;refine tkL 7 24 (.agg (Ja e F G J K H I N O L M)) d ?_ (hy:=fun w f=>by obtain⟨-,⟨-,v,x,y,z,A,B,C,D,E⟩⟩:=f;simp[execOp,go_sem,v,x,y,z,A,B,C,D,E]);refine cyY 8 25 (g _ (bR _ _).drew) fun Z f=>?_;have f:=q36 f;have ac:=mT R f;replace d:keu Z V (X+c*9) e ⟨ab,j,n,o,k,m,r,s,p,q⟩/\keu Z W (Y+c*9) e ⟨F,G,J,K,H,I,N,O,L,M⟩:=⟨T.mono f,U.mono f⟩;refine⟨d,?_⟩;refine kaS (by(first | simp only[Ya,Yb] | skip);rfl) (by(first | simp only[Ya,Yb] | skip);rfl) ?_;refine tkL 9 26 (.bool false) d ?_;refine wdQ ?_;refine rQ ?_;exact⟨c+1,by omega,by go_num,ac⟩
  . obtain rfl:c=l.length:=by omega
    have d:¬ (l.length:Int)<(l.length:Int):=(by omega);go_wp2_with fail;go_ret;exact⟨rfl,R⟩
