import Derived.Test.YtdlnflnfbcaiiaaGreatDoorW49
set_option linter.all false
set_option maxRecDepth 100000
set_option maxHeartbeats 0
namespace Go.Proofs.YtdlnflnfbcaiiaaGreatDoor
open Value renaming slice->Sl,bool->Bo
open Option renaming none->Nn,some->Sm
open Bool renaming true->Tt,false->Ff
open Go Go.RowKit Go.Proofs.Tryz
structure CL (w:Tw):Prop where
 t:F7 w
 y:B8 w
 b:Q2 w
 g:OA w
def CL.mono {w w':Tw}(h:CL w)(c:Bw w w'):CL w':=⟨h.t.mono c,h.y.mono c,h.b.mono c,h.g.mono c⟩
structure OK (m:Fm)(A1 A2:MA)(X1 X2 X3:Nat)(n:Nat)(G:Nat->Cx)(ca wa:To)(lc:Tl)(la pa:To)(s:Nat)(F:Nat->Bool)(f:Nat->Nat)(w:Tw)(W:Tw):Prop where
 x1:m0 W X1 28 [Sl A1.l m.L.length A1.lc,Sl A1.p m.P.length A1.pc,Sl A1.r m.R.length A1.rc,Sl A1.f m.F.length A1.fc]
 x2:m0 W X2 28 [Sl A2.l m.L.length A2.lc,Sl A2.p m.P.length A2.pc,Sl A2.r m.R.length A2.rc,Sl A2.f m.F.length A2.fc]
 s1:I0 W m A1
 s2:I0 W m A2
 c:yA W ca n G
 v:yA W wa n G
 x3:m0 W X3 37 lc
 l:C8 W la s F
 p:XE W pa (P3 f n)
 e:CL W
 b:Bw w W
section
variable {m:Fm} {A1 A2:MA} {X1 X2 X3 n s:Nat} {G:Nat->Cx} {ca wa la pa:To} {lc:Tl} {F:Nat->Bool} {f:Nat->Nat} {w W W':Tw}
def OK.mono (h:OK m A1 A2 X1 X2 X3 n G ca wa lc la pa s F f w W)(a:Bw W W'):OK m A1 A2 X1 X2 X3 n G ca wa lc la pa s F f w W' :=
 ⟨h.x1.mono a h.x1.lt,h.x2.mono a h.x2.lt,h.s1.mono a,h.s2.mono a,h.c.mono a,h.v.mono a,h.x3.mono a h.x3.lt,h.l.mono a,h.p.mono a,h.e.mono a,h.b.trans (a.mono h.b.size)⟩
end
def qon (k n:Int)(t:Tb)(w:Tw):Gv 11 #[.agg (Jc k n t),.agg (Jc k n t)] w (Bo Tt):=by have l:=h_ λd D=>((bR _ w).alloc (nR _) d).alloc fT D;go_enter func11,ntmps11;go_wp2;go_ret;exact⟨L2 fT,l _ _⟩
def Up (X:Nat)(f:Nat->Nat)(a:To)(c:Nat)(w:Tw)(z:O7 w a X f)(t:CL w)(j:X<=1048576->DP X f) :
 Gv 3 #[.slice a X c] w (.bool true):=by
 by_cases aO:X<=1048576
 case neg =>
  have h1:(1048576:Int)<X:=fP
  go_enter func3,ntmps3;go_wp2;go_ret;exact⟨rfl,bR _ _⟩
 have h1:¬ (1048576:Int)<X:=fP
 obtain⟨m,aq,U,⟨hl,K⟩,hd⟩:=Ry X f aO (j aO);obtain⟨aH,aI⟩:=Nq aq.length;have b:∀k,k<aH->QC (aq.getD k DA):=λk y=>by
  rw[Yr,Yp fP];exact K _ (Yq _)
 obtain⟨aj,he⟩:∃aj:Nat->Vx,(λd=>aq.getD d DA)=aj:=⟨_,rfl⟩;have E:∀k,aq.getD k DA=aj k:=λk=>by rw[<- he]
 obtain⟨n,G,h,d,P⟩:=Cq U.1 (L:=aH) (e:=aj) fP (λk y=>by have:=(b k y).1;rw[E k]at this;omega) (λk y=>by have:=(b k y).2;rw[E k]at this;exact this);have u:=h_ λW (hb:Bw w W)=>hd W a c (z.mono hb);obtain⟨N,I,Hn,i,HF⟩:=oG h d P t U;clear hd h d P t z j U K b E;go_enter func3,ntmps3;go_wp2_with fail;refine(u w (bR _ _)).mono ?_;rintro x T ⟨A1,a1,c1,rfl,t,q,v1,H⟩;rw[aI,he]at v1;have aD:=h_ q;unfold mV;have h:=m0.new T 28 (Jq A1 m);have b:=(bR T.1.size T).alloc (nR _) (.cells (Jq A1 m) 28);obtain⟨W2,l⟩:=Nq (T.alloc (.cells (Jq A1 m) 28));obtain⟨X1,o⟩:∃r,T.1.size=r:=⟨_,rfl⟩;rw[l]at h b;rw[o]at h;obtain⟨Q,j,d,M⟩:=oD h (t.mono b) (v1.mono b) (H.trans (b.mono H.size));have S:=h_ (And.intro l o);clear h b l o t v1 H q;go_wp2_with fail;rw[S.u.1,S.u.2];refine(u W2 M).mono ?_;rintro x W3 ⟨⟨C,D,A,q,ar,P,B,z,ae⟩,a2,c2,rfl,U,Z,v2,E⟩;rw[aI,he]at v2;unfold mV;dsimp only;have Y:=m0.new W3 28 (Jb C m D A q ar P B z);have b:=(bR W3.1.size W3).alloc (nR _) (.cells (Jb C m D A q ar P B z) 28);obtain⟨W4,O⟩:=Nq (W3.alloc (.cells (Jb C m D A q ar P B z) 28));obtain⟨X2,o⟩:∃r,W3.1.size=r:=⟨_,rfl⟩;rw[O]at Y b;rw[o]at Y;have t:=E.trans (b.mono E.size);obtain⟨h,l,V⟩:=oC Y (U.mono b) (v2.mono b);replace Q:=mB Q t;replace j:=h_ (j.mono t);replace d:=h_ (d.mono t);replace M:=mT M t;replace S:=h_ (And.intro O o);have J:=h_ (N W4 ⟨C,D,A,q,ar,P,B,z,ae⟩ a2 c2 l V);unfold mV at J;dsimp only at J;clear Y b O o U v2 E t Z u N;go_wp2_with fail;rw[S.u.1,S.u.2];refine J.mono ?_;rintro x W5 ⟨wa,wc,rfl,u,U⟩;replace Q:=mB Q U;replace h:=mB h U;replace j:=h_ (j.mono U);replace l:=h_ (l.mono U);replace d:=h_ (d.mono U);replace M:=mT M U;have t:=h_ u;replace i:=h_ (i.mono M);replace J:=h_ (I W5 A1 a1 c1 aD j d i.t i.y i.b i.g);unfold mV at J;obtain⟨N,O,y2,y3⟩:=E0 Q;clear u U I S d V;go_wp2_with fail;refine J.mono ?_;rintro x W6 ⟨ca,cc,rfl,u,d⟩;replace Q:=mB Q d;replace h:=mB h d;replace j:=h_ (j.mono d);replace l:=h_ (l.mono d);replace M:=mT M d;replace t:=h_ (t.mono d);replace i:=h_ (i.mono d);have V:=h_ (CR u);clear u d J N O y2 y3;by_cases E:n=0
 case pos =>
  have c2:((n:Int)==0)=true:=beq_iff_eq.2 fP;have c3:((n:Int) != (n:Int))=false:=fT
  clear E;go_wp2;go_ret;exact⟨rfl,M⟩
 obtain⟨ao,U,s,nn,bt,tp,F,a7,a8,Z,top,u,I⟩:=Hn.resolve_left E;clear Hn;subst ao;have c2:((m.F.length:Int)==0)=false:=Yk.2 fP;have c3:((m.F.length:Int) != (m.F.length:Int))=false:=fT
 obtain⟨d,aE⟩:=oB I U;have J:=h_ (I.sp W6 A q (VH l));obtain⟨N,O,y2,y3⟩:=E0 h;clear E I U;go_wp2_with fail;refine J.mono ?_;rintro x I ⟨la,ja,ma,lc,jc,mc,rfl,aK,-,-,U⟩;have E:=m0.new I 37 (Jf (m.L.length:Nat) la s lc ja jc ma mc Z top);have b:=(bR I.1.size I).alloc (nR _) (.cells (Jf (m.L.length:Nat) la s lc ja jc ma mc Z top) 37);obtain⟨z0,z1,z2,z3⟩:=E0 (h.mono (U.trans (b.mono U.size)) h.lt);obtain⟨W8,ay⟩:=Nq (I.alloc (.cells (Jf (m.L.length:Nat) la s lc ja jc ma mc Z top) 37));obtain⟨X3,o⟩:∃r,I.1.size=r:=⟨_,rfl⟩;rw[ay]at E b;rw[o]at E;have r:=U.trans (b.mono U.size);obtain⟨aw,aC⟩:=oB E (aK.mono b);replace Q:=mB Q r;replace h:=mB h r;replace j:=h_ (j.mono r);replace l:=h_ (l.mono r);replace M:=mT M r;replace t:=h_ (t.mono r);replace i:=h_ (i.mono r);replace V:=h_ (V.mono r);replace J:=h_ (d.inf HF.1 ⟨C,D,A,q,ar,P,B,z,ae⟩ W8 l);unfold mV at J;dsimp only at J;have S:=h_ (And.intro ay o);clear N O y2 y3 E b ay o U r aK;go_wp2_with fail;rw[S.u.1,S.u.2];refine J.mono ?_;rintro x W9 ⟨pa,pc,rfl,r,b⟩;have o:Hi (OK m A1 ⟨C,D,A,q,ar,P,B,z,ae⟩ X1 X2 X3 m.F.length G ca wa (Ju (m.L.length:Nat) la s lc ja jc ma mc Z top) la pa s F u w W9):=h_ ⟨Q.mono b Q.lt,h.mono b h.lt,j.mono b,l.mono b,V.mono b,t.mono b,aw.mono b aw.lt,aC.mono b,r,i.mono b,M.trans (b.mono M.size)⟩;clear z0 z1 z2 z3 S J Q h aw j l t V aC i M r b c2 c3;go_wp2;go_loopw [12] (λi wr=>∃r:Nat,r<=m.R.length/\i=Ye r/\OK m A1 ⟨C,D,A,q,ar,P,B,z,ae⟩ X1 X2 X3 m.F.length G ca wa (Ju (m.L.length:Nat) la s lc ja jc ma mc Z top) la pa s F u w wr) (λi _=>m.R.length - (intOf i).toNat)
 case atStart=>exact⟨0,nZ _,rfl,o⟩
 case round =>
  clear o;obtain⟨r,hr,rfl,b⟩:=hrel;have bb:=d.v.nr;obtain⟨N,O,y2,y3⟩:=E0 b.x2;dsimp only at N O y2 y3;have o:=h_ b;by_cases an:r<m.R.length
  case neg =>
   obtain rfl:r=m.R.length:=fP
   have c1:¬ (m.R.length:Int)<(m.R.length:Int):=fP
   clear b;go_wp2;go_ret;exact⟨rfl,o.b⟩
  have c1:(r:Int)<m.R.length:=fP
  have hC:=q7t m A1 nn F u m.F.length cc ca G r wr d.v d.hN d.L.h32 d.s1 (by have:=d.v.nf;omega) (λk y=>IS (aE k y)) (λW h j l V=>d.sheet HF.1 A1 aD W h j l V) b.s1 b.c b.e.t b.e.y b.e.b;rw[show lI m nn F u m.F.length G r=M8 m G (xA m nn F u r) m.F.length by rw[lI,Yz ⟨quw rfl aE.u,fP⟩];rfl]at hC;unfold mV at hC;obtain⟨l,t,M,S⟩:=E0 b.x1;have J:=h_ hC;clear hC b;go_wp2_with fail;refine J.mono ?_;rintro x T ⟨Q,rfl,j,H⟩;obtain⟨ra,rc,rfl,V,-⟩:=q9f j;replace o:=h_ (o.mono H);have h:=h_ V;clear j V H J l t M S N O y2 y3;obtain⟨j,K⟩:=Nq (xA m nn F u r);rw[K]at h⊢;have HG:=h_ K;clear K;go_wp2;go_loopw [14,15,16] (λa r k l=>∃i:Nat,i<=m.F.length/\k=Ye i/\a=Ye (M8 m G j i).length/\r=Ye (DF G i)/\OK m A1 ⟨C,D,A,q,ar,P,B,z,ae⟩ X1 X2 X3 m.F.length G ca wa (Ju (m.L.length:Nat) la s lc ja jc ma mc Z top) la pa s F u w l/\CM l ra (M8 m G j m.F.length)) (λ_ _ k _=>m.F.length - (intOf k).toNat)
  case atStart=>exact⟨0,nZ _,rfl,rfl,rfl,o,h⟩
  case round =>
   clear o h;obtain⟨k,y,rfl,rfl,rfl,b,V⟩:=hrel;obtain⟨av,ai⟩:=oB b V;by_cases aa:k<m.F.length
   case neg =>
    obtain rfl:k=m.F.length:=fP;have aW:¬ (m.F.length:Int)<(m.F.length:Int):=fP;have aZ:(0:Int)<=r:=fP;obtain⟨rb,ro,er,az,-,lz⟩:=b.s2.r r an;dsimp only at er;subst er;obtain⟨ah,am⟩:=ZV d.v an;rw[ah]at lz;obtain⟨O,M⟩:∃t,yC m r=t:=⟨_,rfl⟩;rw[M]at lz am;obtain⟨ad,N⟩:=Nq ((M8 m G j m.F.length).length);obtain⟨Q,H⟩:=Nq (DF G m.F.length);have o:((O:Int)==top)=true->ad=Q:=λh=>by
     rw[<- N,<- H];refine Iq λk y=>?_;rw[<- HG.u,xA,M];have h1:=d.L.ht;rw[beq_iff_eq]at h;obtain rfl:O=tp:=fP;exact(d.L.rows (u k) (d.s1.lt k y)).2.2.1
    have Y:=b.x2;have E:=b.x3;dsimp only at Y;have J:=h_ λW (h:Bw wr W)=>And.intro ((h.cell Y.lt).trans (Y.cell 2)) (And.intro ((h.cell az).trans lz) ((h.cell E.lt).trans (E.cell 5)));simp only[Ym,Yv]at J;rw[N,H];have K:((ad:Int) != (ad:Int))=false:=fT;clear b V Y E lz N H M ah ai;cases hb:((O:Int)==top)
    case' false=>clear o
    case' true =>
     obtain rfl:=o hb
    all_goals
     as_aux_lemma =>
     go_wp2_with fail;have hC:=J.u;refine CB (bR wr.1.size wr) λi=>?_;refine BK 15 ?_
     repeat refine F5 i ?_
     refine T2 ?_;clear hC;refine rQ ?_;exact⟨r+1,fP,fU,av.mono (bR _ _).drew⟩
   have aW:(k:Int)<m.F.length:=fP
   have a9:(0:Int)<=k:=fP
   have aZ:(0:Int)<=r:=fP
   obtain⟨wb,wo,rfl,ac,w0,w1,w2,w3,w4,w5⟩:=b.v k aa;obtain⟨pb,po,rfl,aY,p0⟩:=b.p.at k (by rw[rM];exact aa);rw[OR]at p0;obtain⟨rb,ro,er,az,-,lz⟩:=b.s2.r r an;obtain⟨fb,fo,ef,⟨aU,-,-,-,-,-,-,-,f7,-⟩,-⟩:=b.s2.f k aa;dsimp only at er ef;subst er ef;rw[<- V7 aa]at f7;obtain⟨ah,am⟩:=ZV d.v an;rw[ah]at lz;have ax:=d.hN;have aL:=d.s1.lt k aa;have ao:=d.v.nl;have ba:=d.v.nf;obtain⟨O,M⟩:∃t,yC m r=t:=⟨_,rfl⟩;obtain⟨ag,hd⟩:=Nq (u k);rw[M]at lz am;rw[hd]at p0 aL;obtain⟨o,aM⟩:=Nq (ag*m.L.length+O);obtain⟨aB,hy⟩:=Nq (ag*m.L.length);have a4:aB+m.L.length<=m.L.length*m.L.length:=by
    have:=Zx m.L.length (show ag+1<=m.L.length by omega);rw[Z5,hy]at this;exact this
   have aQ:s=m.L.length*m.L.length:=by rw[ax];exact d.L.l1
   have aT:s<=1024:=by rw[aQ];exact Ok ao ao
   have aN:o<s:=fP
   have a0:IntKind.i64.wrap ((ag:Int)*(m.L.length:Int))=(aB:Int):=by rw[<- hy,IntKind.wrap_i64,<- Zp];omega
   have a3:IntKind.i64.wrap ((aB:Int)+(O:Int))=(o:Int):=by rw[IntKind.wrap_i64];omega
   have aV:(o:Int)<s:=fP
   have a5:(0:Int)<=o:=fP
   obtain⟨lb,lo,rfl,aX,l0⟩:=b.l o aN;have ak:j k=F o:=by rw[<- HG.u,xA,hd,M,<- ax,aM]
   obtain⟨x,hx⟩:=Nq (G k);rw[hx]at w0 w1 w2 w3 w4 w5;obtain⟨K,S⟩:=oB (yR m G j k) (qmz G k);rw[hx,ak]at K;rw[hx]at S;have Y:=b.x2;have E:=b.x3;dsimp only at Y;have hC:∀W,Bw wr W->(W.cell? ⟨wb,wo+k*6,none⟩=some (Ye x.v.k)/\W.cell? ⟨wb,wo+k*6+1,none⟩=some (Ye x.v.n)/\W.cell? ⟨wb,wo+k*6+2,none⟩=some (.string x.v.s)/\W.cell? ⟨wb,wo+k*6+3,none⟩=some (.bool x.rel)/\W.cell? ⟨wb,wo+k*6+4,none⟩=some (.bool x.ok)/\W.cell? ⟨wb,wo+k*6+5,none⟩=some (.bool x.must))/\(W.cell? ⟨X3,0,none⟩=some (Ye (m.L.length:Nat))/\W.cell? ⟨X3,1,none⟩=some (.slice (some ⟨lb,lo,none⟩) s lc)/\W.cell? ⟨X3,5,none⟩=some (Ye top))/\W.cell? ⟨pb,po+k,none⟩=some (Ye ag)/\W.cell? ⟨rb,ro+r*2+1,none⟩=some (Ye O)/\W.cell? ⟨lb,lo+o,none⟩=some (.bool (F o))/\W.cell? ⟨fb,fo+k*9+7,none⟩=some (.string (A0 m k).sy)/\W.cell? ⟨X2,2,none⟩=some (.slice (some ⟨rb,ro,none⟩) m.R.length P)/\W.cell? ⟨X2,3,none⟩=some (.slice (some ⟨fb,fo,none⟩) m.F.length z) :=
    λW h=>⟨⟨(h.cell ac).trans w0,(h.cell ac).trans w1,(h.cell ac).trans w2,(h.cell ac).trans w3,(h.cell ac).trans w4,(h.cell ac).trans w5⟩,⟨(h.cell E.lt).trans (E.cell 0),(h.cell E.lt).trans (E.cell 1),(h.cell E.lt).trans (E.cell 5)⟩,(h.cell aY).trans p0,(h.cell az).trans lz,(h.cell aX).trans l0,(h.cell aU).trans f7,(h.cell Y.lt).trans (Y.cell 2),(h.cell Y.lt).trans (Y.cell 3)⟩
   have J:=h_ hC;obtain⟨t,ht⟩:=Nq ((M8 m G j k).length);obtain⟨Q,H⟩:=Nq (DF G k);have bc:t<=k:=by rw[<- ht];exact Tj m G j k
   have bd:Q<=k:=by rw[<- H];unfold DF;exact Yu (Oj _ _) fT
   rw[ht,H];obtain⟨bF,hF⟩:∃U,F o=U:=⟨_,rfl⟩;rw[hF]at K hC J ak;have U:=h_ ht;have HU:=h_ H;have HH:=h_ hx;have au:=h_ ak;clear ax aL am aT aN ht H hx ak hF hy aM aQ a4 hd M ah b V Y E w0 w1 w2 w4 w5 p0 lz l0 f7 hC;rcases (show x.rel=false∨(x.rel=true/\bF=false)∨(x.rel=true/\bF=true) by cases x.rel <;> cases bF <;> simp) with l | ⟨l,rfl⟩ | ⟨l,rfl⟩
   case' _ =>
    have E:Hi ((M8 m G j (k+1)).length=t):=h_ (by rw[K.u,l];simp[U.u]);have Y:Hi (DF G (k+1)=Q):=h_ (by rw[S.u,l];simp[HU.u])
   rotate_left
   case' _ =>
    have E:Hi ((M8 m G j (k+1)).length=t):=h_ (by rw[K.u,l];simp[U.u]);have Y:Hi (DF G (k+1)=Q+1):=h_ (by rw[S.u,l];simp[HU.u])
   rotate_left
   case _ =>
    as_aux_lemma =>
    have E:Hi ((M8 m G j (k+1)).length=t+1):=h_ (by rw[K.u,l];simp[U.u]);have Y:Hi (DF G (k+1)=Q+1):=h_ (by rw[S.u,l];simp[HU.u]);obtain⟨aA,aJ⟩:=Sq (m:=m) (e:=G) (g:=j) aa (by rw[HH.u,l,au.u];rfl);obtain⟨qb,qo,rfl,H,q0,q1,q2,q3,q4,q5,q6⟩:=ai _ aA;obtain⟨p1,p2,p3⟩:=Rq m x k;obtain⟨bg,M⟩:=Nq (QA m x k);rw[aJ,U.u,HH.u,M]at q0 q1 q2 q3 q4 q5 q6;rw[M]at p1 p2 p3;rw[p1]at q0;rw[p2]at q1 q2 q3;rw[p3]at q4;rw[U.u]at aA;have b:=h_ λW (h:Bw wr W)=>And.intro ((h.cell H).trans q0) (And.intro ((h.cell H).trans q1) (And.intro ((h.cell H).trans q2) (And.intro ((h.cell H).trans q3) (And.intro ((h.cell H).trans q4) (And.intro ((h.cell H).trans q5) ((h.cell H).trans q6))))));obtain⟨ad,N⟩:=Nq ((M8 m G j m.F.length).length);rw[N]at aA⊢;have be:(t:Int)<ad:=fP;have t0:(0:Int)<=t:=fP;have bf:decide (ad<=t)=false:=Yl fP;obtain⟨V,HZ⟩:=oB M N;clear aJ q0 q1 q2 q3 q4 q5 q6 p1 p2 p3 M N;rw[l]at w3;go_wp2_with fail;have hC:=J.u;rw[l]at hC;clear K S U HU au l w3;refine CB (bR wr.1.size wr) λi=>?_;refine BK 25 ?_
    repeat refine F5 i ?_
    refine T2 ?_;clear hC a0 a3 aV a5;have aF:=h_ i;clear i;go_wp2_with fail;have hC:=(λW h=>(J W h).1);have N:=b.u;refine CB aF λi=>?_;refine BK 27 ?_
    repeat refine F5 i ?_
    refine zF 24 131 i (nR _) (qon x.v.k x.v.n x.v.s _) λW6 _ M=>?_
    repeat refine F5 M ?_
    refine T2 ?_;clear hC N i;have aG:=h_ M;clear M;go_wp2_with fail;have hC:=(λW h=>(J W h).1);have N:=b.u;refine CB aG λi=>?_;refine BK 11 ?_
    repeat refine F5 i ?_
    refine T2 ?_;clear hC N;obtain⟨I,M⟩:=Nq W6.drew;rw[M]at i⊢;obtain⟨⟨v0,v1,v2,v3,v4,v5⟩,-,-,-,-,g7,-,g3⟩:=J I i;obtain⟨u0,u1,u2,u3,u4,u5,u6⟩:=b I i;obtain⟨N,a6⟩:=oB i V;unfold QA at V;clear M i aG aF J b;by_cases b:x.v.k=4
    case' pos =>
     rw[Yz b]at V;have aS:(x.v.k==4)=true:=beq_iff_eq.2 b;clear b
    case' neg =>
     have aS:(x.v.k==4)=false:=Yk.2 b;rw[Ys b]at V;clear b;cases aP:x.ok
     case' false =>
      rw[Yz aP]at V
     case' true =>
      rw[Ys (by rw[aP];decide)]at V;cases b:x.must
      case' false =>
       rw[Ys (by rw[b];simp)]at V
      case' true =>
       by_cases M:x.v.k=0
       case' pos =>
        rw[Yz ⟨b,M⟩]at V;have aR:(x.v.k==0)=true:=beq_iff_eq.2 M;clear M
       case' neg =>
        rw[Ys λh=>M h.2]at V;have aR:(x.v.k==0)=false:=Yk.2 M;clear M
    all_goals
     as_aux_lemma =>
     rw[<- V.u]at u5 u6;dsimp only at u5 u6;go_wp2;go_roundw
     case rel=>exact⟨k+1,fP,fU,by rw[E.u];go_num,by rw[Y.u];go_num,av.mono N,ai.mono N⟩
     case measure=>simp[intOf];omega
   all_goals
    as_aux_lemma =>
    rw[l]at w3;go_wp2_with fail;have hC:=J.u;rw[l]at hC;clear K S U HU HH au J l w3;refine CB (bR wr.1.size wr) λi=>?_;refine BK 25 ?_
    repeat refine F5 i ?_
    refine T2 ?_;clear hC i;go_wp2;go_roundw
    case rel=>exact⟨k+1,fP,fU,by rw[E.u],by rw[Y.u];try go_num,av.mono (bR _ _).drew,ai.mono (bR _ _).drew⟩
    case measure=>simp[intOf];omega
