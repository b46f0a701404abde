import Derived.Test.YtenckgnkjkijnaaGreatDoorW31
import Derived.Test.YtenckgnkjkijnaaGreatDoorW24
set_option maxRecDepth 100000
set_option maxHeartbeats 64000000
namespace Go.Proofs.YtenckgnkjkijnaaGreatDoor
open Go Go.RowKit Go.Shelf Go.Proofs.Tryz
attribute [local go_sem] Oper.semAt_some
theorem kg5 {n:Nat}{f g:Nat->Nat}(b:∀a,a<n->f a<=g a):((List.range n).map f).sum<=((List.range n).map g).sum:=by
 induction n with
 | zero=>exact nR _
 | succ n c =>
  rw[Zc];simp only[Zl,Of,Z5,Oq,Oh,O0,Zo];have:=c fun a d=>b a (by omega);have:=b n (by omega);omega
theorem kg6 {n x:Nat}{f g:Nat->Nat}(b:∀a,a<n->f a<=g a)(i:x<n)(h:f x<g x):((List.range n).map f).sum<((List.range n).map g).sum:=by
 induction n with
 | zero=>omega
 | succ n e =>
  rw[Zc];simp only[Zl,Of,Z5,Oq,Oh,O0,Zo];by_cases c:x=n
  . subst c
    have:=kg5 (n:=x) fun a d=>b a (by omega);omega
  . have:=e (fun a d=>b a (by omega)) (by omega)
    have:=b n (by omega);omega
def keB (w:Tw)(C n:Nat):Nat:=((List.range n).map fun j=>(intOf ((w.cell? ⟨C,j,none⟩).getD undef)+1).toNat).sum
theorem qk5 {w:Tw}{C n:Nat}{f:Nat->Int}(b:Blk w C 3 (zs n f)):keB w C n=((List.range n).map fun a=>(f a+1).toNat).sum:=by
 unfold keB
 congr 1
 refine Zm fun a c=>?_;rw[(b.cell a).trans (keo f (Yu.1 c))];rfl
theorem qfz {w w':Tw}{m:Fm}{C x:Nat}{D:List Nat}(e:x<m.F.length)(a:x ∉ D)(d:kaW m D x=0)(b:Blk w C 3 (zs m.F.length (kaW m D)))(c:Blk w' C 3 (zs m.F.length (kaW m (D++[x])))):keB w' C m.F.length<keB w C m.F.length:=by
 rw[qk5 b,qk5 c];refine kg6 (fun f _=>?_) e ?_
 . rw[qi1 m D x a f]
   split <;> omega
 . rw[qi1 m D x a x,d,Yr rfl]
   omega
theorem qqv (m:Fm)(i:Nat):(kam m i).length<=m.F.length:=by
 have a:=kdA m.F.length ((kam m i).map fun b=>((b:Nat):Int)) ?_ ?_
 . simpa using a
 . exact List.Pairwise.map _ (fun c c a c=>a (by omega)) (qc6 m i)
 . intro e d
   obtain⟨b,c,rfl⟩:=Y4.1 d;have:=qqw m i b c;omega
theorem qmw (m:Fm)(D:List Nat)(k:Nat):-1<=kaW m D k:=by
 unfold kaW;split <;> omega
theorem qmv (m:Fm)(D:List Nat)(k:Nat):kaW m D k<=(kbI m k).length:=by
 unfold kaW;have:=List.length_filter_le (fun a=>!decide (a∈D)) (kbI m k);split <;> omega
theorem qmu {m:Fm}{D:List Nat}{x p k:Nat}(b:VfA m):-2 - 402000<=kbj m D x p k:=by
 unfold kbj;have c:=qmw m D k;have d:=Oj (a:=k) (l:=(kba m m.F.length x).take p);have e:((kba m m.F.length x).take p).length<=(kba m m.F.length x).length:=List.length_take_le' _ _;have f:=qj9 b x m.F.length (nR _);have g:=b.nf;split <;> omega
theorem qmt {m:Fm}{D:List Nat}{x p k:Nat}(b:VfA m)(a:k<m.F.length):kbj m D x p k<=2000:=by
 unfold kbj;have c:=qmv m D k;have d:=qj7 b a;split <;> omega
theorem qes {X:Nat->Prop}{hi base n:Nat}{w w':Tw}{b:Nat->Value}{L:Nat->List Nat}(d:Fam w base n b L)(e:kbJ X hi w w')(f:∀a,a<n->∀c,(b a).ownBlock=some c->c<hi/\¬ X c):Fam w' base n b L:=⟨fun a c=>e.owns (d.own a c) (f a c),d.apart⟩
theorem qet {w:Tw}{base n C k:Nat}{b:Nat->Value}{L:Nat->List Nat}(c:Fam w base n b L)(v:Value)(hC:∀a,a<n->(b a).ownBlock≠some C):Fam (w.setCell ⟨C,k,none⟩ v) base n b L :=
 ⟨fun a d=>(c.own a d).kept (row:=some C) ⟨rfl,rfl,rfl,by simp,fun e _ f=>heap_setCell_other w ⟨C,k,none⟩ e v (fun e=>f (by rw[e]))⟩ (.inr (hC a d)),c.apart⟩
theorem q94 (m:Fm)(A:MA)(b B:Nat)(V:Tw)(X:Nat->Prop)(hv:VfA m)(hf:kbe m)(hW:Blk V B 121 [.slice A.l m.L.length A.lc,.slice A.p m.P.length A.pc,.slice A.r m.R.length A.rc,.slice A.f m.F.length A.fc,.map (some b)])(ha:MSl V m A)(hm:kbR V b (kaa m)) :
 kfy prog 100 #[J9 B 0] (fun c d=>c=kam m c.length/\c.length<m.F.length/\nxt m c=some d) (fun c=>c=kam m m.F.length) X V:=by
 intro a5 g aw ae hb hJ h0 hX hY;have ah:=h_ (qok m A b ae hv hf (ha.mono hb) (hm.mono hb));obtain⟨t,HY,HJ,HX⟩:=oD hv hY hJ hX;have hK:=hW.mono hb hW.lt;obtain⟨y0,y1,y2,y3,y4⟩:=kaG hK;have H0:=h_ h0;unfold wV at ah;have aZ:=hv.nf;refine callsIn_of_wp func100 rfl trivial ?_ rfl;simp only[ntmps100,Zg,Yt,Y2,Nat.reduceAdd,Nat.reduceSub,Vi,Vh,Vo,Vl,Vr,Zw];gi_wp2_with fail;refine kbl (ah.mono ?_);rintro j Q ⟨n,v,rfl,hF,E,w,aV⟩;have aC:=h_ (q4z n m.F.length (n+1) v (kba m m.F.length) Q aZ E w (fun l c y=>qoj m _ l c y) (fun l=>by have:=qj9 t l m.F.length (nR _);omega));have aS:n<Q.heap.size:=E.lt;obtain⟨aB,K,J⟩:=oC aV E w;have ai:Hi (∀l,l<m.F.length->∀s,(v l).ownBlock=some s->n<s/\s<Q.heap.size):=h_ fun l q s j=>(w.own l q).lt s j;have Z:Hi (∀l,l<m.F.length->(v l).ownBlock≠some Q.heap.size):=h_ fun l q=>keq (w.own l q) (nR _);gi_wp2_with fail;refine kbl (aC.mono ?_);rintro j I ⟨rfl,z,S⟩;obtain⟨i,hC⟩:=Nq Q.heap.size;rw[hC]at z aS Z ai;have a4:Blk I i 3 (zs m.F.length (kaW m (kam m 0))):=by
  have j:zs m.F.length (fun c=>((kdz (kba m m.F.length) m.F.length c:Nat):Int))=zs m.F.length (kaW m []):=qmz fun c y=>qec t y;rw[j]at z;exact z
 have ax:ae.heap.size<=i:=by omega
 have F:=h_ a4;replace K:=h_ (Blk.mono K S (by omega));replace J:=h_ (J.mono S);have al:=h_ (H0 I (aB.trans (S.mono (by omega))));have a2:ae.heap.size<=I.heap.size:=by have:=S.size;omega
 have af:i<I.heap.size:=F.lt;obtain⟨y,aW⟩:=Nq I.heap.size;rw[aW]at al a2 af;gi_wp2_with fail;refine kbl ((qki m i 0 I t F).mono ?_);rintro j w3 ⟨rfl,rfl⟩;gi_wp2_with fail;gi_loopw [5] (fun O wr=>∃c:Nat,(kam m c).length=c/\O=J6 (nxI m (kam m c))/\ka5 wr n m.F.length v/\Fam wr (n+1) m.F.length v (kba m m.F.length)/\Blk wr i 3 (zs m.F.length (kaW m (kam m c)))/\aw y (kam m c) wr) (fun _ wr=>keB wr i m.F.length)
 case atStart=>exact⟨0,rfl,rfl,K,J,F,al⟩
 case round =>
  obtain⟨c,ay,rfl,E,w,z,q⟩:=hrel;obtain⟨K,J,F,ao⟩:=oD E w z q;have a8:i<wr.heap.size:=z.lt;cases G:nxt m (kam m c) with
  | none =>
   have he:=qkk G;have e:Hi (kam m c=kam m m.F.length):=h_ (by
    have C:=qc7 G (m.F.length - c);have h2:=qqv m c;rw[show c+(m.F.length - c)=m.F.length by omega]at C;exact C.symm)
   rw[he];gi_wp2_with fail
   go_end0
   exact⟨⟨_,rfl⟩,y,_,e,ao⟩
  | some d =>
   obtain⟨H,U,-⟩:=qko G;have he:=qkl G;have av:Hi (d ∉ kam m c):=h_ fun e=>by
    unfold kdX at U;rw[Ye e]at U;simp at U
   have aA:kaW m (kam m c) d=0:=(qi2 t c H).2 U;have au:=h_ aA;have M:Hi (kam m (c+1)=kam m c++[d]):=h_ (qgc G);have aJ:Hi (zs m.F.length (up (kaW m (kam m c)) d (-1))=zs m.F.length (kbj m (kam m c) d 0)):=h_ (qmz fun h _=>by rw[<- qdh,aA];rfl);have aN:Hi (∀g,kba m m.F.length d=g->∀e (o:e<g.length),zs m.F.length (up (kbj m (kam m c) d e) g[e] (kbj m (kam m c) d e g[e] - 1))=zs m.F.length (kbj m (kam m c) d (e+1))):=h_ fun g j e o=>by subst j;exact qmz fun h _=>qdg o h
   have aq:Hi (zs m.F.length (kbj m (kam m c) d (kba m m.F.length d).length)=zs m.F.length (kaW m (kam m c++[d]))):=h_ (qmz fun h N=>qdf av N);have aL:=h_ fun e h=>qmu (m:=m) (D:=kam m c) (x:=d) (p:=e) (k:=h) t;have aK:=h_ fun e h (N:h<m.F.length)=>qmt (m:=m) (D:=kam m c) (x:=d) (p:=e) t N;rw[he];have bc:(d:Int)<m.F.length:=by omega
   have aP:Hi (kam m c=kam m (kam m c).length/\(kam m c).length<m.F.length/\nxt m (kam m c)=some d):=h_ ⟨by rw[ay],by
    have C:=qqv m (c+1);rw[M.u,Yj]at C;simp at C;omega,G⟩
   have a3:=HY (a5 - 1) y (kam m c) d wr ao aP;obtain⟨fn,bd,a6,a7,hy,aT⟩:=a3;have aO:=h_ aT;gi_wp2_with fail;refine⟨kcC,aO.mono ?_⟩;rintro j W3 ⟨rfl,aX,T⟩
   . have aG:=h_ (T.blk K (by omega) (fun o=>by have:=HX _ o;omega))
     have aE:=h_ (qes J T (fun l q s j=>by
      have C:=ai l q s j;exact⟨by omega,fun o=>by have:=HX s o;omega⟩))
     obtain⟨ac,aI⟩:=oB (T.blk F (by omega) (fun o=>by have:=HX _ o;omega)) aX;have bb:wr.heap.size<=W3.heap.size:=T.size;have zx:=(ac.cell d).trans (keo _ H);rw[au.u]at zx;have fx:=ac.free d;have ad:=h_ (ac.set d (J6 (-1)));rw[kep,aJ.u]at ad;obtain⟨aa,W,am⟩:=oC (Blk.other aG (a:=⟨i,d,none⟩) (J6 (-1)) (show n≠i by omega)) (qet (k:=d) aE (J6 (-1)) Z) (HJ _ _ _ _ aI (Out.set (a:=⟨i,d,none⟩) (J6 (-1)) ax af));have zf:=ka5.at aa.u H;have a0:=W.own d H;obtain⟨aQ,aR,j,-⟩:=kcN a0;rw[j]at zf;have aD:=h_ j;have aY:=qj9 t d m.F.length (nR _);have ap:=h_ fun h N=>qoj m m.F.length d h N;obtain⟨W4,aU⟩:=Nq (W3.setCell ⟨i,d,none⟩ (J6 (-1)));rw[aU]at ad aa W am zf;have aj:Hi (∀l,Fam l (n+1) m.F.length v (kba m m.F.length)->l.ownsRow (n+1) 3 1 (.slice aQ (kba m m.F.length d).length aR) (kba m m.F.length d).length (ui (kba m m.F.length d))):=h_ fun l hf=>by rw[<- aD.u];exact hf.own d H
     obtain⟨g,hl⟩:=Nq (kba m m.F.length d);rw[hl]at zf aY ap aq aj;have aM:=h_ (aN g hl);gi_wp2_with fail;gi_loopw [33] (fun O w5=>∃e:Nat,e<=g.length/\O=J6 e/\ka5 w5 n m.F.length v/\Fam w5 (n+1) m.F.length v (kba m m.F.length)/\Blk w5 i 3 (zs m.F.length (kbj m (kam m c) d e))/\aw y (kam m c++[d]) w5) (fun O _=>g.length - (intOf O).toNat)
     case atStart=>exact⟨0,nZ _,rfl,aa,W,ad,am⟩
     case round =>
      obtain⟨e,hp,rfl,E,w,z,q⟩:=hrel;obtain⟨ak,Y,O,an⟩:=oD E w z q;by_cases ag:e<g.length
      . have a1:(e:Int)<g.length:=by omega
        obtain⟨g2,rfl,a9,-,zc⟩:=qkv (aj _ Y) e ag;have az:g[e]<m.F.length:=ap _ (Yi ag);have ba:((g[e]:Nat):Int)<m.F.length:=(by omega);have HS:=h_ (aM e ag);have C:=aL e g[e];have h2:=aK e g[e] az;have zk:=(O.cell g[e]).trans (keo _ az);have fk:=O.free g[e];generalize g[e]=h at *;have l:=h_ (O.set h (J6 (kbj m (kam m c) d e h - 1)));rw[kep,HS.u]at l;obtain⟨aH,aF,N⟩:=oC (Blk.other ak (a:=⟨i,h,none⟩) (J6 (kbj m (kam m c) d e h - 1)) (show n≠i by omega)) (qet (k:=h) Y (J6 (kbj m (kam m c) d e h - 1)) Z) (HJ _ _ _ _ an (Out.set (a:=⟨i,h,none⟩) (J6 (kbj m (kam m c) d e h - 1)) ax af));generalize kbj m (kam m c) d e h=s at *;gi_wp2_with fail;exact⟨⟨e+1,by omega,by go_num,aH,aF,l.u,N.u⟩,by simp[intOf];omega⟩
      . obtain rfl:e=g.length:=by omega
        have a1:¬ (g.length:Int)<(g.length:Int):=(by omega);have l:=O;rw[aq.u,<- M.u]at l;have N:=an;rw[<- M.u]at N;have h:=h_ (qki m i (c+1) _ t l.u);gi_wp2_with fail;refine kbl (h.mono ?_);rintro j s ⟨rfl,rfl⟩;gi_wp2_with fail;exact⟨⟨c+1,by rw[M.u,Yj];simp;exact ay,rfl,ak,Y,l.u,N.u⟩,qfz H av au F (by have o:=l.u;rw[M.u]at o;exact o)⟩
attribute [local go_sem] Oper.semAt_some
theorem q7u (n:Nat)(m:Fm)(A:MA)(b:Nat)(w:Tw)(Q:VfA m)(hf:kbe m)(Z:MSl w m A)(hm:kbR w b (kaa m)) :
 CallsIn Fence.wide n prog 136 #[wV m A b] w fun N a=>N=.returned (.bool (decide ((kam m m.F.length).length<m.F.length)))/\Bw w a:=by
 have s:=h_ fun a=>qgd m A b a;have J:=h_ fun (h:Tw) (c:Nat) d e g f=>q94 m A b c h d Q hf e g f;obtain⟨x,y,z,B,ar,C,k,l,ah⟩:=A;unfold wV at s⊢;dsimp only at s J⊢;have am:=Q.nf;obtain⟨h,Y,g,e⟩:=nw w 121 #[.slice x m.L.length y,.slice z m.P.length B,.slice ar m.R.length C,.slice k m.F.length l,.map (some b)];have ad:h.heap.size=w.heap.size+1:=by rw[<- Y];simp
 obtain⟨K,r⟩:=oB (Blk.new h 3 #[J6 m.F.length]) ((bR h.heap.size h).alloc (nR _) (.cells #[J6 m.F.length] 3));obtain⟨v,G⟩:=Nq (h.alloc (.cells #[J6 m.F.length] 3));have ae:v.heap.size=w.heap.size+1+1:=by rw[<- G];simp;omega
 rw[G,ad]at K;rw[G]at r;have V:=h_ (g.mono r g.lt);replace e:=h_ (e.trans (r.mono e.size));obtain⟨X,W⟩:=oB (Z.mono e) (hm.mono e);obtain⟨y0,y1,y2,y3,y4⟩:=kaG g;obtain⟨z0,z1,z2,z3,z4⟩:=kaG V;refine callsIn_of_wp_marks func136 rfl trivial ?_ rfl;simp only[ntmps136,Zg,Yt,Y2,Nat.reduceAdd,Nat.reduceSub,Vi,Vh,Vo,Vl,Vr,Zw];gi_wp2_with fail;refine kbl ((s v).mono ?_);rintro N S ⟨rfl,E,j⟩;rw[ae]at E;have HO:=h_ E;have M:=mB K j;have I:=h_ (e.trans (j.mono (by omega)));have an:v.heap.size<=S.heap.size:=j.size;have U:=h_ (J S (w.heap.size+1+1) (fun c=>c=w.heap.size+1) E (X.mono j) (W.mono j));gi_wp2_with fail;refine qcl (gf:=100) (lb:=#[J9 (w.heap.size+1+1) 0]) rfl (enters_of func100 (by kernel_rfl) rfl)
  U (bR _ _) (fun c c=>by omega) rfl
  (fun _ d a=>Blk a (w.heap.size+1) 3 [J6 ((m.F.length:Int) - d.length)]/\Bw w a)
  ?hI ?h0
  (fun o=>{ tmps:=#[.agg #[.slice x m.L.length y,.slice z m.P.length B,.slice ar m.R.length C,.slice k m.F.length l,.map (some b)],J9 w.heap.size 0,.bool false,J9 (w.heap.size+1) 0,J9 w.heap.size 0,J9 w.heap.size 3,.slice k m.F.length l,J6 m.F.length,.agg #[.slice x m.L.length y,.slice z m.P.length B,.slice ar m.R.length C,.slice k m.F.length l,.map (some b)],.func (.func 100) #[] #[J9 (w.heap.size+1+1) 0],J6 (o:Int),undef,undef,undef,undef],defers:=[] })
  ?assign ?body ?done
 case hI =>
  rintro O d a q ⟨c,f⟩ i;exact⟨i.blk c (by omega),f.trans (i.below (by omega) f.size)⟩
 case h0 =>
  intro a i;exact⟨by simpa using M.u.mono i M.lt,I.trans (i.mono I.size)⟩
 case assign =>
  intro m' ag o a q i
  gi_wp2
  first | exact i | simpa using i
 case body =>
  rintro m' ag O d o a aj ⟨c,f⟩ ⟨ao,aq,au⟩;have D:=c.cell 0;simp only[Yf]at D;have f0:=c.free 0;have t:Hi ((m.F.length:Int) - ((d++[o]).length:Nat)=(m.F.length:Int) - d.length - 1):=h_ (by rw[Yj];simp;omega);have ac:(m.F.length:Int) - d.length<=200:=by omega
  have aa:0<=(m.F.length:Int) - d.length:=by omega
  obtain⟨T,q⟩:=oB c f;have ak:=c.lt;generalize (m.F.length:Int) - d.length=H at *;gi_wp2_with fail;refine⟨KeepsOthers.setCell _ _ _,kbJ.set _ rfl,?_,q.setCell (p:=⟨w.heap.size+1,0,none⟩) (by simp) _⟩;rw[t.u];exact T.set 0 (J6 (H - 1))
 case done =>
  rintro T O d a hD ai o ⟨c,f⟩ i;have D:=c.cell 0;simp only[Yf]at D;have av:d.length<=m.F.length:=by rw[o];exact qqv m _
  have t:Hi (decide ((kam m m.F.length).length<m.F.length)=decide ((m.F.length:Int) - d.length > 0)):=h_ (by rw[<- o];exact decide_eq_decide.2 (by omega));have ac:(m.F.length:Int) - d.length<=200:=by omega
  have aa:0<=(m.F.length:Int) - d.length:=by omega
  obtain⟨q,g⟩:=oB f i;generalize (m.F.length:Int) - d.length=H at *;gi_wp2_with fail;refine⟨by simp,.inl ⟨_,_,rfl,run_takeDeferred g,?_⟩⟩;refine⟨.bool (decide (0<H)),?_,by rw[t.u],q.trans (qdv _ T _ (by omega))⟩;simp[results,Tryz.f136,go_sem]
theorem q58 (m:Fm)(A:MA)(b:Nat)(w:Tw)(f:VfA m)(d:kbe m)(c:MSl w m A)(e:kbR w b (kaa m)) :
 Calls prog 136 #[wV m A b] w fun a g=>a=.returned (.bool (decide ((kam m m.F.length).length<m.F.length)))/\Bw w g :=
 (callsIn_wide (n:=9)).1 (q7u 9 m A b w f d c e)
end Go.Proofs.YtenckgnkjkijnaaGreatDoor
namespace Go.Proofs.YtenckgnkjkijnaaGreatDoor
open Go Go.RowKit Go.Proofs.Tryz
theorem qaz:(prog.info? 4).map (fun a=>(a.zero,a.size,a.bytes))=some (some (.bool false),1,1):=by kernel_rfl
theorem qqi {w:Tw}{base F n:Nat}(b:w.ownsRow base 4 1 (.slice (some ⟨F,0,none⟩) n n) n (madeCells #[Value.bool false] n).toList):Blk w F 4 (ms n fun _=>false):=by
 have a:=Blk.of_owns b;rw[toList_madeCells_one]at a;unfold ms;rw[List.map_const',Ox];exact a
theorem q8g (m:Fm)(A:MA)(k:Nat)(w:Tw)(hk:k<m.F.length)(hn:m.F.length<=200)(B:kbe m)(d:MSl w m A) :
 Calls prog 53 #[mV m A,J6 k] w fun b a=>∃n v,b=.returned (.slice (some ⟨n,0,none⟩) m.F.length m.F.length)/\w.heap.size<=n/\Blk a n 4 (ms m.F.length v)/\(∀b,b<m.F.length->(v b=true ↔ Rch m k b))/\Below w.heap.size w a:=by
 have L:=h_ fun c a b (X:a<m.F.length) (g:b<m.F.length) (e:MSl c m A)=>q8e m A a b c X g B e;obtain⟨al,ag,ap,ah,ar,ai,af,ae,au⟩:=A;unfold mV at L⊢;dsimp only at L⊢;obtain⟨V,e,H,C⟩:=nw w 37 (Jb al m ag ap ah ar ai af ae);have P:V.heap.size=w.heap.size+1:=by rw[<- e];simp
 have HS:=h_ d;clear d B;obtain⟨Z,g,o,q,r⟩:=info_parts qaz;have l:Z.bytes*m.F.length<=281474976710656:=by rw[r];omega
 obtain⟨I,M,N,Q⟩:=kaf H;go_enter func53,ntmps53;go_wp2_with (at_make;refine wpList_make_full _ rfl (.tmp 14) (.tmp 14) 94 rfl (w.heap.size+1) 4 Z _ 1 underlying94 g o q .i64 .i64 _ _ m.F.length rfl rfl rfl rfl l (by unfold maxLen;omega) (by first | omega | (simp;done)) ?_);intro J d j
 try rw[e]at d j
 try rw[e]
 try rw[P]at d
 try rw[P]
 have i:Below (w.heap.size+1) V J:=(bR _ _).grown j (by omega) (fun k c=>by cases c);obtain⟨n,W⟩:=Nq (w.heap.size+1);rw[W]at d i P
 try rw[W]
 obtain⟨f,h⟩:=oB (qqi d) i;clear d j i l g o q r e I M N Q;replace C:=h_ (C.trans (h.mono (by omega)));replace H:=h_ (H.mono h (by omega));clear h;go_wp2_with fail;go_loopw [7] (fun u wr=>∃(rd:Nat) (v:Nat->Bool),rd<=m.F.length/\u=J6 rd/\Blk wr n 4 (ms m.F.length v)/\Snd m k v/\rd<=kbK v m.F.length/\Below n J wr) (fun u _=>m.F.length - (intOf u).toNat)
 case atStart=>exact⟨0,_,nZ _,rfl,f,(fun b g=>by cases g),nZ _,bR _ _⟩
 case round =>
  clear f;obtain⟨rd,v,ax,rfl,t,z,y,x⟩:=hrel;obtain⟨f,l,q,o⟩:=oD t z y x;clear t z y x;by_cases aw:rd<m.F.length
  . have aq:(rd:Int)<m.F.length:=by omega
    go_wp2_with fail;go_loopw [8,9] (fun G u e=>∃(a:Nat) (h:Bool) (j:Nat->Bool),a<=m.F.length/\G=.bool h/\u=J6 a/\Blk e n 4 (ms m.F.length j)/\Snd m k j/\rd<=kbK j m.F.length/\(h=true->rd+1<=kbK j m.F.length)/\(h=false->∀d,d<a->Cls m k j d)/\Below n J e) (fun _ u _=>m.F.length - (intOf u).toNat)
    case atStart=>exact⟨0,false,v,nZ _,rfl,rfl,f,l,q,(fun g=>by cases g),fun _ d g=>absurd g (nL _),o⟩
    case round =>
     clear f l q o;obtain⟨a,h,j,X,rfl,rfl,t,z,y,D,E,x⟩:=hrel;obtain⟨f,l,q,r,s,o⟩:=oF t z y D E x;clear z y D E x;by_cases Y:a<m.F.length
     . have ao:(a:Int)<m.F.length:=by omega
       have R:=(t.cell a).trans (kdu j Y);clear t;have aj:(a=k∨(¬ a=k/\j a=true))∨(¬ a=k/\j a=false):=by
        by_cases c:a=k
        . exact .inl (.inl c)
        . cases g:j a
          . exact .inr ⟨c,rfl⟩
          . exact .inl (.inr ⟨c,rfl⟩)
       rcases aj with e | ⟨O,B⟩
       . have HJ:Hi (a=k∨Rch m k a):=h_ (by
          rcases e with c | ⟨-,c⟩
          . exact .inl c
          . exact .inr (l a c))
         have K:Hi (h=false->(∀d,d<a->Cls m k j d)/\∀i,i<0->kbM m a i=true->j i=true):=h_ fun g=>⟨s g,fun i g=>absurd g (nL _)⟩;have am:(a=k/\((a:Int)==k)=true)∨(((a:Int)==k)=false/\j a=true):=by
          rcases e with c | ⟨O,c⟩
          . exact .inl ⟨c,by simp[c]⟩
          . exact .inr ⟨Yc.2 (by omega),c⟩
         clear e s;rcases am with ⟨-,e⟩ | ⟨e,S⟩
         case' inl=>go_wp2_with fail
         case' inr =>
          rw[S]at R;clear S;go_wp2_with fail
         all_goals
          clear R e;go_loopw [8,10] (fun G u S=>∃(b:Nat) (h:Bool) (e:Nat->Bool),b<=m.F.length/\G=.bool h/\u=J6 b/\Blk S n 4 (ms m.F.length e)/\Snd m k e/\rd<=kbK e m.F.length/\(h=true->rd+1<=kbK e m.F.length)/\(h=false->(∀d,d<a->Cls m k e d)/\∀i,i<b->kbM m a i=true->e i=true)/\Below n J S) (fun _ u _=>m.F.length - (intOf u).toNat)
          case atStart=>exact⟨0,h,j,nZ _,rfl,rfl,f,l,q,r,K,o⟩
          case round =>
           clear f l q r K o;obtain⟨b,h,e,av,rfl,rfl,t,z,y,D,E,x⟩:=hrel;obtain⟨f,l,q,r,s,o⟩:=oF t z y D E x;obtain⟨aa,ad⟩:=oB (H.mono x (by omega)) (HS.mono (C.trans (x.mono (by omega))));clear z y D E x;by_cases E:b<m.F.length
           . have an:(b:Int)<m.F.length:=by omega
             have G:=(t.cell b).trans (kdu e E);clear t;cases y:e b
             . rw[y]at G
               have ac:=h_ y;clear y;obtain⟨I,M,N,Q⟩:=kaf aa;have z:=h_ (L _ a b Y E ad);go_wp2_with fail;refine cQ z fun W2 u=>?_;have D:=mB f u;have K:=h_ (o.trans (u.mono (by have:=f.lt;omega)));clear u z G I M N Q;cases I:kbM m a b
               . have u:Hi (h=false->(∀d,d<a->Cls m k e d)/\∀i,i<b+1->kbM m a i=true->e i=true):=h_ fun g=>⟨(s g).1,fun i N x=>by
                  by_cases c:i=b
                  . subst c;rw[I]at x;cases x
                  . exact(s g).2 i (by omega) x⟩
                 clear I;go_wp2_with fail;go_roundw
                 case rel=>first | exact⟨b+1,h,e,by omega,rfl,by go_num,D,l,q,r,u,K⟩ | ((repeat apply Exists.intro);exact⟨⟨b+1,h,e,by omega,rfl,by go_num,D,l,q,r,u,K⟩,rfl⟩)
                 case measure=>simp[intOf];omega
               . have U:=h_ (l.up (qlh HJ E I))
                 have ak:=qnw E ac;have S:Hi (rd+1<=kbK (up e b true) m.F.length):=h_ (by have:=q.u;omega);have T:Hi (rd<=kbK (up e b true) m.F.length):=h_ (by have:=q.u;omega);have M:=h_ (D.set b (.bool true));rw[kfz]at M;have Q:=h_ (K.setCell (p:=⟨n,b,none⟩) (nR n) (.bool true));have G:=(D.cell b).trans (kdu e E);have fi:=D.free b;clear I ak;generalize e b=I at G;go_wp2_with fail;go_roundw
                 case rel=>first | exact⟨b+1,true,up e b true,by omega,rfl,by go_num,M,U,T,(fun _=>S),(fun g=>by cases g),Q⟩ | ((repeat apply Exists.intro);exact⟨⟨b+1,true,up e b true,by omega,rfl,by go_num,M,U,T,(fun _=>S),(fun g=>by cases g),Q⟩,rfl⟩)
                 case measure=>simp[intOf];omega
             . rw[y]at G
               have u:Hi (h=false->(∀d,d<a->Cls m k e d)/\∀i,i<b+1->kbM m a i=true->e i=true):=h_ fun g=>⟨(s g).1,fun i N x=>by
                by_cases c:i=b
                . subst c;exact y
                . exact(s g).2 i (by omega) x⟩
               clear y;go_wp2_with fail;go_roundw
               case rel=>first | exact⟨b+1,h,e,by omega,rfl,by go_num,f,l,q,r,u,o⟩ | ((repeat apply Exists.intro);exact⟨⟨b+1,h,e,by omega,rfl,by go_num,f,l,q,r,u,o⟩,rfl⟩)
               case measure=>simp[intOf];omega
           . obtain rfl:b=m.F.length:=by omega
             have an:¬ (m.F.length:Int)<(m.F.length:Int):=(by omega);have u:Hi (h=false->∀d,d<a+1->Cls m k e d):=h_ fun g d y=>by
              by_cases c:d=a
              . subst c
                exact fun _ i N x=>(s g).2 i N x
              . exact(s g).1 d (by omega)
             clear t;go_wp2_with fail;go_roundw
             case rel=>first | exact⟨a+1,h,e,by omega,rfl,by go_num,f,l,q,r,u,o⟩ | ((repeat apply Exists.intro);exact⟨⟨a+1,h,e,by omega,rfl,by go_num,f,l,q,r,u,o⟩,rfl⟩)
             case measure=>simp[intOf];omega
       . have e:((a:Int)==k)=false:=Yc.2 (by omega)
         have u:Hi (h=false->∀d,d<a+1->Cls m k j d):=h_ fun g d y=>by
          by_cases c:d=a
          . subst c
            intro b;rcases b with c | c
            . exact absurd c O
            . rw[B]at c;cases c
          . exact s g d (by omega)
         rw[B]at R;clear O s B;go_wp2_with fail;go_roundw
         case rel=>first | exact⟨a+1,h,j,by omega,rfl,by go_num,f,l,q,r,u,o⟩ | ((repeat apply Exists.intro);exact⟨⟨a+1,h,j,by omega,rfl,by go_num,f,l,q,r,u,o⟩,rfl⟩)
         case measure=>simp[intOf];omega
     . obtain rfl:a=m.F.length:=by omega
       have ao:¬ (m.F.length:Int)<(m.F.length:Int):=(by omega);clear t;cases h
       . have c:=h_ (qcm hk l (s rfl))
         have b:Hi (Below w.heap.size w wr):=h_ (C.trans (o.mono (by omega)));go_wp2_with fail;go_ret
         first | exact⟨n,j,rfl,by omega,f,c,b⟩ | exact⟨n,rfl,by omega,j,f,c,b⟩ | exact⟨n,rfl,by omega,⟨j,f,c⟩,b⟩
       . have z:=h_ (r rfl)
         go_wp2_with fail;go_roundw
         case rel=>first | exact⟨rd+1,j,by omega,by go_num,f,l,z,o⟩ | ((repeat apply Exists.intro);exact⟨⟨rd+1,j,by omega,by go_num,f,l,z,o⟩,rfl⟩)
         case measure=>simp[intOf];omega
  . obtain rfl:rd=m.F.length:=by omega
    have aq:¬ (m.F.length:Int)<(m.F.length:Int):=(by omega);have c:=h_ (qlf l q);have b:Hi (Below w.heap.size w wr):=h_ (C.trans (o.mono (by omega)));go_wp2_with fail;go_ret
    first | exact⟨n,v,rfl,by omega,f,c,b⟩ | exact⟨n,rfl,by omega,v,f,c,b⟩ | exact⟨n,rfl,by omega,⟨v,f,c⟩,b⟩
structure Que (w:Tw)(base g off cap:Nat)(xs:List Nat):Prop where
 lo:base<=g
 room:xs.length<=cap
 blk:∃cs,Blk w g 3 cs/\off+cap<=cs.length/\∀j (h:j<xs.length),cs[off+j]? = some (J6 (xs[j]:Nat))
theorem Que.lt {w:Tw}{base g n k:Nat}{xs:List Nat}(a:Que w base g n k xs):g<w.heap.size:=by
 obtain⟨c,b,-⟩:=a.blk;exact b.lt
theorem Que.cell {w:Tw}{base g n k j:Nat}{xs:List Nat}(a:Que w base g n k xs)(c:j<xs.length):w.cell? ⟨g,n+j,none⟩=some (J6 (xs[j]:Nat)):=by
 obtain⟨e,b,-,d⟩:=a.blk;exact(b.cell _).trans (d j c)
theorem Que.mono {w w':Tw}{B base g n k:Nat}{xs:List Nat}(a:Que w base g n k xs)(c:Below B w w')(d:g<B):Que w' base g n k xs:=by
 obtain⟨b,e,f⟩:=a.blk;exact⟨a.lo,a.room,b,e.mono c d,f⟩
theorem Que.other {w:Tw}{base g n k:Nat}{xs:List Nat}(b:Que w base g n k xs){a:Addr}(v:Value)(d:g≠a.block):Que (w.setCell a v) base g n k xs:=by
 obtain⟨c,e,f⟩:=b.blk;exact⟨b.lo,b.room,c,e.other v d,f⟩
theorem Que.new (w:Tw)(k:Nat){base:Nat}(a:base<=w.heap.size):Que (w.alloc (.cells #[J6 (k:Nat)] 3)) base w.heap.size 0 1 [k]:=by
 refine⟨a,nR _,_,Blk.new w 3 #[J6 (k:Nat)],nR _,fun c b=>?_⟩;obtain rfl:c=0:=by simp at b;omega
 rfl
theorem Que.tail {w:Tw}{base g n k x:Nat}{xs:List Nat}(a:Que w base g n k (x :: xs)):∃b,(if k=1 then some (⟨g,n,none⟩:Addr) else some ⟨g,n+1,none⟩)=some ⟨g,b,none⟩/\Que w base g b (k - 1) xs:=by
 obtain⟨c,f,j,i⟩:=a.blk;have h:=a.room;simp only[Yt]at h;by_cases d:k=1
 . subst d
   obtain rfl:xs=[]:=List.eq_nil_of_length_eq_zero (by omega);exact⟨n,by simp,a.lo,by simp,c,f,by omega,fun b e=>absurd e (by simp)⟩
 . refine⟨n+1,by rw[Yl d],a.lo,by omega,c,f,by omega,fun b e=>?_⟩
   have:=i (b+1) (by simp;omega);rw[Gb,Oe 1 b];simpa using this
theorem Que.push {w:Tw}{base g n k x:Nat}{xs:List Nat}(a:Que w base g n k xs)(i:xs.length+1<=k):Que (w.setCell ⟨g,n+xs.length,none⟩ (J6 (x:Nat))) base g n k (xs++[x]):=by
 obtain⟨f,d,h,e⟩:=a.blk;refine⟨a.lo,by simp;omega,_,d.set _ _,by simp;omega,fun b c=>?_⟩;simp only[Yj,Yt,Y2]at c;by_cases c:b=xs.length
 . subst c
   rw[Ow (by omega)];simp
 . rw[O9 (by omega),e b (by omega),List.getElem_append_left (by omega)]
theorem Que.olds {w:Tw}{base g n k:Nat}{xs:List Nat}(d:Que w base g n k xs):∀b a,(ui xs)[b]? = some a->w.cell? ⟨g,n+b,none⟩=some a:=fun b a a=>by
 unfold ui at a;rw[Zj]at a;by_cases c:b<xs.length
 . rw[Yg c]at a
   rw[d.cell c];exact a
 . rw[Vd (by omega)]at a
   cases a
theorem Que.spare {w:Tw}{base g n k:Nat}{xs:List Nat}(b:Que w base g n k xs){x:Tl}(e:x.length=1):xs.length+1<=k->∀a,a<x.length->(w.cell? ⟨g,n+xs.length*1+a,none⟩).isSome=true/\w.frozen? ⟨g,n+xs.length*1+a,none⟩=false:=fun c a a=>by
 obtain⟨c,a,d,-⟩:=b.blk;refine⟨?_,a.free _⟩;rw[a.cell,Yg (by omega)];rfl
theorem Que.made {w:Tw}{base b n x:Nat}{v:Value}{xs:List Nat}(g:w.ownsRow b 3 1 v n (ui xs++[J6 (x:Nat)]))(m:base<=b):∃a c,v=.slice (some ⟨a,0,none⟩) (xs++[x]).length c/\b<=a/\Que w base a 0 c (xs++[x]):=by
 have k:n=xs.length+1:=by have:=g.1;simp[ui]at this;omega
 rcases g.2 with ⟨-,d⟩ | ⟨a,c,e,rfl,i,j,p,-,o,l⟩
 . omega
 . refine⟨a,c,by simp[k],i,by omega,by simp;omega,e.toList,?_,by simp;omega,fun h f=>?_⟩
   . exact j
   . have d:(e.toList.take (n*1))[h]? = (ui xs++[Value.int .i64 (x:Nat)])[h]?:=by rw[l]
     rw[List.getElem?_take_of_lt (by simp at f;omega)]at d;rw[Y3,d];have h:ui xs++[Value.int .i64 (x:Nat)]=ui (xs++[x]):=(by simp[ui]);rw[h];unfold ui;rw[Zj,Yg f];rfl
def isT:Option Value->Bool
 | some (.bool true)=>true
 | _=>false
def kh6 (n S:Nat)(w:Tw):Nat:=kbK (fun i=>isT (w.cell? ⟨S,i,none⟩)) n
theorem qnz {n S:Nat}{M:Nat->Bool}{w:Tw}{t:TypeId}(b:Blk w S t (ms n M)):kh6 n S w=kbK M n:=by
 unfold kh6;refine qae fun a c=>?_;rw[(b.cell a).trans (kdu M c)];cases M a <;> rfl
def kii:Value->Nat
 | .slice _ n _=>n
 | _=>0
theorem qkb {m:Fm}(b:VfA m){j i:Nat}(a:j<m.F.length)(hi:i<m.F.length):i∈kba m m.F.length j ↔ kbM m j i=true:=by
 rw[<- qka b a hi,<- List.count_pos_iff,qaq,Yr hi,List.count_pos_iff]
structure kf4 (m:Fm)(k:Nat)(M:Nat->Bool)(xs:List Nat):Prop where
 snd:Snd m k M
 few:xs.length<=kbK M m.F.length+1
 que:∀x,x∈xs->x<m.F.length/\(x=k∨M x=true)
 cls:∀j,j<m.F.length->j ∉ xs->Cls m k M j
structure kcq (m:Fm)(k j p:Nat)(M:Nat->Bool)(xs:List Nat):Prop where
 snd:Snd m k M
 few:xs.length<=kbK M m.F.length
 que:∀x,x∈xs->x<m.F.length/\(x=k∨M x=true)
 cls:∀i,i<m.F.length->i≠j->i ∉ xs->Cls m k M i
 led:∀q (h:q<(kba m m.F.length j).length),q<p->M (kba m m.F.length j)[q]=true
 jk:j<m.F.length/\(j=k∨Rch m k j)
theorem qcw {m:Fm}{k:Nat}(c:k<m.F.length):kf4 m k (fun _=>false) [k]:=by
 refine⟨(fun a a=>by cases a),by simp,fun e d=>?_,fun f _ b=>?_⟩
 . obtain rfl:e=k:=by simpa using d
   exact⟨c,.inl rfl⟩
 . rintro (a | a)
   . exact absurd (by simp[a]) b
   . cases a
theorem qha {m:Fm}{k j:Nat}{M:Nat->Bool}{xs:List Nat}(a:kf4 m k M (j :: xs)):kcq m k j 0 M xs:=by
 have c:=a.que j (by simp);refine⟨a.snd,by have:=a.few;simp at this;omega,fun d b=>a.que d (by simp[b]),fun f d e b=>a.cls f d (by simp[e,b]),fun b _ b=>absurd b (nL _),c.1,?_⟩;rcases c.2 with b | b
 . exact .inl b
 . exact .inr (a.snd j b)
theorem qh9 {m:Fm}{k j p:Nat}{M:Nat->Bool}{xs:List Nat}(a:kcq m k j p M xs)(f:p<(kba m m.F.length j).length)(d:M (kba m m.F.length j)[p]=true):kcq m k j (p+1) M xs:=by
 refine⟨a.snd,a.few,a.que,a.cls,fun b e g=>?_,a.jk⟩;by_cases c:b=p
 . subst c;exact d
 . exact a.led b e (by omega)
theorem qh8 {m:Fm}(w:VfA m){k j p x:Nat}{M:Nat->Bool}{xs:List Nat}(b:kcq m k j p M xs)(n:p<(kba m m.F.length j).length)(g:(kba m m.F.length j)[p]=x)(t:M x=false):kcq m k j (p+1) (up M x true) (xs++[x])/\kbK (up M x true) m.F.length=kbK M m.F.length+1:=by
 have e:x<m.F.length:=by rw[<- g];exact qoj m _ j _ (Yi n)
 have q:kbM m j x=true:=(qkb w b.jk.1 e).1 (by rw[<- g];exact Yi n);have l:=qnw e t;have h:∀{d},M d=true->up M x true d=true:=fun {d} f=>by
  by_cases a:d=x
  . subst a;rw[ka2]
  . rw[kaK _ _ a];exact f
 refine⟨⟨b.snd.up (qlh b.jk.2 e q),by rw[l];have:=b.few;simp;omega,fun i c=>?_,fun d f u c=>?_,fun o v r=>?_,b.jk⟩,l⟩
 . rcases Zk.1 c with c | c
   . exact⟨(b.que i c).1,(b.que i c).2.imp id h⟩
   . obtain rfl:i=x:=by simpa using c
     exact⟨e,.inr (ka2 _ _ _)⟩
 . rintro s z r i
   have y:d≠x:=fun a=>c (by simp[a]);refine h (b.cls d f u (fun a=>c (by simp[a])) ?_ z r i);rcases s with a | a
   . exact .inl a
   . rw[kaK _ _ y]at a;exact .inr a
 . by_cases a:o=p
   . subst a;rw[g];exact ka2 _ _ _
   . exact h (b.led o v (by omega))
theorem qcv {m:Fm}(h:VfA m){k j:Nat}{M:Nat->Bool}{xs:List Nat}(a:kcq m k j (kba m m.F.length j).length M xs):kf4 m k M xs:=by
 refine⟨a.snd,by have:=a.few;omega,a.que,fun e c i=>?_⟩;by_cases b:e=j
 . subst b
   intro _ n g f;obtain⟨l,d,b⟩:=List.getElem_of_mem ((qkb h c g).2 f);rw[<- b];exact a.led l d d
 . exact a.cls e c b i
theorem qm1 {m:Fm}{k:Nat}{M:Nat->Bool}(b:k<m.F.length)(a:kf4 m k M []):M k=true ↔ Rch m k k:=qcm b a.snd (fun d c=>a.cls d c (by simp)) k b
theorem q3y (m:Fm)(F k base:Nat)(ai:Nat->Value)(w:Tw)(c:VfA m)(hk:k<m.F.length)(b:ka5 w F m.F.length ai)(e:Fam w base m.F.length ai (kba m m.F.length))(f:∀d,(kba m m.F.length d).length<=400000) :
 Calls prog 137 #[.slice (some ⟨F,0,none⟩) m.F.length m.F.length,J6 k] w fun g w'=>∃d:Bool,g=.returned (.bool d)/\(d=true ↔ Rch m k k)/\Below w.heap.size w w':=by
 obtain⟨HH,ax,ay,HV⟩:=oD b e f c;have hn:=c.nf;obtain⟨i0,T,i,q,r⟩:=info_parts qaz;obtain⟨i1,hj,aD,av,aE⟩:=info_parts kbf;have h:i0.bytes*m.F.length<=281474976710656:=by rw[r];omega
 have ak:F<w.heap.size:=b.lt;have o:=h_ (qcw hk);clear b e f c;go_enter func137,ntmps137;go_wp2_with (at_make;refine wpList_make_full _ rfl (.tmp 11) (.tmp 11) 94 rfl w.heap.size 4 i0 _ 1 underlying94 T i q .i64 .i64 _ _ m.F.length rfl rfl rfl rfl h (by unfold maxLen;omega) (nR _) ?_);intro M H G;obtain⟨g,O⟩:=Nq w.heap.size;have f:Below g w M:=by rw[<- O];exact(bR _ _).grown G (nR _) (fun k l=>by cases l)
 rw[O]at H ak
 try rw[O]
 have b:=qqi H;have n:g<M.heap.size:=b.lt;have v:=h_ (Que.new M k (base:=g+1) n);have E:=(bR M.heap.size M).alloc (nR _) (.cells #[J6 (k:Nat)] 3);obtain⟨c,s⟩:=oB (f.trans (E.mono (by omega))) (b.mono E n);obtain⟨W1,e⟩:=Nq (M.alloc (.cells #[J6 (k:Nat)] 3));rw[e]at v c s;clear H G f h T i q r E b;go_wp2_with fail
 try rw[e]
 go_loopw [6] (fun L wr=>∃(f h i:Nat) (Q:List Nat) (b:Nat->Bool),L=.slice (some ⟨f,h,none⟩) Q.length i/\Que wr (g+1) f h i Q/\Blk wr g 4 (ms m.F.length b)/\kf4 m k b Q/\Below g w wr) (fun L wr=>2*(m.F.length - kh6 m.F.length g wr)+kii L)
 case atStart=>exact⟨_,0,1,[k],_,rfl,v,s,o,c⟩
 case round =>
  clear v s o c e n;obtain⟨f,h,i,Q,b,rfl,q,t,c,C⟩:=hrel;obtain⟨v,s,N,z⟩:=oD q t c C;have ap:=qnz t;have af:=q.lt;have ae:=q.lo;cases Q with
  | nil =>
   have o:=(t.cell k).trans (kdu b hk);have e:=h_ (qm1 hk c);have n:(k:Int)<m.F.length:=by omega
   clear q t c C ap af ae;simp only[Y2];generalize b k=d at *;go_wp2_with fail;go_ret;have B:Hi (Below w.heap.size w wr):=h_ (by rw[O];exact z)
   first | exact⟨d,rfl,e,B⟩ | exact⟨e,z⟩ | exact⟨e,B⟩
  | cons o n =>
   have au:=(c.que o (by simp)).1;have aN:(o:Int)<m.F.length:=by omega
   have K:=q.cell (j:=0) (by simp);simp only[Zo,Vs]at K;have ad:=c.few;have ao:=qnu b m.F.length;obtain⟨aw,e,P⟩:=q.tail;have S:1<=i:=by have:=q.room;simp at this;omega
   have W:∀d,(Instr.slice 89 (.slice (some ⟨f,h,none⟩) (n.length+1) i) (some (J6 1)) none none).run prog d=.ok (.slice (some ⟨f,aw,none⟩) n.length (i - 1)) d:=fun d=>by
    rw[run_slice_l d 89 _ _ _ underlying89 .i64 1 (by omega) (by omega)];have d:prog.elem 89=3:=(by kernel_rfl);rw[d];rw[<- e];simp[sizeOf,typeInfo,hj,av,sliced,Addr.add]
   obtain⟨y,R⟩:=oB P e;clear P e;have Y:=h_ (qha c);have J:=(C.cell (p:=⟨F,o,none⟩) ak).trans (ka5.at HH.u au);have U:(0:Int)<((n.length+1:Nat):Int):=by omega
   have V:(1:Int)<=((n.length+1:Nat):Int):=by omega
   simp only[Yt]at ad⊢;have d:=ax.own o au;obtain⟨aF,aG,l,-⟩:=kcN d;rw[l]at J d;have ag:=h_ d;clear q t c C l d;go_wp2_with fail;have aA:=ay o;have ac:Hi (∀c,kba m m.F.length o=c->∀(d:Nat) b n,kcq m k o d b n->∀(D:d<c.length),b c[d]=true->kcq m k o (d+1) b n):=h_ fun c l d b n r D A=>by subst l;exact qh9 r D A
   have Z:Hi (∀c,kba m m.F.length o=c->∀(d:Nat) b n,kcq m k o d b n->∀(D:d<c.length),b c[d]=false->kcq m k o (d+1) (up b c[d] true) (n++[c[d]])/\kbK (up b c[d] true) m.F.length=kbK b m.F.length+1):=h_ fun c l d b n r D A=>by subst l;exact qh8 HV r D rfl A
   have aa:Hi (∀c,kba m m.F.length o=c->∀b n,kcq m k o c.length b n->kf4 m k b n):=h_ fun c l b n r=>by subst l;exact qcv HV r
   have X:Hi (∀c,kba m m.F.length o=c->∀e,e∈c->e<m.F.length):=h_ fun c l e T=>by subst l;exact qoj m _ o e T
   obtain⟨c,I⟩:=Nq (kba m m.F.length o);rw[I]at ag aA J;replace ac:=h_ (ac c I);replace Z:=h_ (Z c I);replace aa:=h_ (aa c I);replace X:=h_ (X c I);clear W R v N;have N:kbK b m.F.length=kbK b m.F.length:=rfl;obtain⟨C0,aH⟩:=Nq (kbK b m.F.length)
   try rw[I]
   clear I N;go_wp2_with fail;clear K J;go_loopw [6,28] (fun L I J=>∃(d f h i:Nat) (zs:List Nat) (b:Nat->Bool),d<=c.length/\I=J6 d/\L=.slice (some ⟨f,h,none⟩) zs.length i/\Que J (g+1) f h i zs/\Blk J g 4 (ms m.F.length b)/\kcq m k o d b zs/\C0<=kbK b m.F.length/\zs.length+C0=n.length+kbK b m.F.length/\Below g w J) (fun _ I _=>c.length - (intOf I).toNat)
   case atStart=>exact⟨0,f,aw,i - 1,n,b,nZ _,rfl,rfl,y,s,Y,by omega,by omega,z⟩
   case round =>
    clear y s Y z af ae ad ao S U V;obtain⟨d,f,h,i,zs,b,hp,rfl,rfl,q,t,r,am,an,C⟩:=hrel;obtain⟨v,s,Y,z⟩:=oD q t r C;have af:=q.lt;have ae:=q.lo;have ad:=r.few;have ao:=qnu b m.F.length;by_cases U:d<c.length
    . have aC:(d:Int)<c.length:=by omega
      obtain⟨g2,rfl,aK,-,zc⟩:=qkv (qgi ag (show Below w.heap.size w wr by rw[O];exact C)) d U;have az:c[d]<m.F.length:=X _ (Yi U);have aL:((c[d]:Nat):Int)<m.F.length:=(by omega);have W:=(t.cell c[d]).trans (kdu b az);have fx:=t.free c[d];obtain⟨ah,I⟩:=oB (ac d b zs r U) (Z d b zs r U);clear q t r C;generalize c[d]=e at *;cases A:b e
      . obtain⟨J,aI⟩:=I A
        have R:=h_ J;rw[A]at W;clear A J ah I;have I:=h_ (s.set e (.bool true));rw[kfz]at I;obtain⟨B,y⟩:=oB (z.setCell (p:=⟨g,e,none⟩) (nR g) (.bool true)) (v.other (a:=⟨g,e,none⟩) (.bool true) (by show f≠g;omega));have aq:(wr.setCell ⟨g,e,none⟩ (.bool true)).heap.size=wr.heap.size:=(by simp);obtain⟨S,K⟩:=Nq (wr.setCell ⟨g,e,none⟩ (.bool true));rw[K]at I B y aq;have E:=(bR S.heap.size S).alloc (nR _) (.cells #[J6 (e:Nat)] 3);replace I:=mB I E;replace B:=h_ (B.trans (E.mono (by omega)));replace y:=h_ (y.mono E y.lt);have HN:=h_ (cell_one_new S (J6 (e:Nat)) 3);obtain⟨Wb,J⟩:=Nq (S.alloc (.cells #[J6 (e:Nat)] 3));rw[J]at I B y HN;have aM:Wb.heap.size=wr.heap.size+1:=(by rw[<- J];simp;omega);clear E;go_wp2_with (at_builtin;refine wpList_append_arg _ rfl _ _ 89 rfl 3 i1 _ 1 8 underlying89 hj aD av aE rfl (by decide) f h zs.length i (ui zs) rfl (by simp[ui]) ?olds ⟨wr.heap.size,0,none⟩ 1 1 [J6 (e:Nat)] rfl rfl ?c1 ?c2 ?spare (by unfold maxLen;omega) (by omega) ?room ?grow)
        case olds=>(try rw[K]);(try rw[J]);exact y.olds
        case c1 =>
         try rw[K]
         try rw[J]
         have D:=HN.u;rw[aq]at D;exact D
        case c2=>simp[Value.oneCell']
        case spare=>(try rw[K]);(try rw[J]);exact y.spare rfl
        case room =>
         intro V
         try rw[K]
         try rw[J]
         obtain⟨E,N,D⟩:=oC (y.push (x:=e) V) (I.other (a:=⟨f,h+zs.length,none⟩) (J6 (e:Nat)) (by show g≠f;omega)) (B.setCell (p:=⟨f,h+zs.length,none⟩) (by show g<=f;omega) (J6 (e:Nat)));have al:Wb.setCells f (h+zs.length) [J6 (e:Nat)]=Wb.setCell ⟨f,h+zs.length,none⟩ (J6 (e:Nat)):=rfl
         try rw[Nat.mul_one]
         rw[al];clear al V;have aB:zs.length+1=(zs++[e]).length:=(by simp);rw[aB];clear W fx zc;go_wp2_with fail;go_roundw
         case rel=>first | exact⟨d+1,f,h,i,zs++[e],_,by omega,by go_num,rfl,E,N,R,by omega,by simp;omega,D⟩ | ((repeat apply Exists.intro);exact⟨⟨d+1,f,h,i,zs++[e],_,by omega,by go_num,rfl,E,N,R,by omega,by simp;omega,D⟩,rfl⟩)
         case measure=>simp[intOf];omega
        case grow =>
         intro V v' w' H G
         try rw[K]at H G
         try rw[J]at H G
         obtain⟨g',aj,l,aJ,P⟩:=Que.made (base:=g+1) H (by omega);obtain⟨E,N,D⟩:=oC P (I.grown G (fun l=>by cases l)) (B.grown G (by omega) (fun L l=>by cases l));subst l;clear P H G V W fx zc;go_wp2_with fail;go_roundw
         case rel=>first | exact⟨d+1,g',0,aj,zs++[e],_,by omega,by go_num,rfl,E,N,R,by omega,by simp;omega,D⟩ | ((repeat apply Exists.intro);exact⟨⟨d+1,g',0,aj,zs++[e],_,by omega,by go_num,rfl,E,N,R,by omega,by simp;omega,D⟩,rfl⟩)
         case measure=>simp[intOf];omega
      . have B:=h_ (ah A)
        rw[A]at W;clear A;go_wp2_with fail;go_roundw
        case rel=>first | exact⟨d+1,f,h,i,zs,b,by omega,by go_num,rfl,v,s,B,am,an,z⟩ | ((repeat apply Exists.intro);exact⟨⟨d+1,f,h,i,zs,b,by omega,by go_num,rfl,v,s,B,am,an,z⟩,rfl⟩)
        case measure=>simp[intOf];omega
    . obtain rfl:d=c.length:=by omega
      have aC:¬ (c.length:Int)<(c.length:Int):=(by omega);have e:=h_ (aa b zs r);have A:=qnz t;clear q t r C;go_wp2_with fail;go_roundw
      case rel=>first | exact⟨f,h,i,zs,b,rfl,v,s,e,z⟩ | ((repeat apply Exists.intro);exact⟨⟨f,h,i,zs,b,rfl,v,s,e,z⟩,rfl⟩)
      case measure=>simp[kii];rw[A,ap];omega
theorem qga (m:Fm)(i:Nat):∀b,b∈kam m i->(∀a,a<m.F.length->Rch m a b->a∈kam m i)/\¬ Rch m b b:=by
 induction i with
 | zero=>intro b c;simp[kam]at c
 | succ i j =>
  cases g:nxt m (kam m i) with
  | none=>rw[qgb g];exact j
  | some h =>
   rw[qgc g];have n:=qko g;have o:h ∉ kam m i:=by
    have e:=qc6 m (i+1);rw[qgc g]at e;intro d;exact(List.nodup_append.1 e).2.2 h d h (by simp) rfl
   have l:∀a,a<m.F.length->Rch m a h->a∈kam m i:=fun a f d=>by
    obtain⟨p,k,q,-,e⟩:=(qlg f g).1 d;rcases e with rfl | e
    . exact k
    . exact(j p k).1 a f e
   intro b c;rcases Zk.1 c with c | c
   . exact⟨fun a f d=>Vg _ ((j b c).1 a f d),(j b c).2⟩
   . obtain rfl:b=h:=by simpa using c
     exact⟨fun a f d=>Vg _ (l a f d),fun d=>o (l b n.1 d)⟩
theorem qkj {m:Fm}(c:(kam m m.F.length).length=m.F.length):∀a,a<m.F.length->¬ Rch m a a:=fun a b f=>by
 have e:a∈kam m m.F.length:=Classical.byContradiction fun b=>by
  have d:=kdA m.F.length ((a :: kam m m.F.length).map fun a=>((a:Nat):Int)) ?_ ?_
  . simp at d;omega
  . exact List.Pairwise.map _ (fun g g c g=>c (by omega)) (Og.2 ⟨b,qc6 m _⟩)
  . intro i g
    obtain⟨h,b,rfl⟩:=Y4.1 g;rcases Z7.1 b with rfl | b
    . omega
    . have:=qqw m _ h b;omega
 exact(qga m _ a e).2 f
theorem q3t (m:Fm)(A:MA)(w:Tw)(S:m.F.length<=200)(Q:kbe m)(P:MSl w m A) :
 Calls prog 89 #[mV m A] w fun r c=>∃b,r=.returned (J6 b)/\Fst (fun a=>Rch m a a) m.F.length b/\Bw w c:=by
 have g:=h_ fun b a (p:a<m.F.length) (c:MSl b m A)=>q8g m A a b p S Q c;obtain⟨G,H,I,J,ar,K,D,E,W⟩:=A;unfold mV at g⊢;dsimp only at g⊢;obtain⟨i,O,x,k⟩:=nw w 37 (Jb G m H I J ar K D E);have Y:i.heap.size=w.heap.size+1:=by rw[<- O];simp
 have B:=h_ (P.mono k);go_enter func89,ntmps89;go_wp2_with fail;go_loopw [3] (fun c wr=>∃a:Nat,a<=m.F.length/\c=J6 a/\(∀b,b<a->¬ Rch m b b)/\Bw i wr) (fun c _=>m.F.length - (intOf c).toNat)
 case atStart=>exact⟨0,nZ _,rfl,(fun b j=>absurd j (nL _)),bR _ _⟩
 case round =>
  obtain⟨a,p,rfl,T,c⟩:=hrel;have h:=h_ T;have f:=mT k c;have t:=h_ c;have y:=mB x c;have C:=h_ (B.mono c);have Z:i.heap.size<=wr.heap.size:=c.size;obtain⟨y0,y1,y2,y3⟩:=kaf y;by_cases d:a<m.F.length
  . have R:(a:Int)<m.F.length:=by omega
    have v:=h_ (g wr a d C);go_wp2_with fail;refine v.mono ?_;rintro r V ⟨U,n,rfl,X,M,N,o⟩;have s:=(M.cell a).trans (kdu n d);have q:=N a d;have l:=mT f o;have u:=mT t o;cases e:n a
    . have z:Hi (∀b,b<a+1->¬ Rch m b b):=h_ fun b L=>by
       by_cases L:b=a
       . subst L;exact fun j=>by have:=q.2 j;rw[e]at this;cases this
       . exact h b (by omega)
      rw[e]at s;refine rQ ?_;exact⟨a+1,by omega,by go_num,z,u⟩
    . have b:Hi (Fst (fun a=>Rch m a a) m.F.length (a:Int)):=h_ (.inr ⟨a,d,rfl,q.1 e,h⟩)
      rw[e]at s;go_wp2_with fail;go_ret
      first | exact⟨_,rfl,b,l⟩ | exact⟨b,l⟩
  . obtain rfl:a=m.F.length:=by omega
    have R:¬ (m.F.length:Int)<(m.F.length:Int):=(by omega);have b:Hi (Fst (fun a=>Rch m a a) m.F.length (-1)):=h_ (.inl ⟨rfl,h⟩);go_wp2_with fail;go_ret
    first | exact⟨_,rfl,b,f⟩ | exact⟨b,f⟩
theorem q0u (m:Fm)(A:MA)(b:Nat)(w:Tw)(h:VfA m)(B:kbe m)(ha:MSl w m A)(hm:kbR w b (kaa m)) :
 Calls prog 95 #[wV m A b] w fun t d=>∃c,t=.returned (J6 c)/\Fst (fun a=>Rch m a a) m.F.length c/\Bw w d:=by
 have q:=h_ fun c (e:MSl c m A) (d:kbR c b (kaa m))=>q58 m A b c h B e d;have p:=h_ fun c (e:MSl c m A) (d:kbR c b (kaa m))=>qok m A b c h B e d;have H:=h_ fun c i a d g (C:a<m.F.length) (s:ka5 c i m.F.length g) (x:Fam c d m.F.length g (kba m m.F.length))=>q3y m i a d g c h C s x (fun c=>by have h1:=qj9 h c m.F.length (nR _);have h2:=h.nf;omega);have N:=h_ fun j=>qkj (m:=m) j;have r:=qqv m m.F.length;have ai:=h.nf;obtain⟨V,W,X,Y,ar,Z,T,U,ag⟩:=A;unfold wV at q p⊢;dsimp only at q p⊢;obtain⟨O,ah,k,e⟩:=nw w 121 #[.slice V m.L.length W,.slice X m.P.length Y,.slice ar m.R.length Z,.slice T m.F.length U,.map (some b)];obtain⟨n,l⟩:=oB (ha.mono e) (hm.mono e);obtain⟨y0,y1,y2,y3,y4⟩:=kaG k;go_enter func95,ntmps95;go_wp2_with fail;refine cQ (q O n l) fun Q d=>?_;replace n:=h_ (n.mono d);replace l:=h_ (l.mono d);replace k:=mB k d;replace e:=mT e d;obtain⟨y0,y1,y2,y3,y4⟩:=kaG k;cases o:decide ((kam m m.F.length).length<m.F.length)
 . have f:Hi (Fst (fun a=>Rch m a a) m.F.length (-1)):=h_ (.inl ⟨rfl,N (by have:=of_decide_eq_false o;omega)⟩)
   go_wp2_with fail;go_ret
   first | exact⟨_,rfl,f,e⟩ | exact⟨f,e⟩
 . clear o r
   go_wp2_with fail;refine(p Q n l).mono ?_;rintro t S ⟨i,g,rfl,x,s,ac,d⟩;obtain⟨v,I⟩:=oB s ac;replace e:=mT e d;go_wp2_with fail;go_loopw [12] (fun o wr=>∃a:Nat,a<=m.F.length/\o=J6 a/\(∀c,c<a->¬ Rch m c c)/\Bw S wr) (fun o _=>m.F.length - (intOf o).toNat)
   case atStart=>exact⟨0,nZ _,rfl,(fun c j=>absurd j (nL _)),bR _ _⟩
   case round =>
    obtain⟨a,C,rfl,ae,d⟩:=hrel;have r:=h_ ae;have o:=mT e d;have E:=h_ d;have K:Hi (ka5 wr i m.F.length g):=h_ (Blk.mono v d (Blk.lt v));have J:=h_ (I.mono d);by_cases D:a<m.F.length
    . have ad:(a:Int)<m.F.length:=by omega
      have G:=h_ (H wr i a _ g D K J);go_wp2_with fail;refine G.mono ?_;rintro t W3 ⟨bb,rfl,z,y⟩;have u:=mT o y;have F:=mT E y;cases bb
      . have M:Hi (∀c,c<a+1->¬ Rch m c c):=h_ fun c hj=>by
         by_cases aa:c=a
         . subst aa;exact fun j=>by have:=z.2 j;cases this
         . exact r c (by omega)
        refine rQ ?_;exact⟨a+1,by omega,by go_num,M,F⟩
      . have f:Hi (Fst (fun a=>Rch m a a) m.F.length (a:Int)):=h_ (.inr ⟨a,D,rfl,z.1 rfl,r⟩)
        go_wp2_with fail;go_ret
        first | exact⟨_,rfl,f,u⟩ | exact⟨f,u⟩
    . obtain rfl:a=m.F.length:=by omega
      have ad:¬ (m.F.length:Int)<(m.F.length:Int):=(by omega);have f:Hi (Fst (fun a=>Rch m a a) m.F.length (-1)):=h_ (.inl ⟨rfl,r⟩);go_wp2_with fail;go_ret
      first | exact⟨_,rfl,f,o⟩ | exact⟨f,o⟩
