import Derived.Test.YtenckgnkjkijnaaGreatDoorW21
set_option maxRecDepth 100000
set_option maxHeartbeats 64000000
namespace Go.Proofs.YtenckgnkjkijnaaGreatDoor
open Go Go.RowKit Go.Proofs.Tryz
variable {w W:Tw}{k i j:Nat}{t:TypeId}{v:Value}
theorem qgg {base n:Nat}{xs:Tl}(a:w.ownsRow base t i v n xs)(h:k<=base):w.ownsRow k t i v n xs:=by
 rcases a.2 with f | ⟨e,b,c,d,j,g⟩
 . exact⟨a.1,.inl f⟩
 . exact⟨a.1,.inr ⟨e,b,c,d,Y5 h j,g⟩⟩
theorem qe3 (w:Tw)(t:TypeId)(v:Value):∀(b:Nat) (a:Value),[v][b]? = some a->(w.alloc (.cells #[v] t)).cell? ((⟨w.heap.size,0,none⟩:Addr).add b)=some a:=fun b a a=>by
 match b,a with
 | 0,a=>simp at a;subst a;exact(Blk.new w t #[v]).cell 0
theorem qpf {base n:Nat}{G:Nat->Int}(c:w.ownsRow base t 1 v n (is n G)):∃b a,v=.slice b n a/\kbx w b n G:=by
 rcases c.2 with ⟨rfl,rfl⟩ | ⟨e,a,g,rfl,h,f,i,-,j,k⟩
 . exact⟨none,0,rfl,fun d b=>absurd b (nL _)⟩
 . refine⟨_,a,rfl,fun d b=>⟨e,0,rfl,(Yq.1 f).1,?_⟩⟩
   have:=c.cellAt d (by omega);rw[Y3,this];simp[is,b]
theorem kcs {b:Nat}{u:Value}(a:Blk w b t [v,u]) :
 (w.cell? ⟨b,0,none⟩=some v/\w.cell? ⟨b,1,none⟩=some u)/\(w.frozen? ⟨b,0,none⟩=false/\w.frozen? ⟨b,1,none⟩=false):=⟨⟨a.cell 0,a.cell 1⟩,⟨a.free 0,a.free 1⟩⟩
theorem q6m (n:Nat)(a:To)(m c:Nat)(f g:Nat->Nat)(w:Tw)(h1:1<=n)(G:n<=32)(hm:m<=256)(e:kbB w a m (fun b=>(f b:Int)) (fun b=>(g b:Int)))(h:∀b,b<m->f b<n)(k:∀b,b<m->g b<n)(F:Nat->Bool)(l:kbO n (kat kb3 f g m n)=F) :
 Calls prog 87 #[.agg (Jn n a m c)] w fun i A=>kce n F i A/\Bw w A:=by
 obtain⟨p,R⟩:=oB (by simpa using Blk.new (w.alloc (.cells (Jn n a m c) 162)) 123 #[J6 0,J7,J7,J7,J6 0,J6 0]:Blk ((w.alloc (.cells (Jn n a m c) 162)).alloc (.cells #[J6 0,J7,J7,J7,J6 0,J6 0] 123)) (w.heap.size+1) 123 [J6 0,J7,J7,J7,J6 0,J6 0]) ((Blk.new w 162 (Jn n a m c)).alloc (.cells #[J6 0,J7,J7,J7,J6 0,J6 0] 123));have q:Hi (Bw w ((w.alloc (.cells (Jn n a m c) 162)).alloc (.cells #[J6 0,J7,J7,J7,J6 0,J6 0] 123))):=((bR _ w).alloc (nR _) _).alloc (by simp) _;go_enter func87,ntmps87;go_wp2_with fail;refine(q1f n a m c _ _ _ (by omega) (by omega) hm (e.mono q) true ⟨fun _ b Q=>by have:=h b Q;have:=k b Q;omega,fun _=>rfl⟩).mono ?_;rintro i w1 ⟨rfl,o⟩;replace p:=mB p o;replace R:=mB R o;replace q:=mT q o;clear o;obtain⟨⟨t,y⟩,-⟩:=kcs R;go_wp2_with fail;refine(q3i n a m c f g _ h1 G hm (e.mono q) h k).mono ?_;rintro i j ⟨x,rfl,d,r,o⟩;have s:=p.lt;replace p:=mB p o;replace R:=mB R o;replace q:=mT q o;clear o t y;rw[l]at d;have D:=h_ d;have P:x≠w.heap.size+1:=by omega
 have aB:w.heap.size+1<j.heap.size:=p.lt;clear d e h k l r s;have aU:=kc0 G;go_wp2_with fail
 go_loop [6] (fun d=>∃b:Nat,b<=n/\d=J6 b/\∀s,s<b->∀k,k<n->¬ (s≠k/\F (s*n+k)=true/\F (k*n+s)=true)) (fun d=>n - (intOf d).toNat)
 case atStart=>exact⟨0,nZ _,rfl,fun s h=>absurd h (nL _)⟩
 case round =>
  obtain⟨b,Q,rfl,l⟩:=hrel;have H:=h_ l;clear l;by_cases C:b<n
  . go_wp2_with fail
    go_loop [7] (fun d=>∃e:Nat,e<=n/\d=J6 e/\∀k,k<e->¬ (b≠k/\F (b*n+k)=true/\F (k*n+b)=true)) (fun d=>n - (intOf d).toNat)
    case atStart=>exact⟨0,nZ _,rfl,fun s h=>absurd h (nL _)⟩
    case round =>
     obtain⟨e,hj,rfl,l⟩:=hrel;have r:=h_ l;clear l;by_cases z:e<n
     . have B:(((b:Int) != e)=true/\F (b*n+e)=true/\F (e*n+b)=true)∨(((b:Int) != e)=false∨(((b:Int) != e)=true/\F (b*n+e)=false)∨(((b:Int) != e)=true/\F (b*n+e)=true/\F (e*n+b)=false)):=by
        cases ((b:Int) != e) <;> cases F (b*n+e) <;> cases F (e*n+b) <;> simp
       rcases B with ⟨y,l,t⟩ | B
       . have E:Hi (kdL F n):=⟨b,e,C,z,fun i=>by subst i;simp at y,l,t⟩
         obtain⟨⟨r0,r1,r2,r3,r4,r5⟩,⟨X,Y,Z,f3,f4,f5⟩⟩:=kcH p;have K:=h_ (qa7 q (Vq _) (J6 0) J7 J7 J7 (J6 0) (J6 0));go_wp2_with (go_at_call 126;refine(qfq _ _ _ _ _ _ F _ (nR _) (by omega) (by omega) G D.bools).mono ?_;rintro i A ⟨rfl,rfl⟩);exact bodyPost_ret (v:=.tuple #[kaM,J6 2]) (by simp[results,results87,go_sem,kaM, *]) rfl ⟨.inl ⟨E,rfl⟩,K⟩
       . have I:Hi (¬ (b≠e/\F (b*n+e)=true/\F (e*n+b)=true)):=fun⟨y,l,t⟩=>by
          rcases B with h | ⟨_,h⟩ | ⟨_,_,h⟩
          . simp at h;omega
          . exact Ve (h.symm.trans l)
          . exact Ve (h.symm.trans t)
         rcases B with y | ⟨y,l⟩ | ⟨y,l,t⟩
         all_goals
          go_wp2_with (go_at_call 126;refine(qfq _ _ _ _ _ _ F _ (nR _) (by omega) (by omega) G D.bools).mono ?_;rintro i A ⟨rfl,rfl⟩)
          go_round
          case rel=>exact⟨e+1,by omega,by go_num,fun k E=>by
           by_cases i:k=e
           . rw[i];exact I
           . exact r k (by omega)⟩
          case measure=>simp[intOf];omega
     . go_wp2_with fail
       go_round
       case rel=>exact⟨b+1,by omega,by go_num,fun s B k E=>by
        by_cases i:s=b
        . rw[i];exact r k (by omega)
        . exact H s (by omega) k E⟩
       case measure=>simp[intOf];omega
  . obtain rfl:n=b:=by omega
    have t:¬ kdL F n:=fun⟨s,k,B,E,h⟩=>H s (by omega) k E h;have W:=h_ t;clear t H C Q;go_wp2_with fail;have t:Bw j ((j.alloc (.cells #[] 3)).alloc (.cells #[] 3)):=((bR _ j).alloc (nR _) _).alloc (by simp) _;have k:((j.alloc (.cells #[] 3)).alloc (.cells #[] 3)).ownsRow j.heap.size 3 1 (.slice (some ⟨j.heap.size,0,none⟩) 0 0) 0 (is 0 (JF F n)):=(qgj j 3).alloc _;have s:((j.alloc (.cells #[] 3)).alloc (.cells #[] 3)).ownsRow j.heap.size 3 1 (.slice (some ⟨j.heap.size+1,0,none⟩) 0 0) 0 (is 0 (MF F n)):=by
     have:=qgj (j.alloc (.cells #[] 3)) 3;simp only[Yp]at this;exact qgg this (Vq _)
    obtain⟨E,H,I⟩:=oC k s t;clear k s t;have B:∀x:Nat->Int,(false=true ↔ ∃d,d<0*n/\x d<0):=fun x=>⟨(fun h=>by cases h),(fun⟨d,k,_⟩=>by simp at k)⟩;go_loopw [8,9,10,11,12] (fun U V nj nm d wr=>∃(b:Nat) (s t:Bool),b<=n/\d=J6 b/\nj=.bool s/\nm=.bool t/\(s=true ↔ ∃d,d<b*n/\JF F n d<0)/\(t=true ↔ ∃d,d<b*n/\MF F n d<0)/\wr.ownsRow j.heap.size 3 1 U (b*n) (is (b*n) (JF F n))/\wr.ownsRow j.heap.size 3 1 V (b*n) (is (b*n) (MF F n))/\U.ownBlock≠V.ownBlock/\Bw j wr) (fun _ _ _ _ d _=>n - (intOf d).toNat)
    case atStart=>exact⟨0,false,false,nZ _,rfl,rfl,rfl,B _,B _,by simpa using E.u,by simpa using H.u,by simp[Value.ownBlock],I⟩
    case round =>
     clear E H I B;obtain⟨b,s,t,Q,rfl,rfl,rfl,L,M,S,T,N,H⟩:=hrel;obtain⟨I,J,B,E,O,r⟩:=oF L M S T N H;clear L M S T N;by_cases C:b<n
     . clear H
       go_wp2_with fail;go_loopw [8,9,10,11,13] (fun U V nj nm d wr=>∃(e:Nat) (s t:Bool),e<=n/\d=J6 e/\nj=.bool s/\nm=.bool t/\(s=true ↔ ∃d,d<b*n+e/\JF F n d<0)/\(t=true ↔ ∃d,d<b*n+e/\MF F n d<0)/\wr.ownsRow j.heap.size 3 1 U (b*n+e) (is (b*n+e) (JF F n))/\wr.ownsRow j.heap.size 3 1 V (b*n+e) (is (b*n+e) (MF F n))/\U.ownBlock≠V.ownBlock/\Bw j wr) (fun _ _ _ _ d _=>n - (intOf d).toNat)
       case atStart=>exact⟨0,s,t,nZ _,rfl,rfl,rfl,I,J,B,E,O,r⟩
       case round =>
        clear I J B E O r;obtain⟨e,s,t,hj,rfl,rfl,rfl,L,M,S,T,N,H⟩:=hrel;obtain⟨I,J,B,E,O,r⟩:=oF L M S T N H;clear L M S T N;by_cases z:e<n
        . have aA:=(D.mono H D.lt).bools
          have ad:=h_ aA;have aT:=kbS C z;have T:(b*n+e) / n=b/\(b*n+e) % n=e:=by
           rw[Oe,Vb _ _ (by omega),Zv z,Zt,Zs z];simp
          obtain⟨M,aj⟩:∃L,JF F n (b*n+e)=L:=⟨_,rfl⟩;obtain⟨N,ak⟩:∃L,MF F n (b*n+e)=L:=⟨_,rfl⟩;have aC:kbu (ka3 F n b e) n=M:=(by rw[<- aj,JF,T.1,T.2]);have aD:kbu (ka4 F n b e) n=N:=(by rw[<- ak,MF,T.1,T.2]);obtain⟨U,V⟩:=oB aj ak;go_wp2_with fail;refine(qba _ _ _ n b e F _ (nR _) G C z ad M aC).mono ?_;rintro i A ⟨rfl,rfl⟩;go_wp2_with fail;refine(qbb _ _ _ n b e F _ (nR _) G C z ad N aD).mono ?_;rintro i A ⟨rfl,rfl⟩;have aR:∀L:Bool,(L=(decide (M<0)||s))->(L=true ↔ ∃d,d<b*n+(e+1)/\JF F n d<0):=fun L o=>by
           rw[o,Ze,Yk,I.u];refine⟨fun h=>?_,fun⟨d,k,h⟩=>?_⟩
           . rcases h with h | ⟨d,k,h⟩
             . exact⟨b*n+e,by omega,by rw[U.u];exact h⟩
             . exact⟨d,by omega,h⟩
           . by_cases i:d=b*n+e
             . left;rw[i,U.u]at h;exact h
             . exact .inr ⟨d,by omega,h⟩
          have aS:∀L:Bool,(L=(decide (N<0)||t))->(L=true ↔ ∃d,d<b*n+(e+1)/\MF F n d<0):=fun L o=>by
           rw[o,Ze,Yk,J.u];refine⟨fun h=>?_,fun⟨d,k,h⟩=>?_⟩
           . rcases h with h | ⟨d,k,h⟩
             . exact⟨b*n+e,by omega,by rw[V.u];exact h⟩
             . exact⟨d,by omega,h⟩
           . by_cases i:d=b*n+e
             . left;rw[i,V.u]at h;exact h
             . exact .inr ⟨d,by omega,h⟩
          have SJ:=h_ aR;have SM:=h_ aS;by_cases c1:M<0 <;> by_cases c2:N<0
          all_goals
           obtain⟨i0,k,al,am,an⟩:=info_parts qjo;go_wp2_with (at_builtin;refine wpList_append_own_at _ rfl _ _ 89 rfl j.heap.size 3 i0 _ 1 8 underlying89 k al am an rfl (by omega) u8 _ _ rfl (B.alloc _) ⟨A.heap.size,0,none⟩ 1 1 [J6 M] rfl rfl (qe3 A 3 _) (by simp[Value.oneCell']) (by unfold maxLen;omega) (by omega) (by have:=r.size;simp;omega) ?_);intro ac w3 aK L _ aa;have aG:=E.lt;have ai:=B.lt;have ay:=(r.alloc r.size (.cells #[J6 M] 3)).grown L (by have:=r.size;simp;omega) (fun q' i=>qc8 B i);have aO:=(E.alloc (.cells #[J6 M] 3)).kept L (.inr fun i=>O i.symm);have aI:ac.ownBlock≠u9.ownBlock:=by
            rcases aa with i | i
            . rw[i];exact O
            . rw[i];intro l
              have h9:=(aG _ l.symm).2
              first | omega | (simp only[Yp]at h9;omega)
           have aL:w3.ownsRow j.heap.size 3 1 ac (b*n+(e+1)) (is (b*n+(e+1)) (JF F n)):=by
            rw[<- Gb,qph,U.u];exact aK
           obtain⟨ag,ah,af,S⟩:=oD aL aO aI ay;go_wp2_with (at_builtin;refine wpList_append_own_at _ rfl _ _ 89 rfl j.heap.size 3 i0 _ 1 8 underlying89 k al am an rfl (by omega) u9 _ _ rfl (ah.alloc _) ⟨w3.heap.size,0,none⟩ 1 1 [J6 N] rfl rfl (qe3 w3 3 _) (by simp[Value.oneCell']) (by unfold maxLen;omega) (by omega) (by have:=S.size;simp;omega) ?_);intro ao w4 aN L _ aa;have ai:=ag.lt;have az:=(S.alloc S.size (.cells #[J6 N] 3)).grown L (by have:=S.size;simp;omega) (fun q' i=>qc8 ah i);have aM:=(ag.alloc (.cells #[J6 N] 3)).kept L (.inr af);have aJ:ac.ownBlock≠ao.ownBlock:=by
            rcases aa with i | i
            . rw[i];exact af
            . rw[i];intro l
              have h9:=(ai _ l).2
              first | omega | (simp only[Yp]at h9;omega)
           have aP:w4.ownsRow j.heap.size 3 1 ao (b*n+(e+1)) (is (b*n+(e+1)) (MF F n)):=by
            rw[<- Gb,qph,V.u];exact aN
           obtain⟨aw,ax,av,ap⟩:=oD aM aP aJ az;go_wp2_with fail;go_roundw
           case rel=>exact⟨e+1,_,_,by omega,by go_num,rfl,rfl,SJ _ (by first | (rw[Ye (by omega)];rfl) | (rw[Yd (by omega)];rfl)),SM _ (by first | (rw[Ye (by omega)];rfl) | (rw[Yd (by omega)];rfl)),aw,ax,av,ap⟩
           case measure=>simp[intOf];omega
        . obtain rfl:n=e:=by omega
          go_wp2_with fail;go_roundw
          case rel=>exact⟨b+1,s,t,by omega,by go_num,rfl,rfl,by rw[Z2];exact I,by rw[Z2];exact J,by rw[Z2];exact B,by rw[Z2];exact E,O,r⟩
          case measure=>simp[intOf];omega
     . obtain rfl:n=b:=by omega
       replace p:=mB p H;replace D:=mB D H;have aQ:w.heap.size+1<j.heap.size:=aB;replace q:=mT q H;have ae:=h_ D.bools;cases s
       . have S:Hi (∀d,d<n*n->0<=JF F n d):=fun d k=>by
          apply Classical.byContradiction;intro h;have:=I.2 ⟨d,k,by omega⟩;cases this
         cases t
         . have T:Hi (∀d,d<n*n->0<=MF F n d):=fun d k=>by
            apply Classical.byContradiction;intro h;have:=J.2 ⟨d,k,by omega⟩;cases this
           obtain⟨k,M,rfl,-⟩:=qpf B;obtain⟨L,N,rfl,-⟩:=qpf E;go_wp2_with fail
           go_loop [16,17,18] (fun U V d=>∃b:Nat,b<=n/\d=J6 b/\U=J6 (kbz (kaA F n n) b)/\V=J6 (kbz (kaB F n n) b)) (fun _ _ d=>n - (intOf d).toNat)
           case atStart=>exact⟨0,nZ _,rfl,rfl,rfl⟩
           case round =>
            obtain⟨b,Q,rfl,rfl,rfl⟩:=hrel;by_cases C:b<n
            . go_wp2_with fail
              go_loop [19,20,21] (fun U V d=>∃e:Nat,e<=n/\d=J6 e/\U=.bool (kaA F n e b)/\V=.bool (kaB F n e b)) (fun _ _ d=>n - (intOf d).toNat)
              case atStart=>exact⟨0,nZ _,rfl,rfl,rfl⟩
              case round =>
               obtain⟨e,hj,rfl,rfl,rfl⟩:=hrel;by_cases z:e<n
               . cases y:F (b*n+e) <;> cases l:F (e*n+b)
                 all_goals
                  obtain⟨U,V⟩:=oB (q35 F n e b) (q33 F n e b);go_wp2_with fail;refine(qfq _ _ _ n b e F _ (nR _) C z G ae).mono ?_;rintro i A ⟨rfl,rfl⟩;rw[y];go_wp2_with fail;refine(qfq _ _ _ n e b F _ (nR _) z C G ae).mono ?_;rintro i A ⟨rfl,rfl⟩;rw[l];go_wp2_with fail
                  go_round
                  case rel=>exact⟨e+1,by omega,by go_num,by rw[U.u,y];simp,by rw[V.u,l];simp⟩
                  case measure=>simp[intOf];omega
               . obtain rfl:n=e:=by omega
                 have A:Hi (kbz (kaA F n n) (b+1)=if kaA F n n b then (b:Int) else kbz (kaA F n n) b):=rfl;have U:Hi (kbz (kaB F n n) (b+1)=if kaB F n n b then (b:Int) else kbz (kaB F n n) b):=rfl;cases y:kaA F n n b <;> cases l:kaB F n n b
                 all_goals
                  go_wp2_with fail
                  go_round
                  case rel=>exact⟨b+1,by omega,by go_num,by rw[A.u,y];rfl,by rw[U.u,l];rfl⟩
                  case measure=>simp[intOf];omega
            . obtain rfl:n=b:=by omega
              obtain⟨l,A⟩:=Nq (kbz (kaA F n n) n);obtain⟨y,U⟩:=Nq (kbz (kaB F n n) n);rw[A,U];have z:=h_ (And.intro A U);obtain⟨⟨r0,r1,r2,r3,r4,r5⟩,⟨X,Y,Z,f3,f4,f5⟩⟩:=kcH p;have e:w.heap.size+1<j.heap.size:=aQ;have aF:=ownsRow_setCell_below (ownsRow_setCell_below (ownsRow_setCell_below (ownsRow_setCell_below (ownsRow_setCell_below (ownsRow_setCell_below B (a:=⟨w.heap.size+1,0,none⟩) e (J6 n)) (a:=⟨w.heap.size+1,1,none⟩) e (.slice (some ⟨x,0,none⟩) (n*n) (n*n))) (a:=⟨w.heap.size+1,2,none⟩) e (.slice k (n*n) M)) (a:=⟨w.heap.size+1,3,none⟩) e (.slice L (n*n) N)) (a:=⟨w.heap.size+1,4,none⟩) e (J6 l)) (a:=⟨w.heap.size+1,5,none⟩) e (J6 y);have aH:=ownsRow_setCell_below (ownsRow_setCell_below (ownsRow_setCell_below (ownsRow_setCell_below (ownsRow_setCell_below (ownsRow_setCell_below E (a:=⟨w.heap.size+1,0,none⟩) e (J6 n)) (a:=⟨w.heap.size+1,1,none⟩) e (.slice (some ⟨x,0,none⟩) (n*n) (n*n))) (a:=⟨w.heap.size+1,2,none⟩) e (.slice k (n*n) M)) (a:=⟨w.heap.size+1,3,none⟩) e (.slice L (n*n) N)) (a:=⟨w.heap.size+1,4,none⟩) e (J6 l)) (a:=⟨w.heap.size+1,5,none⟩) e (J6 y);have aE:=((((((D.other (a:=⟨w.heap.size+1,0,none⟩) (J6 n) P).other (a:=⟨w.heap.size+1,1,none⟩) (.slice (some ⟨x,0,none⟩) (n*n) (n*n)) P).other (a:=⟨w.heap.size+1,2,none⟩) (.slice k (n*n) M) P).other (a:=⟨w.heap.size+1,3,none⟩) (.slice L (n*n) N) P).other (a:=⟨w.heap.size+1,4,none⟩) (J6 l) P).other (a:=⟨w.heap.size+1,5,none⟩) (J6 y) P);obtain⟨K,aq,au,V⟩:=oD (qa7 q (Vq _) (J6 n) (.slice (some ⟨x,0,none⟩) (n*n) (n*n)) (.slice k (n*n) M) (.slice L (n*n) N) (J6 l) (J6 y)) aF aH aE;go_wp2;refine bQ (v:=.tuple #[.agg #[J6 n,.slice (some ⟨x,0,none⟩) (n*n) (n*n),.slice k (n*n) M,.slice L (n*n) N,J6 l,J6 y],J6 0]) ⟨.inr (.inr (.inr ⟨W,S,T,some ⟨x,0,none⟩,k,L,n*n,M,N,by rw[z.u.1,z.u.2],V.bools,?_,?_⟩)),K⟩
              . obtain⟨x1,x2,i,h⟩:=qpf aq
                cases i;exact h
              . obtain⟨x1,x2,i,h⟩:=qpf au
                cases i;exact h
         . have T:Hi (∃d,d<n*n/\MF F n d<0):=J.1 rfl
           obtain⟨⟨r0,r1,r2,r3,r4,r5⟩,⟨X,Y,Z,f3,f4,f5⟩⟩:=kcH p;have K:=h_ (qa7 q (Vq _) (J6 0) J7 J7 J7 (J6 0) (J6 0));go_wp2;refine bodyPost_ret (v:=.tuple #[kaM,J6 4]) (by simp[results,results87,go_sem,kaM, *]) rfl ⟨?_,K⟩;exact .inr (.inr (.inl ⟨W,S,T,rfl⟩))
       . have S:Hi (∃d,d<n*n/\JF F n d<0):=I.1 rfl
         obtain⟨⟨r0,r1,r2,r3,r4,r5⟩,⟨X,Y,Z,f3,f4,f5⟩⟩:=kcH p;have K:=h_ (qa7 q (Vq _) (J6 0) J7 J7 J7 (J6 0) (J6 0));go_wp2;refine bodyPost_ret (v:=.tuple #[kaM,J6 3]) (by simp[results,results87,go_sem,kaM, *]) rfl ⟨?_,K⟩;exact .inr (.inl ⟨W,S,rfl⟩)
theorem qbr {n B R:Nat}{g f:Nat->Nat}{Rl:Nat->Nat->Bool}{b:Ending}{w':Tw}(a:kcb n g f Rl B b w')(w:R<B)(v:Value):kcb n g f Rl B b (w'.setCell ⟨R,j,none⟩ v):=by
 rcases a with a | a | a | ⟨p,e,h,i,c,d,o,top,r,k,l,m,s,t,u,q⟩
 . exact .inl a
 . exact .inr (.inl a)
 . exact .inr (.inr (.inl a))
 . exact .inr (.inr (.inr ⟨p,e,h,i,c,d,o,top,r,k.other v (by simp;omega),l.other v (by simp;omega),m.other v (by simp;omega),s,t,u,q⟩))
theorem q63 {n B:Nat}{g f:Nat->Nat}{Rl:Nat->Nat->Bool}{b:Ending}{w':Tw}(h:kcb n g f Rl B b w'):∃(i:Int) (a c d:To) (l m o c1 c2 c3:Nat) (j k e:Int),b=.returned (.tuple #[.agg #[J6 i,.slice a l c1,.slice c m c2,.slice d o c3,J6 j,J6 k],J6 e]):=by
 rcases h with ⟨-,a⟩ | ⟨-,-,a⟩ | ⟨-,-,-,a⟩ | ⟨-,i,j,k,d,e,c,top,a,-⟩
 . exact⟨0,none,none,none,0,0,0,0,0,0,0,0,2,a⟩
 . exact⟨0,none,none,none,0,0,0,0,0,0,0,0,3,a⟩
 . exact⟨0,none,none,none,0,0,0,0,0,0,0,0,4,a⟩
 . exact⟨n,_,_,_,_,_,_,_,_,_,c,top,0,a⟩
theorem q8l {n B:Nat}{g f:Nat->Nat}{Rl:Nat->Nat->Bool}{b:Ending}{w':Tw}(a:kcb n g f Rl B b w')(s:k<=B):kcb n g f Rl k b w':=by
 rcases a with a | a | a | ⟨p,e,h,i,c,d,o,top,r,j,l,m,t,u,v,q⟩
 . exact .inl a
 . exact .inr (.inl a)
 . exact .inr (.inr (.inl a))
 . exact .inr (.inr (.inr ⟨p,e,h,i,c,d,o,top,r,j,l,m,by omega,by omega,by omega,q⟩))
def kho (w':Tw)(A:Nat)(v0 v1:Value):Prop:=w'.cell? ⟨A,0,none⟩=some v0/\w'.cell? ⟨A,1,none⟩=some v1
theorem q3d (N:Int)(a:To)(m c:Nat)(w:Tw)(h:∀b,Bw w b->Gv 164 #[.agg (Jn N a m c)] b (.bool false)) :
 Gv 135 #[.agg (Jn N a m c)] w (.tuple #[kaM,J6 1]):=by
 obtain⟨d,f⟩:=oB (by simpa using Blk.new (w.alloc (.cells (Jn N a m c) 162)) 123 #[J6 0,J7,J7,J7,J6 0,J6 0]:Blk ((w.alloc (.cells (Jn N a m c) 162)).alloc (.cells #[J6 0,J7,J7,J7,J6 0,J6 0] 123)) (w.heap.size+1) 123 [J6 0,J7,J7,J7,J6 0,J6 0]) ((Blk.new w 162 (Jn N a m c)).alloc (.cells #[J6 0,J7,J7,J7,J6 0,J6 0] 123));have b:Hi (Bw w ((w.alloc (.cells (Jn N a m c) 162)).alloc (.cells #[J6 0,J7,J7,J7,J6 0,J6 0] 123))):=((bR _ w).alloc (nR _) _).alloc (by simp) _;go_enter func135,ntmps135;go_wp2_with fail;refine cQ (h _ b) fun x e=>?_;replace d:=mB d e;replace f:=mB f e;replace b:=mT b e;obtain⟨⟨p,q,r,s,t,u⟩,⟨i,j,k,l,n,o⟩⟩:=kcH d;have g:=h_ (qa7 b (Vq _) (J6 0) J7 J7 J7 (J6 0) (J6 0));go_wp2;exact bodyPost_ret (v:=.tuple #[kaM,J6 1]) (by simp[results,results135,go_sem,kaM, *]) rfl ⟨rfl,g⟩
theorem q5a (n:Nat)(a:To)(m c:Nat)(f g:Nat->Nat)(w:Tw)(h1:1<=n)(Q:n<=32)(W:m<=256)(H:kbB w a m (fun b=>(f b:Int)) (fun b=>(g b:Int)))(U:∀b,b<m->f b<n)(V:∀b,b<m->g b<n)(Y:Tab w) :
 Calls prog 135 #[.agg (Jn n a m c)] w fun I k=>Bw w k/\∃o e t Rl,kau o (pb f g m)/\kaP e (fun a l=>a<n/\kaE o a l)/\kau e Rl/\kau t (fun l a=>decide (a<n)&&Rl a l)/\kcb n e t Rl w.heap.size I k:=by
 obtain⟨p,d⟩:=oB (by simpa using Blk.new (w.alloc (.cells (Jn n a m c) 162)) 123 #[J6 0,J7,J7,J7,J6 0,J6 0]:Blk ((w.alloc (.cells (Jn n a m c) 162)).alloc (.cells #[J6 0,J7,J7,J7,J6 0,J6 0] 123)) (w.heap.size+1) 123 [J6 0,J7,J7,J7,J6 0,J6 0]) ((Blk.new w 162 (Jn n a m c)).alloc (.cells #[J6 0,J7,J7,J7,J6 0,J6 0] 123));have h:Hi (Bw w ((w.alloc (.cells (Jn n a m c) 162)).alloc (.cells #[J6 0,J7,J7,J7,J6 0,J6 0] 123))):=((bR _ w).alloc (nR _) _).alloc (by simp) _;go_enter func135,ntmps135;go_wp2_with fail;refine(q4i n a m c _ _ _ (by omega) (by omega) W (H.mono h) true ⟨fun _ b q=>by have:=U b q;have:=V b q;omega,fun _=>rfl⟩).mono ?_;rintro I P ⟨rfl,b⟩;replace p:=mB p b;replace d:=mB d b;replace h:=mT h b;have S0:kho P w.heap.size (J6 n) (.slice a m c):=⟨d.cell 0,d.cell 1⟩;have ac:=h_ S0;go_wp2_with fail;refine wp_region_held_drew (S:=fun k=>kho k w.heap.size (J6 n) (.slice a m c)) (by kernel_rfl) ac (fun q=>?_);refine tj 0 8 (J9 w.heap.size 0) q ?_ (hy:=fun w k=>by obtain⟨D,E⟩:=k;simp[execOp,go_sem, *]);refine tj 1 9 (J6 n) q ?_ (hy:=fun w k=>by obtain⟨D,E⟩:=k;simp[execOp,go_sem, *]);refine tj 2 10 (.agg (Jn n a m c)) q ?_ (hy:=fun w k=>by obtain⟨D,E⟩:=k;simp[execOp,go_sem, *]);refine tj 4 12 (J9 w.heap.size 0) q ?_ (hy:=fun w k=>by obtain⟨D,E⟩:=k;simp[execOp,go_sem, *]);simp only[sX,sY,sZ];refine tj 5 13 (J6 n) q ?_ (hy:=fun w k=>by obtain⟨D,E⟩:=k;simp[execOp,go_sem, *]);simp only[sX,sY,sZ];refine kaL (i:=3) (f:=166) (args:=#[.agg (Jn n a m c)]) (R:=fun C r=>∃o,C=.agg (us o).toArray/\kau o (pb f g m)/\Bw P r) 11 rfl rfl (by rfl) (by kernel_rfl) ?hrun1 ((q0g n a m c f g _ Q W (H.mono (h.trans ((q4s P 1).mono h.size))) U V).mono fun I F ⟨o,s,N,b⟩=>⟨_,s,o,rfl,N,q36 b⟩) ?_
 case hrun1=>simp[execOp,go_sem]
 rintro C w5 ⟨o,rfl,N,b⟩;replace p:=mB p b;replace d:=mB d b;replace h:=mT h b;refine⟨⟨d.cell 0,d.cell 1⟩,?_⟩;simp only[sX,sY,sZ];refine kaL (i:=6) (f:=167) (args:=#[.agg (us o).toArray,J6 n]) (R:=fun C r=>∃e,C=.agg (us e).toArray/\kaP e (fun a l=>a<n/\kaE o a l)/\Bw w5 r) 14 rfl rfl (by rfl) (by kernel_rfl) ?hrun2 ((qad o n w5 Q (fun a H=>(N a H).1) (Y.mono h)).mono fun I F ⟨e,s,M,b⟩=>⟨_,s,e,rfl,M,b⟩) ?_
 case hrun2=>simp[execOp,go_sem]
 rintro C F ⟨e,rfl,M,b⟩;replace p:=mB p b;replace d:=mB d b;replace h:=mT h b;refine⟨⟨d.cell 0,d.cell 1⟩,?_⟩;simp only[sX,sY,sZ];have X:kau e (fun a l=>(e a).testBit l):=fun a H=>⟨(M a H).1,fun l=>rfl⟩;refine kaL (i:=7) (f:=165) (args:=#[J6 n,.agg (us e).toArray]) (R:=fun C r=>Bw F r/\∃t,kau t (fun l a=>decide (a<n)&&(e a).testBit l)/\kcb n e t (fun a l=>(e a).testBit l) F.heap.size (.returned C) r) 15 rfl rfl (by rfl) (by kernel_rfl) ?hrun3 ((q3x n e (fun a l=>(e a).testBit l) F h1 Q X (Y.mono h)).mono fun I O ⟨b,t,T,J⟩=>?_) ?_
 case hrun3=>simp[execOp,go_sem]
 . obtain⟨u,l,r,s,z,A,B,c1,c2,c3,x,y,L,rfl⟩:=q63 J
   exact⟨_,rfl,b,t,T,J⟩
 rintro C O ⟨b,t,T,J⟩;have G:w.heap.size+1<F.heap.size:=p.lt;replace p:=mB p b;replace d:=mB d b;replace h:=mT h b;have ae:=h.size;have ad:w.heap.size<=F.heap.size:=by omega
 obtain⟨u,l,r,s,z,A,B,c1,c2,c3,x,y,L,Z⟩:=q63 J;simp only[Ending.returned.injEq]at Z;subst Z;refine⟨⟨d.cell 0,d.cell 1⟩,?_⟩;simp only[sX,sY,sZ];have q:kho O w.heap.size (J6 n) (.slice a m c):=⟨d.cell 0,d.cell 1⟩;refine tj 8 16 (.agg #[J6 u,.slice l z c1,.slice r A c2,.slice s B c3,J6 x,J6 y]) q ?_ (hy:=fun w k=>by obtain⟨D,E⟩:=k;simp[execOp,go_sem, *]);refine tj 9 17 (J6 L) q ?_ (hy:=fun w k=>by obtain⟨D,E⟩:=k;simp[execOp,go_sem, *]);simp only[sX,sY,sZ];obtain⟨⟨r0,r1,r2,r3,r4,r5⟩,⟨f0,f1,f2,f3,f4,f5⟩⟩:=kcH p;have K:=((((((d.other (a:=⟨w.heap.size+1,0,none⟩) (J6 u) (by simp)).other (a:=⟨w.heap.size+1,1,none⟩) (.slice l z c1) (by simp)).other (a:=⟨w.heap.size+1,2,none⟩) (.slice r A c2) (by simp)).other (a:=⟨w.heap.size+1,3,none⟩) (.slice s B c3) (by simp)).other (a:=⟨w.heap.size+1,4,none⟩) (J6 x) (by simp)).other (a:=⟨w.heap.size+1,5,none⟩) (J6 y) (by simp));have R9:=((((((p.set 0 (J6 u)).set 1 (.slice l z c1)).set 2 (.slice r A c2)).set 3 (.slice s B c3)).set 4 (J6 x)).set 5 (J6 y));refine ka0 (i:=10) (w':=((((((O.setCell ⟨w.heap.size+1,0,none⟩ (J6 u)).setCell ⟨w.heap.size+1,1,none⟩ (.slice l z c1)).setCell ⟨w.heap.size+1,2,none⟩ (.slice r A c2)).setCell ⟨w.heap.size+1,3,none⟩ (.slice s B c3)).setCell ⟨w.heap.size+1,4,none⟩ (J6 x)).setCell ⟨w.heap.size+1,5,none⟩ (J6 y))) rfl (by rfl) (by kernel_rfl) rfl ?hrun4 rfl ⟨K.cell 0,K.cell 1⟩ ?_
 case hrun4=>simp[execOp,go_sem,r0,r1,r2,r3,r4,r5,f0,f1,f2,f3,f4,f5]
 obtain⟨aa,HZ⟩:=oB (qbr (j:=5) (qbr (j:=4) (qbr (j:=3) (qbr (j:=2) (qbr (j:=1) (qbr (j:=0) J G (J6 u)) G (.slice l z c1)) G (.slice r A c2)) G (.slice s B c3)) G (J6 x)) G (J6 y)) (qa7 h (Vq _) (J6 u) (.slice l z c1) (.slice r A c2) (.slice s B c3) (J6 x) (J6 y));obtain⟨⟨s0,s1,s2,s3,s4,s5⟩,-⟩:=kcH R9;have q:kho _ w.heap.size (J6 n) (.slice a m c):=⟨K.cell 0,K.cell 1⟩;generalize ((((((O.setCell ⟨w.heap.size+1,0,none⟩ (J6 u)).setCell ⟨w.heap.size+1,1,none⟩ (.slice l z c1)).setCell ⟨w.heap.size+1,2,none⟩ (.slice r A c2)).setCell ⟨w.heap.size+1,3,none⟩ (.slice s B c3)).setCell ⟨w.heap.size+1,4,none⟩ (J6 x)).setCell ⟨w.heap.size+1,5,none⟩ (J6 y))=W9 at *;refine tj 11 3 (J6 L) q ?_ (hy:=fun w k=>by obtain⟨D,E⟩:=k;simp[execOp,go_sem, *]);simp only[sX,sY,sZ];refine wdQ ?_;go_wp2;refine bQ (v:=.tuple #[.agg #[J6 u,.slice l z c1,.slice r A c2,.slice s B c3,J6 x,J6 y],J6 L]) ⟨HZ,o,e,t,_,N,M,X,T,q8l aa ad⟩
theorem qpu {p:Nat->Bool}(e:p k=true):∀{a:Nat},k<a->(∀b,b<a->p b=true->b=k)->kbz p a=k
 | a+1,h,hu=>by
  rw[kbz];by_cases c:p a=true
  . rw[Yr c,hu a (by omega) c]
  . rw[Yl c]
    have:k≠a:=fun a=>c (a ▸ e);exact qpu e (by omega) (fun b a=>hu b (by omega))
theorem q4r {F:Nat->Bool}{n m c:Nat}:kaA F n m c=true ↔ ∀d,d<m->F (c*n+d)=true:=by simp[kaA]
theorem q4l {F:Nat->Bool}{n m c:Nat}:kaB F n m c=true ↔ ∀d,d<m->F (d*n+c)=true:=by simp[kaB]
theorem qju {n:Nat}{F G:Nat->Int}(b:∀a,a<n->F a=G a):is n F=is n G:=Zm fun a c=>by rw[b a (Yu.1 c)]
theorem qil {n:Nat}{F G:Nat->Bool}(b:∀a,a<n->F a=G a):bs n F=bs n G:=Zm fun a c=>by rw[b a (Yu.1 c)]
theorem qlm {u f g:Nat->Nat}{m n a b:Nat}(l:kb6 u f g m)(j:∀c,c<m->g c<n)(i:a<n)(h:kaE u a b):b<n :=
 h (fun e=>e<n) i fun e r _ o p=>by obtain⟨c,k,-,rfl⟩:=(l e o r).1 p;exact j c k
theorem q9b {u:Nat->Nat}{a b c:Nat}(j:kaE u a b)(k:kaE u b c):kaE u a c:=fun e i h=>k e (j e i h) h
theorem q95 {u f g:Nat->Nat}{m:Nat}(a:kau u (pb f g m)):kb6 u f g m:=fun c b e=>by rw[(a c b).2 e,kgw]
section
variable {u q f g:Nat->Nat} {m n:Nat} {F:Nat->Bool}
theorem qk4 (l:n<=32)(j:kau u (pb f g m))(k:∀c,c<m->f c<n)(i:∀c,c<m->g c<n)(o:kbO n (kat kb3 f g m n)=F){a b:Nat}:Le F n a b ↔ a<n/\kaE u a b:=by
 unfold Le;rw[<- o];refine⟨fun⟨c,h,e⟩=>⟨c,?_⟩,fun⟨c,h⟩=>?_⟩
 . rw[qse _ h]at e
   exact(q79 l (q95 j) k i c).1 e
 . have e:=qlm (q95 j) i c h
   refine⟨c,e,?_⟩;rw[qse _ e];exact(q79 l (q95 j) k i c).2 h
theorem khu (k:n<=32)(l:kau u (pb f g m))(i:∀a,a<m->f a<n)(j:∀a,a<m->g a<n)(h:kbO n (kat kb3 f g m n)=F)(e:kaP q (fun a b=>a<n/\kaE u a b)):kau q (part F n (n*n)):=fun a c =>
 ⟨(e a c).1,fun b=>by rw[Zh,(e a c).2 b,ql2,qk4 k l i j h]⟩
end
def kec (n:Nat)(F:Nat->Bool)(B:Nat)(e1 e2:Ending)(w1 w2:Tw):Prop :=
 (∃code:Int,e1=.returned (.tuple #[kaM,J6 code])/\e2=.returned (.tuple #[kaM,J6 code])) ∨
 (∃a1 a2 a3 c1 c2 c3 G1 G2 G3,∃bot top:Int,e1=.returned (.tuple #[.agg (Ji n a1 (n*n) c1 a2 c2 a3 c3 bot top),J6 0]) /\
  e2=.returned (.tuple #[.agg #[J6 n,.slice (some ⟨G1,0,none⟩) (n*n) (n*n),.slice (some ⟨G2,0,none⟩) (n*n) (n*n),.slice (some ⟨G3,0,none⟩) (n*n) (n*n),J6 bot,J6 top],J6 0]) /\
  ka1 w1 a1 (n*n) F/\kbx w1 a2 (n*n) (JF F n)/\kbx w1 a3 (n*n) (MF F n)/\Blk w2 G1 4 (bs (n*n) F)/\Blk w2 G2 3 (is (n*n) (JF F n))/\Blk w2 G3 3 (is (n*n) (MF F n))/\B<=G1/\B<=G2/\B<=G3/\G1≠G2/\G1≠G3/\G2≠G3)
section
variable {n B:Nat} {F:Nat->Bool} {q d:Nat->Nat}
theorem qpl {a b:Nat}(e:b<n)(i:∀c,c<n->¬ kaN F n a b c):JF F n (a*n+b) = -1:=by
 have c:(a*n+b) / n=a/\(a*n+b) % n=b:=by
  rw[Oe,Vb _ _ (by omega),Zv e,Zt,Zs e];simp
 rw[JF,c.1,c.2,qas fun h j=>q5g (i h j)]
theorem qpm {a b:Nat}(p:∀a b,Le F n a b->Le F n b a->a=b)(h:b<n)(j:k<n)(e:kaN F n a b k):JF F n (a*n+b)=k:=by
 have i:(a*n+b) / n=a/\(a*n+b) % n=b:=by
  rw[Oe,Vb _ _ (by omega),Zv h,Zt,Zs h];simp
 rw[JF,i.1,i.2];rcases q7s (ka3 F n a b) n with ⟨r,o,l,c⟩ | ⟨-,c⟩
 . rw[l,qk0 p o j (qb2.1 c) e]
 . have:=c k j
   rw[q80 e]at this;cases this
theorem qqb {a b:Nat}(e:b<n)(i:∀c,c<n->¬ kaO F n a b c):MF F n (a*n+b) = -1:=by
 have c:(a*n+b) / n=a/\(a*n+b) % n=b:=by
  rw[Oe,Vb _ _ (by omega),Zv e,Zt,Zs e];simp
 rw[MF,c.1,c.2,qas fun h j=>q5i (i h j)]
theorem qqc {a b:Nat}(p:∀a b,Le F n a b->Le F n b a->a=b)(h:b<n)(j:k<n)(e:kaO F n a b k):MF F n (a*n+b)=k:=by
 have i:(a*n+b) / n=a/\(a*n+b) % n=b:=by
  rw[Oe,Vb _ _ (by omega),Zv h,Zt,Zs h];simp
 rw[MF,i.1,i.2];rcases q7s (ka4 F n a b) n with ⟨r,o,l,c⟩ | ⟨-,c⟩
 . rw[l,qk8 p o j (qb6.1 c) e]
 . have:=c k j
   rw[q82 e]at this;cases this
theorem qlw {Rl:Nat->Nat->Bool}{V X:Ending}(h1:1<=n)(C:n<=32)(M:kau q (part F n (n*n)))(L:kau d (fun b a=>decide (a<n)&&part F n (n*n) a b))(ac:∀a b,a<n->b<n->Rl a b=F (a*n+b))
 (hr:∀a,a<n->Le F n a a) (ht:∀a b c,Le F n a b->Le F n b c->Le F n a c) (K:kce n F V w) (hL:kcb n q d Rl B X W):kec n F B V X w W:=by
 have J:¬ kdL F n->∀a b,Le F n a b->Le F n b a->a=b:=fun h a b v e=>Classical.byContradiction fun c=>h ⟨a,b,v.1,e.1,c,v.2.2,e.2.2⟩;have aj:(∃a,a<n/\¬ kan (q a) (d a)=2 ^ a)->kdL F n:=fun⟨a,j,h⟩=>Classical.byContradiction fun t=>h ((qsm C M L hr j).2 fun b v e=>J t a b v e);have D:(∀a,a<n->kan (q a) (d a)=2 ^ a)->¬ kdL F n:=fun h ⟨a,b,j,i,k,v,e⟩=>k ((qsm C M L hr j).1 (h a j) b ⟨j,i,v⟩ ⟨i,j,e⟩);have Y:∀{a b:Nat} {e:Int},a<n->b<n->kbF q a b e->_:=fun j i h=>qaj C M j i h;have Z:∀{a b:Nat} {e:Int},a<n->b<n->kbF d a b e->_:=fun j i h=>qak C L j i h;have ah:(∃a b,a<n/\b<n/\kbF q a b (-1))->∃e,e<n*n/\JF F n e<0:=fun⟨a,b,j,i,h⟩=>by
  rcases Y j i h with ⟨c,-,k,-⟩ | ⟨-,h⟩
  . omega
  . exact⟨a*n+b,kbS j i,by rw[qpl i h];omega⟩
 have ai:(∃a b,a<n/\b<n/\kbF d a b (-1))->∃e,e<n*n/\MF F n e<0:=fun⟨a,b,j,i,h⟩=>by
  rcases Z j i h with ⟨c,-,k,-⟩ | ⟨-,h⟩
  . omega
  . exact⟨a*n+b,kbS j i,by rw[qqb i h];omega⟩
 have aa:∀{x:Nat->Int},¬ kdL F n->(∀a,a<n->∀b,b<n->0<=x (a*n+b)/\kbF q a b (x (a*n+b)))->∀e,e<n*n->JF F n e=x e/\0<=x e/\∃c,c<n/\kaN F n (e / n) (e % n) c:=fun {x} t h e l=>by
  obtain⟨j,i,k⟩:=qfb l;obtain⟨o,y⟩:=h _ j _ i;rcases Y j i y with ⟨c,s,r,p⟩ | ⟨r,-⟩
  . have:=qpm (J t) i s p
    rw[k]at this r o;exact⟨by rw[this,r],o,c,s,p⟩
  . omega
 have ak:∀{A:Nat->Int},¬ kdL F n->(∀a,a<n->∀b,b<n->0<=A (a*n+b)/\kbF d a b (A (a*n+b)))->∀e,e<n*n->MF F n e=A e/\0<=A e/\∃c,c<n/\kaO F n (e / n) (e % n) c:=fun {A} t h e l=>by
  obtain⟨j,i,k⟩:=qfb l;obtain⟨o,y⟩:=h _ j _ i;rcases Z j i y with ⟨c,s,r,p⟩ | ⟨r,-⟩
  . have:=qqc (J t) i s p
    rw[k]at this r o;exact⟨by rw[this,r],o,c,s,p⟩
  . omega
 rcases hL with ⟨t,y⟩ | ⟨t,H,y⟩ | ⟨t,O,⟨x,H⟩,y⟩ | ⟨t,G1,G2,G3,x,A,U,top,y,R,S,T,x1,x2,x3,y1,y2,y3,H,O,lb,lt⟩
 . rcases K with ⟨-,s⟩ | ⟨o,-⟩ | ⟨o,-⟩ | ⟨o,-⟩
   . exact .inl ⟨2,s,y⟩
   all_goals exact absurd (aj t) o
 . rcases K with ⟨o,-⟩ | ⟨o,z,s⟩ | ⟨o,z,-⟩ | ⟨o,z,-⟩
   . exact absurd o (D t)
   . exact .inl ⟨3,s,y⟩
   all_goals
    obtain⟨e,l,h⟩:=ah H;have:=z e l;omega
 . have I:=aa (D t) H
   rcases K with ⟨o,-⟩ | ⟨o,⟨e,l,h⟩,s⟩ | ⟨o,z,P,s⟩ | ⟨o,z,P,-⟩
   . exact absurd o (D t)
   . have:=I e l;omega
   . exact .inl ⟨4,s,y⟩
   . obtain⟨e,l,h⟩:=ai O
     have:=P e l;omega
 . have I:=aa (D t) H
   have Q:=ak (D t) O;rcases K with ⟨o,-⟩ | ⟨o,⟨e,l,h⟩,s⟩ | ⟨o,z,⟨e,l,h⟩,s⟩ | ⟨o,z,P,a1,a2,a3,c1,c2,c3,s,k1,k2,k3⟩
   . exact absurd o (D t)
   . have:=I e l;omega
   . have:=Q e l;omega
   . have hA:=J o
     have af:∀a,a<n->∀b,b<n->∃c,c<n/\kaN F n a b c:=fun a j b i=>by
      obtain⟨-,-,c,k,p⟩:=I _ (kbS j i);have E:(a*n+b) / n=a/\(a*n+b) % n=b:=by
       rw[Oe,Vb _ _ (by omega),Zv i,Zt,Zs i];simp
      rw[E.1,E.2]at p;exact⟨c,k,p⟩
     have ag:∀a,a<n->∀b,b<n->∃c,c<n/\kaO F n a b c:=fun a j b i=>by
      obtain⟨-,-,c,k,p⟩:=Q _ (kbS j i);have E:(a*n+b) / n=a/\(a*n+b) % n=b:=by
       rw[Oe,Vb _ _ (by omega),Zv i,Zt,Zs i];simp
      rw[E.1,E.2]at p;exact⟨c,k,p⟩
     have ad:kbz (kaA F n n) n=U:=by
      rcases kgX C M lb with ⟨c,k,r,a⟩ | ⟨-,a⟩
      . rw[r]
        refine qpu (q4r.2 fun v h=>(a v h).2.2) k fun b p E=>?_;have N:=q4r.1 E;exact hA b c ⟨p,k,N c k⟩ (a b p)
      . obtain⟨c,k,h⟩:=qp1 h1 ht ag
        exact absurd h (a c k)
     have ae:kbz (kaB F n n) n=top:=by
      rcases kgY C L lt with ⟨c,k,r,a⟩ | ⟨-,a⟩
      . rw[r]
        refine qpu (q4l.2 fun v h=>(a v h).2.2) k fun b p E=>?_;have N:=q4l.1 E;exact hA b c (a b p) ⟨k,p,N c k⟩
      . obtain⟨c,k,h⟩:=qp4 h1 ht af
        exact absurd h (a c k)
     rw[ad,ae]at s;rw[qil (G:=F) fun e l=>by
      obtain⟨j,i,k⟩:=qfb l;rw[kbO,ac _ _ j i,k]]at R
     rw[qju (G:=JF F n) fun e l=>(I e l).1.symm]at S;rw[qju (G:=MF F n) fun e l=>(Q e l).1.symm]at T;exact .inr ⟨a1,a2,a3,c1,c2,c3,G1,G2,G3,U,top,s,y,k1,k2,k3,R,S,T,x1,x2,x3,y1,y2,y3⟩
end
section
variable {F:Nat->Bool} {n:Nat}
theorem ql5 {a b:Nat}(c:a<n)(d:b<n):a*n+b<n*n:=by
 have:(a+1)*n<=n*n:=Vf n (by omega);rw[Od]at this;omega
theorem qgm {a b:Nat}(c:b<n):(a*n+b) / n=a:=by
 rw[On,Nat.mul_add_div (by omega),Zv c];rfl
theorem qgn {a b:Nat}(c:b<n):(a*n+b) % n=b:=by
 rw[On,Nat.mul_add_mod,Zs c]
theorem kgi {a b:Nat}(h:a<n)(e:b<n)(g:∀c,c<n*n->0<=JF F n c):∃c:Nat,JF F n (a*n+b)=c/\c<n/\kaN F n a b c:=by
 have d:=g _ (ql5 h e);unfold JF at d⊢;rw[qgm e,qgn e]at d⊢;rcases q7s (ka3 F n a b) n with ⟨f,i,c,j⟩ | ⟨c,-⟩
 . exact⟨f,c,i,qb2.1 j⟩
 . rw[c]at d;omega
theorem kgj {a b:Nat}(h:a<n)(e:b<n)(g:∀c,c<n*n->0<=MF F n c):∃c:Nat,MF F n (a*n+b)=c/\c<n/\kaO F n a b c:=by
 have d:=g _ (ql5 h e);unfold MF at d⊢;rw[qgm e,qgn e]at d⊢;rcases q7s (ka4 F n a b) n with ⟨f,i,c,j⟩ | ⟨c,-⟩
 . exact⟨f,c,i,qb6.1 j⟩
 . rw[c]at d;omega
theorem q77 (p:1<=n)(A:n<=32)(r:∀a,a<n->F (a*n+a)=true)(s:∀a e b,a<n->e<n->b<n->F (a*n+e)=true->F (e*n+b)=true->F (a*n+b)=true)(B:¬ kdL F n)
 (x:∀c,c<n*n->0<=JF F n c) (y:∀c,c<n*n->0<=MF F n c):kfX n (n*n) (n*n) (n*n) F (JF F n) (MF F n) (kbz (kaA F n n) n) (kbz (kaB F n n) n):=by
 have o:∀a e,a<n->e<n->F (a*n+e)=true->F (e*n+a)=true->a=e:=fun a e i h v w=>Classical.byContradiction fun g=>B ⟨a,e,i,h,g,v,w⟩;have low:∀c,c<=n->1<=c->∃b,b<n/\∀d,d<c->F (b*n+d)=true:=by
  intro c
  induction c with
  | zero=>intro _ g;omega
  | succ c q =>
   intro E _;by_cases z:c=0
   . refine⟨0,by omega,fun d l=>?_⟩
     obtain rfl:d=0:=(by omega);exact r 0 (by omega)
   . obtain⟨b,f,l⟩:=q (by omega) (by omega)
     obtain⟨k,-,j,t,u,-⟩:=kgj (F:=F) f (show c<n by omega) y;refine⟨k,j,fun d C=>?_⟩;by_cases m:d=c
     . rw[m];exact u
     . exact s k b d j f (by omega) t (l d (by omega))
 have D:∀c,c<=n->1<=c->∃b,b<n/\∀d,d<c->F (d*n+b)=true:=by
  intro c
  induction c with
  | zero=>intro _ g;omega
  | succ c q =>
   intro E _;by_cases z:c=0
   . refine⟨0,by omega,fun d l=>?_⟩
     obtain rfl:d=0:=(by omega);exact r 0 (by omega)
   . obtain⟨b,f,l⟩:=q (by omega) (by omega)
     obtain⟨k,-,j,t,u,-⟩:=kgi (F:=F) f (show c<n by omega) x;refine⟨k,j,fun d C=>?_⟩;by_cases m:d=c
     . rw[m];exact u
     . exact s d b k (by omega) f j (l d (by omega)) t
 obtain⟨c,d,h⟩:=low n (nR _) p;obtain⟨m,l,q⟩:=D n (nR _) p;have t:kbz (kaA F n n) n=c:=qpu (q4r.2 h) d fun b f g=>o b c f d (q4r.1 g c d) (h b f);have u:kbz (kaB F n n) n=m:=qpu (q4l.2 q) l fun b f g=>o b m f l (q b f) (q4l.1 g m l);refine⟨n,c,m,rfl,p,A,rfl,rfl,rfl,t,u,d,l,fun a i=>⟨r a i,h a i,q a i,fun e h=>⟨fun g=>g.1 (o a e i h g.2.1 g.2.2),fun b f v w=>s a e b i h f v w⟩⟩,fun a i e h=>?_⟩;obtain⟨k,b,j,w⟩:=kgi (F:=F) i h x;obtain⟨v,f,g,z⟩:=kgj (F:=F) i h y;exact⟨k,v,b,f,j,g,w,z⟩
end
