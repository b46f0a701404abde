import Derived.Test.YtenckgnkjkijnaaGreatDoorW11
set_option maxRecDepth 100000
set_option maxHeartbeats 64000000
namespace Go.Proofs.YtenckgnkjkijnaaGreatDoor
open Go Go.RowKit Go.Proofs.Tryz
theorem qr9 (a:Nat->Nx)(n:Nat):(top a (n+1)).t=phT (a n) ((kal a n).map (top a)):=by rw[qml,qa3];rfl
theorem qna {l:List Nat}{i:Nat}(a:i<l.length):l.getD i 0=l[i]:=by rw[Yo,Yg a];rfl
theorem qmn (a:List Ph)(k:Nat):tot (a.take k)<=tot a:=by
 have:tot a=tot (a.take k)+tot (a.drop k):=by rw[<- qdb,Vc]
 omega
theorem qmm (a:Nat->Nx)(n:Nat):tot ((kal a n).map (top a))<=tot (pst a n):=by rw[qa3,q9v];exact qmn _ _
def fnT (e:Nat->Nx)(n k:Nat):Tb:=wrd (e n).op++⟨#[40]⟩++jn ((((kal e n).take k).map (top e)).map (·.t))
theorem qjc (a:Nat->Nx)(n:Nat):fnT a n 0=wrd (a n).op++⟨#[40]⟩:=by
 unfold fnT;rw[List.take_zero];show _++_++ByteArray.empty=_;rw[ByteArray.append_empty]
theorem qom (a:Nat->Nx)(n:Nat)(b:0<(kal a n).length):fnT a n 1=fnT a n 0++(top a (kal a n)[0]).t:=by
 rw[qjc];unfold fnT;rw[Ys b,List.take_zero];show _++_++((top a (kal a n)[0]).t++ByteArray.empty)=_;rw[ByteArray.append_empty]
theorem qjb (a:Nat->Nx)(n k:Nat)(d:0<k)(b:k<(kal a n).length):fnT a n (k+1)=fnT a n k++⟨#[44,32]⟩++(top a (kal a n)[k]).t:=by
 unfold fnT;rw[Ys b,Zl,Zl];show _++_++jn (_++[_])=_;rw[qpp _ _ (by
  intro c;have:=congrArg List.length c;simp only[Zp,Zb,Y2]at this;omega)]
 simp only[ByteArray.append_assoc]
theorem qja (a:Nat->Nx)(n k:Nat)(b:2<=(a n).op)(c:(a n).op<=25):(fnT a n k).size<=tot (pst a n)+2*k+8:=by
 have h:=qmx b c;have f:=(qpo (((kal a n).take k).map (top a))).2;have d:=qmn ((kal a n).map (top a)) k;rw[<- List.map_take]at d;have e:=qmm a n;have g:(((kal a n).take k).map (top a)).length<=k:=by rw[Zp];exact List.length_take_le _ _
 unfold fnT;simp only[Ym,bsz,Zg,Yt,Y2];omega
theorem khg (a:Int):1<=lvl a/\lvl a<=7:=by
 unfold lvl
 (repeat' split) <;> omega
theorem khh {a:Int}(b:lvl a=7)(c:2<=a):16<=a:=by
 refine Ok fun d=>?_;have:a=2∨a=3∨a=4∨a=5∨a=6∨a=7∨a=8∨a=9∨a=10∨a=11∨a=12∨a=13∨a=14∨a=15:=by omega
 rcases this with rfl | rfl | rfl | rfl | rfl | rfl | rfl | rfl | rfl | rfl | rfl | rfl | rfl | rfl <;> exact absurd b (by decide)
theorem q8a (a:To)(m c:Nat)(b:Nat->Nx)(Q:m<=1000)(F:Nat):∀G:Nat,G<=F->1<=G->G<=m->kdJ a m c b G:=by
 induction F with
 | zero=>intro G d h1;omega
 | succ F ih =>
  intro G hF h1 h2 l t;obtain⟨d,rfl⟩:∃d,G=d+1:=⟨G - 1,by omega⟩;have X:=h_ ih;have aX:wrap64 (((d+1:Nat):Int) - 1)=(d:Int):=by rw[q6w (by omega) (by omega)];omega
  have aS:(d:Int)<m:=by omega
  have aW:=t.top (by omega);have HT:=h_ (qr9 b d);have ao:=t.ok d (by omega);have am:=t.fit d (by omega);have aB:=t.st d (by omega);have Z:=qa2 aB;have HM:Hi (∀o,o∈kal b d->1<=o/\o<=d):=h_ fun o r=>qa4 r;have HO:=h_ t;obtain⟨aj,ax,rfl,-,z0,z1,z2,z3,z4⟩:=t.nods d (by omega);obtain⟨W1,al⟩:=Nq (l.alloc (.cells #[J6 (b d).op,J6 (b d).v.k,J6 (b d).v.n,.string (b d).v.s,.string (b d).nm] 190));obtain⟨q,g⟩:=oB (Blk.new l 190 #[J6 (b d).op,J6 (b d).v.k,J6 (b d).v.n,.string (b d).v.s,.string (b d).nm]) ((bR l.heap.size l).alloc (nR _) (.cells #[J6 (b d).op,J6 (b d).v.k,J6 (b d).v.n,.string (b d).v.s,.string (b d).nm] 190));rw[al]at q g;have j:=h_ (HO.mono g);rcases kg1 (b d).op with t | t | ⟨t,h'⟩
  . have n:Hi ((top b (d+1)).t=kbm (b d).v.k (b d).v.n (b d).v.s):=h_ (by rw[HT.u,phT,Yr t])
    rw[t]at z0 al q;obtain⟨C,T,U,V,W⟩:=kaG q;go_enter func190,ntmps190;go_wp2_with fail;refine cQ (q6n _ _ _ _ am.1 am.2.2.1 am.2.2.2) fun w2 f=>?_;replace g:=mT g f;go_wp2_with fail;go_ret;exact⟨qrt n.symm,g⟩
  . have n:Hi ((top b (d+1)).t=(b d).nm):=h_ (by rw[HT.u,phT,Yl (by omega),Yr t])
    rw[t]at z0 al q;obtain⟨C,T,U,V,W⟩:=kaG q;go_enter func190,ntmps190;go_wp2_with fail;go_ret;exact⟨qrt n.symm,g⟩
  . have D:2<=(b d).op/\(b d).op<=25:=by
     rw[kcW t h']at ao;simp only[Yh,Yk]at ao;exact ao.1.1
    have n0:((b d).op==0)=false:=Yc.2 t;have n1:((b d).op==1)=false:=Yc.2 h';have ai:Hi ((top b (d+1)).t=(if (b d).op=2 then ⟨#[45]⟩++wrap 6 (((kal b d).map (top b)).getD 0 kem) else if (b d).op=3 then ⟨#[110,111,116,32]⟩++wrap 6 (((kal b d).map (top b)).getD 0 kem) else if lvl (b d).op=7 then wrd (b d).op++⟨#[40]⟩++jn (((kal b d).map (top b)).map (·.t))++⟨#[41]⟩ else wrap (lft (b d).op) (((kal b d).map (top b)).getD 0 kem)++⟨#[32]⟩++wrd (b d).op++⟨#[32]⟩++wrap (lvl (b d).op+1) (((kal b d).map (top b)).getD 1 kem))):=h_ (by rw[HT.u,phT,Yl t,Yl h']);obtain⟨C,T,U,V,W⟩:=kaG q;go_enter func190,ntmps190;go_wp2_with fail;refine(qbi _ m c b d _ Q j.nods h2 j.st).mono ?_;rintro a1 w2 ⟨a0,c0,rfl,hI,f⟩;replace g:=mT g f;replace j:=h_ (j.mono f);replace q:=mB q f;have i:=h_ hI;obtain⟨C,T,U,V,W⟩:=kaG q;go_wp2_with fail;refine cQ (q89 _ _) fun w3 A=>?_;replace A:=A.symm;subst A;by_cases O:(b d).op=2
    . have p:arn (b d)=1:=by unfold arn;rw[kcM (.inl O)];rfl
      rw[p]at i Z⊢;obtain⟨o,r⟩:=kdb Z;have ac:=HM o (by rw[r];exact Y8);obtain⟨k,rfl⟩:∃e,o=e+1:=⟨o - 1,by omega⟩;have n:Hi ((top b (d+1)).t=⟨#[45]⟩++wrap 6 (top b (k+1))):=h_ (by rw[ai.u,Yr O,r];rfl);obtain⟨x,B,rfl,-,h⟩:=i 0 (by omega);simp only[r,Z4,Zo]at h;rw[O]at C⊢;have az:=qi5 6 (top b (k+1));have L:=(j.le (show k+1<=d+1 by omega)).top (by omega);go_wp2_with fail;refine cQ (qfv _ m c b k 6 _ Q (by omega) (X (k+1) (by omega) (by omega) (by omega)) (j.le (by omega))) fun M f=>?_;replace g:=mT g f;generalize wrap 6 (top b (k+1))=E at *;go_wp2_with fail;go_ret;exact⟨qrt n.symm,g⟩
    by_cases Y:(b d).op=3
    . have p:arn (b d)=1:=by unfold arn;rw[kcM (.inr Y)];rfl
      rw[p]at i Z⊢;obtain⟨o,r⟩:=kdb Z;have ac:=HM o (by rw[r];exact Y8);obtain⟨k,rfl⟩:∃e,o=e+1:=⟨o - 1,by omega⟩;have n:Hi ((top b (d+1)).t=⟨#[110,111,116,32]⟩++wrap 6 (top b (k+1))):=h_ (by rw[ai.u,Yl O,Yr Y,r];rfl);obtain⟨x,B,rfl,-,h⟩:=i 0 (by omega);simp only[r,Z4,Zo]at h;rw[Y]at C⊢;have az:=qi5 6 (top b (k+1));have L:=(j.le (show k+1<=d+1 by omega)).top (by omega);go_wp2_with fail;refine cQ (qfv _ m c b k 6 _ Q (by omega) (X (k+1) (by omega) (by omega) (by omega)) (j.le (by omega))) fun M f=>?_;replace g:=mT g f;generalize wrap 6 (top b (k+1))=E at *;go_wp2_with fail;go_ret;exact⟨qrt n.symm,g⟩
    have n2:((b d).op==2)=false:=Yc.2 O;have n3:((b d).op==3)=false:=Yc.2 Y;have ay:Hi ((top b (d+1)).t=(if lvl (b d).op=7 then wrd (b d).op++⟨#[40]⟩++jn (((kal b d).map (top b)).map (·.t))++⟨#[41]⟩ else wrap (lft (b d).op) (((kal b d).map (top b)).getD 0 kem)++⟨#[32]⟩++wrd (b d).op++⟨#[32]⟩++wrap (lvl (b d).op+1) (((kal b d).map (top b)).getD 1 kem))):=h_ (by rw[ai.u,Yl O,Yl Y]);by_cases H:lvl (b d).op=7
    . have R:=khh H D.1
      have n:Hi ((top b (d+1)).t=fnT b d (arn (b d))++⟨#[41]⟩):=h_ (by rw[ay.u,Yr H,fnT,Yy (by omega)]);have I:=h_ (qjc b d);have N:Hi (∀e,e<=arn (b d)->(fnT b d e).size<=1200000):=h_ fun e K=>by
       have:=qja b d e D.1 D.2;have:=(j.le (show d<=d+1 by omega)).tot;have:=kbQ (b d);omega
      have ah:=qmx D.1 D.2;have aP:=kbQ (b d);rw[H];go_wp2_with fail;refine cQ (q2o _ _ R D.2) fun M A=>?_;replace A:=A.symm;subst A;obtain⟨p,aO⟩:=Nq (wrd (b d).op);rw[aO]at I ah⊢;go_wp2_with fail;go_loopw [8,9] (fun y w wr=>∃e:Nat,e<=arn (b d)/\y=.string (fnT b d e)/\w=J6 e/\Bw l wr/\kdZ (some ⟨aj,ax,none⟩) m b (d+1) wr/\kbx wr a0 (arn (b d)) (fun e=>(((kal b d).getD e 0:Nat):Int))) (fun _ w _=>arn (b d) - (intOf w).toNat)
      case atStart=>exact⟨0,nZ _,by rw[I.u],rfl,g,j,i⟩
      case round =>
       obtain⟨e,K,rfl,rfl,f,hO,hG⟩:=hrel;obtain⟨g,j,i⟩:=oC f hO hG;have aE:=N e K;by_cases aG:e<arn (b d)
       . have aH:(e:Int)<(arn (b d):Int):=by omega
         obtain⟨x,B,rfl,-,h⟩:=i e aG;have z:e<(kal b d).length:=(by omega);simp only[qna z]at h;obtain⟨o,r⟩:=Nq ((kal b d)[e]);have ac:=HM _ (Yi z);have w:Hi (fnT b d (e+1)=(if e=0 then fnT b d e else fnT b d e++⟨#[44,32]⟩)++(top b o).t):=h_ (by
          by_cases y:e=0
          . subst y;rw[Yr rfl,qom b d (by omega),r]
          . rw[Yl y,qjb b d e (by omega) z,r])
         rw[r]at h ac;have L:=(j.le (show o<=d+1 by omega)).top (by omega);obtain⟨J,hq⟩:=Nq (fnT b d e);rw[hq]at w aE⊢;by_cases y:e=0
         . subst y
           rw[Yr rfl]at w;simp only[Zo]at h;rw[show((0:Nat):Int)=(0:Int) from rfl];have aR:(0:Int)<(arn (b d):Int):=(by omega);go_wp2_with fail;refine cQ (X o (by omega) (by omega) (by omega) _ (j.le (by omega))) fun w5 f=>?_;replace g:=mT g f;replace j:=h_ (j.mono f);replace i:=h_ (i.mono f);generalize (top b o).t=E at *;refine rQ ?_;exact⟨1,by omega,by rw[w.u],rfl,g,j,i⟩
         . rw[Yl y]at w
           have aQ:(0:Int)<e:=(by omega);go_wp2_with fail;refine cQ (X o (by omega) (by omega) (by omega) _ (j.le (by omega))) fun w5 f=>?_;replace g:=mT g f;replace j:=h_ (j.mono f);replace i:=h_ (i.mono f);generalize (top b o).t=E at *;have aK:(J++(⟨#[44,32]⟩:Tb)).size=J.size+2:=(by rw[Ym];rfl);obtain⟨q2,aL⟩:=Nq (J++(⟨#[44,32]⟩:Tb));rw[aL]at w aK⊢;refine rQ ?_;exact⟨e+1,by omega,by rw[w.u],by go_num,g,j,i⟩
       . obtain rfl:e=arn (b d):=by omega
         have aH:¬ ((arn (b d):Nat):Int)<(arn (b d):Int):=(by omega);generalize fnT b d (arn (b d))=J at *;go_wp2_with fail;go_ret;exact⟨qrt n.symm,g⟩
    . have e2:arn (b d)=2:=by unfold arn;rw[ken D.1 D.2 H O Y];rfl
      have af:4<=(b d).op/\(b d).op<=15:=by
       refine⟨by omega,?_⟩;refine Ok fun h=>H (qq5 (by omega))
      rw[e2]at i Z⊢;obtain⟨o,J,r⟩:=kfM Z;have ac:=HM o (by rw[r];exact Y8);have aM:=HM J (by rw[r];exact Zi _ Y8);obtain⟨k,rfl⟩:∃e,o=e+1:=⟨o - 1,by omega⟩;obtain⟨w,rfl⟩:∃e,J=e+1:=⟨J - 1,by omega⟩;have n:Hi ((top b (d+1)).t=wrap (lft (b d).op) (top b (k+1))++⟨#[32]⟩++wrd (b d).op++⟨#[32]⟩++wrap (lvl (b d).op+1) (top b (w+1))):=h_ (by rw[ay.u,Yl H,r];rfl);have ad:Hi (lft (b d).op=if lvl (b d).op=3 then 4 else lvl (b d).op):=h_ rfl;have aC:=i 0 (by omega);have aD:=i 1 (by omega);obtain⟨x,B,rfl,-,y⟩:=aC;obtain⟨b2,o2,aA,-,z⟩:=aD;cases aA;simp only[r,Z4,Vz,Zo]at y z;have aV:=(j.le (show k+1<=d+1 by omega)).top (by omega);have az:=(j.le (show w+1<=d+1 by omega)).top (by omega);have ap:=qi5 (lft (b d).op) (top b (k+1));have ag:=qi5 (lvl (b d).op+1) (top b (w+1));have ah:=qmx D.1 D.2;have aI:1<=lvl (b d).op/\lvl (b d).op<=7:=khg _;obtain⟨HP,HQ⟩:=oB (show kdJ (some ⟨aj,ax,none⟩) m c b (k+1) from X (k+1) (by omega) (by omega) (by omega)) (show kdJ (some ⟨aj,ax,none⟩) m c b (w+1) from X (w+1) (by omega) (by omega) (by omega));have aT:k+1<=d:=ac.2;have aU:w+1<=d:=aM.2;obtain⟨lv,aJ⟩:=Nq (lvl (b d).op);obtain⟨I,aF⟩:=Nq (lft (b d).op);have aY:wrap64 (lv+1)=lv+1:=q6w (by omega) (by omega);rw[aJ]at n ad H ag aI⊢;rw[aF]at n ad ap;have n7:(lv==7)=false:=Yc.2 H;have ae:=h_ r;have HF:Hi (Bw w2 w2.drew):=h_ ((bR _ _).drew);by_cases h3:lv=3
      . have an:I=4:=by rw[ad.u,Yr h3]
        subst h3 an;simp only[show(3:Int)+1=4 from rfl]at n ag;go_wp2_with fail;refine wp_region_held_drew (S:=fun R=>R.cell? ⟨x,B,none⟩=some (J6 ((k+1:Nat):Int))/\R.cell? ⟨x,B+1,none⟩=some (J6 ((w+1:Nat):Int))/\R.cell? ⟨l.heap.size,0,none⟩=some (J6 (b d).op)) (by kernel_rfl) ⟨y,z,C⟩ (fun e=>?_);refine tkA 0 e ?_;refine tkA 1 e ?_;refine tkA 2 e ?_;refine tkA 3 e ?_;refine tkA 4 e ?_;refine tkA 7 e ?_;refine tkA 8 e ?_;refine tkA 12 e ?_;refine tkA 13 e ?_;refine tkA 14 e ?_;refine tkA 15 e ?_;refine tkA 16 e ?_;refine tkL 17 97 (J6 4) e ?_ (hy:=fun l E=>by simp[execOp,go_sem, *];rfl);refine cyY 5 85 (qfv _ m c b k 4 _ Q (by omega) HP ((j.mono HF).le (by omega))) fun K f=>?_;have f:=q36 f;replace g:=mT g f;replace j:=h_ (j.mono f);replace q:=mB q f;replace i:=h_ (i.mono f);obtain⟨C,T,U,V,W⟩:=kaG q;obtain⟨b3,o3,M,-,y⟩:=i 0 (by omega);obtain⟨b4,o4,N,-,z⟩:=i 1 (by omega);cases M;cases N;simp only[ae.u,Z4,Vz,Zo]at y z;have e:K.cell? ⟨x,B,none⟩=some (J6 ((k+1:Nat):Int))/\K.cell? ⟨x,B+1,none⟩=some (J6 ((w+1:Nat):Int))/\K.cell? ⟨l.heap.size,0,none⟩=some (J6 (b d).op):=⟨y,z,C⟩;refine⟨e,?_⟩;refine kaS (by(first | simp only[Ya,Yb] | skip);rfl) (by(first | simp only[Ya,Yb] | skip);rfl) ?_;obtain⟨h,aq⟩:=Nq (wrap 4 (top b (k+1)));rw[aq]at n ap⊢;have aN:h.size<=1200000:=(by omega);have hA:(h++(⟨#[32]⟩:Tb)).size=h.size+1:=(by rw[Ym];rfl);refine tkL 6 86 (.string (h++⟨#[32]⟩)) e ?_ (hy:=fun l E=>by have:=run_string_add_sum (P:=prog) l h ⟨#[32]⟩ (by show h.size+1<=_;omega);simp[execOp,go_sem,this]);refine cyY 9 89 (qbk _ _ af.1 af.2) fun W5 A=>?_;replace A:=A.symm;subst A;refine⟨e,?_⟩;refine kaS (by(first | simp only[Ya,Yb] | skip);rfl) (by(first | simp only[Ya,Yb] | skip);rfl) ?_;obtain⟨p,aw⟩:=Nq (wrd (b d).op);rw[aw]at n ah⊢;have aa:(h++(⟨#[32]⟩:Tb)++p).size=h.size+1+p.size:=(by rw[Ym,hA]);refine tkL 10 90 (.string (h++⟨#[32]⟩++p)) e ?_ (hy:=fun l E=>by have:=run_string_add_sum (P:=prog) l (h++⟨#[32]⟩) p (by omega);simp[execOp,go_sem,this]);have ak:(h++(⟨#[32]⟩:Tb)++p++⟨#[32]⟩).size=h.size+1+p.size+1:=(by rw[Ym,aa];rfl);refine tkL 11 91 (.string (h++⟨#[32]⟩++p++⟨#[32]⟩)) e ?_ (hy:=fun l E=>by have:=run_string_add_sum (P:=prog) l (h++⟨#[32]⟩++p) ⟨#[32]⟩ (by rw[aa];show h.size+1+p.size+1<=_;omega);simp[execOp,go_sem,this]);refine cyY 18 98 (qfv _ m c b w 4 _ Q (by omega) HQ (j.le (by omega))) fun L f=>?_;replace g:=mT g f;replace q:=mB q f;replace i:=h_ (i.mono f);obtain⟨C,T,U,V,W⟩:=kaG q;obtain⟨b3,o3,M,-,y⟩:=i 0 (by omega);obtain⟨b4,o4,N,-,z⟩:=i 1 (by omega);cases M;cases N;simp only[ae.u,Z4,Vz,Zo]at y z;have e:L.cell? ⟨x,B,none⟩=some (J6 ((k+1:Nat):Int))/\L.cell? ⟨x,B+1,none⟩=some (J6 ((w+1:Nat):Int))/\L.cell? ⟨l.heap.size,0,none⟩=some (J6 (b d).op):=⟨y,z,C⟩;refine⟨e,?_⟩;refine kaS (by(first | simp only[Ya,Yb] | skip);rfl) (by(first | simp only[Ya,Yb] | skip);rfl) ?_;obtain⟨t2,au⟩:=Nq (wrap 4 (top b (w+1)));rw[au]at n ag⊢;obtain⟨u3,av⟩:=Nq (h++(⟨#[32]⟩:Tb)++p++⟨#[32]⟩);rw[av]at n ak⊢;refine tkL 19 99 (.string (u3++t2)) e ?_ (hy:=fun l E=>by have:=run_string_add_sum (P:=prog) l u3 t2 (by omega);simp[execOp,go_sem,this]);refine tkA 20 e ?_;refine wdQ ?_;go_wp2;go_ret;exact⟨qrt n.symm,g⟩
      . have an:I=lv:=by rw[ad.u,Yl h3]
        subst an;have aZ:(I==3)=false:=Yc.2 h3;go_wp2_with fail;refine wp_region_held_drew (S:=fun R=>R.cell? ⟨x,B,none⟩=some (J6 ((k+1:Nat):Int))/\R.cell? ⟨x,B+1,none⟩=some (J6 ((w+1:Nat):Int))/\R.cell? ⟨l.heap.size,0,none⟩=some (J6 (b d).op)) (by kernel_rfl) ⟨y,z,C⟩ (fun e=>?_);refine tkA 0 e ?_;refine tkA 1 e ?_;refine tkA 2 e ?_;refine tkA 3 e ?_;refine tkA 4 e ?_;refine tkA 7 e ?_;refine tkA 8 e ?_;refine tkA 12 e ?_;refine tkA 13 e ?_;refine tkA 14 e ?_;refine tkA 15 e ?_;refine tkA 16 e ?_;refine tkL 17 97 (J6 (I+1)) e ?_ (hy:=fun l E=>by simp[execOp,go_sem, *];rw[IntKind.wrap_i64];omega);refine cyY 5 85 (qfv _ m c b k I _ Q (by omega) HP ((j.mono HF).le (by omega))) fun K f=>?_;have f:=q36 f;replace g:=mT g f;replace j:=h_ (j.mono f);replace q:=mB q f;replace i:=h_ (i.mono f);obtain⟨C,T,U,V,W⟩:=kaG q;obtain⟨b3,o3,M,-,y⟩:=i 0 (by omega);obtain⟨b4,o4,N,-,z⟩:=i 1 (by omega);cases M;cases N;simp only[ae.u,Z4,Vz,Zo]at y z;have e:K.cell? ⟨x,B,none⟩=some (J6 ((k+1:Nat):Int))/\K.cell? ⟨x,B+1,none⟩=some (J6 ((w+1:Nat):Int))/\K.cell? ⟨l.heap.size,0,none⟩=some (J6 (b d).op):=⟨y,z,C⟩;refine⟨e,?_⟩;refine kaS (by(first | simp only[Ya,Yb] | skip);rfl) (by(first | simp only[Ya,Yb] | skip);rfl) ?_;obtain⟨h,aq⟩:=Nq (wrap I (top b (k+1)));rw[aq]at n ap⊢;have aN:h.size<=1200000:=(by omega);have hA:(h++(⟨#[32]⟩:Tb)).size=h.size+1:=(by rw[Ym];rfl);refine tkL 6 86 (.string (h++⟨#[32]⟩)) e ?_ (hy:=fun l E=>by have:=run_string_add_sum (P:=prog) l h ⟨#[32]⟩ (by show h.size+1<=_;omega);simp[execOp,go_sem,this]);refine cyY 9 89 (qbk _ _ af.1 af.2) fun W5 A=>?_;replace A:=A.symm;subst A;refine⟨e,?_⟩;refine kaS (by(first | simp only[Ya,Yb] | skip);rfl) (by(first | simp only[Ya,Yb] | skip);rfl) ?_;obtain⟨p,aw⟩:=Nq (wrd (b d).op);rw[aw]at n ah⊢;have aa:(h++(⟨#[32]⟩:Tb)++p).size=h.size+1+p.size:=(by rw[Ym,hA]);refine tkL 10 90 (.string (h++⟨#[32]⟩++p)) e ?_ (hy:=fun l E=>by have:=run_string_add_sum (P:=prog) l (h++⟨#[32]⟩) p (by omega);simp[execOp,go_sem,this]);have ak:(h++(⟨#[32]⟩:Tb)++p++⟨#[32]⟩).size=h.size+1+p.size+1:=(by rw[Ym,aa];rfl);refine tkL 11 91 (.string (h++⟨#[32]⟩++p++⟨#[32]⟩)) e ?_ (hy:=fun l E=>by have:=run_string_add_sum (P:=prog) l (h++⟨#[32]⟩++p) ⟨#[32]⟩ (by rw[aa];show h.size+1+p.size+1<=_;omega);simp[execOp,go_sem,this]);refine cyY 18 98 (qfv _ m c b w (I+1) _ Q (by omega) HQ (j.le (by omega))) fun L f=>?_;replace g:=mT g f;replace q:=mB q f;replace i:=h_ (i.mono f);obtain⟨C,T,U,V,W⟩:=kaG q;obtain⟨b3,o3,M,-,y⟩:=i 0 (by omega);obtain⟨b4,o4,N,-,z⟩:=i 1 (by omega);cases M;cases N;simp only[ae.u,Z4,Vz,Zo]at y z;have e:L.cell? ⟨x,B,none⟩=some (J6 ((k+1:Nat):Int))/\L.cell? ⟨x,B+1,none⟩=some (J6 ((w+1:Nat):Int))/\L.cell? ⟨l.heap.size,0,none⟩=some (J6 (b d).op):=⟨y,z,C⟩;refine⟨e,?_⟩;refine kaS (by(first | simp only[Ya,Yb] | skip);rfl) (by(first | simp only[Ya,Yb] | skip);rfl) ?_;obtain⟨t2,au⟩:=Nq (wrap (I+1) (top b (w+1)));rw[au]at n ag⊢;obtain⟨u3,av⟩:=Nq (h++(⟨#[32]⟩:Tb)++p++⟨#[32]⟩);rw[av]at n ak⊢;refine tkL 19 99 (.string (u3++t2)) e ?_ (hy:=fun l E=>by have:=run_string_add_sum (P:=prog) l u3 t2 (by omega);simp[execOp,go_sem,this]);refine tkA 20 e ?_;refine wdQ ?_;go_wp2;go_ret;exact⟨qrt n.symm,g⟩
def vxB (e:Nat->Nx)(m:Nat):Bool:=decide (1<=m/\m<=1000)&&((List.range m).all fun k=>kao (e k))&&stB e m&&decide ((top e m).d<=64)&&decide ((top e m).t.size<=4000)
theorem qsw (g:Nat->Nx)(m:Nat):vxB g m=true ↔ vEx g m:=by
 unfold vxB vEx kcf;simp only[Yh,Yk,Yv,Yu,qs6];constructor
 . rintro⟨⟨⟨⟨a,b⟩,c,d⟩,e⟩,f⟩;exact⟨a.1,a.2,b,c,d,e,f⟩
 . rintro⟨a,h,b,c,d,e,f⟩;exact⟨⟨⟨⟨⟨a,h⟩,b⟩,c,d⟩,e⟩,f⟩
theorem kcm {a:Nat->Nx}{m:Nat}(b:¬ vEx a m):vxB a m=false:=by
 cases c:vxB a m
 . rfl
 . exact absurd ((qsw a m).1 c) b
theorem qc2 {n:Nx}(a:kao n=true):n.v.s.size<=1000:=by
 unfold kao at a;split at a
 . simp only[Yh,Yk]at a
   have:=a.1.1.2;unfold kah at this
   (repeat' split at this) <;> (try simp only[Yh,Yk]at this) <;> first | omega | exact(qc3.1 this.2).1 | cases this
 . split at a
   . simp only[Yh,Yk]at a;omega
   . simp only[Yh,Yk]at a;omega
theorem q1n (a:To)(m c:Nat)(e:Nat->Nx)(w:Tw)(M:m<=9223372036854775807)(B:kch w a m e)(F:∀b,b<m->Fit (e b)) :
 Gv 189 #[.slice a m c] w (.bool (vxB e m)):=by
 by_cases K:m<1
 . rw[kcm fun g=>by have:=g.1;omega]
   go_enter func189,ntmps189;go_wp2_with fail;go_ret;exact⟨rfl,bR _ _⟩
 by_cases L:1000<m
 . rw[kcm fun g=>by have:=g.2.1;omega]
   go_enter func189,ntmps189;go_wp2_with fail;go_ret;exact⟨rfl,bR _ _⟩
 obtain⟨y,q⟩:=oB B F;obtain⟨n,v⟩:=Nq (vxB e m);rw[v];have l:=h_ v;go_enter func189,ntmps189;go_wp2_with fail;go_loopw [3] (fun f wr=>∃b:Nat,b<=m/\f=J6 b/\kcf e b/\Bw w wr) (fun f _=>m - (intOf f).toNat)
 case atStart=>exact⟨0,nZ _,rfl,fun b t=>absurd t (nL _),bR _ _⟩
 case round =>
  obtain⟨b,t,rfl,C,h⟩:=hrel;obtain⟨f,o,i⟩:=oC h C (y.mono h);by_cases s:b<m
  . have E:(b:Int)<m:=by omega
    obtain⟨A,G,rfl,-,D,c1,c2,c3,c4⟩:=i b s;go_wp2_with fail;refine cQ (q2q (e b) _ (q b s)) fun J h=>?_;replace f:=mT f h;cases r:kao (e b)
    . have j:Hi (n=false):=h_ (by rw[<- l.u];exact kcm fun g=>by have:=g.2.2.1 b s;rw[r]at this;cases this)
      go_wp2_with fail;go_ret;exact⟨qln j.symm,f⟩
    . have x:Hi (kcf e (b+1)):=h_ fun k p=>by
       by_cases z:k=b
       . subst z;exact r
       . exact o k (by omega)
      refine rQ ?_;exact⟨b+1,by omega,by go_num,x,f⟩
  . obtain rfl:b=m:=by omega
    go_wp2_with fail;refine cQ (q8c a b c e _ (by omega) i) fun J h=>?_;replace f:=mT f h;replace i:=h_ (i.mono h);cases x:stB e b
    . have j:Hi (n=false):=h_ (by rw[<- l.u];exact kcm fun g=>by have:=(qs6 e b).2 ⟨g.2.2.2.1,g.2.2.2.2.1⟩;rw[x]at this;cases this)
      go_wp2_with fail;go_ret;exact⟨qln j.symm,f⟩
    obtain⟨I,G⟩:=(qs6 e b).1 x;obtain⟨r,A⟩:=oB I G;go_wp2_with fail;refine cQ (q87 a b c e (by omega) b b _ (nR _) i (by omega) (nR _) r) fun O h=>?_;replace f:=mT f h;replace i:=h_ (i.mono h);by_cases D:64<(top e b).d
    . have E:(64:Int)<(top e b).d:=by omega
      have j:Hi (n=false):=h_ (by rw[<- l.u];exact kcm fun g=>by have:=g.2.2.2.2.2.1;omega);go_wp2_with fail;go_ret;exact⟨qln j.symm,f⟩
    have E:¬ (64:Int)<(top e b).d:=(by omega);have z:=h_ D;go_wp2_with fail;refine cQ (q1l a b c e _ (by omega) i (fun k p=>qc2 (o k p))) fun P h=>?_;replace f:=mT f h;replace i:=h_ (i.mono h);by_cases N:4000<kbi e b
    . have H:(4000:Int)<(kbi e b:Int):=by omega
      have j:Hi (n=false):=h_ (by rw[<- l.u];exact kcm fun g=>by have:=g.sum (fun k p=>(q k p).2.2.2);omega);go_wp2_with fail;go_ret;exact⟨qln j.symm,f⟩
    have H:¬ (4000:Int)<(kbi e b:Int):=(by omega);go_wp2_with fail;refine cQ (q8a a b c e (by omega) b b (nR _) (by omega) (nR _) _ ⟨i,r,o,q⟩) fun k h=>?_;replace f:=mT f h;have j:Hi (n=decide ((top e b).t.size<=4000)):=h_ (by
     rw[<- l.u,Zh,qsw,Yk];exact⟨fun g=>g.2.2.2.2.2.2,fun g=>⟨by omega,by omega,o,r,A,by have:=z.u;omega,g⟩⟩)
    generalize (top e b).t=g at *;go_wp2_with fail;go_ret;exact⟨qln (by rw[j.u,Zh];simp;omega),f⟩
end Go.Proofs.YtenckgnkjkijnaaGreatDoor
namespace Go.Proofs.YtenckgnkjkijnaaGreatDoor
open Go Go.Proofs.Tryz
def kc3 (x:Tb)(l:List Tb):Bool:=l.any fun y=>decide (y=x)
theorem qk9 (x:Tb)(l:List Tb):kc3 x l=true ↔ x∈l:=by
 unfold kc3;rw[Z8];exact⟨fun⟨c,b,a⟩=>by rw[<- Y6 a];exact b,fun a=>⟨x,a,Ye rfl⟩⟩
theorem qq7 {x:Tb}{l:List Tb}(b:¬ x∈l):kc3 x l=false:=by
 cases a:kc3 x l
 . rfl
 . exact absurd ((qk9 x l).1 a) b
structure Rl where
 nm:Tb
 lb:Int
structure Fl where
 nm:Tb
 ty:Int
 lb:Int
 bys:List Int
 is:List Nx
 wh:List Nx
 va:List Nx
 sy:Tb
 mu:List Nx
abbrev Js(x0:Fl):Ta:=#[.string x0.nm,J6 x0.ty,J6 x0.lb,J7,J7,J7,J7,J8,J7]
abbrev Jp(x0:Fl)(x1:To)(x2:Nat)(x3:To)(x4:Nat)(x5:To)(x6:Nat)(x7:To)(x8:Nat)(x9:To)(x10:Nat):Ta:=#[J6 0,J6 0,J8,.bool false,.bool false,.bool false,.string x0.nm,J6 x0.ty,J6 x0.lb,.slice x1 x0.bys.length x2,.slice x3 x0.is.length x4,.slice x5 x0.wh.length x6,.slice x7 x0.va.length x8,.string x0.sy,.slice x9 x0.mu.length x10,J6 0,J6 0,J8]
abbrev Jj(x0:Fl)(x1:To)(x2:Nat)(x3:To)(x4:Nat)(x5:To)(x6:Nat)(x7:To)(x8:Nat)(x9:To)(x10:Nat):Ta:=#[J6 0,J6 0,J8,.bool false,.bool false,.bool false,.string x0.nm,J6 x0.ty,J6 x0.lb,.slice x1 x0.bys.length x2,.slice x3 x0.is.length x4,.slice x5 x0.wh.length x6,.slice x7 x0.va.length x8,.string x0.sy,.slice x9 x0.mu.length x10]
abbrev Ja(x0:Fl)(x1:To)(x2:Nat)(x3:To)(x4:Nat)(x5:To)(x6:Nat)(x7:To)(x8:Nat)(x9:To)(x10:Nat):Ta:=#[.string x0.nm,J6 x0.ty,J6 x0.lb,.slice x1 x0.bys.length x2,.slice x3 x0.is.length x4,.slice x5 x0.wh.length x6,.slice x7 x0.va.length x8,.string x0.sy,.slice x9 x0.mu.length x10]
structure Fm where
 L:List Tb
 P:List (Int × Int)
 R:List Rl
 F:List Fl
abbrev Jv(x0:To)(x1:Nat)(x2:Nat)(x3:To)(x4:Fm)(x5:Nat)(x6:To)(x7:Nat)(x8:To)(x9:Nat):Ta:=#[.slice x0 x1 x2,.slice x3 x4.P.length x5,.slice x6 x4.R.length x7,.slice x8 x4.F.length x9]
abbrev Jh(x0:To)(x1:Fm)(x2:Nat)(x3:To)(x4:Nat)(x5:To)(x6:Nat)(x7:To)(x8:Nat):Tl:=[.slice x0 x1.L.length x2,.slice x3 x1.P.length x4,.slice x5 x1.R.length x6,.slice x7 x1.F.length x8]
abbrev Jb(x0:To)(x1:Fm)(x2:Nat)(x3:To)(x4:Nat)(x5:To)(x6:Nat)(x7:To)(x8:Nat):Ta:=#[.slice x0 x1.L.length x2,.slice x3 x1.P.length x4,.slice x5 x1.R.length x6,.slice x7 x1.F.length x8]
def kie:Rl:=⟨⟨#[]⟩,0⟩
def noNx:Nx:=⟨0,⟨0,0,⟨#[]⟩⟩,⟨#[]⟩⟩
def nf (l:List Nx)(k:Nat):Nx:=l.getD k noNx
theorem kb7 (l:List Nx)(k:Nat)(a:k<l.length):nf l k=l[k]:=by unfold nf;rw[Yo,Yg a];rfl
def vxL (l:List Nx):Bool:=vxB (nf l) l.length
def txL (l:List Nx):Tb:=(top (nf l) l.length).t
def kac (l:List Nx):Bool:=decide (l.length=0)||vxL l
def kas (names:List Tb)(l:List Nx):Bool:=l.all fun n=>!decide (n.op=1)||kc3 n.nm names
def kae (l:List Tb):Bool:=l.all kaQ&&decide l.Nodup
def inR (n:Nat)(x:Int):Bool:=decide (0<=x/\x<n)
def kbG (nr:Nat)(l:List Int):Bool:=l.all (inR nr)&&decide l.Nodup
def kaq (nl nr:Nat)(f:Fl):Bool :=
 decide (1<=f.ty/\f.ty<=3)&&decide (-1<=f.lb/\f.lb<nl)&&kbG nr f.bys&&decide (f.is.length=0∨f.bys.length=0)&&kaw f.sy&&decide (f.va.length≠0∨f.sy.size=0)&&kac f.is&&kac f.wh&&kac f.va&&kac f.mu
def kai (names:List Tb)(f:Fl):Bool:=kas names f.is&&kas names f.wh&&kas names f.va&&kas names f.mu
def kaa (f:Fm):List Tb:=f.F.map (·.nm)
def kav (f:Fm):List Tb:=f.R.map (·.nm)
def sb (s:Tb):List UInt8:=s.data.toList
def kbA (ls:List Tb)(i:Int):Tb:=ls.getD i.toNat ⟨#[]⟩
def kdS (rs:List Rl)(i:Int):Rl:=rs.getD i.toNat kie
def kdT (x:Tb):List UInt8:=[108,97,98,101,108,32]++sb x++[59,10]
def kdU (ls:List Tb)(p:Int × Int):List UInt8:=[98,101,108,111,119,32]++sb (kbA ls p.1)++[32]++sb (kbA ls p.2)++[59,10]
def kd1 (ls:List Tb)(r:Rl):List UInt8:=[114,111,108,101,32]++sb r.nm++[32,97,116,32]++sb (kbA ls r.lb)++[59,10]
def kbc (word:List UInt8)(l:List Nx):List UInt8:=if l.length=0 then [] else [32]++word++[32]++sb (txL l)
def wIs:List UInt8:=[105,115]
def kdr:List UInt8:=[119,104,101,110]
def kcB:List UInt8:=[118,97,108,105,100]
def kdV:List UInt8:=[109,117,115,116]
def kbs (t:Int):List UInt8:=if t=1 then [105,110,116] else if t=2 then [98,111,111,108] else [116,101,120,116]
def tBy (rs:List Rl)(i:Int):List UInt8:=[32,98,121,32]++sb (kdS rs i).nm
def kdc (f:Fl):List UInt8:=if f.va.length=0 then [] else [32,115,97,121,115,32,34]++sb f.sy++[34]
def kcg (fm:Fm)(f:Fl):List UInt8:=[102,105,101,108,100,32]++sb f.nm++[32]++kbs f.ty++[32,97,116,32]++(if f.lb<0 then [97,117,116,111] else sb (kbA fm.L f.lb))
def keP (fm:Fm)(f:Fl):List UInt8:=kcg fm f++f.bys.flatMap (tBy fm.R)++kbc wIs f.is++kbc kdr f.wh++kbc kcB f.va++kdc f++kbc kdV f.mu++[59,10]
def cT (f:Fm):List UInt8:=f.L.flatMap kdT++f.P.flatMap (kdU f.L)++f.R.flatMap (kd1 f.L)++f.F.flatMap (keP f)
def vfA (f:Fm):Bool :=
 decide (f.L.length<=32/\f.P.length<=256/\f.R.length<=64/\f.F.length<=200)&&kae f.L&&kae (kav f)&&kae (kaa f)
  && (f.P.all fun p=>inR f.L.length p.1&&inR f.L.length p.2)&&(f.R.all fun r=>inR f.L.length r.lb)
  && (f.F.all fun d=>kaq f.L.length f.R.length d&&kai (kaa f) d)
def vfB (f:Fm):Bool:=vfA f&&decide ((cT f).length<=30000)
theorem qau {s:Tb}(a:kaQ s=true):s.size<=16:=by
 simp only[kaQ,Yh,Yk]at a;omega
theorem qmp {l:List Nx}(a:vxL l=true):(txL l).size<=4000:=((qsw _ _).1 a).2.2.2.2.2.2
theorem kbt (s:Tb):(sb s).length=s.size:=by simp[sb]
theorem qbp {a:List Tb}{i:Int}(b:kae a=true):(kbA a i).size<=16:=by
 unfold kbA;rw[Yo];cases c:a[i.toNat]? with
 | none=>exact nZ _
 | some d =>
  simp only[kae,Yh,Yv]at b;exact qau (b.1 d (O8 c))
theorem q9e {l:List Nx}{word:List UInt8}(h:kac l=true)(hw:word.length<=5):(kbc word l).length<=4010:=by
 unfold kbc;split
 . simp
 . rename_i hl
   simp only[kac,Ze,Yk]at h;have:=qmp (h.resolve_left hl);simp only[Yj,Yt,Y2,kbt];omega
theorem q7t {d:Type}(l:List d)(g:d->List UInt8)(c:Nat)(b:∀a,a∈l->(g a).length<=c):(l.flatMap g).length<=c*l.length:=by
 induction l with
 | nil=>simp
 | cons a k f =>
  have i:=b a Y8;have j:=f fun h e=>b h (Zi _ e);simp only[Va,Yj,Yt,Nat.mul_add,Nat.mul_one];omega
end Go.Proofs.YtenckgnkjkijnaaGreatDoor
namespace Go.Proofs.YtenckgnkjkijnaaGreatDoor
open Go Go.RowKit Go.Proofs.Tryz
def kbY (w:Tw)(a:To)(l:List Tb):Prop:=∀k (h:k<l.length),∃b o,a=some ⟨b,o,none⟩/\b<w.heap.size/\w.cell? ⟨b,o+k,none⟩=some (.string l[k])
theorem kbY.mono {w w':Tw}{a:To}{l:List Tb}(f:kbY w a l)(b:Bw w w'):kbY w' a l:=fun i h=>by
 obtain⟨d,j,e,c,g⟩:=f i h;exact⟨d,j,e,Yn c b.size,(b.cell c).trans g⟩
def Prs (w:Tw)(a:To)(l:List (Int × Int)):Prop:=∀k (h:k<l.length),∃b o,a=some ⟨b,o,none⟩/\b<w.heap.size/\w.cell? ⟨b,o+k*2,none⟩=some (.int .i64 l[k].1)/\w.cell? ⟨b,o+k*2+1,none⟩=some (.int .i64 l[k].2)
theorem Prs.mono {w w':Tw}{a:To}{l:List (Int × Int)}(f:Prs w a l)(b:Bw w w'):Prs w' a l:=fun j i=>by
 obtain⟨d,k,e,c,g,h⟩:=f j i;exact⟨d,k,e,Yn c b.size,(b.cell c).trans g,(b.cell c).trans h⟩
def Rls (w:Tw)(a:To)(l:List Rl):Prop:=∀k (h:k<l.length),∃b o,a=some ⟨b,o,none⟩/\b<w.heap.size/\w.cell? ⟨b,o+k*2,none⟩=some (.string l[k].nm)/\w.cell? ⟨b,o+k*2+1,none⟩=some (.int .i64 l[k].lb)
theorem Rls.mono {w w':Tw}{a:To}{l:List Rl}(f:Rls w a l)(b:Bw w w'):Rls w' a l:=fun j i=>by
 obtain⟨d,k,e,c,g,h⟩:=f j i;exact⟨d,k,e,Yn c b.size,(b.cell c).trans g,(b.cell c).trans h⟩
def keQ (w:Tw)(a:To)(l:List Int):Prop:=kbx w a l.length (fun k=>l.getD k 0)
theorem keQ.mono {w w':Tw}{a:To}{l:List Int}(b:keQ w a l)(c:Bw w w'):keQ w' a l:=kbx.mono b c
def kb0 (w:Tw)(a:To)(l:List Nx):Prop:=kch w a l.length (nf l)
theorem kb0.mono {w w':Tw}{a:To}{l:List Nx}(b:kb0 w a l)(c:Bw w w'):kb0 w' a l:=kch.mono b c
structure FA where
 b:To
 bc:Nat
 i:To
 ic:Nat
 h:To
 hc:Nat
 v:To
 vc:Nat
 u:To
 uc:Nat
structure FSl (w:Tw)(f:Fl)(A:FA):Prop where
 b:keQ w A.b f.bys
 i:kb0 w A.i f.is
 h:kb0 w A.h f.wh
 v:kb0 w A.v f.va
 u:kb0 w A.u f.mu
theorem FSl.mono {w w':Tw}{f:Fl}{A:FA}(a:FSl w f A)(c:Bw w w'):FSl w' f A:=⟨a.b.mono c,a.i.mono c,a.h.mono c,a.v.mono c,a.u.mono c⟩
def fCs (f:Fl)(A:FA):Tl:=[.string f.nm,.int .i64 f.ty,.int .i64 f.lb,.slice A.b f.bys.length A.bc,.slice A.i f.is.length A.ic,.slice A.h f.wh.length A.hc,.slice A.v f.va.length A.vc,.string f.sy,.slice A.u f.mu.length A.uc]
def fV (f:Fl)(A:FA):Value:=.agg #[.string f.nm,.int .i64 f.ty,.int .i64 f.lb,.slice A.b f.bys.length A.bc,.slice A.i f.is.length A.ic,.slice A.h f.wh.length A.hc,.slice A.v f.va.length A.vc,.string f.sy,.slice A.u f.mu.length A.uc]
def keu (w:Tw)(b o:Nat)(f:Fl)(A:FA):Prop:=b<w.heap.size/\w.cell? ⟨b,o,none⟩=some (.string f.nm)/\w.cell? ⟨b,o+1,none⟩=some (.int .i64 f.ty)/\w.cell? ⟨b,o+2,none⟩=some (.int .i64 f.lb)/\w.cell? ⟨b,o+3,none⟩=some (.slice A.b f.bys.length A.bc)/\w.cell? ⟨b,o+4,none⟩=some (.slice A.i f.is.length A.ic)/\w.cell? ⟨b,o+5,none⟩=some (.slice A.h f.wh.length A.hc)/\w.cell? ⟨b,o+6,none⟩=some (.slice A.v f.va.length A.vc)/\w.cell? ⟨b,o+7,none⟩=some (.string f.sy)/\w.cell? ⟨b,o+8,none⟩=some (.slice A.u f.mu.length A.uc)
theorem keu.mono {w w':Tw}{b o:Nat}{f:Fl}{A:FA}(a:keu w b o f A)(c:Bw w w'):keu w' b o f A :=
 ⟨Yn a.1 c.size,(c.cell a.1).trans a.2.1,(c.cell a.1).trans a.2.2.1,(c.cell a.1).trans a.2.2.2.1,(c.cell a.1).trans a.2.2.2.2.1,(c.cell a.1).trans a.2.2.2.2.2.1,(c.cell a.1).trans a.2.2.2.2.2.2.1,(c.cell a.1).trans a.2.2.2.2.2.2.2.1,(c.cell a.1).trans a.2.2.2.2.2.2.2.2.1,(c.cell a.1).trans a.2.2.2.2.2.2.2.2.2⟩
theorem kaU {w:Tw}{b:Nat}{t:TypeId}{v u c d e f g h i:Value}(a:Blk w b t [v,u,c,d,e,f,g,h,i]) :
 w.cell? ⟨b,0,none⟩=some v/\w.cell? ⟨b,1,none⟩=some u/\w.cell? ⟨b,2,none⟩=some c/\w.cell? ⟨b,3,none⟩=some d/\w.cell? ⟨b,4,none⟩=some e/\w.cell? ⟨b,5,none⟩=some f/\w.cell? ⟨b,6,none⟩=some g/\w.cell? ⟨b,7,none⟩=some h/\w.cell? ⟨b,8,none⟩=some i:=⟨a.cell 0,a.cell 1,a.cell 2,a.cell 3,a.cell 4,a.cell 5,a.cell 6,a.cell 7,a.cell 8⟩
def kdn (w:Tw)(a:To)(l:List Fl)(A:Nat->FA):Prop:=∀k (h:k<l.length),∃b o,a=some ⟨b,o,none⟩/\keu w b (o+k*9) l[k] (A k)/\FSl w l[k] (A k)
theorem kdn.mono {w w':Tw}{a:To}{l:List Fl}{A:Nat->FA}(e:kdn w a l A)(b:Bw w w'):kdn w' a l A:=fun i g=>by
 obtain⟨c,j,d,f,h⟩:=e i g;exact⟨c,j,d,f.mono b,h.mono b⟩
structure MA where
 l:To
 lc:Nat
 p:To
 pc:Nat
 r:To
 rc:Nat
 f:To
 fc:Nat
 fa:Nat->FA
def mV (m:Fm)(A:MA):Value:=.agg #[.slice A.l m.L.length A.lc,.slice A.p m.P.length A.pc,.slice A.r m.R.length A.rc,.slice A.f m.F.length A.fc]
structure MSl (w:Tw)(m:Fm)(A:MA):Prop where
 l:kbY w A.l m.L
 p:Prs w A.p m.P
 r:Rls w A.r m.R
 f:kdn w A.f m.F A.fa
theorem MSl.mono {w w':Tw}{m:Fm}{A:MA}(a:MSl w m A)(b:Bw w w'):MSl w' m A:=⟨a.l.mono b,a.p.mono b,a.r.mono b,a.f.mono b⟩
theorem kaf {w:Tw}{b:Nat}{t:TypeId}{v u c d:Value}(a:Blk w b t [v,u,c,d]) :
 w.cell? ⟨b,0,none⟩=some v/\w.cell? ⟨b,1,none⟩=some u/\w.cell? ⟨b,2,none⟩=some c/\w.cell? ⟨b,3,none⟩=some d:=⟨a.cell 0,a.cell 1,a.cell 2,a.cell 3⟩
structure kd2 (f:Fl):Prop where
 nm:f.nm.size<=9223372036854775807
 sy:f.sy.size<=9223372036854775807
 bl:f.bys.length<=9223372036854775807
 il:f.is.length<=9223372036854775807
 hl:f.wh.length<=9223372036854775807
 vl:f.va.length<=9223372036854775807
 ul:f.mu.length<=9223372036854775807
 i:∀k,k<f.is.length->Fit (nf f.is k)
 h:∀k,k<f.wh.length->Fit (nf f.wh k)
 v:∀k,k<f.va.length->Fit (nf f.va k)
 u:∀k,k<f.mu.length->Fit (nf f.mu k)
structure kbe (m:Fm):Prop where
 ll:m.L.length<=9223372036854775807
 pl:m.P.length<=9223372036854775807
 rl:m.R.length<=9223372036854775807
 fl:m.F.length<=9223372036854775807
 l:∀x,x∈m.L->x.size<=9223372036854775807
 r:∀x,x∈m.R->x.nm.size<=9223372036854775807
 f:∀x,x∈m.F->kd2 x
theorem eqS (a b:Tb):(a.toList==b.toList)=decide (a=b):=by
 rw[Zh,Yk];refine⟨fun c=>?_,fun c=>by rw[c];simp⟩;have d:=q9m c;rw[d,Y7]
theorem qbj (a:To)(c:Nat)(l:List Tb)(s:Tb)(w:Tw)(x:l.length<=9223372036854775807)(o:kbY w a l) :
 Calls prog 148 #[.slice a l.length c,.string s] w fun d e=>∃b:Int,d=.returned (J6 b)/\(b<0 ↔ ¬ s∈l)/\e=w:=by
 have k:=h_ o;go_enter func148,ntmps148;go_wp2_with fail;go_loopw [5] (fun f wr=>∃b:Nat,b<=l.length/\f=J6 b/\(∀d (e:d<l.length),d<b->l[d]≠s)/\wr=w) (fun f _=>l.length - (intOf f).toNat)
 case atStart=>exact⟨0,nZ _,rfl,fun d _ f=>absurd f (nL _),rfl⟩
 case round =>
  obtain⟨b,v,rfl,p,rfl⟩:=hrel;have h:=h_ p;by_cases j:b<l.length
  . have q:(b:Int)<l.length:=by omega
    obtain⟨t,y,rfl,-,u⟩:=k b j;have i:=eqS l[b] s;by_cases g:l[b]=s
    . have m:Hi (((b:Int)<0) ↔ ¬ s∈l):=h_ ⟨fun e=>by omega,fun e=>absurd (g ▸ Yi j) e⟩
      rw[Ye g]at i;generalize l[b]=r at *;go_wp2_with fail;go_ret;exact⟨_,rfl,m,rfl⟩
    . have m:Hi (∀d (e:d<l.length),d<b+1->l[d]≠s):=h_ fun d e f=>by
       by_cases n:d=b
       . subst n;exact g
       . exact h d e (by omega)
      rw[Yd g]at i;generalize l[b]=r at *;refine rQ ?_;exact⟨b+1,by omega,by go_num,m,by first | rfl | trivial⟩
  . have q:¬ (b:Int)<l.length:=by omega
    go_wp2_with fail;go_ret;exact⟨_,rfl,⟨fun _ e=>by obtain⟨d,f,g⟩:=Yx.1 e;exact h d f (by omega) g,fun _=>by omega⟩,rfl⟩
theorem qk3 {a:List Tb}{l:List Nx}{k:Nat}(b:k<l.length)(c:l[k].op=1)(d:¬ l[k].nm∈a):kas a l=false:=by
 unfold kas;rw[Zy];exact⟨l[k],Yi b,by simp[c,qq7 d]⟩
theorem qfp {d:List Tb}{l:List Nx}(e:∀a (c:a<l.length),l[a].op=1->l[a].nm∈d):kas d l=true:=by
 unfold kas;rw[Yv];intro g f;obtain⟨a,c,rfl⟩:=Yx.1 f;by_cases b:l[a].op=1
 . simp[b,(qk9 _ _).2 (e a c b)]
 . simp[b]
theorem q88 (a b:To)(c s:Nat)(l:List Nx)(f:List Tb)(w:Tw)(L:l.length<=9223372036854775807)(H:f.length<=9223372036854775807)(D:kb0 w a l)(F:kbY w b f) :
 Calls prog 158 #[.slice a l.length c,.slice b f.length s] w fun y d=>y=.returned (.bool (kas f l))/\d=w:=by
 obtain⟨A,B⟩:=oB D F;obtain⟨x,u⟩:=Nq (kas f l);rw[u];have q:=h_ u;go_enter func158,ntmps158;go_wp2_with fail;go_loopw [5] (fun g wr=>∃d:Nat,d<=l.length/\g=J6 d/\(∀e (h:e<l.length),e<d->l[e].op=1->l[e].nm∈f)/\wr=w) (fun g _=>l.length - (intOf g).toNat)
 case atStart=>exact⟨0,nZ _,rfl,fun e _ j=>absurd j (nL _),rfl⟩
 case round =>
  obtain⟨d,K,rfl,E,rfl⟩:=hrel;have p:=h_ E;by_cases n:d<l.length
  . have G:(d:Int)<l.length:=by omega
    obtain⟨J,M,rfl,-,t,c1,c2,c3,c4⟩:=A d n;rw[kb7 l d n]at t c1 c2 c3 c4;have r:Hi ((l[d].op=1->l[d].nm∈f)->∀e (h:e<l.length),e<d+1->l[e].op=1->l[e].nm∈f):=h_ fun i e h j=>by
     by_cases g:e=d
     . subst g;exact i
     . exact p e h (by omega)
    have C:Hi (l[d].op=1->¬ l[d].nm∈f->x=false):=h_ fun i g=>by rw[<- q.u];exact qk3 n i g
    generalize l[d]=m at *;by_cases i:m.op=1
    . rw[i]at t
      go_wp2_with fail;refine(qbj b s f m.nm _ H B).mono ?_;rintro y N ⟨z,rfl,v,o⟩;replace o:=o.symm;subst o;by_cases k:m.nm∈f
      . have I:¬ z<0:=fun h=>(v.1 h) k
        have g:=h_ (r fun _=>k);refine rQ ?_;exact⟨d+1,by omega,by go_num,g,by first | rfl | trivial⟩
      . have I:z<0:=v.2 k
        have g:=h_ (C i k);go_wp2_with fail;go_ret;exact⟨qln g.symm,rfl⟩
    . have k:(m.op==1)=false:=Yc.2 i
      have g:=h_ (r fun h=>absurd h i);refine rQ ?_;exact⟨d+1,by omega,by go_num,g,by first | rfl | trivial⟩
  . have G:¬ (d:Int)<l.length:=by omega
    have g:Hi (x=true):=h_ (by rw[<- q.u];exact qfp fun e j=>p e j (by omega));go_wp2_with fail;go_ret;exact⟨qln g.symm,rfl⟩
theorem q5w (a:To)(c:Nat)(l:List Nx)(w:Tw)(k:l.length<=9223372036854775807)(h:kb0 w a l)(j:∀b,b<l.length->Fit (nf l b)) :
 Gv 157 #[.slice a l.length c] w (.bool (kac l)):=by
 have d:kac l=(decide (l.length=0)||vxB (nf l) l.length):=rfl;have f:=h_ (q1n a l.length c (nf l) w k h j);by_cases b:l.length=0
 . have g:((l.length:Int)==0)=true:=by simp[b]
   rw[show kac l=true by rw[d,Ye b];rfl];go_enter func157,ntmps157;go_wp2_with fail;go_ret;exact⟨rfl,bR _ _⟩
 . have g:((l.length:Int)==0)=false:=Yc.2 (by omega)
   rw[show kac l=vxB (nf l) l.length by rw[d,Yd b];rfl];generalize vxB (nf l) l.length=m at *;go_enter func157,ntmps157;go_wp2_with fail;refine cQ f fun n i=>?_;have e:=h_ i;cases m
   all_goals
    go_wp2_with fail;go_ret;exact⟨rfl,e⟩
theorem q8v {l:List Tb}{k:Nat}(a:k<l.length)(b:kaQ l[k]=false):kae l=false:=by
 unfold kae;rw[show l.all kaQ=false from Zy.2 ⟨l[k],Yi a,by simp[b]⟩];rfl
theorem q44 {l:List Tb}{k j:Nat}(a:k<l.length)(c:j<k)(b:l[k]=l[j]):kae l=false:=by
 unfold kae;rw[Yd (fun d=>?_),Oa];have:=Vm.1 d j k (by omega) a c;exact this b.symm
theorem q8w {l:List Tb}(d:∀a (b:a<l.length),kaQ l[a]=true)(e:∀a (b:a<l.length) b (c:b<a),l[a]≠l[b]):kae l=true:=by
 unfold kae;rw[Yh,Yv,Yk];refine⟨fun j h=>?_,Vm.2 fun i b f c g f=>e b c i g f.symm⟩;obtain⟨a,b,rfl⟩:=Yx.1 h;exact d a b
theorem q2n (a:To)(c:Nat)(l:List Tb)(w:Tw)(hl:l.length<=9223372036854775807)(Y:∀y,y∈l->y.size<=9223372036854775807)(S:kbY w a l) :
 Gv 119 #[.slice a l.length c] w (.bool (kae l)):=by
 obtain⟨z,N⟩:=oB S Y;obtain⟨x,G⟩:=Nq (kae l);rw[G];have q:=h_ G;go_enter func119,ntmps119;go_wp2_with fail;go_loopw [3,4] (fun d _ wr=>∃e:Nat,e<=l.length/\d=J6 e/\(∀b (f:b<l.length),b<e->kaQ l[b]=true/\∀d (j:d<b),l[b]≠l[d])/\Bw w wr) (fun d _ _=>l.length - (intOf d).toNat)
 case atStart=>exact⟨0,nZ _,rfl,fun b _ g=>absurd g (nL _),bR _ _⟩
 case round =>
  obtain⟨e,hk,rfl,T,E⟩:=hrel;obtain⟨o,n,P⟩:=oC T E (z.mono E);by_cases k:e<l.length
  . have X:(e:Int)<l.length:=by omega
    obtain⟨aa,ad,rfl,-,r⟩:=P e k;have Z:=N _ (Yi k);have K:=h_ (q8v k);have O:Hi (∀b (g:b<e),l[e]=l[b]->kae l=false):=h_ fun b g h=>q44 k g h;go_wp2_with fail;refine cQ (q2p _ _ Z) fun w2 v=>?_;replace v:=v.symm;subst v;cases F:kaQ l[e]
    . have i:Hi (x=false):=h_ (by rw[<- q.u];exact K F)
      go_wp2_with fail;go_ret;exact⟨qln i.symm,n⟩
    have L:=h_ F;go_wp2_with fail;go_loopw [4] (fun m p=>∃b:Nat,b<=e/\m=J6 b/\(∀d (j:d<e),d<b->l[e]≠l[d])/\Bw w p) (fun m _=>e - (intOf m).toNat)
    case atStart=>exact⟨0,nZ _,rfl,fun d _ g=>absurd g (nL _),n⟩
    case round =>
     obtain⟨b,g,rfl,U,t⟩:=hrel;obtain⟨B,J,A,C⟩:=oD U t (t.drew) (z.mono t);by_cases V:b<e
     . have W:(b:Int)<e:=by omega
       have ac:(b:Int)<l.length:=(by omega);obtain⟨b2,o2,Q,-,D⟩:=C b (by omega);cases Q;obtain⟨b3,o3,R,-,r⟩:=C e k;cases R;have h:=eqS l[e] l[b];have i:Hi (l[e]=l[b]->x=false):=h_ fun f=>by rw[<- q.u];exact O b V f
       have p:Hi (l[e]≠l[b]->∀d (j:d<e),d<b+1->l[e]≠l[d]):=h_ fun f d j m=>by
        by_cases s:d=b
        . subst s;exact f
        . exact B d j (by omega)
       obtain⟨y,H⟩:=Nq (l[e]);obtain⟨ae,I⟩:=Nq (l[b]);by_cases m:l[e]=l[b]
       . rw[Ye m]at h
         have M:=h_ (i m);rw[H]at r h;rw[I]at D h;go_wp2_with fail;go_region;go_wp2_with fail;go_ret;exact⟨qln M.symm,A⟩
       . rw[Yd m]at h
         have M:=h_ (p m);rw[H]at r h;rw[I]at D h;go_wp2_with fail;go_region;refine rQ ?_;exact⟨b+1,by omega,by go_num,M,A⟩
     . obtain rfl:b=e:=by omega
       have W:¬ (b:Int)<(b:Int):=(by omega);have p:Hi (∀d (f:d<l.length),d<b+1->kaQ l[d]=true/\∀h (m:h<d),l[d]≠l[h]):=h_ fun d f j=>by
        by_cases s:d=b
        . subst s;exact⟨L,fun h m=>B h m m⟩
        . exact o d f (by omega)
       refine rQ ?_;exact⟨b+1,by omega,by go_num,p,J⟩
  . have X:¬ (e:Int)<l.length:=by omega
    have i:Hi (x=true):=h_ (by rw[<- q.u];exact q8w (fun d f=>(o d f (by omega)).1) (fun d f b g=>(o d f (by omega)).2 b g));go_wp2_with fail;go_ret;exact⟨qln i.symm,n⟩
