import Derived.Test.YtenckgnkjkijnaaGreatDoorW14
import Derived.Test.YtenckgnkjkijnaaGreatDoorW07
import Derived.Test.YtenckgnkjkijnaaGreatDoorW08
set_option maxRecDepth 100000
set_option maxHeartbeats 64000000
namespace Go.Proofs.YtenckgnkjkijnaaGreatDoor
open Go Go.RowKit Go.Proofs.Tryz
variable {w:Tw}{n k:Nat}{v:Value}{f g:Nat->Nat}{s:Tb}
def kdW (w:Tw):Prop:=5<w.heap.size/\∀k,k<26->w.cell? ⟨5,k,none⟩=some (.string (ke7.getD k ⟨#[]⟩))
theorem kdW.mono {w':Tw}(a:kdW w)(b:Bw w w'):kdW w':=⟨Yn a.1 b.size,fun d c=>(b.cell a.1).trans (a.2 d c)⟩
theorem kdW.at (b:kdW w){a:Int}(c:0<=a)(d:a<=25):w.cell? ⟨5,a.toNat,none⟩=some (.string (wrd a)):=b.2 a.toNat (by omega)
theorem qq4 (a:Int):1<=lvl a/\lvl a<=7:=by
 unfold lvl
 (repeat' split) <;> omega
theorem qg7 {n:Nx}(b:kao n=true):0<=n.op/\n.op<=25:=by
 rcases kg1 n.op with a | a | ⟨a,c⟩
 . omega
 . omega
 . rw[kcW a c]at b
   simp only[Yh,Yk]at b;omega
theorem q2y (n:Nx)(a:To)(c:Nat)(l:List Ph)(w:Tw)(aB:kao n=true)(hf:Fit n)(hl:l.length=arn n)(ha:Phs w a l)(hs:tot l<=2000000)(hw:kdW w)(hp:Pow w) :
 Gv 360 #[nv n,.slice a (arn n) c] w (.string (phT n l)):=by
 unfold nv;obtain⟨aC,ai⟩:=qg7 aB;obtain⟨z,ag⟩:=Nq (w.alloc (.cells (Je n) 190));obtain⟨I,h⟩:=oB (Blk.new w 190 (Je n)) ((bR w.heap.size w).alloc (nR _) (.cells (Je n) 190));rw[ag]at I h;obtain⟨H,HP⟩:=oB (ha.mono h) (hp.mono h);have aD:=(hw.mono h).at aC ai;have HT:Hi (phT n l=phT n l):=h_ rfl;obtain⟨O,ht⟩:=Nq (phT n l);rw[ht];have K:=h_ ht;obtain⟨Q,y1,y2,y3,y4⟩:=kaG I;obtain⟨C,T⟩:=oB hl hs;go_enter func360,ntmps360;go_wp2_with fail;have aF:((n.op.toNat:Nat):Int)=n.op:=by omega
 refine wp_region_held_drew (S:=fun E=>E.cell? ⟨w.heap.size,0,none⟩=some (J6 n.op)/\E.cell? ⟨5,n.op.toNat,none⟩=some (.string (wrd n.op))) (by kernel_rfl) ⟨Q,aD⟩ (fun b=>?_);refine tkA 0 b ?_;refine tkA 1 b ?_;refine tkA 3 b ?_;refine tkA 4 b ?_;refine tkL 5 13 (J9 5 n.op.toNat) b ?_ (hy:=fun w q=>by simp[execOp,go_sem, *];intro A;omega);refine tkA 6 b ?_;refine kaL (i:=2) (f:=361) (args:=#[J6 n.op]) (R:=fun B G=>B=J6 (lvl n.op)/\G=z.drew) 10 rfl rfl (by rfl) (by kernel_rfl) ?hrun0 ((q8o _ _).mono fun L w6 ⟨F,g⟩=>⟨_,F,rfl,g⟩) ?_
 case hrun0=>simp[execOp,go_sem]
 rintro r3 w3 ⟨rfl,hw⟩;subst hw;refine⟨b,?_⟩;refine kaS (by(first | simp only[Ya,Yb] | skip);rfl) (by(first | simp only[Ya,Yb] | skip);rfl) ?_;refine tkA 7 b ?_;refine tkA 8 b ?_;refine wpAnyH_done (by kernel_rfl) ?_ _;have HD:Hi (Bw z z.drew):=h_ ((bR _ _).drew);replace h:=h_ (h.trans (HD.mono h.size));replace I:=h_ (I.mono HD I.lt);replace H:=h_ (H.mono HD);replace HP:=h_ (HP.mono HD);obtain⟨W1,av⟩:=Nq z.drew;rw[av]at h I H HP⊢;obtain⟨z,ag⟩:∃z,z=W1:=⟨_,rfl⟩;subst ag;obtain⟨Q,y1,y2,y3,y4⟩:=kaG I;rcases kg1 n.op with A | A | ⟨A,V⟩
 . have p:Hi (kbm n.v.k n.v.n n.v.s=O):=h_ (by rw[<- K.u,phT,Yr A])
   rw[A]at Q;go_wp2_with fail;refine cQ (q5b _ _ _ _ hf.1 hf.2.2.1 hf.2.2.2 HP) fun x g=>?_;replace h:=mT h g;go_wp2_with fail;go_ret;exact⟨qrt p,h⟩
 . have p:Hi (n.nm=O):=h_ (by rw[<- K.u,phT,Yl (by omega),Yr A])
   rw[A]at Q;go_wp2_with fail;go_ret;exact⟨qrt p,h⟩
 have n0:(n.op==0)=false:=Yc.2 A;have n1:(n.op==1)=false:=Yc.2 V;have ap:2<=n.op:=by omega
 have aq:=qmx ap ai;have aE:=hf;by_cases D:n.op=2
 . have o:arn n=1:=by unfold arn;rw[kcM (.inl D)];rfl
   rw[o]at C⊢;obtain⟨e,rfl⟩:=kdb C;have p:Hi (⟨#[45]⟩++wrap 6 e=O):=h_ (by rw[<- K.u,phT,Yl A,Yl V,Yr D];rfl);obtain⟨r,y,rfl,-,m,c1,c2⟩:=H 0 (by simp);simp only[Vs,Nat.zero_mul,Zo]at m c1 c2;have ae:e.t.size<=2000000:=by have:=T.u;simp only[tot]at this;omega
   have J:=qi5 6 e;rw[D]at Q;rw[show wrd n.op=⟨#[45]⟩ by rw[D];rfl,show lvl n.op=6 by rw[D];rfl];go_wp2_with fail;refine cQ (q74 e 6 _ ae) fun x g=>?_;replace h:=mT h g;generalize wrap 6 e=j at *;go_wp2_with fail;go_ret;exact⟨qrt p,h⟩
 by_cases t:n.op=3
 . have o:arn n=1:=by unfold arn;rw[kcM (.inr t)];rfl
   rw[o]at C⊢;obtain⟨e,rfl⟩:=kdb C;have p:Hi (⟨#[110,111,116,32]⟩++wrap 6 e=O):=h_ (by rw[<- K.u,phT,Yl A,Yl V,Yl D,Yr t];rfl);obtain⟨r,y,rfl,-,m,c1,c2⟩:=H 0 (by simp);simp only[Vs,Nat.zero_mul,Zo]at m c1 c2;have ae:e.t.size<=2000000:=by have:=T.u;simp only[tot]at this;omega
   have J:=qi5 6 e;rw[t]at Q;rw[show wrd n.op=⟨#[110,111,116]⟩ by rw[t];rfl,show lvl n.op=6 by rw[t];rfl];go_wp2_with fail;refine cQ (q74 e 6 _ ae) fun x g=>?_;replace h:=mT h g;generalize wrap 6 e=j at *;go_wp2_with fail;go_ret;exact⟨qrt p,h⟩
 have n2:(n.op==2)=false:=Yc.2 D;have n3:(n.op==3)=false:=Yc.2 t;by_cases M:lvl n.op=7
 . have p:Hi (wrd n.op++⟨#[40]⟩++jn (l.map (·.t))++⟨#[41]⟩=O):=h_ (by rw[<- K.u,phT,Yl A,Yl V,Yl D,Yl t,Yr M])
   have J:=kbQ n;have U:1<=arn n:=by
    have:=qig n;have L:=keA n.op;rw[Yr (by omega)]at L;have:1<=opn n.op:=(by unfold opn;(repeat' split) <;> omega);omega
   have m:=qpo l;have X:=T.u;rw[C.u]at m;rw[M];generalize wrd n.op=o at *;go_wp2_with fail;refine(show Calls prog 374 #[.slice a (arn n) c] z fun B E=>B=.returned (.string (jn (l.map (·.t))))/\Bw z E from ?_).mono ?_
   . rw[<- C.u];exact qbu a c l z (by have:=C.u;omega) (by have:=C.u;omega) H T
   rintro B x ⟨rfl,g⟩;replace h:=mT h g;generalize jn (l.map (·.t))=j at *;have W:(o++(⟨#[40]⟩:Tb)).size=o.size+1:=by rw[Ym];rfl
   have N:(o++(⟨#[40]⟩:Tb)++j).size=o.size+1+j.size:=by rw[Ym,W]
   go_wp2_with fail;go_ret;exact⟨qrt p,h⟩
 . have e2:arn n=2:=by unfold arn;rw[ken ap ai M D t];rfl
   rw[e2]at C⊢;obtain⟨e,m,rfl⟩:=kfM C;have p:Hi (wrap (lft n.op) e++⟨#[32]⟩++wrd n.op++⟨#[32]⟩++wrap (lvl n.op+1) m=O):=h_ (by rw[<- K.u,phT,Yl A,Yl V,Yl D,Yl t,Yl M];rfl);have aw:=H 0 (by simp);have ax:=H 1 (by simp);obtain⟨r,y,rfl,ac⟩:=aw;obtain⟨b2,o2,au,ad⟩:=ax;cases au;simp only[Vs,List.getElem_cons_succ,Nat.zero_mul,Nat.one_mul,Zo]at ac ad;have HC:=h_ (And.intro ac ad);have ae:e.t.size+m.t.size<=2000000:=by have:=T.u;simp only[tot]at this;omega
   have az:=qq4 n.op;have aa:Hi (lft n.op=if lvl n.op=3 then 4 else lvl n.op):=h_ rfl;obtain⟨lv,aA⟩:=Nq (lvl n.op);obtain⟨x,ay⟩:=Nq (lft n.op);rw[aA]at p aa M az⊢;rw[ay]at p aa;have n7:(lv==7)=false:=Yc.2 M;by_cases t:lv=3
   . have ah:x=4:=by rw[aa.u,Yr t]
     subst t ah;simp only[show(3:Int)+1=4 from rfl]at p;go_wp2_with fail;refine wp_region_held_drew (S:=fun E=>kdo E r y e/\kdo E r (y+3) m) (by kernel_rfl) ⟨ac,ad⟩ (fun b=>?_);refine tkA 0 b ?_;refine tkA 1 b ?_;refine tkL 2 67 (.agg (J1 e.t e.lv e.d)) b ?_ (hy:=fun w q=>by obtain⟨⟨-,X,Y,Z⟩,-,q3,q4,q5⟩:=q;simp[execOp,go_sem,X,Y,Z]);refine tkA 3 b ?_;refine tkA 6 b ?_;refine tkA 9 b ?_;refine tkA 10 b ?_;refine tkL 11 76 (.agg (J1 m.t m.lv m.d)) b ?_ (hy:=fun w q=>by obtain⟨⟨-,X,Y,Z⟩,-,q3,q4,q5⟩:=q;simp[execOp,go_sem,q3,q4,q5]);refine tkA 12 b ?_;refine tkL 13 78 (J6 4) b ?_ (hy:=fun w q=>by simp[execOp,go_sem, *];rfl);refine kaL (i:=4) (f:=373) (args:=#[.agg (J1 e.t e.lv e.d),J6 4]) (R:=fun B G=>B=.string (wrap 4 e)/\Bw z G) 69 rfl rfl (by rfl) (by kernel_rfl) ?hrun1 ((q74 e 4 _ (by omega)).mono fun L w6 ⟨F,g⟩=>⟨_,F,rfl,q36 g⟩) ?_
     case hrun1=>simp[execOp,go_sem]
     rintro r3 J ⟨rfl,g⟩;replace h:=mT h g;replace b:kdo J r y e/\kdo J r (y+3) m:=⟨HC.1.mono g,HC.2.mono g⟩;refine⟨b,?_⟩;refine kaS (by(first | simp only[Ya,Yb] | skip);rfl) (by(first | simp only[Ya,Yb] | skip);rfl) ?_;have aj:=qi5 4 e;have al:=qi5 4 m;obtain⟨j,ak⟩:=Nq (wrap 4 e);rw[ak]at p aj⊢;have W:(j++(⟨#[32]⟩:Tb)).size=j.size+1:=(by rw[Ym];rfl);obtain⟨o,ao⟩:=Nq (wrd n.op);rw[ao]at p aq⊢;refine tkL 5 70 (.string (j++⟨#[32]⟩)) b ?_ (hy:=fun w q=>by have:=run_string_add_sum (P:=prog) w j ⟨#[32]⟩ (by show j.size+1<=_;omega);simp[execOp,go_sem,this]);have N:(j++(⟨#[32]⟩:Tb)++o).size=j.size+1+o.size:=(by rw[Ym,W]);refine tkL 7 72 (.string (j++⟨#[32]⟩++o)) b ?_ (hy:=fun w q=>by have:=run_string_add_sum (P:=prog) w (j++⟨#[32]⟩) o (by omega);simp[execOp,go_sem,this]);have af:(j++(⟨#[32]⟩:Tb)++o++⟨#[32]⟩).size=j.size+1+o.size+1:=(by rw[Ym,N];rfl);refine tkL 8 73 (.string (j++⟨#[32]⟩++o++⟨#[32]⟩)) b ?_ (hy:=fun w q=>by have:=run_string_add_sum (P:=prog) w (j++⟨#[32]⟩++o) ⟨#[32]⟩ (by rw[N];show j.size+1+o.size+1<=_;omega);simp[execOp,go_sem,this]);refine kaL (i:=14) (f:=373) (args:=#[.agg (J1 m.t m.lv m.d),J6 4]) (R:=fun B G=>B=.string (wrap 4 m)/\Bw J G) 79 rfl rfl (by rfl) (by kernel_rfl) ?hrun2 ((q74 m 4 _ (by omega)).mono fun L w6 ⟨F,g⟩=>⟨_,F,rfl,g⟩) ?_
     case hrun2=>simp[execOp,go_sem]
     rintro r3 U ⟨rfl,g⟩;replace h:=mT h g;replace b:kdo U r y e/\kdo U r (y+3) m:=⟨b.1.mono g,b.2.mono g⟩;refine⟨b,?_⟩;refine kaS (by(first | simp only[Ya,Yb] | skip);rfl) (by(first | simp only[Ya,Yb] | skip);rfl) ?_;obtain⟨t2,am⟩:=Nq (wrap 4 m);rw[am]at p al⊢;obtain⟨u3,an⟩:=Nq (j++(⟨#[32]⟩:Tb)++o++⟨#[32]⟩);rw[an]at p af⊢;refine tkL 15 80 (.string (u3++t2)) b ?_ (hy:=fun w q=>by have:=run_string_add_sum (P:=prog) w u3 t2 (by omega);simp[execOp,go_sem,this]);refine tkA 16 b ?_;refine wpAnyH_done (by kernel_rfl) ?_ _;go_wp2;go_ret;exact⟨qrt p,h⟩
   . have ah:x=lv:=by rw[aa.u,Yl t]
     subst ah;have aG:(x==3)=false:=Yc.2 t;go_wp2_with fail;refine wp_region_held_drew (S:=fun E=>kdo E r y e/\kdo E r (y+3) m) (by kernel_rfl) ⟨ac,ad⟩ (fun b=>?_);refine tkA 0 b ?_;refine tkA 1 b ?_;refine tkL 2 67 (.agg (J1 e.t e.lv e.d)) b ?_ (hy:=fun w q=>by obtain⟨⟨-,X,Y,Z⟩,-,q3,q4,q5⟩:=q;simp[execOp,go_sem,X,Y,Z]);refine tkA 3 b ?_;refine tkA 6 b ?_;refine tkA 9 b ?_;refine tkA 10 b ?_;refine tkL 11 76 (.agg (J1 m.t m.lv m.d)) b ?_ (hy:=fun w q=>by obtain⟨⟨-,X,Y,Z⟩,-,q3,q4,q5⟩:=q;simp[execOp,go_sem,q3,q4,q5]);refine tkA 12 b ?_;refine tkL 13 78 (J6 (x+1)) b ?_ (hy:=fun w q=>by simp[execOp,go_sem, *];rw[IntKind.wrap_i64];omega);refine kaL (i:=4) (f:=373) (args:=#[.agg (J1 e.t e.lv e.d),J6 x]) (R:=fun B G=>B=.string (wrap x e)/\Bw z G) 69 rfl rfl (by rfl) (by kernel_rfl) ?hrun1 ((q74 e x _ (by omega)).mono fun L w6 ⟨F,g⟩=>⟨_,F,rfl,q36 g⟩) ?_
     case hrun1=>simp[execOp,go_sem]
     rintro r3 J ⟨rfl,g⟩;replace h:=mT h g;replace b:kdo J r y e/\kdo J r (y+3) m:=⟨HC.1.mono g,HC.2.mono g⟩;refine⟨b,?_⟩;refine kaS (by(first | simp only[Ya,Yb] | skip);rfl) (by(first | simp only[Ya,Yb] | skip);rfl) ?_;have aj:=qi5 x e;have al:=qi5 (x+1) m;obtain⟨j,ak⟩:=Nq (wrap x e);rw[ak]at p aj⊢;have W:(j++(⟨#[32]⟩:Tb)).size=j.size+1:=(by rw[Ym];rfl);obtain⟨o,ao⟩:=Nq (wrd n.op);rw[ao]at p aq⊢;refine tkL 5 70 (.string (j++⟨#[32]⟩)) b ?_ (hy:=fun w q=>by have:=run_string_add_sum (P:=prog) w j ⟨#[32]⟩ (by show j.size+1<=_;omega);simp[execOp,go_sem,this]);have N:(j++(⟨#[32]⟩:Tb)++o).size=j.size+1+o.size:=(by rw[Ym,W]);refine tkL 7 72 (.string (j++⟨#[32]⟩++o)) b ?_ (hy:=fun w q=>by have:=run_string_add_sum (P:=prog) w (j++⟨#[32]⟩) o (by omega);simp[execOp,go_sem,this]);have af:(j++(⟨#[32]⟩:Tb)++o++⟨#[32]⟩).size=j.size+1+o.size+1:=(by rw[Ym,N];rfl);refine tkL 8 73 (.string (j++⟨#[32]⟩++o++⟨#[32]⟩)) b ?_ (hy:=fun w q=>by have:=run_string_add_sum (P:=prog) w (j++⟨#[32]⟩++o) ⟨#[32]⟩ (by rw[N];show j.size+1+o.size+1<=_;omega);simp[execOp,go_sem,this]);refine kaL (i:=14) (f:=373) (args:=#[.agg (J1 m.t m.lv m.d),J6 (x+1)]) (R:=fun B G=>B=.string (wrap (x+1) m)/\Bw J G) 79 rfl rfl (by rfl) (by kernel_rfl) ?hrun2 ((q74 m (x+1) _ (by omega)).mono fun L w6 ⟨F,g⟩=>⟨_,F,rfl,g⟩) ?_
     case hrun2=>simp[execOp,go_sem]
     rintro r3 U ⟨rfl,g⟩;replace h:=mT h g;replace b:kdo U r y e/\kdo U r (y+3) m:=⟨b.1.mono g,b.2.mono g⟩;refine⟨b,?_⟩;refine kaS (by(first | simp only[Ya,Yb] | skip);rfl) (by(first | simp only[Ya,Yb] | skip);rfl) ?_;obtain⟨t2,am⟩:=Nq (wrap (x+1) m);rw[am]at p al⊢;obtain⟨u3,an⟩:=Nq (j++(⟨#[32]⟩:Tb)++o++⟨#[32]⟩);rw[an]at p af⊢;refine tkL 15 80 (.string (u3++t2)) b ?_ (hy:=fun w q=>by have:=run_string_add_sum (P:=prog) w u3 t2 (by omega);simp[execOp,go_sem,this]);refine tkA 16 b ?_;refine wpAnyH_done (by kernel_rfl) ?_ _;go_wp2;go_ret;exact⟨qrt p,h⟩
theorem q9r (a b:Int)(s:Tb)(left:Int)(w:Tw)(f:s.size<=9223372036854775807)(d:0<=left)(e:left<=1048576) :
 Gv 19 #[.agg (Jc a b s),J6 left] w (J6 (if left<s.size then -1 else left - s.size)):=by
 by_cases c:left<s.size
 all_goals
  go_enter func19,ntmps19;go_wp2;go_ret;exact⟨rfl,(bR _ _).alloc (nR _) _⟩
theorem q9u (a b:Int)(s:Tb)(w:Tw) :
 Gv 22 #[.agg (Jc a b s)] w (.agg (Jc a b s)):=by
 go_enter func22,ntmps22;go_wp2;refine bQ ⟨rfl,?_⟩;exact(((bR _ w).alloc (nR _) _).alloc (by simp) _).alloc (by simp;omega) _
def pb (f g:Nat->Nat)(k a b:Nat):Bool:=(List.range k).any fun i=>decide (f i=a)&&decide (g i=b)
theorem qr8 (f g:Nat->Nat)(k a b:Nat):pb f g (k+1) a b=(pb f g k a b||(decide (a=f k)&&decide (b=g k))):=by
 simp only[pb,Zc,List.any_append,List.any_cons,List.any_nil,Bool.or_false]
 congr 2 <;> rw[decide_eq_decide] <;> exact eq_comm
theorem kgw {a b:Nat}:pb f g k a b=true ↔ ∃c,c<k/\f c=a/\g c=b:=by simp[pb]
theorem qg9 (a:Nat)(w:Tw)(e:a<32):Calls prog 205 #[J6 a] w fun b d=>∃c,b=.returned c/\(c=.agg (#[.int .u32 ((2 ^ a:Nat):Int)])/\Bw w d) :=
 (qqs a w e).mono fun b d ⟨c,f⟩=>⟨_,c,rfl,by rw[f];exact(bR _ _).alloc (nR _) _⟩
theorem q9x (s t:Nat)(w:Tw)(d:s<4294967296)(e:t<4294967296):Calls prog 204 #[.agg #[.int .u32 s],.agg #[.int .u32 t]] w fun a c=>∃b,a=.returned b/\(b=.agg (#[.int .u32 ((s ||| t:Nat):Int)])/\Bw w c) :=
 (qhv s t w d e).mono fun a c ⟨b,f⟩=>⟨_,b,rfl,by rw[f];exact(((bR _ w).alloc (nR _) _).alloc (by simp) _).alloc (by simp;omega) _⟩
def khm (w':Tw)(P:Nat)(lo hi:Int):Prop:=w'.cell? ⟨P,0,none⟩=some (.int .i64 lo)/\w'.cell? ⟨P,1,none⟩=some (.int .i64 hi)
theorem q0g (n:Nat)(a:To)(m c:Nat)(f g:Nat->Nat)(w:Tw)(am:n<=32)(hm:m<=256)(ha:kbB w a m (fun e=>(f e:Int)) (fun e=>(g e:Int)))(hf:∀e,e<m->f e<n)(hg:∀e,e<m->g e<n) :
 Calls prog 166 #[.agg (Jn n a m c)] w fun C j=>∃d,C=.returned (.agg (us d).toArray)/\kau d (pb f g m)/\Bw w j:=by
 go_enter func166,ntmps166;go_wp2_with (refine q0r rfl _ _ rfl (w.heap.size+1+1) (fun _=>0) (fun _=>0) rfl rfl (khG _ _ _ _ _ rfl) ?_;intro w1 aa b h;have hA:=(khF _ _ _ _ _).grown b (by simp;omega);have D:=(khH _ _ _ _ (fun _=>0) rfl).grown b (by simp);have x:=(kcO _ _ _ _).trans ((bR w.heap.size _).grown b (by simp;omega) (fun e C=>by cases C;omega));have x1:=hA.cell 1;simp only[Yz,Yf]at x1;replace hA:=h_ hA;replace D:=h_ D;replace x:=h_ x;replace aa:=h_ aa;clear b h);go_loopw [10] (fun b wr=>∃(e:Nat) (d:Nat->Nat),e<=m/\b=J6 e/\kau d (pb f g e)/\Blk wr (w.heap.size+1+1) 237 (us d)/\Blk wr (w.heap.size+1) 237 (us fun _=>0)/\Bw w wr) (fun b _=>m - (intOf b).toNat)
 case atStart=>exact⟨0,fun _=>0,nZ _,rfl,fun a _=>⟨by simp,fun l=>by simp[pb]⟩,aa.u,D.u,x.u⟩
 case round =>
  obtain⟨e,d,hk,rfl,hrel,P,D,x⟩:=hrel;obtain⟨al,HO,HR,HB⟩:=oD hrel P D x;by_cases ad:e<m
  . obtain⟨b1,o1,rfl,an,af,ag⟩:=(ha.mono x) e ad
    dsimp only at af ag;have aj:=hf e ad;have ak:=hg e ad;obtain⟨b,hx⟩:=Nq (f e);obtain⟨h,hy⟩:=Nq (g e);rw[hx]at af aj;rw[hy]at ag ak;have A:b<32:=(by omega);have T:h<32:=(by omega);have ah:=(hrel b A).1;have N:Hi (kau (fun k=>if k=b then d b ||| 2 ^ h else d k) (pb f g (e+1))):=(hrel.add A T).congr fun a l _=>by rw[qr8,hx,hy]
    have y2:=kbP T;have ac:Bw wr (wr.alloc (.cells (Jr b h) 113)):=(bR _ _).alloc (nR _) _;have Y:=Blk.new wr 113 (Jr b h);have O3:=P.mono ac P.lt;have R3:=D.mono ac D.lt;have B3:=x.trans (ac.mono x.size);have Q:wr.heap.size≠w.heap.size+1+1:=(by have:=P.lt;omega);have S0:khm (wr.alloc (.cells (Jr b h) 113)) wr.heap.size b h:=⟨Y.cell 0,Y.cell 1⟩;obtain⟨ai,I,M,K,L⟩:=oG S0 O3 R3 B3 Y;have ao:(0:Int)<=b:=(by omega);have ap:(b:Int)<32:=(by omega);go_wp2_with fail;generalize wr.alloc (.cells (Jr b h) 113)=O at *;generalize wr.heap.size=G at *;refine wp_region_held_drew (S:=fun j=>khm j G b h) (by kernel_rfl) ai (fun o=>?_);refine tj 0 14 (J9 G 0) o ?_ (hy:=fun w j=>by obtain⟨y,z⟩:=j;simp[execOp,go_sem, *]);refine tj 1 15 (J6 b) o ?_ (hy:=fun w j=>by obtain⟨y,z⟩:=j;simp[execOp,go_sem, *]);refine tj 2 16 (J9 G 0) o ?_ (hy:=fun w j=>by obtain⟨y,z⟩:=j;simp[execOp,go_sem, *]);refine tj 3 17 (J6 b) o ?_ (hy:=fun w j=>by obtain⟨y,z⟩:=j;simp[execOp,go_sem, *]);simp only[sX,sY,sZ];refine tj 4 18 (J9 (w.heap.size+1+1) b) o ?_ (hy:=fun w j=>by obtain⟨y,z⟩:=j;simp[execOp,go_sem, *]);refine tj 6 20 (J9 G 1) o ?_ (hy:=fun w j=>by obtain⟨y,z⟩:=j;simp[execOp,go_sem, *]);refine tj 7 21 (J6 h) o ?_ (hy:=fun w j=>by obtain⟨y,z⟩:=j;simp[execOp,go_sem, *]);simp only[sX,sY,sZ];have cW:O.cell? ⟨w.heap.size+1+1,b,none⟩=some (.int .u32 (d b:Int)):=(by rw[I.u.cell b,kaT d A]);refine wpAnyH_ready (rs:=[5,8]) (by kernel_rfl) (by simp) (kaD (v:=.agg #[.int .u32 (d b:Int)]) (w':=O.drew) 19 rfl rfl (by rfl) ?hrun0 o ?pA (ka7 (f:=205) (args:=#[J6 h]) (R:=fun k E=>k=.agg (#[.int .u32 ((2 ^ h:Nat):Int)])/\Bw O E) 22 rfl rfl (by rfl) ?hrun1 ((qg9 h _ T).mono fun C t ⟨k,q,r,l⟩=>⟨k,q,r,q36 l⟩) ?pB AllReadyH.nil))
    case hrun0=>simp[execOp,go_sem,cW]
    case hrun1=>simp[execOp,go_sem]
    case pA =>
     simp only[sX,sY,sZ];refine kaL (i:=8) (f:=205) (args:=#[J6 h]) (R:=fun k E=>k=.agg (#[.int .u32 ((2 ^ h:Nat):Int)])/\Bw O E) 22 rfl rfl (by rfl) (by kernel_rfl) ?hrun1 ((qg9 h _ T).mono fun C t ⟨k,q,r,l⟩=>⟨k,q,r,q36 l⟩) ?_
     case hrun1=>simp[execOp,go_sem]
     rintro k t ⟨rfl,r⟩;have q:=L.mono r L.lt;have F:=I.mono r I.lt;have J:=M.mono r M.lt;have H:=K.trans (r.mono K.size);refine⟨⟨q.cell 0,q.cell 1⟩,?_⟩;simp only[sX,sY,sZ];refine kaL (i:=9) (f:=204) (args:=#[.agg #[.int .u32 (d b:Int)],.agg (#[.int .u32 ((2 ^ h:Nat):Int)])]) (R:=fun k E=>k=.agg (#[.int .u32 ((d b ||| 2 ^ h:Nat):Int)])/\Bw t E) 23 rfl rfl (by rfl) (by kernel_rfl) ?hrun2 (q9x (d b) (2 ^ h) t ah y2) ?_
     case hrun2=>simp[execOp,go_sem]
     rintro k u ⟨rfl,s⟩;have l:=q.mono s q.lt;have B:=F.mono s F.lt;have Z:=J.mono s J.lt;have U:=H.trans (s.mono H.size);have c7:u.cell? ⟨w.heap.size+1+1,b,none⟩=some (.int .u32 (d b:Int)):=(by rw[B.cell b,kaT d A]);have f7:=B.free b;refine⟨⟨l.cell 0,l.cell 1⟩,?_⟩;simp only[sX,sY,sZ];replace o:khm u G b h:=⟨l.cell 0,l.cell 1⟩;refine tj 10 24 (J9 (w.heap.size+1+1) b) o ?_ (hy:=fun w j=>by obtain⟨y,z⟩:=j;simp[execOp,go_sem, *]);simp only[sX,sY,sZ];obtain⟨vv,ae⟩:=Nq ((d b ||| 2 ^ h));rw[ae]at N⊢;refine ka0 (i:=11) (w':=u.setCell ⟨w.heap.size+1+1,b,none⟩ (.int .u32 (vv:Int))) rfl (by rfl) (by kernel_rfl) rfl ?hrun3 rfl ⟨(l.other _ Q).cell 0,(l.other _ Q).cell 1⟩ ?_
     case hrun3=>simp[execOp,go_sem,c7,f7]
     refine wdQ ?_;obtain⟨W,X,V⟩:=oC (B.set b (.int .u32 (vv:Int))) (Z.other (a:=⟨w.heap.size+1+1,b,none⟩) (.int .u32 (vv:Int)) (by simp)) (U.setCell (p:=⟨w.heap.size+1+1,b,none⟩) (by simp;omega) (.int .u32 (vv:Int)));generalize u.setCell ⟨w.heap.size+1+1,b,none⟩ (.int .u32 (vv:Int))=w8 at *;go_wp2;go_roundw
     case rel=>exact⟨e+1,_,by omega,by go_num,N,by rw[<- kea d _ A];exact W,X,V⟩
     case measure=>simp[intOf];omega
    case pB =>
     rintro k t ⟨rfl,r⟩;have q:=L.mono r L.lt;have F:=I.mono r I.lt;have J:=M.mono r M.lt;have H:=K.trans (r.mono K.size);have c6:t.cell? ⟨w.heap.size+1+1,b,none⟩=some (.int .u32 (d b:Int)):=(by rw[F.cell b,kaT d A]);refine⟨⟨q.cell 0,q.cell 1⟩,?_⟩;simp only[sX,sY,sZ];refine wpAnyH_ready (rs:=[5]) (by kernel_rfl) (by simp) (kaD (v:=.agg #[.int .u32 (d b:Int)]) (w':=t) 19 rfl rfl (by rfl) ?hrun0 ⟨q.cell 0,q.cell 1⟩ ?pC AllReadyH.nil)
     case hrun0=>simp[execOp,go_sem,c6]
     simp only[sX,sY,sZ];refine kaL (i:=9) (f:=204) (args:=#[.agg #[.int .u32 (d b:Int)],.agg (#[.int .u32 ((2 ^ h:Nat):Int)])]) (R:=fun k E=>k=.agg (#[.int .u32 ((d b ||| 2 ^ h:Nat):Int)])/\Bw t E) 23 rfl rfl (by rfl) (by kernel_rfl) ?hrun2 (q9x (d b) (2 ^ h) t ah y2) ?_
     case hrun2=>simp[execOp,go_sem]
     rintro k u ⟨rfl,s⟩;have l:=q.mono s q.lt;have B:=F.mono s F.lt;have Z:=J.mono s J.lt;have U:=H.trans (s.mono H.size);have c7:u.cell? ⟨w.heap.size+1+1,b,none⟩=some (.int .u32 (d b:Int)):=(by rw[B.cell b,kaT d A]);have f7:=B.free b;refine⟨⟨l.cell 0,l.cell 1⟩,?_⟩;simp only[sX,sY,sZ];replace o:khm u G b h:=⟨l.cell 0,l.cell 1⟩;refine tj 10 24 (J9 (w.heap.size+1+1) b) o ?_ (hy:=fun w j=>by obtain⟨y,z⟩:=j;simp[execOp,go_sem, *]);simp only[sX,sY,sZ];obtain⟨vv,ae⟩:=Nq ((d b ||| 2 ^ h));rw[ae]at N⊢;refine ka0 (i:=11) (w':=u.setCell ⟨w.heap.size+1+1,b,none⟩ (.int .u32 (vv:Int))) rfl (by rfl) (by kernel_rfl) rfl ?hrun3 rfl ⟨(l.other _ Q).cell 0,(l.other _ Q).cell 1⟩ ?_
     case hrun3=>simp[execOp,go_sem,c7,f7]
     refine wdQ ?_;obtain⟨W,X,V⟩:=oC (B.set b (.int .u32 (vv:Int))) (Z.other (a:=⟨w.heap.size+1+1,b,none⟩) (.int .u32 (vv:Int)) (by simp)) (U.setCell (p:=⟨w.heap.size+1+1,b,none⟩) (by simp;omega) (.int .u32 (vv:Int)));generalize u.setCell ⟨w.heap.size+1+1,b,none⟩ (.int .u32 (vv:Int))=w8 at *;go_wp2;go_roundw
     case rel=>exact⟨e+1,_,by omega,by go_num,N,by rw[<- kea d _ A];exact W,X,V⟩
     case measure=>simp[intOf];omega
  . obtain rfl:e=m:=by omega
    have j:=h_ hrel;go_wp2_with (first | (refine q14 rfl _ rfl (w.heap.size+1+1) d rfl HO ?_) | (refine q0r rfl _ _ rfl (w.heap.size+1) (fun _=>0) d rfl rfl HR ?_;intro l b h k;replace b:=h_ b;replace h:=h_ h));refine bodyPost_ret (results_cell_row rfl _ _ (w.heap.size+1) 237 (us d).toArray (0,0) _ rfl b.u underlying237 rfl (qs1 d)) rfl ⟨d,rfl,j,?_⟩;exact HB.trans ((bR w.heap.size _).grown h.u HB.size (fun e C=>by cases C;omega))
theorem q4j (N:Int)(a:To)(m c:Nat)(w:Tw)(g:m<=9223372036854775807)(h:¬ (1<=N/\N<=32/\m<=256)) :
 Gv 164 #[.agg (Jn N a m c)] w (.bool false):=by
 have e:N<1∨(1<=N/\32<N)∨(1<=N/\N<=32/\256<m):=by omega
 rcases e with b | ⟨b,d⟩ | ⟨b,d,f⟩
 all_goals
  go_enter func164,ntmps164;go_wp2;go_ret;exact⟨rfl,(bR _ _).alloc (nR _) _⟩
theorem ql0 (w:Tw)(t:TypeId)(x y:Int):(w.alloc (.cells (Jr x y) t)).cell? ⟨w.heap.size,0,none⟩=some (J6 x)/\(w.alloc (.cells (Jr x y) t)).cell? ⟨w.heap.size,1,none⟩=some (J6 y):=by
 have a:=Blk.new w t (Jr x y);exact⟨a.cell 0,a.cell 1⟩
theorem q4i (N:Int)(a:To)(m c:Nat)(f g:Nat->Int)(w:Tw)(O:1<=N)(P:N<=32)(U:m<=256)(D:kbB w a m f g)(n:Bool)(C:n=true ↔ ∀b,b<m->0<=f b/\f b<N/\0<=g b/\g b<N) :
 Gv 164 #[.agg (Jn N a m c)] w (.bool n):=by
 have q:=h_ C;go_enter func164,ntmps164;go_wp2;have E:Bw w (w.alloc (.cells (Jn N a m c) 162)):=(bR _ _).alloc (nR _) _;have i:=h_ E;have h:=Blk.new w 162 (Jn N a m c);have y:=D.mono i;generalize (w.alloc (.cells (Jn N a m c) 162))=z at *;go_loopw [22] (fun e wr=>∃b:Nat,b<=m/\e=J6 b/\(∀d,d<b->0<=f d/\f d<N/\0<=g d/\g d<N)/\Bw z wr) (fun e _=>m - (intOf e).toNat)
 case atStart=>exact⟨0,nZ _,rfl,fun d e=>absurd e (nL _),bR _ _⟩
 case round =>
  obtain⟨b,S,rfl,F,k⟩:=hrel;have o:=h_ F;have x:=y.mono k;have A:=(h.mono k h.lt).cell 0;simp only[Yf]at A;have V:w.heap.size<wr.heap.size:=Yn h.lt k.size;have j:=h_ k;by_cases t:b<m
  . obtain⟨M,W,rfl,T,Q,R⟩:=x b t
    have B:¬ (0<=f b/\f b<N/\0<=g b/\g b<N)->n=false:=fun l=>qne q fun e=>l (e b t);obtain⟨p,s,r⟩:=oC B (i.trans ((j.trans (((bR _ _).alloc (nR _) (.cells (Jr (f b) (g b)) 113)).mono j.size)).mono i.size)) (j.trans (((bR _ _).alloc (nR _) (.cells (Jr (f b) (g b)) 113)).mono j.size));obtain⟨X,Y⟩:=ql0 wr 113 (f b) (g b);have H:=((h.mono r h.lt).cell 0);simp only[Yf]at H;by_cases I:f b<0∨N<=f b
    . go_wp2_with fail
      refine(qb4 (f b) N _ I).mono ?_;rintro e l ⟨rfl,rfl⟩;go_wp2;go_ret;exact⟨qln (p (by omega)).symm,s⟩
    have u:0<=f b:=(by omega);have v:f b<N:=(by omega);by_cases J:g b<0∨N<=g b
    . go_wp2_with fail
      refine(q81 (f b) N _ u v).mono ?_;rintro e l ⟨rfl,rfl⟩;go_wp2_with fail;refine(qb4 (g b) N _ J).mono ?_;rintro e l ⟨rfl,rfl⟩;go_wp2;go_ret;exact⟨qln (p (by omega)).symm,s⟩
    have K:0<=g b:=(by omega);have L:g b<N:=(by omega);go_wp2_with fail;refine(q81 (f b) N _ u v).mono ?_;rintro e l ⟨rfl,rfl⟩;go_wp2_with fail;refine(q81 (g b) N _ K L).mono ?_;rintro e l ⟨rfl,rfl⟩;go_wp2;go_roundw
    case rel=>exact⟨b+1,by omega,by go_num,fun d G=>by
     by_cases e:d=b
     . subst e;omega
     . exact o d (by omega),r⟩
    case measure=>simp[intOf];omega
  . go_wp2
    go_ret;exact⟨qln (q.2 fun d G=>o d (by omega)).symm,i.trans (j.mono i.size)⟩
def kfK (g g':Nat->Nat):Bool:=(List.range 32).all fun i=>g i==g' i
theorem qgu:kfK g f=true ↔ ∀a,a<32->g a=f a:=by simp[kfK]
theorem qck {P:Program}{f:FuncId}{args:Ta}{t:Nat}(c:Calls P f args (w.drewN (t+n)) fun a d=>a=.returned v/\∃b,d=(w.drewN (t+n)).drewN b) :
 Calls P f args (w.drewN (t+n)) fun a d=>a=.returned v/\∃a,d=w.drewN (t+a):=c.mono fun _ _ ⟨a,b,d⟩=>⟨a,n+b,by rw[d];simp[Nat.add_assoc]⟩
def tl:List UInt8->List UInt8->Bool
 | _,[]=>false
 | [],_ :: _=>true
 | x :: xs,y :: ys=>if x≠y then decide (x.toNat<y.toNat) else tl xs ys
def kcr (s:Tb):Tb:=s.extract 1 s.size
theorem qhl (s:Tb):(kcr s).data.toList=s.data.toList.tail:=by
 have:s.size - 1=s.data.toList.tail.length:=by rw[List.length_tail];rfl
 simp only[kcr,ByteArray.data_extract,Array.toList_extract,List.extract_eq_take_drop,this];rw[show List.drop 1 s.data.toList=s.data.toList.tail from List.drop_one];exact Vt
theorem qhm (s:Tb):(kcr s).size=s.size - 1:=by
 simp[kcr]
theorem qg0 (s:Tb):s.data.toList.length=s.size:=rfl
theorem qf7 (b:0<s.size):s.data.toList=s[0] :: (kcr s).data.toList:=by
 rw[qhl];have a:=qg0 s
 match e:s.data.toList,a with
 | [],a=>simp at a;omega
 | c :: cs,_ =>
  have:s[0]=c:=by
   show s.data[0]=c;rw[<- Array.getElem_toList];simp[e]
  rw[this];rfl
theorem qlv (s:Tb)(b:1<=s.size)(w:Tw):(Instr.slice 9 (.string s) (some (J6 1)) none none).run prog w=.ok (.string (kcr s)) w:=by
 have a:(1:Int)<=s.size:=by omega
 simp[kcr,go_sem,a]
theorem q2m (n:Nat):∀(b a:Tb) (c:Tw),b.size=n->b.size<=9223372036854775807->a.size<=9223372036854775807 ->
 Calls prog 223 #[.string b,.string a] c fun f e=>f=.returned (.bool (tl b.data.toList a.data.toList))/\∃d,e=c.drewN d:=by
 induction n with
 | zero =>
  intro b a c i m o;have g:b.data.toList=[]:=Za.1 (by rw[qg0];exact i);by_cases e:a.size=0
  . have d:a.data.toList=[]:=Za.1 (by rw[qg0];exact e)
    rw[g,d];go_enter func223,ntmps223;go_wp2;go_ret;exact⟨rfl,0,rfl⟩
  . rw[g,qf7 (s:=a) (by omega)]
    go_enter func223,ntmps223;go_wp2;go_ret;exact⟨rfl,0,rfl⟩
 | succ n q =>
  intro b a c i m o;by_cases e:a.size=0
  . have d:a.data.toList=[]:=Za.1 (by rw[qg0];exact e)
    have g:tl b.data.toList a.data.toList=false:=(by rw[d];cases b.data.toList <;> rfl);rw[g];go_enter func223,ntmps223;go_wp2;go_ret;exact⟨rfl,0,rfl⟩
  . have j:0<b.size:=by omega
    have k:0<a.size:=(by omega);have v:¬ b.size=0:=(by omega);have d:Hi (tl b.data.toList a.data.toList=if b[0]≠a[0] then decide (b[0].toNat<a[0].toNat) else tl (kcr b).data.toList (kcr a).data.toList):=h_ (by rw[qf7 j,qf7 k];rfl);have h:=h_ (fun c=>q (kcr b) (kcr a) c (by rw[qhm];omega) (by rw[qhm];omega) (by rw[qhm];omega));have r:=qlv b j;have t:=qlv a k;by_cases g:b[0]=a[0]
    . rw[Yl (by simpa using g)]at d
      rw[d.u];go_enter func223,ntmps223;go_wp2
      go_quiet (fail)
      have l:(1:Int)<=b.size:=(by omega);have p:(1:Int)<=a.size:=(by omega);unfold kcr at h;go_wp2
      go_quiet (first | (go_at_call 223;refine qck (h _)))
      go_wp2;go_ret;exact⟨rfl,_,by first | rfl | (simp only[World.drewN_drewN];rfl)⟩
    . rw[Yr (by simpa using g)]at d
      rw[d.u];have w:¬ (b[0].toNat:Int)=a[0].toNat:=fun f=>g (UInt8.toNat_inj.1 (by omega));by_cases l:b[0].toNat<a[0].toNat
      . have p:(b[0].toNat:Int)<a[0].toNat:=by omega
        have f:decide (b[0].toNat<a[0].toNat)=true:=Ye l;rw[f];go_enter func223,ntmps223;go_wp2
        go_quiet (fail)
        go_wp2
        go_quiet (fail)
        go_wp2;go_ret;exact⟨rfl,_,by first | rfl | (simp only[World.drewN_drewN];rfl)⟩
      . have p:¬ (b[0].toNat:Int)<a[0].toNat:=by omega
        have f:decide (b[0].toNat<a[0].toNat)=false:=Yd l;rw[f];go_enter func223,ntmps223;go_wp2
        go_quiet (fail)
        go_wp2
        go_quiet (fail)
        go_wp2;go_ret;exact⟨rfl,_,by first | rfl | (simp only[World.drewN_drewN];rfl)⟩
def kaR (a b:Tb)(k:Nat):Bool:=(List.range (a.size+1)).any fun i=>decide (k<=i)&&(decide (i+b.size<=a.size)&&decide (a.extract i (i+b.size)=b))
theorem qp2 {a b:Tb}(c:¬ k+b.size<=a.size):kaR a b k=false:=by
 unfold kaR;rw[Vp];intro e d;simp only[Yh,Yk];omega
theorem qjm {a b:Tb}(d:k+b.size<=a.size)(c:a.extract k (k+b.size)=b):kaR a b k=true:=by
 unfold kaR;rw[Z8];exact⟨k,Yu.2 (by omega),by simp only[Yh,Yk];exact⟨nR _,d,c⟩⟩
theorem qjn {a b:Tb}(c:¬ a.extract k (k+b.size)=b):kaR a b k=kaR a b (k+1):=by
 unfold kaR
 congr 1
 funext i
 by_cases d:i=k
 . subst d
   rw[Yd c];simp
 . rw[show decide (k<=i)=decide (k+1<=i) from by rw[decide_eq_decide];omega]
theorem qfs (a b:Tb)(w:Tw)(m:a.size<=1000000)(n:b.size<=1000000) :
 Calls prog 224 #[.string a,.string b] w fun g c=>g=.returned (.bool (kaR a b 0))/\c=w:=by
 go_enter func224,ntmps224;go_wp2;go_loopw [5] (fun d wr=>∃c:Nat,c<=a.size+1/\d=J6 c/\kaR a b 0=kaR a b c/\wr=w) (fun d _=>a.size+1 - (intOf d).toNat)
 case atStart=>exact⟨0,by omega,rfl,rfl,rfl⟩
 case round =>
  obtain⟨c,p,rfl,d,rfl⟩:=hrel;have f:=h_ d;clear d;by_cases j:c+b.size<=a.size
  . have k:(c:Int)+b.size<=a.size:=by omega
    by_cases e:a.extract c (c+b.size)=b
    . have d:=h_ (qjm j e)
      have l:∀w,(Instr.slice 9 (.string a) (some (J6 (c:Int))) (some (J6 ((c:Int)+b.size))) none).run prog w=.ok (.string b) w:=fun w=>by
       rw[run_slice_string w 9 a .i64 .i64 _ _ underlying9 (by omega) (by omega) (by omega),show((c:Int)).toNat=c by omega,show((c:Int)+b.size).toNat=c+b.size by omega,e]
      go_wp2;go_ret;exact⟨by rw[f.u,d.u];rfl,rfl⟩
    . have d:=h_ (qjn e)
      obtain⟨h,i⟩:=Nq (a.extract c (c+b.size));have l:∀w,(Instr.slice 9 (.string a) (some (J6 (c:Int))) (some (J6 ((c:Int)+b.size))) none).run prog w=.ok (.string h) w:=fun w=>by
       rw[run_slice_string w 9 a .i64 .i64 _ _ underlying9 (by omega) (by omega) (by omega),show((c:Int)).toNat=c by omega,show((c:Int)+b.size).toNat=c+b.size by omega,i]
      rw[i]at e;have o:(h.toList==b.toList)=false:=by
       rw[Yc,Y7,Y7];exact fun g=>e (ByteArray.ext (Array.toList_inj.1 g))
      go_wp2;go_roundw
      case rel=>exact⟨c+1,by omega,by go_num,by rw[f.u,d.u],trivial⟩
      case measure=>simp[intOf];omega
  . have k:¬ (c:Int)+b.size<=a.size:=by omega
    have d:=h_ (qp2 j);go_wp2;go_ret;exact⟨by rw[f.u,d.u];rfl,rfl⟩
