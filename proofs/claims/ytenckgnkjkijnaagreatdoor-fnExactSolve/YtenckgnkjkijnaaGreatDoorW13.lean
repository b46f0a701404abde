import Derived.Test.YtenckgnkjkijnaaGreatDoorW10
import Derived.Test.YtenckgnkjkijnaaGreatDoorW07
import Derived.Test.YtenckgnkjkijnaaGreatDoorW06
set_option maxRecDepth 100000
set_option maxHeartbeats 64000000
namespace Go.Proofs.YtenckgnkjkijnaaGreatDoor
open Go Go.RowKit Go.Proofs.Tryz
def rd (l:List UInt8):Int × Bool:=match kbk l with
 | some n=>(n,true)
 | none=>(0,false)
theorem q6i (s:Tb)(w:Tw)(V:0<s.size)(W:s.size<=20)(j:s[0].toNat=45)(x:Int)(p:Bool)(g:rd s.data.toList=(x,p))
 (a:∀c,I64 c->Lib.itoa c=s.data.toList->kck (s.data.toList.drop 1)/\kbC true (s.data.toList.drop 1)=c) :
 Gv 222 #[.string s] w (.tuple #[J6 x,.bool p]):=by
 obtain⟨G,I⟩:=oB a g;clear a g;have h:Hi (Bw w (w.alloc (.cells #[] 3))):=(bR _ _).alloc (nR _) _;have a:(∀c,I64 c->Lib.itoa c≠s.data.toList)->x=0/\p=false:=fun b=>by
  have f:=I.u;rw[rd,q6h b]at f;simp only[Vu]at f;exact⟨f.1.symm,f.2.symm⟩
 have y:=h_ a;clear a;have a:s.data.toList.length=s.size:=by rw[Gh];rfl
 have H:=h_ a;clear a;have S:((s.size:Int)==0)=false:=by rw[kdx];simp only[Zr];omega
 have T:decide ((20:Int)<s.size)=false:=by simp only[Zr];omega
 have U:((s[0].toNat:Int)==45)=true:=by simp;omega
 clear j;obtain⟨r,b⟩:∃r,r=1:=⟨_,rfl⟩;have v:=h_ b;clear b;go_enter func222,ntmps222;go_wp2_with fail;go_loopw [6,7] (fun i e wr=>∃(a:Nat) (d:List Nat),r<=a/\a<=s.size/\e=J6 ((a:Int) - 1)/\d=low (s.data.toList.drop a)/\kck (s.data.toList.drop a)/\wr.ownsRow w.heap.size 3 1 i d.length (ui d)/\Bw w wr) (fun _ e _=>(intOf e+1).toNat)
 case atStart =>
  have e:s.data.toList.drop s.size=[]:=by rw[<- H.u];simp
  exact⟨s.size,[],by have:=v.u;omega,nR _,rfl,by rw[e];rfl,(by rw[e];intro K j;cases j),qgj w 3,h⟩
 case round =>
  clear h;obtain⟨a,d,N,X,rfl,e,k,l,h⟩:=hrel;obtain⟨q,i,z,t⟩:=oD l h e k;clear l h k;have Y:d.length<=20:=by rw[e];simp[low];omega
  clear e;have b:=v.u;replace N:1<=a:=by omega
  clear b;by_cases O:a=1
  . subst O
    have kcu:=t.u;have b:=z.u;have h:kaJ wr u6 d:=q50 q;have o:Dig d:=(by rw[b];exact qpz kcu);clear q z t kcu;go_wp2_with fail;refine(qbg u6 d wr h o (by omega)).mono ?_;rintro e m ⟨Z,rfl,g,rfl⟩;have k:kbC true (s.data.toList.drop 1) = -(kad d:Int):=(by rw[kbC,b];rfl);have B:=h_ k;clear k b h;obtain⟨b,L⟩:∃b:Int,b = -(kad d:Int):=⟨_,rfl⟩;have k:b.natAbs=kad d:=(by omega);rw[<- k]at g;have F:(kab b.natAbs).length<=500:=(by rw[k];exact Y5 (q26 (qo8 o)) (by omega));have l:(∀c,I64 c->Lib.itoa c=s.data.toList->c=b):=fun c h e=>by
     have f:=(G c h e).2;rw[B.u]at f;omega
    have J:=h_ l;clear l;have D:decide (0<(kab b.natAbs).length)=decide (b<0):=by
     rw[decide_eq_decide];have l:(kab b.natAbs).length=0 ↔ b.natAbs=0:=(by rw[Za,qix]);omega
    obtain⟨C,A,rfl,-⟩:=id g;have l:kbr m (.agg (Jt (decide (b<0)) C (kab b.natAbs).length A)) b:=⟨_,rfl,g⟩;obtain⟨E,n⟩:=Nq ((kab b.natAbs).length);rw[n]at l D⊢;have M:=h_ (And.intro F n);clear F n g k L B o;obtain⟨F,n⟩:=Nq (decide (b<0));rw[n]at l;have Q:=h_ n;have B:Bw m (m.alloc (.cells (Jt F C E A) 264)):=(bR _ _).alloc (nR _) _;obtain⟨o,k⟩:=oB (Blk.new m 264 (Jt F C E A)) (l.mono B);have g:=mT i B;clear l B;have R:Hi True:=trivial;have L:decide (0<E)=F:=D.trans n;clear D n;go_wp2_with fail;refine cQ (qbe _ b _ k M.1) fun w3 l=>?_;replace o:=mB o l;replace k:=h_ (k.mono l);replace g:=mT g l;clear l;by_cases l:-9223372036854775808<=b/\b<=9223372036854775807
    . have n:=h_ l
      rw[show kby b=true from Ye l];clear l;obtain⟨⟨D,P⟩,-⟩:=two o;go_wp2_with fail;refine cQ (q86 _ b _ k n.1 n.2) fun w4 B=>?_;replace g:=mT g B;clear B D P o k;go_wp2_with fail;refine cQ (q3m b _ n.1 n.2) fun w5 k=>?_;replace g:=mT g k;clear k;by_cases k:Lib.itoa b=s.data.toList
      . have D:x=b/\p=true:=by
         have f:=I.u;rw[<- k,rd,q6g n.u]at f;simp only[Vu]at f;exact⟨f.1.symm,f.2.symm⟩
        obtain⟨rfl,rfl⟩:=D;have B:((⟨(Lib.itoa x).toArray⟩:Tb).toList==s.toList)=true:=(by rw[Y7,Y7,<- k];simp);obtain⟨f,o⟩:∃f:Tb,f=⟨(Lib.itoa x).toArray⟩:=⟨_,rfl⟩;rw[<- o]at B⊢;clear o k;go_wp2;exact bQ ⟨rfl,g⟩
      . obtain⟨rfl,rfl⟩:=y fun c h e=>k (by rw[<- J.u c h e];exact e)
        have B:((⟨(Lib.itoa b).toArray⟩:Tb).toList==s.toList)=false:=(by rw[Y7,Y7,Yc];simpa using k);obtain⟨f,o⟩:∃f:Tb,f=⟨(Lib.itoa b).toArray⟩:=⟨_,rfl⟩;rw[<- o]at B⊢;clear o k;go_wp2;exact bQ ⟨rfl,g⟩
    . rw[show kby b=false from Yd l]
      obtain⟨rfl,rfl⟩:=y fun c h e=>l (by rw[<- J.u c h e];exact h);clear l;go_wp2;exact bQ ⟨rfl,g⟩
  . obtain⟨a,rfl⟩:∃b,a=b+1:=⟨a - 1,by omega⟩
    rw[show((a+1:Nat):Int) - 1=(a:Int) by omega];have J:a<s.size:=(by omega);have F:1<=a:=(by omega);have f:s.data.toList.drop a=s[a] :: s.data.toList.drop (a+1):=by
     rw[Vn (by have:=H.u;omega)];rfl
    have b:=h_ f;clear f;have g:¬ (48<=s[a].toNat/\s[a].toNat<=57)->x=0/\p=false:=fun f=>y fun c h e=>f (by
     refine(G c h e).1 s[a] ?_;have L:s.data.toList.drop a=(s.data.toList.drop 1).drop (a - 1):=(by rw[List.drop_drop];congr 1;omega);have:s[a]∈s.data.toList.drop a:=(by rw[b.u];exact Y8 ..);rw[L]at this;exact O5 this)
    have f:=h_ g;clear g;by_cases D:s[a].toNat<48
    . obtain⟨rfl,rfl⟩:=f (by omega)
      go_wp2;exact bQ ⟨rfl,i⟩
    by_cases E:57<s[a].toNat
    . obtain⟨rfl,rfl⟩:=f (by omega)
      go_wp2;exact bQ ⟨rfl,i⟩
    obtain⟨B,k,l,n,o⟩:=info_parts kbf;go_wp2_with (at_builtin;refine wpList_append_own _ rfl _ _ 89 rfl w.heap.size 3 B _ 1 8 underlying89 k l n o rfl (by omega) u6 _ _ rfl (q.alloc _) ⟨wr.heap.size,0,none⟩ 1 1 [J6 ((s[a].toNat:Int) - 48)] rfl rfl (qim wr 3 _) (by simp[Value.oneCell']) (by unfold maxLen;omega) (by omega) (by have:=i.size;simp;omega) ?_);intro C m c h _;have g:=(i.alloc (by have:=i.size;omega) (.cells #[J6 ((s[a].toNat:Int) - 48)] 3)).grown h (by have:=i.size;simp;omega) (fun A e=>qc8 q e);have A:Hi (m.ownsRow w.heap.size 3 1 C (d.length+1) (ui (d++[dgt s[a]]))):=by
     rw[Hi];rw[show(s[a].toNat:Int) - 48=((dgt s[a]:Nat):Int) by unfold dgt;omega]at c;simpa [ui] using c
    have e:=h_ g;clear c h g k l n o;go_wp2_with fail;go_roundw
    case rel =>
     refine⟨a,d++[dgt s[a]],by have:=v.u;omega,by omega,rfl,?_,?_,?_,e⟩
     . rw[b.u,low,Oi,Zl,z.u];rfl
     . rw[b.u];intro K j
       rcases Z7.1 j with rfl | j
       . omega
       . exact t K j
     . have:=A.u;simpa using this
    case measure=>simp[intOf]
theorem q49 (s:Tb)(w:Tw)(U:0<s.size)(V:s.size<=20)(j:s[0].toNat≠45)(x:Int)(p:Bool)(g:rd s.data.toList=(x,p))
 (a:∀c,I64 c->Lib.itoa c=s.data.toList->kck (s.data.toList.drop 0)/\kbC false (s.data.toList.drop 0)=c) :
 Gv 222 #[.string s] w (.tuple #[J6 x,.bool p]):=by
 obtain⟨E,G⟩:=oB a g;clear a g;have h:Hi (Bw w (w.alloc (.cells #[] 3))):=(bR _ _).alloc (nR _) _;have a:(∀c,I64 c->Lib.itoa c≠s.data.toList)->x=0/\p=false:=fun b=>by
  have f:=G.u;rw[rd,q6h b]at f;simp only[Vu]at f;exact⟨f.1.symm,f.2.symm⟩
 have y:=h_ a;clear a;have a:s.data.toList.length=s.size:=by rw[Gh];rfl
 have F:=h_ a;clear a;have R:((s.size:Int)==0)=false:=by rw[kdx];simp only[Zr];omega
 have S:decide ((20:Int)<s.size)=false:=by simp only[Zr];omega
 have T:((s[0].toNat:Int)==45)=false:=by rw[Yc];omega
 clear j;obtain⟨r,b⟩:∃r,r=0:=⟨_,rfl⟩;have v:=h_ b;clear b;go_enter func222,ntmps222;go_wp2_with fail;go_loopw [6,7] (fun i e wr=>∃(a:Nat) (d:List Nat),r<=a/\a<=s.size/\e=J6 ((a:Int) - 1)/\d=low (s.data.toList.drop a)/\kck (s.data.toList.drop a)/\wr.ownsRow w.heap.size 3 1 i d.length (ui d)/\Bw w wr) (fun _ e _=>(intOf e+1).toNat)
 case atStart =>
  have e:s.data.toList.drop s.size=[]:=by rw[<- F.u];simp
  exact⟨s.size,[],by have:=v.u;omega,nR _,rfl,by rw[e];rfl,(by rw[e];intro I j;cases j),qgj w 3,h⟩
 case round =>
  clear h;obtain⟨a,d,M,W,rfl,e,k,l,h⟩:=hrel;obtain⟨q,i,z,t⟩:=oD l h e k;clear l h k;have X:d.length<=20:=by rw[e];simp[low];omega
  clear e;have b:=v.u;replace M:0<=a:=by omega
  clear b;by_cases N:a=0
  . subst N
    have kcu:=t.u;have b:=z.u;have h:kaJ wr u6 d:=q50 q;have o:Dig d:=(by rw[b];exact qpz kcu);clear q z t kcu;go_wp2_with fail;refine(qbg u6 d wr h o (by omega)).mono ?_;rintro e m ⟨Y,rfl,g,rfl⟩;have k:kbC false (s.data.toList.drop 0)=(kad d:Int):=(by rw[kbC,b];rfl);have B:=h_ k;clear k b h;obtain⟨b,O⟩:∃b:Int,b=(kad d:Int):=⟨_,rfl⟩;have k:b.natAbs=kad d:=(by omega);rw[<- k]at g;have D:(kab b.natAbs).length<=500:=(by rw[k];exact Y5 (q26 (qo8 o)) (by omega));have l:(∀c,I64 c->Lib.itoa c=s.data.toList->c=b):=fun c h e=>by
     have f:=(E c h e).2;rw[B.u]at f;omega
    have H:=h_ l;clear l;have J:decide (b<0)=false:=(by rw[Zr];omega);obtain⟨C,A,rfl,-⟩:=id g;have l:kbr m (.agg (Jt (decide (b<0)) C (kab b.natAbs).length A)) b:=⟨_,rfl,g⟩;obtain⟨K,n⟩:=Nq ((kab b.natAbs).length);rw[n]at l⊢;have L:=h_ (And.intro D n);clear D n g k O B o;obtain⟨D,n⟩:=Nq (decide (b<0));rw[n]at l;have P:=h_ n;have B:Bw m (m.alloc (.cells (Jt D C K A) 264)):=(bR _ _).alloc (nR _) _;obtain⟨o,k⟩:=oB (Blk.new m 264 (Jt D C K A)) (l.mono B);have g:=mT i B;clear l B;have Q:Hi True:=trivial;obtain rfl:D=false:=n.symm.trans J;clear J n;go_wp2_with fail;refine cQ (qbe _ b _ k L.1) fun Z l=>?_;replace o:=mB o l;replace k:=h_ (k.mono l);replace g:=mT g l;clear l;by_cases l:-9223372036854775808<=b/\b<=9223372036854775807
    . have n:=h_ l
      rw[show kby b=true from Ye l];clear l;obtain⟨⟨J,O⟩,-⟩:=two o;go_wp2_with fail;refine cQ (q86 _ b _ k n.1 n.2) fun w4 B=>?_;replace g:=mT g B;clear B J O o k;go_wp2_with fail;refine cQ (q3m b _ n.1 n.2) fun w5 k=>?_;replace g:=mT g k;clear k;by_cases k:Lib.itoa b=s.data.toList
      . have J:x=b/\p=true:=by
         have f:=G.u;rw[<- k,rd,q6g n.u]at f;simp only[Vu]at f;exact⟨f.1.symm,f.2.symm⟩
        obtain⟨rfl,rfl⟩:=J;have B:((⟨(Lib.itoa x).toArray⟩:Tb).toList==s.toList)=true:=(by rw[Y7,Y7,<- k];simp);obtain⟨f,o⟩:∃f:Tb,f=⟨(Lib.itoa x).toArray⟩:=⟨_,rfl⟩;rw[<- o]at B⊢;clear o k;go_wp2;exact bQ ⟨rfl,g⟩
      . obtain⟨rfl,rfl⟩:=y fun c h e=>k (by rw[<- H.u c h e];exact e)
        have B:((⟨(Lib.itoa b).toArray⟩:Tb).toList==s.toList)=false:=(by rw[Y7,Y7,Yc];simpa using k);obtain⟨f,o⟩:∃f:Tb,f=⟨(Lib.itoa b).toArray⟩:=⟨_,rfl⟩;rw[<- o]at B⊢;clear o k;go_wp2;exact bQ ⟨rfl,g⟩
    . rw[show kby b=false from Yd l]
      obtain⟨rfl,rfl⟩:=y fun c h e=>l (by rw[<- H.u c h e];exact h);clear l;go_wp2;exact bQ ⟨rfl,g⟩
  . obtain⟨a,rfl⟩:∃b,a=b+1:=⟨a - 1,by omega⟩
    rw[show((a+1:Nat):Int) - 1=(a:Int) by omega];have K:a<s.size:=(by omega);have J:0<=a:=(by omega);have f:s.data.toList.drop a=s[a] :: s.data.toList.drop (a+1):=by
     rw[Vn (by have:=F.u;omega)];rfl
    have b:=h_ f;clear f;have g:¬ (48<=s[a].toNat/\s[a].toNat<=57)->x=0/\p=false:=fun f=>y fun c h e=>f (by
     refine(E c h e).1 s[a] ?_;have c:s.data.toList.drop a=(s.data.toList.drop 0).drop (a - 0):=(by rw[List.drop_drop];congr 1;omega);have:s[a]∈s.data.toList.drop a:=(by rw[b.u];exact Y8 ..);rw[c]at this;exact O5 this)
    have f:=h_ g;clear g;by_cases D:s[a].toNat<48
    . obtain⟨rfl,rfl⟩:=f (by omega)
      go_wp2;exact bQ ⟨rfl,i⟩
    by_cases H:57<s[a].toNat
    . obtain⟨rfl,rfl⟩:=f (by omega)
      go_wp2;exact bQ ⟨rfl,i⟩
    obtain⟨B,k,l,n,o⟩:=info_parts kbf;go_wp2_with (at_builtin;refine wpList_append_own _ rfl _ _ 89 rfl w.heap.size 3 B _ 1 8 underlying89 k l n o rfl (by omega) u6 _ _ rfl (q.alloc _) ⟨wr.heap.size,0,none⟩ 1 1 [J6 ((s[a].toNat:Int) - 48)] rfl rfl (qim wr 3 _) (by simp[Value.oneCell']) (by unfold maxLen;omega) (by omega) (by have:=i.size;simp;omega) ?_);intro C m c h _;have g:=(i.alloc (by have:=i.size;omega) (.cells #[J6 ((s[a].toNat:Int) - 48)] 3)).grown h (by have:=i.size;simp;omega) (fun A e=>qc8 q e);have A:Hi (m.ownsRow w.heap.size 3 1 C (d.length+1) (ui (d++[dgt s[a]]))):=by
     rw[Hi];rw[show(s[a].toNat:Int) - 48=((dgt s[a]:Nat):Int) by unfold dgt;omega]at c;simpa [ui] using c
    have e:=h_ g;clear c h g k l n o;go_wp2_with fail;go_roundw
    case rel =>
     refine⟨a,d++[dgt s[a]],by have:=v.u;omega,by omega,rfl,?_,?_,?_,e⟩
     . rw[b.u,low,Oi,Zl,z.u];rfl
     . rw[b.u];intro I j
       rcases Z7.1 j with rfl | j
       . omega
       . exact t I j
     . have:=A.u;simpa using this
    case measure=>simp[intOf]
theorem qlk {s:Tb}(d:s.size=0∨20<s.size):rd s.data.toList=(0,false):=by
 rw[rd,q6h fun c b a=>?_];have:=qjv c b;rw[a,Gh]at this;have a:s.data.size=s.size:=rfl;omega
theorem q3q (s:Tb)(w:Tw)(o:s.size<=9223372036854775807)(x:Int)(e:Bool)(a:rd s.data.toList=(x,e)) :
 Gv 222 #[.string s] w (.tuple #[J6 x,.bool e]):=by
 by_cases f:s.size=0
 . rw[qlk (.inl f)]at a
   simp only[Vu]at a;obtain⟨rfl,rfl⟩:=a;have b:((s.size:Int)==0)=true:=by rw[kdx];simpa using f
   go_enter func222,ntmps222;go_wp2;exact bQ ⟨rfl,bR _ _⟩
 by_cases j:20<s.size
 . rw[qlk (.inr j)]at a
   simp only[Vu]at a;obtain⟨rfl,rfl⟩:=a;have b:((s.size:Int)==0)=false:=by rw[kdx];simpa using f
   have c:decide ((20:Int)<s.size)=true:=by simp only[Yk];omega
   go_enter func222,ntmps222;go_wp2;exact bQ ⟨rfl,bR _ _⟩
 . have g:0<s.size:=by omega
   have d:∃h,s.data.toList=s[0] :: h:=⟨s.data.toList.drop 1,Vn (l:=s.data.toList) (i:=0) (by rw[Gh];exact g)⟩;obtain⟨h,d⟩:=d;by_cases c:s[0].toNat=45
   . refine q6i s w g (by omega) c x e a fun n m b=>?_
     rw[d]at b⊢;have k:s[0]=45:=UInt8.toNat_inj.1 c;rw[k]at b;exact qei b
   . refine q49 s w g (by omega) c x e a fun n m b=>?_
     rw[d]at b⊢;exact qej c b
theorem qfr (n:Int)(w:Tw):Gv 112 #[J6 n] w (.agg #[J6 4,J6 n,J8]):=by
 go_enter func112,ntmps112;go_wp2;exact bQ ⟨rfl,(Below.refl _ _).alloc (nR _) _⟩
theorem qke (x y:Int):x*y<0 ↔ ¬(x<0 ↔ y<0)/\¬ x*y=0:=by
 rcases Int.lt_trichotomy x 0 with a | a | a <;> rcases Int.lt_trichotomy y 0 with b | b | b
 . have:=Int.mul_pos_of_neg_of_neg a b;omega
 . subst b;simp
 . have:=Int.mul_neg_of_neg_of_pos a b;omega
 . subst a;simp
 . subst a;simp
 . subst a;simp
 . have:=Int.mul_neg_of_pos_of_neg a b;omega
 . subst b;simp
 . have:=Int.mul_pos a b;omega
theorem qhp (x y:Int):x.tdiv y<0 ↔ ¬(x<0 ↔ y<0)/\¬ x.tdiv y=0:=by
 obtain⟨b,f⟩:=x.eq_nat_or_neg;obtain⟨c,g⟩:=y.eq_nat_or_neg;obtain⟨e,d⟩:=Nq (b / c);have h:b=0->e=0:=fun a=>by rw[<- d,a];simp
 have i:c=0->e=0:=fun a=>by rw[<- d,a];simp
 have a:(b:Int).tdiv c=e:=by rw[<- d];rfl
 rcases f with rfl | rfl <;> rcases g with rfl | rfl
 . rw[a];omega
 . rw[Int.tdiv_neg,a];omega
 . rw[Int.neg_tdiv,a];omega
 . rw[Int.neg_tdiv,Int.tdiv_neg,a];omega
theorem q5n (v u:Value)(x y:Int)(w:Tw)(hv:kbr w v x)(hu:kbr w u y)(V:(kab x.natAbs).length<=200)(W:(kab y.natAbs).length<=200) :
 Calls prog 217 #[v,u] w fun J a=>∃B,J=.returned B/\kbr a B (x*y)/\Bw w a:=by
 obtain⟨v1,rfl,P⟩:=hv;obtain⟨u1,rfl,O⟩:=hu;obtain⟨H,G⟩:=oB P O;obtain⟨d,f,rfl,-⟩:=P;obtain⟨e,g,rfl,-⟩:=O;have R:Hi ((x*y).natAbs=x.natAbs*y.natAbs):=h_ (Int.natAbs_mul x y);have o:Hi (decide (x*y<0)=(decide (x<0) != decide (y<0)&&decide (0<(kab (x*y).natAbs).length))):=h_ (by
  rw[Zh];simp only[Yk,Yh,bne_iff_ne,ne_eq,decide_eq_decide];rw[Nat.pos_iff_ne_zero,ne_eq,Za,qix,Int.natAbs_eq_zero];exact qke x y)
 obtain⟨b,Z⟩:=Nq (decide (x<0));obtain⟨c,aa⟩:=Nq (decide (y<0));rw[Z]at o⊢;rw[aa]at o⊢;obtain⟨h,M⟩:=Nq ((kab x.natAbs).length);obtain⟨i,N⟩:=Nq ((kab y.natAbs).length);rw[M]at H V⊢;rw[N]at G W⊢;obtain⟨S,T⟩:=oB M N;obtain⟨j,r⟩:=Nq (((w.alloc (.cells (Jt b d h f) 264)).alloc (.cells (Jt c e i g) 264)).alloc (.cells Jk 264));have hw:Bw w j:=by rw[<- r];exact(((Below.refl _ w).alloc (nR _) _).alloc (by simp) _).alloc (by simp;omega) _
 have p:Blk j w.heap.size 264 [.bool b,.slice d h f]:=by rw[<- r];exact((Blk.new w 264 (Jt b d h f)).alloc _).alloc _
 have q:Blk j (w.heap.size+1) 264 [.bool c,.slice e i g]:=by rw[<- r];exact(by simpa using Blk.new (w.alloc (.cells (Jt b d h f) 264)) 264 (Jt c e i g):Blk ((w.alloc (.cells (Jt b d h f) 264)).alloc (.cells (Jt c e i g) 264)) (w.heap.size+1) 264 [.bool c,.slice e i g]).alloc _
 have bR:Blk j (w.heap.size+2) 264 [.bool false,J7]:=by rw[<- r];simpa using Blk.new ((w.alloc (.cells (Jt b d h f) 264)).alloc (.cells (Jt c e i g) 264)) 264 Jk
 obtain⟨C,D,E,t⟩:=oD p q bR hw;obtain⟨⟨p0,p1⟩,-⟩:=two p;obtain⟨⟨q0,q1⟩,-⟩:=two q;go_enter func217,ntmps217;go_wp2_with fail;refine(q5t _ _ _ _ j (H.mono t) (G.mono t) (qiv _) (qiv _) (by have:=S.u;omega) (by have:=T.u;omega)).mono ?_;rintro J Q ⟨B,rfl,z,s⟩;rw[qeo,qeo,<- R.u]at z;have F:=h_ z;obtain⟨l,k,rfl,-⟩:=z;have p:=C.mono s C.lt;have q:=D.mono s D.lt;have bR:=E.mono s E.lt;have U:=mT t s;obtain⟨a,K⟩:=Nq ((kab (x*y).natAbs).length);rw[K]at o F⊢;have ac:=h_ K;obtain⟨⟨p0,p1⟩,-⟩:=two p;obtain⟨⟨q0,q1⟩,-⟩:=two q;obtain⟨⟨r0,r1⟩,⟨f0,f1⟩⟩:=two bR;have I:=h_ bR;have X:∀m,decide (x*y<0)=m->kbr ((Q.setCell ⟨w.heap.size+2,0,none⟩ (.bool m)).setCell ⟨w.heap.size+2,1,none⟩ (.slice l a k)) (.agg #[.bool m,.slice l a k]) (x*y)/\Bw w ((Q.setCell ⟨w.heap.size+2,0,none⟩ (.bool m)).setCell ⟨w.heap.size+2,1,none⟩ (.slice l a k)):=fun m m =>
  ⟨⟨_,by rw[m],(F.set I (fun n m=>by cases m) 0 _).set (I.set 0 _) (fun n m=>by cases m) 1 _⟩,(U.setCell (by simp) _).setCell (by simp) _⟩
 have m:=h_ X;have A:=o.u;cases b <;> cases c <;> cases L:decide (0<a) <;> rw[L]at A <;> simp only[bne_self_eq_false,Oa,Bool.and_true,show(false != true)=true from rfl,show(true != false)=true from rfl]at A
 all_goals (
  have n:=h_ A;have Y:decide ((0:Int)<a)=decide (0<a):=by simp
  rw[L]at Y;go_wp2
  first
   | exact bQ (v:=.agg #[.bool false,.slice l a k]) ⟨_,rfl,(m false n).1,(m false n).2⟩
   | exact bQ (v:=.agg #[.bool true,.slice l a k]) ⟨_,rfl,(m true n).1,(m true n).2⟩)
theorem q5p (v u:Value)(x y:Int)(w:Tw)(hv:kbr w v x)(hu:kbr w u y)(V:(kab x.natAbs).length<=200)(W:(kab y.natAbs).length<=200)(h0:y≠0) :
 Calls prog 219 #[v,u] w fun J a=>∃B,J=.returned B/\kbr a B (x.tdiv y)/\Bw w a:=by
 obtain⟨v1,rfl,P⟩:=hv;obtain⟨u1,rfl,O⟩:=hu;obtain⟨H,G⟩:=oB P O;obtain⟨d,f,rfl,-⟩:=P;obtain⟨e,g,rfl,-⟩:=O;have R:Hi ((x.tdiv y).natAbs=x.natAbs / y.natAbs):=h_ (Int.natAbs_tdiv x y);have o:Hi (decide (x.tdiv y<0)=(decide (x<0) != decide (y<0)&&decide (0<(kab (x.tdiv y).natAbs).length))):=h_ (by
  rw[Zh];simp only[Yk,Yh,bne_iff_ne,ne_eq,decide_eq_decide];rw[Nat.pos_iff_ne_zero,ne_eq,Za,qix,Int.natAbs_eq_zero];exact qhp x y)
 obtain⟨b,Z⟩:=Nq (decide (x<0));obtain⟨c,aa⟩:=Nq (decide (y<0));rw[Z]at o⊢;rw[aa]at o⊢;obtain⟨h,M⟩:=Nq ((kab x.natAbs).length);obtain⟨i,N⟩:=Nq ((kab y.natAbs).length);rw[M]at H V⊢;rw[N]at G W⊢;obtain⟨S,T⟩:=oB M N;obtain⟨j,r⟩:=Nq (((w.alloc (.cells (Jt b d h f) 264)).alloc (.cells (Jt c e i g) 264)).alloc (.cells Jk 264));have hw:Bw w j:=by rw[<- r];exact(((Below.refl _ w).alloc (nR _) _).alloc (by simp) _).alloc (by simp;omega) _
 have p:Blk j w.heap.size 264 [.bool b,.slice d h f]:=by rw[<- r];exact((Blk.new w 264 (Jt b d h f)).alloc _).alloc _
 have q:Blk j (w.heap.size+1) 264 [.bool c,.slice e i g]:=by rw[<- r];exact(by simpa using Blk.new (w.alloc (.cells (Jt b d h f) 264)) 264 (Jt c e i g):Blk ((w.alloc (.cells (Jt b d h f) 264)).alloc (.cells (Jt c e i g) 264)) (w.heap.size+1) 264 [.bool c,.slice e i g]).alloc _
 have bR:Blk j (w.heap.size+2) 264 [.bool false,J7]:=by rw[<- r];simpa using Blk.new ((w.alloc (.cells (Jt b d h f) 264)).alloc (.cells (Jt c e i g) 264)) 264 Jk
 obtain⟨C,D,E,t⟩:=oD p q bR hw;obtain⟨⟨p0,p1⟩,-⟩:=two p;obtain⟨⟨q0,q1⟩,-⟩:=two q;go_enter func219,ntmps219;go_wp2_with fail;refine(q5s _ _ _ _ j (H.mono t) (G.mono t) (qiv _) (qiv _) (by have:=S.u;omega) (by have:=T.u;omega) (by rw[qeo];omega)).mono ?_;rintro J Q ⟨B,rfl,z,s⟩;rw[qeo,qeo,<- R.u]at z;have F:=h_ z;obtain⟨l,k,rfl,-⟩:=z;have p:=C.mono s C.lt;have q:=D.mono s D.lt;have bR:=E.mono s E.lt;have U:=mT t s;obtain⟨a,K⟩:=Nq ((kab (x.tdiv y).natAbs).length);rw[K]at o F⊢;have ac:=h_ K;obtain⟨⟨p0,p1⟩,-⟩:=two p;obtain⟨⟨q0,q1⟩,-⟩:=two q;obtain⟨⟨r0,r1⟩,⟨f0,f1⟩⟩:=two bR;have I:=h_ bR;have X:∀m,decide (x.tdiv y<0)=m->kbr ((Q.setCell ⟨w.heap.size+2,0,none⟩ (.bool m)).setCell ⟨w.heap.size+2,1,none⟩ (.slice l a k)) (.agg #[.bool m,.slice l a k]) (x.tdiv y)/\Bw w ((Q.setCell ⟨w.heap.size+2,0,none⟩ (.bool m)).setCell ⟨w.heap.size+2,1,none⟩ (.slice l a k)):=fun m m =>
  ⟨⟨_,by rw[m],(F.set I (fun n m=>by cases m) 0 _).set (I.set 0 _) (fun n m=>by cases m) 1 _⟩,(U.setCell (by simp) _).setCell (by simp) _⟩
 have m:=h_ X;have A:=o.u;cases b <;> cases c <;> cases L:decide (0<a) <;> rw[L]at A <;> simp only[bne_self_eq_false,Oa,Bool.and_true,show(false != true)=true from rfl,show(true != false)=true from rfl]at A
 all_goals (
  have n:=h_ A;have Y:decide ((0:Int)<a)=decide (0<a):=by simp
  rw[L]at Y;go_wp2
  first
   | exact bQ (v:=.agg #[.bool false,.slice l a k]) ⟨_,rfl,(m false n).1,(m false n).2⟩
   | exact bQ (v:=.agg #[.bool true,.slice l a k]) ⟨_,rfl,(m true n).1,(m true n).2⟩)
def kgd (z:Int):Value:=if kby z then .agg #[.int .i64 1,.int .i64 z,.string ⟨#[]⟩] else .agg #[.int .i64 4,.int .i64 2,.string ⟨#[]⟩]
theorem q3l (v:Value)(z:Int)(w:Tw)(y:kbr w v z)(E:(kab z.natAbs).length<=500) :
 Gv 213 #[v] w (kgd z):=by
 have k:=h_ y;obtain⟨U,rfl,J⟩:=y;obtain⟨e,f,rfl,-,-,-⟩:=J;obtain⟨i,x⟩:=Nq (decide (z<0));obtain⟨c,n⟩:=Nq ((kab z.natAbs).length);rw[x,n]at k⊢;rw[n]at E;have B:=h_ (And.intro x n);obtain⟨d,o⟩:=Nq ((w.alloc (.cells #[.bool i,.slice e c f] 264)).alloc (.cells Jf 55));have K:Bw w d:=by rw[<- o];exact((Below.refl _ w).alloc (nR _) _).alloc (by simp) _
 have a:Blk d w.heap.size 264 [.bool i,.slice e c f]:=by rw[<- o];exact(Blk.new w 264 #[.bool i,.slice e c f]).alloc _
 have bR:Blk d (w.heap.size+1) 55 Jl:=by rw[<- o];simpa using Blk.new (w.alloc (.cells #[.bool i,.slice e c f] 264)) 55 Jf
 obtain⟨p,r,l⟩:=oC a bR K;obtain⟨⟨L,M⟩,-⟩:=two a;go_enter func213,ntmps213;go_wp2_with fail;refine(qbe _ z d (k.mono l) (by have:=B.2;omega)).mono ?_;rintro T A ⟨rfl,g⟩;have a:=p.mono g p.lt;have bR:=r.mono g r.lt;have C:=h_ ((k.mono l).mono g);have t:=mT l g;obtain⟨S,j⟩:=oB a bR;obtain⟨⟨L,M⟩,-⟩:=two a;have I:kby z=true->-9223372036854775808<=z/\z<=9223372036854775807:=fun b=>Y6 b;have q:=h_ I;cases h:kby z with
 | true =>
  go_wp2_with fail;refine cQ (q86 _ z A C (q h).1 (q h).2) fun Q u=>?_;have s:=mB j u;have D:=mT t u;go_wp2_with fail;refine cQ (qft z Q) fun R b=>?_;have bR:=s.mono b s.lt;have m:=mT D b;obtain⟨N,O,P⟩:=kag bR;have F:=bR.free 0;have G:=bR.free 1;have H:=bR.free 2;go_wp2;refine bQ (v:=.agg (J4 z)) ⟨by simp[kgd,h],?_⟩;exact((m.setCell (by simp) _).setCell (by simp) _).setCell (by simp) _
 | false =>
  go_wp2_with fail;refine cQ (qfr 2 A) fun R b=>?_;have bR:=j.mono b j.lt;have m:=mT t b;obtain⟨N,O,P⟩:=kag bR;have F:=bR.free 0;have G:=bR.free 1;have H:=bR.free 2;go_wp2;refine bQ (v:=.agg #[J6 4,J6 2,J8]) ⟨by simp[kgd,h],?_⟩;exact((m.setCell (by simp) _).setCell (by simp) _).setCell (by simp) _
