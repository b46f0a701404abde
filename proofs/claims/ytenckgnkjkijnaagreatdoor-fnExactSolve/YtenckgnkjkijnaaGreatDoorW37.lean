import Derived.Test.YtenckgnkjkijnaaGreatDoorW33
import Derived.Test.YtenckgnkjkijnaaGreatDoorW26
set_option maxRecDepth 100000
set_option maxHeartbeats 64000000
namespace Go.Proofs.YtenckgnkjkijnaaGreatDoor
open Go Go.RowKit Go.Proofs.Tryz
theorem q39 (m:Fm)(A:MA)(w:Tw)(I:kbe m)(am:kev m A)(ha:MSl w m A)(J:kbT w)(hy:TyW w) :
 Calls prog 163 #[mV m A] w fun C a=>C=.returned (.tuple #[.string (if vfB m then ⟨(cT m).toArray⟩ else ⟨#[]⟩),.bool (vfB m)])/\Bw w a:=by
 obtain⟨o,p,q,r,ar,s,k,n,v⟩:=A;have H:Hi (¬ VfA m->vfB m=false):=h_ qhy;have ai:Hi (VfA m->vfB m=decide ((cT m).length<=30000)):=h_ kfA;generalize vfB m=x at *;obtain⟨T,V,U,S,Q,E⟩:=oF (fun a=>q1e m ⟨o,p,q,r,ar,s,k,n,v⟩ a I) (fun a (c:kb8 m) (b:MSl a m ⟨o,p,q,r,ar,s,k,n,v⟩)=>q0v m ⟨o,p,q,r,ar,s,k,n,v⟩ a I c b) (fun a (c:kb8 m) (b:MSl a m ⟨o,p,q,r,ar,s,k,n,v⟩)=>q0q m ⟨o,p,q,r,ar,s,k,n,v⟩ a c b) (fun a (c:kb8 m) (b:MSl a m ⟨o,p,q,r,ar,s,k,n,v⟩) (J:kbT a)=>q08 m ⟨o,p,q,r,ar,s,k,n,v⟩ a I c b am J) (fun a (c:kb8 m) (b:MSl a m ⟨o,p,q,r,ar,s,k,n,v⟩)=>q19 m ⟨o,p,q,r,ar,s,k,n,v⟩ a I c b) (fun a (c:VfA m) (b:MSl a m ⟨o,p,q,r,ar,s,k,n,v⟩) (J:kbT a) (hy:TyW a)=>q0e m ⟨o,p,q,r,ar,s,k,n,v⟩ a I c b J hy);unfold mV at T V U S Q E⊢;dsimp only at T V U S Q E⊢;obtain⟨W0,an,c,b⟩:=nw w 37 (Jb o m p q r ar s k n);obtain⟨g,j,t⟩:=oC (ha.mono b) (J.mono b) (hy.mono b);have G:Hi (x=false->(Ending.returned (.tuple #[.string (if x then ⟨(cT m).toArray⟩ else ⟨#[]⟩),.bool x]))=.returned (.tuple #[J8,.bool false])):=h_ fun d=>by rw[d];rfl
 have aa:Hi (x=true->(Ending.returned (.tuple #[.string (if x then ⟨(cT m).toArray⟩ else ⟨#[]⟩),.bool x]))=.returned (.tuple #[.string ⟨(cT m).toArray⟩,.bool true])):=h_ fun d=>by rw[d];rfl
 generalize (Ending.returned (.tuple #[.string (if x then ⟨(cT m).toArray⟩ else ⟨#[]⟩),.bool x]))=RR at *;obtain⟨K,M,N,O⟩:=kaf c;go_enter func163,ntmps163;go_wp2_with fail;refine cQ (T W0) fun W1 a=>?_;replace c:=mB c a;replace g:=h_ (g.mono a);replace j:=h_ (j.mono a);replace t:=h_ (t.mono a);replace b:=mT b a;obtain⟨K,M,N,O⟩:=kaf c;have ac:Hi (decide (m.L.length<=32/\m.P.length<=256/\m.R.length<=64/\m.F.length<=200)=true->kb8 m):=h_ fun d=>⟨(Y6 d).1,(Y6 d).2.1,(Y6 d).2.2.1,(Y6 d).2.2.2⟩;have ad:Hi (decide (m.L.length<=32/\m.P.length<=256/\m.R.length<=64/\m.F.length<=200)=false->¬ VfA m):=h_ fun d e=>of_decide_eq_false d ⟨e.nl,e.np,e.nr,e.nf⟩;generalize decide (m.L.length<=32/\m.P.length<=256/\m.R.length<=64/\m.F.length<=200)=X at *;cases X
 . have i:=h_ (G (H (ad rfl)))
   go_wp2_with fail
   go_ret2
   exact⟨i.symm,b⟩
 have y:=h_ (ac rfl);go_wp2_with fail;refine cQ (V W1 y g) fun W2 a=>?_;replace c:=mB c a;replace g:=h_ (g.mono a);replace j:=h_ (j.mono a);replace t:=h_ (t.mono a);replace b:=mT b a;obtain⟨K,M,N,O⟩:=kaf c;cases D:(kae m.L&&kae (kav m)&&kae (kaa m))
 . have i:=h_ (G (H fun e=>by rw[e.l,e.r,e.f]at D;cases D))
   go_wp2_with fail
   go_ret2
   exact⟨i.symm,b⟩
 have W:=h_ D;go_wp2_with fail;refine cQ (U W2 y g) fun W3 a=>?_;replace c:=mB c a;replace g:=h_ (g.mono a);replace j:=h_ (j.mono a);replace t:=h_ (t.mono a);replace b:=mT b a;obtain⟨K,M,N,O⟩:=kaf c;have ag:Hi (((m.P.all fun B=>inR m.L.length B.1&&inR m.L.length B.2)&&m.R.all fun C=>inR m.L.length C.lb)=false->¬ VfA m):=h_ fun d e=>by
  rw[Yv.2 (fun h z=>by rw[(e.p h z).1,(e.p h z).2];rfl),Yv.2 (fun h z=>e.ro h z)]at d;cases d
 have ah:Hi (((m.P.all fun B=>inR m.L.length B.1&&inR m.L.length B.2)&&m.R.all fun C=>inR m.L.length C.lb)=true->(∀h,h∈m.P->inR m.L.length h.1=true/\inR m.L.length h.2=true)/\∀h,h∈m.R->inR m.L.length h.lb=true):=h_ fun d=>by
  simp only[Yh,Yv]at d;exact d
 generalize ((m.P.all fun B=>inR m.L.length B.1&&inR m.L.length B.2)&&m.R.all fun C=>inR m.L.length C.lb)=X at *;cases X
 . have i:=h_ (G (H (ag rfl)))
   go_wp2_with fail
   go_ret2
   exact⟨i.symm,b⟩
 have Z:=h_ (ah rfl);go_wp2_with fail;refine cQ (S W3 y g j) fun W4 a=>?_;replace c:=mB c a;replace g:=h_ (g.mono a);replace j:=h_ (j.mono a);replace t:=h_ (t.mono a);replace b:=mT b a;obtain⟨K,M,N,O⟩:=kaf c;cases D:m.F.all (kaq m.L.length m.R.length)
 . have i:=h_ (G (H fun e=>by rw[Yv.2 (fun h z=>e.fi h z)]at D;cases D))
   go_wp2_with fail
   go_ret2
   exact⟨i.symm,b⟩
 have ae:=h_ (Yv.1 D);go_wp2_with fail;refine(Q W4 y g).mono ?_;rintro C W5 ⟨h,rfl,z,a⟩;replace c:=mB c a;replace g:=h_ (g.mono a);replace j:=h_ (j.mono a);replace t:=h_ (t.mono a);replace b:=mT b a;obtain⟨K,M,N,O⟩:=kaf c;have Y:=h_ z;by_cases aq:0<=h
 . have i:=h_ (G (H fun e=>by have:=Y.2.2.2 (fun d hy=>e.kn d hy);omega))
   go_wp2_with fail
   go_ret2
   exact⟨i.symm,b⟩
 have B:Hi (VfA m):=h_ ⟨y.l,y.p,y.r,y.f,by have:=W.u;simp only[Yh]at this;exact this.1.1,by have:=W.u;simp only[Yh]at this;exact this.1.2,by have:=W.u;simp only[Yh]at this;exact this.2,Z.1,Z.2,ae,Y.2.2.1 (by omega)⟩;have aj:(cT m).length<=3714016:=by rw[<- kdB];exact kdd B _
 have e:Hi (x=decide ((cT m).length<=30000)):=h_ (ai B);replace E:=h_ (E W5 B g j t);obtain⟨d,hT⟩:∃d:Tb,⟨(cT m).toArray⟩=d:=⟨_,rfl⟩;have ak:d.size=(cT m).length:=by rw[<- hT];rfl
 rw[<- ak]at e aj;rw[hT]at E aa;go_wp2_with fail;refine cQ E fun W6 a=>?_;replace b:=mT b a;by_cases ao:(30000:Int)<d.size
 . have i:=h_ (G (by rw[e.u,Yd (by omega)]))
   go_wp2_with fail
   go_ret2
   exact⟨i.symm,b⟩
 . have i:=h_ (aa (by rw[e.u,Ye (by omega)]))
   go_wp2_with fail
   go_ret2
   exact⟨i.symm,b⟩
theorem q0k (m:Fm)(A:MA)(w:Tw)(s:kbe m)(r:kev m A)(p:MSl w m A)(j:kbT w)(hy:TyW w) :
 Calls prog 132 #[mV m A] w fun a b=>a=.returned (.bool (vfB m))/\Bw w b:=by
 obtain⟨e,f,g,h,ar,i,c,d,k⟩:=A;have b:=h_ fun a (l:MSl a m ⟨e,f,g,h,ar,i,c,d,k⟩) (j:kbT a) (hy:TyW a)=>q39 m ⟨e,f,g,h,ar,i,c,d,k⟩ a s r l j hy;obtain⟨l,t⟩:∃l,(if vfB m then ⟨(cT m).toArray⟩ else ⟨#[]⟩)=(l:Tb):=⟨_,rfl⟩;unfold mV at b⊢;dsimp only at b⊢;obtain⟨o,v,n,a⟩:=nw w 37 (Jb e m f g h ar i c d);replace b:=h_ (b o (p.mono a) (j.mono a) (hy.mono a));rw[t]at b;obtain⟨x,y,z,B⟩:=kaf n;go_enter func132,ntmps132;go_wp2_with fail;refine cQ b fun u q=>?_;replace a:=mT a q;go_wp2_with fail;go_ret;exact⟨rfl,a⟩
