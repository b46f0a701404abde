import Derived.Test.YtebbgodlijlioaaGreatDoorW08
import Derived.Test.YtebbgodlijlioaaGreatDoorW09
import Derived.Test.YtebbgodlijlioaaGreatDoorW04
set_option maxRecDepth 100000
set_option maxHeartbeats 64000000
namespace Go.Proofs.YtebbgodlijlioaaGreatDoor
open Go Go.RowKit
theorem qex {e:Nat->Nx}{i:Nat}:(stk e i).headD 0=i:=by
 cases i with
 | zero=>rfl
 | succ i=>rfl
theorem qjn {e:Nat->Nx}{n:Nat}(h:1<=n):1<=(stk e n).length:=by
 obtain⟨k,rfl⟩:∃k,n=k+1:=⟨n - 1,by omega⟩
 simp[stk]
theorem q8h {e:Nat->Nx}{i need:Nat}{t:List Nat}(h1:1<=need)(h2:need<=(stk e (i+1)).length)(ho:arn (e i)<=(stk e i).length)(ht:t=(stk e (i+1)).drop need) :
 need - 1+arn (e i)<=(stk e i).length/\t=(stk e i).drop (need - 1+arn (e i)):=by
 obtain⟨n,rfl⟩:∃n,need=n+1:=⟨need - 1,by omega⟩
 simp only[stk,Yw,List.length_drop]at h2
 simp only[stk,List.drop_succ_cons,List.drop_drop]at ht
 refine⟨by omega,?_⟩
 rw[ht,show n+1 - 1+arn (e i)=arn (e i)+n by omega]
theorem q5a (a:Option Addr)(m c:Nat)(e:Nat->Nx)(en:Nat)(w:World)(hm:m<=1000)(ha:Nods w a m e)(h1:1<=en)(h2:en<=m)(ho:stkOk e en) :
 Calls Tryz.prog 161 #[.slice a m c,J9 en] w fun r w'=>r=.returned (J9 (beg e en))/\Below w.heap.size w w':=by
 have HA:=h_ ha;have HO:=h_ ho
 clear ha ho
 go_enter Tryz.func161,Tryz.ntmps161
 go_wp2_with fail
 go_loopw [5,6] (fun nd i wr=>∃(k need:Nat),nd=J9 need/\i=J9 k/\k<=en/\need<=(stk e k).length/\(stk e en).tail=(stk e k).drop need/\Below w.heap.size w wr) (fun _ i _=>(intOf i).toNat)
 case atStart=>exact⟨en,1,rfl,rfl,nR _,qjn h1,by simp,bR _ _⟩
 case round =>
  obtain⟨k,need,rfl,rfl,hk,hn,ht,hb⟩:=hrel;have HB:=h_ hb;have HT:=h_ ht;have HN:=h_ hn;have HV:=h_ (HA.u.mono hb);have hl:=qjm e k;clear hb ht hn;by_cases hz:need=0
  . subst hz
    have HR:Hi (beg e en=k):=h_ (by unfold beg;rw[HT.u,List.drop_zero,qex]);by_cases hk0:k=0
    . subst hk0
      go_wp2_with fail;go_ret;exact⟨qj3 (by rw[HR.u]),HB.u⟩
    . have hk1:(0:Int)<k:=by omega
      go_wp2_with fail;go_ret;exact⟨qj3 (by rw[HR.u]),HB.u⟩
  . obtain⟨i,rfl⟩:∃i,k=i+1:=⟨k - 1,by have:=HN.u;omega⟩
    have hst:=q8h (by omega) HN.u (HO.u i (by omega)) HT.u;have HST:=h_ hst;have har:=arn_le (e i);have hn1:need<=1000:=(by have:=HN.u;omega);have hk1:(0:Int)<((i+1:Nat):Int):=(by omega);have hn2:(0:Int)<need:=(by omega);have hw1:wrap64 (((i+1:Nat):Int) - 1)=(i:Int):=(by rw[q4f (by omega) (by omega)];omega);have hlt:(i:Int)<m:=(by omega);obtain⟨b,o,rfl,-,c0,c1,c2,c3,c4⟩:=HV.u i (by omega);clear hst;go_wp2_with fail;refine(q10 (e i) _).mono ?_;rintro r w1 ⟨rfl,hb⟩;replace HB:=mT HB hb;clear hb c0 c1 c2 c3 c4;go_wp2_with fail;go_roundw
    case rel=>exact⟨i,need - 1+arn (e i),by go_num,rfl,by omega,HST.u.1,HST.u.2,HB.u⟩
    case measure=>simp[intOf]
theorem d_le (e:Nat->Nx)(n:Nat):∀x,x∈pst e n->x.d<=n:=by
 induction n with
 | zero=>intro x hx;cases hx
 | succ n ih =>
  intro x hx;rcases Z2.1 hx with rfl | hx
  . have:∀a:List Ph,(∀y,y∈a->y.d<=n)->mx a<=n:=by
     intro a
     induction a with
     | nil=>intro _;exact nZ _
     | cons p r ih2=>intro h;have:=h p Zd;have:=ih2 fun y hy=>h y (Zu _ hy);simp only[mx];omega
    have:=this ((pst e n).take (arn (e n))).reverse fun y hy=>ih y (Vi (Oa.1 hy));show mx _+1<=n+1;omega
  . have:=ih x (List.mem_of_mem_drop hx);omega
theorem qjw (e:Nat->Nx){n:Nat}(h:1<=n):top e n∈pst e n:=by
 obtain⟨k,rfl⟩:∃k,n=k+1:=⟨n - 1,by omega⟩
 exact Zd
theorem top_d (e:Nat->Nx){n:Nat}(h:1<=n):(top e n).d<=n:=d_le e n _ (qjw e h)
theorem q83 (e:Nat->Nx)(n i:Nat):mx ((pst e n).take i)<=n:=by
 have:∀a:List Ph,(∀y,y∈a->y.d<=n)->mx a<=n:=by
  intro a
  induction a with
  | nil=>intro _;exact nZ _
  | cons p r ih2=>intro h;have:=h p Zd;have:=ih2 fun y hy=>h y (Zu _ hy);simp only[mx];omega
 exact this _ fun y hy=>d_le e n y (Vi hy)
theorem qiv (e:Nat->Nx)(n i:Nat)(h:i<(stk e n).length):(pst e n)[i]'(by rw[qiw];exact h)=top e (stk e n)[i]:=by
 have:=qix e n
 have h2:(pst e n)[i]? = ((stk e n).map (top e))[i]?:=by rw[<- this]
 rw[Zk,Yj h,Yj (by rw[qiw];exact h)]at h2
 simpa using h2
theorem q42 (e:Nat->Nx)(n i:Nat)(h:i<(stk e n).length):mx ((pst e n).take (i+1))=max (mx ((pst e n).take i)) (top e (stk e n)[i]).d:=by
 rw[Yr (by rw[qiw];exact h),qag,qiv e n i h]
 simp[mx]
theorem qfq (e:Nat->Nx)(n i:Nat)(h:i<(stk e n).length):beg e (stk e n)[i]=((stk e n).drop (i+1)).headD 0:=by
 unfold beg
 rw[(qfn e n i h).1,List.tail_drop]
theorem q6r (l:List Nat)(i:Nat)(h:i<l.length):(l.drop i).headD 0=l[i]:=by
 rw[Vy h];rfl
theorem q53 (a:Option Addr)(m c:Nat)(e:Nat->Nx)(hm:m<=1000)(F:Nat):∀(en:Nat) (w:World),en<=F->Nods w a m e->1<=en->en<=m->stkOk e en ->
 Calls Tryz.prog 128 #[.slice a m c,J9 en] w fun r w'=>r=.returned (J9 (top e en).d)/\Below w.heap.size w w':=by
 induction F with
 | zero=>intro en w h0 _ h1;omega
 | succ F ih =>
  intro en w hF ha h1 h2 ho;obtain⟨n,rfl⟩:∃n,en=n+1:=⟨en - 1,by omega⟩;have HA:=h_ ha;have HO:=h_ ho;have HI:=h_ ih;have hal:=ho n (by omega);have har:=arn_le (e n);have HD:Hi ((top e (n+1)).d=mx ((pst e n).take (arn (e n)))+1):=h_ (by rw[qf8];show mx _+1=_;rw[q82]);have hw0:wrap64 (((n+1:Nat):Int) - 1)=(n:Int):=by rw[q4f (by omega) (by omega)];omega
  have hnm:(n:Int)<m:=by omega
  clear ha ho ih;go_enter Tryz.func128,Tryz.ntmps128;go_wp2_with fail;go_loopw [5,6,7,8] (fun dp at_ i _ wr=>∃k:Nat,k<=arn (e n)/\dp=J9 (mx ((pst e n).take k))/\at_=J9 (((stk e n).drop k).headD 0)/\i=J9 k/\Below w.heap.size w wr) (fun _ _ i _ _=>arn (e n) - (intOf i).toNat)
  case atStart=>exact⟨0,nZ _,rfl,by rw[List.drop_zero,qex],rfl,bR _ _⟩
  case round =>
   obtain⟨k,hk,rfl,rfl,rfl,hb⟩:=hrel;have HB:=h_ hb;have HV:=h_ (HA.u.mono hb);clear hb;obtain⟨b,o,rfl,-,c0,c1,c2,c3,c4⟩:=HV.u n (by omega);go_wp2_with fail;refine(q10 (e n) _).mono ?_;rintro r w1 ⟨rfl,hb⟩;replace HB:=mT HB hb;replace HV:=h_ (HV.u.mono hb);clear hb c0 c1 c2 c3 c4;by_cases hlt:k<arn (e n)
   . have hlt':(k:Int)<(arn (e n):Int):=by omega
     have hkl:k<(stk e n).length:=(by omega);rw[q6r _ _ hkl];obtain⟨p,hp⟩:=Nq ((stk e n)[k]);have hae:=qfn e n k hkl;have HM:Hi (mx ((pst e n).take (k+1))=max (mx ((pst e n).take k)) (top e p).d):=h_ (by rw[q42 e n k hkl,hp]);have HG:Hi (beg e p=((stk e n).drop (k+1)).headD 0):=h_ (by rw[<- hp];exact qfq e n k hkl);rw[hp]at hae⊢;obtain⟨-,hp1,hpn⟩:=hae;have htd:=top_d e hp1;have hml:=q83 e n k;clear hp;go_wp2_with fail;refine(HI.u p _ (by omega) HV.u hp1 (by omega) (HO.u.le (by omega))).mono ?_;rintro r w2 ⟨rfl,hb⟩;replace HB:=mT HB hb;replace HV:=h_ (HV.u.mono hb);clear hb;obtain⟨d,hd⟩:=Nq ((top e p).d);obtain⟨q,hq⟩:=Nq (mx ((pst e n).take k));rw[hd,hq]at HM;rw[hd]at htd⊢;rw[hq]at hml⊢;clear hd hq;by_cases hgt:q<d
     . have hgt':(q:Int)<d:=by omega
       go_wp2_with fail;refine(q5a _ m c e p _ hm HV.u hp1 (by omega) (HO.u.le (by omega))).mono ?_;rintro r w3 ⟨rfl,hb⟩;replace HB:=mT HB hb;clear hb;go_wp2_with fail;go_roundw
       case rel=>first | exact⟨k+1,by omega,by rw[HM.u,Nat.max_eq_right (by omega)],by rw[HG.u],by go_num,HB.u⟩ | ((repeat apply Exists.intro);exact⟨⟨k+1,by omega,by rw[HM.u,Nat.max_eq_right (by omega)],by rw[HG.u],by go_num,HB.u⟩,rfl⟩)
       case measure=>simp[intOf];omega
     . have hgt':¬ (q:Int)<d:=by omega
       go_wp2_with fail;refine(q5a _ m c e p _ hm HV.u hp1 (by omega) (HO.u.le (by omega))).mono ?_;rintro r w3 ⟨rfl,hb⟩;replace HB:=mT HB hb;clear hb;go_wp2_with fail;go_roundw
       case rel=>first | exact⟨k+1,by omega,by rw[HM.u,Nat.max_eq_left (by omega)],by rw[HG.u],by go_num,HB.u⟩ | ((repeat apply Exists.intro);exact⟨⟨k+1,by omega,by rw[HM.u,Nat.max_eq_left (by omega)],by rw[HG.u],by go_num,HB.u⟩,rfl⟩)
       case measure=>simp[intOf];omega
   . obtain rfl:k=arn (e n):=by omega
     have hml:=q83 e n (arn (e n));have hlt':¬ ((arn (e n):Nat):Int)<(arn (e n):Int):=(by omega);go_wp2_with fail;go_ret;exact⟨qj3 (by rw[HD.u];omega),HB.u⟩
def stB (e:Nat->Nx)(m:Nat):Bool:=((List.range m).all fun k=>decide (arn (e k)<=(stk e k).length))&&decide ((stk e m).length=1)
theorem qjl (e:Nat->Nx)(m:Nat):stB e m=true ↔ stkOk e m/\(stk e m).length=1:=by
 unfold stB stkOk
 simp[List.all_eq_true]
theorem stB_no {e:Nat->Nx}{m k:Nat}(hk:k<m)(h:(stk e k).length<arn (e k)):stB e m=false:=by
 cases hb:stB e m
 . rfl
 . have:=((qjl e m).1 hb).1 k hk;omega
theorem qjk {e:Nat->Nx}{m:Nat}(h:stkOk e m):stB e m=decide ((stk e m).length=1):=by
 rw[Zn,qjl,Yq]
 exact⟨fun x=>x.2,fun x=>⟨h,x⟩⟩
theorem q59 (a:Option Addr)(m c:Nat)(e:Nat->Nx)(w:World)(hm:m<=1000)(ha:Nods w a m e) :
 Calls Tryz.prog 127 #[.slice a m c] w fun r w'=>r=.returned (.bool (stB e m))/\Below w.heap.size w w':=by
 have HA:=h_ ha
 clear ha
 go_enter Tryz.func127,Tryz.ntmps127
 go_wp2_with fail
 go_loopw [3,4,5] (fun hd i _ wr=>∃k:Nat,k<=m/\hd=J9 (stk e k).length/\i=J9 k/\stkOk e k/\Below w.heap.size w wr) (fun _ i _ _=>m - (intOf i).toNat)
 case atStart=>exact⟨0,nZ _,rfl,rfl,fun k hk=>absurd hk (nL _),bR _ _⟩
 case round =>
  obtain⟨k,hk,rfl,rfl,hok,hb⟩:=hrel;have HB:=h_ hb;have HK:=h_ hok;have HV:=h_ (HA.u.mono hb);have hl:=qjm e k;clear hb hok;by_cases hlt:k<m
  . have hlt':(k:Int)<m:=by omega
    obtain⟨b,o,rfl,-,c0,c1,c2,c3,c4⟩:=HV.u k hlt;go_wp2_with fail;refine(q10 (e k) _).mono ?_;rintro r w1 ⟨rfl,hb⟩;replace HB:=mT HB hb;clear hb c0 c1 c2 c3 c4;have har:=arn_le (e k);have HS:Hi ((stk e (k+1)).length=(stk e k).length - arn (e k)+1):=h_ (by simp[stk]);obtain⟨x,hx⟩:=Nq (arn (e k));obtain⟨y,hy⟩:=Nq ((stk e k).length);by_cases hgt:y<x
    . have hgt':(y:Int)<x:=by omega
      have HN:Hi (stB e m=false):=h_ (stB_no hlt (by rw[hx,hy];exact hgt));rw[hx,hy];clear hx hy HS;go_wp2_with fail;go_ret;exact⟨qe9 HN.u.symm,HB.u⟩
    . have hgt':¬ (y:Int)<x:=by omega
      have HN:Hi (stkOk e (k+1)):=h_ fun j hj=>by
       by_cases ej:j=k
       . subst ej;rw[hx,hy];omega
       . exact HK.u j (by omega)
      rw[hx,hy]at HS⊢;rw[hx]at har;rw[hy]at hl;clear hx hy;go_wp2_with fail;go_roundw
      case rel=>exact⟨k+1,by omega,by rw[HS.u];go_num,by go_num,HN.u,HB.u⟩
      case measure=>simp[intOf];omega
  . obtain rfl:k=m:=by omega
    have HN:=h_ (qjk HK.u);obtain⟨y,hy⟩:=Nq ((stk e k).length);rw[hy]at HN⊢;clear hy hl;go_wp2_with fail;go_ret;exact⟨qe9 (by rw[HN.u,Zn];simp;omega),HB.u⟩
theorem qbq {e:Nat->Nx}{m:Nat}(h:∀k,k<m->(e k).v.s.size<=1000):∀k,k<=m->txtSum e k<=1001*k:=by
 intro k
 induction k with
 | zero=>intro _;exact nR _
 | succ k ih=>intro hk;have:=ih (by omega);have:=h k (by omega);simp only[txtSum];omega
theorem q13 (a:Option Addr)(m c:Nat)(e:Nat->Nx)(w:World)(hm:m<=1000)(ha:Nods w a m e)(hs:∀k,k<m->(e k).v.s.size<=1000) :
 Calls Tryz.prog 129 #[.slice a m c] w fun r w'=>r=.returned (J9 (txtSum e m))/\Below w.heap.size w w':=by
 have HA:=h_ ha;have HT:=h_ (qbq hs);have HS:=h_ hs
 clear ha hs
 go_enter Tryz.func129,Tryz.ntmps129
 go_wp2_with fail
 go_loopw [3,4] (fun n i wr=>∃k:Nat,k<=m/\n=J9 (txtSum e k)/\i=J9 k/\Below w.heap.size w wr) (fun _ i _=>m - (intOf i).toNat)
 case atStart=>exact⟨0,nZ _,rfl,rfl,bR _ _⟩
 case round =>
  obtain⟨k,hk,rfl,rfl,hb⟩:=hrel;have HB:=h_ hb;have HV:=h_ (HA.u.mono hb);have ht:=HT.u k hk;clear hb;by_cases hlt:k<m
  . have hlt':(k:Int)<m:=by omega
    obtain⟨b,o,rfl,-,c0,c1,c2,c3,c4⟩:=HV.u k hlt;have hsk:=HS.u k hlt;have HE:Hi (txtSum e (k+1)=txtSum e k+1+(e k).v.s.size):=h_ rfl;obtain⟨y,hy⟩:=Nq (txtSum e k);rw[hy]at HE ht⊢;clear hy;go_wp2_with fail;go_roundw
    case rel=>exact⟨k+1,by omega,by rw[HE.u];go_num,by go_num,HB.u⟩
    case measure=>simp[intOf];omega
  . obtain rfl:k=m:=by omega
    go_wp2_with fail;go_ret;exact⟨rfl,HB.u⟩
def argsOf (e:Nat->Nx)(n:Nat):List Nat:=((stk e n).take (arn (e n))).reverse
theorem q6c {e:Nat->Nx}{n:Nat}(h:arn (e n)<=(stk e n).length):(argsOf e n).length=arn (e n):=by
 unfold argsOf;rw[Y6,Y3];omega
theorem q6e {e:Nat->Nx}{n p:Nat}(h:p∈argsOf e n):1<=p/\p<=n:=by
 unfold argsOf at h
 have h:=Vi (Oa.1 h)
 obtain⟨i,hi,rfl⟩:=Y2.1 h
 exact(qfn e n i hi).2
theorem q6d (e:Nat->Nx)(n:Nat):(argsOf e n).map (top e)=((pst e n).take (arn (e n))).reverse:=by
 unfold argsOf;rw[List.map_reverse,List.map_take,<- qix]
theorem q7i (a:Option Addr)(m c:Nat)(e:Nat->Nx)(n:Nat)(w:World)(hm:m<=1000)(ha:Nods w a m e)(h2:n+1<=m)(ho:stkOk e (n+1)) :
 Calls Tryz.prog 131 #[.slice a m c,J9 ((n+1:Nat):Int)] w fun r w'=>∃a0 c0,r=.returned (.slice a0 (arn (e n)) c0)/\Ints w' a0 (arn (e n)) (fun k=>(((argsOf e n).getD k 0:Nat):Int))/\Below w.heap.size w w':=by
 have HA:=h_ ha;have HO:=h_ ho
 have hal:=ho n (by omega)
 have har:=arn_le (e n)
 have hw0:wrap64 (((n+1:Nat):Int) - 1)=(n:Int):=by rw[q4f (by omega) (by omega)];omega
 have hnm:(n:Int)<m:=by omega
 have HB0:Hi (Below w.heap.size w (w.alloc (.cells #[] 3))):=h_ ((bR _ _).alloc (nR _) _)
 clear ha ho
 go_enter Tryz.func131,Tryz.ntmps131
 go_wp2_with fail
 go_loopw [5,6,7,8,9] (fun out at_ i _ _ wr=>∃(k:Nat) (a0:Option Addr) (c0:Nat),k<=arn (e n)/\out=.slice a0 k c0/\Ints wr a0 k (fun j=>(((((stk e n).take k).reverse).getD j 0:Nat):Int))/\at_=J9 (((stk e n).drop k).headD 0)/\i=J9 k/\Below w.heap.size w wr) (fun _ _ i _ _ _=>arn (e n) - (intOf i).toNat)
 case atStart=>exact⟨0,_,_,nZ _,rfl,fun j hj=>absurd hj (nL _),by rw[List.drop_zero,qex],rfl,HB0.u⟩
 case round =>
  obtain⟨k,a0,c0,hk,rfl,hI,rfl,rfl,hb⟩:=hrel;have HB:=h_ hb;have HI:=h_ hI;have HV:=h_ (HA.u.mono hb);clear hb hI HB0;obtain⟨b,o,rfl,-,z0,z1,z2,z3,z4⟩:=HV.u n (by omega);go_wp2_with fail;refine(q10 (e n) _).mono ?_;rintro r w1 ⟨rfl,hb⟩;replace HB:=mT HB hb;replace HV:=h_ (HV.u.mono hb);replace HI:=h_ (HI.u.mono hb);clear hb z0 z1 z2 z3 z4;by_cases hlt:k<arn (e n)
  . have hlt':(k:Int)<(arn (e n):Int):=by omega
    have hkl:k<(stk e n).length:=(by omega);rw[q6r _ _ hkl];obtain⟨p,hp⟩:=Nq ((stk e n)[k]);have hae:=qfn e n k hkl;have HG:Hi (beg e p=((stk e n).drop (k+1)).headD 0):=h_ (by rw[<- hp];exact qfq e n k hkl);have HL:Hi (((stk e n).take (k+1)).reverse=p :: ((stk e n).take k).reverse):=h_ (by rw[Yr hkl,List.reverse_append,hp];rfl);have hlen:(((stk e n).take k).reverse).length=k:=(by rw[Y6,Y3];omega);obtain⟨l,hl⟩:=Nq (((stk e n).take k).reverse);rw[hl]at HL HI hlen;rw[hp]at hae⊢;obtain⟨-,hp1,hpn⟩:=hae;clear hp hl;obtain⟨Wo,rfl⟩:∃Wo,Wo=w1:=⟨_,rfl⟩;have HN0:=h_ (qdu Wo 3 (J9 (p:Int)));have HB1:Hi (Below Wo.heap.size Wo (Wo.alloc (.cells #[J9 (p:Int)] 3))):=h_ ((bR _ _).alloc (nR _) _);go_wp2_with fail;go_loopw [8,9] (fun nx j w2=>∃q:Nat,q<=k/\j=J9 q/\w2.ownsRow Wo.heap.size 3 1 nx (q+1) (ui (p :: l.take q))/\Below Wo.heap.size Wo w2) (fun _ j _=>k - (intOf j).toNat)
    case atStart=>exact⟨0,nZ _,rfl,HN0.u,HB1.u⟩
    case round =>
     clear HN0 HB1;obtain⟨q,hq,rfl,hO,hb1⟩:=hrel;have HO1:=h_ hO;have HB1:=h_ hb1;have HI2:=h_ (HI.u.mono hb1);clear hO hb1;by_cases hlq:q<k
     . have hlq':(q:Int)<k:=by omega
       obtain⟨b1,o1,rfl,-,hc⟩:=HI2.u q hlq;have HX:Hi (l.take (q+1)=l.take q++[l.getD q 0]):=h_ (by rw[Yr (by omega),Yl,Yj (by omega)];rfl);obtain⟨y,hy⟩:=Nq (l.getD q 0);simp only[hy]at hc;rw[hy]at HX;clear hy;obtain⟨i0,hi,hz0,hz1,hz2⟩:=info_parts infoI;go_wp2_with (at_builtin;refine wpList_append_own _ rfl _ _ 30 rfl Wo.heap.size 3 i0 _ 1 8 Tryz.underlying30 hi hz0 hz1 hz2 rfl (by omega) _ _ _ rfl (HO1.u.alloc _) ⟨wr.heap.size,0,none⟩ 1 1 [J9 (y:Int)] rfl rfl (qc6 wr 3 _) (by simp[Value.oneCell']) (by unfold maxLen;omega) (by omega) (by have:=HB1.u.size;simp;omega) ?_);intro v' w3 ho' hgr' _;have hB2:=(HB1.u.alloc HB1.u.size (.cells #[J9 (y:Int)] 3)).grown hgr' (by have:=HB1.u.size;simp;omega) (fun q' e=>q87 HO1.u e);have HO2:Hi (w3.ownsRow Wo.heap.size 3 1 v' (q+1+1) (ui (p :: l.take (q+1)))):=h_ (by rw[HX.u];simpa [ui] using ho');have HB2:=h_ hB2;clear ho' hgr' hB2 hi hz0 hz1 hz2 HO1 HB1 hc;go_wp2_with fail;go_roundw
       case rel=>exact⟨q+1,by omega,by go_num,HO2.u,HB2.u⟩
       case measure=>simp[intOf];omega
     . obtain rfl:q=k:=by omega
       have hI3:=HO1.u;rw[Zh (by omega)]at hI3;obtain⟨a1,c1,rfl,hI4⟩:=q3f hI3;rw[<- HL.u]at hI4;have HI4:=h_ hI4;have HB2:=h_ (HB.u.trans (HB1.u.mono HB.u.size));have HV2:=h_ (HV.u.mono HB1.u);clear hI3 hI4 HO1 HB1 HI2;go_wp2_with fail;refine(q5a _ m c e p _ hm HV2.u hp1 (by omega) (HO.u.le (by omega))).mono ?_;rintro r w4 ⟨rfl,hb⟩;replace HB2:=mT HB2 hb;replace HI4:=h_ (HI4.u.mono hb);clear hb;go_wp2_with fail;go_roundw
       case rel=>first | exact⟨q+1,_,_,by omega,rfl,HI4.u,by rw[HG.u],by go_num,HB2.u⟩ | ((repeat apply Exists.intro);exact⟨⟨q+1,_,_,by omega,rfl,HI4.u,by rw[HG.u],by go_num,HB2.u⟩,rfl⟩)
       case measure=>simp[intOf];omega
  . obtain rfl:k=arn (e n):=by omega
    have hlt':¬ ((arn (e n):Nat):Int)<(arn (e n):Int):=(by omega);go_wp2_with fail;go_ret;exact⟨_,_,rfl,HI.u,HB.u⟩
theorem qhh (l:List ByteArray)(x:ByteArray):jt (l++[x])=jt l++(⟨#[44,32]⟩++x):=by
 induction l with
 | nil=>show ⟨#[44,32]⟩++x++ByteArray.empty=ByteArray.empty++(⟨#[44,32]⟩++x);rw[ByteArray.append_empty,ByteArray.empty_append]
 | cons y r ih=>simp only[Z3,jt,ih,ByteArray.append_assoc]
theorem qhe (l:List ByteArray)(x:ByteArray)(h:l≠[]):jn (l++[x])=jn l++⟨#[44,32]⟩++x:=by
 cases l with
 | nil=>exact absurd rfl h
 | cons y r=>simp only[Z3,jn,qhh,ByteArray.append_assoc]
structure PrOk (a:Option Addr)(m:Nat)(e:Nat->Nx)(n:Nat)(w:World):Prop where
 nods:Nods w a m e
 st:stkOk e n
 ok:okAll e n
 fit:∀k,k<n->Fit (e k)
theorem PrOk.mono {a:Option Addr}{m:Nat}{e:Nat->Nx}{n:Nat}{w w':World}(h:PrOk a m e n w)(hb:Below w.heap.size w w'):PrOk a m e n w':=⟨h.nods.mono hb,h.st,h.ok,h.fit⟩
theorem PrOk.le {a:Option Addr}{m:Nat}{e:Nat->Nx}{n k:Nat}{w:World}(h:PrOk a m e n w)(hk:k<=n):PrOk a m e k w:=⟨h.nods,h.st.le hk,h.ok.le hk,fun j hj=>h.fit j (by omega)⟩
theorem PrOk.tot {a:Option Addr}{m:Nat}{e:Nat->Nx}{n:Nat}{w:World}(h:PrOk a m e n w):tot (pst e n)<=1100*n:=(qjy e n h.st h.ok (fun k hk=>(h.fit k hk).2.2.2)).2
theorem PrOk.top {a:Option Addr}{m:Nat}{e:Nat->Nx}{n:Nat}{w:World}(h:PrOk a m e n w)(hn:1<=n):(top e n).t.size<=1100*n:=Ys (qjx (qjw e hn)) h.tot
def Prints (a:Option Addr)(m c:Nat)(e:Nat->Nx)(en:Nat):Prop:=∀w:World,PrOk a m e en w ->
 Calls Tryz.prog 93 #[.slice a m c,J9 en] w fun r w'=>r=.returned (.string (top e en).t)/\Below w.heap.size w w'
theorem qa8 (a:Option Addr)(m c:Nat)(e:Nat->Nx)(n:Nat)(l:Int)(w:World)(hm:m<=1000)(hn:n+1<=m)(hp:Prints a m c e (n+1))(h:PrOk a m e (n+1) w) :
 Calls Tryz.prog 133 #[.slice a m c,J9 ((n+1:Nat):Int),J9 l] w fun r w'=>r=.returned (.string (wrap l (top e (n+1))))/\Below w.heap.size w w':=by
 have hw0:wrap64 (((n+1:Nat):Int) - 1)=(n:Int):=by rw[q4f (by omega) (by omega)];omega
 have hnm:(n:Int)<m:=by omega
 have hsz:=h.top (by omega)
 have HO:=h_ h
 have HW:Hi (wrap l (top e (n+1))=if lvl (e n).op<l then ⟨#[40]⟩++(top e (n+1)).t++⟨#[41]⟩ else (top e (n+1)).t):=h_ rfl
 clear h
 go_enter Tryz.func133,Tryz.ntmps133
 go_wp2_with fail
 refine(hp _ HO.u).mono ?_
 rintro r w1 ⟨rfl,hb⟩
 have HB:=h_ hb
 replace HO:=h_ (HO.u.mono hb)
 clear hb
 obtain⟨b,o,rfl,-,z0,z1,z2,z3,z4⟩:=HO.u.nods n (by omega)
 generalize (top e (n+1)).t=t at *
 go_wp2_with fail
 refine(q56 _ _).mono ?_
 rintro r w2 ⟨rfl,hw⟩
 replace hw:=hw.symm;subst hw
 generalize lvl (e n).op=q at *
 clear z0 z1 z2 z3 z4
 by_cases hq:q<l
 . go_wp2_with fail
   go_ret;exact⟨qj4 (by rw[HW.u,Yy hq]),HB.u⟩
 . go_wp2_with fail
   go_ret;exact⟨qj4 (by rw[HW.u,Yu (by omega)]),HB.u⟩
end Go.Proofs.YtebbgodlijlioaaGreatDoor
