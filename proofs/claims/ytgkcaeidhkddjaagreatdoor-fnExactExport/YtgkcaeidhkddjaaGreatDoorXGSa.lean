import Derived.Test.YtgkcaeidhkddjaaGreatDoorXGNa
import Derived.Test.YtgkcaeidhkddjaaGreatDoorXLev
import Derived.Test.YtgkcaeidhkddjaaGreatDoorXOwn
set_option maxRecDepth 100000
set_option maxHeartbeats 20000000
namespace Go.Proofs.YtgkcaeidhkddjaaGreatDoor
open Go Go.RowKit
theorem qgi {e:Nat->Nx} {i:Nat}:(stk e i).headD 0=i:=by
 cases i with
 | zero=>rfl
 | succ i=>rfl
theorem qkn {e:Nat->Nx} {n:Nat} (h:1<=n):1<=(stk e n).length:=by
 obtain ⟨k,rfl⟩:∃ k,n=k+1:=⟨n - 1,by omega⟩
 simp [stk]
theorem q9d {e:Nat->Nx} {i need:Nat} {t:List Nat} (h1:1<=need) (h2:need<=(stk e (i+1)).length) (ho:arn (e i)<=(stk e i).length) (ht:t=(stk e (i+1)).drop need) :
 need - 1+arn (e i)<=(stk e i).length/\t=(stk e i).drop (need - 1+arn (e i)):=by
 obtain ⟨n,rfl⟩:∃ n,need=n+1:=⟨need - 1,by omega⟩
 simp only [stk,List.length_cons,List.length_drop] at h2
 simp only [stk,List.drop_succ_cons,List.drop_drop] at ht
 refine ⟨by omega,?_⟩
 rw [ht,show n+1 - 1+arn (e i)=arn (e i)+n by omega]
theorem q5m (a:Option Addr) (m c:Nat) (e:Nat->Nx) (en:Nat) (w:World) (hm:m<=1000) (ha:Nods w a m e) (h1:1<=en) (h2:en<=m) (ho:stkOk e en) :
 Calls Tryz.prog 215 #[.slice a m c,.int .i64 en] w fun r w'=>r=.returned (.int .i64 (beg e en))/\Below w.heap.size w w':=by
 have HA:=h_ ha;have HO:=h_ ho
 clear ha ho
 go_enter Tryz.func215,Tryz.ntmps215
 go_wp2_with fail
 go_loopw [5,6] (fun nd i wr=>∃ (k need:Nat),nd=.int .i64 need/\i=.int .i64 k/\k<=en/\need<=(stk e k).length/\(stk e en).tail=(stk e k).drop need/\Below w.heap.size w wr) (fun _ i _=>(intOf i).toNat)
 case atStart=>exact ⟨en,1,rfl,rfl,nR _,qkn h1,by simp,bR _ _⟩
 case round =>
  obtain ⟨k,need,rfl,rfl,hk,hn,ht,hb⟩:=hrel
  have HB:=h_ hb;have HT:=h_ ht;have HN:=h_ hn
  have HV:=h_ ((u_ HA).mono hb)
  have hl:=qkm e k
  clear hb ht hn
  by_cases hz:need=0
  . subst hz
    have HR:Hid (beg e en=k):=h_ (by unfold beg;rw [u_ HT,List.drop_zero,qgi])
    by_cases hk0:k=0
    . subst hk0
      go_wp2_with fail
      go_ret
      exact ⟨qk9 (by rw [u_ HR]),u_ HB⟩
    . have hk1:(0:Int)<k:=by omega
      go_wp2_with fail
      go_ret
      exact ⟨qk9 (by rw [u_ HR]),u_ HB⟩
  . obtain ⟨i,rfl⟩:∃ i,k=i+1:=⟨k - 1,by have:=u_ HN;omega⟩
    have hst:=q9d (by omega) (u_ HN) (u_ HO i (by omega)) (u_ HT)
    have HST:=h_ hst
    have har:=arn_le (e i)
    have hn1:need<=1000:=by have:=u_ HN;omega
    have hk1:(0:Int)<((i+1:Nat):Int):=by omega
    have hn2:(0:Int)<need:=by omega
    have hw1:wrap64 (((i+1:Nat):Int) - 1)=(i:Int):=by rw [q4o (by omega) (by omega)];omega
    have hlt:(i:Int)<m:=by omega
    obtain ⟨b,o,rfl,-,c0,c1,c2,c3,c4⟩:=u_ HV i (by omega)
    clear hst
    go_wp2_with fail
    refine (q12 (e i) _).mono ?_
    rintro r w1 ⟨rfl,hb⟩
    replace HB:=mT HB hb
    clear hb c0 c1 c2 c3 c4
    go_wp2_with fail
    go_roundw
    case rel=>exact ⟨i,need - 1+arn (e i),by go_num,rfl,by omega,(u_ HST).1,(u_ HST).2,u_ HB⟩
    case measure=>simp [intOf]
theorem d_le (e:Nat->Nx) (n:Nat):∀ x,x ∈ pst e n->x.d<=n:=by
 induction n with
 | zero=>intro x hx;cases hx
 | succ n ih =>
  intro x hx
  rcases List.mem_cons.1 hx with rfl | hx
  . have:∀ a:List Ph,(∀ y,y ∈ a->y.d<=n)->mx a<=n:=by
     intro a
     induction a with
     | nil=>intro _;exact nZ _
     | cons p r ih2=>intro h;have:=h p List.mem_cons_self;have:=ih2 fun y hy=>h y (List.mem_cons_of_mem _ hy);simp only [mx];omega
    have:=this ((pst e n).take (arn (e n))).reverse fun y hy=>ih y (List.mem_of_mem_take (List.mem_reverse.1 hy))
    show mx _+1<=n+1
    omega
  . have:=ih x (List.mem_of_mem_drop hx);omega
theorem qku (e:Nat->Nx) {n:Nat} (h:1<=n):top e n ∈ pst e n:=by
 obtain ⟨k,rfl⟩:∃ k,n=k+1:=⟨n - 1,by omega⟩
 exact List.mem_cons_self
theorem top_d (e:Nat->Nx) {n:Nat} (h:1<=n):(top e n).d<=n:=d_le e n _ (qku e h)
theorem q8s (e:Nat->Nx) (n i:Nat):mx ((pst e n).take i)<=n:=by
 have:∀ a:List Ph,(∀ y,y ∈ a->y.d<=n)->mx a<=n:=by
  intro a
  induction a with
  | nil=>intro _;exact nZ _
  | cons p r ih2=>intro h;have:=h p List.mem_cons_self;have:=ih2 fun y hy=>h y (List.mem_cons_of_mem _ hy);simp only [mx];omega
 exact this _ fun y hy=>d_le e n y (List.mem_of_mem_take hy)
theorem qk1 (e:Nat->Nx) (n i:Nat) (h:i<(stk e n).length):(pst e n)[i]'(by rw [qk2];exact h)=top e (stk e n)[i]:=by
 have:=qk3 e n
 have h2:(pst e n)[i]? = ((stk e n).map (top e))[i]?:=by rw [<- this]
 rw [List.getElem?_map,List.getElem?_eq_getElem h,List.getElem?_eq_getElem (by rw [qk2];exact h)] at h2
 simpa using h2
theorem q44 (e:Nat->Nx) (n i:Nat) (h:i<(stk e n).length):mx ((pst e n).take (i+1))=max (mx ((pst e n).take i)) (top e (stk e n)[i]).d:=by
 rw [List.take_succ_eq_append_getElem (by rw [qk2];exact h),qc0,qk1 e n i h]
 simp [mx]
theorem qhf (e:Nat->Nx) (n i:Nat) (h:i<(stk e n).length):beg e (stk e n)[i]=((stk e n).drop (i+1)).headD 0:=by
 unfold beg
 rw [(qha e n i h).1,List.tail_drop]
theorem q7i (l:List Nat) (i:Nat) (h:i<l.length):(l.drop i).headD 0=l[i]:=by
 rw [List.drop_eq_getElem_cons h];rfl
theorem q5g (a:Option Addr) (m c:Nat) (e:Nat->Nx) (hm:m<=1000) (F:Nat):∀ (en:Nat) (w:World),en<=F->Nods w a m e->1<=en->en<=m->stkOk e en ->
 Calls Tryz.prog 189 #[.slice a m c,.int .i64 en] w fun r w'=>r=.returned (.int .i64 (top e en).d)/\Below w.heap.size w w':=by
 induction F with
 | zero=>intro en w h0 _ h1;omega
 | succ F ih =>
  intro en w hF ha h1 h2 ho
  obtain ⟨n,rfl⟩:∃ n,en=n+1:=⟨en - 1,by omega⟩
  have HA:=h_ ha;have HO:=h_ ho;have HI:=h_ ih
  have hal:=ho n (by omega)
  have har:=arn_le (e n)
  have HD:Hid ((top e (n+1)).d=mx ((pst e n).take (arn (e n)))+1):=h_ (by rw [qgt];show mx _+1=_;rw [q8r])
  have hw0:wrap64 (((n+1:Nat):Int) - 1)=(n:Int):=by rw [q4o (by omega) (by omega)];omega
  have hnm:(n:Int)<m:=by omega
  clear ha ho ih
  go_enter Tryz.func189,Tryz.ntmps189
  go_wp2_with fail
  go_loopw [5,6,7,8] (fun dp at_ i _ wr=>∃ k:Nat,k<=arn (e n)/\dp=.int .i64 (mx ((pst e n).take k))/\at_=.int .i64 (((stk e n).drop k).headD 0)/\i=.int .i64 k/\Below w.heap.size w wr) (fun _ _ i _ _=>arn (e n) - (intOf i).toNat)
  case atStart=>exact ⟨0,nZ _,rfl,by rw [List.drop_zero,qgi],rfl,bR _ _⟩
  case round =>
   obtain ⟨k,hk,rfl,rfl,rfl,hb⟩:=hrel
   have HB:=h_ hb
   have HV:=h_ ((u_ HA).mono hb)
   clear hb
   obtain ⟨b,o,rfl,-,c0,c1,c2,c3,c4⟩:=u_ HV n (by omega)
   go_wp2_with fail
   refine (q12 (e n) _).mono ?_
   rintro r w1 ⟨rfl,hb⟩
   replace HB:=mT HB hb;replace HV:=h_ ((u_ HV).mono hb)
   clear hb c0 c1 c2 c3 c4
   by_cases hlt:k<arn (e n)
   . have hlt':(k:Int)<(arn (e n):Int):=by omega
     have hkl:k<(stk e n).length:=by omega
     rw [q7i _ _ hkl]
     obtain ⟨p,hp⟩:∃ p,(stk e n)[k]=p:=⟨_,rfl⟩
     have hae:=qha e n k hkl
     have HM:Hid (mx ((pst e n).take (k+1))=max (mx ((pst e n).take k)) (top e p).d):=h_ (by rw [q44 e n k hkl,hp])
     have HG:Hid (beg e p=((stk e n).drop (k+1)).headD 0):=h_ (by rw [<- hp];exact qhf e n k hkl)
     rw [hp] at hae ⊢
     obtain ⟨-,hp1,hpn⟩:=hae
     have htd:=top_d e hp1
     have hml:=q8s e n k
     clear hp
     go_wp2_with fail
     refine (u_ HI p _ (by omega) (u_ HV) hp1 (by omega) ((u_ HO).le (by omega))).mono ?_
     rintro r w2 ⟨rfl,hb⟩
     replace HB:=mT HB hb;replace HV:=h_ ((u_ HV).mono hb)
     clear hb
     obtain ⟨d,hd⟩:∃ d,(top e p).d=d:=⟨_,rfl⟩
     obtain ⟨q,hq⟩:∃ q,mx ((pst e n).take k)=q:=⟨_,rfl⟩
     rw [hd,hq] at HM;rw [hd] at htd ⊢;rw [hq] at hml ⊢
     clear hd hq
     by_cases hgt:q<d
     . have hgt':(q:Int)<d:=by omega
       go_wp2_with fail
       refine (q5m _ m c e p _ hm (u_ HV) hp1 (by omega) ((u_ HO).le (by omega))).mono ?_
       rintro r w3 ⟨rfl,hb⟩
       replace HB:=mT HB hb
       clear hb
       go_wp2_with fail
       go_roundw
       case rel=>first | exact ⟨k+1,by omega,by rw [u_ HM,Nat.max_eq_right (by omega)],by rw [u_ HG],by go_num,u_ HB⟩ | ((repeat apply Exists.intro);exact ⟨⟨k+1,by omega,by rw [u_ HM,Nat.max_eq_right (by omega)],by rw [u_ HG],by go_num,u_ HB⟩,rfl⟩)
       case measure=>simp [intOf];omega
     . have hgt':¬ (q:Int)<d:=by omega
       go_wp2_with fail
       refine (q5m _ m c e p _ hm (u_ HV) hp1 (by omega) ((u_ HO).le (by omega))).mono ?_
       rintro r w3 ⟨rfl,hb⟩
       replace HB:=mT HB hb
       clear hb
       go_wp2_with fail
       go_roundw
       case rel=>first | exact ⟨k+1,by omega,by rw [u_ HM,Nat.max_eq_left (by omega)],by rw [u_ HG],by go_num,u_ HB⟩ | ((repeat apply Exists.intro);exact ⟨⟨k+1,by omega,by rw [u_ HM,Nat.max_eq_left (by omega)],by rw [u_ HG],by go_num,u_ HB⟩,rfl⟩)
       case measure=>simp [intOf];omega
   . obtain rfl:k=arn (e n):=by omega
     have hml:=q8s e n (arn (e n))
     have hlt':¬ ((arn (e n):Nat):Int)<(arn (e n):Int):=by omega
     go_wp2_with fail
     go_ret
     exact ⟨qk9 (by rw [u_ HD];omega),u_ HB⟩
def stB (e:Nat->Nx) (m:Nat):Bool:=((List.range m).all fun k=>decide (arn (e k)<=(stk e k).length))&&decide ((stk e m).length=1)
theorem qkl (e:Nat->Nx) (m:Nat):stB e m=true ↔ stkOk e m/\(stk e m).length=1:=by
 unfold stB stkOk
 simp [List.all_eq_true]
theorem stB_no {e:Nat->Nx} {m k:Nat} (hk:k<m) (h:(stk e k).length<arn (e k)):stB e m=false:=by
 cases hb:stB e m
 . rfl
 . have:=((qkl e m).1 hb).1 k hk;omega
theorem qkk {e:Nat->Nx} {m:Nat} (h:stkOk e m):stB e m=decide ((stk e m).length=1):=by
 rw [Bool.eq_iff_iff,qkl,decide_eq_true_eq]
 exact ⟨fun x=>x.2,fun x=>⟨h,x⟩⟩
theorem q5l (a:Option Addr) (m c:Nat) (e:Nat->Nx) (w:World) (hm:m<=1000) (ha:Nods w a m e) :
 Calls Tryz.prog 188 #[.slice a m c] w fun r w'=>r=.returned (.bool (stB e m))/\Below w.heap.size w w':=by
 have HA:=h_ ha
 clear ha
 go_enter Tryz.func188,Tryz.ntmps188
 go_wp2_with fail
 go_loopw [3,4,5] (fun hd i _ wr=>∃ k:Nat,k<=m/\hd=.int .i64 (stk e k).length/\i=.int .i64 k/\stkOk e k/\Below w.heap.size w wr) (fun _ i _ _=>m - (intOf i).toNat)
 case atStart=>exact ⟨0,nZ _,rfl,rfl,fun k hk=>absurd hk (nL _),bR _ _⟩
 case round =>
  obtain ⟨k,hk,rfl,rfl,hok,hb⟩:=hrel
  have HB:=h_ hb;have HK:=h_ hok
  have HV:=h_ ((u_ HA).mono hb)
  have hl:=qkm e k
  clear hb hok
  by_cases hlt:k<m
  . have hlt':(k:Int)<m:=by omega
    obtain ⟨b,o,rfl,-,c0,c1,c2,c3,c4⟩:=u_ HV k hlt
    go_wp2_with fail
    refine (q12 (e k) _).mono ?_
    rintro r w1 ⟨rfl,hb⟩
    replace HB:=mT HB hb
    clear hb c0 c1 c2 c3 c4
    have har:=arn_le (e k)
    have HS:Hid ((stk e (k+1)).length=(stk e k).length - arn (e k)+1):=h_ (by simp [stk])
    obtain ⟨x,hx⟩:∃ x,arn (e k)=x:=⟨_,rfl⟩
    obtain ⟨y,hy⟩:∃ y,(stk e k).length=y:=⟨_,rfl⟩
    by_cases hgt:y<x
    . have hgt':(y:Int)<x:=by omega
      have HN:Hid (stB e m=false):=h_ (stB_no hlt (by rw [hx,hy];exact hgt))
      rw [hx,hy]
      clear hx hy HS
      go_wp2_with fail
      go_ret
      exact ⟨qfz (u_ HN).symm,u_ HB⟩
    . have hgt':¬ (y:Int)<x:=by omega
      have HN:Hid (stkOk e (k+1)):=h_ fun j hj=>by
       by_cases ej:j=k
       . subst ej;rw [hx,hy];omega
       . exact u_ HK j (by omega)
      rw [hx,hy] at HS ⊢;rw [hx] at har;rw [hy] at hl
      clear hx hy
      go_wp2_with fail
      go_roundw
      case rel=>exact ⟨k+1,by omega,by rw [u_ HS];go_num,by go_num,u_ HN,u_ HB⟩
      case measure=>simp [intOf];omega
  . obtain rfl:k=m:=by omega
    have HN:=h_ (qkk (u_ HK))
    obtain ⟨y,hy⟩:∃ y,(stk e k).length=y:=⟨_,rfl⟩
    rw [hy] at HN ⊢
    clear hy hl
    go_wp2_with fail
    go_ret
    exact ⟨qfz (by rw [u_ HN,Bool.eq_iff_iff];simp;omega),u_ HB⟩
theorem qdf {e:Nat->Nx} {m:Nat} (h:∀ k,k<m->(e k).v.s.size<=1000):∀ k,k<=m->txtSum e k<=1001*k:=by
 intro k
 induction k with
 | zero=>intro _;exact nR _
 | succ k ih=>intro hk;have:=ih (by omega);have:=h k (by omega);simp only [txtSum];omega
theorem q15 (a:Option Addr) (m c:Nat) (e:Nat->Nx) (w:World) (hm:m<=1000) (ha:Nods w a m e) (hs:∀ k,k<m->(e k).v.s.size<=1000) :
 Calls Tryz.prog 190 #[.slice a m c] w fun r w'=>r=.returned (.int .i64 (txtSum e m))/\Below w.heap.size w w':=by
 have HA:=h_ ha;have HT:=h_ (qdf hs);have HS:=h_ hs
 clear ha hs
 go_enter Tryz.func190,Tryz.ntmps190
 go_wp2_with fail
 go_loopw [3,4] (fun n i wr=>∃ k:Nat,k<=m/\n=.int .i64 (txtSum e k)/\i=.int .i64 k/\Below w.heap.size w wr) (fun _ i _=>m - (intOf i).toNat)
 case atStart=>exact ⟨0,nZ _,rfl,rfl,bR _ _⟩
 case round =>
  obtain ⟨k,hk,rfl,rfl,hb⟩:=hrel
  have HB:=h_ hb
  have HV:=h_ ((u_ HA).mono hb)
  have ht:=u_ HT k hk
  clear hb
  by_cases hlt:k<m
  . have hlt':(k:Int)<m:=by omega
    obtain ⟨b,o,rfl,-,c0,c1,c2,c3,c4⟩:=u_ HV k hlt
    have hsk:=u_ HS k hlt
    have HE:Hid (txtSum e (k+1)=txtSum e k+1+(e k).v.s.size):=h_ rfl
    obtain ⟨y,hy⟩:∃ y,txtSum e k=y:=⟨_,rfl⟩
    rw [hy] at HE ht ⊢
    clear hy
    go_wp2_with fail
    go_roundw
    case rel=>exact ⟨k+1,by omega,by rw [u_ HE];go_num,by go_num,u_ HB⟩
    case measure=>simp [intOf];omega
  . obtain rfl:k=m:=by omega
    go_wp2_with fail
    go_ret
    exact ⟨rfl,u_ HB⟩
def argsOf (e:Nat->Nx) (n:Nat):List Nat:=((stk e n).take (arn (e n))).reverse
theorem q73 {e:Nat->Nx} {n:Nat} (h:arn (e n)<=(stk e n).length):(argsOf e n).length=arn (e n):=by
 unfold argsOf;rw [List.length_reverse,List.length_take];omega
theorem q75 {e:Nat->Nx} {n p:Nat} (h:p ∈ argsOf e n):1<=p/\p<=n:=by
 unfold argsOf at h
 have h:=List.mem_of_mem_take (List.mem_reverse.1 h)
 obtain ⟨i,hi,rfl⟩:=List.mem_iff_getElem.1 h
 exact (qha e n i hi).2
theorem q74 (e:Nat->Nx) (n:Nat):(argsOf e n).map (top e)=((pst e n).take (arn (e n))).reverse:=by
 unfold argsOf;rw [List.map_reverse,List.map_take,<- qk3]
theorem q8a (a:Option Addr) (m c:Nat) (e:Nat->Nx) (n:Nat) (w:World) (hm:m<=1000) (ha:Nods w a m e) (h2:n+1<=m) (ho:stkOk e (n+1)) :
 Calls Tryz.prog 191 #[.slice a m c,.int .i64 ((n+1:Nat):Int)] w fun r w'=>∃ a0 c0,r=.returned (.slice a0 (arn (e n)) c0)/\Ints w' a0 (arn (e n)) (fun k=>(((argsOf e n).getD k 0:Nat):Int))/\Below w.heap.size w w':=by
 have HA:=h_ ha;have HO:=h_ ho
 have hal:=ho n (by omega)
 have har:=arn_le (e n)
 have hw0:wrap64 (((n+1:Nat):Int) - 1)=(n:Int):=by rw [q4o (by omega) (by omega)];omega
 have hnm:(n:Int)<m:=by omega
 have HB0:Hid (Below w.heap.size w (w.alloc (.cells #[] 3))):=h_ ((bR _ _).alloc (nR _) _)
 clear ha ho
 go_enter Tryz.func191,Tryz.ntmps191
 go_wp2_with fail
 go_loopw [5,6,7,8,9] (fun out at_ i _ _ wr=>∃ (k:Nat) (a0:Option Addr) (c0:Nat),k<=arn (e n)/\out=.slice a0 k c0/\Ints wr a0 k (fun j=>(((((stk e n).take k).reverse).getD j 0:Nat):Int))/\at_=.int .i64 (((stk e n).drop k).headD 0)/\i=.int .i64 k/\Below w.heap.size w wr) (fun _ _ i _ _ _=>arn (e n) - (intOf i).toNat)
 case atStart=>exact ⟨0,_,_,nZ _,rfl,fun j hj=>absurd hj (nL _),by rw [List.drop_zero,qgi],rfl,u_ HB0⟩
 case round =>
  obtain ⟨k,a0,c0,hk,rfl,hI,rfl,rfl,hb⟩:=hrel
  have HB:=h_ hb;have HI:=h_ hI
  have HV:=h_ ((u_ HA).mono hb)
  clear hb hI HB0
  obtain ⟨b,o,rfl,-,z0,z1,z2,z3,z4⟩:=u_ HV n (by omega)
  go_wp2_with fail
  refine (q12 (e n) _).mono ?_
  rintro r w1 ⟨rfl,hb⟩
  replace HB:=mT HB hb;replace HV:=h_ ((u_ HV).mono hb);replace HI:=h_ ((u_ HI).mono hb)
  clear hb z0 z1 z2 z3 z4
  by_cases hlt:k<arn (e n)
  . have hlt':(k:Int)<(arn (e n):Int):=by omega
    have hkl:k<(stk e n).length:=by omega
    rw [q7i _ _ hkl]
    obtain ⟨p,hp⟩:∃ p,(stk e n)[k]=p:=⟨_,rfl⟩
    have hae:=qha e n k hkl
    have HG:Hid (beg e p=((stk e n).drop (k+1)).headD 0):=h_ (by rw [<- hp];exact qhf e n k hkl)
    have HL:Hid (((stk e n).take (k+1)).reverse=p :: ((stk e n).take k).reverse):=h_ (by rw [List.take_succ_eq_append_getElem hkl,List.reverse_append,hp];rfl)
    have hlen:(((stk e n).take k).reverse).length=k:=by rw [List.length_reverse,List.length_take];omega
    obtain ⟨l,hl⟩:∃ l,((stk e n).take k).reverse=l:=⟨_,rfl⟩
    rw [hl] at HL HI hlen
    rw [hp] at hae ⊢
    obtain ⟨-,hp1,hpn⟩:=hae
    clear hp hl
    obtain ⟨Wo,rfl⟩:∃ Wo,Wo=w1:=⟨_,rfl⟩
    have HN0:=h_ (qfg Wo 3 (.int .i64 (p:Int)))
    have HB1:Hid (Below Wo.heap.size Wo (Wo.alloc (.cells #[.int .i64 (p:Int)] 3))):=h_ ((bR _ _).alloc (nR _) _)
    go_wp2_with fail
    go_loopw [8,9] (fun nx j w2=>∃ q:Nat,q<=k/\j=.int .i64 q/\w2.ownsRow Wo.heap.size 3 1 nx (q+1) (ui (p :: l.take q))/\Below Wo.heap.size Wo w2) (fun _ j _=>k - (intOf j).toNat)
    case atStart=>exact ⟨0,nZ _,rfl,u_ HN0,u_ HB1⟩
    case round =>
     clear HN0 HB1
     obtain ⟨q,hq,rfl,hO,hb1⟩:=hrel
     have HO1:=h_ hO;have HB1:=h_ hb1
     have HI2:=h_ ((u_ HI).mono hb1)
     clear hO hb1
     by_cases hlq:q<k
     . have hlq':(q:Int)<k:=by omega
       obtain ⟨b1,o1,rfl,-,hc⟩:=u_ HI2 q hlq
       have HX:Hid (l.take (q+1)=l.take q++[l.getD q 0]):=h_ (by rw [List.take_succ_eq_append_getElem (by omega),List.getD_eq_getElem?_getD,List.getElem?_eq_getElem (by omega)];rfl)
       obtain ⟨y,hy⟩:∃ y,l.getD q 0=y:=⟨_,rfl⟩
       simp only [hy] at hc
       rw [hy] at HX
       clear hy
       obtain ⟨i0,hi,hz0,hz1,hz2⟩:=info_parts infoI
       go_wp2_with (at_builtin;refine wpList_append_own _ rfl _ _ 84 rfl Wo.heap.size 3 i0 _ 1 8 Tryz.underlying84 hi hz0 hz1 hz2 rfl (by omega) _ _ _ rfl ((u_ HO1).alloc _) ⟨wr.heap.size,0,none⟩ 1 1 [.int .i64 (y:Int)] rfl rfl (qdt wr 3 _) (by simp [Value.oneCell']) (by unfold maxLen;omega) (by omega) (by have:=(u_ HB1).size;simp;omega) ?_)
       intro v' w3 ho' hgr' _
       have hB2:=((u_ HB1).alloc (u_ HB1).size (.cells #[.int .i64 (y:Int)] 3)).grown hgr' (by have:=(u_ HB1).size;simp;omega) (fun q' e=>q8y (u_ HO1) e)
       have HO2:Hid (w3.ownsRow Wo.heap.size 3 1 v' (q+1+1) (ui (p :: l.take (q+1)))):=h_ (by rw [u_ HX];simpa [ui] using ho')
       have HB2:=h_ hB2
       clear ho' hgr' hB2 hi hz0 hz1 hz2 HO1 HB1 hc
       go_wp2_with fail
       go_roundw
       case rel=>exact ⟨q+1,by omega,by go_num,u_ HO2,u_ HB2⟩
       case measure=>simp [intOf];omega
     . obtain rfl:q=k:=by omega
       have hI3:=u_ HO1
       rw [List.take_of_length_le (by omega)] at hI3
       obtain ⟨a1,c1,rfl,hI4⟩:=q3r hI3
       rw [<- u_ HL] at hI4
       have HI4:=h_ hI4
       have HB2:=h_ ((u_ HB).trans ((u_ HB1).mono (u_ HB).size));have HV2:=h_ ((u_ HV).mono (u_ HB1))
       clear hI3 hI4 HO1 HB1 HI2
       go_wp2_with fail
       refine (q5m _ m c e p _ hm (u_ HV2) hp1 (by omega) ((u_ HO).le (by omega))).mono ?_
       rintro r w4 ⟨rfl,hb⟩
       replace HB2:=mT HB2 hb;replace HI4:=h_ ((u_ HI4).mono hb)
       clear hb
       go_wp2_with fail
       go_roundw
       case rel=>first | exact ⟨q+1,_,_,by omega,rfl,u_ HI4,by rw [u_ HG],by go_num,u_ HB2⟩ | ((repeat apply Exists.intro);exact ⟨⟨q+1,_,_,by omega,rfl,u_ HI4,by rw [u_ HG],by go_num,u_ HB2⟩,rfl⟩)
       case measure=>simp [intOf];omega
  . obtain rfl:k=arn (e n):=by omega
    have hlt':¬ ((arn (e n):Nat):Int)<(arn (e n):Int):=by omega
    go_wp2_with fail
    go_ret
    exact ⟨_,_,rfl,u_ HI,u_ HB⟩
end Go.Proofs.YtgkcaeidhkddjaaGreatDoor
