import Derived.Test.YtebbgodlijlioaaGreatDoorW36
import Derived.Test.YtebbgodlijlioaaGreatDoorW35
set_option maxRecDepth 100000
set_option maxHeartbeats 64000000
namespace Go.Proofs.YtebbgodlijlioaaGreatDoor
open Go Go.RowKit
theorem FitS.fit {n:Nx}(h:FitS n):Fit n:=⟨Ys h.1 (by decide),Ys h.2.1 (by decide),h.2.2.2.1,h.2.2.2.2⟩
theorem qgj {l:List Nx}(h:LFit l){k:Nat}(hk:k<l.length):Fit (nf l k):=by
 have e:nf l k=l[k]:=by unfold nf;rw[Yl,Yj hk];rfl
 rw[e]
 exact(h.1 _ (Yk hk)).fit
theorem FFit.fit {nl nr:Nat}{g:Fl}(h:FFit nl nr g)(hnr:nr<=1000):FitF g:=by
 have:=h.nm;have:=h.sy;have:=h.bs.1;have:=h.is.2;have:=h.wh.2;have:=h.va.2;have:=h.mu.2
 exact⟨by omega,by omega,by omega,by omega,by omega,by omega,by omega,fun _ hk=>qgj h.is hk,fun _ hk=>qgj h.wh hk,fun _ hk=>qgj h.va hk,fun _ hk=>qgj h.mu hk⟩
theorem qdh {p:Nat->ByteArray->Prop}(h:∀i,i<=1000->∃x:ByteArray,x.size<=64/\p i x):∃nm:Nat->ByteArray,∀i,i<=1000->(nm i).size<=64/\p i (nm i) :=
 ⟨fun i=>if hi:i<=1000 then Classical.choose (h i hi) else ⟨#[]⟩,fun i hi=>by
  have e:(if hi:i<=1000 then Classical.choose (h i hi) else (⟨#[]⟩:ByteArray))=Classical.choose (h i hi):=dif_pos hi;show(if hi:i<=1000 then Classical.choose (h i hi) else (⟨#[]⟩:ByteArray)).size<=64/\p i (if hi:i<=1000 then Classical.choose (h i hi) else (⟨#[]⟩:ByteArray));rw[e];exact Classical.choose_spec (h i hi)⟩
theorem qhn {nm:Nat->ByteArray}(h:∀i,i<=1000->(nm i).size<=64):∀k,k<=999->∀x,x∈limL nm k->x.size<=64
 | 0,_,x,hx=>by obtain rfl:=Yx.1 hx;decide
 | k+1,hk,x,hx=>by
  unfold limL at hx;rw[Y9]at hx;rcases hx with hx | hx
  . exact qhn h k (by omega) x hx
  . obtain rfl:=Yx.1 hx;exact h _ (by omega)
theorem qho {nm:Nat->ByteArray}(h:∀i,i<=1000->(nm i).size<=64):∀k,k<=999->∀x,x∈limR nm k->x.nm.size<=64
 | 0,_,_,hx=>by simp[limR]at hx
 | k+1,hk,x,hx=>by
  unfold limR at hx;rw[Y9]at hx;rcases hx with hx | hx
  . exact qho h k (by omega) x hx
  . obtain rfl:=Yx.1 hx;exact h _ (by omega)
theorem qhm {nm:Nat->ByteArray}(h:∀i,i<=1000->(nm i).size<=64):∀k,k<=999->∀x,x∈(limF nm k).map (·.1)->FFit 1 0 x
 | 0,_,_,hx=>by simp[limF]at hx
 | k+1,hk,x,hx=>by
  unfold limF at hx;rw[Zf,Y9]at hx;rcases hx with hx | hx
  . exact qhm h k (by omega) x hx
  . obtain rfl:=Yx.1 hx
    exact⟨h _ (by omega),by show(1:Int)<=1/\(1:Int)<=3;omega,by show(-1:Int)<=0/\(0:Int)<((1:Nat):Int);omega,⟨nR _,fun x hx=>by simp[limG]at hx⟩,qd5,qd5,qd5,by show(⟨#[]⟩:ByteArray).size<=64;decide,qd5⟩
theorem low_in:∀x,x∈[lowS]->x.size<=9223372036854775807:=fun x hx=>by obtain rfl:=Yx.1 hx;decide
theorem qb0 (n:Nat)(h1:1<=n)(h2:n<=1000):∃J,2 ^ J<=n/\n<2 ^ J*2/\J<=9:=by
 by_cases a:n<2;· exact⟨0,by omega,by omega,by omega⟩
 by_cases a:n<4;· exact⟨1,by omega,by omega,by omega⟩
 by_cases a:n<8;· exact⟨2,by omega,by omega,by omega⟩
 by_cases a:n<16;· exact⟨3,by omega,by omega,by omega⟩
 by_cases a:n<32;· exact⟨4,by omega,by omega,by omega⟩
 by_cases a:n<64;· exact⟨5,by omega,by omega,by omega⟩
 by_cases a:n<128;· exact⟨6,by omega,by omega,by omega⟩
 by_cases a:n<256;· exact⟨7,by omega,by omega,by omega⟩
 by_cases a:n<512;· exact⟨8,by omega,by omega,by omega⟩
 exact⟨9,by omega,by omega,by omega⟩
theorem qfk (a b:ByteArray)(p:UInt8->Bool):(a++b).data.toList.all p=(a.data.toList.all p&&b.data.toList.all p):=by rw[Vm,Array.toList_append,List.all_append]
theorem rp_ok:∀j,((rp j).data.toList.all fun c=>tb c.toNat)=true
 | 0=>by decide
 | j+1=>by show((rp j++rp j).data.toList.all _)=true;rw[qfk,rp_ok j];rfl
theorem rq_ok (s:ByteArray):∀k,((rq s k).data.toList.all fun c=>tb c.toNat)=(s.data.toList.all fun c=>tb c.toNat)
 | 0=>rfl
 | k+1=>by show((rq s k++⟨#[98]⟩).data.toList.all _)=_;rw[qfk,rq_ok s k];exact Bool.and_true _
theorem q3q (n:Nat)(h1:1<=n)(h2:n<=1000):∃s:ByteArray,(s.size=n/\okText s=true)/\∀w:World,Calls Tryz.prog 100 #[J9 n] w fun e w'=>e=.returned (.string s)/\w'=w:=by
 obtain⟨J,hJ1,hJ2,hJ9⟩:∃J,2 ^ J<=n/\n<2 ^ J*2/\J<=9:=qb0 n h1 h2
 obtain⟨L,hL⟩:=Nq (2 ^ J)
 rw[hL]at hJ1 hJ2
 have hL5:L<=512:=by rw[<- hL];exact Ys (Z9 (by omega) hJ9) (by decide)
 have hL1:1<=L:=by rw[<- hL];exact Nat.pow_pos (by omega)
 have hsz:(rq (rp J) (n - L)).size=n:=by rw[qjb,qja,hL];omega
 refine⟨rq (rp J) (n - L),⟨hsz,by unfold okText;rw[hsz,rq_ok,rp_ok,Bool.and_true];exact Ym h2⟩,fun w=>?_⟩
 have hn0:(0:Int)<n:=by omega
 go_enter Tryz.func100,Tryz.ntmps100
 go_wp2_with fail
 go_loopw [3] (fun v wr=>wr=w/\(v=.string ⟨#[]⟩∨∃j,j<=J/\v=.string (rp j))) (fun v _=>2000 - szV v)
 case atStart=>exact⟨rfl,.inl rfl⟩
 case round =>
  obtain⟨rfl,rfl | ⟨j,hj,rfl⟩⟩:=hrel
  . go_wp2_with fail
    go_roundw
    case rel=>exact⟨trivial,.inr ⟨0,by omega,rfl⟩⟩
    case measure=>decide
  . have hz:=qja j
    by_cases hlt:j<J
    . have HE:Hi (rp (j+1)=rp j++rp j):=h_ rfl
      have HZ:Hi ((rp (j+1)).size=2*(rp j).size):=h_ (by rw[qja,qja];omega);have hp:(2:Nat) ^ (j+1)<=L:=(by rw[<- hL];exact Z9 (by omega) (by omega));rw[Nat.pow_succ]at hp;have hp0:0<(2:Nat) ^ j:=Nat.pow_pos (by omega);have HL:Hi (0<(rp j).size/\(rp j).size<=256/\(rp j).size*2<=n):=h_ (by omega);clear hz hp hp0;generalize rp j=t at *;have m1:(t.size:Int)*2<=n:=(by have:=HL.u;omega);have m2:(0:Int)<t.size:=(by have:=HL.u;omega);have m3:¬ (t.size:Int)=0:=(by omega);have m4:¬ t.size=0:=(by omega);have m5:t.size<=256:=HL.u.2.1;go_wp2_with fail;go_roundw
      case rel=>exact⟨trivial,.inr ⟨j+1,by omega,by rw[HE.u]⟩⟩
      case measure=>rw[<- HE.u];simp only[szV];have:=HZ.u;omega
    . obtain rfl:j=J:=by omega
      have m0:(rp j).size=L:=(by rw[hz,hL]);have HT:Hi (∀k,(rq (rp j) k).size=L+k):=h_ fun k=>by rw[qjb,m0]
      have HQ:Hi (rq (rp j) 0=rp j):=h_ rfl;have HS:Hi (∀k,rq (rp j) (k+1)=rq (rp j) k++⟨#[98]⟩):=h_ fun _=>rfl;clear hz;generalize hT:rp j=t at *;have HG:=h_ hT;clear hT;have m1:¬ (t.size:Int)*2<=n:=(by omega);have m3:¬ (t.size:Int)=0:=(by omega);have m4:¬ t.size=0:=(by omega);go_wp2_with fail;go_loopw [3] (fun v wz=>wz=wr/\∃k,k<=n - L/\v=.string (rq t k)) (fun v _=>2000 - szV v)
      case atStart=>exact⟨rfl,0,nZ _,by rw[HQ.u]⟩
      case round =>
       obtain⟨rfl,k,hk,rfl⟩:=hrel;have z1:=HT.u k;have HZ:=HT.u (k+1);have HE:=h_ (HS.u k);by_cases hk2:k<n - L
       . obtain⟨u,hu⟩:=Nq (rq t k)
         rw[hu]at z1 HE⊢;have q1:(u.size:Int)<n:=(by omega);have q2:u.size<=1000:=(by omega);rw[HE.u]at HZ;have HZ':=h_ HZ;clear HZ hu;go_wp2_with fail;go_roundw
         case rel=>exact⟨trivial,k+1,by omega,by rw[HE.u]⟩
         case measure=>simp only[szV];have:=HZ'.u;omega
       . obtain rfl:k=n - L:=by omega
         have q1:¬ ((rq t (n - L)).size:Int)<n:=(by omega);clear HE HZ;go_wp2_with fail;go_ret;exact⟨by rw[HG.u];rfl,rfl⟩
theorem q2j (w:World):Calls Tryz.prog 100 #[J9 0] w fun e w'=>e=.returned Yb/\w'=w:=by
 go_enter Tryz.func100,Tryz.ntmps100
 go_wp2_with fail
 go_loopw [3] (fun v wr=>wr=w/\v=.string ⟨#[]⟩) (fun _ _=>0)
 case atStart=>exact⟨rfl,rfl⟩
 case round =>
  obtain⟨rfl,rfl⟩:=hrel;go_wp2_with fail;go_loopw [3] (fun v wz=>wz=wr/\v=.string ⟨#[]⟩) (fun _ _=>0)
  case atStart=>exact⟨rfl,rfl⟩
  case round =>
   obtain⟨rfl,rfl⟩:=hrel;go_wp2_with fail;go_ret;exact⟨rfl,rfl⟩
end Go.Proofs.YtebbgodlijlioaaGreatDoor
