import Derived.Test.YtfmammdgehbjhaaGreatDoorW45
set_option maxRecDepth 100000
set_option maxHeartbeats 64000000
namespace Go.Proofs.YtfmammdgehbjhaaGreatDoor
open Go Go.RowKit
def mtF:Nat->Nat->ByteArray->ByteArray
 | 0,_,t=>t
 | f+1,q,t=>if q=0 then t else mtF f (q / 10) (ByteArray.empty.push (UInt8.ofNat (48+(q:Int) % 10).toNat)++t)
def mkT (k:Nat):ByteArray:=⟨#[109]⟩++mtF k k ⟨#[]⟩
theorem qcy (f:Nat)(t:ByteArray):mtF f 0 t=t:=by cases f <;> rfl
theorem q5c (k:Nat)(w:World)(h1:0<k)(hk:k<=4611686018427387904):Calls Tryz.prog 78 #[Ya k] w fun r w'=>r=.returned (.string (mkT k))/\Below w.heap.size w w':=by
 have h0':¬ (k:Int)<=0:=by omega
 have hk':(k:Int)<=4611686018427387904:=by omega
 go_enter Tryz.func78,Tryz.ntmps78
 go_wp2_with fail
 go_loopw [0,3] (fun v s wr=>∃(q:Nat) (t:ByteArray),v=Ya q/\s=.string t/\t.size+q<=4611686018427387904/\(∃f,q<=f/\mtF k k ⟨#[]⟩=mtF f q t)/\Below w.heap.size w wr) (fun v _ _=>(intOf v).toNat)
 case atStart=>exact⟨k,_,rfl,rfl,by show 0+k<=_;omega,⟨k,nR _,rfl⟩,bR _ _⟩
 case round =>
  clear h1 h0' hk' hk;obtain⟨q,t,rfl,rfl,hq,⟨f,hf,hm⟩,hb⟩:=hrel;have HB:=h_ hb;clear hb;have hts:t.size<=4611686018427387904:=by omega
  have hts':(t.size:Int)<=4611686018427387904:=by omega
  by_cases h0:q=0
  . subst h0
    have HM:Hi (mkT k=⟨#[109]⟩++t):=h_ (by unfold mkT;rw[hm,qcy]);clear hm hf;go_wp2_with fail;go_ret;rw[HM.u];exact⟨rfl,HB.u⟩
  . have h0':(0:Int)<q:=by omega
    have hq':(q:Int)<=4611686018427387904:=(by omega);obtain⟨s1,hs1⟩:=Nq (ByteArray.empty.push (UInt8.ofNat (48+(q:Int) % 10).toNat));have hz1:s1.size=1:=(by rw[<- hs1];rfl);have HM:Hi (∃f,q / 10<=f/\mtF k k ⟨#[]⟩=mtF f (q / 10) (s1++t)):=h_ (by
     obtain⟨f',rfl⟩:∃f',f=f'+1:=⟨f - 1,by omega⟩;refine⟨f',by omega,?_⟩;rw[hm,<- hs1];show(if q=0 then t else _)=_;rw[Yi h0])
    have hcv:=qbq wr (48+(q:Int) % 10);rw[hs1]at hcv;clear hs1 hm hf;have HB2:=h_ (HB.u.alloc HB.u.size (.cells #[.int .u8 (48+(q:Int) % 10)] 5));go_wp2_with fail;clear hcv;go_roundw
    case rel=>exact⟨q / 10,_,by go_num,rfl,by rw[Ym];omega,HM.u,HB2.u⟩
    case measure=>simp[intOf];omega
theorem Bk.cell_eq {w:World}{g:Nat}{t:TypeId}{n j:Nat}(h:Bk w g t n)(hj:j<n)(v:Value):(w.setCell ⟨g,j,none⟩ v).cell? ⟨g,j,none⟩=some v:=h.elim fun cs h=>by
 rw[(h.1.set j v).cell j,List.getElem?_set_self (by rw[h.2];exact hj)]
def Pre (w:World)(g:Nat)(xs:List Value):Prop:=∀p,p<xs.length->w.cell? ⟨g,p,none⟩=xs[p]?
theorem Pre.mono {w w':World}{g B:Nat}{xs:List Value}(h:Pre w g xs)(hb:Below B w w')(hg:g<B):Pre w' g xs:=fun p hp=>(hb.cell (p:=⟨g,p,none⟩) hg).trans (h p hp)
theorem Pre.set {w:World}{g:Nat}{t:TypeId}{n j:Nat}{xs:List Value}(h:Pre w g xs)(hb:Bk w g t n)(hj:xs.length=j)(hl:j<n)(v:Value):Pre (w.setCell ⟨g,j,none⟩ v) g (xs++[v]):=fun p hp=>by
 rw[Yf,Va]at hp
 by_cases e:p=j
 . subst e
   rw[hb.cell_eq hl,Zn (by omega),hj,Nat.sub_self];rfl
 . rw[hb.cell_ne (fun e'=>e e'.symm),h p (by omega),Zk (by omega)]
def msC (q:Nat):List Value:=[.string (mkT (q))]
def msL (K:Nat):Nat->List Value
 | 0=>[]
 | i+1=>msL K i++msC (K+i*1)
theorem qhs (K n:Nat):(msL K n).length=n*1:=by
 induction n with
 | zero=>rfl
 | succ n ih=>show(msL K n++msC _).length=_;rw[Yf,ih];show _+1=_;omega
theorem qhr {K n i p:Nat}(hi:i<n)(hp:p<1):(msL K n)[i*1+p]? = (msC (K+i*1))[p]?:=by
 induction n with
 | zero=>omega
 | succ n ih =>
  show(msL K n++msC _)[_]? = _;by_cases h:i<n
  . rw[Zk (by rw[qhs];omega),ih h]
  . obtain rfl:i=n:=by omega
    rw[Zn (by rw[qhs];omega),qhs,show i*1+p - i*1=p by omega]
theorem q1z (a:Option Addr)(K g n N c lo hi:Nat)(w:World)(hK:0<K)(hK2:K<=1152921504606846976)(hn:n<=2000000)(hN:n*1<=N)(hl:lo<=g)(hh:g<hi)(ho:0<n->a=some ⟨g,0,none⟩/\Bk w g 9 N) :
 Calls Tryz.prog 29 (J7 a n c (K:Nat)) w fun r w'=>r=.returned (Ya ((K+n*1:Nat):Int))/\(0<n->Pre w' g (msL K n))/\MkL lo hi w w':=by
 have HBk:=h_ ho
 clear ho
 go_enter Tryz.func29,Tryz.ntmps29
 go_wp2_with fail
 go_loopw [1,5] (fun q v wr=>∃i:Nat,i<=n/\v=Ya i/\q=Ya ((K+i*1:Nat):Int)/\(0<n->Pre wr g (msL K i))/\MkL lo hi w wr) (fun _ v _=>n - (intOf v).toNat)
 case atStart=>exact⟨0,nZ _,rfl,by simp,fun _ p hp=>absurd hp (nL _),MkL.refl _ _ _⟩
 case round =>
  obtain⟨i,hi',rfl,rfl,hp,hm⟩:=hrel;have HM:=h_ hm;have HP:=h_ hp;clear hp;by_cases hlt:i<n
  . have hlt':(i:Int)<n:=by omega
    have HBr:=h_ (hm.bk _ _ _ (HBk.u (by omega)).2);obtain rfl:=(HBk.u (by omega)).1;have HPr:=h_ (HP.u (by omega));obtain⟨q,hq⟩:=Nq (K+i*1);have hq':(q:Int)+7<4611686018427387904:=(by omega);have hq1:0<q:=(by omega);have hln:=qhs K i;have HNx:Hi (msL K (i+1)=msL K i++msC q):=h_ (by show msL K i++msC (K+i*1)=_;rw[hq]);rw[hq];clear hm;go_wp2_with fail;have HT:=h_ (q5c (q) wr (by omega) (by omega));refine HT.u.mono ?_;rintro e X0 ⟨rfl,hb⟩;obtain⟨s0,hs⟩:∃s,mkT (q)=s:=⟨_,rfl⟩;rw[hs];have HS0:=h_ hs;replace HPr:=h_ (HPr.u.mono hb HBr.u.lt);replace HBr:=h_ (HBr.u.mono hb HBr.u.lt);replace HM:=h_ (HM.u.trans (MkL.below hb));clear hb hs HT;obtain⟨u0,c0⟩:=HBr.u.cell (show i<N by omega);have f0:=HBr.u.free (i);replace HM:=h_ (HM.u.trans (MkL.set (i) (.string s0) hl hh));replace HPr:=h_ (HPr.u.set HBr.u (j:=i) (by simp[hln]) (by omega) (.string s0));replace HBr:=h_ (HBr.u.set (i) (.string s0));have HPe:Hi (Pre _ g (msL K (i+1))):=h_ (by
     have h:=HPr.u;rw[HNx.u];unfold msC;rw[HS0.u];simpa using h)
    go_wp2_with fail;go_roundw
    case rel=>first | exact⟨i+1,by omega,by go_num,by rw[show K+(i+1)*1=q+1 by omega];go_num,fun _=>HPe.u,HM.u⟩ | ((repeat apply Exists.intro);exact⟨⟨i+1,by omega,by go_num,by rw[show K+(i+1)*1=q+1 by omega];go_num,fun _=>HPe.u,HM.u⟩,rfl⟩)
    case measure=>simp[intOf];omega
  . obtain rfl:i=n:=by omega
    have hlt':¬ (i:Int)<(i:Int):=(by omega);obtain⟨q,hq⟩:=Nq (K+i*1);rw[hq];clear hm;go_wp2_with fail;go_ret;exact⟨by rw[show(K:Int)+i=(q:Int) by omega];rfl,HP.u,HM.u⟩
def miC (q:Nat):List Value:=[.int .i64 ((q:Int))]
def miL (K:Nat):Nat->List Value
 | 0=>[]
 | i+1=>miL K i++miC (K+i*1)
theorem qhg (K n:Nat):(miL K n).length=n*1:=by
 induction n with
 | zero=>rfl
 | succ n ih=>show(miL K n++miC _).length=_;rw[Yf,ih];show _+1=_;omega
theorem qhf {K n i p:Nat}(hi:i<n)(hp:p<1):(miL K n)[i*1+p]? = (miC (K+i*1))[p]?:=by
 induction n with
 | zero=>omega
 | succ n ih =>
  show(miL K n++miC _)[_]? = _;by_cases h:i<n
  . rw[Zk (by rw[qhg];omega),ih h]
  . obtain rfl:i=n:=by omega
    rw[Zn (by rw[qhg];omega),qhg,show i*1+p - i*1=p by omega]
theorem q5b (a:Option Addr)(K g n N c lo hi:Nat)(w:World)(hK:0<K)(hK2:K<=1152921504606846976)(hn:n<=2000000)(hN:n*1<=N)(hl:lo<=g)(hh:g<hi)(ho:0<n->a=some ⟨g,0,none⟩/\Bk w g 3 N) :
 Calls Tryz.prog 79 (J7 a n c (K:Nat)) w fun r w'=>r=.returned (Ya ((K+n*1:Nat):Int))/\(0<n->Pre w' g (miL K n))/\MkL lo hi w w':=by
 have HBk:=h_ ho
 clear ho
 go_enter Tryz.func79,Tryz.ntmps79
 go_wp2_with fail
 go_loopw [1,5] (fun q v wr=>∃i:Nat,i<=n/\v=Ya i/\q=Ya ((K+i*1:Nat):Int)/\(0<n->Pre wr g (miL K i))/\MkL lo hi w wr) (fun _ v _=>n - (intOf v).toNat)
 case atStart=>exact⟨0,nZ _,rfl,by simp,fun _ p hp=>absurd hp (nL _),MkL.refl _ _ _⟩
 case round =>
  obtain⟨i,hi',rfl,rfl,hp,hm⟩:=hrel;have HM:=h_ hm;have HP:=h_ hp;clear hp;by_cases hlt:i<n
  . have hlt':(i:Int)<n:=by omega
    have HBr:=h_ (hm.bk _ _ _ (HBk.u (by omega)).2);obtain rfl:=(HBk.u (by omega)).1;have HPr:=h_ (HP.u (by omega));obtain⟨q,hq⟩:=Nq (K+i*1);have hq':(q:Int)+7<4611686018427387904:=(by omega);have hq1:0<q:=(by omega);have hln:=qhg K i;have HNx:Hi (miL K (i+1)=miL K i++miC q):=h_ (by show miL K i++miC (K+i*1)=_;rw[hq]);rw[hq];clear hm;obtain⟨u0,c0⟩:=HBr.u.cell (show i<N by omega);have f0:=HBr.u.free (i);replace HM:=h_ (HM.u.trans (MkL.set (i) (Ya ((q:Int))) hl hh));replace HPr:=h_ (HPr.u.set HBr.u (j:=i) (by simp[hln]) (by omega) (Ya ((q:Int))));replace HBr:=h_ (HBr.u.set (i) (Ya ((q:Int))));have HPe:Hi (Pre _ g (miL K (i+1))):=h_ (by
     have h:=HPr.u;rw[HNx.u];unfold miC;simpa using h)
    go_wp2_with fail;go_roundw
    case rel=>first | exact⟨i+1,by omega,by go_num,by rw[show K+(i+1)*1=q+1 by omega];go_num,fun _=>HPe.u,HM.u⟩ | ((repeat apply Exists.intro);exact⟨⟨i+1,by omega,by go_num,by rw[show K+(i+1)*1=q+1 by omega];go_num,fun _=>HPe.u,HM.u⟩,rfl⟩)
    case measure=>simp[intOf];omega
  . obtain rfl:i=n:=by omega
    have hlt':¬ (i:Int)<(i:Int):=(by omega);obtain⟨q,hq⟩:=Nq (K+i*1);rw[hq];clear hm;go_wp2_with fail;go_ret;exact⟨by rw[show(K:Int)+i=(q:Int) by omega];rfl,HP.u,HM.u⟩
def mpC (q:Nat):List Value:=[.int .i64 ((q:Int)),.int .i64 ((q:Int)+1)]
def mpL (K:Nat):Nat->List Value
 | 0=>[]
 | i+1=>mpL K i++mpC (K+i*2)
theorem qhn (K n:Nat):(mpL K n).length=n*2:=by
 induction n with
 | zero=>rfl
 | succ n ih=>show(mpL K n++mpC _).length=_;rw[Yf,ih];show _+2=_;omega
theorem qhm {K n i p:Nat}(hi:i<n)(hp:p<2):(mpL K n)[i*2+p]? = (mpC (K+i*2))[p]?:=by
 induction n with
 | zero=>omega
 | succ n ih =>
  show(mpL K n++mpC _)[_]? = _;by_cases h:i<n
  . rw[Zk (by rw[qhn];omega),ih h]
  . obtain rfl:i=n:=by omega
    rw[Zn (by rw[qhn];omega),qhn,show i*2+p - i*2=p by omega]
theorem q3g (a:Option Addr)(K g n N c lo hi:Nat)(w:World)(hK:0<K)(hK2:K<=1152921504606846976)(hn:n<=2000000)(hN:n*2<=N)(hl:lo<=g)(hh:g<hi)(ho:0<n->a=some ⟨g,0,none⟩/\Bk w g 84 N) :
 Calls Tryz.prog 30 (J7 a n c (K:Nat)) w fun r w'=>r=.returned (Ya ((K+n*2:Nat):Int))/\(0<n->Pre w' g (mpL K n))/\MkL lo hi w w':=by
 have HBk:=h_ ho
 clear ho
 go_enter Tryz.func30,Tryz.ntmps30
 go_wp2_with fail
 go_loopw [1,5] (fun q v wr=>∃i:Nat,i<=n/\v=Ya i/\q=Ya ((K+i*2:Nat):Int)/\(0<n->Pre wr g (mpL K i))/\MkL lo hi w wr) (fun _ v _=>n - (intOf v).toNat)
 case atStart=>exact⟨0,nZ _,rfl,by simp,fun _ p hp=>absurd hp (nL _),MkL.refl _ _ _⟩
 case round =>
  obtain⟨i,hi',rfl,rfl,hp,hm⟩:=hrel;have HM:=h_ hm;have HP:=h_ hp;clear hp;by_cases hlt:i<n
  . have hlt':(i:Int)<n:=by omega
    have HBr:=h_ (hm.bk _ _ _ (HBk.u (by omega)).2);obtain rfl:=(HBk.u (by omega)).1;have HPr:=h_ (HP.u (by omega));obtain⟨q,hq⟩:=Nq (K+i*2);have hq':(q:Int)+7<4611686018427387904:=(by omega);have hq1:0<q:=(by omega);have hln:=qhn K i;have HNx:Hi (mpL K (i+1)=mpL K i++mpC q):=h_ (by show mpL K i++mpC (K+i*2)=_;rw[hq]);rw[hq];clear hm;obtain⟨u0,c0⟩:=HBr.u.cell (show i*2<N by omega);have f0:=HBr.u.free (i*2);obtain⟨u1,c1⟩:=HBr.u.cell (show i*2+1<N by omega);have f1:=HBr.u.free (i*2+1);replace HM:=h_ (((HM.u.trans (MkL.set (i*2) (Ya ((q:Int))) hl hh))).trans (MkL.set (i*2+1) (Ya ((q:Int)+1)) hl hh));replace HPr:=h_ (((HPr.u.set HBr.u (j:=i*2) (by simp[hln]) (by omega) (Ya ((q:Int))))).set ((HBr.u.set (i*2) (Ya ((q:Int))))) (j:=i*2+1) (by simp[hln]) (by omega) (Ya ((q:Int)+1)));replace HBr:=h_ (((HBr.u.set (i*2) (Ya ((q:Int))))).set (i*2+1) (Ya ((q:Int)+1)));have HPe:Hi (Pre _ g (mpL K (i+1))):=h_ (by
     have h:=HPr.u;rw[HNx.u];unfold mpC;simpa using h)
    go_wp2_with fail;go_roundw
    case rel=>first | exact⟨i+1,by omega,by go_num,by rw[show K+(i+1)*2=q+2 by omega];go_num,fun _=>HPe.u,HM.u⟩ | ((repeat apply Exists.intro);exact⟨⟨i+1,by omega,by go_num,by rw[show K+(i+1)*2=q+2 by omega];go_num,fun _=>HPe.u,HM.u⟩,rfl⟩)
    case measure=>simp[intOf];omega
  . obtain rfl:i=n:=by omega
    have hlt':¬ (i:Int)<(i:Int):=(by omega);obtain⟨q,hq⟩:=Nq (K+i*2);rw[hq];clear hm;go_wp2_with fail;go_ret;exact⟨rfl,HP.u,HM.u⟩
def mrC (q:Nat):List Value:=[.string (mkT (q)),.int .i64 ((q:Int)+1)]
def mrL (K:Nat):Nat->List Value
 | 0=>[]
 | i+1=>mrL K i++mrC (K+i*2)
theorem qhq (K n:Nat):(mrL K n).length=n*2:=by
 induction n with
 | zero=>rfl
 | succ n ih=>show(mrL K n++mrC _).length=_;rw[Yf,ih];show _+2=_;omega
theorem qhp {K n i p:Nat}(hi:i<n)(hp:p<2):(mrL K n)[i*2+p]? = (mrC (K+i*2))[p]?:=by
 induction n with
 | zero=>omega
 | succ n ih =>
  show(mrL K n++mrC _)[_]? = _;by_cases h:i<n
  . rw[Zk (by rw[qhq];omega),ih h]
  . obtain rfl:i=n:=by omega
    rw[Zn (by rw[qhq];omega),qhq,show i*2+p - i*2=p by omega]
theorem q3h (a:Option Addr)(K g n N c lo hi:Nat)(w:World)(hK:0<K)(hK2:K<=1152921504606846976)(hn:n<=2000000)(hN:n*2<=N)(hl:lo<=g)(hh:g<hi)(ho:0<n->a=some ⟨g,0,none⟩/\Bk w g 86 N) :
 Calls Tryz.prog 31 (J7 a n c (K:Nat)) w fun r w'=>r=.returned (Ya ((K+n*2:Nat):Int))/\(0<n->Pre w' g (mrL K n))/\MkL lo hi w w':=by
 have HBk:=h_ ho
 clear ho
 go_enter Tryz.func31,Tryz.ntmps31
 go_wp2_with fail
 go_loopw [1,5] (fun q v wr=>∃i:Nat,i<=n/\v=Ya i/\q=Ya ((K+i*2:Nat):Int)/\(0<n->Pre wr g (mrL K i))/\MkL lo hi w wr) (fun _ v _=>n - (intOf v).toNat)
 case atStart=>exact⟨0,nZ _,rfl,by simp,fun _ p hp=>absurd hp (nL _),MkL.refl _ _ _⟩
 case round =>
  obtain⟨i,hi',rfl,rfl,hp,hm⟩:=hrel;have HM:=h_ hm;have HP:=h_ hp;clear hp;by_cases hlt:i<n
  . have hlt':(i:Int)<n:=by omega
    have HBr:=h_ (hm.bk _ _ _ (HBk.u (by omega)).2);obtain rfl:=(HBk.u (by omega)).1;have HPr:=h_ (HP.u (by omega));obtain⟨q,hq⟩:=Nq (K+i*2);have hq':(q:Int)+7<4611686018427387904:=(by omega);have hq1:0<q:=(by omega);have hln:=qhq K i;have HNx:Hi (mrL K (i+1)=mrL K i++mrC q):=h_ (by show mrL K i++mrC (K+i*2)=_;rw[hq]);rw[hq];clear hm;go_wp2_with fail;have HT:=h_ (q5c (q) wr (by omega) (by omega));refine HT.u.mono ?_;rintro e X0 ⟨rfl,hb⟩;obtain⟨s0,hs⟩:∃s,mkT (q)=s:=⟨_,rfl⟩;rw[hs];have HS0:=h_ hs;replace HPr:=h_ (HPr.u.mono hb HBr.u.lt);replace HBr:=h_ (HBr.u.mono hb HBr.u.lt);replace HM:=h_ (HM.u.trans (MkL.below hb));clear hb hs HT;obtain⟨u0,c0⟩:=HBr.u.cell (show i*2<N by omega);have f0:=HBr.u.free (i*2);obtain⟨u1,c1⟩:=HBr.u.cell (show i*2+1<N by omega);have f1:=HBr.u.free (i*2+1);replace HM:=h_ (((HM.u.trans (MkL.set (i*2) (.string s0) hl hh))).trans (MkL.set (i*2+1) (Ya ((q:Int)+1)) hl hh));replace HPr:=h_ (((HPr.u.set HBr.u (j:=i*2) (by simp[hln]) (by omega) (.string s0))).set ((HBr.u.set (i*2) (.string s0))) (j:=i*2+1) (by simp[hln]) (by omega) (Ya ((q:Int)+1)));replace HBr:=h_ (((HBr.u.set (i*2) (.string s0))).set (i*2+1) (Ya ((q:Int)+1)));have HPe:Hi (Pre _ g (mrL K (i+1))):=h_ (by
     have h:=HPr.u;rw[HNx.u];unfold mrC;rw[HS0.u];simpa using h)
    go_wp2_with fail;go_roundw
    case rel=>first | exact⟨i+1,by omega,by go_num,by rw[show K+(i+1)*2=q+2 by omega];go_num,fun _=>HPe.u,HM.u⟩ | ((repeat apply Exists.intro);exact⟨⟨i+1,by omega,by go_num,by rw[show K+(i+1)*2=q+2 by omega];go_num,fun _=>HPe.u,HM.u⟩,rfl⟩)
    case measure=>simp[intOf];omega
  . obtain rfl:i=n:=by omega
    have hlt':¬ (i:Int)<(i:Int):=(by omega);obtain⟨q,hq⟩:=Nq (K+i*2);rw[hq];clear hm;go_wp2_with fail;go_ret;exact⟨rfl,HP.u,HM.u⟩
def mnC (q:Nat):List Value:=[.int .i64 ((q:Int)),.int .i64 ((q:Int)+1),.int .i64 ((q:Int)+1+1),.string (mkT (q+1+1+1)),.string (mkT (q+1+1+1+1))]
def mnL (K:Nat):Nat->List Value
 | 0=>[]
 | i+1=>mnL K i++mnC (K+i*5)
theorem qhj (K n:Nat):(mnL K n).length=n*5:=by
 induction n with
 | zero=>rfl
 | succ n ih=>show(mnL K n++mnC _).length=_;rw[Yf,ih];show _+5=_;omega
theorem qhi {K n i p:Nat}(hi:i<n)(hp:p<5):(mnL K n)[i*5+p]? = (mnC (K+i*5))[p]?:=by
 induction n with
 | zero=>omega
 | succ n ih =>
  show(mnL K n++mnC _)[_]? = _;by_cases h:i<n
  . rw[Zk (by rw[qhj];omega),ih h]
  . obtain rfl:i=n:=by omega
    rw[Zn (by rw[qhj];omega),qhj,show i*5+p - i*5=p by omega]
theorem q3f (a:Option Addr)(K g n N c lo hi:Nat)(w:World)(hK:0<K)(hK2:K<=1152921504606846976)(hn:n<=2000000)(hN:n*5<=N)(hl:lo<=g)(hh:g<hi)(ho:0<n->a=some ⟨g,0,none⟩/\Bk w g 133 N) :
 Calls Tryz.prog 80 (J7 a n c (K:Nat)) w fun r w'=>r=.returned (Ya ((K+n*5:Nat):Int))/\(0<n->Pre w' g (mnL K n))/\MkL lo hi w w':=by
 have HBk:=h_ ho
 clear ho
 go_enter Tryz.func80,Tryz.ntmps80
 go_wp2_with fail
 go_loopw [1,5] (fun q v wr=>∃i:Nat,i<=n/\v=Ya i/\q=Ya ((K+i*5:Nat):Int)/\(0<n->Pre wr g (mnL K i))/\MkL lo hi w wr) (fun _ v _=>n - (intOf v).toNat)
 case atStart=>exact⟨0,nZ _,rfl,by simp,fun _ p hp=>absurd hp (nL _),MkL.refl _ _ _⟩
 case round =>
  obtain⟨i,hi',rfl,rfl,hp,hm⟩:=hrel;have HM:=h_ hm;have HP:=h_ hp;clear hp;by_cases hlt:i<n
  . have hlt':(i:Int)<n:=by omega
    have HBr:=h_ (hm.bk _ _ _ (HBk.u (by omega)).2);obtain rfl:=(HBk.u (by omega)).1;have HPr:=h_ (HP.u (by omega));obtain⟨q,hq⟩:=Nq (K+i*5);have hq':(q:Int)+7<4611686018427387904:=(by omega);have hq1:0<q:=(by omega);have hln:=qhj K i;have HNx:Hi (mnL K (i+1)=mnL K i++mnC q):=h_ (by show mnL K i++mnC (K+i*5)=_;rw[hq]);rw[hq];clear hm;obtain⟨u0,c0⟩:=HBr.u.cell (show i*5<N by omega);have f0:=HBr.u.free (i*5);obtain⟨u1,c1⟩:=HBr.u.cell (show i*5+1<N by omega);have f1:=HBr.u.free (i*5+1);obtain⟨u2,c2⟩:=HBr.u.cell (show i*5+2<N by omega);have f2:=HBr.u.free (i*5+2);replace HM:=h_ (((((HM.u.trans (MkL.set (i*5) (Ya ((q:Int))) hl hh))).trans (MkL.set (i*5+1) (Ya ((q:Int)+1)) hl hh))).trans (MkL.set (i*5+2) (Ya ((q:Int)+1+1)) hl hh));replace HPr:=h_ (((((HPr.u.set HBr.u (j:=i*5) (by simp[hln]) (by omega) (Ya ((q:Int))))).set ((HBr.u.set (i*5) (Ya ((q:Int))))) (j:=i*5+1) (by simp[hln]) (by omega) (Ya ((q:Int)+1)))).set ((((HBr.u.set (i*5) (Ya ((q:Int))))).set (i*5+1) (Ya ((q:Int)+1)))) (j:=i*5+2) (by simp[hln]) (by omega) (Ya ((q:Int)+1+1)));replace HBr:=h_ (((((HBr.u.set (i*5) (Ya ((q:Int))))).set (i*5+1) (Ya ((q:Int)+1)))).set (i*5+2) (Ya ((q:Int)+1+1)));go_wp2_with fail;obtain⟨W3,hW3⟩:∃W,(((wr).setCell ⟨g,i*5,none⟩ (Ya ((q:Int)))).setCell ⟨g,i*5+1,none⟩ (Ya ((q:Int)+1))).setCell ⟨g,i*5+2,none⟩ (Ya ((q:Int)+1+1))=W:=⟨_,rfl⟩;rw[hW3]at HM HBr HPr⊢;clear hW3 c0 f0 c1 f1 c2 f2;have HT:=h_ (q5c (q+1+1+1) W3 (by omega) (by omega));simp only[V9,Vh]at HT;refine HT.u.mono ?_;rintro e X3 ⟨rfl,hb⟩;obtain⟨s3,hs⟩:∃s,mkT (q+1+1+1)=s:=⟨_,rfl⟩;rw[hs];have HS3:=h_ hs;replace HPr:=h_ (HPr.u.mono hb HBr.u.lt);replace HBr:=h_ (HBr.u.mono hb HBr.u.lt);replace HM:=h_ (HM.u.trans (MkL.below hb));clear hb hs HT;obtain⟨u3,c3⟩:=HBr.u.cell (show i*5+3<N by omega);have f3:=HBr.u.free (i*5+3);replace HM:=h_ (HM.u.trans (MkL.set (i*5+3) (.string s3) hl hh));replace HPr:=h_ (HPr.u.set HBr.u (j:=i*5+3) (by simp[hln]) (by omega) (.string s3));replace HBr:=h_ (HBr.u.set (i*5+3) (.string s3));go_wp2_with fail;obtain⟨W4,hW4⟩:∃W,(X3).setCell ⟨g,i*5+3,none⟩ (.string s3)=W:=⟨_,rfl⟩;rw[hW4]at HM HBr HPr⊢;clear hW4 c3 f3;have HT:=h_ (q5c (q+1+1+1+1) W4 (by omega) (by omega));simp only[V9,Vh]at HT;refine HT.u.mono ?_;rintro e X4 ⟨rfl,hb⟩;obtain⟨s4,hs⟩:∃s,mkT (q+1+1+1+1)=s:=⟨_,rfl⟩;rw[hs];have HS4:=h_ hs;replace HPr:=h_ (HPr.u.mono hb HBr.u.lt);replace HBr:=h_ (HBr.u.mono hb HBr.u.lt);replace HM:=h_ (HM.u.trans (MkL.below hb));clear hb hs HT;obtain⟨u4,c4⟩:=HBr.u.cell (show i*5+4<N by omega);have f4:=HBr.u.free (i*5+4);replace HM:=h_ (HM.u.trans (MkL.set (i*5+4) (.string s4) hl hh));replace HPr:=h_ (HPr.u.set HBr.u (j:=i*5+4) (by simp[hln]) (by omega) (.string s4));replace HBr:=h_ (HBr.u.set (i*5+4) (.string s4));have HPe:Hi (Pre _ g (mnL K (i+1))):=h_ (by
     have h:=HPr.u;rw[HNx.u];unfold mnC;rw[HS3.u];rw[HS4.u];simpa using h)
    go_wp2_with fail;go_roundw
    case rel=>first | exact⟨i+1,by omega,by go_num,by rw[show K+(i+1)*5=q+5 by omega];go_num,fun _=>HPe.u,HM.u⟩ | ((repeat apply Exists.intro);exact⟨⟨i+1,by omega,by go_num,by rw[show K+(i+1)*5=q+5 by omega];go_num,fun _=>HPe.u,HM.u⟩,rfl⟩)
    case measure=>simp[intOf];omega
  . obtain rfl:i=n:=by omega
    have hlt':¬ (i:Int)<(i:Int):=(by omega);obtain⟨q,hq⟩:=Nq (K+i*5);rw[hq];clear hm;go_wp2_with fail;go_ret;exact⟨rfl,HP.u,HM.u⟩
theorem q1f (a:Option Addr)(K g n c:Nat)(w:World)(hK:0<K)(hK2:K<=1152921504606846976)(hn:n<=2000000)(ho:0<n->a=some ⟨g,0,none⟩/\g<w.heap.size/\Pre w g (msL K n)) :
 Calls Tryz.prog 33 (J7 a n c (K:Nat)) w fun r w'=>r=.returned (Ya ((K+n*1:Nat):Int))/\Below w.heap.size w w':=by
 have HO:=h_ ho
 clear ho
 go_enter Tryz.func33,Tryz.ntmps33
 go_wp2_with fail
 go_loopw [1,5] (fun q v wr=>∃(i:Nat),i<=n/\v=Ya i/\q=Ya ((K+i*1:Nat):Int)/\Below w.heap.size w wr) (fun _ v _=>n - (intOf v).toNat)
 case atStart=>exact⟨0,nZ _,rfl,by simp,bR _ _⟩
 case round =>
  obtain⟨i,hil,rfl,rfl,hb⟩:=hrel;have HB0:=h_ hb;by_cases hlt:i<n
  . have hlt':(i:Int)<n:=by omega
    obtain⟨rfl,hg,hp⟩:=HO.u (by omega);obtain⟨q,hq⟩:=Nq (K+i*1);have hq':(q:Int)+7<4611686018427387904:=(by omega);have hq1:0<q:=(by omega);have HC:Hi (∀W,Below w.heap.size w W->∀p,p<1->W.cell? ⟨g,i*1+p,none⟩=(msC q)[p]?):=h_ fun W h p hp7=>by
     rw[<- hq,<- qhr hlt hp7];exact(hp.mono h hg) (i*1+p) (by rw[qhs];omega)
    have HQ:=h_ hq;rw[hq];clear hp hq;clear hb;have cs:wr.drew.cell? ⟨g,i,none⟩=some (.string (mkT (q))):=(by have h:=HC.u wr HB0.u 0 (by omega);rw[Nat.mul_one,Zq]at h;exact h);have HT1:=h_ (q5c (q) wr.drew (by omega) (by omega))
    try simp only[V9,Vh]at HT1
    obtain⟨st,hst⟩:=Nq (mkT (q));rw[hst]at HT1 cs;go_wp2_with fail;refine wp_region_held_drew (S:=fun w'=>w'.cell? ⟨g,i,none⟩=some (Value.string st)) (by kernel_rfl) cs (fun zz=>?_);refine tj 0 12 (.slice (some ⟨g,0,none⟩) n c) zz ?_;refine tj 1 13 (Ya i) zz ?_;refine tj 2 14 (Yd g i) zz ?_;refine tj 3 15 (.string st) zz ?_ (hy:=fun w hS=>by simp[execOp,go_sem,hS]);simp only[sX,sY,sZ];refine tj 4 16 (Ya ((q:Int))) zz ?_;simp only[sX,sY,sZ];refine callY (i:=5) (f:=78) (args:=#[Ya ((q:Int))]) (R:=fun v wz=>v=.string st/\Below wr.heap.size wr wz) 17 rfl rfl (by rfl) (by kernel_rfl) (by simp[execOp,go_sem]) (HT1.u.mono fun e w6 ⟨he,hb⟩=>⟨_,he,rfl,q23 hb⟩) ?_;rintro v V1 ⟨rfl,hb2⟩;have HB1:=mT HB0 hb2;clear hb2 cs HT1;have cs:V1.cell? ⟨g,i,none⟩=some (.string st):=(by(rw[<- hst];have h:=HC.u V1 HB1.u 0 (by omega);rw[Nat.mul_one,Zq]at h;exact h));refine⟨cs,?_⟩;replace zz:=cs;simp only[sX,sY,sZ];refine tj 6 18 (.bool false) zz ?_ (hy:=fun w hS=>by simp[execOp,go_sem]);simp only[sX,sY,sZ];refine wpAnyH_done (by kernel_rfl) ?_ _;clear zz cs hst;go_wp2_with fail;go_roundw
    case rel=>first | exact⟨i+1,by omega,by go_num,by rw[show K+(i+1)*1=q+1 by have:=HQ.u;omega];go_num,HB1.u⟩ | ((repeat apply Exists.intro);exact⟨⟨i+1,by omega,by go_num,by rw[show K+(i+1)*1=q+1 by have:=HQ.u;omega];go_num,HB1.u⟩,rfl⟩)
    case measure=>simp[intOf];omega
  . obtain rfl:i=n:=by omega
    have hlt':¬ (i:Int)<(i:Int):=(by omega);obtain⟨q,hq⟩:=Nq (K+i*1);rw[hq];clear hb;go_wp2_with fail;go_ret;exact⟨by first | rfl | (rw[show(K:Int)+i=(q:Int) by omega];rfl),HB0.u⟩
theorem q4p (a:Option Addr)(K g n c:Nat)(w:World)(hK:0<K)(hK2:K<=1152921504606846976)(hn:n<=2000000)(ho:0<n->a=some ⟨g,0,none⟩/\g<w.heap.size/\Pre w g (miL K n)) :
 Calls Tryz.prog 81 (J7 a n c (K:Nat)) w fun r w'=>r=.returned (Ya ((K+n*1:Nat):Int))/\Below w.heap.size w w':=by
 have HO:=h_ ho
 clear ho
 go_enter Tryz.func81,Tryz.ntmps81
 go_wp2_with fail
 go_loopw [1,5] (fun q v wr=>∃(i:Nat),i<=n/\v=Ya i/\q=Ya ((K+i*1:Nat):Int)/\Below w.heap.size w wr) (fun _ v _=>n - (intOf v).toNat)
 case atStart=>exact⟨0,nZ _,rfl,by simp,bR _ _⟩
 case round =>
  obtain⟨i,hil,rfl,rfl,hb⟩:=hrel;have HB0:=h_ hb;by_cases hlt:i<n
  . have hlt':(i:Int)<n:=by omega
    obtain⟨rfl,hg,hp⟩:=HO.u (by omega);obtain⟨q,hq⟩:=Nq (K+i*1);have hq':(q:Int)+7<4611686018427387904:=(by omega);have hq1:0<q:=(by omega);have HC:Hi (∀W,Below w.heap.size w W->∀p,p<1->W.cell? ⟨g,i*1+p,none⟩=(miC q)[p]?):=h_ fun W h p hp7=>by
     rw[<- hq,<- qhf hlt hp7];exact(hp.mono h hg) (i*1+p) (by rw[qhg];omega)
    have HQ:=h_ hq;rw[hq];clear hp hq;clear hb;have c0:wr.cell? ⟨g,i,none⟩=some (Ya ((q:Int))):=(by have h:=HC.u wr HB0.u 0 (by omega);rw[Nat.mul_one,Zq]at h;exact h);go_wp2_with fail;go_roundw
    case rel=>first | exact⟨i+1,by omega,by go_num,by rw[show K+(i+1)*1=q+1 by have:=HQ.u;omega];go_num,HB0.u⟩ | ((repeat apply Exists.intro);exact⟨⟨i+1,by omega,by go_num,by rw[show K+(i+1)*1=q+1 by have:=HQ.u;omega];go_num,HB0.u⟩,rfl⟩)
    case measure=>simp[intOf];omega
  . obtain rfl:i=n:=by omega
    have hlt':¬ (i:Int)<(i:Int):=(by omega);obtain⟨q,hq⟩:=Nq (K+i*1);rw[hq];clear hb;go_wp2_with fail;go_ret;exact⟨by first | rfl | (rw[show(K:Int)+i=(q:Int) by omega];rfl),HB0.u⟩
theorem q2x (a:Option Addr)(K g n c:Nat)(w:World)(hK:0<K)(hK2:K<=1152921504606846976)(hn:n<=2000000)(ho:0<n->a=some ⟨g,0,none⟩/\g<w.heap.size/\Pre w g (mpL K n)) :
 Calls Tryz.prog 34 (J7 a n c (K:Nat)) w fun r w'=>r=.returned (Ya ((K+n*2:Nat):Int))/\Below w.heap.size w w':=by
 have HO:=h_ ho
 clear ho
 go_enter Tryz.func34,Tryz.ntmps34
 go_wp2_with fail
 go_loopw [1,5] (fun q v wr=>∃(i:Nat),i<=n/\v=Ya i/\q=Ya ((K+i*2:Nat):Int)/\Below w.heap.size w wr) (fun _ v _=>n - (intOf v).toNat)
 case atStart=>exact⟨0,nZ _,rfl,by simp,bR _ _⟩
 case round =>
  obtain⟨i,hil,rfl,rfl,hb⟩:=hrel;have HB0:=h_ hb;by_cases hlt:i<n
  . have hlt':(i:Int)<n:=by omega
    obtain⟨rfl,hg,hp⟩:=HO.u (by omega);obtain⟨q,hq⟩:=Nq (K+i*2);have hq':(q:Int)+7<4611686018427387904:=(by omega);have hq1:0<q:=(by omega);have HC:Hi (∀W,Below w.heap.size w W->∀p,p<2->W.cell? ⟨g,i*2+p,none⟩=(mpC q)[p]?):=h_ fun W h p hp7=>by
     rw[<- hq,<- qhm hlt hp7];exact(hp.mono h hg) (i*2+p) (by rw[qhn];omega)
    have HQ:=h_ hq;rw[hq];clear hp hq;clear hb;have c0:wr.cell? ⟨g,i*2,none⟩=some (Ya ((q:Int))):=(by have h:=HC.u wr HB0.u 0 (by omega);exact h);have c1:wr.cell? ⟨g,i*2+1,none⟩=some (Ya ((q:Int)+1)):=(by have h:=HC.u wr HB0.u 1 (by omega);exact h);go_wp2_with fail;go_roundw
    case rel=>first | exact⟨i+1,by omega,by go_num,by rw[show K+(i+1)*2=q+1+1 by have:=HQ.u;omega];go_num,HB0.u⟩ | ((repeat apply Exists.intro);exact⟨⟨i+1,by omega,by go_num,by rw[show K+(i+1)*2=q+1+1 by have:=HQ.u;omega];go_num,HB0.u⟩,rfl⟩)
    case measure=>simp[intOf];omega
  . obtain rfl:i=n:=by omega
    have hlt':¬ (i:Int)<(i:Int):=(by omega);obtain⟨q,hq⟩:=Nq (K+i*2);rw[hq];clear hb;go_wp2_with fail;go_ret;exact⟨by first | rfl | (rw[show(K:Int)+i=(q:Int) by omega];rfl),HB0.u⟩
theorem q2y (a:Option Addr)(K g n c:Nat)(w:World)(hK:0<K)(hK2:K<=1152921504606846976)(hn:n<=2000000)(ho:0<n->a=some ⟨g,0,none⟩/\g<w.heap.size/\Pre w g (mrL K n)) :
 Calls Tryz.prog 35 (J7 a n c (K:Nat)) w fun r w'=>r=.returned (Ya ((K+n*2:Nat):Int))/\Below w.heap.size w w':=by
 have HO:=h_ ho
 clear ho
 go_enter Tryz.func35,Tryz.ntmps35
 go_wp2_with fail
 go_loopw [1,5] (fun q v wr=>∃(i:Nat),i<=n/\v=Ya i/\q=Ya ((K+i*2:Nat):Int)/\Below w.heap.size w wr) (fun _ v _=>n - (intOf v).toNat)
 case atStart=>exact⟨0,nZ _,rfl,by simp,bR _ _⟩
 case round =>
  obtain⟨i,hil,rfl,rfl,hb⟩:=hrel;have HB0:=h_ hb;by_cases hlt:i<n
  . have hlt':(i:Int)<n:=by omega
    obtain⟨rfl,hg,hp⟩:=HO.u (by omega);obtain⟨q,hq⟩:=Nq (K+i*2);have hq':(q:Int)+7<4611686018427387904:=(by omega);have hq1:0<q:=(by omega);have HC:Hi (∀W,Below w.heap.size w W->∀p,p<2->W.cell? ⟨g,i*2+p,none⟩=(mrC q)[p]?):=h_ fun W h p hp7=>by
     rw[<- hq,<- qhp hlt hp7];exact(hp.mono h hg) (i*2+p) (by rw[qhq];omega)
    have HQ:=h_ hq;rw[hq];clear hp hq;clear hb;have cs:wr.drew.cell? ⟨g,i*2,none⟩=some (.string (mkT (q))):=(by have h:=HC.u wr HB0.u 0 (by omega);exact h);have HT1:=h_ (q5c (q) wr.drew (by omega) (by omega))
    try simp only[V9,Vh]at HT1
    obtain⟨st,hst⟩:=Nq (mkT (q));rw[hst]at HT1 cs;go_wp2_with fail;refine wp_region_held_drew (S:=fun w'=>w'.cell? ⟨g,i*2,none⟩=some (Value.string st)) (by kernel_rfl) cs (fun zz=>?_);refine tj 0 12 (.slice (some ⟨g,0,none⟩) n c) zz ?_;refine tj 1 13 (Ya i) zz ?_;refine tj 2 14 (.pointer (some ⟨g,i*2,none⟩)) zz ?_;refine tj 3 15 (.pointer (some ⟨g,i*2,none⟩)) zz ?_;simp only[sX,sY,sZ];refine tj 4 16 (.string st) zz ?_ (hy:=fun w hS=>by simp[execOp,go_sem,hS]);refine tj 5 17 (Ya ((q:Int))) zz ?_;simp only[sX,sY,sZ];refine callY (i:=6) (f:=78) (args:=#[Ya ((q:Int))]) (R:=fun v wz=>v=.string st/\Below wr.heap.size wr wz) 18 rfl rfl (by rfl) (by kernel_rfl) (by simp[execOp,go_sem]) (HT1.u.mono fun e w6 ⟨he,hb⟩=>⟨_,he,rfl,q23 hb⟩) ?_;rintro v V1 ⟨rfl,hb2⟩;have HB1:=mT HB0 hb2;clear hb2 cs HT1;have cs:V1.cell? ⟨g,i*2,none⟩=some (.string st):=(by(rw[<- hst];have h:=HC.u V1 HB1.u 0 (by omega);exact h));refine⟨cs,?_⟩;replace zz:=cs;simp only[sX,sY,sZ];refine tj 7 19 (.bool false) zz ?_ (hy:=fun w hS=>by simp[execOp,go_sem]);simp only[sX,sY,sZ];refine wpAnyH_done (by kernel_rfl) ?_ _;clear zz cs hst;have c1:V1.cell? ⟨g,i*2+1,none⟩=some (Ya ((q:Int)+1)):=(by have h:=HC.u V1 HB1.u 1 (by omega);exact h);go_wp2_with fail;go_roundw
    case rel=>first | exact⟨i+1,by omega,by go_num,by rw[show K+(i+1)*2=q+1+1 by have:=HQ.u;omega];go_num,HB1.u⟩ | ((repeat apply Exists.intro);exact⟨⟨i+1,by omega,by go_num,by rw[show K+(i+1)*2=q+1+1 by have:=HQ.u;omega];go_num,HB1.u⟩,rfl⟩)
    case measure=>simp[intOf];omega
  . obtain rfl:i=n:=by omega
    have hlt':¬ (i:Int)<(i:Int):=(by omega);obtain⟨q,hq⟩:=Nq (K+i*2);rw[hq];clear hb;go_wp2_with fail;go_ret;exact⟨by first | rfl | (rw[show(K:Int)+i=(q:Int) by omega];rfl),HB0.u⟩
theorem q2w (a:Option Addr)(K g n c:Nat)(w:World)(hK:0<K)(hK2:K<=1152921504606846976)(hn:n<=2000000)(ho:0<n->a=some ⟨g,0,none⟩/\g<w.heap.size/\Pre w g (mnL K n)) :
 Calls Tryz.prog 82 (J7 a n c (K:Nat)) w fun r w'=>r=.returned (Ya ((K+n*5:Nat):Int))/\Below w.heap.size w w':=by
 have HO:=h_ ho
 clear ho
 go_enter Tryz.func82,Tryz.ntmps82
 go_wp2_with fail
 go_loopw [1,5] (fun q v wr=>∃(i:Nat),i<=n/\v=Ya i/\q=Ya ((K+i*5:Nat):Int)/\Below w.heap.size w wr) (fun _ v _=>n - (intOf v).toNat)
 case atStart=>exact⟨0,nZ _,rfl,by simp,bR _ _⟩
 case round =>
  obtain⟨i,hil,rfl,rfl,hb⟩:=hrel;have HB0:=h_ hb;by_cases hlt:i<n
  . have hlt':(i:Int)<n:=by omega
    obtain⟨rfl,hg,hp⟩:=HO.u (by omega);obtain⟨q,hq⟩:=Nq (K+i*5);have hq':(q:Int)+7<4611686018427387904:=(by omega);have hq1:0<q:=(by omega);have HC:Hi (∀W,Below w.heap.size w W->∀p,p<5->W.cell? ⟨g,i*5+p,none⟩=(mnC q)[p]?):=h_ fun W h p hp7=>by
     rw[<- hq,<- qhi hlt hp7];exact(hp.mono h hg) (i*5+p) (by rw[qhj];omega)
    have HQ:=h_ hq;rw[hq];clear hp hq;clear hb;have c0:wr.cell? ⟨g,i*5,none⟩=some (Ya ((q:Int))):=(by have h:=HC.u wr HB0.u 0 (by omega);exact h);have c1:wr.cell? ⟨g,i*5+1,none⟩=some (Ya ((q:Int)+1)):=(by have h:=HC.u wr HB0.u 1 (by omega);exact h);have c2:wr.cell? ⟨g,i*5+2,none⟩=some (Ya ((q:Int)+1+1)):=(by have h:=HC.u wr HB0.u 2 (by omega);exact h);have cs:wr.drew.cell? ⟨g,i*5+3,none⟩=some (.string (mkT (q+1+1+1))):=(by have h:=HC.u wr HB0.u 3 (by omega);exact h);have HT1:=h_ (q5c (q+1+1+1) wr.drew (by omega) (by omega))
    try simp only[V9,Vh]at HT1
    obtain⟨st,hst⟩:=Nq (mkT (q+1+1+1));rw[hst]at HT1 cs;go_wp2_with fail;refine wp_region_held_drew (S:=fun w'=>w'.cell? ⟨g,i*5+3,none⟩=some (Value.string st)) (by kernel_rfl) cs (fun zz=>?_);refine tj 0 41 (.slice (some ⟨g,0,none⟩) n c) zz ?_;refine tj 1 42 (Ya i) zz ?_;refine tj 2 43 (.pointer (some ⟨g,i*5,none⟩)) zz ?_;refine tj 3 44 (.pointer (some ⟨g,i*5+1,none⟩)) zz ?_;simp only[sX,sY,sZ];refine tj 4 45 (.pointer (some ⟨g,i*5+3,none⟩)) zz ?_;refine tj 5 46 (.string st) zz ?_ (hy:=fun w hS=>by simp[execOp,go_sem,hS]);refine tj 6 47 (Ya ((q:Int)+1+1+1)) zz ?_;simp only[sX,sY,sZ];refine callY (i:=7) (f:=78) (args:=#[Ya ((q:Int)+1+1+1)]) (R:=fun v wz=>v=.string st/\Below wr.heap.size wr wz) 48 rfl rfl (by rfl) (by kernel_rfl) (by simp[execOp,go_sem]) (HT1.u.mono fun e w6 ⟨he,hb⟩=>⟨_,he,rfl,q23 hb⟩) ?_;rintro v V1 ⟨rfl,hb2⟩;have HB1:=mT HB0 hb2;clear hb2 cs HT1 c0 c1 c2;have cs:V1.cell? ⟨g,i*5+3,none⟩=some (.string st):=(by(rw[<- hst];have h:=HC.u V1 HB1.u 3 (by omega);exact h));refine⟨cs,?_⟩;replace zz:=cs;simp only[sX,sY,sZ];refine tj 8 49 (.bool false) zz ?_ (hy:=fun w hS=>by simp[execOp,go_sem]);simp only[sX,sY,sZ];refine wpAnyH_done (by kernel_rfl) ?_ _;clear zz cs hst;have cs:V1.drew.cell? ⟨g,i*5+4,none⟩=some (.string (mkT (q+1+1+1+1))):=(by have h:=HC.u V1 HB1.u 4 (by omega);exact h);have HT1:=h_ (q5c (q+1+1+1+1) V1.drew (by omega) (by omega))
    try simp only[V9,Vh]at HT1
    obtain⟨st,hst⟩:=Nq (mkT (q+1+1+1+1));rw[hst]at HT1 cs;go_wp2_with fail;refine wp_region_held_drew (S:=fun w'=>w'.cell? ⟨g,i*5+4,none⟩=some (Value.string st)) (by kernel_rfl) cs (fun zz=>?_);refine tj 0 52 (.slice (some ⟨g,0,none⟩) n c) zz ?_;refine tj 1 53 (Ya i) zz ?_;refine tj 2 54 (.pointer (some ⟨g,i*5,none⟩)) zz ?_;refine tj 3 55 (.pointer (some ⟨g,i*5+4,none⟩)) zz ?_;simp only[sX,sY,sZ];refine tj 4 56 (.string st) zz ?_ (hy:=fun w hS=>by simp[execOp,go_sem,hS]);refine tj 5 57 (Ya ((q:Int)+1+1+1+1)) zz ?_;simp only[sX,sY,sZ];refine callY (i:=6) (f:=78) (args:=#[Ya ((q:Int)+1+1+1+1)]) (R:=fun v wz=>v=.string st/\Below V1.heap.size V1 wz) 58 rfl rfl (by rfl) (by kernel_rfl) (by simp[execOp,go_sem]) (HT1.u.mono fun e w6 ⟨he,hb⟩=>⟨_,he,rfl,q23 hb⟩) ?_;rintro v V2 ⟨rfl,hb2⟩;have HB2:=mT HB1 hb2;clear hb2 cs HT1;have cs:V2.cell? ⟨g,i*5+4,none⟩=some (.string st):=(by(rw[<- hst];have h:=HC.u V2 HB2.u 4 (by omega);exact h));refine⟨cs,?_⟩;replace zz:=cs;simp only[sX,sY,sZ];refine tj 7 59 (.bool false) zz ?_ (hy:=fun w hS=>by simp[execOp,go_sem]);simp only[sX,sY,sZ];refine wpAnyH_done (by kernel_rfl) ?_ _;clear zz cs hst;go_wp2_with fail;go_roundw
    case rel=>first | exact⟨i+1,by omega,by go_num,by rw[show K+(i+1)*5=q+1+1+1+1+1 by have:=HQ.u;omega];go_num,HB2.u⟩ | ((repeat apply Exists.intro);exact⟨⟨i+1,by omega,by go_num,by rw[show K+(i+1)*5=q+1+1+1+1+1 by have:=HQ.u;omega];go_num,HB2.u⟩,rfl⟩)
    case measure=>simp[intOf];omega
  . obtain rfl:i=n:=by omega
    have hlt':¬ (i:Int)<(i:Int):=(by omega);obtain⟨q,hq⟩:=Nq (K+i*5);rw[hq];clear hb;go_wp2_with fail;go_ret;exact⟨by first | rfl | (rw[show(K:Int)+i=(q:Int) by omega];rfl),HB0.u⟩
end Go.Proofs.YtfmammdgehbjhaaGreatDoor
