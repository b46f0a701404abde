import Derived.Test.YtgojgjlninakjaaGreatDoorW20
import Derived.Test.YtgojgjlninakjaaGreatDoorW21
import Derived.Test.YtgojgjlninakjaaGreatDoorW16
import Derived.Test.YtgojgjlninakjaaGreatDoorW10
import Derived.Test.YtgojgjlninakjaaGreatDoorW06
import Derived.Maps.Views
set_option maxRecDepth 100000
set_option maxHeartbeats 64000000
namespace Go.Proofs.YtgojgjlninakjaaGreatDoor
open Go Go.RowKit
theorem q36 (a:Option Addr)(c:Nat)(l:List ByteArray)(l0:Int)(w:World)(h0:0<=l0)(h1:l0<=1048576)(hm:l.length<=9223372036854775807)(hs:∀x,x∈l->x.size<=9223372036854775807)(ha:Strs w a l) :
 Calls Tryz.prog 13 #[.slice a l.length c,J6 l0] w fun r w'=>∃q:Int,r=.returned (J6 q)/\(0<=q->q<=1048576/\l.length<=1048576)/\(q<0->q = -1)/\Below w.heap.size w w':=by
 have HA:=h_ ha;have HF:=h_ hs
 clear ha hs
 have hw1:wrap64 (l0 - (l.length:Int))=l0 - (l.length:Int):=q55 (by omega) (by omega)
 by_cases h:(l.length:Int)<=l0
 . have h':¬ l0 - (l.length:Int)<0:=by omega
   obtain⟨lq,hlq⟩:=Nq (l0 - (l.length:Int));have HLQ:Hi (0<=lq/\lq<=1048576):=h_ (by omega);have HLN:Hi (l.length<=1048576):=h_ (by omega);rw[hlq]at h' hw1;go_enter Tryz.func13,Tryz.ntmps13;go_wp2_with fail;clear h h' hw1 hlq;go_loopw [1,5] (fun lf i wr=>∃(k:Nat) (lq:Int),k<=l.length/\i=J6 k/\lf=J6 lq/\0<=lq/\lq<=1048576/\Below w.heap.size w wr) (fun _ i _=>l.length - (intOf i).toNat)
   case atStart=>exact⟨0,lq,nZ _,rfl,rfl,HLQ.u.1,HLQ.u.2,bR _ _⟩
   case round =>
    clear HLQ;obtain⟨k,lq,hk,rfl,rfl,g0,g1,hb⟩:=hrel;have HB:=h_ hb;have HAr:=h_ (HA.u.mono hb);clear hb;by_cases hlt:k<l.length
    . have hlt':(k:Int)<l.length:=by omega
      obtain⟨b,o,rfl,-,z0⟩:=HAr.u k hlt;have hx:=HF.u _ (Ye hlt);generalize l[k]=x at *;have hw2:wrap64 (lq - (x.size:Int))=lq - (x.size:Int):=q55 (by omega) (by omega);by_cases hr:lq<x.size
      . have hr':lq - (x.size:Int)<0:=by omega
        go_wp2_with fail;go_ret;exact⟨_,rfl,fun h=>absurd h (by decide),fun _=>rfl,HB.u⟩
      . have hr':¬ lq - (x.size:Int)<0:=by omega
        go_wp2_with fail;go_roundw
        case rel=>first | exact⟨k+1,lq - x.size,by omega,by go_num,rfl,by omega,by omega,HB.u⟩ | ((repeat apply Exists.intro);exact⟨⟨k+1,lq - x.size,by omega,by go_num,rfl,by omega,by omega,HB.u⟩,rfl⟩)
        case measure=>simp[intOf];omega
    . obtain rfl:k=l.length:=by omega
      have hlt':¬ (l.length:Int)<(l.length:Int):=(by omega);go_wp2_with fail;go_ret;exact⟨_,rfl,fun _=>⟨g1,HLN.u⟩,fun h=>by omega,HB.u⟩
 . have h':l0 - (l.length:Int)<0:=by omega
   go_enter Tryz.func13,Tryz.ntmps13;go_wp2_with fail;go_ret;exact⟨_,rfl,fun h=>absurd h (by decide),fun _=>rfl,bR _ _⟩
theorem q51 (a:Option Addr)(l:List ByteArray)(c:Nat)(w:World)(ha:Strs w a l)(hn:l.length<=1048576) :
 Calls Tryz.prog 21 #[.slice a l.length c] w fun e w'=>e=.returned (.slice (some ⟨w.heap.size,0,none⟩) l.length l.length)/\Strs w' (some ⟨w.heap.size,0,none⟩) l/\Bk w' w.heap.size 9 l.length/\Below w.heap.size w w':=by
 obtain⟨i0,hi,hz0,hz1,hz2⟩:=info_parts qgp
 obtain⟨B,hB⟩:=Nq w.heap.size
 have hbn:i0.bytes*l.length<=281474976710656:=by rw[hz2];omega
 have HA:=h_ ha
 clear ha
 go_enter Tryz.func21,Tryz.ntmps21
 go_wp2_with (at_make;refine wpList_make_full _ rfl (.tmp 6) (.tmp 6) 22 rfl w.heap.size 9 i0 _ 1 Tryz.underlying22 hi hz0 hz1 .i64 .i64 _ _ l.length rfl rfl rfl rfl hbn (by unfold maxLen;omega) (nR _) ?_;intro w1 hown hgrow)
 have hb1:Below B w w1:=by rw[<- hB];exact(bR _ _).grown hgrow (nR _) (fun k h=>by cases h)
 rw[hB]at hown
 have HOw:=h_ hown;have HB1:=h_ hb1
 clear hgrow hbn hi hz0 hz1 hz2 hown hb1
 go_wp2_with fail
 try rw[hB]
 go_loopw [4] (fun i wr=>∃(k:Nat) (xs:List Value),k<=l.length/\i=J6 k/\wr.ownsRow B 9 1 (.slice (some ⟨B,0,none⟩) l.length l.length) l.length xs/\(∀j,j<k->xs[j]? = some (.string (l.getD j ⟨#[]⟩)))/\Below B w wr) (fun i _=>l.length - (intOf i).toNat)
 case atStart=>exact⟨0,_,nZ _,rfl,HOw.u,fun j h=>absurd h (nL _),HB1.u⟩
 case round =>
  clear HOw HB1;obtain⟨k,xs,hk,rfl,ho,hx,hb⟩:=hrel;have HO:=h_ ho;have HX:=h_ hx;have HB:=h_ hb;by_cases hlt:k<l.length
  . have hlt':(k:Int)<l.length:=by omega
    obtain⟨b1,o1,rfl,hl1,hc1⟩:=HA.u k hlt;have hc:=(hb.cell (p:=⟨b1,o1+k,none⟩) (by rw[<- hB];exact hl1)).trans hc1;have hge:l.getD k ⟨#[]⟩=l[k]:=(by rw[Yo,Yc hlt];rfl);have HGE:=h_ hge;clear hge;obtain⟨u0,hd⟩:∃u0,wr.cell? ⟨B,k,none⟩=some u0:=⟨_,(ho.cellAt k (by omega)).trans (Yc (by have:=ho.1;omega))⟩;have hf:=ho.frozenAt k;clear ho hx hb hc1;go_wp2_with fail;go_roundw
    case rel =>
     obtain⟨r1,r2,r3⟩:=qc1 (g:=fun j=>.string (l.getD j ⟨#[]⟩)) hlt HO.u HX.u HB.u;rw[HGE.u]at r1 r2 r3;exact⟨k+1,_,by omega,by go_num,r1,r2,r3⟩
    case measure=>simp[intOf];omega
  . obtain rfl:k=l.length:=by omega
    have hlt':¬ (l.length:Int)<(l.length:Int):=(by omega);clear ho hx hb;go_wp2_with fail;go_ret;refine⟨rfl,fun j hj=>?_,⟨_,Blk.of_owns HO.u,by have:=HO.u.1;omega⟩,HB.u⟩;have hbk:=Blk.of_owns HO.u;refine⟨B,0,rfl,hbk.lt,?_⟩;rw[Y7,hbk.cell,HX.u j hj,Yo,Yc hj];rfl
theorem q1j (a b:Option Addr)(l:List ByteArray)(ca cb:Nat)(w:World)(hn:l.length<=1048576)(ha:Strs w a l)(hb:Strs w b l) :
 Calls Tryz.prog 28 #[.slice a l.length ca,.slice b l.length cb] w fun r w'=>r=.returned (.bool true)/\Below w.heap.size w w':=by
 have HA:=h_ ha;have HC:=h_ hb
 clear ha hb
 go_enter Tryz.func28,Tryz.ntmps28
 go_wp2_with fail
 go_loopw [5] (fun i wr=>∃k:Nat,k<=l.length/\i=J6 k/\Below w.heap.size w wr) (fun i _=>l.length - (intOf i).toNat)
 case atStart=>exact⟨0,nZ _,rfl,bR _ _⟩
 case round =>
  obtain⟨k,hk,rfl,hb⟩:=hrel;have HB:=h_ hb;have HAr:=h_ (HA.u.mono hb);have HCr:=h_ (HC.u.mono hb);clear hb;by_cases hlt:k<l.length
  . have hlt':(k:Int)<l.length:=by omega
    obtain⟨b1,o1,rfl,-,z0⟩:=HAr.u k hlt;obtain⟨b2,o2,rfl,-,z1⟩:=HCr.u k hlt;generalize l[k]=x at *;have hq:(x.toList==x.toList)=true:=(by simp);have HD:Hi (Below w.heap.size w wr.drew):=h_ HB.u.drew;go_wp2_with fail;refine wp_region_held_drew (S:=fun w'=>w'.cell? ⟨b1,o1+k,none⟩=some (.string x)/\w'.cell? ⟨b2,o2+k,none⟩=some (.string x)) (by kernel_rfl) ⟨z0,z1⟩ (fun zz=>?_);refine tj 0 17 (.slice (some ⟨b1,o1,none⟩) l.length ca) zz ?_;refine tj 1 18 (J6 k) zz ?_;refine tj 2 19 (J9 b1 (o1+k)) zz ?_;refine tj 3 20 (.string x) zz ?_;simp only[sX,sY,sZ];refine tj 4 21 (.slice (some ⟨b2,o2,none⟩) l.length cb) zz ?_;refine tj 5 22 (J6 k) zz ?_;refine tj 6 23 (J9 b2 (o2+k)) zz ?_;refine tj 7 24 (.string x) zz ?_;simp only[sX,sY,sZ];refine tj 8 25 (.bool false) zz ?_;simp only[sX,sY,sZ];refine wpAnyH_done (by kernel_rfl) ?_ _;clear zz;go_wp2_with fail;go_roundw
    case rel=>first | exact⟨k+1,by omega,by go_num,HD.u⟩ | ((repeat apply Exists.intro);exact⟨⟨k+1,by omega,by go_num,HD.u⟩,rfl⟩)
    case measure=>simp[intOf];omega
  . obtain rfl:k=l.length:=by omega
    have hlt':¬ (l.length:Int)<(l.length:Int):=(by omega);go_wp2_with fail;go_ret;exact⟨rfl,HB.u⟩
theorem q0d (a:Option Addr)(m c:Nat)(e:Nat->Nx)(w:World)(hm:m<=9223372036854775807)(ha:Nods w a m e)(hf:∀k,k<m->Fit (e k))(hw:Wrds w)(hp:Pow w) :
 Calls Tryz.prog 276 #[.slice a m c] w fun r w'=>r=.returned (.string (if vxB e m then (top e m).t else ⟨#[]⟩))/\Below w.heap.size w w':=by
 have HC:=h_ (q76 a m c e w hm ha hf hw hp)
 obtain⟨t,ht⟩:=Nq ((if vxB e m then (top e m).t else ⟨#[]⟩))
 obtain⟨q,hq⟩:=Nq (vxB e m)
 rw[ht,hq]at HC
 rw[ht]
 clear ht hq ha hf hw hp
 go_enter Tryz.func276,Tryz.ntmps276
 go_wp2_with fail
 refine HC.u.mono ?_
 rintro x w1 ⟨rfl,hb⟩
 have HB:=h_ hb
 clear hb HC
 go_wp2_with fail
 go_ret
 exact⟨rfl,HB.u⟩
end Go.Proofs.YtgojgjlninakjaaGreatDoor
namespace Go.Proofs.YtgojgjlninakjaaGreatDoor
open Go
def noFd:Fl:=⟨⟨#[]⟩,0,0,[],[],[],[],⟨#[]⟩,[]⟩
def fAt (m:Fm)(k:Nat):Fl:=m.F.getD k noFd
theorem qku {m:Fm}{k:Nat}(h:k<m.F.length):fAt m k=m.F[k]:=by unfold fAt;rw[Yo,Yc h];rfl
def rdsN (l:List Nx)(x:ByteArray):Bool:=l.any fun n=>decide (n.op=1)&&decide (n.nm=x)
def fedB (m:Fm)(j k:Nat):Bool:=rdsN (fAt m k).is (fAt m j).nm||rdsN (fAt m k).wh (fAt m j).nm
def watB (m:Fm)(j k:Nat):Bool:=rdsN (fAt m k).va (fAt m j).nm||rdsN (fAt m k).mu (fAt m j).nm
def anyR (m:Fm)(j k:Nat):Bool:=fedB m j k||watB m j k
def rdyB (m:Fm)(D:List Nat)(k:Nat):Bool:=!decide (k∈D)&&(List.range m.F.length).all fun j=>!fedB m j k||decide (j∈D)
def nxt (m:Fm)(D:List Nat):Option Nat:=(List.range m.F.length).find? (rdyB m D)
def ordL (m:Fm):Nat->List Nat
 | 0=>[]
 | i+1=>match nxt m (ordL m i) with
  | some k=>ordL m i++[k]
  | none=>ordL m i
theorem qhl {m:Fm}{D:List Nat}{k:Nat}(h:nxt m D=some k):k<m.F.length/\rdyB m D k=true/\∀j,j<k->rdyB m D j=false:=by
 unfold nxt at h
 rw[List.find?_eq_some_iff_getElem]at h
 obtain⟨h1,i,hi,e,h2⟩:=h
 rw[List.getElem_range]at e
 subst e
 rw[Ox]at hi
 refine⟨hi,h1,fun j hj=>?_⟩
 have:=h2 j hj
 rw[List.getElem_range]at this
 simpa using this
theorem qhk {m:Fm}{D:List Nat}(h:nxt m D=none):∀j,j<m.F.length->rdyB m D j=false:=by
 intro j hj
 unfold nxt at h
 have:=List.find?_eq_none.1 h j (Y9.2 hj)
 simpa using this
theorem qdp {m:Fm}{i k:Nat}(h:nxt m (ordL m i)=some k):ordL m (i+1)=ordL m i++[k]:=by
 show(match nxt m (ordL m i) with | some k=>ordL m i++[k] | none=>ordL m i)=_
 rw[h]
theorem qdo {m:Fm}{i:Nat}(h:nxt m (ordL m i)=none):ordL m (i+1)=ordL m i:=by
 show(match nxt m (ordL m i) with | some k=>ordL m i++[k] | none=>ordL m i)=_
 rw[h]
theorem qmt (m:Fm)(i:Nat):∀k,k∈ordL m i->k<m.F.length:=by
 induction i with
 | zero=>intro k hk;cases hk
 | succ i ih =>
  cases h:nxt m (ordL m i) with
  | none=>rw[qdo h];exact ih
  | some j =>
   rw[qdp h];intro k hk;rcases Ze.1 hk with hk | hk
   . exact ih k hk
   . rw[Zi.1 hk];exact(qhl h).1
theorem q9y (m:Fm)(i:Nat):(ordL m i).Nodup:=by
 induction i with
 | zero=>exact List.nodup_nil
 | succ i ih =>
  cases h:nxt m (ordL m i) with
  | none=>rw[qdo h];exact ih
  | some j =>
   rw[qdp h,List.nodup_append];refine⟨ih,(by simp),fun a ha b hb e=>?_⟩;rw[Zi.1 hb]at e;subst e;have:=(qhl h).2.1;unfold rdyB at this;rw[Yj ha]at this;simp at this
theorem q9z {m:Fm}{i:Nat}(h:nxt m (ordL m i)=none):∀d,ordL m (i+d)=ordL m i:=by
 intro d
 induction d with
 | zero=>rfl
 | succ d ih =>
  have:nxt m (ordL m (i+d))=none:=by rw[ih];exact h
  exact(qdo this).trans ih
theorem at_mpR (r:List ByteArray)(hn:r.Nodup)(z:DataW Unit):∀k (hk:k<r.length),(mpR r).atKey (kl r[k]) z=.lit (.int .i64 ((r.length - 1 - k:Nat):Int)):=by
 induction r with
 | nil=>intro k hk;cases hk
 | cons x r ih =>
  intro k hk;rw[Ot]at hn;rw[show mpR (x :: r)=(mpR r).put (kl x) (.lit (.int .i64 (r.length:Int))) from rfl];cases k with
  | zero =>
   rw[Vu,Maps.atKey_put_same (qj6 r).isMap (show WideAt.IsKeyLit (kl x) from trivial)];simp
  | succ k =>
   have hk':k<r.length:=by simpa using hk
   rw[List.getElem_cons_succ,Maps.atKey_put_other (fun e=>hn.1 (by rw[<- kl_inj e];exact Ye hk')),ih hn.2 k hk'];simp only[Yl]
   congr 3
   omega
theorem at_mp (l:List ByteArray)(hn:l.Nodup)(z:DataW Unit)(k:Nat)(hk:k<l.length):(mp l).atKey (kl l[k]) z=.lit (.int .i64 (k:Int)):=by
 unfold mp
 have hr:l.reverse.Nodup:=(List.Perm.nodup_iff (List.reverse_perm l)).2 hn
 have h:=at_mpR l.reverse hr z (l.length - 1 - k) (by rw[Zl];omega)
 have e:l.reverse[l.length - 1 - k]'(by rw[Zl];omega)=l[k]:=by
  rw[List.getElem_reverse]
  congr 1
  omega
 rw[e,Zl]at h
 rw[h]
 congr 3
 omega
def fIdx (names:List ByteArray)(x:ByteArray):Nat:=names.findIdx fun y=>decide (y=x)
theorem qkv {names:List ByteArray}{x:ByteArray}(h:x∈names):fIdx names x<names.length:=List.findIdx_lt_length.2 ⟨x,h,by simp⟩
theorem qg1 {names:List ByteArray}{x:ByteArray}(h:x∈names):names[fIdx names x]'(qkv h)=x:=by
 have:=List.findIdx_getElem (xs:=names) (p:=fun y=>decide (y=x)) (w:=qkv h)
 exact Zb this
theorem qkw {names:List ByteArray}(hn:names.Nodup){j:Nat}(hj:j<names.length):fIdx names names[j]=j:=by
 have hm:names[j]∈names:=Ye hj
 have h1:=qg1 hm
 have h2:=qkv hm
 rcases Nat.lt_trichotomy (fIdx names names[j]) j with h | h | h
 . exact absurd h1 (Zv.1 hn _ _ h2 hj h)
 . exact h
 . exact absurd h1.symm (Zv.1 hn _ _ hj h2 h)
def rdL (names:List ByteArray)(l:List Nx):List Nat:=(l.filter fun n=>decide (n.op=1)).map fun n=>fIdx names n.nm
theorem qd3 {names:List ByteArray}{l:List Nx}(h:knows names l=true){n:Nx}(hn:n∈l)(h1:n.op=1):n.nm∈names:=by
 unfold knows at h
 have:=Yu.1 h n hn
 rw[Yj h1]at this
 exact(qh6 _ _).1 (by simpa using this)
theorem rdL_lt {names:List ByteArray}{l:List Nx}(h:knows names l=true):∀j,j∈rdL names l->j<names.length:=by
 intro j hj
 unfold rdL at hj
 obtain⟨n,hn,rfl⟩:=Y3.1 hj
 rw[List.mem_filter,Yh]at hn
 exact qkv (qd3 h hn.1 hn.2)
theorem qmg {names:List ByteArray}{l:List Nx}(hn:names.Nodup)(h:knows names l=true){j:Nat}(hj:j<names.length):j∈rdL names l ↔ rdsN l names[j]=true:=by
 unfold rdL rdsN
 rw[List.any_eq_true]
 constructor
 . intro hx
   obtain⟨n,hn',rfl⟩:=Y3.1 hx;rw[List.mem_filter,Yh]at hn';exact⟨n,hn'.1,by rw[Yj hn'.2,Yj (qg1 (qd3 h hn'.1 hn'.2)).symm];rfl⟩
 . rintro⟨n,hm,e⟩
   rw[Yf,Yh,Yh]at e;exact Y3.2 ⟨n,List.mem_filter.2 ⟨hm,Yj e.1⟩,by rw[e.2];exact qkw hn hj⟩
def fedL (m:Fm)(k:Nat):List Nat:=rdL (fNames m) (fAt m k).is++rdL (fNames m) (fAt m k).wh
theorem VfA.nod {m:Fm}(h:VfA m):(fNames m).Nodup:=by
 have:=h.f
 unfold namesOk at this
 rw[Yf,Yh]at this
 exact this.2
theorem q8k (m:Fm):(fNames m).length=m.F.length:=by simp[fNames]
theorem q8j {m:Fm}{j:Nat}(hj:j<m.F.length):(fNames m)[j]'(by rw[q8k];exact hj)=(fAt m j).nm:=by rw[qku hj];simp[fNames]
theorem VfA.knw {m:Fm}(h:VfA m){k:Nat}(hk:k<m.F.length):knows (fNames m) (fAt m k).is=true/\knows (fNames m) (fAt m k).wh=true/\knows (fNames m) (fAt m k).va=true/\knows (fNames m) (fAt m k).mu=true:=by
 have:=h.kn _ (Ye hk)
 rw[qku hk]
 unfold fieldKnows at this
 simp only[Yf]at this
 exact⟨this.1.1.1,this.1.1.2,this.1.2,this.2⟩
theorem qky {m:Fm}(h:VfA m){k:Nat}(hk:k<m.F.length):∀j,j∈fedL m k->j<m.F.length:=by
 intro j hj
 rw[<- q8k m]
 rcases Ze.1 hj with hj | hj
 . exact rdL_lt (h.knw hk).1 j hj
 . exact rdL_lt (h.knw hk).2.1 j hj
theorem qh7 {m:Fm}(h:VfA m){j k:Nat}(hj:j<m.F.length)(hk:k<m.F.length):j∈fedL m k ↔ fedB m j k=true:=by
 have hj':j<(fNames m).length:=by rw[q8k];exact hj
 unfold fedL fedB
 rw[Ze,Zj,qmg h.nod (h.knw hk).1 hj',qmg h.nod (h.knw hk).2.1 hj',q8j hj]
theorem q70 (m:Fm)(i:Nat):∀k,k∈ordL m i->∀j,j<m.F.length->fedB m j k=true->j∈ordL m i:=by
 induction i with
 | zero=>intro k hk;cases hk
 | succ i ih =>
  cases h:nxt m (ordL m i) with
  | none=>rw[qdo h];exact ih
  | some x =>
   rw[qdp h];intro k hk j hj hf;rcases Ze.1 hk with hk | hk
   . exact Vf _ (ih k hk j hj hf)
   . rw[Zi.1 hk]at hf
     have hr:=(qhl h).2.1;unfold rdyB at hr;rw[Yf,Yu]at hr;have:=hr.2 j (Y9.2 hj);rw[hf]at this;exact Vf _ (by simpa using this)
def waitZ (m:Fm)(D:List Nat)(k:Nat):Int:=((fedL m k).filter fun j=>!decide (j∈D)).length - (if k∈D then 1 else 0)
theorem qf9 {m:Fm}(h:VfA m)(i:Nat){k:Nat}(hk:k<m.F.length):waitZ m (ordL m i) k=0 ↔ rdyB m (ordL m i) k=true:=by
 unfold waitZ rdyB
 have h0:((fedL m k).filter fun j=>!decide (j∈ordL m i)).length=0 ↔ ∀j,j<m.F.length->fedB m j k=true->j∈ordL m i:=by
  rw[Zt,List.filter_eq_nil_iff];constructor
  . intro hx j hj hf
    have:=hx j ((qh7 h hj hk).2 hf);simpa using this
  . intro hx j hj
    have hj':=qky h hk j hj;simp[hx j hj' ((qh7 h hj' hk).1 hj)]
 have h1:((List.range m.F.length).all fun j=>!fedB m j k||decide (j∈ordL m i))=true ↔ ∀j,j<m.F.length->fedB m j k=true->j∈ordL m i:=by
  rw[Yu];constructor
  . intro hx j hj hf
    have:=hx j (Y9.2 hj);rw[hf]at this;simpa using this
  . intro hx j hj
    cases hf:fedB m j k
    . rfl
    . simp[hx j (List.mem_range.1 hj) hf]
 by_cases hm:k∈ordL m i
 . rw[Yv hm,Yj hm,h0.2 (q70 m i k hm)]
   simp
 . rw[Yn hm,Yb hm]
   rw[show((((fedL m k).filter fun j=>!decide (j∈ordL m i)).length:Int) - 0=0) ↔ ((fedL m k).filter fun j=>!decide (j∈ordL m i)).length=0 by omega,h0];simp only[Bool.not_false,Y5];exact h1.symm
theorem q5u (l D:List Nat)(x:Nat)(hx:x ∉ D):(l.filter fun j=>!decide (j∈D++[x])).length+l.count x=(l.filter fun j=>!decide (j∈D)).length:=by
 induction l with
 | nil=>rfl
 | cons y l ih =>
  by_cases e:y=x
  . subst e
    have h1:decide (y∈D++[y])=true:=(by simp);have h2:decide (y∈D)=false:=Yb hx;simp only[List.filter_cons,h1,h2,O9];simp only[Bool.not_true,Bool.not_false,if_true];simp only[Bool.false_eq_true,if_false,Yl];omega
  . have h3:decide (y∈D++[x])=decide (y∈D):=decide_eq_decide.2 (by simp[e])
    simp only[List.filter_cons,h3];rw[List.count_cons_of_ne e];split
    . simp only[Yl];omega
    . exact ih
theorem qf8 (m:Fm)(D:List Nat)(x:Nat)(hx:x ∉ D)(k:Nat):waitZ m (D++[x]) k=waitZ m D k - (fedL m k).count x - (if k=x then 1 else 0):=by
 unfold waitZ
 have h:=q5u (fedL m k) D x hx
 by_cases e:k=x
 . subst e
   rw[Yv (by simp),Yn hx,Yv rfl];omega
 . rw[Yn e]
   by_cases hm:k∈D
   . rw[Yv (by simp[hm]),Yv hm];omega
   . rw[Yn (by simp[hm,e]),Yn hm];omega
theorem qb6 (m:Fm)(k:Nat):waitZ m [] k=(fedL m k).length:=by
 unfold waitZ
 rw[show(fedL m k).filter (fun j=>!decide (j∈([]:List Nat)))=fedL m k from List.filter_eq_self.2 (fun _ _=>by simp)]
 simp
def fedT (m:Fm)(k j:Nat):List Nat:=(List.range k).flatMap fun i=>List.replicate ((fedL m i).count j) i
theorem qcj (m:Fm)(j:Nat):fedT m 0 j=[]:=rfl
theorem qci (m:Fm)(k j:Nat):fedT m (k+1) j=fedT m k j++List.replicate ((fedL m k).count j) k:=by
 unfold fedT
 rw[Zh,Vl]
 simp
theorem qkz (m:Fm)(k j:Nat):∀i,i∈fedT m k j->i<k:=by
 intro i hi
 unfold fedT at hi
 obtain⟨x,hx,h⟩:=List.mem_flatMap.1 hi
 rw[(List.mem_replicate.1 h).2]
 exact Y9.1 hx
theorem q8l (m:Fm)(j i:Nat):∀k,(fedT m k j).count i=if i<k then (fedL m i).count j else 0:=by
 intro k
 induction k with
 | zero=>rfl
 | succ k ih =>
  rw[qci,V6,ih,List.count_replicate];by_cases h:i<k
  . have hk:(k==i)=false:=Ya.2 (by omega)
    rw[Yv h,Yv (show i<k+1 by omega),hk];simp
  . by_cases e:i=k
    . subst e
      rw[Yn h,Yv (show i<i+1 by omega)];simp
    . have hk:(k==i)=false:=Ya.2 (by omega)
      rw[Yn h,Yn (show ¬ i<k+1 by omega),hk];simp
theorem qiz (l:List Nat)(h:∀x,x∈l->x=0):l.sum=0:=by
 induction l with
 | nil=>rfl
 | cons x l ih=>rw[Oh,h x Yq,ih fun y hy=>h y (Yy _ hy)]
theorem qeq (n:Nat)(l:List Nat)(h:∀x,x∈l->x<n):((List.range n).map fun j=>l.count j).sum=l.length:=by
 induction l with
 | nil =>
  refine qiz _ fun y hy=>?_;obtain⟨j,-,rfl⟩:=Y3.1 hy;rfl
 | cons x l ih =>
  have hx:=h x Yq;have ih':=ih fun y hy=>h y (Yy _ hy);have e:((List.range n).map fun j=>(x :: l).count j).sum=((List.range n).map fun j=>l.count j).sum+((List.range n).map fun j=>if j=x then 1 else 0).sum:=by
   clear ih ih' h hx
   induction n with
   | zero=>rfl
   | succ n ihn =>
    rw[Zh];simp only[Zc,Oe,Z5,Oc,Oh,O0,Zn];rw[ihn,List.count_cons];have:(if (x==n)=true then 1 else 0)=if n=x then 1 else 0:=by
     by_cases e:n=x
     . subst e;simp
     . rw[Yn e,Yn (by simp;omega)]
    rw[this];omega
  have e2:((List.range n).map fun j=>if j=x then 1 else 0).sum=1:=by
   clear e ih ih' h
   induction n with
   | zero=>omega
   | succ n ihn =>
    rw[Zh];simp only[Zc,Oe,Z5,Oc,Oh,O0,Zn];by_cases e:n=x
    . subst e
      rw[Yv rfl];have:((List.range n).map fun j=>if j=n then 1 else 0).sum=0:=by
       refine qiz _ fun y hy=>?_;obtain⟨j,hj,rfl⟩:=Y3.1 hy;rw[Yn (by have:=Y9.1 hj;omega)]
      omega
    . rw[Yn e,ihn (by omega)]
  rw[e,e2,ih',Yl]
inductive Rch (m:Fm)(k:Nat):Nat->Prop
 | one {i:Nat}:i<m.F.length->fedB m k i=true->Rch m k i
 | step {j i:Nat}:Rch m k j->i<m.F.length->fedB m j i=true->Rch m k i
theorem Rch.lt {m:Fm}{k i:Nat}(h:Rch m k i):i<m.F.length:=by cases h <;> assumption
theorem q2z {m:Fm}{k:Nat}{M:Nat->Bool}(hc:∀j,(j=k∨M j=true)->∀i,i<m.F.length->fedB m j i=true->M i=true):∀i,Rch m k i->M i=true:=by
 intro i h
 induction h with
 | one hi hf=>exact hc k (.inl rfl) _ hi hf
 | step _ hi hf ih=>exact hc _ (.inr ih) _ hi hf
end Go.Proofs.YtgojgjlninakjaaGreatDoor
namespace Go.Proofs.YtgojgjlninakjaaGreatDoor
open Go Go.RowKit
def up {α:Type}(f:Nat->α)(j:Nat)(v:α):Nat->α:=fun i=>if i=j then v else f i
theorem up_at {α:Type}(f:Nat->α)(j:Nat)(v:α):up f j v j=v:=Yv rfl
theorem up_ne {α:Type}(f:Nat->α){i j:Nat}(v:α)(h:i≠j):up f j v i=f i:=Yn h
theorem map_up {α:Type}(g:α->Value)(f:Nat->α)(n j:Nat)(v:α):((List.range n).map fun k=>g (f k)).set j (g v)=(List.range n).map fun k=>g (up f j v k):=by
 refine List.ext_getElem (by simp) fun i h1 h2=>?_
 simp only[List.length_set,Z6,Ox]at h1
 rw[List.getElem_set]
 simp only[List.getElem_map,List.getElem_range]
 by_cases e:j=i
 . subst e;rw[Yv rfl,up_at]
 . rw[Yn e,up_ne f v (fun h=>e h.symm)]
def zs (n:Nat)(f:Nat->Int):List Value:=(List.range n).map fun k=>.int .i64 (f k)
theorem zs_at {n i:Nat}(f:Nat->Int)(h:i<n):(zs n f)[i]? = some (J6 (f i)):=by simp[zs,h]
theorem zs_set {n j:Nat}(f:Nat->Int)(v:Int):(zs n f).set j (J6 v)=zs n (up f j v):=map_up (fun x=>J6 x) f n j v
theorem qjo {n:Nat}{f g:Nat->Int}(h:∀i,i<n->f i=g i):zs n f=zs n g:=Zo fun i hi=>by rw[h i (Y9.1 hi)]
theorem qdu {X:Nat->Prop}{w w':World}{base n size:Nat}{e:TypeId}{v:Value}{xs:List Value}(h:w.ownsRow base e size v n xs)(hk:KeepX X w w')(hx:∀k,X k->k<base):w'.ownsRow base e size v n xs:=by
 refine⟨h.1,?_⟩
 rcases h.2 with h2 | ⟨g,cap,cur,h1,hb,hg,r⟩
 . exact .inl h2
 . exact .inr ⟨g,cap,cur,h1,hb,hk.same g cur e _ (fun hX=>by have:=hx g hX;omega) hg,r⟩
theorem qdw {w w':World}{base n size:Nat}{e:TypeId}{v:Value}{xs:List Value}(h:w.ownsRow base e size v n xs)(hb:Below w.heap.size w w'):w'.ownsRow base e size v n xs :=
 h.kept (row:=none) ⟨hb.os,hb.tape,hb.output,hb.size,fun k hk _=>hb.block k hk⟩ (Classical.em _)
structure Fam (w:World)(base n:Nat)(V:Nat->Value)(L:Nat->List Nat):Prop where
 own:∀j,j<n->w.ownsRow base 3 1 (V j) (L j).length (ui (L j))
 apart:∀i j,i<n->j<n->i≠j->(V i).ownBlock=none∨(V i).ownBlock≠(V j).ownBlock
theorem Fam.mono {w w':World}{base n:Nat}{V:Nat->Value}{L:Nat->List Nat}(h:Fam w base n V L)(hb:Below w.heap.size w w'):Fam w' base n V L:=⟨fun j hj=>qdw (h.own j hj) hb,h.apart⟩
theorem Fam.keep {X:Nat->Prop}{w w':World}{base n:Nat}{V:Nat->Value}{L:Nat->List Nat}(h:Fam w base n V L)(hk:KeepX X w w')(hx:∀k,X k->k<base):Fam w' base n V L:=⟨fun j hj=>qdu (h.own j hj) hk hx,h.apart⟩
theorem Fam.none (w:World)(base n:Nat):Fam w base n (fun _=>.slice none 0 0) (fun _=>[]):=⟨fun _ _=>World.ownsRow_nil _ _ _ _,fun _ _ _ _ _=>.inl rfl⟩
theorem Fam.sub {w:World}{base n n':Nat}{V:Nat->Value}{L:Nat->List Nat}(h:Fam w base n V L)(hn:n'<=n):Fam w base n' V L:=⟨fun j hj=>h.own j (by omega),fun i j hi hj=>h.apart i j (by omega) (by omega)⟩
theorem Fam.congr {w:World}{base n:Nat}{V V':Nat->Value}{L L':Nat->List Nat}(h:Fam w base n V L)(hV:∀j,j<n->V' j=V j)(hL:∀j,j<n->L' j=L j):Fam w base n V' L' :=
 ⟨fun j hj=>by rw[hV j hj,hL j hj];exact h.own j hj,fun i j hi hj hne=>by rw[hV i hi,hV j hj];exact h.apart i j hi hj hne⟩
theorem own_lt {w:World}{base n size:Nat}{e:TypeId}{v:Value}{xs:List Value}(h:w.ownsRow base e size v n xs){k:Nat}(hk:k ≥ w.heap.size):v.ownBlock≠some k:=fun e=>by have:=(h.lt k e).2;omega
theorem Fam.snoc {w w':World}{base n:Nat}{V:Nat->Value}{L:Nat->List Nat}{v:Value}{l:List Nat}(h:Fam w base n V L)(hb:Below w.heap.size w w')(hbs:base<=w.heap.size)(ho:w'.ownsRow w.heap.size 3 1 v l.length (ui l)):Fam w' base (n+1) (up V n v) (up L n l):=by
 have ho':w'.ownsRow base 3 1 v l.length (ui l):=by
  refine⟨ho.1,?_⟩;rcases ho.2 with h2 | ⟨g,cap,cur,h1,hb,r⟩
  . exact .inl h2
  . exact .inr ⟨g,cap,cur,h1,by omega,r⟩
 refine⟨fun j hj=>?_,fun i j hi hj hne=>?_⟩
 . by_cases e:j=n
   . subst e;rw[up_at,up_at];exact ho'
   . rw[up_ne _ _ e,up_ne _ _ e];exact qdw (h.own j (by omega)) hb
 . have hx:∀i,i<n->(V i).ownBlock=Option.none∨(V i).ownBlock≠v.ownBlock:=fun i hi=>by
    cases e1:(V i).ownBlock with
    | none=>exact .inl rfl
    | some q =>
     refine .inr fun e2=>?_;have h1:=((h.own i hi).lt q e1).2;have h2:=(ho.lt q e2.symm).1;omega
   by_cases ei:i=n
   . subst ei
     rw[up_at,up_ne _ _ (fun e=>hne e.symm)];rcases hx j (by omega) with h1 | h1
     . rw[h1]
       cases v.ownBlock with
       | none=>exact .inl rfl
       | some q=>exact .inr (by simp)
     . exact .inr fun e=>h1 e.symm
   . rw[up_ne _ _ ei]
     by_cases ej:j=n
     . subst ej;rw[up_at];exact hx i (by omega)
     . rw[up_ne _ _ ej];exact h.apart i j (by omega) (by omega) hne
theorem Fam.add {w w':World}{base n j x:Nat}{V:Nat->Value}{L:Nat->List Nat}{v:Value}(h:Fam w base n V L)(hj:j<n)(ho:w'.ownsRow base 3 1 v (L j++[x]).length (ui (L j++[x])))(hg:w.grownBy w' (V j).ownBlock)(hat:v.ownBlock=(V j).ownBlock∨v.ownBlock=some w.heap.size):Fam w' base n (up V j v) (up L j (L j++[x])):=by
 refine⟨fun i hi=>?_,fun i i' hi hi' hne=>?_⟩
 . by_cases e:i=j
   . subst e;rw[up_at,up_at];exact ho
   . rw[up_ne _ _ e,up_ne _ _ e];exact(h.own i hi).kept hg (h.apart i j hi hj e)
 . by_cases e:i=j
   . subst e
     rw[up_at,up_ne _ _ (fun e=>hne e.symm)];rcases hat with e2 | e2
     . rw[e2];exact h.apart i i' hi hi' hne
     . exact .inr fun e3=>own_lt (h.own i' hi') (nR _) (e3.symm.trans e2)
   . rw[up_ne _ _ e]
     by_cases e':i'=j
     . subst e'
       rw[up_at];rcases hat with e2 | e2
       . rw[e2];exact h.apart i i' hi hi' hne
       . exact .inr fun e3=>own_lt (h.own i hi) (nR _) (e3.trans e2)
     . rw[up_ne _ _ e'];exact h.apart i i' hi hi' hne
def HoldF (w:World)(F n:Nat)(V:Nat->Value):Prop:=Blk w F 77 ((List.range n).map V)
theorem HoldF.at {w:World}{F n:Nat}{V:Nat->Value}(h:HoldF w F n V){j:Nat}(hj:j<n):w.cell? ⟨F,j,none⟩=some (V j):=by
 have:=Blk.cell h j
 rw[this]
 simp[hj]
theorem HoldF.congr {w:World}{F n:Nat}{V V':Nat->Value}(h:HoldF w F n V)(hV:∀j,j<n->V' j=V j):HoldF w F n V':=by
 unfold HoldF
 rw[Zo fun j hj=>hV j (Y9.1 hj)]
 exact h
theorem qiu {w w':World}{base F n N j x:Nat}{V:Nat->Value}{L:Nat->List Nat}{v:Value}(hH:HoldF w F n V)(hF:F<base)(h:Fam w base N V L)(hj:j<N)(ho:w'.ownsRow base 3 1 v (L j++[x]).length (ui (L j++[x])))(hg:w.grownBy w' (V j).ownBlock)(hat:v.ownBlock=(V j).ownBlock∨v.ownBlock=some w.heap.size) :
 HoldF (w'.setCell ⟨F,j,none⟩ v) F n (up V j v)/\Fam (w'.setCell ⟨F,j,none⟩ v) base N (up V j v) (up L j (L j++[x])):=by
 constructor
 . have h1:Blk w' F 77 ((List.range n).map V):=Blk.grown hH hg (fun e=>by have:=((h.own j hj).lt F e.symm).1;omega)
   have h2:=h1.set j v;rw[show((List.range n).map V).set j v=(List.range n).map fun k=>up V j v k from map_up (fun x=>x) V n j v]at h2;exact h2
 . exact(h.add hj ho hg hat).keep (X:=fun b=>b=F) (KeepX.set (a:=⟨F,j,none⟩) v rfl) (fun k hk=>by omega)
theorem q80 {W w w':World}{base F j:Nat}{v u:Value}{n:Nat}{xs:List Value}(hb:Below F W w)(hFb:F<base)(hF:F<w.heap.size)(ho:w.ownsRow base 3 1 u n xs)(hg:w.grownBy w' u.ownBlock):Below F W (w'.setCell ⟨F,j,none⟩ v) :=
 (hb.grown hg (Nat.le_of_lt hF) (fun q e=>by have:=(ho.lt q e).1;omega)).setCell (p:=⟨F,j,none⟩) (nR _) v
def fedP (m:Fm)(k i j:Nat):List Nat:=fedT m k j++List.replicate (((fedL m k).take i).count j) k
theorem qch (m:Fm)(k:Nat):fedP m k 0=fedT m k:=by
 funext j
 unfold fedP
 simp
theorem qcf (m:Fm)(k:Nat):fedP m k (fedL m k).length=fedT m (k+1):=by
 funext j
 unfold fedP
 rw[Yz (nR _),qci]
theorem qcg {m:Fm}{k i:Nat}(h:i<(fedL m k).length):fedP m k (i+1)=up (fedP m k i) (fedL m k)[i] (fedP m k i (fedL m k)[i]++[k]):=by
 funext j
 unfold fedP
 rw[Ym h,V6]
 by_cases e:j=(fedL m k)[i]
 . subst e
   rw[up_at,List.count_singleton_self,Vi,List.replicate_succ']
 . rw[up_ne _ _ e,List.count_singleton,Yn (by simpa using fun h=>e h.symm),Zn]
theorem qih {l:List Nx}(h:ruleOk l=true):l.length<=1000:=by
 unfold ruleOk at h
 rw[Zj]at h
 rcases h with h | h
 . have:=Zb h;omega
 . unfold vxL at h
   exact((qog _ _).1 h).2.1
theorem qg3 {m:Fm}(h:VfA m){k:Nat}(hk:k<m.F.length):(fedL m k).length<=2000:=by
 have hok:=(q5t _ _ _).1 (h.fi _ (Ye hk))
 have h1:=qih hok.i
 have h2:=qih hok.h
 have h3:∀l,(rdL (fNames m) l).length<=l.length:=fun l=>by unfold rdL;rw[Z6];exact List.length_filter_le _ _
 have h4:=h3 m.F[k].is
 have h5:=h3 m.F[k].wh
 unfold fedL
 rw[qku hk,Yd]
 omega
theorem qg5 {m:Fm}(h:VfA m)(j:Nat):∀k,k<=m.F.length->(fedT m k j).length<=k*2000:=by
 intro k
 induction k with
 | zero=>intro _;simp[qcj]
 | succ k ih =>
  intro hk;have h1:=qg3 h (show k<m.F.length by omega);have h2:=Oj (a:=j) (l:=fedL m k);have h3:=ih (by omega);rw[qci,Yd,List.length_replicate];omega
theorem qg4 {m:Fm}(h:VfA m){k:Nat}(hk:k<m.F.length)(i j:Nat):(fedP m k i j).length<=402000:=by
 have h1:=qg5 h j k (by omega)
 have h2:=Oj (a:=j) (l:=(fedL m k).take i)
 have h3:=qg3 h hk
 have h4:=h.nf
 have h5:((fedL m k).take i).length<=(fedL m k).length:=List.length_take_le' _ _
 unfold fedP
 rw[Yd,List.length_replicate]
 omega
def cntL (L:Nat->List Nat)(j i:Nat):Nat:=((List.range j).map fun p=>(L p).count i).sum
theorem qbx (L:Nat->List Nat)(i:Nat):cntL L 0 i=0:=rfl
theorem qbv (L:Nat->List Nat)(j i:Nat):cntL L (j+1) i=cntL L j i+(L j).count i:=by
 unfold cntL
 rw[Zh]
 simp
def cntP (L:Nat->List Nat)(j p i:Nat):Nat:=cntL L j i+((L j).take p).count i
theorem qc0 (L:Nat->List Nat)(j:Nat):cntP L j 0=cntL L j:=by
 funext i
 unfold cntP
 simp
theorem qby (L:Nat->List Nat)(j:Nat):cntP L j (L j).length=cntL L (j+1):=by
 funext i
 unfold cntP
 rw[Yz (nR _),qbv]
theorem qbz {L:Nat->List Nat}{j p:Nat}(h:p<(L j).length)(i:Nat):cntP L j (p+1) i=up (cntP L j p) (L j)[p] (cntP L j p (L j)[p]+1) i:=by
 unfold cntP
 rw[Ym h,V6]
 by_cases e:i=(L j)[p]
 . subst e
   rw[up_at,List.count_singleton_self];omega
 . rw[up_ne _ _ e,List.count_singleton,Yn (by simpa using fun h=>e h.symm),Zn]
theorem qbw {m:Fm}(h:VfA m){i:Nat}(hi:i<m.F.length):((cntL (fedT m m.F.length) m.F.length i:Nat):Int)=waitZ m [] i:=by
 rw[qb6]
 unfold cntL
 rw[Zo (fun p _=>by rw[q8l,Yv hi]),qeq _ _ (qky h hi)]
theorem qke {L:Nat->List Nat}{B:Nat}(hL:∀j,(L j).length<=B)(i:Nat):∀j,cntL L j i<=j*B:=by
 intro j
 induction j with
 | zero=>simp[qbx]
 | succ j ih =>
  have:=Oj (a:=i) (l:=L j);have:=hL j;rw[qbv,Zx];omega
def waitP (m:Fm)(D:List Nat)(x p k:Nat):Int:=waitZ m D k - (if k=x then 1 else 0) - ((fedT m m.F.length x).take p).count k
theorem qb5 (m:Fm)(D:List Nat)(x:Nat)(k:Nat):up (waitZ m D) x (waitZ m D x - 1) k=waitP m D x 0 k:=by
 unfold waitP
 by_cases e:k=x
 . subst e;rw[up_at,Yv rfl];simp
 . rw[up_ne _ _ e,Yn e];simp
theorem qb4 {m:Fm}{D:List Nat}{x p:Nat}(h:p<(fedT m m.F.length x).length)(k:Nat):up (waitP m D x p) (fedT m m.F.length x)[p] (waitP m D x p (fedT m m.F.length x)[p] - 1) k=waitP m D x (p+1) k:=by
 unfold waitP
 rw[Ym h,V6]
 by_cases e:k=(fedT m m.F.length x)[p]
 . subst e
   rw[up_at,List.count_singleton_self];omega
 . have hc:((fedT m m.F.length x)[p]==k)=false:=Ya.2 fun h=>e h.symm
   rw[up_ne _ _ e,List.count_singleton,hc];simp
theorem qb3 {m:Fm}{D:List Nat}{x:Nat}(hx:x ∉ D){k:Nat}(hk:k<m.F.length):waitP m D x (fedT m m.F.length x).length k=waitZ m (D++[x]) k:=by
 rw[qf8 m D x hx k]
 unfold waitP
 rw[Yz (nR _),q8l,Yv hk]
 omega
theorem qi8 {l:List Nx}{x:ByteArray}{k:Nat}(h:k<l.length)(h1:(nf l k).op=1)(h2:(nf l k).nm=x):rdsN l x=true:=by
 unfold rdsN
 refine List.any_eq_true.2 ⟨l[k],Ye h,?_⟩
 rw[nf_get l k h]at h1 h2
 simp[h1,h2]
theorem qnf {l:List Nx}{x:ByteArray}(h:∀k,k<l.length->¬ ((nf l k).op=1/\(nf l k).nm=x)):rdsN l x=false:=by
 unfold rdsN
 refine List.any_eq_false.2 fun n hn=>?_
 obtain⟨k,hk,rfl⟩:=Yw.1 hn
 have:=h k hk
 rw[nf_get l k hk]at this
 simpa using this
theorem q6i (a:Option Addr)(c:Nat)(l:List Nx)(x:ByteArray)(w:World)(hl:l.length<=9223372036854775807)(ha:NodL w a l) :
 Calls Tryz.prog 171 #[.slice a l.length c,.string x] w fun r w'=>r=.returned (.bool (rdsN l x))/\Below w.heap.size w w':=by
 have HA:=h_ ha
 obtain⟨q,hq⟩:=Nq (rdsN l x)
 rw[hq]
 have HQ:=h_ hq
 clear ha hq
 go_enter Tryz.func171,Tryz.ntmps171
 go_wp2_with fail
 go_loopw [5] (fun i wr=>∃k:Nat,k<=l.length/\i=J6 k/\(∀j,j<k->¬ ((nf l j).op=1/\(nf l j).nm=x))/\Below w.heap.size w wr) (fun i _=>l.length - (intOf i).toNat)
 case atStart=>exact⟨0,nZ _,rfl,fun j hj=>absurd hj (nL _),bR _ _⟩
 case round =>
  obtain⟨k,hk,rfl,hall,hb⟩:=hrel;have HL:=h_ hall;have HB:=h_ hb;have HAr:=h_ (HA.u.mono hb);clear hall hb;by_cases hlt:k<l.length
  . have hlt':(k:Int)<l.length:=by omega
    obtain⟨pb,po,rfl,-,z0,z1,z2,z3,z4⟩:=HAr.u k hlt;have HX:Hi ((nf l k).op=1->(nf l k).nm=x->q=true):=h_ fun h1 h2=>by rw[<- HQ.u,qi8 hlt h1 h2]
    have HG:Hi (¬ ((nf l k).op=1/\(nf l k).nm=x)->∀j,j<k+1->¬ ((nf l j).op=1/\(nf l j).nm=x)):=h_ fun h j hj=>by
     by_cases ej:j=k
     . subst ej;exact h
     . exact HL.u j (by omega)
    generalize nf l k=n at *;have he:=eqS n.nm x;by_cases h1:n.op=1
    . have h1':(n.op==1)=true:=by rw[h1];rfl
      by_cases h2:n.nm=x
      . have HX2:=h_ (HX.u h1 h2)
        rw[Yj h2]at he;clear h1 h2;go_wp2_with fail;go_ret;exact⟨qia HX2.u.symm,HB.u⟩
      . have HG2:=h_ (HG.u fun h=>h2 h.2)
        rw[Yb h2]at he;clear h1 h2;go_wp2_with fail;go_roundw
        case rel=>first | exact⟨k+1,by omega,by go_num,HG2.u,HB.u⟩ | ((repeat apply Exists.intro);exact⟨⟨k+1,by omega,by go_num,HG2.u,HB.u⟩,rfl⟩)
        case measure=>simp[intOf];omega
    . have h1':(n.op==1)=false:=by simp[h1]
      have HG2:=h_ (HG.u fun h=>h1 h.1);clear h1 he;go_wp2_with fail;go_roundw
      case rel=>first | exact⟨k+1,by omega,by go_num,HG2.u,HB.u⟩ | ((repeat apply Exists.intro);exact⟨⟨k+1,by omega,by go_num,HG2.u,HB.u⟩,rfl⟩)
      case measure=>simp[intOf];omega
  . obtain rfl:k=l.length:=by omega
    have hlt':¬ (l.length:Int)<(l.length:Int):=(by omega);have HX:Hi (q=false):=h_ (by rw[<- HQ.u,qnf HL.u]);go_wp2_with fail;go_ret;exact⟨qia HX.u.symm,HB.u⟩
theorem q6f (m:Fm)(A:MA)(j k:Nat)(w:World)(hj:j<m.F.length)(hk:k<m.F.length)(hf:FitM m)(ha:MSl w m A) :
 Calls Tryz.prog 138 #[mV m A,J6 j,J6 k] w fun r w'=>r=.returned (.bool (fedB m j k))/\Below w.heap.size w w':=by
 obtain⟨al,alc,ap,apc,ar,arc,af,afc,afa⟩:=A
 unfold mV
 dsimp only
 have HK:=h_ (Blk.new w 36 (Jb al m alc ap apc ar arc af afc))
 have HB:=h_ ((bR w.heap.size w).alloc (nR _) (.cells (Jb al m alc ap apc ar arc af afc) 36))
 obtain⟨W0,hW0⟩:=Nq (w.alloc (.cells (Jb al m alc ap apc ar arc af afc) 36))
 rw[hW0]at HK HB
 have HS:=h_ (ha.mono HB.u)
 have hj':(j:Int)<m.F.length:=by omega
 have hk':(k:Int)<m.F.length:=by omega
 have hfl:=hf.fl
 have HE:Hi (fedB m j k=(rdsN m.F[k].is m.F[j].nm||rdsN m.F[k].wh m.F[j].nm)):=h_ (by unfold fedB;rw[qku hj,qku hk])
 have HI:=h_ (hf.f _ (Ye hk))
 clear ha hf
 obtain⟨b,o,e1,⟨-,z0,-⟩,-⟩:=HS.u.f j hj
 obtain⟨b',o',e2,⟨hbl,-,-,-,-,x4,x5,-⟩,hsl⟩:=HS.u.f k hk
 dsimp only at e1 e2 x4 x5 hsl
 subst e1
 cases e2
 have HSl:=h_ hsl
 clear hsl
 generalize m.F[j].nm=nm at *
 generalize m.F[k]=f at *
 generalize afa k=fa at *
 obtain⟨ab,abc,ai,aic,ah,ahc,av,avc,au,auc⟩:=fa
 dsimp only at x4 x5
 have HC1:=h_ (q6i ai aic f.is nm W0 HI.u.il HSl.u.i)
 obtain⟨y0,y1,y2,y3⟩:=quad HK.u
 generalize fedB m j k=q at *
 go_enter Tryz.func138,Tryz.ntmps138
 go_wp2_with fail
 try rw[hW0]
 refine HC1.u.mono ?_
 rintro r W1 ⟨rfl,hb⟩
 have hx5:=(hb.cell (p:=⟨b,o+k*9+5,none⟩) hbl).trans x5
 replace HK:=mB HK hb;replace HB:=mT HB hb;replace HSl:=h_ (HSl.u.mono hb)
 clear hb hW0 y0 y1 y2 y3 z0 x4 x5 HC1
 obtain⟨y0,y1,y2,y3⟩:=quad HK.u
 cases hr:rdsN f.is nm
 . have HC2:=h_ (q6i ah ahc f.wh nm W1 HI.u.hl HSl.u.h)
   have HX:Hi (q=rdsN f.wh nm):=h_ (by rw[HE.u,hr];rfl);clear hr;go_wp2_with fail;refine HC2.u.mono ?_;rintro r W2 ⟨rfl,hb⟩;replace HB:=mT HB hb;clear hb;go_wp2_with fail;go_ret;exact⟨qia HX.u.symm,HB.u⟩
 . have HX:Hi (q=true):=h_ (by rw[HE.u,hr];rfl)
   clear hr;go_wp2_with fail;go_ret;exact⟨qia HX.u.symm,HB.u⟩
def Plc (w:World)(a:Option Addr)(l:List Nat):Prop:=IntL w a (l.map fun x:Nat=>(x:Int))
theorem Plc.mono {w w':World}{a:Option Addr}{l:List Nat}(h:Plc w a l)(hb:Below w.heap.size w w'):Plc w' a l:=IntL.mono h hb
theorem Plc.at {w:World}{a:Option Addr}{l:List Nat}(h:Plc w a l)(k:Nat)(hk:k<l.length):∃b o,a=some ⟨b,o,none⟩/\b<w.heap.size/\w.cell? ⟨b,o+k,none⟩=some (J6 (l[k]:Int)):=by
 obtain⟨b,o,e,h1,h2⟩:=h k (by simpa using hk)
 refine⟨b,o,e,h1,?_⟩
 rw[h2]
 dsimp only
 rw[Yo,Zg,Yc hk]
 rfl
def Le (f:Nat->Bool)(n a b:Nat):Prop:=a<n/\b<n/\f (a*n+b)=true
theorem qht {f:Nat->Bool}{n a b:Nat}:part f n (n*n) a b=true ↔ Le f n a b:=by
 unfold part Le
 simp only[Yf,decide_eq_true_iff]
 constructor
 . rintro⟨⟨h1,h2⟩,h3⟩
   refine⟨?_,h1,h3⟩;apply V9;intro h;have:=Vd n h;omega
 . rintro⟨h1,h2,h3⟩
   exact⟨⟨h2,idx_lt h1 h2⟩,h3⟩
section
variable {n:Nat} {f:Nat->Bool} {u c d:Nat->Nat}
theorem u_bit (hu:IsRel u (part f n (n*n))){a:Nat}(ha:a<32)(b:Nat):(u a).testBit b=true ↔ Le f n a b:=by rw[(hu a ha).2 b];exact qht
theorem d_bit (hd:IsRel d (fun b a=>decide (a<n)&&part f n (n*n) a b)){a:Nat}(ha:a<32)(b:Nat):(d a).testBit b=true ↔ Le f n b a:=by
 rw[(hd a ha).2 b,Yf,decide_eq_true_iff,qht]
 exact⟨fun h=>h.2,fun h=>⟨h.1,h⟩⟩
theorem qea (hn:n<=32)(hu:IsRel u (part f n (n*n)))(hc:IsReach c (fun a b=>a<n/\Reach u a b))(h:sameN u c=true):(∀a,a<n->Le f n a a)/\∀a b e,Le f n a b->Le f n b e->Le f n a e:=by
 rw[qe9]at h
 have key:∀a b,a<n->Reach u a b->Le f n a b:=fun a b ha hr=>by
  rw[<- u_bit hu (by omega),h a (by omega),(hc a (by omega)).2 b];exact⟨ha,hr⟩
 refine⟨fun a ha=>key a a ha (Reach.refl _ _),fun a b e h1 h2=>?_⟩
 have ha:=h1.1;have hb:=h1.2.1
 have r1:Reach u a b:=(Reach.refl u a).step (by omega) ((u_bit hu (by omega) b).2 h1)
 exact key a e h1.1 (r1.step (by omega) ((u_bit hu (by omega) e).2 h2))
theorem qoa (hn:n<=32)(hu:IsRel u (part f n (n*n)))(hd:IsRel d (fun b a=>decide (a<n)&&part f n (n*n) a b))(hr:∀a,a<n->Le f n a a){a:Nat}(ha:a<n) :
 commonN (u a) (d a)=2 ^ a ↔ ∀b,Le f n a b->Le f n b a->a=b:=by
 have bits:∀b,(commonN (u a) (d a)).testBit b=true ↔ Le f n a b/\Le f n b a:=fun b=>by
  rw[q5h (hu a (by omega)).1 (hd a (by omega)).1,Yf,u_bit hu (by omega),d_bit hd (by omega)]
 constructor
 . intro h b h1 h2
   have:=(bits b).2 ⟨h1,h2⟩;rw[h,Z8,decide_eq_true_iff]at this;exact this
 . intro h
   apply Nat.eq_of_testBit_eq;intro b;rw[Zk,bits,Z8,decide_eq_true_iff];exact⟨fun⟨h1,h2⟩=>h b h1 h2,fun e=>by subst e;exact⟨hr a ha,hr a ha⟩⟩
theorem q9s {s t:Nat}(hs:s<4294967296)(ht:t<4294967296):minusN s t=0 ↔ ∀x,s.testBit x=true->t.testBit x=true:=by
 constructor
 . intro h x hx
   have:=q9r hs ht x;rw[h,hx]at this;simpa using this.symm
 . intro h
   apply Nat.eq_of_testBit_eq;intro x;rw[q9r hs ht x];cases e:s.testBit x
   . simp
   . simp[h x e]
theorem qgv (hn:n<=32)(hu:IsRel u (part f n (n*n))){a b e:Nat}(ha:a<n)(hb:b<n)(he:e<32) :
 ((commonN (u a) (u b)).testBit e=true/\minusN (commonN (u a) (u b)) (u e)=0) ↔ (e<n/\isJoinP f n a b e):=by
 have ua:=(hu a (by omega)).1;have ub:=(hu b (by omega)).1
 rw[q9s (q89 ua) (hu e he).1,q5h ua ub,Yf,u_bit hu (by omega),u_bit hu (by omega)]
 have hx:∀x,(commonN (u a) (u b)).testBit x=true ↔ Le f n a x/\Le f n b x:=fun x=>by rw[q5h ua ub,Yf,u_bit hu (by omega),u_bit hu (by omega)]
 unfold isJoinP
 constructor
 . rintro⟨⟨h1,h2⟩,h3⟩
   refine⟨h1.2.1,h1.2.2,h2.2.2,fun x hxn h4 h5=>?_⟩;exact((u_bit hu he x).1 (h3 x ((hx x).2 ⟨⟨ha,hxn,h4⟩,⟨hb,hxn,h5⟩⟩))).2.2
 . rintro⟨h0,h1,h2,h3⟩
   refine⟨⟨⟨ha,h0,h1⟩,⟨hb,h0,h2⟩⟩,fun x hx'=>?_⟩;obtain⟨h4,h5⟩:=(hx x).1 hx';exact(u_bit hu he x).2 ⟨h0,h4.2.1,h3 x h4.2.1 h4.2.2 h5.2.2⟩
theorem qh4 (hn:n<=32)(hd:IsRel d (fun b a=>decide (a<n)&&part f n (n*n) a b)){a b e:Nat}(ha:a<n)(hb:b<n)(he:e<32) :
 ((commonN (d a) (d b)).testBit e=true/\minusN (commonN (d a) (d b)) (d e)=0) ↔ (e<n/\isMeetP f n a b e):=by
 have ua:=(hd a (by omega)).1;have ub:=(hd b (by omega)).1
 rw[q9s (q89 ua) (hd e he).1,q5h ua ub,Yf,d_bit hd (by omega),d_bit hd (by omega)]
 have hx:∀x,(commonN (d a) (d b)).testBit x=true ↔ Le f n x a/\Le f n x b:=fun x=>by rw[q5h ua ub,Yf,d_bit hd (by omega),d_bit hd (by omega)]
 unfold isMeetP
 constructor
 . rintro⟨⟨h1,h2⟩,h3⟩
   refine⟨h1.1,h1.2.2,h2.2.2,fun x hxn h4 h5=>?_⟩;exact((d_bit hd he x).1 (h3 x ((hx x).2 ⟨⟨hxn,ha,h4⟩,⟨hxn,hb,h5⟩⟩))).2.2
 . rintro⟨h0,h1,h2,h3⟩
   refine⟨⟨⟨h0,ha,h1⟩,⟨h0,hb,h2⟩⟩,fun x hx'=>?_⟩;obtain⟨h4,h5⟩:=(hx x).1 hx';exact(d_bit hd he x).2 ⟨h4.1,h0,h3 x h4.1 h4.2.2 h5.2.2⟩
theorem q8e (hn:n<=32)(hu:IsRel u (part f n (n*n))){a b:Nat}(ha:a<n)(hb:b<n){v:Int}(h:Entry u a b v) :
 (∃e:Nat,e<n/\v=e/\isJoinP f n a b e)∨(v = -1/\∀e,e<n->¬ isJoinP f n a b e):=by
 rcases h with ⟨e,he,rfl,h1,h2⟩ | ⟨rfl,h⟩
 . obtain⟨h3,h4⟩:=(qgv hn hu ha hb he).1 ⟨h1,h2⟩
   exact .inl ⟨e,h3,rfl,h4⟩
 . refine .inr ⟨rfl,fun e he hj=>?_⟩
   obtain⟨h3,h4⟩:=(qgv hn hu ha hb (by omega)).2 ⟨he,hj⟩;exact h e h3 h4
theorem q8f (hn:n<=32)(hd:IsRel d (fun b a=>decide (a<n)&&part f n (n*n) a b)){a b:Nat}(ha:a<n)(hb:b<n){v:Int}(h:Entry d a b v) :
 (∃e:Nat,e<n/\v=e/\isMeetP f n a b e)∨(v = -1/\∀e,e<n->¬ isMeetP f n a b e):=by
 rcases h with ⟨e,he,rfl,h1,h2⟩ | ⟨rfl,h⟩
 . obtain⟨h3,h4⟩:=(qh4 hn hd ha hb he).1 ⟨h1,h2⟩
   exact .inl ⟨e,h3,rfl,h4⟩
 . refine .inr ⟨rfl,fun e he hj=>?_⟩
   obtain⟨h3,h4⟩:=(qh4 hn hd ha hb (by omega)).2 ⟨he,hj⟩;exact h e h3 h4
theorem qjr (n x:Nat):(2 ^ n - 1).testBit x=true ↔ x<n:=by rw[Nat.testBit_two_pow_sub_one];simp
theorem bot_of (hn:n<=32)(hu:IsRel u (part f n (n*n))){v:Int}(h:Least u (2 ^ n - 1) v):(∃e:Nat,e<n/\v=e/\∀x,x<n->Le f n e x)∨(v = -1/\∀e,e<n->¬ ∀x,x<n->Le f n e x):=by
 rcases h with ⟨e,he,rfl,h1,h2⟩ | ⟨rfl,h⟩
 . rw[q9s (all_lt hn) (hu e he).1]at h2
   exact .inl ⟨e,(qjr n e).1 h1,rfl,fun x hx=>(u_bit hu he x).1 (h2 x ((qjr n x).2 hx))⟩
 . refine .inr ⟨rfl,fun e he hall=>h e ((qjr n e).2 he) ?_⟩
   rw[q9s (all_lt hn) (hu e (by omega)).1];exact fun x hx=>(u_bit hu (by omega) x).2 (hall x ((qjr n x).1 hx))
theorem top_of (hn:n<=32)(hd:IsRel d (fun b a=>decide (a<n)&&part f n (n*n) a b)){v:Int}(h:Least d (2 ^ n - 1) v):(∃e:Nat,e<n/\v=e/\∀x,x<n->Le f n x e)∨(v = -1/\∀e,e<n->¬ ∀x,x<n->Le f n x e):=by
 rcases h with ⟨e,he,rfl,h1,h2⟩ | ⟨rfl,h⟩
 . rw[q9s (all_lt hn) (hd e he).1]at h2
   exact .inl ⟨e,(qjr n e).1 h1,rfl,fun x hx=>(d_bit hd he x).1 (h2 x ((qjr n x).2 hx))⟩
 . refine .inr ⟨rfl,fun e he hall=>h e ((qjr n e).2 he) ?_⟩
   rw[q9s (all_lt hn) (hd e (by omega)).1];exact fun x hx=>(d_bit hd (by omega) x).2 (hall x ((qjr n x).1 hx))
theorem ql8 {n:Nat}{f:Nat->Bool}(h1:1<=n)(ht:∀a b e,Le f n a b->Le f n b e->Le f n a e)(hm:∀a,a<n->∀b,b<n->∃e,e<n/\isMeetP f n a b e):∃e,e<n/\∀x,x<n->Le f n e x:=by
 have key:∀k,k<=n->∃e,e<n/\∀x,x<k->Le f n e x:=fun k=>by
  induction k with
  | zero=>exact fun _=>⟨0,by omega,fun x h=>absurd h (nL _)⟩
  | succ k ih =>
   intro hk;obtain⟨e,he,hx⟩:=ih (by omega);obtain⟨q,hq,h2,h3,-⟩:=hm e he k (by omega);refine⟨q,hq,fun x hxk=>?_⟩;by_cases ex:x=k
   . subst ex;exact⟨hq,by omega,h3⟩
   . exact ht q e x ⟨hq,he,h2⟩ (hx x (by omega))
 exact key n (nR _)
theorem qla {n:Nat}{f:Nat->Bool}(h1:1<=n)(ht:∀a b e,Le f n a b->Le f n b e->Le f n a e)(hm:∀a,a<n->∀b,b<n->∃e,e<n/\isJoinP f n a b e):∃e,e<n/\∀x,x<n->Le f n x e:=by
 have key:∀k,k<=n->∃e,e<n/\∀x,x<k->Le f n x e:=fun k=>by
  induction k with
  | zero=>exact fun _=>⟨0,by omega,fun x h=>absurd h (nL _)⟩
  | succ k ih =>
   intro hk;obtain⟨e,he,hx⟩:=ih (by omega);obtain⟨q,hq,h2,h3,-⟩:=hm e he k (by omega);refine⟨q,hq,fun x hxk=>?_⟩;by_cases ex:x=k
   . subst ex;exact⟨by omega,hq,h3⟩
   . exact ht x e q (hx x (by omega)) ⟨he,hq,h2⟩
 exact key n (nR _)
theorem qgx {n:Nat}{f:Nat->Bool}(hs:∀a b,Le f n a b->Le f n b a->a=b){a b e q:Nat}(he:e<n)(hq:q<n)(h:isJoinP f n a b e)(h':isJoinP f n a b q):e=q :=
 hs e q ⟨he,hq,h.2.2 q hq h'.1 h'.2.1⟩ ⟨hq,he,h'.2.2 e he h.1 h.2.1⟩
theorem qh5 {n:Nat}{f:Nat->Bool}(hs:∀a b,Le f n a b->Le f n b a->a=b){a b e q:Nat}(he:e<n)(hq:q<n)(h:isMeetP f n a b e)(h':isMeetP f n a b q):e=q :=
 hs e q ⟨he,hq,h'.2.2 e he h.1 h.2.1⟩ ⟨hq,he,h.2.2 q hq h'.1 h'.2.1⟩
theorem qcv {n i:Nat}(h:i<n*n):i / n<n/\i % n<n/\i / n*n+i % n=i:=by
 have hn:0<n:=by
  apply Nat.pos_of_ne_zero;intro e;subst e;simp at h
 exact⟨(Nat.div_lt_iff_lt_mul hn).2 h,Nat.mod_lt _ hn,by rw[Nat.mul_comm];exact Nat.div_add_mod i n⟩
end
end Go.Proofs.YtgojgjlninakjaaGreatDoor
