import Derived.Test.YtebbgodlijlioaaGreatDoorW05
import Derived.RangeFuncNested
import Derived.RangeFuncBound
import Derived.RangeFuncCalls
import Derived.RangeFuncLeaves
import Derived.Shelf.Abstract
import Derived.Shelf.RegionOpen
import Derived.OwnWalkIn
import Derived.TacticsInMore
import Derived.LoopNIn
import Derived.LoopIn
import Derived.Laws.Tables
set_option maxRecDepth 100000
set_option maxHeartbeats 64000000
namespace Go.Proofs.YtebbgodlijlioaaGreatDoor
open Go Go.RowKit
def Byts (w:World)(a:Option Addr)(n:Nat)(f:Nat->Nat):Prop :=
 ∀k,k<n->f k<256/\∃b off,a=some ⟨b,off,none⟩/\b<w.heap.size/\w.cell? ⟨b,off+k,none⟩=some (.int .u8 (f k))
theorem Byts.mono {w w':World}{a:Option Addr}{n:Nat}{f:Nat->Nat}(h:Byts w a n f)(hb:Below w.heap.size w w'):Byts w' a n f:=fun k hk=>by
 obtain⟨h0,b,off,rfl,hl,hc⟩:=h k hk
 exact⟨h0,b,off,rfl,Y7 hl hb.size,(hb.cell (p:=⟨b,off+k,none⟩) hl).trans hc⟩
theorem qgt (n:Nat)(h:n<4294967296):IntKind.i64.wrap (n:Int)=(n:Int):=by
 simp[IntKind.wrap,IntKind.bits,IntKind.signed]
 omega
theorem qgu (s t:Nat)(hs:s<2 ^ 32)(ht:t<2 ^ 32):bits .xor .i64 (s:Int) (t:Int)=((s ^^^ t:Nat):Int):=by
 have h1:s % 2 ^ 64=s:=Zw (by omega)
 have h2:t % 2 ^ 64=t:=Zw (by omega)
 have h3:s ^^^ t<2 ^ 32:=Nat.xor_lt_two_pow hs ht
 show IntKind.i64.wrap ((BitVec.ofInt 64 (s:Int) ^^^ BitVec.ofInt 64 (t:Int)).toNat:Int)=_
 rw[BitVec.toNat_xor,BitVec.ofInt_natCast,BitVec.ofInt_natCast,BitVec.toNat_ofNat,BitVec.toNat_ofNat,h1,h2]
 exact qgt _ (by omega)
def tkD (len:Nat)(f:Nat->Nat)(p n:Nat):Nat :=
 if len=0 then 0 else if p<len then f p % n else
  ((f (p % len)*131+f ((p*7+3) % len)*17+p*29+p / len*53) ^^^ ((f (p % len)*131+f ((p*7+3) % len)*17+p*29+p / len*53) / 64)) % 9973 % n
theorem q7c (len:Nat)(f:Nat->Nat)(p n:Nat)(hlen:len<=1048576)(hp:p<=1048576)(hn:1<=n)(hn2:n<=1048576):∃v:Nat,v=tkD len f p n/\v<n/\∀(w:World) (a:Option Addr) (c:Nat),Byts w a len f ->
 Calls Tryz.prog 18 #[.slice a len c,J9 p,J9 n] w fun e w'=>e=.returned (.tuple (Jp v ((p+1:Nat):Int)))/\w'=w:=by
 have hn1:¬ (n:Int)<1:=by omega
 by_cases h0:len=0
 . subst h0
   refine⟨0,by rw[tkD,Yy rfl],by omega,fun w a c _=>?_⟩;go_enter Tryz.func18,Tryz.ntmps18;go_wp2;exact bodyPost_ret (v:=.tuple #[J9 0,J9 ((p:Int)+1)]) (by simp[results,Tryz.results18,go_sem, *]) rfl ⟨by simp,rfl⟩
 by_cases h1:p<len
 . refine⟨f p % n,by rw[tkD,Yu h0,Yy h1],Vq _ (by omega),fun w a c hb=>?_⟩
   obtain⟨q,b,off,rfl,hl,hc⟩:=hb p h1;clear hb;go_enter Tryz.func18,Tryz.ntmps18;go_wp2;exact bodyPost_ret (v:=.tuple (Jp ((f p:Int) % n) ((p:Int)+1))) (by simp[results,Tryz.results18,go_sem, *]) rfl ⟨by simp,rfl⟩
 . have m1:p % len<len:=Vq _ (by omega)
   have m2:(p*7+3) % len<len:=Vq _ (by omega);obtain⟨I,hI⟩:=Nq (p % len);obtain⟨K,hK⟩:=Nq ((p*7+3) % len);rw[hI]at m1;rw[hK]at m2;have hI':(p:Int) % len=I:=by rw[<- hI];rfl
   have hK':((p:Int)*7+3) % len=K:=by rw[<- hK];simp
   obtain⟨A,hA⟩:=Nq (f I);obtain⟨B,hB⟩:=Nq (f K);obtain⟨D,hD⟩:=Nq (p / len);obtain⟨X,hX⟩:=Nq (A*131+B*17+p*29+D*53);obtain⟨Y,hY⟩:=Nq (X ^^^ (X / 64));refine⟨Y % 9973 % n,by rw[tkD,Yu h0,Yu h1,hI,hK,hA,hB,hD,hX,hY],Vq _ (by omega),fun w a c hb=>?_⟩;obtain⟨q1,b,off,rfl,hl,hc1⟩:=hb _ m1;obtain⟨q2,b',off',e,-,hc2⟩:=hb _ m2;cases e;clear hb;rw[hA]at q1 hc1;rw[hB]at q2 hc2;have hD':D<=1048576:=by rw[<- hD];exact Ys (Of _ _) hp
   have hX':X<2 ^ 32:=by omega
   have hY':Y<2 ^ 32:=by rw[<- hY];exact Nat.xor_lt_two_pow hX' (Nat.lt_of_le_of_lt (Of _ _) hX')
   have hD2:(p:Int) / len=D:=by rw[<- hD];rfl
   have hX2:(A:Int)*131+B*17+p*29+D*53=X:=by omega
   have hX3:bits .xor .i64 (X:Int) ((X:Int) / 64)=Y:=by
    rw[<- hY,show(X:Int) / 64=((X / 64:Nat):Int) from rfl];exact qgu _ _ hX' (Nat.lt_of_le_of_lt (Of _ _) hX')
   have hX4:((Y:Int).tmod 9973).tmod n=(Y % 9973 % n:Nat):=rfl;clear hI hK hA hB hX hD hY;go_enter Tryz.func18,Tryz.ntmps18;go_wp2;exact bodyPost_ret (v:=.tuple (Jp ((Y:Int) % 9973 % n) ((p:Int)+1))) (by simp[results,Tryz.results18,go_sem, *]) rfl ⟨by simp,rfl⟩
theorem qjv {len:Nat}{f:Nat->Nat}{p n:Nat}(h1:len<=1048576)(h2:p<=1048576)(h3:1<=n)(h4:n<=1048576):tkD len f p n<n/\∀(w:World) (a:Option Addr) (c:Nat),Byts w a len f ->
 Calls Tryz.prog 18 #[.slice a len c,J9 p,J9 n] w fun e w'=>e=.returned (.tuple (Jp (tkD len f p n) ((p+1:Nat):Int)))/\w'=w:=by
 obtain⟨v,e,h⟩:=q7c len f p n h1 h2 h3 h4
 subst e
 exact h
theorem qju {len:Nat}{f:Nat->Nat}{p n:Nat}(h1:len<=1048576)(h2:p<=1048576)(h3:1<=n)(h4:n<=1048576){w:World}{a:Option Addr}(c:Nat)(hB:Byts w a len f){P M:Int}(hP:P=p)(hM:M=n) :
 Calls Tryz.prog 18 #[.slice a len c,J9 P,J9 M] w fun e w'=>e=.returned (.tuple (Jp (tkD len f p n) (P+1)))/\w'=w:=by
 subst hP hM
 exact((qjv (f:=f) h1 h2 h3 h4).2 w a c hB).mono fun e w' ⟨h,h'⟩=>⟨by rw[h];rfl,h'⟩
theorem tk_lt {len:Nat}{f:Nat->Nat}{p n:Nat}(h1:len<=1048576)(h2:p<=1048576)(h3:1<=n)(h4:n<=1048576):tkD len f p n<n:=(qjv (f:=f) h1 h2 h3 h4).1
theorem q7b (len per lo hi:Nat)(a:Option Addr)(c:Nat)(w:World)(h1:len<=1048576)(hp:1<=per)(hp2:per<=1000)(hl:lo<=1000)(hh:hi<=1000) :
 Calls Tryz.prog 42 #[.slice a len c,J9 per,J9 lo,J9 hi] w fun e w'=>e=.returned (J9 (min (lo+len / per) hi:Nat))/\w'=w:=by
 obtain⟨d,hd⟩:=Nq (len / per)
 have hd2:d<=1048576:=by rw[<- hd];exact Ys (Of _ _) h1
 have hd3:(len:Int) / per=d:=by rw[<- hd];rfl
 have hd4:(len:Int).tdiv per=d:=by rw[<- hd];rfl
 have hp0:¬ (per:Int)=0:=by omega
 rw[hd]
 clear hd
 by_cases h:hi<lo+d
 . have h':(hi:Int)<lo+d:=by omega
   rw[Nat.min_eq_right (by omega)];go_enter Tryz.func42,Tryz.ntmps42;go_wp2
   all_goals first | omega | (go_ret;exact⟨rfl,rfl⟩)
 . have h':¬ (hi:Int)<lo+d:=by omega
   rw[Oo (by omega)];go_enter Tryz.func42,Tryz.ntmps42;go_wp2
   all_goals first | omega | (go_ret;exact⟨by simp,rfl⟩)
theorem q7g (i:Int):∃s:ByteArray,s.size<=64/\∀w:World,Calls Tryz.prog 105 #[J9 i] w fun e w'=>e=.returned (.string s)/\w'=w:=by
 rcases (show i=0∨i=1∨i=2∨i=3∨i=4∨i=5∨i=6∨i=7∨i=8∨i=9∨i=10∨(¬ i=0/\¬ i=1/\¬ i=2/\¬ i=3/\¬ i=4/\¬ i=5/\¬ i=6/\¬ i=7/\¬ i=8/\¬ i=9/\¬ i=10) by omega) with rfl | rfl | rfl | rfl | rfl | rfl | rfl | rfl | rfl | rfl | rfl | ⟨n0,n1,n2,n3,n4,n5,n6,n7,n8,n9,n10⟩
 . refine⟨⟨#[]⟩,by decide,fun w=>?_⟩
   go_enter Tryz.func105,Tryz.ntmps105;go_wp2;go_ret;exact⟨rfl,rfl⟩
 . refine⟨⟨#[97]⟩,by decide,fun w=>?_⟩
   go_enter Tryz.func105,Tryz.ntmps105;go_wp2;go_ret;exact⟨rfl,rfl⟩
 . refine⟨⟨#[97,98]⟩,by decide,fun w=>?_⟩
   go_enter Tryz.func105,Tryz.ntmps105;go_wp2;go_ret;exact⟨rfl,rfl⟩
 . refine⟨⟨#[98,97]⟩,by decide,fun w=>?_⟩
   go_enter Tryz.func105,Tryz.ntmps105;go_wp2;go_ret;exact⟨rfl,rfl⟩
 . refine⟨⟨#[49,50]⟩,by decide,fun w=>?_⟩
   go_enter Tryz.func105,Tryz.ntmps105;go_wp2;go_ret;exact⟨rfl,rfl⟩
 . refine⟨⟨#[45,55]⟩,by decide,fun w=>?_⟩
   go_enter Tryz.func105,Tryz.ntmps105;go_wp2;go_ret;exact⟨rfl,rfl⟩
 . refine⟨⟨#[48,48,55]⟩,by decide,fun w=>?_⟩
   go_enter Tryz.func105,Tryz.ntmps105;go_wp2;go_ret;exact⟨rfl,rfl⟩
 . refine⟨⟨#[104,101,108,108,111,32,119,111,114,108,100]⟩,by decide,fun w=>?_⟩
   go_enter Tryz.func105,Tryz.ntmps105;go_wp2;go_ret;exact⟨rfl,rfl⟩
 . refine⟨⟨#[57,50,50,51,51,55,50,48,51,54,56,53,52,55,55,53,56,48,56]⟩,by decide,fun w=>?_⟩
   go_enter Tryz.func105,Tryz.ntmps105;go_wp2;go_ret;exact⟨rfl,rfl⟩
 . refine⟨⟨#[120,59,121,40,92,41]⟩,by decide,fun w=>?_⟩
   go_enter Tryz.func105,Tryz.ntmps105;go_wp2;go_ret;exact⟨rfl,rfl⟩
 . refine⟨⟨#[45,57,50,50,51,51,55,50,48,51,54,56,53,52,55,55,53,56,48,56]⟩,by decide,fun w=>?_⟩
   go_enter Tryz.func105,Tryz.ntmps105;go_wp2;go_ret;exact⟨rfl,rfl⟩
 . refine⟨⟨#[98]⟩,by decide,fun w=>?_⟩
   go_enter Tryz.func105,Tryz.ntmps105;go_wp2;go_ret;exact⟨rfl,rfl⟩
theorem q3p (i:Int):∃v:Int,(-9223372036854775808<=v/\v<=9223372036854775807)/\∀w:World,Calls Tryz.prog 164 #[J9 i] w fun e w'=>e=.returned (J9 v)/\w'=w:=by
 rcases (show i=0∨i=1∨i=2∨i=3∨i=4∨i=5∨i=6∨i=7∨i=8∨i=9∨i=10∨i=11∨i=12∨(¬ i=0/\¬ i=1/\¬ i=2/\¬ i=3/\¬ i=4/\¬ i=5/\¬ i=6/\¬ i=7/\¬ i=8/\¬ i=9/\¬ i=10/\¬ i=11/\¬ i=12) by omega) with rfl | rfl | rfl | rfl | rfl | rfl | rfl | rfl | rfl | rfl | rfl | rfl | rfl | ⟨n0,n1,n2,n3,n4,n5,n6,n7,n8,n9,n10,n11,n12⟩
 . refine⟨0,by decide,fun w=>?_⟩
   go_enter Tryz.func164,Tryz.ntmps164;go_wp2;go_ret;exact⟨rfl,rfl⟩
 . refine⟨1,by decide,fun w=>?_⟩
   go_enter Tryz.func164,Tryz.ntmps164;go_wp2;go_ret;exact⟨rfl,rfl⟩
 . refine⟨-1,by decide,fun w=>?_⟩
   go_enter Tryz.func164,Tryz.ntmps164;go_wp2;go_ret;exact⟨rfl,rfl⟩
 . refine⟨9223372036854775807,by decide,fun w=>?_⟩
   go_enter Tryz.func164,Tryz.ntmps164;go_wp2;go_ret;exact⟨rfl,rfl⟩
 . refine⟨-9223372036854775808,by decide,fun w=>?_⟩
   go_enter Tryz.func164,Tryz.ntmps164;go_wp2;go_ret;exact⟨rfl,rfl⟩
 . refine⟨3037000500,by decide,fun w=>?_⟩
   go_enter Tryz.func164,Tryz.ntmps164;go_wp2;go_ret;exact⟨rfl,rfl⟩
 . refine⟨-3037000500,by decide,fun w=>?_⟩
   go_enter Tryz.func164,Tryz.ntmps164;go_wp2;go_ret;exact⟨rfl,rfl⟩
 . refine⟨4611686018427387904,by decide,fun w=>?_⟩
   go_enter Tryz.func164,Tryz.ntmps164;go_wp2;go_ret;exact⟨rfl,rfl⟩
 . refine⟨7,by decide,fun w=>?_⟩
   go_enter Tryz.func164,Tryz.ntmps164;go_wp2;go_ret;exact⟨rfl,rfl⟩
 . refine⟨-2,by decide,fun w=>?_⟩
   go_enter Tryz.func164,Tryz.ntmps164;go_wp2;go_ret;exact⟨rfl,rfl⟩
 . refine⟨10,by decide,fun w=>?_⟩
   go_enter Tryz.func164,Tryz.ntmps164;go_wp2;go_ret;exact⟨rfl,rfl⟩
 . refine⟨100,by decide,fun w=>?_⟩
   go_enter Tryz.func164,Tryz.ntmps164;go_wp2;go_ret;exact⟨rfl,rfl⟩
 . refine⟨4294967296,by decide,fun w=>?_⟩
   go_enter Tryz.func164,Tryz.ntmps164;go_wp2;go_ret;exact⟨rfl,rfl⟩
 . refine⟨3,by decide,fun w=>?_⟩
   go_enter Tryz.func164,Tryz.ntmps164;go_wp2;go_ret;exact⟨rfl,rfl⟩
def rp:Nat->ByteArray
 | 0=>⟨#[97]⟩
 | j+1=>rp j++rp j
def rq (s:ByteArray):Nat->ByteArray
 | 0=>s
 | k+1=>rq s k++⟨#[98]⟩
theorem qja (j:Nat):(rp j).size=2 ^ j:=by
 induction j with
 | zero=>rfl
 | succ j ih=>rw[rp,Yn,ih];omega
theorem qjb (s:ByteArray)(k:Nat):(rq s k).size=s.size+k:=by
 induction k with
 | zero=>rfl
 | succ k ih=>rw[rq,Yn,ih,Nat.add_assoc];rfl
def szV:Value->Nat
 | .string s=>s.size
 | _=>0
theorem q3t (op:Int)(w:World):Calls Tryz.prog 76 #[J9 op] w fun e w'=>e=.returned (.agg #[J9 op,J9 0,J9 0,Yb,Yb])/\Below w.heap.size w w':=by
 go_enter Tryz.func76,Tryz.ntmps76
 go_wp2
 exact bodyPost_ret (v:=.agg #[J9 op,J9 0,J9 0,Yb,Yb]) (by simp[results,Tryz.results76,go_sem]) rfl ⟨rfl,(bR _ _).alloc (nR _) _⟩
theorem q52 (k n:Int)(s:ByteArray)(w:World):Calls Tryz.prog 77 #[.agg (J5 k n s)] w fun e w'=>e=.returned (.agg #[J9 0,J9 k,J9 n,.string s,Yb])/\Below w.heap.size w w':=by
 go_enter Tryz.func77,Tryz.ntmps77
 go_wp2
 first | exact bodyPost_ret (v:=.agg #[J9 0,J9 k,J9 n,.string s,Yb]) (by simp[results,Tryz.results77,go_sem]) rfl ⟨rfl,(bR _ _).alloc (nR _) _⟩ | exact bodyPost_ret (v:=.agg #[J9 0,J9 k,J9 n,.string s,Yb]) (by simp[results,Tryz.results77,go_sem]) rfl ⟨rfl,((bR _ _).alloc (nR _) _).alloc (by simp) _⟩
end Go.Proofs.YtebbgodlijlioaaGreatDoor
namespace Go.Proofs.YtebbgodlijlioaaGreatDoor
open Go Go.RowKit Go.Shelf
def Loc {β:Type}(B:Nat)(J:β->World->Prop):Prop:=∀s W W',J s W->Below B W W'->J s W'
structure KeepX (X:Nat->Prop)(W W':World):Prop where
 size:W.heap.size<=W'.heap.size
 same:∀k cs t fr,¬ X k->W.heap[k]? = some (.cells cs t fr)->W'.heap[k]? = some (.cells cs t fr)
theorem KeepX.refl (X:Nat->Prop)(W:World):KeepX X W W:=⟨nR _,fun _ _ _ _ _ h=>h⟩
theorem KeepX.trans {X:Nat->Prop}{A B C:World}(h:KeepX X A B)(k:KeepX X B C):KeepX X A C:=⟨Ys h.size k.size,fun i cs t fr hx hi=>k.same i cs t fr hx (h.same i cs t fr hx hi)⟩
theorem KeepX.put {X:Nat->Prop}{W:World}{l:Nat}{o o':Obj}(hl:W.heap[l]? = some o)(ho:o.isCells=false):KeepX X W (W.putObj l o') :=
 ⟨by simp,fun k cs t fr _ hk=>by
  by_cases e:k=l
  . subst e;rw[hl]at hk;cases hk;simp[Obj.isCells]at ho
  . exact(World.putObj_heap_other e).trans hk⟩
theorem KeepX.of_below {X:Nat->Prop}{W W':World}(h:Below W.heap.size W W'):KeepX X W W' :=
 ⟨h.size,fun k _ _ _ _ hk=>(h.block k (Yt.1 hk).1).trans hk⟩
theorem KeepX.set {X:Nat->Prop}{W:World}{a:Addr}(v:Value)(hx:X a.block):KeepX X W (W.setCell a v) :=
 ⟨by simp,fun k _ _ _ hk h=>(heap_setCell_other W a k v (fun e=>hk (e ▸ hx))).trans h⟩
theorem KeepX.blk {X:Nat->Prop}{W W':World}{g:Nat}{t:TypeId}{cs:List Value}(h:KeepX X W W')(hb:Blk W g t cs)(hg:¬ X g):Blk W' g t cs:=h.same g _ t _ hg hb
theorem keepsO {W W':World}(h:Below W.heap.size W W'):KeepsOthers W W':=⟨h.size,fun k _ hk _=>(h.block k (Yt.1 hk).1).trans hk⟩
theorem Blk.put {W:World}{g:Nat}{t:TypeId}{cs:List Value}(h:Blk W g t cs){l:Nat}{o:Obj}(o':Obj)(hl:W.heap[l]? = some o)(ho:o.isCells=false):Blk (W.putObj l o') g t cs:=(KeepX.put (X:=fun _=>False) hl ho).same g _ t _ (fun h=>h) h
def Gives (P:Program)(gf:Nat)(lb:Array Value)(T:Nat->Prop)(S Sp:List Nat->Prop)(X:Nat->Prop)(w0:World):Prop :=
 ∀(n l:Nat) (J Jx:List Nat->World->Prop) (W:World),Below w0.heap.size w0 W->Loc W.heap.size J->Loc W.heap.size Jx->(∀k,X k->k<W.heap.size) ->
  (∀(m:Nat) (pre:List Nat) (x:Nat) (W1:World),J pre W1->T x->YieldAt Fence.wide m P l #[J9 (x:Int)] W1 fun e W' =>
   (e=.returned (.bool true)/\J (pre++[x]) W'/\KeepX X W1 W')∨(e=.returned (.bool false)/\Jx (pre++[x]) W')) ->
  J [] W ->
  CallsIn Fence.wide n P gf (#[.func (.yield l) #[] #[]]++lb) W fun e W'=>(∃v,e=.returned v)/\((∃xs,S xs/\J xs W')∨(∃pre,Sp pre/\Jx pre W'))
theorem noDepth {n:Nat}:Fence.wide.depth.isSome=true->1<=n:=fun h=>by simp[Fence.wide]at h
theorem callW {P:Program}{f:FuncId}{args:Array Value}{w:World}{R:Ending->World->Prop}{n:Nat}(h:Calls P f args w R):Fence.wide.fn f/\(Fence.wide.depth.isSome=true->1<=n)/\CallsIn Fence.wide (n - 1) P f args w R :=
 ⟨trivial,noDepth,callsIn_wide.2 h⟩
theorem callR {P:Program}{f:FuncId}{args:Array Value}{w:World}{R:Ending->World->Prop}{n l:Nat}(h:Calls P f args w R):(Fence.wide.inRound l).fn f/\((Fence.wide.inRound l).depth.isSome=true->1<=n)/\CallsIn (Fence.wide.inRound l) (n - 1) P f args w R :=
 ⟨trivial,noDepth,CallsIn.inRound l (callsIn_wide.2 h)⟩
def bodyEnd (X:Nat->Prop)(I Ix:List Nat->World->Prop)(xs:List Nat)(W:World):Exit->Act->World->Prop
 | .normal,_,W'=>KeepsOthers W W'/\KeepX X W W'/\I xs W'
 | .ret,_,W'=>KeepsOthers W W'/\Ix xs W'
 | _,_,_=>False
theorem q90 {B:Nat}(W:World)(l:Nat)(o:Obj)(h:B<=l):Below B W (W.putObj l o) :=
 ⟨rfl,rfl,rfl,by simp,fun _ hk=>World.putObj_heap_other (by omega)⟩
theorem qb1 {P:Program}{g:Operand}{ps:Array Tmp}{assign body:Code}{Q:Exit->Act->World->Prop}{a:Act}{w:World}{n:Nat}{gf:Nat}{lb:Array Value}
 (hg:a.eval g=.func (.func gf) #[] lb) (eg:∀args w,(callFunc gf args).run P w=.ok (.enter gf args) w)
 {T:Nat->Prop} {S Sp:List Nat->Prop} {X:Nat->Prop} {w0:World} (hseq:Gives P gf lb T S Sp X w0) (hb0:Below w0.heap.size w0 w) (hX:∀k,X k->k<w.heap.size) (hps:ps.size=1)
 (I Ix:List Nat->World->Prop) (hI:Loc w.heap.size I) (hIx:Loc w.heap.size Ix) (h0:I [] w) (a₁:Nat->Act)
 (hassign:∀(m l x:Nat) (W:World) (K:Act->World->Prop),K (a₁ x) W ->
  assign.wpIn (Fence.wide.inRound l) m P (Exit.then K (fun _ _ _=>False)) { tmps:=(ps.zip #[J9 (x:Int)]).foldl (fun t (p,v)=>t.setIfInBounds p v) a.tmps,defers:=[] } W)
 (hbody:∀(m l:Nat) (pre:List Nat) (x:Nat) (W:World),I pre W->T x->body.wpIn (Fence.wide.inRound l) m P (bodyEnd X I Ix (pre++[x]) W) (a₁ x) W)
 (hdone:∀(D:Nat) (xs:List Nat) (W:World),w.heap.size<=D->S xs->I xs W->W.heap[D]? = some (.deferred (some []))->Q .normal { a with defers:={ target:=.collected D,args:=#[] } :: a.defers } W)
 (hstop:∀(D:Nat) (pre:List Nat) (W:World),w.heap.size<=D->Sp pre->Ix pre W->W.heap[D]? = some (.deferred (some []))->Q .ret { a with defers:={ target:=.collected D,args:=#[] } :: a.defers } W) :
 (Code.rangeFunc g ps assign body).wpIn Fence.wide n P Q a w:=by
 refine wpIn_rangeFunc fun fn _=>?_
 obtain⟨D,hD⟩:=Nq w.heap.size
 obtain⟨mk,hmk⟩:∃mk:LoopState->Option Code->Loop,mk=fun s p=>{ state:=s,pending:=p,fn,tmps:=a.tmps,params:=ps,assign,body,defers:=D }:=⟨_,rfl⟩
 obtain⟨W1,hW1⟩:=Nq ((w.alloc (.deferred (some []))).alloc (.loop (mk .ready none)))
 have s1:W1.heap.size=D+1+1:=by rw[<- hW1];simp[hD]
 have bw:Below D w W1:=by rw[<- hW1,<- hD];exact((bR _ w).alloc (nR _) _).alloc (by simp) _
 have hl1:W1.heap[D+1]? = some (.loop (mk .ready none)):=by
  have:=World.alloc_heap_new (w.alloc (.deferred (some []))) (.loop (mk .ready none));rw[Yv,hD,hW1]at this;exact this
 have hd1:W1.heap[D]? = some (.deferred (some [])):=by
  have:=World.alloc_heap_new w (.deferred (some []));rw[<- hW1,<- hD];exact(Below.heap_alloc _ _ _ (by simp)).trans this
 have enter:=run_enterLoop_outer (P:=P) (w:=w) fn a.tmps ps assign body
 rw[hD]at enter
 refine⟨D+1,[{ target:=.collected D,args:=#[] }],W1,{ target:=.fn (.func gf) lb,args:=#[.func (.yield (D+1)) #[] #[]] },W1,gf,#[.func (.yield (D+1)) #[] #[]]++lb,W1,?_,?_,?_,?_,fun h=>by simp[Fence.wide]at h,?_⟩
 . rw[<- hW1,hmk];exact enter
 . simp only[resolve,hg];simp[go_sem]
 . intro _ _;trivial
 . simp[invoke,go_sem,eg]
 have hIput:∀xs W l o,D<=l->I xs W->I xs (W.putObj l o):=fun xs W l o h hi=>hI xs W _ hi (by rw[hD];exact q90 W l o h)
 have hXput:∀xs W l o,D<=l->Ix xs W->Ix xs (W.putObj l o):=fun xs W l o h hi=>hIx xs W _ hi (by rw[hD];exact q90 W l o h)
 refine(hseq (n - 1) (D+1) (fun pre W=>I pre W/\W.heap[D+1]? = some (.loop (mk .ready none))/\W.heap[D]? = some (.deferred (some [])))
  (fun pre W=>Ix pre W/\W.heap[D+1]? = some (.loop (mk .done (some .ret)))/\W.heap[D]? = some (.deferred (some []))) W1 (hb0.trans ((hD ▸ bw:Below w.heap.size w W1).mono hb0.size)) ?_ ?_ (fun k hk=>by have:=hX k hk;omega) ?_ ⟨hI _ _ _ h0 (hD ▸ bw),hl1,hd1⟩).mono ?_
 . rintro xs W W' ⟨h,hl,hd⟩ hb
   rw[s1]at hb;exact⟨hI xs W W' h (hb.mono (by omega)),(hb.block _ (by omega)).trans hl,(hb.block _ (by omega)).trans hd⟩
 . rintro xs W W' ⟨h,hl,hd⟩ hb
   rw[s1]at hb;exact⟨hIx xs W W' h (hb.mono (by omega)),(hb.block _ (by omega)).trans hl,(hb.block _ (by omega)).trans hd⟩
 . -- one round
   rintro m pre x W ⟨hi,hl,hd⟩ hT;have hlt:D+1<W.heap.size:=(Yt.1 hl).1;have hy:=run_yield (P:=P) (args:=#[J9 (x:Int)]) hl (by rw[hmk];simp[hps]);rw[hmk]at hy;refine⟨fn,_,assign,body,hy,roundIn_of_wpIn trivial (hassign m _ x W _ ⟨_,run_beginRound hl (by rw[hmk]),?_⟩)⟩;refine wpIn_mono (hbody m _ pre x _ (hIput _ _ _ _ (by omega) hi) hT) ?_;have hl2:=World.putObj_heap_same (w:=W) (o:=.loop { mk .ready none with state:=.busy }) hlt;have hd2:(W.putObj (D+1) (.loop { mk .ready none with state:=.busy })).heap[D]? = some (.deferred (some [])):=(World.putObj_heap_other (by omega)).trans hd;have hx2:KeepX X W (W.putObj (D+1) (.loop { mk .ready none with state:=.busy })):=KeepX.put hl rfl;intro e a3 W3 hp;cases e with
   | normal =>
    obtain⟨ko,kx,hi3⟩:=hp;have hl3:=ko.same _ _ hl2 rfl;have hd3:=ko.same _ _ hd2 rfl;have hr:=run_endRound (P:=P) none hl3;rw[hmk]at hr;refine⟨_,_,hr,.inl ⟨rfl,⟨hIput _ _ _ _ (by omega) hi3,?_,(World.putObj_heap_other (by omega)).trans hd3⟩,(hx2.trans kx).trans (KeepX.put hl3 rfl)⟩⟩;rw[hmk];exact World.putObj_heap_same (Yt.1 hl3).1
   | ret =>
    obtain⟨ko,hi3⟩:=hp;have hl3:=ko.same _ _ hl2 rfl;have hd3:=ko.same _ _ hd2 rfl;have hr:=run_endRound (P:=P) (some .ret) hl3;rw[hmk]at hr;refine⟨_,_,hr,.inr ⟨rfl,hXput _ _ _ _ (by omega) hi3,?_,(World.putObj_heap_other (by omega)).trans hd3⟩⟩;rw[hmk];exact World.putObj_heap_same (Yt.1 hl3).1
   | exit id=>exact hp.elim
   | goto t=>exact hp.elim
   | panic c=>exact hp.elim
   | outgrown=>exact hp.elim
 . -- behind the iterator
   rintro e W2 ⟨⟨v,rfl⟩,(⟨xs,hS,hi,hl,hd⟩ | ⟨pre,hSp,hi,hl,hd⟩)⟩
   . have hr:=run_endLoop (P:=P) hl (by rw[hmk];simp)
     rw[hmk]at hr;exact⟨none,_,hr,hdone D xs _ (by omega) hS (hIput _ _ _ _ (by omega) hi) ((World.putObj_heap_other (by omega)).trans hd)⟩
   . have hr:=run_endLoop (P:=P) hl (by rw[hmk];simp)
     rw[hmk]at hr;exact⟨some .ret,_,hr,wpIn_ret (hstop D pre _ (by omega) hSp (hXput _ _ _ _ (by omega) hi) ((World.putObj_heap_other (by omega)).trans hd))⟩
structure Out (lo hi:Nat)(W W':World):Prop where
 os:W'.os=W.os
 tape:W'.tape=W.tape
 output:W'.output=W.output
 size:W.heap.size<=W'.heap.size
 block:∀b,b<W.heap.size->¬ (lo<=b/\b<hi)->W'.heap[b]? = W.heap[b]?
theorem Out.mono {lo lo' hi:Nat}{W W':World}(h:Out lo hi W W')(hl:lo'<=lo):Out lo' hi W W':=⟨h.os,h.tape,h.output,h.size,fun b hb hn=>h.block b hb (fun c=>hn ⟨by omega,c.2⟩)⟩
theorem Out.refl (lo hi:Nat)(W:World):Out lo hi W W:=⟨rfl,rfl,rfl,nR _,fun _ _ _=>rfl⟩
theorem Out.trans {lo hi:Nat}{A B C:World}(h:Out lo hi A B)(k:Out lo hi B C):Out lo hi A C:=⟨k.os.trans h.os,k.tape.trans h.tape,k.output.trans h.output,Ys h.size k.size,fun b hb hn=>(k.block b (by have:=h.size;omega) hn).trans (h.block b hb hn)⟩
theorem Out.set {lo hi:Nat}{W:World}{a:Addr}(v:Value)(h1:lo<=a.block)(h2:a.block<hi):Out lo hi W (W.setCell a v):=⟨rfl,rfl,rfl,by simp,fun b _ hn=>heap_setCell_other W a b v (fun e=>hn ⟨by omega,by omega⟩)⟩
theorem Out.put {lo hi:Nat}(W:World){l:Nat}(o:Obj)(h1:lo<=l)(h2:l<hi):Out lo hi W (W.putObj l o):=⟨rfl,rfl,rfl,by simp,fun b _ hn=>World.putObj_heap_other (fun e=>hn ⟨by omega,by omega⟩)⟩
theorem Out.below {lo hi B:Nat}{W W':World}(h:Out lo hi W W')(hB:B<=lo)(hs:B<=W.heap.size):Below B W W':=⟨h.os,h.tape,h.output,h.size,fun b hb=>h.block b (by omega) (fun c=>by omega)⟩
theorem Out.blk {lo hi:Nat}{W W':World}{g:Nat}{t:TypeId}{cs:List Value}(h:Out lo hi W W')(hb:Blk W g t cs)(hg:¬ (lo<=g/\g<hi)):Blk W' g t cs:=(h.block g hb.lt hg).trans hb
structure KeepB (X:Nat->Prop)(hi:Nat)(W W':World):Prop where
 size:W.heap.size<=W'.heap.size
 same:∀k cs t fr,k<hi->¬ X k->W.heap[k]? = some (.cells cs t fr)->W'.heap[k]? = some (.cells cs t fr)
theorem KeepB.refl (X:Nat->Prop)(hi:Nat)(W:World):KeepB X hi W W:=⟨nR _,fun _ _ _ _ _ _ h=>h⟩
theorem KeepB.trans {X:Nat->Prop}{hi:Nat}{A B C:World}(h:KeepB X hi A B)(k:KeepB X hi B C):KeepB X hi A C:=⟨Ys h.size k.size,fun i cs t fr hl hx hi=>k.same i cs t fr hl hx (h.same i cs t fr hl hx hi)⟩
theorem KeepB.put {X:Nat->Prop}{hi:Nat}{W:World}{l:Nat}{o o':Obj}(hl:W.heap[l]? = some o)(ho:o.isCells=false):KeepB X hi W (W.putObj l o') :=
 ⟨by simp,fun k cs t fr _ _ hk=>by
  by_cases e:k=l
  . subst e;rw[hl]at hk;cases hk;simp[Obj.isCells]at ho
  . exact(World.putObj_heap_other e).trans hk⟩
theorem KeepB.of_below {X:Nat->Prop}{hi B:Nat}{W W':World}(h:Below B W W')(hB:hi<=B):KeepB X hi W W':=⟨h.size,fun k _ _ _ hl _ hk=>(h.block k (by omega)).trans hk⟩
theorem KeepB.set {X:Nat->Prop}{hi:Nat}{W:World}{a:Addr}(v:Value)(hx:X a.block):KeepB X hi W (W.setCell a v):=⟨by simp,fun k _ _ _ _ hk h=>(heap_setCell_other W a k v (fun e=>hk (e ▸ hx))).trans h⟩
theorem KeepB.grown {X:Nat->Prop}{hi:Nat}{W W':World}{row:Option Nat}(h:W.grownBy W' row)(hr:∀q,row=some q->hi<=q∨X q):KeepB X hi W W' :=
 ⟨h.size,fun k _ _ _ hl hx hk=>(h.block k (Yt.1 hk).1 (fun e=>by
  rcases hr k e.symm with h1 | h1
  . omega
  . exact hx h1)).trans hk⟩
theorem KeepB.blk {X:Nat->Prop}{hi:Nat}{W W':World}{g:Nat}{t:TypeId}{cs:List Value}(h:KeepB X hi W W')(hb:Blk W g t cs)(hg:g<hi)(hx:¬ X g):Blk W' g t cs:=h.same g _ t _ hg hx hb
end Go.Proofs.YtebbgodlijlioaaGreatDoor
namespace Go.Proofs.YtebbgodlijlioaaGreatDoor
open Go Go.RowKit
theorem Blk.row {w:World}{g:Nat}{t:TypeId}{cs:List Value}(h:Blk w g t cs)(cells:List Value):Blk (w.setRow g cells.toArray) g t cells:=setRow_heap w g cs.toArray cells.toArray t (0,0) h
theorem Blk.row_other {w:World}{g g':Nat}{t:TypeId}{cs:List Value}(h:Blk w g' t cs)(hne:g'≠g)(cells:Array Value):Blk (w.setRow g cells) g' t cs:=(setRow_other w g g' cells hne).trans h
theorem qbs {α:Type}{f g:Nat->α}{k:Nat}(h:∀j,j<k->f j=g j)(h':f k=g k):∀j,j<k+1->f j=g j:=fun j hj=>by
 by_cases e:j=k
 . rw[e];exact h'
 . exact h j (by omega)
def bs (n:Nat)(f:Nat->Bool):List Value:=(List.range n).map fun k=>.bool (f k)
def is (n:Nat)(f:Nat->Int):List Value:=(List.range n).map fun k=>.int .i64 (f k)
theorem q7x {n:Nat}{xs:List Value}{g:Nat->Value}(hl:xs.length=n)(h:∀j,j<n->xs[j]? = some (g j)):xs=(List.range n).map g:=by
 apply List.ext_getElem?
 intro j
 by_cases hj:j<n
 . rw[h j hj];simp[hj]
 . rw[Vl (by omega),Vl (by simp;omega)]
theorem Blk.bools {w:World}{g n:Nat}{t:TypeId}{f:Nat->Bool}(h:Blk w g t (bs n f)):Bools w (some ⟨g,0,none⟩) n f:=fun k hk =>
 ⟨g,0,rfl,h.lt,by rw[Zi,h.cell];simp[bs,hk]⟩
theorem Blk.ints {w:World}{g n:Nat}{t:TypeId}{f:Nat->Int}(h:Blk w g t (is n f)):Ints w (some ⟨g,0,none⟩) n f:=fun k hk =>
 ⟨g,0,rfl,h.lt,by rw[Zi,h.cell];simp[is,hk]⟩
theorem q9y:(Tryz.prog.info? 4).map (fun i=>(i.zero,i.size,i.bytes))=some (some (.bool false),1,1):=by kernel_rfl
theorem qcr:(Tryz.prog.info? 3).map (fun i=>(i.zero,i.size,i.bytes))=some (some (J9 0),1,8):=by kernel_rfl
theorem idx_lt {n x y:Nat}(hx:x<n)(hy:y<n):x*n+y<n*n:=by
 have:(x+1)*n<=n*n:=Zl _ hx
 rw[Zt]at this;omega
theorem sq_le {n:Nat}(hn:n<=32):n*n<=1024:=Vn hn hn
theorem qa5 (a:Option Addr)(m c n x y:Nat)(f:Nat->Bool)(w:World)(hm:n*n<=m)(hx:x<n)(hy:y<n)(hn:n<=32)(ha:Bools w a m f) :
 Calls Tryz.prog 31 #[.slice a m c,J9 n,J9 x,J9 y] w fun e w'=>e=.returned (.bool (f (x*n+y)))/\w'=w:=by
 have h1:=idx_lt hx hy
 have h2:=sq_le hn
 obtain⟨b,o,rfl,-,hc⟩:=ha (x*n+y) (by omega)
 have h3:0<=(x:Int)*n:=by rw[<- Za];omega
 have h4:(x:Int)*n+y<m:=by rw[<- Za];omega
 have h5:(x:Int)*n<=1024:=by rw[<- Za];omega
 clear ha h1 h2 hm
 go_enter Tryz.func31,Tryz.ntmps31
 go_wp2
 go_ret
 exact⟨rfl,rfl⟩
def isJoinP (f:Nat->Bool)(n a b c:Nat):Prop:=f (a*n+c)=true/\f (b*n+c)=true/\∀d,d<n->f (a*n+d)=true->f (b*n+d)=true->f (c*n+d)=true
def isJoin (f:Nat->Bool)(n a b c:Nat):Bool:=f (a*n+c)&&f (b*n+c)&&(List.range n).all fun d=>!f (a*n+d)||!f (b*n+d)||f (c*n+d)
theorem q73 {f:Nat->Bool}{n a b c:Nat}:isJoin f n a b c=true ↔ isJoinP f n a b c:=by
 simp only[isJoin,isJoinP,Yp,Y4,Zb,Zs,Bool.not_eq_true',and_assoc]
 refine and_congr_right fun _=>and_congr_right fun _=>forall_congr' fun d=>imp_congr_right fun _=>?_
 cases f (a*n+d) <;> cases f (b*n+d) <;> cases f (c*n+d) <;> simp
theorem q4x {f:Nat->Bool}{n a b c:Nat}(h:isJoinP f n a b c):isJoin f n a b c=true:=q73.2 h
theorem q3g {f:Nat->Bool}{n a b c:Nat}(h:¬ isJoinP f n a b c):isJoin f n a b c=false:=by
 cases e:isJoin f n a b c
 . rfl
 . exact absurd (q73.1 e) h
theorem q3k (t:Option Addr)(m cap n a b c:Nat)(f:Nat->Bool)(w:World)(hm:n*n<=m)(hn:n<=32)(ha:a<n)(hb:b<n)(hc:c<n)(ht:Bools w t m f) :
 Calls Tryz.prog 56 #[.slice t m cap,J9 n,J9 a,J9 b,J9 c] w fun e w'=>e=.returned (.bool (isJoin f n a b c))/\w'=w:=by
 have HM:=h_ hm;clear hm
 cases h1:f (a*n+c)
 . have HR:Hi (isJoin f n a b c=false):=q3g fun h=>Z7 (h1.symm.trans h.1)
   go_enter Tryz.func56,Tryz.ntmps56;go_wp2_with (go_at_call 31;refine(qa5 _ _ _ _ _ _ f _ HM.u (by assumption) (by assumption) hn ht).mono ?_;rintro e w' ⟨rfl,rfl⟩);go_ret;exact⟨qe9 HR.u.symm,rfl⟩
 cases h2:f (b*n+c)
 . have HR:Hi (isJoin f n a b c=false):=q3g fun h=>Z7 (h2.symm.trans h.2.1)
   go_enter Tryz.func56,Tryz.ntmps56;go_wp2_with (go_at_call 31;refine(qa5 _ _ _ _ _ _ f _ HM.u (by assumption) (by assumption) hn ht).mono ?_;rintro e w' ⟨rfl,rfl⟩);go_ret;exact⟨qe9 HR.u.symm,rfl⟩
 go_enter Tryz.func56,Tryz.ntmps56
 go_wp2_with (go_at_call 31;refine(qa5 _ _ _ _ _ _ f _ HM.u (by assumption) (by assumption) hn ht).mono ?_;rintro e w' ⟨rfl,rfl⟩)
 go_loop [11] (fun i=>∃k:Nat,k<=n/\i=J9 k/\∀d,d<k->f (a*n+d)=true->f (b*n+d)=true->f (c*n+d)=true) (fun i=>n - (intOf i).toNat)
 case atStart=>exact⟨0,nZ _,rfl,fun d h=>absurd h (nL _)⟩
 case round =>
  obtain⟨k,hk,rfl,hall⟩:=hrel;have HA:=h_ hall;clear hall;by_cases hlt:k<n
  . by_cases hbad:f (a*n+k)=true/\f (b*n+k)=true/\f (c*n+k)=false
    . obtain⟨h3,h4,h5⟩:=hbad
      have HR:Hi (isJoin f n a b c=false):=q3g fun h=>Z7 (h5.symm.trans (h.2.2 k hlt h3 h4));go_wp2_with (go_at_call 31;refine(qa5 _ _ _ _ _ _ f _ HM.u (by assumption) (by assumption) hn ht).mono ?_;rintro e w' ⟨rfl,rfl⟩);go_ret;exact⟨qe9 HR.u.symm,rfl⟩
    . have HG:Hi (f (a*n+k)=true->f (b*n+k)=true->f (c*n+k)=true):=fun h3 h4=>by
       cases h5:f (c*n+k)
       . exact absurd ⟨h3,h4,h5⟩ hbad
       . rfl
      have HS:Hi (∀d,d<k+1->f (a*n+d)=true->f (b*n+d)=true->f (c*n+d)=true):=fun d hd=>by
       by_cases e:d=k
       . rw[e];exact HG.u
       . exact HA.u d (by omega)
      have hcs:f (a*n+k)=false∨(f (a*n+k)=true/\f (b*n+k)=false)∨(f (a*n+k)=true/\f (b*n+k)=true/\f (c*n+k)=true):=by
       cases h3:f (a*n+k)
       . exact .inl rfl
       . cases h4:f (b*n+k)
         . exact .inr (.inl ⟨rfl,rfl⟩)
         . exact .inr (.inr ⟨rfl,rfl,HG.u h3 h4⟩)
      clear hbad;rcases hcs with h3 | ⟨h3,h4⟩ | ⟨h3,h4,h5⟩
      all_goals
       go_wp2_with (go_at_call 31;refine(qa5 _ _ _ _ _ _ f _ HM.u (by assumption) (by assumption) hn ht).mono ?_;rintro e w' ⟨rfl,rfl⟩)
       go_round
       case rel=>exact⟨k+1,by omega,by go_num,HS.u⟩
       case measure=>simp[intOf];omega
  . have HR:Hi (isJoin f n a b c=true):=q4x ⟨h1,h2,fun d hd=>HA.u d (by omega)⟩
    go_wp2;go_ret;exact⟨qe9 HR.u.symm,rfl⟩
def isMeetP (f:Nat->Bool)(n a b c:Nat):Prop:=f (c*n+a)=true/\f (c*n+b)=true/\∀d,d<n->f (d*n+a)=true->f (d*n+b)=true->f (d*n+c)=true
def isMeet (f:Nat->Bool)(n a b c:Nat):Bool:=f (c*n+a)&&f (c*n+b)&&(List.range n).all fun d=>!f (d*n+a)||!f (d*n+b)||f (d*n+c)
theorem q76 {f:Nat->Bool}{n a b c:Nat}:isMeet f n a b c=true ↔ isMeetP f n a b c:=by
 simp only[isMeet,isMeetP,Yp,Y4,Zb,Zs,Bool.not_eq_true',and_assoc]
 refine and_congr_right fun _=>and_congr_right fun _=>forall_congr' fun d=>imp_congr_right fun _=>?_
 cases f (d*n+a) <;> cases f (d*n+b) <;> cases f (d*n+c) <;> simp
theorem q4z {f:Nat->Bool}{n a b c:Nat}(h:isMeetP f n a b c):isMeet f n a b c=true:=q76.2 h
theorem q3i {f:Nat->Bool}{n a b c:Nat}(h:¬ isMeetP f n a b c):isMeet f n a b c=false:=by
 cases e:isMeet f n a b c
 . rfl
 . exact absurd (q76.1 e) h
theorem q3l (t:Option Addr)(m cap n a b c:Nat)(f:Nat->Bool)(w:World)(hm:n*n<=m)(hn:n<=32)(ha:a<n)(hb:b<n)(hc:c<n)(ht:Bools w t m f) :
 Calls Tryz.prog 57 #[.slice t m cap,J9 n,J9 a,J9 b,J9 c] w fun e w'=>e=.returned (.bool (isMeet f n a b c))/\w'=w:=by
 have HM:=h_ hm;clear hm
 cases h1:f (c*n+a)
 . have HR:Hi (isMeet f n a b c=false):=q3i fun h=>Z7 (h1.symm.trans h.1)
   go_enter Tryz.func57,Tryz.ntmps57;go_wp2_with (go_at_call 31;refine(qa5 _ _ _ _ _ _ f _ HM.u (by assumption) (by assumption) hn ht).mono ?_;rintro e w' ⟨rfl,rfl⟩);go_ret;exact⟨qe9 HR.u.symm,rfl⟩
 cases h2:f (c*n+b)
 . have HR:Hi (isMeet f n a b c=false):=q3i fun h=>Z7 (h2.symm.trans h.2.1)
   go_enter Tryz.func57,Tryz.ntmps57;go_wp2_with (go_at_call 31;refine(qa5 _ _ _ _ _ _ f _ HM.u (by assumption) (by assumption) hn ht).mono ?_;rintro e w' ⟨rfl,rfl⟩);go_ret;exact⟨qe9 HR.u.symm,rfl⟩
 go_enter Tryz.func57,Tryz.ntmps57
 go_wp2_with (go_at_call 31;refine(qa5 _ _ _ _ _ _ f _ HM.u (by assumption) (by assumption) hn ht).mono ?_;rintro e w' ⟨rfl,rfl⟩)
 go_loop [11] (fun i=>∃k:Nat,k<=n/\i=J9 k/\∀d,d<k->f (d*n+a)=true->f (d*n+b)=true->f (d*n+c)=true) (fun i=>n - (intOf i).toNat)
 case atStart=>exact⟨0,nZ _,rfl,fun d h=>absurd h (nL _)⟩
 case round =>
  obtain⟨k,hk,rfl,hall⟩:=hrel;have HA:=h_ hall;clear hall;by_cases hlt:k<n
  . by_cases hbad:f (k*n+a)=true/\f (k*n+b)=true/\f (k*n+c)=false
    . obtain⟨h3,h4,h5⟩:=hbad
      have HR:Hi (isMeet f n a b c=false):=q3i fun h=>Z7 (h5.symm.trans (h.2.2 k hlt h3 h4));go_wp2_with (go_at_call 31;refine(qa5 _ _ _ _ _ _ f _ HM.u (by assumption) (by assumption) hn ht).mono ?_;rintro e w' ⟨rfl,rfl⟩);go_ret;exact⟨qe9 HR.u.symm,rfl⟩
    . have HG:Hi (f (k*n+a)=true->f (k*n+b)=true->f (k*n+c)=true):=fun h3 h4=>by
       cases h5:f (k*n+c)
       . exact absurd ⟨h3,h4,h5⟩ hbad
       . rfl
      have HS:Hi (∀d,d<k+1->f (d*n+a)=true->f (d*n+b)=true->f (d*n+c)=true):=fun d hd=>by
       by_cases e:d=k
       . rw[e];exact HG.u
       . exact HA.u d (by omega)
      have hcs:f (k*n+a)=false∨(f (k*n+a)=true/\f (k*n+b)=false)∨(f (k*n+a)=true/\f (k*n+b)=true/\f (k*n+c)=true):=by
       cases h3:f (k*n+a)
       . exact .inl rfl
       . cases h4:f (k*n+b)
         . exact .inr (.inl ⟨rfl,rfl⟩)
         . exact .inr (.inr ⟨rfl,rfl,HG.u h3 h4⟩)
      clear hbad;rcases hcs with h3 | ⟨h3,h4⟩ | ⟨h3,h4,h5⟩
      all_goals
       go_wp2_with (go_at_call 31;refine(qa5 _ _ _ _ _ _ f _ HM.u (by assumption) (by assumption) hn ht).mono ?_;rintro e w' ⟨rfl,rfl⟩)
       go_round
       case rel=>exact⟨k+1,by omega,by go_num,HS.u⟩
       case measure=>simp[intOf];omega
  . have HR:Hi (isMeet f n a b c=true):=q4z ⟨h1,h2,fun d hd=>HA.u d (by omega)⟩
    go_wp2;go_ret;exact⟨qe9 HR.u.symm,rfl⟩
theorem q4y (a n:Int)(w:World)(h0:0<=a)(h1:a<n) :
 Calls Tryz.prog 115 (Jp a n) w fun e w'=>e=.returned (.bool true)/\w'=w:=by
 go_enter Tryz.func115,Tryz.ntmps115
 go_wp2
 go_ret
 exact⟨qe9 (by simp <;> omega),rfl⟩
theorem q75 (a n:Int)(w:World)(h:a<0∨n<=a) :
 Calls Tryz.prog 115 (Jp a n) w fun e w'=>e=.returned (.bool false)/\w'=w:=by
 by_cases h0:0<=a
 . have h1:n<=a:=by omega
   clear h;go_enter Tryz.func115,Tryz.ntmps115;go_wp2;go_ret;exact⟨qe9 (by simp <;> omega),rfl⟩
 . clear h
   go_enter Tryz.func115,Tryz.ntmps115;go_wp2;go_ret;exact⟨qe9 (by simp <;> omega),rfl⟩
end Go.Proofs.YtebbgodlijlioaaGreatDoor
