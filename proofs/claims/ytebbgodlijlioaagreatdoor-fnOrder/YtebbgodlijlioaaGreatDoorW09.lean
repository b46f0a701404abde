import Derived.Test.YtebbgodlijlioaaGreatDoorW07
import Derived.Test.YtebbgodlijlioaaGreatDoorW05
import Derived.Laws.Tables
import Derived.Deep.MidRow
set_option maxRecDepth 100000
set_option maxHeartbeats 64000000
namespace Go.Proofs.YtebbgodlijlioaaGreatDoor
open Go Go.RowKit
def Byts (w:World)(a:Option Addr)(n:Nat)(f:Nat->Nat):Prop :=
 ∀k,k<n->f k<256/\∃b off,a=some ⟨b,off,none⟩/\b<w.heap.size/\w.cell? ⟨b,off+k,none⟩=some (.int .u8 (f k))
theorem Byts.mono {w w':World}{a:Option Addr}{n:Nat}{f:Nat->Nat}(h:Byts w a n f)(hb:Below w.heap.size w w'):Byts w' a n f:=fun k hk=>by
 obtain⟨h0,b,off,rfl,hl,hc⟩:=h k hk
 exact⟨h0,b,off,rfl,Y5 hl hb.size,(hb.cell (p:=⟨b,off+k,none⟩) hl).trans hc⟩
theorem qix (n:Nat)(h:n<4294967296):IntKind.i64.wrap (n:Int)=(n:Int):=by
 simp[IntKind.wrap,IntKind.bits,IntKind.signed]
 omega
theorem qiy (s t:Nat)(hs:s<2 ^ 32)(ht:t<2 ^ 32):bits .xor .i64 (s:Int) (t:Int)=((s ^^^ t:Nat):Int):=by
 have h1:s % 2 ^ 64=s:=Z4 (by omega)
 have h2:t % 2 ^ 64=t:=Z4 (by omega)
 have h3:s ^^^ t<2 ^ 32:=Nat.xor_lt_two_pow hs ht
 show IntKind.i64.wrap ((BitVec.ofInt 64 (s:Int) ^^^ BitVec.ofInt 64 (t:Int)).toNat:Int)=_
 rw[BitVec.toNat_xor,BitVec.ofInt_natCast,BitVec.ofInt_natCast,BitVec.toNat_ofNat,BitVec.toNat_ofNat,h1,h2]
 exact qix _ (by omega)
def tkD (len:Nat)(f:Nat->Nat)(p n:Nat):Nat :=
 if len=0 then 0 else if p<len then f p % n else
  ((f (p % len)*131+f ((p*7+3) % len)*17+p*29+p / len*53) ^^^ ((f (p % len)*131+f ((p*7+3) % len)*17+p*29+p / len*53) / 64)) % 9973 % n
theorem q7s (len:Nat)(f:Nat->Nat)(p n:Nat)(hlen:len<=1048576)(hp:p<=1048576)(hn:1<=n)(hn2:n<=1048576):∃v:Nat,v=tkD len f p n/\v<n/\∀(w:World) (a:Option Addr) (c:Nat),Byts w a len f ->
 Calls Tryz.prog 18 #[.slice a len c,J9 p,J9 n] w fun e w'=>e=.returned (.tuple (Jp v ((p+1:Nat):Int)))/\w'=w:=by
 have hn1:¬ (n:Int)<1:=by omega
 by_cases h0:len=0
 . subst h0
   refine⟨0,by rw[tkD,Yz rfl],by omega,fun w a c _=>?_⟩;go_enter Tryz.func18,Tryz.ntmps18;go_wp2;exact bodyPost_ret (v:=.tuple #[J9 0,J9 ((p:Int)+1)]) (by simp[results,Tryz.results18,go_sem, *]) rfl ⟨by simp,rfl⟩
 by_cases h1:p<len
 . refine⟨f p % n,by rw[tkD,Yt h0,Yz h1],On _ (by omega),fun w a c hb=>?_⟩
   obtain⟨q,b,off,rfl,hl,hc⟩:=hb p h1;clear hb;go_enter Tryz.func18,Tryz.ntmps18;go_wp2;exact bodyPost_ret (v:=.tuple (Jp ((f p:Int) % n) ((p:Int)+1))) (by simp[results,Tryz.results18,go_sem, *]) rfl ⟨by simp,rfl⟩
 . have m1:p % len<len:=On _ (by omega)
   have m2:(p*7+3) % len<len:=On _ (by omega);obtain⟨I,hI⟩:=Nq (p % len);obtain⟨K,hK⟩:=Nq ((p*7+3) % len);rw[hI]at m1;rw[hK]at m2;have hI':(p:Int) % len=I:=by rw[<- hI];rfl
   have hK':((p:Int)*7+3) % len=K:=by rw[<- hK];simp
   obtain⟨A,hA⟩:=Nq (f I);obtain⟨B,hB⟩:=Nq (f K);obtain⟨D,hD⟩:=Nq (p / len);obtain⟨X,hX⟩:=Nq (A*131+B*17+p*29+D*53);obtain⟨Y,hY⟩:=Nq (X ^^^ (X / 64));refine⟨Y % 9973 % n,by rw[tkD,Yt h0,Yt h1,hI,hK,hA,hB,hD,hX,hY],On _ (by omega),fun w a c hb=>?_⟩;obtain⟨q1,b,off,rfl,hl,hc1⟩:=hb _ m1;obtain⟨q2,b',off',e,-,hc2⟩:=hb _ m2;cases e;clear hb;rw[hA]at q1 hc1;rw[hB]at q2 hc2;have hD':D<=1048576:=by rw[<- hD];exact Yv (Oq _ _) hp
   have hX':X<2 ^ 32:=by omega
   have hY':Y<2 ^ 32:=by rw[<- hY];exact Nat.xor_lt_two_pow hX' (Nat.lt_of_le_of_lt (Oq _ _) hX')
   have hD2:(p:Int) / len=D:=by rw[<- hD];rfl
   have hX2:(A:Int)*131+B*17+p*29+D*53=X:=by omega
   have hX3:bits .xor .i64 (X:Int) ((X:Int) / 64)=Y:=by
    rw[<- hY,show(X:Int) / 64=((X / 64:Nat):Int) from rfl];exact qiy _ _ hX' (Nat.lt_of_le_of_lt (Oq _ _) hX')
   have hX4:((Y:Int).tmod 9973).tmod n=(Y % 9973 % n:Nat):=rfl;clear hI hK hA hB hX hD hY;go_enter Tryz.func18,Tryz.ntmps18;go_wp2;exact bodyPost_ret (v:=.tuple (Jp ((Y:Int) % 9973 % n) ((p:Int)+1))) (by simp[results,Tryz.results18,go_sem, *]) rfl ⟨by simp,rfl⟩
theorem qm1 {len:Nat}{f:Nat->Nat}{p n:Nat}(h1:len<=1048576)(h2:p<=1048576)(h3:1<=n)(h4:n<=1048576):tkD len f p n<n/\∀(w:World) (a:Option Addr) (c:Nat),Byts w a len f ->
 Calls Tryz.prog 18 #[.slice a len c,J9 p,J9 n] w fun e w'=>e=.returned (.tuple (Jp (tkD len f p n) ((p+1:Nat):Int)))/\w'=w:=by
 obtain⟨v,e,h⟩:=q7s len f p n h1 h2 h3 h4
 subst e
 exact h
theorem qm0 {len:Nat}{f:Nat->Nat}{p n:Nat}(h1:len<=1048576)(h2:p<=1048576)(h3:1<=n)(h4:n<=1048576){w:World}{a:Option Addr}(c:Nat)(hB:Byts w a len f){P M:Int}(hP:P=p)(hM:M=n) :
 Calls Tryz.prog 18 #[.slice a len c,J9 P,J9 M] w fun e w'=>e=.returned (.tuple (Jp (tkD len f p n) (P+1)))/\w'=w:=by
 subst hP hM
 exact((qm1 (f:=f) h1 h2 h3 h4).2 w a c hB).mono fun e w' ⟨h,h'⟩=>⟨by rw[h];rfl,h'⟩
theorem tk_lt {len:Nat}{f:Nat->Nat}{p n:Nat}(h1:len<=1048576)(h2:p<=1048576)(h3:1<=n)(h4:n<=1048576):tkD len f p n<n:=(qm1 (f:=f) h1 h2 h3 h4).1
theorem q7r (len per lo hi:Nat)(a:Option Addr)(c:Nat)(w:World)(h1:len<=1048576)(hp:1<=per)(hp2:per<=1000)(hl:lo<=1000)(hh:hi<=1000) :
 Calls Tryz.prog 42 #[.slice a len c,J9 per,J9 lo,J9 hi] w fun e w'=>e=.returned (J9 (min (lo+len / per) hi:Nat))/\w'=w:=by
 obtain⟨d,hd⟩:=Nq (len / per)
 have hd2:d<=1048576:=by rw[<- hd];exact Yv (Oq _ _) h1
 have hd3:(len:Int) / per=d:=by rw[<- hd];rfl
 have hd4:(len:Int).tdiv per=d:=by rw[<- hd];rfl
 have hp0:¬ (per:Int)=0:=by omega
 rw[hd]
 clear hd
 by_cases h:hi<lo+d
 . have h':(hi:Int)<lo+d:=by omega
   rw[Nat.min_eq_right (by omega)];go_enter Tryz.func42,Tryz.ntmps42;go_wp2
   all_goals first | omega | (go_ret;exact⟨rfl,rfl⟩)
 . have h':¬ (hi:Int)<lo+d:=by omega
   rw[O8 (by omega)];go_enter Tryz.func42,Tryz.ntmps42;go_wp2
   all_goals first | omega | (go_ret;exact⟨by simp,rfl⟩)
theorem q7w (i:Int):∃s:ByteArray,s.size<=64/\∀w:World,Calls Tryz.prog 105 #[J9 i] w fun e w'=>e=.returned (.string s)/\w'=w:=by
 rcases (show i=0∨i=1∨i=2∨i=3∨i=4∨i=5∨i=6∨i=7∨i=8∨i=9∨i=10∨(¬ i=0/\¬ i=1/\¬ i=2/\¬ i=3/\¬ i=4/\¬ i=5/\¬ i=6/\¬ i=7/\¬ i=8/\¬ i=9/\¬ i=10) by omega) with rfl | rfl | rfl | rfl | rfl | rfl | rfl | rfl | rfl | rfl | rfl | ⟨n0,n1,n2,n3,n4,n5,n6,n7,n8,n9,n10⟩
 . refine⟨⟨#[]⟩,by decide,fun w=>?_⟩
   go_enter Tryz.func105,Tryz.ntmps105;go_wp2;go_ret;exact⟨rfl,rfl⟩
 . refine⟨⟨#[97]⟩,by decide,fun w=>?_⟩
   go_enter Tryz.func105,Tryz.ntmps105;go_wp2;go_ret;exact⟨rfl,rfl⟩
 . refine⟨⟨#[97,98]⟩,by decide,fun w=>?_⟩
   go_enter Tryz.func105,Tryz.ntmps105;go_wp2;go_ret;exact⟨rfl,rfl⟩
 . refine⟨⟨#[98,97]⟩,by decide,fun w=>?_⟩
   go_enter Tryz.func105,Tryz.ntmps105;go_wp2;go_ret;exact⟨rfl,rfl⟩
 . refine⟨⟨#[49,50]⟩,by decide,fun w=>?_⟩
   go_enter Tryz.func105,Tryz.ntmps105;go_wp2;go_ret;exact⟨rfl,rfl⟩
 . refine⟨⟨#[45,55]⟩,by decide,fun w=>?_⟩
   go_enter Tryz.func105,Tryz.ntmps105;go_wp2;go_ret;exact⟨rfl,rfl⟩
 . refine⟨⟨#[48,48,55]⟩,by decide,fun w=>?_⟩
   go_enter Tryz.func105,Tryz.ntmps105;go_wp2;go_ret;exact⟨rfl,rfl⟩
 . refine⟨⟨#[104,101,108,108,111,32,119,111,114,108,100]⟩,by decide,fun w=>?_⟩
   go_enter Tryz.func105,Tryz.ntmps105;go_wp2;go_ret;exact⟨rfl,rfl⟩
 . refine⟨⟨#[57,50,50,51,51,55,50,48,51,54,56,53,52,55,55,53,56,48,56]⟩,by decide,fun w=>?_⟩
   go_enter Tryz.func105,Tryz.ntmps105;go_wp2;go_ret;exact⟨rfl,rfl⟩
 . refine⟨⟨#[120,59,121,40,92,41]⟩,by decide,fun w=>?_⟩
   go_enter Tryz.func105,Tryz.ntmps105;go_wp2;go_ret;exact⟨rfl,rfl⟩
 . refine⟨⟨#[45,57,50,50,51,51,55,50,48,51,54,56,53,52,55,55,53,56,48,56]⟩,by decide,fun w=>?_⟩
   go_enter Tryz.func105,Tryz.ntmps105;go_wp2;go_ret;exact⟨rfl,rfl⟩
 . refine⟨⟨#[98]⟩,by decide,fun w=>?_⟩
   go_enter Tryz.func105,Tryz.ntmps105;go_wp2;go_ret;exact⟨rfl,rfl⟩
theorem q3q (i:Int):∃v:Int,(-9223372036854775808<=v/\v<=9223372036854775807)/\∀w:World,Calls Tryz.prog 164 #[J9 i] w fun e w'=>e=.returned (J9 v)/\w'=w:=by
 rcases (show i=0∨i=1∨i=2∨i=3∨i=4∨i=5∨i=6∨i=7∨i=8∨i=9∨i=10∨i=11∨i=12∨(¬ i=0/\¬ i=1/\¬ i=2/\¬ i=3/\¬ i=4/\¬ i=5/\¬ i=6/\¬ i=7/\¬ i=8/\¬ i=9/\¬ i=10/\¬ i=11/\¬ i=12) by omega) with rfl | rfl | rfl | rfl | rfl | rfl | rfl | rfl | rfl | rfl | rfl | rfl | rfl | ⟨n0,n1,n2,n3,n4,n5,n6,n7,n8,n9,n10,n11,n12⟩
 . refine⟨0,by decide,fun w=>?_⟩
   go_enter Tryz.func164,Tryz.ntmps164;go_wp2;go_ret;exact⟨rfl,rfl⟩
 . refine⟨1,by decide,fun w=>?_⟩
   go_enter Tryz.func164,Tryz.ntmps164;go_wp2;go_ret;exact⟨rfl,rfl⟩
 . refine⟨-1,by decide,fun w=>?_⟩
   go_enter Tryz.func164,Tryz.ntmps164;go_wp2;go_ret;exact⟨rfl,rfl⟩
 . refine⟨9223372036854775807,by decide,fun w=>?_⟩
   go_enter Tryz.func164,Tryz.ntmps164;go_wp2;go_ret;exact⟨rfl,rfl⟩
 . refine⟨-9223372036854775808,by decide,fun w=>?_⟩
   go_enter Tryz.func164,Tryz.ntmps164;go_wp2;go_ret;exact⟨rfl,rfl⟩
 . refine⟨3037000500,by decide,fun w=>?_⟩
   go_enter Tryz.func164,Tryz.ntmps164;go_wp2;go_ret;exact⟨rfl,rfl⟩
 . refine⟨-3037000500,by decide,fun w=>?_⟩
   go_enter Tryz.func164,Tryz.ntmps164;go_wp2;go_ret;exact⟨rfl,rfl⟩
 . refine⟨4611686018427387904,by decide,fun w=>?_⟩
   go_enter Tryz.func164,Tryz.ntmps164;go_wp2;go_ret;exact⟨rfl,rfl⟩
 . refine⟨7,by decide,fun w=>?_⟩
   go_enter Tryz.func164,Tryz.ntmps164;go_wp2;go_ret;exact⟨rfl,rfl⟩
 . refine⟨-2,by decide,fun w=>?_⟩
   go_enter Tryz.func164,Tryz.ntmps164;go_wp2;go_ret;exact⟨rfl,rfl⟩
 . refine⟨10,by decide,fun w=>?_⟩
   go_enter Tryz.func164,Tryz.ntmps164;go_wp2;go_ret;exact⟨rfl,rfl⟩
 . refine⟨100,by decide,fun w=>?_⟩
   go_enter Tryz.func164,Tryz.ntmps164;go_wp2;go_ret;exact⟨rfl,rfl⟩
 . refine⟨4294967296,by decide,fun w=>?_⟩
   go_enter Tryz.func164,Tryz.ntmps164;go_wp2;go_ret;exact⟨rfl,rfl⟩
 . refine⟨3,by decide,fun w=>?_⟩
   go_enter Tryz.func164,Tryz.ntmps164;go_wp2;go_ret;exact⟨rfl,rfl⟩
def rp:Nat->ByteArray
 | 0=>⟨#[97]⟩
 | j+1=>rp j++rp j
def rq (s:ByteArray):Nat->ByteArray
 | 0=>s
 | k+1=>rq s k++⟨#[98]⟩
theorem qlg (j:Nat):(rp j).size=2 ^ j:=by
 induction j with
 | zero=>rfl
 | succ j ih=>rw[rp,Yo,ih];omega
theorem qlh (s:ByteArray)(k:Nat):(rq s k).size=s.size+k:=by
 induction k with
 | zero=>rfl
 | succ k ih=>rw[rq,Yo,ih,Nat.add_assoc];rfl
def szV:Value->Nat
 | .string s=>s.size
 | _=>0
theorem q3u (op:Int)(w:World):Calls Tryz.prog 76 #[J9 op] w fun e w'=>e=.returned (.agg #[J9 op,J9 0,J9 0,Yb,Yb])/\Below w.heap.size w w':=by
 go_enter Tryz.func76,Tryz.ntmps76
 go_wp2
 exact bodyPost_ret (v:=.agg #[J9 op,J9 0,J9 0,Yb,Yb]) (by simp[results,Tryz.results76,go_sem]) rfl ⟨rfl,(bR _ _).alloc (nR _) _⟩
theorem q59 (k n:Int)(s:ByteArray)(w:World):Calls Tryz.prog 77 #[.agg (J5 k n s)] w fun e w'=>e=.returned (.agg #[J9 0,J9 k,J9 n,.string s,Yb])/\Below w.heap.size w w':=by
 go_enter Tryz.func77,Tryz.ntmps77
 go_wp2
 first | exact bodyPost_ret (v:=.agg #[J9 0,J9 k,J9 n,.string s,Yb]) (by simp[results,Tryz.results77,go_sem]) rfl ⟨rfl,(bR _ _).alloc (nR _) _⟩ | exact bodyPost_ret (v:=.agg #[J9 0,J9 k,J9 n,.string s,Yb]) (by simp[results,Tryz.results77,go_sem]) rfl ⟨rfl,((bR _ _).alloc (nR _) _).alloc (by simp) _⟩
end Go.Proofs.YtebbgodlijlioaaGreatDoor
namespace Go.Proofs.YtebbgodlijlioaaGreatDoor
open Go Go.RowKit Go.Shelf
structure Out (lo hi:Nat)(W W':World):Prop where
 os:W'.os=W.os
 tape:W'.tape=W.tape
 output:W'.output=W.output
 size:W.heap.size<=W'.heap.size
 block:∀b,b<W.heap.size->¬ (lo<=b/\b<hi)->W'.heap[b]? = W.heap[b]?
theorem Out.mono {lo lo' hi:Nat}{W W':World}(h:Out lo hi W W')(hl:lo'<=lo):Out lo' hi W W':=⟨h.os,h.tape,h.output,h.size,fun b hb hn=>h.block b hb (fun c=>hn ⟨by omega,c.2⟩)⟩
theorem Out.refl (lo hi:Nat)(W:World):Out lo hi W W:=⟨rfl,rfl,rfl,nR _,fun _ _ _=>rfl⟩
theorem Out.trans {lo hi:Nat}{A B C:World}(h:Out lo hi A B)(k:Out lo hi B C):Out lo hi A C:=⟨k.os.trans h.os,k.tape.trans h.tape,k.output.trans h.output,Yv h.size k.size,fun b hb hn=>(k.block b (by have:=h.size;omega) hn).trans (h.block b hb hn)⟩
theorem Out.set {lo hi:Nat}{W:World}{a:Addr}(v:Value)(h1:lo<=a.block)(h2:a.block<hi):Out lo hi W (W.setCell a v):=⟨rfl,rfl,rfl,by simp,fun b _ hn=>heap_setCell_other W a b v (fun e=>hn ⟨by omega,by omega⟩)⟩
theorem Out.put {lo hi:Nat}(W:World){l:Nat}(o:Obj)(h1:lo<=l)(h2:l<hi):Out lo hi W (W.putObj l o):=⟨rfl,rfl,rfl,by simp,fun b _ hn=>World.putObj_heap_other (fun e=>hn ⟨by omega,by omega⟩)⟩
theorem Out.below {lo hi B:Nat}{W W':World}(h:Out lo hi W W')(hB:B<=lo)(hs:B<=W.heap.size):Below B W W':=⟨h.os,h.tape,h.output,h.size,fun b hb=>h.block b (by omega) (fun c=>by omega)⟩
theorem Out.blk {lo hi:Nat}{W W':World}{g:Nat}{t:TypeId}{cs:List Value}(h:Out lo hi W W')(hb:Blk W g t cs)(hg:¬ (lo<=g/\g<hi)):Blk W' g t cs:=(h.block g hb.lt hg).trans hb
theorem Out.owns {lo hi:Nat}{W W':World}{base n size:Nat}{e:TypeId}{v:Value}{xs:List Value}(h:Out lo hi W W')(ho:W.ownsRow base e size v n xs)(hq:∀q,v.ownBlock=some q->¬ (lo<=q/\q<hi)):W'.ownsRow base e size v n xs:=by
 refine⟨ho.1,?_⟩
 rcases ho.2 with h2 | ⟨g,cap,cur,h1,hb,hg,r⟩
 . exact .inl h2
 . exact .inr ⟨g,cap,cur,h1,hb,(h.block g (Yr.1 hg).1 (hq g (by rw[h1];rfl))).trans hg,r⟩
structure KeepB (X:Nat->Prop)(hi:Nat)(W W':World):Prop where
 size:W.heap.size<=W'.heap.size
 same:∀k cs t fr,k<hi->¬ X k->W.heap[k]? = some (.cells cs t fr)->W'.heap[k]? = some (.cells cs t fr)
theorem KeepB.refl (X:Nat->Prop)(hi:Nat)(W:World):KeepB X hi W W:=⟨nR _,fun _ _ _ _ _ _ h=>h⟩
theorem KeepB.trans {X:Nat->Prop}{hi:Nat}{A B C:World}(h:KeepB X hi A B)(k:KeepB X hi B C):KeepB X hi A C:=⟨Yv h.size k.size,fun i cs t fr hl hx hi=>k.same i cs t fr hl hx (h.same i cs t fr hl hx hi)⟩
theorem KeepB.put {X:Nat->Prop}{hi:Nat}{W:World}{l:Nat}{o o':Obj}(hl:W.heap[l]? = some o)(ho:o.isCells=false):KeepB X hi W (W.putObj l o') :=
 ⟨by simp,fun k cs t fr _ _ hk=>by
  by_cases e:k=l
  . subst e;rw[hl]at hk;cases hk;simp[Obj.isCells]at ho
  . exact(World.putObj_heap_other e).trans hk⟩
theorem KeepB.of_below {X:Nat->Prop}{hi B:Nat}{W W':World}(h:Below B W W')(hB:hi<=B):KeepB X hi W W':=⟨h.size,fun k _ _ _ hl _ hk=>(h.block k (by omega)).trans hk⟩
theorem KeepB.set {X:Nat->Prop}{hi:Nat}{W:World}{a:Addr}(v:Value)(hx:X a.block):KeepB X hi W (W.setCell a v):=⟨by simp,fun k _ _ _ _ hk h=>(heap_setCell_other W a k v (fun e=>hk (e ▸ hx))).trans h⟩
theorem KeepB.grown {X:Nat->Prop}{hi:Nat}{W W':World}{row:Option Nat}(h:W.grownBy W' row)(hr:∀q,row=some q->hi<=q∨X q):KeepB X hi W W' :=
 ⟨h.size,fun k _ _ _ hl hx hk=>(h.block k (Yr.1 hk).1 (fun e=>by
  rcases hr k e.symm with h1 | h1
  . omega
  . exact hx h1)).trans hk⟩
theorem KeepB.blk {X:Nat->Prop}{hi:Nat}{W W':World}{g:Nat}{t:TypeId}{cs:List Value}(h:KeepB X hi W W')(hb:Blk W g t cs)(hg:g<hi)(hx:¬ X g):Blk W' g t cs:=h.same g _ t _ hg hx hb
theorem KeepB.owns {X:Nat->Prop}{hi:Nat}{W W':World}{base n size:Nat}{e:TypeId}{v:Value}{xs:List Value}(h:KeepB X hi W W')(ho:W.ownsRow base e size v n xs)(hq:∀q,v.ownBlock=some q->q<hi/\¬ X q):W'.ownsRow base e size v n xs:=by
 refine⟨ho.1,?_⟩
 rcases ho.2 with h2 | ⟨g,cap,cur,h1,hb,hg,r⟩
 . exact .inl h2
 . exact .inr ⟨g,cap,cur,h1,hb,h.same g cur e _ (hq g (by rw[h1];rfl)).1 (hq g (by rw[h1];rfl)).2 hg,r⟩
def GivesH (P:Program)(gf:Nat)(lb:Array Value)(T:List Nat->Nat->Prop)(S:List Nat->Prop)(X:Nat->Prop)(w0:World):Prop :=
 ∀(n l:Nat) (J:Nat->List Nat->World->Prop) (W:World),Below w0.heap.size w0 W->(∀hi pre W1 W2,J hi pre W1->Out W.heap.size hi W1 W2->J hi pre W2)->(∀W2,Below W.heap.size W W2->J W2.heap.size [] W2)->(∀k,X k->k<W.heap.size) ->
  (∀(m hi:Nat) (pre:List Nat) (x:Nat) (W1:World),J hi pre W1->T pre x->YieldAt Fence.wide m P l #[J9 (x:Int)] W1 fun e W'=>e=.returned (.bool true)/\J hi (pre++[x]) W'/\KeepB X hi W1 W') ->
  CallsIn Fence.wide n P gf (#[.func (.yield l) #[] #[]]++lb) W fun e W'=>(∃v,e=.returned v)/\∃hi xs,S xs/\J hi xs W'
def bodyEndH (X:Nat->Prop)(hi:Nat)(I:List Nat->World->Prop)(xs:List Nat)(W:World):Exit->Act->World->Prop
 | .normal,_,W'=>KeepsOthers W W'/\KeepB X hi W W'/\I xs W'
 | _,_,_=>False
theorem q8z {P:Program}{g:Operand}{ps:Array Tmp}{assign body:Code}{Q:Exit->Act->World->Prop}{a:Act}{w:World}{n:Nat}{gf:Nat}{lb:Array Value}
 (hg:a.eval g=.func (.func gf) #[] lb) (eg:∀args w,(callFunc gf args).run P w=.ok (.enter gf args) w)
 {T:List Nat->Nat->Prop} {S:List Nat->Prop} {X:Nat->Prop} {w0:World} (hseq:GivesH P gf lb T S X w0) (hb0:Below w0.heap.size w0 w) (hX:∀k,X k->k<w.heap.size) (hps:ps.size=1)
 (I:Nat->List Nat->World->Prop) (hI:∀hi pre W W',I hi pre W->Out w.heap.size hi W W'->I hi pre W') (h0:∀W,Below w.heap.size w W->I W.heap.size [] W) (a₁:Nat->Act)
 (hassign:∀(m l x:Nat) (W:World) (K:Act->World->Prop),K (a₁ x) W ->
  assign.wpIn (Fence.wide.inRound l) m P (Exit.then K (fun _ _ _=>False)) { tmps:=(ps.zip #[J9 (x:Int)]).foldl (fun t (p,v)=>t.setIfInBounds p v) a.tmps,defers:=[] } W)
 (hbody:∀(m l hi:Nat) (pre:List Nat) (x:Nat) (W:World),w.heap.size<hi->I hi pre W->T pre x->body.wpIn (Fence.wide.inRound l) m P (bodyEndH X hi (I hi) (pre++[x]) W) (a₁ x) W)
 (hdone:∀(D hi:Nat) (xs:List Nat) (W:World),w.heap.size<=D->D<hi->S xs->I hi xs W->W.heap[D]? = some (.deferred (some []))->Q .normal { a with defers:={ target:=.collected D,args:=#[] } :: a.defers } W) :
 (Code.rangeFunc g ps assign body).wpIn Fence.wide n P Q a w:=by
 refine wpIn_rangeFunc fun fn _=>?_
 obtain⟨D,hD⟩:=Nq w.heap.size
 obtain⟨mk,hmk⟩:∃mk:LoopState->Option Code->Loop,mk=fun s p=>{ state:=s,pending:=p,fn,tmps:=a.tmps,params:=ps,assign,body,defers:=D }:=⟨_,rfl⟩
 obtain⟨W1,hW1⟩:=Nq ((w.alloc (.deferred (some []))).alloc (.loop (mk .ready none)))
 have s1:W1.heap.size=D+1+1:=by rw[<- hW1];simp[hD]
 have bw:Below D w W1:=by rw[<- hW1,<- hD];exact((bR _ w).alloc (nR _) _).alloc (by simp) _
 have hl1:W1.heap[D+1]? = some (.loop (mk .ready none)):=by
  have:=World.alloc_heap_new (w.alloc (.deferred (some []))) (.loop (mk .ready none));rw[Yx,hD,hW1]at this;exact this
 have hd1:W1.heap[D]? = some (.deferred (some [])):=by
  have:=World.alloc_heap_new w (.deferred (some []));rw[<- hW1,<- hD];exact(Below.heap_alloc _ _ _ (by simp)).trans this
 have enter:=run_enterLoop_outer (P:=P) (w:=w) fn a.tmps ps assign body
 rw[hD]at enter
 refine⟨D+1,[{ target:=.collected D,args:=#[] }],W1,{ target:=.fn (.func gf) lb,args:=#[.func (.yield (D+1)) #[] #[]] },W1,gf,#[.func (.yield (D+1)) #[] #[]]++lb,W1,?_,?_,?_,?_,fun h=>by simp[Fence.wide]at h,?_⟩
 . rw[<- hW1,hmk];exact enter
 . simp only[resolve,hg];simp[go_sem]
 . intro _ _;trivial
 . simp[invoke,go_sem,eg]
 have hIput:∀hi xs W l o,D<=l->l<hi->I hi xs W->I hi xs (W.putObj l o):=fun hi xs W l o h h2 hi'=>hI hi xs W _ hi' (by rw[hD];exact Out.put W o h h2)
 refine(hseq (n - 1) (D+1) (fun hi pre W=>I hi pre W/\D+1<hi/\W.heap[D+1]? = some (.loop (mk .ready none))/\W.heap[D]? = some (.deferred (some []))) W1 (hb0.trans ((hD ▸ bw:Below w.heap.size w W1).mono hb0.size)) ?_ ?_ (fun k hk=>by have:=hX k hk;omega) ?_).mono ?_
 . rintro hi xs W W' ⟨h,hh,hl,hd⟩ hb
   rw[s1]at hb;exact⟨hI hi xs W W' h (hb.mono (by omega)),hh,(hb.block _ (Yr.1 hl).1 (by omega)).trans hl,(hb.block _ (Yr.1 hd).1 (by omega)).trans hd⟩
 . intro W2 hb
   have hz:=hb.size;rw[s1]at hb hz;refine⟨h0 W2 ?_,by omega,(hb.block _ (by omega)).trans hl1,(hb.block _ (by omega)).trans hd1⟩;rw[hD];exact bw.trans (hb.mono (by omega))
 . -- one round
   rintro m hi pre x W ⟨hi',hh,hl,hd⟩ hT;have hlt:D+1<W.heap.size:=(Yr.1 hl).1;have hy:=run_yield (P:=P) (args:=#[J9 (x:Int)]) hl (by rw[hmk];simp[hps]);rw[hmk]at hy;refine⟨fn,_,assign,body,hy,roundIn_of_wpIn trivial (hassign m _ x W _ ⟨_,run_beginRound hl (by rw[hmk]),?_⟩)⟩;refine wpIn_mono (hbody m _ hi pre x _ (by omega) (hIput _ _ _ _ _ (by omega) (by omega) hi') hT) ?_;have hl2:=World.putObj_heap_same (w:=W) (o:=.loop { mk .ready none with state:=.busy }) hlt;have hd2:(W.putObj (D+1) (.loop { mk .ready none with state:=.busy })).heap[D]? = some (.deferred (some [])):=(World.putObj_heap_other (by omega)).trans hd;have hx2:KeepB X hi W (W.putObj (D+1) (.loop { mk .ready none with state:=.busy })):=KeepB.put hl rfl;intro e a3 W3 hp;cases e with
   | normal =>
    obtain⟨ko,kx,hi3⟩:=hp;have hl3:=ko.same _ _ hl2 rfl;have hd3:=ko.same _ _ hd2 rfl;have hr:=run_endRound (P:=P) none hl3;rw[hmk]at hr;refine⟨_,_,hr,rfl,⟨hIput _ _ _ _ _ (by omega) (by omega) hi3,hh,?_,(World.putObj_heap_other (by omega)).trans hd3⟩,(hx2.trans kx).trans (KeepB.put hl3 rfl)⟩;rw[hmk];exact World.putObj_heap_same (Yr.1 hl3).1
   | ret=>exact hp.elim
   | exit id=>exact hp.elim
   | goto t=>exact hp.elim
   | panic c=>exact hp.elim
   | outgrown=>exact hp.elim
 . -- behind the iterator
   rintro e W2 ⟨⟨v,rfl⟩,hi,xs,hS,hi',hh,hl,hd⟩;have hr:=run_endLoop (P:=P) hl (by rw[hmk];simp);rw[hmk]at hr;exact⟨none,_,hr,hdone D hi xs _ (by omega) (by omega) hS (hIput _ _ _ _ _ (by omega) (by omega) hi') ((World.putObj_heap_other (by omega)).trans hd)⟩
end Go.Proofs.YtebbgodlijlioaaGreatDoor
namespace Go.Proofs.YtebbgodlijlioaaGreatDoor
open Go Go.RowKit
theorem Blk.row {w:World}{g:Nat}{t:TypeId}{cs:List Value}(h:Blk w g t cs)(cells:List Value):Blk (w.setRow g cells.toArray) g t cells:=setRow_heap w g cs.toArray cells.toArray t (0,0) h
theorem Blk.row_other {w:World}{g g':Nat}{t:TypeId}{cs:List Value}(h:Blk w g' t cs)(hne:g'≠g)(cells:Array Value):Blk (w.setRow g cells) g' t cs:=(setRow_other w g g' cells hne).trans h
theorem qhs (m:Nat)(F:Nat->Bool):bs (m+1) F=bs m F++[.bool (F m)]:=by simp[bs,List.range_succ]
theorem qj8 (m:Nat)(F:Nat->Int):is (m+1) F=is m F++[J9 (F m)]:=by simp[is,List.range_succ]
theorem q9p (m:Nat)(F:Nat->Bool):(bs m F).length=m:=by simp[bs]
def tabB (n:Nat)(R:Nat->Nat->Bool)(i:Nat):Bool:=R (i / n) (i % n)
theorem qly {n:Nat}(R:Nat->Nat->Bool){a b:Nat}(hb:b<n):tabB n R (a*n+b)=R a b:=by
 unfold tabB
 rw[Oo,Vc _ _ (by omega),Vm hb,Zx,Z4 hb,Zj]
theorem qcu (n:Nat)(g:Nat->Nat)(R:Nat->Nat->Bool)(w:World)(h1:1<=n)(hn:n<=32)(hg:IsRel g R) :
 Calls Tryz.prog 120 #[.agg (us g).toArray,J9 n] w fun e w'=>∃G,e=.returned (.slice (some ⟨G,0,none⟩) (n*n) (n*n))/\Blk w' G 4 (bs (n*n) (tabB n R))/\w.heap.size<=G/\Below w.heap.size w w':=by
 obtain⟨i0,hi,hz0,hz1,hz2⟩:=info_parts qb0
 have q1:(n:Int)*n<=1024:=by rw[<- Zi];have:=sq_le hn;omega
 have q0:0<=(n:Int)*n:=by rw[<- Zi];omega
 have q2:=sq_le hn
 have hbn:i0.bytes*(n*n)<=281474976710656:=by rw[hz2];omega
 have hC:((n:Int)*n)=((n*n:Nat):Int):=by simp
 have HC:=h_ hC;clear hC
 go_enter Tryz.func120,Tryz.ntmps120
 go_wp2_with (at_make;refine wpList_make_own _ rfl _ (.tmp 10) 33 rfl w.heap.size 4 i0 (.bool false) 1 Tryz.underlying33 hi hz0 hz1 .i64 .i64 _ (n*n) rfl rfl HC.u hbn (by unfold maxLen;omega) (by simp) ?_;intro w1 hown hgrow)
 have hb1:Below w.heap.size w w1:=((bR _ w).alloc (nR _) _).trans ((bR w.heap.size _).grown hgrow (by simp) (fun k e=>by cases e))
 have hB:=(Blk.new w 126 (us g).toArray).grown hgrow (by simp)
 have HO:=h_ hown;have HB1:=h_ hb1;have HB:=h_ hB
 clear hown hb1 hB hgrow hbn
 go_loopw [5,13] (fun v i wr=>∃k:Nat,k<=n/\i=J9 k/\v=.slice (some ⟨w.heap.size+1,0,none⟩) (k*n) (n*n)/\wr.ownsRow w.heap.size 4 1 (.slice (some ⟨w.heap.size+1,0,none⟩) (k*n) (n*n)) (k*n) (bs (k*n) (tabB n R))/\Blk wr w.heap.size 126 (us g)/\Below w.heap.size w wr) (fun _ i _=>n - (intOf i).toNat)
 case atStart=>exact⟨0,nZ _,rfl,by simp,by simpa [bs] using HO.u,HB.u,HB1.u⟩
 case round =>
  clear HO HB HB1;obtain⟨k,hk,rfl,rfl,hown,hB,hW⟩:=hrel;have HO:=h_ hown;have HB:=h_ hB;have HW:=h_ hW;clear hown hB hW;by_cases hlt:k<n
  . go_wp2_with fail
    go_loopw [5,17] (fun v i wr=>∃j:Nat,j<=n/\i=J9 j/\v=.slice (some ⟨w.heap.size+1,0,none⟩) (k*n+j) (n*n)/\wr.ownsRow w.heap.size 4 1 (.slice (some ⟨w.heap.size+1,0,none⟩) (k*n+j) (n*n)) (k*n+j) (bs (k*n+j) (tabB n R))/\Blk wr w.heap.size 126 (us g)/\Below w.heap.size w wr) (fun _ i _=>n - (intOf i).toNat)
    case atStart=>exact⟨0,nZ _,rfl,by simp,by simpa using HO.u,HB.u,HW.u⟩
    case round =>
     clear HO HB HW;obtain⟨j,hj,rfl,rfl,hown,hB,hW⟩:=hrel;by_cases hlj:j<n
     . have k32:k<32:=by omega
       have j32:j<32:=(by omega);have c0:=hB.cell k;rw[us_get _ k32]at c0;have l0:=hB.lt;have gk:=(hg k k32).1;have hlen:=idx_lt hlt hlj;have k0i:(0:Int)<=k:=(by omega);have k1i:(k:Int)<32:=(by omega);have HO:=h_ hown;have HB:=h_ hB;have HW:=h_ hW;clear hown hB hW;have hF:(g k).testBit j=tabB n R (k*n+j):=(by rw[(hg k k32).2 j,qly R hlj]);go_wp2_with (first | (go_at_call 152;refine(qit _ _ _ gk j32).mono ?_;rintro e w' ⟨rfl,rfl⟩) | (at_builtin;refine wpList_append_fits _ rfl _ _ 33 rfl w.heap.size 4 i0 1 Tryz.underlying33 hi hz1 (w.heap.size+1) (k*n+j) (n*n) _ rfl ((HO.u.alloc _).alloc _) ⟨wr.heap.size+1,0,none⟩ 1 1 [.bool (tabB n R (k*n+j))] rfl rfl ?c1 (by simp[Value.oneCell']) hlen ?_))
       case c1 =>
        intro q u hq
        match q,hq with
        | 0,hq=>simp at hq;subst hq;simp[Addr.add]
       . intro w2 hown2 hgrow2
         rw[<- qhs]at hown2;have bw2:Below wr.heap.size wr ((wr.alloc (.cells #[.int .u32 (g k:Int)] 124)).alloc (.cells #[.bool (tabB n R (k*n+j))] 4)):=((bR _ _).alloc (nR _) _).alloc (by simp) _;have hB2:=(HB.u.mono bw2 l0).grown hgrow2 (by simp);have hW2:=(HW.u.trans (bw2.mono HW.u.size)).grown hgrow2 (by have:=HW.u.size;simp;omega) (fun q e=>by cases e;omega);have HO2:=h_ hown2;have HB2:=h_ hB2;have HW2:=h_ hW2;clear hown2 hgrow2 bw2 hB2 hW2;go_wp2;go_roundw
         case rel=>exact⟨j+1,by omega,by go_num,rfl,HO2.u,HB2.u,HW2.u⟩
         case measure=>simp[intOf];omega
     . obtain rfl:j=n:=by omega
       have HO:=h_ hown;have HB:=h_ hB;have HW:=h_ hW;clear hown hB hW;go_wp2_with fail;go_roundw
       case rel=>exact⟨k+1,by omega,by go_num,by rw[Zw],by rw[Zw];exact HO.u,HB.u,HW.u⟩
       case measure=>simp[intOf];omega
  . obtain rfl:k=n:=by omega
    go_wp2;go_ret;exact⟨_,rfl,Blk.of_owns HO.u,by omega,HW.u⟩
def firstN (p:Nat->Bool)(n:Nat):Int:=match (List.range n).find? p with
 | some c=>c
 | none=>-1
theorem qap {p:Nat->Bool}{n k:Nat}(hk:k<n)(h:∀c,c<k->p c=false)(hp:p k=true):firstN p n=k:=by
 have:(List.range n).find? p=some k:=by
  rw[List.find?_range_eq_some];exact⟨hp,by simpa using hk,fun j hj=>by simp[h j hj]⟩
 rw[firstN,this]
theorem q7c {p:Nat->Bool}{n:Nat}(h:∀c,c<n->p c=false):firstN p n = -1:=by
 have:(List.range n).find? p=none:=by
  rw[List.find?_eq_none];intro x hx;simp[h x (List.mem_range.1 hx)]
 rw[firstN,this]
theorem q50 (p:Nat->Bool)(n:Nat):(∃c:Nat,c<n/\firstN p n=c/\p c=true)∨(firstN p n = -1/\∀c,c<n->p c=false):=by
 cases e:(List.range n).find? p with
 | some c =>
  left;have h1:=List.find?_some e;have h2:=List.mem_of_find?_eq_some e;exact⟨c,Y3.1 h2,by rw[firstN,e],h1⟩
 | none =>
  right;refine⟨by rw[firstN,e],fun c hc=>?_⟩;have:=(List.find?_eq_none.1 e) c (Y3.2 hc);simpa using this
theorem snocP {p:Nat->Bool}{k:Nat}(h:∀c,c<k->p c=false)(hk:p k=false):∀c,c<k+1->p c=false:=fun c hc=>by
 by_cases e:c=k
 . rw[e];exact hk
 . exact h c (by omega)
theorem q7p (t:Option Addr)(m cap n a b:Nat)(f:Nat->Bool)(w:World)(hm:n*n<=m)(hn:n<=32)(ha:a<n)(hb:b<n)(ht:Bools w t m f)(r:Int)(hr:firstN (isJoin f n a b) n=r) :
 Calls Tryz.prog 32 #[.slice t m cap,J9 n,J9 a,J9 b] w fun e w'=>e=.returned (J9 r)/\w'=w:=by
 have HM:=h_ hm;have HR:=h_ hr;clear hm hr
 go_enter Tryz.func32,Tryz.ntmps32
 go_wp2
 go_loop [9] (fun i=>∃k:Nat,k<=n/\i=J9 k/\∀c,c<k->isJoin f n a b c=false) (fun i=>n - (intOf i).toNat)
 case atStart=>exact⟨0,nZ _,rfl,fun c h=>absurd h (nL _)⟩
 case round =>
  obtain⟨k,hk,rfl,hall⟩:=hrel;have HA:=h_ hall;clear hall;by_cases hlt:k<n
  . cases hj:isJoin f n a b k
    . go_wp2_with (go_at_call 56;refine(q3l _ _ _ _ _ _ _ f _ HM.u hn ha hb hlt ht).mono ?_;rintro e w' ⟨rfl,rfl⟩;rw[hj])
      go_round
      case rel=>exact⟨k+1,by omega,by go_num,snocP HA.u hj⟩
      case measure=>simp[intOf];omega
    . have hv:=qap hlt HA.u hj
      rw[HR.u]at hv;subst hv;go_wp2_with (go_at_call 56;refine(q3l _ _ _ _ _ _ _ f _ HM.u hn ha hb hlt ht).mono ?_;rintro e w' ⟨rfl,rfl⟩;rw[hj]);go_ret;exact⟨rfl,rfl⟩
  . have hv:=q7c (p:=isJoin f n a b) (n:=n) fun c hc=>HA.u c (by omega)
    rw[HR.u]at hv;subst hv;go_wp2;go_ret;exact⟨rfl,rfl⟩
theorem q7q (t:Option Addr)(m cap n a b:Nat)(f:Nat->Bool)(w:World)(hm:n*n<=m)(hn:n<=32)(ha:a<n)(hb:b<n)(ht:Bools w t m f)(r:Int)(hr:firstN (isMeet f n a b) n=r) :
 Calls Tryz.prog 33 #[.slice t m cap,J9 n,J9 a,J9 b] w fun e w'=>e=.returned (J9 r)/\w'=w:=by
 have HM:=h_ hm;have HR:=h_ hr;clear hm hr
 go_enter Tryz.func33,Tryz.ntmps33
 go_wp2
 go_loop [9] (fun i=>∃k:Nat,k<=n/\i=J9 k/\∀c,c<k->isMeet f n a b c=false) (fun i=>n - (intOf i).toNat)
 case atStart=>exact⟨0,nZ _,rfl,fun c h=>absurd h (nL _)⟩
 case round =>
  obtain⟨k,hk,rfl,hall⟩:=hrel;have HA:=h_ hall;clear hall;by_cases hlt:k<n
  . cases hj:isMeet f n a b k
    . go_wp2_with (go_at_call 57;refine(q3m _ _ _ _ _ _ _ f _ HM.u hn ha hb hlt ht).mono ?_;rintro e w' ⟨rfl,rfl⟩;rw[hj])
      go_round
      case rel=>exact⟨k+1,by omega,by go_num,snocP HA.u hj⟩
      case measure=>simp[intOf];omega
    . have hv:=qap hlt HA.u hj
      rw[HR.u]at hv;subst hv;go_wp2_with (go_at_call 57;refine(q3m _ _ _ _ _ _ _ f _ HM.u hn ha hb hlt ht).mono ?_;rintro e w' ⟨rfl,rfl⟩;rw[hj]);go_ret;exact⟨rfl,rfl⟩
  . have hv:=q7c (p:=isMeet f n a b) (n:=n) fun c hc=>HA.u c (by omega)
    rw[HR.u]at hv;subst hv;go_wp2;go_ret;exact⟨rfl,rfl⟩
end Go.Proofs.YtebbgodlijlioaaGreatDoor
namespace Go.Proofs.YtebbgodlijlioaaGreatDoor
open Go Go.RowKit Go.Shelf
attribute [local go_sem] Oper.semAt_some
def Least (g:Nat->Nat)(s:Nat)(v:Int):Prop:=(∃c:Nat,c<32/\v=(c:Int)/\s.testBit c=true/\minusN s (g c)=0)∨(v = -1/\∀c:Nat,s.testBit c=true->¬ minusN s (g c)=0)
theorem q8b (n:Nat)(g:Nat->Nat)(s:Nat)(w:World)(hg:∀a,a<32->g a<4294967296)(hs:s<4294967296)(ht:Tab w) :
 CallsIn Fence.wide n Tryz.prog 121 #[.agg (us g).toArray,.agg #[.int .u32 (s:Int)]] w fun e w'=>∃v,e=.returned (J9 v)/\Least g s v/\Below w.heap.size w w':=by
 refine callsIn_of_wp_marks Tryz.func121 rfl trivial ?_ rfl
 simp only[Tryz.ntmps121,Zh,Ys,Y4,Nat.reduceAdd,Nat.reduceSub,Z9,Z8,Vg,Vb,Vj,Zn]
 gi_wp2_with fail
 refine callW ((q89 _ _).mono ?_)
 rintro e w1 ⟨rfl,rfl⟩
 gi_wp2_with fail
 have B0:=((Blk.new w 126 (us g).toArray).alloc (.cells #[.int .u32 (s:Int)] 124)).alloc (.cells #[J9 0] 3) |>.alloc (.cells #[.int .u32 (s:Int)] 124)
 have B1:=((Blk.new (w.alloc (.cells (us g).toArray 126)) 124 #[.int .u32 (s:Int)]).alloc (.cells #[J9 0] 3)).alloc (.cells #[.int .u32 (s:Int)] 124)
 have B2:=(Blk.new ((w.alloc (.cells (us g).toArray 126)).alloc (.cells #[.int .u32 (s:Int)] 124)) 3 #[J9 0]).alloc (.cells #[.int .u32 (s:Int)] 124)
 have B3:=Blk.new (((w.alloc (.cells (us g).toArray 126)).alloc (.cells #[.int .u32 (s:Int)] 124)).alloc (.cells #[J9 0] 3)) 124 #[.int .u32 (s:Int)]
 have BW:=below4 w (.cells (us g).toArray 126) (.cells #[.int .u32 (s:Int)] 124) (.cells #[J9 0] 3) (.cells #[.int .u32 (s:Int)] 124)
 simp only[Yx]at B1 B2 B3
 have T4:=ht.mono BW
 have z4:((((w.alloc (.cells (us g).toArray 126)).alloc (.cells #[.int .u32 (s:Int)] 124)).alloc (.cells #[J9 0] 3)).alloc (.cells #[.int .u32 (s:Int)] 124)).heap.size=w.heap.size+1+1+1+1:=by simp
 obtain⟨W4,hW4⟩:=Nq ((((w.alloc (.cells (us g).toArray 126)).alloc (.cells #[.int .u32 (s:Int)] 124)).alloc (.cells #[J9 0] 3)).alloc (.cells #[.int .u32 (s:Int)] 124))
 rw[hW4]at B0 B1 B2 B3 BW T4 z4⊢
 clear hW4
 refine qc7 (gf:=176) (lb:=#[Yc (w.heap.size+1+1+1) 0]) rfl (enters_of Tryz.func176 (by kernel_rfl) rfl)
  (q3y (w.heap.size+1+1+1) s W4 (fun _=>False) hs B3 T4 (fun h=>h)) (bR _ _) (fun _ h=>h.elim) rfl
  (fun pre W=>(∀c∈pre,¬ minusN s (g c)=0)/\Blk W w.heap.size 126 (us g)/\Blk W (w.heap.size+1) 124 [.int .u32 (s:Int)]/\Blk W (w.heap.size+1+1) 3 [J9 0]/\Below w.heap.size w W)
  (fun pre W=>∃c,c∈pre/\c<32/\minusN s (g c)=0/\Blk W (w.heap.size+1+1) 3 [J9 (c:Int)]/\Below w.heap.size w W)
  ?hI ?hIx ⟨fun _ h=>(by cases h),B0,B1,B2,BW⟩
  (fun x=>{ tmps:=#[.agg (us g).toArray,.agg #[.int .u32 (s:Int)],Yc w.heap.size 0,Yc (w.heap.size+1) 0,Yc (w.heap.size+1+1) 0,J9 (x:Int),.agg #[.int .u32 (s:Int)],.func (.func 176) #[] #[Yc (w.heap.size+1+1+1) 0],J9 (x:Int),undef,undef,undef,undef,undef,undef,undef],defers:=[] })
  ?assign ?body ?done ?stop
 case hI =>
  rintro pre W W' ⟨h1,h2,h3,h4,h5⟩ hb;rw[z4]at hb;exact⟨h1,h2.mono hb (by omega),h3.mono hb (by omega),h4.mono hb (by omega),h5.trans (hb.mono (by omega))⟩
 case hIx =>
  rintro pre W W' ⟨c,h1,h2,h3,h4,h5⟩ hb;rw[z4]at hb;exact⟨c,h1,h2,h3,h4.mono hb (by omega),h5.trans (hb.mono (by omega))⟩
 case assign =>
  intro m l x W K hK
  gi_wp2
  exact hK
 case body =>
  rintro m l pre x W ⟨h1,h2,h3,h4,h5⟩ ⟨hx32,hxs⟩;have hmix:Tryz.prog.follows .mixedOrders=true:=by kernel_rfl
  have cg:=h2.cell x;rw[us_get g hx32]at cg;have cs:=h3.cell 0;simp only[Yh]at cs;have cr:=h4.cell 0;have fr:=h4.free 0;simp only[Yh]at cr;have hgx:=hg x hx32;have x0i:(0:Int)<=x:=by omega
  have x1i:(x:Int)<32:=by omega
  have hlW:=h4.lt;have H1:=h_ h1;have H2:=h_ h2;have H3:=h_ h3;have H4:=h_ h4;have H5:=h_ h5;clear h1 h2 h3 h4 h5;have HXS:=h_ hxs;clear hxs;have hm:=qbh (t:=g x) hs;cases hz:(minusN s (g x)==0)
  . have HM:Hi (¬ minusN s (g x)=0):=by simpa [Hi] using hz
    gi_wp2_with fail
    gi_region_with_o (first | (refine callR ((qbi _ _ _ hs hgx).mono ?_);rintro e w' ⟨rfl,rfl⟩) | (refine callR ((qaf _ _).mono ?_);rintro e w' ⟨rfl,rfl⟩))
    all_goals
     gi_wp2
     refine⟨keepsO (below4 _ _ _ _ _).drew,KeepX.of_below (below4 _ _ _ _ _).drew,fun c hc=>?_,H2.u.mono (below4 _ _ _ _ _).drew H2.u.lt,H3.u.mono (below4 _ _ _ _ _).drew H3.u.lt,H4.u.mono (below4 _ _ _ _ _).drew H4.u.lt,H5.u.trans ((below4 W _ _ _ _).drew.mono H5.u.size)⟩;rcases Zb.1 hc with h | h
     . exact H1.u c h
     . rw[Yw.1 h];exact HM.u
  . have HM:Hi (minusN s (g x)=0):=by simpa [Hi] using hz
    have K4:=H4.u.cell4 0;have F4:=H4.u.free4 0;simp only[Yh]at K4;gi_wp2_with fail
    gi_region_with_o (first | (refine callR ((qbi _ _ _ hs hgx).mono ?_);rintro e w' ⟨rfl,rfl⟩) | (refine callR ((qaf _ _).mono ?_);rintro e w' ⟨rfl,rfl⟩))
    all_goals
     gi_wp2
     refine⟨(keepsO (below4 _ _ _ _ _)).trans ((KeepsOthers.setCell _ _ _).trans (KeepsOthers.drew _)),x,by simp,hx32,HM.u,?_,?_⟩
     . exact(H4.u.mono (below4 _ _ _ _ _) H4.u.lt).set 0 (J9 (x:Int))
     . exact((H5.u.trans ((below4 W _ _ _ _).mono H5.u.size)).setCell (p:=⟨w.heap.size+1+1,0,none⟩) (by simp;omega) _).drew
 case done =>
  rintro D xs W hD hS ⟨h1,h2,h3,h4,h5⟩ hK;have cr:=h4.cell 0;have fr:=h4.free 0;simp only[Yh]at cr;have H1:=h_ h1;have H4:=h_ h4;have H5:=h_ h5;have HK:=h_ hK;clear h1 h2 h3 h4 h5 hK;have HS:=h_ hS;clear hS
  gi_wp2
  have hK':=(KeepsOthers.setCell W ⟨w.heap.size+1+1,0,none⟩ (J9 (-1))).same D _ HK.u rfl;have hB':=(H4.u.set 0 (J9 (-1))).put (.deferred none) hK' rfl;refine⟨by simp,.inl ⟨_,_,rfl,run_takeDeferred hK',?_⟩⟩;have hc5:=hB'.cell 0;simp only[Yd,Yh]at hc5;refine⟨J9 (-1),?_,-1,rfl,.inr ⟨rfl,fun c hc=>H1.u c ((HS.u c).2 hc)⟩,?_⟩
  . simp[results,Tryz.f121,go_sem,hc5]
  . exact(H5.u.setCell (p:=⟨w.heap.size+1+1,0,none⟩) (by simp;omega) _).trans (q9o _ D _ (by omega))
 case stop =>
  rintro D pre W hD hSp ⟨c,h1,h2,h3,h4,h5⟩ hK;have HK:=h_ hK;have H4:=h_ h4;have H5:=h_ h5;have H3:=h_ h3;have HSp:=h_ hSp;clear h4 h5 h3 hK hSp
  gi_wp2
  refine⟨by simp,.inl ⟨_,_,rfl,run_takeDeferred HK.u,?_⟩⟩;have hc5:=(H4.u.put (.deferred none) HK.u rfl).cell 0;simp only[Yh]at hc5;refine⟨J9 (c:Int),?_,c,rfl,.inl ⟨c,h2,rfl,HSp.u c h1,H3.u⟩,?_⟩
  . simp[results,Tryz.f121,go_sem,hc5]
  . exact H5.u.trans (q9o _ D _ (by omega))
theorem q5n (g:Nat->Nat)(s:Nat)(w:World)(hg:∀a,a<32->g a<4294967296)(hs:s<4294967296)(ht:Tab w) :
 Calls Tryz.prog 121 #[.agg (us g).toArray,.agg #[.int .u32 (s:Int)]] w fun e w'=>∃v,e=.returned (J9 v)/\Least g s v/\Below w.heap.size w w' :=
 (callsIn_wide (n:=9)).1 (q8b 9 g s w hg hs ht)
end Go.Proofs.YtebbgodlijlioaaGreatDoor
namespace Go.Proofs.YtebbgodlijlioaaGreatDoor
open Go Go.RowKit
theorem qga {w:World}{b:Nat}{g:Nat->Nat}(hb:Blk w b 126 (us g)):(Instr.loadAt 126 (Yc b 0)).run Tryz.prog w=.ok (.agg (us g).toArray) w:=by
 simp only[Instr.loadAt,Instr.sureAddr,Sem.run_bind,Sem.run_pure,Result.andThen_ok,run_loadVar_row w b 126 126 (us g).toArray (0,0) _ hb Tryz.underlying126 rfl (qln g)]
theorem Blk.range {w:World}{b:Nat}{t:TypeId}{cs:List Value}(h:Blk w b t cs):w.rangeAt b 0 cs:=fun j v hv=>by rw[Zj,h.cell,hv]
theorem len_us (g:Nat->Nat):(Tryz.prog.info? 126).map (·.size)=some (us g).length:=by rw[qcj,qd3]
def Held (w':World)(B k j:Nat)(g:Nat->Nat):Prop:=Blk w' B 126 (us g)/\Tab w'/\w'.cell? ⟨B,k,none⟩=some (.int .u32 (g k:Int))/\w'.cell? ⟨B,j,none⟩=some (.int .u32 (g j:Int))/\w'.rangeAt B 0 (us g)
theorem Held.mono {w w':World}{B k j:Nat}{g:Nat->Nat}(h:Held w B k j g)(hb:Below w.heap.size w w'):Held w' B k j g :=
 have h0:=h.1.mono hb h.1.lt
 ⟨h0,h.2.1.mono hb,(hb.cell (p:=⟨B,k,none⟩) h.1.lt).trans h.2.2.1,(hb.cell (p:=⟨B,j,none⟩) h.1.lt).trans h.2.2.2.1,h0.range⟩
theorem _root_.Go.World.ownsRow.mono3 {w w':World}{base e g n cap:Nat}{xs:List Value}(h:w.ownsRow base e 1 (.slice (some ⟨g,0,none⟩) n cap) n xs)(hb:Below w.heap.size w w'):w'.ownsRow base e 1 (.slice (some ⟨g,0,none⟩) n cap) n xs :=
 h.kept (row:=none) ⟨hb.os,hb.tape,hb.output,hb.size,fun k hk _=>hb.block k hk⟩ (.inr (by simp[Value.ownBlock]))
def Entry (g:Nat->Nat)(a b:Nat)(v:Int):Prop:=Least g (commonN (g a) (g b)) v
theorem q6u (n:Nat)(g:Nat->Nat)(w:World)(h1:1<=n)(hn:n<=32)(hg:∀a,a<32->g a<4294967296)(ht:Tab w) :
 Calls Tryz.prog 118 #[.agg (us g).toArray,J9 n] w fun e w'=>Below w.heap.size w w' /\
  ((∃G F,e=.returned (.tuple #[.slice (some ⟨G,0,none⟩) (n*n) (n*n),.bool true])/\Blk w' G 3 (is (n*n) F)/\w.heap.size<=G/\∀a,a<n->∀b,b<n->0<=F (a*n+b)/\Entry g a b (F (a*n+b))) ∨
   (e=.returned (.tuple #[Ya,.bool false])/\∃a b,a<n/\b<n/\Entry g a b (-1))):=by
 obtain⟨i0,hi,hz0,hz1,hz2⟩:=info_parts qe8
 have q1:(n:Int)*n<=1024:=by rw[<- Zi];have:=sq_le hn;omega
 have q0:0<=(n:Int)*n:=by rw[<- Zi];omega
 have q2:=sq_le hn
 have hbn:i0.bytes*(n*n)<=281474976710656:=by rw[hz2];omega
 have hC:((n:Int)*n)=((n*n:Nat):Int):=by simp
 have HC:=h_ hC;clear hC
 go_enter Tryz.func118,Tryz.ntmps118
 go_wp2_with (at_make;refine wpList_make_own _ rfl _ (.tmp 12) 30 rfl w.heap.size 3 i0 (J9 0) 1 Tryz.underlying30 hi hz0 hz1 .i64 .i64 _ (n*n) rfl rfl HC.u hbn (by unfold maxLen;omega) (by simp) ?_;intro w1 hown hgrow)
 have hb1:Below w.heap.size w w1:=((bR _ w).alloc (nR _) _).trans ((bR w.heap.size _).grown hgrow (by simp) (fun k e=>by cases e))
 have hB:=(Blk.new w 126 (us g).toArray).grown hgrow (by simp)
 have HO:=h_ hown;have HB1:=h_ hb1;have HB:=h_ hB
 clear hown hb1 hB hgrow hbn
 go_loopw [6,15] (fun v i wr=>∃(k:Nat) (F:Nat->Int),k<=n/\i=J9 k/\v=.slice (some ⟨w.heap.size+1,0,none⟩) (k*n) (n*n)/\wr.ownsRow w.heap.size 3 1 (.slice (some ⟨w.heap.size+1,0,none⟩) (k*n) (n*n)) (k*n) (is (k*n) F)/\Blk wr w.heap.size 126 (us g)/\Below w.heap.size w wr/\(∀a,a<k->∀b,b<n->0<=F (a*n+b)/\Entry g a b (F (a*n+b)))) (fun _ i _=>n - (intOf i).toNat)
 case atStart=>exact⟨0,fun _=>0,nZ _,rfl,by simp,by simpa [is] using HO.u,HB.u,HB1.u,fun a h=>absurd h (nL _)⟩
 case round =>
  clear HO HB HB1;obtain⟨k,F,hk,rfl,rfl,hown,hB,hW,hF⟩:=hrel;have HO:=h_ hown;have HB:=h_ hB;have HW:=h_ hW;have HF:=h_ hF;clear hown hB hW hF;by_cases hlt:k<n
  . go_wp2_with fail
    go_loopw [6,19] (fun v i wr=>∃(j:Nat) (F:Nat->Int),j<=n/\i=J9 j/\v=.slice (some ⟨w.heap.size+1,0,none⟩) (k*n+j) (n*n)/\wr.ownsRow w.heap.size 3 1 (.slice (some ⟨w.heap.size+1,0,none⟩) (k*n+j) (n*n)) (k*n+j) (is (k*n+j) F)/\Blk wr w.heap.size 126 (us g)/\Below w.heap.size w wr/\(∀a,a<k->∀b,b<n->0<=F (a*n+b)/\Entry g a b (F (a*n+b)))/\(∀b,b<j->0<=F (k*n+b)/\Entry g k b (F (k*n+b)))) (fun _ i _=>n - (intOf i).toNat)
    case atStart=>exact⟨0,F,nZ _,rfl,by simp,by simpa using HO.u,HB.u,HW.u,HF.u,fun b h=>absurd h (nL _)⟩
    case round =>
     clear HO HB HW HF;obtain⟨j,F,hj,rfl,rfl,hown,hB,hW,hF,hG⟩:=hrel;have HO:=h_ hown;have HB:=h_ hB;have HW:=h_ hW;have HF:=h_ hF;have HG:=h_ hG;by_cases hlj:j<n
     . have k32:k<32:=by omega
       have j32:j<32:=(by omega);have ck:=hB.cell k;have cj:=hB.cell j;rw[us_get _ k32]at ck;rw[us_get _ j32]at cj;have gk:=hg k k32;have gj:=hg j j32;have gc:=q70 (t:=g j) gk;have l0:=hB.lt;have hT:=ht.mono hW;have S0:Hi (Held wr w.heap.size k j g):=⟨hB,hT,ck,cj,hB.range⟩;have hu56:=Tryz.underlying126;have hl56:=len_us g;have k0i:(0:Int)<=k:=(by omega);have k1i:(k:Int)<32:=(by omega);have j0i:(0:Int)<=j:=(by omega);have j1i:(j:Int)<32:=(by omega);clear hown hB hW hF hG hT ck cj;go_wp2_with fail;go_region_held3 (fun w'=>Blk w' w.heap.size 126 (us g)/\Tab w'/\w'.cell? ⟨w.heap.size,k,none⟩=some (.int .u32 (g k:Int))/\w'.cell? ⟨w.heap.size,j,none⟩=some (.int .u32 (g j:Int))/\w'.rangeAt w.heap.size 0 (us g)) (first | exact S0.u | exact S2.u | exact S3.u) (first | (go_at_call 151;refine(q71 _ _ _ gk gj).mono ?_;rintro e w2 ⟨rfl,hb2⟩;have S2:Hi (Held w2 w.heap.size k j g):=S0.u.mono (q25 hb2);replace hb2:=h_ (q25 hb2)) | (go_at_call 121;refine(q5n g _ _ hg gc S2.u.2.1).mono ?_;rintro e w3 ⟨v,rfl,hv,hb3⟩;have S3:Hi (Held w3 w.heap.size k j g):=S2.u.mono hb3;replace hb3:=h_ (hb2.u.trans (hb3.mono hb2.u.size));replace hv:=h_ hv));have HV:Hi (Entry g k j v):=hv;have HW3:Hi (Below wr.heap.size wr w3):=hb3;have own3:=HO.u.mono3 HW3.u;have hB3:=S3.u.1;have hv0:v = -1∨0<=v:=by
        rcases HV.u with ⟨c,-,rfl,-⟩ | ⟨rfl,-⟩
        . exact .inr (by omega)
        . exact .inl rfl
       have hlen:=idx_lt hlt hlj;have hWW:=HW.u.trans (HW3.u.mono HW.u.size);have HO3:=h_ own3;have HB3:=h_ hB3;have HWW:=h_ hWW;clear own3 hB3 hWW hv hb3 hb2 S0 S2 S3 hu56 hl56;rcases hv0 with rfl | hv0
       . have HX:Hi (∃a b,a<n/\b<n/\Entry g a b (-1)):=⟨k,j,hlt,hlj,HV.u⟩
         go_wp2
         go_ret2
         exact⟨HWW.u,.inr ⟨rfl,HX.u⟩⟩
       . go_wp2_with (at_builtin;refine wpList_append_fits _ rfl _ _ 30 rfl w.heap.size 3 i0 1 Tryz.underlying30 hi hz1 (w.heap.size+1) (k*n+j) (n*n) _ rfl (HO3.u.alloc _) ⟨w3.heap.size,0,none⟩ 1 1 [J9 v] rfl rfl ?c1 (by simp[Value.oneCell']) hlen ?_)
         case c1 =>
          intro q u hq
          match q,hq with
          | 0,hq=>simp at hq;subst hq;simp[Addr.add]
         . intro w4 hown4 hgrow4
           have hB4:=(HB3.u.alloc (.cells #[J9 v] 3)).grown hgrow4 (by simp);have hW4:=(HWW.u.alloc HWW.u.size (.cells #[J9 v] 3)).grown hgrow4 (by have:=HWW.u.size;simp;omega) (fun q e=>by cases e;omega);have HO4:=h_ hown4;have HB4:=h_ hB4;have HW4:=h_ hW4;clear hown4 hgrow4 hB4 hW4;go_wp2;go_roundw
           case rel =>
            refine⟨j+1,fun i=>if i=k*n+j then v else F i,by omega,by go_num,rfl,?_,HB4.u,HW4.u,fun a ha b hb=>?_,fun b hb=>?_⟩
            . have e:is (k*n+(j+1)) (fun i=>if i=k*n+j then v else F i)=is (k*n+j) F++[J9 v]:=by
               rw[<- Nat.add_assoc,qj8];simp only[if_true]
               congr 1
               unfold is;refine Z2 fun q hq=>?_;simp only[Yt (show ¬ q=k*n+j by have:=Y3.1 hq;omega)]
              rw[e];exact HO4.u
            . have:¬ a*n+b=k*n+j:=by
               have h2:(a+1)*n<=k*n:=Zs _ ha;rw[Zw]at h2;omega
              simp only[Yt this];exact HF.u a ha b hb
            . by_cases e:b=j
              . subst e;simp only[if_true];exact⟨hv0,HV.u⟩
              . simp only[Yt (show ¬ k*n+b=k*n+j by omega)]
                exact HG.u b (by omega)
           case measure=>simp[intOf];omega
     . obtain rfl:j=n:=by omega
       clear hown hB hW hF hG;go_wp2_with fail;go_roundw
       case rel =>
        refine⟨k+1,F,by omega,by go_num,by rw[Zw],by rw[Zw];exact HO.u,HB.u,HW.u,fun a ha=>?_⟩;by_cases e:a=k
        . subst e;exact HG.u
        . exact HF.u a (by omega)
       case measure=>simp[intOf];omega
  . obtain rfl:k=n:=by omega
    go_wp2
    go_ret2
    exact⟨HW.u,.inl ⟨_,F,rfl,Blk.of_owns HO.u,by omega,HF.u⟩⟩
section
variable {md:Region.Mode} {ops:Array Oper} {Q:Exit->Act->World->Prop} {S:World->Prop} {o:Oper} {a:Act}
theorem q6k (hw:Region.wanted o (yielded ops a.tmps)=true)(x:Operand)(ho:o.op=.load 126 x)(b:Nat)(g:Nat->Nat)(hx:a.eval x=Yc b 0)(hS:∀w,S w->Blk w b 126 (us g)):YieldsIf Tryz.prog ops S o (.agg (us g).toArray) a :=
 .inl ⟨hw,fun w h=>by simp only[execOp,ho,hx,Sem.run_bind,Sem.run_pure,qga (hS w h),Result.andThen_ok]⟩
theorem q6j (hw:Region.wanted o (yielded ops a.tmps)=true)(x:Operand)(v:Value)(ho:o.op=.move x)(hx:a.eval x=v):YieldsIf Tryz.prog ops S o v a :=
 .inl ⟨hw,fun w _=>by rw[BigFrame.run_move x ho,hx]⟩
theorem q9h (hw:Region.wanted o (yielded ops a.tmps)=true)(x:Operand)(ho:o.op=.load 124 x)(b off:Nat)(v:Value)(hx:a.eval x=Yc b off)(hS:∀w,S w->w.cell? ⟨b,off,none⟩=some v):YieldsIf Tryz.prog ops S o (.agg #[v]) a :=
 .inl ⟨hw,fun w h=>by have h':=hS w h;simp only[execOp,ho,hx];simp[go_sem,h']⟩
theorem qfv {a:Act}{o:Oper}{d:Tmp}{v:Value}(h:o.dst=some d):a.put o.dst v = { tmps:=a.tmps.setIfInBounds d v,defers:=a.defers }:=by rw[h];rfl
theorem take {i:Nat}{v:Value}{fuel:Nat}{listed:Array Bool}{w:World}(d:Tmp)(hi:ops[i]? = some o)(hd:o.dst=some d)(hs:Region.noSelect ops=true)(hf:Region.free md ops listed i=true)(hr:(Region.ready md ops listed).contains i=true)
 (hQ:∀c (b:Act) (t:Array Value) w,Q (.panic c) { tmps:=t,defers:=b.defers } w->Q (.panic c) b w) (hy:YieldsIf Tryz.prog ops S o v a) (hS:S w) (h:wpAnyH Tryz.prog md ops Q S fuel (listed.setIfInBounds i true) { tmps:=a.tmps.setIfInBounds d v,defers:=a.defers } w):wpAnyH Tryz.prog md ops Q S (fuel+1) listed a w :=
 wpAnyH_take hi hs hf hr (fun c a w h=>hQ c a _ w (by rw[qfv hd]at h;exact h)) hy hS (by rw[qfv hd];exact h)
theorem callH {i:Nat}{fuel:Nat}{listed:Array Bool}{w:World}{f:FuncId}{args:Array Value}{R:Value->World->Prop}(d:Tmp)(hi:ops[i]? = some o)(hd:o.dst=some d)(hw:Region.wanted o (yielded ops a.tmps)=true)(hr:Region.ready md ops listed=[i])
 (hrun:(execOp a.eval o).run Tryz.prog w=.ok (.enter f args) w) (hc:Calls Tryz.prog f args w fun e w'=>∃v,e=.returned v/\R v w')
 (h:∀v w',R v w'->S w'/\wpAnyH Tryz.prog md ops Q S fuel (listed.setIfInBounds i true) { tmps:=a.tmps.setIfInBounds d v,defers:=a.defers } w'):wpAnyH Tryz.prog md ops Q S (fuel+1) listed a w:=by
 refine wpAnyH_ready hr (by simp) (AllReadyH.cons hi (fun K hK=>?_) AllReadyH.nil)
 rw[Yz hw]
 unfold Oper.wp
 rw[hrun,Oper.upon_enter]
 refine hc.mono ?_
 rintro e w' ⟨v,rfl,hR⟩
 obtain⟨h1,h2⟩:=h v w' hR
 show K (a.put o.dst v) w'
 rw[qfv hd]
 exact hK.out _ _ h1 (fun _=>h2)
theorem runH {i:Nat}{fuel:Nat}{listed:Array Bool}{w w':World}{v:Next}(hi:ops[i]? = some o)(hw:Region.wanted o (yielded ops a.tmps)=true)(hr:Region.ready md ops listed=[i])
 (hd:o.dst=none) (hrun:(execOp a.eval o).run Tryz.prog w=.ok v w') (hv:v=.skip) (hS:S w') (h:wpAnyH Tryz.prog md ops Q S fuel (listed.setIfInBounds i true) a w'):wpAnyH Tryz.prog md ops Q S (fuel+1) listed a w:=by
 subst hv
 refine wpAnyH_ready hr (by simp) (AllReadyH.cons hi (fun K hK=>?_) AllReadyH.nil)
 rw[Yz hw]
 unfold Oper.wp
 rw[hrun,Oper.upon_skip,hd]
 exact hK.out _ _ hS (fun _=>h)
end
def rowP (f:Nat->Bool)(n bt tp a:Nat):Prop :=
 f (a*n+a)=true/\f (bt*n+a)=true/\f (a*n+tp)=true /\
  ∀b,b<n->¬ (a≠b/\f (a*n+b)=true/\f (b*n+a)=true)/\∀c,c<n->f (a*n+b)=true->f (b*n+c)=true->f (a*n+c)=true
def entP (f:Nat->Bool)(g h:Nat->Int)(n a b:Nat):Prop :=
 ∃j m:Nat,g (a*n+b)=j/\h (a*n+b)=m/\j<n/\m<n/\isJoinP f n a b j/\isMeetP f n a b m
structure ValidP (N:Int)(n1 n2 n3:Nat)(f:Nat->Bool)(g h:Nat->Int)(bot top:Int)(n bt tp:Nat):Prop where
 hN:N=n
 h1:1<=n
 h32:n<=32
 l1:n1=n*n
 l2:n2=n*n
 l3:n3=n*n
 hb:bot=bt
 ht:top=tp
 bb:bt<n
 tt:tp<n
 rows:∀a,a<n->rowP f n bt tp a
 ents:∀a,a<n->∀b,b<n->entP f g h n a b
def Valid (N:Int)(n1 n2 n3:Nat)(f:Nat->Bool)(g h:Nat->Int)(bot top:Int):Prop:=∃n bt tp,ValidP N n1 n2 n3 f g h bot top n bt tp
theorem q6t {V:Bool}{p:Prop}(hV:V=true ↔ p)(h:¬ p):V=false:=by
 cases V
 . rfl
 . exact absurd (hV.1 rfl) h
theorem q6f (n:Nat)(g d:Nat->Nat)(w:World)(hn:n<=32)(hg:∀a,a<32->g a<4294967296)(hd:∀a,a<32->d a<4294967296)(V:Bool)(hV:V=true ↔ ∃a,a<n/\¬ commonN (g a) (d a)=2 ^ a) :
 Calls Tryz.prog 117 #[J9 n,.agg (us g).toArray,.agg (us d).toArray] w fun e w'=>e=.returned (.bool V)/\Below w.heap.size w w':=by
 have HV:=h_ hV;clear hV
 have B0:=(Blk.new w 126 (us g).toArray).alloc (.cells (us d).toArray 126)
 have B1:=Blk.new (w.alloc (.cells (us g).toArray 126)) 126 (us d).toArray
 have BW:Below w.heap.size w ((w.alloc (.cells (us g).toArray 126)).alloc (.cells (us d).toArray 126)):=((bR _ _).alloc (nR _) _).alloc (by simp) _
 simp only[Yx]at B1
 have H0:=h_ B0;have H1:=h_ B1;have HW:=h_ BW;clear B0 B1 BW
 go_enter Tryz.func117,Tryz.ntmps117
 go_wp2_with fail
 go_loopw [9] (fun i wr=>∃k:Nat,k<=n/\i=J9 k/\(∀a,a<k->commonN (g a) (d a)=2 ^ a)/\Blk wr w.heap.size 126 (us g)/\Blk wr (w.heap.size+1) 126 (us d)/\Below w.heap.size w wr) (fun i _=>n - (intOf i).toNat)
 case atStart=>exact⟨0,nZ _,rfl,fun a h=>absurd h (nL _),H0.u,H1.u,HW.u⟩
 case round =>
  clear H0 H1 HW;obtain⟨k,hk,rfl,hall,b0,b1,bw⟩:=hrel;have HA:=h_ hall;clear hall;by_cases hlt:k<n
  . have k32:k<32:=by omega
    have c0:=b0.cell k;have c1:=b1.cell k;rw[us_get _ k32]at c0 c1;have l1:=b1.lt;have g1:=hg k k32;have d1:=hd k k32;have k0i:(0:Int)<=k:=(by omega);have k1i:(k:Int)<32:=(by omega);have he:=fun (a b:Int) w=>eq_set 9998 a b w;have H0:=h_ b0;have H1:=h_ b1;have HW:=h_ bw;clear b0 b1 bw;cases hz:((commonN (g k) (d k):Nat)==(2 ^ k:Nat))
    . have hz':(((commonN (g k) (d k):Nat):Int)==2 ^ k)=false:=by
       rw[show(2:Int) ^ k=((2 ^ k:Nat):Int) by simp];simp at hz⊢;exact_mod_cast hz
      have HT:Hi (V=true):=HV.u.2 ⟨k,hlt,by simpa using hz⟩;go_wp2_with fail
      go_region_with (first | (go_at_call 151;refine(q71 _ _ _ g1 d1).mono ?_;rintro e w' ⟨rfl,hb⟩;replace hb:Hi (Below wr.heap.size wr w'):=⟨hb.os,hb.tape,hb.output,hb.size,hb.block⟩) | (go_at_call 123;refine(qke _ _ k32).mono ?_;rintro e w' ⟨rfl,rfl⟩))
      all_goals
       have hq:=‹Hi (Below wr.heap.size wr _)›;go_wp2;go_ret;exact⟨qg2 HT.u.symm,(HW.u.trans (hq.u.mono HW.u.size)).alloc (by have:=hq.u.size;have:=HW.u.size;omega) _⟩
    . have hz':(((commonN (g k) (d k):Nat):Int)==2 ^ k)=true:=by
       rw[show(2:Int) ^ k=((2 ^ k:Nat):Int) by simp];simp at hz⊢;exact_mod_cast hz
      have HS:Hi (∀a,a<k+1->commonN (g a) (d a)=2 ^ a):=qd2 (f:=fun a=>commonN (g a) (d a)) (g:=fun a=>2 ^ a) HA.u (by simpa using hz);go_wp2_with fail
      go_region_with (first | (go_at_call 151;refine(q71 _ _ _ g1 d1).mono ?_;rintro e w' ⟨rfl,hb⟩;replace hb:Hi (Below wr.heap.size wr w'):=⟨hb.os,hb.tape,hb.output,hb.size,hb.block⟩) | (go_at_call 123;refine(qke _ _ k32).mono ?_;rintro e w' ⟨rfl,rfl⟩))
      all_goals
       have hq:=‹Hi (Below wr.heap.size wr _)›;go_wp2;go_roundw
       case rel=>exact⟨k+1,by omega,by go_num,HS.u,(H0.u.mono hq.u H0.u.lt).alloc _,(H1.u.mono hq.u H1.u.lt).alloc _,(HW.u.trans (hq.u.mono HW.u.size)).alloc (by have:=hq.u.size;have:=HW.u.size;omega) _⟩
       case measure=>simp[intOf];omega
  . have HF:Hi (V=false):=q6t HV.u fun⟨a,ha,hne⟩=>hne (HA.u a (by omega))
    clear b0 b1;have HW:=h_ bw;clear bw;go_wp2;go_ret;exact⟨qg2 HF.u.symm,HW.u⟩
theorem q55 (a n:Int)(w:World)(h0:0<=a)(h1:a<n) :
 Calls Tryz.prog 115 (Jp a n) w fun e w'=>e=.returned (.bool true)/\w'=w:=by
 go_enter Tryz.func115,Tryz.ntmps115
 go_wp2
 go_ret
 exact⟨qg2 (by simp <;> omega),rfl⟩
theorem q7l (a n:Int)(w:World)(h:a<0∨n<=a) :
 Calls Tryz.prog 115 (Jp a n) w fun e w'=>e=.returned (.bool false)/\w'=w:=by
 by_cases h0:0<=a
 . have h1:n<=a:=by omega
   clear h;go_enter Tryz.func115,Tryz.ntmps115;go_wp2;go_ret;exact⟨qg2 (by simp <;> omega),rfl⟩
 . clear h
   go_enter Tryz.func115,Tryz.ntmps115;go_wp2;go_ret;exact⟨qg2 (by simp <;> omega),rfl⟩
end Go.Proofs.YtebbgodlijlioaaGreatDoor
