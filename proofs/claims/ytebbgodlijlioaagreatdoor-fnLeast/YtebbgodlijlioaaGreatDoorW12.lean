import Derived.Test.YtebbgodlijlioaaGreatDoorW09
import Derived.Test.YtebbgodlijlioaaGreatDoorW07
import Derived.Deep.AppendLies
import Derived.Laws.DeepBits32
import Derived.Lib.TrailingZeros
import Derived.ChangeKeysEq
import Derived.Deep.RegionWith
import Derived.Deep.WholeRow
import Derived.Laws.ResultCell
set_option maxRecDepth 100000
set_option maxHeartbeats 64000000
namespace Go.Proofs.YtebbgodlijlioaaGreatDoor
open Go Go.RowKit
section
variable {md:Region.Mode} {ops:Array Oper} {Q:Exit->Act->World->Prop} {S:World->Prop} {o:Oper} {a:Act}
theorem appY {i:Nat}{fuel:Nat}{listed:Array Bool}{w:World}(d:Tmp)(hi:ops[i]? = some o)(hd:o.dst=some d)(hgd:o.guard=none)(hr:Region.ready md ops listed=[i])(s x:Operand)(t:TypeId)
 (ho:o.op=.call { callee:=.builtin .append,args:=#[s,x],argTypes:=#[t,t] })
 (base:Nat) (e:TypeId) (i0:TypeInfo) (z:Value) (size bytes:Nat) (ht:Tryz.prog.underlying t=some (.slice e)) (hi0:Tryz.prog.info? e=some i0) (hz:i0.zero=some z)
 (hsize:i0.size=size) (hby:i0.bytes=bytes) (hzs:z.cells.size=size) (hsz:0<size)
 (v:Value) (n:Nat) (xs:List Value) (hs:a.eval s=v) (hown:w.ownsRow base e size v n xs)
 (ad:Addr) (m c:Nat) (news:List Value) (hx:a.eval x=.slice (some ad) m c) (hl:news.length=m*size) (hnews:∀j u,news[j]? = some u->w.cell? (ad.add j)=some u) (h1:∀u∈news,u.oneCell'=true)
 (hm:0<m) (h63:n+m<=maxLen) (hbytes:(n+m)*bytes<=140737488355328) (hbase:base<=w.heap.size) (H:Nat) (hH:w.heap.size=H)
 (h:∀g cap w',w'.ownsRow base e size (.slice (some ⟨g,0,none⟩) (n+m) cap) (n+m) (xs++news)->w.grownBy w' v.ownBlock->(v.ownBlock=some g∨g=H)->g<w'.heap.size->S w'/\wpAnyH Tryz.prog md ops Q S fuel (listed.setIfInBounds i true) { tmps:=a.tmps.setIfInBounds d (.slice (some ⟨g,0,none⟩) (n+m) cap),defers:=a.defers } w'):wpAnyH Tryz.prog md ops Q S (fuel+1) listed a w :=
 wpAnyH_ready hr (by simp) (AllReadyH.cons hi (fun K hK=>step_append_lies w hgd s x t ho base e i0 z size bytes ht hi0 hz hsize hby hzs hsz v n xs hs hown ad m c news hx hl hnews h1 hm h63 hbytes hbase H hH (fun g cap w' a1 a2 a3 a4=>by
  rw[qiz hd];obtain⟨k1,k2⟩:=h g cap w' a1 a2 a3 a4;exact hK.out _ _ k1 (fun _=>k2))) AllReadyH.nil)
end
theorem qfv {V:Bool}{p:Prop}(hV:V=true ↔ p)(h:¬ p):V=false:=by
 cases V with
 | false=>rfl
 | true=>exact absurd (hV.1 rfl) h
def Pairs (w:World)(a:Option Addr)(n:Nat)(f g:Nat->Int):Prop :=
 ∀k,k<n->∃b off,a=some ⟨b,off,none⟩/\b<w.heap.size/\w.cell? ⟨b,off+k*2,none⟩=some (J9 (f k))/\w.cell? ⟨b,off+k*2+1,none⟩=some (J9 (g k))
theorem Pairs.mono {w w':World}{a:Option Addr}{n:Nat}{f g:Nat->Int}(h:Pairs w a n f g)(hb:Below w.heap.size w w'):Pairs w' a n f g:=fun k hk=>by
 obtain⟨b,off,rfl,hl,hc,hd⟩:=h k hk
 exact⟨b,off,rfl,Y7 hl hb.size,(hb.cell (p:=⟨b,off+k*2,none⟩) hl).trans hc,(hb.cell (p:=⟨b,off+k*2+1,none⟩) hl).trans hd⟩
theorem q0x (N:Int)(a:Option Addr)(m c:Nat)(w:World)(hm:m<=9223372036854775807)(hno:¬ (1<=N/\N<=32/\m<=256)) :
 Calls Tryz.prog 29 #[.agg (Jn N a m c)] w fun e w'=>e=.returned (.bool false)/\Below w.heap.size w w':=by
 have hcase:N<1∨(1<=N/\32<N)∨(1<=N/\N<=32/\256<m):=by omega
 rcases hcase with h | ⟨h,h'⟩ | ⟨h,h',h''⟩
 all_goals
  go_enter Tryz.func29,Tryz.ntmps29;go_wp2;go_ret;exact⟨rfl,(bR _ _).alloc (nR _) _⟩
theorem q0w (N:Int)(a:Option Addr)(m c:Nat)(f g:Nat->Int)(w:World)(h1:1<=N)(h32:N<=32)(hm:m<=256)(ha:Pairs w a m f g)(V:Bool)(hV:V=true ↔ ∀k,k<m->0<=f k/\f k<N/\0<=g k/\g k<N) :
 Calls Tryz.prog 29 #[.agg (Jn N a m c)] w fun e w'=>e=.returned (.bool V)/\Below w.heap.size w w':=by
 have HV:=h_ hV;clear hV
 go_enter Tryz.func29,Tryz.ntmps29
 go_wp2
 have hb:Below w.heap.size w (w.alloc (.cells (Jn N a m c) 39)):=(bR _ _).alloc (nR _) _
 have HB:=h_ hb;clear hb
 have B0:=Blk.new w 39 (Jn N a m c)
 have c0:=B0.cell 0;have c1:=B0.cell 1
 simp only[Yo,Yh]at c0 c1
 have hs:w.heap.size<(w.alloc (.cells (Jn N a m c) 39)).heap.size:=by simp
 have PA:=ha.mono HB.u
 generalize (w.alloc (.cells (Jn N a m c) 39))=W at *
 clear B0
 go_loopw [3] (fun i wr=>∃k:Nat,k<=m/\i=J9 k/\(∀j,j<k->0<=f j/\f j<N/\0<=g j/\g j<N)/\∃n,wr=W.drewN n) (fun i _=>m - (intOf i).toNat)
 case atStart=>exact⟨0,nZ _,rfl,fun j h=>absurd h (nL _),0,rfl⟩
 case round =>
  obtain⟨k,hk,rfl,heq,n,rfl⟩:=hrel;have HE:=h_ heq;clear heq;have HD:=h_ (q35 W n);by_cases hlt:k<m
  . obtain⟨b,off,rfl,hl,hc,hd⟩:=PA k hlt
    have hF:¬ (0<=f k/\f k<N/\0<=g k/\g k<N)->V=false:=fun hn=>qfv HV.u fun hall=>hn (hall k hlt);have HF:=h_ hF;clear hF;by_cases x1:f k<0
    . go_wp2
      go_quiet (fail)
      go_wp2;go_ret;exact⟨qe9 (HF.u (by omega)).symm,HB.u.trans ⟨rfl,rfl,rfl,nR _,fun _ _=>rfl⟩⟩
    by_cases x2:N<=f k
    . go_wp2
      go_quiet (fail)
      go_wp2;go_ret;exact⟨qe9 (HF.u (by omega)).symm,HB.u.trans ⟨rfl,rfl,rfl,nR _,fun _ _=>rfl⟩⟩
    by_cases x3:g k<0
    . go_wp2
      go_quiet (fail)
      go_wp2
      go_quiet (fail)
      go_wp2;go_ret;exact⟨qe9 (HF.u (by omega)).symm,HB.u.trans ⟨rfl,rfl,rfl,nR _,fun _ _=>rfl⟩⟩
    by_cases x4:N<=g k
    . go_wp2
      go_quiet (fail)
      go_wp2
      go_quiet (fail)
      go_wp2;go_ret;exact⟨qe9 (HF.u (by omega)).symm,HB.u.trans ⟨rfl,rfl,rfl,nR _,fun _ _=>rfl⟩⟩
    go_wp2
    go_quiet (fail)
    go_wp2
    go_quiet (fail)
    go_wp2;go_roundw
    case rel=>exact⟨k+1,by omega,by go_num,fun j hj=>by
     by_cases e:j=k
     . subst e;omega
     . exact HE.u j (by omega),_,rfl⟩
    case measure=>simp[intOf];omega
  . go_wp2
    go_ret;exact⟨qe9 (HV.u.2 fun j hj=>HE.u j (by omega)).symm,HB.u.trans ⟨rfl,rfl,rfl,nR _,fun _ _=>rfl⟩⟩
def minusN (s t:Nat):Nat:=s &&& (4294967295 - t)
def commonN (s t:Nat):Nat:=minusN s (minusN s t)
theorem or_lt {s t:Nat}(hs:s<4294967296)(ht:t<4294967296):s ||| t<4294967296:=Nat.or_lt_two_pow (n:=32) hs ht
theorem qae {s t:Nat}(hs:s<4294967296):minusN s t<4294967296:=Nat.lt_of_le_of_lt Nat.and_le_left hs
theorem q6n {s t:Nat}(hs:s<4294967296):commonN s t<4294967296:=qae hs
theorem two_lt {a:Nat}(ha:a<32):2 ^ a<4294967296:=Nat.pow_lt_pow_right (by decide) ha
theorem bit_lt {s i:Nat}(hs:s<4294967296)(h:s.testBit i=true):i<32:=by
 apply On
 intro hi
 have:s.testBit i=false:=Nat.testBit_lt_two_pow (Y7 hs (by
  have:2 ^ 32<=2 ^ i:=Z9 (by omega) hi;simpa using this))
 exact Z7 (this.symm.trans h)
theorem q80 {s t:Nat}(hs:s<4294967296)(ht:t<4294967296)(i:Nat):(minusN s t).testBit i=(s.testBit i&&!t.testBit i):=by
 unfold minusN
 rw[Nat.testBit_and,show 4294967295 - t=2 ^ 32 - (t+1) by omega,Nat.testBit_two_pow_sub_succ (by omega)]
 cases h:s.testBit i
 . simp
 . simp[bit_lt hs h]
theorem q4n {s t:Nat}(hs:s<4294967296)(ht:t<4294967296)(i:Nat):(commonN s t).testBit i=(s.testBit i&&t.testBit i):=by
 unfold commonN
 rw[q80 hs (qae hs),q80 hs ht]
 cases s.testBit i <;> cases t.testBit i <;> rfl
theorem q25 (n:Int)(h0:0<=n)(h1:n<4294967296):IntKind.u32.wrap n=n:=by
 simp[IntKind.wrap,IntKind.bits,IntKind.signed]
 omega
theorem u32_or (s t:Nat)(hs:s<4294967296)(ht:t<4294967296):bits .or .u32 (s:Int) (t:Int)=((s ||| t:Nat):Int):=by
 show IntKind.u32.wrap ((BitVec.ofInt 32 (s:Int) ||| BitVec.ofInt 32 (t:Int)).toNat:Int)=_
 rw[BitVec.toNat_or,ofInt_u32 s hs,ofInt_u32 t ht]
 exact q25 _ (by omega) (by have:=or_lt hs ht;omega)
theorem q8p (s t:Nat)(hs:s<4294967296)(ht:t<4294967296):bits .andNot .u32 (s:Int) (t:Int)=((minusN s t:Nat):Int):=by
 show IntKind.u32.wrap ((BitVec.ofInt 32 (s:Int) &&& ~~~BitVec.ofInt 32 (t:Int)).toNat:Int)=_
 rw[BitVec.toNat_and,BitVec.toNat_not,ofInt_u32 s hs,ofInt_u32 t ht,show 2 ^ 32 - 1 - t=4294967295 - t by omega]
 exact q25 _ (by omega) (by have:=qae (t:=t) hs;unfold minusN at this;omega)
theorem qk0 (s t:Nat)(hs:s<4294967296)(ht:t<4294967296):bits .and .u32 (s:Int) (t:Int)=((s &&& t:Nat):Int):=by
 show IntKind.u32.wrap ((BitVec.ofInt 32 (s:Int) &&& BitVec.ofInt 32 (t:Int)).toNat:Int)=_
 rw[BitVec.toNat_and,ofInt_u32 s hs,ofInt_u32 t ht]
 exact q25 _ (by omega) (by have:s &&& t<=s:=Nat.and_le_left;omega)
theorem qbr (s t:Nat)(w:World)(hs:s<4294967296)(ht:t<4294967296) :
 Calls Tryz.prog 122 #[.agg #[.int .u32 s],.agg #[.int .u32 t]] w fun e w'=>e=.returned (.agg (#[.int .u32 ((s ||| t:Nat):Int)]))/\w'=((w.alloc (.cells #[.int .u32 (s:Int)] 124)).alloc (.cells #[.int .u32 (t:Int)] 124)).alloc (.cells (#[.int .u32 ((s ||| t:Nat):Int)]) 124):=by
 have h:=u32_or s t hs ht
 go_enter Tryz.func122,Tryz.ntmps122
 go_wp2
 refine bodyPost_ret (v:=.agg (#[.int .u32 ((s ||| t:Nat):Int)])) (by simp[results,Tryz.results122,go_sem]) rfl ⟨rfl,rfl⟩
theorem qaf (s t:Nat)(w:World)(hs:s<4294967296)(ht:t<4294967296) :
 Calls Tryz.prog 153 #[.agg #[.int .u32 s],.agg #[.int .u32 t]] w fun e w'=>e=.returned (.agg (#[.int .u32 ((minusN s t:Nat):Int)]))/\w'=((w.alloc (.cells #[.int .u32 (s:Int)] 124)).alloc (.cells #[.int .u32 (t:Int)] 124)).alloc (.cells (#[.int .u32 ((minusN s t:Nat):Int)]) 124):=by
 have h:=q8p s t hs ht
 go_enter Tryz.func153,Tryz.ntmps153
 go_wp2
 refine bodyPost_ret (v:=.agg (#[.int .u32 ((minusN s t:Nat):Int)])) (by simp[results,Tryz.results153,go_sem]) rfl ⟨rfl,rfl⟩
theorem qis {a:Nat}(ha:a<32):(2:Int) ^ a % 4294967296=((2 ^ a:Nat):Int):=by
 rw[show(2:Int) ^ a=((2 ^ a:Nat):Int) by simp,show(4294967296:Int)=((4294967296:Nat):Int) from rfl,<- Int.natCast_emod,Zw (two_lt ha)]
theorem qic (a:Nat)(w:World)(hs:a<32) :
 Calls Tryz.prog 123 #[J9 a] w fun e w'=>e=.returned (.agg (#[.int .u32 ((2 ^ a:Nat):Int)]))/\w'=w.alloc (.cells (#[.int .u32 ((2 ^ a:Nat):Int)]) 124):=by
 have hp:=qis hs
 go_enter Tryz.func123,Tryz.ntmps123
 go_wp2
 refine bodyPost_ret (v:=.agg (#[.int .u32 ((2 ^ a:Nat):Int)])) (by simp[results,Tryz.results123,go_sem]) rfl ⟨rfl,by simp⟩
theorem qgp (s a:Nat)(w:World)(hs:s<4294967296)(ht:a<32) :
 Calls Tryz.prog 152 #[.agg #[.int .u32 s],J9 a] w fun e w'=>e=.returned (.bool (s.testBit a))/\w'=w.alloc (.cells #[.int .u32 (s:Int)] 124):=by
 have e:(bits .and .u32 ((s:Int) / 2 ^ a) 1==1)=s.testBit a:=by
  rw[show(s:Int) / 2 ^ a=((s / 2 ^ a:Nat):Int) by simp,show(1:Int)=((1:Nat):Int) from rfl,qk0 _ 1 (Nat.lt_of_le_of_lt (Of _ _) hs) (by decide)];rw[Nat.and_one_is_mod,Nat.testBit_eq_decide_div_mod_eq];generalize s / 2 ^ a=q;rw[Zn];simp;omega
 have E:=h_ e;clear e
 go_enter Tryz.func152,Tryz.ntmps152
 go_wp2
 go_ret
 exact⟨qe9 E.u,rfl⟩
theorem qcu:(Tryz.prog.info? 122).map (fun i=>(i.zero,i.size,i.bytes))=some (some (.int .u32 0),1,4):=by kernel_rfl
theorem q9a:Tryz.prog.cellsOf 122=1:=by kernel_rfl
theorem eq_set (d:Nat)(a b:Int)(w:World):(Op.equalIn (d+2) 124 (.agg #[.int .u32 a]) (.agg #[.int .u32 b])).run Tryz.prog w=.ok (a==b) w:=by
 obtain⟨i0,hi,-⟩:=info_parts qcu
 rw[run_equalIn_array w (d+1) _ _ Tryz.underlying124 hi,q9a]
 simp[Op.eqItems,part,show List.range 1=[0] from rfl,run_equalIn_int w d 122 .u32 .u32 a b Tryz.underlying122]
 cases h:a==b <;> simp_all
theorem q9l (s:Nat)(w:World) :
 Calls Tryz.prog 154 #[.agg #[.int .u32 s]] w fun e w'=>e=.returned (.bool (s==0))/\w'=w.alloc (.cells #[.int .u32 (s:Int)] 124):=by
 have he:=fun (a b:Int) w=>eq_set 9998 a b w
 have e0:((s:Int)==0)=(s==0):=by rw[Zn];simp
 go_enter Tryz.func154,Tryz.ntmps154
 go_wp2
 go_ret
 exact⟨rfl,rfl⟩
theorem q6o (s t:Nat)(w:World)(hs:s<4294967296)(ht:t<4294967296) :
 Calls Tryz.prog 151 #[.agg #[.int .u32 s],.agg #[.int .u32 t]] w fun e w'=>e=.returned (.agg (#[.int .u32 ((commonN s t:Nat):Int)]))/\Below w.heap.size w w':=by
 go_enter Tryz.func151,Tryz.ntmps151
 go_wp2_with fail
 go_region_held3 (fun w'=>w'.cell? ⟨w.heap.size,0,none⟩=some (.int .u32 (s:Int))/\w'.cell? ⟨w.heap.size+1,0,none⟩=some (.int .u32 (t:Int))) (simp[go_sem,World.cell?_alloc_past]) (first | (go_at_call 153;refine(qaf _ _ _ (by first | assumption | exact qae hs) (by first | assumption | exact qae hs)).mono ?_;rintro e w' ⟨rfl,rfl⟩))
 go_wp2
 refine bodyPost_ret (v:=.agg (#[.int .u32 ((commonN s t:Nat):Int)])) (by simp[results,Tryz.results151,go_sem,commonN]) rfl ⟨rfl,?_⟩
 refine Below.drew ?_
 iterate 9 refine Below.alloc ?_ (by simp <;> omega) _
 exact bR _ _
theorem qfm:∀n,n<33->((2:Int) ^ n - 1) % 4294967296=((2 ^ n - 1:Nat):Int):=by decide +kernel
theorem qfj (n:Nat)(w:World)(hs:n<=32) :
 Calls Tryz.prog 119 #[J9 n] w fun e w'=>e=.returned (.agg (#[.int .u32 ((2 ^ n - 1:Nat):Int)]))/\Below w.heap.size w w':=by
 have E:=h_ (qfm n (by omega))
 go_enter Tryz.func119,Tryz.ntmps119
 go_wp2
 refine bodyPost_ret (v:=.agg (#[.int .u32 ((2 ^ n - 1:Nat):Int)])) (by simp[results,Tryz.results119,go_sem];rw[E.u]) rfl ⟨rfl,?_⟩
 exact(bR _ w).alloc (nR _) _
def Tab (w:World):Prop:=∀j,j<32->w.cell? ⟨1,j,none⟩=some (.int .u8 ((Lib.deBruijn32tab.getD j 0:Nat):Int))
theorem Tab.pos {w:World}(h:Tab w):1<w.heap.size:=by
 apply On;intro h0
 have:=h 0 (by decide)
 simp only[World.cell?]at this
 rw[Array.getElem?_eq_none (by simpa using h0)]at this;cases this
theorem Tab.mono {w w':World}(h:Tab w)(hb:Below w.heap.size w w'):Tab w':=fun j hj=>(hb.cell (p:=⟨1,j,none⟩) h.pos).trans (h j hj)
theorem qia (s:Nat)(hs:s<4294967296)(h0:s≠0):bits .and .u32 (s:Int) (-(s:Int) % 4294967296)=((2 ^ Lib.ctz 32 s:Nat):Int):=by
 rw[show -(s:Int) % 4294967296=((2 ^ 32 - s:Nat):Int) by omega,qk0 s _ hs (by omega),(Lib.lowest_bit 32 s h0 hs).1]
theorem tz_any (s:Nat)(w:World)(hs:s<4294967296)(h0:s≠0)(ht:Tab w) :
 Calls Tryz.prog 177 #[.int .u32 s] w fun e w'=>e=.returned (J9 (Lib.ctz 32 s))/\w'=w:=by
 have hk:=(Lib.lowest_bit 32 s h0 hs).2
 obtain⟨j1,j2⟩:=Lib.deBruijn32_at _ hk
 have e1:=qia s hs h0
 have hc:=ht _ j1
 rw[j2]at hc
 obtain⟨k,hk'⟩:=Nq (Lib.ctz 32 s)
 obtain⟨p,hp⟩:=Nq (2 ^ Lib.ctz 32 s)
 obtain⟨j,hj⟩:=Nq (2 ^ Lib.ctz 32 s*125613361 % 4294967296 / 134217728)
 have e2:(p:Int)*125613361 % 4294967296 / 134217728=(j:Int):=by rw[<- hj,hp];omega
 rw[hj]at hc j1;rw[hp]at e1;rw[hk']at hc hk⊢
 have hz:((s:Int)==0)=false:=by simp;omega
 clear hj hp hk' j2 ht h0
 go_enter Tryz.func177,Tryz.ntmps177
 go_wp2
 go_ret
 exact⟨rfl,rfl⟩
theorem q7z (s:Nat)(w:World)(hs:s<4294967296)(h0:s≠0)(ht:Tab w) :
 Calls Tryz.prog 156 #[.agg #[.int .u32 s]] w fun e w'=>e=.returned (J9 (Lib.ctz 32 s))/\w'=w.alloc (.cells #[.int .u32 (s:Int)] 124):=by
 have hT:∀o,Tab (w.alloc o):=fun o=>ht.mono ((bR _ w).alloc (nR _) o)
 have HT:=h_ hT;have H0:=h_ h0;clear hT ht h0
 go_enter Tryz.func156,Tryz.ntmps156
 go_wp2_with (go_at_call 177;refine(tz_any _ _ hs H0.u (HT.u _)).mono ?_;rintro e w' ⟨rfl,rfl⟩)
 go_ret
 exact⟨rfl,rfl⟩
def us (g:Nat->Nat):List Value:=(List.range 32).map fun k=>.int .u32 (g k:Int)
theorem qbt (g:Nat->Nat):(us g).length=32:=by simp[us]
theorem us_get (g:Nat->Nat){k:Nat}(h:k<32):(us g)[k]? = some (.int .u32 (g k:Int)):=by simp[us,h]
theorem us_set (g:Nat->Nat){k:Nat}(v:Nat)(h:k<32):(us g).set k (.int .u32 (v:Int))=us (fun j=>if j=k then v else g j):=by
 apply List.ext_getElem?
 intro j
 by_cases hj:j<32
 . rw[us_get _ hj]
   by_cases e:j=k
   . subst e;rw[List.getElem?_set_self (by rw[qbt];exact h)];simp
   . rw[List.getElem?_set_ne (fun h=>e h.symm),us_get _ hj];simp[e]
 . rw[Vl (by simp[qbt];omega),Vl (by rw[qbt];omega)]
theorem us_one (g:Nat->Nat):(us g).toArray.all (·.oneCell')=true:=by
 rw[Array.all_eq_true_iff_forall_mem]
 intro v hv
 simp only[us,List.mem_toArray,Y8]at hv
 obtain⟨k,-,rfl⟩:=hv
 rfl
theorem qbb:(Tryz.prog.info? 126).map (·.size)=some 32:=by kernel_rfl
theorem qjh (g:Nat->Nat):(Tryz.prog.info? 126).map (·.size)=some (us g).toArray.size:=by rw[qbb];simp[us]
section
variable {ops:Array Oper} {rest:List Oper} {o:Oper} {a:Act} {w:World} {Q:Exit->Act->World->Prop}
theorem q0q (hgd:o.guard=none)(x:Operand)(ho:o.op=.load 126 x)(b:Nat)(g:Nat->Nat)(hx:a.eval x=Yc b 0)(hb:Blk w b 126 (us g))
 (h:wpList Tryz.prog ops Q rest (a.put o.dst (.agg (us g).toArray)) w):wpList Tryz.prog ops Q (o :: rest) a w :=
 wpList_load_row hgd 126 x ho b hx 126 (us g).toArray (0,0) _ hb Tryz.underlying126 rfl (qjh g) h
theorem q0i (hgd:o.guard=none)(x y:Operand)(ho:o.op=.store 126 x y)(b:Nat)(g g':Nat->Nat)(hx:a.eval x=Yc b 0)(hy:a.eval y=.agg (us g').toArray)(hb:Blk w b 126 (us g))
 (h:∀w',Blk w' b 126 (us g')->w.grownBy w' (some b)->w'.heap.size=w.heap.size->wpList Tryz.prog ops Q rest (a.put o.dst undef) w'):wpList Tryz.prog ops Q (o :: rest) a w :=
 wpList_plain hgd fun _ hK=>wp_store_row 126 x y ho b (us g').toArray hx hy _ _ hb (qjh g') (by simp[us]) (us_one g')
  (hK _ _ (h _ (setRow_heap w b _ _ _ _ hb) ⟨rfl,rfl,rfl,by simp,fun k _ hk=>setRow_other w b k _ (fun e=>hk (by rw[e]))⟩ (by simp)))
end
theorem blk1 (w:World)(o2 o3:Obj)(c:Array Value)(t:TypeId):Blk (((w.alloc (.cells c t)).alloc o2).alloc o3) w.heap.size t c.toList:=((Blk.new w t c).alloc o2).alloc o3
theorem blk3 (w:World)(o1 o2:Obj)(c:Array Value)(g:Nat->Nat)(h:c.toList=us g):Blk (((w.alloc o1).alloc o2).alloc (.cells c 126)) (w.heap.size+1+1) 126 (us g):=by
 rw[<- h];simpa using Blk.new ((w.alloc o1).alloc o2) 126 c
theorem blk2 (w:World)(o1 o3:Obj)(c:Array Value)(g:Nat->Nat)(h:c.toList=us g):Blk (((w.alloc o1).alloc (.cells c 126)).alloc o3) (w.heap.size+1) 126 (us g):=by
 rw[<- h];simpa using (Blk.new (w.alloc o1) 126 c).alloc o3
theorem below3 (w:World)(o1 o2 o3:Obj):Below w.heap.size w (((w.alloc o1).alloc o2).alloc o3):=(((bR _ w).alloc (nR _) o1).alloc (by simp) o2).alloc (by simp;omega) o3
def IsRel (g:Nat->Nat)(R:Nat->Nat->Bool):Prop:=∀a,a<32->g a<4294967296/\∀b,(g a).testBit b=R a b
theorem qir (b i:Nat):(2 ^ b).testBit i=decide (b=i):=by rw[Z4]
theorem IsRel.add {g:Nat->Nat}{R:Nat->Nat->Bool}(h:IsRel g R){x y:Nat}(hx:x<32)(hy:y<32) :
 IsRel (fun j=>if j=x then g x ||| 2 ^ y else g j) (fun a b=>R a b||(decide (a=x)&&decide (b=y))):=fun a ha=>by
 by_cases e:a=x
 . subst e
   simp only[if_true];refine⟨or_lt (h a ha).1 (two_lt hy),fun b=>?_⟩;rw[Ok,(h a ha).2 b,qir];cases R a b <;> simp[eq_comm]
 . simp only[Yu e]
   refine⟨(h a ha).1,fun b=>?_⟩;rw[(h a ha).2 b];simp[e]
theorem IsRel.congr {g:Nat->Nat}{R R':Nat->Nat->Bool}(h:IsRel g R)(hR:∀a b,a<32->R a b=R' a b):IsRel g R':=fun a ha=>⟨(h a ha).1,fun b=>((h a ha).2 b).trans (hR a b ha)⟩
def part (f:Nat->Bool)(n i:Nat):Nat->Nat->Bool:=fun a b=>decide (b<n)&&decide (a*n+b<i)&&f (a*n+b)
theorem qfw (m:Nat)(F:Nat->Bool):bs (m+1) F=bs m F++[.bool (F m)]:=by simp[bs,List.range_succ]
theorem qh7 (m:Nat)(F:Nat->Int):is (m+1) F=is m F++[J9 (F m)]:=by simp[is,List.range_succ]
theorem q91 (m:Nat)(F:Nat->Bool):(bs m F).length=m:=by simp[bs]
def tabB (n:Nat)(R:Nat->Nat->Bool)(i:Nat):Bool:=R (i / n) (i % n)
theorem qjs {n:Nat}(R:Nat->Nat->Bool){a b:Nat}(hb:b<n):tabB n R (a*n+b)=R a b:=by
 unfold tabB
 rw[Oe,Z5 _ _ (by omega),Vg hb,Zp,Zw hb,Zi]
theorem qbl (n:Nat)(g:Nat->Nat)(R:Nat->Nat->Bool)(w:World)(h1:1<=n)(hn:n<=32)(hg:IsRel g R) :
 Calls Tryz.prog 120 #[.agg (us g).toArray,J9 n] w fun e w'=>∃G,e=.returned (.slice (some ⟨G,0,none⟩) (n*n) (n*n))/\Blk w' G 4 (bs (n*n) (tabB n R))/\w.heap.size<=G/\Below w.heap.size w w':=by
 obtain⟨i0,hi,hz0,hz1,hz2⟩:=info_parts q9y
 have q1:(n:Int)*n<=1024:=by rw[<- Za];have:=sq_le hn;omega
 have q0:0<=(n:Int)*n:=by rw[<- Za];omega
 have q2:=sq_le hn
 have hbn:i0.bytes*(n*n)<=281474976710656:=by rw[hz2];omega
 have hC:((n:Int)*n)=((n*n:Nat):Int):=by simp
 have HC:=h_ hC;clear hC
 go_enter Tryz.func120,Tryz.ntmps120
 go_wp2_with (at_make;refine wpList_make_own _ rfl _ (.tmp 10) 33 rfl w.heap.size 4 i0 (.bool false) 1 Tryz.underlying33 hi hz0 hz1 .i64 .i64 _ (n*n) rfl rfl HC.u hbn (by unfold maxLen;omega) (by simp) ?_;intro w1 hown hgrow)
 have hb1:Below w.heap.size w w1:=((bR _ w).alloc (nR _) _).trans ((bR w.heap.size _).grown hgrow (by simp) (fun k e=>by cases e))
 have hB:=(Blk.new w 126 (us g).toArray).grown hgrow (by simp)
 have HO:=h_ hown;have HB1:=h_ hb1;have HB:=h_ hB
 clear hown hb1 hB hgrow hbn
 go_loopw [5,13] (fun v i wr=>∃k:Nat,k<=n/\i=J9 k/\v=.slice (some ⟨w.heap.size+1,0,none⟩) (k*n) (n*n)/\wr.ownsRow w.heap.size 4 1 (.slice (some ⟨w.heap.size+1,0,none⟩) (k*n) (n*n)) (k*n) (bs (k*n) (tabB n R))/\Blk wr w.heap.size 126 (us g)/\Below w.heap.size w wr) (fun _ i _=>n - (intOf i).toNat)
 case atStart=>exact⟨0,nZ _,rfl,by simp,by simpa [bs] using HO.u,HB.u,HB1.u⟩
 case round =>
  clear HO HB HB1;obtain⟨k,hk,rfl,rfl,hown,hB,hW⟩:=hrel;have HO:=h_ hown;have HB:=h_ hB;have HW:=h_ hW;clear hown hB hW;by_cases hlt:k<n
  . go_wp2_with fail
    go_loopw [5,17] (fun v i wr=>∃j:Nat,j<=n/\i=J9 j/\v=.slice (some ⟨w.heap.size+1,0,none⟩) (k*n+j) (n*n)/\wr.ownsRow w.heap.size 4 1 (.slice (some ⟨w.heap.size+1,0,none⟩) (k*n+j) (n*n)) (k*n+j) (bs (k*n+j) (tabB n R))/\Blk wr w.heap.size 126 (us g)/\Below w.heap.size w wr) (fun _ i _=>n - (intOf i).toNat)
    case atStart=>exact⟨0,nZ _,rfl,by simp,by simpa using HO.u,HB.u,HW.u⟩
    case round =>
     clear HO HB HW;obtain⟨j,hj,rfl,rfl,hown,hB,hW⟩:=hrel;by_cases hlj:j<n
     . have k32:k<32:=by omega
       have j32:j<32:=(by omega);have c0:=hB.cell k;rw[us_get _ k32]at c0;have l0:=hB.lt;have gk:=(hg k k32).1;have hlen:=idx_lt hlt hlj;have k0i:(0:Int)<=k:=(by omega);have k1i:(k:Int)<32:=(by omega);have HO:=h_ hown;have HB:=h_ hB;have HW:=h_ hW;clear hown hB hW;have hF:(g k).testBit j=tabB n R (k*n+j):=(by rw[(hg k k32).2 j,qjs R hlj]);go_wp2_with (first | (go_at_call 152;refine(qgp _ _ _ gk j32).mono ?_;rintro e w' ⟨rfl,rfl⟩) | (at_builtin;refine wpList_append_fits _ rfl _ _ 33 rfl w.heap.size 4 i0 1 Tryz.underlying33 hi hz1 (w.heap.size+1) (k*n+j) (n*n) _ rfl ((HO.u.alloc _).alloc _) ⟨wr.heap.size+1,0,none⟩ 1 1 [.bool (tabB n R (k*n+j))] rfl rfl ?c1 (by simp[Value.oneCell']) hlen ?_))
       case c1 =>
        intro q u hq
        match q,hq with
        | 0,hq=>simp at hq;subst hq;simp[Addr.add]
       . intro w2 hown2 hgrow2
         rw[<- qfw]at hown2;have bw2:Below wr.heap.size wr ((wr.alloc (.cells #[.int .u32 (g k:Int)] 124)).alloc (.cells #[.bool (tabB n R (k*n+j))] 4)):=((bR _ _).alloc (nR _) _).alloc (by simp) _;have hB2:=(HB.u.mono bw2 l0).grown hgrow2 (by simp);have hW2:=(HW.u.trans (bw2.mono HW.u.size)).grown hgrow2 (by have:=HW.u.size;simp;omega) (fun q e=>by cases e;omega);have HO2:=h_ hown2;have HB2:=h_ hB2;have HW2:=h_ hW2;clear hown2 hgrow2 bw2 hB2 hW2;go_wp2;go_roundw
         case rel=>exact⟨j+1,by omega,by go_num,rfl,HO2.u,HB2.u,HW2.u⟩
         case measure=>simp[intOf];omega
     . obtain rfl:j=n:=by omega
       have HO:=h_ hown;have HB:=h_ hB;have HW:=h_ hW;clear hown hB hW;go_wp2_with fail;go_roundw
       case rel=>exact⟨k+1,by omega,by go_num,by rw[Zt],by rw[Zt];exact HO.u,HB.u,HW.u⟩
       case measure=>simp[intOf];omega
  . obtain rfl:k=n:=by omega
    go_wp2;go_ret;exact⟨_,rfl,Blk.of_owns HO.u,by omega,HW.u⟩
end Go.Proofs.YtebbgodlijlioaaGreatDoor
namespace Go.Proofs.YtebbgodlijlioaaGreatDoor
open Go Go.RowKit Go.Shelf
attribute [local go_sem] Oper.semAt_some
theorem Tab.keep {X:Nat->Prop}{W W':World}(h:Tab W)(hk:KeepX X W W')(hX:¬ X 1):Tab W':=fun j hj=>by
 have h0:=h j hj
 unfold World.cell? at h0⊢
 simp only at h0⊢
 cases e:W.heap[1]? with
 | none=>rw[e]at h0;cases h0
 | some o =>
  cases o with
  | cells cs t fr=>rw[hk.same 1 cs t fr hX e];rw[e]at h0;exact h0
  | _=>rw[e]at h0;cases h0
def natAt (w:World):Value->Nat
 | .pointer (some a)=>match w.cell? a with | some (.int _ v)=>v.toNat | _=>0
 | _=>0
theorem qdi {w:World}{b:Nat}{v:Nat}{k:IntKind}(h:w.cell? ⟨b,0,none⟩=some (.int k (v:Int))):natAt w (Yc b 0)=v:=by
 simp[natAt,h]
theorem qga {s:Nat}(hs:s<4294967296)(h0:s≠0):Lib.ctz 32 s<32/\s.testBit (Lib.ctz 32 s)=true:=by
 obtain⟨h1,h2⟩:=Lib.lowest_bit 32 s h0 hs
 refine⟨h2,?_⟩
 have:(s &&& (2 ^ 32 - s)).testBit (Lib.ctz 32 s)=true:=by rw[h1];simp
 rw[Nat.testBit_and,Yp]at this
 exact this.1
theorem q5i {s x:Nat}(hs:s<4294967296)(hx:x<32)(h:s.testBit x=true):minusN s (2 ^ x)<s:=by
 apply Nat.lt_of_le_of_ne Nat.and_le_left
 intro e
 have h2:=q80 hs (two_lt hx) x
 rw[show minusN s (2 ^ x)=s from e,h]at h2
 simp at h2
theorem q5j {s x:Nat}(hs:s<4294967296)(hx:x<32)(i:Nat):(minusN s (2 ^ x)).testBit i=true ↔ s.testBit i=true/\i≠x:=by
 rw[q80 hs (two_lt hx),Z4,Yp,Bool.not_eq_true',Oi]
 exact and_congr_right fun _=>⟨fun h e=>h e.symm,fun h e=>h e.symm⟩
theorem Tab.at0 {w w':World}(h:Tab w)(e:w'.heap[1]? = w.heap[1]?):Tab w':=fun j hj=>(World.cell?_of_block (a:=⟨1,j,none⟩) e).trans (h j hj)
theorem q5e (N:Nat)(W3:World)(R:Nat)(o1 o2 o3 o4:Obj)(v:Value)(t:TypeId)(hR:N<=R)(hN:N<=W3.heap.size) :
 Blk ((((((W3.alloc o1).alloc o2).alloc o3).alloc o4).setCell ⟨R,0,none⟩ v).alloc (.cells #[v] t)).drew (W3.heap.size+1+1+1+1) t [v]/\Below N W3 ((((((W3.alloc o1).alloc o2).alloc o3).alloc o4).setCell ⟨R,0,none⟩ v).alloc (.cells #[v] t)).drew:=by
 constructor
 . have:=Blk.new (((((W3.alloc o1).alloc o2).alloc o3).alloc o4).setCell ⟨R,0,none⟩ v) t #[v]
   simp only[World.size_setCell,Yv]at this;exact this
 . exact((((below4 W3 o1 o2 o3 o4).mono hN).setCell (p:=⟨R,0,none⟩) hR v).alloc (by simp;omega) _).drew
theorem q3x (Bs s:Nat)(w0:World)(X:Nat->Prop)(hs:s<4294967296)(hB:Blk w0 Bs 124 [.int .u32 (s:Int)])(ht:Tab w0)(hX0:¬ X 1) :
 Gives Tryz.prog 176 #[Yc Bs 0] (fun x=>x<32/\s.testBit x=true) (fun xs=>∀i,i∈xs ↔ s.testBit i=true) (fun pre=>∀i∈pre,s.testBit i=true) X w0:=by
 intro n l J Jx W hb hJ hJx hX hY h0
 have hBs:=hB.mono hb hB.lt
 have hT:=ht.mono hb
 have c0:=hBs.cell 0
 simp only[Yh]at c0
 have hW0:=hT.pos
 have HY:=h_ hY;clear hY
 refine callsIn_of_wp Tryz.func176 rfl trivial ?_ rfl
 simp only[Tryz.ntmps176,Zj,Yw,Y5,Nat.reduceAdd,Nat.reduceSub,Vw,Vv,Oj,Od,Og,Z3]
 gi_wp2
 clear c0
 have hbn:Below W.heap.size W (W.alloc (.cells #[.int .u32 (s:Int)] 124)):=(bR _ _).alloc (nR _) _
 have hnew:=Blk.new W 124 #[.int .u32 (s:Int)]
 gi_loopw [3] (fun p wr=>∃(R rest:Nat) (pre:List Nat),p=Yc R 0/\W.heap.size<=R/\Blk wr R 124 [.int .u32 (rest:Int)]/\Tab wr/\J pre wr/\W.heap.size<=wr.heap.size/\rest<4294967296/\(∀i,s.testBit i=true ↔ i∈pre∨rest.testBit i=true)) (fun p wr=>natAt wr p)
 case atStart=>exact⟨W.heap.size,s,[],rfl,nR _,hnew,hT.mono hbn,hJ _ _ _ h0 hbn,hbn.size,hs,fun i=>by simp⟩
 case round =>
  clear hnew hbn h0 hT hBs;obtain⟨R,rest,pre,rfl,hR,hbR,hT,hj,hsz,hr,hbits⟩:=hrel;have c1:=hbR.cell 0;simp only[Yh]at c1;have HBR:=h_ hbR;have HT:=h_ hT;have HJ:=h_ hj;have HBITS:=h_ hbits;have hlR:=hbR.lt;clear hbR hT hj hbits;by_cases hz:rest=0
  . subst hz
    have hzb:((0:Nat)==0)=true:=rfl;gi_wp2_with fail;refine callW ((q9l _ _).mono ?_);rintro e w1 ⟨rfl,rfl⟩;gi_wp2_with fail
    go_end0
    refine⟨⟨_,rfl⟩,.inl ⟨pre,fun i=>?_,hJ _ _ _ HJ.u (((bR wr.heap.size _).alloc (nR _) _).mono hsz)⟩⟩;rw[HBITS.u i];simp
  . have hzb:(rest==0)=false:=by simpa using hz
    have hcb:=qga hr hz;have hl3:=q7z rest (wr.alloc (.cells #[.int .u32 (rest:Int)] 124)) hr hz (HT.u.mono ((bR _ _).alloc (nR _) _));obtain⟨x,hx⟩:=Nq (Lib.ctz 32 rest);rw[hx]at hcb hl3;have HL3:=h_ hl3;have hx32:=hcb.1;have HXB:=h_ hcb.2;clear hz hx hcb hl3;have hB2:Below wr.heap.size wr ((wr.alloc (.cells #[.int .u32 (rest:Int)] 124)).alloc (.cells #[.int .u32 (rest:Int)] 124)):=((bR _ _).alloc (nR _) _).alloc (by simp) _;have hyy:=HY.u (n - 1) pre x _ (hJ _ _ _ HJ.u (hB2.mono hsz)) ⟨hx32,(HBITS.u x).2 (.inr HXB.u)⟩;have HB2:=h_ hB2;clear hB2;obtain⟨fn,tmps,assign,body,hy,hRd⟩:=hyy;have HRD:=h_ hRd;clear hRd;gi_wp2_with fail;refine callW ((q9l _ _).mono ?_);rintro e w1 ⟨rfl,rfl⟩;gi_wp2_with fail;refine callW (HL3.u.mono ?_);rintro e w1 ⟨rfl,rfl⟩;gi_wp2_with fail;refine⟨noDepth,HRD.u.mono ?_⟩;rintro e W3 (⟨rfl,hj3,hk3⟩ | ⟨rfl,hjx3⟩)
    . have hbR:=hk3.blk (HBR.u.mono HB2.u hlR) (fun h=>by have:=hX R h;omega)
      have hT3:=(HT.u.mono HB2.u).keep hk3 hX0;have hs3:wr.heap.size<=W3.heap.size:=Ys HB2.u.size hk3.size;clear hk3 c1 hy HRD HL3;have c2:=hbR.cell 0;simp only[Yh]at c2;have f2:=hbR.free 0;have hl3:=hbR.lt;have K4:=hbR.cell4 0;have F4:=hbR.free4 0;simp only[Yh]at K4;have HBR3:=h_ hbR;have HT3:=h_ hT3;have HJ3:=h_ hj3;clear hbR hT3 hj3;have hmix:Tryz.prog.follows .mixedOrders=true:=(by kernel_rfl);have hr2:=qae (t:=2 ^ x) hr;have h2x:=two_lt hx32;gi_wp2_with fail
      gi_region_with_o (first | (refine callW ((qic _ _ hx32).mono ?_);rintro e w' ⟨rfl,rfl⟩) | (refine callW ((qaf _ _ _ hr h2x).mono ?_);rintro e w' ⟨rfl,rfl⟩))
      all_goals
       gi_wp2_with fail;have hst:=q5e W.heap.size W3 R (.cells (#[.int .u32 ((2 ^ x:Nat):Int)]) 124) (.cells #[.int .u32 (rest:Int)] 124) (.cells (#[.int .u32 ((2 ^ x:Nat):Int)]) 124) (.cells (#[.int .u32 ((minusN rest (2 ^ x):Nat):Int)]) 124) (.int .u32 ((minusN rest (2 ^ x):Nat):Int)) 124 hR (by omega);simp only[Ot,Oh]at hst;refine⟨⟨W3.heap.size+1+1+1+1,minusN rest (2 ^ x),pre++[x],rfl,by omega,hst.1,HT3.u.at0 (hst.2.block 1 hW0),hJ _ _ _ HJ3.u hst.2,by have:=hst.2.size;omega,hr2,fun i=>?_⟩,?_⟩
       . rw[HBITS.u i,q5j hr hx32,Y9,Yx]
         have hxb:=HXB.u;by_cases e:i=x
         . subst e;simp[hxb]
         . simp[e]
       . have h1:=hst.1.cell 0
         have h2:=HBR.u.cell 0;simp only[Yh]at h1 h2;rw[qdi h1,qdi h2];exact q5i hr hx32 HXB.u
    . gi_wp2_with fail
      refine bodyPost_ret (results_none rfl _ _ _) rfl ⟨⟨_,rfl⟩,.inr ⟨pre++[x],fun i hi=>?_,hjx3⟩⟩;rw[HBITS.u i];rcases Y9.1 hi with h | h
      . exact .inl h
      . rw[Yx.1 h];exact .inr HXB.u
theorem q7s (s:Nat)(w:World) :
 Calls Tryz.prog 150 #[.agg #[.int .u32 (s:Int)]] w fun e w'=>e=.returned (.func (.func 176) #[] #[Yc w.heap.size 0])/\w'=w.alloc (.cells #[.int .u32 (s:Int)] 124):=by
 go_enter Tryz.func150,Tryz.ntmps150
 go_wp2
 go_ret
 exact⟨rfl,rfl⟩
attribute [local go_sem] Oper.semAt_some
def Least (g:Nat->Nat)(s:Nat)(v:Int):Prop:=(∃c:Nat,c<32/\v=(c:Int)/\s.testBit c=true/\minusN s (g c)=0)∨(v = -1/\∀c:Nat,s.testBit c=true->¬ minusN s (g c)=0)
theorem q7w (n:Nat)(g:Nat->Nat)(s:Nat)(w:World)(hg:∀a,a<32->g a<4294967296)(hs:s<4294967296)(ht:Tab w) :
 CallsIn Fence.wide n Tryz.prog 121 #[.agg (us g).toArray,.agg #[.int .u32 (s:Int)]] w fun e w'=>∃v,e=.returned (J9 v)/\Least g s v/\Below w.heap.size w w':=by
 refine callsIn_of_wp_marks Tryz.func121 rfl trivial ?_ rfl
 simp only[Tryz.ntmps121,Zj,Yw,Y5,Nat.reduceAdd,Nat.reduceSub,Vw,Vv,Oj,Od,Og,Z3]
 gi_wp2_with fail
 refine callW ((q7s _ _).mono ?_)
 rintro e w1 ⟨rfl,rfl⟩
 gi_wp2_with fail
 have B0:=((Blk.new w 126 (us g).toArray).alloc (.cells #[.int .u32 (s:Int)] 124)).alloc (.cells #[J9 0] 3) |>.alloc (.cells #[.int .u32 (s:Int)] 124)
 have B1:=((Blk.new (w.alloc (.cells (us g).toArray 126)) 124 #[.int .u32 (s:Int)]).alloc (.cells #[J9 0] 3)).alloc (.cells #[.int .u32 (s:Int)] 124)
 have B2:=(Blk.new ((w.alloc (.cells (us g).toArray 126)).alloc (.cells #[.int .u32 (s:Int)] 124)) 3 #[J9 0]).alloc (.cells #[.int .u32 (s:Int)] 124)
 have B3:=Blk.new (((w.alloc (.cells (us g).toArray 126)).alloc (.cells #[.int .u32 (s:Int)] 124)).alloc (.cells #[J9 0] 3)) 124 #[.int .u32 (s:Int)]
 have BW:=below4 w (.cells (us g).toArray 126) (.cells #[.int .u32 (s:Int)] 124) (.cells #[J9 0] 3) (.cells #[.int .u32 (s:Int)] 124)
 simp only[Yv]at B1 B2 B3
 have T4:=ht.mono BW
 have z4:((((w.alloc (.cells (us g).toArray 126)).alloc (.cells #[.int .u32 (s:Int)] 124)).alloc (.cells #[J9 0] 3)).alloc (.cells #[.int .u32 (s:Int)] 124)).heap.size=w.heap.size+1+1+1+1:=by simp
 obtain⟨W4,hW4⟩:=Nq ((((w.alloc (.cells (us g).toArray 126)).alloc (.cells #[.int .u32 (s:Int)] 124)).alloc (.cells #[J9 0] 3)).alloc (.cells #[.int .u32 (s:Int)] 124))
 rw[hW4]at B0 B1 B2 B3 BW T4 z4⊢
 clear hW4
 refine qb1 (gf:=176) (lb:=#[Yc (w.heap.size+1+1+1) 0]) rfl (enters_of Tryz.func176 (by kernel_rfl) rfl)
  (q3x (w.heap.size+1+1+1) s W4 (fun _=>False) hs B3 T4 (fun h=>h)) (bR _ _) (fun _ h=>h.elim) rfl
  (fun pre W=>(∀c∈pre,¬ minusN s (g c)=0)/\Blk W w.heap.size 126 (us g)/\Blk W (w.heap.size+1) 124 [.int .u32 (s:Int)]/\Blk W (w.heap.size+1+1) 3 [J9 0]/\Below w.heap.size w W)
  (fun pre W=>∃c,c∈pre/\c<32/\minusN s (g c)=0/\Blk W (w.heap.size+1+1) 3 [J9 (c:Int)]/\Below w.heap.size w W)
  ?hI ?hIx ⟨fun _ h=>(by cases h),B0,B1,B2,BW⟩
  (fun x=>{ tmps:=#[.agg (us g).toArray,.agg #[.int .u32 (s:Int)],Yc w.heap.size 0,Yc (w.heap.size+1) 0,Yc (w.heap.size+1+1) 0,J9 (x:Int),.agg #[.int .u32 (s:Int)],.func (.func 176) #[] #[Yc (w.heap.size+1+1+1) 0],J9 (x:Int),undef,undef,undef,undef,undef,undef,undef],defers:=[] })
  ?assign ?body ?done ?stop
 case hI =>
  rintro pre W W' ⟨h1,h2,h3,h4,h5⟩ hb;rw[z4]at hb;exact⟨h1,h2.mono hb (by omega),h3.mono hb (by omega),h4.mono hb (by omega),h5.trans (hb.mono (by omega))⟩
 case hIx =>
  rintro pre W W' ⟨c,h1,h2,h3,h4,h5⟩ hb;rw[z4]at hb;exact⟨c,h1,h2,h3,h4.mono hb (by omega),h5.trans (hb.mono (by omega))⟩
 case assign =>
  intro m l x W K hK
  gi_wp2
  exact hK
 case body =>
  rintro m l pre x W ⟨h1,h2,h3,h4,h5⟩ ⟨hx32,hxs⟩;have hmix:Tryz.prog.follows .mixedOrders=true:=by kernel_rfl
  have cg:=h2.cell x;rw[us_get g hx32]at cg;have cs:=h3.cell 0;simp only[Yh]at cs;have cr:=h4.cell 0;have fr:=h4.free 0;simp only[Yh]at cr;have hgx:=hg x hx32;have x0i:(0:Int)<=x:=by omega
  have x1i:(x:Int)<32:=by omega
  have hlW:=h4.lt;have H1:=h_ h1;have H2:=h_ h2;have H3:=h_ h3;have H4:=h_ h4;have H5:=h_ h5;clear h1 h2 h3 h4 h5;have HXS:=h_ hxs;clear hxs;have hm:=qae (t:=g x) hs;cases hz:(minusN s (g x)==0)
  . have HM:Hi (¬ minusN s (g x)=0):=by simpa [Hi] using hz
    gi_wp2_with fail
    gi_region_with_o (first | (refine callR ((qaf _ _ _ hs hgx).mono ?_);rintro e w' ⟨rfl,rfl⟩) | (refine callR ((q9l _ _).mono ?_);rintro e w' ⟨rfl,rfl⟩))
    all_goals
     gi_wp2
     refine⟨keepsO (below4 _ _ _ _ _).drew,KeepX.of_below (below4 _ _ _ _ _).drew,fun c hc=>?_,H2.u.mono (below4 _ _ _ _ _).drew H2.u.lt,H3.u.mono (below4 _ _ _ _ _).drew H3.u.lt,H4.u.mono (below4 _ _ _ _ _).drew H4.u.lt,H5.u.trans ((below4 W _ _ _ _).drew.mono H5.u.size)⟩;rcases Y9.1 hc with h | h
     . exact H1.u c h
     . rw[Yx.1 h];exact HM.u
  . have HM:Hi (minusN s (g x)=0):=by simpa [Hi] using hz
    have K4:=H4.u.cell4 0;have F4:=H4.u.free4 0;simp only[Yh]at K4;gi_wp2_with fail
    gi_region_with_o (first | (refine callR ((qaf _ _ _ hs hgx).mono ?_);rintro e w' ⟨rfl,rfl⟩) | (refine callR ((q9l _ _).mono ?_);rintro e w' ⟨rfl,rfl⟩))
    all_goals
     gi_wp2
     refine⟨(keepsO (below4 _ _ _ _ _)).trans ((KeepsOthers.setCell _ _ _).trans (KeepsOthers.drew _)),x,by simp,hx32,HM.u,?_,?_⟩
     . exact(H4.u.mono (below4 _ _ _ _ _) H4.u.lt).set 0 (J9 (x:Int))
     . exact((H5.u.trans ((below4 W _ _ _ _).mono H5.u.size)).setCell (p:=⟨w.heap.size+1+1,0,none⟩) (by simp;omega) _).drew
 case done =>
  rintro D xs W hD hS ⟨h1,h2,h3,h4,h5⟩ hK;have cr:=h4.cell 0;have fr:=h4.free 0;simp only[Yh]at cr;have H1:=h_ h1;have H4:=h_ h4;have H5:=h_ h5;have HK:=h_ hK;clear h1 h2 h3 h4 h5 hK;have HS:=h_ hS;clear hS
  gi_wp2
  have hK':=(KeepsOthers.setCell W ⟨w.heap.size+1+1,0,none⟩ (J9 (-1))).same D _ HK.u rfl;have hB':=(H4.u.set 0 (J9 (-1))).put (.deferred none) hK' rfl;refine⟨by simp,.inl ⟨_,_,rfl,run_takeDeferred hK',?_⟩⟩;have hc5:=hB'.cell 0;simp only[Yd,Yh]at hc5;refine⟨J9 (-1),?_,-1,rfl,.inr ⟨rfl,fun c hc=>H1.u c ((HS.u c).2 hc)⟩,?_⟩
  . simp[results,Tryz.f121,go_sem,hc5]
  . exact(H5.u.setCell (p:=⟨w.heap.size+1+1,0,none⟩) (by simp;omega) _).trans (q90 _ D _ (by omega))
 case stop =>
  rintro D pre W hD hSp ⟨c,h1,h2,h3,h4,h5⟩ hK;have HK:=h_ hK;have H4:=h_ h4;have H5:=h_ h5;have H3:=h_ h3;have HSp:=h_ hSp;clear h4 h5 h3 hK hSp
  gi_wp2
  refine⟨by simp,.inl ⟨_,_,rfl,run_takeDeferred HK.u,?_⟩⟩;have hc5:=(H4.u.put (.deferred none) HK.u rfl).cell 0;simp only[Yh]at hc5;refine⟨J9 (c:Int),?_,c,rfl,.inl ⟨c,h2,rfl,HSp.u c h1,H3.u⟩,?_⟩
  . simp[results,Tryz.f121,go_sem,hc5]
  . exact H5.u.trans (q90 _ D _ (by omega))
theorem q5g (g:Nat->Nat)(s:Nat)(w:World)(hg:∀a,a<32->g a<4294967296)(hs:s<4294967296)(ht:Tab w) :
 Calls Tryz.prog 121 #[.agg (us g).toArray,.agg #[.int .u32 (s:Int)]] w fun e w'=>∃v,e=.returned (J9 v)/\Least g s v/\Below w.heap.size w w' :=
 (callsIn_wide (n:=9)).1 (q7w 9 g s w hg hs ht)
section
variable {n:Nat} {ops:Array Oper} {rest:List Oper} {o:Oper} {a:Act} {w:World} {Q:Exit->Act->World->Prop}
theorem q05 (hgd:o.guard=none)(x:Operand)(ho:o.op=.load 126 x)(b:Nat)(g:Nat->Nat)(hx:a.eval x=Yc b 0)(hb:Blk w b 126 (us g))
 (h:wpListIn Fence.wide n Tryz.prog ops Q rest (a.put o.dst (.agg (us g).toArray)) w):wpListIn Fence.wide n Tryz.prog ops Q (o :: rest) a w :=
 wpListIn_plain hgd fun _ hK=>⟨fun _ _=>trivial,by
  simp only[Fence.wide,Oper.semAt,execOp,ho,hx,Instr.loadAt,Instr.sureAddr,Sem.run_bind,Sem.run_pure,Result.andThen_ok,run_loadVar_row w b 126 126 (us g).toArray (0,0) _ hb Tryz.underlying126 rfl (qjh g)];exact hK _ _ h⟩
theorem q02 (hgd:o.guard=none)(x y:Operand)(ho:o.op=.store 126 x y)(b:Nat)(g g':Nat->Nat)(hx:a.eval x=Yc b 0)(hy:a.eval y=.agg (us g').toArray)(hb:Blk w b 126 (us g))
 (h:∀w',Blk w' b 126 (us g')->w.grownBy w' (some b)->w'.heap.size=w.heap.size->wpListIn Fence.wide n Tryz.prog ops Q rest (a.put o.dst undef) w'):wpListIn Fence.wide n Tryz.prog ops Q (o :: rest) a w :=
 wpListIn_plain hgd fun _ hK=>⟨fun _ _=>trivial,by
  simp only[Fence.wide,Oper.semAt,execOp,ho,hx,hy,Instr.storeAt,Instr.sureAddr,Sem.run_bind,Sem.run_pure,Result.andThen_ok,run_storeVar_row w b 126 126 _ (us g').toArray hb (qjh g') (by simp[us]) (us_one g')];exact hK _ _ (h _ (setRow_heap w b _ _ _ _ hb) ⟨rfl,rfl,rfl,by simp,fun k _ hk=>setRow_other w b k _ (fun e=>hk (by rw[e]))⟩ (by simp))⟩
end
def marks (Ds:List Nat):List Deferred:=Ds.map fun D=>{ target:=.collected D,args:=#[] }
def Shut (B:Nat)(W:World)(Ds:List Nat):Prop:=Ds.Nodup/\∀D∈Ds,B<=D/\W.heap[D]? = some (.deferred (some []))
theorem Shut.nil (B:Nat)(W:World):Shut B W []:=⟨List.nodup_nil,fun _ h=>by cases h⟩
theorem Shut.keep {B:Nat}{W W':World}{Ds:List Nat}(h:Shut B W Ds)(k:KeepsOthers W W'):Shut B W' Ds:=⟨h.1,fun D hD=>⟨(h.2 D hD).1,k.same D _ (h.2 D hD).2 rfl⟩⟩
theorem Shut.below {B N:Nat}{W W':World}{Ds:List Nat}(h:Shut B W Ds)(hb:Below N W W')(hN:∀D∈Ds,D<N):Shut B W' Ds:=⟨h.1,fun D hD=>⟨(h.2 D hD).1,(hb.block D (hN D hD)).trans (h.2 D hD).2⟩⟩
theorem Shut.lt {B:Nat}{W:World}{Ds:List Nat}(h:Shut B W Ds):∀D∈Ds,D<W.heap.size:=fun D hD=>(Yt.1 (h.2 D hD).2).1
theorem Shut.cons {B D:Nat}{W:World}{Ds:List Nat}(h:Shut B W Ds)(hD:B<=D)(hd:W.heap[D]? = some (.deferred (some [])))(hn:D ∉ Ds):Shut B W (D :: Ds) :=
 ⟨Oq.2 ⟨hn,h.1⟩,fun E hE=>by
  rcases Z2.1 hE with rfl | hE
  . exact⟨hD,hd⟩
  . exact h.2 E hE⟩
theorem q40 {P:Program}{fn:Func}{tmps:Array Value}{R:Ending->World->Prop}{n B:Nat}:∀(Ds:List Nat) (W:World),Shut B W Ds ->
 (∀W',KeepX (fun _=>False) W W'->Below B W W'->∃v,(results fn tmps).run P W'=.ok v W'/\R (.returned v) W')->LeavesInM Fence.wide n P fn tmps R (marks Ds) .returning W
 | [],W,_,h=>h W (KeepX.refl _ _) (bR _ _)
 | D :: Ds,W,hs,h=>by
  have hd:=hs.2 D (Zd ..);refine⟨by simp,.inl ⟨D,_,rfl,run_takeDeferred hd.2,q40 Ds _ ⟨(Oq.1 hs.1).2,fun E hE=>?_⟩ fun W' hk hb=>h W' ((KeepX.put hd.2 rfl).trans hk) ((q90 _ D _ hd.1).trans hb)⟩⟩;have hE':=hs.2 E (Zu _ hE);exact⟨hE'.1,(World.putObj_heap_other (k:=E) (r:=D) (fun e=>(Oq.1 hs.1).1 (by rw[<- e];exact hE))).trans hE'.2⟩
theorem qe4 {W':World}{O x:Nat}{g'':Nat->Nat}(h:Blk W' O 126 (us g''))(hx:x<32)(u:Nat)(o1 o2 o3 o4:Obj) :
 KeepsOthers W' (((((W'.alloc o1).alloc o2).alloc o3).alloc o4).setCell ⟨O,x,none⟩ (.int .u32 (u:Int))).drew/\KeepX (fun j=>j=O) W' (((((W'.alloc o1).alloc o2).alloc o3).alloc o4).setCell ⟨O,x,none⟩ (.int .u32 (u:Int))).drew /\
  Blk (((((W'.alloc o1).alloc o2).alloc o3).alloc o4).setCell ⟨O,x,none⟩ (.int .u32 (u:Int))).drew O 126 (us fun j=>if j=x then u else g'' j) /\
  (∀B,B<=O->O<W'.heap.size->Below B W' (((((W'.alloc o1).alloc o2).alloc o3).alloc o4).setCell ⟨O,x,none⟩ (.int .u32 (u:Int))).drew):=by
 have hb:=below4 W' o1 o2 o3 o4
 refine⟨(keepsO hb).trans ((KeepsOthers.setCell _ _ _).trans (KeepsOthers.drew _)),((KeepX.of_below hb).trans (KeepX.set (X:=fun j=>j=O) (a:=⟨O,x,none⟩) (.int .u32 (u:Int)) rfl)).trans ⟨nR _,fun _ _ _ _ _ h=>h⟩,?_,fun B hB hO=>((hb.mono (by omega)).setCell (p:=⟨O,x,none⟩) hB _).drew⟩
 rw[<- us_set g'' u hx]
 exact(h.mono hb h.lt).set x _
end Go.Proofs.YtebbgodlijlioaaGreatDoor
namespace Go.Proofs.YtebbgodlijlioaaGreatDoor
open Go Go.RowKit
def Bk (w:World)(g:Nat)(t:TypeId)(n:Nat):Prop:=∃cs,Blk w g t cs/\cs.length=n
theorem Bk.lt {w:World}{g:Nat}{t:TypeId}{n:Nat}(h:Bk w g t n):g<w.heap.size:=h.elim fun _ h=>h.1.lt
theorem Bk.mono {w w':World}{B g:Nat}{t:TypeId}{n:Nat}(h:Bk w g t n)(hb:Below B w w')(hg:g<B):Bk w' g t n:=h.elim fun cs h=>⟨cs,h.1.mono hb hg,h.2⟩
theorem Bk.keep {w w':World}{g:Nat}{t:TypeId}{n:Nat}(h:Bk w g t n)(hk:w'.heap[g]? = w.heap[g]?):Bk w' g t n:=h.elim fun cs h=>⟨cs,hk.trans h.1,h.2⟩
theorem Bk.other {w:World}{g:Nat}{t:TypeId}{n:Nat}(h:Bk w g t n){R:Nat}(hR:g≠R)(j:Nat)(v:Value):Bk (w.setCell ⟨R,j,none⟩ v) g t n:=h.elim fun cs h=>⟨cs,h.1.other v hR,h.2⟩
theorem Bk.set {w:World}{g:Nat}{t:TypeId}{n:Nat}(h:Bk w g t n)(j:Nat)(v:Value):Bk (w.setCell ⟨g,j,none⟩ v) g t n:=h.elim fun cs h=>⟨cs.set j v,h.1.set j v,by rw[Zz];exact h.2⟩
theorem Bk.cell {w:World}{g:Nat}{t:TypeId}{n:Nat}(h:Bk w g t n){j:Nat}(hj:j<n):∃v,w.cell? ⟨g,j,none⟩=some v:=h.elim fun cs h=>⟨_,(h.1.cell j).trans (Yj (by rw[h.2];exact hj))⟩
theorem Bk.free {w:World}{g:Nat}{t:TypeId}{n:Nat}(h:Bk w g t n)(j:Nat):w.frozen? ⟨g,j,none⟩=false:=h.elim fun _ h=>h.1.free j
end Go.Proofs.YtebbgodlijlioaaGreatDoor
