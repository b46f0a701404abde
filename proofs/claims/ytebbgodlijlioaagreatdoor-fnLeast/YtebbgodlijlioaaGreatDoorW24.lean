import Derived.Test.YtebbgodlijlioaaGreatDoorW20
import Derived.Test.YtebbgodlijlioaaGreatDoorW18
import Derived.Test.YtebbgodlijlioaaGreatDoorW19
import Derived.Laws.CopyOwn
set_option maxRecDepth 100000
set_option maxHeartbeats 64000000
namespace Go.Proofs.YtebbgodlijlioaaGreatDoor
open Go Go.RowKit
theorem qjf (s:ByteArray){i j:Nat}(h1:i<=j)(h2:j<=s.size)(w:World):(Instr.slice 9 (.string s) (some (J9 (i:Nat))) (some (J9 (j:Nat))) none).run Tryz.prog w=.ok (.string (s.extract i j)) w:=by
 rw[run_slice_string w 9 s .i64 .i64 _ _ Tryz.underlying9 (by omega) (by omega) (by omega),show((i:Int)).toNat=i by omega,show((j:Int)).toNat=j by omega]
def nmT (s:ByteArray)(i:Nat):ByteArray:=if i<s.size then s.extract (i % s.size) (i % s.size+1) else s.extract (i % s.size) (i % s.size+1)++⟨(Lib.itoa ((i / s.size:Nat):Int)).toArray⟩
theorem q3s (s:ByteArray)(i:Nat)(h1:1<=s.size)(h2:s.size<=26)(hi:i<=1000):∃x:ByteArray,(x=nmT s i/\x.size<=64)/\∀w:World,Calls Tryz.prog 72 #[.string s,J9 i] w fun e w'=>e=.returned (.string x)/\Below w.heap.size w w':=by
 obtain⟨n,hn⟩:=Nq s.size
 obtain⟨k,hk⟩:=Nq (i % n)
 have hkn:k<n:=by rw[<- hk];exact Vq _ (by omega)
 have hk1:(i:Int) % (n:Int)=(k:Int):=by rw[<- hk];rfl
 have hk2:(i:Int).tmod (n:Int)=(k:Int):=by rw[<- hk];rfl
 have hn0:¬ (n:Int)=0:=by omega
 have hi':(i:Int)<=1000:=by omega
 have hsz:(s.extract k (k+1)).size<=1:=by rw[ByteArray.size_extract];omega
 have hsub:=qjf s (i:=k) (j:=k+1) (by omega) (by omega)
 rw[show((k+1:Nat):Int)=(k:Int)+1 by omega]at hsub
 obtain⟨t,ht⟩:=Nq (s.extract k (k+1))
 rw[ht]at hsz hsub
 by_cases hlt:i<n
 . have hlt':(i:Int)<n:=by omega
   refine⟨t,⟨by unfold nmT;rw[hn,hk,Yy hlt,ht],by omega⟩,fun w=>?_⟩;rw[<- hn]at hk1 hk2 hn0 hlt' hkn;have hks:(k:Int)<s.size:=by omega
   clear hk ht hi hlt hn;go_enter Tryz.func72,Tryz.ntmps72;go_wp2_with fail;go_ret;exact⟨rfl,bR _ _⟩
 . have hlt':¬ (i:Int)<n:=by omega
   obtain⟨q,hq⟩:=Nq (i / n);have hq0:q<=1000:=by rw[<- hq];exact Ys (Of _ _) hi
   have hq1:(i:Int) / (n:Int)=(q:Int):=by rw[<- hq];rfl
   have hq2:(i:Int).tdiv (n:Int)=(q:Int):=by rw[<- hq];rfl
   have hq3:(q:Int)<=1000:=by omega
   have hds:=qa1 (q:Int) (by omega) (by omega);have HD:=h_ fun W=>q2h (q:Int) W (by omega) (by omega);obtain⟨d,hd⟩:∃d:ByteArray,⟨(Lib.itoa q).toArray⟩=d:=⟨_,rfl⟩;rw[hd]at hds HD;obtain⟨T,eT,zT⟩:=@sum_to t d;refine⟨T,⟨by unfold nmT;rw[hn,hk,Yu hlt,ht,hq,hd,eT],by omega⟩,fun w=>?_⟩;rw[<- hn]at hk1 hk2 hn0 hlt' hq1 hq2 hkn;have hw:IntKind.i64.wrap ((k:Int)+1)=(k:Int)+1:=by rw[IntKind.wrap_i64];omega
   have hse:¬ s=ByteArray.empty:=fun e=>by rw[e]at h1;exact absurd h1 (by decide)
   have hwq:IntKind.i64.wrap (q:Int)=(q:Int):=by rw[IntKind.wrap_i64];omega
   clear hk ht hi hlt hn hq hd;go_enter Tryz.func72,Tryz.ntmps72;go_wp2_with fail;refine wp_region_held_drew (S:=fun _=>True) (by kernel_rfl) trivial (fun zz=>?_);refine tj 0 20 (.string s) zz ?_;refine tj 1 21 (J9 k) zz ?_;refine tj 2 22 (J9 k) zz ?_;refine tj 3 23 (J9 ((k:Int)+1)) zz ?_ (hy:=fun w hS=>by simp[execOp,go_sem,hw]);simp only[sX,sY,sZ];refine tj 4 24 (.string t) zz ?_ (hy:=fun w hS=>by simp[execOp,go_sem,hsub]);refine tj 5 25 (J9 i) zz ?_;refine tj 6 26 (J9 s.size) zz ?_;refine tj 7 27 (J9 q) zz ?_ (hy:=fun w hS=>by simp[execOp,go_sem,hq2,hwq,hse]);simp only[sX,sY,sZ];refine callY (i:=8) (f:=103) (args:=#[J9 q]) (R:=fun u wz=>u=.string d/\Below w.heap.size w wz) 28 rfl rfl (by rfl) (by kernel_rfl) (by simp[execOp,go_sem]) ((HD.u w.drew).mono fun e w6 ⟨he,hb⟩=>⟨_,he,rfl,q28 hb⟩) ?_;rintro u W1 ⟨rfl,hb⟩;have HB:=h_ hb;clear hb;refine⟨trivial,?_⟩;simp only[sX,sY,sZ];refine tj 9 29 (.string T) zz ?_ (hy:=fun w hS=>by have h:=run_string_add_sum (P:=Tryz.prog) w t d (by omega);rw[eT]at h;simp[execOp,go_sem,h]);refine tj 10 4 (.string T) zz ?_;simp only[sX,sY,sZ];refine wpAnyH_done (by kernel_rfl) ?_ _;clear zz;go_wp2_with fail;go_ret;exact⟨rfl,HB.u⟩
theorem q3r (s:ByteArray)(i:Nat)(h1:1<=s.size)(h2:s.size<=26)(hi:i<=1000):∃x:ByteArray,x.size<=64/\∀w:World,Calls Tryz.prog 72 #[.string s,J9 i] w fun e w'=>e=.returned (.string x)/\Below w.heap.size w w' :=
 let ⟨x,hx,h⟩:=q3s s i h1 h2 hi
 ⟨x,hx.2,h⟩
theorem q0z (i:Nat)(hi:i<=1000):∃x:ByteArray,x.size<=64/\∀w:World,Calls Tryz.prog 69 #[J9 i] w fun e w'=>e=.returned (.string x)/\Below w.heap.size w w':=by
 by_cases h0:i=0
 . subst h0
   refine⟨⟨#[108,111,119]⟩,by decide,fun w=>?_⟩;go_enter Tryz.func69,Tryz.ntmps69;go_wp2_with fail;go_ret;exact⟨rfl,bR _ _⟩
 by_cases h1:i=1
 . subst h1
   refine⟨⟨#[109,105,100]⟩,by decide,fun w=>?_⟩;go_enter Tryz.func69,Tryz.ntmps69;go_wp2_with fail;go_ret;exact⟨rfl,bR _ _⟩
 by_cases h2:i=2
 . subst h2
   refine⟨⟨#[104,105,103,104]⟩,by decide,fun w=>?_⟩;go_enter Tryz.func69,Tryz.ntmps69;go_wp2_with fail;go_ret;exact⟨rfl,bR _ _⟩
 have g0:((i:Int)==0)=false:=Yf.2 (by omega)
 have g1:((i:Int)==1)=false:=Yf.2 (by omega)
 have g2:((i:Int)==2)=false:=Yf.2 (by omega)
 obtain⟨x,hx,hc⟩:=q3r ⟨#[115,116,117,118,119]⟩ i (by decide) (by decide) hi
 refine⟨x,hx,fun w=>?_⟩
 have HC:=h_ (hc w)
 clear h0 h1 h2 hc
 go_enter Tryz.func69,Tryz.ntmps69
 go_wp2_with fail
 refine HC.u.mono ?_
 rintro e W1 ⟨rfl,hb⟩
 have HB:=h_ hb
 clear hb
 go_wp2_with fail
 go_ret
 exact⟨rfl,HB.u⟩
theorem q1y (i:Nat)(hi:i<=1000):∃x:ByteArray,x.size<=64/\∀w:World,Calls Tryz.prog 70 #[J9 i] w fun e w'=>e=.returned (.string x)/\Below w.heap.size w w':=by
 by_cases h0:i=0
 . subst h0
   refine⟨⟨#[99,108,101,114,107]⟩,by decide,fun w=>?_⟩;go_enter Tryz.func70,Tryz.ntmps70;go_wp2_with fail;go_ret;exact⟨rfl,bR _ _⟩
 by_cases h1:i=1
 . subst h1
   refine⟨⟨#[98,111,115,115]⟩,by decide,fun w=>?_⟩;go_enter Tryz.func70,Tryz.ntmps70;go_wp2_with fail;go_ret;exact⟨rfl,bR _ _⟩
 by_cases h2:i=2
 . subst h2
   refine⟨⟨#[109,105,100]⟩,by decide,fun w=>?_⟩;go_enter Tryz.func70,Tryz.ntmps70;go_wp2_with fail;go_ret;exact⟨rfl,bR _ _⟩
 have g0:((i:Int)==0)=false:=Yf.2 (by omega)
 have g1:((i:Int)==1)=false:=Yf.2 (by omega)
 have g2:((i:Int)==2)=false:=Yf.2 (by omega)
 obtain⟨x,hx,hc⟩:=q3r ⟨#[112,113,114]⟩ i (by decide) (by decide) hi
 refine⟨x,hx,fun w=>?_⟩
 have HC:=h_ (hc w)
 clear h0 h1 h2 hc
 go_enter Tryz.func70,Tryz.ntmps70
 go_wp2_with fail
 refine HC.u.mono ?_
 rintro e W1 ⟨rfl,hb⟩
 have HB:=h_ hb
 clear hb
 go_wp2_with fail
 go_ret
 exact⟨rfl,HB.u⟩
def nTrue:Nx:=⟨0,⟨2,1,⟨#[]⟩⟩,⟨#[]⟩⟩
def nElse:Nx:=⟨19,⟨0,0,⟨#[]⟩⟩,⟨#[]⟩⟩
def byL (A:Nat):Nat->List Int
 | 0=>[]
 | r+1=>byL A r++if (A / 2+r) % 4=0 then [] else [(r:Int)]
theorem qfy (A:Nat):∀r,(byL A r).length<=r
 | 0=>nR _
 | r+1=>by
  have:=qfy A r;show(byL A r++_).length<=r+1;rw[Yg];split <;> simp <;> omega
section
variable (KB KA:Int->List ByteArray) (len:Nat) (f:Nat->Nat)
def FS1 (A k nl nr d:Nat)(typ:Int)(g0 g1:Fl)(p q:Nat):Prop :=
 (A % 2=0/\0<k/\∃l,GenE KB len f d p typ l q/\g1 = { g0 with is:=l })∨(¬ (A % 2=0/\0<k)/\q=p+1/\g1 = { g0 with lb:=((tkD len f p nl:Nat):Int),bys:=byL A nr })
def FS2 (B k d:Nat)(g0 g1:Fl)(p q:Nat):Prop :=
 (B<3/\0<k/\∃l,GenE KB len f d p 2 l q/\g1 = { g0 with wh:=if B<2 then l++[nTrue,nElse] else l })∨(¬ (B<3/\0<k)/\q=p/\g1=g0)
def FS3 (C d:Nat)(g0 g1:Fl)(p q:Nat):Prop :=
 (C<3/\∃l s,GenE KA len f d p 2 l q/\s.size<=64/\(∀w:World,Calls Tryz.prog 105 #[J9 ((C:Int)*3+1)] w fun e w'=>e=.returned (.string s)/\w'=w)/\g1 = { g0 with va:=l,sy:=s })∨(¬ C<3/\q=p/\g1=g0)
def FS4 (D d:Nat)(g0 g1:Fl)(p q:Nat):Prop :=
 (D<2/\∃l,GenE KA len f (d - 1) p 2 l q/\g1 = { g0 with mu:=l })∨(D=2/\q=p/\g1 = { g0 with mu:=[nTrue] })∨(2<D/\q=p/\g1=g0)
end
structure FMk (cs vb va:List Value)(X:Nat)(g:Fl)(A:FA)(w W:World):Prop where
 bx:Blk W X 42 (fCs g A)
 ow:FOw W w.heap.size g A
 bl:Below w.heap.size w W
 f0:Blk W w.heap.size 28 cs
 kb:Blk W (w.heap.size+1) 110 vb
 ka:Blk W (w.heap.size+1+1) 110 va
 r0:Blk W (w.heap.size+1+1+1) 42 (fCs noFl noFA)
 hX:w.heap.size+1+1+1<X
theorem FMk.mono {cs vb va:List Value}{X:Nat}{g:Fl}{A:FA}{w W W':World}(h:FMk cs vb va X g A w W)(hb:Below W.heap.size W W'):FMk cs vb va X g A w W' :=
 ⟨h.bx.mono hb h.bx.lt,h.ow.mono hb,h.bl.trans (hb.mono h.bl.size),h.f0.mono hb h.f0.lt,h.kb.mono hb h.kb.lt,h.ka.mono hb h.ka.lt,h.r0.mono hb h.r0.lt,h.hX⟩
theorem FOw.one {w w':World}{base:Nat}{g:Fl}{A:FA}(h:FOw w base g A){X:Nat}{t:TypeId}{cs:List Value}(hb:Blk w X t cs)(h1:3≠t)(h2:96≠t)(hk:∀k,k≠X->w'.heap[k]? = w.heap[k]?):FOw w' base g A :=
 ⟨qij h.b hb h1 hk,qij h.i hb h2 hk,qij h.h hb h2 hk,qij h.v hb h2 hk,qij h.u hb h2 hk⟩
theorem FMk.put {cs vb va:List Value}{X:Nat}{g g':Fl}{A A':FA}{w W:World}(h:FMk cs vb va X g A w W)(j:Nat)(v:Value)(hc:(fCs g A).set j v=fCs g' A')(ho:FOw W w.heap.size g' A'):FMk cs vb va X g' A' w (W.setCell ⟨X,j,none⟩ v):=by
 have hX:=h.hX
 refine⟨by rw[<- hc];exact h.bx.set j v,ho.one h.bx (by decide) (by decide) (fun k hk=>heap_setCell_other _ _ _ _ hk),h.bl.setCell (show w.heap.size<=X by omega) _,h.f0.other _ (show w.heap.size≠X by omega),h.kb.other _ (show w.heap.size+1≠X by omega),h.ka.other _ (show w.heap.size+1+1≠X by omega),h.r0.other _ (show w.heap.size+1+1+1≠X by omega),hX⟩
theorem FMk.by {cs vb va:List Value}{X:Nat}{g:Fl}{A:FA}{w W W':World}(h:FMk cs vb va X g A w W){n:Int}{b':Option Addr}{c':Nat}(hn:OwI W' w.heap.size (.slice b' (g.bys++[n]).length c') (g.bys++[n]))(hg:W.grownBy W' (Value.slice A.b g.bys.length A.bc).ownBlock)(hb:Below w.heap.size W W'):FMk cs vb va X { g with bys:=g.bys++[n] } { A with b:=b',bc:=c' } w (W'.setCell ⟨X,3,none⟩ (.slice b' (g.bys++[n]).length c')):=by
 have hk:∀{q:Nat} {t:TypeId} {zs:List Value},Blk W q t zs->3≠t->Blk W' q t zs:=fun hq ht=>(hg.block _ hq.lt (fun e=>qdq h.ow.b hq ht e.symm)).trans hq
 have ow:FOw W' w.heap.size { g with bys:=g.bys++[n] } { A with b:=b',bc:=c' }:=⟨hn,h.ow.i.kept hg (qaw h.ow.i h.ow.b (by decide)),h.ow.h.kept hg (qaw h.ow.h h.ow.b (by decide)),h.ow.v.kept hg (qaw h.ow.v h.ow.b (by decide)),h.ow.u.kept hg (qaw h.ow.u h.ow.b (by decide))⟩
 have bx:=hk h.bx (by decide)
 have hX:=h.hX
 exact⟨bx.set 3 _,ow.one bx (by decide) (by decide) (fun k hk=>heap_setCell_other _ _ _ _ hk),(h.bl.trans hb).setCell (show w.heap.size<=X by omega) _,(hk h.f0 (by decide)).other _ (show w.heap.size≠X by omega),(hk h.kb (by decide)).other _ (show w.heap.size+1≠X by omega),(hk h.ka (by decide)).other _ (show w.heap.size+1+1≠X by omega),(hk h.r0 (by decide)).other _ (show w.heap.size+1+1+1≠X by omega),hX⟩
theorem q66 {ops:Array Oper}{rest:List Oper}{o:Oper}{a:Act}{w:World}{Q:Exit->Act->World->Prop}(hg:o.guard=none)(t:TypeId)(parts:Array (Nat × Operand))(ho:o.op=.build t parts)(cells:Array Value)
 (hc:Tryz.prog.built t (parts.map fun (i,x)=>(i,a.eval x)).toList=some cells) (h:wpList Tryz.prog ops Q rest (a.put o.dst (.agg cells)) w):wpList Tryz.prog ops Q (o :: rest) a w :=
 wpList_build hg t parts ho (by rw[hc];rfl) (by rw[hc];exact h)
theorem q2b (KB KA:Int->List ByteArray)(len:Nat)(f:Nat->Nat)(hlen:len<=1048576)(p:Nat)(hp:p<=800000)(k nl nr:Nat)(hk:k<=1000)(hnl:1<=nl)(hnl2:nl<=1000)(hnr:nr<=1000)(typ:Int)(nm:ByteArray)
 (hnm:∀w:World,Calls Tryz.prog 72 (Jt k) w fun e w'=>e=.returned (.string nm)/\Below w.heap.size w w')
 (A B C D d:Nat) (hA:tkD len f p 16=A) (hB:tkD len f (p+1) 8=B) (hC:tkD len f (p+2) 8=C) (hD:tkD len f (p+3) 8=D) (hd:tkD len f (p+4) 3+1=d)
 (g1 g2 g3 g4:Fl) (q1 q2 q3 q4:Nat) (s1:FS1 KB len f A k nl nr d typ ⟨nm,typ,-1,[],[],[],[],⟨#[]⟩,[]⟩ g1 (p+5) q1) (s2:FS2 KB len f B k d g1 g2 q1 q2) (s3:FS3 KA len f C d g2 g3 q2 q3) (s4:FS4 KA len f D d g3 g4 q3 q4) (hq:q1<=q2/\q2<=q3/\q3<=q4)
 (w:World) (a:Option Addr) (c:Nat) (xl xp xr xf:Option Addr) (cl np cp cr nf cf:Nat) (vb va:Value) (hby:Byts w a len f) (hpb:PickV KB w vb) (hpa:PickV KA w va) :
 Calls Tryz.prog 73 #[.slice a len c,J9 p,.agg (Jh xl nl cl xp np cp xr nr cr xf nf cf),J9 k,J9 typ,vb,va] w fun e w'=>∃A,e=.returned (.tuple #[fV g4 A,J9 q4])/\FOw w' w.heap.size g4 A/\Below w.heap.size w w':=by
 have hA16:A<16:=by rw[<- hA];exact tk_lt hlen (by omega) (by omega) (by omega)
 have hB8:B<8:=by rw[<- hB];exact tk_lt hlen (by omega) (by omega) (by omega)
 have hC8:C<8:=by rw[<- hC];exact tk_lt hlen (by omega) (by omega) (by omega)
 have hD8:D<8:=by rw[<- hD];exact tk_lt hlen (by omega) (by omega) (by omega)
 obtain⟨dp,hdp⟩:=Nq (tkD len f (p+4) 3)
 have hdp3:dp<3:=by rw[<- hdp];exact tk_lt hlen (by omega) (by omega) (by omega)
 rw[hdp]at hd
 have hd':(dp:Int)+1=(d:Int):=by omega
 obtain⟨bx1,bn1,bk1,bx2,bn2,bk2,bx3,bn3,bk3,eb,hsb⟩:=hpb
 obtain⟨ax1,an1,ak1,ax2,an2,ak2,ax3,an3,ak3,ea,hsa⟩:=hpa
 have HPb:Hi (PickV KB w vb):=h_ ⟨bx1,bn1,bk1,bx2,bn2,bk2,bx3,bn3,bk3,eb,hsb⟩
 have HPa:Hi (PickV KA w va):=h_ ⟨ax1,an1,ak1,ax2,an2,ak2,ax3,an3,ak3,ea,hsa⟩
 subst eb ea
 clear hsb hsa
 have HBy:=h_ hby;have HNm:=h_ hnm;have HA:=h_ hA;have HB:=h_ hB;have HC:=h_ hC;have HD:=h_ hD;have HDp:=h_ hdp
 have S1:=h_ s1;have S2:=h_ s2;have S3:=h_ s3;have S4:=h_ s4
 have hb4:Below w.heap.size w ((((w.alloc (.cells (Jh xl nl cl xp np cp xr nr cr xf nf cf) 28)).alloc (.cells (Jk bx1 bn1 bk1 bx2 bn2 bk2 bx3 bn3 bk3) 110)).alloc (.cells (Jk ax1 an1 ak1 ax2 an2 ak2 ax3 an3 ak3) 110)).alloc (.cells Je 42)):=below4 _ _ _ _ _
 have hf0:=(((Blk.new w 28 (Jh xl nl cl xp np cp xr nr cr xf nf cf)).alloc (.cells (Jk bx1 bn1 bk1 bx2 bn2 bk2 bx3 bn3 bk3) 110)).alloc (.cells (Jk ax1 an1 ak1 ax2 an2 ak2 ax3 an3 ak3) 110)).alloc (.cells Je 42)
 have hkb:=((Blk.new (w.alloc (.cells (Jh xl nl cl xp np cp xr nr cr xf nf cf) 28)) 110 (Jk bx1 bn1 bk1 bx2 bn2 bk2 bx3 bn3 bk3)).alloc (.cells (Jk ax1 an1 ak1 ax2 an2 ak2 ax3 an3 ak3) 110)).alloc (.cells Je 42)
 have hka:=(Blk.new ((w.alloc (.cells (Jh xl nl cl xp np cp xr nr cr xf nf cf) 28)).alloc (.cells (Jk bx1 bn1 bk1 bx2 bn2 bk2 bx3 bn3 bk3) 110)) 110 (Jk ax1 an1 ak1 ax2 an2 ak2 ax3 an3 ak3)).alloc (.cells Je 42)
 have hr0:=Blk.new (((w.alloc (.cells (Jh xl nl cl xp np cp xr nr cr xf nf cf) 28)).alloc (.cells (Jk bx1 bn1 bk1 bx2 bn2 bk2 bx3 bn3 bk3) 110)).alloc (.cells (Jk ax1 an1 ak1 ax2 an2 ak2 ax3 an3 ak3) 110)) 42 Je
 simp only[Yv]at hkb hka hr0
 obtain⟨W0,hW0⟩:=Nq ((((w.alloc (.cells (Jh xl nl cl xp np cp xr nr cr xf nf cf) 28)).alloc (.cells (Jk bx1 bn1 bk1 bx2 bn2 bk2 bx3 bn3 bk3) 110)).alloc (.cells (Jk ax1 an1 ak1 ax2 an2 ak2 ax3 an3 ak3) 110)).alloc (.cells Je 42))
 have hs0:W0.heap.size=w.heap.size+4:=by rw[<- hW0];simp
 rw[hW0]at hb4 hf0 hkb hka hr0
 have HB4:=h_ hb4;have HF0:=h_ hf0;have HKb:=h_ hkb;have HKa:=h_ hka;have HR0:=h_ hr0
 have HBy0:=h_ (hby.mono hb4)
 obtain⟨p1,hp1⟩:=Nq (p+1)
 obtain⟨p2,hp2⟩:=Nq (p+2)
 obtain⟨p3,hp3⟩:=Nq (p+3)
 obtain⟨p4,hp4⟩:=Nq (p+4)
 obtain⟨p5,hp5⟩:=Nq (p+5)
 rw[hp1]at HB
 rw[hp2]at HC
 rw[hp3]at HD
 rw[hp4]at HDp
 rw[hp5]at S1
 have e1:(p:Int)+1=(p1:Int):=by omega
 have e2:(p1:Int)+1=(p2:Int):=by omega
 have e3:(p2:Int)+1=(p3:Int):=by omega
 have e4:(p3:Int)+1=(p4:Int):=by omega
 have e5:(p4:Int)+1=(p5:Int):=by omega
 have b5:p5<=800005:=by omega
 clear hby hnm hA hB hC hD hdp s1 s2 s3 s4 hb4 hf0 hkb hka hr0
 obtain⟨qI,hqI⟩:∃qI,decide (A % 2=0/\0<k)=qI:=⟨_,rfl⟩
 go_enter Tryz.func73,Tryz.ntmps73
 go_wp2_with fail
 try rw[hW0]
 clear hW0
 refine(qju (p:=p) (n:=16) hlen (by omega) (by omega) (by omega) c HBy0.u rfl rfl).mono ?_
 rintro e w' ⟨rfl,hw'⟩
 subst hw'
 rw[HA.u]
 go_wp2_with fail
 refine(qju (p:=p1) (n:=8) hlen (by omega) (by omega) (by omega) c HBy0.u rfl rfl).mono ?_
 rintro e w' ⟨rfl,hw'⟩
 subst hw'
 rw[HB.u]
 go_wp2_with fail
 refine(qju (p:=p2) (n:=8) hlen (by omega) (by omega) (by omega) c HBy0.u rfl rfl).mono ?_
 rintro e w' ⟨rfl,hw'⟩
 subst hw'
 rw[HC.u]
 go_wp2_with fail
 refine(qju (p:=p3) (n:=8) hlen (by omega) (by omega) (by omega) c HBy0.u rfl rfl).mono ?_
 rintro e w' ⟨rfl,hw'⟩
 subst hw'
 rw[HD.u]
 go_wp2_with fail
 refine(qju (p:=p4) (n:=3) hlen (by omega) (by omega) (by omega) c HBy0.u rfl rfl).mono ?_
 rintro e w' ⟨rfl,hw'⟩
 subst hw'
 rw[HDp.u]
 go_wp2_with fail
 refine(HNm.u _).mono ?_
 rintro e W1 ⟨rfl,hb⟩
 have hs1:w.heap.size+4<=W1.heap.size:=by have:=hb.size;omega
 obtain⟨X,hXe⟩:=Nq W1.heap.size
 have hbw:=HB4.u.trans (hb.mono HB4.u.size)
 have hal:=(bR W1.heap.size W1).alloc (nR _) (.cells (J0 nm typ) 42)
 have hbl:=hb.trans (hal.mono hb.size)
 have HM:Hi (FMk [.slice xl nl cl,.slice xp np cp,.slice xr nr cr,.slice xf nf cf] [.slice bx1 bn1 bk1,.slice bx2 bn2 bk2,.slice bx3 bn3 bk3] [.slice ax1 an1 ak1,.slice ax2 an2 ak2,.slice ax3 an3 ak3] X ⟨nm,typ,-1,[],[],[],[],⟨#[]⟩,[]⟩ noFA w (W1.alloc (.cells (J0 nm typ) 42))):=h_
  ⟨by rw[<- hXe];exact Blk.new W1 42 _,⟨World.ownsRow_nil _ _ _ _,World.ownsRow_nil _ _ _ _,World.ownsRow_nil _ _ _ _,World.ownsRow_nil _ _ _ _,World.ownsRow_nil _ _ _ _⟩,HB4.u.trans (hbl.mono HB4.u.size),HF0.u.mono hbl HF0.u.lt,HKb.u.mono hbl HKb.u.lt,HKa.u.mono hbl HKa.u.lt,HR0.u.mono hbl HR0.u.lt,by omega⟩
 obtain⟨W2,hW2⟩:=Nq (W1.alloc (.cells (J0 nm typ) 42))
 rw[hW2]at HM
 have HXe:=h_ hXe;have HW2:=h_ hW2
 clear hb hbw hal hbl HB4 HF0 HKb HKa HR0 HBy0 hXe hW2
 go_upto_region 9 with (refine q66 rfl 42 #[(0,.tmp 61),(1,.tmp 62),(2,.const (J9 (-1)))] rfl (J0 nm typ) (by kernel_rfl) ?_)
 rw[HW2.u]
 try rw[HXe.u]
 clear HW2 hs0 hs1 HXe HNm
 go_cut [70] from 64 to 69 (fun s70 wx=>s70=.bool qI/\wx=W2)
 case first =>
  by_cases hA2:A % 2=0
  . have t1:(A:Int) % 2=0:=by omega
    have t2:(A:Int).tmod 2=0:=(by rw[show(A:Int).tmod 2=(A:Int) % 2 from rfl];exact t1);by_cases hk0:0<k
    . have t3:(0:Int)<k:=by omega
      obtain rfl:qI=true:=(by rw[<- hqI];exact Ym ⟨hA2,hk0⟩);go_wp2_with fail;go_meet;exact⟨rfl,rfl⟩
    . have t3:¬ (0:Int)<k:=by omega
      obtain rfl:qI=false:=(by rw[<- hqI];exact Yi fun h=>hk0 h.2);go_wp2_with fail;go_meet;exact⟨rfl,rfl⟩
  . have t1:¬ (A:Int) % 2=0:=by omega
    have t2:¬ (A:Int).tmod 2=0:=(by rw[show(A:Int).tmod 2=(A:Int) % 2 from rfl];exact t1);obtain rfl:qI=false:=(by rw[<- hqI];exact Yi fun h=>hA2 h.1);go_wp2_with fail;go_meet;exact⟨rfl,rfl⟩
 case rest =>
  obtain⟨rfl,hwc⟩:=hcut;subst hwc;go_upto_if 70 with fail
  go_cut [1,22,23,24] from 71 to 111 (fun s1 _ _ _ wx=>s1=J9 q1/\∃A1,FMk [.slice xl nl cl,.slice xp np cp,.slice xr nr cr,.slice xf nf cf] [.slice bx1 bn1 bk1,.slice bx2 bn2 bk2,.slice bx3 bn3 bk3] [.slice ax1 an1 ak1,.slice ax2 an2 ak2,.slice ax3 an3 ak3] X g1 A1 w wx)
  case first =>
   have hm:=HM.u;rcases S1.u with ⟨h1,h2,l,hg,hg1⟩ | ⟨h1,hq1,hg1⟩
   . obtain rfl:qI=true:=by rw[<- hqI];exact Ym ⟨h1,h2⟩
     have HG:=h_ (hg.2.2.2.2.2 wc a c _ (HBy.u.mono hm.bl) (HPb.u.mono hm.bl));obtain⟨z0,z1,z2⟩:=three hm.kb;clear hg h1 h2;go_wp2_with fail;refine HG.u.mono ?_;rintro e W3 ⟨v,rfl,ho,hb⟩;obtain⟨vi,vc,rfl,-⟩:=ho.nods;have hm3:=hm.mono hb;have HM3:=h_ (hm3.put 4 (.slice vi l.length vc) (g':=g1) (A':={ noFA with i:=vi,ic:=vc }) (by rw[hg1];rfl) (by rw[hg1];exact⟨hm3.ow.b,ho.low hm.bl.size,hm3.ow.h,hm3.ow.v,hm3.ow.u⟩));have c4:=hm3.bx.cell 4;have f4:=hm3.bx.free 4;clear hb ho hm hm3 z0 z1 z2;go_wp2_with fail;go_meet;exact⟨rfl,_,HM3.u⟩
   . obtain rfl:qI=false:=by rw[<- hqI];exact Yi h1
     have HBc:=h_ (HBy.u.mono hm.bl);have e6:(p5:Int)+1=(q1:Int):=(by omega);clear hq1;obtain⟨z0,z1,z2,z3⟩:=quad hm.f0;clear h1;go_wp2_with fail;refine(qju (p:=p5) (n:=nl) hlen (by omega) (by omega) (by omega) c HBc.u rfl rfl).mono ?_;rintro e w' ⟨rfl,hw'⟩;subst hw';have c2:=hm.bx.cell 2;have f2:=hm.bx.free 2;have HM3:Hi (FMk [.slice xl nl cl,.slice xp np cp,.slice xr nr cr,.slice xf nf cf] [.slice bx1 bn1 bk1,.slice bx2 bn2 bk2,.slice bx3 bn3 bk3] [.slice ax1 an1 ak1,.slice ax2 an2 ak2,.slice ax3 an3 ak3] X ⟨nm,typ,((tkD len f p5 nl:Nat):Int),[],[],[],[],⟨#[]⟩,[]⟩ noFA w (w'.setCell ⟨X,2,none⟩ (J9 ((tkD len f p5 nl:Nat):Int)))):=h_ (hm.put 2 (J9 ((tkD len f p5 nl:Nat):Int)) rfl ⟨hm.ow.b,hm.ow.i,hm.ow.h,hm.ow.v,hm.ow.u⟩);obtain⟨own,hown⟩:=Nq (tkD len f p5 nl);rw[hown]at HM3 hg1;have hh:∃h:Nat,A / 2=h:=⟨_,rfl⟩;obtain⟨h,hh⟩:=hh;have hh1:(A:Int) / 2=(h:Int):=(by omega);have hh2:(A:Int).tdiv 2=(h:Int):=(by rw[show(A:Int).tdiv 2=(A:Int) / 2 from rfl];exact hh1);have HHh:=h_ hh;have HG1:=h_ hg1;rw[hown];clear hm z0 z1 z2 z3 hown hh hg1;go_wp2_with fail;clear c2 f2;go_loopw [24] (fun i wr=>∃r:Nat,r<=nr/\i=J9 r/\∃A2,FMk [.slice xl nl cl,.slice xp np cp,.slice xr nr cr,.slice xf nf cf] [.slice bx1 bn1 bk1,.slice bx2 bn2 bk2,.slice bx3 bn3 bk3] [.slice ax1 an1 ak1,.slice ax2 an2 ak2,.slice ax3 an3 ak3] X ⟨nm,typ,(own:Int),byL A r,[],[],[],⟨#[]⟩,[]⟩ A2 w wr) (fun i _=>nr - (intOf i).toNat)
     case atStart=>exact⟨0,nZ _,rfl,_,HM3.u⟩
     case round =>
      clear HM3;obtain⟨r,hr,rfl,A2,hm⟩:=hrel;obtain⟨z0,z1,z2,z3⟩:=quad hm.f0;by_cases hlt:r<nr
      . have hlt':(r:Int)<nr:=by omega
        obtain⟨m4,hm4⟩:=Nq ((h+r) % 4);have m1:((h:Int)+(r:Int)) % 4=(m4:Int):=(by omega);have m2:((h:Int)+(r:Int)).tmod 4=(m4:Int):=(by rw[show((h:Int)+(r:Int)).tmod 4=((h:Int)+(r:Int)) % 4 from Int.tmod_eq_emod_of_nonneg (by omega)];exact m1);have HSc:Hi (byL A (r+1)=byL A r++if m4=0 then [] else [(r:Int)]):=h_ (by show byL A r++_=_;rw[HHh.u,hm4]);by_cases h0:m4=0
        . have h0':((m4:Int)==0)=true:=by simp[h0]
          rw[Yy h0,Zr]at HSc;have HMr:=h_ hm;rw[<- HSc.u]at HMr;clear hm hm4 h0 HSc;go_wp2_with fail;go_roundw
          case rel=>first | exact⟨r+1,by omega,by go_num,_,HMr.u⟩ | ((repeat apply Exists.intro);exact⟨⟨r+1,by omega,by go_num,_,HMr.u⟩,rfl⟩)
          case measure=>simp[intOf];omega
        . have h0':((m4:Int)==0)=false:=Yf.2 (by omega)
          rw[Yu h0]at HSc;have hal:=(bR wr.heap.size wr).alloc (nR _) (.cells #[J9 (r:Int)] 3);have hm3:=hm.mono hal;have HN:Hi (Blk _ _ 3 [J9 (r:Int)]):=h_ (Blk.new wr 3 #[J9 (r:Int)]);have HM3:=h_ hm3;have c3:=hm.bx.cell 3;simp only[fCs,Yh,Yo]at c3;have hbl:=qfy A r;have hsz:w.heap.size<=(wr.alloc (.cells #[J9 (r:Int)] 3)).heap.size:=hm3.bl.size;clear hm hm3 hal h0;go_wp2_with (at_builtin;refine qc1 (n:=(r:Int)) rfl _ _ rfl rfl (show OwI _ w.heap.size (.slice A2.b (byL A r).length A2.bc) (byL A r) from HM3.u.ow.b) rfl HN.u (show(byL A r).length+1<=2097152 by omega) hsz ?_);intro v' W4 ho hgr hb4;obtain⟨b',c',ev',-,-⟩:=q8b ho;subst ev';have el:(byL A r++[(r:Int)]).length=(byL A r).length+1:=(by simp);have ho':OwI W4 w.heap.size (.slice b' (byL A r++[(r:Int)]).length c') (byL A r++[(r:Int)]):=by
           show W4.ownsRow _ _ _ _ (byL A r++[(r:Int)]).length _;rw[el];exact ho
          have HM4:=h_ (HM3.u.by ho' hgr hb4);have bx4:=(hgr.block _ HM3.u.bx.lt (fun e=>qdq HM3.u.ow.b HM3.u.bx (by decide) e.symm)).trans HM3.u.bx;have bx5:Blk W4 X 42 _:=bx4;have d3:=bx5.cell 3;have f3:=bx5.free 3;simp only[fCs,Yh,Yo]at d3;dsimp only at HM4;rw[el]at HM4;rw[<- HSc.u]at HM4;clear ho ho' el hgr hb4 bx4 bx5 c3 HSc;go_wp2_with fail;go_roundw
          case rel=>first | exact⟨r+1,by omega,by go_num,_,HM4.u⟩ | ((repeat apply Exists.intro);exact⟨⟨r+1,by omega,by go_num,_,HM4.u⟩,rfl⟩)
          case measure=>simp[intOf];omega
      . obtain rfl:r=nr:=by omega
        have hlt':¬ (r:Int)<(r:Int):=(by omega);have HMr:=h_ hm;clear hm;go_wp2_with fail;go_meet;rw[HG1.u];exact⟨rfl,_,HMr.u⟩
  case rest =>
   obtain⟨rfl,A1,hm⟩:=hcut;have HM1:=h_ hm;clear hm HM S1 hqI HA;obtain⟨qW,hqW⟩:=Nq (decide (B<3/\0<k));go_upto_region 21 with fail
   go_cut [117] from 112 to 116 (fun s117 wx=>s117=.bool qW/\wx=wc)
   case first =>
    by_cases hB3:B<3
    . have t1:(B:Int)<3:=by omega
      by_cases hk0:0<k
      . have t3:(0:Int)<k:=by omega
        obtain rfl:qW=true:=(by rw[<- hqW];exact Ym ⟨hB3,hk0⟩);go_wp2_with fail;go_meet;exact⟨rfl,rfl⟩
      . have t3:¬ (0:Int)<k:=by omega
        obtain rfl:qW=false:=(by rw[<- hqW];exact Yi fun h=>hk0 h.2);go_wp2_with fail;go_meet;exact⟨rfl,rfl⟩
    . have t1:¬ (B:Int)<3:=by omega
      obtain rfl:qW=false:=(by rw[<- hqW];exact Yi fun h=>hB3 h.1);go_wp2_with fail;go_meet;exact⟨rfl,rfl⟩
   case rest =>
    obtain⟨rfl,hwc⟩:=hcut;subst hwc;go_upto_if 117 with fail
    go_cut [1,25] from 118 to 135 (fun s1 _ wx=>s1=J9 q2/\∃A2,FMk [.slice xl nl cl,.slice xp np cp,.slice xr nr cr,.slice xf nf cf] [.slice bx1 bn1 bk1,.slice bx2 bn2 bk2,.slice bx3 bn3 bk3] [.slice ax1 an1 ak1,.slice ax2 an2 ak2,.slice ax3 an3 ak3] X g2 A2 w wx)
    case first =>
     have hm:=HM1.u;rcases S2.u with ⟨h1,h2,l,hg,hg1⟩ | ⟨h1,rfl,rfl⟩
     . obtain rfl:qW=true:=by rw[<- hqW];exact Ym ⟨h1,h2⟩
       have hl64:l.length<=64:=Ys hg.2.2.1 (Z9 (by omega) (show d<=3 by omega));have HG:=h_ (hg.2.2.2.2.2 wc a c _ (HBy.u.mono hm.bl) (HPb.u.mono hm.bl));obtain⟨z0,z1,z2⟩:=three hm.kb;have HG1:=h_ hg1;clear hg h1 h2 hg1 hm;go_wp2_with fail;refine HG.u.mono ?_;rintro e W3 ⟨v,rfl,ho,hb⟩;have HO:=h_ ho;have HB3:=h_ hb;clear ho hb z0 z1 z2 HG;by_cases hB2:B<2
       . have hB2':(B:Int)<2:=by omega
         rw[Yy hB2]at HG1;clear hB2;go_wp2_with fail;refine(q7e _ _).mono ?_;rintro e w4 ⟨rfl,hb4⟩;replace HO:=h_ (HO.u.keep hb4);replace HB3:=mT HB3 hb4;clear hb4;go_wp2_with fail;refine(q52 _ _ _ _).mono ?_;rintro e w4 ⟨rfl,hb4⟩;replace HO:=h_ (HO.u.keep hb4);replace HB3:=mT HB3 hb4;clear hb4;go_wp2_with fail;refine(q3t _ _).mono ?_;rintro e w4 ⟨rfl,hb4⟩;replace HO:=h_ (HO.u.keep hb4);replace HB3:=mT HB3 hb4;clear hb4;have HN:Hi (Blk _ _ 96 (nC nTrue++nC nElse)):=h_ (Blk.new w4 96 (nC nTrue++nC nElse).toArray);have HS:=h_ ((bR w4.heap.size w4).alloc (nR _) (.cells (nC nTrue++nC nElse).toArray 96));replace HO:=h_ (HO.u.keep HS.u);replace HB3:=h_ (HB3.u.trans (HS.u.mono HB3.u.size));go_wp2_with (at_builtin;refine q6b rfl _ _ rfl rfl HO.u rfl HN.u (by omega) HB3.u.size ?_);intro v2 W5 ho hb9;obtain⟨l',hl'⟩:=Nq (l++[nTrue,nElse]);rw[hl']at ho HG1;obtain⟨vi,vc,rfl,-⟩:=ho.nods;have hm3:=HM1.u.mono (HB3.u.trans hb9);have HM3:=h_ (hm3.put 5 (.slice vi l'.length vc) (g':=g2) (A':={ A1 with h:=vi,hc:=vc }) (by rw[HG1.u];rfl) (by rw[HG1.u];exact⟨hm3.ow.b,hm3.ow.i,ho.low HM1.u.bl.size,hm3.ow.v,hm3.ow.u⟩));have c5:=hm3.bx.cell 5;have f5:=hm3.bx.free 5;clear ho hb9 HN HS hm3 HO HB3 hl' HG1;go_wp2_with fail;go_meet;exact⟨rfl,_,HM3.u⟩
       . have hB2':¬ (B:Int)<2:=by omega
         rw[Yu hB2]at HG1;clear hB2;have ho:=HO.u;obtain⟨vi,vc,rfl,-⟩:=ho.nods;have hm3:=HM1.u.mono HB3.u;have HM3:=h_ (hm3.put 5 (.slice vi l.length vc) (g':=g2) (A':={ A1 with h:=vi,hc:=vc }) (by rw[HG1.u];rfl) (by rw[HG1.u];exact⟨hm3.ow.b,hm3.ow.i,ho.low HM1.u.bl.size,hm3.ow.v,hm3.ow.u⟩));have c5:=hm3.bx.cell 5;have f5:=hm3.bx.free 5;clear ho hm3 HO HB3 HG1;go_wp2_with fail;go_meet;exact⟨rfl,_,HM3.u⟩
     . obtain rfl:qW=false:=by rw[<- hqW];exact Yi h1
       clear h1 hm;go_wp2_with fail;go_meet;exact⟨rfl,_,HM1.u⟩
    case rest =>
     obtain⟨rfl,A2,hm⟩:=hcut;have HM2:=h_ hm;clear hm HM1 S2 hqW HB;go_upto_if 137 with fail
     go_cut [1,26] from 137 to 152 (fun s1 _ wx=>s1=J9 q3/\∃A3,FMk [.slice xl nl cl,.slice xp np cp,.slice xr nr cr,.slice xf nf cf] [.slice bx1 bn1 bk1,.slice bx2 bn2 bk2,.slice bx3 bn3 bk3] [.slice ax1 an1 ak1,.slice ax2 an2 ak2,.slice ax3 an3 ak3] X g3 A3 w wx)
     case first =>
      have hm:=HM2.u;rcases S3.u with ⟨h1,l,sw,hg,hsw,hcw,hg1⟩ | ⟨h1,rfl,rfl⟩
      . have hC3:(C:Int)<3:=by omega
        have HG:=h_ (hg.2.2.2.2.2 wc a c _ (HBy.u.mono hm.bl) (HPa.u.mono hm.bl));obtain⟨z0,z1,z2⟩:=three hm.ka;have HG1:=h_ hg1;have HCw:=h_ hcw;clear hg h1 hg1 hm hsw hcw;go_wp2_with fail;refine HG.u.mono ?_;rintro e W3 ⟨v,rfl,ho,hb⟩;obtain⟨vi,vc,rfl,-⟩:=ho.nods;have hm3:=HM2.u.mono hb;have HM3:=h_ (hm3.put 6 (.slice vi l.length vc) (g':={ g2 with va:=l }) (A':={ A2 with v:=vi,vc:=vc }) rfl ⟨hm3.ow.b,hm3.ow.i,hm3.ow.h,ho.low HM2.u.bl.size,hm3.ow.u⟩);have c6:=hm3.bx.cell 6;have f6:=hm3.bx.free 6;clear hb ho hm3 z0 z1 z2 HG;go_wp2_with fail;refine(HCw.u _).mono ?_;rintro e W5 ⟨rfl,hw5⟩;rw[<- hw5]at HM3;have hm5:=HM3.u;have HM5:=h_ (hm5.put 7 (.string sw) (g':=g3) (A':={ A2 with v:=vi,vc:=vc }) (by rw[HG1.u];rfl) (by rw[HG1.u];exact⟨hm5.ow.b,hm5.ow.i,hm5.ow.h,hm5.ow.v,hm5.ow.u⟩));have c7:=hm5.bx.cell 7;have f7:=hm5.bx.free 7;clear hm5 HM3 hw5 c6 f6 HG1;go_wp2_with fail;go_meet;exact⟨rfl,_,HM5.u⟩
      . have hC3:¬ (C:Int)<3:=by omega
        clear h1 hm;go_wp2_with fail;go_meet;exact⟨rfl,_,HM2.u⟩
     case rest =>
      obtain⟨rfl,A3,hm⟩:=hcut;have HM3:=h_ hm;clear hm HM2 S3 HC;go_upto_if 154 with fail
      go_cut [1,27] from 154 to 165 (fun s1 _ wx=>s1=J9 q4/\∃g A4,FMk [.slice xl nl cl,.slice xp np cp,.slice xr nr cr,.slice xf nf cf] [.slice bx1 bn1 bk1,.slice bx2 bn2 bk2,.slice bx3 bn3 bk3] [.slice ax1 an1 ak1,.slice ax2 an2 ak2,.slice ax3 an3 ak3] X g A4 w wx/\((D=2/\g4 = { g with mu:=[nTrue] })∨(D≠2/\g=g4)))
      case first =>
       have hm:=HM3.u;have hS4:=S4.u;have hl:(D<2/\∃l,GenE KA len f (d - 1) q3 2 l q4/\g4 = { g3 with mu:=l })∨(¬ D<2/\q4=q3/\((D=2/\g4 = { g3 with mu:=[nTrue] })∨(D≠2/\g3=g4))):=by
        rcases hS4 with h | ⟨h1,h2,h3⟩ | ⟨h1,h2,h3⟩
        . exact .inl h
        . exact .inr ⟨by omega,h2,.inl ⟨h1,h3⟩⟩
        . exact .inr ⟨by omega,h2,.inr ⟨by omega,h3.symm⟩⟩
       clear hS4;rcases hl with ⟨h1,l,hg,hg1⟩ | ⟨h1,rfl,hz⟩
       . have hD2:(D:Int)<2:=by omega
         have e7:(d:Int) - 1=(dp:Int):=(by omega);rw[show d - 1=dp by omega]at hg;have HG:=h_ (hg.2.2.2.2.2 wc a c _ (HBy.u.mono hm.bl) (HPa.u.mono hm.bl));obtain⟨z0,z1,z2⟩:=three hm.ka;have HG1:=h_ hg1;have HD2:Hi (D≠2):=h_ (by omega);clear hg h1 hg1 hm;go_wp2_with fail;refine HG.u.mono ?_;rintro e W3 ⟨v,rfl,ho,hb⟩;obtain⟨vi,vc,rfl,-⟩:=ho.nods;have hm3:=HM3.u.mono hb;have HM4:=h_ (hm3.put 8 (.slice vi l.length vc) (g':=g4) (A':={ A3 with u:=vi,uc:=vc }) (by rw[HG1.u];rfl) (by rw[HG1.u];exact⟨hm3.ow.b,hm3.ow.i,hm3.ow.h,hm3.ow.v,ho.low HM3.u.bl.size⟩));have c8:=hm3.bx.cell 8;have f8:=hm3.bx.free 8;clear hb ho hm3 z0 z1 z2 HG HG1;go_wp2_with fail;go_meet;exact⟨rfl,_,_,HM4.u,.inr ⟨HD2.u,rfl⟩⟩
       . have hD2:¬ (D:Int)<2:=by omega
         have HZ:=h_ hz;clear h1 hm hz;go_wp2_with fail;go_meet;exact⟨rfl,_,_,HM3.u,HZ.u⟩
      case rest =>
       obtain⟨rfl,g,A4,hm,hz⟩:=hcut;have HM4:=h_ hm;clear hm HM3 S4 HD;have fin:∃A5,True:=⟨A4,trivial⟩;rcases hz with ⟨rfl,hg4⟩ | ⟨hD2,rfl⟩
       . have HG4:=h_ hg4
         clear hg4;go_wp2_with fail;refine(q7e _ _).mono ?_;rintro e w4 ⟨rfl,hb4⟩;replace HM4:=h_ (HM4.u.mono hb4);clear hb4;go_wp2_with fail;refine(q52 _ _ _ _).mono ?_;rintro e w4 ⟨rfl,hb4⟩;replace HM4:=h_ (HM4.u.mono hb4);clear hb4;have HON:=h_ (OwnN.lone w4 nTrue);have hal:=(bR w4.heap.size w4).alloc (nR _) (.cells (Jf nTrue) 96);have hm5:=HM4.u.mono hal;obtain⟨A5,hA5⟩:∃A5:FA,{ A4 with u:=some ⟨w4.heap.size,0,none⟩,uc:=1 } = A5:=⟨_,rfl⟩;have HM5:=h_ (hm5.put 8 (.slice (some ⟨w4.heap.size,0,none⟩) 1 1) (g':=g4) (A':=A5) (by rw[HG4.u,<- hA5];rfl) (by rw[HG4.u,<- hA5];exact⟨hm5.ow.b,hm5.ow.i,hm5.ow.h,hm5.ow.v,HON.u.low HM4.u.bl.size⟩));have c8:=hm5.bx.cell 8;have f8:=hm5.bx.free 8;obtain⟨W5,hW5⟩:=Nq ((w4.alloc (.cells (Jf nTrue) 96)).setCell ⟨X,8,none⟩ (.slice (some ⟨w4.heap.size,0,none⟩) 1 1));rw[hW5]at HM5;dsimp only[nTrue]at hW5 c8 f8;have HW5:=h_ hW5;clear hal hm5 HON HG4 hA5 hW5;go_upto_region 38 with fail
         rw[HW5.u];clear HW5 c8 f8 HM4;obtain⟨y0,y1,y2,y3,y4,y5,y6,y7,y8⟩:=nine HM5.u.bx;have HR:=h_ (HM5.u.r0.row (fCs g4 A5));have HBw:=h_ (below_setRow HM5.u.bl (show w.heap.size<=w.heap.size+1+1+1 by omega) (fCs g4 A5).toArray);have HOw:=h_ (HM5.u.ow.one HM5.u.r0 (by decide) (by decide) (fun q hq=>setRow_other W5 (w.heap.size+1+1+1) q (fCs g4 A5).toArray hq));go_wp2_with (refine wpList_store_row rfl 42 (.tmp 14) (.tmp 172) rfl (w.heap.size+1+1+1) (fCs g4 A5).toArray rfl rfl 42 (fCs noFl noFA).toArray HM5.u.r0 (by kernel_rfl) rfl (by simp[fCs,Value.oneCell']) ?_);clear y0 y1 y2 y3 y4 y5 y6 y7 y8;obtain⟨x0,x1,x2,x3,x4,x5,x6,x7,x8⟩:=nine HR.u;exact bodyPost_ret (v:=.tuple #[fV g4 A5,J9 q4]) (by simp[results,Tryz.results73,go_sem,fV,x0,x1,x2,x3,x4,x5,x6,x7,x8]) rfl ⟨A5,rfl,HOw.u,HBw.u⟩
       . have hD2':((D:Int)==2)=false:=Yf.2 (by omega)
         clear hD2;obtain⟨y0,y1,y2,y3,y4,y5,y6,y7,y8⟩:=nine HM4.u.bx;have HR:=h_ (HM4.u.r0.row (fCs g A4));have HBw:=h_ (below_setRow HM4.u.bl (show w.heap.size<=w.heap.size+1+1+1 by omega) (fCs g A4).toArray);have HOw:=h_ (HM4.u.ow.one HM4.u.r0 (by decide) (by decide) (fun q hq=>setRow_other wc (w.heap.size+1+1+1) q (fCs g A4).toArray hq));go_wp2_with (refine wpList_store_row rfl 42 (.tmp 14) (.tmp 172) rfl (w.heap.size+1+1+1) (fCs g A4).toArray rfl rfl 42 (fCs noFl noFA).toArray HM4.u.r0 (by kernel_rfl) rfl (by simp[fCs,Value.oneCell']) ?_);clear y0 y1 y2 y3 y4 y5 y6 y7 y8;obtain⟨x0,x1,x2,x3,x4,x5,x6,x7,x8⟩:=nine HR.u;exact bodyPost_ret (v:=.tuple #[fV g A4,J9 q4]) (by simp[results,Tryz.results73,go_sem,fV,x0,x1,x2,x3,x4,x5,x6,x7,x8]) rfl ⟨A4,rfl,HOw.u,HBw.u⟩
end Go.Proofs.YtebbgodlijlioaaGreatDoor
