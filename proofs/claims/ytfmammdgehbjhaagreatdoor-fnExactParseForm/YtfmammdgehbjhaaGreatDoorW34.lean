import Derived.Test.YtfmammdgehbjhaaGreatDoorW33
import Derived.Defers
import Derived.Recover
import Derived.Lib.SlicesS
set_option maxRecDepth 100000
set_option maxHeartbeats 64000000
namespace Go.Proofs.YtfmammdgehbjhaaGreatDoor
open Go Go.RowKit
theorem qip (n:Int)(w:World):(Instr.typeAssert (.iface 91 (Ya n)) 20 91 false).run Tryz.prog w=.ok (Ya n) w:=by
 kernel_rfl
theorem q0o (p:Addr)(x n:Int)(w:World)(hc:w.cell? p=some (Ya x))(hz:w.frozen? p=false) :
 CallsD Tryz.prog 58 #[.pointer (some p)] (.panicking [{ v:=.iface 91 (Ya n),recovered:=false }]) w fun e u' w' =>
  e=.returned (.tuple #[])/\u'=.panicking [{ v:=.iface 91 (Ya n),recovered:=true }]/\w'=w.setCell p (Ya n):=by
 refine callsD_of_wpS Tryz.func58 rfl fun c₀ cs hu=>?_
 apply wpS_seq
 apply wpS_region
 simp[wpOpsS,go_sem,recoverD,hu,Tryz.ntmps58,Exit.thenS]
 apply wpS_seq
 apply wpS_region
 simp[wpOpsS,go_sem,Exit.thenS]
 refine wpS_cond (t:=true) (by simp[Act.eval,Array.replicate]) ?_
 simp only[if_true]
 apply wpS_region
 simp[wpOpsS,go_sem,qip,hc,hz,bodyPostS,results,Tryz.results58]
theorem q68 (p:Addr)(w:World) :
 CallsD Tryz.prog 58 #[.pointer (some p)] .returning w fun e u' w'=>e=.returned (.tuple #[])/\u'=.returning/\w'=w:=by
 refine callsD_of_wpS Tryz.func58 rfl fun c₀ cs hu=>?_
 apply wpS_seq
 apply wpS_region
 simp[wpOpsS,go_sem,recoverD,hu,Tryz.ntmps58,Exit.thenS]
 apply wpS_seq
 apply wpS_region
 simp[wpOpsS,go_sem,Exit.thenS]
 refine wpS_cond (t:=false) (by simp[Act.eval,Array.replicate]) ?_
 simp only[Vw,if_false]
 refine wpS_of_wp (wp_skip ?_)
 cases c₀
 simp_all [bodyPostS,results,Tryz.results58]
theorem q61 (caps:Array Value)(w:World)(Q:Int->World->Prop)
 (hc:Calls Tryz.prog 20 caps (w.alloc (.cells #[Ya 0] 3)) fun e w'=>(∃code:Int,Q code w'/\e=flt code/\Blk w' w.heap.size 3 [Ya 0])∨(Q 0 w'/\e=.returned (.tuple #[])/\Blk w' w.heap.size 3 [Ya 0])) :
 Calls Tryz.prog 19 #[.func (.func 20) #[] caps] w fun e w'=>∃(code:Int) (w1:World),Q code w1/\e=.returned (Ya code)/\w'=w1.setCell ⟨w.heap.size,0,none⟩ (Ya code):=by
 have hmf:∀(fn:Fn) (first cap:Array Value) (w:World),(Instr.makeFunc fn first cap).run Tryz.prog w=.ok (.func fn first cap) w:=fun _ _ _ _=>rfl
 obtain⟨W0,hW0⟩:=Nq (w.alloc (.cells #[Ya 0] 3))
 rw[hW0]at hc
 have HC:=h_ hc
 clear hc
 go_enter_defers Tryz.func19,Tryz.ntmps19
 go_wp2_with fail
 try rw[hW0]
 refine HC.u.mono ?_
 rintro e W1 (⟨code,hq,rfl,hK⟩ | ⟨hq,rfl,hK⟩)
 . have z0:=hK.cell 0
   simp only[Yp]at z0;have f0:=hK.free 0;have hK':=hK.set 0 (Ya code);have x0:=hK'.cell 0;simp only[List.set_cons_zero,Yp]at x0;clear hK hK' hW0 HC;refine leaves_cons (f:=58) (args:=#[Yd w.heap.size 0]) (by simp) (by simp[go_sem]) ?_;refine(q0o ⟨w.heap.size,0,none⟩ 0 code _ z0 f0).mono ?_;rintro e u' w'' ⟨rfl,rfl,rfl⟩;have hfin:Leaves Tryz.prog Tryz.f19 #[.func (.func 20) #[] caps,undef,Yd w.heap.size 0,.func (.func 58) #[] #[Yd w.heap.size 0],.func (.func 20) #[] caps,undef] (fun e w'=>∃(code:Int) (w1:World),Q code w1/\e=.returned (Ya code)/\w'=w1.setCell ⟨w.heap.size,0,none⟩ (Ya code)) [] (settle (.panicking [{ v:=.iface 91 (Ya code),recovered:=true }])) (W1.setCell ⟨w.heap.size,0,none⟩ (Ya code)):=by
    refine⟨Ya code,?_,code,W1,hq,rfl,rfl⟩;simp[results,Tryz.results19,go_sem,x0]
   exact hfin
 . have z0:=hK.cell 0
   simp only[Yp]at z0;have f0:=hK.free 0;have hK':=hK.set 0 (Ya 0);have x0:=hK'.cell 0;simp only[List.set_cons_zero,Yp]at x0;obtain⟨W3,hW3⟩:=Nq (W1.setCell ⟨w.heap.size,0,none⟩ (Ya 0));rw[hW3]at x0;have HQ:Hi (∃(code:Int) (w1:World),Q code w1/\Ending.returned (Ya 0)=.returned (Ya code)/\W3=w1.setCell ⟨w.heap.size,0,none⟩ (Ya code)):=h_ ⟨0,W1,hq,rfl,hW3.symm⟩;clear hK hK' hW0 HC hq;go_wp2_with fail
   try rw[hW3]
   refine leaves_cons (f:=58) (args:=#[Yd w.heap.size 0]) (by simp) (by simp[go_sem]) ?_;refine(q68 ⟨w.heap.size,0,none⟩ _).mono ?_;rintro e u' w'' ⟨rfl,rfl,rfl⟩;have hfin:Leaves Tryz.prog Tryz.f19 #[.func (.func 20) #[] caps,undef,Yd w.heap.size 0,.func (.func 58) #[] #[Yd w.heap.size 0],.func (.func 20) #[] caps,.tuple #[]] (fun e w'=>∃(code:Int) (w1:World),Q code w1/\e=.returned (Ya code)/\w'=w1.setCell ⟨w.heap.size,0,none⟩ (Ya code)) [] (settle .returning) w'':=by
    refine⟨Ya 0,?_,HQ.u⟩;simp[results,Tryz.results19,go_sem,x0]
   exact hfin
theorem qab (R:Nat)(a:Option Addr)(c:Nat)(l:List ByteArray)(w:World)(hc:RC w a l)(hcl:l.length<=c)(hy:TyT w)(hsm:Smi l)(hno:∀x,¬ PrtS l x) :
 Calls Tryz.prog 21 #[Yd R 0,.slice a l.length c] w fun e w'=>e=flt 3/\Below w.heap.size w w':=by
 have hb0:=(bR w.heap.size w).alloc (nR _) (.cells #[Yb,Ya 0,Ya 0,Yb] 94)
 have hK0:=Blk.new w 94 #[Yb,Ya 0,Ya 0,Yb]
 have HKw:=h_ hK0
 obtain⟨W0,hW0⟩:=Nq (w.alloc (.cells #[Yb,Ya 0,Ya 0,Yb] 94))
 rw[hW0]at hb0 hK0
 have hb1:=q8i hb0 (g:=w.heap.size) (nR _) #[.slice a l.length c,Ya 0,Ya 0,Yb]
 have hK1:=hK0.rowS [.slice a l.length c,Ya 0,Ya 0,Yb]
 obtain⟨X0,hX0⟩:=Nq (W0.setRow w.heap.size #[.slice a l.length c,Ya 0,Ya 0,Yb])
 rw[hX0]at hb1
 replace hK1:Blk X0 w.heap.size 94 [.slice a l.length c,Ya 0,Ya 0,Yb]:=by rw[<- hX0];exact hK1
 have hRd:Rdr w a c l X0 0 0 Yb []:=⟨hK1,⟨rfl,.inl ⟨rfl,rfl⟩⟩,hb1⟩
 have HSt:=h_ (q2m hc hcl hy hsm hRd)
 have HW0e:=h_ hW0;have HX0e:=h_ hX0;have HNo:=h_ hno
 clear hb0 hK0 hb1 hK1 hRd hW0 hX0 hc hy hsm hno
 go_enter Tryz.func21,Tryz.ntmps21
 go_upto_region 1 with (refine stR HKw.u ?_)
 rw[HW0e.u,HX0e.u]
 go_wp2_with fail
 refine HSt.u.mono ?_
 rintro e W1 (⟨x',v,hp',-⟩ | ⟨-,rfl,hb⟩)
 . exact absurd hp' (HNo.u x')
 . exact⟨rfl,rfl,hb⟩
theorem qdw (R base:Nat)(m:Fm)(P:List (Fl × FA))(last:Nat)(v1 v2 v3 v4 m0 m1 m2 m3:Value)(a:Option Addr)(c:Nat)(l:List ByteArray)(w:World)(hF:FRd w R base m P last v1 v2 v3 v4 m0 m1 m2 m3)(hv:VfB m)(hc:RC w a l)(hcl:l.length<=c)(hy:TyT w)(hkl:KdL w)(hsm:Smi l)(hla:last<=4) :
 Calls Tryz.prog 21 #[Yd R 0,.slice a l.length c] w (RfO w R base m last l):=by
 by_cases hx:∃x,PrtS l x
 . obtain⟨x,hx⟩:=hx
   exact qdv R base m P last v1 v2 v3 v4 m0 m1 m2 m3 a c l x w hF hv hc hcl hy hkl hsm hla hx
 . have hno:∀x,¬ PrtS l x:=fun x h=>hx ⟨x,h⟩
   refine(qab R a c l w hc hcl hy hsm hno).mono ?_;rintro e w' ⟨rfl,hb⟩;exact .inl ⟨3,rfl,hb,.inl ⟨hno,rfl⟩⟩
theorem q2p (R base g1:Nat)(m:Fm)(P:List (Fl × FA))(last:Nat)(v1 v2 v3 v4 m0 m1 m2 m3:Value)(a:Option Addr)(c:Nat)(l:List ByteArray)(w:World)(hF:FRd w R base m P last v1 v2 v3 v4 m0 m1 m2 m3)(hv:VfB m)(hc:RC w a l)(hcl:l.length<=c)(hy:TyT w)(hkl:KdL w)(hsm:Smi l)(hla:last<=4)(h1:Blk w g1 22 [.slice a l.length c]) :
 Calls Tryz.prog 20 #[Yd R 0,Yd g1 0] w (RfO w R base m last l):=by
 have HR:=h_ (qdw R base m P last v1 v2 v3 v4 m0 m1 m2 m3 a c l w hF hv hc hcl hy hkl hsm hla)
 have y0:=h1.cell 0
 simp only[Yp]at y0
 clear hc h1 hF hv hy hkl hsm
 go_enter Tryz.func20,Tryz.ntmps20
 go_wp2_with fail
 refine HR.u.mono ?_
 rintro e W1 (⟨code,rfl,hb,h⟩ | ⟨x,P',u1,u2,u3,u4,n0,n1,n2,n3,hx,ha,rfl,hf,hb,hsm2⟩)
 . exact⟨rfl,.inl ⟨code,rfl,hb,h⟩⟩
 . have HX:Hi (RfO w R base m last l (.returned (.tuple #[])) W1):=h_ (.inr ⟨x,P',u1,u2,u3,u4,n0,n1,n2,n3,hx,ha,rfl,hf,hb,hsm2⟩)
   clear hx ha hf hb hsm2;go_wp2_with fail
   go_end0
   exact HX.u
theorem qaq {w:World}{a:Option Addr}{l:List ByteArray}(h:Strs w a l){cap s:Nat}(hc:l.length<=cap):Strs w (if cap=s then a else a.map (·.add s)) (l.drop s):=fun k hk=>by
 rw[Vc]at hk
 obtain⟨b,o,rfl,h1,h2⟩:=h (s+k) (by omega)
 refine⟨b,o+s,?_,h1,?_⟩
 . rw[Yi (by omega)];simp[Addr.add]
 . rw[Vf,show o+s+k=o+(s+k) by omega];exact h2
theorem qar {w:World}{a:Option Addr}{l:List ByteArray}(h:Strs w a l)(cap s:Nat):Strs w (if cap=0 then a else a.map (·.add 0)) (l.take s):=fun k hk=>by
 rw[Yu]at hk
 obtain⟨b,o,rfl,h1,h2⟩:=h k (by omega)
 refine⟨b,o,?_,h1,?_⟩
 . split <;> simp[Addr.add]
 . rw[Ve];exact h2
def SgO (w:World)(sg:List (Option Addr × Nat × Nat))(L:List (List ByteArray)):Prop:=sg.length=L.length/\∀j (h:j<sg.length) (h':j<L.length),sg[j].2.1=L[j].length/\sg[j].2.1<=sg[j].2.2/\Strs w sg[j].1 L[j]
theorem SgO.snoc {w:World}{sg:List (Option Addr × Nat × Nat)}{L:List (List ByteArray)}(h:SgO w sg L){a:Option Addr}{n c:Nat}{T:List ByteArray}(hn:n=T.length)(hc:n<=c)(hs:Strs w a T):SgO w (sg++[(a,n,c)]) (L++[T]):=by
 refine⟨by rw[Yf,Yf,h.1];rfl,fun j h1 h2=>?_⟩
 by_cases hj:j<sg.length
 . rw[List.getElem_append_left hj,List.getElem_append_left (by rw[<- h.1];exact hj)]
   exact h.2 j hj _
 . have e:j=sg.length:=by rw[Yf,Va]at h1;omega
   subst e;rw[List.getElem_append_right (nR _),List.getElem_append_right (by rw[h.1];exact nR _)];simp only[Nat.sub_self,Vd,h.1];exact⟨hn,hc,hs⟩
def sgV (sg:List (Option Addr × Nat × Nat)):List Value:=sg.map fun g=>.slice g.1 g.2.1 g.2.2
theorem q7z (ts:List ByteArray):(∀t,t∈ts->t≠kSemi)∨∃T R,ts=T++kSemi :: R/\∀t,t∈T->t≠kSemi:=by
 induction ts with
 | nil=>exact .inl fun t h=>(by cases h)
 | cons a r ih =>
  by_cases ha:a=kSemi
  . exact .inr ⟨[],r,by rw[ha];rfl,fun t h=>(by cases h)⟩
  . rcases ih with h | ⟨T,R,h1,h2⟩
    . exact .inl fun t ht=>(by rcases Y9.1 ht with rfl | ht;exact ha;exact h t ht)
    . exact .inr ⟨a :: T,R,by rw[h1];rfl,fun t ht=>(by rcases Y9.1 ht with rfl | ht;exact ha;exact h2 t ht)⟩
theorem qgr:(Tryz.prog.info? 22).map (fun i=>(i.zero,i.size,i.bytes))=some (some Yb,1,24):=by kernel_rfl
theorem szS1:(sizeOf (Tryz.prog.elem 22)).run Tryz.prog=fun w=>.ok 1 w:=by
 funext w
 have he:Tryz.prog.elem 22=9:=by kernel_rfl
 obtain⟨i0,hi,hz0,hz1,hz2⟩:=info_parts qcl
 rw[he]
 simp[sizeOf,typeInfo,hi,hz1]
theorem cutS_h (a:Option Addr)(len cap hi:Nat)(h:hi<=cap)(wx:World):(Instr.slice 22 (.slice a len cap) none (some (Ya (hi:Nat))) none).run Tryz.prog wx=.ok (.slice (if cap=0 then a else a.map (·.add 0)) hi cap) wx:=by
 rw[run_slice_h wx 22 _ _ _ Tryz.underlying22 .i64 _ (by omega) (by omega),szS1]
 simp[sliced]
theorem cutS_l (a:Option Addr)(len cap lo:Nat)(h:lo<=len)(wx:World):(Instr.slice 22 (.slice a len cap) (some (Ya (lo:Nat))) none none).run Tryz.prog wx=.ok (.slice (if cap=lo then a else a.map (·.add lo)) (len - lo) (cap - lo)) wx:=by
 rw[run_slice_l wx 22 _ _ _ Tryz.underlying22 .i64 _ (by omega) (by omega),szS1]
 simp[sliced]
theorem qdq {ts:List ByteArray}(hne:ts≠[]):∃s,0<s/\s<=ts.length/\prtL ts=ts.take s :: prtL (ts.drop s)/\((Lib.idxOfS (ts.take ts.length) kSemi = -1/\s=ts.length)∨(Lib.idxOfS (ts.take ts.length) kSemi=((s - 1:Nat):Int))):=by
 rcases q7z ts with h | ⟨T,R,rfl,h⟩
 . have hl:0<ts.length:=V0.2 hne
   refine⟨ts.length,hl,nR _,?_,.inl ⟨Lib.idxOfS_miss ts ts.length kSemi fun j hj=>?_,rfl⟩⟩
   . rw[qa2 h hne,Zl,List.drop_length];rfl
   . rw[Y0,Yk hj]
     exact h _ (Ys hj)
 . have e1:(T++kSemi :: R).take (T.length+1)=T++[kSemi]:=by
    rw[show T++kSemi :: R=(T++[kSemi])++R by simp,Oe (by simp),Za (by simp)]
   have e2:(T++kSemi :: R).drop (T.length+1)=R:=by
    rw[show T++kSemi :: R=(T++[kSemi])++R by simp,Vu (by simp),Yx (by simp),Vo]
   refine⟨T.length+1,by omega,by simp,by rw[e1,e2];exact qa3 R h,.inr ?_⟩;rw[Nat.add_sub_cancel];refine Lib.idxOfS_hit _ _ T.length kSemi (by simp) (nR _) ?_ fun j hj=>?_
   . rw[Y0,Zn (nR _),Nat.sub_self];rfl
   . rw[Y0,Zk hj,Yk hj]
     exact h _ (Ys hj)
theorem q0n (a:Option Addr)(c:Nat)(ts:List ByteArray)(w:World)(hc:ts.length<=c)(hl:ts.length<=1048576)(hcb:c<=9223372036854775807)(ha:Strs w a ts) :
 Calls Tryz.prog 18 #[.slice a ts.length c] w fun r w'=>∃v sg,r=.returned v/\w'.ownsRow w.heap.size 22 1 v sg.length (sgV sg)/\SgO w sg (prtL ts)/\sg.length<=1048576/\Below w.heap.size w w':=by
 obtain⟨i0,hi0,hi1,hi2,hi3⟩:=info_parts qgr
 have HA:=h_ ha
 clear ha
 obtain⟨n,hn⟩:=Nq ts.length
 have HNn:=h_ hn
 rw[hn]at hc hl⊢
 clear hn
 go_enter Tryz.func18,Tryz.ntmps18
 go_wp2_with fail
 go_loopw [0,3] (fun v0 v3 wr=>∃(k q cq:Nat) (aq:Option Addr) (sg:List (Option Addr × Nat × Nat)) (D:List (List ByteArray)),v0=.slice aq q cq/\k+q=n/\q<=cq/\cq<=c/\Strs w aq (ts.drop k)/\SgO w sg D/\prtL ts=D++prtL (ts.drop k)/\sg.length<=k/\wr.ownsRow w.heap.size 22 1 v3 sg.length (sgV sg)/\Below w.heap.size w wr) (fun v0 _ _=>match v0 with | .slice _ q _=>q | _=>0)
 case atStart=>exact⟨0,n,c,a,[],[],rfl,by omega,hc,nR _,HA.u,⟨rfl,fun j h _=>absurd h (nL _)⟩,rfl,nR _,⟨rfl,.inl ⟨rfl,rfl⟩⟩,bR _ _⟩
 case round =>
  obtain⟨k,q,cq,aq,sg,D,rfl,hkq,hqc,hcc,hst,hsg,hpr,hsk,how,hb⟩:=hrel;have HSt:=h_ hst;have HSg:=h_ hsg;have HPr:=h_ hpr;have HO:=h_ how;have HB:=h_ hb;clear hst hsg hpr how hb;by_cases hq0:0<q
  case neg =>
   obtain rfl:q=0:=by omega
   have hq':¬ (0:Int)<((0:Nat):Int):=by omega
   have HFs:Hi (SgO w sg (prtL ts)):=h_ (by
    have h:=HPr.u;rw[Yx (by have:=HNn.u;omega),show prtL []=[] from rfl,Zi]at h;rw[h];exact HSg.u)
   obtain⟨af,cf,hvf,-⟩:=q7o HO.u;subst hvf;go_wp2_with fail;go_ret
   first | exact⟨_,sg,rfl,HO.u,HFs.u,by omega,HB.u⟩ | exact⟨_,rfl,sg,HO.u,HFs.u,by omega,HB.u⟩
  case pos =>
   have hq':(0:Int)<(q:Int):=by omega
   obtain⟨rs,hrs⟩:=Nq (ts.drop k);have hrl:rs.length=q:=by rw[<- hrs,Vc];have:=HNn.u;omega
   rw[hrs]at HSt HPr;obtain⟨s,hs0,hsl,hsp,hsi⟩:=qdq (ts:=rs) (fun e=>by rw[e]at hrl;simp at hrl;omega);rw[hrl]at hsl hsi;obtain⟨b,o,haq,-,-⟩:=HSt.u 0 (by omega);subst haq;have HIx:=h_ (Tryz.slices_Index_string b o q cq rs ⟨#[59]⟩ wr (by omega) (by omega) (fun j hj=>by
    obtain⟨b',o',e',h1,h2⟩:=HSt.u j hj;cases e';rw[Y0,Yk hj];exact(HB.u.cell h1).trans h2))
   rw[show(⟨#[59]⟩:ByteArray)=kSemi from rfl]at HIx;have HDr:Hi (ts.drop (k+s)=rs.drop s):=h_ (by rw[<- hrs,Vv]);have HSt1:=h_ (qar HSt.u cq s);have HSt2:=h_ (qaq (s:=s) HSt.u (show rs.length<=cq by omega));have hls1:(rs.take s).length=s:=by rw[Yu];omega
   have HSg2:=h_ (HSg.u.snoc (T:=rs.take s) hls1.symm (show s<=cq by omega) HSt1.u);have HPr2:Hi (prtL ts=(D++[rs.take s])++prtL (ts.drop (k+s))):=h_ (by rw[HPr.u,hsp,HDr.u];simp);clear hrs hsp hrl hls1 HSt1 HSt;obtain⟨ix,hix⟩:=Nq (Lib.idxOfS (rs.take q) kSemi);rw[hix]at HIx hsi;clear hix;obtain⟨A1,hA1⟩:∃A1,(if cq=0 then (some (⟨b,o,none⟩:Addr)) else (some (⟨b,o,none⟩:Addr)).map (·.add 0))=A1:=⟨_,rfl⟩;obtain⟨A2,hA2⟩:∃A2,(if cq=s then (some (⟨b,o,none⟩:Addr)) else (some (⟨b,o,none⟩:Addr)).map (·.add s))=A2:=⟨_,rfl⟩;have hs1:=cutS_h (some ⟨b,o,none⟩) q cq s (show s<=cq by omega);have hs2:=cutS_l (some ⟨b,o,none⟩) q cq s hsl;rw[hA1]at hs1 HSg2;rw[hA2]at hs2 HSt2;clear hA1 hA2;obtain⟨k2,hk2⟩:=Nq (k+s);rw[hk2]at HDr HPr2;rw[<- HDr.u]at HSt2;have hsz:(sg++[(A1,s,cq)]).length=sg.length+1:=by simp
   rcases hsi with ⟨rfl,hsq⟩ | hix
   all_goals
    have hnx:True:=trivial
   case inl =>
    obtain rfl:q=s:=hsq.symm;have hz1:((q:Int)==0)=false:=(by simp;omega);go_wp2_with fail;refine HIx.u.mono ?_;rintro e W1 ⟨rfl,hw1⟩;subst hw1;clear HIx;have hba:=(bR W1.heap.size W1).alloc (nR _) (.cells #[.slice A1 q cq] 22);have HOa:=h_ (q9x HO.u hba);have HBa:=mT HB hba;clear hba;go_wp2_with (at_builtin;refine wpList_append_own _ rfl _ _ 61 rfl w.heap.size 22 i0 _ 1 24 Tryz.underlying61 hi0 hi1 hi2 hi3 rfl (by omega) _ _ _ rfl HOa.u ⟨W1.heap.size,0,none⟩ 1 1 [.slice A1 q cq] rfl rfl (qbm W1 22 _) (by simp[Value.oneCell']) (by unfold maxLen;omega) (by omega) HBa.u.size ?_;intro v' W3 ho' hgr' hown');have HO3:Hi (W3.ownsRow w.heap.size 22 1 v' (sg++[(A1,q,cq)]).length (sgV (sg++[(A1,q,cq)]))):=h_ (by unfold sgV;rw[hsz,Zt];exact ho');have HB3:=h_ (HBa.u.grown hgr' HBa.u.size (fun q' e=>q7l HOa.u e));clear ho' hgr' hown';go_wp2_with fail;go_roundw
    case rel=>first | exact⟨k2,0,cq - q,A2,sg++[(A1,q,cq)],D++[rs.take q],rfl,by omega,by omega,by omega,HSt2.u,HSg2.u,HPr2.u,by omega,HO3.u,HB3.u⟩ | ((repeat apply Exists.intro);exact⟨⟨k2,0,cq - q,A2,sg++[(A1,q,cq)],D++[rs.take q],rfl,by omega,by omega,by omega,HSt2.u,HSg2.u,HPr2.u,by omega,HO3.u,HB3.u⟩,rfl⟩)
    case measure=>show 0<q;omega
   case inr =>
    obtain⟨p,hp⟩:=Nq (s - 1);rw[hp]at hix;have hps:(p:Int)+1=(s:Int):=(by omega);have hpb:p<=1048576:=(by omega);subst hix;clear hp;have hz1:((s:Int)==0)=false:=(by simp;omega);go_wp2_with fail;refine HIx.u.mono ?_;rintro e W1 ⟨rfl,hw1⟩;subst hw1;clear HIx;have hba:=(bR W1.heap.size W1).alloc (nR _) (.cells #[.slice A1 s cq] 22);have HOa:=h_ (q9x HO.u hba);have HBa:=mT HB hba;clear hba;go_wp2_with (at_builtin;refine wpList_append_own _ rfl _ _ 61 rfl w.heap.size 22 i0 _ 1 24 Tryz.underlying61 hi0 hi1 hi2 hi3 rfl (by omega) _ _ _ rfl HOa.u ⟨W1.heap.size,0,none⟩ 1 1 [.slice A1 s cq] rfl rfl (qbm W1 22 _) (by simp[Value.oneCell']) (by unfold maxLen;omega) (by omega) HBa.u.size ?_;intro v' W3 ho' hgr' hown');have HO3:Hi (W3.ownsRow w.heap.size 22 1 v' (sg++[(A1,s,cq)]).length (sgV (sg++[(A1,s,cq)]))):=h_ (by unfold sgV;rw[hsz,Zt];exact ho');have HB3:=h_ (HBa.u.grown hgr' HBa.u.size (fun q' e=>q7l HOa.u e));clear ho' hgr' hown';go_wp2_with fail;go_roundw
    case rel=>first | exact⟨k2,q - s,cq - s,A2,sg++[(A1,s,cq)],D++[rs.take s],rfl,by omega,by omega,by omega,HSt2.u,HSg2.u,HPr2.u,by omega,HO3.u,HB3.u⟩ | ((repeat apply Exists.intro);exact⟨⟨k2,q - s,cq - s,A2,sg++[(A1,s,cq)],D++[rs.take s],rfl,by omega,by omega,by omega,HSt2.u,HSg2.u,HPr2.u,by omega,HO3.u,HB3.u⟩,rfl⟩)
    case measure=>show q - s<q;omega
theorem q8c {names:List ByteArray}{l:List Nx}{k:Nat}(h:k<l.length)(h1:(nf l k).op=1)(h2:memB (nf l k).nm names=false):knows names l=false:=by
 unfold knows
 refine List.all_eq_false.2 ⟨l[k],Ys h,?_⟩
 rw[nf_get l k h]at h1 h2
 simp[h1,h2]
theorem q60 {names:List ByteArray}{l:List Nx}(h:∀k,k<l.length->(nf l k).op=1->memB (nf l k).nm names=true):knows names l=true:=by
 unfold knows
 refine Zh.2 fun x hx=>?_
 obtain⟨k,hk,rfl⟩:=Zo.1 hx
 have:=h k hk
 rw[nf_get l k hk]at this
 by_cases e:l[k].op=1
 . rw[this e];simp
 . rw[Yg e];rfl
theorem q14 (a:Option Addr)(c:Nat)(l:List Nx)(b:Nat)(names:List ByteArray)(w:World)(hl:l.length<=9223372036854775807)(hf:∀k,k<l.length->Fit (nf l k))(ha:NodL w a l)(hm:PMap w b names) :
 Calls Tryz.prog 71 #[.slice a l.length c,.map (some b)] w fun r w'=>r=.returned (.bool (!knows names l))/\Below w.heap.size w w':=by
 have HA:=h_ ha;have HM:=h_ hm;have HF:=h_ hf
 obtain⟨q,hq⟩:=Nq ((!knows names l))
 rw[hq]
 have HQ:=h_ hq
 clear ha hm hf hq
 go_enter Tryz.func71,Tryz.ntmps71
 go_wp2_with fail
 go_loopw [11] (fun i wr=>∃k:Nat,k<=l.length/\i=Ya k/\(∀j,j<k->(nf l j).op=1->memB (nf l j).nm names=true)/\Below w.heap.size w wr) (fun i _=>l.length - (intOf i).toNat)
 case atStart=>exact⟨0,nZ _,rfl,fun j hj=>absurd hj (nL _),bR _ _⟩
 case round =>
  obtain⟨k,hk,rfl,hall,hb⟩:=hrel;have HL:=h_ hall;have HB:=h_ hb;have HAr:=h_ (HA.u.mono hb);have HMr:=h_ (HM.u.mono hb);clear hall hb;by_cases hlt:k<l.length
  . have hlt':(k:Int)<l.length:=by omega
    obtain⟨pb,po,rfl,-,z0,z1,z2,z3,z4⟩:=HAr.u k hlt;have HX:Hi ((nf l k).op=1->memB (nf l k).nm names=false->q=true):=h_ fun h1 h2=>by rw[<- HQ.u,q8c hlt h1 h2];rfl
    have HG:Hi (((nf l k).op=1->memB (nf l k).nm names=true)->∀j,j<k+1->(nf l j).op=1->memB (nf l j).nm names=true):=h_ fun h j hj=>by
     by_cases ej:j=k
     . subst ej;exact h
     . exact HL.u j (by omega)
    have HFk:=h_ (HF.u k hlt);generalize nf l k=n at *;have HKf:=h_ (Blk.new wr 133 #[Ya n.op,Ya n.v.k,Ya n.v.n,.string n.v.s,.string n.nm]);have HBf:=h_ (HB.u.alloc HB.u.size (.cells #[Ya n.op,Ya n.v.k,Ya n.v.n,.string n.v.s,.string n.nm] 133));have hMf:=HMr.u.mono ((bR _ _).alloc (nR _) (.cells #[Ya n.op,Ya n.v.k,Ya n.v.n,.string n.v.s,.string n.nm] 133));obtain⟨Wd,hWd⟩:=Nq (wr.alloc (.cells #[Ya n.op,Ya n.v.k,Ya n.v.n,.string n.v.s,.string n.nm] 133));rw[hWd]at HKf HBf hMf;have HMf:=h_ hMf;clear hMf;obtain⟨x0,x1,x2,x3,x4⟩:=five HKf.u;by_cases h1:n.op=1
    . have h1':(n.op != 1)=false:=by rw[h1];rfl
      have h1'':(n.op==1)=true:=(by rw[h1];rfl);replace HX:=h_ (HX.u h1);have HG2:Hi (memB n.nm names=true->∀j,j<k+1->(nf l j).op=1->memB (nf l j).nm names=true):=h_ fun h=>HG.u fun _=>h;clear h1 HG;have HKy:Hi (keyOf Tryz.prog 9 (.string n.nm)=some (kl n.nm)):=h_ (WideMaps.keyOf_string_mk Tryz.underlying9 HFk.u.2.1);cases hg:memB n.nm names
      . have HX2:=h_ (HX.u hg)
        go_wp2_with (at_lookup;refine wpList_lookup_own_ok_int _ rfl _ _ 57 rfl 9 3 .i64 (Maps.string_keyed Tryz.underlying9) Tryz.underlying57 Tryz.underlying3 (Tryz.zeroValue3 _) b names.length (mp names) rfl (by first | exact HMf.u | (rw[hWd];exact HMf.u)) _ _ rfl HKy.u ?_;intro pc _ _;rw[has_mp,hg])
        try rw[hWd]
        clear hWd HMf HKy;go_ret;exact⟨qdx HX2.u.symm,HBf.u⟩
      . have HG3:=h_ (HG2.u hg)
        go_wp2_with (at_lookup;refine wpList_lookup_own_ok_int _ rfl _ _ 57 rfl 9 3 .i64 (Maps.string_keyed Tryz.underlying9) Tryz.underlying57 Tryz.underlying3 (Tryz.zeroValue3 _) b names.length (mp names) rfl (by first | exact HMf.u | (rw[hWd];exact HMf.u)) _ _ rfl HKy.u ?_;intro pc _ _;rw[has_mp,hg])
        try rw[hWd]
        clear hWd HMf HKy;go_roundw
        case rel=>first | exact⟨k+1,by omega,by go_num,HG3.u,HBf.u⟩ | ((repeat apply Exists.intro);exact⟨⟨k+1,by omega,by go_num,HG3.u,HBf.u⟩,rfl⟩)
        case measure=>simp[intOf];omega
    . have h1':(n.op != 1)=true:=by simp[h1]
      have h1'':(n.op==1)=false:=(by simp[h1]);have HG3:=h_ (HG.u fun h=>absurd h h1);clear h1 HG;go_wp2_with fail
      try rw[hWd]
      clear hWd;go_roundw
      case rel=>first | exact⟨k+1,by omega,by go_num,HG3.u,HBf.u⟩ | ((repeat apply Exists.intro);exact⟨⟨k+1,by omega,by go_num,HG3.u,HBf.u⟩,rfl⟩)
      case measure=>simp[intOf];omega
  . obtain rfl:k=l.length:=by omega
    have hlt':¬ (l.length:Int)<(l.length:Int):=(by omega);have HX:Hi (q=false):=h_ (by rw[<- HQ.u,q60 HL.u];rfl);go_wp2_with fail;go_ret;exact⟨qdx HX.u.symm,HB.u⟩
theorem q0q (f:Fl)(A:FA)(X b:Nat)(names:List ByteArray)(w:World)(hf:FitF f)(ha:FSl w f A)(hm:PMap w b names)(hX:X<w.heap.size)(hc:w.cell? ⟨X,0,none⟩=some (.map (some b))) :
 Calls Tryz.prog 69 #[fV f A,Yd X 0] w fun r w'=>r=.returned (.bool (!fieldKnows names f))/\Below w.heap.size w w':=by
 obtain⟨ab,abc,ai,aic,ah,ahc,av,avc,au,auc⟩:=A
 have HCr:=h_ fun W=>q5l f ⟨ab,abc,ai,aic,ah,ahc,av,avc,au,auc⟩ W
 obtain⟨q,hq⟩:=Nq ((!fieldKnows names f))
 rw[hq]
 have HQ:Hi ((!(knows names f.is&&knows names f.wh&&knows names f.va&&knows names f.mu))=q):=h_ hq
 unfold fV at HCr⊢
 dsimp only at HCr⊢
 have HK:=h_ (Blk.new w 52 #[.string f.nm,Ya f.ty,Ya f.lb,.slice ab f.bys.length abc,.slice ai f.is.length aic,.slice ah f.wh.length ahc,.slice av f.va.length avc,.string f.sy,.slice au f.mu.length auc])
 have HB:=h_ ((bR w.heap.size w).alloc (nR _) (.cells #[.string f.nm,Ya f.ty,Ya f.lb,.slice ab f.bys.length abc,.slice ai f.is.length aic,.slice ah f.wh.length ahc,.slice av f.va.length avc,.string f.sy,.slice au f.mu.length auc] 52))
 obtain⟨W0,hW0⟩:=Nq (w.alloc (.cells #[.string f.nm,Ya f.ty,Ya f.lb,.slice ab f.bys.length abc,.slice ai f.is.length aic,.slice ah f.wh.length ahc,.slice av f.va.length avc,.string f.sy,.slice au f.mu.length auc] 52))
 rw[hW0]at HK HB
 have HS:=h_ (ha.mono HB.u);have HM:=h_ (hm.mono HB.u);have HF:=h_ hf
 have HC:Hi (X<W0.heap.size/\W0.cell? ⟨X,0,none⟩=some (.map (some b))):=h_ ⟨Y3 hX HB.u.size,(HB.u.cell (p:=⟨X,0,none⟩) hX).trans hc⟩
 clear ha hm hf hq hX hc
 obtain⟨y0,y1,y2,y3,y4,y5,y6,y7,y8⟩:=nine HK.u
 go_enter Tryz.func69,Tryz.ntmps69
 go_wp2_with fail
 try rw[hW0]
 refine(HCr.u W0).mono ?_
 rintro r W1 ⟨rfl,hb1⟩
 replace HS:=h_ (HS.u.mono hb1);replace HM:=h_ (HM.u.mono hb1);replace HB:=mT HB hb1
 replace HC:Hi (X<W1.heap.size/\W1.cell? ⟨X,0,none⟩=some (.map (some b))):=h_ ⟨Y3 HC.u.1 hb1.size,(hb1.cell (p:=⟨X,0,none⟩) HC.u.1).trans HC.u.2⟩
 clear hW0 y0 y1 y2 y3 y4 y5 y6 y7 y8 hb1 HCr HK
 have HR:Hi (∀k:Nat,k<4->∀W,Below W1.heap.size W1 W->∃a c,(∀W',(Instr.index 107 (.agg (#[Value.slice ai f.is.length aic,.slice ah f.wh.length ahc,.slice av f.va.length avc,.slice au f.mu.length auc]:Array Value)) (Ya k)).run Tryz.prog W'=.ok (.slice a (ruleAt f k).length c) W')/\(ruleAt f k).length<=9223372036854775807/\Calls Tryz.prog 71 #[.slice a (ruleAt f k).length c,.map (some b)] W fun r w'=>r=.returned (.bool (!knows names (ruleAt f k)))/\Below W.heap.size W w'):=h_ fun k hk W hb=>by
  have S:=HS.u.mono hb;have M:=HM.u.mono hb;have F:=HF.u;obtain rfl | rfl | rfl | rfl:k=0∨k=1∨k=2∨k=3:=by omega
  . exact⟨ai,aic,fun W'=>by simp[Instr.index,run_underlying Tryz.underlying107,asIntOf,go_sem,ruleAt],F.il,q14 ai aic f.is b names W F.il F.i S.i M⟩
  . exact⟨ah,ahc,fun W'=>by simp[Instr.index,run_underlying Tryz.underlying107,asIntOf,go_sem,ruleAt],F.hl,q14 ah ahc f.wh b names W F.hl F.h S.h M⟩
  . exact⟨av,avc,fun W'=>by simp[Instr.index,run_underlying Tryz.underlying107,asIntOf,go_sem,ruleAt],F.vl,q14 av avc f.va b names W F.vl F.v S.v M⟩
  . exact⟨au,auc,fun W'=>by simp[Instr.index,run_underlying Tryz.underlying107,asIntOf,go_sem,ruleAt],F.ul,q14 au auc f.mu b names W F.ul F.u S.u M⟩
 have HX:Hi (∀k,k<4->knows names (ruleAt f k)=false->q=true):=h_ fun k hk h=>by
  rw[<- HQ.u];obtain rfl | rfl | rfl | rfl:k=0∨k=1∨k=2∨k=3:=by omega
  all_goals
   simp only[ruleAt]at h;simp at h;simp[h]
 have HY:Hi ((∀k,k<4->knows names (ruleAt f k)=true)->q=false):=h_ fun h=>by
  rw[<- HQ.u,show knows names f.is=true from h 0 (by omega),show knows names f.wh=true from h 1 (by omega),show knows names f.va=true from h 2 (by omega),show knows names f.mu=true from h 3 (by omega)];rfl
 clear HQ HF HS HM
 obtain⟨rs,hrs⟩:=Nq ((#[Value.slice ai f.is.length aic,.slice ah f.wh.length ahc,.slice av f.va.length avc,.slice au f.mu.length auc]:Array Value))
 rw[hrs]at HR⊢
 clear hrs
 go_wp2_with fail
 go_loopw [8] (fun i wr=>∃k:Nat,k<=4/\i=Ya k/\(∀j,j<k->knows names (ruleAt f j)=true)/\Below W1.heap.size W1 wr) (fun i _=>4 - (intOf i).toNat)
 case atStart=>exact⟨0,by omega,rfl,fun j hj=>absurd hj (nL _),bR _ _⟩
 case round =>
  obtain⟨k,hk,rfl,hall,hb⟩:=hrel;have HL:=h_ hall;have HB1:=h_ hb;have x0:=(hb.cell (p:=⟨X,0,none⟩) HC.u.1).trans HC.u.2;clear hall hb;by_cases hlt:k<4
  . have hlt':(k:Int)<4:=by omega
    obtain⟨a,c,hget,hlen,hC⟩:=HR.u k hlt wr HB1.u;have HCk:=h_ hC;have HF1:Hi (knows names (ruleAt f k)=false->q=true):=h_ (HX.u k hlt);have HG1:Hi (knows names (ruleAt f k)=true->∀j,j<k+1->knows names (ruleAt f j)=true):=h_ fun h j hj=>by
     by_cases ej:j=k
     . subst ej;exact h
     . exact HL.u j (by omega)
    generalize ruleAt f k=l at *;generalize knows names l=v at *;clear hC;go_wp2_with fail;refine HCk.u.mono ?_;rintro e W2 ⟨rfl,hb2⟩;have HB2:=mT HB1 hb2;clear hb2 hget x0;cases v
    . have HX2:=h_ (HF1.u rfl)
      go_wp2_with fail;go_ret;exact⟨qdx HX2.u.symm,HB.u.trans (HB2.u.mono HB.u.size)⟩
    . have HG2:=h_ (HG1.u rfl)
      go_wp2_with fail;go_roundw
      case rel=>first | exact⟨k+1,by omega,by go_num,HG2.u,HB2.u⟩ | ((repeat apply Exists.intro);exact⟨⟨k+1,by omega,by go_num,HG2.u,HB2.u⟩,rfl⟩)
      case measure=>simp[intOf];omega
  . obtain rfl:k=4:=by omega
    have HX2:Hi (q=false):=h_ (HY.u HL.u);go_wp2_with fail;go_ret;exact⟨qdx HX2.u.symm,HB.u.trans (HB1.u.mono HB.u.size)⟩
end Go.Proofs.YtfmammdgehbjhaaGreatDoor
