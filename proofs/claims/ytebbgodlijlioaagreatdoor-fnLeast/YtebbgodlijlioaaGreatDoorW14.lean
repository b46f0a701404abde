import Derived.Test.YtebbgodlijlioaaGreatDoorW13
set_option maxRecDepth 100000
set_option maxHeartbeats 64000000
namespace Go.Proofs.YtebbgodlijlioaaGreatDoor
open Go Go.RowKit
def vxB (e:Nat->Nx)(m:Nat):Bool:=decide (1<=m/\m<=1000)&&((List.range m).all fun k=>okNode (e k))&&stB e m&&decide ((top e m).d<=64)&&decide ((top e m).t.size<=4000)
theorem qk4 (e:Nat->Nx)(m:Nat):vxB e m=true ↔ vEx e m:=by
 unfold vxB vEx okAll
 simp only[Yp,Yq,Y4,Zb,qjl]
 constructor
 . rintro⟨⟨⟨⟨h1,h2⟩,h3,h4⟩,h5⟩,h6⟩;exact⟨h1.1,h1.2,h2,h3,h4,h5,h6⟩
 . rintro⟨h1,h1',h2,h3,h4,h5,h6⟩;exact⟨⟨⟨⟨⟨h1,h1'⟩,h2⟩,h3,h4⟩,h5⟩,h6⟩
theorem vxB_no {e:Nat->Nx}{m:Nat}(h:¬ vEx e m):vxB e m=false:=by
 cases hb:vxB e m
 . rfl
 . exact absurd ((qk4 e m).1 hb) h
theorem q84 {n:Nx}(h:okNode n=true):n.v.s.size<=1000:=by
 unfold okNode at h
 split at h
 . simp only[Yp,Yq]at h
   have:=h.1.1.2;unfold okVal at this
   (repeat' split at this) <;> (try simp only[Yp,Yq]at this) <;> first | omega | exact(q85.1 this.2).1 | cases this
 . split at h
   . simp only[Yp,Yq]at h;omega
   . simp only[Yp,Yq]at h;omega
theorem q15 (a:Option Addr)(m c:Nat)(e:Nat->Nx)(w:World)(hm:m<=9223372036854775807)(ha:Nods w a m e)(hf:∀k,k<m->Fit (e k)) :
 Calls Tryz.prog 91 #[.slice a m c] w fun r w'=>r=.returned (.bool (vxB e m))/\Below w.heap.size w w':=by
 by_cases h1:m<1
 . rw[vxB_no fun h=>by have:=h.1;omega]
   go_enter Tryz.func91,Tryz.ntmps91;go_wp2_with fail;go_ret;exact⟨rfl,bR _ _⟩
 by_cases h2:1000<m
 . rw[vxB_no fun h=>by have:=h.2.1;omega]
   go_enter Tryz.func91,Tryz.ntmps91;go_wp2_with fail;go_ret;exact⟨rfl,bR _ _⟩
 have HA:=h_ ha;have HF:=h_ hf
 obtain⟨r,hr⟩:=Nq (vxB e m)
 rw[hr]
 have HR:=h_ hr
 clear ha hf hr
 go_enter Tryz.func91,Tryz.ntmps91
 go_wp2_with fail
 go_loopw [3] (fun i wr=>∃k:Nat,k<=m/\i=J9 k/\okAll e k/\Below w.heap.size w wr) (fun i _=>m - (intOf i).toNat)
 case atStart=>exact⟨0,nZ _,rfl,fun k hk=>absurd hk (nL _),bR _ _⟩
 case round =>
  obtain⟨k,hk,rfl,hall,hb⟩:=hrel;have HB:=h_ hb;have HL:=h_ hall;have HV:=h_ (HA.u.mono hb);clear hb hall;by_cases hlt:k<m
  . have hlt':(k:Int)<m:=by omega
    obtain⟨b,o,rfl,-,c0,c1,c2,c3,c4⟩:=HV.u k hlt;go_wp2_with fail;refine(q1v (e k) _ (HF.u k hlt)).mono ?_;rintro x w1 ⟨rfl,hb⟩;replace HB:=mT HB hb;clear hb c0 c1 c2 c3 c4;cases hg:okNode (e k)
    . have HX:Hi (r=false):=h_ (by rw[<- HR.u];exact vxB_no fun h=>by have:=h.2.2.1 k hlt;rw[hg]at this;cases this)
      go_wp2_with fail;go_ret;exact⟨qe9 HX.u.symm,HB.u⟩
    . have HN:Hi (okAll e (k+1)):=h_ fun j hj=>by
       by_cases ej:j=k
       . subst ej;exact hg
       . exact HL.u j (by omega)
      go_wp2_with fail;go_roundw
      case rel=>exact⟨k+1,by omega,by go_num,HN.u,HB.u⟩
      case measure=>simp[intOf];omega
  . obtain rfl:k=m:=by omega
    go_wp2_with fail;refine(q59 a k c e _ (by omega) HV.u).mono ?_;rintro x w1 ⟨rfl,hb⟩;replace HB:=mT HB hb;replace HV:=h_ (HV.u.mono hb);clear hb;cases hs:stB e k
    . have HX:Hi (r=false):=h_ (by rw[<- HR.u];exact vxB_no fun h=>by have:=(qjl e k).2 ⟨h.2.2.2.1,h.2.2.2.2.1⟩;rw[hs]at this;cases this)
      go_wp2_with fail;go_ret;exact⟨qe9 HX.u.symm,HB.u⟩
    obtain⟨hst,hone⟩:=(qjl e k).1 hs;have HS:=h_ hst;have HO:=h_ hone;clear hst hone hs;go_wp2_with fail;refine(q53 a k c e (by omega) k k _ (nR _) HV.u (by omega) (nR _) HS.u).mono ?_;rintro x w2 ⟨rfl,hb⟩;replace HB:=mT HB hb;replace HV:=h_ (HV.u.mono hb);clear hb;by_cases hd:64<(top e k).d
    . have hd':(64:Int)<(top e k).d:=by omega
      have HX:Hi (r=false):=h_ (by rw[<- HR.u];exact vxB_no fun h=>by have:=h.2.2.2.2.2.1;omega);clear hd;go_wp2_with fail;go_ret;exact⟨qe9 HX.u.symm,HB.u⟩
    have hd':¬ (64:Int)<(top e k).d:=(by omega);have HD:=h_ hd;clear hd;go_wp2_with fail;refine(q13 a k c e _ (by omega) HV.u (fun j hj=>q84 (HL.u j hj))).mono ?_;rintro x w3 ⟨rfl,hb⟩;replace HB:=mT HB hb;replace HV:=h_ (HV.u.mono hb);clear hb hd';by_cases hp:4000<txtSum e k
    . have hp':(4000:Int)<(txtSum e k:Int):=by omega
      have HX:Hi (r=false):=h_ (by rw[<- HR.u];exact vxB_no fun h=>by have:=h.sum (fun j hj=>(HF.u j hj).2.2.2);omega);clear hp;go_wp2_with fail;go_ret;exact⟨qe9 HX.u.symm,HB.u⟩
    have hp':¬ (4000:Int)<(txtSum e k:Int):=(by omega);clear hp;go_wp2_with fail;refine(q57 a k c e (by omega) k k (nR _) (by omega) (nR _) _ ⟨HV.u,HS.u,HL.u,HF.u⟩).mono ?_;rintro x w4 ⟨rfl,hb⟩;replace HB:=mT HB hb;clear hb hp';have HX:Hi (r=decide ((top e k).t.size<=4000)):=h_ (by
     rw[<- HR.u,Zn,qk4,Yq];exact⟨fun h=>h.2.2.2.2.2.2,fun h=>⟨by omega,by omega,HL.u,HS.u,HO.u,by have:=HD.u;omega,h⟩⟩)
    generalize (top e k).t=t at *;go_wp2_with fail;go_ret;exact⟨qe9 (by rw[HX.u,Zn];simp;omega),HB.u⟩
end Go.Proofs.YtebbgodlijlioaaGreatDoor
namespace Go.Proofs.YtebbgodlijlioaaGreatDoor
open Go
def memB (x:ByteArray)(l:List ByteArray):Bool:=l.any fun y=>decide (y=x)
theorem qdg (x:ByteArray)(l:List ByteArray):memB x l=true ↔ x∈l:=by
 unfold memB
 rw[List.any_eq_true]
 exact⟨fun⟨y,hy,e⟩=>by rw[<- Ze e];exact hy,fun h=>⟨x,h,Ym rfl⟩⟩
theorem qi3 {x:ByteArray}{l:List ByteArray}(h:¬ x∈l):memB x l=false:=by
 cases e:memB x l
 . rfl
 . exact absurd ((qdg x l).1 e) h
structure Rl where
 nm:ByteArray
 lb:Int
structure Fl where
 nm:ByteArray
 ty:Int
 lb:Int
 bys:List Int
 is:List Nx
 wh:List Nx
 va:List Nx
 sy:ByteArray
 mu:List Nx
abbrev Jo(x0:Fl)(x1:Option Addr)(x2:Nat)(x3:Option Addr)(x4:Nat)(x5:Option Addr)(x6:Nat)(x7:Option Addr)(x8:Nat)(x9:Option Addr)(x10:Nat):List Value:=[.string x0.nm,J9 x0.ty,J9 x0.lb,.slice x1 x0.bys.length x2,.slice x3 x0.is.length x4,.slice x5 x0.wh.length x6,.slice x7 x0.va.length x8,.string x0.sy,.slice x9 x0.mu.length x10]
abbrev Ja(x0:Fl)(x1:Option Addr)(x2:Nat)(x3:Option Addr)(x4:Nat)(x5:Option Addr)(x6:Nat)(x7:Option Addr)(x8:Nat)(x9:Option Addr)(x10:Nat):Array Value:=#[.string x0.nm,J9 x0.ty,J9 x0.lb,.slice x1 x0.bys.length x2,.slice x3 x0.is.length x4,.slice x5 x0.wh.length x6,.slice x7 x0.va.length x8,.string x0.sy,.slice x9 x0.mu.length x10]
structure Fm where
 L:List ByteArray
 P:List (Int × Int)
 R:List Rl
 F:List Fl
abbrev Jl(x0:Option Addr)(x1:Fm)(x2:Nat)(x3:Option Addr)(x4:Nat)(x5:Option Addr)(x6:Nat)(x7:Option Addr)(x8:Nat):List Value:=[.slice x0 x1.L.length x2,.slice x3 x1.P.length x4,.slice x5 x1.R.length x6,.slice x7 x1.F.length x8]
abbrev Jb(x0:Option Addr)(x1:Fm)(x2:Nat)(x3:Option Addr)(x4:Nat)(x5:Option Addr)(x6:Nat)(x7:Option Addr)(x8:Nat):Array Value:=#[.slice x0 x1.L.length x2,.slice x3 x1.P.length x4,.slice x5 x1.R.length x6,.slice x7 x1.F.length x8]
def noRl:Rl:=⟨⟨#[]⟩,0⟩
def noNx:Nx:=⟨0,⟨0,0,⟨#[]⟩⟩,⟨#[]⟩⟩
def nf (l:List Nx)(k:Nat):Nx:=l.getD k noNx
theorem nf_get (l:List Nx)(k:Nat)(h:k<l.length):nf l k=l[k]:=by unfold nf;rw[Yl,Yj h];rfl
def vxL (l:List Nx):Bool:=vxB (nf l) l.length
def txL (l:List Nx):ByteArray:=(top (nf l) l.length).t
def ruleOk (l:List Nx):Bool:=decide (l.length=0)||vxL l
def knows (names:List ByteArray)(l:List Nx):Bool:=l.all fun n=>!decide (n.op=1)||memB n.nm names
def namesOk (l:List ByteArray):Bool:=l.all goodN&&decide l.Nodup
def inR (n:Nat)(x:Int):Bool:=decide (0<=x/\x<n)
def bysOk (nr:Nat)(l:List Int):Bool:=l.all (inR nr)&&decide l.Nodup
def fieldOk (nl nr:Nat)(f:Fl):Bool :=
 decide (1<=f.ty/\f.ty<=3)&&decide (-1<=f.lb/\f.lb<nl)&&bysOk nr f.bys&&decide (f.is.length=0∨f.bys.length=0)&&okText f.sy&&decide (f.va.length≠0∨f.sy.size=0)&&ruleOk f.is&&ruleOk f.wh&&ruleOk f.va&&ruleOk f.mu
def fieldKnows (names:List ByteArray)(f:Fl):Bool:=knows names f.is&&knows names f.wh&&knows names f.va&&knows names f.mu
def fNames (f:Fm):List ByteArray:=f.F.map (·.nm)
def rNames (f:Fm):List ByteArray:=f.R.map (·.nm)
def sb (s:ByteArray):List UInt8:=s.data.toList
def labAt (ls:List ByteArray)(i:Int):ByteArray:=ls.getD i.toNat ⟨#[]⟩
def rolAt (rs:List Rl)(i:Int):Rl:=rs.getD i.toNat noRl
def tLab (x:ByteArray):List UInt8:=[108,97,98,101,108,32]++sb x++[59,10]
def tBel (ls:List ByteArray)(p:Int × Int):List UInt8:=[98,101,108,111,119,32]++sb (labAt ls p.1)++[32]++sb (labAt ls p.2)++[59,10]
def tRol (ls:List ByteArray)(r:Rl):List UInt8:=[114,111,108,101,32]++sb r.nm++[32,97,116,32]++sb (labAt ls r.lb)++[59,10]
def tRule (word:List UInt8)(l:List Nx):List UInt8:=if l.length=0 then [] else [32]++word++[32]++sb (txL l)
def wIs:List UInt8:=[105,115]
def wWhen:List UInt8:=[119,104,101,110]
def wValid:List UInt8:=[118,97,108,105,100]
def wMust:List UInt8:=[109,117,115,116]
def tyName (t:Int):List UInt8:=if t=1 then [105,110,116] else if t=2 then [98,111,111,108] else [116,101,120,116]
def tBy (rs:List Rl)(i:Int):List UInt8:=[32,98,121,32]++sb (rolAt rs i).nm
def tSays (f:Fl):List UInt8:=if f.va.length=0 then [] else [32,115,97,121,115,32,34]++sb f.sy++[34]
def tFldA (fm:Fm)(f:Fl):List UInt8:=[102,105,101,108,100,32]++sb f.nm++[32]++tyName f.ty++[32,97,116,32]++(if f.lb<0 then [97,117,116,111] else sb (labAt fm.L f.lb))
def tFld (fm:Fm)(f:Fl):List UInt8:=tFldA fm f++f.bys.flatMap (tBy fm.R)++tRule wIs f.is++tRule wWhen f.wh++tRule wValid f.va++tSays f++tRule wMust f.mu++[59,10]
def cT (f:Fm):List UInt8:=f.L.flatMap tLab++f.P.flatMap (tBel f.L)++f.R.flatMap (tRol f.L)++f.F.flatMap (tFld f)
def vfA (f:Fm):Bool :=
 decide (f.L.length<=32/\f.P.length<=256/\f.R.length<=64/\f.F.length<=200)&&namesOk f.L&&namesOk (rNames f)&&namesOk (fNames f)
  && (f.P.all fun p=>inR f.L.length p.1&&inR f.L.length p.2)&&(f.R.all fun r=>inR f.L.length r.lb)
  && (f.F.all fun d=>fieldOk f.L.length f.R.length d&&fieldKnows (fNames f) d)
def vfB (f:Fm):Bool:=vfA f&&decide ((cT f).length<=30000)
theorem q6z {s:ByteArray}(h:goodN s=true):s.size<=16:=by
 simp only[goodN,Yp,Yq]at h;omega
theorem qfd {l:List Nx}(h:vxL l=true):(txL l).size<=4000:=((qk4 _ _).1 h).2.2.2.2.2.2
theorem sb_len (s:ByteArray):(sb s).length=s.size:=by simp[sb]
theorem q7r {ls:List ByteArray}{i:Int}(h:namesOk ls=true):(labAt ls i).size<=16:=by
 unfold labAt
 rw[Yl]
 cases hh:ls[i.toNat]? with
 | none=>exact nZ _
 | some x =>
  simp only[namesOk,Yp,Y4]at h;exact q6z (h.1 x (List.mem_of_getElem? hh))
theorem q5x {l:List Nx}{word:List UInt8}(h:ruleOk l=true)(hw:word.length<=5):(tRule word l).length<=4010:=by
 unfold tRule
 split
 . simp
 . rename_i hl
   simp only[ruleOk,Zs,Yq]at h;have:=qfd (h.resolve_left hl);simp only[Yg,Yw,Y5,sb_len];omega
theorem q4t {α:Type}(l:List α)(g:α->List UInt8)(c:Nat)(h:∀x,x∈l->(g x).length<=c):(l.flatMap g).length<=c*l.length:=by
 induction l with
 | nil=>simp
 | cons x r ih =>
  have h1:=h x Zd;have h2:=ih fun y hy=>h y (Zu _ hy);simp only[Zo,Yg,Yw,Nat.mul_add,Nat.mul_one];omega
end Go.Proofs.YtebbgodlijlioaaGreatDoor
namespace Go.Proofs.YtebbgodlijlioaaGreatDoor
open Go Go.RowKit
def Strs (w:World)(a:Option Addr)(l:List ByteArray):Prop:=∀k (h:k<l.length),∃b o,a=some ⟨b,o,none⟩/\b<w.heap.size/\w.cell? ⟨b,o+k,none⟩=some (.string l[k])
theorem Strs.mono {w w':World}{a:Option Addr}{l:List ByteArray}(h:Strs w a l)(hb:Below w.heap.size w w'):Strs w' a l:=fun k hk=>by
 obtain⟨b,o,e,hl,hc⟩:=h k hk
 exact⟨b,o,e,Y7 hl hb.size,(hb.cell hl).trans hc⟩
def Prs (w:World)(a:Option Addr)(l:List (Int × Int)):Prop:=∀k (h:k<l.length),∃b o,a=some ⟨b,o,none⟩/\b<w.heap.size/\w.cell? ⟨b,o+k*2,none⟩=some (.int .i64 l[k].1)/\w.cell? ⟨b,o+k*2+1,none⟩=some (.int .i64 l[k].2)
theorem Prs.mono {w w':World}{a:Option Addr}{l:List (Int × Int)}(h:Prs w a l)(hb:Below w.heap.size w w'):Prs w' a l:=fun k hk=>by
 obtain⟨b,o,e,hl,hc,hd⟩:=h k hk
 exact⟨b,o,e,Y7 hl hb.size,(hb.cell hl).trans hc,(hb.cell hl).trans hd⟩
def Rls (w:World)(a:Option Addr)(l:List Rl):Prop:=∀k (h:k<l.length),∃b o,a=some ⟨b,o,none⟩/\b<w.heap.size/\w.cell? ⟨b,o+k*2,none⟩=some (.string l[k].nm)/\w.cell? ⟨b,o+k*2+1,none⟩=some (.int .i64 l[k].lb)
theorem Rls.mono {w w':World}{a:Option Addr}{l:List Rl}(h:Rls w a l)(hb:Below w.heap.size w w'):Rls w' a l:=fun k hk=>by
 obtain⟨b,o,e,hl,hc,hd⟩:=h k hk
 exact⟨b,o,e,Y7 hl hb.size,(hb.cell hl).trans hc,(hb.cell hl).trans hd⟩
def IntL (w:World)(a:Option Addr)(l:List Int):Prop:=Ints w a l.length (fun k=>l.getD k 0)
theorem IntL.mono {w w':World}{a:Option Addr}{l:List Int}(h:IntL w a l)(hb:Below w.heap.size w w'):IntL w' a l:=Ints.mono h hb
def NodL (w:World)(a:Option Addr)(l:List Nx):Prop:=Nods w a l.length (nf l)
theorem NodL.mono {w w':World}{a:Option Addr}{l:List Nx}(h:NodL w a l)(hb:Below w.heap.size w w'):NodL w' a l:=Nods.mono h hb
structure FA where
 b:Option Addr
 bc:Nat
 i:Option Addr
 ic:Nat
 h:Option Addr
 hc:Nat
 v:Option Addr
 vc:Nat
 u:Option Addr
 uc:Nat
structure FSl (w:World)(f:Fl)(A:FA):Prop where
 b:IntL w A.b f.bys
 i:NodL w A.i f.is
 h:NodL w A.h f.wh
 v:NodL w A.v f.va
 u:NodL w A.u f.mu
theorem FSl.mono {w w':World}{f:Fl}{A:FA}(h:FSl w f A)(hb:Below w.heap.size w w'):FSl w' f A:=⟨h.b.mono hb,h.i.mono hb,h.h.mono hb,h.v.mono hb,h.u.mono hb⟩
def fCs (f:Fl)(A:FA):List Value:=[.string f.nm,.int .i64 f.ty,.int .i64 f.lb,.slice A.b f.bys.length A.bc,.slice A.i f.is.length A.ic,.slice A.h f.wh.length A.hc,.slice A.v f.va.length A.vc,.string f.sy,.slice A.u f.mu.length A.uc]
def fV (f:Fl)(A:FA):Value:=.agg #[.string f.nm,.int .i64 f.ty,.int .i64 f.lb,.slice A.b f.bys.length A.bc,.slice A.i f.is.length A.ic,.slice A.h f.wh.length A.hc,.slice A.v f.va.length A.vc,.string f.sy,.slice A.u f.mu.length A.uc]
def FCel (w:World)(b o:Nat)(f:Fl)(A:FA):Prop:=b<w.heap.size/\w.cell? ⟨b,o,none⟩=some (.string f.nm)/\w.cell? ⟨b,o+1,none⟩=some (.int .i64 f.ty)/\w.cell? ⟨b,o+2,none⟩=some (.int .i64 f.lb)/\w.cell? ⟨b,o+3,none⟩=some (.slice A.b f.bys.length A.bc)/\w.cell? ⟨b,o+4,none⟩=some (.slice A.i f.is.length A.ic)/\w.cell? ⟨b,o+5,none⟩=some (.slice A.h f.wh.length A.hc)/\w.cell? ⟨b,o+6,none⟩=some (.slice A.v f.va.length A.vc)/\w.cell? ⟨b,o+7,none⟩=some (.string f.sy)/\w.cell? ⟨b,o+8,none⟩=some (.slice A.u f.mu.length A.uc)
theorem FCel.mono {w w':World}{b o:Nat}{f:Fl}{A:FA}(h:FCel w b o f A)(hb:Below w.heap.size w w'):FCel w' b o f A :=
 ⟨Y7 h.1 hb.size,(hb.cell h.1).trans h.2.1,(hb.cell h.1).trans h.2.2.1,(hb.cell h.1).trans h.2.2.2.1,(hb.cell h.1).trans h.2.2.2.2.1,(hb.cell h.1).trans h.2.2.2.2.2.1,(hb.cell h.1).trans h.2.2.2.2.2.2.1,(hb.cell h.1).trans h.2.2.2.2.2.2.2.1,(hb.cell h.1).trans h.2.2.2.2.2.2.2.2.1,(hb.cell h.1).trans h.2.2.2.2.2.2.2.2.2⟩
theorem nine {w:World}{b:Nat}{t:TypeId}{v0 v1 v2 v3 v4 v5 v6 v7 v8:Value}(h:Blk w b t [v0,v1,v2,v3,v4,v5,v6,v7,v8]) :
 w.cell? ⟨b,0,none⟩=some v0/\w.cell? ⟨b,1,none⟩=some v1/\w.cell? ⟨b,2,none⟩=some v2/\w.cell? ⟨b,3,none⟩=some v3/\w.cell? ⟨b,4,none⟩=some v4/\w.cell? ⟨b,5,none⟩=some v5/\w.cell? ⟨b,6,none⟩=some v6/\w.cell? ⟨b,7,none⟩=some v7/\w.cell? ⟨b,8,none⟩=some v8:=⟨h.cell 0,h.cell 1,h.cell 2,h.cell 3,h.cell 4,h.cell 5,h.cell 6,h.cell 7,h.cell 8⟩
def Flds (w:World)(a:Option Addr)(l:List Fl)(A:Nat->FA):Prop:=∀k (h:k<l.length),∃b o,a=some ⟨b,o,none⟩/\FCel w b (o+k*9) l[k] (A k)/\FSl w l[k] (A k)
theorem Flds.mono {w w':World}{a:Option Addr}{l:List Fl}{A:Nat->FA}(h:Flds w a l A)(hb:Below w.heap.size w w'):Flds w' a l A:=fun k hk=>by
 obtain⟨b,o,e,hc,hs⟩:=h k hk
 exact⟨b,o,e,hc.mono hb,hs.mono hb⟩
structure MA where
 l:Option Addr
 lc:Nat
 p:Option Addr
 pc:Nat
 r:Option Addr
 rc:Nat
 f:Option Addr
 fc:Nat
 fa:Nat->FA
def mV (m:Fm)(A:MA):Value:=.agg #[.slice A.l m.L.length A.lc,.slice A.p m.P.length A.pc,.slice A.r m.R.length A.rc,.slice A.f m.F.length A.fc]
structure MSl (w:World)(m:Fm)(A:MA):Prop where
 l:Strs w A.l m.L
 p:Prs w A.p m.P
 r:Rls w A.r m.R
 f:Flds w A.f m.F A.fa
theorem MSl.mono {w w':World}{m:Fm}{A:MA}(h:MSl w m A)(hb:Below w.heap.size w w'):MSl w' m A:=⟨h.l.mono hb,h.p.mono hb,h.r.mono hb,h.f.mono hb⟩
theorem quad {w:World}{b:Nat}{t:TypeId}{v0 v1 v2 v3:Value}(h:Blk w b t [v0,v1,v2,v3]) :
 w.cell? ⟨b,0,none⟩=some v0/\w.cell? ⟨b,1,none⟩=some v1/\w.cell? ⟨b,2,none⟩=some v2/\w.cell? ⟨b,3,none⟩=some v3:=⟨h.cell 0,h.cell 1,h.cell 2,h.cell 3⟩
structure FitF (f:Fl):Prop where
 nm:f.nm.size<=9223372036854775807
 sy:f.sy.size<=9223372036854775807
 bl:f.bys.length<=9223372036854775807
 il:f.is.length<=9223372036854775807
 hl:f.wh.length<=9223372036854775807
 vl:f.va.length<=9223372036854775807
 ul:f.mu.length<=9223372036854775807
 i:∀k,k<f.is.length->Fit (nf f.is k)
 h:∀k,k<f.wh.length->Fit (nf f.wh k)
 v:∀k,k<f.va.length->Fit (nf f.va k)
 u:∀k,k<f.mu.length->Fit (nf f.mu k)
structure FitM (m:Fm):Prop where
 ll:m.L.length<=9223372036854775807
 pl:m.P.length<=9223372036854775807
 rl:m.R.length<=9223372036854775807
 fl:m.F.length<=9223372036854775807
 l:∀x,x∈m.L->x.size<=9223372036854775807
 r:∀x,x∈m.R->x.nm.size<=9223372036854775807
 f:∀x,x∈m.F->FitF x
theorem eqS (a b:ByteArray):(a.toList==b.toList)=decide (a=b):=by
 rw[Zn,Yq]
 refine⟨fun h=>?_,fun h=>by rw[h];simp⟩
 have h2:=q62 h
 rw[h2,Ou]
theorem q7j (a:Option Addr)(c:Nat)(l:List ByteArray)(s:ByteArray)(w:World)(hl:l.length<=9223372036854775807)(ha:Strs w a l) :
 Calls Tryz.prog 92 #[.slice a l.length c,.string s] w fun r w'=>∃q:Int,r=.returned (J9 q)/\(q<0 ↔ ¬ s∈l)/\w'=w:=by
 have HA:=h_ ha
 clear ha
 go_enter Tryz.func92,Tryz.ntmps92
 go_wp2_with fail
 go_loopw [5] (fun i wr=>∃k:Nat,k<=l.length/\i=J9 k/\(∀j (h:j<l.length),j<k->l[j]≠s)/\wr=w) (fun i _=>l.length - (intOf i).toNat)
 case atStart=>exact⟨0,nZ _,rfl,fun j _ hj=>absurd hj (nL _),rfl⟩
 case round =>
  obtain⟨k,hk,rfl,hall,rfl⟩:=hrel;have HL:=h_ hall;clear hall;by_cases hlt:k<l.length
  . have hlt':(k:Int)<l.length:=by omega
    obtain⟨b,o,rfl,-,c0⟩:=HA.u k hlt;have he:=eqS l[k] s;by_cases hq:l[k]=s
    . have HX:Hi (((k:Int)<0) ↔ ¬ s∈l):=h_ ⟨fun h=>by omega,fun h=>absurd (hq ▸ Yk hlt) h⟩
      rw[Ym hq]at he;clear hq;generalize l[k]=t at *;go_wp2_with fail;go_ret;exact⟨_,rfl,HX.u,rfl⟩
    . have HN:Hi (∀j (h:j<l.length),j<k+1->l[j]≠s):=h_ fun j h hj=>by
       by_cases ej:j=k
       . subst ej;exact hq
       . exact HL.u j h (by omega)
      rw[Yi hq]at he;clear hq;generalize l[k]=t at *;go_wp2_with fail;go_roundw
      case rel=>exact⟨k+1,by omega,by go_num,HN.u,by first | rfl | trivial⟩
      case measure=>simp[intOf];omega
  . have hlt':¬ (k:Int)<l.length:=by omega
    go_wp2_with fail;go_ret;exact⟨_,rfl,⟨fun _ h=>by obtain⟨j,hj,e⟩:=Y2.1 h;exact HL.u j hj (by omega) e,fun _=>by omega⟩,rfl⟩
theorem qcz {names:List ByteArray}{l:List Nx}{k:Nat}(h:k<l.length)(h1:l[k].op=1)(h2:¬ l[k].nm∈names):knows names l=false:=by
 unfold knows
 rw[Vc]
 exact⟨l[k],Yk h,by simp[h1,qi3 h2]⟩
theorem qa4 {names:List ByteArray}{l:List Nx}(h:∀k (hk:k<l.length),l[k].op=1->l[k].nm∈names):knows names l=true:=by
 unfold knows
 rw[Y4]
 intro n hn
 obtain⟨k,hk,rfl⟩:=Y2.1 hn
 by_cases h1:l[k].op=1
 . simp[h1,(qdg _ _).2 (h k hk h1)]
 . simp[h1]
theorem q55 (a b:Option Addr)(c c':Nat)(l:List Nx)(names:List ByteArray)(w:World)(hl:l.length<=9223372036854775807)(hn:names.length<=9223372036854775807)(ha:NodL w a l)(hb:Strs w b names) :
 Calls Tryz.prog 53 #[.slice a l.length c,.slice b names.length c'] w fun r w'=>r=.returned (.bool (knows names l))/\w'=w:=by
 have HA:=h_ ha;have HB:=h_ hb
 clear ha hb
 obtain⟨q,hq⟩:=Nq (knows names l)
 rw[hq]
 have HQ:=h_ hq
 clear hq
 go_enter Tryz.func53,Tryz.ntmps53
 go_wp2_with fail
 go_loopw [5] (fun i wr=>∃k:Nat,k<=l.length/\i=J9 k/\(∀j (h:j<l.length),j<k->l[j].op=1->l[j].nm∈names)/\wr=w) (fun i _=>l.length - (intOf i).toNat)
 case atStart=>exact⟨0,nZ _,rfl,fun j _ hj=>absurd hj (nL _),rfl⟩
 case round =>
  obtain⟨k,hk,rfl,hall,rfl⟩:=hrel;have HL:=h_ hall;clear hall;by_cases hlt:k<l.length
  . have hlt':(k:Int)<l.length:=by omega
    obtain⟨b1,o1,rfl,-,c0,c1,c2,c3,c4⟩:=HA.u k hlt;rw[nf_get l k hlt]at c0 c1 c2 c3 c4;have HS:Hi ((l[k].op=1->l[k].nm∈names)->∀j (h:j<l.length),j<k+1->l[j].op=1->l[j].nm∈names):=h_ fun hh j h hj=>by
     by_cases ej:j=k
     . subst ej;exact hh
     . exact HL.u j h (by omega)
    have HN:Hi (l[k].op=1->¬ l[k].nm∈names->q=false):=h_ fun h1 h2=>by rw[<- HQ.u];exact qcz hlt h1 h2
    generalize l[k]=u at *;by_cases h1:u.op=1
    . rw[h1]at c0
      go_wp2_with fail;refine(q7j b c' names u.nm _ hn HB.u).mono ?_;rintro r w2 ⟨z,rfl,hz,hw⟩;replace hw:=hw.symm;subst hw;by_cases hm:u.nm∈names
      . have hz':¬ z<0:=fun h=>(hz.1 h) hm
        have HX:=h_ (HS.u fun _=>hm);clear hz hm;go_wp2_with fail;go_roundw
        case rel=>exact⟨k+1,by omega,by go_num,HX.u,by first | rfl | trivial⟩
        case measure=>simp[intOf];omega
      . have hz':z<0:=hz.2 hm
        have HX:=h_ (HN.u h1 hm);clear hz hm;go_wp2_with fail;go_ret;exact⟨qe9 HX.u.symm,rfl⟩
    . have h1':(u.op==1)=false:=Yf.2 h1
      have HX:=h_ (HS.u fun h=>absurd h h1);clear h1;go_wp2_with fail;go_roundw
      case rel=>exact⟨k+1,by omega,by go_num,HX.u,by first | rfl | trivial⟩
      case measure=>simp[intOf];omega
  . have hlt':¬ (k:Int)<l.length:=by omega
    have HX:Hi (q=true):=h_ (by rw[<- HQ.u];exact qa4 fun j hj=>HL.u j hj (by omega));go_wp2_with fail;go_ret;exact⟨qe9 HX.u.symm,rfl⟩
theorem q3v (a:Option Addr)(c:Nat)(l:List Nx)(w:World)(hl:l.length<=9223372036854775807)(ha:NodL w a l)(hf:∀k,k<l.length->Fit (nf l k)) :
 Calls Tryz.prog 52 #[.slice a l.length c] w fun r w'=>r=.returned (.bool (ruleOk l))/\Below w.heap.size w w':=by
 have hr:ruleOk l=(decide (l.length=0)||vxB (nf l) l.length):=rfl
 have HC:=h_ (q15 a l.length c (nf l) w hl ha hf)
 by_cases h0:l.length=0
 . have h0':((l.length:Int)==0)=true:=by simp[h0]
   rw[show ruleOk l=true by rw[hr,Ym h0];rfl];clear h0 hr HC ha hf;go_enter Tryz.func52,Tryz.ntmps52;go_wp2_with fail;go_ret;exact⟨rfl,bR _ _⟩
 . have h0':((l.length:Int)==0)=false:=Yf.2 (by omega)
   rw[show ruleOk l=vxB (nf l) l.length by rw[hr,Yi h0];rfl];clear h0 hr ha hf;generalize vxB (nf l) l.length=q at *;go_enter Tryz.func52,Tryz.ntmps52;go_wp2_with fail;refine HC.u.mono ?_;rintro r w2 ⟨rfl,hb⟩;have HB:=h_ hb;clear hb HC;cases q
   all_goals
    go_wp2_with fail;go_ret;exact⟨rfl,HB.u⟩
theorem q5l {l:List ByteArray}{k:Nat}(h:k<l.length)(hg:goodN l[k]=false):namesOk l=false:=by
 unfold namesOk
 rw[show l.all goodN=false from Vc.2 ⟨l[k],Yk h,by simp[hg]⟩]
 rfl
theorem q2r {l:List ByteArray}{k j:Nat}(h:k<l.length)(hj:j<k)(he:l[k]=l[j]):namesOk l=false:=by
 unfold namesOk
 rw[Yi (fun hn=>?_),Ol]
 have:=Ve.1 hn j k (by omega) h hj
 exact this he.symm
theorem q5m {l:List ByteArray}(h1:∀k (h:k<l.length),goodN l[k]=true)(h2:∀k (h:k<l.length) j (hj:j<k),l[k]≠l[j]):namesOk l=true:=by
 unfold namesOk
 rw[Yp,Y4,Yq]
 refine⟨fun x hx=>?_,Ve.2 fun i j hi hj hij he=>h2 j hj i hij he.symm⟩
 obtain⟨k,hk,rfl⟩:=Y2.1 hx
 exact h1 k hk
theorem q1s (a:Option Addr)(c:Nat)(l:List ByteArray)(w:World)(hl:l.length<=9223372036854775807)(hs:∀x,x∈l->x.size<=9223372036854775807)(ha:Strs w a l) :
 Calls Tryz.prog 24 #[.slice a l.length c] w fun r w'=>r=.returned (.bool (namesOk l))/\Below w.heap.size w w':=by
 have HA:=h_ ha;have HS:=h_ hs
 clear ha hs
 obtain⟨q,hq⟩:=Nq (namesOk l)
 rw[hq]
 have HQ:=h_ hq
 clear hq
 go_enter Tryz.func24,Tryz.ntmps24
 go_wp2_with fail
 go_loopw [3,4] (fun i _ wr=>∃k:Nat,k<=l.length/\i=J9 k/\(∀j (h:j<l.length),j<k->goodN l[j]=true/\∀i (hi:i<j),l[j]≠l[i])/\Below w.heap.size w wr) (fun i _ _=>l.length - (intOf i).toNat)
 case atStart=>exact⟨0,nZ _,rfl,fun j _ hj=>absurd hj (nL _),bR _ _⟩
 case round =>
  obtain⟨k,hk,rfl,hall,hb0⟩:=hrel;have HL:=h_ hall;have HB:=h_ hb0;have HV:=h_ (HA.u.mono hb0);clear hall hb0;by_cases hlt:k<l.length
  . have hlt':(k:Int)<l.length:=by omega
    obtain⟨b,o,rfl,-,c0⟩:=HV.u k hlt;have hsz:=HS.u _ (Yk hlt);have HG:=h_ (q5l hlt);have HT:Hi (∀j (hj:j<k),l[k]=l[j]->namesOk l=false):=h_ fun j hj he=>q2r hlt hj he;go_wp2_with fail;refine(q1u _ _ hsz).mono ?_;rintro r w2 ⟨rfl,hw⟩;replace hw:=hw.symm;subst hw;clear c0;cases hg:goodN l[k]
    . have HX:Hi (q=false):=h_ (by rw[<- HQ.u];exact HG.u hg)
      go_wp2_with fail;go_ret;exact⟨qe9 HX.u.symm,HB.u⟩
    have HGG:=h_ hg;clear hg HG;go_wp2_with fail;go_loopw [4] (fun jv w3=>∃j:Nat,j<=k/\jv=J9 j/\(∀i (hi:i<k),i<j->l[k]≠l[i])/\Below w.heap.size w w3) (fun jv _=>k - (intOf jv).toNat)
    case atStart=>exact⟨0,nZ _,rfl,fun i _ hj=>absurd hj (nL _),HB.u⟩
    case round =>
     obtain⟨j,hj,rfl,hin,hb1⟩:=hrel;have HIN:=h_ hin;have HB1:=h_ hb1;have HBD:=h_ (hb1.drew);have HV1:=h_ (HA.u.mono hb1);clear hin hb1;by_cases hjk:j<k
     . have hjk':(j:Int)<k:=by omega
       have hjl:(j:Int)<l.length:=(by omega);obtain⟨b2,o2,e2,-,c1'⟩:=HV1.u j (by omega);cases e2;obtain⟨b3,o3,e3,-,c0⟩:=HV1.u k hlt;cases e3;have he:=eqS l[k] l[j];have HX:Hi (l[k]=l[j]->q=false):=h_ fun h=>by rw[<- HQ.u];exact HT.u j hjk h
       have HN:Hi (l[k]≠l[j]->∀i (hi:i<k),i<j+1->l[k]≠l[i]):=h_ fun h i hi hij=>by
        by_cases ei:i=j
        . subst ei;exact h
        . exact HIN.u i hi (by omega)
       obtain⟨x,hx⟩:=Nq (l[k]);obtain⟨y,hy⟩:=Nq (l[j]);by_cases hxy:l[k]=l[j]
       . rw[Ym hxy]at he
         have HX2:=h_ (HX.u hxy);rw[hx]at c0 he;rw[hy]at c1' he;clear hxy HX HN hx hy;go_wp2_with fail;go_region;go_wp2_with fail;go_ret;exact⟨qe9 HX2.u.symm,HBD.u⟩
       . rw[Yi hxy]at he
         have HN2:=h_ (HN.u hxy);rw[hx]at c0 he;rw[hy]at c1' he;clear hxy HX HN hx hy;go_wp2_with fail;go_region;go_wp2_with fail;go_roundw
         case rel=>exact⟨j+1,by omega,by go_num,HN2.u,HBD.u⟩
         case measure=>simp[intOf];omega
     . obtain rfl:j=k:=by omega
       have hjk':¬ (j:Int)<(j:Int):=(by omega);have HN:Hi (∀i (h:i<l.length),i<j+1->goodN l[i]=true/\∀m (hm:m<i),l[i]≠l[m]):=h_ fun i h hi=>by
        by_cases ei:i=j
        . subst ei;exact⟨HGG.u,fun m hm=>HIN.u m hm hm⟩
        . exact HL.u i h (by omega)
       go_wp2_with fail;go_roundw
       case rel=>first | exact⟨j+1,by omega,by go_num,HN.u,HB1.u⟩ | ((repeat apply Exists.intro);exact⟨⟨j+1,by omega,by go_num,HN.u,HB1.u⟩,rfl⟩)
       case measure=>simp[intOf];omega
  . have hlt':¬ (k:Int)<l.length:=by omega
    have HX:Hi (q=true):=h_ (by rw[<- HQ.u];exact q5m (fun i h=>(HL.u i h (by omega)).1) (fun i h j hj=>(HL.u i h (by omega)).2 j hj));go_wp2_with fail;go_ret;exact⟨qe9 HX.u.symm,HB.u⟩
end Go.Proofs.YtebbgodlijlioaaGreatDoor
