import Derived.Test.YtfmammdgehbjhaaGreatDoorW04
set_option maxRecDepth 100000
set_option maxHeartbeats 64000000
namespace Go.Proofs.YtfmammdgehbjhaaGreatDoor
open Go Go.RowKit
def vxB (e:Nat->Nx)(m:Nat):Bool:=decide (1<=m/\m<=1000)&&((List.range m).all fun k=>okNode (e k))&&stB e m&&decide ((top e m).d<=64)&&decide ((top e m).t.size<=4000)
theorem qjq (e:Nat->Nx)(m:Nat):vxB e m=true ↔ vEx e m:=by
 unfold vxB vEx okAll
 simp only[Yo,Yj,Zh,List.mem_range,qj1]
 constructor
 . rintro⟨⟨⟨⟨h1,h2⟩,h3,h4⟩,h5⟩,h6⟩;exact⟨h1.1,h1.2,h2,h3,h4,h5,h6⟩
 . rintro⟨h1,h1',h2,h3,h4,h5,h6⟩;exact⟨⟨⟨⟨⟨h1,h1'⟩,h2⟩,h3,h4⟩,h5⟩,h6⟩
theorem vxB_no {e:Nat->Nx}{m:Nat}(h:¬ vEx e m):vxB e m=false:=by
 cases hb:vxB e m
 . rfl
 . exact absurd ((qjq e m).1 hb) h
theorem q7i {n:Nx}(h:okNode n=true):n.v.s.size<=1000:=by
 unfold okNode at h
 split at h
 . simp only[Yo,Yj]at h
   have:=h.1.1.2;unfold okVal at this
   (repeat' split at this) <;> (try simp only[Yo,Yj]at this) <;> first | omega | exact(q7j.1 this.2).1 | cases this
 . split at h
   . simp only[Yo,Yj]at h;omega
   . simp only[Yo,Yj]at h;omega
theorem q0y (a:Option Addr)(m c:Nat)(e:Nat->Nx)(w:World)(hm:m<=9223372036854775807)(ha:Nods w a m e)(hf:∀k,k<m->Fit (e k)) :
 Calls Tryz.prog 92 #[.slice a m c] w fun r w'=>r=.returned (.bool (vxB e m))/\Below w.heap.size w w':=by
 by_cases h1:m<1
 . rw[vxB_no fun h=>by have:=h.1;omega]
   go_enter Tryz.func92,Tryz.ntmps92;go_wp2_with fail;go_ret;exact⟨rfl,bR _ _⟩
 by_cases h2:1000<m
 . rw[vxB_no fun h=>by have:=h.2.1;omega]
   go_enter Tryz.func92,Tryz.ntmps92;go_wp2_with fail;go_ret;exact⟨rfl,bR _ _⟩
 have HA:=h_ ha;have HF:=h_ hf
 obtain⟨r,hr⟩:=Nq (vxB e m)
 rw[hr]
 have HR:=h_ hr
 clear ha hf hr
 go_enter Tryz.func92,Tryz.ntmps92
 go_wp2_with fail
 go_loopw [3] (fun i wr=>∃k:Nat,k<=m/\i=Ya k/\okAll e k/\Below w.heap.size w wr) (fun i _=>m - (intOf i).toNat)
 case atStart=>exact⟨0,nZ _,rfl,fun k hk=>absurd hk (nL _),bR _ _⟩
 case round =>
  obtain⟨k,hk,rfl,hall,hb⟩:=hrel;have HB:=h_ hb;have HL:=h_ hall;have HV:=h_ (HA.u.mono hb);clear hb hall;by_cases hlt:k<m
  . have hlt':(k:Int)<m:=by omega
    obtain⟨b,o,rfl,-,c0,c1,c2,c3,c4⟩:=HV.u k hlt;go_wp2_with fail;refine(q1t (e k) _ (HF.u k hlt)).mono ?_;rintro x w1 ⟨rfl,hb⟩;replace HB:=mT HB hb;clear hb c0 c1 c2 c3 c4;cases hg:okNode (e k)
    . have HX:Hi (r=false):=h_ (by rw[<- HR.u];exact vxB_no fun h=>by have:=h.2.2.1 k hlt;rw[hg]at this;cases this)
      go_wp2_with fail;go_ret;exact⟨qdx HX.u.symm,HB.u⟩
    . have HN:Hi (okAll e (k+1)):=h_ fun j hj=>by
       by_cases ej:j=k
       . subst ej;exact hg
       . exact HL.u j (by omega)
      go_wp2_with fail;go_roundw
      case rel=>exact⟨k+1,by omega,by go_num,HN.u,HB.u⟩
      case measure=>simp[intOf];omega
  . obtain rfl:k=m:=by omega
    go_wp2_with fail;refine(q56 a k c e _ (by omega) HV.u).mono ?_;rintro x w1 ⟨rfl,hb⟩;replace HB:=mT HB hb;replace HV:=h_ (HV.u.mono hb);clear hb;cases hs:stB e k
    . have HX:Hi (r=false):=h_ (by rw[<- HR.u];exact vxB_no fun h=>by have:=(qj1 e k).2 ⟨h.2.2.2.1,h.2.2.2.2.1⟩;rw[hs]at this;cases this)
      go_wp2_with fail;go_ret;exact⟨qdx HX.u.symm,HB.u⟩
    obtain⟨hst,hone⟩:=(qj1 e k).1 hs;have HS:=h_ hst;have HO:=h_ hone;clear hst hone hs;go_wp2_with fail;refine(q50 a k c e (by omega) k k _ (nR _) HV.u (by omega) (nR _) HS.u).mono ?_;rintro x w2 ⟨rfl,hb⟩;replace HB:=mT HB hb;replace HV:=h_ (HV.u.mono hb);clear hb;by_cases hd:64<(top e k).d
    . have hd':(64:Int)<(top e k).d:=by omega
      have HX:Hi (r=false):=h_ (by rw[<- HR.u];exact vxB_no fun h=>by have:=h.2.2.2.2.2.1;omega);clear hd;go_wp2_with fail;go_ret;exact⟨qdx HX.u.symm,HB.u⟩
    have hd':¬ (64:Int)<(top e k).d:=(by omega);have HD:=h_ hd;clear hd;go_wp2_with fail;refine(q0w a k c e _ (by omega) HV.u (fun j hj=>q7i (HL.u j hj))).mono ?_;rintro x w3 ⟨rfl,hb⟩;replace HB:=mT HB hb;replace HV:=h_ (HV.u.mono hb);clear hb hd';by_cases hp:4000<txtSum e k
    . have hp':(4000:Int)<(txtSum e k:Int):=by omega
      have HX:Hi (r=false):=h_ (by rw[<- HR.u];exact vxB_no fun h=>by have:=h.sum (fun j hj=>(HF.u j hj).2.2.2);omega);clear hp;go_wp2_with fail;go_ret;exact⟨qdx HX.u.symm,HB.u⟩
    have hp':¬ (4000:Int)<(txtSum e k:Int):=(by omega);clear hp;go_wp2_with fail;refine(q54 a k c e (by omega) k k (nR _) (by omega) (nR _) _ ⟨HV.u,HS.u,HL.u,HF.u⟩).mono ?_;rintro x w4 ⟨rfl,hb⟩;replace HB:=mT HB hb;clear hb hp';have HX:Hi (r=decide ((top e k).t.size<=4000)):=h_ (by
     rw[<- HR.u,Zj,qjq,Yj];exact⟨fun h=>h.2.2.2.2.2.2,fun h=>⟨by omega,by omega,HL.u,HS.u,HO.u,by have:=HD.u;omega,h⟩⟩)
    generalize (top e k).t=t at *;go_wp2_with fail;go_ret;exact⟨qdx (by rw[HX.u,Zj];simp;omega),HB.u⟩
end Go.Proofs.YtfmammdgehbjhaaGreatDoor
namespace Go.Proofs.YtfmammdgehbjhaaGreatDoor
open Go
def memB (x:ByteArray)(l:List ByteArray):Bool:=l.any fun y=>decide (y=x)
theorem qct (x:ByteArray)(l:List ByteArray):memB x l=true ↔ x∈l:=by
 unfold memB
 rw[List.any_eq_true]
 exact⟨fun⟨y,hy,e⟩=>by rw[<- Ze e];exact hy,fun h=>⟨x,h,Yh rfl⟩⟩
theorem qhe {x:ByteArray}{l:List ByteArray}(h:¬ x∈l):memB x l=false:=by
 cases e:memB x l
 . rfl
 . exact absurd ((qct x l).1 e) h
structure Rl where
 nm:ByteArray
 lb:Int
structure Fl where
 nm:ByteArray
 ty:Int
 lb:Int
 bys:List Int
 is:List Nx
 wh:List Nx
 va:List Nx
 sy:ByteArray
 mu:List Nx
abbrev Jd(x0:Fl)(x1:Option Addr)(x2:Nat)(x3:Option Addr)(x4:Nat)(x5:Option Addr)(x6:Nat)(x7:Option Addr)(x8:Nat)(x9:Option Addr)(x10:Nat):Array Value:=#[.string x0.nm,Ya x0.ty,Ya x0.lb,.slice x1 x0.bys.length x2,.slice x3 x0.is.length x4,.slice x5 x0.wh.length x6,.slice x7 x0.va.length x8,.string x0.sy,.slice x9 x0.mu.length x10]
structure Fm where
 L:List ByteArray
 P:List (Int × Int)
 R:List Rl
 F:List Fl
def noRl:Rl:=⟨⟨#[]⟩,0⟩
def noNx:Nx:=⟨0,⟨0,0,⟨#[]⟩⟩,⟨#[]⟩⟩
def nf (l:List Nx)(k:Nat):Nx:=l.getD k noNx
theorem nf_get (l:List Nx)(k:Nat)(h:k<l.length):nf l k=l[k]:=by unfold nf;rw[Y0,Yk h];rfl
def vxL (l:List Nx):Bool:=vxB (nf l) l.length
def txL (l:List Nx):ByteArray:=(top (nf l) l.length).t
def ruleOk (l:List Nx):Bool:=decide (l.length=0)||vxL l
def knows (names:List ByteArray)(l:List Nx):Bool:=l.all fun n=>!decide (n.op=1)||memB n.nm names
def namesOk (l:List ByteArray):Bool:=l.all goodN&&decide l.Nodup
def inR (n:Nat)(x:Int):Bool:=decide (0<=x/\x<n)
def bysOk (nr:Nat)(l:List Int):Bool:=l.all (inR nr)&&decide l.Nodup
def fieldOk (nl nr:Nat)(f:Fl):Bool :=
 decide (1<=f.ty/\f.ty<=3)&&decide (-1<=f.lb/\f.lb<nl)&&bysOk nr f.bys&&decide (f.is.length=0∨f.bys.length=0)&&okText f.sy&&decide (f.va.length≠0∨f.sy.size=0)&&ruleOk f.is&&ruleOk f.wh&&ruleOk f.va&&ruleOk f.mu
def fieldKnows (names:List ByteArray)(f:Fl):Bool:=knows names f.is&&knows names f.wh&&knows names f.va&&knows names f.mu
def fNames (f:Fm):List ByteArray:=f.F.map (·.nm)
def rNames (f:Fm):List ByteArray:=f.R.map (·.nm)
def sb (s:ByteArray):List UInt8:=s.data.toList
def labAt (ls:List ByteArray)(i:Int):ByteArray:=ls.getD i.toNat ⟨#[]⟩
def rolAt (rs:List Rl)(i:Int):Rl:=rs.getD i.toNat noRl
def tLab (x:ByteArray):List UInt8:=[108,97,98,101,108,32]++sb x++[59,10]
def tBel (ls:List ByteArray)(p:Int × Int):List UInt8:=[98,101,108,111,119,32]++sb (labAt ls p.1)++[32]++sb (labAt ls p.2)++[59,10]
def tRol (ls:List ByteArray)(r:Rl):List UInt8:=[114,111,108,101,32]++sb r.nm++[32,97,116,32]++sb (labAt ls r.lb)++[59,10]
def tRule (word:List UInt8)(l:List Nx):List UInt8:=if l.length=0 then [] else [32]++word++[32]++sb (txL l)
def wIs:List UInt8:=[105,115]
def wWhen:List UInt8:=[119,104,101,110]
def wValid:List UInt8:=[118,97,108,105,100]
def wMust:List UInt8:=[109,117,115,116]
def tyName (t:Int):List UInt8:=if t=1 then [105,110,116] else if t=2 then [98,111,111,108] else [116,101,120,116]
def tBy (rs:List Rl)(i:Int):List UInt8:=[32,98,121,32]++sb (rolAt rs i).nm
def tSays (f:Fl):List UInt8:=if f.va.length=0 then [] else [32,115,97,121,115,32,34]++sb f.sy++[34]
def tFldA (fm:Fm)(f:Fl):List UInt8:=[102,105,101,108,100,32]++sb f.nm++[32]++tyName f.ty++[32,97,116,32]++(if f.lb<0 then [97,117,116,111] else sb (labAt fm.L f.lb))
def tFld (fm:Fm)(f:Fl):List UInt8:=tFldA fm f++f.bys.flatMap (tBy fm.R)++tRule wIs f.is++tRule wWhen f.wh++tRule wValid f.va++tSays f++tRule wMust f.mu++[59,10]
def cT (f:Fm):List UInt8:=f.L.flatMap tLab++f.P.flatMap (tBel f.L)++f.R.flatMap (tRol f.L)++f.F.flatMap (tFld f)
def vfA (f:Fm):Bool :=
 decide (f.L.length<=32/\f.P.length<=256/\f.R.length<=64/\f.F.length<=200)&&namesOk f.L&&namesOk (rNames f)&&namesOk (fNames f)
  && (f.P.all fun p=>inR f.L.length p.1&&inR f.L.length p.2)&&(f.R.all fun r=>inR f.L.length r.lb)
  && (f.F.all fun d=>fieldOk f.L.length f.R.length d&&fieldKnows (fNames f) d)
theorem q6n {s:ByteArray}(h:goodN s=true):s.size<=16:=by
 simp only[goodN,Yo,Yj]at h;omega
theorem qf0 {l:List Nx}(h:vxL l=true):(txL l).size<=4000:=((qjq _ _).1 h).2.2.2.2.2.2
theorem sb_len (s:ByteArray):(sb s).length=s.size:=by simp[sb]
theorem q77 {ls:List ByteArray}{i:Int}(h:namesOk ls=true):(labAt ls i).size<=16:=by
 unfold labAt
 rw[Y0]
 cases hh:ls[i.toNat]? with
 | none=>exact nZ _
 | some x =>
  simp only[namesOk,Yo,Zh]at h;exact q6n (h.1 x (List.mem_of_getElem? hh))
theorem q5k {l:List Nx}{word:List UInt8}(h:ruleOk l=true)(hw:word.length<=5):(tRule word l).length<=4010:=by
 unfold tRule
 split
 . simp
 . rename_i hl
   simp only[ruleOk,Oa,Yj]at h;have:=qf0 (h.resolve_left hl);simp only[Yf,Yl,Yw,sb_len];omega
theorem q4n {α:Type}(l:List α)(g:α->List UInt8)(c:Nat)(h:∀x,x∈l->(g x).length<=c):(l.flatMap g).length<=c*l.length:=by
 induction l with
 | nil=>simp
 | cons x r ih =>
  have h1:=h x Zd;have h2:=ih fun y hy=>h y (Zp _ hy);simp only[Vn,Yf,Yl,Nat.mul_add,Nat.mul_one];omega
end Go.Proofs.YtfmammdgehbjhaaGreatDoor
namespace Go.Proofs.YtfmammdgehbjhaaGreatDoor
open Go Go.RowKit
def Strs (w:World)(a:Option Addr)(l:List ByteArray):Prop:=∀k (h:k<l.length),∃b o,a=some ⟨b,o,none⟩/\b<w.heap.size/\w.cell? ⟨b,o+k,none⟩=some (.string l[k])
theorem Strs.mono {w w':World}{a:Option Addr}{l:List ByteArray}(h:Strs w a l)(hb:Below w.heap.size w w'):Strs w' a l:=fun k hk=>by
 obtain⟨b,o,e,hl,hc⟩:=h k hk
 exact⟨b,o,e,Y3 hl hb.size,(hb.cell hl).trans hc⟩
def Prs (w:World)(a:Option Addr)(l:List (Int × Int)):Prop:=∀k (h:k<l.length),∃b o,a=some ⟨b,o,none⟩/\b<w.heap.size/\w.cell? ⟨b,o+k*2,none⟩=some (.int .i64 l[k].1)/\w.cell? ⟨b,o+k*2+1,none⟩=some (.int .i64 l[k].2)
theorem Prs.mono {w w':World}{a:Option Addr}{l:List (Int × Int)}(h:Prs w a l)(hb:Below w.heap.size w w'):Prs w' a l:=fun k hk=>by
 obtain⟨b,o,e,hl,hc,hd⟩:=h k hk
 exact⟨b,o,e,Y3 hl hb.size,(hb.cell hl).trans hc,(hb.cell hl).trans hd⟩
def Rls (w:World)(a:Option Addr)(l:List Rl):Prop:=∀k (h:k<l.length),∃b o,a=some ⟨b,o,none⟩/\b<w.heap.size/\w.cell? ⟨b,o+k*2,none⟩=some (.string l[k].nm)/\w.cell? ⟨b,o+k*2+1,none⟩=some (.int .i64 l[k].lb)
theorem Rls.mono {w w':World}{a:Option Addr}{l:List Rl}(h:Rls w a l)(hb:Below w.heap.size w w'):Rls w' a l:=fun k hk=>by
 obtain⟨b,o,e,hl,hc,hd⟩:=h k hk
 exact⟨b,o,e,Y3 hl hb.size,(hb.cell hl).trans hc,(hb.cell hl).trans hd⟩
def IntL (w:World)(a:Option Addr)(l:List Int):Prop:=Ints w a l.length (fun k=>l.getD k 0)
theorem IntL.mono {w w':World}{a:Option Addr}{l:List Int}(h:IntL w a l)(hb:Below w.heap.size w w'):IntL w' a l:=Ints.mono h hb
def NodL (w:World)(a:Option Addr)(l:List Nx):Prop:=Nods w a l.length (nf l)
theorem NodL.mono {w w':World}{a:Option Addr}{l:List Nx}(h:NodL w a l)(hb:Below w.heap.size w w'):NodL w' a l:=Nods.mono h hb
structure FA where
 b:Option Addr
 bc:Nat
 i:Option Addr
 ic:Nat
 h:Option Addr
 hc:Nat
 v:Option Addr
 vc:Nat
 u:Option Addr
 uc:Nat
structure FSl (w:World)(f:Fl)(A:FA):Prop where
 b:IntL w A.b f.bys
 i:NodL w A.i f.is
 h:NodL w A.h f.wh
 v:NodL w A.v f.va
 u:NodL w A.u f.mu
theorem FSl.mono {w w':World}{f:Fl}{A:FA}(h:FSl w f A)(hb:Below w.heap.size w w'):FSl w' f A:=⟨h.b.mono hb,h.i.mono hb,h.h.mono hb,h.v.mono hb,h.u.mono hb⟩
def fCs (f:Fl)(A:FA):List Value:=[.string f.nm,.int .i64 f.ty,.int .i64 f.lb,.slice A.b f.bys.length A.bc,.slice A.i f.is.length A.ic,.slice A.h f.wh.length A.hc,.slice A.v f.va.length A.vc,.string f.sy,.slice A.u f.mu.length A.uc]
def fV (f:Fl)(A:FA):Value:=.agg #[.string f.nm,.int .i64 f.ty,.int .i64 f.lb,.slice A.b f.bys.length A.bc,.slice A.i f.is.length A.ic,.slice A.h f.wh.length A.hc,.slice A.v f.va.length A.vc,.string f.sy,.slice A.u f.mu.length A.uc]
def FCel (w:World)(b o:Nat)(f:Fl)(A:FA):Prop:=b<w.heap.size/\w.cell? ⟨b,o,none⟩=some (.string f.nm)/\w.cell? ⟨b,o+1,none⟩=some (.int .i64 f.ty)/\w.cell? ⟨b,o+2,none⟩=some (.int .i64 f.lb)/\w.cell? ⟨b,o+3,none⟩=some (.slice A.b f.bys.length A.bc)/\w.cell? ⟨b,o+4,none⟩=some (.slice A.i f.is.length A.ic)/\w.cell? ⟨b,o+5,none⟩=some (.slice A.h f.wh.length A.hc)/\w.cell? ⟨b,o+6,none⟩=some (.slice A.v f.va.length A.vc)/\w.cell? ⟨b,o+7,none⟩=some (.string f.sy)/\w.cell? ⟨b,o+8,none⟩=some (.slice A.u f.mu.length A.uc)
theorem FCel.mono {w w':World}{b o:Nat}{f:Fl}{A:FA}(h:FCel w b o f A)(hb:Below w.heap.size w w'):FCel w' b o f A :=
 ⟨Y3 h.1 hb.size,(hb.cell h.1).trans h.2.1,(hb.cell h.1).trans h.2.2.1,(hb.cell h.1).trans h.2.2.2.1,(hb.cell h.1).trans h.2.2.2.2.1,(hb.cell h.1).trans h.2.2.2.2.2.1,(hb.cell h.1).trans h.2.2.2.2.2.2.1,(hb.cell h.1).trans h.2.2.2.2.2.2.2.1,(hb.cell h.1).trans h.2.2.2.2.2.2.2.2.1,(hb.cell h.1).trans h.2.2.2.2.2.2.2.2.2⟩
theorem nine {w:World}{b:Nat}{t:TypeId}{v0 v1 v2 v3 v4 v5 v6 v7 v8:Value}(h:Blk w b t [v0,v1,v2,v3,v4,v5,v6,v7,v8]) :
 w.cell? ⟨b,0,none⟩=some v0/\w.cell? ⟨b,1,none⟩=some v1/\w.cell? ⟨b,2,none⟩=some v2/\w.cell? ⟨b,3,none⟩=some v3/\w.cell? ⟨b,4,none⟩=some v4/\w.cell? ⟨b,5,none⟩=some v5/\w.cell? ⟨b,6,none⟩=some v6/\w.cell? ⟨b,7,none⟩=some v7/\w.cell? ⟨b,8,none⟩=some v8:=⟨h.cell 0,h.cell 1,h.cell 2,h.cell 3,h.cell 4,h.cell 5,h.cell 6,h.cell 7,h.cell 8⟩
def Flds (w:World)(a:Option Addr)(l:List Fl)(A:Nat->FA):Prop:=∀k (h:k<l.length),∃b o,a=some ⟨b,o,none⟩/\FCel w b (o+k*9) l[k] (A k)/\FSl w l[k] (A k)
theorem Flds.mono {w w':World}{a:Option Addr}{l:List Fl}{A:Nat->FA}(h:Flds w a l A)(hb:Below w.heap.size w w'):Flds w' a l A:=fun k hk=>by
 obtain⟨b,o,e,hc,hs⟩:=h k hk
 exact⟨b,o,e,hc.mono hb,hs.mono hb⟩
structure MA where
 l:Option Addr
 lc:Nat
 p:Option Addr
 pc:Nat
 r:Option Addr
 rc:Nat
 f:Option Addr
 fc:Nat
 fa:Nat->FA
abbrev Jb(x0:MA)(x1:Fm):Array Value:=#[.slice x0.l x1.L.length x0.lc,.slice x0.p x1.P.length x0.pc,.slice x0.r x1.R.length x0.rc,.slice x0.f x1.F.length x0.fc]
def mV (m:Fm)(A:MA):Value:=.agg #[.slice A.l m.L.length A.lc,.slice A.p m.P.length A.pc,.slice A.r m.R.length A.rc,.slice A.f m.F.length A.fc]
structure MSl (w:World)(m:Fm)(A:MA):Prop where
 l:Strs w A.l m.L
 p:Prs w A.p m.P
 r:Rls w A.r m.R
 f:Flds w A.f m.F A.fa
theorem MSl.mono {w w':World}{m:Fm}{A:MA}(h:MSl w m A)(hb:Below w.heap.size w w'):MSl w' m A:=⟨h.l.mono hb,h.p.mono hb,h.r.mono hb,h.f.mono hb⟩
theorem quad {w:World}{b:Nat}{t:TypeId}{v0 v1 v2 v3:Value}(h:Blk w b t [v0,v1,v2,v3]) :
 w.cell? ⟨b,0,none⟩=some v0/\w.cell? ⟨b,1,none⟩=some v1/\w.cell? ⟨b,2,none⟩=some v2/\w.cell? ⟨b,3,none⟩=some v3:=⟨h.cell 0,h.cell 1,h.cell 2,h.cell 3⟩
structure FitF (f:Fl):Prop where
 nm:f.nm.size<=9223372036854775807
 sy:f.sy.size<=9223372036854775807
 bl:f.bys.length<=9223372036854775807
 il:f.is.length<=9223372036854775807
 hl:f.wh.length<=9223372036854775807
 vl:f.va.length<=9223372036854775807
 ul:f.mu.length<=9223372036854775807
 i:∀k,k<f.is.length->Fit (nf f.is k)
 h:∀k,k<f.wh.length->Fit (nf f.wh k)
 v:∀k,k<f.va.length->Fit (nf f.va k)
 u:∀k,k<f.mu.length->Fit (nf f.mu k)
structure FitM (m:Fm):Prop where
 ll:m.L.length<=9223372036854775807
 pl:m.P.length<=9223372036854775807
 rl:m.R.length<=9223372036854775807
 fl:m.F.length<=9223372036854775807
 l:∀x,x∈m.L->x.size<=9223372036854775807
 r:∀x,x∈m.R->x.nm.size<=9223372036854775807
 f:∀x,x∈m.F->FitF x
def nC (n:Nx):List Value:=[.int .i64 n.op,.int .i64 n.v.k,.int .i64 n.v.n,.string n.v.s,.string n.nm]
def nodV (l:List Nx):List Value:=l.flatMap nC
theorem qd2 (l r:List Nx):nodV (l++r)=nodV l++nodV r:=by simp[nodV]
theorem qd3 {l:List Nx}{k p:Nat}(hk:k<l.length)(hp:p<5):(nodV l)[k*5+p]? = (nC l[k])[p]?:=by
 induction l generalizing k with
 | nil=>cases hk
 | cons x r ih =>
  cases k with
  | zero =>
   rw[show nodV (x :: r)=nC x++nodV r from rfl,Vm,Z3,Zk (by simp[nC];omega)];rfl
  | succ k =>
   rw[show nodV (x :: r)=nC x++nodV r from rfl,Zn (by simp[nC];omega)];have:=ih (k:=k) (by simpa using hk);rw[show(k+1)*5+p - (nC x).length=k*5+p by simp[nC];omega];simpa using this
def OwnN (w:World)(base:Nat)(v:Value)(l:List Nx):Prop:=w.ownsRow base 133 5 v l.length (nodV l)
theorem OwnN.keep {w w':World}{base:Nat}{v:Value}{l:List Nx}(h:OwnN w base v l)(hb:Below w.heap.size w w'):OwnN w' base v l :=
 World.ownsRow.kept (row:=none) h ⟨hb.os,hb.tape,hb.output,hb.size,fun k hk _=>hb.block k hk⟩ (Classical.em _)
theorem OwnN.low {w:World}{base base':Nat}{v:Value}{l:List Nx}(h:OwnN w base v l)(hb:base'<=base):OwnN w base' v l:=by
 refine⟨h.1,?_⟩
 rcases h.2 with h2 | ⟨g,cap,cur,h1,hg,r⟩
 . exact .inl h2
 . exact .inr ⟨g,cap,cur,h1,Yt hb hg,r⟩
theorem OwnN.none (w:World):OwnN (w.alloc (.cells #[] 133)) w.heap.size (.slice (some ⟨w.heap.size,0,.none⟩) 0 0) [] :=
 ⟨rfl,.inr ⟨w.heap.size,0,#[],rfl,nR _,heap_alloc_new w (.cells #[] 133),nR _,nZ _,rfl,rfl⟩⟩
theorem OwnN.nods {w:World}{base:Nat}{v:Value}{l:List Nx}(h:OwnN w base v l):∃a c,v=.slice a l.length c/\NodL w a l:=by
 rcases h.2 with ⟨e,h0⟩ | ⟨g,cap,cur,e,hg,hq,h4,h5,h6,h7⟩
 . exact⟨.none,0,by rw[e,h0],fun k hk=>by omega⟩
 . have hb:Blk w g 133 cur.toList:=by
    show w.heap[g]? = _;rw[hq]
   refine⟨some ⟨g,0,.none⟩,cap,e,fun k hk=>⟨g,0,rfl,?_⟩⟩;have hc:∀p,p<5->w.cell? ⟨g,k*5+p,.none⟩=(nC l[k])[p]?:=fun p hp=>by
    rw[hb.cell,<- qd3 hk hp,<- h7,Vi (by omega)]
   rw[Z3,nf_get l k hk];exact⟨hb.lt,hc 0 (by omega),hc 1 (by omega),hc 2 (by omega),hc 3 (by omega),hc 4 (by omega)⟩
theorem qgn:(Tryz.prog.info? 133).map (fun i=>(i.zero,i.size,i.bytes))=some (some (.agg #[Ya 0,Ya 0,Ya 0,Yc,Yc]),5,56):=by kernel_rfl
theorem q45 {ops:Array Oper}{rest:List Oper}{o:Oper}{a:Act}{Q:Exit->Act->World->Prop}{w:World}(hgd:o.guard=.none)(s x:Operand)
 (ho:o.op=.call { callee:=.builtin .append,args:=#[s,x],argTypes:=#[42,42] }) {base:Nat} {v:Value} {l:List Nx} (hs:a.eval s=v) (hown:OwnN w base v l)
 {g:Nat} {n:Nx} (hx:a.eval x=.slice (some ⟨g,0,.none⟩) 1 1) (hc:Blk w g 133 (nC n)) (hl:l.length+1<=2097152) (hbase:base<=w.heap.size)
 (h:∀v' w',OwnN w' base v' (l++[n])->Below base w w'->wpList Tryz.prog ops Q rest (a.put o.dst v') w'):wpList Tryz.prog ops Q (o :: rest) a w:=by
 obtain⟨i0,hi,hz0,hz1,hz2⟩:=info_parts qgn
 refine wpList_append_own w hgd s x 42 ho base 133 i0 _ 5 56 Tryz.underlying42 hi hz0 hz1 hz2 rfl (by omega) _ _ _ hs hown ⟨g,0,.none⟩ 1 1 (nC n) hx rfl (fun j v hj=>by rw[show(⟨g,0,.none⟩:Addr).add j=⟨g,j,.none⟩ by simp[Addr.add];try exact fun h=>h.symm];exact(hc.cell j).trans hj) (by simp[nC,Value.oneCell']) (by unfold maxLen;omega) (by omega) hbase ?_
 intro v' W9 ho hgr _
 refine h v' W9 ?_ ((bR base w).grown hgr hbase (fun q e=>q7l hown e))
 unfold OwnN
 rw[qd2,Yf]
 simpa [nodV] using ho
theorem q73 (a b:Option Addr)(ca cb:Nat)(la lb:List Nx)(w:World)(hl:la.length+lb.length<=1048576)(ha:NodL w a la)(hb:NodL w b lb) :
 Calls Tryz.prog 117 #[.slice a la.length ca,.slice b lb.length cb] w fun r w'=>∃v,r=.returned v/\OwnN w' w.heap.size v (la++lb)/\Below w.heap.size w w':=by
 have HB0:=h_ ((bR w.heap.size w).alloc (nR _) (.cells #[] 133))
 have HO0:=h_ (OwnN.none w)
 have HA:=h_ ha;have HC:=h_ hb
 clear ha hb
 obtain⟨W0,hW0⟩:=Nq (w.alloc (.cells #[] 133))
 rw[hW0]at HB0 HO0
 go_enter Tryz.func117,Tryz.ntmps117
 go_wp2_with fail
 try rw[hW0]
 clear hW0
 go_loopw [5,6] (fun v i wr=>∃k:Nat,k<=la.length/\i=Ya k/\OwnN wr w.heap.size v (la.take k)/\Below w.heap.size w wr) (fun _ i _=>la.length - (intOf i).toNat)
 case atStart=>exact⟨0,nZ _,rfl,HO0.u,HB0.u⟩
 case round =>
  clear HO0 HB0;obtain⟨k,hk,rfl,ho,hb⟩:=hrel;have HO:=h_ ho;have HB:=h_ hb;have HV:=h_ (HA.u.mono hb);have HW:=h_ (HC.u.mono hb);clear ho hb;by_cases hlt:k<la.length
  . have hlt':(k:Int)<la.length:=by omega
    have HT:Hi (la.take (k+1)=la.take k++[la[k]]):=h_ (Yq hlt);obtain⟨bb,oo,rfl,-,c0,c1,c2,c3,c4⟩:=HV.u k hlt;rw[nf_get la k hlt]at c0 c1 c2 c3 c4;generalize la[k]=n at *;have HN:Hi (Blk _ _ 133 (nC n)):=h_ (Blk.new wr 133 (nC n).toArray);have HS:=h_ ((bR wr.heap.size wr).alloc (nR _) (.cells (nC n).toArray 133));go_wp2_with (at_builtin;refine q45 rfl _ _ rfl rfl (HO.u.keep HS.u) rfl HN.u (by rw[Yu];omega) (Yt HB.u.size HS.u.size) ?_);intro v' W9 ho hb9;have HO9:=h_ ho;rw[<- HT.u]at HO9;have HB9:=h_ (HB.u.trans ((HS.u.mono HB.u.size).trans hb9));clear ho hb9 c0 c1 c2 c3 c4;go_wp2_with fail;go_roundw
    case rel=>exact⟨k+1,by omega,by go_num,HO9.u,HB9.u⟩
    case measure=>simp[intOf];omega
  . obtain rfl:k=la.length:=by omega
    have hlt':¬ (la.length:Int)<la.length:=(by omega);rw[Zl]at HO;go_wp2_with fail;go_loopw [5,7] (fun v i wr=>∃k:Nat,k<=lb.length/\i=Ya k/\OwnN wr w.heap.size v (la++lb.take k)/\Below w.heap.size w wr) (fun _ i _=>lb.length - (intOf i).toNat)
    case atStart=>exact⟨0,nZ _,rfl,by rw[List.take_zero,Zi];exact HO.u,HB.u⟩
    case round =>
     clear HO HB HV HW hlt hlt' hk;obtain⟨k,hk,rfl,ho,hb⟩:=hrel;have HO:=h_ ho;have HB:=h_ hb;have HW:=h_ (HC.u.mono hb);clear ho hb;by_cases hlt:k<lb.length
     . have hlt':(k:Int)<lb.length:=by omega
       have HT:Hi (la++lb.take (k+1)=la++(lb.take k++[lb[k]])):=h_ (by rw[Yq hlt]);obtain⟨bb,oo,rfl,-,c0,c1,c2,c3,c4⟩:=HW.u k hlt;rw[nf_get lb k hlt]at c0 c1 c2 c3 c4;generalize lb[k]=n at *
       rename World=>wr
       have HN:Hi (Blk _ _ 133 (nC n)):=h_ (Blk.new wr 133 (nC n).toArray);have HS:=h_ ((bR wr.heap.size wr).alloc (nR _) (.cells (nC n).toArray 133));go_wp2_with (at_builtin;refine q45 rfl _ _ rfl rfl (HO.u.keep HS.u) rfl HN.u (by rw[Yf,Yu];omega) (Yt HB.u.size HS.u.size) ?_);intro v' W9 ho hb9;have HO9:=h_ ho;rw[<- HT.u]at HO9;have HB9:=h_ (HB.u.trans ((HS.u.mono HB.u.size).trans hb9));clear ho hb9 c0 c1 c2 c3 c4;go_wp2_with fail;go_roundw
       case rel=>exact⟨k+1,by omega,by go_num,HO9.u,HB9.u⟩
       case measure=>simp[intOf];omega
     . obtain rfl:k=lb.length:=by omega
       have hlt':¬ (lb.length:Int)<lb.length:=(by omega);rw[Zl]at HO;go_wp2_with fail;go_ret;exact⟨_,rfl,HO.u,HB.u⟩
end Go.Proofs.YtfmammdgehbjhaaGreatDoor
