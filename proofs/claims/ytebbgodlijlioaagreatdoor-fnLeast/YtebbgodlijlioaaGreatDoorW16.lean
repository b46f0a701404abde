import Derived.Test.YtebbgodlijlioaaGreatDoorW14
namespace Go.Proofs.YtebbgodlijlioaaGreatDoor
open Go
theorem pigeon:∀(n:Nat) (l:List Int),l.Nodup->(∀x,x∈l->0<=x/\x<n)->l.length<=n:=by
 intro n
 induction n with
 | zero =>
  intro l _ h;cases l with
  | nil=>exact nR _
  | cons x r=>have:=h x Zd;omega
 | succ n ih =>
  intro l hn h;by_cases hm:(n:Int)∈l
  . have h1:=ih (l.erase (n:Int)) (hn.erase _) (fun x hx=>by
     have h2:=(hn.mem_erase_iff).1 hx;have h3:=h x h2.2;have h4:=h2.1;omega)
    rw[List.length_erase_of_mem hm]at h1;omega
  . have h1:=ih l hn (fun x hx=>by
     have h3:=h x hx;have h4:x≠n:=fun e=>hm (e ▸ hx);omega)
    omega
theorem q93 {n:Nat}{l:List Int}(h:bysOk n l=true):l.length<=n:=by
 unfold bysOk at h
 rw[Yp,Y4,Yq]at h
 refine pigeon n l h.2 fun x hx=>?_
 have:=h.1 x hx
 unfold inR at this
 exact Ze this
structure VfA (m:Fm):Prop where
 nl:m.L.length<=32
 np:m.P.length<=256
 nr:m.R.length<=64
 nf:m.F.length<=200
 l:namesOk m.L=true
 r:namesOk (rNames m)=true
 f:namesOk (fNames m)=true
 p:∀x,x∈m.P->inR m.L.length x.1=true/\inR m.L.length x.2=true
 ro:∀x,x∈m.R->inR m.L.length x.lb=true
 fi:∀x,x∈m.F->fieldOk m.L.length m.R.length x=true
 kn:∀x,x∈m.F->fieldKnows (fNames m) x=true
theorem qk3 (m:Fm):vfA m=true ↔ VfA m:=by
 unfold vfA
 simp only[Yp,Yq,Y4]
 constructor
 . rintro⟨⟨⟨⟨⟨⟨⟨h1,h2,h3,h4⟩,h5⟩,h6⟩,h7⟩,h8⟩,h9⟩,h10⟩
   exact⟨h1,h2,h3,h4,h5,h6,h7,h8,h9,fun x hx=>(h10 x hx).1,fun x hx=>(h10 x hx).2⟩
 . rintro⟨h1,h2,h3,h4,h5,h6,h7,h8,h9,h10,h11⟩
   exact⟨⟨⟨⟨⟨⟨⟨h1,h2,h3,h4⟩,h5⟩,h6⟩,h7⟩,h8⟩,h9⟩,fun x hx=>⟨h10 x hx,h11 x hx⟩⟩
structure FOk (nl nr:Nat)(f:Fl):Prop where
 t1:1<=f.ty
 t2:f.ty<=3
 l1:-1<=f.lb
 l2:f.lb<nl
 b:bysOk nr f.bys=true
 ib:f.is.length=0∨f.bys.length=0
 sy:okText f.sy=true
 vs:f.va.length≠0∨f.sy.size=0
 i:ruleOk f.is=true
 h:ruleOk f.wh=true
 v:ruleOk f.va=true
 u:ruleOk f.mu=true
theorem q4r (nl nr:Nat)(f:Fl):fieldOk nl nr f=true ↔ FOk nl nr f:=by
 unfold fieldOk
 simp only[Yp,Yq]
 constructor
 . rintro⟨⟨⟨⟨⟨⟨⟨⟨⟨⟨h1,h2⟩,h3,h4⟩,h5⟩,h6⟩,h7⟩,h8⟩,h9⟩,h10⟩,h11⟩,h12⟩
   exact⟨h1,h2,h3,h4,h5,h6,h7,h8,h9,h10,h11,h12⟩
 . rintro⟨h1,h2,h3,h4,h5,h6,h7,h8,h9,h10,h11,h12⟩
   exact⟨⟨⟨⟨⟨⟨⟨⟨⟨⟨h1,h2⟩,h3,h4⟩,h5⟩,h6⟩,h7⟩,h8⟩,h9⟩,h10⟩,h11⟩,h12⟩
theorem q43 {l:List ByteArray}(h:namesOk l=true){x:ByteArray}(hx:x∈l):x.size<=16:=by
 simp only[namesOk,Yp,Y4]at h
 exact q6z (h.1 x hx)
theorem q8f {rs:List Rl}{i:Int}(h:namesOk (rs.map (·.nm))=true):(rolAt rs i).nm.size<=16:=by
 unfold rolAt
 rw[Yl]
 cases hh:rs[i.toNat]? with
 | none=>exact nZ _
 | some x=>exact q43 h (Y8.2 ⟨x,List.mem_of_getElem? hh,rfl⟩)
theorem qf1 {x:ByteArray}(h:x.size<=16):(tLab x).length<=24:=by
 unfold tLab
 simp only[Yg,Yw,Y5,sb_len]
 omega
theorem qez {ls:List ByteArray}(h:namesOk ls=true)(p:Int × Int):(tBel ls p).length<=41:=by
 have h1:=q7r (i:=p.1) h
 have h2:=q7r (i:=p.2) h
 unfold tBel
 simp only[Yg,Yw,Y5,sb_len]
 omega
theorem qf3 {ls:List ByteArray}(h:namesOk ls=true){r:Rl}(hr:r.nm.size<=16):(tRol ls r).length<=43:=by
 have h1:=q7r (i:=r.lb) h
 unfold tRol
 simp only[Yg,Yw,Y5,sb_len]
 omega
theorem qbh {m:Fm}(hm:VfA m){f:Fl}(hn:f.nm.size<=16):(tFldA m f).length<=50:=by
 have h1:=q7r (i:=f.lb) hm.l
 have h2:(tyName f.ty).length<=4:=by unfold tyName;split <;> (try split) <;> simp
 have h3:(if f.lb<0 then ([97,117,116,111]:List UInt8) else sb (labAt m.L f.lb)).length<=16:=by
  split
  . simp
  . rw[sb_len];exact h1
 unfold tFldA
 simp only[Yg,Yw,Y5,sb_len]
 omega
theorem qjr {m:Fm}(hm:VfA m)(i:Int):(tBy m.R i).length<=20:=by
 have h1:=q8f (i:=i) hm.r
 unfold tBy
 simp only[Yg,Yw,Y5,sb_len]
 omega
theorem q5o {s:ByteArray}(h:okText s=true):s.size<=1000:=by
 simp only[okText,Yp,Yq]at h
 omega
theorem qbj {f:Fl}(h:okText f.sy=true):(tSays f).length<=1008:=by
 have h1:=q5o h
 unfold tSays
 split
 . simp
 . simp only[Yg,Yw,Y5,sb_len]
   omega
theorem qbi {m:Fm}(hm:VfA m){f:Fl}(hf:FOk m.L.length m.R.length f)(j:Nat):((f.bys.take j).flatMap (tBy m.R)).length<=1280:=by
 have h1:=q4t (f.bys.take j) (tBy m.R) 20 fun x _=>qjr hm x
 have h2:=q93 hf.b
 have h3:=hm.nr
 have h4:(f.bys.take j).length<=64:=by rw[Y3];omega
 omega
theorem qf0 {m:Fm}(hm:VfA m){f:Fl}(hn:f.nm.size<=16)(hf:FOk m.L.length m.R.length f):(tFld m f).length<=18500:=by
 have h1:=qbh hm hn
 have h2:=qbi hm hf f.bys.length
 rw[Zm]at h2
 have h3:=q5x (word:=wIs) hf.i (by decide)
 have h4:=q5x (word:=wWhen) hf.h (by decide)
 have h5:=q5x (word:=wValid) hf.v (by decide)
 have h6:=q5x (word:=wMust) hf.u (by decide)
 have h7:=qbj hf.sy
 unfold tFld
 simp only[Yg,Yw,Y5]
 omega
def c1 (m:Fm)(k:Nat):List UInt8:=(m.L.take k).flatMap tLab
def c2 (m:Fm)(k:Nat):List UInt8:=m.L.flatMap tLab++(m.P.take k).flatMap (tBel m.L)
def c3 (m:Fm)(k:Nat):List UInt8:=m.L.flatMap tLab++m.P.flatMap (tBel m.L)++(m.R.take k).flatMap (tRol m.L)
def c4 (m:Fm)(k:Nat):List UInt8:=m.L.flatMap tLab++m.P.flatMap (tBel m.L)++m.R.flatMap (tRol m.L)++(m.F.take k).flatMap (tFld m)
theorem qg1 (m:Fm):c1 m 0=[]:=by simp[c1]
theorem qg3 (m:Fm):c2 m 0=c1 m m.L.length:=by simp[c1,c2]
theorem qg5 (m:Fm):c3 m 0=c2 m m.P.length:=by simp[c2,c3]
theorem qg7 (m:Fm):c4 m 0=c3 m m.R.length:=by simp[c3,c4]
theorem c4_all (m:Fm):c4 m m.F.length=cT m:=by simp[c4,cT]
theorem q9s {α:Type}(l:List α)(g:α->List UInt8)(k:Nat)(h:k<l.length):(l.take (k+1)).flatMap g=(l.take k).flatMap g++g l[k]:=by
 rw[Yr h,Zq]
 simp
theorem qg0 (m:Fm)(k:Nat)(h:k<m.L.length):c1 m (k+1)=c1 m k++tLab m.L[k]:=q9s _ _ k h
theorem qg2 (m:Fm)(k:Nat)(h:k<m.P.length):c2 m (k+1)=c2 m k++tBel m.L m.P[k]:=by unfold c2;rw[q9s _ _ k h,Vb]
theorem qg4 (m:Fm)(k:Nat)(h:k<m.R.length):c3 m (k+1)=c3 m k++tRol m.L m.R[k]:=by unfold c3;rw[q9s _ _ k h];simp
theorem qg6 (m:Fm)(k:Nat)(h:k<m.F.length):c4 m (k+1)=c4 m k++tFld m m.F[k]:=by unfold c4;rw[q9s _ _ k h];simp
theorem c1_len {m:Fm}(hm:VfA m)(k:Nat):(c1 m k).length<=768:=by
 have h1:=q4t (m.L.take k) tLab 24 fun x hx=>qf1 (q43 hm.l (Vi hx))
 have h2:=hm.nl
 have h3:(m.L.take k).length<=32:=by rw[Y3];omega
 unfold c1
 omega
theorem c2_len {m:Fm}(hm:VfA m)(k:Nat):(c2 m k).length<=11264:=by
 have h1:=q4t (m.P.take k) (tBel m.L) 41 fun x _=>qez hm.l x
 have h2:=hm.np
 have h3:(m.P.take k).length<=256:=by rw[Y3];omega
 have h4:=c1_len hm m.L.length
 unfold c1 at h4
 rw[Zm]at h4
 unfold c2
 rw[Yg]
 omega
theorem c3_len {m:Fm}(hm:VfA m)(k:Nat):(c3 m k).length<=14016:=by
 have h1:=q4t (m.R.take k) (tRol m.L) 43 fun x hx=>qf3 hm.l (q43 hm.r (Y8.2 ⟨x,Vi hx,rfl⟩))
 have h2:=hm.nr
 have h3:(m.R.take k).length<=64:=by rw[Y3];omega
 have h4:=c2_len hm m.P.length
 unfold c2 at h4
 rw[Zm]at h4
 unfold c3
 rw[Yg]
 omega
theorem c4_len {m:Fm}(hm:VfA m)(k:Nat):(c4 m k).length<=3714016:=by
 have h1:=q4t (m.F.take k) (tFld m) 18500 fun x hx=>qf0 hm (q43 hm.f (Y8.2 ⟨x,Vi hx,rfl⟩)) ((q4r _ _ _).1 (hm.fi x (Vi hx)))
 have h2:=hm.nf
 have h3:(m.F.take k).length<=200:=by rw[Y3];omega
 have h4:=c3_len hm m.R.length
 unfold c3 at h4
 rw[Zm]at h4
 unfold c4
 rw[Yg]
 omega
end Go.Proofs.YtebbgodlijlioaaGreatDoor
