import Derived.Test.YtgojgjlninakjaaGreatDoorW15
namespace Go.Proofs.YtgojgjlninakjaaGreatDoor
open Go
theorem pigeon:∀(n:Nat) (l:List Int),l.Nodup->(∀x,x∈l->0<=x/\x<n)->l.length<=n:=by
 intro n
 induction n with
 | zero =>
  intro l _ h;cases l with
  | nil=>exact nR _
  | cons x r=>have:=h x Yq;omega
 | succ n ih =>
  intro l hn h;by_cases hm:(n:Int)∈l
  . have h1:=ih (l.erase (n:Int)) (hn.erase _) (fun x hx=>by
     have h2:=(hn.mem_erase_iff).1 hx;have h3:=h x h2.2;have h4:=h2.1;omega)
    rw[List.length_erase_of_mem hm]at h1;omega
  . have h1:=ih l hn (fun x hx=>by
     have h3:=h x hx;have h4:x≠n:=fun e=>hm (e ▸ hx);omega)
    omega
theorem qbl {n:Nat}{l:List Int}(h:bysOk n l=true):l.length<=n:=by
 unfold bysOk at h
 rw[Yf,Yu,Yh]at h
 refine pigeon n l h.2 fun x hx=>?_
 have:=h.1 x hx
 unfold inR at this
 exact Zb this
structure VfA (m:Fm):Prop where
 nl:m.L.length<=32
 np:m.P.length<=256
 nr:m.R.length<=64
 nf:m.F.length<=200
 l:namesOk m.L=true
 r:namesOk (rNames m)=true
 f:namesOk (fNames m)=true
 p:∀x,x∈m.P->inR m.L.length x.1=true/\inR m.L.length x.2=true
 ro:∀x,x∈m.R->inR m.L.length x.lb=true
 fi:∀x,x∈m.F->fieldOk m.L.length m.R.length x=true
 kn:∀x,x∈m.F->fieldKnows (fNames m) x=true
theorem qof (m:Fm):vfA m=true ↔ VfA m:=by
 unfold vfA
 simp only[Yf,Yh,Yu]
 constructor
 . rintro⟨⟨⟨⟨⟨⟨⟨h1,h2,h3,h4⟩,h5⟩,h6⟩,h7⟩,h8⟩,h9⟩,h10⟩
   exact⟨h1,h2,h3,h4,h5,h6,h7,h8,h9,fun x hx=>(h10 x hx).1,fun x hx=>(h10 x hx).2⟩
 . rintro⟨h1,h2,h3,h4,h5,h6,h7,h8,h9,h10,h11⟩
   exact⟨⟨⟨⟨⟨⟨⟨h1,h2,h3,h4⟩,h5⟩,h6⟩,h7⟩,h8⟩,h9⟩,fun x hx=>⟨h10 x hx,h11 x hx⟩⟩
structure FOk (nl nr:Nat)(f:Fl):Prop where
 t1:1<=f.ty
 t2:f.ty<=3
 l1:-1<=f.lb
 l2:f.lb<nl
 b:bysOk nr f.bys=true
 ib:f.is.length=0∨f.bys.length=0
 sy:okText f.sy=true
 vs:f.va.length≠0∨f.sy.size=0
 i:ruleOk f.is=true
 h:ruleOk f.wh=true
 v:ruleOk f.va=true
 u:ruleOk f.mu=true
theorem q5t (nl nr:Nat)(f:Fl):fieldOk nl nr f=true ↔ FOk nl nr f:=by
 unfold fieldOk
 simp only[Yf,Yh]
 constructor
 . rintro⟨⟨⟨⟨⟨⟨⟨⟨⟨⟨h1,h2⟩,h3,h4⟩,h5⟩,h6⟩,h7⟩,h8⟩,h9⟩,h10⟩,h11⟩,h12⟩
   exact⟨h1,h2,h3,h4,h5,h6,h7,h8,h9,h10,h11,h12⟩
 . rintro⟨h1,h2,h3,h4,h5,h6,h7,h8,h9,h10,h11,h12⟩
   exact⟨⟨⟨⟨⟨⟨⟨⟨⟨⟨h1,h2⟩,h3,h4⟩,h5⟩,h6⟩,h7⟩,h8⟩,h9⟩,h10⟩,h11⟩,h12⟩
theorem q4k {l:List ByteArray}(h:namesOk l=true){x:ByteArray}(hx:x∈l):x.size<=16:=by
 simp only[namesOk,Yf,Yu]at h
 exact q8p (h.1 x hx)
theorem qaa {rs:List Rl}{i:Int}(h:namesOk (rs.map (·.nm))=true):(rolAt rs i).nm.size<=16:=by
 unfold rolAt
 rw[Yo]
 cases hh:rs[i.toNat]? with
 | none=>exact nZ _
 | some x=>exact q4k h (Y3.2 ⟨x,Vy hh,rfl⟩)
theorem qj2 {x:ByteArray}(h:x.size<=16):(tLab x).length<=24:=by
 unfold tLab
 simp only[Yd,Yl,Yt,sb_len]
 omega
theorem qj0 {ls:List ByteArray}(h:namesOk ls=true)(p:Int × Int):(tBel ls p).length<=41:=by
 have h1:=q9i (i:=p.1) h
 have h2:=q9i (i:=p.2) h
 unfold tBel
 simp only[Yd,Yl,Yt,sb_len]
 omega
theorem qj3 {ls:List ByteArray}(h:namesOk ls=true){r:Rl}(hr:r.nm.size<=16):(tRol ls r).length<=43:=by
 have h1:=q9i (i:=r.lb) h
 unfold tRol
 simp only[Yd,Yl,Yt,sb_len]
 omega
theorem qes {m:Fm}(hm:VfA m){f:Fl}(hn:f.nm.size<=16):(tFldA m f).length<=50:=by
 have h1:=q9i (i:=f.lb) hm.l
 have h2:(tyName f.ty).length<=4:=by unfold tyName;split <;> (try split) <;> simp
 have h3:(if f.lb<0 then ([97,117,116,111]:List UInt8) else sb (labAt m.L f.lb)).length<=16:=by
  split
  . simp
  . rw[sb_len];exact h1
 unfold tFldA
 simp only[Yd,Yl,Yt,sb_len]
 omega
theorem qo3 {m:Fm}(hm:VfA m)(i:Int):(tBy m.R i).length<=20:=by
 have h1:=qaa (i:=i) hm.r
 unfold tBy
 simp only[Yd,Yl,Yt,sb_len]
 omega
theorem q6z {s:ByteArray}(h:okText s=true):s.size<=1000:=by
 simp only[okText,Yf,Yh]at h
 omega
theorem qeu {f:Fl}(h:okText f.sy=true):(tSays f).length<=1008:=by
 have h1:=q6z h
 unfold tSays
 split
 . simp
 . simp only[Yd,Yl,Yt,sb_len]
   omega
theorem qet {m:Fm}(hm:VfA m){f:Fl}(hf:FOk m.L.length m.R.length f)(j:Nat):((f.bys.take j).flatMap (tBy m.R)).length<=1280:=by
 have h1:=q5w (f.bys.take j) (tBy m.R) 20 fun x _=>qo3 hm x
 have h2:=qbl hf.b
 have h3:=hm.nr
 have h4:(f.bys.take j).length<=64:=by rw[Za];omega
 omega
theorem qj1 {m:Fm}(hm:VfA m){f:Fl}(hn:f.nm.size<=16)(hf:FOk m.L.length m.R.length f):(tFld m f).length<=18500:=by
 have h1:=qes hm hn
 have h2:=qet hm hf f.bys.length
 rw[Z4]at h2
 have h3:=q7a (word:=wIs) hf.i (by decide)
 have h4:=q7a (word:=wWhen) hf.h (by decide)
 have h5:=q7a (word:=wValid) hf.v (by decide)
 have h6:=q7a (word:=wMust) hf.u (by decide)
 have h7:=qeu hf.sy
 unfold tFld
 simp only[Yd,Yl,Yt]
 omega
def c1 (m:Fm)(k:Nat):List UInt8:=(m.L.take k).flatMap tLab
def c2 (m:Fm)(k:Nat):List UInt8:=m.L.flatMap tLab++(m.P.take k).flatMap (tBel m.L)
def c3 (m:Fm)(k:Nat):List UInt8:=m.L.flatMap tLab++m.P.flatMap (tBel m.L)++(m.R.take k).flatMap (tRol m.L)
def c4 (m:Fm)(k:Nat):List UInt8:=m.L.flatMap tLab++m.P.flatMap (tBel m.L)++m.R.flatMap (tRol m.L)++(m.F.take k).flatMap (tFld m)
theorem qk4 (m:Fm):c1 m 0=[]:=by simp[c1]
theorem qk6 (m:Fm):c2 m 0=c1 m m.L.length:=by simp[c1,c2]
theorem qk8 (m:Fm):c3 m 0=c2 m m.P.length:=by simp[c2,c3]
theorem qka (m:Fm):c4 m 0=c3 m m.R.length:=by simp[c3,c4]
theorem c4_all (m:Fm):c4 m m.F.length=cT m:=by simp[c4,cT]
theorem qco {α:Type}(l:List α)(g:α->List UInt8)(k:Nat)(h:k<l.length):(l.take (k+1)).flatMap g=(l.take k).flatMap g++g l[k]:=by
 rw[Ym h,Vl]
 simp
theorem qk3 (m:Fm)(k:Nat)(h:k<m.L.length):c1 m (k+1)=c1 m k++tLab m.L[k]:=qco _ _ k h
theorem qk5 (m:Fm)(k:Nat)(h:k<m.P.length):c2 m (k+1)=c2 m k++tBel m.L m.P[k]:=by unfold c2;rw[qco _ _ k h,Vi]
theorem qk7 (m:Fm)(k:Nat)(h:k<m.R.length):c3 m (k+1)=c3 m k++tRol m.L m.R[k]:=by unfold c3;rw[qco _ _ k h];simp
theorem qk9 (m:Fm)(k:Nat)(h:k<m.F.length):c4 m (k+1)=c4 m k++tFld m m.F[k]:=by unfold c4;rw[qco _ _ k h];simp
theorem c1_len {m:Fm}(hm:VfA m)(k:Nat):(c1 m k).length<=768:=by
 have h1:=q5w (m.L.take k) tLab 24 fun x hx=>qj2 (q4k hm.l (Ve hx))
 have h2:=hm.nl
 have h3:(m.L.take k).length<=32:=by rw[Za];omega
 unfold c1
 omega
theorem c2_len {m:Fm}(hm:VfA m)(k:Nat):(c2 m k).length<=11264:=by
 have h1:=q5w (m.P.take k) (tBel m.L) 41 fun x _=>qj0 hm.l x
 have h2:=hm.np
 have h3:(m.P.take k).length<=256:=by rw[Za];omega
 have h4:=c1_len hm m.L.length
 unfold c1 at h4
 rw[Z4]at h4
 unfold c2
 rw[Yd]
 omega
theorem c3_len {m:Fm}(hm:VfA m)(k:Nat):(c3 m k).length<=14016:=by
 have h1:=q5w (m.R.take k) (tRol m.L) 43 fun x hx=>qj3 hm.l (q4k hm.r (Y3.2 ⟨x,Ve hx,rfl⟩))
 have h2:=hm.nr
 have h3:(m.R.take k).length<=64:=by rw[Za];omega
 have h4:=c2_len hm m.P.length
 unfold c2 at h4
 rw[Z4]at h4
 unfold c3
 rw[Yd]
 omega
theorem c4_len {m:Fm}(hm:VfA m)(k:Nat):(c4 m k).length<=3714016:=by
 have h1:=q5w (m.F.take k) (tFld m) 18500 fun x hx=>qj1 hm (q4k hm.f (Y3.2 ⟨x,Ve hx,rfl⟩)) ((q5t _ _ _).1 (hm.fi x (Ve hx)))
 have h2:=hm.nf
 have h3:(m.F.take k).length<=200:=by rw[Za];omega
 have h4:=c3_len hm m.R.length
 unfold c3 at h4
 rw[Z4]at h4
 unfold c4
 rw[Yd]
 omega
end Go.Proofs.YtgojgjlninakjaaGreatDoor
