import Derived.Test.YtebbgodlijlioaaGreatDoorW24
set_option maxRecDepth 100000
set_option maxHeartbeats 64000000
namespace Go.Proofs.YtebbgodlijlioaaGreatDoor
open Go Go.RowKit
def LFit (l:List Nx):Prop:=(∀n,n∈l->FitS n)/\l.length<=66
structure FFit (nl nr:Nat)(g:Fl):Prop where
 nm:g.nm.size<=64
 ty:1<=g.ty/\g.ty<=3
 lb:-1<=g.lb/\g.lb<nl
 bs:g.bys.length<=nr/\∀x,x∈g.bys->0<=x/\x<nr
 is:LFit g.is
 wh:LFit g.wh
 va:LFit g.va
 sy:g.sy.size<=64
 mu:LFit g.mu
theorem qd5:LFit []:=⟨fun _ h=>by simp at h,by simp⟩
theorem byL_in (A:Nat):∀r x,x∈byL A r->0<=x/\x<(r:Int)
 | 0,_,h=>by simp[byL]at h
 | r+1,x,h=>by
  unfold byL at h;rw[Y9]at h;rcases h with h | h
  . have:=byL_in A r x h;omega
  . by_cases h0:(A / 2+r) % 4=0
    . simp[h0]at h
    . rw[Yu h0]at h;obtain rfl:=Yx.1 h;omega
theorem q9q:FitS nTrue:=by refine⟨?_,?_,⟨?_,?_⟩,?_,?_⟩ <;> decide
theorem q9p:FitS nElse:=by refine⟨?_,?_,⟨?_,?_⟩,?_,?_⟩ <;> decide
theorem GenE.lfit {K:Int->List ByteArray}{len:Nat}{f:Nat->Nat}{d p:Nat}{kind:Int}{l:List Nx}{q:Nat}(h:GenE K len f d p kind l q)(hd:d<=3):(∀n,n∈l->FitS n)/\l.length<=64/\p<=q/\q<=p+192:=by
 have h4:4 ^ d<=64:=Ys (Z9 (by omega) hd) (by decide)
 have h2:=h.2.2.1
 have h3:=h.2.2.2.2.1
 exact⟨h.1,by omega,h.2.2.2.1,by omega⟩
theorem gen3 {K:Int->List ByteArray}(hK:PkOk K)(len:Nat)(f:Nat->Nat)(hlen:len<=1048576)(d p:Nat)(hd:d<=3)(hp:p<=899000)(kind:Int)(hk:kind=1∨kind=2∨kind=3):∃l q,GenE K len f d p kind l q:=by
 have h4:4 ^ d<=64:=Ys (Z9 (by omega) hd) (by decide)
 exact gen_ex K hK len f hlen d (by omega) p kind (by omega) hk
section
variable {K:Int->List ByteArray} (hK:PkOk K) (len:Nat) (f:Nat->Nat) (hlen:len<=1048576)
include hK hlen
theorem fs1_ex (A k nl nr d:Nat)(hd:d<=3)(typ:Int)(ht:typ=1∨typ=2∨typ=3)(hnl:1<=nl)(hnl2:nl<=1000)(g:Fl)(p:Nat)(hp:p<=899000)(hg:FFit nl nr g):∃g1 q,FS1 K len f A k nl nr d typ g g1 p q/\FFit nl nr g1/\g1.nm=g.nm/\g1.ty=g.ty/\p<=q/\q<=p+192:=by
 by_cases h:A % 2=0/\0<k
 . obtain⟨l,q,hl⟩:=gen3 hK len f hlen d p hd hp typ ht
   obtain⟨h1,h2,h3,h4⟩:=hl.lfit hd;exact⟨{ g with is:=l },q,.inl ⟨h.1,h.2,l,hl,rfl⟩,⟨hg.nm,hg.ty,hg.lb,hg.bs,⟨h1,by show l.length<=66;omega⟩,hg.wh,hg.va,hg.sy,hg.mu⟩,rfl,rfl,h3,h4⟩
 . have:=tk_lt (f:=f) (p:=p) (n:=nl) hlen (by omega) hnl (by omega)
   exact⟨{ g with lb:=((tkD len f p nl:Nat):Int),bys:=byL A nr },p+1,.inr ⟨h,rfl,rfl⟩,⟨hg.nm,hg.ty,⟨by show(-1:Int)<=((tkD len f p nl:Nat):Int);omega,by show((tkD len f p nl:Nat):Int)<nl;omega⟩,⟨qfy A nr,byL_in A nr⟩,hg.is,hg.wh,hg.va,hg.sy,hg.mu⟩,rfl,rfl,by omega,by omega⟩
theorem fs2_ex (B k nl nr d:Nat)(hd:d<=3)(g:Fl)(p:Nat)(hp:p<=899000)(hg:FFit nl nr g):∃g1 q,FS2 K len f B k d g g1 p q/\FFit nl nr g1/\g1.nm=g.nm/\g1.ty=g.ty/\p<=q/\q<=p+192:=by
 by_cases h:B<3/\0<k
 . obtain⟨l,q,hl⟩:=gen3 hK len f hlen d p hd hp 2 (.inr (.inl rfl))
   obtain⟨h1,h2,h3,h4⟩:=hl.lfit hd;refine⟨{ g with wh:=if B<2 then l++[nTrue,nElse] else l },q,.inl ⟨h.1,h.2,l,hl,rfl⟩,⟨hg.nm,hg.ty,hg.lb,hg.bs,hg.is,?_,hg.va,hg.sy,hg.mu⟩,rfl,rfl,h3,h4⟩;show LFit (if B<2 then l++[nTrue,nElse] else l);by_cases hB:B<2
   . rw[Yy hB]
     refine⟨fun n hn=>?_,by rw[Yg];show l.length+2<=66;omega⟩;rw[Y9]at hn;rcases hn with hn | hn
     . exact h1 n hn
     . rw[Z2,Yx]at hn
       rcases hn with rfl | rfl
       . exact q9q
       . exact q9p
   . rw[Yu hB]
     exact⟨h1,by omega⟩
 . exact⟨g,p,.inr ⟨h,rfl,rfl⟩,hg,rfl,rfl,by omega,by omega⟩
theorem fs3_ex (C nl nr d:Nat)(hd:d<=3)(g:Fl)(p:Nat)(hp:p<=899000)(hg:FFit nl nr g):∃g1 q,FS3 K len f C d g g1 p q/\FFit nl nr g1/\g1.nm=g.nm/\g1.ty=g.ty/\p<=q/\q<=p+192:=by
 by_cases h:C<3
 . obtain⟨l,q,hl⟩:=gen3 hK len f hlen d p hd hp 2 (.inr (.inl rfl))
   obtain⟨h1,h2,h3,h4⟩:=hl.lfit hd;obtain⟨s,hs,hc⟩:=q7g ((C:Int)*3+1);exact⟨{ g with va:=l,sy:=s },q,.inl ⟨h,l,s,hl,hs,hc,rfl⟩,⟨hg.nm,hg.ty,hg.lb,hg.bs,hg.is,hg.wh,⟨h1,by show l.length<=66;omega⟩,hs,hg.mu⟩,rfl,rfl,h3,h4⟩
 . exact⟨g,p,.inr ⟨h,rfl,rfl⟩,hg,rfl,rfl,by omega,by omega⟩
theorem fs4_ex (D nl nr d:Nat)(hd:d<=3)(g:Fl)(p:Nat)(hp:p<=899000)(hg:FFit nl nr g):∃g1 q,FS4 K len f D d g g1 p q/\FFit nl nr g1/\g1.nm=g.nm/\g1.ty=g.ty/\p<=q/\q<=p+192:=by
 by_cases h:D<2
 . obtain⟨l,q,hl⟩:=gen3 hK len f hlen (d - 1) p (by omega) hp 2 (.inr (.inl rfl))
   obtain⟨h1,h2,h3,h4⟩:=hl.lfit (show d - 1<=3 by omega);exact⟨{ g with mu:=l },q,.inl ⟨h,l,hl,rfl⟩,⟨hg.nm,hg.ty,hg.lb,hg.bs,hg.is,hg.wh,hg.va,hg.sy,⟨h1,by show l.length<=66;omega⟩⟩,rfl,rfl,h3,h4⟩
 by_cases h2:D=2
 . exact⟨{ g with mu:=[nTrue] },p,.inr (.inl ⟨h2,rfl,rfl⟩),⟨hg.nm,hg.ty,hg.lb,hg.bs,hg.is,hg.wh,hg.va,hg.sy,⟨fun n hn=>by obtain rfl:=Yx.1 hn;exact q9q,by show 1<=66;omega⟩⟩,rfl,rfl,by omega,by omega⟩
 . exact⟨g,p,.inr (.inr ⟨by omega,rfl,rfl⟩),hg,rfl,rfl,by omega,by omega⟩
end
theorem q38 {KB KA:Int->List ByteArray}(hKB:PkOk KB)(hKA:PkOk KA)(len:Nat)(f:Nat->Nat)(hlen:len<=1048576)(p:Nat)(hp:p<=800000)(k nl nr:Nat)(hk:k<=1000)(hnl:1<=nl)(hnl2:nl<=1000)(hnr:nr<=1000)(typ:Int)(ht:typ=1∨typ=2∨typ=3)(nm:ByteArray)(hsz:nm.size<=64)
 (hnm:∀w:World,Calls Tryz.prog 72 (Jt k) w fun e w'=>e=.returned (.string nm)/\Below w.heap.size w w') :
 ∃g q,FFit nl nr g/\g.nm=nm/\g.ty=typ/\p<=q/\q<=p+800/\∀(w:World) (a:Option Addr) (c:Nat) (xl xp xr xf:Option Addr) (cl np cp cr nf cf:Nat) (vb va:Value),Byts w a len f->PickV KB w vb->PickV KA w va ->
  Calls Tryz.prog 73 #[.slice a len c,J9 p,.agg (Jh xl nl cl xp np cp xr nr cr xf nf cf),J9 k,J9 typ,vb,va] w fun e w'=>∃A,e=.returned (.tuple #[fV g A,J9 q])/\FOw w' w.heap.size g A/\Below w.heap.size w w':=by
 have hd3:=tk_lt (f:=f) (p:=p+4) (n:=3) hlen (by omega) (by omega) (by omega)
 have h0:FFit nl nr ⟨nm,typ,-1,[],[],[],[],⟨#[]⟩,[]⟩:=⟨hsz,by show 1<=typ/\typ<=3;omega,⟨by show(-1:Int)<=-1;omega,by show(-1:Int)<nl;omega⟩,⟨nZ _,fun x hx=>by simp at hx⟩,qd5,qd5,qd5,by show(⟨#[]⟩:ByteArray).size<=64;decide,qd5⟩
 obtain⟨g1,q1,s1,f1,n1,y1,a1,b1⟩:=fs1_ex hKB len f hlen (tkD len f p 16) k nl nr (tkD len f (p+4) 3+1) (by omega) typ ht hnl hnl2 _ (p+5) (by omega) h0
 obtain⟨g2,q2,s2,f2,n2,y2,a2,b2⟩:=fs2_ex hKB len f hlen (tkD len f (p+1) 8) k nl nr (tkD len f (p+4) 3+1) (by omega) g1 q1 (by omega) f1
 obtain⟨g3,q3,s3,f3,n3,y3,a3,b3⟩:=fs3_ex hKA len f hlen (tkD len f (p+2) 8) nl nr (tkD len f (p+4) 3+1) (by omega) g2 q2 (by omega) f2
 obtain⟨g4,q4,s4,f4,n4,y4,a4,b4⟩:=fs4_ex hKA len f hlen (tkD len f (p+3) 8) nl nr (tkD len f (p+4) 3+1) (by omega) g3 q3 (by omega) f3
 exact⟨g4,q4,f4,by rw[n4,n3,n2,n1],by rw[y4,y3,y2,y1],by omega,by omega,fun w a c xl xp xr xf cl np cp cr nf cf vb va hby hvb hva =>
  q2b KB KA len f hlen p hp k nl nr hk hnl hnl2 hnr typ nm hnm _ _ _ _ _ rfl rfl rfl rfl rfl g1 g2 g3 g4 q1 q2 q3 q4 s1 s2 s3 s4 ⟨a2,a3,a4⟩ w a c xl xp xr xf cl np cp cr nf cf vb va hby hvb hva⟩
def setF (m lab:Int)(k:Nat)(x:Fl × FA):Fl × FA:=if (k:Int)=m then ({ x.1 with lb:=lab },x.2) else x
def setT (m lab:Int)(l:List (Fl × FA)):Nat->List (Fl × FA)
 | 0=>[]
 | k+1=>setT m lab l k++[setF m lab k (l.getD k (noFl,noFA))]
theorem qep (m lab:Int)(l:List (Fl × FA)):∀k,(setT m lab l k).length=k
 | 0=>rfl
 | k+1=>by show(setT m lab l k++_).length=_;rw[Yg,qep m lab l k];rfl
theorem qer (m lab:Int)(l:List (Fl × FA)):∀k,k<=l.length->∀x,x∈setT m lab l k->∃j y,y∈l/\x=setF m lab j y
 | 0,_,_,h=>by simp[setT]at h
 | k+1,hk,x,h=>by
  unfold setT at h;rw[Y9]at h;rcases h with h | h
  . exact qer m lab l k (by omega) x h
  . obtain rfl:=Yx.1 h
    exact⟨k,l.getD k (noFl,noFA),by rw[Yl,Yj (by omega)];exact Yk _,rfl⟩
theorem qej {w:World}{base:Nat}{x:Fl × FA}(m lab:Int)(k:Nat)(h:FOw w base x.1 x.2):FOw w base (setF m lab k x).1 (setF m lab k x).2:=by
 unfold setF
 split
 . exact⟨h.b,h.i,h.h,h.v,h.u⟩
 . exact h
theorem q49 (m lab:Int)(w:World)(base:Nat)(hbs:base<=w.heap.size)(l:List (Fl × FA))(hl:l.length<=1000)(xl xp xr xf:Option Addr)(nl cl np cp nr cr cf:Nat)(h:OwF w base (.slice xf l.length cf) l) :
 Calls Tryz.prog 19 #[.agg (Jh xl nl cl xp np cp xr nr cr xf l.length cf),J9 m,J9 lab] w fun e w'=>∃xf' cf',e=.returned (.agg (Jh xl nl cl xp np cp xr nr cr xf' l.length cf'))/\OwF w' base (.slice xf' l.length cf') (setT m lab l l.length)/\Below w.heap.size w w':=by
 have HF:=h_ (qgk h);have HO:=h_ h
 have hb3:Below w.heap.size w (((w.alloc (.cells (Jh xl nl cl xp np cp xr nr cr xf l.length cf) 28)).alloc (.cells Jc 28)).alloc (.cells #[] 42)):=(((bR w.heap.size w).alloc (nR _) _).alloc (by simp) _).alloc (by simp;omega) _
 have hf0:=((Blk.new w 28 (Jh xl nl cl xp np cp xr nr cr xf l.length cf)).alloc (.cells Jc 28)).alloc (.cells #[] 42)
 have hr0:=(Blk.new (w.alloc (.cells (Jh xl nl cl xp np cp xr nr cr xf l.length cf) 28)) 28 Jc).alloc (.cells #[] 42)
 have ho0:(((w.alloc (.cells (Jh xl nl cl xp np cp xr nr cr xf l.length cf) 28)).alloc (.cells Jc 28)).alloc (.cells #[] 42)).ownsRow (w.heap.size+1+1) 42 9 (.slice (some ⟨w.heap.size+1+1,0,none⟩) 0 0) 0 (fdV []) :=
  ⟨rfl,.inr ⟨w.heap.size+1+1,0,_,rfl,nR _,by have:=heap_alloc_new ((w.alloc (.cells (Jh xl nl cl xp np cp xr nr cr xf l.length cf) 28)).alloc (.cells Jc 28)) (.cells #[] 42);simpa using this,nR _,by unfold maxLen;omega,rfl,rfl⟩⟩
 simp only[Yv]at hr0
 obtain⟨W0,hW0⟩:=Nq (((w.alloc (.cells (Jh xl nl cl xp np cp xr nr cr xf l.length cf) 28)).alloc (.cells Jc 28)).alloc (.cells #[] 42))
 have hs0:W0.heap.size=w.heap.size+3:=by rw[<- hW0];simp
 rw[hW0]at hb3 hf0 hr0 ho0
 have HB3:=h_ hb3;have HF0:=h_ hf0;have HR0:=h_ hr0;have HO0:=h_ ho0
 clear h hb3 hf0 hr0 ho0
 go_enter Tryz.func19,Tryz.ntmps19
 go_wp2_with fail
 try rw[hW0]
 clear hW0
 go_loopw [7,8,9] (fun v i _ wr=>∃k:Nat,k<=l.length/\i=J9 k/\wr.ownsRow (w.heap.size+1+1) 42 9 v (setT m lab l k).length (fdV (setT m lab l k))/\Blk wr w.heap.size 28 [.slice xl nl cl,.slice xp np cp,.slice xr nr cr,.slice xf l.length cf]/\Blk wr (w.heap.size+1) 28 J3/\w.heap.size+1+1<=wr.heap.size/\Below w.heap.size w wr) (fun _ i _ _=>l.length - (intOf i).toNat)
 case atStart=>exact⟨0,nZ _,rfl,HO0.u,HF0.u,HR0.u,by omega,HB3.u⟩
 case round =>
  clear HO0 HF0 HR0 HB3;obtain⟨k,hk,rfl,ho,hf,hr,hsz,hb⟩:=hrel;obtain⟨q0,q1,q2,q3⟩:=quad hf;by_cases hlt:k<l.length
  . have hlt':(k:Int)<l.length:=by omega
    obtain⟨b1,o1,hxf,⟨-,z0,z1,z2,z3,z4,z5,z6,z7,z8⟩,-⟩:=(HF.u.mono hb) k (by rw[Yz];exact hlt);obtain⟨⟨u,A⟩,hu⟩:∃x,l[k]=x:=⟨_,rfl⟩;rw[Vh,hu]at z0 z1 z2 z7;rw[Vh,qcg hlt,hu]at z3 z4 z5 z6 z8;dsimp only at z0 z1 z2 z3 z4 z5 z6 z7 z8;have HSt:Hi (setT m lab l (k+1)=setT m lab l k++[setF m lab k (u,A)]):=h_ (by show setT m lab l k++_=_;rw[Yl,Yj hlt,hu];rfl);subst hxf;have hal:=(bR wr.heap.size wr).alloc (nR _) (.cells (Ja u A.b A.bc A.i A.ic A.h A.hc A.v A.vc A.u A.uc) 42);have hX1:Blk _ _ 42 (Jo u A.b A.bc A.i A.ic A.h A.hc A.v A.vc A.u A.uc):=Blk.new wr 42 (Ja u A.b A.bc A.i A.ic A.h A.hc A.v A.vc A.u A.uc);obtain⟨W1,hW1⟩:=Nq (wr.alloc (.cells (Ja u A.b A.bc A.i A.ic A.h A.hc A.v A.vc A.u A.uc) 42));obtain⟨X,hX⟩:=Nq wr.heap.size;rw[hW1]at hX1 hal;rw[hX]at hX1;have HOr:=h_ ho;have HFr:=h_ hf;have HRr:=h_ hr;have HBr:=h_ hb;have HSr:=h_ hsz;have HX1:=h_ hX1;have HAl:=h_ hal;have HW1:=h_ hW1;have HX:=h_ hX;clear hal hu hX1 hW1 hX ho hf hr hb hsz;go_upto_if 25 with fail
    rw[HW1.u,HX.u];clear HW1 q0 q1 q2 q3 z0 z1 z2 z3 z4 z5 z6 z7 z8;by_cases hkm:(k:Int)=m
    . have hkm':((k:Int)==m)=true:=by simp[hkm]
      rw[show setF m lab k (u,A)=({ u with lb:=lab },A) from Yy hkm]at HSt;have c2:=HX1.u.cell 2;have f2:=HX1.u.free 2;obtain⟨V,hV⟩:=Nq (W1.setCell ⟨X,2,none⟩ (J9 lab));have hbV:Below wr.heap.size wr V:=(by rw[<- hV];exact HAl.u.setCell (show wr.heap.size<=X by rw[HX.u];exact nR _) _);have HXv:Hi (Blk V X 42 [.string u.nm,J9 u.ty,J9 lab,.slice A.b u.bys.length A.bc,.slice A.i u.is.length A.ic,.slice A.h u.wh.length A.hc,.slice A.v u.va.length A.vc,.string u.sy,.slice A.u u.mu.length A.uc]):=h_ (by rw[<- hV];exact HX1.u.set 2 (J9 lab));have HOv:=h_ (qap HOr.u hbV);have HFv:=h_ (HFr.u.mono hbV HFr.u.lt);have HRv:=mB HRr hbV;have HBv:=mT HBr hbV;have HSz:=h_ (Ys HSr.u hbV.size);have HV:=h_ hV;clear hV hbV HX HAl HX1 HOr HFr HRr HBr HSr;go_upto_region 8 with fail
      rw[HV.u];clear HV c2 f2;obtain⟨x0,x1,x2,x3,x4,x5,x6,x7,x8⟩:=nine HXv.u;have hal:=(bR V.heap.size V).alloc (nR _) (.cells #[.string u.nm,J9 u.ty,J9 lab,.slice A.b u.bys.length A.bc,.slice A.i u.is.length A.ic,.slice A.h u.wh.length A.hc,.slice A.v u.va.length A.vc,.string u.sy,.slice A.u u.mu.length A.uc] 42);have HN:Hi (Blk _ _ 42 [.string u.nm,J9 u.ty,J9 lab,.slice A.b u.bys.length A.bc,.slice A.i u.is.length A.ic,.slice A.h u.wh.length A.hc,.slice A.v u.va.length A.vc,.string u.sy,.slice A.u u.mu.length A.uc]):=h_ (Blk.new V 42 #[.string u.nm,J9 u.ty,J9 lab,.slice A.b u.bys.length A.bc,.slice A.i u.is.length A.ic,.slice A.h u.wh.length A.hc,.slice A.v u.va.length A.vc,.string u.sy,.slice A.u u.mu.length A.uc]);have HO2:=h_ (qap HOv.u hal);have HF2:=h_ (HFv.u.mono hal HFv.u.lt);have HR2:=mB HRv hal;have HB2:=mT HBv hal;have hsz2:w.heap.size+1+1<=(V.alloc (.cells #[.string u.nm,J9 u.ty,J9 lab,.slice A.b u.bys.length A.bc,.slice A.i u.is.length A.ic,.slice A.h u.wh.length A.hc,.slice A.v u.va.length A.vc,.string u.sy,.slice A.u u.mu.length A.uc] 42)).heap.size:=Ys HSz.u hal.size;clear hal;go_wp2_with (at_builtin;refine qc0 (n:=({ u with lb:=lab },A)) rfl _ _ rfl rfl HO2.u rfl HN.u (by rw[qep];omega) hsz2 ?_);intro v' W4 ho4 hg4 hb4;have HSz4:=h_ (Ys hsz2 hb4.size);have HF4:=h_ ((hg4.block _ HF2.u.lt (fun e=>qdq HO2.u HF2.u (by decide) e.symm)).trans HF2.u);have HR4:=h_ ((hg4.block _ HR2.u.lt (fun e=>qdq HO2.u HR2.u (by decide) e.symm)).trans HR2.u);have HB4:=h_ (HB2.u.trans (hb4.mono (by omega)));have HO4:=h_ ho4;clear ho4 hg4 hb4 x0 x1 x2 x3 x4 x5 x6 x7 x8 HN HO2 HF2 HR2 HB2 HXv HOv HFv HRv HBv HSz hsz2;go_wp2_with fail;go_roundw
      case rel=>exact⟨k+1,by omega,by go_num,by rw[HSt.u,Yg];exact HO4.u,HF4.u,HR4.u,HSz4.u,HB4.u⟩
      case measure=>simp[intOf];omega
    . have hkm':((k:Int)==m)=false:=Yf.2 hkm
      rw[show setF m lab k (u,A)=(u,A) from Yu hkm]at HSt;have hbV:Below wr.heap.size wr W1:=HAl.u;have HXv:Hi (Blk W1 X 42 (Jo u A.b A.bc A.i A.ic A.h A.hc A.v A.vc A.u A.uc)):=h_ HX1.u;have HOv:=h_ (qap HOr.u hbV);have HFv:=h_ (HFr.u.mono hbV HFr.u.lt);have HRv:=mB HRr hbV;have HBv:=mT HBr hbV;have HSz:=h_ (Ys HSr.u hbV.size);clear hbV HX HAl HX1 HOr HFr HRr HBr HSr;obtain⟨x0,x1,x2,x3,x4,x5,x6,x7,x8⟩:=nine HXv.u;have hal:=(bR W1.heap.size W1).alloc (nR _) (.cells (Ja u A.b A.bc A.i A.ic A.h A.hc A.v A.vc A.u A.uc) 42);have HN:Hi (Blk _ _ 42 (Jo u A.b A.bc A.i A.ic A.h A.hc A.v A.vc A.u A.uc)):=h_ (Blk.new W1 42 (Ja u A.b A.bc A.i A.ic A.h A.hc A.v A.vc A.u A.uc));have HO2:=h_ (qap HOv.u hal);have HF2:=h_ (HFv.u.mono hal HFv.u.lt);have HR2:=mB HRv hal;have HB2:=mT HBv hal;have hsz2:w.heap.size+1+1<=(W1.alloc (.cells (Ja u A.b A.bc A.i A.ic A.h A.hc A.v A.vc A.u A.uc) 42)).heap.size:=Ys HSz.u hal.size;clear hal;go_wp2_with (at_builtin;refine qc0 (n:=(u,A)) rfl _ _ rfl rfl HO2.u rfl HN.u (by rw[qep];omega) hsz2 ?_);intro v' W4 ho4 hg4 hb4;have HSz4:=h_ (Ys hsz2 hb4.size);have HF4:=h_ ((hg4.block _ HF2.u.lt (fun e=>qdq HO2.u HF2.u (by decide) e.symm)).trans HF2.u);have HR4:=h_ ((hg4.block _ HR2.u.lt (fun e=>qdq HO2.u HR2.u (by decide) e.symm)).trans HR2.u);have HB4:=h_ (HB2.u.trans (hb4.mono (by omega)));have HO4:=h_ ho4;clear ho4 hg4 hb4 x0 x1 x2 x3 x4 x5 x6 x7 x8 HN HO2 HF2 HR2 HB2 HXv HOv HFv HRv HBv HSz hsz2;go_wp2_with fail;go_roundw
      case rel=>exact⟨k+1,by omega,by go_num,by rw[HSt.u,Yg];exact HO4.u,HF4.u,HR4.u,HSz4.u,HB4.u⟩
      case measure=>simp[intOf];omega
  . obtain rfl:k=l.length:=by omega
    have hlt':¬ (l.length:Int)<(l.length:Int):=(by omega);obtain⟨a',c',ev,-,-⟩:=q8b ho;rw[qep]at ev;subst ev;have c3:=hf.cell 3;have f3:=hf.free 3;obtain⟨V,hV⟩:=Nq (wr.setCell ⟨w.heap.size,3,none⟩ (.slice a' l.length c'));have HFv:Hi (Blk V w.heap.size 28 [.slice xl nl cl,.slice xp np cp,.slice xr nr cr,.slice a' l.length c']):=h_ (by rw[<- hV];exact hf.set 3 _);have HRv:Hi (Blk V (w.heap.size+1) 28 J3):=h_ (by rw[<- hV];exact hr.other _ (show w.heap.size+1≠w.heap.size by omega));have HBv:Hi (Below w.heap.size w V):=h_ (by rw[<- hV];exact hb.setCell (nR _) _);have HOv:Hi (V.ownsRow (w.heap.size+1+1) 42 9 (.slice a' l.length c') (setT m lab l l.length).length (fdV (setT m lab l l.length))):=h_ (by
     rw[<- hV];exact qih ho fun q e=>heap_setCell_other _ _ _ _ (by have:=q87 ho e;show q≠w.heap.size;omega))
    have HV:=h_ hV;clear ho hf hr hb hV hsz;go_upto_region 10 with fail
    rw[HV.u];clear HV c3 f3 q0 q1 q2 q3;obtain⟨q0,q1,q2,q3⟩:=quad HFv.u;have HRr:=h_ (HRv.u.row [.slice xl nl cl,.slice xp np cp,.slice xr nr cr,.slice a' l.length c']);have hbf:=below_setRow HBv.u (show w.heap.size<=w.heap.size+1 by omega) (Jh xl nl cl xp np cp xr nr cr a' l.length c');have HBf:=h_ hbf;have HOf:Hi (OwF (V.setRow (w.heap.size+1) (Jh xl nl cl xp np cp xr nr cr a' l.length c')) base (.slice a' l.length c') (setT m lab l l.length)):=h_
     ⟨qdt (qih HOv.u fun q e=>setRow_other _ _ _ _ (by have:=q87 HOv.u e;omega)) (by omega),fun x hx=>by
      obtain⟨j,y,hy,rfl⟩:=qer m lab l l.length (nR _) x hx;exact qej m lab j ((HO.u.sub y hy).mono hbf)⟩
    clear hbf HOv HBv;go_wp2_with (refine wpList_store_row rfl 28 (.tmp 6) (.tmp 34) rfl (w.heap.size+1) (Jh xl nl cl xp np cp xr nr cr a' l.length c') rfl rfl 28 Jc HRv.u (by kernel_rfl) rfl (by simp[Value.oneCell']) ?_);clear q0 q1 q2 q3;obtain⟨x0,x1,x2,x3⟩:=quad HRr.u;exact bodyPost_ret (v:=.agg (Jh xl nl cl xp np cp xr nr cr a' l.length c')) (by simp[results,Tryz.results19,go_sem,x0,x1,x2,x3]) rfl ⟨a',c',rfl,HOf.u,HBf.u⟩
structure MMk (R:Nat)(m:Fm)(P:List (Fl × FA))(v1 v2 v3 v4:Value)(w W:World):Prop where
 bx:Blk W R 28 [v1,v2,v3,v4]
 ow:OwM W w.heap.size v1 v2 v3 v4 m P
 bl:Below w.heap.size w W
 r0:Blk W w.heap.size 28 J3
 hR:w.heap.size<R
section
variable {R:Nat} {m:Fm} {P:List (Fl × FA)} {v1 v2 v3 v4:Value} {w W W':World}
theorem MMk.mono (h:MMk R m P v1 v2 v3 v4 w W)(hb:Below W.heap.size W W'):MMk R m P v1 v2 v3 v4 w W' :=
 ⟨h.bx.mono hb h.bx.lt,h.ow.mono hb,h.bl.trans (hb.mono h.bl.size),h.r0.mono hb h.r0.lt,h.hR⟩
theorem OwM.formSet {base:Nat}(h:OwM W base v1 v2 v3 v4 m P){cs:List Value}(hb:Blk W R 28 cs)(j:Nat)(v:Value):OwM (W.setCell ⟨R,j,none⟩ v) base v1 v2 v3 v4 m P :=
 h.one hb (by decide) (by decide) (by decide) (by decide) (by decide) (by decide) (fun _ hk=>heap_setCell_other _ _ _ _ hk)
theorem MMk.addL (h:MMk R m P v1 v2 v3 v4 w W){v':Value}{x:ByteArray}(hn:W'.ownsRow w.heap.size 9 1 v' (m.L++[x]).length (stV (m.L++[x])))(hg:W.grownBy W' v1.ownBlock)(hb:Below w.heap.size W W'):MMk R { m with L:=m.L++[x] } P v' v2 v3 v4 w (W'.setCell ⟨R,0,none⟩ v'):=by
 have hk:∀{q:Nat} {zs:List Value},Blk W q 28 zs->Blk W' q 28 zs:=fun hq=>(hg.block _ hq.lt (fun e=>qdq h.ow.l hq (by decide) e.symm)).trans hq
 have hR:=h.hR
 exact⟨(hk h.bx).set 0 _,(h.ow.addL hn hg).formSet (hk h.bx) 0 _,(h.bl.trans hb).setCell (show w.heap.size<=R by omega) _,(hk h.r0).other _ (show w.heap.size≠R by omega),hR⟩
theorem MMk.addP (h:MMk R m P v1 v2 v3 v4 w W){v':Value}{x:Int × Int}(hn:W'.ownsRow w.heap.size 64 2 v' (m.P++[x]).length (pV (m.P++[x])))(hg:W.grownBy W' v2.ownBlock)(hb:Below w.heap.size W W'):MMk R { m with P:=m.P++[x] } P v1 v' v3 v4 w (W'.setCell ⟨R,1,none⟩ v'):=by
 have hk:∀{q:Nat} {zs:List Value},Blk W q 28 zs->Blk W' q 28 zs:=fun hq=>(hg.block _ hq.lt (fun e=>qdq h.ow.p hq (by decide) e.symm)).trans hq
 have hR:=h.hR
 exact⟨(hk h.bx).set 1 _,(h.ow.addP hn hg).formSet (hk h.bx) 1 _,(h.bl.trans hb).setCell (show w.heap.size<=R by omega) _,(hk h.r0).other _ (show w.heap.size≠R by omega),hR⟩
theorem MMk.addR (h:MMk R m P v1 v2 v3 v4 w W){v':Value}{x:Rl}(hn:W'.ownsRow w.heap.size 66 2 v' (m.R++[x]).length (rV' (m.R++[x])))(hg:W.grownBy W' v3.ownBlock)(hb:Below w.heap.size W W'):MMk R { m with R:=m.R++[x] } P v1 v2 v' v4 w (W'.setCell ⟨R,2,none⟩ v'):=by
 have hk:∀{q:Nat} {zs:List Value},Blk W q 28 zs->Blk W' q 28 zs:=fun hq=>(hg.block _ hq.lt (fun e=>qdq h.ow.r hq (by decide) e.symm)).trans hq
 have hR:=h.hR
 exact⟨(hk h.bx).set 2 _,(h.ow.addR hn hg).formSet (hk h.bx) 2 _,(h.bl.trans hb).setCell (show w.heap.size<=R by omega) _,(hk h.r0).other _ (show w.heap.size≠R by omega),hR⟩
theorem MMk.addF (h:MMk R m P v1 v2 v3 v4 w W){v':Value}{x:Fl × FA}(hn:W'.ownsRow w.heap.size 42 9 v' (P++[x]).length (fdV (P++[x])))(hg:W.grownBy W' v4.ownBlock)(hx:FOw W w.heap.size x.1 x.2)(hb:Below w.heap.size W W'):MMk R { m with F:=m.F++[x.1] } (P++[x]) v1 v2 v3 v' w (W'.setCell ⟨R,3,none⟩ v'):=by
 have hk:∀{q:Nat} {zs:List Value},Blk W q 28 zs->Blk W' q 28 zs:=fun hq=>(hg.block _ hq.lt (fun e=>qdq h.ow.f.row hq (by decide) e.symm)).trans hq
 have hR:=h.hR
 exact⟨(hk h.bx).set 3 _,(h.ow.addF hn hg hx).formSet (hk h.bx) 3 _,(h.bl.trans hb).setCell (show w.heap.size<=R by omega) _,(hk h.r0).other _ (show w.heap.size≠R by omega),hR⟩
theorem MMk.fin (h:MMk R m P v1 v2 v3 v4 w W):OwM (W.setRow w.heap.size #[v1,v2,v3,v4]) w.heap.size v1 v2 v3 v4 m P/\Below w.heap.size w (W.setRow w.heap.size #[v1,v2,v3,v4])/\Blk (W.setRow w.heap.size #[v1,v2,v3,v4]) w.heap.size 28 [v1,v2,v3,v4] :=
 ⟨h.ow.one h.r0 (by decide) (by decide) (by decide) (by decide) (by decide) (by decide) (fun k hk=>setRow_other W w.heap.size k #[v1,v2,v3,v4] hk),below_setRow h.bl (nR _) _,h.r0.row [v1,v2,v3,v4]⟩
end
end Go.Proofs.YtebbgodlijlioaaGreatDoor
