import Derived.Test.YtebbgodlijlioaaGreatDoorW42
set_option maxRecDepth 100000
set_option maxHeartbeats 64000000
namespace Go.Proofs.YtebbgodlijlioaaGreatDoor
open Go Go.RowKit
def pqR (G:Nat->Nat->Fl × Nat)(p0:Nat):Nat->Nat
 | 0=>p0
 | k+1=>(G k (pqR G p0 k)).2
def flR (Z:List Fl->Int)(flds:Nat)(l0:List Fl):Nat->List Fl
 | 0=>l0
 | i+1=>if 0<=Z (flR Z flds l0 i) then setL (Z (flR Z flds l0 i)) (-1) (flR Z flds l0 i) flds else flR Z flds l0 i
def fmR (len:Nat)(f:Nat->Nat)(p0 flds:Nat)(ls:List Int)(l0:List Fl):Nat->List Fl
 | 0=>l0
 | k+1=>if tkD len f (p0+k) 4=0/\((fmR len f p0 flds ls l0 k).getD k noFl).lb<0 then setL k (ls.getD k 0) (fmR len f p0 flds ls l0 k) flds else fmR len f p0 flds ls l0 k
structure FmFit (N nr:Nat)(m:Fm):Prop where
 ll:m.L.length=N
 l:∀x,x∈m.L->x.size<=64
 pl:m.P.length<=200
 rl:m.R.length=nr
 r:∀x,x∈m.R->x.nm.size<=64
 fs:FFs N nr m.F
 fl:m.F.length<=100
theorem FmFit.fit {N nr:Nat}{m:Fm}(h:FmFit N nr m)(hN:N<=100)(hr:nr<=1000):FitM m:=by
 have:=h.ll;have:=h.pl;have:=h.rl;have:=h.fl
 exact⟨by omega,by omega,by omega,by omega,fun x hx=>Ys (h.l x hx) (by decide),fun x hx=>Ys (h.r x hx) (by decide),fun x hx=>(h.fs x hx).fit hr⟩
theorem FmFit.lba {N nr:Nat}{m:Fm}(h:FmFit N nr m):LbA m:=by
 have:=h.fl
 refine⟨by omega,fun k hk=>?_⟩
 rw[qge hk,h.ll]
 exact(h.fs _ (Yk hk)).lb
theorem qgl {len:Nat}{f:Nat->Nat}{D:SD}(hl:∀i,i<=1000->(D.lnm i).size<=64)(hr:∀i,i<=1000->(D.rnm i).size<=64)(hN:D.N<=100)(hn:D.nn<=3)(hp:D.lp.length<=200){l:List Fl}(hs:FFs D.N (D.nn+1) l)(h100:l.length<=100):FmFit D.N (D.nn+1) (fmX len f D l):=by
 refine⟨qj5 _ _,fun x hx=>?_,hp,qj5 _ _,fun x hx=>?_,hs,h100⟩
 . obtain⟨i,hi,rfl⟩:=Y8.1 hx
   have:=Zb.1 hi;exact hl i (by omega)
 . obtain⟨i,hi,rfl⟩:=Y8.1 hx
   have:=Zb.1 hi;exact hr i (by omega)
theorem snd_ex (len:Nat)(f:Nat->Nat)(hlen:len<=1048576)(p:Nat)(hp:p<=1000)(flds:Nat)(hfl:flds<=20):∃D:SD,SDok len f D p flds/\FmFit D.N (D.nn+1) (fmX len f D (finX len f D flds))/\(finX len f D flds).length=flds:=by
 obtain⟨N,lp,q0,hN1,hN2,hlp,hq0,cD⟩:=qgc len f p hlen hp
 obtain⟨lnm,hln⟩:=qdh q0z
 obtain⟨rnm,hrn⟩:=qdh q1y
 obtain⟨fnm,hfn⟩:=qdh (fun i hi=>q3r ⟨#[97,98,99,100,101,102,103,104]⟩ i (by decide) (by decide) hi)
 obtain⟨bot,top,hbo,hto,cB⟩:=lat_ex N hN1 lp (by omega)
 obtain⟨nn,hnn⟩:∃nn,nn=if 0<tkD len f q0 10 then 1+tkD len f q0 10 % 3 else 0:=⟨_,rfl⟩
 have hn3:nn<=3:=by rw[hnn];split <;> omega
 obtain⟨D0,hD0⟩:∃D0:SD,D0=⟨N,lp,q0,nn,bot,top,lnm,rnm,fnm,fun _=>noFl,fun _=>0,fun _=>0,fun _=>[],[],fun _=>[]⟩:=⟨_,rfl⟩
 have hP2:D0.p2<=p+11+9:=by rw[hD0];show q0+1+2*(nn+1)<=_;omega
 have hG:∀k q:Nat,∃gq:Fl × Nat,k<flds->q<=50000->FFit N (nn+1) gq.1/\gq.1.nm=fnm k/\gq.2<=q+800/\∀(w:World) (a:Option Addr) (c:Nat) (xl xp xr xf:Option Addr) (cl np cp cr nf cf:Nat) (vb va:Value),Byts w a len f->PickV (pkK (tyD len f D0) fnm k) w vb->PickV (pkK (tyD len f D0) fnm flds) w va ->
  Calls Tryz.prog 73 #[.slice a len c,J9 q,.agg (Jh xl N cl xp np cp xr (nn+1:Nat) cr xf nf cf),J9 k,J9 (tyD len f D0 k),vb,va] w fun e w'=>∃A,e=.returned (.tuple #[fV gq.1 A,J9 gq.2])/\FOw w' w.heap.size gq.1 A/\Below w.heap.size w w':=fun k q=>by
  by_cases hk:k<flds
  . by_cases hq:q<=50000
    . obtain⟨g,q',h1,h2,-,-,h3,h4⟩:=q38 (pkK_ok (ty:=tyD len f D0) (nm:=fnm) (k:=k) (by omega) (fun i hi=>(hfn i hi).1)) (pkK_ok (ty:=tyD len f D0) (nm:=fnm) (k:=flds) (by omega) (fun i hi=>(hfn i hi).1)) len f hlen q (by omega) k N (nn+1) (by omega) hN1 (by omega) (by omega) (tyD len f D0 k) (tyX_in _) (fnm k) (hfn k (by omega)).1 (hfn k (by omega)).2
      exact⟨(g,q'),fun _ _=>⟨h1,h2,h3,h4⟩⟩
    . exact⟨(noFl,0),fun _ h=>absurd h hq⟩
  . exact⟨(noFl,0),fun h=>absurd h hk⟩
 obtain⟨G,hG⟩:∃G:Nat->Nat->Fl × Nat,∀k q:Nat,k<flds->q<=50000->FFit N (nn+1) (G k q).1/\(G k q).1.nm=fnm k/\(G k q).2<=q+800/\∀(w:World) (a:Option Addr) (c:Nat) (xl xp xr xf:Option Addr) (cl np cp cr nf cf:Nat) (vb va:Value),Byts w a len f->PickV (pkK (tyD len f D0) fnm k) w vb->PickV (pkK (tyD len f D0) fnm flds) w va ->
  Calls Tryz.prog 73 #[.slice a len c,J9 q,.agg (Jh xl N cl xp np cp xr (nn+1:Nat) cr xf nf cf),J9 k,J9 (tyD len f D0 k),vb,va] w fun e w'=>∃A,e=.returned (.tuple #[fV (G k q).1 A,J9 (G k q).2])/\FOw w' w.heap.size (G k q).1 A/\Below w.heap.size w w':=⟨fun k q=>Classical.choose (hG k q),fun k q=>Classical.choose_spec (hG k q)⟩
 obtain⟨p0,hp0⟩:∃p0,p0=D0.p2+flds:=⟨_,rfl⟩
 have hpq:∀k,k<=flds->pqR G p0 k<=p0+800*k:=fun k=>by
  induction k with
  | zero=>intro _;exact nR _
  | succ k ih =>
   intro hk;have h1:=ih (by omega);have h2:=(hG k (pqR G p0 k) (by omega) (by omega)).2.2.1;show(G k (pqR G p0 k)).2<=p0+800*(k+1);rw[Nat.mul_succ,<- Nat.add_assoc];exact Ys h2 (Nat.add_le_add_right h1 800)
 obtain⟨l0,hl0⟩:∃l0,l0=(List.range flds).map fun k=>(G k (pqR G p0 k)).1:=⟨_,rfl⟩
 have hf0:FFs N (nn+1) l0:=fun x hx=>by
  rw[hl0]at hx;obtain⟨k,hk,rfl⟩:=Y8.1 hx;have hk:=Zb.1 hk;have:=hpq k (by omega);exact(hG k (pqR G p0 k) hk (by omega)).1
 have hF:∀{l:List Fl},FFs N (nn+1) l->l.length=flds->FmFit N (nn+1) (fmX len f D0 l):=fun {l} h1 h2=>by
  subst hD0;exact qgl (D:=⟨N,lp,q0,nn,bot,top,lnm,rnm,fnm,fun _=>noFl,fun _=>0,fun _=>0,fun _=>[],[],fun _=>[]⟩) (fun i hi=>(hln i hi).1) (fun i hi=>(hrn i hi).1) hN2 hn3 hlp h1 (by omega)
 have hZ:∀l:List Fl,∃z:Int,FFs N (nn+1) l->l.length=flds->∀(w:World) (A:MA),MSl w (fmX len f D0 l) A->Calls Tryz.prog 74 #[mV (fmX len f D0 l) A] w fun r w'=>r=.returned (J9 z)/\Below w.heap.size w w':=fun l=>by
  by_cases h:FFs N (nn+1) l/\l.length=flds
  . have hm:=hF h.1 h.2
    obtain⟨z,-,hc⟩:=qgd _ (hm.fit hN2 (by omega)) hm.lba (by have:=hm.pl;omega);exact⟨z,fun _ _=>hc⟩
  . exact⟨0,fun h1 h2=>absurd ⟨h1,h2⟩ h⟩
 obtain⟨Z,hZ⟩:∃Z:List Fl->Int,∀l:List Fl,FFs N (nn+1) l->l.length=flds->∀(w:World) (A:MA),MSl w (fmX len f D0 l) A->Calls Tryz.prog 74 #[mV (fmX len f D0 l) A] w fun r w'=>r=.returned (J9 (Z l))/\Below w.heap.size w w':=⟨fun l=>Classical.choose (hZ l),fun l=>Classical.choose_spec (hZ l)⟩
 have hFL:∀i,FFs N (nn+1) (flR Z flds l0 i)/\(flR Z flds l0 i).length=flds:=fun i=>by
  induction i with
  | zero=>exact⟨hf0,by show l0.length=flds;rw[hl0,qj5]⟩
  | succ i ih =>
   unfold flR;split
   . refine⟨?_,qen _ _ _ _⟩
     have:=qem (m:=Z (flR Z flds l0 i)) (lab:=-1) ih.1 ⟨by omega,by omega⟩
     rwa [ih.2]at this
   . exact ih
 have hmI:=hF (hFL flds).1 (hFL flds).2
 obtain⟨ls,hls,hlr,cI⟩:=qcq _ (hmI.fit hN2 (by omega))
 have hls2:ls.length<=flds:=by have:(fmX len f D0 (flR Z flds l0 flds)).F.length=flds:=(hFL flds).2;omega
 have hFM:∀k,k<=ls.length->FFs N (nn+1) (fmR len f (pqR G p0 flds) flds ls (flR Z flds l0 flds) k)/\(fmR len f (pqR G p0 flds) flds ls (flR Z flds l0 flds) k).length=flds:=fun k=>by
  induction k with
  | zero=>intro _;exact hFL flds
  | succ k ih =>
   intro hk;have ih:=ih (by omega);unfold fmR;split
   . refine⟨?_,qen _ _ _ _⟩
     have hx:=hlr (ls.getD k 0) (by rw[Yl,Yj (by omega)];exact Yk _);rw[hmI.ll]at hx;have:=qem (m:=k) (lab:=ls.getD k 0) ih.1 ⟨by omega,by omega⟩
     rwa [ih.2]at this
   . exact ih
 subst hD0
 refine⟨⟨N,lp,q0,nn,bot,top,lnm,rnm,fnm,fun k=>(G k (pqR G p0 k)).1,pqR G p0,fun i=>Z (flR Z flds l0 i),flR Z flds l0,ls,fmR len f (pqR G p0 flds) flds ls (flR Z flds l0 flds)⟩,?_,?_,?_⟩
 . refine⟨hN1,hN2,hlp,hq0,cD,fun i hi=>(hln i hi).2,hnn,hn3,cB,fun i hi=>(hrn i hi).2,fun i hi=>(hfn i hi).2,hp0,fun k hk=>?_,fun k hk=>?_,fun k hk=>?_,hl0,fun i=>rfl,fun i=>(hFL i).2,fun i _=>hZ _ (hFL i).1 (hFL i).2,hls2,cI,rfl,fun k _=>rfl,fun k hk=>(hFM k hk).2⟩
   . have:=hpq k hk
     show pqR G p0 k<=100000;omega
   . have:=hpq k (by omega)
     exact(hG k (pqR G p0 k) hk (by omega)).2.2.2
   . have:=hpq k (by omega)
     exact(hG k (pqR G p0 k) hk (by omega)).2.1
 . refine qgl (fun i hi=>(hln i hi).1) (fun i hi=>(hrn i hi).1) hN2 hn3 hlp ?_ ?_
   . unfold finX
     have h:=(hFM ls.length (nR _)).1;split
     . exact fun x hx=>h x (Oa.1 hx)
     . exact h
   . unfold finX
     have h:=(hFM ls.length (nR _)).2;split
     . rw[Y6];show(fmR len f (pqR G p0 flds) flds ls (flR Z flds l0 flds) ls.length).length<=100;omega
     . show(fmR len f (pqR G p0 flds) flds ls (flR Z flds l0 flds) ls.length).length<=100;omega
 . unfold finX
   have h:=(hFM ls.length (nR _)).2;split
   . rw[Y6];exact h
   . exact h
end Go.Proofs.YtebbgodlijlioaaGreatDoor
