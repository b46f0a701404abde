import Derived.Test.YtebbgodlijlioaaGreatDoorW41
import Derived.Test.YtebbgodlijlioaaGreatDoorW39
set_option maxRecDepth 100000
set_option maxHeartbeats 64000000
namespace Go.Proofs.YtebbgodlijlioaaGreatDoor
open Go Go.RowKit
theorem q2m (m:Fm)(A:MA)(w:World)(code:Int)(hc0:code≠0)(hz:SpecZ m.L.length m.P.length (pr1 m) (pr2 m) code)(hf:FitM m)(ha:MSl w m A) :
 Calls Tryz.prog 74 #[mV m A] w fun r w'=>r=.returned (J9 (-1))/\Below w.heap.size w w':=by
 have HCo:=h_ fun W=>q5c m A W hf
 have HZz:=h_ hz
 have HPm:=h_ fun W (hs:MSl W m A)=>qik hs
 have hc0':(code != 0)=true:=by simpa using hc0
 obtain⟨al,alc,ap,apc,ar,arc,af,afc,afa⟩:=A
 unfold mV at HCo⊢
 dsimp only at HCo HPm⊢
 have HK:=h_ (Blk.new w 28 (Jb al m alc ap apc ar arc af afc))
 have HB:=h_ ((bR w.heap.size w).alloc (nR _) (.cells (Jb al m alc ap apc ar arc af afc) 28))
 obtain⟨W0,hW0⟩:=Nq (w.alloc (.cells (Jb al m alc ap apc ar arc af afc) 28))
 rw[hW0]at HK HB
 have HS:=h_ (ha.mono HB.u)
 clear ha hf hz hc0
 obtain⟨y0,y1,y2,y3⟩:=quad HK.u
 go_enter Tryz.func74,Tryz.ntmps74
 go_wp2_with fail
 try rw[hW0]
 refine(HCo.u W0).mono ?_
 rintro r W2 ⟨rfl,hb⟩
 replace HS:=h_ (HS.u.mono hb);replace HB:=mT HB hb
 have HC2:=h_ (HZz.u W2 ap apc (HPm.u W2 HS.u))
 unfold zeroL at HC2
 clear hb hW0 y0 y1 y2 y3
 go_wp2_with fail
 refine HC2.u.mono ?_
 rintro r W3 ⟨rfl,hb⟩
 replace HB:=mT HB hb
 have HB3:=h_ (HB.u.alloc HB.u.size (.cells Jd 35))
 clear hb
 go_wp2_with fail
 go_ret
 exact⟨rfl,HB3.u⟩
theorem q9j {m:Fm}{n:Nat}{F:Nat->Bool}{f g:Nat->Nat}(h:∀k,k<m.F.length->f k=g k):∀k,k<m.F.length->(DownS m n F f k ↔ DownS m n F g k):=fun k hk=>by
 unfold DownS
 rw[h k hk]
 exact⟨fun⟨h0,j,hj,ha,hF⟩=>⟨h0,j,hj,ha,by rw[<- h j hj];exact hF⟩,fun⟨h0,j,hj,ha,hF⟩=>⟨h0,j,hj,ha,by rw[h j hj];exact hF⟩⟩
theorem qgd (m:Fm)(hf:FitM m)(hl:LbA m)(hp:m.P.length<=1048576):∃z:Int,(-1<=z/\z<m.F.length)/\∀(w:World) (A:MA),MSl w m A ->
 Calls Tryz.prog 74 #[mV m A] w fun r w'=>r=.returned (J9 z)/\Below w.heap.size w w':=by
 rcases dich2 m.L.length m.P.length (pr1 m) (pr2 m) hp with ⟨code,h0,h1,-⟩ | ⟨s,F,J,M,bot,top,-,⟨n,bt,tp,hL⟩,h1,-⟩
 . exact⟨-1,⟨by omega,by omega⟩,fun w A ha=>q2m m A w code h0 h1 hf ha⟩
 by_cases hE:∃f,Sol m n (fun a b=>F (a*n+b)=true) f/\Low m n (fun a b=>F (a*n+b)=true) f
 . obtain⟨f,s1,s2⟩:=hE
   obtain⟨z,hz⟩:=Fst.ex (DownS m n F f) m.F.length;refine⟨z,hz.bounds,fun w A ha=>(q2l m A w bot top s n bt tp F J M hl h1 hL hf ha).mono fun r w' ⟨z',g,e,g1,g2,hz',hb⟩=>⟨?_,hb⟩⟩;rw[e,(hz'.iff (q9j (qac (qhk hL) g1 s1 g2 s2))).one hz]
 . exact⟨-1,⟨by omega,by omega⟩,fun w A ha=>(q2l m A w bot top s n bt tp F J M hl h1 hL hf ha).mono fun r w' ⟨z',g,e,g1,g2,hz',hb⟩=>absurd ⟨g,g1,g2⟩ hE⟩
theorem qcq (m:Fm)(hf:FitM m):∃ls:List Int,(ls.length=0∨ls.length=m.F.length)/\(∀x,x∈ls->0<=x/\x<m.L.length)/\∀(w:World) (A:MA),MSl w m A ->
 Calls Tryz.prog 75 #[mV m A] w fun r w'=>∃a0 c0,r=.returned (.slice a0 ls.length c0)/\IntL w' a0 ls/\Below w.heap.size w w':=by
 have zc:(vfB m=true->∃code,code≠0/\SpecZ m.L.length m.P.length (pr1 m) (pr2 m) code)->∃ls:List Int,(ls.length=0∨ls.length=m.F.length)/\(∀x,x∈ls->0<=x/\x<m.L.length)/\∀(w:World) (A:MA),MSl w m A ->
  Calls Tryz.prog 75 #[mV m A] w fun r w'=>∃a0 c0,r=.returned (.slice a0 ls.length c0)/\IntL w' a0 ls/\Below w.heap.size w w':=fun h =>
  ⟨[],.inl rfl,fun x hx=>by simp at hx,fun w A ha=>(q60 m A w (fun W' hs'=>q0e m A W' hf hs') h hf ha).mono fun r w' ⟨a0,c0,e,hb⟩=>⟨a0,c0,e,fun k hk=>absurd hk (nL _),hb⟩⟩
 cases hq:vfB m
 . exact zc fun h=>by rw[hq]at h;cases h
 have hv:VfA m:=Classical.byContradiction fun hn=>by rw[qbu hn]at hq;cases hq
 rcases dich2 m.L.length m.P.length (pr1 m) (pr2 m) (by have:=hv.np;omega) with ⟨code,h0,h1,-⟩ | ⟨s,F,J,M,bot,top,-,⟨n,bt,tp,hL⟩,h1,-⟩
 . exact zc fun _=>⟨code,h0,h1⟩
 by_cases hE:∃f,Sol m n (fun a b=>F (a*n+b)=true) f/\Low m n (fun a b=>F (a*n+b)=true) f
 . obtain⟨f,s1,s2⟩:=hE
   refine⟨(lsL f m.F.length).map fun x:Nat=>(x:Int),.inr (by rw[Yz,qhy]),fun x hx=>?_,fun w A ha=>(q5z m A w bot top s n bt tp F J M (fun W' hs'=>q0e m A W' hf hs') hq hv h1 hL hf ha).mono fun r w' ⟨g,a0,c0,e,g1,g2,hp,hb⟩=>⟨a0,c0,?_,?_,hb⟩⟩
   . obtain⟨y,hy,rfl⟩:=Y8.1 hx
     obtain⟨k,hk,rfl⟩:=Y8.1 hy;have:=s1.lt k (Zb.1 hk);have:=hL.hN;omega
   . rw[Yz,qhy];exact e
   . have hc:lsL g m.F.length=lsL f m.F.length:=qad (qac (qhk hL) g1 s1 g2 s2)
     rw[<- hc];exact hp
 . exact⟨[],.inl rfl,fun x hx=>by simp at hx,fun w A ha=>(q5z m A w bot top s n bt tp F J M (fun W' hs'=>q0e m A W' hf hs') hq hv h1 hL hf ha).mono fun r w' ⟨g,a0,c0,e,g1,g2,hp,hb⟩=>absurd ⟨g,g1,g2⟩ hE⟩
theorem lat_ex (N:Nat)(h1:1<=N)(l:List (Int × Int))(hl:l.length<=1048576):∃bot top:Int,(0<=bot/\bot<N)/\(0<=top/\top<N)/\∀(w:World) (X:Option Addr) (c:Nat),Prs w X l ->
 Calls Tryz.prog 8 #[.agg (Jn N X l.length c)] w fun e w'=>∃n0 a1 l1 c1 a2 l2 c2 a3 l3 c3 code,e=.returned (.tuple #[.agg #[J9 n0,.slice a1 l1 c1,.slice a2 l2 c2,.slice a3 l3 c3,J9 bot,J9 top],J9 code])/\Below w.heap.size w w':=by
 rcases dich2 N l.length (fun k=>(l.getD k (0,0)).1) (fun k=>(l.getD k (0,0)).2) hl with ⟨code,-,h,-⟩ | ⟨s,F,J,M,bot,top,-,⟨n,bt,tp,hL⟩,h,-⟩
 . exact⟨0,0,⟨by omega,by omega⟩,⟨by omega,by omega⟩,fun w X c hp=>(h w X c (qdx hp)).mono fun e w' ⟨e1,hb⟩=>⟨0,none,0,0,none,0,0,none,0,0,code,e1,hb⟩⟩
 . have:=hL.hN;have:=hL.hb;have:=hL.ht;have:=hL.bb;have:=hL.tt
   exact⟨bot,top,⟨by omega,by omega⟩,⟨by omega,by omega⟩,fun w X c hp=>(h w X c (qdx hp)).mono fun e w' ⟨a1,a2,a3,c1,c2,c3,e1,_,_,_,hb⟩=>⟨N,a1,s,c1,a2,s,c2,a3,s,c3,0,e1,hb⟩⟩
theorem qed {α:Type}(g:Nat->α)(k:Nat):(List.range (k+1)).map g=(List.range k).map g++[g k]:=by rw[Zg,Zf];rfl
theorem qj5 {α:Type}(g:Nat->α)(k:Nat):((List.range k).map g).length=k:=by rw[Yz,List.length_range]
def pkK (ty:Nat->Int)(nm:Nat->ByteArray):Nat->Int->List ByteArray
 | 0=>fun _=>[]
 | k+1=>addK (pkK ty nm k) (ty k) (nm k)
theorem pkK_in {ty:Nat->Int}{nm:Nat->ByteArray}:∀k kind,(pkK ty nm k kind).length<=k/\∀x,x∈pkK ty nm k kind->∃i,i<k/\x=nm i
 | 0,_=>⟨nZ _,fun x hx=>by simp[pkK]at hx⟩
 | k+1,kind=>by
  have ih:=pkK_in (ty:=ty) (nm:=nm) k kind;unfold pkK addK;by_cases h:kind=ty k
  . rw[Yy h,Yg]
    refine⟨by have:=ih.1;show _+1<=k+1;omega,fun x hx=>?_⟩;rw[Y9]at hx;rcases hx with hx | hx
    . obtain⟨i,h1,h2⟩:=ih.2 x hx
      exact⟨i,by omega,h2⟩
    . exact⟨k,by omega,Yx.1 hx⟩
  . rw[Yu h]
    refine⟨by have:=ih.1;omega,fun x hx=>?_⟩;obtain⟨i,h1,h2⟩:=ih.2 x hx;exact⟨i,by omega,h2⟩
theorem pkK_ok {ty:Nat->Int}{nm:Nat->ByteArray}{k:Nat}(hk:k<=1000)(h:∀i,i<=1000->(nm i).size<=64):PkOk (pkK ty nm k):=fun kind=>by
 have one:∀kd,(pkK ty nm k kd).length<=1000/\∀x,x∈pkK ty nm k kd->x.size<=64:=fun kd=>by
  have:=pkK_in (ty:=ty) (nm:=nm) k kd;refine⟨by omega,fun x hx=>?_⟩;obtain⟨i,h1,rfl⟩:=this.2 x hx;exact h i (by omega)
 unfold nms
 by_cases h1:kind=1
 . rw[Yy h1];exact one 1
 . rw[Yu h1]
   by_cases h2:kind=2
   . rw[Yy h2];exact one 2
   . rw[Yu h2];exact one 3
def setG (m lab:Int)(k:Nat)(x:Fl):Fl:=if (k:Int)=m then { x with lb:=lab } else x
def setL (m lab:Int)(l:List Fl):Nat->List Fl
 | 0=>[]
 | k+1=>setL m lab l k++[setG m lab k (l.getD k noFl)]
theorem qen (m lab:Int)(l:List Fl):∀k,(setL m lab l k).length=k
 | 0=>rfl
 | k+1=>by show(setL m lab l k++_).length=_;rw[Yg,qen m lab l k];rfl
theorem qeo (m lab:Int)(l:List Fl):∀k,k<=l.length->∀x,x∈setL m lab l k->∃j y,y∈l/\x=setG m lab j y
 | 0,_,_,h=>by simp[setL]at h
 | k+1,hk,x,h=>by
  unfold setL at h;rw[Y9]at h;rcases h with h | h
  . exact qeo m lab l k (by omega) x h
  . obtain rfl:=Yx.1 h
    exact⟨k,l.getD k noFl,by rw[Yl,Yj (by omega)];exact Yk _,rfl⟩
theorem qek (m lab:Int)(k:Nat)(x:Fl × FA):(setF m lab k x).1=setG m lab k x.1:=by unfold setF setG;split <;> rfl
theorem qcn (l:List (Fl × FA))(k:Nat):(l.getD k (noFl,noFA)).1=(l.map (·.1)).getD k noFl:=by
 rw[Yl,Yl,Zk]
 cases l[k]? <;> rfl
theorem qeq (m lab:Int)(l:List (Fl × FA)):∀k,(setT m lab l k).map (·.1)=setL m lab (l.map (·.1)) k
 | 0=>rfl
 | k+1=>by
  show(setT m lab l k++[_]).map _=setL m lab (l.map (·.1)) k++[_];rw[Zf,qeq m lab l k,<- qcn,<- qek];rfl
def FFs (nl nr:Nat)(l:List Fl):Prop:=∀x,x∈l->FFit nl nr x
theorem qem {m lab:Int}{l:List Fl}{nl nr:Nat}(h:FFs nl nr l)(hl:-1<=lab/\lab<nl):FFs nl nr (setL m lab l l.length):=fun x hx=>by
 obtain⟨j,y,hy,rfl⟩:=qeo m lab l l.length (nR _) x hx
 have g:=h y hy
 unfold setG
 split
 . exact⟨g.nm,g.ty,hl,g.bs,g.is,g.wh,g.va,g.sy,g.mu⟩
 . exact g
structure SD where
 N:Nat
 lp:List (Int × Int)
 q0:Nat
 nn:Nat
 bot:Int
 top:Int
 lnm:Nat->ByteArray
 rnm:Nat->ByteArray
 fnm:Nat->ByteArray
 g:Nat->Fl
 pq:Nat->Nat
 zz:Nat->Int
 FL:Nat->List Fl
 ls:List Int
 FM:Nat->List Fl
def tyX (x:Nat):Int:=if x=3∨x=4 then 2 else if x=5 then 3 else 1
theorem tyX_in (x:Nat):tyX x=1∨tyX x=2∨tyX x=3:=by
 unfold tyX;split
 · exact .inr (.inl rfl)
 · split
   · exact .inr (.inr rfl)
   · exact .inl rfl
section
variable (len:Nat) (f:Nat->Nat) (D:SD)
def rlX (i:Nat):Int:=if 0<tkD len f (D.q0+2+2*i) 3/\i=1 then D.top else if 0<tkD len f (D.q0+2+2*i) 3/\i=0/\0<D.nn then D.bot else ((tkD len f (D.q0+1+2*i) D.N:Nat):Int)
def SD.lab (k:Nat):List ByteArray:=(List.range k).map D.lnm
def rolX (k:Nat):List Rl:=(List.range k).map fun i=>⟨D.rnm i,rlX len f D i⟩
def SD.p2:Nat:=D.q0+1+2*(D.nn+1)
def tyD (k:Nat):Int:=tyX (tkD len f (D.p2+k) 6)
def tysX (k:Nat):List Int:=(List.range k).map (tyD len f D)
def fmX (l:List Fl):Fm:=⟨D.lab D.N,D.lp,rolX len f D (D.nn+1),l⟩
def finX (k:Nat):List Fl:=if tkD len f (D.pq k+D.ls.length) 3=0/\1<k then (D.FM D.ls.length).reverse else D.FM D.ls.length
structure SDok (p flds:Nat):Prop where
 hN1:1<=D.N
 hN2:D.N<=100
 hlp:D.lp.length<=200
 hq0:D.q0<=p+11
 cD:∀(w:World) (a:Option Addr) (c:Nat),Byts w a len f->Calls Tryz.prog 68 #[.slice a len c,J9 p] w fun e w'=>OrdOut2 w D.N D.lp D.q0 e w'
 cL:∀i:Nat,i<=1000->∀w:World,Calls Tryz.prog 69 #[J9 i] w fun e w'=>e=.returned (.string (D.lnm i))/\Below w.heap.size w w'
 hnn:D.nn=if 0<tkD len f D.q0 10 then 1+tkD len f D.q0 10 % 3 else 0
 hn3:D.nn<=3
 cB:∀(w:World) (X:Option Addr) (c:Nat),Prs w X D.lp->Calls Tryz.prog 8 #[.agg (Jn D.N X D.lp.length c)] w fun e w'=>∃n0 a1 l1 c1 a2 l2 c2 a3 l3 c3 code,e=.returned (.tuple #[.agg #[J9 n0,.slice a1 l1 c1,.slice a2 l2 c2,.slice a3 l3 c3,J9 D.bot,J9 D.top],J9 code])/\Below w.heap.size w w'
 cR:∀i:Nat,i<=1000->∀w:World,Calls Tryz.prog 70 #[J9 i] w fun e w'=>e=.returned (.string (D.rnm i))/\Below w.heap.size w w'
 cN:∀i:Nat,i<=1000->∀w:World,Calls Tryz.prog 72 (Jt i) w fun e w'=>e=.returned (.string (D.fnm i))/\Below w.heap.size w w'
 pq0:D.pq 0=D.p2+flds
 hpq:∀k,k<=flds->D.pq k<=100000
 cF:∀k:Nat,k<flds->∀(w:World) (a:Option Addr) (c:Nat) (xl xp xr xf:Option Addr) (cl np cp cr nf cf:Nat) (vb va:Value),Byts w a len f->PickV (pkK (tyD len f D) D.fnm k) w vb->PickV (pkK (tyD len f D) D.fnm flds) w va ->
  Calls Tryz.prog 73 #[.slice a len c,J9 (D.pq k),.agg (Jh xl D.N cl xp np cp xr (D.nn+1:Nat) cr xf nf cf),J9 k,J9 (tyD len f D k),vb,va] w fun e w'=>∃A,e=.returned (.tuple #[fV (D.g k) A,J9 (D.pq (k+1))])/\FOw w' w.heap.size (D.g k) A/\Below w.heap.size w w'
 gnm:∀k,k<flds->(D.g k).nm=D.fnm k
 FL0:D.FL 0=(List.range flds).map D.g
 FLs:∀i,D.FL (i+1)=if 0<=D.zz i then setL (D.zz i) (-1) (D.FL i) flds else D.FL i
 FLl:∀i,(D.FL i).length=flds
 cZ:∀i,i<flds->∀(w:World) (A:MA),MSl w (fmX len f D (D.FL i)) A->Calls Tryz.prog 74 #[mV (fmX len f D (D.FL i)) A] w fun r w'=>r=.returned (J9 (D.zz i))/\Below w.heap.size w w'
 hls:D.ls.length<=flds
 cI:∀(w:World) (A:MA),MSl w (fmX len f D (D.FL flds)) A->Calls Tryz.prog 75 #[mV (fmX len f D (D.FL flds)) A] w fun r w'=>∃a0 c0,r=.returned (.slice a0 D.ls.length c0)/\IntL w' a0 D.ls/\Below w.heap.size w w'
 FM0:D.FM 0=D.FL flds
 FMs:∀k,k<D.ls.length->D.FM (k+1)=if tkD len f (D.pq flds+k) 4=0/\((D.FM k).getD k noFl).lb<0 then setL k (D.ls.getD k 0) (D.FM k) flds else D.FM k
 FMl:∀k,k<=D.ls.length->(D.FM k).length=flds
end
end Go.Proofs.YtebbgodlijlioaaGreatDoor
