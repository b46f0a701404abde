import Derived.Test.YtgojgjlninakjaaGreatDoorW39
import Derived.Test.YtgojgjlninakjaaGreatDoorW30
set_option maxRecDepth 100000
set_option maxHeartbeats 64000000
namespace Go.Proofs.YtgojgjlninakjaaGreatDoor
open Go Go.RowKit
def fitB (f:Fl)(v:Vx):Bool:=okVal v.k v.n v.s&&(decide (v.k=0)||decide (v.k=f.ty))
def entB (m:Fm)(x:Ex):Bool:=decide (0<=x.r/\x.r<m.R.length)&&(decide (0<=x.f/\x.f<m.F.length)&&(decide ((fAt m x.f.toNat).is.length=0)&&fitB (fAt m x.f.toNat) x.v))
theorem qca {m:Fm}{x:Ex}(h:entB m x=true):(0<=x.r/\x.r<m.R.length)/\(0<=x.f/\x.f<m.F.length)/\okVal x.v.k x.v.n x.v.s=true:=by
 unfold entB fitB at h
 simp only[Yf,Yh]at h
 exact⟨h.1,h.2.1,h.2.2.2.1⟩
def rnm (m:Fm)(r:Nat):ByteArray:=(m.R.getD r noRl).nm
def lnB (m:Fm)(x:Ex)(i:Nat):List UInt8:=Lib.itoa i++([32]++(sb (rnm m x.r.toNat)++([32]++(sb (fAt m x.f.toNat).nm++([32]++(sb (showB x.v.k x.v.n x.v.s)++[10]))))))
def lnL (m:Fm)(l:List Ex):List UInt8:=l.zipIdx.flatMap fun p=>lnB m p.1 (p.2+1)
theorem qh2 (m:Fm)(l:List Ex)(x:Ex):lnL m (l++[x])=lnL m l++lnB m x (l.length+1):=by
 unfold lnL
 rw[List.zipIdx_append,Vl]
 simp
theorem qin (kind num:Int)(s:ByteArray)(h:okVal kind num s=true)(h0:-9223372036854775808<=num)(h1:num<=9223372036854775807):(showB kind num s).size<=1050:=by
 have hi:=qd0 num h0 h1
 unfold showB
 rw[Yv h]
 unfold okVal at h
 by_cases k0:kind=0
 . rw[Yv k0];simp only[bsz,Y8,Yl,Yt];omega
 rw[Yn k0]at h⊢
 by_cases k1:kind=1
 . rw[Yv k1];omega
 rw[Yn k1]at h⊢
 by_cases k2:kind=2
 . rw[Yv k2];split <;> simp only[bsz,Y8,Yl,Yt] <;> omega
 rw[Yn k2]at h⊢
 by_cases k3:kind=3
 . rw[Yv k3]at h⊢;simp only[Yf,Yh]at h
   have:=(q9w.1 h.2).1;simp only[Yi,bsz,Y8,Yl,Yt];omega
 rw[Yn k3]at h⊢
 simp only[Yi]
 have e:(⟨#[33]⟩:ByteArray).size=1:=rfl
 omega
theorem q9g (m:Fm)(A:MA)(w:World)(P0:Int->Int->Prop)(hC:∀W,MSl W m A->Calls Tryz.prog 39 #[mV m A] W fun r w'=>∃c a,r=.returned (dgV c a)/\P0 c a/\Below W.heap.size W w')(ha:MSl w m A) :
 Calls Tryz.prog 17 #[mV m A] w fun r w'=>∃c a,r=.returned (.bool (decide (c=0)))/\P0 c a/\Below w.heap.size w w':=by
 have HC0:=h_ hC
 obtain⟨al,alc,ap,apc,ar,arc,af,afc,afa⟩:=A
 unfold mV dgV at HC0
 unfold mV
 dsimp only at HC0⊢
 have HK:=h_ (Blk.new w 36 (Jb al m alc ap apc ar arc af afc))
 have HB:=h_ ((bR w.heap.size w).alloc (nR _) (.cells (Jb al m alc ap apc ar arc af afc) 36))
 obtain⟨W0,hW0⟩:=Nq (w.alloc (.cells (Jb al m alc ap apc ar arc af afc) 36))
 rw[hW0]at HK HB
 have HC:=h_ (HC0.u W0 (ha.mono HB.u))
 obtain⟨y0,y1,y2,y3⟩:=quad HK.u
 clear ha hC HC0
 have hfd:∀(W:World) (c a:Int),(Instr.field 82 (.agg (Js c a)) 0).run Tryz.prog W=.ok (J6 c) W:=fun W c a=>by kernel_rfl
 go_enter Tryz.func17,Tryz.ntmps17
 go_wp2_with fail
 try rw[hW0]
 refine HC.u.mono ?_
 rintro r W1 ⟨c,a,rfl,hp,hb⟩
 have HP:=h_ hp
 replace HB:=mT HB hb
 clear hb hW0 y0 y1 y2 y3 hp
 by_cases h0:c=0
 . subst h0
   go_wp2_with fail;go_ret
   first | exact⟨_,_,rfl,HP.u,HB.u⟩ | exact⟨_,⟨_,rfl⟩,HP.u,HB.u⟩
 . have hne:(c==0)=false:=by simpa using h0
   have HD:Hi (decide (c=0)=false):=h_ (Yb h0);go_wp2_with fail;go_ret;exact⟨c,a,by rw[HD.u];rfl,HP.u,HB.u⟩
theorem q9e (f:Fl)(A:FA)(v:Vx)(w:World)(hs:v.s.size<=9223372036854775807) :
 Calls Tryz.prog 76 #[fV f A,.agg (Jk v.k v.n v.s)] w fun x w'=>x=.returned (.bool (fitB f v))/\Below w.heap.size w w':=by
 unfold fV
 have HK:=h_ ((Blk.new w 88 (Ja f A.b A.bc A.i A.ic A.h A.hc A.v A.vc A.u A.uc)).alloc (.cells (Jk v.k v.n v.s) 50))
 have HV:=h_ (Blk.new (w.alloc (.cells (Ja f A.b A.bc A.i A.ic A.h A.hc A.v A.vc A.u A.uc) 88)) 50 (Jk v.k v.n v.s))
 rw[Yk]at HV
 have HB:=h_ (((bR w.heap.size w).alloc (nR _) (.cells (Ja f A.b A.bc A.i A.ic A.h A.hc A.v A.vc A.u A.uc) 88)).alloc (by simp) (.cells (Jk v.k v.n v.s) 50))
 obtain⟨W0,hW0⟩:=Nq ((w.alloc (.cells (Ja f A.b A.bc A.i A.ic A.h A.hc A.v A.vc A.u A.uc) 88)).alloc (.cells (Jk v.k v.n v.s) 50))
 rw[hW0]at HK HV HB
 have HC:=h_ (q25 v.k v.n v.s W0 hs)
 have v0:=HV.u.cell 0;have v1:=HV.u.cell 1;have v2:=HV.u.cell 2
 simp only[Yg,Y6]at v0 v1 v2
 go_enter Tryz.func76,Tryz.ntmps76
 go_wp2_with fail
 try rw[hW0]
 refine HC.u.mono ?_
 rintro x W1 ⟨rfl,hb⟩
 replace HK:=mB HK hb;replace HV:=mB HV hb;replace HB:=mT HB hb
 clear hb hW0 v0 v1 v2 HC
 have v0:=HV.u.cell 0;have t1:=HK.u.cell 1
 simp only[Yg,Y6]at v0 t1
 cases hq:okVal v.k v.n v.s
 . have HR:Hi (fitB f v=false):=h_ (by unfold fitB;rw[hq];rfl)
   go_wp2_with fail;go_ret;rw[HR.u];exact⟨rfl,HB.u⟩
 by_cases h0:v.k=0
 . have HR:Hi (fitB f v=true):=h_ (by unfold fitB;rw[hq,Yj h0];rfl)
   have h0':(v.k==0)=true:=by simp[h0]
   clear h0;go_wp2_with fail;go_ret;rw[HR.u];exact⟨rfl,HB.u⟩
 have h0':(v.k==0)=false:=by simpa using h0
 by_cases h1:v.k=f.ty
 . have HR:Hi (fitB f v=true):=h_ (by unfold fitB;rw[hq,Yb h0,Yj h1];rfl)
   have h1':(v.k==f.ty)=true:=by simp[h1]
   clear h1 h0;go_wp2_with fail;go_ret;rw[HR.u];exact⟨rfl,HB.u⟩
 . have HR:Hi (fitB f v=false):=h_ (by unfold fitB;rw[hq,Yb h0,Yb h1];rfl)
   have h1':(v.k==f.ty)=false:=by simpa using h1
   clear h1 h0;go_wp2_with fail;go_ret;rw[HR.u];exact⟨rfl,HB.u⟩
theorem q6j (m:Fm)(A:MA)(x:Ex)(w:World)(hs:x.v.s.size<=9223372036854775807)(ha:MSl w m A) :
 Calls Tryz.prog 43 #[mV m A,ev x] w fun r w'=>r=.returned (.bool (entB m x))/\Below w.heap.size w w':=by
 obtain⟨al,alc,ap,apc,ar,arc,af,afc,afa⟩:=A
 obtain⟨r,f,v⟩:=x
 unfold mV ev
 dsimp only at hs⊢
 have HK:=h_ ((Blk.new w 36 (Jb al m alc ap apc ar arc af afc)).alloc (.cells (Jh r f v.k v.n v.s) 52))
 have HE:=h_ (Blk.new (w.alloc (.cells (Jb al m alc ap apc ar arc af afc) 36)) 52 (Jh r f v.k v.n v.s))
 rw[Yk]at HE
 have HB:=h_ (((bR w.heap.size w).alloc (nR _) (.cells (Jb al m alc ap apc ar arc af afc) 36)).alloc (by simp) (.cells (Jh r f v.k v.n v.s) 52))
 obtain⟨W0,hW0⟩:=Nq ((w.alloc (.cells (Jb al m alc ap apc ar arc af afc) 36)).alloc (.cells (Jh r f v.k v.n v.s) 52))
 rw[hW0]at HK HE HB
 have HS:=h_ (ha.mono HB.u)
 obtain⟨y0,y1,y2,y3⟩:=quad HK.u
 obtain⟨x0,x1,x2,x3,x4⟩:=five HE.u
 have HN:Hi ((¬ (0<=r/\r<m.R.length)∨¬ (0<=f/\f<m.F.length))->entB m ⟨r,f,v⟩=false):=h_ fun h=>by
  unfold entB;rcases h with h | h
  . rw[Yb h];rfl
  . rw[Yb h,Bool.false_and,Ok]
 clear ha
 by_cases hr0:r<0
 . rw[HN.u (.inl (by omega))]
   go_enter Tryz.func43,Tryz.ntmps43;go_wp2_with fail
   try rw[hW0]
   go_ret;exact⟨rfl,HB.u⟩
 by_cases hr1:(m.R.length:Int)<=r
 . rw[HN.u (.inl (by omega))]
   go_enter Tryz.func43,Tryz.ntmps43;go_wp2_with fail
   try rw[hW0]
   go_ret;exact⟨rfl,HB.u⟩
 by_cases hf0:f<0
 . rw[HN.u (.inr (by omega))]
   go_enter Tryz.func43,Tryz.ntmps43;go_wp2_with fail
   try rw[hW0]
   go_ret;exact⟨rfl,HB.u⟩
 by_cases hf1:(m.F.length:Int)<=f
 . rw[HN.u (.inr (by omega))]
   go_enter Tryz.func43,Tryz.ntmps43;go_wp2_with fail
   try rw[hW0]
   go_ret;exact⟨rfl,HB.u⟩
 obtain⟨k,rfl⟩:∃k:Nat,f=k:=⟨f.toNat,by omega⟩
 have hk:k<m.F.length:=by omega
 have hk':(k:Int)<m.F.length:=by omega
 have HR:Hi (entB m ⟨r,k,v⟩=(decide ((fAt m k).is.length=0)&&fitB (fAt m k) v)):=h_ (by
  unfold entB;rw[Yj (show 0<=r/\r<m.R.length by omega),Yj (show(0:Int)<=k/\(k:Int)<m.F.length by omega)];rfl)
 obtain⟨fb,fo,ef,hfc,-⟩:=HS.u.f k hk
 dsimp only at ef hfc
 rw[<- qku hk]at hfc
 generalize hfx:fAt m k=fx at *
 generalize afa k=Y at hfc
 subst ef
 have HFc:=h_ hfc
 have HCf:=h_ (q9e fx Y v W0.drew hs)
 unfold fV at HCf
 clear hfc HN hfx
 go_enter Tryz.func43,Tryz.ntmps43
 go_wp2_with fail
 try rw[hW0]
 clear hW0 y0 y1 y2 y3 x0 x1 x2 x3 x4
 refine wp_region_held_drew (S:=fun w'=>Blk w' w.heap.size 36 [.slice al m.L.length alc,.slice ap m.P.length apc,.slice ar m.R.length arc,.slice (some ⟨fb,fo,none⟩) m.F.length afc]/\Blk w' (w.heap.size+1) 52 [J6 r,J6 k,J6 v.k,J6 v.n,.string v.s]/\FCel w' fb (fo+k*9) fx Y) (by kernel_rfl) ⟨HK.u,HE.u,HFc.u⟩ (fun zz=>?_)
 refine tj 0 29 (J9 w.heap.size 3) zz ?_
 refine tj 1 30 (.slice (some ⟨fb,fo,none⟩) m.F.length afc) zz ?_ (hy:=fun w hS=>by have q0:=(quad hS.1).2.2.2;simp[execOp,go_sem,q0])
 refine tj 2 31 (J9 (w.heap.size+1) 1) zz ?_
 refine tj 3 32 (J6 k) zz ?_ (hy:=fun w hS=>by have q0:=(five hS.2.1).2.1;simp[execOp,go_sem,q0])
 simp only[sX,sY,sZ]
 refine tj 4 33 (.pointer (some ⟨fb,fo+k*9,none⟩)) zz ?_
 refine tj 5 34 (.pointer (some ⟨fb,fo+k*9+4,none⟩)) zz ?_
 refine tj 6 35 (.slice Y.i fx.is.length Y.ic) zz ?_ (hy:=fun w hS=>by have q0:=hS.2.2.2.2.2.2.2.1;simp[execOp,go_sem,q0])
 refine tj 7 36 (J6 fx.is.length) zz ?_
 simp only[sX,sY,sZ]
 by_cases hi:fx.is.length=0
 . have hi':((fx.is.length:Int)==0)=true:=by simp[hi]
   rw[Yj hi]at HR;refine tj 8 37 (.bool true) zz ?_ (hy:=fun w hS=>by simp[execOp,go_sem,hi']);refine tj 9 38 (.bool true) zz ?_;refine tj 10 39 (J9 w.heap.size 3) zz ?_;refine tj 11 40 (.slice (some ⟨fb,fo,none⟩) m.F.length afc) zz ?_ (hy:=fun w hS=>by have q0:=(quad hS.1).2.2.2;simp[execOp,go_sem,q0]);simp only[sX,sY,sZ];refine tj 12 41 (J9 (w.heap.size+1) 1) zz ?_;refine tj 13 42 (J6 k) zz ?_ (hy:=fun w hS=>by have q0:=(five hS.2.1).2.1;simp[execOp,go_sem,q0]);refine tj 14 43 (.pointer (some ⟨fb,fo+k*9,none⟩)) zz ?_;refine tj 15 44 (.agg (Ja fx Y.b Y.bc Y.i Y.ic Y.h Y.hc Y.v Y.vc Y.u Y.uc)) zz ?_ (hy:=fun w hS=>by obtain⟨-,q0,q1,q2,q3,q4,q5,q6,q7,q8⟩:=hS.2.2;simp[execOp,go_sem,q0,q1,q2,q3,q4,q5,q6,q7,q8]);simp only[sX,sY,sZ];refine tj 16 45 (J9 (w.heap.size+1) 2) zz ?_;refine tj 17 46 (.agg (Jk v.k v.n v.s)) zz ?_ (hy:=fun w hS=>by obtain⟨-,-,q0,q1,q2⟩:=five hS.2.1;simp[execOp,go_sem,q0,q1,q2]);simp only[sX,sY,sZ];refine callY (i:=18) (f:=76) (args:=#[.agg (Ja fx Y.b Y.bc Y.i Y.ic Y.h Y.hc Y.v Y.vc Y.u Y.uc),.agg (Jk v.k v.n v.s)]) (R:=fun u wz=>u=.bool (fitB fx v)/\Below W0.heap.size W0 wz) 47 rfl rfl (by rfl) (by kernel_rfl) (by simp[execOp,go_sem]) (HCf.u.mono fun e w6 ⟨he,hb⟩=>⟨_,he,rfl,q29 hb⟩) ?_;rintro u W1 ⟨rfl,hb⟩;replace zz:Blk W1 w.heap.size 36 [.slice al m.L.length alc,.slice ap m.P.length apc,.slice ar m.R.length arc,.slice (some ⟨fb,fo,none⟩) m.F.length afc]/\Blk W1 (w.heap.size+1) 52 [J6 r,J6 k,J6 v.k,J6 v.n,.string v.s]/\FCel W1 fb (fo+k*9) fx Y:=⟨HK.u.mono hb HK.u.lt,HE.u.mono hb HE.u.lt,HFc.u.mono hb⟩;replace HB:=mT HB hb;clear hb;refine⟨zz,?_⟩;simp only[sX,sY,sZ];refine tj 19 48 (.bool (fitB fx v)) zz ?_;refine tj 20 4 (.bool (fitB fx v)) zz ?_;simp only[sX,sY,sZ];refine wpAnyH_done (by kernel_rfl) ?_ _;clear zz;go_wp2_with fail;go_ret;rw[HR.u];exact⟨rfl,HB.u⟩
 . have hi':((fx.is.length:Int)==0)=false:=by
    have:(fx.is.length:Int)≠0:=(by omega);simpa using this
   rw[Yb hi]at HR;refine tj 8 37 (.bool false) zz ?_ (hy:=fun w hS=>by simp[execOp,go_sem,hi']);refine tj 9 38 (.bool false) zz ?_;refine tn 10 39 zz ?_;refine tn 11 40 zz ?_;simp only[sX,sY,sZ];refine tn 12 41 zz ?_;refine tn 13 42 zz ?_;refine tn 14 43 zz ?_;refine tn 15 44 zz ?_;simp only[sX,sY,sZ];refine tn 16 45 zz ?_;refine tn 17 46 zz ?_;refine tn 18 47 zz ?_;refine tj 19 48 (.bool false) zz ?_;simp only[sX,sY,sZ];refine tj 20 4 (.bool false) zz ?_;simp only[sX,sY,sZ];refine wpAnyH_done (by kernel_rfl) ?_ _;clear zz;go_wp2_with fail;go_ret;rw[HR.u];exact⟨rfl,HB.u.drew⟩
theorem qni {m:Fm}{r:Nat}(h:r<m.R.length):rnm m r=m.R[r].nm:=by unfold rnm;rw[Yo,Yc h];rfl
theorem qig {m:Fm}(hv:VfA m){r:Nat}(h:r<m.R.length):(rnm m r).size<=16:=by
 rw[qni h]
 exact q4k hv.r (Y3.2 ⟨_,Ye h,rfl⟩)
theorem qgc {m:Fm}(hv:VfA m){k:Nat}(h:k<m.F.length):(fAt m k).nm.size<=16:=by
 rw[qku h]
 exact q4k hv.f (Y3.2 ⟨_,Ye h,rfl⟩)
theorem qlz {m:Fm}(hv:VfA m){x:Ex}(hx:entB m x=true)(hn:FitE x){i:Nat}(hi:i<=4000):(lnB m x i).length<=1200:=by
 obtain⟨h1,h2,h3⟩:=qca hx
 have a:=qd0 (i:Int) (by omega) (by omega)
 have b:=qig hv (r:=x.r.toNat) (by omega)
 have c:=qgc hv (k:=x.f.toNat) (by omega)
 have d:=qin _ _ _ h3 hn.2.1 hn.2.2
 have e:(⟨(Lib.itoa i).toArray⟩:ByteArray).size=(Lib.itoa i).length:=by simp[bsz]
 unfold lnB
 simp only[Yd,sb_len,Yl,Yt]
 omega
theorem qm2 {m:Fm}(hv:VfA m):∀(l:List Ex) (k:Nat),l.length+k<=4000->(∀x,x∈l->entB m x=true/\FitE x)->((l.zipIdx k).flatMap fun p=>lnB m p.1 (p.2+1)).length<=1200*l.length
 | [],_,_,_=>nR _
 | x :: l,k,hl,hx=>by
  rw[Yl]at hl;rw[List.zipIdx_cons,Zu,Yd,Yl];have h1:=qm2 hv l (k+1) (by omega) (fun y hy=>hx y (Yy _ hy));have h2:=qlz hv (hx x Yq).1 (hx x Yq).2 (i:=k+1) (by omega);dsimp only;omega
theorem qm1 {m:Fm}(hv:VfA m){l:List Ex}(hl:l.length<=4000)(hx:∀x,x∈l->entB m x=true/\FitE x):(lnL m l).length<=1200*l.length:=qm2 hv l 0 (by omega) hx
theorem sb_mk (l:List UInt8):sb (⟨l.toArray⟩:ByteArray)=l:=by simp[sb]
theorem sb_inj {a b:ByteArray}(h:sb a=sb b):a=b:=qao h
theorem q9f (m:Fm)(A:MA)(x:Ex)(i:Nat)(w:World)(hv:VfA m)(hx:entB m x=true)(hn:FitE x)(hi:i<=4000)(ha:MSl w m A) :
 Calls Tryz.prog 44 #[mV m A,ev x,J6 i] w fun y w'=>y=.returned (.string ⟨(lnB m x i).toArray⟩)/\Below w.heap.size w w':=by
 obtain⟨hr,hf,hok⟩:=qca hx
 obtain⟨al,alc,ap,apc,ar,arc,af,afc,afa⟩:=A
 obtain⟨rz,fz,v⟩:=x
 dsimp only at hr hf hok
 obtain⟨r,rfl⟩:∃r:Nat,rz=r:=⟨rz.toNat,by omega⟩
 obtain⟨k,rfl⟩:∃k:Nat,fz=k:=⟨fz.toNat,by omega⟩
 have hrn:r<m.R.length:=by omega
 have hk:k<m.F.length:=by omega
 have hr':(r:Int)<m.R.length:=by omega
 have hk':(k:Int)<m.F.length:=by omega
 have hi':(i:Int)<=4000:=by omega
 obtain⟨rb,ro,er,hrb,zr,-⟩:=ha.r r hrn
 obtain⟨fb,fo,ef,hfc,-⟩:=ha.f k hk
 dsimp only at er ef
 have zf:=hfc.2.1;have hfb:=hfc.1
 have hz1:=qig hv hrn;have hz2:=qgc hv hk
 have hL:lnB m ⟨r,k,v⟩ i=Lib.itoa i++([32]++(sb (rnm m r)++([32]++(sb (fAt m k).nm++([32]++(sb (showB v.k v.n v.s)++[10])))))):=rfl
 rw[<- qni hrn]at zr
 rw[<- qku hk]at zf
 generalize rnm m r=rs at *
 generalize (fAt m k).nm=fs at *
 have hds:=qd0 (i:Int) (by omega) (by omega)
 have HD:=h_ fun W=>q2j (i:Int) W (by omega) (by omega)
 obtain⟨d,hd⟩:∃d:ByteArray,⟨(Lib.itoa i).toArray⟩=d:=⟨_,rfl⟩
 rw[hd]at hds HD
 have hss:=qin v.k v.n v.s hok hn.2.1 hn.2.2
 have HSh:=h_ fun W=>q4w v.k v.n v.s W hn.1 hn.2.1 hn.2.2
 generalize showB v.k v.n v.s=sh at *
 obtain⟨T1,e1,z1⟩:=@sum_to d ⟨#[32]⟩
 obtain⟨T2,e2,z2⟩:=@sum_to T1 rs
 obtain⟨T3,e3,z3⟩:=@sum_to T2 ⟨#[32]⟩
 obtain⟨T4,e4,z4⟩:=@sum_to T3 fs
 have o1:(⟨#[32]⟩:ByteArray).size=1:=rfl
 have HFin:Hi (T4++⟨#[32]⟩++sh++⟨#[10]⟩=⟨(lnB m ⟨r,k,v⟩ i).toArray⟩):=h_ (sb_inj (by
  rw[sb_mk (lnB m ⟨r,k,v⟩ i),hL,qeb,qeb,qeb,<- e4,qeb,<- e3,qeb,<- e2,qeb,<- e1,qeb,<- hd,sb_mk (Lib.itoa i)];simp[sb]))
 have h4:T4.size<=100:=by omega
 have a5:(T4++⟨#[32]⟩:ByteArray).size=T4.size+1:=by rw[Yi];rfl
 have a6:(T4++⟨#[32]⟩++sh:ByteArray).size=T4.size+1+sh.size:=by rw[Yi,a5]
 subst er
 subst ef
 clear hL hx hn hok hv hd hr hf hfc
 unfold mV ev
 dsimp only
 have HK:=h_ ((Blk.new w 36 (Jb al m alc ap apc (some ⟨rb,ro,none⟩) arc (some ⟨fb,fo,none⟩) afc)).alloc (.cells (Jh r k v.k v.n v.s) 52))
 have HE:=h_ (Blk.new (w.alloc (.cells (Jb al m alc ap apc (some ⟨rb,ro,none⟩) arc (some ⟨fb,fo,none⟩) afc) 36)) 52 (Jh r k v.k v.n v.s))
 rw[Yk]at HE
 have HB:=h_ (((bR w.heap.size w).alloc (nR _) (.cells (Jb al m alc ap apc (some ⟨rb,ro,none⟩) arc (some ⟨fb,fo,none⟩) afc) 36)).alloc (by simp) (.cells (Jh r k v.k v.n v.s) 52))
 obtain⟨W0,hW0⟩:=Nq ((w.alloc (.cells (Jb al m alc ap apc (some ⟨rb,ro,none⟩) arc (some ⟨fb,fo,none⟩) afc) 36)).alloc (.cells (Jh r k v.k v.n v.s) 52))
 rw[hW0]at HK HE HB
 have HZr:Hi (∀W,Below w.heap.size w W->W.cell? ⟨rb,ro+r*2,none⟩=some (.string rs)):=h_ fun W h=>(h.cell (p:=⟨rb,ro+r*2,none⟩) hrb).trans zr
 have HZf:Hi (∀W,Below w.heap.size w W->W.cell? ⟨fb,fo+k*9,none⟩=some (.string fs)):=h_ fun W h=>(h.cell (p:=⟨fb,fo+k*9,none⟩) hfb).trans zf
 clear zr zf ha
 go_enter Tryz.func44,Tryz.ntmps44
 go_wp2_with fail
 try rw[hW0]
 clear hW0
 refine wp_region_held_drew (S:=fun w'=>Blk w' w.heap.size 36 [.slice al m.L.length alc,.slice ap m.P.length apc,.slice (some ⟨rb,ro,none⟩) m.R.length arc,.slice (some ⟨fb,fo,none⟩) m.F.length afc]/\Blk w' (w.heap.size+1) 52 [J6 r,J6 k,J6 v.k,J6 v.n,.string v.s]/\w'.cell? ⟨rb,ro+r*2,none⟩=some (.string rs)/\w'.cell? ⟨fb,fo+k*9,none⟩=some (.string fs)) (by kernel_rfl) ⟨HK.u,HE.u,HZr.u _ HB.u.drew,HZf.u _ HB.u.drew⟩ (fun zz=>?_)
 refine tj 0 8 (J6 i) zz ?_
 refine tj 3 11 (J9 w.heap.size 2) zz ?_
 refine tj 4 12 (.slice (some ⟨rb,ro,none⟩) m.R.length arc) zz ?_ (hy:=fun w hS=>by have q0:=(quad hS.1).2.2.1;simp[execOp,go_sem,q0])
 refine tj 5 13 (J9 (w.heap.size+1) 0) zz ?_
 simp only[sX,sY,sZ]
 refine tj 6 14 (J6 r) zz ?_ (hy:=fun w hS=>by have q0:=(five hS.2.1).1;simp[execOp,go_sem,q0])
 refine tj 7 15 (.pointer (some ⟨rb,ro+r*2,none⟩)) zz ?_
 refine tj 8 16 (.pointer (some ⟨rb,ro+r*2,none⟩)) zz ?_
 refine tj 9 17 (.string rs) zz ?_ (hy:=fun w hS=>by have q0:=hS.2.2.1;simp[execOp,go_sem,q0])
 simp only[sX,sY,sZ]
 refine tj 12 20 (J9 w.heap.size 3) zz ?_
 refine tj 13 21 (.slice (some ⟨fb,fo,none⟩) m.F.length afc) zz ?_ (hy:=fun w hS=>by have q0:=(quad hS.1).2.2.2;simp[execOp,go_sem,q0])
 refine tj 14 22 (J9 (w.heap.size+1) 1) zz ?_
 refine tj 15 23 (J6 k) zz ?_ (hy:=fun w hS=>by have q0:=(five hS.2.1).2.1;simp[execOp,go_sem,q0])
 simp only[sX,sY,sZ]
 refine tj 16 24 (.pointer (some ⟨fb,fo+k*9,none⟩)) zz ?_
 refine tj 17 25 (.pointer (some ⟨fb,fo+k*9,none⟩)) zz ?_
 refine tj 18 26 (.string fs) zz ?_ (hy:=fun w hS=>by have q0:=hS.2.2.2;simp[execOp,go_sem,q0])
 simp only[sX,sY,sZ]
 refine callY (i:=1) (f:=40) (args:=#[J6 i]) (R:=fun u wz=>u=.string d/\Below W0.heap.size W0 wz) 9 rfl rfl (by rfl) (by kernel_rfl) (by simp[execOp,go_sem]) ((HD.u W0.drew).mono fun e w6 ⟨he,hb⟩=>⟨_,he,rfl,q29 hb⟩) ?_
 rintro u W1 ⟨rfl,hb⟩
 replace HK:=mB HK hb;replace HE:=mB HE hb;replace HB:=mT HB hb
 replace zz:Blk W1 w.heap.size 36 [.slice al m.L.length alc,.slice ap m.P.length apc,.slice (some ⟨rb,ro,none⟩) m.R.length arc,.slice (some ⟨fb,fo,none⟩) m.F.length afc]/\Blk W1 (w.heap.size+1) 52 [J6 r,J6 k,J6 v.k,J6 v.n,.string v.s]/\W1.cell? ⟨rb,ro+r*2,none⟩=some (.string rs)/\W1.cell? ⟨fb,fo+k*9,none⟩=some (.string fs):=⟨HK.u,HE.u,HZr.u _ HB.u,HZf.u _ HB.u⟩
 clear hb
 refine⟨zz,?_⟩
 simp only[sX,sY,sZ]
 refine tj 2 10 (.string T1) zz ?_ (hy:=fun w hS=>by have h:=run_string_add_sum (P:=Tryz.prog) w d ⟨#[32]⟩ (by omega);rw[e1]at h;simp[execOp,go_sem,h])
 refine tj 10 18 (.string T2) zz ?_ (hy:=fun w hS=>by have h:=run_string_add_sum (P:=Tryz.prog) w T1 rs (by omega);rw[e2]at h;simp[execOp,go_sem,h])
 refine tj 11 19 (.string T3) zz ?_ (hy:=fun w hS=>by have h:=run_string_add_sum (P:=Tryz.prog) w T2 ⟨#[32]⟩ (by omega);rw[e3]at h;simp[execOp,go_sem,h])
 refine tj 19 27 (.string T4) zz ?_ (hy:=fun w hS=>by have h:=run_string_add_sum (P:=Tryz.prog) w T3 fs (by omega);rw[e4]at h;simp[execOp,go_sem,h])
 simp only[sX,sY,sZ]
 refine tj 20 7 (.string T4) zz ?_
 simp only[sX,sY,sZ]
 refine wpAnyH_done (by kernel_rfl) ?_ _
 clear zz e1 e2 e3 e4 z1 z2 z3 z4 HZr HZf
 obtain⟨x0,x1,x2,x3,x4⟩:=five HE.u
 go_wp2_with fail
 refine(HSh.u W1).mono ?_
 rintro y W2 ⟨rfl,hb⟩
 have HB2:=mT HB hb
 clear hb x0 x1 x2 x3 x4
 go_wp2_with fail
 go_ret
 rw[<- HFin.u]
 exact⟨rfl,HB2.u⟩
def eC (x:Ex):List Value:=[.int .i64 x.r,.int .i64 x.f,.int .i64 x.v.k,.int .i64 x.v.n,.string x.v.s]
def entsV (l:List Ex):List Value:=l.flatMap eC
abbrev OwnE (w:World)(base:Nat)(v:Value)(l:List Ex):Prop:=w.ownsRow base 52 5 v l.length (entsV l)
theorem qa1 (w:World)(t:TypeId):(w.alloc (.cells #[] t)).ownsRow w.heap.size t 5 (.slice (some ⟨w.heap.size,0,none⟩) 0 0) 0 [] :=
 ⟨rfl,.inr ⟨w.heap.size,0,#[],rfl,nR _,heap_alloc_new w (.cells #[] t),nR _,nZ _,rfl,rfl⟩⟩
theorem qcb {l:List Ex}{i p:Nat}(hi:i<l.length)(hp:p<5):(entsV l)[i*5+p]? = (eC l[i])[p]?:=by
 induction l generalizing i with
 | nil=>exact absurd hi (nL _)
 | cons x l ih =>
  show(eC x++entsV l)[i*5+p]? = _;have hc:(eC x).length=5:=rfl;cases i with
  | zero=>rw[Vm (by rw[hc];omega)];simp
  | succ i =>
   rw[List.getElem?_append_right (by rw[hc];omega),hc,show(i+1)*5+p - 5=i*5+p by omega,ih (by simpa using hi)];rfl
theorem q3k {w:World}{base:Nat}{v:Value}{l:List Ex}(e:Nat->Ex)(he:∀k (h:k<l.length),e k=l[k])(h:OwnE w base v l):∃a c,v=.slice a l.length c/\Ents w a l.length e:=by
 rcases h.2 with ⟨e0,h0⟩ | ⟨g,cap,cur,e0,hg,hq,h4,h5,h6,h7⟩
 . exact⟨none,0,by rw[e0,h0],fun k hk=>by omega⟩
 . have hb:Blk w g 52 cur.toList:=by
    show w.heap[g]? = _;rw[hq]
   refine⟨some ⟨g,0,none⟩,cap,e0,fun k hk=>⟨g,0,rfl,?_⟩⟩;have hc:∀p,p<5->w.cell? ⟨g,k*5+p,none⟩=(eC l[k])[p]?:=fun p hp=>by
    rw[hb.cell,<- qcb hk hp,<- h7,On (by omega)]
   rw[Y7,he k hk];exact⟨hb.lt,hc 0 (by omega),hc 1 (by omega),hc 2 (by omega),hc 3 (by omega),hc 4 (by omega)⟩
end Go.Proofs.YtgojgjlninakjaaGreatDoor
