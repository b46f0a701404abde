import Derived.Test.YtebbgodlijlioaaGreatDoorW46
import Derived.Test.YtebbgodlijlioaaGreatDoorW47
import Derived.Test.YtebbgodlijlioaaGreatDoorW35
import Derived.Maps.OwnIn
set_option maxRecDepth 100000
set_option maxHeartbeats 64000000
namespace Go.Proofs.YtebbgodlijlioaaGreatDoor
open Go Go.RowKit
structure FW (b:Nat)(g:Fl):Prop where
 nm:g.nm.size<=64
 sy:g.sy.size<=64
 bl:g.bys.length<=b
 is:LFit g.is
 wh:LFit g.wh
 va:LFit g.va
 mu:LFit g.mu
theorem FFit.fw {nl nr:Nat}{g:Fl}(h:FFit nl nr g):FW nr g:=⟨h.nm,h.sy,h.bs.1,h.is,h.wh,h.va,h.mu⟩
theorem FW.fit {b:Nat}{g:Fl}(h:FW b g)(hb:b<=10000):FitF g:=by
 have:=h.nm;have:=h.sy;have:=h.bl;have:=h.is.2;have:=h.wh.2;have:=h.va.2;have:=h.mu.2
 exact⟨by omega,by omega,by omega,by omega,by omega,by omega,by omega,fun _ hk=>qio h.is hk,fun _ hk=>qio h.wh hk,fun _ hk=>qio h.va hk,fun _ hk=>qio h.mu hk⟩
theorem qep {n:Nx}(h:FitS n):LFit [n]:=⟨fun x hx=>by obtain rfl:=Yw.1 hx;exact h,by show 1<=66;omega⟩
theorem sp1_fw (what:Nat){nx:ByteArray}(hx:nx.size<=64){b:Nat}{g:Fl}(h:FW b g):FW b (sp1 what nx g):=by
 unfold sp1
 split
 . exact⟨hx,h.sy,h.bl,h.is,h.wh,h.va,h.mu⟩
 . exact h
theorem sp2_fw (what:Nat){b:Nat}{g:Fl}(h:FW b g):FW b (sp2 what g):=by
 unfold sp2
 split
 . exact⟨by show mustS.size<=64;decide,h.sy,h.bl,h.is,h.wh,h.va,h.mu⟩
 . exact h
theorem sp3_fw (what nl:Nat){b:Nat}{g:Fl}(h:FW b g):FW b (sp3 what nl g):=by
 unfold sp3
 split
 . exact⟨h.nm,h.sy,h.bl,h.is,h.wh,h.va,h.mu⟩
 . exact h
theorem sp4_fw (what k:Nat){b:Nat}{g:Fl}(h:FW b g):FW b (sp4 what k g):=by
 unfold sp4
 split
 . exact⟨h.nm,h.sy,h.bl,h.is,h.wh,h.va,h.mu⟩
 . exact h
theorem sp5_fw (what:Nat){b:Nat}{g:Fl}(h:FW b g):FW (b+2) (sp5 what g):=by
 unfold sp5
 split
 . exact⟨h.nm,h.sy,by show([0,0]++g.bys).length<=b+2;rw[Yg];have:=h.bl;show 2+_<=_;omega,h.is,h.wh,h.va,h.mu⟩
 . exact⟨h.nm,h.sy,Yv h.bl (by omega),h.is,h.wh,h.va,h.mu⟩
theorem sp6_fw (what:Nat){b:Nat}{g:Fl}(h:FW b g):FW b (sp6 what g):=by
 unfold sp6
 split
 . exact⟨h.nm,by show noRuleS.size<=64;decide,h.bl,h.is,h.wh,qeo,h.mu⟩
 . exact h
theorem sp7_fw (what:Nat){b:Nat}{g:Fl}(h:FW b g):FW b (sp7 what g):=by
 unfold sp7
 split
 . exact⟨h.nm,h.sy,h.bl,h.is,h.wh,h.va,qep (FitS.opn (by omega) (by omega))⟩
 . exact h
theorem sp8_fw (what:Nat){b:Nat}{g:Fl}(h:FW b g):FW b (sp8 what g):=by
 unfold sp8
 split
 . exact⟨h.nm,h.sy,h.bl,h.is,qep (FitS.fld (by decide)),h.va,h.mu⟩
 . exact h
theorem sp9_fw (what:Nat){nx:ByteArray}(hx:nx.size<=64){b:Nat}{g:Fl}(h:FW b g):FW b (sp9 what nx g):=by
 unfold sp9
 split
 . exact⟨h.nm,h.sy,nZ _,qep (FitS.fld hx),h.wh,h.va,h.mu⟩
 . exact h
theorem qlo (what:Nat){nx:ByteArray}(hx:nx.size<=64){b:Nat}{g:Fl}(h:FW b g):FW b (sp10 what nx g):=by
 unfold sp10
 split
 . exact⟨h.nm,h.sy,h.bl,h.is,qep (FitS.fld hx),h.va,h.mu⟩
 . exact h
theorem qlp (what:Nat){nx:ByteArray}(hx:nx.size<=64){b:Nat}{g:Fl}(h:FW b g):FW b (sp11 what nx g):=by
 unfold sp11
 split
 . exact⟨h.nm,h.sy,h.bl,h.is,h.wh,h.va,h.mu⟩
 . split
   . exact⟨h.nm,h.sy,h.bl,h.is,h.wh,h.va,qep (FitS.fld hx)⟩
   . split
     . exact⟨h.nm,h.sy,nZ _,qep (FitS.cst 1 1 (nZ _) (by omega) (by omega)),h.wh,h.va,qep (FitS.fld hx)⟩
     . exact h
theorem spG_fw (what k nl:Nat){nx:ByteArray}(hx:nx.size<=64){b:Nat}{g:Fl}(h:FW b g):FW (b+2) (spG what k nl nx g) :=
 qlp what hx (qlo what hx (sp9_fw what hx (sp8_fw what (sp7_fw what (sp6_fw what (sp5_fw what (sp4_fw what k (sp3_fw what nl (sp2_fw what (sp1_fw what hx h))))))))))
theorem qcm {N nr:Nat}{m:Fm}(h:FmFit N nr m)(hN:N<=100)(hr:nr<=1000)(what k x:Nat)(hx:x<m.F.length)(hk:k<m.F.length):FitM { m with F:=m.F.set k (spG what k N (m.F.getD x noFl).nm (m.F.getD k noFl)),P:=spB what N m.P,R:=spR what m.R }:=by
 have gd:∀{j:Nat},j<m.F.length->FFit N nr (m.F.getD j noFl):=fun {j} hj=>by
  rw[Yl,Yi hj];exact h.fs _ (Yk hj)
 have e1:=h.ll;have e2:=h.pl;have e3:=h.rl;have e4:=h.fl
 refine⟨by show m.L.length<=_;omega,?_,?_,by show(m.F.set k _).length<=_;rw[Vd];omega,fun y hy=>Yv (h.l y hy) (by decide),?_,?_⟩
 . show(spB what N m.P).length<=_
   unfold spB;split
   . rw[O5];omega
   . split
     . show m.P.length+1<=_;omega
     . split
       . show m.P.length+1<=_;omega
       . omega
 . show(spR what m.R).length<=_
   unfold spR;split
   . show m.R.length+1<=_;omega
   . omega
 . intro y hy
   have hy:y∈spR what m.R:=hy;unfold spR at hy;split at hy
   . rcases Zy.1 hy with rfl | hy
     . show clerkS.size<=_;decide
     . exact Yv (h.r y hy) (by decide)
   . exact Yv (h.r y hy) (by decide)
 . intro y hy
   rcases List.mem_or_eq_of_mem_set hy with hy | rfl
   . exact(h.fs y hy).fit hr
   . exact(spG_fw what k N (gd hx).nm (gd hk).fw).fit (by omega)
theorem q73 (len:Nat)(f:Nat->Nat)(hlen:len<=1048576)(p:Nat)(hp:p<=1000)(flds:Nat)(hfl:flds<=20):∃(N nr:Nat) (m:Fm) (q:Nat),N<=100/\nr<=1000/\FmFit N nr m/\m.F.length=flds/\q<=200000/\∀(w:World) (a:Option Addr) (c:Nat),Byts w a len f ->
 Calls Tryz.prog 41 #[.slice a len c,J9 p,J9 flds] w fun e w'=>∃v1 v2 v3 v4 P,e=.returned (.tuple #[.agg #[v1,v2,v3,v4],J9 q])/\OwM w' w.heap.size v1 v2 v3 v4 m P/\Below w.heap.size w w':=by
 obtain⟨D,ok,hf,hl⟩:=snd_ex len f hlen p hp flds hfl
 have h1:=ok.hpq flds (nR _)
 have h2:=ok.hls
 have h3:=ok.hN2
 have h4:=ok.hn3
 exact⟨D.N,D.nn+1,_,D.pq flds+D.ls.length+1,h3,by omega,hf,hl,by omega,fun w a c hby=>q29 len f hlen p hp flds hfl D ok w a c hby⟩
def OutF (w:World)(m:Fm)(e:Ending)(w':World):Prop:=∃v1 v2 v3 v4 P,e=.returned (.agg #[v1,v2,v3,v4])/\OwM w' w.heap.size v1 v2 v3 v4 m P/\Below w.heap.size w w'
def LimX:Prop:=∀which:Nat,which<5->∀b:Bool,∃m,FitM m/\∀w:World,Calls Tryz.prog 67 #[.int .i64 which,.bool b] w (OutF w m)
def SpoX (len:Nat)(f:Nat->Nat):Prop:=∀(q:Nat),q<=200000->∀(N nr:Nat) (m:Fm),N<=100->nr<=1000->FmFit N nr m->0<m.F.length->∃m',FitM m'/\∀(w:World) (a:Option Addr) (c base:Nat) (v1 v2 v3 v4:Value) (P:List (Fl × FA)),Byts w a len f->base<=w.heap.size->OwM w base v1 v2 v3 v4 m P ->
 Calls Tryz.prog 43 #[.slice a len c,J9 q,.agg #[v1,v2,v3,v4]] w fun e w'=>∃u1 u2 u3 u4 P',e=.returned (.agg #[u1,u2,u3,u4])/\OwM w' base u1 u2 u3 u4 m' P'/\Below w.heap.size w w'
theorem qkj {w W:World}{v1 v2 v3 v4:Value}{m:Fm}{P:List (Fl × FA)}{base:Nat}(hr:Blk W w.heap.size 28 J3)(ho:OwM W base v1 v2 v3 v4 m P)(hb:Below w.heap.size w W)(hbs:w.heap.size<=base) :
 OwM (W.setRow w.heap.size #[v1,v2,v3,v4]) w.heap.size v1 v2 v3 v4 m P/\Below w.heap.size w (W.setRow w.heap.size #[v1,v2,v3,v4])/\Blk (W.setRow w.heap.size #[v1,v2,v3,v4]) w.heap.size 28 [v1,v2,v3,v4] :=
 ⟨(ho.low hbs).one hr (by decide) (by decide) (by decide) (by decide) (by decide) (by decide) (fun k hk=>setRow_other W w.heap.size k #[v1,v2,v3,v4] hk),below_setRow hb (nR _) _,hr.row [v1,v2,v3,v4]⟩
theorem q39 (len:Nat)(f:Nat->Nat)(hlen:len<=1048576)(hh:tkD len f 0 20=19)(HL:LimX):∃m,FitM m/\∀(w:World) (a:Option Addr) (c:Nat),Byts w a len f->Calls Tryz.prog 40 #[.slice a len c] w (OutF w m):=by
 have hx5:tkD len f 1 5<5:=tk_lt hlen (by omega) (by omega) (by omega)
 obtain⟨x,hx⟩:=Nq (tkD len f 1 5)
 obtain⟨y,hy⟩:=Nq (tkD len f 2 2)
 rw[hx]at hx5
 obtain⟨b,hb⟩:=Nq (((y:Int)==1))
 obtain⟨m,hm,hc⟩:=HL x hx5 b
 refine⟨m,hm,fun w a c hby=>?_⟩
 have HH:=h_ hh;have HX:=h_ hx;have HY:=h_ hy
 have hba:=(bR w.heap.size w).alloc (nR _) (.cells Jc 28)
 have hr0:=Blk.new w 28 Jc
 obtain⟨W0,hW0⟩:=Nq (w.alloc (.cells Jc 28))
 rw[hW0]at hba hr0
 have HBy:=h_ (hby.mono hba);have HBa:=h_ hba;have HR0:=h_ hr0;have HC:=h_ (hc W0)
 clear hh hx hy hby hba hr0 hc
 go_enter Tryz.func40,Tryz.ntmps40
 go_wp2_with fail
 try rw[hW0]
 refine(qm0 (p:=0) (n:=20) hlen (by omega) (by omega) (by omega) c HBy.u rfl rfl).mono ?_
 rintro e w' ⟨rfl,hw'⟩
 rw[hw',HH.u]
 clear hw' w'
 go_wp2_with fail
 refine(qm0 (p:=1) (n:=5) hlen (by omega) (by omega) (by omega) c HBy.u rfl rfl).mono ?_
 rintro e w' ⟨rfl,hw'⟩
 rw[hw',HX.u]
 clear hw' w'
 go_wp2_with fail
 refine(qm0 (p:=2) (n:=2) hlen (by omega) (by omega) (by omega) c HBy.u rfl rfl).mono ?_
 rintro e w' ⟨rfl,hw'⟩
 rw[hw',HY.u]
 clear hw' w' hW0
 go_wp2_with fail
 refine HC.u.mono ?_
 rintro e W1 ⟨v1,v2,v3,v4,P,rfl,ho,hb1⟩
 obtain⟨a1,c1,e1,-⟩:=q8v ho.l;obtain⟨a2,c2,e2,-⟩:=q8v ho.p;obtain⟨a3,c3,e3,-⟩:=q8v ho.r;obtain⟨a4,c4,e4,-⟩:=q8v ho.f.row
 generalize m.L.length=n1 at e1
 generalize m.P.length=n2 at e2
 generalize m.R.length=n3 at e3
 generalize P.length=n4 at e4
 subst e1 e2 e3 e4
 have hr1:=HR0.u.mono hb1 HR0.u.lt
 have HO:=h_ (qkj hr1 ho (HBa.u.trans (hb1.mono HBa.u.size)) HBa.u.size)
 have HR1:=h_ hr1
 clear hr1 ho hb1 HC HR0 HBa HBy
 go_wp2_with (refine wpList_store_row rfl 28 (.tmp 2) (.tmp 32) rfl w.heap.size (Jh a1 n1 c1 a2 n2 c2 a3 n3 c3 a4 n4 c4) rfl rfl 28 Jc HR1.u (by kernel_rfl) rfl (by simp[Value.oneCell']) ?_)
 obtain⟨y0,y1,y2,y3⟩:=quad HO.u.2.2
 exact bodyPost_ret (v:=.agg (Jh a1 n1 c1 a2 n2 c2 a3 n3 c3 a4 n4 c4)) (by simp[results,Tryz.results40,go_sem,y0,y1,y2,y3]) rfl ⟨_,_,_,_,_,rfl,HO.u.1,HO.u.2.1⟩
theorem q3a (len:Nat)(f:Nat->Nat)(hlen:len<=1048576)(hh:tkD len f 0 20=18)(w:World)(a:Option Addr)(c:Nat)(hby:Byts w a len f):Calls Tryz.prog 40 #[.slice a len c] w (OutF w ⟨[],[],[],[]⟩):=by
 have hba:=(bR w.heap.size w).alloc (nR _) (.cells Jc 28)
 have hr0:=Blk.new w 28 Jc
 obtain⟨W0,hW0⟩:=Nq (w.alloc (.cells Jc 28))
 rw[hW0]at hba hr0
 have HBy:=h_ (hby.mono hba);have HBa:=h_ hba;have HR0:=h_ hr0
 have HH:=h_ hh;have HW0:=h_ hW0
 have HO:=h_ (qkj HR0.u (OwM.nil W0 w.heap.size) HBa.u (nR _))
 clear hh hby hba hr0 hW0
 go_enter Tryz.func40,Tryz.ntmps40
 go_wp2_with fail
 rw[HW0.u]
 refine(qm0 (p:=0) (n:=20) hlen (by omega) (by omega) (by omega) c HBy.u rfl rfl).mono ?_
 rintro e w' ⟨rfl,hw'⟩
 rw[hw',HH.u]
 clear hw' w' HW0
 go_wp2_with (first | refine q6h rfl 28 #[] rfl Jc (by kernel_rfl) ?_ | refine wpList_store_row rfl 28 (.tmp 2) (.tmp 35) rfl w.heap.size Jc rfl rfl 28 Jc HR0.u (by kernel_rfl) rfl (by simp[Value.oneCell']) ?_)
 obtain⟨y0,y1,y2,y3⟩:=quad HO.u.2.2
 exact bodyPost_ret (v:=.agg Jc) (by simp[results,Tryz.results40,go_sem,y0,y1,y2,y3]) rfl ⟨_,_,_,_,_,rfl,HO.u.1,HO.u.2.1⟩
theorem q3b (len:Nat)(f:Nat->Nat)(hlen:len<=1048576)(how:Nat)(hh:tkD len f 0 20=how)(h14:how<14):∃m,FitM m/\∀(w:World) (a:Option Addr) (c:Nat),Byts w a len f->Calls Tryz.prog 40 #[.slice a len c] w (OutF w m):=by
 obtain⟨fl,hfl⟩:=Nq (min (2+len / 12) 12)
 obtain⟨N,nr,m,q,hN,hnr,hm,hl,hq,hc⟩:=q73 len f hlen 1 (by omega) fl (by omega)
 refine⟨m,hm.fit hN hnr,fun w a c hby=>?_⟩
 have hba:=(bR w.heap.size w).alloc (nR _) (.cells Jc 28)
 have hr0:=Blk.new w 28 Jc
 obtain⟨W0,hW0⟩:=Nq (w.alloc (.cells Jc 28))
 rw[hW0]at hba hr0
 have HBy:=h_ (hby.mono hba);have HBa:=h_ hba;have HR0:=h_ hr0
 have HH:=h_ hh;have HFl:=h_ hfl;have HC:=h_ (hc W0 a c (hby.mono hba))
 have g19:((how:Int)==19)=false:=Yf.2 (by omega)
 have g18:((how:Int)==18)=false:=Yf.2 (by omega)
 have g14:¬ (14:Int)<=how:=by omega
 clear hh hby hba hr0 hc hfl
 go_enter Tryz.func40,Tryz.ntmps40
 go_wp2_with fail
 try rw[hW0]
 refine(qm0 (p:=0) (n:=20) hlen (by omega) (by omega) (by omega) c HBy.u rfl rfl).mono ?_
 rintro e w' ⟨rfl,hw'⟩
 rw[hw',HH.u]
 clear hw' w'
 go_wp2_with fail
 refine(q7r len 12 2 12 a c W0 hlen (by omega) (by omega) (by omega) (by omega)).mono ?_
 rintro e w' ⟨rfl,hw'⟩
 rw[hw',HFl.u]
 clear hw' w' hW0
 go_wp2_with fail
 refine HC.u.mono ?_
 rintro e W1 ⟨v1,v2,v3,v4,P,rfl,ho,hb1⟩
 obtain⟨a1,c1,e1,-⟩:=q8v ho.l;obtain⟨a2,c2,e2,-⟩:=q8v ho.p;obtain⟨a3,c3,e3,-⟩:=q8v ho.r;obtain⟨a4,c4,e4,-⟩:=q8v ho.f.row
 generalize hl1:m.L.length=n1 at e1
 generalize hl2:m.P.length=n2 at e2
 generalize hl3:m.R.length=n3 at e3
 generalize hl4:P.length=n4 at e4
 subst e1 e2 e3 e4
 clear hl1 hl2 hl3 hl4
 have hal:=(bR W1.heap.size W1).alloc (nR _) (.cells (Jh a1 n1 c1 a2 n2 c2 a3 n3 c3 a4 n4 c4) 28)
 have hX:=Blk.new W1 28 (Jh a1 n1 c1 a2 n2 c2 a3 n3 c3 a4 n4 c4)
 obtain⟨W2,hW2⟩:=Nq (W1.alloc (.cells (Jh a1 n1 c1 a2 n2 c2 a3 n3 c3 a4 n4 c4) 28))
 obtain⟨X,hXe⟩:=Nq W1.heap.size
 rw[hW2]at hal hX
 have hb2:=hb1.trans (hal.mono hb1.size)
 have HX:Hi (Blk W2 X 28 [.slice a1 n1 c1,.slice a2 n2 c2,.slice a3 n3 c3,.slice a4 n4 c4]):=h_ (by rw[<- hXe];exact hX)
 have ho2:=ho.mono hal
 have hr2:=HR0.u.mono hb2 HR0.u.lt
 have hbw:=HBa.u.trans (hb2.mono HBa.u.size)
 have HO:=h_ (qkj hr2 ho2 hbw HBa.u.size)
 have HR2:=h_ hr2
 obtain⟨x0,x1,x2,x3⟩:=quad HX.u
 clear hr2 ho2 hbw hb2 ho hb1 hal hX HC HR0 HBa HBy
 go_wp2_with (refine wpList_store_row rfl 28 (.tmp 2) (.tmp 50) rfl w.heap.size (Jh a1 n1 c1 a2 n2 c2 a3 n3 c3 a4 n4 c4) rfl rfl 28 Jc HR2.u (by kernel_rfl) rfl (by simp[Value.oneCell']) ?_)
 clear x0 x1 x2 x3
 obtain⟨y0,y1,y2,y3⟩:=quad HO.u.2.2
 exact bodyPost_ret (v:=.agg (Jh a1 n1 c1 a2 n2 c2 a3 n3 c3 a4 n4 c4)) (by simp[results,Tryz.results40,go_sem,y0,y1,y2,y3]) rfl ⟨_,_,_,_,_,rfl,HO.u.1,HO.u.2.1⟩
theorem q3c (len:Nat)(f:Nat->Nat)(hlen:len<=1048576)(how:Nat)(hh:tkD len f 0 20=how)(h14:14<=how)(h18:how<18)(HS:SpoX len f):∃m,FitM m/\∀(w:World) (a:Option Addr) (c:Nat),Byts w a len f->Calls Tryz.prog 40 #[.slice a len c] w (OutF w m):=by
 obtain⟨fl,hfl⟩:=Nq (min (2+len / 12) 12)
 obtain⟨N,nr,m,q,hN,hnr,hm,hl,hq,hc⟩:=q73 len f hlen 1 (by omega) fl (by omega)
 obtain⟨m',hm',hcs⟩:=HS q hq N nr m hN hnr hm (by omega)
 refine⟨m',hm',fun w a c hby=>?_⟩
 have hba:=(bR w.heap.size w).alloc (nR _) (.cells Jc 28)
 have hr0:=Blk.new w 28 Jc
 obtain⟨W0,hW0⟩:=Nq (w.alloc (.cells Jc 28))
 rw[hW0]at hba hr0
 have HBy:=h_ (hby.mono hba);have HBa:=h_ hba;have HR0:=h_ hr0
 have HH:=h_ hh;have HFl:=h_ hfl;have HC:=h_ (hc W0 a c (hby.mono hba))
 have g19:((how:Int)==19)=false:=Yf.2 (by omega)
 have g18:((how:Int)==18)=false:=Yf.2 (by omega)
 have g14:(14:Int)<=how:=by omega
 have HCs:=h_ hcs;have hBw:=fun W (h:Below w.heap.size w W)=>hby.mono h
 have HByW:=h_ hBw
 clear hBw
 clear hh hby hba hr0 hc hfl hcs
 go_enter Tryz.func40,Tryz.ntmps40
 go_wp2_with fail
 try rw[hW0]
 refine(qm0 (p:=0) (n:=20) hlen (by omega) (by omega) (by omega) c HBy.u rfl rfl).mono ?_
 rintro e w' ⟨rfl,hw'⟩
 rw[hw',HH.u]
 clear hw' w'
 go_wp2_with fail
 refine(q7r len 12 2 12 a c W0 hlen (by omega) (by omega) (by omega) (by omega)).mono ?_
 rintro e w' ⟨rfl,hw'⟩
 rw[hw',HFl.u]
 clear hw' w' hW0
 go_wp2_with fail
 refine HC.u.mono ?_
 rintro e W1 ⟨v1,v2,v3,v4,P,rfl,ho,hb1⟩
 obtain⟨a1,c1,e1,-⟩:=q8v ho.l;obtain⟨a2,c2,e2,-⟩:=q8v ho.p;obtain⟨a3,c3,e3,-⟩:=q8v ho.r;obtain⟨a4,c4,e4,-⟩:=q8v ho.f.row
 generalize hl1:m.L.length=n1 at e1
 generalize hl2:m.P.length=n2 at e2
 generalize hl3:m.R.length=n3 at e3
 generalize hl4:P.length=n4 at e4
 subst e1 e2 e3 e4
 clear hl1 hl2 hl3 hl4
 have hal:=(bR W1.heap.size W1).alloc (nR _) (.cells (Jh a1 n1 c1 a2 n2 c2 a3 n3 c3 a4 n4 c4) 28)
 have hX:=Blk.new W1 28 (Jh a1 n1 c1 a2 n2 c2 a3 n3 c3 a4 n4 c4)
 obtain⟨W2,hW2⟩:=Nq (W1.alloc (.cells (Jh a1 n1 c1 a2 n2 c2 a3 n3 c3 a4 n4 c4) 28))
 obtain⟨X,hXe⟩:=Nq W1.heap.size
 rw[hW2]at hal hX
 have hb2:=hb1.trans (hal.mono hb1.size)
 have HX:Hi (Blk W2 X 28 [.slice a1 n1 c1,.slice a2 n2 c2,.slice a3 n3 c3,.slice a4 n4 c4]):=h_ (by rw[<- hXe];exact hX)
 have ho2:=ho.mono hal
 have hr2:=HR0.u.mono hb2 HR0.u.lt
 have hbw:=HBa.u.trans (hb2.mono HBa.u.size)
 have HC2:=h_ (HCs.u W2 a c W0.heap.size _ _ _ _ P (HByW.u W2 hbw) (Yv hb1.size hal.size) ho2)
 have HR2:=h_ hr2;have HBw:=h_ hbw
 obtain⟨x0,x1,x2,x3⟩:=quad HX.u
 clear hr2 ho2 hbw hb2 ho hb1 hal hX HC HR0 HBy HCs HByW
 go_wp2_with fail
 try rw[hW2]
 refine HC2.u.mono ?_
 rintro e W3 ⟨u1,u2,u3,u4,P3,rfl,ho,hb3⟩
 clear x0 x1 x2 x3 HX
 obtain⟨a1,c1,e1,-⟩:=q8v ho.l;obtain⟨a2,c2,e2,-⟩:=q8v ho.p;obtain⟨a3,c3,e3,-⟩:=q8v ho.r;obtain⟨a4,c4,e4,-⟩:=q8v ho.f.row
 generalize hl1:m'.L.length=k1 at e1
 generalize hl2:m'.P.length=k2 at e2
 generalize hl3:m'.R.length=k3 at e3
 generalize hl4:P3.length=k4 at e4
 subst e1 e2 e3 e4
 clear hl1 hl2 hl3 hl4
 have hr3:=HR2.u.mono hb3 HR2.u.lt
 have HO:=h_ (qkj hr3 ho (HBw.u.trans (hb3.mono HBw.u.size)) HBa.u.size)
 have HR3:=h_ hr3
 clear hr3 ho hb3 HC2 HBa HR2 HBw
 go_wp2_with (refine wpList_store_row rfl 28 (.tmp 2) (.tmp 49) rfl w.heap.size (Jh a1 k1 c1 a2 k2 c2 a3 k3 c3 a4 k4 c4) rfl rfl 28 Jc HR3.u (by kernel_rfl) rfl (by simp[Value.oneCell']) ?_)
 obtain⟨y0,y1,y2,y3⟩:=quad HO.u.2.2
 exact bodyPost_ret (v:=.agg (Jh a1 k1 c1 a2 k2 c2 a3 k3 c3 a4 k4 c4)) (by simp[results,Tryz.results40,go_sem,y0,y1,y2,y3]) rfl ⟨_,_,_,_,_,rfl,HO.u.1,HO.u.2.1⟩
theorem q4w (len:Nat)(f:Nat->Nat)(hlen:len<=1048576)(HL:LimX)(HS:SpoX len f):∃m,FitM m/\∀(w:World) (a:Option Addr) (c:Nat),Byts w a len f->Calls Tryz.prog 40 #[.slice a len c] w (OutF w m):=by
 have h20:tkD len f 0 20<20:=tk_lt hlen (by omega) (by omega) (by omega)
 by_cases h19:tkD len f 0 20=19
 . exact q39 len f hlen h19 HL
 by_cases h18:tkD len f 0 20=18
 . exact⟨⟨[],[],[],[]⟩,⟨nZ _,nZ _,nZ _,nZ _,fun x hx=>by simp at hx,fun x hx=>by simp at hx,fun x hx=>by simp at hx⟩,fun w a c hby=>q3a len f hlen h18 w a c hby⟩
 by_cases h14:tkD len f 0 20<14
 . exact q3b len f hlen _ rfl h14
 . exact q3c len f hlen _ rfl (by omega) (by omega) HS
def OutG (w:World)(m:Fm)(q:Nat)(e:Ending)(w':World):Prop:=∃v1 v2 v3 v4 P,e=.returned (.tuple #[.agg #[v1,v2,v3,v4],.int .i64 q])/\OwM w' w.heap.size v1 v2 v3 v4 m P/\Below w.heap.size w w'
def DrwG (len:Nat)(f:Nat->Nat):Prop:=∃m q,FitM m/\q<=300000/\∀(w:World) (a:Option Addr) (c:Nat),Byts w a len f->Calls Tryz.prog 17 #[.slice a len c] w (OutG w m q)
theorem q84 (len:Nat)(f:Nat->Nat)(hlen:len<=1048576)(hh:tkD len f 0 16=15)(HL:LimX)(HS:SpoX len f):DrwG len f:=by
 obtain⟨m,hm,hc⟩:=q4w len f hlen HL HS
 refine⟨m,1,hm,by omega,fun w a c hby=>?_⟩
 have hba:=(bR w.heap.size w).alloc (nR _) (.cells Jc 28)
 have hr0:=Blk.new w 28 Jc
 obtain⟨W0,hW0⟩:=Nq (w.alloc (.cells Jc 28))
 rw[hW0]at hba hr0
 have HBy:=h_ (hby.mono hba);have HBa:=h_ hba;have HR0:=h_ hr0
 have HH:=h_ hh;have HC:=h_ (hc W0 a c (hby.mono hba))
 clear hh hby hba hr0 hc
 go_enter Tryz.func17,Tryz.ntmps17
 go_wp2_with fail
 try rw[hW0]
 refine(qm0 (p:=0) (n:=16) hlen (by omega) (by omega) (by omega) c HBy.u rfl rfl).mono ?_
 rintro e w' ⟨rfl,hw'⟩
 rw[hw',HH.u]
 clear hw' w' hW0
 go_wp2_with fail
 refine HC.u.mono ?_
 rintro e W1 ⟨v1,v2,v3,v4,P,rfl,ho,hb1⟩
 obtain⟨a1,c1,e1,-⟩:=q8v ho.l;obtain⟨a2,c2,e2,-⟩:=q8v ho.p;obtain⟨a3,c3,e3,-⟩:=q8v ho.r;obtain⟨a4,c4,e4,-⟩:=q8v ho.f.row
 generalize hl1:m.L.length=n1 at e1
 generalize hl2:m.P.length=n2 at e2
 generalize hl3:m.R.length=n3 at e3
 generalize hl4:P.length=n4 at e4
 subst e1 e2 e3 e4
 clear hl1 hl2 hl3 hl4
 have hr1:=HR0.u.mono hb1 HR0.u.lt
 have HO:=h_ (qkj hr1 ho (HBa.u.trans (hb1.mono HBa.u.size)) HBa.u.size)
 have HR1:=h_ hr1
 clear hr1 ho hb1 HC HR0 HBa HBy
 go_wp2_with (refine wpList_store_row rfl 28 (.tmp 2) (.tmp 16) rfl w.heap.size (Jh a1 n1 c1 a2 n2 c2 a3 n3 c3 a4 n4 c4) rfl rfl 28 Jc HR1.u (by kernel_rfl) rfl (by simp[Value.oneCell']) ?_)
 obtain⟨y0,y1,y2,y3⟩:=quad HO.u.2.2
 exact bodyPost_ret (v:=.tuple #[.agg (Jh a1 n1 c1 a2 n2 c2 a3 n3 c3 a4 n4 c4),J9 1]) (by simp[results,Tryz.results17,go_sem,y0,y1,y2,y3]) rfl ⟨_,_,_,_,_,rfl,HO.u.1,HO.u.2.1⟩
theorem q85 (len:Nat)(f:Nat->Nat)(hlen:len<=1048576)(how:Nat)(hh:tkD len f 0 16=how)(h10:how<10):DrwG len f:=by
 obtain⟨fl,hfl⟩:=Nq (min (2+len / 10) 14)
 obtain⟨N,nr,m,q,hN,hnr,hm,hl,hq,hc⟩:=q73 len f hlen 1 (by omega) fl (by omega)
 refine⟨m,q,hm.fit hN hnr,by omega,fun w a c hby=>?_⟩
 have hba:=(bR w.heap.size w).alloc (nR _) (.cells Jc 28)
 have hr0:=Blk.new w 28 Jc
 obtain⟨W0,hW0⟩:=Nq (w.alloc (.cells Jc 28))
 rw[hW0]at hba hr0
 have HBy:=h_ (hby.mono hba);have HBa:=h_ hba;have HR0:=h_ hr0
 have HH:=h_ hh;have HFl:=h_ hfl;have HC:=h_ (hc W0 a c (hby.mono hba))
 have g15:((how:Int)==15)=false:=Yf.2 (by omega)
 have g10:¬ (10:Int)<=how:=by omega
 clear hh hby hba hr0 hc hfl
 go_enter Tryz.func17,Tryz.ntmps17
 go_wp2_with fail
 try rw[hW0]
 refine(qm0 (p:=0) (n:=16) hlen (by omega) (by omega) (by omega) c HBy.u rfl rfl).mono ?_
 rintro e w' ⟨rfl,hw'⟩
 rw[hw',HH.u]
 clear hw' w'
 go_wp2_with fail
 refine(q7r len 10 2 14 a c W0 hlen (by omega) (by omega) (by omega) (by omega)).mono ?_
 rintro e w' ⟨rfl,hw'⟩
 rw[hw',HFl.u]
 clear hw' w' hW0
 go_wp2_with fail
 refine HC.u.mono ?_
 rintro e W1 ⟨v1,v2,v3,v4,P,rfl,ho,hb1⟩
 obtain⟨a1,c1,e1,-⟩:=q8v ho.l;obtain⟨a2,c2,e2,-⟩:=q8v ho.p;obtain⟨a3,c3,e3,-⟩:=q8v ho.r;obtain⟨a4,c4,e4,-⟩:=q8v ho.f.row
 generalize hl1:m.L.length=n1 at e1
 generalize hl2:m.P.length=n2 at e2
 generalize hl3:m.R.length=n3 at e3
 generalize hl4:P.length=n4 at e4
 subst e1 e2 e3 e4
 clear hl1 hl2 hl3 hl4
 have hal:=(bR W1.heap.size W1).alloc (nR _) (.cells (Jh a1 n1 c1 a2 n2 c2 a3 n3 c3 a4 n4 c4) 28)
 have hX:=Blk.new W1 28 (Jh a1 n1 c1 a2 n2 c2 a3 n3 c3 a4 n4 c4)
 obtain⟨W2,hW2⟩:=Nq (W1.alloc (.cells (Jh a1 n1 c1 a2 n2 c2 a3 n3 c3 a4 n4 c4) 28))
 obtain⟨X,hXe⟩:=Nq W1.heap.size
 rw[hW2]at hal hX
 have hb2:=hb1.trans (hal.mono hb1.size)
 have HX:Hi (Blk W2 X 28 [.slice a1 n1 c1,.slice a2 n2 c2,.slice a3 n3 c3,.slice a4 n4 c4]):=h_ (by rw[<- hXe];exact hX)
 have ho2:=ho.mono hal
 have hr2:=HR0.u.mono hb2 HR0.u.lt
 have hbw:=HBa.u.trans (hb2.mono HBa.u.size)
 have HO:=h_ (qkj hr2 ho2 hbw HBa.u.size)
 have HR2:=h_ hr2
 obtain⟨x0,x1,x2,x3⟩:=quad HX.u
 clear hr2 ho2 hbw hb2 ho hb1 hal hX HC HR0 HBa HBy
 go_wp2_with (refine wpList_store_row rfl 28 (.tmp 2) (.tmp 34) rfl w.heap.size (Jh a1 n1 c1 a2 n2 c2 a3 n3 c3 a4 n4 c4) rfl rfl 28 Jc HR2.u (by kernel_rfl) rfl (by simp[Value.oneCell']) ?_)
 obtain⟨y0,y1,y2,y3⟩:=quad HO.u.2.2
 exact bodyPost_ret (v:=.tuple #[.agg (Jh a1 n1 c1 a2 n2 c2 a3 n3 c3 a4 n4 c4),J9 q]) (by simp[results,Tryz.results17,go_sem,y0,y1,y2,y3]) rfl ⟨_,_,_,_,_,rfl,HO.u.1,HO.u.2.1⟩
theorem q86 (len:Nat)(f:Nat->Nat)(hlen:len<=1048576)(how:Nat)(hh:tkD len f 0 16=how)(h10:10<=how)(h15:how<15)(HS:SpoX len f):DrwG len f:=by
 obtain⟨fl,hfl⟩:=Nq (min (2+len / 10) 14)
 obtain⟨N,nr,m,q,hN,hnr,hm,hl,hq,hc⟩:=q73 len f hlen 1 (by omega) fl (by omega)
 obtain⟨m',hm',hcs⟩:=HS q hq N nr m hN hnr hm (by omega)
 obtain⟨q3,hq3⟩:=Nq (q+3)
 have e3:(q:Int)+3=(q3:Int):=by omega
 refine⟨m',q3,hm',by omega,fun w a c hby=>?_⟩
 have hba:=(bR w.heap.size w).alloc (nR _) (.cells Jc 28)
 have hr0:=Blk.new w 28 Jc
 obtain⟨W0,hW0⟩:=Nq (w.alloc (.cells Jc 28))
 rw[hW0]at hba hr0
 have HBy:=h_ (hby.mono hba);have HBa:=h_ hba;have HR0:=h_ hr0
 have HH:=h_ hh;have HFl:=h_ hfl;have HC:=h_ (hc W0 a c (hby.mono hba))
 have g15:((how:Int)==15)=false:=Yf.2 (by omega)
 have g10:(10:Int)<=how:=by omega
 have HCs:=h_ hcs;have HByW:=h_ fun W (h:Below w.heap.size w W)=>hby.mono h
 clear hh hby hba hr0 hc hfl hcs hq3
 go_enter Tryz.func17,Tryz.ntmps17
 go_wp2_with fail
 try rw[hW0]
 refine(qm0 (p:=0) (n:=16) hlen (by omega) (by omega) (by omega) c HBy.u rfl rfl).mono ?_
 rintro e w' ⟨rfl,hw'⟩
 rw[hw',HH.u]
 clear hw' w'
 go_wp2_with fail
 refine(q7r len 10 2 14 a c W0 hlen (by omega) (by omega) (by omega) (by omega)).mono ?_
 rintro e w' ⟨rfl,hw'⟩
 rw[hw',HFl.u]
 clear hw' w' hW0
 go_wp2_with fail
 refine HC.u.mono ?_
 rintro e W1 ⟨v1,v2,v3,v4,P,rfl,ho,hb1⟩
 obtain⟨a1,c1,e1,-⟩:=q8v ho.l;obtain⟨a2,c2,e2,-⟩:=q8v ho.p;obtain⟨a3,c3,e3,-⟩:=q8v ho.r;obtain⟨a4,c4,e4,-⟩:=q8v ho.f.row
 generalize hl1:m.L.length=n1 at e1
 generalize hl2:m.P.length=n2 at e2
 generalize hl3:m.R.length=n3 at e3
 generalize hl4:P.length=n4 at e4
 subst e1 e2 e3 e4
 clear hl1 hl2 hl3 hl4
 have hal:=(bR W1.heap.size W1).alloc (nR _) (.cells (Jh a1 n1 c1 a2 n2 c2 a3 n3 c3 a4 n4 c4) 28)
 have hX:=Blk.new W1 28 (Jh a1 n1 c1 a2 n2 c2 a3 n3 c3 a4 n4 c4)
 obtain⟨W2,hW2⟩:=Nq (W1.alloc (.cells (Jh a1 n1 c1 a2 n2 c2 a3 n3 c3 a4 n4 c4) 28))
 obtain⟨X,hXe⟩:=Nq W1.heap.size
 rw[hW2]at hal hX
 have hb2:=hb1.trans (hal.mono hb1.size)
 have HX:Hi (Blk W2 X 28 [.slice a1 n1 c1,.slice a2 n2 c2,.slice a3 n3 c3,.slice a4 n4 c4]):=h_ (by rw[<- hXe];exact hX)
 have ho2:=ho.mono hal
 have hr2:=HR0.u.mono hb2 HR0.u.lt
 have hbw:=HBa.u.trans (hb2.mono HBa.u.size)
 have HC2:=h_ (HCs.u W2 a c W0.heap.size _ _ _ _ P (HByW.u W2 hbw) (Yv hb1.size hal.size) ho2)
 have HR2:=h_ hr2;have HBw:=h_ hbw
 obtain⟨x0,x1,x2,x3⟩:=quad HX.u
 clear hr2 ho2 hbw hb2 ho hb1 hal hX HC HR0 HBy HCs HByW
 go_wp2_with fail
 try rw[hW2]
 refine HC2.u.mono ?_
 rintro e W3 ⟨u1,u2,u3,u4,P3,rfl,ho,hb3⟩
 clear x0 x1 x2 x3 HX
 obtain⟨a1,c1,e1,-⟩:=q8v ho.l;obtain⟨a2,c2,e2,-⟩:=q8v ho.p;obtain⟨a3,c3,e3,-⟩:=q8v ho.r;obtain⟨a4,c4,e4,-⟩:=q8v ho.f.row
 generalize hl1:m'.L.length=k1 at e1
 generalize hl2:m'.P.length=k2 at e2
 generalize hl3:m'.R.length=k3 at e3
 generalize hl4:P3.length=k4 at e4
 subst e1 e2 e3 e4
 clear hl1 hl2 hl3 hl4
 have hr3:=HR2.u.mono hb3 HR2.u.lt
 have HO:=h_ (qkj hr3 ho (HBw.u.trans (hb3.mono HBw.u.size)) HBa.u.size)
 have HR3:=h_ hr3
 clear hr3 ho hb3 HC2 HBa HR2 HBw
 go_wp2_with (refine wpList_store_row rfl 28 (.tmp 2) (.tmp 31) rfl w.heap.size (Jh a1 k1 c1 a2 k2 c2 a3 k3 c3 a4 k4 c4) rfl rfl 28 Jc HR3.u (by kernel_rfl) rfl (by simp[Value.oneCell']) ?_)
 obtain⟨y0,y1,y2,y3⟩:=quad HO.u.2.2
 exact bodyPost_ret (v:=.tuple #[.agg (Jh a1 k1 c1 a2 k2 c2 a3 k3 c3 a4 k4 c4),J9 q3]) (by simp[results,Tryz.results17,go_sem,y0,y1,y2,y3]) rfl ⟨_,_,_,_,_,rfl,HO.u.1,HO.u.2.1⟩
theorem qbb (len:Nat)(f:Nat->Nat)(hlen:len<=1048576)(HL:LimX)(HS:SpoX len f):DrwG len f:=by
 have h16:tkD len f 0 16<16:=tk_lt hlen (by omega) (by omega) (by omega)
 by_cases h15:tkD len f 0 16=15
 . exact q84 len f hlen h15 HL HS
 by_cases h10:tkD len f 0 16<10
 . exact q85 len f hlen _ rfl h10
 . exact q86 len f hlen _ rfl (by omega) (by omega) HS
theorem q4v (len:Nat)(f:Nat->Nat)(h:DrwG len f):∃m,FitM m/\∀(w:World) (a:Option Addr) (c:Nat),Byts w a len f->Calls Tryz.prog 11 #[.slice a len c] w (OutF w m):=by
 obtain⟨m,q,hm,hq,hc⟩:=h
 refine⟨m,hm,fun w a c hby=>?_⟩
 have hba:=(bR w.heap.size w).alloc (nR _) (.cells Jc 28)
 have hr0:=Blk.new w 28 Jc
 obtain⟨W0,hW0⟩:=Nq (w.alloc (.cells Jc 28))
 rw[hW0]at hba hr0
 have HBy:=h_ (hby.mono hba);have HBa:=h_ hba;have HR0:=h_ hr0
 have HC:=h_ (hc W0 a c (hby.mono hba))
 clear hby hba hr0 hc
 go_enter Tryz.func11,Tryz.ntmps11
 go_wp2_with fail
 try rw[hW0]
 clear hW0
 refine HC.u.mono ?_
 rintro e W1 ⟨v1,v2,v3,v4,P,rfl,ho,hb1⟩
 obtain⟨a1,c1,e1,-⟩:=q8v ho.l;obtain⟨a2,c2,e2,-⟩:=q8v ho.p;obtain⟨a3,c3,e3,-⟩:=q8v ho.r;obtain⟨a4,c4,e4,-⟩:=q8v ho.f.row
 generalize hl1:m.L.length=n1 at e1
 generalize hl2:m.P.length=n2 at e2
 generalize hl3:m.R.length=n3 at e3
 generalize hl4:P.length=n4 at e4
 subst e1 e2 e3 e4
 clear hl1 hl2 hl3 hl4
 have hal:=(bR W1.heap.size W1).alloc (nR _) (.cells (Jh a1 n1 c1 a2 n2 c2 a3 n3 c3 a4 n4 c4) 28)
 have hX:=Blk.new W1 28 (Jh a1 n1 c1 a2 n2 c2 a3 n3 c3 a4 n4 c4)
 obtain⟨W2,hW2⟩:=Nq (W1.alloc (.cells (Jh a1 n1 c1 a2 n2 c2 a3 n3 c3 a4 n4 c4) 28))
 obtain⟨X,hXe⟩:=Nq W1.heap.size
 rw[hW2]at hal hX
 have hb2:=hb1.trans (hal.mono hb1.size)
 have HX:Hi (Blk W2 X 28 [.slice a1 n1 c1,.slice a2 n2 c2,.slice a3 n3 c3,.slice a4 n4 c4]):=h_ (by rw[<- hXe];exact hX)
 have ho2:=ho.mono hal
 have hr2:=HR0.u.mono hb2 HR0.u.lt
 have hbw:=HBa.u.trans (hb2.mono HBa.u.size)
 have HO:=h_ (qkj hr2 ho2 hbw HBa.u.size)
 have HR2:=h_ hr2
 obtain⟨x0,x1,x2,x3⟩:=quad HX.u
 clear hr2 ho2 hbw hb2 ho hb1 hal hX HC HR0 HBa HBy
 go_wp2_with (refine wpList_store_row rfl 28 (.tmp 2) (.tmp 10) rfl w.heap.size (Jh a1 n1 c1 a2 n2 c2 a3 n3 c3 a4 n4 c4) rfl rfl 28 Jc HR2.u (by kernel_rfl) rfl (by simp[Value.oneCell']) ?_)
 obtain⟨y0,y1,y2,y3⟩:=quad HO.u.2.2
 exact bodyPost_ret (v:=.agg (Jh a1 n1 c1 a2 n2 c2 a3 n3 c3 a4 n4 c4)) (by simp[results,Tryz.results11,go_sem,y0,y1,y2,y3]) rfl ⟨_,_,_,_,_,rfl,HO.u.1,HO.u.2.1⟩
structure DMk (X:Nat)(g:Fl)(A:FA)(base:Nat)(W1 W:World):Prop where
 bx:Blk W X 42 (fCs g A)
 ow:FOw W base g A
 bl:Below W1.heap.size W1 W
 hX:W1.heap.size<=X
section
variable {X base:Nat} {g g':Fl} {A A':FA} {W1 W W':World}
theorem DMk.mono (h:DMk X g A base W1 W)(hb:Below W.heap.size W W'):DMk X g A base W1 W':=⟨h.bx.mono hb h.bx.lt,h.ow.mono hb,h.bl.trans (hb.mono h.bl.size),h.hX⟩
theorem DMk.put (h:DMk X g A base W1 W)(j:Nat)(v:Value)(hc:(fCs g A).set j v=fCs g' A')(ho:FOw W base g' A'):DMk X g' A' base W1 (W.setCell ⟨X,j,none⟩ v) :=
 ⟨by rw[<- hc];exact h.bx.set j v,ho.one h.bx (by decide) (by decide) (fun k hk=>heap_setCell_other _ _ _ _ hk),h.bl.setCell h.hX _,h.hX⟩
end
def c28:Nx:=⟨0,⟨2,1,⟨#[]⟩⟩,⟨#[]⟩⟩
def lmF (nm:Nat->ByteArray)(S:ByteArray)(k:Nat):Fl:=⟨nm k,3,0,[],[],[],[c28],S,[]⟩
def lmL (nm:Nat->ByteArray)(S:ByteArray):Nat->List Fl
 | 0=>[]
 | k+1=>lmL nm S k++[lmF nm S k]
theorem qjw (nm:Nat->ByteArray)(S:ByteArray):∀k,(lmL nm S k).length=k
 | 0=>rfl
 | k+1=>by show(lmL nm S k++_).length=_;rw[Yg,qjw nm S k];rfl
def ab8:ByteArray:=⟨#[97,98,99,100,101,102,103,104]⟩
theorem qjx (nm:Nat->ByteArray)(S:ByteArray):∀k,(lmL nm S k).map (·.nm)=(List.range k).map nm
 | 0=>rfl
 | k+1=>by show(lmL nm S k++[lmF nm S k]).map _=_;rw[Zf,qjx nm S k,Za,Zf];rfl
theorem lmL_in (nm:Nat->ByteArray)(S:ByteArray):∀k x,x∈lmL nm S k->∃i,i<k/\x=lmF nm S i
 | 0,x,hx=>by cases hx
 | k+1,x,hx=>by
  have hx':x∈lmL nm S k++[lmF nm S k]:=hx;rcases Zb.1 hx' with h | h
  . obtain⟨i,hi,e⟩:=lmL_in nm S k x h
    exact⟨i,by omega,e⟩
  . exact⟨k,by omega,Yw.1 h⟩
theorem nms_ok:namesOk ((List.range 28).map (nmT ab8))=true:=by decide +kernel
theorem lm_vfA {nm:Nat->ByteArray}{S:ByteArray}(hn:∀i,i<28->nm i=nmT ab8 i)(hS:okText S=true):VfA ⟨[lowS],[],[],lmL nm S 28⟩:=by
 have hl:=qjw nm S 28
 have e:fNames ⟨[lowS],[],[],lmL nm S 28⟩=(List.range 28).map (nmT ab8):=by
  show(lmL nm S 28).map (·.nm)=_;rw[qjx];exact Z2 fun i hi=>hn i (Y3.1 hi)
 refine⟨by show 1<=32;decide,nZ _,nZ _,by show(lmL nm S 28).length<=200;omega,by show namesOk [lowS]=true;decide +kernel,rfl,by rw[e];exact nms_ok,fun x hx=>by simp at hx,fun x hx=>by simp at hx,fun x hx=>?_,fun x hx=>?_⟩
 . obtain⟨i,hi,rfl⟩:=lmL_in nm S 28 x hx
   refine(q4y _ _ _).2 ⟨by show(1:Int)<=3;omega,by show(3:Int)<=3;omega,by show(-1:Int)<=0;omega,by show(0:Int)<((1:Nat):Int);omega,rfl,.inl rfl,hS,.inl (by show [c28].length≠0;decide),rfl,rfl,by show ruleOk [c28]=true;decide +kernel,rfl⟩
 . obtain⟨i,hi,rfl⟩:=lmL_in nm S 28 x hx
   show(knows _ []&&knows _ []&&knows _ [c28]&&knows _ [])=true;simp[knows,c28]
theorem fit28 {n S:ByteArray}(h1:n.size<=64)(hS:S.size<=1000):FitF ⟨n,3,0,[],[],[],[c28],S,[]⟩:=
 ⟨by show n.size<=_;omega,by show S.size<=_;omega,by show 0<=_;omega,by show 0<=_;omega,by show 0<=_;omega,by show 1<=_;omega,by show 0<=_;omega,fun _ hk=>absurd hk (nL _),fun _ hk=>absurd hk (nL _),fun k hk=>by
  have:k=0:=by have:k<1:=hk;omega
  subst this;exact(show Fit c28 from ⟨by decide,by decide,by decide,by decide⟩),fun _ hk=>absurd hk (nL _)⟩
theorem lm_fit {nm:Nat->ByteArray}{S:ByteArray}(hn:∀i,i<=28->(nm i).size<=64)(hS:S.size<=1000)(k:Nat)(hk2:k<=28):∀x,x∈lmL nm S k->FitF x:=fun x hx=>by
 obtain⟨i,hi,rfl⟩:=lmL_in nm S k x hx
 have h1:=hn i (by omega)
 exact fit28 h1 hS
theorem qju (nm:Nat->ByteArray)(S:ByteArray)(hnm:∀i:Nat,i<=1000->(nm i=nmT ab8 i/\(nm i).size<=64)/\∀w:World,Calls Tryz.prog 72 (Jt i) w fun e w'=>e=.returned (.string (nm i))/\Below w.heap.size w w')
 (hS:S.size=1000/\okText S=true) (hRp:∀w:World,Calls Tryz.prog 100 #[J9 1000] w fun e w'=>e=.returned (.string S)/\w'=w) (b:Bool) (mo:Nat) (hmo:b.toNat=mo) (left:Int) (hleft:30000+(mo:Int) - ((cT ⟨[lowS],[],[],lmL nm S 28⟩).length:Int) - 40=left)
 (Z:ByteArray) (hZ:0<=left->left<=1000->Z.size<=1000/\∀w:World,Calls Tryz.prog 100 #[J9 left] w fun e w'=>e=.returned (.string Z)/\w'=w) :
 ∀w:World,Calls Tryz.prog 67 #[J9 4,.bool b] w fun e w'=>∃v1 v2 v3 v4 P,e=.returned (.agg #[v1,v2,v3,v4])/\OwM w' w.heap.size v1 v2 v3 v4 ⟨[lowS],[],[],if 0<=left/\left<=1000 then lmL nm S 28++[⟨⟨#[122]⟩,3,0,[],[],[],[c28],Z,[]⟩] else lmL nm S 28⟩ P/\Below w.heap.size w w':=by
 intro w
 obtain⟨fSq,hFS⟩:∃l:List Fl,(if 0<=left/\left<=1000 then lmL nm S 28++[⟨⟨#[122]⟩,3,0,[],[],[],[c28],Z,[]⟩] else lmL nm S 28)=l:=⟨_,rfl⟩
 rw[hFS]
 have HFS:=h_ hFS
 clear hFS
 have hm1:mo<=1:=by rw[<- hmo];cases b <;> decide
 have hv:=lm_vfA (fun i hi=>(hnm i (by omega)).1.1) hS.2
 have hTb:(cT ⟨[lowS],[],[],lmL nm S 28⟩).length<=3714016:=by rw[<- c4_all];exact c4_len hv _
 have hfm:FitM ⟨[lowS],[],[],lmL nm S 28⟩:=⟨(show 1<=9223372036854775807 by decide),nZ _,nZ _,by show(lmL nm S 28).length<=_;rw[qjw];omega,low_in,fun x hx=>by simp at hx,fun x hx=>lm_fit (fun i hi=>(hnm i (by omega)).1.2) (by omega) 28 (nR _) x hx⟩
 have HCp:=h_ fun A W (hs:MSl W ⟨[lowS],[],[],lmL nm S 28⟩ A)=>q0z ⟨[lowS],[],[],lmL nm S 28⟩ A W hfm hv hs
 have HNm:=h_ fun i (hi:i<=1000)=>(hnm i hi).2
 have HRp:=h_ hRp;have HZ:=h_ hZ;have HLf:=h_ hleft;have HTb:=h_ hTb
 clear hnm hS hRp hZ hv hfm hleft hTb
 have hb3:Below w.heap.size w (((w.alloc (.cells Jc 28)).alloc (.cells #[.string lowS] 9)).alloc (.cells (Ji (some ⟨w.heap.size+1,0,none⟩)) 28)):=(((bR w.heap.size w).alloc (nR _) _).alloc (by simp) _).alloc (by simp;omega) _
 go_enter Tryz.func67,Tryz.ntmps67
 go_upto_if 10 with fail
 go_cut [5] from 10 to 10 (fun s5 wx=>s5=J9 mo/\wx=w.alloc (.cells Jc 28))
 case first =>
  cases b
  . obtain rfl:mo=0:=by rw[<- hmo];rfl
    go_wp2_with fail;go_meet;exact⟨rfl,rfl⟩
  . obtain rfl:mo=1:=by rw[<- hmo];rfl
    go_wp2_with fail;go_meet;exact⟨rfl,rfl⟩
 case rest =>
  obtain⟨rfl,rfl⟩:=hcut;go_upto_region 5 with (refine q6h rfl 28 #[(0,.tmp 11)] rfl (Ji (some ⟨w.heap.size+1,0,none⟩)) (by kernel_rfl) ?_)
  have hS1:=(Blk.new (w.alloc (.cells Jc 28)) 9 #[.string lowS]).alloc (.cells (Ji (some ⟨w.heap.size+1,0,none⟩)) 28);have hX1:=Blk.new ((w.alloc (.cells Jc 28)).alloc (.cells #[.string lowS] 9)) 28 (Ji (some ⟨w.heap.size+1,0,none⟩));have hr1:=((Blk.new w 28 Jc).alloc (.cells #[.string lowS] 9)).alloc (.cells (Ji (some ⟨w.heap.size+1,0,none⟩)) 28);simp only[Yx]at hS1 hX1;obtain⟨W0,hW0⟩:=Nq (((w.alloc (.cells Jc 28)).alloc (.cells #[.string lowS] 9)).alloc (.cells (Ji (some ⟨w.heap.size+1,0,none⟩)) 28));rw[hW0]at hS1 hX1 hr1 hb3;have ol:OwnS W0 w.heap.size (.slice (some ⟨w.heap.size+1,0,none⟩) 1 1) [lowS]:=⟨rfl,.inr ⟨w.heap.size+1,1,_,rfl,by omega,hS1,nR _,by unfold maxLen;omega,rfl,rfl⟩⟩;have z:=OwM.nil W0 w.heap.size;have HM:Hi (MMk (w.heap.size+1+1) ⟨[lowS],[],[],lmL nm S 0⟩ [] (.slice (some ⟨w.heap.size+1,0,none⟩) 1 1) Ya Ya Ya w W0):=h_ ⟨hX1,⟨ol,z.p,z.r,z.f,z.e⟩,hb3,hr1,by omega⟩;clear hS1 hX1 hr1 hb3 ol z;simp only[lowS]at hW0;rw[hW0];clear hW0;obtain⟨R,hR⟩:=Nq (w.heap.size+1+1);rw[hR]at HM;rw[hR];go_upto_if 81 with fail
  go_cut [7,8,9] from 82 to 129 (fun _ _ _ wx=>∃P v4,MMk R ⟨[lowS],[],[],fSq⟩ P (.slice (some ⟨w.heap.size+1,0,none⟩) 1 1) Ya Ya v4 w wx)
  case first =>
   go_upto_block 8 with fail
   go_cut [7] from 82 to 102 (fun _ wx=>∃P x c,MMk R ⟨[lowS],[],[],lmL nm S 28⟩ P (.slice (some ⟨w.heap.size+1,0,none⟩) 1 1) Ya Ya (.slice x 28 c) w wx)
   case first =>
    go_wp2_with fail;go_loopw [7] (fun _ wr=>∃(k:Nat) (x:Option Addr) (c:Nat) (P:List (Fl × FA)),k<=28/\P.length=k/\MMk R ⟨[lowS],[],[],lmL nm S k⟩ P (.slice (some ⟨w.heap.size+1,0,none⟩) 1 1) Ya Ya (.slice x k c) w wr) (fun _ wr=>300 - lenAt R 3 wr)
    case atStart=>exact⟨0,none,0,[],by omega,rfl,HM.u⟩
    case round =>
     clear HM;obtain⟨k,x,c,P,hk,hPl,hm⟩:=hrel;obtain⟨q0,q1,q2,q3⟩:=quad hm.bx;have HMr:=h_ hm;clear hm;by_cases hlt:k<28
     . have hlt':(k:Int)<28:=by omega
       have hk3:k<=1000:=(by omega);go_wp2_with fail;refine(HNm.u k hk3 wr).mono ?_;rintro e W1 ⟨rfl,hb⟩;have HM1:=h_ (HMr.u.mono hb);have hln:lenAt R 3 wr=k:=qen (quad HMr.u.bx).2.2.2;have HLn:=h_ hln;clear hb HMr q0 q1 q2 q3 hln;obtain⟨X,hXe⟩:=Nq W1.heap.size;have hal:=(bR W1.heap.size W1).alloc (nR _) (.cells (J2 (nm k)) 42);have hd:DMk X ⟨(nm k),3,0,[],[],[],[],⟨#[]⟩,[]⟩ noFA w.heap.size W1 (W1.alloc (.cells (J2 (nm k)) 42)):=⟨by rw[<- hXe];exact Blk.new W1 42 _,⟨World.ownsRow_nil _ _ _ _,World.ownsRow_nil _ _ _ _,World.ownsRow_nil _ _ _ _,World.ownsRow_nil _ _ _ _,World.ownsRow_nil _ _ _ _⟩,hal,by omega⟩;obtain⟨W2,hW2⟩:=Nq (W1.alloc (.cells (J2 (nm k)) 42));rw[hW2]at hd;have HD:=h_ hd;have HW2:=h_ hW2;have HXe:=h_ hXe;clear hal hd hW2 hXe;go_upto_region 20 with (refine q6h rfl 42 #[(0,.tmp 89),(1,.const (J9 3)),(2,.const (J9 0))] rfl (J2 (nm k)) (by kernel_rfl) ?_)
       rw[HW2.u]
       try rw[HXe.u]
       clear HW2 HXe;have HCb:Hi (Calls Tryz.prog 99 #[.bool true] W2 fun e w'=>e=.returned (.agg #[J9 2,J9 1,Yb])/\Below W2.heap.size W2 w'):=h_ (q7u true W2);go_wp2_with fail;refine HCb.u.mono ?_;rintro e W3 ⟨rfl,hb3⟩;have hd3:=HD.u.mono hb3;have HCc:=h_ (q59 2 1 ⟨#[]⟩ W3);have HD3:=h_ hd3;clear HD HCb hb3 hd3;go_wp2_with fail;refine HCc.u.mono ?_;rintro e W4 ⟨rfl,hb4⟩;have hd4:=HD3.u.mono hb4;obtain⟨N5,hN5⟩:=Nq W4.heap.size;have hal:=(bR W4.heap.size W4).alloc (nR _) (.cells J7 96);have hd5:=hd4.mono hal;have hn1:OwnN (W4.alloc (.cells J7 96)) W4.heap.size (.slice (some ⟨W4.heap.size,0,none⟩) 1 1) [c28]:=OwnN.lone W4 c28;have hsz:w.heap.size<=W4.heap.size:=(by have:=HM1.u.bl.size;have:=hd4.bl.size;omega);rw[hN5]at hn1 hsz;have hput:=hd5.put (g':=⟨(nm k),3,0,[],[],[],[c28],⟨#[]⟩,[]⟩) (A':=⟨none,0,none,0,none,0,some ⟨N5,0,none⟩,1,none,0⟩) 6 (.slice (some ⟨N5,0,none⟩) 1 1) rfl ⟨hd5.ow.b,hd5.ow.i,hd5.ow.h,hn1.low hsz,hd5.ow.u⟩;have q6:=hd5.bx.cell 6;have f6:=hd5.bx.free 6;rw[show(fCs ⟨(nm k),3,0,[],[],[],[],⟨#[]⟩,[]⟩ noFA)[6]? = some Ya from rfl]at q6;obtain⟨W5,hW5⟩:=Nq ((W4.alloc (.cells J7 96)).setCell ⟨X,6,none⟩ (.slice (some ⟨N5,0,none⟩) 1 1));rw[hW5]at hput;have HD5:=h_ hput;have HW5:=h_ hW5;have HN5:=h_ hN5;clear hb4 hd4 hal hd5 hn1 hsz hput hW5 HD3 HCc;go_upto_region 21 with (refine qho rfl (.tmp 92) rfl rfl ?_)
       rw[HW5.u]
       try rw[HN5.u]
       clear HW5 q6 f6 HN5 hN5;go_wp2_with fail;refine(HRp.u W5).mono ?_;rintro e w' ⟨rfl,hw'⟩;rw[hw'];clear hw' w';have hd6:=HD5.u;have hput:=hd6.put (g':=⟨(nm k),3,0,[],[],[],[c28],S,[]⟩) (A':=⟨none,0,none,0,none,0,some ⟨N5,0,none⟩,1,none,0⟩) 7 (.string S) rfl ⟨hd6.ow.b,hd6.ow.i,hd6.ow.h,hd6.ow.v,hd6.ow.u⟩;have q7:=hd6.bx.cell 7;have f7:=hd6.bx.free 7;rw[show(fCs ⟨(nm k),3,0,[],[],[],[c28],⟨#[]⟩,[]⟩ ⟨none,0,none,0,none,0,some ⟨N5,0,none⟩,1,none,0⟩)[7]? = some Yb from rfl]at q7;obtain⟨W6,hW6⟩:=Nq (W5.setCell ⟨X,7,none⟩ (.string S));rw[hW6]at hput;have hm6:=HM1.u.mono hput.bl;have HW6:=h_ hW6;have HRg:=h_ hput.bx.rng;have hal:=(bR W6.heap.size W6).alloc (nR _) (.cells (Jv (nm k) (some ⟨N5,0,none⟩) S) 42);have hm7:=hm6.mono hal;have HFo:=h_ (hput.ow.mono hal);have HNb:Hi (Blk (W6.alloc (.cells (Jv (nm k) (some ⟨N5,0,none⟩) S) 42)) W6.heap.size 42 (fCs ⟨(nm k),3,0,[],[],[],[c28],S,[]⟩ ⟨none,0,none,0,none,0,some ⟨N5,0,none⟩,1,none,0⟩)):=h_ (Blk.new W6 42 (Jv (nm k) (some ⟨N5,0,none⟩) S));have HM7:=h_ hm7;have hrow:=hm7.ow.f.row;rw[hPl]at hrow;have HO7:Hi ((W6.alloc (.cells (Jv (nm k) (some ⟨N5,0,none⟩) S) 42)).ownsRow w.heap.size 42 9 (.slice x k c) P.length (fdV P)):=h_ (by rw[hPl];exact hrow);have hsz7:w.heap.size<=(W6.alloc (.cells (Jv (nm k) (some ⟨N5,0,none⟩) S) 42)).heap.size:=hm7.bl.size;obtain⟨q0,q1,q2,q3⟩:=quad hm6.bx;clear hd6 hput hW6 hm6 hal hm7 hrow HD5 HM1;go_upto_region 22 with fail
       rw[HW6.u];clear HW6 q7 f7;go_wp2_with (first | (at_builtin;refine qdb (n:=(⟨(nm k),3,0,[],[],[],[c28],S,[]⟩,⟨none,0,none,0,none,0,some ⟨N5,0,none⟩,1,none,0⟩)) rfl _ _ rfl rfl HO7.u rfl HNb.u (by omega) hsz7 ?_) | refine wpList_load_mid rfl 42 (.tmp 7) rfl X 0 rfl (fCs ⟨(nm k),3,0,[],[],[],[c28],S,[]⟩ ⟨none,0,none,0,none,0,some ⟨N5,0,none⟩,1,none,0⟩) _ HRg.u Tryz.underlying42 rfl (by kernel_rfl) ?_ | refine qhn rfl (.tmp 99) rfl rfl ?_);intro v' W8 ho8 hg8 hb8;obtain⟨x8,c8,e8,-,-⟩:=q8v ho8;have hl8:(P++[((⟨(nm k),3,0,[],[],[],[c28],S,[]⟩:Fl),(⟨none,0,none,0,none,0,some ⟨N5,0,none⟩,1,none,0⟩:FA))]).length=k+1:=by rw[Yg,hPl];rfl
       try rw[hl8]at e8
       subst e8;have hm7:=HM7.u;have hm8:=hm7.addF (x:=(⟨(nm k),3,0,[],[],[],[c28],S,[]⟩,⟨none,0,none,0,none,0,some ⟨N5,0,none⟩,1,none,0⟩)) (v':=.slice x8 (k+1) c8) (by first | exact ho8 | (rw[hl8];exact ho8)) hg8 HFo.u hb8;have hk8:Blk W8 R 28 [.slice (some ⟨w.heap.size+1,0,none⟩) 1 1,Ya,Ya,(.slice x k c)]:=(hg8.block _ hm7.bx.lt (fun e=>qfj HO7.u hm7.bx (by decide) e.symm)).trans hm7.bx;have v3:=hk8.cell 3;have vf:=hk8.free 3;simp only[Yh,Yu]at v3;have HM8:=h_ hm8;obtain⟨P8,hP8⟩:=Nq (P++[((⟨(nm k),3,0,[],[],[],[c28],S,[]⟩:Fl),(⟨none,0,none,0,none,0,some ⟨N5,0,none⟩,1,none,0⟩:FA))]);have HL8:Hi (P8.length=k+1):=h_ (by rw[<- hP8];exact hl8);rw[hP8]at HM8;clear hP8 hl8 ho8 hg8 hb8 hm7 hm8 hk8 HM7 HFo HO7 HNb HRg hsz7 q0 q1 q2 q3;have HM9:Hi (MMk R ⟨[lowS],[],[],lmL nm S (k+1)⟩ P8 (.slice (some ⟨w.heap.size+1,0,none⟩) 1 1) Ya Ya (.slice x8 (k+1) c8) w (W8.setCell ⟨R,3,none⟩ (.slice x8 (k+1) c8))):=h_ HM8.u;have hln2:lenAt R 3 (W8.setCell ⟨R,3,none⟩ (.slice x8 (k+1) c8))=k+1:=qen (quad HM9.u.bx).2.2.2;have HLn2:=h_ hln2;clear HM8 hln2;go_wp2_with fail;go_roundw
       case rel=>exact⟨k+1,_,_,P8,by omega,HL8.u,HM9.u⟩
       case measure=>rw[HLn.u,HLn2.u];omega
     . have hlt':¬ (k:Int)<28:=by omega
       obtain rfl:k=28:=(by omega);rw[show((28:Nat):Int)=28 from rfl]at *;go_wp2_with fail;go_meet;exact⟨P,x,c,HMr.u⟩
   case rest =>
    clear HM HNm;obtain⟨P,x,c,hm⟩:=hcut;have hPl:P.length=28:=(by have:=hm.ow.e;have h2:=qjw nm S 28;rw[show lmL nm S 28=P.map (·.1) from this,Y7]at h2;exact h2);obtain⟨A,eA,hsl,-⟩:=hm.ow.sl;have HCp2:=h_ (HCp.u A wc hsl);rw[<- eA]at HCp2;have hn28:(lmL nm S 28).length=28:=qjw nm S 28;have HMr:=h_ hm;obtain⟨q0,q1,q2,q3⟩:=quad hm.bx;clear hm eA hsl hn28 HCp;obtain⟨T,hT⟩:∃T:ByteArray,⟨(cT ⟨[lowS],[],[],lmL nm S 28⟩).toArray⟩=T:=⟨_,rfl⟩;have hTs:T.size=(cT ⟨[lowS],[],[],lmL nm S 28⟩).length:=(by rw[<- hT];rfl);have hTb:T.size<=3714016:=(by rw[hTs];exact HTb.u);rw[hT]at HCp2;have HLt:Hi (30000+(mo:Int) - (T.size:Int) - 40=left):=h_ (by rw[hTs];exact HLf.u);clear hT hTs HTb HLf;go_wp2_with fail;refine HCp2.u.mono ?_;rintro e W1 ⟨rfl,hb⟩;have HM1:=h_ (HMr.u.mono hb);clear hb HMr q0 q1 q2 q3 HCp2;have hw1:IntKind.i64.wrap (30000+(mo:Int))=30000+(mo:Int):=(by rw[IntKind.wrap_i64];omega);have hw2:IntKind.i64.wrap (30000+(mo:Int) - (T.size:Int))=30000+(mo:Int) - (T.size:Int):=(by rw[IntKind.wrap_i64];omega);have hw3:IntKind.i64.wrap (30000+(mo:Int) - (T.size:Int) - 40)=left:=(by rw[IntKind.wrap_i64];have:=HLt.u;omega);have hlb:-10000000<=left/\left<=100000:=(by have:=HLt.u;omega);go_upto_region 24 with fail
    try rw[hw1]
    try rw[hw2]
    try rw[hw3]
    try rw[HLt.u]
    clear hw1 hw2 hw3 HLt;by_cases hl0:0<=left
    . by_cases hl1:left<=1000
      . have HCz:=h_ (HZ.u hl0 hl1).2
        have hli:fSq=lmL nm S 28++[⟨⟨#[122]⟩,3,0,[],[],[],[c28],Z,[]⟩]:=(by rw[<- HFS.u];exact Yz ⟨hl0,hl1⟩);have HLi:=h_ hli;clear hli;go_upto_if 115 with fail
        go_upto_region 25 with fail
        obtain⟨X,hXe⟩:=Nq W1.heap.size;have hal:=(bR W1.heap.size W1).alloc (nR _) (.cells Jw 42);have hd:DMk X ⟨⟨#[122]⟩,3,0,[],[],[],[],⟨#[]⟩,[]⟩ noFA w.heap.size W1 (W1.alloc (.cells Jw 42)):=⟨by rw[<- hXe];exact Blk.new W1 42 _,⟨World.ownsRow_nil _ _ _ _,World.ownsRow_nil _ _ _ _,World.ownsRow_nil _ _ _ _,World.ownsRow_nil _ _ _ _,World.ownsRow_nil _ _ _ _⟩,hal,by omega⟩;obtain⟨W2,hW2⟩:=Nq (W1.alloc (.cells Jw 42));rw[hW2]at hd;have HD:=h_ hd;have HW2:=h_ hW2;have HXe:=h_ hXe;clear hal hd hW2 hXe;go_upto_region 26 with (refine q6h rfl 42 #[(0,.const (.string ⟨#[122]⟩)),(1,.const (J9 3)),(2,.const (J9 0))] rfl Jw (by kernel_rfl) ?_)
        rw[HW2.u]
        try rw[HXe.u]
        clear HW2 HXe;have HCb:Hi (Calls Tryz.prog 99 #[.bool true] W2 fun e w'=>e=.returned (.agg #[J9 2,J9 1,Yb])/\Below W2.heap.size W2 w'):=h_ (q7u true W2);go_wp2_with fail;refine HCb.u.mono ?_;rintro e W3 ⟨rfl,hb3⟩;have hd3:=HD.u.mono hb3;have HCc:=h_ (q59 2 1 ⟨#[]⟩ W3);have HD3:=h_ hd3;clear HD HCb hb3 hd3;go_wp2_with fail;refine HCc.u.mono ?_;rintro e W4 ⟨rfl,hb4⟩;have hd4:=HD3.u.mono hb4;obtain⟨N5,hN5⟩:=Nq W4.heap.size;have hal:=(bR W4.heap.size W4).alloc (nR _) (.cells J7 96);have hd5:=hd4.mono hal;have hn1:OwnN (W4.alloc (.cells J7 96)) W4.heap.size (.slice (some ⟨W4.heap.size,0,none⟩) 1 1) [c28]:=OwnN.lone W4 c28;have hsz:w.heap.size<=W4.heap.size:=(by have:=HM1.u.bl.size;have:=hd4.bl.size;omega);rw[hN5]at hn1 hsz;have hput:=hd5.put (g':=⟨⟨#[122]⟩,3,0,[],[],[],[c28],⟨#[]⟩,[]⟩) (A':=⟨none,0,none,0,none,0,some ⟨N5,0,none⟩,1,none,0⟩) 6 (.slice (some ⟨N5,0,none⟩) 1 1) rfl ⟨hd5.ow.b,hd5.ow.i,hd5.ow.h,hn1.low hsz,hd5.ow.u⟩;have q6:=hd5.bx.cell 6;have f6:=hd5.bx.free 6;rw[show(fCs ⟨⟨#[122]⟩,3,0,[],[],[],[],⟨#[]⟩,[]⟩ noFA)[6]? = some Ya from rfl]at q6;obtain⟨W5,hW5⟩:=Nq ((W4.alloc (.cells J7 96)).setCell ⟨X,6,none⟩ (.slice (some ⟨N5,0,none⟩) 1 1));rw[hW5]at hput;have HD5:=h_ hput;have HW5:=h_ hW5;have HN5:=h_ hN5;clear hb4 hd4 hal hd5 hn1 hsz hput hW5 HD3 HCc;go_upto_region 27 with (refine qho rfl (.tmp 118) rfl rfl ?_)
        rw[HW5.u]
        try rw[HN5.u]
        clear HW5 q6 f6 HN5 hN5;go_wp2_with fail;refine(HCz.u W5).mono ?_;rintro e w' ⟨rfl,hw'⟩;rw[hw'];clear hw' w';have hd6:=HD5.u;have hput:=hd6.put (g':=⟨⟨#[122]⟩,3,0,[],[],[],[c28],Z,[]⟩) (A':=⟨none,0,none,0,none,0,some ⟨N5,0,none⟩,1,none,0⟩) 7 (.string Z) rfl ⟨hd6.ow.b,hd6.ow.i,hd6.ow.h,hd6.ow.v,hd6.ow.u⟩;have q7:=hd6.bx.cell 7;have f7:=hd6.bx.free 7;rw[show(fCs ⟨⟨#[122]⟩,3,0,[],[],[],[c28],⟨#[]⟩,[]⟩ ⟨none,0,none,0,none,0,some ⟨N5,0,none⟩,1,none,0⟩)[7]? = some Yb from rfl]at q7;obtain⟨W6,hW6⟩:=Nq (W5.setCell ⟨X,7,none⟩ (.string Z));rw[hW6]at hput;have hm6:=HM1.u.mono hput.bl;have HW6:=h_ hW6;have HRg:=h_ hput.bx.rng;have hal:=(bR W6.heap.size W6).alloc (nR _) (.cells (Js (some ⟨N5,0,none⟩) Z) 42);have hm7:=hm6.mono hal;have HFo:=h_ (hput.ow.mono hal);have HNb:Hi (Blk (W6.alloc (.cells (Js (some ⟨N5,0,none⟩) Z) 42)) W6.heap.size 42 (fCs ⟨⟨#[122]⟩,3,0,[],[],[],[c28],Z,[]⟩ ⟨none,0,none,0,none,0,some ⟨N5,0,none⟩,1,none,0⟩)):=h_ (Blk.new W6 42 (Js (some ⟨N5,0,none⟩) Z));have HM7:=h_ hm7;have hrow:=hm7.ow.f.row;rw[hPl]at hrow;have HO7:Hi ((W6.alloc (.cells (Js (some ⟨N5,0,none⟩) Z) 42)).ownsRow w.heap.size 42 9 (.slice x 28 c) P.length (fdV P)):=h_ (by rw[hPl];exact hrow);have hsz7:w.heap.size<=(W6.alloc (.cells (Js (some ⟨N5,0,none⟩) Z) 42)).heap.size:=hm7.bl.size;obtain⟨q0,q1,q2,q3⟩:=quad hm6.bx;clear hd6 hput hW6 hm6 hal hm7 hrow HD5 HM1;go_upto_region 28 with fail
        rw[HW6.u];clear HW6 q7 f7;go_wp2_with (first | (at_builtin;refine qdb (n:=(⟨⟨#[122]⟩,3,0,[],[],[],[c28],Z,[]⟩,⟨none,0,none,0,none,0,some ⟨N5,0,none⟩,1,none,0⟩)) rfl _ _ rfl rfl HO7.u rfl HNb.u (by omega) hsz7 ?_) | refine wpList_load_mid rfl 42 (.tmp 9) rfl X 0 rfl (fCs ⟨⟨#[122]⟩,3,0,[],[],[],[c28],Z,[]⟩ ⟨none,0,none,0,none,0,some ⟨N5,0,none⟩,1,none,0⟩) _ HRg.u Tryz.underlying42 rfl (by kernel_rfl) ?_ | refine qhn rfl (.tmp 126) rfl rfl ?_);intro v' W8 ho8 hg8 hb8;obtain⟨x8,c8,e8,-,-⟩:=q8v ho8;have hl8:(P++[((⟨⟨#[122]⟩,3,0,[],[],[],[c28],Z,[]⟩:Fl),(⟨none,0,none,0,none,0,some ⟨N5,0,none⟩,1,none,0⟩:FA))]).length=28+1:=by rw[Yg,hPl];rfl
        try rw[hl8]at e8
        subst e8;have hm7:=HM7.u;have hm8:=hm7.addF (x:=(⟨⟨#[122]⟩,3,0,[],[],[],[c28],Z,[]⟩,⟨none,0,none,0,none,0,some ⟨N5,0,none⟩,1,none,0⟩)) (v':=.slice x8 (28+1) c8) (by first | exact ho8 | (rw[hl8];exact ho8)) hg8 HFo.u hb8;have hk8:Blk W8 R 28 [.slice (some ⟨w.heap.size+1,0,none⟩) 1 1,Ya,Ya,(.slice x 28 c)]:=(hg8.block _ hm7.bx.lt (fun e=>qfj HO7.u hm7.bx (by decide) e.symm)).trans hm7.bx;have v3:=hk8.cell 3;have vf:=hk8.free 3;simp only[Yh,Yu]at v3;have HM8:=h_ hm8;obtain⟨P8,hP8⟩:=Nq (P++[((⟨⟨#[122]⟩,3,0,[],[],[],[c28],Z,[]⟩:Fl),(⟨none,0,none,0,none,0,some ⟨N5,0,none⟩,1,none,0⟩:FA))]);have HL8:Hi (P8.length=28+1):=h_ (by rw[<- hP8];exact hl8);rw[hP8]at HM8;clear hP8 hl8 ho8 hg8 hb8 hm7 hm8 hk8 HM7 HFo HO7 HNb HRg hsz7 q0 q1 q2 q3;go_wp2_with fail;go_meet;exact⟨P8,_,by rw[HLi.u];exact HM8.u⟩
      . have hli:fSq=lmL nm S 28:=by rw[<- HFS.u];exact Yt (fun h=>hl1 h.2)
        have HLi:=h_ hli;clear hli;go_wp2_with fail;go_meet;exact⟨P,_,by rw[HLi.u];exact HM1.u⟩
    . have hli:fSq=lmL nm S 28:=by rw[<- HFS.u];exact Yt (fun h=>hl0 h.1)
      have HLi:=h_ hli;clear hli;go_wp2_with fail;go_meet;exact⟨P,_,by rw[HLi.u];exact HM1.u⟩
  case rest =>
   obtain⟨P,v4,hm⟩:=hcut;obtain⟨x1,c1,e1,-,-⟩:=q8v hm.ow.f.row;obtain⟨n4,hn4⟩:=Nq P.length;rw[hn4]at e1;subst e1;have HF:=h_ hm.fin;have HR0:=h_ hm.r0;obtain⟨q0,q1,q2,q3⟩:=quad hm.bx;clear hm hn4 HM HNm HCp HRp HZ HLf HTb hmo hm1;go_wp2_with (refine wpList_store_row rfl 28 (.tmp 4) (.tmp 130) rfl w.heap.size #[.slice (some ⟨w.heap.size+1,0,none⟩) 1 1,Ya,Ya,.slice x1 n4 c1] rfl rfl 28 Jc HR0.u (by kernel_rfl) rfl (by simp[Value.oneCell']) ?_);clear q0 q1 q2 q3;obtain⟨y0,y1,y2,y3⟩:=quad HF.u.2.2;exact bodyPost_ret (v:=.agg #[.slice (some ⟨w.heap.size+1,0,none⟩) 1 1,Ya,Ya,.slice x1 n4 c1]) (by simp[results,Tryz.results67,go_sem,y0,y1,y2,y3]) rfl ⟨_,_,_,_,P,rfl,HF.u.1,HF.u.2.1⟩
end Go.Proofs.YtebbgodlijlioaaGreatDoor
namespace Go.Proofs.YtebbgodlijlioaaGreatDoor
open Go Go.RowKit Go.Shelf
attribute [local go_sem] Oper.semAt_some
theorem qbu {w:World}{base n size:Nat}{e:TypeId}{v:Value}{xs:List Value}(h:w.ownsRow base e size v n xs){j:Nat}{o:Obj}(hj:v.ownBlock=some j)(ho:w.heap[j]? = some o):o.isCells=true:=by
 rcases h.2 with ⟨h1,-⟩ | ⟨g,cap,cur,h1,hb,hg,r⟩
 . rw[h1]at hj;cases hj
 . rw[h1]at hj
   cases hj;rw[hg]at ho;cases ho;rfl
theorem q31 (n:Nat)(m:Fm)(A:MA)(b B:Nat)(w:World)(hv:VfA m)(hf:FitM m)(hW:Blk w B 56 [.slice A.l m.L.length A.lc,.slice A.p m.P.length A.pc,.slice A.r m.R.length A.rc,.slice A.f m.F.length A.fc,.map (some b)])(ha:MSl w m A)(hm:PMap w b (fNames m)) :
 CallsIn Fence.wide n Tryz.prog 60 #[Ya,.func (.func 61) #[] #[Yc B 0]] w fun e w'=>∃v,e=.returned v/\w'.ownsRow w.heap.size 3 1 v (ordL m m.F.length).length (ui (ordL m m.F.length))/\Below w.heap.size w w':=by
 have hnf:=hv.nf
 have HR:=h_ (Blk.new w 30 #[Ya])
 have HB:=h_ ((bR w.heap.size w).alloc (nR _) (.cells #[Ya] 30))
 obtain⟨W1,hW1⟩:=Nq (w.alloc (.cells #[Ya] 30))
 have hs1:W1.heap.size=w.heap.size+1:=by rw[<- hW1];simp
 rw[hW1]at HR HB
 have HG:=h_ (q5z m A b B W1 (fun j=>j=w.heap.size) hv hf (hW.mono HB.u hW.lt) (ha.mono HB.u) (hm.mono HB.u))
 clear hW ha hm hv hf
 refine callsIn_of_wp_marks Tryz.func60 rfl trivial ?_ rfl
 simp only[Tryz.ntmps60,Zh,Ys,Y4,Nat.reduceAdd,Nat.reduceSub,Z9,Z8,Vg,Vb,Vj,Zn]
 gi_wp2_with fail
 try rw[hW1]
 clear hW1
 refine q8z (gf:=61) (lb:=#[Yc B 0]) rfl (enters_of Tryz.func61 (by kernel_rfl) rfl)
  HG.u (bR _ _) (fun j hj=>by omega) rfl
  (fun hi pre W=>∃v,Blk W w.heap.size 30 [v]/\W.ownsRow (w.heap.size+1) 3 1 v pre.length (ui pre)/\(∀q,v.ownBlock=some q->hi<=q)/\hi<=W.heap.size/\Below w.heap.size w W)
  ?hI ?h0
  (fun x=>{ tmps:=#[Ya,.func (.func 61) #[] #[Yc B 0],Yc w.heap.size 0,undef,Ya,J9 (x:Int),.func (.func 61) #[] #[Yc B 0],J9 (x:Int),undef,undef,undef,undef,undef],defers:=[] })
  ?assign ?body ?done
 case hI =>
  rintro hi pre W W' ⟨v,h1,h2,h3,h4,h5⟩ hb;exact⟨v,hb.blk h1 (by omega),hb.owns h2 (fun q e=>by have:=h3 q e;omega),h3,Yv h4 hb.size,h5.trans (hb.below (by omega) h5.size)⟩
 case h0 =>
  intro W hb;exact⟨.slice none 0 0,HR.u.mono hb HR.u.lt,World.ownsRow_nil _ _ _ _,(fun q e=>by cases e),nR _,HB.u.trans (hb.mono HB.u.size)⟩
 case assign =>
  intro m' l x W K hK
  gi_wp2
  first | exact hK | simpa using hK
 case body =>
  rintro m' l hi pre x W hhi ⟨v,h1,h2,h3,h4,h5⟩ ⟨ht1,ht2,ht3⟩;have c0:=h1.cell 0;simp only[Yh]at c0;have hlt1:=h1.lt;obtain⟨i0,hi0,hz0,hz1,hz2⟩:=info_parts infoI;have H1:=h_ h1;have H2:=h_ h2;have H3:=h_ h3;have H5:=h_ h5;clear h1 h2 h3 h5 ht1 ht3;gi_wp2_with (gi_at_builtin;refine wpListIn_append_own_at _ rfl _ _ 30 rfl (w.heap.size+1) 3 i0 _ 1 8 Tryz.underlying30 hi0 hz0 hz1 hz2 rfl (by omega) _ _ _ rfl (H2.u.alloc _) ⟨W.heap.size,0,none⟩ 1 1 [J9 x] rfl rfl (qdh W 3 _) (by simp[Value.oneCell']) (by unfold maxLen;omega) (by omega) (by simp;omega) ?_);intro v' w4 ho' hgr' _ hat';have hba:=(bR W.heap.size W).alloc (nR _) (.cells #[J9 x] 3);have ho2:w4.ownsRow (w.heap.size+1) 3 1 v' (pre++[x]).length (ui (pre++[x])):=by simpa [ui] using ho'
  have h2a:=H2.u.alloc (.cells #[J9 x] 3);have h1a:Blk w4 w.heap.size 30 [v]:=Blk.grown (H1.u.mono hba H1.u.lt) hgr' (fun e=>by have:=(h2a.lt _ e.symm).1;omega);have c4:=h1a.cell 0;simp only[Yh]at c4;have f4:=h1a.free 0;obtain⟨a',c',e',-⟩:=own_at ho2;obtain⟨n',hn'⟩:=Nq ((pre++[x]).length);rw[hn']at e';have HQ:Hi (∀q,v'.ownBlock=some q->hi<=q):=h_ fun q e=>by
   rcases hat' with h | h
   . exact H3.u q (h.symm.trans e)
   . rw[h]at e
     cases e
     first | omega | (simp;omega)
  have HKo:=h_ (((keepsO hba).trans (KeepsOthers.of_grownBy hgr' fun j o ej hj=>qbu h2a ej hj)).trans (KeepsOthers.setCell w4 ⟨w.heap.size,0,none⟩ v'));have HKb:Hi (KeepB (fun j=>j=w.heap.size) hi W (w4.setCell ⟨w.heap.size,0,none⟩ v')):=h_ (((KeepB.of_below hba h4).trans (KeepB.grown hgr' fun q e=>.inl (H3.u q e))).trans (KeepB.set (a:=⟨w.heap.size,0,none⟩) v' rfl));have HBk:=h_ (h1a.set 0 v');simp only[Yd]at HBk;have HOw:=h_ (q8r (X:=fun j=>j=w.heap.size) ho2 (KeepX.set (W:=w4) (a:=⟨w.heap.size,0,none⟩) v' rfl) (fun k hk=>by omega));have HSz:Hi (hi<=(w4.setCell ⟨w.heap.size,0,none⟩ v').heap.size):=h_ (by have:=hgr'.size;simp at this⊢;omega);have HBe:=h_ (((H5.u.trans (hba.mono (by omega))).grown hgr' (by simp;omega) (fun q e=>by have:=(h2a.lt q e).1;omega)).setCell (p:=⟨w.heap.size,0,none⟩) (nR _) v');clear ho' hgr' hat' ho2 h2a h1a hba hi0 hz0 hz1 hz2 c0 hn';subst e';gi_wp2_with fail;exact⟨HKo.u,HKb.u,_,HBk.u,HOw.u,HQ.u,HSz.u,HBe.u⟩
 case done =>
  rintro D hi xs W hD hDh hS ⟨v,h1,h2,h3,h4,h5⟩ hK;have c0:=h1.cell 0;simp only[Yh]at c0;rw[hS]at h2;have H2:=h_ h2;have H5:=h_ h5;have HK:=h_ hK;have H3:=h_ h3;clear h1 h2 hS hK h5 h3;gi_wp2_with fail;refine⟨by simp,.inl ⟨_,_,rfl,run_takeDeferred HK.u,?_⟩⟩;refine⟨v,by simp[results,Tryz.f60,go_sem],v,rfl,?_,H5.u.trans (q9o _ D _ (by omega))⟩;have h:=q8r (X:=fun _=>False) H2.u (KeepX.put (o':=.deferred none) HK.u rfl) (fun k hk=>hk.elim);refine⟨h.1,?_⟩;rcases h.2 with h' | ⟨g,cap,cur,g1,gb,r⟩
  . exact .inl h'
  . exact .inr ⟨g,cap,cur,g1,by omega,r⟩
theorem q4r (m:Fm)(A:MA)(b B:Nat)(w:World)(hv:VfA m)(hf:FitM m)(hW:Blk w B 56 [.slice A.l m.L.length A.lc,.slice A.p m.P.length A.pc,.slice A.r m.R.length A.rc,.slice A.f m.F.length A.fc,.map (some b)])(ha:MSl w m A)(hm:PMap w b (fNames m)) :
 Calls Tryz.prog 37 #[.func (.func 61) #[] #[Yc B 0]] w fun e w'=>∃v,e=.returned v/\w'.ownsRow w.heap.size 3 1 v (ordL m m.F.length).length (ui (ordL m m.F.length))/\Below w.heap.size w w':=by
 have HC:=h_ ((callsIn_wide (n:=9)).1 (q31 9 m A b B w hv hf hW ha hm))
 clear hW ha hm hv hf
 go_enter Tryz.func37,Tryz.ntmps37
 go_wp2_with fail
 refine HC.u.mono ?_
 rintro e w1 ⟨v,rfl,ho,hb⟩
 have HO:=h_ ho;have HB:=h_ hb
 clear ho hb
 go_wp2_with fail
 go_ret
 exact⟨v,rfl,HO.u,HB.u⟩
theorem q8s {w:World}{base base' n size:Nat}{e:TypeId}{v:Value}{xs:List Value}(h:w.ownsRow base e size v n xs)(hb:base'<=base):w.ownsRow base' e size v n xs:=by
 refine⟨h.1,?_⟩
 rcases h.2 with h' | ⟨g,cap,cur,g1,gb,r⟩
 . exact .inl h'
 . exact .inr ⟨g,cap,cur,g1,by omega,r⟩
theorem q3f (m:Fm)(A:MA)(w:World)(hf:FitM m)(hcap:Caps m A)(ha:MSl w m A)(ht:Tabs w)(hy:TyW w) :
 Calls Tryz.prog 13 #[mV m A] w fun r w'=>∃v,r=.returned v/\w'.ownsRow w.heap.size 3 1 v (calcX m).length (ui (calcX m))/\Below w.heap.size w w':=by
 have HVa:Hi (vfB m=true->VfA m):=h_ fun h=>Classical.byContradiction fun hn=>by rw[qd4 hn]at h;cases h
 have HCw:=h_ fun W (hs:MSl W m A) (ht:Tabs W) (hy:TyW W)=>q4g m A W hf hcap hs ht hy
 have HCh:=h_ fun W b (hv:VfA m) (hs:MSl W m A) (hp:PMap W b (fNames m))=>q3d m A b W hv hf hs hp
 have HCo:=h_ fun W b=>qbq m A b W
 have HCc:=h_ fun W b B (hv:VfA m) hW (hs:MSl W m A) (hp:PMap W b (fNames m))=>q4r m A b B W hv hf hW hs hp
 obtain⟨al,alc,ap,apc,ar,arc,af,afc,afa⟩:=A
 unfold mV at HCw⊢
 unfold wV at HCw HCh HCo
 dsimp only at HCw HCh HCo HCc⊢
 have HK:=h_ (Blk.new w 28 (Jb al m alc ap apc ar arc af afc))
 have HB:=h_ ((bR w.heap.size w).alloc (nR _) (.cells (Jb al m alc ap apc ar arc af afc) 28))
 obtain⟨W0,hW0⟩:=Nq (w.alloc (.cells (Jb al m alc ap apc ar arc af afc) 28))
 rw[hW0]at HK HB
 have HS:=h_ (ha.mono HB.u);have HT:=h_ (ht.mono HB.u);have HY:=h_ (hy.mono HB.u)
 clear ha ht hy hf hcap
 obtain⟨y0,y1,y2,y3⟩:=quad HK.u
 go_enter Tryz.func13,Tryz.ntmps13
 go_wp2_with fail
 try rw[hW0]
 refine(HCw.u W0 HS.u HT.u HY.u).mono ?_
 rintro r W1 ⟨h | h,hb1⟩
 . obtain⟨hq,rfl⟩:=h
   replace HB:=mT HB hb1;have HX:Hi (calcX m=[]):=h_ (by unfold calcX;rw[hq];rfl);have HBz:=h_ (HB.u.alloc HB.u.size (.cells Ju 56));clear hb1 hW0 y0 y1 y2 y3 hq;go_wp2_with fail;go_ret;rw[HX.u];exact⟨_,rfl,World.ownsRow_nil _ _ _ _,HBz.u⟩
 . obtain⟨hq,b,rfl,hm⟩:=h
   have HV:=h_ (HVa.u hq);have HX:Hi (calcX m=calcL m):=h_ (by unfold calcX;rw[hq];rfl);replace HS:=h_ (HS.u.mono hb1);replace HB:=mT HB hb1;have HM:=h_ hm;clear hb1 hW0 y0 y1 y2 y3 hq hm HT HY HCw HVa;have HKw:=h_ (Blk.new W1 56 #[.slice al m.L.length alc,.slice ap m.P.length apc,.slice ar m.R.length arc,.slice af m.F.length afc,.map (some b)]);have hba:=(bR W1.heap.size W1).alloc (nR _) (.cells #[.slice al m.L.length alc,.slice ap m.P.length apc,.slice ar m.R.length arc,.slice af m.F.length afc,.map (some b)] 56);obtain⟨W2,hW2⟩:=Nq (W1.alloc (.cells #[.slice al m.L.length alc,.slice ap m.P.length apc,.slice ar m.R.length arc,.slice af m.F.length afc,.map (some b)] 56));rw[hW2]at HKw hba;replace HS:=h_ (HS.u.mono hba);replace HB:=mT HB hba;replace HM:=h_ (HM.u.mono hba);obtain⟨X,hX⟩:=Nq W1.heap.size;rw[hX]at HKw;clear hba;obtain⟨z0,z1,z2,z3,z4⟩:=five HKw.u;go_wp2_with fail
   try rw[hW2]
   refine(HCh.u W2 b HV.u HS.u HM.u).mono ?_;rintro r W3 ⟨rfl,hb3⟩;replace HS:=h_ (HS.u.mono hb3);replace HB:=mT HB hb3;replace HM:=h_ (HM.u.mono hb3);replace HKw:=mB HKw hb3;clear hb3 hW2 z0 z1 z2 z3 z4;obtain⟨z0,z1,z2,z3,z4⟩:=five HKw.u
   try rw[hX]
   clear hX;cases hc:decide ((ordL m m.F.length).length<m.F.length)
   . have HL:Hi (calcX m=ordL m m.F.length):=h_ (by
      have h1:=of_decide_eq_false hc;have h2:=qkh m m.F.length;rw[HX.u];exact q6w (by omega))
     clear hc;go_wp2_with fail;refine(HCo.u W3 b).mono ?_;rintro r W4 ⟨rfl,hO,hb4⟩;replace HS:=h_ (HS.u.mono hb4);replace HB:=mT HB hb4;replace HM:=h_ (HM.u.mono hb4);have HC2:=h_ (HCc.u W4 b W3.heap.size HV.u hO HS.u HM.u);clear hb4 hO z0 z1 z2 z3 z4;go_wp2_with fail;refine HC2.u.mono ?_;rintro r W5 ⟨v,rfl,ho,hb5⟩;have HO:=h_ (q8s ho HB.u.size);replace HB:=mT HB hb5;clear ho hb5;go_wp2_with fail;go_ret;rw[HL.u];exact⟨v,rfl,HO.u,HB.u⟩
   . have HL:Hi (calcX m=[]):=h_ (by
      have h1:=Zg hc;rw[HX.u];unfold calcL;rw[Yt (by omega)])
     clear hc;go_wp2_with fail;go_ret;rw[HL.u];exact⟨_,rfl,World.ownsRow_nil _ _ _ _,HB.u⟩
attribute [local go_sem] Oper.semAt_some
theorem qk2 {F:Fence}{nF:Nat}{P:Program}(w:World){ops:Array Oper}{rest:List Oper}{o:Oper}{a:Act}{Q:Exit->Act->World->Prop}
 (hg:o.guard=none) (l c:Operand) (t:TypeId) (hop:o.op=Op.makeSlice t l c)
 (base:Nat) (e:TypeId) (i:TypeInfo) (z:Value) (size:Nat) (h1:P.underlying t=some (.slice e)) (h2:P.info? e=some i) (h3:i.zero=some z) (h4:i.size=size)
 (kl kc:IntKind) (L C:Int) (n:Nat) (hl:a.eval l=.int kl L) (hc:a.eval c=.int kc C) (hL:L=(n:Int)) (hC:C=(n:Int)) (b2:i.bytes*n<=281474976710656) (b3:n<=maxLen) (b4:base<=w.heap.size)
 (hK:∀w',w'.ownsRow base e size (.slice (some ⟨w.heap.size,0,none⟩) n n) n (madeCells z.cells (n*size)).toList->w.grownBy w' none->wpListIn F nF P ops Q rest (a.put o.dst (.slice (some ⟨w.heap.size,0,none⟩) n n)) w') :
 wpListIn F nF P ops Q (o :: rest) a w:=by
 refine wpListIn_plain hg fun K hK'=>?_
 obtain⟨w',hrun,r1,r2⟩:=run_make_full (P:=P) w base t e i z size h1 h2 h3 h4 kl kc n b2 b3 b4
 subst hL
 subst hC
 unfold Oper.wpIn
 refine⟨?_,?_⟩
 . simp[Oper.about,hop]
 . rw[Oper.semAt_plain F _ _ (by rw[hop];intro c hc';cases hc')]
   simp[execOp,hop,hl,hc,hrun,Result.andThen];exact hK' _ _ (hK w' r1 r2)
def MkD (m:Fm)(k:Nat)(pre:List Nat)(M:Nat->Bool):Prop:=∀i,M i=true ↔ i∈pre/\(i=k∨Rch m k i)
theorem qkd {m:Fm}{D:List Nat}{x:Nat}(h:nxt m D=some x):x ∉ D:=fun hin=>by
 have hr:=(qfc h).2.1
 unfold rdyB at hr
 rw[Ym hin]at hr
 simp at hr
theorem qdo {m:Fm}{k x:Nat}{pre:List Nat}{M:Nat->Bool}(hv:VfA m)(hk:k<m.F.length)(hx:nxt m pre=some x)(hM:MkD m k pre M):(fedL m x).any M=true ↔ Rch m k x:=by
 rw[qfx hk hx,Ol]
 have hxn:=(qfc hx).1
 constructor
 . rintro⟨j,hj,h⟩
   have hjn:=qil hv hxn j hj;exact⟨j,((hM j).1 h).1,hjn,(qf0 hv hjn hxn).1 hj,((hM j).1 h).2⟩
 . rintro⟨j,h1,h2,h3,h4⟩
   exact⟨j,(qf0 hv h2 hxn).2 h3,(hM j).2 ⟨h1,h4⟩⟩
theorem qic {m:Fm}{k x:Nat}{pre:List Nat}{M:Nat->Bool}(hx:nxt m pre=some x)(hM:MkD m k pre M)(h:x=k∨Rch m k x):MkD m k (pre++[x]) (up M x true)/\dirBy (up M x true) k (pre++[x])=dirBy M k pre++[x]:=by
 have hn:=qkd hx
 refine⟨fun i=>?_,?_⟩
 . by_cases e:i=x
   . subst e
     rw[up_at];simp[h]
   . rw[up_ne _ _ e,hM i]
     simp[e]
 . rw[q72,up_at,Yz (by simp)]
   congr 1
   unfold dirBy;refine List.filter_congr fun y hy=>?_;rw[up_ne _ _ (fun e=>hn (by rw[<- e];exact hy))]
theorem dir_no {m:Fm}{k x:Nat}{pre:List Nat}{M:Nat->Bool}(hx:nxt m pre=some x)(hM:MkD m k pre M)(h:¬ (x=k∨Rch m k x)):MkD m k (pre++[x]) M/\dirBy M k (pre++[x])=dirBy M k pre:=by
 have hn:=qkd hx
 have hf:M x=false:=by
  cases e:M x
  . rfl
  . exact absurd ((hM x).1 e).1 hn
 refine⟨fun i=>?_,?_⟩
 . by_cases e:i=x
   . subst e
     rw[hf];simp[h]
   . rw[hM i]
     simp[e]
 . rw[q72,Yt,Zz]
   rw[hf,Yj (fun e=>h (.inl e))];simp
theorem MkD.all {m:Fm}{k:Nat}{M:Nat->Bool}(h:MkD m k (ordL m m.F.length) M)(hl:(ordL m m.F.length).length=m.F.length):∀i,i<m.F.length->i≠k->(M i=true ↔ Rch m k i):=fun i hi hne=>by
 have hin:i∈ordL m m.F.length:=Classical.byContradiction fun hni=>by
  have h:=pigeon m.F.length ((i :: ordL m m.F.length).map fun k=>((k:Nat):Int)) ?_ ?_
  . simp at h;omega
  . exact List.Pairwise.map _ (fun a b h e=>h (by omega)) (Oa.2 ⟨hni,q8o m _⟩)
  . intro x hx
    obtain⟨y,hy,rfl⟩:=Zc.1 hx;rcases Zy.1 hy with e | e
    . omega
    . have:=qki m _ y e;omega
 rw[h i]
 simp[hin,hne]
theorem qdp (n:Nat)(m:Fm)(A:MA)(b k:Nat)(w:World)(hv:VfA m)(hf:FitM m)(hk:k<m.F.length)(hcy:(ordL m m.F.length).length=m.F.length)(ha:MSl w m A)(hm:PMap w b (fNames m)) :
 CallsIn Fence.wide n Tryz.prog 39 #[wV m A b,J9 k] w fun e w'=>∃v l,e=.returned v/\w'.ownsRow w.heap.size 3 1 v l.length (ui l)/\(∃M:Nat->Bool,(∀i,i<m.F.length->i≠k->(M i=true ↔ Rch m k i))/\l=dirBy M k (ordL m m.F.length))/\Below w.heap.size w w':=by
 have HV:=h_ hv
 have HCo:=h_ fun W=>qbq m A b W
 have HG:=h_ fun (w0:World) (B:Nat) X hW hs hp=>q5z m A b B w0 X hv hf hW hs hp
 have HCf:=h_ fun W x (hx:x<m.F.length) (hs:MSl W m A)=>q4x m A b x W hx hs
 have HCr:=h_ fun W g x G M (hx:x<m.F.length) (hs:MSl W m A) (hp:PMap W b (fNames m)) hg hG=>q1y m A b g x G M W hv hf hx hs hp hg hG
 have HS:=h_ ha;have HM:=h_ hm;have HCy:=h_ hcy
 obtain⟨al,alc,ap,apc,ar,arc,af,afc,afa⟩:=A
 unfold wV at HCo HCf HCr⊢
 dsimp only at HCo HG HCf HCr⊢
 have hnf:=hv.nf
 have HK:=h_ (((Blk.new w 56 #[.slice al m.L.length alc,.slice ap m.P.length apc,.slice ar m.R.length arc,.slice af m.F.length afc,.map (some b)]).alloc (.cells #[J9 k] 3)).alloc (.cells #[Ya] 30))
 have HI:=h_ ((Blk.new (w.alloc (.cells #[.slice al m.L.length alc,.slice ap m.P.length apc,.slice ar m.R.length arc,.slice af m.F.length afc,.map (some b)] 56)) 3 #[J9 k]).alloc (.cells #[Ya] 30))
 have HD:=h_ (Blk.new ((w.alloc (.cells #[.slice al m.L.length alc,.slice ap m.P.length apc,.slice ar m.R.length arc,.slice af m.F.length afc,.map (some b)] 56)).alloc (.cells #[J9 k] 3)) 30 #[Ya])
 simp only[Yx]at HI HD
 have HB:=h_ ((((bR w.heap.size w).alloc (nR _) (.cells #[.slice al m.L.length alc,.slice ap m.P.length apc,.slice ar m.R.length arc,.slice af m.F.length afc,.map (some b)] 56)).alloc (by simp) (.cells #[J9 k] 3)).alloc (by simp;omega) (.cells #[Ya] 30))
 obtain⟨W0,hW0⟩:=Nq (((w.alloc (.cells #[.slice al m.L.length alc,.slice ap m.P.length apc,.slice ar m.R.length arc,.slice af m.F.length afc,.map (some b)] 56)).alloc (.cells #[J9 k] 3)).alloc (.cells #[Ya] 30))
 have hs0:W0.heap.size=w.heap.size+3:=by rw[<- hW0];simp
 rw[hW0]at HK HI HD HB
 clear ha hm hv hf hcy
 obtain⟨i0,hi,hz0,hz1,hz2⟩:=info_parts q7h
 have hbn:i0.bytes*m.F.length<=281474976710656:=by rw[hz2];omega
 obtain⟨y0,y1,y2,y3,y4⟩:=five HK.u
 refine callsIn_of_wp_marks Tryz.func39 rfl trivial ?_ rfl
 simp only[Tryz.ntmps39,Zh,Ys,Y4,Nat.reduceAdd,Nat.reduceSub,Z9,Z8,Vg,Vb,Vj,Zn]
 gi_wp2_with (gi_at_make;refine qk2 _ rfl (.tmp 11) (.tmp 11) 33 rfl (w.heap.size+3) 4 i0 _ 1 Tryz.underlying33 hi hz0 hz1 .i64 .i64 _ _ m.F.length rfl rfl rfl rfl hbn (by unfold maxLen;omega) (by first | omega | (simp;done)) ?_)
 intro w1 hown hgrow
 try rw[hW0]at hown hgrow
 try rw[hW0]
 try rw[hs0]at hown
 try rw[hs0]
 have hb1:Below (w.heap.size+3) W0 w1:=(bR _ _).grown hgrow (by omega) (fun k e=>by cases e)
 have HZ:=h_ (qka hown)
 have hz1s:w.heap.size+3<w1.heap.size:=HZ.u.lt
 have HMx:=h_ (Blk.new w1 33 #[.slice (some ⟨w.heap.size+3,0,none⟩) m.F.length m.F.length])
 have hbm:=(bR w1.heap.size w1).alloc (nR _) (.cells #[.slice (some ⟨w.heap.size+3,0,none⟩) m.F.length m.F.length] 33)
 obtain⟨W2,hW2⟩:=Nq (w1.alloc (.cells #[.slice (some ⟨w.heap.size+3,0,none⟩) m.F.length m.F.length] 33))
 rw[hW2]at HMx hbm
 obtain⟨Mx,hMx⟩:=Nq w1.heap.size
 rw[hMx]at HMx hbm hz1s
 replace HK:=h_ ((HK.u.mono hb1 (by omega)).mono hbm (by omega));replace HI:=h_ ((HI.u.mono hb1 (by omega)).mono hbm (by omega));replace HD:=h_ ((HD.u.mono hb1 (by omega)).mono hbm (by omega));replace HZ:=h_ (HZ.u.mono hbm (by omega))
 replace HB:=h_ ((HB.u.trans (hb1.mono (by omega))).trans (hbm.mono (by omega)))
 clear hown hgrow hb1 hbm hbn hi hz0 hz1 hz2 hW0 y0 y1 y2 y3 y4
 obtain⟨y0,y1,y2,y3,y4⟩:=five HK.u
 have hs2:Mx<W2.heap.size:=HMx.u.lt
 gi_wp2_with fail
 try rw[hW2]
 try rw[hMx]
 refine callW ((HCo.u W2).mono ?_)
 rintro e W3 ⟨rfl,hO,hb3⟩
 replace HK:=mB HK hb3;replace HI:=mB HI hb3;replace HD:=mB HD hb3;replace HZ:=mB HZ hb3;replace HMx:=mB HMx hb3
 replace HB:=mT HB hb3
 have hs3:W2.heap.size<W3.heap.size:=hO.lt
 obtain⟨B3,hB3⟩:=Nq W2.heap.size
 rw[hB3]at hO
 have HG2:=h_ (HG.u W3 B3 (fun j=>j=w.heap.size+2∨j=w.heap.size+3) hO (HS.u.mono HB.u) (HM.u.mono HB.u))
 try rw[hB3]
 clear hW2 hMx hO hb3 HG HCo y0 y1 y2 y3 y4
 gi_wp2_with fail
 refine q8z (gf:=61) (lb:=#[Yc B3 0]) rfl (enters_of Tryz.func61 (by kernel_rfl) rfl)
  HG2.u (bR _ _) (fun j hj=>by omega) rfl
  (fun hi pre W=>∃v M,Blk W (w.heap.size+2) 30 [v]/\Blk W (w.heap.size+3) 4 (ms m.F.length M)/\Blk W Mx 33 [.slice (some ⟨w.heap.size+3,0,none⟩) m.F.length m.F.length]/\Blk W w.heap.size 56 [.slice al m.L.length alc,.slice ap m.P.length apc,.slice ar m.R.length arc,.slice af m.F.length afc,.map (some b)]/\Blk W (w.heap.size+1) 3 [J9 k]/\W.ownsRow (w.heap.size+4) 3 1 v (dirBy M k pre).length (ui (dirBy M k pre))/\(∀q,v.ownBlock=some q->hi<=q)/\hi<=W.heap.size/\MkD m k pre M/\Below w.heap.size w W)
  ?hI ?h0
  (fun x=>{ tmps:=#[.agg #[.slice al m.L.length alc,.slice ap m.P.length apc,.slice ar m.R.length arc,.slice af m.F.length afc,.map (some b)],J9 k,Yc w.heap.size 0,Yc (w.heap.size+1) 0,Ya,Yc (w.heap.size+1+1) 0,Yc Mx 0,J9 (x:Int),Yc w.heap.size 0,Yc w.heap.size 3,.slice af m.F.length afc,J9 m.F.length,.slice (some ⟨w.heap.size+3,0,none⟩) m.F.length m.F.length,.agg #[.slice al m.L.length alc,.slice ap m.P.length apc,.slice ar m.R.length arc,.slice af m.F.length afc,.map (some b)],.func (.func 61) #[] #[Yc B3 0],J9 (x:Int),undef,undef,undef,undef,undef,undef,undef,undef,undef,undef,undef,undef,undef,undef,undef,undef,undef,undef,undef],defers:=[] })
  ?assign ?body ?done
 case hI =>
  rintro hi pre W W' ⟨v,M,h1,h2,h3,h4,h5,h6,h7,h8,h9,h10⟩ hb;exact⟨v,M,hb.blk h1 (by omega),hb.blk h2 (by omega),hb.blk h3 (by omega),hb.blk h4 (by omega),hb.blk h5 (by omega),hb.owns h6 (fun q e=>by have:=h7 q e;omega),h7,Yv h8 hb.size,h9,h10.trans (hb.below (by omega) h10.size)⟩
 case h0 =>
  intro W hb;exact⟨.slice none 0 0,fun _=>false,HD.u.mono hb HD.u.lt,HZ.u.mono hb HZ.u.lt,HMx.u.mono hb HMx.u.lt,HK.u.mono hb HK.u.lt,HI.u.mono hb HI.u.lt,World.ownsRow_nil _ _ _ _,(fun q e=>by cases e),nR _,(fun i=>⟨fun h=>(by cases h),fun h=>(by cases h.1)⟩),HB.u.trans (hb.mono HB.u.size)⟩
 case assign =>
  intro m' l x W K hK
  gi_wp2
  first | exact hK | simpa using hK
 case body =>
  rintro m' l hi pre x W hhi ⟨v,M,h1,h2,h3,h4,h5,h6,h7,h8,h9,h10⟩ ⟨ht1,ht2,ht3⟩;have hxn:=(qfc ht3).1;have hxn':(x:Int)<m.F.length:=by omega
  have hmix:Tryz.prog.follows .mixedOrders=true:=by kernel_rfl
  have hdl:(dirBy M k pre).length<=200:=by
   have:=Vr (fun x=>decide (x=k)||M x) pre;unfold dirBy;omega
  have HCd:=h_ (qdo HV.u hk ht3 h9);have HYs:=h_ (fun h=>qic (k:=k) ht3 h9 h);have HNo:=h_ (fun h=>dir_no (k:=k) ht3 h9 h);have HSr:=h_ (HS.u.mono h10);have HMr:=h_ (HM.u.mono h10);have H1:=h_ h1;have H2:=h_ h2;have H3:=h_ h3;have H4:=h_ h4;have H5:=h_ h5;have H6:=h_ h6;have H7:=h_ h7;have H10:=h_ h10;clear h1 h2 h3 h4 h5 h6 h7 h9 h10 ht1 ht3;have hyes:(((x:Nat):Int)==(k:Int))=true∨(((x:Nat):Int)==(k:Int))=false:=by
   cases h:(((x:Nat):Int)==(k:Int))
   . exact .inr rfl
   . exact .inl rfl
  gi_wp2_with fail;rcases hyes with he | he
  . have HR:Hi (x=k∨Rch m k x):=h_ (.inl (by have:=beq_iff_eq.1 he;omega))
    refine q48 (S:=fun w'=>Blk w' (w.heap.size+1) 3 [J9 k]) (by rintro⟨a,w,h⟩;exact h) hmix (by kernel_rfl) H5.u (fun zz=>?_);refine tj 0 16 (J9 x) zz ?_;refine tj 1 17 (J9 k) zz ?_ (hy:=fun w hS=>by have q0:=hS.cell 0;simp only[Yh]at q0;simp[execOp,go_sem,q0]);refine tj 2 18 (.bool true) zz ?_ (hy:=fun w hS=>by simp[execOp,go_sem,he]);refine tj 3 19 (.bool true) zz ?_;simp only[sX,sY,sZ];refine tn 4 20 zz ?_;refine tn 5 21 zz ?_;refine tn 6 22 zz ?_;refine tn 7 23 zz ?_;simp only[sX,sY,sZ];refine tn 8 24 zz ?_;refine tn 9 25 zz ?_;refine tj 10 26 (.bool true) zz ?_;simp only[sX,sY,sZ];refine wpAnyH_done (by kernel_rfl) ?_ _;have HB2:Hi (Below W.heap.size W W.drew):=h_ (bR _ _).drew;clear zz;obtain⟨U2,hU2⟩:=Nq W.drew;rw[hU2]at HB2⊢;clear hU2;obtain⟨hm1,hm2⟩:=HYs.u HR.u;have HMn:=h_ hm1;obtain⟨i0,hi0,hz0,hz1,hz2⟩:=info_parts infoI;have g1:=H1.u.mono HB2.u H1.u.lt;have g2:=H2.u.mono HB2.u H2.u.lt;have g3:=H3.u.mono HB2.u H3.u.lt;have h8u:hi<=U2.heap.size:=Yv h8 HB2.u.size;have z3:=g3.cell 0;simp only[Yh]at z3;have zg:=(g2.cell x).trans (ms_at M hxn);have fg:=g2.free x;have G1:=h_ (g1.other (a:=⟨w.heap.size+3,x,none⟩) (.bool true) (by simp));have G2:=h_ (g2.set x (.bool true));rw[ms_set]at G2;have G3:=h_ (g3.other (a:=⟨w.heap.size+3,x,none⟩) (.bool true) (show Mx≠w.heap.size+3 by omega));have G4:=h_ ((H4.u.mono HB2.u H4.u.lt).other (a:=⟨w.heap.size+3,x,none⟩) (.bool true) (show w.heap.size≠w.heap.size+3 by omega));have G5:=h_ ((H5.u.mono HB2.u H5.u.lt).other (a:=⟨w.heap.size+3,x,none⟩) (.bool true) (show w.heap.size+1≠w.heap.size+3 by omega));have G6:=h_ (q8r (X:=fun j=>j=w.heap.size+3) (qbz H6.u HB2.u) (KeepX.set (a:=⟨w.heap.size+3,x,none⟩) (.bool true) rfl) (fun k hk=>by omega));have GB:=h_ ((H10.u.trans (HB2.u.mono H10.u.size)).setCell (p:=⟨w.heap.size+3,x,none⟩) (show w.heap.size<=w.heap.size+3 by omega) (.bool true));have GO:=h_ ((keepsO HB2.u).trans (KeepsOthers.setCell U2 ⟨w.heap.size+3,x,none⟩ (.bool true)));have GK:Hi (KeepB (fun j=>j=w.heap.size+2∨j=w.heap.size+3) hi W (U2.setCell ⟨w.heap.size+3,x,none⟩ (.bool true))):=h_ ((KeepB.of_below HB2.u h8).trans (KeepB.set (a:=⟨w.heap.size+3,x,none⟩) (.bool true) (.inr rfl)));have hu3:hi<=(U2.setCell ⟨w.heap.size+3,x,none⟩ (.bool true)).heap.size:=(by simpa using h8u);obtain⟨U3,hU3⟩:=Nq (U2.setCell ⟨w.heap.size+3,x,none⟩ (.bool true));rw[hU3]at G1 G2 G3 G4 G5 G6 GB GO GK hu3;have c1:=G1.u.cell 0;simp only[Yh]at c1;have c1':U3.cell? ⟨w.heap.size+1+1,0,none⟩=some v:=c1;clear g1 g2 g3 hm1;generalize M x=u at zg;gi_wp2_with (gi_at_builtin;refine wpListIn_append_own_at _ rfl _ _ 30 rfl (w.heap.size+4) 3 i0 _ 1 8 Tryz.underlying30 hi0 hz0 hz1 hz2 rfl (by omega) _ _ _ rfl (G6.u.alloc _) ⟨U3.heap.size,0,none⟩ 1 1 [J9 x] rfl rfl (qdh U3 3 _) (by simp[Value.oneCell']) (by unfold maxLen;omega) (by omega) (by simp;omega) ?_);intro v' u4 ho' hgr' _ hat';have hba:=(bR U3.heap.size U3).alloc (nR _) (.cells #[J9 x] 3);have ho2:u4.ownsRow (w.heap.size+4) 3 1 v' (dirBy (up M x true) k (pre++[x])).length (ui (dirBy (up M x true) k (pre++[x]))):=by
     rw[hm2];simpa [ui] using ho'
    have h6a:=G6.u.alloc (.cells #[J9 x] 3);have k1:Blk u4 (w.heap.size+2) 30 [v]:=Blk.grown (G1.u.mono hba G1.u.lt) hgr' (fun e=>by have:=(h6a.lt _ e.symm).1;omega);have k2:Blk u4 (w.heap.size+3) 4 (ms m.F.length (up M x true)):=Blk.grown (G2.u.mono hba G2.u.lt) hgr' (fun e=>by have:=(h6a.lt _ e.symm).1;omega);have k3:=Blk.grown (G3.u.mono hba G3.u.lt) hgr' (fun e=>by have:=H7.u _ e.symm;omega);have k4:=Blk.grown (G4.u.mono hba G4.u.lt) hgr' (fun e=>by have:=(h6a.lt _ e.symm).1;omega);have k5:=Blk.grown (G5.u.mono hba G5.u.lt) hgr' (fun e=>by have:=(h6a.lt _ e.symm).1;omega);have c4:=k1.cell 0;simp only[Yh]at c4;have c4':u4.cell? ⟨w.heap.size+1+1,0,none⟩=some v:=c4;have f4:=k1.free 0;have f4':u4.frozen? ⟨w.heap.size+1+1,0,none⟩=false:=f4;obtain⟨a',c',e',-⟩:=own_at ho2;obtain⟨n',hn'⟩:=Nq ((dirBy (up M x true) k (pre++[x])).length);rw[hn']at e';have HQ:Hi (∀q,v'.ownBlock=some q->hi<=q):=h_ fun q e=>by
     rcases hat' with h | h
     . exact H7.u q (h.symm.trans e)
     . rw[h]at e
       cases e
       first | omega | (simp;omega)
    have K1:=h_ (k1.set 0 v');simp only[Yd]at K1;have K2:=h_ (k2.other (a:=⟨w.heap.size+2,0,none⟩) v' (show w.heap.size+3≠w.heap.size+2 by omega));have K3:=h_ (k3.other (a:=⟨w.heap.size+2,0,none⟩) v' (show Mx≠w.heap.size+2 by omega));have K4:=h_ (k4.other (a:=⟨w.heap.size+2,0,none⟩) v' (show w.heap.size≠w.heap.size+2 by omega));have K5:=h_ (k5.other (a:=⟨w.heap.size+2,0,none⟩) v' (show w.heap.size+1≠w.heap.size+2 by omega));have K6:=h_ (q8r (X:=fun j=>j=w.heap.size+2) ho2 (KeepX.set (W:=u4) (a:=⟨w.heap.size+2,0,none⟩) v' rfl) (fun k hk=>by omega));have KB:=h_ (((GB.u.trans (hba.mono GB.u.size)).grown hgr' (by simp;have:=GB.u.size;omega) (fun q e=>by have:=(h6a.lt q e).1;omega)).setCell (p:=⟨w.heap.size+2,0,none⟩) (show w.heap.size<=w.heap.size+2 by omega) v');have KO:=h_ ((GO.u.trans ((keepsO hba).trans (KeepsOthers.of_grownBy hgr' fun j o ej hj=>qbu h6a ej hj))).trans (KeepsOthers.setCell u4 ⟨w.heap.size+2,0,none⟩ v'));have KK:=h_ (((GK.u.trans (KeepB.of_below hba hu3)).trans (KeepB.grown hgr' fun q e=>.inl (H7.u q e))).trans (KeepB.set (a:=⟨w.heap.size+2,0,none⟩) v' (.inl rfl)));have KS:Hi (hi<=(u4.setCell ⟨w.heap.size+2,0,none⟩ v').heap.size):=h_ (by have:=hgr'.size;simp at this⊢;omega);clear ho' hgr' hat' ho2 h6a k1 k2 k3 k4 k5 hba hi0 hz0 hz1 hz2 c1 c1' hn' hm2 zg fg z3 hU3;subst e';gi_wp2_with fail;exact⟨KO.u,KK.u,_,_,K1.u,K2.u,K3.u,K4.u,K5.u,K6.u,HQ.u,KS.u,HMn.u,KB.u⟩
  . have he2:¬ x=k:=fun e=>by rw[e]at he;simp at he
    refine q48 (S:=fun w'=>Blk w' w.heap.size 56 [.slice al m.L.length alc,.slice ap m.P.length apc,.slice ar m.R.length arc,.slice af m.F.length afc,.map (some b)]/\Blk w' (w.heap.size+1) 3 [J9 k]/\Blk w' Mx 33 [.slice (some ⟨w.heap.size+3,0,none⟩) m.F.length m.F.length]) (by rintro⟨a,w,h⟩;exact h) hmix (by kernel_rfl) ⟨H4.u,H5.u,H3.u⟩ (fun zz=>?_);refine tj 0 16 (J9 x) zz ?_;refine tj 1 17 (J9 k) zz ?_ (hy:=fun w hS=>by have q0:=hS.2.1.cell 0;simp only[Yh]at q0;simp[execOp,go_sem,q0]);refine tj 2 18 (.bool false) zz ?_ (hy:=fun w hS=>by simp[execOp,go_sem,he]);refine tj 3 19 (.bool false) zz ?_;simp only[sX,sY,sZ];refine tj 4 20 (.agg #[.slice al m.L.length alc,.slice ap m.P.length apc,.slice ar m.R.length arc,.slice af m.F.length afc,.map (some b)]) zz ?_ (hy:=fun w hS=>by obtain⟨q0,q1,q2,q3,q4⟩:=five hS.1;simp[execOp,go_sem,q0,q1,q2,q3,q4]);refine tj 5 21 (.agg #[.slice al m.L.length alc,.slice ap m.P.length apc,.slice ar m.R.length arc,.slice af m.F.length afc,.map (some b)]) zz ?_ (hy:=fun w hS=>by obtain⟨q0,q1,q2,q3,q4⟩:=five hS.1;simp[execOp,go_sem,q0,q1,q2,q3,q4]);refine tj 6 22 (J9 x) zz ?_;refine tj 8 24 (.slice (some ⟨w.heap.size+3,0,none⟩) m.F.length m.F.length) zz ?_ (hy:=fun w hS=>by have q0:=hS.2.2.cell 0;simp only[Yh]at q0;simp[execOp,go_sem,q0]);simp only[sX,sY,sZ];have HD1:Hi (Below W.heap.size W W.drew):=h_ (bR _ _).drew;refine callY (i:=7) (f:=66) (args:=#[.agg #[.slice al m.L.length alc,.slice ap m.P.length apc,.slice ar m.R.length arc,.slice af m.F.length afc,.map (some b)],J9 x]) (R:=fun v wz=>∃g,v=.slice (some ⟨g,0,none⟩) 2 2/\Blk wz g 40 [.slice (afa x).i m.F[x].is.length (afa x).ic,.slice (afa x).h m.F[x].wh.length (afa x).hc]/\Below W.heap.size W wz) 23 rfl rfl (by rfl) (by kernel_rfl) ?hrun7 ((HCf.u W.drew x hxn (HSr.u.mono HD1.u)).mono fun e w6 ⟨g,he,hg,hb⟩=>⟨_,he,g,rfl,hg,q25 hb⟩) ?_
    case hrun7=>simp[execOp,go_sem]
    rintro v' V2 ⟨g,rfl,hg,hb2⟩;replace zz:Blk V2 w.heap.size 56 [.slice al m.L.length alc,.slice ap m.P.length apc,.slice ar m.R.length arc,.slice af m.F.length afc,.map (some b)]/\Blk V2 (w.heap.size+1) 3 [J9 k]/\Blk V2 Mx 33 [.slice (some ⟨w.heap.size+3,0,none⟩) m.F.length m.F.length]:=⟨H4.u.mono hb2 H4.u.lt,H5.u.mono hb2 H5.u.lt,H3.u.mono hb2 H3.u.lt⟩;have HCr2:=h_ (HCr.u V2 g x (w.heap.size+3) M hxn (HSr.u.mono hb2) (HMr.u.mono hb2) hg (H2.u.mono hb2 H2.u.lt));have HBv:=h_ hb2;clear hg hb2 HD1;refine⟨zz,?_⟩;simp only[sX,sY,sZ];refine callY (i:=9) (f:=65) (args:=#[.agg #[.slice al m.L.length alc,.slice ap m.P.length apc,.slice ar m.R.length arc,.slice af m.F.length afc,.map (some b)],.slice (some ⟨g,0,none⟩) 2 2,.slice (some ⟨w.heap.size+3,0,none⟩) m.F.length m.F.length]) (R:=fun v wz=>v=.bool ((fedL m x).any M)/\Below V2.heap.size V2 wz) 25 rfl rfl (by rfl) (by kernel_rfl) ?hrun9 (HCr2.u.mono fun e w6 ⟨he,hb⟩=>⟨_,he,rfl,hb⟩) ?_
    case hrun9=>simp[execOp,go_sem]
    rintro v' U2 ⟨rfl,hb3⟩;have HB2:=mT HBv hb3;replace zz:=And.intro (zz.1.mono hb3 zz.1.lt) (And.intro (zz.2.1.mono hb3 zz.2.1.lt) (zz.2.2.mono hb3 zz.2.2.lt));clear hb3 HBv HCr2;refine⟨zz,?_⟩;simp only[sX,sY,sZ];generalize (fedL m x).any M=q at *;refine tj 10 26 (.bool q) zz ?_;simp only[sX,sY,sZ];refine wpAnyH_done (by kernel_rfl) ?_ _;clear zz;cases q
    . obtain⟨hm1,hm2⟩:=HNo.u (fun h=>h.elim he2 (fun h=>by have:=HCd.u.2 h;cases this))
      have H6n:Hi (W.ownsRow (w.heap.size+4) 3 1 v (dirBy M k (pre++[x])).length (ui (dirBy M k (pre++[x])))):=h_ (by rw[hm2];exact H6.u);have HMn:=h_ hm1;clear hm1 hm2;gi_wp2_with fail;exact⟨keepsO HB2.u,KeepB.of_below HB2.u h8,v,M,H1.u.mono HB2.u H1.u.lt,H2.u.mono HB2.u H2.u.lt,H3.u.mono HB2.u H3.u.lt,H4.u.mono HB2.u H4.u.lt,H5.u.mono HB2.u H5.u.lt,qbz H6n.u HB2.u,H7.u,Yv h8 HB2.u.size,HMn.u,H10.u.trans (HB2.u.mono H10.u.size)⟩
    . have HR:Hi (x=k∨Rch m k x):=h_ (.inr (HCd.u.1 rfl))
      obtain⟨hm1,hm2⟩:=HYs.u HR.u;have HMn:=h_ hm1;obtain⟨i0,hi0,hz0,hz1,hz2⟩:=info_parts infoI;have g1:=H1.u.mono HB2.u H1.u.lt;have g2:=H2.u.mono HB2.u H2.u.lt;have g3:=H3.u.mono HB2.u H3.u.lt;have h8u:hi<=U2.heap.size:=Yv h8 HB2.u.size;have z3:=g3.cell 0;simp only[Yh]at z3;have zg:=(g2.cell x).trans (ms_at M hxn);have fg:=g2.free x;have G1:=h_ (g1.other (a:=⟨w.heap.size+3,x,none⟩) (.bool true) (by simp));have G2:=h_ (g2.set x (.bool true));rw[ms_set]at G2;have G3:=h_ (g3.other (a:=⟨w.heap.size+3,x,none⟩) (.bool true) (show Mx≠w.heap.size+3 by omega));have G4:=h_ ((H4.u.mono HB2.u H4.u.lt).other (a:=⟨w.heap.size+3,x,none⟩) (.bool true) (show w.heap.size≠w.heap.size+3 by omega));have G5:=h_ ((H5.u.mono HB2.u H5.u.lt).other (a:=⟨w.heap.size+3,x,none⟩) (.bool true) (show w.heap.size+1≠w.heap.size+3 by omega));have G6:=h_ (q8r (X:=fun j=>j=w.heap.size+3) (qbz H6.u HB2.u) (KeepX.set (a:=⟨w.heap.size+3,x,none⟩) (.bool true) rfl) (fun k hk=>by omega));have GB:=h_ ((H10.u.trans (HB2.u.mono H10.u.size)).setCell (p:=⟨w.heap.size+3,x,none⟩) (show w.heap.size<=w.heap.size+3 by omega) (.bool true));have GO:=h_ ((keepsO HB2.u).trans (KeepsOthers.setCell U2 ⟨w.heap.size+3,x,none⟩ (.bool true)));have GK:Hi (KeepB (fun j=>j=w.heap.size+2∨j=w.heap.size+3) hi W (U2.setCell ⟨w.heap.size+3,x,none⟩ (.bool true))):=h_ ((KeepB.of_below HB2.u h8).trans (KeepB.set (a:=⟨w.heap.size+3,x,none⟩) (.bool true) (.inr rfl)));have hu3:hi<=(U2.setCell ⟨w.heap.size+3,x,none⟩ (.bool true)).heap.size:=(by simpa using h8u);obtain⟨U3,hU3⟩:=Nq (U2.setCell ⟨w.heap.size+3,x,none⟩ (.bool true));rw[hU3]at G1 G2 G3 G4 G5 G6 GB GO GK hu3;have c1:=G1.u.cell 0;simp only[Yh]at c1;have c1':U3.cell? ⟨w.heap.size+1+1,0,none⟩=some v:=c1;clear g1 g2 g3 hm1;generalize M x=u at zg;gi_wp2_with (gi_at_builtin;refine wpListIn_append_own_at _ rfl _ _ 30 rfl (w.heap.size+4) 3 i0 _ 1 8 Tryz.underlying30 hi0 hz0 hz1 hz2 rfl (by omega) _ _ _ rfl (G6.u.alloc _) ⟨U3.heap.size,0,none⟩ 1 1 [J9 x] rfl rfl (qdh U3 3 _) (by simp[Value.oneCell']) (by unfold maxLen;omega) (by omega) (by simp;omega) ?_);intro v' u4 ho' hgr' _ hat';have hba:=(bR U3.heap.size U3).alloc (nR _) (.cells #[J9 x] 3);have ho2:u4.ownsRow (w.heap.size+4) 3 1 v' (dirBy (up M x true) k (pre++[x])).length (ui (dirBy (up M x true) k (pre++[x]))):=by
       rw[hm2];simpa [ui] using ho'
      have h6a:=G6.u.alloc (.cells #[J9 x] 3);have k1:Blk u4 (w.heap.size+2) 30 [v]:=Blk.grown (G1.u.mono hba G1.u.lt) hgr' (fun e=>by have:=(h6a.lt _ e.symm).1;omega);have k2:Blk u4 (w.heap.size+3) 4 (ms m.F.length (up M x true)):=Blk.grown (G2.u.mono hba G2.u.lt) hgr' (fun e=>by have:=(h6a.lt _ e.symm).1;omega);have k3:=Blk.grown (G3.u.mono hba G3.u.lt) hgr' (fun e=>by have:=H7.u _ e.symm;omega);have k4:=Blk.grown (G4.u.mono hba G4.u.lt) hgr' (fun e=>by have:=(h6a.lt _ e.symm).1;omega);have k5:=Blk.grown (G5.u.mono hba G5.u.lt) hgr' (fun e=>by have:=(h6a.lt _ e.symm).1;omega);have c4:=k1.cell 0;simp only[Yh]at c4;have c4':u4.cell? ⟨w.heap.size+1+1,0,none⟩=some v:=c4;have f4:=k1.free 0;have f4':u4.frozen? ⟨w.heap.size+1+1,0,none⟩=false:=f4;obtain⟨a',c',e',-⟩:=own_at ho2;obtain⟨n',hn'⟩:=Nq ((dirBy (up M x true) k (pre++[x])).length);rw[hn']at e';have HQ:Hi (∀q,v'.ownBlock=some q->hi<=q):=h_ fun q e=>by
       rcases hat' with h | h
       . exact H7.u q (h.symm.trans e)
       . rw[h]at e
         cases e
         first | omega | (simp;omega)
      have K1:=h_ (k1.set 0 v');simp only[Yd]at K1;have K2:=h_ (k2.other (a:=⟨w.heap.size+2,0,none⟩) v' (show w.heap.size+3≠w.heap.size+2 by omega));have K3:=h_ (k3.other (a:=⟨w.heap.size+2,0,none⟩) v' (show Mx≠w.heap.size+2 by omega));have K4:=h_ (k4.other (a:=⟨w.heap.size+2,0,none⟩) v' (show w.heap.size≠w.heap.size+2 by omega));have K5:=h_ (k5.other (a:=⟨w.heap.size+2,0,none⟩) v' (show w.heap.size+1≠w.heap.size+2 by omega));have K6:=h_ (q8r (X:=fun j=>j=w.heap.size+2) ho2 (KeepX.set (W:=u4) (a:=⟨w.heap.size+2,0,none⟩) v' rfl) (fun k hk=>by omega));have KB:=h_ (((GB.u.trans (hba.mono GB.u.size)).grown hgr' (by simp;have:=GB.u.size;omega) (fun q e=>by have:=(h6a.lt q e).1;omega)).setCell (p:=⟨w.heap.size+2,0,none⟩) (show w.heap.size<=w.heap.size+2 by omega) v');have KO:=h_ ((GO.u.trans ((keepsO hba).trans (KeepsOthers.of_grownBy hgr' fun j o ej hj=>qbu h6a ej hj))).trans (KeepsOthers.setCell u4 ⟨w.heap.size+2,0,none⟩ v'));have KK:=h_ (((GK.u.trans (KeepB.of_below hba hu3)).trans (KeepB.grown hgr' fun q e=>.inl (H7.u q e))).trans (KeepB.set (a:=⟨w.heap.size+2,0,none⟩) v' (.inl rfl)));have KS:Hi (hi<=(u4.setCell ⟨w.heap.size+2,0,none⟩ v').heap.size):=h_ (by have:=hgr'.size;simp at this⊢;omega);clear ho' hgr' hat' ho2 h6a k1 k2 k3 k4 k5 hba hi0 hz0 hz1 hz2 c1 c1' hn' hm2 zg fg z3 hU3;subst e';gi_wp2_with fail;exact⟨KO.u,KK.u,_,_,K1.u,K2.u,K3.u,K4.u,K5.u,K6.u,HQ.u,KS.u,HMn.u,KB.u⟩
 case done =>
  rintro D hi xs W hD hDh hS ⟨v,M,h1,h2,h3,h4,h5,h6,h7,h8,h9,h10⟩ hK;have c0:=h1.cell 0;simp only[Yh]at c0;rw[hS]at h6 h9;have H6:=h_ h6;have H9:=h_ h9;have H10:=h_ h10;have HKd:=h_ hK;clear h1 h2 h3 h4 h5 h6 h7 h9 h10 hS hK;gi_wp2_with fail;refine⟨by simp,.inl ⟨_,_,rfl,run_takeDeferred HKd.u,?_⟩⟩;refine⟨v,by simp[results,Tryz.f39,go_sem],v,_,rfl,q8s (q8r (X:=fun _=>False) H6.u (KeepX.put (o':=.deferred none) HKd.u rfl) (fun k hk=>hk.elim)) (by omega),⟨M,H9.u.all HCy.u,rfl⟩,H10.u.trans (q9o _ D _ (by omega))⟩
theorem q2b (m:Fm)(A:MA)(kz:Int)(w:World)(hf:FitM m)(hcap:Caps m A)(ha:MSl w m A)(ht:Tabs w)(hy:TyW w) :
 Calls Tryz.prog 16 #[mV m A,J9 kz] w fun r w'=>∃v l,r=.returned v/\DirOk m kz (calcX m) l/\w'.ownsRow w.heap.size 3 1 v l.length (ui l)/\Below w.heap.size w w':=by
 have HVa:Hi (vfB m=true->VfA m):=h_ fun h=>Classical.byContradiction fun hn=>by rw[qd4 hn]at h;cases h
 have HCw:=h_ fun W (hs:MSl W m A) (ht:Tabs W) (hy:TyW W)=>q4g m A W hf hcap hs ht hy
 have HCh:=h_ fun W b (hv:VfA m) (hs:MSl W m A) (hp:PMap W b (fNames m))=>q3d m A b W hv hf hs hp
 have HCd:=h_ fun W b k (hv:VfA m) (hk:k<m.F.length) (hc:(ordL m m.F.length).length=m.F.length) (hs:MSl W m A) (hp:PMap W b (fNames m))=>(callsIn_wide (n:=9)).1 (qdp 9 m A b k W hv hf hk hc hs hp)
 obtain⟨al,alc,ap,apc,ar,arc,af,afc,afa⟩:=A
 unfold mV at HCw⊢
 unfold wV at HCw HCh HCd
 dsimp only at HCw HCh HCd⊢
 have HK:=h_ (Blk.new w 28 (Jb al m alc ap apc ar arc af afc))
 have HB:=h_ ((bR w.heap.size w).alloc (nR _) (.cells (Jb al m alc ap apc ar arc af afc) 28))
 obtain⟨W0,hW0⟩:=Nq (w.alloc (.cells (Jb al m alc ap apc ar arc af afc) 28))
 rw[hW0]at HK HB
 have HS:=h_ (ha.mono HB.u);have HT:=h_ (ht.mono HB.u);have HY:=h_ (hy.mono HB.u)
 clear ha ht hy hf hcap
 obtain⟨y0,y1,y2,y3⟩:=quad HK.u
 go_enter Tryz.func16,Tryz.ntmps16
 go_wp2_with fail
 try rw[hW0]
 refine(HCw.u W0 HS.u HT.u HY.u).mono ?_
 rintro r W1 ⟨h | h,hb1⟩
 . obtain⟨hq,rfl⟩:=h
   replace HB:=mT HB hb1;have HX:Hi (calcX m=[]):=h_ (by unfold calcX;rw[hq];rfl);have HBz:=h_ (HB.u.alloc HB.u.size (.cells Ju 56));clear hb1 hW0 y0 y1 y2 y3 hq;have HDx:Hi (DirOk m kz (calcX m) []):=h_ (.inl ⟨by rw[HX.u];simp,rfl⟩);go_wp2_with fail;go_ret;exact⟨_,[],rfl,HDx.u,World.ownsRow_nil _ _ _ _,HBz.u⟩
 . obtain⟨hq,b,rfl,hm⟩:=h
   have HV:=h_ (HVa.u hq);have HX:Hi (calcX m=calcL m):=h_ (by unfold calcX;rw[hq];rfl);replace HK:=mB HK hb1;replace HS:=h_ (HS.u.mono hb1);replace HB:=mT HB hb1;have HM:=h_ hm;clear hb1 hW0 y0 y1 y2 y3 hq hm HT HY HCw HVa;have HKw:=h_ (Blk.new W1 56 #[.slice al m.L.length alc,.slice ap m.P.length apc,.slice ar m.R.length arc,.slice af m.F.length afc,.map (some b)]);have hba:=(bR W1.heap.size W1).alloc (nR _) (.cells #[.slice al m.L.length alc,.slice ap m.P.length apc,.slice ar m.R.length arc,.slice af m.F.length afc,.map (some b)] 56);obtain⟨W2,hW2⟩:=Nq (W1.alloc (.cells #[.slice al m.L.length alc,.slice ap m.P.length apc,.slice ar m.R.length arc,.slice af m.F.length afc,.map (some b)] 56));rw[hW2]at HKw hba;replace HK:=mB HK hba;replace HS:=h_ (HS.u.mono hba);replace HB:=mT HB hba;replace HM:=h_ (HM.u.mono hba);obtain⟨X,hX⟩:=Nq W1.heap.size;rw[hX]at HKw;clear hba;obtain⟨z0,z1,z2,z3,z4⟩:=five HKw.u;go_wp2_with fail
   try rw[hW2]
   refine(HCh.u W2 b HV.u HS.u HM.u).mono ?_;rintro r W3 ⟨rfl,hb3⟩;replace HK:=mB HK hb3;replace HS:=h_ (HS.u.mono hb3);replace HB:=mT HB hb3;replace HM:=h_ (HM.u.mono hb3);replace HKw:=mB HKw hb3;clear hb3 hW2 z0 z1 z2 z3 z4;obtain⟨z0,z1,z2,z3,z4⟩:=five HKw.u
   try rw[hX]
   clear hX;obtain⟨y0,y1,y2,y3⟩:=quad HK.u;cases hc:decide ((ordL m m.F.length).length<m.F.length)
   . have hol:(ordL m m.F.length).length=m.F.length:=by
      have h1:=of_decide_eq_false hc;have h2:=qkh m m.F.length;omega
     have HL:Hi (calcX m=ordL m m.F.length):=h_ (by
      rw[HX.u];exact q6w hol)
     have HCl:Hi (((calcX m).length:Int)=m.F.length):=h_ (by rw[HL.u,hol]);have HOl:=h_ hol;have hnf:=HV.u.nf;clear hc hol;by_cases k0:kz<0
     . have HDx:Hi (DirOk m kz (calcX m) []):=h_ (.inl ⟨by omega,rfl⟩)
       go_wp2_with fail;go_ret;exact⟨_,[],rfl,HDx.u,World.ownsRow_nil _ _ _ _,HB.u⟩
     by_cases k1:(m.F.length:Int)<=kz
     . have HDx:Hi (DirOk m kz (calcX m) []):=h_ (.inl ⟨by have:=HCl.u;omega,rfl⟩)
       go_wp2_with fail;go_ret;exact⟨_,[],rfl,HDx.u,World.ownsRow_nil _ _ _ _,HB.u⟩
     obtain⟨k,rfl⟩:∃k:Nat,kz=k:=⟨kz.toNat,by omega⟩;have hkn:k<m.F.length:=(by omega);have HC2:=h_ (HCd.u W3 b k HV.u hkn HOl.u HS.u HM.u);have HDx:Hi (∀(M:Nat->Bool) l,(∀i,i<m.F.length->i≠k->(M i=true ↔ Rch m k i))->l=dirBy M k (ordL m m.F.length)->DirOk m k (calcX m) l):=h_ fun M l h1 h2=>.inr ⟨by omega,by have:=HCl.u;omega,M,fun i hi hne=>by rw[Ov]at hne⊢;exact h1 i hi hne,by rw[Ov,HL.u];exact h2⟩;clear HCd HCh;go_wp2_with fail;refine HC2.u.mono ?_;rintro r W5 ⟨v,l,rfl,ho,⟨M,hM1,hM2⟩,hb5⟩;have HO:=h_ (q8s ho HB.u.size);have HDy:=h_ (HDx.u M l hM1 hM2);replace HB:=mT HB hb5;clear ho hb5 hM1 hM2;go_wp2_with fail;go_ret;exact⟨v,l,rfl,HDy.u,HO.u,HB.u⟩
   . have HL:Hi (calcX m=[]):=h_ (by
      have h1:=Zg hc;rw[HX.u];unfold calcL;rw[Yt (by omega)])
     have HDx:Hi (DirOk m kz (calcX m) []):=h_ (.inl ⟨by rw[HL.u];simp,rfl⟩);clear hc;go_wp2_with fail;go_ret;exact⟨_,[],rfl,HDx.u,World.ownsRow_nil _ _ _ _,HB.u⟩
end Go.Proofs.YtebbgodlijlioaaGreatDoor
namespace Go.Proofs.YtebbgodlijlioaaGreatDoor
open Go Go.RowKit
theorem OwM.caps {w:World}{base:Nat}{v1 v2 v3 v4:Value}{m:Fm}{P:List (Fl × FA)}(h:OwM w base v1 v2 v3 v4 m P){A:MA}(hA:A.fa=faOf P):Caps m A:=fun k hk=>by
 have hl:m.F.length=P.length:=by rw[h.e,Y7]
 have hk':k<P.length:=by omega
 have e1:m.F[k]=(P[k]).1:=by
  have:m.F[k]? = some (P[k]).1:=by rw[h.e,Zk,Yi hk'];rfl
  rw[Yi hk]at this;exact Zt this
 rw[hA,qdt hk',e1]
 obtain⟨a,c,e,hc,-⟩:=q8v (h.f.sub _ (Yk hk')).b
 cases e
 exact hc
structure LoO (m:Fm)(A1 A2:MA)(X1 X2:Nat)(a6:Option Addr)(C:List Nat)(w W:World):Prop where
 k1:Blk W X1 28 [.slice A1.l m.L.length A1.lc,.slice A1.p m.P.length A1.pc,.slice A1.r m.R.length A1.rc,.slice A1.f m.F.length A1.fc]
 k2:Blk W X2 28 [.slice A2.l m.L.length A2.lc,.slice A2.p m.P.length A2.pc,.slice A2.r m.R.length A2.rc,.slice A2.f m.F.length A2.fc]
 s1:MSl W m A1
 s2:MSl W m A2
 p:Plc W a6 C
 t:Tabs W
 y:TyW W
 b:Below w.heap.size w W
theorem LoO.mono {m:Fm}{A1 A2:MA}{X1 X2:Nat}{a6:Option Addr}{C:List Nat}{w W W':World}(h:LoO m A1 A2 X1 X2 a6 C w W)(hb:Below W.heap.size W W'):LoO m A1 A2 X1 X2 a6 C w W' :=
 ⟨h.k1.mono hb h.k1.lt,h.k2.mono hb h.k2.lt,h.s1.mono hb,h.s2.mono hb,h.p.mono hb,h.t.mono hb,h.y.mono hb,h.b.trans (hb.mono h.b.size)⟩
def fdU (m:Fm)(l:List Nat)(j p:Nat):Bool:=(l.take p).any fun x=>fedB m x j
theorem qdv {m:Fm}{l:List Nat}{j p:Nat}(h:p<l.length):fdU m l j (p+1)=(fdU m l j p||fedB m l[p] j):=by
 unfold fdU
 rw[Vv,Yi h,List.any_append]
 show(_||([l[p]].any _))=_
 simp
theorem qij {m:Fm}{C l:List Nat}{k j:Nat}(h:DirF m C l k)(hj:j<C.length)(hjk:j≠k):fdU m l j l.length=decide (j∈l):=by
 unfold fdU
 rw[Zm]
 have hf:=h.fed j hj hjk
 by_cases hm:j∈l
 . rw[Ym hm]
   obtain⟨i,hi,e⟩:=hf.2 hm;exact Ol.2 ⟨_,Yk hi,e⟩
 . rw[Yj hm]
   refine List.any_eq_false.2 fun x hx e=>hm (hf.1 ?_);obtain⟨i,hi,rfl⟩:=Yy.1 hx;exact⟨i,hi,e⟩
theorem asc_z {m:Fm}{C l:List Nat}{k p:Nat}{z1 z2:Int}(h:DirF m C l k)(hp:p+1<l.length)(h1:AtI C (l[p]'(by omega)) z1)(h2:AtI C l[p+1] z2):z1<z2:=by
 rcases h1 with ⟨i,hi,e1,rfl⟩ | ⟨h1,-⟩
 . rcases h2 with ⟨j,hj,e2,rfl⟩ | ⟨h2,-⟩
   . have:=h.asc (p+1) (by omega) hp i j hi hj e1 e2
     omega
   . exact absurd (h.sub _ (Yk hp)) h2
 . exact absurd (h.sub _ (Yk (by omega))) h1
theorem q40 (len:Nat)(f:Nat->Nat)(a:Option Addr)(c:Nat)(w:World)(hby:Byts w a len f)(ht:Tabs w)(hy:TyW w)(HX:len<=1048576->DrwG len f) :
 Calls Tryz.prog 4 #[.slice a len c] w fun r w'=>r=.returned (.bool true)/\Below w.heap.size w w':=by
 by_cases hlen:len<=1048576
 case neg =>
  have hl':(1048576:Int)<len:=by omega
  clear hby ht hy HX;go_enter Tryz.func4,Tryz.ntmps4;go_wp2_with fail;go_ret;exact⟨rfl,bR _ _⟩
 case pos =>
 obtain⟨m,hf,hc⟩:=q4v len f (HX hlen)
 clear HX
 have hl':¬ (1048576:Int)<len:=by omega
 have hvA:vfB m=true->VfA m:=fun h=>Classical.byContradiction fun hn=>by rw[qd4 hn]at h;cases h
 have hcl:(calcX m).length<=200:=by
  unfold calcX;split
  . rename_i h
    have h1:=(hvA h).nf;unfold calcL;have h2:=qfe m m.F.length;split
    . omega
    . simp
  . simp
 have HCd:=h_ fun W (h:Byts W a len f)=>hc W a c h
 have HCs:=h_ fun W A' (hs:MSl W m A')=>q6a m A' W (fun W' hs'=>q0e m A' W' hf hs') (fun h=>(hvA h).nf) hf hs
 have HCi:=h_ fun W A' (hc:Caps m A') (hs:MSl W m A') (ht:Tabs W) (hy:TyW W)=>q3f m A' W hf hc hs ht hy
 have HCy:=h_ fun (k:Nat) W A' (hc:Caps m A') (hs:MSl W m A') (ht:Tabs W) (hy:TyW W)=>q2b m A' (k:Int) W hf hc hs ht hy
 have HCf:=h_ fun (j k:Nat) W A' (hj:j<m.F.length) (hk:k<m.F.length) (hs:MSl W m A')=>q9b m A' j k W hj hk hf hs
 have HOf:=h_ (q8n m)
 generalize calcX m=C at *
 obtain⟨n,hn⟩:=Nq C.length
 rw[hn]at hcl
 have HCn:Hi (∀x,x∈C->x<m.F.length):=h_ fun x hx=>by
  have h1:=HOf.u.lt x hx;rcases HOf.u.n with e | e
  . omega
  . rw[e]at hx;cases hx
 have HN:=h_ hn
 clear hc hvA hf hn
 unfold mV at HCs HCi HCy HCf
 go_enter Tryz.func4,Tryz.ntmps4
 go_wp2_with fail
 refine(HCd.u w hby).mono ?_
 rintro e W1 ⟨v1,v2,v3,v4,P,rfl,ho,hb⟩
 obtain⟨A1,-,hs1,rfl,rfl,rfl,rfl,hfa⟩:=ho.sl
 have hcap:=ho.caps hfa
 obtain⟨al,alc,ap,apc,ar,arc,af,afc,afa⟩:=A1
 dsimp only at hs1 hfa⊢
 have hal:=(bR W1.heap.size W1).alloc (nR _) (.cells (Jb al m alc ap apc ar arc af afc) 28)
 have hX1:=Blk.new W1 28 (Jb al m alc ap apc ar arc af afc)
 obtain⟨X1,hXe⟩:=Nq W1.heap.size
 obtain⟨W2,hW2⟩:=Nq (W1.alloc (.cells (Jb al m alc ap apc ar arc af afc) 28))
 rw[hW2]at hal hX1
 rw[hXe]at hX1
 have hbw:=hb.trans (hal.mono hb.size)
 have HK1:=h_ hX1;have HS1:=h_ (hs1.mono hal);have HB:=h_ hbw;have HBy:=h_ (hby.mono hbw);have HCap:=h_ hcap
 have HT:=h_ (ht.mono hbw);have HY:=h_ (hy.mono hbw)
 have HW2:=h_ hW2;have HXe:=h_ hXe
 clear ho hb hs1 hfa hcap hal hX1 hW2 hXe hbw hby ht hy
 go_wp2_with fail
 try rw[HW2.u]
 try rw[HXe.u]
 clear HW2 HXe
 refine(HCd.u W2 HBy.u).mono ?_
 rintro e W3 ⟨v1,v2,v3,v4,P2,rfl,ho,hb⟩
 obtain⟨A2,-,hs2,rfl,rfl,rfl,rfl,-⟩:=ho.sl
 obtain⟨bl,blc,bp,bpc,br,brc,bf,bfc,bfa⟩:=A2
 dsimp only at hs2⊢
 have hal:=(bR W3.heap.size W3).alloc (nR _) (.cells (Jb bl m blc bp bpc br brc bf bfc) 28)
 have hX2:=Blk.new W3 28 (Jb bl m blc bp bpc br brc bf bfc)
 obtain⟨X2,hXe⟩:=Nq W3.heap.size
 obtain⟨W4,hW4⟩:=Nq (W3.alloc (.cells (Jb bl m blc bp bpc br brc bf bfc) 28))
 rw[hW4]at hal hX2
 rw[hXe]at hX2
 have hbw:=hb.trans (hal.mono hb.size)
 have HL4:Hi (∀a6,Plc W4 a6 C->LoO m ⟨al,alc,ap,apc,ar,arc,af,afc,afa⟩ ⟨bl,blc,bp,bpc,br,brc,bf,bfc,bfa⟩ X1 X2 a6 C w W4):=h_ fun a6 hp=>⟨HK1.u.mono hbw HK1.u.lt,hX2,HS1.u.mono hbw,hs2.mono hal,hp,HT.u.mono hbw,HY.u.mono hbw,HB.u.trans (hbw.mono HB.u.size)⟩
 have HK2:=h_ hX2;have HK1':=mB HK1 hbw
 have HS2:=h_ (hs2.mono hal);have HS1':=h_ (HS1.u.mono hbw);have HT':=h_ (HT.u.mono hbw);have HY':=h_ (HY.u.mono hbw);have HB':=mT HB hbw
 have HW4:=h_ hW4;have HXe:=h_ hXe
 clear HL4 ho hb hs2 hal hX2 hW4 hXe hbw HK1 HS1 HT HY HB HBy HCd
 obtain⟨y0,y1,y2,y3⟩:=quad HK2.u
 go_upto_region 5 with fail
 try rw[HW4.u]
 try rw[HXe.u]
 clear HW4 HXe
 go_wp2_with fail
 refine(HCs.u W4 ⟨bl,blc,bp,bpc,br,brc,bf,bfc,bfa⟩ HS2.u).mono ?_
 rintro e W5 ⟨a0,c0,rfl,-,hb⟩
 clear y0 y1 y2 y3
 have HK2:=mB HK2 hb;have HK1:=h_ (HK1'.u.mono hb HK1'.u.lt)
 have HS2:=h_ (HS2.u.mono hb);have HS1:=h_ (HS1'.u.mono hb);have HT:=h_ (HT'.u.mono hb);have HY:=h_ (HY'.u.mono hb);have HB:=h_ (HB'.u.trans (hb.mono HB'.u.size))
 clear hb HK1' HS1' HT' HY' HB' HCs
 rw[HN.u]
 obtain⟨y0,y1,y2,y3⟩:=quad HK1.u
 have HCi2:=h_ (HCi.u W5 ⟨al,alc,ap,apc,ar,arc,af,afc,afa⟩ HCap.u HS1.u HT.u HY.u)
 dsimp only at HCi2
 go_wp2_with fail
 refine HCi2.u.mono ?_
 rintro e W6 ⟨v,rfl,hv,hb⟩
 obtain⟨a6,c6,rfl,-,hp⟩:=q64 hv
 have HL:Hi (LoO m ⟨al,alc,ap,apc,ar,arc,af,afc,afa⟩ ⟨bl,blc,bp,bpc,br,brc,bf,bfc,bfa⟩ X1 X2 a6 C w W6):=h_ ⟨HK1.u.mono hb HK1.u.lt,HK2.u.mono hb HK2.u.lt,HS1.u.mono hb,HS2.u.mono hb,hp,HT.u.mono hb,HY.u.mono hb,HB.u.trans (hb.mono HB.u.size)⟩
 clear y0 y1 y2 y3 hv hb hp HK1 HK2 HS1 HS2 HT HY HB HCi HCi2
 rw[HN.u]
 have hcl':(C.length:Int)<=200:=by rw[HN.u];omega
 go_wp2_with fail
 go_loopw [7] (fun i wr=>∃k:Nat,k<=n/\i=J9 k/\LoO m ⟨al,alc,ap,apc,ar,arc,af,afc,afa⟩ ⟨bl,blc,bp,bpc,br,brc,bf,bfc,bfa⟩ X1 X2 a6 C w wr) (fun i _=>n - (intOf i).toNat)
 case atStart=>exact⟨0,nZ _,rfl,HL.u⟩
 case round =>
 clear HL
 obtain⟨k,hk,rfl,hL⟩:=hrel
 have HL:=h_ hL
 clear hL
 by_cases hlt:k<n
 case pos =>
  have hlt':(k:Int)<n:=by omega
  have HCa:=h_ (qmc a6 c6 C k wr (by rw[HN.u];omega) HL.u.p);rw[HN.u]at HCa;go_wp2_with fail;refine HCa.u.mono ?_;rintro e w' ⟨z,rfl,hz,hw'⟩;rw[hw'];clear hw' w';have hz0:¬ z<0:=hz.pos (HOf.u.all k (by rw[HN.u];exact hlt));have hz1:=hz.bnd;rw[HN.u]at hz1;clear hz;go_wp2_with fail;go_roundw
  case rel=>exact⟨k+1,by omega,by go_num,HL.u⟩
  case measure=>simp[intOf];omega
 case neg =>
 have hlt':¬ (k:Int)<(n:Int):=by omega
 clear hk hlt
 go_wp2_with fail
 clear hlt'
 go_loopw [8,9] (fun i _ wr=>∃k:Nat,k<=n/\i=J9 k/\LoO m ⟨al,alc,ap,apc,ar,arc,af,afc,afa⟩ ⟨bl,blc,bp,bpc,br,brc,bf,bfc,bfa⟩ X1 X2 a6 C w wr) (fun i _ _=>n - (intOf i).toNat)
 case atStart=>exact⟨0,nZ _,rfl,HL.u⟩
 case round =>
 clear HL
 obtain⟨i,hi,rfl,hL⟩:=hrel
 have HL:=h_ hL
 clear hL
 by_cases hlt:i<n
 case pos =>
  have hlt':(i:Int)<n:=by omega
  go_wp2_with fail;go_loopw [9] (fun v wr=>∃j:Nat,j<=n/\v=J9 j/\LoO m ⟨al,alc,ap,apc,ar,arc,af,afc,afa⟩ ⟨bl,blc,bp,bpc,br,brc,bf,bfc,bfa⟩ X1 X2 a6 C w wr) (fun v _=>n - (intOf v).toNat)
  case atStart=>exact⟨0,nZ _,rfl,HL.u⟩
  case round =>
   clear HL;obtain⟨j,hj,rfl,hL⟩:=hrel;by_cases hjt:j<n
   . have hjt':(j:Int)<n:=by omega
     have hiC:i<C.length:=(by rw[HN.u];exact hlt);have hjC:j<C.length:=(by rw[HN.u];exact hjt);obtain⟨pb,po,rfl,hpb,z1⟩:=hL.p.at j hjC;obtain⟨pb2,po2,e2,-,z2⟩:=hL.p.at i hiC;cases e2;have hq:fedB m C[j] C[i]=true->j<i:=HOf.u.fd i j hiC hjC;have hbd:Below wr.heap.size wr wr.drew:=(bR _ _).drew;have hLd:=hL.mono hbd;have HCf2:=h_ (HCf.u C[j] C[i] wr.drew ⟨bl,blc,bp,bpc,br,brc,bf,bfc,bfa⟩ (HCn.u _ (Yk hjC)) (HCn.u _ (Yk hiC)) hLd.s2);dsimp only at HCf2;have HLd:=h_ hLd;have HS:Hi (Blk wr X2 28 (Jj bl m blc bp bpc br brc bf bfc)/\wr.cell? ⟨pb,po+j,none⟩=some (J9 (C[j]:Int))/\wr.cell? ⟨pb,po+i,none⟩=some (J9 (C[i]:Int))):=h_ ⟨hL.k2,z1,z2⟩;have HSm:Hi (∀w',Below wr.drew.heap.size wr.drew w'->Blk w' X2 28 (Jj bl m blc bp bpc br brc bf bfc)/\w'.cell? ⟨pb,po+j,none⟩=some (J9 (C[j]:Int))/\w'.cell? ⟨pb,po+i,none⟩=some (J9 (C[i]:Int))):=h_ fun w' hb=>⟨hLd.k2.mono hb hLd.k2.lt,(hb.cell (p:=⟨pb,po+j,none⟩) (Y5 hpb hbd.size)).trans ((hbd.cell (p:=⟨pb,po+j,none⟩) hpb).trans z1),(hb.cell (p:=⟨pb,po+i,none⟩) (Y5 hpb hbd.size)).trans ((hbd.cell (p:=⟨pb,po+i,none⟩) hpb).trans z2)⟩;generalize C[j]=cj at *;generalize C[i]=ci at *;obtain⟨q,hqe⟩:=Nq (fedB m cj ci);rw[hqe]at hq HCf2;clear hqe hL hLd z1 z2 hbd hpb;have j0:(0:Int)<=j:=(by omega);have i0:(0:Int)<=i:=(by omega);go_wp2_with fail;refine wp_region_held_drew (S:=fun w'=>Blk w' X2 28 (Jj bl m blc bp bpc br brc bf bfc)/\w'.cell? ⟨pb,po+j,none⟩=some (J9 (cj:Int))/\w'.cell? ⟨pb,po+i,none⟩=some (J9 (ci:Int))) (by kernel_rfl) HS.u (fun zz=>?_);clear HS;refine tj 0 51 (.agg (Jb bl m blc bp bpc br brc bf bfc)) zz ?_ (hy:=fun w hS=>by obtain⟨h1,-⟩:=hS;obtain⟨q0,q1,q2,q3⟩:=quad h1;simp[execOp,go_sem,q0,q1,q2,q3]);refine tj 1 52 (.slice (some ⟨pb,po,none⟩) n c6) zz ?_;refine tj 2 53 (J9 j) zz ?_;refine tj 3 54 (Yc pb (po+j)) zz ?_;simp only[sX,sY,sZ];refine tj 4 55 (J9 cj) zz ?_ (hy:=fun w hS=>by obtain⟨-,h1,-⟩:=hS;simp[execOp,go_sem,h1]);refine tj 5 56 (.slice (some ⟨pb,po,none⟩) n c6) zz ?_;refine tj 6 57 (J9 i) zz ?_;refine tj 7 58 (Yc pb (po+i)) zz ?_;simp only[sX,sY,sZ];refine tj 8 59 (J9 ci) zz ?_ (hy:=fun w hS=>by obtain⟨-,-,h1⟩:=hS;simp[execOp,go_sem,h1]);simp only[sX,sY,sZ];refine callY (i:=9) (f:=15) (args:=#[.agg (Jb bl m blc bp bpc br brc bf bfc),J9 cj,J9 ci]) (R:=fun u wq=>u=.bool q/\Below wr.drew.heap.size wr.drew wq) 60 rfl rfl (by rfl) (by kernel_rfl) (by simp[execOp,go_sem]) (HCf2.u.mono fun e w6 ⟨he,hb⟩=>⟨_,he,rfl,hb⟩) ?_;rintro u U ⟨rfl,hb⟩;replace zz:=HSm.u U hb;have HL2:=h_ (HLd.u.mono hb);refine⟨zz,?_⟩;clear hb HLd HSm HCf2;simp only[sX,sY,sZ];refine tj 10 61 (.bool q) zz ?_;simp only[sX,sY,sZ];cases q
     . skip
       refine tn 11 62 zz ?_;refine tn 12 63 zz ?_;refine tn 13 64 zz ?_;refine tj 14 65 (.bool false) zz ?_;simp only[sX,sY,sZ];refine wpAnyH_done (by kernel_rfl) ?_ _;clear zz hq;go_wp2_with fail;go_roundw
       case rel=>exact⟨j+1,by omega,by go_num,HL2.u⟩
       case measure=>simp[intOf];omega
     . have hq2:¬ (i:Int)<=(j:Int):=by have:=hq rfl;omega
       refine tj 11 62 (J9 j) zz ?_;refine tj 12 63 (J9 i) zz ?_;refine tj 13 64 (.bool false) zz ?_ (hy:=fun w hS=>by simp[execOp,go_sem,hq2];try omega);refine tj 14 65 (.bool false) zz ?_;simp only[sX,sY,sZ];refine wpAnyH_done (by kernel_rfl) ?_ _;clear zz hq;go_wp2_with fail;go_roundw
       case rel=>exact⟨j+1,by omega,by go_num,HL2.u⟩
       case measure=>simp[intOf];omega
   . have hjt':¬ (j:Int)<(n:Int):=by omega
     have HL:=h_ hL;clear hL hj hjt;go_wp2_with fail;go_roundw
     case rel=>exact⟨i+1,by omega,by go_num,HL.u⟩
     case measure=>simp[intOf];omega
 case neg =>
 have hlt':¬ (i:Int)<(n:Int):=by omega
 clear hi hlt
 go_wp2_with fail
 clear hlt'
 go_loopw [10,11,12,13,14,15] (fun i _ _ _ _ _ wr=>∃k:Nat,k<=n/\i=J9 k/\LoO m ⟨al,alc,ap,apc,ar,arc,af,afc,afa⟩ ⟨bl,blc,bp,bpc,br,brc,bf,bfc,bfa⟩ X1 X2 a6 C w wr) (fun i _ _ _ _ _ _=>n - (intOf i).toNat)
 case atStart=>exact⟨0,nZ _,rfl,HL.u⟩
 case round =>
 clear HL
 obtain⟨k,hk,rfl,hL⟩:=hrel
 have HL:=h_ hL
 clear hL
 by_cases hlt:k<n
 case neg =>
  have hlt':¬ (k:Int)<(n:Int):=by omega
  clear hk hlt;go_wp2_with fail;go_ret;exact⟨rfl,HL.u.b⟩
 case pos =>
 have hlt':(k:Int)<n:=by omega
 obtain⟨y0,y1,y2,y3⟩:=quad HL.u.k1
 have HCy2:=h_ (HCy.u k wr ⟨al,alc,ap,apc,ar,arc,af,afc,afa⟩ HCap.u HL.u.s1 HL.u.t HL.u.y)
 dsimp only at HCy2
 go_wp2_with fail
 refine HCy2.u.mono ?_
 rintro e W7 ⟨v,l,rfl,hd,hv,hb⟩
 obtain⟨a7,c7,rfl,-,hp7⟩:=q64 hv
 have HL7:=h_ (HL.u.mono hb)
 have HP7:=h_ hp7
 have HD:=h_ (qib HOf.u (by rw[HN.u];exact hlt) hd)
 have hll:l.length<=200:=by
  have:=hd.len;rw[HN.u]at this;omega
 clear y0 y1 y2 y3 hv hb hp7 hd HL HCy2
 obtain⟨nl,hnl⟩:=Nq l.length
 have HNl:=h_ hnl
 rw[hnl]at hll
 have HCa:=h_ (qmc a7 c7 l k W7 (by rw[HNl.u];omega) HP7.u)
 rw[hnl]at HCa⊢
 clear hnl
 go_wp2_with fail
 refine HCa.u.mono ?_
 rintro e w' ⟨z,rfl,hz,hw'⟩
 rw[hw']
 clear hw' w'
 have hz0:¬ z<0:=hz.pos HD.u.me
 have hz1:=hz.bnd
 rw[HNl.u]at hz1
 clear hz HCa
 go_wp2_with fail
 clear hz1
 go_loopw [12] (fun v wr=>∃p:Nat,p<=nl/\v=J9 p/\LoO m ⟨al,alc,ap,apc,ar,arc,af,afc,afa⟩ ⟨bl,blc,bp,bpc,br,brc,bf,bfc,bfa⟩ X1 X2 a6 C w wr/\Plc wr a7 l) (fun v _=>nl - (intOf v).toNat)
 case atStart=>exact⟨0,nZ _,rfl,HL7.u,HP7.u⟩
 case round =>
 clear HL7 HP7
 obtain⟨p,hp,rfl,hL,hP⟩:=hrel
 by_cases hpt:p<nl
 case pos =>
  have hpt':(p:Int)<nl:=by omega
  have hpl:p<l.length:=by rw[HNl.u];exact hpt
  obtain⟨tb,to',rfl,htb,z1⟩:=hP.at p hpl;have hbd:Below wr.heap.size wr wr.drew:=(bR _ _).drew;have HLd:=h_ (hL.mono hbd);have HPd:=h_ (hP.mono hbd);have hin:l[p]∈C:=HD.u.sub _ (Yk hpl);have HCa:=h_ (qmc a6 c6 C l[p] wr.drew (by rw[HN.u];omega) (hL.mono hbd).p);rw[HN.u]at HCa;have p0:(0:Int)<=p:=by omega
  cases p with
  | zero =>
   have HS:Hi (wr.cell? ⟨tb,to'+0,none⟩=some (J9 (l[0]:Int))):=h_ z1;have HSd:Hi (wr.drew.cell? ⟨tb,to'+0,none⟩=some (J9 (l[0]:Int))):=h_ ((hbd.cell (p:=⟨tb,to'+0,none⟩) htb).trans z1);clear hL hP z1 hbd htb;generalize l[0]=x at *;go_wp2_with fail;refine wp_region_held_drew (S:=fun w'=>w'.cell? ⟨tb,to'+0,none⟩=some (J9 (x:Int))) (by kernel_rfl) HS.u (fun zz=>?_);clear HS;refine tj 0 84 (.slice a6 n c6) zz ?_;refine tj 1 85 (.slice (some ⟨tb,to',none⟩) nl c7) zz ?_;refine tj 2 86 (J9 0) zz ?_;refine tj 3 87 (Yc tb (to'+0)) zz ?_;simp only[sX,sY,sZ];refine tj 4 88 (J9 x) zz ?_ (hy:=fun w hS=>by have h1:=hS;simp[execOp,go_sem]at h1⊢;simp[h1]);simp only[sX,sY,sZ];refine callY (i:=5) (f:=14) (args:=#[.slice a6 n c6,J9 x]) (R:=fun u wq=>∃z,u=J9 z/\AtI C x z/\wq=wr.drew) 89 rfl rfl (by rfl) (by kernel_rfl) (by simp[execOp,go_sem]) (HCa.u.mono fun e w6 ⟨z,he,hz,hb⟩=>⟨_,he,z,rfl,hz,hb⟩) ?_;rintro u U ⟨z,rfl,hz,rfl⟩;refine⟨HSd.u,?_⟩;have hz0:¬ z<0:=hz.pos hin;simp only[sX,sY,sZ];refine tj 6 90 (.bool false) zz ?_ (hy:=fun w hS=>by simp[execOp,go_sem,hz0];try omega);refine tj 7 91 (.bool false) zz ?_;refine tj 8 92 (J9 0) zz ?_;refine tj 9 93 (.bool false) zz ?_;simp only[sX,sY,sZ];refine tj 10 94 (.bool false) zz ?_;refine tn 11 95 zz ?_;refine tn 12 96 zz ?_;refine tn 13 97 zz ?_;simp only[sX,sY,sZ];refine tn 14 98 zz ?_;refine tn 15 99 zz ?_;refine tn 16 100 zz ?_;refine tn 17 101 zz ?_;simp only[sX,sY,sZ];refine tn 18 102 zz ?_;refine tn 19 103 zz ?_;refine tn 20 104 zz ?_;refine tn 21 105 zz ?_;simp only[sX,sY,sZ];refine tn 22 106 zz ?_;refine tn 23 107 zz ?_;refine tn 24 108 zz ?_;refine tj 25 109 (.bool false) zz ?_;simp only[sX,sY,sZ];refine tj 26 110 (.bool false) zz ?_;simp only[sX,sY,sZ];refine wpAnyH_done (by kernel_rfl) ?_ _;clear zz hz;go_wp2_with fail;go_roundw
   case rel=>exact⟨1,by omega,by go_num,HLd.u,HPd.u⟩
   case measure=>simp[intOf];omega
  | succ p =>
   have hpl2:p<l.length:=by omega
   obtain⟨tb2,to2,e2,-,z2⟩:=hP.at p hpl2;cases e2;have HZ:Hi (∀z1 z2,AtI C (l[p]'hpl2) z1->AtI C l[p+1] z2->z1<z2):=h_ fun z1 z2 h1 h2=>asc_z HD.u hpl h1 h2;have HCb:=h_ (qmc a6 c6 C (l[p]'hpl2) wr.drew (by rw[HN.u];omega) (hL.mono hbd).p);rw[HN.u]at HCb;have HS:Hi (wr.cell? ⟨tb,to'+(p+1),none⟩=some (J9 (l[p+1]:Int))/\wr.cell? ⟨tb,to'+p,none⟩=some (J9 ((l[p]'hpl2:Nat):Int))):=h_ ⟨z1,z2⟩;have HSd:Hi (wr.drew.cell? ⟨tb,to'+(p+1),none⟩=some (J9 (l[p+1]:Int))/\wr.drew.cell? ⟨tb,to'+p,none⟩=some (J9 ((l[p]'hpl2:Nat):Int))):=h_ ⟨(hbd.cell (p:=⟨tb,to'+(p+1),none⟩) htb).trans z1,(hbd.cell (p:=⟨tb,to'+p,none⟩) htb).trans z2⟩;clear hL hP z1 z2 hbd htb;generalize l[p+1]=x at *;generalize l[p]'hpl2=y at *;obtain⟨r,hr⟩:=Nq (p+1);have hr':((p+1:Nat):Int)=(r:Int):=by omega
   have hr1:(0:Int)<(r:Int):=by omega
   have hrw:(r:Int) - 1=(p:Int):=by omega
   have hrn:(r:Int)<nl:=by omega
   have hpn:(p:Int)<nl:=by omega
   have p1:(0:Int)<=p:=by omega
   rw[hr]at HS HSd;rw[hr'];have hww:IntKind.i64.wrap ((r:Int) - 1)=(p:Int):=by rw[IntKind.wrap_i64];omega
   have r0:(0:Int)<=r:=by omega
   have hrb:r<=200:=by omega
   have HR:=h_ hr;clear hr hr' p0 hpt' hp hpt hpl hpl2;go_wp2_with fail;refine wp_region_held_drew (S:=fun w'=>w'.cell? ⟨tb,to'+r,none⟩=some (J9 (x:Int))/\w'.cell? ⟨tb,to'+p,none⟩=some (J9 (y:Int))) (by kernel_rfl) HS.u (fun zz=>?_);clear HS;refine tj 0 84 (.slice a6 n c6) zz ?_;refine tj 1 85 (.slice (some ⟨tb,to',none⟩) nl c7) zz ?_;refine tj 2 86 (J9 r) zz ?_;refine tj 3 87 (Yc tb (to'+r)) zz ?_;simp only[sX,sY,sZ];refine tj 4 88 (J9 x) zz ?_ (hy:=fun w hS=>by obtain⟨h1,-⟩:=hS;simp[execOp,go_sem,h1]);simp only[sX,sY,sZ];refine callY (i:=5) (f:=14) (args:=#[.slice a6 n c6,J9 x]) (R:=fun u wq=>∃z,u=J9 z/\AtI C x z/\wq=wr.drew) 89 rfl rfl (by rfl) (by kernel_rfl) (by simp[execOp,go_sem]) (HCa.u.mono fun e w6 ⟨z,he,hz,hb⟩=>⟨_,he,z,rfl,hz,hb⟩) ?_;rintro u U ⟨z,rfl,hz,rfl⟩;refine⟨HSd.u,?_⟩;have hz0:¬ z<0:=hz.pos hin;clear hz;simp only[sX,sY,sZ];refine tj 6 90 (.bool false) zz ?_ (hy:=fun w hS=>by simp[execOp,go_sem,hz0];try omega);refine tj 7 91 (.bool false) zz ?_;refine tj 8 92 (J9 r) zz ?_;refine tj 9 93 (.bool true) zz ?_ (hy:=fun w hS=>by simp[execOp,go_sem];try omega);simp only[sX,sY,sZ];refine tj 10 94 (.bool true) zz ?_;refine tj 11 95 (.slice a6 n c6) zz ?_;refine tj 12 96 (.slice (some ⟨tb,to',none⟩) nl c7) zz ?_;refine tj 13 97 (J9 r) zz ?_;simp only[sX,sY,sZ];refine tj 14 98 (J9 p) zz ?_ (hy:=fun w hS=>by simp[execOp,go_sem,hww]);refine tj 15 99 (Yc tb (to'+p)) zz ?_;refine tj 16 100 (J9 y) zz ?_ (hy:=fun w hS=>by obtain⟨-,h1⟩:=hS;simp[execOp,go_sem,h1]);refine tj 18 102 (.slice a6 n c6) zz ?_;simp only[sX,sY,sZ];refine tj 19 103 (.slice (some ⟨tb,to',none⟩) nl c7) zz ?_;refine tj 20 104 (J9 r) zz ?_;refine tj 21 105 (Yc tb (to'+r)) zz ?_;refine tj 22 106 (J9 x) zz ?_ (hy:=fun w hS=>by obtain⟨h1,-⟩:=hS;simp[execOp,go_sem,h1]);simp only[sX,sY,sZ];refine callY (i:=17) (f:=14) (args:=#[.slice a6 n c6,J9 y]) (R:=fun u wq=>∃z,u=J9 z/\AtI C y z/\wq=wr.drew) 101 rfl rfl (by rfl) (by kernel_rfl) (by simp[execOp,go_sem]) (HCb.u.mono fun e w6 ⟨z,he,hz,hb⟩=>⟨_,he,z,rfl,hz,hb⟩) ?_;rintro u U ⟨zy,rfl,hzy,rfl⟩;refine⟨HSd.u,?_⟩;simp only[sX,sY,sZ];refine callY (i:=23) (f:=14) (args:=#[.slice a6 n c6,J9 x]) (R:=fun u wq=>∃z,u=J9 z/\AtI C x z/\wq=wr.drew) 107 rfl rfl (by rfl) (by kernel_rfl) (by simp[execOp,go_sem]) (HCa.u.mono fun e w6 ⟨z,he,hz,hb⟩=>⟨_,he,z,rfl,hz,hb⟩) ?_;rintro u U ⟨zx,rfl,hzx,rfl⟩;refine⟨HSd.u,?_⟩;have hzz:¬ zx<=zy:=by have:=HZ.u zy zx hzy hzx;omega
   simp only[sX,sY,sZ];refine tj 24 108 (.bool false) zz ?_ (hy:=fun w hS=>by simp[execOp,go_sem,hzz];try omega);refine tj 25 109 (.bool false) zz ?_;refine tj 26 110 (.bool false) zz ?_;simp only[sX,sY,sZ];refine wpAnyH_done (by kernel_rfl) ?_ _;clear zz hzx hzy hzz hz0;go_wp2_with fail;go_roundw
   case rel=>exact⟨r+1,by have:=HR.u;omega,by go_num,HLd.u,HPd.u⟩
   case measure=>simp[intOf];omega
 case neg =>
 have hpt':¬ (p:Int)<(nl:Int):=by omega
 have HL:=h_ hL;have HP:=h_ hP
 clear hp hpt hL hP
 go_wp2_with fail
 clear hpt'
 go_loopw [13,14,15] (fun v _ _ wr=>∃j:Nat,j<=n/\v=J9 j/\LoO m ⟨al,alc,ap,apc,ar,arc,af,afc,afa⟩ ⟨bl,blc,bp,bpc,br,brc,bf,bfc,bfa⟩ X1 X2 a6 C w wr/\Plc wr a7 l) (fun v _ _ _=>n - (intOf v).toNat)
 case atStart=>exact⟨0,nZ _,rfl,HL.u,HP.u⟩
 case round =>
 clear HL HP
 obtain⟨j,hj,rfl,hL,hP⟩:=hrel
 have HL:=h_ hL;have HP:=h_ hP
 clear hL hP
 by_cases hjt:j<n
 case neg =>
  have hjt':¬ (j:Int)<(n:Int):=by omega
  clear hj hjt;go_wp2_with fail;go_roundw
  case rel=>exact⟨k+1,by omega,by go_num,HL.u⟩
  case measure=>simp[intOf];omega
 case pos =>
 have hjt':(j:Int)<n:=by omega
 have hjm:j<m.F.length:=by
  have h1:=HOf.u.all j (by rw[HN.u];exact hjt);exact HCn.u j h1
 go_wp2_with fail
 go_loopw [14,15] (fun b v wr=>∃p:Nat,p<=nl/\v=J9 p/\b=.bool (fdU m l j p)/\LoO m ⟨al,alc,ap,apc,ar,arc,af,afc,afa⟩ ⟨bl,blc,bp,bpc,br,brc,bf,bfc,bfa⟩ X1 X2 a6 C w wr/\Plc wr a7 l) (fun _ v _=>nl - (intOf v).toNat)
 case atStart=>exact⟨0,nZ _,rfl,rfl,HL.u,HP.u⟩
 case round =>
 clear HL HP
 obtain⟨p,hp,rfl,rfl,hL,hP⟩:=hrel
 by_cases hpt:p<nl
 case pos =>
  have hpt':(p:Int)<nl:=by omega
  have hpl:p<l.length:=by rw[HNl.u];exact hpt
  obtain⟨tb,to',rfl,htb,z1⟩:=hP.at p hpl;have hbd:Below wr.heap.size wr wr.drew:=(bR _ _).drew;have hLd:=hL.mono hbd;have HLd:=h_ hLd;have HPd:=h_ (hP.mono hbd);have HCf2:=h_ (HCf.u l[p] j wr.drew ⟨bl,blc,bp,bpc,br,brc,bf,bfc,bfa⟩ (HCn.u _ (HD.u.sub _ (Yk hpl))) hjm hLd.s2);dsimp only at HCf2;have HU:=h_ (qdv (m:=m) (j:=j) hpl);have HS:Hi (Blk wr X2 28 (Jj bl m blc bp bpc br brc bf bfc)/\wr.cell? ⟨tb,to'+p,none⟩=some (J9 (l[p]:Int))):=h_ ⟨hL.k2,z1⟩;have HSm:Hi (∀w',Below wr.drew.heap.size wr.drew w'->Blk w' X2 28 (Jj bl m blc bp bpc br brc bf bfc)/\w'.cell? ⟨tb,to'+p,none⟩=some (J9 (l[p]:Int))):=h_ fun w' hb=>⟨hLd.k2.mono hb hLd.k2.lt,(hb.cell (p:=⟨tb,to'+p,none⟩) (Y5 htb hbd.size)).trans ((hbd.cell (p:=⟨tb,to'+p,none⟩) htb).trans z1)⟩;clear hL hP hLd z1 hbd htb;generalize l[p]=x at *;obtain⟨q,hqe⟩:=Nq (fedB m x j);rw[hqe]at HCf2 HU;obtain⟨fu,hfu⟩:=Nq (fdU m l j p);rw[hfu]at HU⊢;clear hqe hfu;have p0:(0:Int)<=p:=by omega
  go_wp2_with fail;refine wp_region_held_drew (S:=fun w'=>Blk w' X2 28 (Jj bl m blc bp bpc br brc bf bfc)/\w'.cell? ⟨tb,to'+p,none⟩=some (J9 (x:Int))) (by kernel_rfl) HS.u (fun zz=>?_);clear HS;refine tj 0 122 (.agg (Jb bl m blc bp bpc br brc bf bfc)) zz ?_ (hy:=fun w hS=>by obtain⟨h1,-⟩:=hS;obtain⟨q0,q1,q2,q3⟩:=quad h1;simp[execOp,go_sem,q0,q1,q2,q3]);refine tj 1 123 (.slice (some ⟨tb,to',none⟩) nl c7) zz ?_;refine tj 2 124 (J9 p) zz ?_;refine tj 3 125 (Yc tb (to'+p)) zz ?_;simp only[sX,sY,sZ];refine tj 4 126 (J9 x) zz ?_ (hy:=fun w hS=>by obtain⟨-,h1⟩:=hS;simp[execOp,go_sem,h1]);refine tj 5 127 (J9 j) zz ?_;simp only[sX,sY,sZ];refine callY (i:=6) (f:=15) (args:=#[.agg (Jb bl m blc bp bpc br brc bf bfc),J9 x,J9 j]) (R:=fun u wq=>u=.bool q/\Below wr.drew.heap.size wr.drew wq) 128 rfl rfl (by rfl) (by kernel_rfl) (by simp[execOp,go_sem]) (HCf2.u.mono fun e w6 ⟨he,hb⟩=>⟨_,he,rfl,hb⟩) ?_;rintro u U ⟨rfl,hb⟩;replace zz:=HSm.u U hb;have HL2:=h_ (HLd.u.mono hb);have HP2:=h_ (HPd.u.mono hb);refine⟨zz,?_⟩;clear hb HLd HPd HSm HCf2;simp only[sX,sY,sZ];refine wpAnyH_done (by kernel_rfl) ?_ _;clear zz;cases q
  . rw[Bool.or_false]at HU
    go_wp2_with fail;go_roundw
    case rel=>exact⟨p+1,by omega,by go_num,by rw[HU.u],HL2.u,HP2.u⟩
    case measure=>simp[intOf];omega
  . rw[Bool.or_true]at HU
    go_wp2_with fail;go_roundw
    case rel=>exact⟨p+1,by omega,by go_num,by rw[HU.u],HL2.u,HP2.u⟩
    case measure=>simp[intOf];omega
 case neg =>
 have hpt':¬ (p:Int)<(nl:Int):=by omega
 obtain rfl:p=nl:=by omega
 have HL:=h_ hL;have HP:=h_ hP
 clear hp hpt hL hP
 by_cases hjk:j=k
 . have he:((j:Int)==(k:Int))=true:=by rw[hjk];simp
   have he2:(j:Int)=(k:Int):=by omega
   obtain⟨fu,hfu⟩:=Nq (fdU m l j p);rw[hfu];clear hfu hjk;go_wp2_with fail;go_roundw
   case rel=>exact⟨j+1,by omega,by go_num,HL.u,HP.u⟩
   case measure=>simp[intOf];omega
 . have he:((j:Int)==(k:Int))=false:=Yf.2 (by omega)
   have he2:¬ (j:Int)=(k:Int):=by omega
   have hfu:fdU m l j p=decide (j∈l):=by rw[<- HNl.u];exact qij HD.u (by rw[HN.u];exact hjt) hjk
   rw[hfu];have HCa:=h_ (qmc a7 c7 l j wr (by rw[HNl.u];omega) HP.u);rw[HNl.u]at HCa;clear hfu hjk;by_cases hm:j∈l
   . rw[Ym hm]
     have Hm:=h_ hm;clear hm;go_wp2_with fail;refine HCa.u.mono ?_;rintro e w' ⟨z,rfl,hz,hw'⟩;rw[hw'];clear hw' w';have hz0:¬ z<0:=hz.pos Hm.u;have hz2:0<=z:=(by omega);clear hz HCa;go_wp2_with fail;go_roundw
     case rel=>exact⟨j+1,by omega,by go_num,HL.u,HP.u⟩
     case measure=>simp[intOf];omega
   . rw[Yj hm]
     have Hm:=h_ hm;clear hm;go_wp2_with fail;refine HCa.u.mono ?_;rintro e w' ⟨z,rfl,hz,hw'⟩;rw[hw'];clear hw' w';have hz0:z<0:=hz.neg.2 Hm.u;have hz2:¬ 0<=z:=(by omega);clear hz HCa;go_wp2_with fail;go_roundw
     case rel=>exact⟨j+1,by omega,by go_num,HL.u,HP.u⟩
     case measure=>simp[intOf];omega
end Go.Proofs.YtebbgodlijlioaaGreatDoor
