import Derived.Test.YtgojgjlninakjaaGreatDoorW44
set_option maxRecDepth 100000
set_option maxHeartbeats 64000000
namespace Go.Proofs.YtgojgjlninakjaaGreatDoor
open Go Go.RowKit
def sfC (S:SF):List Value:=[.slice S.l S.nl S.lc,.slice S.p S.np S.pc,.slice S.r S.nr S.rc,.slice S.f S.nf S.fc,.map S.mp,.int .i64 S.N,.slice S.a1 S.s1 S.c1,.slice S.a2 S.s2 S.c2,.slice S.a3 S.s3 S.c3,.int .i64 S.bot,.int .i64 S.top,.slice S.lb S.n5 S.c5]
def ivL (m:Fm)(Bs:Nat->Nat)(k:Nat):List Value:=(List.range k).map fun j=>ifV (inpB (fAt m j)) (Bs j)
theorem qgu (m:Fm)(Bs:Nat->Nat)(k:Nat):ivL m Bs (k+1)=ivL m Bs k++[ifV (inpB (fAt m k)) (Bs k)]:=by simp[ivL,List.range_succ]
theorem qd2 {m:Fm}{Bs Bs':Nat->Nat}{k:Nat}(h:∀j,j<k->Bs j=Bs' j):ivL m Bs k=ivL m Bs' k:=by
 unfold ivL
 exact Zo fun j hj=>by rw[h j (Y9.1 hj)]
theorem qll {m:Fm}{Bs:Nat->Nat}{k j:Nat}(h:j<k):(ivL m Bs k)[j]? = some (ifV (inpB (fAt m j)) (Bs j)):=by simp[ivL,h]
structure Shet (m:Fm)(A:MA)(n:Nat)(F:Nat->Bool)(f:Nat->Nat)(S:SF)(WD:World)(Sh:Nat)(Bs:Nat->Nat)(e:Nat->Cx)(k:Nat)(u:Value)(pl:Nat)(W:World):Prop where
 base:Below WD.heap.size WD W
 snd:SndW m A n F f S WD
 msl:MSl WD m A
 lo:WD.heap.size<=Sh
 bx:∀j,j<k->WD.heap.size<=Bs j/\Blk W (Bs j) (ctT (inpB (fAt m j))) (ctC (inpB (fAt m j)) (e j) (fAt m j) (A.fa j))
 up:∀i j,i<j->j<k->Bs i<Bs j
 blk:Blk W Sh 113 (sfC S++[u,.map (some pl)])
 row:W.ownsRow WD.heap.size 115 1 u k (ivL m Bs k)
theorem Shet.mono {m:Fm}{A:MA}{n:Nat}{F:Nat->Bool}{f:Nat->Nat}{S:SF}{WD:World}{Sh:Nat}{Bs:Nat->Nat}{e:Nat->Cx}{k:Nat}{u:Value}{pl:Nat}{W W':World}(h:Shet m A n F f S WD Sh Bs e k u pl W)(hb:Below W.heap.size W W'):Shet m A n F f S WD Sh Bs e k u pl W' :=
 ⟨h.base.trans (hb.mono h.base.size),h.snd,h.msl,h.lo,fun j hj=>⟨(h.bx j hj).1,(h.bx j hj).2.mono hb (h.bx j hj).2.lt⟩,h.up,h.blk.mono hb h.blk.lt,qdv h.row hb⟩
theorem ne_ty {w:World}{g q:Nat}{t t':TypeId}{cs:List Value}{cur:Array Value}{fr:Nat × Nat}(h:Blk w g t cs)(h':w.heap[q]? = some (.cells cur t' fr))(hne:t≠t'):g≠q:=fun e=>by
 subst e
 have:=(show w.heap[g]? = some (.cells cs.toArray t (0,0)) from h).symm.trans h'
 simp only[Z9,Obj.cells.injEq]at this
 exact hne this.2.1
theorem qmy {w:World}{base:Nat}{e t:TypeId}{size n g q:Nat}{v:Value}{xs cs:List Value}(ho:w.ownsRow base e size v n xs)(h:Blk w g t cs)(hne:t≠e)(hq:v.ownBlock=some q):g≠q:=by
 rcases ho.2 with ⟨rfl,-⟩ | ⟨g',cap,cur,rfl,-,hg,-⟩
 . cases hq
 . have:g'=q:=by simpa [Value.ownBlock] using hq
   subst this;exact ne_ty h hg hne
theorem ctT_ne (i:Bool):ctT i≠115/\ctT i≠113:=by cases i <;> exact⟨by decide,by decide⟩
theorem qmx {w w':World}{base n size:Nat}{e:TypeId}{v:Value}{xs:List Value}(h:w.ownsRow base e size v n xs)(hk:∀q,v.ownBlock=some q->w'.heap[q]? = w.heap[q]?):w'.ownsRow base e size v n xs:=by
 refine⟨h.1,?_⟩
 rcases h.2 with h2 | ⟨g,cap,cur,h1,hb,hg,r⟩
 . exact .inl h2
 . exact .inr ⟨g,cap,cur,h1,hb,(hk g (by rw[h1];rfl)).trans hg,r⟩
theorem qlf:(Tryz.prog.info? 115).map (fun i=>(i.zero,i.size,i.bytes))=some (some .nilIface,1,16):=by kernel_rfl
theorem qac (m:Fm)(A:MA)(w:World)(hS:∀W,MSl W m A->Tabs W->TyW W->Tab W->Calls Tryz.prog 48 #[mV m A] W fun r w'=>∃S c a,r=.returned (.tuple #[sfV S,dgV c a])/\c≠0/\Below W.heap.size W w')(ha:MSl w m A)(ht:Tabs w)(hy:TyW w)(htb:Tab w) :
 Calls Tryz.prog 25 #[mV m A] w fun r w'=>r=.returned (.tuple #[.pointer none,.bool false])/\Below w.heap.size w w':=by
 have HS0:=h_ hS
 clear hS
 obtain⟨al,alc,ap,apc,ar,arc,af,afc,afa⟩:=A
 unfold mV at HS0⊢
 dsimp only at HS0⊢
 have HK:=h_ (Blk.new w 36 (Jb al m alc ap apc ar arc af afc))
 have HB:=h_ ((bR w.heap.size w).alloc (nR _) (.cells (Jb al m alc ap apc ar arc af afc) 36))
 obtain⟨W0,hW0⟩:=Nq (w.alloc (.cells (Jb al m alc ap apc ar arc af afc) 36))
 rw[hW0]at HK HB
 have HM:=h_ (ha.mono HB.u)
 have HC:=h_ (HS0.u W0 (ha.mono HB.u) (ht.mono HB.u) (hy.mono HB.u) (htb.mono HB.u))
 clear ha ht hy htb HS0
 obtain⟨y0,y1,y2,y3⟩:=quad HK.u
 go_enter Tryz.func25,Tryz.ntmps25
 go_wp2_with fail
 try rw[hW0]
 refine HC.u.mono ?_
 rintro r W1 ⟨S,c,a,rfl,hc,hb⟩
 unfold sfV
 replace HB:=mT HB hb
 have hc':(c != 0)=true:=by simpa using hc
 clear hb hW0 y0 y1 y2 y3 HK HC HM hc
 have hQ0:=(Blk.new W1 107 Jc).alloc (.cells Jm 82)
 have hD0:=Blk.new (W1.alloc (.cells Jc 107)) 82 Jm
 rw[Yk]at hD0
 have hb2:=((bR W1.heap.size W1).alloc (nR _) (.cells Jc 107)).alloc (by simp) (.cells Jm 82)
 obtain⟨W2,hW2⟩:=Nq ((W1.alloc (.cells Jc 107)).alloc (.cells Jm 82))
 obtain⟨P,hP⟩:=Nq W1.heap.size
 rw[hW2]at hQ0 hD0 hb2
 rw[hP]at hQ0 hD0 hb2
 have hR1:=hD0.row_other (g:=P) (by omega) #[.slice S.l S.nl S.lc,.slice S.p S.np S.pc,.slice S.r S.nr S.rc,.slice S.f S.nf S.fc,.map S.mp,J6 S.N,.slice S.a1 S.s1 S.c1,.slice S.a2 S.s2 S.c2,.slice S.a3 S.s3 S.c3,J6 S.bot,J6 S.top,.slice S.lb S.n5 S.c5]
 have HQ:=h_ ((hQ0.row [.slice S.l S.nl S.lc,.slice S.p S.np S.pc,.slice S.r S.nr S.rc,.slice S.f S.nf S.fc,.map S.mp,J6 S.N,.slice S.a1 S.s1 S.c1,.slice S.a2 S.s2 S.c2,.slice S.a3 S.s3 S.c3,J6 S.bot,J6 S.top,.slice S.lb S.n5 S.c5]).row_other (g:=P+1) (by omega) (Js c a))
 have HD:=h_ (hR1.row [J6 c,J6 a])
 have HB2:=h_ (hb2.trans (((qmu (lo:=P) (hi:=P+2) (g:=P) W2 #[.slice S.l S.nl S.lc,.slice S.p S.np S.pc,.slice S.r S.nr S.rc,.slice S.f S.nf S.fc,.map S.mp,J6 S.N,.slice S.a1 S.s1 S.c1,.slice S.a2 S.s2 S.c2,.slice S.a3 S.s3 S.c3,J6 S.bot,J6 S.top,.slice S.lb S.n5 S.c5] (by omega) (by omega)).trans (qmu (g:=P+1) _ (Js c a) (by omega) (by omega))).below (nR _) (by rw[<- hP];have:=hQ0.lt;omega)))
 have HQ0:=h_ hQ0;have HR1:=h_ hR1
 clear hQ0 hR1 hD0 hb2
 obtain⟨W3,hW3⟩:=Nq ((W2.setRow P #[.slice S.l S.nl S.lc,.slice S.p S.np S.pc,.slice S.r S.nr S.rc,.slice S.f S.nf S.fc,.map S.mp,J6 S.N,.slice S.a1 S.s1 S.c1,.slice S.a2 S.s2 S.c2,.slice S.a3 S.s3 S.c3,J6 S.bot,J6 S.top,.slice S.lb S.n5 S.c5]).setRow (P+1) (Js c a))
 rw[hW3]at HQ HD HB2
 obtain⟨d0,d1⟩:=(two' HD.u).1
 replace HB:=h_ (HB.u.trans (HB2.u.mono (by rw[<- hP];exact HB.u.size)))
 go_wp2_with (first | (refine wpList_store_row rfl 107 (.tmp 4) (.tmp 12) rfl P #[.slice S.l S.nl S.lc,.slice S.p S.np S.pc,.slice S.r S.nr S.rc,.slice S.f S.nf S.fc,.map S.mp,J6 S.N,.slice S.a1 S.s1 S.c1,.slice S.a2 S.s2 S.c2,.slice S.a3 S.s3 S.c3,J6 S.bot,J6 S.top,.slice S.lb S.n5 S.c5] rfl rfl 107 Jc HQ0.u (by kernel_rfl) rfl (by simp[Value.oneCell']) ?_) | (refine wpList_store_row rfl 82 (.tmp 5) (.tmp 13) rfl (P+1) (Js c a) rfl rfl 82 Jm HR1.u (by kernel_rfl) rfl (by simp[Value.oneCell']) ?_;rw[hW3]))
 first | go_ret2 | go_ret
 exact⟨rfl,HB.u⟩
theorem qad (m:Fm)(A:MA)(n:Nat)(F:Nat->Bool)(f:Nat->Nat)(w:World)(hnf:m.F.length<=200)(hS:∀W,MSl W m A->Tabs W->TyW W->Tab W->Calls Tryz.prog 48 #[mV m A] W fun r w'=>∃S,r=.returned (.tuple #[sfV S,dgV 0 0])/\SndW m A n F f S w'/\Below W.heap.size W w')(ha:MSl w m A)(ht:Tabs w)(hy:TyW w)(htb:Tab w) :
 Calls Tryz.prog 25 #[mV m A] w fun r w'=>∃S WD Sh Bs u pl,r=.returned (.tuple #[J9 Sh 0,.bool true])/\w.heap.size<=WD.heap.size/\Shet m A n F f S WD Sh Bs (fun _=>zCx) m.F.length u pl w'/\Below w.heap.size w w':=by
 have HCc:=h_ fun x Y W=>q85 x Y W
 have HS0:=h_ hS
 clear hS
 obtain⟨al,alc,ap,apc,ar,arc,af,afc,afa⟩:=A
 unfold mV at HS0⊢
 dsimp only at HS0⊢
 have HK:=h_ (Blk.new w 36 (Jb al m alc ap apc ar arc af afc))
 have HB:=h_ ((bR w.heap.size w).alloc (nR _) (.cells (Jb al m alc ap apc ar arc af afc) 36))
 obtain⟨W0,hW0⟩:=Nq (w.alloc (.cells (Jb al m alc ap apc ar arc af afc) 36))
 rw[hW0]at HK HB
 have HM:=h_ (ha.mono HB.u)
 have HC:=h_ (HS0.u W0 (ha.mono HB.u) (ht.mono HB.u) (hy.mono HB.u) (htb.mono HB.u))
 clear ha ht hy htb HS0
 obtain⟨y0,y1,y2,y3⟩:=quad HK.u
 go_enter Tryz.func25,Tryz.ntmps25
 go_wp2_with fail
 try rw[hW0]
 refine HC.u.mono ?_
 rintro r W1 ⟨S,rfl,hsn,hb⟩
 have HSn:=h_ hsn
 obtain⟨c,hc⟩:∃c:Int,c=0:=⟨0,rfl⟩
 obtain⟨a,ha⟩:∃a:Int,a=0:=⟨0,rfl⟩
 rw[show dgV 0 0=dgV c a by rw[hc,ha]]
 unfold sfV
 replace HK:=mB HK hb;replace HM:=h_ (HM.u.mono hb);replace HB:=mT HB hb
 have hc':(c != 0)=false:=by simp[hc]
 clear hb hW0 y0 y1 y2 y3 HC hsn hc ha
 have hQ0:=(Blk.new W1 107 Jc).alloc (.cells Jm 82)
 have hD0:=Blk.new (W1.alloc (.cells Jc 107)) 82 Jm
 rw[Yk]at hD0
 have hb2:=((bR W1.heap.size W1).alloc (nR _) (.cells Jc 107)).alloc (by simp) (.cells Jm 82)
 obtain⟨W2,hW2⟩:=Nq ((W1.alloc (.cells Jc 107)).alloc (.cells Jm 82))
 obtain⟨P,hP⟩:=Nq W1.heap.size
 rw[hW2]at hQ0 hD0 hb2
 rw[hP]at hQ0 hD0 hb2
 have hR1:=hD0.row_other (g:=P) (by omega) #[.slice S.l S.nl S.lc,.slice S.p S.np S.pc,.slice S.r S.nr S.rc,.slice S.f S.nf S.fc,.map S.mp,J6 S.N,.slice S.a1 S.s1 S.c1,.slice S.a2 S.s2 S.c2,.slice S.a3 S.s3 S.c3,J6 S.bot,J6 S.top,.slice S.lb S.n5 S.c5]
 have HQ:=h_ ((hQ0.row [.slice S.l S.nl S.lc,.slice S.p S.np S.pc,.slice S.r S.nr S.rc,.slice S.f S.nf S.fc,.map S.mp,J6 S.N,.slice S.a1 S.s1 S.c1,.slice S.a2 S.s2 S.c2,.slice S.a3 S.s3 S.c3,J6 S.bot,J6 S.top,.slice S.lb S.n5 S.c5]).row_other (g:=P+1) (by omega) (Js c a))
 have HD:=h_ (hR1.row [J6 c,J6 a])
 have HB2:=h_ (hb2.trans (((qmu (lo:=P) (hi:=P+2) (g:=P) W2 #[.slice S.l S.nl S.lc,.slice S.p S.np S.pc,.slice S.r S.nr S.rc,.slice S.f S.nf S.fc,.map S.mp,J6 S.N,.slice S.a1 S.s1 S.c1,.slice S.a2 S.s2 S.c2,.slice S.a3 S.s3 S.c3,J6 S.bot,J6 S.top,.slice S.lb S.n5 S.c5] (by omega) (by omega)).trans (qmu (g:=P+1) _ (Js c a) (by omega) (by omega))).below (nR _) (by rw[<- hP];have:=hQ0.lt;omega)))
 have HQ0:=h_ hQ0;have HR1:=h_ hR1
 clear hQ0 hR1 hD0 hb2
 obtain⟨W3,hW3⟩:=Nq ((W2.setRow P #[.slice S.l S.nl S.lc,.slice S.p S.np S.pc,.slice S.r S.nr S.rc,.slice S.f S.nf S.fc,.map S.mp,J6 S.N,.slice S.a1 S.s1 S.c1,.slice S.a2 S.s2 S.c2,.slice S.a3 S.s3 S.c3,J6 S.bot,J6 S.top,.slice S.lb S.n5 S.c5]).setRow (P+1) (Js c a))
 rw[hW3]at HQ HD HB2
 obtain⟨d0,d1⟩:=(two' HD.u).1
 have hwP:w.heap.size<P:=by rw[<- hP];exact HK.u.lt
 have hP3:P<=W3.heap.size:=by rw[<- hP];exact HB2.u.size
 obtain⟨⟨l0,l1,l2,l3,l4,l5,l6,l7,l8,l9,l10,l11⟩,-⟩:=twelve HQ.u
 have HK3:=h_ (HK.u.mono HB2.u hwP)
 have HK4:=h_ ((HK3.u.alloc (.map #[] 0)).alloc (.cells #[.slice S.l S.nl S.lc,.slice S.p S.np S.pc,.slice S.r S.nr S.rc,.slice S.f S.nf S.fc,.map S.mp,J6 S.N,.slice S.a1 S.s1 S.c1,.slice S.a2 S.s2 S.c2,.slice S.a3 S.s3 S.c3,J6 S.bot,J6 S.top,.slice S.lb S.n5 S.c5,J7,.map (some W3.heap.size)] 113))
 obtain⟨y0,y1,y2,y3⟩:=quad HK4.u
 have HSh:=h_ (Blk.new (W3.alloc (.map #[] 0)) 113 #[.slice S.l S.nl S.lc,.slice S.p S.np S.pc,.slice S.r S.nr S.rc,.slice S.f S.nf S.fc,.map S.mp,J6 S.N,.slice S.a1 S.s1 S.c1,.slice S.a2 S.s2 S.c2,.slice S.a3 S.s3 S.c3,J6 S.bot,J6 S.top,.slice S.lb S.n5 S.c5,J7,.map (some W3.heap.size)])
 rw[Yk]at HSh
 have HB4:=h_ ((HB2.u.alloc hP3 (.map #[] 0)).alloc (Zf hP3 (by simp)) (.cells #[.slice S.l S.nl S.lc,.slice S.p S.np S.pc,.slice S.r S.nr S.rc,.slice S.f S.nf S.fc,.map S.mp,J6 S.N,.slice S.a1 S.s1 S.c1,.slice S.a2 S.s2 S.c2,.slice S.a3 S.s3 S.c3,J6 S.bot,J6 S.top,.slice S.lb S.n5 S.c5,J7,.map (some W3.heap.size)] 113))
 have HPl:Hi (∃pl,pl=W3.heap.size):=h_ ⟨_,rfl⟩
 obtain⟨W5,hW5⟩:=Nq ((W3.alloc (.map #[] 0)).alloc (.cells #[.slice S.l S.nl S.lc,.slice S.p S.np S.pc,.slice S.r S.nr S.rc,.slice S.f S.nf S.fc,.map S.mp,J6 S.N,.slice S.a1 S.s1 S.c1,.slice S.a2 S.s2 S.c2,.slice S.a3 S.s3 S.c3,J6 S.bot,J6 S.top,.slice S.lb S.n5 S.c5,J7,.map (some W3.heap.size)] 113))
 obtain⟨Sh,hSh⟩:=Nq (W3.heap.size+1)
 rw[hW5]at HK4 y0 y1 y2 y3 HSh HB4
 rw[hSh]at HSh
 have hPS:P<=Sh:=by omega
 have hmm:=@run_makeMap Tryz.prog
 go_wp2_with (first | (refine wpList_store_row rfl 107 (.tmp 4) (.tmp 12) rfl P #[.slice S.l S.nl S.lc,.slice S.p S.np S.pc,.slice S.r S.nr S.rc,.slice S.f S.nf S.fc,.map S.mp,J6 S.N,.slice S.a1 S.s1 S.c1,.slice S.a2 S.s2 S.c2,.slice S.a3 S.s3 S.c3,J6 S.bot,J6 S.top,.slice S.lb S.n5 S.c5] rfl rfl 107 Jc HQ0.u (by kernel_rfl) rfl (by simp[Value.oneCell']) ?_) | (refine wpList_store_row rfl 82 (.tmp 5) (.tmp 13) rfl (P+1) (Js c a) rfl rfl 82 Jm HR1.u (by kernel_rfl) rfl (by simp[Value.oneCell']) ?_;rw[hW3]) | (refine qb7 rfl 113 #[(0,.tmp 17),(2,.tmp 18)] rfl #[.slice S.l S.nl S.lc,.slice S.p S.np S.pc,.slice S.r S.nr S.rc,.slice S.f S.nf S.fc,.map S.mp,J6 S.N,.slice S.a1 S.s1 S.c1,.slice S.a2 S.s2 S.c2,.slice S.a3 S.s3 S.c3,J6 S.bot,J6 S.top,.slice S.lb S.n5 S.c5,J7,.map (some W3.heap.size)] (by kernel_rfl) ?_))
 try rw[hSh]
 try rw[hW5]
 have HX0:Hi (Shet m ⟨al,alc,ap,apc,ar,arc,af,afc,afa⟩ n F f S W1 Sh (fun _=>0) (fun _=>zCx) 0 J7 W3.heap.size W5):=h_ ⟨by rw[hP];exact HB4.u,HSn.u,HM.u,by rw[hP];exact hPS,fun j h=>absurd h (nL _),fun i j _ h=>absurd h (nL _),HSh.u,World.ownsRow_nil _ _ _ _⟩
 have HBw:Hi (∀W,Below W1.heap.size W1 W->Below w.heap.size w W):=h_ fun W h=>HB.u.trans (h.mono HB.u.size)
 generalize W3.heap.size=pl at *
 clear hmm hW5 hSh hW3 hW2 HQ HD HB2 HQ0 HR1 HK3 HK4 HSh HB4 HPl d0 d1 l0 l1 l2 l3 l4 l5 l6 l7 l8 l9 l10 l11 y0 y1 y2 y3 hP3
 go_loopw [24] (fun i wr=>∃(k:Nat) (Bs:Nat->Nat) (u:Value),k<=m.F.length/\i=J6 k/\Shet m ⟨al,alc,ap,apc,ar,arc,af,afc,afa⟩ n F f S W1 Sh Bs (fun _=>zCx) k u pl wr) (fun i _=>m.F.length - (intOf i).toNat)
 case atStart=>exact⟨0,fun _=>0,J7,nZ _,rfl,HX0.u⟩
 case round =>
  clear HX0;obtain⟨k,Bs,u,hk,rfl,hX⟩:=hrel;have HX:=h_ hX;clear hX;by_cases hlt:k<m.F.length
  . have hlt':(k:Int)<m.F.length:=by omega
    obtain⟨fb,fo,ef,hfc,-⟩:=(HX.u.msl.mono HX.u.base).f k hlt;dsimp only at ef hfc;rw[<- qku hlt]at hfc;obtain⟨x,hx⟩:=Nq (fAt m k);obtain⟨Y,hY⟩:=Nq (afa k);rw[hx,hY]at hfc;have HFx:=h_ hx;have HYx:=h_ hY;obtain⟨-,q0,q1,q2,q3,q4,q5,q6,q7,q8⟩:=hfc;have HFb:=h_ (Blk.new wr 88 (Ja x Y.b Y.bc Y.i Y.ic Y.h Y.hc Y.v Y.vc Y.u Y.uc));have hbb:=(bR wr.heap.size wr).alloc (nR _) (.cells (Ja x Y.b Y.bc Y.i Y.ic Y.h Y.hc Y.v Y.vc Y.u Y.uc) 88);obtain⟨W6,hW6⟩:=Nq (wr.alloc (.cells (Ja x Y.b Y.bc Y.i Y.ic Y.h Y.hc Y.v Y.vc Y.u Y.uc) 88));obtain⟨X,hXx⟩:=Nq wr.heap.size;rw[hW6]at HFb hbb;rw[hXx]at HFb;have HX6:=h_ (HX.u.mono hbb);clear hbb hx hY;go_wp2_with fail
    try rw[hXx]
    try rw[hW6]
    clear hW6 hXx q0 q1 q2 q3 q4 q5 q6 q7 q8;subst ef;obtain⟨i0,hi,hz0,hz1,hz2⟩:=info_parts qlf;refine wp_region_held_drew (S:=fun w'=>Blk w' X 88 [.string x.nm,J6 x.ty,J6 x.lb,.slice Y.b x.bys.length Y.bc,.slice Y.i x.is.length Y.ic,.slice Y.h x.wh.length Y.hc,.slice Y.v x.va.length Y.vc,.string x.sy,.slice Y.u x.mu.length Y.uc]) (by kernel_rfl) HFb.u (fun zz=>?_);refine tj 0 28 (J9 Sh 0) zz ?_;refine tj 1 29 (J9 Sh 0) zz ?_;refine tj 2 30 (J9 Sh 0) zz ?_;refine tj 3 31 (J9 Sh 12) zz ?_;simp only[sX,sY,sZ];refine tj 5 33 (.agg (Ja x Y.b Y.bc Y.i Y.ic Y.h Y.hc Y.v Y.vc Y.u Y.uc)) zz ?_ (hy:=fun w hS=>by obtain⟨q0,q1,q2,q3,q4,q5,q6,q7,q8⟩:=nine hS;simp[execOp,go_sem,q0,q1,q2,q3,q4,q5,q6,q7,q8]);simp only[sX,sY,sZ];have HXV:=h_ (HX6.u.mono (bR W6.heap.size W6).drew);obtain⟨V,hV⟩:=Nq W6.drew;rw[hV]at HXV zz⊢;clear hV;have HFV:=h_ zz;have hu:V.cell? ⟨Sh,12,none⟩=some u:=HXV.u.blk.cell 12;have HCV:=h_ (HCc.u x Y V);refine wpAnyH_ready (rs:=[4,6]) (by kernel_rfl) (by simp) (consRun (i:=4) (v:=u) (w':=V) 32 rfl rfl (by rfl) (by simp[execOp,go_sem,hu]) zz ?br1 (consCall (i:=6) (f:=49) (args:=#[.agg (Ja x Y.b Y.bc Y.i Y.ic Y.h Y.hc Y.v Y.vc Y.u Y.uc)]) (R:=fun v wz=>∃B,v=ifV (inpB x) B/\V.heap.size<=B/\Blk wz B (ctT (inpB x)) (ctC (inpB x) zCx x Y)/\Below V.heap.size V wz) 34 rfl rfl (by rfl) (by simp[execOp,go_sem]) (HCV.u.mono fun e w6 ⟨B,he,h1,h2,h3⟩=>⟨_,he,B,rfl,h1,h2,h3⟩) ?br2 AllReadyH.nil))
    case' br1 =>
     simp only[sX,sY,sZ];refine callY (i:=6) (f:=49) (args:=#[.agg (Ja x Y.b Y.bc Y.i Y.ic Y.h Y.hc Y.v Y.vc Y.u Y.uc)]) (R:=fun v wz=>∃B,v=ifV (inpB x) B/\V.heap.size<=B/\Blk wz B (ctT (inpB x)) (ctC (inpB x) zCx x Y)/\Below V.heap.size V wz) 34 rfl rfl (by rfl) (by kernel_rfl) (by simp[execOp,go_sem]) (HCV.u.mono fun e w6 ⟨B,he,h1,h2,h3⟩=>⟨_,he,B,rfl,h1,h2,h3⟩) ?_;rintro v W7 ⟨B,rfl,hB1,hB2,hb7⟩;refine⟨HFV.u.mono hb7 HFV.u.lt,?_⟩;simp only[sX,sY,sZ];have HX7:=h_ (HXV.u.mono hb7);have hb8:=(bR W7.heap.size W7).alloc (nR _) (.cells #[ifV (inpB x) B] 115);have HX8:=h_ (HX7.u.mono hb8);have HF8:=h_ ((HFV.u.mono hb7 HFV.u.lt).mono hb8 (Ys HFV.u.lt hb7.size));have HB8:=h_ (hB2.mono hb8 hB2.lt);have hBlt:Hi (∀j,j<k->Bs j<B):=h_ fun j hj=>Ys (HXV.u.bx j hj).2.lt hB1;have hBlo:W1.heap.size<=B:=Zf HXV.u.base.size hB1;clear hB1 hB2 hb7;refine runY (i:=7) (v:=.slice (some ⟨W7.heap.size,0,none⟩) 1 1) (w':=W7.alloc (.cells #[ifV (inpB x) B] 115)) 35 rfl rfl (by rfl) (by kernel_rfl) (by simp[execOp,go_sem,ifV]) HF8.u ?_;simp only[sX,sY,sZ]
    case' br2 =>
     rintro v W7 ⟨B,rfl,hB1,hB2,hb7⟩;have hF7:=HFV.u.mono hb7 HFV.u.lt;refine⟨hF7,?_⟩;simp only[sX,sY,sZ];have hu7:W7.cell? ⟨Sh,12,none⟩=some u:=(HXV.u.mono hb7).blk.cell 12;have HX7:=h_ (HXV.u.mono hb7);have hb8:=(bR W7.heap.size W7).alloc (nR _) (.cells #[ifV (inpB x) B] 115);have HX8:=h_ (HX7.u.mono hb8);have HF8:=h_ ((HFV.u.mono hb7 HFV.u.lt).mono hb8 (Ys HFV.u.lt hb7.size));have HB8:=h_ (hB2.mono hb8 hB2.lt);have hBlt:Hi (∀j,j<k->Bs j<B):=h_ fun j hj=>Ys (HXV.u.bx j hj).2.lt hB1;have hBlo:W1.heap.size<=B:=Zf HXV.u.base.size hB1;clear hB1 hB2 hb7;have hu8:(W7.alloc (.cells #[ifV (inpB x) B] 115)).cell? ⟨Sh,12,none⟩=some u:=HX8.u.blk.cell 12;refine wpAnyH_ready (rs:=[4,7]) (by kernel_rfl) (by simp) (consRun (i:=4) (v:=u) (w':=W7) 32 rfl rfl (by rfl) (by simp[execOp,go_sem,hu7]) hF7 ?b1 (consRun (i:=7) (v:=.slice (some ⟨W7.heap.size,0,none⟩) 1 1) (w':=W7.alloc (.cells #[ifV (inpB x) B] 115)) 35 rfl rfl (by rfl) (by simp[execOp,go_sem,ifV]) HF8.u ?b2 AllReadyH.nil))
    case' b1 =>
     clear hu7 hu8 hF7;simp only[sX,sY,sZ];refine runY (i:=7) (v:=.slice (some ⟨W7.heap.size,0,none⟩) 1 1) (w':=W7.alloc (.cells #[ifV (inpB x) B] 115)) 35 rfl rfl (by rfl) (by kernel_rfl) (by simp[execOp,go_sem,ifV]) HF8.u ?_;simp only[sX,sY,sZ]
    case' b2 =>
     clear hu7 hF7;simp only[sX,sY,sZ];refine runY (i:=4) (v:=u) (w':=W7.alloc (.cells #[ifV (inpB x) B] 115)) 32 rfl rfl (by rfl) (by kernel_rfl) (by simp[execOp,go_sem,hu8]) HF8.u ?_;simp only[sX,sY,sZ];clear hu8
    all_goals
     refine appY (i:=8) 36 rfl rfl rfl (by kernel_rfl) (.tmp 32) (.tmp 35) 111 rfl W1.heap.size 115 i0 _ 1 16 Tryz.underlying111 hi hz0 hz1 hz2 rfl (by omega) u k (ivL m Bs k) rfl HX8.u.row ⟨W7.heap.size,0,none⟩ 1 1 [ifV (inpB x) B] rfl rfl (qfl W7 115 _) (by simp[Value.oneCell',ifV]) (by omega) (by unfold maxLen;omega) (by omega) HX8.u.base.size _ rfl ?_;intro g cap W9 ho hgr _ _;have kp:∀{q:Nat} {t:TypeId} {cs:List Value},Blk (W7.alloc (.cells #[ifV (inpB x) B] 115)) q t cs->t≠115->Blk W9 q t cs:=fun h hne=>(hgr.block _ h.lt (fun e=>qmy HX8.u.row h hne e.symm rfl)).trans h;have hSh9:=kp HX8.u.blk (by decide);have hFn:=kp HF8.u (by decide);have hB9:=kp HB8.u (ctT_ne _).1;have hXS:X≠Sh:=ne_ty hFn hSh9 (by decide);have HX10:Hi (Shet m ⟨al,alc,ap,apc,ar,arc,(some ⟨fb,fo,none⟩),afc,afa⟩ n F f S W1 Sh (fun j=>if j=k then B else Bs j) (fun _=>zCx) (k+1) (.slice (some ⟨g,0,none⟩) (k+1) cap) pl (W9.setCell ⟨Sh,12,none⟩ (.slice (some ⟨g,0,none⟩) (k+1) cap))):=h_ ⟨(HX8.u.base.grown hgr HX8.u.base.size (fun q e=>qa0 HX8.u.row e)).setCell HX8.u.lo _,HX8.u.snd,HX8.u.msl,HX8.u.lo,fun j hj=>by
      by_cases ej:j=k
      . subst ej
        simp only[if_true];rw[HFx.u];refine⟨hBlo,Blk.other ?_ _ (ne_ty hB9 hSh9 (ctT_ne _).2)⟩;have:=HYx.u;rw[this];exact hB9
      . simp only[Yn ej]
        have h:=HX8.u.bx j (by omega);have h9:=kp h.2 (ctT_ne _).1;exact⟨h.1,Blk.other h9 _ (ne_ty h9 hSh9 (ctT_ne _).2)⟩,fun i j hij hj=>by
      have ei:i≠k:=(by omega);simp only[Yn ei];by_cases ej:j=k
      . simp only[Yv ej]
        exact hBlt.u i (by omega)
      . simp only[Yn ej]
        exact HX8.u.up i j hij (by omega),hSh9.set 12 _,by
      refine qmx ?_ (fun q e=>heap_setCell_other _ _ _ _ (Ne.symm (qmy ho hSh9 (by decide) e)));rw[qgu,qd2 (Bs':=Bs) (fun j hj=>by simp only[Yn (show ¬ j=k by omega)])];simp only[if_true];rw[HFx.u];exact ho⟩
     refine⟨hFn,?_⟩;replace zz:=hFn;simp only[sX,sY,sZ];refine tj 9 37 (J9 Sh 0) zz ?_;refine tj 10 38 (J9 Sh 12) zz ?_;simp only[sX,sY,sZ];refine storeY (i:=11) (w':=W9.setCell ⟨Sh,12,none⟩ (.slice (some ⟨g,0,none⟩) (k+1) cap)) rfl (by rfl) (by kernel_rfl) rfl ?hrunS rfl (Blk.other hFn _ hXS) ?_
     case hrunS =>
      have c:W9.cell? ⟨Sh,12,none⟩=some u:=hSh9.cell 12;have fz:=hSh9.free 12;simp[execOp,go_sem,c,fz]
     refine wpAnyH_done (by kernel_rfl) ?_ _;clear zz ho hgr kp hSh9 hFn hB9 hXS hi hz0 hz1 hz2 hu HCV HFV HX7 HX8 HF8 HB8 hBlt hBlo hb8 HXV HX6;go_wp2_with fail;go_roundw
     case rel=>first | exact⟨k+1,_,_,by omega,by go_num,HX10.u⟩ | ((repeat apply Exists.intro);exact⟨⟨k+1,_,_,by omega,by go_num,HX10.u⟩,rfl⟩)
     case measure=>simp[intOf];omega
  . obtain rfl:k=m.F.length:=by omega
    have hlt':¬ (m.F.length:Int)<(m.F.length:Int):=(by omega);go_wp2_with fail
    first | go_ret2 | go_ret
    exact⟨S,W1,Sh,rfl,Nat.le_of_lt (by rw[hP];exact hwP),⟨Bs,u,pl,HX.u⟩,HBw.u _ HX.u.base⟩
end Go.Proofs.YtgojgjlninakjaaGreatDoor
