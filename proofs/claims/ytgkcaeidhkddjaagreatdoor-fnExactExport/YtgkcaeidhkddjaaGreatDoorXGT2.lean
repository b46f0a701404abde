import Derived.Test.YtgkcaeidhkddjaaGreatDoorXGT1
import Derived.Test.YtgkcaeidhkddjaaGreatDoorXGX
set_option maxRecDepth 100000
set_option maxHeartbeats 20000000
namespace Go.Proofs.YtgkcaeidhkddjaaGreatDoor
open Go Go.RowKit
def hC (c:Cx) (f:Fl) (A:FA):List Value:=[.int .i64 c.v.k,.int .i64 c.v.n,.string c.v.s,.bool c.rel,.bool c.ok,.bool c.must,.string f.nm,.int .i64 f.ty,.int .i64 f.lb,.slice A.b f.bys.length A.bc,.slice A.i f.is.length A.ic,.slice A.h f.wh.length A.hc,.slice A.v f.va.length A.vc,.string f.sy,.slice A.u f.mu.length A.uc]
def zCx:Cx:=⟨⟨0,0,⟨#[]⟩⟩,false,false,false⟩
def inpB (f:Fl):Bool:=decide (f.is.length=0)
def ctT (i:Bool):TypeId:=if i=true then 166 else 169
def ctP (i:Bool):TypeId:=if i=true then 164 else 167
def ctC (i:Bool) (c:Cx) (f:Fl) (A:FA):List Value:=hC c f A++if i=true then [.int .i64 0,.int .i64 0,.string ⟨#[]⟩] else []
def ifV (i:Bool) (B:Nat):Value:=.iface (ctP i) (.pointer (some ⟨B,0,none⟩))
theorem q5b (f:Fl) (A:FA) (b:Nat) (t:TypeId) (l:List Value) (w:World) (hb:Blk w b t (hC zCx f A++l)) :
 Calls Tryz.prog 82 #[.pointer (some ⟨b,0,none⟩)] w fun x w'=>x=.returned (.bool (inpB f))/\Below w.heap.size w w':=by
 have z:w.cell? ⟨b,10,none⟩=some (.slice A.i f.is.length A.ic):=by rw [hb.cell];rfl
 clear hb
 unfold inpB
 by_cases h:f.is.length=0
 . have h':((f.is.length:Int) == 0)=true:=by simp [h]
   rw [decide_eq_true h]
   clear h
   go_enter Tryz.func82,Tryz.ntmps82
   go_wp2_with fail
   go_ret
   exact ⟨rfl,bR _ _⟩
 . have h':((f.is.length:Int) == 0)=false:=by
    have:(f.is.length:Int) ≠ 0:=by omega
    simpa using this
   rw [decide_eq_false h]
   clear h
   go_enter Tryz.func82,Tryz.ntmps82
   go_wp2_with fail
   go_ret
   exact ⟨rfl,bR _ _⟩
theorem q9z {ops:Array Oper} {rest:List Oper} {o:Oper} {a:Act} {w:World} {Q:Exit->Act->World->Prop} (hg:o.guard=none) (t:TypeId) (parts:Array (Nat × Operand)) (ho:o.op=.build t parts) (cells:Array Value)
 (hc:Tryz.prog.built t (parts.map fun (i,x)=>(i,a.eval x)).toList=some cells) (h:wpList Tryz.prog ops Q rest (a.put o.dst (.agg cells)) w):wpList Tryz.prog ops Q (o :: rest) a w :=
 wpList_build hg t parts ho (by rw [hc];rfl) (by rw [hc];exact h)
theorem q7c (f:Fl) (A:FA) (w:World) :
 Calls Tryz.prog 51 #[fV f A] w fun x w'=>∃ B,x=.returned (ifV (inpB f) B)/\w.heap.size<=B/\Blk w' B (ctT (inpB f)) (ctC (inpB f) zCx f A)/\Below w.heap.size w w':=by
 have HCi:=h_ fun b t l W (h:Blk W b t (hC zCx f A++l))=>q5b f A b t l W h
 unfold fV
 have HK:=h_ ((Blk.new w 94 #[.string f.nm,.int .i64 f.ty,.int .i64 f.lb,.slice A.b f.bys.length A.bc,.slice A.i f.is.length A.ic,.slice A.h f.wh.length A.hc,.slice A.v f.va.length A.vc,.string f.sy,.slice A.u f.mu.length A.uc]).alloc (.cells #[.int .i64 0,.int .i64 0,.string ⟨#[]⟩,.bool false,.bool false,.bool false,.string f.nm,.int .i64 f.ty,.int .i64 f.lb,.slice A.b f.bys.length A.bc,.slice A.i f.is.length A.ic,.slice A.h f.wh.length A.hc,.slice A.v f.va.length A.vc,.string f.sy,.slice A.u f.mu.length A.uc] 162))
 have HH:=h_ (Blk.new (w.alloc (.cells #[.string f.nm,.int .i64 f.ty,.int .i64 f.lb,.slice A.b f.bys.length A.bc,.slice A.i f.is.length A.ic,.slice A.h f.wh.length A.hc,.slice A.v f.va.length A.vc,.string f.sy,.slice A.u f.mu.length A.uc] 94)) 162 #[.int .i64 0,.int .i64 0,.string ⟨#[]⟩,.bool false,.bool false,.bool false,.string f.nm,.int .i64 f.ty,.int .i64 f.lb,.slice A.b f.bys.length A.bc,.slice A.i f.is.length A.ic,.slice A.h f.wh.length A.hc,.slice A.v f.va.length A.vc,.string f.sy,.slice A.u f.mu.length A.uc])
 rw [World.size_alloc] at HH
 have HB:=h_ (((bR w.heap.size w).alloc (nR _) (.cells #[.string f.nm,.int .i64 f.ty,.int .i64 f.lb,.slice A.b f.bys.length A.bc,.slice A.i f.is.length A.ic,.slice A.h f.wh.length A.hc,.slice A.v f.va.length A.vc,.string f.sy,.slice A.u f.mu.length A.uc] 94)).alloc (by simp) (.cells #[.int .i64 0,.int .i64 0,.string ⟨#[]⟩,.bool false,.bool false,.bool false,.string f.nm,.int .i64 f.ty,.int .i64 f.lb,.slice A.b f.bys.length A.bc,.slice A.i f.is.length A.ic,.slice A.h f.wh.length A.hc,.slice A.v f.va.length A.vc,.string f.sy,.slice A.u f.mu.length A.uc] 162))
 have HK0:=h_ (Blk.new w 94 #[.string f.nm,.int .i64 f.ty,.int .i64 f.lb,.slice A.b f.bys.length A.bc,.slice A.i f.is.length A.ic,.slice A.h f.wh.length A.hc,.slice A.v f.va.length A.vc,.string f.sy,.slice A.u f.mu.length A.uc])
 obtain ⟨W0,hW0⟩:∃ W0,w.alloc (.cells #[.string f.nm,.int .i64 f.ty,.int .i64 f.lb,.slice A.b f.bys.length A.bc,.slice A.i f.is.length A.ic,.slice A.h f.wh.length A.hc,.slice A.v f.va.length A.vc,.string f.sy,.slice A.u f.mu.length A.uc] 94)=W0:=⟨_,rfl⟩
 rw [hW0] at HK HH HB HK0
 have hs0:W0.heap.size=w.heap.size+1:=by rw [<- hW0];simp
 obtain ⟨W1,hW1⟩:∃ W1,W0.alloc (.cells #[.int .i64 0,.int .i64 0,.string ⟨#[]⟩,.bool false,.bool false,.bool false,.string f.nm,.int .i64 f.ty,.int .i64 f.lb,.slice A.b f.bys.length A.bc,.slice A.i f.is.length A.ic,.slice A.h f.wh.length A.hc,.slice A.v f.va.length A.vc,.string f.sy,.slice A.u f.mu.length A.uc] 162)=W1:=⟨_,rfl⟩
 rw [hW1] at HK HH HB
 obtain ⟨y0,y1,y2,y3,y4,y5,y6,y7,y8⟩:=nine (u_ HK0)
 have HC1:=h_ (u_ HCi (w.heap.size+1) 162 [] W1 (u_ HH))
 go_enter Tryz.func51,Tryz.ntmps51
 go_wp2_with (refine q9z rfl 162 #[(1,.tmp 4)] rfl #[.int .i64 0,.int .i64 0,.string ⟨#[]⟩,.bool false,.bool false,.bool false,.string f.nm,.int .i64 f.ty,.int .i64 f.lb,.slice A.b f.bys.length A.bc,.slice A.i f.is.length A.ic,.slice A.h f.wh.length A.hc,.slice A.v f.va.length A.vc,.string f.sy,.slice A.u f.mu.length A.uc] (by kernel_rfl) ?_)
 try rw [hW0]
 try rw [hs0]
 try rw [hW1]
 refine (u_ HC1).mono ?_
 rintro x W2 ⟨rfl,hb⟩
 replace HH:=mB HH hb;replace HB:=mT HB hb
 clear hb hW0 hW1 hs0 y0 y1 y2 y3 y4 y5 y6 y7 y8 HK HK0 HC1 HCi
 cases hq:inpB f
 . have HI:=h_ hq
   clear hq
   have HX:=h_ (Blk.new W2 169 #[.int .i64 0,.int .i64 0,.string ⟨#[]⟩,.bool false,.bool false,.bool false,.string f.nm,.int .i64 f.ty,.int .i64 f.lb,.slice A.b f.bys.length A.bc,.slice A.i f.is.length A.ic,.slice A.h f.wh.length A.hc,.slice A.v f.va.length A.vc,.string f.sy,.slice A.u f.mu.length A.uc])
   have hbx:=(bR W2.heap.size W2).alloc (nR _) (.cells #[.int .i64 0,.int .i64 0,.string ⟨#[]⟩,.bool false,.bool false,.bool false,.string f.nm,.int .i64 f.ty,.int .i64 f.lb,.slice A.b f.bys.length A.bc,.slice A.i f.is.length A.ic,.slice A.h f.wh.length A.hc,.slice A.v f.va.length A.vc,.string f.sy,.slice A.u f.mu.length A.uc] 169)
   have HB9:=mT HB hbx
   have hle:w.heap.size<=W2.heap.size:=(u_ HB).size
   have hld:(W2.cell? ⟨w.heap.size+1,0,none⟩=some (.int .i64 0)/\W2.cell? ⟨w.heap.size+1,1,none⟩=some (.int .i64 0)/\W2.cell? ⟨w.heap.size+1,2,none⟩=some (.string ⟨#[]⟩)/\W2.cell? ⟨w.heap.size+1,3,none⟩=some (.bool false)/\W2.cell? ⟨w.heap.size+1,4,none⟩=some (.bool false)/\W2.cell? ⟨w.heap.size+1,5,none⟩=some (.bool false))/\(W2.cell? ⟨w.heap.size+1,6,none⟩=some (.string f.nm)/\W2.cell? ⟨w.heap.size+1,7,none⟩=some (.int .i64 f.ty)/\W2.cell? ⟨w.heap.size+1,8,none⟩=some (.int .i64 f.lb)/\W2.cell? ⟨w.heap.size+1,9,none⟩=some (.slice A.b f.bys.length A.bc)/\W2.cell? ⟨w.heap.size+1,10,none⟩=some (.slice A.i f.is.length A.ic)/\W2.cell? ⟨w.heap.size+1,11,none⟩=some (.slice A.h f.wh.length A.hc)/\W2.cell? ⟨w.heap.size+1,12,none⟩=some (.slice A.v f.va.length A.vc)/\W2.cell? ⟨w.heap.size+1,13,none⟩=some (.string f.sy)/\W2.cell? ⟨w.heap.size+1,14,none⟩=some (.slice A.u f.mu.length A.uc)):=by
    have h:=u_ HH
    exact ⟨⟨h.cell 0,h.cell 1,h.cell 2,h.cell 3,h.cell 4,h.cell 5⟩,⟨h.cell 6,h.cell 7,h.cell 8,h.cell 9,h.cell 10,h.cell 11,h.cell 12,h.cell 13,h.cell 14⟩⟩
   obtain ⟨⟨l0,l1,l2,l3,l4,l5⟩,⟨l6,l7,l8,l9,l10,l11,l12,l13,l14⟩⟩:=hld
   clear hbx
   go_wp2_with (refine q9z rfl 169 #[(0,.tmp 11)] rfl #[.int .i64 0,.int .i64 0,.string ⟨#[]⟩,.bool false,.bool false,.bool false,.string f.nm,.int .i64 f.ty,.int .i64 f.lb,.slice A.b f.bys.length A.bc,.slice A.i f.is.length A.ic,.slice A.h f.wh.length A.hc,.slice A.v f.va.length A.vc,.string f.sy,.slice A.u f.mu.length A.uc] (by kernel_rfl) ?_)
   go_ret
   refine ⟨W2.heap.size,?_,hle,?_,u_ HB9⟩
   . rw [u_ HI];rfl
   . rw [u_ HI];exact u_ HX
 . have HI:=h_ hq
   clear hq
   have HX:=h_ (Blk.new W2 166 #[.int .i64 0,.int .i64 0,.string ⟨#[]⟩,.bool false,.bool false,.bool false,.string f.nm,.int .i64 f.ty,.int .i64 f.lb,.slice A.b f.bys.length A.bc,.slice A.i f.is.length A.ic,.slice A.h f.wh.length A.hc,.slice A.v f.va.length A.vc,.string f.sy,.slice A.u f.mu.length A.uc,.int .i64 0,.int .i64 0,.string ⟨#[]⟩])
   have hbx:=(bR W2.heap.size W2).alloc (nR _) (.cells #[.int .i64 0,.int .i64 0,.string ⟨#[]⟩,.bool false,.bool false,.bool false,.string f.nm,.int .i64 f.ty,.int .i64 f.lb,.slice A.b f.bys.length A.bc,.slice A.i f.is.length A.ic,.slice A.h f.wh.length A.hc,.slice A.v f.va.length A.vc,.string f.sy,.slice A.u f.mu.length A.uc,.int .i64 0,.int .i64 0,.string ⟨#[]⟩] 166)
   have HB9:=mT HB hbx
   have hle:w.heap.size<=W2.heap.size:=(u_ HB).size
   have hld:(W2.cell? ⟨w.heap.size+1,0,none⟩=some (.int .i64 0)/\W2.cell? ⟨w.heap.size+1,1,none⟩=some (.int .i64 0)/\W2.cell? ⟨w.heap.size+1,2,none⟩=some (.string ⟨#[]⟩)/\W2.cell? ⟨w.heap.size+1,3,none⟩=some (.bool false)/\W2.cell? ⟨w.heap.size+1,4,none⟩=some (.bool false)/\W2.cell? ⟨w.heap.size+1,5,none⟩=some (.bool false))/\(W2.cell? ⟨w.heap.size+1,6,none⟩=some (.string f.nm)/\W2.cell? ⟨w.heap.size+1,7,none⟩=some (.int .i64 f.ty)/\W2.cell? ⟨w.heap.size+1,8,none⟩=some (.int .i64 f.lb)/\W2.cell? ⟨w.heap.size+1,9,none⟩=some (.slice A.b f.bys.length A.bc)/\W2.cell? ⟨w.heap.size+1,10,none⟩=some (.slice A.i f.is.length A.ic)/\W2.cell? ⟨w.heap.size+1,11,none⟩=some (.slice A.h f.wh.length A.hc)/\W2.cell? ⟨w.heap.size+1,12,none⟩=some (.slice A.v f.va.length A.vc)/\W2.cell? ⟨w.heap.size+1,13,none⟩=some (.string f.sy)/\W2.cell? ⟨w.heap.size+1,14,none⟩=some (.slice A.u f.mu.length A.uc)):=by
    have h:=u_ HH
    exact ⟨⟨h.cell 0,h.cell 1,h.cell 2,h.cell 3,h.cell 4,h.cell 5⟩,⟨h.cell 6,h.cell 7,h.cell 8,h.cell 9,h.cell 10,h.cell 11,h.cell 12,h.cell 13,h.cell 14⟩⟩
   obtain ⟨⟨l0,l1,l2,l3,l4,l5⟩,⟨l6,l7,l8,l9,l10,l11,l12,l13,l14⟩⟩:=hld
   clear hbx
   go_wp2_with (refine q9z rfl 166 #[(0,.tmp 7)] rfl #[.int .i64 0,.int .i64 0,.string ⟨#[]⟩,.bool false,.bool false,.bool false,.string f.nm,.int .i64 f.ty,.int .i64 f.lb,.slice A.b f.bys.length A.bc,.slice A.i f.is.length A.ic,.slice A.h f.wh.length A.hc,.slice A.v f.va.length A.vc,.string f.sy,.slice A.u f.mu.length A.uc,.int .i64 0,.int .i64 0,.string ⟨#[]⟩] (by kernel_rfl) ?_)
   go_ret
   refine ⟨W2.heap.size,?_,hle,?_,u_ HB9⟩
   . rw [u_ HI];rfl
   . rw [u_ HI];exact u_ HX
def sfC (S:SF):List Value:=[.slice S.l S.nl S.lc,.slice S.p S.np S.pc,.slice S.r S.nr S.rc,.slice S.f S.nf S.fc,.map S.mp,.int .i64 S.N,.slice S.a1 S.s1 S.c1,.slice S.a2 S.s2 S.c2,.slice S.a3 S.s3 S.c3,.int .i64 S.bot,.int .i64 S.top,.slice S.lb S.n5 S.c5]
def ivL (m:Fm) (Bs:Nat->Nat) (k:Nat):List Value:=(List.range k).map fun j=>ifV (inpB (fAt m j)) (Bs j)
theorem qeq (m:Fm) (Bs:Nat->Nat) (k:Nat):ivL m Bs (k+1)=ivL m Bs k++[ifV (inpB (fAt m k)) (Bs k)]:=by simp [ivL,List.range_succ]
theorem qbl {m:Fm} {Bs Bs':Nat->Nat} {k:Nat} (h:∀ j,j<k->Bs j=Bs' j):ivL m Bs k=ivL m Bs' k:=by
 unfold ivL
 exact List.map_congr_left fun j hj=>by rw [h j (List.mem_range.1 hj)]
theorem qip {m:Fm} {Bs:Nat->Nat} {k j:Nat} (h:j<k):(ivL m Bs k)[j]? = some (ifV (inpB (fAt m j)) (Bs j)):=by simp [ivL,h]
structure Shet (m:Fm) (A:MA) (n:Nat) (F:Nat->Bool) (f:Nat->Nat) (S:SF) (WD:World) (Sh:Nat) (Bs:Nat->Nat) (e:Nat->Cx) (k:Nat) (u:Value) (pl:Nat) (W:World):Prop where
 base:Below WD.heap.size WD W
 snd:SndW m A n F f S WD
 msl:MSl WD m A
 lo:WD.heap.size<=Sh
 bx:∀ j,j<k->WD.heap.size<=Bs j/\Blk W (Bs j) (ctT (inpB (fAt m j))) (ctC (inpB (fAt m j)) (e j) (fAt m j) (A.fa j))
 up:∀ i j,i<j->j<k->Bs i<Bs j
 blk:Blk W Sh 122 (sfC S++[u,.map (some pl)])
 row:W.ownsRow WD.heap.size 124 1 u k (ivL m Bs k)
theorem Shet.mono {m:Fm} {A:MA} {n:Nat} {F:Nat->Bool} {f:Nat->Nat} {S:SF} {WD:World} {Sh:Nat} {Bs:Nat->Nat} {e:Nat->Cx} {k:Nat} {u:Value} {pl:Nat} {W W':World} (h:Shet m A n F f S WD Sh Bs e k u pl W) (hb:Below W.heap.size W W'):Shet m A n F f S WD Sh Bs e k u pl W' :=
 ⟨h.base.trans (hb.mono h.base.size),h.snd,h.msl,h.lo,fun j hj=>⟨(h.bx j hj).1,(h.bx j hj).2.mono hb (h.bx j hj).2.lt⟩,h.up,h.blk.mono hb h.blk.lt,qcd h.row hb⟩
theorem ne_ty {w:World} {g q:Nat} {t t':TypeId} {cs:List Value} {cur:Array Value} {fr:Nat × Nat} (h:Blk w g t cs) (h':w.heap[q]? = some (.cells cur t' fr)) (hne:t ≠ t'):g ≠ q:=fun e=>by
 subst e
 have:=(show w.heap[g]? = some (.cells cs.toArray t (0,0)) from h).symm.trans h'
 simp only [Option.some.injEq,Obj.cells.injEq] at this
 exact hne this.2.1
theorem qjr {w:World} {base:Nat} {e t:TypeId} {size n g q:Nat} {v:Value} {xs cs:List Value} (ho:w.ownsRow base e size v n xs) (h:Blk w g t cs) (hne:t ≠ e) (hq:v.ownBlock=some q):g ≠ q:=by
 rcases ho.2 with ⟨rfl,-⟩ | ⟨g',cap,cur,rfl,-,hg,-⟩
 . cases hq
 . have:g'=q:=by simpa [Value.ownBlock] using hq
   subst this
   exact ne_ty h hg hne
theorem ctT_ne (i:Bool):ctT i ≠ 124/\ctT i ≠ 122:=by cases i <;> exact ⟨by decide,by decide⟩
theorem qjq {w w':World} {base n size:Nat} {e:TypeId} {v:Value} {xs:List Value} (h:w.ownsRow base e size v n xs) (hk:∀ q,v.ownBlock=some q->w'.heap[q]? = w.heap[q]?):w'.ownsRow base e size v n xs:=by
 refine ⟨h.1,?_⟩
 rcases h.2 with h2 | ⟨g,cap,cur,h1,hb,hg,r⟩
 . exact .inl h2
 . exact .inr ⟨g,cap,cur,h1,hb,(hk g (by rw [h1];rfl)).trans hg,r⟩
theorem qik:(Tryz.prog.info? 124).map (fun i=>(i.zero,i.size,i.bytes))=some (some .nilIface,1,16):=by kernel_rfl
theorem q98 (m:Fm) (A:MA) (w:World) (hS:∀ W,MSl W m A->Tabs W->TyW W->Tab W->Calls Tryz.prog 50 #[mV m A] W fun r w'=>∃ S c a,r=.returned (.tuple #[sfV S,dgV c a])/\c ≠ 0/\Below W.heap.size W w') (ha:MSl w m A) (ht:Tabs w) (hy:TyW w) (htb:Tab w) :
 Calls Tryz.prog 27 #[mV m A] w fun r w'=>r=.returned (.tuple #[.pointer none,.bool false])/\Below w.heap.size w w':=by
 have HS0:=h_ hS
 clear hS
 obtain ⟨al,alc,ap,apc,ar,arc,af,afc,afa⟩:=A
 unfold mV at HS0 ⊢
 dsimp only at HS0 ⊢
 have HK:=h_ (Blk.new w 36 #[.slice al m.L.length alc,.slice ap m.P.length apc,.slice ar m.R.length arc,.slice af m.F.length afc])
 have HB:=h_ ((bR w.heap.size w).alloc (nR _) (.cells #[.slice al m.L.length alc,.slice ap m.P.length apc,.slice ar m.R.length arc,.slice af m.F.length afc] 36))
 obtain ⟨W0,hW0⟩:∃ W0,w.alloc (.cells #[.slice al m.L.length alc,.slice ap m.P.length apc,.slice ar m.R.length arc,.slice af m.F.length afc] 36)=W0:=⟨_,rfl⟩
 rw [hW0] at HK HB
 have HM:=h_ (ha.mono (u_ HB))
 have HC:=h_ (u_ HS0 W0 (ha.mono (u_ HB)) (ht.mono (u_ HB)) (hy.mono (u_ HB)) (htb.mono (u_ HB)))
 clear ha ht hy htb HS0
 obtain ⟨y0,y1,y2,y3⟩:=quad (u_ HK)
 go_enter Tryz.func27,Tryz.ntmps27
 go_wp2_with fail
 try rw [hW0]
 refine (u_ HC).mono ?_
 rintro r W1 ⟨S,c,a,rfl,hc,hb⟩
 unfold sfV
 replace HB:=mT HB hb
 have hc':(c != 0)=true:=by simpa using hc
 clear hb hW0 y0 y1 y2 y3 HK HC HM hc
 have hQ0:=(Blk.new W1 116 #[.slice none 0 0,.slice none 0 0,.slice none 0 0,.slice none 0 0,.map none,.int .i64 0,.slice none 0 0,.slice none 0 0,.slice none 0 0,.int .i64 0,.int .i64 0,.slice none 0 0]).alloc (.cells #[.int .i64 0,.int .i64 0] 90)
 have hD0:=Blk.new (W1.alloc (.cells #[.slice none 0 0,.slice none 0 0,.slice none 0 0,.slice none 0 0,.map none,.int .i64 0,.slice none 0 0,.slice none 0 0,.slice none 0 0,.int .i64 0,.int .i64 0,.slice none 0 0] 116)) 90 #[.int .i64 0,.int .i64 0]
 rw [World.size_alloc] at hD0
 have hb2:=((bR W1.heap.size W1).alloc (nR _) (.cells #[.slice none 0 0,.slice none 0 0,.slice none 0 0,.slice none 0 0,.map none,.int .i64 0,.slice none 0 0,.slice none 0 0,.slice none 0 0,.int .i64 0,.int .i64 0,.slice none 0 0] 116)).alloc (by simp) (.cells #[.int .i64 0,.int .i64 0] 90)
 obtain ⟨W2,hW2⟩:∃ W2,(W1.alloc (.cells #[.slice none 0 0,.slice none 0 0,.slice none 0 0,.slice none 0 0,.map none,.int .i64 0,.slice none 0 0,.slice none 0 0,.slice none 0 0,.int .i64 0,.int .i64 0,.slice none 0 0] 116)).alloc (.cells #[.int .i64 0,.int .i64 0] 90)=W2:=⟨_,rfl⟩
 obtain ⟨P,hP⟩:∃ P,W1.heap.size=P:=⟨_,rfl⟩
 rw [hW2] at hQ0 hD0 hb2
 rw [hP] at hQ0 hD0 hb2
 have hR1:=hD0.row_other (g:=P) (by omega) #[.slice S.l S.nl S.lc,.slice S.p S.np S.pc,.slice S.r S.nr S.rc,.slice S.f S.nf S.fc,.map S.mp,.int .i64 S.N,.slice S.a1 S.s1 S.c1,.slice S.a2 S.s2 S.c2,.slice S.a3 S.s3 S.c3,.int .i64 S.bot,.int .i64 S.top,.slice S.lb S.n5 S.c5]
 have HQ:=h_ ((hQ0.row [.slice S.l S.nl S.lc,.slice S.p S.np S.pc,.slice S.r S.nr S.rc,.slice S.f S.nf S.fc,.map S.mp,.int .i64 S.N,.slice S.a1 S.s1 S.c1,.slice S.a2 S.s2 S.c2,.slice S.a3 S.s3 S.c3,.int .i64 S.bot,.int .i64 S.top,.slice S.lb S.n5 S.c5]).row_other (g:=P+1) (by omega) #[.int .i64 c,.int .i64 a])
 have HD:=h_ (hR1.row [.int .i64 c,.int .i64 a])
 have HB2:=h_ (hb2.trans (((qjp (lo:=P) (hi:=P+2) (g:=P) W2 #[.slice S.l S.nl S.lc,.slice S.p S.np S.pc,.slice S.r S.nr S.rc,.slice S.f S.nf S.fc,.map S.mp,.int .i64 S.N,.slice S.a1 S.s1 S.c1,.slice S.a2 S.s2 S.c2,.slice S.a3 S.s3 S.c3,.int .i64 S.bot,.int .i64 S.top,.slice S.lb S.n5 S.c5] (by omega) (by omega)).trans (qjp (g:=P+1) _ #[.int .i64 c,.int .i64 a] (by omega) (by omega))).below (nR _) (by rw [<- hP];have:=hQ0.lt;omega)))
 have HQ0:=h_ hQ0;have HR1:=h_ hR1
 clear hQ0 hR1 hD0 hb2
 obtain ⟨W3,hW3⟩:∃ W3,(W2.setRow P #[.slice S.l S.nl S.lc,.slice S.p S.np S.pc,.slice S.r S.nr S.rc,.slice S.f S.nf S.fc,.map S.mp,.int .i64 S.N,.slice S.a1 S.s1 S.c1,.slice S.a2 S.s2 S.c2,.slice S.a3 S.s3 S.c3,.int .i64 S.bot,.int .i64 S.top,.slice S.lb S.n5 S.c5]).setRow (P+1) #[.int .i64 c,.int .i64 a]=W3:=⟨_,rfl⟩
 rw [hW3] at HQ HD HB2
 obtain ⟨d0,d1⟩:=(two' (u_ HD)).1
 replace HB:=h_ ((u_ HB).trans ((u_ HB2).mono (by rw [<- hP];exact (u_ HB).size)))
 go_wp2_with (first | (refine wpList_store_row rfl 116 (.tmp 4) (.tmp 12) rfl P #[.slice S.l S.nl S.lc,.slice S.p S.np S.pc,.slice S.r S.nr S.rc,.slice S.f S.nf S.fc,.map S.mp,.int .i64 S.N,.slice S.a1 S.s1 S.c1,.slice S.a2 S.s2 S.c2,.slice S.a3 S.s3 S.c3,.int .i64 S.bot,.int .i64 S.top,.slice S.lb S.n5 S.c5] rfl rfl 116 #[.slice none 0 0,.slice none 0 0,.slice none 0 0,.slice none 0 0,.map none,.int .i64 0,.slice none 0 0,.slice none 0 0,.slice none 0 0,.int .i64 0,.int .i64 0,.slice none 0 0] (u_ HQ0) (by kernel_rfl) rfl (by simp [Value.oneCell']) ?_) | (refine wpList_store_row rfl 90 (.tmp 5) (.tmp 13) rfl (P+1) #[.int .i64 c,.int .i64 a] rfl rfl 90 #[.int .i64 0,.int .i64 0] (u_ HR1) (by kernel_rfl) rfl (by simp [Value.oneCell']) ?_;rw [hW3]))
 first | go_ret2 | go_ret
 exact ⟨rfl,u_ HB⟩
theorem q99 (m:Fm) (A:MA) (n:Nat) (F:Nat->Bool) (f:Nat->Nat) (w:World) (hnf:m.F.length<=200) (hS:∀ W,MSl W m A->Tabs W->TyW W->Tab W->Calls Tryz.prog 50 #[mV m A] W fun r w'=>∃ S,r=.returned (.tuple #[sfV S,dgV 0 0])/\SndW m A n F f S w'/\Below W.heap.size W w') (ha:MSl w m A) (ht:Tabs w) (hy:TyW w) (htb:Tab w) :
 Calls Tryz.prog 27 #[mV m A] w fun r w'=>∃ S WD Sh Bs u pl,r=.returned (.tuple #[.pointer (some ⟨Sh,0,none⟩),.bool true])/\w.heap.size<=WD.heap.size/\Shet m A n F f S WD Sh Bs (fun _=>zCx) m.F.length u pl w'/\Below w.heap.size w w':=by
 have HCc:=h_ fun x Y W=>q7c x Y W
 have HS0:=h_ hS
 clear hS
 obtain ⟨al,alc,ap,apc,ar,arc,af,afc,afa⟩:=A
 unfold mV at HS0 ⊢
 dsimp only at HS0 ⊢
 have HK:=h_ (Blk.new w 36 #[.slice al m.L.length alc,.slice ap m.P.length apc,.slice ar m.R.length arc,.slice af m.F.length afc])
 have HB:=h_ ((bR w.heap.size w).alloc (nR _) (.cells #[.slice al m.L.length alc,.slice ap m.P.length apc,.slice ar m.R.length arc,.slice af m.F.length afc] 36))
 obtain ⟨W0,hW0⟩:∃ W0,w.alloc (.cells #[.slice al m.L.length alc,.slice ap m.P.length apc,.slice ar m.R.length arc,.slice af m.F.length afc] 36)=W0:=⟨_,rfl⟩
 rw [hW0] at HK HB
 have HM:=h_ (ha.mono (u_ HB))
 have HC:=h_ (u_ HS0 W0 (ha.mono (u_ HB)) (ht.mono (u_ HB)) (hy.mono (u_ HB)) (htb.mono (u_ HB)))
 clear ha ht hy htb HS0
 obtain ⟨y0,y1,y2,y3⟩:=quad (u_ HK)
 go_enter Tryz.func27,Tryz.ntmps27
 go_wp2_with fail
 try rw [hW0]
 refine (u_ HC).mono ?_
 rintro r W1 ⟨S,rfl,hsn,hb⟩
 have HSn:=h_ hsn
 obtain ⟨c,hc⟩:∃ c:Int,c=0:=⟨0,rfl⟩
 obtain ⟨a,ha⟩:∃ a:Int,a=0:=⟨0,rfl⟩
 rw [show dgV 0 0=dgV c a by rw [hc,ha]]
 unfold sfV
 replace HK:=mB HK hb;replace HM:=h_ ((u_ HM).mono hb);replace HB:=mT HB hb
 have hc':(c != 0)=false:=by simp [hc]
 clear hb hW0 y0 y1 y2 y3 HC hsn hc ha
 have hQ0:=(Blk.new W1 116 #[.slice none 0 0,.slice none 0 0,.slice none 0 0,.slice none 0 0,.map none,.int .i64 0,.slice none 0 0,.slice none 0 0,.slice none 0 0,.int .i64 0,.int .i64 0,.slice none 0 0]).alloc (.cells #[.int .i64 0,.int .i64 0] 90)
 have hD0:=Blk.new (W1.alloc (.cells #[.slice none 0 0,.slice none 0 0,.slice none 0 0,.slice none 0 0,.map none,.int .i64 0,.slice none 0 0,.slice none 0 0,.slice none 0 0,.int .i64 0,.int .i64 0,.slice none 0 0] 116)) 90 #[.int .i64 0,.int .i64 0]
 rw [World.size_alloc] at hD0
 have hb2:=((bR W1.heap.size W1).alloc (nR _) (.cells #[.slice none 0 0,.slice none 0 0,.slice none 0 0,.slice none 0 0,.map none,.int .i64 0,.slice none 0 0,.slice none 0 0,.slice none 0 0,.int .i64 0,.int .i64 0,.slice none 0 0] 116)).alloc (by simp) (.cells #[.int .i64 0,.int .i64 0] 90)
 obtain ⟨W2,hW2⟩:∃ W2,(W1.alloc (.cells #[.slice none 0 0,.slice none 0 0,.slice none 0 0,.slice none 0 0,.map none,.int .i64 0,.slice none 0 0,.slice none 0 0,.slice none 0 0,.int .i64 0,.int .i64 0,.slice none 0 0] 116)).alloc (.cells #[.int .i64 0,.int .i64 0] 90)=W2:=⟨_,rfl⟩
 obtain ⟨P,hP⟩:∃ P,W1.heap.size=P:=⟨_,rfl⟩
 rw [hW2] at hQ0 hD0 hb2
 rw [hP] at hQ0 hD0 hb2
 have hR1:=hD0.row_other (g:=P) (by omega) #[.slice S.l S.nl S.lc,.slice S.p S.np S.pc,.slice S.r S.nr S.rc,.slice S.f S.nf S.fc,.map S.mp,.int .i64 S.N,.slice S.a1 S.s1 S.c1,.slice S.a2 S.s2 S.c2,.slice S.a3 S.s3 S.c3,.int .i64 S.bot,.int .i64 S.top,.slice S.lb S.n5 S.c5]
 have HQ:=h_ ((hQ0.row [.slice S.l S.nl S.lc,.slice S.p S.np S.pc,.slice S.r S.nr S.rc,.slice S.f S.nf S.fc,.map S.mp,.int .i64 S.N,.slice S.a1 S.s1 S.c1,.slice S.a2 S.s2 S.c2,.slice S.a3 S.s3 S.c3,.int .i64 S.bot,.int .i64 S.top,.slice S.lb S.n5 S.c5]).row_other (g:=P+1) (by omega) #[.int .i64 c,.int .i64 a])
 have HD:=h_ (hR1.row [.int .i64 c,.int .i64 a])
 have HB2:=h_ (hb2.trans (((qjp (lo:=P) (hi:=P+2) (g:=P) W2 #[.slice S.l S.nl S.lc,.slice S.p S.np S.pc,.slice S.r S.nr S.rc,.slice S.f S.nf S.fc,.map S.mp,.int .i64 S.N,.slice S.a1 S.s1 S.c1,.slice S.a2 S.s2 S.c2,.slice S.a3 S.s3 S.c3,.int .i64 S.bot,.int .i64 S.top,.slice S.lb S.n5 S.c5] (by omega) (by omega)).trans (qjp (g:=P+1) _ #[.int .i64 c,.int .i64 a] (by omega) (by omega))).below (nR _) (by rw [<- hP];have:=hQ0.lt;omega)))
 have HQ0:=h_ hQ0;have HR1:=h_ hR1
 clear hQ0 hR1 hD0 hb2
 obtain ⟨W3,hW3⟩:∃ W3,(W2.setRow P #[.slice S.l S.nl S.lc,.slice S.p S.np S.pc,.slice S.r S.nr S.rc,.slice S.f S.nf S.fc,.map S.mp,.int .i64 S.N,.slice S.a1 S.s1 S.c1,.slice S.a2 S.s2 S.c2,.slice S.a3 S.s3 S.c3,.int .i64 S.bot,.int .i64 S.top,.slice S.lb S.n5 S.c5]).setRow (P+1) #[.int .i64 c,.int .i64 a]=W3:=⟨_,rfl⟩
 rw [hW3] at HQ HD HB2
 obtain ⟨d0,d1⟩:=(two' (u_ HD)).1
 have hwP:w.heap.size<P:=by rw [<- hP];exact (u_ HK).lt
 have hP3:P<=W3.heap.size:=by rw [<- hP];exact (u_ HB2).size
 obtain ⟨⟨l0,l1,l2,l3,l4,l5,l6,l7,l8,l9,l10,l11⟩,-⟩:=twelve (u_ HQ)
 have HK3:=h_ ((u_ HK).mono (u_ HB2) hwP)
 have HK4:=h_ (((u_ HK3).alloc (.map #[] 0)).alloc (.cells #[.slice S.l S.nl S.lc,.slice S.p S.np S.pc,.slice S.r S.nr S.rc,.slice S.f S.nf S.fc,.map S.mp,.int .i64 S.N,.slice S.a1 S.s1 S.c1,.slice S.a2 S.s2 S.c2,.slice S.a3 S.s3 S.c3,.int .i64 S.bot,.int .i64 S.top,.slice S.lb S.n5 S.c5,.slice none 0 0,.map (some W3.heap.size)] 122))
 obtain ⟨y0,y1,y2,y3⟩:=quad (u_ HK4)
 have HSh:=h_ (Blk.new (W3.alloc (.map #[] 0)) 122 #[.slice S.l S.nl S.lc,.slice S.p S.np S.pc,.slice S.r S.nr S.rc,.slice S.f S.nf S.fc,.map S.mp,.int .i64 S.N,.slice S.a1 S.s1 S.c1,.slice S.a2 S.s2 S.c2,.slice S.a3 S.s3 S.c3,.int .i64 S.bot,.int .i64 S.top,.slice S.lb S.n5 S.c5,.slice none 0 0,.map (some W3.heap.size)])
 rw [World.size_alloc] at HSh
 have HB4:=h_ (((u_ HB2).alloc hP3 (.map #[] 0)).alloc (Nat.le_trans hP3 (by simp)) (.cells #[.slice S.l S.nl S.lc,.slice S.p S.np S.pc,.slice S.r S.nr S.rc,.slice S.f S.nf S.fc,.map S.mp,.int .i64 S.N,.slice S.a1 S.s1 S.c1,.slice S.a2 S.s2 S.c2,.slice S.a3 S.s3 S.c3,.int .i64 S.bot,.int .i64 S.top,.slice S.lb S.n5 S.c5,.slice none 0 0,.map (some W3.heap.size)] 122))
 have HPl:Hid (∃ pl,pl=W3.heap.size):=h_ ⟨_,rfl⟩
 obtain ⟨W5,hW5⟩:∃ W5,(W3.alloc (.map #[] 0)).alloc (.cells #[.slice S.l S.nl S.lc,.slice S.p S.np S.pc,.slice S.r S.nr S.rc,.slice S.f S.nf S.fc,.map S.mp,.int .i64 S.N,.slice S.a1 S.s1 S.c1,.slice S.a2 S.s2 S.c2,.slice S.a3 S.s3 S.c3,.int .i64 S.bot,.int .i64 S.top,.slice S.lb S.n5 S.c5,.slice none 0 0,.map (some W3.heap.size)] 122)=W5:=⟨_,rfl⟩
 obtain ⟨Sh,hSh⟩:∃ Sh,W3.heap.size+1=Sh:=⟨_,rfl⟩
 rw [hW5] at HK4 y0 y1 y2 y3 HSh HB4
 rw [hSh] at HSh
 have hPS:P<=Sh:=by omega
 have hmm:=@run_makeMap Tryz.prog
 go_wp2_with (first | (refine wpList_store_row rfl 116 (.tmp 4) (.tmp 12) rfl P #[.slice S.l S.nl S.lc,.slice S.p S.np S.pc,.slice S.r S.nr S.rc,.slice S.f S.nf S.fc,.map S.mp,.int .i64 S.N,.slice S.a1 S.s1 S.c1,.slice S.a2 S.s2 S.c2,.slice S.a3 S.s3 S.c3,.int .i64 S.bot,.int .i64 S.top,.slice S.lb S.n5 S.c5] rfl rfl 116 #[.slice none 0 0,.slice none 0 0,.slice none 0 0,.slice none 0 0,.map none,.int .i64 0,.slice none 0 0,.slice none 0 0,.slice none 0 0,.int .i64 0,.int .i64 0,.slice none 0 0] (u_ HQ0) (by kernel_rfl) rfl (by simp [Value.oneCell']) ?_) | (refine wpList_store_row rfl 90 (.tmp 5) (.tmp 13) rfl (P+1) #[.int .i64 c,.int .i64 a] rfl rfl 90 #[.int .i64 0,.int .i64 0] (u_ HR1) (by kernel_rfl) rfl (by simp [Value.oneCell']) ?_;rw [hW3]) | (refine q9z rfl 122 #[(0,.tmp 17),(2,.tmp 18)] rfl #[.slice S.l S.nl S.lc,.slice S.p S.np S.pc,.slice S.r S.nr S.rc,.slice S.f S.nf S.fc,.map S.mp,.int .i64 S.N,.slice S.a1 S.s1 S.c1,.slice S.a2 S.s2 S.c2,.slice S.a3 S.s3 S.c3,.int .i64 S.bot,.int .i64 S.top,.slice S.lb S.n5 S.c5,.slice none 0 0,.map (some W3.heap.size)] (by kernel_rfl) ?_))
 try rw [hSh]
 try rw [hW5]
 have HX0:Hid (Shet m ⟨al,alc,ap,apc,ar,arc,af,afc,afa⟩ n F f S W1 Sh (fun _=>0) (fun _=>zCx) 0 (.slice none 0 0) W3.heap.size W5):=h_ ⟨by rw [hP];exact u_ HB4,u_ HSn,u_ HM,by rw [hP];exact hPS,fun j h=>absurd h (nL _),fun i j _ h=>absurd h (nL _),u_ HSh,World.ownsRow_nil _ _ _ _⟩
 have HBw:Hid (∀ W,Below W1.heap.size W1 W->Below w.heap.size w W):=h_ fun W h=>(u_ HB).trans (h.mono (u_ HB).size)
 generalize W3.heap.size=pl at *
 clear hmm hW5 hSh hW3 hW2 HQ HD HB2 HQ0 HR1 HK3 HK4 HSh HB4 HPl d0 d1 l0 l1 l2 l3 l4 l5 l6 l7 l8 l9 l10 l11 y0 y1 y2 y3 hP3
 go_loopw [24] (fun i wr=>∃ (k:Nat) (Bs:Nat->Nat) (u:Value),k<=m.F.length/\i=.int .i64 k/\Shet m ⟨al,alc,ap,apc,ar,arc,af,afc,afa⟩ n F f S W1 Sh Bs (fun _=>zCx) k u pl wr) (fun i _=>m.F.length - (intOf i).toNat)
 case atStart=>exact ⟨0,fun _=>0,.slice none 0 0,nZ _,rfl,u_ HX0⟩
 case round =>
  clear HX0
  obtain ⟨k,Bs,u,hk,rfl,hX⟩:=hrel
  have HX:=h_ hX
  clear hX
  by_cases hlt:k<m.F.length
  . have hlt':(k:Int)<m.F.length:=by omega
    obtain ⟨fb,fo,ef,hfc,-⟩:=((u_ HX).msl.mono (u_ HX).base).f k hlt
    dsimp only at ef hfc
    rw [<- qi1 hlt] at hfc
    obtain ⟨x,hx⟩:∃ x,fAt m k=x:=⟨_,rfl⟩
    obtain ⟨Y,hY⟩:∃ Y,afa k=Y:=⟨_,rfl⟩
    rw [hx,hY] at hfc
    have HFx:=h_ hx;have HYx:=h_ hY
    obtain ⟨-,q0,q1,q2,q3,q4,q5,q6,q7,q8⟩:=hfc
    have HFb:=h_ (Blk.new wr 94 #[.string x.nm,.int .i64 x.ty,.int .i64 x.lb,.slice Y.b x.bys.length Y.bc,.slice Y.i x.is.length Y.ic,.slice Y.h x.wh.length Y.hc,.slice Y.v x.va.length Y.vc,.string x.sy,.slice Y.u x.mu.length Y.uc])
    have hbb:=(bR wr.heap.size wr).alloc (nR _) (.cells #[.string x.nm,.int .i64 x.ty,.int .i64 x.lb,.slice Y.b x.bys.length Y.bc,.slice Y.i x.is.length Y.ic,.slice Y.h x.wh.length Y.hc,.slice Y.v x.va.length Y.vc,.string x.sy,.slice Y.u x.mu.length Y.uc] 94)
    obtain ⟨W6,hW6⟩:∃ W6,wr.alloc (.cells #[.string x.nm,.int .i64 x.ty,.int .i64 x.lb,.slice Y.b x.bys.length Y.bc,.slice Y.i x.is.length Y.ic,.slice Y.h x.wh.length Y.hc,.slice Y.v x.va.length Y.vc,.string x.sy,.slice Y.u x.mu.length Y.uc] 94)=W6:=⟨_,rfl⟩
    obtain ⟨X,hXx⟩:∃ X,wr.heap.size=X:=⟨_,rfl⟩
    rw [hW6] at HFb hbb
    rw [hXx] at HFb
    have HX6:=h_ ((u_ HX).mono hbb)
    clear hbb hx hY
    go_wp2_with fail
    try rw [hXx]
    try rw [hW6]
    clear hW6 hXx q0 q1 q2 q3 q4 q5 q6 q7 q8
    subst ef
    obtain ⟨i0,hi,hz0,hz1,hz2⟩:=info_parts qik
    refine wp_region_held_drew (S:=fun w'=>Blk w' X 94 [.string x.nm,.int .i64 x.ty,.int .i64 x.lb,.slice Y.b x.bys.length Y.bc,.slice Y.i x.is.length Y.ic,.slice Y.h x.wh.length Y.hc,.slice Y.v x.va.length Y.vc,.string x.sy,.slice Y.u x.mu.length Y.uc]) (by kernel_rfl) (u_ HFb) (fun zz=>?_)
    refine tk 0 28 (.pointer (some ⟨Sh,0,none⟩)) zz ?_
    refine tk 1 29 (.pointer (some ⟨Sh,0,none⟩)) zz ?_
    refine tk 2 30 (.pointer (some ⟨Sh,0,none⟩)) zz ?_
    refine tk 3 31 (.pointer (some ⟨Sh,12,none⟩)) zz ?_
    simp only [sX,sY,sZ]
    refine tk 5 33 (.agg #[.string x.nm,.int .i64 x.ty,.int .i64 x.lb,.slice Y.b x.bys.length Y.bc,.slice Y.i x.is.length Y.ic,.slice Y.h x.wh.length Y.hc,.slice Y.v x.va.length Y.vc,.string x.sy,.slice Y.u x.mu.length Y.uc]) zz ?_ (hy:=fun w hS=>by obtain ⟨q0,q1,q2,q3,q4,q5,q6,q7,q8⟩:=nine hS;simp [execOp,go_sem,q0,q1,q2,q3,q4,q5,q6,q7,q8])
    simp only [sX,sY,sZ]
    have HXV:=h_ ((u_ HX6).mono (bR W6.heap.size W6).drew)
    obtain ⟨V,hV⟩:∃ V,W6.drew=V:=⟨_,rfl⟩
    rw [hV] at HXV zz ⊢
    clear hV
    have HFV:=h_ zz
    have hu:V.cell? ⟨Sh,12,none⟩=some u:=(u_ HXV).blk.cell 12
    have HCV:=h_ (u_ HCc x Y V)
    refine wpAnyH_ready (rs:=[4,6]) (by kernel_rfl) (by simp) (consRun (i:=4) (v:=u) (w':=V) 32 rfl rfl (by rfl) (by simp [execOp,go_sem,hu]) zz ?br1 (consCall (i:=6) (f:=51) (args:=#[.agg #[.string x.nm,.int .i64 x.ty,.int .i64 x.lb,.slice Y.b x.bys.length Y.bc,.slice Y.i x.is.length Y.ic,.slice Y.h x.wh.length Y.hc,.slice Y.v x.va.length Y.vc,.string x.sy,.slice Y.u x.mu.length Y.uc]]) (R:=fun v wz=>∃ B,v=ifV (inpB x) B/\V.heap.size<=B/\Blk wz B (ctT (inpB x)) (ctC (inpB x) zCx x Y)/\Below V.heap.size V wz) 34 rfl rfl (by rfl) (by simp [execOp,go_sem]) ((u_ HCV).mono fun e w6 ⟨B,he,h1,h2,h3⟩=>⟨_,he,B,rfl,h1,h2,h3⟩) ?br2 AllReadyH.nil))
    case' br1 =>
     simp only [sX,sY,sZ]
     refine callY (i:=6) (f:=51) (args:=#[.agg #[.string x.nm,.int .i64 x.ty,.int .i64 x.lb,.slice Y.b x.bys.length Y.bc,.slice Y.i x.is.length Y.ic,.slice Y.h x.wh.length Y.hc,.slice Y.v x.va.length Y.vc,.string x.sy,.slice Y.u x.mu.length Y.uc]]) (R:=fun v wz=>∃ B,v=ifV (inpB x) B/\V.heap.size<=B/\Blk wz B (ctT (inpB x)) (ctC (inpB x) zCx x Y)/\Below V.heap.size V wz) 34 rfl rfl (by rfl) (by kernel_rfl) (by simp [execOp,go_sem]) ((u_ HCV).mono fun e w6 ⟨B,he,h1,h2,h3⟩=>⟨_,he,B,rfl,h1,h2,h3⟩) ?_
     rintro v W7 ⟨B,rfl,hB1,hB2,hb7⟩
     refine ⟨(u_ HFV).mono hb7 (u_ HFV).lt,?_⟩
     simp only [sX,sY,sZ]
     have HX7:=h_ ((u_ HXV).mono hb7)
     have hb8:=(bR W7.heap.size W7).alloc (nR _) (.cells #[ifV (inpB x) B] 124)
     have HX8:=h_ ((u_ HX7).mono hb8)
     have HF8:=h_ (((u_ HFV).mono hb7 (u_ HFV).lt).mono hb8 (Nat.lt_of_lt_of_le (u_ HFV).lt hb7.size))
     have HB8:=h_ (hB2.mono hb8 hB2.lt)
     have hBlt:Hid (∀ j,j<k->Bs j<B):=h_ fun j hj=>Nat.lt_of_lt_of_le ((u_ HXV).bx j hj).2.lt hB1
     have hBlo:W1.heap.size<=B:=Nat.le_trans (u_ HXV).base.size hB1
     clear hB1 hB2 hb7
     refine runY (i:=7) (v:=.slice (some ⟨W7.heap.size,0,none⟩) 1 1) (w':=W7.alloc (.cells #[ifV (inpB x) B] 124)) 35 rfl rfl (by rfl) (by kernel_rfl) (by simp [execOp,go_sem,ifV]) (u_ HF8) ?_
     simp only [sX,sY,sZ]
    case' br2 =>
     rintro v W7 ⟨B,rfl,hB1,hB2,hb7⟩
     have hF7:=(u_ HFV).mono hb7 (u_ HFV).lt
     refine ⟨hF7,?_⟩
     simp only [sX,sY,sZ]
     have hu7:W7.cell? ⟨Sh,12,none⟩=some u:=((u_ HXV).mono hb7).blk.cell 12
     have HX7:=h_ ((u_ HXV).mono hb7)
     have hb8:=(bR W7.heap.size W7).alloc (nR _) (.cells #[ifV (inpB x) B] 124)
     have HX8:=h_ ((u_ HX7).mono hb8)
     have HF8:=h_ (((u_ HFV).mono hb7 (u_ HFV).lt).mono hb8 (Nat.lt_of_lt_of_le (u_ HFV).lt hb7.size))
     have HB8:=h_ (hB2.mono hb8 hB2.lt)
     have hBlt:Hid (∀ j,j<k->Bs j<B):=h_ fun j hj=>Nat.lt_of_lt_of_le ((u_ HXV).bx j hj).2.lt hB1
     have hBlo:W1.heap.size<=B:=Nat.le_trans (u_ HXV).base.size hB1
     clear hB1 hB2 hb7
     have hu8:(W7.alloc (.cells #[ifV (inpB x) B] 124)).cell? ⟨Sh,12,none⟩=some u:=(u_ HX8).blk.cell 12
     refine wpAnyH_ready (rs:=[4,7]) (by kernel_rfl) (by simp) (consRun (i:=4) (v:=u) (w':=W7) 32 rfl rfl (by rfl) (by simp [execOp,go_sem,hu7]) hF7 ?b1 (consRun (i:=7) (v:=.slice (some ⟨W7.heap.size,0,none⟩) 1 1) (w':=W7.alloc (.cells #[ifV (inpB x) B] 124)) 35 rfl rfl (by rfl) (by simp [execOp,go_sem,ifV]) (u_ HF8) ?b2 AllReadyH.nil))
    case' b1 =>
     clear hu7 hu8 hF7
     simp only [sX,sY,sZ]
     refine runY (i:=7) (v:=.slice (some ⟨W7.heap.size,0,none⟩) 1 1) (w':=W7.alloc (.cells #[ifV (inpB x) B] 124)) 35 rfl rfl (by rfl) (by kernel_rfl) (by simp [execOp,go_sem,ifV]) (u_ HF8) ?_
     simp only [sX,sY,sZ]
    case' b2 =>
     clear hu7 hF7
     simp only [sX,sY,sZ]
     refine runY (i:=4) (v:=u) (w':=W7.alloc (.cells #[ifV (inpB x) B] 124)) 32 rfl rfl (by rfl) (by kernel_rfl) (by simp [execOp,go_sem,hu8]) (u_ HF8) ?_
     simp only [sX,sY,sZ]
     clear hu8
    all_goals
     refine appY (i:=8) 36 rfl rfl rfl (by kernel_rfl) (.tmp 32) (.tmp 35) 120 rfl W1.heap.size 124 i0 _ 1 16 Tryz.underlying120 hi hz0 hz1 hz2 rfl (by omega) u k (ivL m Bs k) rfl (u_ HX8).row ⟨W7.heap.size,0,none⟩ 1 1 [ifV (inpB x) B] rfl rfl (qdt W7 124 _) (by simp [Value.oneCell',ifV]) (by omega) (by unfold maxLen;omega) (by omega) (u_ HX8).base.size _ rfl ?_
     intro g cap W9 ho hgr _ _
     have kp:∀ {q:Nat} {t:TypeId} {cs:List Value},Blk (W7.alloc (.cells #[ifV (inpB x) B] 124)) q t cs->t ≠ 124->Blk W9 q t cs:=fun h hne=>(hgr.block _ h.lt (fun e=>qjr (u_ HX8).row h hne e.symm rfl)).trans h
     have hSh9:=kp (u_ HX8).blk (by decide)
     have hFn:=kp (u_ HF8) (by decide)
     have hB9:=kp (u_ HB8) (ctT_ne _).1
     have hXS:X ≠ Sh:=ne_ty hFn hSh9 (by decide)
     have HX10:Hid (Shet m ⟨al,alc,ap,apc,ar,arc,(some ⟨fb,fo,none⟩),afc,afa⟩ n F f S W1 Sh (fun j=>if j=k then B else Bs j) (fun _=>zCx) (k+1) (.slice (some ⟨g,0,none⟩) (k+1) cap) pl (W9.setCell ⟨Sh,12,none⟩ (.slice (some ⟨g,0,none⟩) (k+1) cap))):=h_ ⟨((u_ HX8).base.grown hgr (u_ HX8).base.size (fun q e=>q8y (u_ HX8).row e)).setCell (u_ HX8).lo _,(u_ HX8).snd,(u_ HX8).msl,(u_ HX8).lo,fun j hj=>by
      by_cases ej:j=k
      . subst ej
        simp only [if_true]
        rw [u_ HFx]
        refine ⟨hBlo,Blk.other ?_ _ (ne_ty hB9 hSh9 (ctT_ne _).2)⟩
        have:=u_ HYx
        rw [this]
        exact hB9
      . simp only [if_neg ej]
        have h:=(u_ HX8).bx j (by omega)
        have h9:=kp h.2 (ctT_ne _).1
        exact ⟨h.1,Blk.other h9 _ (ne_ty h9 hSh9 (ctT_ne _).2)⟩,fun i j hij hj=>by
      have ei:i ≠ k:=by omega
      simp only [if_neg ei]
      by_cases ej:j=k
      . simp only [if_pos ej]
        exact u_ hBlt i (by omega)
      . simp only [if_neg ej]
        exact (u_ HX8).up i j hij (by omega),hSh9.set 12 _,by
      refine qjq ?_ (fun q e=>heap_setCell_other _ _ _ _ (Ne.symm (qjr ho hSh9 (by decide) e)))
      rw [qeq,qbl (Bs':=Bs) (fun j hj=>by simp only [if_neg (show ¬ j=k by omega)])]
      simp only [if_true]
      rw [u_ HFx]
      exact ho⟩
     refine ⟨hFn,?_⟩
     replace zz:=hFn
     simp only [sX,sY,sZ]
     refine tk 9 37 (.pointer (some ⟨Sh,0,none⟩)) zz ?_
     refine tk 10 38 (.pointer (some ⟨Sh,12,none⟩)) zz ?_
     simp only [sX,sY,sZ]
     refine storeY (i:=11) (w':=W9.setCell ⟨Sh,12,none⟩ (.slice (some ⟨g,0,none⟩) (k+1) cap)) rfl (by rfl) (by kernel_rfl) rfl ?hrunS rfl (Blk.other hFn _ hXS) ?_
     case hrunS =>
      have c:W9.cell? ⟨Sh,12,none⟩=some u:=hSh9.cell 12
      have fz:=hSh9.free 12
      simp [execOp,go_sem,c,fz]
     refine wpAnyH_done (by kernel_rfl) ?_ _
     clear zz ho hgr kp hSh9 hFn hB9 hXS hi hz0 hz1 hz2 hu HCV HFV HX7 HX8 HF8 HB8 hBlt hBlo hb8 HXV HX6
     go_wp2_with fail
     go_roundw
     case rel=>first | exact ⟨k+1,_,_,by omega,by go_num,u_ HX10⟩ | ((repeat apply Exists.intro);exact ⟨⟨k+1,_,_,by omega,by go_num,u_ HX10⟩,rfl⟩)
     case measure=>simp [intOf];omega
  . obtain rfl:k=m.F.length:=by omega
    have hlt':¬ (m.F.length:Int)<(m.F.length:Int):=by omega
    go_wp2_with fail
    first | go_ret2 | go_ret
    exact ⟨S,W1,Sh,rfl,Nat.le_of_lt (by rw [hP];exact hwP),⟨Bs,u,pl,u_ HX⟩,u_ HBw _ (u_ HX).base⟩
theorem Shet.at {m:Fm} {A:MA} {n:Nat} {F:Nat->Bool} {f:Nat->Nat} {S:SF} {WD:World} {Sh:Nat} {Bs:Nat->Nat} {e:Nat->Cx} {K:Nat} {u:Value} {pl:Nat} {W:World} (h:Shet m A n F f S WD Sh Bs e K u pl W) {k:Nat} (hk:k<K):∃ q cp,u=.slice (some ⟨q,0,none⟩) K cp/\W.cell? ⟨q,k,none⟩=some (ifV (inpB (fAt m k)) (Bs k))/\q ≠ Bs k:=by
 rcases h.row.2 with ⟨-,h0⟩ | ⟨q,cap,cur,rfl,-,hq,-,-,hs,ht⟩
 . omega
 . refine ⟨q,cap,rfl,?_,fun e=>?_⟩
   . have e2:=qip (m:=m) (Bs:=Bs) hk
     rw [<- ht,List.getElem?_take_of_lt (by omega)] at e2
     simp only [World.cell?,hq]
     simpa using e2
   . exact ne_ty (h.bx k hk).2 hq (ctT_ne _).1 e.symm
theorem Shet.slice {m:Fm} {A:MA} {n:Nat} {F:Nat->Bool} {f:Nat->Nat} {S:SF} {WD:World} {Sh:Nat} {Bs:Nat->Nat} {e:Nat->Cx} {K:Nat} {u:Value} {pl:Nat} {W:World} (h:Shet m A n F f S WD Sh Bs e K u pl W):∃ a cp,u=.slice a K cp:=by
 rcases h.row.2 with ⟨e,h0⟩ | ⟨q,cap,cur,e,-⟩
 . exact ⟨none,0,by rw [e,h0]⟩
 . exact ⟨_,_,e⟩
theorem qej (p:Option Addr) (w:World):Calls Tryz.prog 260 #[.pointer p] w fun x w'=>x=.returned (.pointer p)/\w'=w:=by
 go_enter Tryz.func260,Tryz.ntmps260
 go_wp2_with fail
 go_ret
 exact ⟨rfl,rfl⟩
theorem head_m (i:Bool) (B fuel:Nat) (hf:0<fuel) (W:World):(method fuel (ctP i) (.pointer (some ⟨B,0,none⟩)) "loop.example/s0011/impl.head").run Tryz.prog W=.ok (260,.pointer (some ⟨B,0,none⟩)) W:=by
 cases fuel with
 | zero=>omega
 | succ d=>cases i <;> kernel_rfl
def belB (n:Nat) (F:Nat->Bool) (t k x:Nat):Bool:=decide (x<k)&&F (x*n+t)
theorem qhg {n:Nat} {F:Nat->Bool} {t k:Nat} (h:F (k*n+t)=false) (x:Nat):belB n F t (k+1) x=belB n F t k x:=by
 unfold belB
 by_cases e:x=k
 . subst e;simp [h]
 . have:decide (x<k+1)=decide (x<k):=by by_cases h1:x<k <;> simp [h1] <;> omega
   rw [this]
theorem qdr {n:Nat} {F:Nat->Bool} {t k s:Nat} (h:F (k*n+t)=true) (hs:∀ x,s.testBit x=belB n F t k x) (x:Nat):(s ||| 2 ^ k).testBit x=belB n F t (k+1) x:=by
 rw [Nat.testBit_or,hs x,Nat.testBit_two_pow]
 unfold belB
 by_cases e:x=k
 . subst e;simp [h]
 . have e':¬ k=x:=fun h=>e h.symm
   have:decide (x<k+1)=decide (x<k):=by by_cases h1:x<k <;> simp [h1] <;> omega
   rw [this]
   simp [e']
theorem q19 (m:Fm) (A:MA) (n:Nat) (F:Nat->Bool) (f:Nat->Nat) (S:SF) (WD:World) (Sh:Nat) (Bs:Nat->Nat) (u:Value) (pl t:Nat) (e:Nat->Cx) (w:World) (hn:n<=32) (ht:t<n) (hX:Shet m A n F f S WD Sh Bs e m.F.length u pl w) :
 Calls Tryz.prog 57 #[.pointer (some ⟨Sh,0,none⟩),.int .i64 t] w fun x w'=>∃ s:Nat,x=.returned (.agg #[.int .u32 (s:Int)])/\s<4294967296/\(∀ x,s.testBit x=belB n F t n x)/\Below w.heap.size w w':=by
 obtain ⟨b,bt,top,a1,a2,a3,c1,c2,c3,a5,c5,hSe,-,hBo,-⟩:=hX.snd
 have HBo:=h_ (hBo.mono hX.base)
 have HX:=h_ hX
 have y5:w.cell? ⟨Sh,5,none⟩=some (.int .i64 n):=(hX.blk.cell 5).trans (by rw [hSe];rfl)
 have HY6:Hid (∀ W,Blk W Sh 122 (sfC S++[u,Value.map (some pl)])->W.cell? ⟨Sh,5,none⟩=some (.int .i64 n)/\W.cell? ⟨Sh,6,none⟩=some (.slice a1 (n*n) c1)):=h_ fun W h=>⟨(h.cell 5).trans (by rw [hSe];rfl),(h.cell 6).trans (by rw [hSe];rfl)⟩
 clear hBo hSe
 have HR:=h_ ((Blk.new w 137 #[.int .u32 0]).alloc (.cells #[.int .u32 0] 137))
 have HO:=h_ (Blk.new (w.alloc (.cells #[.int .u32 0] 137)) 137 #[.int .u32 0])
 rw [World.size_alloc] at HO
 have HB:=h_ (((bR w.heap.size w).alloc (nR _) (.cells #[.int .u32 0] 137)).alloc (by simp) (.cells #[.int .u32 0] 137))
 have z5:((w.alloc (.cells #[.int .u32 0] 137)).alloc (.cells #[.int .u32 0] 137)).cell? ⟨Sh,5,none⟩=some (.int .i64 n):=((u_ HB).cell (p:=⟨Sh,5,none⟩) hX.blk.lt).trans y5
 have hlS:=hX.blk.lt
 clear hX
 go_enter Tryz.func57,Tryz.ntmps57
 go_wp2_with fail
 clear z5 y5 hlS
 go_loopw [14] (fun i wr=>∃ (k s:Nat),k<=n/\i=.int .i64 k/\s<4294967296/\(∀ x,s.testBit x=belB n F t k x)/\Blk wr (w.heap.size+1) 137 [.int .u32 (s:Int)]/\Blk wr w.heap.size 137 [.int .u32 0]/\Below w.heap.size w wr) (fun i _=>n - (intOf i).toNat)
 case atStart=>exact ⟨0,0,nZ _,rfl,by decide,fun x=>by simp [belB],u_ HO,u_ HR,u_ HB⟩
 case round =>
  clear HO HR HB
  obtain ⟨k,s,hk,rfl,hs,hT,hO,hR,hB⟩:=hrel
  have HT:=h_ hT;have HO:=h_ hO;have HR:=h_ hR;have HB:=h_ hB
  have HXr:=h_ ((u_ HX).mono hB)
  clear hT hO hR hB
  by_cases hlt:k<n
  . have hlt':(k:Int)<n:=by omega
    obtain ⟨hidx,hw1,hw2,hidx',hidx2⟩:=qbe hlt ht hn
    obtain ⟨b1,o1,e1,hb1,z1⟩:=((u_ HBo).mono (u_ HB)) _ hidx
    obtain ⟨vb,hvb⟩:∃ vb,F (k*n+t)=vb:=⟨_,rfl⟩
    rw [hvb] at z1
    have HNo:Hid (vb=false->∀ x,s.testBit x=belB n F t (k+1) x):=h_ fun h x=>by rw [qhg (hvb.trans h)];exact u_ HT x
    have HYes:Hid (vb=true->∀ x,(s ||| 2 ^ k).testBit x=belB n F t (k+1) x):=h_ fun h x=>qdr (hvb.trans h) (u_ HT) x
    have h2k:2 ^ k<4294967296:=by have:=Nat.pow_lt_pow_right (a:=2) (by decide) (show k<32 by omega);simpa using this
    have HS2:Hid (s ||| 2 ^ k<4294967296):=h_ (Nat.or_lt_two_pow (n:=32) hs h2k)
    clear hvb hb1
    generalize k*n+t=q1 at *
    generalize k*n=q2 at *
    subst e1
    go_wp2_with fail
    refine wp_region_held_drew (S:=fun w'=>Blk w' Sh 122 (sfC S++[u,Value.map (some pl)])/\w'.cell? ⟨b1,o1+q1,none⟩=some (Value.bool vb)) (by kernel_rfl) ⟨(u_ HXr).blk,z1⟩ (fun zz=>?_)
    refine tk 0 17 (.pointer (some ⟨Sh,0,none⟩)) zz ?_
    refine tk 1 18 (.pointer (some ⟨Sh,0,none⟩)) zz ?_
    refine tk 2 19 (.pointer (some ⟨Sh,0,none⟩)) zz ?_
    refine tk 3 20 (.pointer (some ⟨Sh,5,none⟩)) zz ?_
    simp only [sX,sY,sZ]
    refine tk 4 21 (.pointer (some ⟨Sh,6,none⟩)) zz ?_
    refine tk 5 22 (.slice (some ⟨b1,o1,none⟩) (n*n) c1) zz ?_ (hy:=fun w hS=>by have q0:=(u_ HY6 _ hS.1).2;simp [execOp,go_sem,q0])
    refine tk 6 23 (.int .i64 k) zz ?_
    refine tk 7 24 (.pointer (some ⟨Sh,0,none⟩)) zz ?_
    simp only [sX,sY,sZ]
    refine tk 8 25 (.pointer (some ⟨Sh,0,none⟩)) zz ?_
    refine tk 9 26 (.pointer (some ⟨Sh,0,none⟩)) zz ?_
    refine tk 10 27 (.pointer (some ⟨Sh,5,none⟩)) zz ?_
    refine tk 11 28 (.pointer (some ⟨Sh,5,none⟩)) zz ?_
    simp only [sX,sY,sZ]
    refine tk 12 29 (.int .i64 n) zz ?_ (hy:=fun w hS=>by have q0:=(u_ HY6 _ hS.1).1;simp [execOp,go_sem,q0])
    refine tk 13 30 (.int .i64 q2) zz ?_ (hy:=fun w hS=>by simp [execOp,go_sem];exact (IntWalk.i64_left _).trans hw1)
    refine tk 14 31 (.int .i64 t) zz ?_
    refine tk 15 32 (.int .i64 q1) zz ?_ (hy:=fun w hS=>by simp [execOp,go_sem];exact (IntWalk.i64_left _).trans hw2)
    simp only [sX,sY,sZ]
    refine tk 16 33 (.pointer (some ⟨b1,o1+q1,none⟩)) zz ?_
    refine tk 17 34 (.bool vb) zz ?_ (hy:=fun w hS=>by have q0:=hS.2;simp [execOp,go_sem,q0])
    simp only [sX,sY,sZ]
    refine wpAnyH_done (by kernel_rfl) ?_ _
    have hbd:=(bR wr.heap.size wr).drew
    replace HXr:=h_ ((u_ HXr).mono hbd);replace HO:=mB HO hbd;replace HR:=mB HR hbd;replace HB:=mT HB hbd
    clear zz hbd z1
    generalize wr.drew=V at *
    cases vb
    . have HT2:=h_ (u_ HNo rfl)
      go_wp2_with fail
      go_roundw
      case rel=>first | exact ⟨k+1,s,by omega,by go_num,hs,u_ HT2,u_ HO,u_ HR,u_ HB⟩ | ((repeat apply Exists.intro);exact ⟨⟨k+1,s,by omega,by go_num,hs,u_ HT2,u_ HO,u_ HR,u_ HB⟩,rfl⟩)
      case measure=>simp [intOf];omega
    have HT2:=h_ (u_ HYes rfl)
    go_wp2_with fail
    refine wp_region_held_drew (S:=fun _=>True) (by kernel_rfl) trivial (fun zz=>?_)
    refine tk 1 36 (.int .i64 k) zz ?_
    simp only [sX,sY,sZ]
    have hbd:=(bR V.heap.size V).drew
    replace HXr:=h_ ((u_ HXr).mono hbd);replace HO:=mB HO hbd;replace HR:=mB HR hbd;replace HB:=mT HB hbd
    obtain ⟨U,hU⟩:∃ U,V.drew=U:=⟨_,rfl⟩
    rw [hU] at HXr HO HR HB ⊢
    clear hbd hU
    have c0:U.cell? ⟨w.heap.size+1,0,none⟩=some (.int .u32 (s:Int)):=(u_ HO).cell 0
    refine wpAnyH_ready (rs:=[0,2]) (by kernel_rfl) (by simp) (consRun (i:=0) (v:=.agg #[.int .u32 (s:Int)]) (w':=U) 35 rfl rfl (by rfl) (by simp [execOp,go_sem,c0]) trivial ?pA (consCall (i:=2) (f:=92) (args:=#[.int .i64 k]) (R:=fun v wz=>v=.agg #[.int .u32 ((2 ^ k:Nat):Int)]/\Below U.heap.size U wz) 37 rfl rfl (by rfl) (by simp [execOp,go_sem]) (qc4 k U (by omega)) ?pB AllReadyH.nil))
    case pA =>
     clear c0
     simp only [sX,sY,sZ]
     refine callY (i:=2) (f:=92) (args:=#[.int .i64 k]) (R:=fun v wz=>v=.agg #[.int .u32 ((2 ^ k:Nat):Int)]/\Below U.heap.size U wz) 37 rfl rfl (by rfl) (by kernel_rfl) (by simp [execOp,go_sem]) (qc4 k U (by omega)) ?_
     rintro v W6 ⟨rfl,hb6⟩
     have O6:=(u_ HO).mono hb6 (u_ HO).lt;have R6:=(u_ HR).mono hb6 (u_ HR).lt;have X6:=(u_ HXr).mono hb6;have B6:=(u_ HB).trans (hb6.mono (u_ HB).size)
     refine ⟨trivial,?_⟩
     simp only [sX,sY,sZ]
     refine callY (i:=3) (f:=91) (args:=#[.agg #[.int .u32 (s:Int)],.agg #[.int .u32 ((2 ^ k:Nat):Int)]]) (R:=fun v wz=>v=.agg #[.int .u32 ((s ||| 2 ^ k:Nat):Int)]/\Below W6.heap.size W6 wz) 38 rfl rfl (by rfl) (by kernel_rfl) (by simp [execOp,go_sem]) (q6z s (2 ^ k) W6 hs h2k) ?_
     rintro v W7 ⟨rfl,hb7⟩
     have O7:=O6.mono hb7 O6.lt;have R7:=R6.mono hb7 R6.lt;have X7:=X6.mono hb7;have B7:=B6.trans (hb7.mono B6.size)
     refine ⟨trivial,?_⟩
     simp only [sX,sY,sZ]
     have c7:W7.cell? ⟨w.heap.size+1,0,none⟩=some (.int .u32 (s:Int)):=O7.cell 0
     have f7:=O7.free 0
     obtain ⟨vv,hvv⟩:∃ vv,(s ||| 2 ^ k)=vv:=⟨_,rfl⟩
     have HV:=h_ hvv
     rw [hvv]
     clear hvv
     refine storeY (i:=4) (w':=W7.setCell ⟨w.heap.size+1,0,none⟩ (.int .u32 (vv:Int))) rfl (by rfl) (by kernel_rfl) rfl (by simp [execOp,go_sem,c7,f7]) rfl trivial ?_
     refine wpAnyH_done (by kernel_rfl) ?_ _
     have HO8:=h_ (O7.set 0 (.int .u32 (vv:Int)));have HR8:=h_ (R7.other (a:=⟨w.heap.size+1,0,none⟩) (.int .u32 (vv:Int)) (by show _ ≠ w.heap.size+1;omega));have HB8:=h_ (B7.setCell (p:=⟨w.heap.size+1,0,none⟩) (by show _<=w.heap.size+1;omega) (.int .u32 (vv:Int)))
     simp only [List.set_cons_zero] at HO8
     clear O6 R6 X6 B6 O7 R7 X7 B7 c7 f7 hb7
     generalize W7.setCell ⟨w.heap.size+1,0,none⟩ (.int .u32 (vv:Int))=W8 at *
     go_wp2_with fail
     go_roundw
     case rel=>first | exact ⟨k+1,vv,by omega,by go_num,by rw [<- u_ HV];exact u_ HS2,by rw [<- u_ HV];exact u_ HT2,u_ HO8,u_ HR8,u_ HB8⟩ | ((repeat apply Exists.intro);exact ⟨⟨k+1,vv,by omega,by go_num,by rw [<- u_ HV];exact u_ HS2,by rw [<- u_ HV];exact u_ HT2,u_ HO8,u_ HR8,u_ HB8⟩,rfl⟩)
     case measure=>simp [intOf];omega
    case pB =>
     clear c0
     rintro v W6 ⟨rfl,hb6⟩
     have O6:=(u_ HO).mono hb6 (u_ HO).lt;have R6:=(u_ HR).mono hb6 (u_ HR).lt;have X6:=(u_ HXr).mono hb6;have B6:=(u_ HB).trans (hb6.mono (u_ HB).size)
     have c6:W6.cell? ⟨w.heap.size+1,0,none⟩=some (.int .u32 (s:Int)):=O6.cell 0
     refine ⟨trivial,?_⟩
     simp only [sX,sY,sZ]
     refine runY (i:=0) (v:=.agg #[.int .u32 (s:Int)]) (w':=W6) 35 rfl rfl (by rfl) (by kernel_rfl) (by simp [execOp,go_sem,c6]) trivial ?_
     simp only [sX,sY,sZ]
     clear c6
     refine callY (i:=3) (f:=91) (args:=#[.agg #[.int .u32 (s:Int)],.agg #[.int .u32 ((2 ^ k:Nat):Int)]]) (R:=fun v wz=>v=.agg #[.int .u32 ((s ||| 2 ^ k:Nat):Int)]/\Below W6.heap.size W6 wz) 38 rfl rfl (by rfl) (by kernel_rfl) (by simp [execOp,go_sem]) (q6z s (2 ^ k) W6 hs h2k) ?_
     rintro v W7 ⟨rfl,hb7⟩
     have O7:=O6.mono hb7 O6.lt;have R7:=R6.mono hb7 R6.lt;have X7:=X6.mono hb7;have B7:=B6.trans (hb7.mono B6.size)
     refine ⟨trivial,?_⟩
     simp only [sX,sY,sZ]
     have c7:W7.cell? ⟨w.heap.size+1,0,none⟩=some (.int .u32 (s:Int)):=O7.cell 0
     have f7:=O7.free 0
     obtain ⟨vv,hvv⟩:∃ vv,(s ||| 2 ^ k)=vv:=⟨_,rfl⟩
     have HV:=h_ hvv
     rw [hvv]
     clear hvv
     refine storeY (i:=4) (w':=W7.setCell ⟨w.heap.size+1,0,none⟩ (.int .u32 (vv:Int))) rfl (by rfl) (by kernel_rfl) rfl (by simp [execOp,go_sem,c7,f7]) rfl trivial ?_
     refine wpAnyH_done (by kernel_rfl) ?_ _
     have HO8:=h_ (O7.set 0 (.int .u32 (vv:Int)));have HR8:=h_ (R7.other (a:=⟨w.heap.size+1,0,none⟩) (.int .u32 (vv:Int)) (by show _ ≠ w.heap.size+1;omega));have HB8:=h_ (B7.setCell (p:=⟨w.heap.size+1,0,none⟩) (by show _<=w.heap.size+1;omega) (.int .u32 (vv:Int)))
     simp only [List.set_cons_zero] at HO8
     clear O6 R6 X6 B6 O7 R7 X7 B7 c7 f7 hb7
     generalize W7.setCell ⟨w.heap.size+1,0,none⟩ (.int .u32 (vv:Int))=W8 at *
     go_wp2_with fail
     go_roundw
     case rel=>first | exact ⟨k+1,vv,by omega,by go_num,by rw [<- u_ HV];exact u_ HS2,by rw [<- u_ HV];exact u_ HT2,u_ HO8,u_ HR8,u_ HB8⟩ | ((repeat apply Exists.intro);exact ⟨⟨k+1,vv,by omega,by go_num,by rw [<- u_ HV];exact u_ HS2,by rw [<- u_ HV];exact u_ HT2,u_ HO8,u_ HR8,u_ HB8⟩,rfl⟩)
     case measure=>simp [intOf];omega
  . obtain rfl:k=n:=by omega
    have hlt':¬ (k:Int)<(k:Int):=by omega
    obtain o0:=(u_ HO).cell 0
    simp only [List.getElem?_cons_zero] at o0
    have r0:=(u_ HR).cell 0
    simp only [List.getElem?_cons_zero] at r0
    have f0:=(u_ HR).free 0
    have HR9:=h_ ((u_ HR).set 0 (.int .u32 (s:Int)))
    simp only [List.set_cons_zero] at HR9
    have HB9:=h_ ((u_ HB).setCell (p:=⟨w.heap.size,0,none⟩) (nR _) (.int .u32 (s:Int)))
    go_wp2_with fail
    have k0:=(u_ HR9).cell 0
    simp only [List.getElem?_cons_zero] at k0
    exact bodyPost_ret (v:=.agg #[.int .u32 (s:Int)]) (by simp [results,Tryz.results57,go_sem,k0]) rfl ⟨s,rfl,hs,u_ HT,u_ HB9⟩
def seeV (Cb Sb:Nat):Value:=.func (.func 58) #[] #[.pointer (some ⟨Cb,0,none⟩),.pointer (some ⟨Sb,0,none⟩)]
def vwV (r:Int) (Cb Sb:Nat):Value:=.agg #[.int .i64 r,seeV Cb Sb]
structure Vwr (n:Nat) (F:Nat->Bool) (t Sh Cb Sb s:Nat) (W:World):Prop where
 lt:s<4294967296
 bit:∀ x,s.testBit x=belB n F t n x
 cb:Blk W Cb 137 [.int .u32 (s:Int)]
 sb:Blk W Sb 66 [.pointer (some ⟨Sh,0,none⟩)]
theorem Vwr.mono {n:Nat} {F:Nat->Bool} {t Sh Cb Sb s:Nat} {W W':World} (h:Vwr n F t Sh Cb Sb s W) (hb:Below W.heap.size W W'):Vwr n F t Sh Cb Sb s W':=⟨h.lt,h.bit,h.cb.mono hb h.cb.lt,h.sb.mono hb h.sb.lt⟩
theorem qga (m:Fm) (A:MA) (n:Nat) (F:Nat->Bool) (f:Nat->Nat) (S:SF) (WD:World) (Sh:Nat) (Bs:Nat->Nat) (u:Value) (pl r k Cb Sb s:Nat) (e:Nat->Cx) (w:World) (hn:n<=32) (hk:k<m.F.length) (s1:Sol m n (fun a b=>F (a*n+b)=true) f) (hX:Shet m A n F f S WD Sh Bs e m.F.length u pl w) (hV:Vwr n F (rlb m r) Sh Cb Sb s w) :
 Calls Tryz.prog 58 #[.int .i64 k,.pointer (some ⟨Cb,0,none⟩),.pointer (some ⟨Sb,0,none⟩)] w fun x w'=>x=.returned (.bool (seesB m n F f r k))/\Below w.heap.size w w':=by
 obtain ⟨b,bt,top,a1,a2,a3,c1,c2,c3,a5,c5,hSe,-,-,hPl⟩:=hX.snd
 obtain ⟨b5,o5,e5,hb5,z5⟩:=hPl.at k (by rw [qj7];exact hk)
 rw [qj6] at z5
 have z5':=(hX.base.cell (p:=⟨b5,o5+k,none⟩) hb5).trans z5
 have hfk:=s1.lt k hk
 have HSe:Hid (s.testBit (f k)=seesB m n F f r k):=h_ (by rw [hV.bit];unfold belB seesB;rw [decide_eq_true hfk,Bool.true_and])
 have HY:Hid (∀ W,Blk W Sh 122 (sfC S++[u,Value.map (some pl)])->W.cell? ⟨Sh,11,none⟩=some (.slice a5 m.F.length c5)):=h_ fun W h=>(h.cell 11).trans (by rw [hSe];rfl)
 have hk':(k:Int)<m.F.length:=by omega
 have hlt:=hV.lt
 have HC:=h_ fun W=>qif s (f k) W hlt (by omega)
 have hb5':=Nat.lt_of_lt_of_le hb5 hX.base.size
 clear hSe hPl hb5 z5
 subst e5
 go_enter Tryz.func58,Tryz.ntmps58
 go_wp2_with fail
 refine wp_region_held_drew (S:=fun w'=>Blk w' Sh 122 (sfC S++[u,Value.map (some pl)])/\w'.cell? ⟨b5,o5+k,none⟩=some (Value.int .i64 (f k))/\w'.cell? ⟨Cb,0,none⟩=some (Value.int .u32 (s:Int))/\w'.cell? ⟨Sb,0,none⟩=some (Value.pointer (some ⟨Sh,0,none⟩))) (by kernel_rfl) ⟨hX.blk,z5',hV.cb.cell 0,hV.sb.cell 0⟩ (fun zz=>?_)
 generalize hfk0:f k=fk at *
 refine tk 0 5 (.agg #[.int .u32 (s:Int)]) zz ?_ (hy:=fun w hS=>by have q0:=hS.2.2.1;simp [execOp,go_sem,q0])
 refine tk 1 6 (.pointer (some ⟨Sh,0,none⟩)) zz ?_ (hy:=fun w hS=>by have q0:=hS.2.2.2;simp [execOp,go_sem,q0])
 refine tk 2 7 (.pointer (some ⟨Sh,0,none⟩)) zz ?_
 refine tk 3 8 (.pointer (some ⟨Sh,0,none⟩)) zz ?_
 simp only [sX,sY,sZ]
 refine tk 4 9 (.pointer (some ⟨Sh,11,none⟩)) zz ?_
 refine tk 5 10 (.slice (some ⟨b5,o5,none⟩) m.F.length c5) zz ?_ (hy:=fun w hS=>by have q0:=u_ HY _ hS.1;simp [execOp,go_sem,q0])
 refine tk 6 11 (.int .i64 k) zz ?_
 refine tk 7 12 (.pointer (some ⟨b5,o5+k,none⟩)) zz ?_
 simp only [sX,sY,sZ]
 refine tk 8 13 (.int .i64 fk) zz ?_ (hy:=fun w hS=>by have q0:=hS.2.1;simp [execOp,go_sem,q0])
 simp only [sX,sY,sZ]
 refine callY (i:=9) (f:=59) (args:=#[.agg #[.int .u32 (s:Int)],.int .i64 fk]) (R:=fun v wz=>v=.bool (s.testBit fk)/\Below w.heap.size w wz) 14 rfl rfl (by rfl) (by kernel_rfl) (by simp [execOp,go_sem]) ((u_ HC w.drew).mono fun e w6 ⟨he,hw⟩=>⟨_,he,rfl,by rw [hw];exact (bR w.heap.size w).drew.alloc (nR _) _⟩) ?_
 rintro v W7 ⟨rfl,hb⟩
 have HB:=h_ hb
 replace zz:Blk W7 Sh 122 (sfC S++[u,Value.map (some pl)])/\W7.cell? ⟨b5,o5+k,none⟩=some (Value.int .i64 fk)/\W7.cell? ⟨Cb,0,none⟩=some (Value.int .u32 (s:Int))/\W7.cell? ⟨Sb,0,none⟩=some (Value.pointer (some ⟨Sh,0,none⟩)):=⟨hX.blk.mono hb hX.blk.lt,(hb.cell (p:=⟨b5,o5+k,none⟩) hb5').trans z5',(hV.cb.mono hb hV.cb.lt).cell 0,(hV.sb.mono hb hV.sb.lt).cell 0⟩
 refine ⟨zz,?_⟩
 simp only [sX,sY,sZ]
 refine tk 10 4 (.bool (s.testBit fk)) zz ?_
 simp only [sX,sY,sZ]
 refine wpAnyH_done (by kernel_rfl) ?_ _
 clear zz hb
 go_wp2_with fail
 go_ret
 rw [<- u_ HSe]
 exact ⟨rfl,u_ HB⟩
theorem q4m (m:Fm) (A:MA) (n:Nat) (F:Nat->Bool) (f:Nat->Nat) (S:SF) (WD:World) (Sh:Nat) (Bs:Nat->Nat) (u:Value) (pl r:Nat) (e:Nat->Cx) (w:World) (hv:VfA m) (hN:m.L.length=n) (hn:n<=32) (hr:r<m.R.length) (hX:Shet m A n F f S WD Sh Bs e m.F.length u pl w) :
 Calls Tryz.prog 31 #[.pointer (some ⟨Sh,0,none⟩),.int .i64 r] w fun x w'=>∃ Cb Sb s,x=.returned (vwV r Cb Sb)/\Vwr n F (rlb m r) Sh Cb Sb s w'/\Below w.heap.size w w':=by
 obtain ⟨b,bt,top,a1,a2,a3,c1,c2,c3,a5,c5,hSe,-,-,-⟩:=hX.snd
 obtain ⟨hlb,hlb2⟩:=qg2 hv hr
 rw [hN] at hlb2
 obtain ⟨b2,o2,e2,hb2,-,z2⟩:=hX.msl.r r hr
 rw [hlb] at z2
 have HY:Hid (∀ W,Blk W Sh 122 (sfC S++[u,Value.map (some pl)])->W.cell? ⟨Sh,2,none⟩=some (.slice A.r m.R.length A.rc)):=h_ fun W h=>(h.cell 2).trans (by rw [hSe];rfl)
 have HCl:=h_ fun W (h:Shet m A n F f S WD Sh Bs e m.F.length u pl W)=>q19 m A n F f S WD Sh Bs u pl (rlb m r) e W hn hlb2 h
 have hr':(r:Int)<m.R.length:=by omega
 have HZ2:Hid (∀ W,Below WD.heap.size WD W->W.cell? ⟨b2,o2+r*2+1,none⟩=some (.int .i64 (rlb m r))):=h_ fun W h=>(h.cell (p:=⟨b2,o2+r*2+1,none⟩) hb2).trans z2
 have HX0:=h_ hX
 have hR0:=(Blk.new (w.alloc (.cells #[.pointer (some ⟨Sh,0,none⟩)] 66)) 73 #[.int .i64 0,.nilFunc])
 rw [World.size_alloc] at hR0
 have hSb:=(Blk.new w 66 #[.pointer (some ⟨Sh,0,none⟩)]).alloc (.cells #[.int .i64 0,.nilFunc] 73)
 have hB0:=((bR w.heap.size w).alloc (nR _) (.cells #[.pointer (some ⟨Sh,0,none⟩)] 66)).alloc (by simp) (.cells #[.int .i64 0,.nilFunc] 73)
 obtain ⟨W0,hW0⟩:∃ W0,(w.alloc (.cells #[.pointer (some ⟨Sh,0,none⟩)] 66)).alloc (.cells #[.int .i64 0,.nilFunc] 73)=W0:=⟨_,rfl⟩
 rw [hW0] at hR0 hSb hB0
 have HR:=h_ hR0;have HSb:=h_ hSb;have HB:=h_ hB0
 have HX:=h_ ((u_ HX0).mono hB0)
 clear hSe hlb hb2 z2 hX hR0 hSb hB0 HX0
 go_enter Tryz.func31,Tryz.ntmps31
 go_wp2_with fail
 try rw [hW0]
 clear hW0
 refine wp_region_held_drew (S:=fun w'=>Blk w' Sh 122 (sfC S++[u,Value.map (some pl)])/\Below WD.heap.size WD w'/\Blk w' w.heap.size 66 [Value.pointer (some ⟨Sh,0,none⟩)]) (by kernel_rfl) ⟨(u_ HX).blk,(u_ HX).base.drew,u_ HSb⟩ (fun zz=>?_)
 rw [e2] at HY
 refine tk 0 6 (.pointer (some ⟨Sh,0,none⟩)) zz ?_ (hy:=fun w hS=>by have q0:=hS.2.2.cell 0;simp only [List.getElem?_cons_zero] at q0;simp [execOp,go_sem,q0])
 refine tk 1 7 (.pointer (some ⟨Sh,0,none⟩)) zz ?_ (hy:=fun w hS=>by have q0:=hS.2.2.cell 0;simp only [List.getElem?_cons_zero] at q0;simp [execOp,go_sem,q0])
 refine tk 2 8 (.pointer (some ⟨Sh,0,none⟩)) zz ?_
 refine tk 3 9 (.pointer (some ⟨Sh,0,none⟩)) zz ?_
 simp only [sX,sY,sZ]
 refine tk 4 10 (.pointer (some ⟨Sh,0,none⟩)) zz ?_
 refine tk 5 11 (.pointer (some ⟨Sh,0,none⟩)) zz ?_
 refine tk 6 12 (.pointer (some ⟨Sh,2,none⟩)) zz ?_
 refine tk 7 13 (.slice (some ⟨b2,o2,none⟩) m.R.length A.rc) zz ?_ (hy:=fun w hS=>by have q0:=u_ HY _ hS.1;simp [execOp,go_sem,q0])
 simp only [sX,sY,sZ]
 refine tk 8 14 (.int .i64 r) zz ?_
 refine tk 9 15 (.pointer (some ⟨b2,o2+r*2,none⟩)) zz ?_
 refine tk 10 16 (.pointer (some ⟨b2,o2+r*2+1,none⟩)) zz ?_
 refine tk 11 17 (.int .i64 (rlb m r)) zz ?_ (hy:=fun w hS=>by have q0:=u_ HZ2 _ hS.2.1;simp [execOp,go_sem,q0])
 simp only [sX,sY,sZ]
 have HXV:=h_ ((u_ HX).mono (bR W0.heap.size W0).drew)
 obtain ⟨V,hV⟩:∃ V,W0.drew=V:=⟨_,rfl⟩
 have HRV:Hid (Blk V (w.heap.size+1) 73 [.int .i64 0,.nilFunc]):=h_ (by rw [<- hV];exact u_ HR)
 have HSV:Hid (Blk V w.heap.size 66 [.pointer (some ⟨Sh,0,none⟩)]):=h_ (by rw [<- hV];exact u_ HSb)
 have HBV:Hid (Below w.heap.size w V):=h_ (by rw [<- hV];exact (u_ HB).drew)
 rw [hV] at HXV zz ⊢
 clear hV HX HR HSb HB
 refine wpAnyH_ready (rs:=[12,13]) (by kernel_rfl) (by simp) (consCall (i:=12) (f:=57) (args:=#[.pointer (some ⟨Sh,0,none⟩),.int .i64 (rlb m r)]) (R:=fun v wz=>∃ s:Nat,v=.agg #[.int .u32 (s:Int)]/\s<4294967296/\(∀ x,s.testBit x=belB n F (rlb m r) n x)/\Below V.heap.size V wz) 18 rfl rfl (by rfl) (by simp [execOp,go_sem]) ((u_ HCl V (u_ HXV)).mono fun e w6 ⟨s,he,h1,h2,h3⟩=>⟨_,he,s,rfl,h1,h2,h3⟩) ?pA (consRun (i:=13) (v:=.pointer (some ⟨V.heap.size,0,none⟩)) (w':=V.alloc (.cells #[.int .u32 0] 137)) 5 rfl rfl (by rfl) (by simp [execOp,go_sem]) ⟨zz.1.mono ((bR V.heap.size V).alloc (nR _) _) zz.1.lt,((u_ HXV).mono ((bR V.heap.size V).alloc (nR _) _)).base,zz.2.2.mono ((bR V.heap.size V).alloc (nR _) _) zz.2.2.lt⟩ ?pB AllReadyH.nil))
 case' pA =>
  rintro v W7 ⟨s,rfl,hs1,hs2,hb⟩
  have hX7:=(u_ HXV).mono hb
  have hS7:=(u_ HSV).mono hb (u_ HSV).lt
  refine ⟨⟨hX7.blk,hX7.base,hS7⟩,?_⟩
  simp only [sX,sY,sZ]
  have hba:=(bR W7.heap.size W7).alloc (nR _) (.cells #[.int .u32 0] 137)
  have hX8:=hX7.mono hba
  have hS8:=hS7.mono hba hS7.lt
  have hR7:=(u_ HRV).mono hb (u_ HRV).lt
  have hR8:=hR7.mono hba hR7.lt
  have hB7:=(u_ HBV).trans (hb.mono (u_ HBV).size)
  have hB8:=hB7.trans (hba.mono hB7.size)
  have hC8:=Blk.new W7 137 #[.int .u32 0]
  have hCb:V.heap.size<=W7.heap.size:=hb.size
  refine runY (i:=13) (v:=.pointer (some ⟨W7.heap.size,0,none⟩)) (w':=W7.alloc (.cells #[.int .u32 0] 137)) 5 rfl rfl (by rfl) (by kernel_rfl) (by simp [execOp,go_sem]) ⟨hX8.blk,hX8.base,hS8⟩ ?_
  simp only [sX,sY,sZ]
  clear hb hba hX7 hS7 hR7 hB7
  generalize W7.heap.size=Cb at *
  generalize W7.alloc (.cells #[.int .u32 0] 137)=W8 at *
 case' pB =>
  simp only [sX,sY,sZ]
  have hba:=(bR V.heap.size V).alloc (nR _) (.cells #[.int .u32 0] 137)
  have hXa:=(u_ HXV).mono hba
  have hC7:=Blk.new V 137 #[.int .u32 0]
  have hSa:=(u_ HSV).mono hba (u_ HSV).lt
  have hRa:=(u_ HRV).mono hba (u_ HRV).lt
  have hBa:=(u_ HBV).trans (hba.mono (u_ HBV).size)
  obtain ⟨Va,hVa⟩:∃ Va,V.alloc (.cells #[.int .u32 0] 137)=Va:=⟨_,rfl⟩
  obtain ⟨Cb,hCe⟩:∃ Cb,V.heap.size=Cb:=⟨_,rfl⟩
  rw [hVa] at hXa hC7 hSa hRa hBa ⊢
  rw [hCe] at hC7 ⊢
  refine callY (i:=12) (f:=57) (args:=#[.pointer (some ⟨Sh,0,none⟩),.int .i64 (rlb m r)]) (R:=fun v wz=>∃ s:Nat,v=.agg #[.int .u32 (s:Int)]/\s<4294967296/\(∀ x,s.testBit x=belB n F (rlb m r) n x)/\Below Va.heap.size Va wz) 18 rfl rfl (by rfl) (by kernel_rfl) (by simp [execOp,go_sem]) ((u_ HCl Va hXa).mono fun e w6 ⟨s,he,h1,h2,h3⟩=>⟨_,he,s,rfl,h1,h2,h3⟩) ?_
  rintro v W8 ⟨s,rfl,hs1,hs2,hb⟩
  have hX8:=hXa.mono hb
  have hS8:=hSa.mono hb hSa.lt
  have hR8:=hRa.mono hb hRa.lt
  have hB8:=hBa.trans (hb.mono hBa.size)
  have hC8:=hC7.mono hb hC7.lt
  have hCb:V.heap.size<=Cb:=Nat.le_of_eq hCe
  refine ⟨⟨hX8.blk,hX8.base,hS8⟩,?_⟩
  simp only [sX,sY,sZ]
  clear hb hba hXa hC7 hSa hRa hBa hVa hCe
 all_goals
  have hc9:W8.cell? ⟨Cb,0,none⟩=some (.int .u32 0):=hC8.cell 0
  have hf9:=hC8.free 0
  have hCS:Cb ≠ Sh:=ne_ty hC8 hX8.blk (by decide)
  have hCs:Cb ≠ w.heap.size:=ne_ty hC8 hS8 (by decide)
  have hCr:Cb ≠ w.heap.size+1:=ne_ty hC8 hR8 (by decide)
  have hlo:WD.heap.size<=Cb:=Nat.le_trans (Nat.le_trans (u_ HXV).base.size (Nat.le_of_eq rfl)) hCb
  refine storeY (i:=14) (w':=W8.setCell ⟨Cb,0,none⟩ (.int .u32 (s:Int))) rfl (by rfl) (by kernel_rfl) rfl (by simp [execOp,go_sem,hc9,hf9]) rfl ⟨hX8.blk.other _ (Ne.symm hCS),hX8.base.setCell hlo _,hS8.other _ (Ne.symm hCs)⟩ ?_
  refine wpAnyH_done (by kernel_rfl) ?_ _
  have hC9:=hC8.set 0 (.int .u32 (s:Int))
  have hS9:=hS8.other (a:=⟨Cb,0,none⟩) (.int .u32 (s:Int)) (Ne.symm hCs)
  have hR9:=hR8.other (a:=⟨Cb,0,none⟩) (.int .u32 (s:Int)) (Ne.symm hCr)
  have hB9:=hB8.setCell (p:=⟨Cb,0,none⟩) (Nat.le_trans (u_ HBV).size hCb) (.int .u32 (s:Int))
  simp only [List.set_cons_zero] at hC9
  generalize W8.setCell ⟨Cb,0,none⟩ (.int .u32 (s:Int))=W9 at *
  have HC10:=h_ (hC9.row_other (g:=w.heap.size+1) hCr #[.int .i64 r,.func (.func 58) #[] #[.pointer (some ⟨Cb,0,none⟩),.pointer (some ⟨w.heap.size,0,none⟩)]])
  have HS10:=h_ (hS9.row_other (g:=w.heap.size+1) (by omega) #[.int .i64 r,.func (.func 58) #[] #[.pointer (some ⟨Cb,0,none⟩),.pointer (some ⟨w.heap.size,0,none⟩)]])
  have HR10:=h_ (hR9.row (#[.int .i64 r,.func (.func 58) #[] #[.pointer (some ⟨Cb,0,none⟩),.pointer (some ⟨w.heap.size,0,none⟩)]]).toList)
  have HR9:=h_ hR9
  have HB10:=h_ (hB9.trans ((qjp (lo:=w.heap.size) (hi:=w.heap.size+2) (g:=w.heap.size+1) W9 #[.int .i64 r,.func (.func 58) #[] #[.pointer (some ⟨Cb,0,none⟩),.pointer (some ⟨w.heap.size,0,none⟩)]] (by omega) (by omega)).below (nR _) hB9.size))
  have HS1:=h_ hs1;have HS2:=h_ hs2
  clear zz hc9 hf9 hC8 hS8 hR8 hB8 hX8 hC9 hS9 hR9 hB9 hCS hCs hCr hlo hs1 hs2 hCb
  go_wp2_with (refine wpList_store_row rfl 73 (.tmp 4) (.tmp 21) rfl (w.heap.size+1) #[.int .i64 r,.func (.func 58) #[] #[.pointer (some ⟨Cb,0,none⟩),.pointer (some ⟨w.heap.size,0,none⟩)]] rfl rfl 73 #[.int .i64 0,.nilFunc] (u_ HR9) (by kernel_rfl) rfl (by simp [Value.oneCell']) ?_)
  have k0:=(u_ HR10).cell 0
  have k1:=(u_ HR10).cell 1
  simp only [List.getElem?_cons_zero,List.getElem?_cons_succ] at k0 k1
  exact bodyPost_ret (v:=vwV r Cb w.heap.size) (by simp [results,Tryz.results31,go_sem,k0,k1,vwV,seeV]) rfl ⟨Cb,w.heap.size,rfl,⟨s,⟨u_ HS1,u_ HS2,u_ HC10,u_ HS10⟩⟩,u_ HB10⟩
end Go.Proofs.YtgkcaeidhkddjaaGreatDoor
