import Derived.Test.YtgkcaeidhkddjaaGreatDoorXGE
import Derived.Test.YtgkcaeidhkddjaaGreatDoorXZSpF6
import Derived.Shelf.Strings.BuilderF
import Derived.Shelf.Strings.BuilderK
import Derived.Laws.AppendOwnNone
set_option maxRecDepth 100000
set_option maxHeartbeats 20000000
namespace Go.Proofs.YtgkcaeidhkddjaaGreatDoor
open Go Go.RowKit
theorem bldLays:Go.Proofs.Lays.n166 Tryz.prog Tryz.lays156_ren :=
 have h:=Tryz.lays156
 { mixed:=h.mixed,f166:=h.f166,f240:=h.f240,f276:=h.f276,t0:=h.t0,a0:=h.a0,z0:=h.z0,v0:=h.v0,t3:=h.t3,a3:=h.a3,z3:=h.z3,v3:=h.v3,t4:=h.t4,a4:=h.a4,z4:=h.z4,v4:=h.v4,t9:=h.t9,a9:=h.a9,z9:=h.z9,v9:=h.v9,t20:=h.t20,a20:=h.a20,z20:=h.z20,v20:=h.v20,t37:=h.t37,a37:=h.a37,z37:=h.z37,v37:=h.v37,t70:=h.t70,a70:=h.a70,z70:=h.z70,v70:=h.v70,t72:=h.t72,a72:=h.a72,z72:=h.z72,v72:=h.v72,t75:=h.t75,a75:=h.a75,z75:=h.z75,v75:=h.v75,t164:=h.t164,a164:=h.a164,z164:=h.z164,v164:=h.v164 }
def Bl (w:World) (B b:Nat) (l:List UInt8):Prop:=Lib.IsBuilderF 130 5 B b (Lib.byteCells l) w
theorem q4s {T e:TypeId} {B b:Nat} {p:Value} {bs:List Value} {W W':World} (h:Lib.BuilderAtF T e B b p bs W) (hb:Below W.heap.size W W'):Lib.BuilderAtF T e B b p bs W':=by
 have hlt:=h.lt
 obtain ⟨hB,v,hv,hown,hne⟩:=h
 exact ⟨hB,v,(hb.block b hlt).trans hv,hown.kept (row:=none) ⟨hb.os,hb.tape,hb.output,hb.size,fun k hk _=>hb.block k hk⟩ (Classical.em _),hne⟩
theorem Bl.mono {w w':World} {B b:Nat} {l:List UInt8} (h:Bl w B b l) (hb:Below w.heap.size w w'):Bl w' B b l :=
 h.elim (fun x=>.inl (q4s x hb)) (fun x=>.inr (q4s x hb))
theorem Bl.le {w:World} {B b:Nat} {l:List UInt8} (h:Bl w B b l):B<=w.heap.size:=by
 rcases h with h | h
 . have:=h.lt;have:=h.1;omega
 . have:=h.lt;have:=h.1;omega
theorem qag (l:List UInt8) (s:ByteArray):Lib.byteCells l++Lib.strCells s=Lib.byteCells (l++sb s):=by
 unfold Lib.byteCells Lib.strCells sb
 rw [List.map_append]
def Oth (b:Nat) (w w':World):Prop:=Lib.OthersKept 5 (some b) w w'
theorem qc9 {b:Nat} {w w':World} (h:Below w.heap.size w w'):Oth b w w':=fun k _ hk _ _=>(h.block k (Array.getElem?_eq_some_iff.1 hk).1).trans hk
theorem Blk.oth {w w':World} {g b:Nat} {t:TypeId} {cs:List Value} (h:Blk w g t cs) (ho:Oth b w w') (hg:g ≠ b) (ht:t ≠ 5):Blk w' g t cs:=ho g _ h (fun e=>hg (Option.some.inj e)) (fun c fz e=>ht (by cases e;rfl))
theorem q1b (B b:Nat) (l:List UInt8) (s:ByteArray) (w:World) (h:Bl w B b l) (hlen:l.length+s.size<=140737488355328) :
 Calls Tryz.prog 85 #[.pointer (some ⟨b,0,none⟩),.string s] w fun e w'=>e=.returned (.tuple #[.int .i64 s.size,.nilIface])/\Bl w' B b (l++sb s)/\Below B w w'/\Oth b w w' :=
 (Any.Builder_WriteString_k bldLays Tryz.Builder_Extra_156 B b (Lib.byteCells l) s w h (by unfold Lib.byteCells;rw [List.length_map];exact hlen) h.le).mono fun _ _ ⟨h1,h2,h3,h4⟩=>⟨h1,.inr (by rw [<- qag];exact h2),h3,h4⟩
def jw (l:List ByteArray):List UInt8:=Lib.join (l.map sb) [32]
theorem q2e (a:Option Addr) (c:Nat) (l:List ByteArray) (w:World) (h1:1<=l.length) (h2:l.length<=100000) (hc:l.length<=c) (ha:Strs w a l) (hs:(jw l).length<=140737488355328) :
 Calls Tryz.prog 86 #[.slice a l.length c,.string ⟨#[32]⟩] w fun e w'=>e=.returned (.string ⟨(jw l).toArray⟩)/\Below w.heap.size w w':=by
 obtain ⟨b,o,rfl,hb,-⟩:=ha 0 (by omega)
 exact Tryz.strings_Join b o c l ⟨#[32]⟩ w (fun j x hx=>by
  obtain ⟨hj,e⟩:=List.getElem?_eq_some_iff.1 hx
  obtain ⟨b',o',e',-,hc⟩:=ha j hj
  cases e'
  rw [hc,e]) hb (by omega) hc hs
theorem q07 (B b:Nat) (t:List UInt8) (a:Option Addr) (c:Nat) (l:List ByteArray) (w:World) (hB:Bl w B b t) (h1:1<=l.length) (h2:l.length<=100000) (hc:l.length<=c) (ha:Strs w a l) (hs:t.length+(jw l).length<=100000000) :
 Calls Tryz.prog 202 #[.pointer (some ⟨b,0,none⟩),.slice a l.length c] w fun e w'=>e=.returned (.tuple #[])/\Bl w' B b (t++(jw l++[59,10]))/\Below B w w'/\Oth b w w':=by
 have HJ:=h_ (q2e a c l w h1 h2 hc ha (by omega))
 have HBl:=h_ hB;have HLe:=h_ hB.le
 obtain ⟨T,hT⟩:∃ T:ByteArray,⟨(jw l).toArray⟩=T:=⟨_,rfl⟩
 have hTs:T.size=(jw l).length:=by rw [<- hT];rfl
 have HT:Hid (sb T=jw l):=h_ (by rw [<- hT];rfl)
 rw [hT] at HJ
 have HZ:=h_ hTs;have HS:=h_ hs
 clear hB h1 h2 hc ha hT hTs hs
 go_enter Tryz.func202,Tryz.ntmps202
 go_wp2_with fail
 refine (u_ HJ).mono ?_
 rintro r W1 ⟨rfl,hb1⟩
 have HB1:=h_ hb1
 replace HBl:=h_ ((u_ HBl).mono hb1)
 clear hb1
 go_wp2_with fail
 refine (q1b B b t T W1 (u_ HBl) (by have:=u_ HZ;have:=u_ HS;omega)).mono ?_
 rintro r W2 ⟨rfl,hl2,hb2,ho2⟩
 have HL2:=h_ hl2;have HB2:=h_ hb2;have HO2:=h_ (Lib.OthersKept.trans (qc9 (b:=b) (u_ HB1)) ho2)
 clear hl2 hb2 ho2
 go_wp2_with fail
 refine (q1b B b _ ⟨#[59,10]⟩ W2 (u_ HL2) (by rw [List.length_append,sb_len];show t.length+T.size+2<=_;have:=u_ HZ;have:=u_ HS;omega)).mono ?_
 rintro r W3 ⟨rfl,hl3,hb3,ho3⟩
 have HO3:Hid (Oth b w W3):=h_ (Lib.OthersKept.trans (u_ HO2) ho3)
 have HL3:Hid (Bl W3 B b (t++(jw l++[59,10]))):=h_ (by rw [u_ HT] at hl3;rw [<- List.append_assoc];exact hl3)
 have HB3:Hid (Below B w W3):=h_ ((((u_ HB1).mono (u_ HLe)).trans (u_ HB2)).trans hb3)
 clear hl3 hb3 ho3
 go_wp2_with fail
 go_end0
 exact ⟨rfl,u_ HL3,u_ HB3,u_ HO3⟩
theorem qiz (x:ByteArray) (l:List ByteArray):jw (x :: l)=sb x++l.flatMap (fun y=>32 :: sb y):=by
 unfold jw
 rw [List.map_cons,Lib.join_cons]
 unfold Lib.joinTail
 rw [List.map_map,List.flatMap_def]
 rfl
def rW (word:ByteArray) (l:List Nx):List ByteArray:=if l.length=0 then [] else [word,txL l]
def lbT (m:Fm) (f:Fl):ByteArray:=if f.lb<0 then ⟨#[97,117,116,111]⟩ else labAt m.L f.lb
def w5 (m:Fm) (f:Fl):List ByteArray:=[⟨#[102,105,101,108,100]⟩,f.nm,⟨(tyName f.ty).toArray⟩,⟨#[97,116]⟩,lbT m f]
def byW (rs:List Rl) (i:Int):List ByteArray:=[⟨#[98,121]⟩,(rolAt rs i).nm]
def syW (f:Fl):List ByteArray:=if f.va.length=0 then [] else [⟨#[115,97,121,115]⟩,⟨#[34]⟩++f.sy++⟨#[34]⟩]
def fW (m:Fm) (f:Fl):List ByteArray:=w5 m f++(f.bys.flatMap (byW m.R)++(rW ⟨#[105,115]⟩ f.is++(rW ⟨#[119,104,101,110]⟩ f.wh++(rW ⟨#[118,97,108,105,100]⟩ f.va++(syW f++rW ⟨#[109,117,115,116]⟩ f.mu)))))
theorem qk6 (word:ByteArray) (l:List Nx):(rW word l).flatMap (fun y=>32 :: sb y)=tRule (sb word) l:=by
 unfold rW tRule
 split
 . rfl
 . simp
theorem jw_fW (m:Fm) (f:Fl):jw (fW m f)++[59,10]=tFld m f:=by
 have h1:(f.bys.flatMap (byW m.R)).flatMap (fun y=>32 :: sb y)=f.bys.flatMap (tBy m.R):=by
  rw [List.flatMap_assoc]
  congr 1
  funext i
  simp [byW,tBy,sb_lit]
 have h2:(syW f).flatMap (fun y=>32 :: sb y)=tSays f:=by
  unfold syW tSays
  split
  . rfl
  . simp [qcr,sb_lit]
 have h3:sb (lbT m f)=if f.lb<0 then [97,117,116,111] else sb (labAt m.L f.lb):=by
  unfold lbT
  split <;> rfl
 unfold fW w5
 simp only [List.cons_append,List.nil_append]
 rw [qiz]
 simp only [List.flatMap_cons,List.flatMap_append,h1,h2,qk6]
 rw [h3]
 unfold tFld tFldA
 simp [sb_lit,wIs,wWhen,wValid,wMust]
theorem jw_lab (x:ByteArray):jw [⟨#[108,97,98,101,108]⟩,x]++[59,10]=tLab x:=by
 rw [qiz];simp [tLab,sb_lit]
theorem jw_bel (ls:List ByteArray) (p:Int × Int):jw [⟨#[98,101,108,111,119]⟩,labAt ls p.1,labAt ls p.2]++[59,10]=tBel ls p:=by
 rw [qiz];simp [tBel,sb_lit]
theorem jw_rol (ls:List ByteArray) (r:Rl):jw [⟨#[114,111,108,101]⟩,r.nm,⟨#[97,116]⟩,labAt ls r.lb]++[59,10]=tRol ls r:=by
 rw [qiz];simp [tRol,sb_lit]
theorem rW_len (word:ByteArray) (l:List Nx):(rW word l).length<=2:=by unfold rW;split <;> simp
theorem qkq (f:Fl):(syW f).length<=2:=by unfold syW;split <;> simp
theorem qhj (rs:List Rl) (l:List Int):(l.flatMap (byW rs)).length=2*l.length:=by
 induction l with
 | nil=>rfl
 | cons x r ih=>simp only [List.flatMap_cons,List.length_append,ih,List.length_cons];simp [byW];omega
theorem fW_len {m:Fm} (hm:VfA m) {f:Fl} (hf:FOk m.L.length m.R.length f):(fW m f).length<=200:=by
 have h1:=qac hf.b
 have h2:=hm.nr
 have h3:=rW_len ⟨#[105,115]⟩ f.is
 have h4:=rW_len ⟨#[119,104,101,110]⟩ f.wh
 have h5:=rW_len ⟨#[118,97,108,105,100]⟩ f.va
 have h6:=rW_len ⟨#[109,117,115,116]⟩ f.mu
 have h7:=qkq f
 have h8:=qhj m.R f.bys
 have h9:(w5 m f).length=5:=rfl
 unfold fW
 simp only [List.length_append]
 omega
def Wds (w:World) (v:Value) (l:List ByteArray):Prop:=(v=.slice none 0 0/\l=[]) ∨ ∃ g c,v=.slice (some ⟨g,0,none⟩) l.length c/\g<w.heap.size/\∀ j x,l[j]? = some x->w.cell? ⟨g,j,none⟩=some (.string x)
theorem q7v (w:World) (r:Option Nat):w.grownBy w r:=⟨rfl,rfl,rfl,nR _,fun _ _ _=>rfl⟩
theorem q03 {w:World} {ops:Array Oper} {rest:List Oper} {o:Oper} {a:Act} {Q:Exit->Act->World->Prop} (hgd:o.guard=none) (s x:Operand)
 (ho:o.op=.call { callee:=.builtin .append,args:=#[s,x],argTypes:=#[22,22] }) (base:Nat) (v:Value) (ws:List ByteArray) (hs:a.eval s=v) (hown:w.ownsRow base 9 1 v ws.length (stV ws))
 (vx:Value) (l:List ByteArray) (hx:a.eval x=vx) (hW:Wds w vx l) (h63:ws.length+l.length<=1000000) (hbase:base<=w.heap.size)
 (h:∀ v' w',w'.ownsRow base 9 1 v' (ws++l).length (stV (ws++l))->w.grownBy w' v.ownBlock->wpList Tryz.prog ops Q rest (a.put o.dst v') w'):wpList Tryz.prog ops Q (o :: rest) a w:=by
 obtain ⟨i0,hi,hz0,hz1,hz2⟩:=info_parts qen
 rcases hW with ⟨rfl,rfl⟩ | ⟨g,c,rfl,hg,hc⟩
 . refine wpList_append_own_none hgd s x 22 ho base 9 i0 1 Tryz.underlying22 hi v ws.length (stV ws) hs hown hx ?_
   exact h v w (by simpa using hown) (q7v _ _)
 . refine wpList_append_own w hgd s x 22 ho base 9 i0 _ 1 16 Tryz.underlying22 hi hz0 hz1 hz2 rfl (by omega) v ws.length (stV ws) hs hown ⟨g,0,none⟩ l.length c (stV l) hx (by simp [stV]) (fun j u hu=>?_) (fun u hu=>?_) (by unfold maxLen;omega) (by omega) hbase (fun v' w' h1 h2 _=>h v' w' (by rw [List.length_append];simpa [stV] using h1) h2)
   . unfold stV at hu
     rw [List.getElem?_map] at hu
     cases hl:l[j]? with
     | none=>rw [hl] at hu;cases hu
     | some y =>
      rw [hl] at hu
      cases hu
      have:=hc j y hl
      rw [show (⟨g,0,none⟩:Addr).add j=⟨g,j,none⟩ by
       by_cases e:j=0
       . subst e;simp [Addr.add]
       . simp [Addr.add,e]]
      exact this
   . obtain ⟨y,-,rfl⟩:=List.mem_map.1 hu
     rfl
theorem ql3 (w:World) (l:List ByteArray) (c:Nat):Wds (w.alloc (.cells (stV l).toArray 9)) (.slice (some ⟨w.heap.size,0,none⟩) l.length c) l:=by
 refine .inr ⟨w.heap.size,c,rfl,by simp,fun j x hx=>?_⟩
 have:=(Blk.new w 9 (stV l).toArray).cell j
 rw [this]
 simp [stV,hx]
theorem q2v (word:ByteArray) (a:Option Addr) (c:Nat) (l:List Nx) (w:World) (hr:ruleOk l=true) (hl:l.length<=9223372036854775807) (ha:NodL w a l) (hf:∀ k,k<l.length->Fit (nf l k)) (ht:Tabs w) :
 Calls Tryz.prog 220 #[.string word,.slice a l.length c] w fun r w'=>∃ v,r=.returned v/\Wds w' v (rW word l)/\Below w.heap.size w w':=by
 by_cases h0:l.length=0
 . have h0':((l.length:Int) == 0)=true:=by simp [h0]
   rw [show rW word l=[] by unfold rW;rw [if_pos h0]]
   clear h0 hr ha hf ht
   go_enter Tryz.func220,Tryz.ntmps220
   go_wp2_with fail
   go_ret
   exact ⟨_,rfl,.inl ⟨rfl,rfl⟩,bR _ _⟩
 . have h0':((l.length:Int) == 0)=false:=beq_eq_false_iff_ne.2 (by omega)
   have hv:vxL l=true:=by simp only [ruleOk,Bool.or_eq_true,decide_eq_true_eq] at hr;exact hr.resolve_left h0
   have HC:=h_ (q0c a l.length c (nf l) w hl ha hf ht.ws ht.pw)
   rw [show vxB (nf l) l.length=true from hv,if_pos rfl,show (top (nf l) l.length).t=txL l from rfl] at HC
   rw [show rW word l=[word,txL l] by unfold rW;rw [if_neg h0]]
   generalize txL l=t at *
   clear h0 hr ha hf ht hv
   go_enter Tryz.func220,Tryz.ntmps220
   go_wp2_with fail
   refine (u_ HC).mono ?_
   rintro r W1 ⟨rfl,hb1⟩
   have HB1:=h_ hb1
   have HW:=h_ (ql3 W1 [word,t] 2)
   have HB2:=h_ (hb1.alloc hb1.size (.cells #[.string word,.string t] 9))
   clear hb1 HC
   go_wp2_with fail
   go_ret
   exact ⟨_,rfl,u_ HW,u_ HB2⟩
def TyW (w:World):Prop:=2<w.heap.size/\∀ k:Nat,1<=k->k<=3->w.cell? ⟨2,k,none⟩=some (.string ⟨(tyName k).toArray⟩)
theorem TyW.mono {w w':World} (h:TyW w) (hb:Below w.heap.size w w'):TyW w':=⟨Nat.lt_of_lt_of_le h.1 hb.size,fun k h1 h2=>(hb.cell h.1).trans (h.2 k h1 h2)⟩
section
variable {md:Region.Mode} {ops:Array Oper} {Q:Exit->Act->World->Prop} {S:World->Prop} {o:Oper} {a:Act} {fuel:Nat} {listed:Array Bool} {i:Nat} {w w':World}
theorem runY {v:Value} (d:Tmp) (hi:ops[i]? = some o) (hd:o.dst=some d) (hw:Region.wanted o (yielded ops a.tmps)=true) (hr:Region.ready md ops listed=[i])
 (hrun:(execOp a.eval o).run Tryz.prog w=.ok (.value v) w') (hS:S w') (h:wpAnyH Tryz.prog md ops Q S fuel (listed.setIfInBounds i true) { tmps:=a.tmps.setIfInBounds d v,defers:=a.defers } w'):wpAnyH Tryz.prog md ops Q S (fuel+1) listed a w :=
 wpAnyH_ready hr (by simp) (consRun d hi hd hw hrun hS h AllReadyH.nil)
end
theorem q91 (w:World) (l:List ByteArray) (h:l.length<=1000000):(w.alloc (.cells (stV l).toArray 9)).ownsRow w.heap.size 9 1 (.slice (some ⟨w.heap.size,0,none⟩) l.length l.length) l.length (stV l) :=
 ⟨by simp [stV],.inr ⟨w.heap.size,l.length,(stV l).toArray,rfl,nR _,(MapKept.heap_alloc w _).1,nR _,by unfold maxLen;omega,by simp [stV],by rw [List.take_of_length_le (by simp [stV])]⟩⟩
theorem qa7 {V w w':World} {base n:Nat} {v:Value} {xs:List Value} (hb:Below base V w) (ho:w.ownsRow base 9 1 v n xs) (hg:w.grownBy w' v.ownBlock) (hs:base<=w.heap.size):Below base V w':=hb.grown hg hs (fun _ e=>q8y ho e)
theorem qca {w w':World} {base n:Nat} {v:Value} {xs:List Value} (h:w.ownsRow base 9 1 v n xs) (hb:Below w.heap.size w w'):w'.ownsRow base 9 1 v n xs :=
 h.kept (row:=none) ⟨hb.os,hb.tape,hb.output,hb.size,fun k hk _=>hb.block k hk⟩ (Classical.em _)
theorem q1j (m:Fm) (A:MA) (f:Fl) (FAd:FA) (w:World) (hv:VfA m) (ho:FOk m.L.length m.R.length f) (hff:FitF f) (ha:MSl w m A) (hs:FSl w f FAd) (ht:Tabs w) (hy:TyW w) :
 Calls Tryz.prog 203 #[mV m A,fV f FAd] w fun r w'=>∃ a0 c0,r=.returned (.slice a0 (fW m f).length c0)/\(fW m f).length<=c0/\Strs w' a0 (fW m f)/\Below w.heap.size w w':=by
 obtain ⟨al,alc,ap,apc,ar,arc,af,afc,afa⟩:=A
 obtain ⟨ab,abc,ai,aic,ah,ahc,av,avc,au,auc⟩:=FAd
 unfold mV fV
 dsimp only
 have HK:=h_ ((Blk.new w 36 #[.slice al m.L.length alc,.slice ap m.P.length apc,.slice ar m.R.length arc,.slice af m.F.length afc]).alloc (.cells #[.string f.nm,.int .i64 f.ty,.int .i64 f.lb,.slice ab f.bys.length abc,.slice ai f.is.length aic,.slice ah f.wh.length ahc,.slice av f.va.length avc,.string f.sy,.slice au f.mu.length auc] 94))
 have HKf:=h_ (Blk.new (w.alloc (.cells #[.slice al m.L.length alc,.slice ap m.P.length apc,.slice ar m.R.length arc,.slice af m.F.length afc] 36)) 94 #[.string f.nm,.int .i64 f.ty,.int .i64 f.lb,.slice ab f.bys.length abc,.slice ai f.is.length aic,.slice ah f.wh.length ahc,.slice av f.va.length avc,.string f.sy,.slice au f.mu.length auc])
 rw [World.size_alloc] at HKf
 have HB:=h_ (((bR w.heap.size w).alloc (nR _) (.cells #[.slice al m.L.length alc,.slice ap m.P.length apc,.slice ar m.R.length arc,.slice af m.F.length afc] 36)).alloc (by simp) (.cells #[.string f.nm,.int .i64 f.ty,.int .i64 f.lb,.slice ab f.bys.length abc,.slice ai f.is.length aic,.slice ah f.wh.length ahc,.slice av f.va.length avc,.string f.sy,.slice au f.mu.length auc] 94))
 obtain ⟨W0,hW0⟩:∃ W0,(w.alloc (.cells #[.slice al m.L.length alc,.slice ap m.P.length apc,.slice ar m.R.length arc,.slice af m.F.length afc] 36)).alloc (.cells #[.string f.nm,.int .i64 f.ty,.int .i64 f.lb,.slice ab f.bys.length abc,.slice ai f.is.length aic,.slice ah f.wh.length ahc,.slice av f.va.length avc,.string f.sy,.slice au f.mu.length auc] 94)=W0:=⟨_,rfl⟩
 rw [hW0] at HK HKf HB
 have HS:=h_ (ha.mono (u_ HB));have HSf:=h_ (hs.mono (u_ HB));have HT:=h_ (ht.mono (u_ HB));have HYt:=h_ (hy.mono (u_ HB))
 have HV:=h_ hv;have HO:=h_ ho;have HFf:=h_ hff
 obtain ⟨t,ht1,ht2,ht3⟩:∃ t:Nat,f.ty=t/\1<=t/\t<=3:=⟨f.ty.toNat,by have:=ho.t1;omega,by have:=ho.t1;omega,by have:=ho.t2;omega⟩
 clear ha hs ht hy hv ho hff
 obtain ⟨y0,y1,y2,y3⟩:=quad (u_ HK)
 obtain ⟨x0,x1,x2,x3,x4,x5,x6,x7,x8⟩:=nine (u_ HKf)
 have c0:=(u_ HYt).2 t ht2 ht3
 rw [<- ht1] at c0
 obtain ⟨Y,hY⟩:∃ Y:ByteArray,⟨(tyName f.ty).toArray⟩=Y:=⟨_,rfl⟩
 rw [hY] at c0
 have HYe:=h_ hY
 rw [ht1] at x1
 have ht4:(t:Int)<4:=by omega
 have HT1:=h_ ht1
 clear hY ht1
 go_enter Tryz.func203,Tryz.ntmps203
 go_wp2_with fail
 try rw [hW0]
 clear hW0
 refine wp_region_held_drew (S:=fun w'=>w'.cell? ⟨w.heap.size+1,0,none⟩=some (.string f.nm)/\w'.cell? ⟨w.heap.size+1,1,none⟩=some (.int .i64 t)/\w'.cell? ⟨2,t,none⟩=some (.string Y)) (by kernel_rfl) ⟨x0,x1,c0⟩ (fun zz=>?_)
 refine tk 0 8 (.pointer (some ⟨w.heap.size+1,0,none⟩)) zz ?_
 refine tk 1 9 (.string f.nm) zz ?_
 refine tk 2 10 (.pointer (some ⟨w.heap.size+1,1,none⟩)) zz ?_
 refine tk 3 11 (.int .i64 t) zz ?_
 simp only [sX,sY,sZ]
 refine tk 4 12 (.pointer (some ⟨2,t,none⟩)) zz ?_
 refine tk 5 13 (.string Y) zz ?_
 simp only [sX,sY,sZ]
 have HD:Hid (Below W0.heap.size W0 W0.drew):=h_ (bR _ _).drew
 replace HK:=h_ ((u_ HK).mono (u_ HD) (u_ HK).lt);replace HKf:=h_ ((u_ HKf).mono (u_ HD) (u_ HKf).lt);replace HS:=h_ ((u_ HS).mono (u_ HD));replace HSf:=h_ ((u_ HSf).mono (u_ HD));replace HT:=h_ ((u_ HT).mono (u_ HD));replace HYt:=h_ ((u_ HYt).mono (u_ HD));replace HB:=h_ ((u_ HB).trans ((u_ HD).mono (u_ HB).size))
 obtain ⟨V,hV⟩:∃ V,W0.drew=V:=⟨_,rfl⟩
 rw [hV] at HK HKf HS HSf HT HYt HB zz ⊢
 clear hV HD y0 y1 y2 y3 x0 x1 x2 x3 x4 x5 x6 x7 x8 c0
 have HBv:=h_ ((bR V.heap.size V).alloc (nR _) (.cells #[.string ⟨#[102,105,101,108,100]⟩,.string f.nm,.string Y,.string ⟨#[97,116]⟩,.string ⟨#[97,117,116,111]⟩] 9))
 replace zz:(V.alloc (.cells #[.string ⟨#[102,105,101,108,100]⟩,.string f.nm,.string Y,.string ⟨#[97,116]⟩,.string ⟨#[97,117,116,111]⟩] 9)).cell? ⟨w.heap.size+1,0,none⟩=some (.string f.nm)/\(V.alloc (.cells #[.string ⟨#[102,105,101,108,100]⟩,.string f.nm,.string Y,.string ⟨#[97,116]⟩,.string ⟨#[97,117,116,111]⟩] 9)).cell? ⟨w.heap.size+1,1,none⟩=some (.int .i64 t)/\(V.alloc (.cells #[.string ⟨#[102,105,101,108,100]⟩,.string f.nm,.string Y,.string ⟨#[97,116]⟩,.string ⟨#[97,117,116,111]⟩] 9)).cell? ⟨2,t,none⟩=some (.string Y):=⟨((u_ HBv).cell (u_ HKf).lt).trans zz.1,((u_ HBv).cell (u_ HKf).lt).trans zz.2.1,((u_ HBv).cell (u_ HYt).1).trans zz.2.2⟩
 refine runY (i:=6) (v:=.slice (some ⟨V.heap.size,0,none⟩) 5 5) (w':=V.alloc (.cells #[.string ⟨#[102,105,101,108,100]⟩,.string f.nm,.string Y,.string ⟨#[97,116]⟩,.string ⟨#[97,117,116,111]⟩] 9)) 14 rfl rfl (by rfl) (by kernel_rfl) (by simp [execOp,go_sem]) zz ?_
 simp only [sX,sY,sZ]
 refine tk 7 5 (.slice (some ⟨V.heap.size,0,none⟩) 5 5) zz ?_
 simp only [sX,sY,sZ]
 refine wpAnyH_done (by kernel_rfl) ?_ _
 clear zz
 have hsp:(f.lb<0/\lbT m f=⟨#[97,117,116,111]⟩) ∨ ∃ n:Nat,f.lb=n/\(n:Int)<m.L.length/\∃ b o,al=some ⟨b,o,none⟩/\b<V.heap.size/\V.cell? ⟨b,o+n,none⟩=some (.string (lbT m f)):=by
  by_cases h:f.lb<0
  . exact .inl ⟨h,by unfold lbT;rw [if_pos h]⟩
  . have hl2:=(u_ HO).l2
    have hnl:f.lb.toNat<m.L.length:=by omega
    obtain ⟨b,o,e,hb,hc⟩:=(u_ HS).l f.lb.toNat hnl
    refine .inr ⟨f.lb.toNat,by omega,by omega,b,o,e,hb,?_⟩
    rw [hc]
    unfold lbT
    rw [if_neg h,<- qbr hnl,show ((f.lb.toNat:Nat):Int)=f.lb by omega]
 have HO0:Hid ((V.alloc (.cells #[.string ⟨#[102,105,101,108,100]⟩,.string f.nm,.string Y,.string ⟨#[97,116]⟩,.string (lbT m f)] 9)).ownsRow V.heap.size 9 1 (.slice (some ⟨V.heap.size,0,none⟩) 5 5) (w5 m f++(f.bys.take 0).flatMap (byW m.R)).length (stV (w5 m f++(f.bys.take 0).flatMap (byW m.R)))):=h_ (by
  have h:=q91 V (w5 m f) (by show 5<=_;omega)
  unfold w5 at h ⊢
  rw [u_ HYe] at h ⊢
  simpa [stV] using h)
 have HBz:Hid (∀ ob,Below V.heap.size V (V.alloc ob)):=h_ fun ob=>(bR _ _).alloc (nR _) ob
 have hvsz:w.heap.size+1<V.heap.size:=(u_ HKf).lt
 have hbysl:f.bys.length<=64:=Nat.le_trans (qac (u_ HO).b) (u_ HV).nr
 rcases hsp with ⟨hlb,hlt⟩ | ⟨n,hlb,hnl,b,o,rfl,hbv,hc⟩
 case' inl =>
  have hlb':¬ 0<=f.lb:=by omega
  have x2:∀ ob,(V.alloc ob).cell? ⟨w.heap.size+1,2,none⟩=some (.int .i64 f.lb):=fun ob=>((u_ HKf).alloc ob).cell 2
  have x3:∀ ob,(V.alloc ob).cell? ⟨w.heap.size+1,3,none⟩=some (.slice ab f.bys.length abc):=fun ob=>((u_ HKf).alloc ob).cell 3
  go_wp2_with fail
 case' inr =>
  have hlb':(0:Int)<=n:=by omega
  have x2:∀ ob,(V.alloc ob).cell? ⟨w.heap.size+1,2,none⟩=some (.int .i64 n):=fun ob=>by rw [<- hlb];exact ((u_ HKf).alloc ob).cell 2
  have x3:∀ ob,(V.alloc ob).cell? ⟨w.heap.size+1,3,none⟩=some (.slice ab f.bys.length abc):=fun ob=>((u_ HKf).alloc ob).cell 3
  have y0:∀ ob,(V.alloc ob).cell? ⟨w.heap.size,0,none⟩=some (.slice (some ⟨b,o,none⟩) m.L.length alc):=fun ob=>((u_ HK).alloc ob).cell 0
  have l0:∀ ob,(V.alloc ob).cell? ⟨b,o+n,none⟩=some (.string (lbT m f)):=fun ob=>(((bR V.heap.size V).alloc (nR _) ob).cell (p:=⟨b,o+n,none⟩) hbv).trans hc
  have HLB:=h_ hlb
  clear hlb hc
  go_wp2_with fail
 all_goals
  clear x2 x3
  try clear y0 l0
  go_loopw [5,29] (fun v i wr=>∃ j:Nat,j<=f.bys.length/\i=.int .i64 j/\wr.ownsRow V.heap.size 9 1 v (w5 m f++(f.bys.take j).flatMap (byW m.R)).length (stV (w5 m f++(f.bys.take j).flatMap (byW m.R)))/\Below V.heap.size V wr) (fun _ i _=>f.bys.length - (intOf i).toNat)
  case atStart=>exact ⟨0,nZ _,rfl,by first | exact u_ HO0 | (have h:=u_ HO0;rw [hlt] at h;exact h),u_ HBz _⟩
  case round =>
   obtain ⟨j,hj,rfl,hO,hb⟩:=hrel
   have HOj:=h_ hO;have HBg:=h_ hb;have HKr:=mB HK hb;have HSr:=h_ ((u_ HS).mono hb);have HSg:=h_ ((u_ HSf).mono hb);have HTg:=h_ ((u_ HT).mono hb);have HKg:=mB HKf hb
   have hws:=hb.size
   have hlen:(w5 m f++(f.bys.take j).flatMap (byW m.R)).length<=133:=by
    rw [List.length_append,qhj,List.length_take]
    show 5+_<=_
    omega
   clear hO hb
   by_cases hjl:j<f.bys.length
   . have hjl':(j:Int)<f.bys.length:=by omega
     obtain ⟨b2,o2,rfl,-,z0⟩:=(u_ HSg).b j hjl
     have hin:inR m.R.length f.bys[j]=true:=by
      have:=(u_ HO).b
      unfold bysOk at this
      rw [Bool.and_eq_true,List.all_eq_true] at this
      exact this.1 _ (List.getElem_mem hjl)
     dsimp only at z0
     rw [show f.bys.getD j 0=f.bys[j] by rw [List.getD_eq_getElem?_getD,List.getElem?_eq_getElem hjl];rfl] at z0
     have HT3:Hid (w5 m f++(f.bys.take (j+1)).flatMap (byW m.R)=w5 m f++(f.bys.take j).flatMap (byW m.R)++byW m.R f.bys[j]):=h_ (by rw [List.take_succ_eq_append_getElem hjl,List.flatMap_append];simp)
     obtain ⟨r,hr,hrl⟩:=qij hin
     rw [hr] at z0 HT3
     obtain ⟨pb,po,rfl,-,z1,z2⟩:=(u_ HSr).r r hrl
     rw [show byW m.R (r:Int)=[⟨#[98,121]⟩,m.R[r].nm] by unfold byW;rw [qcl hrl]] at HT3
     have hrl':(r:Int)<m.R.length:=by omega
     have hbl:=(u_ HFf).bl
     clear hin hr
     generalize m.R[r].nm=x at *
     obtain ⟨v0,v1,v2,v3⟩:=quad (u_ HKr)
     obtain ⟨WJ,hWJ⟩:∃ WJ,w5 m f++(f.bys.take j).flatMap (byW m.R)=WJ:=⟨_,rfl⟩
     rw [hWJ] at HOj hlen HT3
     clear hWJ
     go_wp2_with (at_builtin;refine q03 rfl _ _ rfl V.heap.size _ WJ rfl ((u_ HOj).alloc _) _ [⟨#[98,121]⟩,x] rfl (ql3 wr [⟨#[98,121]⟩,x] 2) (by show _+2<=_;omega) (by simp;omega) ?_)
     intro v' w3 ho' hgr'
     have HB2:=h_ (qa7 ((u_ HBg).alloc (by omega) _) ((u_ HOj).alloc _) hgr' (by simp;omega))
     have HO2:Hid (w3.ownsRow V.heap.size 9 1 v' (w5 m f++(f.bys.take (j+1)).flatMap (byW m.R)).length (stV (w5 m f++(f.bys.take (j+1)).flatMap (byW m.R)))):=h_ (by rw [u_ HT3,List.length_append];exact ho')
     clear ho' hgr' hlen
     go_wp2_with fail
     go_roundw
     case rel=>first | exact ⟨j+1,by omega,by go_num,u_ HO2,u_ HB2⟩ | ((repeat apply Exists.intro);exact ⟨⟨j+1,by omega,by go_num,u_ HO2,u_ HB2⟩,rfl⟩)
     case measure=>simp [intOf];omega
   obtain rfl:j=f.bys.length:=by omega
   have hjl':¬ (f.bys.length:Int)<(f.bys.length:Int):=by omega
   rw [List.take_length] at HOj hlen
   obtain ⟨WS,hWS⟩:∃ WS,w5 m f++f.bys.flatMap (byW m.R)=WS:=⟨_,rfl⟩
   rw [hWS] at HOj hlen
   have HWS:=h_ hWS
   clear hWS HKr HSr hjl
   obtain ⟨x0,x1,x2,x3,x4,x5,x6,x7,x8⟩:=nine (u_ HKg)
   go_wp2_with fail
   refine (q2v ⟨#[105,115]⟩ ai aic f.is wr (u_ HO).i (u_ HFf).il (u_ HSg).i (u_ HFf).i (u_ HTg)).mono ?_
   rintro r Wq1 ⟨vq1,rfl,hwd,hbq⟩
   have HWd1:=h_ hwd;have HOq1:=h_ (qca (u_ HOj) hbq);have HBq1:=mT HBg hbq
   replace HSg:=h_ ((u_ HSg).mono hbq);replace HTg:=h_ ((u_ HTg).mono hbq);replace HKg:=mB HKg hbq
   have hszq1:=(u_ HBq1).size
   have hrw1:=rW_len ⟨#[105,115]⟩ f.is
   clear hwd hbq x0 x1 x2 x3 x4 x5 x6 x7 x8
   obtain ⟨L1,hL1⟩:∃ L,rW ⟨#[105,115]⟩ f.is=L:=⟨_,rfl⟩
   rw [hL1] at HWd1 hrw1
   have HL1:=h_ hL1
   clear hL1
   go_wp2_with (at_builtin;refine q03 rfl _ _ rfl V.heap.size _ WS rfl (u_ HOq1) _ L1 rfl (u_ HWd1) (by omega) (by omega) ?_)
   intro vr1 Wr1 hor hgr
   have hbr:Below V.heap.size Wq1 Wr1:=qa7 (bR _ _) (u_ HOq1) hgr (by omega)
   have HBr1:=h_ ((u_ HBq1).trans hbr)
   have HOr1:=h_ (show Wr1.ownsRow V.heap.size 9 1 vr1 (WS++L1).length (stV (WS++L1)) by rw [List.length_append];exact hor)
   replace HSg:=h_ ((u_ HSf).mono (u_ HBr1));replace HTg:=h_ ((u_ HT).mono (u_ HBr1));replace HKg:=h_ ((u_ HKf).mono (u_ HBr1) (u_ HKf).lt)
   obtain ⟨x0,x1,x2,x3,x4,x5,x6,x7,x8⟩:=nine (u_ HKg)
   have hlr1:(WS++L1).length<=WS.length+L1.length:=Nat.le_of_eq List.length_append
   obtain ⟨WS1,hWS1⟩:∃ W,WS++L1=W:=⟨_,rfl⟩
   rw [hWS1] at HOr1 hlr1
   have HWS1:=h_ hWS1
   clear hor hgr hbr hWS1 HWd1 HOq1
   go_wp2_with fail
   refine (q2v ⟨#[119,104,101,110]⟩ ah ahc f.wh Wr1 (u_ HO).h (u_ HFf).hl (u_ HSg).h (u_ HFf).h (u_ HTg)).mono ?_
   rintro r Wq2 ⟨vq2,rfl,hwd,hbq⟩
   have HWd2:=h_ hwd;have HOq2:=h_ (qca (u_ HOr1) hbq);have HBq2:=mT HBr1 hbq
   replace HSg:=h_ ((u_ HSg).mono hbq);replace HTg:=h_ ((u_ HTg).mono hbq);replace HKg:=mB HKg hbq
   have hszq2:=(u_ HBq2).size
   have hrw2:=rW_len ⟨#[119,104,101,110]⟩ f.wh
   clear hwd hbq x0 x1 x2 x3 x4 x5 x6 x7 x8
   obtain ⟨L2,hL2⟩:∃ L,rW ⟨#[119,104,101,110]⟩ f.wh=L:=⟨_,rfl⟩
   rw [hL2] at HWd2 hrw2
   have HL2:=h_ hL2
   clear hL2
   go_wp2_with (at_builtin;refine q03 rfl _ _ rfl V.heap.size _ WS1 rfl (u_ HOq2) _ L2 rfl (u_ HWd2) (by omega) (by omega) ?_)
   intro vr2 Wr2 hor hgr
   have hbr:Below V.heap.size Wq2 Wr2:=qa7 (bR _ _) (u_ HOq2) hgr (by omega)
   have HBr2:=h_ ((u_ HBq2).trans hbr)
   have HOr2:=h_ (show Wr2.ownsRow V.heap.size 9 1 vr2 (WS1++L2).length (stV (WS1++L2)) by rw [List.length_append];exact hor)
   replace HSg:=h_ ((u_ HSf).mono (u_ HBr2));replace HTg:=h_ ((u_ HT).mono (u_ HBr2));replace HKg:=h_ ((u_ HKf).mono (u_ HBr2) (u_ HKf).lt)
   obtain ⟨x0,x1,x2,x3,x4,x5,x6,x7,x8⟩:=nine (u_ HKg)
   have hlr2:(WS1++L2).length<=WS1.length+L2.length:=Nat.le_of_eq List.length_append
   obtain ⟨WS2,hWS2⟩:∃ W,WS1++L2=W:=⟨_,rfl⟩
   rw [hWS2] at HOr2 hlr2
   have HWS2:=h_ hWS2
   clear hor hgr hbr hWS2 HWd2 HOq2
   go_wp2_with fail
   refine (q2v ⟨#[118,97,108,105,100]⟩ av avc f.va Wr2 (u_ HO).v (u_ HFf).vl (u_ HSg).v (u_ HFf).v (u_ HTg)).mono ?_
   rintro r Wq3 ⟨vq3,rfl,hwd,hbq⟩
   have HWd3:=h_ hwd;have HOq3:=h_ (qca (u_ HOr2) hbq);have HBq3:=mT HBr2 hbq
   replace HSg:=h_ ((u_ HSg).mono hbq);replace HTg:=h_ ((u_ HTg).mono hbq);replace HKg:=mB HKg hbq
   have hszq3:=(u_ HBq3).size
   have hrw3:=rW_len ⟨#[118,97,108,105,100]⟩ f.va
   clear hwd hbq x0 x1 x2 x3 x4 x5 x6 x7 x8
   obtain ⟨L3,hL3⟩:∃ L,rW ⟨#[118,97,108,105,100]⟩ f.va=L:=⟨_,rfl⟩
   rw [hL3] at HWd3 hrw3
   have HL3:=h_ hL3
   clear hL3
   go_wp2_with (at_builtin;refine q03 rfl _ _ rfl V.heap.size _ WS2 rfl (u_ HOq3) _ L3 rfl (u_ HWd3) (by omega) (by omega) ?_)
   intro vr3 Wr3 hor hgr
   have hbr:Below V.heap.size Wq3 Wr3:=qa7 (bR _ _) (u_ HOq3) hgr (by omega)
   have HBr3:=h_ ((u_ HBq3).trans hbr)
   have HOr3:=h_ (show Wr3.ownsRow V.heap.size 9 1 vr3 (WS2++L3).length (stV (WS2++L3)) by rw [List.length_append];exact hor)
   replace HSg:=h_ ((u_ HSf).mono (u_ HBr3));replace HTg:=h_ ((u_ HT).mono (u_ HBr3));replace HKg:=h_ ((u_ HKf).mono (u_ HBr3) (u_ HKf).lt)
   obtain ⟨x0,x1,x2,x3,x4,x5,x6,x7,x8⟩:=nine (u_ HKg)
   have hlr3:(WS2++L3).length<=WS2.length+L3.length:=Nat.le_of_eq List.length_append
   obtain ⟨WS3,hWS3⟩:∃ W,WS2++L3=W:=⟨_,rfl⟩
   rw [hWS3] at HOr3 hlr3
   have HWS3:=h_ hWS3
   clear hor hgr hbr hWS3 HWd3 HOq3
   have hsy:=(u_ HFf).sy
   have hvl:=(u_ HFf).vl
   by_cases hva:f.va.length=0
   . have hva':¬ (0:Int)<f.va.length:=by omega
     have hva2:¬ 0<f.va.length:=by omega
     have hva3:decide (0<f.va.length)=false:=decide_eq_false hva2
     have HSY:Hid (syW f=[]):=h_ (by unfold syW;rw [if_pos hva])
     clear hva
     go_wp2_with fail
     refine (q2v ⟨#[109,117,115,116]⟩ au auc f.mu Wr3 (u_ HO).u (u_ HFf).ul (u_ HSg).u (u_ HFf).u (u_ HTg)).mono ?_
     rintro r Wq4 ⟨vq4,rfl,hwd,hbq⟩
     have HWd4:=h_ hwd;have HOq4:=h_ (qca (u_ HOr3) hbq);have HBq4:=mT HBr3 hbq
     have hszq4:=(u_ HBq4).size
     have hrw4:=rW_len ⟨#[109,117,115,116]⟩ f.mu
     clear hwd hbq x0 x1 x2 x3 x4 x5 x6 x7 x8
     obtain ⟨L4,hL4⟩:∃ L,rW ⟨#[109,117,115,116]⟩ f.mu=L:=⟨_,rfl⟩
     rw [hL4] at HWd4 hrw4
     have HL4:=h_ hL4
     clear hL4
     go_wp2_with (at_builtin;refine q03 rfl _ _ rfl V.heap.size _ WS3 rfl (u_ HOq4) _ L4 rfl (u_ HWd4) (by omega) (by omega) ?_)
     intro vr4 Wr4 hor hgr
     have HBr4:=h_ ((u_ HB).trans (((u_ HBq4).trans (qa7 (bR _ _) (u_ HOq4) hgr (by omega))).mono (u_ HB).size))
     have HE:Hid (WS3++L4=fW m f):=h_ (by
      rw [<- u_ HWS3,<- u_ HWS2,<- u_ HWS1,<- u_ HWS,<- u_ HL4,<- u_ HL3,<- u_ HL2,<- u_ HL1]
      unfold fW
      rw [u_ HSY]
      simp)
     replace hor:=(show Wr4.ownsRow V.heap.size 9 1 vr4 (fW m f).length (stV (fW m f)) by rw [<- u_ HE,List.length_append];exact hor)
     obtain ⟨a1,c1,rfl,hcc,hS⟩:=q4e hor
     have HS1:=h_ hS
     clear hor hgr hS HWd4 HOq4
     go_wp2_with fail
     go_ret
     first | exact ⟨_,⟨_,rfl⟩,hcc,u_ HS1,u_ HBr4⟩ | exact ⟨_,_,rfl,hcc,u_ HS1,u_ HBr4⟩
   . have hva':(0:Int)<f.va.length:=by omega
     have hva2:0<f.va.length:=by omega
     have hva3:decide (0<f.va.length)=true:=decide_eq_true hva2
     obtain ⟨SH,hSH⟩:∃ SH,(⟨#[34]⟩++f.sy++⟨#[34]⟩:ByteArray)=SH:=⟨_,rfl⟩
     have HSY:Hid (syW f=[⟨#[115,97,121,115]⟩,SH]):=h_ (by unfold syW;rw [if_neg hva,hSH])
     have HSh:Hid (showB 3 0 f.sy=SH):=h_ (by
      rw [<- hSH]
      unfold showB
      rw [if_pos (by unfold okVal;simp [(u_ HO).sy])]
      simp)
     clear hva hSH
     go_wp2_with fail
     refine (q30 f.sy Wr3).mono ?_
     rintro r Ws1 ⟨rfl,hbs1⟩
     have HBs1:=h_ hbs1
     replace HTg:=h_ ((u_ HTg).mono hbs1)
     clear hbs1
     go_wp2_with fail
     refine (q3q 3 0 f.sy Ws1 hsy (by omega) (by omega) (u_ HTg).pw).mono ?_
     rintro r Ws2 ⟨rfl,hbs2⟩
     rw [u_ HSh]
     have HBs2:=mT HBs1 hbs2
     have HOs:=h_ (qca (u_ HOr3) (u_ HBs2))
     have HBs:=h_ ((u_ HBr3).trans ((u_ HBs2).mono (u_ HBr3).size))
     have hszs:=(u_ HBs).size
     clear hbs2 x0 x1 x2 x3 x4 x5 x6 x7 x8
     go_wp2_with (at_builtin;refine q03 rfl _ _ rfl V.heap.size _ WS3 rfl ((u_ HOs).alloc _) _ [⟨#[115,97,121,115]⟩,SH] rfl (ql3 Ws2 [⟨#[115,97,121,115]⟩,SH] 2) (by show _+2<=_;omega) (by simp;omega) ?_)
     intro vr5 Wr5 hor hgr
     have HBr5:=h_ (qa7 ((u_ HBs).alloc (by omega) _) ((u_ HOs).alloc _) hgr (by simp;omega))
     have hlr5:(WS3++[⟨#[115,97,121,115]⟩,SH]).length<=WS3.length+2:=Nat.le_of_eq List.length_append
     have HOr5:=h_ (show Wr5.ownsRow V.heap.size 9 1 vr5 (WS3++[⟨#[115,97,121,115]⟩,SH]).length (stV (WS3++[⟨#[115,97,121,115]⟩,SH])) by rw [List.length_append];exact hor)
     replace HSg:=h_ ((u_ HSf).mono (u_ HBr5));replace HTg:=h_ ((u_ HT).mono (u_ HBr5));replace HKg:=h_ ((u_ HKf).mono (u_ HBr5) (u_ HKf).lt)
     obtain ⟨x0,x1,x2,x3,x4,x5,x6,x7,x8⟩:=nine (u_ HKg)
     obtain ⟨WS5,hWS5⟩:∃ W,WS3++[⟨#[115,97,121,115]⟩,SH]=W:=⟨_,rfl⟩
     rw [hWS5] at HOr5 hlr5
     have HWS5:=h_ hWS5
     clear hor hgr hWS5 HOs
     go_wp2_with fail
     refine (q2v ⟨#[109,117,115,116]⟩ au auc f.mu Wr5 (u_ HO).u (u_ HFf).ul (u_ HSg).u (u_ HFf).u (u_ HTg)).mono ?_
     rintro r Wq4 ⟨vq4,rfl,hwd,hbq⟩
     have HWd4:=h_ hwd;have HOq4:=h_ (qca (u_ HOr5) hbq);have HBq4:=mT HBr5 hbq
     have hszq4:=(u_ HBq4).size
     have hrw4:=rW_len ⟨#[109,117,115,116]⟩ f.mu
     clear hwd hbq x0 x1 x2 x3 x4 x5 x6 x7 x8
     obtain ⟨L4,hL4⟩:∃ L,rW ⟨#[109,117,115,116]⟩ f.mu=L:=⟨_,rfl⟩
     rw [hL4] at HWd4 hrw4
     have HL4:=h_ hL4
     clear hL4
     go_wp2_with (at_builtin;refine q03 rfl _ _ rfl V.heap.size _ WS5 rfl (u_ HOq4) _ L4 rfl (u_ HWd4) (by omega) (by omega) ?_)
     intro vr4 Wr4 hor hgr
     have HBr4:=h_ ((u_ HB).trans (((u_ HBq4).trans (qa7 (bR _ _) (u_ HOq4) hgr (by omega))).mono (u_ HB).size))
     have HE:Hid (WS5++L4=fW m f):=h_ (by
      rw [<- u_ HWS5,<- u_ HWS3,<- u_ HWS2,<- u_ HWS1,<- u_ HWS,<- u_ HL4,<- u_ HL3,<- u_ HL2,<- u_ HL1]
      unfold fW
      rw [u_ HSY]
      simp)
     replace hor:=(show Wr4.ownsRow V.heap.size 9 1 vr4 (fW m f).length (stV (fW m f)) by rw [<- u_ HE,List.length_append];exact hor)
     obtain ⟨a1,c1,rfl,hcc,hS⟩:=q4e hor
     have HS1:=h_ hS
     clear hor hgr hS HWd4 HOq4
     go_wp2_with fail
     go_ret
     first | exact ⟨_,⟨_,rfl⟩,hcc,u_ HS1,u_ HBr4⟩ | exact ⟨_,_,rfl,hcc,u_ HS1,u_ HBr4⟩
end Go.Proofs.YtgkcaeidhkddjaaGreatDoor
