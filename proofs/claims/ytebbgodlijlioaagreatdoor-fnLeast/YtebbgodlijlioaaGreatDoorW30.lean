import Derived.Test.YtebbgodlijlioaaGreatDoorW26
import Derived.Test.YtebbgodlijlioaaGreatDoorW20
import Derived.Shelf.Strings.BuilderF
import Derived.Shelf.Strings.BuilderK
import Derived.Laws.AppendOwnNone
set_option maxRecDepth 100000
set_option maxHeartbeats 64000000
namespace Go.Proofs.YtebbgodlijlioaaGreatDoor
open Go Go.RowKit
theorem bldLays:Go.Proofs.Lays.n166 Tryz.prog Tryz.lays156_ren :=
 have h:=Tryz.lays156
 { mixed:=h.mixed,f166:=h.f166,f240:=h.f240,f276:=h.f276,t0:=h.t0,a0:=h.a0,z0:=h.z0,v0:=h.v0,t3:=h.t3,a3:=h.a3,z3:=h.z3,v3:=h.v3,t4:=h.t4,a4:=h.a4,z4:=h.z4,v4:=h.v4,t9:=h.t9,a9:=h.a9,z9:=h.z9,v9:=h.v9,t20:=h.t20,a20:=h.a20,z20:=h.z20,v20:=h.v20,t37:=h.t37,a37:=h.a37,z37:=h.z37,v37:=h.v37,t70:=h.t70,a70:=h.a70,z70:=h.z70,v70:=h.v70,t72:=h.t72,a72:=h.a72,z72:=h.z72,v72:=h.v72,t75:=h.t75,a75:=h.a75,z75:=h.z75,v75:=h.v75,t164:=h.t164,a164:=h.a164,z164:=h.z164,v164:=h.v164 }
def Bl (w:World)(B b:Nat)(l:List UInt8):Prop:=Lib.IsBuilderF 176 5 B b (Lib.byteCells l) w
theorem q4j {T e:TypeId}{B b:Nat}{p:Value}{bs:List Value}{W W':World}(h:Lib.BuilderAtF T e B b p bs W)(hb:Below W.heap.size W W'):Lib.BuilderAtF T e B b p bs W':=by
 have hlt:=h.lt
 obtain⟨hB,v,hv,hown,hne⟩:=h
 exact⟨hB,v,(hb.block b hlt).trans hv,hown.kept (row:=none) ⟨hb.os,hb.tape,hb.output,hb.size,fun k hk _=>hb.block k hk⟩ (Classical.em _),hne⟩
theorem Bl.mono {w w':World}{B b:Nat}{l:List UInt8}(h:Bl w B b l)(hb:Below w.heap.size w w'):Bl w' B b l :=
 h.elim (fun x=>.inl (q4j x hb)) (fun x=>.inr (q4j x hb))
theorem Bl.le {w:World}{B b:Nat}{l:List UInt8}(h:Bl w B b l):B<=w.heap.size:=by
 rcases h with h | h
 . have:=h.lt;have:=h.1;omega
 . have:=h.lt;have:=h.1;omega
theorem q99 (l:List UInt8)(s:ByteArray):Lib.byteCells l++Lib.strCells s=Lib.byteCells (l++sb s):=by
 unfold Lib.byteCells Lib.strCells sb
 rw[Zf]
def Oth (b:Nat)(w w':World):Prop:=Lib.OthersKept 5 (some b) w w'
theorem qal {b:Nat}{w w':World}(h:Below w.heap.size w w'):Oth b w w':=fun k _ hk _ _=>(h.block k (Yt.1 hk).1).trans hk
theorem Blk.oth {w w':World}{g b:Nat}{t:TypeId}{cs:List Value}(h:Blk w g t cs)(ho:Oth b w w')(hg:g≠b)(ht:t≠5):Blk w' g t cs:=ho g _ h (fun e=>hg (Z6 e)) (fun c fz e=>ht (by cases e;rfl))
theorem q18 (B b:Nat)(l:List UInt8)(s:ByteArray)(w:World)(h:Bl w B b l)(hlen:l.length+s.size<=140737488355328) :
 Calls Tryz.prog 171 #[Yc b 0,.string s] w fun e w'=>e=.returned (.tuple #[J9 s.size,.nilIface])/\Bl w' B b (l++sb s)/\Below B w w'/\Oth b w w' :=
 (Any.Builder_WriteString_k bldLays Tryz.Builder_Extra_156 B b (Lib.byteCells l) s w h (by unfold Lib.byteCells;rw[Yz];exact hlen) h.le).mono fun _ _ ⟨h1,h2,h3,h4⟩=>⟨h1,.inr (by rw[<- q99];exact h2),h3,h4⟩
def jw (l:List ByteArray):List UInt8:=Lib.join (l.map sb) [32]
theorem q2e (a:Option Addr)(c:Nat)(l:List ByteArray)(w:World)(h1:1<=l.length)(h2:l.length<=100000)(hc:l.length<=c)(ha:Strs w a l)(hs:(jw l).length<=140737488355328) :
 Calls Tryz.prog 172 #[.slice a l.length c,.string ⟨#[32]⟩] w fun e w'=>e=.returned (.string ⟨(jw l).toArray⟩)/\Below w.heap.size w w':=by
 obtain⟨b,o,rfl,hb,-⟩:=ha 0 (by omega)
 exact Tryz.strings_Join b o c l ⟨#[32]⟩ w (fun j x hx=>by
  obtain⟨hj,e⟩:=List.getElem?_eq_some_iff.1 hx;obtain⟨b',o',e',-,hc⟩:=ha j hj;cases e';rw[hc,e]) hb (by omega) hc hs
theorem q06 (B b:Nat)(t:List UInt8)(a:Option Addr)(c:Nat)(l:List ByteArray)(w:World)(hB:Bl w B b t)(h1:1<=l.length)(h2:l.length<=100000)(hc:l.length<=c)(ha:Strs w a l)(hs:t.length+(jw l).length<=100000000) :
 Calls Tryz.prog 147 #[Yc b 0,.slice a l.length c] w fun e w'=>e=.returned (.tuple #[])/\Bl w' B b (t++(jw l++[59,10]))/\Below B w w'/\Oth b w w':=by
 have HJ:=h_ (q2e a c l w h1 h2 hc ha (by omega))
 have HBl:=h_ hB;have HLe:=h_ hB.le
 obtain⟨T,hT⟩:∃T:ByteArray,⟨(jw l).toArray⟩=T:=⟨_,rfl⟩
 have hTs:T.size=(jw l).length:=by rw[<- hT];rfl
 have HT:Hi (sb T=jw l):=h_ (by rw[<- hT];rfl)
 rw[hT]at HJ
 have HZ:=h_ hTs;have HS:=h_ hs
 clear hB h1 h2 hc ha hT hTs hs
 go_enter Tryz.func147,Tryz.ntmps147
 go_wp2_with fail
 refine HJ.u.mono ?_
 rintro r W1 ⟨rfl,hb1⟩
 have HB1:=h_ hb1
 replace HBl:=h_ (HBl.u.mono hb1)
 clear hb1
 go_wp2_with fail
 refine(q18 B b t T W1 HBl.u (by have:=HZ.u;have:=HS.u;omega)).mono ?_
 rintro r W2 ⟨rfl,hl2,hb2,ho2⟩
 have HL2:=h_ hl2;have HB2:=h_ hb2;have HO2:=h_ (Lib.OthersKept.trans (qal (b:=b) HB1.u) ho2)
 clear hl2 hb2 ho2
 go_wp2_with fail
 refine(q18 B b _ ⟨#[59,10]⟩ W2 HL2.u (by rw[Yg,sb_len];show t.length+T.size+2<=_;have:=HZ.u;have:=HS.u;omega)).mono ?_
 rintro r W3 ⟨rfl,hl3,hb3,ho3⟩
 have HO3:Hi (Oth b w W3):=h_ (Lib.OthersKept.trans HO2.u ho3)
 have HL3:Hi (Bl W3 B b (t++(jw l++[59,10]))):=h_ (by rw[HT.u]at hl3;rw[<- Vb];exact hl3)
 have HB3:Hi (Below B w W3):=h_ (((HB1.u.mono HLe.u).trans HB2.u).trans hb3)
 clear hl3 hb3 ho3
 go_wp2_with fail
 go_end0
 exact⟨rfl,HL3.u,HB3.u,HO3.u⟩
theorem qhi (x:ByteArray)(l:List ByteArray):jw (x :: l)=sb x++l.flatMap (fun y=>32 :: sb y):=by
 unfold jw
 rw[Zx,Lib.join_cons]
 unfold Lib.joinTail
 rw[List.map_map,List.flatMap_def]
 rfl
def rW (word:ByteArray)(l:List Nx):List ByteArray:=if l.length=0 then [] else [word,txL l]
def lbT (m:Fm)(f:Fl):ByteArray:=if f.lb<0 then ⟨#[97,117,116,111]⟩ else labAt m.L f.lb
def w5 (m:Fm)(f:Fl):List ByteArray:=[⟨#[102,105,101,108,100]⟩,f.nm,⟨(tyName f.ty).toArray⟩,⟨#[97,116]⟩,lbT m f]
def byW (rs:List Rl)(i:Int):List ByteArray:=[⟨#[98,121]⟩,(rolAt rs i).nm]
def syW (f:Fl):List ByteArray:=if f.va.length=0 then [] else [⟨#[115,97,121,115]⟩,⟨#[34]⟩++f.sy++⟨#[34]⟩]
def fW (m:Fm)(f:Fl):List ByteArray:=w5 m f++(f.bys.flatMap (byW m.R)++(rW ⟨#[105,115]⟩ f.is++(rW ⟨#[119,104,101,110]⟩ f.wh++(rW ⟨#[118,97,108,105,100]⟩ f.va++(syW f++rW ⟨#[109,117,115,116]⟩ f.mu)))))
theorem qj0 (word:ByteArray)(l:List Nx):(rW word l).flatMap (fun y=>32 :: sb y)=tRule (sb word) l:=by
 unfold rW tRule
 split
 . rfl
 . simp
theorem jw_fW (m:Fm)(f:Fl):jw (fW m f)++[59,10]=tFld m f:=by
 have h1:(f.bys.flatMap (byW m.R)).flatMap (fun y=>32 :: sb y)=f.bys.flatMap (tBy m.R):=by
  rw[List.flatMap_assoc]
  congr 1
  funext i
  simp[byW,tBy,sb_lit]
 have h2:(syW f).flatMap (fun y=>32 :: sb y)=tSays f:=by
  unfold syW tSays;split
  . rfl
  . simp[qb8,sb_lit]
 have h3:sb (lbT m f)=if f.lb<0 then [97,117,116,111] else sb (labAt m.L f.lb):=by
  unfold lbT;split <;> rfl
 unfold fW w5
 simp only[Z3,Og]
 rw[qhi]
 simp only[Zo,Zq,h1,h2,qj0]
 rw[h3]
 unfold tFld tFldA
 simp[sb_lit,wIs,wWhen,wValid,wMust]
theorem jw_lab (x:ByteArray):jw [⟨#[108,97,98,101,108]⟩,x]++[59,10]=tLab x:=by
 rw[qhi];simp[tLab,sb_lit]
theorem jw_bel (ls:List ByteArray)(p:Int × Int):jw [⟨#[98,101,108,111,119]⟩,labAt ls p.1,labAt ls p.2]++[59,10]=tBel ls p:=by
 rw[qhi];simp[tBel,sb_lit]
theorem jw_rol (ls:List ByteArray)(r:Rl):jw [⟨#[114,111,108,101]⟩,r.nm,⟨#[97,116]⟩,labAt ls r.lb]++[59,10]=tRol ls r:=by
 rw[qhi];simp[tRol,sb_lit]
theorem rW_len (word:ByteArray)(l:List Nx):(rW word l).length<=2:=by unfold rW;split <;> simp
theorem qjq (f:Fl):(syW f).length<=2:=by unfold syW;split <;> simp
theorem qfz (rs:List Rl)(l:List Int):(l.flatMap (byW rs)).length=2*l.length:=by
 induction l with
 | nil=>rfl
 | cons x r ih=>simp only[Zo,Yg,ih,Yw];simp[byW];omega
theorem fW_len {m:Fm}(hm:VfA m){f:Fl}(hf:FOk m.L.length m.R.length f):(fW m f).length<=200:=by
 have h1:=q93 hf.b
 have h2:=hm.nr
 have h3:=rW_len ⟨#[105,115]⟩ f.is
 have h4:=rW_len ⟨#[119,104,101,110]⟩ f.wh
 have h5:=rW_len ⟨#[118,97,108,105,100]⟩ f.va
 have h6:=rW_len ⟨#[109,117,115,116]⟩ f.mu
 have h7:=qjq f
 have h8:=qfz m.R f.bys
 have h9:(w5 m f).length=5:=rfl
 unfold fW
 simp only[Yg]
 omega
def Wds (w:World)(v:Value)(l:List ByteArray):Prop:=(v=.slice none 0 0/\l=[])∨∃g c,v=.slice (some ⟨g,0,none⟩) l.length c/\g<w.heap.size/\∀j x,l[j]? = some x->w.cell? ⟨g,j,none⟩=some (.string x)
theorem q70 (w:World)(r:Option Nat):w.grownBy w r:=⟨rfl,rfl,rfl,nR _,fun _ _ _=>rfl⟩
theorem q03 {w:World}{ops:Array Oper}{rest:List Oper}{o:Oper}{a:Act}{Q:Exit->Act->World->Prop}(hgd:o.guard=none)(s x:Operand)
 (ho:o.op=.call { callee:=.builtin .append,args:=#[s,x],argTypes:=#[23,23] }) (base:Nat) (v:Value) (ws:List ByteArray) (hs:a.eval s=v) (hown:w.ownsRow base 9 1 v ws.length (stV ws))
 (vx:Value) (l:List ByteArray) (hx:a.eval x=vx) (hW:Wds w vx l) (h63:ws.length+l.length<=1000000) (hbase:base<=w.heap.size)
 (h:∀v' w',w'.ownsRow base 9 1 v' (ws++l).length (stV (ws++l))->w.grownBy w' v.ownBlock->wpList Tryz.prog ops Q rest (a.put o.dst v') w'):wpList Tryz.prog ops Q (o :: rest) a w:=by
 obtain⟨i0,hi,hz0,hz1,hz2⟩:=info_parts qct
 rcases hW with ⟨rfl,rfl⟩ | ⟨g,c,rfl,hg,hc⟩
 . refine wpList_append_own_none hgd s x 23 ho base 9 i0 1 Tryz.underlying23 hi v ws.length (stV ws) hs hown hx ?_
   exact h v w (by simpa using hown) (q70 _ _)
 . refine wpList_append_own w hgd s x 23 ho base 9 i0 _ 1 16 Tryz.underlying23 hi hz0 hz1 hz2 rfl (by omega) v ws.length (stV ws) hs hown ⟨g,0,none⟩ l.length c (stV l) hx (by simp[stV]) (fun j u hu=>?_) (fun u hu=>?_) (by unfold maxLen;omega) (by omega) hbase (fun v' w' h1 h2 _=>h v' w' (by rw[Yg];simpa [stV] using h1) h2)
   . unfold stV at hu
     rw[Zk]at hu;cases hl:l[j]? with
     | none=>rw[hl]at hu;cases hu
     | some y =>
      rw[hl]at hu;cases hu;have:=hc j y hl;rw[show(⟨g,0,none⟩:Addr).add j=⟨g,j,none⟩ by
       by_cases e:j=0
       . subst e;simp[Addr.add]
       . simp[Addr.add,e]]
      exact this
   . obtain⟨y,-,rfl⟩:=Y8.1 hu
     rfl
theorem qk5 (w:World)(l:List ByteArray)(c:Nat):Wds (w.alloc (.cells (stV l).toArray 9)) (.slice (some ⟨w.heap.size,0,none⟩) l.length c) l:=by
 refine .inr ⟨w.heap.size,c,rfl,by simp,fun j x hx=>?_⟩
 have:=(Blk.new w 9 (stV l).toArray).cell j
 rw[this]
 simp[stV,hx]
theorem q2w (word:ByteArray)(a:Option Addr)(c:Nat)(l:List Nx)(w:World)(hr:ruleOk l=true)(hl:l.length<=9223372036854775807)(ha:NodL w a l)(hf:∀k,k<l.length->Fit (nf l k))(ht:Tabs w) :
 Calls Tryz.prog 173 #[.string word,.slice a l.length c] w fun r w'=>∃v,r=.returned v/\Wds w' v (rW word l)/\Below w.heap.size w w':=by
 by_cases h0:l.length=0
 . have h0':((l.length:Int)==0)=true:=by simp[h0]
   rw[show rW word l=[] by unfold rW;rw[Yy h0]];clear h0 hr ha hf ht;go_enter Tryz.func173,Tryz.ntmps173;go_wp2_with fail;go_ret;exact⟨_,rfl,.inl ⟨rfl,rfl⟩,bR _ _⟩
 . have h0':((l.length:Int)==0)=false:=Yf.2 (by omega)
   have hv:vxL l=true:=by simp only[ruleOk,Zs,Yq]at hr;exact hr.resolve_left h0
   have HC:=h_ (q0b a l.length c (nf l) w hl ha hf ht.ws ht.pw);rw[show vxB (nf l) l.length=true from hv,Yy rfl,show(top (nf l) l.length).t=txL l from rfl]at HC;rw[show rW word l=[word,txL l] by unfold rW;rw[Yu h0]];generalize txL l=t at *;clear h0 hr ha hf ht hv;go_enter Tryz.func173,Tryz.ntmps173;go_wp2_with fail;refine HC.u.mono ?_;rintro r W1 ⟨rfl,hb1⟩;have HB1:=h_ hb1;have HW:=h_ (qk5 W1 [word,t] 2);have HB2:=h_ (hb1.alloc hb1.size (.cells #[.string word,.string t] 9));clear hb1 HC;go_wp2_with fail;go_ret;exact⟨_,rfl,HW.u,HB2.u⟩
def TyW (w:World):Prop:=0<w.heap.size/\∀k:Nat,1<=k->k<=3->w.cell? ⟨0,k,none⟩=some (.string ⟨(tyName k).toArray⟩)
theorem TyW.mono {w w':World}(h:TyW w)(hb:Below w.heap.size w w'):TyW w':=⟨Y7 h.1 hb.size,fun k h1 h2=>(hb.cell h.1).trans (h.2 k h1 h2)⟩
section
variable {md:Region.Mode} {ops:Array Oper} {Q:Exit->Act->World->Prop} {S:World->Prop} {o:Oper} {a:Act} {fuel:Nat} {listed:Array Bool} {i:Nat} {w w':World}
theorem runY {v:Value}(d:Tmp)(hi:ops[i]? = some o)(hd:o.dst=some d)(hw:Region.wanted o (yielded ops a.tmps)=true)(hr:Region.ready md ops listed=[i])
 (hrun:(execOp a.eval o).run Tryz.prog w=.ok (.value v) w') (hS:S w') (h:wpAnyH Tryz.prog md ops Q S fuel (listed.setIfInBounds i true) { tmps:=a.tmps.setIfInBounds d v,defers:=a.defers } w'):wpAnyH Tryz.prog md ops Q S (fuel+1) listed a w :=
 wpAnyH_ready hr (by simp) (consRun d hi hd hw hrun hS h AllReadyH.nil)
end
theorem q8c (w:World)(l:List ByteArray)(h:l.length<=1000000):(w.alloc (.cells (stV l).toArray 9)).ownsRow w.heap.size 9 1 (.slice (some ⟨w.heap.size,0,none⟩) l.length l.length) l.length (stV l) :=
 ⟨by simp[stV],.inr ⟨w.heap.size,l.length,(stV l).toArray,rfl,nR _,(MapKept.heap_alloc w _).1,nR _,by unfold maxLen;omega,by simp[stV],by rw[Zh (by simp[stV])]⟩⟩
theorem q8z {V w w':World}{base n:Nat}{v:Value}{xs:List Value}(hb:Below base V w)(ho:w.ownsRow base 9 1 v n xs)(hg:w.grownBy w' v.ownBlock)(hs:base<=w.heap.size):Below base V w':=hb.grown hg hs (fun _ e=>q87 ho e)
theorem qan {w w':World}{base n:Nat}{v:Value}{xs:List Value}(h:w.ownsRow base 9 1 v n xs)(hb:Below w.heap.size w w'):w'.ownsRow base 9 1 v n xs :=
 h.kept (row:=none) ⟨hb.os,hb.tape,hb.output,hb.size,fun k hk _=>hb.block k hk⟩ (Classical.em _)
theorem q1i (m:Fm)(A:MA)(f:Fl)(FAd:FA)(w:World)(hv:VfA m)(ho:FOk m.L.length m.R.length f)(hff:FitF f)(ha:MSl w m A)(hs:FSl w f FAd)(ht:Tabs w)(hy:TyW w) :
 Calls Tryz.prog 148 #[mV m A,fV f FAd] w fun r w'=>∃a0 c0,r=.returned (.slice a0 (fW m f).length c0)/\(fW m f).length<=c0/\Strs w' a0 (fW m f)/\Below w.heap.size w w':=by
 obtain⟨al,alc,ap,apc,ar,arc,af,afc,afa⟩:=A
 obtain⟨ab,abc,ai,aic,ah,ahc,av,avc,au,auc⟩:=FAd
 unfold mV fV
 dsimp only
 have HK:=h_ ((Blk.new w 28 (Jb al m alc ap apc ar arc af afc)).alloc (.cells (Ja f ab abc ai aic ah ahc av avc au auc) 42))
 have HKf:=h_ (Blk.new (w.alloc (.cells (Jb al m alc ap apc ar arc af afc) 28)) 42 (Ja f ab abc ai aic ah ahc av avc au auc))
 rw[Yv]at HKf
 have HB:=h_ (((bR w.heap.size w).alloc (nR _) (.cells (Jb al m alc ap apc ar arc af afc) 28)).alloc (by simp) (.cells (Ja f ab abc ai aic ah ahc av avc au auc) 42))
 obtain⟨W0,hW0⟩:=Nq ((w.alloc (.cells (Jb al m alc ap apc ar arc af afc) 28)).alloc (.cells (Ja f ab abc ai aic ah ahc av avc au auc) 42))
 rw[hW0]at HK HKf HB
 have HS:=h_ (ha.mono HB.u);have HSf:=h_ (hs.mono HB.u);have HT:=h_ (ht.mono HB.u);have HYt:=h_ (hy.mono HB.u)
 have HV:=h_ hv;have HO:=h_ ho;have HFf:=h_ hff
 obtain⟨t,ht1,ht2,ht3⟩:∃t:Nat,f.ty=t/\1<=t/\t<=3:=⟨f.ty.toNat,by have:=ho.t1;omega,by have:=ho.t1;omega,by have:=ho.t2;omega⟩
 clear ha hs ht hy hv ho hff
 obtain⟨y0,y1,y2,y3⟩:=quad HK.u
 obtain⟨x0,x1,x2,x3,x4,x5,x6,x7,x8⟩:=nine HKf.u
 have c0:=HYt.u.2 t ht2 ht3
 rw[<- ht1]at c0
 obtain⟨Y,hY⟩:∃Y:ByteArray,⟨(tyName f.ty).toArray⟩=Y:=⟨_,rfl⟩
 rw[hY]at c0
 have HYe:=h_ hY
 rw[ht1]at x1
 have ht4:(t:Int)<4:=by omega
 have HT1:=h_ ht1
 clear hY ht1
 go_enter Tryz.func148,Tryz.ntmps148
 go_wp2_with fail
 try rw[hW0]
 clear hW0
 refine wp_region_held_drew (S:=fun w'=>w'.cell? ⟨w.heap.size+1,0,none⟩=some (.string f.nm)/\w'.cell? ⟨w.heap.size+1,1,none⟩=some (J9 t)/\w'.cell? ⟨0,t,none⟩=some (.string Y)) (by kernel_rfl) ⟨x0,x1,c0⟩ (fun zz=>?_)
 refine tj 0 8 (Yc (w.heap.size+1) 0) zz ?_
 refine tj 1 9 (.string f.nm) zz ?_
 refine tj 2 10 (Yc (w.heap.size+1) 1) zz ?_
 refine tj 3 11 (J9 t) zz ?_
 simp only[sX,sY,sZ]
 refine tj 4 12 (Yc 0 t) zz ?_
 refine tj 5 13 (.string Y) zz ?_
 simp only[sX,sY,sZ]
 have HD:Hi (Below W0.heap.size W0 W0.drew):=h_ (bR _ _).drew
 replace HK:=h_ (HK.u.mono HD.u HK.u.lt);replace HKf:=h_ (HKf.u.mono HD.u HKf.u.lt);replace HS:=h_ (HS.u.mono HD.u);replace HSf:=h_ (HSf.u.mono HD.u);replace HT:=h_ (HT.u.mono HD.u);replace HYt:=h_ (HYt.u.mono HD.u);replace HB:=h_ (HB.u.trans (HD.u.mono HB.u.size))
 obtain⟨V,hV⟩:=Nq W0.drew
 rw[hV]at HK HKf HS HSf HT HYt HB zz⊢
 clear hV HD y0 y1 y2 y3 x0 x1 x2 x3 x4 x5 x6 x7 x8 c0
 have HBv:=h_ ((bR V.heap.size V).alloc (nR _) (.cells (Jz f.nm Y) 9))
 replace zz:(V.alloc (.cells (Jz f.nm Y) 9)).cell? ⟨w.heap.size+1,0,none⟩=some (.string f.nm)/\(V.alloc (.cells (Jz f.nm Y) 9)).cell? ⟨w.heap.size+1,1,none⟩=some (J9 t)/\(V.alloc (.cells (Jz f.nm Y) 9)).cell? ⟨0,t,none⟩=some (.string Y):=⟨(HBv.u.cell HKf.u.lt).trans zz.1,(HBv.u.cell HKf.u.lt).trans zz.2.1,(HBv.u.cell HYt.u.1).trans zz.2.2⟩
 refine runY (i:=6) (v:=.slice (some ⟨V.heap.size,0,none⟩) 5 5) (w':=V.alloc (.cells (Jz f.nm Y) 9)) 14 rfl rfl (by rfl) (by kernel_rfl) (by simp[execOp,go_sem]) zz ?_
 simp only[sX,sY,sZ]
 refine tj 7 5 (.slice (some ⟨V.heap.size,0,none⟩) 5 5) zz ?_
 simp only[sX,sY,sZ]
 refine wpAnyH_done (by kernel_rfl) ?_ _
 clear zz
 have hsp:(f.lb<0/\lbT m f=⟨#[97,117,116,111]⟩)∨∃n:Nat,f.lb=n/\(n:Int)<m.L.length/\∃b o,al=some ⟨b,o,none⟩/\b<V.heap.size/\V.cell? ⟨b,o+n,none⟩=some (.string (lbT m f)):=by
  by_cases h:f.lb<0
  . exact .inl ⟨h,by unfold lbT;rw[Yy h]⟩
  . have hl2:=HO.u.l2
    have hnl:f.lb.toNat<m.L.length:=(by omega);obtain⟨b,o,e,hb,hc⟩:=HS.u.l f.lb.toNat hnl;refine .inr ⟨f.lb.toNat,by omega,by omega,b,o,e,hb,?_⟩;rw[hc];unfold lbT;rw[Yu h,<- qab hnl,show((f.lb.toNat:Nat):Int)=f.lb by omega]
 have HO0:Hi ((V.alloc (.cells #[.string ⟨#[102,105,101,108,100]⟩,.string f.nm,.string Y,.string ⟨#[97,116]⟩,.string (lbT m f)] 9)).ownsRow V.heap.size 9 1 (.slice (some ⟨V.heap.size,0,none⟩) 5 5) (w5 m f++(f.bys.take 0).flatMap (byW m.R)).length (stV (w5 m f++(f.bys.take 0).flatMap (byW m.R)))):=h_ (by
  have h:=q8c V (w5 m f) (by show 5<=_;omega);unfold w5 at h⊢;rw[HYe.u]at h⊢;simpa [stV] using h)
 have HBz:Hi (∀ob,Below V.heap.size V (V.alloc ob)):=h_ fun ob=>(bR _ _).alloc (nR _) ob
 have hvsz:w.heap.size+1<V.heap.size:=HKf.u.lt
 have hbysl:f.bys.length<=64:=Ys (q93 HO.u.b) HV.u.nr
 rcases hsp with ⟨hlb,hlt⟩ | ⟨n,hlb,hnl,b,o,rfl,hbv,hc⟩
 case' inl =>
  have hlb':¬ 0<=f.lb:=by omega
  have x2:∀ob,(V.alloc ob).cell? ⟨w.heap.size+1,2,none⟩=some (J9 f.lb):=fun ob=>(HKf.u.alloc ob).cell 2;have x3:∀ob,(V.alloc ob).cell? ⟨w.heap.size+1,3,none⟩=some (.slice ab f.bys.length abc):=fun ob=>(HKf.u.alloc ob).cell 3;go_wp2_with fail
 case' inr =>
  have hlb':(0:Int)<=n:=by omega
  have x2:∀ob,(V.alloc ob).cell? ⟨w.heap.size+1,2,none⟩=some (J9 n):=fun ob=>by rw[<- hlb];exact(HKf.u.alloc ob).cell 2
  have x3:∀ob,(V.alloc ob).cell? ⟨w.heap.size+1,3,none⟩=some (.slice ab f.bys.length abc):=fun ob=>(HKf.u.alloc ob).cell 3;have y0:∀ob,(V.alloc ob).cell? ⟨w.heap.size,0,none⟩=some (.slice (some ⟨b,o,none⟩) m.L.length alc):=fun ob=>(HK.u.alloc ob).cell 0;have l0:∀ob,(V.alloc ob).cell? ⟨b,o+n,none⟩=some (.string (lbT m f)):=fun ob=>(((bR V.heap.size V).alloc (nR _) ob).cell (p:=⟨b,o+n,none⟩) hbv).trans hc;have HLB:=h_ hlb;clear hlb hc;go_wp2_with fail
 all_goals
  clear x2 x3
  try clear y0 l0
  go_loopw [5,29] (fun v i wr=>∃j:Nat,j<=f.bys.length/\i=J9 j/\wr.ownsRow V.heap.size 9 1 v (w5 m f++(f.bys.take j).flatMap (byW m.R)).length (stV (w5 m f++(f.bys.take j).flatMap (byW m.R)))/\Below V.heap.size V wr) (fun _ i _=>f.bys.length - (intOf i).toNat)
  case atStart=>exact⟨0,nZ _,rfl,by first | exact HO0.u | (have h:=HO0.u;rw[hlt]at h;exact h),HBz.u _⟩
  case round =>
   obtain⟨j,hj,rfl,hO,hb⟩:=hrel;have HOj:=h_ hO;have HBg:=h_ hb;have HKr:=mB HK hb;have HSr:=h_ (HS.u.mono hb);have HSg:=h_ (HSf.u.mono hb);have HTg:=h_ (HT.u.mono hb);have HKg:=mB HKf hb;have hws:=hb.size;have hlen:(w5 m f++(f.bys.take j).flatMap (byW m.R)).length<=133:=by
    rw[Yg,qfz,Y3];show 5+_<=_;omega
   clear hO hb;by_cases hjl:j<f.bys.length
   . have hjl':(j:Int)<f.bys.length:=by omega
     obtain⟨b2,o2,rfl,-,z0⟩:=HSg.u.b j hjl;have hin:inR m.R.length f.bys[j]=true:=by
      have:=HO.u.b;unfold bysOk at this;rw[Yp,Y4]at this;exact this.1 _ (Yk hjl)
     dsimp only at z0;rw[show f.bys.getD j 0=f.bys[j] by rw[Yl,Yj hjl];rfl]at z0;have HT3:Hi (w5 m f++(f.bys.take (j+1)).flatMap (byW m.R)=w5 m f++(f.bys.take j).flatMap (byW m.R)++byW m.R f.bys[j]):=h_ (by rw[Yr hjl,Zq];simp);obtain⟨r,hr,hrl⟩:=qgy hin;rw[hr]at z0 HT3;obtain⟨pb,po,rfl,-,z1,z2⟩:=HSr.u.r r hrl;rw[show byW m.R (r:Int)=[⟨#[98,121]⟩,m.R[r].nm] by unfold byW;rw[qb3 hrl]]at HT3;have hrl':(r:Int)<m.R.length:=(by omega);have hbl:=HFf.u.bl;clear hin hr;generalize m.R[r].nm=x at *;obtain⟨v0,v1,v2,v3⟩:=quad HKr.u;obtain⟨WJ,hWJ⟩:=Nq (w5 m f++(f.bys.take j).flatMap (byW m.R));rw[hWJ]at HOj hlen HT3;clear hWJ;go_wp2_with (at_builtin;refine q03 rfl _ _ rfl V.heap.size _ WJ rfl (HOj.u.alloc _) _ [⟨#[98,121]⟩,x] rfl (qk5 wr [⟨#[98,121]⟩,x] 2) (by show _+2<=_;omega) (by simp;omega) ?_);intro v' w3 ho' hgr';have HB2:=h_ (q8z (HBg.u.alloc (by omega) _) (HOj.u.alloc _) hgr' (by simp;omega));have HO2:Hi (w3.ownsRow V.heap.size 9 1 v' (w5 m f++(f.bys.take (j+1)).flatMap (byW m.R)).length (stV (w5 m f++(f.bys.take (j+1)).flatMap (byW m.R)))):=h_ (by rw[HT3.u,Yg];exact ho');clear ho' hgr' hlen;go_wp2_with fail;go_roundw
     case rel=>first | exact⟨j+1,by omega,by go_num,HO2.u,HB2.u⟩ | ((repeat apply Exists.intro);exact⟨⟨j+1,by omega,by go_num,HO2.u,HB2.u⟩,rfl⟩)
     case measure=>simp[intOf];omega
   obtain rfl:j=f.bys.length:=by omega
   have hjl':¬ (f.bys.length:Int)<(f.bys.length:Int):=by omega
   rw[Zm]at HOj hlen;obtain⟨WS,hWS⟩:=Nq (w5 m f++f.bys.flatMap (byW m.R));rw[hWS]at HOj hlen;have HWS:=h_ hWS;clear hWS HKr HSr hjl;obtain⟨x0,x1,x2,x3,x4,x5,x6,x7,x8⟩:=nine HKg.u;go_wp2_with fail;refine(q2w ⟨#[105,115]⟩ ai aic f.is wr HO.u.i HFf.u.il HSg.u.i HFf.u.i HTg.u).mono ?_;rintro r Wq1 ⟨vq1,rfl,hwd,hbq⟩;have HWd1:=h_ hwd;have HOq1:=h_ (qan HOj.u hbq);have HBq1:=mT HBg hbq;replace HSg:=h_ (HSg.u.mono hbq);replace HTg:=h_ (HTg.u.mono hbq);replace HKg:=mB HKg hbq;have hszq1:=HBq1.u.size;have hrw1:=rW_len ⟨#[105,115]⟩ f.is;clear hwd hbq x0 x1 x2 x3 x4 x5 x6 x7 x8;obtain⟨L1,hL1⟩:∃L,rW ⟨#[105,115]⟩ f.is=L:=⟨_,rfl⟩;rw[hL1]at HWd1 hrw1;have HL1:=h_ hL1;clear hL1;go_wp2_with (at_builtin;refine q03 rfl _ _ rfl V.heap.size _ WS rfl HOq1.u _ L1 rfl HWd1.u (by omega) (by omega) ?_);intro vr1 Wr1 hor hgr;have hbr:Below V.heap.size Wq1 Wr1:=q8z (bR _ _) HOq1.u hgr (by omega);have HBr1:=h_ (HBq1.u.trans hbr);have HOr1:=h_ (show Wr1.ownsRow V.heap.size 9 1 vr1 (WS++L1).length (stV (WS++L1)) by rw[Yg];exact hor);replace HSg:=h_ (HSf.u.mono HBr1.u);replace HTg:=h_ (HT.u.mono HBr1.u);replace HKg:=h_ (HKf.u.mono HBr1.u HKf.u.lt);obtain⟨x0,x1,x2,x3,x4,x5,x6,x7,x8⟩:=nine HKg.u;have hlr1:(WS++L1).length<=WS.length+L1.length:=Nat.le_of_eq Yg;obtain⟨WS1,hWS1⟩:∃W,WS++L1=W:=⟨_,rfl⟩;rw[hWS1]at HOr1 hlr1;have HWS1:=h_ hWS1;clear hor hgr hbr hWS1 HWd1 HOq1;go_wp2_with fail;refine(q2w ⟨#[119,104,101,110]⟩ ah ahc f.wh Wr1 HO.u.h HFf.u.hl HSg.u.h HFf.u.h HTg.u).mono ?_;rintro r Wq2 ⟨vq2,rfl,hwd,hbq⟩;have HWd2:=h_ hwd;have HOq2:=h_ (qan HOr1.u hbq);have HBq2:=mT HBr1 hbq;replace HSg:=h_ (HSg.u.mono hbq);replace HTg:=h_ (HTg.u.mono hbq);replace HKg:=mB HKg hbq;have hszq2:=HBq2.u.size;have hrw2:=rW_len ⟨#[119,104,101,110]⟩ f.wh;clear hwd hbq x0 x1 x2 x3 x4 x5 x6 x7 x8;obtain⟨L2,hL2⟩:∃L,rW ⟨#[119,104,101,110]⟩ f.wh=L:=⟨_,rfl⟩;rw[hL2]at HWd2 hrw2;have HL2:=h_ hL2;clear hL2;go_wp2_with (at_builtin;refine q03 rfl _ _ rfl V.heap.size _ WS1 rfl HOq2.u _ L2 rfl HWd2.u (by omega) (by omega) ?_);intro vr2 Wr2 hor hgr;have hbr:Below V.heap.size Wq2 Wr2:=q8z (bR _ _) HOq2.u hgr (by omega);have HBr2:=h_ (HBq2.u.trans hbr);have HOr2:=h_ (show Wr2.ownsRow V.heap.size 9 1 vr2 (WS1++L2).length (stV (WS1++L2)) by rw[Yg];exact hor);replace HSg:=h_ (HSf.u.mono HBr2.u);replace HTg:=h_ (HT.u.mono HBr2.u);replace HKg:=h_ (HKf.u.mono HBr2.u HKf.u.lt);obtain⟨x0,x1,x2,x3,x4,x5,x6,x7,x8⟩:=nine HKg.u;have hlr2:(WS1++L2).length<=WS1.length+L2.length:=Nat.le_of_eq Yg;obtain⟨WS2,hWS2⟩:∃W,WS1++L2=W:=⟨_,rfl⟩;rw[hWS2]at HOr2 hlr2;have HWS2:=h_ hWS2;clear hor hgr hbr hWS2 HWd2 HOq2;go_wp2_with fail;refine(q2w ⟨#[118,97,108,105,100]⟩ av avc f.va Wr2 HO.u.v HFf.u.vl HSg.u.v HFf.u.v HTg.u).mono ?_;rintro r Wq3 ⟨vq3,rfl,hwd,hbq⟩;have HWd3:=h_ hwd;have HOq3:=h_ (qan HOr2.u hbq);have HBq3:=mT HBr2 hbq;replace HSg:=h_ (HSg.u.mono hbq);replace HTg:=h_ (HTg.u.mono hbq);replace HKg:=mB HKg hbq;have hszq3:=HBq3.u.size;have hrw3:=rW_len ⟨#[118,97,108,105,100]⟩ f.va;clear hwd hbq x0 x1 x2 x3 x4 x5 x6 x7 x8;obtain⟨L3,hL3⟩:∃L,rW ⟨#[118,97,108,105,100]⟩ f.va=L:=⟨_,rfl⟩;rw[hL3]at HWd3 hrw3;have HL3:=h_ hL3;clear hL3;go_wp2_with (at_builtin;refine q03 rfl _ _ rfl V.heap.size _ WS2 rfl HOq3.u _ L3 rfl HWd3.u (by omega) (by omega) ?_);intro vr3 Wr3 hor hgr;have hbr:Below V.heap.size Wq3 Wr3:=q8z (bR _ _) HOq3.u hgr (by omega);have HBr3:=h_ (HBq3.u.trans hbr);have HOr3:=h_ (show Wr3.ownsRow V.heap.size 9 1 vr3 (WS2++L3).length (stV (WS2++L3)) by rw[Yg];exact hor);replace HSg:=h_ (HSf.u.mono HBr3.u);replace HTg:=h_ (HT.u.mono HBr3.u);replace HKg:=h_ (HKf.u.mono HBr3.u HKf.u.lt);obtain⟨x0,x1,x2,x3,x4,x5,x6,x7,x8⟩:=nine HKg.u;have hlr3:(WS2++L3).length<=WS2.length+L3.length:=Nat.le_of_eq Yg;obtain⟨WS3,hWS3⟩:∃W,WS2++L3=W:=⟨_,rfl⟩;rw[hWS3]at HOr3 hlr3;have HWS3:=h_ hWS3;clear hor hgr hbr hWS3 HWd3 HOq3;have hsy:=HFf.u.sy;have hvl:=HFf.u.vl;by_cases hva:f.va.length=0
   . have hva':¬ (0:Int)<f.va.length:=by omega
     have hva2:¬ 0<f.va.length:=(by omega);have hva3:decide (0<f.va.length)=false:=Yi hva2;have HSY:Hi (syW f=[]):=h_ (by unfold syW;rw[Yy hva]);clear hva;go_wp2_with fail;refine(q2w ⟨#[109,117,115,116]⟩ au auc f.mu Wr3 HO.u.u HFf.u.ul HSg.u.u HFf.u.u HTg.u).mono ?_;rintro r Wq4 ⟨vq4,rfl,hwd,hbq⟩;have HWd4:=h_ hwd;have HOq4:=h_ (qan HOr3.u hbq);have HBq4:=mT HBr3 hbq;have hszq4:=HBq4.u.size;have hrw4:=rW_len ⟨#[109,117,115,116]⟩ f.mu;clear hwd hbq x0 x1 x2 x3 x4 x5 x6 x7 x8;obtain⟨L4,hL4⟩:∃L,rW ⟨#[109,117,115,116]⟩ f.mu=L:=⟨_,rfl⟩;rw[hL4]at HWd4 hrw4;have HL4:=h_ hL4;clear hL4;go_wp2_with (at_builtin;refine q03 rfl _ _ rfl V.heap.size _ WS3 rfl HOq4.u _ L4 rfl HWd4.u (by omega) (by omega) ?_);intro vr4 Wr4 hor hgr;have HBr4:=h_ (HB.u.trans ((HBq4.u.trans (q8z (bR _ _) HOq4.u hgr (by omega))).mono HB.u.size));have HE:Hi (WS3++L4=fW m f):=h_ (by
      rw[<- HWS3.u,<- HWS2.u,<- HWS1.u,<- HWS.u,<- HL4.u,<- HL3.u,<- HL2.u,<- HL1.u];unfold fW;rw[HSY.u];simp)
     replace hor:=(show Wr4.ownsRow V.heap.size 9 1 vr4 (fW m f).length (stV (fW m f)) by rw[<- HE.u,Yg];exact hor);obtain⟨a1,c1,rfl,hcc,hS⟩:=q4c hor;have HS1:=h_ hS;clear hor hgr hS HWd4 HOq4;go_wp2_with fail;go_ret
     first | exact⟨_,⟨_,rfl⟩,hcc,HS1.u,HBr4.u⟩ | exact⟨_,_,rfl,hcc,HS1.u,HBr4.u⟩
   . have hva':(0:Int)<f.va.length:=by omega
     have hva2:0<f.va.length:=(by omega);have hva3:decide (0<f.va.length)=true:=Ym hva2;obtain⟨SH,hSH⟩:=Nq ((⟨#[34]⟩++f.sy++⟨#[34]⟩:ByteArray));have HSY:Hi (syW f=[⟨#[115,97,121,115]⟩,SH]):=h_ (by unfold syW;rw[Yu hva,hSH]);have HSh:Hi (showB 3 0 f.sy=SH):=h_ (by
      rw[<- hSH];unfold showB;rw[Yy (by unfold okVal;simp[HO.u.sy])];simp)
     clear hva hSH;go_wp2_with fail;refine(q30 f.sy Wr3).mono ?_;rintro r Ws1 ⟨rfl,hbs1⟩;have HBs1:=h_ hbs1;replace HTg:=h_ (HTg.u.mono hbs1);clear hbs1;go_wp2_with fail;refine(q3e 3 0 f.sy Ws1 hsy (by omega) (by omega) HTg.u.pw).mono ?_;rintro r Ws2 ⟨rfl,hbs2⟩;rw[HSh.u];have HBs2:=mT HBs1 hbs2;have HOs:=h_ (qan HOr3.u HBs2.u);have HBs:=h_ (HBr3.u.trans (HBs2.u.mono HBr3.u.size));have hszs:=HBs.u.size;clear hbs2 x0 x1 x2 x3 x4 x5 x6 x7 x8;go_wp2_with (at_builtin;refine q03 rfl _ _ rfl V.heap.size _ WS3 rfl (HOs.u.alloc _) _ [⟨#[115,97,121,115]⟩,SH] rfl (qk5 Ws2 [⟨#[115,97,121,115]⟩,SH] 2) (by show _+2<=_;omega) (by simp;omega) ?_);intro vr5 Wr5 hor hgr;have HBr5:=h_ (q8z (HBs.u.alloc (by omega) _) (HOs.u.alloc _) hgr (by simp;omega));have hlr5:(WS3++[⟨#[115,97,121,115]⟩,SH]).length<=WS3.length+2:=Nat.le_of_eq Yg;have HOr5:=h_ (show Wr5.ownsRow V.heap.size 9 1 vr5 (WS3++[⟨#[115,97,121,115]⟩,SH]).length (stV (WS3++[⟨#[115,97,121,115]⟩,SH])) by rw[Yg];exact hor);replace HSg:=h_ (HSf.u.mono HBr5.u);replace HTg:=h_ (HT.u.mono HBr5.u);replace HKg:=h_ (HKf.u.mono HBr5.u HKf.u.lt);obtain⟨x0,x1,x2,x3,x4,x5,x6,x7,x8⟩:=nine HKg.u;obtain⟨WS5,hWS5⟩:∃W,WS3++[⟨#[115,97,121,115]⟩,SH]=W:=⟨_,rfl⟩;rw[hWS5]at HOr5 hlr5;have HWS5:=h_ hWS5;clear hor hgr hWS5 HOs;go_wp2_with fail;refine(q2w ⟨#[109,117,115,116]⟩ au auc f.mu Wr5 HO.u.u HFf.u.ul HSg.u.u HFf.u.u HTg.u).mono ?_;rintro r Wq4 ⟨vq4,rfl,hwd,hbq⟩;have HWd4:=h_ hwd;have HOq4:=h_ (qan HOr5.u hbq);have HBq4:=mT HBr5 hbq;have hszq4:=HBq4.u.size;have hrw4:=rW_len ⟨#[109,117,115,116]⟩ f.mu;clear hwd hbq x0 x1 x2 x3 x4 x5 x6 x7 x8;obtain⟨L4,hL4⟩:∃L,rW ⟨#[109,117,115,116]⟩ f.mu=L:=⟨_,rfl⟩;rw[hL4]at HWd4 hrw4;have HL4:=h_ hL4;clear hL4;go_wp2_with (at_builtin;refine q03 rfl _ _ rfl V.heap.size _ WS5 rfl HOq4.u _ L4 rfl HWd4.u (by omega) (by omega) ?_);intro vr4 Wr4 hor hgr;have HBr4:=h_ (HB.u.trans ((HBq4.u.trans (q8z (bR _ _) HOq4.u hgr (by omega))).mono HB.u.size));have HE:Hi (WS5++L4=fW m f):=h_ (by
      rw[<- HWS5.u,<- HWS3.u,<- HWS2.u,<- HWS1.u,<- HWS.u,<- HL4.u,<- HL3.u,<- HL2.u,<- HL1.u];unfold fW;rw[HSY.u];simp)
     replace hor:=(show Wr4.ownsRow V.heap.size 9 1 vr4 (fW m f).length (stV (fW m f)) by rw[<- HE.u,Yg];exact hor);obtain⟨a1,c1,rfl,hcc,hS⟩:=q4c hor;have HS1:=h_ hS;clear hor hgr hS HWd4 HOq4;go_wp2_with fail;go_ret
     first | exact⟨_,⟨_,rfl⟩,hcc,HS1.u,HBr4.u⟩ | exact⟨_,_,rfl,hcc,HS1.u,HBr4.u⟩
theorem qey (w:World)(l:List ByteArray):Strs (w.alloc (.cells (stV l).toArray 9)) (some ⟨w.heap.size,0,none⟩) l:=fun k hk=>by
 refine⟨w.heap.size,0,rfl,by simp,?_⟩
 have:=(Blk.new w 9 (stV l).toArray).cell k
 rw[Zi,this]
 simp[stV,List.getElem?_eq_getElem hk]
theorem bl_new (w:World):Bl (w.alloc (.cells #[.pointer none,Ya] 176)) w.heap.size w.heap.size [] :=
 .inl ⟨nR _,Ya,(MapKept.heap_alloc w _).1,World.ownsRowF_of (World.ownsRow_nil _ _ _ _),fun h=>by cases h⟩
theorem q07 (B b:Nat)(l:List UInt8)(w:World)(h:Bl w B b l):Calls Tryz.prog 149 #[Yc b 0] w fun e w'=>e=.returned (.string ⟨l.toArray⟩)/\Below B w w' :=
 (Any.Builder_String_any_f Tryz.lays169 Tryz.Builder_Extra_169 B b l w h h.le).mono fun _ _ ⟨h1,_,h3⟩=>⟨h1,h3⟩
theorem q08 (m:Fm)(A:MA)(w:World)(hf:FitM m)(hv:VfA m)(ha:MSl w m A)(ht:Tabs w)(hy:TyW w) :
 Calls Tryz.prog 114 #[mV m A] w fun r w'=>r=.returned (.string ⟨(cT m).toArray⟩)/\Below w.heap.size w w':=by
 obtain⟨al,alc,ap,apc,ar,arc,af,afc,afa⟩:=A
 unfold mV
 dsimp only
 have HK:=h_ ((Blk.new w 28 (Jb al m alc ap apc ar arc af afc)).alloc (.cells #[.pointer none,Ya] 176))
 have HB:=h_ (((bR w.heap.size w).alloc (nR _) (.cells (Jb al m alc ap apc ar arc af afc) 28)).alloc (by simp) (.cells #[.pointer none,Ya] 176))
 have HBl:=h_ (bl_new (w.alloc (.cells (Jb al m alc ap apc ar arc af afc) 28)))
 rw[Yv]at HBl
 obtain⟨W0,hW0⟩:=Nq ((w.alloc (.cells (Jb al m alc ap apc ar arc af afc) 28)).alloc (.cells #[.pointer none,Ya] 176))
 have hsz:w.heap.size+2<=W0.heap.size:=by rw[<- hW0];simp
 rw[hW0]at HK HB HBl
 have HS:=h_ ha;have HF:=h_ hf;have HV:=h_ hv;have HT:=h_ ht;have HY:=h_ hy
 have nl:=hv.nl;have np:=hv.np;have nr:=hv.nr;have nfl:=hv.nf
 clear ha hf hv ht hy
 obtain⟨y0,y1,y2,y3⟩:=quad HK.u
 go_enter Tryz.func114,Tryz.ntmps114
 go_wp2_with fail
 try rw[hW0]
 clear hW0 y0 y1 y2 y3
 go_loopw [15] (fun i wr=>∃k:Nat,k<=m.L.length/\i=J9 k/\Bl wr (w.heap.size+1) (w.heap.size+1) (c1 m k)/\Below (w.heap.size+1) W0 wr) (fun i _=>m.L.length - (intOf i).toNat)
 case atStart=>exact⟨0,nZ _,rfl,by rw[qg1];exact HBl.u,bR _ _⟩
 case round =>
  clear HBl;obtain⟨k,hk,rfl,hbl,hb⟩:=hrel;have HBl:=h_ hbl;have HB1:=h_ hb;have HKr:=h_ (HK.u.mono hb (by omega));have HBw:=h_ (HB.u.trans (hb.mono (by omega)));have HSr:=h_ (HS.u.mono HBw.u);have hws:=hb.size;obtain⟨y0,y1,y2,y3⟩:=quad HKr.u;clear hbl hb;by_cases hlt:k<m.L.length
  . have hlt':(k:Int)<m.L.length:=by omega
    obtain⟨b,o,rfl,-,z0⟩:=HSr.u.l k hlt;have HT2:Hi (c1 m (k+1)=c1 m k++(jw [⟨#[108,97,98,101,108]⟩,m.L[k]]++[59,10])):=h_ (by rw[jw_lab];exact qg0 m k hlt);have HLn:Hi ((c1 m k).length+(jw [⟨#[108,97,98,101,108]⟩,m.L[k]]).length<=100000000):=h_ (by
     have h1:=c1_len HV.u (k+1);rw[HT2.u,Yg,Yg]at h1;omega)
    generalize m.L[k]=x at *;have HBa:=h_ ((bR wr.heap.size wr).alloc (nR _) (.cells #[.string ⟨#[108,97,98,101,108]⟩,.string x] 9));have HC:=h_ (q06 (w.heap.size+1) (w.heap.size+1) (c1 m k) (some ⟨wr.heap.size,0,none⟩) 2 [⟨#[108,97,98,101,108]⟩,x] _ (HBl.u.mono HBa.u) (by simp) (by simp) (by simp) (qey wr [⟨#[108,97,98,101,108]⟩,x]) HLn.u);go_wp2_with fail;refine HC.u.mono ?_;rintro r W5 ⟨rfl,hl5,hb5,-⟩;have HL5:Hi (Bl W5 (w.heap.size+1) (w.heap.size+1) (c1 m (k+1))):=h_ (by rw[HT2.u];exact hl5);have HB5:=h_ (HB1.u.trans ((HBa.u.mono (by omega)).trans hb5));clear hl5 hb5 y0 y1 y2 y3 z0;go_wp2_with fail;go_roundw
    case rel=>first | exact⟨k+1,by omega,by go_num,HL5.u,HB5.u⟩ | ((repeat apply Exists.intro);exact⟨⟨k+1,by omega,by go_num,HL5.u,HB5.u⟩,rfl⟩)
    case measure=>simp[intOf];omega
  obtain rfl:k=m.L.length:=by omega
  have hlt':¬ (m.L.length:Int)<(m.L.length:Int):=by omega
  have HBl0:Hi (Bl wr (w.heap.size+1) (w.heap.size+1) (c2 m 0)):=h_ (by rw[qg3];exact HBl.u);go_wp2_with fail;clear y0 y1 y2 y3 hlt hlt' HSr HKr HBw HBl hws;obtain⟨Wa,hWa⟩:∃W,wr=W:=⟨_,rfl⟩;rw[hWa]at HBl0 HB1⊢;clear hWa;go_loopw [26] (fun i wr=>∃k:Nat,k<=m.P.length/\i=J9 k/\Bl wr (w.heap.size+1) (w.heap.size+1) (c2 m k)/\Below (w.heap.size+1) W0 wr) (fun i _=>m.P.length - (intOf i).toNat)
  case atStart=>exact⟨0,nZ _,rfl,HBl0.u,HB1.u⟩
  case round =>
   clear HBl0 HB1;obtain⟨k,hk,rfl,hbl,hb⟩:=hrel;have HBl:=h_ hbl;have HB1:=h_ hb;have HKr:=h_ (HK.u.mono hb (by omega));have HBw:=h_ (HB.u.trans (hb.mono (by omega)));have HSr:=h_ (HS.u.mono HBw.u);have hws:=hb.size;obtain⟨y0,y1,y2,y3⟩:=quad HKr.u;clear hbl hb;by_cases hlt:k<m.P.length
   . have hlt':(k:Int)<m.P.length:=by omega
     obtain⟨pb,po,rfl,-,z0,z1⟩:=HSr.u.p k hlt;have HT2:Hi (c2 m (k+1)=c2 m k++(jw [⟨#[98,101,108,111,119]⟩,labAt m.L m.P[k].1,labAt m.L m.P[k].2]++[59,10])):=h_ (by rw[jw_bel];exact qg2 m k hlt);have HLn:Hi ((c2 m k).length+(jw [⟨#[98,101,108,111,119]⟩,labAt m.L m.P[k].1,labAt m.L m.P[k].2]).length<=100000000):=h_ (by
      have h1:=c2_len HV.u (k+1);rw[HT2.u,Yg,Yg]at h1;omega)
     obtain⟨hin1,hin2⟩:=HV.u.p _ (Yk hlt);generalize m.P[k]=u at *;obtain⟨u1,u2⟩:=u;dsimp only at hin1 hin2 z0 z1 HT2 HLn;obtain⟨lo,rfl,hlo⟩:=qgy hin1;obtain⟨hi,rfl,hhi⟩:=qgy hin2;rw[qab hlo,qab hhi]at HT2 HLn;obtain⟨b,o,rfl,hlbw,zw0⟩:=HS.u.l lo hlo;obtain⟨b',o',he,-,zw1⟩:=HS.u.l hi hhi;cases he;have hlo':(lo:Int)<m.L.length:=(by omega);have hhi':(hi:Int)<m.L.length:=(by omega);clear hin1 hin2;generalize m.L[lo]=x at *;generalize m.L[hi]=y at *;have HKp:=h_ (Blk.new wr 64 (Jp lo hi));have HBp:=h_ ((bR wr.heap.size wr).alloc (nR _) (.cells (Jp lo hi) 64));obtain⟨Wd,hWd⟩:=Nq (wr.alloc (.cells (Jp lo hi) 64));rw[hWd]at HKp HBp;have HKd:=h_ (HKr.u.mono HBp.u HKr.u.lt);have HBld:=h_ (HBl.u.mono HBp.u);have HBd:=h_ (HB1.u.trans (HBp.u.mono (by omega)));have hds:=HBp.u.size;have HBwd:=h_ (HBw.u.trans (HBp.u.mono (by omega)));have zz0:=(HBwd.u.cell (p:=⟨b,o+lo,none⟩) hlbw).trans zw0;have zz1:=(HBwd.u.cell (p:=⟨b,o+hi,none⟩) hlbw).trans zw1;clear zw0 zw1;go_wp2_with fail
     try rw[hWd]
     clear hWd y0 y1 y2 y3;refine wp_region_held_drew (S:=fun w'=>Blk w' w.heap.size 28 (Jl (some ⟨b,o,none⟩) m alc (some ⟨pb,po,none⟩) apc ar arc af afc)/\Blk w' wr.heap.size 64 [J9 lo,J9 hi]/\w'.cell? ⟨b,o+lo,none⟩=some (.string x)/\w'.cell? ⟨b,o+hi,none⟩=some (.string y)) (by kernel_rfl) ⟨HKd.u,HKp.u,zz0,zz1⟩ (fun zz=>?_);refine tj 0 30 (Yc w.heap.size 0) zz ?_;refine tj 1 31 (.slice (some ⟨b,o,none⟩) m.L.length alc) zz ?_ (hy:=fun w hS=>by obtain⟨h1,h2,q2,q3⟩:=hS;obtain⟨p0,p1,p2,p3⟩:=quad h1;obtain⟨r0,r1⟩:=duo h2;simp[execOp,go_sem, *]);refine tj 2 32 (Yc wr.heap.size 0) zz ?_;refine tj 3 33 (J9 lo) zz ?_ (hy:=fun w hS=>by obtain⟨h1,h2,q2,q3⟩:=hS;obtain⟨p0,p1,p2,p3⟩:=quad h1;obtain⟨r0,r1⟩:=duo h2;simp[execOp,go_sem, *]);simp only[sX,sY,sZ];refine tj 4 34 (Yc b (o+lo)) zz ?_;refine tj 5 35 (.string x) zz ?_ (hy:=fun w hS=>by obtain⟨h1,h2,q2,q3⟩:=hS;obtain⟨p0,p1,p2,p3⟩:=quad h1;obtain⟨r0,r1⟩:=duo h2;simp[execOp,go_sem, *]);refine tj 6 36 (Yc w.heap.size 0) zz ?_;refine tj 7 37 (.slice (some ⟨b,o,none⟩) m.L.length alc) zz ?_ (hy:=fun w hS=>by obtain⟨h1,h2,q2,q3⟩:=hS;obtain⟨p0,p1,p2,p3⟩:=quad h1;obtain⟨r0,r1⟩:=duo h2;simp[execOp,go_sem, *]);simp only[sX,sY,sZ];refine tj 8 38 (Yc wr.heap.size 1) zz ?_;refine tj 9 39 (J9 hi) zz ?_ (hy:=fun w hS=>by obtain⟨h1,h2,q2,q3⟩:=hS;obtain⟨p0,p1,p2,p3⟩:=quad h1;obtain⟨r0,r1⟩:=duo h2;simp[execOp,go_sem, *]);refine tj 10 40 (Yc b (o+hi)) zz ?_;refine tj 11 41 (.string y) zz ?_ (hy:=fun w hS=>by obtain⟨h1,h2,q2,q3⟩:=hS;obtain⟨p0,p1,p2,p3⟩:=quad h1;obtain⟨r0,r1⟩:=duo h2;simp[execOp,go_sem, *]);simp only[sX,sY,sZ];have HDd:Hi (Below Wd.heap.size Wd Wd.drew):=h_ (bR _ _).drew;replace HBl:=h_ (HBld.u.mono HDd.u);replace HBd:=h_ (HBd.u.trans (HDd.u.mono (by omega)));obtain⟨V,hV⟩:=Nq Wd.drew;have hvs:=HBd.u.size;rw[hV]at HBl HBd zz hvs⊢;clear hV HDd HBld;have HBa:=h_ ((bR V.heap.size V).alloc (nR _) (.cells (J6 x y) 9));have HStr:=h_ (qey V [⟨#[98,101,108,111,119]⟩,x,y]);replace HBl:=h_ (HBl.u.mono HBa.u);replace zz:Blk (V.alloc (.cells (J6 x y) 9)) w.heap.size 28 (Jl (some ⟨b,o,none⟩) m alc (some ⟨pb,po,none⟩) apc ar arc af afc)/\Blk (V.alloc (.cells (J6 x y) 9)) wr.heap.size 64 [J9 lo,J9 hi]/\(V.alloc (.cells (J6 x y) 9)).cell? ⟨b,o+lo,none⟩=some (.string x)/\(V.alloc (.cells (J6 x y) 9)).cell? ⟨b,o+hi,none⟩=some (.string y):=⟨zz.1.mono HBa.u zz.1.lt,zz.2.1.mono HBa.u zz.2.1.lt,(HBa.u.cell (p:=⟨b,o+lo,none⟩) (show b<V.heap.size by omega)).trans zz.2.2.1,(HBa.u.cell (p:=⟨b,o+hi,none⟩) (show b<V.heap.size by omega)).trans zz.2.2.2⟩;refine runY (i:=12) (v:=.slice (some ⟨V.heap.size,0,none⟩) 3 3) (w':=V.alloc (.cells (J6 x y) 9)) 42 rfl rfl (by rfl) (by kernel_rfl) (by simp[execOp,go_sem]) zz ?_;simp only[sX,sY,sZ];obtain⟨V2,hV2⟩:=Nq (V.alloc (.cells (J6 x y) 9));replace HBd:=h_ (HBd.u.trans (HBa.u.mono (by omega)))
     change Hi (Bl (V.alloc (.cells (J6 x y) 9)) _ _ _) at HBl
     change Hi (Strs (V.alloc (.cells (J6 x y) 9)) _ _) at HStr
     rw[hV2]at HBl HStr zz HBd⊢;have hv2:=HBd.u.size;clear hV2 HBa;refine callY (i:=13) (f:=147) (args:=#[Yc (w.heap.size+1) 0,.slice (some ⟨V.heap.size,0,none⟩) 3 3]) (R:=fun r wz=>r=.tuple #[]/\Bl wz (w.heap.size+1) (w.heap.size+1) (c2 m (k+1))/\Below (w.heap.size+1) V2 wz/\Oth (w.heap.size+1) V2 wz) 43 rfl rfl (by rfl) (by kernel_rfl) (by simp[execOp,go_sem]) ((q06 (w.heap.size+1) (w.heap.size+1) (c2 m k) (some ⟨V.heap.size,0,none⟩) 3 [⟨#[98,101,108,111,119]⟩,x,y] V2 HBl.u (by simp) (by simp) (by simp) HStr.u (by have:=HLn.u;omega)).mono fun e w6 ⟨he,h1,h2,h3⟩=>⟨_,he,rfl,by rw[<- HT2.u]at h1;exact h1,h2,h3⟩) ?_;rintro r3 W5 ⟨rfl,hl5,hb5,ho5⟩;have HL5:=h_ hl5;have HB5:=h_ (HBd.u.trans hb5);replace zz:Blk W5 w.heap.size 28 (Jl (some ⟨b,o,none⟩) m alc (some ⟨pb,po,none⟩) apc ar arc af afc)/\Blk W5 wr.heap.size 64 [J9 lo,J9 hi]/\W5.cell? ⟨b,o+lo,none⟩=some (.string x)/\W5.cell? ⟨b,o+hi,none⟩=some (.string y):=⟨zz.1.oth ho5 (by omega) (by decide),zz.2.1.oth ho5 (by omega) (by decide),(hb5.cell (p:=⟨b,o+lo,none⟩) (show b<w.heap.size+1 by omega)).trans zz.2.2.1,(hb5.cell (p:=⟨b,o+hi,none⟩) (show b<w.heap.size+1 by omega)).trans zz.2.2.2⟩;clear hl5 hb5 ho5;refine⟨zz,?_⟩;simp only[sX,sY,sZ];refine wpAnyH_done (by kernel_rfl) ?_ _;clear zz;go_wp2_with fail;go_roundw
     case rel=>first | exact⟨k+1,by omega,by go_num,HL5.u,HB5.u⟩ | ((repeat apply Exists.intro);exact⟨⟨k+1,by omega,by go_num,HL5.u,HB5.u⟩,rfl⟩)
     case measure=>simp[intOf];omega
   obtain rfl:k=m.P.length:=by omega
   have hlt':¬ (m.P.length:Int)<(m.P.length:Int):=by omega
   have HBl0:Hi (Bl wr (w.heap.size+1) (w.heap.size+1) (c3 m 0)):=h_ (by rw[qg5];exact HBl.u);go_wp2_with fail;clear y0 y1 y2 y3 hlt hlt' HSr HKr HBw HBl hws;obtain⟨Wb,hWb⟩:∃W,wr=W:=⟨_,rfl⟩;rw[hWb]at HBl0 HB1⊢;clear hWb;go_loopw [48] (fun i wr=>∃k:Nat,k<=m.R.length/\i=J9 k/\Bl wr (w.heap.size+1) (w.heap.size+1) (c3 m k)/\Below (w.heap.size+1) W0 wr) (fun i _=>m.R.length - (intOf i).toNat)
   case atStart=>exact⟨0,nZ _,rfl,HBl0.u,HB1.u⟩
   case round =>
    clear HBl0 HB1;obtain⟨k,hk,rfl,hbl,hb⟩:=hrel;have HBl:=h_ hbl;have HB1:=h_ hb;have HKr:=h_ (HK.u.mono hb (by omega));have HBw:=h_ (HB.u.trans (hb.mono (by omega)));have HSr:=h_ (HS.u.mono HBw.u);have hws:=hb.size;obtain⟨y0,y1,y2,y3⟩:=quad HKr.u;clear hbl hb;by_cases hlt:k<m.R.length
    . have hlt':(k:Int)<m.R.length:=by omega
      obtain⟨pb,po,rfl,-,z0,z1⟩:=HSr.u.r k hlt;have HT2:Hi (c3 m (k+1)=c3 m k++(jw [⟨#[114,111,108,101]⟩,m.R[k].nm,⟨#[97,116]⟩,labAt m.L m.R[k].lb]++[59,10])):=h_ (by rw[jw_rol];exact qg4 m k hlt);have HLn:Hi ((c3 m k).length+(jw [⟨#[114,111,108,101]⟩,m.R[k].nm,⟨#[97,116]⟩,labAt m.L m.R[k].lb]).length<=100000000):=h_ (by
       have h1:=c3_len HV.u (k+1);rw[HT2.u,Yg,Yg]at h1;omega)
      have hin2:=HV.u.ro _ (Yk hlt);generalize m.R[k]=u at *;obtain⟨x,u2⟩:=u;dsimp only at hin2 z0 z1 HT2 HLn;obtain⟨hi,rfl,hhi⟩:=qgy hin2;rw[qab hhi]at HT2 HLn;obtain⟨b,o,rfl,hlbw,zw1⟩:=HS.u.l hi hhi;have hhi':(hi:Int)<m.L.length:=(by omega);clear hin2;generalize m.L[hi]=y at *;have HKp:=h_ (Blk.new wr 66 #[.string x,J9 hi]);have HBp:=h_ ((bR wr.heap.size wr).alloc (nR _) (.cells #[.string x,J9 hi] 66));obtain⟨Wd,hWd⟩:=Nq (wr.alloc (.cells #[.string x,J9 hi] 66));rw[hWd]at HKp HBp;have HKd:=h_ (HKr.u.mono HBp.u HKr.u.lt);have HBld:=h_ (HBl.u.mono HBp.u);have HBd:=h_ (HB1.u.trans (HBp.u.mono (by omega)));have hds:=HBp.u.size;have HBwd:=h_ (HBw.u.trans (HBp.u.mono (by omega)));have zz1:=(HBwd.u.cell (p:=⟨b,o+hi,none⟩) hlbw).trans zw1;clear zw1;go_wp2_with fail
      try rw[hWd]
      clear hWd y0 y1 y2 y3;refine wp_region_held_drew (S:=fun w'=>Blk w' w.heap.size 28 (Jl (some ⟨b,o,none⟩) m alc ap apc (some ⟨pb,po,none⟩) arc af afc)/\Blk w' wr.heap.size 66 [.string x,J9 hi]/\w'.cell? ⟨b,o+hi,none⟩=some (.string y)) (by kernel_rfl) ⟨HKd.u,HKp.u,zz1⟩ (fun zz=>?_);refine tj 0 52 (Yc wr.heap.size 0) zz ?_;refine tj 1 53 (.string x) zz ?_ (hy:=fun w hS=>by obtain⟨h1,h2,q2⟩:=hS;obtain⟨p0,p1,p2,p3⟩:=quad h1;obtain⟨r0,r1⟩:=duo h2;simp[execOp,go_sem, *]);refine tj 2 54 (Yc w.heap.size 0) zz ?_;refine tj 3 55 (.slice (some ⟨b,o,none⟩) m.L.length alc) zz ?_ (hy:=fun w hS=>by obtain⟨h1,h2,q2⟩:=hS;obtain⟨p0,p1,p2,p3⟩:=quad h1;obtain⟨r0,r1⟩:=duo h2;simp[execOp,go_sem, *]);simp only[sX,sY,sZ];refine tj 4 56 (Yc wr.heap.size 1) zz ?_;refine tj 5 57 (J9 hi) zz ?_ (hy:=fun w hS=>by obtain⟨h1,h2,q2⟩:=hS;obtain⟨p0,p1,p2,p3⟩:=quad h1;obtain⟨r0,r1⟩:=duo h2;simp[execOp,go_sem, *]);refine tj 6 58 (Yc b (o+hi)) zz ?_;refine tj 7 59 (.string y) zz ?_ (hy:=fun w hS=>by obtain⟨h1,h2,q2⟩:=hS;obtain⟨p0,p1,p2,p3⟩:=quad h1;obtain⟨r0,r1⟩:=duo h2;simp[execOp,go_sem, *]);simp only[sX,sY,sZ];have HDd:Hi (Below Wd.heap.size Wd Wd.drew):=h_ (bR _ _).drew;replace HBl:=h_ (HBld.u.mono HDd.u);replace HBd:=h_ (HBd.u.trans (HDd.u.mono (by omega)));obtain⟨V,hV⟩:=Nq Wd.drew;have hvs:=HBd.u.size;rw[hV]at HBl HBd zz hvs⊢;clear hV HDd HBld;have HBa:=h_ ((bR V.heap.size V).alloc (nR _) (.cells (Jw x y) 9));have HStr:=h_ (qey V [⟨#[114,111,108,101]⟩,x,⟨#[97,116]⟩,y]);replace HBl:=h_ (HBl.u.mono HBa.u);replace zz:Blk (V.alloc (.cells (Jw x y) 9)) w.heap.size 28 (Jl (some ⟨b,o,none⟩) m alc ap apc (some ⟨pb,po,none⟩) arc af afc)/\Blk (V.alloc (.cells (Jw x y) 9)) wr.heap.size 66 [.string x,J9 hi]/\(V.alloc (.cells (Jw x y) 9)).cell? ⟨b,o+hi,none⟩=some (.string y):=⟨zz.1.mono HBa.u zz.1.lt,zz.2.1.mono HBa.u zz.2.1.lt,(HBa.u.cell (p:=⟨b,o+hi,none⟩) (show b<V.heap.size by omega)).trans zz.2.2⟩;refine runY (i:=8) (v:=.slice (some ⟨V.heap.size,0,none⟩) 4 4) (w':=V.alloc (.cells (Jw x y) 9)) 60 rfl rfl (by rfl) (by kernel_rfl) (by simp[execOp,go_sem]) zz ?_;simp only[sX,sY,sZ];obtain⟨V2,hV2⟩:=Nq (V.alloc (.cells (Jw x y) 9));replace HBd:=h_ (HBd.u.trans (HBa.u.mono (by omega)))
      change Hi (Bl (V.alloc (.cells (Jw x y) 9)) _ _ _) at HBl
      change Hi (Strs (V.alloc (.cells (Jw x y) 9)) _ _) at HStr
      rw[hV2]at HBl HStr zz HBd⊢;have hv2:=HBd.u.size;clear hV2 HBa;refine callY (i:=9) (f:=147) (args:=#[Yc (w.heap.size+1) 0,.slice (some ⟨V.heap.size,0,none⟩) 4 4]) (R:=fun r wz=>r=.tuple #[]/\Bl wz (w.heap.size+1) (w.heap.size+1) (c3 m (k+1))/\Below (w.heap.size+1) V2 wz/\Oth (w.heap.size+1) V2 wz) 61 rfl rfl (by rfl) (by kernel_rfl) (by simp[execOp,go_sem]) ((q06 (w.heap.size+1) (w.heap.size+1) (c3 m k) (some ⟨V.heap.size,0,none⟩) 4 [⟨#[114,111,108,101]⟩,x,⟨#[97,116]⟩,y] V2 HBl.u (by simp) (by simp) (by simp) HStr.u (by have:=HLn.u;omega)).mono fun e w6 ⟨he,h1,h2,h3⟩=>⟨_,he,rfl,by rw[<- HT2.u]at h1;exact h1,h2,h3⟩) ?_;rintro r3 W5 ⟨rfl,hl5,hb5,ho5⟩;have HL5:=h_ hl5;have HB5:=h_ (HBd.u.trans hb5);replace zz:Blk W5 w.heap.size 28 (Jl (some ⟨b,o,none⟩) m alc ap apc (some ⟨pb,po,none⟩) arc af afc)/\Blk W5 wr.heap.size 66 [.string x,J9 hi]/\W5.cell? ⟨b,o+hi,none⟩=some (.string y):=⟨zz.1.oth ho5 (by omega) (by decide),zz.2.1.oth ho5 (by omega) (by decide),(hb5.cell (p:=⟨b,o+hi,none⟩) (show b<w.heap.size+1 by omega)).trans zz.2.2⟩;clear hl5 hb5 ho5;refine⟨zz,?_⟩;simp only[sX,sY,sZ];refine wpAnyH_done (by kernel_rfl) ?_ _;clear zz;go_wp2_with fail;go_roundw
      case rel=>first | exact⟨k+1,by omega,by go_num,HL5.u,HB5.u⟩ | ((repeat apply Exists.intro);exact⟨⟨k+1,by omega,by go_num,HL5.u,HB5.u⟩,rfl⟩)
      case measure=>simp[intOf];omega
    obtain rfl:k=m.R.length:=(by omega);have hlt':¬ (m.R.length:Int)<(m.R.length:Int):=(by omega);have HBl0:Hi (Bl wr (w.heap.size+1) (w.heap.size+1) (c4 m 0)):=h_ (by rw[qg7];exact HBl.u);go_wp2_with fail;clear y0 y1 y2 y3 hlt hlt' HSr HKr HBw HBl hws;obtain⟨Wc,hWc⟩:∃W,wr=W:=⟨_,rfl⟩;rw[hWc]at HBl0 HB1⊢;clear hWc;go_loopw [66] (fun i wr=>∃k:Nat,k<=m.F.length/\i=J9 k/\Bl wr (w.heap.size+1) (w.heap.size+1) (c4 m k)/\Below (w.heap.size+1) W0 wr) (fun i _=>m.F.length - (intOf i).toNat)
    case atStart=>exact⟨0,nZ _,rfl,HBl0.u,HB1.u⟩
    case round =>
     clear HBl0 HB1;obtain⟨k,hk,rfl,hbl,hb⟩:=hrel;have HBl:=h_ hbl;have HB1:=h_ hb;have HKr:=h_ (HK.u.mono hb (by omega));have HBw:=h_ (HB.u.trans (hb.mono (by omega)));have HSr:=h_ (HS.u.mono HBw.u);have hws:=hb.size;obtain⟨y0,y1,y2,y3⟩:=quad HKr.u;clear hbl hb;by_cases hlt:k<m.F.length
     . have hlt':(k:Int)<m.F.length:=by omega
       obtain⟨pb,po,rfl,⟨-,z0,z1,z2,z3,z4,z5,z6,z7,z8⟩,hsl⟩:=HSr.u.f k hlt;dsimp only at z3 z4 z5 z6 z8 hsl;have HT2:Hi (c4 m (k+1)=c4 m k++(jw (fW m m.F[k])++[59,10])):=h_ (by rw[jw_fW];exact qg6 m k hlt);have HLn:Hi ((c4 m k).length+(jw (fW m m.F[k])).length<=100000000):=h_ (by
        have h1:=c4_len HV.u (k+1);rw[HT2.u,Yg,Yg]at h1;omega)
       have HFk:=h_ (HF.u.f _ (Yk hlt));have HOk:=h_ ((q4r _ _ _).1 (HV.u.fi _ (Yk hlt)));generalize m.F[k]=f at *;generalize afa k=fa at *;obtain⟨ab,abc,ai,aic,ah,ahc,av,avc,au,auc⟩:=fa;dsimp only at z3 z4 z5 z6 z8;have HKp:=h_ (Blk.new wr 42 (Ja f ab abc ai aic ah ahc av avc au auc));have HBp:=h_ ((bR wr.heap.size wr).alloc (nR _) (.cells (Ja f ab abc ai aic ah ahc av avc au auc) 42));obtain⟨Wd,hWd⟩:=Nq (wr.alloc (.cells (Ja f ab abc ai aic ah ahc av avc au auc) 42));rw[hWd]at HKp HBp;have HKd:=h_ (HKr.u.mono HBp.u HKr.u.lt);have HBld:=h_ (HBl.u.mono HBp.u);have HBd:=h_ (HB1.u.trans (HBp.u.mono (by omega)));have hds:=HBp.u.size;have HBwd:=h_ (HBw.u.trans (HBp.u.mono (by omega)));have HCw:=h_ (q1i m ⟨al,alc,ap,apc,ar,arc,some ⟨pb,po,none⟩,afc,afa⟩ f ⟨ab,abc,ai,aic,ah,ahc,av,avc,au,auc⟩ Wd HV.u HOk.u HFk.u (HS.u.mono HBwd.u) (hsl.mono HBp.u) (HT.u.mono HBwd.u) (HY.u.mono HBwd.u));unfold mV fV at HCw;dsimp only at HCw;have hfl:=fW_len HV.u HOk.u;have hf1:1<=(fW m f).length:=(by unfold fW w5;simp);obtain⟨x0,x1,x2,x3,x4,x5,x6,x7,x8⟩:=nine HKp.u;obtain⟨v0,v1,v2,v3⟩:=quad HKd.u;clear hsl;generalize fW m f=ws at *;go_wp2_with fail
       try rw[hWd]
       refine HCw.u.mono ?_;rintro r W4 ⟨a4,c4',rfl,hcap,hstr,hb4⟩;have HC:=h_ (q06 (w.heap.size+1) (w.heap.size+1) (c4 m k) a4 c4' ws W4 (HBld.u.mono hb4) hf1 (by omega) hcap hstr HLn.u);have HB4:=h_ (HBd.u.trans (hb4.mono (by omega)));clear hWd y0 y1 y2 y3 z0 z1 z2 z3 z4 z5 z6 z7 z8 x0 x1 x2 x3 x4 x5 x6 x7 x8 v0 v1 v2 v3 hcap hstr hb4 hf1 hfl;go_wp2_with fail;refine HC.u.mono ?_;rintro r W5 ⟨rfl,hl5,hb5,-⟩;have HL5:Hi (Bl W5 (w.heap.size+1) (w.heap.size+1) (c4 m (k+1))):=h_ (by rw[HT2.u];exact hl5);have HB5:=h_ (HB4.u.trans hb5);clear hl5 hb5;go_wp2_with fail;go_roundw
       case rel=>first | exact⟨k+1,by omega,by go_num,HL5.u,HB5.u⟩ | ((repeat apply Exists.intro);exact⟨⟨k+1,by omega,by go_num,HL5.u,HB5.u⟩,rfl⟩)
       case measure=>simp[intOf];omega
     obtain rfl:k=m.F.length:=(by omega);have hlt':¬ (m.F.length:Int)<(m.F.length:Int):=(by omega);have HC:=h_ (q07 (w.heap.size+1) (w.heap.size+1) (c4 m m.F.length) wr HBl.u);rw[c4_all]at HC;clear y0 y1 y2 y3;go_wp2_with fail;refine HC.u.mono ?_;rintro r W5 ⟨rfl,hb5⟩;have HB5:=h_ (HBw.u.trans (hb5.mono (by omega)));clear hb5;go_wp2_with fail;go_ret;exact⟨rfl,HB5.u⟩
end Go.Proofs.YtebbgodlijlioaaGreatDoor
