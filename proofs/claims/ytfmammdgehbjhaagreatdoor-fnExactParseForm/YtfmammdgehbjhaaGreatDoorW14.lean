import Derived.Test.YtfmammdgehbjhaaGreatDoorW13
import Derived.Test.YtfmammdgehbjhaaGreatDoorW05
import Derived.Test.YtfmammdgehbjhaaGreatDoorW09
import Derived.Test.YtfmammdgehbjhaaGreatDoorW10
import Derived.WalkLawsBesides
set_option maxRecDepth 100000
set_option maxHeartbeats 64000000
namespace Go.Proofs.YtfmammdgehbjhaaGreatDoor
open Go Go.RowKit
theorem qaa (l:List UInt8):-9223372036854775808<=(rd l).1/\(rd l).1<=9223372036854775807:=by
 unfold rd
 cases h:readDec l with
 | none=>simp
 | some n =>
  unfold readDec at h;split at h
  . rename_i m hm
    split at h
    . simp only[Zr]at h
      subst h;have hb:=Lib.parseIntB_bounds hm;have:(2:Nat) ^ (64 - 1)=9223372036854775808:=rfl;simp only;omega
    . cases h
  . cases h
theorem q9o (s:ByteArray):(-9223372036854775808<=(lv s).2.1/\(lv s).2.1<=9223372036854775807)/\(lv s).2.2.size<=s.size:=by
 unfold lv
 split
 . exact⟨by simp,nZ _⟩
 . split
   . exact⟨by simp,nZ _⟩
   . split
     . exact⟨by simp,nZ _⟩
     . split
       . refine⟨by simp,?_⟩
         show(mid s).size<=s.size;rw[qcv];omega
       . exact⟨qaa _,nZ _⟩
theorem q30 (s:ByteArray)(w:World)(hs:s.size<=1048576)(hp:Pow w)(q1:ErrV "strconv.ErrSyntax" w) (q2:ErrV "strconv.ErrRange" w) (kind num:Int) (tx:ByteArray) (ok:Bool) (hr:rv s=(kind,num,tx,ok)) :
 Calls Tryz.prog 100 #[.string s] w fun e w'=>e=.returned (.tuple #[.agg (Ju kind num tx),.bool ok])/\Below w.heap.size w w':=by
 obtain⟨k,n,t,hl⟩:∃k n t,lv s=(k,n,t):=⟨_,_,_,rfl⟩
 have hbd:=q9o s
 rw[rv_lv]at hr
 rw[hl]at hr hbd
 dsimp only at hr hbd
 have HN:=h_ hbd.1
 have ht:=hbd.2
 clear hbd
 have HR:=h_ (Blk.new w 131 J9)
 have HW:Hi (Below w.heap.size w (w.alloc (.cells J9 131))):=(bR _ _).alloc (nR _) _
 go_enter Tryz.func100,Tryz.ntmps100
 go_wp2_with fail
 refine(q78 s _ hs (hp.mono HW.u) (q1.mono HW.u) (q2.mono HW.u) k n t hl).mono ?_
 rintro e w1 ⟨rfl,hb⟩
 replace HR:=mB HR hb;replace HW:=mT HW hb;clear hb
 have hb:Below w1.heap.size w1 (w1.alloc (.cells (Ju k n t) 131)):=(bR _ _).alloc (nR _) _
 have HM:=h_ (Blk.new w1 131 (Ju k n t))
 replace HR:=mB HR hb;replace HW:=mT HW hb;clear hb
 obtain⟨m0,m1,m2⟩:=three HM.u
 go_wp2_with fail
 refine(q31 k n t _ (by omega) HN.u.1 HN.u.2 (hp.mono HW.u)).mono ?_
 rintro e w2 ⟨rfl,hb⟩
 replace HM:=mB HM hb;replace HR:=mB HR hb;replace HW:=mT HW hb;clear hb
 clear m0 m1 m2
 obtain⟨m0,m1,m2⟩:=three HM.u
 obtain⟨B,hB⟩:∃B,B=showB k n t:=⟨_,rfl⟩
 rw[<- hB]at hr⊢
 clear hB
 by_cases h:B=s
 . rw[Yn h]at hr
   simp only[Zv]at hr;obtain⟨rfl,rfl,rfl,rfl⟩:=hr;have e0:(B.toList==s.toList)=true:=by rw[h];simp
   clear h;obtain⟨⟨r0,r1,r2⟩,⟨f0,f1,f2⟩⟩:=three' HR.u;have HZ:=h_ (((HW.u.setCell (p:=⟨w.heap.size,0,none⟩) (nR _) (Ya k)).setCell (p:=⟨w.heap.size,1,none⟩) (nR _) (Ya n)).setCell (p:=⟨w.heap.size,2,none⟩) (nR _) (.string t));go_wp2;exact bodyPost_ret (v:=.tuple #[.agg (Ju k n t),.bool true]) (by simp[results,Tryz.results100,go_sem, *]) rfl ⟨rfl,HZ.u⟩
 . rw[Yi h]at hr
   simp only[Zv]at hr;obtain⟨rfl,rfl,rfl,rfl⟩:=hr;have e0:(B.toList==s.toList)=false:=by rw[Y4,Y4,Ye];exact fun e=>h (q88 e)
   clear h;go_wp2_with fail;refine(q19 _).mono ?_;rintro e w1 ⟨rfl,hb⟩;replace HR:=mB HR hb;replace HW:=mT HW hb;clear hb;obtain⟨⟨r0,r1,r2⟩,⟨f0,f1,f2⟩⟩:=three' HR.u;have HZ:=h_ (((HW.u.setCell (p:=⟨w.heap.size,0,none⟩) (nR _) (Ya 0)).setCell (p:=⟨w.heap.size,1,none⟩) (nR _) (Ya 0)).setCell (p:=⟨w.heap.size,2,none⟩) (nR _) Yc);go_wp2;exact bodyPost_ret (v:=.tuple #[.agg J9,.bool false]) (by simp[results,Tryz.results100,go_sem, *]) rfl ⟨rfl,HZ.u⟩
def flt (n:Int):Ending:=.panicked [{ v:=.iface 91 (.int .i64 n),recovered:=false }]
theorem qfe (n:Int)(w:World):Calls Tryz.prog 60 #[.bool true,Ya n] w fun e w'=>e=.returned (.tuple #[])/\w'=w:=by
 go_enter Tryz.func60,Tryz.ntmps60
 go_wp2
 go_end0
 exact⟨rfl,rfl⟩
theorem ask_no (n:Int)(w:World):Calls Tryz.prog 60 #[.bool false,Ya n] w fun e w'=>e=flt n/\w'=w:=by
 go_enter Tryz.func60,Tryz.ntmps60
 go_wp2
 exact⟨rfl,rfl,rfl⟩
theorem qfd (b:Bool)(n:Int)(w:World):Calls Tryz.prog 60 #[.bool b,Ya n] w fun e w'=>e=(if b=true then .returned (.tuple #[]) else flt n)/\w'=w:=by
 cases b
 . exact ask_no n w
 . exact qfe n w
def pk (l:List ByteArray)(i:Nat):ByteArray:=l.getD i ⟨#[]⟩
theorem pk_lt {l:List ByteArray}{i:Nat}(h:i<l.length):pk l i=l[i]:=by unfold pk;rw[Y0,Yk h];rfl
theorem pk_ge {l:List ByteArray}{i:Nat}(h:¬ i<l.length):pk l i=⟨#[]⟩:=by unfold pk;rw[Y0,Od (by omega)];rfl
structure RC (w:World)(a:Option Addr)(l:List ByteArray):Prop where
 st:Strs w a l
 wr:Wrds w
 pw:Pow w
 e1:ErrV "strconv.ErrSyntax" w
 e2:ErrV "strconv.ErrRange" w
 len:l.length<=1048576
 tz:∀t,t∈l->t.size<=1048576
theorem RC.pz {w:World}{a:Option Addr}{l:List ByteArray}(h:RC w a l)(i:Nat):(pk l i).size<=1048576:=by
 by_cases hi:i<l.length
 . rw[pk_lt hi];exact h.tz _ (Ys hi)
 . rw[pk_ge hi];decide
structure Rdr (w0:World)(a:Option Addr)(c:Nat)(l:List ByteArray)(w:World)(i d:Nat)(v:Value)(ns:List Nx):Prop where
 blk:Blk w w0.heap.size 94 [.slice a l.length c,Ya (i:Nat),Ya (d:Nat),v]
 own:OwnN w (w0.heap.size+1) v ns
 bel:Below w0.heap.size w0 w
theorem Rdr.mono {w0:World}{a:Option Addr}{c:Nat}{l:List ByteArray}{w w':World}{i d:Nat}{v:Value}{ns:List Nx}(h:Rdr w0 a c l w i d v ns)(hb:Below w.heap.size w w'):Rdr w0 a c l w' i d v ns :=
 ⟨h.blk.mono hb h.blk.lt,h.own.keep hb,h.bel.trans (hb.mono h.bel.size)⟩
theorem quart {w:World}{b:Nat}{t:TypeId}{v0 v1 v2 v3:Value}(h:Blk w b t [v0,v1,v2,v3]) :
 w.cell? ⟨b,0,none⟩=some v0/\w.cell? ⟨b,1,none⟩=some v1/\w.cell? ⟨b,2,none⟩=some v2/\w.cell? ⟨b,3,none⟩=some v3:=⟨h.cell 0,h.cell 1,h.cell 2,h.cell 3⟩
theorem qi1 {w:World}{base:Nat}{v:Value}{l:List Nx}(h:OwnN w (base+1) v l):v.ownBlock≠some base:=fun e=>by have:=q7l h e;omega
theorem OwnN.set {w:World}{base R:Nat}{v:Value}{l:List Nx}(h:OwnN w base v l)(hR:v.ownBlock≠some R)(o:Nat)(x:Value):OwnN (w.setCell ⟨R,o,.none⟩ x) base v l:=by
 refine⟨h.1,?_⟩
 rcases h.2 with h2 | ⟨g,cap,cur,h1,hb,hg,r⟩
 . exact .inl h2
 . exact .inr ⟨g,cap,cur,h1,hb,(heap_setCell_other w ⟨R,o,.none⟩ g x (fun e=>hR (by rw[h1];exact congrArg some e))).trans hg,r⟩
structure AddK (R:Nat)(w w':World)(v v':Value):Prop where
 size:w.heap.size<=w'.heap.size
 same:∀k,k<w.heap.size->k≠R->v.ownBlock≠some k->w'.heap[k]? = w.heap[k]?
 own:∀q,v'.ownBlock=some q->v.ownBlock=some q∨w.heap.size<=q
theorem AddK.of_below {R:Nat}{w w':World}(v:Value)(h:Below w.heap.size w w'):AddK R w w' v v:=⟨h.size,fun k hk _ _=>h.block k hk,fun _ hq=>.inl hq⟩
theorem AddK.set {R:Nat}(w:World)(o:Nat)(x v:Value):AddK R w (w.setCell ⟨R,o,none⟩ x) v v:=⟨by simp,fun k _ hk _=>heap_setCell_other w ⟨R,o,none⟩ k x (fun e=>hk e),fun _ hq=>.inl hq⟩
theorem AddK.trans {R:Nat}{w w1 w2:World}{v v1 v2:Value}(h:AddK R w w1 v v1)(k:AddK R w1 w2 v1 v2):AddK R w w2 v v2 :=
 ⟨Yt h.size k.size,fun b hb hR hv=>(k.same b (Y3 hb h.size) hR (fun e=>by
  rcases h.own b e with h1 | h1
  . exact hv h1
  . omega)).trans (h.same b hb hR hv),fun q hq=>by
  rcases k.own q hq with h1 | h1
  . exact h.own q h1
  . exact .inr (Yt h.size h1)⟩
section
variable {w0:World} {a:Option Addr} {c:Nat} {l:List ByteArray} {w:World} {i d:Nat} {v:Value} {ns:List Nx}
theorem Rdr.set1 (h:Rdr w0 a c l w i d v ns)(j:Nat):Rdr w0 a c l (w.setCell ⟨w0.heap.size,1,none⟩ (Ya (j:Nat))) j d v ns :=
 ⟨h.blk.set 1 _,h.own.set (qi1 h.own) 1 _,h.bel.setCell (p:=⟨w0.heap.size,1,none⟩) (nR _) _⟩
theorem Rdr.set2 (h:Rdr w0 a c l w i d v ns)(j:Nat):Rdr w0 a c l (w.setCell ⟨w0.heap.size,2,none⟩ (Ya (j:Nat))) i j v ns :=
 ⟨h.blk.set 2 _,h.own.set (qi1 h.own) 2 _,h.bel.setCell (p:=⟨w0.heap.size,2,none⟩) (nR _) _⟩
end
theorem qdm {w0:World}{a:Option Addr}{c:Nat}{l:List ByteArray}{w:World}{i d:Nat}{v:Value}{ns:List Nx}(hc:RC w0 a l)(h:Rdr w0 a c l w i d v ns) :
 Calls Tryz.prog 134 #[Yd w0.heap.size 0] w fun e w'=>e=.returned (.string (pk l i))/\Below w.heap.size w w':=by
 obtain⟨y0,y1,y2,y3⟩:=quart h.blk
 have hl:=hc.len
 have HS:=h_ (hc.st.mono h.bel)
 have HB:=h_ ((bR w.heap.size w).drew)
 have HB2:=h_ (((bR w.heap.size w).drew).drew)
 clear hc h
 by_cases hi:i<l.length
 . have hi':¬ (l.length:Int)<=(i:Int):=by omega
   have hi2:(i:Int)<(l.length:Int):=by omega
   obtain⟨b,o,rfl,-,z⟩:=HS.u i hi;rw[pk_lt hi];generalize l[i]=t at *;go_enter Tryz.func134,Tryz.ntmps134;go_wp2_with fail;go_region;go_wp2_with fail;go_region;go_wp2_with fail;go_ret;exact⟨rfl,HB2.u⟩
 . have hi':(l.length:Int)<=(i:Int):=by omega
   rw[pk_ge hi];go_enter Tryz.func134,Tryz.ntmps134;go_wp2_with fail;go_region;go_wp2_with fail;go_ret;exact⟨rfl,HB.u⟩
theorem qel {w0:World}{a:Option Addr}{c:Nat}{l:List ByteArray}{w:World}{i d:Nat}{v:Value}{ns:List Nx}(hi:i<=2000000)(hc:RC w0 a l)(h:Rdr w0 a c l w i d v ns) :
 Calls Tryz.prog 101 #[Yd w0.heap.size 0] w fun e w'=>e=.returned (.string (pk l i))/\Rdr w0 a c l w' (i+1) d v ns/\AddK w0.heap.size w w' v v:=by
 have HP:=h_ (qdm hc h);have H:=h_ h
 obtain⟨j,hj⟩:=Nq (i+1)
 have hj':(i:Int)+1=(j:Int):=by omega
 have hjb:j<=2000001:=by omega
 rw[hj]
 clear h hc hj
 generalize pk l i=t at *
 go_enter Tryz.func101,Tryz.ntmps101
 go_wp2_with fail
 refine HP.u.mono ?_
 rintro e W1 ⟨rfl,hb⟩
 replace H:=h_ (H.u.mono hb)
 have HA:=h_ (AddK.of_below (R:=w0.heap.size) v hb)
 clear hb HP
 obtain⟨y0,y1,y2,y3⟩:=quart H.u.blk
 have f1:=H.u.blk.free 1
 go_wp2_with fail
 go_ret
 exact⟨rfl,H.u.set1 j,HA.u.trans (AddK.set _ _ _ _)⟩
theorem qe7 {w0:World}{a:Option Addr}{c:Nat}{l:List ByteArray}{w:World}{i d:Nat}{v:Value}{ns:List Nx}(s:ByteArray)(hi:i<=2000000)(hc:RC w0 a l)(h:Rdr w0 a c l w i d v ns) :
 Calls Tryz.prog 136 #[Yd w0.heap.size 0,.string s] w fun e w'=>e=.returned (.bool (decide (pk l i=s)))/\Rdr w0 a c l w' (if pk l i=s then i+1 else i) d v ns/\AddK w0.heap.size w w' v v:=by
 have HP:=h_ (qdm hc h);have H:=h_ h
 obtain⟨j,hj⟩:=Nq (i+1)
 have hj':(i:Int)+1=(j:Int):=by omega
 have hjb:j<=2000001:=by omega
 rw[hj]
 clear h hc hj
 generalize pk l i=t at *
 have he:=eqT t s
 by_cases hq:t=s
 . rw[Yh hq]at he
   rw[Yh hq,Yn hq];have hne:(t.toList != s.toList)=false:=by rw[bne,he];rfl
   clear hq;go_enter Tryz.func136,Tryz.ntmps136;go_wp2_with fail;refine HP.u.mono ?_;rintro e W1 ⟨rfl,hb⟩;replace H:=h_ (H.u.mono hb);have HA:=h_ (AddK.of_below (R:=w0.heap.size) v hb);clear hb HP;obtain⟨y0,y1,y2,y3⟩:=quart H.u.blk;have f1:=H.u.blk.free 1;go_wp2_with fail;go_ret;exact⟨rfl,H.u.set1 j,HA.u.trans (AddK.set _ _ _ _)⟩
 . rw[Yg hq]at he
   rw[Yg hq,Yi hq];have hne:(t.toList != s.toList)=true:=by rw[bne,he];rfl
   clear hq;go_enter Tryz.func136,Tryz.ntmps136;go_wp2_with fail;refine HP.u.mono ?_;rintro e W1 ⟨rfl,hb⟩;replace H:=h_ (H.u.mono hb);have HA:=h_ (AddK.of_below (R:=w0.heap.size) v hb);clear hb HP;go_wp2_with fail;go_ret;exact⟨rfl,H.u,HA.u⟩
theorem qd1 {w0:World}{a:Option Addr}{c:Nat}{l:List ByteArray}{w:World}{i d:Nat}{v:Value}{ns:List Nx}(s:ByteArray)(hi:i<=2000000)(hc:RC w0 a l)(h:Rdr w0 a c l w i d v ns) :
 Calls Tryz.prog 103 #[Yd w0.heap.size 0,.string s] w fun e w'=>(pk l i=s/\e=.returned (.tuple #[])/\Rdr w0 a c l w' (i+1) d v ns/\AddK w0.heap.size w w' v v)∨(pk l i≠s/\e=flt 3/\Below w0.heap.size w0 w'):=by
 have HS:=h_ (qe7 s hi hc h)
 clear h hc
 by_cases hq:pk l i=s
 . rw[Yh hq,Yn hq]at HS
   have HQ:=h_ hq;clear hq;go_enter Tryz.func103,Tryz.ntmps103;go_wp2_with fail;refine HS.u.mono ?_;rintro e W1 ⟨rfl,hr,ha⟩;have H:=h_ hr;have HA:=h_ ha;clear hr ha;go_wp2_with fail;refine(qfe _ _).mono ?_;rintro e w2 ⟨rfl,rfl⟩;go_wp2_with fail
   go_end0
   exact .inl ⟨HQ.u,rfl,H.u,HA.u⟩
 . rw[Yg hq,Yi hq]at HS
   have HQ:=h_ hq;clear hq;go_enter Tryz.func103,Tryz.ntmps103;go_wp2_with fail;refine HS.u.mono ?_;rintro e W1 ⟨rfl,hr,-⟩;have H:=h_ hr.bel;clear hr;go_wp2_with fail;refine(ask_no _ _).mono ?_;rintro e w2 ⟨rfl,rfl⟩;exact⟨rfl,.inr ⟨HQ.u,rfl,H.u⟩⟩
theorem qdb {w0:World}{a:Option Addr}{c:Nat}{l:List ByteArray}{w:World}{i d:Nat}{v:Value}{ns:List Nx}(hi:i<=2000000)(hd:d<=64)(hc:RC w0 a l)(h:Rdr w0 a c l w i d v ns) :
 Calls Tryz.prog 224 #[Yd w0.heap.size 0] w fun e w'=>(pk l i=⟨#[40]⟩/\d+1<=64/\e=.returned (.tuple #[])/\Rdr w0 a c l w' (i+1) (d+1) v ns/\AddK w0.heap.size w w' v v)∨(¬ (pk l i=⟨#[40]⟩/\d+1<=64)/\e=flt 3/\Below w0.heap.size w0 w'):=by
 have HN:=h_ (qd1 ⟨#[40]⟩ hi hc h)
 obtain⟨j,hj⟩:=Nq (d+1)
 have hj':(d:Int)+1=(j:Int):=by omega
 have hjb:j<=65:=by omega
 rw[hj]
 clear h hc hj
 go_enter Tryz.func224,Tryz.ntmps224
 go_wp2_with fail
 refine HN.u.mono ?_
 rintro e W1 (⟨hq,rfl,hr,ha⟩ | ⟨hq,rfl,hb⟩)
 case inr=>exact⟨rfl,.inr ⟨fun h=>hq h.1,rfl,hb⟩⟩
 have H:=h_ hr;have HQ:=h_ hq;have HA:=h_ ha
 clear hr hq HN ha
 obtain⟨y0,y1,y2,y3⟩:=quart H.u.blk
 have f1:=H.u.blk.free 2
 by_cases h64:j<=64
 . have h64':(j:Int)<=64:=by omega
   go_wp2_with fail;refine(qfe _ _).mono ?_;rintro e w2 ⟨rfl,rfl⟩;go_wp2_with fail
   go_end0
   exact .inl ⟨HQ.u,h64,rfl,H.u.set2 j,HA.u.trans (AddK.set _ _ _ _)⟩
 . have h64':¬ (j:Int)<=64:=by omega
   go_wp2_with fail;refine(qfd _ _ _).mono ?_;rintro e w2 ⟨he,rfl⟩;rw[Yi (by simp;omega)]at he;subst he;exact⟨rfl,.inr ⟨fun h=>h64 h.2,rfl,(H.u.set2 j).bel⟩⟩
theorem q8n {w0:World}{a:Option Addr}{c:Nat}{l:List ByteArray}{w:World}{i d:Nat}{v:Value}{ns:List Nx}(hi:i<=2000000)(hd:d<=64)(hc:RC w0 a l)(h:Rdr w0 a c l w i (d+1) v ns) :
 Calls Tryz.prog 225 #[Yd w0.heap.size 0] w fun e w'=>(pk l i=⟨#[41]⟩/\e=.returned (.tuple #[])/\Rdr w0 a c l w' (i+1) d v ns/\AddK w0.heap.size w w' v v)∨(pk l i≠⟨#[41]⟩/\e=flt 3/\Below w0.heap.size w0 w'):=by
 obtain⟨j,hj⟩:=Nq (d+1)
 rw[hj]at h
 have HN:=h_ (qd1 ⟨#[41]⟩ hi hc h)
 have hj':(j:Int) - 1=(d:Int):=by omega
 have hjb:j<=65:=by omega
 clear h hc hj
 go_enter Tryz.func225,Tryz.ntmps225
 go_wp2_with fail
 refine HN.u.mono ?_
 rintro e W1 (⟨hq,rfl,hr,ha⟩ | ⟨hq,rfl,hb⟩)
 case inr=>exact⟨rfl,.inr ⟨hq,rfl,hb⟩⟩
 have H:=h_ hr;have HQ:=h_ hq;have HA:=h_ ha
 clear hr hq HN ha
 obtain⟨y0,y1,y2,y3⟩:=quart H.u.blk
 have f1:=H.u.blk.free 2
 go_wp2_with fail
 go_end0
 exact .inl ⟨HQ.u,rfl,H.u.set2 d,HA.u.trans (AddK.set _ _ _ _)⟩
def lastV:Option Nat->Int
 | none=>-1
 | some j=>(j:Int)
theorem qbz {l:List ByteArray}{k:Nat}(h:k<l.length):dpt tkX (l.take (k+1))=dpt tkX (l.take k)+dlt tkX l[k]:=by
 rw[Yq h,q69,qbt]
 simp[dpt]
theorem q8w (t:ByteArray):dlt tkX t=1∨dlt tkX t = -1∨dlt tkX t=0:=by
 rcases tokLR t with ⟨-,-,-,-,h⟩ | ⟨-,-,-,-,h⟩ | ⟨-,-,-,-,h⟩ <;> simp[h]
theorem q8x (l:List ByteArray):∀k,k<=l.length->-(k:Int)<=dpt tkX (l.take k)/\dpt tkX (l.take k)<=k
 | 0,_=>by simp[dpt]
 | k+1,h=>by
  have h1:=q8x l k (by omega);rw[qbz (show k<l.length by omega)];rcases q8w l[k] with h | h | h <;> rw[h] <;> omega
theorem qbj {l:List ByteArray}{lv k:Nat}(hk:k+1<l.length)(ht:TkOk l):BinAt tkX lv l k ↔ dpt tkX (l.take (k+2))=0/\sgN l[k+1] lv≠0/\eoB l[k]=true:=by
 unfold BinAt sgN
 rw[<- eo_eq (ht.at (show k<l.length by omega)).1]
 constructor
 . rintro⟨p,t,h1,h2,h3,h4,h5,h6⟩
   rw[Yk (by omega)]at h1;rw[Yk hk]at h2;cases h1;cases h2;exact⟨h3,by rw[Yn ⟨h5,h6⟩];exact h5,h4⟩
 . rintro⟨h1,h2,h3⟩
   refine⟨l[k],l[k+1],Yk _,Yk hk,h1,h3,?_⟩;split at h2
   . assumption
   . exact absurd rfl h2
theorem q1v (a:Option Addr)(c:Nat)(l:List ByteArray)(lv:Nat)(w:World)(hl:l.length<=1048576)(ht:TkOk l)(ha:Tks w a l) :
 Calls Tryz.prog 116 (J7 a l.length c lv) w fun r w'=>∃last,r=.returned (Ya (lastV last))/\lsd tkX lv l l.length last/\Below w.heap.size w w':=by
 have HA:=h_ ha;have HT:=h_ ht
 clear ha ht
 go_enter Tryz.func116,Tryz.ntmps116
 go_wp2_with fail
 go_loopw [5,6,7] (fun dv la iv wr=>∃(k:Nat) (last:Option Nat),k<=l.length/\dv=Ya (dpt tkX (l.take k))/\la=Ya (lastV last)/\iv=Ya k/\lsd tkX lv l k last/\Below w.heap.size w wr) (fun _ _ i _=>l.length - (intOf i).toNat)
 case atStart=>exact⟨0,none,nZ _,rfl,rfl,rfl,qcs _ _ _,bR _ _⟩
 case round =>
  obtain⟨k,last,hk,rfl,rfl,rfl,hr,hb⟩:=hrel;have HB:=h_ hb;have HR:=h_ hr;have HV:=h_ (HA.u.mono hb);have hds:=q8x l k hk;clear hb hr;by_cases hlt:k<l.length
  . have hlt':(k:Int)<l.length:=by omega
    obtain⟨b,o,p,rfl,hc⟩:=HV.u k hlt;have HD:=h_ (qbz hlt);have HBn:Hi (∀j,j+1=k->(BinAt tkX lv l j ↔ dpt tkX (l.take (k+1))=0/\sgN l[k] lv≠0/\eoB (l[j]?.getD ⟨#[]⟩)=true)):=h_ fun j e=>by
     subst e;rw[Yk (by omega)];exact qbj hlt HT.u
    have HP:Hi (∀j,j+1=k->∃p,TCel _ b (o+j*3) (l[j]?.getD ⟨#[]⟩) p/\(l[j]?.getD ⟨#[]⟩).size<=1048576):=h_ fun j e=>by
     obtain⟨b',o',p',e',hc'⟩:=HV.u j (by omega);cases e';rw[Yk (show j<l.length by omega)];exact⟨p',hc',(HT.u.at (show j<l.length by omega)).2⟩
    generalize l[k]=t at *;have HC:=h_ hc;obtain⟨-,c0,c1,c2⟩:=hc;have HL:=h_ (fun w=>qj9 (t:=t) (s:=⟨#[40]⟩) p (by decide) w);have HJ:=h_ (fun w=>qj9 (t:=t) (s:=⟨#[41]⟩) p (by decide) w);have HS:=h_ (fun w=>qe4 t p lv w);unfold tV at HL HJ HS;generalize dpt tkX (l.take k)=d at *;obtain⟨d',hd'⟩:=Nq (dpt tkX (l.take (k+1)));rw[hd']at HD HBn;have wp1:wrap64 (d+1)=d+1:=q40 (by omega) (by omega);have wm1:wrap64 (d - 1)=d - 1:=q40 (by omega) (by omega);have HD2:=h_ hd';have hdd:Hi (dlt tkX t=1∨dlt tkX t = -1∨dlt tkX t=0):=h_ (q8w t);rcases tokLR t with ⟨q1,q2,-,-,q5⟩ | ⟨q1,q2,-,-,q5⟩ | ⟨q1,q2,-,-,q5⟩
    all_goals
     rw[q1]at HL;rw[q2]at HJ;rw[q5]at HD;have hdq:=HD.u;clear q1 q2 q5 HD hdd hd';go_wp2_with fail;refine(HL.u _).mono ?_;rintro e W1 ⟨rfl,hb⟩;replace HB:=mT HB hb;replace HC:=h_ (HC.u.mono hb);replace HP:Hi (∀j,j+1=k->∃p,TCel W1 b (o+j*3) (l[j]?.getD ⟨#[]⟩) p/\(l[j]?.getD ⟨#[]⟩).size<=1048576):=h_ fun j e=>by obtain⟨p,h1,h2⟩:=HP.u j e;exact⟨p,h1.mono hb,h2⟩
     clear hb c0 c1 c2;obtain⟨-,c0,c1,c2⟩:=HC.u;go_wp2_with fail;refine(HJ.u _).mono ?_;rintro e W2 ⟨rfl,hb⟩;replace HB:=mT HB hb;replace HC:=h_ (HC.u.mono hb);replace HP:Hi (∀j,j+1=k->∃p,TCel W2 b (o+j*3) (l[j]?.getD ⟨#[]⟩) p/\(l[j]?.getD ⟨#[]⟩).size<=1048576):=h_ fun j e=>by obtain⟨p,h1,h2⟩:=HP.u j e;exact⟨p,h1.mono hb,h2⟩
     clear hb c0 c1 c2;obtain⟨-,c0,c1,c2⟩:=HC.u
     try rw[<- Int.sub_eq_add_neg]at hdq
     try rw[Int.add_zero]at hdq
     by_cases h0:d'=0
     . have h0':(d'==0)=true:=by simp[h0]
       rw[hdq]at h0';by_cases hk0:k=0
       . have HX:=h_ (lsd_no HR.u (fun j e=>by omega))
         have hk1:¬ (0:Int)<k:=(by omega);go_wp2_with fail;go_roundw
         case rel=>exact⟨k+1,last,by omega,by rw[HD2.u,hdq],rfl,by go_num,HX.u,HB.u⟩
         case measure=>simp[intOf];omega
       obtain⟨j,rfl⟩:∃j,k=j+1:=⟨k - 1,by omega⟩;have hk1:(0:Int)<((j+1:Nat):Int):=(by omega);have hw1:wrap64 (((j+1:Nat):Int) - 1)=(j:Int):=(by rw[q40 (by omega) (by omega)];omega);have hj':(j:Int)<l.length:=(by omega);obtain⟨p',hc',hz'⟩:=HP.u j rfl;have HBj:=h_ (HBn.u j rfl);generalize l[j]?.getD ⟨#[]⟩=pt at *;have HE:=h_ (fun w=>qc1 pt p' (by omega) w);unfold tV at HE;have HC':=h_ hc';clear hc' HP HBn;by_cases hs:sgN t lv=0
       . have HX:=h_ (lsd_no HR.u (fun i e hb=>by obtain rfl:i=j:=(by omega);exact(HBj.u.1 hb).2.1 hs))
         rw[hs]at HS;go_wp2_with fail;refine(HS.u _).mono ?_;rintro e W3 ⟨rfl,hb⟩;replace HB:=mT HB hb;clear hb c0 c1 c2;go_wp2_with fail;go_roundw
         case rel=>exact⟨j+1+1,last,by omega,by rw[HD2.u,hdq],rfl,by go_num,HX.u,HB.u⟩
         case measure=>simp[intOf];omega
       have hs':((sgN t lv:Int)==0)=false:=Ye.2 (by omega);generalize sgN t lv=sg at *;cases he:eoB pt
       . have HX:=h_ (lsd_no HR.u (fun i e hb=>by obtain rfl:i=j:=(by omega);have:=(HBj.u.1 hb).2.2;rw[he]at this;cases this))
         rw[he]at HE;go_wp2_with fail;refine(HS.u _).mono ?_;rintro e W3 ⟨rfl,hb⟩;replace HB:=mT HB hb;replace HC':=h_ (HC'.u.mono hb);clear hb c0 c1 c2;obtain⟨-,c0,c1,c2⟩:=HC'.u;go_wp2_with fail;refine(HE.u _).mono ?_;rintro e W4 ⟨rfl,hb⟩;replace HB:=mT HB hb;clear hb c0 c1 c2;go_wp2_with fail;go_roundw
         case rel=>exact⟨j+1+1,last,by omega,by rw[HD2.u,hdq],rfl,by go_num,HX.u,HB.u⟩
         case measure=>simp[intOf];omega
       . have HX:=h_ (qh9 (HBj.u.2 ⟨h0,hs,he⟩))
         rw[he]at HE;go_wp2_with fail;refine(HS.u _).mono ?_;rintro e W3 ⟨rfl,hb⟩;replace HB:=mT HB hb;replace HC':=h_ (HC'.u.mono hb);clear hb c0 c1 c2;obtain⟨-,c0,c1,c2⟩:=HC'.u;go_wp2_with fail;refine(HE.u _).mono ?_;rintro e W4 ⟨rfl,hb⟩;replace HB:=mT HB hb;clear hb c0 c1 c2;go_wp2_with fail;go_roundw
         case rel=>exact⟨j+1+1,some (j+1),by omega,by rw[HD2.u,hdq],rfl,by go_num,HX.u,HB.u⟩
         case measure=>simp[intOf];omega
     . have h0':(d'==0)=false:=Ye.2 h0
       rw[hdq]at h0';have HX:=h_ (lsd_no HR.u (fun j e hb=>h0 ((HBn.u j e).1 hb).1));go_wp2_with fail;go_roundw
       case rel=>exact⟨k+1,last,by omega,by rw[HD2.u,hdq],rfl,by go_num,HX.u,HB.u⟩
       case measure=>simp[intOf];omega
  . obtain rfl:k=l.length:=by omega
    have hlt':¬ (l.length:Int)<l.length:=(by omega);go_wp2_with fail;go_ret;exact⟨last,rfl,HR.u,HB.u⟩
theorem q1q (s:ByteArray)(i:Nat)(w:World)(hs:s.size<=9223372036854775807)(hi:i<=s.size) :
 Calls Tryz.prog 40 #[.string s,Ya i] w fun e w'=>e=.returned (Ya (runN digitB s i))/\w'=w:=by
 go_enter Tryz.func40,Tryz.ntmps40
 go_wp2_with fail
 go_loopw [5] (fun n wr=>∃k:Nat,i+k<=s.size/\n=Ya k/\(∀j (hj:i+j<s.size),j<k->digitB (s[i+j]).toNat=true)/\wr=w) (fun n _=>s.size - (intOf n).toNat)
 case atStart=>exact⟨0,by omega,rfl,fun j _ hj=>absurd hj (nL _),rfl⟩
 case round =>
  obtain⟨k,hk,rfl,hall,rfl⟩:=hrel;have HA:=h_ hall;clear hall;have hw1:wrap64 ((i:Int)+(k:Int))=((i+k:Nat):Int):=by rw[q40 (by omega) (by omega)];omega
  by_cases hlt:i+k<s.size
  . have hlt':((i:Int)+k)<s.size:=by omega
    cases ht:digitB (s[i+k]).toNat
    . go_wp2_with (go_at_call 39;refine(q0s _ _).mono ?_;rintro e w' ⟨rfl,rfl⟩;rw[ht])
      go_ret;exact⟨qij (by rw[qin (by omega) HA.u (fun _=>ht)]),rfl⟩
    . go_wp2_with (go_at_call 39;refine(q0s _ _).mono ?_;rintro e w' ⟨rfl,rfl⟩;rw[ht])
      go_roundw
      case rel=>exact⟨k+1,by omega,by go_num,fun j hj hjk=>by
       by_cases e:j=k
       . subst e;exact ht
       . exact HA.u j hj (by omega),trivial⟩
      case measure=>simp[intOf];omega
  . have hlt':¬ ((i:Int)+k)<s.size:=by omega
    go_wp2_with fail;go_ret;exact⟨qij (by rw[qin (by omega) HA.u (fun h=>absurd h hlt)]),rfl⟩
theorem q2g (s:ByteArray)(i:Nat)(w:World)(hs:s.size<=9223372036854775807)(hi:i<=s.size) :
 Calls Tryz.prog 42 #[.string s,Ya i] w fun e w'=>e=.returned (Ya (runN tb s i))/\w'=w:=by
 go_enter Tryz.func42,Tryz.ntmps42
 go_wp2_with fail
 go_loopw [5] (fun n wr=>∃k:Nat,i+k<=s.size/\n=Ya k/\(∀j (hj:i+j<s.size),j<k->tb (s[i+j]).toNat=true)/\wr=w) (fun n _=>s.size - (intOf n).toNat)
 case atStart=>exact⟨0,by omega,rfl,fun j _ hj=>absurd hj (nL _),rfl⟩
 case round =>
  obtain⟨k,hk,rfl,hall,rfl⟩:=hrel;have HA:=h_ hall;clear hall;have hw1:wrap64 ((i:Int)+(k:Int))=((i+k:Nat):Int):=by rw[q40 (by omega) (by omega)];omega
  by_cases hlt:i+k<s.size
  . have hlt':((i:Int)+k)<s.size:=by omega
    cases ht:tb (s[i+k]).toNat
    . go_wp2_with (go_at_call 88;refine(q1o _ _).mono ?_;rintro e w' ⟨rfl,rfl⟩;rw[ht])
      go_ret;exact⟨qij (by rw[qin (by omega) HA.u (fun _=>ht)]),rfl⟩
    . go_wp2_with (go_at_call 88;refine(q1o _ _).mono ?_;rintro e w' ⟨rfl,rfl⟩;rw[ht])
      go_roundw
      case rel=>exact⟨k+1,by omega,by go_num,fun j hj hjk=>by
       by_cases e:j=k
       . subst e;exact ht
       . exact HA.u j hj (by omega),trivial⟩
      case measure=>simp[intOf];omega
  . have hlt':¬ ((i:Int)+k)<s.size:=by omega
    go_wp2_with fail;go_ret;exact⟨qij (by rw[qin (by omega) HA.u (fun h=>absurd h hlt)]),rfl⟩
def symT:List (List UInt8):=[[40],[41],[44],[59],[43],[45],[42],[47],[37],[38],[61],[60],[60,62],[60,61]]
def symS (s:ByteArray):Bool:=syms.any fun y=>decide (y=s)
theorem qeg (x:ByteArray):symS x=true ↔ x∈syms:=by
 unfold symS
 rw[List.any_eq_true]
 exact⟨fun⟨y,hy,e⟩=>by rw[<- Ze e];exact hy,fun h=>⟨x,h,Yh rfl⟩⟩
theorem syms_T:syms=symT.map fun x=>⟨x.toArray⟩:=rfl
theorem q1u (s:ByteArray)(w:World):Calls Tryz.prog 43 #[.string s] w fun e w'=>e=.returned (.bool (symS s))/\w'=w:=by
 by_cases h:∃x,x∈symT/\(s.toList==x)=true
 . obtain⟨x,hx,he⟩:=h
   have hs:=q5o he;clear he;subst hs;rw[(qeg _).2 (show(⟨x.toArray⟩:ByteArray)∈syms by rw[syms_T];exact Z4.2 ⟨x,hx,rfl⟩)];unfold symT at hx;simp only[Y9,Z1,or_false]at hx;rcases hx with rfl | rfl | rfl | rfl | rfl | rfl | rfl | rfl | rfl | rfl | rfl | rfl | rfl | rfl
   all_goals
    go_enter Tryz.func43,Tryz.ntmps43;go_wp2;go_ret;exact⟨rfl,rfl⟩
 . have hn:∀x,x∈symT->(s.toList==x)=false:=fun x hx=>by
    cases e:(s.toList==x)
    . rfl
    . exact absurd ⟨x,hx,e⟩ h
   rw[show symS s=false by
    rw[Bool.eq_false_iff,Ne,qeg,syms_T];intro hq;obtain⟨x,hx,e⟩:=Z4.1 hq;have:=hn x hx;rw[<- e,Y4]at this;simp at this]
   clear h;unfold symT at hn;simp only[List.forall_mem_cons,Z1,false_imp_iff,implies_true,and_true]at hn;obtain⟨h1,h2,h3,h4,h5,h6,h7,h8,h9,h10,h11,h12,h13,h14⟩:=hn;go_enter Tryz.func43,Tryz.ntmps43;go_wp2;go_ret;exact⟨rfl,rfl⟩
end Go.Proofs.YtfmammdgehbjhaaGreatDoor
