import Derived.Test.YtgkcaeidhkddjaaGreatDoorXGM
set_option maxRecDepth 100000
set_option maxHeartbeats 20000000
namespace Go.Proofs.YtgkcaeidhkddjaaGreatDoor
open Go Go.RowKit
theorem qfx {l:List Nx} {x:ByteArray} {k:Nat} (h:k<l.length) (h1:(nf l k).op=1) (h2:(nf l k).nm=x):rdsN l x=true:=by
 unfold rdsN
 refine List.any_eq_true.2 ⟨l[k],List.getElem_mem h,?_⟩
 rw [nf_get l k h] at h1 h2
 simp [h1,h2]
theorem qk8 {l:List Nx} {x:ByteArray} (h:∀ k,k<l.length->¬ ((nf l k).op=1/\(nf l k).nm=x)):rdsN l x=false:=by
 unfold rdsN
 refine List.any_eq_false.2 fun n hn=>?_
 obtain ⟨k,hk,rfl⟩:=List.mem_iff_getElem.1 hn
 have:=h k hk
 rw [nf_get l k hk] at this
 simpa using this
theorem q5q (a:Option Addr) (c:Nat) (l:List Nx) (x:ByteArray) (w:World) (hl:l.length<=9223372036854775807) (ha:NodL w a l) :
 Calls Tryz.prog 162 #[.slice a l.length c,.string x] w fun r w'=>r=.returned (.bool (rdsN l x))/\Below w.heap.size w w':=by
 have HA:=h_ ha
 obtain ⟨q,hq⟩:∃ q,rdsN l x=q:=⟨_,rfl⟩
 rw [hq]
 have HQ:=h_ hq
 clear ha hq
 go_enter Tryz.func162,Tryz.ntmps162
 go_wp2_with fail
 go_loopw [5] (fun i wr=>∃ k:Nat,k<=l.length/\i=.int .i64 k/\(∀ j,j<k->¬ ((nf l j).op=1/\(nf l j).nm=x))/\Below w.heap.size w wr) (fun i _=>l.length - (intOf i).toNat)
 case atStart=>exact ⟨0,nZ _,rfl,fun j hj=>absurd hj (nL _),bR _ _⟩
 case round =>
  obtain ⟨k,hk,rfl,hall,hb⟩:=hrel
  have HL:=h_ hall;have HB:=h_ hb;have HAr:=h_ ((u_ HA).mono hb)
  clear hall hb
  by_cases hlt:k<l.length
  . have hlt':(k:Int)<l.length:=by omega
    obtain ⟨pb,po,rfl,-,z0,z1,z2,z3,z4⟩:=u_ HAr k hlt
    have HX:Hid ((nf l k).op=1->(nf l k).nm=x->q=true):=h_ fun h1 h2=>by rw [<- u_ HQ,qfx hlt h1 h2]
    have HG:Hid (¬ ((nf l k).op=1/\(nf l k).nm=x)->∀ j,j<k+1->¬ ((nf l j).op=1/\(nf l j).nm=x)):=h_ fun h j hj=>by
     by_cases ej:j=k
     . subst ej;exact h
     . exact u_ HL j (by omega)
    generalize nf l k=n at *
    have he:=eqS n.nm x
    by_cases h1:n.op=1
    . have h1':(n.op == 1)=true:=by rw [h1];rfl
      by_cases h2:n.nm=x
      . have HX2:=h_ (u_ HX h1 h2)
        rw [decide_eq_true h2] at he
        clear h1 h2
        go_wp2_with fail
        go_ret
        exact ⟨qfz (u_ HX2).symm,u_ HB⟩
      . have HG2:=h_ (u_ HG fun h=>h2 h.2)
        rw [decide_eq_false h2] at he
        clear h1 h2
        go_wp2_with fail
        go_roundw
        case rel=>first | exact ⟨k+1,by omega,by go_num,u_ HG2,u_ HB⟩ | ((repeat apply Exists.intro);exact ⟨⟨k+1,by omega,by go_num,u_ HG2,u_ HB⟩,rfl⟩)
        case measure=>simp [intOf];omega
    . have h1':(n.op == 1)=false:=by simp [h1]
      have HG2:=h_ (u_ HG fun h=>h1 h.1)
      clear h1 he
      go_wp2_with fail
      go_roundw
      case rel=>first | exact ⟨k+1,by omega,by go_num,u_ HG2,u_ HB⟩ | ((repeat apply Exists.intro);exact ⟨⟨k+1,by omega,by go_num,u_ HG2,u_ HB⟩,rfl⟩)
      case measure=>simp [intOf];omega
  . obtain rfl:k=l.length:=by omega
    have hlt':¬ (l.length:Int)<(l.length:Int):=by omega
    have HX:Hid (q=false):=h_ (by rw [<- u_ HQ,qk8 (u_ HL)])
    go_wp2_with fail
    go_ret
    exact ⟨qfz (u_ HX).symm,u_ HB⟩
theorem q5n (m:Fm) (A:MA) (j k:Nat) (w:World) (hj:j<m.F.length) (hk:k<m.F.length) (hf:FitM m) (ha:MSl w m A) :
 Calls Tryz.prog 133 #[mV m A,.int .i64 j,.int .i64 k] w fun r w'=>r=.returned (.bool (fedB m j k))/\Below w.heap.size w w':=by
 obtain ⟨al,alc,ap,apc,ar,arc,af,afc,afa⟩:=A
 unfold mV
 dsimp only
 have HK:=h_ (Blk.new w 36 #[.slice al m.L.length alc,.slice ap m.P.length apc,.slice ar m.R.length arc,.slice af m.F.length afc])
 have HB:=h_ ((bR w.heap.size w).alloc (nR _) (.cells #[.slice al m.L.length alc,.slice ap m.P.length apc,.slice ar m.R.length arc,.slice af m.F.length afc] 36))
 obtain ⟨W0,hW0⟩:∃ W0,w.alloc (.cells #[.slice al m.L.length alc,.slice ap m.P.length apc,.slice ar m.R.length arc,.slice af m.F.length afc] 36)=W0:=⟨_,rfl⟩
 rw [hW0] at HK HB
 have HS:=h_ (ha.mono (u_ HB))
 have hj':(j:Int)<m.F.length:=by omega
 have hk':(k:Int)<m.F.length:=by omega
 have hfl:=hf.fl
 have HE:Hid (fedB m j k=(rdsN m.F[k].is m.F[j].nm || rdsN m.F[k].wh m.F[j].nm)):=h_ (by unfold fedB;rw [qi1 hj,qi1 hk])
 have HI:=h_ (hf.f _ (List.getElem_mem hk))
 clear ha hf
 obtain ⟨b,o,e1,⟨-,z0,-⟩,-⟩:=(u_ HS).f j hj
 obtain ⟨b',o',e2,⟨hbl,-,-,-,-,x4,x5,-⟩,hsl⟩:=(u_ HS).f k hk
 dsimp only at e1 e2 x4 x5 hsl
 subst e1
 cases e2
 have HSl:=h_ hsl
 clear hsl
 generalize m.F[j].nm=nm at *
 generalize m.F[k]=f at *
 generalize afa k=fa at *
 obtain ⟨ab,abc,ai,aic,ah,ahc,av,avc,au,auc⟩:=fa
 dsimp only at x4 x5
 have HC1:=h_ (q5q ai aic f.is nm W0 (u_ HI).il (u_ HSl).i)
 obtain ⟨y0,y1,y2,y3⟩:=quad (u_ HK)
 generalize fedB m j k=q at *
 go_enter Tryz.func133,Tryz.ntmps133
 go_wp2_with fail
 try rw [hW0]
 refine (u_ HC1).mono ?_
 rintro r W1 ⟨rfl,hb⟩
 have hx5:=(hb.cell (p:=⟨b,o+k*9+5,none⟩) hbl).trans x5
 replace HK:=mB HK hb;replace HB:=mT HB hb;replace HSl:=h_ ((u_ HSl).mono hb)
 clear hb hW0 y0 y1 y2 y3 z0 x4 x5 HC1
 obtain ⟨y0,y1,y2,y3⟩:=quad (u_ HK)
 cases hr:rdsN f.is nm
 . have HC2:=h_ (q5q ah ahc f.wh nm W1 (u_ HI).hl (u_ HSl).h)
   have HX:Hid (q=rdsN f.wh nm):=h_ (by rw [u_ HE,hr];rfl)
   clear hr
   go_wp2_with fail
   refine (u_ HC2).mono ?_
   rintro r W2 ⟨rfl,hb⟩
   replace HB:=mT HB hb
   clear hb
   go_wp2_with fail
   go_ret
   exact ⟨qfz (u_ HX).symm,u_ HB⟩
 . have HX:Hid (q=true):=h_ (by rw [u_ HE,hr];rfl)
   clear hr
   go_wp2_with fail
   go_ret
   exact ⟨qfz (u_ HX).symm,u_ HB⟩
def Plc (w:World) (a:Option Addr) (l:List Nat):Prop:=IntL w a (l.map fun x:Nat=>(x:Int))
theorem Plc.mono {w w':World} {a:Option Addr} {l:List Nat} (h:Plc w a l) (hb:Below w.heap.size w w'):Plc w' a l:=IntL.mono h hb
theorem Plc.at {w:World} {a:Option Addr} {l:List Nat} (h:Plc w a l) (k:Nat) (hk:k<l.length):∃ b o,a=some ⟨b,o,none⟩/\b<w.heap.size/\w.cell? ⟨b,o+k,none⟩=some (.int .i64 (l[k]:Int)):=by
 obtain ⟨b,o,e,h1,h2⟩:=h k (by simpa using hk)
 refine ⟨b,o,e,h1,?_⟩
 rw [h2]
 dsimp only
 rw [List.getD_eq_getElem?_getD,List.getElem?_map,List.getElem?_eq_getElem hk]
 rfl
def nxI (m:Fm) (D:List Nat):Int:=match nxt m D with
 | some k=>(k:Int)
 | none=>-1
theorem qfa {m:Fm} {D:List Nat} {k:Nat} (h:nxt m D=some k):nxI m D=k:=by unfold nxI;rw [h]
theorem qf9 {m:Fm} {D:List Nat} (h:nxt m D=none):nxI m D = -1:=by unfold nxI;rw [h]
theorem q69 {w:World} {base:Nat} {e:TypeId} {v:Value} {n:Nat} {us:List Nat} (h:w.ownsRow base e 1 v n (ui us)):∃ a cap,v=.slice a n cap/\n=us.length/\Plc w a us:=by
 have hlen:us.length=n:=by have:=h.1;simpa [ui] using this
 obtain ⟨a,cap,e1,hi⟩:=q3r h
 refine ⟨a,cap,e1,hlen.symm,fun k hk=>?_⟩
 have hk':k<us.length:=by simpa using hk
 obtain ⟨b,o,e2,h1,h2⟩:=hi k (by omega)
 refine ⟨b,o,e2,h1,?_⟩
 rw [h2]
 dsimp only
 rw [List.getD_eq_getElem?_getD,List.getElem?_eq_getElem hk',List.getD_eq_getElem?_getD,List.getElem?_map,List.getElem?_eq_getElem hk']
 rfl
end Go.Proofs.YtgkcaeidhkddjaaGreatDoor
