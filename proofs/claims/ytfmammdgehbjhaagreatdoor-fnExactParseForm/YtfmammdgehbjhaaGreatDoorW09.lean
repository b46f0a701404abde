import Derived.Test.YtfmammdgehbjhaaGreatDoorW08
set_option maxRecDepth 100000
set_option maxHeartbeats 64000000
namespace Go.Proofs.YtfmammdgehbjhaaGreatDoor
open Go
def opL (x:ByteArray)(l:Int):Nat->Nat->Nat
 | _,0=>0
 | a,n+1=>if lvl a=l/\wrd a=x then a else opL x l (a+1) n
theorem qd5 {x:ByteArray}{l:Int}:∀{n a:Nat},opL x l a n≠0->a<=opL x l a n/\opL x l a n<a+n/\lvl (opL x l a n:Nat)=l/\wrd (opL x l a n:Nat)=x
 | 0,_,h=>absurd rfl h
 | n+1,a,h=>by
  unfold opL at h⊢;split at h
  . rename_i e
    rw[Yn e];exact⟨nR _,by omega,e.1,e.2⟩
  . rename_i e
    rw[Yi e];have:=qd5 (n:=n) (a:=a+1) h;exact⟨by omega,by omega,this.2.2⟩
theorem opL_at {x:ByteArray}{l:Int}:∀{n a o:Nat},0<a->a<=o->o<a+n->lvl o=l->wrd o=x->opL x l a n≠0
 | 0,a,o,_,h1,h2,_,_=>by omega
 | n+1,a,o,h0,h1,h2,h3,h4=>by
  unfold opL;split
  . omega
  . rename_i e
    by_cases hq:a=o
    . subst hq;exact absurd ⟨h3,h4⟩ e
    . exact opL_at (by omega) (by omega) (by omega) h3 h4
theorem opW_at {x:ByteArray}:∀{n a o:Nat},0<a->a<=o->o<a+n->wrd o=x->opW x a n≠0
 | 0,a,o,_,h1,h2,_=>by omega
 | n+1,a,o,h0,h1,h2,h4=>by
  unfold opW;split
  . omega
  . rename_i e
    by_cases hq:a=o
    . subst hq;exact absurd h4 e
    . exact opW_at (by omega) (by omega) (by omega) h4
theorem qjs {a b:Nat}(ha:4<=a)(ha':a<=15)(hb:4<=b)(hb':b<=15)(h:wrd (a:Nat)=wrd (b:Nat)):a=b:=by
 have key:∀i:Fin 12,∀j:Fin 12,wrd ((i.val+4:Nat):Int)=wrd ((j.val+4:Nat):Int)->i=j:=by decide
 have:=key ⟨a - 4,by omega⟩ ⟨b - 4,by omega⟩ (by
  show wrd ((a - 4+4:Nat):Int)=wrd ((b - 4+4:Nat):Int);rw[show a - 4+4=a by omega,show b - 4+4=b by omega];exact h)
 have:=congrArg Fin.val this
 simp only at this
 omega
theorem sg_eq (t:ByteArray)(l:Nat):(if cls t=4∨cls t=1 then opL (txt t) l 4 12 else 0)=if tkX.b t≠0/\tkX.lv (tkX.b t)=l then tkX.b t else 0:=by
 show _=if opW t 4 12≠0/\(lvl (opW t 4 12:Nat)).toNat=l then opW t 4 12 else 0
 have lvp:∀o:Nat,0<=lvl o:=fun o=>by unfold lvl;repeat (first | omega | split)
 by_cases hc:cls t=4∨cls t=1
 . rw[Yn hc,txt_eq (by omega)]
   by_cases hL:opL t l 4 12=0
   . rw[hL,Yi]
     rintro⟨h1,h2⟩;obtain⟨a1,a2,a3⟩:=qd9 h1;exact opL_at (by omega) a1 a2 (by have:=lvp (opW t 4 12);omega) a3 hL
   . obtain⟨a1,a2,a3,a4⟩:=qd5 hL
     have hw:=opW_at (n:=12) (a:=4) (by omega) a1 a2 a4;obtain⟨b1,b2,b3⟩:=qd9 hw;have e:=qjs b1 (by omega) a1 (by omega) (b3.trans a4.symm);rw[e,Yn ⟨hL,by omega⟩]
 . rw[Yi hc,Yi]
   rintro⟨h1,-⟩;obtain⟨a1,a2,a3⟩:=qd9 h1;generalize opW t 4 12=o at *;have:o=4∨o=5∨o=6∨o=7∨o=8∨o=9∨o=10∨o=11∨o=12∨o=13∨o=14∨o=15:=by omega
   apply hc;rw[<- a3];rcases this with rfl | rfl | rfl | rfl | rfl | rfl | rfl | rfl | rfl | rfl | rfl | rfl <;> decide
def eoB (t:ByteArray):Bool:=decide (cls t=2)||decide (cls t=3)||decide (t=⟨#[41]⟩)||(goodN t||decide (t=⟨#[116,114,117,101]⟩)||decide (t=⟨#[102,97,108,115,101]⟩)||decide (t=⟨#[98,108,97,110,107]⟩))
theorem qeq {t:ByteArray}(h:goodN t=true∨(rv t).2.2.2=true):(tkK t).isSome=true:=by
 unfold tkK
 split
 . rfl
 . rename_i hg
   rw[Yn (h.resolve_left hg)];rfl
theorem eo_eq {t:ByteArray}(ht:VT t):tkX.eo t=eoB t:=by
 rw[Zj]
 unfold Lx.eo eoB
 simp only[Oa,Yj]
 constructor
 . rintro (h | h)
   . exact .inl (.inr (Ze h))
   . have hk:goodN t=true∨(rv t).2.2.2=true:=by
      change (tkK t).isSome=true at h
      unfold tkK at h;split at h
      . rename_i hg;exact .inl hg
      . split at h
        . rename_i hr;exact .inr hr
        . cases h
     rcases hk with h | h
     . exact .inr (.inl (.inl (.inl h)))
     . rcases qis h with h | h | h | ⟨c,r,e,hc⟩
       . exact .inr (.inr h)
       . exact .inr (.inl (.inl (.inr h)))
       . exact .inr (.inl (.inr h))
       . have hb:=bt0 e
         rcases hc with ⟨rfl,hr⟩ | hc | rfl
         . have h4:cls t=4:=by unfold cls;rw[hb];decide
           have:=ht.c4 h4;unfold syms at this;simp only[Y9,Z1,or_false]at this;rcases this with h | h | h | h | h | h | h | h | h | h | h | h | h | h <;>
            . subst h
              simp only[Vp]at e
              first | exact absurd e.1 (by decide) | exact absurd e.2.symm hr
         . left;left;left
           unfold cls;rw[hb];rw[Yi (by unfold small;simp;omega),Yn (by unfold digitB;simp;omega)]
         . left;left;right
           unfold cls;rw[hb]
           decide
 . rintro (((h | h) | h) | (((h | h) | h) | h))
   . exact .inr (qeq (.inr (ht.c2 h)))
   . exact .inr (qeq (.inr (ht.c3 h)))
   . exact .inl (Yh h)
   . exact .inr (qeq (.inl h))
   . exact .inr (qeq (.inr (by rw[h];decide)))
   . exact .inr (qeq (.inr (by rw[h];decide)))
   . exact .inr (qeq (.inr (by rw[h];decide)))
end Go.Proofs.YtfmammdgehbjhaaGreatDoor
namespace Go.Proofs.YtfmammdgehbjhaaGreatDoor
open Go Go.RowKit
theorem eqT (a b:ByteArray):(a.toList==b.toList)=decide (a=b):=by
 rw[Zj,Yj]
 refine⟨fun h=>?_,fun h=>by rw[h];simp⟩
 have h2:=q5o h
 rw[h2,Y4]
def tV (t:ByteArray)(p:Int):Value:=.agg #[.int .i64 (cls t:Nat),.string (txt t),.int .i64 p]
def TCel (w:World)(b o:Nat)(t:ByteArray)(p:Int):Prop:=b<w.heap.size/\w.cell? ⟨b,o,none⟩=some (.int .i64 (cls t:Nat))/\w.cell? ⟨b,o+1,none⟩=some (.string (txt t))/\w.cell? ⟨b,o+2,none⟩=some (.int .i64 p)
theorem TCel.mono {w w':World}{b o:Nat}{t:ByteArray}{p:Int}(h:TCel w b o t p)(hb:Below w.heap.size w w'):TCel w' b o t p :=
 ⟨Y3 h.1 hb.size,(hb.cell h.1).trans h.2.1,(hb.cell h.1).trans h.2.2.1,(hb.cell h.1).trans h.2.2.2⟩
def Tks (w:World)(a:Option Addr)(l:List ByteArray):Prop:=∀k (h:k<l.length),∃b o p,a=some ⟨b,o,none⟩/\TCel w b (o+k*3) l[k] p
theorem Tks.mono {w w':World}{a:Option Addr}{l:List ByteArray}(h:Tks w a l)(hb:Below w.heap.size w w'):Tks w' a l:=fun k hk=>by
 obtain⟨b,o,p,e,hc⟩:=h k hk
 exact⟨b,o,p,e,hc.mono hb⟩
theorem q3e (c p:Int)(x s:ByteArray)(w:World):Calls Tryz.prog 11 #[.agg (Jv c x p),.string s] w fun e w'=>e=.returned (.bool (decide (c=4/\x=s)))/\Below w.heap.size w w':=by
 have HB:=h_ ((bR w.heap.size w).alloc (nR _) (.cells (Jv c x p) 41))
 have he:=eqT x s
 by_cases h1:c=4
 . have h1':(c==4)=true:=by simp[h1]
   by_cases h2:x=s
   . rw[Yh h2]at he
     rw[Yh ⟨h1,h2⟩];clear h1 h2;go_enter Tryz.func11,Tryz.ntmps11;go_wp2_with fail;go_ret;exact⟨rfl,HB.u⟩
   . rw[Yg h2]at he
     rw[Yg (fun h=>h2 h.2)];clear h1 h2;go_enter Tryz.func11,Tryz.ntmps11;go_wp2_with fail;go_ret;exact⟨rfl,HB.u⟩
 . have h1':(c==4)=false:=Ye.2 h1
   rw[Yg (fun h=>h1 h.1)];clear h1;go_enter Tryz.func11,Tryz.ntmps11;go_wp2_with fail;go_ret;exact⟨rfl,HB.u⟩
theorem q76 (c p:Int)(x s:ByteArray)(w:World):Calls Tryz.prog 44 #[.agg (Jv c x p),.string s] w fun e w'=>e=.returned (.bool (decide (c=1/\x=s)))/\Below w.heap.size w w':=by
 have HB:=h_ ((bR w.heap.size w).alloc (nR _) (.cells (Jv c x p) 41))
 have he:=eqT x s
 by_cases h1:c=1
 . have h1':(c==1)=true:=by simp[h1]
   by_cases h2:x=s
   . rw[Yh h2]at he
     rw[Yh ⟨h1,h2⟩];clear h1 h2;go_enter Tryz.func44,Tryz.ntmps44;go_wp2_with fail;go_ret;exact⟨rfl,HB.u⟩
   . rw[Yg h2]at he
     rw[Yg (fun h=>h2 h.2)];clear h1 h2;go_enter Tryz.func44,Tryz.ntmps44;go_wp2_with fail;go_ret;exact⟨rfl,HB.u⟩
 . have h1':(c==1)=false:=Ye.2 h1
   rw[Yg (fun h=>h1 h.1)];clear h1;go_enter Tryz.func44,Tryz.ntmps44;go_wp2_with fail;go_ret;exact⟨rfl,HB.u⟩
theorem q39 (c p:Int)(x:ByteArray)(w:World)(hs:x.size<=9223372036854775807):Calls Tryz.prog 45 #[.agg (Jv c x p)] w fun e w'=>e=.returned (.bool (decide (c=1/\goodN x=true)))/\Below w.heap.size w w':=by
 have HB:=h_ ((bR w.heap.size w).alloc (nR _) (.cells (Jv c x p) 41))
 by_cases h1:c=1
 . have h1':(c==1)=true:=by simp[h1]
   cases h2:goodN x
   . rw[Yg (fun h=>by cases h.2)]
     clear h1;go_enter Tryz.func45,Tryz.ntmps45;go_wp2_with fail;refine(q1s x _ hs).mono ?_;rintro e w' ⟨rfl,rfl⟩;rw[h2];go_wp2_with fail;go_ret;exact⟨rfl,HB.u⟩
   . rw[Yh ⟨h1,rfl⟩]
     clear h1;go_enter Tryz.func45,Tryz.ntmps45;go_wp2_with fail;refine(q1s x _ hs).mono ?_;rintro e w' ⟨rfl,rfl⟩;rw[h2];go_wp2_with fail;go_ret;exact⟨rfl,HB.u⟩
 . have h1':(c==1)=false:=Ye.2 h1
   rw[Yg (fun h=>h1 h.1)];clear h1;go_enter Tryz.func45,Tryz.ntmps45;go_wp2_with fail;go_ret;exact⟨rfl,HB.u⟩
theorem qj9 {t s:ByteArray}(p:Int)(hs:cls s=4)(w:World):Calls Tryz.prog 11 #[tV t p,.string s] w fun e w'=>e=.returned (.bool (decide (t=s)))/\Below w.heap.size w w':=by
 have:=q3e (cls t:Nat) p (txt t) s w
 have e:decide ((cls t:Int)=4/\txt t=s)=decide (t=s):=by
  have:=qj7 (t:=t) hs;rw[decide_eq_decide];exact⟨fun h=>this.1 ⟨by omega,h.2⟩,fun h=>⟨by have:=(this.2 h).1;omega,(this.2 h).2⟩⟩
 rw[e]at this
 exact this
theorem qf6 {t s:ByteArray}(p:Int)(hs:cls s=1)(w:World):Calls Tryz.prog 44 #[tV t p,.string s] w fun e w'=>e=.returned (.bool (decide (t=s)))/\Below w.heap.size w w':=by
 have:=q76 (cls t:Nat) p (txt t) s w
 have e:decide ((cls t:Int)=1/\txt t=s)=decide (t=s):=by
  have:=qf5 (t:=t) hs;rw[decide_eq_decide];exact⟨fun h=>this.1 ⟨by omega,h.2⟩,fun h=>⟨by have:=(this.2 h).1;omega,(this.2 h).2⟩⟩
 rw[e]at this
 exact this
theorem qf2 (t:ByteArray):(txt t).size<=t.size:=by
 unfold txt
 split
 . rw[qcv];omega
 . exact nR _
theorem qch {t:ByteArray}(p:Int)(hs:t.size<=9223372036854775807)(w:World):Calls Tryz.prog 45 #[tV t p] w fun e w'=>e=.returned (.bool (goodN t))/\Below w.heap.size w w':=by
 have:=q39 (cls t:Nat) p (txt t) w (Yt (qf2 t) hs)
 have e:decide ((cls t:Int)=1/\goodN (txt t)=true)=goodN t:=by
  rw[Zj,Yj];have:=qcg (t:=t);exact⟨fun h=>this.1 ⟨by omega,h.2⟩,fun h=>⟨by have:=(this.2 h).1;omega,(this.2 h).2⟩⟩
 rw[e]at this
 exact this
theorem qd6 (x:ByteArray)(l:Int)(a n:Nat):opL x l a (n+1)=if lvl a=l/\wrd a=x then a else opL x l (a+1) n:=rfl
theorem q3d (c p l:Int)(x:ByteArray)(w:World):Calls Tryz.prog 119 #[.agg (Jv c x p),Ya l] w fun e w'=>e=.returned (Ya (if c=4∨c=1 then opL x l 4 12 else 0:Nat))/\Below w.heap.size w w':=by
 have HB:=h_ ((bR w.heap.size w).alloc (nR _) (.cells (Jv c x p) 41))
 have HK:=h_ (Blk.new w 41 (Jv c x p))
 obtain⟨W1,hW1⟩:=Nq (w.alloc (.cells (Jv c x p) 41))
 rw[hW1]at HB HK
 obtain⟨R,hR⟩:∃R,(if c=4∨c=1 then opL x l 4 12 else 0)=R:=⟨_,rfl⟩
 rw[hR]
 have HZ:=h_ hR
 clear hR
 go_enter Tryz.func119,Tryz.ntmps119
 go_wp2_with fail
 try rw[hW1]
 go_loopw [5] (fun i wr=>∃k t:Nat,4<=k/\k<=16/\i=Ya (k:Nat)/\R=(if c=4∨c=1 then opL x l k (16 - k) else 0)/\wr=W1.drewN t) (fun i _=>16 - (intOf i).toNat)
 case atStart=>exact⟨4,0,by omega,by omega,rfl,HZ.u.symm,rfl⟩
 case round =>
  obtain⟨k,t,hk4,hk,rfl,hr,rfl⟩:=hrel;have HR:=h_ hr;clear hr;have HB2:Hi (∀n,Below w.heap.size w (W1.drewN n)):=h_ fun n=>HB.u.trans ((q2o W1 n).mono HB.u.size);have y0:W1.cell? ⟨w.heap.size,0,none⟩=some (Ya c):=HK.u.cell 0;have y1:W1.cell? ⟨w.heap.size,1,none⟩=some (.string x):=HK.u.cell 1;by_cases hlt:k<16
  . have hlt':(k:Int)<=15:=by omega
    obtain⟨n,hn⟩:∃n,16 - k=n+1:=⟨15 - k,by omega⟩;have HL:=h_ (q52 (k:Int));have HS:=h_ (fun w=>q74 (k:Int) w (by omega) (by omega));rw[hn,qd6 x l k n]at HR;obtain⟨lv,hlv⟩:=Nq (lvl (k:Int));obtain⟨wd,hwd⟩:=Nq (wrd (k:Int));rw[hlv]at HL HR;rw[hwd]at HS HR;have he:=eqT x wd;by_cases h1:lv=l
    . have h1':(lv==l)=true:=by simp[h1]
      by_cases h2:x=wd
      . rw[Yh h2]at he
        by_cases h3:c=4
        . have h3':(c==4)=true:=by simp[h3]
          rw[Yn (.inl h3),Yn ⟨h1,h2.symm⟩]at HR;clear h1 h2 h3;go_wp2_with fail
          go_quiet (first | (go_at_call 127;refine q7t (HL.u _)) | (go_at_call 130;refine q7t (HS.u _)))
          go_wp2_with fail;go_ret;exact⟨qij (by rw[HR.u]),HB2.u _⟩
        . have h3':(c==4)=false:=Ye.2 h3
          by_cases h4:c=1
          . have h4':(c==1)=true:=by simp[h4]
            rw[Yn (.inr h4),Yn ⟨h1,h2.symm⟩]at HR;clear h1 h2 h3 h4;go_wp2_with fail
            go_quiet (first | (go_at_call 127;refine q7t (HL.u _)) | (go_at_call 130;refine q7t (HS.u _)))
            go_wp2_with fail;go_ret;exact⟨qij (by rw[HR.u]),HB2.u _⟩
          . have h4':(c==1)=false:=Ye.2 h4
            have HC:Hi (¬ (c=4∨c=1)):=h_ (by omega);rw[Yi HC.u]at HR;clear h1 h2 h3 h4;go_wp2_with fail
            go_quiet (first | (go_at_call 127;refine q7t (HL.u _)) | (go_at_call 130;refine q7t (HS.u _)))
            go_wp2_with fail;go_roundw
            case rel=>exact⟨k+1,_,by omega,by omega,by go_num,by rw[Yi HC.u];exact HR.u,rfl⟩
            case measure=>simp[intOf];omega
      . rw[Yg h2]at he
        rw[Yi (show ¬ (lv=l/\wd=x) from fun h=>h2 h.2.symm)]at HR;clear h1 h2;go_wp2_with fail
        go_quiet (first | (go_at_call 127;refine q7t (HL.u _)) | (go_at_call 130;refine q7t (HS.u _)))
        go_wp2_with fail;go_roundw
        case rel=>exact⟨k+1,_,by omega,by omega,by go_num,by rw[show 16 - (k+1)=n by omega];exact HR.u,rfl⟩
        case measure=>simp[intOf];omega
    . have h1':(lv==l)=false:=Ye.2 h1
      rw[Yi (show ¬ (lv=l/\wd=x) from fun h=>h1 h.1)]at HR;clear h1;go_wp2_with fail
      go_quiet (first | (go_at_call 127;refine q7t (HL.u _)) | (go_at_call 130;refine q7t (HS.u _)))
      go_wp2_with fail;go_roundw
      case rel=>exact⟨k+1,_,by omega,by omega,by go_num,by rw[show 16 - (k+1)=n by omega];exact HR.u,rfl⟩
      case measure=>simp[intOf];omega
  . obtain rfl:k=16:=by omega
    have HX:Hi (R=0):=h_ (by rw[HR.u];split <;> rfl);go_wp2_with fail;go_ret;exact⟨qij (by rw[HX.u];rfl),HB2.u _⟩
def sgN (t:ByteArray)(l:Nat):Nat:=if tkX.b t≠0/\tkX.lv (tkX.b t)=l then tkX.b t else 0
theorem qe4 (t:ByteArray)(p:Int)(l:Nat)(w:World):Calls Tryz.prog 119 #[tV t p,Ya l] w fun e w'=>e=.returned (Ya (sgN t l:Nat))/\Below w.heap.size w w':=by
 have:=q3d (cls t:Nat) p l (txt t) w
 have e:(if (cls t:Int)=4∨(cls t:Int)=1 then opL (txt t) l 4 12 else 0)=sgN t l:=by
  unfold sgN;rw[<- sg_eq];by_cases h:cls t=4∨cls t=1
  . rw[Yn h,Yn (by omega)]
  . rw[Yi h,Yi (by omega)]
 rw[e]at this
 exact this
theorem qc1 (t:ByteArray)(p:Int)(hs:t.size<=9223372036854775807)(w:World):Calls Tryz.prog 150 #[tV t p] w fun e w'=>e=.returned (.bool (eoB t))/\Below w.heap.size w w':=by
 have HSy:=h_ (fun w=>qj9 (t:=t) (s:=⟨#[41]⟩) p (by decide) w)
 have HGd:=h_ (fun w=>qch (t:=t) p hs w)
 have HT:=h_ (fun w=>qf6 (t:=t) (s:=⟨#[116,114,117,101]⟩) p (by decide) w)
 have HF:=h_ (fun w=>qf6 (t:=t) (s:=⟨#[102,97,108,115,101]⟩) p (by decide) w)
 have HN:=h_ (fun w=>qf6 (t:=t) (s:=⟨#[98,108,97,110,107]⟩) p (by decide) w)
 have HE:Hi (eoB t=(decide (cls t=2)||decide (cls t=3)||decide (t=⟨#[41]⟩)||(goodN t||decide (t=⟨#[116,114,117,101]⟩)||decide (t=⟨#[102,97,108,115,101]⟩)||decide (t=⟨#[98,108,97,110,107]⟩)))):=rfl
 unfold tV at *
 have h2:cls t=2∨¬ cls t=2:=Decidable.em _
 have h3:cls t=3∨¬ cls t=3:=Decidable.em _
 have e2:((cls t:Int)==2)=decide (cls t=2):=by rcases h2 with h | h <;> simp[h];omega
 have e3:((cls t:Int)==3)=decide (cls t=3):=by rcases h3 with h | h <;> simp[h];omega
 clear h2 h3
 generalize hc:(cls t:Int)=c at *
 generalize decide (cls t=2)=d2 at *
 generalize decide (cls t=3)=d3 at *
 generalize txt t=x at *
 generalize decide (t=⟨#[41]⟩)=d4 at *
 generalize goodN t=g at *
 generalize decide (t=⟨#[116,114,117,101]⟩)=d5 at *
 generalize decide (t=⟨#[102,97,108,115,101]⟩)=d6 at *
 generalize decide (t=⟨#[98,108,97,110,107]⟩)=d7 at *
 generalize eoB t=R at *
 clear hc
 obtain rfl:=HE.u
 clear HE
 have HK:=h_ (Blk.new w 41 (Jv c x p))
 have HB:=h_ ((bR w.heap.size w).alloc (nR _) (.cells (Jv c x p) 41))
 obtain⟨W1,hW1⟩:=Nq (w.alloc (.cells (Jv c x p) 41))
 rw[hW1]at HB HK
 have y0:=HK.u.cell 0;have y1:=HK.u.cell 1;have y2:=HK.u.cell 2
 simp only[Yp,Zb]at y0 y1 y2
 cases d2
 case true =>
  go_enter Tryz.func150,Tryz.ntmps150;go_wp2_with fail
  try rw[hW1]
  go_ret;exact⟨rfl,HB.u⟩
 cases d3
 case true =>
  go_enter Tryz.func150,Tryz.ntmps150;go_wp2_with fail
  try rw[hW1]
  go_ret;exact⟨rfl,HB.u⟩
 go_enter Tryz.func150,Tryz.ntmps150
 go_wp2_with fail
 try rw[hW1]
 refine(HSy.u _).mono ?_
 rintro e W2 ⟨rfl,hb⟩
 replace HB:=mT HB hb;replace HK:=mB HK hb
 clear hb y0 y1 y2 hW1
 cases d4
 case true =>
  go_wp2_with fail;go_ret;exact⟨rfl,HB.u⟩
 have y0:=HK.u.cell 0;have y1:=HK.u.cell 1;have y2:=HK.u.cell 2
 simp only[Yp,Zb]at y0 y1 y2
 go_wp2_with fail
 refine(HGd.u _).mono ?_
 rintro e W3 ⟨rfl,hb⟩
 replace HB:=mT HB hb;replace HK:=mB HK hb
 clear hb y0 y1 y2
 cases g
 case true =>
  go_wp2_with fail;go_ret;exact⟨rfl,HB.u⟩
 have y0:=HK.u.cell 0;have y1:=HK.u.cell 1;have y2:=HK.u.cell 2
 simp only[Yp,Zb]at y0 y1 y2
 go_wp2_with fail
 refine(HT.u _).mono ?_
 rintro e W4 ⟨rfl,hb⟩
 replace HB:=mT HB hb;replace HK:=mB HK hb
 clear hb y0 y1 y2
 cases d5
 case true =>
  go_wp2_with fail;go_ret;exact⟨rfl,HB.u⟩
 have y0:=HK.u.cell 0;have y1:=HK.u.cell 1;have y2:=HK.u.cell 2
 simp only[Yp,Zb]at y0 y1 y2
 go_wp2_with fail
 refine(HF.u _).mono ?_
 rintro e W5 ⟨rfl,hb⟩
 replace HB:=mT HB hb;replace HK:=mB HK hb
 clear hb y0 y1 y2
 cases d6
 case true =>
  go_wp2_with fail;go_ret;exact⟨rfl,HB.u⟩
 have y0:=HK.u.cell 0;have y1:=HK.u.cell 1;have y2:=HK.u.cell 2
 simp only[Yp,Zb]at y0 y1 y2
 go_wp2_with fail
 refine(HN.u _).mono ?_
 rintro e W6 ⟨rfl,hb⟩
 replace HB:=mT HB hb
 clear hb y0 y1 y2
 go_wp2_with fail
 go_ret
 exact⟨by cases d7 <;> rfl,HB.u⟩
def TkOk (l:List ByteArray):Prop:=∀t,t∈l->VT t/\t.size<=1048576
theorem TkOk.at {l:List ByteArray}(h:TkOk l){k:Nat}(hk:k<l.length):VT l[k]/\l[k].size<=1048576:=h _ (Ys hk)
theorem tokLR (t:ByteArray):(decide (t=⟨#[40]⟩)=true/\decide (t=⟨#[41]⟩)=false/\tkX.L t=true/\tkX.R t=false/\dlt tkX t=1)∨(decide (t=⟨#[40]⟩)=false/\decide (t=⟨#[41]⟩)=true/\tkX.L t=false/\tkX.R t=true/\dlt tkX t = -1)∨(decide (t=⟨#[40]⟩)=false/\decide (t=⟨#[41]⟩)=false/\tkX.L t=false/\tkX.R t=false/\dlt tkX t=0):=by
 by_cases h1:t=⟨#[40]⟩
 . subst h1;left;decide
 . by_cases h2:t=⟨#[41]⟩
   . subst h2;right;left;decide
   . right;right
     have a:tkX.L t=false:=Yg h1;have b:tkX.R t=false:=Yg h2;exact⟨Yg h1,Yg h2,a,b,by unfold dlt;rw[a,b];rfl⟩
theorem qc0 {l:List ByteArray}{k:Nat}(h:k<l.length):l.drop k=l[k] :: l.drop (k+1):=Y8 h
theorem q1p (a:Option Addr)(c:Nat)(l:List ByteArray)(w:World)(hl:l.length<=1048576)(ha:Tks w a l) :
 Calls Tryz.prog 90 #[.slice a l.length c] w fun r w'=>r=.returned (.bool (decide (blc tkX 64 0 l=some 0)))/\Below w.heap.size w w':=by
 have HA:=h_ ha
 clear ha
 obtain⟨R,hR⟩:=Nq (blc tkX 64 0 l)
 rw[hR]
 have HZ:=h_ hR
 clear hR
 go_enter Tryz.func90,Tryz.ntmps90
 go_wp2_with fail
 go_loopw [3,4] (fun dv i wr=>∃k d:Nat,k<=l.length/\d<=64/\dv=Ya (d:Nat)/\i=Ya k/\R=blc tkX 64 d (l.drop k)/\Below w.heap.size w wr) (fun _ i _=>l.length - (intOf i).toNat)
 case atStart=>exact⟨0,0,nZ _,by omega,rfl,rfl,HZ.u.symm,bR _ _⟩
 case round =>
  obtain⟨k,d,hk,hd,rfl,rfl,hr,hb⟩:=hrel;have HB:=h_ hb;have HR:=h_ hr;have HV:=h_ (HA.u.mono hb);clear hb hr;by_cases hlt:k<l.length
  . have hlt':(k:Int)<l.length:=by omega
    rw[qc0 hlt]at HR;obtain⟨b,o,p,rfl,hc⟩:=HV.u k hlt;generalize l[k]=t at *;have HC:=h_ hc;obtain⟨-,c0,c1,c2⟩:=hc;have HL:=h_ (fun w=>qj9 (t:=t) (s:=⟨#[40]⟩) p (by decide) w);have HJ:=h_ (fun w=>qj9 (t:=t) (s:=⟨#[41]⟩) p (by decide) w);unfold tV at HL HJ;rcases tokLR t with ⟨q1,q2,q3,q4,-⟩ | ⟨q1,q2,q3,q4,-⟩ | ⟨q1,q2,q3,q4,-⟩
    . rw[q1]at HL;rw[q2]at HJ
      simp only[blc,q3,if_true]at HR;clear q1 q2 q3 q4;go_wp2_with fail;refine(HL.u _).mono ?_;rintro e W1 ⟨rfl,hb⟩;replace HB:=mT HB hb;replace HC:=h_ (HC.u.mono hb);clear hb c0 c1 c2;obtain⟨-,c0,c1,c2⟩:=HC.u;go_wp2_with fail;refine(HJ.u _).mono ?_;rintro e W2 ⟨rfl,hb⟩;replace HB:=mT HB hb;clear hb c0 c1 c2;by_cases h64:d+1<=64
      . rw[Yn h64]at HR
        go_wp2_with fail;go_roundw
        case rel=>exact⟨k+1,d+1,by omega,h64,by go_num,by go_num,HR.u,HB.u⟩
        case measure=>simp[intOf];omega
      . rw[Yi h64]at HR
        obtain rfl:d=64:=(by omega);go_wp2_with fail;go_ret;exact⟨qdx (by rw[HR.u];rfl),HB.u⟩
    . rw[q1]at HL;rw[q2]at HJ
      simp only[blc,q3,q4,if_true,Vw,if_false]at HR;clear q1 q2 q3 q4;go_wp2_with fail;refine(HL.u _).mono ?_;rintro e W1 ⟨rfl,hb⟩;replace HB:=mT HB hb;replace HC:=h_ (HC.u.mono hb);clear hb c0 c1 c2;obtain⟨-,c0,c1,c2⟩:=HC.u;go_wp2_with fail;refine(HJ.u _).mono ?_;rintro e W2 ⟨rfl,hb⟩;replace HB:=mT HB hb;clear hb c0 c1 c2;by_cases h64:d=0
      . rw[Yn h64]at HR
        subst h64;go_wp2_with fail;go_ret;exact⟨qdx (by rw[HR.u];rfl),HB.u⟩
      . rw[Yi h64]at HR
        obtain⟨d,rfl⟩:∃x,d=x+1:=⟨d - 1,by omega⟩;have hw:wrap64 (((d+1:Nat):Int) - 1)=(d:Int):=(by rw[q40 (by omega) (by omega)];omega);go_wp2_with fail;go_roundw
        case rel=>exact⟨k+1,d,by omega,by omega,by go_num,by go_num,HR.u,HB.u⟩
        case measure=>simp[intOf];omega
    . rw[q1]at HL;rw[q2]at HJ
      simp only[blc,q3,q4,Vw,if_false]at HR;clear q1 q2 q3 q4;go_wp2_with fail;refine(HL.u _).mono ?_;rintro e W1 ⟨rfl,hb⟩;replace HB:=mT HB hb;replace HC:=h_ (HC.u.mono hb);clear hb c0 c1 c2;obtain⟨-,c0,c1,c2⟩:=HC.u;go_wp2_with fail;refine(HJ.u _).mono ?_;rintro e W2 ⟨rfl,hb⟩;replace HB:=mT HB hb;clear hb c0 c1 c2;go_wp2_with fail;go_roundw
      case rel=>exact⟨k+1,d,by omega,by omega,by go_num,by go_num,HR.u,HB.u⟩
      case measure=>simp[intOf];omega
  . have hlt':¬ (k:Int)<l.length:=by omega
    have HX:Hi (R=some d):=h_ (by rw[HR.u,Yx (by omega)];rfl);go_wp2_with fail;go_ret;exact⟨qdx (by rw[HX.u];by_cases h:d=0 <;> simp[h]),HB.u⟩
def mtV (k:Nat)(d:Int)(l:List ByteArray):Int:=match mtc tkX d (l.drop k) with
 | some j=>((k+j:Nat):Int)
 | none=>-1
theorem qht {k:Nat}{d:Int}{l:List ByteArray}(h:k<l.length)(h1:tkX.R l[k]=true)(h2:d+dlt tkX l[k]=0):mtV k d l=k:=by
 unfold mtV
 rw[qc0 h]
 simp only[mtc,h1,h2,and_self,if_true]
 simp
theorem mtV_no {k:Nat}{d:Int}{l:List ByteArray}(h:k<l.length)(h1:¬ (tkX.R l[k]=true/\d+dlt tkX l[k]=0)):mtV k d l=mtV (k+1) (d+dlt tkX l[k]) l:=by
 unfold mtV
 rw[qc0 h]
 simp only[mtc,Yi h1]
 cases mtc tkX (d+dlt tkX l[k]) (l.drop (k+1)) with
 | none=>rfl
 | some j=>simp;omega
theorem q53 (a:Option Addr)(c:Nat)(l:List ByteArray)(i:Nat)(w:World)(hl:l.length<=1048576)(hi:i<=l.length)(ha:Tks w a l) :
 Calls Tryz.prog 156 (J7 a l.length c i) w fun r w'=>r=.returned (Ya (mtV i 0 l))/\Below w.heap.size w w':=by
 have HA:=h_ ha
 clear ha
 obtain⟨R,hR⟩:=Nq (mtV i 0 l)
 rw[hR]
 have HZ:=h_ hR
 clear hR
 go_enter Tryz.func156,Tryz.ntmps156
 go_wp2_with fail
 go_loopw [5,6] (fun dv iv wr=>∃(k:Nat) (d:Int),k<=l.length/\-(k:Int)<=d/\d<=k/\dv=Ya d/\iv=Ya k/\R=mtV k d l/\Below w.heap.size w wr) (fun _ i _=>l.length - (intOf i).toNat)
 case atStart=>exact⟨i,0,hi,by omega,by omega,rfl,rfl,HZ.u.symm,bR _ _⟩
 case round =>
  obtain⟨k,d,hk,hd0,hd1,rfl,rfl,hr,hb⟩:=hrel;have HB:=h_ hb;have HR:=h_ hr;have HV:=h_ (HA.u.mono hb);clear hb hr;by_cases hlt:k<l.length
  . have hlt':(k:Int)<l.length:=by omega
    obtain⟨b,o,p,rfl,hc⟩:=HV.u k hlt;have HY:=h_ (fun h1 h2=>qht (d:=d) hlt h1 h2);have HN:=h_ (fun h1=>mtV_no (d:=d) hlt h1);generalize l[k]=t at *;have HC:=h_ hc;obtain⟨-,c0,c1,c2⟩:=hc;have HL:=h_ (fun w=>qj9 (t:=t) (s:=⟨#[40]⟩) p (by decide) w);have HJ:=h_ (fun w=>qj9 (t:=t) (s:=⟨#[41]⟩) p (by decide) w);unfold tV at HL HJ;have wp1:wrap64 (d+1)=d+1:=q40 (by omega) (by omega);have wm1:wrap64 (d - 1)=d - 1:=q40 (by omega) (by omega);rcases tokLR t with ⟨q1,q2,q3,q4,q5⟩ | ⟨q1,q2,q3,q4,q5⟩ | ⟨q1,q2,q3,q4,q5⟩
    . rw[q1]at HL;rw[q2]at HJ
      rw[q4,q5]at HN;have HX:=h_ (HR.u.trans (HN.u (by simp)));clear q1 q2 q3 q4 q5 HY HN HR;go_wp2_with fail;refine(HL.u _).mono ?_;rintro e W1 ⟨rfl,hb⟩;replace HB:=mT HB hb;replace HC:=h_ (HC.u.mono hb);clear hb c0 c1 c2;obtain⟨-,c0,c1,c2⟩:=HC.u;go_wp2_with fail;refine(HJ.u _).mono ?_;rintro e W2 ⟨rfl,hb⟩;replace HB:=mT HB hb;clear hb c0 c1 c2;go_wp2_with fail;go_roundw
      case rel=>exact⟨k+1,d+1,by omega,by omega,by omega,by go_num,by go_num,HX.u,HB.u⟩
      case measure=>simp[intOf];omega
    . rw[q1]at HL;rw[q2]at HJ
      rw[q4,q5]at HN;rw[q4,q5]at HY;clear q1 q2 q3 q4 q5;go_wp2_with fail;refine(HL.u _).mono ?_;rintro e W1 ⟨rfl,hb⟩;replace HB:=mT HB hb;replace HC:=h_ (HC.u.mono hb);clear hb c0 c1 c2;obtain⟨-,c0,c1,c2⟩:=HC.u;go_wp2_with fail;refine(HJ.u _).mono ?_;rintro e W2 ⟨rfl,hb⟩;replace HB:=mT HB hb;clear hb c0 c1 c2;by_cases h1:d=1
      . have HX:=h_ (HR.u.trans (HY.u (by trivial) (by omega)))
        subst h1;clear HY HN HR;go_wp2_with fail;go_ret;exact⟨qij (by rw[HX.u]),HB.u⟩
      . have HX:=h_ (HR.u.trans (HN.u (fun h=>by omega)))
        have h1':(d - 1==0)=false:=Ye.2 (by omega);have h2':(d==1)=false:=Ye.2 h1;clear HY HN HR;go_wp2_with fail;go_roundw
        case rel=>exact⟨k+1,d - 1,by omega,by omega,by omega,by go_num,by go_num,by rw[HX.u];rfl,HB.u⟩
        case measure=>simp[intOf];omega
    . rw[q1]at HL;rw[q2]at HJ
      rw[q4,q5]at HN;have HX:=h_ (HR.u.trans (HN.u (by simp)));clear q1 q2 q3 q4 q5 HY HN HR;go_wp2_with fail;refine(HL.u _).mono ?_;rintro e W1 ⟨rfl,hb⟩;replace HB:=mT HB hb;replace HC:=h_ (HC.u.mono hb);clear hb c0 c1 c2;obtain⟨-,c0,c1,c2⟩:=HC.u;go_wp2_with fail;refine(HJ.u _).mono ?_;rintro e W2 ⟨rfl,hb⟩;replace HB:=mT HB hb;clear hb c0 c1 c2;go_wp2_with fail;go_roundw
      case rel=>exact⟨k+1,d,by omega,by omega,by omega,by go_num,by go_num,by rw[HX.u];simp,HB.u⟩
      case measure=>simp[intOf];omega
  . have hlt':¬ (k:Int)<l.length:=by omega
    have HX:Hi (R = -1):=h_ (by rw[HR.u];unfold mtV;rw[Yx (by omega)];rfl);go_wp2_with fail;go_ret;exact⟨qij (by rw[HX.u]),HB.u⟩
end Go.Proofs.YtfmammdgehbjhaaGreatDoor
