import Derived.Test.YtnhjjaminkhiiaaGreatDoorVGT4
import Derived.OpenShut
import Derived.Carry
import Derived.Deep.DeepHandedRow
import Derived.Deep.Grids
import Derived.Lib.LaidTab
import Derived.Lib.SmallJoins
import Derived.Test.YtnhjjaminkhiiaaGreatDoorCards
import Derived.Test.YtnhjjaminkhiiaaGreatDoorTie
import Derived.Stop.LaidErr
import Derived.Deep.Slices
import Derived.Shelf.Vars
import Derived.OpenVars
import Derived.ChangeVars
set_option maxRecDepth 100000
set_option maxHeartbeats 20000000
namespace Go.Proofs.YtnhjjaminkhiiaaGreatDoor
open Go Go.RowKit
theorem qdo (m:Fm) (A:MA) (l0:Int) (w:World) (hf:FitM m) (h0:0<=l0) (h1:l0<=1048576) (ha:MSl w m A) :
 Calls Tryz.prog 5 #[mV m A,.int .i64 l0] w fun r w'=>∃ q:Int,r=.returned (.int .i64 q)/\(0<=q->Sm m/\q<=1048576)/\Below w.heap.size w w':=by
 obtain ⟨al,alc,ap,apc,ar,arc,af,afc,afa⟩:=A
 unfold mV
 dsimp only
 have HK:=h_ (Blk.new w 27 #[.slice al m.L.length alc,.slice ap m.P.length apc,.slice ar m.R.length arc,.slice af m.F.length afc])
 have HB:=h_ ((bR w.heap.size w).alloc (nR _) (.cells #[.slice al m.L.length alc,.slice ap m.P.length apc,.slice ar m.R.length arc,.slice af m.F.length afc] 27))
 obtain ⟨W0,hW0⟩:∃ W0,w.alloc (.cells #[.slice al m.L.length alc,.slice ap m.P.length apc,.slice ar m.R.length arc,.slice af m.F.length afc] 27)=W0:=⟨_,rfl⟩
 rw [hW0] at HK HB
 have HS:=h_ (ha.mono (u_ HB));have HF:=h_ hf
 clear ha hf
 obtain ⟨x0,x1,x2,x3⟩:=quad (u_ HK)
 go_enter Tryz.func5,Tryz.ntmps5
 go_wp2_with fail
 try rw [hW0]
 clear hW0
 refine (q2z al alc m.L l0 W0 h0 h1 (u_ HF).ll (u_ HF).l (u_ HS).l).mono ?_
 rintro r W1 ⟨q1,rfl,hq,hm,hb⟩
 replace HK:=mB HK hb;replace HS:=h_ ((u_ HS).mono hb);replace HB:=mT HB hb
 have HQ1:=h_ hq
 clear hq hm hb x0 x1 x2 x3
 obtain ⟨x0,x1,x2,x3⟩:=quad (u_ HK)
 by_cases hr1:q1<0
 . go_wp2_with fail
   go_ret
   exact ⟨_,rfl,fun h=>absurd h (by decide),u_ HB⟩
 have hl1:q1<=1048576:=(u_ HQ1 (by omega)).1
 have HX1:=h_ (u_ HQ1 (by omega)).2
 go_wp2_with fail
 refine (q4h ap apc m.P.length q1 W1 (by omega) hl1 (u_ HF).pl).mono ?_
 rintro r W2 ⟨q2,rfl,hq,hm,hb⟩
 replace HK:=mB HK hb;replace HS:=h_ ((u_ HS).mono hb);replace HB:=mT HB hb
 have HQ2:=h_ hq
 clear hq hm hb x0 x1 x2 x3
 obtain ⟨x0,x1,x2,x3⟩:=quad (u_ HK)
 by_cases hr2:q2<0
 . go_wp2_with fail
   go_ret
   exact ⟨_,rfl,fun h=>absurd h (by decide),u_ HB⟩
 have hl2:q2<=1048576:=(u_ HQ2 (by omega)).1
 have HX2:=h_ (u_ HQ2 (by omega)).2
 go_wp2_with fail
 refine (q4i ar arc m.R q2 W2 (by omega) hl2 (u_ HF).rl (u_ HF).r (u_ HS).r).mono ?_
 rintro r W3 ⟨q3,rfl,hq,hm,hb⟩
 replace HK:=mB HK hb;replace HS:=h_ ((u_ HS).mono hb);replace HB:=mT HB hb
 have HQ3:=h_ hq
 clear hq hm hb x0 x1 x2 x3
 obtain ⟨x0,x1,x2,x3⟩:=quad (u_ HK)
 by_cases hr3:q3<0
 . go_wp2_with fail
   go_ret
   exact ⟨_,rfl,fun h=>absurd h (by decide),u_ HB⟩
 have hl3:q3<=1048576:=(u_ HQ3 (by omega)).1
 have HX3:=h_ (u_ HQ3 (by omega)).2
 go_wp2_with fail
 refine (q4g af afc m.F afa q3 W3 (by omega) hl3 (u_ HF).fl (u_ HF).f (u_ HS).f).mono ?_
 rintro r W4 ⟨q4,rfl,hq,hm,hb⟩
 replace HK:=mB HK hb;replace HS:=h_ ((u_ HS).mono hb);replace HB:=mT HB hb
 have HQ4:=h_ hq
 clear hq hm hb x0 x1 x2 x3
 obtain ⟨x0,x1,x2,x3⟩:=quad (u_ HK)
 by_cases hr4:q4<0
 . go_wp2_with fail
   go_ret
   exact ⟨_,rfl,fun h=>absurd h (by decide),u_ HB⟩
 have hl4:q4<=1048576:=(u_ HQ4 (by omega)).1
 have HX4:=h_ (u_ HQ4 (by omega)).2
 go_wp2_with fail
 go_ret
 exact ⟨_,rfl,fun _=>⟨⟨u_ HX1,u_ HX2,u_ HX3,(u_ HX4).1,(u_ HX4).2⟩,hl4⟩,u_ HB⟩
theorem qee {m:Fm} {n:Nat} {F:Nat->Bool} {a:Int} (h:ChkF m n F 0 a):a=0:=by
 rcases h with ⟨z,-,-,h,-⟩ | ⟨-,f,z,-,-,-,⟨-,h,-⟩ | ⟨-,-,h⟩⟩
 . exact absurd h (by decide)
 . exact absurd h (by decide)
 . exact h
theorem SndW.congr {m:Fm} {A:MA} {n:Nat} {F:Nat->Bool} {f g:Nat->Nat} {S:SF} {W:World} (h:SndW m A n F g S W) (he:∀ k,k<m.F.length->g k=f k):SndW m A n F f S W:=by
 obtain ⟨b,bt,top,a1,a2,a3,c1,c2,c3,a5,c5,e,h1,h2,h3⟩:=h
 have e2:lsL g m.F.length=lsL f m.F.length:=by
  unfold lsL
  exact List.map_congr_left fun k hk=>he k (List.mem_range.1 hk)
 rw [e2] at h3
 exact ⟨b,bt,top,a1,a2,a3,c1,c2,c3,a5,c5,e,h1,h2,h3⟩
theorem qgq (m:Fm) (c:Cx) (k:Nat):(rwM m c k).code=if c.v.k=4 then 1 else if c.ok=false then 2 else if c.must=true/\c.v.k=0 then 3 else 0:=by
 unfold rwM
 split
 . rfl
 . split
   . rfl
   . split <;> rfl
theorem q6j (m:Fm) (c:Cx) (k B:Nat) (w:World) (y0:w.cell? ⟨B,0,none⟩=some (.int .i64 c.v.k)) (y4:w.cell? ⟨B,4,none⟩=some (.bool c.ok)) (y5:w.cell? ⟨B,5,none⟩=some (.bool c.must)) :
 Calls Tryz.prog 99 #[.pointer (some ⟨B,0,none⟩)] w fun x w'=>x=.returned (.int .i64 (rwM m c k).code)/\w'=w:=by
 rw [qgq]
 obtain ⟨⟨vk,vn,vs⟩,rel,ok,must⟩:=c
 dsimp only at y0 y4 y5 ⊢
 by_cases h4:vk=4
 . rw [if_pos h4]
   have h4':(vk == 4)=true:=by simp [h4]
   clear h4
   go_enter Tryz.func99,Tryz.ntmps99
   go_wp2_with fail
   go_ret
   exact ⟨rfl,rfl⟩
 rw [if_neg h4]
 have h4':(vk == 4)=false:=by simpa using h4
 clear h4
 cases ok
 . rw [if_pos rfl]
   go_enter Tryz.func99,Tryz.ntmps99
   go_wp2_with fail
   go_ret
   exact ⟨rfl,rfl⟩
 rw [if_neg (by decide)]
 cases must
 . rw [if_neg (fun h=>absurd h.1 (by decide))]
   go_enter Tryz.func99,Tryz.ntmps99
   go_wp2_with fail
   go_ret
   exact ⟨rfl,rfl⟩
 by_cases h0:vk=0
 . rw [if_pos ⟨rfl,h0⟩]
   have h0':(vk == 0)=true:=by simp [h0]
   clear h0
   go_enter Tryz.func99,Tryz.ntmps99
   go_wp2_with fail
   go_ret
   exact ⟨rfl,rfl⟩
 . rw [if_neg (fun h=>h0 h.2)]
   have h0':(vk == 0)=false:=by simpa using h0
   clear h0
   go_enter Tryz.func99,Tryz.ntmps99
   go_wp2_with fail
   go_ret
   exact ⟨rfl,rfl⟩
def RRow (w:World) (b o:Nat) (x:Rx):Prop:=b<w.heap.size/\w.cell? ⟨b,o,none⟩=some (.int .i64 x.fd)/\w.cell? ⟨b,o+1,none⟩=some (.int .i64 x.v.k)/\w.cell? ⟨b,o+2,none⟩=some (.int .i64 x.v.n)/\w.cell? ⟨b,o+3,none⟩=some (.string x.v.s)/\w.cell? ⟨b,o+4,none⟩=some (.bool x.must)/\w.cell? ⟨b,o+5,none⟩=some (.int .i64 x.code)/\w.cell? ⟨b,o+6,none⟩=some (.string x.sy)
theorem RRow.mono {w w':World} {b o:Nat} {x:Rx} (h:RRow w b o x) (hb:Below w.heap.size w w'):RRow w' b o x:=by
 obtain ⟨h0,h1,h2,h3,h4,h5,h6,h7⟩:=h
 exact ⟨Nat.lt_of_lt_of_le h0 hb.size,(hb.cell (p:=⟨b,o,none⟩) h0).trans h1,(hb.cell (p:=⟨b,o+1,none⟩) h0).trans h2,(hb.cell (p:=⟨b,o+2,none⟩) h0).trans h3,(hb.cell (p:=⟨b,o+3,none⟩) h0).trans h4,(hb.cell (p:=⟨b,o+4,none⟩) h0).trans h5,(hb.cell (p:=⟨b,o+5,none⟩) h0).trans h6,(hb.cell (p:=⟨b,o+6,none⟩) h0).trans h7⟩
def Rws (w:World) (a:Option Addr) (l:List Rx):Prop:=∀ k (h:k<l.length),∃ b o,a=some ⟨b,o,none⟩/\RRow w b (o+k*7) l[k]
theorem Rws.mono {w w':World} {a:Option Addr} {l:List Rx} (h:Rws w a l) (hb:Below w.heap.size w w'):Rws w' a l:=fun k hk=>by
 obtain ⟨b,o,e,hc⟩:=h k hk
 exact ⟨b,o,e,hc.mono hb⟩
theorem qd4 (l:List Rx):(rowsV l).length=l.length*7:=by
 induction l with
 | nil=>rfl
 | cons x l ih=>show (rC x++rowsV l).length=_;rw [List.length_append,ih,rC_len,List.length_cons];omega
theorem qd3 {l:List Rx} {i p:Nat} (hi:i<l.length) (hp:p<7):(rowsV l)[i*7+p]? = (rC l[i])[p]?:=by
 induction l generalizing i with
 | nil=>exact absurd hi (nL _)
 | cons x l ih =>
  show (rC x++rowsV l)[i*7+p]? = _
  cases i with
  | zero=>rw [List.getElem?_append_left (by rw [rC_len];omega)];simp
  | succ i =>
   rw [List.getElem?_append_right (by rw [rC_len];omega),rC_len,show (i+1)*7+p - 7=i*7+p by omega,ih (by simpa using hi)]
   rfl
theorem q6m {w:World} {base:Nat} {v:Value} {l:List Rx} (h:OwnR w base v l):∃ a c,v=.slice a l.length c/\Rws w a l/\(0<l.length->∃ g N,a=some ⟨g,0,none⟩/\base<=g/\l.length*7<=N/\Bk w g 83 N):=by
 rcases h.2 with ⟨e,h0⟩ | ⟨g,cap,cur,e,hg,hq,h4,h5,h6,h7⟩
 . refine ⟨none,0,by rw [e,h0],fun k hk=>by omega,fun h=>by omega⟩
 . have hb:Blk w g 83 cur.toList:=by
    show w.heap[g]? = _
    rw [hq]
   refine ⟨some ⟨g,0,none⟩,cap,e,fun k hk=>⟨g,0,rfl,?_⟩,fun _=>⟨g,cur.toList.length,rfl,hg,?_,⟨_,hb,rfl⟩⟩⟩
   . have hc:∀ p,p<7->w.cell? ⟨g,k*7+p,none⟩=(rC l[k])[p]?:=fun p hp=>by
      rw [hb.cell,<- qd3 hk hp,<- h7,List.getElem?_take_of_lt (by omega)]
     rw [Nat.zero_add]
     exact ⟨hb.lt,hc 0 (by omega),hc 1 (by omega),hc 2 (by omega),hc 3 (by omega),hc 4 (by omega),hc 5 (by omega),hc 6 (by omega)⟩
   . have:=congrArg List.length h7
     rw [List.length_take,qd4] at this
     omega
theorem q7x (x:Rx) (w:World) :
 Calls Tryz.prog 39 #[rV x,rV x] w fun r w'=>r=.returned (.bool true)/\Below w.heap.size w w':=by
 unfold rV rC
 have hq:(x.sy.toList == x.sy.toList)=true:=by simp
 have HK:=h_ ((Blk.new w 83 #[.int .i64 x.fd,.int .i64 x.v.k,.int .i64 x.v.n,.string x.v.s,.bool x.must,.int .i64 x.code,.string x.sy]).alloc (.cells #[.int .i64 x.fd,.int .i64 x.v.k,.int .i64 x.v.n,.string x.v.s,.bool x.must,.int .i64 x.code,.string x.sy] 83))
 have HR:=h_ (Blk.new (w.alloc (.cells #[.int .i64 x.fd,.int .i64 x.v.k,.int .i64 x.v.n,.string x.v.s,.bool x.must,.int .i64 x.code,.string x.sy] 83)) 83 #[.int .i64 x.fd,.int .i64 x.v.k,.int .i64 x.v.n,.string x.v.s,.bool x.must,.int .i64 x.code,.string x.sy])
 have HB:=h_ (((bR w.heap.size w).alloc (nR _) (.cells #[.int .i64 x.fd,.int .i64 x.v.k,.int .i64 x.v.n,.string x.v.s,.bool x.must,.int .i64 x.code,.string x.sy] 83)).alloc (by simp) (.cells #[.int .i64 x.fd,.int .i64 x.v.k,.int .i64 x.v.n,.string x.v.s,.bool x.must,.int .i64 x.code,.string x.sy] 83))
 simp only [World.size_alloc] at HR
 go_enter Tryz.func39,Tryz.ntmps39
 go_wp2_with fail
 refine (q3i x.v.k x.v.n x.v.s _).mono ?_
 rintro y w2 ⟨rfl,hb⟩
 replace HK:=mB HK hb;replace HR:=mB HR hb;replace HB:=mT HB hb
 clear hb
 obtain ⟨y0,y1,y2,y3,y4,y5,y6⟩:=seven' (u_ HK)
 obtain ⟨r0,r1,r2,r3,r4,r5,r6⟩:=seven' (u_ HR)
 go_wp2_with fail
 go_ret
 exact ⟨rfl,u_ HB⟩
theorem q53 (a b:Option Addr) (l:List Rx) (ca cb:Nat) (w:World) (hn:l.length<=1000000) (ha:Rws w a l) (hb:Rws w b l) :
 Calls Tryz.prog 11 #[.slice a l.length ca,.slice b l.length cb] w fun r w'=>r=.returned (.bool true)/\Below w.heap.size w w':=by
 have HA:=h_ ha;have HB0:=h_ hb
 clear ha hb
 go_enter Tryz.func11,Tryz.ntmps11
 go_wp2_with fail
 go_loopw [5] (fun i wr=>∃ k:Nat,k<=l.length/\i=.int .i64 k/\Below w.heap.size w wr) (fun i _=>l.length - (intOf i).toNat)
 case atStart=>exact ⟨0,nZ _,rfl,bR _ _⟩
 case round =>
  obtain ⟨k,hk,rfl,hB⟩:=hrel
  have HB:=h_ hB
  by_cases hlt:k<l.length
  . obtain ⟨b1,o1,rfl,C1⟩:=((u_ HA).mono hB) k hlt
    obtain ⟨b2,o2,rfl,C2⟩:=((u_ HB0).mono hB) k hlt
    obtain ⟨u,hu⟩:∃ u,l[k]=u:=⟨_,rfl⟩
    rw [hu] at C1 C2
    have HC1:=h_ C1;have HC2:=h_ C2
    have k0:(0:Int)<=k:=by omega
    have k1:(k:Int)<l.length:=by omega
    clear hB hu C1 C2
    go_wp2_with fail
    refine wp_region_held_drew (S:=fun w'=>RRow w' b1 (o1+k*7) u/\RRow w' b2 (o2+k*7) u) (by kernel_rfl) ⟨u_ HC1,u_ HC2⟩ (fun zz=>?_)
    refine tk 0 17 (.slice (some ⟨b1,o1,none⟩) l.length ca) zz ?_
    refine tk 1 18 (.int .i64 k) zz ?_
    refine tk 2 19 (.pointer (some ⟨b1,o1+k*7,none⟩)) zz ?_
    refine tk 3 20 (.agg #[.int .i64 u.fd,.int .i64 u.v.k,.int .i64 u.v.n,.string u.v.s,.bool u.must,.int .i64 u.code,.string u.sy]) zz ?_ (hy:=fun w hS=>by obtain ⟨⟨-,q0,q1,q2,q3,q4,q5,q6⟩,-⟩:=hS;simp [execOp,go_sem,q0,q1,q2,q3,q4,q5,q6])
    simp only [sX,sY,sZ]
    refine tk 4 21 (.slice (some ⟨b2,o2,none⟩) l.length cb) zz ?_
    refine tk 5 22 (.int .i64 k) zz ?_
    refine tk 6 23 (.pointer (some ⟨b2,o2+k*7,none⟩)) zz ?_
    refine tk 7 24 (.agg #[.int .i64 u.fd,.int .i64 u.v.k,.int .i64 u.v.n,.string u.v.s,.bool u.must,.int .i64 u.code,.string u.sy]) zz ?_ (hy:=fun w hS=>by obtain ⟨-,⟨-,q0,q1,q2,q3,q4,q5,q6⟩⟩:=hS;simp [execOp,go_sem,q0,q1,q2,q3,q4,q5,q6])
    simp only [sX,sY,sZ]
    refine callY (i:=8) (f:=39) (args:=#[rV u,rV u]) (R:=fun v wz=>v=.bool true/\Below wr.heap.size wr wz) 25 rfl rfl (by rfl) (by kernel_rfl) ?hrun1 ((q7x u _).mono fun e w6 ⟨he,hb⟩=>⟨_,he,rfl,q29 hb⟩) ?_
    case hrun1=>simp [execOp,go_sem,rV,rC]
    rintro v w6 ⟨rfl,hb6⟩
    have HB6:=mT HB hb6
    replace zz:RRow w6 b1 (o1+k*7) u/\RRow w6 b2 (o2+k*7) u:=⟨(u_ HC1).mono hb6,(u_ HC2).mono hb6⟩
    clear hb6
    refine ⟨zz,?_⟩
    simp only [sX,sY,sZ]
    refine tk 9 26 (.bool false) zz ?_
    simp only [sX,sY,sZ]
    refine wpAnyH_done (by kernel_rfl) ?_ _
    clear zz
    go_wp2_with fail
    go_roundw
    case rel=>exact ⟨k+1,by omega,by go_num,u_ HB6⟩
    case measure=>simp [intOf];omega
  . obtain rfl:l.length=k:=by omega
    clear hB
    go_wp2_with fail
    go_ret
    exact ⟨rfl,u_ HB⟩
theorem q7y {o:Oper} {a:Act} {w:World} (t:TypeId) (parts:Array (Nat × Operand)) (ho:o.op=.build t parts) (cells:Array Value) (hc:Tryz.prog.built t (parts.map fun (i,x)=>(i,a.eval x)).toList=some cells):(execOp a.eval o).run Tryz.prog w=.ok (.value (.agg cells)) w:=by
 unfold execOp
 simp only [ho,Sem.run_bind,run_build w t _ cells hc,Result.andThen_ok]
 rfl
theorem q1i {o:Oper} {a:Act} {w:World} (ty:TypeId) (x y:Operand) (ho:o.op=.store ty x y) (g:Nat) (cells:Array Value) (hx:a.eval x=.pointer (some ⟨g,0,none⟩)) (hy:a.eval y=.agg cells) (t:TypeId) (old:Array Value) (hg:w.heap[g]? = some (.cells old t (0,0))) (hi:(Tryz.prog.info? ty).map (·.size)=some cells.size) (hold:old.size=cells.size) (h1:cells.all (·.oneCell')=true):(execOp a.eval o).run Tryz.prog w=.ok .skip (w.setRow g cells):=by
 unfold execOp
 simp only [ho,hx,hy,Instr.storeAt,Instr.sureAddr,Sem.run_bind,Sem.run_pure,Result.andThen_ok,run_storeVar_row w g t ty old cells hg hi hold h1]
theorem qgr (m:Fm) (c:Cx) (k:Nat):(rwM m c k).fd=k/\(rwM m c k).v=c.v/\(rwM m c k).must=c.must/\(rwM m c k).sy=if (rwM m c k).code=2 then (fAt m k).sy else ⟨#[]⟩:=by
 unfold rwM
 split
 . exact ⟨rfl,rfl,rfl,rfl⟩
 . split
   . exact ⟨rfl,rfl,rfl,rfl⟩
   . split <;> exact ⟨rfl,rfl,rfl,rfl⟩
theorem qkz (m:Fm) (c:Cx) (k B:Nat) (i:Bool) (A:FA) (w:World) (hB:Blk w B (ctT i) (ctC i c (fAt m k) A)) :
 Calls Tryz.prog 69 #[.pointer (some ⟨B,0,none⟩),.int .i64 k] w fun x w'=>x=.returned (rV (rwM m c k))/\Below w.heap.size w w':=by
 have HCr:=h_ fun W (h:Blk W B (ctT i) (ctC i c (fAt m k) A))=>q6j m c k B W ((h.cell 0).trans rfl) ((h.cell 4).trans rfl) ((h.cell 5).trans rfl)
 obtain ⟨h1,h2,h3,h4⟩:=qgr m c k
 obtain ⟨⟨fd,v,must,code,sy⟩,hx⟩:∃ x,rwM m c k=x:=⟨_,rfl⟩
 rw [hx] at HCr h1 h2 h3 h4 ⊢
 dsimp only at h1 h2 h3 h4 HCr
 subst h1 h2 h3
 clear hx
 have hR0:=Blk.new w 83 #[.int .i64 0,.int .i64 0,.int .i64 0,.string ⟨#[]⟩,.bool false,.int .i64 0,.string ⟨#[]⟩]
 have hB0:=(bR w.heap.size w).alloc (nR _) (.cells #[.int .i64 0,.int .i64 0,.int .i64 0,.string ⟨#[]⟩,.bool false,.int .i64 0,.string ⟨#[]⟩] 83)
 obtain ⟨W0,hW0⟩:∃ W0,w.alloc (.cells #[.int .i64 0,.int .i64 0,.int .i64 0,.string ⟨#[]⟩,.bool false,.int .i64 0,.string ⟨#[]⟩] 83)=W0:=⟨_,rfl⟩
 rw [hW0] at hR0 hB0
 have HH:=h_ (hB.mono hB0 hB.lt);have HR:=h_ hR0;have HB:=h_ hB0
 have hlt:=hB.lt
 clear hB hR0 hB0
 go_enter Tryz.func69,Tryz.ntmps69
 go_wp2_with fail
 try rw [hW0]
 clear hW0
 refine wp_region_held_drew (S:=fun w'=>Blk w' B (ctT i) (ctC i c (fAt m k) A)) (by kernel_rfl) (u_ HH) (fun zz=>?_)
 refine tk 0 6 (.int .i64 k) zz ?_
 refine tk 1 7 (.pointer (some ⟨B,0,none⟩)) zz ?_
 refine tk 2 8 (.pointer (some ⟨B,0,none⟩)) zz ?_
 refine tk 3 9 (.pointer (some ⟨B,0,none⟩)) zz ?_
 simp only [sX,sY,sZ]
 refine tk 4 10 (.pointer (some ⟨B,0,none⟩)) zz ?_
 refine tk 5 11 (.agg #[.int .i64 c.v.k,.int .i64 c.v.n,.string c.v.s]) zz ?_ (hy:=fun w hS=>by have q0:w.cell? ⟨B,0,none⟩=some (.int .i64 c.v.k):=(hS.cell 0).trans rfl;have q1:w.cell? ⟨B,1,none⟩=some (.int .i64 c.v.n):=(hS.cell 1).trans rfl;have q2:w.cell? ⟨B,2,none⟩=some (.string c.v.s):=(hS.cell 2).trans rfl;simp [execOp,go_sem,q0,q1,q2])
 refine tk 6 12 (.pointer (some ⟨B,0,none⟩)) zz ?_
 refine tk 7 13 (.pointer (some ⟨B,0,none⟩)) zz ?_
 simp only [sX,sY,sZ]
 refine tk 8 14 (.pointer (some ⟨B,0,none⟩)) zz ?_
 refine tk 9 15 (.pointer (some ⟨B,5,none⟩)) zz ?_
 refine tk 10 16 (.bool c.must) zz ?_ (hy:=fun w hS=>by have q0:w.cell? ⟨B,5,none⟩=some (.bool c.must):=(hS.cell 5).trans rfl;simp [execOp,go_sem,q0])
 refine tk 11 17 (.pointer (some ⟨B,0,none⟩)) zz ?_
 simp only [sX,sY,sZ]
 obtain ⟨V,hV⟩:∃ V,W0.drew=V:=⟨_,rfl⟩
 have hRV:Blk V w.heap.size 83 [.int .i64 0,.int .i64 0,.int .i64 0,.string ⟨#[]⟩,.bool false,.int .i64 0,.string ⟨#[]⟩]:=by rw [<- hV];exact u_ HR
 have hHV:Blk V B (ctT i) (ctC i c (fAt m k) A):=by rw [<- hV];exact u_ HH
 have hBV:Below w.heap.size w V:=by rw [<- hV];exact (u_ HB).drew
 rw [hV] at zz ⊢
 clear hV HH HR HB
 have hba:=(bR V.heap.size V).alloc (nR _) (.cells #[.int .i64 0,.int .i64 0,.int .i64 0,.string ⟨#[]⟩,.bool false,.int .i64 0,.string ⟨#[]⟩] 83)
 have hT:=Blk.new V 83 #[.int .i64 0,.int .i64 0,.int .i64 0,.string ⟨#[]⟩,.bool false,.int .i64 0,.string ⟨#[]⟩]
 have hHa:=hHV.mono hba hHV.lt
 have hRa:=hRV.mono hba hRV.lt
 have hBa:=hBV.trans (hba.mono hBV.size)
 have hBT:B ≠ V.heap.size:=Nat.ne_of_lt hHV.lt
 have hRT:w.heap.size ≠ V.heap.size:=Nat.ne_of_lt hRV.lt
 have hTw:w.heap.size<=V.heap.size:=hBV.size
 refine wpAnyH_ready (rs:=[12,14]) (by kernel_rfl) (by simp) (consCall (i:=12) (f:=99) (args:=#[.pointer (some ⟨B,0,none⟩)]) (R:=fun v wz=>v=.int .i64 code/\wz=V) 18 rfl rfl (by rfl) (by simp [execOp,go_sem]) ((u_ HCr V hHV).mono fun e w6 ⟨he,hw⟩=>⟨_,he,rfl,hw⟩) ?pA (consRun (i:=14) (v:=.pointer (some ⟨V.heap.size,0,none⟩)) (w':=V.alloc (.cells #[.int .i64 0,.int .i64 0,.int .i64 0,.string ⟨#[]⟩,.bool false,.int .i64 0,.string ⟨#[]⟩] 83)) 5 rfl rfl (by rfl) (by simp [execOp,go_sem]) hHa ?pB AllReadyH.nil))
 case' pA =>
  rintro v W7 ⟨rfl,e7⟩
  rw [e7]
  clear e7
  refine ⟨hHV,?_⟩
  simp only [sX,sY,sZ]
  refine tk 13 19 (.agg #[.int .i64 k,.int .i64 c.v.k,.int .i64 c.v.n,.string c.v.s,.bool c.must,.int .i64 code,.string ⟨#[]⟩]) zz ?_ (hy:=fun w hS=>by exact q7y 83 #[(0,.tmp 6),(1,.tmp 11),(2,.tmp 16),(3,.tmp 18)] rfl _ (by kernel_rfl))
  simp only [sX,sY,sZ]
  refine runY (i:=14) (v:=.pointer (some ⟨V.heap.size,0,none⟩)) (w':=V.alloc (.cells #[.int .i64 0,.int .i64 0,.int .i64 0,.string ⟨#[]⟩,.bool false,.int .i64 0,.string ⟨#[]⟩] 83)) 5 rfl rfl (by rfl) (by kernel_rfl) (by simp [execOp,go_sem]) hHa ?_
  simp only [sX,sY,sZ]
 case' pB =>
  simp only [sX,sY,sZ]
  refine callY (i:=12) (f:=99) (args:=#[.pointer (some ⟨B,0,none⟩)]) (R:=fun v wz=>v=.int .i64 code/\wz=V.alloc (.cells #[.int .i64 0,.int .i64 0,.int .i64 0,.string ⟨#[]⟩,.bool false,.int .i64 0,.string ⟨#[]⟩] 83)) 18 rfl rfl (by rfl) (by kernel_rfl) (by simp [execOp,go_sem]) ((u_ HCr _ hHa).mono fun e w6 ⟨he,hw⟩=>⟨_,he,rfl,hw⟩) ?_
  rintro v W7 ⟨rfl,e7⟩
  rw [e7]
  clear e7
  refine ⟨hHa,?_⟩
  simp only [sX,sY,sZ]
  replace zz:=hHa
  refine tk 13 19 (.agg #[.int .i64 k,.int .i64 c.v.k,.int .i64 c.v.n,.string c.v.s,.bool c.must,.int .i64 code,.string ⟨#[]⟩]) zz ?_ (hy:=fun w hS=>by exact q7y 83 #[(0,.tmp 6),(1,.tmp 11),(2,.tmp 16),(3,.tmp 18)] rfl _ (by kernel_rfl))
  simp only [sX,sY,sZ]
 all_goals
  obtain ⟨Va,hVa⟩:∃ Va,V.alloc (.cells #[.int .i64 0,.int .i64 0,.int .i64 0,.string ⟨#[]⟩,.bool false,.int .i64 0,.string ⟨#[]⟩] 83)=Va:=⟨_,rfl⟩
  obtain ⟨T,hTe⟩:∃ T,V.heap.size=T:=⟨_,rfl⟩
  rw [hVa] at hba hT hHa hRa hBa ⊢
  rw [hTe] at hT hBT hRT hTw ⊢
  have hH9:=hHa.row_other (g:=T) hBT #[.int .i64 k,.int .i64 c.v.k,.int .i64 c.v.n,.string c.v.s,.bool c.must,.int .i64 code,.string ⟨#[]⟩]
  have hR9:=hRa.row_other (g:=T) hRT #[.int .i64 k,.int .i64 c.v.k,.int .i64 c.v.n,.string c.v.s,.bool c.must,.int .i64 code,.string ⟨#[]⟩]
  have hT9:=hT.row [.int .i64 k,.int .i64 c.v.k,.int .i64 c.v.n,.string c.v.s,.bool c.must,.int .i64 code,.string ⟨#[]⟩]
  have hB9:=hBa.trans ((qkc (lo:=w.heap.size) (hi:=T+1) (g:=T) Va #[.int .i64 k,.int .i64 c.v.k,.int .i64 c.v.n,.string c.v.s,.bool c.must,.int .i64 code,.string ⟨#[]⟩] hTw (by omega)).below (nR _) hBa.size)
  refine storeY (i:=15) (w':=Va.setRow T #[.int .i64 k,.int .i64 c.v.k,.int .i64 c.v.n,.string c.v.s,.bool c.must,.int .i64 code,.string ⟨#[]⟩]) rfl (by rfl) (by kernel_rfl) rfl (q1i 83 (.tmp 5) (.tmp 19) rfl T _ rfl rfl 83 _ hT (by kernel_rfl) rfl (by simp [Value.oneCell'])) rfl hH9 ?_
  refine wpAnyH_done (by kernel_rfl) ?_ _
  generalize Va.setRow T #[.int .i64 k,.int .i64 c.v.k,.int .i64 c.v.n,.string c.v.s,.bool c.must,.int .i64 code,.string ⟨#[]⟩]=W9 at *
  obtain ⟨t0,t1,t2,t3,t4,t5,t6⟩:=seven' hT9
  have f6:=hT9.free 6
  have hsy:W9.cell? ⟨B,13,none⟩=some (.string (fAt m k).sy):=(hH9.cell 13).trans rfl
  clear zz hba hHa hRa hBa hVa hTe hHV hRV hBV hT
  by_cases h2:code=2
  . have h2':(code == 2)=true:=by simp [h2]
    rw [if_pos h2] at h4
    have hT8:=hT9.set 6 (.string (fAt m k).sy)
    have hR8:=hR9.other (a:=⟨T,6,none⟩) (.string (fAt m k).sy) hRT
    have hB8:=hB9.setCell (p:=⟨T,6,none⟩) hTw (.string (fAt m k).sy)
    simp only [List.set_cons_zero,List.set_cons_succ] at hT8
    rw [<- h4] at hsy hT8 hR8 hB8
    have HR8:=h_ hR8
    have HR7:=h_ (hR8.row [.int .i64 k,.int .i64 c.v.k,.int .i64 c.v.n,.string c.v.s,.bool c.must,.int .i64 code,.string sy])
    have HB7:=h_ (hB8.trans ((qkc (lo:=w.heap.size) (hi:=w.heap.size+1) (g:=w.heap.size) (W9.setCell ⟨T,6,none⟩ (.string sy)) #[.int .i64 k,.int .i64 c.v.k,.int .i64 c.v.n,.string c.v.s,.bool c.must,.int .i64 code,.string sy] (nR _) (by omega)).below (nR _) hB8.size))
    clear hT8 hR8 hB8 hH9 hR9 hT9 hB9 h2 h4
    go_wp2_with (refine wpList_store_row rfl 83 (.tmp 4) (.tmp 29) rfl w.heap.size #[.int .i64 k,.int .i64 c.v.k,.int .i64 c.v.n,.string c.v.s,.bool c.must,.int .i64 code,.string sy] rfl rfl 83 #[.int .i64 0,.int .i64 0,.int .i64 0,.string ⟨#[]⟩,.bool false,.int .i64 0,.string ⟨#[]⟩] (u_ HR8) (by kernel_rfl) rfl (by simp [Value.oneCell']) ?_)
    obtain ⟨k0,k1,k2,k3,k4,k5,k6⟩:=seven' (u_ HR7)
    exact bodyPost_ret (v:=.agg #[.int .i64 k,.int .i64 c.v.k,.int .i64 c.v.n,.string c.v.s,.bool c.must,.int .i64 code,.string sy]) (by simp [results,Tryz.results69,go_sem,k0,k1,k2,k3,k4,k5,k6]) rfl ⟨rfl,u_ HB7⟩
  . have h2':(code == 2)=false:=by simpa using h2
    rw [if_neg h2] at h4
    have HR8:=h_ hR9
    have HR7:=h_ (hR9.row [.int .i64 k,.int .i64 c.v.k,.int .i64 c.v.n,.string c.v.s,.bool c.must,.int .i64 code,.string ⟨#[]⟩])
    have HB7:=h_ (hB9.trans ((qkc (lo:=w.heap.size) (hi:=w.heap.size+1) (g:=w.heap.size) W9 #[.int .i64 k,.int .i64 c.v.k,.int .i64 c.v.n,.string c.v.s,.bool c.must,.int .i64 code,.string ⟨#[]⟩] (nR _) (by omega)).below (nR _) hB9.size))
    have H4:=h_ h4
    clear hsy hH9 hR9 hT9 hB9 h2 h4
    go_wp2_with (refine wpList_store_row rfl 83 (.tmp 4) (.tmp 29) rfl w.heap.size #[.int .i64 k,.int .i64 c.v.k,.int .i64 c.v.n,.string c.v.s,.bool c.must,.int .i64 code,.string ⟨#[]⟩] rfl rfl 83 #[.int .i64 0,.int .i64 0,.int .i64 0,.string ⟨#[]⟩,.bool false,.int .i64 0,.string ⟨#[]⟩] (u_ HR8) (by kernel_rfl) rfl (by simp [Value.oneCell']) ?_)
    obtain ⟨k0,k1,k2,k3,k4,k5,k6⟩:=seven' (u_ HR7)
    exact bodyPost_ret (v:=.agg #[.int .i64 k,.int .i64 c.v.k,.int .i64 c.v.n,.string c.v.s,.bool c.must,.int .i64 code,.string ⟨#[]⟩]) (by simp [results,Tryz.results69,go_sem,k0,k1,k2,k3,k4,k5,k6]) rfl ⟨by rw [u_ H4];rfl,u_ HB7⟩
theorem q5a (m:Fm) (A:MA) (n:Nat) (F:Nat->Bool) (f:Nat->Nat) (S:SF) (WD:World) (Sh:Nat) (Bs:Nat->Nat) (u:Value) (pl:Nat) (r:Int) (e:Nat->Cx) (w:World) (hX:Shet m A n F f S WD Sh Bs e m.F.length u pl w) :
 Calls Tryz.prog 36 #[.pointer (some ⟨Sh,0,none⟩),.int .i64 r] w fun x w'=>x=.returned (.bool (decide (0<=r/\r<m.R.length)))/\w'=w:=by
 obtain ⟨b,bt,top,a1,a2,a3,c1,c2,c3,a5,c5,hSe,-,-,-⟩:=hX.snd
 have y2:w.cell? ⟨Sh,2,none⟩=some (.slice A.r m.R.length A.rc):=(hX.blk.cell 2).trans (by rw [hSe];rfl)
 clear hX hSe
 by_cases h0:0<=r
 . by_cases h1:r<m.R.length
   . rw [decide_eq_true ⟨h0,h1⟩]
     go_enter Tryz.func36,Tryz.ntmps36
     go_wp2_with fail
     go_ret
     exact ⟨rfl,rfl⟩
   . rw [decide_eq_false (fun h=>h1 h.2)]
     go_enter Tryz.func36,Tryz.ntmps36
     go_wp2_with fail
     go_ret
     exact ⟨rfl,rfl⟩
 . rw [decide_eq_false (fun h=>h0 h.1)]
   go_enter Tryz.func36,Tryz.ntmps36
   go_wp2_with fail
   go_ret
   exact ⟨rfl,rfl⟩
theorem qgm (m:Fm) (A:MA) (n:Nat) (F:Nat->Bool) (f:Nat->Nat) (S:SF) (WD:World) (Sh:Nat) (Bs:Nat->Nat) (u:Value) (pl r Cb Sb s:Nat) (e:Nat->Cx) (w:World) (hnf:m.F.length<=200) (hn:n<=32) (s1:Sol m n (fun a b=>F (a*n+b)=true) f) (hX:Shet m A n F f S WD Sh Bs e m.F.length u pl w) (hV:Vwr n F (rlb m r) Sh Cb Sb s w) :
 Calls Tryz.prog 37 #[.pointer (some ⟨Sh,0,none⟩),vwV r Cb Sb] w fun x w'=>∃ v,x=.returned v/\OwnR w' w.heap.size v (vwL m e (seesB m n F f r) m.F.length)/\Below w.heap.size w w':=by
 have HCs:=h_ fun j W (hj:j<m.F.length) (h:Shet m A n F f S WD Sh Bs e m.F.length u pl W) (h':Vwr n F (rlb m r) Sh Cb Sb s W)=>qgu m A n F f S WD Sh Bs u pl r j Cb Sb s e W hn hj s1 h h'
 have HCr:=h_ fun j W (hj:j<m.F.length) (h:Shet m A n F f S WD Sh Bs e m.F.length u pl W)=>qkz m (e j) j (Bs j) (inpB (fAt m j)) (A.fa j) W (h.bx j hj).2
 unfold vwV seeV
 have hVb:=Blk.new w 79 #[.int .i64 r,.func (.func 71) #[] #[.pointer (some ⟨Cb,0,none⟩),.pointer (some ⟨Sb,0,none⟩)]]
 have hB0:=(bR w.heap.size w).alloc (nR _) (.cells #[.int .i64 r,.func (.func 71) #[] #[.pointer (some ⟨Cb,0,none⟩),.pointer (some ⟨Sb,0,none⟩)]] 79)
 obtain ⟨W0,hW0⟩:∃ W0,w.alloc (.cells #[.int .i64 r,.func (.func 71) #[] #[.pointer (some ⟨Cb,0,none⟩),.pointer (some ⟨Sb,0,none⟩)]] 79)=W0:=⟨_,rfl⟩
 rw [hW0] at hVb hB0
 have HVb:=h_ hVb;have HB:=h_ hB0
 have HX:=h_ (hX.mono hB0);have HV:=h_ (hV.mono hB0)
 obtain ⟨ua,ucp,hu⟩:=hX.slice
 subst hu
 have y12:W0.cell? ⟨Sh,12,none⟩=some (.slice ua m.F.length ucp):=(u_ HX).blk.cell 12
 clear hX hV hVb hB0 s1 hn
 go_enter Tryz.func37,Tryz.ntmps37
 go_wp2_with fail
 try rw [hW0]
 clear hW0 y12
 go_loopw [5,14] (fun v i wr=>∃ k:Nat,k<=m.F.length/\i=.int .i64 k/\OwnR wr W0.heap.size v (vwL m e (seesB m n F f r) k)/\Below W0.heap.size W0 wr) (fun _ i _=>m.F.length - (intOf i).toNat)
 case atStart=>exact ⟨0,nZ _,rfl,World.ownsRow_nil _ _ _ _,bR _ _⟩
 case round =>
  obtain ⟨k,hk,rfl,hO,hb⟩:=hrel
  have HO:=h_ hO
  have HXr:=h_ ((u_ HX).mono hb);have HVr:=h_ ((u_ HV).mono hb);have HVbr:=mB HVb hb;have HB0:=h_ hb
  have hTl:=qlp m e (seesB m n F f r) k
  clear hb hO
  by_cases hlt:k<m.F.length
  . have hlt':(k:Int)<m.F.length:=by omega
    obtain ⟨q,cp,eu,hqc,-⟩:=(u_ HXr).at hlt
    obtain ⟨rfl,rfl⟩:ua=some ⟨q,0,none⟩/\ucp=cp:=by simpa using eu
    clear eu
    unfold ifV at hqc
    have hm:=head_m (inpB (fAt m k)) (Bs k)
    go_wp2_with fail
    refine (qf2 _ _).mono ?_
    rintro x W2 ⟨rfl,hw⟩
    subst hw
    have v1:=(u_ HVbr).cell 1
    simp only [List.getElem?_cons_zero,List.getElem?_cons_succ] at v1
    have HC1:=h_ (u_ HCs k W2 hlt (u_ HXr) (u_ HVr))
    clear hm hqc
    go_wp2_with fail
    refine (u_ HC1).mono ?_
    rintro x W3 ⟨rfl,hb⟩
    replace HXr:=h_ ((u_ HXr).mono hb);replace HB0:=mT HB0 hb;replace HO:=h_ (qct (u_ HO) hb)
    clear hb v1 HC1 HVr HVbr
    have HSu:=h_ (qhi m e (seesB m n F f r) k)
    cases hse:seesB m n F f r k
    . rw [hse,Bool.and_false,if_neg (by decide),List.append_nil] at HSu
      rw [<- u_ HSu] at HO
      go_wp2_with fail
      go_roundw
      case rel=>first | exact ⟨k+1,by omega,by go_num,u_ HO,u_ HB0⟩ | ((repeat apply Exists.intro);exact ⟨⟨k+1,by omega,by go_num,u_ HO,u_ HB0⟩,rfl⟩)
      case measure=>simp [intOf];omega
    rw [hse,Bool.and_true] at HSu
    have y3:W3.cell? ⟨Bs k,3,none⟩=some (.bool (e k).rel):=(((u_ HXr).bx k hlt).2.cell 3).trans rfl
    cases hre:(e k).rel
    . rw [hre] at y3 HSu
      rw [if_neg (by decide),List.append_nil] at HSu
      rw [<- u_ HSu] at HO
      go_wp2_with fail
      go_roundw
      case rel=>first | exact ⟨k+1,by omega,by go_num,u_ HO,u_ HB0⟩ | ((repeat apply Exists.intro);exact ⟨⟨k+1,by omega,by go_num,u_ HO,u_ HB0⟩,rfl⟩)
      case measure=>simp [intOf];omega
    rw [hre] at y3 HSu
    rw [if_pos rfl] at HSu
    have HC2:=h_ (u_ HCr k W3 hlt (u_ HXr))
    obtain ⟨x,hx⟩:∃ x,rwM m (e k) k=x:=⟨_,rfl⟩
    rw [hx] at HC2 HSu
    unfold rV rC at HC2
    clear hx hse hre
    go_wp2_with fail
    refine (u_ HC2).mono ?_
    rintro y W4 ⟨rfl,hb⟩
    have hO4:=qct (u_ HO) hb
    have hB4:=(u_ HB0).trans (hb.mono (u_ HB0).size)
    have hN:=Blk.new W4 83 (rC x).toArray
    have hba:=(bR W4.heap.size W4).alloc (nR _) (.cells (rC x).toArray 83)
    have hw4:=hB4.size
    obtain ⟨i0,hi,hz0,hz1,hz2⟩:=info_parts qf5
    clear hb y3 HC2
    go_wp2_with (at_builtin;refine wpList_append_own _ rfl _ _ 31 rfl W0.heap.size 83 i0 _ 7 72 Tryz.underlying31 hi hz0 hz1 hz2 rfl (by omega) _ _ _ rfl (hO4.alloc _) ⟨W4.heap.size,0,none⟩ 1 1 (rC x) rfl rfl (fun j v hj=>by rw [show (⟨W4.heap.size,0,none⟩:Addr).add j=⟨W4.heap.size,j,none⟩ by simp [Addr.add];try exact fun h=>h.symm];exact (hN.cell j).trans (by simpa using hj)) (by simp [rC,Value.oneCell']) (by unfold maxLen;omega) (by omega) (by simp;omega) ?_)
    intro v' W9 ho hgr _
    have HB9:=h_ ((hB4.trans (hba.mono hw4)).grown hgr (Nat.le_trans hw4 hba.size) (fun q e=>q97 (u_ HO) e))
    have HO9:Hid (OwnR W9 W0.heap.size v' (vwL m e (seesB m n F f r) (k+1))):=h_ (by
     rw [u_ HSu]
     unfold OwnR rowsV
     rw [List.flatMap_append,List.length_append]
     simpa [rowsV] using ho)
    clear ho hgr hba hN hO4 hB4 hi hz0 hz1 hz2
    go_wp2_with fail
    go_roundw
    case rel=>first | exact ⟨k+1,by omega,by go_num,u_ HO9,u_ HB9⟩ | ((repeat apply Exists.intro);exact ⟨⟨k+1,by omega,by go_num,u_ HO9,u_ HB9⟩,rfl⟩)
    case measure=>simp [intOf];omega
  . obtain rfl:k=m.F.length:=by omega
    have hlt':¬ (m.F.length:Int)<(m.F.length:Int):=by omega
    have HO9:=h_ (q98 (u_ HO) (u_ HB).size)
    have HB9:=h_ ((u_ HB).trans ((u_ HB0).mono (u_ HB).size))
    go_wp2_with fail
    go_ret
    exact ⟨_,rfl,u_ HO9,u_ HB9⟩
theorem q5b (m:Fm) (A:MA) (v:Value) (r:Int) (w:World) (hS:∀ W,MSl W m A->Tabs W->TyW W->Tab W->Calls Tryz.prog 34 #[mV m A] W fun x w'=>x=.returned (.tuple #[.pointer none,.bool false])/\Below W.heap.size W w') (ha:MSl w m A) (ht:Tabs w) (hy:TyW w) (htb:Tab w) :
 Calls Tryz.prog 10 #[mV m A,v,.int .i64 r] w fun x w'=>∃ u,x=.returned u/\OwnR w' w.heap.size u []/\Below w.heap.size w w':=by
 have HC0:=h_ hS
 obtain ⟨al,alc,ap,apc,ar,arc,af,afc,afa⟩:=A
 unfold mV at HC0 ⊢
 dsimp only at HC0 ⊢
 have HK:=h_ (Blk.new w 37 #[.slice al m.L.length alc,.slice ap m.P.length apc,.slice ar m.R.length arc,.slice af m.F.length afc])
 have HB:=h_ ((bR w.heap.size w).alloc (nR _) (.cells #[.slice al m.L.length alc,.slice ap m.P.length apc,.slice ar m.R.length arc,.slice af m.F.length afc] 37))
 obtain ⟨W0,hW0⟩:∃ W0,w.alloc (.cells #[.slice al m.L.length alc,.slice ap m.P.length apc,.slice ar m.R.length arc,.slice af m.F.length afc] 37)=W0:=⟨_,rfl⟩
 rw [hW0] at HK HB
 have HC:=h_ (u_ HC0 W0 (ha.mono (u_ HB)) (ht.mono (u_ HB)) (hy.mono (u_ HB)) (htb.mono (u_ HB)))
 obtain ⟨y0,y1,y2,y3⟩:=quad (u_ HK)
 clear ha ht hy htb hS HC0
 go_enter Tryz.func10,Tryz.ntmps10
 go_wp2_with fail
 try rw [hW0]
 refine (u_ HC).mono ?_
 rintro x W1 ⟨rfl,hb⟩
 replace HB:=mT HB hb
 clear hb hW0 y0 y1 y2 y3
 go_wp2_with fail
 go_ret
 exact ⟨_,rfl,World.ownsRow_nil _ _ _ _,u_ HB⟩
theorem q5c (m:Fm) (A:MA) (n:Nat) (F:Nat->Bool) (f:Nat->Nat) (L c:Nat) (a:Option Addr) (e:Nat->Cx) (r:Int) (w:World) (hv:VfA m) (hN:m.L.length=n) (hn:n<=32) (s1:Sol m n (fun a b=>F (a*n+b)=true) f) (hL:L<=9223372036854775807) (hsz:∀ k,k<L->(e k).v.s.size<=9223372036854775807) (hS:∀ W,MSl W m A->Tabs W->TyW W->Tab W->Calls Tryz.prog 34 #[mV m A] W fun x w'=>∃ S WD Sh Bs u pl,x=.returned (.tuple #[.pointer (some ⟨Sh,0,none⟩),.bool true])/\W.heap.size<=WD.heap.size/\Shet m A n F f S WD Sh Bs (fun _=>zCx) m.F.length u pl w'/\Below W.heap.size W w') (ha:MSl w m A) (hc:Cels w a L e) (ht:Tabs w) (hy:TyW w) (htb:Tab w) :
 Calls Tryz.prog 10 #[mV m A,.slice a L c,.int .i64 r] w fun x w'=>∃ u,x=.returned u/\OwnR w' w.heap.size u (vwA m n F f L e r)/\Below w.heap.size w w':=by
 have HC0:=h_ hS
 have hnf:=hv.nf
 have HCt:=h_ fun S WD Sh Bs u pl W (h:Shet m A n F f S WD Sh Bs (fun _=>zCx) m.F.length u pl W) (h':Cels WD a L e)=>q25 m A n F f S WD Sh Bs u pl L c a e W hnf hL hsz h h'
 have HCr:=h_ fun S WD Sh Bs u pl W (h:Shet m A n F f S WD Sh Bs e m.F.length u pl W)=>q5a m A n F f S WD Sh Bs u pl r e W h
 have HCv:=h_ fun S WD Sh Bs u pl (rn:Nat) W (hr:rn<m.R.length) (h:Shet m A n F f S WD Sh Bs e m.F.length u pl W)=>q4l m A n F f S WD Sh Bs u pl rn e W hv hN hn hr h
 have HCs:=h_ fun S WD Sh Bs u pl (rn Cb Sb s:Nat) W (h:Shet m A n F f S WD Sh Bs e m.F.length u pl W) (h':Vwr n F (rlb m rn) Sh Cb Sb s W)=>qgm m A n F f S WD Sh Bs u pl rn Cb Sb s e W hnf hn s1 h h'
 unfold vwV seeV at HCs HCv
 obtain ⟨al,alc,ap,apc,ar,arc,af,afc,afa⟩:=A
 unfold mV at HC0 ⊢
 dsimp only at HC0 ⊢
 have HK:=h_ (Blk.new w 37 #[.slice al m.L.length alc,.slice ap m.P.length apc,.slice ar m.R.length arc,.slice af m.F.length afc])
 have HB:=h_ ((bR w.heap.size w).alloc (nR _) (.cells #[.slice al m.L.length alc,.slice ap m.P.length apc,.slice ar m.R.length arc,.slice af m.F.length afc] 37))
 obtain ⟨W0,hW0⟩:∃ W0,w.alloc (.cells #[.slice al m.L.length alc,.slice ap m.P.length apc,.slice ar m.R.length arc,.slice af m.F.length afc] 37)=W0:=⟨_,rfl⟩
 rw [hW0] at HK HB
 have HC:=h_ (u_ HC0 W0 (ha.mono (u_ HB)) (ht.mono (u_ HB)) (hy.mono (u_ HB)) (htb.mono (u_ HB)))
 have HCe:=h_ (hc.mono (u_ HB))
 obtain ⟨y0,y1,y2,y3⟩:=quad (u_ HK)
 clear ha ht hy htb hS HC0 hc hL hsz s1 hv hN hn
 go_enter Tryz.func10,Tryz.ntmps10
 go_wp2_with fail
 try rw [hW0]
 refine (u_ HC).mono ?_
 rintro x W1 ⟨S,WD,Sh,Bs,u,pl,rfl,hle,hX,hb⟩
 have hD:=qan hb hX.base hle hle
 have hwD:=Nat.le_trans (u_ HB).size hle
 have HFin:Hid (∀ W,Below WD.heap.size WD W->Below w.heap.size w W):=h_ fun W h=>((u_ HB).trans (hD.mono (u_ HB).size)).trans (h.mono hwD)
 have HC1:=h_ (u_ HCt S WD Sh Bs u pl W1 hX ((u_ HCe).mono hD))
 clear hb hW0 y0 y1 y2 y3 hX hD hle HC HCe HCt HB HK
 go_wp2_with fail
 refine (u_ HC1).mono ?_
 rintro x W2 ⟨rfl,hX2,hb2⟩
 have HX2:=h_ hX2;have HB2:=h_ hb2
 clear hX2 hb2 HC1
 cases hok:celsOk m L e
 . have HN:Hid (vwA m n F f L e r=[]):=h_ (by unfold vwA;rw [if_neg (fun h=>by rw [hok] at h;exact absurd h.1 (by decide))])
   go_wp2_with fail
   go_ret
   exact ⟨_,rfl,by rw [u_ HN];exact World.ownsRow_nil _ _ _ _,u_ HFin _ (u_ HB2)⟩
 have hLe:L=m.F.length:=(qay hok).1
 subst hLe
 have HX:=h_ (u_ HX2 hok)
 have HOk:=h_ hok
 have HC2:=h_ (u_ HCr S WD Sh Bs u pl W2 (u_ HX))
 clear hok HCr
 go_wp2_with fail
 refine (u_ HC2).mono ?_
 rintro x W3 ⟨rfl,hw⟩
 subst hw
 clear HC2
 by_cases hr:0<=r/\r<m.R.length
 case neg =>
  rw [decide_eq_false hr]
  have HN:Hid (vwA m n F f m.F.length e r=[]):=h_ (by unfold vwA;rw [if_neg (fun h=>hr h.2)])
  go_wp2_with fail
  go_ret
  exact ⟨_,rfl,by rw [u_ HN];exact World.ownsRow_nil _ _ _ _,u_ HFin _ (u_ HX).base⟩
 rw [decide_eq_true hr]
 obtain ⟨rn,rfl⟩:∃ rn:Nat,r=rn:=⟨r.toNat,by omega⟩
 have hrn:rn<m.R.length:=by omega
 have HN:Hid (vwA m n F f m.F.length e rn=vwL m e (seesB m n F f rn) m.F.length):=h_ (by unfold vwA;rw [if_pos ⟨u_ HOk,hr⟩];rfl)
 have HC4:=h_ (u_ HCv S WD Sh Bs u pl rn W3 hrn (u_ HX))
 clear HCv
 go_wp2_with fail
 refine (u_ HC4).mono ?_
 rintro x W5 ⟨Cb,Sb,s,rfl,hV,hb⟩
 have HX5:=h_ ((u_ HX).mono hb)
 have HC5:=h_ (u_ HCs S WD Sh Bs u pl rn Cb Sb s W5 (u_ HX5) hV)
 clear hb hV HC4 HX
 go_wp2_with fail
 refine (u_ HC5).mono ?_
 rintro x W6 ⟨v,rfl,ho,hb⟩
 have HO6:=h_ (q98 ho (Nat.le_trans hwD (u_ HX5).base.size))
 have HB6:=h_ (u_ HFin W6 (((u_ HX5).mono hb).base))
 clear ho hb HC5
 go_wp2_with fail
 go_ret
 exact ⟨_,rfl,by rw [u_ HN];exact u_ HO6,u_ HB6⟩
structure OldV (m:Fm) (A:MA) (X:Nat) (cs:List Value) (a:Option Addr) (L:Nat) (e:Nat->Cx) (a0:Option Addr) (l:List Rx) (W:World):Prop where
 k:Blk W X 27 cs
 s:MSl W m A
 c:Cels W a L e
 t:Tabs W
 y:TyW W
 b:Tab W
 p:Rws W a0 l
theorem OldV.mono {m:Fm} {A:MA} {X:Nat} {cs:List Value} {a:Option Addr} {L:Nat} {e:Nat->Cx} {a0:Option Addr} {l:List Rx} {W W':World} (h:OldV m A X cs a L e a0 l W) (hb:Below W.heap.size W W'):OldV m A X cs a L e a0 l W':=⟨h.k.mono hb h.k.lt,h.s.mono hb,h.c.mono hb,h.t.mono hb,h.y.mono hb,h.b.mono hb,h.p.mono hb⟩
theorem ql3 (W:World):Rws W none []:=fun _ hk=>absurd hk (nL _)
theorem q8t (m:Fm) (A:MA) (L c:Nat) (a:Option Addr) (e:Nat->Cx) (r:Int) (l:List Rx) (w:World) (hll:l.length<=1000000) (hsp:∀ W A' a' c',MSl W m A'->Cels W a' L e->Calls Tryz.prog 7 #[mV m A',.slice a' L c',.int .i64 r] W fun x w'=>∃ u,x=.returned u/\OwnR w' W.heap.size u l/\Below W.heap.size W w') (him:∀ W A' a' c',Caps m A'->MSl W m A'->Cels W a' L e->Tabs W->TyW W->Tab W->Calls Tryz.prog 10 #[mV m A',.slice a' L c',.int .i64 r] W fun x w'=>∃ u,x=.returned u/\OwnR w' W.heap.size u l/\Below W.heap.size W w') (hf:FitM m) (hL:L<=9223372036854775807) (hfc:∀ k,k<L->FitC (e k)) (ha:MSl w m A) (hc:Cels w a L e) (ht:Tabs w) (hy:TyW w) (htb:Tab w) :
 Calls Tryz.prog 3 #[mV m A,.slice a L c,.int .i64 r] w fun x w'=>x=.returned (.bool true)/\Below w.heap.size w w':=by
 obtain ⟨al,alc,ap,apc,ar,arc,af,afc,afa⟩:=A
 have HCz:=h_ fun W (hs:MSl W m ⟨al,alc,ap,apc,ar,arc,af,afc,afa⟩)=>qdo m ⟨al,alc,ap,apc,ar,arc,af,afc,afa⟩ 1048576 W hf (by omega) (by omega) hs
 have HCy:=h_ fun (l0:Int) W (h0:0<=l0) (h1:l0<=1048576) (hs:Cels W a L e)=>q6w a L c e l0 W h0 h1 hL hfc hs
 have HCt:=h_ fun W (hn:Sm m) (hs:MSl W m ⟨al,alc,ap,apc,ar,arc,af,afc,afa⟩)=>qdv m ⟨al,alc,ap,apc,ar,arc,af,afc,afa⟩ W hn hs
 have HCc:=h_ fun W (hn:L<=1048576) (hs:Cels W a L e)=>q9w a e L c W hs hn
 have HCs:=h_ hsp
 have HCi:=h_ him
 have HCe:=h_ fun W A1 A2 (hn:Sm m) (h1:MSl W m A1) (h2:MSl W m A2)=>q7u m A1 A2 W hn h1 h2
 have HCq:=h_ fun W (a1 a2:Option Addr) (c1 c2:Nat) (hn:L<=1048576) (h1:Cels W a1 L e) (h2:Cels W a2 L e)=>q3d a1 a2 e L c1 c2 W hn h1 h2
 have HCr:=h_ fun (W:World) (a1 a2:Option Addr) (c1 c2:Nat) (h1:Rws W a1 l) (h2:Rws W a2 l)=>q53 a1 a2 l c1 c2 W hll h1 h2
 have HCk:=h_ fun (lo hi:Nat) (w0 W:World) (A':MA) (hn:Sm m) hz hM hbk (hs:MSl W m A')=>q60 m A' lo hi w0 W hn hz hM hbk hs
 clear hsp him hL hfc
 unfold mV at HCz HCt HCs HCi HCe HCk ⊢
 dsimp only at HCz HCt ⊢
 have HK:=h_ (Blk.new w 27 #[.slice al m.L.length alc,.slice ap m.P.length apc,.slice ar m.R.length arc,.slice af m.F.length afc])
 have HB:=h_ ((bR w.heap.size w).alloc (nR _) (.cells #[.slice al m.L.length alc,.slice ap m.P.length apc,.slice ar m.R.length arc,.slice af m.F.length afc] 27))
 obtain ⟨W0,hW0⟩:∃ W0,w.alloc (.cells #[.slice al m.L.length alc,.slice ap m.P.length apc,.slice ar m.R.length arc,.slice af m.F.length afc] 27)=W0:=⟨_,rfl⟩
 rw [hW0] at HK HB
 have HO:Hid (OldV m ⟨al,alc,ap,apc,ar,arc,af,afc,afa⟩ w.heap.size [.slice al m.L.length alc,.slice ap m.P.length apc,.slice ar m.R.length arc,.slice af m.F.length afc] a L e none [] W0):=h_ ⟨u_ HK,ha.mono (u_ HB),hc.mono (u_ HB),ht.mono (u_ HB),hy.mono (u_ HB),htb.mono (u_ HB),ql3 _⟩
 clear ha ht hy hf htb hc HK
 obtain ⟨y0,y1,y2,y3⟩:=quad (u_ HO).k
 go_enter Tryz.func3,Tryz.ntmps3
 go_wp2_with fail
 try rw [hW0]
 refine (u_ HCz W0 (u_ HO).s).mono ?_
 rintro x W1 ⟨q,rfl,hq,hb⟩
 replace HO:=h_ ((u_ HO).mono hb);replace HB:=mT HB hb
 clear hW0 hb y0 y1 y2 y3
 by_cases hqq:q<0
 . clear hq
   go_wp2_with fail
   go_ret
   exact ⟨rfl,u_ HB⟩
 obtain ⟨hn,hq1⟩:=hq (by omega)
 have HN:=h_ hn
 have HC1:=h_ (u_ HCy q W1 (by omega) hq1 (u_ HO).c)
 clear hn hq
 go_wp2_with fail
 refine (u_ HC1).mono ?_
 rintro x W2 ⟨q2,rfl,hq,hqm,hb⟩
 replace HO:=h_ ((u_ HO).mono hb);replace HB:=mT HB hb
 clear hb HC1
 by_cases hqq2:q2<0
 . obtain rfl:=hqm hqq2
   clear hq hqm hqq2
   go_wp2_with fail
   go_ret
   exact ⟨rfl,u_ HB⟩
 have hL1:L<=1048576:=(hq (by omega)).2.1
 clear hq hqm
 obtain ⟨y0,y1,y2,y3⟩:=quad (u_ HO).k
 go_wp2_with fail
 refine (u_ HCt W2 (u_ HN) (u_ HO).s).mono ?_
 rintro x W3 ⟨A1,rfl,hs1,-,-,hb⟩
 replace HO:=h_ ((u_ HO).mono hb);replace HB:=mT HB hb
 have HS1:=h_ hs1
 clear hb y0 y1 y2 y3 hs1
 go_wp2_with fail
 refine (u_ HCc W3 hL1 (u_ HO).c).mono ?_
 rintro x W4 ⟨rfl,hcl,-,hb⟩
 replace HO:=h_ ((u_ HO).mono hb);replace HB:=mT HB hb
 have HC2:=h_ (u_ HCs W4 A1 (some ⟨W3.heap.size,0,none⟩) L ((u_ HS1).mono hb) hcl)
 clear hb hcl HS1 HCs
 go_wp2_with fail
 refine (u_ HC2).mono ?_
 rintro x W5 ⟨u0,rfl,ho,hb⟩
 replace HO:=h_ ((u_ HO).mono hb);replace HB:=mT HB hb
 obtain ⟨a0,c0,rfl,hr0,-⟩:=q6m ho
 have HOl:Hid (OldV m ⟨al,alc,ap,apc,ar,arc,af,afc,afa⟩ w.heap.size [.slice al m.L.length alc,.slice ap m.P.length apc,.slice ar m.R.length arc,.slice af m.F.length afc] a L e a0 l W5):=h_ ⟨(u_ HO).k,(u_ HO).s,(u_ HO).c,(u_ HO).t,(u_ HO).y,(u_ HO).b,hr0⟩
 clear hb HC2 ho hr0 HO
 obtain ⟨lo,hlo⟩:∃ lo,W5.heap.size=lo:=⟨_,rfl⟩
 have hwl:w.heap.size<=lo:=by have:=(u_ HB).size;omega
 obtain ⟨y0,y1,y2,y3⟩:=quad (u_ HOl).k
 go_wp2_with fail
 refine (u_ HCt W5 (u_ HN) (u_ HOl).s).mono ?_
 rintro x W6 ⟨A2,rfl,hs2,hc2,hmb,hb⟩
 obtain ⟨X,hX⟩:∃ X,W6.heap.size=X:=⟨_,rfl⟩
 have hlX:lo<=X:=by have:=hb.size;omega
 rw [hlo] at hmb
 have HMb:=h_ hmb
 obtain ⟨bl,blc,bp,bpc,br,brc,bf,bfc,bfa⟩:=A2
 dsimp only
 have HX:=h_ (Blk.new W6 37 #[.slice bl m.L.length blc,.slice bp m.P.length bpc,.slice br m.R.length brc,.slice bf m.F.length bfc])
 have hbx:=(bR W6.heap.size W6).alloc (nR _) (.cells #[.slice bl m.L.length blc,.slice bp m.P.length bpc,.slice br m.R.length brc,.slice bf m.F.length bfc] 37)
 obtain ⟨W7,hW7⟩:∃ W7,W6.alloc (.cells #[.slice bl m.L.length blc,.slice bp m.P.length bpc,.slice br m.R.length brc,.slice bf m.F.length bfc] 37)=W7:=⟨_,rfl⟩
 rw [hW7] at hbx HX
 have hs7:W7.heap.size=X+1:=by rw [<- hW7,<- hX];simp
 rw [hX] at HX
 have HS2:=h_ (hs2.mono hbx);have HCp:=h_ hc2
 have HL7:Hid (Below W5.heap.size W5 W7):=h_ (hb.trans (hbx.mono hb.size))
 have HG7:Hid (Below X W6 W7):=h_ (by rw [<- hX];exact hbx)
 have HO7:=h_ ((u_ HOl).mono (u_ HL7))
 clear hb hbx hs2 hc2 hmb y0 y1 y2 y3
 go_wp2_with fail
 try rw [hX]
 try rw [hW7]
 refine (u_ HCc W7 hL1 (u_ HO7).c).mono ?_
 rintro x W8 ⟨rfl,hcl,hbk,hb⟩
 rw [hs7] at hcl hbk ⊢
 have HCl:=h_ hcl;have HBk:=h_ hbk
 obtain ⟨hi,hhi⟩:∃ hi,W8.heap.size=hi:=⟨_,rfl⟩
 have hXh:X+1<hi:=by have:=hbk.lt;omega
 have HS8:=h_ ((u_ HS2).mono hb);have HX8:=mB HX hb
 have HL8:=mT HL7 hb
 have HG8:=h_ ((u_ HG7).trans (hb.mono (by omega)))
 have HO8:=h_ ((u_ HO7).mono hb)
 clear hb hW7 hcl hbk HS2 HX HL7 HG7 HO7 hs7
 obtain ⟨x0,x1,x2,x3⟩:=quad (u_ HX8)
 have HC3:=h_ (u_ HCi W8 ⟨bl,blc,bp,bpc,br,brc,bf,bfc,bfa⟩ (some ⟨X+1,0,none⟩) L (u_ HCp) (u_ HS8) (u_ HCl) (u_ HO8).t (u_ HO8).y (u_ HO8).b)
 dsimp only at HC3
 clear HCp
 go_wp2_with fail
 refine (u_ HC3).mono ?_
 rintro x W9 ⟨u9,rfl,ho,hb⟩
 rw [hhi] at ho
 have HV:=h_ ho
 obtain ⟨a9,c9,rfl,hr9,-⟩:=q6m ho
 have HS9:=h_ ((u_ HS8).mono hb);have HX9:=mB HX8 hb;have HCl9:=h_ ((u_ HCl).mono hb);have HBk9:=h_ ((u_ HBk).mono hb (u_ HBk).lt)
 have HL9:=mT HL8 hb;have HG9:=h_ ((u_ HG8).trans (hb.mono (by omega)))
 have HO9:=h_ ((u_ HO8).mono hb)
 have hs9:hi<=W9.heap.size:=by have:=hb.size;omega
 have HE9:=h_ (u_ HCr W9 a9 a0 c9 c0 hr9 (u_ HO9).p)
 clear hb x0 x1 x2 x3 HC3 ho hr9 HS8 HX8 HCl HBk HL8 HG8 HO8 hhi
 go_wp2_with fail
 refine (u_ HE9).mono ?_
 rintro x W10 ⟨rfl,hb⟩
 replace HV:=h_ (qct (u_ HV) hb)
 have HS10:=h_ ((u_ HS9).mono hb);have HX10:=mB HX9 hb;have HCl10:=h_ ((u_ HCl9).mono hb);have HBk10:=h_ ((u_ HBk9).mono hb (u_ HBk9).lt)
 have HL10:=mT HL9 hb;have HG10:=h_ ((u_ HG9).trans (hb.mono (by omega)))
 have HO10:=h_ ((u_ HO9).mono hb)
 have hs10:hi<=W10.heap.size:=by have:=hb.size;omega
 clear hb HE9 HS9 HX9 HCl9 HBk9 HL9 HG9 HO9 hs9
 go_wp2_with fail
 refine wp_region_held_drew (S:=fun w'=>Blk w' w.heap.size 27 [.slice al m.L.length alc,.slice ap m.P.length apc,.slice ar m.R.length arc,.slice af m.F.length afc]/\Blk w' X 37 [.slice bl m.L.length blc,.slice bp m.P.length bpc,.slice br m.R.length brc,.slice bf m.F.length bfc]) (by kernel_rfl) ⟨(u_ HO10).k,u_ HX10⟩ (fun zz=>?_)
 refine tk 0 44 (.agg #[.slice bl m.L.length blc,.slice bp m.P.length bpc,.slice br m.R.length brc,.slice bf m.F.length bfc]) zz ?_ (hy:=fun w hS=>by obtain ⟨-,h2⟩:=hS;obtain ⟨q0,q1,q2,q3⟩:=quad h2;simp [execOp,go_sem,q0,q1,q2,q3])
 refine tk 1 45 (.agg #[.slice al m.L.length alc,.slice ap m.P.length apc,.slice ar m.R.length arc,.slice af m.F.length afc]) zz ?_ (hy:=fun w hS=>by obtain ⟨h2,-⟩:=hS;obtain ⟨q0,q1,q2,q3⟩:=quad h2;simp [execOp,go_sem,q0,q1,q2,q3])
 simp only [sX,sY,sZ]
 have HDr:Hid (Below W10.heap.size W10 W10.drew):=h_ (bR _ _).drew
 refine callY (i:=2) (f:=8) (args:=#[.agg #[.slice al m.L.length alc,.slice ap m.P.length apc,.slice ar m.R.length arc,.slice af m.F.length afc]]) (R:=fun v wz=>∃ A3,v=mV m A3/\MSl wz m A3/\Below W10.heap.size W10 wz) 46 rfl rfl (by rfl) (by kernel_rfl) ?hrun1 ((u_ HCt W10.drew (u_ HN) ((u_ HO10).s.mono (u_ HDr))).mono fun e w6 ⟨A3,he,hs,_,_,hb⟩=>⟨_,he,A3,rfl,hs,q29 hb⟩) ?_
 case hrun1=>simp [execOp,go_sem]
 rintro v W11 ⟨A3,rfl,hs3,hb⟩
 replace HV:=h_ (qct (u_ HV) hb)
 have HS11:=h_ ((u_ HS10).mono hb);have HX11:=mB HX10 hb;have HCl11:=h_ ((u_ HCl10).mono hb);have HBk11:=h_ ((u_ HBk10).mono hb (u_ HBk10).lt)
 have HL11:=mT HL10 hb;have HG11:=h_ ((u_ HG10).trans (hb.mono (by omega)))
 have HO11:=h_ ((u_ HO10).mono hb)
 have hs11:hi<=W11.heap.size:=by have:=hb.size;omega
 replace zz:Blk W11 w.heap.size 27 [.slice al m.L.length alc,.slice ap m.P.length apc,.slice ar m.R.length arc,.slice af m.F.length afc]/\Blk W11 X 37 [.slice bl m.L.length blc,.slice bp m.P.length bpc,.slice br m.R.length brc,.slice bf m.F.length bfc]:=⟨(u_ HO11).k,u_ HX11⟩
 have HS3:=h_ hs3
 clear hb hs3 HDr HS10 HX10 HCl10 HBk10 HL10 HG10 HO10 hs10
 refine ⟨zz,?_⟩
 unfold mV
 obtain ⟨dl,dlc,dp,dpc,dr,drc,df,dfc,dfa⟩:=A3
 dsimp only
 simp only [sX,sY,sZ]
 have HCe2:=h_ (u_ HCe W11 ⟨bl,blc,bp,bpc,br,brc,bf,bfc,bfa⟩ ⟨dl,dlc,dp,dpc,dr,drc,df,dfc,dfa⟩ (u_ HN) (u_ HS11) (u_ HS3))
 dsimp only at HCe2
 refine callY (i:=3) (f:=12) (args:=#[.agg #[.slice bl m.L.length blc,.slice bp m.P.length bpc,.slice br m.R.length brc,.slice bf m.F.length bfc],.agg #[.slice dl m.L.length dlc,.slice dp m.P.length dpc,.slice dr m.R.length drc,.slice df m.F.length dfc]]) (R:=fun v wz=>v=.bool true/\Below W11.heap.size W11 wz) 47 rfl rfl (by rfl) (by kernel_rfl) ?hrun2 ((u_ HCe2).mono fun e w6 ⟨he,hb⟩=>⟨_,he,rfl,hb⟩) ?_
 case hrun2=>simp [execOp,go_sem]
 rintro v W12 ⟨rfl,hb⟩
 replace HV:=h_ (qct (u_ HV) hb)
 have HS12:=h_ ((u_ HS11).mono hb);have HX12:=mB HX11 hb;have HCl12:=h_ ((u_ HCl11).mono hb);have HBk12:=h_ ((u_ HBk11).mono hb (u_ HBk11).lt)
 have HL12:=mT HL11 hb;have HG12:=h_ ((u_ HG11).trans (hb.mono (by omega)))
 have HO12:=h_ ((u_ HO11).mono hb)
 have hs12:hi<=W12.heap.size:=by have:=hb.size;omega
 replace zz:Blk W12 w.heap.size 27 [.slice al m.L.length alc,.slice ap m.P.length apc,.slice ar m.R.length arc,.slice af m.F.length afc]/\Blk W12 X 37 [.slice bl m.L.length blc,.slice bp m.P.length bpc,.slice br m.R.length brc,.slice bf m.F.length bfc]:=⟨(u_ HO12).k,u_ HX12⟩
 clear hb HCe2 HS3 HS11 HX11 HCl11 HBk11 HL11 HG11 HO11 hs11
 refine ⟨zz,?_⟩
 simp only [sX,sY,sZ]
 refine tk 4 48 (.bool false) zz ?_
 simp only [sX,sY,sZ]
 refine wpAnyH_done (by kernel_rfl) ?_ _
 clear zz
 go_wp2_with fail
 refine (u_ HCc W12 hL1 (u_ HO12).c).mono ?_
 rintro x W13 ⟨rfl,hcl,-,hb⟩
 have HC9:=h_ (u_ HCq W13 (some ⟨X+1,0,none⟩) (some ⟨W12.heap.size,0,none⟩) L L hL1 ((u_ HCl12).mono hb) hcl)
 replace HV:=h_ (qct (u_ HV) hb)
 have HS13:=h_ ((u_ HS12).mono hb);have HX13:=mB HX12 hb;have HBk13:=h_ ((u_ HBk12).mono hb (u_ HBk12).lt)
 have HL13:=mT HL12 hb;have HG13:=h_ ((u_ HG12).trans (hb.mono (by omega)))
 have hs13:hi<=W13.heap.size:=by have:=hb.size;omega
 clear hb hcl HS12 HX12 HCl12 HBk12 HL12 HG12 HO12 hs12
 go_wp2_with fail
 refine (u_ HC9).mono ?_
 rintro x W14 ⟨rfl,hb⟩
 replace HV:=h_ (qct (u_ HV) hb)
 have HS14:=h_ ((u_ HS13).mono hb);have HX14:=mB HX13 hb;have HBk14:=h_ ((u_ HBk13).mono hb (u_ HBk13).lt)
 have HL14:=mT HL13 hb;have HG14:=h_ ((u_ HG13).trans (hb.mono (by omega)))
 have hs14:hi<=W14.heap.size:=by have:=hb.size;omega
 clear hb HC9 HS13 HX13 HBk13 HL13 HG13 hs13
 obtain ⟨x0,x1,x2,x3⟩:=quad (u_ HX14)
 have HCk2:=h_ (u_ HCk lo X W6 W14 ⟨bl,blc,bp,bpc,br,brc,bf,bfc,bfa⟩ (u_ HN) hX (u_ HMb) (fun g t n hb=>hb.mono (u_ HG14) (by have:=hb.lt;omega)) (u_ HS14))
 dsimp only at HCk2
 go_wp2_with fail
 refine (u_ HCk2).mono ?_
 rintro x W15 ⟨k',rfl,hk',hmk⟩
 have HV15:=h_ (hmk.out.owns (u_ HV) (fun q e=>by have:=((u_ HV).lt q e).1;omega))
 have HB15:Hid (Below lo W5 W15):=h_ (by
  have h9:=u_ HL14
  rw [hlo] at h9
  exact h9.trans (hmk.out.below (nR _) (by omega)))
 have HBk15:=h_ (hmk.bk _ _ _ (u_ HBk14))
 have hs15:hi<=W15.heap.size:=by have:=hmk.out.size;omega
 have HMc:=h_ (q3z (X+1) L L k' lo hi W15 (by omega) (u_ HBk15) (by omega) (by omega))
 obtain ⟨k2,hk2⟩:∃ k2,k'+L*6=k2:=⟨_,rfl⟩
 rw [hk2] at HMc
 have hk0:¬ (k2:Int)<0:=by omega
 clear hmk x0 x1 x2 x3 HCk2 HCk HV HS14 HX14 HL14 HG14 HBk14 hs14 HMb
 go_wp2_with fail
 refine (u_ HMc).mono ?_
 rintro x W16 ⟨rfl,hmk⟩
 have HV16:=h_ (hmk.out.owns (u_ HV15) (fun q e=>by have:=((u_ HV15).lt q e).1;omega))
 have HB16:Hid (Below lo W5 W16):=h_ ((u_ HB15).trans (hmk.out.below (nR _) (by omega)))
 have hs16:hi<=W16.heap.size:=by have:=hmk.out.size;omega
 clear hmk HMc HV15 HB15 HBk15 hs15
 have HO16:Hid (OldV m ⟨al,alc,ap,apc,ar,arc,af,afc,afa⟩ w.heap.size [.slice al m.L.length alc,.slice ap m.P.length apc,.slice ar m.R.length arc,.slice af m.F.length afc] a L e a0 l W16):=h_ ((u_ HOl).mono (by rw [hlo];exact u_ HB16))
 have HE16:=h_ (u_ HCr W16 a9 a0 c9 c0 (by
  obtain ⟨a,c,e,hp,-⟩:=q6m (u_ HV16)
  cases e
  exact hp) (u_ HO16).p)
 go_wp2_with fail
 refine (u_ HE16).mono ?_
 rintro x W17 ⟨rfl,hb⟩
 have HV17:=h_ (qct (u_ HV16) hb)
 have HB17:=h_ ((u_ HB16).trans (hb.mono (by omega)))
 have hs17:hi<=W17.heap.size:=by have:=hb.size;omega
 clear hb HE16 HO16 HV16 HB16 hs16
 obtain ⟨g,N,hgb,hgN,hgk⟩:∃ g N,hi<=g/\l.length*7<=N/\(0<l.length->a9=some ⟨g,0,none⟩/\Bk W17 g 83 N):=by
  obtain ⟨a,c,e,-,hp⟩:=q6m (u_ HV17)
  cases e
  by_cases h0:0<l.length
  . obtain ⟨g,N,h1,h2,h3,h4⟩:=hp h0
    exact ⟨g,N,h2,h3,fun _=>⟨h1,h4⟩⟩
  . exact ⟨hi,l.length*7,nR _,nR _,fun h=>absurd h h0⟩
 have HMr:=h_ (q43 a9 g l.length N c9 hi (g+1) W17 hll hgN hgb (by omega) hgk)
 obtain ⟨p,hp⟩:∃ p,1+l.length*7=p:=⟨_,rfl⟩
 rw [hp] at HMr
 have hpl:(p:Int)<=7000001:=by omega
 have HGk:=h_ hgk
 clear hgk
 go_wp2_with fail
 refine (u_ HMr).mono ?_
 rintro x W18 ⟨rfl,hpre,hmk⟩
 have HB18:=h_ ((u_ HB17).trans (hmk.out.below (by omega) (by omega)))
 have hs18:hi<=W18.heap.size:=by have:=hmk.out.size;omega
 have HHr:=h_ (q3k a9 g l.length c9 W18 hll fun h=>⟨(u_ HGk h).1,Nat.lt_of_lt_of_le (u_ HGk h).2.lt hmk.out.size,hpre h⟩)
 rw [hp] at HHr
 clear hpre hmk HMr HV17 HB17 hs17 HGk
 go_wp2_with fail
 refine (u_ HHr).mono ?_
 rintro x W19 ⟨rfl,hb⟩
 have HB19:=h_ ((u_ HB18).trans (hb.mono (by omega)))
 have HO19:Hid (OldV m ⟨al,alc,ap,apc,ar,arc,af,afc,afa⟩ w.heap.size [.slice al m.L.length alc,.slice ap m.P.length apc,.slice ar m.R.length arc,.slice af m.F.length afc] a L e a0 l W19):=h_ ((u_ HOl).mono (by rw [hlo];exact u_ HB19))
 have hs19:hi<=W19.heap.size:=by have:=hb.size;omega
 have hp0:¬ (p:Int)<0:=by omega
 clear hb HHr HB18 hs18
 obtain ⟨y0,y1,y2,y3⟩:=quad (u_ HO19).k
 go_wp2_with fail
 refine (u_ HCt W19 (u_ HN) (u_ HO19).s).mono ?_
 rintro x W20 ⟨A4,rfl,hs4,hc4,-,hb⟩
 have HO20:=h_ ((u_ HO19).mono hb)
 have HB20:=h_ ((u_ HB19).trans (hb.mono (by omega)))
 have hs20:hi<=W20.heap.size:=by have:=hb.size;omega
 have HS4:=h_ hs4;have HC4:=h_ hc4
 clear hb hs4 hc4 HO19 HB19 hs19 y0 y1 y2 y3
 go_wp2_with fail
 refine (u_ HCc W20 hL1 (u_ HO20).c).mono ?_
 rintro x W21 ⟨rfl,hcl,-,hb⟩
 have HO21:=h_ ((u_ HO20).mono hb)
 have HB21:=h_ ((u_ HB20).trans (hb.mono (by omega)))
 have hs21:hi<=W21.heap.size:=by have:=hb.size;omega
 have HCi3:=h_ (u_ HCi W21 A4 (some ⟨W20.heap.size,0,none⟩) L (u_ HC4) ((u_ HS4).mono hb) hcl (u_ HO21).t (u_ HO21).y (u_ HO21).b)
 clear hb hcl HS4 HC4 HO20 HB20 hs20 HCi
 go_wp2_with fail
 refine (u_ HCi3).mono ?_
 rintro x W22 ⟨v,rfl,ho,hb⟩
 obtain ⟨a7,c7,rfl,hr7,-⟩:=q6m ho
 have HO22:=h_ ((u_ HO21).mono hb)
 have HB22:=h_ ((u_ HB21).trans (hb.mono (by omega)))
 have HE22:=h_ (u_ HCr W22 a7 a0 c7 c0 hr7 (u_ HO22).p)
 have hs22:hi<=W22.heap.size:=by have:=hb.size;omega
 clear hb ho hr7 HCi3 HO21 HB21 hs21
 go_wp2_with fail
 refine (u_ HE22).mono ?_
 rintro x W23 ⟨rfl,hb⟩
 have HB23:Hid (Below w.heap.size w W23):=h_ ((u_ HB).trans (((u_ HB22).trans (hb.mono (by omega))).mono hwl))
 clear hb HE22
 go_wp2_with fail
 go_ret
 exact ⟨rfl,u_ HB23⟩
theorem qlo (m:Fm) (n:Nat) (F:Nat->Bool) (f:Nat->Nat) (L:Nat) (e:Nat->Cx) (r:Int):(vwA m n F f L e r).length<=m.F.length:=by
 unfold vwA
 split
 . exact qlp _ _ _ _
 . exact nZ _
theorem q5x (m:Fm) (A:MA) (L c:Nat) (a:Option Addr) (e:Nat->Cx) (r:Int) (w:World) (hf:FitM m) (hL:L<=9223372036854775807) (hfc:∀ k,k<L->FitC (e k)) (ha:MSl w m A) (hc:Cels w a L e) (ht:Tabs w) (hy:TyW w) (htb:Tab w) :
 Calls Tryz.prog 3 #[mV m A,.slice a L c,.int .i64 r] w fun x w'=>x=.returned (.bool true)/\Below w.heap.size w w':=by
 have hsz:∀ k,k<L->(e k).v.s.size<=9223372036854775807:=fun k hk=>(hfc k hk).1
 have no:∀ (cs ci:Int),cs ≠ 0->(∀ W A',MSl W m A'->Calls Tryz.prog 56 #[mV m A'] W fun r w'=>∃ c a,r=.returned (dgV c a)/\c=cs/\Below W.heap.size W w')->(∀ W A',Caps m A'->MSl W m A'->Tabs W->TyW W->Tab W->Calls Tryz.prog 66 #[mV m A'] W fun r w'=>∃ S c a,r=.returned (.tuple #[sfV S,dgV c a])/\c ≠ 0/\Below W.heap.size W w')->Calls Tryz.prog 3 #[mV m A,.slice a L c,.int .i64 r] w fun x w'=>x=.returned (.bool true)/\Below w.heap.size w w':=fun cs _ hcs h1 h2 =>
  q8t m A L c a e r [] w (by simp) (fun W A' a' c' hs _=>q6t m A' (.slice a' L c') r W (fun W' hs'=>(q8o m A' W' (fun c _=>c=cs) (fun W2 hs2=>h1 W2 A' hs2) hs').mono fun x w' ⟨c,_,e,h,hb⟩=>⟨by rw [e,h,decide_eq_false hcs],hb⟩) hs) (fun W A' a' c' hcp hs _ k1 k2 k3=>q5b m A' (.slice a' L c') r W (fun W' hs' t1 t2 t3=>q9k m A' W' (fun W2 hs2 u1 u2 u3=>h2 W2 A' hcp hs2 u1 u2 u3) hs' t1 t2 t3) hs k1 k2 k3) hf hL hfc ha hc ht hy htb
 cases hq:vfB m
 . exact no 20 20 (by decide) (fun W A' hs=>(q6q m A' W (fun W' hs'=>q0f m A' W' hf hs') hq hs).mono fun r w' ⟨e,hb⟩=>⟨20,0,e,rfl,hb⟩) (fun W A' hcp hs k1 k2 k3=>(qdg m A' W hq hf hcp hs k1 k2 k3).mono fun r w' ⟨e,hb⟩=>⟨sf0,20,0,e,by decide,hb⟩)
 have hv:VfA m:=Classical.byContradiction fun hn=>by rw [qe2 hn] at hq;cases hq
 rcases dich4 m.L.length m.P.length (pr1 m) (pr2 m) (by have:=hv.np;omega) with ⟨code,hcd,h1,h2⟩ | ⟨s,F,J,M,bot,top,-,⟨n,bt,tp,hLt⟩,h1,h2,h3⟩
 . exact no (10+code) 0 (by omega) (fun W A' hs=>(q6r m A' W code (fun W' hs'=>q0f m A' W' hf hs') hq hcd h1 hf hs).mono fun r w' ⟨e,hb⟩=>⟨10+code,0,e,rfl,hb⟩) (fun W A' hcp hs k1 k2 k3=>(qdh m A' W code hq hcd h2 hf hcp hs k1 k2 k3).mono fun r w' ⟨e,hb⟩=>⟨sf0,10+code,0,e,by omega,hb⟩)
 have hN:m.L.length=n:=by have:=hLt.hN;omega
 have spC:∀ W A',MSl W m A'->Calls Tryz.prog 56 #[mV m A'] W fun r w'=>∃ c a,r=.returned (dgV c a)/\ChkF m n F c a/\Below W.heap.size W w':=fun W A' hs=>q6p m A' W bot top s n bt tp F J M (fun W' hs'=>q0f m A' W' hf hs') hq hv h1 hLt hf hs
 by_cases hE:∃ c a,ChkF m n F c a
 . obtain ⟨c0,a0,hca⟩:=hE
   have hone:∀ {c' a'},ChkF m n F c' a'->c'=c0:=fun h=>(h.one (qjp hLt) hca).1
   by_cases hc0:c0=0
   . subst hc0
     obtain ⟨f,s1,s2⟩:∃ f,Sol m n (fun a b=>F (a*n+b)=true) f/\Low m n (fun a b=>F (a*n+b)=true) f:=by
      rcases hca with ⟨z,-,-,h,-⟩ | ⟨-,f,z,s1,s2,-⟩
      . exact absurd h (by decide)
      . exact ⟨f,s1,s2⟩
     have spN:=fun W A' a' c' (hs:MSl W m A') (hc':Cels W a' L e)=>q9n m A' L c' a' e r W bot top s n bt tp F J M f (fun W' hs'=>(q8o m A' W' (ChkF m n F) (fun W2 hs2=>spC W2 A' hs2) hs').mono fun x w' ⟨c,_,e,h,hb⟩=>⟨by rw [e,hone h,decide_eq_true rfl],hb⟩) (fun W' hs'=>q0f m A' W' hf hs') hq hv h1 h3 hLt s1 s2 hf hL hsz hs hc'
     have imN:=fun W A' a' c' (hcp:Caps m A') (hs:MSl W m A') (hc':Cels W a' L e) k1 k2 k3=>q5c m A' n F f L c' a' e r W hv hN hLt.h32 s1 hL hsz (fun W' hs' t1 t2 t3=>q9l m A' n F f W' hv.nf (fun W2 hs2 u1 u2 u3=>(qdf m A' W2 bot top s n bt tp F J M hq hv h2 hLt hf hcp hs2 u1 u2 u3).mono fun x w' ⟨S,c,a,e,hk,hsn,hb⟩=>by
      obtain ⟨rfl,rfl⟩:=hk.one (qjp hLt) hca
      obtain rfl:=qee hk
      obtain ⟨g,g1,g2,hw⟩:=hsn rfl
      exact ⟨S,e,hw.congr (qcb (qjp hLt) g1 s1 g2 s2),hb⟩) hs' t1 t2 t3) hs hc' k1 k2 k3
     exact q8t m A L c a e r (vwA m n F f L e r) w (Nat.le_trans (qlo m n F f L e r) (by have:=hv.nf;omega)) spN imN hf hL hfc ha hc ht hy htb
   . exact no c0 0 hc0 (fun W A' hs=>(spC W A' hs).mono fun r w' ⟨c,a,e,h,hb⟩=>⟨c,a,e,hone h,hb⟩) (fun W A' hcp hs k1 k2 k3=>(qdf m A' W bot top s n bt tp F J M hq hv h2 hLt hf hcp hs k1 k2 k3).mono fun r w' ⟨S,c,a,e,h,_,hb⟩=>⟨S,c,a,e,by rw [hone h];exact hc0,hb⟩)
 . exact no 1 0 (by decide) (fun W A' hs=>(spC W A' hs).mono fun r w' ⟨c,a,e,h,hb⟩=>absurd ⟨c,a,h⟩ hE) (fun W A' hcp hs k1 k2 k3=>(qdf m A' W bot top s n bt tp F J M hq hv h2 hLt hf hcp hs k1 k2 k3).mono fun r w' ⟨S,c,a,e,h,_,hb⟩=>absurd ⟨c,a,h⟩ hE)
end Go.Proofs.YtnhjjaminkhiiaaGreatDoor
set_option maxRecDepth 100000
set_option maxHeartbeats 20000000
namespace Go.Proofs.YtnhjjaminkhiiaaGreatDoor
open Go Go.RowKit Go.ChangeShapes Go.WideShapes Go.ChangeAt
section
variable {H:Type} {enc:TypeId × Value->H} {P:Program} {w:World} {base:Nat} {spare:Nat->Bool} {held:Bool}
theorem qit {t:TypeId} {n:Nat} {v:Value} {y:DataW H × List MemPlace} (ht:P.underlying t=some (.int .i64)) (h:DataW.trod enc P w base spare held n t [v]=some y):∃ x,v=.int .i64 x/\-9223372036854775808<=x/\x<=9223372036854775807:=by
 obtain ⟨x,h1,h2⟩:=DataW.trod_int ht h
 have h3:=h2.2
 simp [Lit.wf,IntKind.min,IntKind.max,IntKind.signed,IntKind.bits] at h3
 exact ⟨x,by simpa using h1,by omega,by omega⟩
theorem qiw {t:TypeId} {n:Nat} {v:Value} {y:DataW H × List MemPlace} (ht:P.underlying t=some .string) (h:DataW.trod enc P w base spare held n t [v]=some y):∃ s:ByteArray,v=.string s/\s.size<=9223372036854775807:=by
 obtain ⟨s,h1,_,h2⟩:=DataW.trod_string ht h
 exact ⟨s,by simpa using h1,h2⟩
end
theorem knobsV:ownKnob Tryz.prog.godebug=none:=by kernel_rfl
theorem laidOutV:laidOutB Tryz.prog=true:=by kernel_rfl
theorem cellsVal:Tryz.prog.cellsOf 56=3:=by kernel_rfl
theorem gPow:Tryz.prog.globalNamed "internal/strconv.uint64pow10" = some 4:=by kernel_rfl
theorem gPowType:(Tryz.prog.globals[4]?).map (·.type)=some 297:=by kernel_rfl
theorem cellsPow:Tryz.prog.cellsOf 297=20:=by kernel_rfl
theorem cellsU64:Tryz.prog.cellsOf 289=1:=by kernel_rfl
theorem pow_eq:(Rows.laid_internal_strconv_uint64pow10:DataW Unit)=Lib.tabData .u64 Lib.pow10Tab:=by rfl
theorem pow_of {W:World} {rest:List (String × DataW Unit)} (h:laidMet Tryz.prog (("math/bits.deBruijn32tab",Rows.laid_math_bits_deBruijn32tab) :: ("math/bits.deBruijn64tab",Rows.laid_math_bits_deBruijn64tab) :: ("internal/strconv.uint64pow10",Rows.laid_internal_strconv_uint64pow10) :: rest) W):Pow W:=by
 have h2:=h.tail.tail
 rw [pow_eq] at h2
 exact Lib.tabIs_of_head gPow gPowType Tryz.underlying297 Tryz.underlying289 cellsU64 cellsPow h2
def laidT (k:IntKind) (zs:List Int):Obj->Obj:=fun
 | .cells _ t frozen=>.cells (zs.map (fun z=>Value.int k z)).toArray t frozen
 | o=>o
theorem cellsInt0:Tryz.prog.cellsOf 3=1:=by kernel_rfl
theorem cellsI640:Tryz.prog.cellsOf 2=1:=by kernel_rfl
theorem cellsStr:Tryz.prog.cellsOf 9=1:=by kernel_rfl
theorem cellsNode:Tryz.prog.cellsOf 187=5:=by kernel_rfl
theorem qai (b off j:Nat):(⟨b,off,none⟩:Addr).add j=⟨b,off+j,none⟩:=by simp [Addr.add]
section
variable {H:Type} {enc:TypeId × Value->H} {P:Program} {w:World} {base:Nat} {held:Bool}
def zeroNx:Nx:=⟨0,blankX,⟨#[]⟩⟩
theorem qbs {t e:TypeId} {f0 f1 f2 g0 g1 g2:Field} {n:Nat} {v:Value} {y:DataW H × List MemPlace} (ht:P.underlying t=some (.slice e)) (he:P.underlying e=some (.struct #[f0,f1,f2])) (ce:P.cellsOf e=5) (o0:f0.offset=0) (o1:f1.offset=1) (o2:f2.offset=4)
 (hv:P.underlying f1.type=some (.struct #[g0,g1,g2])) (cv:P.cellsOf f1.type=3) (q0:g0.offset=0) (q1:g1.offset=1) (q2:g2.offset=2)
 (i0:P.underlying f0.type=some (.int .i64)) (i2:P.underlying f2.type=some .string) (c0:P.cellsOf f0.type=1) (c2:P.cellsOf f2.type=1)
 (j0:P.underlying g0.type=some (.int .i64)) (j1:P.underlying g1.type=some (.int .i64)) (j2:P.underlying g2.type=some .string) (d0:P.cellsOf g0.type=1) (d1:P.cellsOf g1.type=1) (d2:P.cellsOf g2.type=1) (h:DataW.trod enc P w base (fun _=>true) held n t [v]=some y)
 (hlt:∀ x ∈ y.2,x.block<w.heap.size):∃ a len cap f,v=.slice a len cap/\len<=9223372036854775807/\Nods w a len f/\(∀ i,i<len->Fit (f i)):=by
 rcases Deep.open_slice ht h with ⟨h0,-⟩ | ⟨a,len,cap,m,k,D,Pl,h0,-,hl,hm,hmm,rfl,hx⟩
 . exact ⟨none,0,0,fun _=>zeroNx,by simpa using h0,by omega,fun k hk=>absurd hk (nL _),fun k hk=>absurd hk (nL _)⟩
 . simp only [if_true] at hmm
   subst hmm
   have each:∀ i,i<m->∃ u:Nx,w.cell? (a.add (i*5))=some (.int .i64 u.op)/\w.cell? (a.add (i*5+1))=some (.int .i64 u.v.k)/\w.cell? (a.add (i*5+2))=some (.int .i64 u.v.n)/\w.cell? (a.add (i*5+3))=some (.string u.v.s)/\w.cell? (a.add (i*5+4))=some (.string u.nm)/\Fit u:=by
    intro i hi
    obtain ⟨cs',h1,h2⟩:=hx i hi
    rw [ce] at h1
    obtain ⟨_,hlen,hcell⟩:=World.cells?_some h1
    obtain ⟨xs,k',hk,hxy,_,hxl,hf⟩:=DataW.trod_struct he h2
    match xs,hxl,cs',hlen with
    | [y0,y1,y2],_,[v0,v1,v2,v3,v4],_ =>
     have g0':=hf 0 f0 rfl
     have g1':=hf 1 f1 rfl
     have g2':=hf 2 f2 rfl
     simp [o0,o1,o2,c0,c2,cv] at g0' g1' g2'
     have e0:=hcell 0 (by omega)
     have e1:=hcell 1 (by omega)
     have e2:=hcell 2 (by omega)
     have e3:=hcell 3 (by omega)
     have e4:=hcell 4 (by omega)
     rw [Deep.add_add] at e0 e1 e2 e3 e4
     obtain ⟨xs',k'',hk',hxy',_,hxl',hf'⟩:=DataW.trod_struct hv g1'
     match xs',hxl' with
     | [z0,z1,z2],_ =>
      have r0:=hf' 0 g0 rfl
      have r1:=hf' 1 g1 rfl
      have r2:=hf' 2 g2 rfl
      simp [q0,q1,q2,d0,d1,d2] at r0 r1 r2
      obtain ⟨op,rfl,-,-⟩:=qit i0 g0'
      obtain ⟨kind,rfl,-,-⟩:=qit j0 r0
      obtain ⟨num,rfl,n0,n1⟩:=qit j1 r1
      obtain ⟨s,rfl,hs⟩:=qiw j2 r2
      obtain ⟨nm,rfl,hn⟩:=qiw i2 g2'
      exact ⟨⟨op,⟨kind,num,s⟩,nm⟩,by simpa using e0,by simpa using e1,by simpa using e2,by simpa using e3,by simpa using e4,hs,hn,n0,n1⟩
   obtain ⟨f,hf⟩:∃ f:Nat->Nx,∀ i,i<m->w.cell? (a.add (i*5))=some (.int .i64 (f i).op)/\w.cell? (a.add (i*5+1))=some (.int .i64 (f i).v.k)/\w.cell? (a.add (i*5+2))=some (.int .i64 (f i).v.n)/\w.cell? (a.add (i*5+3))=some (.string (f i).v.s)/\w.cell? (a.add (i*5+4))=some (.string (f i).nm)/\Fit (f i):=by
    classical
    exact ⟨fun i=>if h:i<m then (each i h).choose else zeroNx,fun i hi=>by simp only [dif_pos hi];exact (each i hi).choose_spec⟩
   refine ⟨some a,len,m,f,by simpa using h0,by have:maxLen=9223372036854775807:=rfl;omega,fun i hi=>?_,fun i hi=>(hf i (by omega)).2.2.2.2.2⟩
   obtain ⟨x0,x1,x2,x3,x4,-⟩:=hf i (by omega)
   obtain ⟨b,off,spot⟩:=a
   have hs:spot=none:=by simpa [Addr.add] using World.cell?_spot (hf 0 (by omega)).1
   subst hs
   rw [qai] at x0 x1 x2 x3 x4
   refine ⟨b,off,rfl,hlt (.cell b (off+i*5)) ?_,x0,x1,x2,x3,x4⟩
   rw [ce]
   exact List.mem_append_left _ (MemPlace.mem_row.2 ⟨i*5,by omega,by simp⟩)
theorem q2c {enc:TypeId × Value->H} {sp:Nat->Bool} {fuel:Nat} {t e:TypeId} {n:Nat} {cs:List Value} {zs:List (List UInt8)} {p:List MemPlace}
 (ht:P.underlying t=some (.array n e)) (he:P.underlying e=some .string) (hce:P.cellsOf e=1) (hct:P.cellsOf t=n)
 (h:DataW.trod enc P w base sp held fuel t cs=some (.agg (zs.map fun z=>.lit (.string z)),p)):cs=zs.map fun z=>Value.string ⟨z.toArray⟩:=by
 cases fuel with
 | zero=>simp [DataW.trod] at h
 | succ fuel =>
  simp only [DataW.trod,ht,hce,hct,Nat.mul_one] at h
  split at h
  . rename_i hl
    obtain ⟨xs,hm,hx⟩:=Option.map_eq_some_iff.1 h
    have hxs:xs.map (·.1)=zs.map fun z=>(DataW.lit (.string z):DataW H):=by
     have:=congrArg Prod.fst hx
     simpa using this
    have hxl:xs.length=n:=by simpa using Lib.mapM_length hm
    have hzl:zs.length=n:=by
     have:=congrArg List.length hxs
     simp at this
     omega
    apply List.ext_getElem?
    intro i
    by_cases hi:i<n
    . obtain ⟨b,hb,hf⟩:=Lib.mapM_at hm i i (by simp [hi])
      obtain ⟨s,hc,rfl,_⟩:=DataW.trod_string he hf
      have h1:cs[i]? = some (.string s):=by
       have:=congrArg (·[0]?) hc
       simpa [List.getElem?_take,List.getElem?_drop] using this
      have h2:(xs.map (·.1))[i]? = some (DataW.lit (.string s.data.toList):DataW H):=by simp [hb]
      rw [hxs] at h2
      simp only [List.getElem?_map,Option.map_eq_some_iff,DataW.lit.injEq,Lit.string.injEq] at h2
      obtain ⟨z',hz',rfl⟩:=h2
      simp [h1,hz']
    . rw [List.getElem?_eq_none (by omega),List.getElem?_eq_none (by simp;omega)]
  . cases h
end
theorem gWrd:Tryz.prog.globalNamed "loop.example/s0011/impl.operatorWords" = some 3:=by kernel_rfl
theorem gWrdType:(Tryz.prog.globals[3]?).map (·.type)=some 294:=by kernel_rfl
theorem cellsWrd:Tryz.prog.cellsOf 294=26:=by kernel_rfl
theorem wrd_eq:(Rows.laid_loop_example_s0011_impl_operatorWords:DataW Unit)=.agg ((wrdT.map (·.data.toList)).map fun z=>.lit (.string z)):=by rfl
theorem q77 {W:World} {rest:List (String × DataW Unit)} (h:laidMet Tryz.prog (("loop.example/s0011/impl.operatorWords",Rows.laid_loop_example_s0011_impl_operatorWords) :: rest) W):Wrds W:=by
 rw [wrd_eq] at h
 obtain ⟨ps,⟨g',t',cs,fuel,p,q,hg',ht',hvar,hd,_,_⟩,_⟩:=h
 obtain rfl:=Option.some.inj (gWrd.symm.trans hg')
 obtain rfl:=Option.some.inj (gWrdType.symm.trans ht')
 have hc:=q2c Tryz.underlying294 Tryz.underlying9 cellsStr cellsWrd hd
 have hcell:∀ k,k<26->W.cell? ⟨3,k,none⟩=some (.string (wrdT.getD k ⟨#[]⟩)):=fun k hk=>by
  have:=World.var?_cell gWrd hvar k
  rw [this]
  have e:cs[k]? = cs.toList[k]?:=by simp
  rw [e,hc]
  have hl:wrdT.length=26:=rfl
  simp only [List.map_map,List.getElem?_map]
  rw [List.getElem?_eq_getElem (by omega)]
  simp [List.getD,List.getElem?_eq_getElem (show k<wrdT.length by omega)]
 refine ⟨?_,hcell⟩
 apply Nat.lt_of_not_le
 intro h0
 have hz:=hcell 0 (by omega)
 have e:W.heap[(3:Nat)]? = none:=Array.getElem?_eq_none h0
 simp [World.cell?,e] at hz
def laidS (zs:List ByteArray):Obj->Obj:=fun
 | .cells _ t frozen=>.cells (zs.map Value.string).toArray t frozen
 | o=>o
section
variable {H:Type} {enc:TypeId × Value->H} {P:Program} {w:World} {base:Nat} {held:Bool}
theorem qf0 {X:Type} {Q:List Value->X->Prop} (z:X) {t e:TypeId} {n c:Nat} {v:Value} {y:DataW H × List MemPlace} (ht:P.underlying t=some (.slice e)) (hc:P.cellsOf e=c) (h1c:1<=c) (h:DataW.trod enc P w base (fun _=>true) held n t [v]=some y) (hlt:∀ x ∈ y.2,x.block<w.heap.size)
 (each:∀ (cs:List Value) (k:Nat) (q:DataW H × List MemPlace),cs.length=c->DataW.trod enc P w base (fun _=>true) held k e cs=some q->(∀ x ∈ q.2,x.block<w.heap.size)->∃ u,Q cs u) :
 ∃ (a:Option Addr) (l:List X) (cap:Nat),v=.slice a l.length cap/\l.length<=9223372036854775807/\l.length<=cap/\∀ i (hi:i<l.length),∃ b o cs,a=some ⟨b,o,none⟩/\b<w.heap.size/\cs.length=c/\(∀ j,j<c->w.cell? ⟨b,o+i*c+j,none⟩=cs[j]?)/\Q cs l[i]:=by
 rcases Deep.open_slice ht h with ⟨h0,-⟩ | ⟨a,len,cap,m,k,D,Pl,h0,-,hl,hm,hmm,rfl,hx⟩
 . exact ⟨none,[],0,by simpa using h0,nZ _,nR _,fun i hi=>absurd hi (nL _)⟩
 . simp only [if_true] at hmm
   subst hmm
   have ea:∀ i,i<m->∃ p:List Value × X,p.1.length=c/\(∀ j,j<c->w.cell? (a.add (i*c+j))=p.1[j]?)/\Q p.1 p.2:=by
    intro i hi
    obtain ⟨cs',g1,g2⟩:=hx i hi
    rw [hc] at g1
    obtain ⟨_,hlen,hcell⟩:=World.cells?_some g1
    obtain ⟨u,hu⟩:=each cs' k (D i,Pl i) hlen g2 (fun x hx'=>hlt x (List.mem_append_right _ (List.mem_flatMap.2 ⟨i,List.mem_range.2 hi,hx'⟩)))
    refine ⟨(cs',u),hlen,fun j hj=>?_,hu⟩
    have:=hcell j hj
    rw [Deep.add_add] at this
    exact this
   obtain ⟨U,hU⟩:∃ U:Nat->List Value × X,∀ i,i<m->(U i).1.length=c/\(∀ j,j<c->w.cell? (a.add (i*c+j))=(U i).1[j]?)/\Q (U i).1 (U i).2:=by
    classical
    exact ⟨fun i=>if h:i<m then (ea i h).choose else ([],z),fun i hi=>by simp only [dif_pos hi];exact (ea i hi).choose_spec⟩
   have hlen:((List.range len).map fun i=>(U i).2).length=len:=by simp
   refine ⟨some a,(List.range len).map fun i=>(U i).2,m,by rw [hlen];simpa using h0,by rw [hlen];have:maxLen=9223372036854775807:=rfl;omega,by rw [hlen];exact hl,fun i hi=>?_⟩
   rw [hlen] at hi
   obtain ⟨x0,x1,x2⟩:=hU i (by omega)
   obtain ⟨b,off,spot⟩:=a
   have hs:spot=none:=by
    obtain ⟨g0,g1,-⟩:=hU 0 (by omega)
    have g2:=g1 0 (by omega)
    rw [List.getElem?_eq_getElem (by omega)] at g2
    simpa [Addr.add] using World.cell?_spot g2
   subst hs
   refine ⟨b,off,(U i).1,rfl,hlt (.cell b (off+i*c)) ?_,x0,fun j hj=>?_,?_⟩
   . rw [hc]
     refine List.mem_append_left _ (MemPlace.mem_row.2 ⟨i*c,?_,by simp⟩)
     have:i*c+c<=m*c:=by rw [<- Nat.succ_mul];exact Nat.mul_le_mul_right c (by omega)
     omega
   . have:=x1 j hj
     rw [qai,<- Nat.add_assoc] at this
     exact this
   . simpa using x2
theorem qf1 {t e:TypeId} {n:Nat} {v:Value} {y:DataW H × List MemPlace} (ht:P.underlying t=some (.slice e)) (he:P.underlying e=some .string) (hc:P.cellsOf e=1) (h:DataW.trod enc P w base (fun _=>true) held n t [v]=some y) (hlt:∀ x ∈ y.2,x.block<w.heap.size) :
 ∃ a l cap,v=.slice a l.length cap/\l.length<=9223372036854775807/\Strs w a l/\∀ x,x ∈ l->x.size<=9223372036854775807:=by
 obtain ⟨a,l,cap,h1,h2,-,h3⟩:=qf0 (Q:=fun cs x=>cs=[.string x]/\x.size<=9223372036854775807) (⟨#[]⟩:ByteArray) ht hc (nR _) h hlt (fun cs k q hl hq _=>by
  match cs,hl with
  | [v0],_=>obtain ⟨s,rfl,hs⟩:=qiw he hq;exact ⟨s,rfl,hs⟩)
 refine ⟨a,l,cap,h1,h2,fun k hk=>?_,fun x hx=>?_⟩
 . obtain ⟨b,o,cs,rfl,hb,-,hcell,rfl,-⟩:=h3 k hk
   have:=hcell 0 (by omega)
   exact ⟨b,o,rfl,hb,by simpa using this⟩
 . obtain ⟨k,hk,rfl⟩:=List.mem_iff_getElem.1 hx
   obtain ⟨b,o,cs,-,-,-,-,-,hs⟩:=h3 k hk
   exact hs
theorem qey {t e:TypeId} {n:Nat} {v:Value} {y:DataW H × List MemPlace} (ht:P.underlying t=some (.slice e)) (he:P.underlying e=some (.int .i64)) (hc:P.cellsOf e=1) (h:DataW.trod enc P w base (fun _=>true) held n t [v]=some y) (hlt:∀ x ∈ y.2,x.block<w.heap.size) :
 ∃ a l cap,v=.slice a l.length cap/\l.length<=9223372036854775807/\IntL w a l:=by
 obtain ⟨a,l,cap,h1,h2,-,h3⟩:=qf0 (Q:=fun cs x=>cs=[.int .i64 x]) (0:Int) ht hc (nR _) h hlt (fun cs k q hl hq _=>by
  match cs,hl with
  | [v0],_=>obtain ⟨s,rfl,-,-⟩:=qit he hq;exact ⟨s,rfl⟩)
 refine ⟨a,l,cap,h1,h2,fun k hk=>?_⟩
 obtain ⟨b,o,cs,rfl,hb,-,hcell,rfl⟩:=h3 k hk
 have:=hcell 0 (by omega)
 refine ⟨b,o,rfl,hb,?_⟩
 dsimp only
 rw [List.getD_eq_getElem?_getD,List.getElem?_eq_getElem hk]
 simpa using this
theorem qiu {t e:TypeId} {f0 f1:Field} {n:Nat} {v:Value} {y:DataW H × List MemPlace} (ht:P.underlying t=some (.slice e)) (he:P.underlying e=some (.struct #[f0,f1])) (hc:P.cellsOf e=2) (o0:f0.offset=0) (o1:f1.offset=1) (i0:P.underlying f0.type=some (.int .i64)) (i1:P.underlying f1.type=some (.int .i64)) (c0:P.cellsOf f0.type=1) (c1:P.cellsOf f1.type=1)
 (h:DataW.trod enc P w base (fun _=>true) held n t [v]=some y) (hlt:∀ x ∈ y.2,x.block<w.heap.size):∃ a l cap,v=.slice a l.length cap/\l.length<=9223372036854775807/\Prs w a l:=by
 obtain ⟨a,l,cap,h1,h2,-,h3⟩:=qf0 (Q:=fun cs (x:Int × Int)=>cs=[.int .i64 x.1,.int .i64 x.2]) (0,0) ht hc (by omega) h hlt (fun cs k q hl hq _=>by
  obtain ⟨y0,y1,n',rfl,-,g0,g1⟩:=trod_struct2 he hq
  match cs,hl with
  | [v0,v1],_ =>
   rw [o0,c0] at g0
   rw [o1,c1] at g1
   obtain ⟨s0,rfl,-,-⟩:=qit i0 (by simpa using g0)
   obtain ⟨s1,rfl,-,-⟩:=qit i1 (by simpa using g1)
   exact ⟨(s0,s1),rfl⟩)
 refine ⟨a,l,cap,h1,h2,fun k hk=>?_⟩
 obtain ⟨b,o,cs,rfl,hb,-,hcell,rfl⟩:=h3 k hk
 have q0:=hcell 0 (by omega)
 have q1:=hcell 1 (by omega)
 exact ⟨b,o,rfl,hb,q0,q1⟩
theorem qiv {t e:TypeId} {f0 f1:Field} {n:Nat} {v:Value} {y:DataW H × List MemPlace} (ht:P.underlying t=some (.slice e)) (he:P.underlying e=some (.struct #[f0,f1])) (hc:P.cellsOf e=2) (o0:f0.offset=0) (o1:f1.offset=1) (i0:P.underlying f0.type=some .string) (i1:P.underlying f1.type=some (.int .i64)) (c0:P.cellsOf f0.type=1) (c1:P.cellsOf f1.type=1)
 (h:DataW.trod enc P w base (fun _=>true) held n t [v]=some y) (hlt:∀ x ∈ y.2,x.block<w.heap.size):∃ a l cap,v=.slice a l.length cap/\l.length<=9223372036854775807/\Rls w a l/\∀ x,x ∈ l->x.nm.size<=9223372036854775807:=by
 obtain ⟨a,l,cap,h1,h2,-,h3⟩:=qf0 (Q:=fun cs (x:Rl)=>cs=[.string x.nm,.int .i64 x.lb]/\x.nm.size<=9223372036854775807) noRl ht hc (by omega) h hlt (fun cs k q hl hq _=>by
  obtain ⟨y0,y1,n',rfl,-,g0,g1⟩:=trod_struct2 he hq
  match cs,hl with
  | [v0,v1],_ =>
   rw [o0,c0] at g0
   rw [o1,c1] at g1
   obtain ⟨s0,rfl,hs⟩:=qiw i0 (by simpa using g0)
   obtain ⟨s1,rfl,-,-⟩:=qit i1 (by simpa using g1)
   exact ⟨⟨s0,s1⟩,rfl,hs⟩)
 refine ⟨a,l,cap,h1,h2,fun k hk=>?_,fun x hx=>?_⟩
 . obtain ⟨b,o,cs,rfl,hb,-,hcell,rfl,-⟩:=h3 k hk
   have q0:=hcell 0 (by omega)
   have q1:=hcell 1 (by omega)
   exact ⟨b,o,rfl,hb,q0,q1⟩
 . obtain ⟨k,hk,rfl⟩:=List.mem_iff_getElem.1 hx
   obtain ⟨b,o,cs,-,-,-,-,-,hs⟩:=h3 k hk
   exact hs
theorem qk7 {a:Option Addr} {m:Nat} {f:Nat->Nx} (h:Nods w a m f):∃ l:List Nx,l.length=m/\NodL w a l/\∀ k,k<m->nf l k=f k:=by
 have hl:((List.range m).map f).length=m:=by simp
 have hn:∀ k,k<m->nf ((List.range m).map f) k=f k:=fun k hk=>by rw [nf_get _ k (by rw [hl];exact hk)];simp
 refine ⟨(List.range m).map f,hl,?_,hn⟩
 unfold NodL
 rw [hl]
 intro k hk
 obtain ⟨b,o,e,hc⟩:=h k hk
 exact ⟨b,o,e,by rw [hn k hk];exact hc⟩
end
theorem cellsForm:Tryz.prog.cellsOf 27=4:=by kernel_rfl
theorem cellsField:Tryz.prog.cellsOf 102=9:=by kernel_rfl
theorem cellsPairL:Tryz.prog.cellsOf 118=2:=by kernel_rfl
theorem cellsRoleL:Tryz.prog.cellsOf 97=2:=by kernel_rfl
def noFA:FA:=⟨none,0,none,0,none,0,none,0,none,0⟩
def noFl:Fl:=⟨⟨#[]⟩,0,0,[],[],[],[],⟨#[]⟩,[]⟩
section
variable {H:Type} {enc:TypeId × Value->H} {w:World} {base:Nat} {held:Bool}
theorem qez {n:Nat} {v:Value} {y:DataW H × List MemPlace} (h:DataW.trod enc Tryz.prog w base (fun _=>true) held n 100 [v]=some y) (hlt:∀ x ∈ y.2,x.block<w.heap.size) :
 ∃ a l cap,v=.slice a l.length cap/\l.length<=9223372036854775807/\NodL w a l/\∀ k,k<l.length->Fit (nf l k):=by
 obtain ⟨a,m,c,f,e4,l4,k4,s4⟩:=qbs Tryz.underlying100 Tryz.underlying187 cellsNode rfl rfl rfl Tryz.underlying56 cellsVal rfl rfl rfl Tryz.underlying3 Tryz.underlying9 cellsInt0 cellsStr Tryz.underlying3 Tryz.underlying2 Tryz.underlying9 cellsInt0 cellsI640 cellsStr h hlt
 obtain ⟨l,hl,hN,hf⟩:=qk7 k4
 exact ⟨a,l,c,by rw [hl];exact e4,by rw [hl];exact l4,hN,fun k hk=>by rw [hl] at hk;rw [hf k hk];exact s4 k hk⟩
theorem qex {n:Nat} {v:Value} {y:DataW H × List MemPlace} (h:DataW.trod enc Tryz.prog w base (fun _=>true) held n 25 [v]=some y) (hlt:∀ x ∈ y.2,x.block<w.heap.size) :
 ∃ a l AF cap,v=.slice a l.length cap/\l.length<=9223372036854775807/\Flds w a l AF/\∀ x,x ∈ l->FitF x:=by
 obtain ⟨a,l,cap,h1,h2,-,h3⟩:=qf0 (Q:=fun cs (u:Fl × FA)=>cs=fCs u.1 u.2/\FSl w u.1 u.2/\FitF u.1) (noFl,noFA) Tryz.underlying25 cellsField (by omega) h hlt (fun cs k q hl hq hp=>by
  obtain ⟨xs,k',hk,rfl,_,hxl,hf⟩:=DataW.trod_struct Tryz.underlying102 hq
  match xs,hxl,cs,hl with
  | [y0,y1,y2,y3,y4,y5,y6,y7,y8],_,[v0,v1,v2,v3,v4,v5,v6,v7,v8],_ =>
   have g0:=hf 0 _ rfl
   have g1:=hf 1 _ rfl
   have g2:=hf 2 _ rfl
   have g3:=hf 3 _ rfl
   have g4:=hf 4 _ rfl
   have g5:=hf 5 _ rfl
   have g6:=hf 6 _ rfl
   have g7:=hf 7 _ rfl
   have g8:=hf 8 _ rfl
   have cI:Tryz.prog.cellsOf 99=1:=by kernel_rfl
   have cN:Tryz.prog.cellsOf 100=1:=by kernel_rfl
   simp [cellsStr,cellsInt0,cI,cN] at g0 g1 g2 g3 g4 g5 g6 g7 g8
   obtain ⟨nm,rfl,hnm⟩:=qiw Tryz.underlying9 g0
   obtain ⟨ty,rfl,-,-⟩:=qit Tryz.underlying3 g1
   obtain ⟨lb,rfl,-,-⟩:=qit Tryz.underlying3 g2
   obtain ⟨ab,bys,abc,rfl,lb3,kb3⟩:=qey Tryz.underlying99 Tryz.underlying3 cellsInt0 g3 (fun x hx=>hp x (by simp [hx]))
   obtain ⟨ai,is',aic,rfl,li,ki,fi⟩:=qez g4 (fun x hx=>hp x (by simp [hx]))
   obtain ⟨ah,wh,ahc,rfl,lh,kh,fh⟩:=qez g5 (fun x hx=>hp x (by simp [hx]))
   obtain ⟨av,va,avc,rfl,lv,kv,fv⟩:=qez g6 (fun x hx=>hp x (by simp [hx]))
   obtain ⟨sy,rfl,hsy⟩:=qiw Tryz.underlying9 g7
   obtain ⟨au,mu,auc,rfl,lu,ku,fu⟩:=qez g8 (fun x hx=>hp x (by simp [hx]))
   exact ⟨(⟨nm,ty,lb,bys,is',wh,va,sy,mu⟩,⟨ab,abc,ai,aic,ah,ahc,av,avc,au,auc⟩),rfl,⟨kb3,ki,kh,kv,ku⟩,⟨hnm,hsy,lb3,li,lh,lv,lu,fi,fh,fv,fu⟩⟩)
 have hml:(l.map (·.1)).length=l.length:=by simp
 refine ⟨a,l.map (·.1),fun k=>(l.getD k (noFl,noFA)).2,cap,by rw [hml];exact h1,by rw [hml];exact h2,fun k hk=>?_,fun x hx=>?_⟩
 . rw [hml] at hk
   obtain ⟨b,o,cs,rfl,hb,-,hcell,rfl,hs,-⟩:=h3 k hk
   have e2:(l.getD k (noFl,noFA)).2=l[k].2:=by rw [List.getD_eq_getElem?_getD,List.getElem?_eq_getElem hk];rfl
   have e1:(l.map (·.1))[k]'(by rw [hml];exact hk)=l[k].1:=by simp
   rw [e1]
   dsimp only
   rw [e2]
   exact ⟨b,o,rfl,⟨hb,hcell 0 (by omega),hcell 1 (by omega),hcell 2 (by omega),hcell 3 (by omega),hcell 4 (by omega),hcell 5 (by omega),hcell 6 (by omega),hcell 7 (by omega),hcell 8 (by omega)⟩,hs⟩
 . obtain ⟨u,hu,rfl⟩:=List.mem_map.1 hx
   obtain ⟨k,hk,rfl⟩:=List.mem_iff_getElem.1 hu
   obtain ⟨b,o,cs,-,-,-,-,-,-,hs⟩:=h3 k hk
   exact hs
end
def tyT:List ByteArray:=[⟨#[]⟩,⟨#[105,110,116]⟩,⟨#[98,111,111,108]⟩,⟨#[116,101,120,116]⟩]
theorem gTy:Tryz.prog.globalNamed "loop.example/s0011/impl.typeWords" = some 0:=by kernel_rfl
theorem gTyType:(Tryz.prog.globals[0]?).map (·.type)=some 264:=by kernel_rfl
theorem cellsTy:Tryz.prog.cellsOf 264=4:=by kernel_rfl
theorem ty_eq:(Rows.laid_loop_example_s0011_impl_typeWords:DataW Unit)=.agg ((tyT.map (·.data.toList)).map fun z=>.lit (.string z)):=by rfl
theorem qa8 {W:World} {rest:List (String × DataW Unit)} (h:laidMet Tryz.prog (("loop.example/s0011/impl.typeWords",Rows.laid_loop_example_s0011_impl_typeWords) :: rest) W):TyW W:=by
 rw [ty_eq] at h
 obtain ⟨ps,⟨g',t',cs,fuel,p,q,hg',ht',hvar,hd,_,_⟩,_⟩:=h
 obtain rfl:=Option.some.inj (gTy.symm.trans hg')
 obtain rfl:=Option.some.inj (gTyType.symm.trans ht')
 have hc:=q2c Tryz.underlying264 Tryz.underlying9 cellsStr cellsTy hd
 have hcell:∀ k,k<4->W.cell? ⟨0,k,none⟩=some (.string (tyT.getD k ⟨#[]⟩)):=fun k hk=>by
  have:=World.var?_cell gTy hvar k
  rw [this]
  have e:cs[k]? = cs.toList[k]?:=by simp
  rw [e,hc]
  have hl:tyT.length=4:=rfl
  simp only [List.map_map,List.getElem?_map]
  rw [List.getElem?_eq_getElem (by omega)]
  simp [List.getD,List.getElem?_eq_getElem (show k<tyT.length by omega)]
 refine ⟨?_,fun k h1 h3=>?_⟩
 . apply Nat.lt_of_not_le
   intro h0
   have hz:=hcell 0 (by omega)
   have e:W.heap[(0:Nat)]? = none:=Array.getElem?_eq_none h0
   simp [World.cell?,e] at hz
 . rw [hcell k (by omega)]
   obtain rfl | rfl | rfl:k=1 ∨ k=2 ∨ k=3:=by omega
   . rfl
   . rfl
   . rfl
theorem gTabL:Tryz.prog.globalNamed "math/bits.deBruijn32tab" = some 1:=by kernel_rfl
theorem gTabTypeL:(Tryz.prog.globals[1]?).map (·.type)=some 274:=by kernel_rfl
theorem cellsTabL:Tryz.prog.cellsOf 274=32:=by kernel_rfl
theorem cellsU8L:Tryz.prog.cellsOf 5=1:=by kernel_rfl
theorem qh7 {W:World} {rest:List (String × DataW Unit)} (h:laidMet Tryz.prog (("math/bits.deBruijn32tab",Rows.laid_math_bits_deBruijn32tab) :: rest) W):Tab W:=by
 have T:Lib.TabIs Tryz.prog W "math/bits.deBruijn32tab" .u8 (Lib.deBruijn32tab.map (fun n=>((n:Nat):Int))) :=
  Lib.tabIs_of_head (rest:=rest) gTabL gTabTypeL Tryz.underlying274 Tryz.underlying5 cellsU8L cellsTabL h
 have e:∀ j,j<32->(Lib.deBruijn32tab.map (fun n=>((n:Nat):Int))).getD j 0=((Lib.deBruijn32tab.getD j 0:Nat):Int):=by decide +kernel
 intro j hj
 rw [<- e j hj]
 exact T.cell gTabL j (by simpa [Lib.deBruijn32tab] using hj)
theorem cellsCellL:Tryz.prog.cellsOf 58=6:=by kernel_rfl
theorem cellsBoolN:Tryz.prog.cellsOf 4=1:=by kernel_rfl
section
variable {H:Type} {enc:TypeId × Value->H} {P:Program} {w:World} {base:Nat} {spare:Nat->Bool} {held:Bool}
theorem qev {t:TypeId} {n:Nat} {v:Value} {y:DataW H × List MemPlace} (ht:P.underlying t=some .bool) (h:DataW.trod enc P w base spare held n t [v]=some y):∃ x,v=.bool x:=by
 cases n with
 | zero=>simp [DataW.trod] at h
 | succ n =>
  simp only [DataW.trod,ht] at h
  cases v <;> simp_all
theorem qew {n:Nat} {v:Value} {y:DataW H × List MemPlace} (h:DataW.trod enc Tryz.prog w base (fun _=>true) held n 28 [v]=some y) (hlt:∀ x ∈ y.2,x.block<w.heap.size) :
 ∃ a L cap e,v=.slice a L cap/\L<=9223372036854775807/\Cels w a L e/\∀ k,k<L->FitC (e k):=by
 obtain ⟨a,l,cap,h1,h2,-,h3⟩:=qf0 (Q:=fun cs (u:Cx)=>cs=[.int .i64 u.v.k,.int .i64 u.v.n,.string u.v.s,.bool u.rel,.bool u.ok,.bool u.must]/\FitC u) zCx Tryz.underlying28 cellsCellL (by omega) h hlt (fun cs k q hl hq hp=>by
  obtain ⟨xs,k',hk,rfl,_,hxl,hf⟩:=DataW.trod_struct Tryz.underlying58 hq
  match xs,hxl,cs,hl with
  | [y0,y1,y2,y3],_,[v0,v1,v2,v3,v4,v5],_ =>
   have g0:=hf 0 _ rfl
   have g1:=hf 1 _ rfl
   have g2:=hf 2 _ rfl
   have g3:=hf 3 _ rfl
   simp [cellsVal,cellsBoolN] at g0 g1 g2 g3
   obtain ⟨xs',k'',hk',_,_,hxl',hf'⟩:=DataW.trod_struct Tryz.underlying56 g0
   match xs',hxl' with
   | [z0,z1,z2],_ =>
    have r0:=hf' 0 _ rfl
    have r1:=hf' 1 _ rfl
    have r2:=hf' 2 _ rfl
    simp [cellsInt0,cellsI640,cellsStr] at r0 r1 r2
    obtain ⟨kind,rfl,-,-⟩:=qit Tryz.underlying3 r0
    obtain ⟨num,rfl,n0,n1⟩:=qit Tryz.underlying2 r1
    obtain ⟨s,rfl,hs⟩:=qiw Tryz.underlying9 r2
    obtain ⟨rel,rfl⟩:=qev Tryz.underlying4 g1
    obtain ⟨ok,rfl⟩:=qev Tryz.underlying4 g2
    obtain ⟨must,rfl⟩:=qev Tryz.underlying4 g3
    exact ⟨⟨⟨kind,num,s⟩,rel,ok,must⟩,rfl,hs,n0,n1⟩)
 have hget:∀ k (hk:k<l.length),l.getD k zCx=l[k]:=fun k hk=>by rw [List.getD_eq_getElem?_getD,List.getElem?_eq_getElem hk];rfl
 refine ⟨a,l.length,cap,fun k=>l.getD k zCx,h1,h2,fun k hk=>?_,fun k hk=>?_⟩
 . obtain ⟨b,o,cs,rfl,hb,-,hcell,hq,-⟩:=h3 k hk
   dsimp only
   rw [hget k hk]
   subst hq
   exact ⟨b,o,rfl,hb,hcell 0 (by omega),hcell 1 (by omega),hcell 2 (by omega),hcell 3 (by omega),hcell 4 (by omega),hcell 5 (by omega)⟩
 . obtain ⟨b,o,cs,-,-,-,-,-,hq⟩:=h3 k hk
   dsimp only
   rw [hget k hk]
   exact hq
end
theorem q74 {H:Type} {enc:TypeId × Value->H} {P:Program} {w:World} {base:Nat} {spare:Nat->Bool} {held:Bool} {t t' t'':TypeId} {args:Array Value} {ds:List (DataW H)} {ps:List MemPlace} (h:DataW.TrodAll enc P w base spare held [t,t',t''] args.toList ds ps) :
 ∃ v v' v'' d d' d'' p p' p'',args=#[v,v',v'']/\ds=[d,d',d'']/\ps=p++(p'++p'')/\DataW.Trod enc P w base spare held t v d p/\DataW.Trod enc P w base spare held t' v' d' p'/\DataW.Trod enc P w base spare held t'' v'' d'' p'':=by
 obtain ⟨v,v',v'',d,d',d'',p,p',p'',e1,e2,e3,h1,h2,h3⟩:=trodAll_three h
 exact ⟨v,v',v'',d,d',d'',p,p',p'',e1,e2,e3.trans (List.append_assoc _ _ _),h1,h2,h3⟩
theorem contractVw (H:Type) (enc:TypeId × Value->H) (W:World) (base:Nat) (args:Array Value) (ds gs:List (DataW H)) (before:List MemPlace)
 (hval:∀ (j:Nat) t v,Tryz.f3.params[j]? = some t->args[j]? = some v->Value.okWide Tryz.prog W .any base t v)
 (hW:DataW.Whole enc Tryz.prog Tryz.f3.params.toList Rows.fnExactViewSpec.vars false W args.toList ds gs before) (ht:Tabs W) (hy:TyW W) (htb:Tab W) :
 Calls Tryz.prog 3 args W fun e W'=>∃ v,e=.returned v/\Rows.fnExactViewSpec.post enc Tryz.prog Tryz.f3 false true false false W args v W':=by
 have hW':=hW
 obtain ⟨p,q,hA0,hV,rfl,hfz,hnd⟩:=hW
 have hA:DataW.TrodAll enc Tryz.prog W 0 (fun _=>true) true Tryz.f3.params.toList args.toList ds p:=hA0
 rw [Tryz.params3] at hA hval
 obtain ⟨v0,v1,v2,d0,e1,e2,p,px1,px2,rfl,rfl,rfl,h0,hs1,hs2⟩:=q74 hA
 obtain ⟨g0,t0',cs0,f0,d1,p1,g1,t1',cs1,f1,d2,p2,rfl,-,-,-,-,-,-,-,-,-⟩:=trodVars_two hV
 have h0k:=h0
 clear hA0
 have hlt0:∀ x ∈ p++(px1++px2),x.block<W.heap.size:=fun x hx=>by simpa using hW'.lt x (List.mem_append_left _ hx)
 have hlt:∀ x ∈ p,x.block<W.heap.size:=fun x hx=>hlt0 x (by simp [hx])
 have hlt1:∀ x ∈ px1,x.block<W.heap.size:=fun x hx=>hlt0 x (by simp [hx])
 have hr1:∀ (W':World),Below W.heap.size W W'->DataW.Trod enc Tryz.prog W' 0 (fun b=>decide (b<W.heap.size)) true 28 v1 e1 px1:=fun W' hn=>Below.trod laidOutV (by kernel_rfl) (of_decide_eq_true (by kernel_rfl)) hs1 hn hlt1
 have hr2:∀ (W':World),Below W.heap.size W W'->DataW.Trod enc Tryz.prog W' 0 (fun b=>decide (b<W.heap.size)) true 3 v2 e2 px2:=fun W' hn=>Below.trod laidOutV (by kernel_rfl) (of_decide_eq_true (by kernel_rfl)) hs2 hn (fun x hx=>hlt0 x (by simp [hx]))
 have hargs:∀ (W':World),Below W.heap.size W W'->DataW.Trod enc Tryz.prog W' 0 (fun b=>decide (b<W.heap.size)) true 27 v0 d0 p :=
  fun W' hn=>Below.trod laidOutV (by kernel_rfl) (of_decide_eq_true (by kernel_rfl)) h0k hn hlt
 obtain ⟨u0,u1,u2,u3,y0,y1,y2,y3,n,rfl,rfl,rfl,t0,t1,t2,t3⟩:=Go.Joins.open_agg4 Tryz.underlying27 (by kernel_rfl) cellsForm (hval 0 27 v0 rfl rfl) h0
 obtain ⟨al,ll,alc,rfl,hl1,hl2,hl3⟩:=qf1 Tryz.underlying22 Tryz.underlying9 cellsStr t0 (fun x hx=>hlt x (by simp [hx]))
 obtain ⟨ap,lp,apc,rfl,hp1,hp2⟩:=qiu Tryz.underlying23 Tryz.underlying118 cellsPairL rfl rfl Tryz.underlying3 Tryz.underlying3 cellsInt0 cellsInt0 t1 (fun x hx=>hlt x (by simp [hx]))
 obtain ⟨ar,lr,arc,rfl,hrr1,hrr2,hrr3⟩:=qiv Tryz.underlying24 Tryz.underlying97 cellsRoleL rfl rfl Tryz.underlying9 Tryz.underlying3 cellsStr cellsInt0 t2 (fun x hx=>hlt x (by simp [hx]))
 obtain ⟨af,lf,AF,afc,rfl,hf1,hf2,hf3⟩:=qex t3 (fun x hx=>hlt x (by simp [hx]))
 obtain ⟨qa,qL,qc,rfl⟩:=okWide_slice Tryz.underlying28 (hval 1 28 v1 rfl rfl)
 obtain ⟨nc,hsx⟩:=hs1
 obtain ⟨ca,cL,ccap,ce,hce,hcl1,hcl2,hcl3⟩:=qew (v:=.slice qa qL qc) (y:=(e1,px1)) hsx hlt1
 obtain ⟨rfl,rfl,rfl⟩:qa=ca/\qL=cL/\qc=ccap:=by simpa using hce
 obtain ⟨rz,rfl⟩:=okWide_int Tryz.underlying3 (hval 2 3 v2 rfl rfl)
 refine (q5x ⟨ll,lp,lr,lf⟩ ⟨al,alc,ap,apc,ar,arc,af,afc,AF⟩ qL qc qa ce rz W ⟨hl1,hp1,hrr1,hf1,hl3,hrr3,hf3⟩ hcl1 hcl3 ⟨hl2,hp2,hrr2,hf2⟩ hcl2 ht hy htb).mono fun e W' ⟨he,hn⟩=>?_
 subst he
 exact ⟨_,rfl,⟨_,_,_,[],_,_,hW',trodAll_mk1 (shut_bool Tryz.underlying4 _),trodAll_cons_mk (hargs _ hn) (trodAll_mk2 (hr1 _ hn) (hr2 _ hn)),Below.trodVars laidOutV hn (by kernel_rfl) hV,hn.frame _,fun h=>by cases h⟩⟩
theorem witnessVw (os:Os) {H:Type} (enc:TypeId × Value->H) (w0:World) (e:w0 = { World.holding Tryz.prog os ⟨#[],#[],[]⟩ with heap:=(((((World.holding Tryz.prog os ⟨#[],#[],[]⟩).heap.modify 1 (laidT .u8 (Lib.deBruijn32tab.map (fun n=>((n:Nat):Int))))).modify 5 (laidT .u8 (Lib.deBruijn64tab.map (fun n=>((n:Nat):Int))))).modify 4 (laidT .u64 Lib.pow10Tab)).modify 3 (laidS wrdT)).modify 0 (laidS tyT) }) :
 ∃ (w:World) (tape:Tape) (i:Input),w.os=os/\(w.forCall tape i).Shaped Tryz.checked.prog/\i.vars=[]/\Input.okWide Tryz.checked.prog (w.forCall tape i) .any w.heap.size 3 i /\
  (OpenSpec.ofChange Rows.fnExactViewSpec).preRow enc Tryz.checked.prog Tryz.f3 Rows.fnExactViewRow.domain false Rows.fnExactViewRow.laid (w.forCall tape i).memory i.args/\({ modest:=false }:Assume).holds Tryz.checked.prog (lone (Frame.enter Tryz.checked.prog 3 i.args .normal) [] (w.forCall tape i)):=by
 exact witness_row_at (enc:=enc) (C:=Tryz.checked) false w0 #[.agg #[.slice none 0 0,.slice none 0 0,.slice none 0 0,.slice none 0 0],.slice none 0 0,.int .i64 0] (by subst e;rfl) (by subst e;kernel_rfl) (by subst e;kernel_rfl) (by subst e;kernel_rfl)
  (OpenSpec.preRow_of_cond (x:=([.agg [.nil,.nil,.nil,.nil],.nil,.lit (.int .i64 0)],[Rows.laid_loop_example_s0011_impl_operatorWords,Rows.laid_loop_example_s0011_impl_typeWords],MemPlace.row ⟨3,0,none⟩ 26++MemPlace.row ⟨0,0,none⟩ 4)) 8 (by subst e;kernel_rfl) (by subst e;kernel_rfl) (fun k hk=>by cases hk) (by subst e;kernel_rfl) (laidMet_of_run' 8 (by subst e;kernel_rfl) (by subst e;kernel_rfl)))
theorem liftedVw (os:Os) (started:os.Started) (H:Type) (enc:TypeId × Value->H) (F:Stop.Interp) :
 ReturnsInHanded {} Tryz.checked os 3 .any ((OpenSpec.ofChange Rows.fnExactViewSpec).preRow enc Tryz.prog Tryz.f3 Rows.fnExactViewRow.domain false Rows.fnExactViewRow.laid) (((OpenSpec.ofChange Rows.fnExactViewSpec).at F).post enc Tryz.prog Tryz.f3 false true false false):=by
 refine returnsInHanded_of_row (C:=Tryz.checked) (s:=OpenSpec.ofChange Rows.fnExactViewSpec) knobsV started (by kernel_rfl) Tryz.func3 (witnessVw os enc _ rfl) ?_
 intro W base args ds gs before hval hW _ _ _ hL _ _
 exact contractVw H enc W base args ds gs before hval hW ⟨q77 hL.tail.tail.tail,pow_of hL⟩ (qa8 hL.tail.tail.tail.tail) (qh7 hL)
theorem saidVw:Rows.FnExactViewSaid :=
 OpenClaim.holds_of_cond 3 Tryz.f3 rfl rfl rfl rfl rfl rfl rfl ⟨rfl,rfl,rfl,rfl,rfl⟩ rfl rfl rfl rfl rfl (by kernel_rfl) Tryz.func3 (by kernel_rfl)
  (of_decide_eq_true (by kernel_rfl)) (by unfold Func.isWrapper;first | (rw [if_pos (by decide +kernel)];kernel_rfl) | (rw [if_neg (by decide +kernel)];exact ⟨rfl,rfl⟩))
  (fun os started H enc _ F=>by rw [OpenClaim.pre_eq_preRow];exact liftedVw os started H enc F)
theorem plainVw (f:FuncId) (fn:Func) (hf:Tryz.pinned.checked.prog.funcNamed "loop.example/s0011/laws.FnExactView" = some f) (hfn:Tryz.pinned.checked.prog.funcs[f]? = some fn) :
 Rows.fnExactViewCard.stood.looks=Tryz.pinned.checked.prog.looks []/\∀ (j:Nat) t,fn.params[j]? = some t->Tryz.pinned.checked.prog.wantsStandIn t=false:=by
 obtain rfl:f=3:=Option.some.inj ((show Tryz.prog.funcNamed "loop.example/s0011/laws.FnExactView" = some 3 by kernel_rfl).symm.trans hf) |>.symm
 obtain rfl:fn=Tryz.f3:=(Option.some.inj (Tryz.func3.symm.trans hfn)).symm
 refine ⟨by kernel_rfl,fun j t ht=>?_⟩
 rw [Tryz.params3] at ht
 have hm:=Array.mem_of_getElem? ht
 simp only [List.mem_toArray,List.mem_cons,List.not_mem_nil,or_false] at hm
 rcases hm with rfl | rfl | rfl
 . exact (show Tryz.prog.wantsStandIn 27=false by kernel_rfl)
 . exact (show Tryz.prog.wantsStandIn 28=false by kernel_rfl)
 . exact (show Tryz.prog.wantsStandIn 3=false by kernel_rfl)
theorem cardVw:Rows.FnExactViewCardSaid :=
 Claim7.holds_tied_plain_at .later [] _ _ _ _ saidVw (fun _ h=>by cases h) (by kernel_rfl) (fun _ h=>by cases h) fnExactView_row_tie rfl ⟨rfl,rfl⟩ (by kernel_rfl) rfl plainVw (by kernel_rfl)
end Go.Proofs.YtnhjjaminkhiiaaGreatDoor
