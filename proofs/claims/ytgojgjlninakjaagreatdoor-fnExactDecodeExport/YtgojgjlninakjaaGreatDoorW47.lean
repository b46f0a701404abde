import Derived.Test.YtgojgjlninakjaaGreatDoorW45
set_option maxRecDepth 100000
set_option maxHeartbeats 64000000
namespace Go.Proofs.YtgojgjlninakjaaGreatDoor
open Go Go.RowKit
theorem q9h (m:Fm)(A:MA)(line:ByteArray)(i:Nat)(w:World)(hv:VfA m)(hi:i<=4000)(hz:line.size<=1048576)(ha:MSl w m A) :
 Calls Tryz.prog 19 #[mV m A,.string line,J6 i] w fun x w'=>UnO m (sb line) i w x w':=by
 have HV:=h_ hv
 have hnf:=hv.nf;have hnr:=hv.nr
 have hi':(i:Int)<=4000:=by omega
 have hds:=qd0 (i:Int) (by omega) (by omega)
 have HD:=h_ fun W=>q2j (i:Int) W (by omega) (by omega)
 have HCe:=h_ fun (x:Ex) W (h0:x.v.s.size<=9223372036854775807) (h:MSl W m A)=>q6j m A x W h0 h
 obtain⟨d,hd⟩:∃d:ByteArray,⟨(Lib.itoa i).toArray⟩=d:=⟨_,rfl⟩
 have HDe:Hi (sb d=Lib.itoa (i:Int)):=h_ (by rw[<- hd,sb_mk])
 rw[hd]at hds HD
 clear hd
 obtain⟨al,alc,ap,apc,ar,arc,af,afc,afa⟩:=A
 unfold mV at HCe⊢
 unfold ev at HCe
 dsimp only at HCe⊢
 have HK:=h_ ((Blk.new w 36 (Jb al m alc ap apc ar arc af afc)).alloc (.cells Je 52))
 have HE:=h_ (Blk.new (w.alloc (.cells (Jb al m alc ap apc ar arc af afc) 36)) 52 Je)
 rw[Yk]at HE
 have HB:=h_ (((bR w.heap.size w).alloc (nR _) (.cells (Jb al m alc ap apc ar arc af afc) 36)).alloc (by simp) (.cells Je 52))
 obtain⟨W0,hW0⟩:=Nq ((w.alloc (.cells (Jb al m alc ap apc ar arc af afc) 36)).alloc (.cells Je 52))
 rw[hW0]at HK HE HB
 have HS:=h_ (ha.mono HB.u)
 clear ha hi hv
 go_enter Tryz.func19,Tryz.ntmps19
 go_wp2_with fail
 try rw[hW0]
 clear hW0
 go_loopw [8] (fun r wr=>∃rn:Nat,rn<=m.R.length/\r=J6 rn/\(∀x,EntV m x->x.r.toNat<rn->bdB m x i≠sb line)/\Below W0.heap.size W0 wr) (fun r _=>m.R.length - (intOf r).toNat)
 case atStart=>exact⟨0,nZ _,rfl,fun _ _ h=>absurd h (nL _),bR _ _⟩
 case round =>
  obtain⟨rn,hrn,rfl,hall,hb⟩:=hrel;have HA1:=h_ hall;have HBo:=h_ hb;have HKo:=mB HK hb;have HEo:=mB HE hb;clear hall hb;obtain⟨y0,y1,y2,y3⟩:=quad HKo.u;by_cases hlt:rn<m.R.length
  . have hlt':=i_lt hlt
    go_wp2_with fail;clear y0 y1 y2 y3 HKo HEo;go_loopw [9] (fun k w3=>∃kn:Nat,kn<=m.F.length/\k=J6 kn/\(∀x,EntV m x->x.r.toNat=rn->x.f.toNat<kn->bdB m x i≠sb line)/\Below W0.heap.size W0 w3) (fun k _=>m.F.length - (intOf k).toNat)
    case atStart=>exact⟨0,nZ _,rfl,fun _ _ _ h=>absurd h (nL _),HBo.u⟩
    case round =>
     obtain⟨kn,hkn,rfl,hal2,hb⟩:=hrel;have HA2:=h_ hal2;have HK1:=mB HK hb;have HE1:=mB HE hb;have HS1:=h_ (HS.u.mono hb);have HB1:=mT HB hb;have HB0:=h_ hb;clear hal2 hb;by_cases hlk:kn<m.F.length
     . have hlk':=i_lt hlk
       have HN2:Hi ((∀x,EntV m x->x.r.toNat=rn->x.f.toNat=kn->bdB m x i≠sb line)->∀x,EntV m x->x.r.toNat=rn->x.f.toNat<kn+1->bdB m x i≠sb line):=h_ fun h x hx h1 h2=>by
        by_cases e:x.f.toNat=kn
        . exact h x hx h1 e
        . exact HA2.u x hx h1 (by omega)
       obtain⟨rb,ro,er,hrb,zr,-⟩:=HS1.u.r rn hlt;obtain⟨fb,fo,ef,hfc,-⟩:=HS1.u.f kn hlk;dsimp only at er ef;have zf:=hfc.2.1;have hfb:=hfc.1;have hz1:=qig HV.u hlt;have hz2:=qgc HV.u hlk;have HL:Hi (hdB m rn kn i=Lib.itoa (i:Int)++([32]++(sb (rnm m rn)++([32]++(sb (fAt m kn).nm++[32]))))):=h_ rfl;rw[<- qni hlt]at zr;rw[<- qku hlk]at zf;generalize rnm m rn=rs at *;generalize (fAt m kn).nm=fs at *;obtain⟨T1,e1,z1⟩:=@sum_to d ⟨#[32]⟩;obtain⟨T2,e2,z2⟩:=@sum_to T1 rs;obtain⟨T3,e3,z3⟩:=@sum_to T2 ⟨#[32]⟩;obtain⟨T4,e4,z4⟩:=@sum_to T3 fs;obtain⟨T5,e5,z5⟩:=@sum_to T4 ⟨#[32]⟩;have o1:(⟨#[32]⟩:ByteArray).size=1:=rfl;have HT5:Hi (sb T5=hdB m rn kn i):=h_ (by
        rw[HL.u,<- e5,qeb,<- e4,qeb,<- e3,qeb,<- e2,qeb,<- e1,qeb,HDe.u];simp[sb])
       have h5:T5.size<=120:=(by omega);subst er;subst ef;clear HL hfc;have HZr:Hi (∀W,Below wr.heap.size wr W->W.cell? ⟨rb,ro+rn*2,none⟩=some (.string rs)):=h_ fun W h=>(h.cell (p:=⟨rb,ro+rn*2,none⟩) hrb).trans zr;have HZf:Hi (∀W,Below wr.heap.size wr W->W.cell? ⟨fb,fo+kn*9,none⟩=some (.string fs)):=h_ fun W h=>(h.cell (p:=⟨fb,fo+kn*9,none⟩) hfb).trans zf;clear zr zf;obtain⟨y0,y1,y2,y3⟩:=quad HK1.u;go_wp2_with fail;clear y0 y1 y2 y3;refine wp_region_held_drew (S:=fun w'=>Blk w' w.heap.size 36 [.slice al m.L.length alc,.slice ap m.P.length apc,.slice (some ⟨rb,ro,none⟩) m.R.length arc,.slice (some ⟨fb,fo,none⟩) m.F.length afc]/\w'.cell? ⟨rb,ro+rn*2,none⟩=some (.string rs)/\w'.cell? ⟨fb,fo+kn*9,none⟩=some (.string fs)) (by kernel_rfl) ⟨HK1.u,HZr.u _ (bR _ _).drew,HZf.u _ (bR _ _).drew⟩ (fun zz=>?_);refine tj 0 28 (J6 i) zz ?_;refine tj 3 31 (J9 w.heap.size 2) zz ?_;refine tj 4 32 (.slice (some ⟨rb,ro,none⟩) m.R.length arc) zz ?_ (hy:=fun w hS=>by have q0:=(quad hS.1).2.2.1;simp[execOp,go_sem,q0]);refine tj 5 33 (J6 rn) zz ?_;simp only[sX,sY,sZ];refine tj 6 34 (.pointer (some ⟨rb,ro+rn*2,none⟩)) zz ?_;refine tj 7 35 (.pointer (some ⟨rb,ro+rn*2,none⟩)) zz ?_;refine tj 8 36 (.string rs) zz ?_ (hy:=fun w hS=>by have q0:=hS.2.1;simp[execOp,go_sem,q0]);refine tj 11 39 (J9 w.heap.size 3) zz ?_;simp only[sX,sY,sZ];refine tj 12 40 (.slice (some ⟨fb,fo,none⟩) m.F.length afc) zz ?_ (hy:=fun w hS=>by have q0:=(quad hS.1).2.2.2;simp[execOp,go_sem,q0]);refine tj 13 41 (J6 kn) zz ?_;refine tj 14 42 (.pointer (some ⟨fb,fo+kn*9,none⟩)) zz ?_;refine tj 15 43 (.pointer (some ⟨fb,fo+kn*9,none⟩)) zz ?_;simp only[sX,sY,sZ];refine tj 16 44 (.string fs) zz ?_ (hy:=fun w hS=>by have q0:=hS.2.2;simp[execOp,go_sem,q0]);simp only[sX,sY,sZ];refine callY (i:=1) (f:=40) (args:=#[J6 i]) (R:=fun u wz=>u=.string d/\Below wr.heap.size wr wz) 29 rfl rfl (by rfl) (by kernel_rfl) (by simp[execOp,go_sem]) ((HD.u wr.drew).mono fun e w6 ⟨he,hb⟩=>⟨_,he,rfl,q29 hb⟩) ?_;rintro u W1 ⟨rfl,hb⟩;replace HK1:=mB HK1 hb;replace HE1:=mB HE1 hb;replace HS1:=h_ (HS1.u.mono hb);replace HB1:=mT HB1 hb;replace HB0:=mT HB0 hb;replace zz:Blk W1 w.heap.size 36 [.slice al m.L.length alc,.slice ap m.P.length apc,.slice (some ⟨rb,ro,none⟩) m.R.length arc,.slice (some ⟨fb,fo,none⟩) m.F.length afc]/\W1.cell? ⟨rb,ro+rn*2,none⟩=some (.string rs)/\W1.cell? ⟨fb,fo+kn*9,none⟩=some (.string fs):=⟨HK1.u,HZr.u _ hb,HZf.u _ hb⟩;clear hb;refine⟨zz,?_⟩;simp only[sX,sY,sZ];refine tj 2 30 (.string T1) zz ?_ (hy:=fun w hS=>by have h:=run_string_add_sum (P:=Tryz.prog) w d ⟨#[32]⟩ (by omega);rw[e1]at h;simp[execOp,go_sem,h]);refine tj 9 37 (.string T2) zz ?_ (hy:=fun w hS=>by have h:=run_string_add_sum (P:=Tryz.prog) w T1 rs (by omega);rw[e2]at h;simp[execOp,go_sem,h]);refine tj 10 38 (.string T3) zz ?_ (hy:=fun w hS=>by have h:=run_string_add_sum (P:=Tryz.prog) w T2 ⟨#[32]⟩ (by omega);rw[e3]at h;simp[execOp,go_sem,h]);refine tj 17 45 (.string T4) zz ?_ (hy:=fun w hS=>by have h:=run_string_add_sum (P:=Tryz.prog) w T3 fs (by omega);rw[e4]at h;simp[execOp,go_sem,h]);simp only[sX,sY,sZ];refine tj 18 46 (.string T5) zz ?_ (hy:=fun w hS=>by have h:=run_string_add_sum (P:=Tryz.prog) w T4 ⟨#[32]⟩ (by omega);rw[e5]at h;simp[execOp,go_sem,h]);refine tj 19 10 (.string T5) zz ?_;simp only[sX,sY,sZ];refine wpAnyH_done (by kernel_rfl) ?_ _;clear zz e1 e2 e3 e4 e5 z1 z2 z3 z4 z5 HZr HZf hrb hfb hz1 hz2;have HBg:=h_ (q4a line T5 W1);go_wp2_with fail;refine HBg.u.mono ?_;rintro x W2 ⟨rfl,rfl⟩;clear HBg;cases hq:bgB line T5
       . have HX:=h_ (HN2.u (qoc (by rw[<- HT5.u];exact bg_no hq)))
         clear hq;go_wp2_with fail;go_roundw
         case rel=>first | exact⟨kn+1,by omega,by go_num,HX.u,HB0.u⟩ | ((repeat apply Exists.intro);exact⟨⟨kn+1,by omega,by go_num,HX.u,HB0.u⟩,rfl⟩)
         case measure=>simp[intOf];omega
       . replace hq:=bg_yes hq
         obtain⟨hq,hsz⟩:=hq;rw[HT5.u]at hq;have hsub:=qij line hsz;have htz:(line.extract T5.size line.size).size<=1048576:=(by rw[ByteArray.size_extract];omega);obtain⟨t,ht⟩:=Nq (line.extract T5.size line.size);rw[ht]at hq hsub htz;obtain⟨kd,n,tx,ok,hrv⟩:∃kd n tx ok,rv t=(kd,n,tx,ok):=⟨_,_,_,_,rfl⟩;have HQ:=h_ hq;have HRv:=h_ hrv;have HCr:=h_ (q4v t W2 (by omega) kd n tx ok hrv);have HTx:Hi (ok=true->tx.size<=9223372036854775807):=h_ fun h=>by
          subst h;have:=(qno hrv).2.2;omega
         clear hq ht hrv;go_wp2_with fail;refine HCr.u.mono ?_;rintro x W3 ⟨rfl,hb⟩;clear HCr hsub;have hb2:=((bR W3.heap.size W3).alloc (nR _) (.cells (Jk kd n tx) 50)).alloc (by simp) (.cells (Jh rn kn kd n tx) 52);replace hb:=hb.trans (hb2.mono hb.size);have HM:=h_ (Blk.new W3 50 (Jk kd n tx));have HN:=h_ (Blk.new (W3.alloc (.cells (Jk kd n tx) 50)) 52 (Jh rn kn kd n tx));rw[Yk]at HN;replace HK1:=mB HK1 hb;replace HE1:=mB HE1 hb;replace HS1:=h_ (HS1.u.mono hb);replace HB1:=mT HB1 hb;replace HB0:=mT HB0 hb;clear hb hb2;obtain⟨W4,hW4⟩:=Nq ((W3.alloc (.cells (Jk kd n tx) 50)).alloc (.cells (Jh rn kn kd n tx) 52));rw[hW4]at HK1 HE1 HS1 HB1 HB0 HN;obtain⟨m0,m1,m2⟩:=three HM.u;cases ok
         . have HX:=h_ (HN2.u (qje HV.u HQ.u HRv.u (fun h=>by cases h)))
           go_wp2_with (refine qb7 rfl 52 #[(0,.tmp 58),(1,.tmp 59),(2,.tmp 60)] rfl (Jh rn kn kd n tx) (by kernel_rfl) ?_)
           try rw[hW4]
           go_roundw
           case rel=>first | exact⟨kn+1,by omega,by go_num,HX.u,HB0.u⟩ | ((repeat apply Exists.intro);exact⟨⟨kn+1,by omega,by go_num,HX.u,HB0.u⟩,rfl⟩)
           case measure=>simp[intOf];omega
         . have HC2:=h_ (HCe.u ⟨rn,kn,⟨kd,n,tx⟩⟩ W4 (HTx.u rfl) HS1.u)
           dsimp only at HC2;obtain⟨q,hqe⟩:=Nq (entB m ⟨rn,kn,⟨kd,n,tx⟩⟩);have HQe:=h_ hqe;rw[hqe]at HC2;clear hqe;obtain⟨y0,y1,y2,y3⟩:=quad HK1.u;obtain⟨x0,x1,x2,x3,x4⟩:=five HN.u;go_wp2_with (refine qb7 rfl 52 #[(0,.tmp 58),(1,.tmp 59),(2,.tmp 60)] rfl (Jh rn kn kd n tx) (by kernel_rfl) ?_)
           try rw[hW4]
           refine HC2.u.mono ?_;rintro x W5 ⟨rfl,hb⟩;replace HN:=mB HN hb;replace HE1:=mB HE1 hb;replace HB1:=mT HB1 hb;replace HB0:=mT HB0 hb;clear hb HC2 y0 y1 y2 y3 x0 x1 x2 x3 x4 m0 m1 m2 hW4 HK1 HS1;cases q
           . have HX:=h_ (HN2.u (qje HV.u HQ.u HRv.u (fun _=>HQe.u)))
             go_wp2_with fail;go_roundw
             case rel=>first | exact⟨kn+1,by omega,by go_num,HX.u,HB0.u⟩ | ((repeat apply Exists.intro);exact⟨⟨kn+1,by omega,by go_num,HX.u,HB0.u⟩,rfl⟩)
             case measure=>simp[intOf];omega
           . have HX:=h_ (qjf HQ.u HRv.u HQe.u)
             have HB9:=h_ (HB1.u.trans ((qmu (lo:=w.heap.size+1) (hi:=w.heap.size+2) (g:=w.heap.size+1) W5 (Jh rn kn kd n tx) (by omega) (by omega)).below (Vg _) HB1.u.size));have HE9:=h_ (HE1.u.row [J6 rn,J6 kn,J6 kd,J6 n,.string tx]);obtain⟨x0,x1,x2,x3,x4⟩:=five HN.u;go_wp2_with (refine wpList_store_row rfl 52 (.tmp 6) (.tmp 68) rfl (w.heap.size+1) (Jh rn kn kd n tx) rfl rfl 52 Je HE1.u (by kernel_rfl) rfl (by simp[Value.oneCell']) ?_);clear x0 x1 x2 x3 x4;obtain⟨x0,x1,x2,x3,x4⟩:=five HE9.u;exact bodyPost_ret (v:=.tuple #[.agg (Jh rn kn kd n tx),.bool true]) (by simp[results,Tryz.results19,go_sem,x0,x1,x2,x3,x4]) rfl (UnO.of ⟨rn,kn,⟨kd,n,tx⟩⟩ true rfl HX.u HB9.u)
     . have hlk':=i_nlt hlk
       have HX:Hi (∀x,EntV m x->x.r.toNat<rn+1->bdB m x i≠sb line):=h_ fun x hx h=>by
        by_cases e:x.r.toNat=rn
        . exact HA2.u x hx e (by have:=(qca hx.1).2.1;omega)
        . exact HA1.u x hx (by omega)
       obtain⟨y0,y1,y2,y3⟩:=quad HK1.u;go_wp2_with fail;go_roundw
       case rel=>first | exact⟨rn+1,by omega,by go_num,HX.u,HB0.u⟩ | ((repeat apply Exists.intro);exact⟨⟨rn+1,by omega,by go_num,HX.u,HB0.u⟩,rfl⟩)
       case measure=>simp[intOf];omega
  . have hlt':=i_nlt hlt
    have HX:=h_ (qf3 fun x hx h=>HA1.u x hx (by omega));have HB1:=h_ (HB.u.trans (HBo.u.mono HB.u.size));have HB9:=h_ (HB1.u.trans ((qmu (lo:=w.heap.size+1) (hi:=w.heap.size+2) (g:=w.heap.size+1) wr Je (by omega) (by omega)).below (Vg _) HB1.u.size));have HE9:=h_ (HEo.u.row J4);go_wp2_with (refine wpList_store_row rfl 52 (.tmp 6) (.tmp 69) rfl (w.heap.size+1) Je rfl rfl 52 Je HEo.u (by kernel_rfl) rfl (by simp[Value.oneCell']) ?_);clear y0 y1 y2 y3;obtain⟨x0,x1,x2,x3,x4⟩:=five HE9.u;exact bodyPost_ret (v:=.tuple J3) (by simp[results,Tryz.results19,go_sem,x0,x1,x2,x3,x4]) rfl (UnO.of zE false rfl HX.u HB9.u)
theorem qmw {w:World}{base base' e size n:Nat}{v:Value}{xs:List Value}(h:w.ownsRow base e size v n xs)(hb:base'<=base):w.ownsRow base' e size v n xs:=by
 refine⟨h.1,?_⟩
 rcases h.2 with h2 | ⟨g,cap,cur,h1,hg,r⟩
 . exact .inl h2
 . exact .inr ⟨g,cap,cur,h1,Zf hb hg,r⟩
theorem q5r {o:Oper}{a:Act}{w:World}(ty:TypeId)(x y:Operand)(ho:o.op=.store ty x y)(g:Nat)(cells:Array Value)(hx:a.eval x=J9 g 0)(hy:a.eval y=.agg cells)(t:TypeId)(old:Array Value)(hg:w.heap[g]? = some (.cells old t (0,0)))(hi:(Tryz.prog.info? ty).map (·.size)=some cells.size)(hold:old.size=cells.size)(h1:cells.all (·.oneCell')=true):(execOp a.eval o).run Tryz.prog w=.ok .skip (w.setRow g cells):=by
 unfold execOp
 simp only[ho,hx,hy,Instr.storeAt,Instr.sureAddr,Sem.run_bind,Sem.run_pure,Result.andThen_ok,run_storeVar_row w g t ty old cells hg hi hold h1]
theorem qkq {m:Fm}{x:Ex}(h:EntV m x):FitE x:=by
 refine⟨?_,h.2⟩
 have ho:=(qca h.1).2.2
 unfold okVal at ho
 by_cases k0:x.v.k=0
 . rw[Yv k0]at ho;simp only[Yf,Yh]at ho;omega
 rw[Yn k0]at ho
 by_cases k1:x.v.k=1
 . rw[Yv k1]at ho;simp only[Yh]at ho;omega
 rw[Yn k1]at ho
 by_cases k2:x.v.k=2
 . rw[Yv k2]at ho;simp only[Yf,Yh]at ho;omega
 rw[Yn k2]at ho
 by_cases k3:x.v.k=3
 . rw[Yv k3]at ho;simp only[Yf,Yh]at ho
   have:=(q9w.1 ho.2).1;omega
 rw[Yn k3]at ho
 by_cases k4:x.v.k=4
 . rw[Yv k4]at ho;simp only[Yf,Yh]at ho;omega
 . rw[Yn k4]at ho;cases ho
theorem qfe {ops:Array Oper}{rest:List Oper}{o:Oper}{a:Act}{Q:Exit->Act->World->Prop}{w:World}(hgd:o.guard=.none)(s x:Operand)
 (ho:o.op=.call { callee:=.builtin .append,args:=#[s,x],argTypes:=#[29,29] }) {base:Nat} {v:Value} {l:List Ex} (hs:a.eval s=v) (hown:OwnE w base v l)
 {g:Nat} {y:Ex} (hx:a.eval x=.slice (some ⟨g,0,.none⟩) 1 1) (hc:Blk w g 52 (eC y)) (hl:l.length+1<=2097152) (hbase:base<=w.heap.size)
 (h:∀v' w',OwnE w' base v' (l++[y])->Below base w w'->wpList Tryz.prog ops Q rest (a.put o.dst v') w'):wpList Tryz.prog ops Q (o :: rest) a w:=by
 obtain⟨i0,hi,hz0,hz1,hz2⟩:=info_parts qgm
 refine wpList_append_own w hgd s x 29 ho base 52 i0 _ 5 48 Tryz.underlying29 hi hz0 hz1 hz2 rfl (by omega) _ _ _ hs hown ⟨g,0,.none⟩ 1 1 (eC y) hx rfl (fun j v hj=>by rw[show(⟨g,0,.none⟩:Addr).add j=⟨g,j,.none⟩ by simp[Addr.add];try exact fun h=>h.symm];exact(hc.cell j).trans hj) (by simp[eC,Value.oneCell']) (by unfold maxLen;omega) (by omega) hbase ?_
 intro v' W9 ho hgr _
 refine h v' W9 ?_ ((bR base w).grown hgr hbase (fun q e=>qa0 hown e))
 unfold OwnE entsV
 rw[Vl,Yd]
 simpa [entsV] using ho
theorem qah (m:Fm)(A:MA)(s:ByteArray)(w:World)(hS:∀W,MSl W m A->Calls Tryz.prog 17 #[mV m A] W fun x w'=>x=.returned (.bool false)/\Below W.heap.size W w')(ha:MSl w m A) :
 Calls Tryz.prog 5 #[mV m A,.string s] w fun x w'=>∃u,x=.returned (.tuple #[u,.bool false])/\OwnE w' w.heap.size u []/\Below w.heap.size w w':=by
 have HC0:=h_ hS
 obtain⟨al,alc,ap,apc,ar,arc,af,afc,afa⟩:=A
 unfold mV at HC0⊢
 dsimp only at HC0⊢
 have HO:=h_ (qmw (qa1 (w.alloc (.cells (Jb al m alc ap apc ar arc af afc) 36)) 52) (base':=w.heap.size) (by simp))
 have HK:=h_ ((Blk.new w 36 (Jb al m alc ap apc ar arc af afc)).alloc (.cells #[] 52))
 have HB:=h_ (((bR w.heap.size w).alloc (nR _) (.cells (Jb al m alc ap apc ar arc af afc) 36)).alloc (by simp) (.cells #[] 52))
 obtain⟨W0,hW0⟩:=Nq ((w.alloc (.cells (Jb al m alc ap apc ar arc af afc) 36)).alloc (.cells #[] 52))
 rw[Yk]at HO
 rw[hW0]at HK HB HO
 have HC:=h_ (HC0.u W0 (ha.mono HB.u))
 obtain⟨y0,y1,y2,y3⟩:=quad HK.u
 clear ha hS HC0
 go_enter Tryz.func5,Tryz.ntmps5
 go_wp2_with fail
 try rw[hW0]
 refine HC.u.mono ?_
 rintro x W1 ⟨rfl,hb⟩
 replace HB:=mT HB hb;replace HO:=h_ (qdv HO.u hb)
 clear hb hW0 y0 y1 y2 y3
 go_wp2_with fail
 go_ret2
 exact⟨_,rfl,HO.u,HB.u⟩
theorem cut_at {s:ByteArray}{l:List ByteArray}(h:l.map sb=cutL (sb s)){k:Nat}(hk:k<l.length):(cutL (sb s))[k]? = some (sb l[k]):=by
 rw[<- h,Zg,Yc hk]
 rfl
theorem cut_le (t:List UInt8){p:List UInt8}(h:p∈cutL t):p.length<=t.length:=by
 induction t generalizing p with
 | nil=>cases h
 | cons c t ih =>
  have h:p∈(if c=10 then [] :: cutL t else match cutL t with | []=>[[c]] | p :: ps=>(c :: p) :: ps):=h;by_cases hc:c=10
  . rw[Yv hc]at h
    rcases Zp.1 h with rfl | h
    . simp
    . have:=ih h;simp;omega
  . rw[Yn hc]at h
    cases hq:cutL t with
    | nil=>rw[hq]at h;rw[Zi.1 h];simp
    | cons q qs =>
     rw[hq]at h ih;rcases Zp.1 h with rfl | h
     . have:=ih Yq;simp;omega
     . have:=ih (Yy _ h);simp;omega
theorem cut_sz {s:ByteArray}{l:List ByteArray}(h:l.map sb=cutL (sb s)){k:Nat}(hk:k<l.length):l[k].size<=s.size:=by
 have:=cut_le (sb s) (Vy (cut_at h hk))
 rw[sb_len,sb_len]at this
 exact this
theorem qai (m:Fm)(A:MA)(s:ByteArray)(w:World)(hv:VfA m)(hs:s.size<=1048576)(hS:∀W,MSl W m A->Calls Tryz.prog 17 #[mV m A] W fun x w'=>x=.returned (.bool true)/\Below W.heap.size W w')(ha:MSl w m A) :
 Calls Tryz.prog 5 #[mV m A,.string s] w fun x w'=>DcO m s w x w':=by
 have HC0:=h_ hS;have HV:=h_ hv
 have HCu:=h_ fun (p:ByteArray) (i:Nat) W (h1:i<=4000) (h2:p.size<=1048576) (h:MSl W m A)=>q9h m A p i W hv h1 h2 h
 have HCn:=h_ fun (l:List Ex) (e':Nat->Ex) (a':Option Addr) (c':Nat) W (h1:l.length<=4000) (h2:∀k (h:k<l.length),e' k=l[k]) (h3:∀x,x∈l->entB m x=true/\FitE x) (h4:MSl W m A) (h5:Ents W a' l.length e')=>q6k m A l e' a' c' W hv h1 h2 h3 h4 h5
 obtain⟨al,alc,ap,apc,ar,arc,af,afc,afa⟩:=A
 unfold mV at HC0 HCu HCn⊢
 dsimp only at HC0 HCu HCn⊢
 have HO:=h_ (qmw (qa1 (w.alloc (.cells (Jb al m alc ap apc ar arc af afc) 36)) 52) (base':=w.heap.size) (by simp))
 have HK:=h_ ((Blk.new w 36 (Jb al m alc ap apc ar arc af afc)).alloc (.cells #[] 52))
 have HB:=h_ (((bR w.heap.size w).alloc (nR _) (.cells (Jb al m alc ap apc ar arc af afc) 36)).alloc (by simp) (.cells #[] 52))
 obtain⟨W0,hW0⟩:=Nq ((w.alloc (.cells (Jb al m alc ap apc ar arc af afc) 36)).alloc (.cells #[] 52))
 rw[Yk]at HO
 rw[hW0]at HK HB HO
 have HS:=h_ (ha.mono HB.u)
 have HC:=h_ (HC0.u W0 HS.u)
 obtain⟨y0,y1,y2,y3⟩:=quad HK.u
 clear ha hS HC0 hv
 go_enter Tryz.func5,Tryz.ntmps5
 go_wp2_with fail
 try rw[hW0]
 refine HC.u.mono ?_
 rintro x W1 ⟨rfl,hb⟩
 replace HK:=mB HK hb;replace HS:=h_ (HS.u.mono hb);replace HB:=mT HB hb;replace HO:=h_ (qdv HO.u hb)
 clear hb hW0 y0 y1 y2 y3 HC
 go_wp2_with fail
 refine(qd9 s W1 hs).mono ?_
 rintro x W2 ⟨v,l,rfl,hol,hcut,hb⟩
 replace HK:=mB HK hb;replace HS:=h_ (HS.u.mono hb);replace HB:=mT HB hb;replace HO:=h_ (qdv HO.u hb)
 obtain⟨sa,sc,rfl,-,hst⟩:=hol.strs
 have HSt:=h_ hst;have HCt:=h_ hcut
 have HLn:Hi ((cutL (sb s)).length=l.length):=h_ (by rw[<- hcut,Z6])
 clear hb hol hst hcut
 by_cases h4:(4000:Int)<l.length
 . have HX:=h_ (q8c HV.u (s:=s) (by rw[HLn.u];omega))
   go_wp2_with fail
   go_ret2
   exact DcO.of [] false rfl HX.u HO.u HB.u
 have h4':l.length<=4000:=by omega
 have HN0:=h_ (qa1 W2 52)
 have HNb:=h_ ((bR W2.heap.size W2).alloc (nR _) (.cells #[] 52))
 go_wp2_with fail
 go_loopw [8,9] (fun v i wr=>∃(k:Nat) (g:List Ex),k<=l.length/\i=J6 k/\PrL m s k g/\OwnE wr W2.heap.size v g/\Below W2.heap.size W2 wr) (fun _ i _=>l.length - (intOf i).toNat)
 case atStart=>exact⟨0,[],nZ _,rfl,PrL.nil m s,HN0.u,HNb.u⟩
 case round =>
  clear HN0 HNb;obtain⟨k,g,hk,rfl,hpr,hog,hb⟩:=hrel;have hgl:=hpr.1;have HPr:=h_ hpr;have HOg:=h_ hog;have HK1:=mB HK hb;have HS1:=h_ (HS.u.mono hb);have HB1:=mT HB hb;have HO1:=h_ (qdv HO.u hb);have HSt1:=h_ (HSt.u.mono hb);have HB0:=h_ hb;clear hpr hog hb;by_cases hlt:k<l.length
  . have hlt':=i_lt hlt
    obtain⟨lb,lo,esa,hlb,zl⟩:=HSt1.u k hlt;subst esa;have HAt:=h_ (cut_at HCt.u hlt);have hpz:=cut_sz HCt.u hlt;generalize l[k]=p at *;have HZl:Hi (∀W,Below wr.heap.size wr W->W.cell? ⟨lb,lo+k,none⟩=some (.string p)):=h_ fun W h=>(h.cell (p:=⟨lb,lo+k,none⟩) hlb).trans zl;clear zl;have hw:IntKind.i64.wrap ((k:Int)+1)=(k:Int)+1:=(by rw[IntKind.wrap_i64];omega);go_wp2_with fail;refine wp_region_held_drew (S:=fun w'=>Blk w' w.heap.size 36 [.slice al m.L.length alc,.slice ap m.P.length apc,.slice ar m.R.length arc,.slice af m.F.length afc]/\w'.cell? ⟨lb,lo+k,none⟩=some (.string p)) (by kernel_rfl) ⟨HK1.u,HZl.u _ (bR _ _).drew⟩ (fun zz=>?_);refine tj 0 31 (.agg (Jb al m alc ap apc ar arc af afc)) zz ?_ (hy:=fun w hS=>by obtain⟨q0,q1,q2,q3⟩:=quad hS.1;simp[execOp,go_sem,q0,q1,q2,q3]);refine tj 1 32 (.slice (some ⟨lb,lo,none⟩) l.length sc) zz ?_;refine tj 2 33 (J6 k) zz ?_;refine tj 3 34 (J9 lb (lo+k)) zz ?_;simp only[sX,sY,sZ];refine tj 4 35 (.string p) zz ?_ (hy:=fun w hS=>by have q0:=hS.2;simp[execOp,go_sem,q0]);refine tj 5 36 (J6 k) zz ?_;refine tj 6 37 (J6 ((k:Int)+1)) zz ?_ (hy:=fun w hS=>by simp[execOp,go_sem,hw]);simp only[sX,sY,sZ];have hVh:wr.drew.heap.size=wr.heap.size:=rfl;have hDr:Below wr.heap.size wr wr.drew:=(bR _ _).drew;have hK2:=HK1.u.mono hDr HK1.u.lt;have hS2:=HS1.u.mono hDr;obtain⟨V,hV⟩:=Nq wr.drew;rw[hV]at zz hVh hDr hK2 hS2⊢;have hba:=(bR V.heap.size V).alloc (nR _) (.cells Je 52);have hDa:Below wr.heap.size wr (V.alloc (.cells Je 52)):=hDr.trans (hba.mono hDr.size);have hHa:Blk (V.alloc (.cells Je 52)) w.heap.size 36 [.slice al m.L.length alc,.slice ap m.P.length apc,.slice ar m.R.length arc,.slice af m.F.length afc]/\(V.alloc (.cells Je 52)).cell? ⟨lb,lo+k,none⟩=some (.string p):=⟨HK1.u.mono hDa HK1.u.lt,HZl.u _ hDa⟩;have HC2:=h_ fun W h=>HCu.u p (k+1) W (by omega) (by omega) h;rw[show((k+1:Nat):Int)=(k:Int)+1 by omega]at HC2;clear hw;refine wpAnyH_ready (rs:=[7,11]) (by kernel_rfl) (by simp) (consCall (i:=7) (f:=19) (args:=#[.agg (Jb al m alc ap apc ar arc af afc),.string p,J6 ((k:Int)+1)]) (R:=fun v wz=>∃y ok,v=.tuple #[ev y,.bool ok]/\UnA m (sb p) (k+1) y ok/\Below wr.heap.size wr wz) 38 rfl rfl (by rfl) (by simp[execOp,go_sem]) ((HC2.u V hS2).mono fun e w6 ⟨y,ok,he,hu,hb⟩=>⟨_,he,y,ok,rfl,hu,hDr.trans (hb.mono hDr.size)⟩) ?pA (consRun (i:=11) (v:=J9 V.heap.size 0) (w':=V.alloc (.cells Je 52)) 10 rfl rfl (by rfl) (by simp[execOp,go_sem]) hHa ?pB AllReadyH.nil))
    case' pA =>
     rintro v W7 ⟨y,ok,rfl,hu,hb⟩;have hb7:=hb.trans ((bR W7.heap.size W7).alloc (nR _) (.cells Je 52) |>.mono hb.size);have hT:=Blk.new W7 52 Je;have hTl:wr.heap.size<=W7.heap.size:=hb.size;replace zz:Blk W7 w.heap.size 36 [.slice al m.L.length alc,.slice ap m.P.length apc,.slice ar m.R.length arc,.slice af m.F.length afc]/\W7.cell? ⟨lb,lo+k,none⟩=some (.string p):=⟨HK1.u.mono hb HK1.u.lt,HZl.u _ hb⟩;refine⟨zz,?_⟩;unfold ev;simp only[sX,sY,sZ];refine tj 8 30 (.tuple #[.agg (Jh y.r y.f y.v.k y.v.n y.v.s),.bool ok]) zz ?_;refine tj 9 39 (.agg (Jh y.r y.f y.v.k y.v.n y.v.s)) zz ?_;refine tj 10 40 (.bool ok) zz ?_;simp only[sX,sY,sZ];refine runY (i:=11) (v:=J9 W7.heap.size 0) (w':=W7.alloc (.cells Je 52)) 10 rfl rfl (by rfl) (by kernel_rfl) (by simp[execOp,go_sem]) ⟨HK1.u.mono hb7 HK1.u.lt,HZl.u _ hb7⟩ ?_;simp only[sX,sY,sZ];obtain⟨Vz,hVz⟩:=Nq (W7.alloc (.cells Je 52));rw[hVz]at hb7 hT⊢;obtain⟨T,hTe⟩:=Nq W7.heap.size;rw[hTe]at hT hTl⊢;clear hVz hTe hb
    case' pB =>
     simp only[sX,sY,sZ];refine callY (i:=7) (f:=19) (args:=#[.agg (Jb al m alc ap apc ar arc af afc),.string p,J6 ((k:Int)+1)]) (R:=fun v wz=>∃y ok,v=.tuple #[ev y,.bool ok]/\UnA m (sb p) (k+1) y ok/\Below wr.heap.size wr wz/\Blk wz V.heap.size 52 J4) 38 rfl rfl (by rfl) (by kernel_rfl) (by simp[execOp,go_sem]) ((HC2.u _ (HS1.u.mono hDa)).mono fun e w6 ⟨y,ok,he,hu,hb⟩=>⟨_,he,y,ok,rfl,hu,hDa.trans (hb.mono hDa.size),(Blk.new V 52 Je).mono hb (by simp)⟩) ?_;rintro v Vz ⟨y,ok,rfl,hu,hb7,hT⟩;replace zz:Blk Vz w.heap.size 36 [.slice al m.L.length alc,.slice ap m.P.length apc,.slice ar m.R.length arc,.slice af m.F.length afc]/\Vz.cell? ⟨lb,lo+k,none⟩=some (.string p):=⟨HK1.u.mono hb7 HK1.u.lt,HZl.u _ hb7⟩;have hTl:wr.heap.size<=V.heap.size:=hDr.size;refine⟨zz,?_⟩;unfold ev;simp only[sX,sY,sZ];refine tj 8 30 (.tuple #[.agg (Jh y.r y.f y.v.k y.v.n y.v.s),.bool ok]) zz ?_;refine tj 9 39 (.agg (Jh y.r y.f y.v.k y.v.n y.v.s)) zz ?_;refine tj 10 40 (.bool ok) zz ?_;simp only[sX,sY,sZ];obtain⟨T,hTe⟩:=Nq V.heap.size;rw[hTe]at hT hTl⊢;clear hTe
    all_goals
     have hb9:Below wr.heap.size wr (Vz.setRow T (Jh y.r y.f y.v.k y.v.n y.v.s)):=hb7.trans ((qmu (lo:=wr.heap.size) (hi:=T+1) (g:=T) Vz (Jh y.r y.f y.v.k y.v.n y.v.s) hTl (by omega)).below (nR _) hb7.size);have hT9:=hT.row [J6 y.r,J6 y.f,J6 y.v.k,J6 y.v.n,.string y.v.s];refine storeY (i:=12) (w':=Vz.setRow T (Jh y.r y.f y.v.k y.v.n y.v.s)) rfl (by rfl) (by kernel_rfl) rfl (q5r 52 (.tmp 10) (.tmp 39) rfl T _ rfl rfl 52 _ hT (by kernel_rfl) rfl (by simp[Value.oneCell'])) rfl ⟨HK1.u.mono hb9 HK1.u.lt,HZl.u _ hb9⟩ ?_;replace zz:Blk (Vz.setRow T (Jh y.r y.f y.v.k y.v.n y.v.s)) w.heap.size 36 [.slice al m.L.length alc,.slice ap m.P.length apc,.slice ar m.R.length arc,.slice af m.F.length afc]/\(Vz.setRow T (Jh y.r y.f y.v.k y.v.n y.v.s)).cell? ⟨lb,lo+k,none⟩=some (.string p):=⟨HK1.u.mono hb9 HK1.u.lt,HZl.u _ hb9⟩;refine tj 13 11 (.bool ok) zz ?_;simp only[sX,sY,sZ];refine wpAnyH_done (by kernel_rfl) ?_ _;generalize Vz.setRow T (Jh y.r y.f y.v.k y.v.n y.v.s)=W9 at *;have HB9:=mT HB1 hb9;have HB8:=mT HB0 hb9;have HO9:=h_ (qdv HO1.u hb9);have HOg9:=h_ (qdv HOg.u hb9);have HU:=h_ hu;obtain⟨t0,t1,t2,t3,t4⟩:=five hT9;clear zz hba hHa hDa hK2 hS2 hDr hVh hV hb7 hT hTl hb9 hT9 hu HC2 HB1 HB0 HO1 HOg;cases ok
     . have HX:=h_ (PrL.no HV.u HAt.u HU.u).2
       go_wp2_with fail
       go_ret2
       exact DcO.of [] false rfl HX.u HO9.u HB9.u
     . have HX:=h_ (HPr.u.snoc HAt.u HU.u)
       have HN:Hi (Blk _ _ 52 (eC y)):=h_ (Blk.new W9 52 (Jh y.r y.f y.v.k y.v.n y.v.s));have HSa:=h_ ((bR W9.heap.size W9).alloc (nR _) (.cells (Jh y.r y.f y.v.k y.v.n y.v.s) 52));go_wp2_with (at_builtin;refine qfe (y:=y) rfl _ _ rfl rfl (qdv HOg9.u HSa.u) rfl HN.u (by omega) (Zf HB8.u.size HSa.u.size) ?_);intro v' Wf ho hbf;have HOf:=h_ ho;have HBf:=h_ (HB8.u.trans ((HSa.u.mono HB8.u.size).trans hbf));clear ho hbf;go_wp2_with fail;go_roundw
       case rel=>first | exact⟨k+1,_,by omega,by go_num,HX.u,HOf.u,HBf.u⟩ | ((repeat apply Exists.intro);exact⟨⟨k+1,_,by omega,by go_num,HX.u,HOf.u,HBf.u⟩,rfl⟩)
       case measure=>simp[intOf];omega
  . obtain rfl:k=l.length:=by omega
    have hlt':¬ (l.length:Int)<(l.length:Int):=(by omega);have hsame:=HPr.u.same HLn.u h4';have HSm:=h_ hsame;obtain⟨ga,gc,eg,hen⟩:=q3k (fun j=>g.getD j ⟨0,0,⟨0,0,⟨#[]⟩⟩⟩) (fun j hj=>by rw[Yo,Yc hj];rfl) HOg.u;have HC5:=h_ (HCn.u g _ ga gc wr (by omega) (fun j hj=>by rw[Yo,Yc hj];rfl) (fun x hx=>⟨(HPr.u.2.1 x hx).1,qkq (HPr.u.2.1 x hx)⟩) HS1.u hen);have HOg2:=h_ HOg.u;subst eg;rw[hgl]at HC5;clear hsame hen;obtain⟨y0,y1,y2,y3⟩:=quad HK1.u;obtain⟨T,hT⟩:∃T:ByteArray,⟨(lnL m g).toArray⟩=T:=⟨_,rfl⟩;have HTe:Hi (sb T=lnL m g):=h_ (by rw[<- hT,sb_mk]);rw[hT]at HC5;clear hT;go_wp2_with fail;refine HC5.u.mono ?_;rintro x W5 ⟨rfl,hb⟩;have HB5:=mT HB1 hb;have HO5:=h_ (qdv HO1.u hb);have HG5:Hi (OwnE W5 w.heap.size (.slice ga l.length gc) g):=h_ (by rw[<- hgl];exact qmw (qdv HOg2.u hb) HB.u.size);clear hb y0 y1 y2 y3 HC5;by_cases hTs:T=s
    . have HX:=h_ (HSm.u.1 (by rw[<- HTe.u,hTs]))
      have hTs':(T.toList==s.toList)=true:=(by rw[hTs];exact str_t s);clear hTs;go_wp2_with fail
      go_ret2
      exact DcO.of g true rfl HX.u HG5.u HB5.u
    . have HX:=h_ (HSm.u.2 (by rw[<- HTe.u];exact fun h=>hTs (sb_inj h)))
      have hTs':=str_f hTs;clear hTs;go_wp2_with fail
      go_ret2
      exact DcO.of [] false rfl HX.u HO5.u HB5.u
end Go.Proofs.YtgojgjlninakjaaGreatDoor
